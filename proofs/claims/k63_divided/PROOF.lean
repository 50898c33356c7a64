import PyProof.Rows.All
import Wide.All
import OpenK.AllK
import Wide.FinOn
import Lean
import PyProof.EqAt
import PyProof.EqKinds
import PyProof.TupleCall
import KE.KIsAll
import KE.RegKIsAll
import PyProof.ExcArgsOwn
import PyProof.Rows.MinMaxN
import PyProof.Rows.CallKwBuiltin
import KE.KMinKey
import KE.KDictOf
import PyProof.AttrMissSeq
import KE.KSortAsk
import PySem.Challenge.RW_friezeyard_k63_divided
set_option compiler.extract_closed false
noncomputable section
open PySem.W (Frag Looks codeIn excIn hideAll hideAll_get hideAll_none keepIn kia_one kitOne mg_none_of mg_of mroIn nsIn of_hideAll)
set_option Elab.async false
set_option linter.all false
set_option maxRecDepth 100000
namespace L2
open PySem PySem.Spec PyProof.Rows
abbrev Key:=Sum Int Str
noncomputable def zdv:Key->Value->Bool
 | .inl k,v=>Value.isInt k v
 | .inr x,v=>Value.isStrOf x v
noncomputable def zyf (w:World):Key->Int
 | .inl k=>hashInt k
 | .inr x=>hashStr w x
theorem z13:∀{k:Key} {v:Value},zdv k v=true->(∃i t,k=Sum.inl i/\v=Value.int i t)\/(∃x t,k=Sum.inr x/\v=Value.str x t)
 | .inl i,v,h=>by
  obtain ⟨t,e⟩:=Value.isInt_shape (k:=i) (v:=v) h
  exact .inl ⟨i,t,rfl,e⟩
 | .inr x,v,h=>by
  obtain ⟨t,e⟩:=Value.isStrOf_shape (x:=x) (v:=v) h
  exact .inr ⟨x,t,rfl,e⟩
theorem zey (i:Int) (t:Tok):zdv (.inl i) (.int i t)=true:=by simp [zdv,Value.isInt]
theorem zez (x:Str) (t:Tok):zdv (.inr x) (.str x t)=true:=by simp [zdv,Value.isStrOf]
theorem zph (a b:Int):decide ((Sum.inl a:Key)=Sum.inl b)=(a==b):=by
 by_cases e:a=b
 . subst e;simp
 . have h:¬(Sum.inl a:Key)=Sum.inl b:=fun q=>e (Sum.inl.inj q)
   rw [decide_eq_false h]
   exact (beq_eq_false_iff_ne.mpr e).symm
theorem zpi (a b:Str):decide ((Sum.inr a:Key)=Sum.inr b)=decide (a=b):=by
 by_cases e:a=b
 . subst e;simp
 . have h:¬(Sum.inr a:Key)=Sum.inr b:=fun q=>e (Sum.inr.inj q)
   rw [decide_eq_false h,decide_eq_false e]
theorem zpj (a:Int) (b:Str):decide ((Sum.inl a:Key)=Sum.inr b)=false:=decide_eq_false (fun q=>nomatch q)
theorem zpk (a:Str) (b:Int):decide ((Sum.inr a:Key)=Sum.inl b)=false:=decide_eq_false (fun q=>nomatch q)
noncomputable def z30 (prog:Program) (w:World):PySem.KeyKind prog w Key where
 is:=zdv
 hash:=zyf w
 inj:=fun v a b ha hb=>by
  rcases z13 ha with ⟨i,t,rfl,rfl⟩ | ⟨x,t,rfl,rfl⟩
  . rcases z13 hb with ⟨j,u,rfl,e⟩ | ⟨y,u,rfl,e⟩
    . injection e with e1 _;rw [e1]
    . exact nomatch e
  . rcases z13 hb with ⟨j,u,rfl,e⟩ | ⟨y,u,rfl,e⟩
    . exact nomatch e
    . injection e with e1 _;rw [e1]
 byValue:=fun k v h=>by
  rcases z13 h with ⟨i,t,rfl,rfl⟩ | ⟨x,t,rfl,rfl⟩<;>rfl
 pyHash:=fun hv h=>by
  rcases z13 hv with ⟨i,t,rfl,rfl⟩ | ⟨x,t,rfl,rfl⟩
  . exact wpAny_pyHash_int h
  . exact wpAny_pyHash_str h
 eqBool:=fun hu hv h=>by
  rcases z13 hu with ⟨i,t,rfl,rfl⟩ | ⟨x,t,rfl,rfl⟩
  . rcases z13 hv with ⟨j,u,rfl,rfl⟩ | ⟨y,u,rfl,rfl⟩
    . rw [zph] at h;exact wpAny_eqBool_int h
    . rw [zpj] at h;exact SeqAt.EqAt.int_str i t y u _ _ _ _ h
  . rcases z13 hv with ⟨j,u,rfl,rfl⟩ | ⟨y,u,rfl,rfl⟩
    . rw [zpk] at h;exact SeqAt.EqAt.str_int x t j u _ _ _ _ h
    . rw [zpi] at h;exact wpAny_eqBool_str h
 «strs»:=fun k x t v h=>by
  rcases z13 h with ⟨i,u,rfl,e⟩ | ⟨y,u,rfl,e⟩
  . exact nomatch e
  . injection e with e1 _
    subst e1
    cases v<;>rfl
theorem zay (prog:Program) (w:World) (i:Int) (t:Tok):(z30 prog w).is (.inl i) (.int i t)=true:=zey i t
theorem zaz (prog:Program) (w:World) (x:Str) (t:Tok):(z30 prog w).is (.inr x) (.str x t)=true:=zez x t
inductive V where
 | non | bl (b:Bool) | int (i:Int) | str (x:Str) | byt (b:Array UInt8) | flt (b:UInt64) | ref (a:Addr) | ty (n:String)
 deriving DecidableEq
def RelV:V->Value->Prop
 | .non,u=>u=Value.none
 | .bl b,u=>u=Value.bool b
 | .int i,u=>∃t,u=Value.int i t
 | .str x,u=>∃t,u=Value.str x t
 | .byt b,u=>∃t,u=Value.bytes b t
 | .flt b,u=>∃t,u=Value.float b t
 | .ref a,u=>u=Value.ref a
 | .ty n,u=>u=Value.type n
abbrev Vals:List V->List Value->Prop:=Paired RelV
theorem Vals.length {xs:List V} {us:List Value} (r:Vals xs us):xs.length=us.length:=Paired.length r
theorem Vals.get:∀{xs:List V} {us:List Value} {i:Nat} {x:V},Vals xs us->xs[i]?=some x->∃u,us[i]?=some u/\RelV x u
 | _,_,_,_,.nil,e=>by simp at e
 | _,_,0,_,.cons r _,e=>by simp at e;subst e;exact ⟨_,rfl,r⟩
 | _,_,i+1,x,.cons _ t,e=>by
  obtain ⟨u,h1,h2⟩:=Vals.get (i:=i) (x:=x) t (by simpa using e)
  exact ⟨u,by simpa using h1,h2⟩
theorem Vals.set {x:V} {u:Value} (r:RelV x u):∀{xs:List V} {us:List Value} (i:Nat),Vals xs us->Vals (xs.set i x) (us.set i u)
 | _,_,_,.nil=>.nil
 | _,_,0,.cons _ t=>.cons r t
 | _,_,i+1,.cons q t=>.cons q (Vals.set r i t)
theorem Vals.append:∀{xs ys:List V} {us ws:List Value},Vals xs us->Vals ys ws->Vals (xs++ys) (us++ws)
 | _,_,_,_,.nil,s=>s
 | _,_,_,_,.cons r t,s=>.cons r (Vals.append t s)
theorem Vals.take:∀{xs:List V} {us:List Value} (n:Nat),Vals xs us->Vals (xs.take n) (us.take n)
 | _,_,0,_=>.nil
 | _,_,_+1,.nil=>.nil
 | _,_,n+1,.cons r t=>.cons r (Vals.take n t)
theorem Vals.drop:∀{xs:List V} {us:List Value} (n:Nat),Vals xs us->Vals (xs.drop n) (us.drop n)
 | _,_,0,r=>r
 | _,_,_+1,.nil=>.nil
 | _,_,n+1,.cons _ t=>Vals.drop n t
def RelO:Option V->Option Value->Prop
 | some v,some u=>RelV v u
 | none,none=>True
 | _,_=>False
def KV {κ:Type}:List (κ×V)->List (κ×Value)->Prop:=Paired fun (p:κ×V) (q:κ×Value)=>p.1=q.1/\RelV p.2 q.2
noncomputable def kV:Key->V
 | .inl i=>.int i
 | .inr x=>.str x
inductive HO where
 /-- a list -/
 | lst (xs:List V)
 /-- a tuple (never changes) -/
 | tup (xs:List V)
 /-- a dict whose keys are ints and texts;one whose keys are tuples of ints and texts (the empty one is both) -/
 | dK (kvs:List (Key×V)) | dT (kvs:List (List Key×V))
 /-- a set of ints: its members,its size -/
 | set (S:Int->Bool) (n:Nat)
 /-- an instance of the class at C,its dict at dx,its attributes -/
 | ins (C dx:Addr) (fs:List (Str×V))
 /-- the dict of the instance at x -/
 | own (x:Addr)
 /-- the dict of an exception -/
 | xd (fs:List (Str×V))
 /-- a bound method,f of x -/
 | met (f x:Addr)
 /-- a range object lo,lo+1,.. below hi -/
 | rng (lo hi:Int)
 /-- a thing that is known to the object (the script;a dict while a loop walks it): read,never written while it is so -/
 | frz (o:Obj) (u:HO)
 /-- a code object's table -/
 | tbl (ps:Array Value)
 /-- any other thing,by what is true of its one object (a def of one's own: SetO a S n:=HO.ext fun h=>..) -/
 | ext (φ:Heap->Prop)
abbrev Hp:=Addr->Option HO
noncomputable def upd (H:Hp) (a:Addr) (o:HO):Hp:=fun b=>if b=a then some o else H b
theorem z0w {H:Hp} {a:Addr} {o:HO}:upd H a o a=some o:=by unfold upd;rw [if_pos rfl]
theorem z0d {H:Hp} {a b:Addr} {o:HO} (h:b≠a):upd H a o b=H b:=by unfold upd;rw [if_neg h]
theorem z0g {H:Hp} {a b:Addr} {o:HO} (h:H a=some o) (h':H b=none):a≠b:=by
 intro e;subst e;rw [h] at h';cases h'
section
variable (P:Program) (w:World)
def ObjOk (H:Hp) (h:Heap) (a:Addr):HO->Prop
 | .lst xs=>xs.length<=sizeLine/\∃(its:List Value) (n:Nat),Vals xs its/\h.get? a=some { cls:=.type "list",data:=.seq its.toArray n }
 | .tup xs=>xs.length<=sizeLine/\∃its:List Value,Vals xs its/\IsTup h a its.toArray
 | .dK kvs=>kvs.length<=sizeLine/\(a==sysModules)=false/\∃vs,KV kvs vs/\h.DictOf (z30 P w) a vs
 | .dT kvs=>kvs.length<=sizeLine/\(a==sysModules)=false/\∃xs:List (List Key×Addr×Value),
  Paired (fun (p:List Key×V) (q:List Key×Addr×Value)=>p.1=q.1/\H q.2.1=some (.tup (p.1.map kV))/\RelV p.2 q.2.2) kvs xs /\
  ∃o es ep,h.get? a=some o/\o.ExactDict/\o.data=.dict es ep/\es.toList=xs.map (entryOfKey (tupleKind (z30 P w)))/\(xs.map (·.1)).Nodup
 | .set S n=>h.SetOf (intKind P w) a S n
 | .ins C dx fs=>H dx=some (.own a)/\fs.length<=1000/\dx≠a/\h.get? a=some (PySem.W.instObj C dx) /\
  ∃mA,h.Ns1 dx mA/\(∀f,RelO (fs.lookup f) (mA f))/\PySem.Within mA (fs.map (·.1))
 | .own _=>∃o,h.get? a=some o
 | .xd fs=>∃mA,h.Ns1 a mA/\∀f,RelO (fs.lookup f) (mA f)
 | .rng lo hi=>∃t u v,h.get? a=some { cls:=.type "range",data:=.fields #[.int lo t,.int hi u,.int 1 v] }
 | .frz o u=>h.get? a=some o/\ObjOk H h a u
 | .tbl ps=>h.get? a=some { cls:=.none,data:=.fields ps }
 | .met f x=>h.get? a=some (PySem.W.methodObj (.ref f) (.ref x))
 | .ext φ=>φ h/\(∃o,h.get? a=some o)/\∀h1 h2:Heap,φ h1->(∀o,h1.get? a=some o->h2.get? a=some o)->φ h2
def HOk (H:Hp) (h:Heap):Prop:=∀a o,H a=some o->ObjOk P w H h a o
end
section
variable {P:Program} {w:World} {H H':Hp} {h h':Heap} {a:Addr} {o:HO}
theorem ObjOk.lt (x:ObjOk P w H h a o):a<h.objs.size:=by
 cases o with
 | lst xs=>obtain ⟨_,_,_,_,e⟩:=x;exact Heap.lt_size e
 | tup xs=>obtain ⟨_,_,_,p⟩:=x;exact p.lt
 | dK kvs=>obtain ⟨_,_,_,_,o,_,_,e,_⟩:=x;exact Heap.lt_size e
 | dT kvs=>obtain ⟨_,_,_,_,o,_,_,e,_⟩:=x;exact Heap.lt_size e
 | set S n=>obtain ⟨o,_,_,_,e,_⟩:=x;exact Heap.lt_size e
 | ins C dx fs=>obtain ⟨_,_,_,e,_⟩:=x;exact Heap.lt_size e
 | own y=>obtain ⟨_,e⟩:=x;exact Heap.lt_size e
 | xd fs=>obtain ⟨_,⟨_,_,_,e,_⟩,_⟩:=x;exact Heap.lt_size e
 | rng lo hi=>obtain ⟨_,_,_,e⟩:=x;exact Heap.lt_size e
 | frz ob u=>obtain ⟨e,_⟩:=x;exact Heap.lt_size e
 | tbl ps=>exact Heap.lt_size (show h.get? a=some _ from x)
 | met f y=>exact Heap.lt_size (show h.get? a=some _ from x)
 | ext φ=>obtain ⟨_,⟨_,e⟩,_⟩:=x;exact Heap.lt_size e
theorem Paired.mapP {α β:Type} {F G:α->β->Prop}:∀{l₁:List α} {l₂:List β},Paired F l₁ l₂->(∀a b,F a b->G a b)->Paired G l₁ l₂
 | _,_,.nil,_=>.nil
 | _,_,.cons r t,f=>.cons (f _ _ r) (Paired.mapP t f)
theorem ObjOk.stay (x:ObjOk P w H h a o) (k:∀b u,(b=a\/H b=some (.own a))->h.get? b=some u->h'.get? b=some u)
  (ho:∀b,H b=some (.own a)->H' b=some (.own a)) (ht:∀b xs,H b=some (.tup xs)->H' b=some (.tup xs)):ObjOk P w H' h' a o:=by
 induction o with
 | lst xs=>obtain ⟨z,its,n,r,e⟩:=x;exact ⟨z,its,n,r,k _ _ (.inl rfl) e⟩
 | tup xs=>obtain ⟨z,its,r,ob,e,c⟩:=x;exact ⟨z,its,r,ob,k _ _ (.inl rfl) e,c⟩
 | dK kvs=>obtain ⟨z,y,vs,r,ob,es,ep,e,c⟩:=x;exact ⟨z,y,vs,r,ob,es,ep,k _ _ (.inl rfl) e,c⟩
 | dT kvs=>
  obtain ⟨z,y,xs,r,ob,es,ep,e,c⟩:=x
  exact ⟨z,y,xs,Paired.mapP r fun p q z=>⟨z.1,ht _ _ z.2.1,z.2.2⟩,ob,es,ep,k _ _ (.inl rfl) e,c⟩
 | set S n=>obtain ⟨ob,es,ep,t,e,c⟩:=x;exact ⟨ob,es,ep,t,k _ _ (.inl rfl) e,c⟩
 | ins C dx fs=>
  obtain ⟨d,z,ne,e,mA,⟨od,es,ep,e2,c⟩,r⟩:=x
  exact ⟨ho _ d,z,ne,k _ _ (.inl rfl) e,mA,⟨od,es,ep,k _ _ (.inr d) e2,c⟩,r⟩
 | own y=>obtain ⟨ob,e⟩:=x;exact ⟨ob,k _ _ (.inl rfl) e⟩
 | xd fs=>obtain ⟨mA,⟨od,es,ep,e,c⟩,r⟩:=x;exact ⟨mA,⟨od,es,ep,k _ _ (.inl rfl) e,c⟩,r⟩
 | rng lo hi=>obtain ⟨t,u,v,e⟩:=x;exact ⟨t,u,v,k _ _ (.inl rfl) e⟩
 | frz ob u ih=>obtain ⟨e,q⟩:=x;exact ⟨k _ _ (.inl rfl) e,ih q⟩
 | tbl ps=>
  have e:h.get? a=some { cls:=.none,data:=.fields ps }:=x
  show h'.get? a=some { cls:=.none,data:=.fields ps }
  exact k a _ (.inl rfl) e
 | met f y=>
  have e:h.get? a=some (PySem.W.methodObj (.ref f) (.ref y)):=x
  show h'.get? a=some (PySem.W.methodObj (.ref f) (.ref y))
  exact k a _ (.inl rfl) e
 | ext φ=>obtain ⟨p,⟨o,e⟩,st⟩:=x;exact ⟨st _ _ p fun o q=>k _ _ (.inl rfl) q,⟨o,k _ _ (.inl rfl) e⟩,st⟩
theorem HOk.lt (x:HOk P w H h) (e:H a=some o):a<h.objs.size:=(x a o e).lt
theorem HOk.fresh (x:HOk P w H h) (e:h.objs.size<=a):H a=none:=by
 cases q:H a with
 | none=>rfl
 | some u=>exact absurd (Nat.lt_of_lt_of_le (x.lt q) e) (Nat.lt_irrefl _)
theorem HOk.kept (x:HOk P w H h) (k:∀b u,h.get? b=some u->h'.get? b=some u):HOk P w H h':=fun a o e=>
 (x a o e).stay (fun b u _ q=>k b u q) (fun _ q=>q) fun _ _ q=>q
theorem HOk.laid (x:HOk P w H h) (k:∀b u,h.get? b=some u->h'.get? b=some u) (hp:h.objs.size<=a) (new:ObjOk P w (upd H a o) h' a o):HOk P w (upd H a o) h':=fun b u e=>by
 have hn:=x.fresh hp
 by_cases hb:b=a
 . subst hb;rw [z0w] at e;cases e;exact new
 . rw [z0d hb] at e
   exact (x b u e).stay (fun c v _ q=>k c v q) (fun c q=>by rw [z0d (z0g q hn)];exact q) fun c xs q=>by rw [z0d (z0g q hn)];exact q
end
def Rd (H:Hp) (a:Addr) (u:HO):Prop:=H a=some u\/∃o,H a=some (.frz o u)
theorem Rd.of {H:Hp} {a:Addr} {u:HO} (h:H a=some u):Rd H a u:=.inl h
theorem Rd.ok {P:Program} {w:World} {H:Hp} {h:Heap} {a:Addr} {u:HO} (r:Rd H a u) (x:HOk P w H h):ObjOk P w H h a u:=by
 rcases r with r | ⟨o,r⟩
 . exact x a u r
 . obtain ⟨_,q⟩:=x a _ r
   exact q
def Mut:Option HO->Prop
 | some (.lst _)=>True
 | some (.dK _)=>True
 | some (.dT _)=>True
 | some (.set _ _)=>True
 | some (.ins _ _ _)=>True
 | some (.ext _)=>True
 | _=>False
section
variable {P:Program} {w:World} {H:Hp} {h h':Heap} {x e:Addr} {o':HO}
theorem HOk.write (ok:HOk P w H h) (mu:Mut (H x)) (he:e=x\/H e=some (.own x)) (k:∀b u,b≠e->h.get? b=some u->h'.get? b=some u) (heo:∃u,h'.get? e=some u)
  (new:ObjOk P w (upd H x o') h' x o'):HOk P w (upd H x o') h':=fun b u q=>by
 have nown:∀c y,H c=some (.own y)->c≠x:=fun c y r z=>by subst z;rw [r] at mu;exact mu
 have ntup:∀c xs,H c=some (.tup xs)->c≠x:=fun c xs r z=>by subst z;rw [r] at mu;exact mu
 by_cases hb:b=x
 . subst hb;rw [z0w] at q;cases q;exact new
 . rw [z0d hb] at q
   by_cases hbe:b=e
   . have q':H b=some (.own x):=by
      rcases he with z | z
      . exact absurd (hbe.trans z) hb
      . rw [hbe];exact z
     rw [q] at q';cases q'
     obtain ⟨v,hv⟩:=heo
     exact ⟨v,by rw [hbe];exact hv⟩
   . refine (ok b u q).stay (fun c v hc r=>k c v ?_ r) (fun c r=>by rw [z0d (nown c b r)];exact r) fun c xs r=>by rw [z0d (ntup c xs r)];exact r
     rcases hc with rfl | hc
     . exact hbe
     . rintro rfl
       rcases he with z | z
       . exact nown c b hc z
       . rw [hc] at z;cases z;exact hb rfl
end
structure Un (fs ex:List Addr) (H H':Hp) (h h':Heap):Prop where
 keep:∀b o,h.get? b=some o->H b=none->b∉fs->b∉ex->h'.get? b=some o
 slot:∀b o,h.get? b=some o->H b=none->b∈fs->b∉ex->∃sl,h'.get? b=some { o with slots:=sl }
 free:∀b o,h.get? b=some o->H b=none->b∉ex->H' b=none
 there:∀b o,h.get? b=some o->b∉ex->∃o',h'.get? b=some o'
 tups:∀b xs,H b=some (.tup xs)->H' b=some (.tup xs)
 frzs:∀b o u,H b=some (.frz o u)->H' b=some (.frz o u)
 tbls:∀b ps,H b=some (.tbl ps)->∃more,H' b=some (.tbl (ps++more))
section
variable {fs fs' ex ex':List Addr} {H H1 H2:Hp} {h h1 h2 h':Heap} {a x e:Addr} {o:HO}
theorem Un.any (u:Un fs ex H H1 h h1) {b:Addr} {ob:Obj} (q:h.get? b=some ob) (n:H b=none) (hx:b∉ex):∃sl,h1.get? b=some { ob with slots:=sl }:=by
 by_cases hb:b∈fs
 . exact u.slot b ob q n hb hx
 . exact ⟨ob.slots,u.keep b ob q n hb hx⟩
theorem Un.kept (k:∀b u,h.get? b=some u->h'.get? b=some u):Un fs ex H H h h':=
 ⟨fun b ob q _ _ _=>k b ob q,fun b ob q _ _ _=>⟨ob.slots,k b ob q⟩,fun _ _ _ n _=>n,fun b ob q _=>⟨ob,k b ob q⟩,fun _ _ q=>q,fun _ _ _ q=>q,fun _ ps q=>⟨#[],by rw [q];simp⟩⟩
theorem Un.refl:Un fs ex H H h h:=Un.kept fun _ _ q=>q
theorem Un.laid (k:∀b u,h.get? b=some u->h'.get? b=some u) (hp:h.objs.size<=a) (hn:H a=none):Un fs ex H (upd H a o) h h' where
 keep:=fun b u q _ _ _=>k b u q
 slot:=fun b u q _ _ _=>⟨u.slots,k b u q⟩
 free:=fun b u q n _=>by rw [z0d (Nat.ne_of_lt (Nat.lt_of_lt_of_le (Heap.lt_size q) hp))];exact n
 there:=fun b u q _=>⟨u,k b u q⟩
 tups:=fun b xs q=>by rw [z0d (z0g q hn)];exact q
 frzs:=fun b u xs q=>by rw [z0d (z0g q hn)];exact q
 tbls:=fun b ps q=>⟨#[],by rw [z0d (z0g q hn),q];simp⟩
theorem Un.write (mu:Mut (H x)) (he:e=x\/H e=some (.own x)) (k:∀b u,b≠e->h.get? b=some u->h'.get? b=some u) (heo:∃u,h'.get? e=some u):Un fs ex H (upd H x o) h h':=by
 have hx:∀b,H b=none->b≠x:=fun b n z=>by subst z;rw [n] at mu;exact mu
 have hb:∀b,H b=none->b≠e:=fun b n z=>by
  subst z
  rcases he with r | r
  . exact hx b n r
  . rw [n] at r;cases r
 have hm:∀b u,H b=some u->¬Mut (some u)->b≠x:=fun b u q nm z=>by subst z;rw [q] at mu;exact nm mu
 refine ⟨fun b u q n _ _=>k b u (hb b n) q,fun b u q n _ _=>⟨u.slots,k b u (hb b n) q⟩,fun b u q n _=>by rw [z0d (hx b n)];exact n,fun b u q _=>?_,
  fun b xs q=>by rw [z0d (hm b _ q fun z=>z)];exact q,fun b u xs q=>by rw [z0d (hm b _ q fun z=>z)];exact q,fun b ps q=>⟨#[],by rw [z0d (hm b _ q fun z=>z),q];simp⟩⟩
 by_cases hbe:b=e
 . subst hbe;exact heo
 . exact ⟨u,k b u hbe q⟩
end
noncomputable def trk (h:Heap) (H:Hp):List Addr:=(List.range h.objs.size).filter fun a=>(H a).isSome
noncomputable def zik (h:Heap) (H:Hp):Heap:=hideAll h (trk h H)
theorem zf0 (h:Heap) (H:Hp):(zik h H).objs.size=h.objs.size:=PySem.W.hideAll_size _ _
theorem zil {h:Heap} {H:Hp} {b:Addr} {o:Obj} (e:h.get? b=some o) (n:H b=none):(zik h H).get? b=some o:=
 hideAll_get _ e fun hm=>by
  have q:(H b).isSome=true:=(List.mem_filter.mp hm).2
  rw [n] at q;simp at q
theorem zm6 {h:Heap} {H:Hp} {b:Addr} {o:Obj} (e:(zik h H).get? b=some o):h.get? b=some o/\H b=none:=by
 have e':h.get? b=some o:=of_hideAll (trk h H) e
 refine ⟨e',?_⟩
 cases q:H b with
 | none=>rfl
 | some x=>
  have hm:b∈trk h H:=List.mem_filter.mpr ⟨List.mem_range.mpr (Heap.lt_size e'),by simp [q]⟩
  have z:(zik h H).get? b=none:=hideAll_none (trk h H) hm
  rw [z] at e;cases e
noncomputable def z6j (g h:Heap) (L:Addr):List (Addr×Obj):=(List.range h.objs.size).filterMap fun a=>if a=L\/(g.get? a).isSome=true then none else (h.get? a).map fun o=>(a,o)
theorem zb0 {g h:Heap} {L a:Addr} {o:Obj} (h1:a≠L) (h2:g.get? a=none) (h3:h.get? a=some o):(a,o)∈z6j g h L:=
 List.mem_filterMap.mpr ⟨a,List.mem_range.mpr (Heap.lt_size h3),by simp [h1,h2,h3]⟩
theorem z7k {g h:Heap} {L:Addr} {p:Addr×Obj} (hp:p∈z6j g h L):p.1≠L/\g.get? p.1=none/\h.get? p.1=some p.2:=by
 obtain ⟨b,_,e⟩:=List.mem_filterMap.mp hp
 split at e
 . cases e
 . rename_i hn
   cases q:h.get? b with
   | none=>rw [q] at e;simp at e
   | some u=>
    rw [q] at e
    simp only [Option.map_some,Option.some.injEq] at e
    subst e
    refine ⟨fun z=>hn (.inl z),?_,q⟩
    show g.get? b=none
    cases r:g.get? b with
    | none=>rfl
    | some v=>exact (hn (.inr (by simp [r]))).elim
noncomputable def rest (g h:Heap) (L d:Addr):List (Addr×Obj):=(z6j g h L).filter fun p=>decide (p.1≠d)
theorem zce {g h:Heap} {L:Addr}:News g L h (z6j g h L):=fun p hp=>let ⟨a,b,c⟩:=z7k hp;⟨c,a,b⟩
structure Mod (K:Frag) (mg:Str->Option Value) (base:Heap):Prop where
 kin:K.In base
 glob:base.Ns mainGlobals mg
 blt:∃mb,base.Ns builtinsNs mb/\∀x:Str,x≠"__name__"->mb x=bootBuiltins x
 nolimit:base.NoLimit
structure Cx where
 prog:Program
 w:World
 K:Frag
 mg:Str->Option Value
 base:Heap
 A:Around
 N:List Str
 s₀:Shared
 H₀:Hp
 env:Env
 outer:List Env
 stack:List Env
 ex:List Addr
 fn:Str->Bool
 calm:Bool
 pn:List (Addr×Obj)
 xe:Value->Shared->Prop
noncomputable def frs (l:List Env):List Addr:=l.filterMap (·.frame)
abbrev Cx.fs (X:Cx):List Addr:=frs X.outer
def Vis (sc:Scope) (x:Str):Prop:=sc.names.lookup x=some .local\/sc.names.lookup x=some .cell\/sc.names.lookup x=some .free
def Loc (sc:Scope) (x:Str):Prop:=sc.names.lookup x=some .local\/sc.names.lookup x=some .cell
def zyg (env:Env) (h:Heap) (m:Str->Option Value) (x:Str) (u:Value):Prop:=
 (env.kindOf x=some .local/\m x=some u)\/((env.kindOf x=some .cell\/env.kindOf x=some .free)/\∃c,env.cells.lookup x=some c/\h.IsCell c (some u))
structure Cx.Ok (X:Cx):Prop where
 mod:Mod X.K X.mg X.base
 kind:X.env.scope.kind=.function
 glob:X.env.globals=mainGlobals
 blt:X.env.builtins=builtinsNs
 above:X.s₀.heap.objs.size<=X.env.locals
 inj:∀x y c,X.env.cells.lookup x=some c->X.env.cells.lookup y=some c->x=y
 has:∀x,(X.env.kindOf x=some .cell\/X.env.kindOf x=some .free)->∃c,X.env.cells.lookup x=some c
 cab:∀x c,X.fn x=true->X.env.cells.lookup x=some c->X.s₀.heap.objs.size<=c
 hd:X.calm=true->X.A.handled=none
 frames:X.A.frames=some X.stack
 stk:X.stack=X.outer\/(X.stack=X.env::X.outer/\X.env.frame=some X.env.locals)
 exf:∀b∈X.ex,b≠X.env.locals/\∀x c,X.env.cells.lookup x=some c->c≠b
 bs:∀b o,X.base.get? b=some o->X.s₀.heap.get? b=some o/\X.H₀ b=none
 bsz:X.base.objs.size<=X.s₀.heap.objs.size
 noex:∀b o,X.base.get? b=some o->b∉X.ex
 exfs:∀b∈X.ex,b∉X.fs
 funs:X.s₀.heap.FunFrames X.base X.outer
 frf:∀b∈X.fs,X.H₀ b=none
structure Inv (X:Cx) (pins:List (Addr×Obj)) (U:List (Option V)) (H:Hp) (s:Shared):Prop where
 ok:X.Ok
 os:s.os=X.s₀.os
 bare:AllBare s.gens
 base:Un X.fs X.ex X.H₀ H X.s₀.heap s.heap
 loc:∃m,s.heap.Ns X.env.locals m/\∀(i:Nat) (x:Str) (v:V),X.N[i]?=some x->U[i]?=some (some v)->Vis X.env.scope x->∃u,RelV v u/\zyg X.env s.heap m x u
 cell:∀x c,X.env.cells.lookup x=some c->∃v,s.heap.IsCell c v
 free:H X.env.locals=none
 freeC:∀x c,X.env.cells.lookup x=some c->H c=none
 pin:∀p∈X.pn++pins,s.heap.get? p.1=some p.2/\H p.1=none/\p.1≠X.env.locals/\p.1∉X.fs/\∀v,p.2.data≠.cell v
 hok:HOk X.prog X.w H s.heap
 len:U.length=X.N.length
section
variable {X:Cx} {pins:List (Addr×Obj)} {U:List (Option V)} {H H':Hp} {s:Shared} {h':Heap}
theorem Cx.Ok.nofr (ok:X.Ok) {b:Addr} {o:Obj} (e:X.base.get? b=some o):b∉X.fs:=fun hb=>by
 have:=(ok.funs.mem hb).1
 rw [e] at this;cases this
theorem Inv.bs (I:Inv X pins U H s):∀b o,X.base.get? b=some o->s.heap.get? b=some o/\H b=none:=fun b o e=>
 ⟨I.base.keep b o (I.ok.bs b o e).1 (I.ok.bs b o e).2 (I.ok.nofr e) (I.ok.noex b o e),I.base.free b o (I.ok.bs b o e).1 (I.ok.bs b o e).2 (I.ok.noex b o e)⟩
theorem Inv.bk (I:Inv X pins U H s):∀b o,X.base.get? b=some o->s.heap.get? b=some o:=fun b o e=>(I.bs b o e).1
theorem Inv.mod (I:Inv X pins U H s):Mod X.K X.mg X.base:=I.ok.mod
theorem Inv.kIn (I:Inv X pins U H s):X.K.In s.heap:=I.ok.mod.kin.keeps I.bk
theorem Inv.lt (I:Inv X pins U H s):X.env.locals<s.heap.objs.size:=let ⟨_,hn,_⟩:=I.loc;hn.lt
theorem Inv.sz (I:Inv X pins U H s):X.s₀.heap.objs.size<=s.heap.objs.size:=Nat.le_trans I.ok.above (Nat.le_of_lt I.lt)
theorem Inv.nofs (I:Inv X pins U H s) {a:Addr} (h:s.heap.objs.size<=a):a∉X.fs:=fun hb=>by
 obtain ⟨_,o,ho,_⟩:=I.ok.funs.mem hb
 exact absurd (Nat.lt_of_lt_of_le (Heap.lt_size ho) (Nat.le_trans I.sz h)) (Nat.lt_irrefl _)
theorem Inv.cne (I:Inv X pins U H s):∀x c,X.env.cells.lookup x=some c->c≠X.env.locals:=fun x c e z=>by
 obtain ⟨v,o,ho,hd⟩:=I.cell x c e
 obtain ⟨m,⟨o',es,ep,ho',hd',_⟩,_⟩:=I.loc
 rw [z,ho'] at ho;cases ho;rw [hd'] at hd;cases hd
theorem Inv.funs (I:Inv X pins U H s):s.heap.FunFrames X.base X.outer:=by
 have all:∀(l:List Env),(∀b∈frs l,b∈X.fs)->X.s₀.heap.FunFrames X.base l->s.heap.FunFrames X.base l:=by
  intro l
  induction l with
  | nil=>intro _ _;trivial
  | cons env r ih=>
   intro hs hl
   obtain ⟨hk,⟨L,o,hf,hn,ho,hd⟩,hr⟩:=hl
   have hL:L∈X.fs:=hs L (by unfold frs;rw [List.filterMap_cons,hf];exact List.mem_cons_self)
   obtain ⟨sl,e⟩:=I.base.slot L o ho (I.ok.frf L hL) hL fun z=>I.ok.exfs L z hL
   exact ⟨hk,⟨L,_,hf,hn,e,hd⟩,ih (fun b hb=>hs b (by unfold frs;rw [List.filterMap_cons,hf];exact List.mem_cons_of_mem _ hb)) hr⟩
 exact all X.outer (fun _ hb=>hb) I.ok.funs
theorem Inv.stack (I:Inv X pins U H s):s.heap.FunFrames X.base X.stack:=by
 rcases I.ok.stk with e | ⟨e,hf⟩
 . rw [e];exact I.funs
 . rw [e]
   obtain ⟨m,hn,_⟩:=I.loc
   refine .cons (by rw [I.ok.kind];decide) hf hn ?_ I.funs
   exact Heap.get?_none_of_le (Nat.le_trans I.ok.bsz I.ok.above)
theorem Inv.stkSub (I:Inv X pins U H s):∀b∈frs X.stack,b∈X.env.locals::X.fs:=fun b hb=>by
 rcases I.ok.stk with e | ⟨e,hf⟩
 . rw [e] at hb;exact List.mem_cons_of_mem _ hb
 . rw [e] at hb
   unfold frs at hb
   rw [List.filterMap_cons,hf] at hb
   exact hb
theorem Inv.stkFree (I:Inv X pins U H s):∀b∈frs X.stack,H b=none:=fun b hb=>by
 rcases List.mem_cons.mp (I.stkSub b hb) with e | hb
 . rw [e];exact I.free
 . obtain ⟨_,o,ho,_⟩:=I.ok.funs.mem hb
   exact I.base.free b o ho (I.ok.frf b hb) fun z=>I.ok.exfs b z hb
theorem Inv.step {g':Array GenState} {t':Nat} {d':Drawn} {ch:List Addr} (I:Inv X pins U H s)
  (hch:∀b∈ch,(b∈X.ex\/X.s₀.heap.objs.size<=b)/\b≠X.env.locals/\(∀x c,X.env.cells.lookup x=some c->c≠b)/\∀p∈X.pn++pins,p.1≠b)
  (keep:∀b o,b≠X.env.locals->b∉X.fs->b∉ch->s.heap.get? b=some o->H b=none->h'.get? b=some o)
  (slot:∀b o,b≠X.env.locals->b∈X.fs->b∉ch->s.heap.get? b=some o->H b=none->∃sl,h'.get? b=some { o with slots:=sl }) (free:∀b o,b∉ch->s.heap.get? b=some o->H b=none->H' b=none)
  (there:∀b o,b∉ch->s.heap.get? b=some o->∃o',h'.get? b=some o')
  (tups:∀b xs,H b=some (.tup xs)->H' b=some (.tup xs)) (frzs:∀b o u,H b=some (.frz o u)->H' b=some (.frz o u)) (tbls:∀b ps,H b=some (.tbl ps)->∃more,H' b=some (.tbl (ps++more)))
  (ns:∀m,s.heap.Ns X.env.locals m->h'.Ns X.env.locals m) (hok:HOk X.prog X.w H' h') (hg:AllBare g') :
  Inv X pins U H' { s with heap:=h',gens:=g',drawn:=d',toks:=t' }:=by
 have neL:∀b o,X.s₀.heap.get? b=some o->b≠X.env.locals:=fun b o e=>Nat.ne_of_lt (Nat.lt_of_lt_of_le (Heap.lt_size e) I.ok.above)
 have neC:∀b o,X.s₀.heap.get? b=some o->b∉X.ex->b∉ch:=fun b o e hx hb=>by
  rcases (hch b hb).1 with z | z
  . exact hx z
  . exact absurd (Nat.lt_of_lt_of_le (Heap.lt_size e) z) (Nat.lt_irrefl _)
 have cellK:∀x c,X.env.cells.lookup x=some c->∀v,s.heap.IsCell c v->h'.IsCell c v:=fun x c e v ⟨o,ho,hd⟩=>by
  have nch:c∉ch:=fun z=>(hch c z).2.2.1 x c e rfl
  by_cases hc:c∈X.fs
  . obtain ⟨sl,q⟩:=slot c o (I.cne x c e) hc nch ho (I.freeC x c e)
    exact ⟨_,q,hd⟩
  . exact ⟨o,keep c o (I.cne x c e) hc nch ho (I.freeC x c e),hd⟩
 refine ⟨I.ok,I.os,hg,⟨fun b o e n hb hx=>?_,fun b o e n hb hx=>?_,fun b o e n hx=>?_,fun b o e hx=>?_,fun b xs e=>tups b xs (I.base.tups b xs e),fun b o xs e=>frzs b o xs (I.base.frzs b o xs e),fun b ps e=>?_⟩,?_,fun x c e=>?_,?_,fun x c e=>?_,fun p hp=>?_,hok,I.len⟩
 . exact keep b o (neL b o e) hb (neC b o e hx) (I.base.keep b o e n hb hx) (I.base.free b o e n hx)
 . obtain ⟨sl,e1⟩:=I.base.slot b o e n hb hx
   obtain ⟨sl',e2⟩:=slot b _ (neL b o e) hb (neC b o e hx) e1 (I.base.free b o e n hx)
   exact ⟨sl',e2⟩
 . obtain ⟨o',e1⟩:=I.base.there b o e hx
   exact free b o' (neC b o e hx) e1 (I.base.free b o e n hx)
 . obtain ⟨o',e1⟩:=I.base.there b o e hx
   exact there b o' (neC b o e hx) e1
 . obtain ⟨m1,e1⟩:=I.base.tbls b ps e
   obtain ⟨m2,e2⟩:=tbls b _ e1
   exact ⟨m1++m2,by rw [e2,Array.append_assoc]⟩
 . obtain ⟨m,hn,hl⟩:=I.loc
   refine ⟨m,ns m hn,fun i x v e1 e2 e3=>?_⟩
   obtain ⟨u,r,l⟩:=hl i x v e1 e2 e3
   refine ⟨u,r,?_⟩
   rcases l with l | ⟨k,c,e,z⟩
   . exact .inl l
   . exact .inr ⟨k,c,e,cellK x c e _ z⟩
 . obtain ⟨v,z⟩:=I.cell x c e
   exact ⟨v,cellK x c e v z⟩
 . obtain ⟨m,⟨o,_,_,ho,_⟩,_⟩:=I.loc
   exact free _ o (fun z=>(hch _ z).2.1 rfl) ho I.free
 . obtain ⟨v,o,ho,hd⟩:=I.cell x c e
   exact free c o (fun z=>(hch c z).2.2.1 x c e rfl) ho (I.freeC x c e)
 . obtain ⟨e,n,ne,nf,d⟩:=I.pin p hp
   have nch:p.1∉ch:=fun z=>(hch p.1 z).2.2.2 p hp rfl
   exact ⟨keep p.1 p.2 ne nf nch e n,free p.1 p.2 nch e n,ne,nf,d⟩
theorem Inv.un {t':Nat} (I:Inv X pins U H s) (u:Un X.fs [] H H' s.heap h') (hok:HOk X.prog X.w H' h'):Inv X pins U H' { s with heap:=h',toks:=t' }:=by
 obtain ⟨m,⟨o,es,ep,ho,r⟩,_⟩:=id I.loc
 obtain ⟨sl,hL⟩:=u.any ho I.free (by simp)
 exact I.step (g':=s.gens) (d':=s.drawn) (ch:=[]) (fun _ z=>nomatch z) (fun b o _ hb _ e n=>u.keep b o e n hb (by simp)) (fun b o _ hb _ e n=>u.slot b o e n hb (by simp)) (fun b o _ e n=>u.free b o e n (by simp)) (fun b o _ e=>u.there b o e (by simp)) u.tups u.frzs u.tbls (fun m' hm=>by
  obtain ⟨o',es',ep',ho',r'⟩:=hm
  rw [ho] at ho';cases ho'
  exact ⟨_,es',ep',hL,r'⟩) hok I.bare
theorem Inv.call {g':Array GenState} {t':Nat} {d':Drawn} {ch:List Addr} (I:Inv X pins U H s) (u:Un (frs X.stack) ch H H' s.heap h') (hok:HOk X.prog X.w H' h') (hg:AllBare g')
  (hch:∀b∈ch,(b∈X.ex\/X.s₀.heap.objs.size<=b)/\b≠X.env.locals/\(∀x c,X.env.cells.lookup x=some c->c≠b)/\∀p∈X.pn++pins,p.1≠b) :
  Inv X pins U H' { s with heap:=h',gens:=g',drawn:=d',toks:=t' }:=by
 obtain ⟨m,⟨o,es,ep,ho,r⟩,_⟩:=id I.loc
 obtain ⟨sl,hL⟩:=u.any ho I.free fun z=>(hch _ z).2.1 rfl
 exact I.step (ch:=ch) hch (fun b o hL hb hc e n=>u.keep b o e n (fun z=>(List.mem_cons.mp (I.stkSub b z)).elim hL hb) hc) (fun b o _ _ hc e n=>u.any e n hc) (fun b o hc e n=>u.free b o e n hc) (fun b o hc e=>u.there b o e hc) u.tups u.frzs u.tbls (fun m' hm=>by
  obtain ⟨o',es',ep',ho',r'⟩:=hm
  rw [ho] at ho';cases ho'
  exact ⟨_,es',ep',hL,r'⟩) hok hg
theorem Inv.turned {t':Nat} {it:Addr} (I:Inv X pins U H s) (k:∀b o,b≠it->s.heap.get? b=some o->h'.get? b=some o) (hn:H it=none) (hL:it≠X.env.locals)
  (h1:it∈X.ex\/X.s₀.heap.objs.size<=it) (h2:∀x c,X.env.cells.lookup x=some c->c≠it) (h3:∀p∈X.pn++pins,p.1≠it):Inv X pins U H { s with heap:=h',toks:=t' }:=by
 have nit:∀b u,H b=some u->b≠it:=fun b u e z=>by rw [z,hn] at e;cases e
 refine I.step (g':=s.gens) (d':=s.drawn) (ch:=[it]) (fun b hb=>?_) (fun b o _ _ hc e _=>k b o (fun z=>hc (by simp [z])) e) (fun b o _ _ hc e _=>⟨o.slots,k b o (fun z=>hc (by simp [z])) e⟩) (fun _ _ _ _ n=>n)
  (fun b o hc e=>⟨o,k b o (fun z=>hc (by simp [z])) e⟩) (fun _ _ e=>e) (fun _ _ _ e=>e) (fun b ps e=>⟨#[],by rw [e];simp⟩) (fun m hm=>?_) (fun b u e=>?_) I.bare
 . have e:b=it:=by simpa using hb
   subst e
   exact ⟨h1,hL,h2,h3⟩
 . obtain ⟨o,es,ep,ho,r⟩:=hm
   exact ⟨o,es,ep,k _ o (Ne.symm hL) ho,r⟩
 . refine (I.hok b u e).stay (fun c v hc q=>k c v ?_ q) (fun _ q=>q) fun _ _ q=>q
   rcases hc with z | z
   . rw [z];exact nit b u e
   . exact nit c _ z
theorem Inv.tok (I:Inv X pins U H s) (t:Nat):Inv X pins U H { s with toks:=t }:=I.un (h':=s.heap) (t':=t) Un.refl I.hok
theorem Inv.kept {t':Nat} (I:Inv X pins U H s) (k:∀b u,s.heap.get? b=some u->h'.get? b=some u):Inv X pins U H { s with heap:=h',toks:=t' }:=I.un (Un.kept k) (I.hok.kept k)
theorem Inv.laid {a:Addr} {o:HO} {t':Nat} (I:Inv X pins U H s) (k:∀b u,s.heap.get? b=some u->h'.get? b=some u) (hp:s.heap.objs.size<=a) (new:ObjOk X.prog X.w (upd H a o) h' a o) :
 Inv X pins U (upd H a o) { s with heap:=h',toks:=t' }:=I.un (Un.laid k hp (I.hok.fresh hp)) (I.hok.laid k hp new)
theorem Inv.write {x e:Addr} {o:HO} {t':Nat} (I:Inv X pins U H s) (mu:Mut (H x)) (he:e=x\/H e=some (.own x)) (k:∀b u,b≠e->s.heap.get? b=some u->h'.get? b=some u) (heo:∃u,h'.get? e=some u)
 (new:ObjOk X.prog X.w (upd H x o) h' x o):Inv X pins U (upd H x o) { s with heap:=h',toks:=t' }:=I.un (Un.write mu he k heo) (I.hok.write mu he k heo new)
theorem Inv.pins_of {pins':List (Addr×Obj)} (I:Inv X pins U H s) (h:∀p∈pins',s.heap.get? p.1=some p.2/\H p.1=none/\p.1≠X.env.locals/\p.1∉X.fs/\∀v,p.2.data≠.cell v):Inv X pins' U H s:=
 ⟨I.ok,I.os,I.bare,I.base,I.loc,I.cell,I.free,I.freeC,fun p hp=>(List.mem_append.mp hp).elim (fun z=>I.pin p (List.mem_append_left _ z)) (h p),I.hok,I.len⟩
theorem z8l {N:List Str} (hN:N.Nodup) {i j:Nat} {x:Str} (a:N[i]?=some x) (b:N[j]?=some x):i=j:=by
 obtain ⟨h1,e1⟩:=List.getElem?_eq_some_iff.mp a
 obtain ⟨h2,e2⟩:=List.getElem?_eq_some_iff.mp b
 exact (List.getElem_inj hN).mp (e1.trans e2.symm)
theorem zf1 {M:Model} {A:Around} {E:Value->Shared->Prop} {i:Nat} {x:Str} {v:V} {u:Value} {Q:Unit->Shared->Prop} (I:Inv X pins U H s) (hN:X.N.Nodup) (hi:X.N[i]?=some x) (hx:Loc X.env.scope x) (r:RelV v u)
  (h:∀s',Inv X pins (U.set i (some v)) H s'->(∃a,Heap.SameBut a s.heap s'.heap/\(a=X.env.locals\/X.env.cells.lookup x=some a))->Q () s') (hf:X.fn x=true\/X.env.scope.names.lookup x=some .local:=by first | exact .inl rfl | exact .inr rfl | assumption):wpAny M A (storeName X.env x u) Q E s:=by
 obtain ⟨m,hn,hl⟩:=id I.loc
 have hcls:(X.env.scope.kind==.class||(X.env.scope.kind==.module&&X.env.locals != X.env.globals))=false:=by rw [I.ok.kind];rfl
 have hiσ:i<U.length:=by rw [I.len];exact (List.getElem?_eq_some_iff.mp hi).1
 have cne:=I.cne
 have tracked:∀{a:Addr} {h':Heap},(∃o,s.heap.get? a=some o/\H a=none)->Heap.SameBut a s.heap h'->HOk X.prog X.w H h':=fun {a h'} ha hs b ob e=>by
  obtain ⟨_,_,hfree⟩:=ha
  refine (I.hok b ob e).stay (fun c w' hc q=>(hs.2 c ?_).trans q) (fun _ q=>q) fun _ _ q=>q
  rintro rfl
  rcases hc with rfl | hc
  . rw [hfree] at e;cases e
  . rw [hfree] at hc;cases hc
 rcases hx with hk | hk
 . refine wpAny_storeName_local hk hn (fun h' hn' hs=>?_) hcls
   obtain ⟨oL,_,_,hoL,_⟩:=id hn
   refine h _ ⟨I.ok,I.os,I.bare,⟨fun b o e n hb hx=>?_,fun b o e n hb hx=>?_,I.base.free,fun b o e hx=>?_,I.base.tups,I.base.frzs,I.base.tbls⟩,⟨_,hn',fun j y v' e1 e2 e3=>?_⟩,fun y c e=>?_,I.free,I.freeC,fun p hp=>?_,tracked ⟨oL,hoL,I.free⟩ hs,by simpa using I.len⟩ ⟨_,hs,.inl rfl⟩
   . exact (hs.2 b (Nat.ne_of_lt (Nat.lt_of_lt_of_le (Heap.lt_size e) I.ok.above))).trans (I.base.keep b o e n hb hx)
   . obtain ⟨sl,e1⟩:=I.base.slot b o e n hb hx
     exact ⟨sl,(hs.2 b (Nat.ne_of_lt (Nat.lt_of_lt_of_le (Heap.lt_size e) I.ok.above))).trans e1⟩
   . obtain ⟨o',e1⟩:=I.base.there b o e hx
     exact ⟨o',(hs.2 b (Nat.ne_of_lt (Nat.lt_of_lt_of_le (Heap.lt_size e) I.ok.above))).trans e1⟩
   . by_cases hj:j=i
     . subst hj
       rw [hi] at e1;cases e1
       rw [List.getElem?_set_self hiσ] at e2
       cases e2
       exact ⟨u,r,.inl ⟨hk,by simp⟩⟩
     . rw [List.getElem?_set_ne (Ne.symm hj)] at e2
       obtain ⟨u',r',q⟩:=hl j y v' e1 e2 e3
       refine ⟨u',r',?_⟩
       rcases q with ⟨k,e⟩ | ⟨k,c,e,z⟩
       . refine .inl ⟨k,?_⟩
         have:y≠x:=fun e=>hj (z8l hN e1 (e ▸ hi))
         simp [this,e]
       . exact .inr ⟨k,c,e,z.sameBut hs (cne y c e)⟩
   . obtain ⟨w',z⟩:=I.cell y c e
     exact ⟨w',z.sameBut hs (cne y c e)⟩
   . obtain ⟨e,n,ne,nf,d⟩:=I.pin p hp
     exact ⟨(hs.2 p.1 ne).trans e,n,ne,nf,d⟩
 . have hfn:X.fn x=true:=by
    rcases hf with z | z
    . exact z
    . rw [z] at hk;cases hk
   obtain ⟨c,hc⟩:=I.ok.has x (.inl hk)
   obtain ⟨w',z⟩:=I.cell x c hc
   refine wpAny_storeName_cell I.ok.kind hk hc z (fun h' hc' hs=>?_)
   obtain ⟨oc,hoc,hocd⟩:=id z
   refine h { s with heap:=h' } ⟨I.ok,I.os,I.bare,⟨fun b o e n hb hx=>?_,fun b o e n hb hx=>?_,I.base.free,fun b o e hx=>?_,I.base.tups,I.base.frzs,I.base.tbls⟩,⟨m,hn.sameBut hs (Ne.symm (cne x c hc)),fun j y v' e1 e2 e3=>?_⟩,fun y c' e=>?_,I.free,I.freeC,fun p hp=>?_,tracked ⟨oc,hoc,I.freeC x c hc⟩ hs,by simpa using I.len⟩ ⟨c,hs,.inr hc⟩
   . exact (hs.2 b (Nat.ne_of_lt (Nat.lt_of_lt_of_le (Heap.lt_size e) (I.ok.cab x c hfn hc)))).trans (I.base.keep b o e n hb hx)
   . obtain ⟨sl,e1⟩:=I.base.slot b o e n hb hx
     exact ⟨sl,(hs.2 b (Nat.ne_of_lt (Nat.lt_of_lt_of_le (Heap.lt_size e) (I.ok.cab x c hfn hc)))).trans e1⟩
   . obtain ⟨o',e1⟩:=I.base.there b o e hx
     exact ⟨o',(hs.2 b (Nat.ne_of_lt (Nat.lt_of_lt_of_le (Heap.lt_size e) (I.ok.cab x c hfn hc)))).trans e1⟩
   . by_cases hj:j=i
     . subst hj
       rw [hi] at e1;cases e1
       rw [List.getElem?_set_self hiσ] at e2
       cases e2
       exact ⟨u,r,.inr ⟨.inl hk,c,hc,hc'⟩⟩
     . rw [List.getElem?_set_ne (Ne.symm hj)] at e2
       obtain ⟨u',r',q⟩:=hl j y v' e1 e2 e3
       refine ⟨u',r',?_⟩
       rcases q with q | ⟨k,c',e,z'⟩
       . exact .inl q
       . refine .inr ⟨k,c',e,z'.sameBut hs ?_⟩
         rintro rfl
         exact hj (z8l hN e1 (I.ok.inj _ _ _ e hc ▸ hi))
   . by_cases hcc:c'=c
     . subst hcc;exact ⟨_,hc'⟩
     . obtain ⟨w2,z2⟩:=I.cell y c' e
       exact ⟨w2,z2.sameBut hs hcc⟩
   . obtain ⟨e,n,ne,nf,d⟩:=I.pin p hp
     refine ⟨(hs.2 p.1 ?_).trans e,n,ne,nf,d⟩
     intro q
     rw [q,hoc] at e
     have q':oc=p.2:=Option.some.inj e
     exact d w' (by rw [<-q'];exact hocd)
theorem z8m {M:Model} {A:Around} {E:Value->Shared->Prop} {i:Nat} {x:Str} {v:V} {u:Value} {Q:Unit->Shared->Prop} (I:Inv X pins U H s) (hN:X.N.Nodup) (hi:X.N[i]?=some x) (hx:Loc X.env.scope x) (r:RelV v u)
  (h:∀s',Inv X pins (U.set i (some v)) H s'->Q () s') (hf:X.fn x=true\/X.env.scope.names.lookup x=some .local:=by first | exact .inl rfl | exact .inr rfl | assumption):wpAny M A (storeName X.env x u) Q E s:=
 zf1 I hN hi hx r (fun s' I' _=>h s' I') hf
theorem Inv.call' {s':Shared} {ch:List Addr} (I:Inv X pins U H s) (ho:s'.os=s.os) (u:Un (frs X.stack) ch H H' s.heap s'.heap) (hok:HOk X.prog X.w H' s'.heap) (hg:AllBare s'.gens)
  (hch:∀b∈ch,(b∈X.ex\/X.s₀.heap.objs.size<=b)/\b≠X.env.locals/\(∀x c,X.env.cells.lookup x=some c->c≠b)/\∀p∈X.pn++pins,p.1≠b):Inv X pins U H' s':=by
 obtain ⟨h',g',d',t',o'⟩:=s'
 have e:o'=s.os:=ho
 subst e
 exact I.call (g':=g') (t':=t') (d':=d') u hok hg hch
end
abbrev XK:=Value->Option Addr->Hp->Prop
abbrev St:=List (Option V)
abbrev VK:=V->Hp->Prop
abbrev TE:=St->Hp->VK->Prop
abbrev TT:=St->Hp->(Bool->Hp->Prop)->Prop
abbrev TA:=St->Hp->(List V->Hp->Prop)->Prop
structure Ends where
 nx:St->Hp->Prop
 rt:VK
 bk:St->Hp->Prop:=fun _ _=>False
 ct:St->Hp->Prop:=fun _ _=>False
abbrev TS:=Ends->St->Hp->Prop
def EP (X:Cx) (pins:List (Addr×Obj)) (U:St) (Q:VK) (u:Value) (s':Shared):Prop:=∃v H',Inv X pins U H' s'/\RelV v u/\Q v H'
def TP (X:Cx) (pins:List (Addr×Obj)) (U:St) (Q:Bool->Hp->Prop) (b:Bool) (s':Shared):Prop:=∃H',Inv X pins U H' s'/\Q b H'
def AP (X:Cx) (pins:List (Addr×Obj)) (U:St) (Q:List V->Hp->Prop) (us:List Value) (s':Shared):Prop:=∃vs H',Inv X pins U H' s'/\Vals vs us/\Q vs H'
def SP (X:Cx) (pins:List (Addr×Obj)) (D:Ends) (f:Flow) (s':Shared):Prop:=
 match f with
 | .next=>∃σ' H',Inv X pins σ' H' s'/\D.nx σ' H'
 | .brk=>∃σ' H',Inv X pins σ' H' s'/\D.bk σ' H'
 | .cont=>∃σ' H',Inv X pins σ' H' s'/\D.ct σ' H'
 | .ret u=>∃v σ' H',Inv X pins σ' H' s'/\RelV v u/\D.rt v H'
def PE (X:Cx) (e:Expr) (t:TE):Prop:=
 ∀(pins:List (Addr×Obj)) (s:Shared) (U:St) (H:Hp) (Q:VK),Inv X pins U H s->t U H Q->wpAny (model X.prog X.w) X.A (eval e X.env) (EP X pins U Q) X.xe s
def PT (X:Cx) (e:Expr) (t:TT):Prop:=
 ∀(pins:List (Addr×Obj)) (s:Shared) (U:St) (H:Hp) (Q:Bool->Hp->Prop),Inv X pins U H s->t U H Q->wpAny (model X.prog X.w) X.A (isTrue e X.env (eval e X.env)) (TP X pins U Q) X.xe s
def PW (X:Cx) (e:Expr) (t:TT):Prop:=
 ∀(whole:Sem Value) (pins:List (Addr×Obj)) (s:Shared) (U:St) (H:Hp) (Q:Bool->Hp->Prop),Inv X pins U H s->t U H Q->wpAny (model X.prog X.w) X.A (isTrue e X.env whole) (TP X pins U Q) X.xe s
theorem PW.pt {X:Cx} {e:Expr} {t:TT} (h:PW X e t):PT X e t:=h _
def PA (X:Cx) (es:List Expr) (t:TA):Prop:=
 ∀(pos:Pos) (pins:List (Addr×Obj)) (s:Shared) (U:St) (H:Hp) (Q:List V->Hp->Prop),Inv X pins U H s->t U H Q->wpAny (model X.prog X.w) X.A (spliced (backTo pos (starEach es X.env))) (AP X pins U Q) X.xe s
def PS (X:Cx) (st:Stmt) (t:TS):Prop:=
 ∀(pins:List (Addr×Obj)) (s:Shared) (U:St) (H:Hp) (D:Ends),Inv X pins U H s->t D U H->wpAny (model X.prog X.w) X.A (exec st X.env) (SP X pins D) X.xe s
def PSs (X:Cx) (st:List Stmt) (t:TS):Prop:=
 ∀(pins:List (Addr×Obj)) (s:Shared) (U:St) (H:Hp) (D:Ends),Inv X pins U H s->t D U H->wpAny (model X.prog X.w) X.A (execs st X.env) (SP X pins D) X.xe s
theorem thn {α:Type} {t:Sem α} {Q Q':α->Shared->Prop} {M:Model} {A:Around} {E:Value->Shared->Prop} {s:Shared} (h:wpAny M A t Q E s) (hQ:∀a s,Q a s->Q' a s):wpAny M A t Q' E s:=wpAny_mono h hQ fun _ _ x=>x
section
variable {X:Cx}
theorem bin {a b:Expr} {ta tb:TE} (ha:PE X a ta) (hb:PE X b tb) {pins:List (Addr×Obj)} {s:Shared} {U:St} {H:Hp} {R:V->V->Hp->Prop} (I:Inv X pins U H s) (h:ta U H fun x H1=>tb U H1 fun y H2=>R x y H2)
  {α:Type} {Q:α->Shared->Prop} {f:Value->Value->Sem α}
  (hf:∀v u s2 x y H2,Inv X pins U H2 s2->RelV x v->RelV y u->R x y H2->wpAny (model X.prog X.w) X.A (f v u) Q X.xe s2) :
  wpAny (model X.prog X.w) X.A (eval a X.env) (fun v s₁=>wpAny (model X.prog X.w) X.A (eval b X.env) (fun u s₂=>wpAny (model X.prog X.w) X.A (f v u) Q X.xe s₂) X.xe s₁) X.xe s:=by
 refine thn (ha pins s U H _ I h) fun v s1 ⟨x,H1,I1,r1,q1⟩=>?_
 refine thn (hb pins s1 U H1 _ I1 q1) fun u s2 ⟨y,H2,I2,r2,q2⟩=>?_
 exact hf v u s2 x y H2 I2 r1 r2 q2
noncomputable def zxi (i:Nat):TE:=fun U H Q=>∃v,U[i]?=some (some v)/\Q v H
noncomputable def tC (v:V):TE:=fun _ H Q=>Q v H
theorem zkd {i:Nat} {x:Str} {pos:Pos} (hN:X.N[i]?=some x) (hv:Vis X.env.scope x) (hd:(x==("__debug__":Str))=false:=by decide) (hcd:(x==("__classdict__":Str))=false:=by decide):PE X (.Name x pos) (zxi i):=by
 intro pins s U H Q I h
 obtain ⟨v,e,h⟩:=h
 obtain ⟨m,hn,hl⟩:=I.loc
 obtain ⟨u,r,l⟩:=hl i x v hN e hv
 have fin:EP X pins U Q u s:=⟨v,H,I,r,h⟩
 rcases l with ⟨hk,hm⟩ | ⟨hk,c,hc,hcell⟩
 . exact wpAny_Name (wpAny_loadName_local I.ok.kind hk hn hm fin) hd
 . rcases hk with hk | hk
   . exact wpAny_Name (wpAny_loadName_cell I.ok.kind hk hc hcell fin) hd
   . exact wpAny_Name (wpAny_loadName_free I.ok.kind hk hc hcell fin hcd) hd
theorem pe_int {i j pos}:PE X (.Constant (.int i) j pos) (tC (.int i)):=fun _ _ _ H _ I h=>wpAny_Constant_int ⟨.int i,H,I.tok _,⟨_,rfl⟩,h⟩
theorem pe_bl {b j pos}:PE X (.Constant (.bool b) j pos) (tC (.bl b)):=fun _ _ _ H _ I h=>Constant_bool ⟨.bl b,H,I,rfl,h⟩
theorem pe_str {x j pos}:PE X (.Constant (.str x) j pos) (tC (.str x)):=fun _ _ _ H _ I h=>Calls.Constant_str ⟨.str x,H,I.tok _,⟨_,rfl⟩,h⟩
def Gl (X:Cx) (x:Str):Prop:=X.env.kindOf x=some .globalImplicit
theorem z6k {E:Value->Shared->Prop} {pins:List (Addr×Obj)} {s:Shared} {U:St} {H:Hp} {x:Str} {u:Value} {pos:Pos} {Q:Value->Shared->Prop} (I:Inv X pins U H s) (hg:Gl X x) (hm:X.mg x=some u) (h:Q u s)
  (hd:(x==("__debug__":Str))=false:=by decide):wpAny (model X.prog X.w) X.A (eval (.Name x pos) X.env) Q E s:=
 Calls.Name_function_global I.ok.kind hg (Calls.loadGlobal_global (by rw [I.ok.glob];exact I.mod.glob.keeps I.bk) hm h) hd
theorem z6l {E:Value->Shared->Prop} {pins:List (Addr×Obj)} {s:Shared} {U:St} {H:Hp} {x:Str} {u:Value} {pos:Pos} {Q:Value->Shared->Prop} (I:Inv X pins U H s) (hg:Gl X x) (hm:X.mg x=none) (hv:bootBuiltins x=some u) (h:Q u s)
  (hn:x≠"__name__":=by decide) (hd:(x==("__debug__":Str))=false:=by decide):wpAny (model X.prog X.w) X.A (eval (.Name x pos) X.env) Q E s:=by
 obtain ⟨mb,h1,h2⟩:=I.mod.blt
 exact Calls.Name_function_global I.ok.kind hg (Calls.loadGlobal_builtin (by rw [I.ok.glob];exact I.mod.glob.keeps I.bk) hm (by rw [I.ok.blt];exact h1.keeps I.bk) ((h2 x hn).trans hv) h) hd
theorem zb1 {x:Str} {v:V} {u:Value} {pos:Pos} (hg:Gl X x) (hm:X.mg x=some u) (r:RelV v u) (hd:(x==("__debug__":Str))=false:=by decide):PE X (.Name x pos) (tC v):=
 fun _ _ _ H _ I h=>z6k I hg hm ⟨v,H,I,r,h⟩ hd
theorem z5i {x:Str} {v:V} {u:Value} {pos:Pos} (hg:Gl X x) (hm:X.mg x=none) (hv:bootBuiltins x=some u) (r:RelV v u) (hn:x≠"__name__":=by decide) (hd:(x==("__debug__":Str))=false:=by decide):PE X (.Name x pos) (tC v):=
 fun _ _ _ H _ I h=>z6l I hg hm hv ⟨v,H,I,r,h⟩ hn hd
variable {a b:Expr} {ta tb:TE} {pos:Pos}
variable {tA tB':TT} {rest:List Expr}
noncomputable def zxj (t u:TT):TT:=fun U H Q=>t U H fun c H1=>if c=true then u U H1 Q else Q false H1
noncomputable def tOr (t u:TT):TT:=fun U H Q=>t U H fun c H1=>if c=true then Q true H1 else u U H1 Q
noncomputable def zxk (t:TT):TT:=fun U H Q=>t U H fun c H1=>Q (!c) H1
theorem zm7 (ha:PT X a tA):PW X (.BoolOp .And [a] pos) tA:=by
 intro wh pins s U H Q I h
 refine isTrue_and (thn (ha pins s U H Q I h) fun c s1 e=>?_)
 cases c with
 | true=>exact isTrue_and_nil e
 | false=>exact e
theorem zpl (ha:PT X a tA):PW X (.BoolOp .Or [a] pos) tA:=by
 intro wh pins s U H Q I h
 refine isTrue_or (thn (ha pins s U H Q I h) fun c s1 e=>?_)
 cases c with
 | false=>exact isTrue_or_nil e
 | true=>exact e
theorem zpm (ha:PT X a tA) (hb:PW X (.BoolOp .And (b::rest) pos) tB'):PW X (.BoolOp .And (a::b::rest) pos) (zxj tA tB'):=by
 intro wh pins s U H Q I h
 refine isTrue_and (thn (ha pins s U H _ I h) fun c s1 ⟨H1,I1,q1⟩=>?_)
 cases c with
 | true=>exact hb wh pins s1 U H1 Q I1 q1
 | false=>exact ⟨H1,I1,q1⟩
theorem zuk (ha:PT X a tA) (hb:PW X (.BoolOp .Or (b::rest) pos) tB'):PW X (.BoolOp .Or (a::b::rest) pos) (tOr tA tB'):=by
 intro wh pins s U H Q I h
 refine isTrue_or (thn (ha pins s U H _ I h) fun c s1 ⟨H1,I1,q1⟩=>?_)
 cases c with
 | true=>exact ⟨H1,I1,q1⟩
 | false=>exact hb wh pins s1 U H1 Q I1 q1
theorem zpn (ha:PT X a tA):PT X (.UnaryOp .Not a pos) (zxk tA):=by
 intro pins s U H Q I h
 exact isTrue_not (ha pins s U H (fun c H1=>Q (!c) H1) I h)
theorem zpo {op} {t:TE} (h:PE X a t):PE X (.BoolOp op [a] pos) t:=fun pins s U H Q I hw=>BoolOp_one (h pins s U H Q I hw)
end
def SqL (K:Frag) (H:Hp) (a:Addr) (xs:List V):Prop:=
 Rd H a (.lst xs) \/
  ∃(o:Obj) (its:Array Value) (n:Nat),K.lookup a=some o/\o.cls=.type "list"/\o.dict=none/\o.data=.seq its n/\its.size<=sizeLine/\Vals xs its.toList
def SqT (K:Frag) (H:Hp) (a:Addr) (xs:List V):Prop:=
 Rd H a (.tup xs) \/
  ∃(o:Obj) (its:Array Value) (n:Nat),K.lookup a=some o/\o.cls=.type "tuple"/\o.data=.seq its n/\its.size<=sizeLine/\Vals xs its.toList
noncomputable def zyh:Value->Option V
 | .none=>some .non
 | .bool b=>some (.bl b)
 | .int i _=>some (.int i)
 | .str x _=>some (.str x)
 | .bytes b _=>some (.byt b)
 | .float b _=>some (.flt b)
 | .ref a=>some (.ref a)
 | .type n=>some (.ty n)
 | _=>none
theorem RelV.abs {x:V} {u:Value} (r:RelV x u):zyh u=some x:=by
 cases x with
 | non=>cases r;rfl
 | bl _=>cases r;rfl
 | int _=>obtain ⟨t,rfl⟩:=r;rfl
 | str _=>obtain ⟨t,rfl⟩:=r;rfl
 | byt _=>obtain ⟨t,rfl⟩:=r;rfl
 | flt _=>obtain ⟨t,rfl⟩:=r;rfl
 | ref _=>cases r;rfl
 | ty _=>cases r;rfl
theorem RelV.inj {x y:V} {u:Value} (r:RelV x u) (q:RelV y u):x=y:=Option.some.inj (r.abs.symm.trans q.abs)
theorem Vals.inj:∀{xs ys:List V} {us:List Value},Vals xs us->Vals ys us->xs=ys
 | _,_,_,.nil,.nil=>rfl
 | _,_,_,.cons r t,.cons r' t'=>by rw [r.inj r',Vals.inj t t']
section
variable {X:Cx} {pins:List (Addr×Obj)} {U:St} {H:Hp} {s:Shared} {a:Addr} {xs ys:List V}
theorem SqL.of {K:Frag} (h:H a=some (.lst xs)):SqL K H a xs:=.inl (.inl h)
theorem SqT.of {K:Frag} (h:H a=some (.tup xs)):SqT K H a xs:=.inl (.inl h)
theorem Inv.list (I:Inv X pins U H s) (h:SqL X.K H a xs):∃its:List Value,Vals xs its/\PlainL s.heap a its.toArray/\xs.length<=sizeLine:=by
 rcases h with h | ⟨o,its,n,hk,hc,hd,hs,hz,r⟩
 . obtain ⟨z,its,n,r,e⟩:=h.ok I.hok
   exact ⟨its,r,⟨_,n,e,rfl,rfl,rfl⟩,z⟩
 . refine ⟨its.toList,r,⟨o,n,I.kIn a o hk,hc,hd,by simpa using hs⟩,?_⟩
   have e:=r.length
   simp only [Array.length_toList] at e
   omega
theorem Inv.tuple (I:Inv X pins U H s) (h:SqT X.K H a xs):∃its:List Value,Vals xs its/\IsTup s.heap a its.toArray/\xs.length<=sizeLine:=by
 rcases h with h | ⟨o,its,n,hk,hc,hs,hz,r⟩
 . obtain ⟨z,its,r,p⟩:=h.ok I.hok
   exact ⟨its,r,p,z⟩
 . refine ⟨its.toList,r,⟨o,I.kIn a o hk,hc,n,by simpa using hs⟩,?_⟩
   have e:=r.length
   simp only [Array.length_toList] at e
   omega
theorem Inv.list_inj (I:Inv X pins U H s) (h:SqL X.K H a xs) (h':SqL X.K H a ys):xs=ys:=by
 obtain ⟨its,r,⟨o,n,e,_,_,d⟩,_⟩:=I.list h
 obtain ⟨its',r',⟨o',n',e',_,_,d'⟩,_⟩:=I.list h'
 rw [e] at e';cases e'
 rw [d] at d'
 injection d' with d1 _
 have:its=its':=by simpa using congrArg Array.toList d1
 subst this
 exact r.inj r'
theorem Inv.tuple_inj (I:Inv X pins U H s) (h:SqT X.K H a xs) (h':SqT X.K H a ys):xs=ys:=by
 obtain ⟨its,r,⟨o,e,_,n,d⟩,_⟩:=I.tuple h
 obtain ⟨its',r',⟨o',e',_,n',d'⟩,_⟩:=I.tuple h'
 rw [e] at e';cases e'
 rw [d] at d'
 injection d' with d1 _
 have:its=its':=by simpa using congrArg Array.toList d1
 subst this
 exact r.inj r'
end
abbrev Cx.wish (X:Cx) (E:Value->Shared->Prop):Cx:={ X with xe:=E }
abbrev Cx.nox (X:Cx):Cx:=X.wish fun _ _=>False
theorem Cx.Ok.wish {X:Cx} (ok:X.Ok) (E:Value->Shared->Prop):(X.wish E).Ok:=
 ⟨ok.mod,ok.kind,ok.glob,ok.blt,ok.above,ok.inj,ok.has,ok.cab,ok.hd,ok.frames,ok.stk,ok.exf,ok.bs,ok.bsz,ok.noex,ok.exfs,ok.funs,ok.frf⟩
theorem Cx.Ok.unwish {X:Cx} {E:Value->Shared->Prop} (ok:(X.wish E).Ok):X.Ok:=
 ⟨ok.mod,ok.kind,ok.glob,ok.blt,ok.above,ok.inj,ok.has,ok.cab,ok.hd,ok.frames,ok.stk,ok.exf,ok.bs,ok.bsz,ok.noex,ok.exfs,ok.funs,ok.frf⟩
section
variable {X:Cx} {pins:List (Addr×Obj)} {U:St} {H:Hp} {s:Shared} {E:Value->Shared->Prop}
theorem Inv.wish (I:Inv X pins U H s) (E:Value->Shared->Prop):Inv (X.wish E) pins U H s:=⟨I.ok.wish E,I.os,I.bare,I.base,I.loc,I.cell,I.free,I.freeC,I.pin,I.hok,I.len⟩
theorem Inv.unwish (I:Inv (X.wish E) pins U H s):Inv X pins U H s:=⟨I.ok.unwish,I.os,I.bare,I.base,I.loc,I.cell,I.free,I.freeC,I.pin,I.hok,I.len⟩
theorem SP.unwish {D:Ends} {f:Flow} {s':Shared} (h:SP (X.wish E) pins D f s'):SP X pins D f s':=by
 cases f with
 | next=>obtain ⟨σ',H',I,q⟩:=h;exact ⟨σ',H',I.unwish,q⟩
 | brk=>obtain ⟨σ',H',I,q⟩:=h;exact ⟨σ',H',I.unwish,q⟩
 | cont=>obtain ⟨σ',H',I,q⟩:=h;exact ⟨σ',H',I.unwish,q⟩
 | ret u=>obtain ⟨v,σ',H',I,r,q⟩:=h;exact ⟨v,σ',H',I.unwish,r,q⟩
theorem PE.nox {e:Expr} {t:TE} (h:PE X.nox e t):PE X e t:=fun pins s U H Q I hw=>
 wpAny_mono (h pins s U H Q (I.wish _) hw) (fun _ _ ⟨v,H',I',r,q⟩=>⟨v,H',I'.unwish,r,q⟩) fun _ _ z=>False.elim z
theorem PT.nox {e:Expr} {t:TT} (h:PT X.nox e t):PT X e t:=fun pins s U H Q I hw=>
 wpAny_mono (h pins s U H Q (I.wish _) hw) (fun _ _ ⟨H',I',q⟩=>⟨H',I'.unwish,q⟩) fun _ _ z=>False.elim z
theorem PSs.nox {st:List Stmt} {t:TS} (h:PSs X.nox st t):PSs X st t:=fun pins s U H D I hw=>
 wpAny_mono (h pins s U H D (I.wish _) hw) (fun _ _ q=>q.unwish) fun _ _ z=>False.elim z
end
section
variable {X:Cx} {st:Stmt} {rest:List Stmt} {t u:TS} {e:Expr} {te:TE} {pos:Pos}
noncomputable def zpp:TS:=fun D U H=>D.nx U H
noncomputable def zul (t u:TS):TS:=fun D U H=>t { D with nx:=u D } U H
theorem pss_nil:PSs X [] zpp:=fun _ _ U H _ I h=>wpAny_execs_nil ⟨U,H,I,h⟩
theorem zcf (h1:PS X st t) (h2:PSs X rest u):PSs X (st::rest) (zul t u):=by
 intro pins s U H D I h
 refine wpAny_execs_cons (thn (h1 pins s U H { D with nx:=u D } I h) fun f s1 q=>?_)
 cases f with
 | next=>
  obtain ⟨σ',H',I',q⟩:=q
  exact h2 pins s1 σ' H' D I' q
 | ret v=>exact q
 | brk=>exact q
 | cont=>exact q
theorem zf2 (h1:PS X st t):PSs X [st] t:=by
 intro pins s U H D I h
 refine wpAny_execs_cons (thn (h1 pins s U H D I h) fun f s1 q=>?_)
 cases f with
 | next=>exact wpAny_execs_nil q
 | ret v=>exact q
 | brk=>exact q
 | cont=>exact q
theorem Inv.quiet {pins:List (Addr×Obj)} {U:St} {H:Hp} {s:Shared} (I:Inv X pins U H s):interactive X.env=false:=by simp [interactive,I.ok.kind]
noncomputable def zf3 (te:TE):TS:=fun D U H=>te U H fun _ H1=>D.nx U H1
theorem zf4 (he:PE X e te) (hs:swapsWith e none pos.line X.env=pure false:=by rfl):PS X (.Expr e pos) (zf3 te):=by
 intro pins s U H D I h
 exact wpAny_Expr_any (thn (he pins s U H _ I h) fun v s1 ⟨x,H1,I1,r1,q1⟩=>⟨U,H1,I1,q1⟩) I.quiet hs
noncomputable def zxl (te:TE):TS:=fun D U H=>te U H D.rt
theorem zpq (he:PE X e te):PS X (.Return (some e) pos) (zxl te):=by
 intro pins s U H D I h
 exact wpAny_Return_some (thn (he pins s U H _ I h) fun v s1 ⟨x,H1,I1,r1,q1⟩=>⟨x,U,H1,I1,r1,q1⟩)
noncomputable def zxm (c:TT) (t u:TS):TS:=fun D U H=>c U H fun b H1=>if b=true then t D U H1 else u D U H1
theorem zum {c:Expr} {a b:List Stmt} {tc:TT} (hc:PT X c tc) (ha:PSs X a t) (hb:PSs X b u):PS X (.If c a b pos) (zxm tc t u):=by
 intro pins s U H D I h
 refine wpAny_If (thn (hc pins s U H _ I h) fun d s1 ⟨H1,I1,q1⟩=>?_)
 cases d with
 | true=>exact ha pins s1 U H1 D I1 q1
 | false=>exact hb pins s1 U H1 D I1 q1
end
abbrev TG:=V->St->Hp->(St->Hp->Prop)->Prop
abbrev TGs:=List V->St->Hp->(St->Hp->Prop)->Prop
def PG (X:Cx) (target:Expr) (t:TG):Prop:=
 ∀(pins:List (Addr×Obj)) (s:Shared) (U:St) (H:Hp) (v:V) (u:Value) (Q:St->Hp->Prop),Inv X pins U H s->RelV v u->t v U H Q ->
  wpAny (model X.prog X.w) X.A (assign target X.env u) (fun _ s'=>∃σ' H',Inv X pins σ' H' s'/\Q σ' H') X.xe s
def PGs (X:Cx) (ts:List Expr) (t:TGs):Prop:=
 ∀(pins:List (Addr×Obj)) (s:Shared) (U:St) (H:Hp) (vs:List V) (us:List Value) (Q:St->Hp->Prop),Inv X pins U H s->Vals vs us->t vs U H Q ->
  wpAny (model X.prog X.w) X.A (assignInOrder ((assignEach ts X.env).map (·.2)) us) (fun _ s'=>∃σ' H',Inv X pins σ' H' s'/\Q σ' H') X.xe s
abbrev zp7:=V->V->V->Hp->(Hp->Prop)->Prop
def zxn (X:Cx) (t:zp7):Prop:=
 ∀(pins:List (Addr×Obj)) (s:Shared) (U:St) (H:Hp) (o i v:V) (ov iv u:Value) (Q:Hp->Prop),Inv X pins U H s->RelV o ov->RelV i iv->RelV v u->t o i v H Q ->
  wpAny (model X.prog X.w) X.A (setItem ov iv u) (fun _ s'=>∃H',Inv X pins U H' s'/\Q H') X.xe s
section
variable {X:Cx} {pos:Pos}
noncomputable def z66 (i:Nat):TG:=fun v U H Q=>Q (U.set i (some v)) H
theorem zb2 {i:Nat} {x:Str} (hN:X.N.Nodup) (hi:X.N[i]?=some x) (hx:Loc X.env.scope x) (hf:X.fn x=true\/X.env.scope.names.lookup x=some .local:=by first | exact .inl rfl | exact .inr rfl | assumption):PG X (.Name x pos) (z66 i):=by
 intro pins s U H v u Q I r h
 exact wpAny_assign_Name (z8m I hN hi hx r (fun s' I'=>⟨_,H,I',h⟩) hf)
noncomputable def zun:TGs:=fun vs U H Q=>vs=[]/\Q U H
noncomputable def zf5 (t:TG) (u:TGs):TGs:=fun vs U H Q=>∃v r,vs=v::r/\t v U H fun σ' H'=>u r σ' H' Q
theorem pgs_nil:PGs X [] zun:=by
 intro pins s U H vs us Q I r h
 obtain ⟨e,h⟩:=h
 subst e
 cases r
 exact assignInOrder_nil ⟨U,H,I,h⟩
theorem z8n {e:Expr} {es:List Expr} {t:TG} {u:TGs} (h1:PG X e t) (h2:PGs X es u)
  (hs:(assignEach (e::es) X.env).map (·.2)=assign e X.env::(assignEach es X.env).map (·.2):=by rfl):PGs X (e::es) (zf5 t u):=by
 intro pins s U H vs us Q I r h
 obtain ⟨v,vr,e1,h⟩:=h
 subst e1
 cases r with
 | cons r rr=>
  rw [hs]
  refine assignInOrder_cons (thn (h1 pins s U H _ _ _ I r h) fun _ s1 ⟨σ1,H1,I1,q1⟩=>?_)
  exact h2 pins s1 σ1 H1 _ _ Q I1 rr q1
noncomputable def zuo (K:Frag) (n:Nat) (t:TGs):TG:=fun v U H Q=>∃a xs,v=.ref a/\SqT K H a xs/\xs.length=n/\t xs U H Q
theorem zke {es:List Expr} {k:Nat} {t:TGs} {n:Nat} (hc:X.calm=true) (h:PGs X es t)
  (hn:(assignEach es X.env).length=n:=by rfl) (hst:(assignEach es X.env).findIdx? (·.1)=none:=by rfl):PG X (.Tuple es k pos) (zuo X.K n t):=by
 intro pins s U H v u Q I r hw
 obtain ⟨a,xs,e1,hq,hl,hw⟩:=hw
 subst e1
 cases r
 obtain ⟨its,rv,ht,hz⟩:=I.tuple hq
 refine assign_Tuple_tuple (I.ok.hd hc) ht (by simp [hn,<-hl,rv.length]) hst fun h' hx=>?_
 have I1:Inv X pins U H { s with heap:=h' }:=I.kept (t':=s.toks) fun b o e=>hx b o (Nat.ne_of_lt (Heap.lt_size e)) e
 exact h pins _ U H xs _ Q I1 (by simpa using rv) hw
noncomputable def zua (to ti:TE) (t:zp7):TG:=fun v U H Q=>to U H fun o H1=>ti U H1 fun i H2=>t o i v H2 fun H3=>Q U H3
theorem zkf {o i:Expr} {to ti:TE} {t:zp7} (ho:PE X o to) (hi:PE X i ti) (hs:zxn X t)
  (ha:∀v,assign (.Subscript o i pos) X.env v=(do
   let ov <-holding [v] (eval o X.env)
   let iv <-holding [v,ov] (eval i X.env)
   standAt pos
   holding [v,ov,iv] (setItem ov iv v)
   release [v,ov,iv] []):=by intro _;rfl):PG X (.Subscript o i pos) (zua to ti t):=by
 intro pins s U H v u Q I r h
 rw [ha]
 refine wpAny_bind (wpAny_holding (thn (ho pins s U H _ I h) fun ov s1 ⟨x,H1,I1,r1,q1⟩=>?_))
 refine wpAny_bind (wpAny_holding (thn (hi pins s1 U H1 _ I1 q1) fun iv s2 ⟨y,H2,I2,r2,q2⟩=>?_))
 refine wpAny_bind (wpAny_standAt (wpAny_bind (wpAny_holding (thn (hs pins s2 U H2 x y v ov iv u _ I2 r1 r2 r q2) fun _ s3 ⟨H3,I3,q3⟩=>?_))))
 exact wpAny_release ⟨U,H3,I3,q3⟩
noncomputable def zp8 (te:TE) (g:TG):TS:=fun D U H=>te U H fun x H1=>g x U H1 D.nx
theorem zkg {tg e:Expr} {te:TE} {g:TG} (he:PE X e te) (hg:PG X tg g) (hs:swapsWithSole [tg] e pos.line X.env=pure false:=by rfl) (hw:swappedStores [tg] e X.env=pure none:=by rfl)
  (h1:(assignEach [tg] X.env).map (·.2)=[assign tg X.env]:=by rfl):PS X (.Assign [tg] e pos) (zp8 te g):=by
 intro pins s U H D I h
 refine wpAny_Assign_stores (thn (he pins s U H _ I h) fun v s1 ⟨x,H1,I1,r1,q1⟩=>?_) hs hw
 rw [h1]
 exact thn (hg pins s1 U H1 x v _ I1 r1 q1) fun _ s2 q=>q
theorem zkh {i:Nat} {x:Str} {e:Expr} {te:TE} {pos':Pos} (hN:X.N.Nodup) (hi:X.N[i]?=some x) (hx:Loc X.env.scope x) (he:PE X e te) (hs:swapsWith e (some (.Name x pos')) pos.line X.env=pure false:=by rfl) (hf:X.fn x=true\/X.env.scope.names.lookup x=some .local:=by first | exact .inl rfl | exact .inr rfl | assumption) :
  PS X (.Assign [.Name x pos'] e pos) (zp8 te (z66 i)):=by
 intro pins s U H D I h
 refine wpAny_Assign_Name (thn (he pins s U H _ I h) fun v s1 ⟨y,H1,I1,r1,q1⟩=>?_) hs
 exact z8m I1 hN hi hx r1 (fun s2 I2=>⟨_,H1,I2,q1⟩) hf
end
section
variable {X:Cx} {pos:Pos}
noncomputable def zki (c:TT) (tb:TS):TS:=fun D U H=>∃W:Nat->St->Hp->Prop,(∃m,W m U H)/\∀m U H,W m U H ->
 c U H fun b H1=>if b=true then ∃N:St->Hp->Prop,(∀σ' H',N σ' H'->∃m',m'<m/\W m' σ' H')/\tb { D with nx:=N,ct:=N,bk:=D.nx } U H1 else D.nx U H1
theorem zim {c:Expr} {body:List Stmt} {tc:TT} {tb:TS} (hp:PassesOwn (model X.prog X.w) X.A X.env X.xe) (hc:PT X c tc) (hb:PSs X body tb):PS X (.While c body [] pos) (zki tc tb):=by
 intro pins s U H D I h
 obtain ⟨W,⟨m0,w0⟩,turn⟩:=h
 refine wpAny_While (codeAny_whileLoop (fun n s'=>∃σ' H',Inv X pins σ' H' s'/\W n σ' H') ?_ m0 ⟨U,H,I,w0⟩)
 rintro n s1 ⟨σ1,H1,I1,w1⟩
 refine wpAny_passesOwn hp (thn (hc pins s1 σ1 H1 _ I1 (turn n σ1 H1 w1)) fun b s2 ⟨H2,I2,q2⟩=>?_)
 cases b with
 | true=>
  obtain ⟨N,hN,q2⟩:=q2
  rw [if_pos rfl]
  refine wpAny_passesOwn hp (thn (hb pins s2 σ1 H2 _ I2 q2) fun f s3 q3=>?_)
  cases f with
  | next=>
   obtain ⟨σ3,H3,I3,n3⟩:=q3
   obtain ⟨m',hm,w3⟩:=hN σ3 H3 n3
   exact ⟨m',hm,σ3,H3,I3,w3⟩
  | cont=>
   obtain ⟨σ3,H3,I3,n3⟩:=q3
   obtain ⟨m',hm,w3⟩:=hN σ3 H3 n3
   exact ⟨m',hm,σ3,H3,I3,w3⟩
  | brk=>exact q3
  | ret v=>exact q3
 | false=>
  rw [if_neg Bool.false_ne_true]
  exact wpAny_execs_nil ⟨σ1,H2,I2,q2⟩
end
structure It where
 go:Nat->Hp->Prop
 yld:Nat->Hp->V->Hp->Prop
 stop:Nat->Hp->Prop
def z9p (X:Cx) (pins:List (Addr×Obj)) (H:Hp) (b:Addr):Prop:=
 H b=none/\b≠X.env.locals/\b∉X.fs/\(b∈X.ex\/X.s₀.heap.objs.size<=b)/\(∀x c,X.env.cells.lookup x=some c->c≠b)/\∀p∈X.pn++pins,p.1≠b
theorem Inv.fpOk {X:Cx} {pins:List (Addr×Obj)} {U:St} {H H':Hp} {s:Shared} {b:Addr} (I:Inv X pins U H s) (hb:s.heap.objs.size<=b) (hn:H' b=none):z9p X pins H' b:=by
 refine ⟨hn,Nat.ne_of_gt (Nat.lt_of_lt_of_le I.lt hb),I.nofs hb,.inr (Nat.le_trans I.sz hb),fun x c e z=>?_,fun p hp z=>?_⟩
 . obtain ⟨v,q⟩:=I.cell x c e
   exact absurd (Nat.lt_of_lt_of_le q.lt (by rw [z];exact hb)) (Nat.lt_irrefl _)
 . exact absurd (Nat.lt_of_lt_of_le (Heap.lt_size (I.pin p hp).1) (by rw [z];exact hb)) (Nat.lt_irrefl _)
structure Turn (P:Program) (w:World) (K:Frag) (tg:Expr) (J:It) (fp:List Addr) (it:Addr) (tn:Nat->Heap->Prop):Prop where
 mem:it∈fp
 obj:∀i h,tn i h->∀b∈fp,∃o,h.get? b=some o/\∀v,o.data≠.cell v
 keep:∀i h h',tn i h->(∀b∈fp,∀o,h.get? b=some o->h'.get? b=some o)->tn i h'
 item:∀(X:Cx),X.prog=P->X.w=w->X.K=K->X.calm=true->∀(i:Nat) (pins:List (Addr×Obj)) (s:Shared) (U:St) (H:Hp) (E:Value->Shared->Prop),Inv X pins U H s->(∀b∈fp,z9p X pins H b)->tn i s.heap->J.go i H ->
  wpAny (model P w) X.A (pyNext (.ref it)) (fun r s1=>∃u,r=some u /\
   wpAny (model P w) X.A (letOwnedTupleGo tg (.ref it) u) (fun _ s2=>∃x H',Inv X pins U H' s2/\RelV x u/\J.yld i H x H'/\tn (i+1) s2.heap/\∀b∈fp,H' b=none) E s1) E s
 done:∀(X:Cx),X.prog=P->X.w=w->X.K=K->X.calm=true->∀(i:Nat) (pins:List (Addr×Obj)) (s:Shared) (U:St) (H:Hp) (E:Value->Shared->Prop),Inv X pins U H s->(∀b∈fp,z9p X pins H b)->tn i s.heap->J.stop i H ->
  wpAny (model P w) X.A (pyNext (.ref it)) (fun r s1=>r=none/\Inv X pins U H s1) E s
 self:∀(A:Around) (i:Nat) (s:Shared) (Q:Value->Shared->Prop) (E:Value->Shared->Prop),tn i s.heap->Q (.ref it) s->wpAny (model P w) A (pyIter (.ref it)) Q E s
abbrev TI:=St->Hp->(It->Hp->Prop)->Prop
def PIE (X:Cx) (pins:List (Addr×Obj)) (U:St) (tg:Expr) (R:It->Hp->Prop) (itv:Value) (s2:Shared):Prop:=
 ∃(it:Addr) (fp:List Addr) (tn:Nat->Heap->Prop) (J:It) (H':Hp),itv=.ref it/\Inv X pins U H' s2/\Turn X.prog X.w X.K tg J fp it tn/\tn 0 s2.heap/\(∀b∈fp,z9p X pins H' b)/\R J H'
def PI (X:Cx) (tg iter:Expr) (wi:TI):Prop:=
 ∀(pins:List (Addr×Obj)) (s:Shared) (U:St) (H:Hp) (R:It->Hp->Prop),Inv X pins U H s->wi U H R ->
  wpAny (model X.prog X.w) X.A (eval iter X.env) (fun v s1=>wpAny (model X.prog X.w) X.A (pyIter v) (PIE X pins U tg R) X.xe s1) X.xe s
theorem zm8 {M:Model} {A:Around} {E:Value->Shared->Prop} {s:Shared} {tg:Expr} {it:Addr} {u:Value} {o:Obj} {n:String} {vs:Array Value} {Q:Unit->Shared->Prop} (ho:s.heap.get? it=some o) (hc:o.cls=.type n) (hd:o.data=.fields vs)
  (hn:["enumerate","zip","dict_itemiterator","dict_reverseitemiterator","odict_iterator","itertools.zip_longest","itertools.pairwise"].contains n=false) (hQ:Q () s):wpAny M A (letOwnedTupleGo tg (.ref it) u) Q E s:=by
 unfold letOwnedTupleGo
 cases tg<;>first
  | exact wpAny_pure hQ
  | (cases u<;>first
   | exact wpAny_pure hQ
   | (refine wpAny_bind (wpAny_load ho ?_)
      rw [hc,hd]
      show wpAny M A (if (["enumerate","zip","dict_itemiterator","dict_reverseitemiterator","odict_iterator","itertools.zip_longest","itertools.pairwise"].contains n&&vs[0]?==some (rawInt _))=true then _ else _) Q E s
      rw [if_neg (by intro h;rw [hn,Bool.false_and] at h;cases h)]
      exact wpAny_pure hQ))
noncomputable def Itl (K:Frag) (a:Addr):It:=
 ⟨fun i H=>∃xs x,SqL K H a xs/\xs[i]?=some x,fun i H x H'=>H'=H/\∀xs,SqL K H a xs->xs[i]?=some x,fun i H=>∃xs,SqL K H a xs/\xs.length<=i⟩
noncomputable def Itt (K:Frag) (a:Addr):It:=
 ⟨fun i H=>∃xs x,SqT K H a xs/\xs[i]?=some x,fun i H x H'=>H'=H/\∀xs,SqT K H a xs->xs[i]?=some x,fun i H=>∃xs,SqT K H a xs/\xs.length<=i⟩
noncomputable def Itr (lo:Int) (n:Nat):It:=⟨fun i _=>i<n,fun i H x H'=>H'=H/\x=.int (lo+i),fun i _=>n<=i⟩
theorem zf6 {P:Program} {w:World} {K:Frag} {tg:Expr} (a it:Addr):Turn P w K tg (Itl K a) [it] it (fun i h=>h.IsListIter it a i) where
 mem:=by simp
 obj:=fun i h st b hb=>by
  have e:b=it:=by simpa using hb
  subst e
  obtain ⟨o,e,c,d⟩:=st
  exact ⟨o,e,fun v z=>by rw [d] at z;cases z⟩
 keep:=fun i h h' st k=>st.at fun o e=>k it (by simp) o e
 item:=by
  intro X hP hw hK hc i pins s U H E I hf st hg
  subst hP hw hK
  obtain ⟨xs,x,hq,hx⟩:=hg
  obtain ⟨its,rv,p,hz⟩:=I.list hq
  obtain ⟨u,hu,ru⟩:=rv.get hx
  obtain ⟨f0,f1,f2,f3,f4,f5⟩:=hf it (by simp)
  refine wpAny_pyNext_list_item st p.isList (x:=u) (by simpa using hu) fun h' st' sb=>?_
  have I1:Inv X pins U H { s with heap:=h' }:=I.turned (t':=s.toks) (fun b o hb e=>(sb.2 b hb).trans e) f0 f1 f3 f4 f5
  obtain ⟨o,e,c,d⟩:=id st'
  exact ⟨u,rfl,zm8 (s:={ s with heap:=h' }) e c d (by decide) ⟨x,H,I1,ru,⟨rfl,fun ys hy=>by rw [I.list_inj hy hq];exact hx⟩,st',fun b hb=>(hf b hb).1⟩⟩
 done:=by
  intro X hP hw hK hc i pins s U H E I hf st hg
  subst hP hw hK
  obtain ⟨xs,hq,hx⟩:=hg
  obtain ⟨its,rv,p,hz⟩:=I.list hq
  obtain ⟨f0,f1,f2,f3,f4,f5⟩:=hf it (by simp)
  have hl:=rv.length
  exact wpAny_pyNext_list_end (I.ok.hd hc) st p.isList (by simp;omega) fun h' eb=>⟨rfl,I.turned (t':=s.toks) (fun b o hb e=>eb b o hb e) f0 f1 f3 f4 f5⟩
 self:=fun _ _ _ _ _ st h=>wpAny_pyIter_listiter st h
theorem zdw {P:Program} {w:World} {K:Frag} {tg:Expr} (a it:Addr):Turn P w K tg (Itt K a) [it] it (fun i h=>h.IsTupleIter it a i) where
 mem:=by simp
 obj:=fun i h st b hb=>by
  have e:b=it:=by simpa using hb
  subst e
  obtain ⟨o,e,c,d⟩:=st
  exact ⟨o,e,fun v z=>by rw [d] at z;cases z⟩
 keep:=fun i h h' st k=>st.at fun o e=>k it (by simp) o e
 item:=by
  intro X hP hw hK hc i pins s U H E I hf st hg
  subst hP hw hK
  obtain ⟨xs,x,hq,hx⟩:=hg
  obtain ⟨its,rv,p,hz⟩:=I.tuple hq
  obtain ⟨u,hu,ru⟩:=rv.get hx
  obtain ⟨f0,f1,f2,f3,f4,f5⟩:=hf it (by simp)
  refine wpAny_pyNext_tuple_item st (show s.heap.IsTuple a its.toArray from p) (x:=u) (by simpa using hu) fun h' st' sb=>?_
  have I1:Inv X pins U H { s with heap:=h' }:=I.turned (t':=s.toks) (fun b o hb e=>(sb.2 b hb).trans e) f0 f1 f3 f4 f5
  obtain ⟨o,e,c,d⟩:=id st'
  exact ⟨u,rfl,zm8 (s:={ s with heap:=h' }) e c d (by decide) ⟨x,H,I1,ru,⟨rfl,fun ys hy=>by rw [I.tuple_inj hy hq];exact hx⟩,st',fun b hb=>(hf b hb).1⟩⟩
 done:=by
  intro X hP hw hK hc i pins s U H E I hf st hg
  subst hP hw hK
  obtain ⟨xs,hq,hx⟩:=hg
  obtain ⟨its,rv,p,hz⟩:=I.tuple hq
  obtain ⟨f0,f1,f2,f3,f4,f5⟩:=hf it (by simp)
  have hl:=rv.length
  exact wpAny_pyNext_tuple_end (I.ok.hd hc) st (show s.heap.IsTuple a its.toArray from p) (by simp;omega) fun h' eb=>⟨rfl,I.turned (t':=s.toks) (fun b o hb e=>eb b o hb e) f0 f1 f3 f4 f5⟩
 self:=fun _ _ _ _ _ st h=>wpAny_pyIter_tupleiter st h
theorem zdx {P:Program} {w:World} {K:Frag} {tg:Expr} (it:Addr) (lo:Int) (n:Nat):Turn P w K tg (Itr lo n) [it] it (fun i h=>IsRangeIter h it (lo+(i:Nat) * 1) ((n:Int) - (i:Nat)) 1) where
 mem:=by simp
 obj:=fun i h st b hb=>by
  have e:b=it:=by simpa using hb
  subst e
  exact ⟨_,st,fun v z=>by
   have z':Data.fields _=Data.cell v:=z
   cases z'⟩
 keep:=fun i h h' st k=>k it (by simp) _ st
 item:=by
  intro X hP hw hK hc i pins s U H E I hf st hg
  subst hP hw hK
  obtain ⟨f0,f1,f2,f3,f4,f5⟩:=hf it (by simp)
  have W:=Walks.range (prog:=X.prog) (w:=X.w) (I.ok.hd hc) it lo 1 n
  refine W.item i s _ _ hg st fun v h' tk hv st' kk=>?_
  obtain ⟨t,rfl⟩:=hv
  have I1:Inv X pins U H { s with heap:=h',toks:=tk }:=I.turned (fun b o hb e=>kk b o (by simpa using hb) e) f0 f1 f3 f4 f5
  refine ⟨_,rfl,zm8 (s:={ s with heap:=h',toks:=tk }) (n:="range_iterator") st' rfl rfl (by decide) ⟨.int (lo+i),H,I1,⟨t,?_⟩,⟨rfl,rfl⟩,st',fun b hb=>(hf b hb).1⟩⟩
  rw [Int.mul_one]
 done:=by
  intro X hP hw hK hc i pins s U H E I hf st hg
  subst hP hw hK
  obtain ⟨f0,f1,f2,f3,f4,f5⟩:=hf it (by simp)
  exact wpAny_pyNext_range_end (I.ok.hd hc) st (by have:n<=i:=hg;omega) fun h' eb=>⟨rfl,I.turned (t':=s.toks) (fun b o hb e=>eb b o hb e) f0 f1 f3 f4 f5⟩
 self:=fun _ _ _ _ _ st h=>wpAny_pyIter_rangeiter st h
section
variable {X:Cx} {tg:Expr}
theorem zcg {pins:List (Addr×Obj)} {U:St} {H:Hp} {s:Shared} {R:It->Hp->Prop} {E:Value->Shared->Prop} {lo hi:Int} {t u v:Tok} {tk:Nat} (I:Inv X pins U H s) (h1:-(2 ^ 62)<=lo) (h2:lo<2 ^ 62) (h3:-(2 ^ 62)<=hi) (h4:hi<2 ^ 62)
  (q:R (Itr lo (hi - lo).toNat) H):wpAny (model X.prog X.w) X.A (pyIter (.ref s.heap.objs.size)) (PIE X pins U tg R) E { s with heap:=s.heap.push { cls:=.type "range",data:=.fields #[.int lo t,.int hi u,.int 1 v] },toks:=tk }:=by
 refine wpAny_pyIter_range (IsRange.new ..) (small_one h1 h2 h3 h4) ?_
 have I1:Inv X pins U H { s with heap:=s.heap.push { cls:=.type "range",data:=.fields #[.int lo t,.int hi u,.int 1 v] },toks:=tk }:=I.kept fun b o e=>Heap.get?_push_of_some _ e
 refine ⟨(s.heap.push { cls:=.type "range",data:=.fields #[.int lo t,.int hi u,.int 1 v] }).objs.size,[(s.heap.push { cls:=.type "range",data:=.fields #[.int lo t,.int hi u,.int 1 v] }).objs.size],_,_,H,rfl,
  I1.kept (t':=tk) fun b o e=>Heap.get?_push_of_some _ e,zdx _ lo (hi - lo).toNat,?_,fun b hb=>?_,q⟩
 . have e1:lo+((0:Nat):Int) * 1=lo:=by simp
   have e2:(((hi - lo).toNat:Nat):Int) - ((0:Nat):Int)=Builtin.Range.rangeSize lo hi 1:=by rw [rangeSize_one];split<;>omega
   show IsRangeIter _ _ (lo+((0:Nat):Int) * 1) ((((hi - lo).toNat:Nat):Int) - ((0:Nat):Int)) 1
   rw [e1,e2]
   exact Heap.get?_push_size _ rfl
 . have e:b=(s.heap.push { cls:=.type "range",data:=.fields #[.int lo t,.int hi u,.int 1 v] }).objs.size:=by simpa using hb
   subst e
   exact I1.fpOk (Nat.le_refl _) (I1.hok.fresh (Nat.le_refl _))
noncomputable def zyi (wi:TI) (g:TG) (tb:TS):TS:=fun D U H=>wi U H fun J H1=>∃W:Nat->Nat->St->Hp->Prop,(∃m,W 0 m U H1)/\∀i m U H,W i m U H ->
 (J.stop i H/\D.nx U H)\/(J.go i H/\∃N:St->Hp->Prop,(∀σ' H',N σ' H'->∃m',m'<m/\W (i+1) m' σ' H')/\∀x H',J.yld i H x H'->g x U H' fun σ2 H2=>tb { D with nx:=N,ct:=N,bk:=D.nx } σ2 H2)
noncomputable def z9q (fp:List Addr) (h:Heap):List (Addr×Obj):=fp.filterMap fun b=>(h.get? b).map fun o=>(b,o)
theorem z4c {fp:List Addr} {h:Heap} {b:Addr} {o:Obj} (hb:b∈fp) (e:h.get? b=some o):(b,o)∈z9q fp h:=List.mem_filterMap.mpr ⟨b,hb,by rw [e];rfl⟩
theorem zf7 {fp:List Addr} {h:Heap} {p:Addr×Obj} (hp:p∈z9q fp h):p.1∈fp/\h.get? p.1=some p.2:=by
 obtain ⟨b,hb,e⟩:=List.mem_filterMap.mp hp
 cases q:h.get? b with
 | none=>rw [q] at e;cases e
 | some o=>
  rw [q] at e
  have e':(b,o)=p:=Option.some.inj e
  subst e'
  exact ⟨hb,q⟩
theorem Inv.pinned {pins:List (Addr×Obj)} {U:St} {H:Hp} {s:Shared} {fp:List Addr} (I:Inv X pins U H s) (hf:∀b∈fp,z9p X pins H b) (ho:∀b∈fp,∃o,s.heap.get? b=some o/\∀v,o.data≠.cell v):Inv X (pins++z9q fp s.heap) U H s:=
 I.pins_of fun p hp=>(List.mem_append.mp hp).elim (fun z=>I.pin p (List.mem_append_right _ z)) fun z=>by
  obtain ⟨hb,e⟩:=zf7 z
  obtain ⟨f0,f1,f2,_⟩:=hf p.1 hb
  obtain ⟨o,e',d⟩:=ho p.1 hb
  rw [e] at e';cases e'
  exact ⟨e,f0,f1,f2,d⟩
theorem Inv.unpinned {pins pl:List (Addr×Obj)} {U:St} {H:Hp} {s:Shared} (I:Inv X (pins++pl) U H s):Inv X pins U H s:=I.pins_of fun p hp=>I.pin p (List.mem_append_right _ (List.mem_append_left _ hp))
theorem zpr {iter:Expr} {body:List Stmt} {wi:TI} {g:TG} {tb:TS} {pos:Pos} (hp:PassesOwn (model X.prog X.w) X.A X.env X.xe) (hc:X.calm=true) (hi:PI X tg iter wi) (hg:PG X tg g) (hb:PSs X body tb)
  (hs:∀x,foldedSetIterable iter X.env x=pure x:=by intro _;rfl):PS X (.For tg iter body [] pos) (zyi wi g tb):=by
 intro pins s U H D I h
 refine wpAny_For (thn (hi pins s U H _ I h) fun v s1 h1=>thn h1 fun itv s2 h2=>?_) hs
 obtain ⟨it,fp,tn,J,H2,e,I2,T,st2,f2,W,⟨m0,w0⟩,turn⟩:=h2
 subst e
 have stat:∀{H':Hp},(∀b∈fp,H' b=none)->∀b∈fp,z9p X pins H' b:=fun hn b hb=>⟨hn b hb,(f2 b hb).2⟩
 refine codeAny_forLoop_any (fun n s'=>∃i σ' H',Inv X pins σ' H' s'/\tn i s'.heap/\(∀b∈fp,H' b=none)/\W i n σ' H') ?_ m0 ⟨0,U,H2,I2,st2,fun b hb=>(f2 b hb).1,w0⟩
 rintro n s3 ⟨i,σ3,H3,I3,st3,fr3,w3⟩
 rcases turn i n σ3 H3 w3 with ⟨stop,qn⟩ | ⟨go,N,hN,step⟩
 . refine wpAny_passesOwn hp (thn (T.done X rfl rfl rfl hc i pins s3 σ3 H3 X.xe I3 (stat fr3) st3 stop) fun r s4 ⟨hr,I4⟩=>?_)
   subst hr
   exact wpAny_execs_nil ⟨σ3,H3,I4,qn⟩
 . refine wpAny_passesOwn hp (thn (T.item X rfl rfl rfl hc i pins s3 σ3 H3 X.xe I3 (stat fr3) st3 go) fun r s4 ⟨u,hr,h4⟩=>?_)
   subst hr
   refine wpAny_passesOwn hp (thn h4 fun _ s5 ⟨x,H5,I5,r5,y5,st5,fr5⟩=>?_)
   have I5':=I5.pinned (stat fr5) (T.obj _ _ st5)
   refine wpAny_passesOwn hp (thn (hg _ s5 σ3 H5 x u _ I5' r5 (step x H5 y5)) fun _ s6 ⟨σ6,H6,I6,q6⟩=>?_)
   refine wpAny_passesOwn hp (thn (hb _ s6 σ6 H6 _ I6 q6) fun f s7 q7=>?_)
   have again:∀{σ7:St} {H7:Hp},Inv X (pins++z9q fp s5.heap) σ7 H7 s7->N σ7 H7->∃m,m<n/\∃i σ' H',Inv X pins σ' H' s7/\tn i s7.heap/\(∀b∈fp,H' b=none)/\W i m σ' H':=fun {σ7 H7} I7 n7=>by
    obtain ⟨m',hm,w7⟩:=hN σ7 H7 n7
    refine ⟨m',hm,i+1,σ7,H7,I7.unpinned,T.keep _ _ _ st5 fun b hb o e=>(I7.pin (b,o) (List.mem_append_right _ (List.mem_append_right _ (z4c hb e)))).1,fun b hb=>?_,w7⟩
    obtain ⟨o,e,d⟩:=T.obj _ _ st5 b hb
    exact (I7.pin (b,o) (List.mem_append_right _ (List.mem_append_right _ (z4c hb e)))).2.1
   cases f with
   | next=>obtain ⟨σ7,H7,I7,n7⟩:=q7;exact again I7 n7
   | cont=>obtain ⟨σ7,H7,I7,n7⟩:=q7;exact again I7 n7
   | brk=>obtain ⟨σ7,H7,I7,q7⟩:=q7;exact ⟨σ7,H7,I7.unpinned,q7⟩
   | ret v=>obtain ⟨x7,σ7,H7,I7,r7,q7⟩:=q7;exact ⟨x7,σ7,H7,I7.unpinned,r7,q7⟩
end
abbrev R2:=V->V->Hp->VK->Prop
def OpR (X:Cx) (f:Value->Value->Sem Value) (r:R2):Prop:=
 ∀(pins:List (Addr×Obj)) (s:Shared) (U:St) (H:Hp) (x y:V) (v u:Value) (Q:VK),Inv X pins U H s->RelV x v->RelV y u->r x y H Q ->
  wpAny (model X.prog X.w) X.A (f v u) (EP X pins U Q) X.xe s
def UnR (X:Cx) (f:Value->Sem Value) (r:V->Hp->VK->Prop):Prop:=
 ∀(pins:List (Addr×Obj)) (s:Shared) (U:St) (H:Hp) (x:V) (v:Value) (Q:VK),Inv X pins U H s->RelV x v->r x H Q ->
  wpAny (model X.prog X.w) X.A (f v) (EP X pins U Q) X.xe s
def CallR (X:Cx) (f:Value) (r:List V->Hp->VK->Prop):Prop:=
 ∀(pins:List (Addr×Obj)) (s:Shared) (U:St) (H:Hp) (xs:List V) (us:List Value) (Q:VK),Inv X pins U H s->Vals xs us->r xs H Q ->
  wpAny (model X.prog X.w) X.A (call f us) (EP X pins U Q) X.xe s
def zyj (X:Cx) (r:V->Hp->(Bool->Hp->Prop)->Prop):Prop:=
 ∀(pins:List (Addr×Obj)) (s:Shared) (U:St) (H:Hp) (x:V) (v:Value) (Q:Bool->Hp->Prop),Inv X pins U H s->RelV x v->r x H Q ->
  wpAny (model X.prog X.w) X.A (truthy v) (TP X pins U Q) X.xe s
noncomputable def tOp (r:R2) (ta tb:TE):TE:=fun U H Q=>ta U H fun x H1=>tb U H1 fun y H2=>r x y H2 Q
noncomputable def tUn (r:V->Hp->VK->Prop) (ta:TE):TE:=fun U H Q=>ta U H fun x H1=>r x H1 Q
noncomputable def rI (C:Int->Int->Prop) (g:Int->Int->V):R2:=fun x y H Q=>∃i j,x=.int i/\y=.int j/\C i j/\Q (g i j) H
noncomputable def rI0 (g:Int->Int->V):R2:=fun x y H Q=>∃i j,x=.int i/\y=.int j/\Q (g i j) H
def rU (g:Int->V):V->Hp->VK->Prop:=fun x H Q=>∃i,x=.int i/\Q (g i) H
section
variable {X:Cx} {a b c:Expr} {ta tb tc:TE} {pos:Pos}
theorem zup (ha:PE X a ta) (hb:PE X b tb) {pins:List (Addr×Obj)} {s:Shared} {U:St} {H:Hp} {R:V->V->Hp->Prop} (I:Inv X pins U H s)
  (h:ta U H fun x H1=>tb U H1 fun y H2=>R x y H2) {Q:Value->Shared->Prop} {f:Value->Value->Sem Value}
  (hf:∀v u s2 x y H2,Inv X pins U H2 s2->RelV x v->RelV y u->R x y H2->wpAny (model X.prog X.w) X.A (f v u) Q X.xe s2) :
  wpAny (model X.prog X.w) X.A (eval a X.env) (fun v s₁=>wpAny (model X.prog X.w) X.A (eval b X.env) (fun u s₂=>wpAny (model X.prog X.w) X.A (f v u) Q X.xe s₂) X.xe s₁) X.xe s:=by
 refine thn (ha pins s U H _ I h) fun v s1 ⟨x,H1,I1,r1,q1⟩=>?_
 refine thn (hb pins s1 U H1 _ I1 q1) fun u s2 ⟨y,H2,I2,r2,q2⟩=>?_
 exact hf v u s2 x y H2 I2 r1 r2 q2
theorem zuq {op:Operator} {r:R2} (ho:OpR X (binaryOp op) r) (ha:PE X a ta) (hb:PE X b tb):PE X (.BinOp a op b pos) (tOp r ta tb):=by
 intro pins s U H Q I h
 exact wpAny_BinOp (zup ha hb I h fun v u s2 x y H2 I2 rx ry q=>ho pins s2 U H2 x y v u Q I2 rx ry q)
theorem zur {op:UnaryOp} {r:V->Hp->VK->Prop} (ho:UnR X (unaryOp op) r) (ha:PE X a ta):PE X (.UnaryOp op a pos) (tUn r ta):=by
 intro pins s U H Q I h
 exact UnaryOp_ (thn (ha pins s U H _ I h) fun v s1 ⟨x,H1,I1,r1,q1⟩=>ho pins s1 U H1 x v Q I1 r1 q1)
theorem opI {f:Value->Value->Sem Value} {C:Int->Int->Prop} {g:Int->Int->Int}
  (rule:∀(i j:Int) (t u:Tok) (s:Shared) (Q:Value->Shared->Prop) (E:Value->Shared->Prop),C i j->Q (.int (g i j) s.toks) { s with toks:=s.toks+1 }->wpAny (model X.prog X.w) X.A (f (.int i t) (.int j u)) Q E s) :
  OpR X f (rI C fun i j=>.int (g i j)):=by
 intro pins s U H x y v u Q I rx ry h
 obtain ⟨i,j,rfl,rfl,hc,q⟩:=h
 obtain ⟨t,rfl⟩:=rx
 obtain ⟨t',rfl⟩:=ry
 exact rule i j t t' s _ _ hc ⟨.int (g i j),H,I.tok _,⟨_,rfl⟩,q⟩
theorem zxo {f:Value->Value->Sem Value} {g:Int->Int->Int}
  (rule:∀(i j:Int) (t u:Tok) (s:Shared) (Q:Value->Shared->Prop) (E:Value->Shared->Prop),Q (.int (g i j) s.toks) { s with toks:=s.toks+1 }->wpAny (model X.prog X.w) X.A (f (.int i t) (.int j u)) Q E s) :
  OpR X f (rI0 fun i j=>.int (g i j)):=by
 intro pins s U H x y v u Q I rx ry h
 obtain ⟨i,j,rfl,rfl,q⟩:=h
 obtain ⟨t,rfl⟩:=rx
 obtain ⟨t',rfl⟩:=ry
 exact rule i j t t' s _ _ ⟨.int (g i j),H,I.tok _,⟨_,rfl⟩,q⟩
theorem zxp {f:Value->Value->Sem Value} {g:Int->Int->Bool}
  (rule:∀(i j:Int) (t u:Tok) (s:Shared) (Q:Value->Shared->Prop) (E:Value->Shared->Prop),Q (.bool (g i j)) s->wpAny (model X.prog X.w) X.A (f (.int i t) (.int j u)) Q E s) :
  OpR X f (rI0 fun i j=>.bl (g i j)):=by
 intro pins s U H x y v u Q I rx ry h
 obtain ⟨i,j,rfl,rfl,q⟩:=h
 obtain ⟨t,rfl⟩:=rx
 obtain ⟨t',rfl⟩:=ry
 exact rule i j t t' s _ _ ⟨.bl (g i j),H,I,rfl,q⟩
def zm9 (i j:Int):Prop:=0<j/\j<1073741824
def zma (i j:Int):Prop:=0<=j/\j<=1000000/\i.natAbs<2 ^ 64
def CMul (i j:Int):Prop:=(-(2 ^ 64)<i/\i<2 ^ 64)\/(-(2 ^ 64)<j/\j<2 ^ 64)
theorem CMul.ok {i j:Int} (h:CMul i j):IntMulOk i j:=by
 rcases h with ⟨h1,h2⟩ | ⟨h1,h2⟩
 . exact .of_left (intBits_le_64 h1 h2)
 . exact .of_right (intBits_le_64 h1 h2)
theorem op_add:OpR X (binaryOp .Add) (rI0 fun i j=>.int (i+j)):=zxo fun _ _ _ _ _ _ _ q=>add_int q
theorem op_sub:OpR X (binaryOp .Sub) (rI0 fun i j=>.int (i - j)):=zxo fun _ _ _ _ _ _ _ q=>sub_int q
theorem op_mul:OpR X (binaryOp .Mult) (rI CMul fun i j=>.int (i * j)):=opI fun _ _ _ _ _ _ _ hc q=>mul_int q hc.ok
theorem op_fdiv:OpR X (binaryOp .FloorDiv) (rI zm9 fun i j=>.int (i / j)):=opI fun i j _ _ _ _ _ hc q=>by
 have h1:(0:Int)<j:=hc.1
 have h2:j<1073741824:=hc.2
 exact floordiv_int (by omega) (by rw [Int.fdiv_eq_ediv_of_nonneg i (by omega)];exact q) (.inl (PyProof.noPylong_small (by omega)))
theorem op_mod:OpR X (binaryOp .Mod) (rI (fun _ j=>0<j) fun i j=>.int (i % j)):=opI fun i j _ _ _ _ _ hc q=>by
 have h1:(0:Int)<j:=hc
 exact mod_int' (by omega) (by rw [Int.fmod_eq_emod_of_nonneg i (by omega)];exact q)
theorem op_pow:OpR X (binaryOp .Pow) (rI zma fun i j=>.int (i ^ j.toNat)):=opI fun _ _ _ _ _ _ _ hc q=>pow_int_small hc.1 hc.2.1 hc.2.2 q
theorem unI {f:Value->Sem Value} {g:Int->Int}
  (rule:∀(i:Int) (t:Tok) (s:Shared) (Q:Value->Shared->Prop) (E:Value->Shared->Prop),Q (.int (g i) s.toks) { s with toks:=s.toks+1 }->wpAny (model X.prog X.w) X.A (f (.int i t)) Q E s) :
  UnR X f (rU fun i=>.int (g i)):=by
 intro pins s U H x v Q I rx h
 obtain ⟨i,rfl,q⟩:=h
 obtain ⟨t,rfl⟩:=rx
 exact rule i t s _ _ ⟨.int (g i),H,I.tok _,⟨_,rfl⟩,q⟩
theorem un_neg:UnR X (unaryOp .USub) (rU fun i=>.int (-i)):=unI fun _ _ _ _ _ q=>neg_int q
end
section
variable {X:Cx} {a b c:Expr} {ta tb tc:TE} {pos:Pos}
theorem op_lt:OpR X (compareOp .Lt) (rI0 fun i j=>.bl (decide (i<j))):=zxp fun _ _ _ _ _ _ _ q=>lt_int q
theorem op_gt:OpR X (compareOp .Gt) (rI0 fun i j=>.bl (decide (j<i))):=zxp fun _ _ _ _ _ _ _ q=>gt_int q
theorem z1q (b:Expr) {op:CmpOp} (h:op≠.In:=by decide) (h2:op≠.NotIn:=by decide):behindInMarks op b=false:=by
 have e1:(op==CmpOp.In)=false:=by cases op<;>first | rfl | exact absurd rfl h
 have e2:(op==CmpOp.NotIn)=false:=by cases op<;>first | rfl | exact absurd rfl h2
 cases b<;>simp [behindInMarks,e1,e2]
theorem zmb {op:CmpOp} {r:R2} (ho:OpR X (compareOp op) r) (ha:PE X a ta) (hb:PE X b tb) (hm:behindInMarks op b=false):PE X (.Compare a [op] [b] pos) (tOp r ta tb):=by
 intro pins s U H Q I h
 exact wpAny_Compare1 (zup ha hb I h fun v u s2 x y H2 I2 rx ry q=>ho pins s2 U H2 x y v u Q I2 rx ry q) hm
def zxq (K:Frag) (x:V) (H:Hp) (k:Bool):Prop:=
 match x with
 | .non=>k=false
 | .bl b=>k=b
 | .int i=>k=(i != 0)
 | .str y=>y.length<=sizeLine/\k=((y.length:Int) != 0)
 | .byt y=>y.size<=sizeLine/\k=((y.size:Int) != 0)
 | .ref p=>(∃xs,SqL K H p xs/\k=!xs.isEmpty)\/(∃xs,SqT K H p xs/\k=!xs.isEmpty)\/∃kvs,H p=some (.dK kvs)/\k=!kvs.isEmpty
 | _=>False
theorem zdy {κ:Type} {kvs:List (κ×V)} {vs:List (κ×Value)} (r:KV kvs vs):(!vs.isEmpty)=!kvs.isEmpty:=by
 cases r<;>rfl
theorem z7z {xs:List V} {its:List Value} (r:Vals xs its):(!its.toArray.isEmpty)=!xs.isEmpty:=by
 cases r<;>simp
theorem z80:(sizeLine:Nat)<2 ^ 63:=by rw [sizeLine_eq];decide
theorem zkj:zyj X (fun x H Q=>∃k,zxq X.K x H k/\Q k H):=by
 intro pins s U H x v Q I rx h
 obtain ⟨k,e,q⟩:=h
 have hl:=z80
 have hs:sizeLine=16777216:=sizeLine_eq
 cases x with
 | non=>
  cases rx
  have e':k=false:=e
  subst e'
  exact truthy_none ⟨H,I,q⟩
 | bl b=>
  cases rx
  have e':k=b:=e
  subst e'
  exact wpAny_truthy_bool ⟨H,I,q⟩
 | int i=>
  obtain ⟨t,rfl⟩:=rx
  have e':k=(i != 0):=e
  subst e'
  exact PySem.P.truthy_int ⟨H,I,q⟩
 | str y=>
  obtain ⟨t,rfl⟩:=rx
  obtain ⟨hy,e'⟩:y.length<=sizeLine/\k=((y.length:Int) != 0):=e
  subst e'
  exact PySem.P.truthy_str (by omega) ⟨H,I.tok _,q⟩
 | byt y=>
  obtain ⟨t,rfl⟩:=rx
  obtain ⟨hy,e'⟩:y.size<=sizeLine/\k=((y.size:Int) != 0):=e
  subst e'
  exact PySem.W.truthy_bytes (by omega) ⟨H,I.tok _,q⟩
 | ref p=>
  cases rx
  have e':(∃xs,SqL X.K H p xs/\k=!xs.isEmpty)\/(∃xs,SqT X.K H p xs/\k=!xs.isEmpty)\/∃kvs,H p=some (.dK kvs)/\k=!kvs.isEmpty:=e
  rcases e' with ⟨xs,hx,e'⟩ | ⟨xs,hx,e'⟩ | ⟨kvs,hx,e'⟩
  . subst e'
    obtain ⟨its,r,pl,hz⟩:=I.list hx
    have hlen:=r.length
    exact wpAny_truthy_list pl.isList (by simp only [List.size_toArray];omega) ⟨H,I.tok _,by rw [z7z r];exact q⟩
  . subst e'
    obtain ⟨its,r,pl,hz⟩:=I.tuple hx
    have hlen:=r.length
    exact truthy_tuple pl (by simp only [List.size_toArray];omega) ⟨H,I.tok _,by rw [z7z r];exact q⟩
  . subst e'
    obtain ⟨hz,hS,vs,r,m⟩:kvs.length<=sizeLine/\(p==sysModules)=false/\∃vs,KV kvs vs/\s.heap.DictOf (z30 X.prog X.w) p vs:=I.hok p _ hx
    have hlen:kvs.length=vs.length:=Paired.length r
    exact wpAny_truthy_dict hS m (by omega) ⟨H,I.tok _,by rw [zdy r];exact q⟩
 | _=>exact (show False from e).elim
theorem z6m {x:V} {us:List Value} (r:Vals [x] us):∃u,us=[u]/\RelV x u:=by
 cases r with
 | cons r1 r2=>cases r2;exact ⟨_,rfl,r1⟩
theorem zmc {x y:V} {us:List Value} (r:Vals [x,y] us):∃u w',us=[u,w']/\RelV x u/\RelV y w':=by
 cases r with
 | cons r1 r2=>
  cases r2 with
  | cons r3 r4=>cases r4;exact ⟨_,_,rfl,r1,r3⟩
end
structure ObjM (h:Heap) (x dx C:Addr) (mA:Str->Option Value):Prop where
 obj:h.get? x=some (PySem.W.instObj C dx)
 ns:h.Ns1 dx mA
 ne:dx≠x
theorem zf8 {h:Heap} {dx:Addr} {mA:Str->Option Value} (n:h.Ns1 dx mA):∃od,h.get? dx=some od/\∀name,PySem.W.lookIn name od=some (mA name):=by
 obtain ⟨o,es,ep,ho,hd,hk,_,hm⟩:=n
 refine ⟨o,ho,fun name=>?_⟩
 have e:=hm name
 unfold nsFind findBy at e
 rw [<-Array.find?_toList] at e
 unfold PySem.W.lookIn
 rw [hd]
 dsimp only
 split
 . rename_i y q
   rw [q] at e
   exact congrArg some e
 . rename_i q
   rw [q] at e
   have a:es.toList.any (·.refKey)=false:=by
    rw [List.any_eq_false]
    intro y hy
    obtain ⟨z,t,hkey⟩:=hk y (Array.mem_toList_iff.mp hy)
    simp [DictEntry.refKey,hkey]
   have a':¬es.toList.any (·.refKey)=true:=by rw [a];exact Bool.false_ne_true
   rw [if_neg a']
   exact congrArg some e
theorem ObjM.look {h:Heap} {x dx C:Addr} {mA:Str->Option Value} (I:ObjM h x dx C mA):∃od,PySem.W.InstAt h x (PySem.W.instObj C dx) C (some od)/\∀name,PySem.W.lookIn name od=some (mA name):=
 let ⟨od,ho,hl⟩:=zf8 I.ns
 ⟨od,⟨I.obj,rfl,rfl,ho⟩,hl⟩
theorem RelO.some_of {v:V} {o:Option Value} (r:RelO (some v) o):∃u,o=some u/\RelV v u:=by
 cases o with
 | none=>exact (show False from r).elim
 | some u=>exact ⟨u,rfl,r⟩
section
variable {P:Program} {w:World} {H H':Hp} {h h':Heap} {a C dx:Addr} {fs fs':List (Str×V)}
theorem zmd (hok:HOk P w H h) (e:H a=some (.ins C dx fs)):∃mA,ObjM h a dx C mA/\(∀f,RelO (fs.lookup f) (mA f))/\PySem.Within mA (fs.map (·.1))/\fs.length<=1000/\H dx=some (.own a):=by
 obtain ⟨d,z,ne,ob,mA,n,r,q⟩:=(show ObjOk P w H h a (.ins C dx fs) from hok a _ e)
 exact ⟨mA,⟨ob,n,ne⟩,r,q,z,d⟩
end
structure Cls (K:Frag) (C:Addr):Prop where
 pg:PySem.W.plainGet K C Str.empty=true
 hd:PySem.W.hasDictIn K C=true
 po:PySem.W.plainOver K C=true
 sa:PySem.W.findIn K (.ref C) "__setattr__"=some (some (.builtin "object.__setattr__"))
theorem Cls.get {K:Frag} {C:Addr} (c:Cls K C) (f:Str):PySem.W.plainGet K C f=true:=c.pg
section
variable {X:Cx} {pins:List (Addr×Obj)} {U:St} {H:Hp} {s:Shared} {A:Around} {E:Value->Shared->Prop} {Q:Value->Shared->Prop} {c:Value} {b:Bool}
inductive TyOf (K:Frag) (H:Hp):V->Value->Prop where
 | non:TyOf K H .non (.type "NoneType")
 | bl (x:Bool):TyOf K H (.bl x) (.type "bool")
 | int (i:Int):TyOf K H (.int i) (.type "int")
 | str (x:Str):TyOf K H (.str x) (.type "str")
 | flt (x:UInt64):TyOf K H (.flt x) (.type "float")
 | lst {a:Addr} {xs:List V} (e:H a=some (.lst xs)):TyOf K H (.ref a) (.type "list")
 | frz {a:Addr} {o:Obj} {xs:List V} (e:H a=some (.frz o (.lst xs))):TyOf K H (.ref a) (.type "list")
 | tup {a:Addr} {xs:List V} (e:H a=some (.tup xs)):TyOf K H (.ref a) (.type "tuple")
 | dK {a:Addr} {kvs:List (Key×V)} (e:H a=some (.dK kvs)):TyOf K H (.ref a) (.type "dict")
 | dT {a:Addr} {kvs:List (List Key×V)} (e:H a=some (.dT kvs)):TyOf K H (.ref a) (.type "dict")
 | ins {a C dx:Addr} {fs:List (Str×V)} (e:H a=some (.ins C dx fs)) (cl:Cls K C) (ha:PySem.W.findIn K (.ref C) "__class__"=some (some (.builtin "object.__class__")))
  (hn:PySem.W.specialIn K (.builtin "object.__class__") "__get__"=some (some (.builtin "getset_descriptor.__get__"))) (htk:PySem.W.takesIn K (.builtin "object.__class__")=some true)
  (hm:mroIn K C (.type "object")=some true):TyOf K H (.ref a) (.ref C)
theorem z23 {x:V} {u t:Value} (I:Inv X pins U H s) (rx:RelV x u) (ty:TyOf X.K H x t) (e:kitOne X.K t c=some b) (h:∀tk,Q (.bool b) { s with toks:=tk }) :
  wpAny (model X.prog X.w) A (call (.builtin "isinstance") [u,c]) Q E s:=by
 cases ty with
 | non=>cases (show u=Value.none from rx);exact kia_one PySem.W.kitx_none I.kIn True.intro e (fun z=>nomatch z) h
 | bl y=>cases (show u=Value.bool y from rx);exact kia_one PySem.W.kitx_bool I.kIn True.intro e (fun z=>nomatch z) h
 | int i=>obtain ⟨t,q⟩:=(show ∃t,u=Value.int i t from rx);cases q;exact kia_one PySem.W.kitx_int I.kIn True.intro e (fun z=>nomatch z) h
 | str y=>obtain ⟨t,q⟩:=(show ∃t,u=Value.str y t from rx);cases q;exact kia_one PySem.W.kitx_str I.kIn True.intro e (fun z=>nomatch z) h
 | flt y=>obtain ⟨t,q⟩:=(show ∃t,u=Value.float y t from rx);cases q;exact kia_one PySem.W.kitx_float I.kIn True.intro e (fun z=>nomatch z) h
 | @lst a xs ea=>
  cases (show u=Value.ref a from rx)
  obtain ⟨_,_,n,_,h1⟩:=(show ObjOk X.prog X.w H s.heap a (.lst xs) from I.hok a _ ea)
  exact kia_one PySem.W.kitx_list I.kIn ⟨_,h1,rfl⟩ e (fun z=>nomatch z) h
 | @frz a ob xs ea=>
  cases (show u=Value.ref a from rx)
  obtain ⟨_,_,_,n,_,h1⟩:=(show ObjOk X.prog X.w H s.heap a (.frz ob (.lst xs)) from I.hok a _ ea)
  exact kia_one PySem.W.kitx_list I.kIn ⟨_,h1,rfl⟩ e (fun z=>nomatch z) h
 | @tup a xs ea=>
  cases (show u=Value.ref a from rx)
  obtain ⟨_,_,_,p⟩:=(show ObjOk X.prog X.w H s.heap a (.tup xs) from I.hok a _ ea)
  obtain ⟨o,h1,h2,_⟩:=p
  exact kia_one PySem.W.kitx_tuple I.kIn ⟨o,h1,h2⟩ e (fun z=>nomatch z) h
 | @dK a kvs ea=>
  cases (show u=Value.ref a from rx)
  obtain ⟨_,_,vs,_,p⟩:=(show ObjOk X.prog X.w H s.heap a (.dK kvs) from I.hok a _ ea)
  obtain ⟨o,es,ep,h1,h2,_⟩:=p
  exact kia_one PySem.W.kitx_dict I.kIn ⟨o,h1,h2.1⟩ e (fun z=>nomatch z) h
 | @dT a kvs ea=>
  cases (show u=Value.ref a from rx)
  obtain ⟨_,_,xs,_,o,es,ep,h1,h2,_⟩:=(show ObjOk X.prog X.w H s.heap a (.dT kvs) from I.hok a _ ea)
  exact kia_one PySem.W.kitx_dict I.kIn ⟨o,h1,h2.1⟩ e (fun z=>nomatch z) h
 | @ins a C dx fs ea cl ha hn htk hm=>
  cases (show u=Value.ref a from rx)
  obtain ⟨mA,O,_⟩:=zmd I.hok ea
  obtain ⟨od,J,_⟩:=O.look
  exact kia_one (PySem.W.kitx_own (cl.get _) cl.hd ha hn htk hm) I.kIn J e (fun z=>nomatch z) h
end
structure Room (k:Nat) (A:Around):Prop where
 hd:A.handled=none
 dp:A.depth+3 * k+5<recursionLimit
 un:A.units+16 * k+200<cLine
theorem Room.mono {j k:Nat} {A:Around} (r:Room k A) (h:j<=k):Room j A:=⟨r.hd,by have:=r.dp;omega,by have:=r.un;omega⟩
theorem Room.deeper {k:Nat} {A:Around} (r:Room (k+1) A) (env:Env):Room k (A.deeper env):=
 ⟨r.hd,by have:=r.dp;show A.depth+1+3 * k+5<_;omega,by have:=r.un;show A.units+3+16 * k+200<_;omega⟩
theorem Room.depth {k:Nat} {A:Around} (r:Room k A):A.depth<recursionLimit:=by have:=r.dp;omega
theorem Room.units {k:Nat} {A:Around} (r:Room k A):A.units+64<cLine:=by have:=r.un;omega
noncomputable def zub:TA:=fun _ H Q=>Q [] H
noncomputable def z9r (ta:TE) (tr:TA):TA:=fun U H Q=>ta U H fun x H1=>tr U H1 fun xs H2=>Q (x::xs) H2
section
variable {X:Cx} {e:Expr} {es:List Expr} {te:TE} {t:TA} {pos:Pos}
theorem pa_nil:PA X [] zub:=fun _ _ _ _ H Q I h=>Calls.spliced_nil ⟨[],H,I,.nil,h⟩
theorem z5j (ha:PE X e te) (hr:PA X es t) (hs:starEach (e::es) X.env=(false,eval e X.env)::starEach es X.env:=by rfl):PA X (e::es) (z9r te t):=by
 intro pos pins s U H Q I h
 rw [hs]
 show wpAny _ _ (spliced ((false,eval e X.env)::backTo pos (starEach es X.env))) _ _ s
 refine Calls.spliced_cons (thn (ha pins s U H _ I h) fun u s1 ⟨x,H1,I1,r1,q1⟩=>?_)
 exact thn (hr pos pins s1 U H1 _ I1 q1) fun us s2 ⟨xs,H2,I2,r2,q2⟩=>⟨x::xs,H2,I2,.cons r1 r2,q2⟩
noncomputable def zxr (t:TA):TE:=fun U H Q=>t U H fun xs H1=>xs.length<=sizeLine/\∀p,H1 p=none->Q (.ref p) (upd H1 p (.tup xs))
noncomputable def zxs (t:TA):TE:=fun U H Q=>t U H fun xs H1=>xs.length<=sizeLine/\∀p,H1 p=none->Q (.ref p) (upd H1 p (.lst xs))
theorem zps {x1} (h:PA X es t):PE X (.Tuple es x1 pos) (zxr t):=by
 intro pins s U H Q I hq
 refine wpAny_Tuple_spliced (thn (h pos pins s U H _ I hq) fun us s1 ⟨xs,H1,I1,r,z,q⟩=>⟨by rw [<-r.length];exact z,?_⟩)
 have hf:H1 s1.heap.objs.size=none:=I1.hok.fresh (Nat.le_refl _)
 refine ⟨.ref s1.heap.objs.size,upd H1 s1.heap.objs.size (.tup xs),I1.laid (t':=s1.toks) (fun b u e=>Heap.get?_push_of_some _ e) (Nat.le_refl _) ?_,rfl,q _ hf⟩
 exact ⟨z,us,r,⟨_,Heap.get?_push_size _ rfl,rfl,_,rfl⟩⟩
theorem zpt (h:PA X es t):PE X (.List es pos) (zxs t):=by
 intro pins s U H Q I hq
 refine wpAny_List_spliced (thn (h pos pins s U H _ I hq) fun us s1 ⟨xs,H1,I1,r,z,q⟩=>⟨by rw [<-r.length];exact z,?_⟩)
 have hf:H1 s1.heap.objs.size=none:=I1.hok.fresh (Nat.le_refl _)
 refine ⟨.ref s1.heap.objs.size,upd H1 s1.heap.objs.size (.lst xs),I1.laid (t':=s1.toks) (fun b u e=>Heap.get?_push_of_some _ e) (Nat.le_refl _) ?_,rfl,q _ hf⟩
 exact ⟨z,us,0,r,Heap.get?_push_size _ rfl⟩
end
abbrev Sp:=List V->Hp->VK->XK->Prop
abbrev CXT:=List Env->Hp->Shared->XK->Value->Shared->Prop
structure Env0 (P:Program) (w:World) (K:Frag) (mg:Str->Option Value) (base:Heap) (A:Around) (outer:List Env) (s:Shared) (H:Hp):Prop where
 frames:A.frames=some outer
 mod:Mod K mg base
 bs:∀b o,base.get? b=some o->s.heap.get? b=some o/\H b=none
 bsz:base.objs.size<=s.heap.objs.size
 funs:s.heap.FunFrames base outer
 frf:∀b∈frs outer,H b=none
 hok:HOk P w H s.heap
 bare:AllBare s.gens
def CE (outer:List Env) (P:Program) (w:World) (H:Hp) (s:Shared) (Q:VK) (u:Value) (s':Shared):Prop:=
 ∃v H',s'.os=s.os/\AllBare s'.gens/\Un (frs outer) [] H H' s.heap s'.heap/\HOk P w H' s'.heap/\RelV v u/\Q v H'
def CR (CX:CXT) (outer:List Env) (P:Program) (w:World) (H:Hp) (s:Shared) (Q:VK) (E:XK) (r:Result) (s':Shared):Prop:=
 match r with
 | .ok (.ret u)=>CE outer P w H s Q u s'
 | .ok _=>False
 | .error e=>CX outer H s E e s'
structure FnOk (P:Program) (w:World) (K:Frag) (mg:Str->Option Value) (base:Heap) (CX:CXT) (k:Nat) (f:Addr) (fd:FuncData) (ps:List Str) (sp:Sp):Prop where
 len:∀vs H Q E,sp vs H Q E->vs.length=ps.length
 run:∀(A:Around) (outer:List Env) (s:Shared) (H:Hp) (args:Args) (us:List Value) (vs:List V) (Q:VK) (E:XK),Room k A->Env0 P w K mg base A outer s H->BindsTo s fd args (ps.zip us)->Vals vs us->sp vs H Q E ->
  codeAny (model P w) A (.call (.ref f) args) (CR CX outer P w H s Q E) s
theorem FnOk.imp {P:Program} {w:World} {K:Frag} {mg:Str->Option Value} {base:Heap} {CX:CXT} {k:Nat} {f:Addr} {fd:FuncData} {ps:List Str} {sp sp':Sp} (F:FnOk P w K mg base CX k f fd ps sp)
  (h:∀vs H Q E,sp' vs H Q E->sp vs H Q E):FnOk P w K mg base CX k f fd ps sp':=
 ⟨fun vs H Q E q=>F.len vs H Q E (h _ _ _ _ q),fun A outer s H args us vs Q E hr he hb hv hs=>F.run A outer s H args us vs Q E hr he hb hv (h _ _ _ _ hs)⟩
section
variable {X:Cx} {pins:List (Addr×Obj)} {U:St} {H:Hp} {s s':Shared}
theorem Inv.env0 (I:Inv X pins U H s):Env0 X.prog X.w X.K X.mg X.base X.A X.stack s H:=
 ⟨I.ok.frames,I.ok.mod,I.bs,Nat.le_trans I.ok.bsz I.sz,I.stack,I.stkFree,I.hok,I.bare⟩
theorem Inv.after {Q:VK} {u:Value} (I:Inv X pins U H s) (h:CE X.stack X.prog X.w H s Q u s'):EP X pins U Q u s':=by
 obtain ⟨v,H',os,bare,un,hok,r,q⟩:=h
 obtain ⟨hh,g,d,t,os'⟩:=s'
 obtain rfl:os'=s.os:=os
 exact ⟨v,H',I.call (h':=hh) (g':=g) (d':=d) (t':=t) (ch:=[]) un hok bare (fun b z=>absurd z (by simp)),r,q⟩
end
noncomputable def zpu (sp:Sp) (dvs:List V) (E:XK) (t:TA):TE:=fun U H Q=>t U H fun vs H1=>sp (vs++dvs) H1 Q E
def Binds (K:Frag) (fd:FuncData) (ps:List Str) (ds:List Value):Prop:=
 ∀(s:Shared) (us:List Value),K.In s.heap->(us++ds).length=ps.length->BindsTo s fd ⟨us,[]⟩ (ps.zip (us++ds))
theorem Binds.all {K:Frag} {fd:FuncData} {ps:List Str} (h:∀us:List Value,us.length=ps.length->bindArgs fd ⟨us,[]⟩=pure (ps.zip us)):Binds K fd ps []:=fun s us _ hl=>by
 rw [List.append_nil] at hl ⊢
 exact .of_eq (h us hl)
def zch (CX:CXT) (X:Cx) (E:XK):Prop:=∀(pins:List (Addr×Obj)) (U:St) (H:Hp) (s:Shared) (e:Value) (s':Shared),Inv X pins U H s->CX X.stack H s E e s'->X.xe e s'
section
variable {X:Cx} {CX:CXT} {k:Nat} {f C:Addr} {fd:FuncData} {ps:List Str} {sp:Sp} {dvs:List V} {ds:List Value} {E:XK} {x m:Str} {p pos apos:Pos} {e o:Expr} {es:List Expr} {ta:TE} {t:TA}
theorem zpv {pins:List (Addr×Obj)} {U:St} {H:Hp} {s:Shared} {Q:VK} {us:List Value} {vs:List V} (F:FnOk X.prog X.w X.K X.mg X.base CX k f fd ps sp) (hr:Room k X.A) (hb:Binds X.K fd ps ds) (hd:Vals dvs ds) (hx:zch CX X E)
  (I:Inv X pins U H s) (r:Vals vs us) (h:sp (vs++dvs) H Q E):wpAny (model X.prog X.w) X.A (call (.ref f) us) (EP X pins U Q) X.xe s:=by
 have r2:Vals (vs++dvs) (us++ds):=r.append hd
 have hl:(us++ds).length=ps.length:=by rw [<-r2.length];exact F.len _ _ _ _ h
 refine wpAny_call (codeAny_mono (F.run X.A X.stack s H ⟨us,[]⟩ (us++ds) (vs++dvs) Q E hr I.env0 (hb s us I.kIn hl) r2 h) fun r s' hq=>?_)
 cases r with
 | error e=>exact hx pins U H s e s' I hq
 | ok fl=>
  cases fl with
  | ret u=>exact I.after hq
  | next=>exact False.elim hq
  | brk=>exact False.elim hq
  | cont=>exact False.elim hq
theorem zme (F:FnOk X.prog X.w X.K X.mg X.base CX k f fd ps sp) (hr:Room k X.A) (hg:Gl X x) (hm:X.mg x=some (.ref f)) (hk:keepIn X.K (.ref f)=true) (hb:Binds X.K fd ps ds) (hd:Vals dvs ds) (hx:zch CX X E)
  (ha:PA X (e::es) t) (hdb:(x==("__debug__":Str))=false:=by decide) (he:starEach (e::es) X.env=(false,eval e X.env)::starEach es X.env:=by rfl) (hpl:(backTo pos (starEach es X.env)).any (·.1)=false:=by rfl) :
  PE X (.Call (.Name x p) (e::es) [] pos) (zpu sp dvs E t):=by
 intro pins s U H Q I h
 refine wpAny_Call_Name_kw (z6k I hg hm ?_ hdb)
 refine PySem.W.callWith_K (h₀:=X.base) I.ok.mod.kin hk (thn (ha pos pins s U H _ I h) fun us s1 ⟨vs,H1,I1,r,q⟩=>⟨I1.kIn,?_⟩) he hpl
 exact zpv F hr hb hd hx I1 r q
end
structure FnScope (N P:List Str) (sc:Scope):Prop where
 kind:sc.kind=.function
 co:sc.isCoroutine=false
 gen:sc.isGenerator=false
 nd:N.Nodup
 pre:N.take P.length=P
 par:∀x∈P,sc.names.lookup x=some .local\/sc.names.lookup x=some .cell
 nofree:∀y∈sc.names,y.2≠.free
theorem z9s {kindOf:Str->Option NameKind} {x:Str}:∀{binds:List (Str×Value)} {m:Str->Option Value},(∀v,(x,v)∉binds)->bindL kindOf binds m x=m x
 | [],_,_=>rfl
 | (n,v)::r,m,h=>by
  unfold bindL
  rw [z9s fun w hw=>h w (List.mem_cons_of_mem _ hw)]
  split
  . have:x≠n:=by rintro rfl;exact h v List.mem_cons_self
    simp [this]
  . rfl
theorem z9t {kindOf:Str->Option NameKind} {x:Str}:∀{binds:List (Str×Value)} {m:Str->Option Value},(∀v,(x,v)∉binds)->bindC kindOf binds m x=m x
 | [],_,_=>rfl
 | (n,v)::r,m,h=>by
  unfold bindC
  rw [z9t fun w hw=>h w (List.mem_cons_of_mem _ hw)]
  split
  . rfl
  . have:x≠n:=by rintro rfl;exact h v List.mem_cons_self
    simp [this]
theorem z9u {kindOf:Str->Option NameKind} {x:Str} {v:Value}:∀{P:List Str} {vs:List Value} {i:Nat} {m:Str->Option Value},P.Nodup->P[i]?=some x->vs[i]?=some v->kindOf x=some .local ->
  bindL kindOf (P.zip vs) m x=some v
 | [],_,_,_,_,h,_,_=>by simp at h
 | _::_,[],_,_,_,_,h,_=>by simp at h
 | p::P,w::vs,0,m,nd,h1,h2,hk=>by
  simp at h1 h2;subst h1;subst h2
  show bindL kindOf ((p,w)::P.zip vs) m p=_
  unfold bindL
  rw [z9s fun v hv=>(List.nodup_cons.mp nd).1 (List.of_mem_zip hv).1,if_pos hk]
  simp
 | p::P,w::vs,i+1,m,nd,h1,h2,hk=>by
  show bindL kindOf ((p,w)::P.zip vs) m x=_
  unfold bindL
  exact z9u (i:=i) (List.nodup_cons.mp nd).2 (by simpa using h1) (by simpa using h2) hk
theorem z9v {kindOf:Str->Option NameKind} {x:Str} {v:Value}:∀{P:List Str} {vs:List Value} {i:Nat} {m:Str->Option Value},P.Nodup->P[i]?=some x->vs[i]?=some v->kindOf x≠some .local ->
  bindC kindOf (P.zip vs) m x=some v
 | [],_,_,_,_,h,_,_=>by simp at h
 | _::_,[],_,_,_,_,h,_=>by simp at h
 | p::P,w::vs,0,m,nd,h1,h2,hk=>by
  simp at h1 h2;subst h1;subst h2
  show bindC kindOf ((p,w)::P.zip vs) m p=_
  unfold bindC
  rw [z9t fun v hv=>(List.nodup_cons.mp nd).1 (List.of_mem_zip hv).1,if_neg hk]
  simp
 | p::P,w::vs,i+1,m,nd,h1,h2,hk=>by
  show bindC kindOf ((p,w)::P.zip vs) m x=_
  unfold bindC
  exact z9v (i:=i) (List.nodup_cons.mp nd).2 (by simpa using h1) (by simpa using h2) hk
noncomputable def z5k (N:List Str) (vs:List V):St:=vs.map some++List.replicate (N.length - vs.length) none
noncomputable def zie (CX:CXT) (P:Program) (w:World) (K:Frag) (mg:Str->Option Value) (base:Heap) (N:List Str) (qual:Str) (scope:Scope) (f:Addr) (cd:Value) (A:Around) (outer:List Env) (s:Shared) (H:Hp) (E:XK):Cx where
 prog:=P
 w:=w
 K:=K
 mg:=mg
 base:=base
 A:=A.deeper (envOfC qual scope s.heap.objs.size f cd)
 N:=N
 s₀:=s
 H₀:=H
 env:=envOfC qual scope s.heap.objs.size f cd
 outer:=outer
 stack:=envOfC qual scope s.heap.objs.size f cd::outer
 ex:=[]
 calm:=true
 fn:=fun _=>true
 pn:=[]
 xe:=fun e s'=>wpAny (model P w) (A.deeper (envOfC qual scope s.heap.objs.size f cd)) (leaving (envOfC qual scope s.heap.objs.size f cd) e) (fun _ s''=>CX outer H s E e s'') (fun e' s''=>CX outer H s E e' s'') s'
theorem zci {sc:Scope} {n:Nat} {x:Str} (h:sc.names.lookup x=some .cell):∃c,(cellsFrom n sc.names []).lookup x=some c:=by
 have q:=PySem.W.cellsFrom_some sc.names n [] (.inl h)
 exact Option.isSome_iff_exists.mp q
theorem zf9 {CX:CXT} {P:Program} {w:World} {K:Frag} {mg:Str->Option Value} {base:Heap} {N ps:List Str} {qual:Str} {scope:Scope} {f:Addr} {cd:Value} {A:Around} {outer:List Env} {s s1:Shared} {H:Hp} {E:XK} {us:List Value} {vs:List V}
  (S:FnScope N ps scope) (hd:A.handled=none) (e0:Env0 P w K mg base A outer s H) (hl:vs.length=ps.length) (r:Vals vs us)
  (x:InCallC s s.heap.objs.size (bindL (envOfC qual scope s.heap.objs.size f cd).kindOf (ps.zip us) fun _=>none) (cellsFrom (s.heap.objs.size+1) scope.names []) (bindC (envOfC qual scope s.heap.objs.size f cd).kindOf (ps.zip us) fun _=>none) s1) :
  Inv (zie CX P w K mg base N qual scope f cd A outer s H E) [] (z5k N vs) H s1:=by
 have hpl:ps.length<=N.length:=by have:=congrArg List.length S.pre;rw [List.length_take] at this;omega
 obtain ⟨h1,tk,rfl,hk⟩:=x.done
 have noA:∀b:Addr,b∉(zie CX P w K mg base N qual scope f cd A outer s H E).ex:=fun b z=>absurd (show b∈([]:List Addr) from z) (by simp)
 refine ⟨⟨e0.mod,S.kind,rfl,rfl,Nat.le_refl _,fun y z c h1 h2=>?_,fun y hy=>?_,fun y c _ h=>?_,fun _=>hd,Around.frames_deeper e0.frames,.inr ⟨rfl,rfl⟩,fun b z=>absurd z (noA b),e0.bs,e0.bsz,fun b _ _=>noA b,fun b z=>absurd z (noA b),e0.funs,e0.frf⟩,
  rfl,e0.bare,Un.kept hk,⟨_,x.toInCall.ns,fun i y v h1 h2 h3=>?_⟩,fun y c h=>⟨_,x.cell y c h⟩,e0.hok.fresh (Nat.le_refl _),fun y c h=>?_,fun p hp=>absurd (show p∈([]:List (Addr×Obj)) from hp) (by simp),e0.hok.kept hk,?_⟩
 . exact name_of_addr x.apart (PySem.mem_of_lookup h1) (PySem.mem_of_lookup h2)
 . have hy:scope.names.lookup y=some .cell\/scope.names.lookup y=some .free:=hy
   rcases hy with hy | hy
   . exact zci hy
   . exact absurd rfl (S.nofree _ (PySem.mem_of_lookup hy))
 . exact Nat.le_of_lt (x.above y c (PySem.mem_of_lookup h))
 . have hi:i<vs.length:=by
    unfold z5k at h2
    by_cases hi:i<vs.length
    . exact hi
    . rw [List.getElem?_append_right (by simpa using hi)] at h2
      rw [List.getElem?_replicate] at h2
      split at h2<;>cases h2
   have ha:vs[i]?=some v:=by
    unfold z5k at h2
    rw [List.getElem?_append_left (by simpa using hi),List.getElem?_map] at h2
    cases e:vs[i]? with
    | none=>rw [e] at h2;cases h2
    | some a=>rw [e] at h2;cases h2;rfl
   obtain ⟨u,hu,rv⟩:=r.get ha
   have hp:ps[i]?=some y:=by
    rw [<-S.pre,List.getElem?_take_of_lt (by omega)];exact h1
   have ndP:ps.Nodup:=by rw [<-S.pre];exact S.nd.sublist (List.take_sublist _ _)
   refine ⟨u,rv,?_⟩
   rcases S.par y (List.mem_of_getElem? hp) with k | k
   . exact .inl ⟨k,z9u ndP hp hu k⟩
   . obtain ⟨c,e⟩:=zci (n:=s.heap.objs.size+1) k
     refine .inr ⟨.inl k,c,e,?_⟩
     have q:=x.cell y c e
     rw [z9v ndP hp hu (by show scope.names.lookup y≠_;rw [k];decide)] at q
     exact q
 . exact e0.hok.fresh (Nat.le_of_lt (x.above y c (PySem.mem_of_lookup h)))
 . unfold z5k
   show _=N.length
   rw [List.length_append,List.length_map,List.length_replicate]
   omega
theorem zpw {CX:CXT} {P:Program} {w:World} {K:Frag} {mg:Str->Option Value} {base:Heap} {k:Nat} {f:Addr} {name qual:Str} {params:Arguments} {body:List Stmt} {scope:Scope} {dV kV doc pm cdv ct oc:Value} {an od:Option Addr}
  {osl:Array (Option Value)} {N ps:List Str} {sp:Sp} (lk:K.lookup f=some ⟨oc,od,.func (PySem.W.fnOf name qual params body scope dV kV doc pm an cdv ct),osl⟩) (hcd:codeIn K cdv qual=true) (S:FnScope N ps scope)
  (len:∀vs H Q E,sp vs H Q E->vs.length=ps.length)
  (hbody:∀(A:Around) (outer:List Env) (s:Shared) (H:Hp) (vs:List V) (Q:VK) (E:XK),Room k (A.deeper (envOfC qual scope s.heap.objs.size f cdv))->sp vs H Q E ->
   ∃t,PSs (zie CX P w K mg base N qual scope f cdv A outer s H E) body t/\t { nx:=fun _ H'=>Q .non H',rt:=Q } (z5k N vs) H) :
  FnOk P w K mg base CX (k+1) f (PySem.W.fnOf name qual params body scope dV kV doc pm an cdv ct) ps sp:=by
 refine ⟨len,fun A outer s H args us vs Q E hr e0 hb r hsp=>?_⟩
 have hl:=len _ _ _ _ hsp
 have KX:K.In s.heap:=e0.mod.kin.keeps fun b o e=>(e0.bs b o e).1
 have lim:s.heap.NoLimit:=e0.mod.nolimit.keeps fun b o e=>(e0.bs b o e).1
 have hkind:∀y∈ps.zip us,scope.names.lookup y.1=some .local\/(scope.names.lookup y.1=some .cell/\((cellsFrom (s.heap.objs.size+1) scope.names []).lookup y.1).isSome=true):=fun ⟨n,v⟩ hy=>by
  rcases S.par n (List.of_mem_zip hy).1 with q | q
  . exact .inl q
  . exact .inr ⟨q,PySem.W.cellsFrom_some _ _ _ (.inl q)⟩
 refine codeAny_call_function hr.depth (KX _ _ lk) rfl S.co S.gen rfl (PySem.W.codeRec_of KX hcd) (hb _ _ _ _ ?_)
 refine wpAny_newFunctionEnv_cells S.kind hkind fun env he s1 x=>?_
 subst he
 refine ⟨lim.keeps x.toInCall.keep,codeAny_func ?_⟩
 obtain ⟨t,ht,hq⟩:=hbody A outer s H vs Q E (hr.deeper _) hsp
 have I:Inv (zie CX P w K mg base N qual scope f cdv A outer s H E) [] (z5k N vs) H s1:=zf9 S hr.hd e0 hl r x
 refine wpAny_mono (ht [] s1 (z5k N vs) H _ I hq) (fun fl s' hs=>?_) fun e s' hs=>hs
 have fin:∀{σ':St} {H':Hp} {v:V} {u:Value},Inv (zie CX P w K mg base N qual scope f cdv A outer s H E) [] σ' H' s'->RelV v u->Q v H'->CE outer P w H s Q u s':=
  fun {σ' H' v u} J rv q=>⟨v,H',J.os,J.bare,J.base,J.hok,rv,q⟩
 cases fl with
 | ret u=>
  obtain ⟨v,σ',H',J,rv,q⟩:=hs
  exact fin J rv q
 | next=>
  obtain ⟨σ',H',J,q⟩:=hs
  exact fin (v:=V.non) (u:=Value.none) J rfl q
 | brk=>
  obtain ⟨_,_,_,q⟩:=hs
  exact False.elim q
 | cont=>
  obtain ⟨_,_,_,q⟩:=hs
  exact False.elim q
section
variable {X:Cx} {x:Str} {p pos:Pos} {e:Expr} {es:List Expr} {t:TA} {id T:String} {r:List V->Hp->VK->Prop}
noncomputable def tCB (r:List V->Hp->VK->Prop) (t:TA):TE:=fun U H Q=>t U H fun vs H1=>r vs H1 Q
theorem z8o (hc:CallR X (.builtin id) r) (hg:Gl X x) (hm:X.mg x=none) (hv:bootBuiltins x=some (.builtin id)) (ha:PA X (e::es) t) (hn:x≠"__name__":=by decide) (hdb:(x==("__debug__":Str))=false:=by decide)
  (he:starEach (e::es) X.env=(false,eval e X.env)::starEach es X.env:=by rfl) (hpl:(backTo pos (starEach es X.env)).any (·.1)=false:=by rfl):PE X (.Call (.Name x p) (e::es) [] pos) (tCB r t):=by
 intro pins s U H Q I h
 refine wpAny_Call_Name_kw (z6l I hg hm hv ?_ hn hdb)
 exact PyProof.Rows.callWith_builtin1 (thn (ha pos pins s U H _ I h) fun us s1 ⟨vs,H1,I1,r1,q1⟩=>hc pins s1 U H1 vs us Q I1 r1 q1) he hpl
theorem zfa (hc:CallR X (.type T) r) (hg:Gl X x) (hm:X.mg x=none) (hv:bootBuiltins x=some (.type T)) (ha:PA X (e::es) t) (hn:x≠"__name__":=by decide) (hdb:(x==("__debug__":Str))=false:=by decide)
  (he:starEach (e::es) X.env=(false,eval e X.env)::starEach es X.env:=by rfl) (hpl:(backTo pos (starEach es X.env)).any (·.1)=false:=by rfl):PE X (.Call (.Name x p) (e::es) [] pos) (tCB r t):=by
 intro pins s U H Q I h
 refine wpAny_Call_Name_kw (z6l I hg hm hv ?_ hn hdb)
 exact PyProof.Rows.callWith_type1 (thn (ha pos pins s U H _ I h) fun us s1 ⟨vs,H1,I1,r1,q1⟩=>hc pins s1 U H1 vs us Q I1 r1 q1) he hpl
end
end L2
namespace HT
open PySem PyProof.Rows
def lexLt:List Int->List Int->Bool
 | [],[]=>false
 | [],_::_=>true
 | _::_,[]=>false
 | x::xs,y::ys=>if x=y then lexLt xs ys else decide (x<y)
theorem lexLt_cons (x y:Int) (xs ys:List Int):lexLt (x::xs) (y::ys)=if x=y then lexLt xs ys else decide (x<y):=rfl
theorem rcLt_int (A:Around) (s:Shared) (a:Int) (t:Tok) (c:Int) (u:Tok) (prog:Program) (w:World) (E:Value->Shared->Prop) (Q:Value->Shared->Prop) (h:Q (.bool (decide (a<c))) s) :
  wpAny (model prog w) A (richCompare .Lt (.int a t) (.int c u)) Q E s:=
 (PyProof.Rows.lt_int h:wpAny (model prog w) A (compareOp .Lt (.int a t) (.int c u)) Q E s)
section
open PySem.SeqAt
open PySem.AutoSeq1 (wpAny_loadPart')
open PySem.MeetsSeq PySem.MeetsSeq2 PySem.MeetsSeq3
end
section
variable {prog:Program} {w:World} {A:Around} {E:Value->Shared->Prop} {s:Shared}
def sIx (n d:Nat):Option Int->Nat
 | none=>d
 | some v=>if v<0 then (v+(n:Int)).toNat else min v.toNat n
end
end HT
namespace L2
open PySem PySem.Spec PyProof.Rows
abbrev TO:=St->Hp->(Option Int->Hp->Prop)->Prop
def PO (X:Cx) (e:Option Expr) (t:TO):Prop:=
 ∀(pins:List (Addr×Obj)) (s:Shared) (U:St) (H:Hp) (Q:Option Int->Hp->Prop),Inv X pins U H s->t U H Q ->
  wpAny (model X.prog X.w) X.A (evalPart e X.env) (fun u s'=>∃o H',Inv X pins U H' s'/\IsPart u o/\Q o H') X.xe s
noncomputable def zus (t:TE):TO:=fun U H Q=>t U H fun x H1=>∃i,x=.int i/\Q (some i) H1
theorem zdz {ns:List Int}:∀{us:List Value},Vals (ns.map V.int) us->IntsAre us ns:=by
 induction ns with
 | nil=>intro us r;rw [List.map_nil] at r;cases r;exact .nil
 | cons n ns ih=>
  intro us r
  rw [List.map_cons] at r
  cases r with
  | cons r1 r2=>
   obtain ⟨t,e⟩:=r1
   subst e
   exact .cons n t (ih r2)
section
variable {X:Cx} {e:Expr} {te:TE} {lo hi:Option Expr} {tl th:TO} {pos p2:Pos}
theorem zmf (h:PE X e te):PO X (some e) (zus te):=by
 intro pins s U H Q I hw
 rw [evalPart_some]
 refine thn (h pins s U H _ I hw) fun u s1 ⟨x,H1,I1,r1,q1⟩=>?_
 obtain ⟨i,rfl,q⟩:=q1
 obtain ⟨t,rfl⟩:=r1
 exact ⟨some i,H1,I1,.int i t,q⟩
def SlR (X:Cx) (r:V->Option Int->Option Int->Hp->VK->Prop):Prop:=
 ∀(pins:List (Addr×Obj)) (s:Shared) (U:St) (H:Hp) (x:V) (v vl vu:Value) (lo hi:Option Int) (sl:Addr) (Q:VK),Inv X pins U H s->RelV x v->s.heap.IsSliceOf sl vl vu .none->IsPart vl lo->IsPart vu hi->r x lo hi H Q ->
  ∃T id,typeLookup (.type T) "__getitem__"=pure (some (.builtin id))/\s.TypeIs v T/\wpAny (model X.prog X.w) X.A (getItem v (.ref sl)) (EP X pins U Q) X.xe s
noncomputable def tSl (r:V->Option Int->Option Int->Hp->VK->Prop) (te:TE) (tl th:TO):TE:=fun U H Q=>te U H fun x H1=>tl U H1 fun l H2=>th U H2 fun u H3=>r x l u H3 Q
theorem zin {r:V->Option Int->Option Int->Hp->VK->Prop} (hr:SlR X r) (he:PE X e te) (hl:PO X lo tl) (hu:PO X hi th):PE X (.Subscript e (.Slice lo hi none p2) pos) (tSl r te tl th):=by
 intro pins s U H Q I h
 refine Subscript_ (thn (he pins s U H _ I h) fun v s1 ⟨x,H1,I1,r1,q1⟩=>?_)
 refine wpAny_Slice (thn (hl pins s1 U H1 _ I1 q1) fun vl s2 ⟨l,H2,I2,pl,q2⟩=>thn (hu pins s2 U H2 _ I2 q2) fun vu s3 ⟨u,H3,I3,pu,q3⟩=>?_)
 rw [evalPart_none]
 refine wpAny_pure ?_
 have I4:Inv X pins U H3 { s3 with heap:=s3.heap.push { cls:=.type "slice",data:=.fields #[vl,vu,.none] } }:=I3.kept (t':=s3.toks) fun b ob q=>Heap.get?_push_of_some _ q
 obtain ⟨T,id,hT,ht,hg⟩:=hr pins { s3 with heap:=s3.heap.push { cls:=.type "slice",data:=.fields #[vl,vu,.none] } } U H3 x v vl vu l u s3.heap.objs.size Q I4 r1 (Heap.IsSliceOf.new ..) pl pu q3
 show wpAny (model X.prog X.w) X.A (subscriptTail e (.Slice lo hi none p2) v (.ref s3.heap.objs.size)) (EP X pins U Q) X.xe { s3 with heap:=s3.heap.push { cls:=.type "slice",data:=.fields #[vl,vu,.none] } }
 exact tail_any (ops:=[.ref s3.heap.objs.size,v]) ht hT hg (by with_unfolding_all rfl)
noncomputable def zp9 (xs:List V) (lo hi:Option Int):List V:=(xs.drop (HT.sIx xs.length 0 lo)).take (HT.sIx xs.length xs.length hi - HT.sIx xs.length 0 lo)
theorem zb3 (xs:List V) (lo hi:Option Int):(zp9 xs lo hi).length<=xs.length:=by
 unfold zp9
 rw [List.length_take,List.length_drop]
 omega
end
noncomputable def ixN (n:Nat) (i:Int):Option Nat:=if 0<=i then (if i<n then some i.toNat else none) else if -(n:Int)<=i then some (i+n).toNat else none
noncomputable def atI {α:Type} (xs:List α) (i:Int):Option α:=(ixN xs.length i).bind fun j=>xs[j]?
theorem zmg {n:Nat} {i:Int} {j:Nat} (h:ixN n i=some j):seqIndex? i n=some j/\j<n/\-(n:Int)<=i/\i<n:=by
 unfold ixN at h
 by_cases h0:0<=i
 . rw [if_pos h0] at h
   by_cases h1:i<n
   . rw [if_pos h1] at h
     have e:i.toNat=j:=Option.some.inj h
     exact ⟨by rw [seqIndex_of h0 h1,e],by omega,by omega,h1⟩
   . rw [if_neg h1] at h;cases h
 . rw [if_neg h0] at h
   by_cases h1:-(n:Int)<=i
   . rw [if_pos h1] at h
     have e:(i+n).toNat=j:=Option.some.inj h
     exact ⟨by rw [seqIndex_neg (by omega) h1,e],by omega,h1,by omega⟩
   . rw [if_neg h1] at h;cases h
theorem zb4 {α:Type} {xs:List α} {i:Int} {v:α} (h:atI xs i=some v):∃j,seqIndex? i xs.length=some j/\xs[j]?=some v/\j<xs.length/\-(xs.length:Int)<=i/\i<xs.length:=by
 unfold atI at h
 cases e:ixN xs.length i with
 | none=>rw [e] at h;cases h
 | some j=>
  rw [e] at h
  obtain ⟨h1,h2,h3,h4⟩:=zmg e
  exact ⟨j,h1,h,h2,h3,h4⟩
theorem zb5 {α:Type} {xs:List α} {j:Nat} {v:α} (h:xs[j]?=some v):atI xs (j:Int)=some v:=by
 have hj:j<xs.length:=(List.getElem?_eq_some_iff.mp h).1
 have e:ixN xs.length (j:Int)=some j:=by
  unfold ixN
  rw [if_pos (by omega),if_pos (by omega)];simp
 unfold atI;rw [e];exact h
theorem zio {α:Type} (xs:List α) (v:α):atI (xs++[v]) (-1)=some v:=by
 have hl:(xs++[v]).length=xs.length+1:=by simp
 have e:ixN (xs++[v]).length (-1)=some xs.length:=by
  unfold ixN
  rw [hl,if_neg (by decide),if_pos (by omega)]
  congr 1
  omega
 unfold atI
 rw [e]
 show (xs++[v])[xs.length]?=some v
 simp
def zfb (b:Expr):Prop:=∀o i,subscripted b false o i=operate [o,i] (getItem o i)
def IxR (X:Cx) (r:R2):Prop:=
 ∀(value slice:Expr) (pins:List (Addr×Obj)) (s:Shared) (U:St) (H:Hp) (x y:V) (v u:Value) (Q:VK),Inv X pins U H s->RelV x v->RelV y u->r x y H Q ->
  subscripted slice false v u=operate [v,u] (getItem v u)->wpAny (model X.prog X.w) X.A (subscriptTail value slice v u) (EP X pins U Q) X.xe s
def MtR (X:Cx) (id:String) (r:V->List V->Hp->VK->Prop):Prop:=
 ∀(pins:List (Addr×Obj)) (s:Shared) (U:St) (H:Hp) (x:V) (xs:List V) (v:Value) (us:List Value) (Q:VK),Inv X pins U H s->RelV x v->Vals xs us->r x xs H Q ->
  wpAny (model X.prog X.w) X.A (call (.builtin id) (v::us)) (EP X pins U Q) X.xe s
section
variable {X:Cx} {a b:Expr} {ta tb:TE} {pos:Pos}
theorem IxR.or {r r':R2} (h:IxR X r) (h':IxR X r'):IxR X (fun x y H Q=>r x y H Q\/r' x y H Q):=by
 intro value slice pins s U H x y v u Q I rx ry q hs
 rcases q with q | q
 . exact h value slice pins s U H x y v u Q I rx ry q hs
 . exact h' value slice pins s U H x y v u Q I rx ry q hs
theorem zut {r:R2} (hr:IxR X r) (ha:PE X a ta) (hb:PE X b tb) (hs:zfb b):PE X (.Subscript a b pos) (tOp r ta tb):=by
 intro pins s U H Q I h
 exact Subscript_ (zup ha hb I h fun v u s2 x y H2 I2 rx ry q=>hr a b pins s2 U H2 x y v u Q I2 rx ry q (hs _ _))
noncomputable def zxt (K:Frag):R2:=fun x y H Q=>∃p xs i v,x=.ref p/\y=.int i/\SqL K H p xs/\atI xs i=some v/\Q v H
noncomputable def zxu (K:Frag):R2:=fun x y H Q=>∃p xs i v,x=.ref p/\y=.int i/\SqT K H p xs/\atI xs i=some v/\Q v H
noncomputable def zxv:R2:=fun x y H Q=>∃z i c,x=.str z/\y=.int i/\z.length<=sizeLine/\atI z.cps.toList i=some c/\Q (.str ⟨#[c]⟩) H
theorem ix_list:IxR X (zxt X.K):=by
 intro value slice pins s U H x y v u Q I rx ry h hs
 obtain ⟨p,xs,i,z,rfl,rfl,hq,he,q⟩:=h
 cases rx
 obtain ⟨t,rfl⟩:=ry
 obtain ⟨its,r,pl,hz⟩:=I.list hq
 obtain ⟨j,h1,h2,h3,h4,h5⟩:=zb4 he
 obtain ⟨w,ew,rw'⟩:=r.get h2
 have hl:=r.length
 have hn:=z80
 have fin:EP X pins U Q w s:=⟨z,H,I,rw',q⟩
 by_cases h0:0<=i
 . have hj:i.toNat=j:=by
    rw [seqIndex_of h0 h5] at h1
    exact Option.some.inj h1
   exact item_listR pl.isList h0 (by omega) (by rw [hj];simpa using ew) fin hs
 . have hj:(i+(its.toArray.size:Int)).toNat=j:=by
    rw [seqIndex_neg (by omega) h4] at h1
    rw [List.size_toArray,<-hl]
    exact Option.some.inj h1
   exact subscriptTail_builtinR (x:=w) pl.isList.typeIs slot_list_getitem.lookup
    (wpAny_getItem_list_neg (Q:=fun r s'=>r=w/\EP X pins U Q r s') pl.isList (by omega) (by rw [List.size_toArray]<;>omega) (by omega) (by rw [hj];simpa using ew) ⟨rfl,fin⟩) hs
theorem ix_tup:IxR X (zxu X.K):=by
 intro value slice pins s U H x y v u Q I rx ry h hs
 obtain ⟨p,xs,i,z,rfl,rfl,hq,he,q⟩:=h
 cases rx
 obtain ⟨t,rfl⟩:=ry
 obtain ⟨its,r,pl,hz⟩:=I.tuple hq
 obtain ⟨j,h1,h2,h3,h4,h5⟩:=zb4 he
 obtain ⟨w,ew,rw'⟩:=r.get h2
 have hl:=r.length
 have hn:=z80
 have fin:EP X pins U Q w s:=⟨z,H,I,rw',q⟩
 exact subscriptTail_builtinR (x:=w) pl.typeIs slot_tuple_getitem.lookup
  (getItem_tuple (j:=j) (Q:=fun r s'=>r=w/\EP X pins U Q r s') pl (by omega) (by omega) (by rw [List.size_toArray,<-hl];exact h1) (by simpa using ew) ⟨rfl,fin⟩) hs
theorem zpx:IxR X zxv:=by
 intro value slice pins s U H x y v u Q I rx ry h hs
 obtain ⟨z,i,c,rfl,rfl,hz,he,q⟩:=h
 obtain ⟨t,rfl⟩:=rx
 obtain ⟨t',rfl⟩:=ry
 obtain ⟨j,h1,h2,h3,h4,h5⟩:=zb4 he
 have hl:z.cps.toList.length=z.length:=by simp [Str.length]
 rw [hl] at h1 h4 h5
 have hn:=z80
 exact tail_any (typeIs_str s z t) slot_str_getitem.lookup (getItem_str (c:=c) (by
  have e1:decide (i < -(2 ^ 63:Int))=false:=decide_eq_false (by omega)
  have e2:decide (i ≥ 2 ^ 63)=false:=decide_eq_false (by omega)
  rw [e1,e2,Bool.or_false]) (by rw [h1];simpa using h2) ⟨.str ⟨#[c]⟩,H,I.tok _,⟨_,rfl⟩,q⟩) hs
noncomputable def rIx (K:Frag):R2:=fun x y H Q=>zxt K x y H Q\/zxu K x y H Q\/zxv x y H Q
theorem ix_seq:IxR X (rIx X.K):=ix_list.or (ix_tup.or zpx)
theorem Inv.lst {pins:List (Addr×Obj)} {U:St} {H:Hp} {s:Shared} {p:Addr} {xs:List V} (I:Inv X pins U H s) (h:H p=some (.lst xs)) :
  ∃(its:List Value) (n:Nat),Vals xs its/\s.heap.get? p=some { cls:=.type "list",data:=.seq its.toArray n }/\xs.length<=sizeLine:=by
 obtain ⟨z,its,n,r,e⟩:=I.hok p _ h
 exact ⟨its,n,r,e,z⟩
theorem z9w (lo hi:Option Int) (n:Nat):(sliceBounds lo hi none n).1=((HT.sIx n 0 lo:Nat):Int)/\(sliceBounds lo hi none n).2.1=((HT.sIx n n hi:Nat):Int)/\(sliceBounds lo hi none n).2.2=1:=by
 refine ⟨?_,?_,rfl⟩
 . cases lo with
   | none=>simp [sliceBounds,HT.sIx]
   | some i=>
    simp only [sliceBounds,HT.sIx,Option.getD_none,show (1:Int) > 0 by decide,if_true]
    by_cases h:i<0
    . simp only [h,if_true]<;>omega
    . simp only [h,if_false]<;>omega
 . cases hi with
   | none=>simp [sliceBounds,HT.sIx]
   | some i=>
    simp only [sliceBounds,HT.sIx,Option.getD_none,show (1:Int) > 0 by decide,if_true]
    by_cases h:i<0
    . simp only [h,if_true]<;>omega
    . simp only [h,if_false]<;>omega
theorem z8p (its:List Value) (lo hi:Option Int):slicePick its.toArray lo hi none=((its.drop (HT.sIx its.length 0 lo)).take (HT.sIx its.length its.length hi - HT.sIx its.length 0 lo)).toArray:=by
 obtain ⟨h1,h2,h3⟩:=z9w lo hi its.toArray.size
 unfold slicePick
 rw [h1,h2,h3]
 simp only [sliceRange_one,pick_run,List.size_toArray]<;>rfl
def zxw (K:Frag):V->Option Int->Option Int->Hp->VK->Prop:=fun x lo hi H Q=>∃a xs,x=.ref a/\SqL K H a xs/\∀p,H p=none->Q (.ref p) (upd H p (.lst (zp9 xs lo hi)))
theorem zb6:SlR X (zxw X.K):=by
 intro pins s U H x v vl vu lo hi sl Q I rx hs pl pu h
 obtain ⟨a,xs,rfl,hx,q⟩:=h
 cases rx
 obtain ⟨its,r,ht,hz⟩:=I.list hx
 have hlen:=r.length
 refine ⟨"list",_,slot_list_getitem.lookup,ht.isList.typeIs,?_⟩
 refine wpAny_getItem_list_slice ht.isList hs pl pu .none (by simp) ?_ (by rw [List.size_toArray]<;>omega)
 rw [z8p,<-hlen]
 refine ⟨.ref s.heap.objs.size,_,I.laid (t':=s.toks) (o:=.lst (zp9 xs lo hi)) (fun b ob q=>Heap.get?_push_of_some _ q) (Nat.le_refl _) ?_,rfl,q _ (I.hok.fresh (Nat.le_refl _))⟩
 exact ⟨Nat.le_trans (zb3 xs lo hi) hz,_,0,(r.drop (HT.sIx xs.length 0 lo)).take (HT.sIx xs.length xs.length hi - HT.sIx xs.length 0 lo),Heap.get?_push_size _ rfl⟩
theorem call_len_seq:CallR X (.builtin "len") (fun xs H Q=>∃p ys,xs=[.ref p]/\(SqL X.K H p ys\/SqT X.K H p ys)/\Q (.int ys.length) H):=by
 intro pins s U H xs us Q I r h
 obtain ⟨p,ys,rfl,hq,q⟩:=h
 obtain ⟨u,rfl,rx⟩:=z6m r
 cases rx
 have hn:=z80
 rcases hq with hq | hq
 . obtain ⟨its,r',pl,hz⟩:=I.list hq
   have hlen:=r'.length
   exact Calls.call_len_list pl.isList (by simp only [List.size_toArray]<;>omega) ⟨.int ys.length,H,I.tok _,⟨s.toks+1,by rw [List.size_toArray,hlen]⟩,q⟩
 . obtain ⟨its,r',pl,hz⟩:=I.tuple hq
   have hlen:=r'.length
   exact len_tuple pl (by simp only [List.size_toArray]<;>omega) ⟨.int ys.length,H,I.tok _,⟨s.toks+1,by rw [List.size_toArray,hlen]⟩,q⟩
theorem z9x:CallR X (.builtin "len") (fun xs H Q=>∃z,xs=[.str z]/\z.length<=sizeLine/\Q (.int z.length) H):=by
 intro pins s U H xs us Q I r h
 obtain ⟨z,rfl,hz,q⟩:=h
 obtain ⟨u,rfl,t,rfl⟩:=z6m r
 have hn:=z80
 exact len_str (by omega) ⟨.int z.length,H,I.tok _,⟨_,rfl⟩,q⟩
theorem CallR.or {f:Value} {r r':List V->Hp->VK->Prop} (h:CallR X f r) (h':CallR X f r'):CallR X f (fun xs H Q=>r xs H Q\/r' xs H Q):=by
 intro pins s U H xs us Q I rs q
 rcases q with q | q
 . exact h pins s U H xs us Q I rs q
 . exact h' pins s U H xs us Q I rs q
theorem z9y:CallR X (.type "list") (fun xs H Q=>∃p ys,xs=[.ref p]/\(SqL X.K H p ys\/SqT X.K H p ys)/\∀l,H l=none->Q (.ref l) (upd H l (.lst ys))):=by
 intro pins s U H xs us Q I r h
 obtain ⟨p,ys,rfl,hq,q⟩:=h
 obtain ⟨u,rfl,rx⟩:=z6m r
 cases rx
 have fin:∀(its:List Value),Vals ys its->ys.length<=sizeLine->∀(h':Heap) (c':Nat),(∀b o',s.heap.get? b=some o'->h'.get? b=some o') ->
   h'.get? s.heap.objs.size=some { cls:=.type "list",dict:=none,data:=.seq its.toArray c',slots:=#[] }->EP X pins U Q (.ref s.heap.objs.size) { s with heap:=h' }:=fun its r' hz h' c' kp e=>
  ⟨.ref s.heap.objs.size,_,I.laid (t':=s.toks) kp (Nat.le_refl _) (show ObjOk X.prog X.w _ h' _ (.lst ys) from ⟨hz,its,c',r',e⟩),rfl,q _ (I.hok.fresh (Nat.le_refl _))⟩
 rcases hq with hq | hq
 . obtain ⟨its,r',pl,hz⟩:=I.list hq
   have hlen:=r'.length
   obtain ⟨o,ho,hc,n,hd⟩:=pl.isList
   exact call_list_seq p (.inl rfl) ho hc hd (fun h' c' kp e=>fin its r' hz h' c' kp e) (by simp only [List.size_toArray]<;>omega)
 . obtain ⟨its,r',pl,hz⟩:=I.tuple hq
   have hlen:=r'.length
   obtain ⟨o,ho,hc,n,hd⟩:=pl
   exact call_list_seq p (.inr rfl) ho hc hd (fun h' c' kp e=>fin its r' hz h' c' kp e) (by simp only [List.size_toArray]<;>omega)
theorem z8q:CallR X (.type "tuple") (fun xs H Q=>∃p ys,xs=[.ref p]/\((SqL X.K H p ys/\∀l,H l=none->Q (.ref l) (upd H l (.tup ys)))\/(SqT X.K H p ys/\Q (.ref p) H))):=by
 intro pins s U H xs us Q I r h
 obtain ⟨p,ys,rfl,h⟩:=h
 obtain ⟨u,rfl,rx⟩:=z6m r
 cases rx
 rcases h with ⟨hq,q⟩ | ⟨hq,q⟩
 . obtain ⟨its,r',pl,hz⟩:=I.list hq
   have hlen:=r'.length
   refine call_tuple_list pl.isList (fun h' kp=>?_) (by simp only [List.size_toArray]<;>omega)
   have I1:Inv X pins U H { s with heap:=h' }:=I.kept (t':=s.toks) kp
   have I2:Inv X pins U (upd H h'.objs.size (.tup ys)) { s with heap:=h'.push { cls:=.type "tuple",data:=.seq its.toArray } }:=
    I1.laid (t':=s.toks) (fun b o e=>Heap.get?_push_of_some _ e) (Nat.le_refl _) (show ObjOk X.prog X.w _ _ _ (.tup ys) from ⟨hz,its,r',IsTup.new _ _⟩)
   exact ⟨.ref h'.objs.size,_,I2,rfl,q _ (I1.hok.fresh (Nat.le_refl _))⟩
 . obtain ⟨its,r',pl,hz⟩:=I.tuple hq
   exact call_tuple_same pl ⟨.ref p,H,I,rfl,q⟩
def tyV (K:Frag) (T:String) (x:V) (H:Hp):Prop:=match x with
 | .str _=>T="str"
 | .int _=>T="int"
 | .ref p=>(T="list"/\∃xs,SqL K H p xs)\/(T="tuple"/\∃o,K.lookup p=some o/\o.cls=.type "tuple"/\o.dict=none) \/
  (T="dict"/\((∃kvs,H p=some (.dK kvs))\/∃kvs,H p=some (.dT kvs)))\/(T="set"/\∃S n,H p=some (.set S n))
 | _=>False
theorem zpy {pins:List (Addr×Obj)} {U:St} {H:Hp} {s:Shared} {T:String} {x:V} {v:Value} (I:Inv X pins U H s) (r:RelV x v) (ty:tyV X.K T x H) :
  s.TypeIs v T/\∀a,v=.ref a->∃ob,s.heap.get? a=some ob/\ob.dict=none:=by
 cases x with
 | str z=>
  obtain ⟨t,rfl⟩:=r
  cases (show T="str" from ty)
  exact ⟨typeIs_str s z t,fun _ e=>nomatch e⟩
 | int i=>
  obtain ⟨t,rfl⟩:=r
  cases (show T="int" from ty)
  exact ⟨typeIs_int s i t,fun _ e=>nomatch e⟩
 | ref p=>
  cases r
  rcases ty with ⟨rfl,xs,hq⟩ | ⟨rfl,o,hk,hc,hd⟩ | ⟨rfl,hk⟩ | ⟨rfl,S,n,hk⟩
  . obtain ⟨its,_,pl,_⟩:=I.list hq
    refine ⟨pl.isList.typeIs,fun a e=>?_⟩
    cases e
    obtain ⟨o,n,e,c,hd,_⟩:=pl
    exact ⟨o,e,hd⟩
  . refine ⟨⟨o,I.kIn p o hk,hc⟩,fun a e=>?_⟩
    cases e
    exact ⟨o,I.kIn _ o hk,hd⟩
  . have z:∃o,s.heap.get? p=some o/\o.ExactDict:=by
     rcases hk with ⟨kvs,hk⟩ | ⟨kvs,hk⟩
     . obtain ⟨_,_,_,_,o,_,_,e,ex,_⟩:=I.hok p _ hk
       exact ⟨o,e,ex⟩
     . obtain ⟨_,_,_,_,o,_,_,e,ex,_⟩:=I.hok p _ hk
       exact ⟨o,e,ex⟩
    obtain ⟨o,e,ex⟩:=z
    refine ⟨⟨o,e,ex.1⟩,fun a e2=>?_⟩
    cases e2
    exact ⟨o,e,ex.2.1⟩
  . obtain ⟨o,_,_,_,e,ex,_⟩:=I.hok p _ hk
    refine ⟨⟨o,e,ex.1⟩,fun a e2=>?_⟩
    cases e2
    exact ⟨o,e,ex.2.1⟩
 | _=>exact False.elim ty
noncomputable def tBM (K:Frag) (T:String) (r:V->List V->Hp->VK->Prop) (to:TE) (t:TA):TE:=fun U H Q=>to U H fun x H1=>tyV K T x H1/\t U H1 fun xs H2=>r x xs H2 Q
variable {o e:Expr} {es:List Expr} {to:TE} {t:TA} {name:Str} {apos cpos:Pos} {T id:String} {r:V->List V->Hp->VK->Prop}
theorem zuu (pa:PlainAttrs T) (slot:Slot T name id) (hty:typeOf (.builtin id)=pure (.type "method_descriptor")) (hm:MtR X id r) (ho:PE X o to) (ha:PA X (e::es) t)
  (hbase:attributeBase o name X.env (eval o X.env)=eval o X.env:=by rfl)
  (hfew:((backTo cpos (starEach (e::es) X.env)).all (fun x=>!x.1)&&(backToKw cpos (keywordEach [] X.env)).all (fun x=>x.1.isSome)
   && decide ((e::es).length+([]:List Keyword).length+(if ([]:List Keyword).isEmpty then 0 else 1)<30))=true:=by rfl)
  (hline:(apos.endLine==cpos.line)=true:=by rfl) (hs:starEach (e::es) X.env=(false,eval e X.env)::starEach es X.env:=by rfl) (hplain:(backTo cpos (starEach es X.env)).any (·.1)=false:=by rfl) :
  PE X (.Call (.Attribute o name apos) (e::es) [] cpos) (tBM X.K T r to t):=by
 intro pins s U H Q I h
 refine wpAny_Call_method_late hbase hfew hline rfl (thn (ho pins s U H _ I h) fun v s1 ⟨x,H1,I1,r1,ty,q1⟩=>?_)
 obtain ⟨h1,h2⟩:=zpy I1 r1 ty
 refine ⟨T,id,pa,slot,hty,h1,h2,?_⟩
 have hA:=ha cpos pins s1 U H1 _ I1 q1
 rw [hs] at hA ⊢
 refine Calls.callWith_builtin (by show (false||(backTo cpos (starEach es X.env)).any (·.1))=false;rw [hplain]<;>rfl) (Calls.evalArgs_plain ?_)
 exact thn hA fun us s2 ⟨vs,H2,I2,r2,q2⟩=>hm pins s2 U H2 x vs v us Q I2 r1 r2 q2
end
def MtM (X:Cx) (id:String) (r:V->List V->Hp->VK->Prop):Prop:=
 ∀(pins:List (Addr×Obj)) (s:Shared) (U:St) (H:Hp) (x:V) (xs:List V) (v:Value) (us:List Value) (Q:VK),Inv X pins U H s->RelV x v->Vals xs us->r x xs H Q ->
  wpAny (model X.prog X.w) X.A (call (.builtin id) (v::us)) (EP X pins U Q) X.xe s
theorem Vals.one:∀{x:V} {us:List Value},Vals [x] us->∃u,us=[u]/\RelV x u
 | _,_,.cons r .nil=>⟨_,rfl,r⟩
section
variable {X:Cx} {pins:List (Addr×Obj)} {U:St} {H:Hp} {s:Shared} {l b:Addr} {xs ys zs:List V}
theorem Inv.lset {its its':List Value} {n:Nat} {f:Array Value->Array Value} {t':Nat} (I:Inv X pins U H s) (hH:H l=some (.lst xs))
  (e:s.heap.get? l=some { cls:=.type "list",data:=.seq its.toArray n }) (hf:f its.toArray=its'.toArray) (hv:Vals ys its') (hz:ys.length<=sizeLine) :
  Inv X pins U (upd H l (.lst ys)) { s with heap:=s.heap.update l (Obj.mapSeq f),toks:=t' }:=by
 have q:=PySem.IsL.update e f
 rw [hf] at q
 refine I.write (x:=l) (e:=l) (by rw [hH];exact trivial) (.inl rfl) (fun b' u hb hu=>(Heap.get?_update_other s.heap (Obj.mapSeq f) (Ne.symm hb)).trans hu) ⟨_,q⟩ ?_
 exact ⟨hz,its',_,hv,q⟩
theorem Inv.lnew {its:List Value} {t':Nat} (I:Inv X pins U H s) (hv:Vals ys its) (hz:ys.length<=sizeLine) :
  Inv X pins U (upd H s.heap.objs.size (.lst ys)) { s with heap:=s.heap.push { cls:=.type "list",data:=.seq its.toArray },toks:=t' }:=
 I.laid (fun _ _ q=>Heap.get?_push_of_some _ q) (Nat.le_refl _) ⟨hz,its,0,hv,Heap.get?_push_size _ rfl⟩
theorem Inv.fresh (I:Inv X pins U H s):H s.heap.objs.size=none:=I.hok.fresh (Nat.le_refl _)
theorem Inv.lstM (I:Inv X pins U H s) (hH:H l=some (.lst xs)):xs.length<=sizeLine/\∃(its:List Value) (n:Nat),Vals xs its/\xs.length=its.length/\s.heap.get? l=some { cls:=.type "list",data:=.seq its.toArray n }:=by
 obtain ⟨z,its,n,r,e⟩:=I.hok l _ hH
 exact ⟨z,its,n,r,r.length,e⟩
end
section
variable {X:Cx}
def zfc:V->List V->Hp->VK->Prop:=fun x vs H Q=>∃l xs y,x=.ref l/\vs=[y]/\H l=some (.lst xs)/\xs.length<sizeLine/\Q .non (upd H l (.lst (xs++[y])))
theorem z4z:MtM X "list.append" zfc:=by
 intro pins s U H x vs v us Q I rx rv h
 obtain ⟨l,xs,y,rfl,rfl,hH,hz,q⟩:=h
 cases rx
 obtain ⟨u,rfl,ru⟩:=rv.one
 obtain ⟨z,its,n,r,hl,e⟩:=I.lstM hH
 refine call_meets F.slot_list_append ⟨_,e,rfl⟩ F.entry_list_append (F.args_list_append_2 _ _) (PySem.list_append l its.toArray n u (by rw [List.size_toArray];omega)) ⟨e,?_⟩
 refine ⟨.non,_,I.lset (its':=its++[u]) hH e (by simp) (r.append (.cons ru .nil)) ?_,rfl,q⟩
 rw [List.length_append,List.length_singleton]
 omega
end
section
variable {κ:Type} [DecidableEq κ]
noncomputable def zcj (kvs:List (κ×V)) (k:κ):Option V:=(kvs.find? fun kv=>decide (kv.1=k)).map (·.2)
theorem zck {p:κ×V} {r:List (κ×V)} {k:κ} (e:p.1=k):zcj (p::r) k=some p.2:=by simp [zcj,List.find?_cons,e]
theorem zcl {p:κ×V} {r:List (κ×V)} {k:κ} (e:¬p.1=k):zcj (p::r) k=zcj r k:=by simp [zcj,List.find?_cons,e]
theorem RelO.isSome_eq {o:Option V} {u:Option Value} (r:RelO o u):o.isSome=u.isSome:=by
 cases o with
 | none=>cases u with
  | none=>rfl
  | some _=>exact (show False from r).elim
 | some _=>cases u with
  | none=>exact (show False from r).elim
  | some _=>rfl
theorem RelO.getD {o:Option V} {u:Option Value} {d:V} {d':Value} (r:RelO o u) (rd:RelV d d'):RelV (o.getD d) (u.getD d'):=by
 cases o with
 | none=>cases u with
  | none=>exact rd
  | some _=>exact (show False from r).elim
 | some _=>cases u with
  | none=>exact (show False from r).elim
  | some _=>exact r
theorem KV.val {kvs:List (κ×V)} {vs:List (κ×Value)} (r:KV kvs vs) (k:κ):RelO (zcj kvs k) (valueAt vs k):=by
 unfold KV at r
 induction r with
 | nil=>exact True.intro
 | @cons p q ps qs h t ih=>
  obtain ⟨h1,h2⟩:=h
  by_cases e:p.1=k
  . have e':q.1=k:=h1.symm.trans e
    have b:valueAt (q::qs) k=some q.2:=by simp [valueAt,List.find?_cons,e']
    rw [zck e,b];exact h2
  . have e':¬q.1=k:=fun z=>e (h1.trans z)
    have b:valueAt (q::qs) k=valueAt qs k:=by simp [valueAt,List.find?_cons,e']
    rw [zcl e,b];exact ih
theorem KV.length {kvs:List (κ×V)} {vs:List (κ×Value)} (r:KV kvs vs):kvs.length=vs.length:=Paired.length r
end
theorem zmh {P:Program} {w:World} {k:Key} {u:Value} (r:RelV (kV k) u):(z30 P w).is k u=true:=by
 cases k with
 | inl i=>obtain ⟨t,e⟩:=(show ∃t,u=Value.int i t from r);subst e;exact zay P w i t
 | inr x=>obtain ⟨t,e⟩:=(show ∃t,u=Value.str x t from r);subst e;exact zaz P w x t
theorem z9z {P:Program} {w:World}:∀{ks:List Key} {us:List Value},Vals (ks.map kV) us->ItemsAre (z30 P w) ks us
 | [],_,r=>by rw [List.map_nil] at r;cases r;exact .nil
 | k::ks,_,r=>by
  rw [List.map_cons] at r
  cases r with
  | cons h t=>exact .cons (zmh h) (z9z t)
abbrev KT (H:Hp):List (List Key×V)->List (List Key×Addr×Value)->Prop:=Paired fun p q=>p.1=q.1/\H q.2.1=some (.tup (p.1.map kV))/\RelV p.2 q.2.2
theorem KT.val {H:Hp} {kvs:List (List Key×V)} {xs:List (List Key×Addr×Value)} (r:KT H kvs xs) (k:List Key):RelO (zcj kvs k) ((atKey xs k).map (·.2)):=by
 induction r with
 | nil=>exact True.intro
 | @cons p q ps qs h t ih=>
  obtain ⟨h1,_,h2⟩:=h
  by_cases e:p.1=k
  . have e':q.1=k:=h1.symm.trans e
    have b:atKey (q::qs) k=some q.2:=by simp [atKey,List.find?_cons,e']
    rw [zck e,b];exact h2
  . have e':¬q.1=k:=fun z=>e (h1.trans z)
    have b:atKey (q::qs) k=atKey qs k:=by simp [atKey,List.find?_cons,e']
    rw [zcl e,b];exact ih
section
variable {P:Program} {w:World} {H:Hp} {h:Heap} {a:Addr}
theorem zpz {u:HO} (ok:HOk P w H h) (e:Rd H a u):ObjOk P w H h a u:=e.ok ok
theorem ziq {kvs:List (Key×V)} (ok:HOk P w H h) (e:Rd H a (.dK kvs)):kvs.length<=sizeLine/\(a==sysModules)=false/\∃vs,KV kvs vs/\h.DictOf (z30 P w) a vs:=
 show ObjOk P w H h a (.dK kvs) from zpz ok e
theorem zfd {ks:List Key} (ok:HOk P w H h) (e:H a=some (.tup (ks.map kV))):(tupleKind (z30 P w)).is h ks a:=by
 obtain ⟨_,its,r,o,h1,h2,n,h3⟩:=(show ObjOk P w H h a (.tup (ks.map kV)) from ok a _ e)
 exact ⟨o,its.toArray,n,h1,h2,h3,by simpa using z9z r⟩
theorem zmi {kvs:List (List Key×V)} (ok:HOk P w H h) (e:Rd H a (.dT kvs)):kvs.length<=sizeLine/\(a==sysModules)=false /\
  ∃xs,KT H kvs xs/\h.DictOfH (tupleKind (z30 P w)) a xs:=by
 obtain ⟨z,y,xs,r,o,es,ep,h1,h2,h3,h4,h5⟩:=(show ObjOk P w H h a (.dT kvs) from zpz ok e)
 refine ⟨z,y,xs,r,o,es,ep,h1,h2,h3,h4,fun x hx=>?_,h5⟩
 have all:∀{l:List (List Key×V)} {m:List (List Key×Addr×Value)},KT H l m->∀x∈m,(tupleKind (z30 P w)).is h x.1 x.2.1:=by
  intro l m q
  induction q with
  | nil=>intro x hx;exact nomatch hx
  | @cons p q ps qs hq t ih=>
   intro x hx
   rcases List.mem_cons.mp hx with e | hx
   . subst e
     exact zfd ok (by rw [<-hq.1];exact hq.2.1)
   . exact ih x hx
 exact all r x hx
end
def DGet (H:Hp) (a:Addr) (y:V) (r:Option V):Prop:=
 (∃kvs k,Rd H a (.dK kvs)/\y=kV k/\r=zcj kvs k)\/∃kvs k b,Rd H a (.dT kvs)/\y=.ref b/\H b=some (.tup (k.map kV))/\r=zcj kvs k
theorem DGet.k {H:Hp} {a:Addr} {kvs:List (Key×V)} {k:Key} (e:H a=some (.dK kvs)):DGet H a (kV k) (zcj kvs k):=.inl ⟨kvs,k,.inl e,rfl,rfl⟩
theorem DGet.t {H:Hp} {a b:Addr} {kvs:List (List Key×V)} {k:List Key} (e:H a=some (.dT kvs)) (eb:H b=some (.tup (k.map kV))):DGet H a (.ref b) (zcj kvs k):=.inr ⟨kvs,k,b,.inl e,rfl,eb,rfl⟩
section
variable {X:Cx} {pins:List (Addr×Obj)} {U:St} {H:Hp} {s:Shared} {a:Addr} {y v:V} {u r:Value} {o:Option V} {A:Around} {E:Value->Shared->Prop}
theorem Inv.big (I:Inv X pins U H s):sysModules<s.heap.objs.size:=by
 have h:mainGlobals<s.heap.objs.size:=(I.mod.glob.keeps I.bk).lt
 exact Nat.lt_trans (by decide) h
theorem zfe {Q:Value->Shared->Prop} (hu:A.units+1<cLine) (I:Inv X pins U H s) (g:DGet H a y (some v)) (ry:RelV y u) (h:∀w' s',Inv X pins U H s'->RelV v w'->Q w' s') :
  wpAny (model X.prog X.w) A (getItem (.ref a) u) Q E s:=by
 rcases g with ⟨kvs,k,e,ey,l⟩ | ⟨kvs,k,b,e,ey,eb,l⟩
 . subst ey
   obtain ⟨z,hd,vs,rel,dd⟩:=ziq I.hok e
   obtain ⟨w',hw,rw'⟩:=RelO.some_of (v:=v) (o:=valueAt vs k) (by rw [l];exact rel.val k)
   exact wpAny_getItem_of (zmh ry) dd.mapOf hw (h w' _ (I.tok _) rw')
 . subst ey
   cases (show u=Value.ref b from ry)
   obtain ⟨z,hd,xs,rel,dd⟩:=zmi I.hok e
   obtain ⟨w',hw,rw'⟩:=RelO.some_of (v:=v) (o:=(atKey xs k).map (·.2)) (by rw [l];exact rel.val k)
   obtain ⟨p,hp,hp2⟩:=Option.map_eq_some_iff.mp hw
   refine wpAny_getItem_heap (tupleKind_room_in1 hu) (zfd I.hok eb) dd hp ?_
   rw [hp2]
   exact h w' _ (I.tok _) rw'
theorem zyk {Q:Value->Shared->Prop} (hu:A.units+1<cLine) (I:Inv X pins U H s) (g:DGet H a y o) (ry:RelV y u) (h:∀s',Inv X pins U H s'->Q (.bool o.isSome) s') :
  wpAny (model X.prog X.w) A (compareOp .In u (.ref a)) Q E s:=by
 rcases g with ⟨kvs,k,e,ey,l⟩ | ⟨kvs,k,b,e,ey,eb,l⟩
 . subst ey
   obtain ⟨z,hd,vs,rel,dd⟩:=ziq I.hok e
   refine wpAny_in_of (zmh ry) hd dd.mapOf ?_
   rw [<-(rel.val k).isSome_eq,<-l]
   exact h _ (I.tok _)
 . subst ey
   cases (show u=Value.ref b from ry)
   obtain ⟨z,hd,xs,rel,dd⟩:=zmi I.hok e
   refine wpAny_in_heap (tupleKind_room_in1 hu) (zfd I.hok eb) hd dd ?_
   have q:=(rel.val k).isSome_eq
   rw [Option.isSome_map] at q
   rw [<-q,<-l]
   exact h _ (I.tok _)
theorem zmj {h':Heap} {t':Nat} {ob:HO} (I:Inv X pins U H s) (mu:Mut (H a)) (hs:Heap.SameBut a s.heap h') (he:∃q,h'.get? a=some q) (new:ObjOk X.prog X.w (upd H a ob) h' a ob) :
  Inv X pins U (upd H a ob) { s with heap:=h',toks:=t' }:=
 I.write (x:=a) (e:=a) mu (.inl rfl) (fun b q hb z=>(hs.2 b hb).trans z) he new
end
section
variable {X:Cx} {pins:List (Addr×Obj)} {U:St} {H:Hp} {s:Shared} {a:Addr} {kvs:List (Key×V)} {k:Key} {u:Value} {A:Around} {E:Value->Shared->Prop}
theorem zuv {Q:Value->Shared->Prop} (I:Inv X pins U H s) (e:Rd H a (.dK kvs)) (h:∀t s',Inv X pins U H s'->Q (.int kvs.length t) s'):wpAny (model X.prog X.w) A (call (.builtin "len") [.ref a]) Q E s:=by
 obtain ⟨z,hd,vs,rel,dd⟩:=ziq I.hok e
 refine call_len_dict hd dd (by rw [<-rel.length];rw [sizeLine_eq] at z;omega) ?_
 rw [<-rel.length]
 exact h _ _ (I.tok _)
end
theorem zb7 {X:Cx} {pins:List (Addr×Obj)} {U:St} {H:Hp} {s:Shared} {a:Addr} {y:V} {o:Option V} (I:Inv X pins U H s) (g:DGet H a y o):s.TypeIs (.ref a) "dict":=by
 rcases g with ⟨kvs,k,e,_,_⟩ | ⟨kvs,k,b,e,_,_,_⟩
 . obtain ⟨_,_,vs,_,dd⟩:=ziq I.hok e
   exact dd.typeIs
 . obtain ⟨_,_,xs,_,dd⟩:=zmi I.hok e
   exact dd.typeIs
structure M1 (X:Cx) (o:Expr) (m:Str) (apos:Pos) (e:Expr) (cpos:Pos):Prop where
 base:attributeBase o m X.env (eval o X.env)=eval o X.env
 few:((backTo cpos (starEach [e] X.env)).all (fun x=>!x.1)&&(backToKw cpos (keywordEach [] X.env)).all (fun x=>x.1.isSome)
  && decide (([e]:List Expr).length+([]:List Keyword).length+(if ([]:List Keyword).isEmpty then 0 else 1)<30))=true
 line:(apos.endLine==cpos.line)=true
 trees:backTo cpos (starEach [e] X.env)=[(false,eval e X.env)]
structure M2 (X:Cx) (o:Expr) (m:Str) (apos:Pos) (e f:Expr) (cpos:Pos):Prop where
 base:attributeBase o m X.env (eval o X.env)=eval o X.env
 few:((backTo cpos (starEach [e,f] X.env)).all (fun x=>!x.1)&&(backToKw cpos (keywordEach [] X.env)).all (fun x=>x.1.isSome)
  && decide (([e,f]:List Expr).length+([]:List Keyword).length+(if ([]:List Keyword).isEmpty then 0 else 1)<30))=true
 line:(apos.endLine==cpos.line)=true
 trees:backTo cpos (starEach [e,f] X.env)=[(false,eval e X.env),(false,eval f X.env)]
end L2
namespace Att
open PySem PySem.W PySem.Calls PyProof.Rows
theorem z6n {P:Params} {h:Heap}:∀(ns:List Int) (vs:List Value),WellAll P h vs (ns.map WData.int)->IntsAre vs ns:=by
 intro ns
 induction ns with
 | nil=>
  intro vs w
  rw [List.map_nil] at w
  cases w
  exact .nil
 | cons n ns ih=>
  intro vs w
  rw [List.map_cons] at w
  cases w with
  | cons a b=>
   cases a
   exact .cons _ _ (ih _ b)
theorem zff {l:OpenLaw} {n:Nat} (hn:l.most=some n) {P:Params} {h:Heap} {args:List WData} {vals:List Value}
  (hpre:l.row.toRowW.claim.pre args=true) (hwl:WellAll P h vals args) :
  ∃a vs ns,vals=[Value.ref a]/\args=[WData.list (ns.map WData.int)]/\h.get? a=some { cls:=.type "list",data:=.seq vs.toArray }/\IntsAre vs ns/\ns.length<=n:=by
 have hsh:WShape.hasAll [] args [.list .int]=true:=(pre_splitW hpre).1
 have hc:l.pre.holds [] { args:=args }=true:=(pre_splitW hpre).2
 obtain ⟨d,r,rfl,h1,h2⟩:=hasAllW_cons hsh
 obtain rfl:=hasAllW_nil h2
 obtain ⟨xs,rfl,h3⟩:=hasW_list h1
 obtain ⟨ns,rfl⟩:=items_int h3
 have hlen:ns.length<=n:=by
  unfold OpenLaw.pre at hc
  have h4:(WTm.not (.lt (.lit (.int (n:Int))) (.len (.arg 0)))).holds [] { args:=[.list (ns.map .int)] }=true:=by
   have h4:=(holds_andW hc).1
   rw [hn] at h4
   exact h4
  have h5:=condW_of h4 (w_not (w_lt w_lit (w_len_list (w_arg rfl))))
  rw [List.length_map] at h5
  refine Nat.le_of_not_lt fun q=>?_
  have q':(n:Int)<((ns.length:Nat):Int):=by omega
  first
   | (rw [decide_eq_true q'] at h5;exact absurd h5 (by decide))
   | (simp at h5;omega)
 cases hwl with
 | cons w1 w2=>
  cases w2
  cases w1 with
  | list ho hall=>exact ⟨_,_,ns,rfl,rfl,ho,z6n ns _ hall,hlen⟩
theorem zfg (l:OpenLaw) (args:List WData):l.row.toRowW.claim.post args (.bool true) args=true:=
 postW_of (r:=l.row.toRowW) (X:=(true==true))
  (show WShape.has [] (.bool true) .bool=true by first | rfl | decide | simp [WShape.has,WShape.arms,WShape.armsAll])
  (show (WTm.eq .res (.lit (.bool true))).value [] { args:=args,res:=some (.bool true),after:=args }=some (.bool (true==true)) from w_eq_bool (w_res rfl) w_lit) rfl
theorem attach_call {l:OpenLaw} {n:Nat} {q:Program} {loose:List Str} {XP:(Str->Option Value)->Heap->Prop} {YP:World->Heap->Prop} {d:DefRec}
  (hn:l.most=some n) (hdf:d.params.defaults=[])
  (call:∀(w:World) (s₀ s₁:Shared) (mg mb:Str->Option Value) (fa:Addr) (o:Obj) (pm cd doc:Value) (a:Addr) (vs:List Value) (ns:List Int),
   Ground q loose [] XP w s₀ mg mb s₁.heap->YP w s₁.heap ->
   s₁.heap.get? fa=some o->o.data=.func (docDef d.name d.params d.body d.scope pm cd doc)->s₁.heap.CodeRec cd d.name->mg d.name=some (.ref fa) ->
   s₁.heap.get? a=some { cls:=.type "list",data:=.seq vs.toArray }->IntsAre vs ns->ns.length<=n->s₁.gens=#[] ->
   codeAny (model l.prog w) callerA (.call (.ref fa) ⟨[.ref a],[]⟩) (fun r s'=>r=.ok (.ret (.bool true))/\OldK s₁.heap s'.heap/\s'.os=s₁.os/\AllBare s'.gens) s₁) :
  WalkO q loose XP YP l.row.toRowW d [] (fun f vs=>PySem.call f vs):=by
 intro w s₀ s₁ mg mb G Y fa o pm cd doc dV kV ho hd hcd hD hmg hg args vals as hpre hlay hrd hwl hlo
 obtain rfl:dV=.none:=Dflts.none hD hdf
 obtain rfl:kV=.none:=Dflts.noKw hD
 obtain ⟨a,vs,ns,rfl,rfl,hobj,hints,hlen⟩:=zff hn hpre hwl
 refine enter_call (codeAny_mono (call w s₀ s₁ mg mb fa o pm cd doc a vs ns G Y ho (fd_plain hd) hcd hmg hobj hints hlen hg) fun r s' hq=>?_)
 obtain ⟨rfl,h2,h3,h4⟩:=hq
 exact ⟨.inl ⟨.bool true,.bool true,[],rfl,fun _=>rfl,.bool true,zfg l _,fun _=>⟨List.Pairwise.nil,fun _ hm=>(nomatch hm)⟩⟩,h2,h3,h4⟩
section
variable {prog:Program} {w:World} {A:Around} {E:Value->Shared->Prop} {s:Shared} {K:Frag}
def noObjs (h:Heap):Heap:={ h with objs:=#[] }
theorem noObjs_get (h:Heap) (b:Addr):(noObjs h).get? b=none:=by
 cases e:(noObjs h).get? b with
 | none=>rfl
 | some o=>exact absurd (Heap.lt_size e) (Nat.not_lt_zero _)
theorem fr_all {h:Heap} {L:Addr} {m:Str->Option Value} (n:h.Ns L m):Fr (noObjs h) L h m:=
 ⟨n,fun b o e=>(by rw [noObjs_get] at e;cases e),Nat.zero_le _⟩
end
end Att
namespace L2
open PySem PySem.Spec PyProof.Rows
theorem za0:∀{vs:List Value} {ns:List Int},IntsAre vs ns->Vals (ns.map V.int) vs
 | _,_,.nil=>.nil
 | _,_,.cons n t h=>.cons ⟨t,rfl⟩ (za0 h)
def zuc (H:Hp):Prop:=∀b,H b=none\/∃o xs,H b=some (.frz o (.lst xs))
theorem zir {P:Program} {w:World} {K:Frag} {mg mb:Str->Option Value} {CX:CXT} {k:Nat} {fa a:Addr} {fd:FuncData} {x:Str} {sp:Sp} {s₁:Shared} {vs:List Value} {ns:List Int}
  (KX:K.In s₁.heap) (hns:s₁.heap.Ns mainGlobals mg) (hb:s₁.heap.Ns builtinsNs mb) (hbb:∀x:Str,x≠"__name__"->mb x=bootBuiltins x) (hlim:s₁.heap.NoLimit) (hg:s₁.gens=#[])
  (ha:s₁.heap.get? a=some { cls:=.type "list",data:=.seq vs.toArray }) (hi:IntsAre vs ns) (hl:ns.length<=sizeLine) (hr:Room k callerA)
  (F:∀base:Heap,K.In base->base.Ns mainGlobals mg->FnOk P w K mg base CX k fa fd [x] sp) (hbind:∀(s:Shared) (u:Value),BindsTo s fd ⟨[u],[]⟩ [(x,u)])
  (hsp:∀H:Hp,zuc H->SqL K H a (ns.map V.int)->sp [.ref a] H (fun v _=>v=.bl true) fun _ _ _=>False)
  (hCX:∀H e s',CX [] H s₁ (fun _ _ _=>False) e s'->False) :
  codeAny (model P w) callerA (.call (.ref fa) ⟨[.ref a],[]⟩) (fun r s'=>r=.ok (.ret (.bool true))/\OldK s₁.heap s'.heap/\s'.os=s₁.os/\AllBare s'.gens) s₁:=by
 have rv:=za0 hi
 have lenV:=hi.length
 have core:∀H:Hp,zuc H->SqL K H a (ns.map V.int)->HOk P w H s₁.heap->(∀b,H b≠none->b=a)->(H a≠none->K.lookup a=none) ->
   codeAny (model P w) callerA (.call (.ref fa) ⟨[.ref a],[]⟩) (fun r s'=>r=.ok (.ret (.bool true))/\OldK s₁.heap s'.heap/\s'.os=s₁.os/\AllBare s'.gens) s₁:=by
  intro H hO hS hok hA hK
  have base_of:∀{b:Addr} {o:Obj},s₁.heap.get? b=some o->H b=none->(zik s₁.heap H).get? b=some o:=fun e n=>zil e n
  have noA:∀{b:Addr} {o:Obj} {es:Array DictEntry} {ep:Nat},s₁.heap.get? b=some o->o.data=.dict es ep->H b=none:=fun {b o es ep} e d=>by
   cases q:H b with
   | none=>rfl
   | some u=>
    have e':b=a:=hA b (by rw [q];simp)
    subst e'
    rw [ha] at e;cases e
    have d':Data.seq vs.toArray _=Data.dict es ep:=d
    cases d'
  have nsK:∀{b:Addr} {m:Str->Option Value},s₁.heap.Ns b m->(zik s₁.heap H).Ns b m:=fun {b m} ⟨o,es,ep,e,d,r⟩=>⟨o,es,ep,base_of e (noA e d),d,r⟩
  have hKb:K.In (zik s₁.heap H):=fun b o e=>base_of (KX b o e) (by
   cases q:H b with
   | none=>rfl
   | some u=>
    have e':b=a:=hA b (by rw [q];simp)
    subst e'
    rw [hK (by rw [q];simp)] at e;cases e)
  have hM:Mod K mg (zik s₁.heap H):=⟨hKb,nsK hns,⟨mb,nsK hb,hbb⟩,let ⟨mc,h1,h2⟩:=hlim;⟨mc,nsK h1,h2⟩⟩
  have e0:Env0 P w K mg (zik s₁.heap H) callerA [] s₁ H:=⟨rfl,hM,fun b o e=>zm6 e,Nat.le_of_eq (zf0 _ _),trivial,fun b hb=>absurd (show b∈([]:List Addr) from hb) (by simp),hok,.of_eq hg⟩
  refine codeAny_mono ((F _ hKb (nsK hns)).run callerA [] s₁ H ⟨[.ref a],[]⟩ [.ref a] [.ref a] _ _ hr e0 (hbind s₁ (.ref a)) (.cons rfl .nil) (hsp H hO hS)) fun r s' h=>?_
  cases r with
  | error e=>exact (hCX H e s' h).elim
  | ok fl=>
   cases fl with
   | next=>exact False.elim h
   | brk=>exact False.elim h
   | cont=>exact False.elim h
   | ret u=>
    obtain ⟨v,H',os,bare,un,hok',r',q⟩:=h
    have q':v=.bl true:=q
    subst q'
    obtain rfl:u=Value.bool true:=r'
    refine ⟨rfl,OldK.of_keep fun b o e=>?_,os,bare⟩
    cases q:H b with
    | none=>exact un.keep b o e q (by intro z;exact absurd (show b∈([]:List Addr) from z) (by simp)) (by simp)
    | some u=>
     rcases hO b with z | ⟨ob,xs,z⟩
     . rw [q] at z;cases z
     . have z2:=un.frzs b ob _ z
       obtain ⟨e1,_⟩:=hok b _ z
       obtain ⟨e2,_⟩:=hok' b _ z2
       rw [e] at e1;cases e1
       exact e2
 cases hk:K.lookup a with
 | some o=>
  have e:=KX a o hk
  rw [ha] at e
  cases e
  refine core (fun _=>none) (fun _=>.inl rfl) (.inr ⟨_,vs.toArray,_,hk,rfl,rfl,rfl,by rw [List.size_toArray,lenV];exact hl,by simpa using rv⟩) (fun b u z=>by have z':(none:Option HO)=some u:=z;cases z') (fun b z=>absurd rfl z) fun z=>absurd rfl z
 | none=>
  refine core (fun b=>if b=a then some (.frz { cls:=.type "list",data:=.seq vs.toArray } (.lst (ns.map V.int))) else none) (fun b=>?_) (.inl (.inr ⟨{ cls:=.type "list",data:=.seq vs.toArray },if_pos rfl⟩)) (fun b u z=>?_) (fun b z=>?_) fun _=>hk
  . by_cases hb:b=a
    . exact .inr ⟨_,_,if_pos hb⟩
    . exact .inl (if_neg hb)
  . by_cases hb:b=a
    . have z':=(if_pos hb).symm.trans z
      cases z'
      subst hb
      exact ⟨ha,by rw [List.length_map];exact hl,vs,_,rv,ha⟩
    . have z':=(if_neg hb).symm.trans z
      cases z'
  . by_cases hb:b=a
    . exact hb
    . exact absurd (if_neg hb) z
theorem walk_of {l:PySem.W.OpenLaw} {n k:Nat} {q:Program} {loose:List Str} {XP:(Str->Option Value)->Heap->Prop} {YP:World->Heap->Prop} {d:DefRec} {K:Params->Frag} {CX:World->CXT} {sp:World->Sp} {x:Str}
  (hn:l.most=some n) (hn2:n<=sizeLine) (hdf:d.params.defaults=[]) (hr:Room k callerA)
  (hY:∀(w:World) (h:Heap),YP w h->(K w.params).In h)
  (F:∀(w:World) (mg:Str->Option Value) (fa:Addr) (h:Heap),(K w.params).In h->h.Ns mainGlobals mg->mg d.name=some (.ref fa) ->
   ∃fd:FuncData,(∀(s:Shared) (u:Value),BindsTo s fd ⟨[u],[]⟩ [(x,u)]) /\
    ∀base:Heap,(K w.params).In base->base.Ns mainGlobals mg->FnOk l.prog w (K w.params) mg base (CX w) k fa fd [x] (sp w))
  (hsp:∀(w:World) (H:Hp) (a:Addr) (ns:List Int),ns.length<=n->zuc H->SqL (K w.params) H a (ns.map V.int)->sp w [.ref a] H (fun v _=>v=.bl true) fun _ _ _=>False)
  (hCX:∀(w:World) (H:Hp) (s:Shared) (e:Value) (s':Shared),CX w [] H s (fun _ _ _=>False) e s'->False) :
  PySem.W.WalkO q loose XP YP l.row.toRowW d [] (fun f vs=>PySem.call f vs):=by
 refine Att.attach_call hn hdf fun w s₀ s₁ mg mb fa o pm cd doc a vs ns G Y ho hd hcd hmg hobj hints hlen hg=>?_
 have KX:=hY w _ Y
 obtain ⟨fd,hb,hF⟩:=F w mg fa _ KX G.T.g hmg
 exact zir KX G.T.g G.T.b G.T.builtins G.T.nolimit hg hobj hints (Nat.le_trans hlen hn2) hr hF hb (fun H hO hS=>hsp w H a ns hlen hO hS) fun H e s'=>hCX w H s₁ e s'
noncomputable def z0p (s:Stmt):Arguments:=match s with
 | .FunctionDef _ a _ _ _ _ _ _ _ _=>a
 | _=>{ posonlyargs:=[],args:=[],vararg:=none,kwonlyargs:=[],kw_defaults:=[],kwarg:=none,defaults:=[] }
noncomputable def z0k (s:Stmt):List Stmt:=match s with
 | .FunctionDef _ _ b _ _ _ _ _ _ _=>b
 | _=>[]
noncomputable def z02 (s:Stmt):Scope:=match s with
 | .FunctionDef _ _ _ _ _ _ sc _ _ _=>sc
 | _=>{ kind:=.function,names:=[],isGenerator:=false,isCoroutine:=false }
abbrev CX0:CXT:=fun _ _ _ _ _ _=>False
structure Fun (K:Frag) (x qual:Str) (st:Stmt) (f:Addr) (fd:FuncData):Prop where
 ex:∃(oc:Value) (od:Option Addr) (kV doc pm:Value) (an:Option Addr) (cdv ct:Value) (osl:Array (Option Value)),
  fd=PySem.W.fnOf x qual (z0p st) (z0k st) (z02 st) .none kV doc pm an cdv ct/\K.lookup f=some ⟨oc,od,.func fd,osl⟩/\codeIn K cdv qual=true
 kp:keepIn K (.ref f)=true
section
variable {P:Program} {w:World} {K:Frag} {mg:Str->Option Value} {base:Heap}
theorem Fun.ok {x qual:Str} {st:Stmt} {f:Addr} {fd:FuncData} {N ps:List Str} {k:Nat} {sp:Sp} (F:Fun K x qual st f fd) (S:FnScope N ps (z02 st)) (len:∀vs H Q E,sp vs H Q E->vs.length=ps.length)
  (hbody:∀(cdv:Value) (A:Around) (outer:List Env) (s:Shared) (H:Hp) (vs:List V) (Q:VK) (E:XK),Room k (A.deeper (envOfC qual (z02 st) s.heap.objs.size f cdv))->sp vs H Q E ->
   ∃t,PSs (zie CX0 P w K mg base N qual (z02 st) f cdv A outer s H E).nox (z0k st) t/\t { nx:=fun _ H'=>Q .non H',rt:=Q } (z5k N vs) H):FnOk P w K mg base CX0 (k+1) f fd ps sp:=by
 obtain ⟨oc,od,kV,doc,pm,an,cdv,ct,osl,rfl,lk,hcd⟩:=F.ex
 refine zpw lk hcd S len fun A outer s H vs Q E hr hsp=>?_
 obtain ⟨t,h,q⟩:=hbody cdv A outer s H vs Q E hr hsp
 exact ⟨t,h.nox,q⟩
theorem Fun.binds {x qual:Str} {st:Stmt} {f:Addr} {fd:FuncData} {ps:List Str} (F:Fun K x qual st f fd)
  (h:∀(kV doc pm:Value) (an:Option Addr) (cdv ct:Value) (us:List Value),us.length=ps.length->bindArgs (PySem.W.fnOf x qual (z0p st) (z0k st) (z02 st) .none kV doc pm an cdv ct) ⟨us,[]⟩=pure (ps.zip us)):Binds K fd ps []:=by
 obtain ⟨oc,od,kV,doc,pm,an,cdv,ct,osl,rfl,lk,hcd⟩:=F.ex
 exact .all (h kV doc pm an cdv ct)
theorem z2f {x qual:Str} {st:Stmt} {f:Addr} {oc:Value} {od an:Option Addr} {osl:Array (Option Value)} {kV doc pm cdv ct:Value} (l:K.lookup f=some ⟨oc,od,.func (PySem.W.fnOf x qual (z0p st) (z0k st) (z02 st) .none kV doc pm an cdv ct),osl⟩)
 (c:codeIn K cdv qual=true) (k:keepIn K (.ref f)=true):Fun K x qual st f (PySem.W.fnOf x qual (z0p st) (z0k st) (z02 st) .none kV doc pm an cdv ct):=⟨⟨oc,od,kV,doc,pm,an,cdv,ct,osl,rfl,l,c⟩,k⟩
end
theorem zfh {n:Nat} (h:n<=1000):n<sizeLine:=Nat.lt_of_le_of_lt h (by decide)
section
variable {X:Cx}
theorem call_lenD:CallR X (.builtin "len") (fun xs H Q=>∃a kvs,xs=[V.ref a]/\H a=some (.dK kvs)/\Q (.int kvs.length) H):=by
 intro pins s U H xs us Q I r h
 obtain ⟨a,kvs,rfl,ha,q⟩:=h
 obtain ⟨u,rfl,ru⟩:=z6m r
 cases ru
 exact zuv I (.inl ha) fun t s' I'=>⟨.int kvs.length,H,I',⟨t,rfl⟩,q⟩
end
def Same (H H':Hp):Prop:=∀b o,H b=some o->H' b=some o
theorem Same.refl (H:Hp):Same H H:=fun _ _ h=>h
theorem Same.trans {H H1 H2:Hp} (a:Same H H1) (b:Same H1 H2):Same H H2:=fun c o h=>b c o (a c o h)
theorem Same.free {H H':Hp} (e:Same H H') {l:Addr} (h:H' l=Option.none):H l=Option.none:=by
 cases q:H l with
 | none=>rfl
 | some o=>
  rw [e l o q] at h
  cases h
theorem Same.seq {K:Frag} {H H':Hp} {a:Addr} {xs:List V} (e:Same H H') (h:SqL K H a xs):SqL K H' a xs:=by
 rcases h with (h | ⟨o,h⟩) | h
 . exact .inl (.inl (e _ _ h))
 . exact .inl (.inr ⟨o,e _ _ h⟩)
 . exact .inr h
end L2
set_option maxHeartbeats 4000000
namespace L2
open PySem PySem.Spec PyProof.Rows
noncomputable def z1f (cells:List (Str×Addr)):List (Str×NameKind)->List (Str×Addr)->List (Str×Addr)
 | [],acc=>acc
 | (n,k)::r,acc=>z1f cells r (if k==.free then (n,(cells.lookup n).getD 0)::acc else acc)
theorem z4o {cells:List (Str×Addr)} {x:Str} {c:Addr}:∀{names:List (Str×NameKind)} {acc:List (Str×Addr)},
  (∀y∈names,y.2=.free->∃c,cells.lookup y.1=some c)->(∀y c,acc.lookup y=some c->cells.lookup y=some c)->(z1f cells names acc).lookup x=some c->cells.lookup x=some c
 | [],acc,_,ha,h=>ha x c h
 | (n,k)::r,acc,hf,ha,h=>by
  refine z4o (names:=r) (fun y hy=>hf y (List.mem_cons_of_mem _ hy)) (fun y c'=>?_) h
  by_cases hk:k=.free
  . subst hk
    obtain ⟨c0,e0⟩:=hf (n,.free) List.mem_cons_self rfl
    intro e
    have e1:(if (NameKind.free==NameKind.free)=true then (n,(cells.lookup n).getD 0)::acc else acc)=(n,(cells.lookup n).getD 0)::acc:=if_pos (show (NameKind.free==NameKind.free)=true from rfl)
    rw [e1,List.lookup_cons] at e
    cases hyn:y==n with
    | true=>
     rw [hyn] at e
     have e2:y=n:=by simpa using hyn
     subst e2
     have e3:=Option.some.inj e
     have e0':cells.lookup y=some c0:=e0
     rw [e0'] at e3 ⊢
     exact congrArg some e3
    | false=>rw [hyn] at e;exact ha y c' e
  . have e1:(if (k==NameKind.free)=true then (n,(cells.lookup n).getD 0)::acc else acc)=acc:=if_neg (by simpa using hk)
    rw [e1];exact ha y c'
theorem z4t {cells:List (Str×Addr)} {x:Str}:∀{names:List (Str×NameKind)} {acc:List (Str×Addr)},
  ((∃c,acc.lookup x=some c)\/∃y∈names,y.2=.free/\y.1=x)->∃c,(z1f cells names acc).lookup x=some c
 | [],acc,h=>by
  rcases h with h | ⟨y,hy,_⟩
  . exact h
  . cases hy
 | (n,k)::r,acc,h=>by
  refine z4t (names:=r) ?_
  by_cases hk:k=.free
  . subst hk
    have e1:(if (NameKind.free==NameKind.free)=true then (n,(cells.lookup n).getD 0)::acc else acc)=(n,(cells.lookup n).getD 0)::acc:=if_pos (show (NameKind.free==NameKind.free)=true from rfl)
    rw [e1,List.lookup_cons]
    cases hxn:x==n with
    | true=>exact .inl ⟨_,rfl⟩
    | false=>
     rcases h with h | ⟨y,hy,hf,e⟩
     . exact .inl h
     . rcases List.mem_cons.mp hy with z | z
       . subst z
         have e':n=x:=e
         subst e'
         simp at hxn
       . exact .inr ⟨y,z,hf,e⟩
  . have e1:(if (k==NameKind.free)=true then (n,(cells.lookup n).getD 0)::acc else acc)=acc:=if_neg (by simpa using hk)
    rw [e1]
    rcases h with h | ⟨y,hy,hf,e⟩
    . exact .inl h
    . rcases List.mem_cons.mp hy with z | z
      . subst z;exact absurd hf hk
      . exact .inr ⟨y,z,hf,e⟩
theorem z8r {scope:Scope} {env:Env} (hf:∀y∈scope.names,y.2=.free->∃c,env.cells.lookup y.1=some c):closureFor scope env=pure (z1f env.cells scope.names []):=by
 have go:∀(names:List (Str×NameKind)) (acc:List (Str×Addr)),(∀y∈names,y.2=.free->∃c,env.cells.lookup y.1=some c) ->
   (forIn names acc fun x cs=>if (x.2==NameKind.free)=true then do let a <-cellOf env x.1;pure (ForInStep.yield ((x.1,a)::cs)) else pure (ForInStep.yield cs):Sem (List (Str×Addr)))=pure (z1f env.cells names acc):=by
  intro names
  induction names with
  | nil=>intro acc _;rfl
  | cons p r ih=>
   intro acc h
   obtain ⟨n,k⟩:=p
   rw [List.forIn_cons]
   by_cases hk:k=.free
   . subst hk
     obtain ⟨c,e⟩:=h (n,.free) List.mem_cons_self rfl
     have e':env.cells.lookup n=some c:=e
     have e1:cellOf env n=pure c:=by unfold cellOf;rw [e']
     have e2:z1f env.cells ((n,NameKind.free)::r) acc=z1f env.cells r ((n,c)::acc):=by
      show z1f env.cells r (if (NameKind.free==NameKind.free)=true then (n,(env.cells.lookup n).getD 0)::acc else acc)=_
      rw [if_pos (show (NameKind.free==NameKind.free)=true from rfl),e'];rfl
     rw [e2,<-ih _ fun y hy=>h y (List.mem_cons_of_mem _ hy)]
     show ((if (NameKind.free==NameKind.free)=true then do let a <-cellOf env n;pure (ForInStep.yield ((n,a)::acc)) else pure (ForInStep.yield acc)) >>= _:Sem _)=_
     rw [if_pos (show (NameKind.free==NameKind.free)=true from rfl),e1]
     rfl
   . have hk':(k==NameKind.free)=false:=by simpa using hk
     have e2:z1f env.cells ((n,k)::r) acc=z1f env.cells r acc:=by
      show z1f env.cells r (if (k==NameKind.free)=true then _ else acc)=_
      rw [if_neg (by rw [hk'];exact Bool.false_ne_true)]
     rw [e2,<-ih _ fun y hy=>h y (List.mem_cons_of_mem _ hy)]
     show ((if (k==NameKind.free)=true then do let a <-cellOf env n;pure (ForInStep.yield ((n,a)::acc)) else pure (ForInStep.yield acc)) >>= _:Sem _)=_
     rw [if_neg (by rw [hk'];exact Bool.false_ne_true)]
     rfl
 have:=go scope.names [] hf
 unfold closureFor
 simpa using this
theorem za1 {prog:Program} {w:World} {A:Around} {R:Result->Shared->Prop} {s:Shared} {elt target iter:Expr} {ifs:List Expr} {scope:Scope} {pos:Pos} {it acc:Value} {env:Env} (I:Nat->Shared->Prop)
  (turn:∀n s,I n s->wpAny (model prog w) A (pyNext it) (fun r s₁=>match r with
   | none=>R (.ok .next) s₁
   | some v=>wpAny (model prog w) A (letOwnedTupleGo target it v) (fun _ s₁'=>wpAny (model prog w) A (assign target env v) (fun _ s₂=>
    wpAny (model prog w) A (forIn ifs true fun c r=>if r=true then do let ok <-isTrue c env (eval c env);pure (ForInStep.yield ok) else pure (ForInStep.yield r)) (fun ok s₃=>
     if ok=true then wpAny (model prog w) A (eval elt env) (fun x s₄=>
      wpAny (model prog w) A (call (.builtin "list.append") [acc,x]) (fun _ s₅=>∃m,m<n/\I m s₅) (fun _ _=>False) s₄) (fun _ _=>False) s₃
     else ∃m,m<n/\I m s₃) (fun _ _=>False) s₂) (fun _ _=>False) s₁') (fun _ _=>False) s₁) (fun _ _=>False) s)
  (n:Nat) (h:I n s) :
  codeAny (model prog w) A (.compLoop (.ListComp elt [⟨target,iter,ifs,0⟩] scope pos) 0 it acc env) R s:=by
 refine codeAny_loop rfl I (fun n s hI=>?_) n h
 show wpAny _ A ((compTurn (.ListComp elt [⟨target,iter,ifs,0⟩] scope pos) 0 it acc env).onRaise (fun x=>do noteFrame x env;theTreesLotGoes x)) _ _ s
 refine wpAny_noted ?_
 rw [compTurn_list]
 refine wpAny_bind (wpAny_standAt (wpAny_bind (wpAny_mono (turn n s hI) (fun r s₁ h₁=>?_) fun _ _ h'=>h'.elim)))
 cases r with
 | none=>exact wpAny_pure h₁
 | some v=>
  refine wpAny_bind (wpAny_mono h₁ (fun _ s₁' h₁'=>?_) fun _ _ h'=>h'.elim)
  refine wpAny_bind (wpAny_mono h₁' (fun _ s₂ h₂=>wpAny_bind (wpAny_mono h₂ (fun ok s₃ h₃=>?_) fun _ _ h'=>h'.elim)) fun _ _ h'=>h'.elim)
  cases ok with
  | false=>exact wpAny_pure ⟨rfl,h₃⟩
  | true=>
   exact wpAny_bind (wpAny_bind (wpAny_mono h₃ (fun x s₄ h₄=>wpAny_bind (wpAny_mono h₄ (fun _ s₅ h₅=>wpAny_pure (wpAny_pure ⟨rfl,h₅⟩)) fun _ _ h'=>h'.elim)) fun _ _ h'=>h'.elim))
theorem z3a {env:Env}:∀{names:List (Str×NameKind)} {x:Str},
  (names.map fun (n,k)=>if (k==NameKind.free&&env.scope.kind==.function&&env.kindOf n==some .cell) then (n,NameKind.cell) else (n,k)).lookup x =
   (names.lookup x).map fun k=>if (k==NameKind.free&&env.scope.kind==.function&&env.kindOf x==some .cell) then NameKind.cell else k
 | [],_=>rfl
 | (n,k)::r,x=>by
  have ih:=@z3a env r x
  show List.lookup x ((if (k==NameKind.free&&env.scope.kind==.function&&env.kindOf n==some .cell)=true then (n,NameKind.cell) else (n,k))::_)=_
  cases hx:x==n with
  | true=>
   have e:x=n:=by simpa using hx
   subst e
   by_cases hc:(k==NameKind.free&&env.scope.kind==.function&&env.kindOf x==some .cell)=true
   . rw [if_pos hc];simp only [List.lookup_cons,hx,Option.map_some,hc,if_true]
   . rw [if_neg hc];simp only [List.lookup_cons,hx,Option.map_some,hc,if_false];rfl
  | false=>
   by_cases hc:(k==NameKind.free&&env.scope.kind==.function&&env.kindOf n==some .cell)=true
   . rw [if_pos hc];simp only [List.lookup_cons,hx];exact ih
   . rw [if_neg hc];simp only [List.lookup_cons,hx];exact ih
noncomputable def z1x (X:Cx) (sc:Scope) (N':List Str) (fp:List Addr) (s₃:Shared) (H₃:Hp):Cx:=
 { X with env:=compEnvC sc (z1f X.env.cells sc.names []) s₃.heap.objs.size X.env,N:=N',s₀:=s₃,H₀:=H₃,outer:=X.stack,ex:=fp,fn:=fun _=>false,pn:=[],xe:=fun _ _=>False }
noncomputable def zif (ix:List Nat) (U:St):St:=ix.map fun j=>(U[j]?).getD none
structure CompOk (X:Cx) (sc:Scope) (caps:List Str) (ix:List Nat):Prop where
 calm:X.calm=true
 kind:sc.kind=.function
 ncell:∀y∈sc.names,y.2≠.cell
 free:∀y∈sc.names,y.2=.free->X.env.kindOf y.1=some .cell\/X.env.kindOf y.1=some .free
 names:∀y∈sc.names,y.2=.local->sc.names.lookup y.1=some .local
 cap:∀(j:Nat) x,caps[j]?=some x->sc.names.lookup x=some .free/\∃i,ix[j]?=some i/\X.N[i]?=some x
 len:ix.length=caps.length
noncomputable def za2 (fsc:Scope) (N:List Str) (sc:Scope) (caps:List Str) (ix:List Nat):Bool:=
 sc.kind==.function&&sc.names.all (fun y=>y.2 != .cell)&&sc.names.all (fun y=>y.2 != .free||(fsc.names.lookup y.1==some .cell||fsc.names.lookup y.1==some .free)) &&
  sc.names.all (fun y=>y.2 != .local||sc.names.lookup y.1==some .local)&&caps.all (fun x=>sc.names.lookup x==some .free)&&(ix.map fun i=>N[i]?)==caps.map some
theorem z24 {X:Cx} {sc:Scope} {caps:List Str} {ix:List Nat} (hc:X.calm=true) (h:za2 X.env.scope X.N sc caps ix=true):CompOk X sc caps ix:=by
 unfold za2 at h
 simp only [Bool.and_eq_true] at h
 obtain ⟨⟨⟨⟨⟨h1,h2⟩,h3⟩,h4⟩,h5⟩,h6⟩:=h
 have e6:(ix.map fun i=>X.N[i]?)=caps.map some:=by simpa using h6
 have elen:ix.length=caps.length:=by simpa using congrArg List.length e6
 refine ⟨hc,by simpa using h1,fun y hy=>?_,fun y hy hf=>?_,fun y hy hl=>?_,fun j x hj=>⟨?_,?_⟩,elen⟩
 . have:=List.all_eq_true.mp h2 y hy
   simpa using this
 . have:=List.all_eq_true.mp h3 y hy
   rw [hf] at this
   simp only [bne_self_eq_false,Bool.false_or,Bool.or_eq_true,beq_iff_eq] at this
   exact this
 . have:=List.all_eq_true.mp h4 y hy
   rw [hl] at this
   simpa using this
 . have:=List.all_eq_true.mp h5 x (List.mem_of_getElem? hj)
   simpa using this
 . have hjl:j<ix.length:=by rw [elen];exact (List.getElem?_eq_some_iff.mp hj).1
   refine ⟨ix[j],List.getElem?_eq_getElem hjl,?_⟩
   have q:=congrArg (fun l=>l[j]?) e6
   simp only [List.getElem?_map,List.getElem?_eq_getElem hjl,hj,Option.map_some] at q
   exact Option.some.inj q
section
variable {X:Cx} {sc:Scope} {tgs caps:List Str} {ix:List Nat} {pins:List (Addr×Obj)} {U:St} {H:Hp} {s:Shared} {fp:List Addr}
theorem CompOk.free_cell (C:CompOk X sc caps ix) (I:Inv X pins U H s):∀y∈sc.names,y.2=.free->∃c,X.env.cells.lookup y.1=some c:=fun y hy hf=>I.ok.has y.1 (C.free y hy hf)
theorem CompOk.sub (C:CompOk X sc caps ix) (I:Inv X pins U H s) {x:Str} {c:Addr} (h:(z1f X.env.cells sc.names []).lookup x=some c):X.env.cells.lookup x=some c:=
 z4o (C.free_cell I) (fun _ _ e=>by cases e) h
theorem ze0 (C:CompOk X sc caps ix) (I:Inv X pins U H s) (hf:∀b∈fp,z9p X pins H b) (hl:∀b∈fp,b<s.heap.objs.size) {h':Heap} {t':Nat} {m:Str->Option Value} (hn:h'.Ns s.heap.objs.size m)
  (hk:∀b o,s.heap.get? b=some o->h'.get? b=some o) :
  Inv (z1x X sc (tgs++caps) fp s H) [] (List.replicate tgs.length none++zif ix U) H { s with heap:=h',toks:=t' }:=by
 have sub:∀{x c},(z1f X.env.cells sc.names []).lookup x=some c->X.env.cells.lookup x=some c:=fun h=>C.sub I h
 have clt:∀{x c},X.env.cells.lookup x=some c->c<s.heap.objs.size:=fun {x c} h=>by
  obtain ⟨v,q⟩:=I.cell x c h
  exact q.lt
 refine ⟨⟨I.ok.mod,C.kind,I.ok.glob,I.ok.blt,Nat.le_refl _,fun x y c h1 h2=>I.ok.inj x y c (sub h1) (sub h2),fun x hx=>?_,fun x c hfn _=>?_,I.ok.hd,I.ok.frames,.inl rfl,fun b hb=>⟨?_,fun x c h z=>?_⟩,fun b o e=>I.bs b o e,Nat.le_trans I.ok.bsz I.sz,fun b o e hb=>?_,fun b hb hfs=>?_,I.stack,I.stkFree⟩,
  rfl,I.bare,Un.kept hk,⟨m,hn,fun i x v e1 e2 e3=>?_⟩,fun x c h=>?_,I.hok.fresh (Nat.le_refl _),fun x c h=>I.freeC x c (sub h),fun p hp=>absurd (show p∈([]:List (Addr×Obj)) from hp) (by simp),I.hok.kept hk,?_⟩
 . -- a cell or free name of the block has a cell
   have hx':(relabel sc X.env).names.lookup x=some .cell\/(relabel sc X.env).names.lookup x=some .free:=hx
   have e:(relabel sc X.env).names.lookup x=(sc.names.lookup x).map fun k=>if (k==NameKind.free&&X.env.scope.kind==.function&&X.env.kindOf x==some .cell) then NameKind.cell else k:=z3a
   rw [e] at hx'
   cases q:sc.names.lookup x with
   | none=>rw [q] at hx';rcases hx' with z | z<;>cases z
   | some k=>
    have hm:(x,k)∈sc.names:=PySem.mem_of_lookup q
    have hkf:k=.free:=by
     rw [q] at hx'
     simp only [Option.map_some] at hx'
     by_cases hkk:k=.free
     . exact hkk
     . have:(k==NameKind.free)=false:=by simpa using hkk
       simp only [this,Bool.false_and,Bool.false_eq_true,if_false] at hx'
       rcases hx' with z | z
       . exact absurd (Option.some.inj z) (C.ncell _ hm)
       . exact Option.some.inj z
    subst hkf
    exact z4t (.inr ⟨_,hm,rfl,rfl⟩)
 . exact absurd (show false=true from hfn) Bool.false_ne_true
 . exact Nat.ne_of_lt (hl b hb)
 . exact (hf b hb).2.2.2.2.1 x c (sub h) z
 . obtain ⟨_,_,_,hx,_⟩:=hf b hb
   rcases hx with z | z
   . exact I.ok.noex b o e z
   . exact absurd (Nat.lt_of_lt_of_le (Heap.lt_size e) (Nat.le_trans I.ok.bsz z)) (Nat.lt_irrefl _)
 . obtain ⟨_,h1,h2,_⟩:=hf b hb
   rcases List.mem_cons.mp (I.stkSub b hfs) with z | z
   . exact h1 z
   . exact h2 z
 . -- the captured names' values
   have hi:tgs.length<=i:=by
    by_cases hi:i<tgs.length
    . rw [List.getElem?_append_left (by simpa using hi),List.getElem?_replicate] at e2
      split at e2<;>cases e2
    . omega
   have e1':caps[i - tgs.length]?=some x:=by
    have:(tgs++caps)[i]?=some x:=e1
    rw [List.getElem?_append_right hi] at this
    exact this
   rw [List.getElem?_append_right (by simpa using hi),List.length_replicate] at e2
   obtain ⟨hfr,j,hj,hjN⟩:=C.cap _ x e1'
   have e2':U[j]?=some (some v):=by
    unfold zif at e2
    rw [List.getElem?_map,hj] at e2
    simp only [Option.map_some] at e2
    have e2:=Option.some.inj e2
    cases q:U[j]? with
    | none=>rw [q] at e2;cases e2
    | some o=>rw [q] at e2;exact congrArg some e2
   have hmem:(x,NameKind.free)∈sc.names:=PySem.mem_of_lookup hfr
   have hkind:=C.free _ hmem rfl
   obtain ⟨m0,hn0,hl0⟩:=I.loc
   have hvis:Vis X.env.scope x:=hkind.elim (fun z=>.inr (.inl z)) fun z=>.inr (.inr z)
   obtain ⟨u,r,look⟩:=hl0 j x v hjN e2' hvis
   refine ⟨u,r,?_⟩
   rcases look with ⟨k,_⟩ | ⟨_,c,hc,z⟩
   . rcases hkind with q | q
     . rw [show X.env.kindOf x=some .cell from q] at k;cases k
     . rw [show X.env.kindOf x=some .free from q] at k;cases k
   . obtain ⟨c',hc'⟩:=z4t (cells:=X.env.cells) (names:=sc.names) (acc:=[]) (x:=x) (.inr ⟨_,hmem,rfl,rfl⟩)
     have hcc:c'=c:=by have:=sub hc';rw [hc] at this;exact (Option.some.inj this).symm
     subst hcc
     refine .inr ⟨?_,c',hc',?_⟩
     . have e:(relabel sc X.env).names.lookup x=(sc.names.lookup x).map fun k=>if (k==NameKind.free&&X.env.scope.kind==.function&&X.env.kindOf x==some .cell) then NameKind.cell else k:=z3a
       show (relabel sc X.env).names.lookup x=some .cell\/(relabel sc X.env).names.lookup x=some .free
       rw [e,hfr]
       simp only [Option.map_some]
       split
       . exact .inl rfl
       . exact .inr rfl
     . obtain ⟨o,ho,hd⟩:=z
       exact ⟨o,hk _ o ho,hd⟩
 . obtain ⟨v,o,ho,hd⟩:=I.cell x c (sub h)
   exact ⟨v,o,hk _ o ho,hd⟩
 . show _=(tgs++caps).length
   unfold zif
   rw [List.length_append,List.length_replicate,List.length_map,List.length_append,C.len]
inductive PTs (X:Cx):List Expr->TT->Prop where
 | nil:PTs X [] (fun _ H Q=>Q true H)
 | one {c:Expr} {t:TT} (h:PT X c t):PTs X [c] t
theorem PTs.run {X:Cx} {ifs:List Expr} {t:TT} (h:PTs X ifs t) {pins:List (Addr×Obj)} {s:Shared} {U:St} {H:Hp} {Q:Bool->Hp->Prop} (I:Inv X pins U H s) (q:t U H Q) :
  wpAny (model X.prog X.w) X.A (forIn ifs true fun c r=>if r=true then do let ok <-isTrue c X.env (eval c X.env);pure (ForInStep.yield ok) else pure (ForInStep.yield r)) (TP X pins U Q) X.xe s:=by
 cases h with
 | nil=>exact wpAny_tests_nil ⟨H,I,q⟩
 | one h=>exact wpAny_tests_one (h pins s U H Q I q)
def zq0 (J:It) (D:Addr) (B:V->Hp->(List V->Hp->Prop)->Prop) (cs:St) (tt:TT) (te:TE) (Q:VK) (H1:Hp):Prop:=
 ∃W:Nat->Nat->List V->Hp->Prop,(∃m,W 0 m [] (upd H1 D (.lst [])))/\∀i m ys H,W i m ys H ->
  H D=some (.lst ys)/\((J.stop i H/\Q (.ref D) H)\/(J.go i H/\∀x H',J.yld i H x H'->B x H' fun vals H2=>tt (vals.map some++cs) H2 fun b H3=>
   if b=true then te (vals.map some++cs) H3 fun y H4=>H4 D=some (.lst ys)/\ys.length<sizeLine/\∃m',m'<m/\W (i+1) m' (ys++[y]) (upd H4 D (.lst (ys++[y])))
   else ∃m',m'<m/\W (i+1) m' ys H3))
noncomputable def zis (wi:TI) (B:V->Hp->(List V->Hp->Prop)->Prop) (ix:List Nat) (tt:TT) (te:TE):TE:=fun U H Q=>wi U H fun J H1=>∀D,H1 D=none->zq0 J D B (zif ix U) tt te Q H1
variable {elt tg iter:Expr} {ifs:List Expr} {pos:Pos} {g:TG} {B:V->Hp->(List V->Hp->Prop)->Prop} {tt:TT} {te:TE}
theorem ze1 (C:CompOk X sc caps ix) (hg:∀fp s H,PG (z1x X sc (tgs++caps) fp s H) tg g)
  (hB:∀(x:V) (σt cs:St) (H:Hp) (Q:St->Hp->Prop),σt.length=tgs.length->B x H (fun vals H2=>Q (vals.map some++cs) H2)->g x (σt++cs) H fun σ2 H2=>(∃vals:List V,vals.length=tgs.length/\σ2=vals.map some++cs)/\Q σ2 H2)
  (ht:∀fp s H,PTs (z1x X sc (tgs++caps) fp s H) ifs tt) (he:∀fp s H,PE (z1x X sc (tgs++caps) fp s H) elt te)
  {J:It} {it:Addr} {tn:Nat->Heap->Prop} {Q:VK} {E:Value->Shared->Prop} (I2:Inv X pins U H s) (T:Turn X.prog X.w X.K tg J fp it tn) (st:tn 0 s.heap) (hf:∀b∈fp,z9p X pins H b)
  (hw:∀D,H D=none->zq0 J D B (zif ix U) tt te Q H) {RR:Value->Addr->Result->Shared->Prop}
  (hRR:∀D Cc H' s' m,s'.heap.Ns Cc m->Inv X pins U H' s'->z9p X pins H' Cc->Q (.ref D) H'->RR (.ref D) Cc (.ok .next) s') :
  wpAny (model X.prog X.w) X.A (newList []) (fun acc s₃=>wpAny (model X.prog X.w) X.A (newFunctionEnv sc X.env.globals (z1f X.env.cells sc.names []) [] X.env.qual none .none (some X.env)) (fun cenv s₄=>
   codeAny (model X.prog X.w) X.A (.compStart (.ListComp elt [⟨tg,iter,ifs,0⟩] sc pos) 0 (.ref it) acc { cenv with scope:=relabel sc X.env }) (RR acc cenv.locals) s₄) E s₃) E s:=by
 refine wpAny_newObj_type (wpAny_newFunctionEnv C.ncell (by intro y hy;simp at hy) (fun h₁ hns₁ hsb₁=>?_) C.kind)
 have I3:Inv X pins U (upd H s.heap.objs.size (.lst [])) { s with heap:=s.heap.push { cls:=.type "list",dict:=none,data:=.seq ([]:List Value).toArray } }:=I2.lnew (t':=s.toks) (its:=[]) .nil (Nat.zero_le _)
 have hD0:H s.heap.objs.size=none:=I2.fresh
 have lt0:∀b∈fp,b<s.heap.objs.size:=fun b hb=>by
  obtain ⟨o,e,_⟩:=T.obj _ _ st b hb
  exact Heap.lt_size e
 have hfD:∀b∈fp,b≠s.heap.objs.size:=fun b hb=>Nat.ne_of_lt (lt0 b hb)
 have hf3:∀b∈fp,z9p X pins (upd H s.heap.objs.size (.lst [])) b:=fun b hb=>⟨by rw [z0d (hfD b hb)];exact (hf b hb).1,(hf b hb).2⟩
 generalize hs3:({ s with heap:=s.heap.push { cls:=.type "list",dict:=none,data:=.seq ([]:List Value).toArray } }:Shared)=s₃ at I3 hns₁ hsb₁ ⊢
 have hs3h:s₃.heap=s.heap.push { cls:=.type "list",dict:=none,data:=.seq ([]:List Value).toArray }:=by rw [<-hs3]
 have st3:tn 0 s₃.heap:=T.keep _ _ _ st fun b _ o e=>by rw [hs3h];exact Heap.get?_push_of_some _ e
 have hl3:∀b∈fp,b<s₃.heap.objs.size:=fun b hb=>by rw [hs3h,Heap.size_push];exact Nat.lt_succ_of_lt (lt0 b hb)
 generalize hDD:s.heap.objs.size=D at *
 have hk1:∀b o,s₃.heap.get? b=some o->h₁.get? b=some o:=fun b o e=>hsb₁.extBut b o (Nat.ne_of_lt (Heap.lt_size e)) (Heap.get?_push_of_some _ e)
 have I4:=ze0 (tgs:=tgs) (t':=s₃.toks+([]:List (Str×Value)).length) C I3 hf3 hl3 hns₁ hk1
 have st4:tn 0 h₁:=T.keep _ _ _ st3 fun b _ o e=>hk1 b o e
 have fr4:∀b∈fp,(upd H D (.lst [])) b=none:=fun b hb=>(hf3 b hb).1
 generalize hXc:z1x X sc (tgs++caps) fp s₃ (upd H D (.lst []))=Xc at I4
 have hprog:Xc.prog=X.prog:=by rw [<-hXc];rfl
 have hww:Xc.w=X.w:=by rw [<-hXc];rfl
 have hKK:Xc.K=X.K:=by rw [<-hXc];rfl
 have hcalm:Xc.calm=true:=by rw [<-hXc];exact C.calm
 have hA:Xc.A=X.A:=by rw [<-hXc];rfl
 have henv:Xc.env=compEnvC sc (z1f X.env.cells sc.names []) s₃.heap.objs.size X.env:=by rw [<-hXc];rfl
 have hxe:Xc.xe=fun _ _=>False:=by rw [<-hXc];rfl
 have hg':=hg fp s₃ (upd H D (.lst []))
 have ht':=ht fp s₃ (upd H D (.lst []))
 have he':=he fp s₃ (upd H D (.lst []))
 rw [hXc] at hg' ht' he'
 obtain ⟨W,⟨m0,w0⟩,turn⟩:=hw D hD0
 have stat:∀{H':Hp},(∀b∈fp,H' b=none)->∀b∈fp,z9p Xc [] H' b:=fun {H'} hn b hb=>by
  refine ⟨hn b hb,?_,?_,.inl ?_,fun x c e z=>?_,fun p hp=>?_⟩
  . rw [henv];exact Nat.ne_of_lt (hl3 b hb)
  . rw [<-hXc]
    intro z
    obtain ⟨_,h1,h2,_⟩:=hf b hb
    rcases List.mem_cons.mp (I3.stkSub b z) with q | q
    . exact h1 q
    . exact h2 q
  . rw [<-hXc];exact hb
  . rw [henv] at e
    exact (hf b hb).2.2.2.2.1 x c (C.sub I2 e) z
  . rw [<-hXc] at hp
    exact absurd (show p∈([]:List (Addr×Obj)) from hp) (by simp)
 have loop:∀s₄:Shared,s₄={ s₃ with heap:=h₁,toks:=s₃.toks+([]:List (Str×Value)).length } ->
   codeAny (model X.prog X.w) X.A (.compLoop (.ListComp elt [⟨tg,iter,ifs,0⟩] sc pos) 0 (.ref it) (.ref D) (compEnvC sc (z1f X.env.cells sc.names []) s₃.heap.objs.size X.env)) (RR (.ref D) s₃.heap.objs.size) s₄:=by
  intro s₄ hs4
  rw [<-hprog,<-hww,<-hA,<-henv]
  refine za1 (fun n s'=>∃(i:Nat) (ys:List V) (σt:St) (H':Hp),σt.length=tgs.length/\Inv Xc [] (σt++zif ix U) H' s'/\tn i s'.heap/\(∀b∈fp,H' b=none)/\W i n ys H') ?_ m0
   ⟨0,[],List.replicate tgs.length none,upd H D (.lst []),by simp,by rw [hs4];exact I4,by rw [hs4];exact st4,fr4,w0⟩
  rintro n s5 ⟨i,ys,σt,H5,hσ,I5,st5,fr5,w5⟩
  obtain ⟨hD5,hturn⟩:=turn i n ys H5 w5
  rcases hturn with ⟨stop,q⟩ | ⟨go,step⟩
  . rw [hprog,hww]
    refine thn (T.done Xc hprog hww hKK hcalm i [] s5 _ H5 _ I5 (stat fr5) st5 stop) fun r s6 ⟨hr,I6⟩=>?_
    subst hr
    obtain ⟨m6,hn6,_⟩:=I6.loc
    rw [henv] at hn6
    have hcb:∀b∈fp,(b∈X.ex\/X.s₀.heap.objs.size<=b)/\b≠X.env.locals/\(∀x c,X.env.cells.lookup x=some c->c≠b)/\∀p∈X.pn++pins,p.1≠b:=fun b hb=>⟨(hf b hb).2.2.2.1,(hf b hb).2.1,(hf b hb).2.2.2.2.1,(hf b hb).2.2.2.2.2⟩
    have hos:s6.os=s₃.os:=by have:=I6.os;rw [<-hXc] at this;exact this
    have un6:Un (frs X.stack) fp (upd H D (.lst [])) H5 s₃.heap s6.heap:=by have:=I6.base;rw [<-hXc] at this;exact this
    have hok6:HOk X.prog X.w H5 s6.heap:=by have:=I6.hok;rw [hprog,hww] at this;exact this
    have I7:Inv X pins U H5 s6:=I3.call' hos un6 hok6 I6.bare hcb
    refine hRR D _ H5 s6 m6 hn6 I7 ?_ q
    have hCn:H5 s₃.heap.objs.size=none:=by have:=I6.free;rw [henv] at this;exact this
    exact I3.fpOk (Nat.le_refl _) hCn
  . rw [hprog,hww]
    refine thn (T.item Xc hprog hww hKK hcalm i [] s5 _ H5 _ I5 (stat fr5) st5 go) fun r s6 ⟨u,hr,h6⟩=>?_
    subst hr
    refine thn h6 fun _ s7 ⟨x,H7,I7,r7,y7,st7,fr7⟩=>?_
    have I7':=I7.pinned (stat fr7) (T.obj _ _ st7)
    have hst:=hg' _ s7 _ H7 x u _ I7' r7 (hB x σt (zif ix U) H7 (fun σ2 H2=>tt σ2 H2 fun b H3=>if b=true then te σ2 H3 fun y H4=>H4 D=some (.lst ys)/\ys.length<sizeLine/\∃m',m'<n/\W (i+1) m' (ys++[y]) (upd H4 D (.lst (ys++[y]))) else ∃m',m'<n/\W (i+1) m' ys H3) hσ (step x H7 y7))
    rw [hprog,hww,hxe] at hst
    refine thn hst fun _ s8 ⟨σ8,H8,I8,⟨vals,hvl,hσ8⟩,q8⟩=>?_
    have again:∀{H9:Hp} {s9:Shared},Inv Xc ([]++z9q fp s7.heap) σ8 H9 s9->tn (i+1) s9.heap/\∀b∈fp,H9 b=none:=fun {H9 s9} I9=>
     ⟨T.keep _ _ _ st7 fun b hb o e=>(I9.pin (b,o) (List.mem_append_right _ (List.mem_append_right _ (z4c hb e)))).1,fun b hb=>by
      obtain ⟨o,e,d⟩:=T.obj _ _ st7 b hb
      exact (I9.pin (b,o) (List.mem_append_right _ (List.mem_append_right _ (z4c hb e)))).2.1⟩
    subst hσ8
    have hts:=ht'.run I8 q8
    rw [hprog,hww,hxe] at hts
    refine thn hts fun ok s9 ⟨H9,I9,q9⟩=>?_
    cases ok with
    | false=>
     rw [if_neg Bool.false_ne_true] at q9 ⊢
     obtain ⟨m',hm,w9⟩:=q9
     obtain ⟨a1,a2⟩:=again I9
     exact ⟨m',hm,i+1,ys,vals.map some,H9,by simpa using hvl,I9.unpinned,a1,a2,w9⟩
    | true=>
     rw [if_pos rfl] at q9 ⊢
     have hev:=he' _ s9 _ H9 _ I9 q9
     rw [hprog,hww,hxe] at hev
     refine thn hev fun uy s10 ⟨y,H10,I10,r10,hD10,hz10,m',hm,w10⟩=>?_
     have hap:=z4z (X:=Xc) _ s10 _ H10 (.ref D) [y] (.ref D) [uy] (fun v H11=>v=.non/\H11=upd H10 D (.lst (ys++[y]))) I10 rfl (.cons r10 .nil) ⟨D,ys,y,rfl,rfl,hD10,hz10,rfl,rfl⟩
     rw [hprog,hww,hxe] at hap
     refine thn hap fun _ s11 ⟨v,H11,I11,_,_,e11⟩=>?_
     subst e11
     obtain ⟨a1,a2⟩:=again I11
     exact ⟨m',hm,i+1,ys++[y],vals.map some,_,by simpa using hvl,I11.unpinned,a1,a2,w10⟩
 refine codeAny_compStart_list (loop _ rfl) (T.self X.A 0 _ _ _ st4 (loop _ rfl))
theorem zfi {wi:TI} (C:CompOk X sc caps ix) (hi:PI X tg iter wi) (hg:∀fp s H,PG (z1x X sc (tgs++caps) fp s H) tg g)
  (hB:∀(x:V) (σt cs:St) (H:Hp) (Q:St->Hp->Prop),σt.length=tgs.length->B x H (fun vals H2=>Q (vals.map some++cs) H2)->g x (σt++cs) H fun σ2 H2=>(∃vals:List V,vals.length=tgs.length/\σ2=vals.map some++cs)/\Q σ2 H2)
  (ht:∀fp s H,PTs (z1x X sc (tgs++caps) fp s H) ifs tt) (he:∀fp s H,PE (z1x X sc (tgs++caps) fp s H) elt te)
  (hs:∀x,foldedSetIterable iter X.env x=pure x:=by intro _;rfl):PE X (.ListComp elt [⟨tg,iter,ifs,0⟩] sc pos) (zis wi B ix tt te):=by
 intro pins s U H Q I h
 rw [eval_ListComp]
 refine wpAny_comprehension_free (use:=none) rfl hs (z8r (C.free_cell I)) C.kind C.names (thn (hi pins s U H _ I h) fun v s1 h1=>thn h1 fun itv s2 h2=>?_)
 obtain ⟨it,fp,tn,J,H2,e,I2,T,st2,f2,hw⟩:=h2
 subst e
 refine ze1 (RR:=fun acc Cc=>compPost (model X.prog X.w) X.A X.xe none (EP X pins U Q) acc Cc) C hg hB ht he I2 T st2 f2 hw ?_
 intro D Cc H' s' m hn I' hfp q
 refine ⟨m,hn,fun h' sb=>⟨.ref D,H',?_,rfl,q⟩⟩
 exact I'.turned (t':=s'.toks) (fun b o hb e=>sb.extBut b o hb e) hfp.1 hfp.2.1 hfp.2.2.2.1 hfp.2.2.2.2.1 hfp.2.2.2.2.2
end
section
variable {X:Cx}
theorem PE.imp {e:Expr} {t t':TE} (h:PE X e t) (hi:∀U H Q,t' U H Q->t U H Q):PE X e t':=fun pins s U H Q I q=>h pins s U H Q I (hi U H Q q)
theorem PT.imp {e:Expr} {t t':TT} (h:PT X e t) (hi:∀U H Q,t' U H Q->t U H Q):PT X e t':=fun pins s U H Q I q=>h pins s U H Q I (hi U H Q q)
theorem OpR.imp {f:Value->Value->Sem Value} {r r':R2} (h:OpR X f r) (hi:∀x y H Q,r' x y H Q->r x y H Q):OpR X f r':=fun pins s U H x y v u Q I rx ry q=>h pins s U H x y v u Q I rx ry (hi x y H Q q)
theorem UnR.imp {f:Value->Sem Value} {r r':V->Hp->VK->Prop} (h:UnR X f r) (hi:∀x H Q,r' x H Q->r x H Q):UnR X f r':=fun pins s U H x v Q I rx q=>h pins s U H x v Q I rx (hi x H Q q)
end
noncomputable def zew (i:Nat):TE:=fun U H Q=>match U[i]? with | some (some v)=>Q v H | _=>False
theorem pw {X:Cx} (i:Nat) {x:Str} {pos:Pos} (hN:X.N[i]?=some x:=by rfl) (hv:Vis X.env.scope x:=by first | exact Or.inl rfl | exact Or.inr (Or.inl rfl) | exact Or.inr (Or.inr rfl)) (hd:(x==("__debug__":Str))=false:=by decide)
  (hcd:(x==("__classdict__":Str))=false:=by decide):PE X (.Name x pos) (zew i):=
 (zkd hN hv hd hcd).imp fun U H Q q=>by
  unfold zew at q
  unfold zxi
  split at q
  . rename_i v e;exact ⟨v,e,q⟩
  . exact q.elim
noncomputable def cI (g:Int->Int->V):R2:=fun x y H Q=>match x,y with | .int i,.int j=>Q (g i j) H | _,_=>False
noncomputable def cIC (C:Int->Int->Prop) (g:Int->Int->V):R2:=fun x y H Q=>match x,y with | .int i,.int j=>C i j/\Q (g i j) H | _,_=>False
theorem OpR.cI {X:Cx} {f:Value->Value->Sem Value} {g:Int->Int->V} (h:OpR X f (rI0 g)):OpR X f (cI g):=h.imp fun x y H Q q=>by
 cases x<;>cases y<;>first | exact ⟨_,_,rfl,rfl,q⟩ | exact q.elim
theorem OpR.cIC {X:Cx} {f:Value->Value->Sem Value} {C:Int->Int->Prop} {g:Int->Int->V} (h:OpR X f (rI C g)):OpR X f (cIC C g):=h.imp fun x y H Q q=>by
 cases x<;>cases y<;>first | exact ⟨_,_,rfl,rfl,q.1,q.2⟩ | exact q.elim
section
variable {X:Cx}
theorem z3r:OpR X (binaryOp .Add) (cI fun i j=>.int (i+j)):=op_add.cI
theorem z7l:OpR X (binaryOp .Sub) (cI fun i j=>.int (i - j)):=op_sub.cI
theorem zfj:OpR X (binaryOp .Mult) (cIC CMul fun i j=>.int (i * j)):=op_mul.cIC
theorem z4p:OpR X (binaryOp .FloorDiv) (cIC zm9 fun i j=>.int (i / j)):=op_fdiv.cIC
theorem z4l:OpR X (binaryOp .Mod) (cIC (fun _ j=>0<j) fun i j=>.int (i % j)):=op_mod.cIC
theorem zq1:OpR X (binaryOp .Pow) (cIC zma fun i j=>.int (i ^ j.toNat)):=op_pow.cIC
theorem zxx:OpR X (compareOp .Lt) (cI fun i j=>.bl (decide (i<j))):=op_lt.cI
theorem zxy:OpR X (compareOp .Gt) (cI fun i j=>.bl (decide (j<i))):=op_gt.cI
def cU (g:Int->V):V->Hp->VK->Prop:=fun x H Q=>match x with | .int i=>Q (g i) H | _=>False
theorem zfk:UnR X (unaryOp .USub) (cU fun i=>.int (-i)):=un_neg.imp fun x H Q q=>by
 cases x<;>first | exact ⟨_,rfl,q⟩ | exact q.elim
end
noncomputable def z5l (H:Hp) (p:Addr):Option (List V):=match H p with
 | some (.lst xs)=>some xs
 | some (.tup xs)=>some xs
 | some (.frz _ (.lst xs))=>some xs
 | some (.frz _ (.tup xs))=>some xs
 | _=>none
theorem zcm {K:Frag} {H:Hp} {p:Addr} {xs:List V} (h:z5l H p=some xs):SqL K H p xs\/SqT K H p xs:=by
 unfold z5l at h
 split at h
 all_goals first | (cases h;done) | skip
 . rename_i ys e;cases h;exact .inl (.inl (.inl e))
 . rename_i ys e;cases h;exact .inr (.inl (.inl e))
 . rename_i o ys e;cases h;exact .inl (.inl (.inr ⟨_,e⟩))
 . rename_i o ys e;cases h;exact .inr (.inl (.inr ⟨_,e⟩))
theorem za3 {H:Hp} {p:Addr} {xs:List V} (h:H p=some (.lst xs)):z5l H p=some xs:=by unfold z5l;rw [h]
theorem za4 {H:Hp} {p:Addr} {xs:List V} (h:H p=some (.tup xs)):z5l H p=some xs:=by unfold z5l;rw [h]
noncomputable def cIx:R2:=fun x y H Q=>match x,y with
 | .ref p,.int i=>(match z5l H p with
  | some xs=>(match atI xs i with | some v=>Q v H | none=>False)
  | none=>False)
 | .str z,.int i=>z.length<=sizeLine/\(match atI z.cps.toList i with | some c=>Q (.str ⟨#[c]⟩) H | none=>False)
 | _,_=>False
def za5 (x:V) (H:Hp) (Q:Bool->Hp->Prop):Prop:=match x with
 | .bl b=>Q b H
 | .int i=>Q (i != 0) H
 | .non=>Q false H
 | .str y=>y.length<=sizeLine/\Q ((y.length:Int) != 0) H
 | .ref p=>(match z5l H p with
  | some xs=>Q (!xs.isEmpty) H
  | none=>(match H p with | some (.dK kvs)=>Q (!kvs.isEmpty) H | _=>False))
 | _=>False
theorem zcn {K:Frag} {x:V} {H:Hp} {Q:Bool->Hp->Prop} (h:za5 x H Q):∃k,zxq K x H k/\Q k H:=by
 cases x with
 | bl b=>exact ⟨b,rfl,h⟩
 | int i=>exact ⟨_,rfl,h⟩
 | non=>exact ⟨_,rfl,h⟩
 | str y=>exact ⟨_,⟨h.1,rfl⟩,h.2⟩
 | ref p=>
  unfold za5 at h
  dsimp only at h
  split at h
  . rename_i xs e
    rcases zcm (K:=K) e with z | z
    . exact ⟨_,.inl ⟨xs,z,rfl⟩,h⟩
    . exact ⟨_,.inr (.inl ⟨xs,z,rfl⟩),h⟩
  . split at h
    . rename_i kvs e;exact ⟨_,.inr (.inr ⟨kvs,e,rfl⟩),h⟩
    . exact h.elim
 | _=>exact h.elim
noncomputable def zyl (t:TE):TT:=fun U H Q=>t U H fun x H'=>za5 x H' Q
section
variable {X:Cx} {a b c:Expr} {ta tb tc:TE} {pos:Pos}
theorem zq2 (ha:PE X a ta) (he:∀whole,isTrue a X.env whole=(do let v <-whole;standAt a.pos;holding [v] (truthy v)):=by intro _;rfl):PT X a (zyl ta):=by
 intro pins s U H Q I h
 exact isTrue_plain (thn (ha pins s U H _ I h) fun v s1 ⟨x,H1,I1,r1,q1⟩=>zkj pins s1 U H1 x v Q I1 r1 (zcn q1)) (he _)
noncomputable def zmk (t:TE):TT:=fun U H Q=>t U H fun x H'=>match x with | .bl k=>Q k H' | _=>False
theorem zml {op:CmpOp} {r:R2} (ho:OpR X (compareOp op) r) (ha:PE X a ta) (hb:PE X b tb) (hm:behindInMarks op b=false):PT X (.Compare a [op] [b] pos) (zmk (tOp r ta tb)):=by
 intro pins s U H Q I h
 refine wpAny_isTrue_Compare1 (thn (ha pins s U H _ I h) fun v s1 ⟨x,H1,I1,r1,q1⟩=>thn (hb pins s1 U H1 _ I1 q1) fun u s2 ⟨y,H2,I2,r2,q2⟩=>
  thn (ho pins s2 U H2 x y v u _ I2 r1 r2 q2) fun c s3 ⟨z,H3,I3,r3,q3⟩=>?_) hm
 cases z<;>first | exact q3.elim | skip
 cases r3
 exact wpAny_truthy_bool ⟨H3,I3,q3⟩
end
section
variable {X:Cx} {a b c:Expr} {ta tb tc:TE} {pos:Pos}
noncomputable def zym (r:R2) (tb:TE) (t:V->TE):V->TE:=fun x U H Q=>tb U H fun y H2=>r x y H2 fun z H3=>match z with | .bl k=>(if k=true then t y U H3 Q else Q (.bl false) H3) | _=>False
noncomputable def zq3 (ta tb:TE):TE:=fun U H Q=>ta U H fun x H1=>match x with | .bl c=>(if c=true then tb U H1 Q else Q (.bl false) H1) | _=>False
end
section
variable {X:Cx} {a b c:Expr} {ta tb tc:TE} {pos:Pos} {rest:List Expr}
theorem zmm (ha:PE X a ta) (hb:PE X (.BoolOp .And (b::rest) pos) tb):PE X (.BoolOp .And (a::b::rest) pos) (zq3 ta tb):=by
 intro pins s U H Q I h
 refine BoolOp_and (thn (ha pins s U H _ I h) fun v s1 ⟨x,H1,I1,r1,q1⟩=>?_)
 cases x<;>first | exact q1.elim | skip
 rename_i k
 cases r1
 refine wpAny_truthy_bool ?_
 cases k with
 | true=>exact ite_tt (hb pins s1 U H1 Q I1 (by simpa using q1))
 | false=>exact ite_ff ⟨.bl false,H1,I1,rfl,by simpa using q1⟩
noncomputable def zuw (ta:TE):TE:=fun U H Q=>ta U H fun x H1=>za5 x H1 fun k H2=>Q (.bl (!k)) H2
theorem zmn (ha:PE X a ta):PE X (.UnaryOp .Not a pos) (zuw ta):=by
 intro pins s U H Q I h
 refine UnaryOp_ (thn (ha pins s U H _ I h) fun v s1 ⟨x,H1,I1,r1,q1⟩=>not_of ?_)
 exact thn (zkj pins s1 U H1 x v _ I1 r1 (zcn q1)) fun k s2 ⟨H2,I2,q2⟩=>⟨.bl (!k),H2,I2,rfl,q2⟩
noncomputable def z8s (H:Hp):V->Option String
 | .non=>some "NoneType"
 | .bl _=>some "bool"
 | .int _=>some "int"
 | .str _=>some "str"
 | .ref a=>(match H a with
  | some (.lst _)=>some "list"
  | some (.frz _ (.lst _))=>some "list"
  | some (.tup _)=>some "tuple"
  | some (.dK _)=>some "dict"
  | some (.dT _)=>some "dict"
  | _=>none)
 | _=>none
noncomputable def zfl (t c:String):Bool:=t==c||(t=="bool"&&c=="int")
noncomputable def z6o (c:String):Bool:=["int","bool","str","list","tuple","dict"].contains c
theorem z25 {K:Frag} {t c:String} (ht:["NoneType","bool","int","str","list","tuple","dict"].contains t=true) (hc:z6o c=true):kitOne K (.type t) (.type c)=some (zfl t c):=by
 have h1:t="NoneType"\/t="bool"\/t="int"\/t="str"\/t="list"\/t="tuple"\/t="dict":=by simpa using ht
 have h2:c="int"\/c="bool"\/c="str"\/c="list"\/c="tuple"\/c="dict":=by simpa [z6o] using hc
 rcases h1 with rfl | rfl | rfl | rfl | rfl | rfl | rfl<;>rcases h2 with rfl | rfl | rfl | rfl | rfl | rfl<;>first | rfl | (with_unfolding_all rfl)
theorem zit:CallR X (.builtin "isinstance") (fun xs H Q=>match xs with
  | [x,.ty c]=>z6o c=true/\(match z8s H x with | some t=>Q (.bl (zfl t c)) H | none=>False)
  | _=>False):=by
 intro pins s U H xs us Q I r h
 split at h
 . rename_i x c
   obtain ⟨hc,h⟩:=h
   obtain ⟨u,w',rfl,ru,rw'⟩:=zmc r
   cases rw'
   split at h
   . rename_i t et
     have fin:∀(tk:Nat),EP X pins U Q (.bool (zfl t c)) { s with toks:=tk }:=fun tk=>⟨.bl _,H,I.tok _,rfl,h⟩
     cases x<;>simp only [z8s] at et
     case non=>cases et;exact z23 I ru .non (z25 (by decide) hc) fin
     case bl b=>cases et;exact z23 I ru (.bl b) (z25 (by decide) hc) fin
     case int b=>cases et;exact z23 I ru (.int b) (z25 (by decide) hc) fin
     case str b=>cases et;exact z23 I ru (.str b) (z25 (by decide) hc) fin
     case ref a=>
      split at et<;>first | (cases et;done) | skip
      . rename_i ys e;cases et;exact z23 I ru (.lst e) (z25 (by decide) hc) fin
      . rename_i o ys e;cases et;exact z23 I ru (.frz e) (z25 (by decide) hc) fin
      . rename_i ys e;cases et;exact z23 I ru (.tup e) (z25 (by decide) hc) fin
      . rename_i ys e;cases et;exact z23 I ru (.dK e) (z25 (by decide) hc) fin
      . rename_i ys e;cases et;exact z23 I ru (.dT e) (z25 (by decide) hc) fin
     all_goals cases et
   . exact h.elim
 . exact h.elim
theorem zfm (hc:X.calm=true):CallR X (.builtin "sum") (fun xs H Q=>match xs with
  | [.ref p]=>∃ns:List Int,z5l H p=some (ns.map V.int)/\Q (.int ns.sum) H
  | _=>False):=by
 intro pins s U H xs us Q I r h
 split at h
 . rename_i p
   obtain ⟨ns,e,q⟩:=h
   obtain ⟨u,rfl,ru⟩:=z6m r
   cases ru
   have key:∀{its:List Value},Vals (ns.map V.int) its->∃ys:Array (Int×Tok),its.toArray=intItems ys/\preSum (numAt ys) ys.size=ns.sum:=fun {its} rv=>by
    have hi:=zdz rv
    obtain ⟨ys,hx⟩:=hi.allInts.items
    refine ⟨ys,hx,?_⟩
    have e1:ns=ys.toList.map (·.1):=by
     rw [<-nums_intItems,<-hx]
     exact (show numsOf its.toArray.toList=ns from hi.numsOf).symm
    rw [preSum_eq,List.take_of_length_le (by simp),e1]
   rcases zcm (K:=X.K) e with hq | hq
   . obtain ⟨its,rv,pl,_⟩:=I.list hq
     obtain ⟨ys,hx,es⟩:=key rv
     refine sum_intListG (I.ok.hd hc) (hx ▸ pl.isList) fun h' tk t' hk=>?_
     rw [es]
     exact ⟨.int ns.sum,H,I.kept hk,⟨_,rfl⟩,q⟩
   . obtain ⟨its,rv,pl,_⟩:=I.tuple hq
     obtain ⟨ys,hx,es⟩:=key rv
     refine PySem.W.ktm_sumG (I.ok.hd hc) (hx ▸ pl) fun h' tk t' hk=>?_
     rw [es]
     exact ⟨.int ns.sum,H,I.kept hk,⟨_,rfl⟩,q⟩
 . exact h.elim
abbrev zmo (s:Shared) (L:Addr):List (Addr×Obj):=z6j (Att.noObjs s.heap) s.heap L
section
variable {pins:List (Addr×Obj)} {U:St} {H:Hp} {s:Shared} {h':Heap} {m:Str->Option Value}
theorem z81 {L:Addr} (N:News (Att.noObjs s.heap) L h' (zmo s L)):∀b o,b≠L->s.heap.get? b=some o->h'.get? b=some o:=fun b o hb e=>(N (b,o) (zb0 hb (Att.noObjs_get _ _) e)).1
theorem Inv.frn {tk:Nat} (I:Inv X pins U H s) (hn:s.heap.Ns X.env.locals m) (F:Fr (Att.noObjs s.heap) X.env.locals h' m) (N:News (Att.noObjs s.heap) X.env.locals h' (zmo s X.env.locals)):Inv X pins U H { s with heap:=h',toks:=tk }:=by
 have kept:=z81 N
 refine I.step (g':=s.gens) (d':=s.drawn) (ch:=[]) (fun _ z=>nomatch z) (fun b o hL _ _ e _=>kept b o hL e) (fun b o hL _ _ e _=>⟨o.slots,kept b o hL e⟩) (fun _ _ _ _ n=>n) (fun b o _ e=>?_) (fun _ _ e=>e) (fun _ _ _ e=>e) (fun b ps e=>⟨#[],by rw [e];simp⟩) (fun m' hm=>?_) (fun b u e=>?_) I.bare
 . by_cases hb:b=X.env.locals
   . subst hb
     obtain ⟨o',_,_,ho',_⟩:=F.ns
     exact ⟨o',ho'⟩
   . exact ⟨o,kept b o hb e⟩
 . rw [hm.eq_nsMap,<-hn.eq_nsMap];exact F.ns
 . refine (I.hok b u e).stay (fun c v hc q=>kept c v ?_ q) (fun _ q=>q) fun _ _ q=>q
   intro z
   rcases hc with hc | hc
   . rw [<-hc,z,I.free] at e;cases e
   . rw [z,I.free] at hc;cases hc
theorem Inv.frnew {tk:Nat} {D:Addr} {ob:Obj} {o:HO} (I:Inv X pins U H s) (hn:s.heap.Ns X.env.locals m) (F:Fr (Att.noObjs s.heap) X.env.locals h' m) (N:News (Att.noObjs s.heap) X.env.locals h' ((D,ob)::zmo s X.env.locals))
  (hD:s.heap.get? D=none) (new:ObjOk X.prog X.w (upd H D o) h' D o):H D=none/\Inv X pins U (upd H D o) { s with heap:=h',toks:=tk }:=by
 have kept:=z81 (fun p hp=>N p (.tail _ hp))
 have hDL:D≠X.env.locals:=(N (D,ob) (.head _)).2.1
 have neD:∀b o,s.heap.get? b=some o->b≠D:=fun b o e z=>by rw [z,hD] at e;cases e
 have HD:H D=none:=by
  cases q:H D with
  | none=>rfl
  | some u=>
   have:=(I.hok D u q).lt
   obtain ⟨v,hv⟩:∃v,s.heap.get? D=some v:=by
    have z:=I.hok D u q
    cases u with
    | lst xs=>obtain ⟨_,_,_,_,e⟩:=z;exact ⟨_,e⟩
    | tup xs=>obtain ⟨_,_,_,o,e,_⟩:=z;exact ⟨_,e⟩
    | dK kvs=>obtain ⟨_,_,_,_,o,_,_,e,_⟩:=z;exact ⟨_,e⟩
    | dT kvs=>obtain ⟨_,_,_,_,o,_,_,e,_⟩:=z;exact ⟨_,e⟩
    | set S n=>obtain ⟨_,_,_,_,e,_⟩:=z;exact ⟨_,e⟩
    | ins C dx fs=>obtain ⟨_,_,_,e,_⟩:=z;exact ⟨_,e⟩
    | own x=>exact z
    | xd fs=>obtain ⟨mA,n1,_⟩:=z;obtain ⟨o,_,_,e,_⟩:=n1;exact ⟨o,e⟩
    | met f x=>exact ⟨_,z⟩
    | rng lo hi=>obtain ⟨_,_,_,e⟩:=z;exact ⟨_,e⟩
    | frz o u=>exact ⟨_,z.1⟩
    | tbl ps=>exact ⟨_,z⟩
    | ext φ=>exact z.2.1
   rw [hD] at hv;cases hv
 refine ⟨HD,I.step (g':=s.gens) (d':=s.drawn) (ch:=[]) (fun _ z=>nomatch z) (fun b o hL _ _ e _=>kept b o hL e) (fun b o hL _ _ e _=>⟨o.slots,kept b o hL e⟩) (fun b ob _ e n=>by rw [z0d (neD b ob e)];exact n) (fun b o _ e=>?_)
  (fun b xs e=>by rw [z0d (z0g e HD)];exact e) (fun b u xs e=>by rw [z0d (z0g e HD)];exact e) (fun b ps e=>⟨#[],by rw [z0d (z0g e HD),e];simp⟩) (fun m' hm=>?_) (fun b u e=>?_) I.bare⟩
 . by_cases hb:b=X.env.locals
   . subst hb
     obtain ⟨o',_,_,ho',_⟩:=F.ns
     exact ⟨o',ho'⟩
   . exact ⟨o,kept b o hb e⟩
 . rw [hm.eq_nsMap,<-hn.eq_nsMap];exact F.ns
 . by_cases hb:b=D
   . subst hb
     rw [z0w] at e
     cases e
     exact new
   . rw [z0d hb] at e
     refine (I.hok b u e).stay (fun c v hc q=>kept c v ?_ q) (fun c q=>?_) fun c xs q=>?_
     . intro z
       rcases hc with hc | hc
       . rw [<-hc,z,I.free] at e;cases e
       . rw [z,I.free] at hc;cases hc
     . rw [z0d (z0g q HD)];exact q
     . rw [z0d (z0g q HD)];exact q
end
theorem zb8 {bs:List Bool}:∀{us:List Value},Vals (bs.map V.bl) us->LSm.BoolsAre us bs:=by
 induction bs with
 | nil=>intro us r;cases r;exact .nil
 | cons b bs ih=>
  intro us r
  cases r with
  | cons r1 r2=>cases r1;exact .cons b (ih r2)
theorem zfn (hc:X.calm=true):CallR X (.builtin "any") (fun xs H Q=>match xs with
  | [.ref p]=>∃bs:List Bool,Rd H p (.lst (bs.map V.bl))/\Q (.bl (bs.any id)) H
  | _=>False):=by
 intro pins s U H xs us Q I r h
 split at h
 . rename_i p
   obtain ⟨bs,e,q⟩:=h
   obtain ⟨u,rfl,ru⟩:=z6m r
   cases ru
   obtain ⟨its,rv,pl,_⟩:=I.list (.inl e)
   obtain ⟨m,hn,_⟩:=id I.loc
   exact LSm.any_bools (Att.fr_all hn) (zce (g:=Att.noObjs s.heap) (L:=X.env.locals)) (I.ok.hd hc) pl.isList (zb8 rv) fun h' tk F N=>⟨.bl _,H,I.frn hn F N,rfl,q⟩
 . exact h.elim
end
noncomputable def ItS (S:Hp->Prop) (xs:List V):It:=⟨fun i H=>S H/\i<xs.length,fun i H x H'=>H'=H/\xs[i]?=some x,fun i H=>S H/\xs.length<=i⟩
theorem Turn.conv {P:Program} {w:World} {K:Frag} {tg:Expr} {J J':It} {fp:List Addr} {it:Addr} {tn:Nat->Heap->Prop} (T:Turn P w K tg J fp it tn) (h1:∀i H,J'.go i H->J.go i H) (h2:∀i H x H',J'.go i H->J.yld i H x H'->J'.yld i H x H')
  (h3:∀i H,J'.stop i H->J.stop i H):Turn P w K tg J' fp it tn where
 mem:=T.mem
 obj:=T.obj
 keep:=T.keep
 item:=fun X a b c d i pins s U H E I hf st hg=>thn (T.item X a b c d i pins s U H E I hf st (h1 i H hg)) fun r s1 ⟨u,e,h⟩=>⟨u,e,thn h fun _ s2 ⟨x,H',I',r',y',st',fr'⟩=>⟨x,H',I',r',h2 i H x H' hg y',st',fr'⟩⟩
 done:=fun X a b c d i pins s U H E I hf st hg=>T.done X a b c d i pins s U H E I hf st (h3 i H hg)
 self:=T.self
section
variable {X:Cx} {tg:Expr}
def zpa (x:V) (H1:Hp) (R:It->Hp->Prop):Prop:=match x with
 | .ref a=>(match H1 a with
  | some (.lst xs)=>R (ItS (fun H'=>Rd H' a (.lst xs)) xs) H1
  | some (.frz _ (.lst xs))=>R (ItS (fun H'=>Rd H' a (.lst xs)) xs) H1
  | some (.tup xs)=>R (ItS (fun H'=>H' a=some (.tup xs)) xs) H1
  | _=>False)
 | _=>False
theorem ziu {a:Addr} {H:Hp} {R:It->Hp->Prop} {xs:List V} (h:Rd H a (.lst xs)) (r:R (ItS (fun H'=>Rd H' a (.lst xs)) xs) H):zpa (.ref a) H R:=by
 unfold zpa
 rcases h with h | ⟨o,h⟩
 . dsimp only;rw [h];exact r
 . dsimp only;rw [h];exact r
theorem ziv {a:Addr} {H:Hp} {R:It->Hp->Prop} {xs:List V} (h:H a=some (.tup xs)) (r:R (ItS (fun H'=>H' a=some (.tup xs)) xs) H):zpa (.ref a) H R:=by
 unfold zpa
 dsimp only;rw [h];exact r
noncomputable def zyn (K:Frag) (tl:TE):TI:=fun U H R=>tl U H fun x H1=>zpa x H1 R
theorem zq4 {l:Expr} {tl:TE} (hl:PE X l tl):PI X tg l (zyn X.K tl):=by
 intro pins s U H R I h
 refine thn (hl pins s U H _ I h) fun v s1 ⟨x,H1,I1,r1,q1⟩=>?_
 cases x<;>first | exact q1.elim | skip
 rename_i a
 cases r1
 unfold zpa at q1
 dsimp only at q1
 have asList:∀xs,Rd H1 a (.lst xs)->R (ItS (fun H'=>Rd H' a (.lst xs)) xs) H1->wpAny (model X.prog X.w) X.A (pyIter (.ref a)) (PIE X pins U tg R) X.xe s1:=fun xs hq q=>by
  obtain ⟨its,rv,p,hz⟩:=I1.list (.inl hq)
  refine wpAny_pyIter_list p.isList ?_
  refine ⟨s1.heap.objs.size,[s1.heap.objs.size],_,_,H1,rfl,I1.kept (t':=s1.toks) fun b o e=>Heap.get?_push_of_some _ e,(zf6 a _).conv ?_ ?_ ?_,⟨_,Heap.get?_push_size _ rfl,rfl,rfl⟩,fun b hb=>?_,q⟩
  . exact fun i H' ⟨h1,h2⟩=>⟨xs,xs[i],.inl h1,by simp [h2]⟩
  . exact fun i H' x H'' ⟨h1,h2⟩ ⟨e,y⟩=>⟨e,y xs (.inl h1)⟩
  . exact fun i H' ⟨h1,h2⟩=>⟨xs,.inl h1,h2⟩
  . have e:b=s1.heap.objs.size:=by simpa using hb
    subst e
    exact I1.fpOk (Nat.le_refl _) (I1.hok.fresh (Nat.le_refl _))
 split at q1
 . rename_i xs e;exact asList xs (.inl e) q1
 . rename_i o xs e;exact asList xs (.inr ⟨o,e⟩) q1
 . rename_i xs e
   obtain ⟨its,rv,p,hz⟩:=I1.tuple (.of e)
   refine wpAny_pyIter_tuple (show s1.heap.IsTuple a its.toArray from p) ?_
   refine ⟨s1.heap.objs.size,[s1.heap.objs.size],_,_,H1,rfl,I1.kept (t':=s1.toks) fun b o e=>Heap.get?_push_of_some _ e,(zdw a _).conv ?_ ?_ ?_,⟨_,Heap.get?_push_size _ rfl,rfl,rfl⟩,fun b hb=>?_,q1⟩
   . exact fun i H' ⟨h1,h2⟩=>⟨xs,xs[i],.of h1,by simp [h2]⟩
   . exact fun i H' x H'' ⟨h1,h2⟩ ⟨e,y⟩=>⟨e,y xs (.of h1)⟩
   . exact fun i H' ⟨h1,h2⟩=>⟨xs,.of h1,h2⟩
   . have e:b=s1.heap.objs.size:=by simpa using hb
     subst e
     exact I1.fpOk (Nat.le_refl _) (I1.hok.fresh (Nat.le_refl _))
 . exact q1.elim
noncomputable def ze2 (lo:Int) (n:Nat):List V:=(List.range n).map fun (i:Nat)=>V.int (lo+i)
theorem z50 (lo:Int) (n:Nat):(ze2 lo n).length=n:=by simp [ze2]
theorem zfo (lo:Int) (n i:Nat) (h:i<n):(ze2 lo n)[i]?=some (.int (lo+i)):=by simp [ze2,h]
noncomputable def iR1 (ta:TA):TI:=fun U H R=>ta U H fun vs H1=>match vs with | [.int j]=>(-(2 ^ 62)<=j/\j<2 ^ 62)/\R (ItS (fun _=>True) (ze2 0 j.toNat)) H1 | _=>False
noncomputable def iR2 (ta:TA):TI:=fun U H R=>ta U H fun vs H1=>match vs with | [.int i,.int j]=>(-(2 ^ 62)<=i/\i<2 ^ 62/\-(2 ^ 62)<=j/\j<2 ^ 62)/\R (ItS (fun _=>True) (ze2 i (j - i).toNat)) H1 | _=>False
theorem z2w (lo:Int) (n:Nat):(∀i (H:Hp),(ItS (fun _=>True) (ze2 lo n)).go i H->(Itr lo n).go i H)/\(∀i H x H',(ItS (fun _=>True) (ze2 lo n)).go i H->(Itr lo n).yld i H x H'->(ItS (fun _=>True) (ze2 lo n)).yld i H x H') /\
  (∀i (H:Hp),(ItS (fun _=>True) (ze2 lo n)).stop i H->(Itr lo n).stop i H):=by
 refine ⟨fun i H ⟨_,h⟩=>?_,fun i H x H' ⟨_,h⟩ ⟨e,y⟩=>⟨e,?_⟩,fun i H ⟨_,h⟩=>?_⟩
 . rw [z50] at h;exact h
 . rw [z50] at h;rw [y];exact zfo lo n i h
 . rw [z50] at h;exact h
end
def zyo (J:It) (g:TG) (tb:TS) (D:Ends) (U:St) (H1:Hp):Prop:=∃W:Nat->Nat->St->Hp->Prop,(∃m,W 0 m U H1)/\∀i m U H,W i m U H ->
 (J.stop i H/\D.nx U H)\/(J.go i H/\∃N:St->Hp->Prop,(∀σ' H',N σ' H'->∃m',m'<m/\W (i+1) m' σ' H')/\∀x H',J.yld i H x H'->g x U H' fun σ2 H2=>tb { D with nx:=N,ct:=N,bk:=D.nx } σ2 H2)
noncomputable def zq5 (wi:TI) (g:TG) (tb:TS):TS:=fun D U H=>wi U H fun J H1=>zyo J g tb D U H1
theorem zfp {X:Cx} {tg iter:Expr} {body:List Stmt} {wi:TI} {g:TG} {tb:TS} {pos:Pos} (hp:PassesOwn (model X.prog X.w) X.A X.env X.xe) (hc:X.calm=true) (hi:PI X tg iter wi) (hg:PG X tg g) (hb:PSs X body tb)
 (hs:∀x,foldedSetIterable iter X.env x=pure x:=by intro _;rfl):PS X (.For tg iter body [] pos) (zq5 wi g tb):=zpr hp hc hi hg hb hs
theorem Same.upd_new {H:Hp} {a:Addr} {o:HO} (h:H a=none):Same H (upd H a o):=fun b u e=>by rw [z0d (z0g e h)];exact e
theorem Same.upd_at {H H1:Hp} {a:Addr} {o:HO} (s:Same H H1) (h:H a=none):Same H (upd H1 a o):=fun b u e=>by rw [z0d (z0g e h)];exact s b u e
section
variable {X:Cx} {pins:List (Addr×Obj)} {U:St} {H:Hp} {s:Shared} {tg:Expr}
theorem Inv.turnedT {wr:List Addr} {h':Heap} {tk:Nat} {T:Addr} {xs:List V} {its:List Value} (I:Inv X pins U H s) (hw:∀b∈wr,z9p X pins H b) (k:∀b o,b∉wr->s.heap.get? b=some o->h'.get? b=some o)
  (hT:s.heap.objs.size<=T) (ht:h'.IsTuple T its.toArray) (rv:Vals xs its) (hz:xs.length<=sizeLine):Inv X pins U (upd H T (.tup xs)) { s with heap:=h',toks:=tk }:=by
 have HT:H T=none:=I.hok.fresh hT
 have nw:∀b u,H b=some u->b∉wr:=fun b u e z=>by rw [(hw b z).1] at e;cases e
 have neT:∀b o,s.heap.get? b=some o->b≠T:=fun b o e=>Nat.ne_of_lt (Nat.lt_of_lt_of_le (Heap.lt_size e) hT)
 refine I.step (g':=s.gens) (d':=s.drawn) (ch:=wr) (fun b hb=>⟨(hw b hb).2.2.2.1,(hw b hb).2.1,(hw b hb).2.2.2.2.1,(hw b hb).2.2.2.2.2⟩) (fun b o _ _ hc e _=>k b o hc e) (fun b o _ _ hc e _=>⟨o.slots,k b o hc e⟩)
  (fun b o _ e n=>by rw [z0d (neT b o e)];exact n) (fun b o hc e=>⟨o,k b o hc e⟩) (fun b ys e=>by rw [z0d (z0g e HT)];exact e) (fun b u ys e=>by rw [z0d (z0g e HT)];exact e)
  (fun b ps e=>⟨#[],by rw [z0d (z0g e HT),e];simp⟩) (fun m hm=>?_) (fun b u e=>?_) I.bare
 . obtain ⟨o,es,ep,ho,r⟩:=hm
   exact ⟨o,es,ep,k _ o (fun z=>(hw _ z).2.1 rfl) ho,r⟩
 . by_cases hb:b=T
   . subst hb
     rw [z0w] at e
     cases e
     exact ⟨hz,its,rv,ht⟩
   . rw [z0d hb] at e
     refine (I.hok b u e).stay (fun c v hc q=>k c v ?_ q) (fun c q=>?_) fun c ys q=>?_
     . rcases hc with z | z
       . rw [z];exact nw b u e
       . exact nw c _ z
     . rw [z0d (z0g q HT)];exact q
     . rw [z0d (z0g q HT)];exact q
end
section
variable {X:Cx} {pins:List (Addr×Obj)} {U:St} {H:Hp} {s:Shared}
theorem Inv.turnedN {wr:List Addr} {h':Heap} {tk:Nat} (I:Inv X pins U H s) (hw:∀b∈wr,z9p X pins H b) (k:∀b o,b∉wr->s.heap.get? b=some o->h'.get? b=some o):Inv X pins U H { s with heap:=h',toks:=tk }:=by
 have nw:∀b u,H b=some u->b∉wr:=fun b u e z=>by rw [(hw b z).1] at e;cases e
 refine I.step (g':=s.gens) (d':=s.drawn) (ch:=wr) (fun b hb=>⟨(hw b hb).2.2.2.1,(hw b hb).2.1,(hw b hb).2.2.2.2.1,(hw b hb).2.2.2.2.2⟩) (fun b o _ _ hc e _=>k b o hc e) (fun b o _ _ hc e _=>⟨o.slots,k b o hc e⟩)
  (fun b o _ e n=>n) (fun b o hc e=>⟨o,k b o hc e⟩) (fun b ys e=>e) (fun b u ys e=>e) (fun b ps e=>⟨#[],by rw [e];simp⟩) (fun m hm=>?_) (fun b u e=>?_) I.bare
 . obtain ⟨o,es,ep,ho,r⟩:=hm
   exact ⟨o,es,ep,k _ o (fun z=>(hw _ z).2.1 rfl) ho,r⟩
 . refine (I.hok b u e).stay (fun c v hc q=>k c v ?_ q) (fun c q=>q) fun c ys q=>q
   rcases hc with z | z
   . rw [z];exact nw b u e
   . exact nw c _ z
end
noncomputable def ItP (S:Hp->Prop) (ps:List (V×V)):It:=⟨fun i H=>S H/\i<ps.length,fun i H x H'=>∃T a b,x=.ref T/\H T=none/\H'=upd H T (.tup [a,b])/\ps[i]?=some (a,b),fun i H=>S H/\i=ps.length⟩
theorem zfq:2<=sizeLine:=by rw [sizeLine_eq];decide
theorem zfr {P:Program} {w:World} {K:Frag} {elts:List Expr} {k:Nat} {pos:Pos} {e it l:Addr} {xs:List V} (hei:e≠it) (hle:l≠e) (hli:l≠it) :
  Turn P w K (.Tuple elts k pos) (ItP (fun H=>Rd H l (.lst xs)) ((ze2 0 xs.length).zip xs)) [e,it] e (fun i h=>(∃old,IsEnum h e it i old)/\h.IsListIter it l i) where
 mem:=by simp
 obj:=fun i h ⟨⟨old,he⟩,⟨o1,h1,_,d1⟩⟩ c hc=>by
  have hc':c=e\/c=it:=by simpa using hc
  rcases hc' with rfl | rfl
  . exact ⟨_,he,fun v z=>by cases z⟩
  . exact ⟨o1,h1,fun v z=>by rw [d1] at z;cases z⟩
 keep:=fun i h h' ⟨⟨old,he⟩,h1⟩ kp=>⟨⟨old,kp e (by simp) _ he⟩,h1.at fun o z=>kp it (by simp) o z⟩
 item:=by
  intro X hP hw hK hc i pins s U H E I hf st hg
  subst hP hw hK
  obtain ⟨hS,hlt⟩:=hg
  obtain ⟨he,h1⟩:=st
  obtain ⟨its,r,p1,z1⟩:=I.list (.inl hS)
  have W:=WalksT.enumerate (prog:=X.prog) (w:=X.w) (A:=X.A) (I.ok.hd hc) e it l hei hle hli its.toArray
  have le1:=r.length
  have hlx:i<xs.length:=by rw [List.length_zip,z50] at hlt;omega
  have hlz:i<its.toArray.size:=by simp only [List.size_toArray];omega
  refine W.item i s _ _ hlz ⟨he,h1,p1.isList⟩ fun T vals h' tk hPt hT ht hM hk=>⟨.ref T,rfl,?_⟩
  refine W.go elts k pos i T _ _ _ hM fun h'' hst'' hk''=>?_
  obtain ⟨t,x,hx,rfl⟩:=hPt
  obtain ⟨a,ea⟩:∃a,xs[i]?=some a:=⟨xs[i],by simp⟩
  obtain ⟨u1,q1,ru1⟩:=r.get ea
  have hx':its[i]?=some x:=by simpa using hx
  rw [q1] at hx';cases hx'
  obtain ⟨oT,hoT,hcT,nT,hdT⟩:=ht
  have ht'':h''.IsTuple T ([.int (i:Nat) t,x]:List Value).toArray:=⟨oT,hk'' T oT (W.apart i T _ hM) hoT,hcT,nT,hdT⟩
  have sub:∀c∈[e,it],z9p X pins H c:=fun c hc'=>hf c hc'
  have I2:=I.turnedT (tk:=tk) (xs:=[.int (i:Nat),a]) (its:=[.int (i:Nat) t,x]) sub (fun c o hcw z=>hk'' c o hcw (hk c o hcw z)) hT ht'' (.cons ⟨_,rfl⟩ (.cons ru1 .nil)) zfq
  have HT:H T=none:=I.hok.fresh hT
  refine ⟨.ref T,upd H T (.tup [.int (i:Nat),a]),I2,rfl,⟨T,.int (i:Nat),a,rfl,HT,rfl,?_⟩,⟨hst''.1,hst''.2.1⟩,fun c hc'=>?_⟩
  . rw [List.getElem?_zip_eq_some]
    refine ⟨?_,ea⟩
    rw [zfo 0 _ _ hlx];simp
  . rw [z0d]
    . exact (hf c hc').1
    . intro ec
      have hh:∃o,s.heap.get? c=some o:=by
       have hc'':c=e\/c=it:=by simpa using hc'
       obtain ⟨old,he'⟩:=he
       obtain ⟨o1,g1,_⟩:=h1
       rcases hc'' with z | z<;>subst z
       . exact ⟨_,he'⟩
       . exact ⟨_,g1⟩
      obtain ⟨o,ho⟩:=hh
      exact absurd (Nat.lt_of_lt_of_le (Heap.lt_size ho) hT) (by rw [ec];exact Nat.lt_irrefl _)
 done:=by
  intro X hP hw hK hc i pins s U H E I hf st hg
  subst hP hw hK
  obtain ⟨hS,hle'⟩:=hg
  obtain ⟨he,h1⟩:=st
  obtain ⟨its,r,p1,z1⟩:=I.list (.inl hS)
  have W:=WalksT.enumerate (prog:=X.prog) (w:=X.w) (A:=X.A) (I.ok.hd hc) e it l hei hle hli its.toArray
  have le1:=r.length
  have hi:its.toArray.size=i:=by
   rw [List.length_zip,z50] at hle'
   simp only [List.size_toArray];omega
  rw [<-hi] at h1 he
  exact W.done s _ _ ⟨he,h1,p1.isList⟩ fun h' tk hk=>⟨rfl,I.turnedN hf hk⟩
 self:=fun A i s Q E st h=>by
  obtain ⟨⟨old,he⟩,_⟩:=st
  exact wpAny_pyIter_enum he h
section
variable {X:Cx} {a b:Expr} {ta:TA} {p pos tpos:Pos} {elts:List Expr} {k:Nat}
noncomputable def zzp (ta:TA):TI:=fun U H R=>ta U H fun vs H1=>match vs with
 | [.ref l1,.ref l2]=>∃xs ys,Rd H1 l1 (.lst xs)/\Rd H1 l2 (.lst ys)/\R (ItP (fun H=>Rd H l1 (.lst xs)/\Rd H l2 (.lst ys)) (xs.zip ys)) H1
 | _=>False
theorem zfs {n l1 l2:Addr} (h1:l1<n) (h2:l2<n):ZipApart (n+4) (n+2) (n+3) n (n+1) l1 l2:=PySem.W.ktu_apart _ _ _ h1 h2
noncomputable def zux (ta:TA):TI:=fun U H R=>ta U H fun vs H1=>match vs with
 | [.ref l]=>∃xs,Rd H1 l (.lst xs)/\R (ItP (fun H=>Rd H l (.lst xs)) ((ze2 0 xs.length).zip xs)) H1
 | _=>False
theorem zmp (hg:Gl X "enumerate") (hm:X.mg "enumerate"=none) (ha:PA X [a] ta) (hs:starEach [a] X.env=[(false,eval a X.env)]:=by rfl) :
  PI X (.Tuple elts k tpos) (.Call (.Name "enumerate" p) [a] [] pos) (zux ta):=by
 intro pins s U H R I h
 refine Call_ (z6l I hg hm boot_enumerate (PyProof.Rows.callWith_type1 (thn (ha pos pins s U H _ I h) fun us s1 ⟨vs,H1,I1,r1,q1⟩=>?_) hs rfl))
 dsimp only at q1
 split at q1
 . rename_i l
   obtain ⟨xs,e1,q⟩:=q1
   obtain ⟨u,rfl,ru⟩:=z6m r1
   cases ru
   obtain ⟨its1,rr1,p1,_⟩:=I1.list (.inl e1)
   have lt1:l<s1.heap.objs.size:=by obtain ⟨o,ho,_⟩:=p1.isList;exact Heap.lt_size ho
   refine call_enumerate_list p1.isList fun h' he hi hsz hk=>?_
   refine wpAny_pyIter_enum he ⟨s1.heap.objs.size+1,[s1.heap.objs.size+1,s1.heap.objs.size],_,_,H1,rfl,I1.kept (t':=s1.toks) hk,zfr (Nat.succ_ne_self _) (Nat.ne_of_lt (Nat.lt_succ_of_lt lt1)) (Nat.ne_of_lt lt1),⟨⟨_,he⟩,hi⟩,fun c hc=>?_,q⟩
   have hc':s1.heap.objs.size<=c:=by
    have:c=s1.heap.objs.size+1\/c=s1.heap.objs.size:=by simpa using hc
    rcases this with z | z<;>rw [z]<;>first | exact Nat.le_add_right _ _ | exact Nat.le_refl _
   exact I1.fpOk hc' (I1.hok.fresh hc')
 . exact q1.elim
end
section
variable {X:Cx} {tg:Expr} {a b:Expr} {ta:TA} {p pos:Pos}
theorem zuy (hg:Gl X "range") (hm:X.mg "range"=none) (ha:PA X [a] ta) (hs:starEach [a] X.env=[(false,eval a X.env)]:=by rfl):PI X tg (.Call (.Name "range" p) [a] [] pos) (iR1 ta):=by
 intro pins s U H R I h
 refine Call_ (z6l I hg hm boot_range (PyProof.Rows.callWith_type1 (thn (ha pos pins s U H _ I h) fun us s1 ⟨vs,H1,I1,r1,q1⟩=>?_) hs rfl))
 dsimp only at q1
 split at q1
 . rename_i j
   obtain ⟨⟨h1,h2⟩,q⟩:=q1
   obtain ⟨u,rfl,t,rfl⟩:=z6m r1
   refine call_range_1 (thn (zcg (tg:=tg) (R:=fun J H1=>∃J',(∀i H,J'.go i H->J.go i H)/\(∀i H x H',J'.go i H->J.yld i H x H'->J'.yld i H x H')/\(∀i H,J'.stop i H->J.stop i H)/\R J' H1) I1 (by omega) (by omega) h1 h2 ?_) fun itv s2 h2=>?_)
   . refine ⟨_,(z2w 0 (j - 0).toNat).1,(z2w 0 (j - 0).toNat).2.1,(z2w 0 (j - 0).toNat).2.2,?_⟩
     simpa using q
   . obtain ⟨it,fp,tn,J,H2,e,I2,T,st,hf,J',c1,c2,c3,r⟩:=h2
     exact ⟨it,fp,tn,J',H2,e,I2,T.conv c1 c2 c3,st,hf,r⟩
 . exact q1.elim
theorem zuz (hg:Gl X "range") (hm:X.mg "range"=none) (ha:PA X [a,b] ta) (hs:starEach [a,b] X.env=[(false,eval a X.env),(false,eval b X.env)]:=by rfl) (hs2:starEach [b] X.env=[(false,eval b X.env)]:=by rfl) :
  PI X tg (.Call (.Name "range" p) [a,b] [] pos) (iR2 ta):=by
 intro pins s U H R I h
 refine Call_ (z6l I hg hm boot_range (PyProof.Rows.callWith_type1 (thn (ha pos pins s U H _ I h) fun us s1 ⟨vs,H1,I1,r1,q1⟩=>?_) (by rw [hs,hs2]) (by rw [hs2];rfl)))
 dsimp only at q1
 split at q1
 . rename_i i j
   obtain ⟨⟨h1,h2,h3,h4⟩,q⟩:=q1
   obtain ⟨u,w',rfl,⟨t,rfl⟩,⟨t',rfl⟩⟩:=zmc r1
   refine call_range_2 (thn (zcg (tg:=tg) (R:=fun J H1=>∃J',(∀i H,J'.go i H->J.go i H)/\(∀i H x H',J'.go i H->J.yld i H x H'->J'.yld i H x H')/\(∀i H,J'.stop i H->J.stop i H)/\R J' H1) I1 h1 h2 h3 h4 ?_) fun itv s2 h2=>?_)
   . exact ⟨_,(z2w i (j - i).toNat).1,(z2w i (j - i).toNat).2.1,(z2w i (j - i).toNat).2.2,q⟩
   . obtain ⟨it,fp,tn,J,H2,e,I2,T,st,hf,J',c1,c2,c3,r⟩:=h2
     exact ⟨it,fp,tn,J',H2,e,I2,T.conv c1 c2 c3,st,hf,r⟩
 . exact q1.elim
end
def cB1:V->Hp->(List V->Hp->Prop)->Prop:=fun x H R=>R [x] H
def cBT (n:Nat):V->Hp->(List V->Hp->Prop)->Prop:=fun x H R=>match x with
 | .ref a=>(match H a with | some (.tup xs)=>xs.length=n/\R xs H | _=>False)
 | _=>False
section
variable {X:Cx} {sc:Scope} {caps:List Str} {ix:List Nat} {elt iter:Expr} {ifs:List Expr} {pos px py pz tpos:Pos} {tt:TT} {te:TE} {wi:TI} {x y z:Str} {kt:Nat}
theorem zyp (x:V) (σt cs:St) (H:Hp) (Q:St->Hp->Prop) (hl:σt.length=1) (h:cB1 x H (fun vals H2=>Q (vals.map some++cs) H2)):z66 0 x (σt++cs) H fun σ2 H2=>(∃vals:List V,vals.length=1/\σ2=vals.map some++cs)/\Q σ2 H2:=by
 match σt,hl with
 | [t],_=>exact ⟨⟨[x],rfl,rfl⟩,h⟩
theorem zyq {K:Frag} (x:V) (σt cs:St) (H:Hp) (Q:St->Hp->Prop) (hl:σt.length=2) (h:cBT 2 x H (fun vals H2=>Q (vals.map some++cs) H2)) :
  zuo K 2 (zf5 (z66 0) (zf5 (z66 1) zun)) x (σt++cs) H fun σ2 H2=>(∃vals:List V,vals.length=2/\σ2=vals.map some++cs)/\Q σ2 H2:=by
 cases x<;>first | exact h.elim | skip
 rename_i a
 unfold cBT at h
 dsimp only at h
 split at h
 . rename_i xs e
   obtain ⟨hn,h⟩:=h
   match σt,hl,xs,hn with
   | [t,t'],_,[v,v'],_=>exact ⟨a,[v,v'],rfl,.of e,rfl,v,[v'],rfl,v',[],rfl,rfl,⟨[v,v'],rfl,rfl⟩,h⟩
 . exact h.elim
theorem zv0 {tgs:List Str} {i:Nat} {x:Str} {px:Pos} (hN:(tgs++caps).Nodup) (hi:(tgs++caps)[i]?=some x) (hx:sc.names.lookup x=some .local) (fp:List Addr) (s:Shared) (H:Hp):PG (z1x X sc (tgs++caps) fp s H) (.Name x px) (z66 i):=
 zb2 (X:=z1x X sc (tgs++caps) fp s H) hN hi (.inl (lookup_relabel_local hx)) (.inr (lookup_relabel_local hx))
theorem ziw (C:CompOk X sc caps ix) (hN:([x]++caps).Nodup) (hx:sc.names.lookup x=some .local) (hi:PI X (.Name x px) iter wi) (ht:∀fp s H,PTs (z1x X sc ([x]++caps) fp s H) ifs tt) (he:∀fp s H,PE (z1x X sc ([x]++caps) fp s H) elt te)
  (hs:∀x,foldedSetIterable iter X.env x=pure x:=by intro _;rfl):PE X (.ListComp elt [⟨.Name x px,iter,ifs,0⟩] sc pos) (zis wi cB1 ix tt te):=
 zfi (tgs:=[x]) C hi (fun fp s H=>zv0 hN rfl hx fp s H) zyp ht he hs
theorem zv1 (hc:X.calm=true) (hN:([x,y]++caps).Nodup) (hx:sc.names.lookup x=some .local) (hy:sc.names.lookup y=some .local) (fp:List Addr) (s:Shared) (H:Hp) :
  PG (z1x X sc ([x,y]++caps) fp s H) (.Tuple [.Name x px,.Name y py] kt tpos) (zuo X.K 2 (zf5 (z66 0) (zf5 (z66 1) zun))):=
 zke (X:=z1x X sc ([x,y]++caps) fp s H) hc (z8n (zv0 hN rfl hx fp s H) (z8n (zv0 hN rfl hy fp s H) pgs_nil))
theorem zix (C:CompOk X sc caps ix) (hN:([x,y]++caps).Nodup) (hx:sc.names.lookup x=some .local) (hy:sc.names.lookup y=some .local) (hi:PI X (.Tuple [.Name x px,.Name y py] kt tpos) iter wi) (ht:∀fp s H,PTs (z1x X sc ([x,y]++caps) fp s H) ifs tt)
  (he:∀fp s H,PE (z1x X sc ([x,y]++caps) fp s H) elt te) (hs:∀x,foldedSetIterable iter X.env x=pure x:=by intro _;rfl):PE X (.ListComp elt [⟨.Tuple [.Name x px,.Name y py] kt tpos,iter,ifs,0⟩] sc pos) (zis wi (cBT 2) ix tt te):=
 zfi (tgs:=[x,y]) C hi (fun fp s H=>zv1 C.calm hN hx hy fp s H) zyq ht he hs
noncomputable def zmq (n:Nat) (t:TGs):TG:=fun v U H Q=>match v with
 | .ref a=>(match H a with | some (.tup xs)=>xs.length=n/\t xs U H Q | _=>False)
 | _=>False
noncomputable def zkk (t:TG) (u:TGs):TGs:=fun vs U H Q=>match vs with | v::r=>t v U H fun σ' H'=>u r σ' H' Q | []=>False
noncomputable def zq6:TGs:=fun vs U H Q=>match vs with | []=>Q U H | _=>False
theorem PGs.imp {es:List Expr} {t t':TGs} (h:PGs X es t) (hi:∀vs U H Q,t' vs U H Q->t vs U H Q):PGs X es t':=fun pins s U H vs us Q I r q=>h pins s U H vs us Q I r (hi vs U H Q q)
theorem PG.imp {e:Expr} {t t':TG} (h:PG X e t) (hi:∀v U H Q,t' v U H Q->t v U H Q):PG X e t':=fun pins s U H v u Q I r q=>h pins s U H v u Q I r (hi v U H Q q)
theorem ziy:PGs X [] zq6:=pgs_nil.imp fun vs U H Q q=>by
 cases vs with
 | nil=>exact ⟨rfl,q⟩
 | cons _ _=>exact q.elim
theorem zft {e:Expr} {es:List Expr} {t:TG} {u:TGs} (h1:PG X e t) (h2:PGs X es u) (hs:(assignEach (e::es) X.env).map (·.2)=assign e X.env::(assignEach es X.env).map (·.2):=by rfl):PGs X (e::es) (zkk t u):=(z8n h1 h2 hs).imp fun vs U H Q q=>by
 cases vs with
 | nil=>exact q.elim
 | cons v r=>exact ⟨v,r,rfl,q⟩
theorem zmr {es:List Expr} {k:Nat} {t:TGs} {n:Nat} (hc:X.calm=true) (h:PGs X es t)
  (hn:(assignEach es X.env).length=n:=by rfl) (hst:(assignEach es X.env).findIdx? (·.1)=none:=by rfl):PG X (.Tuple es k pos) (zmq n t):=(zke hc h hn hst).imp fun v U H Q q=>by
 cases v<;>first | exact q.elim | skip
 rename_i a
 unfold zmq at q
 dsimp only at q
 split at q
 . rename_i xs e;exact ⟨a,xs,rfl,.of e,q.1,q.2⟩
 . exact q.elim
end
theorem zxz {α:Type} (a:α) (r:List α):atI (a::r) 0=some a:=zb5 (j:=0) rfl
theorem zy0 {α:Type} (a b:α) (r:List α):atI (a::b::r) 1=some b:=zb5 (j:=1) rfl
section
variable {prog:Program} {w:World} {A:Around} {E:Value->Shared->Prop} {s:Shared}
theorem zco {it t:Addr} {items:Array Value} (hne:t≠it):∀(n i:Nat) (s:Shared) (Q:List Value->Shared->Prop),s.heap.IsListIter it t i->s.heap.IsList t items->i+n<=items.size ->
  (∀h',h'.IsListIter it t (i+n)->Heap.SameBut it s.heap h'->Q ((items.toList.drop i).take n) { s with heap:=h' })->wpAny (model prog w) A (draw (.ref it) n) Q E s
 | 0,i,s,Q,hit,_,_,k=>by
  show wpAny _ _ (pure []) Q E s
  exact wpAny_pure (by simpa using k s.heap hit (Heap.SameBut.refl ..))
 | n+1,i,s,Q,hit,ht,hle,k=>by
  have hlt:i<items.size:=by omega
  show wpAny _ _ (pyNext (.ref it) >>= _) Q E s
  refine wpAny_bind (wpAny_pyNext_list_item hit ht (x:=items[i]) (by simp [hlt]) fun g1 it1 sb1=>?_)
  refine wpAny_bind (wpAny_holding (zco hne n (i+1) _ _ it1 (ht.extBut sb1.extBut hne) (by omega) fun g2 it2 sb2=>wpAny_pure ?_))
  have hd:items.toList.drop i=items[i]::items.toList.drop (i+1):=by simp [List.drop_eq_getElem_cons,hlt]
  have z:=k g2 (by rw [show i+(n+1)=i+1+n by omega];exact it2) (sb1.trans sb2)
  rw [hd,List.take_succ_cons] at z
  exact z
theorem zfu {t:Addr} {items:Array Value} {Q:List Value->Shared->Prop} (hh:A.handled=none) (ht:s.heap.IsList t items)
  (k:∀h',(∀b o,s.heap.get? b=some o->h'.get? b=some o)->Q items.toList { s with heap:=h' }):wpAny (model prog w) A (unpackItems (.ref t) items.size none) Q E s:=by
 have hlt:t≠s.heap.objs.size:=by obtain ⟨o,ho,_⟩:=ht;exact Nat.ne_of_lt (Heap.lt_size ho)
 have old:∀{b:Addr} {o:Obj},s.heap.get? b=some o->b≠s.heap.objs.size:=fun e=>Nat.ne_of_lt (Heap.lt_size e)
 unfold unpackItems
 refine wpAny_bind ?_
 . unfold notIterableAtAll
   refine wpAny_bind (wpAny_specialOf ht.typeIs slot_list_iter.lookup ?_)
   refine wpAny_pure ?_
   simp only [Bool.false_eq_true,if_false]
   refine wpAny_bind (wpAny_holding (wpAny_pyIter_list ht ?_))
   refine wpAny_bind (wpAny_holding (zco hlt items.size 0 _ _ ⟨_,Heap.get?_push_size _ rfl,rfl,rfl⟩ (ht.push _) (by omega) fun g1 it1 sb1=>?_))
   have hall:List.take items.size (List.drop 0 items.toList)=items.toList:=by
    rw [List.drop_zero];exact List.take_of_length_le (by simp)
   rw [hall]
   rw [if_neg (by simp)]
   have ht1:g1.IsList t items:=(ht.push _).extBut sb1.extBut hlt
   refine wpAny_bind (wpAny_holding (wpAny_pyNext_list_end hh it1 ht1 (by simp) fun g2 eb2=>?_))
   simp only [Option.isSome_none,Bool.false_eq_true,if_false]
   exact wpAny_pure (k g2 fun b o e=>eb2 b o (old e) (sb1.extBut b o (old e) (Heap.get?_push_of_some _ e)))
theorem ze3 {env:Env} {elts:List Expr} {x1} {pos:Pos} {t:Addr} {items:Array Value} {Q:Unit->Shared->Prop} (hh:A.handled=none) (ht:s.heap.IsList t items)
  (hn:(assignEach elts env).length=items.size) (hstar:(assignEach elts env).findIdx? (·.1)=none)
  (h:∀h',(∀b o,s.heap.get? b=some o->h'.get? b=some o)->wpAny (model prog w) A (assignInOrder ((assignEach elts env).map (·.2)) items.toList) Q E { s with heap:=h' }) :
  wpAny (model prog w) A (assign (.Tuple elts x1 pos) env (.ref t)) Q E s:=by
 rw [assign_Tuple]
 refine wpAny_bind (wpAny_standAt ?_)
 unfold unpack
 rw [hn,hstar]
 exact wpAny_bind (wpAny_holding (zfu hh ht h))
end
section
variable {X:Cx} {pos:Pos}
noncomputable def ze4 (n:Nat) (t:TGs):TG:=fun v U H Q=>match v with
 | .ref a=>(match H a with
  | some (.tup xs)=>xs.length=n/\t xs U H Q
  | some (.lst xs)=>xs.length=n/\t xs U H Q
  | _=>False)
 | _=>False
theorem zfv {es:List Expr} {k:Nat} {t:TGs} {n:Nat} (hc:X.calm=true) (h:PGs X es t)
  (hn:(assignEach es X.env).length=n:=by rfl) (hst:(assignEach es X.env).findIdx? (·.1)=none:=by rfl):PG X (.Tuple es k pos) (ze4 n t):=by
 intro pins s U H v u Q I r hw
 cases v<;>first | exact hw.elim | skip
 rename_i a
 unfold ze4 at hw
 dsimp only at hw
 split at hw
 . rename_i xs e
   exact zmr hc h hn hst pins s U H (.ref a) u Q I r (by unfold zmq;dsimp only;rw [e];exact hw)
 . rename_i xs e
   obtain ⟨hl,hw⟩:=hw
   cases r
   obtain ⟨its,rv,ht,hz⟩:=I.list (.of e)
   refine ze3 (I.ok.hd hc) ht.isList (by simp [hn,<-hl,rv.length]) hst fun h' hx=>?_
   exact h pins _ U H xs _ Q (I.kept (t':=s.toks) hx) (by simpa using rv) hw
 . exact hw.elim
theorem few {n:Nat} (h:n<=1000):n<=sizeLine:=Nat.le_of_lt (zfh h)
def zud:List V->Hp->VK->Prop:=fun xs H Q=>match xs with
 | [x,.ty c]=>z6o c=true/\(match z8s H x with | some t=>Q (.bl (zfl t c)) H | none=>False)
 | _=>False
def zms:List V->Hp->VK->Prop:=fun xs H Q=>match xs with
 | [.ref p]=>∃ns:List Int,z5l H p=some (ns.map V.int)/\Q (.int ns.sum) H
 | _=>False
def zmt:List V->Hp->VK->Prop:=fun xs H Q=>match xs with
 | [.ref p]=>∃bs:List Bool,Rd H p (.lst (bs.map V.bl))/\Q (.bl (bs.any id)) H
 | _=>False
section
variable {H:Hp} {Q:VK} {QB:Bool->Hp->Prop} {p q l b:Addr} {i j:Int} {x y:V} {a c:Bool} {cs:String} {vs:List V}
theorem zq7:zud [x,.ty cs] H Q=(z6o cs=true/\(match z8s H x with | some t=>Q (.bl (zfl t cs)) H | none=>False)):=rfl
theorem zfw:zms [.ref p] H Q=∃ns:List Int,z5l H p=some (ns.map V.int)/\Q (.int ns.sum) H:=rfl
theorem zmu:zmt [.ref p] H Q=∃bs:List Bool,Rd H p (.lst (bs.map V.bl))/\Q (.bl (bs.any id)) H:=rfl
end
theorem zv2:CallR X (.builtin "isinstance") zud:=zit
theorem zv3 (hc:X.calm=true):CallR X (.builtin "sum") zms:=zfm hc
theorem zv4 (hc:X.calm=true):CallR X (.builtin "any") zmt:=zfn hc
end
inductive NK where
 | i (n:Int)
 | t (ks:List NK)
noncomputable instance:DecidableEq NK:=fun a b=>Classical.propDecidable (a=b)
mutual
noncomputable def NK.dep:NK->Nat
 | .i _=>0
 | .t ks=>z3y ks+1
noncomputable def z3y:List NK->Nat
 | []=>0
 | k::ks=>max k.dep (z3y ks)
end
mutual
noncomputable def NK.hs:NK->Int
 | .i n=>hashInt n
 | .t ks=>reduceHash (Builtin.Tuple.tupleHashOf (zq8 ks))
noncomputable def zq8:List NK->List Int
 | []=>[]
 | k::ks=>k.hs::zq8 ks
end
mutual
noncomputable def NK.dr:NK->Nat
 | .i _=>1
 | .t ks=>zue ks+1
noncomputable def zue:List NK->Nat
 | []=>0
 | k::ks=>k.dr+zue ks
end
mutual
def NKv (h:Heap):NK->Value->Prop
 | .i n,v=>∃t,v=.int n t
 | .t ks,v=>∃a its,v=.ref a/\h.IsTuple a its/\NKvs h ks its.toList
def NKvs (h:Heap):List NK->List Value->Prop
 | [],vs=>vs=[]
 | k::ks,vs=>∃v r,vs=v::r/\NKv h k v/\NKvs h ks r
end
theorem NKvs.len {h:Heap}:∀{ks:List NK} {vs:List Value},NKvs h ks vs->ks.length=vs.length
 | [],_,q=>by simp only [NKvs] at q;rw [q];rfl
 | k::ks,_,q=>by
  simp only [NKvs] at q
  obtain ⟨v,r,rfl,_,q⟩:=q
  simp only [List.length_cons,NKvs.len q]
theorem zfx {h:Heap} {a:Addr} {x y:Array Value} (p:h.IsTuple a x) (q:h.IsTuple a y):x=y:=by
 obtain ⟨o,e,c,n,d⟩:=p
 obtain ⟨o',e',c',n',d'⟩:=q
 rw [e] at e';cases e'
 rw [d] at d';cases d';rfl
mutual
theorem NKv.inj {h:Heap}:∀{k j:NK} {v:Value},NKv h k v->NKv h j v->k=j
 | .i n,.i m,v,p,q=>by
  simp only [NKv] at p q
  obtain ⟨t,rfl⟩:=p;obtain ⟨t',e⟩:=q
  cases e;rfl
 | .i n,.t ks,v,p,q=>by
  simp only [NKv] at p q
  obtain ⟨t,rfl⟩:=p;obtain ⟨_,_,e,_⟩:=q;cases e
 | .t ks,.i m,v,p,q=>by
  simp only [NKv] at p q
  obtain ⟨t,rfl⟩:=q;obtain ⟨_,_,e,_⟩:=p;cases e
 | .t ks,.t js,v,p,q=>by
  simp only [NKv] at p q
  obtain ⟨a,its,rfl,p1,p2⟩:=p
  obtain ⟨b,its',e,q1,q2⟩:=q
  cases e
  cases zfx p1 q1
  rw [NKvs.inj p2 q2]
theorem NKvs.inj {h:Heap}:∀{ks js:List NK} {vs:List Value},NKvs h ks vs->NKvs h js vs->ks=js
 | [],[],_,_,_=>rfl
 | [],j::js,_,p,q=>by
  simp only [NKvs] at p q;subst p;obtain ⟨_,_,e,_⟩:=q;cases e
 | k::ks,[],_,p,q=>by
  simp only [NKvs] at p q;subst q;obtain ⟨_,_,e,_⟩:=p;cases e
 | k::ks,j::js,_,p,q=>by
  simp only [NKvs] at p q
  obtain ⟨v,r,rfl,p1,p2⟩:=p
  obtain ⟨_,_,e,q1,q2⟩:=q
  cases e
  rw [NKv.inj p1 q1,NKvs.inj p2 q2]
end
mutual
theorem NKv.stay {h h':Heap} (st:∀a its,h.IsTuple a its->h'.IsTuple a its):∀{k:NK} {v:Value},NKv h k v->NKv h' k v
 | .i n,v,p=>by simp only [NKv] at p ⊢;exact p
 | .t ks,v,p=>by
  simp only [NKv] at p ⊢
  obtain ⟨a,its,e,p1,p2⟩:=p
  exact ⟨a,its,e,st _ _ p1,NKvs.stay st p2⟩
theorem NKvs.stay {h h':Heap} (st:∀a its,h.IsTuple a its->h'.IsTuple a its):∀{ks:List NK} {vs:List Value},NKvs h ks vs->NKvs h' ks vs
 | [],_,p=>by simp only [NKvs] at p ⊢;exact p
 | k::ks,_,p=>by
  simp only [NKvs] at p ⊢
  obtain ⟨v,r,e,p1,p2⟩:=p
  exact ⟨v,r,e,NKv.stay st p1,NKvs.stay st p2⟩
end
section
variable {prog:Program} {w:World}
theorem zfy:∀(m:Nat) {k:NK} {v:Value} {A:Around} {E:Value->Shared->Prop} {s:Shared} {Q:Int->Shared->Prop},k.dep<=m->A.units+m<cLine->NKv s.heap k v->Q k.hs { s with toks:=s.toks+k.dr }->wpAny (model prog w) A (pyHash v) Q E s
 | m,.i n,v,A,E,s,Q,hd,hu,p,q=>by
  simp only [NKv] at p
  obtain ⟨t,rfl⟩:=p
  exact wpAny_pyHash_int q
 | 0,.t ks,v,A,E,s,Q,hd,hu,p,q=>by simp only [NK.dep] at hd;omega
 | m+1,.t ks,v,A,E,s,Q,hd,hu,p,q=>by
  simp only [NKv] at p
  obtain ⟨a,its,rfl,⟨o,e,c,n,d⟩,p2⟩:=p
  simp only [NK.dep] at hd
  show wpAny (model prog w) A (pyHashByItsType (.ref a)) Q E s
  refine W.pyHash_slot (T:="tuple") ⟨o,e,c⟩ F.slot_tuple_hash F.entry_tuple_hash (F.args_tuple_hash_1 _) rfl (.inr (by omega)) ?_
  refine wpAny_bind (wpAny_of_eq (show slotArgs "__hash__" 0 ⟨[.ref a],[]⟩=pure (.ref a,[]) from rfl) ?_)
  show wpAny (model prog w) A.in1 (Builtin.Tuple.tupleItemsOf (.ref a) >>= _) _ _ s
  refine wpAny_bind (wpAny_tupleItemsOf e d ?_)
  refine wpAny_bind ?_
  have go:∀(ks:List NK) (vs:List Value) (b:Array Int) (s':Shared) (Q':Array Int->Shared->Prop),z3y ks<=m->NKvs s'.heap ks vs->(∀b':Array Int,b'.toList=b.toList++zq8 ks->Q' b' { s' with toks:=s'.toks+zue ks }) ->
    wpAny (model prog w) A.in1 (forIn vs b fun x r=>do
     let h <-pyHash x
     pure (ForInStep.yield (r.push h))) Q' E s':=by
   intro ks
   induction ks with
   | nil=>
    intro vs b s' Q' _ p hq
    simp only [NKvs] at p;subst p
    exact wpAny_pure (hq b (by simp [zq8]))
   | cons k ks ih=>
    intro vs b s' Q' hd p hq
    simp only [NKvs] at p
    obtain ⟨v,r,rfl,p1,p2⟩:=p
    simp only [z3y] at hd
    rw [List.forIn_cons]
    refine wpAny_bind (wpAny_bind (zfy m (by omega) (by show A.units+1+m<cLine;omega) p1 ?_))
    refine wpAny_pure ?_
    refine ih r (b.push k.hs) _ Q' (by omega) p2 fun b' hb'=>?_
    have:=hq b' (by rw [hb'];simp [zq8])
    simpa only [zue,Nat.add_assoc] using this
  rw [<-Array.forIn_toList]
  refine go ks its.toList #[] s _ (by omega) p2 fun b' hb'=>?_
  show wpAny (model prog w) A.in1 (retInt (Builtin.Tuple.tupleHashOf b'.toList)) _ _ _
  refine wpAny_mono (wpAny_ret_mkInt (Q:=fun v s'=>∃n t,v=Value.int n t/\Q (reduceHash n) s') ⟨_,_,rfl,?_⟩) (fun fin s' h=>?_) fun _ _ h=>h
  . rw [hb']
    simpa only [NK.hs,NK.dr,Nat.add_assoc,List.nil_append] using q
  . obtain ⟨v,rfl,n,t,rfl,hq⟩:=h
    exact ⟨n,t,rfl,hq⟩
theorem zq9 {s:Shared}:∀(m:Nat) {k j:NK} {u v:Value} {A:Around},k.dep<=m->A.units+m<cLine->NKv s.heap k u->NKv s.heap j v->SeqAt.EqAt A s u v (decide (k=j))
 | m,.i n,.i n',u,v,A,hd,hu,p,q=>by
  simp only [NKv] at p q
  obtain ⟨t,rfl⟩:=p;obtain ⟨t',rfl⟩:=q
  have:decide (NK.i n=NK.i n')=(n==n'):=by
   by_cases h:n=n'
   . rw [h];simp
   . rw [decide_eq_false (fun e=>h (NK.i.inj e))];simp [h]
  rw [this]
  exact .int_int _ _ _ _
 | m,.i n,.t js,u,v,A,hd,hu,p,q=>by
  simp only [NKv] at p q
  obtain ⟨t,rfl⟩:=p;obtain ⟨a,its,rfl,q1,_⟩:=q
  rw [decide_eq_false (fun e=>by cases e)]
  exact .int_tuple _ _ q1 (by omega)
 | m,.t ks,.i n',u,v,A,hd,hu,p,q=>by
  simp only [NKv] at p q
  obtain ⟨t,rfl⟩:=q;obtain ⟨a,its,rfl,q1,_⟩:=p
  rw [decide_eq_false (fun e=>by cases e)]
  exact .tuple_int _ _ q1 (by omega)
 | 0,.t ks,.t js,u,v,A,hd,hu,p,q=>by simp only [NK.dep] at hd;omega
 | m+1,.t ks,.t js,u,v,A,hd,hu,p,q=>by
  have p0:=p
  have q0:=q
  simp only [NKv] at p q
  obtain ⟨a,its,rfl,p1,p2⟩:=p
  obtain ⟨b,its2,rfl,q1,q2⟩:=q
  simp only [NK.dep] at hd
  by_cases hab:a=b
  . subst hab
    rw [decide_eq_true (NKv.inj p0 q0)]
    exact .same _
  . have l1:=p2.len
    have l2:=q2.len
    simp only [Array.length_toList] at l1 l2
    have at':∀(ks:List NK) (vs:List Value),NKvs s.heap ks vs->∀j v,vs[j]?=some v->NKv s.heap (ks.getD j (.i 0)) v/\(ks.getD j (.i 0)).dep<=z3y ks:=by
     intro ks
     induction ks with
     | nil=>intro vs p j v e;simp only [NKvs] at p;subst p;simp at e
     | cons k ks ih=>
      intro vs p j v e
      simp only [NKvs] at p
      obtain ⟨v0,r,rfl,r1,r2⟩:=p
      cases j with
      | zero=>simp at e;subst e;exact ⟨r1,by simp only [List.getD_cons_zero,z3y];omega⟩
      | succ j=>
       simp only [List.getElem?_cons_succ] at e
       obtain ⟨x1,x2⟩:=ih r r2 j v e
       exact ⟨x1,by simp only [List.getD_cons_succ,z3y];omega⟩
    have q:=SeqAt.RcAt.tuples (A:=A) p1 q1 (by omega) (e:=fun j=>decide (ks.getD j (.i 0)=js.getD j (.i 0))) fun j h1 h2=>by
     obtain ⟨x1,x2⟩:=at' ks _ p2 j its[j] (by simp [h1])
     obtain ⟨y1,y2⟩:=at' js _ q2 j its2[j] (by simp [h2])
     exact zq9 m (by omega) (by show A.units+1+m<cLine;omega) x1 y1
    have eb:((List.range (min its.size its2.size)).all (fun j=>decide (ks.getD j (.i 0)=js.getD j (.i 0)))&&its.size==its2.size)=decide (NK.t ks=NK.t js):=by
     rw [Bool.eq_iff_iff,Bool.and_eq_true,List.all_eq_true,decide_eq_true_eq,beq_iff_eq]
     constructor
     . rintro ⟨h1,h2⟩
       congr 1
       refine List.ext_getElem (by omega) fun j hj hj'=>?_
       have:=h1 j (List.mem_range.mpr (by omega))
       rw [decide_eq_true_eq,List.getD_eq_getElem?_getD,List.getD_eq_getElem?_getD,List.getElem?_eq_getElem hj,List.getElem?_eq_getElem hj'] at this
       exact this
     . intro e
       cases e
       exact ⟨fun j _=>decide_eq_true rfl,by omega⟩
    rw [eb] at q
    exact .of_refs hab q
end
section
variable {prog:Program} {w:World}
theorem zcp {A:Around} {E:Value->Shared->Prop} {s:Shared}:∀(m:Nat) {k:NK} {v:Value} {Q:Bool->Shared->Prop},k.dep<=m->NKv s.heap k v->Q true s->wpAny (model prog w) A (eqIsQuiet m v) Q E s
 | m,.i n,v,Q,hd,p,q=>by
  simp only [NKv] at p
  obtain ⟨t,rfl⟩:=p
  rw [eqIsQuiet.eq_3 _ _ (fun a e=>by cases e)]
  exact wpAny_pure q
 | 0,.t ks,v,Q,hd,p,q=>by simp only [NK.dep] at hd;omega
 | m+1,.t ks,v,Q,hd,p,q=>by
  simp only [NKv] at p
  obtain ⟨a,its,rfl,⟨o,e,c,n,d⟩,p2⟩:=p
  simp only [NK.dep] at hd
  rw [eqIsQuiet.eq_2]
  refine wpAny_bind (wpAny_specialOf (T:="tuple") ⟨o,e,c⟩ F.slot_tuple_eq.lookup ?_)
  show wpAny (model prog w) A (isInstance (.ref a) (.type "tuple") >>= _) _ _ s
  refine wpAny_bind (wpAny_isInstance (T:="tuple") (b:=true) ⟨o,e,c⟩ (by rfl) ?_)
  show wpAny (model prog w) A (seqItems? (.ref a) >>= _) _ _ s
  refine wpAny_bind (wpAny_seqItems e d ?_)
  refine wpAny_bind ?_
  have go:∀(ks:List NK) (vs:List Value) (Q':Option Bool×Unit->Shared->Prop),z3y ks<=m->NKvs s.heap ks vs->Q' (none,()) s ->
    wpAny (model prog w) A (forIn vs ((none,()):Option Bool×Unit) fun y __s=>do
     let __do_lift <-eqIsQuiet m y
     if (!__do_lift)=true then pure (ForInStep.done (some false,()))
      else pure (ForInStep.yield (none,()))) Q' E s:=by
   intro ks
   induction ks with
   | nil=>
    intro vs Q' _ p hq
    simp only [NKvs] at p;subst p
    exact wpAny_pure hq
   | cons k ks ih=>
    intro vs Q' hd p hq
    simp only [NKvs] at p
    obtain ⟨v,r,rfl,p1,p2⟩:=p
    simp only [z3y] at hd
    rw [List.forIn_cons]
    refine wpAny_bind (wpAny_bind (zcp m (by omega) p1 ?_))
    refine wpAny_pure ?_
    exact ih r Q' (by omega) p2 hq
  show wpAny (model prog w) A (forIn its ((none,()):Option Bool×Unit) _) _ _ s
  rw [<-Array.forIn_toList]
  refine go ks its.toList _ (by omega) p2 ?_
  exact wpAny_pure q
noncomputable def deepKind (prog:Program) (w:World):HeapKind prog w NK where
 is:=fun h k a=>NKv h k (.ref a)/\k.dep<=8
 hash:=NK.hs
 draws:=NK.dr
 room:=fun A=>A.units+8<cLine
 inj:=fun p q=>NKv.inj p.1 q.1
 keeps:=fun {h h' k a d o es ep} p e eo sb=>⟨NKv.stay (fun b its t=>by
  obtain ⟨ob,eb,cb,n,db⟩:=t
  have hne:b≠d:=fun z=>by
   subst z
   rw [e] at eb;cases eb
   rw [eo] at db;cases db
  exact ⟨ob,(sb.2 b hne).trans eb,cb,n,db⟩) p.1,p.2⟩
 pyHash:=fun {A E s k a Q} hr p q=>zfy 8 p.2 hr p.1 q
 eqBool:=fun {A E s x y a b Q} hr p p' q=>zq9 8 p.2 hr p.1 p'.1 prog w E Q q
 quiet:=fun {A E s k a Q} p q=>zcp 8 p.2 p.1 q
end
noncomputable def dnE (x:NK×Addr×Value):DictEntry:={ hash:=x.1.hs,key:=.ref x.2.1,val:=x.2.2 }
def dnP (a:Addr) (ks:List (NK×Addr)) (xs:List V) (o:Obj) (h:Heap):Prop:=
 h.get? a=some o/\∃(vs:List Value) (es:Array DictEntry) (ep:Nat),Vals xs vs/\ks.length=vs.length/\o.ExactDict/\o.data=.dict es ep/\es.toList=((ks.zip vs).map fun q=>(q.1.1,q.1.2,q.2)).map dnE
theorem dnP.stay {a:Addr} {ks:List (NK×Addr)} {xs:List V} {o:Obj}:∀h1 h2:Heap,dnP a ks xs o h1->(∀o,h1.get? a=some o->h2.get? a=some o)->dnP a ks xs o h2:=fun _ _ p k=>⟨k _ p.1,p.2⟩
mutual
def NKr (H:Hp):NK->V->Prop
 | .i n,v=>v=.int n
 | .t ks,v=>∃a ys,v=.ref a/\H a=some (.tup ys)/\NKrs H ks ys
def NKrs (H:Hp):List NK->List V->Prop
 | [],vs=>vs=[]
 | k::ks,vs=>∃v r,vs=v::r/\NKr H k v/\NKrs H ks r
end
mutual
theorem NKr.mono {H H':Hp} (st:∀a ys,H a=some (.tup ys)->H' a=some (.tup ys)):∀{k:NK} {v:V},NKr H k v->NKr H' k v
 | .i n,v,p=>by simp only [NKr] at p ⊢;exact p
 | .t ks,v,p=>by
  simp only [NKr] at p ⊢
  obtain ⟨a,ys,e,p1,p2⟩:=p
  exact ⟨a,ys,e,st _ _ p1,NKrs.mono st p2⟩
theorem NKrs.mono {H H':Hp} (st:∀a ys,H a=some (.tup ys)->H' a=some (.tup ys)):∀{ks:List NK} {vs:List V},NKrs H ks vs->NKrs H' ks vs
 | [],_,p=>by simp only [NKrs] at p ⊢;exact p
 | k::ks,_,p=>by
  simp only [NKrs] at p ⊢
  obtain ⟨v,r,e,p1,p2⟩:=p
  exact ⟨v,r,e,NKr.mono st p1,NKrs.mono st p2⟩
end
section
variable {X:Cx} {pins:List (Addr×Obj)} {U:St} {H:Hp} {s:Shared}
mutual
theorem zfz (I:Inv X pins U H s):∀{k:NK} {x:V} {u:Value},NKr H k x->RelV x u->NKv s.heap k u
 | .i n,x,u,p,r=>by
  simp only [NKr] at p;subst p
  obtain ⟨t,rfl⟩:=r
  simp only [NKv];exact ⟨t,rfl⟩
 | .t ks,x,u,p,r=>by
  simp only [NKr] at p
  obtain ⟨a,ys,rfl,p1,p2⟩:=p
  cases r
  obtain ⟨its,r1,t1,_⟩:=I.tuple (.of p1)
  simp only [NKv]
  exact ⟨a,its.toArray,rfl,t1,zkl I p2 r1⟩
theorem zkl (I:Inv X pins U H s):∀{ks:List NK} {xs:List V} {us:List Value},NKrs H ks xs->Vals xs us->NKvs s.heap ks us
 | [],_,_,p,r=>by simp only [NKrs] at p;subst p;cases r;simp only [NKvs]
 | k::ks,_,_,p,r=>by
  simp only [NKrs] at p
  obtain ⟨v,q,rfl,p1,p2⟩:=p
  cases r with
  | cons a1 a2=>
   simp only [NKvs]
   exact ⟨_,_,rfl,zfz I p1 a1,zkl I p2 a2⟩
end
end
def KL (K:Frag) (a:Addr) (xs:List V):Prop:=∃(o:Obj) (its:Array Value) (n:Nat),K.lookup a=some o/\o.cls=.type "list"/\o.dict=none/\o.data=.seq its n/\its.size<=sizeLine/\Vals xs its.toList
def XO (K:Frag) (c:String) (a:Addr) (o:HO):Prop:=∃C:Addr,nsIn K mainGlobals (c:Str)=some (some (.ref C))/\o=.ext fun h=>∃ob,h.get? a=some ob/\ob.cls=.ref C/\∃vs,ob.data=.fields vs
inductive D where
 | non | bl (b:Bool) | int (i:Int) | str (x:Str) | tup (ds:List D) | lst (ds:List D)
 | dk (ks:List Key) (ds:List D) | dt (ks:List (List Key)) (ds:List D) | dn (ks:List NK) (ds:List D) | scr (ns:List Int) | exc (c:String)
def DN (H:Hp) (a:Addr) (qs:List (NK×Addr)):Prop:=(qs.map (·.1)).Nodup/\(∀q∈qs,NKr H q.1 (.ref q.2)/\q.1.dep<=8)/\(a==sysModules)=false/\qs.length<=sizeLine
theorem DN.tk {H H':Hp} {a:Addr} {qs:List (NK×Addr)} (h:DN H a qs) (st:∀a ys,H a=some (.tup ys)->H' a=some (.tup ys)):DN H' a qs:=
 ⟨h.1,fun q hq=>⟨NKr.mono st (h.2.1 q hq).1,(h.2.1 q hq).2⟩,h.2.2⟩
mutual
def RD (K:Frag) (H:Hp):D->V->Prop
 | .non,v=>v=.non
 | .bl b,v=>v=.bl b
 | .int i,v=>v=.int i
 | .str x,v=>v=.str x
 | .tup ds,v=>∃a xs,v=.ref a/\H a=some (.tup xs)/\RDs K H ds xs
 | .lst ds,v=>∃a xs,v=.ref a/\H a=some (.lst xs)/\RDs K H ds xs
 | .dk ks ds,v=>∃a xs,v=.ref a/\H a=some (.dK (ks.zip xs))/\ks.length=xs.length/\RDs K H ds xs
 | .dt ks ds,v=>∃a xs,v=.ref a/\H a=some (.dT (ks.zip xs))/\ks.length=xs.length/\RDs K H ds xs
 | .dn ks ds,v=>∃a qs xs o,v=.ref a/\H a=some (.ext (dnP a qs xs o))/\qs.map (·.1)=ks/\DN H a qs/\RDs K H ds xs
 | .scr ns,v=>∃a,v=.ref a/\((∃o,H a=some (.frz o (.lst (ns.map V.int))))\/KL K a (ns.map V.int))
 | .exc c,v=>∃a o,v=.ref a/\XO K c a o/\H a=some o
def RDs (K:Frag) (H:Hp):List D->List V->Prop
 | [],xs=>xs=[]
 | d::ds,xs=>∃x r,xs=x::r/\RD K H d x/\RDs K H ds r
end
mutual
noncomputable def D.noL:D->Bool
 | .lst _=>false
 | .dk _ _=>false
 | .dt _ _=>false
 | .dn _ _=>false
 | .tup ds=>z3z ds
 | _=>true
noncomputable def z3z:List D->Bool
 | []=>true
 | d::ds=>d.noL&&z3z ds
end
mutual
noncomputable def D.pl:D->Bool
 | .dk _ _=>false
 | .dt _ _=>false
 | .dn _ _=>false
 | .scr _=>false
 | .exc _=>false
 | .tup ds=>pls ds
 | .lst ds=>pls ds
 | _=>true
noncomputable def pls:List D->Bool
 | []=>true
 | d::ds=>d.pl&&pls ds
end
noncomputable def D.shal:D->Bool
 | .lst ds=>z3z ds
 | .dk _ ds=>z3z ds
 | .dt _ ds=>z3z ds
 | .dn _ ds=>z3z ds
 | d=>d.noL
def Imm:HO->Prop
 | .tup _=>True
 | .frz _ _=>True
 | .ext φ=>∀a qs xs o,φ≠dnP a qs xs o
 | _=>False
theorem XO.imm {K:Frag} {c:String} {a:Addr} {o:HO} (h:XO K c a o):Imm o:=by
 obtain ⟨C,_,rfl⟩:=h
 intro b qs xs o0 e
 obtain ⟨ob,hob⟩:∃ob:Obj,ob={ cls:=.ref C,data:=.fields #[] }:=⟨_,rfl⟩
 have hg:∀(i:Nat) (o:Obj),({ objs:=Array.replicate (a+1) ob }:Heap).get? i=some o->o=ob:=fun i o q=>by
  by_cases hi:i<a+1
  . have z:({ objs:=Array.replicate (a+1) ob }:Heap).get? i=some ob:=by
     unfold Heap.get?
     rw [Array.getElem?_replicate,if_pos hi,hob]
    rw [z] at q;cases q;rfl
  . unfold Heap.get? at q
    rw [Array.getElem?_replicate,if_neg hi] at q;cases q
 have h1:(fun h:Heap=>∃ob,h.get? a=some ob/\ob.cls=.ref C/\∃vs,ob.data=.fields vs) { objs:=Array.replicate (a+1) ob }:=by
  refine ⟨ob,?_,by rw [hob],#[],by rw [hob]⟩
  unfold Heap.get?
  rw [Array.getElem?_replicate,if_pos (Nat.lt_succ_self a),hob]
 rw [e] at h1
 obtain ⟨g,vs,es,ep,_,_,_,d,_⟩:=h1
 rw [hg _ _ g,hob] at d
 cases d
def TK (H H':Hp):Prop:=∀a o,Imm o->H a=some o->H' a=some o
section
variable {K:Frag} {H H':Hp}
mutual
theorem RD.tk (hs:TK H H'):∀{d:D} {v:V},d.noL=true->RD K H d v->RD K H' d v
 | .non,_,_,h=>by simp only [RD] at h ⊢;exact h
 | .bl _,_,_,h=>by simp only [RD] at h ⊢;exact h
 | .int _,_,_,h=>by simp only [RD] at h ⊢;exact h
 | .str _,_,_,h=>by simp only [RD] at h ⊢;exact h
 | .tup ds,_,n,h=>by
  simp only [RD] at h ⊢
  obtain ⟨a,xs,e,h1,h2⟩:=h
  exact ⟨a,xs,e,hs _ _ trivial h1,RDs.tk hs (by simpa only [D.noL] using n) h2⟩
 | .lst ds,_,n,h=>by simp [D.noL] at n
 | .dk _ ds,_,n,h=>by simp [D.noL] at n
 | .dt _ ds,_,n,h=>by simp [D.noL] at n
 | .dn _ ds,_,n,h=>by simp [D.noL] at n
 | .exc c,_,n,h=>by
  simp only [RD] at h ⊢
  obtain ⟨a,o,e,h1,h2⟩:=h
  exact ⟨a,o,e,h1,hs _ _ h1.imm h2⟩
 | .scr ns,_,n,h=>by
  simp only [RD] at h ⊢
  obtain ⟨a,e,h1⟩:=h
  refine ⟨a,e,?_⟩
  rcases h1 with ⟨o,h1⟩ | h1
  . exact .inl ⟨o,hs _ _ trivial h1⟩
  . exact .inr h1
theorem RDs.tk (hs:TK H H'):∀{ds:List D} {xs:List V},z3z ds=true->RDs K H ds xs->RDs K H' ds xs
 | [],_,_,h=>by simp only [RDs] at h ⊢;exact h
 | d::ds,_,n,h=>by
  simp only [RDs] at h ⊢
  simp only [z3z,Bool.and_eq_true] at n
  obtain ⟨x,r,e,h1,h2⟩:=h
  exact ⟨x,r,e,RD.tk hs n.1 h1,RDs.tk hs n.2 h2⟩
end
mutual
theorem RD.mono (hs:Same H H'):∀{d:D} {v:V},RD K H d v->RD K H' d v
 | .non,_,h=>by simp only [RD] at h ⊢;exact h
 | .bl _,_,h=>by simp only [RD] at h ⊢;exact h
 | .int _,_,h=>by simp only [RD] at h ⊢;exact h
 | .str _,_,h=>by simp only [RD] at h ⊢;exact h
 | .tup ds,_,h=>by
  simp only [RD] at h ⊢
  obtain ⟨a,xs,e,h1,h2⟩:=h
  exact ⟨a,xs,e,hs _ _ h1,RDs.mono hs h2⟩
 | .lst ds,_,h=>by
  simp only [RD] at h ⊢
  obtain ⟨a,xs,e,h1,h2⟩:=h
  exact ⟨a,xs,e,hs _ _ h1,RDs.mono hs h2⟩
 | .dk _ ds,_,h=>by
  simp only [RD] at h ⊢
  obtain ⟨a,xs,e,h1,hl,h2⟩:=h
  exact ⟨a,xs,e,hs _ _ h1,hl,RDs.mono hs h2⟩
 | .dn _ ds,_,h=>by
  simp only [RD] at h ⊢
  obtain ⟨a,qs,xs,o,e,h1,hk,hd,h2⟩:=h
  exact ⟨a,qs,xs,o,e,hs _ _ h1,hk,hd.tk fun b ys q=>hs _ _ q,RDs.mono hs h2⟩
 | .dt _ ds,_,h=>by
  simp only [RD] at h ⊢
  obtain ⟨a,xs,e,h1,hl,h2⟩:=h
  exact ⟨a,xs,e,hs _ _ h1,hl,RDs.mono hs h2⟩
 | .exc c,_,h=>by
  simp only [RD] at h ⊢
  obtain ⟨a,o,e,h1,h2⟩:=h
  exact ⟨a,o,e,h1,hs _ _ h2⟩
 | .scr ns,_,h=>by
  simp only [RD] at h ⊢
  obtain ⟨a,e,h1⟩:=h
  refine ⟨a,e,?_⟩
  rcases h1 with ⟨o,h1⟩ | h1
  . exact .inl ⟨o,hs _ _ h1⟩
  . exact .inr h1
theorem RDs.mono (hs:Same H H'):∀{ds:List D} {xs:List V},RDs K H ds xs->RDs K H' ds xs
 | [],_,h=>by simp only [RDs] at h ⊢;exact h
 | d::ds,_,h=>by
  simp only [RDs] at h ⊢
  obtain ⟨x,r,e,h1,h2⟩:=h
  exact ⟨x,r,e,RD.mono hs h1,RDs.mono hs h2⟩
end
theorem RDs.length:∀{ds:List D} {xs:List V},RDs K H ds xs->ds.length=xs.length
 | [],_,h=>by simp only [RDs] at h;subst h;rfl
 | d::ds,_,h=>by
  simp only [RDs] at h
  obtain ⟨x,r,rfl,_,h2⟩:=h
  simp [RDs.length h2]
theorem RDs.get:∀{ds:List D} {xs:List V} {i:Nat} {x:V},RDs K H ds xs->xs[i]?=some x->∃d,ds[i]?=some d/\RD K H d x
 | [],_,i,x,h,e=>by simp only [RDs] at h;subst h;simp at e
 | d::ds,_,i,x,h,e=>by
  simp only [RDs] at h
  obtain ⟨y,r,rfl,h1,h2⟩:=h
  cases i with
  | zero=>simp at e;subst e;exact ⟨d,rfl,h1⟩
  | succ i=>simp at e;obtain ⟨d',e1,e2⟩:=RDs.get h2 e;exact ⟨d',by simpa using e1,e2⟩
theorem RDs.get':∀{ds:List D} {xs:List V} {i:Nat} {d:D},RDs K H ds xs->ds[i]?=some d->∃x,xs[i]?=some x/\RD K H d x
 | [],_,i,d,h,e=>by simp at e
 | d'::ds,_,i,d,h,e=>by
  simp only [RDs] at h
  obtain ⟨y,r,rfl,h1,h2⟩:=h
  cases i with
  | zero=>simp at e;subst e;exact ⟨y,rfl,h1⟩
  | succ i=>simp at e;obtain ⟨x',e1,e2⟩:=RDs.get' h2 e;exact ⟨x',by simpa using e1,e2⟩
theorem RDs.append:∀{ds es:List D} {xs ys:List V},RDs K H ds xs->RDs K H es ys->RDs K H (ds++es) (xs++ys)
 | [],_,_,_,h,h'=>by simp only [RDs] at h;subst h;exact h'
 | d::ds,es,_,ys,h,h'=>by
  simp only [RDs] at h
  obtain ⟨x,r,rfl,h1,h2⟩:=h
  simp only [List.cons_append,RDs]
  exact ⟨x,r++ys,rfl,h1,RDs.append h2 h'⟩
theorem RDs.nil:RDs K H [] []:=by simp only [RDs]
theorem RDs.cons {d:D} {x:V} {ds:List D} {xs:List V} (h:RD K H d x) (h':RDs K H ds xs):RDs K H (d::ds) (x::xs):=by simp only [RDs];exact ⟨x,xs,rfl,h,h'⟩
theorem RDs.one {d:D} {x:V} (h:RD K H d x):RDs K H [d] [x]:=.cons h .nil
theorem RDs.take:∀{ds:List D} {xs:List V} (n:Nat),RDs K H ds xs->RDs K H (ds.take n) (xs.take n)
 | _,_,0,_=>by simp [RDs]
 | [],_,n+1,h=>by simp only [RDs] at h;subst h;simp [RDs]
 | d::ds,_,n+1,h=>by
  simp only [RDs] at h
  obtain ⟨x,r,rfl,h1,h2⟩:=h
  simp only [List.take_succ_cons]
  exact .cons h1 (RDs.take n h2)
theorem RDs.drop:∀{ds:List D} {xs:List V} (n:Nat),RDs K H ds xs->RDs K H (ds.drop n) (xs.drop n)
 | _,_,0,h=>h
 | [],_,n+1,h=>by simp only [RDs] at h;subst h;simp [RDs]
 | d::ds,_,n+1,h=>by
  simp only [RDs] at h
  obtain ⟨x,r,rfl,h1,h2⟩:=h
  exact RDs.drop n h2
theorem RDs.set:∀{ds:List D} {xs:List V} (n:Nat) {d:D} {x:V},RDs K H ds xs->RD K H d x->RDs K H (ds.set n d) (xs.set n x)
 | [],_,n,_,_,h,_=>by simp only [RDs] at h;subst h;simp [RDs]
 | d::ds,_,0,_,_,h,h'=>by
  simp only [RDs] at h
  obtain ⟨x,r,rfl,h1,h2⟩:=h
  exact .cons h' h2
 | d::ds,_,n+1,_,_,h,h'=>by
  simp only [RDs] at h
  obtain ⟨x,r,rfl,h1,h2⟩:=h
  exact .cons h1 (RDs.set n h2 h')
theorem RDs.ofInts:∀(ns:List Int),RDs K H (ns.map D.int) (ns.map V.int)
 | []=>by simp only [List.map,RDs]
 | n::ns=>by
  simp only [List.map]
  exact RDs.cons (by simp only [RD]) (RDs.ofInts ns)
end
mutual
noncomputable def eqD:D->D->Bool
 | .non,.non=>true
 | .bl a,.bl b=>a==b
 | .bl a,.int j=>(if a then 1 else 0)==j
 | .int i,.bl b=>i==(if b then 1 else 0)
 | .int i,.int j=>i==j
 | .str a,.str b=>a==b
 | .tup ds,.tup es=>z51 ds es
 | .lst ds,.lst es=>z51 ds es
 | _,_=>false
noncomputable def z51:List D->List D->Bool
 | [],[]=>true
 | d::ds,e::es=>eqD d e&&z51 ds es
 | _,_=>false
end
mutual
noncomputable def D.dep:D->Nat
 | .tup ds=>z7j ds+1
 | .lst ds=>z7j ds+1
 | _=>0
noncomputable def z7j:List D->Nat
 | []=>0
 | d::ds=>max d.dep (z7j ds)
end
mutual
theorem z52:∀d:D,d.pl=true->eqD d d=true
 | .non,_=>rfl
 | .bl b,_=>by simp [eqD]
 | .int b,_=>by simp [eqD]
 | .str b,_=>by simp [eqD]
 | .tup ds,h=>by simp only [eqD];exact z6p ds (by simpa only [D.pl] using h)
 | .lst ds,h=>by simp only [eqD];exact z6p ds (by simpa only [D.pl] using h)
 | .dk _ _,h=>by simp [D.pl] at h
 | .dt _ _,h=>by simp [D.pl] at h
 | .dn _ _,h=>by simp [D.pl] at h
 | .scr _,h=>by simp [D.pl] at h
 | .exc _,h=>by simp [D.pl] at h
theorem z6p:∀ds:List D,pls ds=true->z51 ds ds=true
 | [],_=>rfl
 | d::ds,h=>by
  simp only [pls,Bool.and_eq_true] at h
  simp only [z51,z52 d h.1,z6p ds h.2,Bool.and_self]
end
mutual
theorem RD.inj {K:Frag} {H:Hp}:∀{d e:D} {v:V},d.pl=true->e.pl=true->RD K H d v->RD K H e v->d=e
 | .non,e,v,_,p,h,h'=>by
  simp only [RD] at h;subst h
  cases e<;>simp only [RD] at h'<;>first | (exfalso;simp [D.pl] at p;done) | rfl | (cases h';done) | (obtain ⟨a,xs,z,_⟩:=h';cases z)
 | .bl b,e,v,_,p,h,h'=>by
  simp only [RD] at h;subst h
  cases e<;>simp only [RD] at h'<;>first | (exfalso;simp [D.pl] at p;done) | (cases h';rfl) | (cases h';done) | (obtain ⟨a,xs,z,_⟩:=h';cases z)
 | .int b,e,v,_,p,h,h'=>by
  simp only [RD] at h;subst h
  cases e<;>simp only [RD] at h'<;>first | (exfalso;simp [D.pl] at p;done) | (cases h';rfl) | (cases h';done) | (obtain ⟨a,xs,z,_⟩:=h';cases z)
 | .str b,e,v,_,p,h,h'=>by
  simp only [RD] at h;subst h
  cases e<;>simp only [RD] at h'<;>first | (exfalso;simp [D.pl] at p;done) | (cases h';rfl) | (cases h';done) | (obtain ⟨a,xs,z,_⟩:=h';cases z)
 | .dk _ _,e,v,p,_,h,h'=>by simp [D.pl] at p
 | .dt _ _,e,v,p,_,h,h'=>by simp [D.pl] at p
 | .dn _ _,e,v,p,_,h,h'=>by simp [D.pl] at p
 | .scr _,e,v,p,_,h,h'=>by simp [D.pl] at p
 | .exc _,e,v,p,_,h,h'=>by simp [D.pl] at p
 | .tup ds,e,v,p,p',h,h'=>by
  simp only [RD] at h
  obtain ⟨a,xs,rfl,h1,h2⟩:=h
  cases e<;>simp only [RD] at h'
  case tup es=>
   obtain ⟨b,ys,z,h3,h4⟩:=h'
   cases z
   rw [h1] at h3;cases h3
   rw [RDs.inj (by simpa only [D.pl] using p) (by simpa only [D.pl] using p') h2 h4]
  case lst es=>
   obtain ⟨b,ys,z,h3,h4⟩:=h'
   cases z
   rw [h1] at h3;cases h3
  all_goals first | (exfalso;simp [D.pl] at p';done) | cases h'
 | .lst ds,e,v,p,p',h,h'=>by
  simp only [RD] at h
  obtain ⟨a,xs,rfl,h1,h2⟩:=h
  cases e<;>simp only [RD] at h'
  case tup es=>
   obtain ⟨b,ys,z,h3,h4⟩:=h'
   cases z
   rw [h1] at h3;cases h3
  case lst es=>
   obtain ⟨b,ys,z,h3,h4⟩:=h'
   cases z
   rw [h1] at h3;cases h3
   rw [RDs.inj (by simpa only [D.pl] using p) (by simpa only [D.pl] using p') h2 h4]
  all_goals first | (exfalso;simp [D.pl] at p';done) | cases h'
theorem RDs.inj {K:Frag} {H:Hp}:∀{ds es:List D} {xs:List V},pls ds=true->pls es=true->RDs K H ds xs->RDs K H es xs->ds=es
 | [],es,xs,_,_,h,h'=>by
  simp only [RDs] at h;subst h
  cases es<;>simp only [RDs] at h'
  . rfl
  . obtain ⟨x,r,z,_⟩:=h';cases z
 | d::ds,es,xs,p,p',h,h'=>by
  simp only [RDs] at h
  obtain ⟨x,r,rfl,h1,h2⟩:=h
  simp only [pls,Bool.and_eq_true] at p
  cases es with
  | nil=>simp only [RDs] at h';cases h'
  | cons e es=>
   simp only [RDs] at h'
   obtain ⟨y,r',z,h3,h4⟩:=h'
   cases z
   simp only [pls,Bool.and_eq_true] at p'
   rw [RD.inj p.1 p'.1 h1 h3,RDs.inj p.2 p'.2 h2 h4]
end
theorem z6q:∀{ds:List D} {d:D},pls ds=true->d∈ds->d.pl=true
 | e::ds,d,h,m=>by
  simp only [pls,Bool.and_eq_true] at h
  rcases List.mem_cons.mp m with rfl | m
  . exact h.1
  . exact z6q h.2 m
theorem z6a:∀{ds:List D} {d:D},d∈ds->d.dep<=z7j ds
 | d'::ds,d,h=>by
  simp only [z7j]
  rcases List.mem_cons.mp h with rfl | h
  . omega
  . have:=z6a h;omega
theorem z53:∀{ds es:List D},ds.length=es.length->z51 ds es=(List.range ds.length).all fun j=>eqD (ds.getD j .non) (es.getD j .non)
 | [],[],_=>rfl
 | [],_::_,h=>by simp at h
 | _::_,[],h=>by simp at h
 | d::ds,e::es,h=>by
  simp only [z51,List.length_cons]
  rw [z53 (by simpa using h),List.range_succ_eq_map,List.all_cons,List.all_map]
  rfl
theorem z4d:∀{ds es:List D},ds.length≠es.length->z51 ds es=false
 | [],[],h=>absurd rfl h
 | [],_::_,_=>rfl
 | _::_,[],_=>rfl
 | d::ds,e::es,h=>by
  simp only [z51]
  rw [z4d (by intro z;exact h (by simp [z])),Bool.and_false]
section
variable {X:Cx} {pins:List (Addr×Obj)} {U:St} {H:Hp} {s:Shared}
theorem Inv.tupA (I:Inv X pins U H s) {a:Addr} {xs:List V} (h:H a=some (.tup xs)):∃its:List Value,Vals xs its/\s.heap.IsTuple a its.toArray:=by
 obtain ⟨its,r,t,_⟩:=I.tuple (.of h)
 exact ⟨its,r,t⟩
theorem Inv.lstA (I:Inv X pins U H s) {a:Addr} {xs:List V} (h:H a=some (.lst xs)):∃its:List Value,Vals xs its/\s.heap.IsList a its.toArray:=by
 obtain ⟨its,r,t,_⟩:=I.list (.of h)
 exact ⟨its,r,t.isList⟩
theorem zg0 (I:Inv X pins U H s):∀(n:Nat) {A:Around} {d e:D} {x y:V} {u v:Value},d.pl=true->e.pl=true->d.dep<=n->A.units+n<cLine->RD X.K H d x->RD X.K H e y->RelV x u->RelV y v->SeqAt.EqAt A s u v (eqD d e):=by
 intro n
 induction n with
 | zero=>
  intro A d e x y u v hpd hpe hn hu hx hy ru rv
  have hu':A.units<cLine:=by omega
  cases d with
  | dk _ _=>simp [D.pl] at hpd
  | dt _ _=>simp [D.pl] at hpd
  | dn _ _=>simp [D.pl] at hpd
  | scr _=>simp [D.pl] at hpd
  | exc _=>simp [D.pl] at hpd
  | tup ds=>simp only [D.dep] at hn;omega
  | lst ds=>simp only [D.dep] at hn;omega
  | non=>
   simp only [RD] at hx;subst hx;cases ru
   cases e with
   | dk _ _=>simp [D.pl] at hpe
   | dt _ _=>simp [D.pl] at hpe
   | dn _ _=>simp [D.pl] at hpe
   | scr _=>simp [D.pl] at hpe
   | exc _=>simp [D.pl] at hpe
   | non=>simp only [RD] at hy;subst hy;cases rv;exact .same _
   | bl b=>simp only [RD] at hy;subst hy;cases rv;exact .none_bool _
   | int b=>simp only [RD] at hy;subst hy;obtain ⟨t,rfl⟩:=rv;exact .none_int _ _
   | str b=>simp only [RD] at hy;subst hy;obtain ⟨t,rfl⟩:=rv;exact .none_str _ _
   | tup es=>simp only [RD] at hy;obtain ⟨a,ys,rfl,h1,_⟩:=hy;cases rv;obtain ⟨its,_,t⟩:=I.tupA h1;exact .none_tuple t hu'
   | lst es=>simp only [RD] at hy;obtain ⟨a,ys,rfl,h1,_⟩:=hy;cases rv;obtain ⟨its,_,t⟩:=I.lstA h1;exact .none_list t hu'
  | bl c=>
   simp only [RD] at hx;subst hx;cases ru
   cases e with
   | dk _ _=>simp [D.pl] at hpe
   | dt _ _=>simp [D.pl] at hpe
   | dn _ _=>simp [D.pl] at hpe
   | scr _=>simp [D.pl] at hpe
   | exc _=>simp [D.pl] at hpe
   | non=>simp only [RD] at hy;subst hy;cases rv;exact .bool_none _
   | bl b=>simp only [RD] at hy;subst hy;cases rv;exact .bool_bool _ _
   | int b=>simp only [RD] at hy;subst hy;obtain ⟨t,rfl⟩:=rv;exact .bool_int _ _ _
   | str b=>simp only [RD] at hy;subst hy;obtain ⟨t,rfl⟩:=rv;exact .bool_str _ _ _
   | tup es=>simp only [RD] at hy;obtain ⟨a,ys,rfl,h1,_⟩:=hy;cases rv;obtain ⟨its,_,t⟩:=I.tupA h1;exact .bool_tuple _ t hu'
   | lst es=>simp only [RD] at hy;obtain ⟨a,ys,rfl,h1,_⟩:=hy;cases rv;obtain ⟨its,_,t⟩:=I.lstA h1;exact .bool_list _ t hu'
  | int c=>
   simp only [RD] at hx;subst hx;obtain ⟨tt,rfl⟩:=ru
   cases e with
   | dk _ _=>simp [D.pl] at hpe
   | dt _ _=>simp [D.pl] at hpe
   | dn _ _=>simp [D.pl] at hpe
   | scr _=>simp [D.pl] at hpe
   | exc _=>simp [D.pl] at hpe
   | non=>simp only [RD] at hy;subst hy;cases rv;exact .int_none _ _
   | bl b=>simp only [RD] at hy;subst hy;cases rv;exact .int_bool _ _ _
   | int b=>simp only [RD] at hy;subst hy;obtain ⟨t,rfl⟩:=rv;exact .int_int _ _ _ _
   | str b=>simp only [RD] at hy;subst hy;obtain ⟨t,rfl⟩:=rv;exact .int_str _ _ _ _
   | tup es=>simp only [RD] at hy;obtain ⟨a,ys,rfl,h1,_⟩:=hy;cases rv;obtain ⟨its,_,t⟩:=I.tupA h1;exact .int_tuple _ _ t hu'
   | lst es=>simp only [RD] at hy;obtain ⟨a,ys,rfl,h1,_⟩:=hy;cases rv;obtain ⟨its,_,t⟩:=I.lstA h1;exact .int_list _ _ t hu'
  | str c=>
   simp only [RD] at hx;subst hx;obtain ⟨tt,rfl⟩:=ru
   cases e with
   | dk _ _=>simp [D.pl] at hpe
   | dt _ _=>simp [D.pl] at hpe
   | dn _ _=>simp [D.pl] at hpe
   | scr _=>simp [D.pl] at hpe
   | exc _=>simp [D.pl] at hpe
   | non=>simp only [RD] at hy;subst hy;cases rv;exact .str_none _ _
   | bl b=>simp only [RD] at hy;subst hy;cases rv;exact .str_bool _ _ _
   | int b=>simp only [RD] at hy;subst hy;obtain ⟨t,rfl⟩:=rv;exact .str_int _ _ _ _
   | str b=>simp only [RD] at hy;subst hy;obtain ⟨t,rfl⟩:=rv;exact .str_str _ _ _ _
   | tup es=>simp only [RD] at hy;obtain ⟨a,ys,rfl,h1,_⟩:=hy;cases rv;obtain ⟨its,_,t⟩:=I.tupA h1;exact .str_tuple _ _ t hu'
   | lst es=>simp only [RD] at hy;obtain ⟨a,ys,rfl,h1,_⟩:=hy;cases rv;obtain ⟨its,_,t⟩:=I.lstA h1;exact .str_list _ _ t hu'
 | succ n ih=>
  intro A d e x y u v hpd hpe hn hu hx hy ru rv
  have hu':A.units<cLine:=by omega
  by_cases hd0:d.dep<=n
  . exact ih hpd hpe hd0 (by omega) hx hy ru rv
  have inner:∀{ds es:List D} {xs ys:List V} {its its2:List Value},pls ds=true->pls es=true->z7j ds<=n->RDs X.K H ds xs->RDs X.K H es ys->Vals xs its->Vals ys its2->∀j (h1:j<its.toArray.size) (h2:j<its2.toArray.size),
    SeqAt.EqAt A.in1 s its.toArray[j] its2.toArray[j] (eqD (ds.getD j .non) (es.getD j .non)):=fun {ds es xs ys its its2} pd pe hdn hxs hys r r2 j h1 h2=>by
   have h1':j<its.length:=by simpa using h1
   have h2':j<its2.length:=by simpa using h2
   have l1:=r.length
   have l2:=r2.length
   obtain ⟨u1,e1,q1⟩:=r.get (i:=j) (x:=xs[j]'(by omega)) (by simp)
   obtain ⟨u2,e2,q2⟩:=r2.get (i:=j) (x:=ys[j]'(by omega)) (by simp)
   obtain ⟨d1,g1,w1⟩:=hxs.get (i:=j) (x:=xs[j]'(by omega)) (by simp)
   obtain ⟨d2,g2,w2⟩:=hys.get (i:=j) (x:=ys[j]'(by omega)) (by simp)
   have ea:its.toArray[j]=u1:=by
    rw [List.getElem?_eq_getElem h1'] at e1;simpa using e1
   have eb:its2.toArray[j]=u2:=by
    rw [List.getElem?_eq_getElem h2'] at e2;simpa using e2
   rw [ea,eb]
   have ga:ds.getD j .non=d1:=by rw [List.getD_eq_getElem?_getD,g1];rfl
   have gb:es.getD j .non=d2:=by rw [List.getD_eq_getElem?_getD,g2];rfl
   rw [ga,gb]
   have hdj:d1.dep<=n:=Nat.le_trans (z6a (List.mem_of_getElem? g1)) hdn
   exact ih (z6q pd (List.mem_of_getElem? g1)) (z6q pe (List.mem_of_getElem? g2)) hdj (by show A.units+1+n<cLine;omega) w1 w2 q1 q2
  cases d with
  | dk _ _=>simp [D.pl] at hpd
  | dt _ _=>simp [D.pl] at hpd
  | dn _ _=>simp [D.pl] at hpd
  | scr _=>simp [D.pl] at hpd
  | exc _=>simp [D.pl] at hpd
  | non=>simp only [D.dep] at hd0;omega
  | bl _=>simp only [D.dep] at hd0;omega
  | int _=>simp only [D.dep] at hd0;omega
  | str _=>simp only [D.dep] at hd0;omega
  | tup ds=>
   simp only [RD] at hx;obtain ⟨a,xs,rfl,h1,hxs⟩:=hx;cases ru
   obtain ⟨its,r,t⟩:=I.tupA h1
   cases e with
   | dk _ _=>simp [D.pl] at hpe
   | dt _ _=>simp [D.pl] at hpe
   | dn _ _=>simp [D.pl] at hpe
   | scr _=>simp [D.pl] at hpe
   | exc _=>simp [D.pl] at hpe
   | non=>simp only [RD] at hy;subst hy;cases rv;exact .tuple_none t hu'
   | bl b=>simp only [RD] at hy;subst hy;cases rv;exact .tuple_bool _ t hu'
   | int b=>simp only [RD] at hy;subst hy;obtain ⟨tk,rfl⟩:=rv;exact .tuple_int _ _ t hu'
   | str b=>simp only [RD] at hy;subst hy;obtain ⟨tk,rfl⟩:=rv;exact .tuple_str _ _ t hu'
   | tup es=>
    simp only [RD] at hy;obtain ⟨b,ys,rfl,h2,hys⟩:=hy;cases rv
    obtain ⟨its2,r2,t2⟩:=I.tupA h2
    by_cases hab:a=b
    . subst hab
      rw [h1] at h2;cases h2
      rw [RDs.inj (by simpa only [D.pl] using hpd) (by simpa only [D.pl] using hpe) hxs hys,z52 _ (by simpa only [D.pl] using hpe)]
      exact .same _
    . have lx:=hxs.length;have ly:=hys.length;have l1:=r.length;have l2:=r2.length
      have q:=SeqAt.RcAt.tuples t t2 hu' (e:=fun j=>eqD (ds.getD j .non) (es.getD j .non)) (inner (by simpa only [D.pl] using hpd) (by simpa only [D.pl] using hpe) (by simp only [D.dep] at hn;omega) hxs hys r r2)
      have eb:((List.range (min its.toArray.size its2.toArray.size)).all (fun j=>eqD (ds.getD j .non) (es.getD j .non))&&its.toArray.size==its2.toArray.size)=eqD (.tup ds) (.tup es):=by
       simp only [eqD,List.size_toArray]
       by_cases hl:ds.length=es.length
       . rw [z53 hl]
         have:its.length=its2.length:=by omega
         rw [this,Nat.min_self,show its2.length=ds.length by omega]
         simp
       . rw [z4d hl]
         have:(its.length==its2.length)=false:=by simp;omega
         rw [this,Bool.and_false]
      rw [eb] at q
      exact .of_refs hab q
   | lst es=>
    simp only [RD] at hy;obtain ⟨b,ys,rfl,h2,hys⟩:=hy;cases rv
    obtain ⟨its2,r2,t2⟩:=I.lstA h2
    exact .tuple_list t t2 hu'
  | lst ds=>
   simp only [RD] at hx;obtain ⟨a,xs,rfl,h1,hxs⟩:=hx;cases ru
   obtain ⟨its,r,t⟩:=I.lstA h1
   cases e with
   | dk _ _=>simp [D.pl] at hpe
   | dt _ _=>simp [D.pl] at hpe
   | dn _ _=>simp [D.pl] at hpe
   | scr _=>simp [D.pl] at hpe
   | exc _=>simp [D.pl] at hpe
   | non=>simp only [RD] at hy;subst hy;cases rv;exact .list_none t hu'
   | bl b=>simp only [RD] at hy;subst hy;cases rv;exact .list_bool _ t hu'
   | int b=>simp only [RD] at hy;subst hy;obtain ⟨tk,rfl⟩:=rv;exact .list_int _ _ t hu'
   | str b=>simp only [RD] at hy;subst hy;obtain ⟨tk,rfl⟩:=rv;exact .list_str _ _ t hu'
   | tup es=>
    simp only [RD] at hy;obtain ⟨b,ys,rfl,h2,hys⟩:=hy;cases rv
    obtain ⟨its2,r2,t2⟩:=I.tupA h2
    exact .list_tuple t t2 hu'
   | lst es=>
    simp only [RD] at hy;obtain ⟨b,ys,rfl,h2,hys⟩:=hy;cases rv
    obtain ⟨its2,r2,t2⟩:=I.lstA h2
    by_cases hab:a=b
    . subst hab
      rw [h1] at h2;cases h2
      rw [RDs.inj (by simpa only [D.pl] using hpd) (by simpa only [D.pl] using hpe) hxs hys,z52 _ (by simpa only [D.pl] using hpe)]
      exact .same _
    . have lx:=hxs.length;have ly:=hys.length;have l1:=r.length;have l2:=r2.length
      by_cases hl:ds.length=es.length
      . have hsz:its.toArray.size=its2.toArray.size:=by simp;omega
        have q:=SeqAt.RcAt.lists t t2 hsz hu' (e:=fun j=>eqD (ds.getD j .non) (es.getD j .non)) (inner (by simpa only [D.pl] using hpd) (by simpa only [D.pl] using hpe) (by simp only [D.dep] at hn;omega) hxs hys r r2)
        have eb:((List.range its.toArray.size).all fun j=>eqD (ds.getD j .non) (es.getD j .non))=eqD (.lst ds) (.lst es):=by
         simp only [eqD,List.size_toArray]
         rw [z53 hl,show its.length=ds.length by omega]
        rw [eb] at q
        exact .of_refs hab q
      . have q:=SeqAt.RcAt.lists_lengths t t2 (by simp;omega) hu'
        have:eqD (.lst ds) (.lst es)=false:=by simp only [eqD];exact z4d hl
        rw [this]
        exact .of_refs hab q
end
section
variable {X:Cx} {pins:List (Addr×Obj)} {U:St} {H:Hp} {s:Shared}
theorem z8t (I:Inv X pins U H s) {n:Nat} {A:Around} (hu:A.units+1+n<cLine) {ds es:List D} {xs ys:List V} {its its2:List Value} (pd:pls ds=true) (pe:pls es=true) (hdn:z7j ds<=n) (hxs:RDs X.K H ds xs) (hys:RDs X.K H es ys) (r:Vals xs its) (r2:Vals ys its2) (j:Nat)
  (h1:j<its.toArray.size) (h2:j<its2.toArray.size):SeqAt.EqAt A.in1 s its.toArray[j] its2.toArray[j] (eqD (ds.getD j .non) (es.getD j .non)):=by
 have h1':j<its.length:=by simpa using h1
 have h2':j<its2.length:=by simpa using h2
 have l1:=r.length
 have l2:=r2.length
 obtain ⟨u1,e1,q1⟩:=r.get (i:=j) (x:=xs[j]'(by omega)) (by simp)
 obtain ⟨u2,e2,q2⟩:=r2.get (i:=j) (x:=ys[j]'(by omega)) (by simp)
 obtain ⟨d1,g1,w1⟩:=hxs.get (i:=j) (x:=xs[j]'(by omega)) (by simp)
 obtain ⟨d2,g2,w2⟩:=hys.get (i:=j) (x:=ys[j]'(by omega)) (by simp)
 have ea:its.toArray[j]=u1:=by
  rw [List.getElem?_eq_getElem h1'] at e1;simpa using e1
 have eb:its2.toArray[j]=u2:=by
  rw [List.getElem?_eq_getElem h2'] at e2;simpa using e2
 rw [ea,eb]
 have ga:ds.getD j .non=d1:=by rw [List.getD_eq_getElem?_getD,g1];rfl
 have gb:es.getD j .non=d2:=by rw [List.getD_eq_getElem?_getD,g2];rfl
 rw [ga,gb]
 exact zg0 I n (z6q pd (List.mem_of_getElem? g1)) (z6q pe (List.mem_of_getElem? g2)) (Nat.le_trans (z6a (List.mem_of_getElem? g1)) hdn) (by show A.units+1+n<cLine;omega) w1 w2 q1 q2
theorem zg1 {ds es:List D} {xs ys:List V} {its its2:List Value} (hxs:RDs X.K H ds xs) (hys:RDs X.K H es ys) (r:Vals xs its) (r2:Vals ys its2) :
  ((List.range (min its.toArray.size its2.toArray.size)).all (fun j=>eqD (ds.getD j .non) (es.getD j .non))&&its.toArray.size==its2.toArray.size)=z51 ds es:=by
 have lx:=hxs.length;have ly:=hys.length;have l1:=r.length;have l2:=r2.length
 simp only [List.size_toArray]
 by_cases hl:ds.length=es.length
 . rw [z53 hl]
   have:its.length=its2.length:=by omega
   rw [this,Nat.min_self,show its2.length=ds.length by omega]
   simp
 . rw [z4d hl]
   have:(its.length==its2.length)=false:=by simp;omega
   rw [this,Bool.and_false]
theorem zg2 {ds es:List D} {xs ys:List V} {its its2:List Value} (hxs:RDs X.K H ds xs) (hys:RDs X.K H es ys) (r:Vals xs its) (r2:Vals ys its2) (hl:ds.length=es.length) :
  ((List.range its.toArray.size).all fun j=>eqD (ds.getD j .non) (es.getD j .non))=z51 ds es:=by
 have lx:=hxs.length;have ly:=hys.length;have l1:=r.length;have l2:=r2.length
 rw [z53 hl,List.size_toArray,show its.length=ds.length by omega]
theorem zqa (I:Inv X pins U H s) {n:Nat} {A:Around} {d e:D} {x y:V} {u v:Value} (hpd:d.pl=true) (hpe:e.pl=true) (hn:d.dep<=n) (hu:A.units+1+n<cLine) (hx:RD X.K H d x) (hy:RD X.K H e y) (ru:RelV x u) (rv:RelV y v):SeqAt.RcAt A s u v (eqD d e):=by
 have hu':A.units<cLine:=by omega
 cases d with
 | dk _ _=>simp [D.pl] at hpd
 | dt _ _=>simp [D.pl] at hpd
 | dn _ _=>simp [D.pl] at hpd
 | scr _=>simp [D.pl] at hpd
 | exc _=>simp [D.pl] at hpd
 | non=>
  simp only [RD] at hx;subst hx;cases ru
  cases e with
  | dk _ _=>simp [D.pl] at hpe
  | dt _ _=>simp [D.pl] at hpe
  | dn _ _=>simp [D.pl] at hpe
  | scr _=>simp [D.pl] at hpe
  | exc _=>simp [D.pl] at hpe
  | non=>simp only [RD] at hy;subst hy;cases rv;exact .none_none
  | bl b=>simp only [RD] at hy;subst hy;cases rv;exact .none_bool _
  | int b=>simp only [RD] at hy;subst hy;obtain ⟨t,rfl⟩:=rv;exact .none_int _ _
  | str b=>simp only [RD] at hy;subst hy;obtain ⟨t,rfl⟩:=rv;exact .none_str _ _
  | tup es=>simp only [RD] at hy;obtain ⟨a,ys,rfl,h1,_⟩:=hy;cases rv;obtain ⟨its,_,t⟩:=I.tupA h1;exact .none_tuple t hu'
  | lst es=>simp only [RD] at hy;obtain ⟨a,ys,rfl,h1,_⟩:=hy;cases rv;obtain ⟨its,_,t⟩:=I.lstA h1;exact .none_list t hu'
 | bl c=>
  simp only [RD] at hx;subst hx;cases ru
  cases e with
  | dk _ _=>simp [D.pl] at hpe
  | dt _ _=>simp [D.pl] at hpe
  | dn _ _=>simp [D.pl] at hpe
  | scr _=>simp [D.pl] at hpe
  | exc _=>simp [D.pl] at hpe
  | non=>simp only [RD] at hy;subst hy;cases rv;exact .bool_none _
  | bl b=>simp only [RD] at hy;subst hy;cases rv;exact .bool_bool _ _
  | int b=>simp only [RD] at hy;subst hy;obtain ⟨t,rfl⟩:=rv;exact .bool_int _ _ _
  | str b=>simp only [RD] at hy;subst hy;obtain ⟨t,rfl⟩:=rv;exact .bool_str _ _ _
  | tup es=>simp only [RD] at hy;obtain ⟨a,ys,rfl,h1,_⟩:=hy;cases rv;obtain ⟨its,_,t⟩:=I.tupA h1;exact .bool_tuple _ t hu'
  | lst es=>simp only [RD] at hy;obtain ⟨a,ys,rfl,h1,_⟩:=hy;cases rv;obtain ⟨its,_,t⟩:=I.lstA h1;exact .bool_list _ t hu'
 | int c=>
  simp only [RD] at hx;subst hx;obtain ⟨tt,rfl⟩:=ru
  cases e with
  | dk _ _=>simp [D.pl] at hpe
  | dt _ _=>simp [D.pl] at hpe
  | dn _ _=>simp [D.pl] at hpe
  | scr _=>simp [D.pl] at hpe
  | exc _=>simp [D.pl] at hpe
  | non=>simp only [RD] at hy;subst hy;cases rv;exact .int_none _ _
  | bl b=>simp only [RD] at hy;subst hy;cases rv;exact .int_bool _ _ _
  | int b=>simp only [RD] at hy;subst hy;obtain ⟨t,rfl⟩:=rv;exact .int_int _ _ _ _
  | str b=>simp only [RD] at hy;subst hy;obtain ⟨t,rfl⟩:=rv;exact .int_str _ _ _ _
  | tup es=>simp only [RD] at hy;obtain ⟨a,ys,rfl,h1,_⟩:=hy;cases rv;obtain ⟨its,_,t⟩:=I.tupA h1;exact .int_tuple _ _ t hu'
  | lst es=>simp only [RD] at hy;obtain ⟨a,ys,rfl,h1,_⟩:=hy;cases rv;obtain ⟨its,_,t⟩:=I.lstA h1;exact .int_list _ _ t hu'
 | str c=>
  simp only [RD] at hx;subst hx;obtain ⟨tt,rfl⟩:=ru
  cases e with
  | dk _ _=>simp [D.pl] at hpe
  | dt _ _=>simp [D.pl] at hpe
  | dn _ _=>simp [D.pl] at hpe
  | scr _=>simp [D.pl] at hpe
  | exc _=>simp [D.pl] at hpe
  | non=>simp only [RD] at hy;subst hy;cases rv;exact .str_none _ _
  | bl b=>simp only [RD] at hy;subst hy;cases rv;exact .str_bool _ _ _
  | int b=>simp only [RD] at hy;subst hy;obtain ⟨t,rfl⟩:=rv;exact .str_int _ _ _ _
  | str b=>simp only [RD] at hy;subst hy;obtain ⟨t,rfl⟩:=rv;exact .str_str _ _ _ _
  | tup es=>simp only [RD] at hy;obtain ⟨a,ys,rfl,h1,_⟩:=hy;cases rv;obtain ⟨its,_,t⟩:=I.tupA h1;exact .str_tuple _ _ t hu'
  | lst es=>simp only [RD] at hy;obtain ⟨a,ys,rfl,h1,_⟩:=hy;cases rv;obtain ⟨its,_,t⟩:=I.lstA h1;exact .str_list _ _ t hu'
 | tup ds=>
  simp only [RD] at hx;obtain ⟨a,xs,rfl,h1,hxs⟩:=hx;cases ru
  obtain ⟨its,r,t⟩:=I.tupA h1
  cases e with
  | dk _ _=>simp [D.pl] at hpe
  | dt _ _=>simp [D.pl] at hpe
  | dn _ _=>simp [D.pl] at hpe
  | scr _=>simp [D.pl] at hpe
  | exc _=>simp [D.pl] at hpe
  | non=>simp only [RD] at hy;subst hy;cases rv;exact .tuple_none t hu'
  | bl b=>simp only [RD] at hy;subst hy;cases rv;exact .tuple_bool _ t hu'
  | int b=>simp only [RD] at hy;subst hy;obtain ⟨tk,rfl⟩:=rv;exact .tuple_int _ _ t hu'
  | str b=>simp only [RD] at hy;subst hy;obtain ⟨tk,rfl⟩:=rv;exact .tuple_str _ _ t hu'
  | tup es=>
   simp only [RD] at hy;obtain ⟨b,ys,rfl,h2,hys⟩:=hy;cases rv
   obtain ⟨its2,r2,t2⟩:=I.tupA h2
   have q:=SeqAt.RcAt.tuples t t2 hu' (e:=fun j=>eqD (ds.getD j .non) (es.getD j .non)) (z8t I hu (by simpa only [D.pl] using hpd) (by simpa only [D.pl] using hpe) (by simp only [D.dep] at hn;omega) hxs hys r r2)
   rw [zg1 hxs hys r r2] at q
   exact q
  | lst es=>
   simp only [RD] at hy;obtain ⟨b,ys,rfl,h2,hys⟩:=hy;cases rv
   obtain ⟨its2,r2,t2⟩:=I.lstA h2
   exact .tuple_list t t2 hu'
 | lst ds=>
  simp only [RD] at hx;obtain ⟨a,xs,rfl,h1,hxs⟩:=hx;cases ru
  obtain ⟨its,r,t⟩:=I.lstA h1
  cases e with
  | dk _ _=>simp [D.pl] at hpe
  | dt _ _=>simp [D.pl] at hpe
  | dn _ _=>simp [D.pl] at hpe
  | scr _=>simp [D.pl] at hpe
  | exc _=>simp [D.pl] at hpe
  | non=>simp only [RD] at hy;subst hy;cases rv;exact .list_none t hu'
  | bl b=>simp only [RD] at hy;subst hy;cases rv;exact .list_bool _ t hu'
  | int b=>simp only [RD] at hy;subst hy;obtain ⟨tk,rfl⟩:=rv;exact .list_int _ _ t hu'
  | str b=>simp only [RD] at hy;subst hy;obtain ⟨tk,rfl⟩:=rv;exact .list_str _ _ t hu'
  | tup es=>
   simp only [RD] at hy;obtain ⟨b,ys,rfl,h2,hys⟩:=hy;cases rv
   obtain ⟨its2,r2,t2⟩:=I.tupA h2
   exact .list_tuple t t2 hu'
  | lst es=>
   simp only [RD] at hy;obtain ⟨b,ys,rfl,h2,hys⟩:=hy;cases rv
   obtain ⟨its2,r2,t2⟩:=I.lstA h2
   have lx:=hxs.length;have ly:=hys.length;have l1:=r.length;have l2:=r2.length
   by_cases hl:ds.length=es.length
   . have hsz:its.toArray.size=its2.toArray.size:=by simp;omega
     have q:=SeqAt.RcAt.lists t t2 hsz hu' (e:=fun j=>eqD (ds.getD j .non) (es.getD j .non)) (z8t I hu (by simpa only [D.pl] using hpd) (by simpa only [D.pl] using hpe) (by simp only [D.dep] at hn;omega) hxs hys r r2)
     rw [zg2 hxs hys r r2 hl] at q
     exact q
   . have q:=SeqAt.RcAt.lists_lengths t t2 (by simp;omega) hu'
     have:eqD (.lst ds) (.lst es)=false:=by simp only [eqD];exact z4d hl
     rw [this]
     exact q
theorem zqb (I:Inv X pins U H s) {n:Nat} {A:Around} {d e:D} {x y:V} {u v:Value} (hpd:d.pl=true) (hpe:e.pl=true) (hn:d.dep<=n) (hu:A.units+1+n<cLine) (hx:RD X.K H d x) (hy:RD X.K H e y) (ru:RelV x u) (rv:RelV y v):SeqAt.RcNeAt A s u v (!eqD d e):=by
 have hu':A.units<cLine:=by omega
 cases d with
 | dk _ _=>simp [D.pl] at hpd
 | dt _ _=>simp [D.pl] at hpd
 | dn _ _=>simp [D.pl] at hpd
 | scr _=>simp [D.pl] at hpd
 | exc _=>simp [D.pl] at hpd
 | non=>
  simp only [RD] at hx;subst hx;cases ru
  cases e with
  | dk _ _=>simp [D.pl] at hpe
  | dt _ _=>simp [D.pl] at hpe
  | dn _ _=>simp [D.pl] at hpe
  | scr _=>simp [D.pl] at hpe
  | exc _=>simp [D.pl] at hpe
  | non=>simp only [RD] at hy;subst hy;cases rv;exact .none_none
  | bl b=>simp only [RD] at hy;subst hy;cases rv;exact .none_bool _
  | int b=>simp only [RD] at hy;subst hy;obtain ⟨t,rfl⟩:=rv;exact .none_int _ _
  | str b=>simp only [RD] at hy;subst hy;obtain ⟨t,rfl⟩:=rv;exact .none_str _ _
  | tup es=>simp only [RD] at hy;obtain ⟨a,ys,rfl,h1,_⟩:=hy;cases rv;obtain ⟨its,_,t⟩:=I.tupA h1;exact .none_tuple t hu'
  | lst es=>simp only [RD] at hy;obtain ⟨a,ys,rfl,h1,_⟩:=hy;cases rv;obtain ⟨its,_,t⟩:=I.lstA h1;exact .none_list t hu'
 | bl c=>
  simp only [RD] at hx;subst hx;cases ru
  cases e with
  | dk _ _=>simp [D.pl] at hpe
  | dt _ _=>simp [D.pl] at hpe
  | dn _ _=>simp [D.pl] at hpe
  | scr _=>simp [D.pl] at hpe
  | exc _=>simp [D.pl] at hpe
  | non=>simp only [RD] at hy;subst hy;cases rv;exact .bool_none _
  | bl b=>simp only [RD] at hy;subst hy;cases rv;exact .bool_bool _ _
  | int b=>simp only [RD] at hy;subst hy;obtain ⟨t,rfl⟩:=rv;exact .bool_int _ _ _
  | str b=>simp only [RD] at hy;subst hy;obtain ⟨t,rfl⟩:=rv;exact .bool_str _ _ _
  | tup es=>simp only [RD] at hy;obtain ⟨a,ys,rfl,h1,_⟩:=hy;cases rv;obtain ⟨its,_,t⟩:=I.tupA h1;exact .bool_tuple _ t hu'
  | lst es=>simp only [RD] at hy;obtain ⟨a,ys,rfl,h1,_⟩:=hy;cases rv;obtain ⟨its,_,t⟩:=I.lstA h1;exact .bool_list _ t hu'
 | int c=>
  simp only [RD] at hx;subst hx;obtain ⟨tt,rfl⟩:=ru
  cases e with
  | dk _ _=>simp [D.pl] at hpe
  | dt _ _=>simp [D.pl] at hpe
  | dn _ _=>simp [D.pl] at hpe
  | scr _=>simp [D.pl] at hpe
  | exc _=>simp [D.pl] at hpe
  | non=>simp only [RD] at hy;subst hy;cases rv;exact .int_none _ _
  | bl b=>simp only [RD] at hy;subst hy;cases rv;exact .int_bool _ _ _
  | int b=>simp only [RD] at hy;subst hy;obtain ⟨t,rfl⟩:=rv;exact .int_int _ _ _ _
  | str b=>simp only [RD] at hy;subst hy;obtain ⟨t,rfl⟩:=rv;exact .int_str _ _ _ _
  | tup es=>simp only [RD] at hy;obtain ⟨a,ys,rfl,h1,_⟩:=hy;cases rv;obtain ⟨its,_,t⟩:=I.tupA h1;exact .int_tuple _ _ t hu'
  | lst es=>simp only [RD] at hy;obtain ⟨a,ys,rfl,h1,_⟩:=hy;cases rv;obtain ⟨its,_,t⟩:=I.lstA h1;exact .int_list _ _ t hu'
 | str c=>
  simp only [RD] at hx;subst hx;obtain ⟨tt,rfl⟩:=ru
  cases e with
  | dk _ _=>simp [D.pl] at hpe
  | dt _ _=>simp [D.pl] at hpe
  | dn _ _=>simp [D.pl] at hpe
  | scr _=>simp [D.pl] at hpe
  | exc _=>simp [D.pl] at hpe
  | non=>simp only [RD] at hy;subst hy;cases rv;exact .str_none _ _
  | bl b=>simp only [RD] at hy;subst hy;cases rv;exact .str_bool _ _ _
  | int b=>simp only [RD] at hy;subst hy;obtain ⟨t,rfl⟩:=rv;exact .str_int _ _ _ _
  | str b=>simp only [RD] at hy;subst hy;obtain ⟨t,rfl⟩:=rv;exact .str_str _ _ _ _
  | tup es=>simp only [RD] at hy;obtain ⟨a,ys,rfl,h1,_⟩:=hy;cases rv;obtain ⟨its,_,t⟩:=I.tupA h1;exact .str_tuple _ _ t hu'
  | lst es=>simp only [RD] at hy;obtain ⟨a,ys,rfl,h1,_⟩:=hy;cases rv;obtain ⟨its,_,t⟩:=I.lstA h1;exact .str_list _ _ t hu'
 | tup ds=>
  simp only [RD] at hx;obtain ⟨a,xs,rfl,h1,hxs⟩:=hx;cases ru
  obtain ⟨its,r,t⟩:=I.tupA h1
  cases e with
  | dk _ _=>simp [D.pl] at hpe
  | dt _ _=>simp [D.pl] at hpe
  | dn _ _=>simp [D.pl] at hpe
  | scr _=>simp [D.pl] at hpe
  | exc _=>simp [D.pl] at hpe
  | non=>simp only [RD] at hy;subst hy;cases rv;exact .tuple_none t hu'
  | bl b=>simp only [RD] at hy;subst hy;cases rv;exact .tuple_bool _ t hu'
  | int b=>simp only [RD] at hy;subst hy;obtain ⟨tk,rfl⟩:=rv;exact .tuple_int _ _ t hu'
  | str b=>simp only [RD] at hy;subst hy;obtain ⟨tk,rfl⟩:=rv;exact .tuple_str _ _ t hu'
  | tup es=>
   simp only [RD] at hy;obtain ⟨b,ys,rfl,h2,hys⟩:=hy;cases rv
   obtain ⟨its2,r2,t2⟩:=I.tupA h2
   have q:=SeqAt.RcNeAt.tuples t t2 hu' (e:=fun j=>eqD (ds.getD j .non) (es.getD j .non)) (z8t I hu (by simpa only [D.pl] using hpd) (by simpa only [D.pl] using hpe) (by simp only [D.dep] at hn;omega) hxs hys r r2)
   rw [zg1 hxs hys r r2] at q
   exact q
  | lst es=>
   simp only [RD] at hy;obtain ⟨b,ys,rfl,h2,hys⟩:=hy;cases rv
   obtain ⟨its2,r2,t2⟩:=I.lstA h2
   exact .tuple_list t t2 hu'
 | lst ds=>
  simp only [RD] at hx;obtain ⟨a,xs,rfl,h1,hxs⟩:=hx;cases ru
  obtain ⟨its,r,t⟩:=I.lstA h1
  cases e with
  | dk _ _=>simp [D.pl] at hpe
  | dt _ _=>simp [D.pl] at hpe
  | dn _ _=>simp [D.pl] at hpe
  | scr _=>simp [D.pl] at hpe
  | exc _=>simp [D.pl] at hpe
  | non=>simp only [RD] at hy;subst hy;cases rv;exact .list_none t hu'
  | bl b=>simp only [RD] at hy;subst hy;cases rv;exact .list_bool _ t hu'
  | int b=>simp only [RD] at hy;subst hy;obtain ⟨tk,rfl⟩:=rv;exact .list_int _ _ t hu'
  | str b=>simp only [RD] at hy;subst hy;obtain ⟨tk,rfl⟩:=rv;exact .list_str _ _ t hu'
  | tup es=>
   simp only [RD] at hy;obtain ⟨b,ys,rfl,h2,hys⟩:=hy;cases rv
   obtain ⟨its2,r2,t2⟩:=I.tupA h2
   exact .list_tuple t t2 hu'
  | lst es=>
   simp only [RD] at hy;obtain ⟨b,ys,rfl,h2,hys⟩:=hy;cases rv
   obtain ⟨its2,r2,t2⟩:=I.lstA h2
   have lx:=hxs.length;have ly:=hys.length;have l1:=r.length;have l2:=r2.length
   by_cases hl:ds.length=es.length
   . have hsz:its.toArray.size=its2.toArray.size:=by simp;omega
     have q:=SeqAt.RcNeAt.lists t t2 hsz hu' (e:=fun j=>eqD (ds.getD j .non) (es.getD j .non)) (z8t I hu (by simpa only [D.pl] using hpd) (by simpa only [D.pl] using hpe) (by simp only [D.dep] at hn;omega) hxs hys r r2)
     rw [zg2 hxs hys r r2 hl] at q
     exact q
   . have q:=SeqAt.RcNeAt.lists_lengths t t2 (by simp;omega) hu'
     have:eqD (.lst ds) (.lst es)=false:=by simp only [eqD];exact z4d hl
     rw [this]
     exact q
end
structure Ex where
 cls:String
 fs:List D
inductive R (α:Type) where
 | ok (a:α) | er (x:Ex) | st
noncomputable def R.bind {α β:Type} (r:R α) (f:α->R β):R β:=match r with
 | .ok a=>f a
 | .er x=>.er x
 | .st=>.st
def Rk {α:Type} (EX:Ex->Prop) (r:R α) (k:α->Prop):Prop:=match r with
 | .ok a=>k a
 | .er x=>EX x
 | .st=>False
section
variable {α β:Type} {EX:Ex->Prop}
noncomputable def R.of (o:Option α):R α:=match o with
 | some a=>.ok a
 | none=>.st
theorem R.of_some (a:α):R.of (some a)=R.ok a:=rfl
theorem Rk.of {o:Option α} {k:α->Prop} (h:Rk EX (R.of o) k):∃a,o=some a/\k a:=by
 cases o with
 | none=>exact h.elim
 | some a=>exact ⟨a,rfl,h⟩
theorem R.bind_ok (a:α) (f:α->R β):(R.ok a).bind f=f a:=rfl
theorem Rk.bind {r:R α} {f:α->R β} {k:β->Prop}:Rk EX (r.bind f) k=Rk EX r fun a=>Rk EX (f a) k:=by cases r<;>rfl
theorem Rk.mono {r:R α} {k k':α->Prop} (h:Rk EX r k) (hk:∀a,k a->k' a):Rk EX r k':=by
 cases r with
 | ok a=>exact hk a h
 | er x=>exact h
 | st=>exact h
end
def Ext (H0 H H0' H':Hp):Prop:=Same H0 H0'/\Same H0' H'/\∀a,H a≠none->H0 a=none->H0' a=none
theorem Ext.refl {H0 H:Hp} (h:Same H0 H):Ext H0 H H0 H:=⟨Same.refl _,h,fun _ _ e=>e⟩
theorem z6r {α:Type} {o:Option α} {x:α} (h:o=some x):o≠none:=by rw [h];exact fun z=>nomatch z
theorem Same.ne {H H':Hp} (h:Same H H') {a:Addr} (n:H a≠none):H' a≠none:=by
 cases e:H a with
 | none=>exact absurd e n
 | some o=>exact z6r (h a o e)
theorem Ext.trans {H0 H H0' H' H0'' H'':Hp} (s:Same H H') (a:Ext H0 H H0' H') (b:Ext H0' H' H0'' H''):Ext H0 H H0'' H'':=
 ⟨a.1.trans b.1,b.2.1,fun c h1 h2=>b.2.2 c (s.ne h1) (a.2.2 c h1 h2)⟩
theorem Ext.grow {H0 H H0' H' H'':Hp} (a:Ext H0 H H0' H') (s:Same H' H''):Ext H0 H H0' H'':=⟨a.1,a.2.1.trans s,a.2.2⟩
theorem Ext.new {H0 H:Hp} {p:Addr} {o:HO} (h:Same H0 H) (hp:H p=none):Ext H0 H (upd H0 p o) (upd H p o):=by
 have h0:H0 p=none:=by
  cases e:H0 p with
  | none=>rfl
  | some u=>rw [h p u e] at hp;cases hp
 refine ⟨Same.upd_new h0,fun b u e=>?_,fun a h1 h2=>?_⟩
 . by_cases hb:b=p
   . subst hb;rw [z0w] at e ⊢;exact e
   . rw [z0d hb] at e ⊢;exact h b u e
 . have ha:a≠p:=fun z=>h1 (by rw [z];exact hp)
   rw [z0d ha];exact h2
def OB (K:Frag) (H0 H:Hp) (a:Addr):D->Prop
 | .lst ds=>∃xs,H a=some (.lst xs)/\RDs K H0 ds xs
 | .dk ks ds=>∃xs,H a=some (.dK (ks.zip xs))/\ks.length=xs.length/\RDs K H0 ds xs
 | .dt ks ds=>∃xs,H a=some (.dT (ks.zip xs))/\ks.length=xs.length/\RDs K H0 ds xs
 | .dn ks ds=>∃qs xs o,H a=some (.ext (dnP a qs xs o))/\qs.map (·.1)=ks/\DN H0 a qs/\RDs K H0 ds xs
 | _=>False
section
variable {K:Frag} {H0 H H0' H':Hp} {a:Addr} {d:D}
theorem OB.some (h:OB K H0 H a d):∃o,H a=some o/\¬Imm o:=by
 cases d<;>simp only [OB] at h
 . obtain ⟨xs,h,_⟩:=h;exact ⟨_,h,fun z=>z⟩
 . obtain ⟨xs,h,_⟩:=h;exact ⟨_,h,fun z=>z⟩
 . obtain ⟨xs,h,_⟩:=h;exact ⟨_,h,fun z=>z⟩
 . obtain ⟨qs,xs,o,h,_⟩:=h;exact ⟨_,h,fun z=>z _ _ _ _ rfl⟩
theorem OB.mono (h:OB K H0 H a d) (s0:Same H0 H0') (s:Same H H'):OB K H0' H' a d:=by
 cases d<;>simp only [OB] at h ⊢
 . obtain ⟨xs,h,r⟩:=h;exact ⟨_,s _ _ h,r.mono s0⟩
 . obtain ⟨xs,h,l,r⟩:=h;exact ⟨_,s _ _ h,l,r.mono s0⟩
 . obtain ⟨xs,h,l,r⟩:=h;exact ⟨_,s _ _ h,l,r.mono s0⟩
 . obtain ⟨qs,xs,o,h,k,n,r⟩:=h;exact ⟨qs,xs,o,s _ _ h,k,n.tk fun b ys q=>s0 _ _ q,r.mono s0⟩
theorem OB.at (h:OB K H0 H a d) (e:H' a=H a):OB K H0 H' a d:=by
 cases d<;>simp only [OB] at h ⊢
 . obtain ⟨xs,h,r⟩:=h;exact ⟨_,e.trans h,r⟩
 . obtain ⟨xs,h,l,r⟩:=h;exact ⟨_,e.trans h,l,r⟩
 . obtain ⟨xs,h,l,r⟩:=h;exact ⟨_,e.trans h,l,r⟩
 . obtain ⟨qs,xs,o,h,k,n,r⟩:=h;exact ⟨qs,xs,o,e.trans h,k,n,r⟩
theorem OB.tk (h:OB K H0 H a d) (n:d.shal=true) (t:TK H0 H0'):OB K H0' H a d:=by
 cases d<;>simp only [OB,D.shal] at h n ⊢
 . obtain ⟨xs,h,r⟩:=h;exact ⟨_,h,r.tk t n⟩
 . obtain ⟨xs,h,l,r⟩:=h;exact ⟨_,h,l,r.tk t n⟩
 . obtain ⟨xs,h,l,r⟩:=h;exact ⟨_,h,l,r.tk t n⟩
 . obtain ⟨qs,xs,o,h,k,m,r⟩:=h;exact ⟨qs,xs,o,h,k,m.tk fun b ys q=>t _ _ trivial q,r.tk t n⟩
theorem OB.rd (h:OB K H0 H a d) (s0:Same H0 H0') (e:H0' a=H a):RD K H0' d (.ref a):=by
 cases d<;>simp only [OB,RD] at h ⊢
 . obtain ⟨xs,h,r⟩:=h;exact ⟨_,_,rfl,e.trans h,r.mono s0⟩
 . obtain ⟨xs,h,l,r⟩:=h;exact ⟨_,_,rfl,e.trans h,l,r.mono s0⟩
 . obtain ⟨xs,h,l,r⟩:=h;exact ⟨_,_,rfl,e.trans h,l,r.mono s0⟩
 . obtain ⟨qs,xs,o,h,k,n,r⟩:=h;exact ⟨_,qs,xs,o,rfl,e.trans h,k,n.tk fun b ys q=>s0 _ _ q,r.mono s0⟩
end
def Out (K:Frag) (fr:Bool) (H0 H:Hp) (d:D) (v:V) (H':Hp):Prop:=
 Same H H'/\∃H0',Ext H0 H H0' H'/\(if fr=true then ∃p,v=.ref p/\H p=none/\H0' p=none/\OB K H0' H' p d else RD K H0' d v)
section
variable {K:Frag} {fr:Bool} {H0 H H0' H':Hp} {d:D} {v:V}
theorem Out.val (s:Same H H') (e:Ext H0 H H0' H') (r:RD K H0' d v):Out K false H0 H d v H':=⟨s,H0',e,by rw [if_neg Bool.false_ne_true];exact r⟩
theorem Out.pure (s:Same H0 H) (r:RD K H0 d v):Out K false H0 H d v H:=.val (Same.refl _) (.refl s) r
theorem Out.fresh {p:Addr} (s:Same H H') (e:Ext H0 H H0' H') (hp:H p=none) (hp0:H0' p=none) (o:OB K H0' H' p d):Out K true H0 H d (.ref p) H':=⟨s,H0',e,by rw [if_pos rfl];exact ⟨p,rfl,hp,hp0,o⟩⟩
theorem Out.rd (o:Out K false H0 H d v H'):Same H H'/\∃H0',Ext H0 H H0' H'/\RD K H0' d v:=by
 obtain ⟨s,H0',e,r⟩:=o
 rw [if_neg Bool.false_ne_true] at r
 exact ⟨s,H0',e,r⟩
theorem Out.weak (o:Out K fr H0 H d v H'):Out K false H0 H d v H':=by
 cases fr with
 | false=>exact o
 | true=>
  obtain ⟨s,H0',e,r⟩:=o
  rw [if_pos rfl] at r
  obtain ⟨p,rfl,hp,hp0,ob⟩:=r
  obtain ⟨u,hu,_⟩:=ob.some
  have e2:Ext H0 H (upd H0' p u) H':=by
   refine ⟨e.1.trans (Same.upd_new hp0),fun b w q=>?_,fun a h1 h2=>?_⟩
   . by_cases hb:b=p
     . subst hb;rw [z0w] at q;cases q;exact hu
     . rw [z0d hb] at q;exact e.2.1 b w q
   . rw [z0d (fun z=>h1 (by rw [z];exact hp))];exact e.2.2 a h1 h2
  exact .val s e2 (ob.rd (Same.upd_new hp0) (by rw [z0w,hu]))
theorem Out.after {H1 H1':Hp} (s:Same H H1) (e:Ext H0 H H1' H1) (o:Out K fr H1' H1 d v H'):Out K fr H0 H d v H':=by
 obtain ⟨s',H0',e',r⟩:=o
 refine ⟨s.trans s',H0',e.trans s e',?_⟩
 cases fr with
 | false=>exact r
 | true=>
  rw [if_pos rfl] at r ⊢
  obtain ⟨p,rfl,hp,r⟩:=r
  refine ⟨p,rfl,?_,r⟩
  cases q:H p with
  | none=>rfl
  | some u=>rw [s p u q] at hp;cases hp
end
abbrev DE:=List (Option D)
def RE (K:Frag) (H:Hp) (ρ:DE) (U:St):Prop:=ρ.length=U.length/\∀(i:Nat) d,ρ[i]?=some (some d)->∃v,U[i]?=some (some v)/\RD K H d v
theorem RE.mono {K:Frag} {H H':Hp} {ρ:DE} {U:St} (h:RE K H ρ U) (s:Same H H'):RE K H' ρ U:=⟨h.1,fun i d e=>by
 obtain ⟨v,h1,h2⟩:=h.2 i d e
 exact ⟨v,h1,h2.mono s⟩⟩
structure XW where
 hb:Hp
 p:Ex->Hp->Prop
abbrev F0:XW:=⟨fun _=>none,fun _ _=>False⟩
theorem F0.same (H:Hp):Same F0.hb H:=fun _ _ z=>nomatch z
def XW.at (W:XW) (x:Ex):Prop:=∀H',Same W.hb H'->W.p x H'
noncomputable def TEd (K:Frag) (EX:XW) (fr:Bool) (f:DE->R D):TE:=fun U H Q=>Same EX.hb H/\∃ρ H0,Same H0 H/\RE K H0 ρ U/\Rk EX.at (f ρ) fun d=>∀v H',Out K fr H0 H d v H'->Q v H'
noncomputable def TAd (K:Frag) (EX:XW) (f:DE->R (List D)):TA:=fun U H Q=>Same EX.hb H/\∃ρ H0,Same H0 H/\RE K H0 ρ U/\Rk EX.at (f ρ) fun ds=>∀vs H' H0',Same H H'->Ext H0 H H0' H'->RDs K H0' ds vs->Q vs H'
noncomputable def TTd (K:Frag) (EX:XW) (f:DE->R Bool):TT:=fun U H Q=>Same EX.hb H/\∃ρ H0,Same H0 H/\RE K H0 ρ U/\Rk EX.at (f ρ) fun b=>∀H',Same H H'->Q b H'
noncomputable def z03 (i:Nat):DE->R D:=fun ρ=>match ρ[i]? with | some (some d)=>.ok d | _=>.st
noncomputable def eC (d:D):DE->R D:=fun _=>.ok d
noncomputable def eOp (o:D->D->Option D) (fa fb:DE->R D):DE->R D:=fun ρ=>(fa ρ).bind fun x=>(fb ρ).bind fun y=>R.of (o x y)
noncomputable def eUn (o:D->Option D) (fa:DE->R D):DE->R D:=fun ρ=>(fa ρ).bind fun x=>R.of (o x)
noncomputable def z0c:DE->R (List D):=fun _=>.ok []
noncomputable def z00 (f:DE->R D) (fs:DE->R (List D)):DE->R (List D):=fun ρ=>(f ρ).bind fun d=>(fs ρ).bind fun ds=>.ok (d::ds)
noncomputable def z17 (m:List D->R D) (fs:DE->R (List D)):DE->R D:=fun ρ=>(fs ρ).bind m
noncomputable def eCB (m:List D->Option D) (fs:DE->R (List D)):DE->R D:=fun ρ=>(fs ρ).bind fun ds=>R.of (m ds)
noncomputable def z5g (fs:DE->R (List D)):DE->R D:=fun ρ=>(fs ρ).bind fun ds=>if ds.length<=1000 then .ok (.tup ds) else .st
noncomputable def z67 (fs:DE->R (List D)):DE->R D:=fun ρ=>(fs ρ).bind fun ds=>if ds.length<=1000 then .ok (.lst ds) else .st
noncomputable def eIf (t:DE->R Bool) (fa fb:DE->R D):DE->R D:=fun ρ=>(t ρ).bind fun b=>if b=true then fa ρ else fb ρ
noncomputable def zqc (t u:DE->R Bool):DE->R Bool:=fun ρ=>(t ρ).bind fun b=>if b=true then u ρ else .ok false
noncomputable def bOr (t u:DE->R Bool):DE->R Bool:=fun ρ=>(t ρ).bind fun b=>if b=true then .ok true else u ρ
noncomputable def zex (t:DE->R Bool):DE->R Bool:=fun ρ=>(t ρ).bind fun b=>.ok (!b)
noncomputable def asB:D->Option Bool
 | .bl b=>some b
 | _=>none
noncomputable def z3o (tr:D->Option Bool) (f:DE->R D):DE->R Bool:=fun ρ=>(f ρ).bind fun d=>R.of (tr d)
noncomputable def zqd (fa fb:DE->R D):DE->R D:=fun ρ=>(fa ρ).bind fun x=>(R.of (asB x)).bind fun b=>if b=true then fb ρ else .ok (.bl false)
noncomputable def eOr (fa fb:DE->R D):DE->R D:=fun ρ=>(fa ρ).bind fun x=>(R.of (asB x)).bind fun b=>if b=true then .ok (.bl true) else fb ρ
def OpD (K:Frag) (fr:Bool) (o:D->D->Option D) (r:R2):Prop:=∀(H0 H:Hp) (x y:V) (d e z:D) (Q:VK),Same H0 H->RD K H0 d x->RD K H0 e y->o d e=some z->(∀v H',Out K fr H0 H z v H'->Q v H')->r x y H Q
def UnD (K:Frag) (fr:Bool) (o:D->Option D) (r:V->Hp->VK->Prop):Prop:=∀(H0 H:Hp) (x:V) (d z:D) (Q:VK),Same H0 H->RD K H0 d x->o d=some z->(∀v H',Out K fr H0 H z v H'->Q v H')->r x H Q
def z7m (K:Frag) (fr:Bool) (m:List D->Option D) (r:List V->Hp->VK->Prop):Prop:=∀(H0 H:Hp) (xs:List V) (ds:List D) (z:D) (Q:VK),Same H0 H->RDs K H0 ds xs->m ds=some z->(∀v H',Out K fr H0 H z v H'->Q v H')->r xs H Q
def zv5 (K:Frag) (tr:D->Option Bool) (r:V->Hp->(Bool->Hp->Prop)->Prop):Prop:=∀(H0 H:Hp) (x:V) (d:D) (b:Bool) (Q:Bool->Hp->Prop),Same H0 H->RD K H0 d x->tr d=some b->Q b H->r x H Q
section
variable {K:Frag} {EX:XW} {fr:Bool} {U:St} {H:Hp} {Q:VK}
theorem TEd.go {f:DE->R D} {ρ:DE} {H0:Hp} {k:D->Prop} (sx:Same EX.hb H) (s:Same H0 H) (e:RE K H0 ρ U) (h:Rk EX.at (f ρ) k) (hk:∀d,k d->∀v H' H0',Same H H'->Ext H0 H H0' H'->RD K H0' d v->Q v H'):TEd K EX false f U H Q:=
 ⟨sx,ρ,H0,s,e,h.mono fun d z v H' o=>by
  obtain ⟨s',H0',e',r⟩:=o.rd
  exact hk d z v H' H0' s' e' r⟩
theorem TAd.go {f:DE->R (List D)} {ρ:DE} {H0:Hp} {k:List D->Prop} {Q:List V->Hp->Prop} (sx:Same EX.hb H) (s:Same H0 H) (e:RE K H0 ρ U) (h:Rk EX.at (f ρ) k) (hk:∀d,k d->∀v H' H0',Same H H'->Ext H0 H H0' H'->RDs K H0' d v->Q v H'):TAd K EX f U H Q:=
 ⟨sx,ρ,H0,s,e,h.mono fun d z v H' H0' s' e' r=>hk d z v H' H0' s' e' r⟩
theorem TTd.go {f:DE->R Bool} {ρ:DE} {H0:Hp} {k:Bool->Prop} {Q:Bool->Hp->Prop} (sx:Same EX.hb H) (s:Same H0 H) (e:RE K H0 ρ U) (h:Rk EX.at (f ρ) k) (hk:∀b,k b->∀H',Same H H'->Q b H'):TTd K EX f U H Q:=
 ⟨sx,ρ,H0,s,e,h.mono fun b z H' s'=>hk b z H' s'⟩
theorem TEd.weak {f:DE->R D} (h:TEd K EX false f U H Q):TEd K EX fr f U H Q:=by
 obtain ⟨sx,ρ,H0,s,e,h⟩:=h
 exact ⟨sx,ρ,H0,s,e,h.mono fun d z v H' o=>z v H' o.weak⟩
theorem zv6 {i:Nat} (h:TEd K EX false (z03 i) U H Q):∃v,U[i]?=some (some v)/\Q v H:=by
 obtain ⟨sx,ρ,H0,s,e,h⟩:=h
 unfold z03 at h
 split at h
 . rename_i d q
   obtain ⟨v,h1,h2⟩:=e.2 i d q
   exact ⟨v,h1,h v H (.pure s h2)⟩
 . exact h.elim
theorem zb9 {d:D} {v:V} (hd:∀H0,RD K H0 d v) (h:TEd K EX false (eC d) U H Q):tC v U H Q:=by
 obtain ⟨sx,ρ,H0,s,e,h⟩:=h
 exact h v H (.pure s (hd _))
theorem zuf {o:D->D->Option D} {r:R2} {fa fb:DE->R D} (ho:OpD K fr o r) (h:TEd K EX fr (eOp o fa fb) U H Q):tOp r (TEd K EX false fa) (TEd K EX false fb) U H Q:=by
 obtain ⟨sx,ρ,H0,s,e,h⟩:=h
 unfold eOp at h
 rw [Rk.bind] at h
 refine TEd.go sx s e h fun d h v H1 H1' s1 e1 r1=>?_
 rw [Rk.bind] at h
 refine TEd.go (sx.trans s1) e1.2.1 (e.mono e1.1) h fun d2 h v2 H2 H2' s2 e2 r2=>?_
 obtain ⟨z,hz,h⟩:=h.of
 exact ho H2' H2 v v2 d d2 z Q e2.2.1 (r1.mono e2.1) r2 hz fun w H3 o=>h w H3 (o.after (s1.trans s2) (e1.trans s1 e2))
theorem zyr {o:D->Option D} {r:V->Hp->VK->Prop} {fa:DE->R D} (ho:UnD K fr o r) (h:TEd K EX fr (eUn o fa) U H Q):tUn r (TEd K EX false fa) U H Q:=by
 obtain ⟨sx,ρ,H0,s,e,h⟩:=h
 unfold eUn at h
 rw [Rk.bind] at h
 refine TEd.go sx s e h fun d h v H1 H1' s1 e1 r1=>?_
 obtain ⟨z,hz,h⟩:=h.of
 exact ho H1' H1 v d z Q e1.2.1 r1 hz fun w H3 o=>h w H3 (o.after s1 e1)
theorem zv7 {Q:List V->Hp->Prop} (h:TAd K EX z0c U H Q):zub U H Q:=by
 obtain ⟨sx,ρ,H0,s,e,h⟩:=h
 exact h [] H H0 (Same.refl _) (.refl s) .nil
theorem zqe {Q:List V->Hp->Prop} {f:DE->R D} {fs:DE->R (List D)} (h:TAd K EX (z00 f fs) U H Q):z9r (TEd K EX false f) (TAd K EX fs) U H Q:=by
 obtain ⟨sx,ρ,H0,s,e,h⟩:=h
 unfold z00 at h
 rw [Rk.bind] at h
 refine TEd.go sx s e h fun d h v H1 H1' s1 e1 r1=>?_
 rw [Rk.bind] at h
 refine TAd.go (sx.trans s1) e1.2.1 (e.mono e1.1) h fun ds h vs H2 H2' s2 e2 r2=>?_
 exact h (v::vs) H2 H2' (s1.trans s2) (e1.trans s1 e2) (.cons (r1.mono e2.1) r2)
theorem zy1 {m:List D->Option D} {r:List V->Hp->VK->Prop} {fs:DE->R (List D)} (hm:z7m K fr m r) (h:TEd K EX fr (eCB m fs) U H Q):tCB r (TAd K EX fs) U H Q:=by
 obtain ⟨sx,ρ,H0,s,e,h⟩:=h
 unfold eCB at h
 rw [Rk.bind] at h
 refine TAd.go sx s e h fun ds h vs H1 H1' s1 e1 r1=>?_
 obtain ⟨z,hz,h⟩:=h.of
 exact hm H1' H1 vs ds z Q e1.2.1 r1 hz fun w H3 o=>h w H3 (o.after s1 e1)
theorem zba {n:Nat} (h:n<=1000):n<=sizeLine:=Nat.le_trans h (by decide)
theorem zv8 {fs:DE->R (List D)} (h:TEd K EX false (z5g fs) U H Q):zxr (TAd K EX fs) U H Q:=by
 obtain ⟨sx,ρ,H0,s,e,h⟩:=h
 unfold z5g at h
 rw [Rk.bind] at h
 refine TAd.go sx s e h fun ds h vs H1 H1' s1 e1 r1=>?_
 split at h
 . rename_i hl
   refine ⟨zba (by rw [<-r1.length];exact hl),fun p hp=>h _ _ (.val (s1.trans (Same.upd_new hp)) (e1.trans s1 (.new e1.2.1 hp)) ?_)⟩
   have h1p:H1' p=none:=by
    cases q:H1' p with
    | none=>rfl
    | some u=>rw [e1.2.1 p u q] at hp;cases hp
   simp only [RD]
   exact ⟨p,vs,rfl,z0w,r1.mono (Same.upd_new h1p)⟩
 . exact h.elim
theorem Same.none {H H':Hp} (s:Same H H') {p:Addr} (h:H' p=none):H p=none:=by
 cases q:H p with
 | none=>rfl
 | some u=>rw [s p u q] at h;cases h
theorem Out.new {H0 H:Hp} {d:D} {p:Addr} {o:HO} (s:Same H0 H) (hp:H p=none) (hob:∀H',H' p=some o->OB K H0 H' p d):Out K true H0 H d (.ref p) (upd H p o):=
 .fresh (Same.upd_new hp) ((Ext.refl s).grow (Same.upd_new hp)) hp (s.none hp) (hob _ z0w)
theorem zv9 {fs:DE->R (List D)} (h:TEd K EX true (z67 fs) U H Q):zxs (TAd K EX fs) U H Q:=by
 obtain ⟨sx,ρ,H0,s,e,h⟩:=h
 unfold z67 at h
 rw [Rk.bind] at h
 refine TAd.go sx s e h fun ds h vs H1 H1' s1 e1 r1=>?_
 split at h
 . rename_i hl
   refine ⟨zba (by rw [<-r1.length];exact hl),fun p hp=>h _ _ (Out.after s1 e1 (.new e1.2.1 hp fun H' hH=>?_))⟩
   simp only [OB]
   exact ⟨vs,hH,r1⟩
 . exact h.elim
theorem zqf {t u:DE->R Bool} {Q:Bool->Hp->Prop} (h:TTd K EX (zqc t u) U H Q):zxj (TTd K EX t) (TTd K EX u) U H Q:=by
 obtain ⟨sx,ρ,H0,s,e,h⟩:=h
 unfold zqc at h
 rw [Rk.bind] at h
 refine TTd.go sx s e h fun b h H1 s1=>?_
 cases b with
 | true=>exact TTd.go (sx.trans s1) (s.trans s1) e h fun b h H' s'=>h H' (s1.trans s')
 | false=>exact h H1 s1
theorem zva {t u:DE->R Bool} {Q:Bool->Hp->Prop} (h:TTd K EX (bOr t u) U H Q):tOr (TTd K EX t) (TTd K EX u) U H Q:=by
 obtain ⟨sx,ρ,H0,s,e,h⟩:=h
 unfold bOr at h
 rw [Rk.bind] at h
 refine TTd.go sx s e h fun b h H1 s1=>?_
 cases b with
 | true=>exact h H1 s1
 | false=>exact TTd.go (sx.trans s1) (s.trans s1) e h fun b h H' s'=>h H' (s1.trans s')
theorem zqg {t:DE->R Bool} {Q:Bool->Hp->Prop} (h:TTd K EX (zex t) U H Q):zxk (TTd K EX t) U H Q:=by
 obtain ⟨sx,ρ,H0,s,e,h⟩:=h
 unfold zex at h
 rw [Rk.bind] at h
 exact TTd.go sx s e h fun b h H1 s1=>h H1 s1
end
noncomputable def zys (r:V->Hp->(Bool->Hp->Prop)->Prop) (t:TE):TT:=fun U H Q=>t U H fun x H'=>r x H' Q
noncomputable def zvb (o:D->D->Option D) (fb:DE->R D):D->DE->R D:=fun d ρ=>(fb ρ).bind fun y=>R.of (o d y)
noncomputable def zvc (o:D->D->Option D) (fb:DE->R D) (g:D->DE->R D):D->DE->R D:=fun d ρ=>(fb ρ).bind fun y=>(R.of (o d y)).bind fun z=>(R.of (asB z)).bind fun b=>if b=true then g y ρ else .ok (.bl false)
noncomputable def zqh (o:D->D->Option D) (fb:DE->R D):D->DE->R Bool:=fun d ρ=>(fb ρ).bind fun y=>(R.of (o d y)).bind fun z=>R.of (asB z)
noncomputable def zqi (o:D->D->Option D) (fb:DE->R D) (g:D->DE->R Bool):D->DE->R Bool:=fun d ρ=>(fb ρ).bind fun y=>(R.of (o d y)).bind fun z=>(R.of (asB z)).bind fun b=>if b=true then g y ρ else .ok false
noncomputable def zyt (fa:DE->R D) (g:D->DE->R D):DE->R D:=fun ρ=>(fa ρ).bind fun x=>g x ρ
noncomputable def zyu (fa:DE->R D) (g:D->DE->R Bool):DE->R Bool:=fun ρ=>(fa ρ).bind fun x=>g x ρ
theorem zcq {d:D} {b:Bool} (h:asB d=some b):d=.bl b:=by
 cases d<;>simp [asB] at h
 subst h;rfl
theorem RD.bl {K:Frag} {H:Hp} {b:Bool} {v:V} (h:RD K H (.bl b) v):v=.bl b:=by simpa only [RD] using h
section
variable {K:Frag} {EX:XW} {fr:Bool} {U:St} {H:Hp} {Q:VK} {QB:Bool->Hp->Prop}
theorem zvd {fa fb:DE->R D} (h:TEd K EX false (zqd fa fb) U H Q):zq3 (TEd K EX false fa) (TEd K EX false fb) U H Q:=by
 obtain ⟨sx,ρ,H0,s,e,h⟩:=h
 unfold zqd at h
 rw [Rk.bind] at h
 refine TEd.go sx s e h fun d h v H1 H1' s1 e1 r1=>?_
 rw [Rk.bind] at h
 obtain ⟨b,hb,h⟩:=h.of
 cases zcq hb
 cases r1.bl
 cases b with
 | true=>exact TEd.go (sx.trans s1) e1.2.1 (e.mono e1.1) h fun d h v H2 H2' s2 e2 r2=>h v H2 (.val (s1.trans s2) (e1.trans s1 e2) r2)
 | false=>exact h _ H1 (.val s1 e1 (by simp only [RD]))
theorem zve {tr:D->Option Bool} {r:V->Hp->(Bool->Hp->Prop)->Prop} {fa:DE->R D} (ht:zv5 K tr r) (h:TTd K EX (z3o tr fa) U H QB):zys r (TEd K EX false fa) U H QB:=by
 obtain ⟨sx,ρ,H0,s,e,h⟩:=h
 unfold z3o at h
 rw [Rk.bind] at h
 refine TEd.go sx s e h fun d h v H1 H1' s1 e1 r1=>?_
 obtain ⟨b,hb,h⟩:=h.of
 exact ht H1' H1 v d b QB e1.2.1 r1 hb (h H1 s1)
theorem zqj {tr:D->Option Bool} {r:V->Hp->(Bool->Hp->Prop)->Prop} {fa:DE->R D} (ht:zv5 K tr r) (h:TEd K EX false (eUn (fun d=>(tr d).map fun b=>.bl (!b)) fa) U H Q) :
  (fun U H Q=>(TEd K EX false fa) U H fun x H1=>r x H1 fun k H2=>Q (.bl (!k)) H2) U H Q:=by
 obtain ⟨sx,ρ,H0,s,e,h⟩:=h
 unfold eUn at h
 rw [Rk.bind] at h
 refine TEd.go sx s e h fun d h v H1 H1' s1 e1 r1=>?_
 obtain ⟨z,hz,h⟩:=h.of
 have hz:(tr d).map (fun b=>D.bl (!b))=some z:=hz
 cases hb:tr d with
 | none=>rw [hb] at hz;cases hz
 | some b=>
  rw [hb] at hz;cases hz
  exact ht H1' H1 v d b _ e1.2.1 r1 hb (h _ H1 (.val s1 e1 (by simp only [RD])))
theorem zvf {o:D->D->Option D} {r:R2} {fa fb:DE->R D} (ho:OpD K false o r) (h:TTd K EX (z3o asB (eOp o fa fb)) U H QB):zmk (tOp r (TEd K EX false fa) (TEd K EX false fb)) U H QB:=by
 obtain ⟨sx,ρ,H0,s,e,h⟩:=h
 unfold z3o at h
 rw [Rk.bind] at h
 unfold zmk
 refine zuf (EX:=EX) ho ⟨sx,ρ,H0,s,e,h.mono fun d h v H' o=>?_⟩
 obtain ⟨b,hb,h⟩:=h.of
 obtain ⟨s',H0',e',r'⟩:=o.rd
 cases zcq hb
 cases r'.bl
 exact h H' s'
end
inductive Sl where
 | em | im (d:D) | ow (d:D)
abbrev DS:=List Sl
noncomputable def Sl.see (b:Bool):Sl->Option D
 | .em=>none
 | .im d=>some d
 | .ow d=>if b=true then some d else none
noncomputable def Sl.frz (b:Bool):Sl->Sl
 | .ow d=>if b=true then .im d else .ow d
 | s=>s
noncomputable def vis:List Bool->DS->DE
 | _,[]=>[]
 | [],s::r=>s.see false::vis [] r
 | b::m,s::r=>s.see b::vis m r
noncomputable def frz:List Bool->DS->DS
 | _,[]=>[]
 | [],s::r=>s::r
 | b::m,s::r=>s.frz b::frz m r
theorem zbb:∀(m:List Bool) (ρ:DS) (i:Nat),(vis m ρ)[i]?=(ρ[i]?).map (Sl.see (m.getD i false))
 | [],[],i=>by simp [vis]
 | _::_,[],i=>by simp [vis]
 | [],s::r,0=>by simp [vis]
 | b::m,s::r,0=>by simp [vis]
 | [],s::r,i+1=>by simpa [vis] using zbb [] r i
 | b::m,s::r,i+1=>by simpa [vis] using zbb m r i
theorem z5m:∀(m:List Bool) (ρ:DS),(vis m ρ).length=ρ.length
 | [],[]=>rfl
 | _::_,[]=>rfl
 | [],s::r=>by simp [vis,z5m [] r]
 | b::m,s::r=>by simp [vis,z5m m r]
theorem Sl.frz_false (s:Sl):s.frz false=s:=by cases s<;>simp [Sl.frz]
theorem zbc:∀(m:List Bool) (ρ:DS) (i:Nat),(L2.frz m ρ)[i]?=(ρ[i]?).map (Sl.frz (m.getD i false))
 | [],[],i=>by simp [frz]
 | _::_,[],i=>by simp [frz]
 | [],s::r,i=>by
  simp only [frz,List.getD_nil]
  cases h:(s::r)[i]? with
  | none=>rfl
  | some x=>simp [Sl.frz_false]
 | b::m,s::r,0=>by simp [frz]
 | b::m,s::r,i+1=>by simpa [frz] using zbc m r i
theorem z82:∀(m:List Bool) (ρ:DS),(L2.frz m ρ).length=ρ.length
 | [],[]=>rfl
 | _::_,[]=>rfl
 | [],s::r=>rfl
 | b::m,s::r=>by simp [frz,z82 m r]
structure RS (K:Frag) (Hc Hb H0:Hp) (ρ:DS) (U:St) (H:Hp):Prop where
 sb:Same Hb H
 ext:Ext Hc Hb H0 H
 len:ρ.length=U.length
 im:∀(i:Nat) d,ρ[i]?=some (.im d)->∃v,U[i]?=some (some v)/\RD K H0 d v
 ow:∀(i:Nat) d,ρ[i]?=some (.ow d)->∃a,U[i]?=some (some (.ref a))/\H0 a=none/\Hb a=none/\OB K H0 H a d
 ap:∀(i j:Nat) d e a,ρ[i]?=some (.ow d)->ρ[j]?=some (.ow e)->U[i]?=some (some (.ref a))->U[j]?=some (some (.ref a))->i=j
theorem RS.grow {K:Frag} {Hc Hb H0 H H':Hp} {ρ:DS} {U:St} (R:RS K Hc Hb H0 ρ U H) (s:Same H H'):RS K Hc Hb H0 ρ U H':=
 ⟨R.sb.trans s,R.ext.grow s,R.len,R.im,fun i d e=>by
  obtain ⟨a,h1,h2,h3,h4⟩:=R.ow i d e
  exact ⟨a,h1,h2,h3,h4.mono (Same.refl _) s⟩,R.ap⟩
def Msk (m:List Bool) (ρ:DS) (U:St) (a:Addr):Prop:=∃i d,m.getD i false=true/\ρ[i]?=some (.ow d)/\U[i]?=some (some (.ref a))
open Classical in
noncomputable def HeOf (m:List Bool) (ρ:DS) (U:St) (H0 H:Hp):Hp:=fun a=>if Msk m ρ U a then H a else H0 a
open Classical in
noncomputable def HdOf (m:List Bool) (ρ:DS) (U:St) (H0:Hp):Hp:=fun a=>if Msk m ρ U a then none else H0 a
section
variable {K:Frag} {Hc Hb H0 H H':Hp} {ρ:DS} {U:St} {m:List Bool}
theorem RS.msk (R:RS K Hc Hb H0 ρ U H) {a:Addr} (h:Msk m ρ U a):H0 a=none/\Hb a=none/\∃o,H a=some o/\¬Imm o:=by
 obtain ⟨i,d,_,h1,h2⟩:=h
 obtain ⟨a',q1,q2,q3,q4⟩:=R.ow i d h1
 rw [h2] at q1;cases q1
 exact ⟨q2,q3,q4.some⟩
theorem z8u {a:Addr} (h:Msk m ρ U a):HeOf m ρ U H0 H a=H a:=by unfold HeOf;exact if_pos h
theorem z4e {a:Addr} (h:¬Msk m ρ U a):HeOf m ρ U H0 H a=H0 a:=by unfold HeOf;exact if_neg h
theorem z8v {a:Addr} (h:Msk m ρ U a):HdOf m ρ U H0 a=none:=by unfold HdOf;exact if_pos h
theorem z4f {a:Addr} (h:¬Msk m ρ U a):HdOf m ρ U H0 a=H0 a:=by unfold HdOf;exact if_neg h
theorem RS.he0 (R:RS K Hc Hb H0 ρ U H) (m:List Bool):Same H0 (HeOf m ρ U H0 H):=fun b o e=>by
 by_cases h:Msk m ρ U b
 . rw [(R.msk h).1] at e;cases e
 . rw [z4e h];exact e
theorem RS.heH (R:RS K Hc Hb H0 ρ U H) (m:List Bool):Same (HeOf m ρ U H0 H) H:=fun b o e=>by
 by_cases h:Msk m ρ U b
 . rw [z8u h] at e;exact e
 . rw [z4e h] at e;exact R.ext.2.1 b o e
theorem RS.re (R:RS K Hc Hb H0 ρ U H) (m:List Bool):RE K (HeOf m ρ U H0 H) (vis m ρ) U:=by
 refine ⟨by rw [z5m];exact R.len,fun i d e=>?_⟩
 rw [zbb] at e
 cases q:ρ[i]? with
 | none=>rw [q] at e;cases e
 | some s=>
  rw [q] at e
  simp only [Option.map_some,Option.some.injEq] at e
  cases s with
  | em=>cases e
  | im d'=>
   cases e
   obtain ⟨v,h1,h2⟩:=R.im i d q
   exact ⟨v,h1,h2.mono (R.he0 m)⟩
  | ow d'=>
   simp only [Sl.see] at e
   split at e
   . rename_i hm
     cases e
     obtain ⟨a,h1,h2,h3,h4⟩:=R.ow i d q
     exact ⟨_,h1,h4.rd (R.he0 m) (z8u ⟨i,d,hm,q,h1⟩)⟩
   . cases e
noncomputable def z68 (keep:Bool) (m:List Bool) (ρ:DS):DS:=if keep=true then ρ else frz m ρ
noncomputable def keeps (fr:Bool) (d:D):Bool:=if fr=true then d.shal else d.noL
def Apt (K:Frag) (fr:Bool) (Hb H0:Hp) (ρ:DS) (U:St) (H:Hp) (d:D) (v:V):Prop:=
 if fr=true then ∃p,v=.ref p/\H0 p=none/\Hb p=none/\OB K H0 H p d/\∀(i:Nat) e,ρ[i]?=some (.ow e)->U[i]?≠some (some (.ref p)) else RD K H0 d v
theorem z8w {keep:Bool} {i:Nat} {d:D} (h:(z68 keep m ρ)[i]?=some (.ow d)):ρ[i]?=some (.ow d)/\(keep=false->m.getD i false=false):=by
 unfold z68 at h
 cases keep with
 | true=>exact ⟨h,fun z=>nomatch z⟩
 | false=>
  rw [if_neg Bool.false_ne_true,zbc] at h
  cases q:ρ[i]? with
  | none=>rw [q] at h;cases h
  | some s=>
   rw [q] at h
   simp only [Option.map_some,Option.some.injEq] at h
   cases s with
   | em=>cases h
   | im d'=>cases h
   | ow d'=>
    simp only [Sl.frz] at h
    split at h
    . cases h
    . rename_i hm
      cases h
      exact ⟨rfl,fun _=>by simpa using hm⟩
theorem RS.frame (R:RS K Hc Hb H0 ρ U H) {H0':Hp} (s:Same H H') (e:Ext (HeOf m ρ U H0 H) H H0' H') (keep:Bool) :
  ∃H0n,RS K Hc Hb H0n (z68 keep m ρ) U H'/\TK H0' H0n/\(keep=false->H0n=H0')/\(∀p,H0' p=none->H0n p=none)/\Same H0 H0n:=by
 have hunm:∀(i:Nat) d' a,ρ[i]?=some (.ow d')->U[i]?=some (some (.ref a))->¬Msk m ρ U a->H0' a=none:=fun i d' a h1 h2 h3=>by
  obtain ⟨a',q1,q2,q3,q4⟩:=R.ow i d' h1
  rw [h2] at q1;cases q1
  obtain ⟨u,hu,_⟩:=q4.some
  exact e.2.2 a (z6r hu) (by rw [z4e h3];exact q2)
 have nmsk:∀{i:Nat} {d':D} {a:Addr},ρ[i]?=some (.ow d')->U[i]?=some (some (.ref a))->m.getD i false=false->¬Msk m ρ U a:=fun {i d' a} h1 h2 h3 ⟨j,e',q1,q2,q3⟩=>by
  have:=R.ap i j d' e' a h1 q2 h2 q3
  subst this
  rw [h3] at q1;cases q1
 cases keep with
 | true=>
  have hth:z68 true m ρ=ρ:=rfl
  have s0:Same H0 (HdOf m ρ U H0'):=fun b u q=>by
   have hb:¬Msk m ρ U b:=fun z=>by rw [(R.msk z).1] at q;cases q
   rw [z4f hb]
   exact e.1 b u (R.he0 m b u q)
  have tk:TK H0' (HdOf m ρ U H0'):=fun b u hi q=>by
   have hb:¬Msk m ρ U b:=fun z=>by
    obtain ⟨_,_,w,hw,hn⟩:=R.msk z
    have:=e.1 b w (by rw [z8u z];exact hw)
    rw [q] at this;cases this
    exact hn hi
   rw [z4f hb];exact q
  refine ⟨HdOf m ρ U H0',⟨R.sb.trans s,⟨R.ext.1.trans s0,fun b u q=>?_,fun a h1 h2=>?_⟩,R.len,fun i d' q=>?_,fun i d' q=>?_,R.ap⟩,tk,(fun z=>nomatch z),fun p hp=>?_,s0⟩
  . by_cases hb:Msk m ρ U b
    . rw [z8v hb] at q;cases q
    . rw [z4f hb] at q;exact e.2.1 b u q
  . by_cases hb:Msk m ρ U a
    . exact z8v hb
    . rw [z4f hb]
      exact e.2.2 a (R.sb.ne h1) (by rw [z4e hb];exact R.ext.2.2 a h1 h2)
  . obtain ⟨w,h1,h2⟩:=R.im i d' q
    exact ⟨w,h1,h2.mono s0⟩
  . obtain ⟨a,h1,h2,h3,h4⟩:=R.ow i d' q
    refine ⟨a,h1,?_,h3,h4.mono s0 s⟩
    by_cases hb:Msk m ρ U a
    . exact z8v hb
    . rw [z4f hb];exact hunm i d' a q h1 hb
  . by_cases hb:Msk m ρ U p
    . exact z8v hb
    . rw [z4f hb];exact hp
 | false=>
  refine ⟨H0',⟨R.sb.trans s,?_,?_,fun i d' q=>?_,fun i d' q=>?_,fun i j d1 d2 a q1 q2=>?_⟩,fun _ _ _ z=>z,fun _=>rfl,fun _ z=>z,(R.he0 m).trans e.1⟩
  . refine ⟨R.ext.1.trans ((R.he0 m).trans e.1),e.2.1,fun a h1 h2=>e.2.2 a (R.sb.ne h1) ?_⟩
    have hb:¬Msk m ρ U a:=fun z=>h1 (R.msk z).2.1
    rw [z4e hb];exact R.ext.2.2 a h1 h2
  . show (L2.frz m ρ).length=_
    rw [z82];exact R.len
  . have q':(L2.frz m ρ)[i]?=some (.im d'):=q
    rw [zbc] at q'
    cases hs:ρ[i]? with
    | none=>rw [hs] at q';cases q'
    | some sl=>
     rw [hs] at q'
     simp only [Option.map_some,Option.some.injEq] at q'
     cases sl with
     | em=>cases q'
     | im d2=>
      cases q'
      obtain ⟨w,h1,h2⟩:=R.im i d' hs
      exact ⟨w,h1,h2.mono ((R.he0 m).trans e.1)⟩
     | ow d2=>
      simp only [Sl.frz] at q'
      split at q'
      . rename_i hm
        cases q'
        obtain ⟨a,h1,h2,h3,h4⟩:=R.ow i d' hs
        obtain ⟨u,hu,_⟩:=h4.some
        refine ⟨_,h1,h4.rd ((R.he0 m).trans e.1) ?_⟩
        rw [hu]
        exact e.1 a u (by rw [z8u ⟨i,d',hm,hs,h1⟩];exact hu)
      . cases q'
  . obtain ⟨q1,q2⟩:=z8w q
    obtain ⟨a,h1,h2,h3,h4⟩:=R.ow i d' q1
    exact ⟨a,h1,hunm i d' a q1 h1 (nmsk q1 h1 (q2 rfl)),h3,h4.mono ((R.he0 m).trans e.1) s⟩
  . exact R.ap i j d1 d2 a (z8w q1).1 (z8w q2).1
theorem RS.out (R:RS K Hc Hb H0 ρ U H) {fr:Bool} {d:D} {v:V} (o:Out K fr (HeOf m ρ U H0 H) H d v H') :
  ∃H0n,RS K Hc Hb H0n (z68 (keeps fr d) m ρ) U H'/\Apt K fr Hb H0n (z68 (keeps fr d) m ρ) U H' d v:=by
 obtain ⟨s,H0',e,r⟩:=o
 obtain ⟨H0n,R',tk,eq,hn,_⟩:=R.frame s e (keeps fr d)
 refine ⟨H0n,R',?_⟩
 unfold Apt
 cases fr with
 | false=>
  rw [if_neg Bool.false_ne_true] at r ⊢
  cases hk:keeps false d with
  | true=>exact r.tk tk (by simpa [keeps] using hk)
  | false=>rw [eq hk];exact r
 | true=>
  rw [if_pos rfl] at r ⊢
  obtain ⟨p,rfl,hp,hp0,ob⟩:=r
  refine ⟨p,rfl,hn p hp0,R.sb.none hp,?_,fun i e' q z=>?_⟩
  . cases hk:keeps true d with
    | true=>exact ob.tk (by simpa [keeps] using hk) tk
    | false=>rw [eq hk];exact ob
  . obtain ⟨a,h1,_,_,h4⟩:=R.ow i e' (z8w q).1
    rw [z] at h1;cases h1
    obtain ⟨u,hu,_⟩:=h4.some
    rw [hp] at hu;cases hu
theorem RS.outs (R:RS K Hc Hb H0 ρ U H) {ds:List D} {vs:List V} {H0':Hp} (s:Same H H') (e:Ext (HeOf m ρ U H0 H) H H0' H') (r:RDs K H0' ds vs) :
  ∃H0n,RS K Hc Hb H0n (z68 (z3z ds) m ρ) U H'/\RDs K H0n ds vs:=by
 obtain ⟨H0n,R',tk,eq,hn,_⟩:=R.frame s e (z3z ds)
 refine ⟨H0n,R',?_⟩
 cases hk:z3z ds with
 | true=>exact r.tk tk hk
 | false=>rw [eq hk];exact r
noncomputable def ziz (fr:Bool) (i:Nat) (d:D) (ρ:DS):DS:=ρ.set i (if fr=true then .ow d else .im d)
theorem RS.put (R:RS K Hc Hb H0 ρ U H) {fr:Bool} {d:D} {v:V} (a:Apt K fr Hb H0 ρ U H d v) (i:Nat):RS K Hc Hb H0 (ziz fr i d ρ) (U.set i (some v)) H:=by
 unfold ziz
 have other:∀{j:Nat} {s:Sl},j≠i->(ρ.set i s)[j]?=ρ[j]?:=fun {j s} h=>by rw [List.getElem?_set_ne (Ne.symm h)]
 have otherσ:∀{j:Nat},j≠i->(U.set i (some v))[j]?=U[j]?:=fun {j} h=>by rw [List.getElem?_set_ne (Ne.symm h)]
 have here:∀{s s':Sl},(ρ.set i s)[i]?=some s'->s'=s/\(U.set i (some v))[i]?=some (some v):=fun {s s'} h=>by
  have hi:i<ρ.length:=by
   have:=(List.getElem?_eq_some_iff.mp h).1
   simpa using this
  rw [List.getElem?_set_self hi] at h
  cases h
  exact ⟨rfl,by rw [List.getElem?_set_self (by rw [<-R.len];exact hi)]⟩
 refine ⟨R.sb,R.ext,by rw [List.length_set,List.length_set];exact R.len,fun j d' q=>?_,fun j d' q=>?_,fun j k d1 d2 b q1 q2 z1 z2=>?_⟩
 . by_cases hj:j=i
   . subst hj
     obtain ⟨h1,h2⟩:=here q
     refine ⟨v,h2,?_⟩
     cases fr with
     | false=>
      rw [if_neg Bool.false_ne_true] at h1;cases h1
      unfold Apt at a
      rw [if_neg Bool.false_ne_true] at a;exact a
     | true=>rw [if_pos rfl] at h1;cases h1
   . rw [other hj] at q
     rw [otherσ hj];exact R.im j d' q
 . by_cases hj:j=i
   . subst hj
     obtain ⟨h1,h2⟩:=here q
     cases fr with
     | false=>rw [if_neg Bool.false_ne_true] at h1;cases h1
     | true=>
      rw [if_pos rfl] at h1;cases h1
      unfold Apt at a
      rw [if_pos rfl] at a
      obtain ⟨p,rfl,a1,a2,a3,_⟩:=a
      exact ⟨p,h2,a1,a2,a3⟩
   . rw [other hj] at q
     rw [otherσ hj];exact R.ow j d' q
 . by_cases hj:j=i
   . by_cases hk:k=i
     . rw [hj,hk]
     . subst hj
       obtain ⟨h1,h2⟩:=here q1
       rw [other hk] at q2
       rw [otherσ hk] at z2
       rw [h2] at z1
       cases fr with
       | false=>rw [if_neg Bool.false_ne_true] at h1;cases h1
       | true=>
        unfold Apt at a
        rw [if_pos rfl] at a
        obtain ⟨p,rfl,_,_,_,a4⟩:=a
        cases z1
        exact absurd z2 (a4 k d2 q2)
   . by_cases hk:k=i
     . subst hk
       obtain ⟨h1,h2⟩:=here q2
       rw [other hj] at q1
       rw [otherσ hj] at z1
       rw [h2] at z2
       cases fr with
       | false=>rw [if_neg Bool.false_ne_true] at h1;cases h1
       | true=>
        unfold Apt at a
        rw [if_pos rfl] at a
        obtain ⟨p,rfl,_,_,_,a4⟩:=a
        cases z2
        exact absurd z1 (a4 j d1 q1)
     . rw [other hj] at q1
       rw [other hk] at q2
       rw [otherσ hj] at z1
       rw [otherσ hk] at z2
       exact R.ap j k d1 d2 b q1 q2 z1 z2
end
inductive SR where
 | nx (ρ:DS) | bk (ρ:DS) | ct (ρ:DS) | rt (d:D) | er (x:Ex) | st
def SK (K:Frag) (EX:XW) (fr:Bool) (Hc Hb:Hp) (De:Ends):SR->Prop
 | .nx ρ=>∀U H H0,RS K Hc Hb H0 ρ U H->De.nx U H
 | .bk ρ=>∀U H H0,RS K Hc Hb H0 ρ U H->De.bk U H
 | .ct ρ=>∀U H H0,RS K Hc Hb H0 ρ U H->De.ct U H
 | .rt d=>∀v H,Out K fr Hc Hb d v H->De.rt v H
 | .er x=>EX.at x
 | .st=>False
noncomputable def TSd (K:Frag) (EX:XW) (fr:Bool) (g:DS->SR):TS:=fun De U H=>∃Hc Hb H0 ρ,Same EX.hb Hb/\RS K Hc Hb H0 ρ U H/\SK K EX fr Hc Hb De (g ρ)
noncomputable def R.toS {α:Type} (r:R α) (k:α->SR):SR:=match r with
 | .ok a=>k a
 | .er x=>.er x
 | .st=>.st
noncomputable def sNx:DS->SR:=fun ρ=>.nx ρ
noncomputable def z1e (g1 g2:DS->SR):DS->SR:=fun ρ=>match g1 ρ with
 | .nx ρ'=>g2 ρ'
 | r=>r
noncomputable def see (ρ:DS):DE:=ρ.map (Sl.see true)
noncomputable def sIf (t:DE->R Bool) (g1 g2:DS->SR):DS->SR:=fun ρ=>(t (see ρ)).toS fun b=>if b=true then g1 ρ else g2 ρ
noncomputable def z34 (fr:Bool) (i:Nat) (m:List Bool) (f:DE->R D):DS->SR:=fun ρ=>(f (vis m ρ)).toS fun d=>.nx (ziz fr i d (z68 (keeps fr d) m ρ))
noncomputable def z3p (m:List Bool) (f:DE->R D):DS->SR:=fun ρ=>(f (vis m ρ)).toS fun d=>.rt d
noncomputable def zvg:DS->SR:=fun _=>.rt .non
noncomputable def zvh (i:Nat):DS->SR:=fun ρ=>match ρ[i]? with
 | some (.ow d)=>.rt d
 | _=>.st
noncomputable def zj0 (f:DE->R D):DS->SR:=fun ρ=>(f (see ρ)).toS fun _=>.nx ρ
section
variable {K:Frag} {EX:XW} {fr:Bool} {Hc Hb H0 H H':Hp} {ρ:DS} {U:St} {De:Ends} {m:List Bool}
theorem SK.toS {α:Type} {r:R α} {k:α->SR}:SK K EX fr Hc Hb De (r.toS k)=Rk EX.at r fun a=>SK K EX fr Hc Hb De (k a):=by cases r<;>rfl
theorem z8x:∀(ρ:DS),vis (List.replicate ρ.length true) ρ=see ρ
 | []=>rfl
 | s::r=>by
  show s.see true::vis (List.replicate r.length true) r=_
  rw [z8x r];rfl
theorem RS.extE (R:RS K Hc Hb H0 ρ U H) (m:List Bool):Ext Hc Hb (HeOf m ρ U H0 H) H:=
 ⟨R.ext.1.trans (R.he0 m),R.heH m,fun a h1 h2=>by
  have hb:¬Msk m ρ U a:=fun z=>h1 (R.msk z).2.1
  rw [z4e hb];exact R.ext.2.2 a h1 h2⟩
theorem RS.te (I:RS K Hc Hb H0 ρ U H) (sb:Same EX.hb Hb) {f:DE->R D} {fr':Bool} {k:D->Prop} {Q:VK} (h:Rk EX.at (f (vis m ρ)) k)
  (hk:∀d,k d->∀v H' H0n,RS K Hc Hb H0n (z68 (keeps fr' d) m ρ) U H'->Apt K fr' Hb H0n (z68 (keeps fr' d) m ρ) U H' d v->Q v H'):TEd K EX fr' f U H Q:=
 ⟨sb.trans I.sb,vis m ρ,HeOf m ρ U H0 H,I.heH m,I.re m,h.mono fun d z v H' o=>by
  obtain ⟨H0n,R',a⟩:=I.out o
  exact hk d z v H' H0n R' a⟩
theorem RS.tt (I:RS K Hc Hb H0 ρ U H) (sb:Same EX.hb Hb) {f:DE->R Bool} {k:Bool->Prop} {Q:Bool->Hp->Prop} (h:Rk EX.at (f (see ρ)) k) (hk:∀b,k b->∀H',RS K Hc Hb H0 ρ U H'->Q b H'):TTd K EX f U H Q:=by
 refine ⟨sb.trans I.sb,see ρ,HeOf (List.replicate ρ.length true) ρ U H0 H,I.heH _,?_,h.mono fun b z H' s=>hk b z H' (I.grow s)⟩
 rw [<-z8x];exact I.re _
theorem zyv (h:TSd K EX fr sNx De U H):zpp De U H:=by
 obtain ⟨Hc,Hb,H0,ρ,sb,R,h⟩:=h
 exact h U H H0 R
theorem zqk {g1 g2:DS->SR} (h:TSd K EX fr (z1e g1 g2) De U H):zul (TSd K EX fr g1) (TSd K EX fr g2) De U H:=by
 obtain ⟨Hc,Hb,H0,ρ,sb,R,h⟩:=h
 refine ⟨Hc,Hb,H0,ρ,sb,R,?_⟩
 unfold z1e at h
 cases q:g1 ρ with
 | nx ρ'=>rw [q] at h;exact fun σ' H' H0' R'=>⟨Hc,Hb,H0',ρ',sb,R',h⟩
 | bk ρ'=>rw [q] at h;exact h
 | ct ρ'=>rw [q] at h;exact h
 | rt d=>rw [q] at h;exact h
 | er x=>rw [q] at h;exact h
 | st=>rw [q] at h;exact h
theorem zvi {t:DE->R Bool} {g1 g2:DS->SR} (h:TSd K EX fr (sIf t g1 g2) De U H):zxm (TTd K EX t) (TSd K EX fr g1) (TSd K EX fr g2) De U H:=by
 obtain ⟨Hc,Hb,H0,ρ,sb,R,h⟩:=h
 unfold sIf at h
 rw [SK.toS] at h
 refine R.tt sb h fun b h H' R'=>?_
 cases b with
 | true=>exact ⟨Hc,Hb,H0,ρ,sb,R',h⟩
 | false=>exact ⟨Hc,Hb,H0,ρ,sb,R',h⟩
theorem zql {i:Nat} {f:DE->R D} {fr':Bool} (h:TSd K EX fr (z34 fr' i m f) De U H):zp8 (TEd K EX fr' f) (z66 i) De U H:=by
 obtain ⟨Hc,Hb,H0,ρ,sb,R,h⟩:=h
 unfold z34 at h
 rw [SK.toS] at h
 exact R.te sb h fun d h v H' H0n R' a=>h _ H' H0n (R'.put a i)
theorem zvj {f:DE->R D} (h:TSd K EX fr (z3p m f) De U H):zxl (TEd K EX fr f) De U H:=by
 obtain ⟨Hc,Hb,H0,ρ,sb,R,h⟩:=h
 unfold z3p at h
 rw [SK.toS] at h
 exact ⟨sb.trans R.sb,vis m ρ,HeOf m ρ U H0 H,R.heH m,R.re m,h.mono fun d z v H' o=>z v H' (o.after R.sb (R.extE m))⟩
theorem RS.mutate (R:RS K Hc Hb H0 ρ U H) {i:Nat} {d d':D} {a:Addr} {o:HO} (h:ρ[i]?=some (.ow d)) (ha:U[i]?=some (some (.ref a))) (ob:OB K H0 (upd H a o) a d'):RS K Hc Hb H0 (ρ.set i (.ow d')) U (upd H a o):=by
 obtain ⟨a',q1,q2,q3,q4⟩:=R.ow i d h
 rw [ha] at q1;cases q1
 have hi:i<ρ.length:=(List.getElem?_eq_some_iff.mp h).1
 have other:∀{j:Nat} {s:Sl},j≠i->(ρ.set i s)[j]?=ρ[j]?:=fun {j s} h=>by rw [List.getElem?_set_ne (Ne.symm h)]
 have here:(ρ.set i (.ow d'))[i]?=some (.ow d'):=by rw [List.getElem?_set_self hi]
 have sm:∀{H1:Hp},Same H1 H->H1 a=none->Same H1 (upd H a o):=fun s n=>s.upd_at n
 refine ⟨sm R.sb q3,⟨R.ext.1,sm R.ext.2.1 q2,R.ext.2.2⟩,by rw [List.length_set];exact R.len,fun j d2 q=>?_,fun j d2 q=>?_,fun j k d1 d2 b z1 z2=>?_⟩
 . have hj:j≠i:=fun z=>by subst z;rw [here] at q;cases q
   rw [other hj] at q
   exact R.im j d2 q
 . by_cases hj:j=i
   . subst hj
     rw [here] at q;cases q
     exact ⟨a,ha,q2,q3,ob⟩
   . rw [other hj] at q
     obtain ⟨b,h1,h2,h3,h4⟩:=R.ow j d2 q
     have hb:b≠a:=fun z=>hj (R.ap j i d2 d b q h h1 (by rw [z];exact ha))
     exact ⟨b,h1,h2,h3,h4.at (z0d hb)⟩
 . have back:∀{j:Nat} {d1:D},(ρ.set i (.ow d'))[j]?=some (.ow d1)->∃d0,ρ[j]?=some (.ow d0):=fun {j d1} z=>by
    by_cases hj:j=i
    . subst hj;exact ⟨d,h⟩
    . rw [other hj] at z;exact ⟨_,z⟩
   obtain ⟨e1,z1⟩:=back z1
   obtain ⟨e2,z2⟩:=back z2
   exact R.ap j k e1 e2 b z1 z2
def zvk (K:Frag) (mt:D->List D->Option D) (r:V->List V->Hp->VK->Prop):Prop:=∀(H0 H:Hp) (a:Addr) (d d':D) (ds:List D) (vs:List V) (Q:VK),Same H0 H->H0 a=none->OB K H0 H a d->RDs K H0 ds vs->mt d ds=some d' ->
 (∀v o,OB K H0 (upd H a o) a d'->Q v (upd H a o))->r (.ref a) vs H Q
noncomputable def isT (T:String):D->Bool
 | .lst _=>T=="list"
 | .dk _ _=>T=="dict"
 | .dt _ _=>T=="dict"
 | _=>false
def TyD (K:Frag) (T:String):Prop:=∀(H0 H:Hp) (a:Addr) (d:D),OB K H0 H a d->isT T d=true->tyV K T (.ref a) H
noncomputable def zmv (T:String) (mt:D->List D->Option D) (i:Nat) (m:List Bool) (fs:DE->R (List D)):DS->SR:=fun ρ=>match ρ[i]? with
 | some (.ow d0)=>if isT T d0=true then (fs (vis m ρ)).toS fun ds=>match (z68 (z3z ds) m ρ)[i]? with
  | some (.ow d)=>(R.of (mt d ds)).toS fun d'=>.nx ((z68 (z3z ds) m ρ).set i (.ow d'))
  | _=>.st
  else .st
 | _=>.st
theorem zvl {T:String} {mt:D->List D->Option D} {r:V->List V->Hp->VK->Prop} {i:Nat} {fs:DE->R (List D)} (hm:zvk K mt r) (hT:TyD K T) (h:TSd K EX fr (zmv T mt i m fs) De U H) :
  zf3 (tBM K T r (zew i) (TAd K EX fs)) De U H:=by
 obtain ⟨Hc,Hb,H0,ρ,sb,R,h⟩:=h
 unfold zmv at h
 split at h
 . rename_i d0 q0
   split at h
   . rename_i hty
     rw [SK.toS] at h
     obtain ⟨a,h1,h2,h3,h4⟩:=R.ow i d0 q0
     unfold zf3 tBM zew
     rw [h1]
     refine ⟨hT H0 H a d0 h4 hty,sb.trans R.sb,vis m ρ,HeOf m ρ U H0 H,R.heH m,R.re m,h.mono fun ds h vs H' H0' s e rds=>?_⟩
     obtain ⟨H0n,R',rd'⟩:=R.outs s e rds
     split at h
     . rename_i d q
       rw [SK.toS] at h
       obtain ⟨d',hd',h⟩:=h.of
       obtain ⟨a',z1,z2,z3,z4⟩:=R'.ow i d q
       rw [h1] at z1;cases z1
       exact hm H0n H' a d d' ds vs _ R'.ext.2.1 z2 z4 rd' hd' fun v o ob=>h U _ H0n (R'.mutate q h1 ob)
     . exact h.elim
   . exact h.elim
 . exact h.elim
noncomputable def zvm (T:String) (mt:D->List D->Option D) (i:Nat):DS->SR:=fun ρ=>match ρ[i]? with
 | some (.ow d)=>if isT T d=true then (R.of (mt d [])).toS fun d'=>.nx (ρ.set i (.ow d')) else .st
 | _=>.st
def zy2 (K:Frag) (st:D->D->D->Option D) (r:zp7):Prop:=∀(H0 H:Hp) (a:Addr) (d d' dk dv:D) (y v:V) (Q:Hp->Prop),Same H0 H->H0 a=none->OB K H0 H a d->RD K H0 dk y->RD K H0 dv v->st d dk dv=some d' ->
 (∀o,OB K H0 (upd H a o) a d'->Q (upd H a o))->r (.ref a) y v H Q
noncomputable def zig (st:D->D->D->Option D) (i:Nat) (m:List Bool) (fk fv:DE->R D):DS->SR:=fun ρ=>(fv (vis m ρ)).toS fun dv=>match (z68 (keeps false dv) m ρ)[i]? with
 | some (.ow _)=>(fk (vis m (z68 (keeps false dv) m ρ))).toS fun dk=>(match (z68 (keeps false dk) m (z68 (keeps false dv) m ρ))[i]? with
  | some (.ow d)=>(R.of (st d dk dv)).toS fun d'=>.nx ((z68 (keeps false dk) m (z68 (keeps false dv) m ρ)).set i (.ow d'))
  | _=>.st)
 | _=>.st
theorem Apt.rd {ρ:DS} {d:D} {v:V} (a:Apt K false Hb H0 ρ U H d v):RD K H0 d v:=by
 unfold Apt at a
 rw [if_neg Bool.false_ne_true] at a;exact a
end
section
variable {K:Frag} {EX:XW} {fr:Bool} {Hc Hb H0 H H':Hp} {ρ:DS} {U:St} {De:Ends} {m:List Bool}
theorem zqm {st:D->D->D->Option D} {r:zp7} {i:Nat} {fk fv:DE->R D} (hs:zy2 K st r) (h:TSd K EX fr (zig st i m fk fv) De U H) :
  zp8 (TEd K EX false fv) (zua (zew i) (TEd K EX false fk) r) De U H:=by
 obtain ⟨Hc,Hb,H0,ρ,sb,I,h⟩:=h
 unfold zig at h
 rw [SK.toS] at h
 refine I.te sb h fun dv h v H1 H1n I1 a1=>?_
 split at h
 . rename_i d0 q0
   rw [SK.toS] at h
   obtain ⟨a,h1,h2,h3,h4⟩:=I1.ow i d0 q0
   unfold zua zew
   rw [h1]
   refine ⟨sb.trans I1.sb,vis m _,HeOf m _ U H1n H1,I1.heH m,I1.re m,h.mono fun dk h y H2 o2=>?_⟩
   obtain ⟨s2,H2',e2,r2⟩:=o2.rd
   obtain ⟨H2n,I2,tk,eq,hn,sub⟩:=I1.frame s2 e2 (keeps false dk)
   have r2':RD K H2n dk y:=by
    cases hk:keeps false dk with
    | true=>exact r2.tk tk (by simpa [keeps] using hk)
    | false=>rw [eq hk];exact r2
   split at h
   . rename_i d q
     rw [SK.toS] at h
     obtain ⟨d',hd',h⟩:=h.of
     obtain ⟨a',z1,z2,z3,z4⟩:=I2.ow i d q
     rw [h1] at z1;cases z1
     exact hs H2n H2 a d d' dk dv y v _ I2.ext.2.1 z2 z4 r2' (a1.rd.mono sub) hd' fun o ob=>h U _ H2n (I2.mutate q h1 ob)
   . exact h.elim
 . exact h.elim
inductive Tg where
 | n (i:Nat) | t (is:List Nat)
noncomputable def zcr:List Nat->List D->DS->DS
 | i::is,d::ds,ρ=>zcr is ds (ziz false i d ρ)
 | _,_,ρ=>ρ
noncomputable def items:D->Option (List D)
 | .tup ds=>some ds
 | .lst ds=>some ds
 | _=>none
noncomputable def zkm:Tg->D->DS->Option DS
 | .n i,d,ρ=>some (ziz false i d ρ)
 | .t is,d,ρ=>(items d).bind fun ds=>if ds.length=is.length then some (zcr is ds ρ) else none
noncomputable def TGd (K:Frag) (tg:Tg):TG:=fun v U H Q=>∃Hc Hb H0 ρ d ρ',RS K Hc Hb H0 ρ U H/\RD K H0 d v/\zkm tg d ρ=some ρ'/\∀σ',RS K Hc Hb H0 ρ' σ' H->Q σ' H
theorem RS.putI (I:RS K Hc Hb H0 ρ U H) {d:D} {v:V} (r:RD K H0 d v) (i:Nat):RS K Hc Hb H0 (ziz false i d ρ) (U.set i (some v)) H:=
 I.put (fr:=false) (by unfold Apt;rw [if_neg Bool.false_ne_true];exact r) i
theorem zyw {i:Nat} {v:V} {Q:St->Hp->Prop} (h:TGd K (.n i) v U H Q):z66 i v U H Q:=by
 obtain ⟨Hc,Hb,H0,ρ,d,ρ',I,r,e,q⟩:=h
 simp only [zkm,Option.some.injEq] at e
 subst e
 exact q _ (I.putI r i)
noncomputable def z61:List Nat->TGs
 | []=>zq6
 | i::is=>zkk (z66 i) (z61 is)
theorem z6s:∀(is:List Nat) {ds:List D} {xs:List V} {ρ:DS} {U:St} {Q:St->Hp->Prop},RS K Hc Hb H0 ρ U H->RDs K H0 ds xs->ds.length=is.length->(∀σ',RS K Hc Hb H0 (zcr is ds ρ) σ' H->Q σ' H)->z61 is xs U H Q
 | [],[],_,ρ,U,Q,I,r,_,q=>by
  simp only [RDs] at r;subst r
  exact q U I
 | [],_::_,_,_,_,_,_,_,hl,_=>by simp at hl
 | _::_,[],_,_,_,_,_,_,hl,_=>by simp at hl
 | i::is,d::ds,_,ρ,U,Q,I,r,hl,q=>by
  simp only [RDs] at r
  obtain ⟨x,xs,rfl,r1,r2⟩:=r
  exact z6s is (I.putI r1 i) r2 (by simpa using hl) q
theorem zy3 {is:List Nat} {v:V} {Q:St->Hp->Prop} (h:TGd K (.t is) v U H Q):ze4 is.length (z61 is) v U H Q:=by
 obtain ⟨Hc,Hb,H0,ρ,d,ρ',I,r,e,q⟩:=h
 simp only [zkm] at e
 cases d<;>simp only [items,Option.bind_none,Option.bind_some] at e<;>first | cases e | skip
 . rename_i ds
   split at e
   . rename_i hl
     cases e
     simp only [RD] at r
     obtain ⟨a,xs,rfl,ha,rs⟩:=r
     unfold ze4
     simp only [I.ext.2.1 a _ ha]
     exact ⟨by rw [<-rs.length];exact hl,z6s is I rs hl q⟩
   . cases e
 . rename_i ds
   split at e
   . rename_i hl
     cases e
     simp only [RD] at r
     obtain ⟨a,xs,rfl,ha,rs⟩:=r
     unfold ze4
     simp only [I.ext.2.1 a _ ha]
     exact ⟨by rw [<-rs.length];exact hl,z6s is I rs hl q⟩
   . cases e
noncomputable def zyx (tg:Tg) (m:List Bool) (f:DE->R D):DS->SR:=fun ρ=>(f (vis m ρ)).toS fun d=>match zkm tg d (z68 (keeps false d) m ρ) with
 | some ρ'=>.nx ρ'
 | none=>.st
noncomputable def Hno:Hp:=fun _=>none
def zqn (K:Frag) (J:It) (H0:Hp) (ds:List D):Prop:=
 (∀(i:Nat) d,ds[i]?=some d->∀H H1,Same H0 H1->Same H1 H->J.go i H/\∀x H',J.yld i H x H'->Same H H'/\∃H1',Ext H1 H H1' H'/\RD K H1' d x)/\∀H,Same H0 H->J.stop ds.length H
noncomputable def TId (K:Frag) (EX:XW) (kp:Bool) (f:DE->R (List D)):TI:=fun U H Q=>Same EX.hb H/\∃ρ H0,Same H0 H/\RE K H0 ρ U/\Rk EX.at (f ρ) fun ds=>∀J H' H0',Same H H'->Ext H0 H H0' H'->zqn K J (if kp=true then Hno else H0') ds->Q J H'
noncomputable def ze5 (tg:Tg) (g:DS->SR):List D->DS->SR
 | [],ρ=>.nx ρ
 | d::ds,ρ=>match zkm tg d ρ with
  | none=>.st
  | some ρ1=>match g ρ1 with
   | .nx ρ2=>ze5 tg g ds ρ2
   | .ct ρ2=>ze5 tg g ds ρ2
   | .bk ρ2=>.nx ρ2
   | .rt d=>.rt d
   | .er x=>.er x
   | .st=>.st
noncomputable def zbd (kp:Bool) (m:List Bool) (f:DE->R (List D)) (tg:Tg) (g:DS->SR):DS->SR:=fun ρ=>(f (vis m ρ)).toS fun ds=>ze5 tg g ds (z68 kp m ρ)
theorem Ext.base {Hc':Hp} (a:Ext Hc Hb Hc' H) (b:Ext Hc' Hb H0 H'):Ext Hc Hb H0 H':=⟨a.1.trans b.1,b.2.1,fun c h1 h2=>b.2.2 c h1 (a.2.2 c h1 h2)⟩
theorem RS.base {Hc' H1:Hp} (a:Ext Hc Hb Hc' H1) (I:RS K Hc' Hb H0 ρ U H):RS K Hc Hb H0 ρ U H:=⟨I.sb,a.base I.ext,I.len,I.im,I.ow,I.ap⟩
theorem RS.self (I:RS K Hc Hb H0 ρ U H):RS K H0 Hb H0 ρ U H:=⟨I.sb,⟨Same.refl _,I.ext.2.1,fun _ _ z=>z⟩,I.len,I.im,I.ow,I.ap⟩
theorem Out.base {Hc':Hp} {d:D} {v:V} (a:Ext Hc Hb Hc' H) (o:Out K fr Hc' Hb d v H'):Out K fr Hc Hb d v H':=by
 obtain ⟨s,H0',e,r⟩:=o
 exact ⟨s,H0',a.base e,r⟩
theorem RS.sees {H1':Hp} (I:RS K Hc Hb H0 ρ U H) (s:Same H H') (e:Ext H0 H H1' H'):RS K Hc Hb H1' ρ U H':=
 ⟨I.sb.trans s,⟨I.ext.1.trans e.1,e.2.1,fun a h1 h2=>e.2.2 a (I.sb.ne h1) (I.ext.2.2 a h1 h2)⟩,I.len,fun i d q=>by
  obtain ⟨v,h1,h2⟩:=I.im i d q
  exact ⟨v,h1,h2.mono e.1⟩,fun i d q=>by
  obtain ⟨a,h1,h2,h3,h4⟩:=I.ow i d q
  obtain ⟨u,hu,_⟩:=h4.some
  exact ⟨a,h1,e.2.2 a (z6r hu) h2,h3,h4.mono e.1 s⟩,I.ap⟩
theorem zqo {kp:Bool} {f:DE->R (List D)} {tg:Tg} {g:DS->SR} (h:TSd K EX fr (zbd kp m f tg g) De U H):zq5 (TId K EX kp f) (TGd K tg) (TSd K EX fr g) De U H:=by
 obtain ⟨Hc,Hb,H0,ρ,sb,I,h⟩:=h
 unfold zbd at h
 rw [SK.toS] at h
 refine ⟨sb.trans I.sb,vis m ρ,HeOf m ρ U H0 H,I.heH m,I.re m,h.mono fun ds h J H1 H1' s1 e1 it=>?_⟩
 obtain ⟨Hn,I1,tk,eq,hn,sub⟩:=I.frame s1 e1 kp
 have it':zqn K J Hn ds:=by
  cases kp with
  | true=>
   rw [if_pos rfl] at it
   exact ⟨fun i d q H H1 a b=>it.1 i d q H H1 (fun _ _ z=>nomatch z) b,fun H a=>it.2 H fun _ _ z=>nomatch z⟩
  | false=>rw [if_neg Bool.false_ne_true,<-eq rfl] at it;exact it
 have ex1:Ext Hc Hb Hn H1:=I1.ext
 refine ⟨fun i mm U H=>mm=ds.length - i/\i<=ds.length/\∃ρ H0,RS K Hn Hb H0 ρ U H/\SK K EX fr Hc Hb De (ze5 tg g (ds.drop i) ρ),⟨ds.length,by simp,Nat.zero_le _,_,Hn,I1.self,h⟩,?_⟩
 rintro i mm U H ⟨rfl,hi,ρ,H0,I2,h⟩
 have sn:Same Hn H0:=I2.ext.1
 by_cases hlt:i<ds.length
 . have hd:ds[i]?=some ds[i]:=by simp [hlt]
   obtain ⟨hgo,hy⟩:=it'.1 i _ hd H H0 sn I2.ext.2.1
   have hdr:ds.drop i=ds[i]::ds.drop (i+1):=List.drop_eq_getElem_cons hlt
   rw [hdr] at h
   refine .inr ⟨hgo,fun σ' H'=>∃ρ' H0',RS K Hn Hb H0' ρ' σ' H'/\SK K EX fr Hc Hb De (ze5 tg g (ds.drop (i+1)) ρ'),fun σ' H' ⟨ρ',H0',q⟩=>⟨ds.length - (i+1),by omega,rfl,hlt,ρ',H0',q⟩,fun x H' y=>?_⟩
   obtain ⟨s3,H3,e3,r3⟩:=hy x H' y
   have I3:=I2.sees s3 e3
   unfold ze5 at h
   split at h
   . exact h.elim
   . rename_i ρ1 q1
     refine ⟨Hn,Hb,H3,ρ,ds[i],ρ1,I3,r3,q1,fun σ' I4=>⟨Hn,Hb,H3,ρ1,sb,I4,?_⟩⟩
     cases qg:g ρ1 with
     | nx ρ2=>rw [qg] at h;exact fun σ5 H5 H05 I5=>⟨ρ2,H05,I5,h⟩
     | ct ρ2=>rw [qg] at h;exact fun σ5 H5 H05 I5=>⟨ρ2,H05,I5,h⟩
     | bk ρ2=>rw [qg] at h;exact fun σ5 H5 H05 I5=>h σ5 H5 H05 (I5.base ex1)
     | rt d=>rw [qg] at h;exact fun v H5 o=>h v H5 (o.base ex1)
     | er x=>rw [qg] at h;exact h
     | st=>rw [qg] at h;exact h
 . have e:i=ds.length:=by omega
   subst e
   rw [List.drop_length] at h
   refine .inl ⟨it'.2 H (sn.trans I2.ext.2.1),?_⟩
   exact h U H H0 (I2.base ex1)
noncomputable def z31 (t:DE->R Bool) (g:DS->SR):Nat->DS->SR
 | 0,_=>.st
 | n+1,ρ=>(t (see ρ)).toS fun b=>if b=true then (match g ρ with
  | .nx ρ2=>z31 t g n ρ2
  | .ct ρ2=>z31 t g n ρ2
  | .bk ρ2=>.nx ρ2
  | .rt d=>.rt d
  | .er x=>.er x
  | .st=>.st) else .nx ρ
noncomputable def zcs (n:Nat) (t:DE->R Bool) (g:DS->SR):DS->SR:=z31 t g n
theorem zmw {n:Nat} {t:DE->R Bool} {g:DS->SR} (h:TSd K EX fr (zcs n t g) De U H):zki (TTd K EX t) (TSd K EX fr g) De U H:=by
 obtain ⟨Hc,Hb,H0,ρ,sb,I,h⟩:=h
 refine ⟨fun mm U H=>∃ρ H0,RS K Hc Hb H0 ρ U H/\SK K EX fr Hc Hb De (z31 t g mm ρ),⟨n,ρ,H0,I,h⟩,?_⟩
 rintro mm U H ⟨ρ,H0,I,h⟩
 cases mm with
 | zero=>exact h.elim
 | succ mm=>
  unfold z31 at h
  rw [SK.toS] at h
  refine I.tt sb h fun b h H' I'=>?_
  cases b with
  | false=>exact h U H' H0 I'
  | true=>
   rw [if_pos rfl] at h ⊢
   refine ⟨fun σ' H'=>∃ρ' H0',RS K Hc Hb H0' ρ' σ' H'/\SK K EX fr Hc Hb De (z31 t g mm ρ'),fun σ' H' q=>⟨mm,Nat.lt_succ_self _,q⟩,Hc,Hb,H0,ρ,sb,I',?_⟩
   cases qg:g ρ with
   | nx ρ2=>rw [qg] at h;exact fun σ5 H5 H05 I5=>⟨ρ2,H05,I5,h⟩
   | ct ρ2=>rw [qg] at h;exact fun σ5 H5 H05 I5=>⟨ρ2,H05,I5,h⟩
   | bk ρ2=>rw [qg] at h;exact fun σ5 H5 H05 I5=>h σ5 H5 H05 I5
   | rt d=>rw [qg] at h;exact fun v H5 o=>h v H5 o
   | er x=>rw [qg] at h;exact h
   | st=>rw [qg] at h;exact h
noncomputable def R.noE {α:Type} (r:R α):R α:=match r with
 | .er _=>.st
 | r=>r
theorem Rk.noE {α:Type} {EX EX':Ex->Prop} {r:R α} {k:α->Prop} (h:Rk EX r.noE k):Rk EX' r k:=by
 cases r with
 | ok a=>exact h
 | er x=>exact h.elim
 | st=>exact h
def BD (K:Frag) (bn:D->Option (List D)) (B:V->Hp->(List V->Hp->Prop)->Prop):Prop:=∀(H0 H:Hp) (x:V) (d:D) (ds:List D) (Q:List V->Hp->Prop),Same H0 H->RD K H0 d x->bn d=some ds->(∀vs,RDs K H0 ds vs->Q vs H)->B x H Q
noncomputable def b1:D->Option (List D):=fun d=>some [d]
noncomputable def bT (n:Nat):D->Option (List D)
 | .tup ds=>if ds.length=n then some ds else none
 | _=>none
theorem zyy:BD K b1 cB1:=fun H0 H x d ds Q s r e q=>by
 simp only [b1,Option.some.injEq] at e
 subst e
 exact q [x] (.one r)
theorem zyz {n:Nat}:BD K (bT n) (cBT n):=fun H0 H x d ds Q s r e q=>by
 cases d<;>simp only [bT] at e<;>first | cases e | skip
 rename_i es
 split at e
 . rename_i hl
   cases e
   simp only [RD] at r
   obtain ⟨a,xs,rfl,ha,rs⟩:=r
   unfold cBT
   simp only [s a _ ha]
   exact ⟨by rw [<-rs.length];exact hl,q xs rs⟩
 . cases e
noncomputable def sel (ix:List Nat) (ρ:DE):DE:=ix.map fun j=>(ρ[j]?).getD none
noncomputable def z4m (bn:D->Option (List D)) (t:DE->R Bool) (f:DE->R D) (cs:DE):List D->R (List D)
 | []=>.ok []
 | d::ds=>(R.of (bn d)).bind fun bs=>(t (bs.map some++cs)).noE.bind fun b=>if b=true then (f (bs.map some++cs)).noE.bind fun y=>(z4m bn t f cs ds).bind fun ys=>.ok (y::ys) else z4m bn t f cs ds
noncomputable def z1k (fi:DE->R (List D)) (bn:D->Option (List D)) (ix:List Nat) (t:DE->R Bool) (f:DE->R D):DE->R D:=fun ρ=>(fi ρ).bind fun ds=>if ds.length<=100000 then (z4m bn t f (sel ix ρ) ds).bind fun ys=>.ok (.lst ys) else .st
theorem RE.sel {ρ:DE} {vs:List V} {ds:List D} (h:RE K H0 ρ U) (r:RDs K H0 ds vs) (ix:List Nat):RE K H0 (ds.map some++sel ix ρ) (vs.map some++zif ix U):=by
 have hl:=r.length
 refine ⟨by simp [L2.sel,zif,hl],fun i d e=>?_⟩
 by_cases hi:i<ds.length
 . rw [List.getElem?_append_left (by simpa using hi),List.getElem?_map] at e
   rw [List.getElem?_append_left (by simpa [<-hl] using hi),List.getElem?_map]
   cases q:ds[i]? with
   | none=>rw [q] at e;cases e
   | some d'=>
    rw [q] at e;cases e
    obtain ⟨x,h1,h2⟩:=r.get' q
    exact ⟨x,by rw [h1];rfl,h2⟩
 . rw [List.getElem?_append_right (by simpa using hi)] at e
   rw [List.getElem?_append_right (by simpa [<-hl] using hi)]
   simp only [List.length_map] at e ⊢
   rw [<-hl]
   unfold L2.sel at e
   unfold zif
   rw [List.getElem?_map] at e ⊢
   cases q:ix[i - ds.length]? with
   | none=>rw [q] at e;cases e
   | some j=>
    rw [q] at e
    simp only [Option.map_some,Option.some.injEq] at e ⊢
    cases qj:ρ[j]? with
    | none=>rw [qj] at e;cases e
    | some o=>
     rw [qj] at e
     simp only [Option.getD_some] at e
     subst e
     obtain ⟨v,h1,h2⟩:=h.2 j d qj
     exact ⟨v,by rw [h1];rfl,h2⟩
theorem z54 {n:Nat} (h:n<100000):n<sizeLine:=Nat.lt_of_lt_of_le h (by decide)
theorem zkn {kp:Bool} {fi:DE->R (List D)} {bn:D->Option (List D)} {B:V->Hp->(List V->Hp->Prop)->Prop} {ix:List Nat} {t:DE->R Bool} {f:DE->R D} {Q:VK} {tt:TT} (hB:BD K bn B) (htt:∀U H Q,TTd K F0 t U H Q->tt U H Q)
  (h:TEd K EX true (z1k fi bn ix t f) U H Q):zis (TId K EX kp fi) B ix tt (TEd K F0 false f) U H Q:=by
 obtain ⟨sx,ρ,H0,s,e,h⟩:=h
 unfold z1k at h
 rw [Rk.bind] at h
 refine ⟨sx,ρ,H0,s,e,h.mono fun ds h J H1 H1' s1 e1 it D hD=>?_⟩
 split at h
 . rename_i hsz
   rw [Rk.bind] at h
   have it':zqn K J H1' ds:=by
    cases kp with
    | true=>rw [if_pos rfl] at it;exact ⟨fun i d q H H1 a b=>it.1 i d q H H1 (fun _ _ z=>nomatch z) b,fun H a=>it.2 H fun _ _ z=>nomatch z⟩
    | false=>rw [if_neg Bool.false_ne_true] at it;exact it
   have e':=e.mono e1.1
   have hDn:H1' D=none:=e1.2.1.none hD
   refine ⟨fun i mm ys H2=>mm=ds.length - i/\i<=ds.length/\ys.length<=i/\∃acc H2',Same H1 H2/\H2 D=some (.lst ys)/\Ext H1' H1 H2' H2/\H2' D=none/\RDs K H2' acc ys /\
    Rk EX.at (z4m bn t f (L2.sel ix ρ) (ds.drop i)) fun rest=>∀v H',Out K true H0 H (.lst (acc++rest)) v H'->Q v H',⟨ds.length,by simp,Nat.zero_le _,Nat.le_refl _,[],H1',Same.upd_new hD,z0w,(Ext.refl e1.2.1).grow (Same.upd_new hD),hDn,.nil,h⟩,?_⟩
   rintro i mm ys H2 ⟨rfl,hi,hys,acc,H2',s2,hd2,e2,hdn2,r2,h⟩
   refine ⟨hd2,?_⟩
   by_cases hlt:i<ds.length
   . have hd:ds[i]?=some ds[i]:=by simp [hlt]
     obtain ⟨hgo,hy⟩:=it'.1 i _ hd H2 H2' e2.1 e2.2.1
     have hdr:ds.drop i=ds[i]::ds.drop (i+1):=List.drop_eq_getElem_cons hlt
     rw [hdr] at h
     unfold z4m at h
     rw [Rk.bind] at h
     obtain ⟨bs,hbs,h⟩:=h.of
     rw [Rk.bind] at h
     refine .inr ⟨hgo,fun x H3 y=>?_⟩
     obtain ⟨s3,H3',e3,r3⟩:=hy x H3 y
     refine hB H3' H3 x _ bs _ e3.2.1 r3 hbs fun vs rvs=>?_
     have en:=(e'.mono (e2.1.trans e3.1)).sel rvs ix
     have e23:=e2.trans s2 e3
     refine htt _ _ _ ⟨F0.same _,_,H3',e3.2.1,en,(Rk.noE h).mono fun b h H4 s4=>?_⟩
     have s14:=s2.trans (s3.trans s4)
     have hd4:H4 D=some (.lst ys):=s4 _ _ (s3 _ _ hd2)
     have hdn3:H3' D=none:=e3.2.2 D (z6r hd2) hdn2
     have e14:Ext H1' H1 H3' H4:=e23.grow s4
     cases b with
     | false=>
      rw [if_neg Bool.false_ne_true] at h
      dsimp only
      rw [if_neg Bool.false_ne_true]
      exact ⟨ds.length - (i+1),by omega,rfl,hlt,by omega,acc,H3',s14,hd4,e14,hdn3,r2.mono e3.1,h⟩
     | true=>
      rw [if_pos rfl] at h
      dsimp only
      rw [if_pos rfl]
      rw [Rk.bind] at h
      refine ⟨F0.same _,_,H3',e14.2.1,en,(Rk.noE h).mono fun y h w H5 o5=>?_⟩
      obtain ⟨s5,H5',e5,r5⟩:=o5.rd
      have hd5:H5 D=some (.lst ys):=s5 _ _ hd4
      have hdn5:H5' D=none:=e5.2.2 D (z6r hd4) hdn3
      have e15:=e14.trans s14 e5
      rw [Rk.bind] at h
      refine ⟨hd5,z54 (by omega),ds.length - (i+1),by omega,rfl,hlt,by rw [List.length_append];show ys.length+1<=i+1;omega,acc++[y],H5',(s14.trans s5).upd_at hD,z0w,⟨e15.1,e15.2.1.upd_at hdn5,e15.2.2⟩,hdn5,((r2.mono (e3.1.trans e5.1))).append (.one r5),?_⟩
      exact h.mono fun rest h v H' o=>h v H' (by simpa using o)
   . have ei:i=ds.length:=by omega
     subst ei
     rw [List.drop_length] at h
     refine .inl ⟨it'.2 H2 (e2.1.trans e2.2.1),h _ H2 ?_⟩
     rw [List.append_nil]
     refine Out.after s1 e1 (.fresh s2 e2 hD hdn2 ?_)
     simp only [OB]
     exact ⟨ys,hd2,r2⟩
 . exact h.elim
noncomputable def mOf (fr:Bool) (n k:Nat) (g:DS->SR):List D->R D:=fun ds=>if ds.length=n then (match g (ds.map .im++List.replicate k .em) with
 | .rt d=>.ok d
 | .nx _=>if fr=true then .st else .ok .non
 | .er x=>.er x
 | _=>.st) else .st
def xNm (mg:Str->Option Value) (E:XK) (x:Ex) (H:Hp):Prop:=∃C,mg (x.cls:Str)=some (.ref C)/\E (.ref C) none H
noncomputable def spD (K:Frag) (mg:Str->Option Value) (fr:Bool) (m:List D->R D) (n:Nat):Sp:=fun vs H Q E=>∃ds H0,Same H0 H/\RDs K H0 ds vs/\ds.length=n/\Rk (XW.at ⟨H,xNm mg E⟩) (m ds) fun d=>∀v H',Out K fr H0 H d v H'->Q v H'
noncomputable def za6 (sp:Sp) (E:XK) (t:TA):TE:=fun U H Q=>t U H fun vs H1=>sp vs H1 Q E
theorem zqp {mg:Str->Option Value} {E:XK} {m:List D->R D} {n:Nat} {fs:DE->R (List D)} {Q:VK} (hl:∀ds,ds.length≠n->m ds=.st) (hE:∀x H,EX.p x H->xNm mg E x H) (h:TEd K EX fr (z17 m fs) U H Q):za6 (spD K mg fr m n) E (TAd K EX fs) U H Q:=by
 obtain ⟨sx,ρ,H0,s,e,h⟩:=h
 unfold z17 at h
 rw [Rk.bind] at h
 refine TAd.go sx s e h fun ds h vs H1 H1' s1 e1 r1=>?_
 refine ⟨ds,H1',e1.2.1,r1,?_,?_⟩
 . apply Classical.byContradiction
   intro hn
   rw [hl ds hn] at h
   exact h
 . cases q:m ds with
   | ok d=>rw [q] at h;exact fun v H' o=>h v H' (o.after s1 e1)
   | er x=>rw [q] at h;exact fun H' s'=>hE x H' (h H' ((sx.trans s1).trans s'))
   | st=>rw [q] at h;exact h
theorem zg3 {n k:Nat} {g:DS->SR} (ds:List D) (h:ds.length≠n):mOf fr n k g ds=.st:=by unfold mOf;rw [if_neg h]
theorem zj1 {vs:List V} {ds:List D} (s:Same H0 H) (r:RDs K H0 ds vs) (k:Nat):RS K H0 H H0 (ds.map .im++List.replicate k .em) (vs.map some++List.replicate k none) H:=by
 have hl:=r.length
 have noow:∀(i:Nat) d,(ds.map Sl.im++List.replicate k Sl.em)[i]?≠some (.ow d):=fun i d q=>by
  rcases List.mem_append.mp (List.mem_of_getElem? q) with z | z
  . obtain ⟨_,_,z⟩:=List.mem_map.mp z;cases z
  . have:=(List.mem_replicate.mp z).2;cases this
 refine ⟨Same.refl _,.refl s,by simp [hl],fun i d q=>?_,fun i d q=>absurd q (noow i d),fun i j d e a q=>absurd q (noow i d)⟩
 by_cases hi:i<ds.length
 . rw [List.getElem?_append_left (by simpa using hi),List.getElem?_map] at q
   rw [List.getElem?_append_left (by simpa [<-hl] using hi),List.getElem?_map]
   cases qd:ds[i]? with
   | none=>rw [qd] at q;cases q
   | some d'=>
    rw [qd] at q
    simp only [Option.map_some,Option.some.injEq,Sl.im.injEq] at q
    subst q
    obtain ⟨x,h1,h2⟩:=r.get' qd
    exact ⟨x,by rw [h1];rfl,h2⟩
 . rw [List.getElem?_append_right (by simpa using hi)] at q
   have:=(List.mem_replicate.mp (List.mem_of_getElem? q)).2
   cases this
theorem zqq {n k:Nat} {g:DS->SR} {vs:List V} {Q:VK} {E:XK} {mg:Str->Option Value} (h:spD K mg fr (mOf fr n k g) n vs H Q E) :
  TSd K ⟨H,xNm mg E⟩ fr g { nx:=fun _ H'=>Q .non H',rt:=Q } (vs.map some++List.replicate k none) H:=by
 obtain ⟨ds,H0,s,r,hn,h⟩:=h
 refine ⟨H0,H,H0,_,Same.refl _,zj1 s r k,?_⟩
 unfold mOf at h
 rw [if_pos hn] at h
 cases q:g (ds.map .im++List.replicate k .em) with
 | nx ρ=>
  rw [q] at h
  cases fr with
  | true=>exact h.elim
  | false=>exact fun U H' H0' I=>h _ H' (.val I.sb I.ext (by simp only [RD]))
 | rt d=>rw [q] at h;exact h
 | er x=>rw [q] at h;exact h
 | bk ρ=>rw [q] at h;exact h.elim
 | ct ρ=>rw [q] at h;exact h.elim
 | st=>rw [q] at h;exact h.elim
end
theorem ObjOk.there {P:Program} {w:World} {H:Hp} {h:Heap} {a:Addr} {o:HO} (x:ObjOk P w H h a o):∃ob,h.get? a=some ob:=by
 induction o with
 | lst xs=>obtain ⟨_,_,_,_,e⟩:=x;exact ⟨_,e⟩
 | tup xs=>obtain ⟨_,_,_,ob,e,_⟩:=x;exact ⟨_,e⟩
 | dK kvs=>obtain ⟨_,_,_,_,o,_,_,e,_⟩:=x;exact ⟨_,e⟩
 | dT kvs=>obtain ⟨_,_,_,_,o,_,_,e,_⟩:=x;exact ⟨_,e⟩
 | set S n=>obtain ⟨o,_,_,_,e,_⟩:=x;exact ⟨_,e⟩
 | ins C dx fs=>obtain ⟨_,_,_,e,_⟩:=x;exact ⟨_,e⟩
 | own y=>exact x
 | xd fs=>obtain ⟨_,⟨_,_,_,e,_⟩,_⟩:=x;exact ⟨_,e⟩
 | rng lo hi=>obtain ⟨_,_,_,e⟩:=x;exact ⟨_,e⟩
 | frz ob u ih=>exact ⟨_,x.1⟩
 | tbl ps=>exact ⟨_,x⟩
 | met f y=>exact ⟨_,x⟩
 | ext φ=>exact x.2.1
theorem HOk.none {P:Program} {w:World} {H:Hp} {h:Heap} {a:Addr} (x:HOk P w H h) (e:h.get? a=Option.none):H a=Option.none:=by
 cases q:H a with
 | none=>rfl
 | some o=>
  obtain ⟨ob,z⟩:=(x a o q).there
  rw [e] at z;cases z
def Fly (h0:Heap) (H':Hp) (C a:Addr) (h:Heap):Prop:=∃oe vs T oT ts a0,h.get? a=some oe/\oe.cls=.ref C/\vs[0]?=some a0/\oe.data=.fields vs/\vs[1]?=some (.ref T)/\T≠a/\h.get? T=some oT/\oT.data=.fields ts/\ts[3]?=some Value.none /\
 h0.get? a=none/\h0.get? T=none/\H' a=none/\H' T=none
structure XOut (P:Program) (w:World) (outer:List Env) (H:Hp) (s:Shared) (C a:Addr) (H':Hp) (s':Shared):Prop where
 os:s'.os=s.os
 bare:AllBare s'.gens
 un:Un (frs outer) [] H H' s.heap s'.heap
 hok:HOk P w H' s'.heap
 fly:Fly s.heap H' C a s'.heap
noncomputable def CX1 (P:Program) (w:World):CXT:=fun outer H s E e s'=>∃C a H',e=.ref a/\XOut P w outer H s C a H' s'/\E (.ref C) none H'
theorem za7 {l:List Addr} {h:Heap} {b:Addr} (e:(hideAll h l).get? b=none):b∈l\/h.get? b=none:=by
 by_cases hb:b∈l
 . exact .inl hb
 . cases q:h.get? b with
   | none=>exact .inr rfl
   | some o=>rw [hideAll_get l q hb] at e;cases e
section
variable {X:Cx} {pins:List (Addr×Obj)} {U:List (Option V)} {H1 H2:Hp} {s1 s2:Shared} {h' B:Heap} {Z:List Addr} {C a:Addr} {a0:Value}
theorem Inv.stack2 (I:Inv X pins U H1 s1) (un:Un (frs X.stack) [] H1 H2 s1.heap s2.heap):s2.heap.FunFrames X.base X.stack:=by
 have all:∀(l:List Env),(∀b∈frs l,b∈frs X.stack)->s1.heap.FunFrames X.base l->s2.heap.FunFrames X.base l:=by
  intro l
  induction l with
  | nil=>intro _ _;trivial
  | cons env r ih=>
   intro hs hl
   obtain ⟨hk,⟨L,o,hf,hn,ho,hd⟩,hr⟩:=hl
   have hL:L∈frs X.stack:=hs L (by unfold frs;rw [List.filterMap_cons,hf];exact List.mem_cons_self)
   obtain ⟨sl,e⟩:=un.slot L o ho (I.stkFree L hL) hL (by simp)
   exact ⟨hk,⟨L,_,hf,hn,e,hd⟩,ih (fun b hb=>hs b (by unfold frs;rw [List.filterMap_cons,hf];exact List.mem_cons_of_mem _ hb)) hr⟩
 exact all X.stack (fun _ hb=>hb) I.stack
theorem z83 (I:Inv X pins U H1 s1) (hst:X.stack=X.env::X.outer) (hex:X.ex=[]) (hos:s2.os=s1.os) (hbare:AllBare s2.gens) (un:Un (frs X.stack) [] H1 H2 s1.heap s2.heap) (hok:HOk X.prog X.w H2 s2.heap)
  (hZ:∀b∈Z,s1.heap.get? b=none/\H2 b=none) (ha:s1.heap.get? a=none) (hHa:H2 a=none) (keep:∀b o,s2.heap.get? b=some o->b∉Z->b∉frs X.stack->h'.get? b=some o)
  (up:s2.heap.UpToSlots h') (hB:∀b,B.get? b=none->b∈frs X.stack\/(s1.heap.get? b=none/\H2 b=none)) (hfl:Heap.FlyingW B X.outer a (.ref C) a0 h') :
  XOut X.prog X.w X.outer X.H₀ X.s₀ C a H2 { s2 with heap:=h' }:=by
 have base:Un X.fs [] X.H₀ H1 X.s₀.heap s1.heap:=hex ▸ I.base
 have F2:=I.stack2 un
 have sub:∀b∈frs X.outer,b∈frs X.stack:=fun b hb=>by
  rw [hst];unfold frs
  cases q:X.env.frame with
  | none=>rw [List.filterMap_cons,q];exact hb
  | some L=>rw [List.filterMap_cons,q];exact List.mem_cons_of_mem _ hb
 have neL:∀b o,X.s₀.heap.get? b=some o->b≠X.env.locals:=fun b o e=>Nat.ne_of_lt (Nat.lt_of_lt_of_le (Heap.lt_size e) I.ok.above)
 have nost:∀b o,X.s₀.heap.get? b=some o->b∉frs X.outer->b∉frs X.stack:=fun b o e hb z=>(List.mem_cons.mp (I.stkSub b z)).elim (neL b o e) hb
 have fresh0:∀b,s1.heap.get? b=none->X.s₀.heap.get? b=none:=fun b e=>by
  cases q:X.s₀.heap.get? b with
  | none=>rfl
  | some o=>
   obtain ⟨o',z⟩:=base.there b o q (by simp)
   rw [e] at z;cases z
 have noZ:∀b o,X.s₀.heap.get? b=some o->b∉Z:=fun b o e hb=>by
  rw [fresh0 b (hZ b hb).1] at e;cases e
 have frFree:∀b∈frs X.stack,H2 b=none:=fun b hb=>by
  obtain ⟨_,o,ho,_⟩:=I.stack.mem hb
  exact un.free b o ho (I.stkFree b hb) (by simp)
 have slotF:∀b∈frs X.stack,∀o,s2.heap.get? b=some o->∃sl,h'.get? b=some { o with slots:=sl }:=fun b hb o e=>by
  obtain ⟨_,o',ho',hd⟩:=F2.mem hb
  rw [e] at ho';cases ho'
  exact up b o e hd
 refine ⟨by show s2.os=_;rw [hos,I.os],hbare,⟨fun b o e n hb _=>?_,fun b o e n hb _=>?_,fun b o e n _=>?_,fun b o e _=>?_,fun b xs e=>un.tups b xs (base.tups b xs e),fun b o u e=>un.frzs b o u (base.frzs b o u e),fun b ps e=>?_⟩,fun b o e=>?_,?_⟩
 . exact keep b o (un.keep b o (base.keep b o e n hb (by simp)) (base.free b o e n (by simp)) (nost b o e hb) (by simp)) (noZ b o e) (nost b o e hb)
 . obtain ⟨sl,e1⟩:=base.slot b o e n hb (by simp)
   obtain ⟨sl2,e2⟩:=un.slot b _ e1 (base.free b o e n (by simp)) (sub b hb) (by simp)
   obtain ⟨sl3,e3⟩:=slotF b (sub b hb) _ e2
   exact ⟨sl3,e3⟩
 . obtain ⟨o1,e1⟩:=base.there b o e (by simp)
   exact un.free b o1 e1 (base.free b o e n (by simp)) (by simp)
 . obtain ⟨o1,e1⟩:=base.there b o e (by simp)
   obtain ⟨o2,e2⟩:=un.there b o1 e1 (by simp)
   by_cases hb:b∈frs X.stack
   . obtain ⟨sl,e3⟩:=slotF b hb _ e2
     exact ⟨_,e3⟩
   . exact ⟨o2,keep b o2 e2 (noZ b o e) hb⟩
 . obtain ⟨m1,e1⟩:=base.tbls b ps e
   obtain ⟨m2,e2⟩:=un.tbls b _ e1
   exact ⟨m1++m2,by rw [e2,Array.append_assoc]⟩
 . refine (hok b o e).stay (fun c v hc q=>keep c v q (fun hz=>?_) fun hf=>?_) (fun _ q=>q) fun _ _ q=>q
   . have:=(hZ c hz).2
     rcases hc with rfl | hc
     . rw [e] at this;cases this
     . rw [hc] at this;cases this
   . have:=frFree c hf
     rcases hc with rfl | hc
     . rw [e] at this;cases this
     . rw [hc] at this;cases this
 . obtain ⟨_,_,_,oe,vs,T,oT,ts,he,⟨hc,h0⟩,hd,h1,hnT,hTe,hT,hdT,h3⟩:=hfl
   have hTn:s1.heap.get? T=none/\H2 T=none:=by
    rcases hB T hnT with z | z
    . obtain ⟨_,o',ho',hd'⟩:=F2.mem z
      obtain ⟨sl,e3⟩:=slotF T z o' ho'
      rw [hT] at e3;cases e3
      exact absurd hdT (hd' ts)
    . exact z
   exact ⟨oe,vs,T,oT,ts,a0,he,hc,h0,hd,h1,hTe,hT,hdT,h3,fresh0 a ha,fresh0 T hTn.1,hHa,hTn.2⟩
theorem zj2 (I:Inv X pins U H1 s1) (hst:X.stack=X.env::X.outer) (hex:X.ex=[]) (hf:X.env.frame=some X.env.locals) (x:XOut X.prog X.w X.stack H1 s1 C a H2 s2) {E:Value->Shared->Prop} {Q:Unit->Shared->Prop}
  (h:∀s',XOut X.prog X.w X.outer X.H₀ X.s₀ C a H2 s'->Q () s'):wpAny (model X.prog X.w) X.A (leaving X.env (.ref a)) Q E s2:=by
 obtain ⟨oe,vs,T,oT,ts,a0,he,hc,h0,hd,h1,hTe,hT,hdT,h3,na,nT,ha,hHT⟩:=id x.fly
 have F2:=I.stack2 x.un
 have hin:∀env∈X.stack,∀b,env.frame=some b->b∈a::T::frs X.stack:=fun env he b hb=>List.mem_cons_of_mem _ (List.mem_cons_of_mem _ (List.mem_filterMap.mpr ⟨env,he,hb⟩))
 have hfr:X.A.frames=some (X.env::X.outer):=by rw [<-hst];exact I.ok.frames
 refine wpAny_leaves_onW (base:=hideAll s2.heap (a::T::frs X.stack)) (cls:=.ref C) (a0:=a0) hfr hf ⟨fun b o q=>of_hideAll _ q,hideAll_none _ (.head _),hst ▸ PySem.W.funFrames_hide F2 hin,?_⟩ fun h' hfl up=>h _ (z83 (Z:=[a,T]) I hst hex x.os x.bare x.un x.hok (fun b hb=>?_) na ha (fun b o q hz hfs=>hfl.1 b o (hideAll_get _ q ?_)) up (fun b q=>?_) hfl)
 . exact ⟨oe,vs,T,oT,ts,he,⟨hc,h0⟩,hd,h1,hideAll_none _ (.tail _ (.head _)),hTe,hT,hdT,h3⟩
 . rcases List.mem_cons.mp hb with rfl | hb
   . exact ⟨na,ha⟩
   . have:b=T:=by simpa using hb
     subst this;exact ⟨nT,hHT⟩
 . intro z
   rcases List.mem_cons.mp z with rfl | z
   . exact hz (.head _)
   . rcases List.mem_cons.mp z with rfl | z
     . exact hz (.tail _ (.head _))
     . exact hfs z
 . rcases za7 q with z | z
   . rcases List.mem_cons.mp z with rfl | z
     . exact .inr ⟨na,ha⟩
     . rcases List.mem_cons.mp z with rfl | z
       . exact .inr ⟨nT,hHT⟩
       . exact .inl z
   . refine .inr ⟨?_,x.hok.none z⟩
     cases q1:s1.heap.get? b with
     | none=>rfl
     | some o=>
      obtain ⟨o',e'⟩:=x.un.there b o q1 (by simp)
      rw [z] at e';cases e'
theorem ze6 (I:Inv X pins U H1 s1) (hst:X.stack=X.env::X.outer) (hex:X.ex=[]) (hf:X.env.frame=some X.env.locals) {args:List Value} (hx:Heap.MadeExcOf s1.heap s2.heap a (.ref C) args) (hos:s2.os=s1.os) (hbare:AllBare s2.gens) {E:Value->Shared->Prop} {Q:Unit->Shared->Prop}
  (h:∀s',XOut X.prog X.w X.outer X.H₀ X.s₀ C a H1 s'->Q () s'):wpAny (model X.prog X.w) X.A (leaving X.env (.ref a)) Q E s2:=by
 have hin:∀env∈X.stack,∀b,env.frame=some b->b∈frs X.stack:=fun env he b hb=>List.mem_filterMap.mpr ⟨env,he,hb⟩
 have hfr:X.A.frames=some (X.env::X.outer):=by rw [<-hst];exact I.ok.frames
 obtain ⟨t,het,htn,ht⟩:=hx.there
 refine wpAny_leaves_madeW (base:=hideAll s1.heap (frs X.stack)) (h:=s1.heap) hfr hf (fun b o q=>of_hideAll _ q) (hst ▸ PySem.W.funFrames_hide I.stack hin) hx fun h' t' hfl htup htb up=>h _ ?_
 refine z83 (B:=hideAll s1.heap (frs X.stack)) (Z:=s2.heap.objs.size::(List.range s2.heap.objs.size).filter fun b=>(s1.heap.get? b).isNone) I hst hex hos hbare (Un.kept hx.keeps) (I.hok.kept hx.keeps) (fun b hb=>?_) hx.new (I.hok.none hx.new) (fun b o q hz hfs=>?_) up (fun b q=>?_) hfl
 . rcases List.mem_cons.mp hb with rfl | hb
   . have e:s1.heap.get? s2.heap.objs.size=none:=by
      cases q:s1.heap.get? s2.heap.objs.size with
      | none=>rfl
      | some o=>exact absurd (Heap.lt_size (hx.keeps _ o q)) (Nat.lt_irrefl _)
     exact ⟨e,I.hok.none e⟩
   . have e:=(List.mem_filter.mp hb).2
     have e:s1.heap.get? b=none:=by simpa using e
     exact ⟨e,I.hok.none e⟩
 . cases e:s1.heap.get? b with
   | none=>exact absurd (.tail _ (List.mem_filter.mpr ⟨List.mem_range.mpr (Heap.lt_size q),by simp [e]⟩)) hz
   | some o'=>
    have:=hx.keeps b o' e
    rw [q] at this;cases this
    exact hfl.1 b o (hideAll_get _ e hfs)
 . rcases za7 q with z | z
   . exact .inl z
   . exact .inr ⟨z,I.hok.none z⟩
end
noncomputable def eOf (EX:XW) (mg:Str->Option Value):XK:=fun cv _ H=>∃x:Ex,EX.p x H/\mg (x.cls:Str)=some cv
structure Lnd (X:Cx) (EX:XW):Prop where
 nm:∀x H,EX.p x H->∃C,X.mg (x.cls:Str)=some (.ref C)
 on:zch (CX1 X.prog X.w) X (eOf EX X.mg)
 md:∀(pins:List (Addr×Obj)) (U:St) (H:Hp) (s:Shared) (a C:Addr) (s':Shared) (x:Ex) (args:List Value),Inv X pins U H s->Heap.MadeExcOf s.heap s'.heap a (.ref C) args->s'.os=s.os->AllBare s'.gens->X.mg (x.cls:Str)=some (.ref C)->EX.p x H->X.xe (.ref a) s'
theorem zy4 {X:Cx}:Lnd X F0:=⟨fun _ _ z=>z.elim,fun _ _ _ _ _ _ _ ⟨_,_,_,_,_,_,z,_⟩=>z.elim,fun _ _ _ _ _ _ _ _ _ _ _ _ _ _ z=>z.elim⟩
theorem z5n {P:Program} {w:World} {K:Frag} {mg:Str->Option Value} {base:Heap} {N:List Str} {qual:Str} {sc:Scope} {f:Addr} {cdv:Value} {A:Around} {outer:List Env} {s:Shared} {H:Hp} {E:XK} :
  Lnd (zie (CX1 P w) P w K mg base N qual sc f cdv A outer s H E) ⟨H,xNm mg E⟩:=by
 refine ⟨fun x H ⟨C,hC,_⟩=>⟨C,hC⟩,?_,?_⟩
 . rintro pins U H1 s1 e s' I ⟨C,a,H',rfl,xo,x,⟨C',hC',hE⟩,hmg⟩
   have hmg:mg (x.cls:Str)=some (.ref C):=hmg
   rw [hC'] at hmg
   cases hmg
   exact zj2 I rfl rfl rfl xo fun s'' y=>⟨_,a,H',rfl,y,hE⟩
 . rintro pins U H1 s1 a C s' x args I hx ho hb hmg ⟨C',hC',hE⟩
   have hmg:mg (x.cls:Str)=some (.ref C):=hmg
   rw [hC'] at hmg
   cases hmg
   exact ze6 I rfl rfl rfl hx ho hb fun s'' y=>⟨_,a,H1,rfl,y,hE⟩
def z35 (P:Program) (w:World) (K:Frag) (mg:Str->Option Value) (base:Heap) (x:Str) (ps:List Str) (k:Nat) (sp:Sp):Prop:=
 ∃f fd,FnOk P w K mg base (CX1 P w) k f fd ps sp/\Binds K fd ps []/\mg x=some (.ref f)/\keepIn K (.ref f)=true
section
variable {X:Cx} {x:Str} {p pos:Pos} {e:Expr} {es:List Expr} {t:TA} {ps:List Str} {k j:Nat} {sp:Sp} {E:XK}
theorem zg4 (G:z35 X.prog X.w X.K X.mg X.base x ps k sp) (hx:zch (CX1 X.prog X.w) X E) (hr:Room j X.A) (hg:Gl X x) (ha:PA X (e::es) t) (hkj:k<=j:=by omega) (hdb:(x==("__debug__":Str))=false:=by decide)
  (he:starEach (e::es) X.env=(false,eval e X.env)::starEach es X.env:=by rfl) (hpl:(backTo pos (starEach es X.env)).any (·.1)=false:=by rfl):PE X (.Call (.Name x p) (e::es) [] pos) (za6 sp E t):=by
 obtain ⟨f,fd,F,b,m,kp⟩:=G
 refine (zme F (hr.mono hkj) hg m kp b .nil hx ha hdb he hpl).imp fun U H Q q=>?_
 unfold zpu
 unfold za6 at q
 simpa only [List.append_nil] using q
end
theorem Fun.okX {P:Program} {w:World} {K:Frag} {mg:Str->Option Value} {base:Heap} {x qual:Str} {st:Stmt} {f:Addr} {fd:FuncData} {N ps:List Str} {k:Nat} {sp:Sp} {CX:CXT} (F:Fun K x qual st f fd) (S:FnScope N ps (z02 st)) (len:∀vs H Q E,sp vs H Q E->vs.length=ps.length)
  (hbody:∀(cdv:Value) (A:Around) (outer:List Env) (s:Shared) (H:Hp) (vs:List V) (Q:VK) (E:XK),Room k (A.deeper (envOfC qual (z02 st) s.heap.objs.size f cdv))->sp vs H Q E ->
   ∃t,PSs (zie CX P w K mg base N qual (z02 st) f cdv A outer s H E) (z0k st) t/\t { nx:=fun _ H'=>Q .non H',rt:=Q } (z5k N vs) H):FnOk P w K mg base CX (k+1) f fd ps sp:=by
 obtain ⟨oc,od,kV,doc,pm,an,cdv,ct,osl,rfl,lk,hcd⟩:=F.ex
 refine zpw lk hcd S len fun A outer s H vs Q E hr hsp=>?_
 exact hbody cdv A outer s H vs Q E hr hsp
section
variable {K:Frag} {H:Hp} {v:V}
theorem RD.int {i:Int} (h:RD K H (.int i) v):v=.int i:=by simpa only [RD] using h
theorem RD.str {i:Str} (h:RD K H (.str i) v):v=.str i:=by simpa only [RD] using h
theorem RD.non (h:RD K H .non v):v=.non:=by simpa only [RD] using h
theorem RD.tup {ds:List D} (h:RD K H (.tup ds) v):∃a xs,v=.ref a/\H a=some (.tup xs)/\RDs K H ds xs:=by simpa only [RD] using h
theorem RD.lst {ds:List D} (h:RD K H (.lst ds) v):∃a xs,v=.ref a/\H a=some (.lst xs)/\RDs K H ds xs:=by simpa only [RD] using h
theorem RD.dk {ks:List Key} {ds:List D} (h:RD K H (.dk ks ds) v):∃a xs,v=.ref a/\H a=some (.dK (ks.zip xs))/\ks.length=xs.length/\RDs K H ds xs:=by simpa only [RD] using h
theorem RD.dt {ks:List (List Key)} {ds:List D} (h:RD K H (.dt ks ds) v):∃a xs,v=.ref a/\H a=some (.dT (ks.zip xs))/\ks.length=xs.length/\RDs K H ds xs:=by simpa only [RD] using h
theorem RD.scr {ns:List Int} (h:RD K H (.scr ns) v):∃a,v=.ref a/\SqL K H a (ns.map V.int):=by
 simp only [RD] at h
 obtain ⟨a,e,h | h⟩:=h
 . exact ⟨a,e,.inl (.inr h)⟩
 . exact ⟨a,e,.inr h⟩
theorem RD.mkInt (i:Int):RD K H (.int i) (.int i):=by simp only [RD]
theorem RD.mkBl (i:Bool):RD K H (.bl i) (.bl i):=by simp only [RD]
theorem RD.mkStr (i:Str):RD K H (.str i) (.str i):=by simp only [RD]
theorem RD.mkTup {a:Addr} {xs:List V} {ds:List D} (h:H a=some (.tup xs)) (r:RDs K H ds xs):RD K H (.tup ds) (.ref a):=by simp only [RD];exact ⟨a,xs,rfl,h,r⟩
end
noncomputable def dI (g:Int->Int->D):D->D->Option D
 | .int i,.int j=>some (g i j)
 | _,_=>none
noncomputable def dIC (C:Int->Int->Prop) [∀i j,Decidable (C i j)] (g:Int->Int->D):D->D->Option D
 | .int i,.int j=>if C i j then some (g i j) else none
 | _,_=>none
noncomputable def dOr (o p:D->D->Option D):D->D->Option D:=fun d e=>match o d e with
 | some z=>some z
 | none=>p d e
section
variable {K:Frag}
theorem OpD.weak {fr:Bool} {o:D->D->Option D} {r:R2} (h:OpD K fr o r):OpD K false o r:=fun H0 H x y d e z Q s rx ry ho k=>h H0 H x y d e z Q s rx ry ho fun v H' q=>k v H' q.weak
theorem OpD.or {f1 f2:Bool} {o p:D->D->Option D} {r q:R2} (h1:OpD K f1 o r) (h2:OpD K f2 p q):OpD K false (dOr o p) (fun x y H Q=>r x y H Q\/q x y H Q):=by
 intro H0 H x y d e z Q s rx ry ho k
 unfold dOr at ho
 split at ho
 . rename_i z' hz
   cases ho
   exact .inl (h1.weak H0 H x y d e z Q s rx ry hz k)
 . exact .inr (h2.weak H0 H x y d e z Q s rx ry ho k)
theorem zug {gv:Int->Int->V} {gd:Int->Int->D} (h:∀i j H,RD K H (gd i j) (gv i j)):OpD K false (dI gd) (cI gv):=by
 intro H0 H x y d e z Q s rx ry ho k
 cases d<;>simp only [dI] at ho<;>first | cases ho | skip
 cases e<;>simp only [dI] at ho<;>first | cases ho | skip
 cases rx.int;cases ry.int
 exact k _ H (.pure s (h _ _ _))
theorem zbe {C:Int->Int->Prop} [∀i j,Decidable (C i j)] {gv:Int->Int->V} {gd:Int->Int->D} (h:∀i j H,RD K H (gd i j) (gv i j)):OpD K false (dIC C gd) (cIC C gv):=by
 intro H0 H x y d e z Q s rx ry ho k
 cases d<;>simp only [dIC] at ho<;>first | cases ho | skip
 cases e<;>simp only [dIC] at ho<;>first | cases ho | skip
 cases rx.int;cases ry.int
 split at ho
 . rename_i hcc
   cases ho
   exact ⟨hcc,k _ H (.pure s (h _ _ _))⟩
 . cases ho
instance (i j:Int):Decidable (CMul i j):=by unfold CMul;infer_instance
instance (i j:Int):Decidable (zm9 i j):=by unfold zm9;infer_instance
instance (i j:Int):Decidable (zma i j):=by unfold zma;infer_instance
noncomputable def z3b:D->D->Option D:=dI fun i j=>.int (i+j)
noncomputable def ze7:D->D->Option D:=dI fun i j=>.int (i - j)
noncomputable def zko:D->D->Option D:=dIC CMul fun i j=>.int (i * j)
noncomputable def zbf:D->D->Option D:=dIC zm9 fun i j=>.int (i / j)
noncomputable def z7n:D->D->Option D:=dIC (fun _ j=>0<j) fun i j=>.int (i % j)
noncomputable def zqr:D->D->Option D:=dIC zma fun i j=>.int (i ^ j.toNat)
noncomputable def zqs:D->D->Option D:=dI fun i j=>.bl (decide (i<j))
noncomputable def dLe:D->D->Option D:=dI fun i j=>.bl (decide (i<=j))
noncomputable def zpb:D->D->Option D:=dI fun i j=>.bl (decide (j<i))
noncomputable def dGe:D->D->Option D:=dI fun i j=>.bl (decide (j<=i))
theorem z14:OpD K false z3b (cI fun i j=>.int (i+j)):=zug fun _ _ _=>.mkInt _
theorem z4q:OpD K false ze7 (cI fun i j=>.int (i - j)):=zug fun _ _ _=>.mkInt _
theorem za8:OpD K false zko (cIC CMul fun i j=>.int (i * j)):=zbe fun _ _ _=>.mkInt _
theorem z4r:OpD K false zbf (cIC zm9 fun i j=>.int (i / j)):=zbe fun _ _ _=>.mkInt _
theorem z2u:OpD K false z7n (cIC (fun _ j=>0<j) fun i j=>.int (i % j)):=zbe fun _ _ _=>.mkInt _
theorem zkp:OpD K false zqr (cIC zma fun i j=>.int (i ^ j.toNat)):=zbe fun _ _ _=>.mkInt _
theorem zkq:OpD K false zqs (cI fun i j=>.bl (decide (i<j))):=zug fun _ _ _=>.mkBl _
theorem zkr:OpD K false zpb (cI fun i j=>.bl (decide (j<i))):=zug fun _ _ _=>.mkBl _
noncomputable def zih:D->Option D
 | .int i=>some (.int (-i))
 | _=>none
theorem za9:UnD K false zih (cU fun i=>.int (-i)):=by
 intro H0 H x d z Q s rx ho k
 cases d<;>simp only [zih] at ho<;>first | cases ho | skip
 cases rx.int
 exact k _ H (.pure s (.mkInt _))
theorem zvn {n:Nat} (h:n<=100000):n<=sizeLine:=Nat.le_trans h (by decide)
end
noncomputable def dEq:D->D->Option D:=fun d e=>if d.pl=true/\e.pl=true/\d.dep<=20 then some (.bl (eqD d e)) else none
noncomputable def dNe:D->D->Option D:=fun d e=>if d.pl=true/\e.pl=true/\d.dep<=20 then some (.bl (!eqD d e)) else none
noncomputable def zy5 (K:Frag):R2:=fun x y H Q=>∃d e,RD K H d x/\RD K H e y/\d.pl=true/\e.pl=true/\d.dep<=20/\Q (.bl (eqD d e)) H
noncomputable def zy6 (K:Frag):R2:=fun x y H Q=>∃d e,RD K H d x/\RD K H e y/\d.pl=true/\e.pl=true/\d.dep<=20/\Q (.bl (!eqD d e)) H
section
variable {X:Cx} {K:Frag}
theorem z7o (hu:X.A.units+64<cLine):OpR X (compareOp .Eq) (zy5 X.K):=by
 intro pins s U H x y v u Q I rx ry h
 obtain ⟨d,e,h1,h2,p1,p2,h3,q⟩:=h
 exact zqa (n:=20) I p1 p2 h3 (by omega) h1 h2 rx ry X.prog X.w X.xe _ ⟨.bl _,H,I,rfl,q⟩
theorem zbg (hu:X.A.units+64<cLine):OpR X (compareOp .NotEq) (zy6 X.K):=by
 intro pins s U H x y v u Q I rx ry h
 obtain ⟨d,e,h1,h2,p1,p2,h3,q⟩:=h
 exact zqb (n:=20) I p1 p2 h3 (by omega) h1 h2 rx ry X.prog X.w X.xe _ ⟨.bl _,H,I,rfl,q⟩
theorem z7p:OpD K false dEq (zy5 K):=by
 intro H0 H x y d e z Q s rx ry ho k
 unfold dEq at ho
 split at ho<;>cases ho
 rename_i h
 exact ⟨d,e,rx.mono s,ry.mono s,h.1,h.2.1,h.2.2,k _ H (.pure s (.mkBl _))⟩
theorem zbh:OpD K false dNe (zy6 K):=by
 intro H0 H x y d e z Q s rx ry ho k
 unfold dNe at ho
 split at ho<;>cases ho
 rename_i h
 exact ⟨d,e,rx.mono s,ry.mono s,h.1,h.2.1,h.2.2,k _ H (.pure s (.mkBl _))⟩
end
noncomputable def zqt:D->Option Key
 | .int i=>some (.inl i)
 | .str x=>some (.inr x)
 | _=>none
noncomputable def ze8:List D->Option (List Key)
 | []=>some []
 | d::ds=>match zqt d,ze8 ds with
  | some k,some ks=>some (k::ks)
  | _,_=>none
theorem zg5 {K:Frag} {H:Hp} {d:D} {k:Key} {v:V} (h:zqt d=some k) (r:RD K H d v):v=kV k:=by
 cases d<;>simp only [zqt] at h<;>first | cases h | skip
 . cases r.int;rfl
 . cases r.str;rfl
theorem zct {K:Frag} {H:Hp}:∀{ds:List D} {ks:List Key} {xs:List V},ze8 ds=some ks->RDs K H ds xs->xs=ks.map kV
 | [],ks,xs,h,r=>by
  simp only [ze8] at h;cases h
  simp only [RDs] at r;subst r;rfl
 | d::ds,ks,xs,h,r=>by
  simp only [RDs] at r
  obtain ⟨x,xs,rfl,r1,r2⟩:=r
  simp only [ze8] at h
  split at h<;>cases h
  rename_i k ks h1 h2
  rw [zg5 h1 r1,zct h2 r2];rfl
def ROp (K:Frag) (H:Hp):Option D->Option V->Prop
 | some z,w=>∃v,w=some v/\RD K H z v
 | none,w=>w=none
section
variable {κ:Type} [DecidableEq κ]
noncomputable def zbi (ks:List κ) (ds:List D) (k:κ):Option D:=((ks.zip ds).find? fun kv=>decide (kv.1=k)).map (·.2)
theorem zbj {K:Frag} {H:Hp} (k:κ):∀{ks:List κ} {ds:List D} {xs:List V},ks.length=xs.length->RDs K H ds xs->ROp K H (zbi ks ds k) (zcj (ks.zip xs) k)
 | [],ds,xs,_,_=>by simp [zbi,zcj,ROp]
 | k'::ks,[],xs,h,r=>by
  simp only [RDs] at r;subst r;simp at h
 | k'::ks,d::ds,xs,h,r=>by
  simp only [RDs] at r
  obtain ⟨x,xs,rfl,r1,r2⟩:=r
  have ih:=zbj k (by simpa using h) r2 (ks:=ks)
  simp only [zbi,zcj,List.zip_cons_cons,List.find?_cons] at ih ⊢
  by_cases e:k'=k
  . simp only [e,decide_true]
    exact ⟨x,rfl,r1⟩
  . simp only [e,decide_false]
    exact ih
noncomputable def zj3 (ks:List κ) (k:κ):List κ:=if k∈ks then ks else ks++[k]
noncomputable def ze9 {β:Type} (ks:List κ) (ds:List β) (k:κ) (d:β):List β:=if k∈ks then List.zipWith (fun k' d'=>if k'=k then d else d') ks ds else ds++[d]
theorem zmx {K:Frag} {H:Hp} (k:κ) {d:D} {v:V} (rv:RD K H d v) {ks:List κ} {ds:List D} {xs:List V} (r:RDs K H ds xs):RDs K H (ze9 ks ds k d) (ze9 ks xs k v):=by
 have zw:∀(ks:List κ) (ds:List D) (xs:List V),RDs K H ds xs->RDs K H (List.zipWith (fun k' d'=>if k'=k then d else d') ks ds) (List.zipWith (fun k' d'=>if k'=k then v else d') ks xs):=by
  intro ks
  induction ks with
  | nil=>intro ds xs _;simp [RDs]
  | cons k' ks ih=>
   intro ds xs r
   cases ds with
   | nil=>simp only [RDs] at r;subst r;simp [RDs]
   | cons d' ds=>
    simp only [RDs] at r
    obtain ⟨x,xs,rfl,r1,r2⟩:=r
    simp only [List.zipWith_cons_cons]
    refine .cons ?_ (ih ds xs r2)
    by_cases e:k'=k
    . rw [if_pos e,if_pos e];exact rv
    . rw [if_neg e,if_neg e];exact r1
 unfold ze9
 by_cases m:k∈ks
 . rw [if_pos m,if_pos m];exact zw ks ds xs r
 . rw [if_neg m,if_neg m];exact r.append (.one rv)
end
noncomputable def zg6:D->D->Option (Option D)
 | .dk ks ds,k=>(zqt k).map fun k=>zbi ks ds k
 | .dt ks ds,.tup es=>(ze8 es).map fun k=>zbi ks ds k
 | _,_=>none
theorem zmy {K:Frag} {H:Hp} {d k:D} {x y:V} {o:Option D} (h:zg6 d k=some o) (rx:RD K H d x) (ry:RD K H k y) :
  ∃a w,x=.ref a/\DGet H a y w/\ROp K H o w:=by
 cases d<;>simp only [zg6] at h<;>first | cases h | skip
 . rename_i ks ds
   obtain ⟨a,xs,rfl,ha,hl,rs⟩:=rx.dk
   cases hk:zqt k with
   | none=>rw [hk] at h;cases h
   | some k'=>
    rw [hk] at h
    have h:zbi ks ds k'=o:=by simpa using h
    subst h
    cases zg5 hk ry
    exact ⟨a,_,rfl,DGet.k ha,zbj k' hl rs⟩
 . rename_i ks ds
   cases k<;>simp only [zg6] at h<;>first | cases h | skip
   rename_i es
   obtain ⟨a,xs,rfl,ha,hl,rs⟩:=rx.dt
   obtain ⟨b,ys,rfl,hb,rb⟩:=ry.tup
   cases hk:ze8 es with
   | none=>rw [hk] at h;cases h
   | some k'=>
    rw [hk] at h
    have h:zbi ks ds k'=o:=by simpa using h
    subst h
    have e:=zct hk rb
    subst e
    exact ⟨a,_,rfl,DGet.t ha hb,zbj k' hl rs⟩
noncomputable def zz0 (neg:Bool):R2:=fun y x H Q=>∃a w,x=.ref a/\DGet H a y w/\Q (.bl (if neg then !w.isSome else w.isSome)) H
noncomputable def zvo:D->D->Option D:=fun d k=>(zg6 d k).bind id
noncomputable def zvp:R2:=fun x y H Q=>∃a w,x=.ref a/\DGet H a y (some w)/\Q w H
noncomputable def zea:D->D->Option D
 | .lst ds,.int i=>atI ds i
 | .tup ds,.int i=>atI ds i
 | .scr ns,.int i=>(atI ns i).map D.int
 | .str z,.int i=>if z.length<=100000 then (atI z.cps.toList i).map fun c=>D.str ⟨#[c]⟩ else none
 | _,_=>none
theorem RDs.atI {K:Frag} {H:Hp} {ds:List D} {xs:List V} {i:Int} {d:D} (r:RDs K H ds xs) (h:L2.atI ds i=some d):∃v,L2.atI xs i=some v/\RD K H d v:=by
 unfold L2.atI at h ⊢
 rw [<-r.length]
 cases q:ixN ds.length i with
 | none=>rw [q] at h;cases h
 | some j=>
  rw [q] at h
  exact r.get' h
theorem zmz {α β:Type} (f:α->β) (xs:List α) (i:Int):atI (xs.map f) i=(atI xs i).map f:=by
 unfold atI
 rw [List.length_map]
 cases ixN xs.length i with
 | none=>rfl
 | some j=>simp
section
variable {X:Cx} {K:Frag}
theorem zz1 (hu:X.A.units+64<cLine):OpR X (compareOp .In) (zz0 false):=by
 intro pins s U H x y v u Q I rx ry h
 obtain ⟨a,w,rfl,g,q⟩:=h
 cases ry
 exact zyk (by omega) I g rx fun s' I'=>⟨.bl w.isSome,H,I',rfl,by simpa using q⟩
theorem zn0 (hu:X.A.units+64<cLine):IxR X zvp:=by
 intro value slice pins s U H x y v u Q I rx ry h hs
 obtain ⟨a,w,rfl,g,q⟩:=h
 cases rx
 exact tail_any (ops:=[.ref a,u]) (zb7 I g) PySem.F.slot_dict_getitem.lookup (zfe (by omega) I g ry fun w' s3 I3 rw'=>⟨w,H,I3,rw',q⟩) hs
theorem zqu:OpD K false zvo zvp:=by
 intro H0 H x y d e z Q s rx ry ho k
 unfold zvo at ho
 cases ho':zg6 d e with
 | none=>rw [ho'] at ho;cases ho
 | some o=>
  rw [ho'] at ho
  have ho:o=some z:=ho
  subst ho
  obtain ⟨a,w,e0,g,m⟩:=zmy ho' rx ry
  obtain ⟨v,rfl,rv⟩:=m
  subst e0
  refine ⟨a,v,rfl,?_,k _ H (.pure s rv)⟩
  rcases g with ⟨kvs,kk,e1,e2,e3⟩ | ⟨kvs,kk,b,e1,e2,e3,e4⟩
  . refine .inl ⟨kvs,kk,?_,e2,e3⟩
    rcases e1 with e1 | ⟨o,e1⟩
    . exact .inl (s _ _ e1)
    . exact .inr ⟨o,s _ _ e1⟩
  . refine .inr ⟨kvs,kk,b,?_,e2,s _ _ e3,e4⟩
    rcases e1 with e1 | ⟨o,e1⟩
    . exact .inl (s _ _ e1)
    . exact .inr ⟨o,s _ _ e1⟩
theorem od_ixS:OpD K false zea (rIx K):=by
 intro H0 H x y d e z Q s rx ry ho k
 cases d<;>simp only [zea] at ho<;>first | cases ho | skip
 . -- a text
   cases e<;>simp only [zea] at ho<;>first | cases ho | skip
   cases rx.str;cases ry.int
   split at ho
   . rename_i z' i hl
     cases hc:atI z'.cps.toList i with
     | none=>rw [hc] at ho;cases ho
     | some c=>
      rw [hc] at ho;cases ho
      exact .inr (.inr ⟨z',i,c,rfl,rfl,zvn hl,hc,k _ H (.pure s (.mkStr _))⟩)
   . cases ho
 . cases e<;>simp only [zea] at ho<;>first | cases ho | skip
   obtain ⟨a,xs,rfl,ha,ra⟩:=rx.tup
   cases ry.int
   obtain ⟨v,hv,rv⟩:=ra.atI ho
   exact .inr (.inl ⟨a,xs,_,v,rfl,rfl,.of (s _ _ ha),hv,k _ H (.pure s rv)⟩)
 . cases e<;>simp only [zea] at ho<;>first | cases ho | skip
   obtain ⟨a,xs,rfl,ha,ra⟩:=rx.lst
   cases ry.int
   obtain ⟨v,hv,rv⟩:=ra.atI ho
   exact .inl ⟨a,xs,_,v,rfl,rfl,.of (s _ _ ha),hv,k _ H (.pure s rv)⟩
 . cases e<;>simp only [zea] at ho<;>first | cases ho | skip
   rename_i ns i
   cases ry.int
   obtain ⟨a,rfl,ha⟩:=(rx.mono s).scr
   cases hc:atI ns i with
   | none=>rw [hc] at ho;cases ho
   | some c=>
    rw [hc] at ho;cases ho
    exact .inl ⟨a,_,i,.int c,rfl,rfl,ha,by rw [zmz,hc];rfl,k _ H (.pure s (.mkInt _))⟩
noncomputable def dIx:D->D->Option D:=dOr zea zvo
noncomputable def zy7 (K:Frag):R2:=fun x y H Q=>rIx K x y H Q\/zvp x y H Q
theorem z7q (hu:X.A.units+64<cLine):IxR X (zy7 X.K):=ix_seq.or (zn0 hu)
theorem z3c:OpD K false dIx (zy7 K):=od_ixS.or zqu
end
structure QE (X:Cx) (EX:XW) (fr:Bool) (e:Expr) (f:DE->R D):Prop where
 h:PE X e (TEd X.K EX fr f)
structure QT (X:Cx) (EX:XW) (e:Expr) (t:DE->R Bool):Prop where
 h:PT X e (TTd X.K EX t)
structure QW (X:Cx) (EX:XW) (e:Expr) (t:DE->R Bool):Prop where
 h:PW X e (TTd X.K EX t)
structure QA (X:Cx) (EX:XW) (es:List Expr) (f:DE->R (List D)):Prop where
 h:PA X es (TAd X.K EX f)
structure QI (X:Cx) (EX:XW) (kp:Bool) (tg e:Expr) (f:DE->R (List D)):Prop where
 h:PI X tg e (TId X.K EX kp f)
structure QG (X:Cx) (tg:Expr) (t:Tg):Prop where
 h:PG X tg (TGd X.K t)
structure QGs (X:Cx) (ts:List Expr) (is:List Nat):Prop where
 h:PGs X ts (z61 is)
structure QS (X:Cx) (EX:XW) (fr:Bool) (st:Stmt) (g:DS->SR):Prop where
 h:PS X st (TSd X.K EX fr g)
structure QB (X:Cx) (EX:XW) (fr:Bool) (sts:List Stmt) (g:DS->SR):Prop where
 h:PSs X sts (TSd X.K EX fr g)
section
variable {X:Cx} {EX:XW} {fr:Bool} {a b c e:Expr} {es rest:List Expr} {fa fb:DE->R D} {fs:DE->R (List D)} {t u:DE->R Bool} {pos p:Pos} {x:Str}
theorem PA.imp {es:List Expr} {t t':TA} (h:PA X es t) (hi:∀U H Q,t' U H Q->t U H Q):PA X es t':=fun pos pins s U H Q I q=>h pos pins s U H Q I (hi U H Q q)
theorem PW.imp {e:Expr} {t t':TT} (h:PW X e t) (hi:∀U H Q,t' U H Q->t U H Q):PW X e t':=fun wh pins s U H Q I q=>h wh pins s U H Q I (hi U H Q q)
theorem PI.imp {tg e:Expr} {t t':TI} (h:PI X tg e t) (hi:∀U H Q,t' U H Q->t U H Q):PI X tg e t':=fun pins s U H Q I q=>h pins s U H Q I (hi U H Q q)
theorem PS.imp {st:Stmt} {t t':TS} (h:PS X st t) (hi:∀D U H,t' D U H->t D U H):PS X st t':=fun pins s U H D I q=>h pins s U H D I (hi D U H q)
theorem PSs.imp {st:List Stmt} {t t':TS} (h:PSs X st t) (hi:∀D U H,t' D U H->t D U H):PSs X st t':=fun pins s U H D I q=>h pins s U H D I (hi D U H q)
theorem QE.wk {f:DE->R D} (h:QE X EX true e f):QE X EX false e f:=⟨h.h.imp fun _ _ _ q=>q.weak⟩
theorem qv (i:Nat) {x:Str} {pos:Pos} (hN:X.N[i]?=some x:=by rfl) (hv:Vis X.env.scope x:=by first | exact Or.inl rfl | exact Or.inr (Or.inl rfl) | exact Or.inr (Or.inr rfl)) (hd:(x==("__debug__":Str))=false:=by decide)
 (hcd:(x==("__classdict__":Str))=false:=by decide):QE X EX false (.Name x pos) (z03 i):=⟨(zkd hN hv hd hcd).imp fun U H Q q=>zv6 q⟩
theorem z04 {i j pos}:QE X EX false (.Constant (.int i) j pos) (eC (.int i)):=⟨pe_int.imp fun U H Q q=>zb9 (fun _=>.mkInt i) q⟩
theorem zcu {i j pos}:QE X EX false (.Constant (.bool i) j pos) (eC (.bl i)):=⟨pe_bl.imp fun U H Q q=>zb9 (fun _=>.mkBl i) q⟩
theorem zn1 {i j pos}:QE X EX false (.Constant (.str i) j pos) (eC (.str i)):=⟨pe_str.imp fun U H Q q=>zb9 (fun _=>.mkStr i) q⟩
theorem z0e {op:Operator} {r:R2} {o:D->D->Option D} (ho:OpR X (binaryOp op) r) (od:OpD X.K fr o r) (ha:QE X EX false a fa) (hb:QE X EX false b fb):QE X EX fr (.BinOp a op b pos) (eOp o fa fb):=⟨(zuq ho ha.h hb.h).imp fun _ _ _ q=>zuf od q⟩
theorem zqv {op:UnaryOp} {r:V->Hp->VK->Prop} {o:D->Option D} (ho:UnR X (unaryOp op) r) (od:UnD X.K fr o r) (ha:QE X EX false a fa):QE X EX fr (.UnaryOp op a pos) (eUn o fa):=⟨(zur ho ha.h).imp fun _ _ _ q=>zyr od q⟩
theorem zqw {op:CmpOp} {r:R2} {o:D->D->Option D} (ho:OpR X (compareOp op) r) (od:OpD X.K false o r) (ha:QE X EX false a fa) (hb:QE X EX false b fb) (hm:behindInMarks op b=false) :
 QE X EX false (.Compare a [op] [b] pos) (eOp o fa fb):=⟨(zmb ho ha.h hb.h hm).imp fun _ _ _ q=>zuf od q⟩
theorem z7r {r:R2} {o:D->D->Option D} (ho:IxR X r) (od:OpD X.K false o r) (ha:QE X EX false a fa) (hb:QE X EX false b fb) (hs:zfb b:=by exact fun _ _=>rfl):QE X EX false (.Subscript a b pos) (eOp o fa fb):=⟨(zut ho ha.h hb.h hs).imp fun _ _ _ q=>zuf od q⟩
theorem z06:QA X EX [] z0c:=⟨pa_nil.imp fun _ _ _ q=>zv7 q⟩
theorem z01 (ha:QE X EX false e fa) (hr:QA X EX es fs) (hs:starEach (e::es) X.env=(false,eval e X.env)::starEach es X.env:=by rfl):QA X EX (e::es) (z00 fa fs):=⟨(z5j ha.h hr.h hs).imp fun _ _ _ q=>zqe q⟩
theorem z4n {x1} (h:QA X EX es fs):QE X EX false (.Tuple es x1 pos) (z5g fs):=⟨(zps h.h).imp fun _ _ _ q=>zv8 q⟩
theorem z4u (h:QA X EX es fs):QE X EX true (.List es pos) (z67 fs):=⟨(zpt h.h).imp fun _ _ _ q=>zv9 q⟩
theorem zvq (ha:QE X EX false a fa) (hb:QE X EX false (.BoolOp .And (b::rest) pos) fb):QE X EX false (.BoolOp .And (a::b::rest) pos) (zqd fa fb):=⟨(zmm ha.h hb.h).imp fun _ _ _ q=>zvd q⟩
theorem zvr {op} (h:QE X EX false a fa):QE X EX false (.BoolOp op [a] pos) fa:=⟨zpo h.h⟩
noncomputable def z9m:D->Option Bool
 | .bl b=>some b
 | .int i=>some (i != 0)
 | .non=>some false
 | .str z=>if z.length<=100000 then some ((z.length:Int) != 0) else none
 | .lst ds=>some (!ds.isEmpty)
 | .tup ds=>some (!ds.isEmpty)
 | .dk ks _=>some (!ks.isEmpty)
 | _=>none
theorem z4v {α β:Type} {xs:List α} {ys:List β} (h:xs.length=ys.length):xs.isEmpty=ys.isEmpty:=by
 cases xs<;>cases ys<;>first | rfl | simp at h
theorem zks {K:Frag}:zv5 K z9m za5:=by
 intro H0 H x d b Q s rx ht q
 cases d<;>simp only [z9m] at ht<;>first | cases ht | skip
 . cases rx.non;exact q
 . cases rx.bl;exact q
 . cases rx.int;exact q
 . split at ht<;>cases ht
   rename_i h
   cases rx.str
   exact ⟨zvn h,q⟩
 . obtain ⟨p,xs,rfl,hp,r⟩:=rx.tup
   unfold za5
   dsimp only
   rw [za4 (s _ _ hp)]
   rw [z4v r.length] at q;exact q
 . obtain ⟨p,xs,rfl,hp,r⟩:=rx.lst
   unfold za5
   dsimp only
   rw [za3 (s _ _ hp)]
   rw [z4v r.length] at q;exact q
 . rename_i ks es
   obtain ⟨p,xs,rfl,hp,hl,r⟩:=rx.dk
   unfold za5
   dsimp only
   have e:z5l H p=none:=by unfold z5l;rw [s _ _ hp]
   rw [e]
   dsimp only
   rw [s _ _ hp]
   dsimp only
   rw [z4v (show ks.length=(List.zip ks xs).length by rw [List.length_zip,<-hl,Nat.min_self])] at q
   exact q
theorem zkt (ha:QE X EX false a fa):QE X EX false (.UnaryOp .Not a pos) (eUn (fun d=>(z9m d).map fun b=>.bl (!b)) fa):=⟨(zmn ha.h).imp fun _ _ _ q=>zqj zks q⟩
theorem zaa (ha:QE X EX false a fa) (he:∀whole,isTrue a X.env whole=(do let v <-whole;standAt a.pos;holding [v] (truthy v)):=by intro _;rfl):QT X EX a (z3o z9m fa):=⟨(zq2 ha.h he).imp fun _ _ _ q=>zve zks q⟩
theorem z3s {op:CmpOp} {r:R2} {o:D->D->Option D} (ho:OpR X (compareOp op) r) (od:OpD X.K false o r) (ha:QE X EX false a fa) (hb:QE X EX false b fb) (hm:behindInMarks op b=false) :
 QT X EX (.Compare a [op] [b] pos) (z3o asB (eOp o fa fb)):=⟨(zml ho ha.h hb.h hm).imp fun _ _ _ q=>zvf od q⟩
theorem QW.pt (h:QW X EX a t):QT X EX a t:=⟨h.h.pt⟩
theorem zbk (ha:QT X EX a t):QT X EX (.UnaryOp .Not a pos) (zex t):=⟨(zpn ha.h).imp fun _ _ _ q=>zqg q⟩
theorem zqx (ha:QT X EX a t):QW X EX (.BoolOp .And [a] pos) t:=⟨zm7 ha.h⟩
theorem zqy (ha:QT X EX a t):QW X EX (.BoolOp .Or [a] pos) t:=⟨zpl ha.h⟩
theorem zvs (ha:QT X EX a t) (hb:QW X EX (.BoolOp .And (b::rest) pos) u):QW X EX (.BoolOp .And (a::b::rest) pos) (zqc t u):=⟨(zpm ha.h hb.h).imp fun _ _ _ q=>zqf q⟩
theorem zvt (ha:QT X EX a t) (hb:QW X EX (.BoolOp .Or (b::rest) pos) u):QW X EX (.BoolOp .Or (a::b::rest) pos) (bOr t u):=⟨(zuk ha.h hb.h).imp fun _ _ _ q=>zva q⟩
variable {g:D->DE->R D} {gt:D->DE->R Bool} {op op':CmpOp} {ops:List CmpOp} {r:R2} {o:D->D->Option D} {r':Expr} {rs:List Expr}
theorem zeb {id:String} {rr:List V->Hp->VK->Prop} {m:List D->Option D} (hc:CallR X (.builtin id) rr) (od:z7m X.K fr m rr) (hg:Gl X x) (hm:X.mg x=none) (hv:bootBuiltins x=some (.builtin id)) (ha:QA X EX (e::es) fs) (hn:x≠"__name__":=by decide) (hdb:(x==("__debug__":Str))=false:=by decide)
 (he:starEach (e::es) X.env=(false,eval e X.env)::starEach es X.env:=by rfl) (hpl:(backTo pos (starEach es X.env)).any (·.1)=false:=by rfl):QE X EX fr (.Call (.Name x p) (e::es) [] pos) (eCB m fs):=⟨(z8o hc hg hm hv ha.h hn hdb he hpl).imp fun _ _ _ q=>zy1 od q⟩
theorem z7s {T:String} {rr:List V->Hp->VK->Prop} {m:List D->Option D} (hc:CallR X (.type T) rr) (od:z7m X.K fr m rr) (hg:Gl X x) (hm:X.mg x=none) (hv:bootBuiltins x=some (.type T)) (ha:QA X EX (e::es) fs) (hn:x≠"__name__":=by decide) (hdb:(x==("__debug__":Str))=false:=by decide)
 (he:starEach (e::es) X.env=(false,eval e X.env)::starEach es X.env:=by rfl) (hpl:(backTo pos (starEach es X.env)).any (·.1)=false:=by rfl):QE X EX fr (.Call (.Name x p) (e::es) [] pos) (eCB m fs):=⟨(zfa hc hg hm hv ha.h hn hdb he hpl).imp fun _ _ _ q=>zy1 od q⟩
theorem z2n {ps:List Str} {k j n kk:Nat} {gg:DS->SR} (L:Lnd X EX) (G:z35 X.prog X.w X.K X.mg X.base x ps k (spD X.K X.mg fr (mOf fr n kk gg) n)) (hr:Room j X.A) (hg:Gl X x) (ha:QA X EX (e::es) fs) (hkj:k<=j:=by omega) (hdb:(x==("__debug__":Str))=false:=by decide)
 (he:starEach (e::es) X.env=(false,eval e X.env)::starEach es X.env:=by rfl) (hpl:(backTo pos (starEach es X.env)).any (·.1)=false:=by rfl):QE X EX fr (.Call (.Name x p) (e::es) [] pos) (z17 (mOf fr n kk gg) fs):=⟨(zg4 G L.on hr hg ha.h hkj hdb he hpl).imp fun _ _ _ q=>zqp zg3 (fun x H z=>by obtain ⟨C,hC⟩:=L.nm x H z;exact ⟨C,hC,x,z,hC⟩) q⟩
end
noncomputable def z5o:D->String
 | .non=>"NoneType"
 | .bl _=>"bool"
 | .int _=>"int"
 | .str _=>"str"
 | .tup _=>"tuple"
 | .lst _=>"list"
 | .dk _ _=>"dict"
 | .dt _ _=>"dict"
 | .dn _ _=>"?"
 | .scr _=>"?"
 | .exc _=>"?"
noncomputable def z7t (c:String):D->Option D:=fun d=>if z6o c=true/\z5o d≠"?" then some (.bl (zfl (z5o d) c)) else none
theorem zn2 {K:Frag} {H:Hp} {d:D} {v:V} (h:z5o d≠"?") (r:RD K H d v):z8s H v=some (z5o d):=by
 cases d
 . cases r.non;rfl
 . cases r.bl;rfl
 . cases r.int;rfl
 . cases r.str;rfl
 . obtain ⟨a,xs,rfl,ha,_⟩:=r.tup;simp only [z8s,ha,z5o]
 . obtain ⟨a,xs,rfl,ha,_⟩:=r.lst;simp only [z8s,ha,z5o]
 . obtain ⟨a,xs,rfl,ha,_⟩:=r.dk;simp only [z8s,ha,z5o]
 . obtain ⟨a,xs,rfl,ha,_⟩:=r.dt;simp only [z8s,ha,z5o]
 . exact absurd rfl h
 . exact absurd rfl h
 . exact absurd rfl h
theorem zvu {K:Frag} {EX:XW} {U:St} {H:Hp} {Q:VK} {c:String} {f:DE->R D} (h:TEd K EX false (eUn (z7t c) f) U H Q):tCB zud (z9r (TEd K EX false f) (z9r (tC (.ty c)) zub)) U H Q:=by
 obtain ⟨sx,ρ,H0,s,e,h⟩:=h
 unfold eUn at h
 rw [Rk.bind] at h
 refine TEd.go sx s e h fun d h v H1 H1' s1 e1 r1=>?_
 obtain ⟨z,hz,h⟩:=h.of
 unfold z7t at hz
 split at hz<;>cases hz
 rename_i hc
 show zud [v,.ty c] H1 Q
 rw [zq7]
 refine ⟨hc.1,?_⟩
 rw [zn2 hc.2 (r1.mono e1.2.1)]
 exact h _ H1 (.val s1 e1 (.mkBl _))
theorem zg7 {X:Cx} {EX:XW} {a b:Expr} {pos p:Pos} {x c:_} {f:DE->R D} (hg:Gl X x) (hm:X.mg x=none) (hv:bootBuiltins x=some (.builtin "isinstance")) (ha:QE X EX false a f) (hb:PE X b (tC (.ty c))) (hn:x≠"__name__":=by decide) (hdb:(x==("__debug__":Str))=false:=by decide)
 (he:starEach [a,b] X.env=(false,eval a X.env)::starEach [b] X.env:=by rfl) (hpl:(backTo pos (starEach [b] X.env)).any (·.1)=false:=by rfl) (hs:starEach [b] X.env=(false,eval b X.env)::starEach [] X.env:=by rfl) :
 QE X EX false (.Call (.Name x p) [a,b] [] pos) (eUn (z7t c) f):=⟨(z8o zv2 hg hm hv (z5j ha.h (z5j hb pa_nil hs) he) hn hdb he hpl).imp fun _ _ _ q=>zvu q⟩
noncomputable def z3i:List D->Option (List Int)
 | []=>some []
 | .int i::ds=>(z3i ds).map (i::·)
 | _::_=>none
noncomputable def z3d:List D->Option (List Bool)
 | []=>some []
 | .bl i::ds=>(z3d ds).map (i::·)
 | _::_=>none
theorem z84:∀(ns:List Int),z3i (ns.map D.int)=some ns
 | []=>rfl
 | n::ns=>by simp [z3i,z84 ns]
theorem z6t:∀(ns:List Bool),z3d (ns.map D.bl)=some ns
 | []=>rfl
 | n::ns=>by simp [z3d,z6t ns]
theorem z6u {K:Frag} {H:Hp}:∀{ds:List D} {ns:List Int} {xs:List V},z3i ds=some ns->RDs K H ds xs->xs=ns.map V.int
 | [],ns,xs,h,r=>by
  simp only [z3i] at h;cases h
  simp only [RDs] at r;subst r;rfl
 | d::ds,ns,xs,h,r=>by
  simp only [RDs] at r
  obtain ⟨x,xs,rfl,r1,r2⟩:=r
  cases d<;>simp only [z3i] at h<;>first | cases h | skip
  cases q:z3i ds with
  | none=>rw [q] at h;cases h
  | some ms=>
   rw [q] at h;cases h
   cases r1.int
   rw [z6u q r2];rfl
theorem z85 {K:Frag} {H:Hp}:∀{ds:List D} {ns:List Bool} {xs:List V},z3d ds=some ns->RDs K H ds xs->xs=ns.map V.bl
 | [],ns,xs,h,r=>by
  simp only [z3d] at h;cases h
  simp only [RDs] at r;subst r;rfl
 | d::ds,ns,xs,h,r=>by
  simp only [RDs] at r
  obtain ⟨x,xs,rfl,r1,r2⟩:=r
  cases d<;>simp only [z3d] at h<;>first | cases h | skip
  cases q:z3d ds with
  | none=>rw [q] at h;cases h
  | some ms=>
   rw [q] at h;cases h
   cases r1.bl
   rw [z85 q r2];rfl
noncomputable def z7u:List D->Option D
 | [.lst ds]=>some (.int ds.length)
 | [.tup ds]=>some (.int ds.length)
 | [.dk ks _]=>some (.int ks.length)
 | [.scr ns]=>some (.int ns.length)
 | [.str z]=>if z.length<=100000 then some (.int z.length) else none
 | _=>none
noncomputable def zj4:List D->Option D
 | [.lst ds]=>(z3i ds).map fun ns=>.int ns.sum
 | [.tup ds]=>(z3i ds).map fun ns=>.int ns.sum
 | _=>none
noncomputable def zzq:List D->Option D
 | [.lst ds]=>(z3d ds).map fun bs=>.bl (bs.all id)
 | _=>none
noncomputable def zqz:List D->Option D
 | [.lst ds]=>(z3d ds).map fun bs=>.bl (bs.any id)
 | _=>none
noncomputable def zvv:List D->Option D
 | [.int i,.int j]=>some (.int (if j > i then j else i))
 | _=>none
noncomputable def zvw:List D->Option D
 | [.int i,.int j]=>some (.int (if j<i then j else i))
 | _=>none
noncomputable def zy8:List D->Option D
 | [.int i]=>some (.int i)
 | [.bl b]=>some (.int (if b then 1 else 0))
 | _=>none
noncomputable def z7v:List D->Option D
 | [.lst ds]=>some (.lst ds)
 | [.tup ds]=>some (.lst ds)
 | [.scr ns]=>some (.lst (ns.map .int))
 | _=>none
noncomputable def z2m:List D->Option D
 | [.lst ds]=>some (.tup ds)
 | [.tup ds]=>some (.tup ds)
 | _=>none
section
variable {X:Cx} {K:Frag}
theorem RDs.uno {H:Hp} {d:D} {xs:List V} (h:RDs K H [d] xs):∃x,xs=[x]/\RD K H d x:=by
 simp only [RDs] at h
 obtain ⟨x,r,rfl,h1,rfl⟩:=h
 exact ⟨x,rfl,h1⟩
theorem RDs.duo {H:Hp} {d e:D} {xs:List V} (h:RDs K H [d,e] xs):∃x y,xs=[x,y]/\RD K H d x/\RD K H e y:=by
 simp only [RDs] at h
 obtain ⟨x,r,rfl,h1,y,r',rfl,h2,rfl⟩:=h
 exact ⟨x,y,rfl,h1,h2⟩
def zr0 (K:Frag):List V->Hp->VK->Prop:=fun xs H Q=>(∃p ys,xs=[.ref p]/\(SqL K H p ys\/SqT K H p ys)/\Q (.int ys.length) H)\/(∃a kvs,xs=[V.ref a]/\H a=some (.dK kvs)/\Q (.int kvs.length) H)\/∃z,xs=[.str z]/\z.length<=sizeLine/\Q (.int z.length) H
theorem z86:CallR X (.builtin "len") (zr0 X.K):=call_len_seq.or (call_lenD.or z9x)
theorem z87:z7m K false z7u (zr0 K):=by
 intro H0 H xs ds z Q s r ho k
 unfold z7u at ho
 split at ho<;>first | cases ho | skip
 . obtain ⟨x,rfl,q1⟩:=r.uno
   obtain ⟨a,ys,rfl,ha,ra⟩:=q1.lst
   exact .inl ⟨a,ys,rfl,.inl (.of (s _ _ ha)),by rw [<-ra.length];exact k _ H (.pure s (.mkInt _))⟩
 . obtain ⟨x,rfl,q1⟩:=r.uno
   obtain ⟨a,ys,rfl,ha,ra⟩:=q1.tup
   exact .inl ⟨a,ys,rfl,.inr (.of (s _ _ ha)),by rw [<-ra.length];exact k _ H (.pure s (.mkInt _))⟩
 . obtain ⟨x,rfl,q1⟩:=r.uno
   obtain ⟨a,ys,rfl,ha,hl,ra⟩:=q1.dk
   refine .inr (.inl ⟨a,_,rfl,s _ _ ha,?_⟩)
   rw [List.length_zip,<-hl,Nat.min_self]
   exact k _ H (.pure s (.mkInt _))
 . obtain ⟨x,rfl,q1⟩:=r.uno
   obtain ⟨a,rfl,ha⟩:=(q1.mono s).scr
   exact .inl ⟨a,_,rfl,.inl ha,by rw [List.length_map];exact k _ H (.pure s (.mkInt _))⟩
 . split at ho<;>cases ho
   rename_i h
   obtain ⟨x,rfl,q1⟩:=r.uno
   cases q1.str
   exact .inr (.inr ⟨_,rfl,zvn h,k _ H (.pure s (.mkInt _))⟩)
theorem zr1:z7m K false zj4 zms:=by
 intro H0 H xs ds z Q s r ho k
 unfold zj4 at ho
 split at ho<;>first | cases ho | skip
 . obtain ⟨x,rfl,q1⟩:=r.uno
   obtain ⟨a,ys,rfl,ha,ra⟩:=q1.lst
   rename_i es
   cases q:z3i es with
   | none=>rw [q] at ho;cases ho
   | some ns=>
    rw [q] at ho;cases ho
    rw [zfw]
    exact ⟨ns,by rw [<-z6u q ra];exact za3 (s _ _ ha),k _ H (.pure s (.mkInt _))⟩
 . obtain ⟨x,rfl,q1⟩:=r.uno
   obtain ⟨a,ys,rfl,ha,ra⟩:=q1.tup
   rename_i es
   cases q:z3i es with
   | none=>rw [q] at ho;cases ho
   | some ns=>
    rw [q] at ho;cases ho
    rw [zfw]
    exact ⟨ns,by rw [<-z6u q ra];exact za4 (s _ _ ha),k _ H (.pure s (.mkInt _))⟩
theorem zr2:z7m K false zqz zmt:=by
 intro H0 H xs ds z Q s r ho k
 unfold zqz at ho
 split at ho<;>first | cases ho | skip
 obtain ⟨x,rfl,q1⟩:=r.uno
 obtain ⟨a,ys,rfl,ha,ra⟩:=q1.lst
 rename_i es
 cases q:z3d es with
 | none=>rw [q] at ho;cases ho
 | some ns=>
  rw [q] at ho;cases ho
  rw [zmu]
  exact ⟨ns,by rw [<-z85 q ra];exact .inl (s _ _ ha),k _ H (.pure s (.mkBl _))⟩
def zku (K:Frag):List V->Hp->VK->Prop:=fun xs H Q=>∃p ys,xs=[.ref p]/\(SqL K H p ys\/SqT K H p ys)/\∀l,H l=none->Q (.ref l) (upd H l (.lst ys))
theorem z8y:CallR X (.type "list") (zku X.K):=z9y
theorem z8z:z7m K true z7v (zku K):=by
 intro H0 H xs ds z Q s r ho k
 have fin:∀{p:Addr} {ys:List V} {es:List D},RDs K H0 es ys->z=.lst es->H p=none->Q (.ref p) (upd H p (.lst ys)):=fun {p ys es} re e hp=>by
  subst e
  refine k _ _ (.new s hp fun H' hH=>?_)
  simp only [OB]
  exact ⟨_,hH,re⟩
 unfold z7v at ho
 split at ho<;>first | cases ho | skip
 . obtain ⟨x,rfl,q1⟩:=r.uno
   obtain ⟨a,ys,rfl,ha,ra⟩:=q1.lst
   exact ⟨a,ys,rfl,.inl (.of (s _ _ ha)),fun l hl=>fin ra rfl hl⟩
 . obtain ⟨x,rfl,q1⟩:=r.uno
   obtain ⟨a,ys,rfl,ha,ra⟩:=q1.tup
   exact ⟨a,ys,rfl,.inr (.of (s _ _ ha)),fun l hl=>fin ra rfl hl⟩
 . obtain ⟨x,rfl,q1⟩:=r.uno
   obtain ⟨a,rfl,ha⟩:=(q1.mono s).scr
   exact ⟨a,_,rfl,.inl ha,fun l hl=>fin (RDs.ofInts _) rfl hl⟩
def zg8 (K:Frag):List V->Hp->VK->Prop:=fun xs H Q=>∃p ys,xs=[.ref p]/\((SqL K H p ys/\∀l,H l=none->Q (.ref l) (upd H l (.tup ys)))\/(SqT K H p ys/\Q (.ref p) H))
theorem z6b:CallR X (.type "tuple") (zg8 X.K):=z8q
theorem z6c:z7m K false z2m (zg8 K):=by
 intro H0 H xs ds z Q s r ho k
 unfold z2m at ho
 split at ho<;>first | cases ho | skip
 . obtain ⟨x,rfl,q1⟩:=r.uno
   obtain ⟨a,ys,rfl,ha,ra⟩:=q1.lst
   refine ⟨a,ys,rfl,.inl ⟨.of (s _ _ ha),fun l hl=>k _ _ (.val (Same.upd_new hl) (.new s hl) (.mkTup z0w (ra.mono (Same.upd_new (s.none hl)))))⟩⟩
 . obtain ⟨x,rfl,q1⟩:=r.uno
   obtain ⟨a,ys,rfl,ha,ra⟩:=q1.tup
   exact ⟨a,ys,rfl,.inr ⟨.of (s _ _ ha),k _ H (.pure s (.mkTup ha ra))⟩⟩
end
noncomputable def zbl {α:Type} (xs:List α) (lo hi:Option Int):List α:=(xs.drop (HT.sIx xs.length 0 lo)).take (HT.sIx xs.length xs.length hi - HT.sIx xs.length 0 lo)
noncomputable def dSl:D->Option Int->Option Int->Option D
 | .lst ds,lo,hi=>some (.lst (zbl ds lo hi))
 | .scr ns,lo,hi=>some (.lst ((zbl ns lo hi).map .int))
 | _,_,_=>none
noncomputable def TOd (K:Frag) (EX:XW) (f:DE->R (Option Int)):TO:=fun U H Q=>Same EX.hb H/\∃ρ H0,Same H0 H/\RE K H0 ρ U/\Rk EX.at (f ρ) fun o=>∀H',Same H H'->Q o H'
noncomputable def oNo:DE->R (Option Int):=fun _=>.ok none
noncomputable def oSo (f:DE->R D):DE->R (Option Int):=fun ρ=>(f ρ).bind fun d=>R.of (match d with | .int i=>some (some i) | _=>none)
noncomputable def eSl (o:D->Option Int->Option Int->Option D) (f:DE->R D) (fl fh:DE->R (Option Int)):DE->R D:=fun ρ=>(f ρ).bind fun d=>(fl ρ).bind fun lo=>(fh ρ).bind fun hi=>R.of (o d lo hi)
def SlD (K:Frag) (fr:Bool) (o:D->Option Int->Option Int->Option D) (r:V->Option Int->Option Int->Hp->VK->Prop):Prop:=∀(H0 H:Hp) (x:V) (d z:D) (lo hi:Option Int) (Q:VK),Same H0 H->RD K H0 d x->o d lo hi=some z->(∀v H',Out K fr H0 H z v H'->Q v H')->r x lo hi H Q
section
variable {X:Cx} {K:Frag} {EX:XW} {fr:Bool} {U:St} {H:Hp} {Q:VK}
structure QO (X:Cx) (EX:XW) (e:Option Expr) (f:DE->R (Option Int)):Prop where
 h:PO X e (TOd X.K EX f)
theorem PO.imp {e:Option Expr} {t t':TO} (h:PO X e t) (hi:∀U H Q,t' U H Q->t U H Q):PO X e t':=fun pins s U H Q I q=>h pins s U H Q I (hi U H Q q)
theorem zpc {e:Expr} {f:DE->R D} (he:QE X EX false e f):QO X EX (some e) (oSo f):=⟨(zmf he.h).imp fun U H Q ⟨sx,ρ,H0,s,e,h⟩=>by
 unfold oSo at h
 rw [Rk.bind] at h
 refine TEd.go sx s e h fun d h v H1 H1' s1 e1 r1=>?_
 obtain ⟨o,ho,h⟩:=h.of
 cases d<;>dsimp only at ho<;>first | cases ho | skip
 cases r1.int
 exact ⟨_,rfl,h H1 s1⟩⟩
theorem zz2 {o:D->Option Int->Option Int->Option D} {r:V->Option Int->Option Int->Hp->VK->Prop} {f:DE->R D} {fl fh:DE->R (Option Int)} (hs:SlD K fr o r) (h:TEd K EX fr (eSl o f fl fh) U H Q):tSl r (TEd K EX false f) (TOd K EX fl) (TOd K EX fh) U H Q:=by
 obtain ⟨sx,ρ,H0,s,e,h⟩:=h
 unfold eSl at h
 rw [Rk.bind] at h
 refine TEd.go sx s e h fun d h v H1 H1' s1 e1 r1=>?_
 rw [Rk.bind] at h
 refine ⟨sx.trans s1,ρ,H1',e1.2.1,e.mono e1.1,h.mono fun lo h H2 s2=>?_⟩
 rw [Rk.bind] at h
 refine ⟨(sx.trans s1).trans s2,ρ,H1',e1.2.1.trans s2,e.mono e1.1,h.mono fun hi h H3 s3=>?_⟩
 obtain ⟨z,hz,h⟩:=h.of
 exact hs H1' H3 v d z lo hi Q (e1.2.1.trans (s2.trans s3)) r1 hz fun w H4 o=>h w H4 (o.after (s1.trans (s2.trans s3)) (e1.grow (s2.trans s3)))
theorem RDs.cut {H:Hp} {ds:List D} {xs:List V} (r:RDs K H ds xs) (lo hi:Option Int):RDs K H (zbl ds lo hi) (zp9 xs lo hi):=by
 unfold zbl zp9
 rw [<-r.length]
 exact (r.drop _).take _
theorem zbm:SlD K true dSl (zxw K):=by
 intro H0 H x d z lo hi Q s r ho k
 cases d<;>simp only [dSl] at ho<;>first | cases ho | skip
 . obtain ⟨a,xs,rfl,ha,ra⟩:=r.lst
   refine ⟨a,xs,rfl,.of (s _ _ ha),fun p hp=>k _ _ (.new s hp fun H' hH=>?_)⟩
   simp only [OB]
   exact ⟨_,hH,ra.cut lo hi⟩
 . rename_i ns
   obtain ⟨a,rfl,ha⟩:=(r.mono s).scr
   refine ⟨a,_,rfl,ha,fun p hp=>k _ _ (.new s hp fun H' hH=>?_)⟩
   simp only [OB]
   have e:=(RDs.ofInts (K:=K) (H:=H0) ns).cut lo hi
   refine ⟨_,hH,?_⟩
   have e2:∀ns:List Int,zbl (ns.map D.int) lo hi=(zbl ns lo hi).map D.int:=fun ns=>by
    unfold zbl;rw [List.length_map,List.map_take,List.map_drop]
   rw [e2] at e
   exact e
theorem zvx {o:D->Option Int->Option Int->Option D} {r:V->Option Int->Option Int->Hp->VK->Prop} {e:Expr} {lo hi:Option Expr} {pos p2:Pos} {f:DE->R D} {fl fh:DE->R (Option Int)} (hr:SlR X r) (hs:SlD X.K fr o r) (he:QE X EX false e f) (hl:QO X EX lo fl) (hu:QO X EX hi fh) :
 QE X EX fr (.Subscript e (.Slice lo hi none p2) pos) (eSl o f fl fh):=⟨(zin hr he.h hl.h hu.h).imp fun _ _ _ q=>zz2 hs q⟩
end
noncomputable def iL (f:DE->R D):DE->R (List D):=fun ρ=>(f ρ).bind fun d=>R.of (items d)
noncomputable def zD (lo:Int) (n:Nat):List D:=(List.range n).map fun (i:Nat)=>D.int (lo+i)
noncomputable def zr3 (fs:DE->R (List D)):DE->R (List D):=fun ρ=>(fs ρ).bind fun ds=>R.of (match ds with
 | [.int j]=>if -(2 ^ 62)<=j/\j<2 ^ 62 then some (zD 0 j.toNat) else none
 | _=>none)
noncomputable def zkv (fs:DE->R (List D)):DE->R (List D):=fun ρ=>(fs ρ).bind fun ds=>R.of (match ds with
 | [.int i,.int j]=>if -(2 ^ 62)<=i/\i<2 ^ 62/\-(2 ^ 62)<=j/\j<2 ^ 62 then some (zD i (j - i).toNat) else none
 | _=>none)
noncomputable def iEn (fs:DE->R (List D)):DE->R (List D):=fun ρ=>(fs ρ).bind fun ds=>R.of (match ds with
 | [.lst es]=>some (((zD 0 es.length).zip es).map fun p=>D.tup [p.1,p.2])
 | _=>none)
section
variable {X:Cx} {K:Frag} {EX:XW} {H0:Hp}
theorem zcv {S:Hp->Prop} {xs:List V} {ds:List D} (hS:∀H,Same H0 H->S H) (r:RDs K H0 ds xs):zqn K (ItS S xs) H0 ds:=by
 have hl:=r.length
 refine ⟨fun i d e H H1 s1 s2=>⟨⟨hS H (s1.trans s2),by rw [<-hl];exact (List.getElem?_eq_some_iff.mp e).1⟩,fun x H' ⟨e1,e2⟩=>?_⟩,fun H s=>⟨hS H s,by rw [hl];exact Nat.le_refl _⟩⟩
 subst e1
 obtain ⟨x',q1,q2⟩:=r.get' e
 rw [q1] at e2;cases e2
 exact ⟨Same.refl _,H1,.refl s2,q2.mono s1⟩
theorem zn3 (lo:Int) (n:Nat):RDs K H0 (zD lo n) (ze2 lo n):=by
 have:∀l:List Nat,RDs K H0 (l.map fun (i:Nat)=>D.int (lo+i)) (l.map fun (i:Nat)=>V.int (lo+i)):=by
  intro l
  induction l with
  | nil=>simp [RDs]
  | cons a l ih=>exact .cons (.mkInt _) ih
 exact this _
theorem zbn {tg l:Expr} {f:DE->R D} (hl:QE X EX false l f):QI X EX false tg l (iL f):=⟨(zq4 hl.h).imp fun U H Q ⟨sx,ρ,H0,s,e,h⟩=>by
 unfold iL at h
 rw [Rk.bind] at h
 refine TEd.go sx s e h fun d h v H1 H1' s1 e1 r1=>?_
 obtain ⟨ds,hd,h⟩:=h.of
 cases d<;>simp only [items] at hd<;>first | cases hd | skip
 . obtain ⟨a,xs,rfl,ha,ra⟩:=r1.tup
   exact ziv (e1.2.1 _ _ ha) (h _ H1 H1' s1 e1 (zcv (fun H s=>s _ _ ha) ra))
 . obtain ⟨a,xs,rfl,ha,ra⟩:=r1.lst
   exact ziu (.inl (e1.2.1 _ _ ha)) (h _ H1 H1' s1 e1 (zcv (fun H s=>.inl (s _ _ ha)) ra))⟩
theorem zz3 {tg a:Expr} {p pos:Pos} {fs:DE->R (List D)} (hg:Gl X "range") (hm:X.mg "range"=none) (ha:QA X EX [a] fs) (hs:starEach [a] X.env=[(false,eval a X.env)]:=by rfl):QI X EX true tg (.Call (.Name "range" p) [a] [] pos) (zr3 fs):=⟨(zuy hg hm ha.h hs).imp fun U H Q ⟨sx,ρ,H0,s,e,h⟩=>by
 unfold zr3 at h
 rw [Rk.bind] at h
 refine TAd.go sx s e h fun ds h vs H1 H1' s1 e1 r1=>?_
 obtain ⟨es,hd,h⟩:=h.of
 split at hd<;>first | cases hd | skip
 obtain ⟨x,rfl,q1⟩:=r1.uno
 cases q1.int
 split at hd<;>cases hd
 rename_i hb
 exact ⟨hb,h _ H1 H1' s1 e1 (zcv (fun _ _=>trivial) (zn3 _ _))⟩⟩
theorem zz4 {tg a b:Expr} {p pos:Pos} {fs:DE->R (List D)} (hg:Gl X "range") (hm:X.mg "range"=none) (ha:QA X EX [a,b] fs) (hs:starEach [a,b] X.env=[(false,eval a X.env),(false,eval b X.env)]:=by rfl) (hs2:starEach [b] X.env=[(false,eval b X.env)]:=by rfl) :
  QI X EX true tg (.Call (.Name "range" p) [a,b] [] pos) (zkv fs):=⟨(zuz hg hm ha.h hs hs2).imp fun U H Q ⟨sx,ρ,H0,s,e,h⟩=>by
 unfold zkv at h
 rw [Rk.bind] at h
 refine TAd.go sx s e h fun ds h vs H1 H1' s1 e1 r1=>?_
 obtain ⟨es,hd,h⟩:=h.of
 split at hd<;>first | cases hd | skip
 obtain ⟨x,y,rfl,q1,q2⟩:=r1.duo
 cases q1.int;cases q2.int
 split at hd<;>cases hd
 rename_i hb
 exact ⟨hb,h _ H1 H1' s1 e1 (zcv (fun _ _=>trivial) (zn3 _ _))⟩⟩
theorem zg9 {S:Hp->Prop} {xs ys:List V} {ds es:List D} (hS:∀H,Same H0 H->S H) (r:RDs K H0 ds xs) (r':RDs K H0 es ys):zqn K (ItP S (xs.zip ys)) H0 ((ds.zip es).map fun p=>D.tup [p.1,p.2]):=by
 have hl:=r.length
 have hl':=r'.length
 have hz:((ds.zip es).map fun p=>D.tup [p.1,p.2]).length=(xs.zip ys).length:=by rw [List.length_map,List.length_zip,List.length_zip,hl,hl']
 refine ⟨fun i d e H H1 s1 s2=>⟨⟨hS H (s1.trans s2),by rw [<-hz];exact (List.getElem?_eq_some_iff.mp e).1⟩,fun x H' y=>?_⟩,fun H s=>⟨hS H s,hz⟩⟩
 obtain ⟨T,a,b,rfl,hT,rfl,ep⟩:=y
 obtain ⟨ea,eb⟩:=List.getElem?_zip_eq_some.mp ep
 obtain ⟨da,ga,ra⟩:=r.get ea
 obtain ⟨db,gb,rb⟩:=r'.get eb
 have gz:(ds.zip es)[i]?=some (da,db):=List.getElem?_zip_eq_some.mpr ⟨ga,gb⟩
 rw [List.getElem?_map,gz] at e
 cases e
 refine ⟨Same.upd_new hT,upd H1 T (.tup [a,b]),.new s2 hT,.mkTup z0w ?_⟩
 have sm:=Same.upd_new (o:=.tup [a,b]) (s2.none hT)
 exact .cons (ra.mono (s1.trans sm)) (.cons (rb.mono (s1.trans sm)) .nil)
theorem zz5 {elts:List Expr} {k:Nat} {a:Expr} {p pos tpos:Pos} {fs:DE->R (List D)} (hg:Gl X "enumerate") (hm:X.mg "enumerate"=none) (ha:QA X EX [a] fs) (hs:starEach [a] X.env=[(false,eval a X.env)]:=by rfl) :
  QI X EX false (.Tuple elts k tpos) (.Call (.Name "enumerate" p) [a] [] pos) (iEn fs):=⟨(zmp hg hm ha.h hs).imp fun U H Q ⟨sx,ρ,H0,s,e,h⟩=>by
 unfold iEn at h
 rw [Rk.bind] at h
 refine TAd.go sx s e h fun ds h vs H1 H1' s1 e1 r1=>?_
 obtain ⟨es,hd,h⟩:=h.of
 split at hd<;>first | cases hd | skip
 obtain ⟨x,rfl,q1⟩:=r1.uno
 obtain ⟨l,xs,rfl,hl,rl⟩:=q1.lst
 refine ⟨xs,.inl (e1.2.1 _ _ hl),h _ H1 H1' s1 e1 ?_⟩
 rw [rl.length]
 exact zg9 (fun H s=>.inl (s _ _ hl)) (zn3 _ _) rl⟩
end
section
variable {X:Cx} {sc:Scope} {caps:List Str} {ix:List Nat} {elt iter:Expr} {ifs:List Expr} {pos px py pz tpos:Pos} {x y z:Str} {kt:Nat} {kp:Bool} {EX:XW} {fi:DE->R (List D)} {t:DE->R Bool} {f:DE->R D}
noncomputable def z5p:DE->R Bool:=fun _=>.ok true
inductive PTq (X:Cx) (sc:Scope) (N:List Str):List Expr->(DE->R Bool)->Prop where
 | nil:PTq X sc N [] z5p
 | one {c:Expr} {t:DE->R Bool} (h:∀fp s H,QT (z1x X sc N fp s H) F0 c t):PTq X sc N [c] t
theorem PTq.run {N:List Str} (h:PTq X sc N ifs t):∃tt,(∀fp s H,PTs (z1x X sc N fp s H) ifs tt)/\∀U H Q,TTd X.K F0 t U H Q->tt U H Q:=by
 cases h with
 | nil=>exact ⟨_,fun _ _ _=>.nil,fun U H Q ⟨sx,ρ,H0,s,e,h⟩=>h H (Same.refl _)⟩
 | one h=>exact ⟨_,fun fp s H=>.one (h fp s H).h,fun _ _ _ q=>q⟩
theorem zy9 (C:CompOk X sc caps ix) (hN:([x]++caps).Nodup) (hx:sc.names.lookup x=some .local) (hi:QI X EX kp (.Name x px) iter fi) (ht:PTq X sc ([x]++caps) ifs t) (he:∀fp s H,QE (z1x X sc ([x]++caps) fp s H) F0 false elt f)
  (hs:∀x,foldedSetIterable iter X.env x=pure x:=by intro _;rfl):QE X EX true (.ListComp elt [⟨.Name x px,iter,ifs,0⟩] sc pos) (z1k fi b1 ix t f):=by
 obtain ⟨tt,h1,h2⟩:=ht.run
 refine ⟨(ziw C hN hx hi.h h1 (fun fp s H=>(he fp s H).h) hs).imp fun _ _ _ q=>zkn zyy h2 q⟩
theorem zn4 (C:CompOk X sc caps ix) (hN:([x,y]++caps).Nodup) (hx:sc.names.lookup x=some .local) (hy:sc.names.lookup y=some .local) (hi:QI X EX kp (.Tuple [.Name x px,.Name y py] kt tpos) iter fi) (ht:PTq X sc ([x,y]++caps) ifs t)
  (he:∀fp s H,QE (z1x X sc ([x,y]++caps) fp s H) F0 false elt f) (hs:∀x,foldedSetIterable iter X.env x=pure x:=by intro _;rfl):QE X EX true (.ListComp elt [⟨.Tuple [.Name x px,.Name y py] kt tpos,iter,ifs,0⟩] sc pos) (z1k fi (bT 2) ix t f):=by
 obtain ⟨tt,h1,h2⟩:=ht.run
 refine ⟨(zix C hN hx hy hi.h h1 (fun fp s H=>(he fp s H).h) hs).imp fun _ _ _ q=>zkn zyz h2 q⟩
end
section
variable {X:Cx} {EX:XW} {fr fr':Bool} {st:Stmt} {sts:List Stmt} {a b c e:Expr} {es:List Expr} {f fv fk:DE->R D} {fs:DE->R (List D)} {t:DE->R Bool} {g g1 g2:DS->SR} {pos p:Pos} {m:List Bool}
theorem z41:QB X EX fr [] sNx:=⟨pss_nil.imp fun _ _ _ q=>zyv q⟩
theorem z0x (h:QS X EX fr st g):QB X EX fr [st] g:=⟨zf2 h.h⟩
theorem z07 (h1:QS X EX fr st g1) (h2:QB X EX fr sts g2):QB X EX fr (st::sts) (z1e g1 g2):=⟨(zcf h1.h h2.h).imp fun _ _ _ q=>zqk q⟩
theorem z9n {x y:List Stmt} (hc:QT X EX c t) (ha:QB X EX fr x g1) (hb:QB X EX fr y g2):QS X EX fr (.If c x y pos) (sIf t g1 g2):=⟨(zum hc.h ha.h hb.h).imp fun _ _ _ q=>zvi q⟩
theorem z26 (he:QE X EX fr e f):QS X EX fr (.Return (some e) pos) (z3p m f):=⟨(zpq he.h).imp fun _ _ _ q=>zvj q⟩
theorem z1g {i:Nat} {x:Str} {pos':Pos} (hN:X.N.Nodup) (hi:X.N[i]?=some x) (hx:Loc X.env.scope x) (he:QE X EX fr' e f) (hs:swapsWith e (some (.Name x pos')) pos.line X.env=pure false:=by rfl) (hf:X.fn x=true\/X.env.scope.names.lookup x=some .local:=by first | exact .inl rfl | exact .inr rfl | assumption) :
 QS X EX fr (.Assign [.Name x pos'] e pos) (z34 fr' i m f):=⟨(zkh hN hi hx he.h hs hf).imp fun _ _ _ q=>zql q⟩
theorem g_n {i:Nat} {x:Str} {pos:Pos} (hN:X.N.Nodup) (hi:X.N[i]?=some x) (hx:Loc X.env.scope x) (hf:X.fn x=true\/X.env.scope.names.lookup x=some .local:=by first | exact .inl rfl | exact .inr rfl | assumption):QG X (.Name x pos) (.n i):=⟨(zb2 hN hi hx hf).imp fun _ _ _ _ q=>zyw q⟩
theorem z88:QGs X [] []:=⟨ziy⟩
theorem z2o {i:Nat} {is:List Nat} {x:Str} {pos:Pos} {ts:List Expr} (hN:X.N.Nodup) (hi:X.N[i]?=some x) (hx:Loc X.env.scope x) (hr:QGs X ts is) (hf:X.fn x=true\/X.env.scope.names.lookup x=some .local:=by first | exact .inl rfl | exact .inr rfl | assumption)
 (hs:(assignEach (.Name x pos::ts) X.env).map (·.2)=assign (.Name x pos) X.env::(assignEach ts X.env).map (·.2):=by rfl):QGs X (.Name x pos::ts) (i::is):=⟨zft (zb2 hN hi hx hf) hr.h hs⟩
theorem g_t {is:List Nat} {ts:List Expr} {k:Nat} {pos:Pos} (hc:X.calm=true) (h:QGs X ts is) (hn:(assignEach ts X.env).length=is.length:=by rfl) (hst:(assignEach ts X.env).findIdx? (·.1)=none:=by rfl):QG X (.Tuple ts k pos) (.t is):=⟨(zfv hc h.h hn hst).imp fun _ _ _ _ q=>zy3 q⟩
theorem zbo {tg iter:Expr} {tt:Tg} {body:List Stmt} {kp:Bool} {fi:DE->R (List D)} (hp:PassesOwn (model X.prog X.w) X.A X.env X.xe) (hc:X.calm=true) (hi:QI X EX kp tg iter fi) (hg:QG X tg tt) (hb:QB X EX fr body g)
 (hs:∀x,foldedSetIterable iter X.env x=pure x:=by intro _;rfl):QS X EX fr (.For tg iter body [] pos) (zbd kp m fi tt g):=⟨(zfp hp hc hi.h hg.h hb.h hs).imp fun _ _ _ q=>zqo q⟩
theorem zn5 {n:Nat} {body:List Stmt} (hp:PassesOwn (model X.prog X.w) X.A X.env X.xe) (hc:QT X EX c t) (hb:QB X EX fr body g):QS X EX fr (.While c body [] pos) (zcs n t g):=⟨(zim hp hc.h hb.h).imp fun _ _ _ q=>zmw q⟩
noncomputable def zga:D->List D->Option D
 | .lst ds,[d]=>if ds.length<100000 then some (.lst (ds++[d])) else none
 | _,_=>none
theorem zbp {K:Frag}:TyD K "list":=fun H0 H a d ob h=>by
 cases d<;>simp [isT] at h
 simp only [OB] at ob
 obtain ⟨xs,hx,_⟩:=ob
 exact .inl ⟨rfl,xs,.of hx⟩
theorem zgb {K:Frag}:zvk K zga zfc:=by
 intro H0 H a d d' ds vs Q s h0 ob r hm k
 unfold zga at hm
 split at hm<;>first | cases hm | skip
 split at hm<;>cases hm
 rename_i es e hl
 simp only [OB] at ob
 obtain ⟨xs,hx,rx⟩:=ob
 obtain ⟨y,rfl,q1⟩:=r.uno
 refine ⟨a,xs,y,rfl,rfl,hx,by rw [<-rx.length];exact z54 hl,k _ _ ?_⟩
 simp only [OB]
 exact ⟨_,z0w,rx.append (.one q1)⟩
theorem zn6 {T id:String} {name:Str} {i:Nat} {x:Str} {xp apos cpos:Pos} {mt:D->List D->Option D} {rr:V->List V->Hp->VK->Prop} (pa:PlainAttrs T) (slot:Slot T name id) (hty:typeOf (.builtin id)=pure (.type "method_descriptor")) (hm:MtM X id rr) (od:zvk X.K mt rr) (hT:TyD X.K T)
 (ho:PE X (.Name x xp) (zew i)) (ha:QA X EX (e::es) fs)
 (hbase:attributeBase (.Name x xp) name X.env (eval (.Name x xp) X.env)=eval (.Name x xp) X.env:=by rfl)
 (hfew:((backTo cpos (starEach (e::es) X.env)).all (fun x=>!x.1)&&(backToKw cpos (keywordEach [] X.env)).all (fun x=>x.1.isSome)
  && decide ((e::es).length+([]:List Keyword).length+(if ([]:List Keyword).isEmpty then 0 else 1)<30))=true:=by rfl)
 (hline:(apos.endLine==cpos.line)=true:=by rfl) (hs:starEach (e::es) X.env=(false,eval e X.env)::starEach es X.env:=by rfl) (hplain:(backTo cpos (starEach es X.env)).any (·.1)=false:=by rfl)
 (hsw:swapsWith (.Call (.Attribute (.Name x xp) name apos) (e::es) [] cpos) none pos.line X.env=pure false:=by rfl) :
 QS X EX fr (.Expr (.Call (.Attribute (.Name x xp) name apos) (e::es) [] cpos) pos) (zmv T mt i m fs):=⟨(zf4 (zuu pa slot hty hm ho ha.h hbase hfew hline hs hplain) hsw).imp fun _ _ _ q=>zvl od hT q⟩
end
theorem fnD {P:Program} {w:World} {K:Frag} {mg:Str->Option Value} {base:Heap} {x qual:Str} {st:Stmt} {f:Addr} {fd:FuncData} {N ps:List Str} {k n kk:Nat} {fr:Bool} {g:DS->SR} (F:Fun K x qual st f fd) (S:FnScope N ps (z02 st)) (hps:ps.length=n) (hN:N.length=n+kk)
  (hbody:∀(cdv:Value) (A:Around) (outer:List Env) (s:Shared) (H:Hp) (E:XK),Room k (A.deeper (envOfC qual (z02 st) s.heap.objs.size f cdv)) ->
   QB (zie (CX1 P w) P w K mg base N qual (z02 st) f cdv A outer s H E) ⟨H,xNm mg E⟩ fr (z0k st) g):FnOk P w K mg base (CX1 P w) (k+1) f fd ps (spD K mg fr (mOf fr n kk g) n):=by
 have hlen:∀{vs:List V} {H:Hp} {Q:VK} {E:XK},spD K mg fr (mOf fr n kk g) n vs H Q E->vs.length=n:=fun {vs H Q E} h=>by
  obtain ⟨ds,H0,s,r,hn,_⟩:=h
  rw [<-r.length];exact hn
 refine F.okX S (fun vs H Q E h=>by rw [hlen h,hps]) (fun cdv A outer s H vs Q E hr h=>⟨_,(hbody cdv A outer s H E hr).h,?_⟩)
 have e:z5k N vs=vs.map some++List.replicate kk none:=by
  unfold z5k
  rw [hlen h,hN,Nat.add_sub_cancel_left]
 rw [e]
 exact zqq h
noncomputable def spL (K:Frag) (fr:Bool) (m:List D->R D) (n:Nat):Sp:=fun vs H Q _=>∃ds H0,Same H0 H/\RDs K H0 ds vs/\ds.length=n/\Rk (fun _=>False) (m ds) fun d=>∀v H',Out K fr H0 H d v H'->Q v H'
theorem spL.spD {K:Frag} {fr:Bool} {m:List D->R D} {n:Nat} {vs:List V} {H:Hp} {Q:VK} {E:XK} {mg:Str->Option Value} (h:spL K fr m n vs H Q E):L2.spD K mg fr m n vs H Q E:=by
 obtain ⟨ds,H0,s,r,hn,h⟩:=h
 refine ⟨ds,H0,s,r,hn,?_⟩
 cases q:m ds with
 | ok d=>rw [q] at h;exact h
 | er x=>rw [q] at h;exact h.elim
 | st=>rw [q] at h;exact h.elim
theorem zr4 {K:Frag} {H:Hp} {a:Addr} {ns:List Int} {m:List D->R D} {fr:Bool} (hO:zuc H) (hS:SqL K H a (ns.map V.int)) (h:m [.scr ns]=.ok (.bl true)):spL K fr m 1 [.ref a] H (fun v _=>v=.bl true) fun _ _ _=>False:=by
 refine ⟨[.scr ns],H,Same.refl _,.one ?_,rfl,?_⟩
 . simp only [RD]
   refine ⟨a,rfl,?_⟩
   rcases hS with (hS | hS) | hS
   . rcases hO a with z | ⟨o,xs,z⟩<;>rw [z] at hS<;>cases hS
   . exact .inl hS
   . exact .inr hS
 . rw [h]
   exact fun v H' o=>by
    obtain ⟨_,H0',_,r⟩:=o.weak.rd
    exact r.bl
end L2
namespace L2
open PySem PySem.Spec PyProof.Rows
open PySem.W (KasT kas_sort kas_rev kas_asc kas_desc kas_tail3 kas_descPart kas_count kas_place kas_bin)
section
variable {lt:Nat->Nat->Bool} {p:Array Nat}
abbrev g (p:Array Nat) (i:Nat):Nat:=p.getD i 0
end
end L2
namespace L2
open PySem PySem.Spec PyProof.Rows
open PySem.W (KasT kas_sort)
mutual
noncomputable def D.oi:D->Bool
 | .int _=>true
 | .tup ds=>ois ds
 | _=>false
noncomputable def ois:List D->Bool
 | []=>true
 | d::ds=>d.oi&&ois ds
end
mutual
noncomputable def ltT:D->D->Bool
 | .int i,.int j=>decide (i<j)
 | .int _,.tup _=>true
 | .tup ds,.tup es=>z5h ds es
 | _,_=>false
noncomputable def z5h:List D->List D->Bool
 | [],[]=>false
 | [],_::_=>true
 | _::_,[]=>false
 | d::ds,e::es=>if eqD d e=true then z5h ds es else ltT d e
end
mutual
noncomputable def z36:D->D->Option Bool
 | .int i,.int j=>some (decide (i<j))
 | .tup ds,.tup es=>z2v ds es
 | _,_=>none
noncomputable def z2v:List D->List D->Option Bool
 | [],[]=>some false
 | [],_::_=>some true
 | _::_,[]=>some false
 | d::ds,e::es=>if eqD d e=true then z2v ds es else z36 d e
end
mutual
theorem zkw:∀{d e:D} {b:Bool},z36 d e=some b->b=ltT d e
 | .int i,.int j,b,h=>by simp only [z36,Option.some.injEq] at h;simp only [ltT];exact h.symm
 | .tup ds,.tup es,b,h=>by simp only [z36] at h;simp only [ltT];exact zgc h
 | .non,e,b,h=>by simp [z36] at h
 | .bl _,e,b,h=>by simp [z36] at h
 | .str _,e,b,h=>by simp [z36] at h
 | .lst _,e,b,h=>by simp [z36] at h
 | .dk _ _,e,b,h=>by simp [z36] at h
 | .dt _ _,e,b,h=>by simp [z36] at h
 | .dn _ _,e,b,h=>by simp [z36] at h
 | .scr _,e,b,h=>by simp [z36] at h
 | .exc _,e,b,h=>by simp [z36] at h
 | .int _,.non,b,h=>by simp [z36] at h
 | .int _,.bl _,b,h=>by simp [z36] at h
 | .int _,.str _,b,h=>by simp [z36] at h
 | .int _,.lst _,b,h=>by simp [z36] at h
 | .int _,.tup _,b,h=>by simp [z36] at h
 | .int _,.dk _ _,b,h=>by simp [z36] at h
 | .int _,.dt _ _,b,h=>by simp [z36] at h
 | .int _,.dn _ _,b,h=>by simp [z36] at h
 | .int _,.scr _,b,h=>by simp [z36] at h
 | .int _,.exc _,b,h=>by simp [z36] at h
 | .tup _,.non,b,h=>by simp [z36] at h
 | .tup _,.bl _,b,h=>by simp [z36] at h
 | .tup _,.int _,b,h=>by simp [z36] at h
 | .tup _,.str _,b,h=>by simp [z36] at h
 | .tup _,.lst _,b,h=>by simp [z36] at h
 | .tup _,.dk _ _,b,h=>by simp [z36] at h
 | .tup _,.dt _ _,b,h=>by simp [z36] at h
 | .tup _,.dn _ _,b,h=>by simp [z36] at h
 | .tup _,.scr _,b,h=>by simp [z36] at h
 | .tup _,.exc _,b,h=>by simp [z36] at h
theorem zgc:∀{ds es:List D} {b:Bool},z2v ds es=some b->b=z5h ds es
 | [],[],b,h=>by simp only [z2v,Option.some.injEq] at h;simp only [z5h];exact h.symm
 | [],_::_,b,h=>by simp only [z2v,Option.some.injEq] at h;simp only [z5h];exact h.symm
 | _::_,[],b,h=>by simp only [z2v,Option.some.injEq] at h;simp only [z5h];exact h.symm
 | d::ds,e::es,b,h=>by
  simp only [z2v] at h
  simp only [z5h]
  split at h
  . rename_i q;rw [if_pos q];exact zgc h
  . rename_i q;rw [if_neg q];exact zkw h
end
mutual
theorem zec:∀{d e:D},d.oi=true->eqD d e=true->e.oi=true->d=e
 | .int i,.int j,_,h,_=>by simp only [eqD,beq_iff_eq] at h;rw [h]
 | .tup ds,.tup es,p,h,q=>by
  simp only [eqD] at h
  simp only [D.oi] at p q
  rw [zkx p h q]
 | .int i,.tup _,_,h,_=>by simp [eqD] at h
 | .tup _,.int _,_,h,_=>by simp [eqD] at h
 | .int _,.non,_,_,q=>by simp [D.oi] at q
 | .int _,.bl _,_,_,q=>by simp [D.oi] at q
 | .int _,.str _,_,_,q=>by simp [D.oi] at q
 | .int _,.lst _,_,_,q=>by simp [D.oi] at q
 | .int _,.dk _ _,_,_,q=>by simp [D.oi] at q
 | .int _,.dt _ _,_,_,q=>by simp [D.oi] at q
 | .int _,.dn _ _,_,_,q=>by simp [D.oi] at q
 | .int _,.scr _,_,_,q=>by simp [D.oi] at q
 | .int _,.exc _,_,_,q=>by simp [D.oi] at q
 | .tup _,.non,_,_,q=>by simp [D.oi] at q
 | .tup _,.bl _,_,_,q=>by simp [D.oi] at q
 | .tup _,.str _,_,_,q=>by simp [D.oi] at q
 | .tup _,.lst _,_,_,q=>by simp [D.oi] at q
 | .tup _,.dk _ _,_,_,q=>by simp [D.oi] at q
 | .tup _,.dt _ _,_,_,q=>by simp [D.oi] at q
 | .tup _,.dn _ _,_,_,q=>by simp [D.oi] at q
 | .tup _,.scr _,_,_,q=>by simp [D.oi] at q
 | .tup _,.exc _,_,_,q=>by simp [D.oi] at q
 | .non,_,p,_,_=>by simp [D.oi] at p
 | .bl _,_,p,_,_=>by simp [D.oi] at p
 | .str _,_,p,_,_=>by simp [D.oi] at p
 | .lst _,_,p,_,_=>by simp [D.oi] at p
 | .dk _ _,_,p,_,_=>by simp [D.oi] at p
 | .dt _ _,_,p,_,_=>by simp [D.oi] at p
 | .dn _ _,_,p,_,_=>by simp [D.oi] at p
 | .scr _,_,p,_,_=>by simp [D.oi] at p
 | .exc _,_,p,_,_=>by simp [D.oi] at p
theorem zkx:∀{ds es:List D},ois ds=true->z51 ds es=true->ois es=true->ds=es
 | [],[],_,_,_=>rfl
 | [],_::_,_,h,_=>by simp [z51] at h
 | _::_,[],_,h,_=>by simp [z51] at h
 | d::ds,e::es,p,h,q=>by
  simp only [z51,Bool.and_eq_true] at h
  simp only [ois,Bool.and_eq_true] at p q
  rw [zec p.1 h.1 q.1,zkx p.2 h.2 q.2]
end
mutual
theorem z90:∀{d:D},d.oi=true->eqD d d=true
 | .int i,_=>by simp [eqD]
 | .tup ds,p=>by simp only [eqD];exact zcw (by simpa only [D.oi] using p)
 | .non,p=>by simp [D.oi] at p
 | .bl _,p=>by simp [D.oi] at p
 | .str _,p=>by simp [D.oi] at p
 | .lst _,p=>by simp [D.oi] at p
 | .dk _ _,p=>by simp [D.oi] at p
 | .dt _ _,p=>by simp [D.oi] at p
 | .dn _ _,p=>by simp [D.oi] at p
 | .scr _,p=>by simp [D.oi] at p
 | .exc _,p=>by simp [D.oi] at p
theorem zcw:∀{ds:List D},ois ds=true->z51 ds ds=true
 | [],_=>rfl
 | d::ds,p=>by
  simp only [ois,Bool.and_eq_true] at p
  simp only [z51,z90 p.1,zcw p.2,Bool.and_self]
end
mutual
theorem zcx:∀{d e:D},d.oi=true->e.oi=true->ltT d e=false->ltT e d=false->d=e
 | .int i,.int j,_,_,h,h'=>by
  simp only [ltT,decide_eq_false_iff_not] at h h'
  have:i=j:=by omega
  rw [this]
 | .tup ds,.tup es,p,q,h,h'=>by
  simp only [ltT] at h h'
  simp only [D.oi] at p q
  rw [zgd p q h h']
 | .int _,.tup _,_,_,h,_=>by simp [ltT] at h
 | .tup _,.int _,_,_,_,h=>by simp [ltT] at h
 | .int _,.non,_,q,_,_=>by simp [D.oi] at q
 | .int _,.bl _,_,q,_,_=>by simp [D.oi] at q
 | .int _,.str _,_,q,_,_=>by simp [D.oi] at q
 | .int _,.lst _,_,q,_,_=>by simp [D.oi] at q
 | .int _,.dk _ _,_,q,_,_=>by simp [D.oi] at q
 | .int _,.dt _ _,_,q,_,_=>by simp [D.oi] at q
 | .int _,.dn _ _,_,q,_,_=>by simp [D.oi] at q
 | .int _,.scr _,_,q,_,_=>by simp [D.oi] at q
 | .int _,.exc _,_,q,_,_=>by simp [D.oi] at q
 | .tup _,.non,_,q,_,_=>by simp [D.oi] at q
 | .tup _,.bl _,_,q,_,_=>by simp [D.oi] at q
 | .tup _,.str _,_,q,_,_=>by simp [D.oi] at q
 | .tup _,.lst _,_,q,_,_=>by simp [D.oi] at q
 | .tup _,.dk _ _,_,q,_,_=>by simp [D.oi] at q
 | .tup _,.dt _ _,_,q,_,_=>by simp [D.oi] at q
 | .tup _,.dn _ _,_,q,_,_=>by simp [D.oi] at q
 | .tup _,.scr _,_,q,_,_=>by simp [D.oi] at q
 | .tup _,.exc _,_,q,_,_=>by simp [D.oi] at q
 | .non,_,p,_,_,_=>by simp [D.oi] at p
 | .bl _,_,p,_,_,_=>by simp [D.oi] at p
 | .str _,_,p,_,_,_=>by simp [D.oi] at p
 | .lst _,_,p,_,_,_=>by simp [D.oi] at p
 | .dk _ _,_,p,_,_,_=>by simp [D.oi] at p
 | .dt _ _,_,p,_,_,_=>by simp [D.oi] at p
 | .dn _ _,_,p,_,_,_=>by simp [D.oi] at p
 | .scr _,_,p,_,_,_=>by simp [D.oi] at p
 | .exc _,_,p,_,_,_=>by simp [D.oi] at p
theorem zgd:∀{ds es:List D},ois ds=true->ois es=true->z5h ds es=false->z5h es ds=false->ds=es
 | [],[],_,_,_,_=>rfl
 | [],_::_,_,_,h,_=>by simp [z5h] at h
 | _::_,[],_,_,_,h=>by simp [z5h] at h
 | d::ds,e::es,p,q,h,h'=>by
  simp only [ois,Bool.and_eq_true] at p q
  simp only [z5h] at h h'
  by_cases w:eqD d e=true
  . have:=zec p.1 w q.1
    subst this
    rw [if_pos w] at h
    rw [if_pos w] at h'
    rw [zgd p.2 q.2 h h']
  . have w':¬eqD e d=true:=fun z=>w (by rw [zec q.1 z p.1];exact z90 p.1)
    rw [if_neg w] at h
    rw [if_neg w'] at h'
    have:=zcx p.1 q.1 h h'
    subst this
    exact absurd (z90 p.1) w
end
mutual
theorem zge:∀{d:D},d.oi=true->ltT d d=false
 | .int i,_=>by simp [ltT]
 | .tup ds,p=>by simp only [ltT];exact zgf (by simpa only [D.oi] using p)
 | .non,p=>by simp [D.oi] at p
 | .bl _,p=>by simp [D.oi] at p
 | .str _,p=>by simp [D.oi] at p
 | .lst _,p=>by simp [D.oi] at p
 | .dk _ _,p=>by simp [D.oi] at p
 | .dt _ _,p=>by simp [D.oi] at p
 | .dn _ _,p=>by simp [D.oi] at p
 | .scr _,p=>by simp [D.oi] at p
 | .exc _,p=>by simp [D.oi] at p
theorem zgf:∀{ds:List D},ois ds=true->z5h ds ds=false
 | [],_=>rfl
 | d::ds,p=>by
  simp only [ois,Bool.and_eq_true] at p
  simp only [z5h]
  rw [if_pos (z90 p.1)]
  exact zgf p.2
end
mutual
theorem zj5:∀{d e f:D},d.oi=true->e.oi=true->f.oi=true->ltT d e=true->ltT e f=true->ltT d f=true
 | .int i,.int j,.int k,_,_,_,h,h'=>by
  simp only [ltT,decide_eq_true_eq] at h h' ⊢
  omega
 | .int i,.int j,.tup _,_,_,_,h,h'=>by simp only [ltT]
 | .int i,.tup _,.tup _,_,_,_,h,h'=>by simp only [ltT]
 | .tup ds,.tup es,.tup fs,p,q,r,h,h'=>by
  simp only [ltT] at h h' ⊢
  simp only [D.oi] at p q r
  exact zky p q r h h'
 | .int i,.tup _,.int _,_,_,_,h,h'=>by simp [ltT] at h'
 | .tup _,.int _,_,_,_,_,h,h'=>by simp [ltT] at h
 | .tup _,.tup _,.int _,_,_,_,h,h'=>by simp [ltT] at h'
 | .non,_,_,p,_,_,_,_=>by simp [D.oi] at p
 | .bl _,_,_,p,_,_,_,_=>by simp [D.oi] at p
 | .str _,_,_,p,_,_,_,_=>by simp [D.oi] at p
 | .lst _,_,_,p,_,_,_,_=>by simp [D.oi] at p
 | .dk _ _,_,_,p,_,_,_,_=>by simp [D.oi] at p
 | .dt _ _,_,_,p,_,_,_,_=>by simp [D.oi] at p
 | .dn _ _,_,_,p,_,_,_,_=>by simp [D.oi] at p
 | .scr _,_,_,p,_,_,_,_=>by simp [D.oi] at p
 | .exc _,_,_,p,_,_,_,_=>by simp [D.oi] at p
 | _,.non,_,_,p,_,_,_=>by simp [D.oi] at p
 | _,.bl _,_,_,p,_,_,_=>by simp [D.oi] at p
 | _,.str _,_,_,p,_,_,_=>by simp [D.oi] at p
 | _,.lst _,_,_,p,_,_,_=>by simp [D.oi] at p
 | _,.dk _ _,_,_,p,_,_,_=>by simp [D.oi] at p
 | _,.dt _ _,_,_,p,_,_,_=>by simp [D.oi] at p
 | _,.dn _ _,_,_,p,_,_,_=>by simp [D.oi] at p
 | _,.scr _,_,_,p,_,_,_=>by simp [D.oi] at p
 | _,.exc _,_,_,p,_,_,_=>by simp [D.oi] at p
 | _,_,.non,_,_,p,_,_=>by simp [D.oi] at p
 | _,_,.bl _,_,_,p,_,_=>by simp [D.oi] at p
 | _,_,.str _,_,_,p,_,_=>by simp [D.oi] at p
 | _,_,.lst _,_,_,p,_,_=>by simp [D.oi] at p
 | _,_,.dk _ _,_,_,p,_,_=>by simp [D.oi] at p
 | _,_,.dt _ _,_,_,p,_,_=>by simp [D.oi] at p
 | _,_,.dn _ _,_,_,p,_,_=>by simp [D.oi] at p
 | _,_,.scr _,_,_,p,_,_=>by simp [D.oi] at p
 | _,_,.exc _,_,_,p,_,_=>by simp [D.oi] at p
theorem zky:∀{ds es fs:List D},ois ds=true->ois es=true->ois fs=true->z5h ds es=true->z5h es fs=true->z5h ds fs=true
 | [],_,_::_,_,_,_,_,_=>by simp only [z5h]
 | _,[],[],_,_,_,_,h=>by simp [z5h] at h
 | _::_,[],_,_,_,_,h,_=>by simp [z5h] at h
 | _,_::_,[],_,_,_,_,h=>by simp [z5h] at h
 | d::ds,e::es,f::fs,p,q,r,h,h'=>by
  simp only [ois,Bool.and_eq_true] at p q r
  simp only [z5h] at h h' ⊢
  by_cases w:eqD d e=true
  . have:=zec p.1 w q.1
    subst this
    rw [if_pos w] at h
    by_cases w2:eqD d f=true
    . rw [if_pos w2] at h' ⊢;exact zky p.2 q.2 r.2 h h'
    . rw [if_neg w2] at h' ⊢;exact h'
  . rw [if_neg w] at h
    by_cases w2:eqD e f=true
    . have:=zec q.1 w2 r.1
      subst this
      rw [if_neg w];exact h
    . rw [if_neg w2] at h'
      have h3:=zj5 p.1 q.1 r.1 h h'
      by_cases w3:eqD d f=true
      . have:=zec p.1 w3 r.1
        subst this
        rw [zge p.1] at h3;cases h3
      . rw [if_neg w3];exact h3
end
theorem zbq:∀{ds:List D} {i:Nat},ois ds=true->(ds.getD i (.int 0)).oi=true
 | [],i,_=>by simp [D.oi]
 | d::ds,0,h=>by simp only [ois,Bool.and_eq_true] at h;simpa using h.1
 | d::ds,i+1,h=>by
  simp only [ois,Bool.and_eq_true] at h
  simpa using zbq (i:=i) h.2
noncomputable def ltI (ds:List D) (i j:Nat):Bool:=ltT (ds.getD i (.int 0)) (ds.getD j (.int 0))
noncomputable def zj6 (d:D):List D->List D
 | []=>[d]
 | e::r=>if ltT e d=true then e::zj6 d r else d::e::r
noncomputable def z5q:List D->List D
 | []=>[]
 | d::r=>zj6 d (z5q r)
theorem z6v (d:D):∀l:List D,(zj6 d l).Perm (d::l)
 | []=>.refl _
 | e::r=>by
  unfold zj6
  split
  . exact ((z6v d r).cons e).trans (.swap d e r)
  . exact .refl _
theorem z19:∀l:List D,(z5q l).Perm l
 | []=>.refl _
 | d::r=>(z6v d (z5q r)).trans ((z19 r).cons d)
theorem ois_mem:∀{ds:List D},ois ds=true↔∀d∈ds,d.oi=true
 | []=>by simp [ois]
 | d::ds=>by simp [ois,ois_mem (ds:=ds)]
def Srt (l:List D):Prop:=l.Pairwise fun a b=>ltT b a=false
theorem zcy {d:D}:∀{l:List D},d.oi=true->ois l=true->Srt l->Srt (zj6 d l)
 | [],_,_,_=>by simp [zj6,Srt]
 | e::r,hd,hl,hs=>by
  simp only [ois,Bool.and_eq_true] at hl
  obtain ⟨h1,h2⟩:=List.pairwise_cons.mp hs
  unfold zj6
  split
  . rename_i hlt
    refine List.pairwise_cons.mpr ⟨fun x hx=>?_,zcy hd hl.2 h2⟩
    rcases List.mem_cons.mp ((z6v d r).mem_iff.mp hx) with rfl | hx
    . cases hq:ltT x e with
      | false=>rfl
      | true=>
       have:=zj5 hl.1 hd hl.1 hlt hq
       rw [zge hl.1] at this;cases this
    . exact h1 x hx
  . rename_i hlt
    have hlt:ltT e d=false:=by simpa using hlt
    refine List.pairwise_cons.mpr ⟨fun x hx=>?_,hs⟩
    rcases List.mem_cons.mp hx with rfl | hx
    . exact hlt
    . have hxo:=(ois_mem.mp hl.2) x hx
      cases hq:ltT x d with
      | false=>rfl
      | true=>
       have h3:=h1 x hx
       cases hy:ltT d e with
       | true=>rw [zj5 hxo hd hl.1 hq hy] at h3;cases h3
       | false=>
        rw [zcx hd hl.1 hy hlt] at hq
        rw [hq] at h3;cases h3
theorem z55 {l l':List D} (p:l.Perm l') (h:ois l'=true):ois l=true:=ois_mem.mpr fun d hd=>(ois_mem.mp h) d (p.mem_iff.mp hd)
theorem z3j:∀{l:List D},ois l=true->Srt (z5q l)
 | [],_=>.nil
 | d::r,h=>by
  simp only [ois,Bool.and_eq_true] at h
  exact zcy h.1 (z55 (z19 r) h.2) (z3j h.2)
theorem z6d:∀{l l':List D},ois l=true->l.Perm l'->Srt l->Srt l'->l=l'
 | [],l',_,p,_,_=>by rw [p.nil_eq]
 | a::r,[],_,p,_,_=>by have:=p.length_eq;simp at this
 | a::r,b::r',h,p,s,s'=>by
  have h':=h
  simp only [ois,Bool.and_eq_true] at h
  obtain ⟨h1,h2⟩:=List.pairwise_cons.mp s
  obtain ⟨h3,h4⟩:=List.pairwise_cons.mp s'
  have hb:b∈a::r:=p.mem_iff.mpr List.mem_cons_self
  have ha:a∈b::r':=p.mem_iff.mp List.mem_cons_self
  have hbo:=(ois_mem.mp h') b hb
  have e:a=b:=by
   rcases List.mem_cons.mp hb with z | z
   . exact z.symm
   . rcases List.mem_cons.mp ha with w | w
     . exact w
     . exact zcx h.1 hbo (h3 a w) (h1 b z)
  subst e
  rw [z6d h.2 (List.perm_cons a |>.mp p) h2 h4]
end L2
namespace L2
open PySem PySem.Spec PyProof.Rows
open PySem.W (KasT kas_sort kas_rev kas_asc kas_desc kas_tail3 kas_descPart kas_count kas_place kas_bin)
def InP {α:Type} (n:Nat) (P:α->Prop):KasT α->Prop
 | .ret a=>P a
 | .ask i j k=>i<n/\j<n/\∀b,InP n P (k b)
theorem InP.bind {α β:Type} {n:Nat} {P:α->Prop} {P':β->Prop} {f:α->KasT β}:∀{t:KasT α},InP n P t->(∀a,P a->InP n P' (f a))->InP n P' (t.bind f)
 | .ret a,h,hf=>hf a h
 | .ask i j k,h,hf=>⟨h.1,h.2.1,fun b=>InP.bind (h.2.2 b) hf⟩
def RcLt (A:Around) (s:Shared) (x y:Value) (b:Bool):Prop:=∀(prog:Program) (w:World) (E:Value->Shared->Prop) (Q:Value->Shared->Prop),Q (.bool b) s->wpAny (model prog w) A (richCompare .Lt x y) Q E s
inductive LexR (A:Around) (s:Shared):List Value->List Value->Bool->Prop
 | nn:LexR A s [] [] false
 | nc {w ws}:LexR A s [] (w::ws) true
 | cn {v vs}:LexR A s (v::vs) [] false
 | eq {v w vs ws b} (h:SeqAt.EqAt A s v w true) (r:LexR A s vs ws b):LexR A s (v::vs) (w::ws) b
 | lt {v w vs ws b} (h:SeqAt.EqAt A s v w false) (r:RcLt A s v w b):LexR A s (v::vs) (w::ws) b
section
open PySem.SeqAt
open PySem.AutoSeq1 (wpAny_loadPart')
open PySem.MeetsSeq PySem.MeetsSeq2 PySem.MeetsSeq3
theorem zed (l b:Addr) (items items2:Array Value) (n n2:Nat) (dd dd2:Option Addr) (sl sl2:Array (Option Value)) (r:Bool) :
  Meets (Builtin.«tuple.__lt__» ⟨[.ref l,.ref b],[]⟩)
   (fun A R s=>s.heap.get? l=some { cls:=.type "tuple",dict:=dd,data:=.seq items n,slots:=sl }/\s.heap.get? b=some { cls:=.type "tuple",dict:=dd2,data:=.seq items2 n2,slots:=sl2 } /\
    LexR A.in1 s items.toList items2.toList r/\R (.ok (.ret (.bool r))) s):=
 .of_wp fun prog w A R s h=>by
  obtain ⟨hp,g,d,tk,os⟩:=s;obtain ⟨hl,hb,hL,h⟩:=h
  have f2:=AutoSeq1.sub_tuple_tuple
  wp_walk using wpAny_loadPart' hl,wpAny_loadPart' hb,wpAny_forIn_list _ (fun rest b s'=>b.1=none/\s'=⟨hp,g,d,tk,os⟩/\∃(vs ws:List Value) (r':Bool),rest=vs.zip ws /\
   LexR A.in1 ⟨hp,g,d,tk,os⟩ vs ws r'/\vs.length+items2.size=ws.length+items.size/\R (.ok (.ret (.bool r'))) ⟨hp,g,d,tk,os⟩) _
  case turn=>
   rintro ⟨y,x⟩ rest b s' ⟨hb',rfl,vs,ws,r',hz,hL',hlen,hR⟩
   cases hL' with
   | nn=>rw [List.zip_nil_left] at hz;cases hz
   | nc=>rw [List.zip_nil_left] at hz;cases hz
   | cn=>rw [List.zip_nil_right] at hz;cases hz
   | eq he hr=>
    rw [List.zip_cons_cons] at hz
    injection hz with hyx hrest
    injection hyx with hy hx
    subst hy hx
    simp only [List.length_cons] at hlen
    refine wpAny_bind (he prog w _ _ ?_)
    wp_walk
    exact ⟨rfl,rfl,_,_,_,hrest,hr,by omega,hR⟩
   | lt he hr=>
    rw [List.zip_cons_cons] at hz
    injection hz with hyx hrest
    injection hyx with hy hx
    subst hy hx
    refine wpAny_bind (he prog w _ _ ?_)
    have hri:=hr prog w
    wp_walk using hri
    exact ⟨_,rfl,by simpa using hR⟩
  case fin=>
   rintro ⟨b1,b2⟩ s' ⟨hb',rfl,vs,ws,r',hz,hL',hlen,hR⟩
   simp only at hb'
   subst hb'
   have hv:r'=decide (items.size<items2.size):=by
    cases hL' with
    | nn=>simp only [List.length_nil] at hlen;exact (decide_eq_false (by omega)).symm
    | nc=>simp only [List.length_nil,List.length_cons] at hlen;exact (decide_eq_true (by omega)).symm
    | cn=>simp only [List.length_nil,List.length_cons] at hlen;exact (decide_eq_false (by omega)).symm
    | eq _ _=>rw [List.zip_cons_cons] at hz;cases hz
    | lt _ _=>rw [List.zip_cons_cons] at hz;cases hz
   rw [hv] at hR
   wp_walk
   exact ⟨_,rfl,by simpa [Builtin.Tuple.tupleCompareSizes] using hR⟩
  case h=>exact ⟨rfl,rfl,items.toList,items2.toList,r,rfl,hL,by simp;omega,h⟩
theorem RcLt.tuples {A:Around} {s:Shared} {l b:Addr} {items items2:Array Value} {r:Bool} (hl:s.heap.IsTuple l items) (hb:s.heap.IsTuple b items2) (hL:LexR A.in1 s items.toList items2.toList r) (hu:A.units<cLine):RcLt A s (.ref l) (.ref b) r:=fun prog w E Q h=>by
 obtain ⟨⟨cls,dd,data,sl⟩,ho,hc,n,hd⟩:=id hl
 obtain ⟨⟨cls2,dd2,data2,sl2⟩,ho2,hc2,n2,hd2⟩:=id hb
 simp only at hc hd hc2 hd2
 subst hc hd hc2 hd2
 exact richCompare_meets_room (op:=.Lt) ⟨_,ho,rfl⟩ ⟨_,ho2,rfl⟩ PySem.F.slot_tuple_lt PySem.F.entry_tuple_lt (PySem.F.args_tuple_lt_2 _ _) (zed l b items items2 n n2 dd dd2 sl sl2 r)
  ⟨ho,ho2,hL,show Value.bool r≠Value.notImplemented/\Q (.bool r) s from ⟨(fun x=>nomatch x),h⟩⟩ hu
end
mutual
theorem zgg:∀{d:D},d.oi=true->d.pl=true
 | .int _,_=>rfl
 | .tup ds,h=>by simp only [D.pl];exact zkz (by simpa only [D.oi] using h)
 | .non,p=>by simp [D.oi] at p
 | .bl _,p=>by simp [D.oi] at p
 | .str _,p=>by simp [D.oi] at p
 | .lst _,p=>by simp [D.oi] at p
 | .dk _ _,p=>by simp [D.oi] at p
 | .dt _ _,p=>by simp [D.oi] at p
 | .dn _ _,p=>by simp [D.oi] at p
 | .scr _,p=>by simp [D.oi] at p
 | .exc _,p=>by simp [D.oi] at p
theorem zkz:∀{ds:List D},ois ds=true->pls ds=true
 | [],_=>rfl
 | d::ds,h=>by
  simp only [ois,Bool.and_eq_true] at h
  simp only [pls,zgg h.1,zkz h.2,Bool.and_self]
end
section
variable {X:Cx} {pins:List (Addr×Obj)} {U:St} {H:Hp} {s:Shared}
theorem zl0 (I:Inv X pins U H s) {A:Around} {n:Nat} (hu:A.units+n<cLine) (lt:∀{d e:D} {x y:V} {u v:Value} {b:Bool},d.oi=true->e.oi=true->d.dep<=n->RD X.K H d x->RD X.K H e y->RelV x u->RelV y v->z36 d e=some b->RcLt A s u v b) :
  ∀{ds es:List D} {xs ys:List V} {us vs:List Value} {b:Bool},ois ds=true->ois es=true->z7j ds<=n->RDs X.K H ds xs->RDs X.K H es ys->Vals xs us->Vals ys vs->z2v ds es=some b->LexR A s us vs b
 | [],[],_,_,_,_,b,_,_,_,r1,r2,q1,q2,h=>by
  simp only [RDs] at r1 r2;subst r1;subst r2
  cases q1;cases q2
  simp only [z2v,Option.some.injEq] at h;subst h
  exact .nn
 | [],e::es,_,_,_,_,b,_,_,_,r1,r2,q1,q2,h=>by
  simp only [RDs] at r1 r2;subst r1
  obtain ⟨y,ys,rfl,_,_⟩:=r2
  cases q1;cases q2
  simp only [z2v,Option.some.injEq] at h;subst h
  exact .nc
 | d::ds,[],_,_,_,_,b,_,_,_,r1,r2,q1,q2,h=>by
  simp only [RDs] at r1 r2;subst r2
  obtain ⟨y,ys,rfl,_,_⟩:=r1
  cases q1;cases q2
  simp only [z2v,Option.some.injEq] at h;subst h
  exact .cn
 | d::ds,e::es,_,_,_,_,b,p1,p2,hd,r1,r2,q1,q2,h=>by
  simp only [RDs] at r1 r2
  obtain ⟨x,xs,rfl,rx,rxs⟩:=r1
  obtain ⟨y,ys,rfl,ry,rys⟩:=r2
  simp only [ois,Bool.and_eq_true] at p1 p2
  simp only [z7j] at hd
  cases q1 with
  | cons a1 a2=>
   cases q2 with
   | cons b1 b2=>
    have eq:=zg0 (A:=A) I n (zgg p1.1) (zgg p2.1) (by omega) hu rx ry a1 b1
    simp only [z2v] at h
    split at h
    . rename_i w
      rw [w] at eq
      exact .eq eq (zl0 I hu lt p1.2 p2.2 (by omega) rxs rys a2 b2 h)
    . rename_i w
      rw [show eqD d e=false by simpa using w] at eq
      exact .lt eq (lt p1.1 p2.1 (by omega) rx ry a1 b1 h)
theorem zab {d e:D} {b:Bool} (h:z36 d e=some b):(∃i j,d=.int i/\e=.int j/\b=decide (i<j))\/∃ds es,d=.tup ds/\e=.tup es/\z2v ds es=some b:=by
 cases d with
 | int i=>cases e with
  | int j=>exact .inl ⟨_,_,rfl,rfl,(Option.some.inj h).symm⟩
  | _=>exact nomatch h
 | tup ds=>cases e with
  | tup es=>exact .inr ⟨_,_,rfl,rfl,h⟩
  | _=>exact nomatch h
 | _=>exact nomatch h
theorem zr5 (I:Inv X pins U H s):∀(n:Nat) {A:Around} {d e:D} {x y:V} {u v:Value} {b:Bool},A.units+n<cLine->d.oi=true->e.oi=true->d.dep<=n->RD X.K H d x->RD X.K H e y->RelV x u->RelV y v->z36 d e=some b->RcLt A s u v b:=by
 intro n
 induction n with
 | zero=>
  intro A d e x y u v b hu p1 p2 hd rx ry ru rv h
  rcases zab h with ⟨i,j,rfl,rfl,rfl⟩ | ⟨ds,es,rfl,rfl,h⟩
  . cases rx.int;cases ry.int
    obtain ⟨t,rfl⟩:=ru;obtain ⟨t',rfl⟩:=rv
    exact fun prog w E Q q=>HT.rcLt_int A s _ _ _ _ prog w E Q q
  . simp only [D.dep] at hd;omega
 | succ n ih=>
  intro A d e x y u v b hu p1 p2 hd rx ry ru rv h
  rcases zab h with ⟨i,j,rfl,rfl,rfl⟩ | ⟨ds,es,rfl,rfl,h⟩
  . cases rx.int;cases ry.int
    obtain ⟨t,rfl⟩:=ru;obtain ⟨t',rfl⟩:=rv
    exact fun prog w E Q q=>HT.rcLt_int A s _ _ _ _ prog w E Q q
  . obtain ⟨a,xs,rfl,ha,ra⟩:=rx.tup
    obtain ⟨c,ys,rfl,hc,rc⟩:=ry.tup
    cases ru;cases rv
    obtain ⟨its,r1,t1⟩:=I.tupA ha
    obtain ⟨its2,r2,t2⟩:=I.tupA hc
    simp only [D.dep] at hd
    simp only [D.oi] at p1 p2
    have hu1:A.in1.units+n<cLine:=by show A.units+1+n<cLine;omega
    exact RcLt.tuples t1 t2 (zl0 I hu1 (fun {d e x y u v b} q1 q2 q3 q4 q5 q6 q7 q8=>ih hu1 q1 q2 q3 q4 q5 q6 q7 q8) p1 p2 (by omega) ra rc r1 r2 h) (by omega)
end
end L2
namespace L2
open PySem PySem.Spec PyProof.Rows
section
variable {prog:Program} {w:World} {A:Around} {E:Value->Shared->Prop} {s:Shared}
theorem zee {a:Addr} {vs:List Value} {n:Nat} {P:PySem.Fin->Shared->Prop} (ho:s.heap.get? a=some (seqObj "list" vs.toArray n)) (hs:vs.length<2)
  (h:P (.done (.ret .none)) { s with heap:=sortedHeap s.heap a vs ((pairsOf vs).map (·.2)) }):wpAny (model prog w) A (Builtin.«list.sort» ⟨[.ref a],[]⟩) P E s:=by
 rw [list_sort_plain]
 have ha:a<s.heap.objs.size:=Heap.lt_size ho
 refine wpAny_bind (listItems_at ho rfl ?_)
 refine wpAny_bind (listUpdate_at ho rfl ?_)
 obtain ⟨e1,ho1⟩:∃e1,(s.heap.update a (Obj.mapSeq fun _=>#[])).get? a=some (seqObj "list" #[] e1):=⟨_,get?_update_seq ho (fun _=>#[])⟩
 refine wpAny_bind (seqEpoch_at ho1 rfl ?_)
 refine wpAny_bind (wpAny_newTuple ?_)
 refine wpAny_bind (wpAny_newList ?_)
 refine wpAny_holding ?_
 have ho6:(((s.heap.update a (Obj.mapSeq fun _=>#[])).push (seqObj "tuple" vs.toArray 0)).push (seqObj "list" #[] 0)).get? a=some (seqObj "list" #[] e1):=by
  rw [Heap.get?_push_ne _ _ _ (by rw [size_push',Heap.size_update];exact Nat.ne_of_lt (Nat.lt_succ_of_lt ha)),Heap.get?_push_ne _ _ _ (by rw [Heap.size_update];exact Nat.ne_of_lt ha)]
  exact ho1
 show wpAny (model prog w) A _ P E { s with heap:=((s.heap.update a (Obj.mapSeq fun _=>#[])).push (seqObj "tuple" vs.toArray 0)).push (seqObj "list" #[] 0) }
 dsimp only
 have hsz:vs.toArray.size=vs.length:=by simp
 have h2:vs.toArray.size<2:=by rw [hsz];exact hs
 rw [if_pos h2,if_pos h2]
 refine wpAny_bind (wpAny_pure ?_)
 rw [StateT.run_pure]
 refine wpAny_bind (wpAny_pure ?_)
 dsimp only
 refine wpAny_bind (seqEpoch_at ho6 rfl ?_)
 refine wpAny_bind (listUpdate_at ho6 rfl ?_ (hsz2:=by rw [Array.size_map];show (pairsOf vs).size<=_;rw [pairsOf_size,sizeLine_eq];omega))
 simp only [bne_self_eq_false,Bool.false_eq_true,if_false]
 exact wpAny_pure h
theorem zac {l:Addr} {vs:List Value} {Q:Value->Shared->Prop} (hl:s.heap.IsList l vs.toArray) (hs:vs.length<2)
  (h:Q (.ref (s.heap.objs.size+1)) { s with heap:=sortedAll s.heap vs ((pairsOf vs).map (·.2)) }):wpAny (model prog w) A (call (.builtin "sorted") [.ref l]) Q E s:=by
 refine Calls.call_function_entry kind_sorted plain_sorted entry_sorted (args_sorted1 _) ?_
 unfold Builtin.«sorted»
 refine wpAny_bind (m:=checkCount "sorted" 1 1 _) (wpAny_pure ?_)
 refine wpAny_bind (collect_list hl ?_ (by rw [sizeLine_eq];omega))
 refine wpAny_bind (wpAny_newList ?_ (by rw [sizeLine_eq];omega))
 have hsz:((s.heap.push (seqObj "list" #[] 0)).update s.heap.objs.size (Obj.mapSeq (·++vs.toArray))).objs.size=s.heap.objs.size+1:=by
  rw [Heap.size_update,size_push']
 have hoL:(((s.heap.push (seqObj "list" #[] 0)).update s.heap.objs.size (Obj.mapSeq (·++vs.toArray))).push (seqObj "list" vs.toArray 0)).get? (s.heap.objs.size+1)=some (seqObj "list" vs.toArray 0):=by
  rw [<-hsz];exact Heap.get?_push_size _ rfl
 show wpAny _ _ _ _ _ { s with heap:=((s.heap.push (seqObj "list" #[] 0)).update s.heap.objs.size (Obj.mapSeq (·++vs.toArray))).push (seqObj "list" vs.toArray 0) }
 rw [hsz]
 refine wpAny_bind (wpAny_holding (wpAny_call_entry slot_list_sort ⟨_,hoL,rfl⟩ entry_list_sort (zee hoL hs ⟨_,rfl,?_⟩) (args_list_sort _)))
 exact wpAny_pure ⟨_,rfl,h⟩
end
noncomputable def isI:D->Bool
 | .int _=>true
 | _=>false
noncomputable def zpd:D->Bool
 | .tup (.int _::_)=>true
 | _=>false
noncomputable def zn7:D->Bool
 | .tup (.tup _::_)=>true
 | _=>false
theorem RDs.pick {K:Frag} {H:Hp} {ds:List D} {ys:List V} (r:RDs K H ds ys):∀{is:List Nat},(∀i∈is,i<ys.length)->RDs K H (is.map fun i=>ds.getD i (.int 0)) (is.map fun i=>ys.getD i .non)
 | [],_=>by simp [RDs]
 | i::is,h=>by
  have hi:=h i List.mem_cons_self
  have hy:ys[i]?=some ys[i]:=by simp [hi]
  obtain ⟨d,h1,h2⟩:=r.get hy
  simp only [List.map_cons]
  refine .cons ?_ (RDs.pick r fun j hj=>h j (List.mem_cons_of_mem _ hj))
  rw [List.getD_eq_getElem?_getD,List.getD_eq_getElem?_getD,h1,hy]
  exact h2
section
variable {X:Cx} {pins:List (Addr×Obj)} {U:St} {H:Hp} {s:Shared}
theorem Vals.pick {ys:List V} {its:List Value} (r:Vals ys its):∀{is:List Nat},(∀i∈is,i<ys.length)->Vals (is.map fun i=>ys.getD i .non) (is.map fun i=>its.getD i Value.none)
 | [],_=>.nil
 | i::is,h=>by
  have hi:=h i List.mem_cons_self
  have hy:ys[i]?=some ys[i]:=by simp [hi]
  obtain ⟨u,h1,h2⟩:=r.get hy
  simp only [List.map_cons]
  refine .cons ?_ (Vals.pick r fun j hj=>h j (List.mem_cons_of_mem _ hj))
  rw [List.getD_eq_getElem?_getD,List.getD_eq_getElem?_getD,h1,hy]
  exact h2
theorem zgh (I:Inv X pins U H s) {A:Around} (hu:A.units+20<cLine) {b:Bool} {fin:Bool} {Q:Bool->Shared->Prop} {r:Bool} (q:Q r s) :
  ∀{ds es:List D} {xs ys:List V} {us vs:List Value} (i:Nat),(b=true->i=0->(∃k r,ds=.int k::r)/\∃k r,es=.int k::r)->ois ds=true->ois es=true->z7j ds<=20->RDs X.K H ds xs->RDs X.K H es ys->Vals xs us->Vals ys vs->z2v ds es=some r ->
   fin=decide (us.length<vs.length)->PySem.W.KatLex X.prog X.w A b fin Q (us.zip vs) i s
 | [],[],_,_,_,_,i,_,_,_,_,r1,r2,q1,q2,h,hf=>by
  simp only [RDs] at r1 r2;subst r1;subst r2
  cases q1;cases q2
  simp only [z2v,Option.some.injEq] at h;subst h
  simp at hf;subst hf
  exact q
 | [],e::es,_,_,_,_,i,_,_,_,_,r1,r2,q1,q2,h,hf=>by
  simp only [RDs] at r1 r2;subst r1
  obtain ⟨y,ys,rfl,_,_⟩:=r2
  cases q1;cases q2
  simp only [z2v,Option.some.injEq] at h;subst h
  simp at hf;subst hf
  exact q
 | d::ds,[],_,_,_,_,i,_,_,_,_,r1,r2,q1,q2,h,hf=>by
  simp only [RDs] at r1 r2;subst r2
  obtain ⟨y,ys,rfl,_,_⟩:=r1
  cases q1;cases q2
  simp only [z2v,Option.some.injEq] at h;subst h
  simp at hf;subst hf
  exact q
 | d::ds,e::es,_,_,_,_,i,hb,p1,p2,hd,r1,r2,q1,q2,h,hf=>by
  simp only [RDs] at r1 r2
  obtain ⟨x,xs,rfl,rx,rxs⟩:=r1
  obtain ⟨y,ys,rfl,ry,rys⟩:=r2
  simp only [ois,Bool.and_eq_true] at p1 p2
  simp only [z7j] at hd
  cases q1 with
  | cons a1 a2=>
   cases q2 with
   | cons b1 b2=>
    have eq:=zg0 (A:=A) I 20 (zgg p1.1) (zgg p2.1) (by omega) hu rx ry a1 b1
    rw [List.zip_cons_cons]
    refine PySem.W.kat_cons (eq X.prog X.w _ _ ?_)
    simp only [z2v] at h
    simp only [List.length_cons,Nat.add_lt_add_iff_right] at hf
    split at h
    . rename_i w
      rw [w]
      exact PySem.W.kat_yes (zgh I hu q (i+1) (fun _ z=>by omega) p1.2 p2.2 (by omega) rxs rys a2 b2 h hf)
    . rename_i w
      rw [show eqD d e=false by simpa using w]
      refine PySem.W.kat_no ?_
      by_cases hbi:(b&&i==0)=true
      . rw [hbi]
        simp only [Bool.and_eq_true,beq_iff_eq] at hbi
        obtain ⟨⟨k1,s1,e1⟩,k2,s2,e2⟩:=hb hbi.1 hbi.2
        cases e1;cases e2
        cases rx.int;cases ry.int
        obtain ⟨t,rfl⟩:=a1;obtain ⟨t',rfl⟩:=b1
        refine oneLt_int ?_
        simp only [z36,Option.some.injEq] at h
        rw [h];exact q
      . rw [show (b&&i==0)=false by simpa using hbi]
        exact PySem.W.kat_one _ _ (zr5 I 20 hu p1.1 p2.1 (by omega) rx ry a1 b1 h X.prog X.w _ _ q)
theorem zl1 {M:Model} (I:Inv X pins U H s) (T:Bool):∀{ds:List D} {xs:List V} {us:List Value},(∀d∈ds,(if T=true then zn7 d else zpd d)=true)->RDs X.K H ds xs->Vals xs us ->
  ∃fs:List Value,PySem.W.KatTups s.heap us fs/\fs.length=ds.length/\∀v∈fs,Looks M s.heap (typeOf v) (.type (if T=true then "tuple" else "int"))
 | [],_,_,_,r,q=>by
  simp only [RDs] at r;subst r;cases q
  exact ⟨[],trivial,rfl,fun v hv=>by cases hv⟩
 | d::ds,_,_,h,r,q=>by
  simp only [RDs] at r
  obtain ⟨x,xs,rfl,rx,rxs⟩:=r
  cases q with
  | cons q1 q2=>
   obtain ⟨fs,h1,h2,h3⟩:=zl1 (M:=M) I T (fun d hd=>h d (List.mem_cons_of_mem _ hd)) rxs q2
   have hd:=h d List.mem_cons_self
   cases T with
   | false=>
    rw [if_neg Bool.false_ne_true] at hd
    cases d<;>simp only [zpd] at hd<;>first | cases hd | skip
    rename_i es
    cases es with
    | nil=>simp at hd
    | cons e es=>
     cases e<;>simp at hd
     obtain ⟨a,ys,rfl,ha,ra⟩:=rx.tup
     cases q1
     obtain ⟨its,rv,t⟩:=I.tupA ha
     simp only [RDs] at ra
     obtain ⟨y,ys,rfl,ry,rys⟩:=ra
     cases ry.int
     cases rv with
     | cons v1 v2=>
      obtain ⟨tk,rfl⟩:=v1
      obtain ⟨o,ho,hc,n,hdt⟩:=t
      refine ⟨_::fs,PySem.W.KatTups.cons ho hc hdt rfl h1,by simp [h2],fun v hv=>?_⟩
      rcases List.mem_cons.mp hv with rfl | hv
      . exact .now
      . exact h3 v hv
   | true=>
    rw [if_pos rfl] at hd
    cases d<;>simp only [zn7] at hd<;>first | cases hd | skip
    rename_i es
    cases es with
    | nil=>simp at hd
    | cons e es=>
     cases e<;>simp at hd
     obtain ⟨a,ys,rfl,ha,ra⟩:=rx.tup
     cases q1
     obtain ⟨its,rv,t⟩:=I.tupA ha
     simp only [RDs] at ra
     obtain ⟨y,ys,rfl,ry,rys⟩:=ra
     obtain ⟨a2,ys2,rfl,ha2,ra2⟩:=ry.tup
     cases rv with
     | cons v1 v2=>
      cases v1
      obtain ⟨its2,rv2,o2,ho2,hc2,_⟩:=I.tupA ha2
      obtain ⟨o,ho,hc,n,hdt⟩:=t
      refine ⟨_::fs,PySem.W.KatTups.cons ho hc hdt rfl h1,by simp [h2],fun v hv=>?_⟩
      rcases List.mem_cons.mp hv with rfl | hv
      . have lk:Looks M s.heap (typeOf (.ref a2)) o2.cls:=(PySem.W.Looks.ld ho2).andThen .now
        rw [hc2] at lk
        exact lk
      . exact h3 v hv
theorem Vals.getD {ys:List V} {its:List Value} (r:Vals ys its) {i:Nat} (h:i<ys.length):RelV (ys.getD i .non) (its.getD i Value.none):=by
 have hy:ys[i]?=some ys[i]:=by simp [h]
 obtain ⟨u,h1,h2⟩:=r.get hy
 rw [List.getD_eq_getElem?_getD,List.getD_eq_getElem?_getD,h1,hy]
 exact h2
theorem RDs.getD {ds:List D} {ys:List V} (r:RDs X.K H ds ys) {i:Nat} (h:i<ys.length):RD X.K H (ds.getD i (.int 0)) (ys.getD i .non):=by
 have hy:ys[i]?=some ys[i]:=by simp [h]
 obtain ⟨d,h1,h2⟩:=r.get hy
 rw [List.getD_eq_getElem?_getD,List.getD_eq_getElem?_getD,h1,hy]
 exact h2
theorem getD_mem {α:Type} {l:List α} {i:Nat} {d:α} (h:i<l.length):l.getD i d∈l:=by
 rw [List.getD_eq_getElem?_getD,List.getElem?_eq_getElem h]
 exact List.getElem_mem h
end
theorem zbr {K:Frag} {h:Heap} {C:Addr} {bmB:List Value} {newId:String} (X:K.In h) (q:excIn K C bmB newId=true) :
  ∃bm N nm qn bs hdct sn sub ab col dd k0 k1 k2 k3 k5 mN,h.get? C=some (excClassObj nm qn C N bs bm hdct sn sub ab col dd k0 k1 k2 k3 k5 newId)/\h.Ns N mN/\mN "__init__"=none/\OwnTail h bmB bm:=by
 unfold excIn at q
 split at q<;>try cases q
 rename_i dd cd sl ho
 split at q<;>try cases q
 rename_i C' bm k0 k1 k2 k3 n k5 hm hs
 simp only [Bool.and_eq_true,beq_iff_eq,Bool.not_eq_true'] at q
 obtain ⟨⟨⟨⟨⟨e1,e2⟩,hdel⟩,ht⟩,hok⟩,hni⟩:=q
 subst e1 e2
 have ho:=X _ _ ho
 cases cd
 dsimp only at hm hdel hok hni
 subst hm hdel
 have hsl:sl=#[k0,k1,k2,k3,some (.builtin n),k5]:=by
  cases sl
  simp only at hs
  rw [hs]
 rw [hsl] at ho
 exact ⟨bm,_,_,_,_,_,_,_,_,_,dd,k0,k1,k2,k3,k5,_,ho,.of_isNs (PySem.W.isNs_of_in X hok),PySem.W.nsMap_none_of_in X hok hni,PySem.W.tail_of_in X ht⟩
section
variable {X:Cx} {x:Str} {C:Addr} {bmB:List Value} {B newId initId:String} {np cpos pos:Pos} {e:Expr} {es:List Expr} {t:TA} {EX:XW} {fr:Bool} {fs:DE->R (List D)}
theorem zj7 (FB:ExcBaseFacts B newId initId bmB) (hcalm:X.calm=true) (hg:Gl X x) (hm:X.mg x=some (.ref C)) (hq:excIn X.K C bmB newId=true) (ha:PA X (e::es) t) (E:Hp->Prop)
  (hE:∀(pins:List (Addr×Obj)) (U:St) (H:Hp) (s:Shared) (a:Addr) (s':Shared) (args:List Value),Inv X pins U H s->Heap.MadeExcOf s.heap s'.heap a (.ref C) args->s'.os=s.os->AllBare s'.gens->E H->X.xe (.ref a) s')
  (hdb:(x==("__debug__":Str))=false:=by decide) (he:starEach (e::es) X.env=(false,eval e X.env)::starEach es X.env:=by rfl) (hpl:(backTo cpos (starEach es X.env)).any (·.1)=false:=by rfl) :
  PS X (.Raise (some (.Call (.Name x np) (e::es) [] cpos)) none pos) (fun _ U H=>t U H fun vs H1=>vs.length<=sizeLine/\E H1):=by
 intro pins s U H D I h
 obtain ⟨bm,N,nm,qn,bs,hdct,sn,sub,ab,col,dd,k0,k1,k2,k3,k5,mN,hC,hN,hni,T⟩:=zbr I.ok.mod.kin hq
 refine wpAny_Raise_call_subT (C:=C) (nm:=nm) (q:=qn) (N:=N) (bs:=bs) (bm:=bm) (hdct:=hdct) (sn:=sn) (sub:=sub) (ab:=ab) (col:=col) (dd:=dd) (k0:=k0) (k1:=k1) (k2:=k2) (k3:=k3) (k5:=k5)
  FB (mN:=mN) (T.hasType FB.hasBase) (I.ok.hd hcalm) (by rw [he];show (false||(backTo cpos (starEach es X.env)).any (·.1))=false;rw [hpl];rfl) hni (z6k I hg hm ⟨rfl,?_⟩ hdb)
 have go:=ha cpos pins s U H _ I h
 rw [he] at go ⊢
 refine Calls.evalArgs_plain (wpAny_mono go (fun us s2 ⟨vs,H1,I1,r,hl,hE1⟩=>⟨rfl,by rw [<-r.length];exact hl,I1.bk _ _ hC,hN.keeps I1.bk,T.keeps I1.bk,fun h' a hx=>?_⟩) fun _ _ y=>y)
 exact hE pins U H1 s2 a _ us I1 hx rfl I1.bare hE1
noncomputable def z62 (c:String) (fs:DE->R (List D)):DS->SR:=fun ρ=>(fs (see ρ)).toS fun ds=>if ds.length<=1000 then .er ⟨c,[]⟩ else .st
theorem zn8 {K:Frag} {De:Ends} {U:St} {H:Hp} {c:String} (h:TSd K EX fr (z62 c fs) De U H):TAd K EX fs U H fun vs H1=>vs.length<=sizeLine/\EX.p ⟨c,[]⟩ H1:=by
 obtain ⟨Hc,Hb,H0,ρ,sb,R,h⟩:=h
 unfold z62 at h
 rw [SK.toS] at h
 refine ⟨sb.trans R.sb,see ρ,HeOf (List.replicate ρ.length true) ρ U H0 H,R.heH _,by rw [<-z8x];exact R.re _,h.mono fun ds z vs H' H0' s e r=>?_⟩
 split at z
 . rename_i hl
   exact ⟨zba (by rw [<-r.length];exact hl),z H' ((sb.trans R.sb).trans s)⟩
 . exact z.elim
theorem zbs {c:String} (L:Lnd X EX) (FB:ExcBaseFacts B newId initId bmB) (hcalm:X.calm=true) (hg:Gl X (c:Str)) (hm:X.mg (c:Str)=some (.ref C)) (hq:excIn X.K C bmB newId=true) (ha:QA X EX (e::es) fs)
  (hdb:(((c:Str))==("__debug__":Str))=false:=by decide) (he:starEach (e::es) X.env=(false,eval e X.env)::starEach es X.env:=by rfl) (hpl:(backTo cpos (starEach es X.env)).any (·.1)=false:=by rfl) :
  QS X EX fr (.Raise (some (.Call (.Name (c:Str) np) (e::es) [] cpos)) none pos) (z62 c fs):=
 ⟨(zj7 FB hcalm hg hm hq ha.h (fun H=>EX.p ⟨c,[]⟩ H) (fun pins U H s a s' args I hx ho hb hp=>L.md pins U H s a C s' ⟨c,[]⟩ args I hx ho hb hm hp) hdb he hpl).imp fun _ _ _ q=>zn8 q⟩
end
theorem zgi {M:Model} {A:Around} {E:Value->Shared->Prop} {nm nmD q qD:Str} {C N DD ND:Addr} {bs bm bsD bmD:List Value} {hdct hdctD:Bool} {sn snD:List Str} {sub subD:List Value} {ab abD:Bool} {col colD:Option Bool} {dd ddD:Option Addr} {k0 k1 k2 k3 k5 j0 j1 j2 j3 j5:Option Value} {newId newD:String}
  {h:Heap} {g:Array GenState} {d:Drawn} {t:Nat} {os:OsState} {e:Addr} {oe:Obj} {Q:Bool->Shared->Prop}
  (hC:h.get? C=some (excClassObj nm q C N bs bm hdct sn sub ab col dd k0 k1 k2 k3 k5 newId)) (hD:h.get? DD=some (excClassObj nmD qD DD ND bsD bmD hdctD snD subD abD colD ddD j0 j1 j2 j3 j5 newD)) (he:h.get? e=some oe) (hcls:oe.cls=.ref C)
  (hbase:bmD.contains (.type "BaseException")=true) (hq:Q ((Value.ref C::bm).contains (.ref DD)) ⟨h,g,d,t,os⟩):wpAny M A (excMatches (.ref e) (.ref DD)) Q E ⟨h,g,d,t,os⟩:=by
 have hcB:(Value.ref DD::bmD).contains (.type "BaseException")=true:=by rw [List.contains_cons,hbase,Bool.or_true]
 have f:=tc_notTuple
 unfold excMatches
 repeat (first | (with_reducible refine wpAny_loadPart_at he ?_;rw [hcls]) | with_reducible refine wpAny_loadPart_at hD ?_ | (with_reducible refine wpAny_isSubtype_exc hD ?_;rw [hcB]) | with_reducible refine wpAny_isSubtype_exc hC ?_ | wp_step)
 cases hb:(Value.ref C::bm).contains (.ref DD)<;>(rw [hb] at hq;wp_walk;exact hq)
section
variable {X:Cx} {pins:List (Addr×Obj)} {U:List (Option V)} {H1 H2:Hp} {s1 s2:Shared} {h' B:Heap} {C a T:Addr} {a0:Value}
noncomputable def zii (a C:Addr):HO:=.ext fun h=>∃ob,h.get? a=some ob/\ob.cls=.ref C/\∃vs,ob.data=.fields vs
theorem zj8 (I:Inv X pins U H1 s1) (x:XOut X.prog X.w X.stack H1 s1 C a H2 s2) (na:s1.heap.get? a=none) (nT:s1.heap.get? T=none) (ha:H2 a=none) (hT:H2 T=none)
  (keep:∀b o,s2.heap.get? b=some o->b≠a->b≠T->b∉frs X.stack->h'.get? b=some o) (up:s2.heap.UpToSlots h') (hfl:Heap.FlyingW B X.stack a (.ref C) a0 h') :
  Inv X pins U (upd H2 a (zii a C)) { s2 with heap:=h' }/\Same H2 (upd H2 a (zii a C)):=by
 have F2:=I.stack2 x.un
 have slotF:∀b∈frs X.stack,∀o,s2.heap.get? b=some o->∃sl,h'.get? b=some { o with slots:=sl }:=fun b hb o e=>by
  obtain ⟨_,o',ho',hd⟩:=F2.mem hb
  rw [e] at ho';cases ho'
  exact up b o e hd
 have ne:∀b o,s1.heap.get? b=some o->b≠a/\b≠T:=fun b o e=>⟨fun z=>(by rw [z,na] at e;cases e),fun z=>(by rw [z,nT] at e;cases e)⟩
 have neH:∀b o,H2 b=some o->b≠a/\b≠T:=fun b o e=>⟨fun z=>(by rw [z,ha] at e;cases e),fun z=>(by rw [z,hT] at e;cases e)⟩
 have frFree:∀b∈frs X.stack,H2 b=none:=fun b hb=>by
  obtain ⟨_,o,ho,_⟩:=I.stack.mem hb
  exact x.un.free b o ho (I.stkFree b hb) (by simp)
 obtain ⟨oe,vs,he,hc,hd,_⟩:=hfl.first
 have un:Un (frs X.stack) [] H1 (upd H2 a (zii a C)) s1.heap h':=by
  refine ⟨fun b o e n hb hx=>?_,fun b o e n hb hx=>?_,fun b o e n hx=>?_,fun b o e hx=>?_,fun b xs e=>?_,fun b o u e=>?_,fun b ps e=>?_⟩
  . exact keep b o (x.un.keep b o e n hb hx) (ne b o e).1 (ne b o e).2 hb
  . obtain ⟨sl,e1⟩:=x.un.slot b o e n hb hx
    obtain ⟨sl2,e2⟩:=slotF b hb _ e1
    exact ⟨sl2,e2⟩
  . rw [z0d (ne b o e).1];exact x.un.free b o e n hx
  . obtain ⟨o1,e1⟩:=x.un.there b o e hx
    by_cases hb:b∈frs X.stack
    . obtain ⟨sl,e2⟩:=slotF b hb _ e1;exact ⟨_,e2⟩
    . exact ⟨o1,keep b o1 e1 (ne b o e).1 (ne b o e).2 hb⟩
  . have:=x.un.tups b xs e
    rw [z0d (neH b _ this).1];exact this
  . have:=x.un.frzs b o u e
    rw [z0d (neH b _ this).1];exact this
  . obtain ⟨m,this⟩:=x.un.tbls b ps e
    exact ⟨m,by rw [z0d (neH b _ this).1];exact this⟩
 have hok:HOk X.prog X.w (upd H2 a (zii a C)) h':=fun b o e=>by
  by_cases hb:b=a
  . subst hb
    rw [z0w] at e;cases e
    exact ⟨⟨oe,he,hc,vs,hd⟩,⟨oe,he⟩,fun h1 h2 ⟨ob,z1,z2⟩ k=>⟨ob,k _ z1,z2⟩⟩
  . rw [z0d hb] at e
    refine (x.hok b o e).stay (fun c v hc q=>?_) (fun c q=>by rw [z0d (neH c _ q).1];exact q) fun c xs q=>by rw [z0d (neH c _ q).1];exact q
    have hcH:H2 c≠none:=by
     rcases hc with rfl | hc
     . rw [e];exact fun z=>nomatch z
     . rw [hc];exact fun z=>nomatch z
    refine keep c v q (fun z=>hcH (z ▸ ha)) (fun z=>hcH (z ▸ hT)) fun z=>hcH (frFree c z)
 exact ⟨I.call' (s':={ s2 with heap:=h' }) (ch:=[]) x.os un hok x.bare (fun _ z=>nomatch z),Same.upd_new ha⟩
end
section
variable {X:Cx} {pins:List (Addr×Obj)} {U:List (Option V)} {H:Hp} {s:Shared}
theorem z91 {M:Model} {A:Around} {E:Value->Shared->Prop} {i:Nat} {n:Str} {pos:Pos} {Q:Unit->Shared->Prop} (I:Inv X pins U H s) (hN:X.N.Nodup) (hi:X.N[i]?=some n) (hk:X.env.scope.names.lookup n=some .local)
  (h:∀s',Inv X pins (U.set i none) H s'->Q () s'):wpAny M A (do bindName X.env n .none;unbindBehindTheSuite X.env n pos) Q E s:=by
 obtain ⟨m,hn,hl⟩:=id I.loc
 have hcls:(X.env.scope.kind==.class||(X.env.scope.kind==.module&&X.env.locals != X.env.globals))=false:=by rw [I.ok.kind];rfl
 obtain ⟨oL,_,_,hoL,_⟩:=id hn
 refine wpAny_nameGoes_keeps hk hn hcls fun h' v hn' hs=>h _ ?_
 have hok:HOk X.prog X.w H h':=fun b ob e=>by
  refine (I.hok b ob e).stay (fun c w' hc q=>(hs.2 c ?_).trans q) (fun _ q=>q) fun _ _ q=>q
  rintro rfl
  rcases hc with rfl | hc
  . rw [I.free] at e;cases e
  . rw [I.free] at hc;cases hc
 have neL:∀b o,X.s₀.heap.get? b=some o->b≠X.env.locals:=fun b o e=>Nat.ne_of_lt (Nat.lt_of_lt_of_le (Heap.lt_size e) I.ok.above)
 refine ⟨I.ok,I.os,I.bare,⟨fun b o e n hb hx=>?_,fun b o e n hb hx=>?_,I.base.free,fun b o e hx=>?_,I.base.tups,I.base.frzs,I.base.tbls⟩,⟨_,hn',fun j y v' e1 e2 e3=>?_⟩,fun y c e=>?_,I.free,I.freeC,fun p hp=>?_,hok,by simpa using I.len⟩
 . exact (hs.2 b (neL b o e)).trans (I.base.keep b o e n hb hx)
 . obtain ⟨sl,e1⟩:=I.base.slot b o e n hb hx
   exact ⟨sl,(hs.2 b (neL b o e)).trans e1⟩
 . obtain ⟨o',e1⟩:=I.base.there b o e hx
   exact ⟨o',(hs.2 b (neL b o e)).trans e1⟩
 . have hj:j≠i:=fun z=>by
    subst z
    by_cases hlt:j<U.length
    . rw [List.getElem?_set_self hlt] at e2;cases e2
    . rw [List.getElem?_eq_none (by simpa using hlt)] at e2;cases e2
   rw [List.getElem?_set_ne (Ne.symm hj)] at e2
   have hyn:y≠n:=fun z=>by subst z;exact hj (z8l hN e1 hi)
   obtain ⟨u,r,l⟩:=hl j y v' e1 e2 e3
   refine ⟨u,r,?_⟩
   rcases l with ⟨k,l⟩ | ⟨k,c,e,ob,z,zd⟩
   . exact .inl ⟨k,(by show (if y=n then v else m y)=some u;rw [if_neg hyn];exact l)⟩
   . exact .inr ⟨k,c,e,ob,(hs.2 c (I.cne y c e)).trans z,zd⟩
 . obtain ⟨v,ob,z,zd⟩:=I.cell y c e
   exact ⟨v,ob,(hs.2 c (I.cne y c e)).trans z,zd⟩
 . obtain ⟨e,n,ne,nf,d⟩:=I.pin p hp
   exact ⟨(hs.2 p.1 ne).trans e,n,ne,nf,d⟩
abbrev Cx.held (X:Cx) (e:Value):Cx:={ X with A:=X.A.mark (some e),calm:=false,xe:=fun _ _=>False }
theorem Inv.held (I:Inv X pins U H s) (e:Value):Inv (X.held e) pins U H s:=
 ⟨⟨I.ok.mod,I.ok.kind,I.ok.glob,I.ok.blt,I.ok.above,I.ok.inj,I.ok.has,I.ok.cab,(fun z=>nomatch z),I.ok.frames,I.ok.stk,I.ok.exf,I.ok.bs,I.ok.bsz,I.ok.noex,I.ok.exfs,I.ok.funs,I.ok.frf⟩,I.os,I.bare,I.base,I.loc,I.cell,I.free,I.freeC,I.pin,I.hok,I.len⟩
theorem Inv.unheld {e:Value} (ok:X.Ok) (I:Inv (X.held e) pins U H s):Inv X pins U H s:=
 ⟨ok,I.os,I.bare,I.base,I.loc,I.cell,I.free,I.freeC,I.pin,I.hok,I.len⟩
theorem zj9 {x:Str} {p pos:Pos} {e:Expr} {es:List Expr} {t:TA} {ps:List Str} {k j:Nat} {sp:Sp} {E:XK} {Q:VK} (G:z35 X.prog X.w X.K X.mg X.base x ps k sp) (hr:Room j X.A) (hg:Gl X x) (ha:PA X.nox (e::es) t) (I:Inv X pins U H s) (h:t U H fun vs H1=>sp vs H1 Q E) (hkj:k<=j:=by omega) (hdb:(x==("__debug__":Str))=false:=by decide)
  (he:starEach (e::es) X.env=(false,eval e X.env)::starEach es X.env:=by rfl) (hpl:(backTo pos (starEach es X.env)).any (·.1)=false:=by rfl) :
  wpAny (model X.prog X.w) X.A (eval (.Call (.Name x p) (e::es) [] pos) X.env) (EP X pins U Q) (fun ev s'=>∃H1 s1,Inv X pins U H1 s1/\CX1 X.prog X.w X.stack H1 s1 E ev s') s:=by
 obtain ⟨f,fd,F,b,m,kp⟩:=G
 refine wpAny_Call_Name_kw (z6k I hg m ?_ hdb)
 have I':Inv X.nox pins U H s:=⟨⟨I.ok.mod,I.ok.kind,I.ok.glob,I.ok.blt,I.ok.above,I.ok.inj,I.ok.has,I.ok.cab,I.ok.hd,I.ok.frames,I.ok.stk,I.ok.exf,I.ok.bs,I.ok.bsz,I.ok.noex,I.ok.exfs,I.ok.funs,I.ok.frf⟩,I.os,I.bare,I.base,I.loc,I.cell,I.free,I.freeC,I.pin,I.hok,I.len⟩
 refine PySem.W.callWith_K (h₀:=X.base) I.ok.mod.kin kp (wpAny_mono (ha pos pins s U H _ I' h) (fun us s1 ⟨vs,H1,I1,r,q⟩=>⟨I1.kIn,?_⟩) fun _ _ z=>z.elim) he hpl
 have I1:Inv X pins U H1 s1:=⟨I.ok,I1.os,I1.bare,I1.base,I1.loc,I1.cell,I1.free,I1.freeC,I1.pin,I1.hok,I1.len⟩
 have hl:us.length=ps.length:=by rw [<-r.length];exact F.len _ _ _ _ q
 have hb:=b s1 us I1.kIn (by rw [List.append_nil];exact hl)
 rw [List.append_nil] at hb
 refine wpAny_call (codeAny_mono (F.run X.A X.stack s1 H1 ⟨us,[]⟩ us vs Q E (hr.mono hkj) I1.env0 hb r q) fun r s' hq=>?_)
 cases r with
 | error e=>exact ⟨H1,s1,I1,hq⟩
 | ok fl=>
  cases fl with
  | ret u=>exact I1.after hq
  | next=>exact False.elim hq
  | brk=>exact False.elim hq
  | cont=>exact False.elim hq
end
structure Lnd5 (X:Cx) (pins:List (Addr×Obj)) (U:St) (H1:Hp) (s1:Shared) (C a:Addr) (H2:Hp) (s2:Shared) (B:Heap) (T:Addr) (a0:Value) (h5:Heap):Prop where
 I:Inv X pins U H1 s1
 x:XOut X.prog X.w X.stack H1 s1 C a H2 s2
 na:s1.heap.get? a=none
 nT:s1.heap.get? T=none
 ha:H2 a=none
 hT:H2 T=none
 keep:∀b o,s2.heap.get? b=some o->b≠a->b≠T->b∉frs X.stack->B.get? b=some o
 up:s2.heap.UpToSlots h5
 fl:Heap.FlyingW B X.stack a (.ref C) a0 h5
section
variable {X:Cx} {EX:XW} {fr:Bool} {pins:List (Addr×Obj)} {U:St} {H1 H2:Hp} {s1 s2:Shared} {C a T:Addr} {B h5:Heap} {a0:Value}
theorem Lnd5.inv (L:Lnd5 X pins U H1 s1 C a H2 s2 B T a0 h5):Inv X pins U (upd H2 a (zii a C)) { s2 with heap:=h5 }/\Same H2 (upd H2 a (zii a C)):=
 zj8 L.I L.x L.na L.nT L.ha L.hT (fun b o e h1 h2 h3=>L.fl.1 b o (L.keep b o e h1 h2 h3)) L.up L.fl
theorem Lnd5.again (L:Lnd5 X pins U H1 s1 C a H2 s2 B T a0 h5) {A:Around} {E:Value->Shared->Prop} {Q:Unit->Shared->Prop} (h:∀h6,Lnd5 X pins U H1 s1 C a H2 s2 B T a0 h6->Q () { s2 with heap:=h6 }) :
  wpAny (model X.prog X.w) A (setFlight (.ref a) none) Q E { s2 with heap:=h5 }:=
 lands_againW (s:={ s2 with heap:=h5 }) L.fl fun h' fl up=>h h' ⟨L.I,L.x,L.na,L.nT,L.ha,L.hT,L.keep,L.up.trans up,fl⟩
theorem zn9 (I:Inv X pins U H1 s1) (hst:X.stack=X.env::X.outer) (hf:X.env.frame=some X.env.locals) (x:XOut X.prog X.w X.stack H1 s1 C a H2 s2) {E:Value->Shared->Prop} {Q:Unit->Shared->Prop}
  (h:∀B T a0 h5,Lnd5 X pins U H1 s1 C a H2 s2 B T a0 h5->Q () { s2 with heap:=h5 }):wpAny (model X.prog X.w) X.A (noteFrame (.ref a) X.env) (fun _ s'=>wpAny (model X.prog X.w) X.A (setFlight (.ref a) none) Q E s') E s2:=by
 obtain ⟨oe,vs,T,oT,ts,a0,he,hc,h0,hd,h1,hTe,hT,hdT,h3,na,nT,ha,hHT⟩:=id x.fly
 have F2:=I.stack2 x.un
 have hin:∀env∈X.stack,∀b,env.frame=some b->b∈a::T::frs X.stack:=fun env he b hb=>List.mem_cons_of_mem _ (List.mem_cons_of_mem _ (List.mem_filterMap.mpr ⟨env,he,hb⟩))
 have hfr:X.A.frames=some (X.env::X.outer):=by rw [<-hst];exact I.ok.frames
 have hfl:Heap.FlyingW (hideAll s2.heap (a::T::frs X.stack)) (X.env::X.outer) a (.ref C) a0 s2.heap:=⟨fun b o q=>of_hideAll _ q,hideAll_none _ (.head _),hst ▸ PySem.W.funFrames_hide F2 hin,oe,vs,T,oT,ts,he,⟨hc,h0⟩,hd,h1,hideAll_none _ (.tail _ (.head _)),hTe,hT,hdT,h3⟩
 refine wpAny_looks_onW hfr hf hfl fun h4 hh up4=>?_
 refine wpAny_landsW (s:={ s2 with heap:=h4 }) hh fun h5 fl up5=>h (hideAll s2.heap (a::T::frs X.stack)) T a0 h5 ⟨I,x,na,nT,ha,hHT,fun b o q h1 h2 h3=>hideAll_get _ q fun z=>?_,up4.trans up5,(by rw [<-hst] at fl;exact fl)⟩
 rcases List.mem_cons.mp z with rfl | z
 . exact h1 rfl
 . rcases List.mem_cons.mp z with rfl | z
   . exact h2 rfl
   . exact h3 z
abbrev HD:=Ex->DS->SR
structure QY (X:Cx) (fr:Bool) (sts:List Stmt) (g:DS->SR):Prop where
 h:∀(pins:List (Addr×Obj)) (s:Shared) (U:St) (H:Hp) (De:Ends) (Hc Hb H0:Hp) (ρ:DS) (P:Ex->Hp->Prop),Inv X pins U H s->RS X.K Hc Hb H0 ρ U H->SK X.K ⟨H,P⟩ fr Hc Hb De (g ρ) ->
  wpAny (model X.prog X.w) X.A (execs sts X.env) (SP X pins De) (fun ev s'=>∃H1 s1 x C a H2,ev=.ref a/\Inv X pins U H1 s1/\XOut X.prog X.w X.stack H1 s1 C a H2 s'/\X.mg (Str.ofString (Ex.cls x))=some (.ref C)/\P x H2) s
structure QH (X:Cx) (EX:XW) (fr:Bool) (hs:List ExceptHandler) (hd:HD):Prop where
 h:∀(pins:List (Addr×Obj)) (U:St) (H1:Hp) (s1:Shared) (C a:Addr) (H2:Hp) (s2:Shared) (B:Heap) (T:Addr) (a0:Value) (h5:Heap) (De:Ends) (Hc Hb H0:Hp) (ρ:DS) (x:Ex) (E:Value->Shared->Prop),Lnd5 X pins U H1 s1 C a H2 s2 B T a0 h5->X.mg (Str.ofString x.cls)=some (.ref C) ->
  RS X.K Hc Hb H0 ρ U H2->SK X.K EX fr Hc Hb De (hd x ρ)->wpAny (model X.prog X.w) X.A (handleBy (.ref a) X.env hs) (SP X pins De) E { s2 with heap:=h5 }
noncomputable def zuh (g:DS->SR) (hd:HD):DS->SR:=fun ρ=>match g ρ with
 | .er x=>hd x ρ
 | r=>r
theorem zvy {body:List Stmt} {h₀:ExceptHandler} {hs:List ExceptHandler} {g:DS->SR} {hd:HD} {pos:Pos} (hst:X.stack=X.env::X.outer) (hf:X.env.frame=some X.env.locals) (hb:QY X fr body g) (hh:QH X EX fr (h₀::hs) hd):QS X EX fr (.Try body (h₀::hs) [] [] pos) (zuh g hd):=by
 refine ⟨fun pins s U H De I h=>?_⟩
 obtain ⟨Hc,Hb,H0,ρ,sb,R,h⟩:=h
 refine wpAny_Try_except (wpAny_mono (hb.h pins s U H De Hc Hb H0 ρ (fun x H'=>Same H H'/\SK X.K EX fr Hc Hb De (hd x ρ)) I R ?_) (fun f s₁ hq=>?_) fun ev s' ⟨H1,s1,x,C,a,H2,e,I1,xo,hm,sm,hk⟩=>?_)
 . unfold zuh at h
   cases q:g ρ with
   | nx ρ'=>rw [q] at h;exact h
   | bk ρ'=>rw [q] at h;exact h
   | ct ρ'=>rw [q] at h;exact h
   | rt d=>rw [q] at h;exact h
   | er x=>rw [q] at h;exact fun H' s'=>⟨s',h⟩
   | st=>rw [q] at h;exact h
 . cases f with
   | next=>exact wpAny_execs_nil hq
   | brk=>exact hq
   | cont=>exact hq
   | ret u=>exact hq
 . subst e
   exact zn9 I1 hst hf xo fun B T a0 h5 L=>hh.h pins U H1 s1 C a H2 s' B T a0 h5 De Hc Hb H0 ρ x X.xe L hm (R.grow sm) hk
end
noncomputable def R.kn {α:Type} (k:String->Bool) (r:R α):R α:=match r with
 | .er x=>if k x.cls=true then .er x else .st
 | r=>r
noncomputable def zr6 (k:String->Bool) (m:List D->R D) (fs:DE->R (List D)):DE->R D:=fun ρ=>(fs ρ).noE.bind fun ds=>(m ds).kn k
theorem SK.ex {K:Frag} {EX EX':XW} {fr:Bool} {Hc Hb:Hp} {De:Ends} {r:SR} (h:SK K EX fr Hc Hb De r) (he:∀x,EX.at x->EX'.at x):SK K EX' fr Hc Hb De r:=by
 cases r with
 | er x=>exact he x h
 | nx ρ=>exact h
 | bk ρ=>exact h
 | ct ρ=>exact h
 | rt d=>exact h
 | st=>exact h
section
variable {X:Cx} {EX:XW} {fr frc:Bool} {k:String->Bool} {fs:DE->R (List D)} {mm:List D->R D} {n:Nat} {m:List Bool}
theorem zja {K:Frag} {mg:Str->Option Value} {Hc Hb H0 H:Hp} {ρ:DS} {U:St} {P:Ex->Hp->Prop} {kk:D->Prop} {Q:VK} (hl:∀ds,ds.length≠n->mm ds=.st) (hk:∀c,k c=true->∃C,mg (Str.ofString c)=some (.ref C)) (R:RS K Hc Hb H0 ρ U H)
  (h:Rk (XW.at ⟨H,P⟩) (zr6 k mm fs (vis m ρ)) kk) (hQ:∀d,kk d->∀v H',Out K frc (HeOf m ρ U H0 H) H d v H'->Q v H'):TAd K F0 fs U H fun vs H1=>spD K mg frc mm n vs H1 Q (eOf ⟨H,P⟩ mg):=by
 unfold zr6 at h
 rw [Rk.bind] at h
 refine ⟨F0.same _,vis m ρ,HeOf m ρ U H0 H,R.heH m,R.re m,(Rk.noE h).mono fun ds h vs H1 H1' s1 e1 r1=>⟨ds,H1',e1.2.1,r1,?_,?_⟩⟩
 . apply Classical.byContradiction
   intro hn
   rw [hl ds hn] at h
   exact h
 . cases q:mm ds with
   | ok d=>rw [q] at h;exact fun v H' o=>hQ d h v H' (o.after s1 e1)
   | st=>rw [q] at h;exact h
   | er x=>
    rw [q] at h
    unfold L2.R.kn at h
    dsimp only at h
    split at h
    . rename_i hx
      obtain ⟨C,hC⟩:=hk _ hx
      exact fun H' s'=>⟨C,hC,x,h H' (s1.trans s'),hC⟩
    . exact h.elim
theorem zjb {pins:List (Addr×Obj)} {U:St} {H:Hp} {P:Ex->Hp->Prop} {ev:Value} {s':Shared} (h:∃H1 s1,Inv X pins U H1 s1/\CX1 X.prog X.w X.stack H1 s1 (eOf ⟨H,P⟩ X.mg) ev s') :
  ∃H1 s1 x C a H2,ev=.ref a/\Inv X pins U H1 s1/\XOut X.prog X.w X.stack H1 s1 C a H2 s'/\X.mg (Str.ofString (Ex.cls x))=some (.ref C)/\P x H2:=by
 obtain ⟨H1,s1,I,C,a,H2,e,xo,x,hp,hm⟩:=h
 exact ⟨H1,s1,x,C,a,H2,e,I,xo,hm,hp⟩
theorem zr7 {pins:List (Addr×Obj)} {De:Ends} {st:Stmt} {s:Shared} {E:Value->Shared->Prop} (h:wpAny (model X.prog X.w) X.A (exec st X.env) (SP X pins De) E s):wpAny (model X.prog X.w) X.A (execs [st] X.env) (SP X pins De) E s:=by
 refine wpAny_execs_cons (thn h fun f s1 q=>?_)
 cases f with
 | next=>exact wpAny_execs_nil q
 | ret v=>exact q
 | brk=>exact q
 | cont=>exact q
variable {x:Str} {p cpos pos:Pos} {e:Expr} {es:List Expr} {ps:List Str} {kl j kk':Nat} {gg:DS->SR}
theorem zr8 (hk:∀c,k c=true->∃C,X.mg (Str.ofString c)=some (.ref C)) (G:z35 X.prog X.w X.K X.mg X.base x ps kl (spD X.K X.mg frc (mOf frc n kk' gg) n)) (hr:Room j X.A) (hg:Gl X x) (ha:QA X.nox F0 (e::es) fs) (hkj:kl<=j:=by omega) (hdb:(x==("__debug__":Str))=false:=by decide)
  (he:starEach (e::es) X.env=(false,eval e X.env)::starEach es X.env:=by rfl) (hpl:(backTo cpos (starEach es X.env)).any (·.1)=false:=by rfl) (hs:swapsWith (.Call (.Name x p) (e::es) [] cpos) none pos.line X.env=pure false:=by rfl) :
  QY X fr [.Expr (.Call (.Name x p) (e::es) [] cpos) pos] (zj0 (zr6 k (mOf frc n kk' gg) fs)):=by
 refine ⟨fun pins s U H De Hc Hb H0 ρ P I R h=>?_⟩
 unfold zj0 at h
 rw [SK.toS,<-z8x] at h
 refine zr7 (wpAny_Expr_any (wpAny_mono (zj9 (Q:=fun _ H'=>De.nx U H') G hr hg ha.h I (zja zg3 hk R h fun d z v H' o=>z U H' H0 (R.grow o.1)) hkj hdb he hpl) (fun v s1 ⟨y,H1,I1,r1,q1⟩=>⟨U,H1,I1,q1⟩) fun ev s' z=>zjb z) I.quiet hs)
end
noncomputable def zya:HD:=fun _ _=>.st
noncomputable def SR.gone (i:Nat):SR->SR
 | .nx ρ=>.nx (ρ.set i .em)
 | .bk ρ=>.bk (ρ.set i .em)
 | .ct ρ=>.ct (ρ.set i .em)
 | .rt d=>.rt d
 | _=>.st
noncomputable def hAs (tb:String->Option Bool) (i:Nat) (g:DS->SR) (r:HD):HD:=fun x ρ=>match tb x.cls with
 | some true=>(g (ρ.set i (.im (.exc x.cls)))).gone i
 | some false=>r x ρ
 | none=>.st
noncomputable def SR.noE:SR->SR
 | .er _=>.st
 | r=>r
theorem RS.gone {K:Frag} {Hc Hb H0 H:Hp} {ρ:DS} {U:St} (R:RS K Hc Hb H0 ρ U H) (i:Nat):RS K Hc Hb H0 (ρ.set i .em) (U.set i none) H:=by
 have ne:∀(j:Nat) (z:Sl),(ρ.set i Sl.em)[j]?=some z->z≠.em->j≠i/\ρ[j]?=some z:=fun j z e hz=>by
  by_cases hj:j=i
  . subst hj
    by_cases hl:j<ρ.length
    . rw [List.getElem?_set_self hl] at e;cases e;exact absurd rfl hz
    . rw [List.getElem?_eq_none (by simpa using hl)] at e;cases e
  . rw [List.getElem?_set_ne (Ne.symm hj)] at e;exact ⟨hj,e⟩
 refine ⟨R.sb,R.ext,by simpa using R.len,fun j d e=>?_,fun j d e=>?_,fun j k d e a h1 h2 h3 h4=>?_⟩
 . obtain ⟨hj,e⟩:=ne j _ e (by simp)
   rw [List.getElem?_set_ne (Ne.symm hj)]
   exact R.im j d e
 . obtain ⟨hj,e⟩:=ne j _ e (by simp)
   rw [List.getElem?_set_ne (Ne.symm hj)]
   exact R.ow j d e
 . obtain ⟨hj,e1⟩:=ne j _ h1 (by simp)
   obtain ⟨hk,e2⟩:=ne k _ h2 (by simp)
   rw [List.getElem?_set_ne (Ne.symm hj)] at h3
   rw [List.getElem?_set_ne (Ne.symm hk)] at h4
   exact R.ap j k d e a e1 e2 h3 h4
noncomputable def gD (De:Ends) (i:Nat):Ends:={ nx:=fun U H=>De.nx (U.set i none) H,rt:=De.rt,bk:=fun U H=>De.bk (U.set i none) H,ct:=fun U H=>De.ct (U.set i none) H }
theorem SK.gone {K:Frag} {EX:XW} {fr:Bool} {Hc Hb:Hp} {De:Ends} {i:Nat} {r:SR} (h:SK K EX fr Hc Hb De (r.gone i)):SK K F0 fr Hc Hb (gD De i) r:=by
 cases r with
 | nx ρ=>exact fun U H H0 R=>h _ H H0 (R.gone i)
 | bk ρ=>exact fun U H H0 R=>h _ H H0 (R.gone i)
 | ct ρ=>exact fun U H H0 R=>h _ H H0 (R.gone i)
 | rt d=>exact h
 | er x=>exact h.elim
 | st=>exact h.elim
theorem SK.noE {K:Frag} {EX:XW} {fr:Bool} {Hc Hb:Hp} {De:Ends} {r:SR} (h:SK K EX fr Hc Hb De r.noE):SK K F0 fr Hc Hb De r:=by
 cases r with
 | nx ρ=>exact h
 | bk ρ=>exact h
 | ct ρ=>exact h
 | rt d=>exact h
 | er x=>exact h.elim
 | st=>exact h.elim
structure Tbl (K:Frag) (cn:String) (Dd:Addr) (bmB:List Value) (newId:String) (tb:String->Option Bool):Prop where
 dn:nsIn K mainGlobals (Str.ofString cn)=some (some (.ref Dd))
 dq:excIn K Dd bmB newId=true
 cs:∀c b,tb c=some b->∃C,nsIn K mainGlobals (Str.ofString c)=some (some (.ref C))/\excIn K C bmB newId=true/\mroIn K C (.ref Dd)=some b
theorem zr9 {K:Frag} {h:Heap} {C:Addr} {v:Value} {b:Bool} {nm q:Str} {N:Addr} {bs bm:List Value} {hdct:Bool} {sn:List Str} {sub:List Value} {ab:Bool} {col:Option Bool} {dd:Option Addr} {k0 k1 k2 k3 k5:Option Value} {newId:String} (X:K.In h)
  (hC:h.get? C=some (excClassObj nm q C N bs bm hdct sn sub ab col dd k0 k1 k2 k3 k5 newId)) (hm:mroIn K C v=some b):(Value.ref C::bm).contains v=b:=by
 obtain ⟨cd,e1,e2⟩:=Option.bind_eq_some_iff.mp hm
 unfold PySem.W.clsIn at e1
 split at e1<;>cases e1
 rename_i ho
 have:=(X _ _ ho).symm.trans hC
 unfold excClassObj at this
 cases this
 split at e2
 . cases e2
 . exact Option.some.inj e2
section
variable {X:Cx} {EX:XW} {fr:Bool} {cn:String} {Dd:Addr} {bmB:List Value} {newId:String} {tb:String->Option Bool} {cp hpos:Pos} {b₀:Stmt} {suite:List Stmt} {rest:List ExceptHandler} {g:DS->SR} {hd:HD} {n:Str} {i:Nat}
theorem zvz:QH X EX fr [] zya:=⟨fun _ _ _ _ _ _ _ _ _ _ _ _ _ _ _ _ _ _ _ _ _ _ h=>h.elim⟩
theorem zra {pins:List (Addr×Obj)} {U:St} {H1:Hp} {s1:Shared} {C a:Addr} {H2:Hp} {s2:Shared} {B:Heap} {T:Addr} {a0:Value} {h5:Heap} {x:Ex} {b:Bool} {R:Result->Shared->Prop} (Tb:Tbl X.K cn Dd bmB newId tb) (hbase:bmB.contains (.type "BaseException")=true) (hg:Gl X (Str.ofString cn)) (L:Lnd5 X pins U H1 s1 C a H2 s2 B T a0 h5)
  (hmx:X.mg (Str.ofString x.cls)=some (.ref C)) (hb:tb x.cls=some b) (h:R (.ok (if b then .brk else .next)) { s2 with heap:=h5 }) (hdb:(Str.ofString cn==("__debug__":Str))=false) :
  codeAny (model X.prog X.w) (X.A.mark (some (.ref a))) (.handlers (.ref a) [.ExceptHandler (some (.Name (Str.ofString cn) cp)) none [] hpos] X.env) R { s2 with heap:=h5 }:=by
 obtain ⟨I5,sm⟩:=L.inv
 have hm:X.mg (Str.ofString cn)=some (.ref Dd):=mg_of L.I.ok.mod.kin L.I.ok.mod.glob Tb.dn
 obtain ⟨C',e1,e2,e3⟩:=Tb.cs _ _ hb
 have hm':=mg_of L.I.ok.mod.kin L.I.ok.mod.glob e1
 rw [hmx] at hm'
 cases hm'
 obtain ⟨oe,vs,he,hc,hd',_⟩:=L.fl.first
 have KI:X.K.In h5:=I5.kIn
 obtain ⟨bm,N,nm,qn,bs,hdct,sn,sub,ab,col,dd,k0,k1,k2,k3,k5,mN,hC,hN,hni,TL⟩:=zbr KI e2
 obtain ⟨bm2,N2,nm2,qn2,bs2,hdct2,sn2,sub2,ab2,col2,dd2,j0,j1,j2,j3,j5,mN2,hD,hN2,hni2,TL2⟩:=zbr KI Tb.dq
 refine codeAny_handlers_test (z6k (X:=X.held (.ref a)) (I5.held _) hg hm ?_ hdb)
 exact zgi hC hD he hc (TL2.hasType hbase) (by rw [zr9 KI hC e3];exact h)
theorem zz6 (Tb:Tbl X.K cn Dd bmB newId tb) (hbase:bmB.contains (.type "BaseException")=true) (hg:Gl X (Str.ofString cn)) (hN:X.N.Nodup) (hi:X.N[i]?=some n) (hk:X.env.scope.names.lookup n=some .local) (hs:∀e,QB (X.held e) F0 fr (b₀::suite) g) (hr:QH X EX fr rest hd) (hdb:(Str.ofString cn==("__debug__":Str))=false:=by decide) :
  QH X EX fr (.ExceptHandler (some (.Name (Str.ofString cn) cp)) (some n) (b₀::suite) hpos::rest) (hAs tb i g hd):=by
 refine ⟨fun pins U H1 s1 C a H2 s2 B T a0 h5 De Hc Hb H0 ρ x E L hmx R h=>?_⟩
 unfold hAs at h
 refine wpAny_handleBy_cons ?_ (by intro q;cases q)
 cases hb:tb x.cls with
 | none=>rw [hb] at h;exact h.elim
 | some b=>
  rw [hb] at h
  refine zra Tb hbase hg L hmx hb ?_ hdb
  cases b with
  | false=>exact hr.h pins U H1 s1 C a H2 s2 B T a0 h5 De Hc Hb H0 ρ x E L hmx R h
  | true=>
   refine codeAny_handlers_suite_as (L.again fun h6 L6=>?_)
   obtain ⟨I6,sm⟩:=L6.inv
   refine z8m I6 hN hi (.inl hk) (v:=.ref a) rfl (fun s3 I3=>?_) (.inr hk)
   obtain ⟨C',e1,e2,e3⟩:=Tb.cs _ _ hb
   have hm':=mg_of L.I.ok.mod.kin L.I.ok.mod.glob e1
   rw [hmx] at hm'
   cases hm'
   have o:Out X.K false (HeOf [] ρ U H0 H2) H2 (.exc x.cls) (.ref a) (upd H2 a (zii a C)):=.val sm (.new (R.heH []) L.ha) (by simp only [RD];exact ⟨a,_,rfl,⟨C,e1,rfl⟩,z0w⟩)
   obtain ⟨H0n,R',apt⟩:=R.out o
   have R3:=R'.put apt i
   refine wpAny_mono ((hs (.ref a)).h pins s3 _ _ (gD De i) (I3.held (.ref a)) ⟨Hc,Hb,H0n,_,F0.same _,R3,h.gone⟩) (fun f s4 q=>?_) fun _ _ z=>z.elim
   cases f with
   | next=>obtain ⟨σ',H',I',q⟩:=q;exact z91 (I'.unheld L.I.ok) hN hi hk fun s5 I5=>⟨_,H',I5,q⟩
   | brk=>obtain ⟨σ',H',I',q⟩:=q;exact z91 (I'.unheld L.I.ok) hN hi hk fun s5 I5=>⟨_,H',I5,q⟩
   | cont=>obtain ⟨σ',H',I',q⟩:=q;exact z91 (I'.unheld L.I.ok) hN hi hk fun s5 I5=>⟨_,H',I5,q⟩
   | ret u=>obtain ⟨v,σ',H',I',rv,q⟩:=q;exact z91 (I'.unheld L.I.ok) hN hi hk fun s5 I5=>⟨v,_,H',I5,rv,q⟩
end
end L2
namespace L2
open PySem PySem.Spec PyProof.Rows
open PySem.Calls
section
variable {prog:Program} {w:World} {A:Around} {E:Value->Shared->Prop} {h:Heap} {g:Array GenState} {d:Drawn} {t:Nat} {os:OsState} {K:Frag} {C a:Addr} {o:Obj}
theorem zgj {α:Type} {M:Model} {A:Around} {E:Value->Shared->Prop} {m:Sem α} {r:α} {Q:α->Shared->Prop} (L:Looks M h m r) (q:Q r ⟨h,g,d,t,os⟩):wpAny M A m Q E ⟨h,g,d,t,os⟩:=L A Q E _ (fun _ _ z=>z) q
theorem zw0 {R:Result->Shared->Prop} (X:K.In h) (hx:h.get? a=some o) (hc:o.cls=.ref C) (hm:mroIn K C (.type "object")=some true) (hq:R (.ok (.ret (.ref C))) ⟨h,g,d,t,os⟩) :
  codeAny (model prog w) A (.call (.builtin "getset_descriptor.__get__") ⟨[.builtin "object.__class__",.ref a,.ref C],[]⟩) R ⟨h,g,d,t,os⟩:=by
 have hT5:(⟨h,g,d,t,os⟩:Shared).TypeIs (.builtin "object.__class__") "getset_descriptor":=PySem.F.typeOf_object_class
 have L1:Looks (model prog w) h (isSubtype (.ref C) (.type (".".intercalate ("object.__class__".cutAt '.').dropLast))) true:=by rw [PySem.F.owner_object_class];exact PySem.W.looks_mroIn X hm
 refine codeAny_call_builtin PySem.F.slot_gs_get.plain PySem.F.entry_gs_get (PySem.F.slot_gs_get.check _ _ _ _ _ _ _ _ hT5 (PySem.F.args_gs_get _ _ _) ?_)
 repeat (any_goals (first | assumption | (with_reducible refine wpAny_loadPart_at hx ?_;rw [hc]) | with_reducible refine zgj L1 ?_ | wp_step))
 refine ⟨Code.quiet_builtin _ (by decide +kernel),codeAny_builtin PySem.F.entry_object_class ?_⟩
 repeat (any_goals (first | assumption | (with_reducible refine wpAny_loadPart_at hx ?_;rw [hc]) | wp_step))
theorem zna {tk:Tok} {Q:Fin->Shared->Prop} (X:K.In h) (hx:h.get? a=some o) (hc:o.cls=.ref C) (hm:mroIn K C (.type "object")=some true) (hcl:PySem.W.findIn K (.ref C) "__class__"=some (some (.builtin "object.__class__"))) (hq:Q (.done (.ret (.ref C))) ⟨h,g,d,t,os⟩) :
  wpAny (model prog w) A (Builtin.«object.__getattribute__» ⟨[.ref a,.str "__class__" tk],[]⟩) Q E ⟨h,g,d,t,os⟩:=by
 have hT5:(⟨h,g,d,t,os⟩:Shared).TypeIs (.builtin "object.__class__") "getset_descriptor":=PySem.F.typeOf_object_class
 have L2:=PySem.W.looks_findIn (M:=model prog w) X hcl
 have f5:=PySem.F.typeOf_object_class
 have f6:=PySem.F.slot_gs_get.lookup
 have f7:=PySem.F.slot_gs_set.lookup
 repeat (any_goals (first | assumption | (with_reducible refine wpAny_loadPart_at hx ?_;rw [hc]) | with_reducible refine zgj L2 ?_ | wp_step))
 refine zw0 X hx hc hm ?_
 repeat (any_goals (first | assumption | wp_step))
theorem znb {M:Model} {nameV:Value} {Q:Unit->Shared->Prop} (X:K.In h) (hx:h.get? a=some o) (hc:o.cls=.ref C) (hB:mroIn K C (.type "BaseException")=some true) (hq:Q () ⟨h,g,d,t,os⟩):wpAny M A (checkBuiltinCall "BaseException.__getattribute__" ⟨[.ref a,nameV],[]⟩) Q E ⟨h,g,d,t,os⟩:=by
 have hk:builtinKind "BaseException.__getattribute__"=some .slot:=by decide +kernel
 have hsplit:splitId "BaseException.__getattribute__"=some ("BaseException","__getattribute__"):=by decide +kernel
 have ha:=PySem.F.args_bexc_ga (.ref a) nameV
 have L1:=PySem.W.looks_mroIn (M:=M) X hB
 simp only [checkBuiltinCall,hk,hsplit]
 refine wpAny_bind ?_
 . unfold isInstance
   repeat (first | (with_reducible refine wpAny_loadPart_at hx ?_;rw [hc]) | with_reducible refine zgj L1 ?_ | wp_step)
   exact hq
theorem zrb {tk:Tok} {R:Result->Shared->Prop} (X:K.In h) (hx:h.get? a=some o) (hc:o.cls=.ref C) (hm:mroIn K C (.type "object")=some true) (hB:mroIn K C (.type "BaseException")=some true) (hcl:PySem.W.findIn K (.ref C) "__class__"=some (some (.builtin "object.__class__"))) (hq:R (.ok (.ret (.ref C))) ⟨h,g,d,t,os⟩) :
  codeAny (model prog w) A (.call (.builtin "BaseException.__getattribute__") ⟨[.ref a,.str "__class__" tk],[]⟩) R ⟨h,g,d,t,os⟩:=
 codeAny_call_builtin PySem.F.attr_ValueError.ga.plain PySem.F.entry_bexc_ga (znb X hx hc hB (zna X hx hc hm hcl hq))
theorem zz7 {tk:Tok} {Q:Value->Shared->Prop} (X:K.In h) (hx:h.get? a=some o) (hc:o.cls=.ref C) (hm:mroIn K C (.type "object")=some true) (hB:mroIn K C (.type "BaseException")=some true) (hcl:PySem.W.findIn K (.ref C) "__class__"=some (some (.builtin "object.__class__")))
  (hga:PySem.W.findIn K (.ref C) "__getattribute__"=some (some (.builtin "BaseException.__getattribute__"))) (hgt:PySem.W.findIn K (.ref C) "__getattr__"=some none) (hq:Q (.ref C) ⟨h,g,d,t,os⟩):wpAny (model prog w) A (getAttrBy (.ref a) (.str "__class__" tk) false) Q E ⟨h,g,d,t,os⟩:=by
 have L1:=PySem.W.looks_findIn (M:=model prog w) X hga
 have L2:=PySem.W.looks_findIn (M:=model prog w) X hgt
 have f3:=(PySem.F.attr_ValueError).ga.bind (.ref a)
 have hx2:(Value.builtin "BaseException.__getattribute__"==Value.builtin "object.__getattribute__")=false:=by decide +kernel
 have hx1:(onTheHeap (Value.ref C)&&Value.builtin "BaseException.__getattribute__"==Value.builtin "object.__getattribute__")=false:=by rw [hx2];rfl
 repeat (any_goals (first | assumption | (with_reducible refine wpAny_loadPart_at hx ?_;rw [hc]) | with_reducible refine zgj L1 ?_ | with_reducible refine zgj L2 ?_ | wp_step))
 refine zrb X hx hc hm hB hcl ?_
 repeat (any_goals (first | assumption | wp_step))
theorem znc {Q:Option Value->Shared->Prop} (X:K.In h) (hx:h.get? a=some o) (hc:o.cls=.ref C) (hm:mroIn K C (.type "object")=some true) (hB:mroIn K C (.type "BaseException")=some true) (hcl:PySem.W.findIn K (.ref C) "__class__"=some (some (.builtin "object.__class__")))
  (hga:PySem.W.findIn K (.ref C) "__getattribute__"=some (some (.builtin "BaseException.__getattribute__"))) (hgt:PySem.W.findIn K (.ref C) "__getattr__"=some none) (hq:Q (some (.ref C)) ⟨h,g,d,t+1,os⟩):wpAny (model prog w) A (getAttr? (.ref a) "__class__") Q E ⟨h,g,d,t,os⟩:=by
 unfold getAttr? getAttrBy?
 repeat (any_goals (first | assumption | with_reducible apply zz7 X hx hc hm hB hcl hga hgt | wp_step))
end
structure XF (K:Frag) (C:Addr):Prop where
 ob:mroIn K C (.type "object")=some true
 be:mroIn K C (.type "BaseException")=some true
 cl:PySem.W.findIn K (.ref C) "__class__"=some (some (.builtin "object.__class__"))
 ga:PySem.W.findIn K (.ref C) "__getattribute__"=some (some (.builtin "BaseException.__getattribute__"))
 gt:PySem.W.findIn K (.ref C) "__getattr__"=some none
theorem XF.cls {K:Frag} {C:Addr} (F:XF K C):∃c' d' cd sl,K.lookup C=some ⟨c',d',.cls cd,sl⟩:=by
 obtain ⟨cd,e1,e2⟩:=Option.bind_eq_some_iff.mp F.ob
 unfold PySem.W.clsIn at e1
 split at e1<;>cases e1
 rename_i ho
 exact ⟨_,_,_,_,ho⟩
theorem z92 {K:Frag} {C a:Addr} (F:XF K C):PySem.W.KitX K (.ref a) (.ref C) (fun h=>∃ob,h.get? a=some ob/\ob.cls=.ref C) where
 ty:=fun M h X ⟨o,h1,h2⟩=>h2 ▸ (PySem.W.Looks.ld h1).andThen .now
 it:=fun _ _ X _=>by
  obtain ⟨c',d',cd,sl,ho⟩:=F.cls
  intro A' Q' E' s' k q
  unfold isType loadHead
  exact wpAny_bind (wpAny_loadPart (k _ _ (X _ _ ho)) (wpAny_pure q))
 ne:=fun h tp dd its n sl X htp=>by
  obtain ⟨c',d',cd,sl,ho⟩:=F.cls
  refine Bool.eq_false_iff.mpr fun q=>?_
  have e:C=tp:=Value.ref.inj (beq_iff_eq.mp q)
  subst e
  have z:=(X _ _ ho).symm.trans htp
  cases z
 ca:=fun {prog w A E Q s} X ⟨o,hx,hc⟩ k=>by
  obtain ⟨h,g,d,t,os⟩:=s
  exact znc X hx hc F.ob F.be F.cl F.ga F.gt k
def zw1 (K:Frag):List V->Hp->VK->Prop:=fun xs H Q=>match xs with
 | [.ref a,.ref p]=>∃C b,H a=some (zii a C)/\XF K C/\(kitOne K (.ref C) (.ref p)=some b\/∃Ds:List Addr,H p=some (.tup (Ds.map V.ref))/\PySem.W.kitAny K (.ref C) (Ds.map Value.ref)=some b)/\Q (.bl b) H
 | [.ref a,.ty T]=>∃C b,H a=some (zii a C)/\XF K C/\kitOne K (.ref C) (.type T)=some b/\Q (.bl b) H
 | _=>False
theorem zad:∀{Ds:List Addr} {us:List Value},Vals (Ds.map V.ref) us->us=Ds.map Value.ref
 | [],_,.nil=>rfl
 | _::_,_,.cons r t=>by rw [zad t,show _=_ from r];rfl
theorem zw2 {X:Cx}:CallR X (.builtin "isinstance") (zw1 X.K):=by
 intro pins s U H xs us Q I r h
 unfold zw1 at h
 split at h
 . rename_i a p
   obtain ⟨C,b,ha,F,hk,q⟩:=h
   cases r with
   | cons r1 r=>cases r with
    | cons r2 r=>
     cases r
     cases (show _=_ from r1)
     cases (show _=_ from r2)
     obtain ⟨⟨ob,o1,o2,_⟩,_⟩:=I.hok a _ ha
     rcases hk with hk | ⟨Ds,hp,hk⟩
     . exact kia_one (z92 F) I.kIn ⟨ob,o1,o2⟩ hk (fun z=>by cases z) fun tk=>⟨.bl b,H,I.tok tk,rfl,q⟩
     . obtain ⟨_,its,rv,ot,n,t1,t2,t3⟩:=I.hok p _ hp
       obtain ⟨oc,od,odt,osl⟩:=ot
       dsimp only at t1 t3
       subst t1 t3
       rw [zad rv] at n
       exact PySem.W.kia_tup (z92 F) I.kIn ⟨ob,o1,o2⟩ n hk (fun z=>by cases z) fun tk=>⟨.bl b,H,I.tok tk,rfl,q⟩
 . rename_i a T
   obtain ⟨C,b,ha,F,hk,q⟩:=h
   cases r with
   | cons r1 r=>cases r with
    | cons r2 r=>
     cases r
     cases (show _=_ from r1)
     cases (show _=_ from r2)
     obtain ⟨⟨ob,o1,o2,_⟩,_⟩:=I.hok a _ ha
     exact kia_one (z92 F) I.kIn ⟨ob,o1,o2⟩ hk (fun z=>by cases z) fun tk=>⟨.bl b,H,I.tok tk,rfl,q⟩
 . exact h.elim
noncomputable def zl2 (tb:String->Option Bool):D->Option D
 | .exc c=>(tb c).map .bl
 | _=>none
structure Bel (K:Frag) (y:Value) (tb:String->Option Bool):Prop where
 h:∀c b,tb c=some b->∃C,nsIn K mainGlobals (Str.ofString c)=some (some (.ref C))/\XF K C/\kitOne K (.ref C) y=some b
theorem RD.exc {K:Frag} {H:Hp} {c:String} {v:V} (r:RD K H (.exc c) v):∃a C,v=.ref a/\nsIn K mainGlobals (Str.ofString c)=some (some (.ref C))/\H a=some (zii a C):=by
 simp only [RD] at r
 obtain ⟨a,o,e,⟨C,h1,h2⟩,h3⟩:=r
 subst h2
 exact ⟨a,C,e,h1,h3⟩
section
variable {X:Cx} {EX:XW} {a b:Expr} {bs:List Expr} {pos p tpos:Pos} {x:Str} {f:DE->R D} {tb:String->Option Bool} {Ds:List Addr}
theorem zw3 {K:Frag} {U:St} {H:Hp} {Q:VK} {y:V} {yv:Value} (hy:(∃Dd,y=.ref Dd/\yv=.ref Dd)\/∃T,y=.ty T/\yv=.type T) (B:Bel K yv tb) (h:TEd K EX false (eUn (zl2 tb) f) U H Q):tCB (zw1 K) (z9r (TEd K EX false f) (z9r (tC y) zub)) U H Q:=by
 obtain ⟨sx,ρ,H0,s,e,h⟩:=h
 unfold eUn at h
 rw [Rk.bind] at h
 refine TEd.go sx s e h fun d h v H1 H1' s1 e1 r1=>?_
 obtain ⟨z,hz,h⟩:=h.of
 cases d<;>simp only [zl2] at hz<;>first | cases hz | skip
 rename_i c
 obtain ⟨b,hb,rfl⟩:=Option.map_eq_some_iff.mp hz
 obtain ⟨a,C,rfl,hn,ha⟩:=r1.exc
 obtain ⟨C',h1,h2,h3⟩:=B.h c b hb
 rw [hn] at h1
 cases h1
 have q:=h (.bl b) H1 (.val s1 e1 (by simp only [RD]))
 rcases hy with ⟨Dd,rfl,rfl⟩ | ⟨T,rfl,rfl⟩
 . exact ⟨C,b,e1.2.1 _ _ ha,h2,.inl h3,q⟩
 . exact ⟨C,b,e1.2.1 _ _ ha,h2,h3,q⟩
theorem zjc {y:V} {yv:Value} (hg:Gl X x) (hm:X.mg x=none) (hv:bootBuiltins x=some (.builtin "isinstance")) (ha:QE X EX false a f) (hb:PE X b (tC y)) (hy:(∃Dd,y=.ref Dd/\yv=.ref Dd)\/∃T,y=.ty T/\yv=.type T) (B:Bel X.K yv tb) (hn:x≠"__name__":=by decide) (hdb:(x==("__debug__":Str))=false:=by decide)
 (he:starEach [a,b] X.env=(false,eval a X.env)::starEach [b] X.env:=by rfl) (hpl:(backTo pos (starEach [b] X.env)).any (·.1)=false:=by rfl) (hs:starEach [b] X.env=(false,eval b X.env)::starEach [] X.env:=by rfl) :
 QE X EX false (.Call (.Name x p) [a,b] [] pos) (eUn (zl2 tb) f):=⟨(z8o zw2 hg hm hv (z5j ha.h (z5j hb pa_nil hs) he) hn hdb he hpl).imp fun _ _ _ q=>zw3 hy B q⟩
end
end L2
namespace L2
open PySem PySem.Spec PyProof.Rows
theorem TEd.mono' {K:Frag} {EX:XW} {fr:Bool} {f:DE->R D} {U:St} {H:Hp} {Q Q':VK} (h:TEd K EX fr f U H Q) (hq:∀v H',Q v H'->Q' v H'):TEd K EX fr f U H Q':=by
 obtain ⟨sx,ρ,H0,s,e,h⟩:=h
 exact ⟨sx,ρ,H0,s,e,h.mono fun a k v H' o=>hq _ _ (k v H' o)⟩
noncomputable def SR.thn (r:SR) (g:DS->SR):SR:=match r with
 | .nx ρ'=>g ρ'
 | r=>r
noncomputable def SR.out (fr:Bool) (r:SR):R D:=match r with
 | .rt d=>.ok d
 | .nx _=>if fr=true then .st else .ok .non
 | .er x=>.er x
 | _=>.st
theorem zl3 (g1 g2:DS->SR) (ρ:DS):z1e g1 g2 ρ=(g1 ρ).thn g2:=rfl
theorem zl4 (ρ:DS) (g:DS->SR):(SR.nx ρ).thn g=g ρ:=rfl
theorem zrc (d:D) (g:DS->SR):(SR.rt d).thn g=.rt d:=rfl
theorem zrd (x:Ex) (g:DS->SR):(SR.er x).thn g=.er x:=rfl
theorem zre (ρ:DS) (g:DS->SR):(SR.bk ρ).thn g=.bk ρ:=rfl
theorem zrf (ρ:DS) (g:DS->SR):(SR.ct ρ).thn g=.ct ρ:=rfl
theorem zrg (g:DS->SR):(SR.st).thn g=.st:=rfl
theorem znd (c:Prop) [Decidable c] (a b:SR) (g:DS->SR):(if c then a else b).thn g=if c then a.thn g else b.thn g:=by split<;>rfl
theorem z7w (fr:Bool) (n k:Nat) (g:DS->SR) (ds:List D):mOf fr n k g ds=if ds.length=n then (g (ds.map .im++List.replicate k .em)).out fr else .st:=rfl
theorem zrh (fr:Bool) (d:D):(SR.rt d).out fr=.ok d:=rfl
theorem zri (ρ:DS):(SR.nx ρ).out false=.ok .non:=rfl
theorem zrj (fr:Bool) (x:Ex):(SR.er x).out fr=.er x:=rfl
theorem zrk (fr:Bool):(SR.st).out fr=.st:=rfl
theorem zne (fr:Bool) (c:Prop) [Decidable c] (a b:SR):(if c then a else b).out fr=if c then a.out fr else b.out fr:=by split<;>rfl
theorem z89 (m:List Bool) (f:DE->R D) (ρ:DS):z3p m f ρ=(f (vis m ρ)).toS fun d=>.rt d:=rfl
theorem zl5 (fr:Bool) (i:Nat) (m:List Bool) (f:DE->R D) (ρ:DS):z34 fr i m f ρ=(f (vis m ρ)).toS fun d=>.nx (ziz fr i d (z68 (keeps fr d) m ρ)):=rfl
theorem zw4 (t:DE->R Bool) (g1 g2:DS->SR) (ρ:DS):sIf t g1 g2 ρ=(t (see ρ)).toS fun b=>if b=true then g1 ρ else g2 ρ:=rfl
theorem zrl {α:Type} (a:α) (k:α->SR):R.toS (.ok a) k=k a:=rfl
theorem zl6 {α:Type} (x:Ex) (k:α->SR):R.toS (.er x:R α) k=.er x:=rfl
theorem zrm {α:Type} (k:α->SR):R.toS (.st:R α) k=.st:=rfl
theorem znf {α:Type} (c:Prop) [Decidable c] (a b:R α) (k:α->SR):R.toS (if c then a else b) k=if c then R.toS a k else R.toS b k:=by split<;>rfl
theorem zng {α β:Type} (x:Ex) (k:α->R β):R.bind (.er x:R α) k=.er x:=rfl
theorem zcz {α:Type} (a:α):(R.ok a).noE=.ok a:=rfl
theorem zw5 (m:List Bool):vis m []=[]:=by cases m<;>rfl
theorem zw6 (s:Sl) (r:DS):vis [] (s::r)=s.see false::vis [] r:=rfl
theorem zw7 (b:Bool) (m:List Bool) (s:Sl) (r:DS):vis (b::m) (s::r)=s.see b::vis m r:=rfl
theorem zw8:see []=[]:=rfl
theorem zw9 (s:Sl) (r:DS):see (s::r)=s.see true::see r:=rfl
theorem zrn (b:Bool):Sl.see b .em=none:=rfl
theorem zro (b:Bool) (d:D):Sl.see b (.im d)=some d:=rfl
theorem znh (d:D):Sl.see true (.ow d)=some d:=rfl
theorem zni (d:D):Sl.see false (.ow d)=none:=rfl
theorem zrp (m:List Bool) (ρ:DS):z68 true m ρ=ρ:=rfl
theorem zjd (fr:Bool) (i:Int):keeps fr (.int i)=true:=by cases fr<;>rfl
theorem znj (fr:Bool) (i:Bool):keeps fr (.bl i)=true:=by cases fr<;>rfl
theorem zje (fr:Bool):keeps fr .non=true:=by cases fr<;>rfl
theorem zjf (fr:Bool) (x:PySem.Str):keeps fr (.str x)=true:=by cases fr<;>rfl
theorem zjg (fr:Bool) (ds:List D):keeps fr (.tup ds)=z3z ds:=by cases fr<;>simp only [keeps,D.noL,D.shal,if_true,Bool.false_eq_true,if_false]
theorem zd0 (ds:List D):keeps true (.lst ds)=z3z ds:=rfl
theorem zrq:z3z []=true:=by simp only [z3z]
theorem zrr (d:D) (r:List D):z3z (d::r)=(d.noL&&z3z r):=by simp only [z3z]
theorem z3t (i:Int):(D.int i).noL=true:=by simp only [D.noL]
theorem zrs (i:Bool):(D.bl i).noL=true:=by simp only [D.noL]
theorem znk (i:PySem.Str):(D.str i).noL=true:=by simp only [D.noL]
theorem znl:(D.non).noL=true:=by simp only [D.noL]
theorem znm (ds:List D):(D.tup ds).noL=z3z ds:=by simp only [D.noL]
theorem znn (ds:List D):(D.lst ds).noL=false:=by simp only [D.noL]
theorem zwa (i:Nat) (d:D) (ρ:DS):ziz false i d ρ=ρ.set i (.im d):=rfl
theorem zwb (i:Nat) (d:D) (ρ:DS):ziz true i d ρ=ρ.set i (.ow d):=rfl
theorem zwc (ρ:DE):sel [] ρ=[]:=rfl
theorem zwd (j:Nat) (r:List Nat) (ρ:DE):sel (j::r) ρ=(ρ[j]?).getD none::sel r ρ:=rfl
theorem zz8 (d:D) (r:DE):z03 0 (some d::r)=.ok d:=rfl
theorem zz9 (i:Nat) (d:Option D) (r:DE):z03 (i+1) (d::r)=z03 i r:=rfl
theorem zwe (g:Int->Int->D) (i j:Int):dI g (.int i) (.int j)=some (g i j):=rfl
theorem z6w (C:Int->Int->Prop) [∀i j,Decidable (C i j)] (g:Int->Int->D) (i j:Int):dIC C g (.int i) (.int j)=if C i j then some (g i j) else none:=rfl
theorem zwf (b:Bool):asB (.bl b)=some b:=rfl
theorem zl7 (b:Bool):z9m (.bl b)=some b:=rfl
theorem zrt (ds:List D):z9m (.lst ds)=some (!ds.isEmpty):=rfl
theorem zru (i:Int):z9m (.int i)=some (i != 0):=rfl
theorem z6x (i j:Int):(i==j)=decide (i=j):=by rw [Bool.eq_iff_iff];simp
theorem zrv (i j:Int):dEq (.int i) (.int j)=some (.bl (decide (i=j))):=by
 unfold dEq
 rw [if_pos (by simp [D.pl,D.dep])]
 simp only [eqD,z6x]
theorem zrw (i j:Int):dNe (.int i) (.int j)=some (.bl (!decide (i=j))):=by
 unfold dNe
 rw [if_pos (by simp [D.pl,D.dep])]
 simp only [eqD,z6x]
theorem zrx (i j:Bool):dEq (.bl i) (.bl j)=some (.bl (i==j)):=by
 unfold dEq
 rw [if_pos (by simp [D.pl,D.dep])]
 simp only [eqD]
theorem zry (a b c e:Int):dEq (.tup [.int a,.int b]) (.tup [.int c,.int e])=some (.bl (decide (a=c)&&decide (b=e))):=by
 unfold dEq
 rw [if_pos (by simp [D.pl,D.dep,pls,z7j])]
 simp only [eqD,z51,z6x,Bool.and_true]
theorem zrz (a b c e:Int):dNe (.tup [.int a,.int b]) (.tup [.int c,.int e])=some (.bl (!(decide (a=c)&&decide (b=e)))):=by
 unfold dNe
 rw [if_pos (by simp [D.pl,D.dep,pls,z7j])]
 simp only [eqD,z51,z6x,Bool.and_true]
theorem zl8 (a:D) (r:List D):dIx (.tup (a::r)) (.int 0)=some a:=by simp only [dIx,dOr,zea,zxz]
theorem zl9 (a b:D) (r:List D):dIx (.tup (a::b::r)) (.int 1)=some b:=by simp only [dIx,dOr,zea,zy0]
theorem zs0 (a b c:D) (r:List D):dIx (.tup (a::b::c::r)) (.int 2)=some c:=by simp only [dIx,dOr,zea,show atI (a::b::c::r) 2=some c from zb5 (j:=2) rfl]
theorem zla (a:D) (r:List D):dIx (.lst (a::r)) (.int 0)=some a:=by simp only [dIx,dOr,zea,zxz]
theorem zs1 (a b:D) (r:List D):dIx (.lst (a::b::r)) (.int 1)=some b:=by simp only [dIx,dOr,zea,zy0]
theorem zs2 (ns:List Int):z7u [.scr ns]=some (.int ns.length):=rfl
theorem zlb (ns:List D):z7u [.lst ns]=some (.int ns.length):=rfl
theorem zs3 (ns:List D):z7u [.tup ns]=some (.int ns.length):=rfl
theorem zwg (b c:Bool):(if b=true then R.ok true else R.ok c)=R.ok (b||c):=by cases b<;>rfl
theorem zs4 (b c:Bool):(if b=true then R.ok c else R.ok false)=R.ok (b&&c):=by cases b<;>rfl
theorem zs5 (b c:Bool):(if b=true then R.ok (D.bl true) else R.ok (D.bl c))=R.ok (D.bl (b||c)):=by cases b<;>rfl
theorem zno (b c:Bool):(if b=true then R.ok (D.bl c) else R.ok (D.bl false))=R.ok (D.bl (b&&c)):=by cases b<;>rfl
theorem zs6 (i:Int):z7t "int" (.int i)=some (.bl true):=by simp [z7t,z5o,z6o,zfl]
theorem zs7 (i:Int):z7t "bool" (.int i)=some (.bl false):=by simp [z7t,z5o,z6o,zfl]
theorem zs8 (i:Bool):z7t "bool" (.bl i)=some (.bl true):=by simp [z7t,z5o,z6o,zfl]
theorem zgk (ds:List D):z7t "tuple" (.tup ds)=some (.bl true):=by simp [z7t,z5o,z6o,zfl]
theorem zlc (ds:List D):z7t "list" (.lst ds)=some (.bl true):=by simp [z7t,z5o,z6o,zfl]
theorem zs9 (tg:Tg) (g:DS->SR) (ρ:DS):ze5 tg g [] ρ=.nx ρ:=rfl
noncomputable def SR.itr (r:SR) (k:DS->SR):SR:=match r with
 | .nx ρ2=>k ρ2
 | .ct ρ2=>k ρ2
 | .bk ρ2=>.nx ρ2
 | .rt d=>.rt d
 | .er x=>.er x
 | .st=>.st
theorem zsa (ρ:DS) (k:DS->SR):(SR.nx ρ).itr k=k ρ:=rfl
theorem zsb (ρ:DS) (k:DS->SR):(SR.ct ρ).itr k=k ρ:=rfl
theorem zsc (ρ:DS) (k:DS->SR):(SR.bk ρ).itr k=.nx ρ:=rfl
theorem zsd (d:D) (k:DS->SR):(SR.rt d).itr k=.rt d:=rfl
theorem znp (c:Prop) [Decidable c] (a b:SR) (g:DS->SR):(if c then a else b).itr g=if c then a.itr g else b.itr g:=by split<;>rfl
theorem znq (bn:D->Option (List D)) (t:DE->R Bool) (f:DE->R D) (cs:DE):z4m bn t f cs []=.ok []:=rfl
theorem znr (f:DE->R D) (cs:DE) (d:D) (ds:List D):z4m b1 z5p f cs (d::ds)=(f (some d::cs)).noE.bind fun y=>(z4m b1 z5p f cs ds).bind fun ys=>.ok (y::ys):=rfl
theorem z56 {bn:D->Option (List D)} {f:DE->R D} {cs:DE} {α:Type} {en:α->D} {bs:α->List D} {g:α->D} (xs:List α) (hb:∀x∈xs,bn (en x)=some (bs x)) (hf:∀x∈xs,f ((bs x).map some++cs)=.ok (g x)):z4m bn z5p f cs (xs.map en)=.ok (xs.map g):=by
 induction xs with
 | nil=>rfl
 | cons x xs ih=>
  simp only [List.map_cons,z4m,hb x (by simp),z5p,R.of_some,R.bind_ok,zcz,if_true,hf x (by simp),ih (fun y hy=>hb y (by simp [hy])) (fun y hy=>hf y (by simp [hy]))]
theorem zgl {bn:D->Option (List D)} {t:DE->R Bool} {f:DE->R D} {cs:DE} {α:Type} {en:α->D} {bs:α->List D} {p:α->Bool} {g:α->D} (xs:List α) (hb:∀x∈xs,bn (en x)=some (bs x)) (ht:∀x∈xs,t ((bs x).map some++cs)=.ok (p x)) (hf:∀x∈xs,p x=true->f ((bs x).map some++cs)=.ok (g x)):z4m bn t f cs (xs.map en)=.ok ((xs.filter p).map g):=by
 induction xs with
 | nil=>rfl
 | cons x xs ih=>
  have ih':=ih (fun y hy=>hb y (by simp [hy])) (fun y hy=>ht y (by simp [hy])) (fun y hy=>hf y (by simp [hy]))
  simp only [List.map_cons,z4m,hb x (by simp),ht x (by simp),R.of_some,R.bind_ok,zcz,ih']
  cases e:p x with
  | true=>simp only [if_true,hf x (by simp) e,zcz,R.bind_ok,List.filter_cons,e,List.map_cons]
  | false=>simp only [Bool.false_eq_true,if_false,List.filter_cons,e]
theorem z57 {tg:Tg} {g:DS->SR} {α:Type} {en:α->D} (P:List α->DS->Prop) (xs:List α) (ρ:DS) (h0:P xs ρ) (hs:∀x r ρ,P (x::r) ρ->∃ρ1 ρ2,zkm tg (en x) ρ=some ρ1/\(g ρ1=.nx ρ2\/g ρ1=.ct ρ2)/\P r ρ2):∃ρ',ze5 tg g (xs.map en) ρ=.nx ρ'/\P [] ρ':=by
 induction xs generalizing ρ with
 | nil=>exact ⟨ρ,rfl,h0⟩
 | cons x r ih=>
  obtain ⟨ρ1,ρ2,e1,e2,q⟩:=hs x r ρ h0
  obtain ⟨ρ',e',p'⟩:=ih ρ2 q
  refine ⟨ρ',?_,p'⟩
  rcases e2 with e2 | e2<;>simp only [List.map_cons,ze5,e1,e2,e']
noncomputable def L (ns:List Int):D:=.lst (ns.map .int)
theorem z27 {α:Type} (f:α->D) (xs:List α) (h:∀x∈xs,(f x).noL=true):z3z (xs.map f)=true:=by
 induction xs with
 | nil=>simp only [List.map_nil,z3z]
 | cons a r ih=>simp only [List.map_cons,z3z,h a (by simp),ih fun x hx=>h x (by simp [hx]),Bool.and_self]
theorem zse (ns:List Int):keeps true (L ns)=true:=by
 unfold L;rw [zd0];exact z27 _ _ fun x _=>z3t x
theorem zwh (ns:List Int):z7u [L ns]=some (.int ns.length):=by unfold L;rw [zlb,List.length_map]
theorem zsf (ns:List Int):z7v [L ns]=some (L ns):=rfl
theorem zwi (ns:List Int):z7t "list" (L ns)=some (.bl true):=zlc _
theorem zns (ns:List Int):items (L ns)=some (ns.map .int):=rfl
theorem zwj {ns:List Int} {x:Int} (h:ns.length<100000):zga (L ns) [.int x]=some (L (ns++[x])):=by
 simp only [L,zga,List.length_map,h,if_true,List.map_append,List.map_cons,List.map_nil]
theorem zza (ns:List Int) (lo hi:Option Int):dSl (L ns) lo hi=some (L (zbl ns lo hi)):=by
 simp only [L,dSl,zbl,List.length_map,List.map_take,List.map_drop]
theorem zsg (ns:List Int) (lo hi:Option Int):dSl (.scr ns) lo hi=some (L (zbl ns lo hi)):=rfl
theorem zwk (ns:List Int):zj4 [L ns]=some (.int ns.sum):=by simp only [L,zj4,z84,Option.map_some]
theorem any_map {α:Type} (xs:List α) (f:α->Bool):zqz [.lst (xs.map fun x=>D.bl (f x))]=some (.bl (xs.any f)):=by
 have:xs.map (fun x=>D.bl (f x))=(xs.map f).map D.bl:=by rw [List.map_map];rfl
 rw [this];simp only [zqz,z6t,Option.map_some,List.any_map];rfl
theorem zef (ns:List Int):(L ns).dep<=1/\(L ns).pl=true:=by
 have:∀ns:List Int,z7j (ns.map D.int)=0/\pls (ns.map D.int)=true:=fun ns=>by
  induction ns with
  | nil=>simp only [List.map_nil,z7j,pls,and_self]
  | cons a r ih=>simp only [List.map_cons,z7j,pls,D.dep,D.pl,ih.1,ih.2,Bool.and_self,Nat.max_self,and_self]
 simp only [L,D.dep,D.pl,this];exact ⟨by omega,trivial⟩
theorem zgm:∀(a b:List Int),z51 (a.map D.int) (b.map D.int)=decide (a=b)
 | [],[]=>by simp [z51]
 | [],_::_=>by simp [z51]
 | _::_,[]=>by simp [z51]
 | x::a,y::b=>by
  simp only [List.map_cons,z51,eqD,zgm a b,List.cons.injEq,Bool.decide_and,z6x]
theorem zzb (a b:List Int):dEq (L a) (L b)=some (.bl (decide (a=b))):=by
 unfold dEq
 rw [if_pos ⟨(zef a).2,(zef b).2,by have:=(zef a).1;omega⟩]
 simp only [L,eqD,zgm]
theorem zzc (a b:List Int):dNe (L a) (L b)=some (.bl (!decide (a=b))):=by
 unfold dNe
 rw [if_pos ⟨(zef a).2,(zef b).2,by have:=(zef a).1;omega⟩]
 simp only [L,eqD,zgm]
theorem z93 {tg:Tg} {g:DS->SR} (n:Nat) (en:Nat->D) (P:Nat->DS->Prop) (ρ:DS) (h0:P 0 ρ)
  (hs:∀i,i<n->∀ρ,P i ρ->∃ρ1 ρ2,zkm tg (en i) ρ=some ρ1/\(g ρ1=.nx ρ2\/g ρ1=.ct ρ2)/\P (i+1) ρ2) :
  ∃ρ',ze5 tg g ((List.range n).map en) ρ=.nx ρ'/\P n ρ':=by
 have key:∀k s ρ,s+k=n->P s ρ->∃ρ',ze5 tg g ((List.range' s k).map en) ρ=.nx ρ'/\P n ρ':=by
  intro k
  induction k with
  | zero=>intro s ρ e h;exact ⟨ρ,rfl,by rwa [<-e]⟩
  | succ k ih=>
   intro s ρ e h
   obtain ⟨ρ1,ρ2,e1,e2,q⟩:=hs s (by omega) ρ h
   obtain ⟨ρ',e',p'⟩:=ih (s+1) ρ2 (by omega) q
   refine ⟨ρ',?_,p'⟩
   rw [List.range'_succ,List.map_cons]
   rcases e2 with e2 | e2<;>simp only [ze5,e1,e2,e']
 rw [List.range_eq_range']
 exact key n 0 ρ (by omega) h0
theorem zjh (n:Nat) (g:Nat->D):((zD 0 ((List.range n).map g).length).zip ((List.range n).map g)).map (fun p=>D.tup [p.1,p.2])=(List.range n).map fun (i:Nat)=>D.tup [.int (i:Int),g i]:=by
 simp only [zD,List.length_map,List.length_range]
 have:∀(l:List Nat),((l.map fun (i:Nat)=>D.int (0+i)).zip (l.map g)).map (fun p=>D.tup [p.1,p.2])=l.map fun (i:Nat)=>D.tup [.int (i:Int),g i]:=fun l=>by
  induction l with
  | nil=>rfl
  | cons a r ih=>simp only [Int.zero_add] at ih ⊢;simp only [List.map_cons,List.zip_cons_cons,ih]
 exact this _
theorem zld {α:Type} (xs:List α) (d:α):xs=(List.range xs.length).map fun i=>xs.getD i d:=by
 apply List.ext_getElem?
 intro i
 by_cases h:i<xs.length
 . rw [List.getElem?_map,List.getElem?_range h,Option.map_some,List.getD_eq_getElem?_getD,List.getElem?_eq_getElem h];rfl
 . rw [List.getElem?_eq_none (by omega),List.getElem?_eq_none (by simp;omega)]
theorem zwl (ns:List Int):isT "list" (L ns)=true:=by simp only [L,isT,beq_self_eq_true]
theorem zsh (m:List Bool) (ρ:DS):z68 false m ρ=frz m ρ:=rfl
theorem zwm (ρ:DS):frz [] ρ=ρ:=by cases ρ<;>rfl
theorem zwn (m:List Bool):frz m []=[]:=by cases m<;>rfl
theorem zwo (b:Bool) (m:List Bool) (s:Sl) (r:DS):frz (b::m) (s::r)=s.frz b::frz m r:=rfl
theorem zsi (b:Bool) (d:D):Sl.frz b (.im d)=.im d:=rfl
theorem zsj (b:Bool):Sl.frz b .em=.em:=rfl
theorem znt (d:D):Sl.frz false (.ow d)=.ow d:=rfl
theorem znu (d:D):Sl.frz true (.ow d)=.im d:=rfl
theorem zgn {i j:Int} (h:-(2 ^ 64)<i/\i<2 ^ 64):zko (.int i) (.int j)=some (.int (i * j)):=by
 unfold zko;rw [z6w,if_pos (show CMul i j from Or.inl h)]
theorem z42 {i j:Int} (h:0<j):z7n (.int i) (.int j)=some (.int (i % j)):=by
 unfold z7n;rw [z6w,if_pos h]
theorem z6y {i j:Int} (h:0<j/\j<1073741824):zbf (.int i) (.int j)=some (.int (i / j)):=by
 unfold zbf;rw [z6w,if_pos (show zm9 i j from h)]
theorem zsk (i:Int):R.of (match D.int i with | .int i=>some (some i) | _=>none)=R.ok (some i):=rfl
theorem znv {i j:Int} (hi:-100000<=i/\i<=100000) (hj:-100000<=j/\j<=100000):-(2 ^ 62)<=i/\i<2 ^ 62/\-(2 ^ 62)<=j/\j<2 ^ 62:=by omega
theorem znw {j:Int} (hj:-100000<=j/\j<=100000):-(2 ^ 62)<=j/\j<2 ^ 62:=by omega
theorem zwp {fs:DE->R (List D)} {ρ:DE} (i j:Int) (hi:-100000<=i/\i<=100000) (hj:-100000<=j/\j<=100000) (h:fs ρ=.ok [.int i,.int j]):zkv fs ρ=.ok (zD i (j - i).toNat):=by
 unfold zkv;rw [h,R.bind_ok]
 show R.of (if _ then _ else _)=_
 rw [if_pos (znv hi hj)];rfl
theorem zwq {fs:DE->R (List D)} {ρ:DE} (j:Int) (hj:-100000<=j/\j<=100000) (h:fs ρ=.ok [.int j]):zr3 fs ρ=.ok (zD 0 j.toNat):=by
 unfold zr3;rw [h,R.bind_ok]
 show R.of (if _ then _ else _)=_
 rw [if_pos (znw hj)];rfl
theorem znx (ds:List D):items (.lst ds)=some ds:=rfl
theorem zny (ds:List D):items (.tup ds)=some ds:=rfl
theorem zae (ds:List D):keeps false (.lst ds)=false:=by simp only [keeps,D.noL,Bool.false_eq_true,if_false]
theorem znz (ns:List Int):keeps false (L ns)=false:=zae _
noncomputable def T2 (p:Int×Int):D:=.tup [.int p.1,.int p.2]
noncomputable def T3 (p:Int×Int×Int):D:=.tup [.int p.1,.int p.2.1,.int p.2.2]
theorem zgo {l l':List D} (h:ois l'=true) (p:l.Perm l'):z5q l=z5q l':=
 z6d (z55 ((z19 l).trans p) h) (((z19 l).trans p).trans (z19 l').symm) (z3j (z55 p h)) (z3j h)
noncomputable def zpe {α:Type} (lt:α->α->Bool) (d:α):List α->List α
 | []=>[d]
 | e::r=>if lt e d=true then e::zpe lt d r else d::e::r
noncomputable def zaf {α:Type} (lt:α->α->Bool):List α->List α
 | []=>[]
 | d::r=>zpe lt d (zaf lt r)
section
variable {α:Type} (f:α->D)
theorem zd1 (d:α):∀l:List α,zj6 (f d) (l.map f)=(zpe (fun a b=>ltT (f a) (f b)) d l).map f
 | []=>rfl
 | e::r=>by
  simp only [List.map_cons,zj6,zpe]
  split
  . rw [List.map_cons,zd1 d r]
  . rfl
theorem zag:∀l:List α,z5q (l.map f)=(zaf (fun a b=>ltT (f a) (f b)) l).map f
 | []=>rfl
 | d::r=>by simp only [List.map_cons,z5q,zaf,zag r,zd1]
variable (lt:α->α->Bool)
theorem zah (d:α):∀l:List α,(zpe lt d l).Perm (d::l)
 | []=>.refl _
 | e::r=>by
  unfold zpe
  split
  . exact ((zah d r).cons e).trans (.swap d e r)
  . exact .refl _
theorem z8a:∀l:List α,(zaf lt l).Perm l
 | []=>.refl _
 | d::r=>(zah lt d (zaf lt r)).trans ((z8a r).cons d)
end
noncomputable def so2 (ls:List (Int×Int)):List (Int×Int):=zaf (fun a b=>ltT (T2 a) (T2 b)) ls
noncomputable def so3 (ls:List (Int×Int×Int)):List (Int×Int×Int):=zaf (fun a b=>ltT (T3 a) (T3 b)) ls
theorem zgp {α:Type} (xs:List α) (f:α->D) (p:D->Bool) (h:∀x,p (f x)=true):(xs.map f).all p=true:=by
 rw [List.all_eq_true];intro d hd;obtain ⟨x,_,rfl⟩:=List.mem_map.mp hd;exact h x
theorem z8b {α:Type} (xs:List α) (f:α->D) (h:∀x,(f x).oi=true):ois (xs.map f)=true:=
 ois_mem.mpr fun d hd=>by obtain ⟨x,_,rfl⟩:=List.mem_map.mp hd;exact h x
theorem zbt {α:Type} (xs:List α) (f:α->D) (n:Nat) (h:∀x,(f x).dep<=n):z7j (xs.map f)<=n:=by
 induction xs with
 | nil=>simp only [List.map_nil,z7j,Nat.zero_le]
 | cons a r ih=>simp only [List.map_cons,z7j];have:=h a;omega
theorem pls_of {α:Type} (xs:List α) (f:α->D) (h:∀x,(f x).pl=true):pls (xs.map f)=true:=by
 induction xs with
 | nil=>simp only [List.map_nil,pls]
 | cons a r ih=>simp only [List.map_cons,pls,h a,ih,Bool.and_self]
theorem zzd (p:Int):(D.int p).oi=true:=by simp [D.oi]
theorem zle (p:Int×Int):(T2 p).noL=true:=by simp [T2,D.noL,z3z]
theorem zlf (p:Int×Int×Int):(T3 p).noL=true:=by simp [T3,D.noL,z3z]
theorem zwr (p q:Int):(z36 (.int p) (.int q)).isSome=true:=by simp only [z36];rfl
theorem z94 {α β:Type} {f:α->β} (hf:∀x y,f x=f y->x=y):∀{a b:List α},a.map f=b.map f->a=b
 | [],[],_=>rfl
 | [],_::_,h=>by simp at h
 | _::_,[],h=>by simp at h
 | x::a,y::b,h=>by
  simp only [List.map_cons,List.cons.injEq] at h
  rw [hf _ _ h.1,z94 hf h.2]
theorem zws (ds:List D):isT "list" (.lst ds)=true:=by simp only [isT,beq_self_eq_true]
theorem zwt (b:Bool):zy8 [.bl b]=some (.int (if b then 1 else 0)):=rfl
theorem zwu (i:Int):zy8 [.int i]=some (.int i):=rfl
theorem zsl (ds:List D):z7v [.tup ds]=some (.lst ds):=rfl
theorem zsm (ds:List D):z7v [.lst ds]=some (.lst ds):=rfl
theorem zo0 (ds:List D):z2m [.lst ds]=some (.tup ds):=rfl
theorem zo1 (ds:List D):z2m [.tup ds]=some (.tup ds):=rfl
theorem zji (ls:List (Int×Int)):z3z (ls.map T2)=true:=z27 _ _ fun x _=>zle x
theorem zjj (ls:List (Int×Int×Int)):z3z (ls.map T3)=true:=z27 _ _ fun x _=>zlf x
theorem zsn (t:Int×Int×Int):zj4 [T3 t]=some (.int (t.1+(t.2.1+(t.2.2+0)))):=by
 simp only [T3,zj4,z3i,Option.map_some,List.sum_cons,List.sum_nil]
theorem zso (t:Int×Int):zj4 [T2 t]=some (.int (t.1+(t.2+0))):=by
 simp only [T2,zj4,z3i,Option.map_some,List.sum_cons,List.sum_nil]
theorem zsp (t:Int×Int×Int):z7t "tuple" (T3 t)=some (.bl true):=zgk _
theorem zsq (t:Int×Int):z7t "tuple" (T2 t)=some (.bl true):=zgk _
theorem zsr (t:Int×Int):z7u [T2 t]=some (.int 2):=rfl
theorem zwv (t:Int×Int):dIx (T2 t) (.int 0)=some (.int t.1):=zl8 _ _
theorem zww (t:Int×Int):dIx (T2 t) (.int 1)=some (.int t.2):=zl9 _ _ _
theorem zjk (t:Int×Int×Int):items (T3 t)=some [.int t.1,.int t.2.1,.int t.2.2]:=rfl
def zss (i j:Int):Prop:=0<j/\j<2 ^ 200
instance (i j:Int):Decidable (zss i j):=by unfold zss;infer_instance
noncomputable def hid (as:List Addr) (H:Hp):Hp:=fun b=>if b∈as then none else H b
theorem zst {as:List Addr} {H:Hp} {a:Addr} (h:a∈as):hid as H a=none:=if_pos h
theorem zgq {as:List Addr} {H:Hp} {a:Addr} (h:a∉as):hid as H a=H a:=if_neg h
theorem zbu {α:Type} {l:List α} {i j:Nat} {x y:α} (h:(l.set i x)[j]?=some y):(i=j/\x=y)\/(i≠j/\l[j]?=some y):=by
 by_cases e:i=j
 . subst e
   by_cases hl:i<l.length
   . rw [List.getElem?_set_self hl] at h;exact .inl ⟨rfl,Option.some.inj h⟩
   . rw [List.getElem?_eq_none (by rw [List.length_set];omega)] at h;cases h
 . rw [List.getElem?_set_ne e] at h;exact .inr ⟨e,h⟩
mutual
noncomputable def nkD:D->Option NK
 | .int n=>some (.i n)
 | .tup ds=>(zlg ds).map .t
 | _=>none
noncomputable def zlg:List D->Option (List NK)
 | []=>some []
 | d::ds=>match nkD d,zlg ds with
  | some k,some ks=>some (k::ks)
  | _,_=>none
end
mutual
theorem zd2 {K:Frag} {H:Hp}:∀{d:D} {k:NK} {x:V},nkD d=some k->RD K H d x->NKr H k x
 | .int n,k,x,e,r=>by
  simp only [nkD,Option.some.injEq] at e;subst e
  cases r.int;simp only [NKr]
 | .tup ds,k,x,e,r=>by
  simp only [nkD,Option.map_eq_some_iff] at e
  obtain ⟨ks,e,rfl⟩:=e
  obtain ⟨a,xs,rfl,ha,ra⟩:=r.tup
  simp only [NKr]
  exact ⟨a,xs,rfl,ha,zgr e ra⟩
 | .non,_,_,e,_=>by simp [nkD] at e
 | .bl _,_,_,e,_=>by simp [nkD] at e
 | .str _,_,_,e,_=>by simp [nkD] at e
 | .lst _,_,_,e,_=>by simp [nkD] at e
 | .dk _ _,_,_,e,_=>by simp [nkD] at e
 | .dt _ _,_,_,e,_=>by simp [nkD] at e
 | .dn _ _,_,_,e,_=>by simp [nkD] at e
 | .scr _,_,_,e,_=>by simp [nkD] at e
 | .exc _,_,_,e,_=>by simp [nkD] at e
theorem zgr {K:Frag} {H:Hp}:∀{ds:List D} {ks:List NK} {xs:List V},zlg ds=some ks->RDs K H ds xs->NKrs H ks xs
 | [],ks,xs,e,r=>by
  simp only [zlg,Option.some.injEq] at e;subst e
  simp only [RDs] at r;subst r;simp only [NKrs]
 | d::ds,ks,xs,e,r=>by
  simp only [RDs] at r
  obtain ⟨x,r,rfl,r1,r2⟩:=r
  simp only [zlg] at e
  split at e
  . rename_i k ks' e1 e2
    cases e
    simp only [NKrs]
    exact ⟨x,_,rfl,zd2 e1 r1,zgr e2 r2⟩
  . cases e
end
noncomputable def putQ (qs:List (NK×Addr)) (k:NK) (b:Addr):List (NK×Addr):=if k∈qs.map (·.1) then qs else qs++[(k,b)]
noncomputable def z3 (qs:List (NK×Addr)) (vs:List Value):List (NK×Addr×Value):=(qs.zip vs).map fun q=>(q.1.1,q.1.2,q.2)
theorem zgs:∀(qs:List (NK×Addr)) (vs:List Value),qs.length=vs.length->(z3 qs vs).map (·.1)=qs.map (·.1)
 | [],_,_=>rfl
 | q::qs,[],h=>by simp at h
 | q::qs,v::vs,h=>by
  have:=zgs qs vs (by simpa using h)
  simp only [z3,List.zip_cons_cons,List.map_cons] at this ⊢
  rw [this]
theorem zlh (qs:List (NK×Addr)) (vs:List Value) (h:qs.length=vs.length):(z3 qs vs).length=qs.length:=by
 simp only [z3,List.length_map,List.length_zip];omega
theorem zgt {α:Type} (xs:List (NK×Addr×α)) (k:NK):((xs.find? fun x=>decide (x.1=k)).map (·.2)).isSome=decide (k∈xs.map (·.1)):=by
 rw [Option.isSome_map,Bool.eq_iff_iff,List.find?_isSome,decide_eq_true_eq,List.mem_map]
 constructor
 . rintro ⟨x,hx,e⟩;exact ⟨x,hx,by simpa using e⟩
 . rintro ⟨x,hx,e⟩;exact ⟨x,hx,by simpa using e⟩
theorem zsu (qs:List (NK×Addr)) (vs:List Value) (h:qs.length=vs.length) (k:NK) (b:Addr) (u:Value):storedH (z3 qs vs) k b u=z3 (putQ qs k b) (ze9 (qs.map (·.1)) vs k u)/\(putQ qs k b).length=(ze9 (qs.map (·.1)) vs k u).length:=by
 unfold storedH putQ ze9
 have e:=zgt (z3 qs vs) k
 rw [zgs qs vs h] at e
 rw [show (atKey (z3 qs vs) k).isSome=decide (k∈qs.map (·.1)) from e]
 by_cases hk:k∈qs.map (·.1)
 . rw [if_pos (decide_eq_true hk),if_pos hk,if_pos hk]
   have go:∀(qs:List (NK×Addr)) (vs:List Value),qs.length=vs.length->(z3 qs vs).map (putAt k u)=z3 qs (List.zipWith (fun k' d'=>if k'=k then u else d') (qs.map (·.1)) vs)/\qs.length=(List.zipWith (fun k' d'=>if k'=k then u else d') (qs.map (·.1)) vs).length:=by
    intro qs
    induction qs with
    | nil=>intro vs _;exact ⟨rfl,rfl⟩
    | cons q qs ih=>
     intro vs h
     cases vs with
     | nil=>simp at h
     | cons v vs=>
      obtain ⟨i1,i2⟩:=ih vs (by simpa using h)
      simp only [z3,List.zip_cons_cons,List.map_cons,List.zipWith_cons_cons,List.length_cons] at i1 i2 ⊢
      refine ⟨?_,by omega⟩
      rw [i1]
      congr 1
      unfold putAt
      by_cases z:q.1=k
      . simp only [if_pos z]
      . simp only [if_neg z]
   exact go qs vs h
 . rw [if_neg (by simpa using hk),if_neg hk,if_neg hk]
   refine ⟨?_,by simp;omega⟩
   unfold z3
   rw [List.zip_append h,List.map_append];rfl
section
variable {X:Cx} {pins:List (Addr×Obj)} {U:St} {H:Hp} {s:Shared}
theorem zgu {ks:List NK} {k:NK} {v:V} {u:Value} (ru:RelV v u) {xs:List V} {vs:List Value} (r:Vals xs vs):Vals (ze9 ks xs k v) (ze9 ks vs k u):=by
 unfold ze9
 split
 . have go:∀(ks:List NK) (xs:List V) (vs:List Value),Vals xs vs->Vals (List.zipWith (fun k' d'=>if k'=k then v else d') ks xs) (List.zipWith (fun k' d'=>if k'=k then u else d') ks vs):=by
    intro ks
    induction ks with
    | nil=>intro xs vs _;exact .nil
    | cons k' ks ih=>
     intro xs vs r
     cases r with
     | nil=>exact .nil
     | cons a1 a2=>
      simp only [List.zipWith_cons_cons]
      refine .cons ?_ (ih _ _ a2)
      split
      . exact ru
      . exact a1
   exact go ks xs vs r
 . exact r.append (.cons ru .nil)
theorem zbv (I:Inv X pins U H s) {a:Addr} {qs:List (NK×Addr)} {xs:List V} {ob:Obj} (e:H a=some (.ext (dnP a qs xs ob))) (n:DN H a qs):s.heap.get? a=some ob/\∃vs,Vals xs vs/\qs.length=vs.length/\Heap.DictOfH (deepKind X.prog X.w) s.heap a (z3 qs vs):=by
 obtain ⟨p,_,_⟩:=(show ObjOk X.prog X.w H s.heap a (.ext (dnP a qs xs ob)) from I.hok a _ e)
 obtain ⟨p3,vs,es,ep,p1,p2,p4,p5,p6⟩:=p
 refine ⟨p3,vs,p1,p2,ob,es,ep,p3,p4,p5,p6,fun x hx=>?_,by rw [zgs qs vs p2];exact n.1⟩
 obtain ⟨q,hq,rfl⟩:=List.mem_map.mp hx
 have hq':=(List.of_mem_zip hq).1
 exact ⟨zfz I (n.2.1 _ hq').1 rfl,(n.2.1 _ hq').2⟩
end
noncomputable def zsv:zp7:=fun o i v H Q=>∃(a:Addr) (qs:List (NK×Addr)) (xs:List V) (k:NK) (b:Addr) (ob:Obj),o=.ref a/\i=.ref b/\H a=some (.ext (dnP a qs xs ob))/\DN H a qs/\NKr H k (.ref b)/\k.dep<=8/\qs.length<sizeLine/\∀ob',Q (upd H a (.ext (dnP a (putQ qs k b) (ze9 (qs.map (·.1)) xs k v) ob')))
theorem zsw {X:Cx} (hu:X.A.units+64<cLine):zxn X zsv:=by
 intro pins s U H o i v ov iv u Q I ro ri rv h
 obtain ⟨a,qs,xs,k,b,ob,rfl,rfl,e,n,hk,hd,hl,q⟩:=h
 cases ro;cases ri
 obtain ⟨_,vs,p1,p2,dd⟩:=zbv I e n
 have hz:(z3 qs vs).length<=sizeLine:=by rw [zlh qs vs p2];omega
 refine wpAny_setItem_heap (knd:=deepKind X.prog X.w) (hsz:=hz) (by show X.A.units+1+8<cLine;omega) ⟨zfz I hk rfl,hd⟩ dd fun h' dd' hs=>?_
 obtain ⟨e1,e2⟩:=zsu qs vs p2 k b u
 rw [e1] at dd'
 obtain ⟨o',es,ep,d1,d2,d3,d4,_⟩:=dd'
 refine ⟨_,?_,q o'⟩
 exact zmj I (by rw [e];exact True.intro) hs ⟨o',d1⟩ ⟨⟨d1,_,es,ep,zgu rv p1,e2,d2,d3,d4⟩,⟨o',d1⟩,dnP.stay⟩
noncomputable def dSetN:D->D->D->Option D
 | .dn ks ds,.tup es,v=>match nkD (.tup es) with
  | some k=>if ks.length<100000/\k.dep<=8 then some (.dn (zj3 ks k) (ze9 ks ds k v)) else none
  | none=>none
 | _,_,_=>none
theorem zgv {K:Frag}:zy2 K dSetN zsv:=by
 intro H0 H a d d' dk dv y v Q s h0 ob rk rv hm k
 cases d<;>simp only [dSetN] at hm<;>first | cases hm | skip
 cases dk<;>simp only [dSetN] at hm<;>first | cases hm | skip
 rename_i ks ds es
 split at hm
 . rename_i kk hkk
   split at hm
   . rename_i hl
     cases hm
     simp only [OB] at ob
     obtain ⟨qs,xs,ob0,hx,hk,n,rx⟩:=ob
     have rk':=rk
     obtain ⟨b,ys,rfl,hb,rb⟩:=rk.tup
     have nk:=zd2 hkk rk'
     have hlen:qs.length=ks.length:=by rw [<-hk,List.length_map]
     have mono:∀a ys,H0 a=some (.tup ys)->H a=some (.tup ys):=fun c ys q=>s _ _ q
     refine ⟨a,qs,xs,kk,b,ob0,rfl,rfl,hx,n.tk mono,NKr.mono mono nk,hl.2,by rw [hlen];exact z54 hl.1,fun ob'=>k _ ?_⟩
     simp only [OB]
     refine ⟨_,_,ob',z0w,?_,?_,by rw [hk];exact zmx kk rv rx⟩
     . unfold putQ zj3
       rw [hk]
       split
       . exact hk
       . rw [List.map_append,hk];rfl
     . obtain ⟨n1,n2,n3,n4⟩:=n
       unfold putQ
       split
       . exact ⟨n1,n2,n3,n4⟩
       . rename_i hn
         refine ⟨?_,fun q hq=>?_,n3,?_⟩
         . rw [List.map_append,List.map_cons,List.map_nil]
           exact List.nodup_append.mpr ⟨n1,by simp,fun x hx y hy e=>hn (by rw [List.mem_singleton.mp hy] at e;have e':x=kk:=e;rw [<-e'];exact hx)⟩
         . rcases List.mem_append.mp hq with z | z
           . exact n2 q z
           . rw [List.mem_singleton.mp z];exact ⟨nk,hl.2⟩
         . have:=z54 hl.1
           rw [List.length_append,List.length_singleton];omega
   . cases hm
 . cases hm
section
variable {X:Cx} {EX:XW} {fr:Bool} {m:List Bool} {pos:Pos} {e:Expr} {fk fv:DE->R D}
theorem zd3 {i:Nat} {o ix:Expr} {tpos:Pos} (hu:X.A.units+64<cLine) (ho:PE X o (zew i)) (hk:QE X EX false ix fk) (hv:QE X EX false e fv)
 (ha:∀v,assign (.Subscript o ix tpos) X.env v=(do
  let ov <-holding [v] (eval o X.env)
  let iv <-holding [v,ov] (eval ix X.env)
  standAt tpos
  holding [v,ov,iv] (setItem ov iv v)
  release [v,ov,iv] []):=by intro _;rfl) (hs:swapsWithSole [.Subscript o ix tpos] e pos.line X.env=pure false:=by rfl) (hw:swappedStores [.Subscript o ix tpos] e X.env=pure none:=by rfl)
 (h1:(assignEach [.Subscript o ix tpos] X.env).map (·.2)=[assign (.Subscript o ix tpos) X.env]:=by rfl):QS X EX fr (.Assign [.Subscript o ix tpos] e pos) (zig dSetN i m fk fv):=⟨(zkg hv.h (zkf ho hk.h (zsw hu) ha) hs hw h1).imp fun _ _ _ q=>zqm zgv q⟩
noncomputable def zbw:DE->R D:=fun _=>.ok (.dn [] [])
theorem pe_dnewN:PE X (.Dict [] [] pos) (fun _ H Q=>∀p ob,H p=none->(p==sysModules)=false->Q (.ref p) (upd H p (.ext (dnP p [] [] ob)))):=fun pins s U H Q I h=>
 wpAny_Dict_empty ⟨.ref s.heap.objs.size,_,I.laid (a:=s.heap.objs.size) (o:=.ext (dnP s.heap.objs.size [] [] { cls:=.type "dict",data:=.dict #[] })) (t':=s.toks) (fun _ _ q=>Heap.get?_push_of_some _ q) (Nat.le_refl _) ⟨⟨Heap.get?_push_size _ rfl,[],#[],0,.nil,rfl,⟨rfl,rfl,rfl⟩,rfl,rfl⟩,⟨_,Heap.get?_push_size _ rfl⟩,dnP.stay⟩,rfl,h _ _ (I.hok.fresh (Nat.le_refl _)) (beq_eq_false_iff_ne.mpr (Ne.symm (Nat.ne_of_lt I.big)))⟩
theorem zgw:QE X EX true (.Dict [] [] pos) zbw:=⟨pe_dnewN.imp fun U H Q ⟨sx,ρ,H0,s,e,h⟩ p ob hp hq=>h _ _ (.new s hp fun H' hH=>by simp only [OB];exact ⟨[],[],ob,hH,rfl,⟨List.nodup_nil,fun q hq=>(by simp at hq),hq,Nat.zero_le _⟩,.nil⟩)⟩
end
def zbx (i j:Int):Prop:=Builtin.Int.intBits i<=2 ^ 20/\Builtin.Int.intBits j<=2 ^ 20
instance (i j:Int):Decidable (zbx i j):=by unfold zbx;infer_instance
noncomputable def zby:D->D->Option D:=dIC zbx fun i j=>.int (i * j)
theorem zgx {K:Frag}:OpD K false zby (cIC zbx fun i j=>.int (i * j)):=zbe fun _ _ _=>.mkInt _
theorem op_mulG {X:Cx}:OpR X (binaryOp .Mult) (rI zbx fun i j=>.int (i * j)):=opI fun _ _ _ _ _ _ _ hc q=>mul_int q (IntMulOk.of_bits hc.1 hc.2)
theorem zli {X:Cx}:OpR X (binaryOp .Mult) (cIC zbx fun i j=>.int (i * j)):=op_mulG.cIC
theorem zsx {i j:Int} (hi:Builtin.Int.intBits i<=2 ^ 20) (hj:Builtin.Int.intBits j<=2 ^ 20):zby (.int i) (.int j)=some (.int (i * j)):=by
 unfold zby;rw [z6w,if_pos (show zbx i j from ⟨hi,hj⟩)]
section
open PySem.SeqAt
open PySem.AutoSeq1 (wpAny_loadPart')
open PySem.MeetsSeq PySem.MeetsSeq2 PySem.MeetsSeq3
end
end L2
namespace L2
open PySem PySem.Spec PyProof.Rows
noncomputable def z43 (es:Array DictEntry) (ep:Nat):Obj:={ cls:=.type "dict",data:=.dict es ep }
section
open PySem.SeqAt
open PySem.AutoSeq1 (wpAny_loadPart')
end
mutual
noncomputable def z58:NK->D
 | .i n=>.int n
 | .t ks=>.tup (z63 ks)
noncomputable def z63:List NK->List D
 | []=>[]
 | k::ks=>z58 k::z63 ks
end
mutual
theorem zsy {K:Frag} {H:Hp}:∀{k:NK} {x:V},NKr H k x->RD K H (z58 k) x
 | .i n,x,h=>by simp only [NKr] at h;subst h;simp only [z58,RD]
 | .t ks,x,h=>by
  simp only [NKr] at h
  obtain ⟨a,xs,rfl,ha,hs⟩:=h
  simp only [z58,RD]
  exact ⟨a,xs,rfl,ha,zlj hs⟩
theorem zlj {K:Frag} {H:Hp}:∀{ks:List NK} {xs:List V},NKrs H ks xs->RDs K H (z63 ks) xs
 | [],xs,h=>by simp only [NKrs] at h;subst h;simp only [z63,RDs]
 | k::ks,xs,h=>by
  simp only [NKrs] at h
  obtain ⟨x,r,rfl,h1,h2⟩:=h
  simp only [z63,RDs]
  exact ⟨x,r,rfl,zsy h1,zlj h2⟩
end
end L2
namespace L2
open PySem PySem.Spec PyProof.Rows
noncomputable def z6z (TI TO:Addr) (f0:Value):Obj:={ cls:=.type "zip",data:=.fields #[f0,.bool false,.bool false,.ref TI,.ref TO] }
noncomputable def z0h (a b:Value):Obj:={ cls:=.type "tuple",data:=.seq #[a,b] }
noncomputable def z0a (l:Addr) (i:Nat):Obj:={ cls:=.type "tuple_iterator",data:=.fields #[.ref l,.int i 0] }
abbrev up1 (i:Nat):Obj->Obj:=Obj.mapFields (·.setIfInBounds 1 (rawInt ((i:Int)+1)))
def zgy (i:Addr) (x:Value) (f:Obj->Obj) (A:Around) (s:Shared):Prop:=∀(prog:Program) (w:World) (E:Value->Shared->Prop) (Q:Value->Shared->Prop),Q x { s with heap:=s.heap.update i f }->wpAny (model prog w) A (Builtin.SmallTypes.nextOf (.ref i)) Q E s
def zo2 (i:Addr) (A:Around) (s:Shared):Prop:=∀(prog:Program) (w:World) (E:Value->Shared->Prop) (Q:Value->Shared->Prop),
 (∀h' e,(∀c o,c≠i->s.heap.get? c=some o->h'.get? c=some o)->(∃o,h'.get? e=some o/\o.cls=.type "StopIteration")->E (.ref e) { s with heap:=h' })->wpAny (model prog w) A (Builtin.SmallTypes.nextOf (.ref i)) Q E s
section
open PySem.SeqAt
open PySem.AutoSeq1 (wpAny_loadPart')
theorem zgz (it l:Addr) (items:Array Value) (i n:Nat) (dd:Option Addr) (sl:Array (Option Value)) (x:Value) (hx:items[i]?=some x) :
  Meets (Builtin.«tuple_iterator.__next__» ⟨[.ref it],[]⟩) (fun _ R s=>s.heap.get? it=some (z0a l i)/\s.heap.get? l=some { cls:=.type "tuple",dict:=dd,data:=.seq items n,slots:=sl }/\R (.ok (.ret x)) { s with heap:=s.heap.update it (up1 i) }):=
 .of_wp fun prog w A R s h=>by
  obtain ⟨hp,g,dr,tk,os⟩:=s;obtain ⟨hl,hd,h⟩:=h
  unfold z0a at hl
  have hat:items[((i:Nat):Int).toNat]?=some x:=by simpa using hx
  wp_walk using wpAny_loadPart' hl,wpAny_loadPart' hd
  rw [hat]
  wp_walk using wpAny_loadPart' hl,wpAny_loadPart' hd
  exact ⟨_,rfl,h⟩
theorem zjl (it l:Addr) (items:Array Value) (i n:Nat) (dd:Option Addr) (sl:Array (Option Value)) (hx:items[i]?=none) :
  Meets (Builtin.«tuple_iterator.__next__» ⟨[.ref it],[]⟩) (fun A R s=>s.heap.get? it=some (z0a l i)/\s.heap.get? l=some { cls:=.type "tuple",dict:=dd,data:=.seq items n,slots:=sl }/\A.in1.handled=none /\
   ∀h' e,(∀c o,c≠it->s.heap.get? c=some o->h'.get? c=some o)->(∃o,h'.get? e=some o/\o.cls=.type "StopIteration")->R (.error (.ref e)) { s with heap:=h' }):=
 .of_wp fun prog w A R s h=>by
  obtain ⟨hp,g,dr,tk,os⟩:=s;obtain ⟨hl,hd,hh,h⟩:=h
  unfold z0a at hl
  have hat:items[((i:Nat):Int).toNat]?=none:=by simpa using hx
  wp_walk using wpAny_loadPart' hl,wpAny_loadPart' hd
  rw [hat]
  wp_walk using wpAny_loadPart' hl,wpAny_loadPart' hd
  unfold raiseNew
  refine wpAny_bind (wpAny_handled ?_)
  rw [hh]
  refine wpAny_bind (wpAny_pure (wpAny_throw (h _ _ (fun c o hc e=>?_) ⟨_,Heap.get?_push_size _ rfl,rfl⟩)))
  refine Heap.get?_push_of_some _ (Heap.get?_push_of_some _ ?_)
  rw [Heap.get?_update_ne _ _ _ _ hc]
  exact e
theorem zai {it l:Addr} {items:Array Value} {i:Nat} {x:Value} {A:Around} {s:Shared} (hit:s.heap.get? it=some (z0a l i)) (hl:s.heap.IsTuple l items) (hx:items[i]?=some x):zgy it x (up1 i) A s:=fun prog w E Q q=>by
 obtain ⟨⟨cl,dd,da,sl⟩,ho,hc,n,hd⟩:=hl
 simp only at hc hd
 subst hc hd
 unfold Builtin.SmallTypes.nextOf
 exact wpAny_bind (wpAny_callSpecial?_slot (name:=Str.ofString "__next__") ⟨_,hit,rfl⟩ F.slot_tuple_iterator_next (call_meets F.slot_tuple_iterator_next ⟨_,hit,rfl⟩ F.entry_tuple_iterator_next (F.args_tuple_iterator_next_1 _) (zgz it l items i n dd sl x hx) ⟨hit,ho,wpAny_pure q⟩))
theorem zjm {it l:Addr} {items:Array Value} {i:Nat} {A:Around} {s:Shared} (hh:A.handled=none) (hit:s.heap.get? it=some (z0a l i)) (hl:s.heap.IsTuple l items) (hx:items[i]?=none):zo2 it A s:=fun prog w E Q q=>by
 obtain ⟨⟨cl,dd,da,sl⟩,ho,hc,n,hd⟩:=hl
 simp only at hc hd
 subst hc hd
 unfold Builtin.SmallTypes.nextOf
 exact wpAny_bind (wpAny_callSpecial?_slot (name:=Str.ofString "__next__") ⟨_,hit,rfl⟩ F.slot_tuple_iterator_next (call_meets F.slot_tuple_iterator_next ⟨_,hit,rfl⟩ F.entry_tuple_iterator_next (F.args_tuple_iterator_next_1 _) (zjl it l items i n dd sl hx) ⟨hit,ho,hh,q⟩))
noncomputable def zH1 (hp:Heap) (z:Addr):Heap:=hp.update z (Obj.mapFields (·.setIfInBounds 0 .ellipsis))
noncomputable def zH4 (hp:Heap) (z TO i1 i2:Addr) (x:Value) (f1 f2:Obj->Obj):Heap:=(((zH1 hp z).update i1 f1).update TO (Obj.mapSeq (·.setIfInBounds 0 x))).update i2 f2
noncomputable def zHF (hp:Heap) (z TO i1 i2:Addr) (x y:Value) (f1 f2:Obj->Obj):Heap:=((((zH4 hp z TO i1 i2 x f1 f2).update TO (Obj.mapSeq (·.setIfInBounds 1 y))).push (z0h x y)).update z (Obj.mapFields (·.setIfInBounds 0 (rawInt hp.objs.size)))).update z (Obj.mapFields (·.setIfInBounds 1 (.bool false)))
def zpf (p:Prop):Prop:=p
theorem zh0 (z TI TO i1 i2:Addr) (a b x y:Value) (f1 f2:Obj->Obj) (n2:TO≠z) (n3:TO≠i1) (n4:TO≠i2) (n5:i1≠z) (n6:i2≠z) :
  Meets (Builtin.«zip.__next__» ⟨[.ref z],[]⟩) (fun A R s=>s.heap.get? z=some (z6z TI TO .none)/\s.heap.get? TI=some (z0h (.ref i1) (.ref i2))/\s.heap.get? TO=some (z0h a b) /\
   zgy i1 x f1 A.in1 { s with heap:=zH1 s.heap z }/\zgy i2 y f2 A.in1 { s with heap:=((zH1 s.heap z).update i1 f1).update TO (Obj.mapSeq (·.setIfInBounds 0 x)) } /\
   R (.ok (.ret (.ref s.heap.objs.size))) { s with heap:=zHF s.heap z TO i1 i2 x y f1 f2 }):=
 .of_wp fun prog w A R s h=>by
  obtain ⟨hp,g,dr,tk,os⟩:=s;obtain ⟨hz,hTI,hTO,g1,g2,h⟩:=h
  unfold z6z at hz
  unfold z0h at hTI hTO
  have g1':=g1 prog w
  have g2':=g2 prog w
  simp only [zH1] at g1' g2'
  have g1s:∀(E:Value->Shared->Prop) (Q:Value->Shared->Prop),zpf (Q x { heap:=(hp.update z (Obj.mapFields (·.setIfInBounds 0 .ellipsis))).update i1 f1,gens:=g,drawn:=dr,toks:=tk,os:=os })->wpAny (model prog w) A.in1 (Builtin.SmallTypes.nextOf (.ref i1)) Q E { heap:=hp.update z (Obj.mapFields (·.setIfInBounds 0 .ellipsis)),gens:=g,drawn:=dr,toks:=tk,os:=os }:=fun E Q h=>g1' E Q h
  wp_walk using wpAny_onRaise,wpAny_loadPart' hz,wpAny_loadPart' hTI,wpAny_loadPart' hTO,(g1s _ _)
  unfold zpf
  have hTO2:((hp.update z (Obj.mapFields (·.setIfInBounds 0 .ellipsis))).update i1 f1).get? TO=some { cls:=.type "tuple",data:=.seq #[a,b] }:=by
   rw [Heap.get?_update_ne _ _ _ _ n3,Heap.get?_update_ne _ _ _ _ n2];exact hTO
  have hTO3:(((hp.update z (Obj.mapFields (·.setIfInBounds 0 .ellipsis))).update i1 f1).update TO (Obj.mapSeq (·.setIfInBounds 0 x))).get? TO=some { cls:=.type "tuple",data:=.seq #[x,b] }:=by
   rw [Heap.get?_update_self _ hTO2 rfl];rfl
  have g2s:∀(E:Value->Shared->Prop) (Q:Value->Shared->Prop),zpf (Q y { heap:=(((hp.update z (Obj.mapFields (·.setIfInBounds 0 .ellipsis))).update i1 f1).update TO (Obj.mapSeq (·.setIfInBounds 0 x))).update i2 f2,gens:=g,drawn:=dr,toks:=tk,os:=os })->wpAny (model prog w) A.in1 (Builtin.SmallTypes.nextOf (.ref i2)) Q E { heap:=((hp.update z (Obj.mapFields (·.setIfInBounds 0 .ellipsis))).update i1 f1).update TO (Obj.mapSeq (·.setIfInBounds 0 x)),gens:=g,drawn:=dr,toks:=tk,os:=os }:=fun E Q h=>g2' E Q h
  wp_walk using wpAny_onRaise,(g2s _ _),wpAny_loadPart' (s:={ heap:=(hp.update z (Obj.mapFields (·.setIfInBounds 0 .ellipsis))).update i1 f1,gens:=g,drawn:=dr,toks:=tk,os:=os }) hTO2,(wpAny_updateSeq (s:={ heap:=(hp.update z (Obj.mapFields (·.setIfInBounds 0 .ellipsis))).update i1 f1,gens:=g,drawn:=dr,toks:=tk,os:=os }) hTO2 rfl)
  unfold zpf
  have e4:zH4 hp z TO i1 i2 x f1 f2=((((hp.update z (Obj.mapFields (·.setIfInBounds 0 .ellipsis))).update i1 f1).update TO (Obj.mapSeq (·.setIfInBounds 0 x))).update i2 f2):=rfl
  unfold zHF at h
  rw [e4] at h
  generalize hH4:((((hp.update z (Obj.mapFields (·.setIfInBounds 0 .ellipsis))).update i1 f1).update TO (Obj.mapSeq (·.setIfInBounds 0 x))).update i2 f2)=H4 at h
  have hTO4:H4.get? TO=some { cls:=.type "tuple",data:=.seq #[x,b] }:=by
   rw [<-hH4,Heap.get?_update_ne _ _ _ _ n4];exact hTO3
  have hTO5:(H4.update TO (Obj.mapSeq (·.setIfInBounds 1 y))).get? TO=some { cls:=.type "tuple",data:=.seq #[x,y] }:=by
   rw [Heap.get?_update_self _ hTO4 rfl];rfl
  have hz5:(H4.update TO (Obj.mapSeq (·.setIfInBounds 1 y))).get? z=some { cls:=.type "zip",data:=.fields #[.ellipsis,.bool false,.bool false,.ref TI,.ref TO] }:=by
   rw [Heap.get?_update_ne _ _ _ _ n2.symm,<-hH4,Heap.get?_update_ne _ _ _ _ n6.symm,Heap.get?_update_ne _ _ _ _ n2.symm,Heap.get?_update_ne _ _ _ _ n5.symm,Heap.get?_update_self _ hz rfl];rfl
  wp_walk using wpAny_loadPart' (s:={ heap:=H4,gens:=g,drawn:=dr,toks:=tk,os:=os }) hTO4,(wpAny_updateSeq (s:={ heap:=H4,gens:=g,drawn:=dr,toks:=tk,os:=os }) hTO4 rfl),wpAny_loadPart' (s:={ heap:=H4.update TO (Obj.mapSeq (·.setIfInBounds 1 y)),gens:=g,drawn:=dr,toks:=tk,os:=os }) hTO5
  have hsz:(H4.update TO (Obj.mapSeq (·.setIfInBounds (0+1) y))).objs.size=hp.objs.size:=by
   rw [Heap.size_update,<-hH4,Heap.size_update,Heap.size_update,Heap.size_update,Heap.size_update]
  refine ⟨_,rfl,?_⟩
  show R (.ok (.ret (.ref (H4.update TO (Obj.mapSeq (·.setIfInBounds (0+1) y))).objs.size))) { heap:=(((H4.update TO (Obj.mapSeq (·.setIfInBounds (0+1) y))).push { cls:=.type "tuple",data:=.seq #[x,y].toList.toArray }).update z (Obj.mapFields (·.setIfInBounds 0 (rawInt ((H4.update TO (Obj.mapSeq (·.setIfInBounds (0+1) y))).objs.size:Nat))))).update z (Obj.mapFields (·.setIfInBounds 1 (.bool false))),gens:=g,drawn:=dr,toks:=tk,os:=os }
  rw [hsz]
  exact h
theorem zjn (z TI TO i1 i2:Addr) (a b:Value) (n5:i1≠z) :
  Meets (Builtin.«zip.__next__» ⟨[.ref z],[]⟩) (fun A R s=>s.heap.get? z=some (z6z TI TO .none)/\s.heap.get? TI=some (z0h (.ref i1) (.ref i2))/\s.heap.get? TO=some (z0h a b) /\
   zo2 i1 A.in1 { s with heap:=zH1 s.heap z }/\∀h' e,(∀c o,c≠z->c≠i1->s.heap.get? c=some o->h'.get? c=some o)->(∃o,h'.get? e=some o/\o.cls=.type "StopIteration")->R (.error (.ref e)) { s with heap:=h' }):=
 .of_wp fun prog w A R s h=>by
  obtain ⟨hp,g,dr,tk,os⟩:=s;obtain ⟨hz,hTI,hTO,g1,h⟩:=h
  unfold z6z at hz
  unfold z0h at hTI hTO
  have g1':=g1 prog w
  simp only [zH1] at g1'
  have g1s:∀(E:Value->Shared->Prop) (Q:Value->Shared->Prop),zpf (∀h' e,(∀c o,c≠i1->(hp.update z (Obj.mapFields (·.setIfInBounds 0 .ellipsis))).get? c=some o->h'.get? c=some o)->(∃o,h'.get? e=some o/\o.cls=.type "StopIteration")->E (.ref e) { heap:=h',gens:=g,drawn:=dr,toks:=tk,os:=os })->wpAny (model prog w) A.in1 (Builtin.SmallTypes.nextOf (.ref i1)) Q E { heap:=hp.update z (Obj.mapFields (·.setIfInBounds 0 .ellipsis)),gens:=g,drawn:=dr,toks:=tk,os:=os }:=fun E Q h=>g1' E Q h
  wp_walk using wpAny_onRaise,wpAny_loadPart' hz,wpAny_loadPart' hTI,wpAny_loadPart' hTO,(g1s _ _)
  unfold zpf
  intro h' e kp he
  obtain ⟨oe,hoe,hce⟩:=he
  have hz':h'.get? z=some { cls:=.type "zip",data:=.fields #[.ellipsis,.bool false,.bool false,.ref TI,.ref TO] }:=kp z _ n5.symm (by rw [Heap.get?_update_self _ hz rfl];rfl)
  have hez:e≠z:=fun q=>by rw [q,hz'] at hoe;cases hoe;simp at hce
  refine wpAny_setField hz' rfl (by simp) (h _ e (fun c o c1 c2 q=>?_) ⟨oe,by rw [Heap.get?_update_ne _ _ _ _ hez];exact hoe,hce⟩)
  rw [Heap.get?_update_ne _ _ _ _ c1]
  exact kp c o c2 (by rw [Heap.get?_update_ne _ _ _ _ c1];exact q)
end
end L2
namespace L2
open PySem PySem.Spec PyProof.Rows
section
variable {hp:Heap} {z TI TO i1 i2 l1 l2:Addr} {a b x y:Value} {k:Nat}
theorem z1r {h:Heap} {c e:Addr} {f:Obj->Obj} (n:c≠e):(h.update e f).get? c=h.get? c:=Heap.get?_update_ne _ _ _ _ n
theorem zwx {H4:Heap} {o1 o2:Obj} (D:ZipApart z TI TO i1 i2 l1 l2) (u1:H4.get? i1=some o1) (u2:H4.get? i2=some o2) (u3:H4.get? TO=some (z0h x b)) (u4:H4.get? z=some (z6z TI TO .ellipsis))
  (u5:∀c o,c≠z->c≠TO->c≠i1->c≠i2->hp.get? c=some o->H4.get? c=some o) (sz:(H4.update TO (Obj.mapSeq (·.setIfInBounds 1 y))).objs.size=hp.objs.size) (nz:hp.objs.size≠z) :
  (((((H4.update TO (Obj.mapSeq (·.setIfInBounds 1 y))).push (z0h x y)).update z (Obj.mapFields (·.setIfInBounds 0 (rawInt hp.objs.size)))).update z (Obj.mapFields (·.setIfInBounds 1 (.bool false)))).get? z=some (z6z TI TO (rawInt hp.objs.size))) /\
  (((((H4.update TO (Obj.mapSeq (·.setIfInBounds 1 y))).push (z0h x y)).update z (Obj.mapFields (·.setIfInBounds 0 (rawInt hp.objs.size)))).update z (Obj.mapFields (·.setIfInBounds 1 (.bool false)))).get? TO=some (z0h x y)) /\
  (((((H4.update TO (Obj.mapSeq (·.setIfInBounds 1 y))).push (z0h x y)).update z (Obj.mapFields (·.setIfInBounds 0 (rawInt hp.objs.size)))).update z (Obj.mapFields (·.setIfInBounds 1 (.bool false)))).get? hp.objs.size=some (z0h x y)) /\
  (((((H4.update TO (Obj.mapSeq (·.setIfInBounds 1 y))).push (z0h x y)).update z (Obj.mapFields (·.setIfInBounds 0 (rawInt hp.objs.size)))).update z (Obj.mapFields (·.setIfInBounds 1 (.bool false)))).get? i1=some o1) /\
  (((((H4.update TO (Obj.mapSeq (·.setIfInBounds 1 y))).push (z0h x y)).update z (Obj.mapFields (·.setIfInBounds 0 (rawInt hp.objs.size)))).update z (Obj.mapFields (·.setIfInBounds 1 (.bool false)))).get? i2=some o2) /\
  ∀c o,c≠z->c≠TO->c≠i1->c≠i2->hp.get? c=some o->((((H4.update TO (Obj.mapSeq (·.setIfInBounds 1 y))).push (z0h x y)).update z (Obj.mapFields (·.setIfInBounds 0 (rawInt hp.objs.size)))).update z (Obj.mapFields (·.setIfInBounds 1 (.bool false)))).get? c=some o:=by
 have t5:(H4.update TO (Obj.mapSeq (·.setIfInBounds 1 y))).get? TO=some (z0h x y):=by rw [Heap.get?_update_self _ u3 rfl];rfl
 have z5:(H4.update TO (Obj.mapSeq (·.setIfInBounds 1 y))).get? z=some (z6z TI TO .ellipsis):=by rw [z1r D.TOz.symm];exact u4
 have a5:(H4.update TO (Obj.mapSeq (·.setIfInBounds 1 y))).get? i1=some o1:=by rw [z1r D.TOi1.symm];exact u1
 have b5:(H4.update TO (Obj.mapSeq (·.setIfInBounds 1 y))).get? i2=some o2:=by rw [z1r D.TOi2.symm];exact u2
 have c5:∀c o,c≠z->c≠TO->c≠i1->c≠i2->hp.get? c=some o->(H4.update TO (Obj.mapSeq (·.setIfInBounds 1 y))).get? c=some o:=fun c o c1 c2 c3 c4 e=>by rw [z1r c2];exact u5 c o c1 c2 c3 c4 e
 generalize H4.update TO (Obj.mapSeq (·.setIfInBounds 1 y))=H5 at *
 have z6:(H5.push (z0h x y)).get? z=some (z6z TI TO .ellipsis):=Heap.get?_push_of_some _ z5
 have z7:((H5.push (z0h x y)).update z (Obj.mapFields (·.setIfInBounds 0 (rawInt hp.objs.size)))).get? z=some (z6z TI TO (rawInt hp.objs.size)):=by rw [Heap.get?_update_self _ z6 rfl];rfl
 have two:∀{c:Addr},c≠z->(((H5.push (z0h x y)).update z (Obj.mapFields (·.setIfInBounds 0 (rawInt hp.objs.size)))).update z (Obj.mapFields (·.setIfInBounds 1 (.bool false)))).get? c=(H5.push (z0h x y)).get? c:=fun n=>by rw [z1r n,z1r n]
 refine ⟨?_,?_,?_,?_,?_,fun c o c1 c2 c3 c4 e=>?_⟩
 . rw [Heap.get?_update_self _ z7 rfl];rfl
 . rw [two D.TOz];exact Heap.get?_push_of_some _ t5
 . rw [two nz,<-sz];exact Heap.get?_push_size _ rfl
 . rw [two D.i1z];exact Heap.get?_push_of_some _ a5
 . rw [two D.i2z];exact Heap.get?_push_of_some _ b5
 . rw [two c1];exact Heap.get?_push_of_some _ (c5 c o c1 c2 c3 c4 e)
end
noncomputable def zN (h:Heap) (os:List Obj):Heap:=os.foldl Heap.push h
theorem zh1:∀(os:List Obj) (h:Heap),(zN h os).objs.size=h.objs.size+os.length
 | [],h=>rfl
 | o::os,h=>by
  show (zN (h.push o) os).objs.size=_
  rw [zh1 os,Heap.size_push,List.length_cons];omega
theorem zbz:∀(os:List Obj) {h:Heap} {c:Addr} {o:Obj},h.get? c=some o->(zN h os).get? c=some o
 | [],_,_,_,e=>e
 | o::os,h,c,u,e=>zbz os (h:=h.push o) (Heap.get?_push_of_some _ e)
theorem zh2 (os:List Obj) (o:Obj) (rest:List Obj) (h:Heap) (hf:o.isFreed=false):(zN h (os++o::rest)).get? (h.objs.size+os.length)=some o:=by
 have e:zN h (os++o::rest)=zN ((zN h os).push o) rest:=by unfold zN;rw [List.foldl_append];rfl
 rw [e,<-zh1]
 exact zbz rest (Heap.get?_push_size _ hf)
section
open PySem.SeqAt
open PySem.AutoSeq1 (wpAny_loadPart')
end
end L2
namespace L2
open PySem PySem.Spec PyProof.Rows
section
open PySem.SeqAt
open PySem.AutoSeq1 (wpAny_loadPart')
end
section
open PySem.SeqAt
open PySem.AutoSeq1 (wpAny_loadPart')
end
end L2
namespace L2
open PySem PySem.Spec PyProof.Rows
def zwy (i j:Int):Prop:=0<j/\j.natAbs<2 ^ 9000
noncomputable instance (i j:Int):Decidable (zwy i j):=Classical.propDecidable _
noncomputable def z2p (d:Addr):Obj:={ cls:=.type "dict_items",data:=.fields #[.ref d] }
noncomputable def z15 (f0:Value) (d:Addr) (i n ep:Nat) (ok ov:Value):Obj:={ cls:=.type "dict_itemiterator",data:=.fields #[f0,.bool false,.ref d,.int i 0,.int n 0,.int ep 0,ok,ov] }
noncomputable def itH (hp:Heap) (it:Addr) (i:Nat) (k v:Value):Heap:=
 (((((hp.update it (Obj.mapFields (·.setIfInBounds (2+1) (rawInt ((i:Int)+1))))).push (z0h k v)).update it (Obj.mapFields (·.setIfInBounds 6 k))).update it (Obj.mapFields (·.setIfInBounds (6+1) v))).update it (Obj.mapFields (·.setIfInBounds 0 (rawInt hp.objs.size)))).update it (Obj.mapFields (·.setIfInBounds 1 (.bool false)))
theorem zsz {hp:Heap} {it d:Addr} {i n ep:Nat} {ok ov k v:Value} (hl:hp.get? it=some (z15 .none d i n ep ok ov)) :
  (itH hp it i k v).get? it=some (z15 (rawInt hp.objs.size) d (i+1) n ep k v)/\(itH hp it i k v).get? hp.objs.size=some (z0h k v)/\∀c o,c≠it->hp.get? c=some o->(itH hp it i k v).get? c=some o:=by
 have e1:(hp.update it (Obj.mapFields (·.setIfInBounds (2+1) (rawInt ((i:Int)+1))))).get? it=some (z15 .none d (i+1) n ep ok ov):=by
  rw [Heap.get?_update_self _ hl rfl]
  simp [z15,Obj.mapFields,rawInt]
 have s1:(hp.update it (Obj.mapFields (·.setIfInBounds (2+1) (rawInt ((i:Int)+1))))).objs.size=hp.objs.size:=Heap.size_update ..
 have k1:∀c o,c≠it->hp.get? c=some o->(hp.update it (Obj.mapFields (·.setIfInBounds (2+1) (rawInt ((i:Int)+1))))).get? c=some o:=fun c o n e=>by rw [z1r n];exact e
 have ne:hp.objs.size≠it:=Nat.ne_of_gt (Heap.lt_size hl)
 unfold itH
 generalize hp.update it (Obj.mapFields (·.setIfInBounds (2+1) (rawInt ((i:Int)+1))))=H1 at *
 have e2:(H1.push (z0h k v)).get? it=some (z15 .none d (i+1) n ep ok ov):=Heap.get?_push_of_some _ e1
 have t2:(H1.push (z0h k v)).get? hp.objs.size=some (z0h k v):=by rw [<-s1];exact Heap.get?_push_size _ rfl
 have e3:((H1.push (z0h k v)).update it (Obj.mapFields (·.setIfInBounds 6 k))).get? it=some (z15 .none d (i+1) n ep k ov):=by rw [Heap.get?_update_self _ e2 rfl];rfl
 have e4:(((H1.push (z0h k v)).update it (Obj.mapFields (·.setIfInBounds 6 k))).update it (Obj.mapFields (·.setIfInBounds (6+1) v))).get? it=some (z15 .none d (i+1) n ep k v):=by rw [Heap.get?_update_self _ e3 rfl];rfl
 have e5:((((H1.push (z0h k v)).update it (Obj.mapFields (·.setIfInBounds 6 k))).update it (Obj.mapFields (·.setIfInBounds (6+1) v))).update it (Obj.mapFields (·.setIfInBounds 0 (rawInt hp.objs.size)))).get? it=some (z15 (rawInt hp.objs.size) d (i+1) n ep k v):=by rw [Heap.get?_update_self _ e4 rfl];rfl
 refine ⟨by rw [Heap.get?_update_self _ e5 rfl];rfl,by rw [z1r ne,z1r ne,z1r ne,z1r ne];exact t2,fun c o n e=>?_⟩
 rw [z1r n,z1r n,z1r n,z1r n]
 exact Heap.get?_push_of_some _ (k1 c o n e)
section
open PySem.SeqAt
open PySem.AutoSeq1 (wpAny_loadPart')
theorem zo3 (d:Addr) (es:Array DictEntry) (ep:Nat) (hd:(d==sysModules)=false) :
  Meets (Builtin.«dict.items» ⟨[.ref d],[]⟩) (fun _ R s=>s.heap.get? d=some (z43 es ep)/\R (.ok (.ret (.ref s.heap.objs.size))) { s with heap:=s.heap.push (z2p d) }):=
 .of_wp fun prog w A R s h=>by
  obtain ⟨hp,g,dr,tk,os⟩:=s;obtain ⟨hl,h⟩:=h
  unfold z43 at hl
  wp_walk using wpAny_loadPart' hl
  exact ⟨_,rfl,h⟩
theorem zjo (v d:Addr) (es:Array DictEntry) (ep:Nat) :
  Meets (Builtin.«dict_items.__iter__» ⟨[.ref v],[]⟩) (fun _ R s=>s.heap.get? v=some (z2p d)/\s.heap.get? d=some (z43 es ep)/\R (.ok (.ret (.ref s.heap.objs.size))) { s with heap:=s.heap.push (z15 .none d 0 es.size ep .none .none) }):=
 .of_wp fun prog w A R s h=>by
  obtain ⟨hp,g,dr,tk,os⟩:=s;obtain ⟨hl,hd,h⟩:=h
  unfold z43 at hd
  unfold z2p at hl
  wp_walk using wpAny_loadPart' hl,wpAny_loadPart' hd
  exact ⟨_,rfl,h⟩
theorem zjp (it d:Addr) (es:Array DictEntry) (ep i:Nat) (ok ov:Value) (hi:i<es.size) :
  Meets (Builtin.«dict_itemiterator.__next__» ⟨[.ref it],[]⟩) (fun _ R s=>s.heap.get? it=some (z15 .none d i es.size ep ok ov)/\s.heap.get? d=some (z43 es ep) /\
   R (.ok (.ret (.ref s.heap.objs.size))) { s with heap:=itH s.heap it i es[i].key es[i].val }):=
 .of_wp fun prog w A R s h=>by
  obtain ⟨hp,g,dr,tk,os⟩:=s;obtain ⟨hl,hd,h⟩:=h
  unfold z43 at hd
  unfold z15 at hl
  have hsz:(((es.size:Int) != (es.size:Int))=true)=False:=by simp
  have hep:(((ep:Int) != (ep:Int))=true)=False:=by simp
  have hat:(if (i:Int)<0 then none else es[((i:Nat):Int).toNat]?)=some es[i]:=by rw [if_neg (by omega)];simp [hi]
  wp_walk using wpAny_loadPart' hl,wpAny_loadPart' hd
  rw [hat]
  wp_walk using wpAny_loadPart' hl,wpAny_loadPart' hd
  have hown:Builtin.Dict_items.ownsTuple ((Manifest.find? "dict_itemiterator").elim "dict_itemiterator" fun x=>x.tpName)=true:=by decide +kernel
  refine ⟨_,rfl,?_⟩
  rw [if_pos hown,if_neg (by decide +kernel),Heap.size_update]
  exact h
theorem zo4 (it d:Addr) (es:Array DictEntry) (ep i:Nat) (ok ov:Value) (hi:es.size<=i) :
  Meets (Builtin.«dict_itemiterator.__next__» ⟨[.ref it],[]⟩) (fun A R s=>s.heap.get? it=some (z15 .none d i es.size ep ok ov)/\s.heap.get? d=some (z43 es ep)/\A.in1.handled=none /\
   ∀h' e,(∀c o,c≠it->s.heap.get? c=some o->h'.get? c=some o)->(∃o,h'.get? e=some o/\o.cls=.type "StopIteration")->R (.error (.ref e)) { s with heap:=h' }):=
 .of_wp fun prog w A R s h=>by
  obtain ⟨hp,g,dr,tk,os⟩:=s;obtain ⟨hl,hd,hh,h⟩:=h
  unfold z43 at hd
  unfold z15 at hl
  have hsz:(((es.size:Int) != (es.size:Int))=true)=False:=by simp
  have hep:(((ep:Int) != (ep:Int))=true)=False:=by simp
  have hat:(if (i:Int)<0 then none else es[((i:Nat):Int).toNat]?)=none:=by rw [if_neg (by omega)];simp [hi]
  wp_walk using wpAny_loadPart' hl,wpAny_loadPart' hd
  rw [hat]
  wp_walk using wpAny_loadPart' hl,wpAny_loadPart' hd
  unfold raiseNew
  refine wpAny_bind (wpAny_handled ?_)
  rw [hh]
  refine wpAny_bind (wpAny_pure (wpAny_throw (h _ _ (fun c o hc e=>?_) ⟨_,Heap.get?_push_size _ rfl,rfl⟩)))
  refine Heap.get?_push_of_some _ (Heap.get?_push_of_some _ ?_)
  rw [Heap.get?_update_ne _ _ _ _ hc]
  exact e
end
end L2
namespace L2
open PySem PySem.Spec PyProof.Rows
section
variable {prog:Program} {w:World} {A:Around} {E:Value->Shared->Prop} {s:Shared} {d it v:Addr} {es:Array DictEntry} {ep i:Nat} {ok ov:Value}
theorem zaj:entryFor table "dict_itemiterator.__iter__"=some Builtin.«dict_keyiterator.__iter__»:=entryFor_alias (id':="dict_keyiterator.__iter__") (by kernel_rfl) rfl (by decide +kernel) (by kernel_rfl)
theorem zeg {Q:Value->Shared->Prop} (hit:s.heap.get? it=some (z15 .none d i es.size ep ok ov)) (h:Q (.ref it) s):wpAny (model prog w) A (pyIter (.ref it)) Q E s:=by
 refine wpAny_pyIter_slot ⟨_,hit,rfl⟩ F.slot_dict_itemiterator_iter (wpAny_call_entry F.slot_dict_itemiterator_iter ⟨_,hit,rfl⟩ zaj ?_ (F.args_dict_itemiterator_iter_1 _))
 show wpAny _ _ (ret (.ref it)) _ _ s
 exact wpAny_pure ⟨_,rfl,"dict_itemiterator",_,⟨_,hit,rfl⟩,F.slot_dict_itemiterator_next.lookup,h⟩
theorem zeh {Q:Value->Shared->Prop} (hv:s.heap.get? v=some (z2p d)) (hm:s.heap.get? d=some (z43 es ep)) (hQ:Q (.ref s.heap.objs.size) { s with heap:=s.heap.push (z15 .none d 0 es.size ep .none .none) }) :
  wpAny (model prog w) A (pyIter (.ref v)) Q E s:=
 wpAny_pyIter_slot ⟨_,hv,rfl⟩ F.slot_dict_items_iter (call_meets F.slot_dict_items_iter ⟨_,hv,rfl⟩ F.entry_dict_items_iter (F.args_dict_items_iter_1 _) (zjo v d es ep)
  ⟨hv,hm,⟨"dict_itemiterator",_,⟨_,Heap.get?_push_size _ rfl,rfl⟩,F.slot_dict_itemiterator_next.lookup,hQ⟩⟩)
theorem zei {Q:Option Value->Shared->Prop} (hit:s.heap.get? it=some (z15 .none d i es.size ep ok ov)) (hm:s.heap.get? d=some (z43 es ep)) (hi:i<es.size)
  (hQ:Q (some (.ref s.heap.objs.size)) { s with heap:=itH s.heap it i es[i].key es[i].val }):wpAny (model prog w) A (pyNext (.ref it)) Q E s:=by
 unfold pyNext
 exact wpAny_bind (wpAny_attempt (wpAny_callSpecial?_slot (name:=Str.ofString "__next__") ⟨_,hit,rfl⟩ F.slot_dict_itemiterator_next
  (call_meets F.slot_dict_itemiterator_next ⟨_,hit,rfl⟩ F.entry_dict_itemiterator_next (F.args_dict_itemiterator_next_1 _) (zjp it d es ep i ok ov hi) ⟨hit,hm,wpAny_pure hQ⟩)))
theorem zh3 {Q:Option Value->Shared->Prop} (hh:A.handled=none) (hit:s.heap.get? it=some (z15 .none d i es.size ep ok ov)) (hm:s.heap.get? d=some (z43 es ep)) (hi:es.size<=i)
  (hQ:∀h',(∀c o,c≠it->s.heap.get? c=some o->h'.get? c=some o)->Q none { s with heap:=h' }):wpAny (model prog w) A (pyNext (.ref it)) Q E s:=by
 unfold pyNext
 refine wpAny_bind (wpAny_attempt (wpAny_callSpecial?_slot (name:=Str.ofString "__next__") ⟨_,hit,rfl⟩ F.slot_dict_itemiterator_next
  (call_meets F.slot_dict_itemiterator_next ⟨_,hit,rfl⟩ F.entry_dict_itemiterator_next (F.args_dict_itemiterator_next_1 _) (zo4 it d es ep i ok ov hi) ⟨hit,hm,hh,fun h' e kp he=>?_⟩)))
 obtain ⟨o,ho,hc⟩:=he
 exact wpAny_bind (wpAny_isInstance (T:="StopIteration") (b:=true) ⟨o,ho,hc⟩ isSubtype_stop (wpAny_pure (hQ h' kp)))
end
theorem zd4 {X:Cx} {pins:List (Addr×Obj)} {U:St} {H:Hp} {s:Shared} (I:Inv X pins U H s) {a:Addr} {qs:List (NK×Addr)} {xs:List V} {ob:Obj} (e:H a=some (.ext (dnP a qs xs ob))) (n:DN H a qs) :
  ∃vs es ep,ob=z43 es ep/\s.heap.get? a=some (z43 es ep)/\Vals xs vs/\qs.length=vs.length/\es.toList=(z3 qs vs).map dnE:=by
 obtain ⟨g0,vs,p1,p2,o,es,ep,d1,d2,d3,d4,_⟩:=zbv I e n
 rw [g0] at d1;cases d1
 have eo:ob=z43 es ep:=by
  obtain ⟨cl,di,da,sl⟩:=ob
  obtain ⟨q1,q2,q3⟩:=d2
  simp only at q1 q2 q3 d3
  subst q1 q2 q3 d3
  rfl
 exact ⟨vs,es,ep,eo,by rw [g0,eo],p1,p2,d4⟩
theorem zd5 {es es':Array DictEntry} {ep ep':Nat} (h:z43 es ep=z43 es' ep'):es=es'/\ep=ep':=by
 unfold z43 at h
 injection h with _ _ h
 injection h with h1 h2
 exact ⟨h1,h2⟩
theorem zej {P:Program} {w:World} {K:Frag} {elts:List Expr} {k:Nat} {pos:Pos} {it d:Addr} {qs:List (NK×Addr)} {ys:List V} {es:Array DictEntry} {ep:Nat} (hl:qs.length=ys.length) (hes:es.size=qs.length) :
  Turn P w K (.Tuple elts k pos) (ItP (fun H=>H d=some (.ext (dnP d qs ys (z43 es ep)))/\DN H d qs) ((qs.map fun q=>V.ref q.2).zip ys)) [it] it
   (fun i h=>∃ok ov,h.get? it=some (z15 .none d i es.size ep ok ov)) where
 mem:=by simp
 obj:=fun i h ⟨ok,ov,hz⟩ c hc=>by
  have hc':c=it:=by simpa using hc
  subst hc';exact ⟨_,hz,fun v e=>by cases e⟩
 keep:=fun i h h' ⟨ok,ov,hz⟩ kp=>⟨ok,ov,kp it (by simp) _ hz⟩
 item:=by
  intro X hP hw hK hc i pins s U H E I hf st hg
  subst hP hw hK
  obtain ⟨⟨hS,n⟩,hlt⟩:=hg
  obtain ⟨ok,ov,hz⟩:=st
  obtain ⟨vs,es',ep',eo,ed,p1,p2,d4⟩:=zd4 I hS n
  obtain ⟨rfl,rfl⟩:=zd5 eo
  rw [List.length_zip,List.length_map] at hlt
  have hi:i<es.size:=by omega
  have hiq:i<qs.length:=by omega
  obtain ⟨y,ey⟩:∃y,ys[i]?=some y:=⟨ys[i]'(by omega),by simp⟩
  obtain ⟨u,hu,ru⟩:=p1.get ey
  have hz3:(z3 qs vs)[i]?=some (qs[i].1,qs[i].2,u):=by
   unfold z3
   have hzz:(qs.zip vs)[i]?=some (qs[i],u):=List.getElem?_zip_eq_some.mpr ⟨List.getElem?_eq_getElem hiq,hu⟩
   rw [List.getElem?_map,hzz];rfl
  have he:es[i]=dnE (qs[i].1,qs[i].2,u):=by
   have h1:es.toList[i]?=some (dnE (qs[i].1,qs[i].2,u)):=by rw [d4,List.getElem?_map,hz3];rfl
   rw [Array.getElem?_toList,Array.getElem?_eq_getElem hi] at h1
   exact Option.some.inj h1
  obtain ⟨f1,f2,f3⟩:=zsz (k:=es[i].key) (v:=es[i].val) hz
  refine zei hz ed hi ⟨.ref s.heap.objs.size,rfl,?_⟩
  generalize itH s.heap it i es[i].key es[i].val=HF at f1 f2 f3
  rw [he] at f1 f2
  refine wpAny_letOwnedTupleGo_items f1 fun h' hz' hs'=>?_
  have nT:s.heap.objs.size≠it:=Nat.ne_of_gt (Heap.lt_size hz)
  have up:∀{c o},c≠it->HF.get? c=some o->h'.get? c=some o:=fun n e=>hs'.extBut _ _ n e
  have ht:h'.IsTuple s.heap.objs.size ([Value.ref qs[i].2,u]:List Value).toArray:=⟨_,up nT f2,rfl,_,rfl⟩
  have sub:∀c∈[it],z9p X pins H c:=hf
  have I2:=I.turnedT (tk:=s.toks) (h':=h') (xs:=[V.ref qs[i].2,y]) (its:=[Value.ref qs[i].2,u]) sub (fun c o hcw e=>by
   have hc':c≠it:=by simpa using hcw
   exact up hc' (f3 c o hc' e)) (Nat.le_refl _) ht (.cons rfl (.cons ru .nil)) zfq
  have HT:H s.heap.objs.size=none:=I.hok.fresh (Nat.le_refl _)
  refine ⟨.ref s.heap.objs.size,upd H s.heap.objs.size (.tup [V.ref qs[i].2,y]),I2,rfl,⟨s.heap.objs.size,_,_,rfl,HT,rfl,?_⟩,⟨_,_,hz'⟩,fun c hc'=>?_⟩
  . rw [List.getElem?_zip_eq_some]
    exact ⟨by rw [List.getElem?_map,List.getElem?_eq_getElem hiq];rfl,ey⟩
  . rw [z0d]
    . exact (hf c hc').1
    . intro e
      have hc'':c=it:=by simpa using hc'
      rw [hc''] at e
      exact nT e.symm
 done:=by
  intro X hP hw hK hc i pins s U H E I hf st hg
  subst hP hw hK
  obtain ⟨⟨hS,n⟩,hle⟩:=hg
  obtain ⟨ok,ov,hz⟩:=st
  obtain ⟨vs,es',ep',eo,ed,p1,p2,d4⟩:=zd4 I hS n
  obtain ⟨rfl,rfl⟩:=zd5 eo
  rw [List.length_zip,List.length_map] at hle
  refine zh3 (I.ok.hd hc) hz ed (by omega) fun h' kp=>⟨rfl,?_⟩
  exact I.turnedN (tk:=s.toks) (wr:=[it]) hf fun c o hcw e=>kp c o (by simpa using hcw) e
 self:=fun A i s Q E ⟨ok,ov,st⟩ h=>zeg st h
noncomputable def zt0 (td:TE):TI:=fun U H R=>td U H fun x H1=>∃(a:Addr) (qs:List (NK×Addr)) (ys:List V) (ob:Obj),x=.ref a/\H1 a=some (.ext (dnP a qs ys ob))/\DN H1 a qs/\qs.length=ys.length /\
 R (ItP (fun H=>H a=some (.ext (dnP a qs ys ob))/\DN H a qs) ((qs.map fun q=>V.ref q.2).zip ys)) H1
section
variable {X:Cx} {o:Expr} {td:TE} {apos cpos tpos:Pos} {elts:List Expr} {k:Nat}
theorem zjq (ho:PE X o td) (hbase:attributeBase o "items" X.env (eval o X.env)=eval o X.env:=by rfl) (hline:(apos.endLine==cpos.line)=true:=by rfl) :
  PI X (.Tuple elts k tpos) (.Call (.Attribute o "items" apos) [] [] cpos) (zt0 td):=by
 intro pins s U H R I h
 refine wpAny_Call_method0_late hbase hline (thn (ho pins s U H _ I h) fun u s1 ⟨x,H1,I1,r1,a,qs,ys,ob,ex,e,n,hlq,q⟩=>?_)
 subst ex
 cases r1
 obtain ⟨vs,es,ep,rfl,ed,p1,p2,d4⟩:=zd4 I1 e n
 have hsz:es.size=qs.length:=by rw [<-Array.length_toList,d4,List.length_map,zlh qs vs p2]
 refine ⟨"dict","dict.items",PySem.F.plainAttrs_dict,PySem.F.slot_dict_items,PySem.F.type_dict_items,⟨_,ed,rfl⟩,fun b eb=>?_,Calls.callWith_builtin rfl (PySem.evalArgs_none ?_)⟩
 . cases eb;exact ⟨_,ed,rfl⟩
 . refine call_meets F.slot_dict_items ⟨_,ed,rfl⟩ F.entry_dict_items (F.args_dict_items_1 _) (zo3 a es ep n.2.2.1) ⟨ed,?_⟩
   have kp:∀c o,s1.heap.get? c=some o->(s1.heap.push (z2p a)).get? c=some o:=fun c o e=>Heap.get?_push_of_some _ e
   refine zeh (s:={ s1 with heap:=s1.heap.push (z2p a) }) (Heap.get?_push_size _ rfl) (kp _ _ ed) ?_
   have I2:Inv X pins U H1 { s1 with heap:=s1.heap.push (z2p a) }:=I1.kept (t':=s1.toks) kp
   have kp2:∀c o,(s1.heap.push (z2p a)).get? c=some o->((s1.heap.push (z2p a)).push (z15 .none a 0 es.size ep .none .none)).get? c=some o:=fun c o e=>Heap.get?_push_of_some _ e
   have I3:=I2.kept (t':=s1.toks) kp2
   refine ⟨(s1.heap.push (z2p a)).objs.size,[(s1.heap.push (z2p a)).objs.size],_,_,H1,rfl,I3,zej hlq hsz,⟨_,_,Heap.get?_push_size _ rfl⟩,fun c hc=>?_,q⟩
   have hc':c=(s1.heap.push (z2p a)).objs.size:=by simpa using hc
   rw [hc']
   exact I2.fpOk (Nat.le_refl _) (I2.hok.fresh (Nat.le_refl _))
end
noncomputable def zij (f:DE->R D):DE->R (List D):=fun ρ=>(f ρ).bind fun d=>match d with
 | .dn ks ds=>if ks.length=ds.length then .ok ((ks.zip ds).map fun p=>D.tup [z58 p.1,p.2]) else .st
 | _=>.st
theorem zh4 {K:Frag} {H0:Hp}:∀{qs:List (NK×Addr)},(∀q∈qs,NKr H0 q.1 (.ref q.2))->RDs K H0 (qs.map fun q=>z58 q.1) (qs.map fun q=>V.ref q.2)
 | [],_=>.nil
 | q::qs,h=>.cons (zsy (h q (by simp))) (zh4 fun p hp=>h p (by simp [hp]))
theorem z95 {X:Cx} {EX:XW} {elts:List Expr} {k:Nat} {o:Expr} {apos cpos tpos:Pos} {f:DE->R D} (ho:QE X EX false o f) (hbase:attributeBase o "items" X.env (eval o X.env)=eval o X.env:=by rfl) (hline:(apos.endLine==cpos.line)=true:=by rfl) :
  QI X EX false (.Tuple elts k tpos) (.Call (.Attribute o "items" apos) [] [] cpos) (zij f):=⟨(zjq ho.h hbase hline).imp fun U H Q ⟨sx,ρ,H0,s,e,h⟩=>by
 unfold zij at h
 rw [Rk.bind] at h
 refine TEd.go sx s e h fun d h v H1 H1' s1 e1 r1=>?_
 split at h
 . rename_i ks ds
   split at h
   . rename_i hl
     simp only [RD] at r1
     obtain ⟨a,qs,ys,ob,rfl,h1,hk,n,ra⟩:=r1
     have mono:∀b zs,H1' b=some (.tup zs)->H1 b=some (.tup zs):=fun b zs q=>e1.2.1 _ _ q
     have hq:qs.length=ys.length:=by rw [<-ra.length,<-hl,<-hk,List.length_map]
     refine ⟨a,qs,ys,ob,rfl,e1.2.1 _ _ h1,n.tk mono,hq,h _ H1 H1' s1 e1 ?_⟩
     rw [show (ks.zip ds).map (fun p=>D.tup [z58 p.1,p.2])=((qs.map fun q=>z58 q.1).zip ds).map fun p=>D.tup [p.1,p.2] by
      rw [<-hk,List.zip_map_left,List.zip_map_left,List.map_map,List.map_map];rfl]
     exact zg9 (fun H s=>⟨s _ _ h1,n.tk fun b zs q=>s _ _ q⟩) (zh4 fun q hq=>(n.2.1 q hq).1) ra
   . exact h.elim
 . exact h.elim⟩
noncomputable def valN {α:Type} (ks:List NK) (xs:List α) (k:NK):Option α:=((ks.zip xs).find? fun p=>decide (p.1=k)).map (·.2)
theorem zd6 {k:NK} {z:V} {u:Value} (rz:RelV z u):∀{qs:List (NK×Addr)} {xs:List V} {vs:List Value},Vals xs vs->qs.length=vs.length->RelV ((valN (qs.map (·.1)) xs k).getD z) (((atKey (z3 qs vs) k).map (·.2)).getD u)
 | [],xs,vs,r,hl=>by
  have:vs=[]:=List.eq_nil_of_length_eq_zero (by simpa using hl.symm)
  subst this
  exact rz
 | q::qs,_,_,.nil,hl=>by simp at hl
 | q::qs,_,_,.cons (a:=x) (b:=v) (l₁:=xs) (l₂:=vs) r rr,hl=>by
  have ih:=zd6 (k:=k) rz (qs:=qs) rr (by simpa using hl)
  by_cases h:q.1=k
  . have e1:valN ((q::qs).map (·.1)) (x::xs) k=some x:=by
     unfold valN
     rw [List.map_cons,List.zip_cons_cons,List.find?_cons_of_pos (by simpa using h)];rfl
    have e2:atKey (z3 (q::qs) (v::vs)) k=some (q.2,v):=by
     show ((z3 (q::qs) (v::vs)).find? fun x=>decide (x.1=k)).map (·.2)=_
     unfold z3
     rw [List.zip_cons_cons,List.map_cons,List.find?_cons_of_pos (by simpa using h)];rfl
    rw [e1,e2];exact r
  . have e1:valN ((q::qs).map (·.1)) (x::xs) k=valN (qs.map (·.1)) xs k:=by
     unfold valN
     rw [List.map_cons,List.zip_cons_cons,List.find?_cons_of_neg (by simpa using h)]
    have e2:atKey (z3 (q::qs) (v::vs)) k=atKey (z3 qs vs) k:=by
     show ((z3 (q::qs) (v::vs)).find? fun x=>decide (x.1=k)).map (·.2)=((z3 qs vs).find? fun x=>decide (x.1=k)).map (·.2)
     unfold z3
     rw [List.zip_cons_cons,List.map_cons,List.find?_cons_of_neg (by simpa using h)]
    rw [e1,e2];exact ih
noncomputable def zt1 (td ty tx:TE):TE:=fun U H Q=>td U H fun x H1=>∃(a:Addr) (qs:List (NK×Addr)) (xs:List V) (ob:Obj),x=.ref a/\H1 a=some (.ext (dnP a qs xs ob))/\DN H1 a qs/\ty U H1 fun y H2=>tx U H2 fun z H3=>
 ∃(k:NK) (b:Addr),y=.ref b/\H3 a=some (.ext (dnP a qs xs ob))/\DN H3 a qs/\NKr H3 k (.ref b)/\k.dep<=8/\Q ((valN (qs.map (·.1)) xs k).getD z) H3
section
variable {X:Cx} {o e f:Expr} {td ty tx:TE} {apos cpos:Pos}
theorem zo5 (hu:X.A.units+64<cLine) (ho:PE X o td) (he:PE X e ty) (hf:PE X f tx) (m:M2 X o "get" apos e f cpos):PE X (.Call (.Attribute o "get" apos) [e,f] [] cpos) (zt1 td ty tx):=by
 intro pins s U H Q I h
 refine wpAny_Call_method m.base m.few m.line PySem.F.plainAttrs_dict PySem.F.slot_dict_get PySem.F.type_dict_get (thn (ho pins s U H _ I h) fun u s1 ⟨x,H1,I1,rx,a,qs,xs,ob,ex,e1,n1,q1⟩=>?_)
 subst ex
 obtain rfl:u=Value.ref a:=rx
 obtain ⟨_,es,ep,_,ed,_⟩:=zd4 I1 e1 n1
 refine ⟨⟨_,ed,rfl⟩,fun b eb=>?_,?_⟩
 . cases eb;exact ⟨_,ed,rfl⟩
 rw [m.trees]
 refine Calls.callWith_builtin rfl (Calls.evalArgs_plain (Calls.spliced_cons (thn (he pins s1 U H1 _ I1 q1) fun iv s2 ⟨y,H2,I2,ry,q2⟩=>
  Calls.spliced_cons (thn (hf pins s2 U H2 _ I2 q2) fun fv s3 ⟨z,H3,I3,rz,k,b,ey,e3,n3,hk,hd,q3⟩=>Calls.spliced_nil ?_))))
 subst ey
 cases ry
 obtain ⟨_,vs,p1,p2,dd⟩:=zbv I3 e3 n3
 exact call_meetsIn PySem.F.slot_dict_get dd.typeIs PySem.F.entry_dict_get (PySem.F.args_dict_get_3 _ _ _) (meetsH_dict_get_default (deepKind X.prog X.w) a b n3.2.2.1 fv)
  ⟨by show X.A.units+1+8<cLine;omega,k,z3 qs vs,⟨zfz I3 hk rfl,hd⟩,dd,_,H3,I3.tok _,zd6 (qs:=qs) rz p1 p2,q3⟩
end
noncomputable def dGetN:D->D->D->Option D
 | .dn ks ds,.tup es,z=>match nkD (.tup es) with
  | some k=>if k.dep<=8 then some ((valN ks ds k).getD z) else none
  | none=>none
 | _,_,_=>none
noncomputable def eGetN (fd fk fz:DE->R D):DE->R D:=fun ρ=>(fd ρ).bind fun d=>match d with
 | .dn ks ds=>(fk ρ).bind fun k=>(fz ρ).bind fun z=>R.of (dGetN (.dn ks ds) k z)
 | _=>.st
theorem zh5 {K:Frag} {H:Hp} {k:NK} {z:D} {zv:V} (rz:RD K H z zv):∀{ks:List NK} {ds:List D} {xs:List V},RDs K H ds xs->RD K H ((valN ks ds k).getD z) ((valN ks xs k).getD zv)
 | [],ds,xs,r=>by
  unfold valN;rw [List.zip_nil_left,List.zip_nil_left];exact rz
 | k'::ks,[],xs,r=>by
  simp only [RDs] at r;subst r
  exact rz
 | k'::ks,d::ds,xs,r=>by
  simp only [RDs] at r
  obtain ⟨x,r',rfl,r1,r2⟩:=r
  by_cases h:k'=k
  . have e1:∀{α:Type} (a:α) (as:List α),valN (k'::ks) (a::as) k=some a:=fun a as=>by
     unfold valN
     rw [List.zip_cons_cons,List.find?_cons_of_pos (by simpa using h)];rfl
    rw [e1,e1];exact r1
  . have e1:∀{α:Type} (a:α) (as:List α),valN (k'::ks) (a::as) k=valN ks as k:=fun a as=>by
     unfold valN
     rw [List.zip_cons_cons,List.find?_cons_of_neg (by simpa using h)]
    rw [e1,e1];exact zh5 rz r2
section
variable {X:Cx} {EX:XW} {U:St} {H:Hp} {Q:VK}
theorem zt2 {K:Frag} {fd fk fz:DE->R D} (h:TEd K EX false (eGetN fd fk fz) U H Q):zt1 (TEd K EX false fd) (TEd K EX false fk) (TEd K EX false fz) U H Q:=by
 obtain ⟨sx,ρ,H0,s,e,h⟩:=h
 unfold eGetN at h
 rw [Rk.bind] at h
 refine TEd.go sx s e h fun d h v H1 H1' s1 e1 r1=>?_
 cases d<;>first | (exact h.elim) | skip
 rename_i ks ds
 simp only at h
 have r1':=r1
 simp only [RD] at r1
 obtain ⟨a,qs,xs,ob,rfl,h1,hk,n,ra⟩:=r1
 refine ⟨a,qs,xs,ob,rfl,e1.2.1 _ _ h1,n.tk fun b zs q=>e1.2.1 _ _ q,?_⟩
 rw [Rk.bind] at h
 refine TEd.go (sx.trans s1) e1.2.1 (e.mono e1.1) h fun d2 h v2 H2 H2' s2 e2 r2=>?_
 rw [Rk.bind] at h
 refine TEd.go ((sx.trans s1).trans s2) e2.2.1 (e.mono (e1.1.trans e2.1)) h fun d3 h v3 H3 H3' s3 e3 r3=>?_
 obtain ⟨w,hw,h⟩:=h.of
 cases d2<;>simp only [dGetN] at hw<;>first | (cases hw;done) | skip
 rename_i es
 split at hw<;>first | (cases hw;done) | skip
 rename_i kk hkk
 split at hw<;>first | (cases hw;done) | skip
 rename_i hd
 cases hw
 have nk:=zd2 hkk r2
 obtain ⟨b,ys,rfl,hb,rb⟩:=r2.tup
 refine ⟨kk,b,rfl,e3.2.1 _ _ (e3.1 _ _ (e2.1 _ _ h1)),n.tk fun b zs q=>e3.2.1 _ _ (e3.1 _ _ (e2.1 _ _ q)),NKr.mono (fun b zs q=>e3.2.1 _ _ (e3.1 _ _ q)) nk,hd,h _ H3 ?_⟩
 refine .val ((s1.trans s2).trans s3) ((e1.trans s1 e2).trans (s1.trans s2) e3) ?_
 rw [hk]
 exact zh5 r3 (ra.mono (e2.1.trans e3.1))
variable {o e f:Expr} {apos cpos:Pos} {fd fk fz:DE->R D}
theorem zd7 (hu:X.A.units+64<cLine) (ho:QE X EX false o fd) (he:QE X EX false e fk) (hf:QE X EX false f fz) (m:M2 X o "get" apos e f cpos:=by exact ⟨rfl,rfl,rfl,rfl⟩):QE X EX false (.Call (.Attribute o "get" apos) [e,f] [] cpos) (eGetN fd fk fz):=
 ⟨(zo5 hu ho.h he.h hf.h m).imp fun _ _ _ q=>zt2 q⟩
end
theorem zo6:typeLookup (.type "list") "keys"=pure none:=am_miss_of_fast (by kernel_rfl)
section
variable {prog:Program} {w:World} {A:Around} {E:Value->Shared->Prop} {s:Shared}
theorem zo7 {a:Addr} {o:Obj} {xs:Array Value} {k:Nat} {Q:Option Value->Shared->Prop}
  (hx:s.heap.get? a=some o) (hc:o.cls=.type "list") (hdat:o.data=.seq xs k) (hd:o.dict=none) (hA:A.handled=none)
  (h:∀h' tk,(∀b o,s.heap.get? b=some o->h'.get? b=some o)->Q none { s with heap:=h',toks:=tk }) :
  wpAny (model prog w) A (getAttr? (.ref a) "keys") Q E s:=by
 obtain ⟨c,dct,dat,sl⟩:=o
 simp only at hc hdat hd
 subst hc hdat hd
 obtain ⟨hp,g,d,tk,os⟩:=s
 have hT:∀tk',(⟨hp,g,d,tk',os⟩:Shared).TypeIs (.ref a) "list":=fun _=>⟨_,hx,rfl⟩
 have f1:=sub_AttributeError
 have f3:=F.slot_list_getattribute.lookup
 have f4:=F.slot_list_getattribute.bind (.ref a)
 have f5:=am_list_getattr_none
 unfold getAttr? getAttrBy? getAttrBy
 repeat (any_goals (first | assumption | exact hT _ | ((with_reducible show wpAny _ _ (call (Value.builtin "list.__getattribute__") _ _) _ _ _);refine call_meets F.slot_list_getattribute (hT _) am_entry_list_getattribute (F.args_list_getattribute_2 _ _) (meets_getattribute_miss_list a xs k sl "keys" _ zo6 (by decide +kernel)) ⟨hx,hA,fun h' tk' e hx'=>?_⟩) | wp_step))
 obtain ⟨t',u',he⟩:=hx'.there
 show wpAny _ _ (getattributeRaised _ _ _ _ _ _ _) _ _ _
 unfold getattributeRaised
 repeat (any_goals (first | assumption | wp_step))
 exact h _ _ hx'.keeps
end
theorem zd8:entryFor table "dict.update.loop"=some Builtin.«dict.update.loop»:=entryFor_of_tree (by kernel_rfl)
theorem z6e:plainId "dict.update.loop"=true:=by decide +kernel
def Keep (h h':Heap):Prop:=∀b o,h.get? b=some o->h'.get? b=some o
theorem Keep.tuple {h h':Heap} (x:Keep h h') {a:Addr} {its:Array Value} (t:h.IsTuple a its):h'.IsTuple a its:=let ⟨o,e,c⟩:=t;⟨o,x a o e,c⟩
theorem Keep.list {h h':Heap} (x:Keep h h') {a:Addr} {its:Array Value} (t:h.IsList a its):h'.IsList a its:=let ⟨o,e,c⟩:=t;⟨o,x a o e,c⟩
section
variable {prog:Program} {w:World}
theorem z8c {h h':Heap} {d it l:Addr} {i:Nat} {acc:List (NK×Addr×Value)} (hd:h.DictOfH (deepKind prog w) d acc) (hi:h.IsListIter it l i) (hne:d≠it) (kp:∀b o,b≠it->h.get? b=some o->h'.get? b=some o):h'.DictOfH (deepKind prog w) d acc:=by
 obtain ⟨o,es,ep,d1,d2,d3,d4,d5,d6⟩:=hd
 refine ⟨o,es,ep,kp d o hne d1,d2,d3,d4,fun x hx=>⟨NKv.stay (fun a its t=>?_) (d5 x hx).1,(d5 x hx).2⟩,d6⟩
 obtain ⟨ot,et,ct,n,dt⟩:=t
 obtain ⟨oi,ei,ci,_⟩:=hi
 refine ⟨ot,kp a ot (fun z=>?_) et,ct,n,dt⟩
 subst z
 rw [et] at ei;cases ei
 rw [ct] at ci;exact absurd (Value.type.inj ci) (by decide)
theorem zo8 {h₀:Heap} {l it d:Addr} {items:Array Value} {A:Around} {R:Result->Shared->Prop} (hd0:h₀.get? d=none) (hit0:h₀.get? it=none) (hne:d≠it) (hl:h₀.IsList l items) (hh:A.handled=none) (hu:A.units+16<cLine) :
  ∀(rest:List (Addr×NK×Addr×Value)) (i:Nat) (acc:List (NK×Addr×Value)) (s:Shared),Keep h₀ s.heap->s.heap.IsListIter it l i->s.heap.DictOfH (deepKind prog w) d acc ->
   items.toList.drop i=rest.map (fun r=>Value.ref r.1)->(∀r∈rest,h₀.IsTuple r.1 #[.ref r.2.2.1,r.2.2.2]/\NKv h₀ r.2.1 (.ref r.2.2.1)/\r.2.1.dep<=8)->acc.length+rest.length<=sizeLine ->
   (∀h' tk,h'.DictOfH (deepKind prog w) d (rest.foldl (fun a r=>storedH a r.2.1 r.2.2.1 r.2.2.2) acc)->Keep h₀ h'->R (.ok (.ret .none)) { s with heap:=h',toks:=tk }) ->
   codeAny (model prog w) A (.builtin "dict.update.loop" ⟨[.ref d,.ref it,rawInt i,.none],[]⟩) R s:=by
 intro rest
 induction rest with
 | nil=>
  intro i acc s kp hi hd hr hf hz k
  refine codeAny_builtin zd8 ?_
  rw [Around.under_plainId z6e _]
  show wpAny _ A.in1 (pyNext (.ref it) >>= _) _ _ s
  have hx:items[i]?=none:=by
   have:items.toList[i]?=none:=by
    rw [List.getElem?_eq_none_iff]
    exact List.drop_eq_nil_iff.mp hr
   simpa using this
  refine wpAny_bind (wpAny_pyNext_list_end hh hi (kp.list hl) hx fun h' ex=>?_)
  show wpAny _ _ (Builtin.Dict.addKeywords d [] >>= _) _ _ _
  refine wpAny_bind (wpAny_pure (wpAny_pure ?_))
  refine k h' s.toks ?_ ?_
  . exact z8c hd hi hne fun b o hb e=>ex b o hb e
  . exact fun b o e=>ex b o (fun z=>by rw [z,hit0] at e;cases e) (kp b o e)
 | cons r rest ih=>
  intro i acc s kp hi hd hr hf hz k
  refine codeAny_builtin zd8 ?_
  rw [Around.under_plainId z6e _]
  show wpAny _ A.in1 (pyNext (.ref it) >>= _) _ _ s
  have hx:items[i]?=some (.ref r.1):=by
   have:items.toList[i]?=some (.ref r.1):=by
    have e:=congrArg List.head? hr
    rw [List.head?_drop] at e
    rw [e];rfl
   simpa using this
  obtain ⟨ht,hk,hdp⟩:=hf r (by simp)
  refine wpAny_bind (wpAny_pyNext_list_item hi (kp.list hl) hx fun h' hi' sb=>?_)
  have kp':Keep h₀ h':=fun b o e=>by
   have hb:b≠it:=fun z=>by rw [z,hit0] at e;cases e
   rw [sb.2 b hb];exact kp b o e
  have hd':h'.DictOfH (deepKind prog w) d acc:=z8c hd hi hne fun b o hb e=>by rw [sb.2 b hb];exact e
  have tt:=kp'.tuple ht
  obtain ⟨ot,et,ct,nt,dt⟩:=tt
  show wpAny _ _ (holding [Value.ref r.1] _ >>= _) _ _ _
  refine wpAny_bind (wpAny_holding ?_)
  refine wpAny_bind (wpAny_tryCatch ?_)
  unfold Builtin.Dict.pairItems
  refine wpAny_bind (wpAny_typeOf (T:="tuple") ⟨ot,et,ct⟩ ?_)
  show wpAny _ _ (seqItems? (.ref r.1) >>= _) _ _ _
  refine wpAny_bind (wpAny_seqItems et dt (wpAny_pure ?_))
  show wpAny _ _ (holding [Value.ref r.2.2.1,r.2.2.2] (dictSet d (.ref r.2.2.1) r.2.2.2)) _ _ _
  refine wpAny_holding (wpAny_dictSet_heap (knd:=deepKind prog w) (hsz:=by simp only [List.length_cons] at hz;omega) (by show A.units+1+8<cLine;omega) ⟨NKv.stay (fun a its t=>kp'.tuple t) hk,hdp⟩ hd' fun h'' hd'' sb''=>?_)
  refine wpAny_pure ⟨plainId_quiet z6e _,?_⟩
  have e1:rawInt ((i:Int)+1)=rawInt ((i+1:Nat):Int):=by simp
  show codeAny _ _ (.builtin "dict.update.loop" ⟨[.ref d,.ref it,rawInt ((i:Int)+1),.none],[]⟩) _ _
  rw [e1]
  refine ih (i+1) _ { s with heap:=h'',toks:=_ } (fun b o e=>?_) ?_ hd'' ?_ (fun q hq=>hf q (by simp [hq])) ?_ k
  . have hb:b≠d:=fun z=>by rw [z,hd0] at e;cases e
    show h''.get? b=some o
    rw [sb''.2 b hb];exact kp' b o e
  . obtain ⟨o,eo,c⟩:=hi'
    exact ⟨o,by show h''.get? it=some o;rw [sb''.2 it (Ne.symm hne)];exact eo,c⟩
  . have e:=congrArg List.tail hr
    rw [List.tail_drop] at e
    exact e
  . have:(storedH acc r.2.1 r.2.2.1 r.2.2.2).length<=acc.length+1:=by
     unfold storedH;split
     . rw [List.length_map];omega
     . rw [List.length_append];simp
    simp only [List.length_cons] at hz;omega
end
section
variable {prog:Program} {w:World}
theorem zo9 {A:Around} {E:Value->Shared->Prop} {s:Shared} {l:Addr} {its:Array Value} {Q:Value->Shared->Prop} (hl:PlainL s.heap l its) (hh:A.handled=none) (hu:A.units+32<cLine)
  (rest:List (Addr×NK×Addr×Value)) (hr:its.toList=rest.map (fun r=>Value.ref r.1)) (hf:∀r∈rest,s.heap.IsTuple r.1 #[.ref r.2.2.1,r.2.2.2]/\NKv s.heap r.2.1 (.ref r.2.2.1)/\r.2.1.dep<=8) (hz:rest.length<=sizeLine)
  (k:∀h' tk,h'.DictOfH (deepKind prog w) s.heap.objs.size (rest.foldl (fun a r=>storedH a r.2.1 r.2.2.1 r.2.2.2) [])->Keep s.heap h'->Q (.ref s.heap.objs.size) { s with heap:=h',toks:=tk }) :
  wpAny (model prog w) A (call (.type "dict") [.ref l]) Q E s:=by
 obtain ⟨o,n,e,hc,hdi,hda⟩:=hl
 have hlt:l<s.heap.objs.size:=Heap.lt_size e
 refine callType_codes (Q₁:=fun obj s₁=>obj=.ref s.heap.objs.size/\s₁={ s with heap:=s.heap.push { cls:=.type "dict",data:=.dict #[] } }) PySem.F.kt_called_dict (PySem.F.kt_typeCall_dict_1 _) PySem.F.entry_dict_init (kt_code_dict_new _ ⟨rfl,rfl⟩) ?_
 rintro obj s₁ ⟨rfl,rfl⟩
 have hn:(s.heap.push { cls:=.type "dict",data:=.dict #[] }).get? s.heap.objs.size=some { cls:=.type "dict",data:=.dict #[] }:=Heap.get?_push_size _ rfl
 have e':(s.heap.push { cls:=.type "dict",data:=.dict #[] }).get? l=some o:=Heap.get?_push_of_some _ e
 refine ⟨⟨_,hn,rfl⟩,PySem.F.args_dict_init_2 _ _,?_⟩
 unfold Builtin.«dict.__init__»
 refine wpAny_bind ?_
 unfold Builtin.Dict.selfAndRest
 refine wpAny_bind (wpAny_notOrdered_dict ⟨_,hn,rfl⟩ ?_)
 show wpAny _ _ (pure (s.heap.objs.size,[Value.ref l])) _ _ _
 refine wpAny_pure ?_
 show wpAny _ _ (Builtin.Dict.updateFrom "dict.__init__" s.heap.objs.size (.ref l) [] .none) _ _ _
 unfold Builtin.Dict.updateFrom
 refine wpAny_bind (wpAny_typeOf (T:="list") ⟨o,e',hc⟩ ?_)
 rw [if_pos (by decide)]
 refine wpAny_bind (zo7 (A:=A.in1.in1) e' hc hda hdi hh fun h1 tk1 kp1=>?_)
 rw [if_pos (by rfl)]
 refine wpAny_bind (wpAny_rule ?_)
 refine wpAny_bind (wpAny_pyIter_list (items:=its) ⟨o,kp1 _ _ e',hc,n,hda⟩ ?_)
 refine wpAny_pure ⟨plainId_quiet z6e _,?_⟩
 have kp0:Keep s.heap (h1.push { cls:=.type "list_iterator",data:=.fields #[.ref l,.int 0 0] }):=fun b ob q=>Heap.get?_push_of_some _ (kp1 _ _ (Heap.get?_push_of_some _ q))
 have hlt1:s.heap.objs.size<h1.objs.size:=Heap.lt_size (kp1 _ _ hn)
 show codeAny _ _ (.builtin "dict.update.loop" ⟨[.ref s.heap.objs.size,.ref h1.objs.size,rawInt ((0:Nat):Int),.none],[]⟩) _ _
 refine zo8 (A:=A.in1) (h₀:=s.heap) (l:=l) (items:=its) (Heap.get?_none_of_le (Nat.le_refl _)) (Heap.get?_none_of_le (Nat.le_of_lt hlt1)) (Nat.ne_of_lt hlt1) ⟨o,e,hc,n,hda⟩ hh (by show A.units+1+16<cLine;omega) rest 0 [] _ kp0 ⟨_,Heap.get?_push_size _ rfl,rfl,rfl⟩ ?_ (by simpa using hr) hf (by simpa using hz) fun h' tk dd kp'=>?_
 . exact ⟨_,#[],0,Heap.get?_push_of_some _ (kp1 _ _ hn),⟨rfl,rfl,rfl⟩,rfl,rfl,fun x hx=>by simp at hx,List.nodup_nil⟩
 . exact ⟨rfl,k h' tk dd kp'⟩
end
theorem zh6:∀(rest:List (Addr×NK×Addr×Value)) (acc:List (NK×Addr×Value)),(acc.map (·.1)++rest.map (·.2.1)).Nodup->rest.foldl (fun a r=>storedH a r.2.1 r.2.2.1 r.2.2.2) acc=acc++rest.map (·.2)
 | [],acc,_=>by simp
 | r::rest,acc,h=>by
  have hn:r.2.1∉acc.map (·.1):=fun hm=>by
   rw [List.nodup_append] at h
   exact h.2.2 _ hm _ (by simp) rfl
  have e:storedH acc r.2.1 r.2.2.1 r.2.2.2=acc++[(r.2.1,r.2.2.1,r.2.2.2)]:=by
   refine storedH_new ?_ _ _
   cases ha:atKey acc r.2.1 with
   | none=>rfl
   | some p=>
    have:=zgt acc r.2.1
    rw [show ((acc.find? fun x=>decide (x.1=r.2.1)).map (·.2)).isSome=(atKey acc r.2.1).isSome from rfl,ha] at this
    exact absurd (of_decide_eq_true this.symm) hn
  rw [List.foldl_cons,e,zh6 rest _ (by simpa using h)]
  simp
theorem zt3:∀(rest:List (Addr×NK×Addr×Value)),z3 (rest.map fun r=>(r.2.1,r.2.2.1)) (rest.map (·.2.2.2))=rest.map (·.2)
 | []=>rfl
 | r::rest=>by
  have ih:=zt3 rest
  simp only [z3,List.map_cons,List.zip_cons_cons] at ih ⊢
  rw [ih]
def DoR (H:Hp) (rest:List (Addr×NK×Addr×V)):Prop:=∀r∈rest,H r.1=some (.tup [.ref r.2.2.1,r.2.2.2])/\NKr H r.2.1 (.ref r.2.2.1)/\r.2.1.dep<=8
section
variable {X:Cx} {pins:List (Addr×Obj)} {U:St} {H:Hp} {s:Shared}
theorem zh7 (I:Inv X pins U H s):∀(rest:List (Addr×NK×Addr×V)),DoR H rest->∃rest':List (Addr×NK×Addr×Value),rest'.map (fun r=>(r.1,r.2.1,r.2.2.1))=rest.map (fun r=>(r.1,r.2.1,r.2.2.1))/\Vals (rest.map (·.2.2.2)) (rest'.map (·.2.2.2))/\∀r∈rest',s.heap.IsTuple r.1 #[.ref r.2.2.1,r.2.2.2]/\NKv s.heap r.2.1 (.ref r.2.2.1)/\r.2.1.dep<=8
 | [],_=>⟨[],rfl,.nil,fun r hr=>by simp at hr⟩
 | r::rest,h=>by
  obtain ⟨rs,e1,e2,e3⟩:=zh7 I rest fun q hq=>h q (by simp [hq])
  obtain ⟨h1,h2,h3⟩:=h r (by simp)
  obtain ⟨its,r1,t1,_⟩:=I.tuple (.of h1)
  cases r1 with
  | cons a1 a2=>
   cases a2 with
   | cons b1 b2=>
    cases b2
    cases a1
    rename_i u
    refine ⟨(r.1,r.2.1,r.2.2.1,u)::rs,by simp [e1],?_,fun q hq=>?_⟩
    . simp only [List.map_cons];exact .cons b1 e2
    . rcases List.mem_cons.mp hq with rfl | hq
      . exact ⟨t1,zfz I h2 rfl,h3⟩
      . exact e3 q hq
end
def zlk:List V->Hp->VK->Prop:=fun xs H Q=>∃(l:Addr) (rest:List (Addr×NK×Addr×V)),xs=[V.ref l]/\H l=some (.lst (rest.map fun r=>V.ref r.1))/\DoR H rest/\(rest.map (·.2.1)).Nodup/\rest.length<=sizeLine /\
 ∀p ob,H p=none->(p==sysModules)=false->Q (.ref p) (upd H p (.ext (dnP p (rest.map fun r=>(r.2.1,r.2.2.1)) (rest.map (·.2.2.2)) ob)))
theorem zh8 {X:Cx} (hc:X.calm=true) (hu:X.A.units+64<cLine):CallR X (.type "dict") zlk:=by
 intro pins s U H xs us Q I r h
 obtain ⟨l,rest,rfl,hl,hr,hn,hz,q⟩:=h
 obtain ⟨u,rfl,ru⟩:=z6m r
 cases ru
 obtain ⟨its,v1,pl,_⟩:=I.list (.of hl)
 obtain ⟨rs,e1,e2,e3⟩:=zh7 I rest hr
 have m1:rs.map (·.1)=rest.map (·.1):=by
  have:=congrArg (List.map fun z:Addr×NK×Addr=>z.1) e1
  simpa [List.map_map,Function.comp_def] using this
 have m2:rs.map (·.2.1)=rest.map (·.2.1):=by
  have:=congrArg (List.map fun z:Addr×NK×Addr=>z.2.1) e1
  simpa [List.map_map,Function.comp_def] using this
 have m3:rs.map (fun r=>(r.2.1,r.2.2.1))=rest.map (fun r=>(r.2.1,r.2.2.1)):=by
  have:=congrArg (List.map fun z:Addr×NK×Addr=>z.2) e1
  simpa [List.map_map,Function.comp_def] using this
 have hlen:rs.length=rest.length:=by have:=congrArg List.length m1;simpa using this
 have hits:its=rs.map fun r=>Value.ref r.1:=by
  have key:∀(ts:List Addr) (us:List Value),Vals (ts.map V.ref) us->us=ts.map Value.ref:=by
   intro ts
   induction ts with
   | nil=>intro us h;cases h;rfl
   | cons t ts ih=>intro us h;cases h with | cons a b=>cases a;rw [ih _ b];rfl
  have:=key (rest.map (·.1)) its (by rw [List.map_map];exact v1)
  rw [this,<-m1,List.map_map];rfl
 refine zo9 pl (I.ok.hd hc) (by omega) rs (by simpa using hits) e3 (by omega) fun h' tk dd kp=>?_
 rw [zh6 rs [] (by simpa [m2] using hn),List.nil_append,<-zt3,m3] at dd
 obtain ⟨o',es,ep,d1,d2,d3,d4,_⟩:=dd
 have pp:dnP s.heap.objs.size (rest.map fun r=>(r.2.1,r.2.2.1)) (rest.map (·.2.2.2)) o' h':=⟨d1,(rs.map fun r:Addr×NK×Addr×Value=>r.2.2.2),es,ep,e2,by simp [hlen],d2,d3,d4⟩
 exact ⟨.ref s.heap.objs.size,_,I.laid (t':=tk) (o:=.ext (dnP s.heap.objs.size (rest.map fun r=>(r.2.1,r.2.2.1)) (rest.map (·.2.2.2)) o')) kp (Nat.le_refl _)
  ⟨pp,⟨o',d1⟩,dnP.stay⟩,rfl,q _ _ (I.hok.fresh (Nat.le_refl _)) (beq_eq_false_iff_ne.mpr (Ne.symm (Nat.ne_of_lt I.big)))⟩
noncomputable def pairsD:List D->Option (List NK×List D)
 | []=>some ([],[])
 | .tup [.tup es,v]::ds=>match nkD (.tup es),pairsD ds with
  | some k,some (ks,vs)=>some (k::ks,v::vs)
  | _,_=>none
 | _=>none
open Classical in
noncomputable def dDictL:List D->Option D
 | [.lst ds]=>match pairsD ds with
  | some (ks,vs)=>if ks.Nodup/\ds.length<=100000/\∀k∈ks,k.dep<=8 then some (.dn ks vs) else none
  | none=>none
 | _=>none
theorem zd9 {K:Frag} {H:Hp}:∀{ds:List D} {xs:List V} {ks:List NK} {vs:List D},pairsD ds=some (ks,vs)->RDs K H ds xs->(∀k∈ks,k.dep<=8)->∃rest:List (Addr×NK×Addr×V),xs=rest.map (fun r=>V.ref r.1)/\DoR H rest/\rest.map (·.2.1)=ks/\RDs K H vs (rest.map (·.2.2.2))/\rest.length=ds.length
 | [],xs,ks,vs,e,r,hd=>by
  simp only [pairsD,Option.some.injEq,Prod.mk.injEq] at e
  obtain ⟨rfl,rfl⟩:=e
  simp only [RDs] at r;subst r
  exact ⟨[],rfl,fun r hr=>by simp at hr,rfl,by simp only [List.map_nil,RDs],rfl⟩
 | d::ds,xs,ks,vs,e,r,hd=>by
  unfold pairsD at e
  split at e<;>first | (cases e;done) | skip
  . rename_i hcons;cases hcons
  . rename_i es v ds' hcons
    cases hcons
    split at e<;>first | (cases e;done) | skip
    rename_i k ks' vs' hk hp
    cases e
    simp only [RDs] at r
    obtain ⟨x,r',rfl,r1,r2⟩:=r
    obtain ⟨rest,e1,e2,e3,e4,e5⟩:=zd9 hp r2 fun q hq=>hd q (by simp [hq])
    obtain ⟨a,ys,rfl,ha,ra⟩:=r1.tup
    simp only [RDs] at ra
    obtain ⟨y1,r3,rfl,q1,y2,r4,rfl,q2,rfl⟩:=ra
    have nk:=zd2 hk q1
    obtain ⟨b,zs,rfl,hb,rb⟩:=q1.tup
    refine ⟨(a,k,b,y2)::rest,by simp [e1],fun q hq=>?_,by simp [e3],?_,by simp [e5]⟩
    . rcases List.mem_cons.mp hq with rfl | hq
      . exact ⟨ha,nk,hd _ (by simp)⟩
      . exact e2 q hq
    . simp only [List.map_cons,RDs]
      exact ⟨_,_,rfl,q2,e4⟩
theorem DoR.mono {H H':Hp} {rest:List (Addr×NK×Addr×V)} (st:∀a ys,H a=some (.tup ys)->H' a=some (.tup ys)) (h:DoR H rest):DoR H' rest:=fun r hr=>⟨st _ _ (h r hr).1,NKr.mono st (h r hr).2.1,(h r hr).2.2⟩
theorem zda {K:Frag}:z7m K true dDictL zlk:=by
 intro H0 H xs ds z Q s r ho k
 unfold dDictL at ho
 split at ho<;>first | (cases ho;done) | skip
 rename_i ds
 split at ho<;>first | (cases ho;done) | skip
 rename_i ks vs hp
 split at ho<;>first | (cases ho;done) | skip
 rename_i hc
 cases ho
 obtain ⟨x,rfl,q1⟩:=r.uno
 simp only [RD] at q1
 obtain ⟨a,ys,rfl,h1,ra⟩:=q1
 obtain ⟨rest,rfl,e2,e3,e4,e5⟩:=zd9 hp ra hc.2.2
 have hz:rest.length<=sizeLine:=by rw [e5];exact Nat.le_trans hc.2.1 (by rw [sizeLine_eq];decide)
 refine ⟨a,rest,rfl,s _ _ h1,e2.mono fun b ys q=>s _ _ q,by rw [e3];exact hc.1,hz,fun p ob hp hq=>k _ _ (.new s hp fun H' hH=>?_)⟩
 simp only [OB]
 refine ⟨_,_,ob,hH,by rw [List.map_map];exact e3,⟨by rw [List.map_map];exact e3 ▸ hc.1,fun q hq'=>?_,hq,by rw [List.length_map];exact hz⟩,e4⟩
 obtain ⟨r',hr',rfl⟩:=List.mem_map.mp hq'
 exact (e2 r' hr').2
section
open HT
open PySem.SeqAt
open PySem.AutoSeq1 (wpAny_loadPart')
open PySem.MeetsSeq PySem.MeetsSeq2 PySem.MeetsSeq3
end
end L2
namespace L2
open PySem PySem.Spec PyProof.Rows
end L2
set_option maxHeartbeats 1000000
namespace L2
open PySem PySem.Spec PyProof.Rows
section
variable {hp:Heap} {z TI TO i1 i2 l1 l2:Addr} {a b x y:Value} {k:Nat}
theorem zjr (D:ZipApart z TI TO i1 i2 l1 l2) (hz:hp.get? z=some (z6z TI TO .none)) (hTO:hp.get? TO=some (z0h a b)) (h1:hp.get? i1=some (z0a l1 k)) (h2:hp.get? i2=some (z0a l2 k)) :
  (zHF hp z TO i1 i2 x y (up1 k) (up1 k)).get? z=some (z6z TI TO (rawInt hp.objs.size))/\(zHF hp z TO i1 i2 x y (up1 k) (up1 k)).get? TO=some (z0h x y)/\(zHF hp z TO i1 i2 x y (up1 k) (up1 k)).get? hp.objs.size=some (z0h x y) /\
  (zHF hp z TO i1 i2 x y (up1 k) (up1 k)).get? i1=some (z0a l1 (k+1))/\(zHF hp z TO i1 i2 x y (up1 k) (up1 k)).get? i2=some (z0a l2 (k+1)) /\
  ∀c o,c≠z->c≠TO->c≠i1->c≠i2->hp.get? c=some o->(zHF hp z TO i1 i2 x y (up1 k) (up1 k)).get? c=some o:=by
 have z1:(zH1 hp z).get? z=some (z6z TI TO .ellipsis):=by unfold zH1;rw [Heap.get?_update_self _ hz rfl];rfl
 have zn:∀{c},c≠z->(zH1 hp z).get? c=hp.get? c:=fun n=>z1r n
 have t2:((zH1 hp z).update i1 (up1 k)).get? TO=some (z0h a b):=by rw [z1r D.TOi1,zn D.TOz];exact hTO
 have t3:(((zH1 hp z).update i1 (up1 k)).update TO (Obj.mapSeq (·.setIfInBounds 0 x))).get? TO=some (z0h x b):=by rw [Heap.get?_update_self _ t2 rfl];rfl
 have i2':(((zH1 hp z).update i1 (up1 k)).update TO (Obj.mapSeq (·.setIfInBounds 0 x))).get? i2=some (z0a l2 k):=by rw [z1r D.TOi2.symm,z1r D.i12.symm,zn D.i2z];exact h2
 have u2:(zH4 hp z TO i1 i2 x (up1 k) (up1 k)).get? i2=some (z0a l2 (k+1)):=by
  unfold zH4;rw [Heap.get?_update_self _ i2' rfl];simp [z0a,Obj.mapFields,rawInt]
 have u1:(zH4 hp z TO i1 i2 x (up1 k) (up1 k)).get? i1=some (z0a l1 (k+1)):=by
  unfold zH4
  rw [z1r D.i12,z1r D.TOi1.symm,Heap.get?_update_self _ (show (zH1 hp z).get? i1=some (z0a l1 k) by rw [zn D.i1z];exact h1) rfl]
  simp [z0a,Obj.mapFields,rawInt]
 have u3:(zH4 hp z TO i1 i2 x (up1 k) (up1 k)).get? TO=some (z0h x b):=by unfold zH4;rw [z1r D.TOi2];exact t3
 have u4:(zH4 hp z TO i1 i2 x (up1 k) (up1 k)).get? z=some (z6z TI TO .ellipsis):=by unfold zH4;rw [z1r D.i2z.symm,z1r D.TOz.symm,z1r D.i1z.symm];exact z1
 have u5:∀c o,c≠z->c≠TO->c≠i1->c≠i2->hp.get? c=some o->(zH4 hp z TO i1 i2 x (up1 k) (up1 k)).get? c=some o:=fun c o c1 c2 c3 c4 e=>by
  unfold zH4;rw [z1r c4,z1r c2,z1r c3,zn c1];exact e
 have sz:((zH4 hp z TO i1 i2 x (up1 k) (up1 k)).update TO (Obj.mapSeq (·.setIfInBounds 1 y))).objs.size=hp.objs.size:=by
  unfold zH4 zH1;rw [Heap.size_update,Heap.size_update,Heap.size_update,Heap.size_update,Heap.size_update]
 have nz:hp.objs.size≠z:=Nat.ne_of_gt (Heap.lt_size hz)
 exact zwx D u1 u2 u3 u4 u5 sz nz
end
section
variable {prog:Program} {w:World} {A:Around} {E:Value->Shared->Prop} {s:Shared} {z TI TO i1 i2 l1 l2:Addr} {a b x y:Value} {k:Nat} {xs ys:Array Value}
theorem zek {Q:Option Value->Shared->Prop} (D:ZipApart z TI TO i1 i2 l1 l2) (hz:s.heap.get? z=some (z6z TI TO .none)) (hTI:s.heap.get? TI=some (z0h (.ref i1) (.ref i2))) (hTO:s.heap.get? TO=some (z0h a b))
  (h1:s.heap.get? i1=some (z0a l1 k)) (h2:s.heap.get? i2=some (z0a l2 k)) (hl1:s.heap.IsTuple l1 xs) (hl2:s.heap.IsTuple l2 ys) (hx:xs[k]?=some x) (hy:ys[k]?=some y)
  (hQ:Q (some (.ref s.heap.objs.size)) { s with heap:=zHF s.heap z TO i1 i2 x y (up1 k) (up1 k) }):wpAny (model prog w) A (pyNext (.ref z)) Q E s:=by
 have hT:s.TypeIs (.ref z) "zip":=⟨_,hz,rfl⟩
 have k1:∀{c o},c≠z->s.heap.get? c=some o->(zH1 s.heap z).get? c=some o:=fun n e=>by unfold zH1;rw [z1r n];exact e
 have g1:zgy i1 x (up1 k) A.in1 { s with heap:=zH1 s.heap z }:=zai (k1 D.i1z h1) (let ⟨o,ho,r⟩:=hl1;⟨o,k1 D.l1z ho,r⟩) hx
 have k3:∀{c o},c≠z->c≠i1->c≠TO->s.heap.get? c=some o->(((zH1 s.heap z).update i1 (up1 k)).update TO (Obj.mapSeq (·.setIfInBounds 0 x))).get? c=some o:=fun n1 n2 n3 e=>by rw [z1r n3,z1r n2];exact k1 n1 e
 have g2:zgy i2 y (up1 k) A.in1 { s with heap:=((zH1 s.heap z).update i1 (up1 k)).update TO (Obj.mapSeq (·.setIfInBounds 0 x)) }:=zai (k3 D.i2z D.i12.symm D.TOi2.symm h2) (let ⟨o,ho,r⟩:=hl2;⟨o,k3 D.l2z D.l2i1 D.l2TO ho,r⟩) hy
 unfold pyNext
 exact wpAny_bind (wpAny_attempt (wpAny_callSpecial?_slot (name:=Str.ofString "__next__") hT F.slot_zip_next
  (call_meets F.slot_zip_next hT F.entry_zip_next (F.args_zip_next_1 _) (zh0 z TI TO i1 i2 a b x y (up1 k) (up1 k) D.TOz D.TOi1 D.TOi2 D.i1z D.i2z) ⟨hz,hTI,hTO,g1,g2,wpAny_pure hQ⟩)))
theorem zh9 {Q:Option Value->Shared->Prop} (hh:A.handled=none) (D:ZipApart z TI TO i1 i2 l1 l2) (hz:s.heap.get? z=some (z6z TI TO .none)) (hTI:s.heap.get? TI=some (z0h (.ref i1) (.ref i2))) (hTO:s.heap.get? TO=some (z0h a b))
  (h1:s.heap.get? i1=some (z0a l1 k)) (hl1:s.heap.IsTuple l1 xs) (hx:xs[k]?=none) (hQ:∀h',(∀c o,c≠z->c≠i1->s.heap.get? c=some o->h'.get? c=some o)->Q none { s with heap:=h' }):wpAny (model prog w) A (pyNext (.ref z)) Q E s:=by
 have hT:s.TypeIs (.ref z) "zip":=⟨_,hz,rfl⟩
 have k1:∀{c o},c≠z->s.heap.get? c=some o->(zH1 s.heap z).get? c=some o:=fun n e=>by unfold zH1;rw [z1r n];exact e
 have g1:zo2 i1 A.in1 { s with heap:=zH1 s.heap z }:=zjm hh (k1 D.i1z h1) (let ⟨o,ho,r⟩:=hl1;⟨o,k1 D.l1z ho,r⟩) hx
 unfold pyNext
 refine wpAny_bind (wpAny_attempt (wpAny_callSpecial?_slot (name:=Str.ofString "__next__") hT F.slot_zip_next
  (call_meets F.slot_zip_next hT F.entry_zip_next (F.args_zip_next_1 _) (zjn z TI TO i1 i2 a b D.i1z) ⟨hz,hTI,hTO,g1,fun h' e kp he=>?_⟩)))
 obtain ⟨o,ho,hc⟩:=he
 exact wpAny_bind (wpAny_isInstance (T:="StopIteration") (b:=true) ⟨o,ho,hc⟩ isSubtype_stop (wpAny_pure (hQ h' kp)))
end
theorem zel {P:Program} {w:World} {K:Frag} {elts:List Expr} {k:Nat} {pos:Pos} {z TI TO i1 i2 l1 l2:Addr} {xs ys:List V} (D:ZipApart z TI TO i1 i2 l1 l2) (hlen:xs.length=ys.length) :
  Turn P w K (.Tuple elts k pos) (ItP (fun H=>Rd H l1 (.tup xs)/\Rd H l2 (.tup ys)) (xs.zip ys)) [z,TI,TO,i1,i2] z
   (fun i h=>h.get? z=some (z6z TI TO .none)/\h.get? TI=some (z0h (.ref i1) (.ref i2))/\(∃a b,h.get? TO=some (z0h a b))/\h.get? i1=some (z0a l1 i)/\h.get? i2=some (z0a l2 i)) where
 mem:=by simp
 obj:=fun i h ⟨hz,hTI,⟨a,b,hTO⟩,h1,h2⟩ c hc=>by
  have hc':c=z\/c=TI\/c=TO\/c=i1\/c=i2:=by simpa using hc
  rcases hc' with rfl | rfl | rfl | rfl | rfl
  . exact ⟨_,hz,fun v e=>by cases e⟩
  . exact ⟨_,hTI,fun v e=>by cases e⟩
  . exact ⟨_,hTO,fun v e=>by cases e⟩
  . exact ⟨_,h1,fun v e=>by cases e⟩
  . exact ⟨_,h2,fun v e=>by cases e⟩
 keep:=fun i h h' ⟨hz,hTI,⟨a,b,hTO⟩,h1,h2⟩ kp=>⟨kp z (by simp) _ hz,kp TI (by simp) _ hTI,⟨a,b,kp TO (by simp) _ hTO⟩,kp i1 (by simp) _ h1,kp i2 (by simp) _ h2⟩
 item:=by
  intro X hP hw hK hc i pins s U H E I hf st hg
  subst hP hw hK
  obtain ⟨⟨hS1,hS2⟩,hlt⟩:=hg
  obtain ⟨hz,hTI,⟨a0,b0,hTO⟩,h1,h2⟩:=st
  obtain ⟨its1,r1,p1,z1⟩:=I.tuple (.inl hS1)
  obtain ⟨its2,r2,p2,z2⟩:=I.tuple (.inl hS2)
  have le1:=r1.length
  have le2:=r2.length
  rw [List.length_zip] at hlt
  obtain ⟨a,ea⟩:∃a,xs[i]?=some a:=⟨xs[i]'(by omega),by simp⟩
  obtain ⟨b,eb⟩:∃b,ys[i]?=some b:=⟨ys[i]'(by omega),by simp⟩
  obtain ⟨x,q1,ru1⟩:=r1.get ea
  obtain ⟨y,q2,ru2⟩:=r2.get eb
  obtain ⟨f1,f2,f3,f4,f5,f6⟩:=zjr (x:=x) (y:=y) D hz hTO h1 h2
  refine zek D hz hTI hTO h1 h2 p1 p2 (by simpa using q1) (by simpa using q2) ⟨.ref s.heap.objs.size,rfl,?_⟩
  generalize zHF s.heap z TO i1 i2 x y (up1 i) (up1 i)=HF at f1 f2 f3 f4 f5 f6
  refine wpAny_letOwnedTupleGo_zip (TI:=TI) (TO:=TO) f1 fun h' hz' hs'=>?_
  have nT:∀{c o},s.heap.get? c=some o->s.heap.objs.size≠c:=fun e=>Nat.ne_of_gt (Heap.lt_size e)
  have up:∀{c o},c≠z->HF.get? c=some o->h'.get? c=some o:=fun n e=>hs'.extBut _ _ n e
  have ht:h'.IsTuple s.heap.objs.size ([x,y]:List Value).toArray:=⟨_,up (nT hz) f3,rfl,_,rfl⟩
  have sub:∀c∈[z,TO,i1,i2],z9p X pins H c:=fun c hc'=>hf c (by
   have:c=z\/c=TO\/c=i1\/c=i2:=by simpa using hc'
   rcases this with rfl | rfl | rfl | rfl<;>simp)
  have I2:=I.turnedT (tk:=s.toks) (h':=h') (xs:=[a,b]) (its:=[x,y]) sub (fun c o hcw e=>by
   have hc':c≠z/\c≠TO/\c≠i1/\c≠i2:=by simpa using hcw
   exact up hc'.1 (f6 c o hc'.1 hc'.2.1 hc'.2.2.1 hc'.2.2.2 e)) (Nat.le_refl _) ht (.cons ru1 (.cons ru2 .nil)) zfq
  have HT:H s.heap.objs.size=none:=I.hok.fresh (Nat.le_refl _)
  refine ⟨.ref s.heap.objs.size,upd H s.heap.objs.size (.tup [a,b]),I2,rfl,⟨s.heap.objs.size,a,b,rfl,HT,rfl,?_⟩,⟨hz',up D.TIz (f6 _ _ D.TIz D.TITO D.TIi1 D.TIi2 hTI),⟨x,y,up D.TOz f2⟩,up D.i1z f4,up D.i2z f5⟩,fun c hc'=>?_⟩
  . rw [List.getElem?_zip_eq_some];exact ⟨ea,eb⟩
  . rw [z0d]
    . exact (hf c hc').1
    . intro e
      have hc'':c=z\/c=TI\/c=TO\/c=i1\/c=i2:=by simpa using hc'
      rcases hc'' with q | q | q | q | q<;>rw [q] at e
      . exact nT hz e.symm
      . exact nT hTI e.symm
      . exact nT hTO e.symm
      . exact nT h1 e.symm
      . exact nT h2 e.symm
 done:=by
  intro X hP hw hK hc i pins s U H E I hf st hg
  subst hP hw hK
  obtain ⟨⟨hS1,hS2⟩,hle⟩:=hg
  obtain ⟨hz,hTI,⟨a0,b0,hTO⟩,h1,h2⟩:=st
  obtain ⟨its1,r1,p1,z1⟩:=I.tuple (.inl hS1)
  have le1:=r1.length
  rw [List.length_zip] at hle
  have sub:∀c∈[z,i1],z9p X pins H c:=fun c hc'=>hf c (by
   have:c=z\/c=i1:=by simpa using hc'
   rcases this with rfl | rfl<;>simp)
  refine zh9 (I.ok.hd hc) D hz hTI hTO h1 p1 (by simp;omega) fun h' kp=>⟨rfl,?_⟩
  exact I.turnedN (tk:=s.toks) sub fun c o hcw e=>by
   have hc':c≠z/\c≠i1:=by simpa using hcw
   exact kp c o hc'.1 hc'.2 e
 self:=fun A i s Q E st h=>wpAny_pyIter_zip (TI:=TI) (TO:=TO) (f0:=.none) st.1 h
noncomputable def zt4 (n:Nat) (l1 l2:Addr):List Obj:=[z0a l1 0,z0a l2 0,z0h (.ref n) (.ref (n+1)),z0h .none .none,z6z (n+2) (n+3) .none]
section
open PySem.SeqAt
open PySem.AutoSeq1 (wpAny_loadPart')
theorem zem (l1 l2:Addr) (xs ys:Array Value) :
  Meets (Builtin.«zip.__new__» ⟨[.type "zip",.ref l1,.ref l2],[]⟩) (fun _ R s=>s.heap.IsTuple l1 xs/\s.heap.IsTuple l2 ys/\R (.ok (.ret (.ref (s.heap.objs.size+4)))) { s with heap:=zN s.heap (zt4 s.heap.objs.size l1 l2) }):=
 .of_wp fun prog w A R s h=>by
  obtain ⟨hp,g,dr,tk,os⟩:=s;obtain ⟨q1,q2,h⟩:=h
  have f0:=sub_zip
  have a1:Heap.IsTuple (Shared.heap ⟨hp,g,dr,tk,os⟩) l1 xs:=q1
  have a2:Heap.IsTuple (Shared.heap ⟨hp.push { cls:=.type "tuple_iterator",data:=.fields #[.ref l1,.int 0 0] },g,dr,tk,os⟩) l2 ys:=Heap.IsTuple.push q2 _
  wp_walk using wpAny_pyIter_tuple a1,wpAny_pyIter_tuple a2
  refine ⟨_,rfl,?_⟩
  have s1:(hp.push (z0a l1 0)).objs.size=hp.objs.size+1:=Heap.size_push ..
  have s2:((hp.push (z0a l1 0)).push (z0a l2 0)).objs.size=hp.objs.size+2:=by rw [Heap.size_push,s1]
  have s3:(((hp.push (z0a l1 0)).push (z0a l2 0)).push (z0h (.ref hp.objs.size) (.ref (hp.push (z0a l1 0)).objs.size))).objs.size=hp.objs.size+3:=by rw [Heap.size_push,s2]
  have s4:((((hp.push (z0a l1 0)).push (z0a l2 0)).push (z0h (.ref hp.objs.size) (.ref (hp.push (z0a l1 0)).objs.size))).push (z0h .none .none)).objs.size=hp.objs.size+4:=by rw [Heap.size_push,s3]
  show R (.ok (.ret (.ref ((((hp.push (z0a l1 0)).push (z0a l2 0)).push (z0h (.ref hp.objs.size) (.ref (hp.push (z0a l1 0)).objs.size))).push (z0h .none .none)).objs.size))) { heap:=((((hp.push (z0a l1 0)).push (z0a l2 0)).push (z0h (.ref hp.objs.size) (.ref (hp.push (z0a l1 0)).objs.size))).push (z0h .none .none)).push (z6z ((hp.push (z0a l1 0)).push (z0a l2 0)).objs.size (((hp.push (z0a l1 0)).push (z0a l2 0)).push (z0h (.ref hp.objs.size) (.ref (hp.push (z0a l1 0)).objs.size))).objs.size .none),gens:=g,drawn:=dr,toks:=tk,os:=os }
  rw [s4,s3,s2,s1]
  exact h
end
noncomputable def zt5 (ta:TA):TI:=fun U H R=>ta U H fun vs H1=>match vs with
 | [.ref l1,.ref l2]=>∃xs ys,Rd H1 l1 (.tup xs)/\Rd H1 l2 (.tup ys)/\xs.length=ys.length/\R (ItP (fun H=>Rd H l1 (.tup xs)/\Rd H l2 (.tup ys)) (xs.zip ys)) H1
 | _=>False
section
variable {X:Cx} {a b:Expr} {ta:TA} {p pos tpos:Pos} {elts:List Expr} {k:Nat}
theorem zjs (hg:Gl X "zip") (hm:X.mg "zip"=none) (ha:PA X [a,b] ta) (hs:starEach [a,b] X.env=[(false,eval a X.env),(false,eval b X.env)]:=by rfl) (hs2:starEach [b] X.env=[(false,eval b X.env)]:=by rfl) :
  PI X (.Tuple elts k tpos) (.Call (.Name "zip" p) [a,b] [] pos) (zt5 ta):=by
 intro pins s U H R I h
 refine Call_ (z6l I hg hm boot_zip (PyProof.Rows.callWith_type1 (thn (ha pos pins s U H _ I h) fun us s1 ⟨vs,H1,I1,r1,q1⟩=>?_) (by rw [hs,hs2]) (by rw [hs2];rfl)))
 dsimp only at q1
 split at q1
 . rename_i l1 l2
   obtain ⟨xs,ys,e1,e2,hlen,q⟩:=q1
   obtain ⟨u,w',rfl,ru,rw'⟩:=zmc r1
   cases ru;cases rw'
   obtain ⟨its1,rr1,p1,_⟩:=I1.tuple (.inl e1)
   obtain ⟨its2,rr2,p2,_⟩:=I1.tuple (.inl e2)
   have lt1:l1<s1.heap.objs.size:=by obtain ⟨o,ho,_⟩:=p1;exact Heap.lt_size ho
   have lt2:l2<s1.heap.objs.size:=by obtain ⟨o,ho,_⟩:=p2;exact Heap.lt_size ho
   refine callType_new F.called_zip (by decide) (F.typeCall_zip_2 _ _) (F.newCall_zip_2 _ _) (fun obj=>F.args_object_init_3 obj _ _) F.entry_zip_new (zem l1 l2 its1.toArray its2.toArray) ⟨p1,p2,?_⟩
   have g4:=zh2 [z0a l1 0,z0a l2 0,z0h (.ref s1.heap.objs.size) (.ref (s1.heap.objs.size+1)),z0h .none .none] (z6z (s1.heap.objs.size+2) (s1.heap.objs.size+3) .none) [] s1.heap rfl
   have g3:=zh2 [z0a l1 0,z0a l2 0,z0h (.ref s1.heap.objs.size) (.ref (s1.heap.objs.size+1))] (z0h .none .none) [z6z (s1.heap.objs.size+2) (s1.heap.objs.size+3) .none] s1.heap rfl
   have g2:=zh2 [z0a l1 0,z0a l2 0] (z0h (.ref s1.heap.objs.size) (.ref (s1.heap.objs.size+1))) [z0h .none .none,z6z (s1.heap.objs.size+2) (s1.heap.objs.size+3) .none] s1.heap rfl
   have g1:=zh2 [z0a l1 0] (z0a l2 0) [z0h (.ref s1.heap.objs.size) (.ref (s1.heap.objs.size+1)),z0h .none .none,z6z (s1.heap.objs.size+2) (s1.heap.objs.size+3) .none] s1.heap rfl
   have g0:=zh2 [] (z0a l1 0) [z0a l2 0,z0h (.ref s1.heap.objs.size) (.ref (s1.heap.objs.size+1)),z0h .none .none,z6z (s1.heap.objs.size+2) (s1.heap.objs.size+3) .none] s1.heap rfl
   have kp:∀c o,s1.heap.get? c=some o->(zN s1.heap (zt4 s1.heap.objs.size l1 l2)).get? c=some o:=fun c o e=>zbz _ e
   refine ⟨⟨_,g4,rfl⟩,?_⟩
   refine wpAny_pyIter_zip (TI:=s1.heap.objs.size+2) (TO:=s1.heap.objs.size+3) (f0:=.none) g4 ⟨s1.heap.objs.size+4,[s1.heap.objs.size+4,s1.heap.objs.size+2,s1.heap.objs.size+3,s1.heap.objs.size,s1.heap.objs.size+1],_,_,H1,rfl,I1.kept (t':=s1.toks) kp,zel (zfs lt1 lt2) hlen,⟨g4,g2,⟨_,_,g3⟩,g0,g1⟩,fun c hc=>?_,q⟩
   have hc':s1.heap.objs.size<=c:=by
    have:c=s1.heap.objs.size+4\/c=s1.heap.objs.size+2\/c=s1.heap.objs.size+3\/c=s1.heap.objs.size\/c=s1.heap.objs.size+1:=by simpa using hc
    rcases this with q | q | q | q | q<;>rw [q]<;>first | exact Nat.le_add_right _ _ | exact Nat.le_refl _
   exact I1.fpOk hc' (I1.hok.fresh hc')
 . exact q1.elim
end
noncomputable def z3k (fs:DE->R (List D)):DE->R (List D):=fun ρ=>(fs ρ).bind fun ds=>R.of (match ds with
 | [.tup es,.tup gs]=>if es.length=gs.length then some ((es.zip gs).map fun p=>D.tup [p.1,p.2]) else none
 | _=>none)
theorem zha {X:Cx} {EX:XW} {elts:List Expr} {k:Nat} {a b:Expr} {p pos tpos:Pos} {fs:DE->R (List D)} (hg:Gl X "zip") (hm:X.mg "zip"=none) (ha:QA X EX [a,b] fs) (hs:starEach [a,b] X.env=[(false,eval a X.env),(false,eval b X.env)]:=by rfl) (hs2:starEach [b] X.env=[(false,eval b X.env)]:=by rfl) :
  QI X EX false (.Tuple elts k tpos) (.Call (.Name "zip" p) [a,b] [] pos) (z3k fs):=⟨(zjs hg hm ha.h hs hs2).imp fun U H Q ⟨sx,ρ,H0,s,e,h⟩=>by
 unfold z3k at h
 rw [Rk.bind] at h
 refine TAd.go sx s e h fun ds h vs H1 H1' s1 e1 r1=>?_
 obtain ⟨es,hd,h⟩:=h.of
 split at hd<;>first | cases hd | skip
 split at hd<;>cases hd
 rename_i hl0
 obtain ⟨x,y,rfl,q1,q2⟩:=r1.duo
 obtain ⟨l,xs,rfl,hl,rl⟩:=q1.tup
 obtain ⟨l',ys,rfl,hl',rl'⟩:=q2.tup
 exact ⟨xs,ys,.inl (e1.2.1 _ _ hl),.inl (e1.2.1 _ _ hl'),by rw [<-rl.length,<-rl'.length];exact hl0,h _ H1 H1' s1 e1 (zg9 (fun H s=>⟨.inl (s _ _ hl),.inl (s _ _ hl')⟩) rl rl')⟩⟩
end L2
namespace L2
open PySem PySem.Spec PyProof.Rows
abbrev Kp (is:List Nat) (U σ':St):Prop:=∀i∈is,σ'[i]?=U[i]?
noncomputable def zt6 (is:List Nat) (De:Ends) (U:St):Ends:={ De with nx:=fun σ' H'=>Kp is U σ'->De.nx σ' H',bk:=fun σ' H'=>Kp is U σ'->De.bk σ' H',ct:=fun σ' H'=>Kp is U σ'->De.ct σ' H' }
noncomputable def TSk (K:Frag) (EX:XW) (is:List Nat) (g:DS->SR):TS:=fun De U H=>TSd K EX false g (zt6 is De U) U H
structure QK (X:Cx) (EX:XW) (is:List Nat) (st:Stmt) (g:DS->SR):Prop where
 h:PS X st (TSk X.K EX is g)
structure QKB (X:Cx) (EX:XW) (is:List Nat) (sts:List Stmt) (g:DS->SR):Prop where
 h:PSs X sts (TSk X.K EX is g)
noncomputable def TGk (K:Frag) (is:List Nat) (tt:Tg):TG:=fun v U H Q=>TGd K tt v U H fun σ' H'=>Kp is U σ'->Q σ' H'
structure QGk (X:Cx) (is:List Nat) (tg:Expr) (tt:Tg):Prop where
 h:PG X tg (TGk X.K is tt)
theorem SK.mon {K:Frag} {EX:XW} {fr:Bool} {Hc Hb:Hp} {D1 D2:Ends} {r:SR} (h:SK K EX fr Hc Hb D1 r) (hn:∀U H,D1.nx U H->D2.nx U H) (hb:∀U H,D1.bk U H->D2.bk U H) (hc:∀U H,D1.ct U H->D2.ct U H) (hr:∀v H,D1.rt v H->D2.rt v H):SK K EX fr Hc Hb D2 r:=by
 cases r with
 | nx ρ=>exact fun U H H0 R=>hn U H (h U H H0 R)
 | bk ρ=>exact fun U H H0 R=>hb U H (h U H H0 R)
 | ct ρ=>exact fun U H H0 R=>hc U H (h U H H0 R)
 | rt d=>exact fun v H o=>hr v H (h v H o)
 | er x=>exact h
 | st=>exact h
theorem TSd.mon {K:Frag} {EX:XW} {fr:Bool} {D1 D2:Ends} {g:DS->SR} {U:St} {H:Hp} (h:TSd K EX fr g D1 U H) (hn:∀U H,D1.nx U H->D2.nx U H) (hb:∀U H,D1.bk U H->D2.bk U H) (hc:∀U H,D1.ct U H->D2.ct U H) (hr:∀v H,D1.rt v H->D2.rt v H):TSd K EX fr g D2 U H:=by
 obtain ⟨Hc,Hb,H0,ρ,sb,R,h⟩:=h
 exact ⟨Hc,Hb,H0,ρ,sb,R,h.mon hn hb hc hr⟩
theorem Kp.trans {is:List Nat} {a b c:St} (h:Kp is a b) (k:Kp is b c):Kp is a c:=fun i hi=>(k i hi).trans (h i hi)
theorem Kp.set {is:List Nat} {U:St} {i:Nat} {v:Option V} (h:i∉is):Kp is U (U.set i v):=fun j hj=>List.getElem?_set_ne (fun e:i=j=>h (by rw [e];exact hj))
theorem z96 {is:List Nat}:∀{js:List Nat} {xs:List V} {U:St} {H:Hp} {Q:St->Hp->Prop},(∀j∈js,j∉is)->z61 js xs U H (fun σ' H'=>Kp is U σ'->Q σ' H')->z61 js xs U H Q
 | [],xs,U,H,Q,_,h=>by
  cases xs with
  | nil=>exact h fun _ _=>rfl
  | cons _ _=>exact h
 | j::js,xs,U,H,Q,hd,h=>by
  cases xs with
  | nil=>exact h
  | cons x xs=>
   refine z96 (js:=js) (xs:=xs) (U:=U.set j (some x)) (fun k hk=>hd k (List.mem_cons_of_mem _ hk)) ?_
   have up:∀(js:List Nat) (xs:List V) (U:St) (A B:St->Hp->Prop),(∀σ' H',A σ' H'->B σ' H')->z61 js xs U H A->z61 js xs U H B:=by
    intro js
    induction js with
    | nil=>intro xs U A B i h;cases xs with
     | nil=>exact i _ _ h
     | cons _ _=>exact h
    | cons k ks ih=>intro xs U A B i h;cases xs with
     | nil=>exact h
     | cons y ys=>exact ih ys _ A B i h
   exact up js xs _ _ _ (fun σ' H' q k=>q (Kp.trans (Kp.set (hd j List.mem_cons_self)) k)) h
section
variable {X:Cx} {EX:XW} {is:List Nat} {st:Stmt} {sts:List Stmt} {c e:Expr} {f fv fk:DE->R D} {t:DE->R Bool} {g g1 g2:DS->SR} {pos:Pos} {m:List Bool}
theorem zll (h:QK X EX is st g):QKB X EX is [st] g:=⟨zf2 h.h⟩
theorem zoa (h1:QK X EX is st g1) (h2:QKB X EX is sts g2):QKB X EX is (st::sts) (z1e g1 g2):=⟨(zcf h1.h h2.h).imp fun De U H q=>by
 have q:=zqk q
 unfold zul at q ⊢
 refine TSd.mon q (fun σ1 H1 n k=>?_) (fun _ _ b=>b) (fun _ _ b=>b) fun _ _ b=>b
 exact TSd.mon n (fun σ2 H2 n2 k2=>n2 (k.trans k2)) (fun σ2 H2 n2 k2=>n2 (k.trans k2)) (fun σ2 H2 n2 k2=>n2 (k.trans k2)) fun _ _ b=>b⟩
theorem zwz {i:Nat} {x:Str} {pos':Pos} {fr':Bool} (hni:i∉is) (hN:X.N.Nodup) (hi:X.N[i]?=some x) (hx:Loc X.env.scope x) (he:QE X EX fr' e f) (hs:swapsWith e (some (.Name x pos')) pos.line X.env=pure false:=by rfl) (hf:X.fn x=true\/X.env.scope.names.lookup x=some .local:=by first | exact .inl rfl | exact .inr rfl | assumption) :
  QK X EX is (.Assign [.Name x pos'] e pos) (z34 fr' i m f):=⟨(zkh hN hi hx he.h hs hf).imp fun De U H q=>by
 have q:=zql q
 unfold zp8 z66 at q ⊢
 exact TEd.mono' q fun v H' n=>n (Kp.set hni)⟩
theorem zt7 {i:Nat} {o ix:Expr} {tpos:Pos} (hu:X.A.units+64<cLine) (ho:PE X o (zew i)) (hk:QE X EX false ix fk) (hv:QE X EX false e fv)
  (ha:∀v,assign (.Subscript o ix tpos) X.env v=(do
   let ov <-holding [v] (eval o X.env)
   let iv <-holding [v,ov] (eval ix X.env)
   standAt tpos
   holding [v,ov,iv] (setItem ov iv v)
   release [v,ov,iv] []):=by intro _;rfl) (hs:swapsWithSole [.Subscript o ix tpos] e pos.line X.env=pure false:=by rfl) (hw:swappedStores [.Subscript o ix tpos] e X.env=pure none:=by rfl)
  (h1:(assignEach [.Subscript o ix tpos] X.env).map (·.2)=[assign (.Subscript o ix tpos) X.env]:=by rfl):QK X EX is (.Assign [.Subscript o ix tpos] e pos) (zig dSetN i m fk fv):=⟨(zkg hv.h (zkf ho hk.h (zsw hu) ha) hs hw h1).imp fun De U H q=>by
 have q:=zqm zgv q
 unfold zp8 zua zt6 Kp at q
 simp only [implies_true,true_implies] at q
 exact q⟩
theorem zze {js:List Nat} {ts:List Expr} {k:Nat} {pos:Pos} (hni:∀j∈js,j∉is) (hc:X.calm=true) (h:QGs X ts js) (hn:(assignEach ts X.env).length=js.length:=by rfl) (hst:(assignEach ts X.env).findIdx? (·.1)=none:=by rfl):QGk X is (.Tuple ts k pos) (.t js):=⟨(zfv hc h.h hn hst).imp fun v U H Q q=>by
 have q:=zy3 q
 unfold ze4 at q ⊢
 cases v<;>simp only at q ⊢
 split at q
 . exact ⟨q.1,z96 hni q.2⟩
 . exact ⟨q.1,z96 hni q.2⟩
 . exact q⟩
theorem zx0 {tg iter:Expr} {tt:Tg} {body:List Stmt} {kp:Bool} {fi:DE->R (List D)} (hp:PassesOwn (model X.prog X.w) X.A X.env X.xe) (hc:X.calm=true) (hi:QI X EX kp tg iter fi) (hg:QGk X is tg tt) (hb:QKB X EX is body g)
  (hs:∀x,foldedSetIterable iter X.env x=pure x:=by intro _;rfl):QK X EX is (.For tg iter body [] pos) (zbd kp m fi tt g):=⟨(zfp hp hc hi.h hg.h hb.h hs).imp fun De U H q=>by
 obtain ⟨sx,ρ,H0,s,e,h⟩:=zqo q
 refine ⟨sx,ρ,H0,s,e,h.mono fun ds z J H' H0' s' e' it=>?_⟩
 obtain ⟨W,⟨n,w0⟩,turn⟩:=z J H' H0' s' e' it
 refine ⟨fun i n σ1 H1=>W i n σ1 H1/\Kp is U σ1,⟨n,w0,fun _ _=>rfl⟩,fun i n σ1 H1 ⟨w,k⟩=>?_⟩
 rcases turn i n σ1 H1 w with ⟨a,b⟩ | ⟨go,N,hN,step⟩
 . exact .inl ⟨a,b k⟩
 . refine .inr ⟨go,fun σ' H'=>N σ' H'/\Kp is U σ',fun σ' H' ⟨a,b⟩=>?_,fun x H2 y=>?_⟩
   . obtain ⟨n',hl,w'⟩:=hN σ' H' a
     exact ⟨n',hl,w',b⟩
   . obtain ⟨Hc,Hb,H3,ρ3,d,ρ4,I,r,e3,q3⟩:=step x H2 y
     refine ⟨Hc,Hb,H3,ρ3,d,ρ4,I,r,e3,fun σ' I' k2=>?_⟩
     have kk:=k.trans k2
     exact TSd.mon (q3 σ' I') (fun σ5 H5 a k5=>⟨a,kk.trans k5⟩) (fun σ5 H5 a k5=>a (kk.trans k5)) (fun σ5 H5 a k5=>⟨a,kk.trans k5⟩) fun _ _ a=>a⟩
end
noncomputable def spU (K:Frag) (mU:List D->R D) (n:Nat):Sp:=fun vs H Q _=>∃(d:D) (ds:List D) (a:Addr) (ws:List V) (H0:Hp),vs=.ref a::ws/\ds.length+1=n/\Same H0 H/\H0 a=none/\OB K H0 H a d/\RDs K H0 ds ws /\
 Rk (fun _=>False) (mU (d::ds)) fun d'=>∀H' H0',Same (hid [a] H) H'->Ext H0 (hid [a] H) H0' H'->H0' a=none->OB K H0' H' a d'->Q .non H'
noncomputable def zx1 (n k:Nat) (g:DS->SR):List D->R D
 | d::r=>if r.length+1=n then (match g (.ow d::(r.map .im++List.replicate k .em)) with
  | .nx (.ow d'::_)=>.ok d'
  | _=>.st) else .st
 | []=>.st
theorem RDs.atR {K:Frag} {H:Hp}:∀{ds:List D} {ws:List V},RDs K H ds ws->∀(i:Nat) d,ds[i]?=some d->∃w,ws[i]?=some w/\RD K H d w
 | [],_,_,i,d,q=>by simp at q
 | e::es,_,r,i,d,q=>by
  simp only [RDs] at r
  obtain ⟨y,ys,rfl,r1,r2⟩:=r
  cases i with
  | zero=>cases q;exact ⟨y,rfl,r1⟩
  | succ i=>exact RDs.atR r2 i d q
theorem zt8 {K:Frag} {H0 H:Hp} {d:D} {ds:List D} {a:Addr} {ws:List V} (s:Same H0 H) (h0:H0 a=none) (ob:OB K H0 H a d) (r:RDs K H0 ds ws) (k:Nat) :
  RS K H0 (hid [a] H) H0 (.ow d::(ds.map .im++List.replicate k .em)) (some (.ref a)::(ws.map some++List.replicate k none)) H:=by
 have hl:=r.length
 have tail:∀(i:Nat) (s:Sl),(ds.map Sl.im++List.replicate k Sl.em)[i]?=some s->s=.em\/∃e,s=.im e/\ds[i]?=some e:=fun i s q=>by
  by_cases hi:i<ds.length
  . rw [List.getElem?_append_left (by simpa using hi),List.getElem?_map,List.getElem?_eq_getElem hi] at q
    exact .inr ⟨ds[i],(Option.some.inj q).symm,List.getElem?_eq_getElem hi⟩
  . rw [List.getElem?_append_right (by simpa using hi)] at q
    exact .inl (List.mem_replicate.mp (List.mem_of_getElem? q)).2
 have zero:∀(i:Nat) e,(Sl.ow d::(ds.map Sl.im++List.replicate k Sl.em))[i]?=some (.ow e)->i=0/\d=e:=fun i e q=>by
  cases i with
  | zero=>cases q;exact ⟨rfl,rfl⟩
  | succ i=>rcases tail i _ q with z | ⟨_,z,_⟩<;>cases z
 refine ⟨fun b o h=>?_,⟨Same.refl _,s,fun a ha e=>e⟩,by simp [hl],fun i e q=>?_,fun i e q=>?_,fun i j e e' b qi qj si sj=>?_⟩
 . unfold hid at h;split at h
   . cases h
   . exact h
 . cases i with
   | zero=>cases q
   | succ i=>
    rcases tail i _ q with z | ⟨e',z,q'⟩
    . cases z
    . cases z
      obtain ⟨w,hw,rw'⟩:=r.atR i e q'
      refine ⟨w,?_,rw'⟩
      have hi:i<ws.length:=by
       apply Classical.byContradiction;intro hn
       rw [List.getElem?_eq_none (by omega)] at hw;cases hw
      show (ws.map some++List.replicate k none)[i]?=_
      rw [List.getElem?_append_left (by simpa using hi),List.getElem?_map,hw];rfl
 . obtain ⟨rfl,rfl⟩:=zero i e q
   exact ⟨a,rfl,h0,zst (List.mem_singleton.mpr rfl),ob⟩
 . obtain ⟨rfl,_⟩:=zero i e qi
   obtain ⟨rfl,_⟩:=zero j e' qj
   rfl
theorem fnU {P:Program} {w:World} {K:Frag} {mg:Str->Option Value} {base:Heap} {x qual:Str} {st:Stmt} {f:Addr} {fd:FuncData} {N ps:List Str} {k n kk:Nat} {g:DS->SR} (F:Fun K x qual st f fd) (S:FnScope N ps (z02 st)) (hps:ps.length=n) (hN:N.length=n+kk)
  (hbody:∀(cdv:Value) (A:Around) (outer:List Env) (s:Shared) (H:Hp) (E:XK),Room k (A.deeper (envOfC qual (z02 st) s.heap.objs.size f cdv)) ->
   QKB (zie (CX1 P w) P w K mg base N qual (z02 st) f cdv A outer s H E) F0 [0] (z0k st) g):FnOk P w K mg base (CX1 P w) (k+1) f fd ps (spU K (zx1 n kk g) n):=by
 refine F.okX S (fun vs H Q E h=>?_) (fun cdv A outer s H vs Q E hr h=>?_)
 . obtain ⟨d,ds,a,ws,H0,rfl,hn,_,_,_,r,_⟩:=h
   rw [List.length_cons,<-r.length,hn,hps]
 . refine ⟨_,(hbody cdv A outer s H E hr).h,?_⟩
   obtain ⟨d,ds,a,ws,H0,rfl,hn,s0,h0,ob,r,h⟩:=h
   have hl:=r.length
   have e:z5k N (.ref a::ws)=some (.ref a)::(ws.map some++List.replicate kk none):=by
    unfold z5k
    rw [List.length_cons,hN,<-hl,show n+kk - (ds.length+1)=kk by omega]
    rfl
   rw [e]
   refine ⟨H0,hid [a] H,H0,Sl.ow d::(ds.map Sl.im++List.replicate kk Sl.em),F0.same _,(zt8 s0 h0 ob r kk:RS K H0 (hid [a] H) H0 (Sl.ow d::(ds.map Sl.im++List.replicate kk Sl.em)) (some (.ref a)::(ws.map some++List.replicate kk none)) H),?_⟩
   unfold zx1 at h
   simp only at h
   rw [if_pos hn] at h
   cases q:g (Sl.ow d::(ds.map Sl.im++List.replicate kk Sl.em)) with
   | nx ρ=>
    rw [q] at h
    intro σ' H' H0' RR kp
    match ρ,h,RR with
    | .ow d'::r',h,RR=>
     obtain ⟨a',z1,z2,z3,z4⟩:=RR.ow 0 d' rfl
     have:=kp 0 (List.mem_singleton.mpr rfl)
     rw [z1] at this
     cases this
     exact h H' H0' RR.sb RR.ext z2 z4
    | [],h,_=>exact h.elim
    | .im _::_,h,_=>exact h.elim
    | .em::_,h,_=>exact h.elim
   | rt d=>rw [q] at h;exact h.elim
   | er x=>rw [q] at h;exact h.elim
   | bk ρ=>rw [q] at h;exact h.elim
   | ct ρ=>rw [q] at h;exact h.elim
   | st=>rw [q] at h;exact h.elim
noncomputable def zt9 (i:Nat) (m:List Bool) (mU:List D->R D) (n:Nat) (fs:DE->R (List D)):DS->SR:=fun ρ=>match ρ[i]? with
 | some (.ow _)=>(fs (vis m ρ)).toS fun ds=>match (z68 (z3z ds) m ρ)[i]? with
  | some (.ow d)=>if ds.length+1=n then (match mU (d::ds) with
   | .ok d'=>.nx ((z68 (z3z ds) m ρ).set i (.ow d'))
   | _=>.st) else .st
  | _=>.st
 | _=>.st
section
variable {K:Frag} {EX:XW} {fr:Bool} {De:Ends} {U:St} {H:Hp} {m:List Bool}
theorem RS.hidden {Hc Hb H0 H0' H':Hp} {ρ:DS} {i:Nat} {d d':D} {a:Addr} (R:RS K Hc Hb H0 ρ U H) (q:ρ[i]?=some (.ow d)) (h1:U[i]?=some (some (.ref a))) (s':Same (hid [a] H) H') (e':Ext H0 (hid [a] H) H0' H') (n':H0' a=none) (ob:OB K H0' H' a d'):RS K Hc Hb H0' (ρ.set i (.ow d')) U H':=by
 obtain ⟨a',z1,z2,z3,z4⟩:=R.ow i d q
 rw [h1] at z1;cases z1
 have sbh:Same Hb (hid [a] H):=fun b o hb=>by
  rw [zgq fun hm=>by rw [List.mem_singleton.mp hm,z3] at hb;cases hb];exact R.sb b o hb
 refine ⟨sbh.trans s',⟨R.ext.1.trans e'.1,e'.2.1,fun b hb hc=>e'.2.2 b (sbh.ne hb) (R.ext.2.2 b hb hc)⟩,by simp [R.len],fun j e qj=>?_,fun j e qj=>?_,fun j k e1 e2 b q1 q2 s1 s2=>?_⟩
 . rcases zbu qj with ⟨_,z⟩ | ⟨_,qj⟩
   . cases z
   . obtain ⟨v,v1,v2⟩:=R.im j e qj
     exact ⟨v,v1,v2.mono e'.1⟩
 . rcases zbu qj with ⟨e0,z⟩ | ⟨ne,qj⟩
   . subst e0;cases z;exact ⟨a,h1,n',z3,ob⟩
   . obtain ⟨b,b1,b2,b3,b4⟩:=R.ow j e qj
     have na:b∉[a]:=fun hm=>ne (R.ap i j _ _ _ q qj h1 (by rw [b1,List.mem_singleton.mp hm]))
     obtain ⟨o,ho,_⟩:=b4.some
     have hh:hid [a] H b=some o:=by rw [zgq na];exact ho
     refine ⟨b,b1,e'.2.2 b (by rw [hh];exact fun z=>nomatch z) b2,b3,?_⟩
     exact (b4.at (by rw [ho];exact s' b o hh)).mono e'.1 (Same.refl _)
 . have back:∀(j:Nat) e,(ρ.set i (.ow d'))[j]?=some (.ow e)->∃e0,ρ[j]?=some (.ow e0):=fun j e qj=>by
    rcases zbu qj with ⟨e0,_⟩ | ⟨_,qj⟩
    . subst e0;exact ⟨_,q⟩
    . exact ⟨_,qj⟩
   obtain ⟨x1,y1⟩:=back j e1 q1
   obtain ⟨x2,y2⟩:=back k e2 q2
   exact R.ap j k _ _ b y1 y2 s1 s2
theorem zx2 {i n:Nat} {mU:List D->R D} {fs:DE->R (List D)} {E:XK} (h:TSd K EX fr (zt9 i m mU n fs) De U H) :
  zf3 (za6 (spU K mU n) E (z9r (zew i) (TAd K EX fs))) De U H:=by
 obtain ⟨Hc,Hb,H0,ρ,sb,R,h⟩:=h
 unfold zt9 at h
 split at h
 . rename_i d0 q0
   rw [SK.toS] at h
   obtain ⟨a,h1,h2,h3,h4⟩:=R.ow i d0 q0
   unfold zf3 za6 z9r zew
   rw [h1]
   refine ⟨sb.trans R.sb,vis m ρ,HeOf m ρ U H0 H,R.heH m,R.re m,h.mono fun ds h vs H' H0' s e rds=>?_⟩
   obtain ⟨H0n,R',rd'⟩:=R.outs s e rds
   split at h
   . rename_i d q
     split at h
     . rename_i hn
       split at h
       . rename_i d' qm
         obtain ⟨a',z1,z2,z3,z4⟩:=R'.ow i d q
         rw [h1] at z1;cases z1
         refine ⟨d,ds,a,vs,H0n,rfl,hn,R'.ext.2.1,z2,z4,rd',?_⟩
         rw [qm]
         exact fun H2 H02 s2 e2 n2 ob=>h U H2 H02 (R'.hidden q h1 s2 e2 n2 ob)
       . exact h.elim
     . exact h.elim
   . exact h.elim
 . exact h.elim
end
section
variable {X:Cx} {EX:XW} {fr:Bool}
theorem zx3 {i n kl jj:Nat} {fn:Str} {fp cp pos:Pos} {e1:Expr} {es:List Expr} {ps:List Str} {mU:List D->R D} {fs:DE->R (List D)} {m:List Bool} (G:z35 X.prog X.w X.K X.mg X.base fn ps kl (spU X.K mU n)) (hr:Room jj X.A) (hg:Gl X fn) (h1:PE X e1 (zew i)) (h2:QA X EX es fs) (hkj:kl<=jj:=by omega) (hdb:(fn==("__debug__":Str))=false:=by decide)
  (he:starEach (e1::es) X.env=(false,eval e1 X.env)::starEach es X.env:=by rfl) (hpl:(backTo cp (starEach es X.env)).any (·.1)=false:=by rfl)
  (hsw:swapsWith (.Call (.Name fn fp) (e1::es) [] cp) none pos.line X.env=pure false:=by rfl) :
  QS X EX fr (.Expr (.Call (.Name fn fp) (e1::es) [] cp) pos) (zt9 i m mU n fs):=
 ⟨(zf4 (zg4 G (zy4 (X:=X)).on hr hg (z5j h1 h2.h he) hkj hdb he hpl) hsw).imp fun _ _ _ q=>zx2 q⟩
end
section
variable {prog:Program} {w:World} {A:Around} {E:Value->Shared->Prop} {s:Shared} {κ:SortKind} {a₀:Array Keyed} {rk:Keyed->Nat}
noncomputable def tk (rk:Keyed->Nat) (xs:Array Keyed) (i:Nat):Nat:=match xs[i]? with
 | some p=>rk p
 | none=>0
def z5r (prog:Program) (w:World) (A:Around) (E:Value->Shared->Prop) (s:Shared) (κ:SortKind) (a₀:Array Keyed) (rk:Keyed->Nat):Prop:=
 ∀x y,x∈a₀->y∈a₀->∀(st:SortSt) (Q:Option Bool->SortSt->Prop),kindOf st=κ->Q (some (decide (rk x<rk y))) st->wpS (model prog w) A E s (lt' x y) Q st
structure TBs (κ:SortKind) (a₀:Array Keyed) (st:SortSt):Prop where
 perm:(arrOf st).Perm a₀
 kind:kindOf st=κ
 ok:failedOf st=none
def TSo (rk:Keyed->Nat) (xs:Array Keyed) (lo hi:Nat):Prop:=∀i j,lo<=i->i<=j->j<hi->tk rk xs i<=tk rk xs j
theorem z2e {xs:Array Keyed} {i:Nat} (h:i<xs.size):tk rk xs i=rk xs[i]:=by unfold tk;rw [getElem?_pos xs i h]
theorem z6f {xs ys:Array Keyed} {i j:Nat} (h:xs[i]?=ys[j]?):tk rk xs i=tk rk ys j:=by unfold tk;rw [h]
theorem TBs.size {st:SortSt} (B:TBs κ a₀ st):(arrOf st).size=a₀.size:=B.perm.size_eq
theorem TBs.mem {st:SortSt} (B:TBs κ a₀ st) {x:Keyed} (h:x∈arrOf st):x∈a₀:=Array.mem_def.mpr ((Array.perm_iff_toList_perm.mp B.perm).mem_iff.mp (Array.mem_def.mp h))
theorem TBs.set {st:SortSt} (B:TBs κ a₀ st) {xs:Array Keyed} (hp:xs.Perm (arrOf st)):TBs κ a₀ (setArr st xs):=⟨hp.trans B.perm,B.kind,B.ok⟩
theorem z1h {st:SortSt} {xs:Array Keyed} {i:Nat} {Q:Keyed->SortSt->Prop} (h:i<xs.size) (q:Q xs[i] st):wpS (model prog w) A E s (elem' xs i) Q st:=by
 rw [elem'_eq,getElem?_pos xs i h]
 exact wpS_pure q
theorem zpg (hc:z5r prog w A E s κ a₀ rk) {st:SortSt} (B:TBs κ a₀ st) {i j:Nat} (hi:i<a₀.size) (hj:j<a₀.size) {Q:Option Bool->SortSt->Prop}
  (h:Q (some (decide (tk rk (arrOf st) i<tk rk (arrOf st) j))) st):wpS (model prog w) A E s (ltAt' i j) Q st:=by
 rw [ltAt'_eq]
 have hi':i<(arrOf st).size:=by rw [B.size];exact hi
 have hj':j<(arrOf st).size:=by rw [B.size];exact hj
 rw [z2e hi',z2e hj'] at h
 refine wpS_bind (wpS_get (wpS_bind (z1h hi' (wpS_bind (z1h hj' ?_)))))
 exact hc _ _ (B.mem (Array.getElem_mem _)) (B.mem (Array.getElem_mem _)) st Q B.kind h
theorem z70 {xs:Array Keyed} {i j:Nat} (hj:j<=xs.size) (k:Nat):tk rk (mirror xs i j ((j - i) / 2)) k=if i<=k/\k<j then tk rk xs (i+j - 1 - k) else tk rk xs k:=by
 by_cases h:i<=k/\k<j<;>simp only [h,if_true,if_false]<;>refine z6f ?_<;>rw [getElem?_mirror_all hj]
 . rw [if_pos h]
 . rw [if_neg h]
theorem zhb {xs:Array Keyed} {src d:Nat} (hs:src<xs.size) (hd:d<=src) (k:Nat) :
  tk rk (bubble xs src d) k=if k=src - d then tk rk xs src else if src - d<k/\k<=src then tk rk xs (k - 1) else tk rk xs k:=by
 have e:=getElem?_bubble hs d hd k
 by_cases h1:k=src - d
 . rw [if_pos h1] at e ⊢;exact z6f e
 . rw [if_neg h1] at e ⊢
   by_cases h2:src - d<k/\k<=src
   . rw [if_pos h2] at e ⊢;exact z6f e
   . rw [if_neg h2] at e ⊢;exact z6f e
theorem z97 {xs:Array Keyed} {i j:Nat} (hj:j<=xs.size) (ha:∀k,i<=k->k<j->tk rk xs k=tk rk xs (j - 1)) (k:Nat):tk rk (mirror xs i j ((j - i) / 2)) k=tk rk xs k:=by
 rw [z70 hj]
 by_cases h:i<=k/\k<j
 . rw [if_pos h,ha (i+j - 1 - k) (by omega) (by omega),ha k h.1 h.2]
 . rw [if_neg h]
theorem TSo.step {xs:Array Keyed} {lo n:Nat} (h:TSo rk xs lo (lo+n)) (h1:1<=n) (hn:tk rk xs (lo+n - 1)<=tk rk xs (lo+n)):TSo rk xs lo (lo+(n+1)):=fun i j h0 h1' h2=>by
 by_cases hj:j=lo+n
 . subst hj
   by_cases hi:i=lo+n
   . rw [hi];exact Nat.le_refl _
   . exact Nat.le_trans (h i (lo+n - 1) h0 (by omega) (by omega)) hn
 . exact h i j h0 h1' (by omega)
theorem TSo.one {xs:Array Keyed} (lo:Nat):TSo rk xs lo (lo+1):=fun i j h0 h1 h2=>by
 obtain rfl:i=j:=by omega
 exact Nat.le_refl _
structure TL (st st':SortSt) (lo:Nat):Prop where
 low:∀k,k<lo->(arrOf st')[k]?=(arrOf st)[k]?
 pend:pendingOf st'=pendingOf st
theorem TL.refl (st:SortSt) (lo:Nat):TL st st lo:=⟨fun _ _=>rfl,rfl⟩
theorem TL.trans {a b c:SortSt} {lo:Nat} (h:TL a b lo) (k:TL b c lo):TL a c lo:=⟨fun i hi=>(k.low i hi).trans (h.low i hi),k.pend.trans h.pend⟩
theorem TL.mirror {st:SortSt} {lo i j:Nat} (hi:lo<=i) (hj:j<=(arrOf st).size):TL st (setArr st (mirror (arrOf st) i j ((j - i) / 2))) lo:=
 ⟨fun k hk=>by show (PyProof.Rows.mirror (arrOf st) i j ((j - i) / 2))[k]?=_;rw [getElem?_mirror_all hj,if_neg (by omega)],rfl⟩
theorem zjt {st:SortSt} {i j:Nat} {Q:Unit->SortSt->Prop} (h:Q () (setArr st (mirror (arrOf st) i j ((j - i) / 2)))):wpS (model prog w) A E s (reverseSlice' i j) Q st:=by
 rw [reverseSlice'_eq]
 exact wpS_modify h
theorem TSo.ups' {xs:Array Keyed} {lo a:Nat} (h:TSo rk xs lo (lo+a)) (ha:1<=a):∀{n:Nat},a<=n->(∀i,a<=i->i<n->tk rk xs (lo+i - 1)<=tk rk xs (lo+i))->TSo rk xs lo (lo+n)
 | 0,z,_=>by omega
 | n+1,z,up=>by
  by_cases e:a=n+1
  . rw [<-e];exact h
  . exact (TSo.ups' h ha (n:=n) (by omega) fun i a b=>up i a (by omega)).step (by omega) (up n (by omega) (by omega))
theorem TSo.ups {xs:Array Keyed} {lo n:Nat} (h:TSo rk xs lo (lo+1)) (hn:1<=n) (up:∀i,1<=i->i<n->tk rk xs (lo+i - 1)<=tk rk xs (lo+i)):TSo rk xs lo (lo+n):=h.ups' (Nat.le_refl _) hn up
theorem z8d {U:Type} {r:String} {Q:Unit->U->Prop} {st:U} (h:Q () st):wpS (model prog w) A E s (liftM (rule r):StateT U Sem Unit) Q st:=wpS_lift (wpAny_rule ⟨rfl,h⟩)
theorem zyb {U β:Type} {f:Nat->β->StateT U Sem (ForInStep β)} (mk:Nat->β) (st:U) (down:Nat->Bool) {a b:Nat} {Q:β->U->Prop} (hab:a<=b)
  (go:∀x n (Q:ForInStep β->U->Prop),a<=n->n<b->Q (if down n=true then .done (mk n) else .yield (mk (n+1))) st->wpS (model prog w) A E s (f x (mk n)) Q st)
  (h:∀n,a<=n->n<=b->(∀i,a<=i->i<n->down i=false)->(n<b->down n=true)->Q (mk n) st):wpS (model prog w) A E s (forIn [a:b] (mk a) f) Q st:=by
 refine wpS_forRange (I:=fun x c u=>u=st/\c=mk x/\∀i,a<=i->i<x->down i=false) (fun x c u hx hb hI=>?_) (fun c u hI=>?_) ⟨rfl,rfl,fun i y z=>by omega⟩
 . obtain ⟨rfl,rfl,up⟩:=hI
   refine go x x _ hx hb ?_
   cases hd:down x
   . exact ⟨rfl,rfl,fun i y z=>by
    by_cases e:i=x
    . rw [e];exact hd
    . exact up i y (by omega)⟩
   . exact h x hx (Nat.le_of_lt hb) up fun _=>hd
 . obtain ⟨rfl,rfl,up⟩:=hI
   rw [Nat.max_eq_right hab] at up ⊢
   exact h b hab (Nat.le_refl _) up fun z=>absurd z (Nat.lt_irrefl _)
theorem zlm {U β:Type} {f:Nat->β->StateT U Sem (ForInStep β)} (mk:Nat->Nat->β) (st:U) (mid:Nat->Nat->Nat) (p:Nat->Bool) {N l0 r0:Nat} {Q:β->U->Prop} (hmid:∀l r,l<r->l<=mid l r/\mid l r<r)
  (go:∀x l r (Q:ForInStep β->U->Prop),l0<=l->l<r->r<=r0->Q (.yield (if p (mid l r)=true then mk (mid l r+1) r else mk l (mid l r))) st->wpS (model prog w) A E s (f x (mk l r)) Q st)
  (stop:∀x l (Q:ForInStep β->U->Prop),l<=r0->Q (.done (mk l l)) st->wpS (model prog w) A E s (f x (mk l l)) Q st)
  (mono:∀i j,l0<=i->i<=j->j<r0->p j=true->p i=true) (hl:l0<=r0) (hN:r0<=l0+N)
  (h:∀k,l0<=k->k<=r0->(∀i,l0<=i->i<k->p i=true)->(∀i,k<=i->i<r0->p i=false)->Q (mk k k) st):wpS (model prog w) A E s (forIn [0:N] (mk l0 r0) f) Q st:=by
 have key:∀l r,l0<=l->l<=r->r<=r0->(∀i,l0<=i->i<l->p i=true)->(∀i,r<=i->i<r0->p i=false)->l=r->Q (mk l r) st:=fun l r a b c d e z=>by subst z;exact h l a c d e
 refine wpS_forRange (I:=fun x c u=>u=st/\∃l r,(l0<=l/\l<=r/\r<=r0/\r+x<=l+N)/\c=mk l r/\(∀i,l0<=i->i<l->p i=true)/\∀i,r<=i->i<r0->p i=false)
  (fun x c u _ hb hI=>?_) (fun c u hI=>?_) ⟨rfl,l0,r0,⟨Nat.le_refl _,hl,Nat.le_refl _,by omega⟩,rfl,fun i a b=>by omega,fun i a b=>by omega⟩
 . obtain ⟨rfl,l,r,⟨b1,b2,b3,b4⟩,rfl,lt,gt⟩:=hI
   by_cases e:l=r
   . subst e
     exact stop x l _ b3 (key l l b1 b2 b3 lt gt rfl)
   . have hm:=hmid l r (by omega)
     refine go x l r _ b1 (by omega) b3 ?_
     cases hp:p (mid l r)
     . exact ⟨rfl,l,mid l r,⟨b1,hm.1,by omega,by omega⟩,rfl,lt,fun i a b=>by
      cases hi:p i
      . rfl
      . rw [mono (mid l r) i (by omega) a b hi] at hp;cases hp⟩
     . exact ⟨rfl,mid l r+1,r,⟨by omega,by omega,b3,by omega⟩,rfl,fun i a b=>mono i (mid l r) a (by omega) (by omega) hp,gt⟩
 . obtain ⟨rfl,l,r,⟨b1,b2,b3,b4⟩,rfl,lt,gt⟩:=hI
   exact key l r b1 b2 b3 lt gt (by simp only [Nat.zero_max] at b4;omega)
theorem zob (hc:z5r prog w A E s κ a₀ rk) {st:SortSt} (B:TBs κ a₀ st) {lo nrem:Nat} (hz:lo+nrem<=a₀.size) (h1:1<=nrem) {Q:Option Nat->SortSt->Prop}
  (h:∀n st',1<=n->n<=nrem->TBs κ a₀ st'->TL st st' lo->TSo rk (arrOf st') lo (lo+n)->Q (some n) st'):wpS (model prog w) A E s (countRun' lo nrem) Q st:=by
 rw [countRun'_eq]
 refine wpS_bind (zyb (fun n=>(none,n)) st (fun n=>decide (tk rk (arrOf st) (lo+n)<tk rk (arrOf st) (lo+n - 1))) h1 (fun x n Q a b q=>wpS_bind (zpg hc B (by omega) (by omega) ?_)) fun n hn1 hn2 up dn=>?_)
 . by_cases hl:tk rk (arrOf st) (lo+n)<tk rk (arrOf st) (lo+n - 1)
   . simp only [hl,decide_true,if_true] at q ⊢;exact wpS_pure q
   . simp only [hl,decide_false,Bool.false_eq_true,if_false] at q ⊢;exact wpS_pure q
 have hs:=TSo.ups (n:=n) (TSo.one (rk:=rk) (xs:=arrOf st) lo) hn1 fun i a b=>by have:=up i a b;simp only [decide_eq_false_iff_not] at this;omega
 have hd:n<nrem->tk rk (arrOf st) (lo+n)<tk rk (arrOf st) (lo+n - 1):=fun z=>by simpa using dn z
 dsimp only
 by_cases hnr:n=nrem
 . rw [if_pos (by simp [hnr])]
   exact wpS_pure (h n _ hn1 hn2 B (.refl _ _) hs)
 rw [if_neg (by simp [hnr])]
 have hd':=hd (by omega)
 have z4h:∀(xs:Array Keyed),TSo rk xs lo (lo+n)->¬tk rk xs lo<tk rk xs (lo+n - 1)->∀k,lo<=k->k<lo+n->tk rk xs k=tk rk xs (lo+n - 1):=fun xs hs hr k h0 h1=>by
  have a:=hs lo k (Nat.le_refl _) h0 h1
  have b:=hs k (lo+n - 1) h0 (by omega) (by omega)
  omega
 have ni0:∀(xs:Array Keyed),(∀k,lo<=k->k<lo+n->tk rk xs k=tk rk xs (lo+n - 1))->tk rk xs (lo+n)<tk rk xs (lo+n - 1)->∀i j,lo<=i->i<=j->j<lo+(n+1)->tk rk xs j<=tk rk xs i:=fun xs fl hd i j h0 h1 h2=>by
  by_cases hj:j=lo+n
  . subst hj
    by_cases hi:i=lo+n
    . rw [hi];exact Nat.le_refl _
    . rw [fl i h0 (by omega)];omega
  . rw [fl i h0 (by omega),fl j (by omega) (by omega)];exact Nat.le_refl _
 rcases Nat.lt_or_ge 1 n with hn | hn
 case' inl=>
  rw [if_pos hn]
  refine wpS_bind (zpg hc B (by omega) (by omega) ?_)
  by_cases hr:tk rk (arrOf st) lo<tk rk (arrOf st) (lo+n - 1)
  . simp only [hr,decide_true,if_true]
    exact wpS_pure (h n _ hn1 hn2 B (.refl _ _) hs)
  simp only [hr,decide_false,Bool.false_eq_true,if_false]
  have hz0:lo+n<=(arrOf st).size:=by rw [B.size];omega
  have fl:=z4h _ hs hr
  have ea:=z97 hz0 fl
  refine wpS_bind (zjt ?_)
  obtain ⟨st1,B1,L1,ni,e1⟩:∃st1,TBs κ a₀ st1/\TL st st1 lo/\(∀i j,lo<=i->i<=j->j<lo+(n+1)->tk rk (arrOf st1) j<=tk rk (arrOf st1) i)/\st1=setArr st (mirror (arrOf st) lo (lo+n) ((lo+n - lo) / 2)):=
   ⟨_,B.set (mirror_perm _ _ _ _),.mirror (Nat.le_refl _) hz0,fun i j h0 h1 h2=>by
    show tk rk (mirror (arrOf st) _ _ _) j<=tk rk (mirror (arrOf st) _ _ _) i
    rw [ea,ea]
    exact ni0 _ fl hd' i j h0 h1 h2,rfl⟩
  rw [<-e1]
  clear e1
 case' inr=>
  rw [if_neg (by omega)]
  obtain ⟨st1,B1,L1,ni,e1⟩:∃st1,TBs κ a₀ st1/\TL st st1 lo/\(∀i j,lo<=i->i<=j->j<lo+(n+1)->tk rk (arrOf st1) j<=tk rk (arrOf st1) i)/\st1=st:=
   ⟨_,B,.refl _ _,ni0 _ (z4h _ hs (by rw [show lo+n - 1=lo by omega];exact Nat.lt_irrefl _)) hd',rfl⟩
  rw [<-e1]
  clear e1
 all_goals
  refine wpS_bind (z8d ?_)
  refine wpS_bind (wpS_mono (wpS_forRange (I:=fun x c st2=>TBs κ a₀ st2/\TL st st2 lo/\∃q,c=(none,x,q)/\q+1<=x/\(∀i j,lo<=i->i<=j->j<lo+x->tk rk (arrOf st2) j<=tk rk (arrOf st2) i)/\∀k,lo+x - (q+1)<=k->k<lo+x->tk rk (arrOf st2) k=tk rk (arrOf st2) (lo+x - 1))
   (Q:=fun c st2=>TBs κ a₀ st2/\TL st st2 lo/\∃x q,c=(none,x,q)/\1<=x/\x<=nrem/\q+1<=x/\(∀i j,lo<=i->i<=j->j<lo+x->tk rk (arrOf st2) j<=tk rk (arrOf st2) i)/\∀k,lo+x - (q+1)<=k->k<lo+x->tk rk (arrOf st2) k=tk rk (arrOf st2) (lo+x - 1)) ?step ?fin ⟨B1,L1,0,rfl,by omega,ni,fun k h0 h1=>by rw [show k=lo+(n+1) - 1 by omega]⟩) ?post)
  case fin=>
   rintro c st2 ⟨B2,L2,q,rfl,hq,ni2,al⟩
   rw [show max (n+1) nrem=nrem by omega] at *
   exact ⟨B2,L2,nrem,q,rfl,h1,Nat.le_refl _,hq,ni2,al⟩
  case post=>
   rintro c st2 ⟨B2,L2,x,q,rfl,hx1,hx2,hq,ni2,al⟩
   have hz2:lo+x<=(arrOf st2).size:=by rw [B2.size];omega
   dsimp only
   rcases Nat.lt_or_ge 0 q with hq0 | hq0
   case' inl=>
    rw [if_pos hq0]
    refine wpS_bind (zjt ?_)
    have ea:=z97 hz2 al
    obtain ⟨st3,B3,L3,ni3,e3⟩:∃st3,TBs κ a₀ st3/\TL st st3 lo/\(∀i j,lo<=i->i<=j->j<lo+x->tk rk (arrOf st3) j<=tk rk (arrOf st3) i)/\st3=setArr st2 (mirror (arrOf st2) (lo+x - (q+1)) (lo+x) ((lo+x - (lo+x - (q+1))) / 2)):=
     ⟨_,B2.set (mirror_perm _ _ _ _),L2.trans (.mirror (by omega) hz2),fun i j h0 h1 h2=>by
      show tk rk (mirror (arrOf st2) _ _ _) j<=tk rk (mirror (arrOf st2) _ _ _) i
      rw [ea,ea];exact ni2 i j h0 h1 h2,rfl⟩
    rw [<-e3]
    clear e3
   case' inr=>
    rw [if_neg (by omega)]
    obtain ⟨st3,B3,L3,ni3,e3⟩:∃st3,TBs κ a₀ st3/\TL st st3 lo/\(∀i j,lo<=i->i<=j->j<lo+x->tk rk (arrOf st3) j<=tk rk (arrOf st3) i)/\st3=st2:=⟨_,B2,L2,ni2,rfl⟩
    rw [<-e3]
    clear e3
   all_goals
    have hz3:lo+x<=(arrOf st3).size:=by rw [B3.size];omega
    refine wpS_bind (zjt ?_)
    obtain ⟨st4,e4⟩:∃st4,st4=setArr st3 (mirror (arrOf st3) lo (lo+x) ((lo+x - lo) / 2)):=⟨_,rfl⟩
    have B4:TBs κ a₀ st4:=e4 ▸ B3.set (mirror_perm _ _ _ _)
    have L4:TL st st4 lo:=e4 ▸ L3.trans (.mirror (Nat.le_refl _) hz3)
    have s0:TSo rk (arrOf st4) lo (lo+x):=fun i j h0 h1 h2=>by
     rw [e4]
     show tk rk (mirror (arrOf st3) lo (lo+x) _) i<=tk rk (mirror (arrOf st3) lo (lo+x) _) j
     rw [z70 hz3,z70 hz3,if_pos (by omega),if_pos (by omega)]
     exact ni3 _ _ (by omega) (by omega) (by omega)
    rw [<-e4]
    clear e4
    refine wpS_bind (zyb (fun n=>(none,n)) st4 (fun n=>decide (tk rk (arrOf st4) (lo+n)<tk rk (arrOf st4) (lo+n - 1))) hx2 (fun y m Q a b q=>wpS_bind (zpg hc B4 (by omega) (by omega) ?_)) fun m hm1 hm2 up _=>?_)
    . by_cases hl:tk rk (arrOf st4) (lo+m)<tk rk (arrOf st4) (lo+m - 1)
      . simp only [hl,decide_true,if_true] at q ⊢;exact wpS_pure q
      . simp only [hl,decide_false,Bool.false_eq_true,if_false] at q ⊢;exact wpS_pure q
    . dsimp only
      refine wpS_pure (h m _ (by omega) hm2 B4 L4 (s0.ups' hx1 hm1 fun i a b=>?_))
      have:=up i a b
      simp only [decide_eq_false_iff_not] at this
      omega
  case step=>
   rintro x c st2 hnx hxr ⟨B2,L2,q,rfl,hq,ni2,al⟩
   have hz2:lo+x<=(arrOf st2).size:=by rw [B2.size];omega
   dsimp only
   refine wpS_bind (zpg hc B2 (by omega) (by omega) ?_)
   have ext:∀(xs:Array Keyed),(∀i j,lo<=i->i<=j->j<lo+x->tk rk xs j<=tk rk xs i)->tk rk xs (lo+x)<=tk rk xs (lo+x - 1)->∀i j,lo<=i->i<=j->j<lo+(x+1)->tk rk xs j<=tk rk xs i:=fun xs nx hx i j h0 h1 h2=>by
    by_cases hj:j=lo+x
    . subst hj
      by_cases hi:i=lo+x
      . rw [hi];exact Nat.le_refl _
      . exact Nat.le_trans hx (nx i (lo+x - 1) h0 (by omega) (by omega))
    . exact nx i j h0 h1 (by omega)
   by_cases hl:tk rk (arrOf st2) (lo+x)<tk rk (arrOf st2) (lo+x - 1)
   . simp only [hl,decide_true,if_true]
     by_cases hq0:q > 0
     . rw [if_pos hq0]
       have ea:=z97 hz2 al
       refine wpS_bind (zjt (wpS_pure ⟨B2.set (mirror_perm _ _ _ _),L2.trans (.mirror (by omega) hz2),0,rfl,by omega,ext _ (fun i j h0 h1 h2=>?_) ?_,fun k h0 h1=>by rw [show k=lo+(x+1) - 1 by omega]⟩))
       . show tk rk (mirror (arrOf st2) _ _ _) j<=tk rk (mirror (arrOf st2) _ _ _) i
         rw [ea,ea];exact ni2 i j h0 h1 h2
       . show tk rk (mirror (arrOf st2) _ _ _) _<=tk rk (mirror (arrOf st2) _ _ _) _
         rw [ea,ea];exact Nat.le_of_lt hl
     . rw [if_neg hq0]
       exact wpS_pure ⟨B2,L2,0,rfl,by omega,ext _ ni2 (Nat.le_of_lt hl),fun k h0 h1=>by rw [show k=lo+(x+1) - 1 by omega]⟩
   . simp only [hl,decide_false,Bool.false_eq_true,if_false]
     refine wpS_bind (zpg hc B2 (by omega) (by omega) ?_)
     by_cases hg:tk rk (arrOf st2) (lo+x - 1)<tk rk (arrOf st2) (lo+x)
     . simp only [hg,decide_true,if_true]
       exact wpS_pure ⟨B2,L2,x,q,rfl,by omega,by omega,hq,ni2,al⟩
     . simp only [hg,decide_false,Bool.false_eq_true,if_false]
       refine wpS_pure ⟨B2,L2,q+1,rfl,by omega,ext _ ni2 (by omega),fun k h0 h1=>?_⟩
       rw [show lo+(x+1) - 1=lo+x by omega]
       by_cases hk:k=lo+x
       . rw [hk]
       . rw [al k (by omega) (by omega)];omega
theorem TSo.down {xs:Array Keyed} {lo k l:Nat} (hz:lo+k<xs.size) (hl:l<=k) (hs:TSo rk xs lo (lo+k)) (below:∀i,i<l->tk rk xs (lo+i)<=tk rk xs (lo+k)) (above:∀i,l<=i->i<k->tk rk xs (lo+k)<tk rk xs (lo+i)) :
  TSo rk (bubble xs (lo+k) (lo+k - (lo+l))) lo (lo+(k+1)):=fun i j h0 hij hj=>by
 obtain ⟨i,rfl⟩:∃i',i=lo+i':=⟨i - lo,by omega⟩
 obtain ⟨j,rfl⟩:∃j',j=lo+j':=⟨j - lo,by omega⟩
 have val:∀m,m<=k->tk rk (bubble xs (lo+k) (lo+k - (lo+l))) (lo+m)=if m<l then tk rk xs (lo+m) else if m=l then tk rk xs (lo+k) else tk rk xs (lo+(m - 1)):=fun m hm=>by
  rw [zhb hz (by omega)]
  by_cases a:m<l
  . rw [if_neg (by omega),if_neg (by omega),if_pos a]
  . by_cases b:m=l
    . rw [if_pos (by omega),if_neg a,if_pos b]
    . rw [if_neg (by omega),if_pos (by omega),if_neg a,if_neg b,show lo+m - 1=lo+(m - 1) by omega]
 have st:∀a b,a<=b->b<k->tk rk xs (lo+a)<=tk rk xs (lo+b):=fun a b u v=>hs _ _ (by omega) (by omega) (by omega)
 rw [val i (by omega),val j (by omega)]
 by_cases a:j<l
 . rw [if_pos a,if_pos (by omega)];exact st i j (by omega) (by omega)
 . rw [if_neg a]
   by_cases b:i<l
   . rw [if_pos b]
     by_cases c:j=l
     . rw [if_pos c];exact below i b
     . rw [if_neg c];exact st i (j - 1) (by omega) (by omega)
   . rw [if_neg b]
     by_cases c:i=l
     . rw [if_pos c]
       by_cases d:j=l
       . rw [if_pos d];exact Nat.le_refl _
       . rw [if_neg d];exact Nat.le_of_lt (above _ (by omega) (by omega))
     . rw [if_neg c,if_neg (by omega)];exact st _ _ (by omega) (by omega)
theorem zx4 (hc:z5r prog w A E s κ a₀ rk) {st:SortSt} (B:TBs κ a₀ st) {lo n ok:Nat} (hz:lo+n<=a₀.size) (h1:1<=ok) (hok:ok<=n) (hs:TSo rk (arrOf st) lo (lo+ok)) {Q:Bool->SortSt->Prop}
  (h:∀u,TBs κ a₀ u->TL st u lo->TSo rk (arrOf u) lo (lo+n)->Q true u):wpS (model prog w) A E s (binarySort' lo n ok) Q st:=by
 rw [binarySort'_eq,Nat.max_eq_left h1]
 refine wpS_bind (wpS_mono (wpS_forRange (I:=fun k c u=>c=(none,())/\TBs κ a₀ u/\TL st u lo/\TSo rk (arrOf u) lo (lo+k))
  (Q:=fun c u=>c=(none,())/\TBs κ a₀ u/\TL st u lo/\TSo rk (arrOf u) lo (lo+n)) (fun k c u ha hb hI=>?_) (fun c u hI=>by rwa [Nat.max_eq_right hok] at hI) ⟨rfl,B,.refl _ _,hs⟩) fun c u hI=>?_)
 . obtain ⟨rfl,B1,L1,hs⟩:=hI
   have hz1:lo+k<(arrOf u).size:=by rw [B1.size];omega
   refine wpS_bind (zlm (fun l r=>(none,l,r)) u (fun l r=>(l+r) / 2) (fun i=>decide (tk rk (arrOf u) (lo+i)<=tk rk (arrOf u) (lo+k))) (fun l r _=>by omega) (fun x l r Q a b c q=>?_) (fun x l Q _ q=>?_) (fun i j _ a b c=>?_) (Nat.zero_le _) (by omega) fun l _ hl lt gt=>?_)
   . dsimp only
     rw [if_neg (by omega)]
     refine wpS_bind (zpg hc B1 (by omega) (by omega) ?_)
     by_cases z:tk rk (arrOf u) (lo+k)<tk rk (arrOf u) (lo+(l+r) / 2)
     . simp only [z,Nat.not_le.mpr z,decide_true,decide_false,Bool.false_eq_true,if_true,if_false] at q ⊢
       exact wpS_pure q
     . simp only [z,Nat.not_lt.mp z,decide_true,decide_false,Bool.false_eq_true,if_true,if_false] at q ⊢
       exact wpS_pure q
   . dsimp only
     rw [if_pos (Nat.le_refl _)]
     exact wpS_pure q
   . simp only [decide_eq_true_eq] at c ⊢
     exact Nat.le_trans (hs _ _ (by omega) (by omega) (by omega)) c
   . dsimp only
     rw [moveDown'_eq]
     refine wpS_bind (wpS_modify (wpS_pure ⟨rfl,B1.set (bubble_perm _ _ _),L1.trans ⟨fun j hj=>?_,rfl⟩,?_⟩))
     . show (bubble (arrOf u) (lo+k) (lo+k - (lo+l)))[j]?=_
       rw [getElem?_bubble hz1 _ (by omega),if_neg (by omega),if_neg (by omega)]
     . exact TSo.down hz1 hl hs (fun i a=>by simpa using lt i (Nat.zero_le _) a) fun i a b=>by simpa using gt i a b
 . obtain ⟨rfl,B1,L1,hs⟩:=hI
   exact wpS_pure (h u B1 L1 hs)
end
section
variable {prog:Program} {w:World} {A:Around} {E:Value->Shared->Prop} {s:Shared} {κ:SortKind} {a₀:Array Keyed} {rk:Keyed->Nat}
theorem zta {U β:Type} {f:Nat->β->StateT U Sem (ForInStep β)} (mk:Nat->Nat->β) (st:U) (q:Nat->Bool) {N M:Nat} {Q:β->U->Prop} (q0:q 0=true) (hM:0<M) (hN:M<=N)
  (go:∀x last ofs (Q:ForInStep β->U->Prop),0<ofs->ofs<M->Q (if q ofs=true then .yield (mk ofs (2 * ofs+1)) else .done (mk last ofs)) st->wpS (model prog w) A E s (f x (mk last ofs)) Q st)
  (stop:∀x last ofs (Q:ForInStep β->U->Prop),M<=ofs->Q (.done (mk last ofs)) st->wpS (model prog w) A E s (f x (mk last ofs)) Q st)
  (h:∀last ofs,last<ofs->last<M->q last=true->(ofs<M->q ofs=false)->Q (mk last ofs) st):wpS (model prog w) A E s (forIn [0:N] (mk 0 1) f) Q st:=by
 refine wpS_forRange (I:=fun x c u=>u=st/\∃last ofs,c=mk last ofs/\x<ofs/\last<ofs/\last<M/\q last=true) (fun x c u _ _ hI=>?_) (fun c u hI=>?_) ⟨rfl,0,1,rfl,by omega,by omega,hM,q0⟩
 . obtain ⟨rfl,last,ofs,rfl,b1,b2,b3,b4⟩:=hI
   by_cases hm:ofs<M
   . refine go x last ofs _ (by omega) hm ?_
     cases hq:q ofs
     . exact h last ofs b2 b3 b4 fun _=>hq
     . exact ⟨rfl,ofs,2 * ofs+1,rfl,by omega,by omega,hm,hq⟩
   . exact stop x last ofs _ (by omega) (h last ofs b2 b3 b4 fun z=>absurd z hm)
 . obtain ⟨rfl,last,ofs,rfl,b1,b2,b3,b4⟩:=hI
   exact h last ofs b2 b3 b4 fun z=>by omega
noncomputable def gal:Bool->Keyed->Array Keyed->Nat->Nat->Nat->StateT SortSt Sem (Option Nat):=sortPriv% PySem.Builtin.gallop
noncomputable def bey (rk:Keyed->Nat) (left:Bool) (key:Keyed) (arr:Array Keyed) (base i:Nat):Bool:=if left=true then decide (tk rk arr (base+i)<rk key) else !decide (rk key<tk rk arr (base+i))
theorem zx5 (hc:z5r prog w A E s κ a₀ rk) {st:SortSt} (hk:kindOf st=κ) {left:Bool} {key:Keyed} {arr:Array Keyed} {base i:Nat} (kin:key∈a₀) (ain:∀x∈arr,x∈a₀) (hz:base+i<arr.size) {Q:Option Bool->SortSt->Prop}
  (h:Q (some (bey rk left key arr base i)) st):wpS (model prog w) A E s (elem' arr (base+i) >>= fun x=>if left=true then lt' x key else lt' key x >>= fun r=>pure (r.map fun b=>!b)) Q st:=by
 refine wpS_bind (z1h hz ?_)
 unfold bey at h
 rw [z2e hz] at h
 cases left with
 | true=>
  rw [if_pos rfl] at h ⊢
  exact hc _ _ (ain _ (Array.getElem_mem _)) kin st Q hk h
 | false=>
  rw [if_neg Bool.false_ne_true] at h ⊢
  exact wpS_bind (hc _ _ kin (ain _ (Array.getElem_mem _)) st _ hk (wpS_pure h))
theorem zen (hc:z5r prog w A E s κ a₀ rk) {st:SortSt} (hk:kindOf st=κ) {left:Bool} {key:Keyed} {arr:Array Keyed} {base n hint:Nat} (kin:key∈a₀) (ain:∀x∈arr,x∈a₀) (hz:base+n<=arr.size) (hh:hint<n)
  (mono:∀i j,i<=j->j<n->bey rk left key arr base j=true->bey rk left key arr base i=true) {Q:Option Nat->SortSt->Prop}
  (h:∀k,k<=n->(∀i,i<k->bey rk left key arr base i=true)->(∀i,k<=i->i<n->bey rk left key arr base i=false)->Q (some k) st):wpS (model prog w) A E s (gal left key arr base n hint) Q st:=by
 have anti:∀i j,i<=j->j<n->bey rk left key arr base i=false->bey rk left key arr base j=false:=fun i j a b c=>by
  cases e:bey rk left key arr base j
  . rfl
  . rw [mono i j a b e] at c;cases c
 have ask:∀i (Q:Option Bool->SortSt->Prop),i<n->Q (some (bey rk left key arr base i)) st->wpS (model prog w) A E s (elem' arr (base+i) >>= fun x=>if left=true then lt' x key else lt' key x >>= fun r=>pure (r.map fun b=>!b)) Q st:=fun i Q hi q=>zx5 hc hk kin ain (by omega) q
 unfold gal
 refine wpS_bind (ask hint _ hh ?_)
 dsimp only
 rcases hr:bey rk left key arr base hint with _ | _
 case' true=>
  rw [if_pos rfl]
  refine wpS_bind (zta (fun l o=>(none,l,o)) st (fun o=>bey rk left key arr base (hint+o)) (M:=n - hint) hr (by omega) (by omega) (fun x last ofs Q a b q=>?_) (fun x last ofs Q a q=>?_) fun last ofs a b c d=>?_)
  . dsimp only
    rw [if_neg (by omega)]
    refine wpS_bind (ask _ _ (by omega) ?_)
    dsimp only
    cases e:bey rk left key arr base (hint+ofs)<;>rw [e] at q<;>exact wpS_pure q
  . dsimp only
    rw [if_pos (by omega)]
    exact wpS_pure q
  dsimp only
  obtain ⟨lo,hi,elo,ehi,b1,b2,b3,b4⟩:∃lo hi,lo=hint+last+1/\hi=hint+min ofs (n - hint)/\lo<=hi/\hi<=n/\(∀i,i<lo->bey rk left key arr base i=true)/\∀i,hi<=i->i<n->bey rk left key arr base i=false:=
   ⟨_,_,rfl,rfl,by omega,by omega,fun i z=>mono i (hint+last) (by omega) (by omega) c,fun i y z=>anti (hint+ofs) i (by omega) z (d (by omega))⟩
  rw [<-elo,<-ehi]
  clear elo ehi c d
 case' false=>
  rw [if_neg Bool.false_ne_true]
  refine wpS_bind (zta (fun l o=>(none,l,o)) st (fun o=>!bey rk left key arr base (hint - o)) (M:=hint+1) (by rw [Nat.sub_zero,hr];rfl) (by omega) (by omega) (fun x last ofs Q a b q=>?_) (fun x last ofs Q a q=>?_) fun last ofs a b c d=>?_)
  . dsimp only
    rw [if_neg (by omega)]
    refine wpS_bind (ask _ _ (by omega) ?_)
    dsimp only
    cases e:bey rk left key arr base (hint - ofs)<;>rw [e] at q<;>exact wpS_pure q
  . dsimp only
    rw [if_pos (by omega)]
    exact wpS_pure q
  dsimp only
  obtain ⟨lo,hi,elo,ehi,b1,b2,b3,b4⟩:∃lo hi,lo=hint+1 - min ofs (hint+1)/\hi=hint - last/\lo<=hi/\hi<=n/\(∀i,i<lo->bey rk left key arr base i=true)/\∀i,hi<=i->i<n->bey rk left key arr base i=false:=
   ⟨_,_,rfl,rfl,by omega,by omega,fun i z=>mono i (hint - ofs) (by omega) (by omega) (by simpa using d (by omega)),fun i y z=>anti (hint - last) i (by omega) z (by simpa using c)⟩
  rw [<-elo,<-ehi]
  clear elo ehi c d
 all_goals
  refine wpS_bind (zlm (fun l r=>(none,l,r)) st (fun l r=>l+(r - l) / 2) (bey rk left key arr base) (fun l r _=>by omega) (fun x l r Q a b c q=>?_) (fun x l Q _ q=>?_) (fun i j _ a b c=>mono i j a (by omega) c) b1 (by omega) fun k _ hk lt gt=>?_)
  . dsimp only
    rw [if_neg (by omega)]
    refine wpS_bind (ask _ _ (by omega) ?_)
    dsimp only
    cases e:bey rk left key arr base (l+(r - l) / 2)<;>rw [e] at q<;>exact wpS_pure q
  . dsimp only
    rw [if_pos (Nat.le_refl _)]
    exact wpS_pure q
  . dsimp only
    refine wpS_pure (h k (by omega) (fun i z=>?_) fun i y z=>?_)
    . by_cases e:i<lo
      . exact b3 i e
      . exact lt i (by omega) z
    . by_cases e:i<hi
      . exact gt i y e
      . exact b4 i (by omega) z
end
section
variable {R:Keyed->Keyed->Prop}
def AscR (R:Keyed->Keyed->Prop) (l:List Keyed):Prop:=l.Pairwise R
structure MR (R:Keyed->Keyed->Prop) (A B out:List Keyed) (ia ib:Nat):Prop where
 perm:out.Perm (A.take ia++B.take ib)
 asc:AscR R out
 la:∀x∈out,∀y∈A.drop ia,R x y
 lb:∀x∈out,∀y∈B.drop ib,R x y
theorem AscR.drop {l:List Keyed} (h:AscR R l) (n:Nat):AscR R (l.drop n):=h.sublist (List.drop_sublist _ _)
theorem AscR.take {l:List Keyed} (h:AscR R l) (n:Nat):AscR R (l.take n):=h.sublist (List.take_sublist _ _)
theorem drop_take (l:List Keyed) (n k:Nat):l.drop n=(l.drop n).take k++l.drop (n+k):=by
 rw [<-List.drop_drop,List.take_append_drop]
theorem zhc (l:List Keyed) (n k:Nat):l.take (n+k)=l.take n++(l.drop n).take k:=by
 rw [List.take_add]
variable {A B out:List Keyed} {ia ib k:Nat}
theorem MR.appA (M:MR R A B out ia ib) (hA:AscR R A) (h:∀x∈(A.drop ia).take k,∀y∈B.drop ib,R x y):MR R A B (out++(A.drop ia).take k) (ia+k) ib:=by
 have dd:=drop_take A ia k
 have sA:=hA.drop ia
 rw [dd] at sA
 have pw:=List.pairwise_append.mp sA
 refine ⟨?_,List.pairwise_append.mpr ⟨M.asc,pw.1,fun x hx y hy=>M.la x hx y (List.mem_of_mem_take hy)⟩,fun x hx y hy=>?_,fun x hx y hy=>?_⟩
 . rw [zhc]
   refine (M.perm.append_right _).trans ?_
   rw [List.append_assoc,List.append_assoc]
   exact List.perm_append_comm.append_left _
 . rcases List.mem_append.mp hx with z | z
   . exact M.la x z y (by rw [dd];exact List.mem_append_right _ hy)
   . exact pw.2.2 x z y hy
 . rcases List.mem_append.mp hx with z | z
   . exact M.lb x z y hy
   . exact h x z y hy
theorem MR.swap (M:MR R A B out ia ib):MR R B A out ib ia:=⟨M.perm.trans List.perm_append_comm,M.asc,M.lb,M.la⟩
theorem MR.appB (M:MR R A B out ia ib) (hB:AscR R B) (h:∀x∈(B.drop ib).take k,∀y∈A.drop ia,R x y):MR R A B (out++(B.drop ib).take k) ia (ib+k):=(M.swap.appA hB h).swap
theorem MR.fin (M:MR R A B out ia ib) (hA:AscR R A) (h:∀x∈A.drop ia,∀y∈B.drop ib,R x y) (hB:AscR R B):(out++A.drop ia++B.drop ib).Perm (A++B)/\AscR R (out++A.drop ia++B.drop ib):=by
 have m1:=M.appA (k:=A.length) hA (fun x hx=>h x (List.mem_of_mem_take hx))
 have e1:(A.drop ia).take A.length=A.drop ia:=List.take_of_length_le (by rw [List.length_drop];omega)
 rw [e1] at m1
 have d1:A.drop (ia+A.length)=[]:=List.drop_eq_nil_of_le (by omega)
 have m2:=m1.appB (k:=B.length) hB (fun x _ y hy=>by rw [d1] at hy;cases hy)
 have e2:(B.drop ib).take B.length=B.drop ib:=List.take_of_length_le (by rw [List.length_drop];omega)
 rw [e2] at m2
 refine ⟨m2.perm.trans ?_,m2.asc⟩
 rw [List.take_of_length_le (by omega),List.take_of_length_le (by omega)]
variable {rk:Keyed->Nat}
abbrev Asc (rk:Keyed->Nat) (l:List Keyed):Prop:=AscR (fun x y=>rk x<=rk y) l
abbrev MI (rk:Keyed->Nat) (A B out:List Keyed) (ia ib:Nat):Prop:=MR (fun x y=>rk x<=rk y) A B out ia ib
variable {a b:Array Keyed} {outA:Array Keyed}
theorem z37 (h:Asc rk a.toList) {i j:Nat} (hij:i<=j) (hj:j<a.size):tk rk a i<=tk rk a j:=by
 rw [z2e (by omega),z2e hj]
 rcases Nat.lt_or_ge i j with z | z
 . have:=List.pairwise_iff_getElem.mp h i j (by simpa using (by omega:i<a.size)) (by simpa using hj) z
   simpa using this
 . obtain rfl:i=j:=by omega
   exact Nat.le_refl _
theorem zhd {r n:Nat} (h:∀j,n<=j->j<a.size->r<=tk rk a j):∀y∈a.toList.drop n,r<=rk y:=fun y hy=>by
 obtain ⟨i,hi,e⟩:=List.mem_iff_getElem.mp hy
 rw [List.getElem_drop] at e
 have hi':n+i<a.size:=by simp at hi;omega
 have:=h (n+i) (by omega) hi'
 rw [z2e hi'] at this
 rw [<-e]
 simpa using this
theorem zhe {r n k:Nat} (h:∀i,i<k->n+i<a.size->tk rk a (n+i)<=r):∀y∈(a.toList.drop n).take k,rk y<=r:=fun y hy=>by
 obtain ⟨i,hi,e⟩:=List.mem_iff_getElem.mp hy
 rw [List.getElem_take,List.getElem_drop] at e
 simp only [List.length_take,List.length_drop,Array.length_toList] at hi
 have hi':n+i<a.size:=by omega
 have:=h i (by omega) hi'
 rw [z2e hi'] at this
 rw [<-e]
 simpa using this
abbrev MA (rk:Keyed->Nat) (a b out:Array Keyed) (ia ib:Nat):Prop:=MI rk a.toList b.toList out.toList ia ib
theorem zoc (n k:Nat):(a.extract n (n+k)).toList=(a.toList.drop n).take k:=by
 rw [Array.toList_extract,List.extract_eq_take_drop,Nat.add_sub_cancel_left]
theorem z98 (n:Nat):(a.extract n a.size).toList=a.toList.drop n:=by
 rw [Array.toList_extract,List.extract_eq_take_drop]
 refine List.take_of_length_le ?_
 simp
theorem ztb {n:Nat} (h:n<a.size):(a.toList.drop n).take 1=[a[n]]:=by
 rw [List.drop_eq_getElem_cons (by simpa using h)]
 simp
theorem MI.extA (M:MA rk a b outA ia ib) (hA:Asc rk a.toList) {r:Nat} (h1:∀i,i<k->ia+i<a.size->tk rk a (ia+i)<=r) (h2:∀j,ib<=j->j<b.size->r<=tk rk b j):MA rk a b (outA++a.extract ia (ia+k)) (ia+k) ib:=by
 show MI rk a.toList b.toList (outA++a.extract ia (ia+k)).toList (ia+k) ib
 rw [Array.toList_append,zoc]
 exact MR.appA M hA fun x hx y hy=>Nat.le_trans (zhe h1 x hx) (zhd h2 y hy)
theorem MI.pushA (M:MA rk a b outA ia ib) (hA:Asc rk a.toList) (hi:ia<a.size) (h2:∀j,ib<=j->j<b.size->tk rk a ia<=tk rk b j):MA rk a b (outA.push a[ia]) (ia+1) ib:=by
 have m:=M.extA (k:=1) (r:=tk rk a ia) hA (fun i z _=>by rw [show i=0 by omega];exact Nat.le_refl _) h2
 show MI rk a.toList b.toList (outA.push a[ia]).toList (ia+1) ib
 rw [Array.toList_push,<-ztb hi,<-zoc,<-Array.toList_append]
 exact m
theorem MI.swapA (M:MA rk a b outA ia ib):MA rk b a outA ib ia:=MR.swap M
theorem MI.done (M:MA rk a b outA ia ib) (hA:Asc rk a.toList) (hB:Asc rk b.toList) (h:a.size<=ia\/b.size<=ib) :
  (outA++a.extract ia a.size++b.extract ib b.size).toList.Perm (a.toList++b.toList)/\Asc rk (outA++a.extract ia a.size++b.extract ib b.size).toList:=by
 rw [Array.toList_append,Array.toList_append,z98,z98]
 refine MR.fin M hA (fun x hx y hy=>?_) hB
 rcases h with z | z
 . rw [List.drop_eq_nil_of_le (by simpa using z)] at hx;cases hx
 . rw [List.drop_eq_nil_of_le (by simpa using z)] at hy;cases hy
theorem MI.last (M:MA rk a b outA ia ib) (hA:Asc rk a.toList) (hB:Asc rk b.toList) (h:∀x∈b.toList.drop ib,∀y∈a.toList.drop ia,rk x<=rk y) :
  (outA++b.extract ib b.size++a.extract ia a.size).toList.Perm (a.toList++b.toList)/\Asc rk (outA++b.extract ib b.size++a.extract ia a.size).toList:=by
 rw [Array.toList_append,Array.toList_append,z98,z98]
 have:=MR.fin M.swap hB h hA
 exact ⟨this.1.trans List.perm_append_comm,this.2⟩
end
section
variable {prog:Program} {w:World} {A:Around} {E:Value->Shared->Prop} {s:Shared} {κ:SortKind} {a₀:Array Keyed} {rk:Keyed->Nat}
noncomputable def mlo:Array Keyed->Array Keyed->StateT SortSt Sem (Array Keyed):=sortPriv% PySem.Builtin.mergeLo
structure GS (st u:SortSt):Prop where
 kind:kindOf u=kindOf st
 arr:arrOf u=arrOf st
 pend:pendingOf u=pendingOf st
 ok:failedOf u=failedOf st
theorem GS.refl (st:SortSt):GS st st:=⟨rfl,rfl,rfl,rfl⟩
theorem GS.g {st u:SortSt} (h:GS st u) (n:Nat):GS st (SortSt.mk' (kindOf u) (arrOf u) (pendingOf u) n (failedOf u)):=⟨h.kind,h.arr,h.pend,h.ok⟩
theorem zzf (hc:z5r prog w A E s κ a₀ rk) {st:SortSt} (hk:kindOf st=κ) {a b:Array Keyed} (ain:∀x∈a,x∈a₀) (bin:∀x∈b,x∈a₀) (hA:Asc rk a.toList) (hB:Asc rk b.toList) (na:0<a.size) (nb:0<b.size)
  (first:∀j,j<a.size->tk rk b 0<=tk rk a j) (last:∀j,j<b.size->tk rk b j<=tk rk a (a.size - 1)) {Q:Array Keyed->SortSt->Prop}
  (h:∀out u,GS st u->out.toList.Perm (a.toList++b.toList)/\Asc rk out.toList->Q out u):wpS (model prog w) A E s (mlo a b) Q st:=by
 have M0:MA rk a b #[b[0]] 0 1:=(MI.pushA (outA:=#[]) (ia:=0) (ib:=0) (show MA rk b a #[] 0 0 from ⟨.refl _,.nil,fun x hx=>absurd hx List.not_mem_nil,fun x hx=>absurd hx List.not_mem_nil⟩) hB nb fun j _ hj=>first j hj).swapA
 have lastA:∀{out:Array Keyed} {ia ib:Nat},MA rk a b out ia ib->ia+1=a.size->(out++b.extract ib b.size++a.extract ia a.size).toList.Perm (a.toList++b.toList)/\Asc rk (out++b.extract ib b.size++a.extract ia a.size).toList:=fun {out ia ib} M e=>by
  refine M.last hA hB fun x hx y hy=>?_
  refine zhd (fun j h1 h2=>?_) y hy
  obtain ⟨i,hi,ex⟩:=List.mem_iff_getElem.mp (List.mem_of_mem_drop hx)
  have hi':i<b.size:=by simpa using hi
  have:=last i hi'
  rw [z2e hi'] at this
  rw [show j=a.size - 1 by omega,<-ex]
  simpa using this
 unfold mlo
 refine wpS_bind (z8d ?_)
 dsimp only
 refine wpS_bind (z1h nb ?_)
 by_cases e1:1=b.size
 . rw [if_pos (by simp [<-e1])]
   exact wpS_pure (h _ st (.refl _) (M0.done hA hB (.inr (by omega))))
 rw [if_neg (by simpa using e1)]
 by_cases e2:0+1=a.size
 . rw [if_pos (by simp [<-e2])]
   exact wpS_pure (h _ st (.refl _) (lastA M0 e2))
 rw [if_neg (by simpa using e2)]
 refine wpS_bind (wpS_get ?_)
 refine wpS_bind (wpS_mono (wpS_forRange (I:=fun x c u=>GS st u/\∃out ia ib g,c=(none,out,ia,ib,g)/\MA rk a b out ia ib/\ia+1<a.size/\ib<b.size/\x+1<=ia+ib)
  (Q:=fun c u=>GS st u/\∃r t,c=(some r,t)/\r.toList.Perm (a.toList++b.toList)/\Asc rk r.toList) ?step ?fin ⟨.refl _,_,0,1,_,rfl,M0,by omega,by omega,by omega⟩) ?post)
 case fin=>
  rintro c u ⟨_,out,ia,ib,g,rfl,_,h1,h2,h3⟩
  simp only [Nat.zero_max] at h3
  omega
 case post=>
  rintro c u ⟨G,r,t,rfl,f⟩
  exact wpS_pure (h r u G f)
 case step=>
  rintro x c u _ _ ⟨G,out,ia,ib,g,rfl,M,h1,h2,h3⟩
  dsimp only
  refine wpS_bind (wpS_mono (wpS_forRange (I:=fun y c v=>v=u/\∃out ia ib ac bc,c=(none,out,ia,ib,ac,bc)/\MA rk a b out ia ib/\ia+1<a.size/\ib<b.size/\x+1+y<=ia+ib)
   (Q:=fun c v=>v=u/\((∃r t,c=(some r,t)/\r.toList.Perm (a.toList++b.toList)/\Asc rk r.toList)\/∃out ia ib ac bc,c=(none,out,ia,ib,ac,bc)/\MA rk a b out ia ib/\ia+1<a.size/\ib<b.size/\x+2<=ia+ib))
   ?walk ?wfin ⟨rfl,out,ia,ib,0,0,rfl,M,h1,h2,by omega⟩) ?wpost)
  case wfin=>
   rintro c v ⟨rfl,out,ia,ib,ac,bc,rfl,M,h1,h2,h3⟩
   simp only [Nat.zero_max] at h3
   exact ⟨rfl,.inr ⟨out,ia,ib,ac,bc,rfl,M,h1,h2,by omega⟩⟩
  case walk=>
   rintro y c v _ _ ⟨rfl,out,ia,ib,ac,bc,rfl,M,h1,h2,h3⟩
   dsimp only
   refine wpS_bind (z1h h2 (wpS_bind (z1h (show ia<a.size by omega) (wpS_bind (hc _ _ (bin _ (Array.getElem_mem _)) (ain _ (Array.getElem_mem _)) _ _ (G.kind.trans hk) ?_)))))
   rw [<-z2e (rk:=rk),<-z2e (rk:=rk)]
   by_cases l:tk rk b ib<tk rk a ia
   . simp only [l,decide_true,if_true]
     have M':=(MI.pushA M.swapA hB h2 fun j z1 z2=>Nat.le_trans (Nat.le_of_lt l) (z37 hA z1 z2)).swapA
     refine wpS_bind (z1h h2 ?_)
     by_cases f1:ib+1=b.size
     . rw [if_pos (by simpa using f1)]
       exact wpS_pure ⟨rfl,.inl ⟨_,_,rfl,M'.done hA hB (.inr (by omega))⟩⟩
     rw [if_neg (by simpa using f1)]
     by_cases f2:bc+1 ≥ g
     . rw [if_pos f2]
       exact wpS_pure ⟨rfl,.inr ⟨_,_,_,_,_,rfl,M',h1,by omega,by omega⟩⟩
     . rw [if_neg f2]
       exact wpS_pure ⟨rfl,_,_,_,_,_,rfl,M',h1,by omega,by omega⟩
   . simp only [l,decide_false,Bool.false_eq_true,if_false]
     have M':=MI.pushA M hA (by omega) fun j z1 z2=>Nat.le_trans (Nat.not_lt.mp l) (z37 hB z1 z2)
     refine wpS_bind (z1h (show ia<a.size by omega) ?_)
     by_cases f1:ia+1+1=a.size
     . rw [if_pos (by simpa using f1)]
       exact wpS_pure ⟨rfl,.inl ⟨_,_,rfl,lastA M' f1⟩⟩
     rw [if_neg (by simpa using f1)]
     by_cases f2:ac+1 ≥ g
     . rw [if_pos f2]
       exact wpS_pure ⟨rfl,.inr ⟨_,_,_,_,_,rfl,M',by omega,h2,by omega⟩⟩
     . rw [if_neg f2]
       exact wpS_pure ⟨rfl,_,_,_,_,_,rfl,M',by omega,h2,by omega⟩
  case wpost=>
   rintro c v ⟨rfl,⟨r,t,rfl,f⟩ | ⟨out,ia,ib,ac,bc,rfl,M,h1,h2,h3⟩⟩
   . exact wpS_pure ⟨G,r,_,rfl,f⟩
   dsimp only
   refine wpS_bind (z8d ?_)
   refine wpS_bind (wpS_mono (wpS_forRange (I:=fun _ c v=>GS st v/\∃out ia ib mg ac bc,c=(none,out,ia,ib,mg,ac,bc)/\MA rk a b out ia ib/\ia+1<a.size/\ib<b.size/\x+2<=ia+ib)
    (Q:=fun c v=>GS st v/\((∃r t,c=(some r,t)/\r.toList.Perm (a.toList++b.toList)/\Asc rk r.toList)\/∃out ia ib mg ac bc,c=(none,out,ia,ib,mg,ac,bc)/\MA rk a b out ia ib/\ia+1<a.size/\ib<b.size/\x+2<=ia+ib))
    ?jump (fun c v hI=>⟨hI.1,.inr hI.2⟩) ⟨G,out,ia,ib,_,ac,bc,rfl,M,h1,h2,h3⟩) ?jpost)
   case jpost=>
    rintro c v2 ⟨G2,⟨r,t,rfl,f⟩ | ⟨out,ia,ib,mg,ac,bc,rfl,M,h1,h2,h3⟩⟩
    . exact wpS_pure ⟨G2,r,_,rfl,f⟩
    . dsimp only
      exact wpS_bind (wpS_modify (wpS_pure ⟨G2.g _,out,ia,ib,_,rfl,M,h1,h2,by omega⟩))
   case jump=>
    clear M h1 h2 h3 out ia ib ac bc
    rintro y c v2 _ _ ⟨G2,out,ia,ib,mg,ac,bc,rfl,M,h1,h2,h3⟩
    dsimp only
    rcases Nat.lt_or_ge 1 mg with hm | hm
    case' inl=>rw [if_pos hm]
    case' inr=>rw [if_neg (by omega)]
    all_goals
     refine wpS_bind (wpS_modify ?_)
     refine wpS_bind (z1h h2 ?_)
     refine wpS_bind (zen hc (by exact G2.kind.trans hk) (bin _ (Array.getElem_mem _)) ain (by omega) (by omega) (fun i j z1 z2 z3=>?_) fun k hkn lt gt=>?_)
     . unfold bey at z3 ⊢
       rw [if_neg Bool.false_ne_true] at z3 ⊢
       have:=z37 hA (show ia+i<=ia+j by omega) (by omega)
       simp only [Bool.not_eq_true',decide_eq_false_iff_not] at z3 ⊢
       omega
     dsimp only
     have cb:ia+k<a.size->tk rk b ib<=tk rk a (ia+k):=fun z=>by
      have:=gt k (Nat.le_refl _) (by omega)
      unfold bey at this
      rw [if_neg Bool.false_ne_true,<-z2e (rk:=rk)] at this
      simp only [Bool.not_eq_false',decide_eq_true_eq] at this
      omega
     have ca:∀i,i<k->ia+i<a.size->tk rk a (ia+i)<=tk rk b ib:=fun i z _=>by
      have:=lt i z
      unfold bey at this
      rw [if_neg Bool.false_ne_true,<-z2e (rk:=rk)] at this
      simp only [Bool.not_eq_true',decide_eq_false_iff_not] at this
      omega
     have M1:=MI.extA (k:=k) M hA ca fun j z1 z2=>z37 hB z1 z2
     rcases Nat.lt_or_ge 0 k with hk0 | hk0
     case' inl=>
      rw [if_pos hk0]
      by_cases f1:ia+k+1=a.size
      . rw [if_pos (by simpa using f1)]
        exact wpS_pure ⟨G2.g _,.inl ⟨_,_,rfl,lastA M1 f1⟩⟩
      rw [if_neg (by simpa using f1)]
      by_cases f2:ia+k=a.size
      . rw [if_pos (by simpa using f2)]
        exact wpS_pure ⟨G2.g _,.inl ⟨_,_,rfl,M1.done hA hB (.inl (by omega))⟩⟩
      rw [if_neg (by simpa using f2)]
      obtain ⟨out1,ia1,eo,ei,M2,b1,c1,p1⟩:∃out1 ia1,out1=out++a.extract ia (ia+k)/\ia1=ia+k/\MA rk a b out1 ia1 ib/\ia1+1<a.size/\tk rk b ib<=tk rk a ia1/\x+2<=ia1+ib:=⟨_,_,rfl,rfl,M1,by omega,cb (by omega),by omega⟩
      rw [<-eo,<-ei]
      clear eo ei
     case' inr=>
      rw [if_neg (by omega)]
      obtain ⟨out1,ia1,rfl,rfl,M2,b1,c1,p1⟩:∃out1 ia1,out1=out/\ia1=ia/\MA rk a b out1 ia1 ib/\ia1+1<a.size/\tk rk b ib<=tk rk a ia1/\x+2<=ia1+ib:=
       ⟨_,_,rfl,rfl,M,h1,by have:=cb (by omega);rwa [show ia+k=ia by omega] at this,h3⟩
     all_goals
      clear M1 ca cb lt gt
      refine wpS_bind (z1h h2 ?_)
      have M3:=(MI.pushA M2.swapA hB h2 fun j z1 z2=>Nat.le_trans c1 (z37 hA z1 z2)).swapA
      by_cases f3:ib+1=b.size
      . rw [if_pos (by simpa using f3)]
        exact wpS_pure ⟨G2.g _,.inl ⟨_,_,rfl,M3.done hA hB (.inr (by omega))⟩⟩
      rw [if_neg (by simpa using f3)]
      have hi1:ia1<a.size:=by omega
      refine wpS_bind (z1h hi1 ?_)
      refine wpS_bind (zen hc (by exact G2.kind.trans hk) (ain _ (Array.getElem_mem _)) bin (by omega) (by omega) (fun i j z1 z2 z3=>?_) fun k2 hkn lt gt=>?_)
      . unfold bey at z3 ⊢
        rw [if_pos rfl] at z3 ⊢
        have:=z37 hB (show ib+1+i<=ib+1+j by omega) (by omega)
        simp only [decide_eq_true_eq] at z3 ⊢
        omega
      dsimp only
      have cb:ib+1+k2<b.size->tk rk a ia1<=tk rk b (ib+1+k2):=fun z=>by
       have:=gt k2 (Nat.le_refl _) (by omega)
       unfold bey at this
       rw [if_pos rfl,<-z2e (rk:=rk)] at this
       simp only [decide_eq_false_iff_not] at this
       omega
      have ca:∀i,i<k2->ib+1+i<b.size->tk rk b (ib+1+i)<=tk rk a ia1:=fun i z _=>by
       have:=lt i z
       unfold bey at this
       rw [if_pos rfl,<-z2e (rk:=rk)] at this
       simp only [decide_eq_true_eq] at this
       omega
      have M4:=(MI.extA (k:=k2) M3.swapA hB ca fun j z1 z2=>z37 hA z1 z2).swapA
      generalize out1.push b[ib]=out2 at *
      rcases Nat.lt_or_ge 0 k2 with hk1 | hk1
      case' inl=>
       rw [if_pos hk1]
       by_cases f4:ib+1+k2=b.size
       . rw [if_pos (by simpa using f4)]
         exact wpS_pure ⟨G2.g _,.inl ⟨_,_,rfl,M4.done hA hB (.inr (by omega))⟩⟩
       rw [if_neg (by simpa using f4)]
       obtain ⟨out3,ib1,eo,ei,M5,b2,c2,p2⟩:∃out3 ib1,out3=out2++b.extract (ib+1) (ib+1+k2)/\ib1=ib+1+k2/\MA rk a b out3 ia1 ib1/\ib1<b.size/\tk rk a ia1<=tk rk b ib1/\x+2<=ia1+ib1:=⟨_,_,rfl,rfl,M4,by omega,cb (by omega),by omega⟩
       rw [<-eo,<-ei]
       clear eo ei
      case' inr=>
       rw [if_neg (by omega)]
       obtain ⟨out3,ib1,rfl,ei,M5,b2,c2,p2⟩:∃out3 ib1,out3=out2/\ib1=ib+1/\MA rk a b out3 ia1 ib1/\ib1<b.size/\tk rk a ia1<=tk rk b ib1/\x+2<=ia1+ib1:=
        ⟨_,_,rfl,rfl,M3,by omega,by have:=cb (by omega);rwa [show ib+1+k2=ib+1 by omega] at this,by omega⟩
       rw [<-ei]
       clear ei
      all_goals
       clear M4 M3 ca cb lt gt
       refine wpS_bind (z1h hi1 ?_)
       have M6:=MI.pushA M5 hA hi1 fun j z1 z2=>Nat.le_trans c2 (z37 hB z1 z2)
       by_cases f5:ia1+1+1=a.size
       . rw [if_pos (by simpa using f5)]
         exact wpS_pure ⟨G2.g _,.inl ⟨_,_,rfl,lastA M6 f5⟩⟩
       rw [if_neg (by simpa using f5)]
       split
       . exact wpS_pure ⟨G2.g _,.inr ⟨_,_,_,_,_,_,rfl,M6,by omega,b2,by omega⟩⟩
       . exact wpS_pure ⟨G2.g _,_,_,_,_,_,_,rfl,M6,by omega,b2,by omega⟩
end
section
variable {rk:Keyed->Nat} {a b outA:Array Keyed} {na nb:Nat}
abbrev MH (rk:Keyed->Nat) (a b out:Array Keyed) (na nb:Nat):Prop:=MR (fun x y=>rk y<=rk x) a.toList.reverse b.toList.reverse out.toList (a.size - na) (b.size - nb)
theorem zc0 (h:Asc rk a.toList):AscR (fun x y=>rk y<=rk x) a.toList.reverse:=List.pairwise_reverse.mpr h
theorem z4g (h:na<=a.size):a.toList.reverse.drop (a.size - na)=(a.toList.take na).reverse:=by
 rw [List.drop_reverse,Array.length_toList,show a.size - (a.size - na)=na by omega]
theorem zhf {r:Nat} (h:∀j,j<na->j<a.size->tk rk a j<=r):∀y∈a.toList.take na,rk y<=r:=by
 have:=zhe (rk:=rk) (a:=a) (n:=0) (k:=na) (r:=r) (fun i z1 z2=>by rw [Nat.zero_add];exact h i z1 (by omega))
 rwa [List.drop_zero] at this
theorem MR.extH (M:MH rk a b outA na nb) (hA:Asc rk a.toList) {p r:Nat} (hp:p<=na) (hn:na<=a.size) (hb:nb<=b.size) (h1:∀i,p<=i->i<na->r<=tk rk a i) (h2:∀j,j<nb->tk rk b j<=r):MH rk a b (outA++(a.extract p na).reverse) p nb:=by
 have e:((a.extract p na).reverse).toList=(a.toList.reverse.drop (a.size - na)).take (na - p):=by
  rw [z4g hn,Array.toList_reverse,Array.toList_extract,List.extract_eq_take_drop,List.take_reverse,List.length_take,Array.length_toList,List.drop_take]
  rw [show min na a.size - (na - p)=p by omega]
 show MR _ _ _ (outA++(a.extract p na).reverse).toList (a.size - p) (b.size - nb)
 rw [Array.toList_append,e,show a.size - p=a.size - na+(na - p) by omega]
 refine MR.appA M (zc0 hA) fun x hx y hy=>?_
 rw [<-e,Array.toList_reverse,List.mem_reverse,Array.toList_extract,List.extract_eq_take_drop] at hx
 rw [z4g hb,List.mem_reverse] at hy
 refine Nat.le_trans (zhf (fun j z _=>h2 j z) y hy) ?_
 obtain ⟨i,hi,ex⟩:=List.mem_iff_getElem.mp hx
 rw [List.getElem_take,List.getElem_drop] at ex
 simp only [List.length_take,List.length_drop,Array.length_toList] at hi
 have:=h1 (p+i) (by omega) (by omega)
 rw [z2e (show p+i<a.size by omega)] at this
 rw [<-ex]
 simpa using this
theorem MR.pushH (M:MH rk a b outA na nb) (hA:Asc rk a.toList) (h0:0<na) (hn:na<=a.size) (hb:nb<=b.size) (h2:∀j,j<nb->tk rk b j<=tk rk a (na - 1)):MH rk a b (outA.push a[na - 1]) (na - 1) nb:=by
 have m:=MR.extH M hA (p:=na - 1) (r:=tk rk a (na - 1)) (by omega) hn hb (fun i z1 z2=>by rw [show i=na - 1 by omega];exact Nat.le_refl _) h2
 have e:(a.extract (na - 1) na).reverse.toList=[a[na - 1]]:=by
  rw [Array.toList_reverse,show a.extract (na - 1) na=a.extract (na - 1) (na - 1+1) by rw [Nat.sub_add_cancel h0],zoc,ztb (by omega)]
  rfl
 show MR _ _ _ (outA.push a[na - 1]).toList _ _
 rw [Array.toList_push,<-e,<-Array.toList_append]
 exact m
theorem MR.finH (M:MH rk a b outA na nb) (hA:Asc rk a.toList) (hB:Asc rk b.toList) (hn:na<=a.size) (hb:nb<=b.size) (h:∀x∈b.toList.take nb,∀y∈a.toList.take na,rk y<=rk x) :
  (a.extract 0 na++b.extract 0 nb++outA.reverse).toList.Perm (a.toList++b.toList)/\Asc rk (a.extract 0 na++b.extract 0 nb++outA.reverse).toList:=by
 have f:=MR.fin M.swap (zc0 hB) (fun x hx y hy=>?_) (zc0 hA)
 . rw [z4g hn,z4g hb] at f
   have e:(a.extract 0 na++b.extract 0 nb++outA.reverse).toList=(outA.toList++(b.toList.take nb).reverse++(a.toList.take na).reverse).reverse:=by
    have ea:∀(c:Array Keyed) (k:Nat),(c.extract 0 k).toList=c.toList.take k:=fun c k=>by
     rw [Array.toList_extract,List.extract_eq_take_drop,List.drop_zero,Nat.sub_zero]
    rw [Array.toList_append,Array.toList_append,ea,ea,Array.toList_reverse]
    simp
   rw [e]
   refine ⟨(List.reverse_perm _).trans (f.1.trans ?_),List.pairwise_reverse.mpr f.2⟩
   exact ((List.reverse_perm _).append (List.reverse_perm _)).trans List.perm_append_comm
 . rw [z4g hb,List.mem_reverse] at hx
   rw [z4g hn,List.mem_reverse] at hy
   exact h x hx y hy
end
section
variable {prog:Program} {w:World} {A:Around} {E:Value->Shared->Prop} {s:Shared} {κ:SortKind} {a₀:Array Keyed} {rk:Keyed->Nat}
noncomputable def mhi:Array Keyed->Array Keyed->StateT SortSt Sem (Array Keyed):=sortPriv% PySem.Builtin.mergeHi
theorem zzg (hc:z5r prog w A E s κ a₀ rk) {st:SortSt} (hk:kindOf st=κ) {a b:Array Keyed} (ain:∀x∈a,x∈a₀) (bin:∀x∈b,x∈a₀) (hA:Asc rk a.toList) (hB:Asc rk b.toList) (na0:0<a.size) (nb0:0<b.size)
  (first:∀j,j<a.size->tk rk b 0<=tk rk a j) (last:∀j,j<b.size->tk rk b j<=tk rk a (a.size - 1)) {Q:Array Keyed->SortSt->Prop}
  (h:∀out u,GS st u->out.toList.Perm (a.toList++b.toList)/\Asc rk out.toList->Q out u):wpS (model prog w) A E s (mhi a b) Q st:=by
 have M0:MH rk a b #[a[a.size - 1]] (a.size - 1) b.size:=MR.pushH (outA:=#[]) (na:=a.size) (nb:=b.size)
  (show MH rk a b #[] a.size b.size from ⟨by simp,.nil,fun x hx=>absurd hx List.not_mem_nil,fun x hx=>absurd hx List.not_mem_nil⟩) hA na0 (Nat.le_refl _) (Nat.le_refl _) last
 have dn:∀{out:Array Keyed} {na nb:Nat},MH rk a b out na nb->na<=a.size->nb<=b.size->(na=0\/nb=0)->(a.extract 0 na++b.extract 0 nb++out.reverse).toList.Perm (a.toList++b.toList)/\Asc rk (a.extract 0 na++b.extract 0 nb++out.reverse).toList:=fun {out na nb} M h1 h2 e=>by
  refine MR.finH M hA hB h1 h2 fun x hx y hy=>?_
  rcases e with rfl | rfl
  . rw [List.take_zero] at hy;cases hy
  . rw [List.take_zero] at hx;cases hx
 have fb:∀{out:Array Keyed} {na nb:Nat},MH rk a b out na nb->na<=a.size->nb<=b.size->nb=1->(b.extract 0 nb++a.extract 0 na++out.reverse).toList.Perm (a.toList++b.toList)/\Asc rk (b.extract 0 nb++a.extract 0 na++out.reverse).toList:=fun {out na nb} M h1 h2 e=>by
  have f:=MR.finH (a:=b) (b:=a) M.swap hB hA h2 h1 fun x hx y hy=>?_
  . exact ⟨f.1.trans List.perm_append_comm,f.2⟩
  . obtain ⟨i,hi,ex⟩:=List.mem_iff_getElem.mp (List.mem_of_mem_take hx)
    have hi':i<a.size:=by simpa using hi
    have q:=first i hi'
    rw [z2e hi'] at q
    rw [<-ex]
    refine Nat.le_trans (zhf (r:=tk rk b 0) (fun j z1 z2=>by rw [show j=0 by omega];exact Nat.le_refl _) y hy) (by simpa using q)
 unfold mhi
 refine wpS_bind (z8d ?_)
 dsimp only
 refine wpS_bind (z1h (show a.size - 1<a.size by omega) ?_)
 by_cases e1:a.size - 1=0
 . rw [if_pos (by simpa using e1)]
   exact wpS_pure (h _ st (.refl _) (dn M0 (by omega) (Nat.le_refl _) (.inl e1)))
 rw [if_neg (by simpa using e1)]
 by_cases e2:b.size=1
 . rw [if_pos (by simpa using e2)]
   exact wpS_pure (h _ st (.refl _) (fb M0 (by omega) (Nat.le_refl _) e2))
 rw [if_neg (by simpa using e2)]
 refine wpS_bind (wpS_get ?_)
 refine wpS_bind (wpS_mono (wpS_forRange (I:=fun x c u=>GS st u/\∃na nb out g,c=(none,na,nb,out,g)/\MH rk a b out na nb/\(0<na/\na<=a.size)/\(1<nb/\nb<=b.size)/\na+nb+x+1<=a.size+b.size)
  (Q:=fun c u=>GS st u/\∃r t,c=(some r,t)/\r.toList.Perm (a.toList++b.toList)/\Asc rk r.toList) ?step ?fin ⟨.refl _,_,_,_,_,rfl,M0,by omega,by omega,by omega⟩) ?post)
 case fin=>
  rintro c u ⟨_,na,nb,out,g,rfl,_,h1,h2,h3⟩
  simp only [Nat.zero_max] at h3
  omega
 case post=>
  rintro c u ⟨G,r,t,rfl,f⟩
  exact wpS_pure (h r u G f)
 case step=>
  rintro x c u _ _ ⟨G,na,nb,out,g,rfl,M,h1,h2,h3⟩
  dsimp only
  refine wpS_bind (wpS_mono (wpS_forRange (I:=fun y c v=>v=u/\∃na nb out ac bc,c=(none,na,nb,out,ac,bc)/\MH rk a b out na nb/\(0<na/\na<=a.size)/\(1<nb/\nb<=b.size)/\na+nb+x+1+y<=a.size+b.size)
   (Q:=fun c v=>v=u/\((∃r t,c=(some r,t)/\r.toList.Perm (a.toList++b.toList)/\Asc rk r.toList)\/∃na nb out ac bc,c=(none,na,nb,out,ac,bc)/\MH rk a b out na nb/\(0<na/\na<=a.size)/\(1<nb/\nb<=b.size)/\na+nb+x+2<=a.size+b.size))
   ?walk ?wfin ⟨rfl,na,nb,out,0,0,rfl,M,h1,h2,by omega⟩) ?wpost)
  case wfin=>
   rintro c v ⟨rfl,na,nb,out,ac,bc,rfl,M,h1,h2,h3⟩
   simp only [Nat.zero_max] at h3
   exact ⟨rfl,.inr ⟨na,nb,out,ac,bc,rfl,M,h1,h2,by omega⟩⟩
  case walk=>
   rintro y c v _ _ ⟨rfl,na,nb,out,ac,bc,rfl,M,h1,h2,h3⟩
   dsimp only
   refine wpS_bind (z1h (show nb - 1<b.size by omega) (wpS_bind (z1h (show na - 1<a.size by omega) (wpS_bind (hc _ _ (bin _ (Array.getElem_mem _)) (ain _ (Array.getElem_mem _)) _ _ (G.kind.trans hk) ?_)))))
   rw [<-z2e (rk:=rk),<-z2e (rk:=rk)]
   by_cases l:tk rk b (nb - 1)<tk rk a (na - 1)
   . simp only [l,decide_true,if_true]
     have M':=MR.pushH M hA h1.1 h1.2 h2.2 fun j z=>Nat.le_trans (z37 hB (show j<=nb - 1 by omega) (by omega)) (Nat.le_of_lt l)
     refine wpS_bind (z1h (show na - 1<a.size by omega) ?_)
     by_cases f1:na - 1=0
     . rw [if_pos (by simpa using f1)]
       exact wpS_pure ⟨rfl,.inl ⟨_,_,rfl,dn M' (by omega) h2.2 (.inl f1)⟩⟩
     rw [if_neg (by simpa using f1)]
     by_cases f2:ac+1 ≥ g
     . rw [if_pos f2]
       exact wpS_pure ⟨rfl,.inr ⟨_,_,_,_,_,rfl,M',by omega,h2,by omega⟩⟩
     . rw [if_neg f2]
       exact wpS_pure ⟨rfl,_,_,_,_,_,rfl,M',by omega,h2,by omega⟩
   . simp only [l,decide_false,Bool.false_eq_true,if_false]
     have M':MH rk a b (out.push b[nb - 1]) na (nb - 1):=(MR.pushH (a:=b) (b:=a) M.swap hB (by omega) h2.2 h1.2 fun j z=>Nat.le_trans (z37 hA (show j<=na - 1 by omega) (by omega)) (Nat.not_lt.mp l)).swap
     refine wpS_bind (z1h (show nb - 1<b.size by omega) ?_)
     by_cases f1:nb - 1=1
     . rw [if_pos (by simpa using f1)]
       exact wpS_pure ⟨rfl,.inl ⟨_,_,rfl,fb M' h1.2 (by omega) f1⟩⟩
     rw [if_neg (by simpa using f1)]
     by_cases f2:bc+1 ≥ g
     . rw [if_pos f2]
       exact wpS_pure ⟨rfl,.inr ⟨_,_,_,_,_,rfl,M',h1,by omega,by omega⟩⟩
     . rw [if_neg f2]
       exact wpS_pure ⟨rfl,_,_,_,_,_,rfl,M',h1,by omega,by omega⟩
  case wpost=>
   rintro c v ⟨rfl,⟨r,t,rfl,f⟩ | ⟨na,nb,out,ac,bc,rfl,M,h1,h2,h3⟩⟩
   . exact wpS_pure ⟨G,r,_,rfl,f⟩
   dsimp only
   refine wpS_bind (z8d ?_)
   refine wpS_bind (wpS_mono (wpS_forRange (I:=fun _ c v=>GS st v/\∃na nb out mg ac bc,c=(none,na,nb,out,mg,ac,bc)/\MH rk a b out na nb/\(0<na/\na<=a.size)/\(1<nb/\nb<=b.size)/\na+nb+x+2<=a.size+b.size)
    (Q:=fun c v=>GS st v/\((∃r t,c=(some r,t)/\r.toList.Perm (a.toList++b.toList)/\Asc rk r.toList)\/∃na nb out mg ac bc,c=(none,na,nb,out,mg,ac,bc)/\MH rk a b out na nb/\(0<na/\na<=a.size)/\(1<nb/\nb<=b.size)/\na+nb+x+2<=a.size+b.size))
    ?jump (fun c v hI=>⟨hI.1,.inr hI.2⟩) ⟨G,na,nb,out,_,ac,bc,rfl,M,h1,h2,h3⟩) ?jpost)
   case jpost=>
    rintro c v2 ⟨G2,⟨r,t,rfl,f⟩ | ⟨na,nb,out,mg,ac,bc,rfl,M,h1,h2,h3⟩⟩
    . exact wpS_pure ⟨G2,r,_,rfl,f⟩
    . dsimp only
      exact wpS_bind (wpS_modify (wpS_pure ⟨G2.g _,na,nb,out,_,rfl,M,h1,h2,by omega⟩))
   case jump=>
    clear M h1 h2 h3 out na nb ac bc
    rintro y c v2 _ _ ⟨G2,na,nb,out,mg,ac,bc,rfl,M,h1,h2,h3⟩
    dsimp only
    have hb1:nb - 1<b.size:=by omega
    rcases Nat.lt_or_ge 1 mg with hm | hm
    case' inl=>rw [if_pos hm]
    case' inr=>rw [if_neg (by omega)]
    all_goals
     refine wpS_bind (wpS_modify ?_)
     refine wpS_bind (z1h hb1 ?_)
     refine wpS_bind (zen hc (by exact G2.kind.trans hk) (bin _ (Array.getElem_mem _)) ain (by omega) (by omega) (fun i j z1 z2 z3=>?_) fun p hp lt gt=>?_)
     . unfold bey at z3 ⊢
       rw [if_neg Bool.false_ne_true] at z3 ⊢
       have:=z37 hA (show 0+i<=0+j by omega) (by omega)
       simp only [Bool.not_eq_true',decide_eq_false_iff_not] at z3 ⊢
       omega
     dsimp only
     have ca:∀i,p<=i->i<na->tk rk b (nb - 1)<=tk rk a i:=fun i z1 z2=>by
      have:=gt i z1 z2
      unfold bey at this
      rw [if_neg Bool.false_ne_true,<-z2e (rk:=rk),Nat.zero_add] at this
      simp only [Bool.not_eq_false',decide_eq_true_eq] at this
      omega
     have cb:∀i,i<p->tk rk a i<=tk rk b (nb - 1):=fun i z=>by
      have:=lt i z
      unfold bey at this
      rw [if_neg Bool.false_ne_true,<-z2e (rk:=rk),Nat.zero_add] at this
      simp only [Bool.not_eq_true',decide_eq_false_iff_not] at this
      omega
     have M1:=MR.extH M hA (p:=p) hp h1.2 h2.2 ca fun j z=>z37 hB (show j<=nb - 1 by omega) (by omega)
     rcases Nat.lt_or_ge 0 (na - p) with hk0 | hk0
     case' inl=>
      rw [if_pos hk0]
      by_cases f1:p=0
      . rw [if_pos (by simpa using f1)]
        exact wpS_pure ⟨G2.g _,.inl ⟨_,_,rfl,dn M1 (by omega) h2.2 (.inl f1)⟩⟩
      rw [if_neg (by simpa using f1)]
      obtain ⟨out1,na1,eo,ei,M2,b1,c1,p1⟩:∃out1 na1,out1=out++(a.extract p na).reverse/\na1=p/\MH rk a b out1 na1 nb/\(0<na1/\na1<=a.size)/\(∀i,i<na1->tk rk a i<=tk rk b (nb - 1))/\na1+nb+x+2<=a.size+b.size:=⟨_,_,rfl,rfl,M1,by omega,cb,by omega⟩
      rw [<-eo]
      clear eo
      generalize na - p=kk
      subst ei
     case' inr=>
      rw [if_neg (by omega)]
      obtain ⟨out1,na1,rfl,rfl,M2,b1,c1,p1⟩:∃out1 na1,out1=out/\na1=na/\MH rk a b out1 na1 nb/\(0<na1/\na1<=a.size)/\(∀i,i<na1->tk rk a i<=tk rk b (nb - 1))/\na1+nb+x+2<=a.size+b.size:=
       ⟨_,_,rfl,rfl,M,h1,fun i z=>cb i (by omega),h3⟩
      generalize na1 - p=kk
     all_goals
      clear M1 ca cb lt gt
      refine wpS_bind (z1h hb1 ?_)
      have M3:MH rk a b (out1.push b[nb - 1]) na1 (nb - 1):=(MR.pushH (a:=b) (b:=a) M2.swap hB (by omega) h2.2 b1.2 c1).swap
      generalize out1.push b[nb - 1]=out2 at *
      by_cases f3:nb - 1=1
      . rw [if_pos (by simpa using f3)]
        exact wpS_pure ⟨G2.g _,.inl ⟨_,_,rfl,fb M3 b1.2 (by omega) f3⟩⟩
      rw [if_neg (by simpa using f3)]
      have hi1:na1 - 1<a.size:=by omega
      refine wpS_bind (z1h hi1 ?_)
      refine wpS_bind (zen hc (by exact G2.kind.trans hk) (ain _ (Array.getElem_mem _)) bin (by omega) (by omega) (fun i j z1 z2 z3=>?_) fun p2 hp2 lt gt=>?_)
      . unfold bey at z3 ⊢
        rw [if_pos rfl] at z3 ⊢
        have:=z37 hB (show 0+i<=0+j by omega) (by omega)
        simp only [decide_eq_true_eq] at z3 ⊢
        omega
      dsimp only
      have ca:∀i,p2<=i->i<nb - 1->tk rk a (na1 - 1)<=tk rk b i:=fun i z1 z2=>by
       have:=gt i z1 z2
       unfold bey at this
       rw [if_pos rfl,<-z2e (rk:=rk),Nat.zero_add] at this
       simp only [decide_eq_false_iff_not] at this
       omega
      have cb:∀i,i<p2->tk rk b i<=tk rk a (na1 - 1):=fun i z=>by
       have:=lt i z
       unfold bey at this
       rw [if_pos rfl,<-z2e (rk:=rk),Nat.zero_add] at this
       simp only [decide_eq_true_eq] at this
       omega
      have M4:MH rk a b (out2++(b.extract p2 (nb - 1)).reverse) na1 p2:=(MR.extH (a:=b) (b:=a) M3.swap hB (p:=p2) hp2 (by omega) b1.2 ca fun j z=>z37 hA (show j<=na1 - 1 by omega) (by omega)).swap
      rcases Nat.lt_or_ge 0 (nb - 1 - p2) with hk1 | hk1
      case' inl=>
       rw [if_pos hk1]
       by_cases f4:p2=1
       . rw [if_pos (by simpa using f4)]
         exact wpS_pure ⟨G2.g _,.inl ⟨_,_,rfl,fb M4 b1.2 (by omega) f4⟩⟩
       rw [if_neg (by simpa using f4)]
       by_cases f5:p2=0
       . rw [if_pos (by simpa using f5)]
         exact wpS_pure ⟨G2.g _,.inl ⟨_,_,rfl,dn M4 b1.2 (by omega) (.inr f5)⟩⟩
       rw [if_neg (by simpa using f5)]
       obtain ⟨out3,nb1,eo,ei,M5,b2,c2,p3⟩:∃out3 nb1,out3=out2++(b.extract p2 (nb - 1)).reverse/\nb1=p2/\MH rk a b out3 na1 nb1/\(1<nb1/\nb1<=b.size)/\(∀i,i<nb1->tk rk b i<=tk rk a (na1 - 1))/\na1+nb1+x+2<=a.size+b.size:=⟨_,_,rfl,rfl,M4,by omega,cb,by omega⟩
       rw [<-eo]
       clear eo
       generalize nb - 1 - p2=kk2
       subst ei
      case' inr=>
       rw [if_neg (by omega)]
       obtain ⟨out3,nb1,rfl,ei,M5,b2,c2,p3⟩:∃out3 nb1,out3=out2/\nb1=nb - 1/\MH rk a b out3 na1 nb1/\(1<nb1/\nb1<=b.size)/\(∀i,i<nb1->tk rk b i<=tk rk a (na1 - 1))/\na1+nb1+x+2<=a.size+b.size:=
        ⟨_,_,rfl,rfl,M3,by omega,fun i z=>cb i (by omega),by omega⟩
       rw [<-ei]
       generalize nb1 - p2=kk2
       clear ei
      all_goals
       clear M4 ca cb lt gt
       refine wpS_bind (z1h hi1 ?_)
       have M6:=MR.pushH M5 hA b1.1 b1.2 b2.2 c2
       by_cases f6:na1 - 1=0
       . rw [if_pos (by simpa using f6)]
         exact wpS_pure ⟨G2.g _,.inl ⟨_,_,rfl,dn M6 (by omega) b2.2 (.inl f6)⟩⟩
       rw [if_neg (by simpa using f6)]
       split
       . exact wpS_pure ⟨G2.g _,.inr ⟨_,_,_,_,_,_,rfl,M6,by omega,b2,by omega⟩⟩
       . exact wpS_pure ⟨G2.g _,_,_,_,_,_,_,rfl,M6,by omega,b2,by omega⟩
end
section
variable {rk:Keyed->Nat}
theorem zln (c:Nat):∀(m:List Keyed) (n:Nat) (ys:Array Keyed),c+n+m.length<=ys.size ->
  ((m.zipIdx n).foldl (fun a (q:Keyed×Nat)=>a.setIfInBounds (c+q.2) q.1) ys).toList=ys.toList.take (c+n)++m++ys.toList.drop (c+n+m.length)
 | [],n,ys,_=>by simp
 | p::m,n,ys,h=>by
  simp only [List.length_cons] at h
  rw [List.zipIdx_cons,List.foldl_cons,zln c m (n+1) _ (by rw [Array.size_setIfInBounds];omega),Array.toList_setIfInBounds]
  have hl:c+n<ys.toList.length:=by rw [Array.length_toList];omega
  rw [show c+(n+1)=c+n+1 by omega,List.take_set,List.drop_set_of_lt (by omega),List.take_succ_eq_append_getElem hl,List.set_append_right _ _ (by rw [List.length_take];omega)]
  rw [List.length_take,show c+n - min (c+n) ys.toList.length=0 by omega,List.set_cons_zero,List.length_cons,show c+n+1+m.length=c+n+(m.length+1) by omega]
  simp
structure Seg (xs:Array Keyed) (pre X post:List Keyed):Prop where
 eq:xs.toList=pre++X++post
variable {xs:Array Keyed} {pre X post:List Keyed}
theorem Seg.size (S:Seg xs pre X post):xs.size=pre.length+X.length+post.length:=by
 rw [<-Array.length_toList,S.eq,List.length_append,List.length_append]
theorem Seg.at (S:Seg xs pre X post) {i:Nat} (h:i<X.length):∃hh:pre.length+i<xs.size,xs[pre.length+i]=X[i]:=by
 refine ⟨by rw [S.size];omega,?_⟩
 rw [<-Array.getElem_toList]
 simp only [S.eq]
 rw [List.getElem_append_left (by rw [List.length_append];omega),List.getElem_append_right (by omega)]
 simp
theorem Seg.tk (S:Seg xs pre X post) {i:Nat} (h:i<X.length):tk rk xs (pre.length+i)=rk X[i]:=by
 obtain ⟨hh,e⟩:=S.at h
 rw [z2e hh,e]
theorem Asc.at {l:List Keyed} (h:Asc rk l) {i j:Nat} (hij:i<=j) (hj:j<l.length):rk l[i]<=rk l[j]:=by
 rcases Nat.lt_or_ge i j with z | z
 . exact List.pairwise_iff_getElem.mp h i j (by omega) hj z
 . obtain rfl:i=j:=by omega
   exact Nat.le_refl _
theorem Seg.ext (S:Seg xs pre X post) (k m:Nat) (h:k<=m) (hm:m<=X.length):(xs.extract (pre.length+k) (pre.length+m)).toList=(X.drop k).take (m - k):=by
 rw [Array.toList_extract,List.extract_eq_take_drop,S.eq,List.append_assoc,<-List.drop_drop,List.drop_left,List.drop_append_of_le_length (by omega),show pre.length+m - (pre.length+k)=m - k by omega,
  List.take_append_of_le_length (by rw [List.length_drop];omega)]
end
section
variable {prog:Program} {w:World} {A:Around} {E:Value->Shared->Prop} {s:Shared} {κ:SortKind} {a₀:Array Keyed} {rk:Keyed->Nat}
theorem zyc {a:Array Keyed} {l:List Keyed} (e:a.toList=l) {i:Nat} (h:i<l.length):tk rk a i=rk l[i]:=by
 subst e
 rw [z2e (by simpa using h)]
 simp
theorem zx6 {U:Type} {M:Model} {v st:U} {Q:PUnit->U->Prop} (h:Q ⟨⟩ v):wpS M A E s (set v:StateT U Sem PUnit) Q st:=by
 unfold wpS;rw [StateT.run_set];exact wpAny_pure ⟨rfl,h⟩
theorem zzh (hc:z5r prog w A E s κ a₀ rk) {st:SortSt} (B:TBs κ a₀ st) {L R:List (Nat×Nat×Nat)} {pw pw':Nat} {pre X Y post:List Keyed} (hP:(pendingOf st).toList=L++(pre.length,X.length,pw)::(pre.length+X.length,Y.length,pw')::R)
  (hx:(arrOf st).toList=pre++X++(Y++post)) (aX:Asc rk X) (aY:Asc rk Y) (nX:0<X.length) (nY:0<Y.length) {Q:Bool->SortSt->Prop}
  (h:∀u Z,TBs κ a₀ u->(pendingOf u).toList=L++(pre.length,X.length+Y.length,pw)::R->(arrOf u).toList=pre++Z++post->Asc rk Z->Z.length=X.length+Y.length->Q true u):wpS (model prog w) A E s (mergeAt' L.length) Q st:=by
 have S1:Seg (arrOf st) pre X (Y++post):=⟨hx⟩
 have S2:Seg (arrOf st) (pre++X) Y post:=⟨by rw [hx,<-List.append_assoc]⟩
 have l2:(pre++X).length=pre.length+X.length:=List.length_append
 have p1:(pendingOf st)[L.length]?=some (pre.length,X.length,pw):=by rw [<-Array.getElem?_toList,hP];simp
 have p2:(pendingOf st)[L.length+1]?=some (pre.length+X.length,Y.length,pw'):=by rw [<-Array.getElem?_toList,hP];simp
 have pn:(((pendingOf st).setIfInBounds L.length (pre.length,X.length+Y.length,pw)).eraseIdxIfInBounds (L.length+1)).toList=L++(pre.length,X.length+Y.length,pw)::R:=by
  rw [Array.toList_eraseIdxIfInBounds,Array.toList_setIfInBounds,hP]
  simp [List.eraseIdx_append_of_length_le]
 unfold mergeAt'
 refine wpS_bind (wpS_get ?_)
 dsimp only
 rw [p1,p2]
 dsimp only
 refine wpS_bind (zx6 ?_)
 have z0:pre.length+X.length<(arrOf st).size:=by rw [S1.size,List.length_append];omega
 refine wpS_bind (z1h z0 ?_)
 have kin:∀x∈arrOf st,x∈a₀:=fun x hx=>B.mem hx
 have hX:=S1.size
 rw [List.length_append] at hX
 have vX:∀{i:Nat} (hi:i<X.length),tk rk (arrOf st) (pre.length+i)=rk X[i]:=fun hi=>S1.tk hi
 have vY:∀{i:Nat} (hi:i<Y.length),tk rk (arrOf st) (pre.length+X.length+i)=rk Y[i]:=fun {i} hi=>by have:=S2.tk (rk:=rk) hi;rwa [l2] at this
 have ky:rk (arrOf st)[pre.length+X.length]=rk Y[0]:=by rw [<-z2e (rk:=rk) z0];exact vY nY
 refine wpS_bind (zen hc (by exact B.kind) (kin _ (Array.getElem_mem _)) kin (by omega) nX (fun i j z1 z2 z3=>?_) fun k hkn lt gt=>?_)
 . unfold bey at z3 ⊢
   rw [if_neg Bool.false_ne_true] at z3 ⊢
   rw [vX (by omega)] at z3 ⊢
   have:=aX.at z1 z2
   simp only [Bool.not_eq_true',decide_eq_false_iff_not] at z3 ⊢
   omega
 dsimp only
 have ca:∀i (hi:i<X.length),i<k->rk X[i]<=rk Y[0]:=fun i hi z=>by
  have:=lt i z
  unfold bey at this
  rw [if_neg Bool.false_ne_true,vX hi,ky] at this
  simp only [Bool.not_eq_true',decide_eq_false_iff_not] at this
  omega
 have cb:∀i (hi:i<X.length),k<=i->rk Y[0]<rk X[i]:=fun i hi z=>by
  have:=gt i z hi
  unfold bey at this
  rw [if_neg Bool.false_ne_true,vX hi,ky] at this
  simpa using this
 have finXY:(∀i (hi:i<X.length) j (hj:j<Y.length),rk X[i]<=rk Y[j])->Asc rk (X++Y):=fun q=>by
  refine List.pairwise_append.mpr ⟨aX,aY,fun x hx y hy=>?_⟩
  obtain ⟨i,hi,rfl⟩:=List.mem_iff_getElem.mp hx
  obtain ⟨j,hj,rfl⟩:=List.mem_iff_getElem.mp hy
  exact q i hi j hj
 by_cases e1:X.length - k=0
 . rw [if_pos (by simpa using e1)]
   exact wpS_pure (h _ (X++Y) ⟨B.perm,B.kind,B.ok⟩ pn (by show (arrOf st).toList=_;rw [hx];simp) (finXY fun i hi j hj=>Nat.le_trans (ca i hi (by omega)) (aY.at (Nat.zero_le _) hj)) List.length_append)
 rw [if_neg (by simpa using e1)]
 have z1:pre.length+k+(X.length - k) - 1<(arrOf st).size:=by omega
 refine wpS_bind (z1h z1 ?_)
 have kx:rk (arrOf st)[pre.length+k+(X.length - k) - 1]=rk X[X.length - 1]:=by
  rw [<-z2e (rk:=rk) z1,show pre.length+k+(X.length - k) - 1=pre.length+(X.length - 1) by omega]
  exact vX (by omega)
 refine wpS_bind (zen hc (by exact B.kind) (kin _ (Array.getElem_mem _)) kin (by omega) (by omega) (fun i j z1 z2 z3=>?_) fun m hm lt2 gt2=>?_)
 . unfold bey at z3 ⊢
   rw [if_pos rfl] at z3 ⊢
   rw [vY (by omega)] at z3 ⊢
   have:=aY.at z1 z2
   simp only [decide_eq_true_eq] at z3 ⊢
   omega
 dsimp only
 have da:∀j (hj:j<Y.length),j<m->rk Y[j]<rk X[X.length - 1]:=fun j hj z=>by
  have:=lt2 j z
  unfold bey at this
  rw [if_pos rfl,vY hj,kx] at this
  simpa using this
 have db:∀j (hj:j<Y.length),m<=j->rk X[X.length - 1]<=rk Y[j]:=fun j hj z=>by
  have:=gt2 j z hj
  unfold bey at this
  rw [if_pos rfl,vY hj,kx] at this
  simp only [decide_eq_false_iff_not] at this
  omega
 by_cases e2:m=0
 . rw [if_pos (by simpa using e2)]
   exact wpS_pure (h _ (X++Y) ⟨B.perm,B.kind,B.ok⟩ pn (by show (arrOf st).toList=_;rw [hx];simp) (finXY fun i hi j hj=>Nat.le_trans (aX.at (show i<=X.length - 1 by omega) (by omega)) (db j hj (by omega))) List.length_append)
 rw [if_neg (by simpa using e2)]
 have ex:((arrOf st).extract (pre.length+k) (pre.length+X.length)).toList=X.drop k:=by
  rw [S1.ext k X.length hkn (Nat.le_refl _)]
  exact List.take_of_length_le (by rw [List.length_drop];omega)
 have ey:((arrOf st).extract (pre.length+X.length) (pre.length+X.length+m)).toList=Y.take m:=by
  have:=S2.ext 0 m (Nat.zero_le _) hm
  rwa [l2,Nat.add_zero,List.drop_zero,Nat.sub_zero] at this
 generalize hx1:(arrOf st).extract (pre.length+k) (pre.length+X.length)=x1 at *
 generalize hy1:(arrOf st).extract (pre.length+X.length) (pre.length+X.length+m)=y1 at *
 have lx:x1.size=X.length - k:=by rw [<-Array.length_toList,ex,List.length_drop]
 have ly:y1.size=m:=by rw [<-Array.length_toList,ey,List.length_take];omega
 have tx:∀i,i<X.length - k->∃hi:k+i<X.length,tk rk x1 i=rk X[k+i]:=fun i hi=>⟨by omega,by rw [zyc ex (by rw [List.length_drop];exact hi),List.getElem_drop]⟩
 have ty:∀i,i<m->∃hi:i<Y.length,tk rk y1 i=rk Y[i]:=fun i hi=>⟨by omega,by rw [zyc ey (by rw [List.length_take];omega),List.getElem_take]⟩
 have xin:∀x∈x1,x∈a₀:=fun x hx=>kin x (Array.mem_def.mpr (by rw [Array.mem_def,ex] at hx;rw [S1.eq];exact List.mem_append_left _ (List.mem_append_right _ (List.mem_of_mem_drop hx))))
 have yin:∀x∈y1,x∈a₀:=fun x hx=>kin x (Array.mem_def.mpr (by rw [Array.mem_def,ey] at hx;rw [S2.eq];exact List.mem_append_left _ (List.mem_append_right _ (List.mem_of_mem_take hx))))
 have first:∀j,j<x1.size->tk rk y1 0<=tk rk x1 j:=fun j hj=>by
  obtain ⟨h1,e1⟩:=tx j (by omega)
  obtain ⟨h2,e2⟩:=ty 0 (by omega)
  rw [e1,e2];exact Nat.le_of_lt (cb _ h1 (by omega))
 have last:∀j,j<y1.size->tk rk y1 j<=tk rk x1 (x1.size - 1):=fun j hj=>by
  obtain ⟨h1,e1⟩:=tx (x1.size - 1) (by omega)
  obtain ⟨h2,e2⟩:=ty j (by omega)
  rw [e1,e2]
  have:=da j h2 (by omega)
  simp only [show k+(x1.size - 1)=X.length - 1 by omega]
  omega
 have A1:Asc rk x1.toList:=by rw [ex];exact aX.drop k
 have A2:Asc rk y1.toList:=by rw [ey];exact aY.take m
 have done:∀(out:Array Keyed) (u:SortSt),GS (SortSt.mk' (kindOf st) (arrOf st) (((pendingOf st).setIfInBounds L.length (pre.length,X.length+Y.length,pw)).eraseIdxIfInBounds (L.length+1)) (gallopOf st) (failedOf st)) u->out.toList.Perm (x1.toList++y1.toList)/\Asc rk out.toList ->
   Q (failedOf (SortSt.mk' (kindOf u) (List.foldl (fun a (q:Keyed×Nat)=>a.setIfInBounds (pre.length+k+q.2) q.1) (arrOf u) out.toList.zipIdx) (pendingOf u) (gallopOf u) (failedOf u))).isNone (SortSt.mk' (kindOf u) (List.foldl (fun a (q:Keyed×Nat)=>a.setIfInBounds (pre.length+k+q.2) q.1) (arrOf u) out.toList.zipIdx) (pendingOf u) (gallopOf u) (failedOf u)):=fun out u G f=>by
  have eu:arrOf u=arrOf st:=G.arr
  have lo:out.toList.length=X.length - k+m:=by rw [f.1.length_eq,List.length_append,ex,ey,List.length_drop,List.length_take];omega
  have en:=zln (pre.length+k) out.toList 0 (arrOf u) (by rw [eu];omega)
  rw [Nat.add_zero,eu,hx,lo] at en
  have t1:(pre++X++(Y++post)).take (pre.length+k)=pre++X.take k:=by
   rw [List.append_assoc,List.take_length_add_append,List.take_append_of_le_length hkn]
  have t2:(pre++X++(Y++post)).drop (pre.length+k+(X.length - k+m))=Y.drop m++post:=by
   rw [show pre.length+k+(X.length - k+m)=(pre++X).length+m by rw [l2];omega,List.drop_length_add_append,List.drop_append_of_le_length hm]
  rw [t1,t2] at en
  have ok:failedOf u=none:=G.ok.trans B.ok
  have pz:(X.take k++out.toList++Y.drop m).Perm (X++Y):=by
   refine ((f.1.append_left (X.take k)).append_right (Y.drop m)).trans ?_
   rw [ex,ey,<-List.append_assoc,List.take_append_drop,List.append_assoc,List.take_append_drop]
  rw [show (failedOf (SortSt.mk' (kindOf u) (List.foldl (fun a (q:Keyed×Nat)=>a.setIfInBounds (pre.length+k+q.2) q.1) (arrOf u) out.toList.zipIdx) (pendingOf u) (gallopOf u) (failedOf u))).isNone=true by show (failedOf u).isNone=true;rw [ok];rfl]
  refine h _ (X.take k++out.toList++Y.drop m) ⟨?_,G.kind.trans B.kind,ok⟩ (by show (pendingOf u).toList=_;rw [G.pend];exact pn) (by show (List.foldl _ (arrOf u) _).toList=_;rw [eu,en];simp) ?_ (by rw [pz.length_eq,List.length_append])
  . refine Array.perm_iff_toList_perm.mpr ?_
    show (List.foldl _ (arrOf u) _).toList.Perm _
    rw [eu,en]
    refine List.Perm.trans ?_ (Array.perm_iff_toList_perm.mp B.perm)
    rw [hx]
    have e1:pre++X.take k++out.toList++(Y.drop m++post)=pre++((X.take k++out.toList++Y.drop m)++post):=by simp
    have e2:pre++X++(Y++post)=pre++((X++Y)++post):=by simp
    rw [e1,e2]
    exact (pz.append_right _).append_left _
  . have mem1:∀y∈out.toList,(∃(i:Nat) (hi:i<X.length),k<=i/\y=X[i])\/∃(j:Nat) (hj:j<Y.length),j<m/\y=Y[j]:=fun y hy=>by
     rcases List.mem_append.mp (f.1.mem_iff.mp hy) with z | z
     . rw [ex] at z
       obtain ⟨i,hi,rfl⟩:=List.mem_iff_getElem.mp z
       rw [List.length_drop] at hi
       exact .inl ⟨k+i,by omega,by omega,List.getElem_drop⟩
     . rw [ey] at z
       obtain ⟨i,hi,rfl⟩:=List.mem_iff_getElem.mp z
       rw [List.length_take] at hi
       exact .inr ⟨i,by omega,by omega,List.getElem_take⟩
    refine List.pairwise_append.mpr ⟨List.pairwise_append.mpr ⟨aX.take k,f.2,fun x hx y hy=>?_⟩,aY.drop m,fun x hx y hy=>?_⟩
    . obtain ⟨i,hi,rfl⟩:=List.mem_iff_getElem.mp hx
      rw [List.length_take] at hi
      rw [List.getElem_take]
      rcases mem1 y hy with ⟨j,hj,z,rfl⟩ | ⟨j,hj,z,rfl⟩
      . exact aX.at (by omega) hj
      . exact Nat.le_trans (ca i (by omega) (by omega)) (aY.at (Nat.zero_le _) hj)
    . obtain ⟨j,hj,rfl⟩:=List.mem_iff_getElem.mp hy
      rw [List.length_drop] at hj
      rw [List.getElem_drop]
      rcases List.mem_append.mp hx with z | z
      . obtain ⟨i,hi,rfl⟩:=List.mem_iff_getElem.mp z
        rw [List.length_take] at hi
        rw [List.getElem_take]
        exact Nat.le_trans (ca i (by omega) (by omega)) (aY.at (Nat.zero_le _) (by omega))
      . rcases mem1 x z with ⟨i,hi,_,rfl⟩ | ⟨i,hi,q,rfl⟩
        . exact Nat.le_trans (aX.at (show i<=X.length - 1 by omega) (by omega)) (db _ (by omega) (by omega))
        . exact aY.at (by omega) (by omega)
 by_cases e3:X.length - k<=m
 . rw [if_pos e3]
   exact wpS_bind (zzf hc (by exact B.kind) xin yin A1 A2 (by omega) (by omega) first last fun out u G f=>wpS_bind (wpS_modify (wpS_bind (wpS_get (wpS_pure (done out u G f))))))
 . rw [if_neg e3]
   exact wpS_bind (zzg hc (by exact B.kind) xin yin A1 A2 (by omega) (by omega) first last fun out u G f=>wpS_bind (wpS_modify (wpS_bind (wpS_get (wpS_pure (done out u G f))))))
end
section
variable {rk:Keyed->Nat}
noncomputable def pend:Nat->List (List Keyed×Nat)->List (Nat×Nat×Nat)
 | _,[]=>[]
 | lo,(X,pw)::S=>(lo,X.length,pw)::pend (lo+X.length) S
noncomputable def z4h (S:List (List Keyed×Nat)):List Keyed:=(S.map (·.1)).flatten
theorem z2j (S T:List (List Keyed×Nat)):z4h (S++T)=z4h S++z4h T:=by simp [z4h]
theorem z0s (X:List Keyed) (pw:Nat) (S:List (List Keyed×Nat)):z4h ((X,pw)::S)=X++z4h S:=by simp [z4h]
theorem z4i:∀(lo:Nat) (S T:List (List Keyed×Nat)),pend lo (S++T)=pend lo S++pend (lo+(z4h S).length) T
 | lo,[],T=>by simp [pend,z4h]
 | lo,(X,pw)::S,T=>by
  rw [List.cons_append,pend,pend,z4i,z0s,List.length_append,List.cons_append,Nat.add_assoc]
theorem z4j:∀(lo:Nat) (S:List (List Keyed×Nat)),(pend lo S).length=S.length
 | _,[]=>rfl
 | lo,(X,pw)::S=>by rw [pend,List.length_cons,z4j,List.length_cons]
structure Runs (rk:Keyed->Nat) (u:SortSt) (S:List (List Keyed×Nat)) (rest:List Keyed):Prop where
 arr:(arrOf u).toList=z4h S++rest
 pend:(pendingOf u).toList=L2.pend 0 S
 asc:∀X∈S,Asc rk X.1/\0<X.1.length
variable {prog:Program} {w:World} {A:Around} {E:Value->Shared->Prop} {s:Shared} {κ:SortKind} {a₀:Array Keyed}
theorem ztc (hc:z5r prog w A E s κ a₀ rk) {u:SortSt} (B:TBs κ a₀ u) {S T:List (List Keyed×Nat)} {X Y:List Keyed} {pw pw':Nat} {rest:List Keyed} (H:Runs rk u (S++(X,pw)::(Y,pw')::T) rest) {Q:Bool->SortSt->Prop}
  (h:∀v Z,TBs κ a₀ v->Runs rk v (S++(Z,pw)::T) rest->Z.length=X.length+Y.length->Q true v):wpS (model prog w) A E s (mergeAt' S.length) Q u:=by
 have aX:=H.asc (X,pw) (by simp)
 have aY:=H.asc (Y,pw') (by simp)
 have hl:(pend 0 S).length=S.length:=z4j 0 S
 rw [<-hl]
 refine zzh hc B (L:=pend 0 S) (R:=pend ((z4h S).length+X.length+Y.length) T) (pw:=pw) (pw':=pw') (pre:=z4h S) (X:=X) (Y:=Y) (post:=z4h T++rest) ?_ ?_ aX.1 aY.1 aX.2 aY.2 fun v Z B' hp ha aZ lZ=>?_
 . rw [H.pend,z4i,Nat.zero_add,pend,pend]
 . rw [H.arr,z2j,z0s,z0s];simp
 . refine h v Z B' ⟨?_,?_,fun W hW=>?_⟩ lZ
   . rw [ha,z2j,z0s];simp
   . rw [hp,z4i,Nat.zero_add,pend,lZ,Nat.add_assoc]
   . rcases List.mem_append.mp hW with z | z
     . exact H.asc W (List.mem_append_left _ z)
     . rcases List.mem_cons.mp z with rfl | z
       . exact ⟨aZ,by show 0<Z.length;rw [lZ];exact Nat.lt_of_lt_of_le aX.2 (Nat.le_add_right _ _)⟩
       . exact H.asc W (List.mem_append_right _ (.tail _ (.tail _ z)))
theorem ztd {xs:Array Keyed} {lo n:Nat} (h:TSo rk xs lo (lo+n)) (hz:lo+n<=xs.size):Asc rk ((xs.toList.drop lo).take n):=by
 refine List.pairwise_iff_getElem.mpr fun i j hi hj hij=>?_
 simp only [List.length_take,List.length_drop,Array.length_toList] at hi hj
 have:=h (lo+i) (lo+j) (by omega) (by omega) (by omega)
 rw [z2e (by omega),z2e (by omega)] at this
 simpa using this
theorem Runs.few {u:SortSt} {rest:List Keyed}:∀{S:List (List Keyed×Nat)},(∀X∈S,Asc rk X.1/\0<X.1.length)->S.length<=(z4h S).length
 | [],_=>Nat.zero_le _
 | (X,pw)::S,h=>by
  have:=Runs.few (u:=u) (rest:=rest) (S:=S) fun Y hY=>h Y (.tail _ hY)
  have:=(h (X,pw) (.head _)).2
  rw [z0s,List.length_append,List.length_cons]
  simp only at this
  omega
theorem zte {S:List (List Keyed×Nat)} {i:Nat} (h:i+1<S.length):∃S1 X pw Y pw' T,S=S1++(X,pw)::(Y,pw')::T/\S1.length=i:=by
 refine ⟨S.take i,S[i].1,S[i].2,S[i+1].1,S[i+1].2,S.drop (i+2),?_,by rw [List.length_take];omega⟩
 have e1:=List.drop_eq_getElem_cons (show i<S.length by omega)
 have e2:=List.drop_eq_getElem_cons h
 show S=S.take i++S[i]::S[i+1]::S.drop (i+1+1)
 rw [<-e2,<-e1,List.take_append_drop]
theorem ztf (hc:z5r prog w A E s κ a₀ rk) {u:SortSt} (B:TBs κ a₀ u) {S:List (List Keyed×Nat)} {rest:List Keyed} (H:Runs rk u S rest) {i:Nat} (hi:i+1<S.length) {Q:Bool->SortSt->Prop}
  (h:∀v S',TBs κ a₀ v->Runs rk v S' rest->(z4h S').length=(z4h S).length->S'.length+1=S.length->Q true v):wpS (model prog w) A E s (mergeAt' i) Q u:=by
 obtain ⟨S1,X,pw,Y,pw',T,rfl,rfl⟩:=zte hi
 refine ztc hc B H fun v Z B' H' lZ=>h v _ B' H' ?_ ?_
 . rw [z2j,z2j,z0s,z0s,z0s];simp only [List.length_append];omega
 . simp only [List.length_append,List.length_cons];omega
theorem Runs.push {v:SortSt} {S:List (List Keyed×Nat)} {Z r:List Keyed} (H:Runs rk v S (Z++r)) (a:Asc rk Z) (z:0<Z.length):Runs rk (setPending v ((pendingOf v).push ((z4h S).length,Z.length,0))) (S++[(Z,0)]) r:=by
 refine ⟨?_,?_,fun X hX=>?_⟩
 . show (arrOf v).toList=_
   rw [H.arr,z2j,z0s];simp [z4h]
 . show ((pendingOf v).push _).toList=_
   rw [Array.toList_push,H.pend,z4i,Nat.zero_add];rfl
 . rcases List.mem_append.mp hX with q | q
   . exact H.asc X q
   . rw [List.mem_singleton] at q;subst q;exact ⟨a,z⟩
theorem zhg {β:Type} (f:β->β):∀(l:List β) (x:β),(l++[x]).modify l.length f=l++[f x]
 | [],_=>rfl
 | a::l,x=>by
  rw [List.cons_append,List.length_cons,List.modify_succ_cons,zhg f l x,List.cons_append]
theorem Runs.repow {v:SortSt} {S:List (List Keyed×Nat)} {r:List Keyed} (H:Runs rk v S r) (hS:S≠[]) (P:Nat):∃S',Runs rk (setPending v ((pendingOf v).modify ((pendingOf v).size - 1) fun x=>(x.1,x.2.1,P))) S' r/\z4h S'=z4h S:=by
 obtain ⟨S0,⟨X,pw⟩,rfl⟩:∃S0 t,S=S0++[t]:=⟨S.dropLast,S.getLast hS,(List.dropLast_concat_getLast hS).symm⟩
 have sz:(pendingOf v).size=S0.length+1:=by rw [<-Array.length_toList,H.pend,z4j];simp
 refine ⟨S0++[(X,P)],⟨?_,?_,fun Y hY=>?_⟩,by rw [z2j,z2j,z0s,z0s]⟩
 . show (arrOf v).toList=_
   rw [H.arr,z2j,z2j,z0s,z0s]
 . show ((pendingOf v).modify _ _).toList=_
   rw [Array.toList_modify,H.pend,sz,z4i,z4i,Nat.add_sub_cancel,<-z4j 0 S0]
   exact zhg _ _ _
 . rcases List.mem_append.mp hY with q | q
   . exact H.asc Y (List.mem_append_left _ q)
   . rw [List.mem_singleton] at q;subst q;exact H.asc (X,pw) (by simp)
theorem zx7 {c:Prop} [Decidable c] {n m:Nat} (h:n=m) (h2:¬n<=1):(if c then n - 2 - 1 else n - 2)+1<m:=by split<;>omega
theorem ztg (hc:z5r prog w A E s κ a₀ rk) {st:SortSt} (B:TBs κ a₀ st) (h2:2<=a₀.size) (hp:pendingOf st=#[]) {Q:Unit->SortSt->Prop} (h:∀u,TBs κ a₀ u->Asc rk (arrOf u).toList->Q () u):wpS (model prog w) A E s sortRuns' Q st:=by
 rw [sortRuns'_eq]
 refine wpS_bind (wpS_get ?_)
 dsimp only
 rw [B.size]
 refine wpS_bind (wpS_mono (wpS_forRange (I:=fun x c u=>TBs κ a₀ u/\∃lo S rest,c=(none,lo)/\Runs rk u S rest/\(z4h S).length=lo/\lo<=a₀.size/\(x<=lo\/lo=a₀.size))
  (Q:=fun c u=>TBs κ a₀ u/\∃S rest,c=(none,a₀.size)/\Runs rk u S rest/\(z4h S).length=a₀.size) ?step ?fin ⟨B,0,[],(arrOf st).toList,rfl,⟨rfl,by rw [hp];rfl,fun X hX=>absurd hX List.not_mem_nil⟩,rfl,Nat.zero_le _,.inl (Nat.le_refl _)⟩) ?post)
 case fin=>
  rintro c u ⟨B1,lo,S,rest,rfl,H,e,l1,l2⟩
  simp only [Nat.zero_max] at l2
  obtain rfl:lo=a₀.size:=by omega
  exact ⟨B1,S,rest,rfl,H,e⟩
 case post=>
  rintro c u ⟨B1,S,rest,rfl,H,e⟩
  dsimp only
  refine wpS_bind (wpS_mono (wpS_forRange (I:=fun x c v=>c=(none,())/\TBs κ a₀ v/\∃S rest,Runs rk v S rest/\(z4h S).length=a₀.size/\S.length+x<=a₀.size)
   (Q:=fun c v=>c=(none,())/\TBs κ a₀ v/\∃S rest,Runs rk v S rest/\(z4h S).length=a₀.size/\S.length<=1) (fun x c v _ _ hI=>?_) (fun c v hI=>?_) ⟨rfl,B1,S,rest,H,e,by have:=Runs.few (u:=u) (rest:=rest) H.asc;omega⟩) fun c v hI=>?_)
  . obtain ⟨rfl,B2,S,rest,H,e,l⟩:=hI
    have sz:(pendingOf v).size=S.length:=by rw [<-Array.length_toList,H.pend,z4j]
    refine wpS_bind (wpS_get ?_)
    by_cases q:(pendingOf v).size<=1
    . rw [if_pos q]
      exact wpS_pure ⟨rfl,B2,S,rest,H,e,by omega⟩
    . rw [if_neg q]
      refine wpS_bind (ztf hc B2 H (zx7 sz q) fun u2 S' B3 H' e' l'=>?_)
      exact wpS_pure ⟨rfl,B3,S',rest,H',e'.trans e,by omega⟩
  . obtain ⟨rfl,B2,S,rest,H,e,l⟩:=hI
    exact ⟨rfl,B2,S,rest,H,e,by simp only [Nat.zero_max] at l;omega⟩
  . obtain ⟨rfl,B2,S,rest,H,e,l⟩:=hI
    refine wpS_pure (h v B2 ?_)
    have hr:rest=[]:=by
     have:=congrArg List.length H.arr
     rw [Array.length_toList,B2.size,List.length_append,e] at this
     exact List.length_eq_zero_iff.mp (by omega)
    rw [H.arr,hr,List.append_nil]
    match S,l,H.asc with
    | [],_,_=>exact .nil
    | [(X,pw)],_,a=>rw [z0s];simpa [z4h] using (a _ (.head _)).1
    | _::_::_,l,_=>simp at l
 case step=>
  rintro x c u _ _ ⟨B1,lo,S,rest,rfl,H,e,l1,l2⟩
  dsimp only
  by_cases q:lo ≥ a₀.size
  . rw [if_pos q]
    obtain rfl:lo=a₀.size:=by omega
    exact wpS_pure ⟨B1,S,rest,rfl,H,e⟩
  rw [if_neg q]
  refine wpS_bind (zob hc B1 (by omega) (by omega) fun n u1 n1 n2 B2 L2 so=>?_)
  dsimp only
  obtain ⟨mr,hmr⟩:∃mr,mr=minRun' a₀.size a₀.size 0:=⟨_,rfl⟩
  rw [<-hmr]
  rcases Nat.lt_or_ge n mr with hn | hn
  case' inl=>
   rw [if_pos hn]
   refine wpS_bind (z8d ?_)
   refine wpS_bind (zx4 hc B2 (n:=min (a₀.size - lo) mr) (by omega) n1 (by omega) so fun u2 B3 L3 so2=>?_)
   rw [if_neg (by simp)]
   obtain ⟨m,em,m1,m2,so3⟩:∃m,m=min (a₀.size - lo) mr/\1<=m/\lo+m<=a₀.size/\TSo rk (arrOf u2) lo (lo+m):=⟨_,rfl,by omega,by omega,so2⟩
   rw [<-em]
   have L4:=L2.trans L3
   clear em
  case' inr=>
   rw [if_neg (by omega)]
   obtain ⟨m,u2,em,eu,m1,m2,so3,B3,L4⟩:∃m u2,m=n/\u2=u1/\1<=m/\lo+m<=a₀.size/\TSo rk (arrOf u2) lo (lo+m)/\TBs κ a₀ u2/\TL u u2 lo:=⟨_,_,rfl,rfl,n1,by omega,so,B2,L2⟩
   rw [<-em,<-eu]
   clear em eu
  all_goals
   have hz:lo+m<=(arrOf u2).size:=by rw [B3.size];exact m2
   obtain ⟨Z,eZ⟩:∃Z,Z=((arrOf u2).toList.drop lo).take m:=⟨_,rfl⟩
   have aZ:Asc rk Z:=eZ ▸ ztd so3 hz
   have lZ:Z.length=m:=by rw [eZ,List.length_take,List.length_drop,Array.length_toList];omega
   have H2:Runs rk u2 S (Z++(arrOf u2).toList.drop (lo+m)):=by
    refine ⟨?_,by rw [L4.pend];exact H.pend,H.asc⟩
    have t:(arrOf u2).toList.take lo=z4h S:=by
     have:(arrOf u2).toList.take lo=(arrOf u).toList.take lo:=by
      refine List.ext_getElem? fun i=>?_
      rw [List.getElem?_take,List.getElem?_take]
      by_cases z:i<lo
      . rw [if_pos z,if_pos z,Array.getElem?_toList,Array.getElem?_toList];exact L4.low i z
      . rw [if_neg z,if_neg z]
     rw [this,H.arr,<-e,List.take_left]
    rw [<-t,eZ,<-drop_take,List.take_append_drop]
   generalize (arrOf u2).toList.drop (lo+m)=r2 at H2
   refine wpS_bind (wpS_get ?_)
   have fin:∀(v:SortSt) (S':List (List Keyed×Nat)),TBs κ a₀ v->Runs rk v S' (Z++r2)->(z4h S').length=lo ->
     TBs κ a₀ (setPending v ((pendingOf v).push (lo,m,0)))/\∃lo' S'' rest,((none:Option Unit),lo+m)=(none,lo')/\Runs rk (setPending v ((pendingOf v).push (lo,m,0))) S'' rest/\(z4h S'').length=lo'/\lo'<=a₀.size/\(x+1<=lo'\/lo'=a₀.size):=fun v S' Bv Hv ev=>by
    have:=Hv.push aZ (by omega)
    rw [ev,lZ] at this
    exact ⟨⟨Bv.perm,Bv.kind,Bv.ok⟩,lo+m,_,r2,rfl,this,by rw [z2j,z0s,List.length_append,ev,List.length_append,lZ];simp [z4h],m2,.inl (by omega)⟩
   cases hb:(pendingOf u2).back? with
   | none=>exact wpS_bind (wpS_modify (wpS_pure (fin u2 S B3 H2 e)))
   | some t=>
    obtain ⟨s1,n1',p1⟩:=t
    dsimp only
    have hS:S≠[]:=fun z=>by
     have:=H2.pend
     rw [z] at this
     rw [Array.toList_eq_nil_iff.mp this] at hb
     cases hb
    refine wpS_bind (wpS_mono (wpS_forRange (I:=fun _ c v=>c=(none,())/\TBs κ a₀ v/\∃S',Runs rk v S' (Z++r2)/\(z4h S').length=lo/\S'≠[])
     (Q:=fun c v=>c=(none,())/\TBs κ a₀ v/\∃S',Runs rk v S' (Z++r2)/\(z4h S').length=lo/\S'≠[]) (fun y c v _ _ hI=>?_) (fun c v hI=>hI) ⟨rfl,B3,S,H2,e,hS⟩) fun c v hI=>?_)
    . obtain ⟨rfl,Bv,S',Hv,ev,nv⟩:=hI
      refine wpS_bind (wpS_get ?_)
      have sz:(pendingOf v).size=S'.length:=by rw [<-Array.length_toList,Hv.pend,z4j]
      cases hq:(if (pendingOf v).size > 1 then (pendingOf v)[(pendingOf v).size - 2]? else none) with
      | none=>exact wpS_pure ⟨rfl,Bv,S',Hv,ev,nv⟩
      | some t=>
       obtain ⟨q1,q2,older⟩:=t
       dsimp only
       have hs:(pendingOf v).size > 1:=by
        by_cases z:(pendingOf v).size > 1
        . exact z
        . rw [if_neg z] at hq;cases hq
       split
       . exact wpS_pure ⟨rfl,Bv,S',Hv,ev,nv⟩
       . refine wpS_bind (ztf hc Bv Hv (by omega) fun v2 S2 B5 H5 e5 l5=>?_)
         rw [if_neg (by simp)]
         exact wpS_pure ⟨rfl,B5,S2,H5,e5.trans ev,fun z=>by rw [z] at l5;simp at l5;omega⟩
    . obtain ⟨rfl,Bv,S',Hv,ev,nv⟩:=hI
      dsimp only
      obtain ⟨S2,H5,e5⟩:=Hv.repow nv (power' a₀.size (2 * s1+n1') (2 * s1+n1'+n1'+m) a₀.size)
      exact wpS_bind (wpS_modify (wpS_bind (wpS_modify (wpS_pure (fin _ S2 ⟨Bv.perm,Bv.kind,Bv.ok⟩ H5 (by rw [e5];exact ev))))))
end
section
variable {prog:Program} {w:World} {E:Value->Shared->Prop} {s:Shared} {A:Around}
noncomputable def z1w (h:Heap) (a:Addr) (vs:List Value):Heap:=((h.update a (Obj.mapSeq fun _=>#[])).push (seqObj "tuple" vs.toArray 0)).push (seqObj "list" #[] 0)
theorem z8e {h:Heap} {a:Addr} {vs:List Value} {n:Nat} (ho:h.get? a=some (seqObj "list" vs.toArray n)) :
  ∃k,(h.update a (Obj.mapSeq fun _=>#[])).get? a=some (seqObj "list" #[] k)/\(z1w h a vs).get? a=some (seqObj "list" #[] k):=
 ⟨_,get?_update_seq ho fun _=>#[],Heap.get?_push_of_some _ (Heap.get?_push_of_some _ (get?_update_seq ho fun _=>#[]))⟩
theorem zju {a:Addr} {vs:List Value} {n:Nat} {P:PySem.Fin->Shared->Prop} {κ:SortKind} {rk:Keyed->Nat} (ho:s.heap.get? a=some (seqObj "list" vs.toArray n)) (h2:2<=vs.length) (hz:vs.length<=sizeLine)
  (hκ:∀(Q:SortKind->Shared->Prop),Q κ { s with heap:=z1w s.heap a vs }->wpAny (model prog w) A (keyKind' vs.toArray) Q E { s with heap:=z1w s.heap a vs })
  (hc:z5r prog w A E { s with heap:=z1w s.heap a vs } κ (pairsOf vs) rk)
  (h:∀out:Array Keyed,out.Perm (pairsOf vs)->Asc rk out.toList->P (.done (.ret .none)) { s with heap:=sortedHeap s.heap a vs (out.map (·.2)) }):wpAny (model prog w) A (Builtin.«list.sort» ⟨[.ref a],[]⟩) P E s:=by
 obtain ⟨k,k1,k2⟩:=z8e ho
 have nn:¬vs.toArray.size<2:=by rw [List.size_toArray];omega
 rw [list_sort_plain]
 refine wpAny_bind (listItems_at ho rfl (wpAny_bind (listUpdate_at ho rfl (wpAny_bind (seqEpoch_at k1 rfl (wpAny_bind (wpAny_newTuple (wpAny_bind (wpAny_newList (wpAny_holding ?_) (Nat.zero_le _))) hz)))) (by rw [List.size_toArray];exact hz) (Nat.zero_le _))))
 show wpAny (model prog w) A _ P E { s with heap:=z1w s.heap a vs }
 rw [if_neg nn,if_neg nn]
 refine wpAny_bind (hκ _ (wpAny_bind (wpAny_mono (ztg (st:=SortSt.mk' κ (pairsOf vs) #[] 7 none) hc ⟨.refl _,rfl,rfl⟩ (by rw [pairsOf_size];exact h2) rfl (Q:=fun _ u=>TBs κ (pairsOf vs) u/\Asc rk (arrOf u).toList) fun u B a=>⟨B,a⟩) ?_ fun _ _ x=>x)))
 rintro ⟨⟨⟩,u⟩ s' ⟨rfl,B,hA⟩
 refine wpAny_bind (seqEpoch_at k2 rfl (wpAny_bind (listUpdate_at k2 rfl ?_ (Nat.zero_le _) (by rw [Array.size_map,B.size,pairsOf_size];exact Nat.le_succ_of_le hz))))
 rw [B.ok,bne_self_eq_false]
 exact wpAny_pure (h _ B.perm hA)
noncomputable def z38 (h:Heap) (vs:List Value):Heap:=((h.push (seqObj "list" #[] 0)).update h.objs.size (Obj.mapSeq (·++vs.toArray))).push (seqObj "list" vs.toArray 0)
theorem z71 (h:Heap) (vs:List Value):(z38 h vs).get? (h.objs.size+1)=some (seqObj "list" vs.toArray 0):=by
 have e:((h.push (seqObj "list" #[] 0)).update h.objs.size (Obj.mapSeq (·++vs.toArray))).objs.size=h.objs.size+1:=(Heap.size_update _ _ _).trans (size_push' _ _)
 unfold z38
 conv=>lhs;arg 2;rw [<-e]
 exact Heap.get?_push_size _ rfl
theorem zeo {h:Heap} {vs:List Value} {b:Addr} {o:Obj} (q:h.get? b=some o):(z1w (z38 h vs) (h.objs.size+1) vs).get? b=some o:=by
 have lt:b<h.objs.size:=Heap.lt_size q
 refine Heap.get?_push_of_some _ (Heap.get?_push_of_some _ ?_)
 rw [Heap.get?_update_ne _ _ _ _ (Nat.ne_of_lt (Nat.lt_add_right 1 lt))]
 refine Heap.get?_push_of_some _ ?_
 rw [Heap.get?_update_ne _ _ _ _ (Nat.ne_of_lt lt)]
 exact Heap.get?_push_of_some _ q
theorem zep {l:Addr} {vs:List Value} {Q:Value->Shared->Prop} {κ:SortKind} {rk:Keyed->Nat} (hl:s.heap.IsList l vs.toArray) (h2:2<=vs.length) (hz:vs.length<=sizeLine)
  (hκ:∀(Q:SortKind->Shared->Prop),Q κ { s with heap:=z1w (z38 s.heap vs) (s.heap.objs.size+1) vs }->wpAny (model prog w) A.in1.in1 (keyKind' vs.toArray) Q (fun _ _=>False) { s with heap:=z1w (z38 s.heap vs) (s.heap.objs.size+1) vs })
  (hc:z5r prog w A.in1.in1 (fun _ _=>False) { s with heap:=z1w (z38 s.heap vs) (s.heap.objs.size+1) vs } κ (pairsOf vs) rk)
  (h:∀out:Array Keyed,out.Perm (pairsOf vs)->Asc rk out.toList->Q (.ref (s.heap.objs.size+1)) { s with heap:=sortedAll s.heap vs (out.map (·.2)) }):wpAny (model prog w) A (call (.builtin "sorted") [.ref l]) Q E s:=by
 have e:((s.heap.push (seqObj "list" #[] 0)).update s.heap.objs.size (Obj.mapSeq (·++vs.toArray))).objs.size=s.heap.objs.size+1:=(Heap.size_update _ _ _).trans (size_push' _ _)
 have b:=zju (s:={ s with heap:=z38 s.heap vs }) (E:=fun _ _=>False) (P:=fun f s'=>∃x,f=.done (.ret x)/\Q (.ref (s.heap.objs.size+1)) s') (z71 s.heap vs) h2 hz hκ hc fun out p a=>⟨_,rfl,h out p a⟩
 apply Calls.call_function_entry kind_sorted plain_sorted entry_sorted (args_sorted1 (.ref l))
 unfold Builtin.«sorted»
 refine wpAny_bind (m:=checkCount "sorted" 1 1 _) (wpAny_pure (wpAny_bind (collect_list hl (wpAny_bind (wpAny_newList ?_ hz)) hz)))
 show wpAny _ _ _ _ _ { s with heap:=z38 s.heap vs }
 rw [e]
 refine wpAny_bind (wpAny_holding (wpAny_call_entry slot_list_sort ⟨_,z71 s.heap vs,rfl⟩ entry_list_sort (wpAny_mono b (fun f s' q=>?_) fun _ _ x=>x.elim) (args_list_sort _)))
 obtain ⟨x,rfl,q⟩:=q
 exact ⟨_,rfl,wpAny_pure ⟨_,rfl,q⟩⟩
end
end L2
set_option maxHeartbeats 400000
namespace L2
open PySem PySem.Spec PyProof.Rows
noncomputable def rkD (ds:List D) (d:D):Nat:=ds.countP fun e=>ltT e d
theorem zlo {ds:List D} (h:ois ds=true) {d e:D} (hd:d∈ds) (he:e∈ds):decide (rkD ds d<rkD ds e)=ltT d e:=by
 have ho:∀x∈ds,x.oi=true:=fun x hx=>ois_mem.mp h x hx
 have up:∀{d e:D},d∈ds->e∈ds->ltT d e=true->rkD ds d<rkD ds e:=fun {d e} hd he q=>by
  unfold rkD
  have le:∀l:List D,(∀x∈l,x∈ds)->l.countP (fun x=>ltT x d)<=l.countP (fun x=>ltT x e):=fun l hl=>
   List.countP_mono_left fun x hx hxd=>zj5 (ho x (hl x hx)) (ho d hd) (ho e he) hxd q
  obtain ⟨l1,l2,rfl⟩:=List.append_of_mem hd
  have a:=le l1 fun x hx=>by simp [hx]
  have b:=le l2 fun x hx=>by simp [hx]
  simp only [List.countP_append,List.countP_cons,q,zge (ho d hd)]
  simp
  omega
 cases q:ltT d e with
 | true=>simpa using up hd he q
 | false=>
  cases q':ltT e d with
  | true=>have:=up he hd q';simp;omega
  | false=>obtain rfl:=zcx (ho d hd) (ho e he) q q';simp
mutual
theorem zth {K:Frag} {H:Hp}:∀{d e:D} {x:V},d.oi=true->e.oi=true->RD K H d x->RD K H e x->d=e
 | .int a,.int b,x,_,_,r1,r2=>by
  have h1:=r1.int;have h2:=r2.int;rw [h1] at h2;cases h2;rfl
 | .int a,.tup es,x,_,_,r1,r2=>by
  have h1:=r1.int;obtain ⟨_,_,h2,_⟩:=r2.tup;rw [h1] at h2;cases h2
 | .tup ds,.int b,x,_,_,r1,r2=>by
  have h1:=r2.int;obtain ⟨_,_,h2,_⟩:=r1.tup;rw [h1] at h2;cases h2
 | .tup ds,.tup es,x,o1,o2,r1,r2=>by
  obtain ⟨a,ys,h1,p1,q1⟩:=r1.tup
  obtain ⟨b,zs,h2,p2,q2⟩:=r2.tup
  rw [h1] at h2;cases h2
  rw [p1] at p2;cases p2
  simp only [D.oi] at o1 o2
  rw [zlp o1 o2 q1 q2]
theorem zlp {K:Frag} {H:Hp}:∀{ds es:List D} {xs:List V},ois ds=true->ois es=true->RDs K H ds xs->RDs K H es xs->ds=es
 | [],[],xs,_,_,_,_=>rfl
 | [],e::es,xs,_,_,r1,r2=>by
  simp only [RDs] at r1 r2;subst r1;obtain ⟨_,_,h,_⟩:=r2;cases h
 | d::ds,[],xs,_,_,r1,r2=>by
  simp only [RDs] at r1 r2;subst r2;obtain ⟨_,_,h,_⟩:=r1;cases h
 | d::ds,e::es,xs,o1,o2,r1,r2=>by
  simp only [RDs] at r1 r2
  obtain ⟨x,ys,h1,p1,q1⟩:=r1
  obtain ⟨y,zs,h2,p2,q2⟩:=r2
  rw [h1] at h2;cases h2
  simp only [ois,Bool.and_eq_true] at o1 o2
  rw [zth o1.1 o2.1 p1 p2,zlp o1.2 o2.2 q1 q2]
end
theorem zc1 {α β:Type} {f:α->β} {l m:List β} (p:l.Perm m):∀{xs:List α},m=xs.map f->∃ys:List α,ys.Perm xs/\l=ys.map f:=by
 induction p with
 | nil=>intro xs h;exact ⟨xs,.refl _,h⟩
 | cons a p ih=>
  intro xs h
  cases xs with
  | nil=>cases h
  | cons x xs=>
   simp only [List.map_cons,List.cons.injEq] at h
   obtain ⟨ys,p',e⟩:=ih h.2
   exact ⟨x::ys,p'.cons x,by rw [e,h.1];rfl⟩
 | swap a b l=>
  intro xs h
  match xs,h with
  | x::y::xs,h=>
   simp only [List.map_cons,List.cons.injEq] at h
   exact ⟨y::x::xs,.swap _ _ _,by rw [h.1,h.2.1,h.2.2];rfl⟩
 | trans p q ih1 ih2=>
  intro xs h
  obtain ⟨ys,p',e⟩:=ih2 h
  obtain ⟨zs,q',e'⟩:=ih1 e
  exact ⟨zs,q'.trans p',e'⟩
theorem z8f (l:List D):(List.range l.length).map (fun i=>l.getD i (.int 0))=l:=by
 apply List.ext_getElem?
 intro i
 rw [List.getElem?_map]
 by_cases hi:i<l.length
 . rw [List.getElem?_range hi];simp [hi]
 . rw [List.getElem?_eq_none (by simpa using hi),List.getElem?_eq_none (by simpa using hi)];rfl
noncomputable def atOf (its:List Value) (v:Value):Nat:=Classical.epsilon fun i=>i<its.length/\its.getD i Value.none=v
theorem zc2 {its:List Value} {i:Nat} (h:i<its.length):atOf its (its.getD i Value.none)<its.length/\its.getD (atOf its (its.getD i Value.none)) Value.none=its.getD i Value.none:=by
 have hh:∃j,j<its.length/\its.getD j Value.none=its.getD i Value.none:=⟨i,h,rfl⟩
 exact Classical.epsilon_spec hh
noncomputable def z72 (ds:List D):Bool:=ois ds&&decide (z7j ds<=20)&&ds.all (fun d=>ds.all fun e=>(z36 d e).isSome)&&(ds.all isI||ds.all zpd||ds.all zn7)
noncomputable def z3l:List D->Option D
 | [.lst ds]=>if z72 ds=true then some (.lst (z5q ds)) else none
 | _=>none
def zlq (K:Frag):List V->Hp->VK->Prop:=fun xs H Q=>∃p ys ds,xs=[.ref p]/\H p=some (.lst ys)/\RDs K H ds ys/\z72 ds=true/\∀(l:Addr) (is:List Nat),H l=none->(∀i∈is,i<ys.length)->z5q ds=is.map (fun i=>ds.getD i (.int 0))->Q (.ref l) (upd H l (.lst (is.map fun i=>ys.getD i .non)))
theorem z59 {K:Frag}:z7m K true z3l (zlq K):=by
 intro H0 H xs ds z Q s r ho k
 unfold z3l at ho
 split at ho<;>first | cases ho | skip
 split at ho<;>cases ho
 rename_i es hok
 obtain ⟨x,rfl,q1⟩:=r.uno
 obtain ⟨p,ys,rfl,hp,ry⟩:=q1.lst
 refine ⟨p,ys,es,rfl,s _ _ hp,ry.mono s,hok,fun l is hl hi he=>k _ _ (.new s hl fun H' hH=>?_)⟩
 simp only [OB]
 refine ⟨_,hH,?_⟩
 rw [he]
 exact ry.pick hi
section
variable {X:Cx} {pins:List (Addr×Obj)} {U:St} {H:Hp} {s:Shared}
theorem zod {x y:V} {v:Value} (hx:(∃k,x=.int k)\/∃a,x=.ref a) (hy:(∃k,y=.int k)\/∃a,y=.ref a) (r1:RelV x v) (r2:RelV y v):x=y:=by
 rcases hx with ⟨k,rfl⟩ | ⟨a,rfl⟩<;>rcases hy with ⟨j,rfl⟩ | ⟨b,rfl⟩<;>simp only [RelV] at r1 r2
 . obtain ⟨t,rfl⟩:=r1;obtain ⟨u,h⟩:=r2;cases h;rfl
 . obtain ⟨t,rfl⟩:=r1;cases r2
 . obtain ⟨t,rfl⟩:=r2;cases r1
 . subst r1;cases r2;rfl
theorem zyd {K:Frag} {d:D} {x:V} (o:d.oi=true) (r:RD K H d x):(∃k,x=.int k)\/∃a,x=.ref a:=by
 cases d<;>simp only [D.oi] at o<;>first | cases o | skip
 . exact .inl ⟨_,r.int⟩
 . obtain ⟨a,_,h,_⟩:=r.tup;exact .inr ⟨a,h⟩
theorem z73 (vs:List Value):(pairsOf vs).toList=(List.range vs.length).map fun i=>((vs.getD i Value.none,vs.getD i Value.none):Keyed):=by
 unfold pairsOf
 rw [Array.toList_zip]
 apply List.ext_getElem
 . simp
 . intro i h1 h2
   simp at h1
   simp [h1]
theorem zak {vs:List Value} {x:Keyed} (h:x∈pairsOf vs):∃i,i<vs.length/\x=(vs.getD i Value.none,vs.getD i Value.none):=by
 rw [Array.mem_def,z73] at h
 obtain ⟨i,hi,e⟩:=List.mem_map.mp h
 exact ⟨i,List.mem_range.mp hi,e.symm⟩
theorem z8g:∀(vs:List Value),(∀i,i<vs.length->∃n t,vs.getD i Value.none=.int n t)->∃ns,IntsAre vs ns
 | [],_=>⟨[],.nil⟩
 | v::vs,h=>by
  obtain ⟨n,t,e⟩:=h 0 (by simp)
  obtain ⟨ns,r⟩:=z8g vs fun i hi=>by simpa using h (i+1) (by simpa using hi)
  have e':v=.int n t:=by simpa using e
  subst e'
  exact ⟨n::ns,.cons n t r⟩
theorem zoe {vs:List Value} {ns:List Int} (ia:IntsAre vs ns) (h:2<=vs.length):keyKind' vs.toArray=pure oneType':=by
 match vs,ia,h with
 | v1::v2::vs,ia,_=>exact keyKind_ints ia
theorem z74 (hc:X.calm=true) (hu:X.A.units+64<cLine):CallR X (.builtin "sorted") (zlq X.K):=by
 intro pins s U H xs us Q I r h
 obtain ⟨p,ys,ds,rfl,hp,rd,hok,k⟩:=h
 obtain ⟨u,rfl,ru⟩:=z6m r
 cases ru
 obtain ⟨its,rv,pl,hz⟩:=I.list (.of hp)
 obtain ⟨m,hn,_⟩:=id I.loc
 have F:=Att.fr_all hn
 have N:=zce (g:=Att.noObjs s.heap) (h:=s.heap) (L:=X.env.locals)
 unfold z72 at hok
 simp only [Bool.and_eq_true,Bool.or_eq_true,decide_eq_true_eq] at hok
 obtain ⟨⟨⟨hoi,hdep⟩,hcmp⟩,hkind⟩:=hok
 have hl1:=rd.length
 have hl2:=rv.length
 have fin:∀{vs':Array Value} {is:List Nat},(∀i∈is,i<ys.length)->z5q ds=is.map (fun i=>ds.getD i (.int 0))->vs'=(is.map fun i=>its.getD i Value.none).toArray->EP X pins U Q (.ref (s.heap.objs.size+1)) { s with heap:=sortedAll s.heap its vs' }:=fun {vs' is} hi he hv=>by
  have hlen:(is.map fun i=>ys.getD i .non).length<=sizeLine:=by
   have e1:is.length=ds.length:=by have:=congrArg List.length he;rw [List.length_map,(z19 ds).length_eq] at this;exact this.symm
   rw [List.length_map,e1,hl1];exact hz
  obtain ⟨e,he'⟩:=sortedAll_at s.heap its vs'
  have kp:∀b o,s.heap.get? b=some o->(sortedAll s.heap its vs').get? b=some o:=fun b o q=>sortedAll_old q
  have hN:=N.kept_cons F kp (Nat.le_succ _) he'
  obtain ⟨HD,I'⟩:=I.frnew (tk:=s.toks) (o:=.lst (is.map fun i=>ys.getD i .non)) hn (F.kept kp) hN (Heap.get?_none_of_le (Nat.le_succ _)) ⟨hlen,_,e,rv.pick hi,by subst hv;exact (hN _ (.head _)).1⟩
  exact ⟨.ref _,_,I',rfl,k _ is HD hi he⟩
 by_cases h2:2<=its.length
 . have kp:∀b o,s.heap.get? b=some o->(z1w (z38 s.heap its) (s.heap.objs.size+1) its).get? b=some o:=fun b o q=>zeo q
   have I':Inv X pins U H { s with heap:=z1w (z38 s.heap its) (s.heap.objs.size+1) its }:=I.frn (tk:=s.toks) hn (F.kept kp) fun q hq=>(N.kept_cons F kp (Nat.le_succ _) (z8e (z71 s.heap its)).choose_spec.2) q (.tail _ hq)
   have huu:X.A.in1.in1.units+20<cLine:=by show X.A.units+1+1+20<cLine;omega
   have main:∀κ:SortKind,(∀(Q:SortKind->Shared->Prop),Q κ { s with heap:=z1w (z38 s.heap its) (s.heap.objs.size+1) its }->wpAny (model X.prog X.w) X.A.in1.in1 (keyKind' its.toArray) Q (fun _ _=>False) { s with heap:=z1w (z38 s.heap its) (s.heap.objs.size+1) its }) ->
     (∀(E:Value->Shared->Prop) (C:Bool->Shared->Prop) (i j:Nat),i<ys.length->j<ys.length->C (ltI ds i j) { s with heap:=z1w (z38 s.heap its) (s.heap.objs.size+1) its }->wpAny (model X.prog X.w) X.A.in1.in1 (keyLt' κ (its.getD i Value.none) (its.getD j Value.none)) C E { s with heap:=z1w (z38 s.heap its) (s.heap.objs.size+1) its }) ->
     wpAny (model X.prog X.w) X.A (call (.builtin "sorted") [.ref p]) (EP X pins U Q) X.xe s:=by
    intro κ hκ hlt
    refine zep (rk:=fun q=>rkD ds (ds.getD (atOf its q.1) (.int 0))) pl.isList h2 (by omega) hκ ?_ fun out hp' hA=>?_
    . intro x y hx hy st Q' hk q
      obtain ⟨i,hi,rfl⟩:=zak hx
      obtain ⟨j,hj,rfl⟩:=zak hy
      have ai:=zc2 hi
      have aj:=zc2 hj
      dsimp only at q
      rw [zlo hoi (getD_mem (by omega)) (getD_mem (by omega))] at q
      rw [lt'_eq]
      refine wpS_bind (wpS_get (wpS_bind (wpS_lift (wpAny_attempt ?_))))
      rw [hk]
      dsimp only
      generalize atOf its (its.getD i Value.none)=i' at *
      generalize atOf its (its.getD j Value.none)=j' at *
      rw [<-ai.2,<-aj.2]
      exact hlt _ _ i' j' (by omega) (by omega) ⟨rfl,wpS_pure q⟩
    . have e0:(pairsOf its).toList=(List.range its.length).map fun i=>((its.getD i Value.none,its.getD i Value.none):Keyed):=z73 its
      obtain ⟨is,hip,hie⟩:=zc1 (Array.perm_iff_toList_perm.mp hp') e0
      have him:∀i∈is,i<its.length:=fun i hi=>List.mem_range.mp (hip.mem_iff.mp hi)
      have pm:(is.map fun i=>ds.getD i (.int 0)).Perm ds:=by
       refine (hip.map _).trans ?_
       rw [show its.length=ds.length by omega,z8f]
      refine fin (is:=is) (fun i hi=>by have:=him i hi;omega) (z6d (z55 (z19 _) hoi) ((z19 _).trans pm.symm) (z3j hoi) ?_) ?_
      . rw [hie] at hA
        refine List.pairwise_map.mpr ((List.pairwise_map.mp hA).imp_of_mem fun {a b} ha hb hab=>?_)
        have same:∀i,i<its.length->ds.getD (atOf its (its.getD i Value.none)) (.int 0)=ds.getD i (.int 0):=fun i hi=>by
         have q:=zc2 hi
         have v1:=rv.getD (i:=atOf its (its.getD i Value.none)) (by omega)
         have v2:=rv.getD (i:=i) (by omega)
         have r1:=rd.getD (i:=atOf its (its.getD i Value.none)) (by omega)
         have r2:=rd.getD (i:=i) (by omega)
         have o1:=zbq (i:=atOf its (its.getD i Value.none)) hoi
         have o2:=zbq (i:=i) hoi
         rw [q.2] at v1
         rw [zod (zyd o1 r1) (zyd o2 r2) v1 v2] at r1
         exact zth o1 o2 r1 r2
        dsimp only at hab
        rw [same a (him a ha),same b (him b hb)] at hab
        have z:=zlo hoi (d:=ds.getD b (.int 0)) (e:=ds.getD a (.int 0)) (getD_mem (by have:=him b hb;omega)) (getD_mem (by have:=him a ha;omega))
        rw [<-z,decide_eq_false_iff_not]
        omega
      . rw [<-Array.toList_inj,Array.toList_map,hie,List.map_map]
        rfl
   by_cases hI:ds.all isI=true
   . have getI:∀i,i<ys.length->∃n t,ds.getD i (.int 0)=.int n/\its.getD i Value.none=.int n t:=fun i hi=>by
      have r1:=rd.getD hi
      have v1:=rv.getD hi
      have m1:isI (ds.getD i (.int 0))=true:=List.all_eq_true.mp hI _ (getD_mem (by omega))
      generalize ds.getD i (.int 0)=d at *
      cases d<;>simp only [isI] at m1<;>first | cases m1 | skip
      rw [r1.int] at v1
      obtain ⟨t,e⟩:=v1
      exact ⟨_,t,rfl,e⟩
     refine main oneType' (fun Q' q=>?_) fun E C i j hi hj hC=>?_
     . have ia:∃ns,IntsAre its ns:=z8g its fun i hi=>by obtain ⟨n,t,_,e⟩:=getI i (by omega);exact ⟨n,t,e⟩
       obtain ⟨ns,ia⟩:=ia
       rw [zoe ia h2]
       exact wpAny_pure q
     . obtain ⟨n,t,e1,e2⟩:=getI i hi
       obtain ⟨n',t',e3,e4⟩:=getI j hj
       rw [e2,e4]
       refine PySem.W.kat_lt_int ?_
       unfold ltI at hC
       rw [e1,e3] at hC
       simpa only [ltT] using hC
   . obtain ⟨T,hT⟩:∃T:Bool,∀d∈ds,(if T=true then zn7 d else zpd d)=true:=by
      rcases hkind with (z | z) | z
      . exact absurd z hI
      . exact ⟨false,fun d hd=>by rw [if_neg Bool.false_ne_true];exact List.all_eq_true.mp z d hd⟩
      . exact ⟨true,fun d hd=>by rw [if_pos rfl];exact List.all_eq_true.mp z d hd⟩
     obtain ⟨fs,t1,t2,t3⟩:=zl1 (M:=model X.prog X.w) I' T hT rd rv
     refine main (tuples' ((.type (if T=true then "tuple" else "int"):Value) != Value.type "tuple")) (fun Q' q=>PySem.W.kat_kind t1 (by omega) t3 (by cases T<;>rfl) q) fun E C i j hi hj hC=>?_
     have r1:=rd.getD hi
     have r2:=rd.getD hj
     have v1:=rv.getD hi
     have v2:=rv.getD hj
     have m1:ds.getD i (.int 0)∈ds:=getD_mem (by omega)
     have m2:ds.getD j (.int 0)∈ds:=getD_mem (by omega)
     have o1:=(ois_mem.mp hoi) _ m1
     have o2:=(ois_mem.mp hoi) _ m2
     have d1:=z6a m1
     have f1:=hT _ m1
     have f2:=hT _ m2
     obtain ⟨b,hb⟩:=Option.isSome_iff_exists.mp (List.all_eq_true.mp (List.all_eq_true.mp hcmp _ m1) _ m2)
     have hbl:b=ltI ds i j:=zkw hb
     rw [<-hbl] at hC
     generalize ds.getD i (.int 0)=da at *
     generalize ds.getD j (.int 0)=db at *
     have tp:∀{d:L2.D},(if T=true then zn7 d else zpd d)=true->∃es,d=.tup es/\(T=false->∃k r,es=.int k::r):=fun {d} h=>by
      cases T with
      | false=>
       rw [if_neg Bool.false_ne_true] at h
       cases d<;>simp only [zpd] at h<;>first | cases h | skip
       rename_i es
       cases es with
       | nil=>simp at h
       | cons e es=>cases e<;>simp at h;exact ⟨_,rfl,fun _=>⟨_,_,rfl⟩⟩
      | true=>
       rw [if_pos rfl] at h
       cases d<;>simp only [zn7] at h<;>first | cases h | skip
       exact ⟨_,rfl,fun z=>nomatch z⟩
     obtain ⟨ea,rfl,ka⟩:=tp f1
     obtain ⟨eb,rfl,kb⟩:=tp f2
     obtain ⟨a,xa,e1,ha,ra⟩:=r1.tup
     obtain ⟨c,xc,e2,hcc,rc⟩:=r2.tup
     rw [e1] at v1;rw [e2] at v2
     rw [show its.getD i Value.none=Value.ref a from v1,show its.getD j Value.none=Value.ref c from v2]
     obtain ⟨ia,va,oa,hoa,_,na,hda⟩:=I'.tupA ha
     obtain ⟨ic,vc,oc,hoc,_,nc,hdc⟩:=I'.tupA hcc
     simp only [L2.D.oi] at o1 o2
     simp only [L2.D.dep] at d1
     simp only [z36] at hb
     refine PySem.W.kat_lt hoa hda hoc hdc (zgh I' huu hC 0 (fun hb0 _=>?_) o1 o2 (by omega) ra rc va vc hb (by simp))
     cases T with
     | false=>exact ⟨ka rfl,kb rfl⟩
     | true=>exact absurd hb0 (by simp)
 . have hs1:z5q ds=ds:=by
    match ds,hl1,hl2 with
    | [],_,_=>rfl
    | [d],_,_=>rfl
    | _::_::_,a,b=>simp at a;omega
   have pz:∀l:List Value,l.length<2->(pairsOf l).map (·.2)=(List.map (fun i=>l.getD i Value.none) (List.range l.length)).toArray:=fun l hl=>by
    match l,hl with
    | [],_=>simp [pairsOf]
    | [v],_=>simp [pairsOf]
    | _::_::_,z=>simp at z;omega
   refine zac pl.isList (by omega) (fin (is:=List.range its.length) (fun i hi=>by simp at hi;omega) ?_ (pz its (by omega)))
   rw [hs1,show its.length=ds.length by omega,z8f]
end
def CNz (i j:Int):Prop:=j≠0/\j.natAbs<2 ^ 200
instance (i j:Int):Decidable (CNz i j):=by unfold CNz;infer_instance
theorem zx8 {i j:Int} (h:CNz i j):Builtin.divisionGoesByPylong i j=false:=by
 have z:j.natAbs≠0:=Int.natAbs_ne_zero.mpr h.1
 have b:j.natAbs.log2<200:=(Nat.log2_lt z).mpr h.2
 unfold Builtin.divisionGoesByPylong
 have e:(j==0)=false:=beq_eq_false_iff_ne.mpr h.1
 simp only [e,Bool.false_eq_true,if_false]
 rw [decide_eq_false (by omega),Bool.false_and]
noncomputable def zhh:D->D->Option D:=dIC CNz fun i j=>.int (i.fdiv j)
noncomputable def zeq:D->D->Option D:=dIC CNz fun i j=>.int (i.fmod j)
section
variable {X:Cx} {K:Frag}
theorem op_divZ:OpR X (binaryOp .FloorDiv) (rI CNz fun i j=>.int (i.fdiv j)):=opI fun _ _ _ _ _ _ _ hc q=>floordiv_int hc.1 q (.inl (zx8 hc))
theorem zlr:OpR X (binaryOp .FloorDiv) (cIC CNz fun i j=>.int (i.fdiv j)):=op_divZ.cIC
theorem zhi:OpD K false zhh (cIC CNz fun i j=>.int (i.fdiv j)):=zbe fun _ _ _=>.mkInt _
theorem op_modZ:OpR X (binaryOp .Mod) (rI CNz fun i j=>.int (i.fmod j)):=opI fun _ _ _ _ _ _ _ hc q=>mod_int' hc.1 q
theorem zhj:OpR X (binaryOp .Mod) (cIC CNz fun i j=>.int (i.fmod j)):=op_modZ.cIC
theorem zc3:OpD K false zeq (cIC CNz fun i j=>.int (i.fmod j)):=zbe fun _ _ _=>.mkInt _
end
theorem zls {i j:Int} (h:j≠0) (h2:j.natAbs<2 ^ 200):zhh (.int i) (.int j)=some (.int (i.fdiv j)):=by
 unfold zhh;rw [z6w,if_pos (show CNz i j from ⟨h,h2⟩)]
theorem zal {i j:Int} (h:j≠0) (h2:j.natAbs<2 ^ 200):zeq (.int i) (.int j)=some (.int (i.fmod j)):=by
 unfold zeq;rw [z6w,if_pos (show CNz i j from ⟨h,h2⟩)]
open PySem.W in
noncomputable def z99 (tb:String->Option Builtin) (p:Program) (w:World) (m:Nat) (ann:Option Value):Nat->SharedT->Thread->Option SharedT
 | 0,_,_=>none
 | n+1,s,t=>match through t with
  | true=>some s
  | false=>match stepOk m ann t with
   | false=>none
   | true=>match stepT (denote tb) p w s t with
    | some (s',t')=>z99 tb p w m ann n s' t'
    | none=>none
open PySem.W in
theorem z8h {tb:String->Option Builtin} {p:Program} {w:World} {m:Nat} {ann:Option Value}:∀(n:Nat) {s s':SharedT} {t:Thread},z99 tb p w m ann n s t=some s'->topRun tb p w m ann n s.abs t=some s'.abs
 | 0,_,_,_,h=>nomatch h
 | n+1,s,s',t,h=>by
  unfold z99 at h
  unfold topRun
  cases a:through t with
  | true=>rw [a] at h;cases h;rfl
  | false=>
   rw [a] at h
   cases b:stepOk m ann t with
   | false=>rw [b] at h;cases h
   | true=>
    rw [b] at h
    cases c:stepT (denote tb) p w s t with
    | none=>rw [c] at h;cases h
    | some z=>
     obtain ⟨s2,t2⟩:=z
     rw [c] at h
     rw [stepT_spec c]
     exact z8h n h
open PySem.W in
noncomputable def zlt:List Obj->Nat->BT->BT
 | [],_,t=>t
 | o::l,i,t=>zlt l (i+1) (t.ins i o)
open PySem.W in
noncomputable def bootS (w:World) (os:OsState):SharedT:=⟨zlt (boot_heap w.params).objs.toList 0 .nil,(boot_heap w.params).objs.size,(boot_heap w.params).life,Array.mk [],boot_drawn,boot_toks,os⟩
open PySem.W in
noncomputable def seenAt (p q:Program) (loose:List Str) (Xt:Shared->Bool) {α:Type} (Yf:Shared->α) (w:World) (t:Shared):=
 (staticsOk (importedModules p.main.body) (boot_heap w.params) t.heap&&namesBound p t.heap&&gensDone t&&laidKept (boot_heap w.params) t.heap,openSeen q loose (importedModules p.main.body) Xt true t,Yf t)
open PySem.W in
noncomputable def outAt (p q:Program) (loose:List Str) (Xt:Shared->Bool) {α:Type} (Yf:Shared->α) (N:Nat) (w:World) (os:OsState):=
 (z99 treeTable p w (boot_heap w.params).objs.size ((boot_heap w.params).nsMap mainGlobals "__annotations__") N (bootS w os) (topStub p)).map fun s=>seenAt p q loose Xt Yf w s.abs
open PySem.W in
theorem zjv:∀(w:World) (os:OsState),(bootS w os).abs=⟨boot_heap w.params,Array.mk [],boot_drawn,boot_toks,os⟩:=fun _ _=>by kernel_rfl
open PySem.W in
theorem zof:∀w:World,(boot_heap w.params).isNs mainGlobals=true:=fun _=>by kernel_rfl
open PySem.W in
theorem zog {p q:Program} {loose:List Str} {Xt:Shared->Bool} {α:Type} {Yf:Shared->α} {Ya:World->α} {N:Nat} (e:opening p=plainProg p.main.scope.names) (hN:Nat.ble 600 N=true)
  (f:∀s,fenceModules? p s=some s) (h:∀w os,outAt p q loose Xt Yf N w os=some (true,openGood q loose,Ya w)):LeftO p q loose Xt Yf Ya N:=fun w=>by
 obtain ⟨⟨hp,gs,d,k,os⟩,a,b⟩:=Option.map_eq_some_iff.mp (boot_open e hN f w)
 obtain ⟨rfl,rfl,rfl,rfl⟩:hp=boot_heap w.params/\gs=Array.mk []/\d=boot_drawn/\k=boot_toks:=by simpa using b
 obtain ⟨s,r,c⟩:=Option.map_eq_some_iff.mp (h w os)
 have r2:=z8h N r
 rw [zjv] at r2
 obtain ⟨l1,l2,l3⟩:_/\_/\_:=by simpa only [seenAt,Prod.mk.injEq] using c
 have t:topFrom treeTable p w N ⟨boot_heap w.params,Array.mk [],boot_drawn,boot_toks,os⟩=some s.abs:=by
  unfold topFrom
  dsimp only
  rw [zof,r2]
  show (match staticsOk (importedModules p.main.body) (boot_heap w.params) s.abs.heap&&namesBound p s.abs.heap&&gensDone s.abs&&laidKept (boot_heap w.params) s.abs.heap with | true=>_ | false=>_)=_
  rw [l1]
 unfold openEnds
 rw [a]
 show (topFrom treeTable p w N _).map _=_
 rw [t]
 exact congrArg some (Prod.ext l2 l3)
abbrev vs (x:String) (t:Nat):Value:=.str (Str.ofString x) t
abbrev en (P:Params) (x:String) (t:Nat) (v:Value):DictEntry:=⟨PyData.keyHash P (Str.ofString x),.str (Str.ofString x) t,v⟩
abbrev oT (l:List Value):Obj:={ cls:=.type "tuple",data:=.seq l.toArray }
abbrev oD (l:List DictEntry) (n:Nat):Obj:={ cls:=.type "dict",data:=.dict l.toArray n }
abbrev oF (st:Stmt) (x q:String) (dV kV doc pm:Value) (an:Option Addr) (cd ct:Value):Obj:={ cls:=.type "function",data:=.func (PySem.W.fnOf (Str.ofString x) (Str.ofString q) (z0p st) (z0k st) (z02 st) dV kV doc pm an cd ct) }
end L2
noncomputable section
namespace K63
open PySem PySem.Spec PyProof.Rows L2
def knX:String->Bool:=fun c=>c=="NoQuotient"
def z28:String->Option Bool:=fun c=>if c="NoQuotient" then some true else none
def z3m:String->Option Bool:=fun c=>if c="NoQuotient" then some false else none
def z44:String->Option Bool:=fun c=>if c="NoQuotient" then some false else none
def z29:String->Option Bool:=fun c=>if c="NoQuotient" then some true else none
def z2a:String->Option Bool:=fun c=>if c="NoQuotient" then some true else none
def z45:DE->R Bool:=
 (z3o asB (eOp dNe (z03 1) (eC (.int 0))))
def z46:DE->R D:=
 (z5g (z00 (z03 0) (z00 (z03 1) z0c)))
def z5s:DS->SR:=
 (z3p [true] (eCB z3l (z00 (z1k (zij (z03 0)) (bT 2) [] z45 z46) z0c)))
def z0u:List D->R D:=mOf true 1 0 z5s
def z2b:DE->R D:=
 (eOp z3b (z03 0) (z03 1))
def z2c:DS->SR:=
 (z1e (z34 false 6 [false,false,true,false,true] (eCB z2m (z00 (z1k (z3k (z00 (z03 4) (z00 (z03 2) z0c))) (bT 2) [] z5p z2b) z0c)))
  (zig dSetN 0 [true,false,false,true,false,true,true] (z03 6) (eOp z3b (eGetN (z03 0) (z03 6) (eC (.int 0))) (eOp zby (z03 5) (z03 3)))))
def z3u:DS->SR:=
 (zbd false [false,true] (iL (z03 1)) (.t [4,5]) z2c)
def z1l:List D->R D:=zx1 4 3 z3u
def z18:DE->R D:=
 (eOp ze7 (z03 0) (z03 1))
def z3e:DS->SR:=
 (z1e (sIf (z3o asB (eOp dNe (eOp zeq (eOp dIx (z03 0) (eC (.int 1))) (eOp dIx (z03 1) (eC (.int 1)))) (eC (.int 0))))
   (z62 "NoQuotient" (z00 (eC (.str "the times do not divide")) z0c))
   sNx)
  (z3p [true,true] (z5g (z00 (eCB z2m (z00 (z1k (z3k (z00 (eOp dIx (z03 0) (eC (.int 0))) (z00 (eOp dIx (z03 1) (eC (.int 0))) z0c))) (bT 2) [] z5p z18) z0c)) (z00 (eOp zhh (eOp dIx (z03 0) (eC (.int 1))) (eOp dIx (z03 1) (eC (.int 1)))) z0c)))))
def z0q:List D->R D:=mOf false 2 0 z3e
def z64:DS->SR:=
 (z3p [true,true] (eCB zj4 (z00 (eSl dSl (z03 0) (oSo (z03 1)) (oSo (eOp z3b (z03 1) (eC (.int 1))))) z0c)))
def z0y:List D->R D:=mOf false 2 0 z64
def z40:DS->SR:=
 (z3p [true] (zqd (eUn (fun d=>(z9m d).map fun b=>.bl (!b)) (eUn (z7t "bool") (z03 0))) (eUn (z7t "int") (z03 0))))
def z0o:List D->R D:=mOf false 1 0 z40
def z1i:DS->SR:=
 (z1e (z34 false 3 [false,false,false,true,false,true] (eOp z7n (eOp z3b (eOp z3b (eOp z3b (eOp zko (z03 3) (z03 3)) (eOp zko (eC (.int 48271)) (z03 3))) (eOp zko (z03 5) (z03 5))) (eC (.int 11))) (eC (.int 2147483647))))
  (zmv "list" zga 4 [false,false,true,true] (z00 (eOp ze7 (eOp z7n (eOp zbf (z03 3) (eC (.int 5))) (eOp z3b (eOp zko (eC (.int 2)) (z03 2)) (eC (.int 1)))) (z03 2)) z0c)))
def z5a:DS->SR:=
 (z1e (z34 false 3 [true] (eOp z7n (z03 0) (eC (.int 2147483647))))
  (z1e (z34 true 4 [] (z67 z0c))
  (z1e (zbd true [false,true] (zr3 (z00 (z03 1) z0c)) (.n 5) z1i)
  (z3p [false,false,false,false,true] (eCB z2m (z00 (z03 4) z0c))))))
def z0z:List D->R D:=mOf false 3 3 z5a
def z65:DS->SR:=
 (z1e (sIf (z3o asB (eOp dEq (eOp z7n (z03 0) (eC (.int 3))) (eC (.int 2))))
   (z3p [true] (eOp ze7 (eOp z3b (eOp z7n (eOp zbf (z03 0) (eC (.int 3))) (eOp ze7 (eOp zko (eC (.int 2)) (eOp zqr (eC (.int 10)) (eC (.int 29)))) (eC (.int 1)))) (eC (.int 1))) (eOp zqr (eC (.int 10)) (eC (.int 29)))))
   sNx)
  (z3p [true] (eOp ze7 (eOp z7n (eOp zbf (z03 0) (eC (.int 3))) (eC (.int 7))) (eC (.int 3)))))
def z1y:List D->R D:=mOf false 1 0 z65
def z1s:DE->R D:=
 (eOp z3b (z03 0) (z03 1))
def z1t:DS->SR:=
 (z1e (z34 false 7 [false,false,false,true,false,true] (eCB z2m (z00 (z1k (z3k (z00 (z03 3) (z00 (z03 5) z0c))) (bT 2) [] z5p z1s) z0c)))
  (zig dSetN 2 [false,false,true,false,true,false,true,true] (z03 7) (eOp z3b (eGetN (z03 2) (z03 7) (eC (.int 0))) (eOp zby (z03 4) (z03 6)))))
def z1u:DS->SR:=
 (zbd false [false,true] (iL (z03 1)) (.t [5,6]) z1t)
def z2q:DE->R Bool:=
 (z3o asB (eOp dNe (z03 1) (eC (.int 0))))
def z2r:DE->R D:=
 (z5g (z00 (z03 0) (z00 (z03 1) z0c)))
def z3f:DS->SR:=
 (z1e (z34 true 2 [] zbw)
  (z1e (zbd false [true] (iL (z03 0)) (.t [3,4]) z1u)
  (z3p [false,false,true,true,true] (eCB z3l (z00 (z1k (zij (z03 2)) (bT 2) [] z2q z2r) z0c)))))
def z10:List D->R D:=mOf true 2 6 z3f
def z6g:DS->SR:=
 (zig dSetN 2 [false,false,true,true,true] (z03 3) (eOp z3b (eGetN (z03 2) (z03 3) (eC (.int 0))) (z03 4)))
def zhk:DS->SR:=
 (z1e (z34 true 2 [true] (eCB dDictL (z00 (z03 0) z0c)))
  (z1e (zbd false [false,true] (iL (z03 1)) (.t [3,4]) z6g)
  (z3p [false,false,true] (z17 z0u (z00 (z03 2) z0c)))))
def z75:List D->R D:=mOf true 2 3 zhk
def z3v:DS->SR:=
 (zt9 2 [false,true,false,true,true] z1l 4 (z00 (z03 1) (z00 (z03 3) (z00 (z03 4) z0c))))
def z76:DS->SR:=
 (z1e (z34 true 2 [] zbw)
  (z1e (zbd false [true] (iL (z03 0)) (.t [3,4]) z3v)
  (z3p [false,false,true] (z17 z0u (z00 (z03 2) z0c)))))
def z32:List D->R D:=mOf true 2 3 z76
def z39:DS->SR:=
 (zig dSetN 2 [false,true,false,true,true] (z17 z0z (z00 (eOp z3b (z03 4) (z03 3)) (z00 (z03 1) (z00 (eC (.int 2)) z0c)))) (z17 z1y (z00 (z03 4) z0c)))
def z47:DE->R Bool:=
 (z3o asB (eOp dNe (z03 1) (eC (.int 0))))
def z48:DE->R D:=
 (z5g (z00 (z03 0) (z00 (z03 1) z0c)))
def z5t:DS->SR:=
 (z1e (z34 true 2 [] zbw)
  (z1e (zbd false [true] (iEn (z00 (z03 0) z0c)) (.t [3,4]) z39)
  (z3p [false,false,true] (eCB z3l (z00 (z1k (zij (z03 2)) (bT 2) [] z47 z48) z0c)))))
def z2g:List D->R D:=mOf true 2 3 z5t
def z3g:DE->R D:=
 (eUn (fun d=>(z9m d).map fun b=>.bl (!b)) (z17 z0o (z00 (z03 0) z0c)))
def z2k:DS->SR:=
 (z1e (sIf (bOr (zex (z3o z9m (eUn (z7t "tuple") (z03 1)))) (bOr (z3o asB (eOp dNe (eCB z7u (z00 (z03 1) z0c)) (eC (.int 2)))) (zex (z3o z9m (z17 z0o (z00 (eOp dIx (z03 1) (eC (.int 1))) z0c))))))
   (z3p [] (eC (.bl false)))
   sNx)
  (z1e (sIf (zex (z3o z9m (eUn (z7t "tuple") (eOp dIx (z03 1) (eC (.int 0))))))
   (z3p [] (eC (.bl false)))
   sNx)
  (sIf (z3o z9m (eCB zqz (z00 (z1k (iL (eOp dIx (z03 1) (eC (.int 0)))) b1 [] z5p z3g) z0c)))
   (z3p [] (eC (.bl false)))
   sNx)))
def z49:DS->SR:=
 (z1e (sIf (zex (z3o z9m (eUn (z7t "list") (z03 0))))
   (z3p [] (eC (.bl false)))
   sNx)
  (z1e (zbd false [true] (iL (z03 0)) (.n 1) z2k)
  (z3p [] (eC (.bl true)))))
def z1z:List D->R D:=mOf false 1 1 z49
def z0r:DE->R Bool:=
 (z3o asB (eOp zpb (eCB z7u (z00 (z03 2) z0c)) (eC (.int 0))))
def z05:DS->SR:=
 (z1e (sIf (z3o asB (eOp dEq (eCB z7u (z00 (z03 3) z0c)) (eC (.int 100))))
   (z62 "NoQuotient" (z00 (eC (.str "not done within a hundred terms")) z0c))
   sNx)
  (z1e (z34 false 4 [false,true,true] (z17 z0q (z00 (eOp dIx (z03 2) (eUn zih (eC (.int 1)))) (z00 (eOp dIx (z03 1) (eUn zih (eC (.int 1)))) z0c))))
  (z1e (zmv "list" zga 3 [false,false,false,false,true] (z00 (z03 4) z0c))
  (z34 true 2 [false,true,true,false,true] (z17 z75 (z00 (z03 2) (z00 (z17 z32 (z00 (z03 1) (z00 (z67 (z00 (z5g (z00 (eOp dIx (z03 4) (eC (.int 0))) (z00 (eUn zih (eOp dIx (z03 4) (eC (.int 1)))) z0c))) z0c)) z0c))) z0c)))))))
def z5u:DS->SR:=
 (z1e (sIf (z3o asB (eOp dEq (eCB z7u (z00 (z03 1) z0c)) (eC (.int 0))))
   (z62 "NoQuotient" (z00 (eC (.str "nothing is divided by nought")) z0c))
   sNx)
  (z1e (z34 false 2 [true] (z03 0))
  (z1e (z34 true 3 [] (z67 z0c))
  (z1e (zcs 200000 z0r z05)
  (z3p [false,false,false,true] (eCB z3l (z00 (z03 3) z0c)))))))
def z0l:List D->R D:=mOf true 2 3 z5u
def z4s:DS->SR:=
 (z1e (z34 true 2 [] (z67 z0c))
  (z1e (zuh (zj0 (zr6 knX z0l (z00 (z03 0) (z00 (z03 1) z0c))))
   (hAs z28 3 (z34 true 2 [false,false,false,true] (z67 (z00 (eUn (zl2 z2a) (z03 3)) (z00 (eUn (zl2 z29) (z03 3)) (z00 (eUn (zl2 z44) (z03 3)) (z00 (eUn (zl2 z3m) (z03 3)) z0c)))))) zya))
  (z3p [false,false,true] (eOp dEq (z03 2) (z67 (z00 (eC (.bl true)) (z00 (eC (.bl true)) (z00 (eC (.bl false)) (z00 (eC (.bl false)) z0c)))))))))
def z09:List D->R D:=mOf false 2 2 z4s
def z77:DS->SR:=
 (z1e (z34 true 3 [true,true] (z67 (z00 (eCB z7v (z00 (z03 0) z0c)) (z00 (eCB z7v (z00 (z03 1) z0c)) z0c))))
  (z1e (z34 true 4 [false,false,false,true] (z17 z0l (z00 (eOp dIx (z03 3) (eC (.int 0))) (z00 (eOp dIx (z03 3) (eC (.int 1))) z0c))))
  (z1e (sIf (bOr (zex (z3o z9m (z17 z1z (z00 (z03 4) z0c)))) (z3o asB (eOp dNe (z03 4) (z03 2))))
   (z3p [] (eC (.bl false)))
   sNx)
  (z1e (zmv "list" zga 4 [] (z00 (eC (.int 7)) z0c))
  (z3p [true,true,false,true] (eOp dEq (z03 3) (z67 (z00 (z03 0) (z00 (z03 1) z0c)))))))))
def z0t:List D->R D:=mOf false 3 2 z77
def z0f:DE->R D:=
 (z5g (z00 (z5g (z00 (z03 0) z0c)) (z00 (eC (.int 1)) z0c)))
def z1p:DS->SR:=
 (z1e (z34 false 1 [true] (eOp ze7 (eOp z7n (eOp zbf (z03 0) (eC (.int 5))) (eC (.int 121))) (eC (.int 60))))
  (z1e (z34 false 2 [true,true] (eOp ze7 (z03 1) (eOp z7n (eOp zbf (z03 0) (eC (.int 605))) (eOp z3b (z03 1) (eC (.int 61))))))
  (z1e (sIf (z3o asB (eOp zqs (eOp z7n (z03 0) (eC (.int 5))) (eC (.int 2))))
   (z1e (z34 false 1 [true] (eOp z3b (eC (.int 41)) (eOp z7n (eOp zbf (z03 0) (eC (.int 5))) (eC (.int 20)))))
  (z34 false 2 [true,true] (eOp ze7 (eOp ze7 (z03 1) (eC (.int 100))) (eOp z7n (z03 0) (eC (.int 5))))))
   sNx)
  (z1e (z34 true 3 [] (z67 z0c))
  (z1e (sIf (z3o asB (eOp zqs (z03 2) (z03 1)))
   (z34 true 3 [false,true,true] (z67 (z00 (z5g (z00 (z5g (z00 (z03 2) z0c)) (z00 (eUn zih (eC (.int 1))) z0c))) (z00 (z5g (z00 (z5g (z00 (z03 1) z0c)) (z00 (eC (.int 1)) z0c))) z0c))))
   sNx)
  (z1e (z34 true 4 [] (z67 (z00 (z5g (z00 (z5g (z00 (eC (.int 0)) z0c)) (z00 (eUn zih (eC (.int 1))) z0c))) (z00 (z5g (z00 (z5g (z00 (eC (.int 1)) z0c)) (z00 (eC (.int 1)) z0c))) z0c))))
  (z1e (sIf (z3o asB (eOp zpb (eOp ze7 (z03 1) (z03 2)) (eC (.int 100))))
   (z3p [false,false,false,true,true] (z17 z09 (z00 (z03 3) (z00 (z03 4) z0c))))
   sNx)
  (z3p [false,true,true,true,true] (z17 z0t (z00 (z03 3) (z00 (z03 4) (z00 (z1k (zkv (z00 (z03 2) (z00 (z03 1) z0c))) b1 [] z5p z0f) z0c))))))))))))
def z0i:List D->R D:=mOf false 1 4 z1p
def z2s:DE->R Bool:=
 (z3o asB (eOp dNe (z03 1) (eC (.int 0))))
def z2t:DE->R D:=
 (z5g (z00 (z03 0) (z00 (z03 1) z0c)))
def z3h:DS->SR:=
 (z1e (z34 false 3 [false,true] (eCB z7u (z00 (eOp dIx (eOp dIx (z03 1) (eC (.int 0))) (eC (.int 0))) z0c)))
  (z1e (z34 false 4 [false,false,true,true] (z17 z0z (z00 (z03 2) (z00 (z03 3) (z00 (eC (.int 3)) z0c)))))
  (z1e (z34 false 5 [false,false,true] (eOp z3b (eC (.int 1)) (eOp zeq (eOp zhh (z03 2) (eC (.int 7))) (eC (.int 9)))))
  (z1e (sIf (zqc (z3o asB (eOp dEq (eCB z7u (z00 (z03 1) z0c)) (eC (.int 1)))) (z3o asB (eOp dEq (eOp zeq (z03 5) (eOp dIx (eOp dIx (z03 1) (eC (.int 0))) (eC (.int 1)))) (eC (.int 0)))))
   (z3p [] (eC (.bl true)))
   sNx)
  (z1e (z34 true 6 [true] (eCB dDictL (z00 (z03 0) z0c)))
  (z1e (zig dSetN 6 [false,false,false,false,true,true,true] (z03 4) (eOp z3b (eGetN (z03 6) (z03 4) (eC (.int 0))) (z03 5)))
  (z1e (z34 true 7 [false,false,false,false,false,false,true] (eCB z3l (z00 (z1k (zij (z03 6)) (bT 2) [] z2s z2t) z0c)))
  (z3p [false,true,false,false,false,false,false,true] (z17 z09 (z00 (z03 7) (z00 (eCB z7v (z00 (z03 1) z0c)) z0c)))))))))))
def z11:List D->R D:=mOf false 3 5 z3h
def zoh:DS->SR:=
 (z1e (sIf (zex (z3o z9m (z17 z0i (z00 (z17 z0y (z00 (z03 0) (z00 (eC (.int 1)) z0c))) z0c))))
   (z3p [] (eC (.bl false)))
   sNx)
  (z1e (z34 false 1 [true] (z17 z0y (z00 (z03 0) (z00 (eC (.int 0)) z0c))))
  (z1e (z34 false 2 [false,true] (eOp z3b (eC (.int 1)) (eOp z7n (z03 1) (eC (.int 3)))))
  (z1e (z34 true 3 [false,true] (z67 (z00 (eOp z7n (eOp zbf (z03 1) (eC (.int 3))) (eC (.int 6))) (z00 (eOp z7n (eOp zbf (z03 1) (eC (.int 18))) (eC (.int 5))) z0c))))
  (z1e (sIf (z3o asB (eOp dEq (eOp z7n (eOp zbf (z03 1) (eC (.int 180))) (eC (.int 4))) (eC (.int 1))))
   (z34 true 3 [] (z67 (z00 (eC (.int 11)) (z00 (eC (.int 11)) z0c))))
   sNx)
  (z1e (z34 true 4 [true,false,true,true] (z17 z2g (z00 (eSl dSl (z03 0) (oSo (eC (.int 3))) (oSo (eOp z3b (eC (.int 3)) (eOp dIx (z03 3) (eC (.int 0)))))) (z00 (z03 2) z0c))))
  (z1e (z34 true 5 [true,false,true,true] (z17 z2g (z00 (eSl dSl (z03 0) (oSo (eC (.int 14))) (oSo (eOp z3b (eC (.int 14)) (eOp dIx (z03 3) (eC (.int 1)))))) (z00 (z03 2) z0c))))
  (z1e (sIf (z3o asB (eOp dEq (z03 5) (z67 z0c)))
   (z3p [false,false,false,false,true] (z17 z09 (z00 (eCB z7v (z00 (z03 4) z0c)) (z00 (z67 z0c) z0c))))
   sNx)
  (z1e (z34 true 6 [false,false,false,false,true,true] (z17 z10 (z00 (z03 4) (z00 (z03 5) z0c))))
  (z1e (sIf (zex (z3o z9m (z17 z0t (z00 (z03 6) (z00 (z03 5) (z00 (z03 4) z0c))))))
   (z3p [] (eC (.bl false)))
   sNx)
  (z1e (sIf (z3o asB (eOp dEq (eOp z7n (eOp zbf (z03 1) (eC (.int 90))) (eC (.int 2))) (eC (.int 1))))
   (z3p [true,false,false,false,false,true,true] (z17 z11 (z00 (z03 6) (z00 (z03 5) (z00 (z17 z0y (z00 (z03 0) (z00 (eC (.int 2)) z0c))) z0c)))))
   sNx)
  (z3p [] (eC (.bl true))))))))))))))
def zer:List D->R D:=mOf false 1 6 zoh
def top (i:Nat):Stmt:=PySem.Challenge.pw_friezeyard_k63_divided.main.body.getD i (.Pass ⟨0,0,0,0⟩)
abbrev z8i:Stmt:=top 6
abbrev z2x:Stmt:=top 7
abbrev z3n:Stmt:=top 8
abbrev z1m:Stmt:=top 9
abbrev z2y:Stmt:=top 10
abbrev z1a:Stmt:=top 11
abbrev z20:Stmt:=top 13
abbrev z0v:Stmt:=top 14
abbrev z1n:Stmt:=top 15
abbrev z21:Stmt:=top 16
abbrev z2z:Stmt:=top 17
abbrev z22:Stmt:=top 18
abbrev z1b:Stmt:=top 19
abbrev z1c:Stmt:=top 20
abbrev z2h:Stmt:=top 21
abbrev z0j:Stmt:=top 22
abbrev z1d:Stmt:=top 23
abbrev z9a:Stmt:=top 24
structure Txt (mg:Str->Option Value):Prop where
 ValueError:mg "ValueError"=none
 «any»:mg "any"=none
 bool:mg "bool"=none
 dict:mg "dict"=none
 enumerate:mg "enumerate"=none
 int:mg "int"=none
 isinstance:mg "isinstance"=none
 len:mg "len"=none
 list:mg "list"=none
 range:mg "range"=none
 sorted:mg "sorted"=none
 sum:mg "sum"=none
 tuple:mg "tuple"=none
 zip:mg "zip"=none
structure Exs (K:Frag) (mg:Str->Option Value) (c_FloorError c_NoLine c_NoQuotient c_TooMany:Addr):Prop where
 a_FloorError:mg (Str.ofString "FloorError")=some (.ref c_FloorError)
 a_NoLine:mg (Str.ofString "NoLine")=some (.ref c_NoLine)
 a_NoQuotient:mg (Str.ofString "NoQuotient")=some (.ref c_NoQuotient)
 a_TooMany:mg (Str.ofString "TooMany")=some (.ref c_TooMany)
 n_FloorError:nsIn K mainGlobals (Str.ofString "FloorError")=some (some (.ref c_FloorError))
 n_NoLine:nsIn K mainGlobals (Str.ofString "NoLine")=some (some (.ref c_NoLine))
 n_NoQuotient:nsIn K mainGlobals (Str.ofString "NoQuotient")=some (some (.ref c_NoQuotient))
 n_TooMany:nsIn K mainGlobals (Str.ofString "TooMany")=some (some (.ref c_TooMany))
 q_FloorError:excIn K c_FloorError [.type "ValueError",.type "Exception",.type "BaseException",.type "object"] "ValueError.__new__"=true
 q_NoQuotient:excIn K c_NoQuotient [.type "ValueError",.type "Exception",.type "BaseException",.type "object"] "ValueError.__new__"=true
 fo_NoQuotient:mroIn K c_NoQuotient (.type "object")=some true
 fb_NoQuotient:mroIn K c_NoQuotient (.type "BaseException")=some true
 fc_NoQuotient:PySem.W.findIn K (.ref c_NoQuotient) "__class__"=some (some (.builtin "object.__class__"))
 fg_NoQuotient:PySem.W.findIn K (.ref c_NoQuotient) "__getattribute__"=some (some (.builtin "BaseException.__getattribute__"))
 ft_NoQuotient:PySem.W.findIn K (.ref c_NoQuotient) "__getattr__"=some none
 m_NoQuotient_FloorError:mroIn K c_NoQuotient (.ref c_FloorError)=some true
 k_NoQuotient_TooMany:kitOne K (.ref c_NoQuotient) (.ref c_TooMany)=some false
 k_NoQuotient_NoLine:kitOne K (.ref c_NoQuotient) (.ref c_NoLine)=some false
 k_NoQuotient_NoQuotient:kitOne K (.ref c_NoQuotient) (.ref c_NoQuotient)=some true
 k_NoQuotient_ValueError:kitOne K (.ref c_NoQuotient) (.type "ValueError")=some true
section
variable {K:Frag} {mg:Str->Option Value} {c_FloorError c_NoLine c_NoQuotient c_TooMany:Addr}
theorem Exs.kn (Z:Exs K mg c_FloorError c_NoLine c_NoQuotient c_TooMany):∀c,knX c=true->∃C,mg (Str.ofString c)=some (.ref C):=by
 intro c h
 simp only [knX,Bool.or_eq_true,beq_iff_eq] at h
 . subst h;exact ⟨_,Z.a_NoQuotient⟩
theorem Exs.t_FloorError (Z:Exs K mg c_FloorError c_NoLine c_NoQuotient c_TooMany):Tbl K "FloorError" c_FloorError [.type "ValueError",.type "Exception",.type "BaseException",.type "object"] "ValueError.__new__" z28:=⟨Z.n_FloorError,Z.q_FloorError,by
 intro c b h
 simp only [z28] at h
 by_cases e:c="NoQuotient"
 . rw [if_pos e] at h;cases h;subst e;exact ⟨_,Z.n_NoQuotient,Z.q_NoQuotient,Z.m_NoQuotient_FloorError⟩
 rw [if_neg e] at h
 cases h⟩
theorem Exs.b_TooMany (Z:Exs K mg c_FloorError c_NoLine c_NoQuotient c_TooMany):Bel K (.ref c_TooMany) z3m:=⟨by
 intro c b h
 simp only [z3m] at h
 by_cases e:c="NoQuotient"
 . rw [if_pos e] at h;cases h;subst e;exact ⟨_,Z.n_NoQuotient,⟨Z.fo_NoQuotient,Z.fb_NoQuotient,Z.fc_NoQuotient,Z.fg_NoQuotient,Z.ft_NoQuotient⟩,Z.k_NoQuotient_TooMany⟩
 rw [if_neg e] at h
 cases h⟩
theorem Exs.b_NoLine (Z:Exs K mg c_FloorError c_NoLine c_NoQuotient c_TooMany):Bel K (.ref c_NoLine) z44:=⟨by
 intro c b h
 simp only [z44] at h
 by_cases e:c="NoQuotient"
 . rw [if_pos e] at h;cases h;subst e;exact ⟨_,Z.n_NoQuotient,⟨Z.fo_NoQuotient,Z.fb_NoQuotient,Z.fc_NoQuotient,Z.fg_NoQuotient,Z.ft_NoQuotient⟩,Z.k_NoQuotient_NoLine⟩
 rw [if_neg e] at h
 cases h⟩
theorem Exs.b_NoQuotient (Z:Exs K mg c_FloorError c_NoLine c_NoQuotient c_TooMany):Bel K (.ref c_NoQuotient) z29:=⟨by
 intro c b h
 simp only [z29] at h
 by_cases e:c="NoQuotient"
 . rw [if_pos e] at h;cases h;subst e;exact ⟨_,Z.n_NoQuotient,⟨Z.fo_NoQuotient,Z.fb_NoQuotient,Z.fc_NoQuotient,Z.fg_NoQuotient,Z.ft_NoQuotient⟩,Z.k_NoQuotient_NoQuotient⟩
 rw [if_neg e] at h
 cases h⟩
theorem Exs.b_ValueError (Z:Exs K mg c_FloorError c_NoLine c_NoQuotient c_TooMany):Bel K (.type "ValueError") z2a:=⟨by
 intro c b h
 simp only [z2a] at h
 by_cases e:c="NoQuotient"
 . rw [if_pos e] at h;cases h;subst e;exact ⟨_,Z.n_NoQuotient,⟨Z.fo_NoQuotient,Z.fb_NoQuotient,Z.fc_NoQuotient,Z.fg_NoQuotient,Z.ft_NoQuotient⟩,Z.k_NoQuotient_ValueError⟩
 rw [if_neg e] at h
 cases h⟩
end
theorem sc_plus:FnScope ["one","other","found","powers","times"] ["one","other"] (z02 z8i):=⟨rfl,rfl,rfl,by decide +kernel,rfl,by decide +kernel,by decide +kernel⟩
theorem zc4:FnScope ["found"] ["found"] (z02 z2x):=⟨rfl,rfl,rfl,by decide +kernel,rfl,by decide +kernel,by decide +kernel⟩
theorem sc_product:FnScope ["one","other","found","powers","times"] ["one","other"] (z02 z3n):=⟨rfl,rfl,rfl,by decide +kernel,rfl,by decide +kernel,by decide +kernel⟩
theorem sc_add_product:FnScope ["found","terms","powers","times","own_powers","own_times","key"] ["found","terms","powers","times"] (z02 z1m):=⟨rfl,rfl,rfl,by decide +kernel,rfl,by decide +kernel,by decide +kernel⟩
theorem sc_quotient:FnScope ["one","other","rest","found","term"] ["one","other"] (z02 z2y):=⟨rfl,rfl,rfl,by decide +kernel,rfl,by decide +kernel,by decide +kernel⟩
theorem z78:FnScope ["one","other"] ["one","other"] (z02 z1a):=⟨rfl,rfl,rfl,by decide +kernel,rfl,by decide +kernel,by decide +kernel⟩
theorem z9b:FnScope ["_law_script","_law_at"] ["_law_script","_law_at"] (z02 z20):=⟨rfl,rfl,rfl,by decide +kernel,rfl,by decide +kernel,by decide +kernel⟩
theorem z5v:FnScope ["_law_found"] ["_law_found"] (z02 z0v):=⟨rfl,rfl,rfl,by decide +kernel,rfl,by decide +kernel,by decide +kernel⟩
theorem sc__law_powers:FnScope ["_law_cell","_law_many","_law_wide","_law_number","_law_found","_law_k"] ["_law_cell","_law_many","_law_wide"] (z02 z1n):=⟨rfl,rfl,rfl,by decide +kernel,rfl,by decide +kernel,by decide +kernel⟩
theorem z9c:FnScope ["_law_cell"] ["_law_cell"] (z02 z21):=⟨rfl,rfl,rfl,by decide +kernel,rfl,by decide +kernel,by decide +kernel⟩
theorem sc__law_sum:FnScope ["_law_cells","_law_many","_law_found","_law_k","_law_cell"] ["_law_cells","_law_many"] (z02 z2z):=⟨rfl,rfl,rfl,by decide +kernel,rfl,by decide +kernel,by decide +kernel⟩
theorem sc__law_kinds:FnScope ["_law_found","_law_term"] ["_law_found"] (z02 z22):=⟨rfl,rfl,rfl,by decide +kernel,rfl,by decide +kernel,by decide +kernel⟩
theorem sc__law_product:FnScope ["_law_one","_law_other","_law_found","_law_powers_here","_law_times_here","_law_also","_law_many","_law_at"] ["_law_one","_law_other"] (z02 z1b):=⟨rfl,rfl,rfl,by decide +kernel,rfl,by decide +kernel,by decide +kernel⟩
theorem sc__law_refused:FnScope ["_law_one","_law_other","_law_told_here","e"] ["_law_one","_law_other"] (z02 z1c):=⟨rfl,rfl,rfl,by decide +kernel,rfl,by decide +kernel,by decide +kernel⟩
theorem sc__law_told:FnScope ["_law_one","_law_other","_law_due","_law_handed","_law_found"] ["_law_one","_law_other","_law_due"] (z02 z2h):=⟨rfl,rfl,rfl,by decide +kernel,rfl,by decide +kernel,by decide +kernel⟩
theorem sc__law_row_of_powers:FnScope ["_law_cell","_law_high","_law_low","_law_one","_law_other"] ["_law_cell"] (z02 z0j):=⟨rfl,rfl,rfl,by decide +kernel,rfl,by decide +kernel,by decide +kernel⟩
theorem sc__law_spoiled:FnScope ["_law_one","_law_other","_law_cell","_law_many","_law_powers_here","_law_times_here","_law_found","_law_some"] ["_law_one","_law_other","_law_cell"] (z02 z1d):=⟨rfl,rfl,rfl,by decide +kernel,rfl,by decide +kernel,by decide +kernel⟩
theorem sc_law:FnScope ["_law_script","_law_head","_law_many","_law_sizes","_law_one","_law_other","_law_made"] ["_law_script"] (z02 z9a):=⟨rfl,rfl,rfl,by decide +kernel,rfl,by decide +kernel,by decide +kernel⟩
theorem zc5 {P:Program} {w:World} {K:Frag} {mg:Str->Option Value} {base:Heap} {f:Addr} {fd:FuncData} (F:Fun K "sum_from" "sum_from" z2x f fd) (T:Txt mg) {c_FloorError c_NoLine c_NoQuotient c_TooMany:Addr} (Z:Exs K mg c_FloorError c_NoLine c_NoQuotient c_TooMany)  : FnOk P w K mg base (CX1 P w) 1 f fd ["found"] (spD K mg true z0u 1):=
 fnD (k:=0) F zc4 rfl rfl fun cdv A outer s H E hr=>
  (z0x (z26 (zeb (z74 rfl hr.units) z59 rfl T.sorted boot_sorted (z01 (QE.wk (zn4 (z24 (caps:=[]) (ix:=[]) rfl rfl) (by decide +kernel) rfl rfl (z95 (qv 0)) (.one fun _ _ _=>(z3s (zbg hr.units) zbh (qv 1) z04 (z1q _))) (fun _ _ _=>(z4n (z01 (qv 0) (z01 (qv 1) z06)))))) z06))))
theorem z7x {P:Program} {w:World} {K:Frag} {mg:Str->Option Value} {base:Heap} {f:Addr} {fd:FuncData} (F:Fun K "add_product" "add_product" z1m f fd) (T:Txt mg) {c_FloorError c_NoLine c_NoQuotient c_TooMany:Addr} (Z:Exs K mg c_FloorError c_NoLine c_NoQuotient c_TooMany)  : FnOk P w K mg base (CX1 P w) 1 f fd ["found","terms","powers","times"] (spU K z1l 4):=
 fnU (k:=0) F sc_add_product rfl rfl fun cdv A outer s H E hr=>
  (zll (zx0 PassesOwn.leaving rfl (zbn (qv 1)) (zze (by decide) rfl (z2o (i:=4) sc_add_product.nd rfl (Or.inl rfl) (z2o (i:=5) sc_add_product.nd rfl (Or.inl rfl) z88)))
    (zoa (zwz (i:=6) (by decide) sc_add_product.nd rfl (Or.inl rfl) (z7s z6b z6c rfl T.tuple boot_tuple (z01 (QE.wk (zn4 (z24 (caps:=[]) (ix:=[]) rfl rfl) (by decide +kernel) rfl rfl (zha rfl T.zip (z01 (qv 4) (z01 (qv 2) z06))) .nil (fun _ _ _=>(z0e z3r z14 (qv 0) (qv 1))))) z06)))
   (zll (zt7 hr.units (pw 0) (qv 6) (z0e z3r z14 (zd7 hr.units (qv 0) (qv 6) z04) (z0e zli zgx (qv 5) (qv 3))))))))
theorem z79 {P:Program} {w:World} {K:Frag} {mg:Str->Option Value} {base:Heap} {f:Addr} {fd:FuncData} (F:Fun K "term_between" "term_between" z1a f fd) (T:Txt mg) {c_FloorError c_NoLine c_NoQuotient c_TooMany:Addr} (Z:Exs K mg c_FloorError c_NoLine c_NoQuotient c_TooMany)  : FnOk P w K mg base (CX1 P w) 1 f fd ["one","other"] (spD K mg false z0q 2):=
 fnD (k:=0) F z78 rfl rfl fun cdv A outer s H E hr=>
  (z07 (z9n (z3s (zbg hr.units) zbh (z0e zhj zc3 (z7r (z7q hr.units) z3c (qv 0) z04) (z7r (z7q hr.units) z3c (qv 1) z04)) z04 (z1q _))
    (z0x (zbs (c:="NoQuotient") z5n PySem.F.excBase_ValueError rfl rfl Z.a_NoQuotient Z.q_NoQuotient (z01 zn1 z06)))
    z41)
   (z0x (z26 (z4n (z01 (z7s z6b z6c rfl T.tuple boot_tuple (z01 (QE.wk (zn4 (z24 (caps:=[]) (ix:=[]) rfl rfl) (by decide +kernel) rfl rfl (zha rfl T.zip (z01 (z7r (z7q hr.units) z3c (qv 0) z04) (z01 (z7r (z7q hr.units) z3c (qv 1) z04) z06))) .nil (fun _ _ _=>(z0e z7l z4q (qv 0) (qv 1))))) z06)) (z01 (z0e zlr zhi (z7r (z7q hr.units) z3c (qv 0) z04) (z7r (z7q hr.units) z3c (qv 1) z04)) z06))))))
theorem z9d {P:Program} {w:World} {K:Frag} {mg:Str->Option Value} {base:Heap} {f:Addr} {fd:FuncData} (F:Fun K "_law_drawn" "_law_drawn" z20 f fd) (T:Txt mg) {c_FloorError c_NoLine c_NoQuotient c_TooMany:Addr} (Z:Exs K mg c_FloorError c_NoLine c_NoQuotient c_TooMany)  : FnOk P w K mg base (CX1 P w) 1 f fd ["_law_script","_law_at"] (spD K mg false z0y 2):=
 fnD (k:=0) F z9b rfl rfl fun cdv A outer s H E hr=>
  (z0x (z26 (zeb (zv3 rfl) zr1 rfl T.sum boot_sum (z01 (QE.wk (zvx zb6 zbm (qv 0) (zpc (qv 1)) (zpc (z0e z3r z14 (qv 1) z04)))) z06))))
theorem z5w {P:Program} {w:World} {K:Frag} {mg:Str->Option Value} {base:Heap} {f:Addr} {fd:FuncData} (F:Fun K "_law_is_number" "_law_is_number" z0v f fd) (T:Txt mg) {c_FloorError c_NoLine c_NoQuotient c_TooMany:Addr} (Z:Exs K mg c_FloorError c_NoLine c_NoQuotient c_TooMany)  : FnOk P w K mg base (CX1 P w) 1 f fd ["_law_found"] (spD K mg false z0o 1):=
 fnD (k:=0) F z5v rfl rfl fun cdv A outer s H E hr=>
  (z0x (z26 (zvq (zkt (zg7 rfl T.isinstance boot_isinstance (qv 0) (z5i (v:=.ty "bool") rfl T.bool boot_bool rfl))) (zvr (zg7 rfl T.isinstance boot_isinstance (qv 0) (z5i (v:=.ty "int") rfl T.int boot_int rfl))))))
theorem z7y {P:Program} {w:World} {K:Frag} {mg:Str->Option Value} {base:Heap} {f:Addr} {fd:FuncData} (F:Fun K "_law_powers" "_law_powers" z1n f fd) (T:Txt mg) {c_FloorError c_NoLine c_NoQuotient c_TooMany:Addr} (Z:Exs K mg c_FloorError c_NoLine c_NoQuotient c_TooMany)  : FnOk P w K mg base (CX1 P w) 1 f fd ["_law_cell","_law_many","_law_wide"] (spD K mg false z0z 3):=
 fnD (k:=0) F sc__law_powers rfl rfl fun cdv A outer s H E hr=>
  (z07 (z1g (i:=3) sc__law_powers.nd rfl (Or.inl rfl) (z0e z4l z2u (qv 0) z04))
   (z07 (z1g (i:=4) sc__law_powers.nd rfl (Or.inl rfl) (z4u z06))
   (z07 (zbo PassesOwn.leaving rfl (zz3 rfl T.range (z01 (qv 1) z06)) (g_n (i:=5) sc__law_powers.nd rfl (Or.inl rfl))
    (z07 (z1g (i:=3) sc__law_powers.nd rfl (Or.inl rfl) (z0e z4l z2u (z0e z3r z14 (z0e z3r z14 (z0e z3r z14 (z0e zfj za8 (qv 3) (qv 3)) (z0e zfj za8 z04 (qv 3))) (z0e zfj za8 (qv 5) (qv 5))) z04) z04))
   (z0x (zn6 PySem.F.plainAttrs_list PySem.F.slot_list_append PySem.F.type_list_append z4z zgb zbp (pw 4) (z01 (z0e z7l z4q (z0e z4l z2u (z0e z4p z4r (qv 3) z04) (z0e z3r z14 (z0e zfj za8 z04 (qv 2)) z04)) (qv 2)) z06)))))
   (z0x (z26 (z7s z6b z6c rfl T.tuple boot_tuple (z01 (qv 4) z06)))))))
theorem z9e {P:Program} {w:World} {K:Frag} {mg:Str->Option Value} {base:Heap} {f:Addr} {fd:FuncData} (F:Fun K "_law_times" "_law_times" z21 f fd) (T:Txt mg) {c_FloorError c_NoLine c_NoQuotient c_TooMany:Addr} (Z:Exs K mg c_FloorError c_NoLine c_NoQuotient c_TooMany)  : FnOk P w K mg base (CX1 P w) 1 f fd ["_law_cell"] (spD K mg false z1y 1):=
 fnD (k:=0) F z9c rfl rfl fun cdv A outer s H E hr=>
  (z07 (z9n (z3s (z7o hr.units) z7p (z0e z4l z2u (qv 0) z04) z04 (z1q _))
    (z0x (z26 (z0e z7l z4q (z0e z3r z14 (z0e z4l z2u (z0e z4p z4r (qv 0) z04) (z0e z7l z4q (z0e zfj za8 z04 (z0e zq1 zkp z04 z04)) z04)) z04) (z0e zq1 zkp z04 z04))))
    z41)
   (z0x (z26 (z0e z7l z4q (z0e z4l z2u (z0e z4p z4r (qv 0) z04) z04) z04))))
theorem z7a {P:Program} {w:World} {K:Frag} {mg:Str->Option Value} {base:Heap} {f:Addr} {fd:FuncData} (F:Fun K "_law_product" "_law_product" z1b f fd) (T:Txt mg) {c_FloorError c_NoLine c_NoQuotient c_TooMany:Addr} (Z:Exs K mg c_FloorError c_NoLine c_NoQuotient c_TooMany)  : FnOk P w K mg base (CX1 P w) 1 f fd ["_law_one","_law_other"] (spD K mg true z10 2):=
 fnD (k:=0) F sc__law_product rfl rfl fun cdv A outer s H E hr=>
  (z07 (z1g (i:=2) sc__law_product.nd rfl (Or.inl rfl) zgw)
   (z07 (zbo PassesOwn.leaving rfl (zbn (qv 0)) (g_t rfl (z2o (i:=3) sc__law_product.nd rfl (Or.inl rfl) (z2o (i:=4) sc__law_product.nd rfl (Or.inl rfl) z88)))
    (z0x (zbo PassesOwn.leaving rfl (zbn (qv 1)) (g_t rfl (z2o (i:=5) sc__law_product.nd rfl (Or.inl rfl) (z2o (i:=6) sc__law_product.nd rfl (Or.inl rfl) z88)))
    (z07 (z1g (i:=7) sc__law_product.nd rfl (Or.inl rfl) (z7s z6b z6c rfl T.tuple boot_tuple (z01 (QE.wk (zn4 (z24 (caps:=[]) (ix:=[]) rfl rfl) (by decide +kernel) rfl rfl (zha rfl T.zip (z01 (qv 3) (z01 (qv 5) z06))) .nil (fun _ _ _=>(z0e z3r z14 (qv 0) (qv 1))))) z06)))
   (z0x (zd3 hr.units (pw 2) (qv 7) (z0e z3r z14 (zd7 hr.units (qv 2) (qv 7) z04) (z0e zli zgx (qv 4) (qv 6)))))))))
   (z0x (z26 (zeb (z74 rfl hr.units) z59 rfl T.sorted boot_sorted (z01 (QE.wk (zn4 (z24 (caps:=[]) (ix:=[]) rfl rfl) (by decide +kernel) rfl rfl (z95 (qv 2)) (.one fun _ _ _=>(z3s (zbg hr.units) zbh (qv 1) z04 (z1q _))) (fun _ _ _=>(z4n (z01 (qv 0) (z01 (qv 1) z06)))))) z06))))))
theorem zoi {P:Program} {w:World} {K:Frag} {mg:Str->Option Value} {base:Heap} {f:Addr} {fd:FuncData} (F:Fun K "plus" "plus" z8i f fd) (T:Txt mg) {c_FloorError c_NoLine c_NoQuotient c_TooMany:Addr} (Z:Exs K mg c_FloorError c_NoLine c_NoQuotient c_TooMany) (G_sum_from:z35 P w K mg base "sum_from" ["found"] 1 (spD K mg true z0u 1)):FnOk P w K mg base (CX1 P w) 2 f fd ["one","other"] (spD K mg true z75 2):=
 fnD (k:=1) F sc_plus rfl rfl fun cdv A outer s H E hr=>
  (z07 (z1g (i:=2) sc_plus.nd rfl (Or.inl rfl) (z7s (zh8 rfl hr.units) zda rfl T.dict boot_dict (z01 (qv 0) z06)))
   (z07 (zbo PassesOwn.leaving rfl (zbn (qv 1)) (g_t rfl (z2o (i:=3) sc_plus.nd rfl (Or.inl rfl) (z2o (i:=4) sc_plus.nd rfl (Or.inl rfl) z88)))
    (z0x (zd3 hr.units (pw 2) (qv 3) (z0e z3r z14 (zd7 hr.units (qv 2) (qv 3) z04) (qv 4)))))
   (z0x (z26 (z2n z5n G_sum_from hr rfl (z01 (qv 2) z06))))))
theorem zes {P:Program} {w:World} {K:Frag} {mg:Str->Option Value} {base:Heap} {f:Addr} {fd:FuncData} (F:Fun K "product" "product" z3n f fd) (T:Txt mg) {c_FloorError c_NoLine c_NoQuotient c_TooMany:Addr} (Z:Exs K mg c_FloorError c_NoLine c_NoQuotient c_TooMany) (G_add_product:z35 P w K mg base "add_product" ["found","terms","powers","times"] 1 (spU K z1l 4)) (G_sum_from:z35 P w K mg base "sum_from" ["found"] 1 (spD K mg true z0u 1)):FnOk P w K mg base (CX1 P w) 2 f fd ["one","other"] (spD K mg true z32 2):=
 fnD (k:=1) F sc_product rfl rfl fun cdv A outer s H E hr=>
  (z07 (z1g (i:=2) sc_product.nd rfl (Or.inl rfl) zgw)
   (z07 (zbo PassesOwn.leaving rfl (zbn (qv 0)) (g_t rfl (z2o (i:=3) sc_product.nd rfl (Or.inl rfl) (z2o (i:=4) sc_product.nd rfl (Or.inl rfl) z88)))
    (z0x (zx3 (i:=2) G_add_product hr rfl (pw 2) (z01 (qv 1) (z01 (qv 3) (z01 (qv 4) z06))))))
   (z0x (z26 (z2n z5n G_sum_from hr rfl (z01 (qv 2) z06))))))
theorem zc6 {P:Program} {w:World} {K:Frag} {mg:Str->Option Value} {base:Heap} {f:Addr} {fd:FuncData} (F:Fun K "_law_sum" "_law_sum" z2z f fd) (T:Txt mg) {c_FloorError c_NoLine c_NoQuotient c_TooMany:Addr} (Z:Exs K mg c_FloorError c_NoLine c_NoQuotient c_TooMany) (G__law_powers:z35 P w K mg base "_law_powers" ["_law_cell","_law_many","_law_wide"] 1 (spD K mg false z0z 3)) (G__law_times:z35 P w K mg base "_law_times" ["_law_cell"] 1 (spD K mg false z1y 1)):FnOk P w K mg base (CX1 P w) 2 f fd ["_law_cells","_law_many"] (spD K mg true z2g 2):=
 fnD (k:=1) F sc__law_sum rfl rfl fun cdv A outer s H E hr=>
  (z07 (z1g (i:=2) sc__law_sum.nd rfl (Or.inl rfl) zgw)
   (z07 (zbo PassesOwn.leaving rfl (zz5 rfl T.enumerate (z01 (qv 0) z06)) (g_t rfl (z2o (i:=3) sc__law_sum.nd rfl (Or.inl rfl) (z2o (i:=4) sc__law_sum.nd rfl (Or.inl rfl) z88)))
    (z0x (zd3 hr.units (pw 2) (z2n z5n G__law_powers hr rfl (z01 (z0e z3r z14 (qv 4) (qv 3)) (z01 (qv 1) (z01 z04 z06)))) (z2n z5n G__law_times hr rfl (z01 (qv 4) z06)))))
   (z0x (z26 (zeb (z74 rfl hr.units) z59 rfl T.sorted boot_sorted (z01 (QE.wk (zn4 (z24 (caps:=[]) (ix:=[]) rfl rfl) (by decide +kernel) rfl rfl (z95 (qv 2)) (.one fun _ _ _=>(z3s (zbg hr.units) zbh (qv 1) z04 (z1q _))) (fun _ _ _=>(z4n (z01 (qv 0) (z01 (qv 1) z06)))))) z06))))))
theorem z9f {P:Program} {w:World} {K:Frag} {mg:Str->Option Value} {base:Heap} {f:Addr} {fd:FuncData} (F:Fun K "_law_kinds" "_law_kinds" z22 f fd) (T:Txt mg) {c_FloorError c_NoLine c_NoQuotient c_TooMany:Addr} (Z:Exs K mg c_FloorError c_NoLine c_NoQuotient c_TooMany) (G__law_is_number:z35 P w K mg base "_law_is_number" ["_law_found"] 1 (spD K mg false z0o 1)):FnOk P w K mg base (CX1 P w) 2 f fd ["_law_found"] (spD K mg false z1z 1):=
 fnD (k:=1) F sc__law_kinds rfl rfl fun cdv A outer s H E hr=>
  (z07 (z9n (zbk (zaa (zg7 rfl T.isinstance boot_isinstance (qv 0) (z5i (v:=.ty "list") rfl T.list boot_list rfl))))
    (z0x (z26 zcu))
    z41)
   (z07 (zbo PassesOwn.leaving rfl (zbn (qv 0)) (g_n (i:=1) sc__law_kinds.nd rfl (Or.inl rfl))
    (z07 (z9n (QW.pt (zvt (zbk (zaa (zg7 rfl T.isinstance boot_isinstance (qv 1) (z5i (v:=.ty "tuple") rfl T.tuple boot_tuple rfl)))) (zvt (z3s (zbg hr.units) zbh (zeb z86 z87 rfl T.len PySem.boot_len (z01 (qv 1) z06)) z04 (z1q _)) (zqy (zbk (zaa (z2n z5n G__law_is_number hr rfl (z01 (z7r (z7q hr.units) z3c (qv 1) z04) z06))))))))
    (z0x (z26 zcu))
    z41)
   (z07 (z9n (zbk (zaa (zg7 rfl T.isinstance boot_isinstance (z7r (z7q hr.units) z3c (qv 1) z04) (z5i (v:=.ty "tuple") rfl T.tuple boot_tuple rfl))))
    (z0x (z26 zcu))
    z41)
   (z0x (z9n (zaa (zeb (zv4 rfl) zr2 rfl T.«any» boot_any (z01 (QE.wk (zy9 (z24 (caps:=[]) (ix:=[]) rfl rfl) (by decide +kernel) rfl (zbn (z7r (z7q hr.units) z3c (qv 1) z04)) .nil (fun _ _ _=>(zkt (z2n zy4 G__law_is_number hr rfl (z01 (qv 0) z06)))))) z06)))
    (z0x (z26 zcu))
    z41)))))
   (z0x (z26 zcu))))
theorem zc7 {P:Program} {w:World} {K:Frag} {mg:Str->Option Value} {base:Heap} {f:Addr} {fd:FuncData} (F:Fun K "quotient" "quotient" z2y f fd) (T:Txt mg) {c_FloorError c_NoLine c_NoQuotient c_TooMany:Addr} (Z:Exs K mg c_FloorError c_NoLine c_NoQuotient c_TooMany) (G_plus:z35 P w K mg base "plus" ["one","other"] 2 (spD K mg true z75 2)) (G_product:z35 P w K mg base "product" ["one","other"] 2 (spD K mg true z32 2)) (G_term_between:z35 P w K mg base "term_between" ["one","other"] 1 (spD K mg false z0q 2)):FnOk P w K mg base (CX1 P w) 3 f fd ["one","other"] (spD K mg true z0l 2):=
 fnD (k:=2) F sc_quotient rfl rfl fun cdv A outer s H E hr=>
  (z07 (z9n (z3s (z7o hr.units) z7p (zeb z86 z87 rfl T.len PySem.boot_len (z01 (qv 1) z06)) z04 (z1q _))
    (z0x (zbs (c:="NoQuotient") z5n PySem.F.excBase_ValueError rfl rfl Z.a_NoQuotient Z.q_NoQuotient (z01 zn1 z06)))
    z41)
   (z07 (z1g (i:=2) sc_quotient.nd rfl (Or.inl rfl) (qv 0))
   (z07 (z1g (i:=3) sc_quotient.nd rfl (Or.inl rfl) (z4u z06))
   (z07 (zn5 (n:=200000) PassesOwn.leaving (z3s zxy zkr (zeb z86 z87 rfl T.len PySem.boot_len (z01 (qv 2) z06)) z04 (z1q _))
    (z07 (z9n (z3s (z7o hr.units) z7p (zeb z86 z87 rfl T.len PySem.boot_len (z01 (qv 3) z06)) z04 (z1q _))
    (z0x (zbs (c:="NoQuotient") z5n PySem.F.excBase_ValueError rfl rfl Z.a_NoQuotient Z.q_NoQuotient (z01 zn1 z06)))
    z41)
   (z07 (z1g (i:=4) sc_quotient.nd rfl (Or.inl rfl) (z2n z5n G_term_between hr rfl (z01 (z7r (z7q hr.units) z3c (qv 2) (zqv zfk za9 z04)) (z01 (z7r (z7q hr.units) z3c (qv 1) (zqv zfk za9 z04)) z06))))
   (z07 (zn6 PySem.F.plainAttrs_list PySem.F.slot_list_append PySem.F.type_list_append z4z zgb zbp (pw 3) (z01 (qv 4) z06))
   (z0x (z1g (i:=2) sc_quotient.nd rfl (Or.inl rfl) (z2n z5n G_plus hr rfl (z01 (qv 2) (z01 (QE.wk (z2n z5n G_product hr rfl (z01 (qv 1) (z01 (QE.wk (z4u (z01 (z4n (z01 (z7r (z7q hr.units) z3c (qv 4) z04) (z01 (zqv zfk za9 (z7r (z7q hr.units) z3c (qv 4) z04)) z06))) z06))) z06)))) z06)))))))))
   (z0x (z26 (zeb (z74 rfl hr.units) z59 rfl T.sorted boot_sorted (z01 (qv 3) z06))))))))
theorem z7b {P:Program} {w:World} {K:Frag} {mg:Str->Option Value} {base:Heap} {f:Addr} {fd:FuncData} (F:Fun K "_law_refused" "_law_refused" z1c f fd) (T:Txt mg) {c_FloorError c_NoLine c_NoQuotient c_TooMany:Addr} (Z:Exs K mg c_FloorError c_NoLine c_NoQuotient c_TooMany) (G_quotient:z35 P w K mg base "quotient" ["one","other"] 3 (spD K mg true z0l 2)):FnOk P w K mg base (CX1 P w) 4 f fd ["_law_one","_law_other"] (spD K mg false z09 2):=
 fnD (k:=3) F sc__law_refused rfl rfl fun cdv A outer s H E hr=>
  (z07 (z1g (i:=2) sc__law_refused.nd rfl (Or.inl rfl) (z4u z06))
   (z07 (zvy rfl rfl (zr8 (k:=knX) Z.kn G_quotient hr rfl (z01 (qv 0) (z01 (qv 1) z06)))
    (zz6 (tb:=z28) (i:=3) Z.t_FloorError (by decide) rfl sc__law_refused.nd rfl rfl (fun _=>(z0x (z1g (i:=2) sc__law_refused.nd rfl (Or.inl rfl) (z4u (z01 (zjc (tb:=z2a) rfl T.isinstance boot_isinstance (qv 3) (z5i (v:=.ty "ValueError") rfl T.ValueError PyProof.Rows.Boot.«ValueError» rfl) (.inr ⟨_,rfl,rfl⟩) Z.b_ValueError) (z01 (zjc (tb:=z29) rfl T.isinstance boot_isinstance (qv 3) (zb1 (v:=.ref c_NoQuotient) rfl Z.a_NoQuotient rfl) (.inl ⟨_,rfl,rfl⟩) Z.b_NoQuotient) (z01 (zjc (tb:=z44) rfl T.isinstance boot_isinstance (qv 3) (zb1 (v:=.ref c_NoLine) rfl Z.a_NoLine rfl) (.inl ⟨_,rfl,rfl⟩) Z.b_NoLine) (z01 (zjc (tb:=z3m) rfl T.isinstance boot_isinstance (qv 3) (zb1 (v:=.ref c_TooMany) rfl Z.a_TooMany rfl) (.inl ⟨_,rfl,rfl⟩) Z.b_TooMany) z06)))))))) zvz))
   (z0x (z26 (zqw (z7o hr.units) z7p (qv 2) (QE.wk (z4u (z01 zcu (z01 zcu (z01 zcu (z01 zcu z06)))))) (z1q _))))))
theorem zam {P:Program} {w:World} {K:Frag} {mg:Str->Option Value} {base:Heap} {f:Addr} {fd:FuncData} (F:Fun K "_law_told" "_law_told" z2h f fd) (T:Txt mg) {c_FloorError c_NoLine c_NoQuotient c_TooMany:Addr} (Z:Exs K mg c_FloorError c_NoLine c_NoQuotient c_TooMany) (G__law_kinds:z35 P w K mg base "_law_kinds" ["_law_found"] 2 (spD K mg false z1z 1)) (G_quotient:z35 P w K mg base "quotient" ["one","other"] 3 (spD K mg true z0l 2)):FnOk P w K mg base (CX1 P w) 4 f fd ["_law_one","_law_other","_law_due"] (spD K mg false z0t 3):=
 fnD (k:=3) F sc__law_told rfl rfl fun cdv A outer s H E hr=>
  (z07 (z1g (i:=3) sc__law_told.nd rfl (Or.inl rfl) (z4u (z01 (QE.wk (z7s z8y z8z rfl T.list boot_list (z01 (qv 0) z06))) (z01 (QE.wk (z7s z8y z8z rfl T.list boot_list (z01 (qv 1) z06))) z06))))
   (z07 (z1g (i:=4) sc__law_told.nd rfl (Or.inl rfl) (z2n z5n G_quotient hr rfl (z01 (z7r (z7q hr.units) z3c (qv 3) z04) (z01 (z7r (z7q hr.units) z3c (qv 3) z04) z06))))
   (z07 (z9n (QW.pt (zvt (zbk (zaa (z2n z5n G__law_kinds hr rfl (z01 (qv 4) z06)))) (zqy (z3s (zbg hr.units) zbh (qv 4) (qv 2) (z1q _)))))
    (z0x (z26 zcu))
    z41)
   (z07 (zn6 PySem.F.plainAttrs_list PySem.F.slot_list_append PySem.F.type_list_append z4z zgb zbp (pw 4) (z01 z04 z06))
   (z0x (z26 (zqw (z7o hr.units) z7p (qv 3) (QE.wk (z4u (z01 (qv 0) (z01 (qv 1) z06)))) (z1q _))))))))
theorem z4a {P:Program} {w:World} {K:Frag} {mg:Str->Option Value} {base:Heap} {f:Addr} {fd:FuncData} (F:Fun K "_law_row_of_powers" "_law_row_of_powers" z0j f fd) (T:Txt mg) {c_FloorError c_NoLine c_NoQuotient c_TooMany:Addr} (Z:Exs K mg c_FloorError c_NoLine c_NoQuotient c_TooMany) (G__law_refused:z35 P w K mg base "_law_refused" ["_law_one","_law_other"] 4 (spD K mg false z09 2)) (G__law_told:z35 P w K mg base "_law_told" ["_law_one","_law_other","_law_due"] 4 (spD K mg false z0t 3)):FnOk P w K mg base (CX1 P w) 5 f fd ["_law_cell"] (spD K mg false z0i 1):=
 fnD (k:=4) F sc__law_row_of_powers rfl rfl fun cdv A outer s H E hr=>
  (z07 (z1g (i:=1) sc__law_row_of_powers.nd rfl (Or.inl rfl) (z0e z7l z4q (z0e z4l z2u (z0e z4p z4r (qv 0) z04) z04) z04))
   (z07 (z1g (i:=2) sc__law_row_of_powers.nd rfl (Or.inl rfl) (z0e z7l z4q (qv 1) (z0e z4l z2u (z0e z4p z4r (qv 0) z04) (z0e z3r z14 (qv 1) z04))))
   (z07 (z9n (z3s zxx zkq (z0e z4l z2u (qv 0) z04) z04 (z1q _))
    (z07 (z1g (i:=1) sc__law_row_of_powers.nd rfl (Or.inl rfl) (z0e z3r z14 z04 (z0e z4l z2u (z0e z4p z4r (qv 0) z04) z04)))
   (z0x (z1g (i:=2) sc__law_row_of_powers.nd rfl (Or.inl rfl) (z0e z7l z4q (z0e z7l z4q (qv 1) z04) (z0e z4l z2u (qv 0) z04)))))
    z41)
   (z07 (z1g (i:=3) sc__law_row_of_powers.nd rfl (Or.inl rfl) (z4u z06))
   (z07 (z9n (z3s zxx zkq (qv 2) (qv 1) (z1q _))
    (z0x (z1g (i:=3) sc__law_row_of_powers.nd rfl (Or.inl rfl) (z4u (z01 (z4n (z01 (z4n (z01 (qv 2) z06)) (z01 (zqv zfk za9 z04) z06))) (z01 (z4n (z01 (z4n (z01 (qv 1) z06)) (z01 z04 z06))) z06)))))
    z41)
   (z07 (z1g (i:=4) sc__law_row_of_powers.nd rfl (Or.inl rfl) (z4u (z01 (z4n (z01 (z4n (z01 z04 z06)) (z01 (zqv zfk za9 z04) z06))) (z01 (z4n (z01 (z4n (z01 z04 z06)) (z01 z04 z06))) z06))))
   (z07 (z9n (z3s zxy zkr (z0e z7l z4q (qv 1) (qv 2)) z04 (z1q _))
    (z0x (z26 (z2n z5n G__law_refused hr rfl (z01 (qv 3) (z01 (qv 4) z06)))))
    z41)
   (z0x (z26 (z2n z5n G__law_told hr rfl (z01 (qv 3) (z01 (qv 4) (z01 (QE.wk (zy9 (z24 (caps:=[]) (ix:=[]) rfl rfl) (by decide +kernel) rfl (zz4 rfl T.range (z01 (qv 2) (z01 (qv 1) z06))) .nil (fun _ _ _=>(z4n (z01 (z4n (z01 (qv 0) z06)) (z01 z04 z06)))))) z06)))))))))))))
theorem z7c {P:Program} {w:World} {K:Frag} {mg:Str->Option Value} {base:Heap} {f:Addr} {fd:FuncData} (F:Fun K "_law_spoiled" "_law_spoiled" z1d f fd) (T:Txt mg) {c_FloorError c_NoLine c_NoQuotient c_TooMany:Addr} (Z:Exs K mg c_FloorError c_NoLine c_NoQuotient c_TooMany) (G__law_powers:z35 P w K mg base "_law_powers" ["_law_cell","_law_many","_law_wide"] 1 (spD K mg false z0z 3)) (G__law_refused:z35 P w K mg base "_law_refused" ["_law_one","_law_other"] 4 (spD K mg false z09 2)):FnOk P w K mg base (CX1 P w) 5 f fd ["_law_one","_law_other","_law_cell"] (spD K mg false z11 3):=
 fnD (k:=4) F sc__law_spoiled rfl rfl fun cdv A outer s H E hr=>
  (z07 (z1g (i:=3) sc__law_spoiled.nd rfl (Or.inl rfl) (zeb z86 z87 rfl T.len PySem.boot_len (z01 (z7r (z7q hr.units) z3c (z7r (z7q hr.units) z3c (qv 1) z04) z04) z06)))
   (z07 (z1g (i:=4) sc__law_spoiled.nd rfl (Or.inl rfl) (z2n z5n G__law_powers hr rfl (z01 (qv 2) (z01 (qv 3) (z01 z04 z06)))))
   (z07 (z1g (i:=5) sc__law_spoiled.nd rfl (Or.inl rfl) (z0e z3r z14 z04 (z0e zhj zc3 (z0e zlr zhi (qv 2) z04) z04)))
   (z07 (z9n (QW.pt (zvs (z3s (z7o hr.units) z7p (zeb z86 z87 rfl T.len PySem.boot_len (z01 (qv 1) z06)) z04 (z1q _)) (zqx (z3s (z7o hr.units) z7p (z0e zhj zc3 (qv 5) (z7r (z7q hr.units) z3c (z7r (z7q hr.units) z3c (qv 1) z04) z04)) z04 (z1q _)))))
    (z0x (z26 zcu))
    z41)
   (z07 (z1g (i:=6) sc__law_spoiled.nd rfl (Or.inl rfl) (z7s (zh8 rfl hr.units) zda rfl T.dict boot_dict (z01 (qv 0) z06)))
   (z07 (zd3 hr.units (pw 6) (qv 4) (z0e z3r z14 (zd7 hr.units (qv 6) (qv 4) z04) (qv 5)))
   (z07 (z1g (i:=7) sc__law_spoiled.nd rfl (Or.inl rfl) (zeb (z74 rfl hr.units) z59 rfl T.sorted boot_sorted (z01 (QE.wk (zn4 (z24 (caps:=[]) (ix:=[]) rfl rfl) (by decide +kernel) rfl rfl (z95 (qv 6)) (.one fun _ _ _=>(z3s (zbg hr.units) zbh (qv 1) z04 (z1q _))) (fun _ _ _=>(z4n (z01 (qv 0) (z01 (qv 1) z06)))))) z06)))
   (z0x (z26 (z2n z5n G__law_refused hr rfl (z01 (qv 7) (z01 (QE.wk (z7s z8y z8z rfl T.list boot_list (z01 (qv 1) z06))) z06))))))))))))
theorem zti {P:Program} {w:World} {K:Frag} {mg:Str->Option Value} {base:Heap} {f:Addr} {fd:FuncData} (F:Fun K "law" "law" z9a f fd) (T:Txt mg) {c_FloorError c_NoLine c_NoQuotient c_TooMany:Addr} (Z:Exs K mg c_FloorError c_NoLine c_NoQuotient c_TooMany) (G__law_drawn:z35 P w K mg base "_law_drawn" ["_law_script","_law_at"] 1 (spD K mg false z0y 2)) (G__law_product:z35 P w K mg base "_law_product" ["_law_one","_law_other"] 1 (spD K mg true z10 2)) (G__law_refused:z35 P w K mg base "_law_refused" ["_law_one","_law_other"] 4 (spD K mg false z09 2)) (G__law_row_of_powers:z35 P w K mg base "_law_row_of_powers" ["_law_cell"] 5 (spD K mg false z0i 1)) (G__law_spoiled:z35 P w K mg base "_law_spoiled" ["_law_one","_law_other","_law_cell"] 5 (spD K mg false z11 3)) (G__law_sum:z35 P w K mg base "_law_sum" ["_law_cells","_law_many"] 2 (spD K mg true z2g 2)) (G__law_told:z35 P w K mg base "_law_told" ["_law_one","_law_other","_law_due"] 4 (spD K mg false z0t 3)):FnOk P w K mg base (CX1 P w) 6 f fd ["_law_script"] (spD K mg false zer 1):=
 fnD (k:=5) F sc_law rfl rfl fun cdv A outer s H E hr=>
  (z07 (z9n (zbk (zaa (z2n z5n G__law_row_of_powers hr rfl (z01 (z2n z5n G__law_drawn hr rfl (z01 (qv 0) (z01 z04 z06))) z06))))
    (z0x (z26 zcu))
    z41)
   (z07 (z1g (i:=1) sc_law.nd rfl (Or.inl rfl) (z2n z5n G__law_drawn hr rfl (z01 (qv 0) (z01 z04 z06))))
   (z07 (z1g (i:=2) sc_law.nd rfl (Or.inl rfl) (z0e z3r z14 z04 (z0e z4l z2u (qv 1) z04)))
   (z07 (z1g (i:=3) sc_law.nd rfl (Or.inl rfl) (z4u (z01 (z0e z4l z2u (z0e z4p z4r (qv 1) z04) z04) (z01 (z0e z4l z2u (z0e z4p z4r (qv 1) z04) z04) z06))))
   (z07 (z9n (z3s (z7o hr.units) z7p (z0e z4l z2u (z0e z4p z4r (qv 1) z04) z04) z04 (z1q _))
    (z0x (z1g (i:=3) sc_law.nd rfl (Or.inl rfl) (z4u (z01 z04 (z01 z04 z06)))))
    z41)
   (z07 (z1g (i:=4) sc_law.nd rfl (Or.inl rfl) (z2n z5n G__law_sum hr rfl (z01 (QE.wk (zvx zb6 zbm (qv 0) (zpc z04) (zpc (z0e z3r z14 z04 (z7r (z7q hr.units) z3c (qv 3) z04))))) (z01 (qv 2) z06))))
   (z07 (z1g (i:=5) sc_law.nd rfl (Or.inl rfl) (z2n z5n G__law_sum hr rfl (z01 (QE.wk (zvx zb6 zbm (qv 0) (zpc z04) (zpc (z0e z3r z14 z04 (z7r (z7q hr.units) z3c (qv 3) z04))))) (z01 (qv 2) z06))))
   (z07 (z9n (z3s (z7o hr.units) z7p (qv 5) (QE.wk (z4u z06)) (z1q _))
    (z0x (z26 (z2n z5n G__law_refused hr rfl (z01 (QE.wk (z7s z8y z8z rfl T.list boot_list (z01 (qv 4) z06))) (z01 (QE.wk (z4u z06)) z06)))))
    z41)
   (z07 (z1g (i:=6) sc_law.nd rfl (Or.inl rfl) (z2n z5n G__law_product hr rfl (z01 (qv 4) (z01 (qv 5) z06))))
   (z07 (z9n (zbk (zaa (z2n z5n G__law_told hr rfl (z01 (qv 6) (z01 (qv 5) (z01 (qv 4) z06))))))
    (z0x (z26 zcu))
    z41)
   (z07 (z9n (z3s (z7o hr.units) z7p (z0e z4l z2u (z0e z4p z4r (qv 1) z04) z04) z04 (z1q _))
    (z0x (z26 (z2n z5n G__law_spoiled hr rfl (z01 (qv 6) (z01 (qv 5) (z01 (z2n z5n G__law_drawn hr rfl (z01 (qv 0) (z01 z04 z06))) z06))))))
    z41)
   (z0x (z26 zcu)))))))))))))
theorem zhl {us:List Value} (h:us.length=1):∃a0,us=[a0]:=by
 rcases us with _ | ⟨a0,us⟩
 . cases h
 cases us with
 | nil=>exact ⟨a0,rfl⟩
 | cons _ _=>simp at h
theorem zan {us:List Value} (h:us.length=2):∃a0 a1,us=[a0,a1]:=by
 rcases us with _ | ⟨a0,us⟩
 . cases h
 rcases us with _ | ⟨a1,us⟩
 . cases h
 cases us with
 | nil=>exact ⟨a0,a1,rfl⟩
 | cons _ _=>simp at h
theorem zoj {us:List Value} (h:us.length=3):∃a0 a1 a2,us=[a0,a1,a2]:=by
 rcases us with _ | ⟨a0,us⟩
 . cases h
 rcases us with _ | ⟨a1,us⟩
 . cases h
 rcases us with _ | ⟨a2,us⟩
 . cases h
 cases us with
 | nil=>exact ⟨a0,a1,a2,rfl⟩
 | cons _ _=>simp at h
theorem zx9 {us:List Value} (h:us.length=4):∃a0 a1 a2 a3,us=[a0,a1,a2,a3]:=by
 rcases us with _ | ⟨a0,us⟩
 . cases h
 rcases us with _ | ⟨a1,us⟩
 . cases h
 rcases us with _ | ⟨a2,us⟩
 . cases h
 rcases us with _ | ⟨a3,us⟩
 . cases h
 cases us with
 | nil=>exact ⟨a0,a1,a2,a3,rfl⟩
 | cons _ _=>simp at h
theorem all_mk {l:PySem.W.OpenLaw} {w:World} {K:Frag} {h:Heap} {mg:Str->Option Value} {fa:Addr} (X:K.In h) (G:h.Ns mainGlobals mg) (hfa:mg "law"=some (.ref fa))
  {f0:Addr} {od0 an0:Option Addr} {sl0:Array (Option Value)} {oc0 kV0 dc0 pm0 cd0 ct0:Value}
  {f1:Addr} {od1 an1:Option Addr} {sl1:Array (Option Value)} {oc1 kV1 dc1 pm1 cd1 ct1:Value}
  {f2:Addr} {od2 an2:Option Addr} {sl2:Array (Option Value)} {oc2 kV2 dc2 pm2 cd2 ct2:Value}
  {f3:Addr} {od3 an3:Option Addr} {sl3:Array (Option Value)} {oc3 kV3 dc3 pm3 cd3 ct3:Value}
  {f4:Addr} {od4 an4:Option Addr} {sl4:Array (Option Value)} {oc4 kV4 dc4 pm4 cd4 ct4:Value}
  {f5:Addr} {od5 an5:Option Addr} {sl5:Array (Option Value)} {oc5 kV5 dc5 pm5 cd5 ct5:Value}
  {f6:Addr} {od6 an6:Option Addr} {sl6:Array (Option Value)} {oc6 kV6 dc6 pm6 cd6 ct6:Value}
  {f7:Addr} {od7 an7:Option Addr} {sl7:Array (Option Value)} {oc7 kV7 dc7 pm7 cd7 ct7:Value}
  {f8:Addr} {od8 an8:Option Addr} {sl8:Array (Option Value)} {oc8 kV8 dc8 pm8 cd8 ct8:Value}
  {f9:Addr} {od9 an9:Option Addr} {sl9:Array (Option Value)} {oc9 kV9 dc9 pm9 cd9 ct9:Value}
  {f10:Addr} {od10 an10:Option Addr} {sl10:Array (Option Value)} {oc10 kV10 dc10 pm10 cd10 ct10:Value}
  {f11:Addr} {od11 an11:Option Addr} {sl11:Array (Option Value)} {oc11 kV11 dc11 pm11 cd11 ct11:Value}
  {f12:Addr} {od12 an12:Option Addr} {sl12:Array (Option Value)} {oc12 kV12 dc12 pm12 cd12 ct12:Value}
  {f13:Addr} {od13 an13:Option Addr} {sl13:Array (Option Value)} {oc13 kV13 dc13 pm13 cd13 ct13:Value}
  {f14:Addr} {od14 an14:Option Addr} {sl14:Array (Option Value)} {oc14 kV14 dc14 pm14 cd14 ct14:Value}
  {f15:Addr} {od15 an15:Option Addr} {sl15:Array (Option Value)} {oc15 kV15 dc15 pm15 cd15 ct15:Value}
  {f16:Addr} {od16 an16:Option Addr} {sl16:Array (Option Value)} {oc16 kV16 dc16 pm16 cd16 ct16:Value}
  {f17:Addr} {od17 an17:Option Addr} {sl17:Array (Option Value)} {oc17 kV17 dc17 pm17 cd17 ct17:Value}
  {c_FloorError c_NoLine c_NoQuotient c_TooMany:Addr}
  (a0:nsIn K mainGlobals "sum_from"=some (some (.ref f0))) (l0:K.lookup f0=some ⟨oc0,od0,.func (PySem.W.fnOf "sum_from" "sum_from" (z0p z2x) (z0k z2x) (z02 z2x) .none kV0 dc0 pm0 an0 cd0 ct0),sl0⟩) (c0:codeIn K cd0 "sum_from"=true) (k0:keepIn K (.ref f0)=true)
  (a1:nsIn K mainGlobals "add_product"=some (some (.ref f1))) (l1:K.lookup f1=some ⟨oc1,od1,.func (PySem.W.fnOf "add_product" "add_product" (z0p z1m) (z0k z1m) (z02 z1m) .none kV1 dc1 pm1 an1 cd1 ct1),sl1⟩) (c1:codeIn K cd1 "add_product"=true) (k1:keepIn K (.ref f1)=true)
  (a2:nsIn K mainGlobals "term_between"=some (some (.ref f2))) (l2:K.lookup f2=some ⟨oc2,od2,.func (PySem.W.fnOf "term_between" "term_between" (z0p z1a) (z0k z1a) (z02 z1a) .none kV2 dc2 pm2 an2 cd2 ct2),sl2⟩) (c2:codeIn K cd2 "term_between"=true) (k2:keepIn K (.ref f2)=true)
  (a3:nsIn K mainGlobals "_law_drawn"=some (some (.ref f3))) (l3:K.lookup f3=some ⟨oc3,od3,.func (PySem.W.fnOf "_law_drawn" "_law_drawn" (z0p z20) (z0k z20) (z02 z20) .none kV3 dc3 pm3 an3 cd3 ct3),sl3⟩) (c3:codeIn K cd3 "_law_drawn"=true) (k3:keepIn K (.ref f3)=true)
  (a4:nsIn K mainGlobals "_law_is_number"=some (some (.ref f4))) (l4:K.lookup f4=some ⟨oc4,od4,.func (PySem.W.fnOf "_law_is_number" "_law_is_number" (z0p z0v) (z0k z0v) (z02 z0v) .none kV4 dc4 pm4 an4 cd4 ct4),sl4⟩) (c4:codeIn K cd4 "_law_is_number"=true) (k4:keepIn K (.ref f4)=true)
  (a5:nsIn K mainGlobals "_law_powers"=some (some (.ref f5))) (l5:K.lookup f5=some ⟨oc5,od5,.func (PySem.W.fnOf "_law_powers" "_law_powers" (z0p z1n) (z0k z1n) (z02 z1n) .none kV5 dc5 pm5 an5 cd5 ct5),sl5⟩) (c5:codeIn K cd5 "_law_powers"=true) (k5:keepIn K (.ref f5)=true)
  (a6:nsIn K mainGlobals "_law_times"=some (some (.ref f6))) (l6:K.lookup f6=some ⟨oc6,od6,.func (PySem.W.fnOf "_law_times" "_law_times" (z0p z21) (z0k z21) (z02 z21) .none kV6 dc6 pm6 an6 cd6 ct6),sl6⟩) (c6:codeIn K cd6 "_law_times"=true) (k6:keepIn K (.ref f6)=true)
  (a7:nsIn K mainGlobals "_law_product"=some (some (.ref f7))) (l7:K.lookup f7=some ⟨oc7,od7,.func (PySem.W.fnOf "_law_product" "_law_product" (z0p z1b) (z0k z1b) (z02 z1b) .none kV7 dc7 pm7 an7 cd7 ct7),sl7⟩) (c7:codeIn K cd7 "_law_product"=true) (k7:keepIn K (.ref f7)=true)
  (a8:nsIn K mainGlobals "plus"=some (some (.ref f8))) (l8:K.lookup f8=some ⟨oc8,od8,.func (PySem.W.fnOf "plus" "plus" (z0p z8i) (z0k z8i) (z02 z8i) .none kV8 dc8 pm8 an8 cd8 ct8),sl8⟩) (c8:codeIn K cd8 "plus"=true) (k8:keepIn K (.ref f8)=true)
  (a9:nsIn K mainGlobals "product"=some (some (.ref f9))) (l9:K.lookup f9=some ⟨oc9,od9,.func (PySem.W.fnOf "product" "product" (z0p z3n) (z0k z3n) (z02 z3n) .none kV9 dc9 pm9 an9 cd9 ct9),sl9⟩) (c9:codeIn K cd9 "product"=true) (k9:keepIn K (.ref f9)=true)
  (a10:nsIn K mainGlobals "_law_sum"=some (some (.ref f10))) (l10:K.lookup f10=some ⟨oc10,od10,.func (PySem.W.fnOf "_law_sum" "_law_sum" (z0p z2z) (z0k z2z) (z02 z2z) .none kV10 dc10 pm10 an10 cd10 ct10),sl10⟩) (c10:codeIn K cd10 "_law_sum"=true) (k10:keepIn K (.ref f10)=true)
  (a11:nsIn K mainGlobals "_law_kinds"=some (some (.ref f11))) (l11:K.lookup f11=some ⟨oc11,od11,.func (PySem.W.fnOf "_law_kinds" "_law_kinds" (z0p z22) (z0k z22) (z02 z22) .none kV11 dc11 pm11 an11 cd11 ct11),sl11⟩) (c11:codeIn K cd11 "_law_kinds"=true) (k11:keepIn K (.ref f11)=true)
  (a12:nsIn K mainGlobals "quotient"=some (some (.ref f12))) (l12:K.lookup f12=some ⟨oc12,od12,.func (PySem.W.fnOf "quotient" "quotient" (z0p z2y) (z0k z2y) (z02 z2y) .none kV12 dc12 pm12 an12 cd12 ct12),sl12⟩) (c12:codeIn K cd12 "quotient"=true) (k12:keepIn K (.ref f12)=true)
  (a13:nsIn K mainGlobals "_law_refused"=some (some (.ref f13))) (l13:K.lookup f13=some ⟨oc13,od13,.func (PySem.W.fnOf "_law_refused" "_law_refused" (z0p z1c) (z0k z1c) (z02 z1c) .none kV13 dc13 pm13 an13 cd13 ct13),sl13⟩) (c13:codeIn K cd13 "_law_refused"=true) (k13:keepIn K (.ref f13)=true)
  (a14:nsIn K mainGlobals "_law_told"=some (some (.ref f14))) (l14:K.lookup f14=some ⟨oc14,od14,.func (PySem.W.fnOf "_law_told" "_law_told" (z0p z2h) (z0k z2h) (z02 z2h) .none kV14 dc14 pm14 an14 cd14 ct14),sl14⟩) (c14:codeIn K cd14 "_law_told"=true) (k14:keepIn K (.ref f14)=true)
  (a15:nsIn K mainGlobals "_law_row_of_powers"=some (some (.ref f15))) (l15:K.lookup f15=some ⟨oc15,od15,.func (PySem.W.fnOf "_law_row_of_powers" "_law_row_of_powers" (z0p z0j) (z0k z0j) (z02 z0j) .none kV15 dc15 pm15 an15 cd15 ct15),sl15⟩) (c15:codeIn K cd15 "_law_row_of_powers"=true) (k15:keepIn K (.ref f15)=true)
  (a16:nsIn K mainGlobals "_law_spoiled"=some (some (.ref f16))) (l16:K.lookup f16=some ⟨oc16,od16,.func (PySem.W.fnOf "_law_spoiled" "_law_spoiled" (z0p z1d) (z0k z1d) (z02 z1d) .none kV16 dc16 pm16 an16 cd16 ct16),sl16⟩) (c16:codeIn K cd16 "_law_spoiled"=true) (k16:keepIn K (.ref f16)=true)
  (a17:nsIn K mainGlobals "law"=some (some (.ref f17))) (l17:K.lookup f17=some ⟨oc17,od17,.func (PySem.W.fnOf "law" "law" (z0p z9a) (z0k z9a) (z02 z9a) .none kV17 dc17 pm17 an17 cd17 ct17),sl17⟩) (c17:codeIn K cd17 "law"=true) (k17:keepIn K (.ref f17)=true)
  (z_ValueError:nsIn K mainGlobals "ValueError"=some none) (z_any:nsIn K mainGlobals "any"=some none) (z_bool:nsIn K mainGlobals "bool"=some none) (z_dict:nsIn K mainGlobals "dict"=some none) (z_enumerate:nsIn K mainGlobals "enumerate"=some none) (z_int:nsIn K mainGlobals "int"=some none) (z_isinstance:nsIn K mainGlobals "isinstance"=some none) (z_len:nsIn K mainGlobals "len"=some none) (z_list:nsIn K mainGlobals "list"=some none) (z_range:nsIn K mainGlobals "range"=some none) (z_sorted:nsIn K mainGlobals "sorted"=some none) (z_sum:nsIn K mainGlobals "sum"=some none) (z_tuple:nsIn K mainGlobals "tuple"=some none) (z_zip:nsIn K mainGlobals "zip"=some none) (n_FloorError:nsIn K mainGlobals (Str.ofString "FloorError")=some (some (.ref c_FloorError))) (n_NoLine:nsIn K mainGlobals (Str.ofString "NoLine")=some (some (.ref c_NoLine))) (n_NoQuotient:nsIn K mainGlobals (Str.ofString "NoQuotient")=some (some (.ref c_NoQuotient))) (n_TooMany:nsIn K mainGlobals (Str.ofString "TooMany")=some (some (.ref c_TooMany))) (q_FloorError:excIn K c_FloorError [.type "ValueError",.type "Exception",.type "BaseException",.type "object"] "ValueError.__new__"=true) (q_NoQuotient:excIn K c_NoQuotient [.type "ValueError",.type "Exception",.type "BaseException",.type "object"] "ValueError.__new__"=true) (fo_NoQuotient:mroIn K c_NoQuotient (.type "object")=some true) (fb_NoQuotient:mroIn K c_NoQuotient (.type "BaseException")=some true) (fc_NoQuotient:PySem.W.findIn K (.ref c_NoQuotient) "__class__"=some (some (.builtin "object.__class__"))) (fg_NoQuotient:PySem.W.findIn K (.ref c_NoQuotient) "__getattribute__"=some (some (.builtin "BaseException.__getattribute__"))) (ft_NoQuotient:PySem.W.findIn K (.ref c_NoQuotient) "__getattr__"=some none) (m_NoQuotient_FloorError:mroIn K c_NoQuotient (.ref c_FloorError)=some true) (k_NoQuotient_TooMany:kitOne K (.ref c_NoQuotient) (.ref c_TooMany)=some false) (k_NoQuotient_NoLine:kitOne K (.ref c_NoQuotient) (.ref c_NoLine)=some false) (k_NoQuotient_NoQuotient:kitOne K (.ref c_NoQuotient) (.ref c_NoQuotient)=some true) (k_NoQuotient_ValueError:kitOne K (.ref c_NoQuotient) (.type "ValueError")=some true) :
  ∃fd:FuncData,(∀(s:Shared) (v:Value),BindsTo s fd ⟨[v],[]⟩ [("_law_script",v)])/\∀base:Heap,K.In base->base.Ns mainGlobals mg->FnOk l.prog w K mg base (CX1 l.prog w) 6 fa fd ["_law_script"] (spL K false zer 1):=by
 have e:=hfa.symm.trans (mg_of X G a17)
 cases e
 have T:Txt mg:=⟨mg_none_of X G z_ValueError,mg_none_of X G z_any,mg_none_of X G z_bool,mg_none_of X G z_dict,mg_none_of X G z_enumerate,mg_none_of X G z_int,mg_none_of X G z_isinstance,mg_none_of X G z_len,mg_none_of X G z_list,mg_none_of X G z_range,mg_none_of X G z_sorted,mg_none_of X G z_sum,mg_none_of X G z_tuple,mg_none_of X G z_zip⟩
 have Z:Exs K mg c_FloorError c_NoLine c_NoQuotient c_TooMany:=⟨mg_of X G n_FloorError,mg_of X G n_NoLine,mg_of X G n_NoQuotient,mg_of X G n_TooMany,n_FloorError,n_NoLine,n_NoQuotient,n_TooMany,q_FloorError,q_NoQuotient,fo_NoQuotient,fb_NoQuotient,fc_NoQuotient,fg_NoQuotient,ft_NoQuotient,m_NoQuotient_FloorError,k_NoQuotient_TooMany,k_NoQuotient_NoLine,k_NoQuotient_NoQuotient,k_NoQuotient_ValueError⟩
 have F0:=z2f (st:=z2x) l0 c0 k0
 have b0:=F0.binds (ps:=["found"]) fun _ _ _ _ _ _ us hl=>by obtain ⟨_,rfl⟩:=zhl hl;rfl
 have F1:=z2f (st:=z1m) l1 c1 k1
 have b1:=F1.binds (ps:=["found","terms","powers","times"]) fun _ _ _ _ _ _ us hl=>by obtain ⟨_,_,_,_,rfl⟩:=zx9 hl;rfl
 have F2:=z2f (st:=z1a) l2 c2 k2
 have b2:=F2.binds (ps:=["one","other"]) fun _ _ _ _ _ _ us hl=>by obtain ⟨_,_,rfl⟩:=zan hl;rfl
 have F3:=z2f (st:=z20) l3 c3 k3
 have b3:=F3.binds (ps:=["_law_script","_law_at"]) fun _ _ _ _ _ _ us hl=>by obtain ⟨_,_,rfl⟩:=zan hl;rfl
 have F4:=z2f (st:=z0v) l4 c4 k4
 have b4:=F4.binds (ps:=["_law_found"]) fun _ _ _ _ _ _ us hl=>by obtain ⟨_,rfl⟩:=zhl hl;rfl
 have F5:=z2f (st:=z1n) l5 c5 k5
 have b5:=F5.binds (ps:=["_law_cell","_law_many","_law_wide"]) fun _ _ _ _ _ _ us hl=>by obtain ⟨_,_,_,rfl⟩:=zoj hl;rfl
 have F6:=z2f (st:=z21) l6 c6 k6
 have b6:=F6.binds (ps:=["_law_cell"]) fun _ _ _ _ _ _ us hl=>by obtain ⟨_,rfl⟩:=zhl hl;rfl
 have F7:=z2f (st:=z1b) l7 c7 k7
 have b7:=F7.binds (ps:=["_law_one","_law_other"]) fun _ _ _ _ _ _ us hl=>by obtain ⟨_,_,rfl⟩:=zan hl;rfl
 have F8:=z2f (st:=z8i) l8 c8 k8
 have b8:=F8.binds (ps:=["one","other"]) fun _ _ _ _ _ _ us hl=>by obtain ⟨_,_,rfl⟩:=zan hl;rfl
 have F9:=z2f (st:=z3n) l9 c9 k9
 have b9:=F9.binds (ps:=["one","other"]) fun _ _ _ _ _ _ us hl=>by obtain ⟨_,_,rfl⟩:=zan hl;rfl
 have F10:=z2f (st:=z2z) l10 c10 k10
 have b10:=F10.binds (ps:=["_law_cells","_law_many"]) fun _ _ _ _ _ _ us hl=>by obtain ⟨_,_,rfl⟩:=zan hl;rfl
 have F11:=z2f (st:=z22) l11 c11 k11
 have b11:=F11.binds (ps:=["_law_found"]) fun _ _ _ _ _ _ us hl=>by obtain ⟨_,rfl⟩:=zhl hl;rfl
 have F12:=z2f (st:=z2y) l12 c12 k12
 have b12:=F12.binds (ps:=["one","other"]) fun _ _ _ _ _ _ us hl=>by obtain ⟨_,_,rfl⟩:=zan hl;rfl
 have F13:=z2f (st:=z1c) l13 c13 k13
 have b13:=F13.binds (ps:=["_law_one","_law_other"]) fun _ _ _ _ _ _ us hl=>by obtain ⟨_,_,rfl⟩:=zan hl;rfl
 have F14:=z2f (st:=z2h) l14 c14 k14
 have b14:=F14.binds (ps:=["_law_one","_law_other","_law_due"]) fun _ _ _ _ _ _ us hl=>by obtain ⟨_,_,_,rfl⟩:=zoj hl;rfl
 have F15:=z2f (st:=z0j) l15 c15 k15
 have b15:=F15.binds (ps:=["_law_cell"]) fun _ _ _ _ _ _ us hl=>by obtain ⟨_,rfl⟩:=zhl hl;rfl
 have F16:=z2f (st:=z1d) l16 c16 k16
 have b16:=F16.binds (ps:=["_law_one","_law_other","_law_cell"]) fun _ _ _ _ _ _ us hl=>by obtain ⟨_,_,_,rfl⟩:=zoj hl;rfl
 have F17:=z2f (st:=z9a) l17 c17 k17
 refine ⟨PySem.W.fnOf "law" "law" (z0p z9a) (z0k z9a) (z02 z9a) .none kV17 dc17 pm17 an17 cd17 ct17,fun s v=>.of_eq rfl,fun base kb nb=>?_⟩
 have G_sum_from:z35 l.prog w K mg base "sum_from" ["found"] 1 (spD K mg true z0u 1):=⟨f0,_,zc5 F0 T Z ,b0,mg_of X G a0,k0⟩
 have G_add_product:z35 l.prog w K mg base "add_product" ["found","terms","powers","times"] 1 (spU K z1l 4):=⟨f1,_,z7x F1 T Z ,b1,mg_of X G a1,k1⟩
 have G_term_between:z35 l.prog w K mg base "term_between" ["one","other"] 1 (spD K mg false z0q 2):=⟨f2,_,z79 F2 T Z ,b2,mg_of X G a2,k2⟩
 have G__law_drawn:z35 l.prog w K mg base "_law_drawn" ["_law_script","_law_at"] 1 (spD K mg false z0y 2):=⟨f3,_,z9d F3 T Z ,b3,mg_of X G a3,k3⟩
 have G__law_is_number:z35 l.prog w K mg base "_law_is_number" ["_law_found"] 1 (spD K mg false z0o 1):=⟨f4,_,z5w F4 T Z ,b4,mg_of X G a4,k4⟩
 have G__law_powers:z35 l.prog w K mg base "_law_powers" ["_law_cell","_law_many","_law_wide"] 1 (spD K mg false z0z 3):=⟨f5,_,z7y F5 T Z ,b5,mg_of X G a5,k5⟩
 have G__law_times:z35 l.prog w K mg base "_law_times" ["_law_cell"] 1 (spD K mg false z1y 1):=⟨f6,_,z9e F6 T Z ,b6,mg_of X G a6,k6⟩
 have G__law_product:z35 l.prog w K mg base "_law_product" ["_law_one","_law_other"] 1 (spD K mg true z10 2):=⟨f7,_,z7a F7 T Z ,b7,mg_of X G a7,k7⟩
 have G_plus:z35 l.prog w K mg base "plus" ["one","other"] 2 (spD K mg true z75 2):=⟨f8,_,zoi F8 T Z G_sum_from,b8,mg_of X G a8,k8⟩
 have G_product:z35 l.prog w K mg base "product" ["one","other"] 2 (spD K mg true z32 2):=⟨f9,_,zes F9 T Z G_add_product G_sum_from,b9,mg_of X G a9,k9⟩
 have G__law_sum:z35 l.prog w K mg base "_law_sum" ["_law_cells","_law_many"] 2 (spD K mg true z2g 2):=⟨f10,_,zc6 F10 T Z G__law_powers G__law_times,b10,mg_of X G a10,k10⟩
 have G__law_kinds:z35 l.prog w K mg base "_law_kinds" ["_law_found"] 2 (spD K mg false z1z 1):=⟨f11,_,z9f F11 T Z G__law_is_number,b11,mg_of X G a11,k11⟩
 have G_quotient:z35 l.prog w K mg base "quotient" ["one","other"] 3 (spD K mg true z0l 2):=⟨f12,_,zc7 F12 T Z G_plus G_product G_term_between,b12,mg_of X G a12,k12⟩
 have G__law_refused:z35 l.prog w K mg base "_law_refused" ["_law_one","_law_other"] 4 (spD K mg false z09 2):=⟨f13,_,z7b F13 T Z G_quotient,b13,mg_of X G a13,k13⟩
 have G__law_told:z35 l.prog w K mg base "_law_told" ["_law_one","_law_other","_law_due"] 4 (spD K mg false z0t 3):=⟨f14,_,zam F14 T Z G__law_kinds G_quotient,b14,mg_of X G a14,k14⟩
 have G__law_row_of_powers:z35 l.prog w K mg base "_law_row_of_powers" ["_law_cell"] 5 (spD K mg false z0i 1):=⟨f15,_,z4a F15 T Z G__law_refused G__law_told,b15,mg_of X G a15,k15⟩
 have G__law_spoiled:z35 l.prog w K mg base "_law_spoiled" ["_law_one","_law_other","_law_cell"] 5 (spD K mg false z11 3):=⟨f16,_,z7c F16 T Z G__law_powers G__law_refused,b16,mg_of X G a16,k16⟩
 exact (zti F17 T Z G__law_drawn G__law_product G__law_refused G__law_row_of_powers G__law_spoiled G__law_sum G__law_told).imp fun _ _ _ _ z=>z.spD
noncomputable def K:Params->Frag:=fun P=>
 (nat_lit 2,(⟨.none,none,(.dict [].toArray 0),#[]⟩)) ::
 (nat_lit 3,(oD [en P "__name__" 165 (vs "law_friezeyard_k63_divided" 308),en P "__doc__" 166 .none,en P "__package__" 167 .none,en P "__loader__" 168 (.builtin "__main__.__loader__#opaque"),en P "__spec__" 169 .none,en P "__annotations__" 170 (.ref 6),en P "__builtins__" 171 (.ref 4),en P "__file__" 173 (vs "/claim/cut.py" 172),en P "__cached__" 174 .none,en P "FloorError" 206 (.ref 24),en P "NoLine" 222 (.ref 37),en P "TooMany" 238 (.ref 49),en P "NoQuotient" 254 (.ref 61),en P "plus" 267 (.ref 70),en P "sum_from" 273 (.ref 75),en P "product" 284 (.ref 82),en P "add_product" 290 (.ref 87),en P "quotient" 301 (.ref 94),en P "term_between" 307 (.ref 99),en P "_law_drawn" 317 (.ref 106),en P "_law_is_number" 324 (.ref 113),en P "_law_powers" 336 (.ref 120),en P "_law_times" 343 (.ref 127),en P "_law_sum" 349 (.ref 132),en P "_law_kinds" 355 (.ref 137),en P "_law_product" 361 (.ref 142),en P "_law_refused" 371 (.ref 149),en P "_law_told" 382 (.ref 156),en P "_law_row_of_powers" 388 (.ref 161),en P "_law_spoiled" 394 (.ref 166),en P "law" 407 (.ref 173)] 31)) ::
 (nat_lit 15,(oT [(.type "ValueError")])) ::
 (nat_lit 22,(oT [])) ::
 (nat_lit 23,(oD [en P "__module__" 196 (vs "friezeyard.errors" 187),en P "__firstlineno__" 200 (.int 2 199),en P "__static_attributes__" 201 (.ref 22),en P "__weakref__" 203 (.ref 25),en P "__doc__" 204 .none] 3)) ::
 (nat_lit 24,(⟨(.type "type"),none,(.cls { name:=Str.ofString "FloorError",bases:=[(.type "ValueError")],mro:=[(.ref 24),(.type "ValueError"),(.type "Exception"),(.type "BaseException"),(.type "object")],ns:=23,qualname:=Str.ofString "FloorError",hasDict:=true,slotNames:=[],subclasses:=[(.ref 37),(.ref 49),(.ref 61)],abstract:=false,collection:=none,hasDel:=false }),#[some (.ref 15),none,some (vs "FloorError" 189),some (vs "FloorError" 197),some (.builtin "ValueError.__new__"),some (.bool true)]⟩)) ::
 (nat_lit 25,(⟨(.type "getset_descriptor"),none,(.fields [(vs "__weakref__" 202),(.ref 24),(.builtin "ExceptionGroup.__weakref__"),.none].toArray),#[]⟩)) ::
 (nat_lit 28,(oT [(.ref 24)])) ::
 (nat_lit 35,(oT [])) ::
 (nat_lit 36,(oD [en P "__module__" 214 (vs "friezeyard.errors" 187),en P "__firstlineno__" 218 (.int 4 217),en P "__static_attributes__" 219 (.ref 35),en P "__doc__" 220 .none] 2)) ::
 (nat_lit 37,(⟨(.type "type"),none,(.cls { name:=Str.ofString "NoLine",bases:=[(.ref 24)],mro:=[(.ref 37),(.ref 24),(.type "ValueError"),(.type "Exception"),(.type "BaseException"),(.type "object")],ns:=36,qualname:=Str.ofString "NoLine",hasDict:=true,slotNames:=[],subclasses:=[],abstract:=false,collection:=none,hasDel:=false }),#[some (.ref 28),none,some (vs "NoLine" 207),some (vs "NoLine" 215),some (.builtin "ValueError.__new__"),some (.bool true)]⟩)) ::
 (nat_lit 40,(oT [(.ref 24)])) ::
 (nat_lit 47,(oT [])) ::
 (nat_lit 48,(oD [en P "__module__" 230 (vs "friezeyard.errors" 187),en P "__firstlineno__" 234 (.int 6 233),en P "__static_attributes__" 235 (.ref 47),en P "__doc__" 236 .none] 2)) ::
 (nat_lit 49,(⟨(.type "type"),none,(.cls { name:=Str.ofString "TooMany",bases:=[(.ref 24)],mro:=[(.ref 49),(.ref 24),(.type "ValueError"),(.type "Exception"),(.type "BaseException"),(.type "object")],ns:=48,qualname:=Str.ofString "TooMany",hasDict:=true,slotNames:=[],subclasses:=[],abstract:=false,collection:=none,hasDel:=false }),#[some (.ref 40),none,some (vs "TooMany" 223),some (vs "TooMany" 231),some (.builtin "ValueError.__new__"),some (.bool true)]⟩)) ::
 (nat_lit 52,(oT [(.ref 24)])) ::
 (nat_lit 59,(oT [])) ::
 (nat_lit 60,(oD [en P "__module__" 246 (vs "friezeyard.errors" 187),en P "__firstlineno__" 250 (.int 8 249),en P "__static_attributes__" 251 (.ref 59),en P "__doc__" 252 .none] 2)) ::
 (nat_lit 61,(⟨(.type "type"),none,(.cls { name:=Str.ofString "NoQuotient",bases:=[(.ref 24)],mro:=[(.ref 61),(.ref 24),(.type "ValueError"),(.type "Exception"),(.type "BaseException"),(.type "object")],ns:=60,qualname:=Str.ofString "NoQuotient",hasDict:=true,slotNames:=[],subclasses:=[],abstract:=false,collection:=none,hasDel:=false }),#[some (.ref 52),none,some (vs "NoQuotient" 239),some (vs "NoQuotient" 247),some (.builtin "ValueError.__new__"),some (.bool true)]⟩)) ::
 (nat_lit 64,(oT [])) ::
 (nat_lit 66,(oT [(vs "one" 260),(vs "other" 261),(vs "found" 262),(vs "powers" 263),(vs "times" 264)])) ::
 (nat_lit 67,(oT [])) ::
 (nat_lit 69,(⟨(.type "code"),none,(.fields [(vs "plus" 257),(vs "plus" 258),(vs "/claim/cut.py" 259),(.int 11 0),(.int 2 0),(.int 0 0),(.int 0 0),(.int 3 0),(.ref 64),(.bool true),(.int 181 0),(.ref 65),.none,(.ref 66),(.ref 67),(.ref 68),(.int 265 0),(.int 11 0),(vs "/claim/cut.py" 266)].toArray),#[]⟩)) ::
 (nat_lit 70,(oF (top 6) "plus" "plus" .none .none .none (vs "friezeyard.sums" 255) none (.ref 69) .none)) ::
 (nat_lit 71,(oT [])) ::
 (nat_lit 74,(⟨(.type "code"),none,(.fields [(vs "sum_from" 268),(vs "sum_from" 269),(vs "/claim/cut.py" 270),(.int 16 0),(.int 1 0),(.int 0 0),(.int 0 0),(.int 3 0),(.ref 71),(.bool true),(.int 181 0),(.ref 72),.none,.none,.none,(.ref 73),(.int 271 0),(.int 16 0),(vs "/claim/cut.py" 272)].toArray),#[]⟩)) ::
 (nat_lit 75,(oF (top 7) "sum_from" "sum_from" .none .none .none (vs "friezeyard.sums" 255) none (.ref 74) .none)) ::
 (nat_lit 76,(oT [])) ::
 (nat_lit 78,(oT [(vs "one" 277),(vs "other" 278),(vs "found" 279),(vs "powers" 280),(vs "times" 281)])) ::
 (nat_lit 79,(oT [])) ::
 (nat_lit 81,(⟨(.type "code"),none,(.fields [(vs "product" 274),(vs "product" 275),(vs "/claim/cut.py" 276),(.int 18 0),(.int 2 0),(.int 0 0),(.int 0 0),(.int 3 0),(.ref 76),(.bool true),(.int 181 0),(.ref 77),.none,(.ref 78),(.ref 79),(.ref 80),(.int 282 0),(.int 18 0),(vs "/claim/cut.py" 283)].toArray),#[]⟩)) ::
 (nat_lit 82,(oF (top 8) "product" "product" .none .none .none (vs "friezeyard.sums" 255) none (.ref 81) .none)) ::
 (nat_lit 83,(oT [])) ::
 (nat_lit 86,(⟨(.type "code"),none,(.fields [(vs "add_product" 285),(vs "add_product" 286),(vs "/claim/cut.py" 287),(.int 23 0),(.int 4 0),(.int 0 0),(.int 0 0),(.int 3 0),(.ref 83),(.bool true),(.int 181 0),(.ref 84),.none,.none,.none,(.ref 85),(.int 288 0),(.int 23 0),(vs "/claim/cut.py" 289)].toArray),#[]⟩)) ::
 (nat_lit 87,(oF (top 9) "add_product" "add_product" .none .none .none (vs "friezeyard.sums" 255) none (.ref 86) .none)) ::
 (nat_lit 88,(oT [])) ::
 (nat_lit 90,(oT [(vs "one" 294),(vs "other" 295),(vs "rest" 296),(vs "found" 297),(vs "term" 298)])) ::
 (nat_lit 91,(oT [])) ::
 (nat_lit 93,(⟨(.type "code"),none,(.fields [(vs "quotient" 291),(vs "quotient" 292),(vs "/claim/cut.py" 293),(.int 27 0),(.int 2 0),(.int 0 0),(.int 0 0),(.int 3 0),(.ref 88),(.bool true),(.int 181 0),(.ref 89),.none,(.ref 90),(.ref 91),(.ref 92),(.int 299 0),(.int 27 0),(vs "/claim/cut.py" 300)].toArray),#[]⟩)) ::
 (nat_lit 94,(oF (top 10) "quotient" "quotient" .none .none .none (vs "friezeyard.sums" 255) none (.ref 93) .none)) ::
 (nat_lit 95,(oT [])) ::
 (nat_lit 98,(⟨(.type "code"),none,(.fields [(vs "term_between" 302),(vs "term_between" 303),(vs "/claim/cut.py" 304),(.int 39 0),(.int 2 0),(.int 0 0),(.int 0 0),(.int 3 0),(.ref 95),(.bool true),(.int 181 0),(.ref 96),.none,.none,.none,(.ref 97),(.int 305 0),(.int 39 0),(vs "/claim/cut.py" 306)].toArray),#[]⟩)) ::
 (nat_lit 99,(oF (top 11) "term_between" "term_between" .none .none .none (vs "friezeyard.sums" 255) none (.ref 98) .none)) ::
 (nat_lit 100,(oT [])) ::
 (nat_lit 102,(oT [(vs "_law_script" 313),(vs "_law_at" 314)])) ::
 (nat_lit 103,(oT [])) ::
 (nat_lit 105,(⟨(.type "code"),none,(.fields [(vs "_law_drawn" 310),(vs "_law_drawn" 311),(vs "/claim/cut.py" 312),(.int 44 0),(.int 2 0),(.int 0 0),(.int 0 0),(.int 3 0),(.ref 100),(.bool true),(.int 181 0),(.ref 101),.none,(.ref 102),(.ref 103),(.ref 104),(.int 315 0),(.int 44 0),(vs "/claim/cut.py" 316)].toArray),#[]⟩)) ::
 (nat_lit 106,(oF (top 13) "_law_drawn" "_law_drawn" .none .none .none (vs "law_friezeyard_k63_divided" 308) none (.ref 105) .none)) ::
 (nat_lit 107,(oT [])) ::
 (nat_lit 109,(oT [(vs "_law_found" 321)])) ::
 (nat_lit 110,(oT [])) ::
 (nat_lit 112,(⟨(.type "code"),none,(.fields [(vs "_law_is_number" 318),(vs "_law_is_number" 319),(vs "/claim/cut.py" 320),(.int 46 0),(.int 1 0),(.int 0 0),(.int 0 0),(.int 3 0),(.ref 107),(.bool true),(.int 181 0),(.ref 108),.none,(.ref 109),(.ref 110),(.ref 111),(.int 322 0),(.int 46 0),(vs "/claim/cut.py" 323)].toArray),#[]⟩)) ::
 (nat_lit 113,(oF (top 14) "_law_is_number" "_law_is_number" .none .none .none (vs "law_friezeyard_k63_divided" 308) none (.ref 112) .none)) ::
 (nat_lit 114,(oT [])) ::
 (nat_lit 116,(oT [(vs "_law_cell" 328),(vs "_law_many" 329),(vs "_law_wide" 330),(vs "_law_number" 331),(vs "_law_found" 332),(vs "_law_k" 333)])) ::
 (nat_lit 117,(oT [])) ::
 (nat_lit 119,(⟨(.type "code"),none,(.fields [(vs "_law_powers" 325),(vs "_law_powers" 326),(vs "/claim/cut.py" 327),(.int 48 0),(.int 3 0),(.int 0 0),(.int 0 0),(.int 3 0),(.ref 114),(.bool true),(.int 181 0),(.ref 115),.none,(.ref 116),(.ref 117),(.ref 118),(.int 334 0),(.int 48 0),(vs "/claim/cut.py" 335)].toArray),#[]⟩)) ::
 (nat_lit 120,(oF (top 15) "_law_powers" "_law_powers" .none .none .none (vs "law_friezeyard_k63_divided" 308) none (.ref 119) .none)) ::
 (nat_lit 121,(oT [])) ::
 (nat_lit 123,(oT [(vs "_law_cell" 340)])) ::
 (nat_lit 124,(oT [])) ::
 (nat_lit 126,(⟨(.type "code"),none,(.fields [(vs "_law_times" 337),(vs "_law_times" 338),(vs "/claim/cut.py" 339),(.int 55 0),(.int 1 0),(.int 0 0),(.int 0 0),(.int 3 0),(.ref 121),(.bool true),(.int 181 0),(.ref 122),.none,(.ref 123),(.ref 124),(.ref 125),(.int 341 0),(.int 55 0),(vs "/claim/cut.py" 342)].toArray),#[]⟩)) ::
 (nat_lit 127,(oF (top 16) "_law_times" "_law_times" .none .none .none (vs "law_friezeyard_k63_divided" 308) none (.ref 126) .none)) ::
 (nat_lit 128,(oT [])) ::
 (nat_lit 131,(⟨(.type "code"),none,(.fields [(vs "_law_sum" 344),(vs "_law_sum" 345),(vs "/claim/cut.py" 346),(.int 59 0),(.int 2 0),(.int 0 0),(.int 0 0),(.int 3 0),(.ref 128),(.bool true),(.int 181 0),(.ref 129),.none,.none,.none,(.ref 130),(.int 347 0),(.int 59 0),(vs "/claim/cut.py" 348)].toArray),#[]⟩)) ::
 (nat_lit 132,(oF (top 17) "_law_sum" "_law_sum" .none .none .none (vs "law_friezeyard_k63_divided" 308) none (.ref 131) .none)) ::
 (nat_lit 133,(oT [])) ::
 (nat_lit 136,(⟨(.type "code"),none,(.fields [(vs "_law_kinds" 350),(vs "_law_kinds" 351),(vs "/claim/cut.py" 352),(.int 64 0),(.int 1 0),(.int 0 0),(.int 0 0),(.int 3 0),(.ref 133),(.bool true),(.int 181 0),(.ref 134),.none,.none,.none,(.ref 135),(.int 353 0),(.int 64 0),(vs "/claim/cut.py" 354)].toArray),#[]⟩)) ::
 (nat_lit 137,(oF (top 18) "_law_kinds" "_law_kinds" .none .none .none (vs "law_friezeyard_k63_divided" 308) none (.ref 136) .none)) ::
 (nat_lit 138,(oT [])) ::
 (nat_lit 141,(⟨(.type "code"),none,(.fields [(vs "_law_product" 356),(vs "_law_product" 357),(vs "/claim/cut.py" 358),(.int 75 0),(.int 2 0),(.int 0 0),(.int 0 0),(.int 3 0),(.ref 138),(.bool true),(.int 181 0),(.ref 139),.none,.none,.none,(.ref 140),(.int 359 0),(.int 75 0),(vs "/claim/cut.py" 360)].toArray),#[]⟩)) ::
 (nat_lit 142,(oF (top 19) "_law_product" "_law_product" .none .none .none (vs "law_friezeyard_k63_divided" 308) none (.ref 141) .none)) ::
 (nat_lit 143,(oT [])) ::
 (nat_lit 145,(oT [(vs "_law_one" 365),(vs "_law_other" 366),(vs "_law_told_here" 367),(vs "e" 368)])) ::
 (nat_lit 146,(oT [])) ::
 (nat_lit 148,(⟨(.type "code"),none,(.fields [(vs "_law_refused" 362),(vs "_law_refused" 363),(vs "/claim/cut.py" 364),(.int 82 0),(.int 2 0),(.int 0 0),(.int 0 0),(.int 3 0),(.ref 143),(.bool true),(.int 181 0),(.ref 144),.none,(.ref 145),(.ref 146),(.ref 147),(.int 369 0),(.int 82 0),(vs "/claim/cut.py" 370)].toArray),#[]⟩)) ::
 (nat_lit 149,(oF (top 20) "_law_refused" "_law_refused" .none .none .none (vs "law_friezeyard_k63_divided" 308) none (.ref 148) .none)) ::
 (nat_lit 150,(oT [])) ::
 (nat_lit 152,(oT [(vs "_law_one" 375),(vs "_law_other" 376),(vs "_law_due" 377),(vs "_law_handed" 378),(vs "_law_found" 379)])) ::
 (nat_lit 153,(oT [])) ::
 (nat_lit 155,(⟨(.type "code"),none,(.fields [(vs "_law_told" 372),(vs "_law_told" 373),(vs "/claim/cut.py" 374),(.int 89 0),(.int 3 0),(.int 0 0),(.int 0 0),(.int 3 0),(.ref 150),(.bool true),(.int 181 0),(.ref 151),.none,(.ref 152),(.ref 153),(.ref 154),(.int 380 0),(.int 89 0),(vs "/claim/cut.py" 381)].toArray),#[]⟩)) ::
 (nat_lit 156,(oF (top 21) "_law_told" "_law_told" .none .none .none (vs "law_friezeyard_k63_divided" 308) none (.ref 155) .none)) ::
 (nat_lit 157,(oT [])) ::
 (nat_lit 160,(⟨(.type "code"),none,(.fields [(vs "_law_row_of_powers" 383),(vs "_law_row_of_powers" 384),(vs "/claim/cut.py" 385),(.int 96 0),(.int 1 0),(.int 0 0),(.int 0 0),(.int 3 0),(.ref 157),(.bool true),(.int 181 0),(.ref 158),.none,.none,.none,(.ref 159),(.int 386 0),(.int 96 0),(vs "/claim/cut.py" 387)].toArray),#[]⟩)) ::
 (nat_lit 161,(oF (top 22) "_law_row_of_powers" "_law_row_of_powers" .none .none .none (vs "law_friezeyard_k63_divided" 308) none (.ref 160) .none)) ::
 (nat_lit 162,(oT [])) ::
 (nat_lit 165,(⟨(.type "code"),none,(.fields [(vs "_law_spoiled" 389),(vs "_law_spoiled" 390),(vs "/claim/cut.py" 391),(.int 109 0),(.int 3 0),(.int 0 0),(.int 0 0),(.int 3 0),(.ref 162),(.bool true),(.int 181 0),(.ref 163),.none,.none,.none,(.ref 164),(.int 392 0),(.int 109 0),(vs "/claim/cut.py" 393)].toArray),#[]⟩)) ::
 (nat_lit 166,(oF (top 23) "_law_spoiled" "_law_spoiled" .none .none .none (vs "law_friezeyard_k63_divided" 308) none (.ref 165) .none)) ::
 (nat_lit 167,(oT [])) ::
 (nat_lit 169,(oT [(vs "_law_script" 398),(vs "_law_head" 399),(vs "_law_many" 400),(vs "_law_sizes" 401),(vs "_law_one" 402),(vs "_law_other" 403),(vs "_law_made" 404)])) ::
 (nat_lit 170,(oT [])) ::
 (nat_lit 172,(⟨(.type "code"),none,(.fields [(vs "law" 395),(vs "law" 396),(vs "/claim/cut.py" 397),(.int 119 0),(.int 1 0),(.int 0 0),(.int 0 0),(.int 3 0),(.ref 167),(.bool true),(.int 181 0),(.ref 168),.none,(.ref 169),(.ref 170),(.ref 171),(.int 405 0),(.int 119 0),(vs "/claim/cut.py" 406)].toArray),#[]⟩)) ::
 (nat_lit 173,(oF (top 24) "law" "law" .none .none .none (vs "law_friezeyard_k63_divided" 308) none (.ref 172) .none))::[]
noncomputable def places:List Addr:=[2,3,15,22,23,24,25,28,35,36,37,40,47,48,49,52,59,60,61,64,66,67,69,70,71,74,75,76,78,79,81,82,83,86,87,88,90,91,93,94,95,98,99,100,102,103,105,106,107,109,110,112,113,114,116,117,119,120,121,123,124,126,127,128,131,132,133,136,137,138,141,142,143,145,146,148,149,150,152,153,155,156,157,160,161,162,165,166,167,169,170,172,173]
theorem zjw:∀P,places=(K P).map (·.1):=fun _=>by kernel_rfl
noncomputable def hook:PySem.W.Hook:=PySem.W.kHook K places zjw
noncomputable def q:Program:=PySem.W.view PySem.Challenge.pw_friezeyard_k63_divided [1,2,3,4,6,7,8,9,10,11,13,14,15,16,17,18,19,20,21,22,23,24]
noncomputable def xt (s:Shared):Bool:=PySem.W.xlAt q [] s&&PySem.W.recOk (PySem.W.RowW.records PySem.Challenge.rw_friezeyard_k63_divided.row.toRowW) s
noncomputable def out (w:World) (os:OsState):=outAt PySem.Challenge.pw_friezeyard_k63_divided q [] xt (fun s=>places.map s.heap.get?) 2888 w os
noncomputable def good:=PySem.W.openGood q []
example:((fun (_:Params->Obj) (_:Str)=>true) PySem.W.boot_o_0 (Str.ofString "dull"))=true:=by k_qdec
lay_quick out good
theorem ztj:∀w os,out w os=some (true,good,(K w.params).map fun p=>some p.2):=fun w os=>(congrFun (congrFun PySem.W.Fast.te9929923139520864753 w) os).trans (by rw [PySem.W.Fast.te16074439127986719233];kernel_rfl)
theorem left:PySem.W.LeftO PySem.Challenge.pw_friezeyard_k63_divided q [] xt (PySem.W.Hook.obs hook) (PySem.W.Hook.val hook) 2888:=zog (by kernel_rfl) (by kernel_rfl) (fun _=>by kernel_rfl) ztj
end K63
namespace K63
open L2
local macro_rules | `(tactic| walk_at "dz")=>`(tactic| try simp (implicitDefEqProofs:=false) only [z7w,zl3,zw4,zl5,z89,zvg,zvh,sNx,zyx,zmv,zvm,zig,zbd,zj0,zrl,zl6,zrm,znf,zl4,zrc,zrd,zrg,zre,zrf,znd,zrh,zri,zrj,zrk,zne,zng,zcz,zw5,zw6,zw7,zw8,zw9,zrn,zro,znh,zni,zrp,zsh,zwm,zwn,zwo,zsi,zsj,znt,znu,zjd,znj,zje,zjf,zjg,zd0,zse,zae,znz,zrq,zrr,z3t,zrs,znk,znl,znm,znn,zkm,zcr,Option.bind_some,Bool.and_true,Bool.true_and,zwa,zwb,zwc,zwd,zz8,zz9,eC,eOp,eUn,z0c,z00,z17,eCB,z5g,z67,eIf,eSl,oSo,oNo,zsk,zqc,bOr,zex,z3o,zqd,eOr,zyt,zyu,zvb,zvc,zqh,zqi,z1k,iL,znx,zny,zns,znq,znr,R.bind_ok,R.of_some,z3b,ze7,zqs,dLe,zpb,dGe,zwe,zih,zwf,zl7,zrt,zru,zrv,zrw,zrx,zry,zrz,zl8,zl9,zs0,zla,zs1,zs2,zlb,zs3,zwh,zsf,zwi,zwl,zws,zsl,zsm,zo0,zo1,zji,zjj,zza,zsg,zwk,zzb,zzc,zvw,zvv,zwt,zwu,zsn,zso,zsp,zsq,zsr,zwv,zww,zjk,zle,zlf,zwg,zs4,zs5,zno,zs6,zs7,zl7,zs8,zgk,zlc,zs9,zsa,zsb,zsc,zsd,znp,List.map_cons,List.map_nil,List.length_cons,List.length_nil,List.cons_append,List.nil_append,List.replicate_succ,List.replicate_zero,List.getElem?_cons_zero,List.getElem?_cons_succ,List.set_cons_zero,List.set_cons_succ,Option.map_some,Option.getD_some,if_true,if_false,Bool.false_eq_true,Bool.not_true,Bool.not_false,Bool.and_false,Bool.false_and,Bool.or_true,Bool.true_or,Bool.or_false,Bool.false_or,Nat.reduceAdd,Nat.reduceLeDiff,Nat.reduceEqDiff,reduceCtorEq,decide_true,decide_false,Int.reduceEq])
abbrev Tm:=List Int×Int
def TM (t:Tm):D:=.tup [.tup (t.1.map D.int),.int t.2]
theorem z7d:∀{a b:List Int},a.map D.int=b.map D.int->a=b
 | [],[],_=>rfl
 | [],_::_,h=>by simp at h
 | _::_,[],h=>by simp at h
 | x::a,y::b,h=>by
  simp only [List.map_cons,List.cons.injEq,D.int.injEq] at h
  rw [h.1,z7d h.2]
theorem zlu {p q:Tm} (h:TM p=TM q):p=q:=by
 obtain ⟨a,b⟩:=p;obtain ⟨c,d⟩:=q
 simp only [TM,D.tup.injEq,List.cons.injEq,D.int.injEq,and_true] at h
 rw [z7d h.1,h.2]
def z08 (l:List Tm):List (List Int):=l.map (·.1)
def z12 (l:List Tm) (k:List Int):Int:=((l.find? fun t=>decide (t.1=k)).map (·.2)).getD 0
def z3q (l:List Tm) (k:List Int) (v:Int):List Tm:=if k∈z08 l then l.map (fun t=>if t.1=k then (k,v) else t) else l++[(k,v)]
def z0b (a b:List Tm):List Tm:=b.foldl (fun d t=>z3q d t.1 (z12 d t.1+t.2)) a
def tot:List Tm->List Int->Int
 | [],_=>0
 | t::r,k=>(if t.1=k then t.2 else 0)+tot r k
theorem z3w (k:List Int):z12 [] k=0:=rfl
theorem z1o (t:Tm) (l:List Tm) (k:List Int):z12 (t::l) k=if t.1=k then t.2 else z12 l k:=by
 unfold z12
 by_cases h:t.1=k
 . rw [List.find?_cons_of_pos (by simpa using h),if_pos h];rfl
 . rw [List.find?_cons_of_neg (by simpa using h),if_neg h]
theorem zjx {l:List Tm} {k:List Int} (h:k∉z08 l):z12 l k=0:=by
 induction l with
 | nil=>rfl
 | cons t l ih=>
  simp only [z08,List.map_cons,List.mem_cons,not_or] at h
  rw [z1o,if_neg (fun z=>h.1 z.symm)]
  exact ih h.2
theorem zc8 {l:List Tm} {t:Tm} (hn:(z08 l).Nodup) (h:t∈l):z12 l t.1=t.2:=by
 induction l with
 | nil=>cases h
 | cons x l ih=>
  simp only [z08,List.map_cons,List.nodup_cons] at hn
  rw [z1o]
  rcases List.mem_cons.mp h with rfl | h
  . rw [if_pos rfl]
  . rw [if_neg (fun z=>hn.1 (by rw [z];exact List.mem_map.mpr ⟨t,h,rfl⟩))]
    exact ih hn.2 h
theorem z9g {l:List Tm} {k:List Int} (h:z12 l k≠0):(k,z12 l k)∈l:=by
 induction l with
 | nil=>exact absurd rfl h
 | cons x l ih=>
  rw [z1o] at h ⊢
  by_cases z:x.1=k
  . rw [if_pos z]
    exact List.mem_cons.mpr (.inl (by rw [<-z]))
  . rw [if_neg z] at h ⊢
    exact List.mem_cons.mpr (.inr (ih h))
theorem zao {k:List Int} (v:Int) {j:List Int} (hj:j≠k):∀l:List Tm,z12 (l.map (fun t=>if t.1=k then (k,v) else t)) j=z12 l j
 | []=>rfl
 | t::l=>by
  rw [List.map_cons,z1o,z1o,zao v hj l]
  by_cases h:t.1=k
  . rw [if_pos h,if_neg (fun z=>hj z.symm),if_neg (fun z=>hj (by rw [<-z,h]))]
  . rw [if_neg h]
theorem zap {k:List Int} (v:Int):∀l:List Tm,k∈z08 l->z12 (l.map (fun t=>if t.1=k then (k,v) else t)) k=v
 | [],h=>by cases h
 | t::l,h=>by
  rw [List.map_cons,z1o]
  by_cases z:t.1=k
  . rw [if_pos z,if_pos rfl]
  . rw [if_neg z,if_neg z]
    refine zap v l ?_
    rcases List.mem_cons.mp h with q | q
    . exact absurd q.symm z
    . exact q
theorem zet (l:List Tm) (k:List Int) (v:Int) (j:List Int) (h:k∉z08 l):z12 (l++[(k,v)]) j=if j=k then v else z12 l j:=by
 induction l with
 | nil=>
  rw [List.nil_append,z1o,z3w]
  by_cases hj:j=k
  . rw [if_pos hj.symm,if_pos hj]
  . rw [if_neg (fun z=>hj z.symm),if_neg hj]
 | cons t l ih=>
  simp only [z08,List.map_cons,List.mem_cons,not_or] at h
  rw [List.cons_append,z1o,z1o,ih h.2]
  by_cases hj:j=k
  . subst hj
    rw [if_neg (fun z=>h.1 z.symm),if_pos rfl,if_pos rfl]
  . rw [if_neg hj,if_neg hj]
theorem zhm (l:List Tm) (k:List Int) (v:Int) (j:List Int):z12 (z3q l k v) j=if j=k then v else z12 l j:=by
 unfold z3q
 by_cases h:k∈z08 l
 . rw [if_pos h]
   by_cases hj:j=k
   . rw [if_pos hj,hj];exact zap v l h
   . rw [if_neg hj];exact zao v hj l
 . rw [if_neg h];exact zet l k v j h
theorem z5b (l:List Tm) (k:List Int) (v:Int):z08 (z3q l k v)=if k∈z08 l then z08 l else z08 l++[k]:=by
 unfold z3q
 by_cases h:k∈z08 l
 . rw [if_pos h,if_pos h]
   unfold z08
   rw [List.map_map]
   apply List.map_congr_left
   intro t _
   show (if t.1=k then (k,v) else t).1=t.1
   split
   . rename_i z;exact z.symm
   . rfl
 . rw [if_neg h,if_neg h]
   simp [z08]
theorem z4b {l:List Tm} (k:List Int) (v:Int) (h:(z08 l).Nodup):(z08 (z3q l k v)).Nodup:=by
 rw [z5b]
 split
 . exact h
 . rename_i hk
   exact List.nodup_append.mpr ⟨h,by simp,fun x hx y hy e=>hk (by rw [List.mem_singleton.mp hy] at e;rw [<-e];exact hx)⟩
theorem z3x (a:List Tm) (t:Tm) (b:List Tm):z0b a (t::b)=z0b (z3q a t.1 (z12 a t.1+t.2)) b:=rfl
theorem z4w:∀(b a:List Tm) (j:List Int),z12 (z0b a b) j=z12 a j+tot b j
 | [],a,j=>by simp [z0b,tot]
 | t::b,a,j=>by
  rw [z3x,z4w b,zhm,tot]
  by_cases h:j=t.1
  . subst h
    rw [if_pos rfl,if_pos rfl];omega
  . rw [if_neg h,if_neg (fun z=>h z.symm)];omega
theorem z33:∀(b a:List Tm),(z08 a).Nodup->(z08 (z0b a b)).Nodup
 | [],a,h=>h
 | t::b,a,h=>by rw [z3x];exact z33 b _ (z4b _ _ h)
theorem z5c:∀(b a:List Tm) (k:List Int),k∈z08 (z0b a b)->k∈z08 a\/k∈z08 b
 | [],a,k,h=>.inl h
 | t::b,a,k,h=>by
  rw [z3x] at h
  simp only [z08,List.map_cons,List.mem_cons]
  rcases z5c b _ k h with h | h
  . rw [z5b] at h
    split at h
    . exact .inl h
    . rcases List.mem_append.mp h with h | h
      . exact .inl h
      . exact .inr (.inl (List.mem_singleton.mp h))
  . exact .inr (.inr h)
theorem z7e:∀{b:List Tm},(z08 b).Nodup->∀j,tot b j=z12 b j
 | [],_,j=>rfl
 | t::b,h,j=>by
  simp only [z08,List.map_cons,List.nodup_cons] at h
  rw [tot,z1o,z7e (b:=b) h.2]
  split
  . rename_i z
    rw [zjx (l:=b) (by rw [<-z];exact h.1)];omega
  . omega
theorem zdb {b:List Tm} {j:List Int} (h:j∉z08 b):tot b j=0:=by
 induction b with
 | nil=>rfl
 | cons t b ih=>
  simp only [z08,List.map_cons,List.mem_cons,not_or] at h
  rw [tot,if_neg (fun z=>h.1 z.symm),ih h.2];rfl
def soM (ls:List Tm):List Tm:=zaf (fun a b=>ltT (TM a) (TM b)) ls
theorem z7f (ls:List Tm):z5q (ls.map TM)=(soM ls).map TM:=zag _ _
theorem z5d (ls:List Tm):(soM ls).Perm ls:=z8a _ _
theorem zhn (a:Tm):(TM a).oi=true:=by
 simp only [TM,D.oi,ois,Bool.and_true]
 exact z8b _ _ zzd
theorem zdc {a b:List Tm} (p:a.Perm b):soM a=soM b:=by
 have:=zgo (z8b b TM zhn) (p.map TM)
 rw [z7f,z7f] at this
 exact z94 (fun _ _=>zlu) this
def nz (t:Tm):Bool:=decide (t.2≠0)
def Cn (l:List Tm):List Tm:=soM (l.filter nz)
theorem z8j {l:List Tm} (h:(z08 l).Nodup):l.Nodup:=by
 unfold z08 List.Nodup at h
 rw [List.pairwise_map] at h
 exact h.imp fun z e=>z (by rw [e])
theorem mem_Cn {l:List Tm} {t:Tm}:t∈Cn l↔t∈l/\t.2≠0:=by
 unfold Cn
 rw [(z5d _).mem_iff,List.mem_filter]
 simp [nz]
theorem z2i {l:List Tm} (hn:(z08 l).Nodup) {t:Tm}:t∈Cn l↔z12 l t.1=t.2/\t.2≠0:=by
 rw [mem_Cn]
 constructor
 . rintro ⟨h,z⟩;exact ⟨zc8 hn h,z⟩
 . rintro ⟨h,z⟩
   have:=z9g (l:=l) (k:=t.1) (by rw [h];exact z)
   rw [h] at this
   exact ⟨this,z⟩
theorem zok {a b:List Tm} (ha:a.Nodup) (hb:b.Nodup) (h:∀t,t∈a↔t∈b):a.Perm b:=(List.perm_ext_iff_of_nodup ha hb).mpr h
theorem ztk {a b:List Tm} (ha:(z08 a).Nodup) (hb:(z08 b).Nodup) (h:∀j,z12 a j=z12 b j):Cn a=Cn b:=by
 unfold Cn
 refine zdc (zok ((z8j ha).filter _) ((z8j hb).filter _) fun t=>?_)
 have e1:=z2i ha (t:=t)
 have e2:=z2i hb (t:=t)
 rw [h] at e1
 have:=e1.trans e2.symm
 unfold Cn at this
 rwa [(z5d _).mem_iff,(z5d _).mem_iff] at this
theorem zjy {a b:List Tm} (h:a.Sublist b):(z08 a).Sublist (z08 b):=h.map _
theorem z5e {l:List Tm} (hn:(z08 l).Nodup):(z08 (Cn l)).Nodup:=by
 have p:(z08 (Cn l)).Perm (z08 (l.filter nz)):=(z5d _).map _
 exact p.nodup_iff.mpr (List.Nodup.sublist (zjy List.filter_sublist) hn)
theorem zdd {l:List Tm} (hn:(z08 l).Nodup) (j:List Int):z12 (Cn l) j=z12 l j:=by
 by_cases h:z12 l j=0
 . rw [h]
   cases Decidable.em (z12 (Cn l) j=0) with
   | inl z=>exact z
   | inr z=>
    have:=(z2i hn).mp (z9g z)
    simp only at this
    exact absurd (this.1.symm.trans h) this.2
 . have:(j,z12 l j)∈Cn l:=(z2i hn).mpr ⟨rfl,h⟩
   exact zc8 (z5e hn) this
theorem zaq (l:List Tm):(Cn l).length<=l.length:=by
 unfold Cn
 rw [(z5d _).length_eq]
 exact List.length_filter_le _ _
def zjz (l:List Tm):List Tm:=l.map fun t=>(t.1,-t.2)
theorem zho:∀(l:List Tm) (j:List Int),tot (zjz l) j=- tot l j
 | [],j=>rfl
 | t::l,j=>by
  show (if t.1=j then -t.2 else 0)+tot (zjz l) j=-((if t.1=j then t.2 else 0)+tot l j)
  rw [zho l]
  split<;>omega
theorem z0n {a r:DS->SR} {ρ ρ':DS} (h:a ρ=.nx ρ'):z1e a r ρ=r ρ':=by rw [zl3,h,zl4]
def kN (ps:List Int):NK:=.t (ps.map NK.i)
theorem zhp:∀ps:List Int,zlg (ps.map D.int)=some (ps.map NK.i)
 | []=>by simp only [List.map_nil,zlg]
 | p::ps=>by simp only [List.map_cons,zlg,nkD,zhp ps]
theorem zhq (ps:List Int):nkD (.tup (ps.map D.int))=some (kN ps):=by simp only [nkD,zhp,Option.map_some,kN]
theorem zde:∀ps:List Int,z3y (ps.map NK.i)=0
 | []=>by simp only [List.map_nil,z3y]
 | p::ps=>by simp only [List.map_cons,z3y,zde ps,NK.dep,Nat.max_self]
theorem zhr (ps:List Int):(kN ps).dep<=8:=by simp only [kN,NK.dep,zde];decide
theorem zlv:∀ps:List Int,z63 (ps.map NK.i)=ps.map D.int
 | []=>by simp only [List.map_nil,z63]
 | p::ps=>by simp only [List.map_cons,z63,z58,zlv ps]
theorem zzi (ps:List Int):z58 (kN ps)=.tup (ps.map D.int):=by simp only [kN,z58,zlv]
theorem zlw:∀a b:List Int,(z2v (a.map D.int) (b.map D.int)).isSome=true
 | [],[]=>by simp [z2v]
 | [],_::_=>by simp [z2v]
 | _::_,[]=>by simp [z2v]
 | x::a,y::b=>by
  simp only [List.map_cons,z2v]
  split
  . exact zlw a b
  . exact zwr x y
theorem ztl (a b:List Int×Int):(z36 (TM a) (TM b)).isSome=true:=by
 simp only [TM,z36,z2v]
 split
 . split
   . rfl
   . rfl
 . exact zlw a.1 b.1
theorem zlx (a:List Int×Int):(TM a).dep<=3:=by
 have:=zbt a.1 D.int 0 (fun x=>by simp [D.dep])
 simp only [TM,D.dep,z7j];omega
theorem zar:∀{a b:List Int},a.map NK.i=b.map NK.i->a=b
 | [],[],_=>rfl
 | [],_::_,h=>by simp at h
 | _::_,[],h=>by simp at h
 | x::a,y::b,h=>by
  simp only [List.map_cons,List.cons.injEq,NK.i.injEq] at h
  rw [h.1,zar h.2]
theorem zdf {a b:List Int} (h:kN a=kN b):a=b:=zar (NK.t.inj h)
def dnA (l:List Tm):D:=.dn (l.map fun t=>kN t.1) (l.map fun t=>.int t.2)
theorem kmem {k:List Int} {l:List Tm}:kN k∈(l.map fun t=>kN t.1)↔k∈z08 l:=by
 unfold z08
 rw [List.mem_map,List.mem_map]
 constructor
 . rintro ⟨t,h,e⟩;exact ⟨t,h,zdf e⟩
 . rintro ⟨t,h,e⟩;exact ⟨t,h,by rw [e]⟩
theorem zhs:∀l:List Tm,pairsD (l.map TM)=some (l.map (fun t=>kN t.1),l.map fun t=>.int t.2)
 | []=>rfl
 | t::l=>by
  rw [List.map_cons]
  show (match nkD (.tup (t.1.map D.int)),pairsD (l.map TM) with | some k,some (ks,vs)=>some (k::ks,D.int t.2::vs) | _,_=>none)=_
  rw [zhq,zhs l];rfl
theorem zk0 {l:List Tm} (h:(z08 l).Nodup):(l.map fun t=>kN t.1).Nodup:=by
 unfold z08 List.Nodup at *
 rw [List.pairwise_map] at h ⊢
 exact h.imp fun z e=>z (zdf e)
theorem zly {l:List Tm} (h:(z08 l).Nodup) (hl:l.length<=50000):dDictL [.lst (l.map TM)]=some (dnA l):=by
 show (match pairsD (l.map TM) with | some (ks,vs)=>_ | none=>none)=_
 rw [zhs]
 show (if _ then some _ else none)=_
 rw [if_pos ⟨zk0 h,by rw [List.length_map];omega,fun k hk=>by
  obtain ⟨t,_,rfl⟩:=List.mem_map.mp hk
  exact zhr _⟩]
 rfl
theorem ztm (k:List Int):∀l:List Tm,(valN (l.map fun t=>kN t.1) (l.map fun t=>D.int t.2) (kN k)).getD (.int 0)=.int (z12 l k)
 | []=>rfl
 | t::l=>by
  rw [z1o,List.map_cons,List.map_cons]
  unfold valN
  rw [List.zip_cons_cons]
  by_cases h:t.1=k
  . rw [List.find?_cons_of_pos (by simp [h]),if_pos h];rfl
  . rw [List.find?_cons_of_neg (by simpa using fun e=>h (zdf e)),if_neg h]
    exact ztm k l
theorem zk1 (l:List Tm) (k:List Int):dGetN (dnA l) (.tup (k.map D.int)) (.int 0)=some (.int (z12 l k)):=by
 simp only [dnA,dGetN,zhq]
 rw [if_pos (zhr k),ztm]
theorem ztn (k:List Int) (v:Int):∀l:List Tm,List.zipWith (fun k' d'=>if k'=kN k then D.int v else d') (l.map fun t=>kN t.1) (l.map fun t=>D.int t.2)=(l.map fun t=>if t.1=k then (k,v) else t).map fun t=>D.int t.2
 | []=>rfl
 | t::l=>by
  rw [List.map_cons,List.map_cons,List.map_cons,List.map_cons,List.zipWith_cons_cons,ztn k v l]
  congr 1
  by_cases h:t.1=k
  . rw [if_pos (by rw [h]),if_pos h]
  . rw [if_neg (fun e=>h (zdf e)),if_neg h]
theorem zht {l:List Tm} (hl:l.length<=50000) (k:List Int) (v:Int):dSetN (dnA l) (.tup (k.map D.int)) (.int v)=some (dnA (z3q l k v)):=by
 simp only [dnA,dSetN,zhq]
 rw [if_pos ⟨by rw [List.length_map];omega,zhr k⟩]
 have ek:zj3 (l.map fun t=>kN t.1) (kN k)=(z3q l k v).map fun t=>kN t.1:=by
  have:=congrArg (List.map kN) (z5b l k v)
  have e2:∀x:List Tm,(z08 x).map kN=x.map fun t=>kN t.1:=fun x=>by unfold z08;rw [List.map_map];rfl
  rw [e2] at this
  rw [this]
  unfold zj3
  by_cases h:k∈z08 l
  . rw [if_pos (kmem.mpr h),if_pos h,e2]
  . rw [if_neg (fun z=>h (kmem.mp z)),if_neg h,List.map_append,e2];rfl
 have ev:ze9 (l.map fun t=>kN t.1) (l.map fun t=>D.int t.2) (kN k) (.int v)=(z3q l k v).map fun t=>D.int t.2:=by
  unfold ze9 z3q
  by_cases h:k∈z08 l
  . rw [if_pos (kmem.mpr h),if_pos h,ztn]
  . rw [if_neg (fun z=>h (kmem.mp z)),if_neg h,List.map_append];rfl
 rw [ek,ev]
theorem zto:∀l:List Tm,(((l.map fun t=>kN t.1).zip (l.map fun t=>D.int t.2)).map fun p=>D.tup [z58 p.1,p.2])=l.map TM
 | []=>rfl
 | t::l=>by
  rw [List.map_cons,List.map_cons,List.zip_cons_cons,List.map_cons,List.map_cons,zto l]
  show D.tup [z58 (kN t.1),.int t.2]::_=TM t::_
  rw [zzi];rfl
theorem zol {l:List Tm} {f:DE->R D} {ρ:DE} (h:f ρ=.ok (dnA l)):zij f ρ=.ok (l.map TM):=by
 unfold zij
 rw [h,R.bind_ok]
 show (if (l.map fun t=>kN t.1).length=(l.map fun t=>D.int t.2).length then R.ok (((l.map fun t=>kN t.1).zip (l.map fun t=>D.int t.2)).map fun p=>D.tup [z58 p.1,p.2]) else .st)=_
 rw [if_pos (by rw [List.length_map,List.length_map]),zto]
theorem zdg {fd fk fz:DE->R D} {ρ:DE} {ks:List NK} {ds:List D} {es:List D} {v:Int} (h1:fd ρ=.ok (.dn ks ds)) (h2:fk ρ=.ok (.tup es)) (h3:fz ρ=.ok (.int 0)) (h:dGetN (.dn ks ds) (.tup es) (.int 0)=some (.int v)):eGetN fd fk fz ρ=.ok (.int v):=by
 unfold eGetN
 rw [h1,R.bind_ok]
 show ((fk ρ).bind fun k=>(fz ρ).bind fun z=>R.of (dGetN (.dn ks ds) k z))=_
 rw [h2,R.bind_ok,h3,R.bind_ok,h];rfl
theorem ztp (A B:Sl) (l:List Tm) (hl:l.length<=50000) (t:Tm):z6g [A,B,.ow (dnA l),.im (.tup (t.1.map D.int)),.im (.int t.2)]=.nx [A,B,.ow (dnA (z3q l t.1 (z12 l t.1+t.2))),.im (.tup (t.1.map D.int)),.im (.int t.2)]:=by
 have e1:=zk1 l t.1
 have e2:=zht hl t.1 (z12 l t.1+t.2)
 have n1:z3z (t.1.map D.int)=true:=z27 D.int t.1 fun x _=>z3t x
 generalize z3q l t.1 (z12 l t.1+t.2)=l' at e2 ⊢
 unfold dnA at *
 generalize (l.map fun t=>kN t.1)=ks at *
 generalize (l.map fun t=>D.int t.2)=ds at *
 generalize (l'.map fun t=>kN t.1)=ks' at *
 generalize (l'.map fun t=>D.int t.2)=ds' at *
 generalize t.1.map D.int=es at *
 generalize t.2=n at *
 unfold z6g
 walk_at "dz"
 rw [zdg rfl rfl rfl e1]
 walk_at "dz"
 rw [n1]
 walk_at "dz"
 rw [e2]
 walk_at "dz"
theorem z5x (l:List Tm) (k:List Int) (v:Int):(z3q l k v).length<=l.length+1:=by
 unfold z3q
 split
 . rw [List.length_map];omega
 . rw [List.length_append];exact Nat.le_refl _
theorem z4x:∀(b a:List Tm),(z0b a b).length<=a.length+b.length
 | [],a=>Nat.le_refl _
 | t::b,a=>by
  rw [z3x]
  have:=z4x b (z3q a t.1 (z12 a t.1+t.2))
  have:=z5x a t.1 (z12 a t.1+t.2)
  rw [List.length_cons];omega
theorem zk2 {a b:List Tm} {k:Nat} (h:k<b.length):z0b a (b.take (k+1))=z3q (z0b a (b.take k)) (b.getD k ([],0)).1 (z12 (z0b a (b.take k)) (b.getD k ([],0)).1+(b.getD k ([],0)).2):=by
 rw [List.take_add_one,List.getElem?_eq_getElem h,List.getD_eq_getElem?_getD,List.getElem?_eq_getElem h]
 unfold z0b
 rw [Option.toList_some,List.foldl_append];rfl
theorem ztq (t:Tm):z45 [some (.tup (t.1.map D.int)),some (.int t.2)]=.ok (nz t):=by
 unfold z45
 walk_at "dz"
 simp [nz]
theorem ztr (t:Tm):z46 [some (.tup (t.1.map D.int)),some (.int t.2)]=.ok (TM t):=by
 unfold z46
 walk_at "dz"
 rfl
theorem zeu (ls:List Tm):z72 (ls.map TM)=true:=by
 unfold z72
 rw [z8b _ _ zhn,decide_eq_true (Nat.le_trans (zbt ls TM 3 zlx) (by decide)),zgp ls TM (fun d=>(ls.map TM).all fun e=>(z36 d e).isSome) (fun x=>zgp _ _ _ fun y=>ztl x y),zgp ls TM zn7 (fun x=>rfl)]
 simp
theorem zhu (l:List Tm):z3l [.lst (l.map TM)]=some (.lst ((soM l).map TM)):=by
 simp only [z3l,zeu l,if_true,z7f]
theorem zdh {l:List Tm} {f:DE->R D} {ρ:DE} {t1:DE->R Bool} {f2:DE->R D} (h:f ρ=.ok (dnA l)) (hl:l.length<=50000) (h1:∀t:Tm,t1 [some (.tup (t.1.map D.int)),some (.int t.2)]=.ok (nz t)) (h2:∀t:Tm,f2 [some (.tup (t.1.map D.int)),some (.int t.2)]=.ok (TM t)) :
  eCB z3l (z00 (z1k (zij f) (bT 2) [] t1 f2) z0c) ρ=.ok (.lst ((Cn l).map TM)):=by
 have hc:z1k (zij f) (bT 2) [] t1 f2 ρ=.ok (.lst ((l.filter nz).map TM)):=by
  unfold z1k
  rw [zol h,R.bind_ok,if_pos (by rw [List.length_map];omega)]
  show ((z4m (bT 2) t1 f2 [] (l.map TM)).bind fun ys=>R.ok (D.lst ys))=_
  rw [zgl (bn:=bT 2) (en:=TM) (bs:=fun t=>[.tup (t.1.map D.int),.int t.2]) (p:=nz) (g:=TM) l (fun x _=>rfl) (fun t _=>h1 t) (fun t _ _=>h2 t)];rfl
 unfold eCB z00
 rw [hc,R.bind_ok]
 show R.of (z3l [_])=_
 rw [zhu];rfl
def drw (ns:List Int) (k:Int):Int:=(zbl ns (some k) (some (k+1))).sum
theorem zc9 (ns:List Int) (k:Int):z0y [.scr ns,.int k]=.ok (.int (drw ns k)):=by
 unfold z0y z64 drw
 walk_at "dz"
theorem zts (i:Int):z0o [.int i]=.ok (.bl true):=by
 unfold z0o z40
 walk_at "dz"
theorem zxa:zqr (.int 10) (.int 29)=some (.int (10 ^ 29)):=by
 unfold zqr;rw [z6w,if_pos (show zma 10 29 from ⟨by decide,by decide,by decide⟩)];rfl
theorem zk3 (cell:Int) (m w:Nat) (hm:m<=5) (hw:w<=60) (num:Int) (h0:0<=num) (h1:num<2147483647) (ps:List Int) (k:Nat) (hp:ps.length=k) (hk:k<=5) (hb:∀p∈ps,-(w:Int)<=p/\p<=w) (x:Sl) :
  ∃(num':Int) (ps':List Int),(0<=num'/\num'<2147483647)/\ps'.length=k+1/\(∀p∈ps',-(w:Int)<=p/\p<=w) /\
   z1i [.im (.int cell),.im (.int (m:Int)),.im (.int (w:Int)),.im (.int num),.ow (L ps),.im (.int (0+(k:Int)))]=.nx [.im (.int cell),.im (.int (m:Int)),.im (.int (w:Int)),.im (.int num'),.ow (L ps'),.im (.int (0+(k:Int)))]:=by
 have n0:0<=(num * num+48271 * num+(0+(k:Int)) * (0+(k:Int))+11) % 2147483647:=Int.emod_nonneg _ (by decide)
 have n1:(num * num+48271 * num+(0+(k:Int)) * (0+(k:Int))+11) % 2147483647<2147483647:=Int.emod_lt_of_pos _ (by decide)
 unfold z1i
 rw [z0n (ρ':=[.im (.int cell),.im (.int (m:Int)),.im (.int (w:Int)),.im (.int ((num * num+48271 * num+(0+(k:Int)) * (0+(k:Int))+11) % 2147483647)),.ow (L ps),.im (.int (0+(k:Int)))]) (by
  walk_at "dz"
  rw [zgn (by omega),zgn (by omega),zgn (by omega)]
  walk_at "dz"
  rw [z42 (by decide)]
  walk_at "dz")]
 generalize (num * num+48271 * num+(0+(k:Int)) * (0+(k:Int))+11) % 2147483647=q at n0 n1
 have e0:0<=q / 5 % (2 * (w:Int)+1):=Int.emod_nonneg _ (by omega)
 have e1:q / 5 % (2 * (w:Int)+1)<2 * (w:Int)+1:=Int.emod_lt_of_pos _ (by omega)
 refine ⟨q,ps++[q / 5 % (2 * (w:Int)+1) - w],⟨n0,n1⟩,by rw [List.length_append,hp];rfl,fun p hp=>?_,?_⟩
 . rcases List.mem_append.mp hp with z | z
   . exact hb p z
   . rw [List.mem_singleton.mp z];omega
 . walk_at "dz"
   rw [z6y (by decide),zgn (by decide)]
   walk_at "dz"
   rw [z42 (by omega)]
   walk_at "dz"
   rw [zwj (by omega)]
   walk_at "dz"
theorem zdi (cell:Int) (m w:Nat) (hm:m<=5) (hw:w<=60):∃ps:List Int,ps.length=m/\(∀p∈ps,-(w:Int)<=p/\p<=w)/\z0z [.int cell,.int (m:Int),.int (w:Int)]=.ok (.tup (ps.map D.int)):=by
 unfold z0z z5a
 walk_at "dz"
 rw [z42 (by decide)]
 walk_at "dz"
 rw [zwq (m:Int) (by omega) (by walk_at "dz")]
 walk_at "dz"
 simp only [zD]
 obtain ⟨ρ',h,num,ps,x,hn,hl,hb,hr⟩:=z93 (tg:=.n 5) (g:=z1i) m (fun (d:Nat)=>D.int (0+(d:Int)))
  (fun k ρ=>∃(num:Int) (ps:List Int) (x:Sl),(0<=num/\num<2147483647)/\ps.length=k/\(∀p∈ps,-(w:Int)<=p/\p<=w)/\ρ=[.im (.int cell),.im (.int (m:Int)),.im (.int (w:Int)),.im (.int num),.ow (L ps),x])
  [.im (.int cell),.im (.int (m:Int)),.im (.int (w:Int)),.im (.int (cell % 2147483647)),.ow (L []),.em]
  ⟨_,[],.em,⟨Int.emod_nonneg _ (by decide),Int.emod_lt_of_pos _ (by decide)⟩,rfl,by simp,rfl⟩ (by
   rintro k hk ρ ⟨num,ps,x,hn,hl,hb,rfl⟩
   obtain ⟨num',ps',a1,a2,a3,e⟩:=zk3 cell m w hm hw num hn.1 hn.2 ps k hl (by omega) hb x
   exact ⟨_,_,rfl,Or.inl e,⟨num',ps',_,a1,a2,a3,rfl⟩⟩)
 refine ⟨ps,hl,hb,?_⟩
 rw [show ((m:Int)).toNat=m by omega]
 have h':ze5 (.n 5) z1i ((List.range m).map fun (d:Nat)=>D.int (0+(d:Int))) [.im (.int cell),.im (.int (m:Int)),.im (.int (w:Int)),.im (.int (cell % 2147483647)),.ow (.lst []),.em]=.nx ρ':=h
 rw [h',hr]
 walk_at "dz"
 simp only [L]
 walk_at "dz"
theorem zom (cell:Int):∃t:Int,t.natAbs<=10 ^ 29/\z1y [.int cell]=.ok (.int t):=by
 unfold z1y z65
 walk_at "dz"
 rw [z42 (by decide)]
 walk_at "dz"
 by_cases h:cell % 3=2
 . have h0:0<=cell / 3 % (2 * 10 ^ 29 - 1):=Int.emod_nonneg _ (by decide)
   have h1:cell / 3 % (2 * 10 ^ 29 - 1)<2 * 10 ^ 29 - 1:=Int.emod_lt_of_pos _ (by decide)
   refine ⟨cell / 3 % (2 * 10 ^ 29 - 1)+1 - 10 ^ 29,by omega,?_⟩
   rw [decide_eq_true h]
   walk_at "dz"
   rw [z6y (by decide),zxa]
   walk_at "dz"
   rw [zgn (by decide)]
   walk_at "dz"
   rw [z42 (by decide)]
   walk_at "dz"
 . have h0:0<=cell / 3 % 7:=Int.emod_nonneg _ (by decide)
   have h1:cell / 3 % 7<7:=Int.emod_lt_of_pos _ (by decide)
   refine ⟨cell / 3 % 7 - 3,by omega,?_⟩
   rw [decide_eq_false h]
   walk_at "dz"
   rw [z6y (by decide)]
   walk_at "dz"
   rw [z42 (by decide)]
   walk_at "dz"
theorem zxb (C:D) (m:Nat) (hm:m<=5) (Z:List Tm) (hz:Z.length<=1000) (i:Nat) (cell:Int) :
  ∃(ps:List Int) (v:Int),ps.length=m/\v.natAbs<=10 ^ 29 /\
   z39 [.im C,.im (.int (m:Int)),.ow (dnA Z),.im (.int (i:Int)),.im (.int cell)]=.nx [.im C,.im (.int (m:Int)),.ow (dnA (z3q Z ps v)),.im (.int (i:Int)),.im (.int cell)]:=by
 obtain ⟨t,ht,et⟩:=zom cell
 obtain ⟨ps,l1,l2,ep⟩:=zdi (cell+(i:Int)) m 2 hm (by omega)
 have e:=zht (l:=Z) (by omega) ps t
 refine ⟨ps,t,l1,ht,?_⟩
 generalize z3q Z ps t=Z' at e ⊢
 unfold dnA at *
 generalize (Z.map fun t=>kN t.1)=ks at *
 generalize (Z.map fun t=>D.int t.2)=ds at *
 generalize (Z'.map fun t=>kN t.1)=ks' at *
 generalize (Z'.map fun t=>D.int t.2)=ds' at *
 unfold z39
 walk_at "dz"
 rw [et]
 walk_at "dz"
 rw [show D.int 2=D.int ((2:Nat):Int) from rfl,ep]
 walk_at "dz"
 rw [show z3z (ps.map D.int)=true from z27 D.int ps fun x _=>z3t x]
 walk_at "dz"
 rw [e]
 walk_at "dz"
theorem zxc (t:Tm):z47 [some (.tup (t.1.map D.int)),some (.int t.2)]=.ok (nz t):=by
 unfold z47
 walk_at "dz"
 simp [nz]
theorem zxd (t:Tm):z48 [some (.tup (t.1.map D.int)),some (.int t.2)]=.ok (TM t):=by
 unfold z48
 walk_at "dz"
 rfl
structure Gd (m n:Nat) (Z:List Tm):Prop where
 nd:(z08 Z).Nodup
 len:∀t∈Z,t.1.length=m
 bd:∀t∈Z,t.2.natAbs<=10 ^ 29
 few:Z.length<=n
theorem Gd.put {m n:Nat} {Z:List Tm} (g:Gd m n Z) {ps:List Int} (hp:ps.length=m) (v:Int) (hv:v.natAbs<=10 ^ 29):Gd m (n+1) (z3q Z ps v):=⟨z4b _ _ g.nd,fun t ht=>by
 have hk:t.1∈z08 (z3q Z ps v):=List.mem_map.mpr ⟨t,ht,rfl⟩
 rw [z5b] at hk
 have old:t.1∈z08 Z->t.1.length=m:=fun h=>by
  obtain ⟨x,hx,e⟩:=List.mem_map.mp h
  rw [<-e];exact g.len x hx
 split at hk
 . exact old hk
 . rcases List.mem_append.mp hk with h | h
   . exact old h
   . rw [List.mem_singleton.mp h];exact hp,fun t ht=>by
 unfold z3q at ht
 split at ht
 . obtain ⟨u,hu,e⟩:=List.mem_map.mp ht
   split at e
   . rw [<-e];exact hv
   . rw [<-e];exact g.bd u hu
 . rcases List.mem_append.mp ht with h | h
   . exact g.bd t h
   . rw [List.mem_singleton.mp h];exact hv,by
 have:=z5x Z ps v
 have:=g.few
 omega⟩
theorem ztt (cells:List Int) (hc:cells.length<=63) (m:Nat) (hm:m<=5):∃Z:List Tm,Gd m cells.length Z/\z2g [L cells,.int (m:Int)]=.ok (.lst ((Cn Z).map TM)):=by
 unfold z2g
 rw [z7w,if_pos (show [L cells,D.int (m:Int)].length=2 from rfl)]
 show ∃Z:List Tm,Gd m cells.length Z/\SR.out true (z5t [.im (L cells),.im (.int (m:Int)),.em,.em,.em])=_
 unfold z5t
 rw [z0n (ρ':=[.im (L cells),.im (.int (m:Int)),.ow (.dn [] []),.em,.em]) (by
  walk_at "dz"
  simp only [zbw]
  walk_at "dz"
  rw [show keeps true (D.dn [] [])=true from rfl]
  walk_at "dz")]
 obtain ⟨ρ',q,Z,s4,s5,g,hr⟩:=z93 (tg:=.t [3,4]) (g:=z39) cells.length (fun (i:Nat)=>D.tup [.int (i:Int),.int (cells.getD i 0)])
  (fun k ρ=>∃(Z:List Tm) (s4 s5:Sl),Gd m k Z/\ρ=[.im (L cells),.im (.int (m:Int)),.ow (dnA Z),s4,s5])
  [.im (L cells),.im (.int (m:Int)),.ow (.dn [] []),.em,.em] ⟨[],.em,.em,⟨by simp [z08],by simp,by simp,by simp⟩,rfl⟩ (by
   rintro i hi ρ ⟨Z,s4,s5,g,rfl⟩
   obtain ⟨ps,v,hp,hv,e⟩:=zxb (L cells) m hm Z (by have:=g.few;omega) i (cells.getD i 0)
   exact ⟨_,_,rfl,Or.inl e,⟨_,_,_,g.put hp v hv,rfl⟩⟩)
 rw [z0n (ρ':=ρ') (by
  rw [<-q]
  unfold zbd
  rw [show iEn (z00 (z03 0) z0c) (vis [true] [.im (L cells),.im (.int (m:Int)),.ow (.dn [] []),.em,.em])=.ok ((List.range cells.length).map fun (i:Nat)=>D.tup [.int (i:Int),.int (cells.getD i 0)]) by
   unfold iEn
   show R.of (some (((zD 0 (cells.map D.int).length).zip (cells.map D.int)).map fun p=>D.tup [p.1,p.2]))=_
   rw [R.of_some,show cells.map D.int=(List.range cells.length).map fun i=>D.int (cells.getD i 0) by
    conv=>lhs;rw [zld cells 0]
    rw [List.map_map];rfl,zjh]]
  rfl)]
 rw [hr]
 refine ⟨Z,g,?_⟩
 rw [z89,zdh (l:=Z) rfl (by have:=g.few;omega) zxc zxd]
 rfl
theorem zdj:∀a b:List Int,z51 (a.map D.int) (b.map D.int)=decide (a=b)
 | [],[]=>by simp [z51]
 | [],_::_=>by simp [z51]
 | _::_,[]=>by simp [z51]
 | x::a,y::b=>by
  simp only [List.map_cons,z51,eqD,zdj a b]
  by_cases h:x=y
  . by_cases h2:a=b<;>simp [h,h2]
  . simp [h]
theorem zk4 (a b:List Int):eqD (.tup (a.map D.int)) (.tup (b.map D.int))=decide (a=b):=by
 simp only [eqD,zdj]
theorem zdk:∀a b:List Int,z5h (a.map D.int) (b.map D.int)=HT.lexLt a b
 | [],[]=>by simp [z5h,HT.lexLt]
 | [],_::_=>by simp [z5h,HT.lexLt]
 | _::_,[]=>by simp [z5h,HT.lexLt]
 | x::a,y::b=>by
  simp only [List.map_cons,z5h,HT.lexLt_cons,eqD,zdk a b,ltT]
  by_cases h:x=y
  . simp [h]
  . simp [h]
theorem ztu {u v:Tm} (h:u.1≠v.1):ltT (TM u) (TM v)=HT.lexLt u.1 v.1:=by
 simp only [TM,ltT,z5h,zk4,decide_eq_false h,zdk]
 simp
theorem zhv:∀{a b:List Int},a≠b->HT.lexLt b a=false->HT.lexLt a b=true
 | [],[],h,_=>absurd rfl h
 | [],_::_,_,_=>rfl
 | _::_,[],_,h=>by simp [HT.lexLt] at h
 | x::a,y::b,h,q=>by
  rw [HT.lexLt_cons] at q ⊢
  by_cases e:x=y
  . rw [if_pos e]
    rw [if_pos e.symm] at q
    exact zhv (fun z=>h (by rw [e,z])) q
  . rw [if_neg e]
    rw [if_neg (fun z=>e z.symm)] at q
    have:=of_decide_eq_false q
    exact decide_eq_true (by omega)
theorem ztv (Z:List Tm):((Cn Z).map TM).Pairwise fun a b=>ltT b a=false:=by
 unfold Cn
 rw [<-z7f]
 exact z3j (z8b _ TM zhn)
theorem getD_mem {x:List Tm} {i:Nat} (h:i<x.length):x.getD i ([],0)∈x:=by
 rw [List.getD_eq_getElem?_getD,List.getElem?_eq_getElem h];exact List.getElem_mem h
theorem zon (ps:List Int):z7u [.tup (ps.map D.int)]=some (.int (ps.length:Int)):=by
 simp only [z7u,List.length_map]
theorem zlz (t:Tm):(TM t).noL=true:=by
 simp only [TM,D.noL,z3z,Bool.and_true]
 exact z27 D.int t.1 fun x _=>z3t x
theorem z5y (l:List Tm):z3z (l.map TM)=true:=by
 exact z27 TM l fun x _=>zlz x
theorem pls_of {α:Type} (f:α->D) (h:∀x,(f x).pl=true):∀l:List α,pls (l.map f)=true
 | []=>rfl
 | x::l=>by rw [List.map_cons];simp only [pls,h x,pls_of f h l,Bool.and_true]
theorem zxe (t:Tm):(TM t).pl=true:=by
 simp only [TM,D.pl,pls,Bool.and_true]
 exact pls_of D.int (fun _=>rfl) t.1
theorem zui (l:List Tm):(D.lst (l.map TM)).pl=true:=by
 simp only [D.pl];exact pls_of TM zxe l
theorem zk5 (l:List Tm):(D.lst (l.map TM)).dep<=4:=by
 have:=zbt l TM 3 zlx
 simp only [D.dep];omega
theorem zzj (a b:List Tm):(D.lst [.lst (a.map TM),.lst (b.map TM)]).pl=true:=by
 have h1:=zui a;have h2:=zui b
 simp only [D.pl] at h1 h2 ⊢
 simp only [pls,D.pl,h1,h2,Bool.and_true]
theorem zxf (a b:List Tm):(D.lst [.lst (a.map TM),.lst (b.map TM)]).dep<=5:=by
 have h1:=zk5 a;have h2:=zk5 b
 simp only [D.dep,z7j] at *;omega
theorem zoo {d:D} (h:d.pl=true) (h2:d.dep<=5):dEq d d=some (.bl true):=by
 unfold dEq;rw [if_pos ⟨h,h,by omega⟩,z52 d h]
theorem zop {d:D} (h:d.pl=true) (h2:d.dep<=5):dNe d d=some (.bl false):=by
 unfold dNe;rw [if_pos ⟨h,h,by omega⟩,z52 d h];rfl
def z2l (a b:List Int):List Int:=List.zipWith (·+·) a b
theorem z1j (a b:List Int):z2l a b=z2l b a:=by
 unfold z2l
 induction a generalizing b with
 | nil=>cases b<;>rfl
 | cons x a ih=>cases b with
  | nil=>rfl
  | cons y b=>rw [List.zipWith_cons_cons,List.zipWith_cons_cons,ih,Int.add_comm]
theorem z9h {a b:List Int} {m:Nat} (ha:a.length=m) (hb:b.length=m):(z2l a b).length=m:=by
 unfold z2l;rw [List.length_zipWith,ha,hb];exact Nat.min_self m
def z16 (t u:Tm):Tm:=(z2l u.1 t.1,u.2 * t.2)
theorem zhw (t u:Tm):z16 t u=z16 u t:=by unfold z16;rw [z1j,Int.mul_comm]
def prs (A B:List Tm):List Tm:=A.flatMap fun t=>B.map (z16 t)
theorem z2d (t:Tm) (A B:List Tm):prs (t::A) B=B.map (z16 t)++prs A B:=by unfold prs;rw [List.flatMap_cons]
theorem zca:∀A B:List Tm,(prs A B).length=A.length * B.length
 | [],B=>by simp [prs]
 | t::A,B=>by rw [z2d,List.length_append,List.length_map,zca A B,List.length_cons,Nat.add_mul];omega
theorem zoq (A:List Tm):prs A []=[]:=by unfold prs;induction A with
 | nil=>rfl
 | cons t A ih=>rw [List.flatMap_cons,ih];rfl
theorem z1v (t:Tm) (b:List Tm) (j:List Int):tot (t::b) j=(if t.1=j then t.2 else 0)+tot b j:=by
 simp only [tot]
theorem z0m:∀(a b:List Tm) (j:List Int),tot (a++b) j=tot a j+tot b j
 | [],b,j=>by rw [List.nil_append,show tot [] j=0 from rfl,Int.zero_add]
 | t::a,b,j=>by rw [List.cons_append,z1v,z1v,z0m a b j,Int.add_assoc]
theorem zhx (u:Tm) (B:List Tm) (j:List Int):∀A:List Tm,tot (prs A (u::B)) j=tot (A.map (z16 u)) j+tot (prs A B) j
 | []=>rfl
 | t::A=>by
  rw [z2d,z2d,z0m,z0m,zhx u B j A,List.map_cons,List.map_cons,z1v,z1v,zhw t u]
  omega
theorem z6h (j:List Int) (A:List Tm):∀B:List Tm,tot (prs B A) j=tot (prs A B) j
 | []=>by rw [zoq];rfl
 | u::B=>by rw [z2d,z0m,z6h j A B,zhx]
def pro (A B:List Tm):List Tm:=Cn (z0b [] (prs A B))
theorem zas (A B:List Tm):(z08 (z0b [] (prs A B))).Nodup:=z33 _ _ (by simp [z08])
theorem ztw {L:List Tm} (h:(z08 L).Nodup):Cn (z0b [] L)=Cn L:=ztk (z33 _ _ (by simp [z08])) h fun j=>by rw [z4w,z3w,Int.zero_add,z7e h]
theorem zk6 {A B:List Tm} {m:Nat} (hA:∀t∈A,t.1.length=m) (hB:∀t∈B,t.1.length=m):∀t∈prs A B,t.1.length=m:=fun t ht=>by
 unfold prs at ht
 obtain ⟨x,hx,ht⟩:=List.mem_flatMap.mp ht
 obtain ⟨y,hy,rfl⟩:=List.mem_map.mp ht
 exact z9h (hB y hy) (hA x hx)
theorem zhy (A:List Tm) (u:Tm):prs A [u]=A.map fun t=>z16 t u:=by
 unfold prs
 induction A with
 | nil=>rfl
 | cons t A ih=>rw [List.flatMap_cons,ih];rfl
abbrev lx (a b:List Int):Prop:=HT.lexLt a b=true
theorem z5f:∀a:List Int,¬lx a a
 | [],h=>by simp [lx,HT.lexLt] at h
 | x::a,h=>by
  unfold lx at h
  rw [HT.lexLt_cons,if_pos rfl] at h
  exact z5f a h
theorem zhz:∀{a b c:List Int},lx a b->lx b c->lx a c
 | [],[],_,h,_=>by simp [lx,HT.lexLt] at h
 | [],_::_,[],_,h=>by simp [lx,HT.lexLt] at h
 | [],_::_,_::_,_,_=>rfl
 | _::_,[],_,h,_=>by simp [lx,HT.lexLt] at h
 | _::_,_::_,[],_,h=>by simp [lx,HT.lexLt] at h
 | x::a,y::b,z::c,h,k=>by
  unfold lx at *
  rw [HT.lexLt_cons] at *
  by_cases e1:x=y
  . subst e1
    rw [if_pos rfl] at h
    by_cases e2:x=z
    . rw [if_pos e2] at k ⊢;exact zhz h k
    . rw [if_neg e2] at k ⊢;exact k
  . rw [if_neg e1] at h
    have h':=of_decide_eq_true h
    by_cases e2:y=z
    . subst e2;rw [if_neg e1];exact h
    . rw [if_neg e2] at k
      have k':=of_decide_eq_true k
      rw [if_neg (by omega)]
      exact decide_eq_true (by omega)
theorem zat:∀{a b c:List Int},a.length=c.length->b.length=c.length->lx a b->lx (z2l a c) (z2l b c)
 | [],[],_,_,_,h=>by simp [lx,HT.lexLt] at h
 | [],_::_,c,h1,h2,_=>by simp at h1 h2;omega
 | _::_,[],c,h1,h2,_=>by simp at h1 h2;omega
 | _::_,_::_,[],h1,_,_=>by simp at h1
 | x::a,y::b,z::c,h1,h2,h=>by
  unfold lx at *
  show HT.lexLt ((x+z)::z2l a c) ((y+z)::z2l b c)=true
  rw [HT.lexLt_cons] at *
  by_cases e:x=y
  . rw [if_pos e] at h
    rw [if_pos (by rw [e])]
    exact zat (by simpa using h1) (by simpa using h2) h
  . rw [if_neg e] at h
    rw [if_neg (by omega)]
    have:=of_decide_eq_true h
    exact decide_eq_true (by omega)
theorem z9i:∀{a b c:List Int},a.length=c.length->b.length=c.length->z2l a c=z2l b c->a=b
 | [],[],_,_,_,_=>rfl
 | [],_::_,c,h1,h2,_=>by simp at h1 h2;omega
 | _::_,[],c,h1,h2,_=>by simp at h1 h2;omega
 | _::_,_::_,[],h1,_,_=>by simp at h1
 | x::a,y::b,z::c,h1,h2,h=>by
  have h':(x+z)::z2l a c=(y+z)::z2l b c:=h
  rw [List.cons.injEq] at h'
  rw [z9i (by simpa using h1) (by simpa using h2) h'.2,show x=y by omega]
abbrev le' (a b:List Int):Prop:=a=b\/lx a b
theorem zdl {m:Nat} {a a' b b':List Int} (la:a.length=m) (la':a'.length=m) (lb:b.length=m) (lb':b'.length=m) (h1:le' a a') (h2:le' b b') (h:z2l a b=z2l a' b'):a=a'/\b=b':=by
 have up:le' (z2l a' b) (z2l a' b'):=by
  rcases h2 with e | e
  . exact .inl (by rw [e])
  . right
    rw [z1j a' b,z1j a' b']
    exact zat (by omega) (by omega) e
 rcases h1 with e | e
 . refine ⟨e,?_⟩
   rw [e,z1j a' b,z1j a' b'] at h
   exact z9i (by omega) (by omega) h
 . have:=zat (c:=b) (by omega) (by omega) e
   rcases up with u | u
   . rw [u,<-h] at this;exact absurd this (z5f _)
   . have z:=zhz this u
     rw [h] at z
     exact absurd z (z5f _)
theorem zor {a b:List Int} (h:le' a b) (k:le' b a):a=b:=by
 rcases h with e | e
 . exact e
 . rcases k with f | f
   . exact f.symm
   . exact absurd (zhz e f) (z5f _)
theorem ztx {m:Nat} {a a' b b':List Int} (la:a.length=m) (la':a'.length=m) (lb:b.length=m) (lb':b'.length=m) (h1:le' a a') (h2:le' b b'):le' (z2l a b) (z2l a' b'):=by
 have u1:le' (z2l a b) (z2l a' b):=h1.imp (fun e=>by rw [e]) fun e=>zat (by omega) (by omega) e
 have u2:le' (z2l a' b) (z2l a' b'):=h2.imp (fun e=>by rw [e]) fun e=>by
  rw [z1j a' b,z1j a' b'];exact zat (by omega) (by omega) e
 rcases u1 with e | e
 . rw [e];exact u2
 . rcases u2 with f | f
   . rw [<-f];exact .inr e
   . exact .inr (zhz e f)
structure Can (m:Nat) (L:List Tm):Prop where
 nd:(z08 L).Nodup
 nz:∀t∈L,t.2≠0
 len:∀t∈L,t.1.length=m
 so:L.Pairwise fun a b=>lx a.1 b.1
theorem zau {m:Nat} {Z:List Tm} (hn:(z08 Z).Nodup) (hl:∀t∈Z,t.1.length=m):Can m (Cn Z):=by
 refine ⟨z5e hn,fun t ht=>(mem_Cn.mp ht).2,fun t ht=>hl t (mem_Cn.mp ht).1,?_⟩
 have s:=ztv Z
 have nd:=z5e hn
 unfold z08 List.Nodup at nd
 rw [List.pairwise_map] at s nd
 exact (s.and nd).imp fun {a b} h=>zhv h.2 (by rw [<-ztu (fun z=>h.2 z.symm)];exact h.1)
theorem Can.top {m:Nat} {L:List Tm} {t:Tm} (c:Can m (L++[t])):∀u∈L++[t],le' u.1 t.1:=fun u hu=>by
 rcases List.mem_append.mp hu with h | h
 . exact .inr ((List.pairwise_append.mp c.so).2.2 u h t (List.mem_singleton.mpr rfl))
 . rw [List.mem_singleton.mp h];exact .inl rfl
theorem Can.bot {m:Nat} {L:List Tm} {t:Tm} (c:Can m (t::L)):∀u∈t::L,le' t.1 u.1:=fun u hu=>by
 rcases List.mem_cons.mp hu with h | h
 . rw [h];exact .inl rfl
 . exact .inr ((List.pairwise_cons.mp c.so).1 u h)
theorem Can.cn {m:Nat} {L:List Tm} (c:Can m L):soM L=L:=by
 have h1:(soM L).map TM=L.map TM:=by
  rw [<-z7f]
  refine z6d (z55 (z19 _) (z8b _ TM zhn)) (z19 _) (z3j (z8b _ TM zhn)) ?_
  refine List.pairwise_map.mpr (c.so.imp fun {a b} h=>?_)
  have ne:b.1≠a.1:=fun e=>by rw [e] at h;exact z5f _ h
  rw [ztu ne]
  cases q:HT.lexLt b.1 a.1 with
  | false=>rfl
  | true=>exact absurd (zhz h q) (z5f _)
 exact z94 (fun _ _=>zlu) h1
theorem Can.cn' {m:Nat} {L:List Tm} (c:Can m L):Cn L=L:=by
 unfold Cn
 have e:L.filter K63.nz=L:=List.filter_eq_self.mpr fun t ht=>decide_eq_true (c.nz t ht)
 rw [e]
 exact c.cn
theorem z4k (A A' B:List Tm):prs (A++A') B=prs A B++prs A' B:=by unfold prs;rw [List.flatMap_append]
theorem z7g (a b:List Tm):z08 (a++b)=z08 a++z08 b:=List.map_append
theorem z7h {L B:List Tm} {x b:Tm} (nL:(z08 L).Nodup) (nB:(z08 B).Nodup) (hx:x∈L) (hb:b∈B) (h:∀u∈L,∀c∈B,z2l c.1 u.1=z2l b.1 x.1->u.1=x.1/\c.1=b.1):tot (prs L B) (z2l b.1 x.1)=b.2 * x.2:=by
 obtain ⟨L1,L2,rfl⟩:=List.append_of_mem hx
 obtain ⟨B1,B2,rfl⟩:=List.append_of_mem hb
 have uL:∀u,u∈L1\/u∈L2->u.1≠x.1:=fun u hu e=>by
  rw [z7g] at nL
  have nL':=List.nodup_append.mp nL
  rcases hu with h | h
  . exact nL'.2.2 u.1 (List.mem_map.mpr ⟨u,h,rfl⟩) x.1 (by simp [z08]) e
  . exact (List.nodup_cons.mp nL'.2.1).1 (List.mem_map.mpr ⟨u,h,e⟩)
 have uB:∀u,u∈B1\/u∈B2->u.1≠b.1:=fun u hu e=>by
  rw [z7g] at nB
  have nB':=List.nodup_append.mp nB
  rcases hu with h | h
  . exact nB'.2.2 u.1 (List.mem_map.mpr ⟨u,h,rfl⟩) b.1 (by simp [z08]) e
  . exact (List.nodup_cons.mp nB'.2.1).1 (List.mem_map.mpr ⟨u,h,e⟩)
 have z1:∀M:List Tm,(∀u∈M,u∈L1\/u∈L2)->tot (prs M (B1++b::B2)) (z2l b.1 x.1)=0:=fun M hM=>zdb fun hk=>by
  obtain ⟨t,ht,e⟩:=List.mem_map.mp hk
  unfold prs at ht
  obtain ⟨u,hu,ht⟩:=List.mem_flatMap.mp ht
  obtain ⟨c,hc,rfl⟩:=List.mem_map.mp ht
  exact uL u (hM u hu) (h u (by rcases hM u hu with z | z<;>simp [z]) c hc e).1
 have z2:∀M:List Tm,(∀c∈M,c∈B1\/c∈B2)->tot (M.map (z16 x)) (z2l b.1 x.1)=0:=fun M hM=>zdb fun hk=>by
  obtain ⟨t,ht,e⟩:=List.mem_map.mp hk
  obtain ⟨c,hc,rfl⟩:=List.mem_map.mp ht
  exact uB c (hM c hc) (h x hx c (by rcases hM c hc with z | z<;>simp [z]) e).2
 rw [z4k,z0m,z2d,z0m,z1 L1 fun u hu=>.inl hu,z1 L2 fun u hu=>.inr hu,List.map_append,z0m,z2 B1 fun u hu=>.inl hu,List.map_cons,z1v,z2 B2 fun u hu=>.inr hu]
 rw [if_pos (show (z16 x b).1=z2l b.1 x.1 from rfl)]
 show 0+(0+(b.2 * x.2+0)+0)=b.2 * x.2
 omega
theorem zcb {a b:Int} (h:a≠0) (k:b≠0):a * b≠0:=Int.mul_ne_zero h k
theorem z5z (A B:List Tm) (j:List Int):z12 (pro A B) j=tot (prs A B) j:=by
 unfold pro
 rw [zdd (zas A B),z4w,z3w,Int.zero_add]
theorem z4y {m:Nat} {A B:List Tm} (hA:∀t∈A,t.1.length=m) (hB:∀t∈B,t.1.length=m):Can m (pro A B):=zau (zas A B) fun t ht=>by
 have:=z5c _ _ _ (List.mem_map.mpr ⟨t,ht,rfl⟩:t.1∈z08 (z0b [] (prs A B)))
 rcases this with h | h
 . simp [z08] at h
 . obtain ⟨u,hu,e⟩:=List.mem_map.mp h
   rw [<-e];exact zk6 hA hB u hu
theorem Can.ext {m:Nat} {L L':List Tm} (c:Can m L) (c':Can m L') (h:∀j,z12 L j=z12 L' j):L=L':=by
 rw [<-c.cn',<-c'.cn']
 exact ztk c.nd c'.nd h
theorem zos {m:Nat} {A B:List Tm} {a b:Tm} (cA:Can m (A++[a])) (cB:Can m (B++[b])):∃P,pro (A++[a]) (B++[b])=P++[(z2l b.1 a.1,b.2 * a.2)]:=by
 have ma:a∈A++[a]:=by simp
 have mb:b∈B++[b]:=by simp
 have cf:=z7h cA.nd cB.nd ma mb fun u hu c hc e=>by
  have:=zdl (cB.len c hc) (cB.len b mb) (cA.len u hu) (cA.len a ma) (cB.top c hc) (cA.top u hu) e
  exact ⟨this.2,this.1⟩
 have cP:=z4y (m:=m) cA.len cB.len
 have g0:z12 (pro (A++[a]) (B++[b])) (z2l b.1 a.1)=b.2 * a.2:=by rw [z5z];exact cf
 have ne:b.2 * a.2≠0:=zcb (cB.nz b mb) (cA.nz a ma)
 have mem:=z9g (l:=pro (A++[a]) (B++[b])) (k:=z2l b.1 a.1) (by rw [g0];exact ne)
 rw [g0] at mem
 have hi:∀t∈pro (A++[a]) (B++[b]),le' t.1 (z2l b.1 a.1):=fun t ht=>by
  have:=z5c _ _ _ (List.mem_map.mpr ⟨t,(mem_Cn.mp ht).1,rfl⟩:t.1∈z08 (z0b [] (prs (A++[a]) (B++[b]))))
  rcases this with h | h
  . simp [z08] at h
  . obtain ⟨u,hu,e⟩:=List.mem_map.mp h
    unfold prs at hu
    obtain ⟨y,hy,hu⟩:=List.mem_flatMap.mp hu
    obtain ⟨c,hc,rfl⟩:=List.mem_map.mp hu
    rw [<-e]
    exact ztx (cB.len c hc) (cB.len b mb) (cA.len y hy) (cA.len a ma) (cB.top c hc) (cA.top y hy)
 generalize pro (A++[a]) (B++[b])=R at *
 rcases List.eq_nil_or_concat R with e | ⟨P,t,e⟩
 . rw [e] at mem;simp at mem
 . rw [List.concat_eq_append] at e
   subst e
   have e1:t.1=z2l b.1 a.1:=zor (hi t (by simp)) (cP.top _ mem)
   have e2:t.2=b.2 * a.2:=by rw [<-g0,<-e1];exact (zc8 cP.nd (by simp)).symm
   exact ⟨P,by rw [show t=(z2l b.1 a.1,b.2 * a.2) from Prod.ext e1 e2]⟩
theorem zi0 (l:List Tm) (hl:l.length<=50000):z0u [dnA l]=.ok (.lst ((Cn l).map TM)):=by
 unfold z0u
 rw [z7w,if_pos (show [dnA l].length=1 from rfl)]
 show SR.out true (z5s [.im (dnA l)])=_
 unfold z5s
 rw [z89,zdh (l:=l) rfl hl ztq ztr]
 rfl
theorem zzk (t:Tm):z2q [some (.tup (t.1.map D.int)),some (.int t.2)]=.ok (nz t):=by
 unfold z2q
 walk_at "dz"
 simp [nz]
theorem zzl (t:Tm):z2r [some (.tup (t.1.map D.int)),some (.int t.2)]=.ok (TM t):=by
 unfold z2r
 walk_at "dz"
 rfl
theorem zi1:∀a b:List Int,(a.zip b).map (fun p=>D.int (p.1+p.2))=(z2l a b).map D.int
 | [],_=>rfl
 | _::_,[]=>rfl
 | x::a,y::b=>by rw [List.zip_cons_cons,List.map_cons,zi1 a b];rfl
theorem zye {fi:DE->R (List D)} {ρ:DE} {f:DE->R D} {a b:List Int} (hi:fi ρ=.ok [.tup (a.map D.int),.tup (b.map D.int)]) (hl:a.length=b.length) (h5:a.length<=50000) (hf:∀x y:Int,f [some (.int x),some (.int y)]=.ok (.int (x+y))) :
  eCB z2m (z00 (z1k (z3k fi) (bT 2) [] z5p f) z0c) ρ=.ok (.tup ((z2l a b).map D.int)):=by
 have hz:z3k fi ρ=.ok ((a.zip b).map fun p=>D.tup [.int p.1,.int p.2]):=by
  unfold z3k
  rw [hi,R.bind_ok]
  show R.of (if (a.map D.int).length=(b.map D.int).length then some (((a.map D.int).zip (b.map D.int)).map fun p=>D.tup [p.1,p.2]) else none)=_
  rw [if_pos (by rw [List.length_map,List.length_map];exact hl),R.of_some,List.zip_map,List.map_map]
  rfl
 have hc:z1k (z3k fi) (bT 2) [] z5p f ρ=.ok (.lst ((z2l a b).map D.int)):=by
  unfold z1k
  rw [hz,R.bind_ok,if_pos (by rw [List.length_map,List.length_zip];omega)]
  show ((z4m (bT 2) z5p f [] ((a.zip b).map fun p=>D.tup [.int p.1,.int p.2])).bind fun ys=>R.ok (D.lst ys))=_
  rw [z56 (bn:=bT 2) (en:=fun p:Int×Int=>D.tup [.int p.1,.int p.2]) (bs:=fun p=>[.int p.1,.int p.2]) (g:=fun p=>D.int (p.1+p.2)) (a.zip b) (fun x _=>rfl) (fun p _=>hf p.1 p.2)]
  rw [R.bind_ok]
  rw [zi1]
 unfold eCB z00
 rw [hc,R.bind_ok]
 rfl
def Sm (v:Int):Prop:=PySem.Builtin.Int.intBits v<=2 ^ 20
theorem Sm.bits {v:Int} (h:Sm v):PySem.Builtin.Int.intBits v<=2 ^ 20:=h
structure Ok (m:Nat) (A:List Tm):Prop where
 len:∀t∈A,t.1.length=m
 sm:∀t∈A,Sm t.2
theorem Ok.tail {m:Nat} {t:Tm} {A:List Tm} (h:Ok m (t::A)):Ok m A:=⟨fun u hu=>h.len u (List.mem_cons_of_mem _ hu),fun u hu=>h.sm u (List.mem_cons_of_mem _ hu)⟩
theorem zty (T:Sl) {m:Nat} (hm:m<=50000) (l:List Tm) (hl:l.length<=50000) (t u:Tm) (ht:t.1.length=m/\Sm t.2) (hu:u.1.length=m/\Sm u.2) (s6:Sl) :
  z2c [.ow (dnA l),T,.im (.tup (t.1.map D.int)),.im (.int t.2),.im (.tup (u.1.map D.int)),.im (.int u.2),s6] =
   .nx [.ow (dnA (z3q l (z16 t u).1 (z12 l (z16 t u).1+(z16 t u).2))),T,.im (.tup (t.1.map D.int)),.im (.int t.2),.im (.tup (u.1.map D.int)),.im (.int u.2),.im (.tup ((z16 t u).1.map D.int))]:=by
 have e1:=zk1 l (z16 t u).1
 have e2:=zht hl (z16 t u).1 (z12 l (z16 t u).1+(z16 t u).2)
 have n1:z3z ((z16 t u).1.map D.int)=true:=z27 D.int _ fun x _=>z3t x
 have ez:∀A C:Option D,eCB z2m (z00 (z1k (z3k (z00 (z03 4) (z00 (z03 2) z0c))) (bT 2) [] z5p z2b) z0c) [none,A,some (.tup (t.1.map D.int)),some (.int t.2),some (.tup (u.1.map D.int)),some (.int u.2),C]=.ok (.tup ((z16 t u).1.map D.int)):=fun A C=>
  zye (a:=u.1) (b:=t.1) rfl (by rw [ht.1,hu.1]) (by omega) fun x y=>by unfold z2b;walk_at "dz"
 have em:zby (.int u.2) (.int t.2)=some (.int (z16 t u).2):=zsx hu.2.bits ht.2.bits
 generalize hw:z12 l (z16 t u).1=w at *
 generalize z3q l (z16 t u).1 (w+(z16 t u).2)=l' at e2 ⊢
 unfold dnA at *
 generalize (l.map fun t=>kN t.1)=ks at *
 generalize (l.map fun t=>D.int t.2)=ds at *
 generalize (l'.map fun t=>kN t.1)=ks' at *
 generalize (l'.map fun t=>D.int t.2)=ds' at *
 generalize (z16 t u).1.map D.int=es at *
 generalize t.1.map D.int=at' at *
 generalize u.1.map D.int=au at *
 generalize (z16 t u).2=v at *
 generalize t.2=tt at *
 generalize u.2=uu at *
 unfold z2c
 generalize (eCB z2m (z00 (z1k (z3k (z00 (z03 4) (z00 (z03 2) z0c))) (bT 2) [] z5p z2b) z0c))=E at *
 walk_at "dz"
 rw [ez]
 walk_at "dz"
 rw [n1]
 walk_at "dz"
 rw [zdg rfl rfl rfl e1]
 walk_at "dz"
 rw [em]
 walk_at "dz"
 rw [n1]
 walk_at "dz"
 rw [e2]
 walk_at "dz"
theorem ztz {m:Nat} (hm:m<=50000) (l:List Tm) (B:List Tm) (hB:Ok m B) (t:Tm) (ht:t.1.length=m/\Sm t.2) (hl:l.length+B.length<=50000) :
  z1l [dnA l,.lst (B.map TM),.tup (t.1.map D.int),.int t.2]=.ok (dnA (z0b l (B.map (z16 t)))):=by
 unfold z1l
 show (match z3u [.ow (dnA l),.im (.lst (B.map TM)),.im (.tup (t.1.map D.int)),.im (.int t.2),.em,.em,.em] with
  | .nx (.ow d'::_)=>R.ok d'
  | _=>R.st)=_
 obtain ⟨ρ',q,l',s4,s5,s6,⟨h1,_⟩,hr⟩:=z57 (tg:=.t [4,5]) (g:=z2c) (en:=TM)
  (fun r ρ=>∃(l':List Tm) (s4 s5 s6:Sl),(z0b l' (r.map (z16 t))=z0b l (B.map (z16 t))/\l'.length+r.length<=50000/\Ok m r)/\ρ=[.ow (dnA l'),.im (.lst (B.map TM)),.im (.tup (t.1.map D.int)),.im (.int t.2),s4,s5,s6])
  B [.ow (dnA l),.im (.lst (B.map TM)),.im (.tup (t.1.map D.int)),.im (.int t.2),.em,.em,.em] ⟨l,.em,.em,.em,⟨rfl,hl,hB⟩,rfl⟩ (by
   rintro u r ρ ⟨l',s4,s5,s6,⟨h1,h2,h3⟩,rfl⟩
   rw [List.length_cons] at h2
   have e:=zty (.im (.lst (B.map TM))) hm l' (by omega) t u ht ⟨h3.len u List.mem_cons_self,h3.sm u List.mem_cons_self⟩ s6
   refine ⟨_,_,rfl,Or.inl e,⟨z3q l' (z16 t u).1 (z12 l' (z16 t u).1+(z16 t u).2),_,_,_,⟨h1,?_,h3.tail⟩,rfl⟩⟩
   have:=z5x l' (z16 t u).1 (z12 l' (z16 t u).1+(z16 t u).2)
   omega)
 have e:z3u [.ow (dnA l),.im (.lst (B.map TM)),.im (.tup (t.1.map D.int)),.im (.int t.2),.em,.em,.em]=.nx ρ':=by
  rw [<-q];rfl
 rw [e,hr]
 rw [show l'=z0b l (B.map (z16 t)) from h1]
theorem zu0 {m:Nat} (hm:m<=50000) (A:Sl) (l:List Tm) (B:List Tm) (hB:Ok m B) (t:Tm) (ht:t.1.length=m/\Sm t.2) (hl:l.length+B.length<=50000) :
  z3v [A,.im (.lst (B.map TM)),.ow (dnA l),.im (.tup (t.1.map D.int)),.im (.int t.2)]=.nx [A,.im (.lst (B.map TM)),.ow (dnA (z0b l (B.map (z16 t)))),.im (.tup (t.1.map D.int)),.im (.int t.2)]:=by
 have e:=ztz hm l B hB t ht hl
 generalize dnA (z0b l (B.map (z16 t)))=d' at *
 generalize dnA l=d at *
 generalize B.map TM=b at *
 generalize t.1.map D.int=at' at *
 unfold z3v zt9
 walk_at "dz"
 rw [e]
 cases A<;>rfl
theorem zi2 (l a b:List Tm):z0b (z0b l a) b=z0b l (a++b):=by unfold z0b;rw [List.foldl_append]
theorem zu1 {m:Nat} (hm:m<=50000) (A B:List Tm) (hA:Ok m A) (hB:Ok m B) (hl:A.length * B.length<=50000) (lA:A.length<=50000) (lB:B.length<=50000) :
  z32 [.lst (A.map TM),.lst (B.map TM)]=.ok (.lst ((pro A B).map TM)):=by
 unfold z32
 rw [z7w,if_pos (show [D.lst (A.map TM),D.lst (B.map TM)].length=2 from rfl)]
 show SR.out true (z76 [.im (.lst (A.map TM)),.im (.lst (B.map TM)),.em,.em,.em])=_
 unfold z76
 rw [z0n (ρ':=[.im (.lst (A.map TM)),.im (.lst (B.map TM)),.ow (dnA []),.em,.em]) (by
  generalize A.map TM=A'
  generalize B.map TM=B'
  walk_at "dz"
  simp only [zbw]
  walk_at "dz"
  rw [show keeps true (D.dn [] [])=true from rfl]
  walk_at "dz"
  rfl)]
 obtain ⟨ρ',q,l',s3,s4,⟨h1,h2,h3⟩,hr⟩:=z57 (tg:=.t [3,4]) (g:=z3v) (en:=TM)
  (fun r ρ=>∃(l':List Tm) (s3 s4:Sl),(z0b l' (prs r B)=z0b [] (prs A B)/\l'.length+r.length * B.length<=50000/\Ok m r)/\ρ=[.im (.lst (A.map TM)),.im (.lst (B.map TM)),.ow (dnA l'),s3,s4])
  A [.im (.lst (A.map TM)),.im (.lst (B.map TM)),.ow (dnA []),.em,.em] ⟨[],.em,.em,⟨rfl,by simpa using hl,hA⟩,rfl⟩ (by
   rintro t r ρ ⟨l',s3,s4,⟨h1,h2,h3⟩,rfl⟩
   rw [List.length_cons,Nat.add_mul] at h2
   have e:=zu0 hm (.im (.lst (A.map TM))) l' B hB t ⟨h3.len t List.mem_cons_self,h3.sm t List.mem_cons_self⟩ (by omega)
   refine ⟨_,_,rfl,Or.inl e,⟨_,_,_,⟨?_,?_,h3.tail⟩,rfl⟩⟩
   . rw [zi2,<-z2d];exact h1
   . have:=z4x (B.map (z16 t)) l'
     rw [List.length_map] at this
     omega)
 rw [z0n (ρ':=ρ') (by rw [<-q];rfl)]
 rw [hr,z89]
 have e':l'=z0b [] (prs A B):=h1
 have ll:l'.length<=50000:=by rw [List.length_nil,Nat.zero_mul] at h2;omega
 rw [show z17 z0u (z00 (z03 2) z0c) (vis [false,false,true] [.im (.lst (A.map TM)),.im (.lst (B.map TM)),.ow (dnA l'),s3,s4])=z0u [dnA l'] from rfl,zi0 _ ll,e']
 rfl
theorem zot (A B:Sl) {m:Nat} (hm:m<=50000) (l:List Tm) (hl:l.length<=50000) (t u:Tm) (ht:t.1.length=m/\Sm t.2) (hu:u.1.length=m/\Sm u.2) (s7:Sl) :
  z1t [A,B,.ow (dnA l),.im (.tup (t.1.map D.int)),.im (.int t.2),.im (.tup (u.1.map D.int)),.im (.int u.2),s7] =
   .nx [A,B,.ow (dnA (z3q l (z16 t u).1 (z12 l (z16 t u).1+(z16 t u).2))),.im (.tup (t.1.map D.int)),.im (.int t.2),.im (.tup (u.1.map D.int)),.im (.int u.2),.im (.tup ((z16 t u).1.map D.int))]:=by
 have e1:=zk1 l (z16 t u).1
 have e2:=zht hl (z16 t u).1 (z12 l (z16 t u).1+(z16 t u).2)
 have n1:z3z ((z16 t u).1.map D.int)=true:=z27 D.int _ fun x _=>z3t x
 have ez:∀X Y C:Option D,eCB z2m (z00 (z1k (z3k (z00 (z03 3) (z00 (z03 5) z0c))) (bT 2) [] z5p z1s) z0c) [X,Y,none,some (.tup (t.1.map D.int)),some (.int t.2),some (.tup (u.1.map D.int)),some (.int u.2),C]=.ok (.tup ((z16 t u).1.map D.int)):=fun X Y C=>by
  rw [show (z16 t u).1=z2l t.1 u.1 from z1j _ _]
  exact zye (a:=t.1) (b:=u.1) rfl (by rw [ht.1,hu.1]) (by omega) fun x y=>by unfold z1s;walk_at "dz"
 have em:zby (.int t.2) (.int u.2)=some (.int (z16 t u).2):=by
  rw [show (z16 t u).2=t.2 * u.2 from Int.mul_comm _ _]
  exact zsx ht.2.bits hu.2.bits
 generalize hw:z12 l (z16 t u).1=w at *
 generalize z3q l (z16 t u).1 (w+(z16 t u).2)=l' at e2 ⊢
 unfold dnA at *
 generalize (l.map fun t=>kN t.1)=ks at *
 generalize (l.map fun t=>D.int t.2)=ds at *
 generalize (l'.map fun t=>kN t.1)=ks' at *
 generalize (l'.map fun t=>D.int t.2)=ds' at *
 generalize (z16 t u).1.map D.int=es at *
 generalize t.1.map D.int=at' at *
 generalize u.1.map D.int=au at *
 generalize (z16 t u).2=v at *
 generalize t.2=tt at *
 generalize u.2=uu at *
 unfold z1t
 generalize (eCB z2m (z00 (z1k (z3k (z00 (z03 3) (z00 (z03 5) z0c))) (bT 2) [] z5p z1s) z0c))=E at *
 walk_at "dz"
 rw [ez]
 walk_at "dz"
 rw [n1]
 walk_at "dz"
 rw [zdg rfl rfl rfl e1]
 walk_at "dz"
 rw [em]
 walk_at "dz"
 rw [n1]
 walk_at "dz"
 rw [e2]
 walk_at "dz"
theorem zou {m:Nat} (hm:m<=50000) (A:Sl) (l:List Tm) (B:List Tm) (hB:Ok m B) (t:Tm) (ht:t.1.length=m/\Sm t.2) (hl:l.length+B.length<=50000) (s5 s6 s7:Sl):∃s5' s6' s7':Sl,
  z1u [A,.im (.lst (B.map TM)),.ow (dnA l),.im (.tup (t.1.map D.int)),.im (.int t.2),s5,s6,s7]=.nx [A,.im (.lst (B.map TM)),.ow (dnA (z0b l (B.map (z16 t)))),.im (.tup (t.1.map D.int)),.im (.int t.2),s5',s6',s7']:=by
 obtain ⟨ρ',q,l',s5',s6',s7',⟨h1,_⟩,hr⟩:=z57 (tg:=.t [5,6]) (g:=z1t) (en:=TM)
  (fun r ρ=>∃(l':List Tm) (s5 s6 s7:Sl),(z0b l' (r.map (z16 t))=z0b l (B.map (z16 t))/\l'.length+r.length<=50000/\Ok m r)/\ρ=[A,.im (.lst (B.map TM)),.ow (dnA l'),.im (.tup (t.1.map D.int)),.im (.int t.2),s5,s6,s7])
  B [A,.im (.lst (B.map TM)),.ow (dnA l),.im (.tup (t.1.map D.int)),.im (.int t.2),s5,s6,s7] ⟨l,s5,s6,s7,⟨rfl,hl,hB⟩,rfl⟩ (by
   rintro u r ρ ⟨l',s5,s6,s7,⟨h1,h2,h3⟩,rfl⟩
   rw [List.length_cons] at h2
   have e:=zot A (.im (.lst (B.map TM))) hm l' (by omega) t u ht ⟨h3.len u List.mem_cons_self,h3.sm u List.mem_cons_self⟩ s7
   refine ⟨_,_,rfl,Or.inl e,⟨z3q l' (z16 t u).1 (z12 l' (z16 t u).1+(z16 t u).2),_,_,_,⟨h1,?_,h3.tail⟩,rfl⟩⟩
   have:=z5x l' (z16 t u).1 (z12 l' (z16 t u).1+(z16 t u).2)
   omega)
 refine ⟨s5',s6',s7',?_⟩
 have e:z1u [A,.im (.lst (B.map TM)),.ow (dnA l),.im (.tup (t.1.map D.int)),.im (.int t.2),s5,s6,s7]=.nx ρ':=by rw [<-q];cases A<;>rfl
 rw [e,hr,show l'=z0b l (B.map (z16 t)) from h1]
theorem zov {m:Nat} (hm:m<=50000) (A B:List Tm) (hA:Ok m A) (hB:Ok m B) (hl:A.length * B.length<=50000) (lA:A.length<=50000) (lB:B.length<=50000) :
  z10 [.lst (A.map TM),.lst (B.map TM)]=.ok (.lst ((pro A B).map TM)):=by
 unfold z10
 rw [z7w,if_pos (show [D.lst (A.map TM),D.lst (B.map TM)].length=2 from rfl)]
 show SR.out true (z3f [.im (.lst (A.map TM)),.im (.lst (B.map TM)),.em,.em,.em,.em,.em,.em])=_
 unfold z3f
 rw [z0n (ρ':=[.im (.lst (A.map TM)),.im (.lst (B.map TM)),.ow (dnA []),.em,.em,.em,.em,.em]) (by
  generalize A.map TM=A'
  generalize B.map TM=B'
  walk_at "dz"
  simp only [zbw]
  walk_at "dz"
  rw [show keeps true (D.dn [] [])=true from rfl]
  walk_at "dz"
  rfl)]
 obtain ⟨ρ',q,l',s3,s4,s5,s6,s7,⟨h1,h2,h3⟩,hr⟩:=z57 (tg:=.t [3,4]) (g:=z1u) (en:=TM)
  (fun r ρ=>∃(l':List Tm) (s3 s4 s5 s6 s7:Sl),(z0b l' (prs r B)=z0b [] (prs A B)/\l'.length+r.length * B.length<=50000/\Ok m r)/\ρ=[.im (.lst (A.map TM)),.im (.lst (B.map TM)),.ow (dnA l'),s3,s4,s5,s6,s7])
  A [.im (.lst (A.map TM)),.im (.lst (B.map TM)),.ow (dnA []),.em,.em,.em,.em,.em] ⟨[],.em,.em,.em,.em,.em,⟨rfl,by simpa using hl,hA⟩,rfl⟩ (by
   rintro t r ρ ⟨l',s3,s4,s5,s6,s7,⟨h1,h2,h3⟩,rfl⟩
   rw [List.length_cons,Nat.add_mul] at h2
   obtain ⟨s5',s6',s7',e⟩:=zou hm (.im (.lst (A.map TM))) l' B hB t ⟨h3.len t List.mem_cons_self,h3.sm t List.mem_cons_self⟩ (by omega) s5 s6 s7
   refine ⟨_,_,rfl,Or.inl e,⟨_,_,_,_,_,_,⟨?_,?_,h3.tail⟩,rfl⟩⟩
   . rw [zi2,<-z2d];exact h1
   . have:=z4x (B.map (z16 t)) l'
     rw [List.length_map] at this
     omega)
 rw [z0n (ρ':=ρ') (by rw [<-q];rfl)]
 have ll:l'.length<=50000:=by rw [List.length_nil,Nat.zero_mul] at h2;omega
 rw [hr,z89,zdh (l:=l') rfl ll zzk zzl,show l'=z0b [] (prs A B) from h1]
 rfl
theorem zu2 {a b:List Tm} (ha:(z08 a).Nodup) (hl:a.length+b.length<=50000):z75 [.lst (a.map TM),.lst (b.map TM)]=.ok (.lst ((Cn (z0b a b)).map TM)):=by
 unfold z75
 rw [z7w,if_pos (show [D.lst (a.map TM),D.lst (b.map TM)].length=2 from rfl)]
 show SR.out true (zhk [.im (.lst (a.map TM)),.im (.lst (b.map TM)),.em,.em,.em])=_
 unfold zhk
 rw [z0n (ρ':=[.im (.lst (a.map TM)),.im (.lst (b.map TM)),.ow (dnA a),.em,.em]) (by
  have e:=zly ha (by omega)
  generalize a.map TM=A at *
  generalize b.map TM=B at *
  generalize dnA a=dn at *
  walk_at "dz"
  rw [e]
  walk_at "dz"
  cases keeps true dn<;>walk_at "dz")]
 obtain ⟨ρ',q,s3,s4,hr⟩:=z93 (tg:=.t [3,4]) (g:=z6g) b.length (fun (i:Nat)=>TM (b.getD i ([],0)))
  (fun k ρ=>∃(s3 s4:Sl),ρ=[.im (.lst (a.map TM)),.im (.lst (b.map TM)),.ow (dnA (z0b a (b.take k))),s3,s4])
  [.im (.lst (a.map TM)),.im (.lst (b.map TM)),.ow (dnA a),.em,.em] ⟨.em,.em,rfl⟩ (by
   rintro i hi ρ ⟨s3,s4,rfl⟩
   have e:=ztp (.im (.lst (a.map TM))) (.im (.lst (b.map TM))) (z0b a (b.take i)) (by
    have:=z4x (b.take i) a
    have:(b.take i).length<=b.length:=by rw [List.length_take];omega
    omega) (b.getD i ([],0))
   rw [<-zk2 hi] at e
   exact ⟨_,_,rfl,Or.inl e,⟨_,_,rfl⟩⟩)
 rw [List.take_length] at hr
 rw [z0n (ρ':=ρ') (by
  rw [<-q]
  unfold zbd
  rw [show iL (z03 1) (vis [false,true] [.im (.lst (a.map TM)),.im (.lst (b.map TM)),.ow (dnA a),.em,.em])=.ok ((List.range b.length).map fun (i:Nat)=>TM (b.getD i ([],0))) by
   show R.ok (b.map TM)=_
   congr 1
   conv=>lhs;rw [zld b ([],0)]
   rw [List.map_map];rfl]
  rfl)]
 rw [hr]
 rw [z89]
 rw [show z17 z0u (z00 (z03 2) z0c) (vis [false,false,true] [.im (.lst (a.map TM)),.im (.lst (b.map TM)),.ow (dnA (z0b a b)),s3,s4])=z0u [dnA (z0b a b)] from rfl,zi0 _ (by have:=z4x b a;omega)]
 rfl
def zdm (a b:List Int):List Int:=List.zipWith (· - ·) a b
theorem zi3:∀a b:List Int,(a.zip b).map (fun p=>D.int (p.1 - p.2))=(zdm a b).map D.int
 | [],_=>rfl
 | _::_,[]=>rfl
 | x::a,y::b=>by rw [List.zip_cons_cons,List.map_cons,zi3 a b];rfl
theorem zzm {fi:DE->R (List D)} {ρ:DE} {f:DE->R D} {a b:List Int} (hi:fi ρ=.ok [.tup (a.map D.int),.tup (b.map D.int)]) (hl:a.length=b.length) (h5:a.length<=50000) (hf:∀x y:Int,f [some (.int x),some (.int y)]=.ok (.int (x - y))) :
  eCB z2m (z00 (z1k (z3k fi) (bT 2) [] z5p f) z0c) ρ=.ok (.tup ((zdm a b).map D.int)):=by
 have hz:z3k fi ρ=.ok ((a.zip b).map fun p=>D.tup [.int p.1,.int p.2]):=by
  unfold z3k
  rw [hi,R.bind_ok]
  show R.of (if (a.map D.int).length=(b.map D.int).length then some (((a.map D.int).zip (b.map D.int)).map fun p=>D.tup [p.1,p.2]) else none)=_
  rw [if_pos (by rw [List.length_map,List.length_map];exact hl),R.of_some,List.zip_map,List.map_map]
  rfl
 have hc:z1k (z3k fi) (bT 2) [] z5p f ρ=.ok (.lst ((zdm a b).map D.int)):=by
  unfold z1k
  rw [hz,R.bind_ok,if_pos (by rw [List.length_map,List.length_zip];omega)]
  show ((z4m (bT 2) z5p f [] ((a.zip b).map fun p=>D.tup [.int p.1,.int p.2])).bind fun ys=>R.ok (D.lst ys))=_
  rw [z56 (bn:=bT 2) (en:=fun p:Int×Int=>D.tup [.int p.1,.int p.2]) (bs:=fun p=>[.int p.1,.int p.2]) (g:=fun p=>D.int (p.1 - p.2)) (a.zip b) (fun x _=>rfl) (fun p _=>hf p.1 p.2)]
  rw [R.bind_ok,zi3]
 unfold eCB z00
 rw [hc,R.bind_ok]
 rfl
def quo (t b:Tm):Tm:=(zdm t.1 b.1,t.2.fdiv b.2)
theorem zow (t b:Tm) (hl:t.1.length=b.1.length) (h5:t.1.length<=1000) (hb:b.2≠0) (hs:b.2.natAbs<2 ^ 200) (hm:t.2.fmod b.2=0):z0q [TM t,TM b]=.ok (TM (quo t b)):=by
 have ez:eCB z2m (z00 (z1k (z3k (z00 (eOp dIx (z03 0) (eC (.int 0))) (z00 (eOp dIx (z03 1) (eC (.int 0))) z0c))) (bT 2) [] z5p z18) z0c) [some (TM t),some (TM b)]=.ok (.tup ((zdm t.1 b.1).map D.int)):=
  zzm (a:=t.1) (b:=b.1) rfl hl (by omega) fun x y=>by unfold z18;walk_at "dz"
 have n1:z3z ((zdm t.1 b.1).map D.int)=true:=z27 D.int _ fun x _=>z3t x
 unfold z0q z3e
 generalize (eCB z2m (z00 (z1k (z3k (z00 (eOp dIx (z03 0) (eC (.int 0))) (z00 (eOp dIx (z03 1) (eC (.int 0))) z0c))) (bT 2) [] z5p z18) z0c))=E at *
 unfold TM at *
 walk_at "dz"
 rw [zal hb hs]
 walk_at "dz"
 rw [hm]
 walk_at "dz"
 rw [ez]
 walk_at "dz"
 rw [zls hb hs]
 walk_at "dz"
 rfl
theorem zox (t b:Tm) (hb:b.2≠0) (hs:b.2.natAbs<2 ^ 200) (hm:t.2.fmod b.2≠0):z0q [TM t,TM b]=.er ⟨"NoQuotient",[]⟩:=by
 unfold z0q z3e
 generalize (eCB z2m (z00 (z1k (z3k (z00 (eOp dIx (z03 0) (eC (.int 0))) (z00 (eOp dIx (z03 1) (eC (.int 0))) z0c))) (bT 2) [] z5p z18) z0c))=E at *
 unfold TM at *
 walk_at "dz"
 rw [zal hb hs]
 walk_at "dz"
 rw [decide_eq_false hm]
 walk_at "dz"
 rfl
def z69 (rest B:List Tm) (u:Tm):List Tm:=Cn (z0b rest (pro B [(u.1,-u.2)]))
def Rst (S:Sl) (L:List Tm):Prop:=S=.im (.lst (L.map TM))\/S=.ow (.lst (L.map TM))
theorem z9j (L:List Tm) (t:Tm):dIx (.lst ((L++[t]).map TM)) (.int (-1))=some (TM t):=by
 have:(L++[t]).map TM=L.map TM++[TM t]:=by simp
 simp only [dIx,dOr,zea,this,zio]
theorem zi4 (L:List Tm):z7u [.lst (L.map TM)]=some (.int (L.length:Int)):=by simp only [z7u,List.length_map]
theorem zuj (O B:Sl) (S:Sl) (L F:List Tm) (hS:Rst S L) (s4:Sl):z0r (see [O,B,S,.ow (.lst (F.map TM)),s4])=.ok (decide (0<L.length)):=by
 have e:=zi4 L
 have e0:zpb (.int (L.length:Int)) (.int 0)=some (.bl (decide (0<L.length))):=by
  show some (D.bl (decide ((L.length:Int) > 0)))=_
  congr 2
  exact decide_eq_decide.mpr (by omega)
 unfold z0r
 rcases hS with rfl | rfl
 all_goals
  generalize L.map TM=l at *
  walk_at "dz"
  rw [show decide ((l.length:Int) > 0)=decide (0<L.length) by
   have:D.int (l.length:Int)=.int (L.length:Int):=by simpa [z7u] using e
   rw [D.int.inj this];exact decide_eq_decide.mpr (by omega)]
theorem zm0 (O B:Sl) (S:Sl) (F:List Tm) (hF:F.length=100) (s4:Sl):z05 [O,B,S,.ow (.lst (F.map TM)),s4]=.er ⟨"NoQuotient",[]⟩:=by
 have e:z7u [.lst (F.map TM)]=some (.int 100):=by rw [zi4,hF];rfl
 unfold z05
 generalize F.map TM=f at *
 have e':(f.length:Int)=100:=by simpa [z7u] using e
 walk_at "dz"
 rw [e']
 walk_at "dz"
 simp only [z62]
 walk_at "dz"
theorem zxg (O:Sl) (S:Sl) (B L F:List Tm) (t b:Tm) (hS:Rst S (L++[t])) (hF:F.length≠100) (s4:Sl) (hb:b.2≠0) (hs:b.2.natAbs<2 ^ 200) (hm:t.2.fmod b.2≠0) :
  z05 [O,.im (.lst ((B++[b]).map TM)),S,.ow (.lst (F.map TM)),s4]=.er ⟨"NoQuotient",[]⟩:=by
 have e:z7u [.lst (F.map TM)]=some (.int (F.length:Int)):=zi4 F
 have e1:=z9j B b
 have e2:=z9j L t
 have e3:=zox t b hb hs hm
 unfold z05
 have hF':((F.map TM).length:Int)≠100:=by rw [List.length_map];omega
 rcases hS with rfl | rfl
 all_goals
  generalize F.map TM=f at *
  generalize (L++[t]).map TM=l at *
  generalize (B++[b]).map TM=bb at *
  walk_at "dz"
  rw [decide_eq_false hF']
  walk_at "dz"
  rw [e1,e2]
  walk_at "dz"
  rw [e3]
  walk_at "dz"
theorem zu3 (O:Sl) (S:Sl) (B L F:List Tm) (t b:Tm) (hS:Rst S (L++[t])) (hF:F.length<100) (s4:Sl) (hb:b.2≠0) (hs:b.2.natAbs<2 ^ 200) (hm:t.2.fmod b.2=0)
  (hl:t.1.length=b.1.length) (h5:t.1.length<=1000)
  (hp:z32 [.lst ((B++[b]).map TM),.lst [TM ((quo t b).1,-(quo t b).2)]]=.ok (.lst ((pro (B++[b]) [((quo t b).1,-(quo t b).2)]).map TM)))
  (hq:z75 [.lst ((L++[t]).map TM),.lst ((pro (B++[b]) [((quo t b).1,-(quo t b).2)]).map TM)]=.ok (.lst ((z69 (L++[t]) (B++[b]) (quo t b)).map TM))) :
  z05 [O,.im (.lst ((B++[b]).map TM)),S,.ow (.lst (F.map TM)),s4]=.nx [O,.im (.lst ((B++[b]).map TM)),.ow (.lst ((z69 (L++[t]) (B++[b]) (quo t b)).map TM)),.ow (.lst ((F++[quo t b]).map TM)),.im (TM (quo t b))]:=by
 have e1:=z9j B b
 have e2:=z9j L t
 have e3:=zow t b hl h5 hb hs hm
 have hF':((F.map TM).length:Int)≠100:=by rw [List.length_map];omega
 have ap:zga (.lst (F.map TM)) [TM (quo t b)]=some (.lst ((F++[quo t b]).map TM)):=by
  simp only [zga,List.length_map]
  rw [if_pos (by omega),List.map_append]
  rfl
 have n1:=zlz (quo t b)
 have k1:=z5y (z69 (L++[t]) (B++[b]) (quo t b))
 generalize hu:quo t b=u at *
 unfold z05
 rcases hS with rfl | rfl
 all_goals
  generalize F.map TM=f at *
  generalize (F++[u]).map TM=f' at *
  generalize (L++[t]).map TM=l at *
  generalize (B++[b]).map TM=bb at *
  generalize (z69 (L++[t]) (B++[b]) u).map TM=r at *
  generalize (pro (B++[b]) [(u.1,-u.2)]).map TM=p at *
  walk_at "dz"
  rw [decide_eq_false hF']
  walk_at "dz"
  rw [e1,e2]
  walk_at "dz"
  rw [e3]
  walk_at "dz"
  rw [show keeps false (TM u)=true by unfold keeps;simp [n1]]
  walk_at "dz"
  rw [n1]
  walk_at "dz"
  rw [ap]
  walk_at "dz"
  unfold TM at hp ⊢
  walk_at "dz"
  rw [hp]
  walk_at "dz"
  rw [hq]
  walk_at "dz"
  rw [k1]
  walk_at "dz"
def Bd (n:Nat) (L:List Tm):Prop:=∀t∈L,t.2.natAbs<2 ^ n
theorem zdn:∀{a b:List Int},a.length=b.length->zdm (z2l b a) b=a
 | [],[],_=>rfl
 | [],_::_,h=>by simp at h
 | _::_,[],h=>by simp at h
 | x::a,y::b,h=>by
  show (y+x - y)::zdm (z2l b a) b=_
  rw [zdn (by simpa using h),show y+x - y=x by omega]
theorem z8k (u:Tm) (j:List Int):∀L:List Tm,tot (L.map fun c=>z16 c (u.1,-u.2)) j=- tot (L.map (z16 u)) j
 | []=>rfl
 | c::L=>by
  rw [List.map_cons,List.map_cons,z1v,z1v,z8k u j L]
  have e1:(z16 c (u.1,-u.2)).1=(z16 u c).1:=z1j _ _
  have e2:(z16 c (u.1,-u.2)).2=-(z16 u c).2:=by
   show -u.2 * c.2=-(c.2 * u.2)
   rw [Int.neg_mul,Int.mul_comm]
  rw [e1,e2]
  split<;>omega
theorem zk7 (B:List Tm) (u:Tm) (j:List Int):z12 (pro B [(u.1,-u.2)]) j=- tot (B.map (z16 u)) j:=by
 rw [z5z,zhy,z8k]
theorem zav {m:Nat} {L B:List Tm} (cL:Can m L) (u:Tm) (j:List Int):z12 (z69 L B u) j=z12 L j - tot (B.map (z16 u)) j:=by
 unfold z69
 have h1:(z08 (pro B [(u.1,-u.2)])).Nodup:=z5e (zas _ _)
 rw [zdd (z33 _ _ cL.nd),z4w,z7e h1,zk7]
 omega
theorem zaw {m:Nat} {L B:List Tm} (cL:Can m L) (hB:∀t∈B,t.1.length=m) {u:Tm} (hu:u.1.length=m):Can m (z69 L B u):=zau (z33 _ _ cL.nd) fun t ht=>by
 have:=z5c _ _ _ (List.mem_map.mpr ⟨t,ht,rfl⟩:t.1∈z08 (z0b L (pro B [(u.1,-u.2)])))
 rcases this with h | h
 . obtain ⟨v,hv,e⟩:=List.mem_map.mp h
   rw [<-e];exact cL.len v hv
 . obtain ⟨v,hv,e⟩:=List.mem_map.mp h
   rw [<-e]
   exact (z4y (m:=m) hB (fun t ht=>by rw [List.mem_singleton.mp ht];exact hu)).len v hv
theorem zu4 {m:Nat} {B:List Tm} (cB:Can m B) {v:Tm} (hv:v.1.length=m):(z08 (B.map fun c=>z16 c v)).Nodup:=by
 have hn:=cB.nd
 unfold z08 List.Nodup at hn ⊢
 rw [List.map_map,List.pairwise_map]
 rw [List.pairwise_map] at hn
 refine hn.imp_of_mem fun {a b} ha hb hab e=>hab ?_
 have e':z2l v.1 a.1=z2l v.1 b.1:=e
 rw [z1j v.1 a.1,z1j v.1 b.1] at e'
 have la:=cB.len a ha
 have lb:=cB.len b hb
 exact z9i (by omega) (by omega) e'
theorem zcc (A B:List Tm):(pro A B).length<=A.length * B.length:=by
 have h1:=zaq (z0b [] (prs A B))
 have h2:=z4x (prs A B) []
 rw [zca,List.length_nil] at h2
 unfold pro
 omega
theorem zax (L B:List Tm) (u:Tm):(z69 L B u).length<=L.length+B.length:=by
 have h1:=zaq (z0b L (pro B [(u.1,-u.2)]))
 have h2:=z4x (pro B [(u.1,-u.2)]) L
 have h3:=zcc B [(u.1,-u.2)]
 rw [List.length_singleton,Nat.mul_one] at h3
 unfold z69
 omega
theorem zk8 {a b n k:Nat} (h1:a<2 ^ n) (h2:b<2 ^ k):a * b<2 ^ (n+k):=by
 rw [Nat.pow_add]
 exact Nat.mul_lt_mul_of_lt_of_le h1 (Nat.le_of_lt h2) (Nat.two_pow_pos k)
theorem zu5 {m n k:Nat} {B:List Tm} (cB:Can m B) (bB:Bd n B) {v:Tm} (hv:v.1.length=m) (hb:v.2.natAbs<2 ^ k):Bd (k+n) (pro B [v]):=fun t ht=>by
 unfold pro at ht
 rw [zhy,ztw (zu4 cB hv)] at ht
 obtain ⟨c,hc,rfl⟩:=List.mem_map.mp (mem_Cn.mp ht).1
 show (v.2 * c.2).natAbs<_
 rw [Int.natAbs_mul]
 exact zk8 hb (bB c hc)
theorem zi5 {n:Nat} {L:List Tm} (h:Bd n L) (j:List Int):(z12 L j).natAbs<2 ^ n:=by
 by_cases z:z12 L j=0
 . rw [z];exact Nat.two_pow_pos n
 . exact h _ (z9g z)
theorem zdo {m n k:Nat} {L B:List Tm} (cL:Can m L) (cB:Can m B) (bL:Bd n L) (bB:Bd k B) {u:Tm} (hu:u.1.length=m) (hb:u.2.natAbs<2 ^ n):Bd (n+k+1) (z69 L B u):=fun t ht=>by
 have nd:(z08 (z0b L (pro B [(u.1,-u.2)]))).Nodup:=z33 _ _ cL.nd
 have e:t.2=z12 L t.1+z12 (pro B [(u.1,-u.2)]) t.1:=by
  have h:=((z2i nd).mp ht).1
  have h1:(z08 (pro B [(u.1,-u.2)])).Nodup:=z5e (zas _ _)
  rw [z4w,z7e h1] at h
  exact h.symm
 have h1:=zi5 bL t.1
 have h2:=zi5 (zu5 (v:=(u.1,-u.2)) cB bB hu (by rw [Int.natAbs_neg];exact hb)) t.1
 have h3:2 ^ n<=2 ^ (n+k):=Nat.pow_le_pow_right (by decide) (by omega)
 rw [e,Nat.pow_succ]
 have:=Int.natAbs_add_le (z12 L t.1) (z12 (pro B [(u.1,-u.2)]) t.1)
 omega
theorem zk9 {n:Nat} {v:Int} (h:v.natAbs<2 ^ n) (hn:n<=2 ^ 20):Sm v:=Nat.le_trans (PySem.intBits_le_iff.mpr h) hn
theorem zu6 {m n:Nat} {L:List Tm} (cL:Can m L) (b:Bd n L) (hn:n<=2 ^ 20):Ok m L:=⟨cL.len,fun t ht=>zk9 (b t ht) hn⟩
theorem zi6 {m:Nat} {t b:Tm} (h1:t.1.length=m) (h2:b.1.length=m):(quo t b).1.length=m:=by
 unfold quo zdm
 rw [List.length_zipWith,h1,h2];exact Nat.min_self m
theorem zoy {t b:Tm} (hm:t.2.fmod b.2=0):t.2=b.2 * (quo t b).2:=by
 have:=Int.fmod_def t.2 b.2
 rw [hm] at this
 show t.2=b.2 * t.2.fdiv b.2
 omega
theorem zi7 {n:Nat} {t b:Tm} (hb:b.2≠0) (hm:t.2.fmod b.2=0) (h:t.2.natAbs<2 ^ n):(quo t b).2.natAbs<2 ^ n:=by
 have e:=congrArg Int.natAbs (zoy hm)
 rw [Int.natAbs_mul] at e
 have:1<=b.2.natAbs:=Nat.one_le_iff_ne_zero.mpr (Int.natAbs_ne_zero.mpr hb)
 have:=Nat.mul_le_mul_right (quo t b).2.natAbs this
 omega
structure Dv (m:Nat) (B:List Tm) (b:Tm):Prop where
 can:Can m (B++[b])
 bd:Bd 98 (B++[b])
 few:(B++[b]).length<=100
 m1:m<=100
theorem Dv.bn {m:Nat} {B:List Tm} {b:Tm} (d:Dv m B b):b.2≠0:=d.can.nz b (by simp)
theorem Dv.bs {m:Nat} {B:List Tm} {b:Tm} (d:Dv m B b):b.2.natAbs<2 ^ 200:=Nat.lt_of_lt_of_le (d.bd b (by simp)) (Nat.pow_le_pow_right (by decide) (by decide))
theorem Dv.bl {m:Nat} {B:List Tm} {b:Tm} (d:Dv m B b):b.1.length=m:=d.can.len b (by simp)
theorem Dv.step {m n:Nat} {B L F:List Tm} {t b:Tm} (d:Dv m B b) (cL:Can m (L++[t])) (bL:Bd n (L++[t])) (hn:n<=20000) (lL:(L++[t]).length<=20000) (O S:Sl) (hS:Rst S (L++[t])) (hF:F.length<100) (s4:Sl) (hm:t.2.fmod b.2=0) :
  z05 [O,.im (.lst ((B++[b]).map TM)),S,.ow (.lst (F.map TM)),s4]=.nx [O,.im (.lst ((B++[b]).map TM)),.ow (.lst ((z69 (L++[t]) (B++[b]) (quo t b)).map TM)),.ow (.lst ((F++[quo t b]).map TM)),.im (TM (quo t b))]:=by
 have tl:=cL.len t (by simp)
 have m1:=d.m1
 have few:=d.few
 have bl:=d.bl
 have qb:=zi7 (n:=n) d.bn hm (bL t (by simp))
 have ok1:Ok m [((quo t b).1,-(quo t b).2)]:=⟨fun x hx=>by rw [List.mem_singleton.mp hx];exact zi6 tl d.bl,fun x hx=>by
  rw [List.mem_singleton.mp hx]
  exact zk9 (n:=n) (by rw [Int.natAbs_neg];exact qb) (by omega)⟩
 have hp:=zu1 (m:=m) (by omega) (B++[b]) [((quo t b).1,-(quo t b).2)] (zu6 d.can d.bd (by decide)) ok1 (by rw [List.length_singleton];omega) (by omega) (by simp)
 have lp:=zcc (B++[b]) [((quo t b).1,-(quo t b).2)]
 rw [List.length_singleton,Nat.mul_one] at lp
 have hq:=zu2 (a:=L++[t]) (b:=pro (B++[b]) [((quo t b).1,-(quo t b).2)]) cL.nd (by omega)
 exact zu3 O S B L F t b hS hF s4 d.bn d.bs hm (by omega) (by omega) hp hq
theorem z6i (t:DE->R Bool) (g:DS->SR) (n:Nat) (ρ:DS):z31 t g (n+1) ρ=(t (see ρ)).toS fun b=>if b=true then (g ρ).itr (z31 t g n) else .nx ρ:=by
 rfl
theorem zdp {m:Nat} {a b:Tm} (ha:a.1.length=m) (hb:b.1.length=m) (nb:b.2≠0):quo (z2l b.1 a.1,b.2 * a.2) b=a:=by
 unfold quo
 simp only
 rw [zdn (by omega),Int.mul_fdiv_cancel_left _ nb]
theorem z9k {a b:Int}:(b * a).fmod b=0:=Int.mul_fmod_right b a
theorem zev {m:Nat} {A Bb:List Tm} {a:Tm} (cA:Can m (A++[a])) (hB:∀t∈Bb,t.1.length=m):z69 (pro (A++[a]) Bb) Bb a=pro A Bb:=by
 have cP:=z4y (m:=m) cA.len hB
 have hA:∀t∈A,t.1.length=m:=fun t ht=>cA.len t (by simp [ht])
 refine (zaw cP hB (cA.len a (by simp))).ext (z4y hA hB) fun j=>?_
 rw [zav cP,z5z,z5z,z4k,z0m,z2d,z0m]
 show _+(_+tot [] j) - _=_
 rw [show tot [] j=0 from rfl]
 omega
theorem zcd {m:Nat} {B:List Tm} {b:Tm} (d:Dv m B b) (O:Sl):∀(k:Nat) (A F:List Tm) (S s4:Sl) (n N:Nat),A.length=k->Can m A->Rst S (pro A (B++[b]))->Bd n (pro A (B++[b]))->n+99 * (100 - F.length)<=20000->(pro A (B++[b])).length+100 * (100 - F.length)<=20000->F.length<=100->k<N ->
  if F.length+A.length<=100 then ∃S' s4',z31 z0r z05 N [O,.im (.lst ((B++[b]).map TM)),S,.ow (.lst (F.map TM)),s4]=.nx [O,.im (.lst ((B++[b]).map TM)),S',.ow (.lst ((F++A.reverse).map TM)),s4']
  else z31 z0r z05 N [O,.im (.lst ((B++[b]).map TM)),S,.ow (.lst (F.map TM)),s4]=.er ⟨"NoQuotient",[]⟩
 | 0,A,F,S,s4,n,N+1,hk,cA,hS,bd,hn,hl,hF,hN=>by
  obtain rfl:A=[]:=List.length_eq_zero_iff.mp hk
  rw [if_pos (by simpa using hF)]
  refine ⟨S,s4,?_⟩
  rw [z6i,zuj O _ S _ F hS s4]
  simp only [List.reverse_nil,List.append_nil]
  rfl
 | k+1,A,F,S,s4,n,N+1,hk,cA,hS,bd,hn,hl,hF,hN=>by
  rcases List.eq_nil_or_concat A with e | ⟨A',a,e⟩
  . rw [e] at hk;simp at hk
  . rw [List.concat_eq_append] at e
    subst e
    obtain ⟨P,eP⟩:=zos cA d.can
    have cP:=z4y (m:=m) cA.len d.can.len
    have la:=cA.len a (by simp)
    have rb:=zev cA d.can.len
    have cA':Can m A':=⟨by have:=cA.nd;rw [z7g] at this;exact (List.nodup_append.mp this).1,fun t ht=>cA.nz t (by simp [ht]),fun t ht=>cA.len t (by simp [ht]),(List.pairwise_append.mp cA.so).1⟩
    have l1:(A'++[a]).length=A'.length+1:=by simp
    rw [l1] at hk
    have pos:0<(pro (A'++[a]) (B++[b])).length:=by rw [eP];simp
    rw [z6i,zuj O _ S _ F hS s4,decide_eq_true pos]
    by_cases h100:F.length=100
    . rw [if_neg (by rw [l1];omega)]
      show (z05 _).itr _=_
      rw [zm0 O _ S F h100 s4];rfl
    . have st:=d.step (F:=F) (L:=P) (t:=(z2l b.1 a.1,b.2 * a.2)) (n:=n) (by rw [<-eP];exact cP) (by rw [<-eP];exact bd) (by omega) (by rw [<-eP];omega) O S (by rw [<-eP];exact hS) (by omega) s4 z9k
      rw [zdp la d.bl d.bn,<-eP,rb] at st
      have bd':Bd (n+98+1) (pro A' (B++[b])):=by
       rw [<-rb]
       refine zdo cP d.can bd d.bd la ?_
       have hx:=zi7 (t:=(z2l b.1 a.1,b.2 * a.2)) (n:=n) d.bn z9k (bd _ (by rw [eP];simp))
       rw [zdp la d.bl d.bn] at hx
       exact hx
      have lr:=zax (pro (A'++[a]) (B++[b])) (B++[b]) a
      rw [rb] at lr
      have few:=d.few
      have lF:(F++[a]).length=F.length+1:=by simp
      have ih:=zcd d O k A' (F++[a]) (.ow (.lst ((pro A' (B++[b])).map TM))) (.im (TM a)) (n+98+1) N (by omega) cA' (.inr rfl) bd' (by rw [lF];omega) (by rw [lF];omega) (by rw [lF];omega) (by omega)
      have go:((R.ok true).toS fun bb=>if bb=true then (z05 [O,.im (.lst ((B++[b]).map TM)),S,.ow (.lst (F.map TM)),s4]).itr (z31 z0r z05 N) else .nx [O,.im (.lst ((B++[b]).map TM)),S,.ow (.lst (F.map TM)),s4])=z31 z0r z05 N [O,.im (.lst ((B++[b]).map TM)),.ow (.lst ((pro A' (B++[b])).map TM)),.ow (.lst ((F++[a]).map TM)),.im (TM a)]:=by
       show (z05 _).itr _=_
       rw [st];rfl
      rw [go]
      have eq1:(F++[a]).length+A'.length=F.length+(A'++[a]).length:=by simp;omega
      rw [eq1] at ih
      have eq2:F++[a]++A'.reverse=F++(A'++[a]).reverse:=by simp
      rw [eq2] at ih
      exact ih
theorem zoz {m:Nat} {B:List Tm} {b:Tm} (d:Dv m B b) (O:Sl) (pc:List Int->Int) (hno:∀F:List Tm,(∀t∈F,t.1.length=m)->∃j,tot (prs F (B++[b])) j≠pc j):∀(k:Nat) (L F:List Tm) (S s4:Sl) (n N:Nat),100 - F.length=k->Can m L->Rst S L->Bd n L->n+99 * (100 - F.length)<=20000->L.length+100 * (100 - F.length)<=20000->F.length<=100->(∀t∈F,t.1.length=m)->(∀j,z12 L j+tot (prs F (B++[b])) j=pc j)->k<N ->
  z31 z0r z05 N [O,.im (.lst ((B++[b]).map TM)),S,.ow (.lst (F.map TM)),s4]=.er ⟨"NoQuotient",[]⟩:=by
 intro k
 induction k with
 | zero=>
  intro L F S s4 n N hk cL hS bd hn hl hF lF inv hN
  obtain ⟨N,rfl⟩:∃N',N=N'+1:=⟨N - 1,by omega⟩
  have pos:0<L.length:=by
   apply Classical.byContradiction
   intro z
   obtain rfl:L=[]:=List.length_eq_zero_iff.mp (by omega)
   obtain ⟨j,hj⟩:=hno F lF
   have:=inv j
   rw [z3w,Int.zero_add] at this
   exact hj this
  rw [z6i,zuj O _ S _ F hS s4,decide_eq_true pos]
  show (z05 _).itr _=_
  rw [zm0 O _ S F (by omega) s4];rfl
 | succ k ih=>
  intro L F S s4 n N hk cL hS bd hn hl hF lF inv hN
  obtain ⟨N,rfl⟩:∃N',N=N'+1:=⟨N - 1,by omega⟩
  rcases List.eq_nil_or_concat L with e | ⟨L',t,e⟩
  . subst e
    obtain ⟨j,hj⟩:=hno F lF
    have:=inv j
    rw [z3w,Int.zero_add] at this
    exact absurd this hj
  . rw [List.concat_eq_append] at e
    subst e
    rw [z6i,zuj O _ S _ F hS s4,decide_eq_true (by simp)]
    show (z05 _).itr _=_
    by_cases hm:t.2.fmod b.2=0
    . have tl:=cL.len t (by simp)
      have ql:=zi6 tl d.bl
      rw [d.step cL bd (by omega) (by omega) O S hS (by omega) s4 hm]
      show z31 z0r z05 N _=_
      have lr:=zax (L'++[t]) (B++[b]) (quo t b)
      have few:=d.few
      have lF':(F++[quo t b]).length=F.length+1:=by simp
      refine ih _ (F++[quo t b]) _ _ (n+98+1) N (by rw [lF'];omega) (zaw cL d.can.len ql) (.inr rfl) (zdo cL d.can bd d.bd ql (zi7 d.bn hm (bd t (by simp)))) (by rw [lF'];omega) (by rw [lF'];omega) (by rw [lF'];omega) (fun x hx=>?_) (fun j=>?_) (by omega)
      . rcases List.mem_append.mp hx with h | h
        . exact lF x h
        . rw [List.mem_singleton.mp h];exact ql
      . rw [zav cL,z4k,z0m,z2d,z0m,<-inv j]
        show _ - _+(_+(_+tot [] j))=_
        rw [show tot [] j=0 from rfl]
        omega
    . rw [zxg O S B L' F t b hS (by omega) s4 d.bn d.bs hm];rfl
def cv (f:List Int->Int) (j:List Int):List Tm->Int
 | []=>0
 | b::B=>b.2 * f (zdm j b.1)+cv f j B
theorem zdq:∀{a b j:List Int},a.length=j.length->b.length=j.length->(z2l a b=j↔a=zdm j b)
 | [],[],[],_,_=>by simp [z2l,zdm]
 | [],_,_::_,h,_=>by simp at h
 | _::_,_,[],h,_=>by simp at h
 | _,[],_::_,_,h=>by simp at h
 | _,_::_,[],_,h=>by simp at h
 | x::a,y::b,z::j,h1,h2=>by
  have ih:=zdq (a:=a) (b:=b) (j:=j) (by simpa using h1) (by simpa using h2)
  show ((x+y)::z2l a b=z::j)↔(x::a=(z - y)::zdm j b)
  rw [List.cons.injEq,List.cons.injEq,ih]
  exact and_congr (by omega) Iff.rfl
theorem zm1 {m:Nat} (b:Tm) (hb:b.1.length=m) {j:List Int} (hj:j.length=m):∀L:List Tm,(∀t∈L,t.1.length=m)->tot (L.map (z16 b)) j=b.2 * tot L (zdm j b.1)
 | [],_=>by show (0:Int)=b.2 * 0;omega
 | u::L,h=>by
  have hu:=h u List.mem_cons_self
  rw [List.map_cons,z1v,z1v,zm1 b hb hj L fun t ht=>h t (List.mem_cons_of_mem _ ht),Int.mul_add]
  congr 1
  have e:=zdq (a:=u.1) (b:=b.1) (j:=j) (by omega) (by omega)
  show (if z2l u.1 b.1=j then u.2 * b.2 else 0)=_
  by_cases q:z2l u.1 b.1=j
  . rw [if_pos q,if_pos (e.mp q),Int.mul_comm]
  . rw [if_neg q,if_neg (fun z=>q (e.mpr z)),Int.mul_zero]
theorem zdr {m:Nat} {L:List Tm} (hL:∀t∈L,t.1.length=m) {j:List Int} (hj:j.length=m):∀B:List Tm,(∀t∈B,t.1.length=m)->tot (prs B L) j=cv (tot L) j B
 | [],_=>rfl
 | b::B,h=>by
  rw [z2d,z0m,zm1 b (h b List.mem_cons_self) hj L hL,zdr hL hj B fun t ht=>h t (List.mem_cons_of_mem _ ht)]
  rfl
theorem zm2 (f g h:List Int->Int) (j:List Int) (e:∀k,f k=g k - h k):∀B:List Tm,cv f j B=cv g j B - cv h j B
 | []=>rfl
 | b::B=>by
  show b.2 * f _+cv f j B=b.2 * g _+cv g j B - (b.2 * h _+cv h j B)
  rw [zm2 f g h j e B,e,Int.mul_sub]
  omega
theorem zp0 {m:Nat} {B A F:List Tm} {b:Tm} (cB:Can m (B++[b])) (hA:∀t∈A,t.1.length=m) (hF:∀t∈F,t.1.length=m) {p:List Int} (hp:p.length=m) {c:Int} (hc:c≠0) (h1:B=[]->c.fmod b.2≠0) :
  ∃j,tot (prs F (B++[b])) j≠tot (prs A (B++[b])) j+(if j=p then c else 0):=by
 apply Classical.byContradiction
 intro hn
 have all:∀j,tot (prs F (B++[b])) j=tot (prs A (B++[b])) j+(if j=p then c else 0):=fun j=>Classical.byContradiction fun z=>hn ⟨j,z⟩
 have hFA:∀t∈F++zjz A,t.1.length=m:=fun t ht=>by
  rcases List.mem_append.mp ht with h | h
  . exact hF t h
  . unfold zjz at h
    obtain ⟨u,hu,rfl⟩:=List.mem_map.mp h
    exact hA u hu
 have nd:(z08 (z0b [] (F++zjz A))).Nodup:=z33 _ _ (by simp [z08])
 have cQ:Can m (Cn (z0b [] (F++zjz A))):=zau nd fun t ht=>by
  have:=z5c _ _ _ (List.mem_map.mpr ⟨t,ht,rfl⟩:t.1∈z08 (z0b [] (F++zjz A)))
  rcases this with h | h
  . simp [z08] at h
  . obtain ⟨u,hu,e⟩:=List.mem_map.mp h
    rw [<-e];exact hFA u hu
 have tQ:∀k,tot (Cn (z0b [] (F++zjz A))) k=tot F k - tot A k:=fun k=>by
  rw [z7e cQ.nd,zdd nd,z4w,z3w,Int.zero_add,z0m,zho]
  omega
 generalize Cn (z0b [] (F++zjz A))=Q at *
 have main:∀j:List Int,j.length=m->tot (prs Q (B++[b])) j=if j=p then c else 0:=fun j hj=>by
  have e:=all j
  rw [<-z6h j F,<-z6h j A,zdr hF hj _ cB.len,zdr hA hj _ cB.len] at e
  rw [<-z6h j Q,zdr cQ.len hj _ cB.len,zm2 _ _ _ j tQ]
  omega
 have mb:b∈B++[b]:=by simp
 cases Q with
 | nil=>
  have:=main p hp
  rw [if_pos rfl] at this
  exact hc this.symm
 | cons q0 Q0=>
  obtain ⟨Q1,q1,e1⟩:∃Q1 q1,q0::Q0=Q1++[q1]:=by
   rcases List.eq_nil_or_concat (q0::Q0) with e | ⟨Q1,q1,e⟩
   . cases e
   . exact ⟨Q1,q1,by rw [e,List.concat_eq_append]⟩
  obtain ⟨b0,B0,e0⟩:∃b0 B0,B++[b]=b0::B0:=by
   cases B with
   | nil=>exact ⟨b,[],rfl⟩
   | cons x B=>exact ⟨x,B++[b],rfl⟩
  have m0:q0∈q0::Q0:=List.mem_cons_self
  have m1:q1∈q0::Q0:=by rw [e1];simp
  have mb0:b0∈B++[b]:=by rw [e0];exact List.mem_cons_self
  have top:∀u∈q0::Q0,le' u.1 q1.1:=by rw [e1] at cQ ⊢;exact cQ.top
  have bot:=cQ.bot
  have botB:∀u∈B++[b],le' b0.1 u.1:=by
   have:=cB
   rw [e0] at this ⊢
   exact this.bot
  have t1:=z7h cQ.nd cB.nd m1 mb fun u hu x hx e=>by
   have:=zdl (cB.len x hx) (cB.len b mb) (cQ.len u hu) (cQ.len q1 m1) (cB.top x hx) (top u hu) e
   exact ⟨this.2,this.1⟩
  have t0:=z7h cQ.nd cB.nd m0 mb0 fun u hu x hx e=>by
   have:=zdl (cB.len b0 mb0) (cB.len x hx) (cQ.len q0 m0) (cQ.len u hu) (botB x hx) (bot u hu) e.symm
   exact ⟨this.2.symm,this.1.symm⟩
  rw [main _ (z9h (cB.len b mb) (cQ.len q1 m1))] at t1
  rw [main _ (z9h (cB.len b0 mb0) (cQ.len q0 m0))] at t0
  have n1:b.2 * q1.2≠0:=zcb (cB.nz b mb) (cQ.nz q1 m1)
  have n0:b0.2 * q0.2≠0:=zcb (cB.nz b0 mb0) (cQ.nz q0 m0)
  have p1:z2l b.1 q1.1=p:=Classical.byContradiction fun z=>by rw [if_neg z] at t1;exact n1 t1.symm
  have p0:z2l b0.1 q0.1=p:=Classical.byContradiction fun z=>by rw [if_neg z] at t0;exact n0 t0.symm
  have eqb:=(zdl (cB.len b0 mb0) (cB.len b mb) (cQ.len q0 m0) (cQ.len q1 m1) (botB b mb) (top q0 m0) (p0.trans p1.symm)).1
  cases B with
  | nil=>
   rw [if_pos p1] at t1
   refine h1 rfl ?_
   rw [t1];exact z9k
  | cons x B=>
   have ex:x=b0:=by simpa using (List.cons.inj e0).1
   have:=(List.pairwise_append.mp cB.so).2.2 x (by simp) b (by simp)
   rw [ex,eqb] at this
   exact z5f _ this
theorem z9l {P B:List Tm} {b:Tm} {r:SR} (h:z31 z0r z05 200000 [.im (.lst (P.map TM)),.im (.lst ((B++[b]).map TM)),.im (.lst (P.map TM)),.ow (.lst (([]:List Tm).map TM)),.em]=r) :
  z0l [.lst (P.map TM),.lst ((B++[b]).map TM)]=SR.out true (r.thn fun ρ=>z3p [false,false,false,true] (eCB z3l (z00 (z03 3) z0c)) ρ):=by
 have l:((B++[b]).map TM).length=B.length+1:=by simp
 have ne:¬((((B++[b]).map TM).length:Int)=0):=by rw [l];omega
 rw [List.map_nil] at h
 unfold z0l z5u
 generalize P.map TM=p at *
 generalize (B++[b]).map TM=bb at *
 walk_at "dz"
 rw [decide_eq_false ne]
 walk_at "dz"
 unfold zcs
 rw [h]
 rfl
theorem zi8 {m:Nat} {A B:List Tm} {b:Tm} (d:Dv m B b) (cA:Can m A) {n:Nat} (bd:Bd n (pro A (B++[b]))) (hn:n<=10000) (hl:(pro A (B++[b])).length<=10000) (hA:A.length<=100) :
  z0l [.lst ((pro A (B++[b])).map TM),.lst ((B++[b]).map TM)]=.ok (.lst (A.map TM)):=by
 have h:=zcd d (.im (.lst ((pro A (B++[b])).map TM))) A.length A [] (.im (.lst ((pro A (B++[b])).map TM))) .em n 200000 rfl cA (.inl rfl) bd (by simp;omega) (by simp;omega) (by simp) (by omega)
 rw [if_pos (by simpa using hA)] at h
 obtain ⟨S',s4',h⟩:=h
 rw [z9l h,List.nil_append]
 have e:z3l [.lst (A.reverse.map TM)]=some (.lst (A.map TM)):=by
  rw [zhu,zdc A.reverse_perm,cA.cn]
 generalize A.reverse.map TM=a at *
 walk_at "dz"
 rw [e]
 walk_at "dz"
theorem zi9 {m:Nat} {A B:List Tm} {b:Tm} (d:Dv m B b) (cA:Can m A) {n:Nat} (bd:Bd n (pro A (B++[b]))) (hn:n<=10000) (hl:(pro A (B++[b])).length<=10000) (hA:100<A.length) (hA2:A.length<=1000) :
  z0l [.lst ((pro A (B++[b])).map TM),.lst ((B++[b]).map TM)]=.er ⟨"NoQuotient",[]⟩:=by
 have h:=zcd d (.im (.lst ((pro A (B++[b])).map TM))) A.length A [] (.im (.lst ((pro A (B++[b])).map TM))) .em n 200000 rfl cA (.inl rfl) bd (by simp;omega) (by simp;omega) (by simp) (by omega)
 rw [if_neg (by simp;omega)] at h
 rw [z9l h]
 rfl
theorem zp1 {m:Nat} {P B:List Tm} {b:Tm} (d:Dv m B b) (cP:Can m P) {n:Nat} (bd:Bd n P) (hn:n<=10000) (hl:P.length<=10000) (hno:∀F:List Tm,(∀t∈F,t.1.length=m)->∃j,tot (prs F (B++[b])) j≠z12 P j) :
  z0l [.lst (P.map TM),.lst ((B++[b]).map TM)]=.er ⟨"NoQuotient",[]⟩:=by
 have h:=zoz d (.im (.lst (P.map TM))) (z12 P) hno 100 P [] (.im (.lst (P.map TM))) .em n 200000 rfl cP (.inl rfl) bd (by simp;omega) (by simp;omega) (by simp) (by simp) (fun j=>by show z12 P j+0=_;omega) (by omega)
 rw [z9l h]
 rfl
theorem zka (x:D):z0l [x,.lst []]=.er ⟨"NoQuotient",[]⟩:=by
 unfold z0l z5u
 walk_at "dz"
 rw [show decide (((0:Nat):Int)=0)=true from rfl]
 walk_at "dz"
 simp only [z62]
 walk_at "dz"
theorem z7i (x y:D) (hx:x=x) (h:z0l [x,y]=.er ⟨"NoQuotient",[]⟩):z09 [x,y]=.ok (.bl true):=by
 unfold z09 z4s
 walk_at "dz"
 simp only [zuh]
 walk_at "dz"
 simp only [zr6]
 walk_at "dz"
 rw [h]
 simp only [R.kn,show knX "NoQuotient"=true from rfl,if_true,zl6,hAs,show z28 "NoQuotient"=some true from rfl]
 walk_at "dz"
 simp only [zl2,show z29 "NoQuotient"=some true from rfl,show z2a "NoQuotient"=some true from rfl,show z44 "NoQuotient"=some false from rfl,show z3m "NoQuotient"=some false from rfl,Option.map_some]
 walk_at "dz"
 simp only [SR.gone]
 walk_at "dz"
 rw [show dEq (.lst [.bl true,.bl true,.bl false,.bl false]) (.lst [.bl true,.bl true,.bl false,.bl false])=some (.bl true) from rfl]
 walk_at "dz"
theorem zp2 (p:Int):z3g [some (.int p)]=.ok (.bl false):=by
 unfold z3g
 walk_at "dz"
 rw [zts]
 walk_at "dz"
theorem zp3 (X:D) (t:Tm) (h5:t.1.length<=1000):z2k [.im X,.im (TM t)]=.nx [.im X,.im (TM t)]:=by
 obtain ⟨ps,v⟩:=t
 unfold z2k
 unfold TM
 walk_at "dz"
 rw [zts]
 walk_at "dz"
 rw [show decide (((2:Nat):Int)=2)=true from rfl]
 walk_at "dz"
 rw [if_pos (by rw [List.length_map];have:ps.length<=1000:=h5;omega),z56 (en:=D.int) (bs:=fun p=>[.int p]) (g:=fun _=>.bl false) ps (fun _ _=>rfl) (fun p _=>zp2 p)]
 walk_at "dz"
 rw [any_map ps (fun _=>false),show (ps.any fun _=>false)=false by simp]
 walk_at "dz"
theorem zp4 (x:List Tm) (h:∀t∈x,t.1.length<=1000):z1z [.lst (x.map TM)]=.ok (.bl true):=by
 unfold z1z
 rw [z7w,if_pos (show [D.lst (x.map TM)].length=1 from rfl)]
 show SR.out false (z49 [.im (.lst (x.map TM)),.em])=_
 unfold z49
 rw [z0n (ρ':=[.im (.lst (x.map TM)),.em]) (by
  generalize x.map TM=X
  walk_at "dz")]
 obtain ⟨ρ',q,s1,_,hr⟩:=z57 (tg:=.n 1) (g:=z2k) (en:=TM)
  (fun r ρ=>∃s1:Sl,(∀t∈r,t.1.length<=1000)/\ρ=[.im (.lst (x.map TM)),s1]) x [.im (.lst (x.map TM)),.em] ⟨.em,h,rfl⟩ (by
   rintro t r ρ ⟨s1,h1,rfl⟩
   exact ⟨_,_,rfl,Or.inl (zp3 _ t (h1 t List.mem_cons_self)),⟨_,fun u hu=>h1 u (List.mem_cons_of_mem _ hu),rfl⟩⟩)
 rw [z0n (ρ':=ρ') (by rw [<-q];rfl),hr]
 generalize x.map TM=X
 walk_at "dz"
theorem zm3 (P Q A:List Tm) (h:z0l [.lst (P.map TM),.lst (Q.map TM)]=.ok (.lst (A.map TM))) (hA:∀t∈A,t.1.length<=1000) (lA:A.length<=1000):z0t [.lst (P.map TM),.lst (Q.map TM),.lst (A.map TM)]=.ok (.bl true):=by
 have e1:=zp4 A hA
 have q1:=zop (zui A) (Nat.le_trans (zk5 _) (by decide))
 have q2:=zoo (zzj P Q) (zxf _ _)
 have k1:=z5y A
 have lA':(A.map TM).length<=1000:=by rw [List.length_map];exact lA
 generalize P.map TM=p at *
 generalize Q.map TM=q at *
 generalize A.map TM=a at *
 unfold z0t z77
 walk_at "dz"
 rw [h]
 walk_at "dz"
 rw [k1]
 walk_at "dz"
 rw [e1]
 walk_at "dz"
 rw [q1]
 walk_at "dz"
 rw [show zga (.lst a) [.int 7]=some (.lst (a++[.int 7])) by simp only [zga];rw [if_pos (by omega)]]
 walk_at "dz"
 rw [q2]
 walk_at "dz"
def rw' (lo:Int) (n:Nat):List Tm:=(List.range n).map fun (i:Nat)=>([lo+(i:Int)],1)
def xm1:List Tm:=[([0],-1)]++[([1],1)]
theorem zds (lo:Int) (n:Nat):Can 1 (rw' lo n):=by
 have so:(rw' lo n).Pairwise fun a b=>lx a.1 b.1:=by
  unfold rw'
  rw [List.pairwise_map]
  refine List.pairwise_lt_range.imp fun {a b} h=>?_
  show HT.lexLt [lo+(a:Int)] [lo+(b:Int)]=true
  rw [HT.lexLt_cons,if_neg (by omega)]
  exact decide_eq_true (by omega)
 refine ⟨?_,fun t ht=>?_,fun t ht=>?_,so⟩
 . unfold z08 List.Nodup
   rw [List.pairwise_map]
   exact so.imp fun {a b} h e=>by rw [e] at h;exact z5f _ h
 . unfold rw' at ht
   obtain ⟨i,_,rfl⟩:=List.mem_map.mp ht
   exact (by decide:(1:Int)≠0)
 . unfold rw' at ht
   obtain ⟨i,_,rfl⟩:=List.mem_map.mp ht
   rfl
theorem can_xm1:Can 1 xm1:=by
 refine ⟨by decide,by decide,by decide,by decide⟩
theorem zm4 (lo:Int) (j:List Int):∀n:Nat,tot (prs (rw' lo n) xm1) j=(if [lo+(n:Int)]=j then 1 else 0) - (if [lo]=j then 1 else 0)
 | 0=>by
  rw [show prs (rw' lo 0) xm1=[] from rfl,show lo+((0:Nat):Int)=lo by omega]
  show (0:Int)=_
  omega
 | n+1=>by
  have e:rw' lo (n+1)=rw' lo n++[([lo+(n:Int)],1)]:=by unfold rw';rw [List.range_succ,List.map_append];rfl
  rw [e,z4k,z0m,zm4 lo j n,z2d,z0m]
  rw [show xm1.map (z16 ([lo+(n:Int)],1))=[([0+(lo+(n:Int))],-1 * 1),([1+(lo+(n:Int))],1 * 1)] from rfl,z1v,z1v,show tot (prs [] xm1) j=0 from rfl,show tot [] j=0 from rfl]
  rw [show (0:Int)+(lo+(n:Int))=lo+(n:Int) by omega,show (1:Int)+(lo+(n:Int))=lo+((n+1:Nat):Int) by omega]
  simp only
  split<;>split<;>split<;>omega
def z9o (lo hi:Int):List Tm:=if lo<hi then [([lo],-1),([hi],1)] else []
theorem zkb (lo hi:Int):Can 1 (z9o lo hi):=by
 unfold z9o
 split
 . rename_i h
   have l:lx [lo] [hi]:=by
    show HT.lexLt [lo] [hi]=true
    rw [HT.lexLt_cons,if_neg (by omega)]
    exact decide_eq_true h
   have so:([([lo],-1),([hi],1)]:List Tm).Pairwise fun a b=>lx a.1 b.1:=by
    rw [List.pairwise_cons]
    exact ⟨fun u hu=>by rw [List.mem_singleton.mp hu];exact l,by simp⟩
   refine ⟨?_,fun t ht=>?_,fun t ht=>?_,so⟩
   . unfold z08 List.Nodup
     rw [List.pairwise_map]
     exact so.imp fun {a b} h e=>by rw [e] at h;exact z5f _ h
   . simp only [List.mem_cons,List.not_mem_nil,or_false] at ht
     rcases ht with rfl | rfl
     . exact (by decide:(-1:Int)≠0)
     . exact (by decide:(1:Int)≠0)
   . simp only [List.mem_cons,List.not_mem_nil,or_false] at ht
     rcases ht with rfl | rfl<;>rfl
 . exact ⟨by simp [z08],by simp,by simp,by simp⟩
theorem z60 {lo hi:Int} (h:lo<=hi):pro (rw' lo (hi - lo).toNat) xm1=z9o lo hi:=by
 refine (z4y (zds lo _).len can_xm1.len).ext (zkb lo hi) fun j=>?_
 rw [z5z,zm4,show lo+(((hi - lo).toNat:Nat):Int)=hi by omega]
 unfold z9o
 by_cases hh:lo<hi
 . rw [if_pos hh,z1o,z1o,z3w]
   by_cases e1:[lo]=j
   . rw [if_pos e1,if_pos e1,if_neg (fun z=>by rw [<-e1,List.cons.injEq] at z;omega)]
     rfl
   . rw [if_neg e1,if_neg e1,Int.sub_zero]
 . rw [if_neg hh,show lo=hi by omega,z3w]
   omega
theorem zm5:Dv 1 [([0],-1)] ([1],1):=⟨can_xm1,by unfold Bd;decide,by decide,by decide⟩
theorem zia (lo hi:Int):Bd 1 (z9o lo hi):=fun t ht=>by
 unfold z9o at ht
 split at ht
 . simp only [List.mem_cons,List.not_mem_nil,or_false] at ht
   rcases ht with rfl | rfl
   . show (1:Nat)<2 ^ 1;decide
   . show (1:Nat)<2 ^ 1;decide
 . simp at ht
theorem zdt (lo hi:Int):(z9o lo hi).length<=2:=by unfold z9o;split<;>simp
theorem zu7 {lo hi:Int} (h:lo<=hi) (h100:hi - lo<=100):z0t [.lst ((z9o lo hi).map TM),.lst (xm1.map TM),.lst ((rw' lo (hi - lo).toNat).map TM)]=.ok (.bl true):=by
 have l:(rw' lo (hi - lo).toNat).length=(hi - lo).toNat:=by unfold rw';rw [List.length_map,List.length_range]
 have lr:=zdt lo hi
 refine zm3 _ _ _ ?_ (fun t ht=>by rw [(zds lo _).len t ht];decide) (by omega)
 have q:=zi8 zm5 (zds lo (hi - lo).toNat) (n:=1) (by show Bd 1 (pro _ xm1);rw [z60 h];exact zia lo hi) (by decide) (by show (pro _ xm1).length<=_;rw [z60 h];omega) (by omega)
 have e:pro (rw' lo (hi - lo).toNat) ([([0],-1)]++[([1],1)])=z9o lo hi:=z60 h
 rw [e] at q
 exact q
theorem zu8 {lo hi:Int} (h:100<hi - lo) (h2:hi - lo<=1000):z09 [.lst ((z9o lo hi).map TM),.lst (xm1.map TM)]=.ok (.bl true):=by
 have l:(rw' lo (hi - lo).toNat).length=(hi - lo).toNat:=by unfold rw';rw [List.length_map,List.length_range]
 have lr:=zdt lo hi
 refine z7i _ _ rfl ?_
 have hh:lo<=hi:=by omega
 have q:=zi9 zm5 (zds lo (hi - lo).toNat) (n:=1) (by show Bd 1 (pro _ xm1);rw [z60 hh];exact zia lo hi) (by decide) (by show (pro _ xm1).length<=_;rw [z60 hh];omega) (by omega) (by omega)
 have e:pro (rw' lo (hi - lo).toNat) ([([0],-1)]++[([1],1)])=z9o lo hi:=z60 hh
 rw [e] at q
 exact q
theorem zib (c:Int) (lo hi:Int) (h:lo<=hi) (h2:hi - lo<=200) (hr:-1000<=lo/\hi<=1000) (s3 s4:Sl) :
  (z1e (z34 true 3 [] (z67 z0c))
  (z1e (sIf (z3o asB (eOp zqs (z03 2) (z03 1)))
   (z34 true 3 [false,true,true] (z67 (z00 (z5g (z00 (z5g (z00 (z03 2) z0c)) (z00 (eUn zih (eC (.int 1))) z0c))) (z00 (z5g (z00 (z5g (z00 (z03 1) z0c)) (z00 (eC (.int 1)) z0c))) z0c))))
   sNx)
  (z1e (z34 true 4 [] (z67 (z00 (z5g (z00 (z5g (z00 (eC (.int 0)) z0c)) (z00 (eUn zih (eC (.int 1))) z0c))) (z00 (z5g (z00 (z5g (z00 (eC (.int 1)) z0c)) (z00 (eC (.int 1)) z0c))) z0c))))
  (z1e (sIf (z3o asB (eOp zpb (eOp ze7 (z03 1) (z03 2)) (eC (.int 100))))
   (z3p [false,false,false,true,true] (z17 z09 (z00 (z03 3) (z00 (z03 4) z0c))))
   sNx)
  (z3p [false,true,true,true,true] (z17 z0t (z00 (z03 3) (z00 (z03 4) (z00 (z1k (zkv (z00 (z03 2) (z00 (z03 1) z0c))) b1 [] z5p z0f) z0c)))))))))
  [.im (.int c),.im (.int hi),.im (.int lo),s3,s4]=.rt (.bl true):=by
 rw [z0n (ρ':=[.im (.int c),.im (.int hi),.im (.int lo),.ow (.lst []),s4]) (by walk_at "dz")]
 rw [z0n (ρ':=[.im (.int c),.im (.int hi),.im (.int lo),.ow (.lst ((z9o lo hi).map TM)),s4]) (by
  unfold z9o
  by_cases hh:lo<hi
  . walk_at "dz"
    rw [decide_eq_true hh,if_pos hh]
    walk_at "dz"
    cases s4<;>rfl
  . walk_at "dz"
    rw [decide_eq_false hh,if_neg hh]
    walk_at "dz")]
 rw [z0n (ρ':=[.im (.int c),.im (.int hi),.im (.int lo),.ow (.lst ((z9o lo hi).map TM)),.ow (.lst (xm1.map TM))]) (by
  generalize (z9o lo hi).map TM=r
  walk_at "dz"
  rfl)]
 have e1:=zu7 (lo:=lo) (hi:=hi) h
 have e2:=zu8 (lo:=lo) (hi:=hi)
 have ec:z1k (zkv (z00 (z03 2) (z00 (z03 1) z0c))) b1 [] z5p z0f [some (.int c),some (.int hi),some (.int lo),some (.lst ((z9o lo hi).map TM)),some (.lst (xm1.map TM))]=.ok (.lst ((rw' lo (hi - lo).toNat).map TM)):=by
  unfold z1k
  rw [zwp lo hi (by omega) (by omega) rfl,R.bind_ok,if_pos (by simp only [zD,List.length_map,List.length_range];omega)]
  simp only [zD]
  show ((z4m b1 z5p z0f [] ((List.range (hi - lo).toNat).map fun (i:Nat)=>D.int (lo+(i:Int)))).bind fun ys=>R.ok (D.lst ys))=_
  rw [z56 (bn:=b1) (en:=fun i:Nat=>D.int (lo+(i:Int))) (bs:=fun i=>[.int (lo+(i:Int))]) (g:=fun i=>TM ([lo+(i:Int)],1)) (List.range (hi - lo).toNat) (fun x _=>rfl) (fun k _=>by
   unfold z0f
   walk_at "dz"
   rfl)]
  rw [R.bind_ok]
  unfold rw'
  rw [List.map_map]
  rfl
 generalize (rw' lo (hi - lo).toNat).map TM=w at *
 generalize (z9o lo hi).map TM=r at *
 generalize xm1.map TM=x at *
 by_cases hh:hi - lo > 100
 . have e2':=e2 hh (by omega)
   walk_at "dz"
   rw [decide_eq_true hh]
   walk_at "dz"
   rw [e2']
   walk_at "dz"
 . have e1':=e1 (by omega)
   generalize (z1k (zkv (z00 (z03 2) (z00 (z03 1) z0c))) b1 [] z5p z0f)=E at *
   walk_at "dz"
   rw [decide_eq_false hh]
   walk_at "dz"
   rw [ec]
   walk_at "dz"
   rw [e1']
   walk_at "dz"
theorem zxh (c:Int):z0i [.int c]=.ok (.bl true):=by
 have a0:0<=c / 5 % 121:=Int.emod_nonneg _ (by decide)
 have a1:c / 5 % 121<121:=Int.emod_lt_of_pos _ (by decide)
 have b0:0<=c / 605 % (c / 5 % 121 - 60+61):=Int.emod_nonneg _ (by omega)
 have b1:c / 605 % (c / 5 % 121 - 60+61)<c / 5 % 121 - 60+61:=Int.emod_lt_of_pos _ (by omega)
 have c0:0<=c % 5:=Int.emod_nonneg _ (by decide)
 have d0:0<=c / 5 % 20:=Int.emod_nonneg _ (by decide)
 have d1:c / 5 % 20<20:=Int.emod_lt_of_pos _ (by decide)
 unfold z0i
 rw [z7w,if_pos (show [D.int c].length=1 from rfl)]
 show SR.out false (z1p [.im (.int c),.em,.em,.em,.em])=_
 unfold z1p
 rw [z0n (ρ':=[.im (.int c),.im (.int (c / 5 % 121 - 60)),.em,.em,.em]) (by
  walk_at "dz"
  rw [z6y (by decide)]
  walk_at "dz"
  rw [z42 (by decide)]
  walk_at "dz")]
 rw [z0n (ρ':=[.im (.int c),.im (.int (c / 5 % 121 - 60)),.im (.int (c / 5 % 121 - 60 - c / 605 % (c / 5 % 121 - 60+61))),.em,.em]) (by
  walk_at "dz"
  rw [z6y (by decide)]
  walk_at "dz"
  rw [z42 (by omega)]
  walk_at "dz")]
 by_cases h2:c % 5<2
 . rw [z0n (ρ':=[.im (.int c),.im (.int (41+c / 5 % 20)),.im (.int (41+c / 5 % 20 - 100 - c % 5)),.em,.em]) (by
    walk_at "dz"
    rw [z42 (by decide)]
    walk_at "dz"
    rw [decide_eq_true h2]
    walk_at "dz"
    rw [z6y (by decide)]
    walk_at "dz"
    rw [z42 (by decide)]
    walk_at "dz"
    rw [z42 (by decide)]
    walk_at "dz")]
   have:=zib c (41+c / 5 % 20 - 100 - c % 5) (41+c / 5 % 20) (by omega) (by omega) (by omega) .em .em
   rw [this];rfl
 . rw [z0n (ρ':=[.im (.int c),.im (.int (c / 5 % 121 - 60)),.im (.int (c / 5 % 121 - 60 - c / 605 % (c / 5 % 121 - 60+61))),.em,.em]) (by
    walk_at "dz"
    rw [z42 (by decide)]
    walk_at "dz"
    rw [decide_eq_false h2]
    walk_at "dz")]
   have:=zib c (c / 5 % 121 - 60 - c / 605 % (c / 5 % 121 - 60+61)) (c / 5 % 121 - 60) (by omega) (by omega) (by omega) .em .em
   rw [this];rfl
theorem zu9 {M:Nat} {L:List Tm} (h:∀t∈L,t.2.natAbs<=M) (j:List Int):(tot L j).natAbs<=L.length * M:=by
 induction L with
 | nil=>simp [tot]
 | cons t L ih=>
  have h1:=h t List.mem_cons_self
  have h2:=ih fun u hu=>h u (List.mem_cons_of_mem _ hu)
  rw [z1v,List.length_cons,Nat.add_mul,Nat.one_mul]
  have:=Int.natAbs_add_le (if t.1=j then t.2 else 0) (tot L j)
  have:(if t.1=j then t.2 else 0).natAbs<=M:=by
   split
   . exact h1
   . exact Nat.zero_le _
  omega
theorem zp5 {A B:List Tm} (hA:∀t∈A,t.2.natAbs<=10 ^ 29) (hB:∀t∈B,t.2.natAbs<=10 ^ 29) (lA:A.length<=11) (lB:B.length<=11):Bd 210 (pro A B):=fun t ht=>by
 have e:t.2=tot (prs A B) t.1:=by
  have:=((z2i (zas A B)).mp ht).1
  rw [z4w,z3w,Int.zero_add] at this
  exact this.symm
 have h:=zu9 (M:=10 ^ 58) (L:=prs A B) (fun u hu=>by
  unfold prs at hu
  obtain ⟨x,hx,hu⟩:=List.mem_flatMap.mp hu
  obtain ⟨c,hc,rfl⟩:=List.mem_map.mp hu
  show (c.2 * x.2).natAbs<=_
  rw [Int.natAbs_mul,show (10:Nat) ^ 58=10 ^ 29 * 10 ^ 29 by decide]
  exact Nat.mul_le_mul (hB c hc) (hA x hx)) t.1
 rw [zca] at h
 have:A.length * B.length<=11 * 11:=Nat.mul_le_mul lA lB
 have h2:=Nat.mul_le_mul_right (10 ^ 58) this
 rw [e]
 exact Nat.lt_of_le_of_lt (Nat.le_trans h h2) (by decide)
theorem zzn (t:Tm):z2s [some (.tup (t.1.map D.int)),some (.int t.2)]=.ok (nz t):=by
 unfold z2s
 walk_at "dz"
 simp [nz]
theorem zzo (t:Tm):z2t [some (.tup (t.1.map D.int)),some (.int t.2)]=.ok (TM t):=by
 unfold z2t
 walk_at "dz"
 rfl
theorem zdu (P:List Tm) (k:List Int) (c:Int) (j:List Int):z12 (z3q P k (z12 P k+c)) j=z12 P j+if j=k then c else 0:=by
 rw [zhm]
 split
 . rename_i h;rw [h]
 . omega
theorem zic {m:Nat} (hm:m<=5) {A B:List Tm} {b:Tm} (d:Dv m B b) (cA:Can m A) (bd:Bd 210 (pro A (B++[b]))) (hl:(pro A (B++[b])).length<=1000) (cell:Int) :
  z11 [.lst ((pro A (B++[b])).map TM),.lst ((B++[b]).map TM),.int cell]=.ok (.bl true):=by
 have cP:=z4y (m:=m) cA.len d.can.len
 obtain ⟨ps,l1,_,ep⟩:=zdi cell m 3 hm (by omega)
 obtain ⟨b0,B0,e0⟩:∃b0 B0,B++[b]=b0::B0:=by
  cases B with
  | nil=>exact ⟨b,[],rfl⟩
  | cons x B=>exact ⟨x,B++[b],rfl⟩
 have mb0:b0∈B++[b]:=by rw [e0];exact List.mem_cons_self
 have lb0:=d.can.len b0 mb0
 have nb0:=d.can.nz b0 mb0
 have sb0:b0.2.natAbs<2 ^ 200:=Nat.lt_of_lt_of_le (d.bd b0 mb0) (Nat.pow_le_pow_right (by decide) (by decide))
 have c0:0<=(cell.fdiv 7).fmod 9:=Int.fmod_nonneg_of_pos _ (by decide)
 have c1:(cell.fdiv 7).fmod 9<9:=Int.fmod_lt_of_pos _ (by decide)
 generalize hc:1+(cell.fdiv 7).fmod 9=c
 have cn:c≠0:=by omega
 have cb:c.natAbs<=9:=by omega
 have eP':∀j,z12 (Cn (z3q (pro A (B++[b])) ps (z12 (pro A (B++[b])) ps+c))) j=tot (prs A (B++[b])) j+if j=ps then c else 0:=fun j=>by
  rw [zdd (z4b _ _ cP.nd),zdu,z5z]
 have cP':Can m (Cn (z3q (pro A (B++[b])) ps (z12 (pro A (B++[b])) ps+c))):=zau (z4b _ _ cP.nd) fun t ht=>by
  have hk:t.1∈z08 (z3q (pro A (B++[b])) ps (z12 (pro A (B++[b])) ps+c)):=List.mem_map.mpr ⟨t,ht,rfl⟩
  rw [z5b] at hk
  have old:t.1∈z08 (pro A (B++[b]))->t.1.length=m:=fun h=>by
   obtain ⟨x,hx,e⟩:=List.mem_map.mp h
   rw [<-e];exact cP.len x hx
  split at hk
  . exact old hk
  . rcases List.mem_append.mp hk with h | h
    . exact old h
    . rw [List.mem_singleton.mp h];exact l1
 have bP':Bd 211 (Cn (z3q (pro A (B++[b])) ps (z12 (pro A (B++[b])) ps+c))):=fun t ht=>by
  have e:t.2=z12 (pro A (B++[b])) t.1+if t.1=ps then c else 0:=by
   have:=((z2i (z4b _ _ cP.nd)).mp ht).1
   rw [zdu] at this
   exact this.symm
  have h1:=zi5 bd t.1
  have h2:=Int.natAbs_add_le (z12 (pro A (B++[b])) t.1) (if t.1=ps then c else 0)
  have h3:(if t.1=ps then c else 0).natAbs<=9:=by
   split
   . exact cb
   . exact Nat.zero_le _
  rw [e]
  refine Nat.lt_of_le_of_lt h2 ?_
  have h4:(2:Nat) ^ 211=2 ^ 210+2 ^ 210:=by decide
  have h5:9<(2:Nat) ^ 210:=by decide
  omega
 have lP':(Cn (z3q (pro A (B++[b])) ps (z12 (pro A (B++[b])) ps+c))).length<=10000:=by
  have:=zaq (z3q (pro A (B++[b])) ps (z12 (pro A (B++[b])) ps+c))
  have:=z5x (pro A (B++[b])) ps (z12 (pro A (B++[b])) ps+c)
  omega
 have ed:=zly (l:=pro A (B++[b])) cP.nd (by omega)
 have eg:=zk1 (pro A (B++[b])) ps
 have es:=zht (l:=pro A (B++[b])) (by omega) ps (z12 (pro A (B++[b])) ps+c)
 have eE:=fun (f:DE->R D) (ρ:DE) (h:f ρ=.ok (dnA (z3q (pro A (B++[b])) ps (z12 (pro A (B++[b])) ps+c))))=>zdh (l:=z3q (pro A (B++[b])) ps (z12 (pro A (B++[b])) ps+c)) (f:=f) (ρ:=ρ) h (by have:=z5x (pro A (B++[b])) ps (z12 (pro A (B++[b])) ps+c);omega) zzn zzo
 have k1:=z5y (Cn (z3q (pro A (B++[b])) ps (z12 (pro A (B++[b])) ps+c)))
 have n1:z3z (ps.map D.int)=true:=z27 D.int _ fun x _=>z3t x
 have er:¬(B=[]/\c.fmod b0.2=0)->z09 [.lst ((Cn (z3q (pro A (B++[b])) ps (z12 (pro A (B++[b])) ps+c))).map TM),.lst ((B++[b]).map TM)]=.ok (.bl true):=fun hn=>by
  refine z7i _ _ rfl (zp1 d cP' bP' (by decide) lP' fun F hF=>?_)
  obtain ⟨j,hj⟩:=zp0 d.can cA.len hF l1 cn (fun e=>fun z=>hn ⟨e,by
   subst e
   have:b=b0:=by simpa using (List.cons.inj e0).1
   rw [<-this];exact z⟩)
  exact ⟨j,by rw [eP'];exact hj⟩
 have lB:((B++[b]).map TM).length=B.length+1:=by simp
 have hB1:((((B++[b]).map TM).length:Int)=1)↔B=[]:=by
  rw [lB,<-List.length_eq_zero_iff];omega
 have i0:dIx (.lst ((B++[b]).map TM)) (.int 0)=some (TM b0):=by rw [e0,List.map_cons];exact zla _ _
 have lt0:=zon b0.1
 rw [lb0] at lt0
 generalize hP2:z3q (pro A (B++[b])) ps (z12 (pro A (B++[b])) ps+c)=P2 at *
 generalize hw:z12 (pro A (B++[b])) ps=w at *
 generalize (pro A (B++[b])).map TM=p at *
 generalize (B++[b]).map TM=q at *
 generalize (Cn P2).map TM=r at *
 unfold z11
 rw [z7w,if_pos (show [D.lst p,D.lst q,D.int cell].length=3 from rfl)]
 show SR.out false (z3h [.im (.lst p),.im (.lst q),.im (.int cell),.em,.em,.em,.em,.em])=_
 unfold z3h
 rw [z0n (ρ':=[.im (.lst p),.im (.lst q),.im (.int cell),.im (.int (m:Int)),.em,.em,.em,.em]) (by
  walk_at "dz"
  rw [i0]
  unfold TM
  walk_at "dz"
  rw [List.length_map,lb0])]
 rw [z0n (ρ':=[.im (.lst p),.im (.lst q),.im (.int cell),.im (.int (m:Int)),.im (.tup (ps.map D.int)),.em,.em,.em]) (by
  generalize ps.map D.int=pp at *
  walk_at "dz"
  rw [show D.int 3=D.int ((3:Nat):Int) from rfl,ep]
  walk_at "dz"
  rw [n1]
  walk_at "dz")]
 rw [z0n (ρ':=[.im (.lst p),.im (.lst q),.im (.int cell),.im (.int (m:Int)),.im (.tup (ps.map D.int)),.im (.int c),.em,.em]) (by
  generalize ps.map D.int=pp at *
  walk_at "dz"
  rw [zls (by decide) (by decide)]
  walk_at "dz"
  rw [zal (by decide) (by decide)]
  walk_at "dz"
  rw [hc])]
 by_cases hx:B=[]/\c.fmod b0.2=0
 . have h1:=hB1.mpr hx.1
   generalize ps.map D.int=pp at *
   walk_at "dz"
   rw [decide_eq_true h1]
   walk_at "dz"
   rw [i0]
   unfold TM
   walk_at "dz"
   rw [zal nb0 sb0]
   walk_at "dz"
   rw [hx.2]
   walk_at "dz"
 . rw [z0n (ρ':=[.im (.lst p),.im (.lst q),.im (.int cell),.im (.int (m:Int)),.im (.tup (ps.map D.int)),.im (.int c),.em,.em]) (by
    generalize ps.map D.int=pp at *
    by_cases h1:(q.length:Int)=1
    . have h2:c.fmod b0.2≠0:=fun z=>hx ⟨hB1.mp h1,z⟩
      walk_at "dz"
      rw [decide_eq_true h1]
      walk_at "dz"
      rw [i0]
      unfold TM
      walk_at "dz"
      rw [zal nb0 sb0]
      walk_at "dz"
      rw [decide_eq_false h2]
      walk_at "dz"
    . walk_at "dz"
      rw [decide_eq_false h1]
      walk_at "dz")]
   have er':=er hx
   rw [z0n (ρ':=[.im (.lst p),.im (.lst q),.im (.int cell),.im (.int (m:Int)),.im (.tup (ps.map D.int)),.im (.int c),.ow (dnA (pro A (B++[b]))),.em]) (by
    generalize ps.map D.int=pp at *
    generalize dnA (pro A (B++[b]))=dn at *
    walk_at "dz"
    rw [ed]
    walk_at "dz"
    cases keeps true dn<;>walk_at "dz")]
   rw [z0n (ρ':=[.im (.lst p),.im (.lst q),.im (.int cell),.im (.int (m:Int)),.im (.tup (ps.map D.int)),.im (.int c),.ow (dnA P2),.em]) (by
    unfold dnA at *
    generalize ps.map D.int=pp at *
    generalize ((pro A (B++[b])).map fun t=>kN t.1)=ks at *
    generalize ((pro A (B++[b])).map fun t=>D.int t.2)=ds at *
    generalize (P2.map fun t=>kN t.1)=ks' at *
    generalize (P2.map fun t=>D.int t.2)=ds' at *
    walk_at "dz"
    rw [zdg rfl rfl rfl eg]
    walk_at "dz"
    rw [n1]
    walk_at "dz"
    rw [es]
    walk_at "dz")]
   rw [z0n (ρ':=[.im (.lst p),.im (.lst q),.im (.int cell),.im (.int (m:Int)),.im (.tup (ps.map D.int)),.im (.int c),.ow (dnA P2),.ow (.lst r)]) (by
    rw [zl5,eE _ _ rfl]
    generalize ps.map D.int=pp at *
    unfold dnA
    walk_at "dz"
    rw [k1]
    walk_at "dz")]
   generalize ps.map D.int=pp at *
   generalize dnA P2=dn at *
   walk_at "dz"
   rw [er']
   walk_at "dz"
theorem zid (ns:List Int) (a s:Int) (ha:0<=a) (hs:0<=s):((zbl ns (some a) (some (a+s))).length:Int)<=s:=by
 unfold zbl
 have e1:(HT.sIx ns.length ns.length (some (a+s)):Int)<=a+s:=by unfold HT.sIx;simp only;rw [if_neg (by omega)];omega
 have e2:(HT.sIx ns.length 0 (some a):Int)=min a ns.length:=by unfold HT.sIx;simp only;rw [if_neg (by omega)];omega
 rw [List.length_take,List.length_drop]
 omega
theorem Gd.can {m n:Nat} {Z:List Tm} (g:Gd m n Z):Can m (Cn Z):=zau g.nd g.len
theorem Gd.ok {m n:Nat} {Z:List Tm} (g:Gd m n Z):Ok m (Cn Z):=⟨fun t ht=>g.len t (mem_Cn.mp ht).1,fun t ht=>zk9 (n:=98) (Nat.lt_of_le_of_lt (g.bd t (mem_Cn.mp ht).1) (by decide)) (by decide)⟩
theorem zp6 (ns:List Int) (hd:Int) (m:Nat) (hm:m<=5) (s3:Sl) (A Q:List Tm) (cA:Can m A) (cQ:Can m Q) (bA:∀t∈A,t.2.natAbs<=10 ^ 29) (bQ:∀t∈Q,t.2.natAbs<=10 ^ 29) (lA:A.length<=11) (lQ:Q.length<=11) :
  SR.out false ((z1e (sIf (z3o asB (eOp dEq (z03 5) (z67 z0c)))
   (z3p [false,false,false,false,true] (z17 z09 (z00 (eCB z7v (z00 (z03 4) z0c)) (z00 (z67 z0c) z0c))))
   sNx)
  (z1e (z34 true 6 [false,false,false,false,true,true] (z17 z10 (z00 (z03 4) (z00 (z03 5) z0c))))
  (z1e (sIf (zex (z3o z9m (z17 z0t (z00 (z03 6) (z00 (z03 5) (z00 (z03 4) z0c))))))
   (z3p [] (eC (.bl false)))
   sNx)
  (z1e (sIf (z3o asB (eOp dEq (eOp z7n (eOp zbf (z03 1) (eC (.int 90))) (eC (.int 2))) (eC (.int 1))))
   (z3p [true,false,false,false,false,true,true] (z17 z11 (z00 (z03 6) (z00 (z03 5) (z00 (z17 z0y (z00 (z03 0) (z00 (eC (.int 2)) z0c))) z0c)))))
   sNx)
  (z3p [] (eC (.bl true))))))) [.im (.scr ns),.im (.int hd),.im (.int (m:Int)),s3,.ow (.lst (A.map TM)),.ow (.lst (Q.map TM)),.em])=.ok (.bl true):=by
 rcases List.eq_nil_or_concat Q with e | ⟨B,b,e⟩
 . subst e
   rw [List.map_nil]
   have e1:=z7i (.lst (A.map TM)) (.lst []) rfl (zka _)
   have e2:dEq (.lst []) (.lst [])=some (.bl true):=rfl
   generalize A.map TM=a at *
   walk_at "dz"
   rw [e2]
   walk_at "dz"
   rw [e1]
   walk_at "dz"
 . rw [List.concat_eq_append] at e
   subst e
   have bd98:Bd 98 (B++[b]):=fun t ht=>Nat.lt_of_le_of_lt (bQ t ht) (by decide)
   have d:Dv m B b:=⟨cQ,bd98,by omega,by omega⟩
   have bP:=zp5 bA bQ lA lQ
   have lp:=zcc A (B++[b])
   have lm:A.length * (B++[b]).length<=11 * 11:=Nat.mul_le_mul lA lQ
   have okA:Ok m A:=⟨cA.len,fun t ht=>zk9 (n:=98) (Nat.lt_of_le_of_lt (bA t ht) (by decide)) (by decide)⟩
   have e1:=zov (m:=m) (by omega) A (B++[b]) okA (zu6 cQ bd98 (by decide)) (by omega) (by omega) (by omega)
   have e2:=zm3 (pro A (B++[b])) (B++[b]) A (zi8 d cA bP (by decide) (by omega) (by omega)) (fun t ht=>by rw [cA.len t ht];omega) (by omega)
   have e3:=zic hm d cA bP (by omega) (drw ns 2)
   have e4:=zc9 ns 2
   have k1:=z5y (pro A (B++[b]))
   have pq:dEq (.lst ((B++[b]).map TM)) (.lst [])=some (.bl false):=by
    unfold dEq
    rw [if_pos ⟨zui _,rfl,by have:=zk5 (B++[b]);omega⟩]
    cases B<;>rfl
   generalize A.map TM=a at *
   generalize (pro A (B++[b])).map TM=p at *
   generalize (B++[b]).map TM=q at *
   rw [z0n (ρ':=[.im (.scr ns),.im (.int hd),.im (.int (m:Int)),s3,.ow (.lst a),.ow (.lst q),.em]) (by
    walk_at "dz"
    rw [pq]
    walk_at "dz")]
   rw [z0n (ρ':=[.im (.scr ns),.im (.int hd),.im (.int (m:Int)),s3,.ow (.lst a),.ow (.lst q),.ow (.lst p)]) (by
    walk_at "dz"
    rw [e1]
    walk_at "dz"
    rw [k1]
    walk_at "dz")]
   rw [z0n (ρ':=[.im (.scr ns),.im (.int hd),.im (.int (m:Int)),s3,.ow (.lst a),.ow (.lst q),.ow (.lst p)]) (by
    walk_at "dz"
    rw [e2]
    walk_at "dz")]
   walk_at "dz"
   rw [z6y (by decide)]
   walk_at "dz"
   rw [z42 (by decide)]
   walk_at "dz"
   by_cases h:hd / 90 % 2=1
   . rw [decide_eq_true h]
     walk_at "dz"
     rw [e4]
     walk_at "dz"
     rw [e3]
     walk_at "dz"
   . rw [decide_eq_false h]
     walk_at "dz"
theorem zkc (ns:List Int) (h:ns.length<=63):zer [.scr ns]=.ok (.bl true):=by
 have m0:0<=drw ns 0 % 3:=Int.emod_nonneg _ (by decide)
 have m1:drw ns 0 % 3<3:=Int.emod_lt_of_pos _ (by decide)
 have a0:0<=drw ns 0 / 3 % 6:=Int.emod_nonneg _ (by decide)
 have a1:drw ns 0 / 3 % 6<6:=Int.emod_lt_of_pos _ (by decide)
 have b0:0<=drw ns 0 / 18 % 5:=Int.emod_nonneg _ (by decide)
 have b1:drw ns 0 / 18 % 5<5:=Int.emod_lt_of_pos _ (by decide)
 obtain ⟨m,hm,em⟩:∃m:Nat,m<=5/\1+drw ns 0 % 3=(m:Int):=⟨(1+drw ns 0 % 3).toNat,by omega,by omega⟩
 unfold zer
 rw [z7w,if_pos (show [D.scr ns].length=1 from rfl)]
 show SR.out false (zoh [.im (.scr ns),.em,.em,.em,.em,.em,.em])=_
 unfold zoh
 rw [z0n (ρ':=[.im (.scr ns),.em,.em,.em,.em,.em,.em]) (by
  walk_at "dz"
  rw [zc9]
  walk_at "dz"
  rw [zxh]
  walk_at "dz")]
 rw [z0n (ρ':=[.im (.scr ns),.im (.int (drw ns 0)),.em,.em,.em,.em,.em]) (by
  walk_at "dz"
  rw [zc9]
  walk_at "dz")]
 rw [z0n (ρ':=[.im (.scr ns),.im (.int (drw ns 0)),.im (.int (m:Int)),.em,.em,.em,.em]) (by
  walk_at "dz"
  rw [z42 (by decide)]
  walk_at "dz"
  rw [em])]
 rw [z0n (ρ':=[.im (.scr ns),.im (.int (drw ns 0)),.im (.int (m:Int)),.ow (.lst [.int (drw ns 0 / 3 % 6),.int (drw ns 0 / 18 % 5)]),.em,.em,.em]) (by
  walk_at "dz"
  rw [z6y (by decide),z6y (by decide)]
  walk_at "dz"
  rw [z42 (by decide),z42 (by decide)]
  walk_at "dz")]
 obtain ⟨s,s',hs,hs',es⟩:∃s s':Int,(0<=s/\s<=11)/\(0<=s'/\s'<=11)/\(sIf (z3o asB (eOp dEq (eOp z7n (eOp zbf (z03 1) (eC (.int 180))) (eC (.int 4))) (eC (.int 1))))
   (z34 true 3 [] (z67 (z00 (eC (.int 11)) (z00 (eC (.int 11)) z0c))))
   sNx) [.im (.scr ns),.im (.int (drw ns 0)),.im (.int (m:Int)),.ow (.lst [.int (drw ns 0 / 3 % 6),.int (drw ns 0 / 18 % 5)]),.em,.em,.em]=.nx [.im (.scr ns),.im (.int (drw ns 0)),.im (.int (m:Int)),.ow (.lst [.int s,.int s']),.em,.em,.em]:=by
  by_cases hh:drw ns 0 / 180 % 4=1
  . refine ⟨11,11,by omega,by omega,?_⟩
    walk_at "dz"
    rw [z6y (by decide)]
    walk_at "dz"
    rw [z42 (by decide)]
    walk_at "dz"
    rw [decide_eq_true hh]
    walk_at "dz"
  . refine ⟨_,_,⟨a0,by omega⟩,⟨b0,by omega⟩,?_⟩
    walk_at "dz"
    rw [z6y (by decide)]
    walk_at "dz"
    rw [z42 (by decide)]
    walk_at "dz"
    rw [decide_eq_false hh]
    walk_at "dz"
 rw [z0n es]
 have l1:=zid ns 3 s (by omega) hs.1
 have l2:=zid ns 14 s' (by omega) hs'.1
 obtain ⟨Z,gZ,eZ⟩:=ztt (zbl ns (some 3) (some (3+s))) (by omega) m hm
 obtain ⟨Y,gY,eY⟩:=ztt (zbl ns (some 14) (some (14+s'))) (by omega) m hm
 have kZ:=z5y (Cn Z)
 have kY:=z5y (Cn Y)
 have fZ:=gZ.few
 have fY:=gY.few
 have cZ:=zaq Z
 have cY:=zaq Y
 have fin:=zp6 ns (drw ns 0) m hm (.ow (.lst [.int s,.int s'])) (Cn Z) (Cn Y) gZ.can gY.can (fun t ht=>gZ.bd t (mem_Cn.mp ht).1) (fun t ht=>gY.bd t (mem_Cn.mp ht).1) (by omega) (by omega)
 rw [z0n (ρ':=[.im (.scr ns),.im (.int (drw ns 0)),.im (.int (m:Int)),.ow (.lst [.int s,.int s']),.ow (.lst ((Cn Z).map TM)),.em,.em]) (by
  generalize (Cn Z).map TM=z at *
  walk_at "dz"
  rw [eZ]
  walk_at "dz"
  rw [kZ]
  walk_at "dz")]
 rw [z0n (ρ':=[.im (.scr ns),.im (.int (drw ns 0)),.im (.int (m:Int)),.ow (.lst [.int s,.int s']),.ow (.lst ((Cn Z).map TM)),.ow (.lst ((Cn Y).map TM)),.em]) (by
  generalize (Cn Z).map TM=z at *
  generalize (Cn Y).map TM=y at *
  walk_at "dz"
  rw [eY]
  walk_at "dz"
  rw [kY]
  walk_at "dz")]
 exact fin
end K63
namespace K63
open PySem PySem.Spec PyProof.Rows L2
theorem walk {l:PySem.W.OpenLaw} {q:Program} {loose:List Str} {XP:(Str->Option Value)->Heap->Prop} {YP:World->Heap->Prop} {d:DefRec} {K:Params->Frag} (hn:l.most=some 63) (hdf:d.params.defaults=[])
  (hY:∀(w:World) (h:Heap),YP w h->(K w.params).In h)
  (F:∀(w:World) (mg:Str->Option Value) (fa:Addr) (h:Heap),(K w.params).In h->h.Ns mainGlobals mg->mg d.name=some (.ref fa) ->
   ∃fd:FuncData,(∀(s:Shared) (u:Value),BindsTo s fd ⟨[u],[]⟩ [("_law_script",u)])/\∀base:Heap,(K w.params).In base->base.Ns mainGlobals mg->FnOk l.prog w (K w.params) mg base (CX1 l.prog w) 6 fa fd ["_law_script"] (spL (K w.params) false zer 1)) :
  PySem.W.WalkO q loose XP YP l.row.toRowW d [] (fun f vs=>PySem.call f vs):=
 L2.walk_of (n:=63) (k:=6) (x:="_law_script") (CX:=fun w=>CX1 l.prog w) (sp:=fun w=>(spL (K w.params) false zer 1)) hn (by decide) hdf ⟨rfl,by decide,by decide⟩ hY F (fun _ _ a ns hl hO hS=>zr4 hO hS (zkc ns hl)) fun _ _ _ _ _ ⟨_,_,_,_,_,z⟩=>z
end K63
open PySem PySem.W PyProof.Rows
set_option maxRecDepth 100000 in
set_option maxHeartbeats 0 in
theorem PySem.Challenge.cw_friezeyard_k63_divided_holds : PySem.Challenge.rw_friezeyard_k63_divided.Holds := by
 w_on;o_law
 refine holds_open (q:=K63.q) (loose:=[]) (Xt:=K63.xt) (XP:=XL K63.q []) (Yf:=K63.hook.obs) (Ya:=K63.hook.val)
  (YP:=K63.hook.says) (N:=2888) K63.left K63.hook.of K63.hook.keeps
  (fun s e=>xl_of s (Bool.and_eq_true_iff.mp e).1) XL.keeps (by rfl) (by rfl) (by rfl)
  (fun s e=>recFacts_of (Bool.and_eq_true_iff.mp e).2) (by rfl) (by assumption) (by decide +kernel)
  ⟨rfl,rfl,rfl,rfl,rfl,by decide +kernel⟩ ?hw ?hc
 (case hw=>w_witness2)
 refine K63.walk (l:=PySem.Challenge.rw_friezeyard_k63_divided) (K:=K63.K) rfl rfl (fun w h Y=>Y) ?F
 case F=>
  intro w mg fa h KX G hmg
  k_fill
  refine' K63.all_mk KX G hmg ?a0 ?l0 ?c0 ?k0 ?a1 ?l1 ?c1 ?k1 ?a2 ?l2 ?c2 ?k2 ?a3 ?l3 ?c3 ?k3 ?a4 ?l4 ?c4 ?k4 ?a5 ?l5 ?c5 ?k5 ?a6 ?l6 ?c6 ?k6 ?a7 ?l7 ?c7 ?k7 ?a8 ?l8 ?c8 ?k8 ?a9 ?l9 ?c9 ?k9 ?a10 ?l10 ?c10 ?k10 ?a11 ?l11 ?c11 ?k11 ?a12 ?l12 ?c12 ?k12 ?a13 ?l13 ?c13 ?k13 ?a14 ?l14 ?c14 ?k14 ?a15 ?l15 ?c15 ?k15 ?a16 ?l16 ?c16 ?k16 ?a17 ?l17 ?c17 ?k17 ?z_ValueError ?z_any ?z_bool ?z_dict ?z_enumerate ?z_int ?z_isinstance ?z_len ?z_list ?z_range ?z_sorted ?z_sum ?z_tuple ?z_zip ?n_FloorError ?n_NoLine ?n_NoQuotient ?n_TooMany ?q_FloorError ?q_NoQuotient ?fo_NoQuotient ?fb_NoQuotient ?fc_NoQuotient ?fg_NoQuotient ?ft_NoQuotient ?m_NoQuotient_FloorError ?k_NoQuotient_TooMany ?k_NoQuotient_NoLine ?k_NoQuotient_NoQuotient ?k_NoQuotient_ValueError
  (case a0=>k_is)
  (case l0=>k_is)
  (case c0=>k_is)
  (case k0=>k_is)
  (case a1=>k_is)
  (case l1=>k_is)
  (case c1=>k_is)
  (case k1=>k_is)
  (case a2=>k_is)
  (case l2=>k_is)
  (case c2=>k_is)
  (case k2=>k_is)
  (case a3=>k_is)
  (case l3=>k_is)
  (case c3=>k_is)
  (case k3=>k_is)
  (case a4=>k_is)
  (case l4=>k_is)
  (case c4=>k_is)
  (case k4=>k_is)
  (case a5=>k_is)
  (case l5=>k_is)
  (case c5=>k_is)
  (case k5=>k_is)
  (case a6=>k_is)
  (case l6=>k_is)
  (case c6=>k_is)
  (case k6=>k_is)
  (case a7=>k_is)
  (case l7=>k_is)
  (case c7=>k_is)
  (case k7=>k_is)
  (case a8=>k_is)
  (case l8=>k_is)
  (case c8=>k_is)
  (case k8=>k_is)
  (case a9=>k_is)
  (case l9=>k_is)
  (case c9=>k_is)
  (case k9=>k_is)
  (case a10=>k_is)
  (case l10=>k_is)
  (case c10=>k_is)
  (case k10=>k_is)
  (case a11=>k_is)
  (case l11=>k_is)
  (case c11=>k_is)
  (case k11=>k_is)
  (case a12=>k_is)
  (case l12=>k_is)
  (case c12=>k_is)
  (case k12=>k_is)
  (case a13=>k_is)
  (case l13=>k_is)
  (case c13=>k_is)
  (case k13=>k_is)
  (case a14=>k_is)
  (case l14=>k_is)
  (case c14=>k_is)
  (case k14=>k_is)
  (case a15=>k_is)
  (case l15=>k_is)
  (case c15=>k_is)
  (case k15=>k_is)
  (case a16=>k_is)
  (case l16=>k_is)
  (case c16=>k_is)
  (case k16=>k_is)
  (case a17=>k_is)
  (case l17=>k_is)
  (case c17=>k_is)
  (case k17=>k_is)
  (case z_ValueError=>k_is)
  (case z_any=>k_is)
  (case z_bool=>k_is)
  (case z_dict=>k_is)
  (case z_enumerate=>k_is)
  (case z_int=>k_is)
  (case z_isinstance=>k_is)
  (case z_len=>k_is)
  (case z_list=>k_is)
  (case z_range=>k_is)
  (case z_sorted=>k_is)
  (case z_sum=>k_is)
  (case z_tuple=>k_is)
  (case z_zip=>k_is)
  (case n_FloorError=>k_is)
  (case n_NoLine=>k_is)
  (case n_NoQuotient=>k_is)
  (case n_TooMany=>k_is)
  (case q_FloorError=>k_exc)
  (case q_NoQuotient=>k_exc)
  (case fo_NoQuotient=>k_is)
  (case fb_NoQuotient=>k_is)
  (case fc_NoQuotient=>k_is)
  (case fg_NoQuotient=>k_is)
  (case ft_NoQuotient=>k_is)
  (case m_NoQuotient_FloorError=>k_is)
  (case k_NoQuotient_TooMany=>kit_is)
  (case k_NoQuotient_NoLine=>kit_is)
  (case k_NoQuotient_NoQuotient=>kit_is)
  (case k_NoQuotient_ValueError=>kit_is)
