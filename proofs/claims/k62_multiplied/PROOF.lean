import PyProof.Rows.All
import Wide.All
import OpenK.AllK
import Wide.FinOn
import Lean
import PyProof.EqAt
import PyProof.EqKinds
import PyProof.TupleCall
import KE.KIsAll
import KE.RegKIsAll
import PyProof.ExcArgsOwn
import PyProof.Rows.MinMaxN
import PyProof.Rows.CallKwBuiltin
import KE.KMinKey
import KE.KDictOf
import PyProof.AttrMissSeq
import KE.KSortAsk
import PySem.Challenge.RW_friezeyard_k62_multiplied
set_option compiler.extract_closed false
noncomputable section
open PySem.W (Frag codeIn hideAll hideAll_get keepIn kia_one mg_none_of mg_of nsIn)
set_option Elab.async false
set_option linter.all false
set_option maxRecDepth 100000
namespace L2
open PySem PySem.Spec PyProof.Rows
abbrev Key:=Sum Int Str
noncomputable def zbg:Key->Value->Bool
 | .inl k,v=>Value.isInt k v
 | .inr x,v=>Value.isStrOf x v
noncomputable def zvg (w:World):Key->Int
 | .inl k=>hashInt k
 | .inr x=>hashStr w x
theorem z0n:∀{k:Key} {v:Value},zbg k v=true->(∃i t,k=Sum.inl i/\v=Value.int i t)\/(∃x t,k=Sum.inr x/\v=Value.str x t)
 | .inl i,v,h=>by
  obtain ⟨t,e⟩:=Value.isInt_shape (k:=i) (v:=v) h
  exact .inl ⟨i,t,rfl,e⟩
 | .inr x,v,h=>by
  obtain ⟨t,e⟩:=Value.isStrOf_shape (x:=x) (v:=v) h
  exact .inr ⟨x,t,rfl,e⟩
theorem zcm (i:Int) (t:Tok):zbg (.inl i) (.int i t)=true:=by simp [zbg,Value.isInt]
theorem zcn (x:Str) (t:Tok):zbg (.inr x) (.str x t)=true:=by simp [zbg,Value.isStrOf]
theorem zmg (a b:Int):decide ((Sum.inl a:Key)=Sum.inl b)=(a==b):=by
 by_cases e:a=b
 . subst e;simp
 . have h:¬(Sum.inl a:Key)=Sum.inl b:=fun q=>e (Sum.inl.inj q)
   rw [decide_eq_false h]
   exact (beq_eq_false_iff_ne.mpr e).symm
theorem zmh (a b:Str):decide ((Sum.inr a:Key)=Sum.inr b)=decide (a=b):=by
 by_cases e:a=b
 . subst e;simp
 . have h:¬(Sum.inr a:Key)=Sum.inr b:=fun q=>e (Sum.inr.inj q)
   rw [decide_eq_false h,decide_eq_false e]
theorem zmi (a:Int) (b:Str):decide ((Sum.inl a:Key)=Sum.inr b)=false:=decide_eq_false (fun q=>nomatch q)
theorem zmj (a:Str) (b:Int):decide ((Sum.inr a:Key)=Sum.inl b)=false:=decide_eq_false (fun q=>nomatch q)
noncomputable def z24 (prog:Program) (w:World):PySem.KeyKind prog w Key where
 is:=zbg
 hash:=zvg w
 inj:=fun v a b ha hb=>by
  rcases z0n ha with ⟨i,t,rfl,rfl⟩ | ⟨x,t,rfl,rfl⟩
  . rcases z0n hb with ⟨j,u,rfl,e⟩ | ⟨y,u,rfl,e⟩
    . injection e with e1 _;rw [e1]
    . exact nomatch e
  . rcases z0n hb with ⟨j,u,rfl,e⟩ | ⟨y,u,rfl,e⟩
    . exact nomatch e
    . injection e with e1 _;rw [e1]
 byValue:=fun k v h=>by
  rcases z0n h with ⟨i,t,rfl,rfl⟩ | ⟨x,t,rfl,rfl⟩<;>rfl
 pyHash:=fun hv h=>by
  rcases z0n hv with ⟨i,t,rfl,rfl⟩ | ⟨x,t,rfl,rfl⟩
  . exact wpAny_pyHash_int h
  . exact wpAny_pyHash_str h
 eqBool:=fun hu hv h=>by
  rcases z0n hu with ⟨i,t,rfl,rfl⟩ | ⟨x,t,rfl,rfl⟩
  . rcases z0n hv with ⟨j,u,rfl,rfl⟩ | ⟨y,u,rfl,rfl⟩
    . rw [zmg] at h;exact wpAny_eqBool_int h
    . rw [zmi] at h;exact SeqAt.EqAt.int_str i t y u _ _ _ _ h
  . rcases z0n hv with ⟨j,u,rfl,rfl⟩ | ⟨y,u,rfl,rfl⟩
    . rw [zmj] at h;exact SeqAt.EqAt.str_int x t j u _ _ _ _ h
    . rw [zmh] at h;exact wpAny_eqBool_str h
 «strs»:=fun k x t v h=>by
  rcases z0n h with ⟨i,u,rfl,e⟩ | ⟨y,u,rfl,e⟩
  . exact nomatch e
  . injection e with e1 _
    subst e1
    cases v<;>rfl
theorem z9a (prog:Program) (w:World) (i:Int) (t:Tok):(z24 prog w).is (.inl i) (.int i t)=true:=zcm i t
theorem z9b (prog:Program) (w:World) (x:Str) (t:Tok):(z24 prog w).is (.inr x) (.str x t)=true:=zcn x t
inductive V where
 | non | bl (b:Bool) | int (i:Int) | str (x:Str) | byt (b:Array UInt8) | flt (b:UInt64) | ref (a:Addr) | ty (n:String)
 deriving DecidableEq
def RelV:V->Value->Prop
 | .non,u=>u=Value.none
 | .bl b,u=>u=Value.bool b
 | .int i,u=>∃t,u=Value.int i t
 | .str x,u=>∃t,u=Value.str x t
 | .byt b,u=>∃t,u=Value.bytes b t
 | .flt b,u=>∃t,u=Value.float b t
 | .ref a,u=>u=Value.ref a
 | .ty n,u=>u=Value.type n
abbrev Vals:List V->List Value->Prop:=Paired RelV
theorem Vals.length {xs:List V} {us:List Value} (r:Vals xs us):xs.length=us.length:=Paired.length r
theorem Vals.get:∀{xs:List V} {us:List Value} {i:Nat} {x:V},Vals xs us->xs[i]?=some x->∃u,us[i]?=some u/\RelV x u
 | _,_,_,_,.nil,e=>by simp at e
 | _,_,0,_,.cons r _,e=>by simp at e;subst e;exact ⟨_,rfl,r⟩
 | _,_,i+1,x,.cons _ t,e=>by
  obtain ⟨u,h1,h2⟩:=Vals.get (i:=i) (x:=x) t (by simpa using e)
  exact ⟨u,by simpa using h1,h2⟩
theorem Vals.set {x:V} {u:Value} (r:RelV x u):∀{xs:List V} {us:List Value} (i:Nat),Vals xs us->Vals (xs.set i x) (us.set i u)
 | _,_,_,.nil=>.nil
 | _,_,0,.cons _ t=>.cons r t
 | _,_,i+1,.cons q t=>.cons q (Vals.set r i t)
theorem Vals.append:∀{xs ys:List V} {us ws:List Value},Vals xs us->Vals ys ws->Vals (xs++ys) (us++ws)
 | _,_,_,_,.nil,s=>s
 | _,_,_,_,.cons r t,s=>.cons r (Vals.append t s)
theorem Vals.take:∀{xs:List V} {us:List Value} (n:Nat),Vals xs us->Vals (xs.take n) (us.take n)
 | _,_,0,_=>.nil
 | _,_,_+1,.nil=>.nil
 | _,_,n+1,.cons r t=>.cons r (Vals.take n t)
theorem Vals.drop:∀{xs:List V} {us:List Value} (n:Nat),Vals xs us->Vals (xs.drop n) (us.drop n)
 | _,_,0,r=>r
 | _,_,_+1,.nil=>.nil
 | _,_,n+1,.cons _ t=>Vals.drop n t
def RelO:Option V->Option Value->Prop
 | some v,some u=>RelV v u
 | none,none=>True
 | _,_=>False
def KV {κ:Type}:List (κ×V)->List (κ×Value)->Prop:=Paired fun (p:κ×V) (q:κ×Value)=>p.1=q.1/\RelV p.2 q.2
noncomputable def kV:Key->V
 | .inl i=>.int i
 | .inr x=>.str x
inductive HO where
 /-- a list -/
 | lst (xs:List V)
 /-- a tuple (never changes) -/
 | tup (xs:List V)
 /-- a dict whose keys are ints and texts;one whose keys are tuples of ints and texts (the empty one is both) -/
 | dK (kvs:List (Key×V)) | dT (kvs:List (List Key×V))
 /-- a set of ints: its members,its size -/
 | set (S:Int->Bool) (n:Nat)
 /-- an instance of the class at C,its dict at dx,its attributes -/
 | ins (C dx:Addr) (fs:List (Str×V))
 /-- the dict of the instance at x -/
 | own (x:Addr)
 /-- the dict of an exception -/
 | xd (fs:List (Str×V))
 /-- a bound method,f of x -/
 | met (f x:Addr)
 /-- a range object lo,lo+1,.. below hi -/
 | rng (lo hi:Int)
 /-- a thing that is known to the object (the script;a dict while a loop walks it): read,never written while it is so -/
 | frz (o:Obj) (u:HO)
 /-- a code object's table -/
 | tbl (ps:Array Value)
 /-- any other thing,by what is true of its one object (a def of one's own: SetO a S n:=HO.ext fun h=>..) -/
 | ext (φ:Heap->Prop)
abbrev Hp:=Addr->Option HO
noncomputable def upd (H:Hp) (a:Addr) (o:HO):Hp:=fun b=>if b=a then some o else H b
theorem z0e {H:Hp} {a:Addr} {o:HO}:upd H a o a=some o:=by unfold upd;rw [if_pos rfl]
theorem z07 {H:Hp} {a b:Addr} {o:HO} (h:b≠a):upd H a o b=H b:=by unfold upd;rw [if_neg h]
theorem z08 {H:Hp} {a b:Addr} {o:HO} (h:H a=some o) (h':H b=none):a≠b:=by
 intro e;subst e;rw [h] at h';cases h'
section
variable (P:Program) (w:World)
def ObjOk (H:Hp) (h:Heap) (a:Addr):HO->Prop
 | .lst xs=>xs.length<=sizeLine/\∃(its:List Value) (n:Nat),Vals xs its/\h.get? a=some { cls:=.type "list",data:=.seq its.toArray n }
 | .tup xs=>xs.length<=sizeLine/\∃its:List Value,Vals xs its/\IsTup h a its.toArray
 | .dK kvs=>kvs.length<=sizeLine/\(a==sysModules)=false/\∃vs,KV kvs vs/\h.DictOf (z24 P w) a vs
 | .dT kvs=>kvs.length<=sizeLine/\(a==sysModules)=false/\∃xs:List (List Key×Addr×Value),
  Paired (fun (p:List Key×V) (q:List Key×Addr×Value)=>p.1=q.1/\H q.2.1=some (.tup (p.1.map kV))/\RelV p.2 q.2.2) kvs xs /\
  ∃o es ep,h.get? a=some o/\o.ExactDict/\o.data=.dict es ep/\es.toList=xs.map (entryOfKey (tupleKind (z24 P w)))/\(xs.map (·.1)).Nodup
 | .set S n=>h.SetOf (intKind P w) a S n
 | .ins C dx fs=>H dx=some (.own a)/\fs.length<=1000/\dx≠a/\h.get? a=some (PySem.W.instObj C dx) /\
  ∃mA,h.Ns1 dx mA/\(∀f,RelO (fs.lookup f) (mA f))/\PySem.Within mA (fs.map (·.1))
 | .own _=>∃o,h.get? a=some o
 | .xd fs=>∃mA,h.Ns1 a mA/\∀f,RelO (fs.lookup f) (mA f)
 | .rng lo hi=>∃t u v,h.get? a=some { cls:=.type "range",data:=.fields #[.int lo t,.int hi u,.int 1 v] }
 | .frz o u=>h.get? a=some o/\ObjOk H h a u
 | .tbl ps=>h.get? a=some { cls:=.none,data:=.fields ps }
 | .met f x=>h.get? a=some (PySem.W.methodObj (.ref f) (.ref x))
 | .ext φ=>φ h/\(∃o,h.get? a=some o)/\∀h1 h2:Heap,φ h1->(∀o,h1.get? a=some o->h2.get? a=some o)->φ h2
def HOk (H:Hp) (h:Heap):Prop:=∀a o,H a=some o->ObjOk P w H h a o
end
section
variable {P:Program} {w:World} {H H':Hp} {h h':Heap} {a:Addr} {o:HO}
theorem ObjOk.lt (x:ObjOk P w H h a o):a<h.objs.size:=by
 cases o with
 | lst xs=>obtain ⟨_,_,_,_,e⟩:=x;exact Heap.lt_size e
 | tup xs=>obtain ⟨_,_,_,p⟩:=x;exact p.lt
 | dK kvs=>obtain ⟨_,_,_,_,o,_,_,e,_⟩:=x;exact Heap.lt_size e
 | dT kvs=>obtain ⟨_,_,_,_,o,_,_,e,_⟩:=x;exact Heap.lt_size e
 | set S n=>obtain ⟨o,_,_,_,e,_⟩:=x;exact Heap.lt_size e
 | ins C dx fs=>obtain ⟨_,_,_,e,_⟩:=x;exact Heap.lt_size e
 | own y=>obtain ⟨_,e⟩:=x;exact Heap.lt_size e
 | xd fs=>obtain ⟨_,⟨_,_,_,e,_⟩,_⟩:=x;exact Heap.lt_size e
 | rng lo hi=>obtain ⟨_,_,_,e⟩:=x;exact Heap.lt_size e
 | frz ob u=>obtain ⟨e,_⟩:=x;exact Heap.lt_size e
 | tbl ps=>exact Heap.lt_size (show h.get? a=some _ from x)
 | met f y=>exact Heap.lt_size (show h.get? a=some _ from x)
 | ext φ=>obtain ⟨_,⟨_,e⟩,_⟩:=x;exact Heap.lt_size e
theorem Paired.mapP {α β:Type} {F G:α->β->Prop}:∀{l₁:List α} {l₂:List β},Paired F l₁ l₂->(∀a b,F a b->G a b)->Paired G l₁ l₂
 | _,_,.nil,_=>.nil
 | _,_,.cons r t,f=>.cons (f _ _ r) (Paired.mapP t f)
theorem ObjOk.stay (x:ObjOk P w H h a o) (k:∀b u,(b=a\/H b=some (.own a))->h.get? b=some u->h'.get? b=some u)
  (ho:∀b,H b=some (.own a)->H' b=some (.own a)) (ht:∀b xs,H b=some (.tup xs)->H' b=some (.tup xs)):ObjOk P w H' h' a o:=by
 induction o with
 | lst xs=>obtain ⟨z,its,n,r,e⟩:=x;exact ⟨z,its,n,r,k _ _ (.inl rfl) e⟩
 | tup xs=>obtain ⟨z,its,r,ob,e,c⟩:=x;exact ⟨z,its,r,ob,k _ _ (.inl rfl) e,c⟩
 | dK kvs=>obtain ⟨z,y,vs,r,ob,es,ep,e,c⟩:=x;exact ⟨z,y,vs,r,ob,es,ep,k _ _ (.inl rfl) e,c⟩
 | dT kvs=>
  obtain ⟨z,y,xs,r,ob,es,ep,e,c⟩:=x
  exact ⟨z,y,xs,Paired.mapP r fun p q z=>⟨z.1,ht _ _ z.2.1,z.2.2⟩,ob,es,ep,k _ _ (.inl rfl) e,c⟩
 | set S n=>obtain ⟨ob,es,ep,t,e,c⟩:=x;exact ⟨ob,es,ep,t,k _ _ (.inl rfl) e,c⟩
 | ins C dx fs=>
  obtain ⟨d,z,ne,e,mA,⟨od,es,ep,e2,c⟩,r⟩:=x
  exact ⟨ho _ d,z,ne,k _ _ (.inl rfl) e,mA,⟨od,es,ep,k _ _ (.inr d) e2,c⟩,r⟩
 | own y=>obtain ⟨ob,e⟩:=x;exact ⟨ob,k _ _ (.inl rfl) e⟩
 | xd fs=>obtain ⟨mA,⟨od,es,ep,e,c⟩,r⟩:=x;exact ⟨mA,⟨od,es,ep,k _ _ (.inl rfl) e,c⟩,r⟩
 | rng lo hi=>obtain ⟨t,u,v,e⟩:=x;exact ⟨t,u,v,k _ _ (.inl rfl) e⟩
 | frz ob u ih=>obtain ⟨e,q⟩:=x;exact ⟨k _ _ (.inl rfl) e,ih q⟩
 | tbl ps=>
  have e:h.get? a=some { cls:=.none,data:=.fields ps }:=x
  show h'.get? a=some { cls:=.none,data:=.fields ps }
  exact k a _ (.inl rfl) e
 | met f y=>
  have e:h.get? a=some (PySem.W.methodObj (.ref f) (.ref y)):=x
  show h'.get? a=some (PySem.W.methodObj (.ref f) (.ref y))
  exact k a _ (.inl rfl) e
 | ext φ=>obtain ⟨p,⟨o,e⟩,st⟩:=x;exact ⟨st _ _ p fun o q=>k _ _ (.inl rfl) q,⟨o,k _ _ (.inl rfl) e⟩,st⟩
theorem HOk.lt (x:HOk P w H h) (e:H a=some o):a<h.objs.size:=(x a o e).lt
theorem HOk.fresh (x:HOk P w H h) (e:h.objs.size<=a):H a=none:=by
 cases q:H a with
 | none=>rfl
 | some u=>exact absurd (Nat.lt_of_lt_of_le (x.lt q) e) (Nat.lt_irrefl _)
theorem HOk.kept (x:HOk P w H h) (k:∀b u,h.get? b=some u->h'.get? b=some u):HOk P w H h':=fun a o e=>
 (x a o e).stay (fun b u _ q=>k b u q) (fun _ q=>q) fun _ _ q=>q
theorem HOk.laid (x:HOk P w H h) (k:∀b u,h.get? b=some u->h'.get? b=some u) (hp:h.objs.size<=a) (new:ObjOk P w (upd H a o) h' a o):HOk P w (upd H a o) h':=fun b u e=>by
 have hn:=x.fresh hp
 by_cases hb:b=a
 . subst hb;rw [z0e] at e;cases e;exact new
 . rw [z07 hb] at e
   exact (x b u e).stay (fun c v _ q=>k c v q) (fun c q=>by rw [z07 (z08 q hn)];exact q) fun c xs q=>by rw [z07 (z08 q hn)];exact q
end
def Rd (H:Hp) (a:Addr) (u:HO):Prop:=H a=some u\/∃o,H a=some (.frz o u)
theorem Rd.of {H:Hp} {a:Addr} {u:HO} (h:H a=some u):Rd H a u:=.inl h
theorem Rd.ok {P:Program} {w:World} {H:Hp} {h:Heap} {a:Addr} {u:HO} (r:Rd H a u) (x:HOk P w H h):ObjOk P w H h a u:=by
 rcases r with r | ⟨o,r⟩
 . exact x a u r
 . obtain ⟨_,q⟩:=x a _ r
   exact q
def Mut:Option HO->Prop
 | some (.lst _)=>True
 | some (.dK _)=>True
 | some (.dT _)=>True
 | some (.set _ _)=>True
 | some (.ins _ _ _)=>True
 | some (.ext _)=>True
 | _=>False
section
variable {P:Program} {w:World} {H:Hp} {h h':Heap} {x e:Addr} {o':HO}
theorem HOk.write (ok:HOk P w H h) (mu:Mut (H x)) (he:e=x\/H e=some (.own x)) (k:∀b u,b≠e->h.get? b=some u->h'.get? b=some u) (heo:∃u,h'.get? e=some u)
  (new:ObjOk P w (upd H x o') h' x o'):HOk P w (upd H x o') h':=fun b u q=>by
 have nown:∀c y,H c=some (.own y)->c≠x:=fun c y r z=>by subst z;rw [r] at mu;exact mu
 have ntup:∀c xs,H c=some (.tup xs)->c≠x:=fun c xs r z=>by subst z;rw [r] at mu;exact mu
 by_cases hb:b=x
 . subst hb;rw [z0e] at q;cases q;exact new
 . rw [z07 hb] at q
   by_cases hbe:b=e
   . have q':H b=some (.own x):=by
      rcases he with z | z
      . exact absurd (hbe.trans z) hb
      . rw [hbe];exact z
     rw [q] at q';cases q'
     obtain ⟨v,hv⟩:=heo
     exact ⟨v,by rw [hbe];exact hv⟩
   . refine (ok b u q).stay (fun c v hc r=>k c v ?_ r) (fun c r=>by rw [z07 (nown c b r)];exact r) fun c xs r=>by rw [z07 (ntup c xs r)];exact r
     rcases hc with rfl | hc
     . exact hbe
     . rintro rfl
       rcases he with z | z
       . exact nown c b hc z
       . rw [hc] at z;cases z;exact hb rfl
end
structure Un (fs ex:List Addr) (H H':Hp) (h h':Heap):Prop where
 keep:∀b o,h.get? b=some o->H b=none->b∉fs->b∉ex->h'.get? b=some o
 slot:∀b o,h.get? b=some o->H b=none->b∈fs->b∉ex->∃sl,h'.get? b=some { o with slots:=sl }
 free:∀b o,h.get? b=some o->H b=none->b∉ex->H' b=none
 there:∀b o,h.get? b=some o->b∉ex->∃o',h'.get? b=some o'
 tups:∀b xs,H b=some (.tup xs)->H' b=some (.tup xs)
 frzs:∀b o u,H b=some (.frz o u)->H' b=some (.frz o u)
 tbls:∀b ps,H b=some (.tbl ps)->∃more,H' b=some (.tbl (ps++more))
section
variable {fs fs' ex ex':List Addr} {H H1 H2:Hp} {h h1 h2 h':Heap} {a x e:Addr} {o:HO}
theorem Un.any (u:Un fs ex H H1 h h1) {b:Addr} {ob:Obj} (q:h.get? b=some ob) (n:H b=none) (hx:b∉ex):∃sl,h1.get? b=some { ob with slots:=sl }:=by
 by_cases hb:b∈fs
 . exact u.slot b ob q n hb hx
 . exact ⟨ob.slots,u.keep b ob q n hb hx⟩
theorem Un.kept (k:∀b u,h.get? b=some u->h'.get? b=some u):Un fs ex H H h h':=
 ⟨fun b ob q _ _ _=>k b ob q,fun b ob q _ _ _=>⟨ob.slots,k b ob q⟩,fun _ _ _ n _=>n,fun b ob q _=>⟨ob,k b ob q⟩,fun _ _ q=>q,fun _ _ _ q=>q,fun _ ps q=>⟨#[],by rw [q];simp⟩⟩
theorem Un.refl:Un fs ex H H h h:=Un.kept fun _ _ q=>q
theorem Un.laid (k:∀b u,h.get? b=some u->h'.get? b=some u) (hp:h.objs.size<=a) (hn:H a=none):Un fs ex H (upd H a o) h h' where
 keep:=fun b u q _ _ _=>k b u q
 slot:=fun b u q _ _ _=>⟨u.slots,k b u q⟩
 free:=fun b u q n _=>by rw [z07 (Nat.ne_of_lt (Nat.lt_of_lt_of_le (Heap.lt_size q) hp))];exact n
 there:=fun b u q _=>⟨u,k b u q⟩
 tups:=fun b xs q=>by rw [z07 (z08 q hn)];exact q
 frzs:=fun b u xs q=>by rw [z07 (z08 q hn)];exact q
 tbls:=fun b ps q=>⟨#[],by rw [z07 (z08 q hn),q];simp⟩
theorem Un.write (mu:Mut (H x)) (he:e=x\/H e=some (.own x)) (k:∀b u,b≠e->h.get? b=some u->h'.get? b=some u) (heo:∃u,h'.get? e=some u):Un fs ex H (upd H x o) h h':=by
 have hx:∀b,H b=none->b≠x:=fun b n z=>by subst z;rw [n] at mu;exact mu
 have hb:∀b,H b=none->b≠e:=fun b n z=>by
  subst z
  rcases he with r | r
  . exact hx b n r
  . rw [n] at r;cases r
 have hm:∀b u,H b=some u->¬Mut (some u)->b≠x:=fun b u q nm z=>by subst z;rw [q] at mu;exact nm mu
 refine ⟨fun b u q n _ _=>k b u (hb b n) q,fun b u q n _ _=>⟨u.slots,k b u (hb b n) q⟩,fun b u q n _=>by rw [z07 (hx b n)];exact n,fun b u q _=>?_,
  fun b xs q=>by rw [z07 (hm b _ q fun z=>z)];exact q,fun b u xs q=>by rw [z07 (hm b _ q fun z=>z)];exact q,fun b ps q=>⟨#[],by rw [z07 (hm b _ q fun z=>z),q];simp⟩⟩
 by_cases hbe:b=e
 . subst hbe;exact heo
 . exact ⟨u,k b u hbe q⟩
end
noncomputable def trk (h:Heap) (H:Hp):List Addr:=(List.range h.objs.size).filter fun a=>(H a).isSome
noncomputable def zg9 (h:Heap) (H:Hp):Heap:=hideAll h (trk h H)
theorem zco (h:Heap) (H:Hp):(zg9 h H).objs.size=h.objs.size:=PySem.W.hideAll_size _ _
theorem zga {h:Heap} {H:Hp} {b:Addr} {o:Obj} (e:h.get? b=some o) (n:H b=none):(zg9 h H).get? b=some o:=
 hideAll_get _ e fun hm=>by
  have q:(H b).isSome=true:=(List.mem_filter.mp hm).2
  rw [n] at q;simp at q
theorem zjm {h:Heap} {H:Hp} {b:Addr} {o:Obj} (e:(zg9 h H).get? b=some o):h.get? b=some o/\H b=none:=by
 have e':h.get? b=some o:=PySem.W.of_hideAll (trk h H) e
 refine ⟨e',?_⟩
 cases q:H b with
 | none=>rfl
 | some x=>
  have hm:b∈trk h H:=List.mem_filter.mpr ⟨List.mem_range.mpr (Heap.lt_size e'),by simp [q]⟩
  have z:(zg9 h H).get? b=none:=PySem.W.hideAll_none (trk h H) hm
  rw [z] at e;cases e
noncomputable def z51 (g h:Heap) (L:Addr):List (Addr×Obj):=(List.range h.objs.size).filterMap fun a=>if a=L\/(g.get? a).isSome=true then none else (h.get? a).map fun o=>(a,o)
theorem z52 {g h:Heap} {L a:Addr} {o:Obj} (h1:a≠L) (h2:g.get? a=none) (h3:h.get? a=some o):(a,o)∈z51 g h L:=
 List.mem_filterMap.mpr ⟨a,List.mem_range.mpr (Heap.lt_size h3),by simp [h1,h2,h3]⟩
theorem z62 {g h:Heap} {L:Addr} {p:Addr×Obj} (hp:p∈z51 g h L):p.1≠L/\g.get? p.1=none/\h.get? p.1=some p.2:=by
 obtain ⟨b,_,e⟩:=List.mem_filterMap.mp hp
 split at e
 . cases e
 . rename_i hn
   cases q:h.get? b with
   | none=>rw [q] at e;simp at e
   | some u=>
    rw [q] at e
    simp only [Option.map_some,Option.some.injEq] at e
    subst e
    refine ⟨fun z=>hn (.inl z),?_,q⟩
    show g.get? b=none
    cases r:g.get? b with
    | none=>rfl
    | some v=>exact (hn (.inr (by simp [r]))).elim
noncomputable def rest (g h:Heap) (L d:Addr):List (Addr×Obj):=(z51 g h L).filter fun p=>decide (p.1≠d)
theorem z6w {g h:Heap} {L:Addr}:News g L h (z51 g h L):=fun p hp=>let ⟨a,b,c⟩:=z62 hp;⟨c,a,b⟩
structure Mod (K:Frag) (mg:Str->Option Value) (base:Heap):Prop where
 kin:K.In base
 glob:base.Ns mainGlobals mg
 blt:∃mb,base.Ns builtinsNs mb/\∀x:Str,x≠"__name__"->mb x=bootBuiltins x
 nolimit:base.NoLimit
structure Cx where
 prog:Program
 w:World
 K:Frag
 mg:Str->Option Value
 base:Heap
 A:Around
 N:List Str
 s₀:Shared
 H₀:Hp
 env:Env
 outer:List Env
 stack:List Env
 ex:List Addr
 fn:Str->Bool
 calm:Bool
 pn:List (Addr×Obj)
 xe:Value->Shared->Prop
noncomputable def frs (l:List Env):List Addr:=l.filterMap (·.frame)
abbrev Cx.fs (X:Cx):List Addr:=frs X.outer
def Vis (sc:Scope) (x:Str):Prop:=sc.names.lookup x=some .local\/sc.names.lookup x=some .cell\/sc.names.lookup x=some .free
def Loc (sc:Scope) (x:Str):Prop:=sc.names.lookup x=some .local\/sc.names.lookup x=some .cell
def zvh (env:Env) (h:Heap) (m:Str->Option Value) (x:Str) (u:Value):Prop:=
 (env.kindOf x=some .local/\m x=some u)\/((env.kindOf x=some .cell\/env.kindOf x=some .free)/\∃c,env.cells.lookup x=some c/\h.IsCell c (some u))
structure Cx.Ok (X:Cx):Prop where
 mod:Mod X.K X.mg X.base
 kind:X.env.scope.kind=.function
 glob:X.env.globals=mainGlobals
 blt:X.env.builtins=builtinsNs
 above:X.s₀.heap.objs.size<=X.env.locals
 inj:∀x y c,X.env.cells.lookup x=some c->X.env.cells.lookup y=some c->x=y
 has:∀x,(X.env.kindOf x=some .cell\/X.env.kindOf x=some .free)->∃c,X.env.cells.lookup x=some c
 cab:∀x c,X.fn x=true->X.env.cells.lookup x=some c->X.s₀.heap.objs.size<=c
 hd:X.calm=true->X.A.handled=none
 frames:X.A.frames=some X.stack
 stk:X.stack=X.outer\/(X.stack=X.env::X.outer/\X.env.frame=some X.env.locals)
 exf:∀b∈X.ex,b≠X.env.locals/\∀x c,X.env.cells.lookup x=some c->c≠b
 bs:∀b o,X.base.get? b=some o->X.s₀.heap.get? b=some o/\X.H₀ b=none
 bsz:X.base.objs.size<=X.s₀.heap.objs.size
 noex:∀b o,X.base.get? b=some o->b∉X.ex
 exfs:∀b∈X.ex,b∉X.fs
 funs:X.s₀.heap.FunFrames X.base X.outer
 frf:∀b∈X.fs,X.H₀ b=none
structure Inv (X:Cx) (pins:List (Addr×Obj)) (σ:List (Option V)) (H:Hp) (s:Shared):Prop where
 ok:X.Ok
 os:s.os=X.s₀.os
 bare:AllBare s.gens
 base:Un X.fs X.ex X.H₀ H X.s₀.heap s.heap
 loc:∃m,s.heap.Ns X.env.locals m/\∀(i:Nat) (x:Str) (v:V),X.N[i]?=some x->σ[i]?=some (some v)->Vis X.env.scope x->∃u,RelV v u/\zvh X.env s.heap m x u
 cell:∀x c,X.env.cells.lookup x=some c->∃v,s.heap.IsCell c v
 free:H X.env.locals=none
 freeC:∀x c,X.env.cells.lookup x=some c->H c=none
 pin:∀p∈X.pn++pins,s.heap.get? p.1=some p.2/\H p.1=none/\p.1≠X.env.locals/\p.1∉X.fs/\∀v,p.2.data≠.cell v
 hok:HOk X.prog X.w H s.heap
 len:σ.length=X.N.length
section
variable {X:Cx} {pins:List (Addr×Obj)} {σ:List (Option V)} {H H':Hp} {s:Shared} {h':Heap}
theorem Cx.Ok.nofr (ok:X.Ok) {b:Addr} {o:Obj} (e:X.base.get? b=some o):b∉X.fs:=fun hb=>by
 have:=(ok.funs.mem hb).1
 rw [e] at this;cases this
theorem Inv.bs (I:Inv X pins σ H s):∀b o,X.base.get? b=some o->s.heap.get? b=some o/\H b=none:=fun b o e=>
 ⟨I.base.keep b o (I.ok.bs b o e).1 (I.ok.bs b o e).2 (I.ok.nofr e) (I.ok.noex b o e),I.base.free b o (I.ok.bs b o e).1 (I.ok.bs b o e).2 (I.ok.noex b o e)⟩
theorem Inv.bk (I:Inv X pins σ H s):∀b o,X.base.get? b=some o->s.heap.get? b=some o:=fun b o e=>(I.bs b o e).1
theorem Inv.mod (I:Inv X pins σ H s):Mod X.K X.mg X.base:=I.ok.mod
theorem Inv.kIn (I:Inv X pins σ H s):X.K.In s.heap:=I.ok.mod.kin.keeps I.bk
theorem Inv.lt (I:Inv X pins σ H s):X.env.locals<s.heap.objs.size:=let ⟨_,hn,_⟩:=I.loc;hn.lt
theorem Inv.sz (I:Inv X pins σ H s):X.s₀.heap.objs.size<=s.heap.objs.size:=Nat.le_trans I.ok.above (Nat.le_of_lt I.lt)
theorem Inv.nofs (I:Inv X pins σ H s) {a:Addr} (h:s.heap.objs.size<=a):a∉X.fs:=fun hb=>by
 obtain ⟨_,o,ho,_⟩:=I.ok.funs.mem hb
 exact absurd (Nat.lt_of_lt_of_le (Heap.lt_size ho) (Nat.le_trans I.sz h)) (Nat.lt_irrefl _)
theorem Inv.cne (I:Inv X pins σ H s):∀x c,X.env.cells.lookup x=some c->c≠X.env.locals:=fun x c e z=>by
 obtain ⟨v,o,ho,hd⟩:=I.cell x c e
 obtain ⟨m,⟨o',es,ep,ho',hd',_⟩,_⟩:=I.loc
 rw [z,ho'] at ho;cases ho;rw [hd'] at hd;cases hd
theorem Inv.funs (I:Inv X pins σ H s):s.heap.FunFrames X.base X.outer:=by
 have all:∀(l:List Env),(∀b∈frs l,b∈X.fs)->X.s₀.heap.FunFrames X.base l->s.heap.FunFrames X.base l:=by
  intro l
  induction l with
  | nil=>intro _ _;trivial
  | cons env r ih=>
   intro hs hl
   obtain ⟨hk,⟨L,o,hf,hn,ho,hd⟩,hr⟩:=hl
   have hL:L∈X.fs:=hs L (by unfold frs;rw [List.filterMap_cons,hf];exact List.mem_cons_self)
   obtain ⟨sl,e⟩:=I.base.slot L o ho (I.ok.frf L hL) hL fun z=>I.ok.exfs L z hL
   exact ⟨hk,⟨L,_,hf,hn,e,hd⟩,ih (fun b hb=>hs b (by unfold frs;rw [List.filterMap_cons,hf];exact List.mem_cons_of_mem _ hb)) hr⟩
 exact all X.outer (fun _ hb=>hb) I.ok.funs
theorem Inv.stack (I:Inv X pins σ H s):s.heap.FunFrames X.base X.stack:=by
 rcases I.ok.stk with e | ⟨e,hf⟩
 . rw [e];exact I.funs
 . rw [e]
   obtain ⟨m,hn,_⟩:=I.loc
   refine .cons (by rw [I.ok.kind];decide) hf hn ?_ I.funs
   exact Heap.get?_none_of_le (Nat.le_trans I.ok.bsz I.ok.above)
theorem Inv.stkSub (I:Inv X pins σ H s):∀b∈frs X.stack,b∈X.env.locals::X.fs:=fun b hb=>by
 rcases I.ok.stk with e | ⟨e,hf⟩
 . rw [e] at hb;exact List.mem_cons_of_mem _ hb
 . rw [e] at hb
   unfold frs at hb
   rw [List.filterMap_cons,hf] at hb
   exact hb
theorem Inv.stkFree (I:Inv X pins σ H s):∀b∈frs X.stack,H b=none:=fun b hb=>by
 rcases List.mem_cons.mp (I.stkSub b hb) with e | hb
 . rw [e];exact I.free
 . obtain ⟨_,o,ho,_⟩:=I.ok.funs.mem hb
   exact I.base.free b o ho (I.ok.frf b hb) fun z=>I.ok.exfs b z hb
theorem Inv.step {g':Array GenState} {t':Nat} {d':Drawn} {ch:List Addr} (I:Inv X pins σ H s)
  (hch:∀b∈ch,(b∈X.ex\/X.s₀.heap.objs.size<=b)/\b≠X.env.locals/\(∀x c,X.env.cells.lookup x=some c->c≠b)/\∀p∈X.pn++pins,p.1≠b)
  (keep:∀b o,b≠X.env.locals->b∉X.fs->b∉ch->s.heap.get? b=some o->H b=none->h'.get? b=some o)
  (slot:∀b o,b≠X.env.locals->b∈X.fs->b∉ch->s.heap.get? b=some o->H b=none->∃sl,h'.get? b=some { o with slots:=sl }) (free:∀b o,b∉ch->s.heap.get? b=some o->H b=none->H' b=none)
  (there:∀b o,b∉ch->s.heap.get? b=some o->∃o',h'.get? b=some o')
  (tups:∀b xs,H b=some (.tup xs)->H' b=some (.tup xs)) (frzs:∀b o u,H b=some (.frz o u)->H' b=some (.frz o u)) (tbls:∀b ps,H b=some (.tbl ps)->∃more,H' b=some (.tbl (ps++more)))
  (ns:∀m,s.heap.Ns X.env.locals m->h'.Ns X.env.locals m) (hok:HOk X.prog X.w H' h') (hg:AllBare g') :
  Inv X pins σ H' { s with heap:=h',gens:=g',drawn:=d',toks:=t' }:=by
 have neL:∀b o,X.s₀.heap.get? b=some o->b≠X.env.locals:=fun b o e=>Nat.ne_of_lt (Nat.lt_of_lt_of_le (Heap.lt_size e) I.ok.above)
 have neC:∀b o,X.s₀.heap.get? b=some o->b∉X.ex->b∉ch:=fun b o e hx hb=>by
  rcases (hch b hb).1 with z | z
  . exact hx z
  . exact absurd (Nat.lt_of_lt_of_le (Heap.lt_size e) z) (Nat.lt_irrefl _)
 have cellK:∀x c,X.env.cells.lookup x=some c->∀v,s.heap.IsCell c v->h'.IsCell c v:=fun x c e v ⟨o,ho,hd⟩=>by
  have nch:c∉ch:=fun z=>(hch c z).2.2.1 x c e rfl
  by_cases hc:c∈X.fs
  . obtain ⟨sl,q⟩:=slot c o (I.cne x c e) hc nch ho (I.freeC x c e)
    exact ⟨_,q,hd⟩
  . exact ⟨o,keep c o (I.cne x c e) hc nch ho (I.freeC x c e),hd⟩
 refine ⟨I.ok,I.os,hg,⟨fun b o e n hb hx=>?_,fun b o e n hb hx=>?_,fun b o e n hx=>?_,fun b o e hx=>?_,fun b xs e=>tups b xs (I.base.tups b xs e),fun b o xs e=>frzs b o xs (I.base.frzs b o xs e),fun b ps e=>?_⟩,?_,fun x c e=>?_,?_,fun x c e=>?_,fun p hp=>?_,hok,I.len⟩
 . exact keep b o (neL b o e) hb (neC b o e hx) (I.base.keep b o e n hb hx) (I.base.free b o e n hx)
 . obtain ⟨sl,e1⟩:=I.base.slot b o e n hb hx
   obtain ⟨sl',e2⟩:=slot b _ (neL b o e) hb (neC b o e hx) e1 (I.base.free b o e n hx)
   exact ⟨sl',e2⟩
 . obtain ⟨o',e1⟩:=I.base.there b o e hx
   exact free b o' (neC b o e hx) e1 (I.base.free b o e n hx)
 . obtain ⟨o',e1⟩:=I.base.there b o e hx
   exact there b o' (neC b o e hx) e1
 . obtain ⟨m1,e1⟩:=I.base.tbls b ps e
   obtain ⟨m2,e2⟩:=tbls b _ e1
   exact ⟨m1++m2,by rw [e2,Array.append_assoc]⟩
 . obtain ⟨m,hn,hl⟩:=I.loc
   refine ⟨m,ns m hn,fun i x v e1 e2 e3=>?_⟩
   obtain ⟨u,r,l⟩:=hl i x v e1 e2 e3
   refine ⟨u,r,?_⟩
   rcases l with l | ⟨k,c,e,z⟩
   . exact .inl l
   . exact .inr ⟨k,c,e,cellK x c e _ z⟩
 . obtain ⟨v,z⟩:=I.cell x c e
   exact ⟨v,cellK x c e v z⟩
 . obtain ⟨m,⟨o,_,_,ho,_⟩,_⟩:=I.loc
   exact free _ o (fun z=>(hch _ z).2.1 rfl) ho I.free
 . obtain ⟨v,o,ho,hd⟩:=I.cell x c e
   exact free c o (fun z=>(hch c z).2.2.1 x c e rfl) ho (I.freeC x c e)
 . obtain ⟨e,n,ne,nf,d⟩:=I.pin p hp
   have nch:p.1∉ch:=fun z=>(hch p.1 z).2.2.2 p hp rfl
   exact ⟨keep p.1 p.2 ne nf nch e n,free p.1 p.2 nch e n,ne,nf,d⟩
theorem Inv.un {t':Nat} (I:Inv X pins σ H s) (u:Un X.fs [] H H' s.heap h') (hok:HOk X.prog X.w H' h'):Inv X pins σ H' { s with heap:=h',toks:=t' }:=by
 obtain ⟨m,⟨o,es,ep,ho,r⟩,_⟩:=id I.loc
 obtain ⟨sl,hL⟩:=u.any ho I.free (by simp)
 exact I.step (g':=s.gens) (d':=s.drawn) (ch:=[]) (fun _ z=>nomatch z) (fun b o _ hb _ e n=>u.keep b o e n hb (by simp)) (fun b o _ hb _ e n=>u.slot b o e n hb (by simp)) (fun b o _ e n=>u.free b o e n (by simp)) (fun b o _ e=>u.there b o e (by simp)) u.tups u.frzs u.tbls (fun m' hm=>by
  obtain ⟨o',es',ep',ho',r'⟩:=hm
  rw [ho] at ho';cases ho'
  exact ⟨_,es',ep',hL,r'⟩) hok I.bare
theorem Inv.call {g':Array GenState} {t':Nat} {d':Drawn} {ch:List Addr} (I:Inv X pins σ H s) (u:Un (frs X.stack) ch H H' s.heap h') (hok:HOk X.prog X.w H' h') (hg:AllBare g')
  (hch:∀b∈ch,(b∈X.ex\/X.s₀.heap.objs.size<=b)/\b≠X.env.locals/\(∀x c,X.env.cells.lookup x=some c->c≠b)/\∀p∈X.pn++pins,p.1≠b) :
  Inv X pins σ H' { s with heap:=h',gens:=g',drawn:=d',toks:=t' }:=by
 obtain ⟨m,⟨o,es,ep,ho,r⟩,_⟩:=id I.loc
 obtain ⟨sl,hL⟩:=u.any ho I.free fun z=>(hch _ z).2.1 rfl
 exact I.step (ch:=ch) hch (fun b o hL hb hc e n=>u.keep b o e n (fun z=>(List.mem_cons.mp (I.stkSub b z)).elim hL hb) hc) (fun b o _ _ hc e n=>u.any e n hc) (fun b o hc e n=>u.free b o e n hc) (fun b o hc e=>u.there b o e hc) u.tups u.frzs u.tbls (fun m' hm=>by
  obtain ⟨o',es',ep',ho',r'⟩:=hm
  rw [ho] at ho';cases ho'
  exact ⟨_,es',ep',hL,r'⟩) hok hg
theorem Inv.turned {t':Nat} {it:Addr} (I:Inv X pins σ H s) (k:∀b o,b≠it->s.heap.get? b=some o->h'.get? b=some o) (hn:H it=none) (hL:it≠X.env.locals)
  (h1:it∈X.ex\/X.s₀.heap.objs.size<=it) (h2:∀x c,X.env.cells.lookup x=some c->c≠it) (h3:∀p∈X.pn++pins,p.1≠it):Inv X pins σ H { s with heap:=h',toks:=t' }:=by
 have nit:∀b u,H b=some u->b≠it:=fun b u e z=>by rw [z,hn] at e;cases e
 refine I.step (g':=s.gens) (d':=s.drawn) (ch:=[it]) (fun b hb=>?_) (fun b o _ _ hc e _=>k b o (fun z=>hc (by simp [z])) e) (fun b o _ _ hc e _=>⟨o.slots,k b o (fun z=>hc (by simp [z])) e⟩) (fun _ _ _ _ n=>n)
  (fun b o hc e=>⟨o,k b o (fun z=>hc (by simp [z])) e⟩) (fun _ _ e=>e) (fun _ _ _ e=>e) (fun b ps e=>⟨#[],by rw [e];simp⟩) (fun m hm=>?_) (fun b u e=>?_) I.bare
 . have e:b=it:=by simpa using hb
   subst e
   exact ⟨h1,hL,h2,h3⟩
 . obtain ⟨o,es,ep,ho,r⟩:=hm
   exact ⟨o,es,ep,k _ o (Ne.symm hL) ho,r⟩
 . refine (I.hok b u e).stay (fun c v hc q=>k c v ?_ q) (fun _ q=>q) fun _ _ q=>q
   rcases hc with z | z
   . rw [z];exact nit b u e
   . exact nit c _ z
theorem Inv.tok (I:Inv X pins σ H s) (t:Nat):Inv X pins σ H { s with toks:=t }:=I.un (h':=s.heap) (t':=t) Un.refl I.hok
theorem Inv.kept {t':Nat} (I:Inv X pins σ H s) (k:∀b u,s.heap.get? b=some u->h'.get? b=some u):Inv X pins σ H { s with heap:=h',toks:=t' }:=I.un (Un.kept k) (I.hok.kept k)
theorem Inv.laid {a:Addr} {o:HO} {t':Nat} (I:Inv X pins σ H s) (k:∀b u,s.heap.get? b=some u->h'.get? b=some u) (hp:s.heap.objs.size<=a) (new:ObjOk X.prog X.w (upd H a o) h' a o) :
 Inv X pins σ (upd H a o) { s with heap:=h',toks:=t' }:=I.un (Un.laid k hp (I.hok.fresh hp)) (I.hok.laid k hp new)
theorem Inv.write {x e:Addr} {o:HO} {t':Nat} (I:Inv X pins σ H s) (mu:Mut (H x)) (he:e=x\/H e=some (.own x)) (k:∀b u,b≠e->s.heap.get? b=some u->h'.get? b=some u) (heo:∃u,h'.get? e=some u)
 (new:ObjOk X.prog X.w (upd H x o) h' x o):Inv X pins σ (upd H x o) { s with heap:=h',toks:=t' }:=I.un (Un.write mu he k heo) (I.hok.write mu he k heo new)
theorem Inv.pins_of {pins':List (Addr×Obj)} (I:Inv X pins σ H s) (h:∀p∈pins',s.heap.get? p.1=some p.2/\H p.1=none/\p.1≠X.env.locals/\p.1∉X.fs/\∀v,p.2.data≠.cell v):Inv X pins' σ H s:=
 ⟨I.ok,I.os,I.bare,I.base,I.loc,I.cell,I.free,I.freeC,fun p hp=>(List.mem_append.mp hp).elim (fun z=>I.pin p (List.mem_append_left _ z)) (h p),I.hok,I.len⟩
theorem zaa {N:List Str} (hN:N.Nodup) {i j:Nat} {x:Str} (a:N[i]?=some x) (b:N[j]?=some x):i=j:=by
 obtain ⟨h1,e1⟩:=List.getElem?_eq_some_iff.mp a
 obtain ⟨h2,e2⟩:=List.getElem?_eq_some_iff.mp b
 exact (List.getElem_inj hN).mp (e1.trans e2.symm)
theorem zcp {M:Model} {A:Around} {E:Value->Shared->Prop} {i:Nat} {x:Str} {v:V} {u:Value} {Q:Unit->Shared->Prop} (I:Inv X pins σ H s) (hN:X.N.Nodup) (hi:X.N[i]?=some x) (hx:Loc X.env.scope x) (r:RelV v u)
  (h:∀s',Inv X pins (σ.set i (some v)) H s'->(∃a,Heap.SameBut a s.heap s'.heap/\(a=X.env.locals\/X.env.cells.lookup x=some a))->Q () s') (hf:X.fn x=true\/X.env.scope.names.lookup x=some .local:=by first | exact .inl rfl | exact .inr rfl | assumption):wpAny M A (storeName X.env x u) Q E s:=by
 obtain ⟨m,hn,hl⟩:=id I.loc
 have hcls:(X.env.scope.kind==.class||(X.env.scope.kind==.module&&X.env.locals != X.env.globals))=false:=by rw [I.ok.kind];rfl
 have hiσ:i<σ.length:=by rw [I.len];exact (List.getElem?_eq_some_iff.mp hi).1
 have cne:=I.cne
 have tracked:∀{a:Addr} {h':Heap},(∃o,s.heap.get? a=some o/\H a=none)->Heap.SameBut a s.heap h'->HOk X.prog X.w H h':=fun {a h'} ha hs b ob e=>by
  obtain ⟨_,_,hfree⟩:=ha
  refine (I.hok b ob e).stay (fun c w' hc q=>(hs.2 c ?_).trans q) (fun _ q=>q) fun _ _ q=>q
  rintro rfl
  rcases hc with rfl | hc
  . rw [hfree] at e;cases e
  . rw [hfree] at hc;cases hc
 rcases hx with hk | hk
 . refine wpAny_storeName_local hk hn (fun h' hn' hs=>?_) hcls
   obtain ⟨oL,_,_,hoL,_⟩:=id hn
   refine h _ ⟨I.ok,I.os,I.bare,⟨fun b o e n hb hx=>?_,fun b o e n hb hx=>?_,I.base.free,fun b o e hx=>?_,I.base.tups,I.base.frzs,I.base.tbls⟩,⟨_,hn',fun j y v' e1 e2 e3=>?_⟩,fun y c e=>?_,I.free,I.freeC,fun p hp=>?_,tracked ⟨oL,hoL,I.free⟩ hs,by simpa using I.len⟩ ⟨_,hs,.inl rfl⟩
   . exact (hs.2 b (Nat.ne_of_lt (Nat.lt_of_lt_of_le (Heap.lt_size e) I.ok.above))).trans (I.base.keep b o e n hb hx)
   . obtain ⟨sl,e1⟩:=I.base.slot b o e n hb hx
     exact ⟨sl,(hs.2 b (Nat.ne_of_lt (Nat.lt_of_lt_of_le (Heap.lt_size e) I.ok.above))).trans e1⟩
   . obtain ⟨o',e1⟩:=I.base.there b o e hx
     exact ⟨o',(hs.2 b (Nat.ne_of_lt (Nat.lt_of_lt_of_le (Heap.lt_size e) I.ok.above))).trans e1⟩
   . by_cases hj:j=i
     . subst hj
       rw [hi] at e1;cases e1
       rw [List.getElem?_set_self hiσ] at e2
       cases e2
       exact ⟨u,r,.inl ⟨hk,by simp⟩⟩
     . rw [List.getElem?_set_ne (Ne.symm hj)] at e2
       obtain ⟨u',r',q⟩:=hl j y v' e1 e2 e3
       refine ⟨u',r',?_⟩
       rcases q with ⟨k,e⟩ | ⟨k,c,e,z⟩
       . refine .inl ⟨k,?_⟩
         have:y≠x:=fun e=>hj (zaa hN e1 (e ▸ hi))
         simp [this,e]
       . exact .inr ⟨k,c,e,z.sameBut hs (cne y c e)⟩
   . obtain ⟨w',z⟩:=I.cell y c e
     exact ⟨w',z.sameBut hs (cne y c e)⟩
   . obtain ⟨e,n,ne,nf,d⟩:=I.pin p hp
     exact ⟨(hs.2 p.1 ne).trans e,n,ne,nf,d⟩
 . have hfn:X.fn x=true:=by
    rcases hf with z | z
    . exact z
    . rw [z] at hk;cases hk
   obtain ⟨c,hc⟩:=I.ok.has x (.inl hk)
   obtain ⟨w',z⟩:=I.cell x c hc
   refine wpAny_storeName_cell I.ok.kind hk hc z (fun h' hc' hs=>?_)
   obtain ⟨oc,hoc,hocd⟩:=id z
   refine h { s with heap:=h' } ⟨I.ok,I.os,I.bare,⟨fun b o e n hb hx=>?_,fun b o e n hb hx=>?_,I.base.free,fun b o e hx=>?_,I.base.tups,I.base.frzs,I.base.tbls⟩,⟨m,hn.sameBut hs (Ne.symm (cne x c hc)),fun j y v' e1 e2 e3=>?_⟩,fun y c' e=>?_,I.free,I.freeC,fun p hp=>?_,tracked ⟨oc,hoc,I.freeC x c hc⟩ hs,by simpa using I.len⟩ ⟨c,hs,.inr hc⟩
   . exact (hs.2 b (Nat.ne_of_lt (Nat.lt_of_lt_of_le (Heap.lt_size e) (I.ok.cab x c hfn hc)))).trans (I.base.keep b o e n hb hx)
   . obtain ⟨sl,e1⟩:=I.base.slot b o e n hb hx
     exact ⟨sl,(hs.2 b (Nat.ne_of_lt (Nat.lt_of_lt_of_le (Heap.lt_size e) (I.ok.cab x c hfn hc)))).trans e1⟩
   . obtain ⟨o',e1⟩:=I.base.there b o e hx
     exact ⟨o',(hs.2 b (Nat.ne_of_lt (Nat.lt_of_lt_of_le (Heap.lt_size e) (I.ok.cab x c hfn hc)))).trans e1⟩
   . by_cases hj:j=i
     . subst hj
       rw [hi] at e1;cases e1
       rw [List.getElem?_set_self hiσ] at e2
       cases e2
       exact ⟨u,r,.inr ⟨.inl hk,c,hc,hc'⟩⟩
     . rw [List.getElem?_set_ne (Ne.symm hj)] at e2
       obtain ⟨u',r',q⟩:=hl j y v' e1 e2 e3
       refine ⟨u',r',?_⟩
       rcases q with q | ⟨k,c',e,z'⟩
       . exact .inl q
       . refine .inr ⟨k,c',e,z'.sameBut hs ?_⟩
         rintro rfl
         exact hj (zaa hN e1 (I.ok.inj _ _ _ e hc ▸ hi))
   . by_cases hcc:c'=c
     . subst hcc;exact ⟨_,hc'⟩
     . obtain ⟨w2,z2⟩:=I.cell y c' e
       exact ⟨w2,z2.sameBut hs hcc⟩
   . obtain ⟨e,n,ne,nf,d⟩:=I.pin p hp
     refine ⟨(hs.2 p.1 ?_).trans e,n,ne,nf,d⟩
     intro q
     rw [q,hoc] at e
     have q':oc=p.2:=Option.some.inj e
     exact d w' (by rw [<-q'];exact hocd)
theorem zab {M:Model} {A:Around} {E:Value->Shared->Prop} {i:Nat} {x:Str} {v:V} {u:Value} {Q:Unit->Shared->Prop} (I:Inv X pins σ H s) (hN:X.N.Nodup) (hi:X.N[i]?=some x) (hx:Loc X.env.scope x) (r:RelV v u)
  (h:∀s',Inv X pins (σ.set i (some v)) H s'->Q () s') (hf:X.fn x=true\/X.env.scope.names.lookup x=some .local:=by first | exact .inl rfl | exact .inr rfl | assumption):wpAny M A (storeName X.env x u) Q E s:=
 zcp I hN hi hx r (fun s' I' _=>h s' I') hf
theorem Inv.call' {s':Shared} {ch:List Addr} (I:Inv X pins σ H s) (ho:s'.os=s.os) (u:Un (frs X.stack) ch H H' s.heap s'.heap) (hok:HOk X.prog X.w H' s'.heap) (hg:AllBare s'.gens)
  (hch:∀b∈ch,(b∈X.ex\/X.s₀.heap.objs.size<=b)/\b≠X.env.locals/\(∀x c,X.env.cells.lookup x=some c->c≠b)/\∀p∈X.pn++pins,p.1≠b):Inv X pins σ H' s':=by
 obtain ⟨h',g',d',t',o'⟩:=s'
 have e:o'=s.os:=ho
 subst e
 exact I.call (g':=g') (t':=t') (d':=d') u hok hg hch
end
abbrev XK:=Value->Option Addr->Hp->Prop
abbrev St:=List (Option V)
abbrev VK:=V->Hp->Prop
abbrev TE:=St->Hp->VK->Prop
abbrev TT:=St->Hp->(Bool->Hp->Prop)->Prop
abbrev TA:=St->Hp->(List V->Hp->Prop)->Prop
structure Ends where
 nx:St->Hp->Prop
 rt:VK
 bk:St->Hp->Prop:=fun _ _=>False
 ct:St->Hp->Prop:=fun _ _=>False
abbrev TS:=Ends->St->Hp->Prop
def EP (X:Cx) (pins:List (Addr×Obj)) (σ:St) (Q:VK) (u:Value) (s':Shared):Prop:=∃v H',Inv X pins σ H' s'/\RelV v u/\Q v H'
def TP (X:Cx) (pins:List (Addr×Obj)) (σ:St) (Q:Bool->Hp->Prop) (b:Bool) (s':Shared):Prop:=∃H',Inv X pins σ H' s'/\Q b H'
def AP (X:Cx) (pins:List (Addr×Obj)) (σ:St) (Q:List V->Hp->Prop) (us:List Value) (s':Shared):Prop:=∃vs H',Inv X pins σ H' s'/\Vals vs us/\Q vs H'
def SP (X:Cx) (pins:List (Addr×Obj)) (D:Ends) (f:Flow) (s':Shared):Prop:=
 match f with
 | .next=>∃σ' H',Inv X pins σ' H' s'/\D.nx σ' H'
 | .brk=>∃σ' H',Inv X pins σ' H' s'/\D.bk σ' H'
 | .cont=>∃σ' H',Inv X pins σ' H' s'/\D.ct σ' H'
 | .ret u=>∃v σ' H',Inv X pins σ' H' s'/\RelV v u/\D.rt v H'
def PE (X:Cx) (e:Expr) (t:TE):Prop:=
 ∀(pins:List (Addr×Obj)) (s:Shared) (σ:St) (H:Hp) (Q:VK),Inv X pins σ H s->t σ H Q->wpAny (model X.prog X.w) X.A (eval e X.env) (EP X pins σ Q) X.xe s
def PT (X:Cx) (e:Expr) (t:TT):Prop:=
 ∀(pins:List (Addr×Obj)) (s:Shared) (σ:St) (H:Hp) (Q:Bool->Hp->Prop),Inv X pins σ H s->t σ H Q->wpAny (model X.prog X.w) X.A (isTrue e X.env (eval e X.env)) (TP X pins σ Q) X.xe s
def PW (X:Cx) (e:Expr) (t:TT):Prop:=
 ∀(whole:Sem Value) (pins:List (Addr×Obj)) (s:Shared) (σ:St) (H:Hp) (Q:Bool->Hp->Prop),Inv X pins σ H s->t σ H Q->wpAny (model X.prog X.w) X.A (isTrue e X.env whole) (TP X pins σ Q) X.xe s
theorem PW.pt {X:Cx} {e:Expr} {t:TT} (h:PW X e t):PT X e t:=h _
def PA (X:Cx) (es:List Expr) (t:TA):Prop:=
 ∀(pos:Pos) (pins:List (Addr×Obj)) (s:Shared) (σ:St) (H:Hp) (Q:List V->Hp->Prop),Inv X pins σ H s->t σ H Q->wpAny (model X.prog X.w) X.A (spliced (backTo pos (starEach es X.env))) (AP X pins σ Q) X.xe s
def PS (X:Cx) (st:Stmt) (t:TS):Prop:=
 ∀(pins:List (Addr×Obj)) (s:Shared) (σ:St) (H:Hp) (D:Ends),Inv X pins σ H s->t D σ H->wpAny (model X.prog X.w) X.A (exec st X.env) (SP X pins D) X.xe s
def PSs (X:Cx) (st:List Stmt) (t:TS):Prop:=
 ∀(pins:List (Addr×Obj)) (s:Shared) (σ:St) (H:Hp) (D:Ends),Inv X pins σ H s->t D σ H->wpAny (model X.prog X.w) X.A (execs st X.env) (SP X pins D) X.xe s
theorem thn {α:Type} {t:Sem α} {Q Q':α->Shared->Prop} {M:Model} {A:Around} {E:Value->Shared->Prop} {s:Shared} (h:wpAny M A t Q E s) (hQ:∀a s,Q a s->Q' a s):wpAny M A t Q' E s:=wpAny_mono h hQ fun _ _ x=>x
section
variable {X:Cx}
theorem bin {a b:Expr} {ta tb:TE} (ha:PE X a ta) (hb:PE X b tb) {pins:List (Addr×Obj)} {s:Shared} {σ:St} {H:Hp} {R:V->V->Hp->Prop} (I:Inv X pins σ H s) (h:ta σ H fun x H1=>tb σ H1 fun y H2=>R x y H2)
  {α:Type} {Q:α->Shared->Prop} {f:Value->Value->Sem α}
  (hf:∀v u s2 x y H2,Inv X pins σ H2 s2->RelV x v->RelV y u->R x y H2->wpAny (model X.prog X.w) X.A (f v u) Q X.xe s2) :
  wpAny (model X.prog X.w) X.A (eval a X.env) (fun v s₁=>wpAny (model X.prog X.w) X.A (eval b X.env) (fun u s₂=>wpAny (model X.prog X.w) X.A (f v u) Q X.xe s₂) X.xe s₁) X.xe s:=by
 refine thn (ha pins s σ H _ I h) fun v s1 ⟨x,H1,I1,r1,q1⟩=>?_
 refine thn (hb pins s1 σ H1 _ I1 q1) fun u s2 ⟨y,H2,I2,r2,q2⟩=>?_
 exact hf v u s2 x y H2 I2 r1 r2 q2
noncomputable def zul (i:Nat):TE:=fun σ H Q=>∃v,σ[i]?=some (some v)/\Q v H
noncomputable def tC (v:V):TE:=fun _ H Q=>Q v H
theorem zhx {i:Nat} {x:Str} {pos:Pos} (hN:X.N[i]?=some x) (hv:Vis X.env.scope x) (hd:(x==("__debug__":Str))=false:=by decide) (hcd:(x==("__classdict__":Str))=false:=by decide):PE X (.Name x pos) (zul i):=by
 intro pins s σ H Q I h
 obtain ⟨v,e,h⟩:=h
 obtain ⟨m,hn,hl⟩:=I.loc
 obtain ⟨u,r,l⟩:=hl i x v hN e hv
 have fin:EP X pins σ Q u s:=⟨v,H,I,r,h⟩
 rcases l with ⟨hk,hm⟩ | ⟨hk,c,hc,hcell⟩
 . exact wpAny_Name (wpAny_loadName_local I.ok.kind hk hn hm fin) hd
 . rcases hk with hk | hk
   . exact wpAny_Name (wpAny_loadName_cell I.ok.kind hk hc hcell fin) hd
   . exact wpAny_Name (wpAny_loadName_free I.ok.kind hk hc hcell fin hcd) hd
theorem pe_int {i j pos}:PE X (.Constant (.int i) j pos) (tC (.int i)):=fun _ _ _ H _ I h=>wpAny_Constant_int ⟨.int i,H,I.tok _,⟨_,rfl⟩,h⟩
theorem pe_bl {b j pos}:PE X (.Constant (.bool b) j pos) (tC (.bl b)):=fun _ _ _ H _ I h=>Constant_bool ⟨.bl b,H,I,rfl,h⟩
def Gl (X:Cx) (x:Str):Prop:=X.env.kindOf x=some .globalImplicit
theorem zjn {E:Value->Shared->Prop} {pins:List (Addr×Obj)} {s:Shared} {σ:St} {H:Hp} {x:Str} {u:Value} {pos:Pos} {Q:Value->Shared->Prop} (I:Inv X pins σ H s) (hg:Gl X x) (hm:X.mg x=some u) (h:Q u s)
  (hd:(x==("__debug__":Str))=false:=by decide):wpAny (model X.prog X.w) X.A (eval (.Name x pos) X.env) Q E s:=
 Calls.Name_function_global I.ok.kind hg (Calls.loadGlobal_global (by rw [I.ok.glob];exact I.mod.glob.keeps I.bk) hm h) hd
theorem z6c {E:Value->Shared->Prop} {pins:List (Addr×Obj)} {s:Shared} {σ:St} {H:Hp} {x:Str} {u:Value} {pos:Pos} {Q:Value->Shared->Prop} (I:Inv X pins σ H s) (hg:Gl X x) (hm:X.mg x=none) (hv:bootBuiltins x=some u) (h:Q u s)
  (hn:x≠"__name__":=by decide) (hd:(x==("__debug__":Str))=false:=by decide):wpAny (model X.prog X.w) X.A (eval (.Name x pos) X.env) Q E s:=by
 obtain ⟨mb,h1,h2⟩:=I.mod.blt
 exact Calls.Name_function_global I.ok.kind hg (Calls.loadGlobal_builtin (by rw [I.ok.glob];exact I.mod.glob.keeps I.bk) hm (by rw [I.ok.blt];exact h1.keeps I.bk) ((h2 x hn).trans hv) h) hd
theorem z53 {x:Str} {v:V} {u:Value} {pos:Pos} (hg:Gl X x) (hm:X.mg x=none) (hv:bootBuiltins x=some u) (r:RelV v u) (hn:x≠"__name__":=by decide) (hd:(x==("__debug__":Str))=false:=by decide):PE X (.Name x pos) (tC v):=
 fun _ _ _ H _ I h=>z6c I hg hm hv ⟨v,H,I,r,h⟩ hn hd
variable {a b:Expr} {ta tb:TE} {pos:Pos}
variable {tA tB':TT} {rest:List Expr}
noncomputable def zum (t u:TT):TT:=fun σ H Q=>t σ H fun c H1=>if c=true then u σ H1 Q else Q false H1
noncomputable def tOr (t u:TT):TT:=fun σ H Q=>t σ H fun c H1=>if c=true then Q true H1 else u σ H1 Q
noncomputable def zun (t:TT):TT:=fun σ H Q=>t σ H fun c H1=>Q (!c) H1
theorem zjo (ha:PT X a tA):PW X (.BoolOp .And [a] pos) tA:=by
 intro wh pins s σ H Q I h
 refine isTrue_and (thn (ha pins s σ H Q I h) fun c s1 e=>?_)
 cases c with
 | true=>exact isTrue_and_nil e
 | false=>exact e
theorem zmk (ha:PT X a tA):PW X (.BoolOp .Or [a] pos) tA:=by
 intro wh pins s σ H Q I h
 refine isTrue_or (thn (ha pins s σ H Q I h) fun c s1 e=>?_)
 cases c with
 | false=>exact isTrue_or_nil e
 | true=>exact e
theorem zml (ha:PT X a tA) (hb:PW X (.BoolOp .And (b::rest) pos) tB'):PW X (.BoolOp .And (a::b::rest) pos) (zum tA tB'):=by
 intro wh pins s σ H Q I h
 refine isTrue_and (thn (ha pins s σ H _ I h) fun c s1 ⟨H1,I1,q1⟩=>?_)
 cases c with
 | true=>exact hb wh pins s1 σ H1 Q I1 q1
 | false=>exact ⟨H1,I1,q1⟩
theorem zrl (ha:PT X a tA) (hb:PW X (.BoolOp .Or (b::rest) pos) tB'):PW X (.BoolOp .Or (a::b::rest) pos) (tOr tA tB'):=by
 intro wh pins s σ H Q I h
 refine isTrue_or (thn (ha pins s σ H _ I h) fun c s1 ⟨H1,I1,q1⟩=>?_)
 cases c with
 | true=>exact ⟨H1,I1,q1⟩
 | false=>exact hb wh pins s1 σ H1 Q I1 q1
theorem zmm (ha:PT X a tA):PT X (.UnaryOp .Not a pos) (zun tA):=by
 intro pins s σ H Q I h
 exact isTrue_not (ha pins s σ H (fun c H1=>Q (!c) H1) I h)
theorem zmn {op} {t:TE} (h:PE X a t):PE X (.BoolOp op [a] pos) t:=fun pins s σ H Q I hw=>BoolOp_one (h pins s σ H Q I hw)
end
def SqL (K:Frag) (H:Hp) (a:Addr) (xs:List V):Prop:=
 Rd H a (.lst xs) \/
  ∃(o:Obj) (its:Array Value) (n:Nat),K.lookup a=some o/\o.cls=.type "list"/\o.dict=none/\o.data=.seq its n/\its.size<=sizeLine/\Vals xs its.toList
def SqT (K:Frag) (H:Hp) (a:Addr) (xs:List V):Prop:=
 Rd H a (.tup xs) \/
  ∃(o:Obj) (its:Array Value) (n:Nat),K.lookup a=some o/\o.cls=.type "tuple"/\o.data=.seq its n/\its.size<=sizeLine/\Vals xs its.toList
noncomputable def zvi:Value->Option V
 | .none=>some .non
 | .bool b=>some (.bl b)
 | .int i _=>some (.int i)
 | .str x _=>some (.str x)
 | .bytes b _=>some (.byt b)
 | .float b _=>some (.flt b)
 | .ref a=>some (.ref a)
 | .type n=>some (.ty n)
 | _=>none
theorem RelV.abs {x:V} {u:Value} (r:RelV x u):zvi u=some x:=by
 cases x with
 | non=>cases r;rfl
 | bl _=>cases r;rfl
 | int _=>obtain ⟨t,rfl⟩:=r;rfl
 | str _=>obtain ⟨t,rfl⟩:=r;rfl
 | byt _=>obtain ⟨t,rfl⟩:=r;rfl
 | flt _=>obtain ⟨t,rfl⟩:=r;rfl
 | ref _=>cases r;rfl
 | ty _=>cases r;rfl
theorem RelV.inj {x y:V} {u:Value} (r:RelV x u) (q:RelV y u):x=y:=Option.some.inj (r.abs.symm.trans q.abs)
theorem Vals.inj:∀{xs ys:List V} {us:List Value},Vals xs us->Vals ys us->xs=ys
 | _,_,_,.nil,.nil=>rfl
 | _,_,_,.cons r t,.cons r' t'=>by rw [r.inj r',Vals.inj t t']
section
variable {X:Cx} {pins:List (Addr×Obj)} {σ:St} {H:Hp} {s:Shared} {a:Addr} {xs ys:List V}
theorem SqL.of {K:Frag} (h:H a=some (.lst xs)):SqL K H a xs:=.inl (.inl h)
theorem SqT.of {K:Frag} (h:H a=some (.tup xs)):SqT K H a xs:=.inl (.inl h)
theorem Inv.list (I:Inv X pins σ H s) (h:SqL X.K H a xs):∃its:List Value,Vals xs its/\PlainL s.heap a its.toArray/\xs.length<=sizeLine:=by
 rcases h with h | ⟨o,its,n,hk,hc,hd,hs,hz,r⟩
 . obtain ⟨z,its,n,r,e⟩:=h.ok I.hok
   exact ⟨its,r,⟨_,n,e,rfl,rfl,rfl⟩,z⟩
 . refine ⟨its.toList,r,⟨o,n,I.kIn a o hk,hc,hd,by simpa using hs⟩,?_⟩
   have e:=r.length
   simp only [Array.length_toList] at e
   omega
theorem Inv.tuple (I:Inv X pins σ H s) (h:SqT X.K H a xs):∃its:List Value,Vals xs its/\IsTup s.heap a its.toArray/\xs.length<=sizeLine:=by
 rcases h with h | ⟨o,its,n,hk,hc,hs,hz,r⟩
 . obtain ⟨z,its,r,p⟩:=h.ok I.hok
   exact ⟨its,r,p,z⟩
 . refine ⟨its.toList,r,⟨o,I.kIn a o hk,hc,n,by simpa using hs⟩,?_⟩
   have e:=r.length
   simp only [Array.length_toList] at e
   omega
theorem Inv.list_inj (I:Inv X pins σ H s) (h:SqL X.K H a xs) (h':SqL X.K H a ys):xs=ys:=by
 obtain ⟨its,r,⟨o,n,e,_,_,d⟩,_⟩:=I.list h
 obtain ⟨its',r',⟨o',n',e',_,_,d'⟩,_⟩:=I.list h'
 rw [e] at e';cases e'
 rw [d] at d'
 injection d' with d1 _
 have:its=its':=by simpa using congrArg Array.toList d1
 subst this
 exact r.inj r'
theorem Inv.tuple_inj (I:Inv X pins σ H s) (h:SqT X.K H a xs) (h':SqT X.K H a ys):xs=ys:=by
 obtain ⟨its,r,⟨o,e,_,n,d⟩,_⟩:=I.tuple h
 obtain ⟨its',r',⟨o',e',_,n',d'⟩,_⟩:=I.tuple h'
 rw [e] at e';cases e'
 rw [d] at d'
 injection d' with d1 _
 have:its=its':=by simpa using congrArg Array.toList d1
 subst this
 exact r.inj r'
end
abbrev Cx.wish (X:Cx) (E:Value->Shared->Prop):Cx:={ X with xe:=E }
abbrev Cx.nox (X:Cx):Cx:=X.wish fun _ _=>False
theorem Cx.Ok.wish {X:Cx} (ok:X.Ok) (E:Value->Shared->Prop):(X.wish E).Ok:=
 ⟨ok.mod,ok.kind,ok.glob,ok.blt,ok.above,ok.inj,ok.has,ok.cab,ok.hd,ok.frames,ok.stk,ok.exf,ok.bs,ok.bsz,ok.noex,ok.exfs,ok.funs,ok.frf⟩
theorem Cx.Ok.unwish {X:Cx} {E:Value->Shared->Prop} (ok:(X.wish E).Ok):X.Ok:=
 ⟨ok.mod,ok.kind,ok.glob,ok.blt,ok.above,ok.inj,ok.has,ok.cab,ok.hd,ok.frames,ok.stk,ok.exf,ok.bs,ok.bsz,ok.noex,ok.exfs,ok.funs,ok.frf⟩
section
variable {X:Cx} {pins:List (Addr×Obj)} {σ:St} {H:Hp} {s:Shared} {E:Value->Shared->Prop}
theorem Inv.wish (I:Inv X pins σ H s) (E:Value->Shared->Prop):Inv (X.wish E) pins σ H s:=⟨I.ok.wish E,I.os,I.bare,I.base,I.loc,I.cell,I.free,I.freeC,I.pin,I.hok,I.len⟩
theorem Inv.unwish (I:Inv (X.wish E) pins σ H s):Inv X pins σ H s:=⟨I.ok.unwish,I.os,I.bare,I.base,I.loc,I.cell,I.free,I.freeC,I.pin,I.hok,I.len⟩
theorem SP.unwish {D:Ends} {f:Flow} {s':Shared} (h:SP (X.wish E) pins D f s'):SP X pins D f s':=by
 cases f with
 | next=>obtain ⟨σ',H',I,q⟩:=h;exact ⟨σ',H',I.unwish,q⟩
 | brk=>obtain ⟨σ',H',I,q⟩:=h;exact ⟨σ',H',I.unwish,q⟩
 | cont=>obtain ⟨σ',H',I,q⟩:=h;exact ⟨σ',H',I.unwish,q⟩
 | ret u=>obtain ⟨v,σ',H',I,r,q⟩:=h;exact ⟨v,σ',H',I.unwish,r,q⟩
theorem PE.nox {e:Expr} {t:TE} (h:PE X.nox e t):PE X e t:=fun pins s σ H Q I hw=>
 wpAny_mono (h pins s σ H Q (I.wish _) hw) (fun _ _ ⟨v,H',I',r,q⟩=>⟨v,H',I'.unwish,r,q⟩) fun _ _ z=>False.elim z
theorem PT.nox {e:Expr} {t:TT} (h:PT X.nox e t):PT X e t:=fun pins s σ H Q I hw=>
 wpAny_mono (h pins s σ H Q (I.wish _) hw) (fun _ _ ⟨H',I',q⟩=>⟨H',I'.unwish,q⟩) fun _ _ z=>False.elim z
theorem PSs.nox {st:List Stmt} {t:TS} (h:PSs X.nox st t):PSs X st t:=fun pins s σ H D I hw=>
 wpAny_mono (h pins s σ H D (I.wish _) hw) (fun _ _ q=>q.unwish) fun _ _ z=>False.elim z
end
section
variable {X:Cx} {st:Stmt} {rest:List Stmt} {t u:TS} {e:Expr} {te:TE} {pos:Pos}
noncomputable def zjp:TS:=fun D σ H=>D.nx σ H
noncomputable def zrm (t u:TS):TS:=fun D σ H=>t { D with nx:=u D } σ H
theorem pss_nil:PSs X [] zjp:=fun _ _ σ H _ I h=>wpAny_execs_nil ⟨σ,H,I,h⟩
theorem z3u (h1:PS X st t) (h2:PSs X rest u):PSs X (st::rest) (zrm t u):=by
 intro pins s σ H D I h
 refine wpAny_execs_cons (thn (h1 pins s σ H { D with nx:=u D } I h) fun f s1 q=>?_)
 cases f with
 | next=>
  obtain ⟨σ',H',I',q⟩:=q
  exact h2 pins s1 σ' H' D I' q
 | ret v=>exact q
 | brk=>exact q
 | cont=>exact q
theorem z9c (h1:PS X st t):PSs X [st] t:=by
 intro pins s σ H D I h
 refine wpAny_execs_cons (thn (h1 pins s σ H D I h) fun f s1 q=>?_)
 cases f with
 | next=>exact wpAny_execs_nil q
 | ret v=>exact q
 | brk=>exact q
 | cont=>exact q
theorem Inv.quiet {pins:List (Addr×Obj)} {σ:St} {H:Hp} {s:Shared} (I:Inv X pins σ H s):interactive X.env=false:=by simp [interactive,I.ok.kind]
noncomputable def z6x (te:TE):TS:=fun D σ H=>te σ H fun _ H1=>D.nx σ H1
theorem z9d (he:PE X e te) (hs:swapsWith e none pos.line X.env=pure false:=by rfl):PS X (.Expr e pos) (z6x te):=by
 intro pins s σ H D I h
 exact wpAny_Expr_any (thn (he pins s σ H _ I h) fun v s1 ⟨x,H1,I1,r1,q1⟩=>⟨σ,H1,I1,q1⟩) I.quiet hs
noncomputable def zuo (te:TE):TS:=fun D σ H=>te σ H D.rt
theorem zmo (he:PE X e te):PS X (.Return (some e) pos) (zuo te):=by
 intro pins s σ H D I h
 exact wpAny_Return_some (thn (he pins s σ H _ I h) fun v s1 ⟨x,H1,I1,r1,q1⟩=>⟨x,σ,H1,I1,r1,q1⟩)
noncomputable def zrn (c:TT) (t u:TS):TS:=fun D σ H=>c σ H fun b H1=>if b=true then t D σ H1 else u D σ H1
theorem zmp {c:Expr} {a b:List Stmt} {tc:TT} (hc:PT X c tc) (ha:PSs X a t) (hb:PSs X b u):PS X (.If c a b pos) (zrn tc t u):=by
 intro pins s σ H D I h
 refine wpAny_If (thn (hc pins s σ H _ I h) fun d s1 ⟨H1,I1,q1⟩=>?_)
 cases d with
 | true=>exact ha pins s1 σ H1 D I1 q1
 | false=>exact hb pins s1 σ H1 D I1 q1
noncomputable def zhy:TS:=fun _ _ _=>False
theorem zcq {sts:List Stmt}:PSs X sts zhy:=fun _ _ _ _ _ _ h=>h.elim
end
abbrev TG:=V->St->Hp->(St->Hp->Prop)->Prop
abbrev TGs:=List V->St->Hp->(St->Hp->Prop)->Prop
def PG (X:Cx) (target:Expr) (t:TG):Prop:=
 ∀(pins:List (Addr×Obj)) (s:Shared) (σ:St) (H:Hp) (v:V) (u:Value) (Q:St->Hp->Prop),Inv X pins σ H s->RelV v u->t v σ H Q ->
  wpAny (model X.prog X.w) X.A (assign target X.env u) (fun _ s'=>∃σ' H',Inv X pins σ' H' s'/\Q σ' H') X.xe s
def PGs (X:Cx) (ts:List Expr) (t:TGs):Prop:=
 ∀(pins:List (Addr×Obj)) (s:Shared) (σ:St) (H:Hp) (vs:List V) (us:List Value) (Q:St->Hp->Prop),Inv X pins σ H s->Vals vs us->t vs σ H Q ->
  wpAny (model X.prog X.w) X.A (assignInOrder ((assignEach ts X.env).map (·.2)) us) (fun _ s'=>∃σ' H',Inv X pins σ' H' s'/\Q σ' H') X.xe s
abbrev zm7:=V->V->V->Hp->(Hp->Prop)->Prop
def zup (X:Cx) (t:zm7):Prop:=
 ∀(pins:List (Addr×Obj)) (s:Shared) (σ:St) (H:Hp) (o i v:V) (ov iv u:Value) (Q:Hp->Prop),Inv X pins σ H s->RelV o ov->RelV i iv->RelV v u->t o i v H Q ->
  wpAny (model X.prog X.w) X.A (setItem ov iv u) (fun _ s'=>∃H',Inv X pins σ H' s'/\Q H') X.xe s
section
variable {X:Cx} {pos:Pos}
noncomputable def z3n (i:Nat):TG:=fun v σ H Q=>Q (σ.set i (some v)) H
theorem z6y {i:Nat} {x:Str} (hN:X.N.Nodup) (hi:X.N[i]?=some x) (hx:Loc X.env.scope x) (hf:X.fn x=true\/X.env.scope.names.lookup x=some .local:=by first | exact .inl rfl | exact .inr rfl | assumption):PG X (.Name x pos) (z3n i):=by
 intro pins s σ H v u Q I r h
 exact wpAny_assign_Name (zab I hN hi hx r (fun s' I'=>⟨_,H,I',h⟩) hf)
noncomputable def zro:TGs:=fun vs σ H Q=>vs=[]/\Q σ H
noncomputable def zcr (t:TG) (u:TGs):TGs:=fun vs σ H Q=>∃v r,vs=v::r/\t v σ H fun σ' H'=>u r σ' H' Q
theorem pgs_nil:PGs X [] zro:=by
 intro pins s σ H vs us Q I r h
 obtain ⟨e,h⟩:=h
 subst e
 cases r
 exact assignInOrder_nil ⟨σ,H,I,h⟩
theorem z6z {e:Expr} {es:List Expr} {t:TG} {u:TGs} (h1:PG X e t) (h2:PGs X es u)
  (hs:(assignEach (e::es) X.env).map (·.2)=assign e X.env::(assignEach es X.env).map (·.2):=by rfl):PGs X (e::es) (zcr t u):=by
 intro pins s σ H vs us Q I r h
 obtain ⟨v,vr,e1,h⟩:=h
 subst e1
 cases r with
 | cons r rr=>
  rw [hs]
  refine assignInOrder_cons (thn (h1 pins s σ H _ _ _ I r h) fun _ s1 ⟨σ1,H1,I1,q1⟩=>?_)
  exact h2 pins s1 σ1 H1 _ _ Q I1 rr q1
noncomputable def zrp (K:Frag) (n:Nat) (t:TGs):TG:=fun v σ H Q=>∃a xs,v=.ref a/\SqT K H a xs/\xs.length=n/\t xs σ H Q
theorem zhz {es:List Expr} {k:Nat} {t:TGs} {n:Nat} (hc:X.calm=true) (h:PGs X es t)
  (hn:(assignEach es X.env).length=n:=by rfl) (hst:(assignEach es X.env).findIdx? (·.1)=none:=by rfl):PG X (.Tuple es k pos) (zrp X.K n t):=by
 intro pins s σ H v u Q I r hw
 obtain ⟨a,xs,e1,hq,hl,hw⟩:=hw
 subst e1
 cases r
 obtain ⟨its,rv,ht,hz⟩:=I.tuple hq
 refine assign_Tuple_tuple (I.ok.hd hc) ht (by simp [hn,<-hl,rv.length]) hst fun h' hx=>?_
 have I1:Inv X pins σ H { s with heap:=h' }:=I.kept (t':=s.toks) fun b o e=>hx b o (Nat.ne_of_lt (Heap.lt_size e)) e
 exact h pins _ σ H xs _ Q I1 (by simpa using rv) hw
noncomputable def zrc (to ti:TE) (t:zm7):TG:=fun v σ H Q=>to σ H fun o H1=>ti σ H1 fun i H2=>t o i v H2 fun H3=>Q σ H3
theorem zi0 {o i:Expr} {to ti:TE} {t:zm7} (ho:PE X o to) (hi:PE X i ti) (hs:zup X t)
  (ha:∀v,assign (.Subscript o i pos) X.env v=(do
   let ov <-holding [v] (eval o X.env)
   let iv <-holding [v,ov] (eval i X.env)
   standAt pos
   holding [v,ov,iv] (setItem ov iv v)
   release [v,ov,iv] []):=by intro _;rfl):PG X (.Subscript o i pos) (zrc to ti t):=by
 intro pins s σ H v u Q I r h
 rw [ha]
 refine wpAny_bind (wpAny_holding (thn (ho pins s σ H _ I h) fun ov s1 ⟨x,H1,I1,r1,q1⟩=>?_))
 refine wpAny_bind (wpAny_holding (thn (hi pins s1 σ H1 _ I1 q1) fun iv s2 ⟨y,H2,I2,r2,q2⟩=>?_))
 refine wpAny_bind (wpAny_standAt (wpAny_bind (wpAny_holding (thn (hs pins s2 σ H2 x y v ov iv u _ I2 r1 r2 r q2) fun _ s3 ⟨H3,I3,q3⟩=>?_))))
 exact wpAny_release ⟨σ,H3,I3,q3⟩
noncomputable def zjq (te:TE) (g:TG):TS:=fun D σ H=>te σ H fun x H1=>g x σ H1 D.nx
theorem zi1 {tg e:Expr} {te:TE} {g:TG} (he:PE X e te) (hg:PG X tg g) (hs:swapsWithSole [tg] e pos.line X.env=pure false:=by rfl) (hw:swappedStores [tg] e X.env=pure none:=by rfl)
  (h1:(assignEach [tg] X.env).map (·.2)=[assign tg X.env]:=by rfl):PS X (.Assign [tg] e pos) (zjq te g):=by
 intro pins s σ H D I h
 refine wpAny_Assign_stores (thn (he pins s σ H _ I h) fun v s1 ⟨x,H1,I1,r1,q1⟩=>?_) hs hw
 rw [h1]
 exact thn (hg pins s1 σ H1 x v _ I1 r1 q1) fun _ s2 q=>q
theorem zcs {i:Nat} {x:Str} {e:Expr} {te:TE} {pos':Pos} (hN:X.N.Nodup) (hi:X.N[i]?=some x) (hx:Loc X.env.scope x) (he:PE X e te) (hs:swapsWith e (some (.Name x pos')) pos.line X.env=pure false:=by rfl) (hf:X.fn x=true\/X.env.scope.names.lookup x=some .local:=by first | exact .inl rfl | exact .inr rfl | assumption) :
  PS X (.Assign [.Name x pos'] e pos) (zjq te (z3n i)):=by
 intro pins s σ H D I h
 refine wpAny_Assign_Name (thn (he pins s σ H _ I h) fun v s1 ⟨y,H1,I1,r1,q1⟩=>?_) hs
 exact zab I1 hN hi hx r1 (fun s2 I2=>⟨_,H1,I2,q1⟩) hf
end
structure It where
 go:Nat->Hp->Prop
 yld:Nat->Hp->V->Hp->Prop
 stop:Nat->Hp->Prop
def z81 (X:Cx) (pins:List (Addr×Obj)) (H:Hp) (b:Addr):Prop:=
 H b=none/\b≠X.env.locals/\b∉X.fs/\(b∈X.ex\/X.s₀.heap.objs.size<=b)/\(∀x c,X.env.cells.lookup x=some c->c≠b)/\∀p∈X.pn++pins,p.1≠b
theorem Inv.fpOk {X:Cx} {pins:List (Addr×Obj)} {σ:St} {H H':Hp} {s:Shared} {b:Addr} (I:Inv X pins σ H s) (hb:s.heap.objs.size<=b) (hn:H' b=none):z81 X pins H' b:=by
 refine ⟨hn,Nat.ne_of_gt (Nat.lt_of_lt_of_le I.lt hb),I.nofs hb,.inr (Nat.le_trans I.sz hb),fun x c e z=>?_,fun p hp z=>?_⟩
 . obtain ⟨v,q⟩:=I.cell x c e
   exact absurd (Nat.lt_of_lt_of_le q.lt (by rw [z];exact hb)) (Nat.lt_irrefl _)
 . exact absurd (Nat.lt_of_lt_of_le (Heap.lt_size (I.pin p hp).1) (by rw [z];exact hb)) (Nat.lt_irrefl _)
structure Turn (P:Program) (w:World) (K:Frag) (tg:Expr) (J:It) (fp:List Addr) (it:Addr) (tn:Nat->Heap->Prop):Prop where
 mem:it∈fp
 obj:∀i h,tn i h->∀b∈fp,∃o,h.get? b=some o/\∀v,o.data≠.cell v
 keep:∀i h h',tn i h->(∀b∈fp,∀o,h.get? b=some o->h'.get? b=some o)->tn i h'
 item:∀(X:Cx),X.prog=P->X.w=w->X.K=K->X.calm=true->∀(i:Nat) (pins:List (Addr×Obj)) (s:Shared) (σ:St) (H:Hp) (E:Value->Shared->Prop),Inv X pins σ H s->(∀b∈fp,z81 X pins H b)->tn i s.heap->J.go i H ->
  wpAny (model P w) X.A (pyNext (.ref it)) (fun r s1=>∃u,r=some u /\
   wpAny (model P w) X.A (letOwnedTupleGo tg (.ref it) u) (fun _ s2=>∃x H',Inv X pins σ H' s2/\RelV x u/\J.yld i H x H'/\tn (i+1) s2.heap/\∀b∈fp,H' b=none) E s1) E s
 done:∀(X:Cx),X.prog=P->X.w=w->X.K=K->X.calm=true->∀(i:Nat) (pins:List (Addr×Obj)) (s:Shared) (σ:St) (H:Hp) (E:Value->Shared->Prop),Inv X pins σ H s->(∀b∈fp,z81 X pins H b)->tn i s.heap->J.stop i H ->
  wpAny (model P w) X.A (pyNext (.ref it)) (fun r s1=>r=none/\Inv X pins σ H s1) E s
 self:∀(A:Around) (i:Nat) (s:Shared) (Q:Value->Shared->Prop) (E:Value->Shared->Prop),tn i s.heap->Q (.ref it) s->wpAny (model P w) A (pyIter (.ref it)) Q E s
abbrev TI:=St->Hp->(It->Hp->Prop)->Prop
def PIE (X:Cx) (pins:List (Addr×Obj)) (σ:St) (tg:Expr) (R:It->Hp->Prop) (itv:Value) (s2:Shared):Prop:=
 ∃(it:Addr) (fp:List Addr) (tn:Nat->Heap->Prop) (J:It) (H':Hp),itv=.ref it/\Inv X pins σ H' s2/\Turn X.prog X.w X.K tg J fp it tn/\tn 0 s2.heap/\(∀b∈fp,z81 X pins H' b)/\R J H'
def PI (X:Cx) (tg iter:Expr) (wi:TI):Prop:=
 ∀(pins:List (Addr×Obj)) (s:Shared) (σ:St) (H:Hp) (R:It->Hp->Prop),Inv X pins σ H s->wi σ H R ->
  wpAny (model X.prog X.w) X.A (eval iter X.env) (fun v s1=>wpAny (model X.prog X.w) X.A (pyIter v) (PIE X pins σ tg R) X.xe s1) X.xe s
theorem zjr {M:Model} {A:Around} {E:Value->Shared->Prop} {s:Shared} {tg:Expr} {it:Addr} {u:Value} {o:Obj} {n:String} {vs:Array Value} {Q:Unit->Shared->Prop} (ho:s.heap.get? it=some o) (hc:o.cls=.type n) (hd:o.data=.fields vs)
  (hn:["enumerate","zip","dict_itemiterator","dict_reverseitemiterator","odict_iterator","itertools.zip_longest","itertools.pairwise"].contains n=false) (hQ:Q () s):wpAny M A (letOwnedTupleGo tg (.ref it) u) Q E s:=by
 unfold letOwnedTupleGo
 cases tg<;>first
  | exact wpAny_pure hQ
  | (cases u<;>first
   | exact wpAny_pure hQ
   | (refine wpAny_bind (wpAny_load ho ?_)
      rw [hc,hd]
      show wpAny M A (if (["enumerate","zip","dict_itemiterator","dict_reverseitemiterator","odict_iterator","itertools.zip_longest","itertools.pairwise"].contains n&&vs[0]?==some (rawInt _))=true then _ else _) Q E s
      rw [if_neg (by intro h;rw [hn,Bool.false_and] at h;cases h)]
      exact wpAny_pure hQ))
noncomputable def Itl (K:Frag) (a:Addr):It:=
 ⟨fun i H=>∃xs x,SqL K H a xs/\xs[i]?=some x,fun i H x H'=>H'=H/\∀xs,SqL K H a xs->xs[i]?=some x,fun i H=>∃xs,SqL K H a xs/\xs.length<=i⟩
noncomputable def Itt (K:Frag) (a:Addr):It:=
 ⟨fun i H=>∃xs x,SqT K H a xs/\xs[i]?=some x,fun i H x H'=>H'=H/\∀xs,SqT K H a xs->xs[i]?=some x,fun i H=>∃xs,SqT K H a xs/\xs.length<=i⟩
noncomputable def Itr (lo:Int) (n:Nat):It:=⟨fun i _=>i<n,fun i H x H'=>H'=H/\x=.int (lo+i),fun i _=>n<=i⟩
theorem zct {P:Program} {w:World} {K:Frag} {tg:Expr} (a it:Addr):Turn P w K tg (Itl K a) [it] it (fun i h=>h.IsListIter it a i) where
 mem:=by simp
 obj:=fun i h st b hb=>by
  have e:b=it:=by simpa using hb
  subst e
  obtain ⟨o,e,c,d⟩:=st
  exact ⟨o,e,fun v z=>by rw [d] at z;cases z⟩
 keep:=fun i h h' st k=>st.at fun o e=>k it (by simp) o e
 item:=by
  intro X hP hw hK hc i pins s σ H E I hf st hg
  subst hP hw hK
  obtain ⟨xs,x,hq,hx⟩:=hg
  obtain ⟨its,rv,p,hz⟩:=I.list hq
  obtain ⟨u,hu,ru⟩:=rv.get hx
  obtain ⟨f0,f1,f2,f3,f4,f5⟩:=hf it (by simp)
  refine wpAny_pyNext_list_item st p.isList (x:=u) (by simpa using hu) fun h' st' sb=>?_
  have I1:Inv X pins σ H { s with heap:=h' }:=I.turned (t':=s.toks) (fun b o hb e=>(sb.2 b hb).trans e) f0 f1 f3 f4 f5
  obtain ⟨o,e,c,d⟩:=id st'
  exact ⟨u,rfl,zjr (s:={ s with heap:=h' }) e c d (by decide) ⟨x,H,I1,ru,⟨rfl,fun ys hy=>by rw [I.list_inj hy hq];exact hx⟩,st',fun b hb=>(hf b hb).1⟩⟩
 done:=by
  intro X hP hw hK hc i pins s σ H E I hf st hg
  subst hP hw hK
  obtain ⟨xs,hq,hx⟩:=hg
  obtain ⟨its,rv,p,hz⟩:=I.list hq
  obtain ⟨f0,f1,f2,f3,f4,f5⟩:=hf it (by simp)
  have hl:=rv.length
  exact wpAny_pyNext_list_end (I.ok.hd hc) st p.isList (by simp;omega) fun h' eb=>⟨rfl,I.turned (t':=s.toks) (fun b o hb e=>eb b o hb e) f0 f1 f3 f4 f5⟩
 self:=fun _ _ _ _ _ st h=>wpAny_pyIter_listiter st h
theorem zbh {P:Program} {w:World} {K:Frag} {tg:Expr} (a it:Addr):Turn P w K tg (Itt K a) [it] it (fun i h=>h.IsTupleIter it a i) where
 mem:=by simp
 obj:=fun i h st b hb=>by
  have e:b=it:=by simpa using hb
  subst e
  obtain ⟨o,e,c,d⟩:=st
  exact ⟨o,e,fun v z=>by rw [d] at z;cases z⟩
 keep:=fun i h h' st k=>st.at fun o e=>k it (by simp) o e
 item:=by
  intro X hP hw hK hc i pins s σ H E I hf st hg
  subst hP hw hK
  obtain ⟨xs,x,hq,hx⟩:=hg
  obtain ⟨its,rv,p,hz⟩:=I.tuple hq
  obtain ⟨u,hu,ru⟩:=rv.get hx
  obtain ⟨f0,f1,f2,f3,f4,f5⟩:=hf it (by simp)
  refine wpAny_pyNext_tuple_item st (show s.heap.IsTuple a its.toArray from p) (x:=u) (by simpa using hu) fun h' st' sb=>?_
  have I1:Inv X pins σ H { s with heap:=h' }:=I.turned (t':=s.toks) (fun b o hb e=>(sb.2 b hb).trans e) f0 f1 f3 f4 f5
  obtain ⟨o,e,c,d⟩:=id st'
  exact ⟨u,rfl,zjr (s:={ s with heap:=h' }) e c d (by decide) ⟨x,H,I1,ru,⟨rfl,fun ys hy=>by rw [I.tuple_inj hy hq];exact hx⟩,st',fun b hb=>(hf b hb).1⟩⟩
 done:=by
  intro X hP hw hK hc i pins s σ H E I hf st hg
  subst hP hw hK
  obtain ⟨xs,hq,hx⟩:=hg
  obtain ⟨its,rv,p,hz⟩:=I.tuple hq
  obtain ⟨f0,f1,f2,f3,f4,f5⟩:=hf it (by simp)
  have hl:=rv.length
  exact wpAny_pyNext_tuple_end (I.ok.hd hc) st (show s.heap.IsTuple a its.toArray from p) (by simp;omega) fun h' eb=>⟨rfl,I.turned (t':=s.toks) (fun b o hb e=>eb b o hb e) f0 f1 f3 f4 f5⟩
 self:=fun _ _ _ _ _ st h=>wpAny_pyIter_tupleiter st h
theorem zbi {P:Program} {w:World} {K:Frag} {tg:Expr} (it:Addr) (lo:Int) (n:Nat):Turn P w K tg (Itr lo n) [it] it (fun i h=>IsRangeIter h it (lo+(i:Nat) * 1) ((n:Int) - (i:Nat)) 1) where
 mem:=by simp
 obj:=fun i h st b hb=>by
  have e:b=it:=by simpa using hb
  subst e
  exact ⟨_,st,fun v z=>by
   have z':Data.fields _=Data.cell v:=z
   cases z'⟩
 keep:=fun i h h' st k=>k it (by simp) _ st
 item:=by
  intro X hP hw hK hc i pins s σ H E I hf st hg
  subst hP hw hK
  obtain ⟨f0,f1,f2,f3,f4,f5⟩:=hf it (by simp)
  have W:=Walks.range (prog:=X.prog) (w:=X.w) (I.ok.hd hc) it lo 1 n
  refine W.item i s _ _ hg st fun v h' tk hv st' kk=>?_
  obtain ⟨t,rfl⟩:=hv
  have I1:Inv X pins σ H { s with heap:=h',toks:=tk }:=I.turned (fun b o hb e=>kk b o (by simpa using hb) e) f0 f1 f3 f4 f5
  refine ⟨_,rfl,zjr (s:={ s with heap:=h',toks:=tk }) (n:="range_iterator") st' rfl rfl (by decide) ⟨.int (lo+i),H,I1,⟨t,?_⟩,⟨rfl,rfl⟩,st',fun b hb=>(hf b hb).1⟩⟩
  rw [Int.mul_one]
 done:=by
  intro X hP hw hK hc i pins s σ H E I hf st hg
  subst hP hw hK
  obtain ⟨f0,f1,f2,f3,f4,f5⟩:=hf it (by simp)
  exact wpAny_pyNext_range_end (I.ok.hd hc) st (by have:n<=i:=hg;omega) fun h' eb=>⟨rfl,I.turned (t':=s.toks) (fun b o hb e=>eb b o hb e) f0 f1 f3 f4 f5⟩
 self:=fun _ _ _ _ _ st h=>wpAny_pyIter_rangeiter st h
section
variable {X:Cx} {tg:Expr}
theorem zgb {pins:List (Addr×Obj)} {σ:St} {H:Hp} {s:Shared} {R:It->Hp->Prop} {E:Value->Shared->Prop} {lo hi:Int} {t u v:Tok} {tk:Nat} (I:Inv X pins σ H s) (h1:-(2 ^ 62)<=lo) (h2:lo<2 ^ 62) (h3:-(2 ^ 62)<=hi) (h4:hi<2 ^ 62)
  (q:R (Itr lo (hi - lo).toNat) H):wpAny (model X.prog X.w) X.A (pyIter (.ref s.heap.objs.size)) (PIE X pins σ tg R) E { s with heap:=s.heap.push { cls:=.type "range",data:=.fields #[.int lo t,.int hi u,.int 1 v] },toks:=tk }:=by
 refine wpAny_pyIter_range (IsRange.new ..) (small_one h1 h2 h3 h4) ?_
 have I1:Inv X pins σ H { s with heap:=s.heap.push { cls:=.type "range",data:=.fields #[.int lo t,.int hi u,.int 1 v] },toks:=tk }:=I.kept fun b o e=>Heap.get?_push_of_some _ e
 refine ⟨(s.heap.push { cls:=.type "range",data:=.fields #[.int lo t,.int hi u,.int 1 v] }).objs.size,[(s.heap.push { cls:=.type "range",data:=.fields #[.int lo t,.int hi u,.int 1 v] }).objs.size],_,_,H,rfl,
  I1.kept (t':=tk) fun b o e=>Heap.get?_push_of_some _ e,zbi _ lo (hi - lo).toNat,?_,fun b hb=>?_,q⟩
 . have e1:lo+((0:Nat):Int) * 1=lo:=by simp
   have e2:(((hi - lo).toNat:Nat):Int) - ((0:Nat):Int)=Builtin.Range.rangeSize lo hi 1:=by rw [rangeSize_one];split<;>omega
   show IsRangeIter _ _ (lo+((0:Nat):Int) * 1) ((((hi - lo).toNat:Nat):Int) - ((0:Nat):Int)) 1
   rw [e1,e2]
   exact Heap.get?_push_size _ rfl
 . have e:b=(s.heap.push { cls:=.type "range",data:=.fields #[.int lo t,.int hi u,.int 1 v] }).objs.size:=by simpa using hb
   subst e
   exact I1.fpOk (Nat.le_refl _) (I1.hok.fresh (Nat.le_refl _))
noncomputable def zvj (wi:TI) (g:TG) (tb:TS):TS:=fun D σ H=>wi σ H fun J H1=>∃W:Nat->Nat->St->Hp->Prop,(∃m,W 0 m σ H1)/\∀i m σ H,W i m σ H ->
 (J.stop i H/\D.nx σ H)\/(J.go i H/\∃N:St->Hp->Prop,(∀σ' H',N σ' H'->∃m',m'<m/\W (i+1) m' σ' H')/\∀x H',J.yld i H x H'->g x σ H' fun σ2 H2=>tb { D with nx:=N,ct:=N,bk:=D.nx } σ2 H2)
noncomputable def z82 (fp:List Addr) (h:Heap):List (Addr×Obj):=fp.filterMap fun b=>(h.get? b).map fun o=>(b,o)
theorem z36 {fp:List Addr} {h:Heap} {b:Addr} {o:Obj} (hb:b∈fp) (e:h.get? b=some o):(b,o)∈z82 fp h:=List.mem_filterMap.mpr ⟨b,hb,by rw [e];rfl⟩
theorem zcu {fp:List Addr} {h:Heap} {p:Addr×Obj} (hp:p∈z82 fp h):p.1∈fp/\h.get? p.1=some p.2:=by
 obtain ⟨b,hb,e⟩:=List.mem_filterMap.mp hp
 cases q:h.get? b with
 | none=>rw [q] at e;cases e
 | some o=>
  rw [q] at e
  have e':(b,o)=p:=Option.some.inj e
  subst e'
  exact ⟨hb,q⟩
theorem Inv.pinned {pins:List (Addr×Obj)} {σ:St} {H:Hp} {s:Shared} {fp:List Addr} (I:Inv X pins σ H s) (hf:∀b∈fp,z81 X pins H b) (ho:∀b∈fp,∃o,s.heap.get? b=some o/\∀v,o.data≠.cell v):Inv X (pins++z82 fp s.heap) σ H s:=
 I.pins_of fun p hp=>(List.mem_append.mp hp).elim (fun z=>I.pin p (List.mem_append_right _ z)) fun z=>by
  obtain ⟨hb,e⟩:=zcu z
  obtain ⟨f0,f1,f2,_⟩:=hf p.1 hb
  obtain ⟨o,e',d⟩:=ho p.1 hb
  rw [e] at e';cases e'
  exact ⟨e,f0,f1,f2,d⟩
theorem Inv.unpinned {pins pl:List (Addr×Obj)} {σ:St} {H:Hp} {s:Shared} (I:Inv X (pins++pl) σ H s):Inv X pins σ H s:=I.pins_of fun p hp=>I.pin p (List.mem_append_right _ (List.mem_append_left _ hp))
theorem zmq {iter:Expr} {body:List Stmt} {wi:TI} {g:TG} {tb:TS} {pos:Pos} (hp:PassesOwn (model X.prog X.w) X.A X.env X.xe) (hc:X.calm=true) (hi:PI X tg iter wi) (hg:PG X tg g) (hb:PSs X body tb)
  (hs:∀x,foldedSetIterable iter X.env x=pure x:=by intro _;rfl):PS X (.For tg iter body [] pos) (zvj wi g tb):=by
 intro pins s σ H D I h
 refine wpAny_For (thn (hi pins s σ H _ I h) fun v s1 h1=>thn h1 fun itv s2 h2=>?_) hs
 obtain ⟨it,fp,tn,J,H2,e,I2,T,st2,f2,W,⟨m0,w0⟩,turn⟩:=h2
 subst e
 have stat:∀{H':Hp},(∀b∈fp,H' b=none)->∀b∈fp,z81 X pins H' b:=fun hn b hb=>⟨hn b hb,(f2 b hb).2⟩
 refine codeAny_forLoop_any (fun n s'=>∃i σ' H',Inv X pins σ' H' s'/\tn i s'.heap/\(∀b∈fp,H' b=none)/\W i n σ' H') ?_ m0 ⟨0,σ,H2,I2,st2,fun b hb=>(f2 b hb).1,w0⟩
 rintro n s3 ⟨i,σ3,H3,I3,st3,fr3,w3⟩
 rcases turn i n σ3 H3 w3 with ⟨stop,qn⟩ | ⟨go,N,hN,step⟩
 . refine wpAny_passesOwn hp (thn (T.done X rfl rfl rfl hc i pins s3 σ3 H3 X.xe I3 (stat fr3) st3 stop) fun r s4 ⟨hr,I4⟩=>?_)
   subst hr
   exact wpAny_execs_nil ⟨σ3,H3,I4,qn⟩
 . refine wpAny_passesOwn hp (thn (T.item X rfl rfl rfl hc i pins s3 σ3 H3 X.xe I3 (stat fr3) st3 go) fun r s4 ⟨u,hr,h4⟩=>?_)
   subst hr
   refine wpAny_passesOwn hp (thn h4 fun _ s5 ⟨x,H5,I5,r5,y5,st5,fr5⟩=>?_)
   have I5':=I5.pinned (stat fr5) (T.obj _ _ st5)
   refine wpAny_passesOwn hp (thn (hg _ s5 σ3 H5 x u _ I5' r5 (step x H5 y5)) fun _ s6 ⟨σ6,H6,I6,q6⟩=>?_)
   refine wpAny_passesOwn hp (thn (hb _ s6 σ6 H6 _ I6 q6) fun f s7 q7=>?_)
   have again:∀{σ7:St} {H7:Hp},Inv X (pins++z82 fp s5.heap) σ7 H7 s7->N σ7 H7->∃m,m<n/\∃i σ' H',Inv X pins σ' H' s7/\tn i s7.heap/\(∀b∈fp,H' b=none)/\W i m σ' H':=fun {σ7 H7} I7 n7=>by
    obtain ⟨m',hm,w7⟩:=hN σ7 H7 n7
    refine ⟨m',hm,i+1,σ7,H7,I7.unpinned,T.keep _ _ _ st5 fun b hb o e=>(I7.pin (b,o) (List.mem_append_right _ (List.mem_append_right _ (z36 hb e)))).1,fun b hb=>?_,w7⟩
    obtain ⟨o,e,d⟩:=T.obj _ _ st5 b hb
    exact (I7.pin (b,o) (List.mem_append_right _ (List.mem_append_right _ (z36 hb e)))).2.1
   cases f with
   | next=>obtain ⟨σ7,H7,I7,n7⟩:=q7;exact again I7 n7
   | cont=>obtain ⟨σ7,H7,I7,n7⟩:=q7;exact again I7 n7
   | brk=>obtain ⟨σ7,H7,I7,q7⟩:=q7;exact ⟨σ7,H7,I7.unpinned,q7⟩
   | ret v=>obtain ⟨x7,σ7,H7,I7,r7,q7⟩:=q7;exact ⟨x7,σ7,H7,I7.unpinned,r7,q7⟩
end
abbrev R2:=V->V->Hp->VK->Prop
def OpR (X:Cx) (f:Value->Value->Sem Value) (r:R2):Prop:=
 ∀(pins:List (Addr×Obj)) (s:Shared) (σ:St) (H:Hp) (x y:V) (v u:Value) (Q:VK),Inv X pins σ H s->RelV x v->RelV y u->r x y H Q ->
  wpAny (model X.prog X.w) X.A (f v u) (EP X pins σ Q) X.xe s
def UnR (X:Cx) (f:Value->Sem Value) (r:V->Hp->VK->Prop):Prop:=
 ∀(pins:List (Addr×Obj)) (s:Shared) (σ:St) (H:Hp) (x:V) (v:Value) (Q:VK),Inv X pins σ H s->RelV x v->r x H Q ->
  wpAny (model X.prog X.w) X.A (f v) (EP X pins σ Q) X.xe s
def CallR (X:Cx) (f:Value) (r:List V->Hp->VK->Prop):Prop:=
 ∀(pins:List (Addr×Obj)) (s:Shared) (σ:St) (H:Hp) (xs:List V) (us:List Value) (Q:VK),Inv X pins σ H s->Vals xs us->r xs H Q ->
  wpAny (model X.prog X.w) X.A (call f us) (EP X pins σ Q) X.xe s
def zvk (X:Cx) (r:V->Hp->(Bool->Hp->Prop)->Prop):Prop:=
 ∀(pins:List (Addr×Obj)) (s:Shared) (σ:St) (H:Hp) (x:V) (v:Value) (Q:Bool->Hp->Prop),Inv X pins σ H s->RelV x v->r x H Q ->
  wpAny (model X.prog X.w) X.A (truthy v) (TP X pins σ Q) X.xe s
noncomputable def tOp (r:R2) (ta tb:TE):TE:=fun σ H Q=>ta σ H fun x H1=>tb σ H1 fun y H2=>r x y H2 Q
noncomputable def tUn (r:V->Hp->VK->Prop) (ta:TE):TE:=fun σ H Q=>ta σ H fun x H1=>r x H1 Q
noncomputable def rI (C:Int->Int->Prop) (g:Int->Int->V):R2:=fun x y H Q=>∃i j,x=.int i/\y=.int j/\C i j/\Q (g i j) H
noncomputable def rI0 (g:Int->Int->V):R2:=fun x y H Q=>∃i j,x=.int i/\y=.int j/\Q (g i j) H
def rU (g:Int->V):V->Hp->VK->Prop:=fun x H Q=>∃i,x=.int i/\Q (g i) H
section
variable {X:Cx} {a b c:Expr} {ta tb tc:TE} {pos:Pos}
theorem zrq (ha:PE X a ta) (hb:PE X b tb) {pins:List (Addr×Obj)} {s:Shared} {σ:St} {H:Hp} {R:V->V->Hp->Prop} (I:Inv X pins σ H s)
  (h:ta σ H fun x H1=>tb σ H1 fun y H2=>R x y H2) {Q:Value->Shared->Prop} {f:Value->Value->Sem Value}
  (hf:∀v u s2 x y H2,Inv X pins σ H2 s2->RelV x v->RelV y u->R x y H2->wpAny (model X.prog X.w) X.A (f v u) Q X.xe s2) :
  wpAny (model X.prog X.w) X.A (eval a X.env) (fun v s₁=>wpAny (model X.prog X.w) X.A (eval b X.env) (fun u s₂=>wpAny (model X.prog X.w) X.A (f v u) Q X.xe s₂) X.xe s₁) X.xe s:=by
 refine thn (ha pins s σ H _ I h) fun v s1 ⟨x,H1,I1,r1,q1⟩=>?_
 refine thn (hb pins s1 σ H1 _ I1 q1) fun u s2 ⟨y,H2,I2,r2,q2⟩=>?_
 exact hf v u s2 x y H2 I2 r1 r2 q2
theorem zmr {op:Operator} {r:R2} (ho:OpR X (binaryOp op) r) (ha:PE X a ta) (hb:PE X b tb):PE X (.BinOp a op b pos) (tOp r ta tb):=by
 intro pins s σ H Q I h
 exact wpAny_BinOp (zrq ha hb I h fun v u s2 x y H2 I2 rx ry q=>ho pins s2 σ H2 x y v u Q I2 rx ry q)
theorem zrr {op:UnaryOp} {r:V->Hp->VK->Prop} (ho:UnR X (unaryOp op) r) (ha:PE X a ta):PE X (.UnaryOp op a pos) (tUn r ta):=by
 intro pins s σ H Q I h
 exact UnaryOp_ (thn (ha pins s σ H _ I h) fun v s1 ⟨x,H1,I1,r1,q1⟩=>ho pins s1 σ H1 x v Q I1 r1 q1)
theorem opI {f:Value->Value->Sem Value} {C:Int->Int->Prop} {g:Int->Int->Int}
  (rule:∀(i j:Int) (t u:Tok) (s:Shared) (Q:Value->Shared->Prop) (E:Value->Shared->Prop),C i j->Q (.int (g i j) s.toks) { s with toks:=s.toks+1 }->wpAny (model X.prog X.w) X.A (f (.int i t) (.int j u)) Q E s) :
  OpR X f (rI C fun i j=>.int (g i j)):=by
 intro pins s σ H x y v u Q I rx ry h
 obtain ⟨i,j,rfl,rfl,hc,q⟩:=h
 obtain ⟨t,rfl⟩:=rx
 obtain ⟨t',rfl⟩:=ry
 exact rule i j t t' s _ _ hc ⟨.int (g i j),H,I.tok _,⟨_,rfl⟩,q⟩
theorem zuq {f:Value->Value->Sem Value} {g:Int->Int->Int}
  (rule:∀(i j:Int) (t u:Tok) (s:Shared) (Q:Value->Shared->Prop) (E:Value->Shared->Prop),Q (.int (g i j) s.toks) { s with toks:=s.toks+1 }->wpAny (model X.prog X.w) X.A (f (.int i t) (.int j u)) Q E s) :
  OpR X f (rI0 fun i j=>.int (g i j)):=by
 intro pins s σ H x y v u Q I rx ry h
 obtain ⟨i,j,rfl,rfl,q⟩:=h
 obtain ⟨t,rfl⟩:=rx
 obtain ⟨t',rfl⟩:=ry
 exact rule i j t t' s _ _ ⟨.int (g i j),H,I.tok _,⟨_,rfl⟩,q⟩
theorem zvl {f:Value->Value->Sem Value} {g:Int->Int->Bool}
  (rule:∀(i j:Int) (t u:Tok) (s:Shared) (Q:Value->Shared->Prop) (E:Value->Shared->Prop),Q (.bool (g i j)) s->wpAny (model X.prog X.w) X.A (f (.int i t) (.int j u)) Q E s) :
  OpR X f (rI0 fun i j=>.bl (g i j)):=by
 intro pins s σ H x y v u Q I rx ry h
 obtain ⟨i,j,rfl,rfl,q⟩:=h
 obtain ⟨t,rfl⟩:=rx
 obtain ⟨t',rfl⟩:=ry
 exact rule i j t t' s _ _ ⟨.bl (g i j),H,I,rfl,q⟩
def zjs (i j:Int):Prop:=0<j/\j<1073741824
def zjt (i j:Int):Prop:=0<=j/\j<=1000000/\i.natAbs<2 ^ 64
def CMul (i j:Int):Prop:=(-(2 ^ 64)<i/\i<2 ^ 64)\/(-(2 ^ 64)<j/\j<2 ^ 64)
theorem CMul.ok {i j:Int} (h:CMul i j):IntMulOk i j:=by
 rcases h with ⟨h1,h2⟩ | ⟨h1,h2⟩
 . exact .of_left (intBits_le_64 h1 h2)
 . exact .of_right (intBits_le_64 h1 h2)
theorem op_add:OpR X (binaryOp .Add) (rI0 fun i j=>.int (i+j)):=zuq fun _ _ _ _ _ _ _ q=>add_int q
theorem op_sub:OpR X (binaryOp .Sub) (rI0 fun i j=>.int (i - j)):=zuq fun _ _ _ _ _ _ _ q=>sub_int q
theorem op_mul:OpR X (binaryOp .Mult) (rI CMul fun i j=>.int (i * j)):=opI fun _ _ _ _ _ _ _ hc q=>mul_int q hc.ok
theorem op_fdiv:OpR X (binaryOp .FloorDiv) (rI zjs fun i j=>.int (i / j)):=opI fun i j _ _ _ _ _ hc q=>by
 have h1:(0:Int)<j:=hc.1
 have h2:j<1073741824:=hc.2
 exact floordiv_int (by omega) (by rw [Int.fdiv_eq_ediv_of_nonneg i (by omega)];exact q) (.inl (PyProof.noPylong_small (by omega)))
theorem op_mod:OpR X (binaryOp .Mod) (rI (fun _ j=>0<j) fun i j=>.int (i % j)):=opI fun i j _ _ _ _ _ hc q=>by
 have h1:(0:Int)<j:=hc
 exact mod_int' (by omega) (by rw [Int.fmod_eq_emod_of_nonneg i (by omega)];exact q)
theorem op_pow:OpR X (binaryOp .Pow) (rI zjt fun i j=>.int (i ^ j.toNat)):=opI fun _ _ _ _ _ _ _ hc q=>pow_int_small hc.1 hc.2.1 hc.2.2 q
theorem unI {f:Value->Sem Value} {g:Int->Int}
  (rule:∀(i:Int) (t:Tok) (s:Shared) (Q:Value->Shared->Prop) (E:Value->Shared->Prop),Q (.int (g i) s.toks) { s with toks:=s.toks+1 }->wpAny (model X.prog X.w) X.A (f (.int i t)) Q E s) :
  UnR X f (rU fun i=>.int (g i)):=by
 intro pins s σ H x v Q I rx h
 obtain ⟨i,rfl,q⟩:=h
 obtain ⟨t,rfl⟩:=rx
 exact rule i t s _ _ ⟨.int (g i),H,I.tok _,⟨_,rfl⟩,q⟩
theorem un_neg:UnR X (unaryOp .USub) (rU fun i=>.int (-i)):=unI fun _ _ _ _ _ q=>neg_int q
end
section
variable {X:Cx} {a b c:Expr} {ta tb tc:TE} {pos:Pos}
theorem op_gt:OpR X (compareOp .Gt) (rI0 fun i j=>.bl (decide (j<i))):=zvl fun _ _ _ _ _ _ _ q=>gt_int q
theorem z1p (b:Expr) {op:CmpOp} (h:op≠.In:=by decide) (h2:op≠.NotIn:=by decide):behindInMarks op b=false:=by
 have e1:(op==CmpOp.In)=false:=by cases op<;>first | rfl | exact absurd rfl h
 have e2:(op==CmpOp.NotIn)=false:=by cases op<;>first | rfl | exact absurd rfl h2
 cases b<;>simp [behindInMarks,e1,e2]
theorem zju {op:CmpOp} {r:R2} (ho:OpR X (compareOp op) r) (ha:PE X a ta) (hb:PE X b tb) (hm:behindInMarks op b=false):PE X (.Compare a [op] [b] pos) (tOp r ta tb):=by
 intro pins s σ H Q I h
 exact wpAny_Compare1 (zrq ha hb I h fun v u s2 x y H2 I2 rx ry q=>ho pins s2 σ H2 x y v u Q I2 rx ry q) hm
def zur (K:Frag) (x:V) (H:Hp) (k:Bool):Prop:=
 match x with
 | .non=>k=false
 | .bl b=>k=b
 | .int i=>k=(i != 0)
 | .str y=>y.length<=sizeLine/\k=((y.length:Int) != 0)
 | .byt y=>y.size<=sizeLine/\k=((y.size:Int) != 0)
 | .ref p=>(∃xs,SqL K H p xs/\k=!xs.isEmpty)\/(∃xs,SqT K H p xs/\k=!xs.isEmpty)\/∃kvs,H p=some (.dK kvs)/\k=!kvs.isEmpty
 | _=>False
theorem zbj {κ:Type} {kvs:List (κ×V)} {vs:List (κ×Value)} (r:KV kvs vs):(!vs.isEmpty)=!kvs.isEmpty:=by
 cases r<;>rfl
theorem z6d {xs:List V} {its:List Value} (r:Vals xs its):(!its.toArray.isEmpty)=!xs.isEmpty:=by
 cases r<;>simp
theorem z6e:(sizeLine:Nat)<2 ^ 63:=by rw [sizeLine_eq];decide
theorem zi2:zvk X (fun x H Q=>∃k,zur X.K x H k/\Q k H):=by
 intro pins s σ H x v Q I rx h
 obtain ⟨k,e,q⟩:=h
 have hl:=z6e
 have hs:sizeLine=16777216:=sizeLine_eq
 cases x with
 | non=>
  cases rx
  have e':k=false:=e
  subst e'
  exact truthy_none ⟨H,I,q⟩
 | bl b=>
  cases rx
  have e':k=b:=e
  subst e'
  exact wpAny_truthy_bool ⟨H,I,q⟩
 | int i=>
  obtain ⟨t,rfl⟩:=rx
  have e':k=(i != 0):=e
  subst e'
  exact PySem.P.truthy_int ⟨H,I,q⟩
 | str y=>
  obtain ⟨t,rfl⟩:=rx
  obtain ⟨hy,e'⟩:y.length<=sizeLine/\k=((y.length:Int) != 0):=e
  subst e'
  exact PySem.P.truthy_str (by omega) ⟨H,I.tok _,q⟩
 | byt y=>
  obtain ⟨t,rfl⟩:=rx
  obtain ⟨hy,e'⟩:y.size<=sizeLine/\k=((y.size:Int) != 0):=e
  subst e'
  exact PySem.W.truthy_bytes (by omega) ⟨H,I.tok _,q⟩
 | ref p=>
  cases rx
  have e':(∃xs,SqL X.K H p xs/\k=!xs.isEmpty)\/(∃xs,SqT X.K H p xs/\k=!xs.isEmpty)\/∃kvs,H p=some (.dK kvs)/\k=!kvs.isEmpty:=e
  rcases e' with ⟨xs,hx,e'⟩ | ⟨xs,hx,e'⟩ | ⟨kvs,hx,e'⟩
  . subst e'
    obtain ⟨its,r,pl,hz⟩:=I.list hx
    have hlen:=r.length
    exact wpAny_truthy_list pl.isList (by simp only [List.size_toArray];omega) ⟨H,I.tok _,by rw [z6d r];exact q⟩
  . subst e'
    obtain ⟨its,r,pl,hz⟩:=I.tuple hx
    have hlen:=r.length
    exact truthy_tuple pl (by simp only [List.size_toArray];omega) ⟨H,I.tok _,by rw [z6d r];exact q⟩
  . subst e'
    obtain ⟨hz,hS,vs,r,m⟩:kvs.length<=sizeLine/\(p==sysModules)=false/\∃vs,KV kvs vs/\s.heap.DictOf (z24 X.prog X.w) p vs:=I.hok p _ hx
    have hlen:kvs.length=vs.length:=Paired.length r
    exact wpAny_truthy_dict hS m (by omega) ⟨H,I.tok _,by rw [zbj r];exact q⟩
 | _=>exact (show False from e).elim
theorem z48 {x:V} {us:List Value} (r:Vals [x] us):∃u,us=[u]/\RelV x u:=by
 cases r with
 | cons r1 r2=>cases r2;exact ⟨_,rfl,r1⟩
theorem zms {x y:V} {us:List Value} (r:Vals [x,y] us):∃u w',us=[u,w']/\RelV x u/\RelV y w':=by
 cases r with
 | cons r1 r2=>
  cases r2 with
  | cons r3 r4=>cases r4;exact ⟨_,_,rfl,r1,r3⟩
theorem call_int1:CallR X (.type "int") (fun xs H Q=>(∃i,xs=[.int i]/\Q (.int i) H)\/∃k,xs=[.bl k]/\Q (.int (if k then 1 else 0)) H):=by
 intro pins s σ H xs us Q I r h
 rcases h with ⟨i,rfl,q⟩ | ⟨k,rfl,q⟩
 . obtain ⟨u,rfl,t,rfl⟩:=z48 r
   exact call_int_int ⟨.int i,H,I,⟨_,rfl⟩,q⟩
 . obtain ⟨u,rfl,r1⟩:=z48 r
   cases r1
   exact call_int_bool ⟨.int (if k then 1 else 0),H,I.tok _,⟨_,rfl⟩,q⟩
end
structure ObjM (h:Heap) (x dx C:Addr) (mA:Str->Option Value):Prop where
 obj:h.get? x=some (PySem.W.instObj C dx)
 ns:h.Ns1 dx mA
 ne:dx≠x
theorem zcv {h:Heap} {dx:Addr} {mA:Str->Option Value} (n:h.Ns1 dx mA):∃od,h.get? dx=some od/\∀name,PySem.W.lookIn name od=some (mA name):=by
 obtain ⟨o,es,ep,ho,hd,hk,_,hm⟩:=n
 refine ⟨o,ho,fun name=>?_⟩
 have e:=hm name
 unfold nsFind findBy at e
 rw [<-Array.find?_toList] at e
 unfold PySem.W.lookIn
 rw [hd]
 dsimp only
 split
 . rename_i y q
   rw [q] at e
   exact congrArg some e
 . rename_i q
   rw [q] at e
   have a:es.toList.any (·.refKey)=false:=by
    rw [List.any_eq_false]
    intro y hy
    obtain ⟨z,t,hkey⟩:=hk y (Array.mem_toList_iff.mp hy)
    simp [DictEntry.refKey,hkey]
   have a':¬es.toList.any (·.refKey)=true:=by rw [a];exact Bool.false_ne_true
   rw [if_neg a']
   exact congrArg some e
theorem ObjM.look {h:Heap} {x dx C:Addr} {mA:Str->Option Value} (I:ObjM h x dx C mA):∃od,PySem.W.InstAt h x (PySem.W.instObj C dx) C (some od)/\∀name,PySem.W.lookIn name od=some (mA name):=
 let ⟨od,ho,hl⟩:=zcv I.ns
 ⟨od,⟨I.obj,rfl,rfl,ho⟩,hl⟩
theorem RelO.some_of {v:V} {o:Option Value} (r:RelO (some v) o):∃u,o=some u/\RelV v u:=by
 cases o with
 | none=>exact (show False from r).elim
 | some u=>exact ⟨u,rfl,r⟩
section
variable {P:Program} {w:World} {H H':Hp} {h h':Heap} {a C dx:Addr} {fs fs':List (Str×V)}
theorem zjv (hok:HOk P w H h) (e:H a=some (.ins C dx fs)):∃mA,ObjM h a dx C mA/\(∀f,RelO (fs.lookup f) (mA f))/\PySem.Within mA (fs.map (·.1))/\fs.length<=1000/\H dx=some (.own a):=by
 obtain ⟨d,z,ne,ob,mA,n,r,q⟩:=(show ObjOk P w H h a (.ins C dx fs) from hok a _ e)
 exact ⟨mA,⟨ob,n,ne⟩,r,q,z,d⟩
end
structure Cls (K:Frag) (C:Addr):Prop where
 pg:PySem.W.plainGet K C Str.empty=true
 hd:PySem.W.hasDictIn K C=true
 po:PySem.W.plainOver K C=true
 sa:PySem.W.findIn K (.ref C) "__setattr__"=some (some (.builtin "object.__setattr__"))
theorem Cls.get {K:Frag} {C:Addr} (c:Cls K C) (f:Str):PySem.W.plainGet K C f=true:=c.pg
section
variable {X:Cx} {pins:List (Addr×Obj)} {σ:St} {H:Hp} {s:Shared} {A:Around} {E:Value->Shared->Prop} {Q:Value->Shared->Prop} {c:Value} {b:Bool}
inductive TyOf (K:Frag) (H:Hp):V->Value->Prop where
 | non:TyOf K H .non (.type "NoneType")
 | bl (x:Bool):TyOf K H (.bl x) (.type "bool")
 | int (i:Int):TyOf K H (.int i) (.type "int")
 | str (x:Str):TyOf K H (.str x) (.type "str")
 | flt (x:UInt64):TyOf K H (.flt x) (.type "float")
 | lst {a:Addr} {xs:List V} (e:H a=some (.lst xs)):TyOf K H (.ref a) (.type "list")
 | frz {a:Addr} {o:Obj} {xs:List V} (e:H a=some (.frz o (.lst xs))):TyOf K H (.ref a) (.type "list")
 | tup {a:Addr} {xs:List V} (e:H a=some (.tup xs)):TyOf K H (.ref a) (.type "tuple")
 | dK {a:Addr} {kvs:List (Key×V)} (e:H a=some (.dK kvs)):TyOf K H (.ref a) (.type "dict")
 | dT {a:Addr} {kvs:List (List Key×V)} (e:H a=some (.dT kvs)):TyOf K H (.ref a) (.type "dict")
 | ins {a C dx:Addr} {fs:List (Str×V)} (e:H a=some (.ins C dx fs)) (cl:Cls K C) (ha:PySem.W.findIn K (.ref C) "__class__"=some (some (.builtin "object.__class__")))
  (hn:PySem.W.specialIn K (.builtin "object.__class__") "__get__"=some (some (.builtin "getset_descriptor.__get__"))) (htk:PySem.W.takesIn K (.builtin "object.__class__")=some true)
  (hm:PySem.W.mroIn K C (.type "object")=some true):TyOf K H (.ref a) (.ref C)
theorem z1g {x:V} {u t:Value} (I:Inv X pins σ H s) (rx:RelV x u) (ty:TyOf X.K H x t) (e:PySem.W.kitOne X.K t c=some b) (h:∀tk,Q (.bool b) { s with toks:=tk }) :
  wpAny (model X.prog X.w) A (call (.builtin "isinstance") [u,c]) Q E s:=by
 cases ty with
 | non=>cases (show u=Value.none from rx);exact kia_one PySem.W.kitx_none I.kIn True.intro e (fun z=>nomatch z) h
 | bl y=>cases (show u=Value.bool y from rx);exact kia_one PySem.W.kitx_bool I.kIn True.intro e (fun z=>nomatch z) h
 | int i=>obtain ⟨t,q⟩:=(show ∃t,u=Value.int i t from rx);cases q;exact kia_one PySem.W.kitx_int I.kIn True.intro e (fun z=>nomatch z) h
 | str y=>obtain ⟨t,q⟩:=(show ∃t,u=Value.str y t from rx);cases q;exact kia_one PySem.W.kitx_str I.kIn True.intro e (fun z=>nomatch z) h
 | flt y=>obtain ⟨t,q⟩:=(show ∃t,u=Value.float y t from rx);cases q;exact kia_one PySem.W.kitx_float I.kIn True.intro e (fun z=>nomatch z) h
 | @lst a xs ea=>
  cases (show u=Value.ref a from rx)
  obtain ⟨_,_,n,_,h1⟩:=(show ObjOk X.prog X.w H s.heap a (.lst xs) from I.hok a _ ea)
  exact kia_one PySem.W.kitx_list I.kIn ⟨_,h1,rfl⟩ e (fun z=>nomatch z) h
 | @frz a ob xs ea=>
  cases (show u=Value.ref a from rx)
  obtain ⟨_,_,_,n,_,h1⟩:=(show ObjOk X.prog X.w H s.heap a (.frz ob (.lst xs)) from I.hok a _ ea)
  exact kia_one PySem.W.kitx_list I.kIn ⟨_,h1,rfl⟩ e (fun z=>nomatch z) h
 | @tup a xs ea=>
  cases (show u=Value.ref a from rx)
  obtain ⟨_,_,_,p⟩:=(show ObjOk X.prog X.w H s.heap a (.tup xs) from I.hok a _ ea)
  obtain ⟨o,h1,h2,_⟩:=p
  exact kia_one PySem.W.kitx_tuple I.kIn ⟨o,h1,h2⟩ e (fun z=>nomatch z) h
 | @dK a kvs ea=>
  cases (show u=Value.ref a from rx)
  obtain ⟨_,_,vs,_,p⟩:=(show ObjOk X.prog X.w H s.heap a (.dK kvs) from I.hok a _ ea)
  obtain ⟨o,es,ep,h1,h2,_⟩:=p
  exact kia_one PySem.W.kitx_dict I.kIn ⟨o,h1,h2.1⟩ e (fun z=>nomatch z) h
 | @dT a kvs ea=>
  cases (show u=Value.ref a from rx)
  obtain ⟨_,_,xs,_,o,es,ep,h1,h2,_⟩:=(show ObjOk X.prog X.w H s.heap a (.dT kvs) from I.hok a _ ea)
  exact kia_one PySem.W.kitx_dict I.kIn ⟨o,h1,h2.1⟩ e (fun z=>nomatch z) h
 | @ins a C dx fs ea cl ha hn htk hm=>
  cases (show u=Value.ref a from rx)
  obtain ⟨mA,O,_⟩:=zjv I.hok ea
  obtain ⟨od,J,_⟩:=O.look
  exact kia_one (PySem.W.kitx_own (cl.get _) cl.hd ha hn htk hm) I.kIn J e (fun z=>nomatch z) h
end
structure Room (k:Nat) (A:Around):Prop where
 hd:A.handled=none
 dp:A.depth+3 * k+5<recursionLimit
 un:A.units+16 * k+200<cLine
theorem Room.mono {j k:Nat} {A:Around} (r:Room k A) (h:j<=k):Room j A:=⟨r.hd,by have:=r.dp;omega,by have:=r.un;omega⟩
theorem Room.deeper {k:Nat} {A:Around} (r:Room (k+1) A) (env:Env):Room k (A.deeper env):=
 ⟨r.hd,by have:=r.dp;show A.depth+1+3 * k+5<_;omega,by have:=r.un;show A.units+3+16 * k+200<_;omega⟩
theorem Room.depth {k:Nat} {A:Around} (r:Room k A):A.depth<recursionLimit:=by have:=r.dp;omega
theorem Room.units {k:Nat} {A:Around} (r:Room k A):A.units+64<cLine:=by have:=r.un;omega
noncomputable def zcw:TA:=fun _ H Q=>Q [] H
noncomputable def z3o (ta:TE) (tr:TA):TA:=fun σ H Q=>ta σ H fun x H1=>tr σ H1 fun xs H2=>Q (x::xs) H2
section
variable {X:Cx} {e:Expr} {es:List Expr} {te:TE} {t:TA} {pos:Pos}
theorem pa_nil:PA X [] zcw:=fun _ _ _ _ H Q I h=>Calls.spliced_nil ⟨[],H,I,.nil,h⟩
theorem z2x (ha:PE X e te) (hr:PA X es t) (hs:starEach (e::es) X.env=(false,eval e X.env)::starEach es X.env:=by rfl):PA X (e::es) (z3o te t):=by
 intro pos pins s σ H Q I h
 rw [hs]
 show wpAny _ _ (spliced ((false,eval e X.env)::backTo pos (starEach es X.env))) _ _ s
 refine Calls.spliced_cons (thn (ha pins s σ H _ I h) fun u s1 ⟨x,H1,I1,r1,q1⟩=>?_)
 exact thn (hr pos pins s1 σ H1 _ I1 q1) fun us s2 ⟨xs,H2,I2,r2,q2⟩=>⟨x::xs,H2,I2,.cons r1 r2,q2⟩
noncomputable def zus (t:TA):TE:=fun σ H Q=>t σ H fun xs H1=>xs.length<=sizeLine/\∀p,H1 p=none->Q (.ref p) (upd H1 p (.tup xs))
noncomputable def zm8 (t:TA):TE:=fun σ H Q=>t σ H fun xs H1=>xs.length<=sizeLine/\∀p,H1 p=none->Q (.ref p) (upd H1 p (.lst xs))
theorem zmt {x1} (h:PA X es t):PE X (.Tuple es x1 pos) (zus t):=by
 intro pins s σ H Q I hq
 refine wpAny_Tuple_spliced (thn (h pos pins s σ H _ I hq) fun us s1 ⟨xs,H1,I1,r,z,q⟩=>⟨by rw [<-r.length];exact z,?_⟩)
 have hf:H1 s1.heap.objs.size=none:=I1.hok.fresh (Nat.le_refl _)
 refine ⟨.ref s1.heap.objs.size,upd H1 s1.heap.objs.size (.tup xs),I1.laid (t':=s1.toks) (fun b u e=>Heap.get?_push_of_some _ e) (Nat.le_refl _) ?_,rfl,q _ hf⟩
 exact ⟨z,us,r,⟨_,Heap.get?_push_size _ rfl,rfl,_,rfl⟩⟩
theorem zcx (h:PA X es t):PE X (.List es pos) (zm8 t):=by
 intro pins s σ H Q I hq
 refine wpAny_List_spliced (thn (h pos pins s σ H _ I hq) fun us s1 ⟨xs,H1,I1,r,z,q⟩=>⟨by rw [<-r.length];exact z,?_⟩)
 have hf:H1 s1.heap.objs.size=none:=I1.hok.fresh (Nat.le_refl _)
 refine ⟨.ref s1.heap.objs.size,upd H1 s1.heap.objs.size (.lst xs),I1.laid (t':=s1.toks) (fun b u e=>Heap.get?_push_of_some _ e) (Nat.le_refl _) ?_,rfl,q _ hf⟩
 exact ⟨z,us,0,r,Heap.get?_push_size _ rfl⟩
end
abbrev Sp:=List V->Hp->VK->XK->Prop
abbrev CXT:=List Env->Hp->Shared->XK->Value->Shared->Prop
structure Env0 (P:Program) (w:World) (K:Frag) (mg:Str->Option Value) (base:Heap) (A:Around) (outer:List Env) (s:Shared) (H:Hp):Prop where
 frames:A.frames=some outer
 mod:Mod K mg base
 bs:∀b o,base.get? b=some o->s.heap.get? b=some o/\H b=none
 bsz:base.objs.size<=s.heap.objs.size
 funs:s.heap.FunFrames base outer
 frf:∀b∈frs outer,H b=none
 hok:HOk P w H s.heap
 bare:AllBare s.gens
def CE (outer:List Env) (P:Program) (w:World) (H:Hp) (s:Shared) (Q:VK) (u:Value) (s':Shared):Prop:=
 ∃v H',s'.os=s.os/\AllBare s'.gens/\Un (frs outer) [] H H' s.heap s'.heap/\HOk P w H' s'.heap/\RelV v u/\Q v H'
def CR (CX:CXT) (outer:List Env) (P:Program) (w:World) (H:Hp) (s:Shared) (Q:VK) (E:XK) (r:Result) (s':Shared):Prop:=
 match r with
 | .ok (.ret u)=>CE outer P w H s Q u s'
 | .ok _=>False
 | .error e=>CX outer H s E e s'
structure FnOk (P:Program) (w:World) (K:Frag) (mg:Str->Option Value) (base:Heap) (CX:CXT) (k:Nat) (f:Addr) (fd:FuncData) (ps:List Str) (sp:Sp):Prop where
 len:∀vs H Q E,sp vs H Q E->vs.length=ps.length
 run:∀(A:Around) (outer:List Env) (s:Shared) (H:Hp) (args:Args) (us:List Value) (vs:List V) (Q:VK) (E:XK),Room k A->Env0 P w K mg base A outer s H->BindsTo s fd args (ps.zip us)->Vals vs us->sp vs H Q E ->
  codeAny (model P w) A (.call (.ref f) args) (CR CX outer P w H s Q E) s
theorem FnOk.imp {P:Program} {w:World} {K:Frag} {mg:Str->Option Value} {base:Heap} {CX:CXT} {k:Nat} {f:Addr} {fd:FuncData} {ps:List Str} {sp sp':Sp} (F:FnOk P w K mg base CX k f fd ps sp)
  (h:∀vs H Q E,sp' vs H Q E->sp vs H Q E):FnOk P w K mg base CX k f fd ps sp':=
 ⟨fun vs H Q E q=>F.len vs H Q E (h _ _ _ _ q),fun A outer s H args us vs Q E hr he hb hv hs=>F.run A outer s H args us vs Q E hr he hb hv (h _ _ _ _ hs)⟩
section
variable {X:Cx} {pins:List (Addr×Obj)} {σ:St} {H:Hp} {s s':Shared}
theorem Inv.env0 (I:Inv X pins σ H s):Env0 X.prog X.w X.K X.mg X.base X.A X.stack s H:=
 ⟨I.ok.frames,I.ok.mod,I.bs,Nat.le_trans I.ok.bsz I.sz,I.stack,I.stkFree,I.hok,I.bare⟩
theorem Inv.after {Q:VK} {u:Value} (I:Inv X pins σ H s) (h:CE X.stack X.prog X.w H s Q u s'):EP X pins σ Q u s':=by
 obtain ⟨v,H',os,bare,un,hok,r,q⟩:=h
 obtain ⟨hh,g,d,t,os'⟩:=s'
 obtain rfl:os'=s.os:=os
 exact ⟨v,H',I.call (h':=hh) (g':=g) (d':=d) (t':=t) (ch:=[]) un hok bare (fun b z=>absurd z (by simp)),r,q⟩
end
noncomputable def zmu (sp:Sp) (dvs:List V) (E:XK) (t:TA):TE:=fun σ H Q=>t σ H fun vs H1=>sp (vs++dvs) H1 Q E
def Binds (K:Frag) (fd:FuncData) (ps:List Str) (ds:List Value):Prop:=
 ∀(s:Shared) (us:List Value),K.In s.heap->(us++ds).length=ps.length->BindsTo s fd ⟨us,[]⟩ (ps.zip (us++ds))
theorem Binds.all {K:Frag} {fd:FuncData} {ps:List Str} (h:∀us:List Value,us.length=ps.length->bindArgs fd ⟨us,[]⟩=pure (ps.zip us)):Binds K fd ps []:=fun s us _ hl=>by
 rw [List.append_nil] at hl ⊢
 exact .of_eq (h us hl)
def zac (CX:CXT) (X:Cx) (E:XK):Prop:=∀(pins:List (Addr×Obj)) (σ:St) (H:Hp) (s:Shared) (e:Value) (s':Shared),Inv X pins σ H s->CX X.stack H s E e s'->X.xe e s'
section
variable {X:Cx} {CX:CXT} {k:Nat} {f C:Addr} {fd:FuncData} {ps:List Str} {sp:Sp} {dvs:List V} {ds:List Value} {E:XK} {x m:Str} {p pos apos:Pos} {e o:Expr} {es:List Expr} {ta:TE} {t:TA}
theorem zmv {pins:List (Addr×Obj)} {σ:St} {H:Hp} {s:Shared} {Q:VK} {us:List Value} {vs:List V} (F:FnOk X.prog X.w X.K X.mg X.base CX k f fd ps sp) (hr:Room k X.A) (hb:Binds X.K fd ps ds) (hd:Vals dvs ds) (hx:zac CX X E)
  (I:Inv X pins σ H s) (r:Vals vs us) (h:sp (vs++dvs) H Q E):wpAny (model X.prog X.w) X.A (call (.ref f) us) (EP X pins σ Q) X.xe s:=by
 have r2:Vals (vs++dvs) (us++ds):=r.append hd
 have hl:(us++ds).length=ps.length:=by rw [<-r2.length];exact F.len _ _ _ _ h
 refine wpAny_call (codeAny_mono (F.run X.A X.stack s H ⟨us,[]⟩ (us++ds) (vs++dvs) Q E hr I.env0 (hb s us I.kIn hl) r2 h) fun r s' hq=>?_)
 cases r with
 | error e=>exact hx pins σ H s e s' I hq
 | ok fl=>
  cases fl with
  | ret u=>exact I.after hq
  | next=>exact False.elim hq
  | brk=>exact False.elim hq
  | cont=>exact False.elim hq
theorem zjw (F:FnOk X.prog X.w X.K X.mg X.base CX k f fd ps sp) (hr:Room k X.A) (hg:Gl X x) (hm:X.mg x=some (.ref f)) (hk:keepIn X.K (.ref f)=true) (hb:Binds X.K fd ps ds) (hd:Vals dvs ds) (hx:zac CX X E)
  (ha:PA X (e::es) t) (hdb:(x==("__debug__":Str))=false:=by decide) (he:starEach (e::es) X.env=(false,eval e X.env)::starEach es X.env:=by rfl) (hpl:(backTo pos (starEach es X.env)).any (·.1)=false:=by rfl) :
  PE X (.Call (.Name x p) (e::es) [] pos) (zmu sp dvs E t):=by
 intro pins s σ H Q I h
 refine wpAny_Call_Name_kw (zjn I hg hm ?_ hdb)
 refine PySem.W.callWith_K (h₀:=X.base) I.ok.mod.kin hk (thn (ha pos pins s σ H _ I h) fun us s1 ⟨vs,H1,I1,r,q⟩=>⟨I1.kIn,?_⟩) he hpl
 exact zmv F hr hb hd hx I1 r q
end
structure FnScope (N P:List Str) (sc:Scope):Prop where
 kind:sc.kind=.function
 co:sc.isCoroutine=false
 gen:sc.isGenerator=false
 nd:N.Nodup
 pre:N.take P.length=P
 par:∀x∈P,sc.names.lookup x=some .local\/sc.names.lookup x=some .cell
 nofree:∀y∈sc.names,y.2≠.free
theorem z83 {kindOf:Str->Option NameKind} {x:Str}:∀{binds:List (Str×Value)} {m:Str->Option Value},(∀v,(x,v)∉binds)->bindL kindOf binds m x=m x
 | [],_,_=>rfl
 | (n,v)::r,m,h=>by
  unfold bindL
  rw [z83 fun w hw=>h w (List.mem_cons_of_mem _ hw)]
  split
  . have:x≠n:=by rintro rfl;exact h v List.mem_cons_self
    simp [this]
  . rfl
theorem z84 {kindOf:Str->Option NameKind} {x:Str}:∀{binds:List (Str×Value)} {m:Str->Option Value},(∀v,(x,v)∉binds)->bindC kindOf binds m x=m x
 | [],_,_=>rfl
 | (n,v)::r,m,h=>by
  unfold bindC
  rw [z84 fun w hw=>h w (List.mem_cons_of_mem _ hw)]
  split
  . rfl
  . have:x≠n:=by rintro rfl;exact h v List.mem_cons_self
    simp [this]
theorem z85 {kindOf:Str->Option NameKind} {x:Str} {v:Value}:∀{P:List Str} {vs:List Value} {i:Nat} {m:Str->Option Value},P.Nodup->P[i]?=some x->vs[i]?=some v->kindOf x=some .local ->
  bindL kindOf (P.zip vs) m x=some v
 | [],_,_,_,_,h,_,_=>by simp at h
 | _::_,[],_,_,_,_,h,_=>by simp at h
 | p::P,w::vs,0,m,nd,h1,h2,hk=>by
  simp at h1 h2;subst h1;subst h2
  show bindL kindOf ((p,w)::P.zip vs) m p=_
  unfold bindL
  rw [z83 fun v hv=>(List.nodup_cons.mp nd).1 (List.of_mem_zip hv).1,if_pos hk]
  simp
 | p::P,w::vs,i+1,m,nd,h1,h2,hk=>by
  show bindL kindOf ((p,w)::P.zip vs) m x=_
  unfold bindL
  exact z85 (i:=i) (List.nodup_cons.mp nd).2 (by simpa using h1) (by simpa using h2) hk
theorem z86 {kindOf:Str->Option NameKind} {x:Str} {v:Value}:∀{P:List Str} {vs:List Value} {i:Nat} {m:Str->Option Value},P.Nodup->P[i]?=some x->vs[i]?=some v->kindOf x≠some .local ->
  bindC kindOf (P.zip vs) m x=some v
 | [],_,_,_,_,h,_,_=>by simp at h
 | _::_,[],_,_,_,_,h,_=>by simp at h
 | p::P,w::vs,0,m,nd,h1,h2,hk=>by
  simp at h1 h2;subst h1;subst h2
  show bindC kindOf ((p,w)::P.zip vs) m p=_
  unfold bindC
  rw [z84 fun v hv=>(List.nodup_cons.mp nd).1 (List.of_mem_zip hv).1,if_neg hk]
  simp
 | p::P,w::vs,i+1,m,nd,h1,h2,hk=>by
  show bindC kindOf ((p,w)::P.zip vs) m x=_
  unfold bindC
  exact z86 (i:=i) (List.nodup_cons.mp nd).2 (by simpa using h1) (by simpa using h2) hk
noncomputable def z49 (N:List Str) (vs:List V):St:=vs.map some++List.replicate (N.length - vs.length) none
noncomputable def zg6 (CX:CXT) (P:Program) (w:World) (K:Frag) (mg:Str->Option Value) (base:Heap) (N:List Str) (qual:Str) (scope:Scope) (f:Addr) (cd:Value) (A:Around) (outer:List Env) (s:Shared) (H:Hp) (E:XK):Cx where
 prog:=P
 w:=w
 K:=K
 mg:=mg
 base:=base
 A:=A.deeper (envOfC qual scope s.heap.objs.size f cd)
 N:=N
 s₀:=s
 H₀:=H
 env:=envOfC qual scope s.heap.objs.size f cd
 outer:=outer
 stack:=envOfC qual scope s.heap.objs.size f cd::outer
 ex:=[]
 calm:=true
 fn:=fun _=>true
 pn:=[]
 xe:=fun e s'=>wpAny (model P w) (A.deeper (envOfC qual scope s.heap.objs.size f cd)) (leaving (envOfC qual scope s.heap.objs.size f cd) e) (fun _ s''=>CX outer H s E e s'') (fun e' s''=>CX outer H s E e' s'') s'
theorem zad {sc:Scope} {n:Nat} {x:Str} (h:sc.names.lookup x=some .cell):∃c,(cellsFrom n sc.names []).lookup x=some c:=by
 have q:=PySem.W.cellsFrom_some sc.names n [] (.inl h)
 exact Option.isSome_iff_exists.mp q
theorem zcy {CX:CXT} {P:Program} {w:World} {K:Frag} {mg:Str->Option Value} {base:Heap} {N ps:List Str} {qual:Str} {scope:Scope} {f:Addr} {cd:Value} {A:Around} {outer:List Env} {s s1:Shared} {H:Hp} {E:XK} {us:List Value} {vs:List V}
  (S:FnScope N ps scope) (hd:A.handled=none) (e0:Env0 P w K mg base A outer s H) (hl:vs.length=ps.length) (r:Vals vs us)
  (x:InCallC s s.heap.objs.size (bindL (envOfC qual scope s.heap.objs.size f cd).kindOf (ps.zip us) fun _=>none) (cellsFrom (s.heap.objs.size+1) scope.names []) (bindC (envOfC qual scope s.heap.objs.size f cd).kindOf (ps.zip us) fun _=>none) s1) :
  Inv (zg6 CX P w K mg base N qual scope f cd A outer s H E) [] (z49 N vs) H s1:=by
 have hpl:ps.length<=N.length:=by have:=congrArg List.length S.pre;rw [List.length_take] at this;omega
 obtain ⟨h1,tk,rfl,hk⟩:=x.done
 have noA:∀b:Addr,b∉(zg6 CX P w K mg base N qual scope f cd A outer s H E).ex:=fun b z=>absurd (show b∈([]:List Addr) from z) (by simp)
 refine ⟨⟨e0.mod,S.kind,rfl,rfl,Nat.le_refl _,fun y z c h1 h2=>?_,fun y hy=>?_,fun y c _ h=>?_,fun _=>hd,Around.frames_deeper e0.frames,.inr ⟨rfl,rfl⟩,fun b z=>absurd z (noA b),e0.bs,e0.bsz,fun b _ _=>noA b,fun b z=>absurd z (noA b),e0.funs,e0.frf⟩,
  rfl,e0.bare,Un.kept hk,⟨_,x.toInCall.ns,fun i y v h1 h2 h3=>?_⟩,fun y c h=>⟨_,x.cell y c h⟩,e0.hok.fresh (Nat.le_refl _),fun y c h=>?_,fun p hp=>absurd (show p∈([]:List (Addr×Obj)) from hp) (by simp),e0.hok.kept hk,?_⟩
 . exact name_of_addr x.apart (PySem.mem_of_lookup h1) (PySem.mem_of_lookup h2)
 . have hy:scope.names.lookup y=some .cell\/scope.names.lookup y=some .free:=hy
   rcases hy with hy | hy
   . exact zad hy
   . exact absurd rfl (S.nofree _ (PySem.mem_of_lookup hy))
 . exact Nat.le_of_lt (x.above y c (PySem.mem_of_lookup h))
 . have hi:i<vs.length:=by
    unfold z49 at h2
    by_cases hi:i<vs.length
    . exact hi
    . rw [List.getElem?_append_right (by simpa using hi)] at h2
      rw [List.getElem?_replicate] at h2
      split at h2<;>cases h2
   have ha:vs[i]?=some v:=by
    unfold z49 at h2
    rw [List.getElem?_append_left (by simpa using hi),List.getElem?_map] at h2
    cases e:vs[i]? with
    | none=>rw [e] at h2;cases h2
    | some a=>rw [e] at h2;cases h2;rfl
   obtain ⟨u,hu,rv⟩:=r.get ha
   have hp:ps[i]?=some y:=by
    rw [<-S.pre,List.getElem?_take_of_lt (by omega)];exact h1
   have ndP:ps.Nodup:=by rw [<-S.pre];exact S.nd.sublist (List.take_sublist _ _)
   refine ⟨u,rv,?_⟩
   rcases S.par y (List.mem_of_getElem? hp) with k | k
   . exact .inl ⟨k,z85 ndP hp hu k⟩
   . obtain ⟨c,e⟩:=zad (n:=s.heap.objs.size+1) k
     refine .inr ⟨.inl k,c,e,?_⟩
     have q:=x.cell y c e
     rw [z86 ndP hp hu (by show scope.names.lookup y≠_;rw [k];decide)] at q
     exact q
 . exact e0.hok.fresh (Nat.le_of_lt (x.above y c (PySem.mem_of_lookup h)))
 . unfold z49
   show _=N.length
   rw [List.length_append,List.length_map,List.length_replicate]
   omega
theorem zmw {CX:CXT} {P:Program} {w:World} {K:Frag} {mg:Str->Option Value} {base:Heap} {k:Nat} {f:Addr} {name qual:Str} {params:Arguments} {body:List Stmt} {scope:Scope} {dV kV doc pm cdv ct oc:Value} {an od:Option Addr}
  {osl:Array (Option Value)} {N ps:List Str} {sp:Sp} (lk:K.lookup f=some ⟨oc,od,.func (PySem.W.fnOf name qual params body scope dV kV doc pm an cdv ct),osl⟩) (hcd:codeIn K cdv qual=true) (S:FnScope N ps scope)
  (len:∀vs H Q E,sp vs H Q E->vs.length=ps.length)
  (hbody:∀(A:Around) (outer:List Env) (s:Shared) (H:Hp) (vs:List V) (Q:VK) (E:XK),Room k (A.deeper (envOfC qual scope s.heap.objs.size f cdv))->sp vs H Q E ->
   ∃t,PSs (zg6 CX P w K mg base N qual scope f cdv A outer s H E) body t/\t { nx:=fun _ H'=>Q .non H',rt:=Q } (z49 N vs) H) :
  FnOk P w K mg base CX (k+1) f (PySem.W.fnOf name qual params body scope dV kV doc pm an cdv ct) ps sp:=by
 refine ⟨len,fun A outer s H args us vs Q E hr e0 hb r hsp=>?_⟩
 have hl:=len _ _ _ _ hsp
 have KX:K.In s.heap:=e0.mod.kin.keeps fun b o e=>(e0.bs b o e).1
 have lim:s.heap.NoLimit:=e0.mod.nolimit.keeps fun b o e=>(e0.bs b o e).1
 have hkind:∀y∈ps.zip us,scope.names.lookup y.1=some .local\/(scope.names.lookup y.1=some .cell/\((cellsFrom (s.heap.objs.size+1) scope.names []).lookup y.1).isSome=true):=fun ⟨n,v⟩ hy=>by
  rcases S.par n (List.of_mem_zip hy).1 with q | q
  . exact .inl q
  . exact .inr ⟨q,PySem.W.cellsFrom_some _ _ _ (.inl q)⟩
 refine codeAny_call_function hr.depth (KX _ _ lk) rfl S.co S.gen rfl (PySem.W.codeRec_of KX hcd) (hb _ _ _ _ ?_)
 refine wpAny_newFunctionEnv_cells S.kind hkind fun env he s1 x=>?_
 subst he
 refine ⟨lim.keeps x.toInCall.keep,codeAny_func ?_⟩
 obtain ⟨t,ht,hq⟩:=hbody A outer s H vs Q E (hr.deeper _) hsp
 have I:Inv (zg6 CX P w K mg base N qual scope f cdv A outer s H E) [] (z49 N vs) H s1:=zcy S hr.hd e0 hl r x
 refine wpAny_mono (ht [] s1 (z49 N vs) H _ I hq) (fun fl s' hs=>?_) fun e s' hs=>hs
 have fin:∀{σ':St} {H':Hp} {v:V} {u:Value},Inv (zg6 CX P w K mg base N qual scope f cdv A outer s H E) [] σ' H' s'->RelV v u->Q v H'->CE outer P w H s Q u s':=
  fun {σ' H' v u} J rv q=>⟨v,H',J.os,J.bare,J.base,J.hok,rv,q⟩
 cases fl with
 | ret u=>
  obtain ⟨v,σ',H',J,rv,q⟩:=hs
  exact fin J rv q
 | next=>
  obtain ⟨σ',H',J,q⟩:=hs
  exact fin (v:=V.non) (u:=Value.none) J rfl q
 | brk=>
  obtain ⟨_,_,_,q⟩:=hs
  exact False.elim q
 | cont=>
  obtain ⟨_,_,_,q⟩:=hs
  exact False.elim q
section
variable {X:Cx} {x:Str} {p pos:Pos} {e:Expr} {es:List Expr} {t:TA} {id T:String} {r:List V->Hp->VK->Prop}
noncomputable def tCB (r:List V->Hp->VK->Prop) (t:TA):TE:=fun σ H Q=>t σ H fun vs H1=>r vs H1 Q
theorem zae (hc:CallR X (.builtin id) r) (hg:Gl X x) (hm:X.mg x=none) (hv:bootBuiltins x=some (.builtin id)) (ha:PA X (e::es) t) (hn:x≠"__name__":=by decide) (hdb:(x==("__debug__":Str))=false:=by decide)
  (he:starEach (e::es) X.env=(false,eval e X.env)::starEach es X.env:=by rfl) (hpl:(backTo pos (starEach es X.env)).any (·.1)=false:=by rfl):PE X (.Call (.Name x p) (e::es) [] pos) (tCB r t):=by
 intro pins s σ H Q I h
 refine wpAny_Call_Name_kw (z6c I hg hm hv ?_ hn hdb)
 exact PyProof.Rows.callWith_builtin1 (thn (ha pos pins s σ H _ I h) fun us s1 ⟨vs,H1,I1,r1,q1⟩=>hc pins s1 σ H1 vs us Q I1 r1 q1) he hpl
theorem zcz (hc:CallR X (.type T) r) (hg:Gl X x) (hm:X.mg x=none) (hv:bootBuiltins x=some (.type T)) (ha:PA X (e::es) t) (hn:x≠"__name__":=by decide) (hdb:(x==("__debug__":Str))=false:=by decide)
  (he:starEach (e::es) X.env=(false,eval e X.env)::starEach es X.env:=by rfl) (hpl:(backTo pos (starEach es X.env)).any (·.1)=false:=by rfl):PE X (.Call (.Name x p) (e::es) [] pos) (tCB r t):=by
 intro pins s σ H Q I h
 refine wpAny_Call_Name_kw (z6c I hg hm hv ?_ hn hdb)
 exact PyProof.Rows.callWith_type1 (thn (ha pos pins s σ H _ I h) fun us s1 ⟨vs,H1,I1,r1,q1⟩=>hc pins s1 σ H1 vs us Q I1 r1 q1) he hpl
end
end L2
namespace HT
open PySem PyProof.Rows
def lexLt:List Int->List Int->Bool
 | [],[]=>false
 | [],_::_=>true
 | _::_,[]=>false
 | x::xs,y::ys=>if x=y then lexLt xs ys else decide (x<y)
theorem lexLt_cons (x y:Int) (xs ys:List Int):lexLt (x::xs) (y::ys)=if x=y then lexLt xs ys else decide (x<y):=rfl
theorem zgc (A:Around) (s:Shared) (a:Int) (t:Tok) (c:Int) (u:Tok):∃e,SeqAt.EqAt A s (.int a t) (.int c u) e/\(e=true↔a=c):=
 ⟨(a==c),SeqAt.EqAt.int_int a t c u,by simp⟩
theorem rcLt_int (A:Around) (s:Shared) (a:Int) (t:Tok) (c:Int) (u:Tok) (prog:Program) (w:World) (E:Value->Shared->Prop) (Q:Value->Shared->Prop) (h:Q (.bool (decide (a<c))) s) :
  wpAny (model prog w) A (richCompare .Lt (.int a t) (.int c u)) Q E s:=
 (PyProof.Rows.lt_int h:wpAny (model prog w) A (compareOp .Lt (.int a t) (.int c u)) Q E s)
section
open PySem.SeqAt
open PySem.AutoSeq1 (wpAny_loadPart')
open PySem.MeetsSeq PySem.MeetsSeq2 PySem.MeetsSeq3
end
section
variable {prog:Program} {w:World} {A:Around} {E:Value->Shared->Prop} {s:Shared}
def sIx (n d:Nat):Option Int->Nat
 | none=>d
 | some v=>if v<0 then (v+(n:Int)).toNat else min v.toNat n
end
end HT
namespace L2
open PySem PySem.Spec PyProof.Rows
abbrev TO:=St->Hp->(Option Int->Hp->Prop)->Prop
def PO (X:Cx) (e:Option Expr) (t:TO):Prop:=
 ∀(pins:List (Addr×Obj)) (s:Shared) (σ:St) (H:Hp) (Q:Option Int->Hp->Prop),Inv X pins σ H s->t σ H Q ->
  wpAny (model X.prog X.w) X.A (evalPart e X.env) (fun u s'=>∃o H',Inv X pins σ H' s'/\IsPart u o/\Q o H') X.xe s
noncomputable def zjx:TO:=fun _ H Q=>Q none H
noncomputable def zrs (t:TE):TO:=fun σ H Q=>t σ H fun x H1=>∃i,x=.int i/\Q (some i) H1
theorem z37 {ns:List Int}:∀{us:List Value},Vals (ns.map V.int) us->IntsAre us ns:=by
 induction ns with
 | nil=>intro us r;rw [List.map_nil] at r;cases r;exact .nil
 | cons n ns ih=>
  intro us r
  rw [List.map_cons] at r
  cases r with
  | cons r1 r2=>
   obtain ⟨t,e⟩:=r1
   subst e
   exact .cons n t (ih r2)
section
variable {X:Cx} {e:Expr} {te:TE} {lo hi:Option Expr} {tl th:TO} {pos p2:Pos}
theorem po_none:PO X none zjx:=by
 intro pins s σ H Q I h
 rw [evalPart_none]
 exact wpAny_pure ⟨none,H,I,.none,h⟩
theorem zjy (h:PE X e te):PO X (some e) (zrs te):=by
 intro pins s σ H Q I hw
 rw [evalPart_some]
 refine thn (h pins s σ H _ I hw) fun u s1 ⟨x,H1,I1,r1,q1⟩=>?_
 obtain ⟨i,rfl,q⟩:=q1
 obtain ⟨t,rfl⟩:=r1
 exact ⟨some i,H1,I1,.int i t,q⟩
def SlR (X:Cx) (r:V->Option Int->Option Int->Hp->VK->Prop):Prop:=
 ∀(pins:List (Addr×Obj)) (s:Shared) (σ:St) (H:Hp) (x:V) (v vl vu:Value) (lo hi:Option Int) (sl:Addr) (Q:VK),Inv X pins σ H s->RelV x v->s.heap.IsSliceOf sl vl vu .none->IsPart vl lo->IsPart vu hi->r x lo hi H Q ->
  ∃T id,typeLookup (.type T) "__getitem__"=pure (some (.builtin id))/\s.TypeIs v T/\wpAny (model X.prog X.w) X.A (getItem v (.ref sl)) (EP X pins σ Q) X.xe s
noncomputable def tSl (r:V->Option Int->Option Int->Hp->VK->Prop) (te:TE) (tl th:TO):TE:=fun σ H Q=>te σ H fun x H1=>tl σ H1 fun l H2=>th σ H2 fun u H3=>r x l u H3 Q
theorem zgd {r:V->Option Int->Option Int->Hp->VK->Prop} (hr:SlR X r) (he:PE X e te) (hl:PO X lo tl) (hu:PO X hi th):PE X (.Subscript e (.Slice lo hi none p2) pos) (tSl r te tl th):=by
 intro pins s σ H Q I h
 refine Subscript_ (thn (he pins s σ H _ I h) fun v s1 ⟨x,H1,I1,r1,q1⟩=>?_)
 refine wpAny_Slice (thn (hl pins s1 σ H1 _ I1 q1) fun vl s2 ⟨l,H2,I2,pl,q2⟩=>thn (hu pins s2 σ H2 _ I2 q2) fun vu s3 ⟨u,H3,I3,pu,q3⟩=>?_)
 rw [evalPart_none]
 refine wpAny_pure ?_
 have I4:Inv X pins σ H3 { s3 with heap:=s3.heap.push { cls:=.type "slice",data:=.fields #[vl,vu,.none] } }:=I3.kept (t':=s3.toks) fun b ob q=>Heap.get?_push_of_some _ q
 obtain ⟨T,id,hT,ht,hg⟩:=hr pins { s3 with heap:=s3.heap.push { cls:=.type "slice",data:=.fields #[vl,vu,.none] } } σ H3 x v vl vu l u s3.heap.objs.size Q I4 r1 (Heap.IsSliceOf.new ..) pl pu q3
 show wpAny (model X.prog X.w) X.A (subscriptTail e (.Slice lo hi none p2) v (.ref s3.heap.objs.size)) (EP X pins σ Q) X.xe { s3 with heap:=s3.heap.push { cls:=.type "slice",data:=.fields #[vl,vu,.none] } }
 exact tail_any (ops:=[.ref s3.heap.objs.size,v]) ht hT hg (by with_unfolding_all rfl)
noncomputable def zm9 (xs:List V) (lo hi:Option Int):List V:=(xs.drop (HT.sIx xs.length 0 lo)).take (HT.sIx xs.length xs.length hi - HT.sIx xs.length 0 lo)
theorem z9e (xs:List V) (lo hi:Option Int):(zm9 xs lo hi).length<=xs.length:=by
 unfold zm9
 rw [List.length_take,List.length_drop]
 omega
end
noncomputable def ixN (n:Nat) (i:Int):Option Nat:=if 0<=i then (if i<n then some i.toNat else none) else if -(n:Int)<=i then some (i+n).toNat else none
noncomputable def atI {α:Type} (xs:List α) (i:Int):Option α:=(ixN xs.length i).bind fun j=>xs[j]?
theorem zjz {n:Nat} {i:Int} {j:Nat} (h:ixN n i=some j):seqIndex? i n=some j/\j<n/\-(n:Int)<=i/\i<n:=by
 unfold ixN at h
 by_cases h0:0<=i
 . rw [if_pos h0] at h
   by_cases h1:i<n
   . rw [if_pos h1] at h
     have e:i.toNat=j:=Option.some.inj h
     exact ⟨by rw [seqIndex_of h0 h1,e],by omega,by omega,h1⟩
   . rw [if_neg h1] at h;cases h
 . rw [if_neg h0] at h
   by_cases h1:-(n:Int)<=i
   . rw [if_pos h1] at h
     have e:(i+n).toNat=j:=Option.some.inj h
     exact ⟨by rw [seqIndex_neg (by omega) h1,e],by omega,h1,by omega⟩
   . rw [if_neg h1] at h;cases h
theorem z9f {α:Type} {xs:List α} {i:Int} {v:α} (h:atI xs i=some v):∃j,seqIndex? i xs.length=some j/\xs[j]?=some v/\j<xs.length/\-(xs.length:Int)<=i/\i<xs.length:=by
 unfold atI at h
 cases e:ixN xs.length i with
 | none=>rw [e] at h;cases h
 | some j=>
  rw [e] at h
  obtain ⟨h1,h2,h3,h4⟩:=zjz e
  exact ⟨j,h1,h,h2,h3,h4⟩
theorem z70 {α:Type} {xs:List α} {j:Nat} {v:α} (h:xs[j]?=some v):atI xs (j:Int)=some v:=by
 have hj:j<xs.length:=(List.getElem?_eq_some_iff.mp h).1
 have e:ixN xs.length (j:Int)=some j:=by
  unfold ixN
  rw [if_pos (by omega),if_pos (by omega)];simp
 unfold atI;rw [e];exact h
def zd0 (b:Expr):Prop:=∀o i,subscripted b false o i=operate [o,i] (getItem o i)
def IxR (X:Cx) (r:R2):Prop:=
 ∀(value slice:Expr) (pins:List (Addr×Obj)) (s:Shared) (σ:St) (H:Hp) (x y:V) (v u:Value) (Q:VK),Inv X pins σ H s->RelV x v->RelV y u->r x y H Q ->
  subscripted slice false v u=operate [v,u] (getItem v u)->wpAny (model X.prog X.w) X.A (subscriptTail value slice v u) (EP X pins σ Q) X.xe s
def MtR (X:Cx) (id:String) (r:V->List V->Hp->VK->Prop):Prop:=
 ∀(pins:List (Addr×Obj)) (s:Shared) (σ:St) (H:Hp) (x:V) (xs:List V) (v:Value) (us:List Value) (Q:VK),Inv X pins σ H s->RelV x v->Vals xs us->r x xs H Q ->
  wpAny (model X.prog X.w) X.A (call (.builtin id) (v::us)) (EP X pins σ Q) X.xe s
section
variable {X:Cx} {a b:Expr} {ta tb:TE} {pos:Pos}
theorem IxR.or {r r':R2} (h:IxR X r) (h':IxR X r'):IxR X (fun x y H Q=>r x y H Q\/r' x y H Q):=by
 intro value slice pins s σ H x y v u Q I rx ry q hs
 rcases q with q | q
 . exact h value slice pins s σ H x y v u Q I rx ry q hs
 . exact h' value slice pins s σ H x y v u Q I rx ry q hs
theorem zrt {r:R2} (hr:IxR X r) (ha:PE X a ta) (hb:PE X b tb) (hs:zd0 b):PE X (.Subscript a b pos) (tOp r ta tb):=by
 intro pins s σ H Q I h
 exact Subscript_ (zrq ha hb I h fun v u s2 x y H2 I2 rx ry q=>hr a b pins s2 σ H2 x y v u Q I2 rx ry q (hs _ _))
noncomputable def zut (K:Frag):R2:=fun x y H Q=>∃p xs i v,x=.ref p/\y=.int i/\SqL K H p xs/\atI xs i=some v/\Q v H
noncomputable def zuu (K:Frag):R2:=fun x y H Q=>∃p xs i v,x=.ref p/\y=.int i/\SqT K H p xs/\atI xs i=some v/\Q v H
noncomputable def zuv:R2:=fun x y H Q=>∃z i c,x=.str z/\y=.int i/\z.length<=sizeLine/\atI z.cps.toList i=some c/\Q (.str ⟨#[c]⟩) H
theorem ix_list:IxR X (zut X.K):=by
 intro value slice pins s σ H x y v u Q I rx ry h hs
 obtain ⟨p,xs,i,z,rfl,rfl,hq,he,q⟩:=h
 cases rx
 obtain ⟨t,rfl⟩:=ry
 obtain ⟨its,r,pl,hz⟩:=I.list hq
 obtain ⟨j,h1,h2,h3,h4,h5⟩:=z9f he
 obtain ⟨w,ew,rw'⟩:=r.get h2
 have hl:=r.length
 have hn:=z6e
 have fin:EP X pins σ Q w s:=⟨z,H,I,rw',q⟩
 by_cases h0:0<=i
 . have hj:i.toNat=j:=by
    rw [seqIndex_of h0 h5] at h1
    exact Option.some.inj h1
   exact item_listR pl.isList h0 (by omega) (by rw [hj];simpa using ew) fin hs
 . have hj:(i+(its.toArray.size:Int)).toNat=j:=by
    rw [seqIndex_neg (by omega) h4] at h1
    rw [List.size_toArray,<-hl]
    exact Option.some.inj h1
   exact subscriptTail_builtinR (x:=w) pl.isList.typeIs slot_list_getitem.lookup
    (wpAny_getItem_list_neg (Q:=fun r s'=>r=w/\EP X pins σ Q r s') pl.isList (by omega) (by rw [List.size_toArray]<;>omega) (by omega) (by rw [hj];simpa using ew) ⟨rfl,fin⟩) hs
theorem ix_tup:IxR X (zuu X.K):=by
 intro value slice pins s σ H x y v u Q I rx ry h hs
 obtain ⟨p,xs,i,z,rfl,rfl,hq,he,q⟩:=h
 cases rx
 obtain ⟨t,rfl⟩:=ry
 obtain ⟨its,r,pl,hz⟩:=I.tuple hq
 obtain ⟨j,h1,h2,h3,h4,h5⟩:=z9f he
 obtain ⟨w,ew,rw'⟩:=r.get h2
 have hl:=r.length
 have hn:=z6e
 have fin:EP X pins σ Q w s:=⟨z,H,I,rw',q⟩
 exact subscriptTail_builtinR (x:=w) pl.typeIs slot_tuple_getitem.lookup
  (getItem_tuple (j:=j) (Q:=fun r s'=>r=w/\EP X pins σ Q r s') pl (by omega) (by omega) (by rw [List.size_toArray,<-hl];exact h1) (by simpa using ew) ⟨rfl,fin⟩) hs
theorem zmx:IxR X zuv:=by
 intro value slice pins s σ H x y v u Q I rx ry h hs
 obtain ⟨z,i,c,rfl,rfl,hz,he,q⟩:=h
 obtain ⟨t,rfl⟩:=rx
 obtain ⟨t',rfl⟩:=ry
 obtain ⟨j,h1,h2,h3,h4,h5⟩:=z9f he
 have hl:z.cps.toList.length=z.length:=by simp [Str.length]
 rw [hl] at h1 h4 h5
 have hn:=z6e
 exact tail_any (typeIs_str s z t) slot_str_getitem.lookup (getItem_str (c:=c) (by
  have e1:decide (i < -(2 ^ 63:Int))=false:=decide_eq_false (by omega)
  have e2:decide (i ≥ 2 ^ 63)=false:=decide_eq_false (by omega)
  rw [e1,e2,Bool.or_false]) (by rw [h1];simpa using h2) ⟨.str ⟨#[c]⟩,H,I.tok _,⟨_,rfl⟩,q⟩) hs
noncomputable def rIx (K:Frag):R2:=fun x y H Q=>zut K x y H Q\/zuu K x y H Q\/zuv x y H Q
theorem ix_seq:IxR X (rIx X.K):=ix_list.or (ix_tup.or zmx)
theorem Inv.lst {pins:List (Addr×Obj)} {σ:St} {H:Hp} {s:Shared} {p:Addr} {xs:List V} (I:Inv X pins σ H s) (h:H p=some (.lst xs)) :
  ∃(its:List Value) (n:Nat),Vals xs its/\s.heap.get? p=some { cls:=.type "list",data:=.seq its.toArray n }/\xs.length<=sizeLine:=by
 obtain ⟨z,its,n,r,e⟩:=I.hok p _ h
 exact ⟨its,n,r,e,z⟩
theorem z87 (lo hi:Option Int) (n:Nat):(sliceBounds lo hi none n).1=((HT.sIx n 0 lo:Nat):Int)/\(sliceBounds lo hi none n).2.1=((HT.sIx n n hi:Nat):Int)/\(sliceBounds lo hi none n).2.2=1:=by
 refine ⟨?_,?_,rfl⟩
 . cases lo with
   | none=>simp [sliceBounds,HT.sIx]
   | some i=>
    simp only [sliceBounds,HT.sIx,Option.getD_none,show (1:Int) > 0 by decide,if_true]
    by_cases h:i<0
    . simp only [h,if_true]<;>omega
    . simp only [h,if_false]<;>omega
 . cases hi with
   | none=>simp [sliceBounds,HT.sIx]
   | some i=>
    simp only [sliceBounds,HT.sIx,Option.getD_none,show (1:Int) > 0 by decide,if_true]
    by_cases h:i<0
    . simp only [h,if_true]<;>omega
    . simp only [h,if_false]<;>omega
theorem z71 (its:List Value) (lo hi:Option Int):slicePick its.toArray lo hi none=((its.drop (HT.sIx its.length 0 lo)).take (HT.sIx its.length its.length hi - HT.sIx its.length 0 lo)).toArray:=by
 obtain ⟨h1,h2,h3⟩:=z87 lo hi its.toArray.size
 unfold slicePick
 rw [h1,h2,h3]
 simp only [sliceRange_one,pick_run,List.size_toArray]<;>rfl
def zuw (K:Frag):V->Option Int->Option Int->Hp->VK->Prop:=fun x lo hi H Q=>∃a xs,x=.ref a/\SqL K H a xs/\∀p,H p=none->Q (.ref p) (upd H p (.lst (zm9 xs lo hi)))
theorem z72:SlR X (zuw X.K):=by
 intro pins s σ H x v vl vu lo hi sl Q I rx hs pl pu h
 obtain ⟨a,xs,rfl,hx,q⟩:=h
 cases rx
 obtain ⟨its,r,ht,hz⟩:=I.list hx
 have hlen:=r.length
 refine ⟨"list",_,slot_list_getitem.lookup,ht.isList.typeIs,?_⟩
 refine wpAny_getItem_list_slice ht.isList hs pl pu .none (by simp) ?_ (by rw [List.size_toArray]<;>omega)
 rw [z71,<-hlen]
 refine ⟨.ref s.heap.objs.size,_,I.laid (t':=s.toks) (o:=.lst (zm9 xs lo hi)) (fun b ob q=>Heap.get?_push_of_some _ q) (Nat.le_refl _) ?_,rfl,q _ (I.hok.fresh (Nat.le_refl _))⟩
 exact ⟨Nat.le_trans (z9e xs lo hi) hz,_,0,(r.drop (HT.sIx xs.length 0 lo)).take (HT.sIx xs.length xs.length hi - HT.sIx xs.length 0 lo),Heap.get?_push_size _ rfl⟩
theorem call_len_seq:CallR X (.builtin "len") (fun xs H Q=>∃p ys,xs=[.ref p]/\(SqL X.K H p ys\/SqT X.K H p ys)/\Q (.int ys.length) H):=by
 intro pins s σ H xs us Q I r h
 obtain ⟨p,ys,rfl,hq,q⟩:=h
 obtain ⟨u,rfl,rx⟩:=z48 r
 cases rx
 have hn:=z6e
 rcases hq with hq | hq
 . obtain ⟨its,r',pl,hz⟩:=I.list hq
   have hlen:=r'.length
   exact Calls.call_len_list pl.isList (by simp only [List.size_toArray]<;>omega) ⟨.int ys.length,H,I.tok _,⟨s.toks+1,by rw [List.size_toArray,hlen]⟩,q⟩
 . obtain ⟨its,r',pl,hz⟩:=I.tuple hq
   have hlen:=r'.length
   exact len_tuple pl (by simp only [List.size_toArray]<;>omega) ⟨.int ys.length,H,I.tok _,⟨s.toks+1,by rw [List.size_toArray,hlen]⟩,q⟩
theorem z88:CallR X (.builtin "len") (fun xs H Q=>∃z,xs=[.str z]/\z.length<=sizeLine/\Q (.int z.length) H):=by
 intro pins s σ H xs us Q I r h
 obtain ⟨z,rfl,hz,q⟩:=h
 obtain ⟨u,rfl,t,rfl⟩:=z48 r
 have hn:=z6e
 exact len_str (by omega) ⟨.int z.length,H,I.tok _,⟨_,rfl⟩,q⟩
theorem CallR.or {f:Value} {r r':List V->Hp->VK->Prop} (h:CallR X f r) (h':CallR X f r'):CallR X f (fun xs H Q=>r xs H Q\/r' xs H Q):=by
 intro pins s σ H xs us Q I rs q
 rcases q with q | q
 . exact h pins s σ H xs us Q I rs q
 . exact h' pins s σ H xs us Q I rs q
theorem z89:CallR X (.type "list") (fun xs H Q=>∃p ys,xs=[.ref p]/\(SqL X.K H p ys\/SqT X.K H p ys)/\∀l,H l=none->Q (.ref l) (upd H l (.lst ys))):=by
 intro pins s σ H xs us Q I r h
 obtain ⟨p,ys,rfl,hq,q⟩:=h
 obtain ⟨u,rfl,rx⟩:=z48 r
 cases rx
 have fin:∀(its:List Value),Vals ys its->ys.length<=sizeLine->∀(h':Heap) (c':Nat),(∀b o',s.heap.get? b=some o'->h'.get? b=some o') ->
   h'.get? s.heap.objs.size=some { cls:=.type "list",dict:=none,data:=.seq its.toArray c',slots:=#[] }->EP X pins σ Q (.ref s.heap.objs.size) { s with heap:=h' }:=fun its r' hz h' c' kp e=>
  ⟨.ref s.heap.objs.size,_,I.laid (t':=s.toks) kp (Nat.le_refl _) (show ObjOk X.prog X.w _ h' _ (.lst ys) from ⟨hz,its,c',r',e⟩),rfl,q _ (I.hok.fresh (Nat.le_refl _))⟩
 rcases hq with hq | hq
 . obtain ⟨its,r',pl,hz⟩:=I.list hq
   have hlen:=r'.length
   obtain ⟨o,ho,hc,n,hd⟩:=pl.isList
   exact call_list_seq p (.inl rfl) ho hc hd (fun h' c' kp e=>fin its r' hz h' c' kp e) (by simp only [List.size_toArray]<;>omega)
 . obtain ⟨its,r',pl,hz⟩:=I.tuple hq
   have hlen:=r'.length
   obtain ⟨o,ho,hc,n,hd⟩:=pl
   exact call_list_seq p (.inr rfl) ho hc hd (fun h' c' kp e=>fin its r' hz h' c' kp e) (by simp only [List.size_toArray]<;>omega)
theorem z73:CallR X (.type "tuple") (fun xs H Q=>∃p ys,xs=[.ref p]/\((SqL X.K H p ys/\∀l,H l=none->Q (.ref l) (upd H l (.tup ys)))\/(SqT X.K H p ys/\Q (.ref p) H))):=by
 intro pins s σ H xs us Q I r h
 obtain ⟨p,ys,rfl,h⟩:=h
 obtain ⟨u,rfl,rx⟩:=z48 r
 cases rx
 rcases h with ⟨hq,q⟩ | ⟨hq,q⟩
 . obtain ⟨its,r',pl,hz⟩:=I.list hq
   have hlen:=r'.length
   refine call_tuple_list pl.isList (fun h' kp=>?_) (by simp only [List.size_toArray]<;>omega)
   have I1:Inv X pins σ H { s with heap:=h' }:=I.kept (t':=s.toks) kp
   have I2:Inv X pins σ (upd H h'.objs.size (.tup ys)) { s with heap:=h'.push { cls:=.type "tuple",data:=.seq its.toArray } }:=
    I1.laid (t':=s.toks) (fun b o e=>Heap.get?_push_of_some _ e) (Nat.le_refl _) (show ObjOk X.prog X.w _ _ _ (.tup ys) from ⟨hz,its,r',IsTup.new _ _⟩)
   exact ⟨.ref h'.objs.size,_,I2,rfl,q _ (I1.hok.fresh (Nat.le_refl _))⟩
 . obtain ⟨its,r',pl,hz⟩:=I.tuple hq
   exact call_tuple_same pl ⟨.ref p,H,I,rfl,q⟩
def tyV (K:Frag) (T:String) (x:V) (H:Hp):Prop:=match x with
 | .str _=>T="str"
 | .int _=>T="int"
 | .ref p=>(T="list"/\∃xs,SqL K H p xs)\/(T="tuple"/\∃o,K.lookup p=some o/\o.cls=.type "tuple"/\o.dict=none) \/
  (T="dict"/\((∃kvs,H p=some (.dK kvs))\/∃kvs,H p=some (.dT kvs)))\/(T="set"/\∃S n,H p=some (.set S n))
 | _=>False
theorem zmy {pins:List (Addr×Obj)} {σ:St} {H:Hp} {s:Shared} {T:String} {x:V} {v:Value} (I:Inv X pins σ H s) (r:RelV x v) (ty:tyV X.K T x H) :
  s.TypeIs v T/\∀a,v=.ref a->∃ob,s.heap.get? a=some ob/\ob.dict=none:=by
 cases x with
 | str z=>
  obtain ⟨t,rfl⟩:=r
  cases (show T="str" from ty)
  exact ⟨typeIs_str s z t,fun _ e=>nomatch e⟩
 | int i=>
  obtain ⟨t,rfl⟩:=r
  cases (show T="int" from ty)
  exact ⟨typeIs_int s i t,fun _ e=>nomatch e⟩
 | ref p=>
  cases r
  rcases ty with ⟨rfl,xs,hq⟩ | ⟨rfl,o,hk,hc,hd⟩ | ⟨rfl,hk⟩ | ⟨rfl,S,n,hk⟩
  . obtain ⟨its,_,pl,_⟩:=I.list hq
    refine ⟨pl.isList.typeIs,fun a e=>?_⟩
    cases e
    obtain ⟨o,n,e,c,hd,_⟩:=pl
    exact ⟨o,e,hd⟩
  . refine ⟨⟨o,I.kIn p o hk,hc⟩,fun a e=>?_⟩
    cases e
    exact ⟨o,I.kIn _ o hk,hd⟩
  . have z:∃o,s.heap.get? p=some o/\o.ExactDict:=by
     rcases hk with ⟨kvs,hk⟩ | ⟨kvs,hk⟩
     . obtain ⟨_,_,_,_,o,_,_,e,ex,_⟩:=I.hok p _ hk
       exact ⟨o,e,ex⟩
     . obtain ⟨_,_,_,_,o,_,_,e,ex,_⟩:=I.hok p _ hk
       exact ⟨o,e,ex⟩
    obtain ⟨o,e,ex⟩:=z
    refine ⟨⟨o,e,ex.1⟩,fun a e2=>?_⟩
    cases e2
    exact ⟨o,e,ex.2.1⟩
  . obtain ⟨o,_,_,_,e,ex,_⟩:=I.hok p _ hk
    refine ⟨⟨o,e,ex.1⟩,fun a e2=>?_⟩
    cases e2
    exact ⟨o,e,ex.2.1⟩
 | _=>exact False.elim ty
noncomputable def tBM (K:Frag) (T:String) (r:V->List V->Hp->VK->Prop) (to:TE) (t:TA):TE:=fun σ H Q=>to σ H fun x H1=>tyV K T x H1/\t σ H1 fun xs H2=>r x xs H2 Q
variable {o e:Expr} {es:List Expr} {to:TE} {t:TA} {name:Str} {apos cpos:Pos} {T id:String} {r:V->List V->Hp->VK->Prop}
theorem zmz (pa:PlainAttrs T) (slot:Slot T name id) (hty:typeOf (.builtin id)=pure (.type "method_descriptor")) (hm:MtR X id r) (ho:PE X o to) (ha:PA X (e::es) t)
  (hbase:attributeBase o name X.env (eval o X.env)=eval o X.env:=by rfl)
  (hfew:((backTo cpos (starEach (e::es) X.env)).all (fun x=>!x.1)&&(backToKw cpos (keywordEach [] X.env)).all (fun x=>x.1.isSome)
   && decide ((e::es).length+([]:List Keyword).length+(if ([]:List Keyword).isEmpty then 0 else 1)<30))=true:=by rfl)
  (hline:(apos.endLine==cpos.line)=true:=by rfl) (hs:starEach (e::es) X.env=(false,eval e X.env)::starEach es X.env:=by rfl) (hplain:(backTo cpos (starEach es X.env)).any (·.1)=false:=by rfl) :
  PE X (.Call (.Attribute o name apos) (e::es) [] cpos) (tBM X.K T r to t):=by
 intro pins s σ H Q I h
 refine wpAny_Call_method_late hbase hfew hline rfl (thn (ho pins s σ H _ I h) fun v s1 ⟨x,H1,I1,r1,ty,q1⟩=>?_)
 obtain ⟨h1,h2⟩:=zmy I1 r1 ty
 refine ⟨T,id,pa,slot,hty,h1,h2,?_⟩
 have hA:=ha cpos pins s1 σ H1 _ I1 q1
 rw [hs] at hA ⊢
 refine Calls.callWith_builtin (by show (false||(backTo cpos (starEach es X.env)).any (·.1))=false;rw [hplain]<;>rfl) (Calls.evalArgs_plain ?_)
 exact thn hA fun us s2 ⟨vs,H2,I2,r2,q2⟩=>hm pins s2 σ H2 x vs v us Q I2 r1 r2 q2
end
def MtM (X:Cx) (id:String) (r:V->List V->Hp->VK->Prop):Prop:=
 ∀(pins:List (Addr×Obj)) (s:Shared) (σ:St) (H:Hp) (x:V) (xs:List V) (v:Value) (us:List Value) (Q:VK),Inv X pins σ H s->RelV x v->Vals xs us->r x xs H Q ->
  wpAny (model X.prog X.w) X.A (call (.builtin id) (v::us)) (EP X pins σ Q) X.xe s
theorem Vals.one:∀{x:V} {us:List Value},Vals [x] us->∃u,us=[u]/\RelV x u
 | _,_,.cons r .nil=>⟨_,rfl,r⟩
section
variable {X:Cx} {pins:List (Addr×Obj)} {σ:St} {H:Hp} {s:Shared} {l b:Addr} {xs ys zs:List V}
theorem Inv.lset {its its':List Value} {n:Nat} {f:Array Value->Array Value} {t':Nat} (I:Inv X pins σ H s) (hH:H l=some (.lst xs))
  (e:s.heap.get? l=some { cls:=.type "list",data:=.seq its.toArray n }) (hf:f its.toArray=its'.toArray) (hv:Vals ys its') (hz:ys.length<=sizeLine) :
  Inv X pins σ (upd H l (.lst ys)) { s with heap:=s.heap.update l (Obj.mapSeq f),toks:=t' }:=by
 have q:=PySem.IsL.update e f
 rw [hf] at q
 refine I.write (x:=l) (e:=l) (by rw [hH];exact trivial) (.inl rfl) (fun b' u hb hu=>(Heap.get?_update_other s.heap (Obj.mapSeq f) (Ne.symm hb)).trans hu) ⟨_,q⟩ ?_
 exact ⟨hz,its',_,hv,q⟩
theorem Inv.lnew {its:List Value} {t':Nat} (I:Inv X pins σ H s) (hv:Vals ys its) (hz:ys.length<=sizeLine) :
  Inv X pins σ (upd H s.heap.objs.size (.lst ys)) { s with heap:=s.heap.push { cls:=.type "list",data:=.seq its.toArray },toks:=t' }:=
 I.laid (fun _ _ q=>Heap.get?_push_of_some _ q) (Nat.le_refl _) ⟨hz,its,0,hv,Heap.get?_push_size _ rfl⟩
theorem Inv.fresh (I:Inv X pins σ H s):H s.heap.objs.size=none:=I.hok.fresh (Nat.le_refl _)
theorem Inv.lstM (I:Inv X pins σ H s) (hH:H l=some (.lst xs)):xs.length<=sizeLine/\∃(its:List Value) (n:Nat),Vals xs its/\xs.length=its.length/\s.heap.get? l=some { cls:=.type "list",data:=.seq its.toArray n }:=by
 obtain ⟨z,its,n,r,e⟩:=I.hok l _ hH
 exact ⟨z,its,n,r,r.length,e⟩
theorem zge {n:Nat} (h:n<=sizeLine):Builtin.List.listTooLong n=false:=by
 unfold Builtin.List.listTooLong
 exact decide_eq_false (by omega)
end
section
variable {X:Cx}
def z54:V->List V->Hp->VK->Prop:=fun x vs H Q=>∃l xs y,x=.ref l/\vs=[y]/\H l=some (.lst xs)/\xs.length<sizeLine/\Q .non (upd H l (.lst (xs++[y])))
theorem z55:MtM X "list.append" z54:=by
 intro pins s σ H x vs v us Q I rx rv h
 obtain ⟨l,xs,y,rfl,rfl,hH,hz,q⟩:=h
 cases rx
 obtain ⟨u,rfl,ru⟩:=rv.one
 obtain ⟨z,its,n,r,hl,e⟩:=I.lstM hH
 refine call_meets F.slot_list_append ⟨_,e,rfl⟩ F.entry_list_append (F.args_list_append_2 _ _) (PySem.list_append l its.toArray n u (by rw [List.size_toArray];omega)) ⟨e,?_⟩
 refine ⟨.non,_,I.lset (its':=its++[u]) hH e (by simp) (r.append (.cons ru .nil)) ?_,rfl,q⟩
 rw [List.length_append,List.length_singleton]
 omega
def zk0:V->List V->Hp->VK->Prop:=fun x vs H Q=>∃l b xs zs,x=.ref l/\vs=[.ref b]/\H l=some (.lst xs)/\H b=some (.lst zs)/\xs.length+zs.length<=sizeLine/\Q .non (upd H l (.lst (xs++zs)))
theorem zn0:MtM X "list.extend" zk0:=by
 intro pins s σ H x vs v us Q I rx rv h
 obtain ⟨l,b,xs,zs,rfl,rfl,hH,hB,hz,q⟩:=h
 cases rx
 obtain ⟨u,rfl,ru⟩:=rv.one
 cases ru
 obtain ⟨z,its,n,r,hl,e⟩:=I.lstM hH
 obtain ⟨z2,its2,n2,r2,hl2,e2⟩:=I.lstM hB
 have hsz:its.toArray.size+its2.toArray.size<=sizeLine:=by rw [List.size_toArray,List.size_toArray];omega
 have hlong:¬(!its.toArray.isEmpty&&Builtin.List.listTooLong (its.toArray.size+its2.toArray.size))=true:=by
  rw [zge hsz,Bool.and_false]
  exact Bool.false_ne_true
 refine call_meets F.slot_list_extend ⟨_,e,rfl⟩ F.entry_list_extend (F.args_list_extend_2 _ _)
  (AutoSeq1.list_extend_list_list_0 l its.toArray n b its2.toArray n2 hlong (by rw [List.size_toArray];omega) (by omega)) ⟨e,e2,?_⟩
 refine ⟨.non,_,I.lset (its':=its++its2) hH e (by simp) (r.append r2) ?_,rfl,q⟩
 rw [List.length_append]
 omega
noncomputable def zru:R2:=fun x y H Q=>∃l b xs zs,x=.ref l/\y=.ref b/\H l=some (.lst xs)/\H b=some (.lst zs)/\xs.length+zs.length<=sizeLine/\∀p,H p=none->Q (.ref p) (upd H p (.lst (xs++zs)))
theorem zn1:OpR X (binaryOp .Add) zru:=by
 intro pins s σ H x y v u Q I rx ry h
 obtain ⟨l,b,xs,zs,rfl,rfl,hH,hB,hz,q⟩:=h
 cases rx
 cases ry
 obtain ⟨z,its,n,r,hl,e⟩:=I.lstM hH
 obtain ⟨z2,its2,n2,r2,hl2,e2⟩:=I.lstM hB
 refine PySem.P.add_list e e2 ?_ (by rw [List.size_toArray,List.size_toArray];omega)
 have ea:its.toArray++its2.toArray=(its++its2).toArray:=by simp
 rw [ea]
 exact ⟨.ref _,_,I.lnew (t':=s.toks) (r.append r2) (by rw [List.length_append];omega),rfl,q _ I.fresh⟩
end
section
variable {κ:Type} [DecidableEq κ]
noncomputable def zaf (kvs:List (κ×V)) (k:κ):Option V:=(kvs.find? fun kv=>decide (kv.1=k)).map (·.2)
theorem zag {p:κ×V} {r:List (κ×V)} {k:κ} (e:p.1=k):zaf (p::r) k=some p.2:=by simp [zaf,List.find?_cons,e]
theorem zah {p:κ×V} {r:List (κ×V)} {k:κ} (e:¬p.1=k):zaf (p::r) k=zaf r k:=by simp [zaf,List.find?_cons,e]
theorem RelO.isSome_eq {o:Option V} {u:Option Value} (r:RelO o u):o.isSome=u.isSome:=by
 cases o with
 | none=>cases u with
  | none=>rfl
  | some _=>exact (show False from r).elim
 | some _=>cases u with
  | none=>exact (show False from r).elim
  | some _=>rfl
theorem RelO.getD {o:Option V} {u:Option Value} {d:V} {d':Value} (r:RelO o u) (rd:RelV d d'):RelV (o.getD d) (u.getD d'):=by
 cases o with
 | none=>cases u with
  | none=>exact rd
  | some _=>exact (show False from r).elim
 | some _=>cases u with
  | none=>exact (show False from r).elim
  | some _=>exact r
theorem KV.val {kvs:List (κ×V)} {vs:List (κ×Value)} (r:KV kvs vs) (k:κ):RelO (zaf kvs k) (valueAt vs k):=by
 unfold KV at r
 induction r with
 | nil=>exact True.intro
 | @cons p q ps qs h t ih=>
  obtain ⟨h1,h2⟩:=h
  by_cases e:p.1=k
  . have e':q.1=k:=h1.symm.trans e
    have b:valueAt (q::qs) k=some q.2:=by simp [valueAt,List.find?_cons,e']
    rw [zag e,b];exact h2
  . have e':¬q.1=k:=fun z=>e (h1.trans z)
    have b:valueAt (q::qs) k=valueAt qs k:=by simp [valueAt,List.find?_cons,e']
    rw [zah e,b];exact ih
theorem KV.length {kvs:List (κ×V)} {vs:List (κ×Value)} (r:KV kvs vs):kvs.length=vs.length:=Paired.length r
end
theorem zk1 {P:Program} {w:World} {k:Key} {u:Value} (r:RelV (kV k) u):(z24 P w).is k u=true:=by
 cases k with
 | inl i=>obtain ⟨t,e⟩:=(show ∃t,u=Value.int i t from r);subst e;exact z9a P w i t
 | inr x=>obtain ⟨t,e⟩:=(show ∃t,u=Value.str x t from r);subst e;exact z9b P w x t
theorem z8a {P:Program} {w:World}:∀{ks:List Key} {us:List Value},Vals (ks.map kV) us->ItemsAre (z24 P w) ks us
 | [],_,r=>by rw [List.map_nil] at r;cases r;exact .nil
 | k::ks,_,r=>by
  rw [List.map_cons] at r
  cases r with
  | cons h t=>exact .cons (zk1 h) (z8a t)
abbrev KT (H:Hp):List (List Key×V)->List (List Key×Addr×Value)->Prop:=Paired fun p q=>p.1=q.1/\H q.2.1=some (.tup (p.1.map kV))/\RelV p.2 q.2.2
theorem KT.val {H:Hp} {kvs:List (List Key×V)} {xs:List (List Key×Addr×Value)} (r:KT H kvs xs) (k:List Key):RelO (zaf kvs k) ((atKey xs k).map (·.2)):=by
 induction r with
 | nil=>exact True.intro
 | @cons p q ps qs h t ih=>
  obtain ⟨h1,_,h2⟩:=h
  by_cases e:p.1=k
  . have e':q.1=k:=h1.symm.trans e
    have b:atKey (q::qs) k=some q.2:=by simp [atKey,List.find?_cons,e']
    rw [zag e,b];exact h2
  . have e':¬q.1=k:=fun z=>e (h1.trans z)
    have b:atKey (q::qs) k=atKey qs k:=by simp [atKey,List.find?_cons,e']
    rw [zah e,b];exact ih
section
variable {P:Program} {w:World} {H:Hp} {h:Heap} {a:Addr}
theorem zn2 {u:HO} (ok:HOk P w H h) (e:Rd H a u):ObjOk P w H h a u:=e.ok ok
theorem zgf {kvs:List (Key×V)} (ok:HOk P w H h) (e:Rd H a (.dK kvs)):kvs.length<=sizeLine/\(a==sysModules)=false/\∃vs,KV kvs vs/\h.DictOf (z24 P w) a vs:=
 show ObjOk P w H h a (.dK kvs) from zn2 ok e
theorem zd1 {ks:List Key} (ok:HOk P w H h) (e:H a=some (.tup (ks.map kV))):(tupleKind (z24 P w)).is h ks a:=by
 obtain ⟨_,its,r,o,h1,h2,n,h3⟩:=(show ObjOk P w H h a (.tup (ks.map kV)) from ok a _ e)
 exact ⟨o,its.toArray,n,h1,h2,h3,by simpa using z8a r⟩
theorem zk2 {kvs:List (List Key×V)} (ok:HOk P w H h) (e:Rd H a (.dT kvs)):kvs.length<=sizeLine/\(a==sysModules)=false /\
  ∃xs,KT H kvs xs/\h.DictOfH (tupleKind (z24 P w)) a xs:=by
 obtain ⟨z,y,xs,r,o,es,ep,h1,h2,h3,h4,h5⟩:=(show ObjOk P w H h a (.dT kvs) from zn2 ok e)
 refine ⟨z,y,xs,r,o,es,ep,h1,h2,h3,h4,fun x hx=>?_,h5⟩
 have all:∀{l:List (List Key×V)} {m:List (List Key×Addr×Value)},KT H l m->∀x∈m,(tupleKind (z24 P w)).is h x.1 x.2.1:=by
  intro l m q
  induction q with
  | nil=>intro x hx;exact nomatch hx
  | @cons p q ps qs hq t ih=>
   intro x hx
   rcases List.mem_cons.mp hx with e | hx
   . subst e
     exact zd1 ok (by rw [<-hq.1];exact hq.2.1)
   . exact ih x hx
 exact all r x hx
end
def DGet (H:Hp) (a:Addr) (y:V) (r:Option V):Prop:=
 (∃kvs k,Rd H a (.dK kvs)/\y=kV k/\r=zaf kvs k)\/∃kvs k b,Rd H a (.dT kvs)/\y=.ref b/\H b=some (.tup (k.map kV))/\r=zaf kvs k
theorem DGet.k {H:Hp} {a:Addr} {kvs:List (Key×V)} {k:Key} (e:H a=some (.dK kvs)):DGet H a (kV k) (zaf kvs k):=.inl ⟨kvs,k,.inl e,rfl,rfl⟩
theorem DGet.t {H:Hp} {a b:Addr} {kvs:List (List Key×V)} {k:List Key} (e:H a=some (.dT kvs)) (eb:H b=some (.tup (k.map kV))):DGet H a (.ref b) (zaf kvs k):=.inr ⟨kvs,k,b,.inl e,rfl,eb,rfl⟩
section
variable {X:Cx} {pins:List (Addr×Obj)} {σ:St} {H:Hp} {s:Shared} {a:Addr} {y v:V} {u r:Value} {o:Option V} {A:Around} {E:Value->Shared->Prop}
theorem Inv.big (I:Inv X pins σ H s):sysModules<s.heap.objs.size:=by
 have h:mainGlobals<s.heap.objs.size:=(I.mod.glob.keeps I.bk).lt
 exact Nat.lt_trans (by decide) h
theorem zd2 {Q:Value->Shared->Prop} (hu:A.units+1<cLine) (I:Inv X pins σ H s) (g:DGet H a y (some v)) (ry:RelV y u) (h:∀w' s',Inv X pins σ H s'->RelV v w'->Q w' s') :
  wpAny (model X.prog X.w) A (getItem (.ref a) u) Q E s:=by
 rcases g with ⟨kvs,k,e,ey,l⟩ | ⟨kvs,k,b,e,ey,eb,l⟩
 . subst ey
   obtain ⟨z,hd,vs,rel,dd⟩:=zgf I.hok e
   obtain ⟨w',hw,rw'⟩:=RelO.some_of (v:=v) (o:=valueAt vs k) (by rw [l];exact rel.val k)
   exact wpAny_getItem_of (zk1 ry) dd.mapOf hw (h w' _ (I.tok _) rw')
 . subst ey
   cases (show u=Value.ref b from ry)
   obtain ⟨z,hd,xs,rel,dd⟩:=zk2 I.hok e
   obtain ⟨w',hw,rw'⟩:=RelO.some_of (v:=v) (o:=(atKey xs k).map (·.2)) (by rw [l];exact rel.val k)
   obtain ⟨p,hp,hp2⟩:=Option.map_eq_some_iff.mp hw
   refine wpAny_getItem_heap (tupleKind_room_in1 hu) (zd1 I.hok eb) dd hp ?_
   rw [hp2]
   exact h w' _ (I.tok _) rw'
theorem zvm {Q:Value->Shared->Prop} (hu:A.units+1<cLine) (I:Inv X pins σ H s) (g:DGet H a y o) (ry:RelV y u) (h:∀s',Inv X pins σ H s'->Q (.bool o.isSome) s') :
  wpAny (model X.prog X.w) A (compareOp .In u (.ref a)) Q E s:=by
 rcases g with ⟨kvs,k,e,ey,l⟩ | ⟨kvs,k,b,e,ey,eb,l⟩
 . subst ey
   obtain ⟨z,hd,vs,rel,dd⟩:=zgf I.hok e
   refine wpAny_in_of (zk1 ry) hd dd.mapOf ?_
   rw [<-(rel.val k).isSome_eq,<-l]
   exact h _ (I.tok _)
 . subst ey
   cases (show u=Value.ref b from ry)
   obtain ⟨z,hd,xs,rel,dd⟩:=zk2 I.hok e
   refine wpAny_in_heap (tupleKind_room_in1 hu) (zd1 I.hok eb) hd dd ?_
   have q:=(rel.val k).isSome_eq
   rw [Option.isSome_map] at q
   rw [<-q,<-l]
   exact h _ (I.tok _)
theorem zk3 {h':Heap} {t':Nat} {ob:HO} (I:Inv X pins σ H s) (mu:Mut (H a)) (hs:Heap.SameBut a s.heap h') (he:∃q,h'.get? a=some q) (new:ObjOk X.prog X.w (upd H a ob) h' a ob) :
  Inv X pins σ (upd H a ob) { s with heap:=h',toks:=t' }:=
 I.write (x:=a) (e:=a) mu (.inl rfl) (fun b q hb z=>(hs.2 b hb).trans z) he new
end
section
variable {X:Cx} {pins:List (Addr×Obj)} {σ:St} {H:Hp} {s:Shared} {a:Addr} {kvs:List (Key×V)} {k:Key} {u:Value} {A:Around} {E:Value->Shared->Prop}
theorem zrv {Q:Value->Shared->Prop} (I:Inv X pins σ H s) (e:Rd H a (.dK kvs)) (h:∀t s',Inv X pins σ H s'->Q (.int kvs.length t) s'):wpAny (model X.prog X.w) A (call (.builtin "len") [.ref a]) Q E s:=by
 obtain ⟨z,hd,vs,rel,dd⟩:=zgf I.hok e
 refine call_len_dict hd dd (by rw [<-rel.length];rw [sizeLine_eq] at z;omega) ?_
 rw [<-rel.length]
 exact h _ _ (I.tok _)
end
theorem z9g {X:Cx} {pins:List (Addr×Obj)} {σ:St} {H:Hp} {s:Shared} {a:Addr} {y:V} {o:Option V} (I:Inv X pins σ H s) (g:DGet H a y o):s.TypeIs (.ref a) "dict":=by
 rcases g with ⟨kvs,k,e,_,_⟩ | ⟨kvs,k,b,e,_,_,_⟩
 . obtain ⟨_,_,vs,_,dd⟩:=zgf I.hok e
   exact dd.typeIs
 . obtain ⟨_,_,xs,_,dd⟩:=zk2 I.hok e
   exact dd.typeIs
structure M1 (X:Cx) (o:Expr) (m:Str) (apos:Pos) (e:Expr) (cpos:Pos):Prop where
 base:attributeBase o m X.env (eval o X.env)=eval o X.env
 few:((backTo cpos (starEach [e] X.env)).all (fun x=>!x.1)&&(backToKw cpos (keywordEach [] X.env)).all (fun x=>x.1.isSome)
  && decide (([e]:List Expr).length+([]:List Keyword).length+(if ([]:List Keyword).isEmpty then 0 else 1)<30))=true
 line:(apos.endLine==cpos.line)=true
 trees:backTo cpos (starEach [e] X.env)=[(false,eval e X.env)]
structure M2 (X:Cx) (o:Expr) (m:Str) (apos:Pos) (e f:Expr) (cpos:Pos):Prop where
 base:attributeBase o m X.env (eval o X.env)=eval o X.env
 few:((backTo cpos (starEach [e,f] X.env)).all (fun x=>!x.1)&&(backToKw cpos (keywordEach [] X.env)).all (fun x=>x.1.isSome)
  && decide (([e,f]:List Expr).length+([]:List Keyword).length+(if ([]:List Keyword).isEmpty then 0 else 1)<30))=true
 line:(apos.endLine==cpos.line)=true
 trees:backTo cpos (starEach [e,f] X.env)=[(false,eval e X.env),(false,eval f X.env)]
end L2
namespace Att
open PySem PySem.W PySem.Calls PyProof.Rows
theorem z56 {P:Params} {h:Heap}:∀(ns:List Int) (vs:List Value),WellAll P h vs (ns.map WData.int)->IntsAre vs ns:=by
 intro ns
 induction ns with
 | nil=>
  intro vs w
  rw [List.map_nil] at w
  cases w
  exact .nil
 | cons n ns ih=>
  intro vs w
  rw [List.map_cons] at w
  cases w with
  | cons a b=>
   cases a
   exact .cons _ _ (ih _ b)
theorem zd3 {l:OpenLaw} {n:Nat} (hn:l.most=some n) {P:Params} {h:Heap} {args:List WData} {vals:List Value}
  (hpre:l.row.toRowW.claim.pre args=true) (hwl:WellAll P h vals args) :
  ∃a vs ns,vals=[Value.ref a]/\args=[WData.list (ns.map WData.int)]/\h.get? a=some { cls:=.type "list",data:=.seq vs.toArray }/\IntsAre vs ns/\ns.length<=n:=by
 have hsh:WShape.hasAll [] args [.list .int]=true:=(pre_splitW hpre).1
 have hc:l.pre.holds [] { args:=args }=true:=(pre_splitW hpre).2
 obtain ⟨d,r,rfl,h1,h2⟩:=hasAllW_cons hsh
 obtain rfl:=hasAllW_nil h2
 obtain ⟨xs,rfl,h3⟩:=hasW_list h1
 obtain ⟨ns,rfl⟩:=items_int h3
 have hlen:ns.length<=n:=by
  unfold OpenLaw.pre at hc
  have h4:(WTm.not (.lt (.lit (.int (n:Int))) (.len (.arg 0)))).holds [] { args:=[.list (ns.map .int)] }=true:=by
   have h4:=(holds_andW hc).1
   rw [hn] at h4
   exact h4
  have h5:=condW_of h4 (w_not (w_lt w_lit (w_len_list (w_arg rfl))))
  rw [List.length_map] at h5
  refine Nat.le_of_not_lt fun q=>?_
  have q':(n:Int)<((ns.length:Nat):Int):=by omega
  first
   | (rw [decide_eq_true q'] at h5;exact absurd h5 (by decide))
   | (simp at h5;omega)
 cases hwl with
 | cons w1 w2=>
  cases w2
  cases w1 with
  | list ho hall=>exact ⟨_,_,ns,rfl,rfl,ho,z56 ns _ hall,hlen⟩
theorem zd4 (l:OpenLaw) (args:List WData):l.row.toRowW.claim.post args (.bool true) args=true:=
 postW_of (r:=l.row.toRowW) (X:=(true==true))
  (show WShape.has [] (.bool true) .bool=true by first | rfl | decide | simp [WShape.has,WShape.arms,WShape.armsAll])
  (show (WTm.eq .res (.lit (.bool true))).value [] { args:=args,res:=some (.bool true),after:=args }=some (.bool (true==true)) from w_eq_bool (w_res rfl) w_lit) rfl
theorem attach_call {l:OpenLaw} {n:Nat} {q:Program} {loose:List Str} {XP:(Str->Option Value)->Heap->Prop} {YP:World->Heap->Prop} {d:DefRec}
  (hn:l.most=some n) (hdf:d.params.defaults=[])
  (call:∀(w:World) (s₀ s₁:Shared) (mg mb:Str->Option Value) (fa:Addr) (o:Obj) (pm cd doc:Value) (a:Addr) (vs:List Value) (ns:List Int),
   Ground q loose [] XP w s₀ mg mb s₁.heap->YP w s₁.heap ->
   s₁.heap.get? fa=some o->o.data=.func (docDef d.name d.params d.body d.scope pm cd doc)->s₁.heap.CodeRec cd d.name->mg d.name=some (.ref fa) ->
   s₁.heap.get? a=some { cls:=.type "list",data:=.seq vs.toArray }->IntsAre vs ns->ns.length<=n->s₁.gens=#[] ->
   codeAny (model l.prog w) callerA (.call (.ref fa) ⟨[.ref a],[]⟩) (fun r s'=>r=.ok (.ret (.bool true))/\OldK s₁.heap s'.heap/\s'.os=s₁.os/\AllBare s'.gens) s₁) :
  WalkO q loose XP YP l.row.toRowW d [] (fun f vs=>PySem.call f vs):=by
 intro w s₀ s₁ mg mb G Y fa o pm cd doc dV kV ho hd hcd hD hmg hg args vals as hpre hlay hrd hwl hlo
 obtain rfl:dV=.none:=Dflts.none hD hdf
 obtain rfl:kV=.none:=Dflts.noKw hD
 obtain ⟨a,vs,ns,rfl,rfl,hobj,hints,hlen⟩:=zd3 hn hpre hwl
 refine enter_call (codeAny_mono (call w s₀ s₁ mg mb fa o pm cd doc a vs ns G Y ho (fd_plain hd) hcd hmg hobj hints hlen hg) fun r s' hq=>?_)
 obtain ⟨rfl,h2,h3,h4⟩:=hq
 exact ⟨.inl ⟨.bool true,.bool true,[],rfl,fun _=>rfl,.bool true,zd4 l _,fun _=>⟨List.Pairwise.nil,fun _ hm=>(nomatch hm)⟩⟩,h2,h3,h4⟩
section
variable {prog:Program} {w:World} {A:Around} {E:Value->Shared->Prop} {s:Shared} {K:Frag}
def noObjs (h:Heap):Heap:={ h with objs:=#[] }
theorem noObjs_get (h:Heap) (b:Addr):(noObjs h).get? b=none:=by
 cases e:(noObjs h).get? b with
 | none=>rfl
 | some o=>exact absurd (Heap.lt_size e) (Nat.not_lt_zero _)
theorem fr_all {h:Heap} {L:Addr} {m:Str->Option Value} (n:h.Ns L m):Fr (noObjs h) L h m:=
 ⟨n,fun b o e=>(by rw [noObjs_get] at e;cases e),Nat.zero_le _⟩
end
end Att
namespace L2
open PySem PySem.Spec PyProof.Rows
theorem z57:∀{vs:List Value} {ns:List Int},IntsAre vs ns->Vals (ns.map V.int) vs
 | _,_,.nil=>.nil
 | _,_,.cons n t h=>.cons ⟨t,rfl⟩ (z57 h)
def zrd (H:Hp):Prop:=∀b,H b=none\/∃o xs,H b=some (.frz o (.lst xs))
theorem zgg {P:Program} {w:World} {K:Frag} {mg mb:Str->Option Value} {CX:CXT} {k:Nat} {fa a:Addr} {fd:FuncData} {x:Str} {sp:Sp} {s₁:Shared} {vs:List Value} {ns:List Int}
  (KX:K.In s₁.heap) (hns:s₁.heap.Ns mainGlobals mg) (hb:s₁.heap.Ns builtinsNs mb) (hbb:∀x:Str,x≠"__name__"->mb x=bootBuiltins x) (hlim:s₁.heap.NoLimit) (hg:s₁.gens=#[])
  (ha:s₁.heap.get? a=some { cls:=.type "list",data:=.seq vs.toArray }) (hi:IntsAre vs ns) (hl:ns.length<=sizeLine) (hr:Room k callerA)
  (F:∀base:Heap,K.In base->base.Ns mainGlobals mg->FnOk P w K mg base CX k fa fd [x] sp) (hbind:∀(s:Shared) (u:Value),BindsTo s fd ⟨[u],[]⟩ [(x,u)])
  (hsp:∀H:Hp,zrd H->SqL K H a (ns.map V.int)->sp [.ref a] H (fun v _=>v=.bl true) fun _ _ _=>False)
  (hCX:∀H e s',CX [] H s₁ (fun _ _ _=>False) e s'->False) :
  codeAny (model P w) callerA (.call (.ref fa) ⟨[.ref a],[]⟩) (fun r s'=>r=.ok (.ret (.bool true))/\OldK s₁.heap s'.heap/\s'.os=s₁.os/\AllBare s'.gens) s₁:=by
 have rv:=z57 hi
 have lenV:=hi.length
 have core:∀H:Hp,zrd H->SqL K H a (ns.map V.int)->HOk P w H s₁.heap->(∀b,H b≠none->b=a)->(H a≠none->K.lookup a=none) ->
   codeAny (model P w) callerA (.call (.ref fa) ⟨[.ref a],[]⟩) (fun r s'=>r=.ok (.ret (.bool true))/\OldK s₁.heap s'.heap/\s'.os=s₁.os/\AllBare s'.gens) s₁:=by
  intro H hO hS hok hA hK
  have base_of:∀{b:Addr} {o:Obj},s₁.heap.get? b=some o->H b=none->(zg9 s₁.heap H).get? b=some o:=fun e n=>zga e n
  have noA:∀{b:Addr} {o:Obj} {es:Array DictEntry} {ep:Nat},s₁.heap.get? b=some o->o.data=.dict es ep->H b=none:=fun {b o es ep} e d=>by
   cases q:H b with
   | none=>rfl
   | some u=>
    have e':b=a:=hA b (by rw [q];simp)
    subst e'
    rw [ha] at e;cases e
    have d':Data.seq vs.toArray _=Data.dict es ep:=d
    cases d'
  have nsK:∀{b:Addr} {m:Str->Option Value},s₁.heap.Ns b m->(zg9 s₁.heap H).Ns b m:=fun {b m} ⟨o,es,ep,e,d,r⟩=>⟨o,es,ep,base_of e (noA e d),d,r⟩
  have hKb:K.In (zg9 s₁.heap H):=fun b o e=>base_of (KX b o e) (by
   cases q:H b with
   | none=>rfl
   | some u=>
    have e':b=a:=hA b (by rw [q];simp)
    subst e'
    rw [hK (by rw [q];simp)] at e;cases e)
  have hM:Mod K mg (zg9 s₁.heap H):=⟨hKb,nsK hns,⟨mb,nsK hb,hbb⟩,let ⟨mc,h1,h2⟩:=hlim;⟨mc,nsK h1,h2⟩⟩
  have e0:Env0 P w K mg (zg9 s₁.heap H) callerA [] s₁ H:=⟨rfl,hM,fun b o e=>zjm e,Nat.le_of_eq (zco _ _),trivial,fun b hb=>absurd (show b∈([]:List Addr) from hb) (by simp),hok,.of_eq hg⟩
  refine codeAny_mono ((F _ hKb (nsK hns)).run callerA [] s₁ H ⟨[.ref a],[]⟩ [.ref a] [.ref a] _ _ hr e0 (hbind s₁ (.ref a)) (.cons rfl .nil) (hsp H hO hS)) fun r s' h=>?_
  cases r with
  | error e=>exact (hCX H e s' h).elim
  | ok fl=>
   cases fl with
   | next=>exact False.elim h
   | brk=>exact False.elim h
   | cont=>exact False.elim h
   | ret u=>
    obtain ⟨v,H',os,bare,un,hok',r',q⟩:=h
    have q':v=.bl true:=q
    subst q'
    obtain rfl:u=Value.bool true:=r'
    refine ⟨rfl,OldK.of_keep fun b o e=>?_,os,bare⟩
    cases q:H b with
    | none=>exact un.keep b o e q (by intro z;exact absurd (show b∈([]:List Addr) from z) (by simp)) (by simp)
    | some u=>
     rcases hO b with z | ⟨ob,xs,z⟩
     . rw [q] at z;cases z
     . have z2:=un.frzs b ob _ z
       obtain ⟨e1,_⟩:=hok b _ z
       obtain ⟨e2,_⟩:=hok' b _ z2
       rw [e] at e1;cases e1
       exact e2
 cases hk:K.lookup a with
 | some o=>
  have e:=KX a o hk
  rw [ha] at e
  cases e
  refine core (fun _=>none) (fun _=>.inl rfl) (.inr ⟨_,vs.toArray,_,hk,rfl,rfl,rfl,by rw [List.size_toArray,lenV];exact hl,by simpa using rv⟩) (fun b u z=>by have z':(none:Option HO)=some u:=z;cases z') (fun b z=>absurd rfl z) fun z=>absurd rfl z
 | none=>
  refine core (fun b=>if b=a then some (.frz { cls:=.type "list",data:=.seq vs.toArray } (.lst (ns.map V.int))) else none) (fun b=>?_) (.inl (.inr ⟨{ cls:=.type "list",data:=.seq vs.toArray },if_pos rfl⟩)) (fun b u z=>?_) (fun b z=>?_) fun _=>hk
  . by_cases hb:b=a
    . exact .inr ⟨_,_,if_pos hb⟩
    . exact .inl (if_neg hb)
  . by_cases hb:b=a
    . have z':=(if_pos hb).symm.trans z
      cases z'
      subst hb
      exact ⟨ha,by rw [List.length_map];exact hl,vs,_,rv,ha⟩
    . have z':=(if_neg hb).symm.trans z
      cases z'
  . by_cases hb:b=a
    . exact hb
    . exact absurd (if_neg hb) z
theorem walk_of {l:PySem.W.OpenLaw} {n k:Nat} {q:Program} {loose:List Str} {XP:(Str->Option Value)->Heap->Prop} {YP:World->Heap->Prop} {d:DefRec} {K:Params->Frag} {CX:World->CXT} {sp:World->Sp} {x:Str}
  (hn:l.most=some n) (hn2:n<=sizeLine) (hdf:d.params.defaults=[]) (hr:Room k callerA)
  (hY:∀(w:World) (h:Heap),YP w h->(K w.params).In h)
  (F:∀(w:World) (mg:Str->Option Value) (fa:Addr) (h:Heap),(K w.params).In h->h.Ns mainGlobals mg->mg d.name=some (.ref fa) ->
   ∃fd:FuncData,(∀(s:Shared) (u:Value),BindsTo s fd ⟨[u],[]⟩ [(x,u)]) /\
    ∀base:Heap,(K w.params).In base->base.Ns mainGlobals mg->FnOk l.prog w (K w.params) mg base (CX w) k fa fd [x] (sp w))
  (hsp:∀(w:World) (H:Hp) (a:Addr) (ns:List Int),ns.length<=n->zrd H->SqL (K w.params) H a (ns.map V.int)->sp w [.ref a] H (fun v _=>v=.bl true) fun _ _ _=>False)
  (hCX:∀(w:World) (H:Hp) (s:Shared) (e:Value) (s':Shared),CX w [] H s (fun _ _ _=>False) e s'->False) :
  PySem.W.WalkO q loose XP YP l.row.toRowW d [] (fun f vs=>PySem.call f vs):=by
 refine Att.attach_call hn hdf fun w s₀ s₁ mg mb fa o pm cd doc a vs ns G Y ho hd hcd hmg hobj hints hlen hg=>?_
 have KX:=hY w _ Y
 obtain ⟨fd,hb,hF⟩:=F w mg fa _ KX G.T.g hmg
 exact zgg KX G.T.g G.T.b G.T.builtins G.T.nolimit hg hobj hints (Nat.le_trans hlen hn2) hr hF hb (fun H hO hS=>hsp w H a ns hlen hO hS) fun H e s'=>hCX w H s₁ e s'
noncomputable def z0r (s:Stmt):Arguments:=match s with
 | .FunctionDef _ a _ _ _ _ _ _ _ _=>a
 | _=>{ posonlyargs:=[],args:=[],vararg:=none,kwonlyargs:=[],kw_defaults:=[],kwarg:=none,defaults:=[] }
noncomputable def z0k (s:Stmt):List Stmt:=match s with
 | .FunctionDef _ _ b _ _ _ _ _ _ _=>b
 | _=>[]
noncomputable def z02 (s:Stmt):Scope:=match s with
 | .FunctionDef _ _ _ _ _ _ sc _ _ _=>sc
 | _=>{ kind:=.function,names:=[],isGenerator:=false,isCoroutine:=false }
abbrev CX0:CXT:=fun _ _ _ _ _ _=>False
structure Fun (K:Frag) (x qual:Str) (st:Stmt) (f:Addr) (fd:FuncData):Prop where
 ex:∃(oc:Value) (od:Option Addr) (kV doc pm:Value) (an:Option Addr) (cdv ct:Value) (osl:Array (Option Value)),
  fd=PySem.W.fnOf x qual (z0r st) (z0k st) (z02 st) .none kV doc pm an cdv ct/\K.lookup f=some ⟨oc,od,.func fd,osl⟩/\codeIn K cdv qual=true
 kp:keepIn K (.ref f)=true
section
variable {P:Program} {w:World} {K:Frag} {mg:Str->Option Value} {base:Heap}
theorem Fun.ok {x qual:Str} {st:Stmt} {f:Addr} {fd:FuncData} {N ps:List Str} {k:Nat} {sp:Sp} (F:Fun K x qual st f fd) (S:FnScope N ps (z02 st)) (len:∀vs H Q E,sp vs H Q E->vs.length=ps.length)
  (hbody:∀(cdv:Value) (A:Around) (outer:List Env) (s:Shared) (H:Hp) (vs:List V) (Q:VK) (E:XK),Room k (A.deeper (envOfC qual (z02 st) s.heap.objs.size f cdv))->sp vs H Q E ->
   ∃t,PSs (zg6 CX0 P w K mg base N qual (z02 st) f cdv A outer s H E).nox (z0k st) t/\t { nx:=fun _ H'=>Q .non H',rt:=Q } (z49 N vs) H):FnOk P w K mg base CX0 (k+1) f fd ps sp:=by
 obtain ⟨oc,od,kV,doc,pm,an,cdv,ct,osl,rfl,lk,hcd⟩:=F.ex
 refine zmw lk hcd S len fun A outer s H vs Q E hr hsp=>?_
 obtain ⟨t,h,q⟩:=hbody cdv A outer s H vs Q E hr hsp
 exact ⟨t,h.nox,q⟩
theorem Fun.binds {x qual:Str} {st:Stmt} {f:Addr} {fd:FuncData} {ps:List Str} (F:Fun K x qual st f fd)
  (h:∀(kV doc pm:Value) (an:Option Addr) (cdv ct:Value) (us:List Value),us.length=ps.length->bindArgs (PySem.W.fnOf x qual (z0r st) (z0k st) (z02 st) .none kV doc pm an cdv ct) ⟨us,[]⟩=pure (ps.zip us)):Binds K fd ps []:=by
 obtain ⟨oc,od,kV,doc,pm,an,cdv,ct,osl,rfl,lk,hcd⟩:=F.ex
 exact .all (h kV doc pm an cdv ct)
theorem z2y {x qual:Str} {st:Stmt} {f:Addr} {oc:Value} {od an:Option Addr} {osl:Array (Option Value)} {kV doc pm cdv ct:Value} (l:K.lookup f=some ⟨oc,od,.func (PySem.W.fnOf x qual (z0r st) (z0k st) (z02 st) .none kV doc pm an cdv ct),osl⟩)
 (c:codeIn K cdv qual=true) (k:keepIn K (.ref f)=true):Fun K x qual st f (PySem.W.fnOf x qual (z0r st) (z0k st) (z02 st) .none kV doc pm an cdv ct):=⟨⟨oc,od,kV,doc,pm,an,cdv,ct,osl,rfl,l,c⟩,k⟩
end
theorem zd5 {n:Nat} (h:n<=1000):n<sizeLine:=Nat.lt_of_le_of_lt h (by decide)
section
variable {X:Cx}
theorem call_lenD:CallR X (.builtin "len") (fun xs H Q=>∃a kvs,xs=[V.ref a]/\H a=some (.dK kvs)/\Q (.int kvs.length) H):=by
 intro pins s σ H xs us Q I r h
 obtain ⟨a,kvs,rfl,ha,q⟩:=h
 obtain ⟨u,rfl,ru⟩:=z48 r
 cases ru
 exact zrv I (.inl ha) fun t s' I'=>⟨.int kvs.length,H,I',⟨t,rfl⟩,q⟩
end
def Same (H H':Hp):Prop:=∀b o,H b=some o->H' b=some o
theorem Same.refl (H:Hp):Same H H:=fun _ _ h=>h
theorem Same.trans {H H1 H2:Hp} (a:Same H H1) (b:Same H1 H2):Same H H2:=fun c o h=>b c o (a c o h)
theorem Same.free {H H':Hp} (e:Same H H') {l:Addr} (h:H' l=Option.none):H l=Option.none:=by
 cases q:H l with
 | none=>rfl
 | some o=>
  rw [e l o q] at h
  cases h
theorem Same.seq {K:Frag} {H H':Hp} {a:Addr} {xs:List V} (e:Same H H') (h:SqL K H a xs):SqL K H' a xs:=by
 rcases h with (h | ⟨o,h⟩) | h
 . exact .inl (.inl (e _ _ h))
 . exact .inl (.inr ⟨o,e _ _ h⟩)
 . exact .inr h
end L2
set_option maxHeartbeats 4000000
namespace L2
open PySem PySem.Spec PyProof.Rows
noncomputable def z0s (cells:List (Str×Addr)):List (Str×NameKind)->List (Str×Addr)->List (Str×Addr)
 | [],acc=>acc
 | (n,k)::r,acc=>z0s cells r (if k==.free then (n,(cells.lookup n).getD 0)::acc else acc)
theorem z3m {cells:List (Str×Addr)} {x:Str} {c:Addr}:∀{names:List (Str×NameKind)} {acc:List (Str×Addr)},
  (∀y∈names,y.2=.free->∃c,cells.lookup y.1=some c)->(∀y c,acc.lookup y=some c->cells.lookup y=some c)->(z0s cells names acc).lookup x=some c->cells.lookup x=some c
 | [],acc,_,ha,h=>ha x c h
 | (n,k)::r,acc,hf,ha,h=>by
  refine z3m (names:=r) (fun y hy=>hf y (List.mem_cons_of_mem _ hy)) (fun y c'=>?_) h
  by_cases hk:k=.free
  . subst hk
    obtain ⟨c0,e0⟩:=hf (n,.free) List.mem_cons_self rfl
    intro e
    have e1:(if (NameKind.free==NameKind.free)=true then (n,(cells.lookup n).getD 0)::acc else acc)=(n,(cells.lookup n).getD 0)::acc:=if_pos (show (NameKind.free==NameKind.free)=true from rfl)
    rw [e1,List.lookup_cons] at e
    cases hyn:y==n with
    | true=>
     rw [hyn] at e
     have e2:y=n:=by simpa using hyn
     subst e2
     have e3:=Option.some.inj e
     have e0':cells.lookup y=some c0:=e0
     rw [e0'] at e3 ⊢
     exact congrArg some e3
    | false=>rw [hyn] at e;exact ha y c' e
  . have e1:(if (k==NameKind.free)=true then (n,(cells.lookup n).getD 0)::acc else acc)=acc:=if_neg (by simpa using hk)
    rw [e1];exact ha y c'
theorem z3p {cells:List (Str×Addr)} {x:Str}:∀{names:List (Str×NameKind)} {acc:List (Str×Addr)},
  ((∃c,acc.lookup x=some c)\/∃y∈names,y.2=.free/\y.1=x)->∃c,(z0s cells names acc).lookup x=some c
 | [],acc,h=>by
  rcases h with h | ⟨y,hy,_⟩
  . exact h
  . cases hy
 | (n,k)::r,acc,h=>by
  refine z3p (names:=r) ?_
  by_cases hk:k=.free
  . subst hk
    have e1:(if (NameKind.free==NameKind.free)=true then (n,(cells.lookup n).getD 0)::acc else acc)=(n,(cells.lookup n).getD 0)::acc:=if_pos (show (NameKind.free==NameKind.free)=true from rfl)
    rw [e1,List.lookup_cons]
    cases hxn:x==n with
    | true=>exact .inl ⟨_,rfl⟩
    | false=>
     rcases h with h | ⟨y,hy,hf,e⟩
     . exact .inl h
     . rcases List.mem_cons.mp hy with z | z
       . subst z
         have e':n=x:=e
         subst e'
         simp at hxn
       . exact .inr ⟨y,z,hf,e⟩
  . have e1:(if (k==NameKind.free)=true then (n,(cells.lookup n).getD 0)::acc else acc)=acc:=if_neg (by simpa using hk)
    rw [e1]
    rcases h with h | ⟨y,hy,hf,e⟩
    . exact .inl h
    . rcases List.mem_cons.mp hy with z | z
      . subst z;exact absurd hf hk
      . exact .inr ⟨y,z,hf,e⟩
theorem z74 {scope:Scope} {env:Env} (hf:∀y∈scope.names,y.2=.free->∃c,env.cells.lookup y.1=some c):closureFor scope env=pure (z0s env.cells scope.names []):=by
 have go:∀(names:List (Str×NameKind)) (acc:List (Str×Addr)),(∀y∈names,y.2=.free->∃c,env.cells.lookup y.1=some c) ->
   (forIn names acc fun x cs=>if (x.2==NameKind.free)=true then do let a <-cellOf env x.1;pure (ForInStep.yield ((x.1,a)::cs)) else pure (ForInStep.yield cs):Sem (List (Str×Addr)))=pure (z0s env.cells names acc):=by
  intro names
  induction names with
  | nil=>intro acc _;rfl
  | cons p r ih=>
   intro acc h
   obtain ⟨n,k⟩:=p
   rw [List.forIn_cons]
   by_cases hk:k=.free
   . subst hk
     obtain ⟨c,e⟩:=h (n,.free) List.mem_cons_self rfl
     have e':env.cells.lookup n=some c:=e
     have e1:cellOf env n=pure c:=by unfold cellOf;rw [e']
     have e2:z0s env.cells ((n,NameKind.free)::r) acc=z0s env.cells r ((n,c)::acc):=by
      show z0s env.cells r (if (NameKind.free==NameKind.free)=true then (n,(env.cells.lookup n).getD 0)::acc else acc)=_
      rw [if_pos (show (NameKind.free==NameKind.free)=true from rfl),e'];rfl
     rw [e2,<-ih _ fun y hy=>h y (List.mem_cons_of_mem _ hy)]
     show ((if (NameKind.free==NameKind.free)=true then do let a <-cellOf env n;pure (ForInStep.yield ((n,a)::acc)) else pure (ForInStep.yield acc)) >>= _:Sem _)=_
     rw [if_pos (show (NameKind.free==NameKind.free)=true from rfl),e1]
     rfl
   . have hk':(k==NameKind.free)=false:=by simpa using hk
     have e2:z0s env.cells ((n,k)::r) acc=z0s env.cells r acc:=by
      show z0s env.cells r (if (k==NameKind.free)=true then _ else acc)=_
      rw [if_neg (by rw [hk'];exact Bool.false_ne_true)]
     rw [e2,<-ih _ fun y hy=>h y (List.mem_cons_of_mem _ hy)]
     show ((if (k==NameKind.free)=true then do let a <-cellOf env n;pure (ForInStep.yield ((n,a)::acc)) else pure (ForInStep.yield acc)) >>= _:Sem _)=_
     rw [if_neg (by rw [hk'];exact Bool.false_ne_true)]
     rfl
 have:=go scope.names [] hf
 unfold closureFor
 simpa using this
theorem z8b {prog:Program} {w:World} {A:Around} {R:Result->Shared->Prop} {s:Shared} {elt target iter:Expr} {ifs:List Expr} {scope:Scope} {pos:Pos} {it acc:Value} {env:Env} (I:Nat->Shared->Prop)
  (turn:∀n s,I n s->wpAny (model prog w) A (pyNext it) (fun r s₁=>match r with
   | none=>R (.ok .next) s₁
   | some v=>wpAny (model prog w) A (letOwnedTupleGo target it v) (fun _ s₁'=>wpAny (model prog w) A (assign target env v) (fun _ s₂=>
    wpAny (model prog w) A (forIn ifs true fun c r=>if r=true then do let ok <-isTrue c env (eval c env);pure (ForInStep.yield ok) else pure (ForInStep.yield r)) (fun ok s₃=>
     if ok=true then wpAny (model prog w) A (eval elt env) (fun x s₄=>
      wpAny (model prog w) A (call (.builtin "list.append") [acc,x]) (fun _ s₅=>∃m,m<n/\I m s₅) (fun _ _=>False) s₄) (fun _ _=>False) s₃
     else ∃m,m<n/\I m s₃) (fun _ _=>False) s₂) (fun _ _=>False) s₁') (fun _ _=>False) s₁) (fun _ _=>False) s)
  (n:Nat) (h:I n s) :
  codeAny (model prog w) A (.compLoop (.ListComp elt [⟨target,iter,ifs,0⟩] scope pos) 0 it acc env) R s:=by
 refine codeAny_loop rfl I (fun n s hI=>?_) n h
 show wpAny _ A ((compTurn (.ListComp elt [⟨target,iter,ifs,0⟩] scope pos) 0 it acc env).onRaise (fun x=>do noteFrame x env;theTreesLotGoes x)) _ _ s
 refine wpAny_noted ?_
 rw [compTurn_list]
 refine wpAny_bind (wpAny_standAt (wpAny_bind (wpAny_mono (turn n s hI) (fun r s₁ h₁=>?_) fun _ _ h'=>h'.elim)))
 cases r with
 | none=>exact wpAny_pure h₁
 | some v=>
  refine wpAny_bind (wpAny_mono h₁ (fun _ s₁' h₁'=>?_) fun _ _ h'=>h'.elim)
  refine wpAny_bind (wpAny_mono h₁' (fun _ s₂ h₂=>wpAny_bind (wpAny_mono h₂ (fun ok s₃ h₃=>?_) fun _ _ h'=>h'.elim)) fun _ _ h'=>h'.elim)
  cases ok with
  | false=>exact wpAny_pure ⟨rfl,h₃⟩
  | true=>
   exact wpAny_bind (wpAny_bind (wpAny_mono h₃ (fun x s₄ h₄=>wpAny_bind (wpAny_mono h₄ (fun _ s₅ h₅=>wpAny_pure (wpAny_pure ⟨rfl,h₅⟩)) fun _ _ h'=>h'.elim)) fun _ _ h'=>h'.elim))
theorem z2c {env:Env}:∀{names:List (Str×NameKind)} {x:Str},
  (names.map fun (n,k)=>if (k==NameKind.free&&env.scope.kind==.function&&env.kindOf n==some .cell) then (n,NameKind.cell) else (n,k)).lookup x =
   (names.lookup x).map fun k=>if (k==NameKind.free&&env.scope.kind==.function&&env.kindOf x==some .cell) then NameKind.cell else k
 | [],_=>rfl
 | (n,k)::r,x=>by
  have ih:=@z2c env r x
  show List.lookup x ((if (k==NameKind.free&&env.scope.kind==.function&&env.kindOf n==some .cell)=true then (n,NameKind.cell) else (n,k))::_)=_
  cases hx:x==n with
  | true=>
   have e:x=n:=by simpa using hx
   subst e
   by_cases hc:(k==NameKind.free&&env.scope.kind==.function&&env.kindOf x==some .cell)=true
   . rw [if_pos hc];simp only [List.lookup_cons,hx,Option.map_some,hc,if_true]
   . rw [if_neg hc];simp only [List.lookup_cons,hx,Option.map_some,hc,if_false];rfl
  | false=>
   by_cases hc:(k==NameKind.free&&env.scope.kind==.function&&env.kindOf n==some .cell)=true
   . rw [if_pos hc];simp only [List.lookup_cons,hx];exact ih
   . rw [if_neg hc];simp only [List.lookup_cons,hx];exact ih
noncomputable def z1a (X:Cx) (sc:Scope) (N':List Str) (fp:List Addr) (s₃:Shared) (H₃:Hp):Cx:=
 { X with env:=compEnvC sc (z0s X.env.cells sc.names []) s₃.heap.objs.size X.env,N:=N',s₀:=s₃,H₀:=H₃,outer:=X.stack,ex:=fp,fn:=fun _=>false,pn:=[],xe:=fun _ _=>False }
noncomputable def zg7 (ix:List Nat) (σ:St):St:=ix.map fun j=>(σ[j]?).getD none
structure CompOk (X:Cx) (sc:Scope) (caps:List Str) (ix:List Nat):Prop where
 calm:X.calm=true
 kind:sc.kind=.function
 ncell:∀y∈sc.names,y.2≠.cell
 free:∀y∈sc.names,y.2=.free->X.env.kindOf y.1=some .cell\/X.env.kindOf y.1=some .free
 names:∀y∈sc.names,y.2=.local->sc.names.lookup y.1=some .local
 cap:∀(j:Nat) x,caps[j]?=some x->sc.names.lookup x=some .free/\∃i,ix[j]?=some i/\X.N[i]?=some x
 len:ix.length=caps.length
noncomputable def z8c (fsc:Scope) (N:List Str) (sc:Scope) (caps:List Str) (ix:List Nat):Bool:=
 sc.kind==.function&&sc.names.all (fun y=>y.2 != .cell)&&sc.names.all (fun y=>y.2 != .free||(fsc.names.lookup y.1==some .cell||fsc.names.lookup y.1==some .free)) &&
  sc.names.all (fun y=>y.2 != .local||sc.names.lookup y.1==some .local)&&caps.all (fun x=>sc.names.lookup x==some .free)&&(ix.map fun i=>N[i]?)==caps.map some
theorem z1u {X:Cx} {sc:Scope} {caps:List Str} {ix:List Nat} (hc:X.calm=true) (h:z8c X.env.scope X.N sc caps ix=true):CompOk X sc caps ix:=by
 unfold z8c at h
 simp only [Bool.and_eq_true] at h
 obtain ⟨⟨⟨⟨⟨h1,h2⟩,h3⟩,h4⟩,h5⟩,h6⟩:=h
 have e6:(ix.map fun i=>X.N[i]?)=caps.map some:=by simpa using h6
 have elen:ix.length=caps.length:=by simpa using congrArg List.length e6
 refine ⟨hc,by simpa using h1,fun y hy=>?_,fun y hy hf=>?_,fun y hy hl=>?_,fun j x hj=>⟨?_,?_⟩,elen⟩
 . have:=List.all_eq_true.mp h2 y hy
   simpa using this
 . have:=List.all_eq_true.mp h3 y hy
   rw [hf] at this
   simp only [bne_self_eq_false,Bool.false_or,Bool.or_eq_true,beq_iff_eq] at this
   exact this
 . have:=List.all_eq_true.mp h4 y hy
   rw [hl] at this
   simpa using this
 . have:=List.all_eq_true.mp h5 x (List.mem_of_getElem? hj)
   simpa using this
 . have hjl:j<ix.length:=by rw [elen];exact (List.getElem?_eq_some_iff.mp hj).1
   refine ⟨ix[j],List.getElem?_eq_getElem hjl,?_⟩
   have q:=congrArg (fun l=>l[j]?) e6
   simp only [List.getElem?_map,List.getElem?_eq_getElem hjl,hj,Option.map_some] at q
   exact Option.some.inj q
section
variable {X:Cx} {sc:Scope} {tgs caps:List Str} {ix:List Nat} {pins:List (Addr×Obj)} {σ:St} {H:Hp} {s:Shared} {fp:List Addr}
theorem CompOk.free_cell (C:CompOk X sc caps ix) (I:Inv X pins σ H s):∀y∈sc.names,y.2=.free->∃c,X.env.cells.lookup y.1=some c:=fun y hy hf=>I.ok.has y.1 (C.free y hy hf)
theorem CompOk.sub (C:CompOk X sc caps ix) (I:Inv X pins σ H s) {x:Str} {c:Addr} (h:(z0s X.env.cells sc.names []).lookup x=some c):X.env.cells.lookup x=some c:=
 z3m (C.free_cell I) (fun _ _ e=>by cases e) h
theorem zbk (C:CompOk X sc caps ix) (I:Inv X pins σ H s) (hf:∀b∈fp,z81 X pins H b) (hl:∀b∈fp,b<s.heap.objs.size) {h':Heap} {t':Nat} {m:Str->Option Value} (hn:h'.Ns s.heap.objs.size m)
  (hk:∀b o,s.heap.get? b=some o->h'.get? b=some o) :
  Inv (z1a X sc (tgs++caps) fp s H) [] (List.replicate tgs.length none++zg7 ix σ) H { s with heap:=h',toks:=t' }:=by
 have sub:∀{x c},(z0s X.env.cells sc.names []).lookup x=some c->X.env.cells.lookup x=some c:=fun h=>C.sub I h
 have clt:∀{x c},X.env.cells.lookup x=some c->c<s.heap.objs.size:=fun {x c} h=>by
  obtain ⟨v,q⟩:=I.cell x c h
  exact q.lt
 refine ⟨⟨I.ok.mod,C.kind,I.ok.glob,I.ok.blt,Nat.le_refl _,fun x y c h1 h2=>I.ok.inj x y c (sub h1) (sub h2),fun x hx=>?_,fun x c hfn _=>?_,I.ok.hd,I.ok.frames,.inl rfl,fun b hb=>⟨?_,fun x c h z=>?_⟩,fun b o e=>I.bs b o e,Nat.le_trans I.ok.bsz I.sz,fun b o e hb=>?_,fun b hb hfs=>?_,I.stack,I.stkFree⟩,
  rfl,I.bare,Un.kept hk,⟨m,hn,fun i x v e1 e2 e3=>?_⟩,fun x c h=>?_,I.hok.fresh (Nat.le_refl _),fun x c h=>I.freeC x c (sub h),fun p hp=>absurd (show p∈([]:List (Addr×Obj)) from hp) (by simp),I.hok.kept hk,?_⟩
 . -- a cell or free name of the block has a cell
   have hx':(relabel sc X.env).names.lookup x=some .cell\/(relabel sc X.env).names.lookup x=some .free:=hx
   have e:(relabel sc X.env).names.lookup x=(sc.names.lookup x).map fun k=>if (k==NameKind.free&&X.env.scope.kind==.function&&X.env.kindOf x==some .cell) then NameKind.cell else k:=z2c
   rw [e] at hx'
   cases q:sc.names.lookup x with
   | none=>rw [q] at hx';rcases hx' with z | z<;>cases z
   | some k=>
    have hm:(x,k)∈sc.names:=PySem.mem_of_lookup q
    have hkf:k=.free:=by
     rw [q] at hx'
     simp only [Option.map_some] at hx'
     by_cases hkk:k=.free
     . exact hkk
     . have:(k==NameKind.free)=false:=by simpa using hkk
       simp only [this,Bool.false_and,Bool.false_eq_true,if_false] at hx'
       rcases hx' with z | z
       . exact absurd (Option.some.inj z) (C.ncell _ hm)
       . exact Option.some.inj z
    subst hkf
    exact z3p (.inr ⟨_,hm,rfl,rfl⟩)
 . exact absurd (show false=true from hfn) Bool.false_ne_true
 . exact Nat.ne_of_lt (hl b hb)
 . exact (hf b hb).2.2.2.2.1 x c (sub h) z
 . obtain ⟨_,_,_,hx,_⟩:=hf b hb
   rcases hx with z | z
   . exact I.ok.noex b o e z
   . exact absurd (Nat.lt_of_lt_of_le (Heap.lt_size e) (Nat.le_trans I.ok.bsz z)) (Nat.lt_irrefl _)
 . obtain ⟨_,h1,h2,_⟩:=hf b hb
   rcases List.mem_cons.mp (I.stkSub b hfs) with z | z
   . exact h1 z
   . exact h2 z
 . -- the captured names' values
   have hi:tgs.length<=i:=by
    by_cases hi:i<tgs.length
    . rw [List.getElem?_append_left (by simpa using hi),List.getElem?_replicate] at e2
      split at e2<;>cases e2
    . omega
   have e1':caps[i - tgs.length]?=some x:=by
    have:(tgs++caps)[i]?=some x:=e1
    rw [List.getElem?_append_right hi] at this
    exact this
   rw [List.getElem?_append_right (by simpa using hi),List.length_replicate] at e2
   obtain ⟨hfr,j,hj,hjN⟩:=C.cap _ x e1'
   have e2':σ[j]?=some (some v):=by
    unfold zg7 at e2
    rw [List.getElem?_map,hj] at e2
    simp only [Option.map_some] at e2
    have e2:=Option.some.inj e2
    cases q:σ[j]? with
    | none=>rw [q] at e2;cases e2
    | some o=>rw [q] at e2;exact congrArg some e2
   have hmem:(x,NameKind.free)∈sc.names:=PySem.mem_of_lookup hfr
   have hkind:=C.free _ hmem rfl
   obtain ⟨m0,hn0,hl0⟩:=I.loc
   have hvis:Vis X.env.scope x:=hkind.elim (fun z=>.inr (.inl z)) fun z=>.inr (.inr z)
   obtain ⟨u,r,look⟩:=hl0 j x v hjN e2' hvis
   refine ⟨u,r,?_⟩
   rcases look with ⟨k,_⟩ | ⟨_,c,hc,z⟩
   . rcases hkind with q | q
     . rw [show X.env.kindOf x=some .cell from q] at k;cases k
     . rw [show X.env.kindOf x=some .free from q] at k;cases k
   . obtain ⟨c',hc'⟩:=z3p (cells:=X.env.cells) (names:=sc.names) (acc:=[]) (x:=x) (.inr ⟨_,hmem,rfl,rfl⟩)
     have hcc:c'=c:=by have:=sub hc';rw [hc] at this;exact (Option.some.inj this).symm
     subst hcc
     refine .inr ⟨?_,c',hc',?_⟩
     . have e:(relabel sc X.env).names.lookup x=(sc.names.lookup x).map fun k=>if (k==NameKind.free&&X.env.scope.kind==.function&&X.env.kindOf x==some .cell) then NameKind.cell else k:=z2c
       show (relabel sc X.env).names.lookup x=some .cell\/(relabel sc X.env).names.lookup x=some .free
       rw [e,hfr]
       simp only [Option.map_some]
       split
       . exact .inl rfl
       . exact .inr rfl
     . obtain ⟨o,ho,hd⟩:=z
       exact ⟨o,hk _ o ho,hd⟩
 . obtain ⟨v,o,ho,hd⟩:=I.cell x c (sub h)
   exact ⟨v,o,hk _ o ho,hd⟩
 . show _=(tgs++caps).length
   unfold zg7
   rw [List.length_append,List.length_replicate,List.length_map,List.length_append,C.len]
inductive PTs (X:Cx):List Expr->TT->Prop where
 | nil:PTs X [] (fun _ H Q=>Q true H)
 | one {c:Expr} {t:TT} (h:PT X c t):PTs X [c] t
theorem PTs.run {X:Cx} {ifs:List Expr} {t:TT} (h:PTs X ifs t) {pins:List (Addr×Obj)} {s:Shared} {σ:St} {H:Hp} {Q:Bool->Hp->Prop} (I:Inv X pins σ H s) (q:t σ H Q) :
  wpAny (model X.prog X.w) X.A (forIn ifs true fun c r=>if r=true then do let ok <-isTrue c X.env (eval c X.env);pure (ForInStep.yield ok) else pure (ForInStep.yield r)) (TP X pins σ Q) X.xe s:=by
 cases h with
 | nil=>exact wpAny_tests_nil ⟨H,I,q⟩
 | one h=>exact wpAny_tests_one (h pins s σ H Q I q)
def zn3 (J:It) (D:Addr) (B:V->Hp->(List V->Hp->Prop)->Prop) (cs:St) (tt:TT) (te:TE) (Q:VK) (H1:Hp):Prop:=
 ∃W:Nat->Nat->List V->Hp->Prop,(∃m,W 0 m [] (upd H1 D (.lst [])))/\∀i m ys H,W i m ys H ->
  H D=some (.lst ys)/\((J.stop i H/\Q (.ref D) H)\/(J.go i H/\∀x H',J.yld i H x H'->B x H' fun vals H2=>tt (vals.map some++cs) H2 fun b H3=>
   if b=true then te (vals.map some++cs) H3 fun y H4=>H4 D=some (.lst ys)/\ys.length<sizeLine/\∃m',m'<m/\W (i+1) m' (ys++[y]) (upd H4 D (.lst (ys++[y])))
   else ∃m',m'<m/\W (i+1) m' ys H3))
noncomputable def zgh (wi:TI) (B:V->Hp->(List V->Hp->Prop)->Prop) (ix:List Nat) (tt:TT) (te:TE):TE:=fun σ H Q=>wi σ H fun J H1=>∀D,H1 D=none->zn3 J D B (zg7 ix σ) tt te Q H1
variable {elt tg iter:Expr} {ifs:List Expr} {pos:Pos} {g:TG} {B:V->Hp->(List V->Hp->Prop)->Prop} {tt:TT} {te:TE}
theorem zbl (C:CompOk X sc caps ix) (hg:∀fp s H,PG (z1a X sc (tgs++caps) fp s H) tg g)
  (hB:∀(x:V) (σt cs:St) (H:Hp) (Q:St->Hp->Prop),σt.length=tgs.length->B x H (fun vals H2=>Q (vals.map some++cs) H2)->g x (σt++cs) H fun σ2 H2=>(∃vals:List V,vals.length=tgs.length/\σ2=vals.map some++cs)/\Q σ2 H2)
  (ht:∀fp s H,PTs (z1a X sc (tgs++caps) fp s H) ifs tt) (he:∀fp s H,PE (z1a X sc (tgs++caps) fp s H) elt te)
  {J:It} {it:Addr} {tn:Nat->Heap->Prop} {Q:VK} {E:Value->Shared->Prop} (I2:Inv X pins σ H s) (T:Turn X.prog X.w X.K tg J fp it tn) (st:tn 0 s.heap) (hf:∀b∈fp,z81 X pins H b)
  (hw:∀D,H D=none->zn3 J D B (zg7 ix σ) tt te Q H) {RR:Value->Addr->Result->Shared->Prop}
  (hRR:∀D Cc H' s' m,s'.heap.Ns Cc m->Inv X pins σ H' s'->z81 X pins H' Cc->Q (.ref D) H'->RR (.ref D) Cc (.ok .next) s') :
  wpAny (model X.prog X.w) X.A (newList []) (fun acc s₃=>wpAny (model X.prog X.w) X.A (newFunctionEnv sc X.env.globals (z0s X.env.cells sc.names []) [] X.env.qual none .none (some X.env)) (fun cenv s₄=>
   codeAny (model X.prog X.w) X.A (.compStart (.ListComp elt [⟨tg,iter,ifs,0⟩] sc pos) 0 (.ref it) acc { cenv with scope:=relabel sc X.env }) (RR acc cenv.locals) s₄) E s₃) E s:=by
 refine wpAny_newObj_type (wpAny_newFunctionEnv C.ncell (by intro y hy;simp at hy) (fun h₁ hns₁ hsb₁=>?_) C.kind)
 have I3:Inv X pins σ (upd H s.heap.objs.size (.lst [])) { s with heap:=s.heap.push { cls:=.type "list",dict:=none,data:=.seq ([]:List Value).toArray } }:=I2.lnew (t':=s.toks) (its:=[]) .nil (Nat.zero_le _)
 have hD0:H s.heap.objs.size=none:=I2.fresh
 have lt0:∀b∈fp,b<s.heap.objs.size:=fun b hb=>by
  obtain ⟨o,e,_⟩:=T.obj _ _ st b hb
  exact Heap.lt_size e
 have hfD:∀b∈fp,b≠s.heap.objs.size:=fun b hb=>Nat.ne_of_lt (lt0 b hb)
 have hf3:∀b∈fp,z81 X pins (upd H s.heap.objs.size (.lst [])) b:=fun b hb=>⟨by rw [z07 (hfD b hb)];exact (hf b hb).1,(hf b hb).2⟩
 generalize hs3:({ s with heap:=s.heap.push { cls:=.type "list",dict:=none,data:=.seq ([]:List Value).toArray } }:Shared)=s₃ at I3 hns₁ hsb₁ ⊢
 have hs3h:s₃.heap=s.heap.push { cls:=.type "list",dict:=none,data:=.seq ([]:List Value).toArray }:=by rw [<-hs3]
 have st3:tn 0 s₃.heap:=T.keep _ _ _ st fun b _ o e=>by rw [hs3h];exact Heap.get?_push_of_some _ e
 have hl3:∀b∈fp,b<s₃.heap.objs.size:=fun b hb=>by rw [hs3h,Heap.size_push];exact Nat.lt_succ_of_lt (lt0 b hb)
 generalize hDD:s.heap.objs.size=D at *
 have hk1:∀b o,s₃.heap.get? b=some o->h₁.get? b=some o:=fun b o e=>hsb₁.extBut b o (Nat.ne_of_lt (Heap.lt_size e)) (Heap.get?_push_of_some _ e)
 have I4:=zbk (tgs:=tgs) (t':=s₃.toks+([]:List (Str×Value)).length) C I3 hf3 hl3 hns₁ hk1
 have st4:tn 0 h₁:=T.keep _ _ _ st3 fun b _ o e=>hk1 b o e
 have fr4:∀b∈fp,(upd H D (.lst [])) b=none:=fun b hb=>(hf3 b hb).1
 generalize hXc:z1a X sc (tgs++caps) fp s₃ (upd H D (.lst []))=Xc at I4
 have hprog:Xc.prog=X.prog:=by rw [<-hXc];rfl
 have hww:Xc.w=X.w:=by rw [<-hXc];rfl
 have hKK:Xc.K=X.K:=by rw [<-hXc];rfl
 have hcalm:Xc.calm=true:=by rw [<-hXc];exact C.calm
 have hA:Xc.A=X.A:=by rw [<-hXc];rfl
 have henv:Xc.env=compEnvC sc (z0s X.env.cells sc.names []) s₃.heap.objs.size X.env:=by rw [<-hXc];rfl
 have hxe:Xc.xe=fun _ _=>False:=by rw [<-hXc];rfl
 have hg':=hg fp s₃ (upd H D (.lst []))
 have ht':=ht fp s₃ (upd H D (.lst []))
 have he':=he fp s₃ (upd H D (.lst []))
 rw [hXc] at hg' ht' he'
 obtain ⟨W,⟨m0,w0⟩,turn⟩:=hw D hD0
 have stat:∀{H':Hp},(∀b∈fp,H' b=none)->∀b∈fp,z81 Xc [] H' b:=fun {H'} hn b hb=>by
  refine ⟨hn b hb,?_,?_,.inl ?_,fun x c e z=>?_,fun p hp=>?_⟩
  . rw [henv];exact Nat.ne_of_lt (hl3 b hb)
  . rw [<-hXc]
    intro z
    obtain ⟨_,h1,h2,_⟩:=hf b hb
    rcases List.mem_cons.mp (I3.stkSub b z) with q | q
    . exact h1 q
    . exact h2 q
  . rw [<-hXc];exact hb
  . rw [henv] at e
    exact (hf b hb).2.2.2.2.1 x c (C.sub I2 e) z
  . rw [<-hXc] at hp
    exact absurd (show p∈([]:List (Addr×Obj)) from hp) (by simp)
 have loop:∀s₄:Shared,s₄={ s₃ with heap:=h₁,toks:=s₃.toks+([]:List (Str×Value)).length } ->
   codeAny (model X.prog X.w) X.A (.compLoop (.ListComp elt [⟨tg,iter,ifs,0⟩] sc pos) 0 (.ref it) (.ref D) (compEnvC sc (z0s X.env.cells sc.names []) s₃.heap.objs.size X.env)) (RR (.ref D) s₃.heap.objs.size) s₄:=by
  intro s₄ hs4
  rw [<-hprog,<-hww,<-hA,<-henv]
  refine z8b (fun n s'=>∃(i:Nat) (ys:List V) (σt:St) (H':Hp),σt.length=tgs.length/\Inv Xc [] (σt++zg7 ix σ) H' s'/\tn i s'.heap/\(∀b∈fp,H' b=none)/\W i n ys H') ?_ m0
   ⟨0,[],List.replicate tgs.length none,upd H D (.lst []),by simp,by rw [hs4];exact I4,by rw [hs4];exact st4,fr4,w0⟩
  rintro n s5 ⟨i,ys,σt,H5,hσ,I5,st5,fr5,w5⟩
  obtain ⟨hD5,hturn⟩:=turn i n ys H5 w5
  rcases hturn with ⟨stop,q⟩ | ⟨go,step⟩
  . rw [hprog,hww]
    refine thn (T.done Xc hprog hww hKK hcalm i [] s5 _ H5 _ I5 (stat fr5) st5 stop) fun r s6 ⟨hr,I6⟩=>?_
    subst hr
    obtain ⟨m6,hn6,_⟩:=I6.loc
    rw [henv] at hn6
    have hcb:∀b∈fp,(b∈X.ex\/X.s₀.heap.objs.size<=b)/\b≠X.env.locals/\(∀x c,X.env.cells.lookup x=some c->c≠b)/\∀p∈X.pn++pins,p.1≠b:=fun b hb=>⟨(hf b hb).2.2.2.1,(hf b hb).2.1,(hf b hb).2.2.2.2.1,(hf b hb).2.2.2.2.2⟩
    have hos:s6.os=s₃.os:=by have:=I6.os;rw [<-hXc] at this;exact this
    have un6:Un (frs X.stack) fp (upd H D (.lst [])) H5 s₃.heap s6.heap:=by have:=I6.base;rw [<-hXc] at this;exact this
    have hok6:HOk X.prog X.w H5 s6.heap:=by have:=I6.hok;rw [hprog,hww] at this;exact this
    have I7:Inv X pins σ H5 s6:=I3.call' hos un6 hok6 I6.bare hcb
    refine hRR D _ H5 s6 m6 hn6 I7 ?_ q
    have hCn:H5 s₃.heap.objs.size=none:=by have:=I6.free;rw [henv] at this;exact this
    exact I3.fpOk (Nat.le_refl _) hCn
  . rw [hprog,hww]
    refine thn (T.item Xc hprog hww hKK hcalm i [] s5 _ H5 _ I5 (stat fr5) st5 go) fun r s6 ⟨u,hr,h6⟩=>?_
    subst hr
    refine thn h6 fun _ s7 ⟨x,H7,I7,r7,y7,st7,fr7⟩=>?_
    have I7':=I7.pinned (stat fr7) (T.obj _ _ st7)
    have hst:=hg' _ s7 _ H7 x u _ I7' r7 (hB x σt (zg7 ix σ) H7 (fun σ2 H2=>tt σ2 H2 fun b H3=>if b=true then te σ2 H3 fun y H4=>H4 D=some (.lst ys)/\ys.length<sizeLine/\∃m',m'<n/\W (i+1) m' (ys++[y]) (upd H4 D (.lst (ys++[y]))) else ∃m',m'<n/\W (i+1) m' ys H3) hσ (step x H7 y7))
    rw [hprog,hww,hxe] at hst
    refine thn hst fun _ s8 ⟨σ8,H8,I8,⟨vals,hvl,hσ8⟩,q8⟩=>?_
    have again:∀{H9:Hp} {s9:Shared},Inv Xc ([]++z82 fp s7.heap) σ8 H9 s9->tn (i+1) s9.heap/\∀b∈fp,H9 b=none:=fun {H9 s9} I9=>
     ⟨T.keep _ _ _ st7 fun b hb o e=>(I9.pin (b,o) (List.mem_append_right _ (List.mem_append_right _ (z36 hb e)))).1,fun b hb=>by
      obtain ⟨o,e,d⟩:=T.obj _ _ st7 b hb
      exact (I9.pin (b,o) (List.mem_append_right _ (List.mem_append_right _ (z36 hb e)))).2.1⟩
    subst hσ8
    have hts:=ht'.run I8 q8
    rw [hprog,hww,hxe] at hts
    refine thn hts fun ok s9 ⟨H9,I9,q9⟩=>?_
    cases ok with
    | false=>
     rw [if_neg Bool.false_ne_true] at q9 ⊢
     obtain ⟨m',hm,w9⟩:=q9
     obtain ⟨a1,a2⟩:=again I9
     exact ⟨m',hm,i+1,ys,vals.map some,H9,by simpa using hvl,I9.unpinned,a1,a2,w9⟩
    | true=>
     rw [if_pos rfl] at q9 ⊢
     have hev:=he' _ s9 _ H9 _ I9 q9
     rw [hprog,hww,hxe] at hev
     refine thn hev fun uy s10 ⟨y,H10,I10,r10,hD10,hz10,m',hm,w10⟩=>?_
     have hap:=z55 (X:=Xc) _ s10 _ H10 (.ref D) [y] (.ref D) [uy] (fun v H11=>v=.non/\H11=upd H10 D (.lst (ys++[y]))) I10 rfl (.cons r10 .nil) ⟨D,ys,y,rfl,rfl,hD10,hz10,rfl,rfl⟩
     rw [hprog,hww,hxe] at hap
     refine thn hap fun _ s11 ⟨v,H11,I11,_,_,e11⟩=>?_
     subst e11
     obtain ⟨a1,a2⟩:=again I11
     exact ⟨m',hm,i+1,ys++[y],vals.map some,_,by simpa using hvl,I11.unpinned,a1,a2,w10⟩
 refine codeAny_compStart_list (loop _ rfl) (T.self X.A 0 _ _ _ st4 (loop _ rfl))
theorem zd6 {wi:TI} (C:CompOk X sc caps ix) (hi:PI X tg iter wi) (hg:∀fp s H,PG (z1a X sc (tgs++caps) fp s H) tg g)
  (hB:∀(x:V) (σt cs:St) (H:Hp) (Q:St->Hp->Prop),σt.length=tgs.length->B x H (fun vals H2=>Q (vals.map some++cs) H2)->g x (σt++cs) H fun σ2 H2=>(∃vals:List V,vals.length=tgs.length/\σ2=vals.map some++cs)/\Q σ2 H2)
  (ht:∀fp s H,PTs (z1a X sc (tgs++caps) fp s H) ifs tt) (he:∀fp s H,PE (z1a X sc (tgs++caps) fp s H) elt te)
  (hs:∀x,foldedSetIterable iter X.env x=pure x:=by intro _;rfl):PE X (.ListComp elt [⟨tg,iter,ifs,0⟩] sc pos) (zgh wi B ix tt te):=by
 intro pins s σ H Q I h
 rw [eval_ListComp]
 refine wpAny_comprehension_free (use:=none) rfl hs (z74 (C.free_cell I)) C.kind C.names (thn (hi pins s σ H _ I h) fun v s1 h1=>thn h1 fun itv s2 h2=>?_)
 obtain ⟨it,fp,tn,J,H2,e,I2,T,st2,f2,hw⟩:=h2
 subst e
 refine zbl (RR:=fun acc Cc=>compPost (model X.prog X.w) X.A X.xe none (EP X pins σ Q) acc Cc) C hg hB ht he I2 T st2 f2 hw ?_
 intro D Cc H' s' m hn I' hfp q
 refine ⟨m,hn,fun h' sb=>⟨.ref D,H',?_,rfl,q⟩⟩
 exact I'.turned (t':=s'.toks) (fun b o hb e=>sb.extBut b o hb e) hfp.1 hfp.2.1 hfp.2.2.2.1 hfp.2.2.2.2.1 hfp.2.2.2.2.2
end
section
variable {X:Cx}
theorem PE.imp {e:Expr} {t t':TE} (h:PE X e t) (hi:∀σ H Q,t' σ H Q->t σ H Q):PE X e t':=fun pins s σ H Q I q=>h pins s σ H Q I (hi σ H Q q)
theorem PT.imp {e:Expr} {t t':TT} (h:PT X e t) (hi:∀σ H Q,t' σ H Q->t σ H Q):PT X e t':=fun pins s σ H Q I q=>h pins s σ H Q I (hi σ H Q q)
theorem OpR.imp {f:Value->Value->Sem Value} {r r':R2} (h:OpR X f r) (hi:∀x y H Q,r' x y H Q->r x y H Q):OpR X f r':=fun pins s σ H x y v u Q I rx ry q=>h pins s σ H x y v u Q I rx ry (hi x y H Q q)
theorem UnR.imp {f:Value->Sem Value} {r r':V->Hp->VK->Prop} (h:UnR X f r) (hi:∀x H Q,r' x H Q->r x H Q):UnR X f r':=fun pins s σ H x v Q I rx q=>h pins s σ H x v Q I rx (hi x H Q q)
theorem CallR.imp {f:Value} {r r':List V->Hp->VK->Prop} (h:CallR X f r) (hi:∀xs H Q,r' xs H Q->r xs H Q):CallR X f r':=fun pins s σ H xs us Q I rx q=>h pins s σ H xs us Q I rx (hi xs H Q q)
theorem IxR.imp {r r':R2} (h:IxR X r) (hi:∀x y H Q,r' x y H Q->r x y H Q):IxR X r':=by
 intro pins s σ H x y v u
 intros
 apply h<;>first | assumption | (apply hi;assumption)
theorem MtM.imp {id:String} {r r':V->List V->Hp->VK->Prop} (h:MtM X id r) (hi:∀x xs H Q,r' x xs H Q->r x xs H Q):MtM X id r':=fun pins s σ H x xs v us Q I rx rv q=>h pins s σ H x xs v us Q I rx rv (hi x xs H Q q)
end
noncomputable def z63 (i:Nat):TE:=fun σ H Q=>match σ[i]? with | some (some v)=>Q v H | _=>False
theorem pw {X:Cx} (i:Nat) {x:Str} {pos:Pos} (hN:X.N[i]?=some x:=by rfl) (hv:Vis X.env.scope x:=by first | exact Or.inl rfl | exact Or.inr (Or.inl rfl) | exact Or.inr (Or.inr rfl)) (hd:(x==("__debug__":Str))=false:=by decide)
  (hcd:(x==("__classdict__":Str))=false:=by decide):PE X (.Name x pos) (z63 i):=
 (zhx hN hv hd hcd).imp fun σ H Q q=>by
  unfold z63 at q
  unfold zul
  split at q
  . rename_i v e;exact ⟨v,e,q⟩
  . exact q.elim
noncomputable def cI (g:Int->Int->V):R2:=fun x y H Q=>match x,y with | .int i,.int j=>Q (g i j) H | _,_=>False
noncomputable def cIC (C:Int->Int->Prop) (g:Int->Int->V):R2:=fun x y H Q=>match x,y with | .int i,.int j=>C i j/\Q (g i j) H | _,_=>False
theorem OpR.cI {X:Cx} {f:Value->Value->Sem Value} {g:Int->Int->V} (h:OpR X f (rI0 g)):OpR X f (cI g):=h.imp fun x y H Q q=>by
 cases x<;>cases y<;>first | exact ⟨_,_,rfl,rfl,q⟩ | exact q.elim
theorem OpR.cIC {X:Cx} {f:Value->Value->Sem Value} {C:Int->Int->Prop} {g:Int->Int->V} (h:OpR X f (rI C g)):OpR X f (cIC C g):=h.imp fun x y H Q q=>by
 cases x<;>cases y<;>first | exact ⟨_,_,rfl,rfl,q.1,q.2⟩ | exact q.elim
section
variable {X:Cx}
theorem z4a:OpR X (binaryOp .Add) (cI fun i j=>.int (i+j)):=op_add.cI
theorem zd7:OpR X (binaryOp .Sub) (cI fun i j=>.int (i - j)):=op_sub.cI
theorem zbm:OpR X (binaryOp .Mult) (cIC CMul fun i j=>.int (i * j)):=op_mul.cIC
theorem z8d:OpR X (binaryOp .FloorDiv) (cIC zjs fun i j=>.int (i / j)):=op_fdiv.cIC
theorem z75:OpR X (binaryOp .Mod) (cIC (fun _ j=>0<j) fun i j=>.int (i % j)):=op_mod.cIC
theorem zn4:OpR X (binaryOp .Pow) (cIC zjt fun i j=>.int (i ^ j.toNat)):=op_pow.cIC
theorem zvn:OpR X (compareOp .Gt) (cI fun i j=>.bl (decide (j<i))):=op_gt.cI
def cU (g:Int->V):V->Hp->VK->Prop:=fun x H Q=>match x with | .int i=>Q (g i) H | _=>False
theorem zrw:UnR X (unaryOp .USub) (cU fun i=>.int (-i)):=un_neg.imp fun x H Q q=>by
 cases x<;>first | exact ⟨_,rfl,q⟩ | exact q.elim
end
noncomputable def z4b (H:Hp) (p:Addr):Option (List V):=match H p with
 | some (.lst xs)=>some xs
 | some (.tup xs)=>some xs
 | some (.frz _ (.lst xs))=>some xs
 | some (.frz _ (.tup xs))=>some xs
 | _=>none
theorem zai {K:Frag} {H:Hp} {p:Addr} {xs:List V} (h:z4b H p=some xs):SqL K H p xs\/SqT K H p xs:=by
 unfold z4b at h
 split at h
 all_goals first | (cases h;done) | skip
 . rename_i ys e;cases h;exact .inl (.inl (.inl e))
 . rename_i ys e;cases h;exact .inr (.inl (.inl e))
 . rename_i o ys e;cases h;exact .inl (.inl (.inr ⟨_,e⟩))
 . rename_i o ys e;cases h;exact .inr (.inl (.inr ⟨_,e⟩))
theorem z8e {H:Hp} {p:Addr} {xs:List V} (h:H p=some (.lst xs)):z4b H p=some xs:=by unfold z4b;rw [h]
theorem z8f {H:Hp} {p:Addr} {xs:List V} (h:H p=some (.tup xs)):z4b H p=some xs:=by unfold z4b;rw [h]
noncomputable def cIx:R2:=fun x y H Q=>match x,y with
 | .ref p,.int i=>(match z4b H p with
  | some xs=>(match atI xs i with | some v=>Q v H | none=>False)
  | none=>False)
 | .str z,.int i=>z.length<=sizeLine/\(match atI z.cps.toList i with | some c=>Q (.str ⟨#[c]⟩) H | none=>False)
 | _,_=>False
def z8g (x:V) (H:Hp) (Q:Bool->Hp->Prop):Prop:=match x with
 | .bl b=>Q b H
 | .int i=>Q (i != 0) H
 | .non=>Q false H
 | .str y=>y.length<=sizeLine/\Q ((y.length:Int) != 0) H
 | .ref p=>(match z4b H p with
  | some xs=>Q (!xs.isEmpty) H
  | none=>(match H p with | some (.dK kvs)=>Q (!kvs.isEmpty) H | _=>False))
 | _=>False
theorem zaj {K:Frag} {x:V} {H:Hp} {Q:Bool->Hp->Prop} (h:z8g x H Q):∃k,zur K x H k/\Q k H:=by
 cases x with
 | bl b=>exact ⟨b,rfl,h⟩
 | int i=>exact ⟨_,rfl,h⟩
 | non=>exact ⟨_,rfl,h⟩
 | str y=>exact ⟨_,⟨h.1,rfl⟩,h.2⟩
 | ref p=>
  unfold z8g at h
  dsimp only at h
  split at h
  . rename_i xs e
    rcases zai (K:=K) e with z | z
    . exact ⟨_,.inl ⟨xs,z,rfl⟩,h⟩
    . exact ⟨_,.inr (.inl ⟨xs,z,rfl⟩),h⟩
  . split at h
    . rename_i kvs e;exact ⟨_,.inr (.inr ⟨kvs,e,rfl⟩),h⟩
    . exact h.elim
 | _=>exact h.elim
noncomputable def zvo (t:TE):TT:=fun σ H Q=>t σ H fun x H'=>z8g x H' Q
section
variable {X:Cx} {a b c:Expr} {ta tb tc:TE} {pos:Pos}
theorem zn5 (ha:PE X a ta) (he:∀whole,isTrue a X.env whole=(do let v <-whole;standAt a.pos;holding [v] (truthy v)):=by intro _;rfl):PT X a (zvo ta):=by
 intro pins s σ H Q I h
 exact isTrue_plain (thn (ha pins s σ H _ I h) fun v s1 ⟨x,H1,I1,r1,q1⟩=>zi2 pins s1 σ H1 x v Q I1 r1 (zaj q1)) (he _)
noncomputable def zk4 (t:TE):TT:=fun σ H Q=>t σ H fun x H'=>match x with | .bl k=>Q k H' | _=>False
theorem zk5 {op:CmpOp} {r:R2} (ho:OpR X (compareOp op) r) (ha:PE X a ta) (hb:PE X b tb) (hm:behindInMarks op b=false):PT X (.Compare a [op] [b] pos) (zk4 (tOp r ta tb)):=by
 intro pins s σ H Q I h
 refine wpAny_isTrue_Compare1 (thn (ha pins s σ H _ I h) fun v s1 ⟨x,H1,I1,r1,q1⟩=>thn (hb pins s1 σ H1 _ I1 q1) fun u s2 ⟨y,H2,I2,r2,q2⟩=>
  thn (ho pins s2 σ H2 x y v u _ I2 r1 r2 q2) fun c s3 ⟨z,H3,I3,r3,q3⟩=>?_) hm
 cases z<;>first | exact q3.elim | skip
 cases r3
 exact wpAny_truthy_bool ⟨H3,I3,q3⟩
end
section
variable {X:Cx} {a b c:Expr} {ta tb tc:TE} {pos:Pos}
def PCh (X:Cx) (ops:List CmpOp) (rs:List Expr) (t:V->TE):Prop:=
 ∀(pos:Pos) (pins:List (Addr×Obj)) (s:Shared) (σ:St) (H:Hp) (x:V) (v:Value) (Q:VK),Inv X pins σ H s->RelV x v->t x σ H Q->wpAny (model X.prog X.w) X.A (compareChain pos v ops (evalEach rs X.env)) (EP X pins σ Q) X.xe s
def PChT (X:Cx) (ops:List CmpOp) (rs:List Expr) (t:V->TT):Prop:=
 ∀(pos:Pos) (pins:List (Addr×Obj)) (s:Shared) (σ:St) (H:Hp) (x:V) (v:Value) (Q:Bool->Hp->Prop),Inv X pins σ H s->RelV x v->t x σ H Q->wpAny (model X.prog X.w) X.A (testChain pos v ops (evalEach rs X.env)) (TP X pins σ Q) X.xe s
noncomputable def zvp (r:R2) (tb:TE) (t:V->TE):V->TE:=fun x σ H Q=>tb σ H fun y H2=>r x y H2 fun z H3=>match z with | .bl k=>(if k=true then t y σ H3 Q else Q (.bl false) H3) | _=>False
noncomputable def zn6 (ta tb:TE):TE:=fun σ H Q=>ta σ H fun x H1=>match x with | .bl c=>(if c=true then tb σ H1 Q else Q (.bl false) H1) | _=>False
end
section
variable {X:Cx} {a b c:Expr} {ta tb tc:TE} {pos:Pos} {rest:List Expr}
theorem zk6 (ha:PE X a ta) (hb:PE X (.BoolOp .And (b::rest) pos) tb):PE X (.BoolOp .And (a::b::rest) pos) (zn6 ta tb):=by
 intro pins s σ H Q I h
 refine BoolOp_and (thn (ha pins s σ H _ I h) fun v s1 ⟨x,H1,I1,r1,q1⟩=>?_)
 cases x<;>first | exact q1.elim | skip
 rename_i k
 cases r1
 refine wpAny_truthy_bool ?_
 cases k with
 | true=>exact ite_tt (hb pins s1 σ H1 Q I1 (by simpa using q1))
 | false=>exact ite_ff ⟨.bl false,H1,I1,rfl,by simpa using q1⟩
noncomputable def zrx (ta:TE):TE:=fun σ H Q=>ta σ H fun x H1=>z8g x H1 fun k H2=>Q (.bl (!k)) H2
theorem zk7 (ha:PE X a ta):PE X (.UnaryOp .Not a pos) (zrx ta):=by
 intro pins s σ H Q I h
 refine UnaryOp_ (thn (ha pins s σ H _ I h) fun v s1 ⟨x,H1,I1,r1,q1⟩=>not_of ?_)
 exact thn (zi2 pins s1 σ H1 x v _ I1 r1 (zaj q1)) fun k s2 ⟨H2,I2,q2⟩=>⟨.bl (!k),H2,I2,rfl,q2⟩
noncomputable def z76 (H:Hp):V->Option String
 | .non=>some "NoneType"
 | .bl _=>some "bool"
 | .int _=>some "int"
 | .str _=>some "str"
 | .ref a=>(match H a with
  | some (.lst _)=>some "list"
  | some (.frz _ (.lst _))=>some "list"
  | some (.tup _)=>some "tuple"
  | some (.dK _)=>some "dict"
  | some (.dT _)=>some "dict"
  | _=>none)
 | _=>none
noncomputable def zd8 (t c:String):Bool:=t==c||(t=="bool"&&c=="int")
noncomputable def z58 (c:String):Bool:=["int","bool","str","list","tuple","dict"].contains c
theorem z1h {K:Frag} {t c:String} (ht:["NoneType","bool","int","str","list","tuple","dict"].contains t=true) (hc:z58 c=true):PySem.W.kitOne K (.type t) (.type c)=some (zd8 t c):=by
 have h1:t="NoneType"\/t="bool"\/t="int"\/t="str"\/t="list"\/t="tuple"\/t="dict":=by simpa using ht
 have h2:c="int"\/c="bool"\/c="str"\/c="list"\/c="tuple"\/c="dict":=by simpa [z58] using hc
 rcases h1 with rfl | rfl | rfl | rfl | rfl | rfl | rfl<;>rcases h2 with rfl | rfl | rfl | rfl | rfl | rfl<;>first | rfl | (with_unfolding_all rfl)
theorem zgi:CallR X (.builtin "isinstance") (fun xs H Q=>match xs with
  | [x,.ty c]=>z58 c=true/\(match z76 H x with | some t=>Q (.bl (zd8 t c)) H | none=>False)
  | _=>False):=by
 intro pins s σ H xs us Q I r h
 split at h
 . rename_i x c
   obtain ⟨hc,h⟩:=h
   obtain ⟨u,w',rfl,ru,rw'⟩:=zms r
   cases rw'
   split at h
   . rename_i t et
     have fin:∀(tk:Nat),EP X pins σ Q (.bool (zd8 t c)) { s with toks:=tk }:=fun tk=>⟨.bl _,H,I.tok _,rfl,h⟩
     cases x<;>simp only [z76] at et
     case non=>cases et;exact z1g I ru .non (z1h (by decide) hc) fin
     case bl b=>cases et;exact z1g I ru (.bl b) (z1h (by decide) hc) fin
     case int b=>cases et;exact z1g I ru (.int b) (z1h (by decide) hc) fin
     case str b=>cases et;exact z1g I ru (.str b) (z1h (by decide) hc) fin
     case ref a=>
      split at et<;>first | (cases et;done) | skip
      . rename_i ys e;cases et;exact z1g I ru (.lst e) (z1h (by decide) hc) fin
      . rename_i o ys e;cases et;exact z1g I ru (.frz e) (z1h (by decide) hc) fin
      . rename_i ys e;cases et;exact z1g I ru (.tup e) (z1h (by decide) hc) fin
      . rename_i ys e;cases et;exact z1g I ru (.dK e) (z1h (by decide) hc) fin
      . rename_i ys e;cases et;exact z1g I ru (.dT e) (z1h (by decide) hc) fin
     all_goals cases et
   . exact h.elim
 . exact h.elim
theorem zd9 (hc:X.calm=true):CallR X (.builtin "sum") (fun xs H Q=>match xs with
  | [.ref p]=>∃ns:List Int,z4b H p=some (ns.map V.int)/\Q (.int ns.sum) H
  | _=>False):=by
 intro pins s σ H xs us Q I r h
 split at h
 . rename_i p
   obtain ⟨ns,e,q⟩:=h
   obtain ⟨u,rfl,ru⟩:=z48 r
   cases ru
   have key:∀{its:List Value},Vals (ns.map V.int) its->∃ys:Array (Int×Tok),its.toArray=intItems ys/\preSum (numAt ys) ys.size=ns.sum:=fun {its} rv=>by
    have hi:=z37 rv
    obtain ⟨ys,hx⟩:=hi.allInts.items
    refine ⟨ys,hx,?_⟩
    have e1:ns=ys.toList.map (·.1):=by
     rw [<-nums_intItems,<-hx]
     exact (show numsOf its.toArray.toList=ns from hi.numsOf).symm
    rw [preSum_eq,List.take_of_length_le (by simp),e1]
   rcases zai (K:=X.K) e with hq | hq
   . obtain ⟨its,rv,pl,_⟩:=I.list hq
     obtain ⟨ys,hx,es⟩:=key rv
     refine sum_intListG (I.ok.hd hc) (hx ▸ pl.isList) fun h' tk t' hk=>?_
     rw [es]
     exact ⟨.int ns.sum,H,I.kept hk,⟨_,rfl⟩,q⟩
   . obtain ⟨its,rv,pl,_⟩:=I.tuple hq
     obtain ⟨ys,hx,es⟩:=key rv
     refine PySem.W.ktm_sumG (I.ok.hd hc) (hx ▸ pl) fun h' tk t' hk=>?_
     rw [es]
     exact ⟨.int ns.sum,H,I.kept hk,⟨_,rfl⟩,q⟩
 . exact h.elim
abbrev zda (s:Shared) (L:Addr):List (Addr×Obj):=z51 (Att.noObjs s.heap) s.heap L
section
variable {pins:List (Addr×Obj)} {σ:St} {H:Hp} {s:Shared} {h':Heap} {m:Str->Option Value}
theorem z6f {L:Addr} (N:News (Att.noObjs s.heap) L h' (zda s L)):∀b o,b≠L->s.heap.get? b=some o->h'.get? b=some o:=fun b o hb e=>(N (b,o) (z52 hb (Att.noObjs_get _ _) e)).1
theorem Inv.frn {tk:Nat} (I:Inv X pins σ H s) (hn:s.heap.Ns X.env.locals m) (F:Fr (Att.noObjs s.heap) X.env.locals h' m) (N:News (Att.noObjs s.heap) X.env.locals h' (zda s X.env.locals)):Inv X pins σ H { s with heap:=h',toks:=tk }:=by
 have kept:=z6f N
 refine I.step (g':=s.gens) (d':=s.drawn) (ch:=[]) (fun _ z=>nomatch z) (fun b o hL _ _ e _=>kept b o hL e) (fun b o hL _ _ e _=>⟨o.slots,kept b o hL e⟩) (fun _ _ _ _ n=>n) (fun b o _ e=>?_) (fun _ _ e=>e) (fun _ _ _ e=>e) (fun b ps e=>⟨#[],by rw [e];simp⟩) (fun m' hm=>?_) (fun b u e=>?_) I.bare
 . by_cases hb:b=X.env.locals
   . subst hb
     obtain ⟨o',_,_,ho',_⟩:=F.ns
     exact ⟨o',ho'⟩
   . exact ⟨o,kept b o hb e⟩
 . rw [hm.eq_nsMap,<-hn.eq_nsMap];exact F.ns
 . refine (I.hok b u e).stay (fun c v hc q=>kept c v ?_ q) (fun _ q=>q) fun _ _ q=>q
   intro z
   rcases hc with hc | hc
   . rw [<-hc,z,I.free] at e;cases e
   . rw [z,I.free] at hc;cases hc
theorem Inv.frnew {tk:Nat} {D:Addr} {ob:Obj} {o:HO} (I:Inv X pins σ H s) (hn:s.heap.Ns X.env.locals m) (F:Fr (Att.noObjs s.heap) X.env.locals h' m) (N:News (Att.noObjs s.heap) X.env.locals h' ((D,ob)::zda s X.env.locals))
  (hD:s.heap.get? D=none) (new:ObjOk X.prog X.w (upd H D o) h' D o):H D=none/\Inv X pins σ (upd H D o) { s with heap:=h',toks:=tk }:=by
 have kept:=z6f (fun p hp=>N p (.tail _ hp))
 have hDL:D≠X.env.locals:=(N (D,ob) (.head _)).2.1
 have neD:∀b o,s.heap.get? b=some o->b≠D:=fun b o e z=>by rw [z,hD] at e;cases e
 have HD:H D=none:=by
  cases q:H D with
  | none=>rfl
  | some u=>
   have:=(I.hok D u q).lt
   obtain ⟨v,hv⟩:∃v,s.heap.get? D=some v:=by
    have z:=I.hok D u q
    cases u with
    | lst xs=>obtain ⟨_,_,_,_,e⟩:=z;exact ⟨_,e⟩
    | tup xs=>obtain ⟨_,_,_,o,e,_⟩:=z;exact ⟨_,e⟩
    | dK kvs=>obtain ⟨_,_,_,_,o,_,_,e,_⟩:=z;exact ⟨_,e⟩
    | dT kvs=>obtain ⟨_,_,_,_,o,_,_,e,_⟩:=z;exact ⟨_,e⟩
    | set S n=>obtain ⟨_,_,_,_,e,_⟩:=z;exact ⟨_,e⟩
    | ins C dx fs=>obtain ⟨_,_,_,e,_⟩:=z;exact ⟨_,e⟩
    | own x=>exact z
    | xd fs=>obtain ⟨mA,n1,_⟩:=z;obtain ⟨o,_,_,e,_⟩:=n1;exact ⟨o,e⟩
    | met f x=>exact ⟨_,z⟩
    | rng lo hi=>obtain ⟨_,_,_,e⟩:=z;exact ⟨_,e⟩
    | frz o u=>exact ⟨_,z.1⟩
    | tbl ps=>exact ⟨_,z⟩
    | ext φ=>exact z.2.1
   rw [hD] at hv;cases hv
 refine ⟨HD,I.step (g':=s.gens) (d':=s.drawn) (ch:=[]) (fun _ z=>nomatch z) (fun b o hL _ _ e _=>kept b o hL e) (fun b o hL _ _ e _=>⟨o.slots,kept b o hL e⟩) (fun b ob _ e n=>by rw [z07 (neD b ob e)];exact n) (fun b o _ e=>?_)
  (fun b xs e=>by rw [z07 (z08 e HD)];exact e) (fun b u xs e=>by rw [z07 (z08 e HD)];exact e) (fun b ps e=>⟨#[],by rw [z07 (z08 e HD),e];simp⟩) (fun m' hm=>?_) (fun b u e=>?_) I.bare⟩
 . by_cases hb:b=X.env.locals
   . subst hb
     obtain ⟨o',_,_,ho',_⟩:=F.ns
     exact ⟨o',ho'⟩
   . exact ⟨o,kept b o hb e⟩
 . rw [hm.eq_nsMap,<-hn.eq_nsMap];exact F.ns
 . by_cases hb:b=D
   . subst hb
     rw [z0e] at e
     cases e
     exact new
   . rw [z07 hb] at e
     refine (I.hok b u e).stay (fun c v hc q=>kept c v ?_ q) (fun c q=>?_) fun c xs q=>?_
     . intro z
       rcases hc with hc | hc
       . rw [<-hc,z,I.free] at e;cases e
       . rw [z,I.free] at hc;cases hc
     . rw [z07 (z08 q HD)];exact q
     . rw [z07 (z08 q HD)];exact q
end
theorem z9h {bs:List Bool}:∀{us:List Value},Vals (bs.map V.bl) us->LSm.BoolsAre us bs:=by
 induction bs with
 | nil=>intro us r;cases r;exact .nil
 | cons b bs ih=>
  intro us r
  cases r with
  | cons r1 r2=>cases r1;exact .cons b (ih r2)
theorem zdb (hc:X.calm=true):CallR X (.builtin "any") (fun xs H Q=>match xs with
  | [.ref p]=>∃bs:List Bool,Rd H p (.lst (bs.map V.bl))/\Q (.bl (bs.any id)) H
  | _=>False):=by
 intro pins s σ H xs us Q I r h
 split at h
 . rename_i p
   obtain ⟨bs,e,q⟩:=h
   obtain ⟨u,rfl,ru⟩:=z48 r
   cases ru
   obtain ⟨its,rv,pl,_⟩:=I.list (.inl e)
   obtain ⟨m,hn,_⟩:=id I.loc
   exact LSm.any_bools (Att.fr_all hn) (z6w (g:=Att.noObjs s.heap) (L:=X.env.locals)) (I.ok.hd hc) pl.isList (z9h rv) fun h' tk F N=>⟨.bl _,H,I.frn hn F N,rfl,q⟩
 . exact h.elim
theorem zdc:CallR X (.type "int") (fun xs H Q=>match xs with | [.int i]=>Q (.int i) H | [.bl k]=>Q (.int (if k then 1 else 0)) H | _=>False):=call_int1.imp fun xs H Q q=>by
 split at q
 . exact .inl ⟨_,rfl,q⟩
 . exact .inr ⟨_,rfl,q⟩
 . exact q.elim
end
noncomputable def ItS (S:Hp->Prop) (xs:List V):It:=⟨fun i H=>S H/\i<xs.length,fun i H x H'=>H'=H/\xs[i]?=some x,fun i H=>S H/\xs.length<=i⟩
theorem Turn.conv {P:Program} {w:World} {K:Frag} {tg:Expr} {J J':It} {fp:List Addr} {it:Addr} {tn:Nat->Heap->Prop} (T:Turn P w K tg J fp it tn) (h1:∀i H,J'.go i H->J.go i H) (h2:∀i H x H',J'.go i H->J.yld i H x H'->J'.yld i H x H')
  (h3:∀i H,J'.stop i H->J.stop i H):Turn P w K tg J' fp it tn where
 mem:=T.mem
 obj:=T.obj
 keep:=T.keep
 item:=fun X a b c d i pins s σ H E I hf st hg=>thn (T.item X a b c d i pins s σ H E I hf st (h1 i H hg)) fun r s1 ⟨u,e,h⟩=>⟨u,e,thn h fun _ s2 ⟨x,H',I',r',y',st',fr'⟩=>⟨x,H',I',r',h2 i H x H' hg y',st',fr'⟩⟩
 done:=fun X a b c d i pins s σ H E I hf st hg=>T.done X a b c d i pins s σ H E I hf st (h3 i H hg)
 self:=T.self
section
variable {X:Cx} {tg:Expr}
def zma (x:V) (H1:Hp) (R:It->Hp->Prop):Prop:=match x with
 | .ref a=>(match H1 a with
  | some (.lst xs)=>R (ItS (fun H'=>Rd H' a (.lst xs)) xs) H1
  | some (.frz _ (.lst xs))=>R (ItS (fun H'=>Rd H' a (.lst xs)) xs) H1
  | some (.tup xs)=>R (ItS (fun H'=>H' a=some (.tup xs)) xs) H1
  | _=>False)
 | _=>False
theorem zak {a:Addr} {H:Hp} {R:It->Hp->Prop} {xs:List V} (h:Rd H a (.lst xs)) (r:R (ItS (fun H'=>Rd H' a (.lst xs)) xs) H):zma (.ref a) H R:=by
 unfold zma
 rcases h with h | ⟨o,h⟩
 . dsimp only;rw [h];exact r
 . dsimp only;rw [h];exact r
theorem zgj {a:Addr} {H:Hp} {R:It->Hp->Prop} {xs:List V} (h:H a=some (.tup xs)) (r:R (ItS (fun H'=>H' a=some (.tup xs)) xs) H):zma (.ref a) H R:=by
 unfold zma
 dsimp only;rw [h];exact r
noncomputable def zre (K:Frag) (tl:TE):TI:=fun σ H R=>tl σ H fun x H1=>zma x H1 R
theorem zi3 {l:Expr} {tl:TE} (hl:PE X l tl):PI X tg l (zre X.K tl):=by
 intro pins s σ H R I h
 refine thn (hl pins s σ H _ I h) fun v s1 ⟨x,H1,I1,r1,q1⟩=>?_
 cases x<;>first | exact q1.elim | skip
 rename_i a
 cases r1
 unfold zma at q1
 dsimp only at q1
 have asList:∀xs,Rd H1 a (.lst xs)->R (ItS (fun H'=>Rd H' a (.lst xs)) xs) H1->wpAny (model X.prog X.w) X.A (pyIter (.ref a)) (PIE X pins σ tg R) X.xe s1:=fun xs hq q=>by
  obtain ⟨its,rv,p,hz⟩:=I1.list (.inl hq)
  refine wpAny_pyIter_list p.isList ?_
  refine ⟨s1.heap.objs.size,[s1.heap.objs.size],_,_,H1,rfl,I1.kept (t':=s1.toks) fun b o e=>Heap.get?_push_of_some _ e,(zct a _).conv ?_ ?_ ?_,⟨_,Heap.get?_push_size _ rfl,rfl,rfl⟩,fun b hb=>?_,q⟩
  . exact fun i H' ⟨h1,h2⟩=>⟨xs,xs[i],.inl h1,by simp [h2]⟩
  . exact fun i H' x H'' ⟨h1,h2⟩ ⟨e,y⟩=>⟨e,y xs (.inl h1)⟩
  . exact fun i H' ⟨h1,h2⟩=>⟨xs,.inl h1,h2⟩
  . have e:b=s1.heap.objs.size:=by simpa using hb
    subst e
    exact I1.fpOk (Nat.le_refl _) (I1.hok.fresh (Nat.le_refl _))
 split at q1
 . rename_i xs e;exact asList xs (.inl e) q1
 . rename_i o xs e;exact asList xs (.inr ⟨o,e⟩) q1
 . rename_i xs e
   obtain ⟨its,rv,p,hz⟩:=I1.tuple (.of e)
   refine wpAny_pyIter_tuple (show s1.heap.IsTuple a its.toArray from p) ?_
   refine ⟨s1.heap.objs.size,[s1.heap.objs.size],_,_,H1,rfl,I1.kept (t':=s1.toks) fun b o e=>Heap.get?_push_of_some _ e,(zbh a _).conv ?_ ?_ ?_,⟨_,Heap.get?_push_size _ rfl,rfl,rfl⟩,fun b hb=>?_,q1⟩
   . exact fun i H' ⟨h1,h2⟩=>⟨xs,xs[i],.of h1,by simp [h2]⟩
   . exact fun i H' x H'' ⟨h1,h2⟩ ⟨e,y⟩=>⟨e,y xs (.of h1)⟩
   . exact fun i H' ⟨h1,h2⟩=>⟨xs,.of h1,h2⟩
   . have e:b=s1.heap.objs.size:=by simpa using hb
     subst e
     exact I1.fpOk (Nat.le_refl _) (I1.hok.fresh (Nat.le_refl _))
 . exact q1.elim
noncomputable def zck (lo:Int) (n:Nat):List V:=(List.range n).map fun (i:Nat)=>V.int (lo+i)
theorem z3v (lo:Int) (n:Nat):(zck lo n).length=n:=by simp [zck]
theorem zdd (lo:Int) (n i:Nat) (h:i<n):(zck lo n)[i]?=some (.int (lo+i)):=by simp [zck,h]
noncomputable def iR1 (ta:TA):TI:=fun σ H R=>ta σ H fun vs H1=>match vs with | [.int j]=>(-(2 ^ 62)<=j/\j<2 ^ 62)/\R (ItS (fun _=>True) (zck 0 j.toNat)) H1 | _=>False
theorem z4c (lo:Int) (n:Nat):(∀i (H:Hp),(ItS (fun _=>True) (zck lo n)).go i H->(Itr lo n).go i H)/\(∀i H x H',(ItS (fun _=>True) (zck lo n)).go i H->(Itr lo n).yld i H x H'->(ItS (fun _=>True) (zck lo n)).yld i H x H') /\
  (∀i (H:Hp),(ItS (fun _=>True) (zck lo n)).stop i H->(Itr lo n).stop i H):=by
 refine ⟨fun i H ⟨_,h⟩=>?_,fun i H x H' ⟨_,h⟩ ⟨e,y⟩=>⟨e,?_⟩,fun i H ⟨_,h⟩=>?_⟩
 . rw [z3v] at h;exact h
 . rw [z3v] at h;rw [y];exact zdd lo n i h
 . rw [z3v] at h;exact h
end
def zux (J:It) (g:TG) (tb:TS) (D:Ends) (σ:St) (H1:Hp):Prop:=∃W:Nat->Nat->St->Hp->Prop,(∃m,W 0 m σ H1)/\∀i m σ H,W i m σ H ->
 (J.stop i H/\D.nx σ H)\/(J.go i H/\∃N:St->Hp->Prop,(∀σ' H',N σ' H'->∃m',m'<m/\W (i+1) m' σ' H')/\∀x H',J.yld i H x H'->g x σ H' fun σ2 H2=>tb { D with nx:=N,ct:=N,bk:=D.nx } σ2 H2)
noncomputable def zde (wi:TI) (g:TG) (tb:TS):TS:=fun D σ H=>wi σ H fun J H1=>zux J g tb D σ H1
theorem z9i {X:Cx} {tg iter:Expr} {body:List Stmt} {wi:TI} {g:TG} {tb:TS} {pos:Pos} (hp:PassesOwn (model X.prog X.w) X.A X.env X.xe) (hc:X.calm=true) (hi:PI X tg iter wi) (hg:PG X tg g) (hb:PSs X body tb)
 (hs:∀x,foldedSetIterable iter X.env x=pure x:=by intro _;rfl):PS X (.For tg iter body [] pos) (zde wi g tb):=zmq hp hc hi hg hb hs
theorem zry {S:Hp->Prop} {xs:List V} {g:TG} {tb:TS} {D:Ends} {σ:St} {H:Hp} (Pv:Nat->St->Hp->Prop) (h0:Pv 0 σ H) (hl:∀i σ H,i<=xs.length->Pv i σ H->S H)
  (hs:∀i x σ H,xs[i]?=some x->Pv i σ H->g x σ H fun σ2 H2=>tb { D with nx:=Pv (i+1),ct:=Pv (i+1),bk:=D.nx } σ2 H2) (hd:∀σ H,Pv xs.length σ H->D.nx σ H) :
  zux (ItS S xs) g tb D σ H:=by
 refine ⟨fun i m σ H=>m=xs.length - i/\i<=xs.length/\Pv i σ H,⟨xs.length,by simp,Nat.zero_le _,h0⟩,?_⟩
 rintro i m σ H ⟨rfl,hi,p⟩
 have q:=hl i σ H hi p
 by_cases hlt:i<xs.length
 . refine .inr ⟨⟨q,hlt⟩,Pv (i+1),fun σ' H' p'=>⟨xs.length - (i+1),by omega,rfl,hlt,p'⟩,fun x H' y=>?_⟩
   obtain ⟨e,y⟩:=y
   subst e
   exact hs i x σ _ y p
 . have e:i=xs.length:=by omega
   subst e
   exact .inl ⟨⟨q,Nat.le_refl _⟩,hd σ H p⟩
theorem Same.upd_new {H:Hp} {a:Addr} {o:HO} (h:H a=none):Same H (upd H a o):=fun b u e=>by rw [z07 (z08 e h)];exact e
theorem Same.upd_at {H H1:Hp} {a:Addr} {o:HO} (s:Same H H1) (h:H a=none):Same H (upd H1 a o):=fun b u e=>by rw [z07 (z08 e h)];exact s b u e
section
variable {X:Cx} {pins:List (Addr×Obj)} {σ:St} {H:Hp} {s:Shared} {tg:Expr}
theorem Inv.turnedT {wr:List Addr} {h':Heap} {tk:Nat} {T:Addr} {xs:List V} {its:List Value} (I:Inv X pins σ H s) (hw:∀b∈wr,z81 X pins H b) (k:∀b o,b∉wr->s.heap.get? b=some o->h'.get? b=some o)
  (hT:s.heap.objs.size<=T) (ht:h'.IsTuple T its.toArray) (rv:Vals xs its) (hz:xs.length<=sizeLine):Inv X pins σ (upd H T (.tup xs)) { s with heap:=h',toks:=tk }:=by
 have HT:H T=none:=I.hok.fresh hT
 have nw:∀b u,H b=some u->b∉wr:=fun b u e z=>by rw [(hw b z).1] at e;cases e
 have neT:∀b o,s.heap.get? b=some o->b≠T:=fun b o e=>Nat.ne_of_lt (Nat.lt_of_lt_of_le (Heap.lt_size e) hT)
 refine I.step (g':=s.gens) (d':=s.drawn) (ch:=wr) (fun b hb=>⟨(hw b hb).2.2.2.1,(hw b hb).2.1,(hw b hb).2.2.2.2.1,(hw b hb).2.2.2.2.2⟩) (fun b o _ _ hc e _=>k b o hc e) (fun b o _ _ hc e _=>⟨o.slots,k b o hc e⟩)
  (fun b o _ e n=>by rw [z07 (neT b o e)];exact n) (fun b o hc e=>⟨o,k b o hc e⟩) (fun b ys e=>by rw [z07 (z08 e HT)];exact e) (fun b u ys e=>by rw [z07 (z08 e HT)];exact e)
  (fun b ps e=>⟨#[],by rw [z07 (z08 e HT),e];simp⟩) (fun m hm=>?_) (fun b u e=>?_) I.bare
 . obtain ⟨o,es,ep,ho,r⟩:=hm
   exact ⟨o,es,ep,k _ o (fun z=>(hw _ z).2.1 rfl) ho,r⟩
 . by_cases hb:b=T
   . subst hb
     rw [z0e] at e
     cases e
     exact ⟨hz,its,rv,ht⟩
   . rw [z07 hb] at e
     refine (I.hok b u e).stay (fun c v hc q=>k c v ?_ q) (fun c q=>?_) fun c ys q=>?_
     . rcases hc with z | z
       . rw [z];exact nw b u e
       . exact nw c _ z
     . rw [z07 (z08 q HT)];exact q
     . rw [z07 (z08 q HT)];exact q
end
section
variable {X:Cx} {pins:List (Addr×Obj)} {σ:St} {H:Hp} {s:Shared}
theorem Inv.turnedN {wr:List Addr} {h':Heap} {tk:Nat} (I:Inv X pins σ H s) (hw:∀b∈wr,z81 X pins H b) (k:∀b o,b∉wr->s.heap.get? b=some o->h'.get? b=some o):Inv X pins σ H { s with heap:=h',toks:=tk }:=by
 have nw:∀b u,H b=some u->b∉wr:=fun b u e z=>by rw [(hw b z).1] at e;cases e
 refine I.step (g':=s.gens) (d':=s.drawn) (ch:=wr) (fun b hb=>⟨(hw b hb).2.2.2.1,(hw b hb).2.1,(hw b hb).2.2.2.2.1,(hw b hb).2.2.2.2.2⟩) (fun b o _ _ hc e _=>k b o hc e) (fun b o _ _ hc e _=>⟨o.slots,k b o hc e⟩)
  (fun b o _ e n=>n) (fun b o hc e=>⟨o,k b o hc e⟩) (fun b ys e=>e) (fun b u ys e=>e) (fun b ps e=>⟨#[],by rw [e];simp⟩) (fun m hm=>?_) (fun b u e=>?_) I.bare
 . obtain ⟨o,es,ep,ho,r⟩:=hm
   exact ⟨o,es,ep,k _ o (fun z=>(hw _ z).2.1 rfl) ho,r⟩
 . refine (I.hok b u e).stay (fun c v hc q=>k c v ?_ q) (fun c q=>q) fun c ys q=>q
   rcases hc with z | z
   . rw [z];exact nw b u e
   . exact nw c _ z
end
noncomputable def ItP (S:Hp->Prop) (ps:List (V×V)):It:=⟨fun i H=>S H/\i<ps.length,fun i H x H'=>∃T a b,x=.ref T/\H T=none/\H'=upd H T (.tup [a,b])/\ps[i]?=some (a,b),fun i H=>S H/\i=ps.length⟩
theorem zdf:2<=sizeLine:=by rw [sizeLine_eq];decide
theorem zdg {P:Program} {w:World} {K:Frag} {elts:List Expr} {k:Nat} {pos:Pos} {e it l:Addr} {xs:List V} (hei:e≠it) (hle:l≠e) (hli:l≠it) :
  Turn P w K (.Tuple elts k pos) (ItP (fun H=>Rd H l (.lst xs)) ((zck 0 xs.length).zip xs)) [e,it] e (fun i h=>(∃old,IsEnum h e it i old)/\h.IsListIter it l i) where
 mem:=by simp
 obj:=fun i h ⟨⟨old,he⟩,⟨o1,h1,_,d1⟩⟩ c hc=>by
  have hc':c=e\/c=it:=by simpa using hc
  rcases hc' with rfl | rfl
  . exact ⟨_,he,fun v z=>by cases z⟩
  . exact ⟨o1,h1,fun v z=>by rw [d1] at z;cases z⟩
 keep:=fun i h h' ⟨⟨old,he⟩,h1⟩ kp=>⟨⟨old,kp e (by simp) _ he⟩,h1.at fun o z=>kp it (by simp) o z⟩
 item:=by
  intro X hP hw hK hc i pins s σ H E I hf st hg
  subst hP hw hK
  obtain ⟨hS,hlt⟩:=hg
  obtain ⟨he,h1⟩:=st
  obtain ⟨its,r,p1,z1⟩:=I.list (.inl hS)
  have W:=WalksT.enumerate (prog:=X.prog) (w:=X.w) (A:=X.A) (I.ok.hd hc) e it l hei hle hli its.toArray
  have le1:=r.length
  have hlx:i<xs.length:=by rw [List.length_zip,z3v] at hlt;omega
  have hlz:i<its.toArray.size:=by simp only [List.size_toArray];omega
  refine W.item i s _ _ hlz ⟨he,h1,p1.isList⟩ fun T vals h' tk hPt hT ht hM hk=>⟨.ref T,rfl,?_⟩
  refine W.go elts k pos i T _ _ _ hM fun h'' hst'' hk''=>?_
  obtain ⟨t,x,hx,rfl⟩:=hPt
  obtain ⟨a,ea⟩:∃a,xs[i]?=some a:=⟨xs[i],by simp⟩
  obtain ⟨u1,q1,ru1⟩:=r.get ea
  have hx':its[i]?=some x:=by simpa using hx
  rw [q1] at hx';cases hx'
  obtain ⟨oT,hoT,hcT,nT,hdT⟩:=ht
  have ht'':h''.IsTuple T ([.int (i:Nat) t,x]:List Value).toArray:=⟨oT,hk'' T oT (W.apart i T _ hM) hoT,hcT,nT,hdT⟩
  have sub:∀c∈[e,it],z81 X pins H c:=fun c hc'=>hf c hc'
  have I2:=I.turnedT (tk:=tk) (xs:=[.int (i:Nat),a]) (its:=[.int (i:Nat) t,x]) sub (fun c o hcw z=>hk'' c o hcw (hk c o hcw z)) hT ht'' (.cons ⟨_,rfl⟩ (.cons ru1 .nil)) zdf
  have HT:H T=none:=I.hok.fresh hT
  refine ⟨.ref T,upd H T (.tup [.int (i:Nat),a]),I2,rfl,⟨T,.int (i:Nat),a,rfl,HT,rfl,?_⟩,⟨hst''.1,hst''.2.1⟩,fun c hc'=>?_⟩
  . rw [List.getElem?_zip_eq_some]
    refine ⟨?_,ea⟩
    rw [zdd 0 _ _ hlx];simp
  . rw [z07]
    . exact (hf c hc').1
    . intro ec
      have hh:∃o,s.heap.get? c=some o:=by
       have hc'':c=e\/c=it:=by simpa using hc'
       obtain ⟨old,he'⟩:=he
       obtain ⟨o1,g1,_⟩:=h1
       rcases hc'' with z | z<;>subst z
       . exact ⟨_,he'⟩
       . exact ⟨_,g1⟩
      obtain ⟨o,ho⟩:=hh
      exact absurd (Nat.lt_of_lt_of_le (Heap.lt_size ho) hT) (by rw [ec];exact Nat.lt_irrefl _)
 done:=by
  intro X hP hw hK hc i pins s σ H E I hf st hg
  subst hP hw hK
  obtain ⟨hS,hle'⟩:=hg
  obtain ⟨he,h1⟩:=st
  obtain ⟨its,r,p1,z1⟩:=I.list (.inl hS)
  have W:=WalksT.enumerate (prog:=X.prog) (w:=X.w) (A:=X.A) (I.ok.hd hc) e it l hei hle hli its.toArray
  have le1:=r.length
  have hi:its.toArray.size=i:=by
   rw [List.length_zip,z3v] at hle'
   simp only [List.size_toArray];omega
  rw [<-hi] at h1 he
  exact W.done s _ _ ⟨he,h1,p1.isList⟩ fun h' tk hk=>⟨rfl,I.turnedN hf hk⟩
 self:=fun A i s Q E st h=>by
  obtain ⟨⟨old,he⟩,_⟩:=st
  exact wpAny_pyIter_enum he h
section
variable {X:Cx} {a b:Expr} {ta:TA} {p pos tpos:Pos} {elts:List Expr} {k:Nat}
noncomputable def zwm (ta:TA):TI:=fun σ H R=>ta σ H fun vs H1=>match vs with
 | [.ref l1,.ref l2]=>∃xs ys,Rd H1 l1 (.lst xs)/\Rd H1 l2 (.lst ys)/\R (ItP (fun H=>Rd H l1 (.lst xs)/\Rd H l2 (.lst ys)) (xs.zip ys)) H1
 | _=>False
theorem zdh {n l1 l2:Addr} (h1:l1<n) (h2:l2<n):ZipApart (n+4) (n+2) (n+3) n (n+1) l1 l2:=PySem.W.ktu_apart _ _ _ h1 h2
noncomputable def zrz (ta:TA):TI:=fun σ H R=>ta σ H fun vs H1=>match vs with
 | [.ref l]=>∃xs,Rd H1 l (.lst xs)/\R (ItP (fun H=>Rd H l (.lst xs)) ((zck 0 xs.length).zip xs)) H1
 | _=>False
theorem zk8 (hg:Gl X "enumerate") (hm:X.mg "enumerate"=none) (ha:PA X [a] ta) (hs:starEach [a] X.env=[(false,eval a X.env)]:=by rfl) :
  PI X (.Tuple elts k tpos) (.Call (.Name "enumerate" p) [a] [] pos) (zrz ta):=by
 intro pins s σ H R I h
 refine Call_ (z6c I hg hm boot_enumerate (PyProof.Rows.callWith_type1 (thn (ha pos pins s σ H _ I h) fun us s1 ⟨vs,H1,I1,r1,q1⟩=>?_) hs rfl))
 dsimp only at q1
 split at q1
 . rename_i l
   obtain ⟨xs,e1,q⟩:=q1
   obtain ⟨u,rfl,ru⟩:=z48 r1
   cases ru
   obtain ⟨its1,rr1,p1,_⟩:=I1.list (.inl e1)
   have lt1:l<s1.heap.objs.size:=by obtain ⟨o,ho,_⟩:=p1.isList;exact Heap.lt_size ho
   refine call_enumerate_list p1.isList fun h' he hi hsz hk=>?_
   refine wpAny_pyIter_enum he ⟨s1.heap.objs.size+1,[s1.heap.objs.size+1,s1.heap.objs.size],_,_,H1,rfl,I1.kept (t':=s1.toks) hk,zdg (Nat.succ_ne_self _) (Nat.ne_of_lt (Nat.lt_succ_of_lt lt1)) (Nat.ne_of_lt lt1),⟨⟨_,he⟩,hi⟩,fun c hc=>?_,q⟩
   have hc':s1.heap.objs.size<=c:=by
    have:c=s1.heap.objs.size+1\/c=s1.heap.objs.size:=by simpa using hc
    rcases this with z | z<;>rw [z]<;>first | exact Nat.le_add_right _ _ | exact Nat.le_refl _
   exact I1.fpOk hc' (I1.hok.fresh hc')
 . exact q1.elim
end
section
variable {X:Cx} {tg:Expr} {a b:Expr} {ta:TA} {p pos:Pos}
theorem zs0 (hg:Gl X "range") (hm:X.mg "range"=none) (ha:PA X [a] ta) (hs:starEach [a] X.env=[(false,eval a X.env)]:=by rfl):PI X tg (.Call (.Name "range" p) [a] [] pos) (iR1 ta):=by
 intro pins s σ H R I h
 refine Call_ (z6c I hg hm boot_range (PyProof.Rows.callWith_type1 (thn (ha pos pins s σ H _ I h) fun us s1 ⟨vs,H1,I1,r1,q1⟩=>?_) hs rfl))
 dsimp only at q1
 split at q1
 . rename_i j
   obtain ⟨⟨h1,h2⟩,q⟩:=q1
   obtain ⟨u,rfl,t,rfl⟩:=z48 r1
   refine call_range_1 (thn (zgb (tg:=tg) (R:=fun J H1=>∃J',(∀i H,J'.go i H->J.go i H)/\(∀i H x H',J'.go i H->J.yld i H x H'->J'.yld i H x H')/\(∀i H,J'.stop i H->J.stop i H)/\R J' H1) I1 (by omega) (by omega) h1 h2 ?_) fun itv s2 h2=>?_)
   . refine ⟨_,(z4c 0 (j - 0).toNat).1,(z4c 0 (j - 0).toNat).2.1,(z4c 0 (j - 0).toNat).2.2,?_⟩
     simpa using q
   . obtain ⟨it,fp,tn,J,H2,e,I2,T,st,hf,J',c1,c2,c3,r⟩:=h2
     exact ⟨it,fp,tn,J',H2,e,I2,T.conv c1 c2 c3,st,hf,r⟩
 . exact q1.elim
end
def cB1:V->Hp->(List V->Hp->Prop)->Prop:=fun x H R=>R [x] H
def cBT (n:Nat):V->Hp->(List V->Hp->Prop)->Prop:=fun x H R=>match x with
 | .ref a=>(match H a with | some (.tup xs)=>xs.length=n/\R xs H | _=>False)
 | _=>False
section
variable {X:Cx} {sc:Scope} {caps:List Str} {ix:List Nat} {elt iter:Expr} {ifs:List Expr} {pos px py pz tpos:Pos} {tt:TT} {te:TE} {wi:TI} {x y z:Str} {kt:Nat}
theorem zvq (x:V) (σt cs:St) (H:Hp) (Q:St->Hp->Prop) (hl:σt.length=1) (h:cB1 x H (fun vals H2=>Q (vals.map some++cs) H2)):z3n 0 x (σt++cs) H fun σ2 H2=>(∃vals:List V,vals.length=1/\σ2=vals.map some++cs)/\Q σ2 H2:=by
 match σt,hl with
 | [t],_=>exact ⟨⟨[x],rfl,rfl⟩,h⟩
theorem zvr {K:Frag} (x:V) (σt cs:St) (H:Hp) (Q:St->Hp->Prop) (hl:σt.length=2) (h:cBT 2 x H (fun vals H2=>Q (vals.map some++cs) H2)) :
  zrp K 2 (zcr (z3n 0) (zcr (z3n 1) zro)) x (σt++cs) H fun σ2 H2=>(∃vals:List V,vals.length=2/\σ2=vals.map some++cs)/\Q σ2 H2:=by
 cases x<;>first | exact h.elim | skip
 rename_i a
 unfold cBT at h
 dsimp only at h
 split at h
 . rename_i xs e
   obtain ⟨hn,h⟩:=h
   match σt,hl,xs,hn with
   | [t,t'],_,[v,v'],_=>exact ⟨a,[v,v'],rfl,.of e,rfl,v,[v'],rfl,v',[],rfl,rfl,⟨[v,v'],rfl,rfl⟩,h⟩
 . exact h.elim
theorem zs1 {tgs:List Str} {i:Nat} {x:Str} {px:Pos} (hN:(tgs++caps).Nodup) (hi:(tgs++caps)[i]?=some x) (hx:sc.names.lookup x=some .local) (fp:List Addr) (s:Shared) (H:Hp):PG (z1a X sc (tgs++caps) fp s H) (.Name x px) (z3n i):=
 z6y (X:=z1a X sc (tgs++caps) fp s H) hN hi (.inl (lookup_relabel_local hx)) (.inr (lookup_relabel_local hx))
theorem zgk (C:CompOk X sc caps ix) (hN:([x]++caps).Nodup) (hx:sc.names.lookup x=some .local) (hi:PI X (.Name x px) iter wi) (ht:∀fp s H,PTs (z1a X sc ([x]++caps) fp s H) ifs tt) (he:∀fp s H,PE (z1a X sc ([x]++caps) fp s H) elt te)
  (hs:∀x,foldedSetIterable iter X.env x=pure x:=by intro _;rfl):PE X (.ListComp elt [⟨.Name x px,iter,ifs,0⟩] sc pos) (zgh wi cB1 ix tt te):=
 zd6 (tgs:=[x]) C hi (fun fp s H=>zs1 hN rfl hx fp s H) zvq ht he hs
theorem zs2 (hc:X.calm=true) (hN:([x,y]++caps).Nodup) (hx:sc.names.lookup x=some .local) (hy:sc.names.lookup y=some .local) (fp:List Addr) (s:Shared) (H:Hp) :
  PG (z1a X sc ([x,y]++caps) fp s H) (.Tuple [.Name x px,.Name y py] kt tpos) (zrp X.K 2 (zcr (z3n 0) (zcr (z3n 1) zro))):=
 zhz (X:=z1a X sc ([x,y]++caps) fp s H) hc (z6z (zs1 hN rfl hx fp s H) (z6z (zs1 hN rfl hy fp s H) pgs_nil))
theorem zgl (C:CompOk X sc caps ix) (hN:([x,y]++caps).Nodup) (hx:sc.names.lookup x=some .local) (hy:sc.names.lookup y=some .local) (hi:PI X (.Tuple [.Name x px,.Name y py] kt tpos) iter wi) (ht:∀fp s H,PTs (z1a X sc ([x,y]++caps) fp s H) ifs tt)
  (he:∀fp s H,PE (z1a X sc ([x,y]++caps) fp s H) elt te) (hs:∀x,foldedSetIterable iter X.env x=pure x:=by intro _;rfl):PE X (.ListComp elt [⟨.Tuple [.Name x px,.Name y py] kt tpos,iter,ifs,0⟩] sc pos) (zgh wi (cBT 2) ix tt te):=
 zd6 (tgs:=[x,y]) C hi (fun fp s H=>zs2 C.calm hN hx hy fp s H) zvr ht he hs
noncomputable def zk9 (n:Nat) (t:TGs):TG:=fun v σ H Q=>match v with
 | .ref a=>(match H a with | some (.tup xs)=>xs.length=n/\t xs σ H Q | _=>False)
 | _=>False
noncomputable def zi4 (t:TG) (u:TGs):TGs:=fun vs σ H Q=>match vs with | v::r=>t v σ H fun σ' H'=>u r σ' H' Q | []=>False
noncomputable def zn7:TGs:=fun vs σ H Q=>match vs with | []=>Q σ H | _=>False
theorem PGs.imp {es:List Expr} {t t':TGs} (h:PGs X es t) (hi:∀vs σ H Q,t' vs σ H Q->t vs σ H Q):PGs X es t':=fun pins s σ H vs us Q I r q=>h pins s σ H vs us Q I r (hi vs σ H Q q)
theorem PG.imp {e:Expr} {t t':TG} (h:PG X e t) (hi:∀v σ H Q,t' v σ H Q->t v σ H Q):PG X e t':=fun pins s σ H v u Q I r q=>h pins s σ H v u Q I r (hi v σ H Q q)
theorem zgm:PGs X [] zn7:=pgs_nil.imp fun vs σ H Q q=>by
 cases vs with
 | nil=>exact ⟨rfl,q⟩
 | cons _ _=>exact q.elim
theorem zdi {e:Expr} {es:List Expr} {t:TG} {u:TGs} (h1:PG X e t) (h2:PGs X es u) (hs:(assignEach (e::es) X.env).map (·.2)=assign e X.env::(assignEach es X.env).map (·.2):=by rfl):PGs X (e::es) (zi4 t u):=(z6z h1 h2 hs).imp fun vs σ H Q q=>by
 cases vs with
 | nil=>exact q.elim
 | cons v r=>exact ⟨v,r,rfl,q⟩
theorem zka {es:List Expr} {k:Nat} {t:TGs} {n:Nat} (hc:X.calm=true) (h:PGs X es t)
  (hn:(assignEach es X.env).length=n:=by rfl) (hst:(assignEach es X.env).findIdx? (·.1)=none:=by rfl):PG X (.Tuple es k pos) (zk9 n t):=(zhz hc h hn hst).imp fun v σ H Q q=>by
 cases v<;>first | exact q.elim | skip
 rename_i a
 unfold zk9 at q
 dsimp only at q
 split at q
 . rename_i xs e;exact ⟨a,xs,rfl,.of e,q.1,q.2⟩
 . exact q.elim
end
theorem zuy {α:Type} (a:α) (r:List α):atI (a::r) 0=some a:=z70 (j:=0) rfl
theorem zuz {α:Type} (a b:α) (r:List α):atI (a::b::r) 1=some b:=z70 (j:=1) rfl
section
variable {prog:Program} {w:World} {A:Around} {E:Value->Shared->Prop} {s:Shared}
theorem zal {it t:Addr} {items:Array Value} (hne:t≠it):∀(n i:Nat) (s:Shared) (Q:List Value->Shared->Prop),s.heap.IsListIter it t i->s.heap.IsList t items->i+n<=items.size ->
  (∀h',h'.IsListIter it t (i+n)->Heap.SameBut it s.heap h'->Q ((items.toList.drop i).take n) { s with heap:=h' })->wpAny (model prog w) A (draw (.ref it) n) Q E s
 | 0,i,s,Q,hit,_,_,k=>by
  show wpAny _ _ (pure []) Q E s
  exact wpAny_pure (by simpa using k s.heap hit (Heap.SameBut.refl ..))
 | n+1,i,s,Q,hit,ht,hle,k=>by
  have hlt:i<items.size:=by omega
  show wpAny _ _ (pyNext (.ref it) >>= _) Q E s
  refine wpAny_bind (wpAny_pyNext_list_item hit ht (x:=items[i]) (by simp [hlt]) fun g1 it1 sb1=>?_)
  refine wpAny_bind (wpAny_holding (zal hne n (i+1) _ _ it1 (ht.extBut sb1.extBut hne) (by omega) fun g2 it2 sb2=>wpAny_pure ?_))
  have hd:items.toList.drop i=items[i]::items.toList.drop (i+1):=by simp [List.drop_eq_getElem_cons,hlt]
  have z:=k g2 (by rw [show i+(n+1)=i+1+n by omega];exact it2) (sb1.trans sb2)
  rw [hd,List.take_succ_cons] at z
  exact z
theorem zdj {t:Addr} {items:Array Value} {Q:List Value->Shared->Prop} (hh:A.handled=none) (ht:s.heap.IsList t items)
  (k:∀h',(∀b o,s.heap.get? b=some o->h'.get? b=some o)->Q items.toList { s with heap:=h' }):wpAny (model prog w) A (unpackItems (.ref t) items.size none) Q E s:=by
 have hlt:t≠s.heap.objs.size:=by obtain ⟨o,ho,_⟩:=ht;exact Nat.ne_of_lt (Heap.lt_size ho)
 have old:∀{b:Addr} {o:Obj},s.heap.get? b=some o->b≠s.heap.objs.size:=fun e=>Nat.ne_of_lt (Heap.lt_size e)
 unfold unpackItems
 refine wpAny_bind ?_
 . unfold notIterableAtAll
   refine wpAny_bind (wpAny_specialOf ht.typeIs slot_list_iter.lookup ?_)
   refine wpAny_pure ?_
   simp only [Bool.false_eq_true,if_false]
   refine wpAny_bind (wpAny_holding (wpAny_pyIter_list ht ?_))
   refine wpAny_bind (wpAny_holding (zal hlt items.size 0 _ _ ⟨_,Heap.get?_push_size _ rfl,rfl,rfl⟩ (ht.push _) (by omega) fun g1 it1 sb1=>?_))
   have hall:List.take items.size (List.drop 0 items.toList)=items.toList:=by
    rw [List.drop_zero];exact List.take_of_length_le (by simp)
   rw [hall]
   rw [if_neg (by simp)]
   have ht1:g1.IsList t items:=(ht.push _).extBut sb1.extBut hlt
   refine wpAny_bind (wpAny_holding (wpAny_pyNext_list_end hh it1 ht1 (by simp) fun g2 eb2=>?_))
   simp only [Option.isSome_none,Bool.false_eq_true,if_false]
   exact wpAny_pure (k g2 fun b o e=>eb2 b o (old e) (sb1.extBut b o (old e) (Heap.get?_push_of_some _ e)))
theorem zbn {env:Env} {elts:List Expr} {x1} {pos:Pos} {t:Addr} {items:Array Value} {Q:Unit->Shared->Prop} (hh:A.handled=none) (ht:s.heap.IsList t items)
  (hn:(assignEach elts env).length=items.size) (hstar:(assignEach elts env).findIdx? (·.1)=none)
  (h:∀h',(∀b o,s.heap.get? b=some o->h'.get? b=some o)->wpAny (model prog w) A (assignInOrder ((assignEach elts env).map (·.2)) items.toList) Q E { s with heap:=h' }) :
  wpAny (model prog w) A (assign (.Tuple elts x1 pos) env (.ref t)) Q E s:=by
 rw [assign_Tuple]
 refine wpAny_bind (wpAny_standAt ?_)
 unfold unpack
 rw [hn,hstar]
 exact wpAny_bind (wpAny_holding (zdj hh ht h))
end
section
variable {X:Cx} {pos:Pos}
noncomputable def zbo (n:Nat) (t:TGs):TG:=fun v σ H Q=>match v with
 | .ref a=>(match H a with
  | some (.tup xs)=>xs.length=n/\t xs σ H Q
  | some (.lst xs)=>xs.length=n/\t xs σ H Q
  | _=>False)
 | _=>False
theorem zdk {es:List Expr} {k:Nat} {t:TGs} {n:Nat} (hc:X.calm=true) (h:PGs X es t)
  (hn:(assignEach es X.env).length=n:=by rfl) (hst:(assignEach es X.env).findIdx? (·.1)=none:=by rfl):PG X (.Tuple es k pos) (zbo n t):=by
 intro pins s σ H v u Q I r hw
 cases v<;>first | exact hw.elim | skip
 rename_i a
 unfold zbo at hw
 dsimp only at hw
 split at hw
 . rename_i xs e
   exact zka hc h hn hst pins s σ H (.ref a) u Q I r (by unfold zk9;dsimp only;rw [e];exact hw)
 . rename_i xs e
   obtain ⟨hl,hw⟩:=hw
   cases r
   obtain ⟨its,rv,ht,hz⟩:=I.list (.of e)
   refine zbn (I.ok.hd hc) ht.isList (by simp [hn,<-hl,rv.length]) hst fun h' hx=>?_
   exact h pins _ σ H xs _ Q (I.kept (t':=s.toks) hx) (by simpa using rv) hw
 . exact hw.elim
theorem few {n:Nat} (h:n<=1000):n<=sizeLine:=Nat.le_of_lt (zd5 h)
def zrf:List V->Hp->VK->Prop:=fun xs H Q=>match xs with
 | [x,.ty c]=>z58 c=true/\(match z76 H x with | some t=>Q (.bl (zd8 t c)) H | none=>False)
 | _=>False
def zkb:List V->Hp->VK->Prop:=fun xs H Q=>match xs with
 | [.ref p]=>∃ns:List Int,z4b H p=some (ns.map V.int)/\Q (.int ns.sum) H
 | _=>False
def zkc:List V->Hp->VK->Prop:=fun xs H Q=>match xs with
 | [.ref p]=>∃bs:List Bool,Rd H p (.lst (bs.map V.bl))/\Q (.bl (bs.any id)) H
 | _=>False
def zn8:List V->Hp->VK->Prop:=fun xs H Q=>match xs with | [.int i]=>Q (.int i) H | [.bl k]=>Q (.int (if k then 1 else 0)) H | _=>False
section
variable {H:Hp} {Q:VK} {QB:Bool->Hp->Prop} {p q l b:Addr} {i j:Int} {x y:V} {a c:Bool} {cs:String} {vs:List V}
theorem zn9:zrf [x,.ty cs] H Q=(z58 cs=true/\(match z76 H x with | some t=>Q (.bl (zd8 t cs)) H | none=>False)):=rfl
theorem zdl:zkb [.ref p] H Q=∃ns:List Int,z4b H p=some (ns.map V.int)/\Q (.int ns.sum) H:=rfl
theorem zkd:zkc [.ref p] H Q=∃bs:List Bool,Rd H p (.lst (bs.map V.bl))/\Q (.bl (bs.any id)) H:=rfl
end
theorem zs3:CallR X (.builtin "isinstance") zrf:=zgi
theorem zs4 (hc:X.calm=true):CallR X (.builtin "sum") zkb:=zd9 hc
theorem zs5 (hc:X.calm=true):CallR X (.builtin "any") zkc:=zdb hc
theorem zna:CallR X (.type "int") zn8:=zdc
end
inductive NK where
 | i (n:Int)
 | t (ks:List NK)
noncomputable instance:DecidableEq NK:=fun a b=>Classical.propDecidable (a=b)
mutual
noncomputable def NK.dep:NK->Nat
 | .i _=>0
 | .t ks=>z2r ks+1
noncomputable def z2r:List NK->Nat
 | []=>0
 | k::ks=>max k.dep (z2r ks)
end
mutual
noncomputable def NK.hs:NK->Int
 | .i n=>hashInt n
 | .t ks=>reduceHash (Builtin.Tuple.tupleHashOf (znb ks))
noncomputable def znb:List NK->List Int
 | []=>[]
 | k::ks=>k.hs::znb ks
end
mutual
noncomputable def NK.dr:NK->Nat
 | .i _=>1
 | .t ks=>zrg ks+1
noncomputable def zrg:List NK->Nat
 | []=>0
 | k::ks=>k.dr+zrg ks
end
mutual
def NKv (h:Heap):NK->Value->Prop
 | .i n,v=>∃t,v=.int n t
 | .t ks,v=>∃a its,v=.ref a/\h.IsTuple a its/\NKvs h ks its.toList
def NKvs (h:Heap):List NK->List Value->Prop
 | [],vs=>vs=[]
 | k::ks,vs=>∃v r,vs=v::r/\NKv h k v/\NKvs h ks r
end
theorem NKvs.len {h:Heap}:∀{ks:List NK} {vs:List Value},NKvs h ks vs->ks.length=vs.length
 | [],_,q=>by simp only [NKvs] at q;rw [q];rfl
 | k::ks,_,q=>by
  simp only [NKvs] at q
  obtain ⟨v,r,rfl,_,q⟩:=q
  simp only [List.length_cons,NKvs.len q]
theorem zdm {h:Heap} {a:Addr} {x y:Array Value} (p:h.IsTuple a x) (q:h.IsTuple a y):x=y:=by
 obtain ⟨o,e,c,n,d⟩:=p
 obtain ⟨o',e',c',n',d'⟩:=q
 rw [e] at e';cases e'
 rw [d] at d';cases d';rfl
mutual
theorem NKv.inj {h:Heap}:∀{k j:NK} {v:Value},NKv h k v->NKv h j v->k=j
 | .i n,.i m,v,p,q=>by
  simp only [NKv] at p q
  obtain ⟨t,rfl⟩:=p;obtain ⟨t',e⟩:=q
  cases e;rfl
 | .i n,.t ks,v,p,q=>by
  simp only [NKv] at p q
  obtain ⟨t,rfl⟩:=p;obtain ⟨_,_,e,_⟩:=q;cases e
 | .t ks,.i m,v,p,q=>by
  simp only [NKv] at p q
  obtain ⟨t,rfl⟩:=q;obtain ⟨_,_,e,_⟩:=p;cases e
 | .t ks,.t js,v,p,q=>by
  simp only [NKv] at p q
  obtain ⟨a,its,rfl,p1,p2⟩:=p
  obtain ⟨b,its',e,q1,q2⟩:=q
  cases e
  cases zdm p1 q1
  rw [NKvs.inj p2 q2]
theorem NKvs.inj {h:Heap}:∀{ks js:List NK} {vs:List Value},NKvs h ks vs->NKvs h js vs->ks=js
 | [],[],_,_,_=>rfl
 | [],j::js,_,p,q=>by
  simp only [NKvs] at p q;subst p;obtain ⟨_,_,e,_⟩:=q;cases e
 | k::ks,[],_,p,q=>by
  simp only [NKvs] at p q;subst q;obtain ⟨_,_,e,_⟩:=p;cases e
 | k::ks,j::js,_,p,q=>by
  simp only [NKvs] at p q
  obtain ⟨v,r,rfl,p1,p2⟩:=p
  obtain ⟨_,_,e,q1,q2⟩:=q
  cases e
  rw [NKv.inj p1 q1,NKvs.inj p2 q2]
end
mutual
theorem NKv.stay {h h':Heap} (st:∀a its,h.IsTuple a its->h'.IsTuple a its):∀{k:NK} {v:Value},NKv h k v->NKv h' k v
 | .i n,v,p=>by simp only [NKv] at p ⊢;exact p
 | .t ks,v,p=>by
  simp only [NKv] at p ⊢
  obtain ⟨a,its,e,p1,p2⟩:=p
  exact ⟨a,its,e,st _ _ p1,NKvs.stay st p2⟩
theorem NKvs.stay {h h':Heap} (st:∀a its,h.IsTuple a its->h'.IsTuple a its):∀{ks:List NK} {vs:List Value},NKvs h ks vs->NKvs h' ks vs
 | [],_,p=>by simp only [NKvs] at p ⊢;exact p
 | k::ks,_,p=>by
  simp only [NKvs] at p ⊢
  obtain ⟨v,r,e,p1,p2⟩:=p
  exact ⟨v,r,e,NKv.stay st p1,NKvs.stay st p2⟩
end
section
variable {prog:Program} {w:World}
theorem zdn:∀(m:Nat) {k:NK} {v:Value} {A:Around} {E:Value->Shared->Prop} {s:Shared} {Q:Int->Shared->Prop},k.dep<=m->A.units+m<cLine->NKv s.heap k v->Q k.hs { s with toks:=s.toks+k.dr }->wpAny (model prog w) A (pyHash v) Q E s
 | m,.i n,v,A,E,s,Q,hd,hu,p,q=>by
  simp only [NKv] at p
  obtain ⟨t,rfl⟩:=p
  exact wpAny_pyHash_int q
 | 0,.t ks,v,A,E,s,Q,hd,hu,p,q=>by simp only [NK.dep] at hd;omega
 | m+1,.t ks,v,A,E,s,Q,hd,hu,p,q=>by
  simp only [NKv] at p
  obtain ⟨a,its,rfl,⟨o,e,c,n,d⟩,p2⟩:=p
  simp only [NK.dep] at hd
  show wpAny (model prog w) A (pyHashByItsType (.ref a)) Q E s
  refine W.pyHash_slot (T:="tuple") ⟨o,e,c⟩ F.slot_tuple_hash F.entry_tuple_hash (F.args_tuple_hash_1 _) rfl (.inr (by omega)) ?_
  refine wpAny_bind (wpAny_of_eq (show slotArgs "__hash__" 0 ⟨[.ref a],[]⟩=pure (.ref a,[]) from rfl) ?_)
  show wpAny (model prog w) A.in1 (Builtin.Tuple.tupleItemsOf (.ref a) >>= _) _ _ s
  refine wpAny_bind (wpAny_tupleItemsOf e d ?_)
  refine wpAny_bind ?_
  have go:∀(ks:List NK) (vs:List Value) (b:Array Int) (s':Shared) (Q':Array Int->Shared->Prop),z2r ks<=m->NKvs s'.heap ks vs->(∀b':Array Int,b'.toList=b.toList++znb ks->Q' b' { s' with toks:=s'.toks+zrg ks }) ->
    wpAny (model prog w) A.in1 (forIn vs b fun x r=>do
     let h <-pyHash x
     pure (ForInStep.yield (r.push h))) Q' E s':=by
   intro ks
   induction ks with
   | nil=>
    intro vs b s' Q' _ p hq
    simp only [NKvs] at p;subst p
    exact wpAny_pure (hq b (by simp [znb]))
   | cons k ks ih=>
    intro vs b s' Q' hd p hq
    simp only [NKvs] at p
    obtain ⟨v,r,rfl,p1,p2⟩:=p
    simp only [z2r] at hd
    rw [List.forIn_cons]
    refine wpAny_bind (wpAny_bind (zdn m (by omega) (by show A.units+1+m<cLine;omega) p1 ?_))
    refine wpAny_pure ?_
    refine ih r (b.push k.hs) _ Q' (by omega) p2 fun b' hb'=>?_
    have:=hq b' (by rw [hb'];simp [znb])
    simpa only [zrg,Nat.add_assoc] using this
  rw [<-Array.forIn_toList]
  refine go ks its.toList #[] s _ (by omega) p2 fun b' hb'=>?_
  show wpAny (model prog w) A.in1 (retInt (Builtin.Tuple.tupleHashOf b'.toList)) _ _ _
  refine wpAny_mono (wpAny_ret_mkInt (Q:=fun v s'=>∃n t,v=Value.int n t/\Q (reduceHash n) s') ⟨_,_,rfl,?_⟩) (fun fin s' h=>?_) fun _ _ h=>h
  . rw [hb']
    simpa only [NK.hs,NK.dr,Nat.add_assoc,List.nil_append] using q
  . obtain ⟨v,rfl,n,t,rfl,hq⟩:=h
    exact ⟨n,t,rfl,hq⟩
theorem znc {s:Shared}:∀(m:Nat) {k j:NK} {u v:Value} {A:Around},k.dep<=m->A.units+m<cLine->NKv s.heap k u->NKv s.heap j v->SeqAt.EqAt A s u v (decide (k=j))
 | m,.i n,.i n',u,v,A,hd,hu,p,q=>by
  simp only [NKv] at p q
  obtain ⟨t,rfl⟩:=p;obtain ⟨t',rfl⟩:=q
  have:decide (NK.i n=NK.i n')=(n==n'):=by
   by_cases h:n=n'
   . rw [h];simp
   . rw [decide_eq_false (fun e=>h (NK.i.inj e))];simp [h]
  rw [this]
  exact .int_int _ _ _ _
 | m,.i n,.t js,u,v,A,hd,hu,p,q=>by
  simp only [NKv] at p q
  obtain ⟨t,rfl⟩:=p;obtain ⟨a,its,rfl,q1,_⟩:=q
  rw [decide_eq_false (fun e=>by cases e)]
  exact .int_tuple _ _ q1 (by omega)
 | m,.t ks,.i n',u,v,A,hd,hu,p,q=>by
  simp only [NKv] at p q
  obtain ⟨t,rfl⟩:=q;obtain ⟨a,its,rfl,q1,_⟩:=p
  rw [decide_eq_false (fun e=>by cases e)]
  exact .tuple_int _ _ q1 (by omega)
 | 0,.t ks,.t js,u,v,A,hd,hu,p,q=>by simp only [NK.dep] at hd;omega
 | m+1,.t ks,.t js,u,v,A,hd,hu,p,q=>by
  have p0:=p
  have q0:=q
  simp only [NKv] at p q
  obtain ⟨a,its,rfl,p1,p2⟩:=p
  obtain ⟨b,its2,rfl,q1,q2⟩:=q
  simp only [NK.dep] at hd
  by_cases hab:a=b
  . subst hab
    rw [decide_eq_true (NKv.inj p0 q0)]
    exact .same _
  . have l1:=p2.len
    have l2:=q2.len
    simp only [Array.length_toList] at l1 l2
    have at':∀(ks:List NK) (vs:List Value),NKvs s.heap ks vs->∀j v,vs[j]?=some v->NKv s.heap (ks.getD j (.i 0)) v/\(ks.getD j (.i 0)).dep<=z2r ks:=by
     intro ks
     induction ks with
     | nil=>intro vs p j v e;simp only [NKvs] at p;subst p;simp at e
     | cons k ks ih=>
      intro vs p j v e
      simp only [NKvs] at p
      obtain ⟨v0,r,rfl,r1,r2⟩:=p
      cases j with
      | zero=>simp at e;subst e;exact ⟨r1,by simp only [List.getD_cons_zero,z2r];omega⟩
      | succ j=>
       simp only [List.getElem?_cons_succ] at e
       obtain ⟨x1,x2⟩:=ih r r2 j v e
       exact ⟨x1,by simp only [List.getD_cons_succ,z2r];omega⟩
    have q:=SeqAt.RcAt.tuples (A:=A) p1 q1 (by omega) (e:=fun j=>decide (ks.getD j (.i 0)=js.getD j (.i 0))) fun j h1 h2=>by
     obtain ⟨x1,x2⟩:=at' ks _ p2 j its[j] (by simp [h1])
     obtain ⟨y1,y2⟩:=at' js _ q2 j its2[j] (by simp [h2])
     exact znc m (by omega) (by show A.units+1+m<cLine;omega) x1 y1
    have eb:((List.range (min its.size its2.size)).all (fun j=>decide (ks.getD j (.i 0)=js.getD j (.i 0)))&&its.size==its2.size)=decide (NK.t ks=NK.t js):=by
     rw [Bool.eq_iff_iff,Bool.and_eq_true,List.all_eq_true,decide_eq_true_eq,beq_iff_eq]
     constructor
     . rintro ⟨h1,h2⟩
       congr 1
       refine List.ext_getElem (by omega) fun j hj hj'=>?_
       have:=h1 j (List.mem_range.mpr (by omega))
       rw [decide_eq_true_eq,List.getD_eq_getElem?_getD,List.getD_eq_getElem?_getD,List.getElem?_eq_getElem hj,List.getElem?_eq_getElem hj'] at this
       exact this
     . intro e
       cases e
       exact ⟨fun j _=>decide_eq_true rfl,by omega⟩
    rw [eb] at q
    exact .of_refs hab q
end
section
variable {prog:Program} {w:World}
theorem zam {A:Around} {E:Value->Shared->Prop} {s:Shared}:∀(m:Nat) {k:NK} {v:Value} {Q:Bool->Shared->Prop},k.dep<=m->NKv s.heap k v->Q true s->wpAny (model prog w) A (eqIsQuiet m v) Q E s
 | m,.i n,v,Q,hd,p,q=>by
  simp only [NKv] at p
  obtain ⟨t,rfl⟩:=p
  rw [eqIsQuiet.eq_3 _ _ (fun a e=>by cases e)]
  exact wpAny_pure q
 | 0,.t ks,v,Q,hd,p,q=>by simp only [NK.dep] at hd;omega
 | m+1,.t ks,v,Q,hd,p,q=>by
  simp only [NKv] at p
  obtain ⟨a,its,rfl,⟨o,e,c,n,d⟩,p2⟩:=p
  simp only [NK.dep] at hd
  rw [eqIsQuiet.eq_2]
  refine wpAny_bind (wpAny_specialOf (T:="tuple") ⟨o,e,c⟩ F.slot_tuple_eq.lookup ?_)
  show wpAny (model prog w) A (isInstance (.ref a) (.type "tuple") >>= _) _ _ s
  refine wpAny_bind (wpAny_isInstance (T:="tuple") (b:=true) ⟨o,e,c⟩ (by rfl) ?_)
  show wpAny (model prog w) A (seqItems? (.ref a) >>= _) _ _ s
  refine wpAny_bind (wpAny_seqItems e d ?_)
  refine wpAny_bind ?_
  have go:∀(ks:List NK) (vs:List Value) (Q':Option Bool×Unit->Shared->Prop),z2r ks<=m->NKvs s.heap ks vs->Q' (none,()) s ->
    wpAny (model prog w) A (forIn vs ((none,()):Option Bool×Unit) fun y __s=>do
     let __do_lift <-eqIsQuiet m y
     if (!__do_lift)=true then pure (ForInStep.done (some false,()))
      else pure (ForInStep.yield (none,()))) Q' E s:=by
   intro ks
   induction ks with
   | nil=>
    intro vs Q' _ p hq
    simp only [NKvs] at p;subst p
    exact wpAny_pure hq
   | cons k ks ih=>
    intro vs Q' hd p hq
    simp only [NKvs] at p
    obtain ⟨v,r,rfl,p1,p2⟩:=p
    simp only [z2r] at hd
    rw [List.forIn_cons]
    refine wpAny_bind (wpAny_bind (zam m (by omega) p1 ?_))
    refine wpAny_pure ?_
    exact ih r Q' (by omega) p2 hq
  show wpAny (model prog w) A (forIn its ((none,()):Option Bool×Unit) _) _ _ s
  rw [<-Array.forIn_toList]
  refine go ks its.toList _ (by omega) p2 ?_
  exact wpAny_pure q
noncomputable def deepKind (prog:Program) (w:World):HeapKind prog w NK where
 is:=fun h k a=>NKv h k (.ref a)/\k.dep<=8
 hash:=NK.hs
 draws:=NK.dr
 room:=fun A=>A.units+8<cLine
 inj:=fun p q=>NKv.inj p.1 q.1
 keeps:=fun {h h' k a d o es ep} p e eo sb=>⟨NKv.stay (fun b its t=>by
  obtain ⟨ob,eb,cb,n,db⟩:=t
  have hne:b≠d:=fun z=>by
   subst z
   rw [e] at eb;cases eb
   rw [eo] at db;cases db
  exact ⟨ob,(sb.2 b hne).trans eb,cb,n,db⟩) p.1,p.2⟩
 pyHash:=fun {A E s k a Q} hr p q=>zdn 8 p.2 hr p.1 q
 eqBool:=fun {A E s x y a b Q} hr p p' q=>znc 8 p.2 hr p.1 p'.1 prog w E Q q
 quiet:=fun {A E s k a Q} p q=>zam 8 p.2 p.1 q
end
noncomputable def dnE (x:NK×Addr×Value):DictEntry:={ hash:=x.1.hs,key:=.ref x.2.1,val:=x.2.2 }
def dnP (a:Addr) (ks:List (NK×Addr)) (xs:List V) (o:Obj) (h:Heap):Prop:=
 h.get? a=some o/\∃(vs:List Value) (es:Array DictEntry) (ep:Nat),Vals xs vs/\ks.length=vs.length/\o.ExactDict/\o.data=.dict es ep/\es.toList=((ks.zip vs).map fun q=>(q.1.1,q.1.2,q.2)).map dnE
theorem dnP.stay {a:Addr} {ks:List (NK×Addr)} {xs:List V} {o:Obj}:∀h1 h2:Heap,dnP a ks xs o h1->(∀o,h1.get? a=some o->h2.get? a=some o)->dnP a ks xs o h2:=fun _ _ p k=>⟨k _ p.1,p.2⟩
mutual
def NKr (H:Hp):NK->V->Prop
 | .i n,v=>v=.int n
 | .t ks,v=>∃a ys,v=.ref a/\H a=some (.tup ys)/\NKrs H ks ys
def NKrs (H:Hp):List NK->List V->Prop
 | [],vs=>vs=[]
 | k::ks,vs=>∃v r,vs=v::r/\NKr H k v/\NKrs H ks r
end
mutual
theorem NKr.mono {H H':Hp} (st:∀a ys,H a=some (.tup ys)->H' a=some (.tup ys)):∀{k:NK} {v:V},NKr H k v->NKr H' k v
 | .i n,v,p=>by simp only [NKr] at p ⊢;exact p
 | .t ks,v,p=>by
  simp only [NKr] at p ⊢
  obtain ⟨a,ys,e,p1,p2⟩:=p
  exact ⟨a,ys,e,st _ _ p1,NKrs.mono st p2⟩
theorem NKrs.mono {H H':Hp} (st:∀a ys,H a=some (.tup ys)->H' a=some (.tup ys)):∀{ks:List NK} {vs:List V},NKrs H ks vs->NKrs H' ks vs
 | [],_,p=>by simp only [NKrs] at p ⊢;exact p
 | k::ks,_,p=>by
  simp only [NKrs] at p ⊢
  obtain ⟨v,r,e,p1,p2⟩:=p
  exact ⟨v,r,e,NKr.mono st p1,NKrs.mono st p2⟩
end
section
variable {X:Cx} {pins:List (Addr×Obj)} {σ:St} {H:Hp} {s:Shared}
mutual
theorem zgn (I:Inv X pins σ H s):∀{k:NK} {x:V} {u:Value},NKr H k x->RelV x u->NKv s.heap k u
 | .i n,x,u,p,r=>by
  simp only [NKr] at p;subst p
  obtain ⟨t,rfl⟩:=r
  simp only [NKv];exact ⟨t,rfl⟩
 | .t ks,x,u,p,r=>by
  simp only [NKr] at p
  obtain ⟨a,ys,rfl,p1,p2⟩:=p
  cases r
  obtain ⟨its,r1,t1,_⟩:=I.tuple (.of p1)
  simp only [NKv]
  exact ⟨a,its.toArray,rfl,t1,zi5 I p2 r1⟩
theorem zi5 (I:Inv X pins σ H s):∀{ks:List NK} {xs:List V} {us:List Value},NKrs H ks xs->Vals xs us->NKvs s.heap ks us
 | [],_,_,p,r=>by simp only [NKrs] at p;subst p;cases r;simp only [NKvs]
 | k::ks,_,_,p,r=>by
  simp only [NKrs] at p
  obtain ⟨v,q,rfl,p1,p2⟩:=p
  cases r with
  | cons a1 a2=>
   simp only [NKvs]
   exact ⟨_,_,rfl,zgn I p1 a1,zi5 I p2 a2⟩
end
end
def KL (K:Frag) (a:Addr) (xs:List V):Prop:=∃(o:Obj) (its:Array Value) (n:Nat),K.lookup a=some o/\o.cls=.type "list"/\o.dict=none/\o.data=.seq its n/\its.size<=sizeLine/\Vals xs its.toList
def XO (K:Frag) (c:String) (a:Addr) (o:HO):Prop:=∃C:Addr,nsIn K mainGlobals (c:Str)=some (some (.ref C))/\o=.ext fun h=>∃ob,h.get? a=some ob/\ob.cls=.ref C/\∃vs,ob.data=.fields vs
inductive D where
 | non | bl (b:Bool) | int (i:Int) | str (x:Str) | tup (ds:List D) | lst (ds:List D)
 | dk (ks:List Key) (ds:List D) | dt (ks:List (List Key)) (ds:List D) | dn (ks:List NK) (ds:List D) | scr (ns:List Int) | exc (c:String)
def DN (H:Hp) (a:Addr) (qs:List (NK×Addr)):Prop:=(qs.map (·.1)).Nodup/\(∀q∈qs,NKr H q.1 (.ref q.2)/\q.1.dep<=8)/\(a==sysModules)=false/\qs.length<=sizeLine
theorem DN.tk {H H':Hp} {a:Addr} {qs:List (NK×Addr)} (h:DN H a qs) (st:∀a ys,H a=some (.tup ys)->H' a=some (.tup ys)):DN H' a qs:=
 ⟨h.1,fun q hq=>⟨NKr.mono st (h.2.1 q hq).1,(h.2.1 q hq).2⟩,h.2.2⟩
mutual
def RD (K:Frag) (H:Hp):D->V->Prop
 | .non,v=>v=.non
 | .bl b,v=>v=.bl b
 | .int i,v=>v=.int i
 | .str x,v=>v=.str x
 | .tup ds,v=>∃a xs,v=.ref a/\H a=some (.tup xs)/\RDs K H ds xs
 | .lst ds,v=>∃a xs,v=.ref a/\H a=some (.lst xs)/\RDs K H ds xs
 | .dk ks ds,v=>∃a xs,v=.ref a/\H a=some (.dK (ks.zip xs))/\ks.length=xs.length/\RDs K H ds xs
 | .dt ks ds,v=>∃a xs,v=.ref a/\H a=some (.dT (ks.zip xs))/\ks.length=xs.length/\RDs K H ds xs
 | .dn ks ds,v=>∃a qs xs o,v=.ref a/\H a=some (.ext (dnP a qs xs o))/\qs.map (·.1)=ks/\DN H a qs/\RDs K H ds xs
 | .scr ns,v=>∃a,v=.ref a/\((∃o,H a=some (.frz o (.lst (ns.map V.int))))\/KL K a (ns.map V.int))
 | .exc c,v=>∃a o,v=.ref a/\XO K c a o/\H a=some o
def RDs (K:Frag) (H:Hp):List D->List V->Prop
 | [],xs=>xs=[]
 | d::ds,xs=>∃x r,xs=x::r/\RD K H d x/\RDs K H ds r
end
mutual
noncomputable def D.noL:D->Bool
 | .lst _=>false
 | .dk _ _=>false
 | .dt _ _=>false
 | .dn _ _=>false
 | .tup ds=>z2t ds
 | _=>true
noncomputable def z2t:List D->Bool
 | []=>true
 | d::ds=>d.noL&&z2t ds
end
mutual
noncomputable def D.pl:D->Bool
 | .dk _ _=>false
 | .dt _ _=>false
 | .dn _ _=>false
 | .scr _=>false
 | .exc _=>false
 | .tup ds=>pls ds
 | .lst ds=>pls ds
 | _=>true
noncomputable def pls:List D->Bool
 | []=>true
 | d::ds=>d.pl&&pls ds
end
noncomputable def D.shal:D->Bool
 | .lst ds=>z2t ds
 | .dk _ ds=>z2t ds
 | .dt _ ds=>z2t ds
 | .dn _ ds=>z2t ds
 | d=>d.noL
def Imm:HO->Prop
 | .tup _=>True
 | .frz _ _=>True
 | .ext φ=>∀a qs xs o,φ≠dnP a qs xs o
 | _=>False
theorem XO.imm {K:Frag} {c:String} {a:Addr} {o:HO} (h:XO K c a o):Imm o:=by
 obtain ⟨C,_,rfl⟩:=h
 intro b qs xs o0 e
 obtain ⟨ob,hob⟩:∃ob:Obj,ob={ cls:=.ref C,data:=.fields #[] }:=⟨_,rfl⟩
 have hg:∀(i:Nat) (o:Obj),({ objs:=Array.replicate (a+1) ob }:Heap).get? i=some o->o=ob:=fun i o q=>by
  by_cases hi:i<a+1
  . have z:({ objs:=Array.replicate (a+1) ob }:Heap).get? i=some ob:=by
     unfold Heap.get?
     rw [Array.getElem?_replicate,if_pos hi,hob]
    rw [z] at q;cases q;rfl
  . unfold Heap.get? at q
    rw [Array.getElem?_replicate,if_neg hi] at q;cases q
 have h1:(fun h:Heap=>∃ob,h.get? a=some ob/\ob.cls=.ref C/\∃vs,ob.data=.fields vs) { objs:=Array.replicate (a+1) ob }:=by
  refine ⟨ob,?_,by rw [hob],#[],by rw [hob]⟩
  unfold Heap.get?
  rw [Array.getElem?_replicate,if_pos (Nat.lt_succ_self a),hob]
 rw [e] at h1
 obtain ⟨g,vs,es,ep,_,_,_,d,_⟩:=h1
 rw [hg _ _ g,hob] at d
 cases d
def TK (H H':Hp):Prop:=∀a o,Imm o->H a=some o->H' a=some o
section
variable {K:Frag} {H H':Hp}
mutual
theorem RD.tk (hs:TK H H'):∀{d:D} {v:V},d.noL=true->RD K H d v->RD K H' d v
 | .non,_,_,h=>by simp only [RD] at h ⊢;exact h
 | .bl _,_,_,h=>by simp only [RD] at h ⊢;exact h
 | .int _,_,_,h=>by simp only [RD] at h ⊢;exact h
 | .str _,_,_,h=>by simp only [RD] at h ⊢;exact h
 | .tup ds,_,n,h=>by
  simp only [RD] at h ⊢
  obtain ⟨a,xs,e,h1,h2⟩:=h
  exact ⟨a,xs,e,hs _ _ trivial h1,RDs.tk hs (by simpa only [D.noL] using n) h2⟩
 | .lst ds,_,n,h=>by simp [D.noL] at n
 | .dk _ ds,_,n,h=>by simp [D.noL] at n
 | .dt _ ds,_,n,h=>by simp [D.noL] at n
 | .dn _ ds,_,n,h=>by simp [D.noL] at n
 | .exc c,_,n,h=>by
  simp only [RD] at h ⊢
  obtain ⟨a,o,e,h1,h2⟩:=h
  exact ⟨a,o,e,h1,hs _ _ h1.imm h2⟩
 | .scr ns,_,n,h=>by
  simp only [RD] at h ⊢
  obtain ⟨a,e,h1⟩:=h
  refine ⟨a,e,?_⟩
  rcases h1 with ⟨o,h1⟩ | h1
  . exact .inl ⟨o,hs _ _ trivial h1⟩
  . exact .inr h1
theorem RDs.tk (hs:TK H H'):∀{ds:List D} {xs:List V},z2t ds=true->RDs K H ds xs->RDs K H' ds xs
 | [],_,_,h=>by simp only [RDs] at h ⊢;exact h
 | d::ds,_,n,h=>by
  simp only [RDs] at h ⊢
  simp only [z2t,Bool.and_eq_true] at n
  obtain ⟨x,r,e,h1,h2⟩:=h
  exact ⟨x,r,e,RD.tk hs n.1 h1,RDs.tk hs n.2 h2⟩
end
mutual
theorem RD.mono (hs:Same H H'):∀{d:D} {v:V},RD K H d v->RD K H' d v
 | .non,_,h=>by simp only [RD] at h ⊢;exact h
 | .bl _,_,h=>by simp only [RD] at h ⊢;exact h
 | .int _,_,h=>by simp only [RD] at h ⊢;exact h
 | .str _,_,h=>by simp only [RD] at h ⊢;exact h
 | .tup ds,_,h=>by
  simp only [RD] at h ⊢
  obtain ⟨a,xs,e,h1,h2⟩:=h
  exact ⟨a,xs,e,hs _ _ h1,RDs.mono hs h2⟩
 | .lst ds,_,h=>by
  simp only [RD] at h ⊢
  obtain ⟨a,xs,e,h1,h2⟩:=h
  exact ⟨a,xs,e,hs _ _ h1,RDs.mono hs h2⟩
 | .dk _ ds,_,h=>by
  simp only [RD] at h ⊢
  obtain ⟨a,xs,e,h1,hl,h2⟩:=h
  exact ⟨a,xs,e,hs _ _ h1,hl,RDs.mono hs h2⟩
 | .dn _ ds,_,h=>by
  simp only [RD] at h ⊢
  obtain ⟨a,qs,xs,o,e,h1,hk,hd,h2⟩:=h
  exact ⟨a,qs,xs,o,e,hs _ _ h1,hk,hd.tk fun b ys q=>hs _ _ q,RDs.mono hs h2⟩
 | .dt _ ds,_,h=>by
  simp only [RD] at h ⊢
  obtain ⟨a,xs,e,h1,hl,h2⟩:=h
  exact ⟨a,xs,e,hs _ _ h1,hl,RDs.mono hs h2⟩
 | .exc c,_,h=>by
  simp only [RD] at h ⊢
  obtain ⟨a,o,e,h1,h2⟩:=h
  exact ⟨a,o,e,h1,hs _ _ h2⟩
 | .scr ns,_,h=>by
  simp only [RD] at h ⊢
  obtain ⟨a,e,h1⟩:=h
  refine ⟨a,e,?_⟩
  rcases h1 with ⟨o,h1⟩ | h1
  . exact .inl ⟨o,hs _ _ h1⟩
  . exact .inr h1
theorem RDs.mono (hs:Same H H'):∀{ds:List D} {xs:List V},RDs K H ds xs->RDs K H' ds xs
 | [],_,h=>by simp only [RDs] at h ⊢;exact h
 | d::ds,_,h=>by
  simp only [RDs] at h ⊢
  obtain ⟨x,r,e,h1,h2⟩:=h
  exact ⟨x,r,e,RD.mono hs h1,RDs.mono hs h2⟩
end
theorem RDs.length:∀{ds:List D} {xs:List V},RDs K H ds xs->ds.length=xs.length
 | [],_,h=>by simp only [RDs] at h;subst h;rfl
 | d::ds,_,h=>by
  simp only [RDs] at h
  obtain ⟨x,r,rfl,_,h2⟩:=h
  simp [RDs.length h2]
theorem RDs.get:∀{ds:List D} {xs:List V} {i:Nat} {x:V},RDs K H ds xs->xs[i]?=some x->∃d,ds[i]?=some d/\RD K H d x
 | [],_,i,x,h,e=>by simp only [RDs] at h;subst h;simp at e
 | d::ds,_,i,x,h,e=>by
  simp only [RDs] at h
  obtain ⟨y,r,rfl,h1,h2⟩:=h
  cases i with
  | zero=>simp at e;subst e;exact ⟨d,rfl,h1⟩
  | succ i=>simp at e;obtain ⟨d',e1,e2⟩:=RDs.get h2 e;exact ⟨d',by simpa using e1,e2⟩
theorem RDs.get':∀{ds:List D} {xs:List V} {i:Nat} {d:D},RDs K H ds xs->ds[i]?=some d->∃x,xs[i]?=some x/\RD K H d x
 | [],_,i,d,h,e=>by simp at e
 | d'::ds,_,i,d,h,e=>by
  simp only [RDs] at h
  obtain ⟨y,r,rfl,h1,h2⟩:=h
  cases i with
  | zero=>simp at e;subst e;exact ⟨y,rfl,h1⟩
  | succ i=>simp at e;obtain ⟨x',e1,e2⟩:=RDs.get' h2 e;exact ⟨x',by simpa using e1,e2⟩
theorem RDs.append:∀{ds es:List D} {xs ys:List V},RDs K H ds xs->RDs K H es ys->RDs K H (ds++es) (xs++ys)
 | [],_,_,_,h,h'=>by simp only [RDs] at h;subst h;exact h'
 | d::ds,es,_,ys,h,h'=>by
  simp only [RDs] at h
  obtain ⟨x,r,rfl,h1,h2⟩:=h
  simp only [List.cons_append,RDs]
  exact ⟨x,r++ys,rfl,h1,RDs.append h2 h'⟩
theorem RDs.nil:RDs K H [] []:=by simp only [RDs]
theorem RDs.cons {d:D} {x:V} {ds:List D} {xs:List V} (h:RD K H d x) (h':RDs K H ds xs):RDs K H (d::ds) (x::xs):=by simp only [RDs];exact ⟨x,xs,rfl,h,h'⟩
theorem RDs.one {d:D} {x:V} (h:RD K H d x):RDs K H [d] [x]:=.cons h .nil
theorem RDs.take:∀{ds:List D} {xs:List V} (n:Nat),RDs K H ds xs->RDs K H (ds.take n) (xs.take n)
 | _,_,0,_=>by simp [RDs]
 | [],_,n+1,h=>by simp only [RDs] at h;subst h;simp [RDs]
 | d::ds,_,n+1,h=>by
  simp only [RDs] at h
  obtain ⟨x,r,rfl,h1,h2⟩:=h
  simp only [List.take_succ_cons]
  exact .cons h1 (RDs.take n h2)
theorem RDs.drop:∀{ds:List D} {xs:List V} (n:Nat),RDs K H ds xs->RDs K H (ds.drop n) (xs.drop n)
 | _,_,0,h=>h
 | [],_,n+1,h=>by simp only [RDs] at h;subst h;simp [RDs]
 | d::ds,_,n+1,h=>by
  simp only [RDs] at h
  obtain ⟨x,r,rfl,h1,h2⟩:=h
  exact RDs.drop n h2
theorem RDs.set:∀{ds:List D} {xs:List V} (n:Nat) {d:D} {x:V},RDs K H ds xs->RD K H d x->RDs K H (ds.set n d) (xs.set n x)
 | [],_,n,_,_,h,_=>by simp only [RDs] at h;subst h;simp [RDs]
 | d::ds,_,0,_,_,h,h'=>by
  simp only [RDs] at h
  obtain ⟨x,r,rfl,h1,h2⟩:=h
  exact .cons h' h2
 | d::ds,_,n+1,_,_,h,h'=>by
  simp only [RDs] at h
  obtain ⟨x,r,rfl,h1,h2⟩:=h
  exact .cons h1 (RDs.set n h2 h')
theorem RDs.ofInts:∀(ns:List Int),RDs K H (ns.map D.int) (ns.map V.int)
 | []=>by simp only [List.map,RDs]
 | n::ns=>by
  simp only [List.map]
  exact RDs.cons (by simp only [RD]) (RDs.ofInts ns)
end
mutual
noncomputable def eqD:D->D->Bool
 | .non,.non=>true
 | .bl a,.bl b=>a==b
 | .bl a,.int j=>(if a then 1 else 0)==j
 | .int i,.bl b=>i==(if b then 1 else 0)
 | .int i,.int j=>i==j
 | .str a,.str b=>a==b
 | .tup ds,.tup es=>z3w ds es
 | .lst ds,.lst es=>z3w ds es
 | _,_=>false
noncomputable def z3w:List D->List D->Bool
 | [],[]=>true
 | d::ds,e::es=>eqD d e&&z3w ds es
 | _,_=>false
end
mutual
noncomputable def D.dep:D->Nat
 | .tup ds=>z59 ds+1
 | .lst ds=>z59 ds+1
 | _=>0
noncomputable def z59:List D->Nat
 | []=>0
 | d::ds=>max d.dep (z59 ds)
end
mutual
theorem z3x:∀d:D,d.pl=true->eqD d d=true
 | .non,_=>rfl
 | .bl b,_=>by simp [eqD]
 | .int b,_=>by simp [eqD]
 | .str b,_=>by simp [eqD]
 | .tup ds,h=>by simp only [eqD];exact z5a ds (by simpa only [D.pl] using h)
 | .lst ds,h=>by simp only [eqD];exact z5a ds (by simpa only [D.pl] using h)
 | .dk _ _,h=>by simp [D.pl] at h
 | .dt _ _,h=>by simp [D.pl] at h
 | .dn _ _,h=>by simp [D.pl] at h
 | .scr _,h=>by simp [D.pl] at h
 | .exc _,h=>by simp [D.pl] at h
theorem z5a:∀ds:List D,pls ds=true->z3w ds ds=true
 | [],_=>rfl
 | d::ds,h=>by
  simp only [pls,Bool.and_eq_true] at h
  simp only [z3w,z3x d h.1,z5a ds h.2,Bool.and_self]
end
mutual
theorem RD.inj {K:Frag} {H:Hp}:∀{d e:D} {v:V},d.pl=true->e.pl=true->RD K H d v->RD K H e v->d=e
 | .non,e,v,_,p,h,h'=>by
  simp only [RD] at h;subst h
  cases e<;>simp only [RD] at h'<;>first | (exfalso;simp [D.pl] at p;done) | rfl | (cases h';done) | (obtain ⟨a,xs,z,_⟩:=h';cases z)
 | .bl b,e,v,_,p,h,h'=>by
  simp only [RD] at h;subst h
  cases e<;>simp only [RD] at h'<;>first | (exfalso;simp [D.pl] at p;done) | (cases h';rfl) | (cases h';done) | (obtain ⟨a,xs,z,_⟩:=h';cases z)
 | .int b,e,v,_,p,h,h'=>by
  simp only [RD] at h;subst h
  cases e<;>simp only [RD] at h'<;>first | (exfalso;simp [D.pl] at p;done) | (cases h';rfl) | (cases h';done) | (obtain ⟨a,xs,z,_⟩:=h';cases z)
 | .str b,e,v,_,p,h,h'=>by
  simp only [RD] at h;subst h
  cases e<;>simp only [RD] at h'<;>first | (exfalso;simp [D.pl] at p;done) | (cases h';rfl) | (cases h';done) | (obtain ⟨a,xs,z,_⟩:=h';cases z)
 | .dk _ _,e,v,p,_,h,h'=>by simp [D.pl] at p
 | .dt _ _,e,v,p,_,h,h'=>by simp [D.pl] at p
 | .dn _ _,e,v,p,_,h,h'=>by simp [D.pl] at p
 | .scr _,e,v,p,_,h,h'=>by simp [D.pl] at p
 | .exc _,e,v,p,_,h,h'=>by simp [D.pl] at p
 | .tup ds,e,v,p,p',h,h'=>by
  simp only [RD] at h
  obtain ⟨a,xs,rfl,h1,h2⟩:=h
  cases e<;>simp only [RD] at h'
  case tup es=>
   obtain ⟨b,ys,z,h3,h4⟩:=h'
   cases z
   rw [h1] at h3;cases h3
   rw [RDs.inj (by simpa only [D.pl] using p) (by simpa only [D.pl] using p') h2 h4]
  case lst es=>
   obtain ⟨b,ys,z,h3,h4⟩:=h'
   cases z
   rw [h1] at h3;cases h3
  all_goals first | (exfalso;simp [D.pl] at p';done) | cases h'
 | .lst ds,e,v,p,p',h,h'=>by
  simp only [RD] at h
  obtain ⟨a,xs,rfl,h1,h2⟩:=h
  cases e<;>simp only [RD] at h'
  case tup es=>
   obtain ⟨b,ys,z,h3,h4⟩:=h'
   cases z
   rw [h1] at h3;cases h3
  case lst es=>
   obtain ⟨b,ys,z,h3,h4⟩:=h'
   cases z
   rw [h1] at h3;cases h3
   rw [RDs.inj (by simpa only [D.pl] using p) (by simpa only [D.pl] using p') h2 h4]
  all_goals first | (exfalso;simp [D.pl] at p';done) | cases h'
theorem RDs.inj {K:Frag} {H:Hp}:∀{ds es:List D} {xs:List V},pls ds=true->pls es=true->RDs K H ds xs->RDs K H es xs->ds=es
 | [],es,xs,_,_,h,h'=>by
  simp only [RDs] at h;subst h
  cases es<;>simp only [RDs] at h'
  . rfl
  . obtain ⟨x,r,z,_⟩:=h';cases z
 | d::ds,es,xs,p,p',h,h'=>by
  simp only [RDs] at h
  obtain ⟨x,r,rfl,h1,h2⟩:=h
  simp only [pls,Bool.and_eq_true] at p
  cases es with
  | nil=>simp only [RDs] at h';cases h'
  | cons e es=>
   simp only [RDs] at h'
   obtain ⟨y,r',z,h3,h4⟩:=h'
   cases z
   simp only [pls,Bool.and_eq_true] at p'
   rw [RD.inj p.1 p'.1 h1 h3,RDs.inj p.2 p'.2 h2 h4]
end
theorem z5b:∀{ds:List D} {d:D},pls ds=true->d∈ds->d.pl=true
 | e::ds,d,h,m=>by
  simp only [pls,Bool.and_eq_true] at h
  rcases List.mem_cons.mp m with rfl | m
  . exact h.1
  . exact z5b h.2 m
theorem z3y:∀{ds:List D} {d:D},d∈ds->d.dep<=z59 ds
 | d'::ds,d,h=>by
  simp only [z59]
  rcases List.mem_cons.mp h with rfl | h
  . omega
  . have:=z3y h;omega
theorem z3z:∀{ds es:List D},ds.length=es.length->z3w ds es=(List.range ds.length).all fun j=>eqD (ds.getD j .non) (es.getD j .non)
 | [],[],_=>rfl
 | [],_::_,h=>by simp at h
 | _::_,[],h=>by simp at h
 | d::ds,e::es,h=>by
  simp only [z3w,List.length_cons]
  rw [z3z (by simpa using h),List.range_succ_eq_map,List.all_cons,List.all_map]
  rfl
theorem z38:∀{ds es:List D},ds.length≠es.length->z3w ds es=false
 | [],[],h=>absurd rfl h
 | [],_::_,_=>rfl
 | _::_,[],_=>rfl
 | d::ds,e::es,h=>by
  simp only [z3w]
  rw [z38 (by intro z;exact h (by simp [z])),Bool.and_false]
section
variable {X:Cx} {pins:List (Addr×Obj)} {σ:St} {H:Hp} {s:Shared}
theorem Inv.tupA (I:Inv X pins σ H s) {a:Addr} {xs:List V} (h:H a=some (.tup xs)):∃its:List Value,Vals xs its/\s.heap.IsTuple a its.toArray:=by
 obtain ⟨its,r,t,_⟩:=I.tuple (.of h)
 exact ⟨its,r,t⟩
theorem Inv.lstA (I:Inv X pins σ H s) {a:Addr} {xs:List V} (h:H a=some (.lst xs)):∃its:List Value,Vals xs its/\s.heap.IsList a its.toArray:=by
 obtain ⟨its,r,t,_⟩:=I.list (.of h)
 exact ⟨its,r,t.isList⟩
theorem zdo (I:Inv X pins σ H s):∀(n:Nat) {A:Around} {d e:D} {x y:V} {u v:Value},d.pl=true->e.pl=true->d.dep<=n->A.units+n<cLine->RD X.K H d x->RD X.K H e y->RelV x u->RelV y v->SeqAt.EqAt A s u v (eqD d e):=by
 intro n
 induction n with
 | zero=>
  intro A d e x y u v hpd hpe hn hu hx hy ru rv
  have hu':A.units<cLine:=by omega
  cases d with
  | dk _ _=>simp [D.pl] at hpd
  | dt _ _=>simp [D.pl] at hpd
  | dn _ _=>simp [D.pl] at hpd
  | scr _=>simp [D.pl] at hpd
  | exc _=>simp [D.pl] at hpd
  | tup ds=>simp only [D.dep] at hn;omega
  | lst ds=>simp only [D.dep] at hn;omega
  | non=>
   simp only [RD] at hx;subst hx;cases ru
   cases e with
   | dk _ _=>simp [D.pl] at hpe
   | dt _ _=>simp [D.pl] at hpe
   | dn _ _=>simp [D.pl] at hpe
   | scr _=>simp [D.pl] at hpe
   | exc _=>simp [D.pl] at hpe
   | non=>simp only [RD] at hy;subst hy;cases rv;exact .same _
   | bl b=>simp only [RD] at hy;subst hy;cases rv;exact .none_bool _
   | int b=>simp only [RD] at hy;subst hy;obtain ⟨t,rfl⟩:=rv;exact .none_int _ _
   | str b=>simp only [RD] at hy;subst hy;obtain ⟨t,rfl⟩:=rv;exact .none_str _ _
   | tup es=>simp only [RD] at hy;obtain ⟨a,ys,rfl,h1,_⟩:=hy;cases rv;obtain ⟨its,_,t⟩:=I.tupA h1;exact .none_tuple t hu'
   | lst es=>simp only [RD] at hy;obtain ⟨a,ys,rfl,h1,_⟩:=hy;cases rv;obtain ⟨its,_,t⟩:=I.lstA h1;exact .none_list t hu'
  | bl c=>
   simp only [RD] at hx;subst hx;cases ru
   cases e with
   | dk _ _=>simp [D.pl] at hpe
   | dt _ _=>simp [D.pl] at hpe
   | dn _ _=>simp [D.pl] at hpe
   | scr _=>simp [D.pl] at hpe
   | exc _=>simp [D.pl] at hpe
   | non=>simp only [RD] at hy;subst hy;cases rv;exact .bool_none _
   | bl b=>simp only [RD] at hy;subst hy;cases rv;exact .bool_bool _ _
   | int b=>simp only [RD] at hy;subst hy;obtain ⟨t,rfl⟩:=rv;exact .bool_int _ _ _
   | str b=>simp only [RD] at hy;subst hy;obtain ⟨t,rfl⟩:=rv;exact .bool_str _ _ _
   | tup es=>simp only [RD] at hy;obtain ⟨a,ys,rfl,h1,_⟩:=hy;cases rv;obtain ⟨its,_,t⟩:=I.tupA h1;exact .bool_tuple _ t hu'
   | lst es=>simp only [RD] at hy;obtain ⟨a,ys,rfl,h1,_⟩:=hy;cases rv;obtain ⟨its,_,t⟩:=I.lstA h1;exact .bool_list _ t hu'
  | int c=>
   simp only [RD] at hx;subst hx;obtain ⟨tt,rfl⟩:=ru
   cases e with
   | dk _ _=>simp [D.pl] at hpe
   | dt _ _=>simp [D.pl] at hpe
   | dn _ _=>simp [D.pl] at hpe
   | scr _=>simp [D.pl] at hpe
   | exc _=>simp [D.pl] at hpe
   | non=>simp only [RD] at hy;subst hy;cases rv;exact .int_none _ _
   | bl b=>simp only [RD] at hy;subst hy;cases rv;exact .int_bool _ _ _
   | int b=>simp only [RD] at hy;subst hy;obtain ⟨t,rfl⟩:=rv;exact .int_int _ _ _ _
   | str b=>simp only [RD] at hy;subst hy;obtain ⟨t,rfl⟩:=rv;exact .int_str _ _ _ _
   | tup es=>simp only [RD] at hy;obtain ⟨a,ys,rfl,h1,_⟩:=hy;cases rv;obtain ⟨its,_,t⟩:=I.tupA h1;exact .int_tuple _ _ t hu'
   | lst es=>simp only [RD] at hy;obtain ⟨a,ys,rfl,h1,_⟩:=hy;cases rv;obtain ⟨its,_,t⟩:=I.lstA h1;exact .int_list _ _ t hu'
  | str c=>
   simp only [RD] at hx;subst hx;obtain ⟨tt,rfl⟩:=ru
   cases e with
   | dk _ _=>simp [D.pl] at hpe
   | dt _ _=>simp [D.pl] at hpe
   | dn _ _=>simp [D.pl] at hpe
   | scr _=>simp [D.pl] at hpe
   | exc _=>simp [D.pl] at hpe
   | non=>simp only [RD] at hy;subst hy;cases rv;exact .str_none _ _
   | bl b=>simp only [RD] at hy;subst hy;cases rv;exact .str_bool _ _ _
   | int b=>simp only [RD] at hy;subst hy;obtain ⟨t,rfl⟩:=rv;exact .str_int _ _ _ _
   | str b=>simp only [RD] at hy;subst hy;obtain ⟨t,rfl⟩:=rv;exact .str_str _ _ _ _
   | tup es=>simp only [RD] at hy;obtain ⟨a,ys,rfl,h1,_⟩:=hy;cases rv;obtain ⟨its,_,t⟩:=I.tupA h1;exact .str_tuple _ _ t hu'
   | lst es=>simp only [RD] at hy;obtain ⟨a,ys,rfl,h1,_⟩:=hy;cases rv;obtain ⟨its,_,t⟩:=I.lstA h1;exact .str_list _ _ t hu'
 | succ n ih=>
  intro A d e x y u v hpd hpe hn hu hx hy ru rv
  have hu':A.units<cLine:=by omega
  by_cases hd0:d.dep<=n
  . exact ih hpd hpe hd0 (by omega) hx hy ru rv
  have inner:∀{ds es:List D} {xs ys:List V} {its its2:List Value},pls ds=true->pls es=true->z59 ds<=n->RDs X.K H ds xs->RDs X.K H es ys->Vals xs its->Vals ys its2->∀j (h1:j<its.toArray.size) (h2:j<its2.toArray.size),
    SeqAt.EqAt A.in1 s its.toArray[j] its2.toArray[j] (eqD (ds.getD j .non) (es.getD j .non)):=fun {ds es xs ys its its2} pd pe hdn hxs hys r r2 j h1 h2=>by
   have h1':j<its.length:=by simpa using h1
   have h2':j<its2.length:=by simpa using h2
   have l1:=r.length
   have l2:=r2.length
   obtain ⟨u1,e1,q1⟩:=r.get (i:=j) (x:=xs[j]'(by omega)) (by simp)
   obtain ⟨u2,e2,q2⟩:=r2.get (i:=j) (x:=ys[j]'(by omega)) (by simp)
   obtain ⟨d1,g1,w1⟩:=hxs.get (i:=j) (x:=xs[j]'(by omega)) (by simp)
   obtain ⟨d2,g2,w2⟩:=hys.get (i:=j) (x:=ys[j]'(by omega)) (by simp)
   have ea:its.toArray[j]=u1:=by
    rw [List.getElem?_eq_getElem h1'] at e1;simpa using e1
   have eb:its2.toArray[j]=u2:=by
    rw [List.getElem?_eq_getElem h2'] at e2;simpa using e2
   rw [ea,eb]
   have ga:ds.getD j .non=d1:=by rw [List.getD_eq_getElem?_getD,g1];rfl
   have gb:es.getD j .non=d2:=by rw [List.getD_eq_getElem?_getD,g2];rfl
   rw [ga,gb]
   have hdj:d1.dep<=n:=Nat.le_trans (z3y (List.mem_of_getElem? g1)) hdn
   exact ih (z5b pd (List.mem_of_getElem? g1)) (z5b pe (List.mem_of_getElem? g2)) hdj (by show A.units+1+n<cLine;omega) w1 w2 q1 q2
  cases d with
  | dk _ _=>simp [D.pl] at hpd
  | dt _ _=>simp [D.pl] at hpd
  | dn _ _=>simp [D.pl] at hpd
  | scr _=>simp [D.pl] at hpd
  | exc _=>simp [D.pl] at hpd
  | non=>simp only [D.dep] at hd0;omega
  | bl _=>simp only [D.dep] at hd0;omega
  | int _=>simp only [D.dep] at hd0;omega
  | str _=>simp only [D.dep] at hd0;omega
  | tup ds=>
   simp only [RD] at hx;obtain ⟨a,xs,rfl,h1,hxs⟩:=hx;cases ru
   obtain ⟨its,r,t⟩:=I.tupA h1
   cases e with
   | dk _ _=>simp [D.pl] at hpe
   | dt _ _=>simp [D.pl] at hpe
   | dn _ _=>simp [D.pl] at hpe
   | scr _=>simp [D.pl] at hpe
   | exc _=>simp [D.pl] at hpe
   | non=>simp only [RD] at hy;subst hy;cases rv;exact .tuple_none t hu'
   | bl b=>simp only [RD] at hy;subst hy;cases rv;exact .tuple_bool _ t hu'
   | int b=>simp only [RD] at hy;subst hy;obtain ⟨tk,rfl⟩:=rv;exact .tuple_int _ _ t hu'
   | str b=>simp only [RD] at hy;subst hy;obtain ⟨tk,rfl⟩:=rv;exact .tuple_str _ _ t hu'
   | tup es=>
    simp only [RD] at hy;obtain ⟨b,ys,rfl,h2,hys⟩:=hy;cases rv
    obtain ⟨its2,r2,t2⟩:=I.tupA h2
    by_cases hab:a=b
    . subst hab
      rw [h1] at h2;cases h2
      rw [RDs.inj (by simpa only [D.pl] using hpd) (by simpa only [D.pl] using hpe) hxs hys,z3x _ (by simpa only [D.pl] using hpe)]
      exact .same _
    . have lx:=hxs.length;have ly:=hys.length;have l1:=r.length;have l2:=r2.length
      have q:=SeqAt.RcAt.tuples t t2 hu' (e:=fun j=>eqD (ds.getD j .non) (es.getD j .non)) (inner (by simpa only [D.pl] using hpd) (by simpa only [D.pl] using hpe) (by simp only [D.dep] at hn;omega) hxs hys r r2)
      have eb:((List.range (min its.toArray.size its2.toArray.size)).all (fun j=>eqD (ds.getD j .non) (es.getD j .non))&&its.toArray.size==its2.toArray.size)=eqD (.tup ds) (.tup es):=by
       simp only [eqD,List.size_toArray]
       by_cases hl:ds.length=es.length
       . rw [z3z hl]
         have:its.length=its2.length:=by omega
         rw [this,Nat.min_self,show its2.length=ds.length by omega]
         simp
       . rw [z38 hl]
         have:(its.length==its2.length)=false:=by simp;omega
         rw [this,Bool.and_false]
      rw [eb] at q
      exact .of_refs hab q
   | lst es=>
    simp only [RD] at hy;obtain ⟨b,ys,rfl,h2,hys⟩:=hy;cases rv
    obtain ⟨its2,r2,t2⟩:=I.lstA h2
    exact .tuple_list t t2 hu'
  | lst ds=>
   simp only [RD] at hx;obtain ⟨a,xs,rfl,h1,hxs⟩:=hx;cases ru
   obtain ⟨its,r,t⟩:=I.lstA h1
   cases e with
   | dk _ _=>simp [D.pl] at hpe
   | dt _ _=>simp [D.pl] at hpe
   | dn _ _=>simp [D.pl] at hpe
   | scr _=>simp [D.pl] at hpe
   | exc _=>simp [D.pl] at hpe
   | non=>simp only [RD] at hy;subst hy;cases rv;exact .list_none t hu'
   | bl b=>simp only [RD] at hy;subst hy;cases rv;exact .list_bool _ t hu'
   | int b=>simp only [RD] at hy;subst hy;obtain ⟨tk,rfl⟩:=rv;exact .list_int _ _ t hu'
   | str b=>simp only [RD] at hy;subst hy;obtain ⟨tk,rfl⟩:=rv;exact .list_str _ _ t hu'
   | tup es=>
    simp only [RD] at hy;obtain ⟨b,ys,rfl,h2,hys⟩:=hy;cases rv
    obtain ⟨its2,r2,t2⟩:=I.tupA h2
    exact .list_tuple t t2 hu'
   | lst es=>
    simp only [RD] at hy;obtain ⟨b,ys,rfl,h2,hys⟩:=hy;cases rv
    obtain ⟨its2,r2,t2⟩:=I.lstA h2
    by_cases hab:a=b
    . subst hab
      rw [h1] at h2;cases h2
      rw [RDs.inj (by simpa only [D.pl] using hpd) (by simpa only [D.pl] using hpe) hxs hys,z3x _ (by simpa only [D.pl] using hpe)]
      exact .same _
    . have lx:=hxs.length;have ly:=hys.length;have l1:=r.length;have l2:=r2.length
      by_cases hl:ds.length=es.length
      . have hsz:its.toArray.size=its2.toArray.size:=by simp;omega
        have q:=SeqAt.RcAt.lists t t2 hsz hu' (e:=fun j=>eqD (ds.getD j .non) (es.getD j .non)) (inner (by simpa only [D.pl] using hpd) (by simpa only [D.pl] using hpe) (by simp only [D.dep] at hn;omega) hxs hys r r2)
        have eb:((List.range its.toArray.size).all fun j=>eqD (ds.getD j .non) (es.getD j .non))=eqD (.lst ds) (.lst es):=by
         simp only [eqD,List.size_toArray]
         rw [z3z hl,show its.length=ds.length by omega]
        rw [eb] at q
        exact .of_refs hab q
      . have q:=SeqAt.RcAt.lists_lengths t t2 (by simp;omega) hu'
        have:eqD (.lst ds) (.lst es)=false:=by simp only [eqD];exact z38 hl
        rw [this]
        exact .of_refs hab q
end
section
variable {X:Cx} {pins:List (Addr×Obj)} {σ:St} {H:Hp} {s:Shared}
theorem z77 (I:Inv X pins σ H s) {n:Nat} {A:Around} (hu:A.units+1+n<cLine) {ds es:List D} {xs ys:List V} {its its2:List Value} (pd:pls ds=true) (pe:pls es=true) (hdn:z59 ds<=n) (hxs:RDs X.K H ds xs) (hys:RDs X.K H es ys) (r:Vals xs its) (r2:Vals ys its2) (j:Nat)
  (h1:j<its.toArray.size) (h2:j<its2.toArray.size):SeqAt.EqAt A.in1 s its.toArray[j] its2.toArray[j] (eqD (ds.getD j .non) (es.getD j .non)):=by
 have h1':j<its.length:=by simpa using h1
 have h2':j<its2.length:=by simpa using h2
 have l1:=r.length
 have l2:=r2.length
 obtain ⟨u1,e1,q1⟩:=r.get (i:=j) (x:=xs[j]'(by omega)) (by simp)
 obtain ⟨u2,e2,q2⟩:=r2.get (i:=j) (x:=ys[j]'(by omega)) (by simp)
 obtain ⟨d1,g1,w1⟩:=hxs.get (i:=j) (x:=xs[j]'(by omega)) (by simp)
 obtain ⟨d2,g2,w2⟩:=hys.get (i:=j) (x:=ys[j]'(by omega)) (by simp)
 have ea:its.toArray[j]=u1:=by
  rw [List.getElem?_eq_getElem h1'] at e1;simpa using e1
 have eb:its2.toArray[j]=u2:=by
  rw [List.getElem?_eq_getElem h2'] at e2;simpa using e2
 rw [ea,eb]
 have ga:ds.getD j .non=d1:=by rw [List.getD_eq_getElem?_getD,g1];rfl
 have gb:es.getD j .non=d2:=by rw [List.getD_eq_getElem?_getD,g2];rfl
 rw [ga,gb]
 exact zdo I n (z5b pd (List.mem_of_getElem? g1)) (z5b pe (List.mem_of_getElem? g2)) (Nat.le_trans (z3y (List.mem_of_getElem? g1)) hdn) (by show A.units+1+n<cLine;omega) w1 w2 q1 q2
theorem zdp {ds es:List D} {xs ys:List V} {its its2:List Value} (hxs:RDs X.K H ds xs) (hys:RDs X.K H es ys) (r:Vals xs its) (r2:Vals ys its2) :
  ((List.range (min its.toArray.size its2.toArray.size)).all (fun j=>eqD (ds.getD j .non) (es.getD j .non))&&its.toArray.size==its2.toArray.size)=z3w ds es:=by
 have lx:=hxs.length;have ly:=hys.length;have l1:=r.length;have l2:=r2.length
 simp only [List.size_toArray]
 by_cases hl:ds.length=es.length
 . rw [z3z hl]
   have:its.length=its2.length:=by omega
   rw [this,Nat.min_self,show its2.length=ds.length by omega]
   simp
 . rw [z38 hl]
   have:(its.length==its2.length)=false:=by simp;omega
   rw [this,Bool.and_false]
theorem zdq {ds es:List D} {xs ys:List V} {its its2:List Value} (hxs:RDs X.K H ds xs) (hys:RDs X.K H es ys) (r:Vals xs its) (r2:Vals ys its2) (hl:ds.length=es.length) :
  ((List.range its.toArray.size).all fun j=>eqD (ds.getD j .non) (es.getD j .non))=z3w ds es:=by
 have lx:=hxs.length;have ly:=hys.length;have l1:=r.length;have l2:=r2.length
 rw [z3z hl,List.size_toArray,show its.length=ds.length by omega]
theorem znd (I:Inv X pins σ H s) {n:Nat} {A:Around} {d e:D} {x y:V} {u v:Value} (hpd:d.pl=true) (hpe:e.pl=true) (hn:d.dep<=n) (hu:A.units+1+n<cLine) (hx:RD X.K H d x) (hy:RD X.K H e y) (ru:RelV x u) (rv:RelV y v):SeqAt.RcAt A s u v (eqD d e):=by
 have hu':A.units<cLine:=by omega
 cases d with
 | dk _ _=>simp [D.pl] at hpd
 | dt _ _=>simp [D.pl] at hpd
 | dn _ _=>simp [D.pl] at hpd
 | scr _=>simp [D.pl] at hpd
 | exc _=>simp [D.pl] at hpd
 | non=>
  simp only [RD] at hx;subst hx;cases ru
  cases e with
  | dk _ _=>simp [D.pl] at hpe
  | dt _ _=>simp [D.pl] at hpe
  | dn _ _=>simp [D.pl] at hpe
  | scr _=>simp [D.pl] at hpe
  | exc _=>simp [D.pl] at hpe
  | non=>simp only [RD] at hy;subst hy;cases rv;exact .none_none
  | bl b=>simp only [RD] at hy;subst hy;cases rv;exact .none_bool _
  | int b=>simp only [RD] at hy;subst hy;obtain ⟨t,rfl⟩:=rv;exact .none_int _ _
  | str b=>simp only [RD] at hy;subst hy;obtain ⟨t,rfl⟩:=rv;exact .none_str _ _
  | tup es=>simp only [RD] at hy;obtain ⟨a,ys,rfl,h1,_⟩:=hy;cases rv;obtain ⟨its,_,t⟩:=I.tupA h1;exact .none_tuple t hu'
  | lst es=>simp only [RD] at hy;obtain ⟨a,ys,rfl,h1,_⟩:=hy;cases rv;obtain ⟨its,_,t⟩:=I.lstA h1;exact .none_list t hu'
 | bl c=>
  simp only [RD] at hx;subst hx;cases ru
  cases e with
  | dk _ _=>simp [D.pl] at hpe
  | dt _ _=>simp [D.pl] at hpe
  | dn _ _=>simp [D.pl] at hpe
  | scr _=>simp [D.pl] at hpe
  | exc _=>simp [D.pl] at hpe
  | non=>simp only [RD] at hy;subst hy;cases rv;exact .bool_none _
  | bl b=>simp only [RD] at hy;subst hy;cases rv;exact .bool_bool _ _
  | int b=>simp only [RD] at hy;subst hy;obtain ⟨t,rfl⟩:=rv;exact .bool_int _ _ _
  | str b=>simp only [RD] at hy;subst hy;obtain ⟨t,rfl⟩:=rv;exact .bool_str _ _ _
  | tup es=>simp only [RD] at hy;obtain ⟨a,ys,rfl,h1,_⟩:=hy;cases rv;obtain ⟨its,_,t⟩:=I.tupA h1;exact .bool_tuple _ t hu'
  | lst es=>simp only [RD] at hy;obtain ⟨a,ys,rfl,h1,_⟩:=hy;cases rv;obtain ⟨its,_,t⟩:=I.lstA h1;exact .bool_list _ t hu'
 | int c=>
  simp only [RD] at hx;subst hx;obtain ⟨tt,rfl⟩:=ru
  cases e with
  | dk _ _=>simp [D.pl] at hpe
  | dt _ _=>simp [D.pl] at hpe
  | dn _ _=>simp [D.pl] at hpe
  | scr _=>simp [D.pl] at hpe
  | exc _=>simp [D.pl] at hpe
  | non=>simp only [RD] at hy;subst hy;cases rv;exact .int_none _ _
  | bl b=>simp only [RD] at hy;subst hy;cases rv;exact .int_bool _ _ _
  | int b=>simp only [RD] at hy;subst hy;obtain ⟨t,rfl⟩:=rv;exact .int_int _ _ _ _
  | str b=>simp only [RD] at hy;subst hy;obtain ⟨t,rfl⟩:=rv;exact .int_str _ _ _ _
  | tup es=>simp only [RD] at hy;obtain ⟨a,ys,rfl,h1,_⟩:=hy;cases rv;obtain ⟨its,_,t⟩:=I.tupA h1;exact .int_tuple _ _ t hu'
  | lst es=>simp only [RD] at hy;obtain ⟨a,ys,rfl,h1,_⟩:=hy;cases rv;obtain ⟨its,_,t⟩:=I.lstA h1;exact .int_list _ _ t hu'
 | str c=>
  simp only [RD] at hx;subst hx;obtain ⟨tt,rfl⟩:=ru
  cases e with
  | dk _ _=>simp [D.pl] at hpe
  | dt _ _=>simp [D.pl] at hpe
  | dn _ _=>simp [D.pl] at hpe
  | scr _=>simp [D.pl] at hpe
  | exc _=>simp [D.pl] at hpe
  | non=>simp only [RD] at hy;subst hy;cases rv;exact .str_none _ _
  | bl b=>simp only [RD] at hy;subst hy;cases rv;exact .str_bool _ _ _
  | int b=>simp only [RD] at hy;subst hy;obtain ⟨t,rfl⟩:=rv;exact .str_int _ _ _ _
  | str b=>simp only [RD] at hy;subst hy;obtain ⟨t,rfl⟩:=rv;exact .str_str _ _ _ _
  | tup es=>simp only [RD] at hy;obtain ⟨a,ys,rfl,h1,_⟩:=hy;cases rv;obtain ⟨its,_,t⟩:=I.tupA h1;exact .str_tuple _ _ t hu'
  | lst es=>simp only [RD] at hy;obtain ⟨a,ys,rfl,h1,_⟩:=hy;cases rv;obtain ⟨its,_,t⟩:=I.lstA h1;exact .str_list _ _ t hu'
 | tup ds=>
  simp only [RD] at hx;obtain ⟨a,xs,rfl,h1,hxs⟩:=hx;cases ru
  obtain ⟨its,r,t⟩:=I.tupA h1
  cases e with
  | dk _ _=>simp [D.pl] at hpe
  | dt _ _=>simp [D.pl] at hpe
  | dn _ _=>simp [D.pl] at hpe
  | scr _=>simp [D.pl] at hpe
  | exc _=>simp [D.pl] at hpe
  | non=>simp only [RD] at hy;subst hy;cases rv;exact .tuple_none t hu'
  | bl b=>simp only [RD] at hy;subst hy;cases rv;exact .tuple_bool _ t hu'
  | int b=>simp only [RD] at hy;subst hy;obtain ⟨tk,rfl⟩:=rv;exact .tuple_int _ _ t hu'
  | str b=>simp only [RD] at hy;subst hy;obtain ⟨tk,rfl⟩:=rv;exact .tuple_str _ _ t hu'
  | tup es=>
   simp only [RD] at hy;obtain ⟨b,ys,rfl,h2,hys⟩:=hy;cases rv
   obtain ⟨its2,r2,t2⟩:=I.tupA h2
   have q:=SeqAt.RcAt.tuples t t2 hu' (e:=fun j=>eqD (ds.getD j .non) (es.getD j .non)) (z77 I hu (by simpa only [D.pl] using hpd) (by simpa only [D.pl] using hpe) (by simp only [D.dep] at hn;omega) hxs hys r r2)
   rw [zdp hxs hys r r2] at q
   exact q
  | lst es=>
   simp only [RD] at hy;obtain ⟨b,ys,rfl,h2,hys⟩:=hy;cases rv
   obtain ⟨its2,r2,t2⟩:=I.lstA h2
   exact .tuple_list t t2 hu'
 | lst ds=>
  simp only [RD] at hx;obtain ⟨a,xs,rfl,h1,hxs⟩:=hx;cases ru
  obtain ⟨its,r,t⟩:=I.lstA h1
  cases e with
  | dk _ _=>simp [D.pl] at hpe
  | dt _ _=>simp [D.pl] at hpe
  | dn _ _=>simp [D.pl] at hpe
  | scr _=>simp [D.pl] at hpe
  | exc _=>simp [D.pl] at hpe
  | non=>simp only [RD] at hy;subst hy;cases rv;exact .list_none t hu'
  | bl b=>simp only [RD] at hy;subst hy;cases rv;exact .list_bool _ t hu'
  | int b=>simp only [RD] at hy;subst hy;obtain ⟨tk,rfl⟩:=rv;exact .list_int _ _ t hu'
  | str b=>simp only [RD] at hy;subst hy;obtain ⟨tk,rfl⟩:=rv;exact .list_str _ _ t hu'
  | tup es=>
   simp only [RD] at hy;obtain ⟨b,ys,rfl,h2,hys⟩:=hy;cases rv
   obtain ⟨its2,r2,t2⟩:=I.tupA h2
   exact .list_tuple t t2 hu'
  | lst es=>
   simp only [RD] at hy;obtain ⟨b,ys,rfl,h2,hys⟩:=hy;cases rv
   obtain ⟨its2,r2,t2⟩:=I.lstA h2
   have lx:=hxs.length;have ly:=hys.length;have l1:=r.length;have l2:=r2.length
   by_cases hl:ds.length=es.length
   . have hsz:its.toArray.size=its2.toArray.size:=by simp;omega
     have q:=SeqAt.RcAt.lists t t2 hsz hu' (e:=fun j=>eqD (ds.getD j .non) (es.getD j .non)) (z77 I hu (by simpa only [D.pl] using hpd) (by simpa only [D.pl] using hpe) (by simp only [D.dep] at hn;omega) hxs hys r r2)
     rw [zdq hxs hys r r2 hl] at q
     exact q
   . have q:=SeqAt.RcAt.lists_lengths t t2 (by simp;omega) hu'
     have:eqD (.lst ds) (.lst es)=false:=by simp only [eqD];exact z38 hl
     rw [this]
     exact q
theorem zne (I:Inv X pins σ H s) {n:Nat} {A:Around} {d e:D} {x y:V} {u v:Value} (hpd:d.pl=true) (hpe:e.pl=true) (hn:d.dep<=n) (hu:A.units+1+n<cLine) (hx:RD X.K H d x) (hy:RD X.K H e y) (ru:RelV x u) (rv:RelV y v):SeqAt.RcNeAt A s u v (!eqD d e):=by
 have hu':A.units<cLine:=by omega
 cases d with
 | dk _ _=>simp [D.pl] at hpd
 | dt _ _=>simp [D.pl] at hpd
 | dn _ _=>simp [D.pl] at hpd
 | scr _=>simp [D.pl] at hpd
 | exc _=>simp [D.pl] at hpd
 | non=>
  simp only [RD] at hx;subst hx;cases ru
  cases e with
  | dk _ _=>simp [D.pl] at hpe
  | dt _ _=>simp [D.pl] at hpe
  | dn _ _=>simp [D.pl] at hpe
  | scr _=>simp [D.pl] at hpe
  | exc _=>simp [D.pl] at hpe
  | non=>simp only [RD] at hy;subst hy;cases rv;exact .none_none
  | bl b=>simp only [RD] at hy;subst hy;cases rv;exact .none_bool _
  | int b=>simp only [RD] at hy;subst hy;obtain ⟨t,rfl⟩:=rv;exact .none_int _ _
  | str b=>simp only [RD] at hy;subst hy;obtain ⟨t,rfl⟩:=rv;exact .none_str _ _
  | tup es=>simp only [RD] at hy;obtain ⟨a,ys,rfl,h1,_⟩:=hy;cases rv;obtain ⟨its,_,t⟩:=I.tupA h1;exact .none_tuple t hu'
  | lst es=>simp only [RD] at hy;obtain ⟨a,ys,rfl,h1,_⟩:=hy;cases rv;obtain ⟨its,_,t⟩:=I.lstA h1;exact .none_list t hu'
 | bl c=>
  simp only [RD] at hx;subst hx;cases ru
  cases e with
  | dk _ _=>simp [D.pl] at hpe
  | dt _ _=>simp [D.pl] at hpe
  | dn _ _=>simp [D.pl] at hpe
  | scr _=>simp [D.pl] at hpe
  | exc _=>simp [D.pl] at hpe
  | non=>simp only [RD] at hy;subst hy;cases rv;exact .bool_none _
  | bl b=>simp only [RD] at hy;subst hy;cases rv;exact .bool_bool _ _
  | int b=>simp only [RD] at hy;subst hy;obtain ⟨t,rfl⟩:=rv;exact .bool_int _ _ _
  | str b=>simp only [RD] at hy;subst hy;obtain ⟨t,rfl⟩:=rv;exact .bool_str _ _ _
  | tup es=>simp only [RD] at hy;obtain ⟨a,ys,rfl,h1,_⟩:=hy;cases rv;obtain ⟨its,_,t⟩:=I.tupA h1;exact .bool_tuple _ t hu'
  | lst es=>simp only [RD] at hy;obtain ⟨a,ys,rfl,h1,_⟩:=hy;cases rv;obtain ⟨its,_,t⟩:=I.lstA h1;exact .bool_list _ t hu'
 | int c=>
  simp only [RD] at hx;subst hx;obtain ⟨tt,rfl⟩:=ru
  cases e with
  | dk _ _=>simp [D.pl] at hpe
  | dt _ _=>simp [D.pl] at hpe
  | dn _ _=>simp [D.pl] at hpe
  | scr _=>simp [D.pl] at hpe
  | exc _=>simp [D.pl] at hpe
  | non=>simp only [RD] at hy;subst hy;cases rv;exact .int_none _ _
  | bl b=>simp only [RD] at hy;subst hy;cases rv;exact .int_bool _ _ _
  | int b=>simp only [RD] at hy;subst hy;obtain ⟨t,rfl⟩:=rv;exact .int_int _ _ _ _
  | str b=>simp only [RD] at hy;subst hy;obtain ⟨t,rfl⟩:=rv;exact .int_str _ _ _ _
  | tup es=>simp only [RD] at hy;obtain ⟨a,ys,rfl,h1,_⟩:=hy;cases rv;obtain ⟨its,_,t⟩:=I.tupA h1;exact .int_tuple _ _ t hu'
  | lst es=>simp only [RD] at hy;obtain ⟨a,ys,rfl,h1,_⟩:=hy;cases rv;obtain ⟨its,_,t⟩:=I.lstA h1;exact .int_list _ _ t hu'
 | str c=>
  simp only [RD] at hx;subst hx;obtain ⟨tt,rfl⟩:=ru
  cases e with
  | dk _ _=>simp [D.pl] at hpe
  | dt _ _=>simp [D.pl] at hpe
  | dn _ _=>simp [D.pl] at hpe
  | scr _=>simp [D.pl] at hpe
  | exc _=>simp [D.pl] at hpe
  | non=>simp only [RD] at hy;subst hy;cases rv;exact .str_none _ _
  | bl b=>simp only [RD] at hy;subst hy;cases rv;exact .str_bool _ _ _
  | int b=>simp only [RD] at hy;subst hy;obtain ⟨t,rfl⟩:=rv;exact .str_int _ _ _ _
  | str b=>simp only [RD] at hy;subst hy;obtain ⟨t,rfl⟩:=rv;exact .str_str _ _ _ _
  | tup es=>simp only [RD] at hy;obtain ⟨a,ys,rfl,h1,_⟩:=hy;cases rv;obtain ⟨its,_,t⟩:=I.tupA h1;exact .str_tuple _ _ t hu'
  | lst es=>simp only [RD] at hy;obtain ⟨a,ys,rfl,h1,_⟩:=hy;cases rv;obtain ⟨its,_,t⟩:=I.lstA h1;exact .str_list _ _ t hu'
 | tup ds=>
  simp only [RD] at hx;obtain ⟨a,xs,rfl,h1,hxs⟩:=hx;cases ru
  obtain ⟨its,r,t⟩:=I.tupA h1
  cases e with
  | dk _ _=>simp [D.pl] at hpe
  | dt _ _=>simp [D.pl] at hpe
  | dn _ _=>simp [D.pl] at hpe
  | scr _=>simp [D.pl] at hpe
  | exc _=>simp [D.pl] at hpe
  | non=>simp only [RD] at hy;subst hy;cases rv;exact .tuple_none t hu'
  | bl b=>simp only [RD] at hy;subst hy;cases rv;exact .tuple_bool _ t hu'
  | int b=>simp only [RD] at hy;subst hy;obtain ⟨tk,rfl⟩:=rv;exact .tuple_int _ _ t hu'
  | str b=>simp only [RD] at hy;subst hy;obtain ⟨tk,rfl⟩:=rv;exact .tuple_str _ _ t hu'
  | tup es=>
   simp only [RD] at hy;obtain ⟨b,ys,rfl,h2,hys⟩:=hy;cases rv
   obtain ⟨its2,r2,t2⟩:=I.tupA h2
   have q:=SeqAt.RcNeAt.tuples t t2 hu' (e:=fun j=>eqD (ds.getD j .non) (es.getD j .non)) (z77 I hu (by simpa only [D.pl] using hpd) (by simpa only [D.pl] using hpe) (by simp only [D.dep] at hn;omega) hxs hys r r2)
   rw [zdp hxs hys r r2] at q
   exact q
  | lst es=>
   simp only [RD] at hy;obtain ⟨b,ys,rfl,h2,hys⟩:=hy;cases rv
   obtain ⟨its2,r2,t2⟩:=I.lstA h2
   exact .tuple_list t t2 hu'
 | lst ds=>
  simp only [RD] at hx;obtain ⟨a,xs,rfl,h1,hxs⟩:=hx;cases ru
  obtain ⟨its,r,t⟩:=I.lstA h1
  cases e with
  | dk _ _=>simp [D.pl] at hpe
  | dt _ _=>simp [D.pl] at hpe
  | dn _ _=>simp [D.pl] at hpe
  | scr _=>simp [D.pl] at hpe
  | exc _=>simp [D.pl] at hpe
  | non=>simp only [RD] at hy;subst hy;cases rv;exact .list_none t hu'
  | bl b=>simp only [RD] at hy;subst hy;cases rv;exact .list_bool _ t hu'
  | int b=>simp only [RD] at hy;subst hy;obtain ⟨tk,rfl⟩:=rv;exact .list_int _ _ t hu'
  | str b=>simp only [RD] at hy;subst hy;obtain ⟨tk,rfl⟩:=rv;exact .list_str _ _ t hu'
  | tup es=>
   simp only [RD] at hy;obtain ⟨b,ys,rfl,h2,hys⟩:=hy;cases rv
   obtain ⟨its2,r2,t2⟩:=I.tupA h2
   exact .list_tuple t t2 hu'
  | lst es=>
   simp only [RD] at hy;obtain ⟨b,ys,rfl,h2,hys⟩:=hy;cases rv
   obtain ⟨its2,r2,t2⟩:=I.lstA h2
   have lx:=hxs.length;have ly:=hys.length;have l1:=r.length;have l2:=r2.length
   by_cases hl:ds.length=es.length
   . have hsz:its.toArray.size=its2.toArray.size:=by simp;omega
     have q:=SeqAt.RcNeAt.lists t t2 hsz hu' (e:=fun j=>eqD (ds.getD j .non) (es.getD j .non)) (z77 I hu (by simpa only [D.pl] using hpd) (by simpa only [D.pl] using hpe) (by simp only [D.dep] at hn;omega) hxs hys r r2)
     rw [zdq hxs hys r r2 hl] at q
     exact q
   . have q:=SeqAt.RcNeAt.lists_lengths t t2 (by simp;omega) hu'
     have:eqD (.lst ds) (.lst es)=false:=by simp only [eqD];exact z38 hl
     rw [this]
     exact q
end
structure Ex where
 cls:String
 fs:List D
inductive R (α:Type) where
 | ok (a:α) | er (x:Ex) | st
noncomputable def R.bind {α β:Type} (r:R α) (f:α->R β):R β:=match r with
 | .ok a=>f a
 | .er x=>.er x
 | .st=>.st
def Rk {α:Type} (EX:Ex->Prop) (r:R α) (k:α->Prop):Prop:=match r with
 | .ok a=>k a
 | .er x=>EX x
 | .st=>False
section
variable {α β:Type} {EX:Ex->Prop}
noncomputable def R.of (o:Option α):R α:=match o with
 | some a=>.ok a
 | none=>.st
theorem R.of_some (a:α):R.of (some a)=R.ok a:=rfl
theorem Rk.of {o:Option α} {k:α->Prop} (h:Rk EX (R.of o) k):∃a,o=some a/\k a:=by
 cases o with
 | none=>exact h.elim
 | some a=>exact ⟨a,rfl,h⟩
theorem R.bind_ok (a:α) (f:α->R β):(R.ok a).bind f=f a:=rfl
theorem Rk.bind {r:R α} {f:α->R β} {k:β->Prop}:Rk EX (r.bind f) k=Rk EX r fun a=>Rk EX (f a) k:=by cases r<;>rfl
theorem Rk.mono {r:R α} {k k':α->Prop} (h:Rk EX r k) (hk:∀a,k a->k' a):Rk EX r k':=by
 cases r with
 | ok a=>exact hk a h
 | er x=>exact h
 | st=>exact h
end
def Ext (H0 H H0' H':Hp):Prop:=Same H0 H0'/\Same H0' H'/\∀a,H a≠none->H0 a=none->H0' a=none
theorem Ext.refl {H0 H:Hp} (h:Same H0 H):Ext H0 H H0 H:=⟨Same.refl _,h,fun _ _ e=>e⟩
theorem z5c {α:Type} {o:Option α} {x:α} (h:o=some x):o≠none:=by rw [h];exact fun z=>nomatch z
theorem Same.ne {H H':Hp} (h:Same H H') {a:Addr} (n:H a≠none):H' a≠none:=by
 cases e:H a with
 | none=>exact absurd e n
 | some o=>exact z5c (h a o e)
theorem Ext.trans {H0 H H0' H' H0'' H'':Hp} (s:Same H H') (a:Ext H0 H H0' H') (b:Ext H0' H' H0'' H''):Ext H0 H H0'' H'':=
 ⟨a.1.trans b.1,b.2.1,fun c h1 h2=>b.2.2 c (s.ne h1) (a.2.2 c h1 h2)⟩
theorem Ext.grow {H0 H H0' H' H'':Hp} (a:Ext H0 H H0' H') (s:Same H' H''):Ext H0 H H0' H'':=⟨a.1,a.2.1.trans s,a.2.2⟩
theorem Ext.new {H0 H:Hp} {p:Addr} {o:HO} (h:Same H0 H) (hp:H p=none):Ext H0 H (upd H0 p o) (upd H p o):=by
 have h0:H0 p=none:=by
  cases e:H0 p with
  | none=>rfl
  | some u=>rw [h p u e] at hp;cases hp
 refine ⟨Same.upd_new h0,fun b u e=>?_,fun a h1 h2=>?_⟩
 . by_cases hb:b=p
   . subst hb;rw [z0e] at e ⊢;exact e
   . rw [z07 hb] at e ⊢;exact h b u e
 . have ha:a≠p:=fun z=>h1 (by rw [z];exact hp)
   rw [z07 ha];exact h2
def OB (K:Frag) (H0 H:Hp) (a:Addr):D->Prop
 | .lst ds=>∃xs,H a=some (.lst xs)/\RDs K H0 ds xs
 | .dk ks ds=>∃xs,H a=some (.dK (ks.zip xs))/\ks.length=xs.length/\RDs K H0 ds xs
 | .dt ks ds=>∃xs,H a=some (.dT (ks.zip xs))/\ks.length=xs.length/\RDs K H0 ds xs
 | .dn ks ds=>∃qs xs o,H a=some (.ext (dnP a qs xs o))/\qs.map (·.1)=ks/\DN H0 a qs/\RDs K H0 ds xs
 | _=>False
section
variable {K:Frag} {H0 H H0' H':Hp} {a:Addr} {d:D}
theorem OB.some (h:OB K H0 H a d):∃o,H a=some o/\¬Imm o:=by
 cases d<;>simp only [OB] at h
 . obtain ⟨xs,h,_⟩:=h;exact ⟨_,h,fun z=>z⟩
 . obtain ⟨xs,h,_⟩:=h;exact ⟨_,h,fun z=>z⟩
 . obtain ⟨xs,h,_⟩:=h;exact ⟨_,h,fun z=>z⟩
 . obtain ⟨qs,xs,o,h,_⟩:=h;exact ⟨_,h,fun z=>z _ _ _ _ rfl⟩
theorem OB.mono (h:OB K H0 H a d) (s0:Same H0 H0') (s:Same H H'):OB K H0' H' a d:=by
 cases d<;>simp only [OB] at h ⊢
 . obtain ⟨xs,h,r⟩:=h;exact ⟨_,s _ _ h,r.mono s0⟩
 . obtain ⟨xs,h,l,r⟩:=h;exact ⟨_,s _ _ h,l,r.mono s0⟩
 . obtain ⟨xs,h,l,r⟩:=h;exact ⟨_,s _ _ h,l,r.mono s0⟩
 . obtain ⟨qs,xs,o,h,k,n,r⟩:=h;exact ⟨qs,xs,o,s _ _ h,k,n.tk fun b ys q=>s0 _ _ q,r.mono s0⟩
theorem OB.at (h:OB K H0 H a d) (e:H' a=H a):OB K H0 H' a d:=by
 cases d<;>simp only [OB] at h ⊢
 . obtain ⟨xs,h,r⟩:=h;exact ⟨_,e.trans h,r⟩
 . obtain ⟨xs,h,l,r⟩:=h;exact ⟨_,e.trans h,l,r⟩
 . obtain ⟨xs,h,l,r⟩:=h;exact ⟨_,e.trans h,l,r⟩
 . obtain ⟨qs,xs,o,h,k,n,r⟩:=h;exact ⟨qs,xs,o,e.trans h,k,n,r⟩
theorem OB.tk (h:OB K H0 H a d) (n:d.shal=true) (t:TK H0 H0'):OB K H0' H a d:=by
 cases d<;>simp only [OB,D.shal] at h n ⊢
 . obtain ⟨xs,h,r⟩:=h;exact ⟨_,h,r.tk t n⟩
 . obtain ⟨xs,h,l,r⟩:=h;exact ⟨_,h,l,r.tk t n⟩
 . obtain ⟨xs,h,l,r⟩:=h;exact ⟨_,h,l,r.tk t n⟩
 . obtain ⟨qs,xs,o,h,k,m,r⟩:=h;exact ⟨qs,xs,o,h,k,m.tk fun b ys q=>t _ _ trivial q,r.tk t n⟩
theorem OB.rd (h:OB K H0 H a d) (s0:Same H0 H0') (e:H0' a=H a):RD K H0' d (.ref a):=by
 cases d<;>simp only [OB,RD] at h ⊢
 . obtain ⟨xs,h,r⟩:=h;exact ⟨_,_,rfl,e.trans h,r.mono s0⟩
 . obtain ⟨xs,h,l,r⟩:=h;exact ⟨_,_,rfl,e.trans h,l,r.mono s0⟩
 . obtain ⟨xs,h,l,r⟩:=h;exact ⟨_,_,rfl,e.trans h,l,r.mono s0⟩
 . obtain ⟨qs,xs,o,h,k,n,r⟩:=h;exact ⟨_,qs,xs,o,rfl,e.trans h,k,n.tk fun b ys q=>s0 _ _ q,r.mono s0⟩
end
def Out (K:Frag) (fr:Bool) (H0 H:Hp) (d:D) (v:V) (H':Hp):Prop:=
 Same H H'/\∃H0',Ext H0 H H0' H'/\(if fr=true then ∃p,v=.ref p/\H p=none/\H0' p=none/\OB K H0' H' p d else RD K H0' d v)
section
variable {K:Frag} {fr:Bool} {H0 H H0' H':Hp} {d:D} {v:V}
theorem Out.val (s:Same H H') (e:Ext H0 H H0' H') (r:RD K H0' d v):Out K false H0 H d v H':=⟨s,H0',e,by rw [if_neg Bool.false_ne_true];exact r⟩
theorem Out.pure (s:Same H0 H) (r:RD K H0 d v):Out K false H0 H d v H:=.val (Same.refl _) (.refl s) r
theorem Out.fresh {p:Addr} (s:Same H H') (e:Ext H0 H H0' H') (hp:H p=none) (hp0:H0' p=none) (o:OB K H0' H' p d):Out K true H0 H d (.ref p) H':=⟨s,H0',e,by rw [if_pos rfl];exact ⟨p,rfl,hp,hp0,o⟩⟩
theorem Out.rd (o:Out K false H0 H d v H'):Same H H'/\∃H0',Ext H0 H H0' H'/\RD K H0' d v:=by
 obtain ⟨s,H0',e,r⟩:=o
 rw [if_neg Bool.false_ne_true] at r
 exact ⟨s,H0',e,r⟩
theorem Out.weak (o:Out K fr H0 H d v H'):Out K false H0 H d v H':=by
 cases fr with
 | false=>exact o
 | true=>
  obtain ⟨s,H0',e,r⟩:=o
  rw [if_pos rfl] at r
  obtain ⟨p,rfl,hp,hp0,ob⟩:=r
  obtain ⟨u,hu,_⟩:=ob.some
  have e2:Ext H0 H (upd H0' p u) H':=by
   refine ⟨e.1.trans (Same.upd_new hp0),fun b w q=>?_,fun a h1 h2=>?_⟩
   . by_cases hb:b=p
     . subst hb;rw [z0e] at q;cases q;exact hu
     . rw [z07 hb] at q;exact e.2.1 b w q
   . rw [z07 (fun z=>h1 (by rw [z];exact hp))];exact e.2.2 a h1 h2
  exact .val s e2 (ob.rd (Same.upd_new hp0) (by rw [z0e,hu]))
theorem Out.after {H1 H1':Hp} (s:Same H H1) (e:Ext H0 H H1' H1) (o:Out K fr H1' H1 d v H'):Out K fr H0 H d v H':=by
 obtain ⟨s',H0',e',r⟩:=o
 refine ⟨s.trans s',H0',e.trans s e',?_⟩
 cases fr with
 | false=>exact r
 | true=>
  rw [if_pos rfl] at r ⊢
  obtain ⟨p,rfl,hp,r⟩:=r
  refine ⟨p,rfl,?_,r⟩
  cases q:H p with
  | none=>rfl
  | some u=>rw [s p u q] at hp;cases hp
end
abbrev DE:=List (Option D)
def RE (K:Frag) (H:Hp) (ρ:DE) (σ:St):Prop:=ρ.length=σ.length/\∀(i:Nat) d,ρ[i]?=some (some d)->∃v,σ[i]?=some (some v)/\RD K H d v
theorem RE.mono {K:Frag} {H H':Hp} {ρ:DE} {σ:St} (h:RE K H ρ σ) (s:Same H H'):RE K H' ρ σ:=⟨h.1,fun i d e=>by
 obtain ⟨v,h1,h2⟩:=h.2 i d e
 exact ⟨v,h1,h2.mono s⟩⟩
structure XW where
 hb:Hp
 p:Ex->Hp->Prop
abbrev F0:XW:=⟨fun _=>none,fun _ _=>False⟩
theorem F0.same (H:Hp):Same F0.hb H:=fun _ _ z=>nomatch z
def XW.at (W:XW) (x:Ex):Prop:=∀H',Same W.hb H'->W.p x H'
noncomputable def TEd (K:Frag) (EX:XW) (fr:Bool) (f:DE->R D):TE:=fun σ H Q=>Same EX.hb H/\∃ρ H0,Same H0 H/\RE K H0 ρ σ/\Rk EX.at (f ρ) fun d=>∀v H',Out K fr H0 H d v H'->Q v H'
noncomputable def TAd (K:Frag) (EX:XW) (f:DE->R (List D)):TA:=fun σ H Q=>Same EX.hb H/\∃ρ H0,Same H0 H/\RE K H0 ρ σ/\Rk EX.at (f ρ) fun ds=>∀vs H' H0',Same H H'->Ext H0 H H0' H'->RDs K H0' ds vs->Q vs H'
noncomputable def TTd (K:Frag) (EX:XW) (f:DE->R Bool):TT:=fun σ H Q=>Same EX.hb H/\∃ρ H0,Same H0 H/\RE K H0 ρ σ/\Rk EX.at (f ρ) fun b=>∀H',Same H H'->Q b H'
noncomputable def z04 (i:Nat):DE->R D:=fun ρ=>match ρ[i]? with | some (some d)=>.ok d | _=>.st
noncomputable def eC (d:D):DE->R D:=fun _=>.ok d
noncomputable def eOp (o:D->D->Option D) (fa fb:DE->R D):DE->R D:=fun ρ=>(fa ρ).bind fun x=>(fb ρ).bind fun y=>R.of (o x y)
noncomputable def eUn (o:D->Option D) (fa:DE->R D):DE->R D:=fun ρ=>(fa ρ).bind fun x=>R.of (o x)
noncomputable def z0f:DE->R (List D):=fun _=>.ok []
noncomputable def z00 (f:DE->R D) (fs:DE->R (List D)):DE->R (List D):=fun ρ=>(f ρ).bind fun d=>(fs ρ).bind fun ds=>.ok (d::ds)
noncomputable def z1n (m:List D->R D) (fs:DE->R (List D)):DE->R D:=fun ρ=>(fs ρ).bind m
noncomputable def eCB (m:List D->Option D) (fs:DE->R (List D)):DE->R D:=fun ρ=>(fs ρ).bind fun ds=>R.of (m ds)
noncomputable def zgo (fs:DE->R (List D)):DE->R D:=fun ρ=>(fs ρ).bind fun ds=>if ds.length<=1000 then .ok (.tup ds) else .st
noncomputable def z97 (fs:DE->R (List D)):DE->R D:=fun ρ=>(fs ρ).bind fun ds=>if ds.length<=1000 then .ok (.lst ds) else .st
noncomputable def eIf (t:DE->R Bool) (fa fb:DE->R D):DE->R D:=fun ρ=>(t ρ).bind fun b=>if b=true then fa ρ else fb ρ
noncomputable def znf (t u:DE->R Bool):DE->R Bool:=fun ρ=>(t ρ).bind fun b=>if b=true then u ρ else .ok false
noncomputable def bOr (t u:DE->R Bool):DE->R Bool:=fun ρ=>(t ρ).bind fun b=>if b=true then .ok true else u ρ
noncomputable def zgp (t:DE->R Bool):DE->R Bool:=fun ρ=>(t ρ).bind fun b=>.ok (!b)
noncomputable def asB:D->Option Bool
 | .bl b=>some b
 | _=>none
noncomputable def z46 (tr:D->Option Bool) (f:DE->R D):DE->R Bool:=fun ρ=>(f ρ).bind fun d=>R.of (tr d)
noncomputable def zng (fa fb:DE->R D):DE->R D:=fun ρ=>(fa ρ).bind fun x=>(R.of (asB x)).bind fun b=>if b=true then fb ρ else .ok (.bl false)
noncomputable def eOr (fa fb:DE->R D):DE->R D:=fun ρ=>(fa ρ).bind fun x=>(R.of (asB x)).bind fun b=>if b=true then .ok (.bl true) else fb ρ
def OpD (K:Frag) (fr:Bool) (o:D->D->Option D) (r:R2):Prop:=∀(H0 H:Hp) (x y:V) (d e z:D) (Q:VK),Same H0 H->RD K H0 d x->RD K H0 e y->o d e=some z->(∀v H',Out K fr H0 H z v H'->Q v H')->r x y H Q
def UnD (K:Frag) (fr:Bool) (o:D->Option D) (r:V->Hp->VK->Prop):Prop:=∀(H0 H:Hp) (x:V) (d z:D) (Q:VK),Same H0 H->RD K H0 d x->o d=some z->(∀v H',Out K fr H0 H z v H'->Q v H')->r x H Q
def z5d (K:Frag) (fr:Bool) (m:List D->Option D) (r:List V->Hp->VK->Prop):Prop:=∀(H0 H:Hp) (xs:List V) (ds:List D) (z:D) (Q:VK),Same H0 H->RDs K H0 ds xs->m ds=some z->(∀v H',Out K fr H0 H z v H'->Q v H')->r xs H Q
def zs6 (K:Frag) (tr:D->Option Bool) (r:V->Hp->(Bool->Hp->Prop)->Prop):Prop:=∀(H0 H:Hp) (x:V) (d:D) (b:Bool) (Q:Bool->Hp->Prop),Same H0 H->RD K H0 d x->tr d=some b->Q b H->r x H Q
section
variable {K:Frag} {EX:XW} {fr:Bool} {σ:St} {H:Hp} {Q:VK}
theorem TEd.go {f:DE->R D} {ρ:DE} {H0:Hp} {k:D->Prop} (sx:Same EX.hb H) (s:Same H0 H) (e:RE K H0 ρ σ) (h:Rk EX.at (f ρ) k) (hk:∀d,k d->∀v H' H0',Same H H'->Ext H0 H H0' H'->RD K H0' d v->Q v H'):TEd K EX false f σ H Q:=
 ⟨sx,ρ,H0,s,e,h.mono fun d z v H' o=>by
  obtain ⟨s',H0',e',r⟩:=o.rd
  exact hk d z v H' H0' s' e' r⟩
theorem TAd.go {f:DE->R (List D)} {ρ:DE} {H0:Hp} {k:List D->Prop} {Q:List V->Hp->Prop} (sx:Same EX.hb H) (s:Same H0 H) (e:RE K H0 ρ σ) (h:Rk EX.at (f ρ) k) (hk:∀d,k d->∀v H' H0',Same H H'->Ext H0 H H0' H'->RDs K H0' d v->Q v H'):TAd K EX f σ H Q:=
 ⟨sx,ρ,H0,s,e,h.mono fun d z v H' H0' s' e' r=>hk d z v H' H0' s' e' r⟩
theorem TTd.go {f:DE->R Bool} {ρ:DE} {H0:Hp} {k:Bool->Prop} {Q:Bool->Hp->Prop} (sx:Same EX.hb H) (s:Same H0 H) (e:RE K H0 ρ σ) (h:Rk EX.at (f ρ) k) (hk:∀b,k b->∀H',Same H H'->Q b H'):TTd K EX f σ H Q:=
 ⟨sx,ρ,H0,s,e,h.mono fun b z H' s'=>hk b z H' s'⟩
theorem TEd.weak {f:DE->R D} (h:TEd K EX false f σ H Q):TEd K EX fr f σ H Q:=by
 obtain ⟨sx,ρ,H0,s,e,h⟩:=h
 exact ⟨sx,ρ,H0,s,e,h.mono fun d z v H' o=>z v H' o.weak⟩
theorem zs7 {i:Nat} (h:TEd K EX false (z04 i) σ H Q):∃v,σ[i]?=some (some v)/\Q v H:=by
 obtain ⟨sx,ρ,H0,s,e,h⟩:=h
 unfold z04 at h
 split at h
 . rename_i d q
   obtain ⟨v,h1,h2⟩:=e.2 i d q
   exact ⟨v,h1,h v H (.pure s h2)⟩
 . exact h.elim
theorem zdr {d:D} {v:V} (hd:∀H0,RD K H0 d v) (h:TEd K EX false (eC d) σ H Q):tC v σ H Q:=by
 obtain ⟨sx,ρ,H0,s,e,h⟩:=h
 exact h v H (.pure s (hd _))
theorem zrh {o:D->D->Option D} {r:R2} {fa fb:DE->R D} (ho:OpD K fr o r) (h:TEd K EX fr (eOp o fa fb) σ H Q):tOp r (TEd K EX false fa) (TEd K EX false fb) σ H Q:=by
 obtain ⟨sx,ρ,H0,s,e,h⟩:=h
 unfold eOp at h
 rw [Rk.bind] at h
 refine TEd.go sx s e h fun d h v H1 H1' s1 e1 r1=>?_
 rw [Rk.bind] at h
 refine TEd.go (sx.trans s1) e1.2.1 (e.mono e1.1) h fun d2 h v2 H2 H2' s2 e2 r2=>?_
 obtain ⟨z,hz,h⟩:=h.of
 exact ho H2' H2 v v2 d d2 z Q e2.2.1 (r1.mono e2.1) r2 hz fun w H3 o=>h w H3 (o.after (s1.trans s2) (e1.trans s1 e2))
theorem zvs {o:D->Option D} {r:V->Hp->VK->Prop} {fa:DE->R D} (ho:UnD K fr o r) (h:TEd K EX fr (eUn o fa) σ H Q):tUn r (TEd K EX false fa) σ H Q:=by
 obtain ⟨sx,ρ,H0,s,e,h⟩:=h
 unfold eUn at h
 rw [Rk.bind] at h
 refine TEd.go sx s e h fun d h v H1 H1' s1 e1 r1=>?_
 obtain ⟨z,hz,h⟩:=h.of
 exact ho H1' H1 v d z Q e1.2.1 r1 hz fun w H3 o=>h w H3 (o.after s1 e1)
theorem zs8 {Q:List V->Hp->Prop} (h:TAd K EX z0f σ H Q):zcw σ H Q:=by
 obtain ⟨sx,ρ,H0,s,e,h⟩:=h
 exact h [] H H0 (Same.refl _) (.refl s) .nil
theorem znh {Q:List V->Hp->Prop} {f:DE->R D} {fs:DE->R (List D)} (h:TAd K EX (z00 f fs) σ H Q):z3o (TEd K EX false f) (TAd K EX fs) σ H Q:=by
 obtain ⟨sx,ρ,H0,s,e,h⟩:=h
 unfold z00 at h
 rw [Rk.bind] at h
 refine TEd.go sx s e h fun d h v H1 H1' s1 e1 r1=>?_
 rw [Rk.bind] at h
 refine TAd.go (sx.trans s1) e1.2.1 (e.mono e1.1) h fun ds h vs H2 H2' s2 e2 r2=>?_
 exact h (v::vs) H2 H2' (s1.trans s2) (e1.trans s1 e2) (.cons (r1.mono e2.1) r2)
theorem zv0 {m:List D->Option D} {r:List V->Hp->VK->Prop} {fs:DE->R (List D)} (hm:z5d K fr m r) (h:TEd K EX fr (eCB m fs) σ H Q):tCB r (TAd K EX fs) σ H Q:=by
 obtain ⟨sx,ρ,H0,s,e,h⟩:=h
 unfold eCB at h
 rw [Rk.bind] at h
 refine TAd.go sx s e h fun ds h vs H1 H1' s1 e1 r1=>?_
 obtain ⟨z,hz,h⟩:=h.of
 exact hm H1' H1 vs ds z Q e1.2.1 r1 hz fun w H3 o=>h w H3 (o.after s1 e1)
theorem zds {n:Nat} (h:n<=1000):n<=sizeLine:=Nat.le_trans h (by decide)
theorem zs9 {fs:DE->R (List D)} (h:TEd K EX false (zgo fs) σ H Q):zus (TAd K EX fs) σ H Q:=by
 obtain ⟨sx,ρ,H0,s,e,h⟩:=h
 unfold zgo at h
 rw [Rk.bind] at h
 refine TAd.go sx s e h fun ds h vs H1 H1' s1 e1 r1=>?_
 split at h
 . rename_i hl
   refine ⟨zds (by rw [<-r1.length];exact hl),fun p hp=>h _ _ (.val (s1.trans (Same.upd_new hp)) (e1.trans s1 (.new e1.2.1 hp)) ?_)⟩
   have h1p:H1' p=none:=by
    cases q:H1' p with
    | none=>rfl
    | some u=>rw [e1.2.1 p u q] at hp;cases hp
   simp only [RD]
   exact ⟨p,vs,rfl,z0e,r1.mono (Same.upd_new h1p)⟩
 . exact h.elim
theorem Same.none {H H':Hp} (s:Same H H') {p:Addr} (h:H' p=none):H p=none:=by
 cases q:H p with
 | none=>rfl
 | some u=>rw [s p u q] at h;cases h
theorem Out.new {H0 H:Hp} {d:D} {p:Addr} {o:HO} (s:Same H0 H) (hp:H p=none) (hob:∀H',H' p=some o->OB K H0 H' p d):Out K true H0 H d (.ref p) (upd H p o):=
 .fresh (Same.upd_new hp) ((Ext.refl s).grow (Same.upd_new hp)) hp (s.none hp) (hob _ z0e)
theorem zsa {fs:DE->R (List D)} (h:TEd K EX true (z97 fs) σ H Q):zm8 (TAd K EX fs) σ H Q:=by
 obtain ⟨sx,ρ,H0,s,e,h⟩:=h
 unfold z97 at h
 rw [Rk.bind] at h
 refine TAd.go sx s e h fun ds h vs H1 H1' s1 e1 r1=>?_
 split at h
 . rename_i hl
   refine ⟨zds (by rw [<-r1.length];exact hl),fun p hp=>h _ _ (Out.after s1 e1 (.new e1.2.1 hp fun H' hH=>?_))⟩
   simp only [OB]
   exact ⟨vs,hH,r1⟩
 . exact h.elim
theorem zni {t u:DE->R Bool} {Q:Bool->Hp->Prop} (h:TTd K EX (znf t u) σ H Q):zum (TTd K EX t) (TTd K EX u) σ H Q:=by
 obtain ⟨sx,ρ,H0,s,e,h⟩:=h
 unfold znf at h
 rw [Rk.bind] at h
 refine TTd.go sx s e h fun b h H1 s1=>?_
 cases b with
 | true=>exact TTd.go (sx.trans s1) (s.trans s1) e h fun b h H' s'=>h H' (s1.trans s')
 | false=>exact h H1 s1
theorem zsb {t u:DE->R Bool} {Q:Bool->Hp->Prop} (h:TTd K EX (bOr t u) σ H Q):tOr (TTd K EX t) (TTd K EX u) σ H Q:=by
 obtain ⟨sx,ρ,H0,s,e,h⟩:=h
 unfold bOr at h
 rw [Rk.bind] at h
 refine TTd.go sx s e h fun b h H1 s1=>?_
 cases b with
 | true=>exact h H1 s1
 | false=>exact TTd.go (sx.trans s1) (s.trans s1) e h fun b h H' s'=>h H' (s1.trans s')
theorem znj {t:DE->R Bool} {Q:Bool->Hp->Prop} (h:TTd K EX (zgp t) σ H Q):zun (TTd K EX t) σ H Q:=by
 obtain ⟨sx,ρ,H0,s,e,h⟩:=h
 unfold zgp at h
 rw [Rk.bind] at h
 exact TTd.go sx s e h fun b h H1 s1=>h H1 s1
end
noncomputable def zvt (r:V->Hp->(Bool->Hp->Prop)->Prop) (t:TE):TT:=fun σ H Q=>t σ H fun x H'=>r x H' Q
noncomputable def zsc (o:D->D->Option D) (fb:DE->R D):D->DE->R D:=fun d ρ=>(fb ρ).bind fun y=>R.of (o d y)
noncomputable def zsd (o:D->D->Option D) (fb:DE->R D) (g:D->DE->R D):D->DE->R D:=fun d ρ=>(fb ρ).bind fun y=>(R.of (o d y)).bind fun z=>(R.of (asB z)).bind fun b=>if b=true then g y ρ else .ok (.bl false)
noncomputable def znk (o:D->D->Option D) (fb:DE->R D):D->DE->R Bool:=fun d ρ=>(fb ρ).bind fun y=>(R.of (o d y)).bind fun z=>R.of (asB z)
noncomputable def znl (o:D->D->Option D) (fb:DE->R D) (g:D->DE->R Bool):D->DE->R Bool:=fun d ρ=>(fb ρ).bind fun y=>(R.of (o d y)).bind fun z=>(R.of (asB z)).bind fun b=>if b=true then g y ρ else .ok false
noncomputable def zvu (fa:DE->R D) (g:D->DE->R D):DE->R D:=fun ρ=>(fa ρ).bind fun x=>g x ρ
noncomputable def zvv (fa:DE->R D) (g:D->DE->R Bool):DE->R Bool:=fun ρ=>(fa ρ).bind fun x=>g x ρ
theorem zan {d:D} {b:Bool} (h:asB d=some b):d=.bl b:=by
 cases d<;>simp [asB] at h
 subst h;rfl
theorem RD.bl {K:Frag} {H:Hp} {b:Bool} {v:V} (h:RD K H (.bl b) v):v=.bl b:=by simpa only [RD] using h
section
variable {K:Frag} {EX:XW} {fr:Bool} {σ:St} {H:Hp} {Q:VK} {QB:Bool->Hp->Prop}
theorem zse {fa fb:DE->R D} (h:TEd K EX false (zng fa fb) σ H Q):zn6 (TEd K EX false fa) (TEd K EX false fb) σ H Q:=by
 obtain ⟨sx,ρ,H0,s,e,h⟩:=h
 unfold zng at h
 rw [Rk.bind] at h
 refine TEd.go sx s e h fun d h v H1 H1' s1 e1 r1=>?_
 rw [Rk.bind] at h
 obtain ⟨b,hb,h⟩:=h.of
 cases zan hb
 cases r1.bl
 cases b with
 | true=>exact TEd.go (sx.trans s1) e1.2.1 (e.mono e1.1) h fun d h v H2 H2' s2 e2 r2=>h v H2 (.val (s1.trans s2) (e1.trans s1 e2) r2)
 | false=>exact h _ H1 (.val s1 e1 (by simp only [RD]))
theorem zsf {tr:D->Option Bool} {r:V->Hp->(Bool->Hp->Prop)->Prop} {fa:DE->R D} (ht:zs6 K tr r) (h:TTd K EX (z46 tr fa) σ H QB):zvt r (TEd K EX false fa) σ H QB:=by
 obtain ⟨sx,ρ,H0,s,e,h⟩:=h
 unfold z46 at h
 rw [Rk.bind] at h
 refine TEd.go sx s e h fun d h v H1 H1' s1 e1 r1=>?_
 obtain ⟨b,hb,h⟩:=h.of
 exact ht H1' H1 v d b QB e1.2.1 r1 hb (h H1 s1)
theorem znm {tr:D->Option Bool} {r:V->Hp->(Bool->Hp->Prop)->Prop} {fa:DE->R D} (ht:zs6 K tr r) (h:TEd K EX false (eUn (fun d=>(tr d).map fun b=>.bl (!b)) fa) σ H Q) :
  (fun σ H Q=>(TEd K EX false fa) σ H fun x H1=>r x H1 fun k H2=>Q (.bl (!k)) H2) σ H Q:=by
 obtain ⟨sx,ρ,H0,s,e,h⟩:=h
 unfold eUn at h
 rw [Rk.bind] at h
 refine TEd.go sx s e h fun d h v H1 H1' s1 e1 r1=>?_
 obtain ⟨z,hz,h⟩:=h.of
 have hz:(tr d).map (fun b=>D.bl (!b))=some z:=hz
 cases hb:tr d with
 | none=>rw [hb] at hz;cases hz
 | some b=>
  rw [hb] at hz;cases hz
  exact ht H1' H1 v d b _ e1.2.1 r1 hb (h _ H1 (.val s1 e1 (by simp only [RD])))
theorem zsg {o:D->D->Option D} {r:R2} {fa fb:DE->R D} (ho:OpD K false o r) (h:TTd K EX (z46 asB (eOp o fa fb)) σ H QB):zk4 (tOp r (TEd K EX false fa) (TEd K EX false fb)) σ H QB:=by
 obtain ⟨sx,ρ,H0,s,e,h⟩:=h
 unfold z46 at h
 rw [Rk.bind] at h
 unfold zk4
 refine zrh (EX:=EX) ho ⟨sx,ρ,H0,s,e,h.mono fun d h v H' o=>?_⟩
 obtain ⟨b,hb,h⟩:=h.of
 obtain ⟨s',H0',e',r'⟩:=o.rd
 cases zan hb
 cases r'.bl
 exact h H' s'
end
inductive Sl where
 | em | im (d:D) | ow (d:D)
abbrev DS:=List Sl
noncomputable def Sl.see (b:Bool):Sl->Option D
 | .em=>none
 | .im d=>some d
 | .ow d=>if b=true then some d else none
noncomputable def Sl.frz (b:Bool):Sl->Sl
 | .ow d=>if b=true then .im d else .ow d
 | s=>s
noncomputable def vis:List Bool->DS->DE
 | _,[]=>[]
 | [],s::r=>s.see false::vis [] r
 | b::m,s::r=>s.see b::vis m r
noncomputable def frz:List Bool->DS->DS
 | _,[]=>[]
 | [],s::r=>s::r
 | b::m,s::r=>s.frz b::frz m r
theorem z5e:∀(m:List Bool) (ρ:DS) (i:Nat),(vis m ρ)[i]?=(ρ[i]?).map (Sl.see (m.getD i false))
 | [],[],i=>by simp [vis]
 | _::_,[],i=>by simp [vis]
 | [],s::r,0=>by simp [vis]
 | b::m,s::r,0=>by simp [vis]
 | [],s::r,i+1=>by simpa [vis] using z5e [] r i
 | b::m,s::r,i+1=>by simpa [vis] using z5e m r i
theorem z4d:∀(m:List Bool) (ρ:DS),(vis m ρ).length=ρ.length
 | [],[]=>rfl
 | _::_,[]=>rfl
 | [],s::r=>by simp [vis,z4d [] r]
 | b::m,s::r=>by simp [vis,z4d m r]
theorem Sl.frz_false (s:Sl):s.frz false=s:=by cases s<;>simp [Sl.frz]
theorem z9j:∀(m:List Bool) (ρ:DS) (i:Nat),(L2.frz m ρ)[i]?=(ρ[i]?).map (Sl.frz (m.getD i false))
 | [],[],i=>by simp [frz]
 | _::_,[],i=>by simp [frz]
 | [],s::r,i=>by
  simp only [frz,List.getD_nil]
  cases h:(s::r)[i]? with
  | none=>rfl
  | some x=>simp [Sl.frz_false]
 | b::m,s::r,0=>by simp [frz]
 | b::m,s::r,i+1=>by simpa [frz] using z9j m r i
theorem z6g:∀(m:List Bool) (ρ:DS),(L2.frz m ρ).length=ρ.length
 | [],[]=>rfl
 | _::_,[]=>rfl
 | [],s::r=>rfl
 | b::m,s::r=>by simp [frz,z6g m r]
structure RS (K:Frag) (Hc Hb H0:Hp) (ρ:DS) (σ:St) (H:Hp):Prop where
 sb:Same Hb H
 ext:Ext Hc Hb H0 H
 len:ρ.length=σ.length
 im:∀(i:Nat) d,ρ[i]?=some (.im d)->∃v,σ[i]?=some (some v)/\RD K H0 d v
 ow:∀(i:Nat) d,ρ[i]?=some (.ow d)->∃a,σ[i]?=some (some (.ref a))/\H0 a=none/\Hb a=none/\OB K H0 H a d
 ap:∀(i j:Nat) d e a,ρ[i]?=some (.ow d)->ρ[j]?=some (.ow e)->σ[i]?=some (some (.ref a))->σ[j]?=some (some (.ref a))->i=j
theorem RS.grow {K:Frag} {Hc Hb H0 H H':Hp} {ρ:DS} {σ:St} (R:RS K Hc Hb H0 ρ σ H) (s:Same H H'):RS K Hc Hb H0 ρ σ H':=
 ⟨R.sb.trans s,R.ext.grow s,R.len,R.im,fun i d e=>by
  obtain ⟨a,h1,h2,h3,h4⟩:=R.ow i d e
  exact ⟨a,h1,h2,h3,h4.mono (Same.refl _) s⟩,R.ap⟩
def Msk (m:List Bool) (ρ:DS) (σ:St) (a:Addr):Prop:=∃i d,m.getD i false=true/\ρ[i]?=some (.ow d)/\σ[i]?=some (some (.ref a))
open Classical in
noncomputable def HeOf (m:List Bool) (ρ:DS) (σ:St) (H0 H:Hp):Hp:=fun a=>if Msk m ρ σ a then H a else H0 a
open Classical in
noncomputable def HdOf (m:List Bool) (ρ:DS) (σ:St) (H0:Hp):Hp:=fun a=>if Msk m ρ σ a then none else H0 a
section
variable {K:Frag} {Hc Hb H0 H H':Hp} {ρ:DS} {σ:St} {m:List Bool}
theorem RS.msk (R:RS K Hc Hb H0 ρ σ H) {a:Addr} (h:Msk m ρ σ a):H0 a=none/\Hb a=none/\∃o,H a=some o/\¬Imm o:=by
 obtain ⟨i,d,_,h1,h2⟩:=h
 obtain ⟨a',q1,q2,q3,q4⟩:=R.ow i d h1
 rw [h2] at q1;cases q1
 exact ⟨q2,q3,q4.some⟩
theorem z78 {a:Addr} (h:Msk m ρ σ a):HeOf m ρ σ H0 H a=H a:=by unfold HeOf;exact if_pos h
theorem z2l {a:Addr} (h:¬Msk m ρ σ a):HeOf m ρ σ H0 H a=H0 a:=by unfold HeOf;exact if_neg h
theorem z79 {a:Addr} (h:Msk m ρ σ a):HdOf m ρ σ H0 a=none:=by unfold HdOf;exact if_pos h
theorem z39 {a:Addr} (h:¬Msk m ρ σ a):HdOf m ρ σ H0 a=H0 a:=by unfold HdOf;exact if_neg h
theorem RS.he0 (R:RS K Hc Hb H0 ρ σ H) (m:List Bool):Same H0 (HeOf m ρ σ H0 H):=fun b o e=>by
 by_cases h:Msk m ρ σ b
 . rw [(R.msk h).1] at e;cases e
 . rw [z2l h];exact e
theorem RS.heH (R:RS K Hc Hb H0 ρ σ H) (m:List Bool):Same (HeOf m ρ σ H0 H) H:=fun b o e=>by
 by_cases h:Msk m ρ σ b
 . rw [z78 h] at e;exact e
 . rw [z2l h] at e;exact R.ext.2.1 b o e
theorem RS.re (R:RS K Hc Hb H0 ρ σ H) (m:List Bool):RE K (HeOf m ρ σ H0 H) (vis m ρ) σ:=by
 refine ⟨by rw [z4d];exact R.len,fun i d e=>?_⟩
 rw [z5e] at e
 cases q:ρ[i]? with
 | none=>rw [q] at e;cases e
 | some s=>
  rw [q] at e
  simp only [Option.map_some,Option.some.injEq] at e
  cases s with
  | em=>cases e
  | im d'=>
   cases e
   obtain ⟨v,h1,h2⟩:=R.im i d q
   exact ⟨v,h1,h2.mono (R.he0 m)⟩
  | ow d'=>
   simp only [Sl.see] at e
   split at e
   . rename_i hm
     cases e
     obtain ⟨a,h1,h2,h3,h4⟩:=R.ow i d q
     exact ⟨_,h1,h4.rd (R.he0 m) (z78 ⟨i,d,hm,q,h1⟩)⟩
   . cases e
noncomputable def z4r (keep:Bool) (m:List Bool) (ρ:DS):DS:=if keep=true then ρ else frz m ρ
noncomputable def keeps (fr:Bool) (d:D):Bool:=if fr=true then d.shal else d.noL
def Apt (K:Frag) (fr:Bool) (Hb H0:Hp) (ρ:DS) (σ:St) (H:Hp) (d:D) (v:V):Prop:=
 if fr=true then ∃p,v=.ref p/\H0 p=none/\Hb p=none/\OB K H0 H p d/\∀(i:Nat) e,ρ[i]?=some (.ow e)->σ[i]?≠some (some (.ref p)) else RD K H0 d v
theorem z7a {keep:Bool} {i:Nat} {d:D} (h:(z4r keep m ρ)[i]?=some (.ow d)):ρ[i]?=some (.ow d)/\(keep=false->m.getD i false=false):=by
 unfold z4r at h
 cases keep with
 | true=>exact ⟨h,fun z=>nomatch z⟩
 | false=>
  rw [if_neg Bool.false_ne_true,z9j] at h
  cases q:ρ[i]? with
  | none=>rw [q] at h;cases h
  | some s=>
   rw [q] at h
   simp only [Option.map_some,Option.some.injEq] at h
   cases s with
   | em=>cases h
   | im d'=>cases h
   | ow d'=>
    simp only [Sl.frz] at h
    split at h
    . cases h
    . rename_i hm
      cases h
      exact ⟨rfl,fun _=>by simpa using hm⟩
theorem RS.frame (R:RS K Hc Hb H0 ρ σ H) {H0':Hp} (s:Same H H') (e:Ext (HeOf m ρ σ H0 H) H H0' H') (keep:Bool) :
  ∃H0n,RS K Hc Hb H0n (z4r keep m ρ) σ H'/\TK H0' H0n/\(keep=false->H0n=H0')/\(∀p,H0' p=none->H0n p=none)/\Same H0 H0n:=by
 have hunm:∀(i:Nat) d' a,ρ[i]?=some (.ow d')->σ[i]?=some (some (.ref a))->¬Msk m ρ σ a->H0' a=none:=fun i d' a h1 h2 h3=>by
  obtain ⟨a',q1,q2,q3,q4⟩:=R.ow i d' h1
  rw [h2] at q1;cases q1
  obtain ⟨u,hu,_⟩:=q4.some
  exact e.2.2 a (z5c hu) (by rw [z2l h3];exact q2)
 have nmsk:∀{i:Nat} {d':D} {a:Addr},ρ[i]?=some (.ow d')->σ[i]?=some (some (.ref a))->m.getD i false=false->¬Msk m ρ σ a:=fun {i d' a} h1 h2 h3 ⟨j,e',q1,q2,q3⟩=>by
  have:=R.ap i j d' e' a h1 q2 h2 q3
  subst this
  rw [h3] at q1;cases q1
 cases keep with
 | true=>
  have hth:z4r true m ρ=ρ:=rfl
  have s0:Same H0 (HdOf m ρ σ H0'):=fun b u q=>by
   have hb:¬Msk m ρ σ b:=fun z=>by rw [(R.msk z).1] at q;cases q
   rw [z39 hb]
   exact e.1 b u (R.he0 m b u q)
  have tk:TK H0' (HdOf m ρ σ H0'):=fun b u hi q=>by
   have hb:¬Msk m ρ σ b:=fun z=>by
    obtain ⟨_,_,w,hw,hn⟩:=R.msk z
    have:=e.1 b w (by rw [z78 z];exact hw)
    rw [q] at this;cases this
    exact hn hi
   rw [z39 hb];exact q
  refine ⟨HdOf m ρ σ H0',⟨R.sb.trans s,⟨R.ext.1.trans s0,fun b u q=>?_,fun a h1 h2=>?_⟩,R.len,fun i d' q=>?_,fun i d' q=>?_,R.ap⟩,tk,(fun z=>nomatch z),fun p hp=>?_,s0⟩
  . by_cases hb:Msk m ρ σ b
    . rw [z79 hb] at q;cases q
    . rw [z39 hb] at q;exact e.2.1 b u q
  . by_cases hb:Msk m ρ σ a
    . exact z79 hb
    . rw [z39 hb]
      exact e.2.2 a (R.sb.ne h1) (by rw [z2l hb];exact R.ext.2.2 a h1 h2)
  . obtain ⟨w,h1,h2⟩:=R.im i d' q
    exact ⟨w,h1,h2.mono s0⟩
  . obtain ⟨a,h1,h2,h3,h4⟩:=R.ow i d' q
    refine ⟨a,h1,?_,h3,h4.mono s0 s⟩
    by_cases hb:Msk m ρ σ a
    . exact z79 hb
    . rw [z39 hb];exact hunm i d' a q h1 hb
  . by_cases hb:Msk m ρ σ p
    . exact z79 hb
    . rw [z39 hb];exact hp
 | false=>
  refine ⟨H0',⟨R.sb.trans s,?_,?_,fun i d' q=>?_,fun i d' q=>?_,fun i j d1 d2 a q1 q2=>?_⟩,fun _ _ _ z=>z,fun _=>rfl,fun _ z=>z,(R.he0 m).trans e.1⟩
  . refine ⟨R.ext.1.trans ((R.he0 m).trans e.1),e.2.1,fun a h1 h2=>e.2.2 a (R.sb.ne h1) ?_⟩
    have hb:¬Msk m ρ σ a:=fun z=>h1 (R.msk z).2.1
    rw [z2l hb];exact R.ext.2.2 a h1 h2
  . show (L2.frz m ρ).length=_
    rw [z6g];exact R.len
  . have q':(L2.frz m ρ)[i]?=some (.im d'):=q
    rw [z9j] at q'
    cases hs:ρ[i]? with
    | none=>rw [hs] at q';cases q'
    | some sl=>
     rw [hs] at q'
     simp only [Option.map_some,Option.some.injEq] at q'
     cases sl with
     | em=>cases q'
     | im d2=>
      cases q'
      obtain ⟨w,h1,h2⟩:=R.im i d' hs
      exact ⟨w,h1,h2.mono ((R.he0 m).trans e.1)⟩
     | ow d2=>
      simp only [Sl.frz] at q'
      split at q'
      . rename_i hm
        cases q'
        obtain ⟨a,h1,h2,h3,h4⟩:=R.ow i d' hs
        obtain ⟨u,hu,_⟩:=h4.some
        refine ⟨_,h1,h4.rd ((R.he0 m).trans e.1) ?_⟩
        rw [hu]
        exact e.1 a u (by rw [z78 ⟨i,d',hm,hs,h1⟩];exact hu)
      . cases q'
  . obtain ⟨q1,q2⟩:=z7a q
    obtain ⟨a,h1,h2,h3,h4⟩:=R.ow i d' q1
    exact ⟨a,h1,hunm i d' a q1 h1 (nmsk q1 h1 (q2 rfl)),h3,h4.mono ((R.he0 m).trans e.1) s⟩
  . exact R.ap i j d1 d2 a (z7a q1).1 (z7a q2).1
theorem RS.out (R:RS K Hc Hb H0 ρ σ H) {fr:Bool} {d:D} {v:V} (o:Out K fr (HeOf m ρ σ H0 H) H d v H') :
  ∃H0n,RS K Hc Hb H0n (z4r (keeps fr d) m ρ) σ H'/\Apt K fr Hb H0n (z4r (keeps fr d) m ρ) σ H' d v:=by
 obtain ⟨s,H0',e,r⟩:=o
 obtain ⟨H0n,R',tk,eq,hn,_⟩:=R.frame s e (keeps fr d)
 refine ⟨H0n,R',?_⟩
 unfold Apt
 cases fr with
 | false=>
  rw [if_neg Bool.false_ne_true] at r ⊢
  cases hk:keeps false d with
  | true=>exact r.tk tk (by simpa [keeps] using hk)
  | false=>rw [eq hk];exact r
 | true=>
  rw [if_pos rfl] at r ⊢
  obtain ⟨p,rfl,hp,hp0,ob⟩:=r
  refine ⟨p,rfl,hn p hp0,R.sb.none hp,?_,fun i e' q z=>?_⟩
  . cases hk:keeps true d with
    | true=>exact ob.tk (by simpa [keeps] using hk) tk
    | false=>rw [eq hk];exact ob
  . obtain ⟨a,h1,_,_,h4⟩:=R.ow i e' (z7a q).1
    rw [z] at h1;cases h1
    obtain ⟨u,hu,_⟩:=h4.some
    rw [hp] at hu;cases hu
theorem RS.outs (R:RS K Hc Hb H0 ρ σ H) {ds:List D} {vs:List V} {H0':Hp} (s:Same H H') (e:Ext (HeOf m ρ σ H0 H) H H0' H') (r:RDs K H0' ds vs) :
  ∃H0n,RS K Hc Hb H0n (z4r (z2t ds) m ρ) σ H'/\RDs K H0n ds vs:=by
 obtain ⟨H0n,R',tk,eq,hn,_⟩:=R.frame s e (z2t ds)
 refine ⟨H0n,R',?_⟩
 cases hk:z2t ds with
 | true=>exact r.tk tk hk
 | false=>rw [eq hk];exact r
noncomputable def zgq (fr:Bool) (i:Nat) (d:D) (ρ:DS):DS:=ρ.set i (if fr=true then .ow d else .im d)
theorem RS.put (R:RS K Hc Hb H0 ρ σ H) {fr:Bool} {d:D} {v:V} (a:Apt K fr Hb H0 ρ σ H d v) (i:Nat):RS K Hc Hb H0 (zgq fr i d ρ) (σ.set i (some v)) H:=by
 unfold zgq
 have other:∀{j:Nat} {s:Sl},j≠i->(ρ.set i s)[j]?=ρ[j]?:=fun {j s} h=>by rw [List.getElem?_set_ne (Ne.symm h)]
 have otherσ:∀{j:Nat},j≠i->(σ.set i (some v))[j]?=σ[j]?:=fun {j} h=>by rw [List.getElem?_set_ne (Ne.symm h)]
 have here:∀{s s':Sl},(ρ.set i s)[i]?=some s'->s'=s/\(σ.set i (some v))[i]?=some (some v):=fun {s s'} h=>by
  have hi:i<ρ.length:=by
   have:=(List.getElem?_eq_some_iff.mp h).1
   simpa using this
  rw [List.getElem?_set_self hi] at h
  cases h
  exact ⟨rfl,by rw [List.getElem?_set_self (by rw [<-R.len];exact hi)]⟩
 refine ⟨R.sb,R.ext,by rw [List.length_set,List.length_set];exact R.len,fun j d' q=>?_,fun j d' q=>?_,fun j k d1 d2 b q1 q2 z1 z2=>?_⟩
 . by_cases hj:j=i
   . subst hj
     obtain ⟨h1,h2⟩:=here q
     refine ⟨v,h2,?_⟩
     cases fr with
     | false=>
      rw [if_neg Bool.false_ne_true] at h1;cases h1
      unfold Apt at a
      rw [if_neg Bool.false_ne_true] at a;exact a
     | true=>rw [if_pos rfl] at h1;cases h1
   . rw [other hj] at q
     rw [otherσ hj];exact R.im j d' q
 . by_cases hj:j=i
   . subst hj
     obtain ⟨h1,h2⟩:=here q
     cases fr with
     | false=>rw [if_neg Bool.false_ne_true] at h1;cases h1
     | true=>
      rw [if_pos rfl] at h1;cases h1
      unfold Apt at a
      rw [if_pos rfl] at a
      obtain ⟨p,rfl,a1,a2,a3,_⟩:=a
      exact ⟨p,h2,a1,a2,a3⟩
   . rw [other hj] at q
     rw [otherσ hj];exact R.ow j d' q
 . by_cases hj:j=i
   . by_cases hk:k=i
     . rw [hj,hk]
     . subst hj
       obtain ⟨h1,h2⟩:=here q1
       rw [other hk] at q2
       rw [otherσ hk] at z2
       rw [h2] at z1
       cases fr with
       | false=>rw [if_neg Bool.false_ne_true] at h1;cases h1
       | true=>
        unfold Apt at a
        rw [if_pos rfl] at a
        obtain ⟨p,rfl,_,_,_,a4⟩:=a
        cases z1
        exact absurd z2 (a4 k d2 q2)
   . by_cases hk:k=i
     . subst hk
       obtain ⟨h1,h2⟩:=here q2
       rw [other hj] at q1
       rw [otherσ hj] at z1
       rw [h2] at z2
       cases fr with
       | false=>rw [if_neg Bool.false_ne_true] at h1;cases h1
       | true=>
        unfold Apt at a
        rw [if_pos rfl] at a
        obtain ⟨p,rfl,_,_,_,a4⟩:=a
        cases z2
        exact absurd z1 (a4 j d1 q1)
     . rw [other hj] at q1
       rw [other hk] at q2
       rw [otherσ hj] at z1
       rw [otherσ hk] at z2
       exact R.ap j k d1 d2 b q1 q2 z1 z2
end
inductive SR where
 | nx (ρ:DS) | bk (ρ:DS) | ct (ρ:DS) | rt (d:D) | er (x:Ex) | st
def SK (K:Frag) (EX:XW) (fr:Bool) (Hc Hb:Hp) (De:Ends):SR->Prop
 | .nx ρ=>∀σ H H0,RS K Hc Hb H0 ρ σ H->De.nx σ H
 | .bk ρ=>∀σ H H0,RS K Hc Hb H0 ρ σ H->De.bk σ H
 | .ct ρ=>∀σ H H0,RS K Hc Hb H0 ρ σ H->De.ct σ H
 | .rt d=>∀v H,Out K fr Hc Hb d v H->De.rt v H
 | .er x=>EX.at x
 | .st=>False
noncomputable def TSd (K:Frag) (EX:XW) (fr:Bool) (g:DS->SR):TS:=fun De σ H=>∃Hc Hb H0 ρ,Same EX.hb Hb/\RS K Hc Hb H0 ρ σ H/\SK K EX fr Hc Hb De (g ρ)
noncomputable def R.toS {α:Type} (r:R α) (k:α->SR):SR:=match r with
 | .ok a=>k a
 | .er x=>.er x
 | .st=>.st
noncomputable def sNx:DS->SR:=fun ρ=>.nx ρ
noncomputable def z28 (g1 g2:DS->SR):DS->SR:=fun ρ=>match g1 ρ with
 | .nx ρ'=>g2 ρ'
 | r=>r
noncomputable def see (ρ:DS):DE:=ρ.map (Sl.see true)
noncomputable def sIf (t:DE->R Bool) (g1 g2:DS->SR):DS->SR:=fun ρ=>(t (see ρ)).toS fun b=>if b=true then g1 ρ else g2 ρ
noncomputable def z3q (fr:Bool) (i:Nat) (m:List Bool) (f:DE->R D):DS->SR:=fun ρ=>(f (vis m ρ)).toS fun d=>.nx (zgq fr i d (z4r (keeps fr d) m ρ))
noncomputable def z61 (m:List Bool) (f:DE->R D):DS->SR:=fun ρ=>(f (vis m ρ)).toS fun d=>.rt d
noncomputable def zsh:DS->SR:=fun _=>.rt .non
noncomputable def zsi (i:Nat):DS->SR:=fun ρ=>match ρ[i]? with
 | some (.ow d)=>.rt d
 | _=>.st
noncomputable def zsj (f:DE->R D):DS->SR:=fun ρ=>(f (see ρ)).toS fun _=>.nx ρ
section
variable {K:Frag} {EX:XW} {fr:Bool} {Hc Hb H0 H H':Hp} {ρ:DS} {σ:St} {De:Ends} {m:List Bool}
theorem SK.toS {α:Type} {r:R α} {k:α->SR}:SK K EX fr Hc Hb De (r.toS k)=Rk EX.at r fun a=>SK K EX fr Hc Hb De (k a):=by cases r<;>rfl
theorem zdt:∀(ρ:DS),vis (List.replicate ρ.length true) ρ=see ρ
 | []=>rfl
 | s::r=>by
  show s.see true::vis (List.replicate r.length true) r=_
  rw [zdt r];rfl
theorem RS.extE (R:RS K Hc Hb H0 ρ σ H) (m:List Bool):Ext Hc Hb (HeOf m ρ σ H0 H) H:=
 ⟨R.ext.1.trans (R.he0 m),R.heH m,fun a h1 h2=>by
  have hb:¬Msk m ρ σ a:=fun z=>h1 (R.msk z).2.1
  rw [z2l hb];exact R.ext.2.2 a h1 h2⟩
theorem RS.te (I:RS K Hc Hb H0 ρ σ H) (sb:Same EX.hb Hb) {f:DE->R D} {fr':Bool} {k:D->Prop} {Q:VK} (h:Rk EX.at (f (vis m ρ)) k)
  (hk:∀d,k d->∀v H' H0n,RS K Hc Hb H0n (z4r (keeps fr' d) m ρ) σ H'->Apt K fr' Hb H0n (z4r (keeps fr' d) m ρ) σ H' d v->Q v H'):TEd K EX fr' f σ H Q:=
 ⟨sb.trans I.sb,vis m ρ,HeOf m ρ σ H0 H,I.heH m,I.re m,h.mono fun d z v H' o=>by
  obtain ⟨H0n,R',a⟩:=I.out o
  exact hk d z v H' H0n R' a⟩
theorem RS.tt (I:RS K Hc Hb H0 ρ σ H) (sb:Same EX.hb Hb) {f:DE->R Bool} {k:Bool->Prop} {Q:Bool->Hp->Prop} (h:Rk EX.at (f (see ρ)) k) (hk:∀b,k b->∀H',RS K Hc Hb H0 ρ σ H'->Q b H'):TTd K EX f σ H Q:=by
 refine ⟨sb.trans I.sb,see ρ,HeOf (List.replicate ρ.length true) ρ σ H0 H,I.heH _,?_,h.mono fun b z H' s=>hk b z H' (I.grow s)⟩
 rw [<-zdt];exact I.re _
theorem zvw (h:TSd K EX fr sNx De σ H):zjp De σ H:=by
 obtain ⟨Hc,Hb,H0,ρ,sb,R,h⟩:=h
 exact h σ H H0 R
theorem zke {g1 g2:DS->SR} (h:TSd K EX fr (z28 g1 g2) De σ H):zrm (TSd K EX fr g1) (TSd K EX fr g2) De σ H:=by
 obtain ⟨Hc,Hb,H0,ρ,sb,R,h⟩:=h
 refine ⟨Hc,Hb,H0,ρ,sb,R,?_⟩
 unfold z28 at h
 cases q:g1 ρ with
 | nx ρ'=>rw [q] at h;exact fun σ' H' H0' R'=>⟨Hc,Hb,H0',ρ',sb,R',h⟩
 | bk ρ'=>rw [q] at h;exact h
 | ct ρ'=>rw [q] at h;exact h
 | rt d=>rw [q] at h;exact h
 | er x=>rw [q] at h;exact h
 | st=>rw [q] at h;exact h
theorem zsk {t:DE->R Bool} {g1 g2:DS->SR} (h:TSd K EX fr (sIf t g1 g2) De σ H):zrn (TTd K EX t) (TSd K EX fr g1) (TSd K EX fr g2) De σ H:=by
 obtain ⟨Hc,Hb,H0,ρ,sb,R,h⟩:=h
 unfold sIf at h
 rw [SK.toS] at h
 refine R.tt sb h fun b h H' R'=>?_
 cases b with
 | true=>exact ⟨Hc,Hb,H0,ρ,sb,R',h⟩
 | false=>exact ⟨Hc,Hb,H0,ρ,sb,R',h⟩
theorem znn {i:Nat} {f:DE->R D} {fr':Bool} (h:TSd K EX fr (z3q fr' i m f) De σ H):zjq (TEd K EX fr' f) (z3n i) De σ H:=by
 obtain ⟨Hc,Hb,H0,ρ,sb,R,h⟩:=h
 unfold z3q at h
 rw [SK.toS] at h
 exact R.te sb h fun d h v H' H0n R' a=>h _ H' H0n (R'.put a i)
theorem zsl {f:DE->R D} (h:TSd K EX fr (z61 m f) De σ H):zuo (TEd K EX fr f) De σ H:=by
 obtain ⟨Hc,Hb,H0,ρ,sb,R,h⟩:=h
 unfold z61 at h
 rw [SK.toS] at h
 exact ⟨sb.trans R.sb,vis m ρ,HeOf m ρ σ H0 H,R.heH m,R.re m,h.mono fun d z v H' o=>z v H' (o.after R.sb (R.extE m))⟩
theorem RS.mutate (R:RS K Hc Hb H0 ρ σ H) {i:Nat} {d d':D} {a:Addr} {o:HO} (h:ρ[i]?=some (.ow d)) (ha:σ[i]?=some (some (.ref a))) (ob:OB K H0 (upd H a o) a d'):RS K Hc Hb H0 (ρ.set i (.ow d')) σ (upd H a o):=by
 obtain ⟨a',q1,q2,q3,q4⟩:=R.ow i d h
 rw [ha] at q1;cases q1
 have hi:i<ρ.length:=(List.getElem?_eq_some_iff.mp h).1
 have other:∀{j:Nat} {s:Sl},j≠i->(ρ.set i s)[j]?=ρ[j]?:=fun {j s} h=>by rw [List.getElem?_set_ne (Ne.symm h)]
 have here:(ρ.set i (.ow d'))[i]?=some (.ow d'):=by rw [List.getElem?_set_self hi]
 have sm:∀{H1:Hp},Same H1 H->H1 a=none->Same H1 (upd H a o):=fun s n=>s.upd_at n
 refine ⟨sm R.sb q3,⟨R.ext.1,sm R.ext.2.1 q2,R.ext.2.2⟩,by rw [List.length_set];exact R.len,fun j d2 q=>?_,fun j d2 q=>?_,fun j k d1 d2 b z1 z2=>?_⟩
 . have hj:j≠i:=fun z=>by subst z;rw [here] at q;cases q
   rw [other hj] at q
   exact R.im j d2 q
 . by_cases hj:j=i
   . subst hj
     rw [here] at q;cases q
     exact ⟨a,ha,q2,q3,ob⟩
   . rw [other hj] at q
     obtain ⟨b,h1,h2,h3,h4⟩:=R.ow j d2 q
     have hb:b≠a:=fun z=>hj (R.ap j i d2 d b q h h1 (by rw [z];exact ha))
     exact ⟨b,h1,h2,h3,h4.at (z07 hb)⟩
 . have back:∀{j:Nat} {d1:D},(ρ.set i (.ow d'))[j]?=some (.ow d1)->∃d0,ρ[j]?=some (.ow d0):=fun {j d1} z=>by
    by_cases hj:j=i
    . subst hj;exact ⟨d,h⟩
    . rw [other hj] at z;exact ⟨_,z⟩
   obtain ⟨e1,z1⟩:=back z1
   obtain ⟨e2,z2⟩:=back z2
   exact R.ap j k e1 e2 b z1 z2
def zsm (K:Frag) (mt:D->List D->Option D) (r:V->List V->Hp->VK->Prop):Prop:=∀(H0 H:Hp) (a:Addr) (d d':D) (ds:List D) (vs:List V) (Q:VK),Same H0 H->H0 a=none->OB K H0 H a d->RDs K H0 ds vs->mt d ds=some d' ->
 (∀v o,OB K H0 (upd H a o) a d'->Q v (upd H a o))->r (.ref a) vs H Q
noncomputable def isT (T:String):D->Bool
 | .lst _=>T=="list"
 | .dk _ _=>T=="dict"
 | .dt _ _=>T=="dict"
 | _=>false
def TyD (K:Frag) (T:String):Prop:=∀(H0 H:Hp) (a:Addr) (d:D),OB K H0 H a d->isT T d=true->tyV K T (.ref a) H
noncomputable def zno (T:String) (mt:D->List D->Option D) (i:Nat) (m:List Bool) (fs:DE->R (List D)):DS->SR:=fun ρ=>match ρ[i]? with
 | some (.ow d0)=>if isT T d0=true then (fs (vis m ρ)).toS fun ds=>match (z4r (z2t ds) m ρ)[i]? with
  | some (.ow d)=>(R.of (mt d ds)).toS fun d'=>.nx ((z4r (z2t ds) m ρ).set i (.ow d'))
  | _=>.st
  else .st
 | _=>.st
theorem zsn {T:String} {mt:D->List D->Option D} {r:V->List V->Hp->VK->Prop} {i:Nat} {fs:DE->R (List D)} (hm:zsm K mt r) (hT:TyD K T) (h:TSd K EX fr (zno T mt i m fs) De σ H) :
  z6x (tBM K T r (z63 i) (TAd K EX fs)) De σ H:=by
 obtain ⟨Hc,Hb,H0,ρ,sb,R,h⟩:=h
 unfold zno at h
 split at h
 . rename_i d0 q0
   split at h
   . rename_i hty
     rw [SK.toS] at h
     obtain ⟨a,h1,h2,h3,h4⟩:=R.ow i d0 q0
     unfold z6x tBM z63
     rw [h1]
     refine ⟨hT H0 H a d0 h4 hty,sb.trans R.sb,vis m ρ,HeOf m ρ σ H0 H,R.heH m,R.re m,h.mono fun ds h vs H' H0' s e rds=>?_⟩
     obtain ⟨H0n,R',rd'⟩:=R.outs s e rds
     split at h
     . rename_i d q
       rw [SK.toS] at h
       obtain ⟨d',hd',h⟩:=h.of
       obtain ⟨a',z1,z2,z3,z4⟩:=R'.ow i d q
       rw [h1] at z1;cases z1
       exact hm H0n H' a d d' ds vs _ R'.ext.2.1 z2 z4 rd' hd' fun v o ob=>h σ _ H0n (R'.mutate q h1 ob)
     . exact h.elim
   . exact h.elim
 . exact h.elim
noncomputable def zso (T:String) (mt:D->List D->Option D) (i:Nat):DS->SR:=fun ρ=>match ρ[i]? with
 | some (.ow d)=>if isT T d=true then (R.of (mt d [])).toS fun d'=>.nx (ρ.set i (.ow d')) else .st
 | _=>.st
def zv1 (K:Frag) (st:D->D->D->Option D) (r:zm7):Prop:=∀(H0 H:Hp) (a:Addr) (d d' dk dv:D) (y v:V) (Q:Hp->Prop),Same H0 H->H0 a=none->OB K H0 H a d->RD K H0 dk y->RD K H0 dv v->st d dk dv=some d' ->
 (∀o,OB K H0 (upd H a o) a d'->Q (upd H a o))->r (.ref a) y v H Q
noncomputable def zi6 (st:D->D->D->Option D) (i:Nat) (m:List Bool) (fk fv:DE->R D):DS->SR:=fun ρ=>(fv (vis m ρ)).toS fun dv=>match (z4r (keeps false dv) m ρ)[i]? with
 | some (.ow _)=>(fk (vis m (z4r (keeps false dv) m ρ))).toS fun dk=>(match (z4r (keeps false dk) m (z4r (keeps false dv) m ρ))[i]? with
  | some (.ow d)=>(R.of (st d dk dv)).toS fun d'=>.nx ((z4r (keeps false dk) m (z4r (keeps false dv) m ρ)).set i (.ow d'))
  | _=>.st)
 | _=>.st
theorem Apt.rd {ρ:DS} {d:D} {v:V} (a:Apt K false Hb H0 ρ σ H d v):RD K H0 d v:=by
 unfold Apt at a
 rw [if_neg Bool.false_ne_true] at a;exact a
end
section
variable {K:Frag} {EX:XW} {fr:Bool} {Hc Hb H0 H H':Hp} {ρ:DS} {σ:St} {De:Ends} {m:List Bool}
theorem znp {st:D->D->D->Option D} {r:zm7} {i:Nat} {fk fv:DE->R D} (hs:zv1 K st r) (h:TSd K EX fr (zi6 st i m fk fv) De σ H) :
  zjq (TEd K EX false fv) (zrc (z63 i) (TEd K EX false fk) r) De σ H:=by
 obtain ⟨Hc,Hb,H0,ρ,sb,I,h⟩:=h
 unfold zi6 at h
 rw [SK.toS] at h
 refine I.te sb h fun dv h v H1 H1n I1 a1=>?_
 split at h
 . rename_i d0 q0
   rw [SK.toS] at h
   obtain ⟨a,h1,h2,h3,h4⟩:=I1.ow i d0 q0
   unfold zrc z63
   rw [h1]
   refine ⟨sb.trans I1.sb,vis m _,HeOf m _ σ H1n H1,I1.heH m,I1.re m,h.mono fun dk h y H2 o2=>?_⟩
   obtain ⟨s2,H2',e2,r2⟩:=o2.rd
   obtain ⟨H2n,I2,tk,eq,hn,sub⟩:=I1.frame s2 e2 (keeps false dk)
   have r2':RD K H2n dk y:=by
    cases hk:keeps false dk with
    | true=>exact r2.tk tk (by simpa [keeps] using hk)
    | false=>rw [eq hk];exact r2
   split at h
   . rename_i d q
     rw [SK.toS] at h
     obtain ⟨d',hd',h⟩:=h.of
     obtain ⟨a',z1,z2,z3,z4⟩:=I2.ow i d q
     rw [h1] at z1;cases z1
     exact hs H2n H2 a d d' dk dv y v _ I2.ext.2.1 z2 z4 r2' (a1.rd.mono sub) hd' fun o ob=>h σ _ H2n (I2.mutate q h1 ob)
   . exact h.elim
 . exact h.elim
inductive Tg where
 | n (i:Nat) | t (is:List Nat)
noncomputable def zao:List Nat->List D->DS->DS
 | i::is,d::ds,ρ=>zao is ds (zgq false i d ρ)
 | _,_,ρ=>ρ
noncomputable def items:D->Option (List D)
 | .tup ds=>some ds
 | .lst ds=>some ds
 | _=>none
noncomputable def zi7:Tg->D->DS->Option DS
 | .n i,d,ρ=>some (zgq false i d ρ)
 | .t is,d,ρ=>(items d).bind fun ds=>if ds.length=is.length then some (zao is ds ρ) else none
noncomputable def TGd (K:Frag) (tg:Tg):TG:=fun v σ H Q=>∃Hc Hb H0 ρ d ρ',RS K Hc Hb H0 ρ σ H/\RD K H0 d v/\zi7 tg d ρ=some ρ'/\∀σ',RS K Hc Hb H0 ρ' σ' H->Q σ' H
theorem RS.putI (I:RS K Hc Hb H0 ρ σ H) {d:D} {v:V} (r:RD K H0 d v) (i:Nat):RS K Hc Hb H0 (zgq false i d ρ) (σ.set i (some v)) H:=
 I.put (fr:=false) (by unfold Apt;rw [if_neg Bool.false_ne_true];exact r) i
theorem zvx {i:Nat} {v:V} {Q:St->Hp->Prop} (h:TGd K (.n i) v σ H Q):z3n i v σ H Q:=by
 obtain ⟨Hc,Hb,H0,ρ,d,ρ',I,r,e,q⟩:=h
 simp only [zi7,Option.some.injEq] at e
 subst e
 exact q _ (I.putI r i)
noncomputable def z4l:List Nat->TGs
 | []=>zn7
 | i::is=>zi4 (z3n i) (z4l is)
theorem z5f:∀(is:List Nat) {ds:List D} {xs:List V} {ρ:DS} {σ:St} {Q:St->Hp->Prop},RS K Hc Hb H0 ρ σ H->RDs K H0 ds xs->ds.length=is.length->(∀σ',RS K Hc Hb H0 (zao is ds ρ) σ' H->Q σ' H)->z4l is xs σ H Q
 | [],[],_,ρ,σ,Q,I,r,_,q=>by
  simp only [RDs] at r;subst r
  exact q σ I
 | [],_::_,_,_,_,_,_,_,hl,_=>by simp at hl
 | _::_,[],_,_,_,_,_,_,hl,_=>by simp at hl
 | i::is,d::ds,_,ρ,σ,Q,I,r,hl,q=>by
  simp only [RDs] at r
  obtain ⟨x,xs,rfl,r1,r2⟩:=r
  exact z5f is (I.putI r1 i) r2 (by simpa using hl) q
theorem zv2 {is:List Nat} {v:V} {Q:St->Hp->Prop} (h:TGd K (.t is) v σ H Q):zbo is.length (z4l is) v σ H Q:=by
 obtain ⟨Hc,Hb,H0,ρ,d,ρ',I,r,e,q⟩:=h
 simp only [zi7] at e
 cases d<;>simp only [items,Option.bind_none,Option.bind_some] at e<;>first | cases e | skip
 . rename_i ds
   split at e
   . rename_i hl
     cases e
     simp only [RD] at r
     obtain ⟨a,xs,rfl,ha,rs⟩:=r
     unfold zbo
     simp only [I.ext.2.1 a _ ha]
     exact ⟨by rw [<-rs.length];exact hl,z5f is I rs hl q⟩
   . cases e
 . rename_i ds
   split at e
   . rename_i hl
     cases e
     simp only [RD] at r
     obtain ⟨a,xs,rfl,ha,rs⟩:=r
     unfold zbo
     simp only [I.ext.2.1 a _ ha]
     exact ⟨by rw [<-rs.length];exact hl,z5f is I rs hl q⟩
   . cases e
noncomputable def zvy (tg:Tg) (m:List Bool) (f:DE->R D):DS->SR:=fun ρ=>(f (vis m ρ)).toS fun d=>match zi7 tg d (z4r (keeps false d) m ρ) with
 | some ρ'=>.nx ρ'
 | none=>.st
noncomputable def Hno:Hp:=fun _=>none
def znq (K:Frag) (J:It) (H0:Hp) (ds:List D):Prop:=
 (∀(i:Nat) d,ds[i]?=some d->∀H H1,Same H0 H1->Same H1 H->J.go i H/\∀x H',J.yld i H x H'->Same H H'/\∃H1',Ext H1 H H1' H'/\RD K H1' d x)/\∀H,Same H0 H->J.stop ds.length H
noncomputable def TId (K:Frag) (EX:XW) (kp:Bool) (f:DE->R (List D)):TI:=fun σ H Q=>Same EX.hb H/\∃ρ H0,Same H0 H/\RE K H0 ρ σ/\Rk EX.at (f ρ) fun ds=>∀J H' H0',Same H H'->Ext H0 H H0' H'->znq K J (if kp=true then Hno else H0') ds->Q J H'
noncomputable def zbp (tg:Tg) (g:DS->SR):List D->DS->SR
 | [],ρ=>.nx ρ
 | d::ds,ρ=>match zi7 tg d ρ with
  | none=>.st
  | some ρ1=>match g ρ1 with
   | .nx ρ2=>zbp tg g ds ρ2
   | .ct ρ2=>zbp tg g ds ρ2
   | .bk ρ2=>.nx ρ2
   | .rt d=>.rt d
   | .er x=>.er x
   | .st=>.st
noncomputable def zap (kp:Bool) (m:List Bool) (f:DE->R (List D)) (tg:Tg) (g:DS->SR):DS->SR:=fun ρ=>(f (vis m ρ)).toS fun ds=>zbp tg g ds (z4r kp m ρ)
theorem Ext.base {Hc':Hp} (a:Ext Hc Hb Hc' H) (b:Ext Hc' Hb H0 H'):Ext Hc Hb H0 H':=⟨a.1.trans b.1,b.2.1,fun c h1 h2=>b.2.2 c h1 (a.2.2 c h1 h2)⟩
theorem RS.base {Hc' H1:Hp} (a:Ext Hc Hb Hc' H1) (I:RS K Hc' Hb H0 ρ σ H):RS K Hc Hb H0 ρ σ H:=⟨I.sb,a.base I.ext,I.len,I.im,I.ow,I.ap⟩
theorem RS.self (I:RS K Hc Hb H0 ρ σ H):RS K H0 Hb H0 ρ σ H:=⟨I.sb,⟨Same.refl _,I.ext.2.1,fun _ _ z=>z⟩,I.len,I.im,I.ow,I.ap⟩
theorem Out.base {Hc':Hp} {d:D} {v:V} (a:Ext Hc Hb Hc' H) (o:Out K fr Hc' Hb d v H'):Out K fr Hc Hb d v H':=by
 obtain ⟨s,H0',e,r⟩:=o
 exact ⟨s,H0',a.base e,r⟩
theorem RS.sees {H1':Hp} (I:RS K Hc Hb H0 ρ σ H) (s:Same H H') (e:Ext H0 H H1' H'):RS K Hc Hb H1' ρ σ H':=
 ⟨I.sb.trans s,⟨I.ext.1.trans e.1,e.2.1,fun a h1 h2=>e.2.2 a (I.sb.ne h1) (I.ext.2.2 a h1 h2)⟩,I.len,fun i d q=>by
  obtain ⟨v,h1,h2⟩:=I.im i d q
  exact ⟨v,h1,h2.mono e.1⟩,fun i d q=>by
  obtain ⟨a,h1,h2,h3,h4⟩:=I.ow i d q
  obtain ⟨u,hu,_⟩:=h4.some
  exact ⟨a,h1,e.2.2 a (z5c hu) h2,h3,h4.mono e.1 s⟩,I.ap⟩
theorem znr {kp:Bool} {f:DE->R (List D)} {tg:Tg} {g:DS->SR} (h:TSd K EX fr (zap kp m f tg g) De σ H):zde (TId K EX kp f) (TGd K tg) (TSd K EX fr g) De σ H:=by
 obtain ⟨Hc,Hb,H0,ρ,sb,I,h⟩:=h
 unfold zap at h
 rw [SK.toS] at h
 refine ⟨sb.trans I.sb,vis m ρ,HeOf m ρ σ H0 H,I.heH m,I.re m,h.mono fun ds h J H1 H1' s1 e1 it=>?_⟩
 obtain ⟨Hn,I1,tk,eq,hn,sub⟩:=I.frame s1 e1 kp
 have it':znq K J Hn ds:=by
  cases kp with
  | true=>
   rw [if_pos rfl] at it
   exact ⟨fun i d q H H1 a b=>it.1 i d q H H1 (fun _ _ z=>nomatch z) b,fun H a=>it.2 H fun _ _ z=>nomatch z⟩
  | false=>rw [if_neg Bool.false_ne_true,<-eq rfl] at it;exact it
 have ex1:Ext Hc Hb Hn H1:=I1.ext
 refine ⟨fun i mm σ H=>mm=ds.length - i/\i<=ds.length/\∃ρ H0,RS K Hn Hb H0 ρ σ H/\SK K EX fr Hc Hb De (zbp tg g (ds.drop i) ρ),⟨ds.length,by simp,Nat.zero_le _,_,Hn,I1.self,h⟩,?_⟩
 rintro i mm σ H ⟨rfl,hi,ρ,H0,I2,h⟩
 have sn:Same Hn H0:=I2.ext.1
 by_cases hlt:i<ds.length
 . have hd:ds[i]?=some ds[i]:=by simp [hlt]
   obtain ⟨hgo,hy⟩:=it'.1 i _ hd H H0 sn I2.ext.2.1
   have hdr:ds.drop i=ds[i]::ds.drop (i+1):=List.drop_eq_getElem_cons hlt
   rw [hdr] at h
   refine .inr ⟨hgo,fun σ' H'=>∃ρ' H0',RS K Hn Hb H0' ρ' σ' H'/\SK K EX fr Hc Hb De (zbp tg g (ds.drop (i+1)) ρ'),fun σ' H' ⟨ρ',H0',q⟩=>⟨ds.length - (i+1),by omega,rfl,hlt,ρ',H0',q⟩,fun x H' y=>?_⟩
   obtain ⟨s3,H3,e3,r3⟩:=hy x H' y
   have I3:=I2.sees s3 e3
   unfold zbp at h
   split at h
   . exact h.elim
   . rename_i ρ1 q1
     refine ⟨Hn,Hb,H3,ρ,ds[i],ρ1,I3,r3,q1,fun σ' I4=>⟨Hn,Hb,H3,ρ1,sb,I4,?_⟩⟩
     cases qg:g ρ1 with
     | nx ρ2=>rw [qg] at h;exact fun σ5 H5 H05 I5=>⟨ρ2,H05,I5,h⟩
     | ct ρ2=>rw [qg] at h;exact fun σ5 H5 H05 I5=>⟨ρ2,H05,I5,h⟩
     | bk ρ2=>rw [qg] at h;exact fun σ5 H5 H05 I5=>h σ5 H5 H05 (I5.base ex1)
     | rt d=>rw [qg] at h;exact fun v H5 o=>h v H5 (o.base ex1)
     | er x=>rw [qg] at h;exact h
     | st=>rw [qg] at h;exact h
 . have e:i=ds.length:=by omega
   subst e
   rw [List.drop_length] at h
   refine .inl ⟨it'.2 H (sn.trans I2.ext.2.1),?_⟩
   exact h σ H H0 (I2.base ex1)
noncomputable def R.noE {α:Type} (r:R α):R α:=match r with
 | .er _=>.st
 | r=>r
theorem Rk.noE {α:Type} {EX EX':Ex->Prop} {r:R α} {k:α->Prop} (h:Rk EX r.noE k):Rk EX' r k:=by
 cases r with
 | ok a=>exact h
 | er x=>exact h.elim
 | st=>exact h
def BD (K:Frag) (bn:D->Option (List D)) (B:V->Hp->(List V->Hp->Prop)->Prop):Prop:=∀(H0 H:Hp) (x:V) (d:D) (ds:List D) (Q:List V->Hp->Prop),Same H0 H->RD K H0 d x->bn d=some ds->(∀vs,RDs K H0 ds vs->Q vs H)->B x H Q
noncomputable def b1:D->Option (List D):=fun d=>some [d]
noncomputable def bT (n:Nat):D->Option (List D)
 | .tup ds=>if ds.length=n then some ds else none
 | _=>none
theorem zvz:BD K b1 cB1:=fun H0 H x d ds Q s r e q=>by
 simp only [b1,Option.some.injEq] at e
 subst e
 exact q [x] (.one r)
theorem zw0 {n:Nat}:BD K (bT n) (cBT n):=fun H0 H x d ds Q s r e q=>by
 cases d<;>simp only [bT] at e<;>first | cases e | skip
 rename_i es
 split at e
 . rename_i hl
   cases e
   simp only [RD] at r
   obtain ⟨a,xs,rfl,ha,rs⟩:=r
   unfold cBT
   simp only [s a _ ha]
   exact ⟨by rw [<-rs.length];exact hl,q xs rs⟩
 . cases e
noncomputable def sel (ix:List Nat) (ρ:DE):DE:=ix.map fun j=>(ρ[j]?).getD none
noncomputable def z3k (bn:D->Option (List D)) (t:DE->R Bool) (f:DE->R D) (cs:DE):List D->R (List D)
 | []=>.ok []
 | d::ds=>(R.of (bn d)).bind fun bs=>(t (bs.map some++cs)).noE.bind fun b=>if b=true then (f (bs.map some++cs)).noE.bind fun y=>(z3k bn t f cs ds).bind fun ys=>.ok (y::ys) else z3k bn t f cs ds
noncomputable def z14 (fi:DE->R (List D)) (bn:D->Option (List D)) (ix:List Nat) (t:DE->R Bool) (f:DE->R D):DE->R D:=fun ρ=>(fi ρ).bind fun ds=>if ds.length<=100000 then (z3k bn t f (sel ix ρ) ds).bind fun ys=>.ok (.lst ys) else .st
theorem RE.sel {ρ:DE} {vs:List V} {ds:List D} (h:RE K H0 ρ σ) (r:RDs K H0 ds vs) (ix:List Nat):RE K H0 (ds.map some++sel ix ρ) (vs.map some++zg7 ix σ):=by
 have hl:=r.length
 refine ⟨by simp [L2.sel,zg7,hl],fun i d e=>?_⟩
 by_cases hi:i<ds.length
 . rw [List.getElem?_append_left (by simpa using hi),List.getElem?_map] at e
   rw [List.getElem?_append_left (by simpa [<-hl] using hi),List.getElem?_map]
   cases q:ds[i]? with
   | none=>rw [q] at e;cases e
   | some d'=>
    rw [q] at e;cases e
    obtain ⟨x,h1,h2⟩:=r.get' q
    exact ⟨x,by rw [h1];rfl,h2⟩
 . rw [List.getElem?_append_right (by simpa using hi)] at e
   rw [List.getElem?_append_right (by simpa [<-hl] using hi)]
   simp only [List.length_map] at e ⊢
   rw [<-hl]
   unfold L2.sel at e
   unfold zg7
   rw [List.getElem?_map] at e ⊢
   cases q:ix[i - ds.length]? with
   | none=>rw [q] at e;cases e
   | some j=>
    rw [q] at e
    simp only [Option.map_some,Option.some.injEq] at e ⊢
    cases qj:ρ[j]? with
    | none=>rw [qj] at e;cases e
    | some o=>
     rw [qj] at e
     simp only [Option.getD_some] at e
     subst e
     obtain ⟨v,h1,h2⟩:=h.2 j d qj
     exact ⟨v,by rw [h1];rfl,h2⟩
theorem z2z {n:Nat} (h:n<100000):n<sizeLine:=Nat.lt_of_lt_of_le h (by decide)
theorem zi8 {kp:Bool} {fi:DE->R (List D)} {bn:D->Option (List D)} {B:V->Hp->(List V->Hp->Prop)->Prop} {ix:List Nat} {t:DE->R Bool} {f:DE->R D} {Q:VK} {tt:TT} (hB:BD K bn B) (htt:∀σ H Q,TTd K F0 t σ H Q->tt σ H Q)
  (h:TEd K EX true (z14 fi bn ix t f) σ H Q):zgh (TId K EX kp fi) B ix tt (TEd K F0 false f) σ H Q:=by
 obtain ⟨sx,ρ,H0,s,e,h⟩:=h
 unfold z14 at h
 rw [Rk.bind] at h
 refine ⟨sx,ρ,H0,s,e,h.mono fun ds h J H1 H1' s1 e1 it D hD=>?_⟩
 split at h
 . rename_i hsz
   rw [Rk.bind] at h
   have it':znq K J H1' ds:=by
    cases kp with
    | true=>rw [if_pos rfl] at it;exact ⟨fun i d q H H1 a b=>it.1 i d q H H1 (fun _ _ z=>nomatch z) b,fun H a=>it.2 H fun _ _ z=>nomatch z⟩
    | false=>rw [if_neg Bool.false_ne_true] at it;exact it
   have e':=e.mono e1.1
   have hDn:H1' D=none:=e1.2.1.none hD
   refine ⟨fun i mm ys H2=>mm=ds.length - i/\i<=ds.length/\ys.length<=i/\∃acc H2',Same H1 H2/\H2 D=some (.lst ys)/\Ext H1' H1 H2' H2/\H2' D=none/\RDs K H2' acc ys /\
    Rk EX.at (z3k bn t f (L2.sel ix ρ) (ds.drop i)) fun rest=>∀v H',Out K true H0 H (.lst (acc++rest)) v H'->Q v H',⟨ds.length,by simp,Nat.zero_le _,Nat.le_refl _,[],H1',Same.upd_new hD,z0e,(Ext.refl e1.2.1).grow (Same.upd_new hD),hDn,.nil,h⟩,?_⟩
   rintro i mm ys H2 ⟨rfl,hi,hys,acc,H2',s2,hd2,e2,hdn2,r2,h⟩
   refine ⟨hd2,?_⟩
   by_cases hlt:i<ds.length
   . have hd:ds[i]?=some ds[i]:=by simp [hlt]
     obtain ⟨hgo,hy⟩:=it'.1 i _ hd H2 H2' e2.1 e2.2.1
     have hdr:ds.drop i=ds[i]::ds.drop (i+1):=List.drop_eq_getElem_cons hlt
     rw [hdr] at h
     unfold z3k at h
     rw [Rk.bind] at h
     obtain ⟨bs,hbs,h⟩:=h.of
     rw [Rk.bind] at h
     refine .inr ⟨hgo,fun x H3 y=>?_⟩
     obtain ⟨s3,H3',e3,r3⟩:=hy x H3 y
     refine hB H3' H3 x _ bs _ e3.2.1 r3 hbs fun vs rvs=>?_
     have en:=(e'.mono (e2.1.trans e3.1)).sel rvs ix
     have e23:=e2.trans s2 e3
     refine htt _ _ _ ⟨F0.same _,_,H3',e3.2.1,en,(Rk.noE h).mono fun b h H4 s4=>?_⟩
     have s14:=s2.trans (s3.trans s4)
     have hd4:H4 D=some (.lst ys):=s4 _ _ (s3 _ _ hd2)
     have hdn3:H3' D=none:=e3.2.2 D (z5c hd2) hdn2
     have e14:Ext H1' H1 H3' H4:=e23.grow s4
     cases b with
     | false=>
      rw [if_neg Bool.false_ne_true] at h
      dsimp only
      rw [if_neg Bool.false_ne_true]
      exact ⟨ds.length - (i+1),by omega,rfl,hlt,by omega,acc,H3',s14,hd4,e14,hdn3,r2.mono e3.1,h⟩
     | true=>
      rw [if_pos rfl] at h
      dsimp only
      rw [if_pos rfl]
      rw [Rk.bind] at h
      refine ⟨F0.same _,_,H3',e14.2.1,en,(Rk.noE h).mono fun y h w H5 o5=>?_⟩
      obtain ⟨s5,H5',e5,r5⟩:=o5.rd
      have hd5:H5 D=some (.lst ys):=s5 _ _ hd4
      have hdn5:H5' D=none:=e5.2.2 D (z5c hd4) hdn3
      have e15:=e14.trans s14 e5
      rw [Rk.bind] at h
      refine ⟨hd5,z2z (by omega),ds.length - (i+1),by omega,rfl,hlt,by rw [List.length_append];show ys.length+1<=i+1;omega,acc++[y],H5',(s14.trans s5).upd_at hD,z0e,⟨e15.1,e15.2.1.upd_at hdn5,e15.2.2⟩,hdn5,((r2.mono (e3.1.trans e5.1))).append (.one r5),?_⟩
      exact h.mono fun rest h v H' o=>h v H' (by simpa using o)
   . have ei:i=ds.length:=by omega
     subst ei
     rw [List.drop_length] at h
     refine .inl ⟨it'.2 H2 (e2.1.trans e2.2.1),h _ H2 ?_⟩
     rw [List.append_nil]
     refine Out.after s1 e1 (.fresh s2 e2 hD hdn2 ?_)
     simp only [OB]
     exact ⟨ys,hd2,r2⟩
 . exact h.elim
noncomputable def mOf (fr:Bool) (n k:Nat) (g:DS->SR):List D->R D:=fun ds=>if ds.length=n then (match g (ds.map .im++List.replicate k .em) with
 | .rt d=>.ok d
 | .nx _=>if fr=true then .st else .ok .non
 | .er x=>.er x
 | _=>.st) else .st
def xNm (mg:Str->Option Value) (E:XK) (x:Ex) (H:Hp):Prop:=∃C,mg (x.cls:Str)=some (.ref C)/\E (.ref C) none H
noncomputable def spD (K:Frag) (mg:Str->Option Value) (fr:Bool) (m:List D->R D) (n:Nat):Sp:=fun vs H Q E=>∃ds H0,Same H0 H/\RDs K H0 ds vs/\ds.length=n/\Rk (XW.at ⟨H,xNm mg E⟩) (m ds) fun d=>∀v H',Out K fr H0 H d v H'->Q v H'
noncomputable def z8h (sp:Sp) (E:XK) (t:TA):TE:=fun σ H Q=>t σ H fun vs H1=>sp vs H1 Q E
theorem zns {mg:Str->Option Value} {E:XK} {m:List D->R D} {n:Nat} {fs:DE->R (List D)} {Q:VK} (hl:∀ds,ds.length≠n->m ds=.st) (hE:∀x H,EX.p x H->xNm mg E x H) (h:TEd K EX fr (z1n m fs) σ H Q):z8h (spD K mg fr m n) E (TAd K EX fs) σ H Q:=by
 obtain ⟨sx,ρ,H0,s,e,h⟩:=h
 unfold z1n at h
 rw [Rk.bind] at h
 refine TAd.go sx s e h fun ds h vs H1 H1' s1 e1 r1=>?_
 refine ⟨ds,H1',e1.2.1,r1,?_,?_⟩
 . apply Classical.byContradiction
   intro hn
   rw [hl ds hn] at h
   exact h
 . cases q:m ds with
   | ok d=>rw [q] at h;exact fun v H' o=>h v H' (o.after s1 e1)
   | er x=>rw [q] at h;exact fun H' s'=>hE x H' (h H' ((sx.trans s1).trans s'))
   | st=>rw [q] at h;exact h
theorem zkf {n k:Nat} {g:DS->SR} (ds:List D) (h:ds.length≠n):mOf fr n k g ds=.st:=by unfold mOf;rw [if_neg h]
theorem zgr {vs:List V} {ds:List D} (s:Same H0 H) (r:RDs K H0 ds vs) (k:Nat):RS K H0 H H0 (ds.map .im++List.replicate k .em) (vs.map some++List.replicate k none) H:=by
 have hl:=r.length
 have noow:∀(i:Nat) d,(ds.map Sl.im++List.replicate k Sl.em)[i]?≠some (.ow d):=fun i d q=>by
  rcases List.mem_append.mp (List.mem_of_getElem? q) with z | z
  . obtain ⟨_,_,z⟩:=List.mem_map.mp z;cases z
  . have:=(List.mem_replicate.mp z).2;cases this
 refine ⟨Same.refl _,.refl s,by simp [hl],fun i d q=>?_,fun i d q=>absurd q (noow i d),fun i j d e a q=>absurd q (noow i d)⟩
 by_cases hi:i<ds.length
 . rw [List.getElem?_append_left (by simpa using hi),List.getElem?_map] at q
   rw [List.getElem?_append_left (by simpa [<-hl] using hi),List.getElem?_map]
   cases qd:ds[i]? with
   | none=>rw [qd] at q;cases q
   | some d'=>
    rw [qd] at q
    simp only [Option.map_some,Option.some.injEq,Sl.im.injEq] at q
    subst q
    obtain ⟨x,h1,h2⟩:=r.get' qd
    exact ⟨x,by rw [h1];rfl,h2⟩
 . rw [List.getElem?_append_right (by simpa using hi)] at q
   have:=(List.mem_replicate.mp (List.mem_of_getElem? q)).2
   cases this
theorem znt {n k:Nat} {g:DS->SR} {vs:List V} {Q:VK} {E:XK} {mg:Str->Option Value} (h:spD K mg fr (mOf fr n k g) n vs H Q E) :
  TSd K ⟨H,xNm mg E⟩ fr g { nx:=fun _ H'=>Q .non H',rt:=Q } (vs.map some++List.replicate k none) H:=by
 obtain ⟨ds,H0,s,r,hn,h⟩:=h
 refine ⟨H0,H,H0,_,Same.refl _,zgr s r k,?_⟩
 unfold mOf at h
 rw [if_pos hn] at h
 cases q:g (ds.map .im++List.replicate k .em) with
 | nx ρ=>
  rw [q] at h
  cases fr with
  | true=>exact h.elim
  | false=>exact fun σ H' H0' I=>h _ H' (.val I.sb I.ext (by simp only [RD]))
 | rt d=>rw [q] at h;exact h
 | er x=>rw [q] at h;exact h
 | bk ρ=>rw [q] at h;exact h.elim
 | ct ρ=>rw [q] at h;exact h.elim
 | st=>rw [q] at h;exact h.elim
end
theorem ObjOk.there {P:Program} {w:World} {H:Hp} {h:Heap} {a:Addr} {o:HO} (x:ObjOk P w H h a o):∃ob,h.get? a=some ob:=by
 induction o with
 | lst xs=>obtain ⟨_,_,_,_,e⟩:=x;exact ⟨_,e⟩
 | tup xs=>obtain ⟨_,_,_,ob,e,_⟩:=x;exact ⟨_,e⟩
 | dK kvs=>obtain ⟨_,_,_,_,o,_,_,e,_⟩:=x;exact ⟨_,e⟩
 | dT kvs=>obtain ⟨_,_,_,_,o,_,_,e,_⟩:=x;exact ⟨_,e⟩
 | set S n=>obtain ⟨o,_,_,_,e,_⟩:=x;exact ⟨_,e⟩
 | ins C dx fs=>obtain ⟨_,_,_,e,_⟩:=x;exact ⟨_,e⟩
 | own y=>exact x
 | xd fs=>obtain ⟨_,⟨_,_,_,e,_⟩,_⟩:=x;exact ⟨_,e⟩
 | rng lo hi=>obtain ⟨_,_,_,e⟩:=x;exact ⟨_,e⟩
 | frz ob u ih=>exact ⟨_,x.1⟩
 | tbl ps=>exact ⟨_,x⟩
 | met f y=>exact ⟨_,x⟩
 | ext φ=>exact x.2.1
theorem HOk.none {P:Program} {w:World} {H:Hp} {h:Heap} {a:Addr} (x:HOk P w H h) (e:h.get? a=Option.none):H a=Option.none:=by
 cases q:H a with
 | none=>rfl
 | some o=>
  obtain ⟨ob,z⟩:=(x a o q).there
  rw [e] at z;cases z
def Fly (h0:Heap) (H':Hp) (C a:Addr) (h:Heap):Prop:=∃oe vs T oT ts a0,h.get? a=some oe/\oe.cls=.ref C/\vs[0]?=some a0/\oe.data=.fields vs/\vs[1]?=some (.ref T)/\T≠a/\h.get? T=some oT/\oT.data=.fields ts/\ts[3]?=some Value.none /\
 h0.get? a=none/\h0.get? T=none/\H' a=none/\H' T=none
structure XOut (P:Program) (w:World) (outer:List Env) (H:Hp) (s:Shared) (C a:Addr) (H':Hp) (s':Shared):Prop where
 os:s'.os=s.os
 bare:AllBare s'.gens
 un:Un (frs outer) [] H H' s.heap s'.heap
 hok:HOk P w H' s'.heap
 fly:Fly s.heap H' C a s'.heap
noncomputable def CX1 (P:Program) (w:World):CXT:=fun outer H s E e s'=>∃C a H',e=.ref a/\XOut P w outer H s C a H' s'/\E (.ref C) none H'
theorem z8i {l:List Addr} {h:Heap} {b:Addr} (e:(hideAll h l).get? b=none):b∈l\/h.get? b=none:=by
 by_cases hb:b∈l
 . exact .inl hb
 . cases q:h.get? b with
   | none=>exact .inr rfl
   | some o=>rw [hideAll_get l q hb] at e;cases e
section
variable {X:Cx} {pins:List (Addr×Obj)} {σ:List (Option V)} {H1 H2:Hp} {s1 s2:Shared} {h' B:Heap} {Z:List Addr} {C a:Addr} {a0:Value}
theorem Inv.stack2 (I:Inv X pins σ H1 s1) (un:Un (frs X.stack) [] H1 H2 s1.heap s2.heap):s2.heap.FunFrames X.base X.stack:=by
 have all:∀(l:List Env),(∀b∈frs l,b∈frs X.stack)->s1.heap.FunFrames X.base l->s2.heap.FunFrames X.base l:=by
  intro l
  induction l with
  | nil=>intro _ _;trivial
  | cons env r ih=>
   intro hs hl
   obtain ⟨hk,⟨L,o,hf,hn,ho,hd⟩,hr⟩:=hl
   have hL:L∈frs X.stack:=hs L (by unfold frs;rw [List.filterMap_cons,hf];exact List.mem_cons_self)
   obtain ⟨sl,e⟩:=un.slot L o ho (I.stkFree L hL) hL (by simp)
   exact ⟨hk,⟨L,_,hf,hn,e,hd⟩,ih (fun b hb=>hs b (by unfold frs;rw [List.filterMap_cons,hf];exact List.mem_cons_of_mem _ hb)) hr⟩
 exact all X.stack (fun _ hb=>hb) I.stack
theorem z6h (I:Inv X pins σ H1 s1) (hst:X.stack=X.env::X.outer) (hex:X.ex=[]) (hos:s2.os=s1.os) (hbare:AllBare s2.gens) (un:Un (frs X.stack) [] H1 H2 s1.heap s2.heap) (hok:HOk X.prog X.w H2 s2.heap)
  (hZ:∀b∈Z,s1.heap.get? b=none/\H2 b=none) (ha:s1.heap.get? a=none) (hHa:H2 a=none) (keep:∀b o,s2.heap.get? b=some o->b∉Z->b∉frs X.stack->h'.get? b=some o)
  (up:s2.heap.UpToSlots h') (hB:∀b,B.get? b=none->b∈frs X.stack\/(s1.heap.get? b=none/\H2 b=none)) (hfl:Heap.FlyingW B X.outer a (.ref C) a0 h') :
  XOut X.prog X.w X.outer X.H₀ X.s₀ C a H2 { s2 with heap:=h' }:=by
 have base:Un X.fs [] X.H₀ H1 X.s₀.heap s1.heap:=hex ▸ I.base
 have F2:=I.stack2 un
 have sub:∀b∈frs X.outer,b∈frs X.stack:=fun b hb=>by
  rw [hst];unfold frs
  cases q:X.env.frame with
  | none=>rw [List.filterMap_cons,q];exact hb
  | some L=>rw [List.filterMap_cons,q];exact List.mem_cons_of_mem _ hb
 have neL:∀b o,X.s₀.heap.get? b=some o->b≠X.env.locals:=fun b o e=>Nat.ne_of_lt (Nat.lt_of_lt_of_le (Heap.lt_size e) I.ok.above)
 have nost:∀b o,X.s₀.heap.get? b=some o->b∉frs X.outer->b∉frs X.stack:=fun b o e hb z=>(List.mem_cons.mp (I.stkSub b z)).elim (neL b o e) hb
 have fresh0:∀b,s1.heap.get? b=none->X.s₀.heap.get? b=none:=fun b e=>by
  cases q:X.s₀.heap.get? b with
  | none=>rfl
  | some o=>
   obtain ⟨o',z⟩:=base.there b o q (by simp)
   rw [e] at z;cases z
 have noZ:∀b o,X.s₀.heap.get? b=some o->b∉Z:=fun b o e hb=>by
  rw [fresh0 b (hZ b hb).1] at e;cases e
 have frFree:∀b∈frs X.stack,H2 b=none:=fun b hb=>by
  obtain ⟨_,o,ho,_⟩:=I.stack.mem hb
  exact un.free b o ho (I.stkFree b hb) (by simp)
 have slotF:∀b∈frs X.stack,∀o,s2.heap.get? b=some o->∃sl,h'.get? b=some { o with slots:=sl }:=fun b hb o e=>by
  obtain ⟨_,o',ho',hd⟩:=F2.mem hb
  rw [e] at ho';cases ho'
  exact up b o e hd
 refine ⟨by show s2.os=_;rw [hos,I.os],hbare,⟨fun b o e n hb _=>?_,fun b o e n hb _=>?_,fun b o e n _=>?_,fun b o e _=>?_,fun b xs e=>un.tups b xs (base.tups b xs e),fun b o u e=>un.frzs b o u (base.frzs b o u e),fun b ps e=>?_⟩,fun b o e=>?_,?_⟩
 . exact keep b o (un.keep b o (base.keep b o e n hb (by simp)) (base.free b o e n (by simp)) (nost b o e hb) (by simp)) (noZ b o e) (nost b o e hb)
 . obtain ⟨sl,e1⟩:=base.slot b o e n hb (by simp)
   obtain ⟨sl2,e2⟩:=un.slot b _ e1 (base.free b o e n (by simp)) (sub b hb) (by simp)
   obtain ⟨sl3,e3⟩:=slotF b (sub b hb) _ e2
   exact ⟨sl3,e3⟩
 . obtain ⟨o1,e1⟩:=base.there b o e (by simp)
   exact un.free b o1 e1 (base.free b o e n (by simp)) (by simp)
 . obtain ⟨o1,e1⟩:=base.there b o e (by simp)
   obtain ⟨o2,e2⟩:=un.there b o1 e1 (by simp)
   by_cases hb:b∈frs X.stack
   . obtain ⟨sl,e3⟩:=slotF b hb _ e2
     exact ⟨_,e3⟩
   . exact ⟨o2,keep b o2 e2 (noZ b o e) hb⟩
 . obtain ⟨m1,e1⟩:=base.tbls b ps e
   obtain ⟨m2,e2⟩:=un.tbls b _ e1
   exact ⟨m1++m2,by rw [e2,Array.append_assoc]⟩
 . refine (hok b o e).stay (fun c v hc q=>keep c v q (fun hz=>?_) fun hf=>?_) (fun _ q=>q) fun _ _ q=>q
   . have:=(hZ c hz).2
     rcases hc with rfl | hc
     . rw [e] at this;cases this
     . rw [hc] at this;cases this
   . have:=frFree c hf
     rcases hc with rfl | hc
     . rw [e] at this;cases this
     . rw [hc] at this;cases this
 . obtain ⟨_,_,_,oe,vs,T,oT,ts,he,⟨hc,h0⟩,hd,h1,hnT,hTe,hT,hdT,h3⟩:=hfl
   have hTn:s1.heap.get? T=none/\H2 T=none:=by
    rcases hB T hnT with z | z
    . obtain ⟨_,o',ho',hd'⟩:=F2.mem z
      obtain ⟨sl,e3⟩:=slotF T z o' ho'
      rw [hT] at e3;cases e3
      exact absurd hdT (hd' ts)
    . exact z
   exact ⟨oe,vs,T,oT,ts,a0,he,hc,h0,hd,h1,hTe,hT,hdT,h3,fresh0 a ha,fresh0 T hTn.1,hHa,hTn.2⟩
theorem zgs (I:Inv X pins σ H1 s1) (hst:X.stack=X.env::X.outer) (hex:X.ex=[]) (hf:X.env.frame=some X.env.locals) (x:XOut X.prog X.w X.stack H1 s1 C a H2 s2) {E:Value->Shared->Prop} {Q:Unit->Shared->Prop}
  (h:∀s',XOut X.prog X.w X.outer X.H₀ X.s₀ C a H2 s'->Q () s'):wpAny (model X.prog X.w) X.A (leaving X.env (.ref a)) Q E s2:=by
 obtain ⟨oe,vs,T,oT,ts,a0,he,hc,h0,hd,h1,hTe,hT,hdT,h3,na,nT,ha,hHT⟩:=id x.fly
 have F2:=I.stack2 x.un
 have hin:∀env∈X.stack,∀b,env.frame=some b->b∈a::T::frs X.stack:=fun env he b hb=>List.mem_cons_of_mem _ (List.mem_cons_of_mem _ (List.mem_filterMap.mpr ⟨env,he,hb⟩))
 have hfr:X.A.frames=some (X.env::X.outer):=by rw [<-hst];exact I.ok.frames
 refine wpAny_leaves_onW (base:=hideAll s2.heap (a::T::frs X.stack)) (cls:=.ref C) (a0:=a0) hfr hf ⟨fun b o q=>PySem.W.of_hideAll _ q,PySem.W.hideAll_none _ (.head _),hst ▸ PySem.W.funFrames_hide F2 hin,?_⟩ fun h' hfl up=>h _ (z6h (Z:=[a,T]) I hst hex x.os x.bare x.un x.hok (fun b hb=>?_) na ha (fun b o q hz hfs=>hfl.1 b o (hideAll_get _ q ?_)) up (fun b q=>?_) hfl)
 . exact ⟨oe,vs,T,oT,ts,he,⟨hc,h0⟩,hd,h1,PySem.W.hideAll_none _ (.tail _ (.head _)),hTe,hT,hdT,h3⟩
 . rcases List.mem_cons.mp hb with rfl | hb
   . exact ⟨na,ha⟩
   . have:b=T:=by simpa using hb
     subst this;exact ⟨nT,hHT⟩
 . intro z
   rcases List.mem_cons.mp z with rfl | z
   . exact hz (.head _)
   . rcases List.mem_cons.mp z with rfl | z
     . exact hz (.tail _ (.head _))
     . exact hfs z
 . rcases z8i q with z | z
   . rcases List.mem_cons.mp z with rfl | z
     . exact .inr ⟨na,ha⟩
     . rcases List.mem_cons.mp z with rfl | z
       . exact .inr ⟨nT,hHT⟩
       . exact .inl z
   . refine .inr ⟨?_,x.hok.none z⟩
     cases q1:s1.heap.get? b with
     | none=>rfl
     | some o=>
      obtain ⟨o',e'⟩:=x.un.there b o q1 (by simp)
      rw [z] at e';cases e'
theorem zbq (I:Inv X pins σ H1 s1) (hst:X.stack=X.env::X.outer) (hex:X.ex=[]) (hf:X.env.frame=some X.env.locals) {args:List Value} (hx:Heap.MadeExcOf s1.heap s2.heap a (.ref C) args) (hos:s2.os=s1.os) (hbare:AllBare s2.gens) {E:Value->Shared->Prop} {Q:Unit->Shared->Prop}
  (h:∀s',XOut X.prog X.w X.outer X.H₀ X.s₀ C a H1 s'->Q () s'):wpAny (model X.prog X.w) X.A (leaving X.env (.ref a)) Q E s2:=by
 have hin:∀env∈X.stack,∀b,env.frame=some b->b∈frs X.stack:=fun env he b hb=>List.mem_filterMap.mpr ⟨env,he,hb⟩
 have hfr:X.A.frames=some (X.env::X.outer):=by rw [<-hst];exact I.ok.frames
 obtain ⟨t,het,htn,ht⟩:=hx.there
 refine wpAny_leaves_madeW (base:=hideAll s1.heap (frs X.stack)) (h:=s1.heap) hfr hf (fun b o q=>PySem.W.of_hideAll _ q) (hst ▸ PySem.W.funFrames_hide I.stack hin) hx fun h' t' hfl htup htb up=>h _ ?_
 refine z6h (B:=hideAll s1.heap (frs X.stack)) (Z:=s2.heap.objs.size::(List.range s2.heap.objs.size).filter fun b=>(s1.heap.get? b).isNone) I hst hex hos hbare (Un.kept hx.keeps) (I.hok.kept hx.keeps) (fun b hb=>?_) hx.new (I.hok.none hx.new) (fun b o q hz hfs=>?_) up (fun b q=>?_) hfl
 . rcases List.mem_cons.mp hb with rfl | hb
   . have e:s1.heap.get? s2.heap.objs.size=none:=by
      cases q:s1.heap.get? s2.heap.objs.size with
      | none=>rfl
      | some o=>exact absurd (Heap.lt_size (hx.keeps _ o q)) (Nat.lt_irrefl _)
     exact ⟨e,I.hok.none e⟩
   . have e:=(List.mem_filter.mp hb).2
     have e:s1.heap.get? b=none:=by simpa using e
     exact ⟨e,I.hok.none e⟩
 . cases e:s1.heap.get? b with
   | none=>exact absurd (.tail _ (List.mem_filter.mpr ⟨List.mem_range.mpr (Heap.lt_size q),by simp [e]⟩)) hz
   | some o'=>
    have:=hx.keeps b o' e
    rw [q] at this;cases this
    exact hfl.1 b o (hideAll_get _ e hfs)
 . rcases z8i q with z | z
   . exact .inl z
   . exact .inr ⟨z,I.hok.none z⟩
end
noncomputable def eOf (EX:XW) (mg:Str->Option Value):XK:=fun cv _ H=>∃x:Ex,EX.p x H/\mg (x.cls:Str)=some cv
structure Lnd (X:Cx) (EX:XW):Prop where
 nm:∀x H,EX.p x H->∃C,X.mg (x.cls:Str)=some (.ref C)
 on:zac (CX1 X.prog X.w) X (eOf EX X.mg)
 md:∀(pins:List (Addr×Obj)) (σ:St) (H:Hp) (s:Shared) (a C:Addr) (s':Shared) (x:Ex) (args:List Value),Inv X pins σ H s->Heap.MadeExcOf s.heap s'.heap a (.ref C) args->s'.os=s.os->AllBare s'.gens->X.mg (x.cls:Str)=some (.ref C)->EX.p x H->X.xe (.ref a) s'
theorem zv3 {X:Cx}:Lnd X F0:=⟨fun _ _ z=>z.elim,fun _ _ _ _ _ _ _ ⟨_,_,_,_,_,_,z,_⟩=>z.elim,fun _ _ _ _ _ _ _ _ _ _ _ _ _ _ z=>z.elim⟩
theorem z8j {P:Program} {w:World} {K:Frag} {mg:Str->Option Value} {base:Heap} {N:List Str} {qual:Str} {sc:Scope} {f:Addr} {cdv:Value} {A:Around} {outer:List Env} {s:Shared} {H:Hp} {E:XK} :
  Lnd (zg6 (CX1 P w) P w K mg base N qual sc f cdv A outer s H E) ⟨H,xNm mg E⟩:=by
 refine ⟨fun x H ⟨C,hC,_⟩=>⟨C,hC⟩,?_,?_⟩
 . rintro pins σ H1 s1 e s' I ⟨C,a,H',rfl,xo,x,⟨C',hC',hE⟩,hmg⟩
   have hmg:mg (x.cls:Str)=some (.ref C):=hmg
   rw [hC'] at hmg
   cases hmg
   exact zgs I rfl rfl rfl xo fun s'' y=>⟨_,a,H',rfl,y,hE⟩
 . rintro pins σ H1 s1 a C s' x args I hx ho hb hmg ⟨C',hC',hE⟩
   have hmg:mg (x.cls:Str)=some (.ref C):=hmg
   rw [hC'] at hmg
   cases hmg
   exact zbq I rfl rfl rfl hx ho hb fun s'' y=>⟨_,a,H1,rfl,y,hE⟩
def z5g (P:Program) (w:World) (K:Frag) (mg:Str->Option Value) (base:Heap) (x:Str) (ps:List Str) (k:Nat) (sp:Sp):Prop:=
 ∃f fd,FnOk P w K mg base (CX1 P w) k f fd ps sp/\Binds K fd ps []/\mg x=some (.ref f)/\keepIn K (.ref f)=true
section
variable {X:Cx} {x:Str} {p pos:Pos} {e:Expr} {es:List Expr} {t:TA} {ps:List Str} {k j:Nat} {sp:Sp} {E:XK}
theorem zdu (G:z5g X.prog X.w X.K X.mg X.base x ps k sp) (hx:zac (CX1 X.prog X.w) X E) (hr:Room j X.A) (hg:Gl X x) (ha:PA X (e::es) t) (hkj:k<=j:=by omega) (hdb:(x==("__debug__":Str))=false:=by decide)
  (he:starEach (e::es) X.env=(false,eval e X.env)::starEach es X.env:=by rfl) (hpl:(backTo pos (starEach es X.env)).any (·.1)=false:=by rfl):PE X (.Call (.Name x p) (e::es) [] pos) (z8h sp E t):=by
 obtain ⟨f,fd,F,b,m,kp⟩:=G
 refine (zjw F (hr.mono hkj) hg m kp b .nil hx ha hdb he hpl).imp fun σ H Q q=>?_
 unfold zmu
 unfold z8h at q
 simpa only [List.append_nil] using q
end
theorem Fun.okX {P:Program} {w:World} {K:Frag} {mg:Str->Option Value} {base:Heap} {x qual:Str} {st:Stmt} {f:Addr} {fd:FuncData} {N ps:List Str} {k:Nat} {sp:Sp} {CX:CXT} (F:Fun K x qual st f fd) (S:FnScope N ps (z02 st)) (len:∀vs H Q E,sp vs H Q E->vs.length=ps.length)
  (hbody:∀(cdv:Value) (A:Around) (outer:List Env) (s:Shared) (H:Hp) (vs:List V) (Q:VK) (E:XK),Room k (A.deeper (envOfC qual (z02 st) s.heap.objs.size f cdv))->sp vs H Q E ->
   ∃t,PSs (zg6 CX P w K mg base N qual (z02 st) f cdv A outer s H E) (z0k st) t/\t { nx:=fun _ H'=>Q .non H',rt:=Q } (z49 N vs) H):FnOk P w K mg base CX (k+1) f fd ps sp:=by
 obtain ⟨oc,od,kV,doc,pm,an,cdv,ct,osl,rfl,lk,hcd⟩:=F.ex
 refine zmw lk hcd S len fun A outer s H vs Q E hr hsp=>?_
 exact hbody cdv A outer s H vs Q E hr hsp
section
variable {K:Frag} {H:Hp} {v:V}
theorem RD.int {i:Int} (h:RD K H (.int i) v):v=.int i:=by simpa only [RD] using h
theorem RD.str {i:Str} (h:RD K H (.str i) v):v=.str i:=by simpa only [RD] using h
theorem RD.non (h:RD K H .non v):v=.non:=by simpa only [RD] using h
theorem RD.tup {ds:List D} (h:RD K H (.tup ds) v):∃a xs,v=.ref a/\H a=some (.tup xs)/\RDs K H ds xs:=by simpa only [RD] using h
theorem RD.lst {ds:List D} (h:RD K H (.lst ds) v):∃a xs,v=.ref a/\H a=some (.lst xs)/\RDs K H ds xs:=by simpa only [RD] using h
theorem RD.dk {ks:List Key} {ds:List D} (h:RD K H (.dk ks ds) v):∃a xs,v=.ref a/\H a=some (.dK (ks.zip xs))/\ks.length=xs.length/\RDs K H ds xs:=by simpa only [RD] using h
theorem RD.dt {ks:List (List Key)} {ds:List D} (h:RD K H (.dt ks ds) v):∃a xs,v=.ref a/\H a=some (.dT (ks.zip xs))/\ks.length=xs.length/\RDs K H ds xs:=by simpa only [RD] using h
theorem RD.scr {ns:List Int} (h:RD K H (.scr ns) v):∃a,v=.ref a/\SqL K H a (ns.map V.int):=by
 simp only [RD] at h
 obtain ⟨a,e,h | h⟩:=h
 . exact ⟨a,e,.inl (.inr h)⟩
 . exact ⟨a,e,.inr h⟩
theorem RD.mkInt (i:Int):RD K H (.int i) (.int i):=by simp only [RD]
theorem RD.mkBl (i:Bool):RD K H (.bl i) (.bl i):=by simp only [RD]
theorem RD.mkStr (i:Str):RD K H (.str i) (.str i):=by simp only [RD]
theorem RD.mkTup {a:Addr} {xs:List V} {ds:List D} (h:H a=some (.tup xs)) (r:RDs K H ds xs):RD K H (.tup ds) (.ref a):=by simp only [RD];exact ⟨a,xs,rfl,h,r⟩
end
noncomputable def dI (g:Int->Int->D):D->D->Option D
 | .int i,.int j=>some (g i j)
 | _,_=>none
noncomputable def dIC (C:Int->Int->Prop) [∀i j,Decidable (C i j)] (g:Int->Int->D):D->D->Option D
 | .int i,.int j=>if C i j then some (g i j) else none
 | _,_=>none
noncomputable def dOr (o p:D->D->Option D):D->D->Option D:=fun d e=>match o d e with
 | some z=>some z
 | none=>p d e
section
variable {K:Frag}
theorem OpD.weak {fr:Bool} {o:D->D->Option D} {r:R2} (h:OpD K fr o r):OpD K false o r:=fun H0 H x y d e z Q s rx ry ho k=>h H0 H x y d e z Q s rx ry ho fun v H' q=>k v H' q.weak
theorem OpD.or {f1 f2:Bool} {o p:D->D->Option D} {r q:R2} (h1:OpD K f1 o r) (h2:OpD K f2 p q):OpD K false (dOr o p) (fun x y H Q=>r x y H Q\/q x y H Q):=by
 intro H0 H x y d e z Q s rx ry ho k
 unfold dOr at ho
 split at ho
 . rename_i z' hz
   cases ho
   exact .inl (h1.weak H0 H x y d e z Q s rx ry hz k)
 . exact .inr (h2.weak H0 H x y d e z Q s rx ry ho k)
theorem zsp {gv:Int->Int->V} {gd:Int->Int->D} (h:∀i j H,RD K H (gd i j) (gv i j)):OpD K false (dI gd) (cI gv):=by
 intro H0 H x y d e z Q s rx ry ho k
 cases d<;>simp only [dI] at ho<;>first | cases ho | skip
 cases e<;>simp only [dI] at ho<;>first | cases ho | skip
 cases rx.int;cases ry.int
 exact k _ H (.pure s (h _ _ _))
theorem zdv {C:Int->Int->Prop} [∀i j,Decidable (C i j)] {gv:Int->Int->V} {gd:Int->Int->D} (h:∀i j H,RD K H (gd i j) (gv i j)):OpD K false (dIC C gd) (cIC C gv):=by
 intro H0 H x y d e z Q s rx ry ho k
 cases d<;>simp only [dIC] at ho<;>first | cases ho | skip
 cases e<;>simp only [dIC] at ho<;>first | cases ho | skip
 cases rx.int;cases ry.int
 split at ho
 . rename_i hcc
   cases ho
   exact ⟨hcc,k _ H (.pure s (h _ _ _))⟩
 . cases ho
instance (i j:Int):Decidable (CMul i j):=by unfold CMul;infer_instance
instance (i j:Int):Decidable (zjs i j):=by unfold zjs;infer_instance
instance (i j:Int):Decidable (zjt i j):=by unfold zjt;infer_instance
noncomputable def z30:D->D->Option D:=dI fun i j=>.int (i+j)
noncomputable def zkg:D->D->Option D:=dI fun i j=>.int (i - j)
noncomputable def zdw:D->D->Option D:=dIC CMul fun i j=>.int (i * j)
noncomputable def zgt:D->D->Option D:=dIC zjs fun i j=>.int (i / j)
noncomputable def z9k:D->D->Option D:=dIC (fun _ j=>0<j) fun i j=>.int (i % j)
noncomputable def znu:D->D->Option D:=dIC zjt fun i j=>.int (i ^ j.toNat)
noncomputable def zw1:D->D->Option D:=dI fun i j=>.bl (decide (i<j))
noncomputable def dLe:D->D->Option D:=dI fun i j=>.bl (decide (i<=j))
noncomputable def zsq:D->D->Option D:=dI fun i j=>.bl (decide (j<i))
noncomputable def dGe:D->D->Option D:=dI fun i j=>.bl (decide (j<=i))
theorem z1q:OpD K false z30 (cI fun i j=>.int (i+j)):=zsp fun _ _ _=>.mkInt _
theorem z8k:OpD K false zkg (cI fun i j=>.int (i - j)):=zsp fun _ _ _=>.mkInt _
theorem z6i:OpD K false zdw (cIC CMul fun i j=>.int (i * j)):=zdv fun _ _ _=>.mkInt _
theorem z8l:OpD K false zgt (cIC zjs fun i j=>.int (i / j)):=zdv fun _ _ _=>.mkInt _
theorem z40:OpD K false z9k (cIC (fun _ j=>0<j) fun i j=>.int (i % j)):=zdv fun _ _ _=>.mkInt _
theorem zi9:OpD K false znu (cIC zjt fun i j=>.int (i ^ j.toNat)):=zdv fun _ _ _=>.mkInt _
theorem znv:OpD K false zsq (cI fun i j=>.bl (decide (j<i))):=zsp fun _ _ _=>.mkBl _
noncomputable def zri:D->Option D
 | .int i=>some (.int (-i))
 | _=>none
theorem znw:UnD K false zri (cU fun i=>.int (-i)):=by
 intro H0 H x d z Q s rx ho k
 cases d<;>simp only [zri] at ho<;>first | cases ho | skip
 cases rx.int
 exact k _ H (.pure s (.mkInt _))
theorem zsr {n:Nat} (h:n<=100000):n<=sizeLine:=Nat.le_trans h (by decide)
end
noncomputable def dEq:D->D->Option D:=fun d e=>if d.pl=true/\e.pl=true/\d.dep<=20 then some (.bl (eqD d e)) else none
noncomputable def dNe:D->D->Option D:=fun d e=>if d.pl=true/\e.pl=true/\d.dep<=20 then some (.bl (!eqD d e)) else none
noncomputable def zv4 (K:Frag):R2:=fun x y H Q=>∃d e,RD K H d x/\RD K H e y/\d.pl=true/\e.pl=true/\d.dep<=20/\Q (.bl (eqD d e)) H
noncomputable def zv5 (K:Frag):R2:=fun x y H Q=>∃d e,RD K H d x/\RD K H e y/\d.pl=true/\e.pl=true/\d.dep<=20/\Q (.bl (!eqD d e)) H
section
variable {X:Cx} {K:Frag}
theorem zbr (hu:X.A.units+64<cLine):OpR X (compareOp .Eq) (zv4 X.K):=by
 intro pins s σ H x y v u Q I rx ry h
 obtain ⟨d,e,h1,h2,p1,p2,h3,q⟩:=h
 exact znd (n:=20) I p1 p2 h3 (by omega) h1 h2 rx ry X.prog X.w X.xe _ ⟨.bl _,H,I,rfl,q⟩
theorem z64 (hu:X.A.units+64<cLine):OpR X (compareOp .NotEq) (zv5 X.K):=by
 intro pins s σ H x y v u Q I rx ry h
 obtain ⟨d,e,h1,h2,p1,p2,h3,q⟩:=h
 exact zne (n:=20) I p1 p2 h3 (by omega) h1 h2 rx ry X.prog X.w X.xe _ ⟨.bl _,H,I,rfl,q⟩
theorem zbs:OpD K false dEq (zv4 K):=by
 intro H0 H x y d e z Q s rx ry ho k
 unfold dEq at ho
 split at ho<;>cases ho
 rename_i h
 exact ⟨d,e,rx.mono s,ry.mono s,h.1,h.2.1,h.2.2,k _ H (.pure s (.mkBl _))⟩
theorem z65:OpD K false dNe (zv5 K):=by
 intro H0 H x y d e z Q s rx ry ho k
 unfold dNe at ho
 split at ho<;>cases ho
 rename_i h
 exact ⟨d,e,rx.mono s,ry.mono s,h.1,h.2.1,h.2.2,k _ H (.pure s (.mkBl _))⟩
end
noncomputable def znx:D->Option Key
 | .int i=>some (.inl i)
 | .str x=>some (.inr x)
 | _=>none
noncomputable def zbt:List D->Option (List Key)
 | []=>some []
 | d::ds=>match znx d,zbt ds with
  | some k,some ks=>some (k::ks)
  | _,_=>none
theorem zdx {K:Frag} {H:Hp} {d:D} {k:Key} {v:V} (h:znx d=some k) (r:RD K H d v):v=kV k:=by
 cases d<;>simp only [znx] at h<;>first | cases h | skip
 . cases r.int;rfl
 . cases r.str;rfl
theorem zaq {K:Frag} {H:Hp}:∀{ds:List D} {ks:List Key} {xs:List V},zbt ds=some ks->RDs K H ds xs->xs=ks.map kV
 | [],ks,xs,h,r=>by
  simp only [zbt] at h;cases h
  simp only [RDs] at r;subst r;rfl
 | d::ds,ks,xs,h,r=>by
  simp only [RDs] at r
  obtain ⟨x,xs,rfl,r1,r2⟩:=r
  simp only [zbt] at h
  split at h<;>cases h
  rename_i k ks h1 h2
  rw [zdx h1 r1,zaq h2 r2];rfl
def ROp (K:Frag) (H:Hp):Option D->Option V->Prop
 | some z,w=>∃v,w=some v/\RD K H z v
 | none,w=>w=none
section
variable {κ:Type} [DecidableEq κ]
noncomputable def z9l (ks:List κ) (ds:List D) (k:κ):Option D:=((ks.zip ds).find? fun kv=>decide (kv.1=k)).map (·.2)
theorem z9m {K:Frag} {H:Hp} (k:κ):∀{ks:List κ} {ds:List D} {xs:List V},ks.length=xs.length->RDs K H ds xs->ROp K H (z9l ks ds k) (zaf (ks.zip xs) k)
 | [],ds,xs,_,_=>by simp [z9l,zaf,ROp]
 | k'::ks,[],xs,h,r=>by
  simp only [RDs] at r;subst r;simp at h
 | k'::ks,d::ds,xs,h,r=>by
  simp only [RDs] at r
  obtain ⟨x,xs,rfl,r1,r2⟩:=r
  have ih:=z9m k (by simpa using h) r2 (ks:=ks)
  simp only [z9l,zaf,List.zip_cons_cons,List.find?_cons] at ih ⊢
  by_cases e:k'=k
  . simp only [e,decide_true]
    exact ⟨x,rfl,r1⟩
  . simp only [e,decide_false]
    exact ih
noncomputable def zgu (ks:List κ) (k:κ):List κ:=if k∈ks then ks else ks++[k]
noncomputable def zbu {β:Type} (ks:List κ) (ds:List β) (k:κ) (d:β):List β:=if k∈ks then List.zipWith (fun k' d'=>if k'=k then d else d') ks ds else ds++[d]
theorem zkh {K:Frag} {H:Hp} (k:κ) {d:D} {v:V} (rv:RD K H d v) {ks:List κ} {ds:List D} {xs:List V} (r:RDs K H ds xs):RDs K H (zbu ks ds k d) (zbu ks xs k v):=by
 have zw:∀(ks:List κ) (ds:List D) (xs:List V),RDs K H ds xs->RDs K H (List.zipWith (fun k' d'=>if k'=k then d else d') ks ds) (List.zipWith (fun k' d'=>if k'=k then v else d') ks xs):=by
  intro ks
  induction ks with
  | nil=>intro ds xs _;simp [RDs]
  | cons k' ks ih=>
   intro ds xs r
   cases ds with
   | nil=>simp only [RDs] at r;subst r;simp [RDs]
   | cons d' ds=>
    simp only [RDs] at r
    obtain ⟨x,xs,rfl,r1,r2⟩:=r
    simp only [List.zipWith_cons_cons]
    refine .cons ?_ (ih ds xs r2)
    by_cases e:k'=k
    . rw [if_pos e,if_pos e];exact rv
    . rw [if_neg e,if_neg e];exact r1
 unfold zbu
 by_cases m:k∈ks
 . rw [if_pos m,if_pos m];exact zw ks ds xs r
 . rw [if_neg m,if_neg m];exact r.append (.one rv)
end
noncomputable def zdy:D->D->Option (Option D)
 | .dk ks ds,k=>(znx k).map fun k=>z9l ks ds k
 | .dt ks ds,.tup es=>(zbt es).map fun k=>z9l ks ds k
 | _,_=>none
theorem zki {K:Frag} {H:Hp} {d k:D} {x y:V} {o:Option D} (h:zdy d k=some o) (rx:RD K H d x) (ry:RD K H k y) :
  ∃a w,x=.ref a/\DGet H a y w/\ROp K H o w:=by
 cases d<;>simp only [zdy] at h<;>first | cases h | skip
 . rename_i ks ds
   obtain ⟨a,xs,rfl,ha,hl,rs⟩:=rx.dk
   cases hk:znx k with
   | none=>rw [hk] at h;cases h
   | some k'=>
    rw [hk] at h
    have h:z9l ks ds k'=o:=by simpa using h
    subst h
    cases zdx hk ry
    exact ⟨a,_,rfl,DGet.k ha,z9m k' hl rs⟩
 . rename_i ks ds
   cases k<;>simp only [zdy] at h<;>first | cases h | skip
   rename_i es
   obtain ⟨a,xs,rfl,ha,hl,rs⟩:=rx.dt
   obtain ⟨b,ys,rfl,hb,rb⟩:=ry.tup
   cases hk:zbt es with
   | none=>rw [hk] at h;cases h
   | some k'=>
    rw [hk] at h
    have h:z9l ks ds k'=o:=by simpa using h
    subst h
    have e:=zaq hk rb
    subst e
    exact ⟨a,_,rfl,DGet.t ha hb,z9m k' hl rs⟩
noncomputable def zw2 (neg:Bool):R2:=fun y x H Q=>∃a w,x=.ref a/\DGet H a y w/\Q (.bl (if neg then !w.isSome else w.isSome)) H
noncomputable def zss:D->D->Option D:=fun d k=>(zdy d k).bind id
noncomputable def zst:R2:=fun x y H Q=>∃a w,x=.ref a/\DGet H a y (some w)/\Q w H
noncomputable def zbv:D->D->Option D
 | .lst ds,.int i=>atI ds i
 | .tup ds,.int i=>atI ds i
 | .scr ns,.int i=>(atI ns i).map D.int
 | .str z,.int i=>if z.length<=100000 then (atI z.cps.toList i).map fun c=>D.str ⟨#[c]⟩ else none
 | _,_=>none
theorem RDs.atI {K:Frag} {H:Hp} {ds:List D} {xs:List V} {i:Int} {d:D} (r:RDs K H ds xs) (h:L2.atI ds i=some d):∃v,L2.atI xs i=some v/\RD K H d v:=by
 unfold L2.atI at h ⊢
 rw [<-r.length]
 cases q:ixN ds.length i with
 | none=>rw [q] at h;cases h
 | some j=>
  rw [q] at h
  exact r.get' h
theorem zkj {α β:Type} (f:α->β) (xs:List α) (i:Int):atI (xs.map f) i=(atI xs i).map f:=by
 unfold atI
 rw [List.length_map]
 cases ixN xs.length i with
 | none=>rfl
 | some j=>simp
section
variable {X:Cx} {K:Frag}
theorem zw3 (hu:X.A.units+64<cLine):OpR X (compareOp .In) (zw2 false):=by
 intro pins s σ H x y v u Q I rx ry h
 obtain ⟨a,w,rfl,g,q⟩:=h
 cases ry
 exact zvm (by omega) I g rx fun s' I'=>⟨.bl w.isSome,H,I',rfl,by simpa using q⟩
theorem zkk (hu:X.A.units+64<cLine):IxR X zst:=by
 intro value slice pins s σ H x y v u Q I rx ry h hs
 obtain ⟨a,w,rfl,g,q⟩:=h
 cases rx
 exact tail_any (ops:=[.ref a,u]) (z9g I g) PySem.F.slot_dict_getitem.lookup (zd2 (by omega) I g ry fun w' s3 I3 rw'=>⟨w,H,I3,rw',q⟩) hs
theorem zny:OpD K false zss zst:=by
 intro H0 H x y d e z Q s rx ry ho k
 unfold zss at ho
 cases ho':zdy d e with
 | none=>rw [ho'] at ho;cases ho
 | some o=>
  rw [ho'] at ho
  have ho:o=some z:=ho
  subst ho
  obtain ⟨a,w,e0,g,m⟩:=zki ho' rx ry
  obtain ⟨v,rfl,rv⟩:=m
  subst e0
  refine ⟨a,v,rfl,?_,k _ H (.pure s rv)⟩
  rcases g with ⟨kvs,kk,e1,e2,e3⟩ | ⟨kvs,kk,b,e1,e2,e3,e4⟩
  . refine .inl ⟨kvs,kk,?_,e2,e3⟩
    rcases e1 with e1 | ⟨o,e1⟩
    . exact .inl (s _ _ e1)
    . exact .inr ⟨o,s _ _ e1⟩
  . refine .inr ⟨kvs,kk,b,?_,e2,s _ _ e3,e4⟩
    rcases e1 with e1 | ⟨o,e1⟩
    . exact .inl (s _ _ e1)
    . exact .inr ⟨o,s _ _ e1⟩
theorem od_ixS:OpD K false zbv (rIx K):=by
 intro H0 H x y d e z Q s rx ry ho k
 cases d<;>simp only [zbv] at ho<;>first | cases ho | skip
 . -- a text
   cases e<;>simp only [zbv] at ho<;>first | cases ho | skip
   cases rx.str;cases ry.int
   split at ho
   . rename_i z' i hl
     cases hc:atI z'.cps.toList i with
     | none=>rw [hc] at ho;cases ho
     | some c=>
      rw [hc] at ho;cases ho
      exact .inr (.inr ⟨z',i,c,rfl,rfl,zsr hl,hc,k _ H (.pure s (.mkStr _))⟩)
   . cases ho
 . cases e<;>simp only [zbv] at ho<;>first | cases ho | skip
   obtain ⟨a,xs,rfl,ha,ra⟩:=rx.tup
   cases ry.int
   obtain ⟨v,hv,rv⟩:=ra.atI ho
   exact .inr (.inl ⟨a,xs,_,v,rfl,rfl,.of (s _ _ ha),hv,k _ H (.pure s rv)⟩)
 . cases e<;>simp only [zbv] at ho<;>first | cases ho | skip
   obtain ⟨a,xs,rfl,ha,ra⟩:=rx.lst
   cases ry.int
   obtain ⟨v,hv,rv⟩:=ra.atI ho
   exact .inl ⟨a,xs,_,v,rfl,rfl,.of (s _ _ ha),hv,k _ H (.pure s rv)⟩
 . cases e<;>simp only [zbv] at ho<;>first | cases ho | skip
   rename_i ns i
   cases ry.int
   obtain ⟨a,rfl,ha⟩:=(rx.mono s).scr
   cases hc:atI ns i with
   | none=>rw [hc] at ho;cases ho
   | some c=>
    rw [hc] at ho;cases ho
    exact .inl ⟨a,_,i,.int c,rfl,rfl,ha,by rw [zkj,hc];rfl,k _ H (.pure s (.mkInt _))⟩
noncomputable def dIx:D->D->Option D:=dOr zbv zss
noncomputable def zv6 (K:Frag):R2:=fun x y H Q=>rIx K x y H Q\/zst x y H Q
theorem z98 (hu:X.A.units+64<cLine):IxR X (zv6 X.K):=ix_seq.or (zkk hu)
theorem z3l:OpD K false dIx (zv6 K):=od_ixS.or zny
end
structure QE (X:Cx) (EX:XW) (fr:Bool) (e:Expr) (f:DE->R D):Prop where
 h:PE X e (TEd X.K EX fr f)
structure QT (X:Cx) (EX:XW) (e:Expr) (t:DE->R Bool):Prop where
 h:PT X e (TTd X.K EX t)
structure QW (X:Cx) (EX:XW) (e:Expr) (t:DE->R Bool):Prop where
 h:PW X e (TTd X.K EX t)
structure QA (X:Cx) (EX:XW) (es:List Expr) (f:DE->R (List D)):Prop where
 h:PA X es (TAd X.K EX f)
structure QI (X:Cx) (EX:XW) (kp:Bool) (tg e:Expr) (f:DE->R (List D)):Prop where
 h:PI X tg e (TId X.K EX kp f)
structure QG (X:Cx) (tg:Expr) (t:Tg):Prop where
 h:PG X tg (TGd X.K t)
structure QGs (X:Cx) (ts:List Expr) (is:List Nat):Prop where
 h:PGs X ts (z4l is)
structure QS (X:Cx) (EX:XW) (fr:Bool) (st:Stmt) (g:DS->SR):Prop where
 h:PS X st (TSd X.K EX fr g)
structure QB (X:Cx) (EX:XW) (fr:Bool) (sts:List Stmt) (g:DS->SR):Prop where
 h:PSs X sts (TSd X.K EX fr g)
section
variable {X:Cx} {EX:XW} {fr:Bool} {a b c e:Expr} {es rest:List Expr} {fa fb:DE->R D} {fs:DE->R (List D)} {t u:DE->R Bool} {pos p:Pos} {x:Str}
theorem PA.imp {es:List Expr} {t t':TA} (h:PA X es t) (hi:∀σ H Q,t' σ H Q->t σ H Q):PA X es t':=fun pos pins s σ H Q I q=>h pos pins s σ H Q I (hi σ H Q q)
theorem PW.imp {e:Expr} {t t':TT} (h:PW X e t) (hi:∀σ H Q,t' σ H Q->t σ H Q):PW X e t':=fun wh pins s σ H Q I q=>h wh pins s σ H Q I (hi σ H Q q)
theorem PI.imp {tg e:Expr} {t t':TI} (h:PI X tg e t) (hi:∀σ H Q,t' σ H Q->t σ H Q):PI X tg e t':=fun pins s σ H Q I q=>h pins s σ H Q I (hi σ H Q q)
theorem PS.imp {st:Stmt} {t t':TS} (h:PS X st t) (hi:∀D σ H,t' D σ H->t D σ H):PS X st t':=fun pins s σ H D I q=>h pins s σ H D I (hi D σ H q)
theorem PSs.imp {st:List Stmt} {t t':TS} (h:PSs X st t) (hi:∀D σ H,t' D σ H->t D σ H):PSs X st t':=fun pins s σ H D I q=>h pins s σ H D I (hi D σ H q)
theorem QE.wk {f:DE->R D} (h:QE X EX true e f):QE X EX false e f:=⟨h.h.imp fun _ _ _ q=>q.weak⟩
theorem qv (i:Nat) {x:Str} {pos:Pos} (hN:X.N[i]?=some x:=by rfl) (hv:Vis X.env.scope x:=by first | exact Or.inl rfl | exact Or.inr (Or.inl rfl) | exact Or.inr (Or.inr rfl)) (hd:(x==("__debug__":Str))=false:=by decide)
 (hcd:(x==("__classdict__":Str))=false:=by decide):QE X EX false (.Name x pos) (z04 i):=⟨(zhx hN hv hd hcd).imp fun σ H Q q=>zs7 q⟩
theorem z05 {i j pos}:QE X EX false (.Constant (.int i) j pos) (eC (.int i)):=⟨pe_int.imp fun σ H Q q=>zdr (fun _=>.mkInt i) q⟩
theorem zia {i j pos}:QE X EX false (.Constant (.bool i) j pos) (eC (.bl i)):=⟨pe_bl.imp fun σ H Q q=>zdr (fun _=>.mkBl i) q⟩
theorem z0l {op:Operator} {r:R2} {o:D->D->Option D} (ho:OpR X (binaryOp op) r) (od:OpD X.K fr o r) (ha:QE X EX false a fa) (hb:QE X EX false b fb):QE X EX fr (.BinOp a op b pos) (eOp o fa fb):=⟨(zmr ho ha.h hb.h).imp fun _ _ _ q=>zrh od q⟩
theorem zw4 {op:UnaryOp} {r:V->Hp->VK->Prop} {o:D->Option D} (ho:UnR X (unaryOp op) r) (od:UnD X.K fr o r) (ha:QE X EX false a fa):QE X EX fr (.UnaryOp op a pos) (eUn o fa):=⟨(zrr ho ha.h).imp fun _ _ _ q=>zvs od q⟩
theorem zkl {op:CmpOp} {r:R2} {o:D->D->Option D} (ho:OpR X (compareOp op) r) (od:OpD X.K false o r) (ha:QE X EX false a fa) (hb:QE X EX false b fb) (hm:behindInMarks op b=false) :
 QE X EX false (.Compare a [op] [b] pos) (eOp o fa fb):=⟨(zju ho ha.h hb.h hm).imp fun _ _ _ q=>zrh od q⟩
theorem z99 {r:R2} {o:D->D->Option D} (ho:IxR X r) (od:OpD X.K false o r) (ha:QE X EX false a fa) (hb:QE X EX false b fb) (hs:zd0 b:=by exact fun _ _=>rfl):QE X EX false (.Subscript a b pos) (eOp o fa fb):=⟨(zrt ho ha.h hb.h hs).imp fun _ _ _ q=>zrh od q⟩
theorem z0a:QA X EX [] z0f:=⟨pa_nil.imp fun _ _ _ q=>zs8 q⟩
theorem z01 (ha:QE X EX false e fa) (hr:QA X EX es fs) (hs:starEach (e::es) X.env=(false,eval e X.env)::starEach es X.env:=by rfl):QA X EX (e::es) (z00 fa fs):=⟨(z2x ha.h hr.h hs).imp fun _ _ _ q=>znh q⟩
theorem zdz {x1} (h:QA X EX es fs):QE X EX false (.Tuple es x1 pos) (zgo fs):=⟨(zmt h.h).imp fun _ _ _ q=>zs9 q⟩
theorem z5h (h:QA X EX es fs):QE X EX true (.List es pos) (z97 fs):=⟨(zcx h.h).imp fun _ _ _ q=>zsa q⟩
theorem zsu (ha:QE X EX false a fa) (hb:QE X EX false (.BoolOp .And (b::rest) pos) fb):QE X EX false (.BoolOp .And (a::b::rest) pos) (zng fa fb):=⟨(zk6 ha.h hb.h).imp fun _ _ _ q=>zse q⟩
theorem zsv {op} (h:QE X EX false a fa):QE X EX false (.BoolOp op [a] pos) fa:=⟨zmn h.h⟩
noncomputable def z9n:D->Option Bool
 | .bl b=>some b
 | .int i=>some (i != 0)
 | .non=>some false
 | .str z=>if z.length<=100000 then some ((z.length:Int) != 0) else none
 | .lst ds=>some (!ds.isEmpty)
 | .tup ds=>some (!ds.isEmpty)
 | .dk ks _=>some (!ks.isEmpty)
 | _=>none
theorem z3r {α β:Type} {xs:List α} {ys:List β} (h:xs.length=ys.length):xs.isEmpty=ys.isEmpty:=by
 cases xs<;>cases ys<;>first | rfl | simp at h
theorem zib {K:Frag}:zs6 K z9n z8g:=by
 intro H0 H x d b Q s rx ht q
 cases d<;>simp only [z9n] at ht<;>first | cases ht | skip
 . cases rx.non;exact q
 . cases rx.bl;exact q
 . cases rx.int;exact q
 . split at ht<;>cases ht
   rename_i h
   cases rx.str
   exact ⟨zsr h,q⟩
 . obtain ⟨p,xs,rfl,hp,r⟩:=rx.tup
   unfold z8g
   dsimp only
   rw [z8f (s _ _ hp)]
   rw [z3r r.length] at q;exact q
 . obtain ⟨p,xs,rfl,hp,r⟩:=rx.lst
   unfold z8g
   dsimp only
   rw [z8e (s _ _ hp)]
   rw [z3r r.length] at q;exact q
 . rename_i ks es
   obtain ⟨p,xs,rfl,hp,hl,r⟩:=rx.dk
   unfold z8g
   dsimp only
   have e:z4b H p=none:=by unfold z4b;rw [s _ _ hp]
   rw [e]
   dsimp only
   rw [s _ _ hp]
   dsimp only
   rw [z3r (show ks.length=(List.zip ks xs).length by rw [List.length_zip,<-hl,Nat.min_self])] at q
   exact q
theorem zic (ha:QE X EX false a fa):QE X EX false (.UnaryOp .Not a pos) (eUn (fun d=>(z9n d).map fun b=>.bl (!b)) fa):=⟨(zk7 ha.h).imp fun _ _ _ q=>znm zib q⟩
theorem zbw (ha:QE X EX false a fa) (he:∀whole,isTrue a X.env whole=(do let v <-whole;standAt a.pos;holding [v] (truthy v)):=by intro _;rfl):QT X EX a (z46 z9n fa):=⟨(zn5 ha.h he).imp fun _ _ _ q=>zsf zib q⟩
theorem z3s {op:CmpOp} {r:R2} {o:D->D->Option D} (ho:OpR X (compareOp op) r) (od:OpD X.K false o r) (ha:QE X EX false a fa) (hb:QE X EX false b fb) (hm:behindInMarks op b=false) :
 QT X EX (.Compare a [op] [b] pos) (z46 asB (eOp o fa fb)):=⟨(zk5 ho ha.h hb.h hm).imp fun _ _ _ q=>zsg od q⟩
theorem QW.pt (h:QW X EX a t):QT X EX a t:=⟨h.h.pt⟩
theorem ze0 (ha:QT X EX a t):QT X EX (.UnaryOp .Not a pos) (zgp t):=⟨(zmm ha.h).imp fun _ _ _ q=>znj q⟩
theorem znz (ha:QT X EX a t):QW X EX (.BoolOp .And [a] pos) t:=⟨zjo ha.h⟩
theorem zgv (ha:QT X EX a t):QW X EX (.BoolOp .Or [a] pos) t:=⟨zmk ha.h⟩
theorem zsw (ha:QT X EX a t) (hb:QW X EX (.BoolOp .And (b::rest) pos) u):QW X EX (.BoolOp .And (a::b::rest) pos) (znf t u):=⟨(zml ha.h hb.h).imp fun _ _ _ q=>zni q⟩
theorem zid (ha:QT X EX a t) (hb:QW X EX (.BoolOp .Or (b::rest) pos) u):QW X EX (.BoolOp .Or (a::b::rest) pos) (bOr t u):=⟨(zrl ha.h hb.h).imp fun _ _ _ q=>zsb q⟩
theorem PCh.imp {ops:List CmpOp} {rs:List Expr} {t t':V->TE} (h:PCh X ops rs t) (hi:∀x σ H Q,t' x σ H Q->t x σ H Q):PCh X ops rs t':=fun pos pins s σ H x v Q I r q=>h pos pins s σ H x v Q I r (hi x σ H Q q)
theorem PChT.imp {ops:List CmpOp} {rs:List Expr} {t t':V->TT} (h:PChT X ops rs t) (hi:∀x σ H Q,t' x σ H Q->t x σ H Q):PChT X ops rs t':=fun pos pins s σ H x v Q I r q=>h pos pins s σ H x v Q I r (hi x σ H Q q)
variable {g:D->DE->R D} {gt:D->DE->R Bool} {op op':CmpOp} {ops:List CmpOp} {r:R2} {o:D->D->Option D} {r':Expr} {rs:List Expr}
theorem zie {id:String} {rr:List V->Hp->VK->Prop} {m:List D->Option D} (hc:CallR X (.builtin id) rr) (od:z5d X.K fr m rr) (hg:Gl X x) (hm:X.mg x=none) (hv:bootBuiltins x=some (.builtin id)) (ha:QA X EX (e::es) fs) (hn:x≠"__name__":=by decide) (hdb:(x==("__debug__":Str))=false:=by decide)
 (he:starEach (e::es) X.env=(false,eval e X.env)::starEach es X.env:=by rfl) (hpl:(backTo pos (starEach es X.env)).any (·.1)=false:=by rfl):QE X EX fr (.Call (.Name x p) (e::es) [] pos) (eCB m fs):=⟨(zae hc hg hm hv ha.h hn hdb he hpl).imp fun _ _ _ q=>zv0 od q⟩
theorem z7b {T:String} {rr:List V->Hp->VK->Prop} {m:List D->Option D} (hc:CallR X (.type T) rr) (od:z5d X.K fr m rr) (hg:Gl X x) (hm:X.mg x=none) (hv:bootBuiltins x=some (.type T)) (ha:QA X EX (e::es) fs) (hn:x≠"__name__":=by decide) (hdb:(x==("__debug__":Str))=false:=by decide)
 (he:starEach (e::es) X.env=(false,eval e X.env)::starEach es X.env:=by rfl) (hpl:(backTo pos (starEach es X.env)).any (·.1)=false:=by rfl):QE X EX fr (.Call (.Name x p) (e::es) [] pos) (eCB m fs):=⟨(zcz hc hg hm hv ha.h hn hdb he hpl).imp fun _ _ _ q=>zv0 od q⟩
theorem z2u {ps:List Str} {k j n kk:Nat} {gg:DS->SR} (L:Lnd X EX) (G:z5g X.prog X.w X.K X.mg X.base x ps k (spD X.K X.mg fr (mOf fr n kk gg) n)) (hr:Room j X.A) (hg:Gl X x) (ha:QA X EX (e::es) fs) (hkj:k<=j:=by omega) (hdb:(x==("__debug__":Str))=false:=by decide)
 (he:starEach (e::es) X.env=(false,eval e X.env)::starEach es X.env:=by rfl) (hpl:(backTo pos (starEach es X.env)).any (·.1)=false:=by rfl):QE X EX fr (.Call (.Name x p) (e::es) [] pos) (z1n (mOf fr n kk gg) fs):=⟨(zdu G L.on hr hg ha.h hkj hdb he hpl).imp fun _ _ _ q=>zns zkf (fun x H z=>by obtain ⟨C,hC⟩:=L.nm x H z;exact ⟨C,hC,x,z,hC⟩) q⟩
end
noncomputable def z4e:D->String
 | .non=>"NoneType"
 | .bl _=>"bool"
 | .int _=>"int"
 | .str _=>"str"
 | .tup _=>"tuple"
 | .lst _=>"list"
 | .dk _ _=>"dict"
 | .dt _ _=>"dict"
 | .dn _ _=>"?"
 | .scr _=>"?"
 | .exc _=>"?"
noncomputable def z66 (c:String):D->Option D:=fun d=>if z58 c=true/\z4e d≠"?" then some (.bl (zd8 (z4e d) c)) else none
theorem zkm {K:Frag} {H:Hp} {d:D} {v:V} (h:z4e d≠"?") (r:RD K H d v):z76 H v=some (z4e d):=by
 cases d
 . cases r.non;rfl
 . cases r.bl;rfl
 . cases r.int;rfl
 . cases r.str;rfl
 . obtain ⟨a,xs,rfl,ha,_⟩:=r.tup;simp only [z76,ha,z4e]
 . obtain ⟨a,xs,rfl,ha,_⟩:=r.lst;simp only [z76,ha,z4e]
 . obtain ⟨a,xs,rfl,ha,_⟩:=r.dk;simp only [z76,ha,z4e]
 . obtain ⟨a,xs,rfl,ha,_⟩:=r.dt;simp only [z76,ha,z4e]
 . exact absurd rfl h
 . exact absurd rfl h
 . exact absurd rfl h
theorem zsx {K:Frag} {EX:XW} {σ:St} {H:Hp} {Q:VK} {c:String} {f:DE->R D} (h:TEd K EX false (eUn (z66 c) f) σ H Q):tCB zrf (z3o (TEd K EX false f) (z3o (tC (.ty c)) zcw)) σ H Q:=by
 obtain ⟨sx,ρ,H0,s,e,h⟩:=h
 unfold eUn at h
 rw [Rk.bind] at h
 refine TEd.go sx s e h fun d h v H1 H1' s1 e1 r1=>?_
 obtain ⟨z,hz,h⟩:=h.of
 unfold z66 at hz
 split at hz<;>cases hz
 rename_i hc
 show zrf [v,.ty c] H1 Q
 rw [zn9]
 refine ⟨hc.1,?_⟩
 rw [zkm hc.2 (r1.mono e1.2.1)]
 exact h _ H1 (.val s1 e1 (.mkBl _))
theorem ze1 {X:Cx} {EX:XW} {a b:Expr} {pos p:Pos} {x c:_} {f:DE->R D} (hg:Gl X x) (hm:X.mg x=none) (hv:bootBuiltins x=some (.builtin "isinstance")) (ha:QE X EX false a f) (hb:PE X b (tC (.ty c))) (hn:x≠"__name__":=by decide) (hdb:(x==("__debug__":Str))=false:=by decide)
 (he:starEach [a,b] X.env=(false,eval a X.env)::starEach [b] X.env:=by rfl) (hpl:(backTo pos (starEach [b] X.env)).any (·.1)=false:=by rfl) (hs:starEach [b] X.env=(false,eval b X.env)::starEach [] X.env:=by rfl) :
 QE X EX false (.Call (.Name x p) [a,b] [] pos) (eUn (z66 c) f):=⟨(zae zs3 hg hm hv (z2x ha.h (z2x hb pa_nil hs) he) hn hdb he hpl).imp fun _ _ _ q=>zsx q⟩
noncomputable def z25:List D->Option (List Int)
 | []=>some []
 | .int i::ds=>(z25 ds).map (i::·)
 | _::_=>none
noncomputable def z2d:List D->Option (List Bool)
 | []=>some []
 | .bl i::ds=>(z2d ds).map (i::·)
 | _::_=>none
theorem z3a:∀(ns:List Int),z25 (ns.map D.int)=some ns
 | []=>rfl
 | n::ns=>by simp [z25,z3a ns]
theorem z5i:∀(ns:List Bool),z2d (ns.map D.bl)=some ns
 | []=>rfl
 | n::ns=>by simp [z2d,z5i ns]
theorem z2g {K:Frag} {H:Hp}:∀{ds:List D} {ns:List Int} {xs:List V},z25 ds=some ns->RDs K H ds xs->xs=ns.map V.int
 | [],ns,xs,h,r=>by
  simp only [z25] at h;cases h
  simp only [RDs] at r;subst r;rfl
 | d::ds,ns,xs,h,r=>by
  simp only [RDs] at r
  obtain ⟨x,xs,rfl,r1,r2⟩:=r
  cases d<;>simp only [z25] at h<;>first | cases h | skip
  cases q:z25 ds with
  | none=>rw [q] at h;cases h
  | some ms=>
   rw [q] at h;cases h
   cases r1.int
   rw [z2g q r2];rfl
theorem z6j {K:Frag} {H:Hp}:∀{ds:List D} {ns:List Bool} {xs:List V},z2d ds=some ns->RDs K H ds xs->xs=ns.map V.bl
 | [],ns,xs,h,r=>by
  simp only [z2d] at h;cases h
  simp only [RDs] at r;subst r;rfl
 | d::ds,ns,xs,h,r=>by
  simp only [RDs] at r
  obtain ⟨x,xs,rfl,r1,r2⟩:=r
  cases d<;>simp only [z2d] at h<;>first | cases h | skip
  cases q:z2d ds with
  | none=>rw [q] at h;cases h
  | some ms=>
   rw [q] at h;cases h
   cases r1.bl
   rw [z6j q r2];rfl
noncomputable def ze2:List D->Option D
 | [.lst ds]=>some (.int ds.length)
 | [.tup ds]=>some (.int ds.length)
 | [.dk ks _]=>some (.int ks.length)
 | [.scr ns]=>some (.int ns.length)
 | [.str z]=>if z.length<=100000 then some (.int z.length) else none
 | _=>none
noncomputable def zgw:List D->Option D
 | [.lst ds]=>(z25 ds).map fun ns=>.int ns.sum
 | [.tup ds]=>(z25 ds).map fun ns=>.int ns.sum
 | _=>none
noncomputable def zwn:List D->Option D
 | [.lst ds]=>(z2d ds).map fun bs=>.bl (bs.all id)
 | _=>none
noncomputable def zo0:List D->Option D
 | [.lst ds]=>(z2d ds).map fun bs=>.bl (bs.any id)
 | _=>none
noncomputable def zsy:List D->Option D
 | [.int i,.int j]=>some (.int (if j > i then j else i))
 | _=>none
noncomputable def zsz:List D->Option D
 | [.int i,.int j]=>some (.int (if j<i then j else i))
 | _=>none
noncomputable def zmb:List D->Option D
 | [.int i]=>some (.int i)
 | [.bl b]=>some (.int (if b then 1 else 0))
 | _=>none
noncomputable def z9o:List D->Option D
 | [.lst ds]=>some (.lst ds)
 | [.tup ds]=>some (.lst ds)
 | [.scr ns]=>some (.lst (ns.map .int))
 | _=>none
noncomputable def z1i:List D->Option D
 | [.lst ds]=>some (.tup ds)
 | [.tup ds]=>some (.tup ds)
 | _=>none
section
variable {X:Cx} {K:Frag}
theorem RDs.uno {H:Hp} {d:D} {xs:List V} (h:RDs K H [d] xs):∃x,xs=[x]/\RD K H d x:=by
 simp only [RDs] at h
 obtain ⟨x,r,rfl,h1,rfl⟩:=h
 exact ⟨x,rfl,h1⟩
theorem RDs.duo {H:Hp} {d e:D} {xs:List V} (h:RDs K H [d,e] xs):∃x y,xs=[x,y]/\RD K H d x/\RD K H e y:=by
 simp only [RDs] at h
 obtain ⟨x,r,rfl,h1,y,r',rfl,h2,rfl⟩:=h
 exact ⟨x,y,rfl,h1,h2⟩
def zo1 (K:Frag):List V->Hp->VK->Prop:=fun xs H Q=>(∃p ys,xs=[.ref p]/\(SqL K H p ys\/SqT K H p ys)/\Q (.int ys.length) H)\/(∃a kvs,xs=[V.ref a]/\H a=some (.dK kvs)/\Q (.int kvs.length) H)\/∃z,xs=[.str z]/\z.length<=sizeLine/\Q (.int z.length) H
theorem ze3:CallR X (.builtin "len") (zo1 X.K):=call_len_seq.or (call_lenD.or z88)
theorem ze4:z5d K false ze2 (zo1 K):=by
 intro H0 H xs ds z Q s r ho k
 unfold ze2 at ho
 split at ho<;>first | cases ho | skip
 . obtain ⟨x,rfl,q1⟩:=r.uno
   obtain ⟨a,ys,rfl,ha,ra⟩:=q1.lst
   exact .inl ⟨a,ys,rfl,.inl (.of (s _ _ ha)),by rw [<-ra.length];exact k _ H (.pure s (.mkInt _))⟩
 . obtain ⟨x,rfl,q1⟩:=r.uno
   obtain ⟨a,ys,rfl,ha,ra⟩:=q1.tup
   exact .inl ⟨a,ys,rfl,.inr (.of (s _ _ ha)),by rw [<-ra.length];exact k _ H (.pure s (.mkInt _))⟩
 . obtain ⟨x,rfl,q1⟩:=r.uno
   obtain ⟨a,ys,rfl,ha,hl,ra⟩:=q1.dk
   refine .inr (.inl ⟨a,_,rfl,s _ _ ha,?_⟩)
   rw [List.length_zip,<-hl,Nat.min_self]
   exact k _ H (.pure s (.mkInt _))
 . obtain ⟨x,rfl,q1⟩:=r.uno
   obtain ⟨a,rfl,ha⟩:=(q1.mono s).scr
   exact .inl ⟨a,_,rfl,.inl ha,by rw [List.length_map];exact k _ H (.pure s (.mkInt _))⟩
 . split at ho<;>cases ho
   rename_i h
   obtain ⟨x,rfl,q1⟩:=r.uno
   cases q1.str
   exact .inr (.inr ⟨_,rfl,zsr h,k _ H (.pure s (.mkInt _))⟩)
theorem zo2:z5d K false zgw zkb:=by
 intro H0 H xs ds z Q s r ho k
 unfold zgw at ho
 split at ho<;>first | cases ho | skip
 . obtain ⟨x,rfl,q1⟩:=r.uno
   obtain ⟨a,ys,rfl,ha,ra⟩:=q1.lst
   rename_i es
   cases q:z25 es with
   | none=>rw [q] at ho;cases ho
   | some ns=>
    rw [q] at ho;cases ho
    rw [zdl]
    exact ⟨ns,by rw [<-z2g q ra];exact z8e (s _ _ ha),k _ H (.pure s (.mkInt _))⟩
 . obtain ⟨x,rfl,q1⟩:=r.uno
   obtain ⟨a,ys,rfl,ha,ra⟩:=q1.tup
   rename_i es
   cases q:z25 es with
   | none=>rw [q] at ho;cases ho
   | some ns=>
    rw [q] at ho;cases ho
    rw [zdl]
    exact ⟨ns,by rw [<-z2g q ra];exact z8f (s _ _ ha),k _ H (.pure s (.mkInt _))⟩
theorem zo3:z5d K false zo0 zkc:=by
 intro H0 H xs ds z Q s r ho k
 unfold zo0 at ho
 split at ho<;>first | cases ho | skip
 obtain ⟨x,rfl,q1⟩:=r.uno
 obtain ⟨a,ys,rfl,ha,ra⟩:=q1.lst
 rename_i es
 cases q:z2d es with
 | none=>rw [q] at ho;cases ho
 | some ns=>
  rw [q] at ho;cases ho
  rw [zkd]
  exact ⟨ns,by rw [<-z6j q ra];exact .inl (s _ _ ha),k _ H (.pure s (.mkBl _))⟩
theorem zif:z5d K false zmb zn8:=by
 intro H0 H xs ds z Q s r ho k
 unfold zmb at ho
 split at ho<;>first | cases ho | skip
 . obtain ⟨x,rfl,q1⟩:=r.uno
   cases q1.int
   exact k _ H (.pure s (.mkInt _))
 . obtain ⟨x,rfl,q1⟩:=r.uno
   cases q1.bl
   exact k _ H (.pure s (.mkInt _))
def zig (K:Frag):List V->Hp->VK->Prop:=fun xs H Q=>∃p ys,xs=[.ref p]/\(SqL K H p ys\/SqT K H p ys)/\∀l,H l=none->Q (.ref l) (upd H l (.lst ys))
theorem ze5:CallR X (.type "list") (zig X.K):=z89
theorem ze6:z5d K true z9o (zig K):=by
 intro H0 H xs ds z Q s r ho k
 have fin:∀{p:Addr} {ys:List V} {es:List D},RDs K H0 es ys->z=.lst es->H p=none->Q (.ref p) (upd H p (.lst ys)):=fun {p ys es} re e hp=>by
  subst e
  refine k _ _ (.new s hp fun H' hH=>?_)
  simp only [OB]
  exact ⟨_,hH,re⟩
 unfold z9o at ho
 split at ho<;>first | cases ho | skip
 . obtain ⟨x,rfl,q1⟩:=r.uno
   obtain ⟨a,ys,rfl,ha,ra⟩:=q1.lst
   exact ⟨a,ys,rfl,.inl (.of (s _ _ ha)),fun l hl=>fin ra rfl hl⟩
 . obtain ⟨x,rfl,q1⟩:=r.uno
   obtain ⟨a,ys,rfl,ha,ra⟩:=q1.tup
   exact ⟨a,ys,rfl,.inr (.of (s _ _ ha)),fun l hl=>fin ra rfl hl⟩
 . obtain ⟨x,rfl,q1⟩:=r.uno
   obtain ⟨a,rfl,ha⟩:=(q1.mono s).scr
   exact ⟨a,_,rfl,.inl ha,fun l hl=>fin (RDs.ofInts _) rfl hl⟩
def ze7 (K:Frag):List V->Hp->VK->Prop:=fun xs H Q=>∃p ys,xs=[.ref p]/\((SqL K H p ys/\∀l,H l=none->Q (.ref l) (upd H l (.tup ys)))\/(SqT K H p ys/\Q (.ref p) H))
theorem z41:CallR X (.type "tuple") (ze7 X.K):=z73
theorem z42:z5d K false z1i (ze7 K):=by
 intro H0 H xs ds z Q s r ho k
 unfold z1i at ho
 split at ho<;>first | cases ho | skip
 . obtain ⟨x,rfl,q1⟩:=r.uno
   obtain ⟨a,ys,rfl,ha,ra⟩:=q1.lst
   refine ⟨a,ys,rfl,.inl ⟨.of (s _ _ ha),fun l hl=>k _ _ (.val (Same.upd_new hl) (.new s hl) (.mkTup z0e (ra.mono (Same.upd_new (s.none hl)))))⟩⟩
 . obtain ⟨x,rfl,q1⟩:=r.uno
   obtain ⟨a,ys,rfl,ha,ra⟩:=q1.tup
   exact ⟨a,ys,rfl,.inr ⟨.of (s _ _ ha),k _ H (.pure s (.mkTup ha ra))⟩⟩
end
noncomputable def z4s {α:Type} (xs:List α) (lo hi:Option Int):List α:=(xs.drop (HT.sIx xs.length 0 lo)).take (HT.sIx xs.length xs.length hi - HT.sIx xs.length 0 lo)
noncomputable def dSl:D->Option Int->Option Int->Option D
 | .lst ds,lo,hi=>some (.lst (z4s ds lo hi))
 | .scr ns,lo,hi=>some (.lst ((z4s ns lo hi).map .int))
 | _,_,_=>none
noncomputable def TOd (K:Frag) (EX:XW) (f:DE->R (Option Int)):TO:=fun σ H Q=>Same EX.hb H/\∃ρ H0,Same H0 H/\RE K H0 ρ σ/\Rk EX.at (f ρ) fun o=>∀H',Same H H'->Q o H'
noncomputable def oNo:DE->R (Option Int):=fun _=>.ok none
noncomputable def oSo (f:DE->R D):DE->R (Option Int):=fun ρ=>(f ρ).bind fun d=>R.of (match d with | .int i=>some (some i) | _=>none)
noncomputable def eSl (o:D->Option Int->Option Int->Option D) (f:DE->R D) (fl fh:DE->R (Option Int)):DE->R D:=fun ρ=>(f ρ).bind fun d=>(fl ρ).bind fun lo=>(fh ρ).bind fun hi=>R.of (o d lo hi)
def SlD (K:Frag) (fr:Bool) (o:D->Option Int->Option Int->Option D) (r:V->Option Int->Option Int->Hp->VK->Prop):Prop:=∀(H0 H:Hp) (x:V) (d z:D) (lo hi:Option Int) (Q:VK),Same H0 H->RD K H0 d x->o d lo hi=some z->(∀v H',Out K fr H0 H z v H'->Q v H')->r x lo hi H Q
section
variable {X:Cx} {K:Frag} {EX:XW} {fr:Bool} {σ:St} {H:Hp} {Q:VK}
structure QO (X:Cx) (EX:XW) (e:Option Expr) (f:DE->R (Option Int)):Prop where
 h:PO X e (TOd X.K EX f)
theorem PO.imp {e:Option Expr} {t t':TO} (h:PO X e t) (hi:∀σ H Q,t' σ H Q->t σ H Q):PO X e t':=fun pins s σ H Q I q=>h pins s σ H Q I (hi σ H Q q)
theorem zv7:QO X EX none oNo:=⟨po_none.imp fun σ H Q ⟨sx,ρ,H0,s,e,h⟩=>h H (Same.refl _)⟩
theorem zmc {e:Expr} {f:DE->R D} (he:QE X EX false e f):QO X EX (some e) (oSo f):=⟨(zjy he.h).imp fun σ H Q ⟨sx,ρ,H0,s,e,h⟩=>by
 unfold oSo at h
 rw [Rk.bind] at h
 refine TEd.go sx s e h fun d h v H1 H1' s1 e1 r1=>?_
 obtain ⟨o,ho,h⟩:=h.of
 cases d<;>dsimp only at ho<;>first | cases ho | skip
 cases r1.int
 exact ⟨_,rfl,h H1 s1⟩⟩
theorem zw5 {o:D->Option Int->Option Int->Option D} {r:V->Option Int->Option Int->Hp->VK->Prop} {f:DE->R D} {fl fh:DE->R (Option Int)} (hs:SlD K fr o r) (h:TEd K EX fr (eSl o f fl fh) σ H Q):tSl r (TEd K EX false f) (TOd K EX fl) (TOd K EX fh) σ H Q:=by
 obtain ⟨sx,ρ,H0,s,e,h⟩:=h
 unfold eSl at h
 rw [Rk.bind] at h
 refine TEd.go sx s e h fun d h v H1 H1' s1 e1 r1=>?_
 rw [Rk.bind] at h
 refine ⟨sx.trans s1,ρ,H1',e1.2.1,e.mono e1.1,h.mono fun lo h H2 s2=>?_⟩
 rw [Rk.bind] at h
 refine ⟨(sx.trans s1).trans s2,ρ,H1',e1.2.1.trans s2,e.mono e1.1,h.mono fun hi h H3 s3=>?_⟩
 obtain ⟨z,hz,h⟩:=h.of
 exact hs H1' H3 v d z lo hi Q (e1.2.1.trans (s2.trans s3)) r1 hz fun w H4 o=>h w H4 (o.after (s1.trans (s2.trans s3)) (e1.grow (s2.trans s3)))
theorem RDs.cut {H:Hp} {ds:List D} {xs:List V} (r:RDs K H ds xs) (lo hi:Option Int):RDs K H (z4s ds lo hi) (zm9 xs lo hi):=by
 unfold z4s zm9
 rw [<-r.length]
 exact (r.drop _).take _
theorem z7c:SlD K true dSl (zuw K):=by
 intro H0 H x d z lo hi Q s r ho k
 cases d<;>simp only [dSl] at ho<;>first | cases ho | skip
 . obtain ⟨a,xs,rfl,ha,ra⟩:=r.lst
   refine ⟨a,xs,rfl,.of (s _ _ ha),fun p hp=>k _ _ (.new s hp fun H' hH=>?_)⟩
   simp only [OB]
   exact ⟨_,hH,ra.cut lo hi⟩
 . rename_i ns
   obtain ⟨a,rfl,ha⟩:=(r.mono s).scr
   refine ⟨a,_,rfl,ha,fun p hp=>k _ _ (.new s hp fun H' hH=>?_)⟩
   simp only [OB]
   have e:=(RDs.ofInts (K:=K) (H:=H0) ns).cut lo hi
   refine ⟨_,hH,?_⟩
   have e2:∀ns:List Int,z4s (ns.map D.int) lo hi=(z4s ns lo hi).map D.int:=fun ns=>by
    unfold z4s;rw [List.length_map,List.map_take,List.map_drop]
   rw [e2] at e
   exact e
theorem zrj {o:D->Option Int->Option Int->Option D} {r:V->Option Int->Option Int->Hp->VK->Prop} {e:Expr} {lo hi:Option Expr} {pos p2:Pos} {f:DE->R D} {fl fh:DE->R (Option Int)} (hr:SlR X r) (hs:SlD X.K fr o r) (he:QE X EX false e f) (hl:QO X EX lo fl) (hu:QO X EX hi fh) :
 QE X EX fr (.Subscript e (.Slice lo hi none p2) pos) (eSl o f fl fh):=⟨(zgd hr he.h hl.h hu.h).imp fun _ _ _ q=>zw5 hs q⟩
end
noncomputable def iL (f:DE->R D):DE->R (List D):=fun ρ=>(f ρ).bind fun d=>R.of (items d)
noncomputable def zD (lo:Int) (n:Nat):List D:=(List.range n).map fun (i:Nat)=>D.int (lo+i)
noncomputable def zar (fs:DE->R (List D)):DE->R (List D):=fun ρ=>(fs ρ).bind fun ds=>R.of (match ds with
 | [.int j]=>if -(2 ^ 62)<=j/\j<2 ^ 62 then some (zD 0 j.toNat) else none
 | _=>none)
noncomputable def iEn (fs:DE->R (List D)):DE->R (List D):=fun ρ=>(fs ρ).bind fun ds=>R.of (match ds with
 | [.lst es]=>some (((zD 0 es.length).zip es).map fun p=>D.tup [p.1,p.2])
 | _=>none)
section
variable {X:Cx} {K:Frag} {EX:XW} {H0:Hp}
theorem ze8 {S:Hp->Prop} {xs:List V} {ds:List D} (hS:∀H,Same H0 H->S H) (r:RDs K H0 ds xs):znq K (ItS S xs) H0 ds:=by
 have hl:=r.length
 refine ⟨fun i d e H H1 s1 s2=>⟨⟨hS H (s1.trans s2),by rw [<-hl];exact (List.getElem?_eq_some_iff.mp e).1⟩,fun x H' ⟨e1,e2⟩=>?_⟩,fun H s=>⟨hS H s,by rw [hl];exact Nat.le_refl _⟩⟩
 subst e1
 obtain ⟨x',q1,q2⟩:=r.get' e
 rw [q1] at e2;cases e2
 exact ⟨Same.refl _,H1,.refl s2,q2.mono s1⟩
theorem zo4 (lo:Int) (n:Nat):RDs K H0 (zD lo n) (zck lo n):=by
 have:∀l:List Nat,RDs K H0 (l.map fun (i:Nat)=>D.int (lo+i)) (l.map fun (i:Nat)=>V.int (lo+i)):=by
  intro l
  induction l with
  | nil=>simp [RDs]
  | cons a l ih=>exact .cons (.mkInt _) ih
 exact this _
theorem ze9 {tg l:Expr} {f:DE->R D} (hl:QE X EX false l f):QI X EX false tg l (iL f):=⟨(zi3 hl.h).imp fun σ H Q ⟨sx,ρ,H0,s,e,h⟩=>by
 unfold iL at h
 rw [Rk.bind] at h
 refine TEd.go sx s e h fun d h v H1 H1' s1 e1 r1=>?_
 obtain ⟨ds,hd,h⟩:=h.of
 cases d<;>simp only [items] at hd<;>first | cases hd | skip
 . obtain ⟨a,xs,rfl,ha,ra⟩:=r1.tup
   exact zgj (e1.2.1 _ _ ha) (h _ H1 H1' s1 e1 (ze8 (fun H s=>s _ _ ha) ra))
 . obtain ⟨a,xs,rfl,ha,ra⟩:=r1.lst
   exact zak (.inl (e1.2.1 _ _ ha)) (h _ H1 H1' s1 e1 (ze8 (fun H s=>.inl (s _ _ ha)) ra))⟩
theorem zt0 {tg a:Expr} {p pos:Pos} {fs:DE->R (List D)} (hg:Gl X "range") (hm:X.mg "range"=none) (ha:QA X EX [a] fs) (hs:starEach [a] X.env=[(false,eval a X.env)]:=by rfl):QI X EX true tg (.Call (.Name "range" p) [a] [] pos) (zar fs):=⟨(zs0 hg hm ha.h hs).imp fun σ H Q ⟨sx,ρ,H0,s,e,h⟩=>by
 unfold zar at h
 rw [Rk.bind] at h
 refine TAd.go sx s e h fun ds h vs H1 H1' s1 e1 r1=>?_
 obtain ⟨es,hd,h⟩:=h.of
 split at hd<;>first | cases hd | skip
 obtain ⟨x,rfl,q1⟩:=r1.uno
 cases q1.int
 split at hd<;>cases hd
 rename_i hb
 exact ⟨hb,h _ H1 H1' s1 e1 (ze8 (fun _ _=>trivial) (zo4 _ _))⟩⟩
theorem zea {S:Hp->Prop} {xs ys:List V} {ds es:List D} (hS:∀H,Same H0 H->S H) (r:RDs K H0 ds xs) (r':RDs K H0 es ys):znq K (ItP S (xs.zip ys)) H0 ((ds.zip es).map fun p=>D.tup [p.1,p.2]):=by
 have hl:=r.length
 have hl':=r'.length
 have hz:((ds.zip es).map fun p=>D.tup [p.1,p.2]).length=(xs.zip ys).length:=by rw [List.length_map,List.length_zip,List.length_zip,hl,hl']
 refine ⟨fun i d e H H1 s1 s2=>⟨⟨hS H (s1.trans s2),by rw [<-hz];exact (List.getElem?_eq_some_iff.mp e).1⟩,fun x H' y=>?_⟩,fun H s=>⟨hS H s,hz⟩⟩
 obtain ⟨T,a,b,rfl,hT,rfl,ep⟩:=y
 obtain ⟨ea,eb⟩:=List.getElem?_zip_eq_some.mp ep
 obtain ⟨da,ga,ra⟩:=r.get ea
 obtain ⟨db,gb,rb⟩:=r'.get eb
 have gz:(ds.zip es)[i]?=some (da,db):=List.getElem?_zip_eq_some.mpr ⟨ga,gb⟩
 rw [List.getElem?_map,gz] at e
 cases e
 refine ⟨Same.upd_new hT,upd H1 T (.tup [a,b]),.new s2 hT,.mkTup z0e ?_⟩
 have sm:=Same.upd_new (o:=.tup [a,b]) (s2.none hT)
 exact .cons (ra.mono (s1.trans sm)) (.cons (rb.mono (s1.trans sm)) .nil)
theorem zv8 {elts:List Expr} {k:Nat} {a:Expr} {p pos tpos:Pos} {fs:DE->R (List D)} (hg:Gl X "enumerate") (hm:X.mg "enumerate"=none) (ha:QA X EX [a] fs) (hs:starEach [a] X.env=[(false,eval a X.env)]:=by rfl) :
  QI X EX false (.Tuple elts k tpos) (.Call (.Name "enumerate" p) [a] [] pos) (iEn fs):=⟨(zk8 hg hm ha.h hs).imp fun σ H Q ⟨sx,ρ,H0,s,e,h⟩=>by
 unfold iEn at h
 rw [Rk.bind] at h
 refine TAd.go sx s e h fun ds h vs H1 H1' s1 e1 r1=>?_
 obtain ⟨es,hd,h⟩:=h.of
 split at hd<;>first | cases hd | skip
 obtain ⟨x,rfl,q1⟩:=r1.uno
 obtain ⟨l,xs,rfl,hl,rl⟩:=q1.lst
 refine ⟨xs,.inl (e1.2.1 _ _ hl),h _ H1 H1' s1 e1 ?_⟩
 rw [rl.length]
 exact zea (fun H s=>.inl (s _ _ hl)) (zo4 _ _) rl⟩
end
section
variable {X:Cx} {sc:Scope} {caps:List Str} {ix:List Nat} {elt iter:Expr} {ifs:List Expr} {pos px py pz tpos:Pos} {x y z:Str} {kt:Nat} {kp:Bool} {EX:XW} {fi:DE->R (List D)} {t:DE->R Bool} {f:DE->R D}
noncomputable def z4v:DE->R Bool:=fun _=>.ok true
inductive PTq (X:Cx) (sc:Scope) (N:List Str):List Expr->(DE->R Bool)->Prop where
 | nil:PTq X sc N [] z4v
 | one {c:Expr} {t:DE->R Bool} (h:∀fp s H,QT (z1a X sc N fp s H) F0 c t):PTq X sc N [c] t
theorem PTq.run {N:List Str} (h:PTq X sc N ifs t):∃tt,(∀fp s H,PTs (z1a X sc N fp s H) ifs tt)/\∀σ H Q,TTd X.K F0 t σ H Q->tt σ H Q:=by
 cases h with
 | nil=>exact ⟨_,fun _ _ _=>.nil,fun σ H Q ⟨sx,ρ,H0,s,e,h⟩=>h H (Same.refl _)⟩
 | one h=>exact ⟨_,fun fp s H=>.one (h fp s H).h,fun _ _ _ q=>q⟩
theorem zt1 (C:CompOk X sc caps ix) (hN:([x]++caps).Nodup) (hx:sc.names.lookup x=some .local) (hi:QI X EX kp (.Name x px) iter fi) (ht:PTq X sc ([x]++caps) ifs t) (he:∀fp s H,QE (z1a X sc ([x]++caps) fp s H) F0 false elt f)
  (hs:∀x,foldedSetIterable iter X.env x=pure x:=by intro _;rfl):QE X EX true (.ListComp elt [⟨.Name x px,iter,ifs,0⟩] sc pos) (z14 fi b1 ix t f):=by
 obtain ⟨tt,h1,h2⟩:=ht.run
 refine ⟨(zgk C hN hx hi.h h1 (fun fp s H=>(he fp s H).h) hs).imp fun _ _ _ q=>zi8 zvz h2 q⟩
theorem zo5 (C:CompOk X sc caps ix) (hN:([x,y]++caps).Nodup) (hx:sc.names.lookup x=some .local) (hy:sc.names.lookup y=some .local) (hi:QI X EX kp (.Tuple [.Name x px,.Name y py] kt tpos) iter fi) (ht:PTq X sc ([x,y]++caps) ifs t)
  (he:∀fp s H,QE (z1a X sc ([x,y]++caps) fp s H) F0 false elt f) (hs:∀x,foldedSetIterable iter X.env x=pure x:=by intro _;rfl):QE X EX true (.ListComp elt [⟨.Tuple [.Name x px,.Name y py] kt tpos,iter,ifs,0⟩] sc pos) (z14 fi (bT 2) ix t f):=by
 obtain ⟨tt,h1,h2⟩:=ht.run
 refine ⟨(zgl C hN hx hy hi.h h1 (fun fp s H=>(he fp s H).h) hs).imp fun _ _ _ q=>zi8 zw0 h2 q⟩
end
section
variable {X:Cx} {EX:XW} {fr fr':Bool} {st:Stmt} {sts:List Stmt} {a b c e:Expr} {es:List Expr} {f fv fk:DE->R D} {fs:DE->R (List D)} {t:DE->R Bool} {g g1 g2:DS->SR} {pos p:Pos} {m:List Bool}
theorem z8m:QB X EX fr [] sNx:=⟨pss_nil.imp fun _ _ _ q=>zvw q⟩
theorem z1z (h:QS X EX fr st g):QB X EX fr [st] g:=⟨z9c h.h⟩
theorem z0g (h1:QS X EX fr st g1) (h2:QB X EX fr sts g2):QB X EX fr (st::sts) (z28 g1 g2):=⟨(z3u h1.h h2.h).imp fun _ _ _ q=>zke q⟩
theorem zih {x y:List Stmt} (hc:QT X EX c t) (ha:QB X EX fr x g1) (hb:QB X EX fr y g2):QS X EX fr (.If c x y pos) (sIf t g1 g2):=⟨(zmp hc.h ha.h hb.h).imp fun _ _ _ q=>zsk q⟩
theorem z2v (he:QE X EX fr e f):QS X EX fr (.Return (some e) pos) (z61 m f):=⟨(zmo he.h).imp fun _ _ _ q=>zsl q⟩
theorem z2m {i:Nat} {x:Str} {pos':Pos} (hN:X.N.Nodup) (hi:X.N[i]?=some x) (hx:Loc X.env.scope x) (he:QE X EX fr' e f) (hs:swapsWith e (some (.Name x pos')) pos.line X.env=pure false:=by rfl) (hf:X.fn x=true\/X.env.scope.names.lookup x=some .local:=by first | exact .inl rfl | exact .inr rfl | assumption) :
 QS X EX fr (.Assign [.Name x pos'] e pos) (z3q fr' i m f):=⟨(zcs hN hi hx he.h hs hf).imp fun _ _ _ q=>znn q⟩
theorem g_n {i:Nat} {x:Str} {pos:Pos} (hN:X.N.Nodup) (hi:X.N[i]?=some x) (hx:Loc X.env.scope x) (hf:X.fn x=true\/X.env.scope.names.lookup x=some .local:=by first | exact .inl rfl | exact .inr rfl | assumption):QG X (.Name x pos) (.n i):=⟨(z6y hN hi hx hf).imp fun _ _ _ _ q=>zvx q⟩
theorem z6k:QGs X [] []:=⟨zgm⟩
theorem z1v {i:Nat} {is:List Nat} {x:Str} {pos:Pos} {ts:List Expr} (hN:X.N.Nodup) (hi:X.N[i]?=some x) (hx:Loc X.env.scope x) (hr:QGs X ts is) (hf:X.fn x=true\/X.env.scope.names.lookup x=some .local:=by first | exact .inl rfl | exact .inr rfl | assumption)
 (hs:(assignEach (.Name x pos::ts) X.env).map (·.2)=assign (.Name x pos) X.env::(assignEach ts X.env).map (·.2):=by rfl):QGs X (.Name x pos::ts) (i::is):=⟨zdi (z6y hN hi hx hf) hr.h hs⟩
theorem g_t {is:List Nat} {ts:List Expr} {k:Nat} {pos:Pos} (hc:X.calm=true) (h:QGs X ts is) (hn:(assignEach ts X.env).length=is.length:=by rfl) (hst:(assignEach ts X.env).findIdx? (·.1)=none:=by rfl):QG X (.Tuple ts k pos) (.t is):=⟨(zdk hc h.h hn hst).imp fun _ _ _ _ q=>zv2 q⟩
theorem zbx {tg iter:Expr} {tt:Tg} {body:List Stmt} {kp:Bool} {fi:DE->R (List D)} (hp:PassesOwn (model X.prog X.w) X.A X.env X.xe) (hc:X.calm=true) (hi:QI X EX kp tg iter fi) (hg:QG X tg tt) (hb:QB X EX fr body g)
 (hs:∀x,foldedSetIterable iter X.env x=pure x:=by intro _;rfl):QS X EX fr (.For tg iter body [] pos) (zap kp m fi tt g):=⟨(z9i hp hc hi.h hg.h hb.h hs).imp fun _ _ _ q=>znr q⟩
noncomputable def zo6:D->List D->Option D
 | .lst ds,[d]=>if ds.length<100000 then some (.lst (ds++[d])) else none
 | _,_=>none
theorem zkn {K:Frag}:TyD K "list":=fun H0 H a d ob h=>by
 cases d<;>simp [isT] at h
 simp only [OB] at ob
 obtain ⟨xs,hx,_⟩:=ob
 exact .inl ⟨rfl,xs,.of hx⟩
theorem zo7 {K:Frag}:zsm K zo6 z54:=by
 intro H0 H a d d' ds vs Q s h0 ob r hm k
 unfold zo6 at hm
 split at hm<;>first | cases hm | skip
 split at hm<;>cases hm
 rename_i es e hl
 simp only [OB] at ob
 obtain ⟨xs,hx,rx⟩:=ob
 obtain ⟨y,rfl,q1⟩:=r.uno
 refine ⟨a,xs,y,rfl,rfl,hx,by rw [<-rx.length];exact z2z hl,k _ _ ?_⟩
 simp only [OB]
 exact ⟨_,z0e,rx.append (.one q1)⟩
theorem zt2 {T id:String} {name:Str} {i:Nat} {x:Str} {xp apos cpos:Pos} {mt:D->List D->Option D} {rr:V->List V->Hp->VK->Prop} (pa:PlainAttrs T) (slot:Slot T name id) (hty:typeOf (.builtin id)=pure (.type "method_descriptor")) (hm:MtM X id rr) (od:zsm X.K mt rr) (hT:TyD X.K T)
 (ho:PE X (.Name x xp) (z63 i)) (ha:QA X EX (e::es) fs)
 (hbase:attributeBase (.Name x xp) name X.env (eval (.Name x xp) X.env)=eval (.Name x xp) X.env:=by rfl)
 (hfew:((backTo cpos (starEach (e::es) X.env)).all (fun x=>!x.1)&&(backToKw cpos (keywordEach [] X.env)).all (fun x=>x.1.isSome)
  && decide ((e::es).length+([]:List Keyword).length+(if ([]:List Keyword).isEmpty then 0 else 1)<30))=true:=by rfl)
 (hline:(apos.endLine==cpos.line)=true:=by rfl) (hs:starEach (e::es) X.env=(false,eval e X.env)::starEach es X.env:=by rfl) (hplain:(backTo cpos (starEach es X.env)).any (·.1)=false:=by rfl)
 (hsw:swapsWith (.Call (.Attribute (.Name x xp) name apos) (e::es) [] cpos) none pos.line X.env=pure false:=by rfl) :
 QS X EX fr (.Expr (.Call (.Attribute (.Name x xp) name apos) (e::es) [] cpos) pos) (zno T mt i m fs):=⟨(z9d (zmz pa slot hty hm ho ha.h hbase hfew hline hs hplain) hsw).imp fun _ _ _ q=>zsn od hT q⟩
end
theorem fnD {P:Program} {w:World} {K:Frag} {mg:Str->Option Value} {base:Heap} {x qual:Str} {st:Stmt} {f:Addr} {fd:FuncData} {N ps:List Str} {k n kk:Nat} {fr:Bool} {g:DS->SR} (F:Fun K x qual st f fd) (S:FnScope N ps (z02 st)) (hps:ps.length=n) (hN:N.length=n+kk)
  (hbody:∀(cdv:Value) (A:Around) (outer:List Env) (s:Shared) (H:Hp) (E:XK),Room k (A.deeper (envOfC qual (z02 st) s.heap.objs.size f cdv)) ->
   QB (zg6 (CX1 P w) P w K mg base N qual (z02 st) f cdv A outer s H E) ⟨H,xNm mg E⟩ fr (z0k st) g):FnOk P w K mg base (CX1 P w) (k+1) f fd ps (spD K mg fr (mOf fr n kk g) n):=by
 have hlen:∀{vs:List V} {H:Hp} {Q:VK} {E:XK},spD K mg fr (mOf fr n kk g) n vs H Q E->vs.length=n:=fun {vs H Q E} h=>by
  obtain ⟨ds,H0,s,r,hn,_⟩:=h
  rw [<-r.length];exact hn
 refine F.okX S (fun vs H Q E h=>by rw [hlen h,hps]) (fun cdv A outer s H vs Q E hr h=>⟨_,(hbody cdv A outer s H E hr).h,?_⟩)
 have e:z49 N vs=vs.map some++List.replicate kk none:=by
  unfold z49
  rw [hlen h,hN,Nat.add_sub_cancel_left]
 rw [e]
 exact znt h
noncomputable def spL (K:Frag) (fr:Bool) (m:List D->R D) (n:Nat):Sp:=fun vs H Q _=>∃ds H0,Same H0 H/\RDs K H0 ds vs/\ds.length=n/\Rk (fun _=>False) (m ds) fun d=>∀v H',Out K fr H0 H d v H'->Q v H'
theorem spL.spD {K:Frag} {fr:Bool} {m:List D->R D} {n:Nat} {vs:List V} {H:Hp} {Q:VK} {E:XK} {mg:Str->Option Value} (h:spL K fr m n vs H Q E):L2.spD K mg fr m n vs H Q E:=by
 obtain ⟨ds,H0,s,r,hn,h⟩:=h
 refine ⟨ds,H0,s,r,hn,?_⟩
 cases q:m ds with
 | ok d=>rw [q] at h;exact h
 | er x=>rw [q] at h;exact h.elim
 | st=>rw [q] at h;exact h.elim
theorem zo8 {K:Frag} {H:Hp} {a:Addr} {ns:List Int} {m:List D->R D} {fr:Bool} (hO:zrd H) (hS:SqL K H a (ns.map V.int)) (h:m [.scr ns]=.ok (.bl true)):spL K fr m 1 [.ref a] H (fun v _=>v=.bl true) fun _ _ _=>False:=by
 refine ⟨[.scr ns],H,Same.refl _,.one ?_,rfl,?_⟩
 . simp only [RD]
   refine ⟨a,rfl,?_⟩
   rcases hS with (hS | hS) | hS
   . rcases hO a with z | ⟨o,xs,z⟩<;>rw [z] at hS<;>cases hS
   . exact .inl hS
   . exact .inr hS
 . rw [h]
   exact fun v H' o=>by
    obtain ⟨_,H0',_,r⟩:=o.weak.rd
    exact r.bl
end L2
namespace L2
open PySem PySem.Spec PyProof.Rows
open PySem.W (KasT kas_sort kas_rev kas_asc kas_desc kas_tail3 kas_descPart kas_count kas_place kas_bin)
noncomputable def z1f {α:Type} (lt:Nat->Nat->Bool):KasT α->α
 | .ret a=>a
 | .ask i j k=>z1f lt (k (lt i j))
theorem z2h {α β:Type} {lt:Nat->Nat->Bool} {f:α->KasT β}:∀t:KasT α,z1f lt (t.bind f)=z1f lt (f (z1f lt t))
 | .ret a=>rfl
 | .ask i j k=>by
  show z1f lt ((k (lt i j)).bind f)=_
  exact z2h (k (lt i j))
structure Ord (lt:Nat->Nat->Bool):Prop where
 irr:∀a,lt a a=false
 tr:∀{a b c},lt b a=false->lt c b=false->lt c a=false
 asy:∀{a b},lt a b=true->lt b a=false
section
variable {lt:Nat->Nat->Bool} {p:Array Nat}
abbrev g (p:Array Nat) (i:Nat):Nat:=p.getD i 0
def z4f (lt:Nat->Nat->Bool) (p:Array Nat) (m:Nat):Prop:=∀i j,i<=j->j<m->lt (g p j) (g p i)=false
def z7d (lt:Nat->Nat->Bool) (p:Array Nat) (m:Nat):Prop:=∀i j,i<=j->j<m->lt (g p i) (g p j)=false
theorem z5j {p q:Array Nat} {i j:Nat} (h:p[i]?=q[j]?):g p i=g q j:=by
 unfold g
 rw [Array.getD_eq_getD_getElem?,Array.getD_eq_getD_getElem?,h]
theorem z8n {i j:Nat} (hj:j<=p.size) (k:Nat):g (kas_rev p i j) k=if i<=k/\k<j then g p (i+j - 1 - k) else g p k:=by
 have e:=getElem?_mirror_all (i:=i) hj k
 split
 . rename_i h;rw [if_pos h] at e;exact z5j e
 . rename_i h;rw [if_neg h] at e;exact z5j e
theorem z7e {i j:Nat}:(kas_rev p i j).size=p.size:=mirror_size _ _ _ _
theorem rev_perm {i j:Nat}:(kas_rev p i j).Perm p:=mirror_perm _ _ _ _
theorem zeb (O:Ord lt):∀(f n:Nat),1<=n->z4f lt p n->n<=z1f lt (kas_asc p f n)/\z1f lt (kas_asc p f n)<=n+f/\z4f lt p (z1f lt (kas_asc p f n)) /\
  (z1f lt (kas_asc p f n)=n+f\/lt (g p (z1f lt (kas_asc p f n))) (g p (z1f lt (kas_asc p f n) - 1))=true)
 | 0,n,h1,hs=>⟨Nat.le_refl _,Nat.le_refl _,hs,.inl rfl⟩
 | f+1,n,h1,hs=>by
  unfold kas_asc
  simp only [z1f]
  cases hc:lt (p.getD n 0) (p.getD (n - 1) 0) with
  | true=>simp only [if_true,z1f];exact ⟨Nat.le_refl _,by omega,hs,.inr hc⟩
  | false=>
   simp only [Bool.false_eq_true,if_false]
   have hs':z4f lt p (n+1):=fun i j hij hj=>by
    by_cases hjn:j=n
    . subst hjn
      by_cases hi:i=j
      . subst hi;exact O.irr _
      . exact O.tr (hs i (j - 1) (by omega) (by omega)) hc
    . exact hs i j hij (by omega)
   obtain ⟨a,b,c,d⟩:=zeb O f (n+1) (by omega) hs'
   exact ⟨by omega,by omega,c,d.imp (fun z=>by omega) id⟩
def zo9 (lt:Nat->Nat->Bool) (p:Array Nat) (n q:Nat):Prop:=∀i j,n - (q+1)<=i->i<n->n - (q+1)<=j->j<n->lt (g p i) (g p j)=false
theorem zec (O:Ord lt) {n q:Nat} (hn:n<=p.size) (hq:q+1<=n) (hs:z7d lt p n) (he:zo9 lt p n q):z7d lt (kas_rev p (n - (q+1)) n) n:=by
 intro i j hij hj
 rw [z8n hn,z8n hn]
 split<;>split
 . exact he _ _ (by omega) (by omega) (by omega) (by omega)
 . omega
 . exact hs _ _ (by omega) (by omega)
 . exact hs i j hij hj
theorem z7f (O:Ord lt):∀(f:Nat) (p:Array Nat) (n q:Nat),n+f<=p.size->q+1<=n->z7d lt p n->zo9 lt p n q ->
  (z1f lt (kas_desc f p n q)).1.Perm p/\n<=(z1f lt (kas_desc f p n q)).2.1/\(z1f lt (kas_desc f p n q)).2.1<=n+f/\(z1f lt (kas_desc f p n q)).2.2+1<=(z1f lt (kas_desc f p n q)).2.1 /\
   z7d lt (z1f lt (kas_desc f p n q)).1 (z1f lt (kas_desc f p n q)).2.1/\zo9 lt (z1f lt (kas_desc f p n q)).1 (z1f lt (kas_desc f p n q)).2.1 (z1f lt (kas_desc f p n q)).2.2
 | 0,p,n,q,hn,hq,hs,he=>⟨Array.Perm.refl _,Nat.le_refl _,Nat.le_refl _,hq,hs,he⟩
 | f+1,p,n,q,hn,hq,hs,he=>by
  unfold kas_desc
  simp only [z1f]
  have eq0:∀(p':Array Nat),zo9 lt p' (n+1) 0:=fun p' i j h1 h2 h3 h4=>by
   have:i=j:=by omega
   subst this;exact O.irr _
  have step:∀(p':Array Nat),p'.size=p.size->z7d lt p' n->lt (g p' n) (g p' (n - 1))=true->z7d lt p' (n+1):=fun p' _ hs' hc i j hij hj=>by
   by_cases hjn:j=n
   . subst hjn
     by_cases hi:i=j
     . subst hi;exact O.irr _
     . exact O.tr (O.asy hc) (hs' i (j - 1) (by omega) (by omega))
   . exact hs' i j hij (by omega)
  cases hc:lt (p.getD n 0) (p.getD (n - 1) 0) with
  | true=>
   simp only [if_true]
   by_cases hq0:q > 0
   . rw [if_pos hq0]
     have hr:=zec O (by omega) hq hs he
     have hz:(kas_rev p (n - (q+1)) n).size=p.size:=z7e
     have hc':lt (g (kas_rev p (n - (q+1)) n) n) (g (kas_rev p (n - (q+1)) n) (n - 1))=true:=by
      rw [z8n (by omega),z8n (by omega),if_neg (by omega),if_pos (by omega)]
      have e1:lt (g p (n - (q+1)+n - 1 - (n - 1))) (g p (n - 1))=false:=he _ _ (by omega) (by omega) (by omega) (by omega)
      have e2:lt (g p (n - 1)) (g p (n - (q+1)+n - 1 - (n - 1)))=false:=he _ _ (by omega) (by omega) (by omega) (by omega)
      cases hx:lt (g p n) (g p (n - (q+1)+n - 1 - (n - 1))) with
      | true=>rfl
      | false=>
       have z:=O.tr e1 hx
       rw [show lt (g p n) (g p (n - 1))=true from hc] at z
       cases z
     obtain ⟨a1,a2,a3,a4,a5,a6⟩:=z7f O f _ (n+1) 0 (by rw [hz];omega) (by omega) (step _ hz hr hc') (eq0 _)
     exact ⟨a1.trans rev_perm,by omega,by omega,a4,a5,a6⟩
   . rw [if_neg hq0]
     obtain ⟨a1,a2,a3,a4,a5,a6⟩:=z7f O f p (n+1) 0 (by omega) (by omega) (step _ rfl hs hc) (eq0 _)
     exact ⟨a1,by omega,by omega,a4,a5,a6⟩
  | false=>
   simp only [Bool.false_eq_true,if_false,z1f]
   cases hd:lt (p.getD (n - 1) 0) (p.getD n 0) with
   | true=>simp only [if_true,z1f];exact ⟨Array.Perm.refl _,Nat.le_refl _,by omega,hq,hs,he⟩
   | false=>
    simp only [Bool.false_eq_true,if_false]
    have hs':z7d lt p (n+1):=fun i j hij hj=>by
     by_cases hjn:j=n
     . subst hjn
       by_cases hi:i=j
       . subst hi;exact O.irr _
       . exact O.tr hd (hs i (j - 1) (by omega) (by omega))
     . exact hs i j hij (by omega)
    have he':zo9 lt p (n+1) (q+1):=fun i j h1 h2 h3 h4=>by
     by_cases hi:i=n<;>by_cases hj:j=n
     . rw [hi,hj];exact O.irr _
     . rw [hi];exact O.tr (he (n - 1) j (by omega) (by omega) (by omega) (by omega)) hc
     . rw [hj];exact O.tr hd (he i (n - 1) (by omega) (by omega) (by omega) (by omega))
     . exact he i j (by omega) (by omega) (by omega) (by omega)
    obtain ⟨a1,a2,a3,a4,a5,a6⟩:=z7f O f p (n+1) (q+1) (by omega) (by omega) hs' he'
    exact ⟨a1,by omega,by omega,a4,a5,a6⟩
theorem zas (O:Ord lt) {n nrem:Nat} (h1:1<=n) (hn:n<=nrem) (hz:nrem<=p.size) (hs:z7d lt p n) :
  n<=(z1f lt (kas_tail3 n nrem p)).1/\(z1f lt (kas_tail3 n nrem p)).1<=nrem/\(z1f lt (kas_tail3 n nrem p)).2.Perm p/\z4f lt (z1f lt (kas_tail3 n nrem p)).2 (z1f lt (kas_tail3 n nrem p)).1:=by
 unfold kas_tail3
 rw [z2h]
 simp only [z1f]
 have hs':z4f lt (kas_rev p 0 n) n:=fun i j hij hj=>by
  rw [z8n (by omega),z8n (by omega),if_pos (by omega),if_pos (by omega)]
  exact hs _ _ (by omega) (by omega)
 obtain ⟨a,b,c,_⟩:=zeb O (nrem - n) n h1 hs'
 exact ⟨a,by omega,rev_perm,c⟩
theorem z5k (O:Ord lt) {n nrem:Nat} (hn:n+1<=nrem) (hz:nrem<=p.size) (hs:z7d lt p (n+1)) :
  1<=(z1f lt (kas_descPart n nrem p)).1/\(z1f lt (kas_descPart n nrem p)).1<=nrem/\(z1f lt (kas_descPart n nrem p)).2.Perm p/\z4f lt (z1f lt (kas_descPart n nrem p)).2 (z1f lt (kas_descPart n nrem p)).1:=by
 unfold kas_descPart
 rw [z2h]
 obtain ⟨a1,a2,a3,a4,a5,a6⟩:=z7f O (nrem - (n+1)) p (n+1) 0 (by omega) (by omega) hs (fun i j h1 h2 h3 h4=>by
  have:i=j:=by omega
  subst this;exact O.irr _)
 generalize hr:z1f lt (kas_desc (nrem - (n+1)) p (n+1) 0)=r at *
 have hsz:r.1.size=p.size:=a1.size_eq
 split
 . rename_i hq
   obtain ⟨b1,b2,b3,b4⟩:=zas (nrem:=nrem) O (by omega) (by omega) (by rw [z7e,hsz];exact hz) (zec O (by rw [hsz];omega) a4 a5 a6)
   exact ⟨by omega,b2,b3.trans (rev_perm.trans a1),b4⟩
 . obtain ⟨b1,b2,b3,b4⟩:=zas (nrem:=nrem) O (by omega) (by omega) (by rw [hsz];exact hz) a5
   exact ⟨by omega,b2,b3.trans a1,b4⟩
theorem zgx (O:Ord lt) {nrem:Nat} (h1:1<=nrem) (hz:nrem<=p.size) :
  1<=(z1f lt (kas_count nrem p)).1/\(z1f lt (kas_count nrem p)).1<=nrem/\(z1f lt (kas_count nrem p)).2.Perm p/\z4f lt (z1f lt (kas_count nrem p)).2 (z1f lt (kas_count nrem p)).1:=by
 unfold kas_count
 rw [z2h]
 have h0:z4f lt p 1:=fun i j hij hj=>by
  have:i=j:=by omega
  subst this;exact O.irr _
 obtain ⟨a,b,c,d⟩:=zeb O (nrem - 1) 1 (Nat.le_refl _) h0
 generalize hm:z1f lt (kas_asc p (nrem - 1) 1)=m at *
 by_cases he:m=nrem
 . rw [if_pos (by simpa using he)]
   exact ⟨a,by show m<=nrem;omega,Array.Perm.refl _,c⟩
 . rw [if_neg (by simpa using he)]
   have hlt:lt (g p m) (g p (m - 1))=true:=d.resolve_left (by omega)
   by_cases hg:m > 1
   . rw [if_pos hg]
     simp only [z1f]
     cases hc:lt (p.getD 0 0) (p.getD (m - 1) 0) with
     | true=>simp only [if_true,z1f];exact ⟨a,by omega,Array.Perm.refl _,c⟩
     | false=>
      simp only [Bool.false_eq_true,if_false]
      have al:∀i j,i<m->j<m->lt (g p i) (g p j)=false:=fun i j hi hj=>
       O.tr (O.tr (c j (m - 1) (by omega) (by omega)) hc) (c 0 i (by omega) hi)
      obtain ⟨b1,b2,b3,b4⟩:=z5k (p:=kas_rev p 0 m) (n:=m) (nrem:=nrem) O (by omega) (by rw [z7e];exact hz) (fun i j hij hj=>by
       rw [z8n (by omega),z8n (by omega)]
       by_cases hjm:j<m
       . rw [if_pos (by omega),if_pos (by omega)];exact al _ _ (by omega) (by omega)
       . have hj':j=m:=by omega
         subst hj'
         by_cases hi:i=j
         . subst hi;rw [if_neg (by omega)];exact O.irr _
         . rw [if_pos (by omega),if_neg (by omega)]
           exact O.tr (O.asy hlt) (al _ _ (by omega) (by omega)))
      exact ⟨b1,b2,b3.trans rev_perm,b4⟩
   . rw [if_neg hg]
     have hm1:m=1:=by omega
     exact z5k O (by omega) hz fun i j hij hj=>by
      by_cases hi:i=j
      . subst hi;exact O.irr _
      . have hi0:i=0:=by omega
        have hj1:j=1:=by omega
        subst hi0;subst hj1
        rw [hm1] at hlt
        exact O.asy hlt
theorem z7g (O:Ord lt) {k:Nat} (hs:z4f lt p k):∀(f l r:Nat),l<=r->r<=k->r - l<=f->(∀i,i<l->lt (g p k) (g p i)=false)->(∀i,r<=i->i<k->lt (g p k) (g p i)=true) ->
  z1f lt (kas_place p k f l r)<=k/\(∀i,i<z1f lt (kas_place p k f l r)->lt (g p k) (g p i)=false)/\∀i,z1f lt (kas_place p k f l r)<=i->i<k->lt (g p k) (g p i)=true
 | 0,l,r,h1,h2,h3,hl,hr=>by
  have:l=r:=by omega
  subst this
  exact ⟨h2,hl,hr⟩
 | f+1,l,r,h1,h2,h3,hl,hr=>by
  unfold kas_place
  by_cases hlr:l ≥ r
  . rw [if_pos hlr]
    have:l=r:=by omega
    subst this
    exact ⟨h2,hl,hr⟩
  . rw [if_neg hlr]
    simp only [z1f]
    cases hc:lt (p.getD k 0) (p.getD ((l+r) / 2) 0) with
    | true=>
     simp only [if_true]
     refine z7g O hs f l ((l+r) / 2) (by omega) (by omega) (by omega) hl fun i hi hik=>?_
     cases hx:lt (g p k) (g p i) with
     | true=>rfl
     | false=>
      have:=O.tr (hs ((l+r) / 2) i hi hik) hx
      rw [show lt (g p k) (g p ((l+r) / 2))=true from hc] at this;cases this
    | false=>
     simp only [Bool.false_eq_true,if_false]
     exact z7g O hs f ((l+r) / 2+1) r (by omega) h2 (by omega) (fun i hi=>O.tr (hs i ((l+r) / 2) (by omega) (by omega)) hc) hr
theorem zat {k d:Nat} (hk:k<p.size) (hd:d<=k) (i:Nat):g (bubble p k d) i=if i=k - d then g p k else if k - d<i/\i<=k then g p (i - 1) else g p i:=by
 have e:=getElem?_bubble hk d hd i
 by_cases h:i=k - d
 . rw [if_pos h] at e ⊢;exact z5j e
 . rw [if_neg h] at e ⊢
   by_cases h2:k - d<i/\i<=k
   . rw [if_pos h2] at e ⊢;exact z5j e
   . rw [if_neg h2] at e ⊢;exact z5j e
theorem zii (O:Ord lt):∀(f:Nat) (p:Array Nat) (k:Nat),k+f<=p.size->z4f lt p k->(z1f lt (kas_bin f p k)).Perm p/\z4f lt (z1f lt (kas_bin f p k)) (k+f)
 | 0,p,k,h,hs=>⟨Array.Perm.refl _,hs⟩
 | f+1,p,k,h,hs=>by
  unfold kas_bin
  rw [z2h]
  obtain ⟨a,b,c⟩:=z7g O hs k 0 k (Nat.zero_le _) (Nat.le_refl _) (by omega) (fun i hi=>absurd hi (Nat.not_lt_zero _)) (fun i h1 h2=>absurd h2 (by omega))
  generalize hl:z1f lt (kas_place p k k 0 k)=l at *
  have hs':z4f lt (bubble p k (k - l)) (k+1):=fun i j hij hj=>by
   rw [zat (by omega) (by omega),zat (by omega) (by omega)]
   have hkl:k - (k - l)=l:=by omega
   rw [hkl]
   by_cases hj1:j=l
   . rw [if_pos hj1]
     by_cases hi1:i=l
     . rw [if_pos hi1];exact O.irr _
     . rw [if_neg hi1,if_neg (by omega)];exact b i (by omega)
   . rw [if_neg hj1]
     by_cases hj2:l<j/\j<=k
     . rw [if_pos hj2]
       by_cases hi1:i=l
       . rw [if_pos hi1];exact O.asy (c (j - 1) (by omega) (by omega))
       . rw [if_neg hi1]
         by_cases hi2:l<i/\i<=k
         . rw [if_pos hi2];exact hs _ _ (by omega) (by omega)
         . rw [if_neg hi2];exact hs _ _ (by omega) (by omega)
     . rw [if_neg hj2,if_neg (by omega),if_neg (by omega)]
       exact hs _ _ hij (by omega)
  obtain ⟨a1,a2⟩:=zii O f (bubble p k (k - l)) (k+1) (by rw [bubble_size];omega) hs'
  exact ⟨a1.trans (bubble_perm _ _ _),by rw [show k+(f+1)=k+1+f by omega];exact a2⟩
theorem zed (O:Ord lt) {n:Nat} (h1:1<=n):(z1f lt (kas_sort n)).Perm (List.toArray (List.range n))/\z4f lt (z1f lt (kas_sort n)) n:=by
 unfold kas_sort
 rw [z2h]
 obtain ⟨a,b,c,d⟩:=zgx (p:=List.toArray (List.range n)) O h1 (by simp)
 generalize z1f lt (kas_count n (List.toArray (List.range n)))=r at *
 have hsz:r.2.size=n:=by rw [c.size_eq];simp
 split
 . rename_i hr
   obtain ⟨a1,a2⟩:=zii O (n - max r.1 1) r.2 (max r.1 1) (by omega) (by rw [show max r.1 1=r.1 by omega];exact d)
   exact ⟨a1.trans c,by rw [show max r.1 1+(n - max r.1 1)=n by omega] at a2;exact a2⟩
 . rename_i hr
   have:r.1=n:=by omega
   exact ⟨c,by rw [this] at d;exact d⟩
end
end L2
namespace L2
open PySem PySem.Spec PyProof.Rows
open PySem.W (KasT kas_sort)
mutual
noncomputable def D.oi:D->Bool
 | .int _=>true
 | .tup ds=>ois ds
 | _=>false
noncomputable def ois:List D->Bool
 | []=>true
 | d::ds=>d.oi&&ois ds
end
mutual
noncomputable def ltT:D->D->Bool
 | .int i,.int j=>decide (i<j)
 | .int _,.tup _=>true
 | .tup ds,.tup es=>z47 ds es
 | _,_=>false
noncomputable def z47:List D->List D->Bool
 | [],[]=>false
 | [],_::_=>true
 | _::_,[]=>false
 | d::ds,e::es=>if eqD d e=true then z47 ds es else ltT d e
end
mutual
noncomputable def z21:D->D->Option Bool
 | .int i,.int j=>some (decide (i<j))
 | .tup ds,.tup es=>z20 ds es
 | _,_=>none
noncomputable def z20:List D->List D->Option Bool
 | [],[]=>some false
 | [],_::_=>some true
 | _::_,[]=>some false
 | d::ds,e::es=>if eqD d e=true then z20 ds es else z21 d e
end
mutual
theorem zee:∀{d e:D} {b:Bool},z21 d e=some b->b=ltT d e
 | .int i,.int j,b,h=>by simp only [z21,Option.some.injEq] at h;simp only [ltT];exact h.symm
 | .tup ds,.tup es,b,h=>by simp only [z21] at h;simp only [ltT];exact zef h
 | .non,e,b,h=>by simp [z21] at h
 | .bl _,e,b,h=>by simp [z21] at h
 | .str _,e,b,h=>by simp [z21] at h
 | .lst _,e,b,h=>by simp [z21] at h
 | .dk _ _,e,b,h=>by simp [z21] at h
 | .dt _ _,e,b,h=>by simp [z21] at h
 | .dn _ _,e,b,h=>by simp [z21] at h
 | .scr _,e,b,h=>by simp [z21] at h
 | .exc _,e,b,h=>by simp [z21] at h
 | .int _,.non,b,h=>by simp [z21] at h
 | .int _,.bl _,b,h=>by simp [z21] at h
 | .int _,.str _,b,h=>by simp [z21] at h
 | .int _,.lst _,b,h=>by simp [z21] at h
 | .int _,.tup _,b,h=>by simp [z21] at h
 | .int _,.dk _ _,b,h=>by simp [z21] at h
 | .int _,.dt _ _,b,h=>by simp [z21] at h
 | .int _,.dn _ _,b,h=>by simp [z21] at h
 | .int _,.scr _,b,h=>by simp [z21] at h
 | .int _,.exc _,b,h=>by simp [z21] at h
 | .tup _,.non,b,h=>by simp [z21] at h
 | .tup _,.bl _,b,h=>by simp [z21] at h
 | .tup _,.int _,b,h=>by simp [z21] at h
 | .tup _,.str _,b,h=>by simp [z21] at h
 | .tup _,.lst _,b,h=>by simp [z21] at h
 | .tup _,.dk _ _,b,h=>by simp [z21] at h
 | .tup _,.dt _ _,b,h=>by simp [z21] at h
 | .tup _,.dn _ _,b,h=>by simp [z21] at h
 | .tup _,.scr _,b,h=>by simp [z21] at h
 | .tup _,.exc _,b,h=>by simp [z21] at h
theorem zef:∀{ds es:List D} {b:Bool},z20 ds es=some b->b=z47 ds es
 | [],[],b,h=>by simp only [z20,Option.some.injEq] at h;simp only [z47];exact h.symm
 | [],_::_,b,h=>by simp only [z20,Option.some.injEq] at h;simp only [z47];exact h.symm
 | _::_,[],b,h=>by simp only [z20,Option.some.injEq] at h;simp only [z47];exact h.symm
 | d::ds,e::es,b,h=>by
  simp only [z20] at h
  simp only [z47]
  split at h
  . rename_i q;rw [if_pos q];exact zef h
  . rename_i q;rw [if_neg q];exact zee h
end
mutual
theorem zby:∀{d e:D},d.oi=true->eqD d e=true->e.oi=true->d=e
 | .int i,.int j,_,h,_=>by simp only [eqD,beq_iff_eq] at h;rw [h]
 | .tup ds,.tup es,p,h,q=>by
  simp only [eqD] at h
  simp only [D.oi] at p q
  rw [zij p h q]
 | .int i,.tup _,_,h,_=>by simp [eqD] at h
 | .tup _,.int _,_,h,_=>by simp [eqD] at h
 | .int _,.non,_,_,q=>by simp [D.oi] at q
 | .int _,.bl _,_,_,q=>by simp [D.oi] at q
 | .int _,.str _,_,_,q=>by simp [D.oi] at q
 | .int _,.lst _,_,_,q=>by simp [D.oi] at q
 | .int _,.dk _ _,_,_,q=>by simp [D.oi] at q
 | .int _,.dt _ _,_,_,q=>by simp [D.oi] at q
 | .int _,.dn _ _,_,_,q=>by simp [D.oi] at q
 | .int _,.scr _,_,_,q=>by simp [D.oi] at q
 | .int _,.exc _,_,_,q=>by simp [D.oi] at q
 | .tup _,.non,_,_,q=>by simp [D.oi] at q
 | .tup _,.bl _,_,_,q=>by simp [D.oi] at q
 | .tup _,.str _,_,_,q=>by simp [D.oi] at q
 | .tup _,.lst _,_,_,q=>by simp [D.oi] at q
 | .tup _,.dk _ _,_,_,q=>by simp [D.oi] at q
 | .tup _,.dt _ _,_,_,q=>by simp [D.oi] at q
 | .tup _,.dn _ _,_,_,q=>by simp [D.oi] at q
 | .tup _,.scr _,_,_,q=>by simp [D.oi] at q
 | .tup _,.exc _,_,_,q=>by simp [D.oi] at q
 | .non,_,p,_,_=>by simp [D.oi] at p
 | .bl _,_,p,_,_=>by simp [D.oi] at p
 | .str _,_,p,_,_=>by simp [D.oi] at p
 | .lst _,_,p,_,_=>by simp [D.oi] at p
 | .dk _ _,_,p,_,_=>by simp [D.oi] at p
 | .dt _ _,_,p,_,_=>by simp [D.oi] at p
 | .dn _ _,_,p,_,_=>by simp [D.oi] at p
 | .scr _,_,p,_,_=>by simp [D.oi] at p
 | .exc _,_,p,_,_=>by simp [D.oi] at p
theorem zij:∀{ds es:List D},ois ds=true->z3w ds es=true->ois es=true->ds=es
 | [],[],_,_,_=>rfl
 | [],_::_,_,h,_=>by simp [z3w] at h
 | _::_,[],_,h,_=>by simp [z3w] at h
 | d::ds,e::es,p,h,q=>by
  simp only [z3w,Bool.and_eq_true] at h
  simp only [ois,Bool.and_eq_true] at p q
  rw [zby p.1 h.1 q.1,zij p.2 h.2 q.2]
end
mutual
theorem z7h:∀{d:D},d.oi=true->eqD d d=true
 | .int i,_=>by simp [eqD]
 | .tup ds,p=>by simp only [eqD];exact zau (by simpa only [D.oi] using p)
 | .non,p=>by simp [D.oi] at p
 | .bl _,p=>by simp [D.oi] at p
 | .str _,p=>by simp [D.oi] at p
 | .lst _,p=>by simp [D.oi] at p
 | .dk _ _,p=>by simp [D.oi] at p
 | .dt _ _,p=>by simp [D.oi] at p
 | .dn _ _,p=>by simp [D.oi] at p
 | .scr _,p=>by simp [D.oi] at p
 | .exc _,p=>by simp [D.oi] at p
theorem zau:∀{ds:List D},ois ds=true->z3w ds ds=true
 | [],_=>rfl
 | d::ds,p=>by
  simp only [ois,Bool.and_eq_true] at p
  simp only [z3w,z7h p.1,zau p.2,Bool.and_self]
end
mutual
theorem z8o:∀{d e:D},d.oi=true->e.oi=true->ltT d e=false->ltT e d=false->d=e
 | .int i,.int j,_,_,h,h'=>by
  simp only [ltT,decide_eq_false_iff_not] at h h'
  have:i=j:=by omega
  rw [this]
 | .tup ds,.tup es,p,q,h,h'=>by
  simp only [ltT] at h h'
  simp only [D.oi] at p q
  rw [zeg p q h h']
 | .int _,.tup _,_,_,h,_=>by simp [ltT] at h
 | .tup _,.int _,_,_,_,h=>by simp [ltT] at h
 | .int _,.non,_,q,_,_=>by simp [D.oi] at q
 | .int _,.bl _,_,q,_,_=>by simp [D.oi] at q
 | .int _,.str _,_,q,_,_=>by simp [D.oi] at q
 | .int _,.lst _,_,q,_,_=>by simp [D.oi] at q
 | .int _,.dk _ _,_,q,_,_=>by simp [D.oi] at q
 | .int _,.dt _ _,_,q,_,_=>by simp [D.oi] at q
 | .int _,.dn _ _,_,q,_,_=>by simp [D.oi] at q
 | .int _,.scr _,_,q,_,_=>by simp [D.oi] at q
 | .int _,.exc _,_,q,_,_=>by simp [D.oi] at q
 | .tup _,.non,_,q,_,_=>by simp [D.oi] at q
 | .tup _,.bl _,_,q,_,_=>by simp [D.oi] at q
 | .tup _,.str _,_,q,_,_=>by simp [D.oi] at q
 | .tup _,.lst _,_,q,_,_=>by simp [D.oi] at q
 | .tup _,.dk _ _,_,q,_,_=>by simp [D.oi] at q
 | .tup _,.dt _ _,_,q,_,_=>by simp [D.oi] at q
 | .tup _,.dn _ _,_,q,_,_=>by simp [D.oi] at q
 | .tup _,.scr _,_,q,_,_=>by simp [D.oi] at q
 | .tup _,.exc _,_,q,_,_=>by simp [D.oi] at q
 | .non,_,p,_,_,_=>by simp [D.oi] at p
 | .bl _,_,p,_,_,_=>by simp [D.oi] at p
 | .str _,_,p,_,_,_=>by simp [D.oi] at p
 | .lst _,_,p,_,_,_=>by simp [D.oi] at p
 | .dk _ _,_,p,_,_,_=>by simp [D.oi] at p
 | .dt _ _,_,p,_,_,_=>by simp [D.oi] at p
 | .dn _ _,_,p,_,_,_=>by simp [D.oi] at p
 | .scr _,_,p,_,_,_=>by simp [D.oi] at p
 | .exc _,_,p,_,_,_=>by simp [D.oi] at p
theorem zeg:∀{ds es:List D},ois ds=true->ois es=true->z47 ds es=false->z47 es ds=false->ds=es
 | [],[],_,_,_,_=>rfl
 | [],_::_,_,_,h,_=>by simp [z47] at h
 | _::_,[],_,_,_,h=>by simp [z47] at h
 | d::ds,e::es,p,q,h,h'=>by
  simp only [ois,Bool.and_eq_true] at p q
  simp only [z47] at h h'
  by_cases w:eqD d e=true
  . have:=zby p.1 w q.1
    subst this
    rw [if_pos w] at h
    rw [if_pos w] at h'
    rw [zeg p.2 q.2 h h']
  . have w':¬eqD e d=true:=fun z=>w (by rw [zby q.1 z p.1];exact z7h p.1)
    rw [if_neg w] at h
    rw [if_neg w'] at h'
    have:=z8o p.1 q.1 h h'
    subst this
    exact absurd (z7h p.1) w
end
mutual
theorem z8p:∀{d:D},d.oi=true->ltT d d=false
 | .int i,_=>by simp [ltT]
 | .tup ds,p=>by simp only [ltT];exact zeh (by simpa only [D.oi] using p)
 | .non,p=>by simp [D.oi] at p
 | .bl _,p=>by simp [D.oi] at p
 | .str _,p=>by simp [D.oi] at p
 | .lst _,p=>by simp [D.oi] at p
 | .dk _ _,p=>by simp [D.oi] at p
 | .dt _ _,p=>by simp [D.oi] at p
 | .dn _ _,p=>by simp [D.oi] at p
 | .scr _,p=>by simp [D.oi] at p
 | .exc _,p=>by simp [D.oi] at p
theorem zeh:∀{ds:List D},ois ds=true->z47 ds ds=false
 | [],_=>rfl
 | d::ds,p=>by
  simp only [ois,Bool.and_eq_true] at p
  simp only [z47]
  rw [if_pos (z7h p.1)]
  exact zeh p.2
end
mutual
theorem zbz:∀{d e f:D},d.oi=true->e.oi=true->f.oi=true->ltT d e=true->ltT e f=true->ltT d f=true
 | .int i,.int j,.int k,_,_,_,h,h'=>by
  simp only [ltT,decide_eq_true_eq] at h h' ⊢
  omega
 | .int i,.int j,.tup _,_,_,_,h,h'=>by simp only [ltT]
 | .int i,.tup _,.tup _,_,_,_,h,h'=>by simp only [ltT]
 | .tup ds,.tup es,.tup fs,p,q,r,h,h'=>by
  simp only [ltT] at h h' ⊢
  simp only [D.oi] at p q r
  exact zik p q r h h'
 | .int i,.tup _,.int _,_,_,_,h,h'=>by simp [ltT] at h'
 | .tup _,.int _,_,_,_,_,h,h'=>by simp [ltT] at h
 | .tup _,.tup _,.int _,_,_,_,h,h'=>by simp [ltT] at h'
 | .non,_,_,p,_,_,_,_=>by simp [D.oi] at p
 | .bl _,_,_,p,_,_,_,_=>by simp [D.oi] at p
 | .str _,_,_,p,_,_,_,_=>by simp [D.oi] at p
 | .lst _,_,_,p,_,_,_,_=>by simp [D.oi] at p
 | .dk _ _,_,_,p,_,_,_,_=>by simp [D.oi] at p
 | .dt _ _,_,_,p,_,_,_,_=>by simp [D.oi] at p
 | .dn _ _,_,_,p,_,_,_,_=>by simp [D.oi] at p
 | .scr _,_,_,p,_,_,_,_=>by simp [D.oi] at p
 | .exc _,_,_,p,_,_,_,_=>by simp [D.oi] at p
 | _,.non,_,_,p,_,_,_=>by simp [D.oi] at p
 | _,.bl _,_,_,p,_,_,_=>by simp [D.oi] at p
 | _,.str _,_,_,p,_,_,_=>by simp [D.oi] at p
 | _,.lst _,_,_,p,_,_,_=>by simp [D.oi] at p
 | _,.dk _ _,_,_,p,_,_,_=>by simp [D.oi] at p
 | _,.dt _ _,_,_,p,_,_,_=>by simp [D.oi] at p
 | _,.dn _ _,_,_,p,_,_,_=>by simp [D.oi] at p
 | _,.scr _,_,_,p,_,_,_=>by simp [D.oi] at p
 | _,.exc _,_,_,p,_,_,_=>by simp [D.oi] at p
 | _,_,.non,_,_,p,_,_=>by simp [D.oi] at p
 | _,_,.bl _,_,_,p,_,_=>by simp [D.oi] at p
 | _,_,.str _,_,_,p,_,_=>by simp [D.oi] at p
 | _,_,.lst _,_,_,p,_,_=>by simp [D.oi] at p
 | _,_,.dk _ _,_,_,p,_,_=>by simp [D.oi] at p
 | _,_,.dt _ _,_,_,p,_,_=>by simp [D.oi] at p
 | _,_,.dn _ _,_,_,p,_,_=>by simp [D.oi] at p
 | _,_,.scr _,_,_,p,_,_=>by simp [D.oi] at p
 | _,_,.exc _,_,_,p,_,_=>by simp [D.oi] at p
theorem zik:∀{ds es fs:List D},ois ds=true->ois es=true->ois fs=true->z47 ds es=true->z47 es fs=true->z47 ds fs=true
 | [],_,_::_,_,_,_,_,_=>by simp only [z47]
 | _,[],[],_,_,_,_,h=>by simp [z47] at h
 | _::_,[],_,_,_,_,h,_=>by simp [z47] at h
 | _,_::_,[],_,_,_,_,h=>by simp [z47] at h
 | d::ds,e::es,f::fs,p,q,r,h,h'=>by
  simp only [ois,Bool.and_eq_true] at p q r
  simp only [z47] at h h' ⊢
  by_cases w:eqD d e=true
  . have:=zby p.1 w q.1
    subst this
    rw [if_pos w] at h
    by_cases w2:eqD d f=true
    . rw [if_pos w2] at h' ⊢;exact zik p.2 q.2 r.2 h h'
    . rw [if_neg w2] at h' ⊢;exact h'
  . rw [if_neg w] at h
    by_cases w2:eqD e f=true
    . have:=zby q.1 w2 r.1
      subst this
      rw [if_neg w];exact h
    . rw [if_neg w2] at h'
      have h3:=zbz p.1 q.1 r.1 h h'
      by_cases w3:eqD d f=true
      . have:=zby p.1 w3 r.1
        subst this
        rw [z8p p.1] at h3;cases h3
      . rw [if_neg w3];exact h3
end
theorem z1r:∀{ds:List D} {i:Nat},ois ds=true->(ds.getD i (.int 0)).oi=true
 | [],i,_=>by simp [D.oi]
 | d::ds,0,h=>by simp only [ois,Bool.and_eq_true] at h;simpa using h.1
 | d::ds,i+1,h=>by
  simp only [ois,Bool.and_eq_true] at h
  simpa using z1r (i:=i) h.2
noncomputable def ltI (ds:List D) (i j:Nat):Bool:=ltT (ds.getD i (.int 0)) (ds.getD j (.int 0))
theorem zei {ds:List D} (h:ois ds=true):Ord (ltI ds):=by
 refine ⟨fun a=>z8p (z1r h),fun {a b c} h1 h2=>?_,fun {a b} h1=>?_⟩
 . unfold ltI at h1 h2 ⊢
   cases hx:ltT (ds.getD c (.int 0)) (ds.getD a (.int 0)) with
   | false=>rfl
   | true=>
    cases hy:ltT (ds.getD a (.int 0)) (ds.getD b (.int 0)) with
    | true=>rw [zbz (z1r h) (z1r h) (z1r h) hx hy] at h2;cases h2
    | false=>
     rw [z8o (z1r h) (z1r h) hy h1] at hx
     rw [hx] at h2;cases h2
 . unfold ltI at h1 ⊢
   cases hx:ltT (ds.getD b (.int 0)) (ds.getD a (.int 0)) with
   | false=>rfl
   | true=>
    have:=zbz (z1r h) (z1r h) (z1r h) h1 hx
    rw [z8p (z1r h)] at this;cases this
noncomputable def zgy (d:D):List D->List D
 | []=>[d]
 | e::r=>if ltT e d=true then e::zgy d r else d::e::r
noncomputable def z2i:List D->List D
 | []=>[]
 | d::r=>zgy d (z2i r)
theorem z5l (d:D):∀l:List D,(zgy d l).Perm (d::l)
 | []=>.refl _
 | e::r=>by
  unfold zgy
  split
  . exact ((z5l d r).cons e).trans (.swap d e r)
  . exact .refl _
theorem z0i:∀l:List D,(z2i l).Perm l
 | []=>.refl _
 | d::r=>(z5l d (z2i r)).trans ((z0i r).cons d)
theorem ois_mem:∀{ds:List D},ois ds=true↔∀d∈ds,d.oi=true
 | []=>by simp [ois]
 | d::ds=>by simp [ois,ois_mem (ds:=ds)]
def Srt (l:List D):Prop:=l.Pairwise fun a b=>ltT b a=false
theorem zav {d:D}:∀{l:List D},d.oi=true->ois l=true->Srt l->Srt (zgy d l)
 | [],_,_,_=>by simp [zgy,Srt]
 | e::r,hd,hl,hs=>by
  simp only [ois,Bool.and_eq_true] at hl
  obtain ⟨h1,h2⟩:=List.pairwise_cons.mp hs
  unfold zgy
  split
  . rename_i hlt
    refine List.pairwise_cons.mpr ⟨fun x hx=>?_,zav hd hl.2 h2⟩
    rcases List.mem_cons.mp ((z5l d r).mem_iff.mp hx) with rfl | hx
    . cases hq:ltT x e with
      | false=>rfl
      | true=>
       have:=zbz hl.1 hd hl.1 hlt hq
       rw [z8p hl.1] at this;cases this
    . exact h1 x hx
  . rename_i hlt
    have hlt:ltT e d=false:=by simpa using hlt
    refine List.pairwise_cons.mpr ⟨fun x hx=>?_,hs⟩
    rcases List.mem_cons.mp hx with rfl | hx
    . exact hlt
    . have hxo:=(ois_mem.mp hl.2) x hx
      cases hq:ltT x d with
      | false=>rfl
      | true=>
       have h3:=h1 x hx
       cases hy:ltT d e with
       | true=>rw [zbz hxo hd hl.1 hq hy] at h3;cases h3
       | false=>
        rw [z8o hd hl.1 hy hlt] at hq
        rw [hq] at h3;cases h3
theorem z3b {l l':List D} (p:l.Perm l') (h:ois l'=true):ois l=true:=ois_mem.mpr fun d hd=>(ois_mem.mp h) d (p.mem_iff.mp hd)
theorem z26:∀{l:List D},ois l=true->Srt (z2i l)
 | [],_=>.nil
 | d::r,h=>by
  simp only [ois,Bool.and_eq_true] at h
  exact zav h.1 (z3b (z0i r) h.2) (z26 h.2)
theorem z43:∀{l l':List D},ois l=true->l.Perm l'->Srt l->Srt l'->l=l'
 | [],l',_,p,_,_=>by rw [p.nil_eq]
 | a::r,[],_,p,_,_=>by have:=p.length_eq;simp at this
 | a::r,b::r',h,p,s,s'=>by
  have h':=h
  simp only [ois,Bool.and_eq_true] at h
  obtain ⟨h1,h2⟩:=List.pairwise_cons.mp s
  obtain ⟨h3,h4⟩:=List.pairwise_cons.mp s'
  have hb:b∈a::r:=p.mem_iff.mpr List.mem_cons_self
  have ha:a∈b::r':=p.mem_iff.mp List.mem_cons_self
  have hbo:=(ois_mem.mp h') b hb
  have e:a=b:=by
   rcases List.mem_cons.mp hb with z | z
   . exact z.symm
   . rcases List.mem_cons.mp ha with w | w
     . exact w
     . exact z8o h.1 hbo (h3 a w) (h1 b z)
  subst e
  rw [z43 h.2 (List.perm_cons a |>.mp p) h2 h4]
theorem zc0 {ds:List D} (h:ois ds=true) (h1:1<=ds.length):(z1f (ltI ds) (kas_sort ds.length)).toList.map (fun i=>ds.getD i (.int 0))=z2i ds:=by
 obtain ⟨p,s⟩:=zed (zei h) h1
 generalize z1f (ltI ds) (kas_sort ds.length)=a at *
 have hsz:a.size=ds.length:=by rw [p.size_eq];simp
 have pl:a.toList.Perm (List.range ds.length):=by
  have:=p.toList
  simpa using this
 have pm:(a.toList.map fun i=>ds.getD i (.int 0)).Perm ds:=by
  refine (pl.map _).trans ?_
  rw [show (List.range ds.length).map (fun i=>ds.getD i (.int 0))=ds from ?_]
  apply List.ext_getElem?
  intro i
  rw [List.getElem?_map]
  by_cases hi:i<ds.length
  . rw [List.getElem?_range hi]
    simp [hi]
  . rw [List.getElem?_eq_none (by simpa using hi),List.getElem?_eq_none (by simpa using hi)];rfl
 refine z43 (z3b pm h) (pm.trans (z0i ds).symm) ?_ (z26 h)
 refine List.pairwise_iff_getElem.mpr fun i j hi hj hij=>?_
 simp only [List.length_map,Array.length_toList] at hi hj
 have:=s i j (Nat.le_of_lt hij) (by omega)
 unfold ltI g at this
 rw [Array.getD_eq_getD_getElem?,Array.getD_eq_getD_getElem?,Array.getElem?_eq_getElem hi,Array.getElem?_eq_getElem hj] at this
 simpa using this
end L2
namespace L2
open PySem PySem.Spec PyProof.Rows
open PySem.W (KasT kas_sort kas_rev kas_asc kas_desc kas_tail3 kas_descPart kas_count kas_place kas_bin)
def InP {α:Type} (n:Nat) (P:α->Prop):KasT α->Prop
 | .ret a=>P a
 | .ask i j k=>i<n/\j<n/\∀b,InP n P (k b)
theorem InP.bind {α β:Type} {n:Nat} {P:α->Prop} {P':β->Prop} {f:α->KasT β}:∀{t:KasT α},InP n P t->(∀a,P a->InP n P' (f a))->InP n P' (t.bind f)
 | .ret a,h,hf=>hf a h
 | .ask i j k,h,hf=>⟨h.1,h.2.1,fun b=>InP.bind (h.2.2 b) hf⟩
def Al (n:Nat) (p:Array Nat):Prop:=∀i,p.getD i 0<n
theorem Al.perm {n:Nat} {p q:Array Nat} (h0:0<n) (h:q.Perm p) (a:Al n p):Al n q:=fun i=>by
 by_cases hi:i<q.size
 . have hm:q[i]∈p.toList:=h.toList.mem_iff.mp (by simp)
   obtain ⟨j,hj,e⟩:=List.mem_iff_getElem.mp hm
   have:=a j
   rw [Array.getD_eq_getD_getElem?,Array.getElem?_eq_getElem (by simpa using hj)] at this
   rw [Array.getD_eq_getD_getElem?,Array.getElem?_eq_getElem hi]
   simp only [Option.getD_some] at this ⊢
   rw [<-e]
   simpa using this
 . rw [Array.getD_eq_getD_getElem?,Array.getElem?_eq_none (by omega)];exact h0
section
variable {n:Nat} {p:Array Nat}
theorem zej (a:Al n p):∀f k,InP n (fun _=>True) (kas_asc p f k)
 | 0,k=>trivial
 | f+1,k=>⟨a _,a _,fun b=>by cases b<;>first | exact trivial | exact zej a f (k+1)⟩
theorem z7i (h0:0<n):∀(f:Nat) (p:Array Nat) (k q:Nat),Al n p->InP n (fun r=>Al n r.1) (kas_desc f p k q)
 | 0,p,k,q,a=>a
 | f+1,p,k,q,a=>by
  refine ⟨a _,a _,fun b=>?_⟩
  cases b with
  | true=>
   dsimp only
   rw [if_pos rfl]
   split
   . exact z7i h0 f _ _ _ (a.perm h0 rev_perm)
   . exact z7i h0 f _ _ _ a
  | false=>
   dsimp only
   rw [if_neg Bool.false_ne_true]
   refine ⟨a _,a _,fun c=>?_⟩
   cases c with
   | true=>exact a
   | false=>exact z7i h0 f _ _ _ a
theorem zaw (h0:0<n) (a:Al n p) (k m:Nat):InP n (fun r=>Al n r.2) (kas_tail3 k m p):=
 InP.bind (zej (a.perm h0 rev_perm) _ _) fun _ _=>a.perm h0 rev_perm
theorem z5m (h0:0<n) (a:Al n p) (k m:Nat):InP n (fun r=>Al n r.2) (kas_descPart k m p):=
 InP.bind (z7i h0 _ _ _ _ a) fun r hr=>by
  split
  . exact zaw h0 (hr.perm h0 rev_perm) _ _
  . exact zaw h0 hr _ _
theorem zgz (h0:0<n) (a:Al n p) (m:Nat):InP n (fun r=>Al n r.2) (kas_count m p):=
 InP.bind (zej a _ _) fun k _=>by
  split
  . exact a
  . split
    . refine ⟨a _,a _,fun b=>?_⟩
      cases b with
      | true=>exact a
      | false=>exact z5m h0 (a.perm h0 rev_perm) _ _
    . exact z5m h0 a _ _
theorem z7j (a:Al n p) (k:Nat):∀f l r,InP n (fun _=>True) (kas_place p k f l r)
 | 0,l,r=>trivial
 | f+1,l,r=>by
  unfold kas_place
  split
  . exact trivial
  . refine ⟨a _,a _,fun b=>?_⟩
    cases b with
    | true=>exact z7j a k f _ _
    | false=>exact z7j a k f _ _
theorem zil (h0:0<n):∀(f:Nat) (p:Array Nat) (k:Nat),Al n p->InP n (Al n) (kas_bin f p k)
 | 0,p,k,a=>a
 | f+1,p,k,a=>InP.bind (z7j a k _ _ _) fun l _=>zil h0 f _ _ (a.perm h0 (bubble_perm _ _ _))
theorem zko (h0:0<n):InP n (Al n) (kas_sort n):=by
 have a:Al n (List.toArray (List.range n)):=fun i=>by
  rw [Array.getD_eq_getD_getElem?]
  by_cases hi:i<n
  . simp [hi]
  . rw [Array.getElem?_eq_none (by simpa using hi)];exact h0
 exact InP.bind (zgz h0 a _) fun r hr=>by
  split
  . exact zil h0 _ _ _ hr
  . exact hr
end
theorem zim {α:Type} {n:Nat} {P:α->Prop} {lt:Nat->Nat->Bool} {cmp:Nat->Nat->(Bool->Shared->Prop)->Shared->Prop} {Q:α->Shared->Prop} {s:Shared} (hc:∀i j C,i<n->j<n->C (lt i j) s->cmp i j C s) :
  ∀{t:KasT α},InP n P t->Q (z1f lt t) s->t.kasWp cmp Q s
 | .ret a,_,q=>q
 | .ask i j k,h,q=>hc i j _ h.1 h.2.1 (zim hc (h.2.2 _) q)
def RcLt (A:Around) (s:Shared) (x y:Value) (b:Bool):Prop:=∀(prog:Program) (w:World) (E:Value->Shared->Prop) (Q:Value->Shared->Prop),Q (.bool b) s->wpAny (model prog w) A (richCompare .Lt x y) Q E s
inductive LexR (A:Around) (s:Shared):List Value->List Value->Bool->Prop
 | nn:LexR A s [] [] false
 | nc {w ws}:LexR A s [] (w::ws) true
 | cn {v vs}:LexR A s (v::vs) [] false
 | eq {v w vs ws b} (h:SeqAt.EqAt A s v w true) (r:LexR A s vs ws b):LexR A s (v::vs) (w::ws) b
 | lt {v w vs ws b} (h:SeqAt.EqAt A s v w false) (r:RcLt A s v w b):LexR A s (v::vs) (w::ws) b
section
open PySem.SeqAt
open PySem.AutoSeq1 (wpAny_loadPart')
open PySem.MeetsSeq PySem.MeetsSeq2 PySem.MeetsSeq3
theorem zc1 (l b:Addr) (items items2:Array Value) (n n2:Nat) (dd dd2:Option Addr) (sl sl2:Array (Option Value)) (r:Bool) :
  Meets (Builtin.«tuple.__lt__» ⟨[.ref l,.ref b],[]⟩)
   (fun A R s=>s.heap.get? l=some { cls:=.type "tuple",dict:=dd,data:=.seq items n,slots:=sl }/\s.heap.get? b=some { cls:=.type "tuple",dict:=dd2,data:=.seq items2 n2,slots:=sl2 } /\
    LexR A.in1 s items.toList items2.toList r/\R (.ok (.ret (.bool r))) s):=
 .of_wp fun prog w A R s h=>by
  obtain ⟨hp,g,d,tk,os⟩:=s;obtain ⟨hl,hb,hL,h⟩:=h
  have f2:=AutoSeq1.sub_tuple_tuple
  wp_walk using wpAny_loadPart' hl,wpAny_loadPart' hb,wpAny_forIn_list _ (fun rest b s'=>b.1=none/\s'=⟨hp,g,d,tk,os⟩/\∃(vs ws:List Value) (r':Bool),rest=vs.zip ws /\
   LexR A.in1 ⟨hp,g,d,tk,os⟩ vs ws r'/\vs.length+items2.size=ws.length+items.size/\R (.ok (.ret (.bool r'))) ⟨hp,g,d,tk,os⟩) _
  case turn=>
   rintro ⟨y,x⟩ rest b s' ⟨hb',rfl,vs,ws,r',hz,hL',hlen,hR⟩
   cases hL' with
   | nn=>rw [List.zip_nil_left] at hz;cases hz
   | nc=>rw [List.zip_nil_left] at hz;cases hz
   | cn=>rw [List.zip_nil_right] at hz;cases hz
   | eq he hr=>
    rw [List.zip_cons_cons] at hz
    injection hz with hyx hrest
    injection hyx with hy hx
    subst hy hx
    simp only [List.length_cons] at hlen
    refine wpAny_bind (he prog w _ _ ?_)
    wp_walk
    exact ⟨rfl,rfl,_,_,_,hrest,hr,by omega,hR⟩
   | lt he hr=>
    rw [List.zip_cons_cons] at hz
    injection hz with hyx hrest
    injection hyx with hy hx
    subst hy hx
    refine wpAny_bind (he prog w _ _ ?_)
    have hri:=hr prog w
    wp_walk using hri
    exact ⟨_,rfl,by simpa using hR⟩
  case fin=>
   rintro ⟨b1,b2⟩ s' ⟨hb',rfl,vs,ws,r',hz,hL',hlen,hR⟩
   simp only at hb'
   subst hb'
   have hv:r'=decide (items.size<items2.size):=by
    cases hL' with
    | nn=>simp only [List.length_nil] at hlen;exact (decide_eq_false (by omega)).symm
    | nc=>simp only [List.length_nil,List.length_cons] at hlen;exact (decide_eq_true (by omega)).symm
    | cn=>simp only [List.length_nil,List.length_cons] at hlen;exact (decide_eq_false (by omega)).symm
    | eq _ _=>rw [List.zip_cons_cons] at hz;cases hz
    | lt _ _=>rw [List.zip_cons_cons] at hz;cases hz
   rw [hv] at hR
   wp_walk
   exact ⟨_,rfl,by simpa [Builtin.Tuple.tupleCompareSizes] using hR⟩
  case h=>exact ⟨rfl,rfl,items.toList,items2.toList,r,rfl,hL,by simp;omega,h⟩
theorem RcLt.tuples {A:Around} {s:Shared} {l b:Addr} {items items2:Array Value} {r:Bool} (hl:s.heap.IsTuple l items) (hb:s.heap.IsTuple b items2) (hL:LexR A.in1 s items.toList items2.toList r) (hu:A.units<cLine):RcLt A s (.ref l) (.ref b) r:=fun prog w E Q h=>by
 obtain ⟨⟨cls,dd,data,sl⟩,ho,hc,n,hd⟩:=id hl
 obtain ⟨⟨cls2,dd2,data2,sl2⟩,ho2,hc2,n2,hd2⟩:=id hb
 simp only at hc hd hc2 hd2
 subst hc hd hc2 hd2
 exact richCompare_meets_room (op:=.Lt) ⟨_,ho,rfl⟩ ⟨_,ho2,rfl⟩ PySem.F.slot_tuple_lt PySem.F.entry_tuple_lt (PySem.F.args_tuple_lt_2 _ _) (zc1 l b items items2 n n2 dd dd2 sl sl2 r)
  ⟨ho,ho2,hL,show Value.bool r≠Value.notImplemented/\Q (.bool r) s from ⟨(fun x=>nomatch x),h⟩⟩ hu
end
mutual
theorem zek:∀{d:D},d.oi=true->d.pl=true
 | .int _,_=>rfl
 | .tup ds,h=>by simp only [D.pl];exact zin (by simpa only [D.oi] using h)
 | .non,p=>by simp [D.oi] at p
 | .bl _,p=>by simp [D.oi] at p
 | .str _,p=>by simp [D.oi] at p
 | .lst _,p=>by simp [D.oi] at p
 | .dk _ _,p=>by simp [D.oi] at p
 | .dt _ _,p=>by simp [D.oi] at p
 | .dn _ _,p=>by simp [D.oi] at p
 | .scr _,p=>by simp [D.oi] at p
 | .exc _,p=>by simp [D.oi] at p
theorem zin:∀{ds:List D},ois ds=true->pls ds=true
 | [],_=>rfl
 | d::ds,h=>by
  simp only [ois,Bool.and_eq_true] at h
  simp only [pls,zek h.1,zin h.2,Bool.and_self]
end
section
variable {X:Cx} {pins:List (Addr×Obj)} {σ:St} {H:Hp} {s:Shared}
theorem zio (I:Inv X pins σ H s) {A:Around} {n:Nat} (hu:A.units+n<cLine) (lt:∀{d e:D} {x y:V} {u v:Value} {b:Bool},d.oi=true->e.oi=true->d.dep<=n->RD X.K H d x->RD X.K H e y->RelV x u->RelV y v->z21 d e=some b->RcLt A s u v b) :
  ∀{ds es:List D} {xs ys:List V} {us vs:List Value} {b:Bool},ois ds=true->ois es=true->z59 ds<=n->RDs X.K H ds xs->RDs X.K H es ys->Vals xs us->Vals ys vs->z20 ds es=some b->LexR A s us vs b
 | [],[],_,_,_,_,b,_,_,_,r1,r2,q1,q2,h=>by
  simp only [RDs] at r1 r2;subst r1;subst r2
  cases q1;cases q2
  simp only [z20,Option.some.injEq] at h;subst h
  exact .nn
 | [],e::es,_,_,_,_,b,_,_,_,r1,r2,q1,q2,h=>by
  simp only [RDs] at r1 r2;subst r1
  obtain ⟨y,ys,rfl,_,_⟩:=r2
  cases q1;cases q2
  simp only [z20,Option.some.injEq] at h;subst h
  exact .nc
 | d::ds,[],_,_,_,_,b,_,_,_,r1,r2,q1,q2,h=>by
  simp only [RDs] at r1 r2;subst r2
  obtain ⟨y,ys,rfl,_,_⟩:=r1
  cases q1;cases q2
  simp only [z20,Option.some.injEq] at h;subst h
  exact .cn
 | d::ds,e::es,_,_,_,_,b,p1,p2,hd,r1,r2,q1,q2,h=>by
  simp only [RDs] at r1 r2
  obtain ⟨x,xs,rfl,rx,rxs⟩:=r1
  obtain ⟨y,ys,rfl,ry,rys⟩:=r2
  simp only [ois,Bool.and_eq_true] at p1 p2
  simp only [z59] at hd
  cases q1 with
  | cons a1 a2=>
   cases q2 with
   | cons b1 b2=>
    have eq:=zdo (A:=A) I n (zek p1.1) (zek p2.1) (by omega) hu rx ry a1 b1
    simp only [z20] at h
    split at h
    . rename_i w
      rw [w] at eq
      exact .eq eq (zio I hu lt p1.2 p2.2 (by omega) rxs rys a2 b2 h)
    . rename_i w
      rw [show eqD d e=false by simpa using w] at eq
      exact .lt eq (lt p1.1 p2.1 (by omega) rx ry a1 b1 h)
theorem z8q {d e:D} {b:Bool} (h:z21 d e=some b):(∃i j,d=.int i/\e=.int j/\b=decide (i<j))\/∃ds es,d=.tup ds/\e=.tup es/\z20 ds es=some b:=by
 cases d with
 | int i=>cases e with
  | int j=>exact .inl ⟨_,_,rfl,rfl,(Option.some.inj h).symm⟩
  | _=>exact nomatch h
 | tup ds=>cases e with
  | tup es=>exact .inr ⟨_,_,rfl,rfl,h⟩
  | _=>exact nomatch h
 | _=>exact nomatch h
theorem zoa (I:Inv X pins σ H s):∀(n:Nat) {A:Around} {d e:D} {x y:V} {u v:Value} {b:Bool},A.units+n<cLine->d.oi=true->e.oi=true->d.dep<=n->RD X.K H d x->RD X.K H e y->RelV x u->RelV y v->z21 d e=some b->RcLt A s u v b:=by
 intro n
 induction n with
 | zero=>
  intro A d e x y u v b hu p1 p2 hd rx ry ru rv h
  rcases z8q h with ⟨i,j,rfl,rfl,rfl⟩ | ⟨ds,es,rfl,rfl,h⟩
  . cases rx.int;cases ry.int
    obtain ⟨t,rfl⟩:=ru;obtain ⟨t',rfl⟩:=rv
    exact fun prog w E Q q=>HT.rcLt_int A s _ _ _ _ prog w E Q q
  . simp only [D.dep] at hd;omega
 | succ n ih=>
  intro A d e x y u v b hu p1 p2 hd rx ry ru rv h
  rcases z8q h with ⟨i,j,rfl,rfl,rfl⟩ | ⟨ds,es,rfl,rfl,h⟩
  . cases rx.int;cases ry.int
    obtain ⟨t,rfl⟩:=ru;obtain ⟨t',rfl⟩:=rv
    exact fun prog w E Q q=>HT.rcLt_int A s _ _ _ _ prog w E Q q
  . obtain ⟨a,xs,rfl,ha,ra⟩:=rx.tup
    obtain ⟨c,ys,rfl,hc,rc⟩:=ry.tup
    cases ru;cases rv
    obtain ⟨its,r1,t1⟩:=I.tupA ha
    obtain ⟨its2,r2,t2⟩:=I.tupA hc
    simp only [D.dep] at hd
    simp only [D.oi] at p1 p2
    have hu1:A.in1.units+n<cLine:=by show A.units+1+n<cLine;omega
    exact RcLt.tuples t1 t2 (zio I hu1 (fun {d e x y u v b} q1 q2 q3 q4 q5 q6 q7 q8=>ih hu1 q1 q2 q3 q4 q5 q6 q7 q8) p1 p2 (by omega) ra rc r1 r2 h) (by omega)
end
end L2
namespace L2
open PySem PySem.Spec PyProof.Rows
section
variable {prog:Program} {w:World} {A:Around} {E:Value->Shared->Prop} {s:Shared}
theorem zc2 {a:Addr} {vs:List Value} {n:Nat} {P:PySem.Fin->Shared->Prop} (ho:s.heap.get? a=some (seqObj "list" vs.toArray n)) (hs:vs.length<2)
  (h:P (.done (.ret .none)) { s with heap:=sortedHeap s.heap a vs ((pairsOf vs).map (·.2)) }):wpAny (model prog w) A (Builtin.«list.sort» ⟨[.ref a],[]⟩) P E s:=by
 rw [list_sort_plain]
 have ha:a<s.heap.objs.size:=Heap.lt_size ho
 refine wpAny_bind (listItems_at ho rfl ?_)
 refine wpAny_bind (listUpdate_at ho rfl ?_)
 obtain ⟨e1,ho1⟩:∃e1,(s.heap.update a (Obj.mapSeq fun _=>#[])).get? a=some (seqObj "list" #[] e1):=⟨_,get?_update_seq ho (fun _=>#[])⟩
 refine wpAny_bind (seqEpoch_at ho1 rfl ?_)
 refine wpAny_bind (wpAny_newTuple ?_)
 refine wpAny_bind (wpAny_newList ?_)
 refine wpAny_holding ?_
 have ho6:(((s.heap.update a (Obj.mapSeq fun _=>#[])).push (seqObj "tuple" vs.toArray 0)).push (seqObj "list" #[] 0)).get? a=some (seqObj "list" #[] e1):=by
  rw [Heap.get?_push_ne _ _ _ (by rw [size_push',Heap.size_update];exact Nat.ne_of_lt (Nat.lt_succ_of_lt ha)),Heap.get?_push_ne _ _ _ (by rw [Heap.size_update];exact Nat.ne_of_lt ha)]
  exact ho1
 show wpAny (model prog w) A _ P E { s with heap:=((s.heap.update a (Obj.mapSeq fun _=>#[])).push (seqObj "tuple" vs.toArray 0)).push (seqObj "list" #[] 0) }
 dsimp only
 have hsz:vs.toArray.size=vs.length:=by simp
 have h2:vs.toArray.size<2:=by rw [hsz];exact hs
 rw [if_pos h2,if_pos h2]
 refine wpAny_bind (wpAny_pure ?_)
 rw [StateT.run_pure]
 refine wpAny_bind (wpAny_pure ?_)
 dsimp only
 refine wpAny_bind (seqEpoch_at ho6 rfl ?_)
 refine wpAny_bind (listUpdate_at ho6 rfl ?_ (hsz2:=by rw [Array.size_map];show (pairsOf vs).size<=_;rw [pairsOf_size,sizeLine_eq];omega))
 simp only [bne_self_eq_false,Bool.false_eq_true,if_false]
 exact wpAny_pure h
theorem z4m {l:Addr} {vs:List Value} {Q:Value->Shared->Prop} (hl:s.heap.IsList l vs.toArray) (hs:vs.length<2)
  (h:Q (.ref (s.heap.objs.size+1)) { s with heap:=sortedAll s.heap vs ((pairsOf vs).map (·.2)) }):wpAny (model prog w) A (call (.builtin "sorted") [.ref l]) Q E s:=by
 refine Calls.call_function_entry kind_sorted plain_sorted entry_sorted (args_sorted1 _) ?_
 unfold Builtin.«sorted»
 refine wpAny_bind (m:=checkCount "sorted" 1 1 _) (wpAny_pure ?_)
 refine wpAny_bind (collect_list hl ?_ (by rw [sizeLine_eq];omega))
 refine wpAny_bind (wpAny_newList ?_ (by rw [sizeLine_eq];omega))
 have hsz:((s.heap.push (seqObj "list" #[] 0)).update s.heap.objs.size (Obj.mapSeq (·++vs.toArray))).objs.size=s.heap.objs.size+1:=by
  rw [Heap.size_update,size_push']
 have hoL:(((s.heap.push (seqObj "list" #[] 0)).update s.heap.objs.size (Obj.mapSeq (·++vs.toArray))).push (seqObj "list" vs.toArray 0)).get? (s.heap.objs.size+1)=some (seqObj "list" vs.toArray 0):=by
  rw [<-hsz];exact Heap.get?_push_size _ rfl
 show wpAny _ _ _ _ _ { s with heap:=((s.heap.push (seqObj "list" #[] 0)).update s.heap.objs.size (Obj.mapSeq (·++vs.toArray))).push (seqObj "list" vs.toArray 0) }
 rw [hsz]
 refine wpAny_bind (wpAny_holding (wpAny_call_entry slot_list_sort ⟨_,hoL,rfl⟩ entry_list_sort (zc2 hoL hs ⟨_,rfl,?_⟩) (args_list_sort _)))
 exact wpAny_pure ⟨_,rfl,h⟩
end
noncomputable def isI:D->Bool
 | .int _=>true
 | _=>false
noncomputable def zg8:D->Bool
 | .tup (.int _::_)=>true
 | _=>false
noncomputable def zcl:D->Bool
 | .tup (.tup _::_)=>true
 | _=>false
noncomputable def z8r (ds:List D):Bool:=decide (ds.length<64)&&ois ds&&decide (z59 ds<=20)&&ds.all (fun d=>ds.all fun e=>(z21 d e).isSome)&&(ds.all isI||ds.all zg8||ds.all zcl)
noncomputable def z3t:List D->Option D
 | [.lst ds]=>if z8r ds=true then some (.lst (z2i ds)) else none
 | _=>none
def zel (K:Frag):List V->Hp->VK->Prop:=fun xs H Q=>∃p ys ds,xs=[.ref p]/\H p=some (.lst ys)/\RDs K H ds ys/\z8r ds=true/\(∀(l:Addr) (is:List Nat),H l=none->(∀i∈is,i<ys.length)->z2i ds=is.map (fun i=>ds.getD i (.int 0))->Q (.ref l) (upd H l (.lst (is.map fun i=>ys.getD i .non))))/\∀(l:Addr) (ns:List Int),H l=none->z2i ds=ns.map D.int->Q (.ref l) (upd H l (.lst (ns.map V.int)))
theorem RDs.pick {K:Frag} {H:Hp} {ds:List D} {ys:List V} (r:RDs K H ds ys):∀{is:List Nat},(∀i∈is,i<ys.length)->RDs K H (is.map fun i=>ds.getD i (.int 0)) (is.map fun i=>ys.getD i .non)
 | [],_=>by simp [RDs]
 | i::is,h=>by
  have hi:=h i List.mem_cons_self
  have hy:ys[i]?=some ys[i]:=by simp [hi]
  obtain ⟨d,h1,h2⟩:=r.get hy
  simp only [List.map_cons]
  refine .cons ?_ (RDs.pick r fun j hj=>h j (List.mem_cons_of_mem _ hj))
  rw [List.getD_eq_getElem?_getD,List.getD_eq_getElem?_getD,h1,hy]
  exact h2
theorem zem {K:Frag}:z5d K true z3t (zel K):=by
 intro H0 H xs ds z Q s r ho k
 unfold z3t at ho
 split at ho<;>first | cases ho | skip
 split at ho<;>cases ho
 rename_i es hok
 obtain ⟨x,rfl,q1⟩:=r.uno
 obtain ⟨p,ys,rfl,hp,ry⟩:=q1.lst
 refine ⟨p,ys,es,rfl,s _ _ hp,ry.mono s,hok,fun l is hl hi he=>k _ _ (.new s hl fun H' hH=>?_),fun l ns hl he=>k _ _ (.new s hl fun H' hH=>?_)⟩
 . simp only [OB]
   refine ⟨_,hH,?_⟩
   rw [he]
   exact ry.pick hi
 . simp only [OB]
   refine ⟨_,hH,?_⟩
   rw [he]
   exact .ofInts _
section
variable {X:Cx} {pins:List (Addr×Obj)} {σ:St} {H:Hp} {s:Shared}
theorem Vals.pick {ys:List V} {its:List Value} (r:Vals ys its):∀{is:List Nat},(∀i∈is,i<ys.length)->Vals (is.map fun i=>ys.getD i .non) (is.map fun i=>its.getD i Value.none)
 | [],_=>.nil
 | i::is,h=>by
  have hi:=h i List.mem_cons_self
  have hy:ys[i]?=some ys[i]:=by simp [hi]
  obtain ⟨u,h1,h2⟩:=r.get hy
  simp only [List.map_cons]
  refine .cons ?_ (Vals.pick r fun j hj=>h j (List.mem_cons_of_mem _ hj))
  rw [List.getD_eq_getElem?_getD,List.getD_eq_getElem?_getD,h1,hy]
  exact h2
theorem z9p (I:Inv X pins σ H s) {A:Around} (hu:A.units+20<cLine) {b:Bool} {fin:Bool} {Q:Bool->Shared->Prop} {r:Bool} (q:Q r s) :
  ∀{ds es:List D} {xs ys:List V} {us vs:List Value} (i:Nat),(b=true->i=0->(∃k r,ds=.int k::r)/\∃k r,es=.int k::r)->ois ds=true->ois es=true->z59 ds<=20->RDs X.K H ds xs->RDs X.K H es ys->Vals xs us->Vals ys vs->z20 ds es=some r ->
   fin=decide (us.length<vs.length)->PySem.W.KatLex X.prog X.w A b fin Q (us.zip vs) i s
 | [],[],_,_,_,_,i,_,_,_,_,r1,r2,q1,q2,h,hf=>by
  simp only [RDs] at r1 r2;subst r1;subst r2
  cases q1;cases q2
  simp only [z20,Option.some.injEq] at h;subst h
  simp at hf;subst hf
  exact q
 | [],e::es,_,_,_,_,i,_,_,_,_,r1,r2,q1,q2,h,hf=>by
  simp only [RDs] at r1 r2;subst r1
  obtain ⟨y,ys,rfl,_,_⟩:=r2
  cases q1;cases q2
  simp only [z20,Option.some.injEq] at h;subst h
  simp at hf;subst hf
  exact q
 | d::ds,[],_,_,_,_,i,_,_,_,_,r1,r2,q1,q2,h,hf=>by
  simp only [RDs] at r1 r2;subst r2
  obtain ⟨y,ys,rfl,_,_⟩:=r1
  cases q1;cases q2
  simp only [z20,Option.some.injEq] at h;subst h
  simp at hf;subst hf
  exact q
 | d::ds,e::es,_,_,_,_,i,hb,p1,p2,hd,r1,r2,q1,q2,h,hf=>by
  simp only [RDs] at r1 r2
  obtain ⟨x,xs,rfl,rx,rxs⟩:=r1
  obtain ⟨y,ys,rfl,ry,rys⟩:=r2
  simp only [ois,Bool.and_eq_true] at p1 p2
  simp only [z59] at hd
  cases q1 with
  | cons a1 a2=>
   cases q2 with
   | cons b1 b2=>
    have eq:=zdo (A:=A) I 20 (zek p1.1) (zek p2.1) (by omega) hu rx ry a1 b1
    rw [List.zip_cons_cons]
    refine PySem.W.kat_cons (eq X.prog X.w _ _ ?_)
    simp only [z20] at h
    simp only [List.length_cons,Nat.add_lt_add_iff_right] at hf
    split at h
    . rename_i w
      rw [w]
      exact PySem.W.kat_yes (z9p I hu q (i+1) (fun _ z=>by omega) p1.2 p2.2 (by omega) rxs rys a2 b2 h hf)
    . rename_i w
      rw [show eqD d e=false by simpa using w]
      refine PySem.W.kat_no ?_
      by_cases hbi:(b&&i==0)=true
      . rw [hbi]
        simp only [Bool.and_eq_true,beq_iff_eq] at hbi
        obtain ⟨⟨k1,s1,e1⟩,k2,s2,e2⟩:=hb hbi.1 hbi.2
        cases e1;cases e2
        cases rx.int;cases ry.int
        obtain ⟨t,rfl⟩:=a1;obtain ⟨t',rfl⟩:=b1
        refine oneLt_int ?_
        simp only [z21,Option.some.injEq] at h
        rw [h];exact q
      . rw [show (b&&i==0)=false by simpa using hbi]
        exact PySem.W.kat_one _ _ (zoa I 20 hu p1.1 p2.1 (by omega) rx ry a1 b1 h X.prog X.w _ _ q)
theorem zen {M:Model} (I:Inv X pins σ H s) (T:Bool):∀{ds:List D} {xs:List V} {us:List Value},(∀d∈ds,(if T=true then zcl d else zg8 d)=true)->RDs X.K H ds xs->Vals xs us ->
  ∃fs:List Value,PySem.W.KatTups s.heap us fs/\fs.length=ds.length/\∀v∈fs,PySem.W.Looks M s.heap (typeOf v) (.type (if T=true then "tuple" else "int"))
 | [],_,_,_,r,q=>by
  simp only [RDs] at r;subst r;cases q
  exact ⟨[],trivial,rfl,fun v hv=>by cases hv⟩
 | d::ds,_,_,h,r,q=>by
  simp only [RDs] at r
  obtain ⟨x,xs,rfl,rx,rxs⟩:=r
  cases q with
  | cons q1 q2=>
   obtain ⟨fs,h1,h2,h3⟩:=zen (M:=M) I T (fun d hd=>h d (List.mem_cons_of_mem _ hd)) rxs q2
   have hd:=h d List.mem_cons_self
   cases T with
   | false=>
    rw [if_neg Bool.false_ne_true] at hd
    cases d<;>simp only [zg8] at hd<;>first | cases hd | skip
    rename_i es
    cases es with
    | nil=>simp at hd
    | cons e es=>
     cases e<;>simp at hd
     obtain ⟨a,ys,rfl,ha,ra⟩:=rx.tup
     cases q1
     obtain ⟨its,rv,t⟩:=I.tupA ha
     simp only [RDs] at ra
     obtain ⟨y,ys,rfl,ry,rys⟩:=ra
     cases ry.int
     cases rv with
     | cons v1 v2=>
      obtain ⟨tk,rfl⟩:=v1
      obtain ⟨o,ho,hc,n,hdt⟩:=t
      refine ⟨_::fs,PySem.W.KatTups.cons ho hc hdt rfl h1,by simp [h2],fun v hv=>?_⟩
      rcases List.mem_cons.mp hv with rfl | hv
      . exact .now
      . exact h3 v hv
   | true=>
    rw [if_pos rfl] at hd
    cases d<;>simp only [zcl] at hd<;>first | cases hd | skip
    rename_i es
    cases es with
    | nil=>simp at hd
    | cons e es=>
     cases e<;>simp at hd
     obtain ⟨a,ys,rfl,ha,ra⟩:=rx.tup
     cases q1
     obtain ⟨its,rv,t⟩:=I.tupA ha
     simp only [RDs] at ra
     obtain ⟨y,ys,rfl,ry,rys⟩:=ra
     obtain ⟨a2,ys2,rfl,ha2,ra2⟩:=ry.tup
     cases rv with
     | cons v1 v2=>
      cases v1
      obtain ⟨its2,rv2,o2,ho2,hc2,_⟩:=I.tupA ha2
      obtain ⟨o,ho,hc,n,hdt⟩:=t
      refine ⟨_::fs,PySem.W.KatTups.cons ho hc hdt rfl h1,by simp [h2],fun v hv=>?_⟩
      rcases List.mem_cons.mp hv with rfl | hv
      . have lk:PySem.W.Looks M s.heap (typeOf (.ref a2)) o2.cls:=(PySem.W.Looks.ld ho2).andThen .now
        rw [hc2] at lk
        exact lk
      . exact h3 v hv
theorem Vals.getD {ys:List V} {its:List Value} (r:Vals ys its) {i:Nat} (h:i<ys.length):RelV (ys.getD i .non) (its.getD i Value.none):=by
 have hy:ys[i]?=some ys[i]:=by simp [h]
 obtain ⟨u,h1,h2⟩:=r.get hy
 rw [List.getD_eq_getElem?_getD,List.getD_eq_getElem?_getD,h1,hy]
 exact h2
theorem RDs.getD {ds:List D} {ys:List V} (r:RDs X.K H ds ys) {i:Nat} (h:i<ys.length):RD X.K H (ds.getD i (.int 0)) (ys.getD i .non):=by
 have hy:ys[i]?=some ys[i]:=by simp [h]
 obtain ⟨d,h1,h2⟩:=r.get hy
 rw [List.getD_eq_getElem?_getD,List.getD_eq_getElem?_getD,h1,hy]
 exact h2
theorem getD_mem {α:Type} {l:List α} {i:Nat} {d:α} (h:i<l.length):l.getD i d∈l:=by
 rw [List.getD_eq_getElem?_getD,List.getElem?_eq_getElem h]
 exact List.getElem_mem h
theorem zeo (hc:X.calm=true) (hu:X.A.units+64<cLine):CallR X (.builtin "sorted") (zel X.K):=by
 intro pins s σ H xs us Q I r h
 obtain ⟨p,ys,ds,rfl,hp,rd,hok,k,kI⟩:=h
 obtain ⟨u,rfl,ru⟩:=z48 r
 cases ru
 obtain ⟨its,rv,pl,hz⟩:=I.list (.of hp)
 obtain ⟨m,hn,_⟩:=id I.loc
 have F:=Att.fr_all hn
 have N:=z6w (g:=Att.noObjs s.heap) (h:=s.heap) (L:=X.env.locals)
 unfold z8r at hok
 simp only [Bool.and_eq_true,Bool.or_eq_true,decide_eq_true_eq] at hok
 obtain ⟨⟨⟨⟨h64,hoi⟩,hdep⟩,hcmp⟩,hkind⟩:=hok
 have hl1:=rd.length
 have hl2:=rv.length
 have fin:∀{D:Addr} {h':Heap} {tk:Nat} {e:Nat} {is:List Nat},(∀i∈is,i<ys.length)->z2i ds=is.map (fun i=>ds.getD i (.int 0))->Fr (Att.noObjs s.heap) X.env.locals h' m->News (Att.noObjs s.heap) X.env.locals h' ((D,seqObj "list" (is.map fun i=>its.getD i Value.none).toArray e)::zda s X.env.locals)->s.heap.get? D=none ->
   EP X pins σ Q (.ref D) { s with heap:=h',toks:=tk }:=fun {D h' tk e is} hi he F' N' hD=>by
  have hlen:(is.map fun i=>ys.getD i .non).length<=sizeLine:=by
   have e1:is.length=ds.length:=by have:=congrArg List.length he;rw [List.length_map,(z0i ds).length_eq] at this;exact this.symm
   rw [List.length_map,e1,hl1];exact hz
  obtain ⟨HD,I'⟩:=I.frnew (tk:=tk) (o:=.lst (is.map fun i=>ys.getD i .non)) hn F' N' hD ⟨hlen,_,e,rv.pick hi,(N' _ (.head _)).1⟩
  exact ⟨.ref D,_,I',rfl,k D is HD hi he⟩
 by_cases hI:ds.all isI=true
 . -- ints
   have asInts:∀ds:List D,ds.all isI=true->∃ns:List Int,ds=ns.map D.int:=by
    intro ds hI
    induction ds with
    | nil=>exact ⟨[],rfl⟩
    | cons d ds ih=>
     simp only [List.all_cons,Bool.and_eq_true] at hI
     obtain ⟨ns,e⟩:=ih hI.2
     cases d<;>simp [isI] at hI
     exact ⟨_::ns,by rw [e];rfl⟩
   obtain ⟨ns,hns⟩:=asInts ds hI
   subst hns
   have ey:ys=ns.map V.int:=z2g (z3a ns) rd
   subst ey
   refine sorted_N F N pl.isList (z37 rv) (by simp at hl1 hl2 h64;omega) fun h' vs' ns' e F' N' hi' hp' hs'=>?_
   have hsame:z2i (ns.map D.int)=ns'.map D.int:=by
    refine z43 (z3b (z0i _) hoi) ((z0i _).trans (hp'.symm.map _)) (z26 hoi) ?_
    refine List.pairwise_map.mpr (hs'.imp fun {a b} hab=>?_)
    simp only [ltT,decide_eq_false_iff_not];omega
   have hlen:(ns'.map V.int).length<=sizeLine:=by
    rw [List.length_map,hp'.length_eq];simpa using hz
   have hD:s.heap.get? (s.heap.objs.size+1)=none:=Heap.get?_none_of_le (Nat.le_succ _)
   obtain ⟨HD,I'⟩:=I.frnew (tk:=s.toks) (o:=.lst (ns'.map V.int)) hn F' N' hD ⟨hlen,vs',e,z57 hi',(N' _ (.head _)).1⟩
   exact ⟨.ref _,_,I',rfl,kI _ ns' HD hsame⟩
 . by_cases h2:2<=its.length
   . obtain ⟨T,hT⟩:∃T:Bool,∀d∈ds,(if T=true then zcl d else zg8 d)=true:=by
      rcases hkind with (z | z) | z
      . exact absurd z hI
      . exact ⟨false,fun d hd=>by rw [if_neg Bool.false_ne_true];exact List.all_eq_true.mp z d hd⟩
      . exact ⟨true,fun d hd=>by rw [if_pos rfl];exact List.all_eq_true.mp z d hd⟩
     refine PySem.W.kat_sorted F N pl.isList h2 (by omega) fun D e1 h' F' N' hlt=>?_
     have N'':News (Att.noObjs s.heap) X.env.locals h' (zda s X.env.locals):=fun p hp=>N' p (.tail _ hp)
     have I':Inv X pins σ H { s with heap:=h' }:=I.frn (tk:=s.toks) hn F' N''
     have hDL:D≠X.env.locals:=(N' _ (.head _)).2.1
     have hD:s.heap.get? D=none:=by
      cases q:s.heap.get? D with
      | none=>rfl
      | some o=>exact absurd (hlt (D,o) (z52 hDL (Att.noObjs_get _ _) q)) (Nat.lt_irrefl _)
     obtain ⟨fs,t1,t2,t3⟩:=zen (M:=model X.prog X.w) I' T hT rd rv
     have huu:X.A.in1.in1.units+20<cLine:=by show X.A.units+1+1+20<cLine;omega
     refine PySem.W.kat_kind t1 (by omega) t3 (by cases T<;>rfl) ?_
     have h0:0<its.length:=by omega
     refine zim (n:=its.length) (lt:=ltI ds) ?_ (zko h0) ?_
     . intro i j C hi hj hC
       show wpAny (model X.prog X.w) X.A.in1.in1 (keyLt' _ (its.getD i Value.none) (its.getD j Value.none)) C _ _
       have hi':i<ys.length:=by omega
       have hj':j<ys.length:=by omega
       have r1:=rd.getD hi'
       have r2:=rd.getD hj'
       have v1:=rv.getD hi'
       have v2:=rv.getD hj'
       have m1:ds.getD i (.int 0)∈ds:=getD_mem (by omega)
       have m2:ds.getD j (.int 0)∈ds:=getD_mem (by omega)
       have o1:=(ois_mem.mp hoi) _ m1
       have o2:=(ois_mem.mp hoi) _ m2
       have d1:=z3y m1
       have f1:=hT _ m1
       have f2:=hT _ m2
       have hc2:(z21 (ds.getD i (.int 0)) (ds.getD j (.int 0))).isSome=true:=List.all_eq_true.mp (List.all_eq_true.mp hcmp _ m1) _ m2
       obtain ⟨b,hb⟩:=Option.isSome_iff_exists.mp hc2
       have hbl:b=ltI ds i j:=zee hb
       rw [<-hbl] at hC
       generalize ds.getD i (.int 0)=da at *
       generalize ds.getD j (.int 0)=db at *
       have tp:∀{d:L2.D},(if T=true then zcl d else zg8 d)=true->∃es,d=.tup es/\(T=false->∃k r,es=.int k::r):=fun {d} h=>by
        cases T with
        | false=>
         rw [if_neg Bool.false_ne_true] at h
         cases d<;>simp only [zg8] at h<;>first | cases h | skip
         rename_i es
         cases es with
         | nil=>simp at h
         | cons e es=>cases e<;>simp at h;exact ⟨_,rfl,fun _=>⟨_,_,rfl⟩⟩
        | true=>
         rw [if_pos rfl] at h
         cases d<;>simp only [zcl] at h<;>first | cases h | skip
         exact ⟨_,rfl,fun z=>nomatch z⟩
       obtain ⟨ea,rfl,ka⟩:=tp f1
       obtain ⟨eb,rfl,kb⟩:=tp f2
       obtain ⟨a,xa,e1,ha,ra⟩:=r1.tup
       obtain ⟨c,xc,e2,hcc,rc⟩:=r2.tup
       rw [e1] at v1;rw [e2] at v2
       rw [show its.getD i Value.none=Value.ref a from v1,show its.getD j Value.none=Value.ref c from v2]
       obtain ⟨ia,va,oa,hoa,_,na,hda⟩:=I'.tupA ha
       obtain ⟨ic,vc,oc,hoc,_,nc,hdc⟩:=I'.tupA hcc
       simp only [L2.D.oi] at o1 o2
       simp only [L2.D.dep] at d1
       simp only [z21] at hb
       refine PySem.W.kat_lt hoa hda hoc hdc ?_
       refine z9p I' huu hC 0 (fun hb0 _=>?_) o1 o2 (by omega) ra rc va vc hb (by simp)
       cases T with
       | false=>exact ⟨ka rfl,kb rfl⟩
       | true=>exact absurd hb0 (by simp)
     . refine PySem.W.KasFin.intro F' N' (.head fun p hp=>Nat.ne_of_lt (hlt p hp)) fun h'' c F3 N3=>?_
       have hl3:its.length=ds.length:=by omega
       rw [hl3] at N3
       have pm:=(zed (zei hoi) (n:=ds.length) (by omega)).1
       refine fin (is:=(z1f (ltI ds) (PySem.W.kas_sort ds.length)).toList) (fun i hi=>?_) (zc0 hoi (by omega)).symm F3 N3 hD
       have:=pm.toList.mem_iff.mp hi
       simp at this
       omega
   . -- at most one
     have hs1:z2i ds=ds:=by
      match ds,hl1,hl2 with
      | [],_,_=>rfl
      | [d],_,_=>rfl
      | _::_::_,a,b=>simp at a;omega
     refine z4m pl.isList (by omega) ?_
     obtain ⟨e,he⟩:=sortedAll_at s.heap its ((pairsOf its).map (·.2))
     have kp:∀b o,s.heap.get? b=some o->(sortedAll s.heap its ((pairsOf its).map (·.2))).get? b=some o:=fun b o q=>sortedAll_old q
     have hout:(pairsOf its).map (·.2)=(List.map (fun i=>its.getD i Value.none) (List.range its.length)).toArray:=by
      have pz:∀l:List Value,l.length<2->(pairsOf l).map (·.2)=(List.map (fun i=>l.getD i Value.none) (List.range l.length)).toArray:=fun l hl=>by
       match l,hl with
       | [],_=>simp [pairsOf]
       | [v],_=>simp [pairsOf]
       | _::_::_,z=>simp at z;omega
      exact pz its (by omega)
     rw [hout] at he kp ⊢
     have hN:=N.kept_cons F kp (Nat.le_succ _) he
     refine fin (is:=List.range its.length) (fun i hi=>by simp at hi;omega) ?_ (F.kept kp) hN (Heap.get?_none_of_le (Nat.le_succ _))
     rw [hs1]
     apply List.ext_getElem?
     intro i
     rw [List.getElem?_map]
     by_cases hi:i<its.length
     . rw [List.getElem?_range hi]
       simp [show i<ds.length by omega]
     . rw [List.getElem?_eq_none (show (List.range its.length).length<=i by simpa using hi),List.getElem?_eq_none (by omega)];rfl
end
section
variable {X:Cx} {EX:XW} {fr:Bool} {pins:List (Addr×Obj)} {σ:St} {H1 H2:Hp} {s1 s2:Shared} {C a T:Addr} {B h5:Heap} {a0:Value}
abbrev HD:=Ex->DS->SR
end
theorem SK.ex {K:Frag} {EX EX':XW} {fr:Bool} {Hc Hb:Hp} {De:Ends} {r:SR} (h:SK K EX fr Hc Hb De r) (he:∀x,EX.at x->EX'.at x):SK K EX' fr Hc Hb De r:=by
 cases r with
 | er x=>exact he x h
 | nx ρ=>exact h
 | bk ρ=>exact h
 | ct ρ=>exact h
 | rt d=>exact h
 | st=>exact h
noncomputable def SR.noE:SR->SR
 | .er _=>.st
 | r=>r
theorem SK.noE {K:Frag} {EX:XW} {fr:Bool} {Hc Hb:Hp} {De:Ends} {r:SR} (h:SK K EX fr Hc Hb De r.noE):SK K F0 fr Hc Hb De r:=by
 cases r with
 | nx ρ=>exact h
 | bk ρ=>exact h
 | ct ρ=>exact h
 | rt d=>exact h
 | er x=>exact h.elim
 | st=>exact h.elim
end L2
namespace L2
open PySem PySem.Spec PyProof.Rows
open PySem.Calls
end L2
namespace L2
open PySem PySem.Spec PyProof.Rows
theorem TEd.mono' {K:Frag} {EX:XW} {fr:Bool} {f:DE->R D} {σ:St} {H:Hp} {Q Q':VK} (h:TEd K EX fr f σ H Q) (hq:∀v H',Q v H'->Q' v H'):TEd K EX fr f σ H Q':=by
 obtain ⟨sx,ρ,H0,s,e,h⟩:=h
 exact ⟨sx,ρ,H0,s,e,h.mono fun a k v H' o=>hq _ _ (k v H' o)⟩
noncomputable def SR.thn (r:SR) (g:DS->SR):SR:=match r with
 | .nx ρ'=>g ρ'
 | r=>r
noncomputable def SR.out (fr:Bool) (r:SR):R D:=match r with
 | .rt d=>.ok d
 | .nx _=>if fr=true then .st else .ok .non
 | .er x=>.er x
 | _=>.st
theorem ziq (g1 g2:DS->SR) (ρ:DS):z28 g1 g2 ρ=(g1 ρ).thn g2:=rfl
theorem zir (ρ:DS) (g:DS->SR):(SR.nx ρ).thn g=g ρ:=rfl
theorem zob (d:D) (g:DS->SR):(SR.rt d).thn g=.rt d:=rfl
theorem zoc (x:Ex) (g:DS->SR):(SR.er x).thn g=.er x:=rfl
theorem zod (ρ:DS) (g:DS->SR):(SR.bk ρ).thn g=.bk ρ:=rfl
theorem zoe (ρ:DS) (g:DS->SR):(SR.ct ρ).thn g=.ct ρ:=rfl
theorem zof (g:DS->SR):(SR.st).thn g=.st:=rfl
theorem zkp (c:Prop) [Decidable c] (a b:SR) (g:DS->SR):(if c then a else b).thn g=if c then a.thn g else b.thn g:=by split<;>rfl
theorem z9q (fr:Bool) (n k:Nat) (g:DS->SR) (ds:List D):mOf fr n k g ds=if ds.length=n then (g (ds.map .im++List.replicate k .em)).out fr else .st:=rfl
theorem zog (fr:Bool) (d:D):(SR.rt d).out fr=.ok d:=rfl
theorem zoh (ρ:DS):(SR.nx ρ).out false=.ok .non:=rfl
theorem zoi (fr:Bool) (x:Ex):(SR.er x).out fr=.er x:=rfl
theorem zoj (fr:Bool):(SR.st).out fr=.st:=rfl
theorem zkq (fr:Bool) (c:Prop) [Decidable c] (a b:SR):(if c then a else b).out fr=if c then a.out fr else b.out fr:=by split<;>rfl
theorem z8s (m:List Bool) (f:DE->R D) (ρ:DS):z61 m f ρ=(f (vis m ρ)).toS fun d=>.rt d:=rfl
theorem zok (fr:Bool) (i:Nat) (m:List Bool) (f:DE->R D) (ρ:DS):z3q fr i m f ρ=(f (vis m ρ)).toS fun d=>.nx (zgq fr i d (z4r (keeps fr d) m ρ)):=rfl
theorem zt3 (t:DE->R Bool) (g1 g2:DS->SR) (ρ:DS):sIf t g1 g2 ρ=(t (see ρ)).toS fun b=>if b=true then g1 ρ else g2 ρ:=rfl
theorem zol {α:Type} (a:α) (k:α->SR):R.toS (.ok a) k=k a:=rfl
theorem zom {α:Type} (x:Ex) (k:α->SR):R.toS (.er x:R α) k=.er x:=rfl
theorem zon {α:Type} (k:α->SR):R.toS (.st:R α) k=.st:=rfl
theorem zkr {α:Type} (c:Prop) [Decidable c] (a b:R α) (k:α->SR):R.toS (if c then a else b) k=if c then R.toS a k else R.toS b k:=by split<;>rfl
theorem zks {α β:Type} (x:Ex) (k:α->R β):R.bind (.er x:R α) k=.er x:=rfl
theorem zax {α:Type} (a:α):(R.ok a).noE=.ok a:=rfl
theorem zt4 (m:List Bool):vis m []=[]:=by cases m<;>rfl
theorem zt5 (s:Sl) (r:DS):vis [] (s::r)=s.see false::vis [] r:=rfl
theorem zt6 (b:Bool) (m:List Bool) (s:Sl) (r:DS):vis (b::m) (s::r)=s.see b::vis m r:=rfl
theorem zt7:see []=[]:=rfl
theorem zt8 (s:Sl) (r:DS):see (s::r)=s.see true::see r:=rfl
theorem zoo (b:Bool):Sl.see b .em=none:=rfl
theorem zop (b:Bool) (d:D):Sl.see b (.im d)=some d:=rfl
theorem zkt (d:D):Sl.see true (.ow d)=some d:=rfl
theorem zku (d:D):Sl.see false (.ow d)=none:=rfl
theorem zoq (m:List Bool) (ρ:DS):z4r true m ρ=ρ:=rfl
theorem zh0 (fr:Bool) (i:Int):keeps fr (.int i)=true:=by cases fr<;>rfl
theorem zkv (fr:Bool) (i:Bool):keeps fr (.bl i)=true:=by cases fr<;>rfl
theorem zh1 (fr:Bool):keeps fr .non=true:=by cases fr<;>rfl
theorem zh2 (fr:Bool) (x:PySem.Str):keeps fr (.str x)=true:=by cases fr<;>rfl
theorem zh3 (fr:Bool) (ds:List D):keeps fr (.tup ds)=z2t ds:=by cases fr<;>simp only [keeps,D.noL,D.shal,if_true,Bool.false_eq_true,if_false]
theorem zay (ds:List D):keeps true (.lst ds)=z2t ds:=rfl
theorem zor:z2t []=true:=by simp only [z2t]
theorem zos (d:D) (r:List D):z2t (d::r)=(d.noL&&z2t r):=by simp only [z2t]
theorem z31 (i:Int):(D.int i).noL=true:=by simp only [D.noL]
theorem zot (i:Bool):(D.bl i).noL=true:=by simp only [D.noL]
theorem zkw (i:PySem.Str):(D.str i).noL=true:=by simp only [D.noL]
theorem zkx:(D.non).noL=true:=by simp only [D.noL]
theorem zky (ds:List D):(D.tup ds).noL=z2t ds:=by simp only [D.noL]
theorem zkz (ds:List D):(D.lst ds).noL=false:=by simp only [D.noL]
theorem zt9 (i:Nat) (d:D) (ρ:DS):zgq false i d ρ=ρ.set i (.im d):=rfl
theorem zta (i:Nat) (d:D) (ρ:DS):zgq true i d ρ=ρ.set i (.ow d):=rfl
theorem ztb (ρ:DE):sel [] ρ=[]:=rfl
theorem ztc (j:Nat) (r:List Nat) (ρ:DE):sel (j::r) ρ=(ρ[j]?).getD none::sel r ρ:=rfl
theorem zw6 (d:D) (r:DE):z04 0 (some d::r)=.ok d:=rfl
theorem zw7 (i:Nat) (d:Option D) (r:DE):z04 (i+1) (d::r)=z04 i r:=rfl
theorem ztd (g:Int->Int->D) (i j:Int):dI g (.int i) (.int j)=some (g i j):=rfl
theorem z6l (C:Int->Int->Prop) [∀i j,Decidable (C i j)] (g:Int->Int->D) (i j:Int):dIC C g (.int i) (.int j)=if C i j then some (g i j) else none:=rfl
theorem zte (b:Bool):asB (.bl b)=some b:=rfl
theorem zis (b:Bool):z9n (.bl b)=some b:=rfl
theorem zou (ds:List D):z9n (.lst ds)=some (!ds.isEmpty):=rfl
theorem zov (i:Int):z9n (.int i)=some (i != 0):=rfl
theorem z5n (i j:Int):(i==j)=decide (i=j):=by rw [Bool.eq_iff_iff];simp
theorem zow (i j:Int):dEq (.int i) (.int j)=some (.bl (decide (i=j))):=by
 unfold dEq
 rw [if_pos (by simp [D.pl,D.dep])]
 simp only [eqD,z5n]
theorem zox (i j:Int):dNe (.int i) (.int j)=some (.bl (!decide (i=j))):=by
 unfold dNe
 rw [if_pos (by simp [D.pl,D.dep])]
 simp only [eqD,z5n]
theorem zoy (i j:Bool):dEq (.bl i) (.bl j)=some (.bl (i==j)):=by
 unfold dEq
 rw [if_pos (by simp [D.pl,D.dep])]
 simp only [eqD]
theorem zoz (a b c e:Int):dEq (.tup [.int a,.int b]) (.tup [.int c,.int e])=some (.bl (decide (a=c)&&decide (b=e))):=by
 unfold dEq
 rw [if_pos (by simp [D.pl,D.dep,pls,z59])]
 simp only [eqD,z3w,z5n,Bool.and_true]
theorem zp0 (a b c e:Int):dNe (.tup [.int a,.int b]) (.tup [.int c,.int e])=some (.bl (!(decide (a=c)&&decide (b=e)))):=by
 unfold dNe
 rw [if_pos (by simp [D.pl,D.dep,pls,z59])]
 simp only [eqD,z3w,z5n,Bool.and_true]
theorem zit (a:D) (r:List D):dIx (.tup (a::r)) (.int 0)=some a:=by simp only [dIx,dOr,zbv,zuy]
theorem ziu (a b:D) (r:List D):dIx (.tup (a::b::r)) (.int 1)=some b:=by simp only [dIx,dOr,zbv,zuz]
theorem zp1 (a b c:D) (r:List D):dIx (.tup (a::b::c::r)) (.int 2)=some c:=by simp only [dIx,dOr,zbv,show atI (a::b::c::r) 2=some c from z70 (j:=2) rfl]
theorem zp2 (a:D) (r:List D):dIx (.lst (a::r)) (.int 0)=some a:=by simp only [dIx,dOr,zbv,zuy]
theorem zp3 (a b:D) (r:List D):dIx (.lst (a::b::r)) (.int 1)=some b:=by simp only [dIx,dOr,zbv,zuz]
theorem zp4 {ds:List D} {j:Nat} {d:D} (h:ds[j]?=some d):dIx (.lst ds) (.int (j:Int))=some d:=by simp only [dIx,dOr,zbv,z70 h]
theorem zp5 (ns:List Int):ze2 [.scr ns]=some (.int ns.length):=rfl
theorem ziv (ns:List D):ze2 [.lst ns]=some (.int ns.length):=rfl
theorem zp6 (ns:List D):ze2 [.tup ns]=some (.int ns.length):=rfl
theorem ztf (b c:Bool):(if b=true then R.ok true else R.ok c)=R.ok (b||c):=by cases b<;>rfl
theorem zp7 (b c:Bool):(if b=true then R.ok c else R.ok false)=R.ok (b&&c):=by cases b<;>rfl
theorem zp8 (b c:Bool):(if b=true then R.ok (D.bl true) else R.ok (D.bl c))=R.ok (D.bl (b||c)):=by cases b<;>rfl
theorem zl0 (b c:Bool):(if b=true then R.ok (D.bl c) else R.ok (D.bl false))=R.ok (D.bl (b&&c)):=by cases b<;>rfl
theorem zp9 (i:Int):z66 "int" (.int i)=some (.bl true):=by simp [z66,z4e,z58,zd8]
theorem zpa (i:Int):z66 "bool" (.int i)=some (.bl false):=by simp [z66,z4e,z58,zd8]
theorem zpb (i:Bool):z66 "bool" (.bl i)=some (.bl true):=by simp [z66,z4e,z58,zd8]
theorem zep (ds:List D):z66 "tuple" (.tup ds)=some (.bl true):=by simp [z66,z4e,z58,zd8]
theorem ziw (ds:List D):z66 "list" (.lst ds)=some (.bl true):=by simp [z66,z4e,z58,zd8]
theorem zpc (tg:Tg) (g:DS->SR) (ρ:DS):zbp tg g [] ρ=.nx ρ:=rfl
noncomputable def SR.itr (r:SR) (k:DS->SR):SR:=match r with
 | .nx ρ2=>k ρ2
 | .ct ρ2=>k ρ2
 | .bk ρ2=>.nx ρ2
 | .rt d=>.rt d
 | .er x=>.er x
 | .st=>.st
theorem zpd (ρ:DS) (k:DS->SR):(SR.nx ρ).itr k=k ρ:=rfl
theorem zpe (ρ:DS) (k:DS->SR):(SR.ct ρ).itr k=k ρ:=rfl
theorem zpf (ρ:DS) (k:DS->SR):(SR.bk ρ).itr k=.nx ρ:=rfl
theorem zpg (d:D) (k:DS->SR):(SR.rt d).itr k=.rt d:=rfl
theorem zl1 (c:Prop) [Decidable c] (a b:SR) (g:DS->SR):(if c then a else b).itr g=if c then a.itr g else b.itr g:=by split<;>rfl
theorem zl2 (bn:D->Option (List D)) (t:DE->R Bool) (f:DE->R D) (cs:DE):z3k bn t f cs []=.ok []:=rfl
theorem zl3 (f:DE->R D) (cs:DE) (d:D) (ds:List D):z3k b1 z4v f cs (d::ds)=(f (some d::cs)).noE.bind fun y=>(z3k b1 z4v f cs ds).bind fun ys=>.ok (y::ys):=rfl
theorem z5o {bn:D->Option (List D)} {f:DE->R D} {cs:DE} {α:Type} {en:α->D} {bs:α->List D} {g:α->D} (xs:List α) (hb:∀x∈xs,bn (en x)=some (bs x)) (hf:∀x∈xs,f ((bs x).map some++cs)=.ok (g x)):z3k bn z4v f cs (xs.map en)=.ok (xs.map g):=by
 induction xs with
 | nil=>rfl
 | cons x xs ih=>
  simp only [List.map_cons,z3k,hb x (by simp),z4v,R.of_some,R.bind_ok,zax,if_true,hf x (by simp),ih (fun y hy=>hb y (by simp [hy])) (fun y hy=>hf y (by simp [hy]))]
theorem z8t {bn:D->Option (List D)} {t:DE->R Bool} {f:DE->R D} {cs:DE} {α:Type} {en:α->D} {bs:α->List D} {p:α->Bool} {g:α->D} (xs:List α) (hb:∀x∈xs,bn (en x)=some (bs x)) (ht:∀x∈xs,t ((bs x).map some++cs)=.ok (p x)) (hf:∀x∈xs,p x=true->f ((bs x).map some++cs)=.ok (g x)):z3k bn t f cs (xs.map en)=.ok ((xs.filter p).map g):=by
 induction xs with
 | nil=>rfl
 | cons x xs ih=>
  have ih':=ih (fun y hy=>hb y (by simp [hy])) (fun y hy=>ht y (by simp [hy])) (fun y hy=>hf y (by simp [hy]))
  simp only [List.map_cons,z3k,hb x (by simp),ht x (by simp),R.of_some,R.bind_ok,zax,ih']
  cases e:p x with
  | true=>simp only [if_true,hf x (by simp) e,zax,R.bind_ok,List.filter_cons,e,List.map_cons]
  | false=>simp only [Bool.false_eq_true,if_false,List.filter_cons,e]
theorem z4w {tg:Tg} {g:DS->SR} {α:Type} {en:α->D} (P:List α->DS->Prop) (xs:List α) (ρ:DS) (h0:P xs ρ) (hs:∀x r ρ,P (x::r) ρ->∃ρ1 ρ2,zi7 tg (en x) ρ=some ρ1/\(g ρ1=.nx ρ2\/g ρ1=.ct ρ2)/\P r ρ2):∃ρ',zbp tg g (xs.map en) ρ=.nx ρ'/\P [] ρ':=by
 induction xs generalizing ρ with
 | nil=>exact ⟨ρ,rfl,h0⟩
 | cons x r ih=>
  obtain ⟨ρ1,ρ2,e1,e2,q⟩:=hs x r ρ h0
  obtain ⟨ρ',e',p'⟩:=ih ρ2 q
  refine ⟨ρ',?_,p'⟩
  rcases e2 with e2 | e2<;>simp only [List.map_cons,zbp,e1,e2,e']
noncomputable def L (ns:List Int):D:=.lst (ns.map .int)
theorem z1s {α:Type} (f:α->D) (xs:List α) (h:∀x∈xs,(f x).noL=true):z2t (xs.map f)=true:=by
 induction xs with
 | nil=>simp only [List.map_nil,z2t]
 | cons a r ih=>simp only [List.map_cons,z2t,h a (by simp),ih fun x hx=>h x (by simp [hx]),Bool.and_self]
theorem zph (ns:List Int):keeps true (L ns)=true:=by
 unfold L;rw [zay];exact z1s _ _ fun x _=>z31 x
theorem ztg (ns:List Int):ze2 [L ns]=some (.int ns.length):=by unfold L;rw [ziv,List.length_map]
theorem zpi (ns:List Int):z9o [L ns]=some (L ns):=rfl
theorem zth (ns:List Int):z66 "list" (L ns)=some (.bl true):=ziw _
theorem zl4 (ns:List Int):items (L ns)=some (ns.map .int):=rfl
theorem zti {ns:List Int} {x:Int} (h:ns.length<100000):zo6 (L ns) [.int x]=some (L (ns++[x])):=by
 simp only [L,zo6,List.length_map,h,if_true,List.map_append,List.map_cons,List.map_nil]
theorem zw8 (ns:List Int) (lo hi:Option Int):dSl (L ns) lo hi=some (L (z4s ns lo hi)):=by
 simp only [L,dSl,z4s,List.length_map,List.map_take,List.map_drop]
theorem zpj (ns:List Int) (lo hi:Option Int):dSl (.scr ns) lo hi=some (L (z4s ns lo hi)):=rfl
theorem ztj (ns:List Int):zgw [L ns]=some (.int ns.sum):=by simp only [L,zgw,z3a,Option.map_some]
theorem any_map {α:Type} (xs:List α) (f:α->Bool):zo0 [.lst (xs.map fun x=>D.bl (f x))]=some (.bl (xs.any f)):=by
 have:xs.map (fun x=>D.bl (f x))=(xs.map f).map D.bl:=by rw [List.map_map];rfl
 rw [this];simp only [zo0,z5i,Option.map_some,List.any_map];rfl
theorem zc3 (ns:List Int):(L ns).dep<=1/\(L ns).pl=true:=by
 have:∀ns:List Int,z59 (ns.map D.int)=0/\pls (ns.map D.int)=true:=fun ns=>by
  induction ns with
  | nil=>simp only [List.map_nil,z59,pls,and_self]
  | cons a r ih=>simp only [List.map_cons,z59,pls,D.dep,D.pl,ih.1,ih.2,Bool.and_self,Nat.max_self,and_self]
 simp only [L,D.dep,D.pl,this];exact ⟨by omega,trivial⟩
theorem zeq:∀(a b:List Int),z3w (a.map D.int) (b.map D.int)=decide (a=b)
 | [],[]=>by simp [z3w]
 | [],_::_=>by simp [z3w]
 | _::_,[]=>by simp [z3w]
 | x::a,y::b=>by
  simp only [List.map_cons,z3w,eqD,zeq a b,List.cons.injEq,Bool.decide_and,z5n]
theorem zw9 (a b:List Int):dEq (L a) (L b)=some (.bl (decide (a=b))):=by
 unfold dEq
 rw [if_pos ⟨(zc3 a).2,(zc3 b).2,by have:=(zc3 a).1;omega⟩]
 simp only [L,eqD,zeq]
theorem zwa (a b:List Int):dNe (L a) (L b)=some (.bl (!decide (a=b))):=by
 unfold dNe
 rw [if_pos ⟨(zc3 a).2,(zc3 b).2,by have:=(zc3 a).1;omega⟩]
 simp only [L,eqD,zeq]
theorem z7k {tg:Tg} {g:DS->SR} (n:Nat) (en:Nat->D) (P:Nat->DS->Prop) (ρ:DS) (h0:P 0 ρ)
  (hs:∀i,i<n->∀ρ,P i ρ->∃ρ1 ρ2,zi7 tg (en i) ρ=some ρ1/\(g ρ1=.nx ρ2\/g ρ1=.ct ρ2)/\P (i+1) ρ2) :
  ∃ρ',zbp tg g ((List.range n).map en) ρ=.nx ρ'/\P n ρ':=by
 have key:∀k s ρ,s+k=n->P s ρ->∃ρ',zbp tg g ((List.range' s k).map en) ρ=.nx ρ'/\P n ρ':=by
  intro k
  induction k with
  | zero=>intro s ρ e h;exact ⟨ρ,rfl,by rwa [<-e]⟩
  | succ k ih=>
   intro s ρ e h
   obtain ⟨ρ1,ρ2,e1,e2,q⟩:=hs s (by omega) ρ h
   obtain ⟨ρ',e',p'⟩:=ih (s+1) ρ2 (by omega) q
   refine ⟨ρ',?_,p'⟩
   rw [List.range'_succ,List.map_cons]
   rcases e2 with e2 | e2<;>simp only [zbp,e1,e2,e']
 rw [List.range_eq_range']
 exact key n 0 ρ (by omega) h0
theorem zaz (n:Nat) (g:Nat->D):((zD 0 ((List.range n).map g).length).zip ((List.range n).map g)).map (fun p=>D.tup [p.1,p.2])=(List.range n).map fun (i:Nat)=>D.tup [.int (i:Int),g i]:=by
 simp only [zD,List.length_map,List.length_range]
 have:∀(l:List Nat),((l.map fun (i:Nat)=>D.int (0+i)).zip (l.map g)).map (fun p=>D.tup [p.1,p.2])=l.map fun (i:Nat)=>D.tup [.int (i:Int),g i]:=fun l=>by
  induction l with
  | nil=>rfl
  | cons a r ih=>simp only [Int.zero_add] at ih ⊢;simp only [List.map_cons,List.zip_cons_cons,ih]
 exact this _
theorem zix {α:Type} (xs:List α) (d:α):xs=(List.range xs.length).map fun i=>xs.getD i d:=by
 apply List.ext_getElem?
 intro i
 by_cases h:i<xs.length
 . rw [List.getElem?_map,List.getElem?_range h,Option.map_some,List.getD_eq_getElem?_getD,List.getElem?_eq_getElem h];rfl
 . rw [List.getElem?_eq_none (by omega),List.getElem?_eq_none (by simp;omega)]
theorem ztk (ns:List Int):isT "list" (L ns)=true:=by simp only [L,isT,beq_self_eq_true]
theorem zpk (m:List Bool) (ρ:DS):z4r false m ρ=frz m ρ:=rfl
theorem ztl (ρ:DS):frz [] ρ=ρ:=by cases ρ<;>rfl
theorem ztm (m:List Bool):frz m []=[]:=by cases m<;>rfl
theorem ztn (b:Bool) (m:List Bool) (s:Sl) (r:DS):frz (b::m) (s::r)=s.frz b::frz m r:=rfl
theorem zpl (b:Bool) (d:D):Sl.frz b (.im d)=.im d:=rfl
theorem zpm (b:Bool):Sl.frz b .em=.em:=rfl
theorem zl5 (d:D):Sl.frz false (.ow d)=.ow d:=rfl
theorem zl6 (d:D):Sl.frz true (.ow d)=.im d:=rfl
theorem zer {i j:Int} (h:-(2 ^ 64)<i/\i<2 ^ 64):zdw (.int i) (.int j)=some (.int (i * j)):=by
 unfold zdw;rw [z6l,if_pos (show CMul i j from Or.inl h)]
theorem zto {i j:Int} (h:-(2 ^ 64)<j/\j<2 ^ 64):zdw (.int i) (.int j)=some (.int (i * j)):=by
 unfold zdw;rw [z6l,if_pos (show CMul i j from Or.inr h)]
theorem z7l {i j:Int} (h:0<j):z9k (.int i) (.int j)=some (.int (i % j)):=by
 unfold z9k;rw [z6l,if_pos h]
theorem zes {i j:Int} (h:0<j/\j<1073741824):zgt (.int i) (.int j)=some (.int (i / j)):=by
 unfold zgt;rw [z6l,if_pos (show zjs i j from h)]
theorem zpn (i:Int):R.of (match D.int i with | .int i=>some (some i) | _=>none)=R.ok (some i):=rfl
theorem zl7 {j:Int} (hj:-100000<=j/\j<=100000):-(2 ^ 62)<=j/\j<2 ^ 62:=by omega
theorem zpo {fs:DE->R (List D)} {ρ:DE} (j:Int) (hj:-100000<=j/\j<=100000) (h:fs ρ=.ok [.int j]):zar fs ρ=.ok (zD 0 j.toNat):=by
 unfold zar;rw [h,R.bind_ok]
 show R.of (if _ then _ else _)=_
 rw [if_pos (zl7 hj)];rfl
theorem zl8 (ds:List D):items (.lst ds)=some ds:=rfl
theorem zl9 (ds:List D):items (.tup ds)=some ds:=rfl
theorem z8u (ds:List D):keeps false (.lst ds)=false:=by simp only [keeps,D.noL,Bool.false_eq_true,if_false]
theorem zla (ns:List Int):keeps false (L ns)=false:=z8u _
noncomputable def T2 (p:Int×Int):D:=.tup [.int p.1,.int p.2]
noncomputable def T3 (p:Int×Int×Int):D:=.tup [.int p.1,.int p.2.1,.int p.2.2]
theorem zet {l l':List D} (h:ois l'=true) (p:l.Perm l'):z2i l=z2i l':=
 z43 (z3b ((z0i l).trans p) h) (((z0i l).trans p).trans (z0i l').symm) (z26 (z3b p h)) (z26 h)
noncomputable def zmd {α:Type} (lt:α->α->Bool) (d:α):List α->List α
 | []=>[d]
 | e::r=>if lt e d=true then e::zmd lt d r else d::e::r
noncomputable def z8v {α:Type} (lt:α->α->Bool):List α->List α
 | []=>[]
 | d::r=>zmd lt d (z8v lt r)
section
variable {α:Type} (f:α->D)
theorem zb0 (d:α):∀l:List α,zgy (f d) (l.map f)=(zmd (fun a b=>ltT (f a) (f b)) d l).map f
 | []=>rfl
 | e::r=>by
  simp only [List.map_cons,zgy,zmd]
  split
  . rw [List.map_cons,zb0 d r]
  . rfl
theorem z8w:∀l:List α,z2i (l.map f)=(z8v (fun a b=>ltT (f a) (f b)) l).map f
 | []=>rfl
 | d::r=>by simp only [List.map_cons,z2i,z8v,z8w r,zb0]
variable (lt:α->α->Bool)
theorem z8x (d:α):∀l:List α,(zmd lt d l).Perm (d::l)
 | []=>.refl _
 | e::r=>by
  unfold zmd
  split
  . exact ((z8x d r).cons e).trans (.swap d e r)
  . exact .refl _
theorem z6m:∀l:List α,(z8v lt l).Perm l
 | []=>.refl _
 | d::r=>(z8x lt d (z8v lt r)).trans ((z6m r).cons d)
end
noncomputable def so2 (ls:List (Int×Int)):List (Int×Int):=z8v (fun a b=>ltT (T2 a) (T2 b)) ls
noncomputable def so3 (ls:List (Int×Int×Int)):List (Int×Int×Int):=z8v (fun a b=>ltT (T3 a) (T3 b)) ls
theorem z6n {α:Type} (xs:List α) (f:α->D) (p:D->Bool) (h:∀x,p (f x)=true):(xs.map f).all p=true:=by
 rw [List.all_eq_true];intro d hd;obtain ⟨x,_,rfl⟩:=List.mem_map.mp hd;exact h x
theorem z8y {α:Type} (xs:List α) (f:α->D) (h:∀x,(f x).oi=true):ois (xs.map f)=true:=
 ois_mem.mpr fun d hd=>by obtain ⟨x,_,rfl⟩:=List.mem_map.mp hd;exact h x
theorem z7m {α:Type} (xs:List α) (f:α->D) (n:Nat) (h:∀x,(f x).dep<=n):z59 (xs.map f)<=n:=by
 induction xs with
 | nil=>simp only [List.map_nil,z59,Nat.zero_le]
 | cons a r ih=>simp only [List.map_cons,z59];have:=h a;omega
theorem pls_of {α:Type} (xs:List α) (f:α->D) (h:∀x,(f x).pl=true):pls (xs.map f)=true:=by
 induction xs with
 | nil=>simp only [List.map_nil,pls]
 | cons a r ih=>simp only [List.map_cons,pls,h a,ih,Bool.and_self]
theorem zwb (p:Int):(D.int p).oi=true:=by simp [D.oi]
theorem ziy (p:Int×Int):(T2 p).noL=true:=by simp [T2,D.noL,z2t]
theorem ziz (p:Int×Int×Int):(T3 p).noL=true:=by simp [T3,D.noL,z2t]
theorem ztp (p q:Int):(z21 (.int p) (.int q)).isSome=true:=by simp only [z21];rfl
theorem zb1 {α β:Type} {f:α->β} (hf:∀x y,f x=f y->x=y):∀{a b:List α},a.map f=b.map f->a=b
 | [],[],_=>rfl
 | [],_::_,h=>by simp at h
 | _::_,[],h=>by simp at h
 | x::a,y::b,h=>by
  simp only [List.map_cons,List.cons.injEq] at h
  rw [hf _ _ h.1,zb1 hf h.2]
theorem ztq (ds:List D):isT "list" (.lst ds)=true:=by simp only [isT,beq_self_eq_true]
theorem ztr (b:Bool):zmb [.bl b]=some (.int (if b then 1 else 0)):=rfl
theorem zts (i:Int):zmb [.int i]=some (.int i):=rfl
theorem zpp (ds:List D):z9o [.tup ds]=some (.lst ds):=rfl
theorem zpq (ds:List D):z9o [.lst ds]=some (.lst ds):=rfl
theorem zlb (ds:List D):z1i [.lst ds]=some (.tup ds):=rfl
theorem zlc (ds:List D):z1i [.tup ds]=some (.tup ds):=rfl
theorem zh4 (ls:List (Int×Int)):z2t (ls.map T2)=true:=z1s _ _ fun x _=>ziy x
theorem zh5 (ls:List (Int×Int×Int)):z2t (ls.map T3)=true:=z1s _ _ fun x _=>ziz x
theorem zpr (t:Int×Int×Int):zgw [T3 t]=some (.int (t.1+(t.2.1+(t.2.2+0)))):=by
 simp only [T3,zgw,z25,Option.map_some,List.sum_cons,List.sum_nil]
theorem zps (t:Int×Int):zgw [T2 t]=some (.int (t.1+(t.2+0))):=by
 simp only [T2,zgw,z25,Option.map_some,List.sum_cons,List.sum_nil]
theorem zpt (t:Int×Int×Int):z66 "tuple" (T3 t)=some (.bl true):=zep _
theorem zpu (t:Int×Int):z66 "tuple" (T2 t)=some (.bl true):=zep _
theorem zpv (t:Int×Int):ze2 [T2 t]=some (.int 2):=rfl
theorem ztt (t:Int×Int):dIx (T2 t) (.int 0)=some (.int t.1):=zit _ _
theorem ztu (t:Int×Int):dIx (T2 t) (.int 1)=some (.int t.2):=ziu _ _ _
theorem zh6 (t:Int×Int×Int):items (T3 t)=some [.int t.1,.int t.2.1,.int t.2.2]:=rfl
def zpw (i j:Int):Prop:=0<j/\j<2 ^ 200
instance (i j:Int):Decidable (zpw i j):=by unfold zpw;infer_instance
noncomputable def hid (as:List Addr) (H:Hp):Hp:=fun b=>if b∈as then none else H b
theorem zpx {as:List Addr} {H:Hp} {a:Addr} (h:a∈as):hid as H a=none:=if_pos h
theorem zeu {as:List Addr} {H:Hp} {a:Addr} (h:a∉as):hid as H a=H a:=if_neg h
theorem z9r {α:Type} {l:List α} {i j:Nat} {x y:α} (h:(l.set i x)[j]?=some y):(i=j/\x=y)\/(i≠j/\l[j]?=some y):=by
 by_cases e:i=j
 . subst e
   by_cases hl:i<l.length
   . rw [List.getElem?_set_self hl] at h;exact .inl ⟨rfl,Option.some.inj h⟩
   . rw [List.getElem?_eq_none (by rw [List.length_set];omega)] at h;cases h
 . rw [List.getElem?_set_ne e] at h;exact .inr ⟨e,h⟩
mutual
noncomputable def nkD:D->Option NK
 | .int n=>some (.i n)
 | .tup ds=>(zj0 ds).map .t
 | _=>none
noncomputable def zj0:List D->Option (List NK)
 | []=>some []
 | d::ds=>match nkD d,zj0 ds with
  | some k,some ks=>some (k::ks)
  | _,_=>none
end
mutual
theorem zev {K:Frag} {H:Hp}:∀{d:D} {k:NK} {x:V},nkD d=some k->RD K H d x->NKr H k x
 | .int n,k,x,e,r=>by
  simp only [nkD,Option.some.injEq] at e;subst e
  cases r.int;simp only [NKr]
 | .tup ds,k,x,e,r=>by
  simp only [nkD,Option.map_eq_some_iff] at e
  obtain ⟨ks,e,rfl⟩:=e
  obtain ⟨a,xs,rfl,ha,ra⟩:=r.tup
  simp only [NKr]
  exact ⟨a,xs,rfl,ha,zew e ra⟩
 | .non,_,_,e,_=>by simp [nkD] at e
 | .bl _,_,_,e,_=>by simp [nkD] at e
 | .str _,_,_,e,_=>by simp [nkD] at e
 | .lst _,_,_,e,_=>by simp [nkD] at e
 | .dk _ _,_,_,e,_=>by simp [nkD] at e
 | .dt _ _,_,_,e,_=>by simp [nkD] at e
 | .dn _ _,_,_,e,_=>by simp [nkD] at e
 | .scr _,_,_,e,_=>by simp [nkD] at e
 | .exc _,_,_,e,_=>by simp [nkD] at e
theorem zew {K:Frag} {H:Hp}:∀{ds:List D} {ks:List NK} {xs:List V},zj0 ds=some ks->RDs K H ds xs->NKrs H ks xs
 | [],ks,xs,e,r=>by
  simp only [zj0,Option.some.injEq] at e;subst e
  simp only [RDs] at r;subst r;simp only [NKrs]
 | d::ds,ks,xs,e,r=>by
  simp only [RDs] at r
  obtain ⟨x,r,rfl,r1,r2⟩:=r
  simp only [zj0] at e
  split at e
  . rename_i k ks' e1 e2
    cases e
    simp only [NKrs]
    exact ⟨x,_,rfl,zev e1 r1,zew e2 r2⟩
  . cases e
end
noncomputable def putQ (qs:List (NK×Addr)) (k:NK) (b:Addr):List (NK×Addr):=if k∈qs.map (·.1) then qs else qs++[(k,b)]
noncomputable def z3 (qs:List (NK×Addr)) (vs:List Value):List (NK×Addr×Value):=(qs.zip vs).map fun q=>(q.1.1,q.1.2,q.2)
theorem zex:∀(qs:List (NK×Addr)) (vs:List Value),qs.length=vs.length->(z3 qs vs).map (·.1)=qs.map (·.1)
 | [],_,_=>rfl
 | q::qs,[],h=>by simp at h
 | q::qs,v::vs,h=>by
  have:=zex qs vs (by simpa using h)
  simp only [z3,List.zip_cons_cons,List.map_cons] at this ⊢
  rw [this]
theorem zj1 (qs:List (NK×Addr)) (vs:List Value) (h:qs.length=vs.length):(z3 qs vs).length=qs.length:=by
 simp only [z3,List.length_map,List.length_zip];omega
theorem zld {α:Type} (xs:List (NK×Addr×α)) (k:NK):((xs.find? fun x=>decide (x.1=k)).map (·.2)).isSome=decide (k∈xs.map (·.1)):=by
 rw [Option.isSome_map,Bool.eq_iff_iff,List.find?_isSome,decide_eq_true_eq,List.mem_map]
 constructor
 . rintro ⟨x,hx,e⟩;exact ⟨x,hx,by simpa using e⟩
 . rintro ⟨x,hx,e⟩;exact ⟨x,hx,by simpa using e⟩
theorem zpy (qs:List (NK×Addr)) (vs:List Value) (h:qs.length=vs.length) (k:NK) (b:Addr) (u:Value):storedH (z3 qs vs) k b u=z3 (putQ qs k b) (zbu (qs.map (·.1)) vs k u)/\(putQ qs k b).length=(zbu (qs.map (·.1)) vs k u).length:=by
 unfold storedH putQ zbu
 have e:=zld (z3 qs vs) k
 rw [zex qs vs h] at e
 rw [show (atKey (z3 qs vs) k).isSome=decide (k∈qs.map (·.1)) from e]
 by_cases hk:k∈qs.map (·.1)
 . rw [if_pos (decide_eq_true hk),if_pos hk,if_pos hk]
   have go:∀(qs:List (NK×Addr)) (vs:List Value),qs.length=vs.length->(z3 qs vs).map (putAt k u)=z3 qs (List.zipWith (fun k' d'=>if k'=k then u else d') (qs.map (·.1)) vs)/\qs.length=(List.zipWith (fun k' d'=>if k'=k then u else d') (qs.map (·.1)) vs).length:=by
    intro qs
    induction qs with
    | nil=>intro vs _;exact ⟨rfl,rfl⟩
    | cons q qs ih=>
     intro vs h
     cases vs with
     | nil=>simp at h
     | cons v vs=>
      obtain ⟨i1,i2⟩:=ih vs (by simpa using h)
      simp only [z3,List.zip_cons_cons,List.map_cons,List.zipWith_cons_cons,List.length_cons] at i1 i2 ⊢
      refine ⟨?_,by omega⟩
      rw [i1]
      congr 1
      unfold putAt
      by_cases z:q.1=k
      . simp only [if_pos z]
      . simp only [if_neg z]
   exact go qs vs h
 . rw [if_neg (by simpa using hk),if_neg hk,if_neg hk]
   refine ⟨?_,by simp;omega⟩
   unfold z3
   rw [List.zip_append h,List.map_append];rfl
section
variable {X:Cx} {pins:List (Addr×Obj)} {σ:St} {H:Hp} {s:Shared}
theorem zey {ks:List NK} {k:NK} {v:V} {u:Value} (ru:RelV v u) {xs:List V} {vs:List Value} (r:Vals xs vs):Vals (zbu ks xs k v) (zbu ks vs k u):=by
 unfold zbu
 split
 . have go:∀(ks:List NK) (xs:List V) (vs:List Value),Vals xs vs->Vals (List.zipWith (fun k' d'=>if k'=k then v else d') ks xs) (List.zipWith (fun k' d'=>if k'=k then u else d') ks vs):=by
    intro ks
    induction ks with
    | nil=>intro xs vs _;exact .nil
    | cons k' ks ih=>
     intro xs vs r
     cases r with
     | nil=>exact .nil
     | cons a1 a2=>
      simp only [List.zipWith_cons_cons]
      refine .cons ?_ (ih _ _ a2)
      split
      . exact ru
      . exact a1
   exact go ks xs vs r
 . exact r.append (.cons ru .nil)
theorem z9s (I:Inv X pins σ H s) {a:Addr} {qs:List (NK×Addr)} {xs:List V} {ob:Obj} (e:H a=some (.ext (dnP a qs xs ob))) (n:DN H a qs):s.heap.get? a=some ob/\∃vs,Vals xs vs/\qs.length=vs.length/\Heap.DictOfH (deepKind X.prog X.w) s.heap a (z3 qs vs):=by
 obtain ⟨p,_,_⟩:=(show ObjOk X.prog X.w H s.heap a (.ext (dnP a qs xs ob)) from I.hok a _ e)
 obtain ⟨p3,vs,es,ep,p1,p2,p4,p5,p6⟩:=p
 refine ⟨p3,vs,p1,p2,ob,es,ep,p3,p4,p5,p6,fun x hx=>?_,by rw [zex qs vs p2];exact n.1⟩
 obtain ⟨q,hq,rfl⟩:=List.mem_map.mp hx
 have hq':=(List.of_mem_zip hq).1
 exact ⟨zgn I (n.2.1 _ hq').1 rfl,(n.2.1 _ hq').2⟩
end
noncomputable def zpz:zm7:=fun o i v H Q=>∃(a:Addr) (qs:List (NK×Addr)) (xs:List V) (k:NK) (b:Addr) (ob:Obj),o=.ref a/\i=.ref b/\H a=some (.ext (dnP a qs xs ob))/\DN H a qs/\NKr H k (.ref b)/\k.dep<=8/\qs.length<sizeLine/\∀ob',Q (upd H a (.ext (dnP a (putQ qs k b) (zbu (qs.map (·.1)) xs k v) ob')))
theorem zq0 {X:Cx} (hu:X.A.units+64<cLine):zup X zpz:=by
 intro pins s σ H o i v ov iv u Q I ro ri rv h
 obtain ⟨a,qs,xs,k,b,ob,rfl,rfl,e,n,hk,hd,hl,q⟩:=h
 cases ro;cases ri
 obtain ⟨_,vs,p1,p2,dd⟩:=z9s I e n
 have hz:(z3 qs vs).length<=sizeLine:=by rw [zj1 qs vs p2];omega
 refine wpAny_setItem_heap (knd:=deepKind X.prog X.w) (hsz:=hz) (by show X.A.units+1+8<cLine;omega) ⟨zgn I hk rfl,hd⟩ dd fun h' dd' hs=>?_
 obtain ⟨e1,e2⟩:=zpy qs vs p2 k b u
 rw [e1] at dd'
 obtain ⟨o',es,ep,d1,d2,d3,d4,_⟩:=dd'
 refine ⟨_,?_,q o'⟩
 exact zk3 I (by rw [e];exact True.intro) hs ⟨o',d1⟩ ⟨⟨d1,_,es,ep,zey rv p1,e2,d2,d3,d4⟩,⟨o',d1⟩,dnP.stay⟩
noncomputable def dSetN:D->D->D->Option D
 | .dn ks ds,.tup es,v=>match nkD (.tup es) with
  | some k=>if ks.length<100000/\k.dep<=8 then some (.dn (zgu ks k) (zbu ks ds k v)) else none
  | none=>none
 | _,_,_=>none
theorem zez {K:Frag}:zv1 K dSetN zpz:=by
 intro H0 H a d d' dk dv y v Q s h0 ob rk rv hm k
 cases d<;>simp only [dSetN] at hm<;>first | cases hm | skip
 cases dk<;>simp only [dSetN] at hm<;>first | cases hm | skip
 rename_i ks ds es
 split at hm
 . rename_i kk hkk
   split at hm
   . rename_i hl
     cases hm
     simp only [OB] at ob
     obtain ⟨qs,xs,ob0,hx,hk,n,rx⟩:=ob
     have rk':=rk
     obtain ⟨b,ys,rfl,hb,rb⟩:=rk.tup
     have nk:=zev hkk rk'
     have hlen:qs.length=ks.length:=by rw [<-hk,List.length_map]
     have mono:∀a ys,H0 a=some (.tup ys)->H a=some (.tup ys):=fun c ys q=>s _ _ q
     refine ⟨a,qs,xs,kk,b,ob0,rfl,rfl,hx,n.tk mono,NKr.mono mono nk,hl.2,by rw [hlen];exact z2z hl.1,fun ob'=>k _ ?_⟩
     simp only [OB]
     refine ⟨_,_,ob',z0e,?_,?_,by rw [hk];exact zkh kk rv rx⟩
     . unfold putQ zgu
       rw [hk]
       split
       . exact hk
       . rw [List.map_append,hk];rfl
     . obtain ⟨n1,n2,n3,n4⟩:=n
       unfold putQ
       split
       . exact ⟨n1,n2,n3,n4⟩
       . rename_i hn
         refine ⟨?_,fun q hq=>?_,n3,?_⟩
         . rw [List.map_append,List.map_cons,List.map_nil]
           exact List.nodup_append.mpr ⟨n1,by simp,fun x hx y hy e=>hn (by rw [List.mem_singleton.mp hy] at e;have e':x=kk:=e;rw [<-e'];exact hx)⟩
         . rcases List.mem_append.mp hq with z | z
           . exact n2 q z
           . rw [List.mem_singleton.mp z];exact ⟨nk,hl.2⟩
         . have:=z2z hl.1
           rw [List.length_append,List.length_singleton];omega
   . cases hm
 . cases hm
section
variable {X:Cx} {EX:XW} {fr:Bool} {m:List Bool} {pos:Pos} {e:Expr} {fk fv:DE->R D}
theorem zj2 {i:Nat} {o ix:Expr} {tpos:Pos} (hu:X.A.units+64<cLine) (ho:PE X o (z63 i)) (hk:QE X EX false ix fk) (hv:QE X EX false e fv)
 (ha:∀v,assign (.Subscript o ix tpos) X.env v=(do
  let ov <-holding [v] (eval o X.env)
  let iv <-holding [v,ov] (eval ix X.env)
  standAt tpos
  holding [v,ov,iv] (setItem ov iv v)
  release [v,ov,iv] []):=by intro _;rfl) (hs:swapsWithSole [.Subscript o ix tpos] e pos.line X.env=pure false:=by rfl) (hw:swappedStores [.Subscript o ix tpos] e X.env=pure none:=by rfl)
 (h1:(assignEach [.Subscript o ix tpos] X.env).map (·.2)=[assign (.Subscript o ix tpos) X.env]:=by rfl):QS X EX fr (.Assign [.Subscript o ix tpos] e pos) (zi6 dSetN i m fk fv):=⟨(zi1 hv.h (zi0 ho hk.h (zq0 hu) ha) hs hw h1).imp fun _ _ _ q=>znp zez q⟩
noncomputable def z9t:DE->R D:=fun _=>.ok (.dn [] [])
theorem pe_dnewN:PE X (.Dict [] [] pos) (fun _ H Q=>∀p ob,H p=none->(p==sysModules)=false->Q (.ref p) (upd H p (.ext (dnP p [] [] ob)))):=fun pins s σ H Q I h=>
 wpAny_Dict_empty ⟨.ref s.heap.objs.size,_,I.laid (a:=s.heap.objs.size) (o:=.ext (dnP s.heap.objs.size [] [] { cls:=.type "dict",data:=.dict #[] })) (t':=s.toks) (fun _ _ q=>Heap.get?_push_of_some _ q) (Nat.le_refl _) ⟨⟨Heap.get?_push_size _ rfl,[],#[],0,.nil,rfl,⟨rfl,rfl,rfl⟩,rfl,rfl⟩,⟨_,Heap.get?_push_size _ rfl⟩,dnP.stay⟩,rfl,h _ _ (I.hok.fresh (Nat.le_refl _)) (beq_eq_false_iff_ne.mpr (Ne.symm (Nat.ne_of_lt I.big)))⟩
theorem zf0:QE X EX true (.Dict [] [] pos) z9t:=⟨pe_dnewN.imp fun σ H Q ⟨sx,ρ,H0,s,e,h⟩ p ob hp hq=>h _ _ (.new s hp fun H' hH=>by simp only [OB];exact ⟨[],[],ob,hH,rfl,⟨List.nodup_nil,fun q hq=>(by simp at hq),hq,Nat.zero_le _⟩,.nil⟩)⟩
end
def z9u (i j:Int):Prop:=Builtin.Int.intBits i<=2 ^ 20/\Builtin.Int.intBits j<=2 ^ 20
instance (i j:Int):Decidable (z9u i j):=by unfold z9u;infer_instance
noncomputable def z9v:D->D->Option D:=dIC z9u fun i j=>.int (i * j)
theorem zf1 {K:Frag}:OpD K false z9v (cIC z9u fun i j=>.int (i * j)):=zdv fun _ _ _=>.mkInt _
theorem op_mulG {X:Cx}:OpR X (binaryOp .Mult) (rI z9u fun i j=>.int (i * j)):=opI fun _ _ _ _ _ _ _ hc q=>mul_int q (IntMulOk.of_bits hc.1 hc.2)
theorem zj3 {X:Cx}:OpR X (binaryOp .Mult) (cIC z9u fun i j=>.int (i * j)):=op_mulG.cIC
theorem zq1 {i j:Int} (hi:Builtin.Int.intBits i<=2 ^ 20) (hj:Builtin.Int.intBits j<=2 ^ 20):z9v (.int i) (.int j)=some (.int (i * j)):=by
 unfold z9v;rw [z6l,if_pos (show z9u i j from ⟨hi,hj⟩)]
section
open PySem.SeqAt
open PySem.AutoSeq1 (wpAny_loadPart')
open PySem.MeetsSeq PySem.MeetsSeq2 PySem.MeetsSeq3
end
end L2
namespace L2
open PySem PySem.Spec PyProof.Rows
noncomputable def z2w (es:Array DictEntry) (ep:Nat):Obj:={ cls:=.type "dict",data:=.dict es ep }
section
open PySem.SeqAt
open PySem.AutoSeq1 (wpAny_loadPart')
end
mutual
noncomputable def z44:NK->D
 | .i n=>.int n
 | .t ks=>.tup (z4n ks)
noncomputable def z4n:List NK->List D
 | []=>[]
 | k::ks=>z44 k::z4n ks
end
mutual
theorem zq2 {K:Frag} {H:Hp}:∀{k:NK} {x:V},NKr H k x->RD K H (z44 k) x
 | .i n,x,h=>by simp only [NKr] at h;subst h;simp only [z44,RD]
 | .t ks,x,h=>by
  simp only [NKr] at h
  obtain ⟨a,xs,rfl,ha,hs⟩:=h
  simp only [z44,RD]
  exact ⟨a,xs,rfl,ha,zj4 hs⟩
theorem zj4 {K:Frag} {H:Hp}:∀{ks:List NK} {xs:List V},NKrs H ks xs->RDs K H (z4n ks) xs
 | [],xs,h=>by simp only [NKrs] at h;subst h;simp only [z4n,RDs]
 | k::ks,xs,h=>by
  simp only [NKrs] at h
  obtain ⟨x,r,rfl,h1,h2⟩:=h
  simp only [z4n,RDs]
  exact ⟨x,r,rfl,zq2 h1,zj4 h2⟩
end
end L2
namespace L2
open PySem PySem.Spec PyProof.Rows
noncomputable def z5p (TI TO:Addr) (f0:Value):Obj:={ cls:=.type "zip",data:=.fields #[f0,.bool false,.bool false,.ref TI,.ref TO] }
noncomputable def z09 (a b:Value):Obj:={ cls:=.type "tuple",data:=.seq #[a,b] }
noncomputable def z03 (l:Addr) (i:Nat):Obj:={ cls:=.type "tuple_iterator",data:=.fields #[.ref l,.int i 0] }
abbrev up1 (i:Nat):Obj->Obj:=Obj.mapFields (·.setIfInBounds 1 (rawInt ((i:Int)+1)))
def zf2 (i:Addr) (x:Value) (f:Obj->Obj) (A:Around) (s:Shared):Prop:=∀(prog:Program) (w:World) (E:Value->Shared->Prop) (Q:Value->Shared->Prop),Q x { s with heap:=s.heap.update i f }->wpAny (model prog w) A (Builtin.SmallTypes.nextOf (.ref i)) Q E s
def zle (i:Addr) (A:Around) (s:Shared):Prop:=∀(prog:Program) (w:World) (E:Value->Shared->Prop) (Q:Value->Shared->Prop),
 (∀h' e,(∀c o,c≠i->s.heap.get? c=some o->h'.get? c=some o)->(∃o,h'.get? e=some o/\o.cls=.type "StopIteration")->E (.ref e) { s with heap:=h' })->wpAny (model prog w) A (Builtin.SmallTypes.nextOf (.ref i)) Q E s
section
open PySem.SeqAt
open PySem.AutoSeq1 (wpAny_loadPart')
theorem zf3 (it l:Addr) (items:Array Value) (i n:Nat) (dd:Option Addr) (sl:Array (Option Value)) (x:Value) (hx:items[i]?=some x) :
  Meets (Builtin.«tuple_iterator.__next__» ⟨[.ref it],[]⟩) (fun _ R s=>s.heap.get? it=some (z03 l i)/\s.heap.get? l=some { cls:=.type "tuple",dict:=dd,data:=.seq items n,slots:=sl }/\R (.ok (.ret x)) { s with heap:=s.heap.update it (up1 i) }):=
 .of_wp fun prog w A R s h=>by
  obtain ⟨hp,g,dr,tk,os⟩:=s;obtain ⟨hl,hd,h⟩:=h
  unfold z03 at hl
  have hat:items[((i:Nat):Int).toNat]?=some x:=by simpa using hx
  wp_walk using wpAny_loadPart' hl,wpAny_loadPart' hd
  rw [hat]
  wp_walk using wpAny_loadPart' hl,wpAny_loadPart' hd
  exact ⟨_,rfl,h⟩
theorem zh7 (it l:Addr) (items:Array Value) (i n:Nat) (dd:Option Addr) (sl:Array (Option Value)) (hx:items[i]?=none) :
  Meets (Builtin.«tuple_iterator.__next__» ⟨[.ref it],[]⟩) (fun A R s=>s.heap.get? it=some (z03 l i)/\s.heap.get? l=some { cls:=.type "tuple",dict:=dd,data:=.seq items n,slots:=sl }/\A.in1.handled=none /\
   ∀h' e,(∀c o,c≠it->s.heap.get? c=some o->h'.get? c=some o)->(∃o,h'.get? e=some o/\o.cls=.type "StopIteration")->R (.error (.ref e)) { s with heap:=h' }):=
 .of_wp fun prog w A R s h=>by
  obtain ⟨hp,g,dr,tk,os⟩:=s;obtain ⟨hl,hd,hh,h⟩:=h
  unfold z03 at hl
  have hat:items[((i:Nat):Int).toNat]?=none:=by simpa using hx
  wp_walk using wpAny_loadPart' hl,wpAny_loadPart' hd
  rw [hat]
  wp_walk using wpAny_loadPart' hl,wpAny_loadPart' hd
  unfold raiseNew
  refine wpAny_bind (wpAny_handled ?_)
  rw [hh]
  refine wpAny_bind (wpAny_pure (wpAny_throw (h _ _ (fun c o hc e=>?_) ⟨_,Heap.get?_push_size _ rfl,rfl⟩)))
  refine Heap.get?_push_of_some _ (Heap.get?_push_of_some _ ?_)
  rw [Heap.get?_update_ne _ _ _ _ hc]
  exact e
theorem z8z {it l:Addr} {items:Array Value} {i:Nat} {x:Value} {A:Around} {s:Shared} (hit:s.heap.get? it=some (z03 l i)) (hl:s.heap.IsTuple l items) (hx:items[i]?=some x):zf2 it x (up1 i) A s:=fun prog w E Q q=>by
 obtain ⟨⟨cl,dd,da,sl⟩,ho,hc,n,hd⟩:=hl
 simp only at hc hd
 subst hc hd
 unfold Builtin.SmallTypes.nextOf
 exact wpAny_bind (wpAny_callSpecial?_slot (name:=Str.ofString "__next__") ⟨_,hit,rfl⟩ F.slot_tuple_iterator_next (call_meets F.slot_tuple_iterator_next ⟨_,hit,rfl⟩ F.entry_tuple_iterator_next (F.args_tuple_iterator_next_1 _) (zf3 it l items i n dd sl x hx) ⟨hit,ho,wpAny_pure q⟩))
theorem zh8 {it l:Addr} {items:Array Value} {i:Nat} {A:Around} {s:Shared} (hh:A.handled=none) (hit:s.heap.get? it=some (z03 l i)) (hl:s.heap.IsTuple l items) (hx:items[i]?=none):zle it A s:=fun prog w E Q q=>by
 obtain ⟨⟨cl,dd,da,sl⟩,ho,hc,n,hd⟩:=hl
 simp only at hc hd
 subst hc hd
 unfold Builtin.SmallTypes.nextOf
 exact wpAny_bind (wpAny_callSpecial?_slot (name:=Str.ofString "__next__") ⟨_,hit,rfl⟩ F.slot_tuple_iterator_next (call_meets F.slot_tuple_iterator_next ⟨_,hit,rfl⟩ F.entry_tuple_iterator_next (F.args_tuple_iterator_next_1 _) (zh7 it l items i n dd sl hx) ⟨hit,ho,hh,q⟩))
noncomputable def zH1 (hp:Heap) (z:Addr):Heap:=hp.update z (Obj.mapFields (·.setIfInBounds 0 .ellipsis))
noncomputable def zH4 (hp:Heap) (z TO i1 i2:Addr) (x:Value) (f1 f2:Obj->Obj):Heap:=(((zH1 hp z).update i1 f1).update TO (Obj.mapSeq (·.setIfInBounds 0 x))).update i2 f2
noncomputable def zHF (hp:Heap) (z TO i1 i2:Addr) (x y:Value) (f1 f2:Obj->Obj):Heap:=((((zH4 hp z TO i1 i2 x f1 f2).update TO (Obj.mapSeq (·.setIfInBounds 1 y))).push (z09 x y)).update z (Obj.mapFields (·.setIfInBounds 0 (rawInt hp.objs.size)))).update z (Obj.mapFields (·.setIfInBounds 1 (.bool false)))
def zme (p:Prop):Prop:=p
theorem zf4 (z TI TO i1 i2:Addr) (a b x y:Value) (f1 f2:Obj->Obj) (n2:TO≠z) (n3:TO≠i1) (n4:TO≠i2) (n5:i1≠z) (n6:i2≠z) :
  Meets (Builtin.«zip.__next__» ⟨[.ref z],[]⟩) (fun A R s=>s.heap.get? z=some (z5p TI TO .none)/\s.heap.get? TI=some (z09 (.ref i1) (.ref i2))/\s.heap.get? TO=some (z09 a b) /\
   zf2 i1 x f1 A.in1 { s with heap:=zH1 s.heap z }/\zf2 i2 y f2 A.in1 { s with heap:=((zH1 s.heap z).update i1 f1).update TO (Obj.mapSeq (·.setIfInBounds 0 x)) } /\
   R (.ok (.ret (.ref s.heap.objs.size))) { s with heap:=zHF s.heap z TO i1 i2 x y f1 f2 }):=
 .of_wp fun prog w A R s h=>by
  obtain ⟨hp,g,dr,tk,os⟩:=s;obtain ⟨hz,hTI,hTO,g1,g2,h⟩:=h
  unfold z5p at hz
  unfold z09 at hTI hTO
  have g1':=g1 prog w
  have g2':=g2 prog w
  simp only [zH1] at g1' g2'
  have g1s:∀(E:Value->Shared->Prop) (Q:Value->Shared->Prop),zme (Q x { heap:=(hp.update z (Obj.mapFields (·.setIfInBounds 0 .ellipsis))).update i1 f1,gens:=g,drawn:=dr,toks:=tk,os:=os })->wpAny (model prog w) A.in1 (Builtin.SmallTypes.nextOf (.ref i1)) Q E { heap:=hp.update z (Obj.mapFields (·.setIfInBounds 0 .ellipsis)),gens:=g,drawn:=dr,toks:=tk,os:=os }:=fun E Q h=>g1' E Q h
  wp_walk using wpAny_onRaise,wpAny_loadPart' hz,wpAny_loadPart' hTI,wpAny_loadPart' hTO,(g1s _ _)
  unfold zme
  have hTO2:((hp.update z (Obj.mapFields (·.setIfInBounds 0 .ellipsis))).update i1 f1).get? TO=some { cls:=.type "tuple",data:=.seq #[a,b] }:=by
   rw [Heap.get?_update_ne _ _ _ _ n3,Heap.get?_update_ne _ _ _ _ n2];exact hTO
  have hTO3:(((hp.update z (Obj.mapFields (·.setIfInBounds 0 .ellipsis))).update i1 f1).update TO (Obj.mapSeq (·.setIfInBounds 0 x))).get? TO=some { cls:=.type "tuple",data:=.seq #[x,b] }:=by
   rw [Heap.get?_update_self _ hTO2 rfl];rfl
  have g2s:∀(E:Value->Shared->Prop) (Q:Value->Shared->Prop),zme (Q y { heap:=(((hp.update z (Obj.mapFields (·.setIfInBounds 0 .ellipsis))).update i1 f1).update TO (Obj.mapSeq (·.setIfInBounds 0 x))).update i2 f2,gens:=g,drawn:=dr,toks:=tk,os:=os })->wpAny (model prog w) A.in1 (Builtin.SmallTypes.nextOf (.ref i2)) Q E { heap:=((hp.update z (Obj.mapFields (·.setIfInBounds 0 .ellipsis))).update i1 f1).update TO (Obj.mapSeq (·.setIfInBounds 0 x)),gens:=g,drawn:=dr,toks:=tk,os:=os }:=fun E Q h=>g2' E Q h
  wp_walk using wpAny_onRaise,(g2s _ _),wpAny_loadPart' (s:={ heap:=(hp.update z (Obj.mapFields (·.setIfInBounds 0 .ellipsis))).update i1 f1,gens:=g,drawn:=dr,toks:=tk,os:=os }) hTO2,(wpAny_updateSeq (s:={ heap:=(hp.update z (Obj.mapFields (·.setIfInBounds 0 .ellipsis))).update i1 f1,gens:=g,drawn:=dr,toks:=tk,os:=os }) hTO2 rfl)
  unfold zme
  have e4:zH4 hp z TO i1 i2 x f1 f2=((((hp.update z (Obj.mapFields (·.setIfInBounds 0 .ellipsis))).update i1 f1).update TO (Obj.mapSeq (·.setIfInBounds 0 x))).update i2 f2):=rfl
  unfold zHF at h
  rw [e4] at h
  generalize hH4:((((hp.update z (Obj.mapFields (·.setIfInBounds 0 .ellipsis))).update i1 f1).update TO (Obj.mapSeq (·.setIfInBounds 0 x))).update i2 f2)=H4 at h
  have hTO4:H4.get? TO=some { cls:=.type "tuple",data:=.seq #[x,b] }:=by
   rw [<-hH4,Heap.get?_update_ne _ _ _ _ n4];exact hTO3
  have hTO5:(H4.update TO (Obj.mapSeq (·.setIfInBounds 1 y))).get? TO=some { cls:=.type "tuple",data:=.seq #[x,y] }:=by
   rw [Heap.get?_update_self _ hTO4 rfl];rfl
  have hz5:(H4.update TO (Obj.mapSeq (·.setIfInBounds 1 y))).get? z=some { cls:=.type "zip",data:=.fields #[.ellipsis,.bool false,.bool false,.ref TI,.ref TO] }:=by
   rw [Heap.get?_update_ne _ _ _ _ n2.symm,<-hH4,Heap.get?_update_ne _ _ _ _ n6.symm,Heap.get?_update_ne _ _ _ _ n2.symm,Heap.get?_update_ne _ _ _ _ n5.symm,Heap.get?_update_self _ hz rfl];rfl
  wp_walk using wpAny_loadPart' (s:={ heap:=H4,gens:=g,drawn:=dr,toks:=tk,os:=os }) hTO4,(wpAny_updateSeq (s:={ heap:=H4,gens:=g,drawn:=dr,toks:=tk,os:=os }) hTO4 rfl),wpAny_loadPart' (s:={ heap:=H4.update TO (Obj.mapSeq (·.setIfInBounds 1 y)),gens:=g,drawn:=dr,toks:=tk,os:=os }) hTO5
  have hsz:(H4.update TO (Obj.mapSeq (·.setIfInBounds (0+1) y))).objs.size=hp.objs.size:=by
   rw [Heap.size_update,<-hH4,Heap.size_update,Heap.size_update,Heap.size_update,Heap.size_update]
  refine ⟨_,rfl,?_⟩
  show R (.ok (.ret (.ref (H4.update TO (Obj.mapSeq (·.setIfInBounds (0+1) y))).objs.size))) { heap:=(((H4.update TO (Obj.mapSeq (·.setIfInBounds (0+1) y))).push { cls:=.type "tuple",data:=.seq #[x,y].toList.toArray }).update z (Obj.mapFields (·.setIfInBounds 0 (rawInt ((H4.update TO (Obj.mapSeq (·.setIfInBounds (0+1) y))).objs.size:Nat))))).update z (Obj.mapFields (·.setIfInBounds 1 (.bool false))),gens:=g,drawn:=dr,toks:=tk,os:=os }
  rw [hsz]
  exact h
theorem zh9 (z TI TO i1 i2:Addr) (a b:Value) (n5:i1≠z) :
  Meets (Builtin.«zip.__next__» ⟨[.ref z],[]⟩) (fun A R s=>s.heap.get? z=some (z5p TI TO .none)/\s.heap.get? TI=some (z09 (.ref i1) (.ref i2))/\s.heap.get? TO=some (z09 a b) /\
   zle i1 A.in1 { s with heap:=zH1 s.heap z }/\∀h' e,(∀c o,c≠z->c≠i1->s.heap.get? c=some o->h'.get? c=some o)->(∃o,h'.get? e=some o/\o.cls=.type "StopIteration")->R (.error (.ref e)) { s with heap:=h' }):=
 .of_wp fun prog w A R s h=>by
  obtain ⟨hp,g,dr,tk,os⟩:=s;obtain ⟨hz,hTI,hTO,g1,h⟩:=h
  unfold z5p at hz
  unfold z09 at hTI hTO
  have g1':=g1 prog w
  simp only [zH1] at g1'
  have g1s:∀(E:Value->Shared->Prop) (Q:Value->Shared->Prop),zme (∀h' e,(∀c o,c≠i1->(hp.update z (Obj.mapFields (·.setIfInBounds 0 .ellipsis))).get? c=some o->h'.get? c=some o)->(∃o,h'.get? e=some o/\o.cls=.type "StopIteration")->E (.ref e) { heap:=h',gens:=g,drawn:=dr,toks:=tk,os:=os })->wpAny (model prog w) A.in1 (Builtin.SmallTypes.nextOf (.ref i1)) Q E { heap:=hp.update z (Obj.mapFields (·.setIfInBounds 0 .ellipsis)),gens:=g,drawn:=dr,toks:=tk,os:=os }:=fun E Q h=>g1' E Q h
  wp_walk using wpAny_onRaise,wpAny_loadPart' hz,wpAny_loadPart' hTI,wpAny_loadPart' hTO,(g1s _ _)
  unfold zme
  intro h' e kp he
  obtain ⟨oe,hoe,hce⟩:=he
  have hz':h'.get? z=some { cls:=.type "zip",data:=.fields #[.ellipsis,.bool false,.bool false,.ref TI,.ref TO] }:=kp z _ n5.symm (by rw [Heap.get?_update_self _ hz rfl];rfl)
  have hez:e≠z:=fun q=>by rw [q,hz'] at hoe;cases hoe;simp at hce
  refine wpAny_setField hz' rfl (by simp) (h _ e (fun c o c1 c2 q=>?_) ⟨oe,by rw [Heap.get?_update_ne _ _ _ _ hez];exact hoe,hce⟩)
  rw [Heap.get?_update_ne _ _ _ _ c1]
  exact kp c o c2 (by rw [Heap.get?_update_ne _ _ _ _ c1];exact q)
end
end L2
namespace L2
open PySem PySem.Spec PyProof.Rows
section
variable {hp:Heap} {z TI TO i1 i2 l1 l2:Addr} {a b x y:Value} {k:Nat}
theorem z15 {h:Heap} {c e:Addr} {f:Obj->Obj} (n:c≠e):(h.update e f).get? c=h.get? c:=Heap.get?_update_ne _ _ _ _ n
theorem ztv {H4:Heap} {o1 o2:Obj} (D:ZipApart z TI TO i1 i2 l1 l2) (u1:H4.get? i1=some o1) (u2:H4.get? i2=some o2) (u3:H4.get? TO=some (z09 x b)) (u4:H4.get? z=some (z5p TI TO .ellipsis))
  (u5:∀c o,c≠z->c≠TO->c≠i1->c≠i2->hp.get? c=some o->H4.get? c=some o) (sz:(H4.update TO (Obj.mapSeq (·.setIfInBounds 1 y))).objs.size=hp.objs.size) (nz:hp.objs.size≠z) :
  (((((H4.update TO (Obj.mapSeq (·.setIfInBounds 1 y))).push (z09 x y)).update z (Obj.mapFields (·.setIfInBounds 0 (rawInt hp.objs.size)))).update z (Obj.mapFields (·.setIfInBounds 1 (.bool false)))).get? z=some (z5p TI TO (rawInt hp.objs.size))) /\
  (((((H4.update TO (Obj.mapSeq (·.setIfInBounds 1 y))).push (z09 x y)).update z (Obj.mapFields (·.setIfInBounds 0 (rawInt hp.objs.size)))).update z (Obj.mapFields (·.setIfInBounds 1 (.bool false)))).get? TO=some (z09 x y)) /\
  (((((H4.update TO (Obj.mapSeq (·.setIfInBounds 1 y))).push (z09 x y)).update z (Obj.mapFields (·.setIfInBounds 0 (rawInt hp.objs.size)))).update z (Obj.mapFields (·.setIfInBounds 1 (.bool false)))).get? hp.objs.size=some (z09 x y)) /\
  (((((H4.update TO (Obj.mapSeq (·.setIfInBounds 1 y))).push (z09 x y)).update z (Obj.mapFields (·.setIfInBounds 0 (rawInt hp.objs.size)))).update z (Obj.mapFields (·.setIfInBounds 1 (.bool false)))).get? i1=some o1) /\
  (((((H4.update TO (Obj.mapSeq (·.setIfInBounds 1 y))).push (z09 x y)).update z (Obj.mapFields (·.setIfInBounds 0 (rawInt hp.objs.size)))).update z (Obj.mapFields (·.setIfInBounds 1 (.bool false)))).get? i2=some o2) /\
  ∀c o,c≠z->c≠TO->c≠i1->c≠i2->hp.get? c=some o->((((H4.update TO (Obj.mapSeq (·.setIfInBounds 1 y))).push (z09 x y)).update z (Obj.mapFields (·.setIfInBounds 0 (rawInt hp.objs.size)))).update z (Obj.mapFields (·.setIfInBounds 1 (.bool false)))).get? c=some o:=by
 have t5:(H4.update TO (Obj.mapSeq (·.setIfInBounds 1 y))).get? TO=some (z09 x y):=by rw [Heap.get?_update_self _ u3 rfl];rfl
 have z5:(H4.update TO (Obj.mapSeq (·.setIfInBounds 1 y))).get? z=some (z5p TI TO .ellipsis):=by rw [z15 D.TOz.symm];exact u4
 have a5:(H4.update TO (Obj.mapSeq (·.setIfInBounds 1 y))).get? i1=some o1:=by rw [z15 D.TOi1.symm];exact u1
 have b5:(H4.update TO (Obj.mapSeq (·.setIfInBounds 1 y))).get? i2=some o2:=by rw [z15 D.TOi2.symm];exact u2
 have c5:∀c o,c≠z->c≠TO->c≠i1->c≠i2->hp.get? c=some o->(H4.update TO (Obj.mapSeq (·.setIfInBounds 1 y))).get? c=some o:=fun c o c1 c2 c3 c4 e=>by rw [z15 c2];exact u5 c o c1 c2 c3 c4 e
 generalize H4.update TO (Obj.mapSeq (·.setIfInBounds 1 y))=H5 at *
 have z6:(H5.push (z09 x y)).get? z=some (z5p TI TO .ellipsis):=Heap.get?_push_of_some _ z5
 have z7:((H5.push (z09 x y)).update z (Obj.mapFields (·.setIfInBounds 0 (rawInt hp.objs.size)))).get? z=some (z5p TI TO (rawInt hp.objs.size)):=by rw [Heap.get?_update_self _ z6 rfl];rfl
 have two:∀{c:Addr},c≠z->(((H5.push (z09 x y)).update z (Obj.mapFields (·.setIfInBounds 0 (rawInt hp.objs.size)))).update z (Obj.mapFields (·.setIfInBounds 1 (.bool false)))).get? c=(H5.push (z09 x y)).get? c:=fun n=>by rw [z15 n,z15 n]
 refine ⟨?_,?_,?_,?_,?_,fun c o c1 c2 c3 c4 e=>?_⟩
 . rw [Heap.get?_update_self _ z7 rfl];rfl
 . rw [two D.TOz];exact Heap.get?_push_of_some _ t5
 . rw [two nz,<-sz];exact Heap.get?_push_size _ rfl
 . rw [two D.i1z];exact Heap.get?_push_of_some _ a5
 . rw [two D.i2z];exact Heap.get?_push_of_some _ b5
 . rw [two c1];exact Heap.get?_push_of_some _ (c5 c o c1 c2 c3 c4 e)
end
noncomputable def zN (h:Heap) (os:List Obj):Heap:=os.foldl Heap.push h
theorem zf5:∀(os:List Obj) (h:Heap),(zN h os).objs.size=h.objs.size+os.length
 | [],h=>rfl
 | o::os,h=>by
  show (zN (h.push o) os).objs.size=_
  rw [zf5 os,Heap.size_push,List.length_cons];omega
theorem z9w:∀(os:List Obj) {h:Heap} {c:Addr} {o:Obj},h.get? c=some o->(zN h os).get? c=some o
 | [],_,_,_,e=>e
 | o::os,h,c,u,e=>z9w os (h:=h.push o) (Heap.get?_push_of_some _ e)
theorem zf6 (os:List Obj) (o:Obj) (rest:List Obj) (h:Heap) (hf:o.isFreed=false):(zN h (os++o::rest)).get? (h.objs.size+os.length)=some o:=by
 have e:zN h (os++o::rest)=zN ((zN h os).push o) rest:=by unfold zN;rw [List.foldl_append];rfl
 rw [e,<-zf5]
 exact z9w rest (Heap.get?_push_size _ hf)
section
open PySem.SeqAt
open PySem.AutoSeq1 (wpAny_loadPart')
end
end L2
namespace L2
open PySem PySem.Spec PyProof.Rows
theorem zj5 {X:Cx} {EX:XW} {fr:Bool} {e:Expr} {f:DE->R D} (h:QE X EX fr e f):PE X e (TEd X.K EX fr f):=h.h
theorem zq3 {X:Cx} {EX:XW} {e:Expr} {f:DE->R Bool} (h:QT X EX e f):PT X e (TTd X.K EX f):=h.h
section
open PySem.SeqAt
open PySem.AutoSeq1 (wpAny_loadPart')
end
section
open PySem.SeqAt
open PySem.AutoSeq1 (wpAny_loadPart')
end
end L2
namespace L2
open PySem PySem.Spec PyProof.Rows
def ztw (i j:Int):Prop:=0<j/\j.natAbs<2 ^ 9000
noncomputable instance (i j:Int):Decidable (ztw i j):=Classical.propDecidable _
noncomputable def z1w (d:Addr):Obj:={ cls:=.type "dict_items",data:=.fields #[.ref d] }
noncomputable def z0o (f0:Value) (d:Addr) (i n ep:Nat) (ok ov:Value):Obj:={ cls:=.type "dict_itemiterator",data:=.fields #[f0,.bool false,.ref d,.int i 0,.int n 0,.int ep 0,ok,ov] }
noncomputable def itH (hp:Heap) (it:Addr) (i:Nat) (k v:Value):Heap:=
 (((((hp.update it (Obj.mapFields (·.setIfInBounds (2+1) (rawInt ((i:Int)+1))))).push (z09 k v)).update it (Obj.mapFields (·.setIfInBounds 6 k))).update it (Obj.mapFields (·.setIfInBounds (6+1) v))).update it (Obj.mapFields (·.setIfInBounds 0 (rawInt hp.objs.size)))).update it (Obj.mapFields (·.setIfInBounds 1 (.bool false)))
theorem zq4 {hp:Heap} {it d:Addr} {i n ep:Nat} {ok ov k v:Value} (hl:hp.get? it=some (z0o .none d i n ep ok ov)) :
  (itH hp it i k v).get? it=some (z0o (rawInt hp.objs.size) d (i+1) n ep k v)/\(itH hp it i k v).get? hp.objs.size=some (z09 k v)/\∀c o,c≠it->hp.get? c=some o->(itH hp it i k v).get? c=some o:=by
 have e1:(hp.update it (Obj.mapFields (·.setIfInBounds (2+1) (rawInt ((i:Int)+1))))).get? it=some (z0o .none d (i+1) n ep ok ov):=by
  rw [Heap.get?_update_self _ hl rfl]
  simp [z0o,Obj.mapFields,rawInt]
 have s1:(hp.update it (Obj.mapFields (·.setIfInBounds (2+1) (rawInt ((i:Int)+1))))).objs.size=hp.objs.size:=Heap.size_update ..
 have k1:∀c o,c≠it->hp.get? c=some o->(hp.update it (Obj.mapFields (·.setIfInBounds (2+1) (rawInt ((i:Int)+1))))).get? c=some o:=fun c o n e=>by rw [z15 n];exact e
 have ne:hp.objs.size≠it:=Nat.ne_of_gt (Heap.lt_size hl)
 unfold itH
 generalize hp.update it (Obj.mapFields (·.setIfInBounds (2+1) (rawInt ((i:Int)+1))))=H1 at *
 have e2:(H1.push (z09 k v)).get? it=some (z0o .none d (i+1) n ep ok ov):=Heap.get?_push_of_some _ e1
 have t2:(H1.push (z09 k v)).get? hp.objs.size=some (z09 k v):=by rw [<-s1];exact Heap.get?_push_size _ rfl
 have e3:((H1.push (z09 k v)).update it (Obj.mapFields (·.setIfInBounds 6 k))).get? it=some (z0o .none d (i+1) n ep k ov):=by rw [Heap.get?_update_self _ e2 rfl];rfl
 have e4:(((H1.push (z09 k v)).update it (Obj.mapFields (·.setIfInBounds 6 k))).update it (Obj.mapFields (·.setIfInBounds (6+1) v))).get? it=some (z0o .none d (i+1) n ep k v):=by rw [Heap.get?_update_self _ e3 rfl];rfl
 have e5:((((H1.push (z09 k v)).update it (Obj.mapFields (·.setIfInBounds 6 k))).update it (Obj.mapFields (·.setIfInBounds (6+1) v))).update it (Obj.mapFields (·.setIfInBounds 0 (rawInt hp.objs.size)))).get? it=some (z0o (rawInt hp.objs.size) d (i+1) n ep k v):=by rw [Heap.get?_update_self _ e4 rfl];rfl
 refine ⟨by rw [Heap.get?_update_self _ e5 rfl];rfl,by rw [z15 ne,z15 ne,z15 ne,z15 ne];exact t2,fun c o n e=>?_⟩
 rw [z15 n,z15 n,z15 n,z15 n]
 exact Heap.get?_push_of_some _ (k1 c o n e)
section
open PySem.SeqAt
open PySem.AutoSeq1 (wpAny_loadPart')
theorem zlf (d:Addr) (es:Array DictEntry) (ep:Nat) (hd:(d==sysModules)=false) :
  Meets (Builtin.«dict.items» ⟨[.ref d],[]⟩) (fun _ R s=>s.heap.get? d=some (z2w es ep)/\R (.ok (.ret (.ref s.heap.objs.size))) { s with heap:=s.heap.push (z1w d) }):=
 .of_wp fun prog w A R s h=>by
  obtain ⟨hp,g,dr,tk,os⟩:=s;obtain ⟨hl,h⟩:=h
  unfold z2w at hl
  wp_walk using wpAny_loadPart' hl
  exact ⟨_,rfl,h⟩
theorem zha (v d:Addr) (es:Array DictEntry) (ep:Nat) :
  Meets (Builtin.«dict_items.__iter__» ⟨[.ref v],[]⟩) (fun _ R s=>s.heap.get? v=some (z1w d)/\s.heap.get? d=some (z2w es ep)/\R (.ok (.ret (.ref s.heap.objs.size))) { s with heap:=s.heap.push (z0o .none d 0 es.size ep .none .none) }):=
 .of_wp fun prog w A R s h=>by
  obtain ⟨hp,g,dr,tk,os⟩:=s;obtain ⟨hl,hd,h⟩:=h
  unfold z2w at hd
  unfold z1w at hl
  wp_walk using wpAny_loadPart' hl,wpAny_loadPart' hd
  exact ⟨_,rfl,h⟩
theorem zhb (it d:Addr) (es:Array DictEntry) (ep i:Nat) (ok ov:Value) (hi:i<es.size) :
  Meets (Builtin.«dict_itemiterator.__next__» ⟨[.ref it],[]⟩) (fun _ R s=>s.heap.get? it=some (z0o .none d i es.size ep ok ov)/\s.heap.get? d=some (z2w es ep) /\
   R (.ok (.ret (.ref s.heap.objs.size))) { s with heap:=itH s.heap it i es[i].key es[i].val }):=
 .of_wp fun prog w A R s h=>by
  obtain ⟨hp,g,dr,tk,os⟩:=s;obtain ⟨hl,hd,h⟩:=h
  unfold z2w at hd
  unfold z0o at hl
  have hsz:(((es.size:Int) != (es.size:Int))=true)=False:=by simp
  have hep:(((ep:Int) != (ep:Int))=true)=False:=by simp
  have hat:(if (i:Int)<0 then none else es[((i:Nat):Int).toNat]?)=some es[i]:=by rw [if_neg (by omega)];simp [hi]
  wp_walk using wpAny_loadPart' hl,wpAny_loadPart' hd
  rw [hat]
  wp_walk using wpAny_loadPart' hl,wpAny_loadPart' hd
  have hown:Builtin.Dict_items.ownsTuple ((Manifest.find? "dict_itemiterator").elim "dict_itemiterator" fun x=>x.tpName)=true:=by decide +kernel
  refine ⟨_,rfl,?_⟩
  rw [if_pos hown,if_neg (by decide +kernel),Heap.size_update]
  exact h
theorem zlg (it d:Addr) (es:Array DictEntry) (ep i:Nat) (ok ov:Value) (hi:es.size<=i) :
  Meets (Builtin.«dict_itemiterator.__next__» ⟨[.ref it],[]⟩) (fun A R s=>s.heap.get? it=some (z0o .none d i es.size ep ok ov)/\s.heap.get? d=some (z2w es ep)/\A.in1.handled=none /\
   ∀h' e,(∀c o,c≠it->s.heap.get? c=some o->h'.get? c=some o)->(∃o,h'.get? e=some o/\o.cls=.type "StopIteration")->R (.error (.ref e)) { s with heap:=h' }):=
 .of_wp fun prog w A R s h=>by
  obtain ⟨hp,g,dr,tk,os⟩:=s;obtain ⟨hl,hd,hh,h⟩:=h
  unfold z2w at hd
  unfold z0o at hl
  have hsz:(((es.size:Int) != (es.size:Int))=true)=False:=by simp
  have hep:(((ep:Int) != (ep:Int))=true)=False:=by simp
  have hat:(if (i:Int)<0 then none else es[((i:Nat):Int).toNat]?)=none:=by rw [if_neg (by omega)];simp [hi]
  wp_walk using wpAny_loadPart' hl,wpAny_loadPart' hd
  rw [hat]
  wp_walk using wpAny_loadPart' hl,wpAny_loadPart' hd
  unfold raiseNew
  refine wpAny_bind (wpAny_handled ?_)
  rw [hh]
  refine wpAny_bind (wpAny_pure (wpAny_throw (h _ _ (fun c o hc e=>?_) ⟨_,Heap.get?_push_size _ rfl,rfl⟩)))
  refine Heap.get?_push_of_some _ (Heap.get?_push_of_some _ ?_)
  rw [Heap.get?_update_ne _ _ _ _ hc]
  exact e
end
end L2
namespace L2
open PySem PySem.Spec PyProof.Rows
section
variable {prog:Program} {w:World} {A:Around} {E:Value->Shared->Prop} {s:Shared} {d it v:Addr} {es:Array DictEntry} {ep i:Nat} {ok ov:Value}
theorem z90:entryFor table "dict_itemiterator.__iter__"=some Builtin.«dict_keyiterator.__iter__»:=entryFor_alias (id':="dict_keyiterator.__iter__") (by kernel_rfl) rfl (by decide +kernel) (by kernel_rfl)
theorem zc4 {Q:Value->Shared->Prop} (hit:s.heap.get? it=some (z0o .none d i es.size ep ok ov)) (h:Q (.ref it) s):wpAny (model prog w) A (pyIter (.ref it)) Q E s:=by
 refine wpAny_pyIter_slot ⟨_,hit,rfl⟩ F.slot_dict_itemiterator_iter (wpAny_call_entry F.slot_dict_itemiterator_iter ⟨_,hit,rfl⟩ z90 ?_ (F.args_dict_itemiterator_iter_1 _))
 show wpAny _ _ (ret (.ref it)) _ _ s
 exact wpAny_pure ⟨_,rfl,"dict_itemiterator",_,⟨_,hit,rfl⟩,F.slot_dict_itemiterator_next.lookup,h⟩
theorem zc5 {Q:Value->Shared->Prop} (hv:s.heap.get? v=some (z1w d)) (hm:s.heap.get? d=some (z2w es ep)) (hQ:Q (.ref s.heap.objs.size) { s with heap:=s.heap.push (z0o .none d 0 es.size ep .none .none) }) :
  wpAny (model prog w) A (pyIter (.ref v)) Q E s:=
 wpAny_pyIter_slot ⟨_,hv,rfl⟩ F.slot_dict_items_iter (call_meets F.slot_dict_items_iter ⟨_,hv,rfl⟩ F.entry_dict_items_iter (F.args_dict_items_iter_1 _) (zha v d es ep)
  ⟨hv,hm,⟨"dict_itemiterator",_,⟨_,Heap.get?_push_size _ rfl,rfl⟩,F.slot_dict_itemiterator_next.lookup,hQ⟩⟩)
theorem zc6 {Q:Option Value->Shared->Prop} (hit:s.heap.get? it=some (z0o .none d i es.size ep ok ov)) (hm:s.heap.get? d=some (z2w es ep)) (hi:i<es.size)
  (hQ:Q (some (.ref s.heap.objs.size)) { s with heap:=itH s.heap it i es[i].key es[i].val }):wpAny (model prog w) A (pyNext (.ref it)) Q E s:=by
 unfold pyNext
 exact wpAny_bind (wpAny_attempt (wpAny_callSpecial?_slot (name:=Str.ofString "__next__") ⟨_,hit,rfl⟩ F.slot_dict_itemiterator_next
  (call_meets F.slot_dict_itemiterator_next ⟨_,hit,rfl⟩ F.entry_dict_itemiterator_next (F.args_dict_itemiterator_next_1 _) (zhb it d es ep i ok ov hi) ⟨hit,hm,wpAny_pure hQ⟩)))
theorem zf7 {Q:Option Value->Shared->Prop} (hh:A.handled=none) (hit:s.heap.get? it=some (z0o .none d i es.size ep ok ov)) (hm:s.heap.get? d=some (z2w es ep)) (hi:es.size<=i)
  (hQ:∀h',(∀c o,c≠it->s.heap.get? c=some o->h'.get? c=some o)->Q none { s with heap:=h' }):wpAny (model prog w) A (pyNext (.ref it)) Q E s:=by
 unfold pyNext
 refine wpAny_bind (wpAny_attempt (wpAny_callSpecial?_slot (name:=Str.ofString "__next__") ⟨_,hit,rfl⟩ F.slot_dict_itemiterator_next
  (call_meets F.slot_dict_itemiterator_next ⟨_,hit,rfl⟩ F.entry_dict_itemiterator_next (F.args_dict_itemiterator_next_1 _) (zlg it d es ep i ok ov hi) ⟨hit,hm,hh,fun h' e kp he=>?_⟩)))
 obtain ⟨o,ho,hc⟩:=he
 exact wpAny_bind (wpAny_isInstance (T:="StopIteration") (b:=true) ⟨o,ho,hc⟩ isSubtype_stop (wpAny_pure (hQ h' kp)))
end
theorem zb2 {X:Cx} {pins:List (Addr×Obj)} {σ:St} {H:Hp} {s:Shared} (I:Inv X pins σ H s) {a:Addr} {qs:List (NK×Addr)} {xs:List V} {ob:Obj} (e:H a=some (.ext (dnP a qs xs ob))) (n:DN H a qs) :
  ∃vs es ep,ob=z2w es ep/\s.heap.get? a=some (z2w es ep)/\Vals xs vs/\qs.length=vs.length/\es.toList=(z3 qs vs).map dnE:=by
 obtain ⟨g0,vs,p1,p2,o,es,ep,d1,d2,d3,d4,_⟩:=z9s I e n
 rw [g0] at d1;cases d1
 have eo:ob=z2w es ep:=by
  obtain ⟨cl,di,da,sl⟩:=ob
  obtain ⟨q1,q2,q3⟩:=d2
  simp only at q1 q2 q3 d3
  subst q1 q2 q3 d3
  rfl
 exact ⟨vs,es,ep,eo,by rw [g0,eo],p1,p2,d4⟩
theorem zb3 {es es':Array DictEntry} {ep ep':Nat} (h:z2w es ep=z2w es' ep'):es=es'/\ep=ep':=by
 unfold z2w at h
 injection h with _ _ h
 injection h with h1 h2
 exact ⟨h1,h2⟩
theorem zc7 {P:Program} {w:World} {K:Frag} {elts:List Expr} {k:Nat} {pos:Pos} {it d:Addr} {qs:List (NK×Addr)} {ys:List V} {es:Array DictEntry} {ep:Nat} (hl:qs.length=ys.length) (hes:es.size=qs.length) :
  Turn P w K (.Tuple elts k pos) (ItP (fun H=>H d=some (.ext (dnP d qs ys (z2w es ep)))/\DN H d qs) ((qs.map fun q=>V.ref q.2).zip ys)) [it] it
   (fun i h=>∃ok ov,h.get? it=some (z0o .none d i es.size ep ok ov)) where
 mem:=by simp
 obj:=fun i h ⟨ok,ov,hz⟩ c hc=>by
  have hc':c=it:=by simpa using hc
  subst hc';exact ⟨_,hz,fun v e=>by cases e⟩
 keep:=fun i h h' ⟨ok,ov,hz⟩ kp=>⟨ok,ov,kp it (by simp) _ hz⟩
 item:=by
  intro X hP hw hK hc i pins s σ H E I hf st hg
  subst hP hw hK
  obtain ⟨⟨hS,n⟩,hlt⟩:=hg
  obtain ⟨ok,ov,hz⟩:=st
  obtain ⟨vs,es',ep',eo,ed,p1,p2,d4⟩:=zb2 I hS n
  obtain ⟨rfl,rfl⟩:=zb3 eo
  rw [List.length_zip,List.length_map] at hlt
  have hi:i<es.size:=by omega
  have hiq:i<qs.length:=by omega
  obtain ⟨y,ey⟩:∃y,ys[i]?=some y:=⟨ys[i]'(by omega),by simp⟩
  obtain ⟨u,hu,ru⟩:=p1.get ey
  have hz3:(z3 qs vs)[i]?=some (qs[i].1,qs[i].2,u):=by
   unfold z3
   have hzz:(qs.zip vs)[i]?=some (qs[i],u):=List.getElem?_zip_eq_some.mpr ⟨List.getElem?_eq_getElem hiq,hu⟩
   rw [List.getElem?_map,hzz];rfl
  have he:es[i]=dnE (qs[i].1,qs[i].2,u):=by
   have h1:es.toList[i]?=some (dnE (qs[i].1,qs[i].2,u)):=by rw [d4,List.getElem?_map,hz3];rfl
   rw [Array.getElem?_toList,Array.getElem?_eq_getElem hi] at h1
   exact Option.some.inj h1
  obtain ⟨f1,f2,f3⟩:=zq4 (k:=es[i].key) (v:=es[i].val) hz
  refine zc6 hz ed hi ⟨.ref s.heap.objs.size,rfl,?_⟩
  generalize itH s.heap it i es[i].key es[i].val=HF at f1 f2 f3
  rw [he] at f1 f2
  refine wpAny_letOwnedTupleGo_items f1 fun h' hz' hs'=>?_
  have nT:s.heap.objs.size≠it:=Nat.ne_of_gt (Heap.lt_size hz)
  have up:∀{c o},c≠it->HF.get? c=some o->h'.get? c=some o:=fun n e=>hs'.extBut _ _ n e
  have ht:h'.IsTuple s.heap.objs.size ([Value.ref qs[i].2,u]:List Value).toArray:=⟨_,up nT f2,rfl,_,rfl⟩
  have sub:∀c∈[it],z81 X pins H c:=hf
  have I2:=I.turnedT (tk:=s.toks) (h':=h') (xs:=[V.ref qs[i].2,y]) (its:=[Value.ref qs[i].2,u]) sub (fun c o hcw e=>by
   have hc':c≠it:=by simpa using hcw
   exact up hc' (f3 c o hc' e)) (Nat.le_refl _) ht (.cons rfl (.cons ru .nil)) zdf
  have HT:H s.heap.objs.size=none:=I.hok.fresh (Nat.le_refl _)
  refine ⟨.ref s.heap.objs.size,upd H s.heap.objs.size (.tup [V.ref qs[i].2,y]),I2,rfl,⟨s.heap.objs.size,_,_,rfl,HT,rfl,?_⟩,⟨_,_,hz'⟩,fun c hc'=>?_⟩
  . rw [List.getElem?_zip_eq_some]
    exact ⟨by rw [List.getElem?_map,List.getElem?_eq_getElem hiq];rfl,ey⟩
  . rw [z07]
    . exact (hf c hc').1
    . intro e
      have hc'':c=it:=by simpa using hc'
      rw [hc''] at e
      exact nT e.symm
 done:=by
  intro X hP hw hK hc i pins s σ H E I hf st hg
  subst hP hw hK
  obtain ⟨⟨hS,n⟩,hle⟩:=hg
  obtain ⟨ok,ov,hz⟩:=st
  obtain ⟨vs,es',ep',eo,ed,p1,p2,d4⟩:=zb2 I hS n
  obtain ⟨rfl,rfl⟩:=zb3 eo
  rw [List.length_zip,List.length_map] at hle
  refine zf7 (I.ok.hd hc) hz ed (by omega) fun h' kp=>⟨rfl,?_⟩
  exact I.turnedN (tk:=s.toks) (wr:=[it]) hf fun c o hcw e=>kp c o (by simpa using hcw) e
 self:=fun A i s Q E ⟨ok,ov,st⟩ h=>zc4 st h
noncomputable def zq5 (td:TE):TI:=fun σ H R=>td σ H fun x H1=>∃(a:Addr) (qs:List (NK×Addr)) (ys:List V) (ob:Obj),x=.ref a/\H1 a=some (.ext (dnP a qs ys ob))/\DN H1 a qs/\qs.length=ys.length /\
 R (ItP (fun H=>H a=some (.ext (dnP a qs ys ob))/\DN H a qs) ((qs.map fun q=>V.ref q.2).zip ys)) H1
section
variable {X:Cx} {o:Expr} {td:TE} {apos cpos tpos:Pos} {elts:List Expr} {k:Nat}
theorem zhc (ho:PE X o td) (hbase:attributeBase o "items" X.env (eval o X.env)=eval o X.env:=by rfl) (hline:(apos.endLine==cpos.line)=true:=by rfl) :
  PI X (.Tuple elts k tpos) (.Call (.Attribute o "items" apos) [] [] cpos) (zq5 td):=by
 intro pins s σ H R I h
 refine wpAny_Call_method0_late hbase hline (thn (ho pins s σ H _ I h) fun u s1 ⟨x,H1,I1,r1,a,qs,ys,ob,ex,e,n,hlq,q⟩=>?_)
 subst ex
 cases r1
 obtain ⟨vs,es,ep,rfl,ed,p1,p2,d4⟩:=zb2 I1 e n
 have hsz:es.size=qs.length:=by rw [<-Array.length_toList,d4,List.length_map,zj1 qs vs p2]
 refine ⟨"dict","dict.items",PySem.F.plainAttrs_dict,PySem.F.slot_dict_items,PySem.F.type_dict_items,⟨_,ed,rfl⟩,fun b eb=>?_,Calls.callWith_builtin rfl (PySem.evalArgs_none ?_)⟩
 . cases eb;exact ⟨_,ed,rfl⟩
 . refine call_meets F.slot_dict_items ⟨_,ed,rfl⟩ F.entry_dict_items (F.args_dict_items_1 _) (zlf a es ep n.2.2.1) ⟨ed,?_⟩
   have kp:∀c o,s1.heap.get? c=some o->(s1.heap.push (z1w a)).get? c=some o:=fun c o e=>Heap.get?_push_of_some _ e
   refine zc5 (s:={ s1 with heap:=s1.heap.push (z1w a) }) (Heap.get?_push_size _ rfl) (kp _ _ ed) ?_
   have I2:Inv X pins σ H1 { s1 with heap:=s1.heap.push (z1w a) }:=I1.kept (t':=s1.toks) kp
   have kp2:∀c o,(s1.heap.push (z1w a)).get? c=some o->((s1.heap.push (z1w a)).push (z0o .none a 0 es.size ep .none .none)).get? c=some o:=fun c o e=>Heap.get?_push_of_some _ e
   have I3:=I2.kept (t':=s1.toks) kp2
   refine ⟨(s1.heap.push (z1w a)).objs.size,[(s1.heap.push (z1w a)).objs.size],_,_,H1,rfl,I3,zc7 hlq hsz,⟨_,_,Heap.get?_push_size _ rfl⟩,fun c hc=>?_,q⟩
   have hc':c=(s1.heap.push (z1w a)).objs.size:=by simpa using hc
   rw [hc']
   exact I2.fpOk (Nat.le_refl _) (I2.hok.fresh (Nat.le_refl _))
end
noncomputable def zf8 (f:DE->R D):DE->R (List D):=fun ρ=>(f ρ).bind fun d=>match d with
 | .dn ks ds=>if ks.length=ds.length then .ok ((ks.zip ds).map fun p=>D.tup [z44 p.1,p.2]) else .st
 | _=>.st
theorem zf9 {K:Frag} {H0:Hp}:∀{qs:List (NK×Addr)},(∀q∈qs,NKr H0 q.1 (.ref q.2))->RDs K H0 (qs.map fun q=>z44 q.1) (qs.map fun q=>V.ref q.2)
 | [],_=>.nil
 | q::qs,h=>.cons (zq2 (h q (by simp))) (zf9 fun p hp=>h p (by simp [hp]))
theorem z9x {X:Cx} {EX:XW} {elts:List Expr} {k:Nat} {o:Expr} {apos cpos tpos:Pos} {f:DE->R D} (ho:QE X EX false o f) (hbase:attributeBase o "items" X.env (eval o X.env)=eval o X.env:=by rfl) (hline:(apos.endLine==cpos.line)=true:=by rfl) :
  QI X EX false (.Tuple elts k tpos) (.Call (.Attribute o "items" apos) [] [] cpos) (zf8 f):=⟨(zhc ho.h hbase hline).imp fun σ H Q ⟨sx,ρ,H0,s,e,h⟩=>by
 unfold zf8 at h
 rw [Rk.bind] at h
 refine TEd.go sx s e h fun d h v H1 H1' s1 e1 r1=>?_
 split at h
 . rename_i ks ds
   split at h
   . rename_i hl
     simp only [RD] at r1
     obtain ⟨a,qs,ys,ob,rfl,h1,hk,n,ra⟩:=r1
     have mono:∀b zs,H1' b=some (.tup zs)->H1 b=some (.tup zs):=fun b zs q=>e1.2.1 _ _ q
     have hq:qs.length=ys.length:=by rw [<-ra.length,<-hl,<-hk,List.length_map]
     refine ⟨a,qs,ys,ob,rfl,e1.2.1 _ _ h1,n.tk mono,hq,h _ H1 H1' s1 e1 ?_⟩
     rw [show (ks.zip ds).map (fun p=>D.tup [z44 p.1,p.2])=((qs.map fun q=>z44 q.1).zip ds).map fun p=>D.tup [p.1,p.2] by
      rw [<-hk,List.zip_map_left,List.zip_map_left,List.map_map,List.map_map];rfl]
     exact zea (fun H s=>⟨s _ _ h1,n.tk fun b zs q=>s _ _ q⟩) (zf9 fun q hq=>(n.2.1 q hq).1) ra
   . exact h.elim
 . exact h.elim⟩
noncomputable def valN {α:Type} (ks:List NK) (xs:List α) (k:NK):Option α:=((ks.zip xs).find? fun p=>decide (p.1=k)).map (·.2)
theorem zb4 {k:NK} {z:V} {u:Value} (rz:RelV z u):∀{qs:List (NK×Addr)} {xs:List V} {vs:List Value},Vals xs vs->qs.length=vs.length->RelV ((valN (qs.map (·.1)) xs k).getD z) (((atKey (z3 qs vs) k).map (·.2)).getD u)
 | [],xs,vs,r,hl=>by
  have:vs=[]:=List.eq_nil_of_length_eq_zero (by simpa using hl.symm)
  subst this
  exact rz
 | q::qs,_,_,.nil,hl=>by simp at hl
 | q::qs,_,_,.cons (a:=x) (b:=v) (l₁:=xs) (l₂:=vs) r rr,hl=>by
  have ih:=zb4 (k:=k) rz (qs:=qs) rr (by simpa using hl)
  by_cases h:q.1=k
  . have e1:valN ((q::qs).map (·.1)) (x::xs) k=some x:=by
     unfold valN
     rw [List.map_cons,List.zip_cons_cons,List.find?_cons_of_pos (by simpa using h)];rfl
    have e2:atKey (z3 (q::qs) (v::vs)) k=some (q.2,v):=by
     show ((z3 (q::qs) (v::vs)).find? fun x=>decide (x.1=k)).map (·.2)=_
     unfold z3
     rw [List.zip_cons_cons,List.map_cons,List.find?_cons_of_pos (by simpa using h)];rfl
    rw [e1,e2];exact r
  . have e1:valN ((q::qs).map (·.1)) (x::xs) k=valN (qs.map (·.1)) xs k:=by
     unfold valN
     rw [List.map_cons,List.zip_cons_cons,List.find?_cons_of_neg (by simpa using h)]
    have e2:atKey (z3 (q::qs) (v::vs)) k=atKey (z3 qs vs) k:=by
     show ((z3 (q::qs) (v::vs)).find? fun x=>decide (x.1=k)).map (·.2)=((z3 qs vs).find? fun x=>decide (x.1=k)).map (·.2)
     unfold z3
     rw [List.zip_cons_cons,List.map_cons,List.find?_cons_of_neg (by simpa using h)]
    rw [e1,e2];exact ih
noncomputable def zq6 (td ty tx:TE):TE:=fun σ H Q=>td σ H fun x H1=>∃(a:Addr) (qs:List (NK×Addr)) (xs:List V) (ob:Obj),x=.ref a/\H1 a=some (.ext (dnP a qs xs ob))/\DN H1 a qs/\ty σ H1 fun y H2=>tx σ H2 fun z H3=>
 ∃(k:NK) (b:Addr),y=.ref b/\H3 a=some (.ext (dnP a qs xs ob))/\DN H3 a qs/\NKr H3 k (.ref b)/\k.dep<=8/\Q ((valN (qs.map (·.1)) xs k).getD z) H3
section
variable {X:Cx} {o e f:Expr} {td ty tx:TE} {apos cpos:Pos}
theorem zlh (hu:X.A.units+64<cLine) (ho:PE X o td) (he:PE X e ty) (hf:PE X f tx) (m:M2 X o "get" apos e f cpos):PE X (.Call (.Attribute o "get" apos) [e,f] [] cpos) (zq6 td ty tx):=by
 intro pins s σ H Q I h
 refine wpAny_Call_method m.base m.few m.line PySem.F.plainAttrs_dict PySem.F.slot_dict_get PySem.F.type_dict_get (thn (ho pins s σ H _ I h) fun u s1 ⟨x,H1,I1,rx,a,qs,xs,ob,ex,e1,n1,q1⟩=>?_)
 subst ex
 obtain rfl:u=Value.ref a:=rx
 obtain ⟨_,es,ep,_,ed,_⟩:=zb2 I1 e1 n1
 refine ⟨⟨_,ed,rfl⟩,fun b eb=>?_,?_⟩
 . cases eb;exact ⟨_,ed,rfl⟩
 rw [m.trees]
 refine Calls.callWith_builtin rfl (Calls.evalArgs_plain (Calls.spliced_cons (thn (he pins s1 σ H1 _ I1 q1) fun iv s2 ⟨y,H2,I2,ry,q2⟩=>
  Calls.spliced_cons (thn (hf pins s2 σ H2 _ I2 q2) fun fv s3 ⟨z,H3,I3,rz,k,b,ey,e3,n3,hk,hd,q3⟩=>Calls.spliced_nil ?_))))
 subst ey
 cases ry
 obtain ⟨_,vs,p1,p2,dd⟩:=z9s I3 e3 n3
 exact call_meetsIn PySem.F.slot_dict_get dd.typeIs PySem.F.entry_dict_get (PySem.F.args_dict_get_3 _ _ _) (meetsH_dict_get_default (deepKind X.prog X.w) a b n3.2.2.1 fv)
  ⟨by show X.A.units+1+8<cLine;omega,k,z3 qs vs,⟨zgn I3 hk rfl,hd⟩,dd,_,H3,I3.tok _,zb4 (qs:=qs) rz p1 p2,q3⟩
end
noncomputable def dGetN:D->D->D->Option D
 | .dn ks ds,.tup es,z=>match nkD (.tup es) with
  | some k=>if k.dep<=8 then some ((valN ks ds k).getD z) else none
  | none=>none
 | _,_,_=>none
noncomputable def eGetN (fd fk fz:DE->R D):DE->R D:=fun ρ=>(fd ρ).bind fun d=>match d with
 | .dn ks ds=>(fk ρ).bind fun k=>(fz ρ).bind fun z=>R.of (dGetN (.dn ks ds) k z)
 | _=>.st
theorem zfa {K:Frag} {H:Hp} {k:NK} {z:D} {zv:V} (rz:RD K H z zv):∀{ks:List NK} {ds:List D} {xs:List V},RDs K H ds xs->RD K H ((valN ks ds k).getD z) ((valN ks xs k).getD zv)
 | [],ds,xs,r=>by
  unfold valN;rw [List.zip_nil_left,List.zip_nil_left];exact rz
 | k'::ks,[],xs,r=>by
  simp only [RDs] at r;subst r
  exact rz
 | k'::ks,d::ds,xs,r=>by
  simp only [RDs] at r
  obtain ⟨x,r',rfl,r1,r2⟩:=r
  by_cases h:k'=k
  . have e1:∀{α:Type} (a:α) (as:List α),valN (k'::ks) (a::as) k=some a:=fun a as=>by
     unfold valN
     rw [List.zip_cons_cons,List.find?_cons_of_pos (by simpa using h)];rfl
    rw [e1,e1];exact r1
  . have e1:∀{α:Type} (a:α) (as:List α),valN (k'::ks) (a::as) k=valN ks as k:=fun a as=>by
     unfold valN
     rw [List.zip_cons_cons,List.find?_cons_of_neg (by simpa using h)]
    rw [e1,e1];exact zfa rz r2
section
variable {X:Cx} {EX:XW} {σ:St} {H:Hp} {Q:VK}
theorem zq7 {K:Frag} {fd fk fz:DE->R D} (h:TEd K EX false (eGetN fd fk fz) σ H Q):zq6 (TEd K EX false fd) (TEd K EX false fk) (TEd K EX false fz) σ H Q:=by
 obtain ⟨sx,ρ,H0,s,e,h⟩:=h
 unfold eGetN at h
 rw [Rk.bind] at h
 refine TEd.go sx s e h fun d h v H1 H1' s1 e1 r1=>?_
 cases d<;>first | (exact h.elim) | skip
 rename_i ks ds
 simp only at h
 have r1':=r1
 simp only [RD] at r1
 obtain ⟨a,qs,xs,ob,rfl,h1,hk,n,ra⟩:=r1
 refine ⟨a,qs,xs,ob,rfl,e1.2.1 _ _ h1,n.tk fun b zs q=>e1.2.1 _ _ q,?_⟩
 rw [Rk.bind] at h
 refine TEd.go (sx.trans s1) e1.2.1 (e.mono e1.1) h fun d2 h v2 H2 H2' s2 e2 r2=>?_
 rw [Rk.bind] at h
 refine TEd.go ((sx.trans s1).trans s2) e2.2.1 (e.mono (e1.1.trans e2.1)) h fun d3 h v3 H3 H3' s3 e3 r3=>?_
 obtain ⟨w,hw,h⟩:=h.of
 cases d2<;>simp only [dGetN] at hw<;>first | (cases hw;done) | skip
 rename_i es
 split at hw<;>first | (cases hw;done) | skip
 rename_i kk hkk
 split at hw<;>first | (cases hw;done) | skip
 rename_i hd
 cases hw
 have nk:=zev hkk r2
 obtain ⟨b,ys,rfl,hb,rb⟩:=r2.tup
 refine ⟨kk,b,rfl,e3.2.1 _ _ (e3.1 _ _ (e2.1 _ _ h1)),n.tk fun b zs q=>e3.2.1 _ _ (e3.1 _ _ (e2.1 _ _ q)),NKr.mono (fun b zs q=>e3.2.1 _ _ (e3.1 _ _ q)) nk,hd,h _ H3 ?_⟩
 refine .val ((s1.trans s2).trans s3) ((e1.trans s1 e2).trans (s1.trans s2) e3) ?_
 rw [hk]
 exact zfa r3 (ra.mono (e2.1.trans e3.1))
variable {o e f:Expr} {apos cpos:Pos} {fd fk fz:DE->R D}
theorem zj6 (hu:X.A.units+64<cLine) (ho:QE X EX false o fd) (he:QE X EX false e fk) (hf:QE X EX false f fz) (m:M2 X o "get" apos e f cpos:=by exact ⟨rfl,rfl,rfl,rfl⟩):QE X EX false (.Call (.Attribute o "get" apos) [e,f] [] cpos) (eGetN fd fk fz):=
 ⟨(zlh hu ho.h he.h hf.h m).imp fun _ _ _ q=>zq7 q⟩
end
noncomputable def pairsD:List D->Option (List NK×List D)
 | []=>some ([],[])
 | .tup [.tup es,v]::ds=>match nkD (.tup es),pairsD ds with
  | some k,some (ks,vs)=>some (k::ks,v::vs)
  | _,_=>none
 | _=>none
open Classical in
noncomputable def dDictL:List D->Option D
 | [.lst ds]=>match pairsD ds with
  | some (ks,vs)=>if ks.Nodup/\ds.length<=100000/\∀k∈ks,k.dep<=8 then some (.dn ks vs) else none
  | none=>none
 | _=>none
theorem RE.agree {K:Frag} {H:Hp} {e:DE} {σ σ':St} (h:RE K H e σ) (hl:σ'.length=σ.length) (hs:∀(i:Nat) d,e[i]?=some (some d)->σ'[i]?=σ[i]?):RE K H e σ':=⟨by rw [hl];exact h.1,fun i d q=>by
 rw [hs i d q];exact h.2 i d q⟩
theorem RE.put {K:Frag} {H:Hp} {e:DE} {σ:St} {i:Nat} {d:D} {v:V} (h:RE K H e σ) (hv:σ[i]?=some (some v)) (r:RD K H d v):RE K H (e.set i (some d)) σ:=⟨by rw [List.length_set];exact h.1,fun j d' q=>by
 by_cases hj:i=j
 . subst hj
   have hi:i<e.length:=by rw [h.1];exact (List.getElem?_eq_some_iff.mp hv).1
   rw [List.getElem?_set_self hi] at q
   cases q
   exact ⟨v,hv,r⟩
 . rw [List.getElem?_set_ne hj] at q
   exact h.2 j d' q⟩
noncomputable def z2j:List Int->List Int->Bool
 | [],[]=>true
 | [],_::_=>false
 | _::_,[]=>true
 | x::xs,y::ys=>if x=y then z2j xs ys else decide (y<=x)
theorem z6o (x y:Int) (xs ys:List Int):z2j (x::xs) (y::ys)=if x=y then z2j xs ys else decide (y<=x):=rfl
theorem z7n:z2j [] []=true:=rfl
theorem z67 (y:Int) (ys:List Int):z2j [] (y::ys)=false:=rfl
theorem z68 (x:Int) (xs:List Int):z2j (x::xs) []=true:=rfl
theorem zb5:∀(xs ys:List Int),z2j xs ys=!HT.lexLt xs ys
 | [],[]=>rfl
 | [],_::_=>rfl
 | _::_,[]=>rfl
 | x::xs,y::ys=>by
  rw [z6o,HT.lexLt_cons]
  split
  . exact zb5 xs ys
  . by_cases h:x<y
    . rw [decide_eq_true h,decide_eq_false (by omega)];rfl
    . rw [decide_eq_false h,decide_eq_true (by omega)];rfl
theorem zhd (A:Around) (s:Shared) (a:Int) (t:Tok) (c:Int) (u:Tok) (prog:Program) (w:World) (E:Value->Shared->Prop) (Q:Value->Shared->Prop) (h:Q (.bool (decide (c<=a))) s) :
  wpAny (model prog w) A (richCompare .GtE (.int a t) (.int c u)) Q E s:=
 (PyProof.Rows.ge_int h:wpAny (model prog w) A (compareOp .GtE (.int a t) (.int c u)) Q E s)
section
open HT
open PySem.SeqAt
open PySem.AutoSeq1 (wpAny_loadPart')
open PySem.MeetsSeq PySem.MeetsSeq2 PySem.MeetsSeq3
theorem z7o (l b:Addr) (items items2:Array Value) (n n2:Nat) (dd dd2:Option Addr) (sl sl2:Array (Option Value)) (ns ms:List Int) (hi:IntsAre items.toList ns) (hj:IntsAre items2.toList ms) :
  Meets (Builtin.«tuple.__ge__» ⟨[.ref l,.ref b],[]⟩)
   (fun _ R s=>s.heap.get? l=some { cls:=.type "tuple",dict:=dd,data:=.seq items n,slots:=sl }/\s.heap.get? b=some { cls:=.type "tuple",dict:=dd2,data:=.seq items2 n2,slots:=sl2 } /\
    R (.ok (.ret (.bool (z2j ns ms)))) s):=
 .of_wp fun prog w A R s h=>by
  obtain ⟨hp,g,d,tk,os⟩:=s;obtain ⟨hl,hb,h⟩:=h
  have f2:=AutoSeq1.sub_tuple_tuple
  have z1:items.size=ns.length:=by rw [<-hi.length];simp
  have z2:items2.size=ms.length:=by rw [<-hj.length];simp
  wp_walk using wpAny_loadPart' hl,wpAny_loadPart' hb,wpAny_forIn_list _ (fun rest b s'=>b.1=none/\s'=⟨hp,g,d,tk,os⟩/\∃(vs ws:List Value) (ns' ms':List Int),rest=vs.zip ws /\
   IntsAre vs ns'/\IntsAre ws ms'/\ns'.length+items2.size=ms'.length+items.size/\R (.ok (.ret (.bool (z2j ns' ms')))) ⟨hp,g,d,tk,os⟩) _
  case turn=>
   rintro ⟨y,x⟩ rest b s' ⟨hb',rfl,vs,ws,ns',ms',hz,hvi,hwi,hlen,hR⟩
   cases hvi with
   | nil=>rw [List.zip_nil_left] at hz;cases hz
   | cons a t hvi'=>
    cases hwi with
    | nil=>rw [List.zip_nil_right] at hz;cases hz
    | cons c u hwi'=>
     rw [List.zip_cons_cons] at hz
     injection hz with hyx hrest
     injection hyx with hy hx
     subst hy hx
     rw [z6o] at hR
     simp only [List.length_cons] at hlen
     obtain ⟨e,he,hiff⟩:=zgc A.in1 ⟨hp,g,d,tk,os⟩ a t c u
     refine wpAny_bind (he prog w _ _ ?_)
     cases e with
     | true=>
      rw [if_pos (hiff.mp rfl)] at hR
      wp_walk
      exact ⟨rfl,rfl,_,_,_,_,hrest,hvi',hwi',by omega,hR⟩
     | false=>
      rw [if_neg (fun q=>absurd (hiff.mpr q) Bool.false_ne_true)] at hR
      have hri:=zhd A.in1 ⟨hp,g,d,tk,os⟩ a t c u prog w
      wp_walk using hri
      exact ⟨_,rfl,by simpa using hR⟩
  case fin=>
   rintro ⟨b1,b2⟩ s' ⟨hb',rfl,vs,ws,ns',ms',hz,hvi,hwi,hlen,hR⟩
   simp only at hb'
   subst hb'
   have hv:z2j ns' ms'=decide (items2.size<=items.size):=by
    cases hvi with
    | nil=>
     cases hwi with
     | nil=>
      simp only [List.length_nil] at hlen
      rw [z7n]
      exact (decide_eq_true (by omega)).symm
     | cons c u hw=>
      simp only [List.length_nil,List.length_cons] at hlen
      rw [z67]
      exact (decide_eq_false (by omega)).symm
    | cons a t hv=>
     cases hwi with
     | nil=>
      simp only [List.length_nil,List.length_cons] at hlen
      rw [z68]
      exact (decide_eq_true (by omega)).symm
     | cons c u hw=>
      rw [List.zip_cons_cons] at hz
      cases hz
   rw [hv] at hR
   wp_walk
   exact ⟨_,rfl,by simpa [Builtin.Tuple.tupleCompareSizes] using hR⟩
  case h=>
   exact ⟨rfl,rfl,items.toList,items2.toList,ns,ms,rfl,hi,hj,by omega,h⟩
end
section
variable {prog:Program} {w:World} {A:Around} {E:Value->Shared->Prop} {s:Shared}
theorem zc8 {l b:Addr} {items items2:Array Value} {ns ms:List Int} {Q:Value->Shared->Prop} (hl:IsTup s.heap l items) (hb:IsTup s.heap b items2) (hi:IntsAre items.toList ns) (hj:IntsAre items2.toList ms)
  (hu:A.units<cLine) (h:Q (.bool (z2j ns ms)) s):wpAny (model prog w) A (compareOp .GtE (.ref l) (.ref b)) Q E s:=by
 obtain ⟨⟨cls,dd,data,sl⟩,ho,hc,n,hd⟩:=id hl
 obtain ⟨⟨cls2,dd2,data2,sl2⟩,ho2,hc2,n2,hd2⟩:=id hb
 simp only at hc hd hc2 hd2
 subst hc hd hc2 hd2
 exact richCompare_meets_room (op:=.GtE) ⟨_,ho,rfl⟩ ⟨_,ho2,rfl⟩ PySem.F.slot_tuple_ge PySem.F.entry_tuple_ge (PySem.F.args_tuple_ge_2 _ _) (z7o l b items items2 n n2 dd dd2 sl sl2 ns ms hi hj)
  ⟨ho,ho2,show Value.bool (z2j ns ms)≠Value.notImplemented/\Q (.bool (z2j ns ms)) s from ⟨(fun x=>nomatch x),h⟩⟩ hu
end
noncomputable def zv9 (K:Frag):R2:=fun x y H Q=>∃a b ns ms,x=.ref a/\y=.ref b/\SqT K H a (ns.map V.int)/\SqT K H b (ms.map V.int)/\Q (.bl (z2j ns ms)) H
theorem ztx {X:Cx} (hu:X.A.units+64<cLine):OpR X (compareOp .GtE) (zv9 X.K):=by
 intro pins s σ H x y v u Q I rx ry h
 obtain ⟨a,b,ns,ms,rfl,rfl,ha,hb,q⟩:=h
 cases rx
 cases ry
 obtain ⟨its,r1,p1,_⟩:=I.tuple ha
 obtain ⟨its2,r2,p2,_⟩:=I.tuple hb
 have i1:IntsAre its.toArray.toList ns:=z37 r1
 have i2:IntsAre its2.toArray.toList ms:=z37 r2
 exact zc8 p1 p2 i1 i2 (by omega) ⟨.bl (z2j ns ms),H,I,rfl,q⟩
noncomputable def zq8:D->D->Option D
 | .tup ds,.tup es=>match z25 ds,z25 es with
  | some ns,some ms=>some (.bl (z2j ns ms))
  | _,_=>none
 | _,_=>none
theorem zq9 {K:Frag}:OpD K false zq8 (zv9 K):=by
 intro H0 H x y d e z Q s rx ry ho k
 unfold zq8 at ho
 split at ho<;>first | (cases ho;done) | skip
 split at ho<;>first | (cases ho;done) | skip
 rename_i ns ms h1 h2
 cases ho
 obtain ⟨a,xs,rfl,ha,ra⟩:=rx.tup
 obtain ⟨b,ys,rfl,hb,rb⟩:=ry.tup
 have e1:=z2g h1 ra
 have e2:=z2g h2 rb
 subst e1 e2
 exact ⟨a,b,ns,ms,rfl,rfl,.of (s _ _ ha),.of (s _ _ hb),k _ H (.pure s (.mkBl _))⟩
end L2
namespace L2
open PySem PySem.Spec PyProof.Rows
end L2
set_option maxHeartbeats 1000000
namespace L2
open PySem PySem.Spec PyProof.Rows
section
variable {hp:Heap} {z TI TO i1 i2 l1 l2:Addr} {a b x y:Value} {k:Nat}
theorem zhe (D:ZipApart z TI TO i1 i2 l1 l2) (hz:hp.get? z=some (z5p TI TO .none)) (hTO:hp.get? TO=some (z09 a b)) (h1:hp.get? i1=some (z03 l1 k)) (h2:hp.get? i2=some (z03 l2 k)) :
  (zHF hp z TO i1 i2 x y (up1 k) (up1 k)).get? z=some (z5p TI TO (rawInt hp.objs.size))/\(zHF hp z TO i1 i2 x y (up1 k) (up1 k)).get? TO=some (z09 x y)/\(zHF hp z TO i1 i2 x y (up1 k) (up1 k)).get? hp.objs.size=some (z09 x y) /\
  (zHF hp z TO i1 i2 x y (up1 k) (up1 k)).get? i1=some (z03 l1 (k+1))/\(zHF hp z TO i1 i2 x y (up1 k) (up1 k)).get? i2=some (z03 l2 (k+1)) /\
  ∀c o,c≠z->c≠TO->c≠i1->c≠i2->hp.get? c=some o->(zHF hp z TO i1 i2 x y (up1 k) (up1 k)).get? c=some o:=by
 have z1:(zH1 hp z).get? z=some (z5p TI TO .ellipsis):=by unfold zH1;rw [Heap.get?_update_self _ hz rfl];rfl
 have zn:∀{c},c≠z->(zH1 hp z).get? c=hp.get? c:=fun n=>z15 n
 have t2:((zH1 hp z).update i1 (up1 k)).get? TO=some (z09 a b):=by rw [z15 D.TOi1,zn D.TOz];exact hTO
 have t3:(((zH1 hp z).update i1 (up1 k)).update TO (Obj.mapSeq (·.setIfInBounds 0 x))).get? TO=some (z09 x b):=by rw [Heap.get?_update_self _ t2 rfl];rfl
 have i2':(((zH1 hp z).update i1 (up1 k)).update TO (Obj.mapSeq (·.setIfInBounds 0 x))).get? i2=some (z03 l2 k):=by rw [z15 D.TOi2.symm,z15 D.i12.symm,zn D.i2z];exact h2
 have u2:(zH4 hp z TO i1 i2 x (up1 k) (up1 k)).get? i2=some (z03 l2 (k+1)):=by
  unfold zH4;rw [Heap.get?_update_self _ i2' rfl];simp [z03,Obj.mapFields,rawInt]
 have u1:(zH4 hp z TO i1 i2 x (up1 k) (up1 k)).get? i1=some (z03 l1 (k+1)):=by
  unfold zH4
  rw [z15 D.i12,z15 D.TOi1.symm,Heap.get?_update_self _ (show (zH1 hp z).get? i1=some (z03 l1 k) by rw [zn D.i1z];exact h1) rfl]
  simp [z03,Obj.mapFields,rawInt]
 have u3:(zH4 hp z TO i1 i2 x (up1 k) (up1 k)).get? TO=some (z09 x b):=by unfold zH4;rw [z15 D.TOi2];exact t3
 have u4:(zH4 hp z TO i1 i2 x (up1 k) (up1 k)).get? z=some (z5p TI TO .ellipsis):=by unfold zH4;rw [z15 D.i2z.symm,z15 D.TOz.symm,z15 D.i1z.symm];exact z1
 have u5:∀c o,c≠z->c≠TO->c≠i1->c≠i2->hp.get? c=some o->(zH4 hp z TO i1 i2 x (up1 k) (up1 k)).get? c=some o:=fun c o c1 c2 c3 c4 e=>by
  unfold zH4;rw [z15 c4,z15 c2,z15 c3,zn c1];exact e
 have sz:((zH4 hp z TO i1 i2 x (up1 k) (up1 k)).update TO (Obj.mapSeq (·.setIfInBounds 1 y))).objs.size=hp.objs.size:=by
  unfold zH4 zH1;rw [Heap.size_update,Heap.size_update,Heap.size_update,Heap.size_update,Heap.size_update]
 have nz:hp.objs.size≠z:=Nat.ne_of_gt (Heap.lt_size hz)
 exact ztv D u1 u2 u3 u4 u5 sz nz
end
section
variable {prog:Program} {w:World} {A:Around} {E:Value->Shared->Prop} {s:Shared} {z TI TO i1 i2 l1 l2:Addr} {a b x y:Value} {k:Nat} {xs ys:Array Value}
theorem zc9 {Q:Option Value->Shared->Prop} (D:ZipApart z TI TO i1 i2 l1 l2) (hz:s.heap.get? z=some (z5p TI TO .none)) (hTI:s.heap.get? TI=some (z09 (.ref i1) (.ref i2))) (hTO:s.heap.get? TO=some (z09 a b))
  (h1:s.heap.get? i1=some (z03 l1 k)) (h2:s.heap.get? i2=some (z03 l2 k)) (hl1:s.heap.IsTuple l1 xs) (hl2:s.heap.IsTuple l2 ys) (hx:xs[k]?=some x) (hy:ys[k]?=some y)
  (hQ:Q (some (.ref s.heap.objs.size)) { s with heap:=zHF s.heap z TO i1 i2 x y (up1 k) (up1 k) }):wpAny (model prog w) A (pyNext (.ref z)) Q E s:=by
 have hT:s.TypeIs (.ref z) "zip":=⟨_,hz,rfl⟩
 have k1:∀{c o},c≠z->s.heap.get? c=some o->(zH1 s.heap z).get? c=some o:=fun n e=>by unfold zH1;rw [z15 n];exact e
 have g1:zf2 i1 x (up1 k) A.in1 { s with heap:=zH1 s.heap z }:=z8z (k1 D.i1z h1) (let ⟨o,ho,r⟩:=hl1;⟨o,k1 D.l1z ho,r⟩) hx
 have k3:∀{c o},c≠z->c≠i1->c≠TO->s.heap.get? c=some o->(((zH1 s.heap z).update i1 (up1 k)).update TO (Obj.mapSeq (·.setIfInBounds 0 x))).get? c=some o:=fun n1 n2 n3 e=>by rw [z15 n3,z15 n2];exact k1 n1 e
 have g2:zf2 i2 y (up1 k) A.in1 { s with heap:=((zH1 s.heap z).update i1 (up1 k)).update TO (Obj.mapSeq (·.setIfInBounds 0 x)) }:=z8z (k3 D.i2z D.i12.symm D.TOi2.symm h2) (let ⟨o,ho,r⟩:=hl2;⟨o,k3 D.l2z D.l2i1 D.l2TO ho,r⟩) hy
 unfold pyNext
 exact wpAny_bind (wpAny_attempt (wpAny_callSpecial?_slot (name:=Str.ofString "__next__") hT F.slot_zip_next
  (call_meets F.slot_zip_next hT F.entry_zip_next (F.args_zip_next_1 _) (zf4 z TI TO i1 i2 a b x y (up1 k) (up1 k) D.TOz D.TOi1 D.TOi2 D.i1z D.i2z) ⟨hz,hTI,hTO,g1,g2,wpAny_pure hQ⟩)))
theorem zfb {Q:Option Value->Shared->Prop} (hh:A.handled=none) (D:ZipApart z TI TO i1 i2 l1 l2) (hz:s.heap.get? z=some (z5p TI TO .none)) (hTI:s.heap.get? TI=some (z09 (.ref i1) (.ref i2))) (hTO:s.heap.get? TO=some (z09 a b))
  (h1:s.heap.get? i1=some (z03 l1 k)) (hl1:s.heap.IsTuple l1 xs) (hx:xs[k]?=none) (hQ:∀h',(∀c o,c≠z->c≠i1->s.heap.get? c=some o->h'.get? c=some o)->Q none { s with heap:=h' }):wpAny (model prog w) A (pyNext (.ref z)) Q E s:=by
 have hT:s.TypeIs (.ref z) "zip":=⟨_,hz,rfl⟩
 have k1:∀{c o},c≠z->s.heap.get? c=some o->(zH1 s.heap z).get? c=some o:=fun n e=>by unfold zH1;rw [z15 n];exact e
 have g1:zle i1 A.in1 { s with heap:=zH1 s.heap z }:=zh8 hh (k1 D.i1z h1) (let ⟨o,ho,r⟩:=hl1;⟨o,k1 D.l1z ho,r⟩) hx
 unfold pyNext
 refine wpAny_bind (wpAny_attempt (wpAny_callSpecial?_slot (name:=Str.ofString "__next__") hT F.slot_zip_next
  (call_meets F.slot_zip_next hT F.entry_zip_next (F.args_zip_next_1 _) (zh9 z TI TO i1 i2 a b D.i1z) ⟨hz,hTI,hTO,g1,fun h' e kp he=>?_⟩)))
 obtain ⟨o,ho,hc⟩:=he
 exact wpAny_bind (wpAny_isInstance (T:="StopIteration") (b:=true) ⟨o,ho,hc⟩ isSubtype_stop (wpAny_pure (hQ h' kp)))
end
theorem zca {P:Program} {w:World} {K:Frag} {elts:List Expr} {k:Nat} {pos:Pos} {z TI TO i1 i2 l1 l2:Addr} {xs ys:List V} (D:ZipApart z TI TO i1 i2 l1 l2) (hlen:xs.length=ys.length) :
  Turn P w K (.Tuple elts k pos) (ItP (fun H=>Rd H l1 (.tup xs)/\Rd H l2 (.tup ys)) (xs.zip ys)) [z,TI,TO,i1,i2] z
   (fun i h=>h.get? z=some (z5p TI TO .none)/\h.get? TI=some (z09 (.ref i1) (.ref i2))/\(∃a b,h.get? TO=some (z09 a b))/\h.get? i1=some (z03 l1 i)/\h.get? i2=some (z03 l2 i)) where
 mem:=by simp
 obj:=fun i h ⟨hz,hTI,⟨a,b,hTO⟩,h1,h2⟩ c hc=>by
  have hc':c=z\/c=TI\/c=TO\/c=i1\/c=i2:=by simpa using hc
  rcases hc' with rfl | rfl | rfl | rfl | rfl
  . exact ⟨_,hz,fun v e=>by cases e⟩
  . exact ⟨_,hTI,fun v e=>by cases e⟩
  . exact ⟨_,hTO,fun v e=>by cases e⟩
  . exact ⟨_,h1,fun v e=>by cases e⟩
  . exact ⟨_,h2,fun v e=>by cases e⟩
 keep:=fun i h h' ⟨hz,hTI,⟨a,b,hTO⟩,h1,h2⟩ kp=>⟨kp z (by simp) _ hz,kp TI (by simp) _ hTI,⟨a,b,kp TO (by simp) _ hTO⟩,kp i1 (by simp) _ h1,kp i2 (by simp) _ h2⟩
 item:=by
  intro X hP hw hK hc i pins s σ H E I hf st hg
  subst hP hw hK
  obtain ⟨⟨hS1,hS2⟩,hlt⟩:=hg
  obtain ⟨hz,hTI,⟨a0,b0,hTO⟩,h1,h2⟩:=st
  obtain ⟨its1,r1,p1,z1⟩:=I.tuple (.inl hS1)
  obtain ⟨its2,r2,p2,z2⟩:=I.tuple (.inl hS2)
  have le1:=r1.length
  have le2:=r2.length
  rw [List.length_zip] at hlt
  obtain ⟨a,ea⟩:∃a,xs[i]?=some a:=⟨xs[i]'(by omega),by simp⟩
  obtain ⟨b,eb⟩:∃b,ys[i]?=some b:=⟨ys[i]'(by omega),by simp⟩
  obtain ⟨x,q1,ru1⟩:=r1.get ea
  obtain ⟨y,q2,ru2⟩:=r2.get eb
  obtain ⟨f1,f2,f3,f4,f5,f6⟩:=zhe (x:=x) (y:=y) D hz hTO h1 h2
  refine zc9 D hz hTI hTO h1 h2 p1 p2 (by simpa using q1) (by simpa using q2) ⟨.ref s.heap.objs.size,rfl,?_⟩
  generalize zHF s.heap z TO i1 i2 x y (up1 i) (up1 i)=HF at f1 f2 f3 f4 f5 f6
  refine wpAny_letOwnedTupleGo_zip (TI:=TI) (TO:=TO) f1 fun h' hz' hs'=>?_
  have nT:∀{c o},s.heap.get? c=some o->s.heap.objs.size≠c:=fun e=>Nat.ne_of_gt (Heap.lt_size e)
  have up:∀{c o},c≠z->HF.get? c=some o->h'.get? c=some o:=fun n e=>hs'.extBut _ _ n e
  have ht:h'.IsTuple s.heap.objs.size ([x,y]:List Value).toArray:=⟨_,up (nT hz) f3,rfl,_,rfl⟩
  have sub:∀c∈[z,TO,i1,i2],z81 X pins H c:=fun c hc'=>hf c (by
   have:c=z\/c=TO\/c=i1\/c=i2:=by simpa using hc'
   rcases this with rfl | rfl | rfl | rfl<;>simp)
  have I2:=I.turnedT (tk:=s.toks) (h':=h') (xs:=[a,b]) (its:=[x,y]) sub (fun c o hcw e=>by
   have hc':c≠z/\c≠TO/\c≠i1/\c≠i2:=by simpa using hcw
   exact up hc'.1 (f6 c o hc'.1 hc'.2.1 hc'.2.2.1 hc'.2.2.2 e)) (Nat.le_refl _) ht (.cons ru1 (.cons ru2 .nil)) zdf
  have HT:H s.heap.objs.size=none:=I.hok.fresh (Nat.le_refl _)
  refine ⟨.ref s.heap.objs.size,upd H s.heap.objs.size (.tup [a,b]),I2,rfl,⟨s.heap.objs.size,a,b,rfl,HT,rfl,?_⟩,⟨hz',up D.TIz (f6 _ _ D.TIz D.TITO D.TIi1 D.TIi2 hTI),⟨x,y,up D.TOz f2⟩,up D.i1z f4,up D.i2z f5⟩,fun c hc'=>?_⟩
  . rw [List.getElem?_zip_eq_some];exact ⟨ea,eb⟩
  . rw [z07]
    . exact (hf c hc').1
    . intro e
      have hc'':c=z\/c=TI\/c=TO\/c=i1\/c=i2:=by simpa using hc'
      rcases hc'' with q | q | q | q | q<;>rw [q] at e
      . exact nT hz e.symm
      . exact nT hTI e.symm
      . exact nT hTO e.symm
      . exact nT h1 e.symm
      . exact nT h2 e.symm
 done:=by
  intro X hP hw hK hc i pins s σ H E I hf st hg
  subst hP hw hK
  obtain ⟨⟨hS1,hS2⟩,hle⟩:=hg
  obtain ⟨hz,hTI,⟨a0,b0,hTO⟩,h1,h2⟩:=st
  obtain ⟨its1,r1,p1,z1⟩:=I.tuple (.inl hS1)
  have le1:=r1.length
  rw [List.length_zip] at hle
  have sub:∀c∈[z,i1],z81 X pins H c:=fun c hc'=>hf c (by
   have:c=z\/c=i1:=by simpa using hc'
   rcases this with rfl | rfl<;>simp)
  refine zfb (I.ok.hd hc) D hz hTI hTO h1 p1 (by simp;omega) fun h' kp=>⟨rfl,?_⟩
  exact I.turnedN (tk:=s.toks) sub fun c o hcw e=>by
   have hc':c≠z/\c≠i1:=by simpa using hcw
   exact kp c o hc'.1 hc'.2 e
 self:=fun A i s Q E st h=>wpAny_pyIter_zip (TI:=TI) (TO:=TO) (f0:=.none) st.1 h
noncomputable def zqa (n:Nat) (l1 l2:Addr):List Obj:=[z03 l1 0,z03 l2 0,z09 (.ref n) (.ref (n+1)),z09 .none .none,z5p (n+2) (n+3) .none]
section
open PySem.SeqAt
open PySem.AutoSeq1 (wpAny_loadPart')
theorem zcb (l1 l2:Addr) (xs ys:Array Value) :
  Meets (Builtin.«zip.__new__» ⟨[.type "zip",.ref l1,.ref l2],[]⟩) (fun _ R s=>s.heap.IsTuple l1 xs/\s.heap.IsTuple l2 ys/\R (.ok (.ret (.ref (s.heap.objs.size+4)))) { s with heap:=zN s.heap (zqa s.heap.objs.size l1 l2) }):=
 .of_wp fun prog w A R s h=>by
  obtain ⟨hp,g,dr,tk,os⟩:=s;obtain ⟨q1,q2,h⟩:=h
  have f0:=sub_zip
  have a1:Heap.IsTuple (Shared.heap ⟨hp,g,dr,tk,os⟩) l1 xs:=q1
  have a2:Heap.IsTuple (Shared.heap ⟨hp.push { cls:=.type "tuple_iterator",data:=.fields #[.ref l1,.int 0 0] },g,dr,tk,os⟩) l2 ys:=Heap.IsTuple.push q2 _
  wp_walk using wpAny_pyIter_tuple a1,wpAny_pyIter_tuple a2
  refine ⟨_,rfl,?_⟩
  have s1:(hp.push (z03 l1 0)).objs.size=hp.objs.size+1:=Heap.size_push ..
  have s2:((hp.push (z03 l1 0)).push (z03 l2 0)).objs.size=hp.objs.size+2:=by rw [Heap.size_push,s1]
  have s3:(((hp.push (z03 l1 0)).push (z03 l2 0)).push (z09 (.ref hp.objs.size) (.ref (hp.push (z03 l1 0)).objs.size))).objs.size=hp.objs.size+3:=by rw [Heap.size_push,s2]
  have s4:((((hp.push (z03 l1 0)).push (z03 l2 0)).push (z09 (.ref hp.objs.size) (.ref (hp.push (z03 l1 0)).objs.size))).push (z09 .none .none)).objs.size=hp.objs.size+4:=by rw [Heap.size_push,s3]
  show R (.ok (.ret (.ref ((((hp.push (z03 l1 0)).push (z03 l2 0)).push (z09 (.ref hp.objs.size) (.ref (hp.push (z03 l1 0)).objs.size))).push (z09 .none .none)).objs.size))) { heap:=((((hp.push (z03 l1 0)).push (z03 l2 0)).push (z09 (.ref hp.objs.size) (.ref (hp.push (z03 l1 0)).objs.size))).push (z09 .none .none)).push (z5p ((hp.push (z03 l1 0)).push (z03 l2 0)).objs.size (((hp.push (z03 l1 0)).push (z03 l2 0)).push (z09 (.ref hp.objs.size) (.ref (hp.push (z03 l1 0)).objs.size))).objs.size .none),gens:=g,drawn:=dr,toks:=tk,os:=os }
  rw [s4,s3,s2,s1]
  exact h
end
noncomputable def zqb (ta:TA):TI:=fun σ H R=>ta σ H fun vs H1=>match vs with
 | [.ref l1,.ref l2]=>∃xs ys,Rd H1 l1 (.tup xs)/\Rd H1 l2 (.tup ys)/\xs.length=ys.length/\R (ItP (fun H=>Rd H l1 (.tup xs)/\Rd H l2 (.tup ys)) (xs.zip ys)) H1
 | _=>False
section
variable {X:Cx} {a b:Expr} {ta:TA} {p pos tpos:Pos} {elts:List Expr} {k:Nat}
theorem zhf (hg:Gl X "zip") (hm:X.mg "zip"=none) (ha:PA X [a,b] ta) (hs:starEach [a,b] X.env=[(false,eval a X.env),(false,eval b X.env)]:=by rfl) (hs2:starEach [b] X.env=[(false,eval b X.env)]:=by rfl) :
  PI X (.Tuple elts k tpos) (.Call (.Name "zip" p) [a,b] [] pos) (zqb ta):=by
 intro pins s σ H R I h
 refine Call_ (z6c I hg hm boot_zip (PyProof.Rows.callWith_type1 (thn (ha pos pins s σ H _ I h) fun us s1 ⟨vs,H1,I1,r1,q1⟩=>?_) (by rw [hs,hs2]) (by rw [hs2];rfl)))
 dsimp only at q1
 split at q1
 . rename_i l1 l2
   obtain ⟨xs,ys,e1,e2,hlen,q⟩:=q1
   obtain ⟨u,w',rfl,ru,rw'⟩:=zms r1
   cases ru;cases rw'
   obtain ⟨its1,rr1,p1,_⟩:=I1.tuple (.inl e1)
   obtain ⟨its2,rr2,p2,_⟩:=I1.tuple (.inl e2)
   have lt1:l1<s1.heap.objs.size:=by obtain ⟨o,ho,_⟩:=p1;exact Heap.lt_size ho
   have lt2:l2<s1.heap.objs.size:=by obtain ⟨o,ho,_⟩:=p2;exact Heap.lt_size ho
   refine callType_new F.called_zip (by decide) (F.typeCall_zip_2 _ _) (F.newCall_zip_2 _ _) (fun obj=>F.args_object_init_3 obj _ _) F.entry_zip_new (zcb l1 l2 its1.toArray its2.toArray) ⟨p1,p2,?_⟩
   have g4:=zf6 [z03 l1 0,z03 l2 0,z09 (.ref s1.heap.objs.size) (.ref (s1.heap.objs.size+1)),z09 .none .none] (z5p (s1.heap.objs.size+2) (s1.heap.objs.size+3) .none) [] s1.heap rfl
   have g3:=zf6 [z03 l1 0,z03 l2 0,z09 (.ref s1.heap.objs.size) (.ref (s1.heap.objs.size+1))] (z09 .none .none) [z5p (s1.heap.objs.size+2) (s1.heap.objs.size+3) .none] s1.heap rfl
   have g2:=zf6 [z03 l1 0,z03 l2 0] (z09 (.ref s1.heap.objs.size) (.ref (s1.heap.objs.size+1))) [z09 .none .none,z5p (s1.heap.objs.size+2) (s1.heap.objs.size+3) .none] s1.heap rfl
   have g1:=zf6 [z03 l1 0] (z03 l2 0) [z09 (.ref s1.heap.objs.size) (.ref (s1.heap.objs.size+1)),z09 .none .none,z5p (s1.heap.objs.size+2) (s1.heap.objs.size+3) .none] s1.heap rfl
   have g0:=zf6 [] (z03 l1 0) [z03 l2 0,z09 (.ref s1.heap.objs.size) (.ref (s1.heap.objs.size+1)),z09 .none .none,z5p (s1.heap.objs.size+2) (s1.heap.objs.size+3) .none] s1.heap rfl
   have kp:∀c o,s1.heap.get? c=some o->(zN s1.heap (zqa s1.heap.objs.size l1 l2)).get? c=some o:=fun c o e=>z9w _ e
   refine ⟨⟨_,g4,rfl⟩,?_⟩
   refine wpAny_pyIter_zip (TI:=s1.heap.objs.size+2) (TO:=s1.heap.objs.size+3) (f0:=.none) g4 ⟨s1.heap.objs.size+4,[s1.heap.objs.size+4,s1.heap.objs.size+2,s1.heap.objs.size+3,s1.heap.objs.size,s1.heap.objs.size+1],_,_,H1,rfl,I1.kept (t':=s1.toks) kp,zca (zdh lt1 lt2) hlen,⟨g4,g2,⟨_,_,g3⟩,g0,g1⟩,fun c hc=>?_,q⟩
   have hc':s1.heap.objs.size<=c:=by
    have:c=s1.heap.objs.size+4\/c=s1.heap.objs.size+2\/c=s1.heap.objs.size+3\/c=s1.heap.objs.size\/c=s1.heap.objs.size+1:=by simpa using hc
    rcases this with q | q | q | q | q<;>rw [q]<;>first | exact Nat.le_add_right _ _ | exact Nat.le_refl _
   exact I1.fpOk hc' (I1.hok.fresh hc')
 . exact q1.elim
end
noncomputable def z4t (fs:DE->R (List D)):DE->R (List D):=fun ρ=>(fs ρ).bind fun ds=>R.of (match ds with
 | [.tup es,.tup gs]=>if es.length=gs.length then some ((es.zip gs).map fun p=>D.tup [p.1,p.2]) else none
 | _=>none)
theorem zj7 {X:Cx} {EX:XW} {elts:List Expr} {k:Nat} {a b:Expr} {p pos tpos:Pos} {fs:DE->R (List D)} (hg:Gl X "zip") (hm:X.mg "zip"=none) (ha:QA X EX [a,b] fs) (hs:starEach [a,b] X.env=[(false,eval a X.env),(false,eval b X.env)]:=by rfl) (hs2:starEach [b] X.env=[(false,eval b X.env)]:=by rfl) :
  QI X EX false (.Tuple elts k tpos) (.Call (.Name "zip" p) [a,b] [] pos) (z4t fs):=⟨(zhf hg hm ha.h hs hs2).imp fun σ H Q ⟨sx,ρ,H0,s,e,h⟩=>by
 unfold z4t at h
 rw [Rk.bind] at h
 refine TAd.go sx s e h fun ds h vs H1 H1' s1 e1 r1=>?_
 obtain ⟨es,hd,h⟩:=h.of
 split at hd<;>first | cases hd | skip
 split at hd<;>cases hd
 rename_i hl0
 obtain ⟨x,y,rfl,q1,q2⟩:=r1.duo
 obtain ⟨l,xs,rfl,hl,rl⟩:=q1.tup
 obtain ⟨l',ys,rfl,hl',rl'⟩:=q2.tup
 exact ⟨xs,ys,.inl (e1.2.1 _ _ hl),.inl (e1.2.1 _ _ hl'),by rw [<-rl.length,<-rl'.length];exact hl0,h _ H1 H1' s1 e1 (zea (fun H s=>⟨.inl (s _ _ hl),.inl (s _ _ hl')⟩) rl rl')⟩⟩
end L2
namespace L2
open PySem PySem.Spec PyProof.Rows
abbrev Kp (is:List Nat) (σ σ':St):Prop:=∀i∈is,σ'[i]?=σ[i]?
noncomputable def zqc (is:List Nat) (De:Ends) (σ:St):Ends:={ De with nx:=fun σ' H'=>Kp is σ σ'->De.nx σ' H',bk:=fun σ' H'=>Kp is σ σ'->De.bk σ' H',ct:=fun σ' H'=>Kp is σ σ'->De.ct σ' H' }
noncomputable def TSk (K:Frag) (EX:XW) (is:List Nat) (g:DS->SR):TS:=fun De σ H=>TSd K EX false g (zqc is De σ) σ H
structure QK (X:Cx) (EX:XW) (is:List Nat) (st:Stmt) (g:DS->SR):Prop where
 h:PS X st (TSk X.K EX is g)
structure QKB (X:Cx) (EX:XW) (is:List Nat) (sts:List Stmt) (g:DS->SR):Prop where
 h:PSs X sts (TSk X.K EX is g)
noncomputable def TGk (K:Frag) (is:List Nat) (tt:Tg):TG:=fun v σ H Q=>TGd K tt v σ H fun σ' H'=>Kp is σ σ'->Q σ' H'
structure QGk (X:Cx) (is:List Nat) (tg:Expr) (tt:Tg):Prop where
 h:PG X tg (TGk X.K is tt)
theorem SK.mon {K:Frag} {EX:XW} {fr:Bool} {Hc Hb:Hp} {D1 D2:Ends} {r:SR} (h:SK K EX fr Hc Hb D1 r) (hn:∀σ H,D1.nx σ H->D2.nx σ H) (hb:∀σ H,D1.bk σ H->D2.bk σ H) (hc:∀σ H,D1.ct σ H->D2.ct σ H) (hr:∀v H,D1.rt v H->D2.rt v H):SK K EX fr Hc Hb D2 r:=by
 cases r with
 | nx ρ=>exact fun σ H H0 R=>hn σ H (h σ H H0 R)
 | bk ρ=>exact fun σ H H0 R=>hb σ H (h σ H H0 R)
 | ct ρ=>exact fun σ H H0 R=>hc σ H (h σ H H0 R)
 | rt d=>exact fun v H o=>hr v H (h v H o)
 | er x=>exact h
 | st=>exact h
theorem TSd.mon {K:Frag} {EX:XW} {fr:Bool} {D1 D2:Ends} {g:DS->SR} {σ:St} {H:Hp} (h:TSd K EX fr g D1 σ H) (hn:∀σ H,D1.nx σ H->D2.nx σ H) (hb:∀σ H,D1.bk σ H->D2.bk σ H) (hc:∀σ H,D1.ct σ H->D2.ct σ H) (hr:∀v H,D1.rt v H->D2.rt v H):TSd K EX fr g D2 σ H:=by
 obtain ⟨Hc,Hb,H0,ρ,sb,R,h⟩:=h
 exact ⟨Hc,Hb,H0,ρ,sb,R,h.mon hn hb hc hr⟩
theorem Kp.trans {is:List Nat} {a b c:St} (h:Kp is a b) (k:Kp is b c):Kp is a c:=fun i hi=>(k i hi).trans (h i hi)
theorem Kp.set {is:List Nat} {σ:St} {i:Nat} {v:Option V} (h:i∉is):Kp is σ (σ.set i v):=fun j hj=>List.getElem?_set_ne (fun e:i=j=>h (by rw [e];exact hj))
theorem z7p {is:List Nat}:∀{js:List Nat} {xs:List V} {σ:St} {H:Hp} {Q:St->Hp->Prop},(∀j∈js,j∉is)->z4l js xs σ H (fun σ' H'=>Kp is σ σ'->Q σ' H')->z4l js xs σ H Q
 | [],xs,σ,H,Q,_,h=>by
  cases xs with
  | nil=>exact h fun _ _=>rfl
  | cons _ _=>exact h
 | j::js,xs,σ,H,Q,hd,h=>by
  cases xs with
  | nil=>exact h
  | cons x xs=>
   refine z7p (js:=js) (xs:=xs) (σ:=σ.set j (some x)) (fun k hk=>hd k (List.mem_cons_of_mem _ hk)) ?_
   have up:∀(js:List Nat) (xs:List V) (σ:St) (A B:St->Hp->Prop),(∀σ' H',A σ' H'->B σ' H')->z4l js xs σ H A->z4l js xs σ H B:=by
    intro js
    induction js with
    | nil=>intro xs σ A B i h;cases xs with
     | nil=>exact i _ _ h
     | cons _ _=>exact h
    | cons k ks ih=>intro xs σ A B i h;cases xs with
     | nil=>exact h
     | cons y ys=>exact ih ys _ A B i h
   exact up js xs _ _ _ (fun σ' H' q k=>q (Kp.trans (Kp.set (hd j List.mem_cons_self)) k)) h
section
variable {X:Cx} {EX:XW} {is:List Nat} {st:Stmt} {sts:List Stmt} {c e:Expr} {f fv fk:DE->R D} {t:DE->R Bool} {g g1 g2:DS->SR} {pos:Pos} {m:List Bool}
theorem zj8 (h:QK X EX is st g):QKB X EX is [st] g:=⟨z9c h.h⟩
theorem zli (h1:QK X EX is st g1) (h2:QKB X EX is sts g2):QKB X EX is (st::sts) (z28 g1 g2):=⟨(z3u h1.h h2.h).imp fun De σ H q=>by
 have q:=zke q
 unfold zrm at q ⊢
 refine TSd.mon q (fun σ1 H1 n k=>?_) (fun _ _ b=>b) (fun _ _ b=>b) fun _ _ b=>b
 exact TSd.mon n (fun σ2 H2 n2 k2=>n2 (k.trans k2)) (fun σ2 H2 n2 k2=>n2 (k.trans k2)) (fun σ2 H2 n2 k2=>n2 (k.trans k2)) fun _ _ b=>b⟩
theorem zty {i:Nat} {x:Str} {pos':Pos} {fr':Bool} (hni:i∉is) (hN:X.N.Nodup) (hi:X.N[i]?=some x) (hx:Loc X.env.scope x) (he:QE X EX fr' e f) (hs:swapsWith e (some (.Name x pos')) pos.line X.env=pure false:=by rfl) (hf:X.fn x=true\/X.env.scope.names.lookup x=some .local:=by first | exact .inl rfl | exact .inr rfl | assumption) :
  QK X EX is (.Assign [.Name x pos'] e pos) (z3q fr' i m f):=⟨(zcs hN hi hx he.h hs hf).imp fun De σ H q=>by
 have q:=znn q
 unfold zjq z3n at q ⊢
 exact TEd.mono' q fun v H' n=>n (Kp.set hni)⟩
theorem zqd {i:Nat} {o ix:Expr} {tpos:Pos} (hu:X.A.units+64<cLine) (ho:PE X o (z63 i)) (hk:QE X EX false ix fk) (hv:QE X EX false e fv)
  (ha:∀v,assign (.Subscript o ix tpos) X.env v=(do
   let ov <-holding [v] (eval o X.env)
   let iv <-holding [v,ov] (eval ix X.env)
   standAt tpos
   holding [v,ov,iv] (setItem ov iv v)
   release [v,ov,iv] []):=by intro _;rfl) (hs:swapsWithSole [.Subscript o ix tpos] e pos.line X.env=pure false:=by rfl) (hw:swappedStores [.Subscript o ix tpos] e X.env=pure none:=by rfl)
  (h1:(assignEach [.Subscript o ix tpos] X.env).map (·.2)=[assign (.Subscript o ix tpos) X.env]:=by rfl):QK X EX is (.Assign [.Subscript o ix tpos] e pos) (zi6 dSetN i m fk fv):=⟨(zi1 hv.h (zi0 ho hk.h (zq0 hu) ha) hs hw h1).imp fun De σ H q=>by
 have q:=znp zez q
 unfold zjq zrc zqc Kp at q
 simp only [implies_true,true_implies] at q
 exact q⟩
theorem zwc {js:List Nat} {ts:List Expr} {k:Nat} {pos:Pos} (hni:∀j∈js,j∉is) (hc:X.calm=true) (h:QGs X ts js) (hn:(assignEach ts X.env).length=js.length:=by rfl) (hst:(assignEach ts X.env).findIdx? (·.1)=none:=by rfl):QGk X is (.Tuple ts k pos) (.t js):=⟨(zdk hc h.h hn hst).imp fun v σ H Q q=>by
 have q:=zv2 q
 unfold zbo at q ⊢
 cases v<;>simp only at q ⊢
 split at q
 . exact ⟨q.1,z7p hni q.2⟩
 . exact ⟨q.1,z7p hni q.2⟩
 . exact q⟩
theorem ztz {tg iter:Expr} {tt:Tg} {body:List Stmt} {kp:Bool} {fi:DE->R (List D)} (hp:PassesOwn (model X.prog X.w) X.A X.env X.xe) (hc:X.calm=true) (hi:QI X EX kp tg iter fi) (hg:QGk X is tg tt) (hb:QKB X EX is body g)
  (hs:∀x,foldedSetIterable iter X.env x=pure x:=by intro _;rfl):QK X EX is (.For tg iter body [] pos) (zap kp m fi tt g):=⟨(z9i hp hc hi.h hg.h hb.h hs).imp fun De σ H q=>by
 obtain ⟨sx,ρ,H0,s,e,h⟩:=znr q
 refine ⟨sx,ρ,H0,s,e,h.mono fun ds z J H' H0' s' e' it=>?_⟩
 obtain ⟨W,⟨n,w0⟩,turn⟩:=z J H' H0' s' e' it
 refine ⟨fun i n σ1 H1=>W i n σ1 H1/\Kp is σ σ1,⟨n,w0,fun _ _=>rfl⟩,fun i n σ1 H1 ⟨w,k⟩=>?_⟩
 rcases turn i n σ1 H1 w with ⟨a,b⟩ | ⟨go,N,hN,step⟩
 . exact .inl ⟨a,b k⟩
 . refine .inr ⟨go,fun σ' H'=>N σ' H'/\Kp is σ σ',fun σ' H' ⟨a,b⟩=>?_,fun x H2 y=>?_⟩
   . obtain ⟨n',hl,w'⟩:=hN σ' H' a
     exact ⟨n',hl,w',b⟩
   . obtain ⟨Hc,Hb,H3,ρ3,d,ρ4,I,r,e3,q3⟩:=step x H2 y
     refine ⟨Hc,Hb,H3,ρ3,d,ρ4,I,r,e3,fun σ' I' k2=>?_⟩
     have kk:=k.trans k2
     exact TSd.mon (q3 σ' I') (fun σ5 H5 a k5=>⟨a,kk.trans k5⟩) (fun σ5 H5 a k5=>a (kk.trans k5)) (fun σ5 H5 a k5=>⟨a,kk.trans k5⟩) fun _ _ a=>a⟩
end
noncomputable def spU (K:Frag) (mU:List D->R D) (n:Nat):Sp:=fun vs H Q _=>∃(d:D) (ds:List D) (a:Addr) (ws:List V) (H0:Hp),vs=.ref a::ws/\ds.length+1=n/\Same H0 H/\H0 a=none/\OB K H0 H a d/\RDs K H0 ds ws /\
 Rk (fun _=>False) (mU (d::ds)) fun d'=>∀H' H0',Same (hid [a] H) H'->Ext H0 (hid [a] H) H0' H'->H0' a=none->OB K H0' H' a d'->Q .non H'
noncomputable def zu0 (n k:Nat) (g:DS->SR):List D->R D
 | d::r=>if r.length+1=n then (match g (.ow d::(r.map .im++List.replicate k .em)) with
  | .nx (.ow d'::_)=>.ok d'
  | _=>.st) else .st
 | []=>.st
theorem RDs.atR {K:Frag} {H:Hp}:∀{ds:List D} {ws:List V},RDs K H ds ws->∀(i:Nat) d,ds[i]?=some d->∃w,ws[i]?=some w/\RD K H d w
 | [],_,_,i,d,q=>by simp at q
 | e::es,_,r,i,d,q=>by
  simp only [RDs] at r
  obtain ⟨y,ys,rfl,r1,r2⟩:=r
  cases i with
  | zero=>cases q;exact ⟨y,rfl,r1⟩
  | succ i=>exact RDs.atR r2 i d q
theorem zqe {K:Frag} {H0 H:Hp} {d:D} {ds:List D} {a:Addr} {ws:List V} (s:Same H0 H) (h0:H0 a=none) (ob:OB K H0 H a d) (r:RDs K H0 ds ws) (k:Nat) :
  RS K H0 (hid [a] H) H0 (.ow d::(ds.map .im++List.replicate k .em)) (some (.ref a)::(ws.map some++List.replicate k none)) H:=by
 have hl:=r.length
 have tail:∀(i:Nat) (s:Sl),(ds.map Sl.im++List.replicate k Sl.em)[i]?=some s->s=.em\/∃e,s=.im e/\ds[i]?=some e:=fun i s q=>by
  by_cases hi:i<ds.length
  . rw [List.getElem?_append_left (by simpa using hi),List.getElem?_map,List.getElem?_eq_getElem hi] at q
    exact .inr ⟨ds[i],(Option.some.inj q).symm,List.getElem?_eq_getElem hi⟩
  . rw [List.getElem?_append_right (by simpa using hi)] at q
    exact .inl (List.mem_replicate.mp (List.mem_of_getElem? q)).2
 have zero:∀(i:Nat) e,(Sl.ow d::(ds.map Sl.im++List.replicate k Sl.em))[i]?=some (.ow e)->i=0/\d=e:=fun i e q=>by
  cases i with
  | zero=>cases q;exact ⟨rfl,rfl⟩
  | succ i=>rcases tail i _ q with z | ⟨_,z,_⟩<;>cases z
 refine ⟨fun b o h=>?_,⟨Same.refl _,s,fun a ha e=>e⟩,by simp [hl],fun i e q=>?_,fun i e q=>?_,fun i j e e' b qi qj si sj=>?_⟩
 . unfold hid at h;split at h
   . cases h
   . exact h
 . cases i with
   | zero=>cases q
   | succ i=>
    rcases tail i _ q with z | ⟨e',z,q'⟩
    . cases z
    . cases z
      obtain ⟨w,hw,rw'⟩:=r.atR i e q'
      refine ⟨w,?_,rw'⟩
      have hi:i<ws.length:=by
       apply Classical.byContradiction;intro hn
       rw [List.getElem?_eq_none (by omega)] at hw;cases hw
      show (ws.map some++List.replicate k none)[i]?=_
      rw [List.getElem?_append_left (by simpa using hi),List.getElem?_map,hw];rfl
 . obtain ⟨rfl,rfl⟩:=zero i e q
   exact ⟨a,rfl,h0,zpx (List.mem_singleton.mpr rfl),ob⟩
 . obtain ⟨rfl,_⟩:=zero i e qi
   obtain ⟨rfl,_⟩:=zero j e' qj
   rfl
theorem fnU {P:Program} {w:World} {K:Frag} {mg:Str->Option Value} {base:Heap} {x qual:Str} {st:Stmt} {f:Addr} {fd:FuncData} {N ps:List Str} {k n kk:Nat} {g:DS->SR} (F:Fun K x qual st f fd) (S:FnScope N ps (z02 st)) (hps:ps.length=n) (hN:N.length=n+kk)
  (hbody:∀(cdv:Value) (A:Around) (outer:List Env) (s:Shared) (H:Hp) (E:XK),Room k (A.deeper (envOfC qual (z02 st) s.heap.objs.size f cdv)) ->
   QKB (zg6 (CX1 P w) P w K mg base N qual (z02 st) f cdv A outer s H E) F0 [0] (z0k st) g):FnOk P w K mg base (CX1 P w) (k+1) f fd ps (spU K (zu0 n kk g) n):=by
 refine F.okX S (fun vs H Q E h=>?_) (fun cdv A outer s H vs Q E hr h=>?_)
 . obtain ⟨d,ds,a,ws,H0,rfl,hn,_,_,_,r,_⟩:=h
   rw [List.length_cons,<-r.length,hn,hps]
 . refine ⟨_,(hbody cdv A outer s H E hr).h,?_⟩
   obtain ⟨d,ds,a,ws,H0,rfl,hn,s0,h0,ob,r,h⟩:=h
   have hl:=r.length
   have e:z49 N (.ref a::ws)=some (.ref a)::(ws.map some++List.replicate kk none):=by
    unfold z49
    rw [List.length_cons,hN,<-hl,show n+kk - (ds.length+1)=kk by omega]
    rfl
   rw [e]
   refine ⟨H0,hid [a] H,H0,Sl.ow d::(ds.map Sl.im++List.replicate kk Sl.em),F0.same _,(zqe s0 h0 ob r kk:RS K H0 (hid [a] H) H0 (Sl.ow d::(ds.map Sl.im++List.replicate kk Sl.em)) (some (.ref a)::(ws.map some++List.replicate kk none)) H),?_⟩
   unfold zu0 at h
   simp only at h
   rw [if_pos hn] at h
   cases q:g (Sl.ow d::(ds.map Sl.im++List.replicate kk Sl.em)) with
   | nx ρ=>
    rw [q] at h
    intro σ' H' H0' RR kp
    match ρ,h,RR with
    | .ow d'::r',h,RR=>
     obtain ⟨a',z1,z2,z3,z4⟩:=RR.ow 0 d' rfl
     have:=kp 0 (List.mem_singleton.mpr rfl)
     rw [z1] at this
     cases this
     exact h H' H0' RR.sb RR.ext z2 z4
    | [],h,_=>exact h.elim
    | .im _::_,h,_=>exact h.elim
    | .em::_,h,_=>exact h.elim
   | rt d=>rw [q] at h;exact h.elim
   | er x=>rw [q] at h;exact h.elim
   | bk ρ=>rw [q] at h;exact h.elim
   | ct ρ=>rw [q] at h;exact h.elim
   | st=>rw [q] at h;exact h.elim
noncomputable def zqf (i:Nat) (m:List Bool) (mU:List D->R D) (n:Nat) (fs:DE->R (List D)):DS->SR:=fun ρ=>match ρ[i]? with
 | some (.ow _)=>(fs (vis m ρ)).toS fun ds=>match (z4r (z2t ds) m ρ)[i]? with
  | some (.ow d)=>if ds.length+1=n then (match mU (d::ds) with
   | .ok d'=>.nx ((z4r (z2t ds) m ρ).set i (.ow d'))
   | _=>.st) else .st
  | _=>.st
 | _=>.st
section
variable {K:Frag} {EX:XW} {fr:Bool} {De:Ends} {σ:St} {H:Hp} {m:List Bool}
theorem RS.hidden {Hc Hb H0 H0' H':Hp} {ρ:DS} {i:Nat} {d d':D} {a:Addr} (R:RS K Hc Hb H0 ρ σ H) (q:ρ[i]?=some (.ow d)) (h1:σ[i]?=some (some (.ref a))) (s':Same (hid [a] H) H') (e':Ext H0 (hid [a] H) H0' H') (n':H0' a=none) (ob:OB K H0' H' a d'):RS K Hc Hb H0' (ρ.set i (.ow d')) σ H':=by
 obtain ⟨a',z1,z2,z3,z4⟩:=R.ow i d q
 rw [h1] at z1;cases z1
 have sbh:Same Hb (hid [a] H):=fun b o hb=>by
  rw [zeu fun hm=>by rw [List.mem_singleton.mp hm,z3] at hb;cases hb];exact R.sb b o hb
 refine ⟨sbh.trans s',⟨R.ext.1.trans e'.1,e'.2.1,fun b hb hc=>e'.2.2 b (sbh.ne hb) (R.ext.2.2 b hb hc)⟩,by simp [R.len],fun j e qj=>?_,fun j e qj=>?_,fun j k e1 e2 b q1 q2 s1 s2=>?_⟩
 . rcases z9r qj with ⟨_,z⟩ | ⟨_,qj⟩
   . cases z
   . obtain ⟨v,v1,v2⟩:=R.im j e qj
     exact ⟨v,v1,v2.mono e'.1⟩
 . rcases z9r qj with ⟨e0,z⟩ | ⟨ne,qj⟩
   . subst e0;cases z;exact ⟨a,h1,n',z3,ob⟩
   . obtain ⟨b,b1,b2,b3,b4⟩:=R.ow j e qj
     have na:b∉[a]:=fun hm=>ne (R.ap i j _ _ _ q qj h1 (by rw [b1,List.mem_singleton.mp hm]))
     obtain ⟨o,ho,_⟩:=b4.some
     have hh:hid [a] H b=some o:=by rw [zeu na];exact ho
     refine ⟨b,b1,e'.2.2 b (by rw [hh];exact fun z=>nomatch z) b2,b3,?_⟩
     exact (b4.at (by rw [ho];exact s' b o hh)).mono e'.1 (Same.refl _)
 . have back:∀(j:Nat) e,(ρ.set i (.ow d'))[j]?=some (.ow e)->∃e0,ρ[j]?=some (.ow e0):=fun j e qj=>by
    rcases z9r qj with ⟨e0,_⟩ | ⟨_,qj⟩
    . subst e0;exact ⟨_,q⟩
    . exact ⟨_,qj⟩
   obtain ⟨x1,y1⟩:=back j e1 q1
   obtain ⟨x2,y2⟩:=back k e2 q2
   exact R.ap j k _ _ b y1 y2 s1 s2
theorem zu1 {i n:Nat} {mU:List D->R D} {fs:DE->R (List D)} {E:XK} (h:TSd K EX fr (zqf i m mU n fs) De σ H) :
  z6x (z8h (spU K mU n) E (z3o (z63 i) (TAd K EX fs))) De σ H:=by
 obtain ⟨Hc,Hb,H0,ρ,sb,R,h⟩:=h
 unfold zqf at h
 split at h
 . rename_i d0 q0
   rw [SK.toS] at h
   obtain ⟨a,h1,h2,h3,h4⟩:=R.ow i d0 q0
   unfold z6x z8h z3o z63
   rw [h1]
   refine ⟨sb.trans R.sb,vis m ρ,HeOf m ρ σ H0 H,R.heH m,R.re m,h.mono fun ds h vs H' H0' s e rds=>?_⟩
   obtain ⟨H0n,R',rd'⟩:=R.outs s e rds
   split at h
   . rename_i d q
     split at h
     . rename_i hn
       split at h
       . rename_i d' qm
         obtain ⟨a',z1,z2,z3,z4⟩:=R'.ow i d q
         rw [h1] at z1;cases z1
         refine ⟨d,ds,a,vs,H0n,rfl,hn,R'.ext.2.1,z2,z4,rd',?_⟩
         rw [qm]
         exact fun H2 H02 s2 e2 n2 ob=>h σ H2 H02 (R'.hidden q h1 s2 e2 n2 ob)
       . exact h.elim
     . exact h.elim
   . exact h.elim
 . exact h.elim
end
section
variable {X:Cx} {EX:XW} {fr:Bool}
theorem zu2 {i n kl jj:Nat} {fn:Str} {fp cp pos:Pos} {e1:Expr} {es:List Expr} {ps:List Str} {mU:List D->R D} {fs:DE->R (List D)} {m:List Bool} (G:z5g X.prog X.w X.K X.mg X.base fn ps kl (spU X.K mU n)) (hr:Room jj X.A) (hg:Gl X fn) (h1:PE X e1 (z63 i)) (h2:QA X EX es fs) (hkj:kl<=jj:=by omega) (hdb:(fn==("__debug__":Str))=false:=by decide)
  (he:starEach (e1::es) X.env=(false,eval e1 X.env)::starEach es X.env:=by rfl) (hpl:(backTo cp (starEach es X.env)).any (·.1)=false:=by rfl)
  (hsw:swapsWith (.Call (.Name fn fp) (e1::es) [] cp) none pos.line X.env=pure false:=by rfl) :
  QS X EX fr (.Expr (.Call (.Name fn fp) (e1::es) [] cp) pos) (zqf i m mU n fs):=
 ⟨(z9d (zdu G (zv3 (X:=X)).on hr hg (z2x h1 h2.h he) hkj hdb he hpl) hsw).imp fun _ _ _ q=>zu1 q⟩
end
noncomputable def zlj (e:DE):DS:=e.map fun o=>match o with | some d=>.im d | none=>.em
theorem zb6 {e:DE} {i:Nat}:(zlj e)[i]?=(e[i]?).map fun o=>match o with | some d=>Sl.im d | none=>.em:=by unfold zlj;rw [List.getElem?_map]
theorem RE.rs {K:Frag} {Hc Hb B H:Hp} {e:DE} {σ:St} (r:RE K B e σ) (sb:Same Hb H) (x:Ext Hc Hb B H):RS K Hc Hb B (zlj e) σ H:=by
 have no:∀(i:Nat) d,(zlj e)[i]?≠some (.ow d):=fun i d q=>by
  rw [zb6] at q
  cases h:e[i]? with
  | none=>rw [h] at q;cases q
  | some o=>rw [h] at q;cases o<;>cases q
 refine ⟨sb,x,by unfold zlj;rw [List.length_map];exact r.1,fun i d q=>?_,fun i d q=>absurd q (no i d),fun i j d d' a q=>absurd q (no i d)⟩
 rw [zb6] at q
 cases h:e[i]? with
 | none=>rw [h] at q;cases q
 | some o=>
  rw [h] at q
  cases o with
  | none=>cases q
  | some d'=>cases q;exact r.2 i d h
noncomputable def zqg (F T S:Nat) (m:List Bool) (fA fB:DE->R D) (t:DE->R Bool):DS->SR:=fun ρ=>match ρ[F]?,ρ[T]?,ρ[S]?,fA (vis m ρ),fB (vis m ρ) with
 | some (.ow (.lst dF)),some .em,some .em,.ok (.lst dA),.ok (.lst dB)=>
  if m.getD F false=false/\dA.length<=1000/\dB.length<=1000/\dF.length<=1000 then (match t (((vis m ρ).set F (some (.lst dF))).set T (some (.lst [.lst dA,.lst dB]))) with
   | .ok false=>.nx (zlj (vis m ρ))
   | _=>.st) else .st
 | _,_,_,_,_=>.st
section
variable {X:Cx} {EX:XW} {fr:Bool} {F T S:Nat} {st1 st2 st3:Stmt} {rest:List Stmt} {m:List Bool} {t:DE->R Bool} {fA fB:DE->R D} {g:DS->SR}
theorem zu3 (h1:PS X st1 (zjq (zm8 (z3o (TEd X.K EX true fA) (z3o (TEd X.K EX true fB) zcw))) (z3n T))) (h2:PS X st2 (zrn (TTd X.K EX t) zhy zjp))
  (h3:PS X st3 (zde (zre X.K (tOp zru (z63 T) (zm8 (z3o (z63 F) zcw)))) (z3n S) (z6x (tBM X.K "list" z54 (z63 S) (z3o (tC (.int 7)) zcw)))))
  (h4:QB X EX fr rest g):QB X EX fr (st1::st2::st3::rest) (z28 (zqg F T S m fA fB t) g):=by
 refine ⟨(z3u h1 (z3u h2 (z3u h3 h4.h))).imp fun De σ H q=>?_⟩
 obtain ⟨Hc,Hb,H0,ρ,sb,R,h⟩:=zke q
 unfold zqg at h
 split at h
 . rename_i dF dA dB own eT eS pA pB
   split at h
   . rename_i hc
     obtain ⟨mF,lA,lB,lF⟩:=hc
     split at h
     . rename_i p2
       obtain ⟨p,σ9,hp0,hpb,ob⟩:=R.ow F _ own
       simp only [OB] at ob
       obtain ⟨xs,hpx,rxs⟩:=ob
       have nFT:T≠F:=fun z=>by rw [z,own] at eT;cases eT
       have nFS:S≠F:=fun z=>by rw [z,own] at eS;cases eS
       have nm:¬Msk m ρ σ p:=fun ⟨i,d,q1,q2,q3⟩=>by
        have:=R.ap i F d _ p q2 own q3 σ9
        subst this
        rw [q1] at mF
        cases mF
       have xE:=R.extE m
       generalize hB:HeOf m ρ σ H0 H=B at xE
       have sBH:Same B H:=by rw [<-hB];exact R.heH m
       have s0B:Same H0 B:=by rw [<-hB];exact R.he0 m
       have re:RE X.K B (vis m ρ) σ:=by rw [<-hB];exact R.re m
       have hBp:B p=none:=by rw [<-hB,z2l nm];exact hp0
       have lenE:(vis m ρ).length=σ.length:=re.1
       have vT:∀d,(vis m ρ)[T]?≠some (some d):=fun d z=>by
        rw [z5e,eT] at z;cases z
       have vS:∀d,(vis m ρ)[S]?≠some (some d):=fun d z=>by
        rw [z5e,eS] at z;cases z
       have hT:T<σ.length:=by rw [<-R.len];exact (List.getElem?_eq_some_iff.mp eT).1
       have hS:S<σ.length:=by rw [<-R.len];exact (List.getElem?_eq_some_iff.mp eS).1
       generalize vis m ρ=e at re pA pB p2 h vT vS lenE
       have bH:Same Hb H:=R.sb
       have rxs':RDs X.K H dF xs:=rxs.mono (s0B.trans sBH)
       have lxs:xs.length<=1000:=by rw [<-rxs.length];exact lF
       clear R rxs hB
       show TEd X.K EX true fA σ H _
       refine ⟨sb.trans bH,e,B,sBH,re,?_⟩
       rw [pA]
       intro v1 H1 o1
       obtain ⟨s1,B1,x1,o1⟩:=o1
       rw [if_pos rfl] at o1
       obtain ⟨p1,rfl,hp1,hb1,ob1⟩:=o1
       simp only [OB] at ob1
       obtain ⟨ys,hy,rys⟩:=ob1
       have lys:ys.length<=1000:=by rw [<-rys.length];exact lA
       show TEd X.K EX true fB σ H1 _
       refine ⟨(sb.trans bH).trans s1,e,B,sBH.trans s1,re,?_⟩
       rw [pB]
       intro v2 H2 o2
       obtain ⟨s2,B2,x2,o2⟩:=o2
       rw [if_pos rfl] at o2
       obtain ⟨pp,rfl,hp2,hb2,ob2⟩:=o2
       simp only [OB] at ob2
       obtain ⟨zs,hz,rzs⟩:=ob2
       have lzs:zs.length<=1000:=by rw [<-rzs.length];exact lB
       refine ⟨by rw [sizeLine_eq];show 2<=16777216;decide,fun q hq=>?_⟩
       generalize hH3:upd H2 q (.lst [V.ref p1,V.ref pp])=H3
       have s23:Same H2 H3:=by rw [<-hH3];exact .upd_new hq
       have hq3:H3 q=some (.lst [V.ref p1,V.ref pp]):=by rw [<-hH3,z0e]
       have s3:Same H H3:=(s1.trans s2).trans s23
       have g10:(σ.set T (some (V.ref q)))[T]?=some (some (V.ref q)):=List.getElem?_set_self hT
       have g9:(σ.set T (some (V.ref q)))[F]?=some (some (V.ref p)):=by rw [List.getElem?_set_ne nFT];exact σ9
       have a10:∀(i:Nat) d,e[i]?=some (some d)->(σ.set T (some (V.ref q)))[i]?=σ[i]?:=fun i d hd=>List.getElem?_set_ne (fun z=>by rw [<-z] at hd;exact vT d hd)
       show TTd X.K EX t (σ.set T (some (V.ref q))) H3 _
       generalize hσ1:σ.set T (some (V.ref q))=σ1 at g10 g9 a10 ⊢
       have sl1:σ1.length=σ.length:=by rw [<-hσ1,List.length_set]
       have rA:RD X.K H3 (.lst dA) (.ref p1):=by simp only [RD];exact ⟨p1,ys,rfl,s23 _ _ (s2 _ _ hy),rys.mono (x1.2.1.trans (s2.trans s23))⟩
       have rB:RD X.K H3 (.lst dB) (.ref pp):=by simp only [RD];exact ⟨pp,zs,rfl,s23 _ _ hz,rzs.mono (x2.2.1.trans s23)⟩
       have rF:RD X.K H3 (.lst dF) (.ref p):=by simp only [RD];exact ⟨p,xs,rfl,s3 _ _ hpx,rxs'.mono s3⟩
       have rO:RD X.K H3 (.lst [.lst dA,.lst dB]) (.ref q):=by simp only [RD,RDs];exact ⟨q,_,rfl,hq3,_,_,rfl,by simpa only [RD] using rA,_,_,rfl,by simpa only [RD] using rB,rfl⟩
       show TTd X.K EX t σ1 H3 _
       refine ⟨(sb.trans bH).trans s3,_,H3,Same.refl _,(((re.mono (sBH.trans s3)).agree sl1 a10).put g9 rF).put g10 rO,?_⟩
       rw [p2]
       intro H4 s4
       try dsimp only
       rw [if_neg Bool.false_ne_true]
       show zde (zre X.K (tOp zru (z63 T) (zm8 (z3o (z63 F) zcw)))) (z3n S) (z6x (tBM X.K "list" z54 (z63 S) (z3o (tC (.int 7)) zcw))) { De with nx:=TSd X.K EX fr g De } σ1 H4
       generalize hbd:z6x (tBM X.K "list" z54 (z63 S) (z3o (tC (.int 7)) zcw))=bd
       unfold zde zre tOp zm8 z3o zcw z63
       rw [g10]
       dsimp only
       rw [g9]
       dsimp only
       refine ⟨by rw [sizeLine_eq];show 1<=16777216;decide,fun r hr=>?_⟩
       generalize hH5:upd H4 r (.lst [V.ref p])=H5
       have s45:Same H4 H5:=by rw [<-hH5];exact .upd_new hr
       have hr5:H5 r=some (.lst [V.ref p]):=by rw [<-hH5,z0e]
       refine ⟨q,r,_,_,rfl,rfl,s45 _ _ (s4 _ _ hq3),hr5,by rw [sizeLine_eq];show 3<=16777216;decide,fun r2 hr2=>?_⟩
       generalize hH6:upd H5 r2 (.lst ([V.ref p1,V.ref pp]++[V.ref p]))=H6
       have s56:Same H5 H6:=by rw [<-hH6];exact .upd_new hr2
       have hr6:H6 r2=some (.lst [V.ref p1,V.ref pp,V.ref p]):=by rw [<-hH6,z0e];rfl
       have s46:Same H3 H6:=s4.trans (s45.trans s56)
       have n1:p1≠r2:=fun z=>by
        have:=s45 _ _ (s4 _ _ (s23 _ _ (s2 _ _ hy)))
        rw [z,hr2] at this;cases this
       have n2:pp≠r2:=fun z=>by
        have:=s45 _ _ (s4 _ _ (s23 _ _ hz))
        rw [z,hr2] at this;cases this
       have n3:p≠r2:=fun z=>by
        have:=s45 _ _ (s4 _ _ (s3 _ _ hpx))
        rw [z,hr2] at this;cases this
       refine zak (.inl hr6) ?_
       have six:∀a,a=p1\/a=pp\/a=p->∃ws,H6 a=some (.lst ws)/\ws.length<=1000:=by
        rintro a (rfl | rfl | rfl)
        . exact ⟨ys,s46 _ _ (s23 _ _ (s2 _ _ hy)),lys⟩
        . exact ⟨zs,s46 _ _ (s23 _ _ hz),lzs⟩
        . exact ⟨xs,s46 _ _ (s3 _ _ hpx),lxs⟩
       refine zry (fun i σ' H'=>σ'.length=σ.length/\(∀j,j≠S->σ'[j]?=σ1[j]?)/\(∀a,¬(a=p1\/a=pp\/a=p)->H' a=H6 a)/\∀a,a=p1\/a=pp\/a=p->∃ws,H' a=some (.lst ws)/\ws.length<=1000+i)
        ⟨sl1,fun _ _=>rfl,fun _ _=>rfl,six⟩ (fun i σ' H' hi hq=>.inl ?_) (fun i x σ' H' hx hq=>?_) (fun σ' H' hq=>?_)
       . rw [hq.2.2.1 r2 (fun z=>z.elim (fun z=>n1 z.symm) fun z=>z.elim (fun z=>n2 z.symm) fun z=>n3 z.symm)];exact hr6
       . obtain ⟨l',a',o',w'⟩:=hq
         have hx':∃b,x=.ref b/\(b=p1\/b=pp\/b=p):=by
          have:=List.mem_of_getElem? hx
          simp only [List.mem_cons,List.not_mem_nil,or_false] at this
          rcases this with rfl | rfl | rfl
          . exact ⟨_,rfl,.inl rfl⟩
          . exact ⟨_,rfl,.inr (.inl rfl)⟩
          . exact ⟨_,rfl,.inr (.inr rfl)⟩
         have hi3:i<3:=(List.getElem?_eq_some_iff.mp hx).1
         obtain ⟨b,rfl,hb⟩:=hx'
         obtain ⟨ws,hw,lw⟩:=w' b hb
         have g11:(σ'.set S (some (V.ref b)))[S]?=some (some (V.ref b)):=List.getElem?_set_self (by omega)
         show bd _ (σ'.set S (some (V.ref b))) H'
         rw [<-hbd]
         unfold z6x tBM z63
         rw [g11]
         dsimp only
         refine ⟨.inl ⟨rfl,ws,.of hw⟩,?_⟩
         unfold z3o tC zcw
         dsimp only
         refine ⟨b,ws,.int 7,rfl,rfl,hw,z2z (by omega),?_⟩
         refine ⟨by rw [List.length_set];exact l',fun j hj=>by rw [List.getElem?_set_ne (Ne.symm hj)];exact a' j hj,fun a ha=>?_,fun a ha=>?_⟩
         . rw [z07 (fun z=>ha (by rw [z];exact hb))];exact o' a ha
         . by_cases hab:a=b
           . subst hab
             exact ⟨ws++[.int 7],z0e,by rw [List.length_append,List.length_singleton];omega⟩
           . obtain ⟨ws',h1,h2⟩:=w' a ha
             exact ⟨ws',by rw [z07 hab];exact h1,by omega⟩
       . obtain ⟨l',a',o',w'⟩:=hq
         have off:∀{G:Hp},Same G H->G p=none->Same G H':=fun {G} sg gp b o hb=>by
          rw [o' b (fun z=>by
           rcases z with z | z | z
           . rw [z,sg.none hp1] at hb;cases hb
           . rw [z,(sg.trans s1).none hp2] at hb;cases hb
           . rw [z,gp] at hb;cases hb)]
          exact s46 _ _ (s3 _ _ (sg b o hb))
         have sB':Same B H':=off sBH hBp
         have sb':Same Hb H':=off bH hpb
         have re':RE X.K B e σ':=re.agree l' fun i d hd=>by
          rw [a' i (fun z=>by rw [z] at hd;exact vS d hd)];exact a10 i d hd
         exact h σ' H' B (re'.rs sb' ⟨xE.1,sB',xE.2.2⟩)
     . exact h.elim
   . exact h.elim
 . exact h.elim
end
section
variable {prog:Program} {w:World} {A:Around} {E:Value->Shared->Prop} {s:Shared} {κ:SortKind} {a₀:Array Keyed} {rk:Keyed->Nat}
noncomputable def tk (rk:Keyed->Nat) (xs:Array Keyed) (i:Nat):Nat:=match xs[i]? with
 | some p=>rk p
 | none=>0
def z4g (prog:Program) (w:World) (A:Around) (E:Value->Shared->Prop) (s:Shared) (κ:SortKind) (a₀:Array Keyed) (rk:Keyed->Nat):Prop:=
 ∀x y,x∈a₀->y∈a₀->∀(st:SortSt) (Q:Option Bool->SortSt->Prop),kindOf st=κ->Q (some (decide (rk x<rk y))) st->wpS (model prog w) A E s (lt' x y) Q st
structure TBs (κ:SortKind) (a₀:Array Keyed) (st:SortSt):Prop where
 perm:(arrOf st).Perm a₀
 kind:kindOf st=κ
 ok:failedOf st=none
def TSo (rk:Keyed->Nat) (xs:Array Keyed) (lo hi:Nat):Prop:=∀i j,lo<=i->i<=j->j<hi->tk rk xs i<=tk rk xs j
theorem z1o {xs:Array Keyed} {i:Nat} (h:i<xs.size):tk rk xs i=rk xs[i]:=by unfold tk;rw [getElem?_pos xs i h]
theorem z4x {xs ys:Array Keyed} {i j:Nat} (h:xs[i]?=ys[j]?):tk rk xs i=tk rk ys j:=by unfold tk;rw [h]
theorem TBs.size {st:SortSt} (B:TBs κ a₀ st):(arrOf st).size=a₀.size:=B.perm.size_eq
theorem TBs.mem {st:SortSt} (B:TBs κ a₀ st) {x:Keyed} (h:x∈arrOf st):x∈a₀:=Array.mem_def.mpr ((Array.perm_iff_toList_perm.mp B.perm).mem_iff.mp (Array.mem_def.mp h))
theorem TBs.set {st:SortSt} (B:TBs κ a₀ st) {xs:Array Keyed} (hp:xs.Perm (arrOf st)):TBs κ a₀ (setArr st xs):=⟨hp.trans B.perm,B.kind,B.ok⟩
theorem z0t {st:SortSt} {xs:Array Keyed} {i:Nat} {Q:Keyed->SortSt->Prop} (h:i<xs.size) (q:Q xs[i] st):wpS (model prog w) A E s (elem' xs i) Q st:=by
 rw [elem'_eq,getElem?_pos xs i h]
 exact wpS_pure q
theorem zmf (hc:z4g prog w A E s κ a₀ rk) {st:SortSt} (B:TBs κ a₀ st) {i j:Nat} (hi:i<a₀.size) (hj:j<a₀.size) {Q:Option Bool->SortSt->Prop}
  (h:Q (some (decide (tk rk (arrOf st) i<tk rk (arrOf st) j))) st):wpS (model prog w) A E s (ltAt' i j) Q st:=by
 rw [ltAt'_eq]
 have hi':i<(arrOf st).size:=by rw [B.size];exact hi
 have hj':j<(arrOf st).size:=by rw [B.size];exact hj
 rw [z1o hi',z1o hj'] at h
 refine wpS_bind (wpS_get (wpS_bind (z0t hi' (wpS_bind (z0t hj' ?_)))))
 exact hc _ _ (B.mem (Array.getElem_mem _)) (B.mem (Array.getElem_mem _)) st Q B.kind h
theorem z5q {xs:Array Keyed} {i j:Nat} (hj:j<=xs.size) (k:Nat):tk rk (mirror xs i j ((j - i) / 2)) k=if i<=k/\k<j then tk rk xs (i+j - 1 - k) else tk rk xs k:=by
 by_cases h:i<=k/\k<j<;>simp only [h,if_true,if_false]<;>refine z4x ?_<;>rw [getElem?_mirror_all hj]
 . rw [if_pos h]
 . rw [if_neg h]
theorem zfc {xs:Array Keyed} {src d:Nat} (hs:src<xs.size) (hd:d<=src) (k:Nat) :
  tk rk (bubble xs src d) k=if k=src - d then tk rk xs src else if src - d<k/\k<=src then tk rk xs (k - 1) else tk rk xs k:=by
 have e:=getElem?_bubble hs d hd k
 by_cases h1:k=src - d
 . rw [if_pos h1] at e ⊢;exact z4x e
 . rw [if_neg h1] at e ⊢
   by_cases h2:src - d<k/\k<=src
   . rw [if_pos h2] at e ⊢;exact z4x e
   . rw [if_neg h2] at e ⊢;exact z4x e
theorem z7q {xs:Array Keyed} {i j:Nat} (hj:j<=xs.size) (ha:∀k,i<=k->k<j->tk rk xs k=tk rk xs (j - 1)) (k:Nat):tk rk (mirror xs i j ((j - i) / 2)) k=tk rk xs k:=by
 rw [z5q hj]
 by_cases h:i<=k/\k<j
 . rw [if_pos h,ha (i+j - 1 - k) (by omega) (by omega),ha k h.1 h.2]
 . rw [if_neg h]
theorem TSo.step {xs:Array Keyed} {lo n:Nat} (h:TSo rk xs lo (lo+n)) (h1:1<=n) (hn:tk rk xs (lo+n - 1)<=tk rk xs (lo+n)):TSo rk xs lo (lo+(n+1)):=fun i j h0 h1' h2=>by
 by_cases hj:j=lo+n
 . subst hj
   by_cases hi:i=lo+n
   . rw [hi];exact Nat.le_refl _
   . exact Nat.le_trans (h i (lo+n - 1) h0 (by omega) (by omega)) hn
 . exact h i j h0 h1' (by omega)
theorem TSo.one {xs:Array Keyed} (lo:Nat):TSo rk xs lo (lo+1):=fun i j h0 h1 h2=>by
 obtain rfl:i=j:=by omega
 exact Nat.le_refl _
structure TL (st st':SortSt) (lo:Nat):Prop where
 low:∀k,k<lo->(arrOf st')[k]?=(arrOf st)[k]?
 pend:pendingOf st'=pendingOf st
theorem TL.refl (st:SortSt) (lo:Nat):TL st st lo:=⟨fun _ _=>rfl,rfl⟩
theorem TL.trans {a b c:SortSt} {lo:Nat} (h:TL a b lo) (k:TL b c lo):TL a c lo:=⟨fun i hi=>(k.low i hi).trans (h.low i hi),k.pend.trans h.pend⟩
theorem TL.mirror {st:SortSt} {lo i j:Nat} (hi:lo<=i) (hj:j<=(arrOf st).size):TL st (setArr st (mirror (arrOf st) i j ((j - i) / 2))) lo:=
 ⟨fun k hk=>by show (PyProof.Rows.mirror (arrOf st) i j ((j - i) / 2))[k]?=_;rw [getElem?_mirror_all hj,if_neg (by omega)],rfl⟩
theorem zhg {st:SortSt} {i j:Nat} {Q:Unit->SortSt->Prop} (h:Q () (setArr st (mirror (arrOf st) i j ((j - i) / 2)))):wpS (model prog w) A E s (reverseSlice' i j) Q st:=by
 rw [reverseSlice'_eq]
 exact wpS_modify h
theorem TSo.ups' {xs:Array Keyed} {lo a:Nat} (h:TSo rk xs lo (lo+a)) (ha:1<=a):∀{n:Nat},a<=n->(∀i,a<=i->i<n->tk rk xs (lo+i - 1)<=tk rk xs (lo+i))->TSo rk xs lo (lo+n)
 | 0,z,_=>by omega
 | n+1,z,up=>by
  by_cases e:a=n+1
  . rw [<-e];exact h
  . exact (TSo.ups' h ha (n:=n) (by omega) fun i a b=>up i a (by omega)).step (by omega) (up n (by omega) (by omega))
theorem TSo.ups {xs:Array Keyed} {lo n:Nat} (h:TSo rk xs lo (lo+1)) (hn:1<=n) (up:∀i,1<=i->i<n->tk rk xs (lo+i - 1)<=tk rk xs (lo+i)):TSo rk xs lo (lo+n):=h.ups' (Nat.le_refl _) hn up
theorem z6p {σ:Type} {r:String} {Q:Unit->σ->Prop} {st:σ} (h:Q () st):wpS (model prog w) A E s (liftM (rule r):StateT σ Sem Unit) Q st:=wpS_lift (wpAny_rule ⟨rfl,h⟩)
theorem zva {σ β:Type} {f:Nat->β->StateT σ Sem (ForInStep β)} (mk:Nat->β) (st:σ) (down:Nat->Bool) {a b:Nat} {Q:β->σ->Prop} (hab:a<=b)
  (go:∀x n (Q:ForInStep β->σ->Prop),a<=n->n<b->Q (if down n=true then .done (mk n) else .yield (mk (n+1))) st->wpS (model prog w) A E s (f x (mk n)) Q st)
  (h:∀n,a<=n->n<=b->(∀i,a<=i->i<n->down i=false)->(n<b->down n=true)->Q (mk n) st):wpS (model prog w) A E s (forIn [a:b] (mk a) f) Q st:=by
 refine wpS_forRange (I:=fun x c u=>u=st/\c=mk x/\∀i,a<=i->i<x->down i=false) (fun x c u hx hb hI=>?_) (fun c u hI=>?_) ⟨rfl,rfl,fun i y z=>by omega⟩
 . obtain ⟨rfl,rfl,up⟩:=hI
   refine go x x _ hx hb ?_
   cases hd:down x
   . exact ⟨rfl,rfl,fun i y z=>by
    by_cases e:i=x
    . rw [e];exact hd
    . exact up i y (by omega)⟩
   . exact h x hx (Nat.le_of_lt hb) up fun _=>hd
 . obtain ⟨rfl,rfl,up⟩:=hI
   rw [Nat.max_eq_right hab] at up ⊢
   exact h b hab (Nat.le_refl _) up fun z=>absurd z (Nat.lt_irrefl _)
theorem zj9 {σ β:Type} {f:Nat->β->StateT σ Sem (ForInStep β)} (mk:Nat->Nat->β) (st:σ) (mid:Nat->Nat->Nat) (p:Nat->Bool) {N l0 r0:Nat} {Q:β->σ->Prop} (hmid:∀l r,l<r->l<=mid l r/\mid l r<r)
  (go:∀x l r (Q:ForInStep β->σ->Prop),l0<=l->l<r->r<=r0->Q (.yield (if p (mid l r)=true then mk (mid l r+1) r else mk l (mid l r))) st->wpS (model prog w) A E s (f x (mk l r)) Q st)
  (stop:∀x l (Q:ForInStep β->σ->Prop),l<=r0->Q (.done (mk l l)) st->wpS (model prog w) A E s (f x (mk l l)) Q st)
  (mono:∀i j,l0<=i->i<=j->j<r0->p j=true->p i=true) (hl:l0<=r0) (hN:r0<=l0+N)
  (h:∀k,l0<=k->k<=r0->(∀i,l0<=i->i<k->p i=true)->(∀i,k<=i->i<r0->p i=false)->Q (mk k k) st):wpS (model prog w) A E s (forIn [0:N] (mk l0 r0) f) Q st:=by
 have key:∀l r,l0<=l->l<=r->r<=r0->(∀i,l0<=i->i<l->p i=true)->(∀i,r<=i->i<r0->p i=false)->l=r->Q (mk l r) st:=fun l r a b c d e z=>by subst z;exact h l a c d e
 refine wpS_forRange (I:=fun x c u=>u=st/\∃l r,(l0<=l/\l<=r/\r<=r0/\r+x<=l+N)/\c=mk l r/\(∀i,l0<=i->i<l->p i=true)/\∀i,r<=i->i<r0->p i=false)
  (fun x c u _ hb hI=>?_) (fun c u hI=>?_) ⟨rfl,l0,r0,⟨Nat.le_refl _,hl,Nat.le_refl _,by omega⟩,rfl,fun i a b=>by omega,fun i a b=>by omega⟩
 . obtain ⟨rfl,l,r,⟨b1,b2,b3,b4⟩,rfl,lt,gt⟩:=hI
   by_cases e:l=r
   . subst e
     exact stop x l _ b3 (key l l b1 b2 b3 lt gt rfl)
   . have hm:=hmid l r (by omega)
     refine go x l r _ b1 (by omega) b3 ?_
     cases hp:p (mid l r)
     . exact ⟨rfl,l,mid l r,⟨b1,hm.1,by omega,by omega⟩,rfl,lt,fun i a b=>by
      cases hi:p i
      . rfl
      . rw [mono (mid l r) i (by omega) a b hi] at hp;cases hp⟩
     . exact ⟨rfl,mid l r+1,r,⟨by omega,by omega,b3,by omega⟩,rfl,fun i a b=>mono i (mid l r) a (by omega) (by omega) hp,gt⟩
 . obtain ⟨rfl,l,r,⟨b1,b2,b3,b4⟩,rfl,lt,gt⟩:=hI
   exact key l r b1 b2 b3 lt gt (by simp only [Nat.zero_max] at b4;omega)
theorem zlk (hc:z4g prog w A E s κ a₀ rk) {st:SortSt} (B:TBs κ a₀ st) {lo nrem:Nat} (hz:lo+nrem<=a₀.size) (h1:1<=nrem) {Q:Option Nat->SortSt->Prop}
  (h:∀n st',1<=n->n<=nrem->TBs κ a₀ st'->TL st st' lo->TSo rk (arrOf st') lo (lo+n)->Q (some n) st'):wpS (model prog w) A E s (countRun' lo nrem) Q st:=by
 rw [countRun'_eq]
 refine wpS_bind (zva (fun n=>(none,n)) st (fun n=>decide (tk rk (arrOf st) (lo+n)<tk rk (arrOf st) (lo+n - 1))) h1 (fun x n Q a b q=>wpS_bind (zmf hc B (by omega) (by omega) ?_)) fun n hn1 hn2 up dn=>?_)
 . by_cases hl:tk rk (arrOf st) (lo+n)<tk rk (arrOf st) (lo+n - 1)
   . simp only [hl,decide_true,if_true] at q ⊢;exact wpS_pure q
   . simp only [hl,decide_false,Bool.false_eq_true,if_false] at q ⊢;exact wpS_pure q
 have hs:=TSo.ups (n:=n) (TSo.one (rk:=rk) (xs:=arrOf st) lo) hn1 fun i a b=>by have:=up i a b;simp only [decide_eq_false_iff_not] at this;omega
 have hd:n<nrem->tk rk (arrOf st) (lo+n)<tk rk (arrOf st) (lo+n - 1):=fun z=>by simpa using dn z
 dsimp only
 by_cases hnr:n=nrem
 . rw [if_pos (by simp [hnr])]
   exact wpS_pure (h n _ hn1 hn2 B (.refl _ _) hs)
 rw [if_neg (by simp [hnr])]
 have hd':=hd (by omega)
 have z3d:∀(xs:Array Keyed),TSo rk xs lo (lo+n)->¬tk rk xs lo<tk rk xs (lo+n - 1)->∀k,lo<=k->k<lo+n->tk rk xs k=tk rk xs (lo+n - 1):=fun xs hs hr k h0 h1=>by
  have a:=hs lo k (Nat.le_refl _) h0 h1
  have b:=hs k (lo+n - 1) h0 (by omega) (by omega)
  omega
 have ni0:∀(xs:Array Keyed),(∀k,lo<=k->k<lo+n->tk rk xs k=tk rk xs (lo+n - 1))->tk rk xs (lo+n)<tk rk xs (lo+n - 1)->∀i j,lo<=i->i<=j->j<lo+(n+1)->tk rk xs j<=tk rk xs i:=fun xs fl hd i j h0 h1 h2=>by
  by_cases hj:j=lo+n
  . subst hj
    by_cases hi:i=lo+n
    . rw [hi];exact Nat.le_refl _
    . rw [fl i h0 (by omega)];omega
  . rw [fl i h0 (by omega),fl j (by omega) (by omega)];exact Nat.le_refl _
 rcases Nat.lt_or_ge 1 n with hn | hn
 case' inl=>
  rw [if_pos hn]
  refine wpS_bind (zmf hc B (by omega) (by omega) ?_)
  by_cases hr:tk rk (arrOf st) lo<tk rk (arrOf st) (lo+n - 1)
  . simp only [hr,decide_true,if_true]
    exact wpS_pure (h n _ hn1 hn2 B (.refl _ _) hs)
  simp only [hr,decide_false,Bool.false_eq_true,if_false]
  have hz0:lo+n<=(arrOf st).size:=by rw [B.size];omega
  have fl:=z3d _ hs hr
  have ea:=z7q hz0 fl
  refine wpS_bind (zhg ?_)
  obtain ⟨st1,B1,L1,ni,e1⟩:∃st1,TBs κ a₀ st1/\TL st st1 lo/\(∀i j,lo<=i->i<=j->j<lo+(n+1)->tk rk (arrOf st1) j<=tk rk (arrOf st1) i)/\st1=setArr st (mirror (arrOf st) lo (lo+n) ((lo+n - lo) / 2)):=
   ⟨_,B.set (mirror_perm _ _ _ _),.mirror (Nat.le_refl _) hz0,fun i j h0 h1 h2=>by
    show tk rk (mirror (arrOf st) _ _ _) j<=tk rk (mirror (arrOf st) _ _ _) i
    rw [ea,ea]
    exact ni0 _ fl hd' i j h0 h1 h2,rfl⟩
  rw [<-e1]
  clear e1
 case' inr=>
  rw [if_neg (by omega)]
  obtain ⟨st1,B1,L1,ni,e1⟩:∃st1,TBs κ a₀ st1/\TL st st1 lo/\(∀i j,lo<=i->i<=j->j<lo+(n+1)->tk rk (arrOf st1) j<=tk rk (arrOf st1) i)/\st1=st:=
   ⟨_,B,.refl _ _,ni0 _ (z3d _ hs (by rw [show lo+n - 1=lo by omega];exact Nat.lt_irrefl _)) hd',rfl⟩
  rw [<-e1]
  clear e1
 all_goals
  refine wpS_bind (z6p ?_)
  refine wpS_bind (wpS_mono (wpS_forRange (I:=fun x c st2=>TBs κ a₀ st2/\TL st st2 lo/\∃q,c=(none,x,q)/\q+1<=x/\(∀i j,lo<=i->i<=j->j<lo+x->tk rk (arrOf st2) j<=tk rk (arrOf st2) i)/\∀k,lo+x - (q+1)<=k->k<lo+x->tk rk (arrOf st2) k=tk rk (arrOf st2) (lo+x - 1))
   (Q:=fun c st2=>TBs κ a₀ st2/\TL st st2 lo/\∃x q,c=(none,x,q)/\1<=x/\x<=nrem/\q+1<=x/\(∀i j,lo<=i->i<=j->j<lo+x->tk rk (arrOf st2) j<=tk rk (arrOf st2) i)/\∀k,lo+x - (q+1)<=k->k<lo+x->tk rk (arrOf st2) k=tk rk (arrOf st2) (lo+x - 1)) ?step ?fin ⟨B1,L1,0,rfl,by omega,ni,fun k h0 h1=>by rw [show k=lo+(n+1) - 1 by omega]⟩) ?post)
  case fin=>
   rintro c st2 ⟨B2,L2,q,rfl,hq,ni2,al⟩
   rw [show max (n+1) nrem=nrem by omega] at *
   exact ⟨B2,L2,nrem,q,rfl,h1,Nat.le_refl _,hq,ni2,al⟩
  case post=>
   rintro c st2 ⟨B2,L2,x,q,rfl,hx1,hx2,hq,ni2,al⟩
   have hz2:lo+x<=(arrOf st2).size:=by rw [B2.size];omega
   dsimp only
   rcases Nat.lt_or_ge 0 q with hq0 | hq0
   case' inl=>
    rw [if_pos hq0]
    refine wpS_bind (zhg ?_)
    have ea:=z7q hz2 al
    obtain ⟨st3,B3,L3,ni3,e3⟩:∃st3,TBs κ a₀ st3/\TL st st3 lo/\(∀i j,lo<=i->i<=j->j<lo+x->tk rk (arrOf st3) j<=tk rk (arrOf st3) i)/\st3=setArr st2 (mirror (arrOf st2) (lo+x - (q+1)) (lo+x) ((lo+x - (lo+x - (q+1))) / 2)):=
     ⟨_,B2.set (mirror_perm _ _ _ _),L2.trans (.mirror (by omega) hz2),fun i j h0 h1 h2=>by
      show tk rk (mirror (arrOf st2) _ _ _) j<=tk rk (mirror (arrOf st2) _ _ _) i
      rw [ea,ea];exact ni2 i j h0 h1 h2,rfl⟩
    rw [<-e3]
    clear e3
   case' inr=>
    rw [if_neg (by omega)]
    obtain ⟨st3,B3,L3,ni3,e3⟩:∃st3,TBs κ a₀ st3/\TL st st3 lo/\(∀i j,lo<=i->i<=j->j<lo+x->tk rk (arrOf st3) j<=tk rk (arrOf st3) i)/\st3=st2:=⟨_,B2,L2,ni2,rfl⟩
    rw [<-e3]
    clear e3
   all_goals
    have hz3:lo+x<=(arrOf st3).size:=by rw [B3.size];omega
    refine wpS_bind (zhg ?_)
    obtain ⟨st4,e4⟩:∃st4,st4=setArr st3 (mirror (arrOf st3) lo (lo+x) ((lo+x - lo) / 2)):=⟨_,rfl⟩
    have B4:TBs κ a₀ st4:=e4 ▸ B3.set (mirror_perm _ _ _ _)
    have L4:TL st st4 lo:=e4 ▸ L3.trans (.mirror (Nat.le_refl _) hz3)
    have s0:TSo rk (arrOf st4) lo (lo+x):=fun i j h0 h1 h2=>by
     rw [e4]
     show tk rk (mirror (arrOf st3) lo (lo+x) _) i<=tk rk (mirror (arrOf st3) lo (lo+x) _) j
     rw [z5q hz3,z5q hz3,if_pos (by omega),if_pos (by omega)]
     exact ni3 _ _ (by omega) (by omega) (by omega)
    rw [<-e4]
    clear e4
    refine wpS_bind (zva (fun n=>(none,n)) st4 (fun n=>decide (tk rk (arrOf st4) (lo+n)<tk rk (arrOf st4) (lo+n - 1))) hx2 (fun y m Q a b q=>wpS_bind (zmf hc B4 (by omega) (by omega) ?_)) fun m hm1 hm2 up _=>?_)
    . by_cases hl:tk rk (arrOf st4) (lo+m)<tk rk (arrOf st4) (lo+m - 1)
      . simp only [hl,decide_true,if_true] at q ⊢;exact wpS_pure q
      . simp only [hl,decide_false,Bool.false_eq_true,if_false] at q ⊢;exact wpS_pure q
    . dsimp only
      refine wpS_pure (h m _ (by omega) hm2 B4 L4 (s0.ups' hx1 hm1 fun i a b=>?_))
      have:=up i a b
      simp only [decide_eq_false_iff_not] at this
      omega
  case step=>
   rintro x c st2 hnx hxr ⟨B2,L2,q,rfl,hq,ni2,al⟩
   have hz2:lo+x<=(arrOf st2).size:=by rw [B2.size];omega
   dsimp only
   refine wpS_bind (zmf hc B2 (by omega) (by omega) ?_)
   have ext:∀(xs:Array Keyed),(∀i j,lo<=i->i<=j->j<lo+x->tk rk xs j<=tk rk xs i)->tk rk xs (lo+x)<=tk rk xs (lo+x - 1)->∀i j,lo<=i->i<=j->j<lo+(x+1)->tk rk xs j<=tk rk xs i:=fun xs nx hx i j h0 h1 h2=>by
    by_cases hj:j=lo+x
    . subst hj
      by_cases hi:i=lo+x
      . rw [hi];exact Nat.le_refl _
      . exact Nat.le_trans hx (nx i (lo+x - 1) h0 (by omega) (by omega))
    . exact nx i j h0 h1 (by omega)
   by_cases hl:tk rk (arrOf st2) (lo+x)<tk rk (arrOf st2) (lo+x - 1)
   . simp only [hl,decide_true,if_true]
     by_cases hq0:q > 0
     . rw [if_pos hq0]
       have ea:=z7q hz2 al
       refine wpS_bind (zhg (wpS_pure ⟨B2.set (mirror_perm _ _ _ _),L2.trans (.mirror (by omega) hz2),0,rfl,by omega,ext _ (fun i j h0 h1 h2=>?_) ?_,fun k h0 h1=>by rw [show k=lo+(x+1) - 1 by omega]⟩))
       . show tk rk (mirror (arrOf st2) _ _ _) j<=tk rk (mirror (arrOf st2) _ _ _) i
         rw [ea,ea];exact ni2 i j h0 h1 h2
       . show tk rk (mirror (arrOf st2) _ _ _) _<=tk rk (mirror (arrOf st2) _ _ _) _
         rw [ea,ea];exact Nat.le_of_lt hl
     . rw [if_neg hq0]
       exact wpS_pure ⟨B2,L2,0,rfl,by omega,ext _ ni2 (Nat.le_of_lt hl),fun k h0 h1=>by rw [show k=lo+(x+1) - 1 by omega]⟩
   . simp only [hl,decide_false,Bool.false_eq_true,if_false]
     refine wpS_bind (zmf hc B2 (by omega) (by omega) ?_)
     by_cases hg:tk rk (arrOf st2) (lo+x - 1)<tk rk (arrOf st2) (lo+x)
     . simp only [hg,decide_true,if_true]
       exact wpS_pure ⟨B2,L2,x,q,rfl,by omega,by omega,hq,ni2,al⟩
     . simp only [hg,decide_false,Bool.false_eq_true,if_false]
       refine wpS_pure ⟨B2,L2,q+1,rfl,by omega,ext _ ni2 (by omega),fun k h0 h1=>?_⟩
       rw [show lo+(x+1) - 1=lo+x by omega]
       by_cases hk:k=lo+x
       . rw [hk]
       . rw [al k (by omega) (by omega)];omega
theorem TSo.down {xs:Array Keyed} {lo k l:Nat} (hz:lo+k<xs.size) (hl:l<=k) (hs:TSo rk xs lo (lo+k)) (below:∀i,i<l->tk rk xs (lo+i)<=tk rk xs (lo+k)) (above:∀i,l<=i->i<k->tk rk xs (lo+k)<tk rk xs (lo+i)) :
  TSo rk (bubble xs (lo+k) (lo+k - (lo+l))) lo (lo+(k+1)):=fun i j h0 hij hj=>by
 obtain ⟨i,rfl⟩:∃i',i=lo+i':=⟨i - lo,by omega⟩
 obtain ⟨j,rfl⟩:∃j',j=lo+j':=⟨j - lo,by omega⟩
 have val:∀m,m<=k->tk rk (bubble xs (lo+k) (lo+k - (lo+l))) (lo+m)=if m<l then tk rk xs (lo+m) else if m=l then tk rk xs (lo+k) else tk rk xs (lo+(m - 1)):=fun m hm=>by
  rw [zfc hz (by omega)]
  by_cases a:m<l
  . rw [if_neg (by omega),if_neg (by omega),if_pos a]
  . by_cases b:m=l
    . rw [if_pos (by omega),if_neg a,if_pos b]
    . rw [if_neg (by omega),if_pos (by omega),if_neg a,if_neg b,show lo+m - 1=lo+(m - 1) by omega]
 have st:∀a b,a<=b->b<k->tk rk xs (lo+a)<=tk rk xs (lo+b):=fun a b u v=>hs _ _ (by omega) (by omega) (by omega)
 rw [val i (by omega),val j (by omega)]
 by_cases a:j<l
 . rw [if_pos a,if_pos (by omega)];exact st i j (by omega) (by omega)
 . rw [if_neg a]
   by_cases b:i<l
   . rw [if_pos b]
     by_cases c:j=l
     . rw [if_pos c];exact below i b
     . rw [if_neg c];exact st i (j - 1) (by omega) (by omega)
   . rw [if_neg b]
     by_cases c:i=l
     . rw [if_pos c]
       by_cases d:j=l
       . rw [if_pos d];exact Nat.le_refl _
       . rw [if_neg d];exact Nat.le_of_lt (above _ (by omega) (by omega))
     . rw [if_neg c,if_neg (by omega)];exact st _ _ (by omega) (by omega)
theorem zu4 (hc:z4g prog w A E s κ a₀ rk) {st:SortSt} (B:TBs κ a₀ st) {lo n ok:Nat} (hz:lo+n<=a₀.size) (h1:1<=ok) (hok:ok<=n) (hs:TSo rk (arrOf st) lo (lo+ok)) {Q:Bool->SortSt->Prop}
  (h:∀u,TBs κ a₀ u->TL st u lo->TSo rk (arrOf u) lo (lo+n)->Q true u):wpS (model prog w) A E s (binarySort' lo n ok) Q st:=by
 rw [binarySort'_eq,Nat.max_eq_left h1]
 refine wpS_bind (wpS_mono (wpS_forRange (I:=fun k c u=>c=(none,())/\TBs κ a₀ u/\TL st u lo/\TSo rk (arrOf u) lo (lo+k))
  (Q:=fun c u=>c=(none,())/\TBs κ a₀ u/\TL st u lo/\TSo rk (arrOf u) lo (lo+n)) (fun k c u ha hb hI=>?_) (fun c u hI=>by rwa [Nat.max_eq_right hok] at hI) ⟨rfl,B,.refl _ _,hs⟩) fun c u hI=>?_)
 . obtain ⟨rfl,B1,L1,hs⟩:=hI
   have hz1:lo+k<(arrOf u).size:=by rw [B1.size];omega
   refine wpS_bind (zj9 (fun l r=>(none,l,r)) u (fun l r=>(l+r) / 2) (fun i=>decide (tk rk (arrOf u) (lo+i)<=tk rk (arrOf u) (lo+k))) (fun l r _=>by omega) (fun x l r Q a b c q=>?_) (fun x l Q _ q=>?_) (fun i j _ a b c=>?_) (Nat.zero_le _) (by omega) fun l _ hl lt gt=>?_)
   . dsimp only
     rw [if_neg (by omega)]
     refine wpS_bind (zmf hc B1 (by omega) (by omega) ?_)
     by_cases z:tk rk (arrOf u) (lo+k)<tk rk (arrOf u) (lo+(l+r) / 2)
     . simp only [z,Nat.not_le.mpr z,decide_true,decide_false,Bool.false_eq_true,if_true,if_false] at q ⊢
       exact wpS_pure q
     . simp only [z,Nat.not_lt.mp z,decide_true,decide_false,Bool.false_eq_true,if_true,if_false] at q ⊢
       exact wpS_pure q
   . dsimp only
     rw [if_pos (Nat.le_refl _)]
     exact wpS_pure q
   . simp only [decide_eq_true_eq] at c ⊢
     exact Nat.le_trans (hs _ _ (by omega) (by omega) (by omega)) c
   . dsimp only
     rw [moveDown'_eq]
     refine wpS_bind (wpS_modify (wpS_pure ⟨rfl,B1.set (bubble_perm _ _ _),L1.trans ⟨fun j hj=>?_,rfl⟩,?_⟩))
     . show (bubble (arrOf u) (lo+k) (lo+k - (lo+l)))[j]?=_
       rw [getElem?_bubble hz1 _ (by omega),if_neg (by omega),if_neg (by omega)]
     . exact TSo.down hz1 hl hs (fun i a=>by simpa using lt i (Nat.zero_le _) a) fun i a b=>by simpa using gt i a b
 . obtain ⟨rfl,B1,L1,hs⟩:=hI
   exact wpS_pure (h u B1 L1 hs)
end
section
variable {prog:Program} {w:World} {A:Around} {E:Value->Shared->Prop} {s:Shared} {κ:SortKind} {a₀:Array Keyed} {rk:Keyed->Nat}
theorem zqh {σ β:Type} {f:Nat->β->StateT σ Sem (ForInStep β)} (mk:Nat->Nat->β) (st:σ) (q:Nat->Bool) {N M:Nat} {Q:β->σ->Prop} (q0:q 0=true) (hM:0<M) (hN:M<=N)
  (go:∀x last ofs (Q:ForInStep β->σ->Prop),0<ofs->ofs<M->Q (if q ofs=true then .yield (mk ofs (2 * ofs+1)) else .done (mk last ofs)) st->wpS (model prog w) A E s (f x (mk last ofs)) Q st)
  (stop:∀x last ofs (Q:ForInStep β->σ->Prop),M<=ofs->Q (.done (mk last ofs)) st->wpS (model prog w) A E s (f x (mk last ofs)) Q st)
  (h:∀last ofs,last<ofs->last<M->q last=true->(ofs<M->q ofs=false)->Q (mk last ofs) st):wpS (model prog w) A E s (forIn [0:N] (mk 0 1) f) Q st:=by
 refine wpS_forRange (I:=fun x c u=>u=st/\∃last ofs,c=mk last ofs/\x<ofs/\last<ofs/\last<M/\q last=true) (fun x c u _ _ hI=>?_) (fun c u hI=>?_) ⟨rfl,0,1,rfl,by omega,by omega,hM,q0⟩
 . obtain ⟨rfl,last,ofs,rfl,b1,b2,b3,b4⟩:=hI
   by_cases hm:ofs<M
   . refine go x last ofs _ (by omega) hm ?_
     cases hq:q ofs
     . exact h last ofs b2 b3 b4 fun _=>hq
     . exact ⟨rfl,ofs,2 * ofs+1,rfl,by omega,by omega,hm,hq⟩
   . exact stop x last ofs _ (by omega) (h last ofs b2 b3 b4 fun z=>absurd z hm)
 . obtain ⟨rfl,last,ofs,rfl,b1,b2,b3,b4⟩:=hI
   exact h last ofs b2 b3 b4 fun z=>by omega
noncomputable def gal:Bool->Keyed->Array Keyed->Nat->Nat->Nat->StateT SortSt Sem (Option Nat):=sortPriv% PySem.Builtin.gallop
noncomputable def bey (rk:Keyed->Nat) (left:Bool) (key:Keyed) (arr:Array Keyed) (base i:Nat):Bool:=if left=true then decide (tk rk arr (base+i)<rk key) else !decide (rk key<tk rk arr (base+i))
theorem zu5 (hc:z4g prog w A E s κ a₀ rk) {st:SortSt} (hk:kindOf st=κ) {left:Bool} {key:Keyed} {arr:Array Keyed} {base i:Nat} (kin:key∈a₀) (ain:∀x∈arr,x∈a₀) (hz:base+i<arr.size) {Q:Option Bool->SortSt->Prop}
  (h:Q (some (bey rk left key arr base i)) st):wpS (model prog w) A E s (elem' arr (base+i) >>= fun x=>if left=true then lt' x key else lt' key x >>= fun r=>pure (r.map fun b=>!b)) Q st:=by
 refine wpS_bind (z0t hz ?_)
 unfold bey at h
 rw [z1o hz] at h
 cases left with
 | true=>
  rw [if_pos rfl] at h ⊢
  exact hc _ _ (ain _ (Array.getElem_mem _)) kin st Q hk h
 | false=>
  rw [if_neg Bool.false_ne_true] at h ⊢
  exact wpS_bind (hc _ _ kin (ain _ (Array.getElem_mem _)) st _ hk (wpS_pure h))
theorem zcc (hc:z4g prog w A E s κ a₀ rk) {st:SortSt} (hk:kindOf st=κ) {left:Bool} {key:Keyed} {arr:Array Keyed} {base n hint:Nat} (kin:key∈a₀) (ain:∀x∈arr,x∈a₀) (hz:base+n<=arr.size) (hh:hint<n)
  (mono:∀i j,i<=j->j<n->bey rk left key arr base j=true->bey rk left key arr base i=true) {Q:Option Nat->SortSt->Prop}
  (h:∀k,k<=n->(∀i,i<k->bey rk left key arr base i=true)->(∀i,k<=i->i<n->bey rk left key arr base i=false)->Q (some k) st):wpS (model prog w) A E s (gal left key arr base n hint) Q st:=by
 have anti:∀i j,i<=j->j<n->bey rk left key arr base i=false->bey rk left key arr base j=false:=fun i j a b c=>by
  cases e:bey rk left key arr base j
  . rfl
  . rw [mono i j a b e] at c;cases c
 have ask:∀i (Q:Option Bool->SortSt->Prop),i<n->Q (some (bey rk left key arr base i)) st->wpS (model prog w) A E s (elem' arr (base+i) >>= fun x=>if left=true then lt' x key else lt' key x >>= fun r=>pure (r.map fun b=>!b)) Q st:=fun i Q hi q=>zu5 hc hk kin ain (by omega) q
 unfold gal
 refine wpS_bind (ask hint _ hh ?_)
 dsimp only
 rcases hr:bey rk left key arr base hint with _ | _
 case' true=>
  rw [if_pos rfl]
  refine wpS_bind (zqh (fun l o=>(none,l,o)) st (fun o=>bey rk left key arr base (hint+o)) (M:=n - hint) hr (by omega) (by omega) (fun x last ofs Q a b q=>?_) (fun x last ofs Q a q=>?_) fun last ofs a b c d=>?_)
  . dsimp only
    rw [if_neg (by omega)]
    refine wpS_bind (ask _ _ (by omega) ?_)
    dsimp only
    cases e:bey rk left key arr base (hint+ofs)<;>rw [e] at q<;>exact wpS_pure q
  . dsimp only
    rw [if_pos (by omega)]
    exact wpS_pure q
  dsimp only
  obtain ⟨lo,hi,elo,ehi,b1,b2,b3,b4⟩:∃lo hi,lo=hint+last+1/\hi=hint+min ofs (n - hint)/\lo<=hi/\hi<=n/\(∀i,i<lo->bey rk left key arr base i=true)/\∀i,hi<=i->i<n->bey rk left key arr base i=false:=
   ⟨_,_,rfl,rfl,by omega,by omega,fun i z=>mono i (hint+last) (by omega) (by omega) c,fun i y z=>anti (hint+ofs) i (by omega) z (d (by omega))⟩
  rw [<-elo,<-ehi]
  clear elo ehi c d
 case' false=>
  rw [if_neg Bool.false_ne_true]
  refine wpS_bind (zqh (fun l o=>(none,l,o)) st (fun o=>!bey rk left key arr base (hint - o)) (M:=hint+1) (by rw [Nat.sub_zero,hr];rfl) (by omega) (by omega) (fun x last ofs Q a b q=>?_) (fun x last ofs Q a q=>?_) fun last ofs a b c d=>?_)
  . dsimp only
    rw [if_neg (by omega)]
    refine wpS_bind (ask _ _ (by omega) ?_)
    dsimp only
    cases e:bey rk left key arr base (hint - ofs)<;>rw [e] at q<;>exact wpS_pure q
  . dsimp only
    rw [if_pos (by omega)]
    exact wpS_pure q
  dsimp only
  obtain ⟨lo,hi,elo,ehi,b1,b2,b3,b4⟩:∃lo hi,lo=hint+1 - min ofs (hint+1)/\hi=hint - last/\lo<=hi/\hi<=n/\(∀i,i<lo->bey rk left key arr base i=true)/\∀i,hi<=i->i<n->bey rk left key arr base i=false:=
   ⟨_,_,rfl,rfl,by omega,by omega,fun i z=>mono i (hint - ofs) (by omega) (by omega) (by simpa using d (by omega)),fun i y z=>anti (hint - last) i (by omega) z (by simpa using c)⟩
  rw [<-elo,<-ehi]
  clear elo ehi c d
 all_goals
  refine wpS_bind (zj9 (fun l r=>(none,l,r)) st (fun l r=>l+(r - l) / 2) (bey rk left key arr base) (fun l r _=>by omega) (fun x l r Q a b c q=>?_) (fun x l Q _ q=>?_) (fun i j _ a b c=>mono i j a (by omega) c) b1 (by omega) fun k _ hk lt gt=>?_)
  . dsimp only
    rw [if_neg (by omega)]
    refine wpS_bind (ask _ _ (by omega) ?_)
    dsimp only
    cases e:bey rk left key arr base (l+(r - l) / 2)<;>rw [e] at q<;>exact wpS_pure q
  . dsimp only
    rw [if_pos (Nat.le_refl _)]
    exact wpS_pure q
  . dsimp only
    refine wpS_pure (h k (by omega) (fun i z=>?_) fun i y z=>?_)
    . by_cases e:i<lo
      . exact b3 i e
      . exact lt i (by omega) z
    . by_cases e:i<hi
      . exact gt i y e
      . exact b4 i (by omega) z
end
section
variable {R:Keyed->Keyed->Prop}
def AscR (R:Keyed->Keyed->Prop) (l:List Keyed):Prop:=l.Pairwise R
structure MR (R:Keyed->Keyed->Prop) (A B out:List Keyed) (ia ib:Nat):Prop where
 perm:out.Perm (A.take ia++B.take ib)
 asc:AscR R out
 la:∀x∈out,∀y∈A.drop ia,R x y
 lb:∀x∈out,∀y∈B.drop ib,R x y
theorem AscR.drop {l:List Keyed} (h:AscR R l) (n:Nat):AscR R (l.drop n):=h.sublist (List.drop_sublist _ _)
theorem AscR.take {l:List Keyed} (h:AscR R l) (n:Nat):AscR R (l.take n):=h.sublist (List.take_sublist _ _)
theorem drop_take (l:List Keyed) (n k:Nat):l.drop n=(l.drop n).take k++l.drop (n+k):=by
 rw [<-List.drop_drop,List.take_append_drop]
theorem zfd (l:List Keyed) (n k:Nat):l.take (n+k)=l.take n++(l.drop n).take k:=by
 rw [List.take_add]
variable {A B out:List Keyed} {ia ib k:Nat}
theorem MR.appA (M:MR R A B out ia ib) (hA:AscR R A) (h:∀x∈(A.drop ia).take k,∀y∈B.drop ib,R x y):MR R A B (out++(A.drop ia).take k) (ia+k) ib:=by
 have dd:=drop_take A ia k
 have sA:=hA.drop ia
 rw [dd] at sA
 have pw:=List.pairwise_append.mp sA
 refine ⟨?_,List.pairwise_append.mpr ⟨M.asc,pw.1,fun x hx y hy=>M.la x hx y (List.mem_of_mem_take hy)⟩,fun x hx y hy=>?_,fun x hx y hy=>?_⟩
 . rw [zfd]
   refine (M.perm.append_right _).trans ?_
   rw [List.append_assoc,List.append_assoc]
   exact List.perm_append_comm.append_left _
 . rcases List.mem_append.mp hx with z | z
   . exact M.la x z y (by rw [dd];exact List.mem_append_right _ hy)
   . exact pw.2.2 x z y hy
 . rcases List.mem_append.mp hx with z | z
   . exact M.lb x z y hy
   . exact h x z y hy
theorem MR.swap (M:MR R A B out ia ib):MR R B A out ib ia:=⟨M.perm.trans List.perm_append_comm,M.asc,M.lb,M.la⟩
theorem MR.appB (M:MR R A B out ia ib) (hB:AscR R B) (h:∀x∈(B.drop ib).take k,∀y∈A.drop ia,R x y):MR R A B (out++(B.drop ib).take k) ia (ib+k):=(M.swap.appA hB h).swap
theorem MR.fin (M:MR R A B out ia ib) (hA:AscR R A) (h:∀x∈A.drop ia,∀y∈B.drop ib,R x y) (hB:AscR R B):(out++A.drop ia++B.drop ib).Perm (A++B)/\AscR R (out++A.drop ia++B.drop ib):=by
 have m1:=M.appA (k:=A.length) hA (fun x hx=>h x (List.mem_of_mem_take hx))
 have e1:(A.drop ia).take A.length=A.drop ia:=List.take_of_length_le (by rw [List.length_drop];omega)
 rw [e1] at m1
 have d1:A.drop (ia+A.length)=[]:=List.drop_eq_nil_of_le (by omega)
 have m2:=m1.appB (k:=B.length) hB (fun x _ y hy=>by rw [d1] at hy;cases hy)
 have e2:(B.drop ib).take B.length=B.drop ib:=List.take_of_length_le (by rw [List.length_drop];omega)
 rw [e2] at m2
 refine ⟨m2.perm.trans ?_,m2.asc⟩
 rw [List.take_of_length_le (by omega),List.take_of_length_le (by omega)]
variable {rk:Keyed->Nat}
abbrev Asc (rk:Keyed->Nat) (l:List Keyed):Prop:=AscR (fun x y=>rk x<=rk y) l
abbrev MI (rk:Keyed->Nat) (A B out:List Keyed) (ia ib:Nat):Prop:=MR (fun x y=>rk x<=rk y) A B out ia ib
variable {a b:Array Keyed} {outA:Array Keyed}
theorem z29 (h:Asc rk a.toList) {i j:Nat} (hij:i<=j) (hj:j<a.size):tk rk a i<=tk rk a j:=by
 rw [z1o (by omega),z1o hj]
 rcases Nat.lt_or_ge i j with z | z
 . have:=List.pairwise_iff_getElem.mp h i j (by simpa using (by omega:i<a.size)) (by simpa using hj) z
   simpa using this
 . obtain rfl:i=j:=by omega
   exact Nat.le_refl _
theorem zfe {r n:Nat} (h:∀j,n<=j->j<a.size->r<=tk rk a j):∀y∈a.toList.drop n,r<=rk y:=fun y hy=>by
 obtain ⟨i,hi,e⟩:=List.mem_iff_getElem.mp hy
 rw [List.getElem_drop] at e
 have hi':n+i<a.size:=by simp at hi;omega
 have:=h (n+i) (by omega) hi'
 rw [z1o hi'] at this
 rw [<-e]
 simpa using this
theorem zff {r n k:Nat} (h:∀i,i<k->n+i<a.size->tk rk a (n+i)<=r):∀y∈(a.toList.drop n).take k,rk y<=r:=fun y hy=>by
 obtain ⟨i,hi,e⟩:=List.mem_iff_getElem.mp hy
 rw [List.getElem_take,List.getElem_drop] at e
 simp only [List.length_take,List.length_drop,Array.length_toList] at hi
 have hi':n+i<a.size:=by omega
 have:=h i (by omega) hi'
 rw [z1o hi'] at this
 rw [<-e]
 simpa using this
abbrev MA (rk:Keyed->Nat) (a b out:Array Keyed) (ia ib:Nat):Prop:=MI rk a.toList b.toList out.toList ia ib
theorem zll (n k:Nat):(a.extract n (n+k)).toList=(a.toList.drop n).take k:=by
 rw [Array.toList_extract,List.extract_eq_take_drop,Nat.add_sub_cancel_left]
theorem z7r (n:Nat):(a.extract n a.size).toList=a.toList.drop n:=by
 rw [Array.toList_extract,List.extract_eq_take_drop]
 refine List.take_of_length_le ?_
 simp
theorem zqi {n:Nat} (h:n<a.size):(a.toList.drop n).take 1=[a[n]]:=by
 rw [List.drop_eq_getElem_cons (by simpa using h)]
 simp
theorem MI.extA (M:MA rk a b outA ia ib) (hA:Asc rk a.toList) {r:Nat} (h1:∀i,i<k->ia+i<a.size->tk rk a (ia+i)<=r) (h2:∀j,ib<=j->j<b.size->r<=tk rk b j):MA rk a b (outA++a.extract ia (ia+k)) (ia+k) ib:=by
 show MI rk a.toList b.toList (outA++a.extract ia (ia+k)).toList (ia+k) ib
 rw [Array.toList_append,zll]
 exact MR.appA M hA fun x hx y hy=>Nat.le_trans (zff h1 x hx) (zfe h2 y hy)
theorem MI.pushA (M:MA rk a b outA ia ib) (hA:Asc rk a.toList) (hi:ia<a.size) (h2:∀j,ib<=j->j<b.size->tk rk a ia<=tk rk b j):MA rk a b (outA.push a[ia]) (ia+1) ib:=by
 have m:=M.extA (k:=1) (r:=tk rk a ia) hA (fun i z _=>by rw [show i=0 by omega];exact Nat.le_refl _) h2
 show MI rk a.toList b.toList (outA.push a[ia]).toList (ia+1) ib
 rw [Array.toList_push,<-zqi hi,<-zll,<-Array.toList_append]
 exact m
theorem MI.swapA (M:MA rk a b outA ia ib):MA rk b a outA ib ia:=MR.swap M
theorem MI.done (M:MA rk a b outA ia ib) (hA:Asc rk a.toList) (hB:Asc rk b.toList) (h:a.size<=ia\/b.size<=ib) :
  (outA++a.extract ia a.size++b.extract ib b.size).toList.Perm (a.toList++b.toList)/\Asc rk (outA++a.extract ia a.size++b.extract ib b.size).toList:=by
 rw [Array.toList_append,Array.toList_append,z7r,z7r]
 refine MR.fin M hA (fun x hx y hy=>?_) hB
 rcases h with z | z
 . rw [List.drop_eq_nil_of_le (by simpa using z)] at hx;cases hx
 . rw [List.drop_eq_nil_of_le (by simpa using z)] at hy;cases hy
theorem MI.last (M:MA rk a b outA ia ib) (hA:Asc rk a.toList) (hB:Asc rk b.toList) (h:∀x∈b.toList.drop ib,∀y∈a.toList.drop ia,rk x<=rk y) :
  (outA++b.extract ib b.size++a.extract ia a.size).toList.Perm (a.toList++b.toList)/\Asc rk (outA++b.extract ib b.size++a.extract ia a.size).toList:=by
 rw [Array.toList_append,Array.toList_append,z7r,z7r]
 have:=MR.fin M.swap hB h hA
 exact ⟨this.1.trans List.perm_append_comm,this.2⟩
end
section
variable {prog:Program} {w:World} {A:Around} {E:Value->Shared->Prop} {s:Shared} {κ:SortKind} {a₀:Array Keyed} {rk:Keyed->Nat}
noncomputable def mlo:Array Keyed->Array Keyed->StateT SortSt Sem (Array Keyed):=sortPriv% PySem.Builtin.mergeLo
structure GS (st u:SortSt):Prop where
 kind:kindOf u=kindOf st
 arr:arrOf u=arrOf st
 pend:pendingOf u=pendingOf st
 ok:failedOf u=failedOf st
theorem GS.refl (st:SortSt):GS st st:=⟨rfl,rfl,rfl,rfl⟩
theorem GS.g {st u:SortSt} (h:GS st u) (n:Nat):GS st (SortSt.mk' (kindOf u) (arrOf u) (pendingOf u) n (failedOf u)):=⟨h.kind,h.arr,h.pend,h.ok⟩
theorem zwd (hc:z4g prog w A E s κ a₀ rk) {st:SortSt} (hk:kindOf st=κ) {a b:Array Keyed} (ain:∀x∈a,x∈a₀) (bin:∀x∈b,x∈a₀) (hA:Asc rk a.toList) (hB:Asc rk b.toList) (na:0<a.size) (nb:0<b.size)
  (first:∀j,j<a.size->tk rk b 0<=tk rk a j) (last:∀j,j<b.size->tk rk b j<=tk rk a (a.size - 1)) {Q:Array Keyed->SortSt->Prop}
  (h:∀out u,GS st u->out.toList.Perm (a.toList++b.toList)/\Asc rk out.toList->Q out u):wpS (model prog w) A E s (mlo a b) Q st:=by
 have M0:MA rk a b #[b[0]] 0 1:=(MI.pushA (outA:=#[]) (ia:=0) (ib:=0) (show MA rk b a #[] 0 0 from ⟨.refl _,.nil,fun x hx=>absurd hx List.not_mem_nil,fun x hx=>absurd hx List.not_mem_nil⟩) hB nb fun j _ hj=>first j hj).swapA
 have lastA:∀{out:Array Keyed} {ia ib:Nat},MA rk a b out ia ib->ia+1=a.size->(out++b.extract ib b.size++a.extract ia a.size).toList.Perm (a.toList++b.toList)/\Asc rk (out++b.extract ib b.size++a.extract ia a.size).toList:=fun {out ia ib} M e=>by
  refine M.last hA hB fun x hx y hy=>?_
  refine zfe (fun j h1 h2=>?_) y hy
  obtain ⟨i,hi,ex⟩:=List.mem_iff_getElem.mp (List.mem_of_mem_drop hx)
  have hi':i<b.size:=by simpa using hi
  have:=last i hi'
  rw [z1o hi'] at this
  rw [show j=a.size - 1 by omega,<-ex]
  simpa using this
 unfold mlo
 refine wpS_bind (z6p ?_)
 dsimp only
 refine wpS_bind (z0t nb ?_)
 by_cases e1:1=b.size
 . rw [if_pos (by simp [<-e1])]
   exact wpS_pure (h _ st (.refl _) (M0.done hA hB (.inr (by omega))))
 rw [if_neg (by simpa using e1)]
 by_cases e2:0+1=a.size
 . rw [if_pos (by simp [<-e2])]
   exact wpS_pure (h _ st (.refl _) (lastA M0 e2))
 rw [if_neg (by simpa using e2)]
 refine wpS_bind (wpS_get ?_)
 refine wpS_bind (wpS_mono (wpS_forRange (I:=fun x c u=>GS st u/\∃out ia ib g,c=(none,out,ia,ib,g)/\MA rk a b out ia ib/\ia+1<a.size/\ib<b.size/\x+1<=ia+ib)
  (Q:=fun c u=>GS st u/\∃r t,c=(some r,t)/\r.toList.Perm (a.toList++b.toList)/\Asc rk r.toList) ?step ?fin ⟨.refl _,_,0,1,_,rfl,M0,by omega,by omega,by omega⟩) ?post)
 case fin=>
  rintro c u ⟨_,out,ia,ib,g,rfl,_,h1,h2,h3⟩
  simp only [Nat.zero_max] at h3
  omega
 case post=>
  rintro c u ⟨G,r,t,rfl,f⟩
  exact wpS_pure (h r u G f)
 case step=>
  rintro x c u _ _ ⟨G,out,ia,ib,g,rfl,M,h1,h2,h3⟩
  dsimp only
  refine wpS_bind (wpS_mono (wpS_forRange (I:=fun y c v=>v=u/\∃out ia ib ac bc,c=(none,out,ia,ib,ac,bc)/\MA rk a b out ia ib/\ia+1<a.size/\ib<b.size/\x+1+y<=ia+ib)
   (Q:=fun c v=>v=u/\((∃r t,c=(some r,t)/\r.toList.Perm (a.toList++b.toList)/\Asc rk r.toList)\/∃out ia ib ac bc,c=(none,out,ia,ib,ac,bc)/\MA rk a b out ia ib/\ia+1<a.size/\ib<b.size/\x+2<=ia+ib))
   ?walk ?wfin ⟨rfl,out,ia,ib,0,0,rfl,M,h1,h2,by omega⟩) ?wpost)
  case wfin=>
   rintro c v ⟨rfl,out,ia,ib,ac,bc,rfl,M,h1,h2,h3⟩
   simp only [Nat.zero_max] at h3
   exact ⟨rfl,.inr ⟨out,ia,ib,ac,bc,rfl,M,h1,h2,by omega⟩⟩
  case walk=>
   rintro y c v _ _ ⟨rfl,out,ia,ib,ac,bc,rfl,M,h1,h2,h3⟩
   dsimp only
   refine wpS_bind (z0t h2 (wpS_bind (z0t (show ia<a.size by omega) (wpS_bind (hc _ _ (bin _ (Array.getElem_mem _)) (ain _ (Array.getElem_mem _)) _ _ (G.kind.trans hk) ?_)))))
   rw [<-z1o (rk:=rk),<-z1o (rk:=rk)]
   by_cases l:tk rk b ib<tk rk a ia
   . simp only [l,decide_true,if_true]
     have M':=(MI.pushA M.swapA hB h2 fun j z1 z2=>Nat.le_trans (Nat.le_of_lt l) (z29 hA z1 z2)).swapA
     refine wpS_bind (z0t h2 ?_)
     by_cases f1:ib+1=b.size
     . rw [if_pos (by simpa using f1)]
       exact wpS_pure ⟨rfl,.inl ⟨_,_,rfl,M'.done hA hB (.inr (by omega))⟩⟩
     rw [if_neg (by simpa using f1)]
     by_cases f2:bc+1 ≥ g
     . rw [if_pos f2]
       exact wpS_pure ⟨rfl,.inr ⟨_,_,_,_,_,rfl,M',h1,by omega,by omega⟩⟩
     . rw [if_neg f2]
       exact wpS_pure ⟨rfl,_,_,_,_,_,rfl,M',h1,by omega,by omega⟩
   . simp only [l,decide_false,Bool.false_eq_true,if_false]
     have M':=MI.pushA M hA (by omega) fun j z1 z2=>Nat.le_trans (Nat.not_lt.mp l) (z29 hB z1 z2)
     refine wpS_bind (z0t (show ia<a.size by omega) ?_)
     by_cases f1:ia+1+1=a.size
     . rw [if_pos (by simpa using f1)]
       exact wpS_pure ⟨rfl,.inl ⟨_,_,rfl,lastA M' f1⟩⟩
     rw [if_neg (by simpa using f1)]
     by_cases f2:ac+1 ≥ g
     . rw [if_pos f2]
       exact wpS_pure ⟨rfl,.inr ⟨_,_,_,_,_,rfl,M',by omega,h2,by omega⟩⟩
     . rw [if_neg f2]
       exact wpS_pure ⟨rfl,_,_,_,_,_,rfl,M',by omega,h2,by omega⟩
  case wpost=>
   rintro c v ⟨rfl,⟨r,t,rfl,f⟩ | ⟨out,ia,ib,ac,bc,rfl,M,h1,h2,h3⟩⟩
   . exact wpS_pure ⟨G,r,_,rfl,f⟩
   dsimp only
   refine wpS_bind (z6p ?_)
   refine wpS_bind (wpS_mono (wpS_forRange (I:=fun _ c v=>GS st v/\∃out ia ib mg ac bc,c=(none,out,ia,ib,mg,ac,bc)/\MA rk a b out ia ib/\ia+1<a.size/\ib<b.size/\x+2<=ia+ib)
    (Q:=fun c v=>GS st v/\((∃r t,c=(some r,t)/\r.toList.Perm (a.toList++b.toList)/\Asc rk r.toList)\/∃out ia ib mg ac bc,c=(none,out,ia,ib,mg,ac,bc)/\MA rk a b out ia ib/\ia+1<a.size/\ib<b.size/\x+2<=ia+ib))
    ?jump (fun c v hI=>⟨hI.1,.inr hI.2⟩) ⟨G,out,ia,ib,_,ac,bc,rfl,M,h1,h2,h3⟩) ?jpost)
   case jpost=>
    rintro c v2 ⟨G2,⟨r,t,rfl,f⟩ | ⟨out,ia,ib,mg,ac,bc,rfl,M,h1,h2,h3⟩⟩
    . exact wpS_pure ⟨G2,r,_,rfl,f⟩
    . dsimp only
      exact wpS_bind (wpS_modify (wpS_pure ⟨G2.g _,out,ia,ib,_,rfl,M,h1,h2,by omega⟩))
   case jump=>
    clear M h1 h2 h3 out ia ib ac bc
    rintro y c v2 _ _ ⟨G2,out,ia,ib,mg,ac,bc,rfl,M,h1,h2,h3⟩
    dsimp only
    rcases Nat.lt_or_ge 1 mg with hm | hm
    case' inl=>rw [if_pos hm]
    case' inr=>rw [if_neg (by omega)]
    all_goals
     refine wpS_bind (wpS_modify ?_)
     refine wpS_bind (z0t h2 ?_)
     refine wpS_bind (zcc hc (by exact G2.kind.trans hk) (bin _ (Array.getElem_mem _)) ain (by omega) (by omega) (fun i j z1 z2 z3=>?_) fun k hkn lt gt=>?_)
     . unfold bey at z3 ⊢
       rw [if_neg Bool.false_ne_true] at z3 ⊢
       have:=z29 hA (show ia+i<=ia+j by omega) (by omega)
       simp only [Bool.not_eq_true',decide_eq_false_iff_not] at z3 ⊢
       omega
     dsimp only
     have cb:ia+k<a.size->tk rk b ib<=tk rk a (ia+k):=fun z=>by
      have:=gt k (Nat.le_refl _) (by omega)
      unfold bey at this
      rw [if_neg Bool.false_ne_true,<-z1o (rk:=rk)] at this
      simp only [Bool.not_eq_false',decide_eq_true_eq] at this
      omega
     have ca:∀i,i<k->ia+i<a.size->tk rk a (ia+i)<=tk rk b ib:=fun i z _=>by
      have:=lt i z
      unfold bey at this
      rw [if_neg Bool.false_ne_true,<-z1o (rk:=rk)] at this
      simp only [Bool.not_eq_true',decide_eq_false_iff_not] at this
      omega
     have M1:=MI.extA (k:=k) M hA ca fun j z1 z2=>z29 hB z1 z2
     rcases Nat.lt_or_ge 0 k with hk0 | hk0
     case' inl=>
      rw [if_pos hk0]
      by_cases f1:ia+k+1=a.size
      . rw [if_pos (by simpa using f1)]
        exact wpS_pure ⟨G2.g _,.inl ⟨_,_,rfl,lastA M1 f1⟩⟩
      rw [if_neg (by simpa using f1)]
      by_cases f2:ia+k=a.size
      . rw [if_pos (by simpa using f2)]
        exact wpS_pure ⟨G2.g _,.inl ⟨_,_,rfl,M1.done hA hB (.inl (by omega))⟩⟩
      rw [if_neg (by simpa using f2)]
      obtain ⟨out1,ia1,eo,ei,M2,b1,c1,p1⟩:∃out1 ia1,out1=out++a.extract ia (ia+k)/\ia1=ia+k/\MA rk a b out1 ia1 ib/\ia1+1<a.size/\tk rk b ib<=tk rk a ia1/\x+2<=ia1+ib:=⟨_,_,rfl,rfl,M1,by omega,cb (by omega),by omega⟩
      rw [<-eo,<-ei]
      clear eo ei
     case' inr=>
      rw [if_neg (by omega)]
      obtain ⟨out1,ia1,rfl,rfl,M2,b1,c1,p1⟩:∃out1 ia1,out1=out/\ia1=ia/\MA rk a b out1 ia1 ib/\ia1+1<a.size/\tk rk b ib<=tk rk a ia1/\x+2<=ia1+ib:=
       ⟨_,_,rfl,rfl,M,h1,by have:=cb (by omega);rwa [show ia+k=ia by omega] at this,h3⟩
     all_goals
      clear M1 ca cb lt gt
      refine wpS_bind (z0t h2 ?_)
      have M3:=(MI.pushA M2.swapA hB h2 fun j z1 z2=>Nat.le_trans c1 (z29 hA z1 z2)).swapA
      by_cases f3:ib+1=b.size
      . rw [if_pos (by simpa using f3)]
        exact wpS_pure ⟨G2.g _,.inl ⟨_,_,rfl,M3.done hA hB (.inr (by omega))⟩⟩
      rw [if_neg (by simpa using f3)]
      have hi1:ia1<a.size:=by omega
      refine wpS_bind (z0t hi1 ?_)
      refine wpS_bind (zcc hc (by exact G2.kind.trans hk) (ain _ (Array.getElem_mem _)) bin (by omega) (by omega) (fun i j z1 z2 z3=>?_) fun k2 hkn lt gt=>?_)
      . unfold bey at z3 ⊢
        rw [if_pos rfl] at z3 ⊢
        have:=z29 hB (show ib+1+i<=ib+1+j by omega) (by omega)
        simp only [decide_eq_true_eq] at z3 ⊢
        omega
      dsimp only
      have cb:ib+1+k2<b.size->tk rk a ia1<=tk rk b (ib+1+k2):=fun z=>by
       have:=gt k2 (Nat.le_refl _) (by omega)
       unfold bey at this
       rw [if_pos rfl,<-z1o (rk:=rk)] at this
       simp only [decide_eq_false_iff_not] at this
       omega
      have ca:∀i,i<k2->ib+1+i<b.size->tk rk b (ib+1+i)<=tk rk a ia1:=fun i z _=>by
       have:=lt i z
       unfold bey at this
       rw [if_pos rfl,<-z1o (rk:=rk)] at this
       simp only [decide_eq_true_eq] at this
       omega
      have M4:=(MI.extA (k:=k2) M3.swapA hB ca fun j z1 z2=>z29 hA z1 z2).swapA
      generalize out1.push b[ib]=out2 at *
      rcases Nat.lt_or_ge 0 k2 with hk1 | hk1
      case' inl=>
       rw [if_pos hk1]
       by_cases f4:ib+1+k2=b.size
       . rw [if_pos (by simpa using f4)]
         exact wpS_pure ⟨G2.g _,.inl ⟨_,_,rfl,M4.done hA hB (.inr (by omega))⟩⟩
       rw [if_neg (by simpa using f4)]
       obtain ⟨out3,ib1,eo,ei,M5,b2,c2,p2⟩:∃out3 ib1,out3=out2++b.extract (ib+1) (ib+1+k2)/\ib1=ib+1+k2/\MA rk a b out3 ia1 ib1/\ib1<b.size/\tk rk a ia1<=tk rk b ib1/\x+2<=ia1+ib1:=⟨_,_,rfl,rfl,M4,by omega,cb (by omega),by omega⟩
       rw [<-eo,<-ei]
       clear eo ei
      case' inr=>
       rw [if_neg (by omega)]
       obtain ⟨out3,ib1,rfl,ei,M5,b2,c2,p2⟩:∃out3 ib1,out3=out2/\ib1=ib+1/\MA rk a b out3 ia1 ib1/\ib1<b.size/\tk rk a ia1<=tk rk b ib1/\x+2<=ia1+ib1:=
        ⟨_,_,rfl,rfl,M3,by omega,by have:=cb (by omega);rwa [show ib+1+k2=ib+1 by omega] at this,by omega⟩
       rw [<-ei]
       clear ei
      all_goals
       clear M4 M3 ca cb lt gt
       refine wpS_bind (z0t hi1 ?_)
       have M6:=MI.pushA M5 hA hi1 fun j z1 z2=>Nat.le_trans c2 (z29 hB z1 z2)
       by_cases f5:ia1+1+1=a.size
       . rw [if_pos (by simpa using f5)]
         exact wpS_pure ⟨G2.g _,.inl ⟨_,_,rfl,lastA M6 f5⟩⟩
       rw [if_neg (by simpa using f5)]
       split
       . exact wpS_pure ⟨G2.g _,.inr ⟨_,_,_,_,_,_,rfl,M6,by omega,b2,by omega⟩⟩
       . exact wpS_pure ⟨G2.g _,_,_,_,_,_,_,rfl,M6,by omega,b2,by omega⟩
end
section
variable {rk:Keyed->Nat} {a b outA:Array Keyed} {na nb:Nat}
abbrev MH (rk:Keyed->Nat) (a b out:Array Keyed) (na nb:Nat):Prop:=MR (fun x y=>rk y<=rk x) a.toList.reverse b.toList.reverse out.toList (a.size - na) (b.size - nb)
theorem z9y (h:Asc rk a.toList):AscR (fun x y=>rk y<=rk x) a.toList.reverse:=List.pairwise_reverse.mpr h
theorem z3c (h:na<=a.size):a.toList.reverse.drop (a.size - na)=(a.toList.take na).reverse:=by
 rw [List.drop_reverse,Array.length_toList,show a.size - (a.size - na)=na by omega]
theorem zfg {r:Nat} (h:∀j,j<na->j<a.size->tk rk a j<=r):∀y∈a.toList.take na,rk y<=r:=by
 have:=zff (rk:=rk) (a:=a) (n:=0) (k:=na) (r:=r) (fun i z1 z2=>by rw [Nat.zero_add];exact h i z1 (by omega))
 rwa [List.drop_zero] at this
theorem MR.extH (M:MH rk a b outA na nb) (hA:Asc rk a.toList) {p r:Nat} (hp:p<=na) (hn:na<=a.size) (hb:nb<=b.size) (h1:∀i,p<=i->i<na->r<=tk rk a i) (h2:∀j,j<nb->tk rk b j<=r):MH rk a b (outA++(a.extract p na).reverse) p nb:=by
 have e:((a.extract p na).reverse).toList=(a.toList.reverse.drop (a.size - na)).take (na - p):=by
  rw [z3c hn,Array.toList_reverse,Array.toList_extract,List.extract_eq_take_drop,List.take_reverse,List.length_take,Array.length_toList,List.drop_take]
  rw [show min na a.size - (na - p)=p by omega]
 show MR _ _ _ (outA++(a.extract p na).reverse).toList (a.size - p) (b.size - nb)
 rw [Array.toList_append,e,show a.size - p=a.size - na+(na - p) by omega]
 refine MR.appA M (z9y hA) fun x hx y hy=>?_
 rw [<-e,Array.toList_reverse,List.mem_reverse,Array.toList_extract,List.extract_eq_take_drop] at hx
 rw [z3c hb,List.mem_reverse] at hy
 refine Nat.le_trans (zfg (fun j z _=>h2 j z) y hy) ?_
 obtain ⟨i,hi,ex⟩:=List.mem_iff_getElem.mp hx
 rw [List.getElem_take,List.getElem_drop] at ex
 simp only [List.length_take,List.length_drop,Array.length_toList] at hi
 have:=h1 (p+i) (by omega) (by omega)
 rw [z1o (show p+i<a.size by omega)] at this
 rw [<-ex]
 simpa using this
theorem MR.pushH (M:MH rk a b outA na nb) (hA:Asc rk a.toList) (h0:0<na) (hn:na<=a.size) (hb:nb<=b.size) (h2:∀j,j<nb->tk rk b j<=tk rk a (na - 1)):MH rk a b (outA.push a[na - 1]) (na - 1) nb:=by
 have m:=MR.extH M hA (p:=na - 1) (r:=tk rk a (na - 1)) (by omega) hn hb (fun i z1 z2=>by rw [show i=na - 1 by omega];exact Nat.le_refl _) h2
 have e:(a.extract (na - 1) na).reverse.toList=[a[na - 1]]:=by
  rw [Array.toList_reverse,show a.extract (na - 1) na=a.extract (na - 1) (na - 1+1) by rw [Nat.sub_add_cancel h0],zll,zqi (by omega)]
  rfl
 show MR _ _ _ (outA.push a[na - 1]).toList _ _
 rw [Array.toList_push,<-e,<-Array.toList_append]
 exact m
theorem MR.finH (M:MH rk a b outA na nb) (hA:Asc rk a.toList) (hB:Asc rk b.toList) (hn:na<=a.size) (hb:nb<=b.size) (h:∀x∈b.toList.take nb,∀y∈a.toList.take na,rk y<=rk x) :
  (a.extract 0 na++b.extract 0 nb++outA.reverse).toList.Perm (a.toList++b.toList)/\Asc rk (a.extract 0 na++b.extract 0 nb++outA.reverse).toList:=by
 have f:=MR.fin M.swap (z9y hB) (fun x hx y hy=>?_) (z9y hA)
 . rw [z3c hn,z3c hb] at f
   have e:(a.extract 0 na++b.extract 0 nb++outA.reverse).toList=(outA.toList++(b.toList.take nb).reverse++(a.toList.take na).reverse).reverse:=by
    have ea:∀(c:Array Keyed) (k:Nat),(c.extract 0 k).toList=c.toList.take k:=fun c k=>by
     rw [Array.toList_extract,List.extract_eq_take_drop,List.drop_zero,Nat.sub_zero]
    rw [Array.toList_append,Array.toList_append,ea,ea,Array.toList_reverse]
    simp
   rw [e]
   refine ⟨(List.reverse_perm _).trans (f.1.trans ?_),List.pairwise_reverse.mpr f.2⟩
   exact ((List.reverse_perm _).append (List.reverse_perm _)).trans List.perm_append_comm
 . rw [z3c hb,List.mem_reverse] at hx
   rw [z3c hn,List.mem_reverse] at hy
   exact h x hx y hy
end
section
variable {prog:Program} {w:World} {A:Around} {E:Value->Shared->Prop} {s:Shared} {κ:SortKind} {a₀:Array Keyed} {rk:Keyed->Nat}
noncomputable def mhi:Array Keyed->Array Keyed->StateT SortSt Sem (Array Keyed):=sortPriv% PySem.Builtin.mergeHi
theorem zwe (hc:z4g prog w A E s κ a₀ rk) {st:SortSt} (hk:kindOf st=κ) {a b:Array Keyed} (ain:∀x∈a,x∈a₀) (bin:∀x∈b,x∈a₀) (hA:Asc rk a.toList) (hB:Asc rk b.toList) (na0:0<a.size) (nb0:0<b.size)
  (first:∀j,j<a.size->tk rk b 0<=tk rk a j) (last:∀j,j<b.size->tk rk b j<=tk rk a (a.size - 1)) {Q:Array Keyed->SortSt->Prop}
  (h:∀out u,GS st u->out.toList.Perm (a.toList++b.toList)/\Asc rk out.toList->Q out u):wpS (model prog w) A E s (mhi a b) Q st:=by
 have M0:MH rk a b #[a[a.size - 1]] (a.size - 1) b.size:=MR.pushH (outA:=#[]) (na:=a.size) (nb:=b.size)
  (show MH rk a b #[] a.size b.size from ⟨by simp,.nil,fun x hx=>absurd hx List.not_mem_nil,fun x hx=>absurd hx List.not_mem_nil⟩) hA na0 (Nat.le_refl _) (Nat.le_refl _) last
 have dn:∀{out:Array Keyed} {na nb:Nat},MH rk a b out na nb->na<=a.size->nb<=b.size->(na=0\/nb=0)->(a.extract 0 na++b.extract 0 nb++out.reverse).toList.Perm (a.toList++b.toList)/\Asc rk (a.extract 0 na++b.extract 0 nb++out.reverse).toList:=fun {out na nb} M h1 h2 e=>by
  refine MR.finH M hA hB h1 h2 fun x hx y hy=>?_
  rcases e with rfl | rfl
  . rw [List.take_zero] at hy;cases hy
  . rw [List.take_zero] at hx;cases hx
 have fb:∀{out:Array Keyed} {na nb:Nat},MH rk a b out na nb->na<=a.size->nb<=b.size->nb=1->(b.extract 0 nb++a.extract 0 na++out.reverse).toList.Perm (a.toList++b.toList)/\Asc rk (b.extract 0 nb++a.extract 0 na++out.reverse).toList:=fun {out na nb} M h1 h2 e=>by
  have f:=MR.finH (a:=b) (b:=a) M.swap hB hA h2 h1 fun x hx y hy=>?_
  . exact ⟨f.1.trans List.perm_append_comm,f.2⟩
  . obtain ⟨i,hi,ex⟩:=List.mem_iff_getElem.mp (List.mem_of_mem_take hx)
    have hi':i<a.size:=by simpa using hi
    have q:=first i hi'
    rw [z1o hi'] at q
    rw [<-ex]
    refine Nat.le_trans (zfg (r:=tk rk b 0) (fun j z1 z2=>by rw [show j=0 by omega];exact Nat.le_refl _) y hy) (by simpa using q)
 unfold mhi
 refine wpS_bind (z6p ?_)
 dsimp only
 refine wpS_bind (z0t (show a.size - 1<a.size by omega) ?_)
 by_cases e1:a.size - 1=0
 . rw [if_pos (by simpa using e1)]
   exact wpS_pure (h _ st (.refl _) (dn M0 (by omega) (Nat.le_refl _) (.inl e1)))
 rw [if_neg (by simpa using e1)]
 by_cases e2:b.size=1
 . rw [if_pos (by simpa using e2)]
   exact wpS_pure (h _ st (.refl _) (fb M0 (by omega) (Nat.le_refl _) e2))
 rw [if_neg (by simpa using e2)]
 refine wpS_bind (wpS_get ?_)
 refine wpS_bind (wpS_mono (wpS_forRange (I:=fun x c u=>GS st u/\∃na nb out g,c=(none,na,nb,out,g)/\MH rk a b out na nb/\(0<na/\na<=a.size)/\(1<nb/\nb<=b.size)/\na+nb+x+1<=a.size+b.size)
  (Q:=fun c u=>GS st u/\∃r t,c=(some r,t)/\r.toList.Perm (a.toList++b.toList)/\Asc rk r.toList) ?step ?fin ⟨.refl _,_,_,_,_,rfl,M0,by omega,by omega,by omega⟩) ?post)
 case fin=>
  rintro c u ⟨_,na,nb,out,g,rfl,_,h1,h2,h3⟩
  simp only [Nat.zero_max] at h3
  omega
 case post=>
  rintro c u ⟨G,r,t,rfl,f⟩
  exact wpS_pure (h r u G f)
 case step=>
  rintro x c u _ _ ⟨G,na,nb,out,g,rfl,M,h1,h2,h3⟩
  dsimp only
  refine wpS_bind (wpS_mono (wpS_forRange (I:=fun y c v=>v=u/\∃na nb out ac bc,c=(none,na,nb,out,ac,bc)/\MH rk a b out na nb/\(0<na/\na<=a.size)/\(1<nb/\nb<=b.size)/\na+nb+x+1+y<=a.size+b.size)
   (Q:=fun c v=>v=u/\((∃r t,c=(some r,t)/\r.toList.Perm (a.toList++b.toList)/\Asc rk r.toList)\/∃na nb out ac bc,c=(none,na,nb,out,ac,bc)/\MH rk a b out na nb/\(0<na/\na<=a.size)/\(1<nb/\nb<=b.size)/\na+nb+x+2<=a.size+b.size))
   ?walk ?wfin ⟨rfl,na,nb,out,0,0,rfl,M,h1,h2,by omega⟩) ?wpost)
  case wfin=>
   rintro c v ⟨rfl,na,nb,out,ac,bc,rfl,M,h1,h2,h3⟩
   simp only [Nat.zero_max] at h3
   exact ⟨rfl,.inr ⟨na,nb,out,ac,bc,rfl,M,h1,h2,by omega⟩⟩
  case walk=>
   rintro y c v _ _ ⟨rfl,na,nb,out,ac,bc,rfl,M,h1,h2,h3⟩
   dsimp only
   refine wpS_bind (z0t (show nb - 1<b.size by omega) (wpS_bind (z0t (show na - 1<a.size by omega) (wpS_bind (hc _ _ (bin _ (Array.getElem_mem _)) (ain _ (Array.getElem_mem _)) _ _ (G.kind.trans hk) ?_)))))
   rw [<-z1o (rk:=rk),<-z1o (rk:=rk)]
   by_cases l:tk rk b (nb - 1)<tk rk a (na - 1)
   . simp only [l,decide_true,if_true]
     have M':=MR.pushH M hA h1.1 h1.2 h2.2 fun j z=>Nat.le_trans (z29 hB (show j<=nb - 1 by omega) (by omega)) (Nat.le_of_lt l)
     refine wpS_bind (z0t (show na - 1<a.size by omega) ?_)
     by_cases f1:na - 1=0
     . rw [if_pos (by simpa using f1)]
       exact wpS_pure ⟨rfl,.inl ⟨_,_,rfl,dn M' (by omega) h2.2 (.inl f1)⟩⟩
     rw [if_neg (by simpa using f1)]
     by_cases f2:ac+1 ≥ g
     . rw [if_pos f2]
       exact wpS_pure ⟨rfl,.inr ⟨_,_,_,_,_,rfl,M',by omega,h2,by omega⟩⟩
     . rw [if_neg f2]
       exact wpS_pure ⟨rfl,_,_,_,_,_,rfl,M',by omega,h2,by omega⟩
   . simp only [l,decide_false,Bool.false_eq_true,if_false]
     have M':MH rk a b (out.push b[nb - 1]) na (nb - 1):=(MR.pushH (a:=b) (b:=a) M.swap hB (by omega) h2.2 h1.2 fun j z=>Nat.le_trans (z29 hA (show j<=na - 1 by omega) (by omega)) (Nat.not_lt.mp l)).swap
     refine wpS_bind (z0t (show nb - 1<b.size by omega) ?_)
     by_cases f1:nb - 1=1
     . rw [if_pos (by simpa using f1)]
       exact wpS_pure ⟨rfl,.inl ⟨_,_,rfl,fb M' h1.2 (by omega) f1⟩⟩
     rw [if_neg (by simpa using f1)]
     by_cases f2:bc+1 ≥ g
     . rw [if_pos f2]
       exact wpS_pure ⟨rfl,.inr ⟨_,_,_,_,_,rfl,M',h1,by omega,by omega⟩⟩
     . rw [if_neg f2]
       exact wpS_pure ⟨rfl,_,_,_,_,_,rfl,M',h1,by omega,by omega⟩
  case wpost=>
   rintro c v ⟨rfl,⟨r,t,rfl,f⟩ | ⟨na,nb,out,ac,bc,rfl,M,h1,h2,h3⟩⟩
   . exact wpS_pure ⟨G,r,_,rfl,f⟩
   dsimp only
   refine wpS_bind (z6p ?_)
   refine wpS_bind (wpS_mono (wpS_forRange (I:=fun _ c v=>GS st v/\∃na nb out mg ac bc,c=(none,na,nb,out,mg,ac,bc)/\MH rk a b out na nb/\(0<na/\na<=a.size)/\(1<nb/\nb<=b.size)/\na+nb+x+2<=a.size+b.size)
    (Q:=fun c v=>GS st v/\((∃r t,c=(some r,t)/\r.toList.Perm (a.toList++b.toList)/\Asc rk r.toList)\/∃na nb out mg ac bc,c=(none,na,nb,out,mg,ac,bc)/\MH rk a b out na nb/\(0<na/\na<=a.size)/\(1<nb/\nb<=b.size)/\na+nb+x+2<=a.size+b.size))
    ?jump (fun c v hI=>⟨hI.1,.inr hI.2⟩) ⟨G,na,nb,out,_,ac,bc,rfl,M,h1,h2,h3⟩) ?jpost)
   case jpost=>
    rintro c v2 ⟨G2,⟨r,t,rfl,f⟩ | ⟨na,nb,out,mg,ac,bc,rfl,M,h1,h2,h3⟩⟩
    . exact wpS_pure ⟨G2,r,_,rfl,f⟩
    . dsimp only
      exact wpS_bind (wpS_modify (wpS_pure ⟨G2.g _,na,nb,out,_,rfl,M,h1,h2,by omega⟩))
   case jump=>
    clear M h1 h2 h3 out na nb ac bc
    rintro y c v2 _ _ ⟨G2,na,nb,out,mg,ac,bc,rfl,M,h1,h2,h3⟩
    dsimp only
    have hb1:nb - 1<b.size:=by omega
    rcases Nat.lt_or_ge 1 mg with hm | hm
    case' inl=>rw [if_pos hm]
    case' inr=>rw [if_neg (by omega)]
    all_goals
     refine wpS_bind (wpS_modify ?_)
     refine wpS_bind (z0t hb1 ?_)
     refine wpS_bind (zcc hc (by exact G2.kind.trans hk) (bin _ (Array.getElem_mem _)) ain (by omega) (by omega) (fun i j z1 z2 z3=>?_) fun p hp lt gt=>?_)
     . unfold bey at z3 ⊢
       rw [if_neg Bool.false_ne_true] at z3 ⊢
       have:=z29 hA (show 0+i<=0+j by omega) (by omega)
       simp only [Bool.not_eq_true',decide_eq_false_iff_not] at z3 ⊢
       omega
     dsimp only
     have ca:∀i,p<=i->i<na->tk rk b (nb - 1)<=tk rk a i:=fun i z1 z2=>by
      have:=gt i z1 z2
      unfold bey at this
      rw [if_neg Bool.false_ne_true,<-z1o (rk:=rk),Nat.zero_add] at this
      simp only [Bool.not_eq_false',decide_eq_true_eq] at this
      omega
     have cb:∀i,i<p->tk rk a i<=tk rk b (nb - 1):=fun i z=>by
      have:=lt i z
      unfold bey at this
      rw [if_neg Bool.false_ne_true,<-z1o (rk:=rk),Nat.zero_add] at this
      simp only [Bool.not_eq_true',decide_eq_false_iff_not] at this
      omega
     have M1:=MR.extH M hA (p:=p) hp h1.2 h2.2 ca fun j z=>z29 hB (show j<=nb - 1 by omega) (by omega)
     rcases Nat.lt_or_ge 0 (na - p) with hk0 | hk0
     case' inl=>
      rw [if_pos hk0]
      by_cases f1:p=0
      . rw [if_pos (by simpa using f1)]
        exact wpS_pure ⟨G2.g _,.inl ⟨_,_,rfl,dn M1 (by omega) h2.2 (.inl f1)⟩⟩
      rw [if_neg (by simpa using f1)]
      obtain ⟨out1,na1,eo,ei,M2,b1,c1,p1⟩:∃out1 na1,out1=out++(a.extract p na).reverse/\na1=p/\MH rk a b out1 na1 nb/\(0<na1/\na1<=a.size)/\(∀i,i<na1->tk rk a i<=tk rk b (nb - 1))/\na1+nb+x+2<=a.size+b.size:=⟨_,_,rfl,rfl,M1,by omega,cb,by omega⟩
      rw [<-eo]
      clear eo
      generalize na - p=kk
      subst ei
     case' inr=>
      rw [if_neg (by omega)]
      obtain ⟨out1,na1,rfl,rfl,M2,b1,c1,p1⟩:∃out1 na1,out1=out/\na1=na/\MH rk a b out1 na1 nb/\(0<na1/\na1<=a.size)/\(∀i,i<na1->tk rk a i<=tk rk b (nb - 1))/\na1+nb+x+2<=a.size+b.size:=
       ⟨_,_,rfl,rfl,M,h1,fun i z=>cb i (by omega),h3⟩
      generalize na1 - p=kk
     all_goals
      clear M1 ca cb lt gt
      refine wpS_bind (z0t hb1 ?_)
      have M3:MH rk a b (out1.push b[nb - 1]) na1 (nb - 1):=(MR.pushH (a:=b) (b:=a) M2.swap hB (by omega) h2.2 b1.2 c1).swap
      generalize out1.push b[nb - 1]=out2 at *
      by_cases f3:nb - 1=1
      . rw [if_pos (by simpa using f3)]
        exact wpS_pure ⟨G2.g _,.inl ⟨_,_,rfl,fb M3 b1.2 (by omega) f3⟩⟩
      rw [if_neg (by simpa using f3)]
      have hi1:na1 - 1<a.size:=by omega
      refine wpS_bind (z0t hi1 ?_)
      refine wpS_bind (zcc hc (by exact G2.kind.trans hk) (ain _ (Array.getElem_mem _)) bin (by omega) (by omega) (fun i j z1 z2 z3=>?_) fun p2 hp2 lt gt=>?_)
      . unfold bey at z3 ⊢
        rw [if_pos rfl] at z3 ⊢
        have:=z29 hB (show 0+i<=0+j by omega) (by omega)
        simp only [decide_eq_true_eq] at z3 ⊢
        omega
      dsimp only
      have ca:∀i,p2<=i->i<nb - 1->tk rk a (na1 - 1)<=tk rk b i:=fun i z1 z2=>by
       have:=gt i z1 z2
       unfold bey at this
       rw [if_pos rfl,<-z1o (rk:=rk),Nat.zero_add] at this
       simp only [decide_eq_false_iff_not] at this
       omega
      have cb:∀i,i<p2->tk rk b i<=tk rk a (na1 - 1):=fun i z=>by
       have:=lt i z
       unfold bey at this
       rw [if_pos rfl,<-z1o (rk:=rk),Nat.zero_add] at this
       simp only [decide_eq_true_eq] at this
       omega
      have M4:MH rk a b (out2++(b.extract p2 (nb - 1)).reverse) na1 p2:=(MR.extH (a:=b) (b:=a) M3.swap hB (p:=p2) hp2 (by omega) b1.2 ca fun j z=>z29 hA (show j<=na1 - 1 by omega) (by omega)).swap
      rcases Nat.lt_or_ge 0 (nb - 1 - p2) with hk1 | hk1
      case' inl=>
       rw [if_pos hk1]
       by_cases f4:p2=1
       . rw [if_pos (by simpa using f4)]
         exact wpS_pure ⟨G2.g _,.inl ⟨_,_,rfl,fb M4 b1.2 (by omega) f4⟩⟩
       rw [if_neg (by simpa using f4)]
       by_cases f5:p2=0
       . rw [if_pos (by simpa using f5)]
         exact wpS_pure ⟨G2.g _,.inl ⟨_,_,rfl,dn M4 b1.2 (by omega) (.inr f5)⟩⟩
       rw [if_neg (by simpa using f5)]
       obtain ⟨out3,nb1,eo,ei,M5,b2,c2,p3⟩:∃out3 nb1,out3=out2++(b.extract p2 (nb - 1)).reverse/\nb1=p2/\MH rk a b out3 na1 nb1/\(1<nb1/\nb1<=b.size)/\(∀i,i<nb1->tk rk b i<=tk rk a (na1 - 1))/\na1+nb1+x+2<=a.size+b.size:=⟨_,_,rfl,rfl,M4,by omega,cb,by omega⟩
       rw [<-eo]
       clear eo
       generalize nb - 1 - p2=kk2
       subst ei
      case' inr=>
       rw [if_neg (by omega)]
       obtain ⟨out3,nb1,rfl,ei,M5,b2,c2,p3⟩:∃out3 nb1,out3=out2/\nb1=nb - 1/\MH rk a b out3 na1 nb1/\(1<nb1/\nb1<=b.size)/\(∀i,i<nb1->tk rk b i<=tk rk a (na1 - 1))/\na1+nb1+x+2<=a.size+b.size:=
        ⟨_,_,rfl,rfl,M3,by omega,fun i z=>cb i (by omega),by omega⟩
       rw [<-ei]
       generalize nb1 - p2=kk2
       clear ei
      all_goals
       clear M4 ca cb lt gt
       refine wpS_bind (z0t hi1 ?_)
       have M6:=MR.pushH M5 hA b1.1 b1.2 b2.2 c2
       by_cases f6:na1 - 1=0
       . rw [if_pos (by simpa using f6)]
         exact wpS_pure ⟨G2.g _,.inl ⟨_,_,rfl,dn M6 (by omega) b2.2 (.inl f6)⟩⟩
       rw [if_neg (by simpa using f6)]
       split
       . exact wpS_pure ⟨G2.g _,.inr ⟨_,_,_,_,_,_,rfl,M6,by omega,b2,by omega⟩⟩
       . exact wpS_pure ⟨G2.g _,_,_,_,_,_,_,rfl,M6,by omega,b2,by omega⟩
end
section
variable {rk:Keyed->Nat}
theorem zja (c:Nat):∀(m:List Keyed) (n:Nat) (ys:Array Keyed),c+n+m.length<=ys.size ->
  ((m.zipIdx n).foldl (fun a (q:Keyed×Nat)=>a.setIfInBounds (c+q.2) q.1) ys).toList=ys.toList.take (c+n)++m++ys.toList.drop (c+n+m.length)
 | [],n,ys,_=>by simp
 | p::m,n,ys,h=>by
  simp only [List.length_cons] at h
  rw [List.zipIdx_cons,List.foldl_cons,zja c m (n+1) _ (by rw [Array.size_setIfInBounds];omega),Array.toList_setIfInBounds]
  have hl:c+n<ys.toList.length:=by rw [Array.length_toList];omega
  rw [show c+(n+1)=c+n+1 by omega,List.take_set,List.drop_set_of_lt (by omega),List.take_succ_eq_append_getElem hl,List.set_append_right _ _ (by rw [List.length_take];omega)]
  rw [List.length_take,show c+n - min (c+n) ys.toList.length=0 by omega,List.set_cons_zero,List.length_cons,show c+n+1+m.length=c+n+(m.length+1) by omega]
  simp
structure Seg (xs:Array Keyed) (pre X post:List Keyed):Prop where
 eq:xs.toList=pre++X++post
variable {xs:Array Keyed} {pre X post:List Keyed}
theorem Seg.size (S:Seg xs pre X post):xs.size=pre.length+X.length+post.length:=by
 rw [<-Array.length_toList,S.eq,List.length_append,List.length_append]
theorem Seg.at (S:Seg xs pre X post) {i:Nat} (h:i<X.length):∃hh:pre.length+i<xs.size,xs[pre.length+i]=X[i]:=by
 refine ⟨by rw [S.size];omega,?_⟩
 rw [<-Array.getElem_toList]
 simp only [S.eq]
 rw [List.getElem_append_left (by rw [List.length_append];omega),List.getElem_append_right (by omega)]
 simp
theorem Seg.tk (S:Seg xs pre X post) {i:Nat} (h:i<X.length):tk rk xs (pre.length+i)=rk X[i]:=by
 obtain ⟨hh,e⟩:=S.at h
 rw [z1o hh,e]
theorem Asc.at {l:List Keyed} (h:Asc rk l) {i j:Nat} (hij:i<=j) (hj:j<l.length):rk l[i]<=rk l[j]:=by
 rcases Nat.lt_or_ge i j with z | z
 . exact List.pairwise_iff_getElem.mp h i j (by omega) hj z
 . obtain rfl:i=j:=by omega
   exact Nat.le_refl _
theorem Seg.ext (S:Seg xs pre X post) (k m:Nat) (h:k<=m) (hm:m<=X.length):(xs.extract (pre.length+k) (pre.length+m)).toList=(X.drop k).take (m - k):=by
 rw [Array.toList_extract,List.extract_eq_take_drop,S.eq,List.append_assoc,<-List.drop_drop,List.drop_left,List.drop_append_of_le_length (by omega),show pre.length+m - (pre.length+k)=m - k by omega,
  List.take_append_of_le_length (by rw [List.length_drop];omega)]
end
section
variable {prog:Program} {w:World} {A:Around} {E:Value->Shared->Prop} {s:Shared} {κ:SortKind} {a₀:Array Keyed} {rk:Keyed->Nat}
theorem zvb {a:Array Keyed} {l:List Keyed} (e:a.toList=l) {i:Nat} (h:i<l.length):tk rk a i=rk l[i]:=by
 subst e
 rw [z1o (by simpa using h)]
 simp
theorem zu6 {σ:Type} {M:Model} {v st:σ} {Q:PUnit->σ->Prop} (h:Q ⟨⟩ v):wpS M A E s (set v:StateT σ Sem PUnit) Q st:=by
 unfold wpS;rw [StateT.run_set];exact wpAny_pure ⟨rfl,h⟩
theorem zwf (hc:z4g prog w A E s κ a₀ rk) {st:SortSt} (B:TBs κ a₀ st) {L R:List (Nat×Nat×Nat)} {pw pw':Nat} {pre X Y post:List Keyed} (hP:(pendingOf st).toList=L++(pre.length,X.length,pw)::(pre.length+X.length,Y.length,pw')::R)
  (hx:(arrOf st).toList=pre++X++(Y++post)) (aX:Asc rk X) (aY:Asc rk Y) (nX:0<X.length) (nY:0<Y.length) {Q:Bool->SortSt->Prop}
  (h:∀u Z,TBs κ a₀ u->(pendingOf u).toList=L++(pre.length,X.length+Y.length,pw)::R->(arrOf u).toList=pre++Z++post->Asc rk Z->Z.length=X.length+Y.length->Q true u):wpS (model prog w) A E s (mergeAt' L.length) Q st:=by
 have S1:Seg (arrOf st) pre X (Y++post):=⟨hx⟩
 have S2:Seg (arrOf st) (pre++X) Y post:=⟨by rw [hx,<-List.append_assoc]⟩
 have l2:(pre++X).length=pre.length+X.length:=List.length_append
 have p1:(pendingOf st)[L.length]?=some (pre.length,X.length,pw):=by rw [<-Array.getElem?_toList,hP];simp
 have p2:(pendingOf st)[L.length+1]?=some (pre.length+X.length,Y.length,pw'):=by rw [<-Array.getElem?_toList,hP];simp
 have pn:(((pendingOf st).setIfInBounds L.length (pre.length,X.length+Y.length,pw)).eraseIdxIfInBounds (L.length+1)).toList=L++(pre.length,X.length+Y.length,pw)::R:=by
  rw [Array.toList_eraseIdxIfInBounds,Array.toList_setIfInBounds,hP]
  simp [List.eraseIdx_append_of_length_le]
 unfold mergeAt'
 refine wpS_bind (wpS_get ?_)
 dsimp only
 rw [p1,p2]
 dsimp only
 refine wpS_bind (zu6 ?_)
 have z0:pre.length+X.length<(arrOf st).size:=by rw [S1.size,List.length_append];omega
 refine wpS_bind (z0t z0 ?_)
 have kin:∀x∈arrOf st,x∈a₀:=fun x hx=>B.mem hx
 have hX:=S1.size
 rw [List.length_append] at hX
 have vX:∀{i:Nat} (hi:i<X.length),tk rk (arrOf st) (pre.length+i)=rk X[i]:=fun hi=>S1.tk hi
 have vY:∀{i:Nat} (hi:i<Y.length),tk rk (arrOf st) (pre.length+X.length+i)=rk Y[i]:=fun {i} hi=>by have:=S2.tk (rk:=rk) hi;rwa [l2] at this
 have ky:rk (arrOf st)[pre.length+X.length]=rk Y[0]:=by rw [<-z1o (rk:=rk) z0];exact vY nY
 refine wpS_bind (zcc hc (by exact B.kind) (kin _ (Array.getElem_mem _)) kin (by omega) nX (fun i j z1 z2 z3=>?_) fun k hkn lt gt=>?_)
 . unfold bey at z3 ⊢
   rw [if_neg Bool.false_ne_true] at z3 ⊢
   rw [vX (by omega)] at z3 ⊢
   have:=aX.at z1 z2
   simp only [Bool.not_eq_true',decide_eq_false_iff_not] at z3 ⊢
   omega
 dsimp only
 have ca:∀i (hi:i<X.length),i<k->rk X[i]<=rk Y[0]:=fun i hi z=>by
  have:=lt i z
  unfold bey at this
  rw [if_neg Bool.false_ne_true,vX hi,ky] at this
  simp only [Bool.not_eq_true',decide_eq_false_iff_not] at this
  omega
 have cb:∀i (hi:i<X.length),k<=i->rk Y[0]<rk X[i]:=fun i hi z=>by
  have:=gt i z hi
  unfold bey at this
  rw [if_neg Bool.false_ne_true,vX hi,ky] at this
  simpa using this
 have finXY:(∀i (hi:i<X.length) j (hj:j<Y.length),rk X[i]<=rk Y[j])->Asc rk (X++Y):=fun q=>by
  refine List.pairwise_append.mpr ⟨aX,aY,fun x hx y hy=>?_⟩
  obtain ⟨i,hi,rfl⟩:=List.mem_iff_getElem.mp hx
  obtain ⟨j,hj,rfl⟩:=List.mem_iff_getElem.mp hy
  exact q i hi j hj
 by_cases e1:X.length - k=0
 . rw [if_pos (by simpa using e1)]
   exact wpS_pure (h _ (X++Y) ⟨B.perm,B.kind,B.ok⟩ pn (by show (arrOf st).toList=_;rw [hx];simp) (finXY fun i hi j hj=>Nat.le_trans (ca i hi (by omega)) (aY.at (Nat.zero_le _) hj)) List.length_append)
 rw [if_neg (by simpa using e1)]
 have z1:pre.length+k+(X.length - k) - 1<(arrOf st).size:=by omega
 refine wpS_bind (z0t z1 ?_)
 have kx:rk (arrOf st)[pre.length+k+(X.length - k) - 1]=rk X[X.length - 1]:=by
  rw [<-z1o (rk:=rk) z1,show pre.length+k+(X.length - k) - 1=pre.length+(X.length - 1) by omega]
  exact vX (by omega)
 refine wpS_bind (zcc hc (by exact B.kind) (kin _ (Array.getElem_mem _)) kin (by omega) (by omega) (fun i j z1 z2 z3=>?_) fun m hm lt2 gt2=>?_)
 . unfold bey at z3 ⊢
   rw [if_pos rfl] at z3 ⊢
   rw [vY (by omega)] at z3 ⊢
   have:=aY.at z1 z2
   simp only [decide_eq_true_eq] at z3 ⊢
   omega
 dsimp only
 have da:∀j (hj:j<Y.length),j<m->rk Y[j]<rk X[X.length - 1]:=fun j hj z=>by
  have:=lt2 j z
  unfold bey at this
  rw [if_pos rfl,vY hj,kx] at this
  simpa using this
 have db:∀j (hj:j<Y.length),m<=j->rk X[X.length - 1]<=rk Y[j]:=fun j hj z=>by
  have:=gt2 j z hj
  unfold bey at this
  rw [if_pos rfl,vY hj,kx] at this
  simp only [decide_eq_false_iff_not] at this
  omega
 by_cases e2:m=0
 . rw [if_pos (by simpa using e2)]
   exact wpS_pure (h _ (X++Y) ⟨B.perm,B.kind,B.ok⟩ pn (by show (arrOf st).toList=_;rw [hx];simp) (finXY fun i hi j hj=>Nat.le_trans (aX.at (show i<=X.length - 1 by omega) (by omega)) (db j hj (by omega))) List.length_append)
 rw [if_neg (by simpa using e2)]
 have ex:((arrOf st).extract (pre.length+k) (pre.length+X.length)).toList=X.drop k:=by
  rw [S1.ext k X.length hkn (Nat.le_refl _)]
  exact List.take_of_length_le (by rw [List.length_drop];omega)
 have ey:((arrOf st).extract (pre.length+X.length) (pre.length+X.length+m)).toList=Y.take m:=by
  have:=S2.ext 0 m (Nat.zero_le _) hm
  rwa [l2,Nat.add_zero,List.drop_zero,Nat.sub_zero] at this
 generalize hx1:(arrOf st).extract (pre.length+k) (pre.length+X.length)=x1 at *
 generalize hy1:(arrOf st).extract (pre.length+X.length) (pre.length+X.length+m)=y1 at *
 have lx:x1.size=X.length - k:=by rw [<-Array.length_toList,ex,List.length_drop]
 have ly:y1.size=m:=by rw [<-Array.length_toList,ey,List.length_take];omega
 have tx:∀i,i<X.length - k->∃hi:k+i<X.length,tk rk x1 i=rk X[k+i]:=fun i hi=>⟨by omega,by rw [zvb ex (by rw [List.length_drop];exact hi),List.getElem_drop]⟩
 have ty:∀i,i<m->∃hi:i<Y.length,tk rk y1 i=rk Y[i]:=fun i hi=>⟨by omega,by rw [zvb ey (by rw [List.length_take];omega),List.getElem_take]⟩
 have xin:∀x∈x1,x∈a₀:=fun x hx=>kin x (Array.mem_def.mpr (by rw [Array.mem_def,ex] at hx;rw [S1.eq];exact List.mem_append_left _ (List.mem_append_right _ (List.mem_of_mem_drop hx))))
 have yin:∀x∈y1,x∈a₀:=fun x hx=>kin x (Array.mem_def.mpr (by rw [Array.mem_def,ey] at hx;rw [S2.eq];exact List.mem_append_left _ (List.mem_append_right _ (List.mem_of_mem_take hx))))
 have first:∀j,j<x1.size->tk rk y1 0<=tk rk x1 j:=fun j hj=>by
  obtain ⟨h1,e1⟩:=tx j (by omega)
  obtain ⟨h2,e2⟩:=ty 0 (by omega)
  rw [e1,e2];exact Nat.le_of_lt (cb _ h1 (by omega))
 have last:∀j,j<y1.size->tk rk y1 j<=tk rk x1 (x1.size - 1):=fun j hj=>by
  obtain ⟨h1,e1⟩:=tx (x1.size - 1) (by omega)
  obtain ⟨h2,e2⟩:=ty j (by omega)
  rw [e1,e2]
  have:=da j h2 (by omega)
  simp only [show k+(x1.size - 1)=X.length - 1 by omega]
  omega
 have A1:Asc rk x1.toList:=by rw [ex];exact aX.drop k
 have A2:Asc rk y1.toList:=by rw [ey];exact aY.take m
 have done:∀(out:Array Keyed) (u:SortSt),GS (SortSt.mk' (kindOf st) (arrOf st) (((pendingOf st).setIfInBounds L.length (pre.length,X.length+Y.length,pw)).eraseIdxIfInBounds (L.length+1)) (gallopOf st) (failedOf st)) u->out.toList.Perm (x1.toList++y1.toList)/\Asc rk out.toList ->
   Q (failedOf (SortSt.mk' (kindOf u) (List.foldl (fun a (q:Keyed×Nat)=>a.setIfInBounds (pre.length+k+q.2) q.1) (arrOf u) out.toList.zipIdx) (pendingOf u) (gallopOf u) (failedOf u))).isNone (SortSt.mk' (kindOf u) (List.foldl (fun a (q:Keyed×Nat)=>a.setIfInBounds (pre.length+k+q.2) q.1) (arrOf u) out.toList.zipIdx) (pendingOf u) (gallopOf u) (failedOf u)):=fun out u G f=>by
  have eu:arrOf u=arrOf st:=G.arr
  have lo:out.toList.length=X.length - k+m:=by rw [f.1.length_eq,List.length_append,ex,ey,List.length_drop,List.length_take];omega
  have en:=zja (pre.length+k) out.toList 0 (arrOf u) (by rw [eu];omega)
  rw [Nat.add_zero,eu,hx,lo] at en
  have t1:(pre++X++(Y++post)).take (pre.length+k)=pre++X.take k:=by
   rw [List.append_assoc,List.take_length_add_append,List.take_append_of_le_length hkn]
  have t2:(pre++X++(Y++post)).drop (pre.length+k+(X.length - k+m))=Y.drop m++post:=by
   rw [show pre.length+k+(X.length - k+m)=(pre++X).length+m by rw [l2];omega,List.drop_length_add_append,List.drop_append_of_le_length hm]
  rw [t1,t2] at en
  have ok:failedOf u=none:=G.ok.trans B.ok
  have pz:(X.take k++out.toList++Y.drop m).Perm (X++Y):=by
   refine ((f.1.append_left (X.take k)).append_right (Y.drop m)).trans ?_
   rw [ex,ey,<-List.append_assoc,List.take_append_drop,List.append_assoc,List.take_append_drop]
  rw [show (failedOf (SortSt.mk' (kindOf u) (List.foldl (fun a (q:Keyed×Nat)=>a.setIfInBounds (pre.length+k+q.2) q.1) (arrOf u) out.toList.zipIdx) (pendingOf u) (gallopOf u) (failedOf u))).isNone=true by show (failedOf u).isNone=true;rw [ok];rfl]
  refine h _ (X.take k++out.toList++Y.drop m) ⟨?_,G.kind.trans B.kind,ok⟩ (by show (pendingOf u).toList=_;rw [G.pend];exact pn) (by show (List.foldl _ (arrOf u) _).toList=_;rw [eu,en];simp) ?_ (by rw [pz.length_eq,List.length_append])
  . refine Array.perm_iff_toList_perm.mpr ?_
    show (List.foldl _ (arrOf u) _).toList.Perm _
    rw [eu,en]
    refine List.Perm.trans ?_ (Array.perm_iff_toList_perm.mp B.perm)
    rw [hx]
    have e1:pre++X.take k++out.toList++(Y.drop m++post)=pre++((X.take k++out.toList++Y.drop m)++post):=by simp
    have e2:pre++X++(Y++post)=pre++((X++Y)++post):=by simp
    rw [e1,e2]
    exact (pz.append_right _).append_left _
  . have mem1:∀y∈out.toList,(∃(i:Nat) (hi:i<X.length),k<=i/\y=X[i])\/∃(j:Nat) (hj:j<Y.length),j<m/\y=Y[j]:=fun y hy=>by
     rcases List.mem_append.mp (f.1.mem_iff.mp hy) with z | z
     . rw [ex] at z
       obtain ⟨i,hi,rfl⟩:=List.mem_iff_getElem.mp z
       rw [List.length_drop] at hi
       exact .inl ⟨k+i,by omega,by omega,List.getElem_drop⟩
     . rw [ey] at z
       obtain ⟨i,hi,rfl⟩:=List.mem_iff_getElem.mp z
       rw [List.length_take] at hi
       exact .inr ⟨i,by omega,by omega,List.getElem_take⟩
    refine List.pairwise_append.mpr ⟨List.pairwise_append.mpr ⟨aX.take k,f.2,fun x hx y hy=>?_⟩,aY.drop m,fun x hx y hy=>?_⟩
    . obtain ⟨i,hi,rfl⟩:=List.mem_iff_getElem.mp hx
      rw [List.length_take] at hi
      rw [List.getElem_take]
      rcases mem1 y hy with ⟨j,hj,z,rfl⟩ | ⟨j,hj,z,rfl⟩
      . exact aX.at (by omega) hj
      . exact Nat.le_trans (ca i (by omega) (by omega)) (aY.at (Nat.zero_le _) hj)
    . obtain ⟨j,hj,rfl⟩:=List.mem_iff_getElem.mp hy
      rw [List.length_drop] at hj
      rw [List.getElem_drop]
      rcases List.mem_append.mp hx with z | z
      . obtain ⟨i,hi,rfl⟩:=List.mem_iff_getElem.mp z
        rw [List.length_take] at hi
        rw [List.getElem_take]
        exact Nat.le_trans (ca i (by omega) (by omega)) (aY.at (Nat.zero_le _) (by omega))
      . rcases mem1 x z with ⟨i,hi,_,rfl⟩ | ⟨i,hi,q,rfl⟩
        . exact Nat.le_trans (aX.at (show i<=X.length - 1 by omega) (by omega)) (db _ (by omega) (by omega))
        . exact aY.at (by omega) (by omega)
 by_cases e3:X.length - k<=m
 . rw [if_pos e3]
   exact wpS_bind (zwd hc (by exact B.kind) xin yin A1 A2 (by omega) (by omega) first last fun out u G f=>wpS_bind (wpS_modify (wpS_bind (wpS_get (wpS_pure (done out u G f))))))
 . rw [if_neg e3]
   exact wpS_bind (zwe hc (by exact B.kind) xin yin A1 A2 (by omega) (by omega) first last fun out u G f=>wpS_bind (wpS_modify (wpS_bind (wpS_get (wpS_pure (done out u G f))))))
end
section
variable {rk:Keyed->Nat}
noncomputable def pend:Nat->List (List Keyed×Nat)->List (Nat×Nat×Nat)
 | _,[]=>[]
 | lo,(X,pw)::S=>(lo,X.length,pw)::pend (lo+X.length) S
noncomputable def z3d (S:List (List Keyed×Nat)):List Keyed:=(S.map (·.1)).flatten
theorem z1t (S T:List (List Keyed×Nat)):z3d (S++T)=z3d S++z3d T:=by simp [z3d]
theorem z0h (X:List Keyed) (pw:Nat) (S:List (List Keyed×Nat)):z3d ((X,pw)::S)=X++z3d S:=by simp [z3d]
theorem z3e:∀(lo:Nat) (S T:List (List Keyed×Nat)),pend lo (S++T)=pend lo S++pend (lo+(z3d S).length) T
 | lo,[],T=>by simp [pend,z3d]
 | lo,(X,pw)::S,T=>by
  rw [List.cons_append,pend,pend,z3e,z0h,List.length_append,List.cons_append,Nat.add_assoc]
theorem z3f:∀(lo:Nat) (S:List (List Keyed×Nat)),(pend lo S).length=S.length
 | _,[]=>rfl
 | lo,(X,pw)::S=>by rw [pend,List.length_cons,z3f,List.length_cons]
structure Runs (rk:Keyed->Nat) (u:SortSt) (S:List (List Keyed×Nat)) (rest:List Keyed):Prop where
 arr:(arrOf u).toList=z3d S++rest
 pend:(pendingOf u).toList=L2.pend 0 S
 asc:∀X∈S,Asc rk X.1/\0<X.1.length
variable {prog:Program} {w:World} {A:Around} {E:Value->Shared->Prop} {s:Shared} {κ:SortKind} {a₀:Array Keyed}
theorem zqj (hc:z4g prog w A E s κ a₀ rk) {u:SortSt} (B:TBs κ a₀ u) {S T:List (List Keyed×Nat)} {X Y:List Keyed} {pw pw':Nat} {rest:List Keyed} (H:Runs rk u (S++(X,pw)::(Y,pw')::T) rest) {Q:Bool->SortSt->Prop}
  (h:∀v Z,TBs κ a₀ v->Runs rk v (S++(Z,pw)::T) rest->Z.length=X.length+Y.length->Q true v):wpS (model prog w) A E s (mergeAt' S.length) Q u:=by
 have aX:=H.asc (X,pw) (by simp)
 have aY:=H.asc (Y,pw') (by simp)
 have hl:(pend 0 S).length=S.length:=z3f 0 S
 rw [<-hl]
 refine zwf hc B (L:=pend 0 S) (R:=pend ((z3d S).length+X.length+Y.length) T) (pw:=pw) (pw':=pw') (pre:=z3d S) (X:=X) (Y:=Y) (post:=z3d T++rest) ?_ ?_ aX.1 aY.1 aX.2 aY.2 fun v Z B' hp ha aZ lZ=>?_
 . rw [H.pend,z3e,Nat.zero_add,pend,pend]
 . rw [H.arr,z1t,z0h,z0h];simp
 . refine h v Z B' ⟨?_,?_,fun W hW=>?_⟩ lZ
   . rw [ha,z1t,z0h];simp
   . rw [hp,z3e,Nat.zero_add,pend,lZ,Nat.add_assoc]
   . rcases List.mem_append.mp hW with z | z
     . exact H.asc W (List.mem_append_left _ z)
     . rcases List.mem_cons.mp z with rfl | z
       . exact ⟨aZ,by show 0<Z.length;rw [lZ];exact Nat.lt_of_lt_of_le aX.2 (Nat.le_add_right _ _)⟩
       . exact H.asc W (List.mem_append_right _ (.tail _ (.tail _ z)))
theorem zqk {xs:Array Keyed} {lo n:Nat} (h:TSo rk xs lo (lo+n)) (hz:lo+n<=xs.size):Asc rk ((xs.toList.drop lo).take n):=by
 refine List.pairwise_iff_getElem.mpr fun i j hi hj hij=>?_
 simp only [List.length_take,List.length_drop,Array.length_toList] at hi hj
 have:=h (lo+i) (lo+j) (by omega) (by omega) (by omega)
 rw [z1o (by omega),z1o (by omega)] at this
 simpa using this
theorem Runs.few {u:SortSt} {rest:List Keyed}:∀{S:List (List Keyed×Nat)},(∀X∈S,Asc rk X.1/\0<X.1.length)->S.length<=(z3d S).length
 | [],_=>Nat.zero_le _
 | (X,pw)::S,h=>by
  have:=Runs.few (u:=u) (rest:=rest) (S:=S) fun Y hY=>h Y (.tail _ hY)
  have:=(h (X,pw) (.head _)).2
  rw [z0h,List.length_append,List.length_cons]
  simp only at this
  omega
theorem zql {S:List (List Keyed×Nat)} {i:Nat} (h:i+1<S.length):∃S1 X pw Y pw' T,S=S1++(X,pw)::(Y,pw')::T/\S1.length=i:=by
 refine ⟨S.take i,S[i].1,S[i].2,S[i+1].1,S[i+1].2,S.drop (i+2),?_,by rw [List.length_take];omega⟩
 have e1:=List.drop_eq_getElem_cons (show i<S.length by omega)
 have e2:=List.drop_eq_getElem_cons h
 show S=S.take i++S[i]::S[i+1]::S.drop (i+1+1)
 rw [<-e2,<-e1,List.take_append_drop]
theorem zqm (hc:z4g prog w A E s κ a₀ rk) {u:SortSt} (B:TBs κ a₀ u) {S:List (List Keyed×Nat)} {rest:List Keyed} (H:Runs rk u S rest) {i:Nat} (hi:i+1<S.length) {Q:Bool->SortSt->Prop}
  (h:∀v S',TBs κ a₀ v->Runs rk v S' rest->(z3d S').length=(z3d S).length->S'.length+1=S.length->Q true v):wpS (model prog w) A E s (mergeAt' i) Q u:=by
 obtain ⟨S1,X,pw,Y,pw',T,rfl,rfl⟩:=zql hi
 refine zqj hc B H fun v Z B' H' lZ=>h v _ B' H' ?_ ?_
 . rw [z1t,z1t,z0h,z0h,z0h];simp only [List.length_append];omega
 . simp only [List.length_append,List.length_cons];omega
theorem Runs.push {v:SortSt} {S:List (List Keyed×Nat)} {Z r:List Keyed} (H:Runs rk v S (Z++r)) (a:Asc rk Z) (z:0<Z.length):Runs rk (setPending v ((pendingOf v).push ((z3d S).length,Z.length,0))) (S++[(Z,0)]) r:=by
 refine ⟨?_,?_,fun X hX=>?_⟩
 . show (arrOf v).toList=_
   rw [H.arr,z1t,z0h];simp [z3d]
 . show ((pendingOf v).push _).toList=_
   rw [Array.toList_push,H.pend,z3e,Nat.zero_add];rfl
 . rcases List.mem_append.mp hX with q | q
   . exact H.asc X q
   . rw [List.mem_singleton] at q;subst q;exact ⟨a,z⟩
theorem zfh {β:Type} (f:β->β):∀(l:List β) (x:β),(l++[x]).modify l.length f=l++[f x]
 | [],_=>rfl
 | a::l,x=>by
  rw [List.cons_append,List.length_cons,List.modify_succ_cons,zfh f l x,List.cons_append]
theorem Runs.repow {v:SortSt} {S:List (List Keyed×Nat)} {r:List Keyed} (H:Runs rk v S r) (hS:S≠[]) (P:Nat):∃S',Runs rk (setPending v ((pendingOf v).modify ((pendingOf v).size - 1) fun x=>(x.1,x.2.1,P))) S' r/\z3d S'=z3d S:=by
 obtain ⟨S0,⟨X,pw⟩,rfl⟩:∃S0 t,S=S0++[t]:=⟨S.dropLast,S.getLast hS,(List.dropLast_concat_getLast hS).symm⟩
 have sz:(pendingOf v).size=S0.length+1:=by rw [<-Array.length_toList,H.pend,z3f];simp
 refine ⟨S0++[(X,P)],⟨?_,?_,fun Y hY=>?_⟩,by rw [z1t,z1t,z0h,z0h]⟩
 . show (arrOf v).toList=_
   rw [H.arr,z1t,z1t,z0h,z0h]
 . show ((pendingOf v).modify _ _).toList=_
   rw [Array.toList_modify,H.pend,sz,z3e,z3e,Nat.add_sub_cancel,<-z3f 0 S0]
   exact zfh _ _ _
 . rcases List.mem_append.mp hY with q | q
   . exact H.asc Y (List.mem_append_left _ q)
   . rw [List.mem_singleton] at q;subst q;exact H.asc (X,pw) (by simp)
theorem zu7 {c:Prop} [Decidable c] {n m:Nat} (h:n=m) (h2:¬n<=1):(if c then n - 2 - 1 else n - 2)+1<m:=by split<;>omega
theorem zqn (hc:z4g prog w A E s κ a₀ rk) {st:SortSt} (B:TBs κ a₀ st) (h2:2<=a₀.size) (hp:pendingOf st=#[]) {Q:Unit->SortSt->Prop} (h:∀u,TBs κ a₀ u->Asc rk (arrOf u).toList->Q () u):wpS (model prog w) A E s sortRuns' Q st:=by
 rw [sortRuns'_eq]
 refine wpS_bind (wpS_get ?_)
 dsimp only
 rw [B.size]
 refine wpS_bind (wpS_mono (wpS_forRange (I:=fun x c u=>TBs κ a₀ u/\∃lo S rest,c=(none,lo)/\Runs rk u S rest/\(z3d S).length=lo/\lo<=a₀.size/\(x<=lo\/lo=a₀.size))
  (Q:=fun c u=>TBs κ a₀ u/\∃S rest,c=(none,a₀.size)/\Runs rk u S rest/\(z3d S).length=a₀.size) ?step ?fin ⟨B,0,[],(arrOf st).toList,rfl,⟨rfl,by rw [hp];rfl,fun X hX=>absurd hX List.not_mem_nil⟩,rfl,Nat.zero_le _,.inl (Nat.le_refl _)⟩) ?post)
 case fin=>
  rintro c u ⟨B1,lo,S,rest,rfl,H,e,l1,l2⟩
  simp only [Nat.zero_max] at l2
  obtain rfl:lo=a₀.size:=by omega
  exact ⟨B1,S,rest,rfl,H,e⟩
 case post=>
  rintro c u ⟨B1,S,rest,rfl,H,e⟩
  dsimp only
  refine wpS_bind (wpS_mono (wpS_forRange (I:=fun x c v=>c=(none,())/\TBs κ a₀ v/\∃S rest,Runs rk v S rest/\(z3d S).length=a₀.size/\S.length+x<=a₀.size)
   (Q:=fun c v=>c=(none,())/\TBs κ a₀ v/\∃S rest,Runs rk v S rest/\(z3d S).length=a₀.size/\S.length<=1) (fun x c v _ _ hI=>?_) (fun c v hI=>?_) ⟨rfl,B1,S,rest,H,e,by have:=Runs.few (u:=u) (rest:=rest) H.asc;omega⟩) fun c v hI=>?_)
  . obtain ⟨rfl,B2,S,rest,H,e,l⟩:=hI
    have sz:(pendingOf v).size=S.length:=by rw [<-Array.length_toList,H.pend,z3f]
    refine wpS_bind (wpS_get ?_)
    by_cases q:(pendingOf v).size<=1
    . rw [if_pos q]
      exact wpS_pure ⟨rfl,B2,S,rest,H,e,by omega⟩
    . rw [if_neg q]
      refine wpS_bind (zqm hc B2 H (zu7 sz q) fun u2 S' B3 H' e' l'=>?_)
      exact wpS_pure ⟨rfl,B3,S',rest,H',e'.trans e,by omega⟩
  . obtain ⟨rfl,B2,S,rest,H,e,l⟩:=hI
    exact ⟨rfl,B2,S,rest,H,e,by simp only [Nat.zero_max] at l;omega⟩
  . obtain ⟨rfl,B2,S,rest,H,e,l⟩:=hI
    refine wpS_pure (h v B2 ?_)
    have hr:rest=[]:=by
     have:=congrArg List.length H.arr
     rw [Array.length_toList,B2.size,List.length_append,e] at this
     exact List.length_eq_zero_iff.mp (by omega)
    rw [H.arr,hr,List.append_nil]
    match S,l,H.asc with
    | [],_,_=>exact .nil
    | [(X,pw)],_,a=>rw [z0h];simpa [z3d] using (a _ (.head _)).1
    | _::_::_,l,_=>simp at l
 case step=>
  rintro x c u _ _ ⟨B1,lo,S,rest,rfl,H,e,l1,l2⟩
  dsimp only
  by_cases q:lo ≥ a₀.size
  . rw [if_pos q]
    obtain rfl:lo=a₀.size:=by omega
    exact wpS_pure ⟨B1,S,rest,rfl,H,e⟩
  rw [if_neg q]
  refine wpS_bind (zlk hc B1 (by omega) (by omega) fun n u1 n1 n2 B2 L2 so=>?_)
  dsimp only
  obtain ⟨mr,hmr⟩:∃mr,mr=minRun' a₀.size a₀.size 0:=⟨_,rfl⟩
  rw [<-hmr]
  rcases Nat.lt_or_ge n mr with hn | hn
  case' inl=>
   rw [if_pos hn]
   refine wpS_bind (z6p ?_)
   refine wpS_bind (zu4 hc B2 (n:=min (a₀.size - lo) mr) (by omega) n1 (by omega) so fun u2 B3 L3 so2=>?_)
   rw [if_neg (by simp)]
   obtain ⟨m,em,m1,m2,so3⟩:∃m,m=min (a₀.size - lo) mr/\1<=m/\lo+m<=a₀.size/\TSo rk (arrOf u2) lo (lo+m):=⟨_,rfl,by omega,by omega,so2⟩
   rw [<-em]
   have L4:=L2.trans L3
   clear em
  case' inr=>
   rw [if_neg (by omega)]
   obtain ⟨m,u2,em,eu,m1,m2,so3,B3,L4⟩:∃m u2,m=n/\u2=u1/\1<=m/\lo+m<=a₀.size/\TSo rk (arrOf u2) lo (lo+m)/\TBs κ a₀ u2/\TL u u2 lo:=⟨_,_,rfl,rfl,n1,by omega,so,B2,L2⟩
   rw [<-em,<-eu]
   clear em eu
  all_goals
   have hz:lo+m<=(arrOf u2).size:=by rw [B3.size];exact m2
   obtain ⟨Z,eZ⟩:∃Z,Z=((arrOf u2).toList.drop lo).take m:=⟨_,rfl⟩
   have aZ:Asc rk Z:=eZ ▸ zqk so3 hz
   have lZ:Z.length=m:=by rw [eZ,List.length_take,List.length_drop,Array.length_toList];omega
   have H2:Runs rk u2 S (Z++(arrOf u2).toList.drop (lo+m)):=by
    refine ⟨?_,by rw [L4.pend];exact H.pend,H.asc⟩
    have t:(arrOf u2).toList.take lo=z3d S:=by
     have:(arrOf u2).toList.take lo=(arrOf u).toList.take lo:=by
      refine List.ext_getElem? fun i=>?_
      rw [List.getElem?_take,List.getElem?_take]
      by_cases z:i<lo
      . rw [if_pos z,if_pos z,Array.getElem?_toList,Array.getElem?_toList];exact L4.low i z
      . rw [if_neg z,if_neg z]
     rw [this,H.arr,<-e,List.take_left]
    rw [<-t,eZ,<-drop_take,List.take_append_drop]
   generalize (arrOf u2).toList.drop (lo+m)=r2 at H2
   refine wpS_bind (wpS_get ?_)
   have fin:∀(v:SortSt) (S':List (List Keyed×Nat)),TBs κ a₀ v->Runs rk v S' (Z++r2)->(z3d S').length=lo ->
     TBs κ a₀ (setPending v ((pendingOf v).push (lo,m,0)))/\∃lo' S'' rest,((none:Option Unit),lo+m)=(none,lo')/\Runs rk (setPending v ((pendingOf v).push (lo,m,0))) S'' rest/\(z3d S'').length=lo'/\lo'<=a₀.size/\(x+1<=lo'\/lo'=a₀.size):=fun v S' Bv Hv ev=>by
    have:=Hv.push aZ (by omega)
    rw [ev,lZ] at this
    exact ⟨⟨Bv.perm,Bv.kind,Bv.ok⟩,lo+m,_,r2,rfl,this,by rw [z1t,z0h,List.length_append,ev,List.length_append,lZ];simp [z3d],m2,.inl (by omega)⟩
   cases hb:(pendingOf u2).back? with
   | none=>exact wpS_bind (wpS_modify (wpS_pure (fin u2 S B3 H2 e)))
   | some t=>
    obtain ⟨s1,n1',p1⟩:=t
    dsimp only
    have hS:S≠[]:=fun z=>by
     have:=H2.pend
     rw [z] at this
     rw [Array.toList_eq_nil_iff.mp this] at hb
     cases hb
    refine wpS_bind (wpS_mono (wpS_forRange (I:=fun _ c v=>c=(none,())/\TBs κ a₀ v/\∃S',Runs rk v S' (Z++r2)/\(z3d S').length=lo/\S'≠[])
     (Q:=fun c v=>c=(none,())/\TBs κ a₀ v/\∃S',Runs rk v S' (Z++r2)/\(z3d S').length=lo/\S'≠[]) (fun y c v _ _ hI=>?_) (fun c v hI=>hI) ⟨rfl,B3,S,H2,e,hS⟩) fun c v hI=>?_)
    . obtain ⟨rfl,Bv,S',Hv,ev,nv⟩:=hI
      refine wpS_bind (wpS_get ?_)
      have sz:(pendingOf v).size=S'.length:=by rw [<-Array.length_toList,Hv.pend,z3f]
      cases hq:(if (pendingOf v).size > 1 then (pendingOf v)[(pendingOf v).size - 2]? else none) with
      | none=>exact wpS_pure ⟨rfl,Bv,S',Hv,ev,nv⟩
      | some t=>
       obtain ⟨q1,q2,older⟩:=t
       dsimp only
       have hs:(pendingOf v).size > 1:=by
        by_cases z:(pendingOf v).size > 1
        . exact z
        . rw [if_neg z] at hq;cases hq
       split
       . exact wpS_pure ⟨rfl,Bv,S',Hv,ev,nv⟩
       . refine wpS_bind (zqm hc Bv Hv (by omega) fun v2 S2 B5 H5 e5 l5=>?_)
         rw [if_neg (by simp)]
         exact wpS_pure ⟨rfl,B5,S2,H5,e5.trans ev,fun z=>by rw [z] at l5;simp at l5;omega⟩
    . obtain ⟨rfl,Bv,S',Hv,ev,nv⟩:=hI
      dsimp only
      obtain ⟨S2,H5,e5⟩:=Hv.repow nv (power' a₀.size (2 * s1+n1') (2 * s1+n1'+n1'+m) a₀.size)
      exact wpS_bind (wpS_modify (wpS_bind (wpS_modify (wpS_pure (fin _ S2 ⟨Bv.perm,Bv.kind,Bv.ok⟩ H5 (by rw [e5];exact ev))))))
end
section
variable {prog:Program} {w:World} {E:Value->Shared->Prop} {s:Shared} {A:Around}
noncomputable def z19 (h:Heap) (a:Addr) (vs:List Value):Heap:=((h.update a (Obj.mapSeq fun _=>#[])).push (seqObj "tuple" vs.toArray 0)).push (seqObj "list" #[] 0)
theorem z6q {h:Heap} {a:Addr} {vs:List Value} {n:Nat} (ho:h.get? a=some (seqObj "list" vs.toArray n)) :
  ∃k,(h.update a (Obj.mapSeq fun _=>#[])).get? a=some (seqObj "list" #[] k)/\(z19 h a vs).get? a=some (seqObj "list" #[] k):=
 ⟨_,get?_update_seq ho fun _=>#[],Heap.get?_push_of_some _ (Heap.get?_push_of_some _ (get?_update_seq ho fun _=>#[]))⟩
theorem zhh {a:Addr} {vs:List Value} {n:Nat} {P:PySem.Fin->Shared->Prop} {κ:SortKind} {rk:Keyed->Nat} (ho:s.heap.get? a=some (seqObj "list" vs.toArray n)) (h2:2<=vs.length) (hz:vs.length<=sizeLine)
  (hκ:∀(Q:SortKind->Shared->Prop),Q κ { s with heap:=z19 s.heap a vs }->wpAny (model prog w) A (keyKind' vs.toArray) Q E { s with heap:=z19 s.heap a vs })
  (hc:z4g prog w A E { s with heap:=z19 s.heap a vs } κ (pairsOf vs) rk)
  (h:∀out:Array Keyed,out.Perm (pairsOf vs)->Asc rk out.toList->P (.done (.ret .none)) { s with heap:=sortedHeap s.heap a vs (out.map (·.2)) }):wpAny (model prog w) A (Builtin.«list.sort» ⟨[.ref a],[]⟩) P E s:=by
 obtain ⟨k,k1,k2⟩:=z6q ho
 have nn:¬vs.toArray.size<2:=by rw [List.size_toArray];omega
 rw [list_sort_plain]
 refine wpAny_bind (listItems_at ho rfl (wpAny_bind (listUpdate_at ho rfl (wpAny_bind (seqEpoch_at k1 rfl (wpAny_bind (wpAny_newTuple (wpAny_bind (wpAny_newList (wpAny_holding ?_) (Nat.zero_le _))) hz)))) (by rw [List.size_toArray];exact hz) (Nat.zero_le _))))
 show wpAny (model prog w) A _ P E { s with heap:=z19 s.heap a vs }
 rw [if_neg nn,if_neg nn]
 refine wpAny_bind (hκ _ (wpAny_bind (wpAny_mono (zqn (st:=SortSt.mk' κ (pairsOf vs) #[] 7 none) hc ⟨.refl _,rfl,rfl⟩ (by rw [pairsOf_size];exact h2) rfl (Q:=fun _ u=>TBs κ (pairsOf vs) u/\Asc rk (arrOf u).toList) fun u B a=>⟨B,a⟩) ?_ fun _ _ x=>x)))
 rintro ⟨⟨⟩,u⟩ s' ⟨rfl,B,hA⟩
 refine wpAny_bind (seqEpoch_at k2 rfl (wpAny_bind (listUpdate_at k2 rfl ?_ (Nat.zero_le _) (by rw [Array.size_map,B.size,pairsOf_size];exact Nat.le_succ_of_le hz))))
 rw [B.ok,bne_self_eq_false]
 exact wpAny_pure (h _ B.perm hA)
noncomputable def z2a (h:Heap) (vs:List Value):Heap:=((h.push (seqObj "list" #[] 0)).update h.objs.size (Obj.mapSeq (·++vs.toArray))).push (seqObj "list" vs.toArray 0)
theorem z5r (h:Heap) (vs:List Value):(z2a h vs).get? (h.objs.size+1)=some (seqObj "list" vs.toArray 0):=by
 have e:((h.push (seqObj "list" #[] 0)).update h.objs.size (Obj.mapSeq (·++vs.toArray))).objs.size=h.objs.size+1:=(Heap.size_update _ _ _).trans (size_push' _ _)
 unfold z2a
 conv=>lhs;arg 2;rw [<-e]
 exact Heap.get?_push_size _ rfl
theorem zcd {h:Heap} {vs:List Value} {b:Addr} {o:Obj} (q:h.get? b=some o):(z19 (z2a h vs) (h.objs.size+1) vs).get? b=some o:=by
 have lt:b<h.objs.size:=Heap.lt_size q
 refine Heap.get?_push_of_some _ (Heap.get?_push_of_some _ ?_)
 rw [Heap.get?_update_ne _ _ _ _ (Nat.ne_of_lt (Nat.lt_add_right 1 lt))]
 refine Heap.get?_push_of_some _ ?_
 rw [Heap.get?_update_ne _ _ _ _ (Nat.ne_of_lt lt)]
 exact Heap.get?_push_of_some _ q
theorem zce {l:Addr} {vs:List Value} {Q:Value->Shared->Prop} {κ:SortKind} {rk:Keyed->Nat} (hl:s.heap.IsList l vs.toArray) (h2:2<=vs.length) (hz:vs.length<=sizeLine)
  (hκ:∀(Q:SortKind->Shared->Prop),Q κ { s with heap:=z19 (z2a s.heap vs) (s.heap.objs.size+1) vs }->wpAny (model prog w) A.in1.in1 (keyKind' vs.toArray) Q (fun _ _=>False) { s with heap:=z19 (z2a s.heap vs) (s.heap.objs.size+1) vs })
  (hc:z4g prog w A.in1.in1 (fun _ _=>False) { s with heap:=z19 (z2a s.heap vs) (s.heap.objs.size+1) vs } κ (pairsOf vs) rk)
  (h:∀out:Array Keyed,out.Perm (pairsOf vs)->Asc rk out.toList->Q (.ref (s.heap.objs.size+1)) { s with heap:=sortedAll s.heap vs (out.map (·.2)) }):wpAny (model prog w) A (call (.builtin "sorted") [.ref l]) Q E s:=by
 have e:((s.heap.push (seqObj "list" #[] 0)).update s.heap.objs.size (Obj.mapSeq (·++vs.toArray))).objs.size=s.heap.objs.size+1:=(Heap.size_update _ _ _).trans (size_push' _ _)
 have b:=zhh (s:={ s with heap:=z2a s.heap vs }) (E:=fun _ _=>False) (P:=fun f s'=>∃x,f=.done (.ret x)/\Q (.ref (s.heap.objs.size+1)) s') (z5r s.heap vs) h2 hz hκ hc fun out p a=>⟨_,rfl,h out p a⟩
 apply Calls.call_function_entry kind_sorted plain_sorted entry_sorted (args_sorted1 (.ref l))
 unfold Builtin.«sorted»
 refine wpAny_bind (m:=checkCount "sorted" 1 1 _) (wpAny_pure (wpAny_bind (collect_list hl (wpAny_bind (wpAny_newList ?_ hz)) hz)))
 show wpAny _ _ _ _ _ { s with heap:=z2a s.heap vs }
 rw [e]
 refine wpAny_bind (wpAny_holding (wpAny_call_entry slot_list_sort ⟨_,z5r s.heap vs,rfl⟩ entry_list_sort (wpAny_mono b (fun f s' q=>?_) fun _ _ x=>x.elim) (args_list_sort _)))
 obtain ⟨x,rfl,q⟩:=q
 exact ⟨_,rfl,wpAny_pure ⟨_,rfl,q⟩⟩
end
end L2
set_option maxHeartbeats 400000
namespace L2
open PySem PySem.Spec PyProof.Rows
noncomputable def rkD (ds:List D) (d:D):Nat:=ds.countP fun e=>ltT e d
theorem zjb {ds:List D} (h:ois ds=true) {d e:D} (hd:d∈ds) (he:e∈ds):decide (rkD ds d<rkD ds e)=ltT d e:=by
 have ho:∀x∈ds,x.oi=true:=fun x hx=>ois_mem.mp h x hx
 have up:∀{d e:D},d∈ds->e∈ds->ltT d e=true->rkD ds d<rkD ds e:=fun {d e} hd he q=>by
  unfold rkD
  have le:∀l:List D,(∀x∈l,x∈ds)->l.countP (fun x=>ltT x d)<=l.countP (fun x=>ltT x e):=fun l hl=>
   List.countP_mono_left fun x hx hxd=>zbz (ho x (hl x hx)) (ho d hd) (ho e he) hxd q
  obtain ⟨l1,l2,rfl⟩:=List.append_of_mem hd
  have a:=le l1 fun x hx=>by simp [hx]
  have b:=le l2 fun x hx=>by simp [hx]
  simp only [List.countP_append,List.countP_cons,q,z8p (ho d hd)]
  simp
  omega
 cases q:ltT d e with
 | true=>simpa using up hd he q
 | false=>
  cases q':ltT e d with
  | true=>have:=up he hd q';simp;omega
  | false=>obtain rfl:=z8o (ho d hd) (ho e he) q q';simp
mutual
theorem zqo {K:Frag} {H:Hp}:∀{d e:D} {x:V},d.oi=true->e.oi=true->RD K H d x->RD K H e x->d=e
 | .int a,.int b,x,_,_,r1,r2=>by
  have h1:=r1.int;have h2:=r2.int;rw [h1] at h2;cases h2;rfl
 | .int a,.tup es,x,_,_,r1,r2=>by
  have h1:=r1.int;obtain ⟨_,_,h2,_⟩:=r2.tup;rw [h1] at h2;cases h2
 | .tup ds,.int b,x,_,_,r1,r2=>by
  have h1:=r2.int;obtain ⟨_,_,h2,_⟩:=r1.tup;rw [h1] at h2;cases h2
 | .tup ds,.tup es,x,o1,o2,r1,r2=>by
  obtain ⟨a,ys,h1,p1,q1⟩:=r1.tup
  obtain ⟨b,zs,h2,p2,q2⟩:=r2.tup
  rw [h1] at h2;cases h2
  rw [p1] at p2;cases p2
  simp only [D.oi] at o1 o2
  rw [zjc o1 o2 q1 q2]
theorem zjc {K:Frag} {H:Hp}:∀{ds es:List D} {xs:List V},ois ds=true->ois es=true->RDs K H ds xs->RDs K H es xs->ds=es
 | [],[],xs,_,_,_,_=>rfl
 | [],e::es,xs,_,_,r1,r2=>by
  simp only [RDs] at r1 r2;subst r1;obtain ⟨_,_,h,_⟩:=r2;cases h
 | d::ds,[],xs,_,_,r1,r2=>by
  simp only [RDs] at r1 r2;subst r2;obtain ⟨_,_,h,_⟩:=r1;cases h
 | d::ds,e::es,xs,o1,o2,r1,r2=>by
  simp only [RDs] at r1 r2
  obtain ⟨x,ys,h1,p1,q1⟩:=r1
  obtain ⟨y,zs,h2,p2,q2⟩:=r2
  rw [h1] at h2;cases h2
  simp only [ois,Bool.and_eq_true] at o1 o2
  rw [zqo o1.1 o2.1 p1 p2,zjc o1.2 o2.2 q1 q2]
end
theorem z9z {α β:Type} {f:α->β} {l m:List β} (p:l.Perm m):∀{xs:List α},m=xs.map f->∃ys:List α,ys.Perm xs/\l=ys.map f:=by
 induction p with
 | nil=>intro xs h;exact ⟨xs,.refl _,h⟩
 | cons a p ih=>
  intro xs h
  cases xs with
  | nil=>cases h
  | cons x xs=>
   simp only [List.map_cons,List.cons.injEq] at h
   obtain ⟨ys,p',e⟩:=ih h.2
   exact ⟨x::ys,p'.cons x,by rw [e,h.1];rfl⟩
 | swap a b l=>
  intro xs h
  match xs,h with
  | x::y::xs,h=>
   simp only [List.map_cons,List.cons.injEq] at h
   exact ⟨y::x::xs,.swap _ _ _,by rw [h.1,h.2.1,h.2.2];rfl⟩
 | trans p q ih1 ih2=>
  intro xs h
  obtain ⟨ys,p',e⟩:=ih2 h
  obtain ⟨zs,q',e'⟩:=ih1 e
  exact ⟨zs,q'.trans p',e'⟩
theorem z6r (l:List D):(List.range l.length).map (fun i=>l.getD i (.int 0))=l:=by
 apply List.ext_getElem?
 intro i
 rw [List.getElem?_map]
 by_cases hi:i<l.length
 . rw [List.getElem?_range hi];simp [hi]
 . rw [List.getElem?_eq_none (by simpa using hi),List.getElem?_eq_none (by simpa using hi)];rfl
noncomputable def atOf (its:List Value) (v:Value):Nat:=Classical.epsilon fun i=>i<its.length/\its.getD i Value.none=v
theorem za0 {its:List Value} {i:Nat} (h:i<its.length):atOf its (its.getD i Value.none)<its.length/\its.getD (atOf its (its.getD i Value.none)) Value.none=its.getD i Value.none:=by
 have hh:∃j,j<its.length/\its.getD j Value.none=its.getD i Value.none:=⟨i,h,rfl⟩
 exact Classical.epsilon_spec hh
noncomputable def z5s (ds:List D):Bool:=ois ds&&decide (z59 ds<=20)&&ds.all (fun d=>ds.all fun e=>(z21 d e).isSome)&&(ds.all isI||ds.all zg8||ds.all zcl)
noncomputable def z4o:List D->Option D
 | [.lst ds]=>if z5s ds=true then some (.lst (z2i ds)) else none
 | _=>none
def zjd (K:Frag):List V->Hp->VK->Prop:=fun xs H Q=>∃p ys ds,xs=[.ref p]/\H p=some (.lst ys)/\RDs K H ds ys/\z5s ds=true/\∀(l:Addr) (is:List Nat),H l=none->(∀i∈is,i<ys.length)->z2i ds=is.map (fun i=>ds.getD i (.int 0))->Q (.ref l) (upd H l (.lst (is.map fun i=>ys.getD i .non)))
theorem zb7 {K:Frag}:z5d K true z4o (zjd K):=by
 intro H0 H xs ds z Q s r ho k
 unfold z4o at ho
 split at ho<;>first | cases ho | skip
 split at ho<;>cases ho
 rename_i es hok
 obtain ⟨x,rfl,q1⟩:=r.uno
 obtain ⟨p,ys,rfl,hp,ry⟩:=q1.lst
 refine ⟨p,ys,es,rfl,s _ _ hp,ry.mono s,hok,fun l is hl hi he=>k _ _ (.new s hl fun H' hH=>?_)⟩
 simp only [OB]
 refine ⟨_,hH,?_⟩
 rw [he]
 exact ry.pick hi
section
variable {X:Cx} {pins:List (Addr×Obj)} {σ:St} {H:Hp} {s:Shared}
theorem zlm {x y:V} {v:Value} (hx:(∃k,x=.int k)\/∃a,x=.ref a) (hy:(∃k,y=.int k)\/∃a,y=.ref a) (r1:RelV x v) (r2:RelV y v):x=y:=by
 rcases hx with ⟨k,rfl⟩ | ⟨a,rfl⟩<;>rcases hy with ⟨j,rfl⟩ | ⟨b,rfl⟩<;>simp only [RelV] at r1 r2
 . obtain ⟨t,rfl⟩:=r1;obtain ⟨u,h⟩:=r2;cases h;rfl
 . obtain ⟨t,rfl⟩:=r1;cases r2
 . obtain ⟨t,rfl⟩:=r2;cases r1
 . subst r1;cases r2;rfl
theorem zvc {K:Frag} {d:D} {x:V} (o:d.oi=true) (r:RD K H d x):(∃k,x=.int k)\/∃a,x=.ref a:=by
 cases d<;>simp only [D.oi] at o<;>first | cases o | skip
 . exact .inl ⟨_,r.int⟩
 . obtain ⟨a,_,h,_⟩:=r.tup;exact .inr ⟨a,h⟩
theorem z5t (vs:List Value):(pairsOf vs).toList=(List.range vs.length).map fun i=>((vs.getD i Value.none,vs.getD i Value.none):Keyed):=by
 unfold pairsOf
 rw [Array.toList_zip]
 apply List.ext_getElem
 . simp
 . intro i h1 h2
   simp at h1
   simp [h1]
theorem z91 {vs:List Value} {x:Keyed} (h:x∈pairsOf vs):∃i,i<vs.length/\x=(vs.getD i Value.none,vs.getD i Value.none):=by
 rw [Array.mem_def,z5t] at h
 obtain ⟨i,hi,e⟩:=List.mem_map.mp h
 exact ⟨i,List.mem_range.mp hi,e.symm⟩
theorem z6s:∀(vs:List Value),(∀i,i<vs.length->∃n t,vs.getD i Value.none=.int n t)->∃ns,IntsAre vs ns
 | [],_=>⟨[],.nil⟩
 | v::vs,h=>by
  obtain ⟨n,t,e⟩:=h 0 (by simp)
  obtain ⟨ns,r⟩:=z6s vs fun i hi=>by simpa using h (i+1) (by simpa using hi)
  have e':v=.int n t:=by simpa using e
  subst e'
  exact ⟨n::ns,.cons n t r⟩
theorem zln {vs:List Value} {ns:List Int} (ia:IntsAre vs ns) (h:2<=vs.length):keyKind' vs.toArray=pure oneType':=by
 match vs,ia,h with
 | v1::v2::vs,ia,_=>exact keyKind_ints ia
theorem zfi (hc:X.calm=true) (hu:X.A.units+64<cLine):CallR X (.builtin "sorted") (zjd X.K):=by
 intro pins s σ H xs us Q I r h
 obtain ⟨p,ys,ds,rfl,hp,rd,hok,k⟩:=h
 obtain ⟨u,rfl,ru⟩:=z48 r
 cases ru
 obtain ⟨its,rv,pl,hz⟩:=I.list (.of hp)
 obtain ⟨m,hn,_⟩:=id I.loc
 have F:=Att.fr_all hn
 have N:=z6w (g:=Att.noObjs s.heap) (h:=s.heap) (L:=X.env.locals)
 unfold z5s at hok
 simp only [Bool.and_eq_true,Bool.or_eq_true,decide_eq_true_eq] at hok
 obtain ⟨⟨⟨hoi,hdep⟩,hcmp⟩,hkind⟩:=hok
 have hl1:=rd.length
 have hl2:=rv.length
 have fin:∀{vs':Array Value} {is:List Nat},(∀i∈is,i<ys.length)->z2i ds=is.map (fun i=>ds.getD i (.int 0))->vs'=(is.map fun i=>its.getD i Value.none).toArray->EP X pins σ Q (.ref (s.heap.objs.size+1)) { s with heap:=sortedAll s.heap its vs' }:=fun {vs' is} hi he hv=>by
  have hlen:(is.map fun i=>ys.getD i .non).length<=sizeLine:=by
   have e1:is.length=ds.length:=by have:=congrArg List.length he;rw [List.length_map,(z0i ds).length_eq] at this;exact this.symm
   rw [List.length_map,e1,hl1];exact hz
  obtain ⟨e,he'⟩:=sortedAll_at s.heap its vs'
  have kp:∀b o,s.heap.get? b=some o->(sortedAll s.heap its vs').get? b=some o:=fun b o q=>sortedAll_old q
  have hN:=N.kept_cons F kp (Nat.le_succ _) he'
  obtain ⟨HD,I'⟩:=I.frnew (tk:=s.toks) (o:=.lst (is.map fun i=>ys.getD i .non)) hn (F.kept kp) hN (Heap.get?_none_of_le (Nat.le_succ _)) ⟨hlen,_,e,rv.pick hi,by subst hv;exact (hN _ (.head _)).1⟩
  exact ⟨.ref _,_,I',rfl,k _ is HD hi he⟩
 by_cases h2:2<=its.length
 . have kp:∀b o,s.heap.get? b=some o->(z19 (z2a s.heap its) (s.heap.objs.size+1) its).get? b=some o:=fun b o q=>zcd q
   have I':Inv X pins σ H { s with heap:=z19 (z2a s.heap its) (s.heap.objs.size+1) its }:=I.frn (tk:=s.toks) hn (F.kept kp) fun q hq=>(N.kept_cons F kp (Nat.le_succ _) (z6q (z5r s.heap its)).choose_spec.2) q (.tail _ hq)
   have huu:X.A.in1.in1.units+20<cLine:=by show X.A.units+1+1+20<cLine;omega
   have main:∀κ:SortKind,(∀(Q:SortKind->Shared->Prop),Q κ { s with heap:=z19 (z2a s.heap its) (s.heap.objs.size+1) its }->wpAny (model X.prog X.w) X.A.in1.in1 (keyKind' its.toArray) Q (fun _ _=>False) { s with heap:=z19 (z2a s.heap its) (s.heap.objs.size+1) its }) ->
     (∀(E:Value->Shared->Prop) (C:Bool->Shared->Prop) (i j:Nat),i<ys.length->j<ys.length->C (ltI ds i j) { s with heap:=z19 (z2a s.heap its) (s.heap.objs.size+1) its }->wpAny (model X.prog X.w) X.A.in1.in1 (keyLt' κ (its.getD i Value.none) (its.getD j Value.none)) C E { s with heap:=z19 (z2a s.heap its) (s.heap.objs.size+1) its }) ->
     wpAny (model X.prog X.w) X.A (call (.builtin "sorted") [.ref p]) (EP X pins σ Q) X.xe s:=by
    intro κ hκ hlt
    refine zce (rk:=fun q=>rkD ds (ds.getD (atOf its q.1) (.int 0))) pl.isList h2 (by omega) hκ ?_ fun out hp' hA=>?_
    . intro x y hx hy st Q' hk q
      obtain ⟨i,hi,rfl⟩:=z91 hx
      obtain ⟨j,hj,rfl⟩:=z91 hy
      have ai:=za0 hi
      have aj:=za0 hj
      dsimp only at q
      rw [zjb hoi (getD_mem (by omega)) (getD_mem (by omega))] at q
      rw [lt'_eq]
      refine wpS_bind (wpS_get (wpS_bind (wpS_lift (wpAny_attempt ?_))))
      rw [hk]
      dsimp only
      generalize atOf its (its.getD i Value.none)=i' at *
      generalize atOf its (its.getD j Value.none)=j' at *
      rw [<-ai.2,<-aj.2]
      exact hlt _ _ i' j' (by omega) (by omega) ⟨rfl,wpS_pure q⟩
    . have e0:(pairsOf its).toList=(List.range its.length).map fun i=>((its.getD i Value.none,its.getD i Value.none):Keyed):=z5t its
      obtain ⟨is,hip,hie⟩:=z9z (Array.perm_iff_toList_perm.mp hp') e0
      have him:∀i∈is,i<its.length:=fun i hi=>List.mem_range.mp (hip.mem_iff.mp hi)
      have pm:(is.map fun i=>ds.getD i (.int 0)).Perm ds:=by
       refine (hip.map _).trans ?_
       rw [show its.length=ds.length by omega,z6r]
      refine fin (is:=is) (fun i hi=>by have:=him i hi;omega) (z43 (z3b (z0i _) hoi) ((z0i _).trans pm.symm) (z26 hoi) ?_) ?_
      . rw [hie] at hA
        refine List.pairwise_map.mpr ((List.pairwise_map.mp hA).imp_of_mem fun {a b} ha hb hab=>?_)
        have same:∀i,i<its.length->ds.getD (atOf its (its.getD i Value.none)) (.int 0)=ds.getD i (.int 0):=fun i hi=>by
         have q:=za0 hi
         have v1:=rv.getD (i:=atOf its (its.getD i Value.none)) (by omega)
         have v2:=rv.getD (i:=i) (by omega)
         have r1:=rd.getD (i:=atOf its (its.getD i Value.none)) (by omega)
         have r2:=rd.getD (i:=i) (by omega)
         have o1:=z1r (i:=atOf its (its.getD i Value.none)) hoi
         have o2:=z1r (i:=i) hoi
         rw [q.2] at v1
         rw [zlm (zvc o1 r1) (zvc o2 r2) v1 v2] at r1
         exact zqo o1 o2 r1 r2
        dsimp only at hab
        rw [same a (him a ha),same b (him b hb)] at hab
        have z:=zjb hoi (d:=ds.getD b (.int 0)) (e:=ds.getD a (.int 0)) (getD_mem (by have:=him b hb;omega)) (getD_mem (by have:=him a ha;omega))
        rw [<-z,decide_eq_false_iff_not]
        omega
      . rw [<-Array.toList_inj,Array.toList_map,hie,List.map_map]
        rfl
   by_cases hI:ds.all isI=true
   . have getI:∀i,i<ys.length->∃n t,ds.getD i (.int 0)=.int n/\its.getD i Value.none=.int n t:=fun i hi=>by
      have r1:=rd.getD hi
      have v1:=rv.getD hi
      have m1:isI (ds.getD i (.int 0))=true:=List.all_eq_true.mp hI _ (getD_mem (by omega))
      generalize ds.getD i (.int 0)=d at *
      cases d<;>simp only [isI] at m1<;>first | cases m1 | skip
      rw [r1.int] at v1
      obtain ⟨t,e⟩:=v1
      exact ⟨_,t,rfl,e⟩
     refine main oneType' (fun Q' q=>?_) fun E C i j hi hj hC=>?_
     . have ia:∃ns,IntsAre its ns:=z6s its fun i hi=>by obtain ⟨n,t,_,e⟩:=getI i (by omega);exact ⟨n,t,e⟩
       obtain ⟨ns,ia⟩:=ia
       rw [zln ia h2]
       exact wpAny_pure q
     . obtain ⟨n,t,e1,e2⟩:=getI i hi
       obtain ⟨n',t',e3,e4⟩:=getI j hj
       rw [e2,e4]
       refine PySem.W.kat_lt_int ?_
       unfold ltI at hC
       rw [e1,e3] at hC
       simpa only [ltT] using hC
   . obtain ⟨T,hT⟩:∃T:Bool,∀d∈ds,(if T=true then zcl d else zg8 d)=true:=by
      rcases hkind with (z | z) | z
      . exact absurd z hI
      . exact ⟨false,fun d hd=>by rw [if_neg Bool.false_ne_true];exact List.all_eq_true.mp z d hd⟩
      . exact ⟨true,fun d hd=>by rw [if_pos rfl];exact List.all_eq_true.mp z d hd⟩
     obtain ⟨fs,t1,t2,t3⟩:=zen (M:=model X.prog X.w) I' T hT rd rv
     refine main (tuples' ((.type (if T=true then "tuple" else "int"):Value) != Value.type "tuple")) (fun Q' q=>PySem.W.kat_kind t1 (by omega) t3 (by cases T<;>rfl) q) fun E C i j hi hj hC=>?_
     have r1:=rd.getD hi
     have r2:=rd.getD hj
     have v1:=rv.getD hi
     have v2:=rv.getD hj
     have m1:ds.getD i (.int 0)∈ds:=getD_mem (by omega)
     have m2:ds.getD j (.int 0)∈ds:=getD_mem (by omega)
     have o1:=(ois_mem.mp hoi) _ m1
     have o2:=(ois_mem.mp hoi) _ m2
     have d1:=z3y m1
     have f1:=hT _ m1
     have f2:=hT _ m2
     obtain ⟨b,hb⟩:=Option.isSome_iff_exists.mp (List.all_eq_true.mp (List.all_eq_true.mp hcmp _ m1) _ m2)
     have hbl:b=ltI ds i j:=zee hb
     rw [<-hbl] at hC
     generalize ds.getD i (.int 0)=da at *
     generalize ds.getD j (.int 0)=db at *
     have tp:∀{d:L2.D},(if T=true then zcl d else zg8 d)=true->∃es,d=.tup es/\(T=false->∃k r,es=.int k::r):=fun {d} h=>by
      cases T with
      | false=>
       rw [if_neg Bool.false_ne_true] at h
       cases d<;>simp only [zg8] at h<;>first | cases h | skip
       rename_i es
       cases es with
       | nil=>simp at h
       | cons e es=>cases e<;>simp at h;exact ⟨_,rfl,fun _=>⟨_,_,rfl⟩⟩
      | true=>
       rw [if_pos rfl] at h
       cases d<;>simp only [zcl] at h<;>first | cases h | skip
       exact ⟨_,rfl,fun z=>nomatch z⟩
     obtain ⟨ea,rfl,ka⟩:=tp f1
     obtain ⟨eb,rfl,kb⟩:=tp f2
     obtain ⟨a,xa,e1,ha,ra⟩:=r1.tup
     obtain ⟨c,xc,e2,hcc,rc⟩:=r2.tup
     rw [e1] at v1;rw [e2] at v2
     rw [show its.getD i Value.none=Value.ref a from v1,show its.getD j Value.none=Value.ref c from v2]
     obtain ⟨ia,va,oa,hoa,_,na,hda⟩:=I'.tupA ha
     obtain ⟨ic,vc,oc,hoc,_,nc,hdc⟩:=I'.tupA hcc
     simp only [L2.D.oi] at o1 o2
     simp only [L2.D.dep] at d1
     simp only [z21] at hb
     refine PySem.W.kat_lt hoa hda hoc hdc (z9p I' huu hC 0 (fun hb0 _=>?_) o1 o2 (by omega) ra rc va vc hb (by simp))
     cases T with
     | false=>exact ⟨ka rfl,kb rfl⟩
     | true=>exact absurd hb0 (by simp)
 . have hs1:z2i ds=ds:=by
    match ds,hl1,hl2 with
    | [],_,_=>rfl
    | [d],_,_=>rfl
    | _::_::_,a,b=>simp at a;omega
   have pz:∀l:List Value,l.length<2->(pairsOf l).map (·.2)=(List.map (fun i=>l.getD i Value.none) (List.range l.length)).toArray:=fun l hl=>by
    match l,hl with
    | [],_=>simp [pairsOf]
    | [v],_=>simp [pairsOf]
    | _::_::_,z=>simp at z;omega
   refine z4m pl.isList (by omega) (fin (is:=List.range its.length) (fun i hi=>by simp at hi;omega) ?_ (pz its (by omega)))
   rw [hs1,show its.length=ds.length by omega,z6r]
end
open PySem.W in
noncomputable def z7s (tb:String->Option Builtin) (p:Program) (w:World) (m:Nat) (ann:Option Value):Nat->SharedT->Thread->Option SharedT
 | 0,_,_=>none
 | n+1,s,t=>match through t with
  | true=>some s
  | false=>match stepOk m ann t with
   | false=>none
   | true=>match stepT (denote tb) p w s t with
    | some (s',t')=>z7s tb p w m ann n s' t'
    | none=>none
open PySem.W in
theorem z6t {tb:String->Option Builtin} {p:Program} {w:World} {m:Nat} {ann:Option Value}:∀(n:Nat) {s s':SharedT} {t:Thread},z7s tb p w m ann n s t=some s'->topRun tb p w m ann n s.abs t=some s'.abs
 | 0,_,_,_,h=>nomatch h
 | n+1,s,s',t,h=>by
  unfold z7s at h
  unfold topRun
  cases a:through t with
  | true=>rw [a] at h;cases h;rfl
  | false=>
   rw [a] at h
   cases b:stepOk m ann t with
   | false=>rw [b] at h;cases h
   | true=>
    rw [b] at h
    cases c:stepT (denote tb) p w s t with
    | none=>rw [c] at h;cases h
    | some z=>
     obtain ⟨s2,t2⟩:=z
     rw [c] at h
     rw [stepT_spec c]
     exact z6t n h
open PySem.W in
noncomputable def zje:List Obj->Nat->BT->BT
 | [],_,t=>t
 | o::l,i,t=>zje l (i+1) (t.ins i o)
open PySem.W in
noncomputable def bootS (w:World) (os:OsState):SharedT:=⟨zje (boot_heap w.params).objs.toList 0 .nil,(boot_heap w.params).objs.size,(boot_heap w.params).life,Array.mk [],boot_drawn,boot_toks,os⟩
open PySem.W in
noncomputable def seenAt (p q:Program) (loose:List Str) (Xt:Shared->Bool) {α:Type} (Yf:Shared->α) (w:World) (t:Shared):=
 (staticsOk (importedModules p.main.body) (boot_heap w.params) t.heap&&namesBound p t.heap&&gensDone t&&laidKept (boot_heap w.params) t.heap,openSeen q loose (importedModules p.main.body) Xt true t,Yf t)
open PySem.W in
noncomputable def outAt (p q:Program) (loose:List Str) (Xt:Shared->Bool) {α:Type} (Yf:Shared->α) (N:Nat) (w:World) (os:OsState):=
 (z7s treeTable p w (boot_heap w.params).objs.size ((boot_heap w.params).nsMap mainGlobals "__annotations__") N (bootS w os) (topStub p)).map fun s=>seenAt p q loose Xt Yf w s.abs
open PySem.W in
theorem zhi:∀(w:World) (os:OsState),(bootS w os).abs=⟨boot_heap w.params,Array.mk [],boot_drawn,boot_toks,os⟩:=fun _ _=>by kernel_rfl
open PySem.W in
theorem zlo:∀w:World,(boot_heap w.params).isNs mainGlobals=true:=fun _=>by kernel_rfl
open PySem.W in
theorem zlp {p q:Program} {loose:List Str} {Xt:Shared->Bool} {α:Type} {Yf:Shared->α} {Ya:World->α} {N:Nat} (e:opening p=plainProg p.main.scope.names) (hN:Nat.ble 600 N=true)
  (f:∀s,fenceModules? p s=some s) (h:∀w os,outAt p q loose Xt Yf N w os=some (true,openGood q loose,Ya w)):LeftO p q loose Xt Yf Ya N:=fun w=>by
 obtain ⟨⟨hp,gs,d,k,os⟩,a,b⟩:=Option.map_eq_some_iff.mp (boot_open e hN f w)
 obtain ⟨rfl,rfl,rfl,rfl⟩:hp=boot_heap w.params/\gs=Array.mk []/\d=boot_drawn/\k=boot_toks:=by simpa using b
 obtain ⟨s,r,c⟩:=Option.map_eq_some_iff.mp (h w os)
 have r2:=z6t N r
 rw [zhi] at r2
 obtain ⟨l1,l2,l3⟩:_/\_/\_:=by simpa only [seenAt,Prod.mk.injEq] using c
 have t:topFrom treeTable p w N ⟨boot_heap w.params,Array.mk [],boot_drawn,boot_toks,os⟩=some s.abs:=by
  unfold topFrom
  dsimp only
  rw [zlo,r2]
  show (match staticsOk (importedModules p.main.body) (boot_heap w.params) s.abs.heap&&namesBound p s.abs.heap&&gensDone s.abs&&laidKept (boot_heap w.params) s.abs.heap with | true=>_ | false=>_)=_
  rw [l1]
 unfold openEnds
 rw [a]
 show (topFrom treeTable p w N _).map _=_
 rw [t]
 exact congrArg some (Prod.ext l2 l3)
abbrev vs (x:String) (t:Nat):Value:=.str (Str.ofString x) t
abbrev en (P:Params) (x:String) (t:Nat) (v:Value):DictEntry:=⟨PyData.keyHash P (Str.ofString x),.str (Str.ofString x) t,v⟩
abbrev oT (l:List Value):Obj:={ cls:=.type "tuple",data:=.seq l.toArray }
abbrev oD (l:List DictEntry) (n:Nat):Obj:={ cls:=.type "dict",data:=.dict l.toArray n }
abbrev oF (st:Stmt) (x q:String) (dV kV doc pm:Value) (an:Option Addr) (cd ct:Value):Obj:={ cls:=.type "function",data:=.func (PySem.W.fnOf (Str.ofString x) (Str.ofString q) (z0r st) (z0k st) (z02 st) dV kV doc pm an cd ct) }
end L2
noncomputable section
namespace K62
open PySem PySem.Spec PyProof.Rows L2
def z32:DE->R Bool:=
 (z46 asB (eOp dNe (z04 1) (eC (.int 0))))
def z33:DE->R D:=
 (zgo (z00 (z04 0) (z00 (z04 1) z0f)))
def z4h:DS->SR:=
 (z61 [true] (eCB z4o (z00 (z14 (zf8 (z04 0)) (bT 2) [] z32 z33) z0f)))
def z1b:List D->R D:=mOf true 1 0 z4h
def z1j:DE->R D:=
 (eOp z30 (z04 0) (z04 1))
def z1k:DS->SR:=
 (z28 (z3q false 6 [false,false,true,false,true] (eCB z1i (z00 (z14 (z4t (z00 (z04 4) (z00 (z04 2) z0f))) (bT 2) [] z4v z1j) z0f)))
  (zi6 dSetN 0 [true,false,false,true,false,true,true] (z04 6) (eOp z30 (eGetN (z04 0) (z04 6) (eC (.int 0))) (eOp z9v (z04 5) (z04 3)))))
def z2n:DS->SR:=
 (zap false [false,true] (iL (z04 1)) (.t [4,5]) z1k)
def z0w:List D->R D:=zu0 4 3 z2n
def z4p:DS->SR:=
 (z61 [true,true] (eCB zgw (z00 (eSl dSl (z04 0) (oSo (z04 1)) (oSo (eOp z30 (z04 1) (eC (.int 1))))) z0f)))
def z0b:List D->R D:=mOf false 2 0 z4p
def z2s:DS->SR:=
 (z61 [true] (zng (eUn (fun d=>(z9n d).map fun b=>.bl (!b)) (eUn (z66 "bool") (z04 0))) (eUn (z66 "int") (z04 0))))
def z0d:List D->R D:=mOf false 1 0 z2s
def z0u:DS->SR:=
 (z28 (z3q false 3 [false,false,false,true,false,true] (eOp z9k (eOp z30 (eOp z30 (eOp z30 (eOp zdw (z04 3) (z04 3)) (eOp zdw (eC (.int 48271)) (z04 3))) (eOp zdw (z04 5) (z04 5))) (eC (.int 11))) (eC (.int 2147483647))))
  (zno "list" zo6 4 [false,false,true,true] (z00 (eOp zkg (eOp z9k (eOp zgt (z04 3) (eC (.int 5))) (eOp z30 (eOp zdw (eC (.int 2)) (z04 2)) (eC (.int 1)))) (z04 2)) z0f)))
def z45:DS->SR:=
 (z28 (z3q false 3 [true] (eOp z9k (z04 0) (eC (.int 2147483647))))
  (z28 (z3q true 4 [] (z97 z0f))
  (z28 (zap true [false,true] (zar (z00 (z04 1) z0f)) (.n 5) z0u)
  (z61 [false,false,false,false,true] (eCB z1i (z00 (z04 4) z0f))))))
def z0x:List D->R D:=mOf false 3 3 z45
def z4q:DS->SR:=
 (z28 (sIf (z46 asB (eOp dEq (eOp z9k (z04 0) (eC (.int 3))) (eC (.int 2))))
   (z61 [true] (eOp zkg (eOp z30 (eOp z9k (eOp zgt (z04 0) (eC (.int 3))) (eOp zkg (eOp zdw (eC (.int 2)) (eOp znu (eC (.int 10)) (eC (.int 30)))) (eC (.int 1)))) (eC (.int 1))) (eOp znu (eC (.int 10)) (eC (.int 30)))))
   sNx)
  (z61 [true] (eOp zkg (eOp z9k (eOp zgt (z04 0) (eC (.int 3))) (eC (.int 7))) (eC (.int 3)))))
def z1c:List D->R D:=mOf false 1 0 z4q
def z16:DE->R D:=
 (eOp z30 (z04 0) (z04 1))
def z17:DS->SR:=
 (z28 (z3q false 7 [false,false,false,true,false,true] (eCB z1i (z00 (z14 (z4t (z00 (z04 3) (z00 (z04 5) z0f))) (bT 2) [] z4v z16) z0f)))
  (zi6 dSetN 2 [false,false,true,false,true,false,true,true] (z04 7) (eOp z30 (eGetN (z04 2) (z04 7) (eC (.int 0))) (eOp z9v (z04 4) (z04 6)))))
def z18:DS->SR:=
 (zap false [false,true] (iL (z04 1)) (.t [5,6]) z17)
def z1x:DE->R Bool:=
 (z46 asB (eOp dNe (z04 1) (eC (.int 0))))
def z1y:DE->R D:=
 (zgo (z00 (z04 0) (z00 (z04 1) z0f)))
def z2e:DS->SR:=
 (z28 (z3q true 2 [] z9t)
  (z28 (zap false [true] (iL (z04 0)) (.t [3,4]) z18)
  (z61 [false,false,true,true,true] (eCB z4o (z00 (z14 (zf8 (z04 2)) (bT 2) [] z1x z1y) z0f)))))
def z0p:List D->R D:=mOf true 2 6 z2e
def z2o:DS->SR:=
 (zqf 2 [false,true,false,true,true] z0w 4 (z00 (z04 1) (z00 (z04 3) (z00 (z04 4) z0f))))
def z5u:DS->SR:=
 (z28 (z3q true 2 [] z9t)
  (z28 (zap false [true] (iL (z04 0)) (.t [3,4]) z2o)
  (z61 [false,false,true] (z1n z1b (z00 (z04 2) z0f)))))
def z0v:List D->R D:=mOf true 2 3 z5u
def z2b:DS->SR:=
 (zi6 dSetN 3 [false,true,true,false,true,true] (z1n z0x (z00 (eOp z30 (eOp zdw (z04 5) (eC (.int 31))) (eOp zgt (z04 4) (eC (.int 3)))) (z00 (z04 1) (z00 (z04 2) z0f)))) (z1n z1c (z00 (z04 5) z0f)))
def z34:DE->R Bool:=
 (z46 asB (eOp dNe (z04 1) (eC (.int 0))))
def z35:DE->R D:=
 (zgo (z00 (z04 0) (z00 (z04 1) z0f)))
def z4i:DS->SR:=
 (z28 (z3q true 3 [] z9t)
  (z28 (zap false [true] (iEn (z00 (z04 0) z0f)) (.t [4,5]) z2b)
  (z61 [false,false,false,true] (eCB z3t (z00 (z14 (zf8 (z04 3)) (bT 2) [] z34 z35) z0f)))))
def z0y:List D->R D:=mOf true 3 3 z4i
def z27:DE->R D:=
 (eUn (fun d=>(z9n d).map fun b=>.bl (!b)) (z1n z0d (z00 (z04 0) z0f)))
def z1l:DS->SR:=
 (z28 (sIf (bOr (zgp (z46 z9n (eUn (z66 "tuple") (z04 3)))) (bOr (z46 asB (eOp dNe (eCB ze2 (z00 (z04 3) z0f)) (eC (.int 2)))) (bOr (zgp (z46 z9n (eUn (z66 "tuple") (eOp dIx (z04 3) (eC (.int 0)))))) (z46 asB (eOp dNe (eCB ze2 (z00 (eOp dIx (z04 3) (eC (.int 0))) z0f)) (z04 1))))))
   (z61 [] (eC (.bl false)))
   sNx)
  (z28 (sIf (bOr (z46 z9n (eCB zo0 (z00 (z14 (iL (eOp dIx (z04 3) (eC (.int 0)))) b1 [] z4v z27) z0f))) (bOr (zgp (z46 z9n (z1n z0d (z00 (eOp dIx (z04 3) (eC (.int 1))) z0f)))) (z46 asB (eOp dEq (eOp dIx (z04 3) (eC (.int 1))) (eC (.int 0))))))
   (z61 [] (eC (.bl false)))
   sNx)
  (sIf (znf (z46 asB (eOp zsq (z04 2) (eC (.int 0)))) (z46 asB (eOp zq8 (eOp dIx (eOp dIx (z04 0) (eOp zkg (z04 2) (eC (.int 1)))) (eC (.int 0))) (eOp dIx (z04 3) (eC (.int 0))))))
   (z61 [] (eC (.bl false)))
   sNx)))
def z2p:DS->SR:=
 (z28 (sIf (zgp (z46 z9n (eUn (z66 "list") (z04 0))))
   (z61 [] (eC (.bl false)))
   sNx)
  (z28 (zap false [true] (iEn (z00 (z04 0) z0f)) (.t [2,3]) z1l)
  (z61 [] (eC (.bl true)))))
def z0z:List D->R D:=mOf false 2 2 z2p
def z5v:DE->R D:=
 (eCB zmb (z00 (eOp dEq (z04 0) (eC (.int 0))) z0f))
def z5w:DE->R D:=
 (eUn zri (eCB zmb (z00 (eOp dEq (z04 0) (eC (.int 0))) z0f)))
def za1:DE->R D:=
 (z1n z0v (z00 (eOp dIx (z04 7) (eC (.int 0))) (z00 (z04 10) z0f)))
def za2:DE->R D:=
 (z1n z0v (z00 (z04 10) (z00 (eOp dIx (z04 7) (eC (.int 1))) z0f)))
def za3:DE->R Bool:=
 (z46 asB (eOp dNe (z04 11) (z97 (z00 (z97 z0f) (z00 (z97 z0f) z0f)))))
def zlq:DS->SR:=
 (z28 (z3q false 1 [true] (eOp z30 (eC (.int 1)) (eOp z9k (z1n z0b (z00 (z04 0) (z00 (eC (.int 0)) z0f))) (eC (.int 4)))))
  (z28 (z3q false 2 [true] (eOp dIx (z97 (z00 (eC (.int 1)) (z00 (eC (.int 1)) (z00 (eC (.int 60)) z0f)))) (eOp z9k (eOp zgt (z1n z0b (z00 (z04 0) (z00 (eC (.int 0)) z0f))) (eC (.int 4))) (eC (.int 3)))))
  (z28 (z3q true 3 [true] (eSl dSl (z04 0) (oSo (eC (.int 2))) (oSo (eC (.int 62)))))
  (z28 (z3q false 4 [true,false,false,true] (eOp z9k (z1n z0b (z00 (z04 0) (z00 (eC (.int 1)) z0f))) (eOp z30 (eCB ze2 (z00 (z04 3) z0f)) (eC (.int 1)))))
  (z28 (z3q true 5 [false,true,true,true,true] (z1n z0y (z00 (eSl dSl (z04 3) oNo (oSo (z04 4))) (z00 (z04 1) (z00 (z04 2) z0f)))))
  (z28 (z3q true 6 [false,true,true,true,true] (z1n z0y (z00 (eSl dSl (z04 3) (oSo (z04 4)) oNo) (z00 (z04 1) (z00 (z04 2) z0f)))))
  (z28 (z3q true 7 [false,false,false,false,false,true,true] (z97 (z00 (eCB z9o (z00 (z04 5) z0f)) (z00 (eCB z9o (z00 (z04 6) z0f)) z0f))))
  (z28 (z3q true 8 [false,false,false,false,false,true,true] (z1n z0p (z00 (z04 5) (z00 (z04 6) z0f))))
  (z28 (z3q true 9 [false,false,false,false,false,false,false,true] (z1n z0v (z00 (eOp dIx (z04 7) (eC (.int 0))) (z00 (eOp dIx (z04 7) (eC (.int 1))) z0f))))
  (z28 (sIf (bOr (zgp (z46 z9n (z1n z0z (z00 (z04 9) (z00 (z04 1) z0f))))) (bOr (z46 asB (eOp dNe (z04 9) (z04 8))) (z46 asB (eOp dNe (z1n z0v (z00 (eOp dIx (z04 7) (eC (.int 1))) (z00 (eOp dIx (z04 7) (eC (.int 0))) z0f))) (z04 8)))))
   (z61 [] (eC (.bl false)))
   sNx)
  (z28 (z3q true 10 [] (z97 z0f))
  (z28 (zqg 9 11 12 [true,true,true,true,true,true,true,true,true,false,true,false,false,true,true] za1 za2 za3)
  (z28 (sIf (bOr (z46 asB (eOp dNe (z04 7) (z97 (z00 (z04 5) (z00 (z04 6) z0f))))) (z46 asB (eOp dNe (z04 10) (z97 z0f))))
   (z61 [] (eC (.bl false)))
   sNx)
  (z28 (z3q true 13 [false,true] (z97 (z00 (zgo (z00 (eCB z1i (z00 (z14 (zar (z00 (z04 1) z0f)) b1 [] z4v z5v) z0f)) (z00 (eC (.int 1)) z0f))) z0f)))
  (z28 (z3q true 14 [false,true] (z97 (z00 (zgo (z00 (eCB z1i (z00 (z14 (zar (z00 (z04 1) z0f)) b1 [] z4v z5w) z0f)) (z00 (eC (.int 1)) z0f))) z0f)))
  (z28 (sIf (z46 asB (eOp dEq (z04 2) (eC (.int 60))))
   (z61 [] (eC (.bl true)))
   sNx)
  (z61 [false,false,false,false,false,true,false,true,false,false,false,false,false,true,true] (eOp dEq (z1n z0v (z00 (z1n z0v (z00 (eOp dIx (z04 7) (eC (.int 0))) (z00 (z04 14) z0f))) (z00 (z04 13) z0f))) (z04 5)))))))))))))))))))
def zcf:List D->R D:=mOf false 1 14 zlq
def top (i:Nat):Stmt:=PySem.Challenge.pw_friezeyard_k62_multiplied.main.body.getD i (.Pass ⟨0,0,0,0⟩)
abbrev z22:Stmt:=top 1
abbrev z2k:Stmt:=top 2
abbrev z10:Stmt:=top 3
abbrev z1d:Stmt:=top 5
abbrev z0j:Stmt:=top 6
abbrev z11:Stmt:=top 7
abbrev z1e:Stmt:=top 8
abbrev z23:Stmt:=top 9
abbrev z12:Stmt:=top 10
abbrev z0q:Stmt:=top 11
abbrev z7t:Stmt:=top 12
structure Txt (mg:Str->Option Value):Prop where
 «any»:mg "any"=none
 bool:mg "bool"=none
 enumerate:mg "enumerate"=none
 int:mg "int"=none
 isinstance:mg "isinstance"=none
 len:mg "len"=none
 list:mg "list"=none
 range:mg "range"=none
 sorted:mg "sorted"=none
 sum:mg "sum"=none
 tuple:mg "tuple"=none
 zip:mg "zip"=none
theorem za4:FnScope ["found"] ["found"] (z02 z22):=⟨rfl,rfl,rfl,by decide +kernel,rfl,by decide +kernel,by decide +kernel⟩
theorem sc_product:FnScope ["one","other","found","powers","times"] ["one","other"] (z02 z2k):=⟨rfl,rfl,rfl,by decide +kernel,rfl,by decide +kernel,by decide +kernel⟩
theorem sc_add_product:FnScope ["found","terms","powers","times","own_powers","own_times","key"] ["found","terms","powers","times"] (z02 z10):=⟨rfl,rfl,rfl,by decide +kernel,rfl,by decide +kernel,by decide +kernel⟩
theorem z7u:FnScope ["_law_script","_law_at"] ["_law_script","_law_at"] (z02 z1d):=⟨rfl,rfl,rfl,by decide +kernel,rfl,by decide +kernel,by decide +kernel⟩
theorem z4j:FnScope ["_law_found"] ["_law_found"] (z02 z0j):=⟨rfl,rfl,rfl,by decide +kernel,rfl,by decide +kernel,by decide +kernel⟩
theorem sc__law_powers:FnScope ["_law_cell","_law_many","_law_wide","_law_number","_law_found","_law_k"] ["_law_cell","_law_many","_law_wide"] (z02 z11):=⟨rfl,rfl,rfl,by decide +kernel,rfl,by decide +kernel,by decide +kernel⟩
theorem z7v:FnScope ["_law_cell"] ["_law_cell"] (z02 z1e):=⟨rfl,rfl,rfl,by decide +kernel,rfl,by decide +kernel,by decide +kernel⟩
theorem sc__law_sum:FnScope ["_law_cells","_law_many","_law_wide","_law_found","_law_k","_law_cell"] ["_law_cells","_law_many","_law_wide"] (z02 z23):=⟨rfl,rfl,rfl,by decide +kernel,rfl,by decide +kernel,by decide +kernel⟩
theorem sc__law_is_sum:FnScope ["_law_found","_law_many","_law_k","_law_term"] ["_law_found","_law_many"] (z02 z12):=⟨rfl,rfl,rfl,by decide +kernel,rfl,by decide +kernel,by decide +kernel⟩
theorem sc__law_product:FnScope ["_law_one","_law_other","_law_found","_law_powers_here","_law_times_here","_law_also","_law_many","_law_at"] ["_law_one","_law_other"] (z02 z0q):=⟨rfl,rfl,rfl,by decide +kernel,rfl,by decide +kernel,by decide +kernel⟩
theorem sc_law:FnScope ["_law_script","_law_many","_law_wide","_law_cells","_law_cut","_law_one","_law_other","_law_handed","_law_due","_law_found","_law_nought","_law_told","_law_some","_law_up","_law_down"] ["_law_script"] (z02 z7t):=⟨rfl,rfl,rfl,by decide +kernel,rfl,by decide +kernel,by decide +kernel⟩
theorem za5 {P:Program} {w:World} {K:Frag} {mg:Str->Option Value} {base:Heap} {f:Addr} {fd:FuncData} (F:Fun K "sum_from" "sum_from" z22 f fd) (T:Txt mg)  : FnOk P w K mg base (CX1 P w) 1 f fd ["found"] (spD K mg true z1b 1):=
 fnD (k:=0) F za4 rfl rfl fun cdv A outer s H E hr=>
  (z1z (z2v (zie (zfi rfl hr.units) zb7 rfl T.sorted boot_sorted (z01 (QE.wk (zo5 (z1u (caps:=[]) (ix:=[]) rfl rfl) (by decide +kernel) rfl rfl (z9x (qv 0)) (.one fun _ _ _=>(z3s (z64 hr.units) z65 (qv 1) z05 (z1p _))) (fun _ _ _=>(zdz (z01 (qv 0) (z01 (qv 1) z0a)))))) z0a))))
theorem z69 {P:Program} {w:World} {K:Frag} {mg:Str->Option Value} {base:Heap} {f:Addr} {fd:FuncData} (F:Fun K "add_product" "add_product" z10 f fd) (T:Txt mg)  : FnOk P w K mg base (CX1 P w) 1 f fd ["found","terms","powers","times"] (spU K z0w 4):=
 fnU (k:=0) F sc_add_product rfl rfl fun cdv A outer s H E hr=>
  (zj8 (ztz PassesOwn.leaving rfl (ze9 (qv 1)) (zwc (by decide) rfl (z1v (i:=4) sc_add_product.nd rfl (Or.inl rfl) (z1v (i:=5) sc_add_product.nd rfl (Or.inl rfl) z6k)))
    (zli (zty (i:=6) (by decide) sc_add_product.nd rfl (Or.inl rfl) (z7b z41 z42 rfl T.tuple boot_tuple (z01 (QE.wk (zo5 (z1u (caps:=[]) (ix:=[]) rfl rfl) (by decide +kernel) rfl rfl (zj7 rfl T.zip (z01 (qv 4) (z01 (qv 2) z0a))) .nil (fun _ _ _=>(z0l z4a z1q (qv 0) (qv 1))))) z0a)))
   (zj8 (zqd hr.units (pw 0) (qv 6) (z0l z4a z1q (zj6 hr.units (qv 0) (qv 6) z05) (z0l zj3 zf1 (qv 5) (qv 3))))))))
theorem z7w {P:Program} {w:World} {K:Frag} {mg:Str->Option Value} {base:Heap} {f:Addr} {fd:FuncData} (F:Fun K "_law_drawn" "_law_drawn" z1d f fd) (T:Txt mg)  : FnOk P w K mg base (CX1 P w) 1 f fd ["_law_script","_law_at"] (spD K mg false z0b 2):=
 fnD (k:=0) F z7u rfl rfl fun cdv A outer s H E hr=>
  (z1z (z2v (zie (zs4 rfl) zo2 rfl T.sum boot_sum (z01 (QE.wk (zrj z72 z7c (qv 0) (zmc (qv 1)) (zmc (z0l z4a z1q (qv 1) z05)))) z0a))))
theorem z4k {P:Program} {w:World} {K:Frag} {mg:Str->Option Value} {base:Heap} {f:Addr} {fd:FuncData} (F:Fun K "_law_is_number" "_law_is_number" z0j f fd) (T:Txt mg)  : FnOk P w K mg base (CX1 P w) 1 f fd ["_law_found"] (spD K mg false z0d 1):=
 fnD (k:=0) F z4j rfl rfl fun cdv A outer s H E hr=>
  (z1z (z2v (zsu (zic (ze1 rfl T.isinstance boot_isinstance (qv 0) (z53 (v:=.ty "bool") rfl T.bool boot_bool rfl))) (zsv (ze1 rfl T.isinstance boot_isinstance (qv 0) (z53 (v:=.ty "int") rfl T.int boot_int rfl))))))
theorem z6a {P:Program} {w:World} {K:Frag} {mg:Str->Option Value} {base:Heap} {f:Addr} {fd:FuncData} (F:Fun K "_law_powers" "_law_powers" z11 f fd) (T:Txt mg)  : FnOk P w K mg base (CX1 P w) 1 f fd ["_law_cell","_law_many","_law_wide"] (spD K mg false z0x 3):=
 fnD (k:=0) F sc__law_powers rfl rfl fun cdv A outer s H E hr=>
  (z0g (z2m (i:=3) sc__law_powers.nd rfl (Or.inl rfl) (z0l z75 z40 (qv 0) z05))
   (z0g (z2m (i:=4) sc__law_powers.nd rfl (Or.inl rfl) (z5h z0a))
   (z0g (zbx PassesOwn.leaving rfl (zt0 rfl T.range (z01 (qv 1) z0a)) (g_n (i:=5) sc__law_powers.nd rfl (Or.inl rfl))
    (z0g (z2m (i:=3) sc__law_powers.nd rfl (Or.inl rfl) (z0l z75 z40 (z0l z4a z1q (z0l z4a z1q (z0l z4a z1q (z0l zbm z6i (qv 3) (qv 3)) (z0l zbm z6i z05 (qv 3))) (z0l zbm z6i (qv 5) (qv 5))) z05) z05))
   (z1z (zt2 PySem.F.plainAttrs_list PySem.F.slot_list_append PySem.F.type_list_append z55 zo7 zkn (pw 4) (z01 (z0l zd7 z8k (z0l z75 z40 (z0l z8d z8l (qv 3) z05) (z0l z4a z1q (z0l zbm z6i z05 (qv 2)) z05)) (qv 2)) z0a)))))
   (z1z (z2v (z7b z41 z42 rfl T.tuple boot_tuple (z01 (qv 4) z0a)))))))
theorem z7x {P:Program} {w:World} {K:Frag} {mg:Str->Option Value} {base:Heap} {f:Addr} {fd:FuncData} (F:Fun K "_law_times" "_law_times" z1e f fd) (T:Txt mg)  : FnOk P w K mg base (CX1 P w) 1 f fd ["_law_cell"] (spD K mg false z1c 1):=
 fnD (k:=0) F z7v rfl rfl fun cdv A outer s H E hr=>
  (z0g (zih (z3s (zbr hr.units) zbs (z0l z75 z40 (qv 0) z05) z05 (z1p _))
    (z1z (z2v (z0l zd7 z8k (z0l z4a z1q (z0l z75 z40 (z0l z8d z8l (qv 0) z05) (z0l zd7 z8k (z0l zbm z6i z05 (z0l zn4 zi9 z05 z05)) z05)) z05) (z0l zn4 zi9 z05 z05))))
    z8m)
   (z1z (z2v (z0l zd7 z8k (z0l z75 z40 (z0l z8d z8l (qv 0) z05) z05) z05))))
theorem z5x {P:Program} {w:World} {K:Frag} {mg:Str->Option Value} {base:Heap} {f:Addr} {fd:FuncData} (F:Fun K "_law_product" "_law_product" z0q f fd) (T:Txt mg)  : FnOk P w K mg base (CX1 P w) 1 f fd ["_law_one","_law_other"] (spD K mg true z0p 2):=
 fnD (k:=0) F sc__law_product rfl rfl fun cdv A outer s H E hr=>
  (z0g (z2m (i:=2) sc__law_product.nd rfl (Or.inl rfl) zf0)
   (z0g (zbx PassesOwn.leaving rfl (ze9 (qv 0)) (g_t rfl (z1v (i:=3) sc__law_product.nd rfl (Or.inl rfl) (z1v (i:=4) sc__law_product.nd rfl (Or.inl rfl) z6k)))
    (z1z (zbx PassesOwn.leaving rfl (ze9 (qv 1)) (g_t rfl (z1v (i:=5) sc__law_product.nd rfl (Or.inl rfl) (z1v (i:=6) sc__law_product.nd rfl (Or.inl rfl) z6k)))
    (z0g (z2m (i:=7) sc__law_product.nd rfl (Or.inl rfl) (z7b z41 z42 rfl T.tuple boot_tuple (z01 (QE.wk (zo5 (z1u (caps:=[]) (ix:=[]) rfl rfl) (by decide +kernel) rfl rfl (zj7 rfl T.zip (z01 (qv 3) (z01 (qv 5) z0a))) .nil (fun _ _ _=>(z0l z4a z1q (qv 0) (qv 1))))) z0a)))
   (z1z (zj2 hr.units (pw 2) (qv 7) (z0l z4a z1q (zj6 hr.units (qv 2) (qv 7) z05) (z0l zj3 zf1 (qv 4) (qv 6)))))))))
   (z1z (z2v (zie (zfi rfl hr.units) zb7 rfl T.sorted boot_sorted (z01 (QE.wk (zo5 (z1u (caps:=[]) (ix:=[]) rfl rfl) (by decide +kernel) rfl rfl (z9x (qv 2)) (.one fun _ _ _=>(z3s (z64 hr.units) z65 (qv 1) z05 (z1p _))) (fun _ _ _=>(zdz (z01 (qv 0) (z01 (qv 1) z0a)))))) z0a))))))
theorem zcg {P:Program} {w:World} {K:Frag} {mg:Str->Option Value} {base:Heap} {f:Addr} {fd:FuncData} (F:Fun K "product" "product" z2k f fd) (T:Txt mg) (G_add_product:z5g P w K mg base "add_product" ["found","terms","powers","times"] 1 (spU K z0w 4)) (G_sum_from:z5g P w K mg base "sum_from" ["found"] 1 (spD K mg true z1b 1)):FnOk P w K mg base (CX1 P w) 2 f fd ["one","other"] (spD K mg true z0v 2):=
 fnD (k:=1) F sc_product rfl rfl fun cdv A outer s H E hr=>
  (z0g (z2m (i:=2) sc_product.nd rfl (Or.inl rfl) zf0)
   (z0g (zbx PassesOwn.leaving rfl (ze9 (qv 0)) (g_t rfl (z1v (i:=3) sc_product.nd rfl (Or.inl rfl) (z1v (i:=4) sc_product.nd rfl (Or.inl rfl) z6k)))
    (z1z (zu2 (i:=2) G_add_product hr rfl (pw 2) (z01 (qv 1) (z01 (qv 3) (z01 (qv 4) z0a))))))
   (z1z (z2v (z2u z8j G_sum_from hr rfl (z01 (qv 2) z0a))))))
theorem za6 {P:Program} {w:World} {K:Frag} {mg:Str->Option Value} {base:Heap} {f:Addr} {fd:FuncData} (F:Fun K "_law_sum" "_law_sum" z23 f fd) (T:Txt mg) (G__law_powers:z5g P w K mg base "_law_powers" ["_law_cell","_law_many","_law_wide"] 1 (spD K mg false z0x 3)) (G__law_times:z5g P w K mg base "_law_times" ["_law_cell"] 1 (spD K mg false z1c 1)):FnOk P w K mg base (CX1 P w) 2 f fd ["_law_cells","_law_many","_law_wide"] (spD K mg true z0y 3):=
 fnD (k:=1) F sc__law_sum rfl rfl fun cdv A outer s H E hr=>
  (z0g (z2m (i:=3) sc__law_sum.nd rfl (Or.inl rfl) zf0)
   (z0g (zbx PassesOwn.leaving rfl (zv8 rfl T.enumerate (z01 (qv 0) z0a)) (g_t rfl (z1v (i:=4) sc__law_sum.nd rfl (Or.inl rfl) (z1v (i:=5) sc__law_sum.nd rfl (Or.inl rfl) z6k)))
    (z1z (zj2 hr.units (pw 3) (z2u z8j G__law_powers hr rfl (z01 (z0l z4a z1q (z0l zbm z6i (qv 5) z05) (z0l z8d z8l (qv 4) z05)) (z01 (qv 1) (z01 (qv 2) z0a)))) (z2u z8j G__law_times hr rfl (z01 (qv 5) z0a)))))
   (z1z (z2v (zie (zeo rfl hr.units) zem rfl T.sorted boot_sorted (z01 (QE.wk (zo5 (z1u (caps:=[]) (ix:=[]) rfl rfl) (by decide +kernel) rfl rfl (z9x (qv 3)) (.one fun _ _ _=>(z3s (z64 hr.units) z65 (qv 1) z05 (z1p _))) (fun _ _ _=>(zdz (z01 (qv 0) (z01 (qv 1) z0a)))))) z0a))))))
theorem z6b {P:Program} {w:World} {K:Frag} {mg:Str->Option Value} {base:Heap} {f:Addr} {fd:FuncData} (F:Fun K "_law_is_sum" "_law_is_sum" z12 f fd) (T:Txt mg) (G__law_is_number:z5g P w K mg base "_law_is_number" ["_law_found"] 1 (spD K mg false z0d 1)):FnOk P w K mg base (CX1 P w) 2 f fd ["_law_found","_law_many"] (spD K mg false z0z 2):=
 fnD (k:=1) F sc__law_is_sum rfl rfl fun cdv A outer s H E hr=>
  (z0g (zih (ze0 (zbw (ze1 rfl T.isinstance boot_isinstance (qv 0) (z53 (v:=.ty "list") rfl T.list boot_list rfl))))
    (z1z (z2v zia))
    z8m)
   (z0g (zbx PassesOwn.leaving rfl (zv8 rfl T.enumerate (z01 (qv 0) z0a)) (g_t rfl (z1v (i:=2) sc__law_is_sum.nd rfl (Or.inl rfl) (z1v (i:=3) sc__law_is_sum.nd rfl (Or.inl rfl) z6k)))
    (z0g (zih (QW.pt (zid (ze0 (zbw (ze1 rfl T.isinstance boot_isinstance (qv 3) (z53 (v:=.ty "tuple") rfl T.tuple boot_tuple rfl)))) (zid (z3s (z64 hr.units) z65 (zie ze3 ze4 rfl T.len PySem.boot_len (z01 (qv 3) z0a)) z05 (z1p _)) (zid (ze0 (zbw (ze1 rfl T.isinstance boot_isinstance (z99 (z98 hr.units) z3l (qv 3) z05) (z53 (v:=.ty "tuple") rfl T.tuple boot_tuple rfl)))) (zgv (z3s (z64 hr.units) z65 (zie ze3 ze4 rfl T.len PySem.boot_len (z01 (z99 (z98 hr.units) z3l (qv 3) z05) z0a)) (qv 1) (z1p _)))))))
    (z1z (z2v zia))
    z8m)
   (z0g (zih (QW.pt (zid (zbw (zie (zs5 rfl) zo3 rfl T.«any» boot_any (z01 (QE.wk (zt1 (z1u (caps:=[]) (ix:=[]) rfl rfl) (by decide +kernel) rfl (ze9 (z99 (z98 hr.units) z3l (qv 3) z05)) .nil (fun _ _ _=>(zic (z2u zv3 G__law_is_number hr rfl (z01 (qv 0) z0a)))))) z0a))) (zid (ze0 (zbw (z2u z8j G__law_is_number hr rfl (z01 (z99 (z98 hr.units) z3l (qv 3) z05) z0a)))) (zgv (z3s (zbr hr.units) zbs (z99 (z98 hr.units) z3l (qv 3) z05) z05 (z1p _))))))
    (z1z (z2v zia))
    z8m)
   (z1z (zih (QW.pt (zsw (z3s zvn znv (qv 2) z05 (z1p _)) (znz (z3s (ztx hr.units) zq9 (z99 (z98 hr.units) z3l (z99 (z98 hr.units) z3l (qv 0) (z0l zd7 z8k (qv 2) z05)) z05) (z99 (z98 hr.units) z3l (qv 3) z05) (z1p _)))))
    (z1z (z2v zia))
    z8m)))))
   (z1z (z2v zia))))
theorem zqp {P:Program} {w:World} {K:Frag} {mg:Str->Option Value} {base:Heap} {f:Addr} {fd:FuncData} (F:Fun K "law" "law" z7t f fd) (T:Txt mg) (G__law_drawn:z5g P w K mg base "_law_drawn" ["_law_script","_law_at"] 1 (spD K mg false z0b 2)) (G__law_is_sum:z5g P w K mg base "_law_is_sum" ["_law_found","_law_many"] 2 (spD K mg false z0z 2)) (G__law_product:z5g P w K mg base "_law_product" ["_law_one","_law_other"] 1 (spD K mg true z0p 2)) (G__law_sum:z5g P w K mg base "_law_sum" ["_law_cells","_law_many","_law_wide"] 2 (spD K mg true z0y 3)) (G_product:z5g P w K mg base "product" ["one","other"] 2 (spD K mg true z0v 2)):FnOk P w K mg base (CX1 P w) 3 f fd ["_law_script"] (spD K mg false zcf 1):=
 fnD (k:=2) F sc_law rfl rfl fun cdv A outer s H E hr=>
  (z0g (z2m (i:=1) sc_law.nd rfl (Or.inl rfl) (z0l z4a z1q z05 (z0l z75 z40 (z2u z8j G__law_drawn hr rfl (z01 (qv 0) (z01 z05 z0a))) z05)))
   (z0g (z2m (i:=2) sc_law.nd rfl (Or.inl rfl) (z99 (z98 hr.units) z3l (QE.wk (z5h (z01 z05 (z01 z05 (z01 z05 z0a))))) (z0l z75 z40 (z0l z8d z8l (z2u z8j G__law_drawn hr rfl (z01 (qv 0) (z01 z05 z0a))) z05) z05)))
   (z0g (z2m (i:=3) sc_law.nd rfl (Or.inl rfl) (zrj z72 z7c (qv 0) (zmc z05) (zmc z05)))
   (z0g (z2m (i:=4) sc_law.nd rfl (Or.inl rfl) (z0l z75 z40 (z2u z8j G__law_drawn hr rfl (z01 (qv 0) (z01 z05 z0a))) (z0l z4a z1q (zie ze3 ze4 rfl T.len PySem.boot_len (z01 (qv 3) z0a)) z05)))
   (z0g (z2m (i:=5) sc_law.nd rfl (Or.inl rfl) (z2u z8j G__law_sum hr rfl (z01 (QE.wk (zrj z72 z7c (qv 3) zv7 (zmc (qv 4)))) (z01 (qv 1) (z01 (qv 2) z0a)))))
   (z0g (z2m (i:=6) sc_law.nd rfl (Or.inl rfl) (z2u z8j G__law_sum hr rfl (z01 (QE.wk (zrj z72 z7c (qv 3) (zmc (qv 4)) zv7)) (z01 (qv 1) (z01 (qv 2) z0a)))))
   (z0g (z2m (i:=7) sc_law.nd rfl (Or.inl rfl) (z5h (z01 (QE.wk (z7b ze5 ze6 rfl T.list boot_list (z01 (qv 5) z0a))) (z01 (QE.wk (z7b ze5 ze6 rfl T.list boot_list (z01 (qv 6) z0a))) z0a))))
   (z0g (z2m (i:=8) sc_law.nd rfl (Or.inl rfl) (z2u z8j G__law_product hr rfl (z01 (qv 5) (z01 (qv 6) z0a))))
   (z0g (z2m (i:=9) sc_law.nd rfl (Or.inl rfl) (z2u z8j G_product hr rfl (z01 (z99 (z98 hr.units) z3l (qv 7) z05) (z01 (z99 (z98 hr.units) z3l (qv 7) z05) z0a))))
   (z0g (zih (QW.pt (zid (ze0 (zbw (z2u z8j G__law_is_sum hr rfl (z01 (qv 9) (z01 (qv 1) z0a))))) (zid (z3s (z64 hr.units) z65 (qv 9) (qv 8) (z1p _)) (zgv (z3s (z64 hr.units) z65 (QE.wk (z2u z8j G_product hr rfl (z01 (z99 (z98 hr.units) z3l (qv 7) z05) (z01 (z99 (z98 hr.units) z3l (qv 7) z05) z0a)))) (qv 8) (z1p _))))))
    (z1z (z2v zia))
    z8m)
   (z0g (z2m (i:=10) sc_law.nd rfl (Or.inl rfl) (z5h z0a))
   (zu3 (zcs (i:=11) sc_law.nd rfl (Or.inl rfl) (zcx (z2x (zj5 (z2u z8j G_product hr rfl (z01 (z99 (z98 hr.units) z3l (qv 7) z05) (z01 (qv 10) z0a)))) (z2x (zj5 (z2u z8j G_product hr rfl (z01 (qv 10) (z01 (z99 (z98 hr.units) z3l (qv 7) z05) z0a)))) pa_nil))))
   (zmp (zq3 (z3s (z64 hr.units) z65 (qv 11) (QE.wk (z5h (z01 (QE.wk (z5h z0a)) (z01 (QE.wk (z5h z0a)) z0a)))) (z1p _))) zcq pss_nil)
   (z9i PassesOwn.leaving rfl (zi3 (zmr zn1 (pw 11) (zcx (z2x (pw 9) pa_nil)))) (z6y (i:=12) sc_law.nd rfl (Or.inl rfl)) (z9c (z9d (zmz PySem.F.plainAttrs_list PySem.F.slot_list_append PySem.F.type_list_append z55 (pw 12) (z2x pe_int pa_nil)))))
   (z0g (zih (QW.pt (zid (z3s (z64 hr.units) z65 (qv 7) (QE.wk (z5h (z01 (qv 5) (z01 (qv 6) z0a)))) (z1p _)) (zgv (z3s (z64 hr.units) z65 (qv 10) (QE.wk (z5h z0a)) (z1p _)))))
    (z1z (z2v zia))
    z8m)
   (z0g (z2m (i:=13) sc_law.nd rfl (Or.inl rfl) (z5h (z01 (zdz (z01 (z7b z41 z42 rfl T.tuple boot_tuple (z01 (QE.wk (zt1 (z1u (caps:=[]) (ix:=[]) rfl rfl) (by decide +kernel) rfl (zt0 rfl T.range (z01 (qv 1) z0a)) .nil (fun _ _ _=>(z7b zna zif rfl T.int boot_int (z01 (zkl (zbr hr.units) zbs (qv 0) z05 (z1p _)) z0a))))) z0a)) (z01 z05 z0a))) z0a)))
   (z0g (z2m (i:=14) sc_law.nd rfl (Or.inl rfl) (z5h (z01 (zdz (z01 (z7b z41 z42 rfl T.tuple boot_tuple (z01 (QE.wk (zt1 (z1u (caps:=[]) (ix:=[]) rfl rfl) (by decide +kernel) rfl (zt0 rfl T.range (z01 (qv 1) z0a)) .nil (fun _ _ _=>(zw4 zrw znw (z7b zna zif rfl T.int boot_int (z01 (zkl (zbr hr.units) zbs (qv 0) z05 (z1p _)) z0a)))))) z0a)) (z01 z05 z0a))) z0a)))
   (z0g (zih (z3s (zbr hr.units) zbs (qv 2) z05 (z1p _))
    (z1z (z2v zia))
    z8m)
   (z1z (z2v (zkl (zbr hr.units) zbs (QE.wk (z2u z8j G_product hr rfl (z01 (QE.wk (z2u z8j G_product hr rfl (z01 (z99 (z98 hr.units) z3l (qv 7) z05) (z01 (qv 14) z0a)))) (z01 (qv 13) z0a)))) (qv 5) (z1p _))))))))))))))))))))
theorem zlr {us:List Value} (h:us.length=1):∃a0,us=[a0]:=by
 rcases us with _ | ⟨a0,us⟩
 . cases h
 cases us with
 | nil=>exact ⟨a0,rfl⟩
 | cons _ _=>simp at h
theorem zhj {us:List Value} (h:us.length=2):∃a0 a1,us=[a0,a1]:=by
 rcases us with _ | ⟨a0,us⟩
 . cases h
 rcases us with _ | ⟨a1,us⟩
 . cases h
 cases us with
 | nil=>exact ⟨a0,a1,rfl⟩
 | cons _ _=>simp at h
theorem zqq {us:List Value} (h:us.length=3):∃a0 a1 a2,us=[a0,a1,a2]:=by
 rcases us with _ | ⟨a0,us⟩
 . cases h
 rcases us with _ | ⟨a1,us⟩
 . cases h
 rcases us with _ | ⟨a2,us⟩
 . cases h
 cases us with
 | nil=>exact ⟨a0,a1,a2,rfl⟩
 | cons _ _=>simp at h
theorem zu8 {us:List Value} (h:us.length=4):∃a0 a1 a2 a3,us=[a0,a1,a2,a3]:=by
 rcases us with _ | ⟨a0,us⟩
 . cases h
 rcases us with _ | ⟨a1,us⟩
 . cases h
 rcases us with _ | ⟨a2,us⟩
 . cases h
 rcases us with _ | ⟨a3,us⟩
 . cases h
 cases us with
 | nil=>exact ⟨a0,a1,a2,a3,rfl⟩
 | cons _ _=>simp at h
theorem all_mk {l:PySem.W.OpenLaw} {w:World} {K:Frag} {h:Heap} {mg:Str->Option Value} {fa:Addr} (X:K.In h) (G:h.Ns mainGlobals mg) (hfa:mg "law"=some (.ref fa))
  {f0:Addr} {od0 an0:Option Addr} {sl0:Array (Option Value)} {oc0 kV0 dc0 pm0 cd0 ct0:Value}
  {f1:Addr} {od1 an1:Option Addr} {sl1:Array (Option Value)} {oc1 kV1 dc1 pm1 cd1 ct1:Value}
  {f2:Addr} {od2 an2:Option Addr} {sl2:Array (Option Value)} {oc2 kV2 dc2 pm2 cd2 ct2:Value}
  {f3:Addr} {od3 an3:Option Addr} {sl3:Array (Option Value)} {oc3 kV3 dc3 pm3 cd3 ct3:Value}
  {f4:Addr} {od4 an4:Option Addr} {sl4:Array (Option Value)} {oc4 kV4 dc4 pm4 cd4 ct4:Value}
  {f5:Addr} {od5 an5:Option Addr} {sl5:Array (Option Value)} {oc5 kV5 dc5 pm5 cd5 ct5:Value}
  {f6:Addr} {od6 an6:Option Addr} {sl6:Array (Option Value)} {oc6 kV6 dc6 pm6 cd6 ct6:Value}
  {f7:Addr} {od7 an7:Option Addr} {sl7:Array (Option Value)} {oc7 kV7 dc7 pm7 cd7 ct7:Value}
  {f8:Addr} {od8 an8:Option Addr} {sl8:Array (Option Value)} {oc8 kV8 dc8 pm8 cd8 ct8:Value}
  {f9:Addr} {od9 an9:Option Addr} {sl9:Array (Option Value)} {oc9 kV9 dc9 pm9 cd9 ct9:Value}
  {f10:Addr} {od10 an10:Option Addr} {sl10:Array (Option Value)} {oc10 kV10 dc10 pm10 cd10 ct10:Value}
  (a0:nsIn K mainGlobals "sum_from"=some (some (.ref f0))) (l0:K.lookup f0=some ⟨oc0,od0,.func (PySem.W.fnOf "sum_from" "sum_from" (z0r z22) (z0k z22) (z02 z22) .none kV0 dc0 pm0 an0 cd0 ct0),sl0⟩) (c0:codeIn K cd0 "sum_from"=true) (k0:keepIn K (.ref f0)=true)
  (a1:nsIn K mainGlobals "add_product"=some (some (.ref f1))) (l1:K.lookup f1=some ⟨oc1,od1,.func (PySem.W.fnOf "add_product" "add_product" (z0r z10) (z0k z10) (z02 z10) .none kV1 dc1 pm1 an1 cd1 ct1),sl1⟩) (c1:codeIn K cd1 "add_product"=true) (k1:keepIn K (.ref f1)=true)
  (a2:nsIn K mainGlobals "_law_drawn"=some (some (.ref f2))) (l2:K.lookup f2=some ⟨oc2,od2,.func (PySem.W.fnOf "_law_drawn" "_law_drawn" (z0r z1d) (z0k z1d) (z02 z1d) .none kV2 dc2 pm2 an2 cd2 ct2),sl2⟩) (c2:codeIn K cd2 "_law_drawn"=true) (k2:keepIn K (.ref f2)=true)
  (a3:nsIn K mainGlobals "_law_is_number"=some (some (.ref f3))) (l3:K.lookup f3=some ⟨oc3,od3,.func (PySem.W.fnOf "_law_is_number" "_law_is_number" (z0r z0j) (z0k z0j) (z02 z0j) .none kV3 dc3 pm3 an3 cd3 ct3),sl3⟩) (c3:codeIn K cd3 "_law_is_number"=true) (k3:keepIn K (.ref f3)=true)
  (a4:nsIn K mainGlobals "_law_powers"=some (some (.ref f4))) (l4:K.lookup f4=some ⟨oc4,od4,.func (PySem.W.fnOf "_law_powers" "_law_powers" (z0r z11) (z0k z11) (z02 z11) .none kV4 dc4 pm4 an4 cd4 ct4),sl4⟩) (c4:codeIn K cd4 "_law_powers"=true) (k4:keepIn K (.ref f4)=true)
  (a5:nsIn K mainGlobals "_law_times"=some (some (.ref f5))) (l5:K.lookup f5=some ⟨oc5,od5,.func (PySem.W.fnOf "_law_times" "_law_times" (z0r z1e) (z0k z1e) (z02 z1e) .none kV5 dc5 pm5 an5 cd5 ct5),sl5⟩) (c5:codeIn K cd5 "_law_times"=true) (k5:keepIn K (.ref f5)=true)
  (a6:nsIn K mainGlobals "_law_product"=some (some (.ref f6))) (l6:K.lookup f6=some ⟨oc6,od6,.func (PySem.W.fnOf "_law_product" "_law_product" (z0r z0q) (z0k z0q) (z02 z0q) .none kV6 dc6 pm6 an6 cd6 ct6),sl6⟩) (c6:codeIn K cd6 "_law_product"=true) (k6:keepIn K (.ref f6)=true)
  (a7:nsIn K mainGlobals "product"=some (some (.ref f7))) (l7:K.lookup f7=some ⟨oc7,od7,.func (PySem.W.fnOf "product" "product" (z0r z2k) (z0k z2k) (z02 z2k) .none kV7 dc7 pm7 an7 cd7 ct7),sl7⟩) (c7:codeIn K cd7 "product"=true) (k7:keepIn K (.ref f7)=true)
  (a8:nsIn K mainGlobals "_law_sum"=some (some (.ref f8))) (l8:K.lookup f8=some ⟨oc8,od8,.func (PySem.W.fnOf "_law_sum" "_law_sum" (z0r z23) (z0k z23) (z02 z23) .none kV8 dc8 pm8 an8 cd8 ct8),sl8⟩) (c8:codeIn K cd8 "_law_sum"=true) (k8:keepIn K (.ref f8)=true)
  (a9:nsIn K mainGlobals "_law_is_sum"=some (some (.ref f9))) (l9:K.lookup f9=some ⟨oc9,od9,.func (PySem.W.fnOf "_law_is_sum" "_law_is_sum" (z0r z12) (z0k z12) (z02 z12) .none kV9 dc9 pm9 an9 cd9 ct9),sl9⟩) (c9:codeIn K cd9 "_law_is_sum"=true) (k9:keepIn K (.ref f9)=true)
  (a10:nsIn K mainGlobals "law"=some (some (.ref f10))) (l10:K.lookup f10=some ⟨oc10,od10,.func (PySem.W.fnOf "law" "law" (z0r z7t) (z0k z7t) (z02 z7t) .none kV10 dc10 pm10 an10 cd10 ct10),sl10⟩) (c10:codeIn K cd10 "law"=true) (k10:keepIn K (.ref f10)=true)
  (z_any:nsIn K mainGlobals "any"=some none) (z_bool:nsIn K mainGlobals "bool"=some none) (z_enumerate:nsIn K mainGlobals "enumerate"=some none) (z_int:nsIn K mainGlobals "int"=some none) (z_isinstance:nsIn K mainGlobals "isinstance"=some none) (z_len:nsIn K mainGlobals "len"=some none) (z_list:nsIn K mainGlobals "list"=some none) (z_range:nsIn K mainGlobals "range"=some none) (z_sorted:nsIn K mainGlobals "sorted"=some none) (z_sum:nsIn K mainGlobals "sum"=some none) (z_tuple:nsIn K mainGlobals "tuple"=some none) (z_zip:nsIn K mainGlobals "zip"=some none) :
  ∃fd:FuncData,(∀(s:Shared) (v:Value),BindsTo s fd ⟨[v],[]⟩ [("_law_script",v)])/\∀base:Heap,K.In base->base.Ns mainGlobals mg->FnOk l.prog w K mg base (CX1 l.prog w) 3 fa fd ["_law_script"] (spL K false zcf 1):=by
 have e:=hfa.symm.trans (mg_of X G a10)
 cases e
 have T:Txt mg:=⟨mg_none_of X G z_any,mg_none_of X G z_bool,mg_none_of X G z_enumerate,mg_none_of X G z_int,mg_none_of X G z_isinstance,mg_none_of X G z_len,mg_none_of X G z_list,mg_none_of X G z_range,mg_none_of X G z_sorted,mg_none_of X G z_sum,mg_none_of X G z_tuple,mg_none_of X G z_zip⟩
 have F0:=z2y (st:=z22) l0 c0 k0
 have b0:=F0.binds (ps:=["found"]) fun _ _ _ _ _ _ us hl=>by obtain ⟨_,rfl⟩:=zlr hl;rfl
 have F1:=z2y (st:=z10) l1 c1 k1
 have b1:=F1.binds (ps:=["found","terms","powers","times"]) fun _ _ _ _ _ _ us hl=>by obtain ⟨_,_,_,_,rfl⟩:=zu8 hl;rfl
 have F2:=z2y (st:=z1d) l2 c2 k2
 have b2:=F2.binds (ps:=["_law_script","_law_at"]) fun _ _ _ _ _ _ us hl=>by obtain ⟨_,_,rfl⟩:=zhj hl;rfl
 have F3:=z2y (st:=z0j) l3 c3 k3
 have b3:=F3.binds (ps:=["_law_found"]) fun _ _ _ _ _ _ us hl=>by obtain ⟨_,rfl⟩:=zlr hl;rfl
 have F4:=z2y (st:=z11) l4 c4 k4
 have b4:=F4.binds (ps:=["_law_cell","_law_many","_law_wide"]) fun _ _ _ _ _ _ us hl=>by obtain ⟨_,_,_,rfl⟩:=zqq hl;rfl
 have F5:=z2y (st:=z1e) l5 c5 k5
 have b5:=F5.binds (ps:=["_law_cell"]) fun _ _ _ _ _ _ us hl=>by obtain ⟨_,rfl⟩:=zlr hl;rfl
 have F6:=z2y (st:=z0q) l6 c6 k6
 have b6:=F6.binds (ps:=["_law_one","_law_other"]) fun _ _ _ _ _ _ us hl=>by obtain ⟨_,_,rfl⟩:=zhj hl;rfl
 have F7:=z2y (st:=z2k) l7 c7 k7
 have b7:=F7.binds (ps:=["one","other"]) fun _ _ _ _ _ _ us hl=>by obtain ⟨_,_,rfl⟩:=zhj hl;rfl
 have F8:=z2y (st:=z23) l8 c8 k8
 have b8:=F8.binds (ps:=["_law_cells","_law_many","_law_wide"]) fun _ _ _ _ _ _ us hl=>by obtain ⟨_,_,_,rfl⟩:=zqq hl;rfl
 have F9:=z2y (st:=z12) l9 c9 k9
 have b9:=F9.binds (ps:=["_law_found","_law_many"]) fun _ _ _ _ _ _ us hl=>by obtain ⟨_,_,rfl⟩:=zhj hl;rfl
 have F10:=z2y (st:=z7t) l10 c10 k10
 refine ⟨PySem.W.fnOf "law" "law" (z0r z7t) (z0k z7t) (z02 z7t) .none kV10 dc10 pm10 an10 cd10 ct10,fun s v=>.of_eq rfl,fun base kb nb=>?_⟩
 have G_sum_from:z5g l.prog w K mg base "sum_from" ["found"] 1 (spD K mg true z1b 1):=⟨f0,_,za5 F0 T ,b0,mg_of X G a0,k0⟩
 have G_add_product:z5g l.prog w K mg base "add_product" ["found","terms","powers","times"] 1 (spU K z0w 4):=⟨f1,_,z69 F1 T ,b1,mg_of X G a1,k1⟩
 have G__law_drawn:z5g l.prog w K mg base "_law_drawn" ["_law_script","_law_at"] 1 (spD K mg false z0b 2):=⟨f2,_,z7w F2 T ,b2,mg_of X G a2,k2⟩
 have G__law_is_number:z5g l.prog w K mg base "_law_is_number" ["_law_found"] 1 (spD K mg false z0d 1):=⟨f3,_,z4k F3 T ,b3,mg_of X G a3,k3⟩
 have G__law_powers:z5g l.prog w K mg base "_law_powers" ["_law_cell","_law_many","_law_wide"] 1 (spD K mg false z0x 3):=⟨f4,_,z6a F4 T ,b4,mg_of X G a4,k4⟩
 have G__law_times:z5g l.prog w K mg base "_law_times" ["_law_cell"] 1 (spD K mg false z1c 1):=⟨f5,_,z7x F5 T ,b5,mg_of X G a5,k5⟩
 have G__law_product:z5g l.prog w K mg base "_law_product" ["_law_one","_law_other"] 1 (spD K mg true z0p 2):=⟨f6,_,z5x F6 T ,b6,mg_of X G a6,k6⟩
 have G_product:z5g l.prog w K mg base "product" ["one","other"] 2 (spD K mg true z0v 2):=⟨f7,_,zcg F7 T G_add_product G_sum_from,b7,mg_of X G a7,k7⟩
 have G__law_sum:z5g l.prog w K mg base "_law_sum" ["_law_cells","_law_many","_law_wide"] 2 (spD K mg true z0y 3):=⟨f8,_,za6 F8 T G__law_powers G__law_times,b8,mg_of X G a8,k8⟩
 have G__law_is_sum:z5g l.prog w K mg base "_law_is_sum" ["_law_found","_law_many"] 2 (spD K mg false z0z 2):=⟨f9,_,z6b F9 T G__law_is_number,b9,mg_of X G a9,k9⟩
 exact (zqp F10 T G__law_drawn G__law_is_sum G__law_product G__law_sum G_product).imp fun _ _ _ _ z=>z.spD
noncomputable def K:Params->Frag:=fun P=>
 (nat_lit 2,(⟨.none,none,(.dict [].toArray 0),#[]⟩)) ::
 (nat_lit 3,(oD [en P "__name__" 165 (vs "law_friezeyard_k62_multiplied" 212),en P "__doc__" 166 .none,en P "__package__" 167 .none,en P "__loader__" 168 (.builtin "__main__.__loader__#opaque"),en P "__spec__" 169 .none,en P "__annotations__" 170 (.ref 6),en P "__builtins__" 171 (.ref 4),en P "__file__" 173 (vs "/claim/cut.py" 172),en P "__cached__" 174 .none,en P "sum_from" 194 (.ref 19),en P "product" 205 (.ref 26),en P "add_product" 211 (.ref 31),en P "_law_drawn" 221 (.ref 38),en P "_law_is_number" 228 (.ref 45),en P "_law_powers" 240 (.ref 52),en P "_law_times" 247 (.ref 59),en P "_law_sum" 253 (.ref 64),en P "_law_is_sum" 259 (.ref 69),en P "_law_product" 265 (.ref 74),en P "law" 271 (.ref 79)] 20)) ::
 (nat_lit 6,(oD [] 0)) ::
 (nat_lit 15,(oT [])) ::
 (nat_lit 18,(⟨(.type "code"),none,(.fields [(vs "sum_from" 189),(vs "sum_from" 190),(vs "/claim/cut.py" 191),(.int 2 0),(.int 1 0),(.int 0 0),(.int 0 0),(.int 3 0),(.ref 15),(.bool true),(.int 181 0),(.ref 16),.none,.none,.none,(.ref 17),(.int 192 0),(.int 2 0),(vs "/claim/cut.py" 193)].toArray),#[]⟩)) ::
 (nat_lit 19,(oF (top 1) "sum_from" "sum_from" .none .none .none (vs "friezeyard.sums" 187) none (.ref 18) .none)) ::
 (nat_lit 20,(oT [])) ::
 (nat_lit 22,(oT [(vs "one" 198),(vs "other" 199),(vs "found" 200),(vs "powers" 201),(vs "times" 202)])) ::
 (nat_lit 23,(oT [])) ::
 (nat_lit 25,(⟨(.type "code"),none,(.fields [(vs "product" 195),(vs "product" 196),(vs "/claim/cut.py" 197),(.int 4 0),(.int 2 0),(.int 0 0),(.int 0 0),(.int 3 0),(.ref 20),(.bool true),(.int 181 0),(.ref 21),.none,(.ref 22),(.ref 23),(.ref 24),(.int 203 0),(.int 4 0),(vs "/claim/cut.py" 204)].toArray),#[]⟩)) ::
 (nat_lit 26,(oF (top 2) "product" "product" .none .none .none (vs "friezeyard.sums" 187) none (.ref 25) .none)) ::
 (nat_lit 27,(oT [])) ::
 (nat_lit 30,(⟨(.type "code"),none,(.fields [(vs "add_product" 206),(vs "add_product" 207),(vs "/claim/cut.py" 208),(.int 9 0),(.int 4 0),(.int 0 0),(.int 0 0),(.int 3 0),(.ref 27),(.bool true),(.int 181 0),(.ref 28),.none,.none,.none,(.ref 29),(.int 209 0),(.int 9 0),(vs "/claim/cut.py" 210)].toArray),#[]⟩)) ::
 (nat_lit 31,(oF (top 3) "add_product" "add_product" .none .none .none (vs "friezeyard.sums" 187) none (.ref 30) .none)) ::
 (nat_lit 32,(oT [])) ::
 (nat_lit 34,(oT [(vs "_law_script" 217),(vs "_law_at" 218)])) ::
 (nat_lit 35,(oT [])) ::
 (nat_lit 37,(⟨(.type "code"),none,(.fields [(vs "_law_drawn" 214),(vs "_law_drawn" 215),(vs "/claim/cut.py" 216),(.int 14 0),(.int 2 0),(.int 0 0),(.int 0 0),(.int 3 0),(.ref 32),(.bool true),(.int 181 0),(.ref 33),.none,(.ref 34),(.ref 35),(.ref 36),(.int 219 0),(.int 14 0),(vs "/claim/cut.py" 220)].toArray),#[]⟩)) ::
 (nat_lit 38,(oF (top 5) "_law_drawn" "_law_drawn" .none .none .none (vs "law_friezeyard_k62_multiplied" 212) none (.ref 37) .none)) ::
 (nat_lit 39,(oT [])) ::
 (nat_lit 41,(oT [(vs "_law_found" 225)])) ::
 (nat_lit 42,(oT [])) ::
 (nat_lit 44,(⟨(.type "code"),none,(.fields [(vs "_law_is_number" 222),(vs "_law_is_number" 223),(vs "/claim/cut.py" 224),(.int 16 0),(.int 1 0),(.int 0 0),(.int 0 0),(.int 3 0),(.ref 39),(.bool true),(.int 181 0),(.ref 40),.none,(.ref 41),(.ref 42),(.ref 43),(.int 226 0),(.int 16 0),(vs "/claim/cut.py" 227)].toArray),#[]⟩)) ::
 (nat_lit 45,(oF (top 6) "_law_is_number" "_law_is_number" .none .none .none (vs "law_friezeyard_k62_multiplied" 212) none (.ref 44) .none)) ::
 (nat_lit 46,(oT [])) ::
 (nat_lit 48,(oT [(vs "_law_cell" 232),(vs "_law_many" 233),(vs "_law_wide" 234),(vs "_law_number" 235),(vs "_law_found" 236),(vs "_law_k" 237)])) ::
 (nat_lit 49,(oT [])) ::
 (nat_lit 51,(⟨(.type "code"),none,(.fields [(vs "_law_powers" 229),(vs "_law_powers" 230),(vs "/claim/cut.py" 231),(.int 18 0),(.int 3 0),(.int 0 0),(.int 0 0),(.int 3 0),(.ref 46),(.bool true),(.int 181 0),(.ref 47),.none,(.ref 48),(.ref 49),(.ref 50),(.int 238 0),(.int 18 0),(vs "/claim/cut.py" 239)].toArray),#[]⟩)) ::
 (nat_lit 52,(oF (top 7) "_law_powers" "_law_powers" .none .none .none (vs "law_friezeyard_k62_multiplied" 212) none (.ref 51) .none)) ::
 (nat_lit 53,(oT [])) ::
 (nat_lit 55,(oT [(vs "_law_cell" 244)])) ::
 (nat_lit 56,(oT [])) ::
 (nat_lit 58,(⟨(.type "code"),none,(.fields [(vs "_law_times" 241),(vs "_law_times" 242),(vs "/claim/cut.py" 243),(.int 25 0),(.int 1 0),(.int 0 0),(.int 0 0),(.int 3 0),(.ref 53),(.bool true),(.int 181 0),(.ref 54),.none,(.ref 55),(.ref 56),(.ref 57),(.int 245 0),(.int 25 0),(vs "/claim/cut.py" 246)].toArray),#[]⟩)) ::
 (nat_lit 59,(oF (top 8) "_law_times" "_law_times" .none .none .none (vs "law_friezeyard_k62_multiplied" 212) none (.ref 58) .none)) ::
 (nat_lit 60,(oT [])) ::
 (nat_lit 63,(⟨(.type "code"),none,(.fields [(vs "_law_sum" 248),(vs "_law_sum" 249),(vs "/claim/cut.py" 250),(.int 29 0),(.int 3 0),(.int 0 0),(.int 0 0),(.int 3 0),(.ref 60),(.bool true),(.int 181 0),(.ref 61),.none,.none,.none,(.ref 62),(.int 251 0),(.int 29 0),(vs "/claim/cut.py" 252)].toArray),#[]⟩)) ::
 (nat_lit 64,(oF (top 9) "_law_sum" "_law_sum" .none .none .none (vs "law_friezeyard_k62_multiplied" 212) none (.ref 63) .none)) ::
 (nat_lit 65,(oT [])) ::
 (nat_lit 68,(⟨(.type "code"),none,(.fields [(vs "_law_is_sum" 254),(vs "_law_is_sum" 255),(vs "/claim/cut.py" 256),(.int 34 0),(.int 2 0),(.int 0 0),(.int 0 0),(.int 3 0),(.ref 65),(.bool true),(.int 181 0),(.ref 66),.none,.none,.none,(.ref 67),(.int 257 0),(.int 34 0),(vs "/claim/cut.py" 258)].toArray),#[]⟩)) ::
 (nat_lit 69,(oF (top 10) "_law_is_sum" "_law_is_sum" .none .none .none (vs "law_friezeyard_k62_multiplied" 212) none (.ref 68) .none)) ::
 (nat_lit 70,(oT [])) ::
 (nat_lit 73,(⟨(.type "code"),none,(.fields [(vs "_law_product" 260),(vs "_law_product" 261),(vs "/claim/cut.py" 262),(.int 45 0),(.int 2 0),(.int 0 0),(.int 0 0),(.int 3 0),(.ref 70),(.bool true),(.int 181 0),(.ref 71),.none,.none,.none,(.ref 72),(.int 263 0),(.int 45 0),(vs "/claim/cut.py" 264)].toArray),#[]⟩)) ::
 (nat_lit 74,(oF (top 11) "_law_product" "_law_product" .none .none .none (vs "law_friezeyard_k62_multiplied" 212) none (.ref 73) .none)) ::
 (nat_lit 75,(oT [])) ::
 (nat_lit 78,(⟨(.type "code"),none,(.fields [(vs "law" 266),(vs "law" 267),(vs "/claim/cut.py" 268),(.int 52 0),(.int 1 0),(.int 0 0),(.int 0 0),(.int 3 0),(.ref 75),(.bool true),(.int 181 0),(.ref 76),.none,.none,.none,(.ref 77),(.int 269 0),(.int 52 0),(vs "/claim/cut.py" 270)].toArray),#[]⟩)) ::
 (nat_lit 79,(oF (top 12) "law" "law" .none .none .none (vs "law_friezeyard_k62_multiplied" 212) none (.ref 78) .none))::[]
noncomputable def places:List Addr:=[2,3,6,15,18,19,20,22,23,25,26,27,30,31,32,34,35,37,38,39,41,42,44,45,46,48,49,51,52,53,55,56,58,59,60,63,64,65,68,69,70,73,74,75,78,79]
theorem zhk:∀P,places=(K P).map (·.1):=fun _=>by kernel_rfl
noncomputable def hook:PySem.W.Hook:=PySem.W.kHook K places zhk
noncomputable def q:Program:=PySem.W.view PySem.Challenge.pw_friezeyard_k62_multiplied [1,2,3,5,6,7,8,9,10,11,12]
noncomputable def xt (s:Shared):Bool:=PySem.W.xlAt q [] s&&PySem.W.recOk (PySem.W.RowW.records PySem.Challenge.rw_friezeyard_k62_multiplied.row.toRowW) s
noncomputable def out (w:World) (os:OsState):=outAt PySem.Challenge.pw_friezeyard_k62_multiplied q [] xt (fun s=>places.map s.heap.get?) 880 w os
noncomputable def good:=PySem.W.openGood q []
example:((fun (_:Params->Obj) (_:Str)=>true) PySem.W.boot_o_0 (Str.ofString "dull"))=true:=by k_qdec
lay_quick out good
theorem zqr:∀w os,out w os=some (true,good,(K w.params).map fun p=>some p.2):=fun w os=>(congrFun (congrFun PySem.W.Fast.te14648886945173218195 w) os).trans (by rw [PySem.W.Fast.te17235295896166123043];kernel_rfl)
theorem left:PySem.W.LeftO PySem.Challenge.pw_friezeyard_k62_multiplied q [] xt (PySem.W.Hook.obs hook) (PySem.W.Hook.val hook) 880:=zlp (by kernel_rfl) (by kernel_rfl) (fun _=>by kernel_rfl) zqr
end K62
namespace K62
open L2
local macro_rules | `(tactic| walk_at "dz")=>`(tactic| try simp (implicitDefEqProofs:=false) only [z9q,ziq,zt3,zok,z8s,zsh,zsi,sNx,zvy,zno,zso,zi6,zap,zsj,zol,zom,zon,zkr,zir,zob,zoc,zof,zod,zoe,zkp,zog,zoh,zoi,zoj,zkq,zks,zax,zt4,zt5,zt6,zt7,zt8,zoo,zop,zkt,zku,zoq,zpk,ztl,ztm,ztn,zpl,zpm,zl5,zl6,zh0,zkv,zh1,zh2,zh3,zay,zph,z8u,zla,zor,zos,z31,zot,zkw,zkx,zky,zkz,zi7,zao,Option.bind_some,Bool.and_true,Bool.true_and,zt9,zta,ztb,ztc,zw6,zw7,eC,eOp,eUn,z0f,z00,z1n,eCB,zgo,z97,eIf,eSl,oSo,oNo,zpn,znf,bOr,zgp,z46,zng,eOr,zvu,zvv,zsc,zsd,znk,znl,z14,iL,zl8,zl9,zl4,zl2,zl3,R.bind_ok,R.of_some,z30,zkg,zw1,dLe,zsq,dGe,ztd,zri,zte,zis,zou,zov,zow,zox,zoy,zoz,zp0,zit,ziu,zp1,zp2,zp3,zp5,ziv,zp6,ztg,zpi,zth,ztk,ztq,zpp,zpq,zlb,zlc,zh4,zh5,zw8,zpj,ztj,zw9,zwa,zsz,zsy,ztr,zts,zpr,zps,zpt,zpu,zpv,ztt,ztu,zh6,ziy,ziz,ztf,zp7,zp8,zl0,zp9,zpa,zis,zpb,zep,ziw,zpc,zpd,zpe,zpf,zpg,zl1,List.map_cons,List.map_nil,List.length_cons,List.length_nil,List.cons_append,List.nil_append,List.replicate_succ,List.replicate_zero,List.getElem?_cons_zero,List.getElem?_cons_succ,List.set_cons_zero,List.set_cons_succ,Option.map_some,Option.getD_some,if_true,if_false,Bool.false_eq_true,Bool.not_true,Bool.not_false,Bool.and_false,Bool.false_and,Bool.or_true,Bool.true_or,Bool.or_false,Bool.false_or,Nat.reduceAdd,Nat.reduceLeDiff,Nat.reduceEqDiff,reduceCtorEq,decide_true,decide_false,Int.reduceEq])
abbrev Tm:=List Int×Int
def TM (t:Tm):D:=.tup [.tup (t.1.map D.int),.int t.2]
theorem z5y:∀{a b:List Int},a.map D.int=b.map D.int->a=b
 | [],[],_=>rfl
 | [],_::_,h=>by simp at h
 | _::_,[],h=>by simp at h
 | x::a,y::b,h=>by
  simp only [List.map_cons,List.cons.injEq,D.int.injEq] at h
  rw [h.1,z5y h.2]
theorem zqs {p q:Tm} (h:TM p=TM q):p=q:=by
 obtain ⟨a,b⟩:=p;obtain ⟨c,d⟩:=q
 simp only [TM,D.tup.injEq,List.cons.injEq,D.int.injEq,and_true] at h
 rw [z5y h.1,h.2]
def z06 (l:List Tm):List (List Int):=l.map (·.1)
def z2f (l:List Tm) (k:List Int):Int:=((l.find? fun t=>decide (t.1=k)).map (·.2)).getD 0
def z4u (l:List Tm) (k:List Int) (v:Int):List Tm:=if k∈z06 l then l.map (fun t=>if t.1=k then (k,v) else t) else l++[(k,v)]
def z0c (a b:List Tm):List Tm:=b.foldl (fun d t=>z4u d t.1 (z2f d t.1+t.2)) a
def tot:List Tm->List Int->Int
 | [],_=>0
 | t::r,k=>(if t.1=k then t.2 else 0)+tot r k
theorem zfj (k:List Int):z2f [] k=0:=rfl
theorem z1m (t:Tm) (l:List Tm) (k:List Int):z2f (t::l) k=if t.1=k then t.2 else z2f l k:=by
 unfold z2f
 by_cases h:t.1=k
 . rw [List.find?_cons_of_pos (by simpa using h),if_pos h];rfl
 . rw [List.find?_cons_of_neg (by simpa using h),if_neg h]
theorem zhl {l:List Tm} {k:List Int} (h:k∉z06 l):z2f l k=0:=by
 induction l with
 | nil=>rfl
 | cons t l ih=>
  simp only [z06,List.map_cons,List.mem_cons,not_or] at h
  rw [z1m,if_neg (fun z=>h.1 z.symm)]
  exact ih h.2
theorem zfk {l:List Tm} {t:Tm} (hn:(z06 l).Nodup) (h:t∈l):z2f l t.1=t.2:=by
 induction l with
 | nil=>cases h
 | cons x l ih=>
  simp only [z06,List.map_cons,List.nodup_cons] at hn
  rw [z1m]
  rcases List.mem_cons.mp h with rfl | h
  . rw [if_pos rfl]
  . rw [if_neg (fun z=>hn.1 (by rw [z];exact List.mem_map.mpr ⟨t,h,rfl⟩))]
    exact ih hn.2 h
theorem zfl {l:List Tm} {k:List Int} (h:z2f l k≠0):(k,z2f l k)∈l:=by
 induction l with
 | nil=>exact absurd rfl h
 | cons x l ih=>
  rw [z1m] at h ⊢
  by_cases z:x.1=k
  . rw [if_pos z]
    exact List.mem_cons.mpr (.inl (by rw [<-z]))
  . rw [if_neg z] at h ⊢
    exact List.mem_cons.mpr (.inr (ih h))
theorem z92 {k:List Int} (v:Int) {j:List Int} (hj:j≠k):∀l:List Tm,z2f (l.map (fun t=>if t.1=k then (k,v) else t)) j=z2f l j
 | []=>rfl
 | t::l=>by
  rw [List.map_cons,z1m,z1m,z92 v hj l]
  by_cases h:t.1=k
  . rw [if_pos h,if_neg (fun z=>hj z.symm),if_neg (fun z=>hj (by rw [<-z,h]))]
  . rw [if_neg h]
theorem z93 {k:List Int} (v:Int):∀l:List Tm,k∈z06 l->z2f (l.map (fun t=>if t.1=k then (k,v) else t)) k=v
 | [],h=>by cases h
 | t::l,h=>by
  rw [List.map_cons,z1m]
  by_cases z:t.1=k
  . rw [if_pos z,if_pos rfl]
  . rw [if_neg z,if_neg z]
    refine z93 v l ?_
    rcases List.mem_cons.mp h with q | q
    . exact absurd q.symm z
    . exact q
theorem zch (l:List Tm) (k:List Int) (v:Int) (j:List Int) (h:k∉z06 l):z2f (l++[(k,v)]) j=if j=k then v else z2f l j:=by
 induction l with
 | nil=>
  rw [List.nil_append,z1m,zfj]
  by_cases hj:j=k
  . rw [if_pos hj.symm,if_pos hj]
  . rw [if_neg (fun z=>hj z.symm),if_neg hj]
 | cons t l ih=>
  simp only [z06,List.map_cons,List.mem_cons,not_or] at h
  rw [List.cons_append,z1m,z1m,ih h.2]
  by_cases hj:j=k
  . subst hj
    rw [if_neg (fun z=>h.1 z.symm),if_pos rfl,if_pos rfl]
  . rw [if_neg hj,if_neg hj]
theorem zls (l:List Tm) (k:List Int) (v:Int) (j:List Int):z2f (z4u l k v) j=if j=k then v else z2f l j:=by
 unfold z4u
 by_cases h:k∈z06 l
 . rw [if_pos h]
   by_cases hj:j=k
   . rw [if_pos hj,hj];exact z93 v l h
   . rw [if_neg hj];exact z92 v hj l
 . rw [if_neg h];exact zch l k v j h
theorem z4y (l:List Tm) (k:List Int) (v:Int):z06 (z4u l k v)=if k∈z06 l then z06 l else z06 l++[k]:=by
 unfold z4u
 by_cases h:k∈z06 l
 . rw [if_pos h,if_pos h]
   unfold z06
   rw [List.map_map]
   apply List.map_congr_left
   intro t _
   show (if t.1=k then (k,v) else t).1=t.1
   split
   . rename_i z;exact z.symm
   . rfl
 . rw [if_neg h,if_neg h]
   simp [z06]
theorem z94 {l:List Tm} (k:List Int) (v:Int) (h:(z06 l).Nodup):(z06 (z4u l k v)).Nodup:=by
 rw [z4y]
 split
 . exact h
 . rename_i hk
   exact List.nodup_append.mpr ⟨h,by simp,fun x hx y hy e=>hk (by rw [List.mem_singleton.mp hy] at e;rw [<-e];exact hx)⟩
theorem z2q (a:List Tm) (t:Tm) (b:List Tm):z0c a (t::b)=z0c (z4u a t.1 (z2f a t.1+t.2)) b:=rfl
theorem z7y:∀(b a:List Tm) (j:List Int),z2f (z0c a b) j=z2f a j+tot b j
 | [],a,j=>by simp [z0c,tot]
 | t::b,a,j=>by
  rw [z2q,z7y b,zls,tot]
  by_cases h:j=t.1
  . subst h
    rw [if_pos rfl,if_pos rfl];omega
  . rw [if_neg h,if_neg (fun z=>h z.symm)];omega
theorem z5z:∀(b a:List Tm),(z06 a).Nodup->(z06 (z0c a b)).Nodup
 | [],a,h=>h
 | t::b,a,h=>by rw [z2q];exact z5z b _ (z94 _ _ h)
theorem zb8:∀(b a:List Tm) (k:List Int),k∈z06 (z0c a b)->k∈z06 a\/k∈z06 b
 | [],a,k,h=>.inl h
 | t::b,a,k,h=>by
  rw [z2q] at h
  simp only [z06,List.map_cons,List.mem_cons]
  rcases zb8 b _ k h with h | h
  . rw [z4y] at h
    split at h
    . exact .inl h
    . rcases List.mem_append.mp h with h | h
      . exact .inl h
      . exact .inr (.inl (List.mem_singleton.mp h))
  . exact .inr (.inr h)
theorem zfm:∀{b:List Tm},(z06 b).Nodup->∀j,tot b j=z2f b j
 | [],_,j=>rfl
 | t::b,h,j=>by
  simp only [z06,List.map_cons,List.nodup_cons] at h
  rw [tot,z1m,zfm (b:=b) h.2]
  split
  . rename_i z
    rw [zhl (l:=b) (by rw [<-z];exact h.1)];omega
  . omega
def soM (ls:List Tm):List Tm:=z8v (fun a b=>ltT (TM a) (TM b)) ls
theorem z60 (ls:List Tm):z2i (ls.map TM)=(soM ls).map TM:=z8w _ _
theorem z3g (ls:List Tm):(soM ls).Perm ls:=z6m _ _
theorem zhm (a:Tm):(TM a).oi=true:=by
 simp only [TM,D.oi,ois,Bool.and_true]
 exact z8y _ _ zwb
theorem zb9 {a b:List Tm} (p:a.Perm b):soM a=soM b:=by
 have:=zet (z8y b TM zhm) (p.map TM)
 rw [z60,z60] at this
 exact zb1 (fun _ _=>zqs) this
def nz (t:Tm):Bool:=decide (t.2≠0)
def Cn (l:List Tm):List Tm:=soM (l.filter nz)
theorem z6u {l:List Tm} (h:(z06 l).Nodup):l.Nodup:=by
 unfold z06 List.Nodup at h
 rw [List.pairwise_map] at h
 exact h.imp fun z e=>z (by rw [e])
theorem mem_Cn {l:List Tm} {t:Tm}:t∈Cn l↔t∈l/\t.2≠0:=by
 unfold Cn
 rw [(z3g _).mem_iff,List.mem_filter]
 simp [nz]
theorem z3h {l:List Tm} (hn:(z06 l).Nodup) {t:Tm}:t∈Cn l↔z2f l t.1=t.2/\t.2≠0:=by
 rw [mem_Cn]
 constructor
 . rintro ⟨h,z⟩;exact ⟨zfk hn h,z⟩
 . rintro ⟨h,z⟩
   have:=zfl (l:=l) (k:=t.1) (by rw [h];exact z)
   rw [h] at this
   exact ⟨this,z⟩
theorem zlt {a b:List Tm} (ha:a.Nodup) (hb:b.Nodup) (h:∀t,t∈a↔t∈b):a.Perm b:=(List.perm_ext_iff_of_nodup ha hb).mpr h
theorem zlu {a b:List Tm} (ha:(z06 a).Nodup) (hb:(z06 b).Nodup) (h:∀j,z2f a j=z2f b j):Cn a=Cn b:=by
 unfold Cn
 refine zb9 (zlt ((z6u ha).filter _) ((z6u hb).filter _) fun t=>?_)
 have e1:=z3h ha (t:=t)
 have e2:=z3h hb (t:=t)
 rw [h] at e1
 have:=e1.trans e2.symm
 unfold Cn at this
 rwa [(z3g _).mem_iff,(z3g _).mem_iff] at this
theorem zhn {a b:List Tm} (h:a.Sublist b):(z06 a).Sublist (z06 b):=h.map _
theorem z4z {l:List Tm} (hn:(z06 l).Nodup):(z06 (Cn l)).Nodup:=by
 have p:(z06 (Cn l)).Perm (z06 (l.filter nz)):=(z3g _).map _
 exact p.nodup_iff.mpr (List.Nodup.sublist (zhn List.filter_sublist) hn)
theorem zqt {l:List Tm} (hn:(z06 l).Nodup) (j:List Int):z2f (Cn l) j=z2f l j:=by
 by_cases h:z2f l j=0
 . rw [h]
   cases Decidable.em (z2f (Cn l) j=0) with
   | inl z=>exact z
   | inr z=>
    have:=(z3h hn).mp (zfl z)
    simp only at this
    exact absurd (this.1.symm.trans h) this.2
 . have:(j,z2f l j)∈Cn l:=(z3h hn).mpr ⟨rfl,h⟩
   exact zfk (z4z hn) this
theorem zlv {l:List Tm} (hn:(z06 l).Nodup):Cn (Cn l)=Cn l:=zlu (z4z hn) hn (zqt hn)
theorem zfn (l:List Tm):(Cn l).length<=l.length:=by
 unfold Cn
 rw [(z3g _).length_eq]
 exact List.length_filter_le _ _
theorem z0m {a r:DS->SR} {ρ ρ':DS} (h:a ρ=.nx ρ'):z28 a r ρ=r ρ':=by rw [ziq,h,zir]
def kN (ps:List Int):NK:=.t (ps.map NK.i)
theorem zfo:∀ps:List Int,zj0 (ps.map D.int)=some (ps.map NK.i)
 | []=>by simp only [List.map_nil,zj0]
 | p::ps=>by simp only [List.map_cons,zj0,nkD,zfo ps]
theorem zfp (ps:List Int):nkD (.tup (ps.map D.int))=some (kN ps):=by simp only [nkD,zfo,Option.map_some,kN]
theorem zba:∀ps:List Int,z2r (ps.map NK.i)=0
 | []=>by simp only [List.map_nil,z2r]
 | p::ps=>by simp only [List.map_cons,z2r,zba ps,NK.dep,Nat.max_self]
theorem zfq (ps:List Int):(kN ps).dep<=8:=by simp only [kN,NK.dep,zba];decide
theorem zjf:∀ps:List Int,z4n (ps.map NK.i)=ps.map D.int
 | []=>by simp only [List.map_nil,z4n]
 | p::ps=>by simp only [List.map_cons,z4n,z44,zjf ps]
theorem zwg (ps:List Int):z44 (kN ps)=.tup (ps.map D.int):=by simp only [kN,z44,zjf]
theorem zjg:∀a b:List Int,(z20 (a.map D.int) (b.map D.int)).isSome=true
 | [],[]=>by simp [z20]
 | [],_::_=>by simp [z20]
 | _::_,[]=>by simp [z20]
 | x::a,y::b=>by
  simp only [List.map_cons,z20]
  split
  . exact zjg a b
  . exact ztp x y
theorem zjh (a b:List Int×Int):(z21 (TM a) (TM b)).isSome=true:=by
 simp only [TM,z21,z20]
 split
 . split
   . rfl
   . rfl
 . exact zjg a.1 b.1
theorem zfr (a:List Int×Int):(TM a).dep<=3:=by
 have:=z7m a.1 D.int 0 (fun x=>by simp [D.dep])
 simp only [TM,D.dep,z59];omega
theorem zfs (ls:List (List Int×Int)) (h:ls.length<64):z8r (ls.map TM)=true:=by
 unfold z8r
 rw [List.length_map,decide_eq_true h,z8y _ _ zhm,decide_eq_true (Nat.le_trans (z7m ls TM 3 zfr) (by decide)),z6n ls TM (fun d=>(ls.map TM).all fun e=>(z21 d e).isSome) (fun x=>z6n _ _ _ fun y=>zjh x y),z6n ls TM zcl (fun x=>rfl)]
 simp
theorem z95:∀{a b:List Int},a.map NK.i=b.map NK.i->a=b
 | [],[],_=>rfl
 | [],_::_,h=>by simp at h
 | _::_,[],h=>by simp at h
 | x::a,y::b,h=>by
  simp only [List.map_cons,List.cons.injEq,NK.i.injEq] at h
  rw [h.1,z95 h.2]
theorem zbb {a b:List Int} (h:kN a=kN b):a=b:=z95 (NK.t.inj h)
def dnA (l:List Tm):D:=.dn (l.map fun t=>kN t.1) (l.map fun t=>.int t.2)
theorem kmem {k:List Int} {l:List Tm}:kN k∈(l.map fun t=>kN t.1)↔k∈z06 l:=by
 unfold z06
 rw [List.mem_map,List.mem_map]
 constructor
 . rintro ⟨t,h,e⟩;exact ⟨t,h,zbb e⟩
 . rintro ⟨t,h,e⟩;exact ⟨t,h,by rw [e]⟩
theorem zft:∀l:List Tm,pairsD (l.map TM)=some (l.map (fun t=>kN t.1),l.map fun t=>.int t.2)
 | []=>rfl
 | t::l=>by
  rw [List.map_cons]
  show (match nkD (.tup (t.1.map D.int)),pairsD (l.map TM) with | some k,some (ks,vs)=>some (k::ks,D.int t.2::vs) | _,_=>none)=_
  rw [zfp,zft l];rfl
theorem zho {l:List Tm} (h:(z06 l).Nodup):(l.map fun t=>kN t.1).Nodup:=by
 unfold z06 List.Nodup at *
 rw [List.pairwise_map] at h ⊢
 exact h.imp fun z e=>z (zbb e)
theorem zvd {l:List Tm} (h:(z06 l).Nodup) (hl:l.length<=1000):dDictL [.lst (l.map TM)]=some (dnA l):=by
 show (match pairsD (l.map TM) with | some (ks,vs)=>_ | none=>none)=_
 rw [zft]
 show (if _ then some _ else none)=_
 rw [if_pos ⟨zho h,by rw [List.length_map];omega,fun k hk=>by
  obtain ⟨t,_,rfl⟩:=List.mem_map.mp hk
  exact zfq _⟩]
 rfl
theorem zqu (k:List Int):∀l:List Tm,(valN (l.map fun t=>kN t.1) (l.map fun t=>D.int t.2) (kN k)).getD (.int 0)=.int (z2f l k)
 | []=>rfl
 | t::l=>by
  rw [z1m,List.map_cons,List.map_cons]
  unfold valN
  rw [List.zip_cons_cons]
  by_cases h:t.1=k
  . rw [List.find?_cons_of_pos (by simp [h]),if_pos h];rfl
  . rw [List.find?_cons_of_neg (by simpa using fun e=>h (zbb e)),if_neg h]
    exact zqu k l
theorem zqv (l:List Tm) (k:List Int):dGetN (dnA l) (.tup (k.map D.int)) (.int 0)=some (.int (z2f l k)):=by
 simp only [dnA,dGetN,zfp]
 rw [if_pos (zfq k),zqu]
theorem zqw (k:List Int) (v:Int):∀l:List Tm,List.zipWith (fun k' d'=>if k'=kN k then D.int v else d') (l.map fun t=>kN t.1) (l.map fun t=>D.int t.2)=(l.map fun t=>if t.1=k then (k,v) else t).map fun t=>D.int t.2
 | []=>rfl
 | t::l=>by
  rw [List.map_cons,List.map_cons,List.map_cons,List.map_cons,List.zipWith_cons_cons,zqw k v l]
  congr 1
  by_cases h:t.1=k
  . rw [if_pos (by rw [h]),if_pos h]
  . rw [if_neg (fun e=>h (zbb e)),if_neg h]
theorem zlw {l:List Tm} (hl:l.length<=1000) (k:List Int) (v:Int):dSetN (dnA l) (.tup (k.map D.int)) (.int v)=some (dnA (z4u l k v)):=by
 simp only [dnA,dSetN,zfp]
 rw [if_pos ⟨by rw [List.length_map];omega,zfq k⟩]
 have ek:zgu (l.map fun t=>kN t.1) (kN k)=(z4u l k v).map fun t=>kN t.1:=by
  have:=congrArg (List.map kN) (z4y l k v)
  have e2:∀x:List Tm,(z06 x).map kN=x.map fun t=>kN t.1:=fun x=>by unfold z06;rw [List.map_map];rfl
  rw [e2] at this
  rw [this]
  unfold zgu
  by_cases h:k∈z06 l
  . rw [if_pos (kmem.mpr h),if_pos h,e2]
  . rw [if_neg (fun z=>h (kmem.mp z)),if_neg h,List.map_append,e2];rfl
 have ev:zbu (l.map fun t=>kN t.1) (l.map fun t=>D.int t.2) (kN k) (.int v)=(z4u l k v).map fun t=>D.int t.2:=by
  unfold zbu z4u
  by_cases h:k∈z06 l
  . rw [if_pos (kmem.mpr h),if_pos h,zqw]
  . rw [if_neg (fun z=>h (kmem.mp z)),if_neg h,List.map_append];rfl
 rw [ek,ev]
theorem zhp (l:List Tm) (h:l.length<64):z3t [.lst (l.map TM)]=some (.lst ((soM l).map TM)):=by
 simp only [z3t,zfs l h,if_true,z60]
theorem zqx:∀l:List Tm,(((l.map fun t=>kN t.1).zip (l.map fun t=>D.int t.2)).map fun p=>D.tup [z44 p.1,p.2])=l.map TM
 | []=>rfl
 | t::l=>by
  rw [List.map_cons,List.map_cons,List.zip_cons_cons,List.map_cons,List.map_cons,zqx l]
  show D.tup [z44 (kN t.1),.int t.2]::_=TM t::_
  rw [zwg];rfl
theorem zfu {l:List Tm} {f:DE->R D} {ρ:DE} (h:f ρ=.ok (dnA l)):zf8 f ρ=.ok (l.map TM):=by
 unfold zf8
 rw [h,R.bind_ok]
 show (if (l.map fun t=>kN t.1).length=(l.map fun t=>D.int t.2).length then R.ok (((l.map fun t=>kN t.1).zip (l.map fun t=>D.int t.2)).map fun p=>D.tup [z44 p.1,p.2]) else .st)=_
 rw [if_pos (by rw [List.length_map,List.length_map]),zqx]
theorem zu9 {l:List Tm} {f:DE->R D} {ρ:DE} {t1:DE->R Bool} {f2:DE->R D} (h:f ρ=.ok (dnA l)) (hl:l.length<64) (h1:∀t:Tm,t1 [some (.tup (t.1.map D.int)),some (.int t.2)]=.ok (nz t)) (h2:∀t:Tm,f2 [some (.tup (t.1.map D.int)),some (.int t.2)]=.ok (TM t)) :
  eCB z3t (z00 (z14 (zf8 f) (bT 2) [] t1 f2) z0f) ρ=.ok (.lst ((Cn l).map TM)):=by
 have hc:z14 (zf8 f) (bT 2) [] t1 f2 ρ=.ok (.lst ((l.filter nz).map TM)):=by
  unfold z14
  rw [zfu h,R.bind_ok,if_pos (by rw [List.length_map];omega)]
  show ((z3k (bT 2) t1 f2 [] (l.map TM)).bind fun ys=>R.ok (D.lst ys))=_
  rw [z8t (bn:=bT 2) (en:=TM) (bs:=fun t=>[.tup (t.1.map D.int),.int t.2]) (p:=nz) (g:=TM) l (fun x _=>rfl) (fun t _=>h1 t) (fun t _ _=>h2 t)];rfl
 unfold eCB z00
 rw [hc,R.bind_ok]
 show R.of (z3t [_])=_
 rw [zhp _ (Nat.lt_of_le_of_lt (List.length_filter_le _ _) hl)];rfl
theorem zji {fd fk fz:DE->R D} {ρ:DE} {ks:List NK} {ds:List D} {es:List D} {v:Int} (h1:fd ρ=.ok (.dn ks ds)) (h2:fk ρ=.ok (.tup es)) (h3:fz ρ=.ok (.int 0)) (h:dGetN (.dn ks ds) (.tup es) (.int 0)=some (.int v)):eGetN fd fk fz ρ=.ok (.int v):=by
 unfold eGetN
 rw [h1,R.bind_ok]
 show ((fk ρ).bind fun k=>(fz ρ).bind fun z=>R.of (dGetN (.dn ks ds) k z))=_
 rw [h2,R.bind_ok,h3,R.bind_ok,h];rfl
theorem z7z (l:List Tm) (k:List Int) (v:Int):(z4u l k v).length<=l.length+1:=by
 unfold z4u
 split
 . rw [List.length_map];omega
 . rw [List.length_append];exact Nat.le_refl _
theorem z80:∀(b a:List Tm),(z0c a b).length<=a.length+b.length
 | [],a=>Nat.le_refl _
 | t::b,a=>by
  rw [z2q]
  have:=z80 b (z4u a t.1 (z2f a t.1+t.2))
  have:=z7z a t.1 (z2f a t.1+t.2)
  rw [List.length_cons];omega
theorem zqy (t:Tm):z32 [some (.tup (t.1.map D.int)),some (.int t.2)]=.ok (nz t):=by
 unfold z32
 walk_at "dz"
 simp [nz]
theorem zqz (t:Tm):z33 [some (.tup (t.1.map D.int)),some (.int t.2)]=.ok (TM t):=by
 unfold z33
 walk_at "dz"
 rfl
def drw (ns:List Int) (k:Int):Int:=(z4s ns (some k) (some (k+1))).sum
theorem za7 (ns:List Int) (k:Int):z0b [.scr ns,.int k]=.ok (.int (drw ns k)):=by
 unfold z0b z4p drw
 walk_at "dz"
theorem zr0 (i:Int):z0d [.int i]=.ok (.bl true):=by
 unfold z0d z2s
 walk_at "dz"
theorem zua:znu (.int 10) (.int 30)=some (.int (10 ^ 30)):=by
 unfold znu;rw [z6l,if_pos (show zjt 10 30 from ⟨by decide,by decide,by decide⟩)];rfl
theorem zhq (cell:Int) (m w:Nat) (hm:m<=5) (hw:w<=60) (num:Int) (h0:0<=num) (h1:num<2147483647) (ps:List Int) (k:Nat) (hp:ps.length=k) (hk:k<=5) (hb:∀p∈ps,-(w:Int)<=p/\p<=w) (x:Sl) :
  ∃(num':Int) (ps':List Int),(0<=num'/\num'<2147483647)/\ps'.length=k+1/\(∀p∈ps',-(w:Int)<=p/\p<=w) /\
   z0u [.im (.int cell),.im (.int (m:Int)),.im (.int (w:Int)),.im (.int num),.ow (L ps),.im (.int (0+(k:Int)))]=.nx [.im (.int cell),.im (.int (m:Int)),.im (.int (w:Int)),.im (.int num'),.ow (L ps'),.im (.int (0+(k:Int)))]:=by
 have n0:0<=(num * num+48271 * num+(0+(k:Int)) * (0+(k:Int))+11) % 2147483647:=Int.emod_nonneg _ (by decide)
 have n1:(num * num+48271 * num+(0+(k:Int)) * (0+(k:Int))+11) % 2147483647<2147483647:=Int.emod_lt_of_pos _ (by decide)
 unfold z0u
 rw [z0m (ρ':=[.im (.int cell),.im (.int (m:Int)),.im (.int (w:Int)),.im (.int ((num * num+48271 * num+(0+(k:Int)) * (0+(k:Int))+11) % 2147483647)),.ow (L ps),.im (.int (0+(k:Int)))]) (by
  walk_at "dz"
  rw [zer (by omega),zer (by omega),zer (by omega)]
  walk_at "dz"
  rw [z7l (by decide)]
  walk_at "dz")]
 generalize (num * num+48271 * num+(0+(k:Int)) * (0+(k:Int))+11) % 2147483647=q at n0 n1
 have e0:0<=q / 5 % (2 * (w:Int)+1):=Int.emod_nonneg _ (by omega)
 have e1:q / 5 % (2 * (w:Int)+1)<2 * (w:Int)+1:=Int.emod_lt_of_pos _ (by omega)
 refine ⟨q,ps++[q / 5 % (2 * (w:Int)+1) - w],⟨n0,n1⟩,by rw [List.length_append,hp];rfl,fun p hp=>?_,?_⟩
 . rcases List.mem_append.mp hp with z | z
   . exact hb p z
   . rw [List.mem_singleton.mp z];omega
 . walk_at "dz"
   rw [zes (by decide),zer (by decide)]
   walk_at "dz"
   rw [z7l (by omega)]
   walk_at "dz"
   rw [zti (by omega)]
   walk_at "dz"
theorem zhr (cell:Int) (m w:Nat) (hm:m<=5) (hw:w<=60):∃ps:List Int,ps.length=m/\(∀p∈ps,-(w:Int)<=p/\p<=w)/\z0x [.int cell,.int (m:Int),.int (w:Int)]=.ok (.tup (ps.map D.int)):=by
 unfold z0x z45
 walk_at "dz"
 rw [z7l (by decide)]
 walk_at "dz"
 rw [zpo (m:Int) (by omega) (by walk_at "dz")]
 walk_at "dz"
 simp only [zD]
 obtain ⟨ρ',h,num,ps,x,hn,hl,hb,hr⟩:=z7k (tg:=.n 5) (g:=z0u) m (fun (d:Nat)=>D.int (0+(d:Int)))
  (fun k ρ=>∃(num:Int) (ps:List Int) (x:Sl),(0<=num/\num<2147483647)/\ps.length=k/\(∀p∈ps,-(w:Int)<=p/\p<=w)/\ρ=[.im (.int cell),.im (.int (m:Int)),.im (.int (w:Int)),.im (.int num),.ow (L ps),x])
  [.im (.int cell),.im (.int (m:Int)),.im (.int (w:Int)),.im (.int (cell % 2147483647)),.ow (L []),.em]
  ⟨_,[],.em,⟨Int.emod_nonneg _ (by decide),Int.emod_lt_of_pos _ (by decide)⟩,rfl,by simp,rfl⟩ (by
   rintro k hk ρ ⟨num,ps,x,hn,hl,hb,rfl⟩
   obtain ⟨num',ps',a1,a2,a3,e⟩:=zhq cell m w hm hw num hn.1 hn.2 ps k hl (by omega) hb x
   exact ⟨_,_,rfl,Or.inl e,⟨num',ps',_,a1,a2,a3,rfl⟩⟩)
 refine ⟨ps,hl,hb,?_⟩
 rw [show ((m:Int)).toNat=m by omega]
 have h':zbp (.n 5) z0u ((List.range m).map fun (d:Nat)=>D.int (0+(d:Int))) [.im (.int cell),.im (.int (m:Int)),.im (.int (w:Int)),.im (.int (cell % 2147483647)),.ow (.lst []),.em]=.nx ρ':=h
 rw [h',hr]
 walk_at "dz"
 simp only [L]
 walk_at "dz"
theorem zlx (cell:Int):∃t:Int,t.natAbs<=10 ^ 30/\z1c [.int cell]=.ok (.int t):=by
 unfold z1c z4q
 walk_at "dz"
 rw [z7l (by decide)]
 walk_at "dz"
 by_cases h:cell % 3=2
 . have h0:0<=cell / 3 % (2 * 10 ^ 30 - 1):=Int.emod_nonneg _ (by decide)
   have h1:cell / 3 % (2 * 10 ^ 30 - 1)<2 * 10 ^ 30 - 1:=Int.emod_lt_of_pos _ (by decide)
   refine ⟨cell / 3 % (2 * 10 ^ 30 - 1)+1 - 10 ^ 30,by omega,?_⟩
   rw [decide_eq_true h]
   walk_at "dz"
   rw [zes (by decide),zua]
   walk_at "dz"
   rw [zer (by decide)]
   walk_at "dz"
   rw [z7l (by decide)]
   walk_at "dz"
 . have h0:0<=cell / 3 % 7:=Int.emod_nonneg _ (by decide)
   have h1:cell / 3 % 7<7:=Int.emod_lt_of_pos _ (by decide)
   refine ⟨cell / 3 % 7 - 3,by omega,?_⟩
   rw [decide_eq_false h]
   walk_at "dz"
   rw [zes (by decide)]
   walk_at "dz"
   rw [z7l (by decide)]
   walk_at "dz"
theorem zub (C:D) (m w:Nat) (hm:m<=5) (hw:w<=60) (Z:List Tm) (hz:Z.length<=1000) (i:Nat) (cell:Int) :
  ∃(ps:List Int) (v:Int),ps.length=m/\v.natAbs<=10 ^ 30 /\
   z2b [.im C,.im (.int (m:Int)),.im (.int (w:Int)),.ow (dnA Z),.im (.int (i:Int)),.im (.int cell)]=.nx [.im C,.im (.int (m:Int)),.im (.int (w:Int)),.ow (dnA (z4u Z ps v)),.im (.int (i:Int)),.im (.int cell)]:=by
 obtain ⟨t,ht,et⟩:=zlx cell
 obtain ⟨ps,l1,l2,ep⟩:=zhr (cell * 31+(i:Int) / 3) m w hm hw
 have e:=zlw hz ps t
 refine ⟨ps,t,l1,ht,?_⟩
 generalize z4u Z ps t=Z' at e ⊢
 unfold dnA at *
 generalize (Z.map fun t=>kN t.1)=ks at *
 generalize (Z.map fun t=>D.int t.2)=ds at *
 generalize (Z'.map fun t=>kN t.1)=ks' at *
 generalize (Z'.map fun t=>D.int t.2)=ds' at *
 unfold z2b
 walk_at "dz"
 rw [et]
 walk_at "dz"
 rw [zto (by decide),zes (by decide)]
 walk_at "dz"
 rw [ep]
 walk_at "dz"
 rw [show z2t (ps.map D.int)=true from z1s D.int ps fun x _=>z31 x]
 walk_at "dz"
 rw [e]
 walk_at "dz"
theorem zuc (t:Tm):z34 [some (.tup (t.1.map D.int)),some (.int t.2)]=.ok (nz t):=by
 unfold z34
 walk_at "dz"
 simp [nz]
theorem zud (t:Tm):z35 [some (.tup (t.1.map D.int)),some (.int t.2)]=.ok (TM t):=by
 unfold z35
 walk_at "dz"
 rfl
structure Gd (m n:Nat) (Z:List Tm):Prop where
 nd:(z06 Z).Nodup
 len:∀t∈Z,t.1.length=m
 bd:∀t∈Z,t.2.natAbs<=10 ^ 30
 few:Z.length<=n
theorem Gd.put {m n:Nat} {Z:List Tm} (g:Gd m n Z) {ps:List Int} (hp:ps.length=m) (v:Int) (hv:v.natAbs<=10 ^ 30):Gd m (n+1) (z4u Z ps v):=⟨z94 _ _ g.nd,fun t ht=>by
 have hk:t.1∈z06 (z4u Z ps v):=List.mem_map.mpr ⟨t,ht,rfl⟩
 rw [z4y] at hk
 have old:t.1∈z06 Z->t.1.length=m:=fun h=>by
  obtain ⟨x,hx,e⟩:=List.mem_map.mp h
  rw [<-e];exact g.len x hx
 split at hk
 . exact old hk
 . rcases List.mem_append.mp hk with h | h
   . exact old h
   . rw [List.mem_singleton.mp h];exact hp,fun t ht=>by
 unfold z4u at ht
 split at ht
 . obtain ⟨u,hu,e⟩:=List.mem_map.mp ht
   split at e
   . rw [<-e];exact hv
   . rw [<-e];exact g.bd u hu
 . rcases List.mem_append.mp ht with h | h
   . exact g.bd t h
   . rw [List.mem_singleton.mp h];exact hv,by
 have:=z7z Z ps v
 have:=g.few
 omega⟩
theorem zr1 (cells:List Int) (hc:cells.length<=63) (m w:Nat) (hm:m<=5) (hw:w<=60):∃Z:List Tm,Gd m cells.length Z/\z0y [L cells,.int (m:Int),.int (w:Int)]=.ok (.lst ((Cn Z).map TM)):=by
 unfold z0y
 rw [z9q,if_pos (show [L cells,D.int (m:Int),D.int (w:Int)].length=3 from rfl)]
 show ∃Z:List Tm,Gd m cells.length Z/\SR.out true (z4i [.im (L cells),.im (.int (m:Int)),.im (.int (w:Int)),.em,.em,.em])=_
 unfold z4i
 rw [z0m (ρ':=[.im (L cells),.im (.int (m:Int)),.im (.int (w:Int)),.ow (.dn [] []),.em,.em]) (by
  walk_at "dz"
  simp only [z9t]
  walk_at "dz"
  rw [show keeps true (D.dn [] [])=true from rfl]
  walk_at "dz")]
 obtain ⟨ρ',q,Z,s4,s5,g,hr⟩:=z7k (tg:=.t [4,5]) (g:=z2b) cells.length (fun (i:Nat)=>D.tup [.int (i:Int),.int (cells.getD i 0)])
  (fun k ρ=>∃(Z:List Tm) (s4 s5:Sl),Gd m k Z/\ρ=[.im (L cells),.im (.int (m:Int)),.im (.int (w:Int)),.ow (dnA Z),s4,s5])
  [.im (L cells),.im (.int (m:Int)),.im (.int (w:Int)),.ow (.dn [] []),.em,.em] ⟨[],.em,.em,⟨by simp [z06],by simp,by simp,by simp⟩,rfl⟩ (by
   rintro i hi ρ ⟨Z,s4,s5,g,rfl⟩
   obtain ⟨ps,v,hp,hv,e⟩:=zub (L cells) m w hm hw Z (by have:=g.few;omega) i (cells.getD i 0)
   exact ⟨_,_,rfl,Or.inl e,⟨_,_,_,g.put hp v hv,rfl⟩⟩)
 rw [z0m (ρ':=ρ') (by
  rw [<-q]
  unfold zap
  rw [show iEn (z00 (z04 0) z0f) (vis [true] [.im (L cells),.im (.int (m:Int)),.im (.int (w:Int)),.ow (.dn [] []),.em,.em])=.ok ((List.range cells.length).map fun (i:Nat)=>D.tup [.int (i:Int),.int (cells.getD i 0)]) by
   unfold iEn
   show R.of (some (((zD 0 (cells.map D.int).length).zip (cells.map D.int)).map fun p=>D.tup [p.1,p.2]))=_
   rw [R.of_some,show cells.map D.int=(List.range cells.length).map fun i=>D.int (cells.getD i 0) by
    conv=>lhs;rw [zix cells 0]
    rw [List.map_map];rfl,zaz]]
  rfl)]
 rw [hr]
 refine ⟨Z,g,?_⟩
 rw [z8s,zu9 (l:=Z) rfl (by have:=g.few;omega) zuc zud]
 rfl
theorem zbc:∀a b:List Int,z3w (a.map D.int) (b.map D.int)=decide (a=b)
 | [],[]=>by simp [z3w]
 | [],_::_=>by simp [z3w]
 | _::_,[]=>by simp [z3w]
 | x::a,y::b=>by
  simp only [List.map_cons,z3w,eqD,zbc a b]
  by_cases h:x=y
  . by_cases h2:a=b<;>simp [h,h2]
  . simp [h]
theorem zhs (a b:List Int):eqD (.tup (a.map D.int)) (.tup (b.map D.int))=decide (a=b):=by
 simp only [eqD,zbc]
theorem zbd:∀a b:List Int,z47 (a.map D.int) (b.map D.int)=HT.lexLt a b
 | [],[]=>by simp [z47,HT.lexLt]
 | [],_::_=>by simp [z47,HT.lexLt]
 | _::_,[]=>by simp [z47,HT.lexLt]
 | x::a,y::b=>by
  simp only [List.map_cons,z47,HT.lexLt_cons,eqD,zbd a b,ltT]
  by_cases h:x=y
  . simp [h]
  . simp [h]
theorem zue {u v:Tm} (h:u.1≠v.1):ltT (TM u) (TM v)=HT.lexLt u.1 v.1:=by
 simp only [TM,ltT,z47,zhs,decide_eq_false h,zbd]
 simp
theorem zfv:∀{a b:List Int},a≠b->HT.lexLt b a=false->HT.lexLt a b=true
 | [],[],h,_=>absurd rfl h
 | [],_::_,_,_=>rfl
 | _::_,[],_,h=>by simp [HT.lexLt] at h
 | x::a,y::b,h,q=>by
  rw [HT.lexLt_cons] at q ⊢
  by_cases e:x=y
  . rw [if_pos e]
    rw [if_pos e.symm] at q
    exact zfv (fun z=>h (by rw [e,z])) q
  . rw [if_neg e]
    rw [if_neg (fun z=>e z.symm)] at q
    have:=of_decide_eq_false q
    exact decide_eq_true (by omega)
theorem zr2 (Z:List Tm):((Cn Z).map TM).Pairwise fun a b=>ltT b a=false:=by
 unfold Cn
 rw [<-z60]
 exact z26 (z8y _ TM zhm)
structure Gs (m:Nat) (x:List Tm):Prop where
 few:x.length<=1000
 len:∀t∈x,t.1.length=m
 nz:∀t∈x,t.2≠0
 inc:∀i,i+1<x.length->z2j (x.getD i ([],0)).1 (x.getD (i+1) ([],0)).1=false
theorem getD_mem {x:List Tm} {i:Nat} (h:i<x.length):x.getD i ([],0)∈x:=by
 rw [List.getD_eq_getElem?_getD,List.getElem?_eq_getElem h];exact List.getElem_mem h
theorem zuf {x:List Tm} {k:Nat} {i:Int} (hi:i=(k:Int)) (h:k<x.length):dIx (.lst (x.map TM)) (.int i)=some (TM (x.getD k ([],0))):=by
 subst hi
 have e:(x.map TM)[k]?=some (TM (x.getD k ([],0))):=by rw [List.getElem?_map,List.getD_eq_getElem?_getD,List.getElem?_eq_getElem h];rfl
 exact zp4 e
theorem zr3 (p:Int):z27 [some (.int p)]=.ok (.bl false):=by
 unfold z27
 walk_at "dz"
 rw [zr0]
 walk_at "dz"
theorem zwh (a b:List Int):zq8 (.tup (a.map D.int)) (.tup (b.map D.int))=some (.bl (z2j a b)):=by
 simp only [zq8,z3a]
theorem zr4 {m:Nat} (hm:m<=5) {x:List Tm} (g:Gs m x) {i:Nat} (hi:i<x.length) :
  z1l [.im (.lst (x.map TM)),.im (.int (m:Int)),.im (.int (i:Int)),.im (TM (x.getD i ([],0)))]=.nx [.im (.lst (x.map TM)),.im (.int (m:Int)),.im (.int (i:Int)),.im (TM (x.getD i ([],0)))]:=by
 have gl:=g.len _ (getD_mem hi)
 have gz:=g.nz _ (getD_mem hi)
 have gi:∀k,i=k+1->z2j (x.getD k ([],0)).1 (x.getD i ([],0)).1=false:=fun k e=>by rw [e];exact g.inc k (by omega)
 have gx:∀k,i=k+1->dIx (.lst (x.map TM)) (.int ((i:Int) - 1))=some (TM (x.getD k ([],0))):=fun k e=>zuf (by omega) (by omega)
 generalize x.getD i ([],0)=t at *
 obtain ⟨ps,v⟩:=t
 unfold z1l
 rw [z0m (ρ':=[.im (.lst (x.map TM)),.im (.int (m:Int)),.im (.int (i:Int)),.im (TM (ps,v))]) (by
  generalize x.map TM=X
  unfold TM
  walk_at "dz"
  rw [if_neg (by simp [show ps.length=m from gl])])]
 rw [z0m (ρ':=[.im (.lst (x.map TM)),.im (.int (m:Int)),.im (.int (i:Int)),.im (TM (ps,v))]) (by
  generalize x.map TM=X
  unfold TM
  walk_at "dz"
  rw [if_pos (by rw [List.length_map,show ps.length=m from gl];omega),z5o (en:=D.int) (bs:=fun p=>[.int p]) (g:=fun _=>.bl false) ps (fun _ _=>rfl) (fun p _=>zr3 p)]
  walk_at "dz"
  rw [any_map ps (fun _=>false),show (ps.any fun _=>false)=false by simp]
  walk_at "dz"
  rw [zr0]
  walk_at "dz"
  rw [decide_eq_false gz]
  walk_at "dz")]
 cases i with
 | zero=>
  generalize x.map TM=X
  generalize TM (ps,v)=T
  walk_at "dz"
  rw [if_neg (by simp)]
 | succ k=>
  have g1:=gi k rfl
  have g2:=gx k rfl
  generalize x.getD k ([],0)=u at *
  generalize x.map TM=X at *
  unfold TM at *
  walk_at "dz"
  rw [g2]
  walk_at "dz"
  rw [zwh,g1]
  walk_at "dz"
  rw [ite_self]
theorem zr5 {m:Nat} (hm:m<=5) {x:List Tm} (g:Gs m x):z0z [.lst (x.map TM),.int (m:Int)]=.ok (.bl true):=by
 unfold z0z
 rw [z9q,if_pos (show [D.lst (x.map TM),D.int (m:Int)].length=2 from rfl)]
 show SR.out false (z2p [.im (.lst (x.map TM)),.im (.int (m:Int)),.em,.em])=_
 unfold z2p
 rw [z0m (ρ':=[.im (.lst (x.map TM)),.im (.int (m:Int)),.em,.em]) (by
  generalize x.map TM=X
  walk_at "dz")]
 obtain ⟨ρ',q,s2,s3,hr⟩:=z7k (tg:=.t [2,3]) (g:=z1l) x.length (fun (i:Nat)=>D.tup [.int (i:Int),TM (x.getD i ([],0))])
  (fun k ρ=>∃(s2 s3:Sl),ρ=[.im (.lst (x.map TM)),.im (.int (m:Int)),s2,s3])
  [.im (.lst (x.map TM)),.im (.int (m:Int)),.em,.em] ⟨.em,.em,rfl⟩ (by
   rintro i hi ρ ⟨s2,s3,rfl⟩
   exact ⟨_,_,rfl,Or.inl (zr4 hm g hi),⟨_,_,rfl⟩⟩)
 rw [z0m (ρ':=ρ') (by
  rw [<-q]
  unfold zap
  rw [show iEn (z00 (z04 0) z0f) (vis [true] [.im (.lst (x.map TM)),.im (.int (m:Int)),.em,.em])=.ok ((List.range x.length).map fun (i:Nat)=>D.tup [.int (i:Int),TM (x.getD i ([],0))]) by
   unfold iEn
   show R.of (some (((zD 0 (x.map TM).length).zip (x.map TM)).map fun p=>D.tup [p.1,p.2]))=_
   rw [R.of_some,show x.map TM=(List.range x.length).map fun i=>TM (x.getD i ([],0)) by
    conv=>lhs;rw [zix x ([],0)]
    rw [List.map_map];rfl,zaz]]
  rfl)]
 rw [hr]
 generalize x.map TM=X
 walk_at "dz"
theorem zr6 (t:Tm):(TM t).noL=true:=by
 simp only [TM,D.noL,z2t,Bool.and_true]
 exact z1s D.int t.1 fun x _=>z31 x
theorem za8 (l:List Tm):z2t (l.map TM)=true:=by
 exact z1s TM l fun x _=>zr6 x
theorem pls_of {α:Type} (f:α->D) (h:∀x,(f x).pl=true):∀l:List α,pls (l.map f)=true
 | []=>rfl
 | x::l=>by rw [List.map_cons];simp only [pls,h x,pls_of f h l,Bool.and_true]
theorem zug (t:Tm):(TM t).pl=true:=by
 simp only [TM,D.pl,pls,Bool.and_true]
 exact pls_of D.int (fun _=>rfl) t.1
theorem zrk (l:List Tm):(D.lst (l.map TM)).pl=true:=by
 simp only [D.pl];exact pls_of TM zug l
theorem zht (l:List Tm):(D.lst (l.map TM)).dep<=4:=by
 have:=z7m l TM 3 zfr
 simp only [D.dep];omega
theorem zwi (a b:List Tm):(D.lst [.lst (a.map TM),.lst (b.map TM)]).pl=true:=by
 have h1:=zrk a;have h2:=zrk b
 simp only [D.pl] at h1 h2 ⊢
 simp only [pls,D.pl,h1,h2,Bool.and_true]
theorem zuh (a b:List Tm):(D.lst [.lst (a.map TM),.lst (b.map TM)]).dep<=5:=by
 have h1:=zht a;have h2:=zht b
 simp only [D.dep,z59] at *;omega
theorem zly {d:D} (h:d.pl=true) (h2:d.dep<=5):dEq d d=some (.bl true):=by
 unfold dEq;rw [if_pos ⟨h,h,by omega⟩,z3x d h]
theorem zfw {d:D} (h:d.pl=true) (h2:d.dep<=5):dNe d d=some (.bl false):=by
 unfold dNe;rw [if_pos ⟨h,h,by omega⟩,z3x d h];rfl
def za9 (a b:List Int):List Int:=List.zipWith (·+·) a b
theorem z96 (a b:List Int):za9 a b=za9 b a:=by
 unfold za9
 induction a generalizing b with
 | nil=>cases b<;>rfl
 | cons x a ih=>cases b with
  | nil=>rfl
  | cons y b=>rw [List.zipWith_cons_cons,List.zipWith_cons_cons,ih,Int.add_comm]
theorem zbe {a b:List Int} {m:Nat} (ha:a.length=m) (hb:b.length=m):(za9 a b).length=m:=by
 unfold za9;rw [List.length_zipWith,ha,hb];exact Nat.min_self m
def z13 (t u:Tm):Tm:=(za9 u.1 t.1,u.2 * t.2)
theorem zfx (t u:Tm):z13 t u=z13 u t:=by unfold z13;rw [z96,Int.mul_comm]
def prs (A B:List Tm):List Tm:=A.flatMap fun t=>B.map (z13 t)
theorem z3i (t:Tm) (A B:List Tm):prs (t::A) B=B.map (z13 t)++prs A B:=by unfold prs;rw [List.flatMap_cons]
theorem zfy:∀A B:List Tm,(prs A B).length=A.length * B.length
 | [],B=>by simp [prs]
 | t::A,B=>by rw [z3i,List.length_append,List.length_map,zfy A B,List.length_cons,Nat.add_mul];omega
theorem zfz (A:List Tm):prs A []=[]:=by unfold prs;induction A with
 | nil=>rfl
 | cons t A ih=>rw [List.flatMap_cons,ih];rfl
theorem z50 (t:Tm) (b:List Tm) (j:List Int):tot (t::b) j=(if t.1=j then t.2 else 0)+tot b j:=by
 simp only [tot]
theorem z3j:∀(a b:List Tm) (j:List Int),tot (a++b) j=tot a j+tot b j
 | [],b,j=>by rw [List.nil_append,show tot [] j=0 from rfl,Int.zero_add]
 | t::a,b,j=>by rw [List.cons_append,z50,z50,z3j a b j,Int.add_assoc]
theorem zg0 (u:Tm) (B:List Tm) (j:List Int):∀A:List Tm,tot (prs A (u::B)) j=tot (A.map (z13 u)) j+tot (prs A B) j
 | []=>rfl
 | t::A=>by
  rw [z3i,z3i,z3j,z3j,zg0 u B j A,List.map_cons,List.map_cons,z50,z50,zfx t u]
  omega
theorem zbf (j:List Int) (A:List Tm):∀B:List Tm,tot (prs B A) j=tot (prs A B) j
 | []=>by rw [zfz];rfl
 | u::B=>by rw [z3i,z3j,zbf j A B,zg0]
def pro (A B:List Tm):List Tm:=Cn (z0c [] (prs A B))
theorem zg1 (A B:List Tm):(z06 (z0c [] (prs A B))).Nodup:=z5z _ _ (by simp [z06])
theorem zhu (A B:List Tm):pro B A=pro A B:=zlu (zg1 _ _) (zg1 _ _) fun j=>by rw [z7y,z7y,zbf]
theorem zjj {L:List Tm} (h:(z06 L).Nodup):Cn (z0c [] L)=Cn L:=zlu (z5z _ _ (by simp [z06])) h fun j=>by rw [z7y,zfj,Int.zero_add,zfm h]
theorem zlz {a b:List Tm} (p:a.Perm b):Cn a=Cn b:=zb9 (p.filter _)
theorem zhv {A B:List Tm} {m:Nat} (hA:∀t∈A,t.1.length=m) (hB:∀t∈B,t.1.length=m):∀t∈prs A B,t.1.length=m:=fun t ht=>by
 unfold prs at ht
 obtain ⟨x,hx,ht⟩:=List.mem_flatMap.mp ht
 obtain ⟨y,hy,rfl⟩:=List.mem_map.mp ht
 exact zbe (hB y hy) (hA x hx)
theorem zr7 {A B:List Tm} {m:Nat} (hA:∀t∈A,t.1.length=m) (hB:∀t∈B,t.1.length=m) (hl:A.length * B.length<=1000):Gs m (pro A B):=by
 have l:=z80 (prs A B) []
 rw [zfy] at l
 have nd:=zg1 A B
 have nl:=z4z nd
 refine ⟨?_,fun t ht=>?_,fun t ht=>(mem_Cn.mp ht).2,fun i hi=>?_⟩
 . have:=zfn (z0c [] (prs A B));unfold pro;simp at l;omega
 . have:=zb8 _ _ _ (List.mem_map.mpr ⟨t,(mem_Cn.mp ht).1,rfl⟩:t.1∈z06 (z0c [] (prs A B)))
   rcases this with h | h
   . simp [z06] at h
   . obtain ⟨u,hu,e⟩:=List.mem_map.mp h
     rw [<-e];exact zhv hA hB u hu
 . have s:=zr2 (z0c [] (prs A B))
   rw [List.pairwise_map,List.pairwise_iff_getElem] at s
   unfold pro at hi ⊢
   have h1:=s i (i+1) (by omega) hi (by omega)
   unfold z06 List.Nodup at nl
   rw [List.pairwise_map,List.pairwise_iff_getElem] at nl
   have h2:=nl i (i+1) (by omega) hi (by omega)
   rw [List.getD_eq_getElem?_getD,List.getD_eq_getElem?_getD,List.getElem?_eq_getElem (by omega),List.getElem?_eq_getElem hi]
   show z2j (Cn _)[i].1 (Cn _)[i+1].1=false
   rw [zb5,zfv h2 (by rw [<-zue (fun z=>h2 z.symm)];exact h1)];rfl
def eU (m:Nat):List Int:=(List.range m).map fun k=>if k=0 then 1 else 0
def eD (m:Nat):List Int:=(List.range m).map fun k=>if k=0 then -1 else 0
theorem zg2 {k:List Int} {m:Nat} (h:k.length=m):za9 (eU m) (za9 (eD m) k)=k:=by
 unfold za9 eU eD
 apply List.ext_getElem
 . simp [h]
 . intro i h1 h2
   simp only [List.getElem_zipWith,List.getElem_map,List.getElem_range]
   split<;>omega
def shD (m:Nat) (t:Tm):Tm:=z13 t (eD m,1)
def shU (m:Nat) (t:Tm):Tm:=z13 t (eU m,1)
theorem zg3 (A:List Tm) (u:Tm):prs A [u]=A.map fun t=>z13 t u:=by
 unfold prs
 induction A with
 | nil=>rfl
 | cons t A ih=>rw [List.flatMap_cons,ih];rfl
theorem zm0 {m:Nat} {t:Tm} (h:t.1.length=m):shU m (shD m t)=t:=by
 unfold shU shD z13
 simp only
 rw [zg2 h,Int.one_mul,Int.one_mul]
theorem zci {A:List Tm} {m:Nat} (hn:(z06 A).Nodup) (hz:∀t∈A,t.2≠0) (hl:∀t∈A,t.1.length=m):pro A [(eD m,1)]=Cn (A.map (shD m))/\(pro A [(eD m,1)]).Perm (A.map (shD m))/\pro (pro A [(eD m,1)]) [(eU m,1)]=Cn A:=by
 have nd:(z06 (A.map (shD m))).Nodup:=by
  unfold z06 at hn ⊢
  unfold List.Nodup at hn ⊢
  rw [List.map_map,List.pairwise_map]
  rw [List.pairwise_map] at hn
  refine hn.imp_of_mem fun {a b} ha hb hab e=>hab ?_
  have e':(shD m a).1=(shD m b).1:=e
  have a1:za9 (eU m) (shD m a).1=a.1:=zg2 (hl a ha)
  have b1:za9 (eU m) (shD m b).1=b.1:=zg2 (hl b hb)
  rw [<-a1,<-b1,e']
 have e1:pro A [(eD m,1)]=Cn (A.map (shD m)):=by
  unfold pro
  rw [zg3]
  exact zjj nd
 have p1:(Cn (A.map (shD m))).Perm (A.map (shD m)):=by
  unfold Cn
  rw [List.filter_eq_self.mpr fun t ht=>?_]
  . exact z3g _
  . obtain ⟨u,hu,rfl⟩:=List.mem_map.mp ht
    have:=hz u hu
    show decide ((1 * u.2:Int)≠0)=true
    rw [Int.one_mul]
    exact decide_eq_true this
 refine ⟨e1,by rw [e1];exact p1,?_⟩
 have p2:((Cn (A.map (shD m))).map (shU m)).Perm A:=by
  refine (p1.map _).trans ?_
  rw [List.map_map]
  have:A.map (shU m∘shD m)=A:=by
   conv=>rhs;rw [<-List.map_id A]
   exact List.map_congr_left fun t ht=>zm0 (hl t ht)
  rw [this]
 unfold pro
 unfold pro at e1
 rw [e1,zg3]
 show Cn (z0c [] ((Cn (A.map (shD m))).map (shU m)))=_
 rw [zjj,zlz p2]
 have:(z06 ((Cn (A.map (shD m))).map (shU m))).Perm (z06 A):=p2.map _
 exact this.nodup_iff.mpr hn
theorem zcj (ls:List Tm):z5s (ls.map TM)=true:=by
 unfold z5s
 rw [z8y _ _ zhm,decide_eq_true (Nat.le_trans (z7m ls TM 3 zfr) (by decide)),z6n ls TM (fun d=>(ls.map TM).all fun e=>(z21 d e).isSome) (fun x=>z6n _ _ _ fun y=>zjh x y),z6n ls TM zcl (fun x=>rfl)]
 simp
theorem zm1 (l:List Tm):z4o [.lst (l.map TM)]=some (.lst ((soM l).map TM)):=by
 simp only [z4o,zcj l,if_true,z60]
theorem zjk {l:List Tm} {f:DE->R D} {ρ:DE} {t1:DE->R Bool} {f2:DE->R D} (h:f ρ=.ok (dnA l)) (hl:l.length<=1000) (h1:∀t:Tm,t1 [some (.tup (t.1.map D.int)),some (.int t.2)]=.ok (nz t)) (h2:∀t:Tm,f2 [some (.tup (t.1.map D.int)),some (.int t.2)]=.ok (TM t)) :
  eCB z4o (z00 (z14 (zf8 f) (bT 2) [] t1 f2) z0f) ρ=.ok (.lst ((Cn l).map TM)):=by
 have hc:z14 (zf8 f) (bT 2) [] t1 f2 ρ=.ok (.lst ((l.filter nz).map TM)):=by
  unfold z14
  rw [zfu h,R.bind_ok,if_pos (by rw [List.length_map];omega)]
  show ((z3k (bT 2) t1 f2 [] (l.map TM)).bind fun ys=>R.ok (D.lst ys))=_
  rw [z8t (bn:=bT 2) (en:=TM) (bs:=fun t=>[.tup (t.1.map D.int),.int t.2]) (p:=nz) (g:=TM) l (fun x _=>rfl) (fun t _=>h1 t) (fun t _ _=>h2 t)];rfl
 unfold eCB z00
 rw [hc,R.bind_ok]
 show R.of (z4o [_])=_
 rw [zm1];rfl
theorem zm2 (l:List Tm) (hl:l.length<=1000):z1b [dnA l]=.ok (.lst ((Cn l).map TM)):=by
 unfold z1b
 rw [z9q,if_pos (show [dnA l].length=1 from rfl)]
 show SR.out true (z4h [.im (dnA l)])=_
 unfold z4h
 rw [z8s,zjk (l:=l) rfl hl zqy zqz]
 rfl
theorem zwj (t:Tm):z1x [some (.tup (t.1.map D.int)),some (.int t.2)]=.ok (nz t):=by
 unfold z1x
 walk_at "dz"
 simp [nz]
theorem zwk (t:Tm):z1y [some (.tup (t.1.map D.int)),some (.int t.2)]=.ok (TM t):=by
 unfold z1y
 walk_at "dz"
 rfl
theorem zg4:∀a b:List Int,(a.zip b).map (fun p=>D.int (p.1+p.2))=(za9 a b).map D.int
 | [],_=>rfl
 | _::_,[]=>rfl
 | x::a,y::b=>by rw [List.zip_cons_cons,List.map_cons,zg4 a b];rfl
theorem zve {fi:DE->R (List D)} {ρ:DE} {f:DE->R D} {a b:List Int} (hi:fi ρ=.ok [.tup (a.map D.int),.tup (b.map D.int)]) (hl:a.length=b.length) (h5:a.length<=1000) (hf:∀x y:Int,f [some (.int x),some (.int y)]=.ok (.int (x+y))) :
  eCB z1i (z00 (z14 (z4t fi) (bT 2) [] z4v f) z0f) ρ=.ok (.tup ((za9 a b).map D.int)):=by
 have hz:z4t fi ρ=.ok ((a.zip b).map fun p=>D.tup [.int p.1,.int p.2]):=by
  unfold z4t
  rw [hi,R.bind_ok]
  show R.of (if (a.map D.int).length=(b.map D.int).length then some (((a.map D.int).zip (b.map D.int)).map fun p=>D.tup [p.1,p.2]) else none)=_
  rw [if_pos (by rw [List.length_map,List.length_map];exact hl),R.of_some,List.zip_map,List.map_map]
  rfl
 have hc:z14 (z4t fi) (bT 2) [] z4v f ρ=.ok (.lst ((za9 a b).map D.int)):=by
  unfold z14
  rw [hz,R.bind_ok,if_pos (by rw [List.length_map,List.length_zip];omega)]
  show ((z3k (bT 2) z4v f [] ((a.zip b).map fun p=>D.tup [.int p.1,.int p.2])).bind fun ys=>R.ok (D.lst ys))=_
  rw [z5o (bn:=bT 2) (en:=fun p:Int×Int=>D.tup [.int p.1,.int p.2]) (bs:=fun p=>[.int p.1,.int p.2]) (g:=fun p=>D.int (p.1+p.2)) (a.zip b) (fun x _=>rfl) (fun p _=>hf p.1 p.2)]
  rw [R.bind_ok]
  rw [zg4]
 unfold eCB z00
 rw [hc,R.bind_ok]
 rfl
def Sm (v:Int):Prop:=v.natAbs<=10 ^ 30
theorem Sm.bits {v:Int} (h:Sm v):PySem.Builtin.Int.intBits v<=2 ^ 20:=Nat.le_trans (PySem.intBits_le_iff.mpr (Nat.lt_of_le_of_lt h (show 10 ^ 30<2 ^ 100 by decide))) (by decide)
structure Ok (m:Nat) (A:List Tm):Prop where
 len:∀t∈A,t.1.length=m
 sm:∀t∈A,Sm t.2
theorem Ok.tail {m:Nat} {t:Tm} {A:List Tm} (h:Ok m (t::A)):Ok m A:=⟨fun u hu=>h.len u (List.mem_cons_of_mem _ hu),fun u hu=>h.sm u (List.mem_cons_of_mem _ hu)⟩
theorem zr8 (T:Sl) {m:Nat} (hm:m<=1000) (l:List Tm) (hl:l.length<=1000) (t u:Tm) (ht:t.1.length=m/\Sm t.2) (hu:u.1.length=m/\Sm u.2) (s6:Sl) :
  z1k [.ow (dnA l),T,.im (.tup (t.1.map D.int)),.im (.int t.2),.im (.tup (u.1.map D.int)),.im (.int u.2),s6] =
   .nx [.ow (dnA (z4u l (z13 t u).1 (z2f l (z13 t u).1+(z13 t u).2))),T,.im (.tup (t.1.map D.int)),.im (.int t.2),.im (.tup (u.1.map D.int)),.im (.int u.2),.im (.tup ((z13 t u).1.map D.int))]:=by
 have e1:=zqv l (z13 t u).1
 have e2:=zlw hl (z13 t u).1 (z2f l (z13 t u).1+(z13 t u).2)
 have n1:z2t ((z13 t u).1.map D.int)=true:=z1s D.int _ fun x _=>z31 x
 have ez:∀A C:Option D,eCB z1i (z00 (z14 (z4t (z00 (z04 4) (z00 (z04 2) z0f))) (bT 2) [] z4v z1j) z0f) [none,A,some (.tup (t.1.map D.int)),some (.int t.2),some (.tup (u.1.map D.int)),some (.int u.2),C]=.ok (.tup ((z13 t u).1.map D.int)):=fun A C=>
  zve (a:=u.1) (b:=t.1) rfl (by rw [ht.1,hu.1]) (by omega) fun x y=>by unfold z1j;walk_at "dz"
 have em:z9v (.int u.2) (.int t.2)=some (.int (z13 t u).2):=zq1 hu.2.bits ht.2.bits
 generalize hw:z2f l (z13 t u).1=w at *
 generalize z4u l (z13 t u).1 (w+(z13 t u).2)=l' at e2 ⊢
 unfold dnA at *
 generalize (l.map fun t=>kN t.1)=ks at *
 generalize (l.map fun t=>D.int t.2)=ds at *
 generalize (l'.map fun t=>kN t.1)=ks' at *
 generalize (l'.map fun t=>D.int t.2)=ds' at *
 generalize (z13 t u).1.map D.int=es at *
 generalize t.1.map D.int=at' at *
 generalize u.1.map D.int=au at *
 generalize (z13 t u).2=v at *
 generalize t.2=tt at *
 generalize u.2=uu at *
 unfold z1k
 generalize (eCB z1i (z00 (z14 (z4t (z00 (z04 4) (z00 (z04 2) z0f))) (bT 2) [] z4v z1j) z0f))=E at *
 walk_at "dz"
 rw [ez]
 walk_at "dz"
 rw [n1]
 walk_at "dz"
 rw [zji rfl rfl rfl e1]
 walk_at "dz"
 rw [em]
 walk_at "dz"
 rw [n1]
 walk_at "dz"
 rw [e2]
 walk_at "dz"
theorem zr9 {m:Nat} (hm:m<=1000) (l:List Tm) (B:List Tm) (hB:Ok m B) (t:Tm) (ht:t.1.length=m/\Sm t.2) (hl:l.length+B.length<=1000) :
  z0w [dnA l,.lst (B.map TM),.tup (t.1.map D.int),.int t.2]=.ok (dnA (z0c l (B.map (z13 t)))):=by
 unfold z0w
 show (match z2n [.ow (dnA l),.im (.lst (B.map TM)),.im (.tup (t.1.map D.int)),.im (.int t.2),.em,.em,.em] with
  | .nx (.ow d'::_)=>R.ok d'
  | _=>R.st)=_
 obtain ⟨ρ',q,l',s4,s5,s6,⟨h1,_⟩,hr⟩:=z4w (tg:=.t [4,5]) (g:=z1k) (en:=TM)
  (fun r ρ=>∃(l':List Tm) (s4 s5 s6:Sl),(z0c l' (r.map (z13 t))=z0c l (B.map (z13 t))/\l'.length+r.length<=1000/\Ok m r)/\ρ=[.ow (dnA l'),.im (.lst (B.map TM)),.im (.tup (t.1.map D.int)),.im (.int t.2),s4,s5,s6])
  B [.ow (dnA l),.im (.lst (B.map TM)),.im (.tup (t.1.map D.int)),.im (.int t.2),.em,.em,.em] ⟨l,.em,.em,.em,⟨rfl,hl,hB⟩,rfl⟩ (by
   rintro u r ρ ⟨l',s4,s5,s6,⟨h1,h2,h3⟩,rfl⟩
   rw [List.length_cons] at h2
   have e:=zr8 (.im (.lst (B.map TM))) hm l' (by omega) t u ht ⟨h3.len u List.mem_cons_self,h3.sm u List.mem_cons_self⟩ s6
   refine ⟨_,_,rfl,Or.inl e,⟨z4u l' (z13 t u).1 (z2f l' (z13 t u).1+(z13 t u).2),_,_,_,⟨h1,?_,h3.tail⟩,rfl⟩⟩
   have:=z7z l' (z13 t u).1 (z2f l' (z13 t u).1+(z13 t u).2)
   omega)
 have e:z2n [.ow (dnA l),.im (.lst (B.map TM)),.im (.tup (t.1.map D.int)),.im (.int t.2),.em,.em,.em]=.nx ρ':=by
  rw [<-q];rfl
 rw [e,hr]
 rw [show l'=z0c l (B.map (z13 t)) from h1]
theorem zra {m:Nat} (hm:m<=1000) (A:Sl) (l:List Tm) (B:List Tm) (hB:Ok m B) (t:Tm) (ht:t.1.length=m/\Sm t.2) (hl:l.length+B.length<=1000) :
  z2o [A,.im (.lst (B.map TM)),.ow (dnA l),.im (.tup (t.1.map D.int)),.im (.int t.2)]=.nx [A,.im (.lst (B.map TM)),.ow (dnA (z0c l (B.map (z13 t)))),.im (.tup (t.1.map D.int)),.im (.int t.2)]:=by
 have e:=zr9 hm l B hB t ht hl
 generalize dnA (z0c l (B.map (z13 t)))=d' at *
 generalize dnA l=d at *
 generalize B.map TM=b at *
 generalize t.1.map D.int=at' at *
 unfold z2o zqf
 walk_at "dz"
 rw [e]
 cases A<;>rfl
theorem zg5 (l a b:List Tm):z0c (z0c l a) b=z0c l (a++b):=by unfold z0c;rw [List.foldl_append]
theorem z6v {m:Nat} (hm:m<=1000) (A B:List Tm) (hA:Ok m A) (hB:Ok m B) (hl:A.length * B.length<=1000) (lA:A.length<=1000) (lB:B.length<=1000) :
  z0v [.lst (A.map TM),.lst (B.map TM)]=.ok (.lst ((pro A B).map TM)):=by
 unfold z0v
 rw [z9q,if_pos (show [D.lst (A.map TM),D.lst (B.map TM)].length=2 from rfl)]
 show SR.out true (z5u [.im (.lst (A.map TM)),.im (.lst (B.map TM)),.em,.em,.em])=_
 unfold z5u
 rw [z0m (ρ':=[.im (.lst (A.map TM)),.im (.lst (B.map TM)),.ow (dnA []),.em,.em]) (by
  generalize A.map TM=A'
  generalize B.map TM=B'
  walk_at "dz"
  simp only [z9t]
  walk_at "dz"
  rw [show keeps true (D.dn [] [])=true from rfl]
  walk_at "dz"
  rfl)]
 obtain ⟨ρ',q,l',s3,s4,⟨h1,h2,h3⟩,hr⟩:=z4w (tg:=.t [3,4]) (g:=z2o) (en:=TM)
  (fun r ρ=>∃(l':List Tm) (s3 s4:Sl),(z0c l' (prs r B)=z0c [] (prs A B)/\l'.length+r.length * B.length<=1000/\Ok m r)/\ρ=[.im (.lst (A.map TM)),.im (.lst (B.map TM)),.ow (dnA l'),s3,s4])
  A [.im (.lst (A.map TM)),.im (.lst (B.map TM)),.ow (dnA []),.em,.em] ⟨[],.em,.em,⟨rfl,by simpa using hl,hA⟩,rfl⟩ (by
   rintro t r ρ ⟨l',s3,s4,⟨h1,h2,h3⟩,rfl⟩
   rw [List.length_cons,Nat.add_mul] at h2
   have e:=zra hm (.im (.lst (A.map TM))) l' B hB t ⟨h3.len t List.mem_cons_self,h3.sm t List.mem_cons_self⟩ (by omega)
   refine ⟨_,_,rfl,Or.inl e,⟨_,_,_,⟨?_,?_,h3.tail⟩,rfl⟩⟩
   . rw [zg5,<-z3i];exact h1
   . have:=z80 (B.map (z13 t)) l'
     rw [List.length_map] at this
     omega)
 rw [z0m (ρ':=ρ') (by rw [<-q];rfl)]
 rw [hr,z8s]
 have e':l'=z0c [] (prs A B):=h1
 have ll:l'.length<=1000:=by rw [List.length_nil,Nat.zero_mul] at h2;omega
 rw [show z1n z1b (z00 (z04 2) z0f) (vis [false,false,true] [.im (.lst (A.map TM)),.im (.lst (B.map TM)),.ow (dnA l'),s3,s4])=z1b [dnA l'] from rfl,zm2 _ ll,e']
 rfl
theorem zm3 (A B:Sl) {m:Nat} (hm:m<=1000) (l:List Tm) (hl:l.length<=1000) (t u:Tm) (ht:t.1.length=m/\Sm t.2) (hu:u.1.length=m/\Sm u.2) (s7:Sl) :
  z17 [A,B,.ow (dnA l),.im (.tup (t.1.map D.int)),.im (.int t.2),.im (.tup (u.1.map D.int)),.im (.int u.2),s7] =
   .nx [A,B,.ow (dnA (z4u l (z13 t u).1 (z2f l (z13 t u).1+(z13 t u).2))),.im (.tup (t.1.map D.int)),.im (.int t.2),.im (.tup (u.1.map D.int)),.im (.int u.2),.im (.tup ((z13 t u).1.map D.int))]:=by
 have e1:=zqv l (z13 t u).1
 have e2:=zlw hl (z13 t u).1 (z2f l (z13 t u).1+(z13 t u).2)
 have n1:z2t ((z13 t u).1.map D.int)=true:=z1s D.int _ fun x _=>z31 x
 have ez:∀X Y C:Option D,eCB z1i (z00 (z14 (z4t (z00 (z04 3) (z00 (z04 5) z0f))) (bT 2) [] z4v z16) z0f) [X,Y,none,some (.tup (t.1.map D.int)),some (.int t.2),some (.tup (u.1.map D.int)),some (.int u.2),C]=.ok (.tup ((z13 t u).1.map D.int)):=fun X Y C=>by
  rw [show (z13 t u).1=za9 t.1 u.1 from z96 _ _]
  exact zve (a:=t.1) (b:=u.1) rfl (by rw [ht.1,hu.1]) (by omega) fun x y=>by unfold z16;walk_at "dz"
 have em:z9v (.int t.2) (.int u.2)=some (.int (z13 t u).2):=by
  rw [show (z13 t u).2=t.2 * u.2 from Int.mul_comm _ _]
  exact zq1 ht.2.bits hu.2.bits
 generalize hw:z2f l (z13 t u).1=w at *
 generalize z4u l (z13 t u).1 (w+(z13 t u).2)=l' at e2 ⊢
 unfold dnA at *
 generalize (l.map fun t=>kN t.1)=ks at *
 generalize (l.map fun t=>D.int t.2)=ds at *
 generalize (l'.map fun t=>kN t.1)=ks' at *
 generalize (l'.map fun t=>D.int t.2)=ds' at *
 generalize (z13 t u).1.map D.int=es at *
 generalize t.1.map D.int=at' at *
 generalize u.1.map D.int=au at *
 generalize (z13 t u).2=v at *
 generalize t.2=tt at *
 generalize u.2=uu at *
 unfold z17
 generalize (eCB z1i (z00 (z14 (z4t (z00 (z04 3) (z00 (z04 5) z0f))) (bT 2) [] z4v z16) z0f))=E at *
 walk_at "dz"
 rw [ez]
 walk_at "dz"
 rw [n1]
 walk_at "dz"
 rw [zji rfl rfl rfl e1]
 walk_at "dz"
 rw [em]
 walk_at "dz"
 rw [n1]
 walk_at "dz"
 rw [e2]
 walk_at "dz"
theorem zm4 {m:Nat} (hm:m<=1000) (A:Sl) (l:List Tm) (B:List Tm) (hB:Ok m B) (t:Tm) (ht:t.1.length=m/\Sm t.2) (hl:l.length+B.length<=1000) (s5 s6 s7:Sl):∃s5' s6' s7':Sl,
  z18 [A,.im (.lst (B.map TM)),.ow (dnA l),.im (.tup (t.1.map D.int)),.im (.int t.2),s5,s6,s7]=.nx [A,.im (.lst (B.map TM)),.ow (dnA (z0c l (B.map (z13 t)))),.im (.tup (t.1.map D.int)),.im (.int t.2),s5',s6',s7']:=by
 obtain ⟨ρ',q,l',s5',s6',s7',⟨h1,_⟩,hr⟩:=z4w (tg:=.t [5,6]) (g:=z17) (en:=TM)
  (fun r ρ=>∃(l':List Tm) (s5 s6 s7:Sl),(z0c l' (r.map (z13 t))=z0c l (B.map (z13 t))/\l'.length+r.length<=1000/\Ok m r)/\ρ=[A,.im (.lst (B.map TM)),.ow (dnA l'),.im (.tup (t.1.map D.int)),.im (.int t.2),s5,s6,s7])
  B [A,.im (.lst (B.map TM)),.ow (dnA l),.im (.tup (t.1.map D.int)),.im (.int t.2),s5,s6,s7] ⟨l,s5,s6,s7,⟨rfl,hl,hB⟩,rfl⟩ (by
   rintro u r ρ ⟨l',s5,s6,s7,⟨h1,h2,h3⟩,rfl⟩
   rw [List.length_cons] at h2
   have e:=zm3 A (.im (.lst (B.map TM))) hm l' (by omega) t u ht ⟨h3.len u List.mem_cons_self,h3.sm u List.mem_cons_self⟩ s7
   refine ⟨_,_,rfl,Or.inl e,⟨z4u l' (z13 t u).1 (z2f l' (z13 t u).1+(z13 t u).2),_,_,_,⟨h1,?_,h3.tail⟩,rfl⟩⟩
   have:=z7z l' (z13 t u).1 (z2f l' (z13 t u).1+(z13 t u).2)
   omega)
 refine ⟨s5',s6',s7',?_⟩
 have e:z18 [A,.im (.lst (B.map TM)),.ow (dnA l),.im (.tup (t.1.map D.int)),.im (.int t.2),s5,s6,s7]=.nx ρ':=by rw [<-q];cases A<;>rfl
 rw [e,hr,show l'=z0c l (B.map (z13 t)) from h1]
theorem zm5 {m:Nat} (hm:m<=1000) (A B:List Tm) (hA:Ok m A) (hB:Ok m B) (hl:A.length * B.length<=1000) (lA:A.length<=1000) (lB:B.length<=1000) :
  z0p [.lst (A.map TM),.lst (B.map TM)]=.ok (.lst ((pro A B).map TM)):=by
 unfold z0p
 rw [z9q,if_pos (show [D.lst (A.map TM),D.lst (B.map TM)].length=2 from rfl)]
 show SR.out true (z2e [.im (.lst (A.map TM)),.im (.lst (B.map TM)),.em,.em,.em,.em,.em,.em])=_
 unfold z2e
 rw [z0m (ρ':=[.im (.lst (A.map TM)),.im (.lst (B.map TM)),.ow (dnA []),.em,.em,.em,.em,.em]) (by
  generalize A.map TM=A'
  generalize B.map TM=B'
  walk_at "dz"
  simp only [z9t]
  walk_at "dz"
  rw [show keeps true (D.dn [] [])=true from rfl]
  walk_at "dz"
  rfl)]
 obtain ⟨ρ',q,l',s3,s4,s5,s6,s7,⟨h1,h2,h3⟩,hr⟩:=z4w (tg:=.t [3,4]) (g:=z18) (en:=TM)
  (fun r ρ=>∃(l':List Tm) (s3 s4 s5 s6 s7:Sl),(z0c l' (prs r B)=z0c [] (prs A B)/\l'.length+r.length * B.length<=1000/\Ok m r)/\ρ=[.im (.lst (A.map TM)),.im (.lst (B.map TM)),.ow (dnA l'),s3,s4,s5,s6,s7])
  A [.im (.lst (A.map TM)),.im (.lst (B.map TM)),.ow (dnA []),.em,.em,.em,.em,.em] ⟨[],.em,.em,.em,.em,.em,⟨rfl,by simpa using hl,hA⟩,rfl⟩ (by
   rintro t r ρ ⟨l',s3,s4,s5,s6,s7,⟨h1,h2,h3⟩,rfl⟩
   rw [List.length_cons,Nat.add_mul] at h2
   obtain ⟨s5',s6',s7',e⟩:=zm4 hm (.im (.lst (A.map TM))) l' B hB t ⟨h3.len t List.mem_cons_self,h3.sm t List.mem_cons_self⟩ (by omega) s5 s6 s7
   refine ⟨_,_,rfl,Or.inl e,⟨_,_,_,_,_,_,⟨?_,?_,h3.tail⟩,rfl⟩⟩
   . rw [zg5,<-z3i];exact h1
   . have:=z80 (B.map (z13 t)) l'
     rw [List.length_map] at this
     omega)
 rw [z0m (ρ':=ρ') (by rw [<-q];rfl)]
 have ll:l'.length<=1000:=by rw [List.length_nil,Nat.zero_mul] at h2;omega
 rw [hr,z8s,zjk (l:=l') rfl ll zwj zwk,show l'=z0c [] (prs A B) from h1]
 rfl
theorem zui (ns:List Int) (h:ns.length<=63):∃(m w:Nat) (cs:List Int) (cut:Nat),1<=m/\m<=4/\w<=60/\cs.length<=60/\cut<=cs.length/\∀k:DS->SR, 
  (z28 (z3q false 1 [true] (eOp z30 (eC (.int 1)) (eOp z9k (z1n z0b (z00 (z04 0) (z00 (eC (.int 0)) z0f))) (eC (.int 4)))))
  (z28 (z3q false 2 [true] (eOp dIx (z97 (z00 (eC (.int 1)) (z00 (eC (.int 1)) (z00 (eC (.int 60)) z0f)))) (eOp z9k (eOp zgt (z1n z0b (z00 (z04 0) (z00 (eC (.int 0)) z0f))) (eC (.int 4))) (eC (.int 3)))))
  (z28 (z3q true 3 [true] (eSl dSl (z04 0) (oSo (eC (.int 2))) (oSo (eC (.int 62)))))
  (z28 (z3q false 4 [true,false,false,true] (eOp z9k (z1n z0b (z00 (z04 0) (z00 (eC (.int 1)) z0f))) (eOp z30 (eCB ze2 (z00 (z04 3) z0f)) (eC (.int 1))))) k)))) [.im (.scr ns),.em,.em,.em,.em,.em,.em,.em,.em,.em,.em,.em,.em,.em,.em] =
  k [.im (.scr ns),.im (.int (m:Int)),.im (.int (w:Int)),.ow (L cs),.im (.int (cut:Int)),.em,.em,.em,.em,.em,.em,.em,.em,.em,.em]:=by
 have m0:0<=drw ns 0 % 4:=Int.emod_nonneg _ (by decide)
 have m1:drw ns 0 % 4<4:=Int.emod_lt_of_pos _ (by decide)
 have w0:0<=drw ns 0 / 4 % 3:=Int.emod_nonneg _ (by decide)
 have w1:drw ns 0 / 4 % 3<3:=Int.emod_lt_of_pos _ (by decide)
 have hlc:(z4s ns (some 2) (some 62)).length<=60:=by
  unfold z4s
  rw [List.length_take,List.length_drop]
  have e1:HT.sIx ns.length ns.length (some 62)<=62:=by unfold HT.sIx;simp only;rw [if_neg (by decide)];omega
  have e2:HT.sIx ns.length 0 (some 2)=min 2 ns.length:=by unfold HT.sIx;simp only;rw [if_neg (by decide)];rfl
  omega
 have c0:0<=drw ns 1 % (((z4s ns (some 2) (some 62)).length:Int)+1):=Int.emod_nonneg _ (by omega)
 have c1:drw ns 1 % (((z4s ns (some 2) (some 62)).length:Int)+1)<((z4s ns (some 2) (some 62)).length:Int)+1:=Int.emod_lt_of_pos _ (by omega)
 obtain ⟨w,hw,ew⟩:∃w:Nat,w<=60/\dIx (.lst [.int 1,.int 1,.int 60]) (.int (drw ns 0 / 4 % 3))=some (.int (w:Int)):=by
  have:drw ns 0 / 4 % 3=0\/drw ns 0 / 4 % 3=1\/drw ns 0 / 4 % 3=2:=by omega
  rcases this with e | e | e<;>rw [e]
  . exact ⟨1,by decide,rfl⟩
  . exact ⟨1,by decide,rfl⟩
  . exact ⟨60,by decide,rfl⟩
 refine ⟨(1+drw ns 0 % 4).toNat,w,z4s ns (some 2) (some 62),(drw ns 1 % (((z4s ns (some 2) (some 62)).length:Int)+1)).toNat,by omega,by omega,hw,hlc,by omega,fun k=>?_⟩
 rw [Int.toNat_of_nonneg c0,Int.toNat_of_nonneg (show 0<=1+drw ns 0 % 4 by omega)]
 rw [z0m (ρ':=[.im (.scr ns),.im (.int (1+drw ns 0 % 4)),.em,.em,.em,.em,.em,.em,.em,.em,.em,.em,.em,.em,.em]) (by
  walk_at "dz"
  rw [za7]
  walk_at "dz"
  rw [z7l (by decide)]
  walk_at "dz")]
 rw [z0m (ρ':=[.im (.scr ns),.im (.int (1+drw ns 0 % 4)),.im (.int (w:Int)),.em,.em,.em,.em,.em,.em,.em,.em,.em,.em,.em,.em]) (by
  walk_at "dz"
  rw [za7]
  walk_at "dz"
  rw [zes (by decide)]
  walk_at "dz"
  rw [z7l (by decide)]
  walk_at "dz"
  rw [ew]
  walk_at "dz")]
 rw [z0m (ρ':=[.im (.scr ns),.im (.int (1+drw ns 0 % 4)),.im (.int (w:Int)),.ow (L (z4s ns (some 2) (some 62))),.em,.em,.em,.em,.em,.em,.em,.em,.em,.em,.em]) (by
  walk_at "dz")]
 generalize z4s ns (some 2) (some 62)=cs at *
 rw [z0m (ρ':=[.im (.scr ns),.im (.int (1+drw ns 0 % 4)),.im (.int (w:Int)),.ow (L cs),.im (.int (drw ns 1 % ((cs.length:Int)+1))),.em,.em,.em,.em,.em,.em,.em,.em,.em,.em]) (by
  walk_at "dz"
  rw [za7]
  walk_at "dz"
  rw [z7l (by omega)]
  walk_at "dz")]
theorem zuj (ns cs:List Int) (m w cut:Nat) (hm:m<=5) (hw:w<=60) (hc:cs.length<=60) (hcut:cut<=cs.length):∃(Z Y:List Tm) (n1 n2:Nat),Gd m n1 Z/\Gd m n2 Y/\n1+n2<=60/\∀k:DS->SR,
  (z28 (z3q true 5 [false,true,true,true,true] (z1n z0y (z00 (eSl dSl (z04 3) oNo (oSo (z04 4))) (z00 (z04 1) (z00 (z04 2) z0f)))))
  (z28 (z3q true 6 [false,true,true,true,true] (z1n z0y (z00 (eSl dSl (z04 3) (oSo (z04 4)) oNo) (z00 (z04 1) (z00 (z04 2) z0f))))) k)) [.im (.scr ns),.im (.int (m:Int)),.im (.int (w:Int)),.ow (L cs),.im (.int (cut:Int)),.em,.em,.em,.em,.em,.em,.em,.em,.em,.em] =
  k [.im (.scr ns),.im (.int (m:Int)),.im (.int (w:Int)),.ow (L cs),.im (.int (cut:Int)),.ow (.lst ((Cn Z).map TM)),.ow (.lst ((Cn Y).map TM)),.em,.em,.em,.em,.em,.em,.em,.em]:=by
 have l12:(z4s cs none (some (cut:Int))).length+(z4s cs (some (cut:Int)) none).length<=60:=by
  have e1:HT.sIx cs.length cs.length (some (cut:Int))=cut:=by
   unfold HT.sIx;simp only;rw [if_neg (by omega)];omega
  have e2:HT.sIx cs.length 0 (some (cut:Int))=cut:=by
   unfold HT.sIx;simp only;rw [if_neg (by omega)];omega
  unfold z4s
  rw [e1,e2]
  show ((cs.drop 0).take (cut - 0)).length+((cs.drop cut).take (cs.length - cut)).length<=60
  rw [List.length_take,List.length_take,List.length_drop,List.length_drop];omega
 obtain ⟨Z,gZ,eZ⟩:=zr1 (z4s cs none (some (cut:Int))) (by omega) m w hm hw
 obtain ⟨Y,gY,eY⟩:=zr1 (z4s cs (some (cut:Int)) none) (by omega) m w hm hw
 refine ⟨Z,Y,_,_,gZ,gY,l12,fun k=>?_⟩
 have kZ:=za8 (Cn Z)
 have kY:=za8 (Cn Y)
 generalize (Cn Z).map TM=A at *
 generalize (Cn Y).map TM=B at *
 rw [z0m (ρ':=[.im (.scr ns),.im (.int (m:Int)),.im (.int (w:Int)),.ow (L cs),.im (.int (cut:Int)),.ow (.lst A),.em,.em,.em,.em,.em,.em,.em,.em,.em]) (by
  walk_at "dz"
  rw [eZ]
  walk_at "dz"
  rw [kZ]
  walk_at "dz")]
 rw [z0m (ρ':=[.im (.scr ns),.im (.int (m:Int)),.im (.int (w:Int)),.ow (L cs),.im (.int (cut:Int)),.ow (.lst A),.ow (.lst B),.em,.em,.em,.em,.em,.em,.em,.em]) (by
  walk_at "dz"
  rw [eY]
  walk_at "dz"
  rw [kY]
  walk_at "dz")]
theorem zuk {F T S:Nat} {m:List Bool} {fA fB:DE->R D} {t:DE->R Bool} {ρ:DS} {dF dA dB:List D} (h1:ρ[F]?=some (.ow (.lst dF))) (h2:ρ[T]?=some .em) (h3:ρ[S]?=some .em) (pA:fA (vis m ρ)=.ok (.lst dA)) (pB:fB (vis m ρ)=.ok (.lst dB))
  (c:m.getD F false=false/\dA.length<=1000/\dB.length<=1000/\dF.length<=1000) (p:t (((vis m ρ).set F (some (.lst dF))).set T (some (.lst [.lst dA,.lst dB])))=.ok false):zqg F T S m fA fB t ρ=.nx (zlj (vis m ρ)):=by
 unfold zqg
 rw [h1,h2,h3,pA,pB]
 simp only
 rw [if_pos c,p]
theorem zwl (k:Int):z5v [some (.int k)]=.ok (.int (if k=0 then 1 else 0)):=by
 unfold z5v
 walk_at "dz"
 by_cases h:k=0<;>simp [h]
theorem zrb (k:Int):z5w [some (.int k)]=.ok (.int (if k=0 then -1 else 0)):=by
 unfold z5w
 walk_at "dz"
 by_cases h:k=0<;>simp [h]
theorem zvf {f:DE->R D} {ρ:DE} {m:Nat} (hm:m<=4) {i:DE->R (List D)} (hi:i ρ=.ok [.int (m:Int)]) {c:Int} (hf:∀k:Int,f [some (.int k)]=.ok (.int (if k=0 then c else 0))) :
  eCB z1i (z00 (z14 (zar i) b1 [] z4v f) z0f) ρ=.ok (.tup (((List.range m).map fun k=>if k=0 then c else 0).map D.int)):=by
 have hz:zar i ρ=.ok ((List.range m).map fun (k:Nat)=>D.int (k:Int)):=by
  rw [zpo (m:Int) (by omega) hi]
  simp only [zD,Int.toNat_natCast,Int.zero_add]
 have hc:z14 (zar i) b1 [] z4v f ρ=.ok (.lst (((List.range m).map fun k=>if k=0 then c else 0).map D.int)):=by
  unfold z14
  rw [hz,R.bind_ok,if_pos (by rw [List.length_map,List.length_range];omega)]
  show ((z3k b1 z4v f [] ((List.range m).map fun (k:Nat)=>D.int (k:Int))).bind fun ys=>R.ok (D.lst ys))=_
  rw [z5o (bn:=b1) (en:=fun k:Nat=>D.int (k:Int)) (bs:=fun k=>[.int (k:Int)]) (g:=fun k=>D.int (if (k:Int)=0 then c else 0)) (List.range m) (fun x _=>rfl) (fun k _=>hf k)]
  rw [R.bind_ok,List.map_map]
  congr 2
  refine List.map_congr_left fun k _=>?_
  simp only [Function.comp]
  congr 1
  by_cases h:k=0
  . rw [h];simp
  . rw [if_neg h,if_neg (by omega)]
 unfold eCB z00
 rw [hc,R.bind_ok]
 rfl
theorem zjl {m:Nat} {k:List Int} (h:k.length=m):Ok m [(k,1)]:=⟨fun t ht=>by rw [List.mem_singleton.mp ht];exact h,fun t ht=>by rw [List.mem_singleton.mp ht];show (1:Int).natAbs<=10 ^ 30;decide⟩
theorem Gd.ok {m n:Nat} {Z:List Tm} (g:Gd m n Z):Ok m (Cn Z):=⟨fun t ht=>g.len t (mem_Cn.mp ht).1,fun t ht=>g.bd t (mem_Cn.mp ht).1⟩
theorem zm6 {a b:Nat} (h:a+b<=60):a * b<=1000:=by
 have h1:b<=60 - a:=by omega
 have h2:a<=60:=by omega
 refine Nat.le_trans (Nat.mul_le_mul_left a h1) ?_
 have:∀x:Fin 61,x.val * (60 - x.val)<=1000:=by decide
 exact this ⟨a,by omega⟩
theorem zhw (ns:List Int) (h:ns.length<=63):zcf [.scr ns]=.ok (.bl true):=by
 unfold zcf
 rw [z9q,if_pos (show [D.scr ns].length=1 from rfl)]
 show SR.out false (zlq [.im (.scr ns),.em,.em,.em,.em,.em,.em,.em,.em,.em,.em,.em,.em,.em,.em])=_
 unfold zlq
 obtain ⟨m,w,cs,cut,m1,hm,hw,hcs,hcut,ea⟩:=zui ns h
 rw [ea]
 obtain ⟨Z,Y,n1,n2,gZ,gY,hn,eb⟩:=zuj ns cs m w cut (by omega) hw hcs hcut
 rw [eb]
 have lZ:(Cn Z).length<=n1:=Nat.le_trans (zfn Z) gZ.few
 have lY:(Cn Y).length<=n2:=Nat.le_trans (zfn Y) gY.few
 have oZ:=gZ.ok
 have oY:=gY.ok
 have lZY:(Cn Z).length * (Cn Y).length<=1000:=zm6 (by omega)
 have e1:=zm5 (by omega) (Cn Z) (Cn Y) oZ oY lZY (by omega) (by omega)
 have e2:=z6v (by omega) (Cn Z) (Cn Y) oZ oY lZY (by omega) (by omega)
 have e3:=z6v (by omega) (Cn Y) (Cn Z) oY oZ (by rw [Nat.mul_comm];exact lZY) (by omega) (by omega)
 rw [zhu] at e3
 have e4:=z6v (by omega) (Cn Z) [] oZ ⟨by simp,by simp⟩ (by simp) (by omega) (by simp)
 have e5:=z6v (by omega) [] (Cn Y) ⟨by simp,by simp⟩ oY (by simp) (by simp) (by omega)
 rw [show pro (Cn Z) []=[] by unfold pro;rw [zfz];rfl] at e4
 rw [show pro [] (Cn Y)=[] from rfl] at e5
 have g6:=zr7 oZ.len oY.len lZY
 have e7:=zr5 (by omega) g6
 obtain ⟨b1',b2,b3⟩:=zci (z4z gZ.nd) (fun t ht=>(mem_Cn.mp ht).2) oZ.len
 rw [zlv gZ.nd] at b3
 have oP:Ok m (pro (Cn Z) [(eD m,1)]):=⟨fun t ht=>by
  obtain ⟨u,hu,rfl⟩:=List.mem_map.mp (b2.mem_iff.mp ht)
  exact zbe (by simp [eD]) (oZ.len u hu),fun t ht=>by
  obtain ⟨u,hu,rfl⟩:=List.mem_map.mp (b2.mem_iff.mp ht)
  show (1 * u.2:Int).natAbs<=_
  rw [Int.one_mul]
  exact oZ.sm u hu⟩
 have lP:(pro (Cn Z) [(eD m,1)]).length=(Cn Z).length:=by rw [b2.length_eq,List.length_map]
 have e8:=z6v (by omega) (Cn Z) [(eD m,1)] oZ (zjl (by simp [eD])) (by simp;omega) (by omega) (by simp)
 have e9:=z6v (by omega) (pro (Cn Z) [(eD m,1)]) [(eU m,1)] oP (zjl (by simp [eU])) (by simp;omega) (by omega) (by simp)
 rw [b3] at e9
 have kE:=za8 (pro (Cn Z) (Cn Y))
 have qE:=zfw (zrk (pro (Cn Z) (Cn Y))) (Nat.le_trans (zht _) (by decide))
 have q1:=zfw (zwi (Cn Z) (Cn Y)) (zuh _ _)
 have qA:=zly (zrk (Cn Z)) (Nat.le_trans (zht _) (by decide))
 have q0:dNe (.lst [.lst [],.lst []]) (.lst [.lst [],.lst []])=some (.bl false):=rfl
 have q3:dNe (.lst []) (.lst [])=some (.bl false):=rfl
 have lE:((pro (Cn Z) (Cn Y)).map TM).length<=1000:=by rw [List.length_map];exact g6.few
 have eu:∀ρ:DE,ρ[1]?=some (some (.int (m:Int)))->eCB z1i (z00 (z14 (zar (z00 (z04 1) z0f)) b1 [] z4v z5v) z0f) ρ=.ok (.tup ((eU m).map D.int)):=fun ρ hρ=>zvf hm (by unfold z00 z04 z0f;rw [hρ];rfl) zwl
 have ed:∀ρ:DE,ρ[1]?=some (some (.int (m:Int)))->eCB z1i (z00 (z14 (zar (z00 (z04 1) z0f)) b1 [] z4v z5w) z0f) ρ=.ok (.tup ((eD m).map D.int)):=fun ρ hρ=>zvf hm (by unfold z00 z04 z0f;rw [hρ];rfl) zrb
 have nU:z2t ((eU m).map D.int)=true:=z1s D.int _ fun x _=>z31 x
 have nD:z2t ((eD m).map D.int)=true:=z1s D.int _ fun x _=>z31 x
 simp only [List.map_cons,List.map_nil,TM] at e4 e5 e8 e9
 generalize (pro (Cn Z) (Cn Y)).map TM=E at *
 generalize (pro (Cn Z) [(eD m,1)]).map TM=P at *
 generalize (Cn Z).map TM=A at *
 generalize (Cn Y).map TM=B at *
 generalize (eU m).map D.int=U at *
 generalize (eD m).map D.int=W at *
 clear ea eb
 rw [z0m (ρ':=[.im (.scr ns),.im (.int (m:Int)),.im (.int (w:Int)),.ow (L cs),.im (.int (cut:Int)),.im (.lst A),.im (.lst B),.ow (.lst [.lst A,.lst B]),.em,.em,.em,.em,.em,.em,.em]) (by
  walk_at "dz")]
 rw [z0m (ρ':=[.im (.scr ns),.im (.int (m:Int)),.im (.int (w:Int)),.ow (L cs),.im (.int (cut:Int)),.im (.lst A),.im (.lst B),.ow (.lst [.lst A,.lst B]),.ow (.lst E),.em,.em,.em,.em,.em,.em]) (by
  walk_at "dz"
  rw [e1]
  walk_at "dz"
  rw [kE]
  walk_at "dz")]
 rw [z0m (ρ':=[.im (.scr ns),.im (.int (m:Int)),.im (.int (w:Int)),.ow (L cs),.im (.int (cut:Int)),.im (.lst A),.im (.lst B),.ow (.lst [.lst A,.lst B]),.ow (.lst E),.ow (.lst E),.em,.em,.em,.em,.em]) (by
  walk_at "dz"
  rw [e2]
  walk_at "dz"
  rw [kE]
  walk_at "dz")]
 rw [z0m (ρ':=[.im (.scr ns),.im (.int (m:Int)),.im (.int (w:Int)),.ow (L cs),.im (.int (cut:Int)),.im (.lst A),.im (.lst B),.ow (.lst [.lst A,.lst B]),.ow (.lst E),.ow (.lst E),.em,.em,.em,.em,.em]) (by
  walk_at "dz"
  rw [e7]
  walk_at "dz"
  rw [qE]
  walk_at "dz"
  rw [e3]
  walk_at "dz"
  rw [qE]
  walk_at "dz")]
 rw [z0m (ρ':=[.im (.scr ns),.im (.int (m:Int)),.im (.int (w:Int)),.ow (L cs),.im (.int (cut:Int)),.im (.lst A),.im (.lst B),.ow (.lst [.lst A,.lst B]),.ow (.lst E),.ow (.lst E),.ow (.lst []),.em,.em,.em,.em]) (by
  walk_at "dz")]
 rw [z0m (ρ':=[.im (.scr ns),.im (.int (m:Int)),.im (.int (w:Int)),.im (L cs),.im (.int (cut:Int)),.im (.lst A),.im (.lst B),.im (.lst [.lst A,.lst B]),.im (.lst E),.em,.im (.lst []),.em,.em,.em,.em]) (by
  have p2:za1 [some (.scr ns),some (.int (m:Int)),some (.int (w:Int)),some (L cs),some (.int (cut:Int)),some (.lst A),some (.lst B),some (.lst [.lst A,.lst B]),some (.lst E),none,some (.lst []),none,none,none,none]=.ok (.lst []):=by
   unfold za1
   walk_at "dz"
   rw [e4]
  have p3:za2 [some (.scr ns),some (.int (m:Int)),some (.int (w:Int)),some (L cs),some (.int (cut:Int)),some (.lst A),some (.lst B),some (.lst [.lst A,.lst B]),some (.lst E),none,some (.lst []),none,none,none,none]=.ok (.lst []):=by
   unfold za2
   walk_at "dz"
   rw [e5]
  have p4:za3 [some (.scr ns),some (.int (m:Int)),some (.int (w:Int)),some (L cs),some (.int (cut:Int)),some (.lst A),some (.lst B),some (.lst [.lst A,.lst B]),some (.lst E),some (.lst E),some (.lst []),some (.lst [.lst [],.lst []]),none,none,none]=.ok false:=by
   unfold za3
   walk_at "dz"
   rw [q0]
   walk_at "dz"
  exact zuk rfl rfl rfl p2 p3 ⟨rfl,by simp,by simp,lE⟩ p4)]
 rw [z0m (ρ':=[.im (.scr ns),.im (.int (m:Int)),.im (.int (w:Int)),.im (L cs),.im (.int (cut:Int)),.im (.lst A),.im (.lst B),.im (.lst [.lst A,.lst B]),.im (.lst E),.em,.im (.lst []),.em,.em,.em,.em]) (by
  walk_at "dz"
  rw [q1]
  walk_at "dz"
  rw [q3]
  walk_at "dz")]
 rw [z0m (ρ':=[.im (.scr ns),.im (.int (m:Int)),.im (.int (w:Int)),.im (L cs),.im (.int (cut:Int)),.im (.lst A),.im (.lst B),.im (.lst [.lst A,.lst B]),.im (.lst E),.em,.im (.lst []),.em,.em,.ow (.lst [.tup [.tup U,.int 1]]),.em]) (by
  generalize (eCB z1i (z00 (z14 (zar (z00 (z04 1) z0f)) b1 [] z4v z5v) z0f))=F at *
  walk_at "dz"
  rw [eu _ rfl]
  walk_at "dz"
  rw [nU]
  walk_at "dz")]
 rw [z0m (ρ':=[.im (.scr ns),.im (.int (m:Int)),.im (.int (w:Int)),.im (L cs),.im (.int (cut:Int)),.im (.lst A),.im (.lst B),.im (.lst [.lst A,.lst B]),.im (.lst E),.em,.im (.lst []),.em,.em,.ow (.lst [.tup [.tup U,.int 1]]),.ow (.lst [.tup [.tup W,.int 1]])]) (by
  generalize (eCB z1i (z00 (z14 (zar (z00 (z04 1) z0f)) b1 [] z4v z5w) z0f))=F at *
  walk_at "dz"
  rw [ed _ rfl]
  walk_at "dz"
  rw [nD]
  walk_at "dz")]
 by_cases h60:(w:Int)=60
 . walk_at "dz"
   rw [decide_eq_true h60]
   walk_at "dz"
 . walk_at "dz"
   rw [decide_eq_false h60]
   walk_at "dz"
   rw [e8]
   walk_at "dz"
   rw [e9]
   walk_at "dz"
   rw [qA]
   walk_at "dz"
end K62
namespace K62
open PySem PySem.Spec PyProof.Rows L2
theorem walk {l:PySem.W.OpenLaw} {q:Program} {loose:List Str} {XP:(Str->Option Value)->Heap->Prop} {YP:World->Heap->Prop} {d:DefRec} {K:Params->Frag} (hn:l.most=some 63) (hdf:d.params.defaults=[])
  (hY:∀(w:World) (h:Heap),YP w h->(K w.params).In h)
  (F:∀(w:World) (mg:Str->Option Value) (fa:Addr) (h:Heap),(K w.params).In h->h.Ns mainGlobals mg->mg d.name=some (.ref fa) ->
   ∃fd:FuncData,(∀(s:Shared) (u:Value),BindsTo s fd ⟨[u],[]⟩ [("_law_script",u)])/\∀base:Heap,(K w.params).In base->base.Ns mainGlobals mg->FnOk l.prog w (K w.params) mg base (CX1 l.prog w) 3 fa fd ["_law_script"] (spL (K w.params) false zcf 1)) :
  PySem.W.WalkO q loose XP YP l.row.toRowW d [] (fun f vs=>PySem.call f vs):=
 L2.walk_of (n:=63) (k:=3) (x:="_law_script") (CX:=fun w=>CX1 l.prog w) (sp:=fun w=>(spL (K w.params) false zcf 1)) hn (by decide) hdf ⟨rfl,by decide,by decide⟩ hY F (fun _ _ a ns hl hO hS=>zo8 hO hS (zhw ns hl)) fun _ _ _ _ _ ⟨_,_,_,_,_,z⟩=>z
end K62
open PySem PySem.W PyProof.Rows
set_option maxRecDepth 100000 in
set_option maxHeartbeats 0 in
theorem PySem.Challenge.cw_friezeyard_k62_multiplied_holds : PySem.Challenge.rw_friezeyard_k62_multiplied.Holds := by
 w_on;o_law
 refine holds_open (q:=K62.q) (loose:=[]) (Xt:=K62.xt) (XP:=XL K62.q []) (Yf:=K62.hook.obs) (Ya:=K62.hook.val)
  (YP:=K62.hook.says) (N:=880) K62.left K62.hook.of K62.hook.keeps
  (fun s e=>xl_of s (Bool.and_eq_true_iff.mp e).1) XL.keeps (by rfl) (by rfl) (by rfl)
  (fun s e=>recFacts_of (Bool.and_eq_true_iff.mp e).2) (by rfl) (by assumption) (by decide +kernel)
  ⟨rfl,rfl,rfl,rfl,rfl,by decide +kernel⟩ ?hw ?hc
 (case hw=>w_witness2)
 refine K62.walk (l:=PySem.Challenge.rw_friezeyard_k62_multiplied) (K:=K62.K) rfl rfl (fun w h Y=>Y) ?F
 case F=>
  intro w mg fa h KX G hmg
  k_fill
  refine' K62.all_mk KX G hmg ?a0 ?l0 ?c0 ?k0 ?a1 ?l1 ?c1 ?k1 ?a2 ?l2 ?c2 ?k2 ?a3 ?l3 ?c3 ?k3 ?a4 ?l4 ?c4 ?k4 ?a5 ?l5 ?c5 ?k5 ?a6 ?l6 ?c6 ?k6 ?a7 ?l7 ?c7 ?k7 ?a8 ?l8 ?c8 ?k8 ?a9 ?l9 ?c9 ?k9 ?a10 ?l10 ?c10 ?k10 ?z_any ?z_bool ?z_enumerate ?z_int ?z_isinstance ?z_len ?z_list ?z_range ?z_sorted ?z_sum ?z_tuple ?z_zip
  (case a0=>k_is)
  (case l0=>k_is)
  (case c0=>k_is)
  (case k0=>k_is)
  (case a1=>k_is)
  (case l1=>k_is)
  (case c1=>k_is)
  (case k1=>k_is)
  (case a2=>k_is)
  (case l2=>k_is)
  (case c2=>k_is)
  (case k2=>k_is)
  (case a3=>k_is)
  (case l3=>k_is)
  (case c3=>k_is)
  (case k3=>k_is)
  (case a4=>k_is)
  (case l4=>k_is)
  (case c4=>k_is)
  (case k4=>k_is)
  (case a5=>k_is)
  (case l5=>k_is)
  (case c5=>k_is)
  (case k5=>k_is)
  (case a6=>k_is)
  (case l6=>k_is)
  (case c6=>k_is)
  (case k6=>k_is)
  (case a7=>k_is)
  (case l7=>k_is)
  (case c7=>k_is)
  (case k7=>k_is)
  (case a8=>k_is)
  (case l8=>k_is)
  (case c8=>k_is)
  (case k8=>k_is)
  (case a9=>k_is)
  (case l9=>k_is)
  (case c9=>k_is)
  (case k9=>k_is)
  (case a10=>k_is)
  (case l10=>k_is)
  (case c10=>k_is)
  (case k10=>k_is)
  (case z_any=>k_is)
  (case z_bool=>k_is)
  (case z_enumerate=>k_is)
  (case z_int=>k_is)
  (case z_isinstance=>k_is)
  (case z_len=>k_is)
  (case z_list=>k_is)
  (case z_range=>k_is)
  (case z_sorted=>k_is)
  (case z_sum=>k_is)
  (case z_tuple=>k_is)
  (case z_zip=>k_is)
