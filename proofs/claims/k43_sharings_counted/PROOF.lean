import PyProof.Rows.All
import Wide.All
import OpenK.AllK
import Wide.FinOn
import Lean
import PyProof.EqAt
import PyProof.EqKinds
import PyProof.TupleCall
import KE.KIsAll
import KE.RegKIsAll
import PyProof.ExcArgsOwn
import PyProof.Rows.MinMaxN
import PyProof.Rows.CallKwBuiltin
import KE.KMinKey
import PySem.Challenge.RW_friezeyard_k43_sharings_counted
set_option Elab.async false
set_option linter.all false
set_option maxRecDepth 100000
namespace L2
open PySem PySem.Spec PyProof.Rows
abbrev Key := Sum Int Str
def keyIs : Key → Value → Bool
 | .inl k, v => Value.isInt k v
 | .inr x, v => Value.isStrOf x v
def keyH (w : World) : Key → Int
 | .inl k => hashInt k
 | .inr x => hashStr w x
theorem z12 : ∀ {k : Key} {v : Value}, keyIs k v = true → (∃ i t, k = Sum.inl i ∧ v = Value.int i t) ∨ (∃ x t, k = Sum.inr x ∧ v = Value.str x t)
 | .inl i, v, h => by
   obtain ⟨t, e⟩ := Value.isInt_shape (k := i) (v := v) h
   exact .inl ⟨i, t, rfl, e⟩
 | .inr x, v, h => by
   obtain ⟨t, e⟩ := Value.isStrOf_shape (x := x) (v := v) h
   exact .inr ⟨x, t, rfl, e⟩
theorem z125 (i : Int) (t : Tok) : keyIs (.inl i) (.int i t) = true := by simp [keyIs, Value.isInt]
theorem z126 (x : Str) (t : Tok) : keyIs (.inr x) (.str x t) = true := by simp [keyIs, Value.isStrOf]
theorem key_ll (a b : Int) : decide ((Sum.inl a : Key) = Sum.inl b) = (a == b) := by
 by_cases e : a = b
 . subst e; simp
 . have h : ¬ (Sum.inl a : Key) = Sum.inl b := fun q => e (Sum.inl.inj q)
   rw [decide_eq_false h]
   exact (beq_eq_false_iff_ne.mpr e).symm
theorem key_rr (a b : Str) : decide ((Sum.inr a : Key) = Sum.inr b) = decide (a = b) := by
 by_cases e : a = b
 . subst e; simp
 . have h : ¬ (Sum.inr a : Key) = Sum.inr b := fun q => e (Sum.inr.inj q)
   rw [decide_eq_false h, decide_eq_false e]
theorem key_lr (a : Int) (b : Str) : decide ((Sum.inl a : Key) = Sum.inr b) = false := decide_eq_false (fun q => nomatch q)
theorem key_rl (a : Str) (b : Int) : decide ((Sum.inr a : Key) = Sum.inl b) = false := decide_eq_false (fun q => nomatch q)
def z25 (prog : Program) (w : World) : PySem.KeyKind prog w Key where
 is := keyIs
 hash := keyH w
 inj := fun v a b ha hb => by
   rcases z12 ha with ⟨i, t, rfl, rfl⟩ | ⟨x, t, rfl, rfl⟩
   . rcases z12 hb with ⟨j, u, rfl, e⟩ | ⟨y, u, rfl, e⟩
     . injection e with e1 _; rw [e1]
     . exact nomatch e
   . rcases z12 hb with ⟨j, u, rfl, e⟩ | ⟨y, u, rfl, e⟩
     . exact nomatch e
     . injection e with e1 _; rw [e1]
 byValue := fun k v h => by
   rcases z12 h with ⟨i, t, rfl, rfl⟩ | ⟨x, t, rfl, rfl⟩ <;> rfl
 pyHash := fun hv h => by
   rcases z12 hv with ⟨i, t, rfl, rfl⟩ | ⟨x, t, rfl, rfl⟩
   . exact wpAny_pyHash_int h
   . exact wpAny_pyHash_str h
 eqBool := fun hu hv h => by
   rcases z12 hu with ⟨i, t, rfl, rfl⟩ | ⟨x, t, rfl, rfl⟩
   . rcases z12 hv with ⟨j, u, rfl, rfl⟩ | ⟨y, u, rfl, rfl⟩
     . rw [key_ll] at h; exact wpAny_eqBool_int h
     . rw [key_lr] at h; exact SeqAt.EqAt.int_str i t y u _ _ _ _ h
   . rcases z12 hv with ⟨j, u, rfl, rfl⟩ | ⟨y, u, rfl, rfl⟩
     . rw [key_rl] at h; exact SeqAt.EqAt.str_int x t j u _ _ _ _ h
     . rw [key_rr] at h; exact wpAny_eqBool_str h
 «strs» := fun k x t v h => by
   rcases z12 h with ⟨i, u, rfl, e⟩ | ⟨y, u, rfl, e⟩
   . exact nomatch e
   . injection e with e1 _
     subst e1
     cases v <;> rfl
theorem ze9 (prog : Program) (w : World) (i : Int) (t : Tok) : (z25 prog w).is (.inl i) (.int i t) = true := z125 i t
theorem zea (prog : Program) (w : World) (x : Str) (t : Tok) : (z25 prog w).is (.inr x) (.str x t) = true := z126 x t
inductive V where
 | non | bl (b : Bool) | int (i : Int) | str (x : Str) | byt (b : Array UInt8) | flt (b : UInt64) | ref (a : Addr) | ty (n : String)
 deriving DecidableEq
def RelV : V → Value → Prop
 | .non, u => u = Value.none
 | .bl b, u => u = Value.bool b
 | .int i, u => ∃ t, u = Value.int i t
 | .str x, u => ∃ t, u = Value.str x t
 | .byt b, u => ∃ t, u = Value.bytes b t
 | .flt b, u => ∃ t, u = Value.float b t
 | .ref a, u => u = Value.ref a
 | .ty n, u => u = Value.type n
abbrev Vals : List V → List Value → Prop := Paired RelV
theorem Vals.length {xs : List V} {us : List Value} (r : Vals xs us) : xs.length = us.length := Paired.length r
theorem Vals.get : ∀ {xs : List V} {us : List Value} {i : Nat} {x : V}, Vals xs us → xs[i]? = some x → ∃ u, us[i]? = some u ∧ RelV x u
 | _, _, _, _, .nil, e => by simp at e
 | _, _, 0, _, .cons r _, e => by simp at e; subst e; exact ⟨_, rfl, r⟩
 | _, _, i + 1, x, .cons _ t, e => by
   obtain ⟨u, h1, h2⟩ := Vals.get (i := i) (x := x) t (by simpa using e)
   exact ⟨u, by simpa using h1, h2⟩
theorem Vals.set {x : V} {u : Value} (r : RelV x u) : ∀ {xs : List V} {us : List Value} (i : Nat), Vals xs us → Vals (xs.set i x) (us.set i u)
 | _, _, _, .nil => .nil
 | _, _, 0, .cons _ t => .cons r t
 | _, _, i + 1, .cons q t => .cons q (Vals.set r i t)
theorem Vals.append : ∀ {xs ys : List V} {us ws : List Value}, Vals xs us → Vals ys ws → Vals (xs ++ ys) (us ++ ws)
 | _, _, _, _, .nil, s => s
 | _, _, _, _, .cons r t, s => .cons r (Vals.append t s)
theorem Vals.take : ∀ {xs : List V} {us : List Value} (n : Nat), Vals xs us → Vals (xs.take n) (us.take n)
 | _, _, 0, _ => .nil
 | _, _, _ + 1, .nil => .nil
 | _, _, n + 1, .cons r t => .cons r (Vals.take n t)
theorem Vals.drop : ∀ {xs : List V} {us : List Value} (n : Nat), Vals xs us → Vals (xs.drop n) (us.drop n)
 | _, _, 0, r => r
 | _, _, _ + 1, .nil => .nil
 | _, _, n + 1, .cons _ t => Vals.drop n t
def RelO : Option V → Option Value → Prop
 | some v, some u => RelV v u
 | none, none => True
 | _, _ => False
def KV {κ : Type} : List (κ × V) → List (κ × Value) → Prop := Paired fun (p : κ × V) (q : κ × Value) => p.1 = q.1 ∧ RelV p.2 q.2
def kV : Key → V
 | .inl i => .int i
 | .inr x => .str x
inductive HO where
 /-- a list -/
 | lst (xs : List V)
 /-- a tuple (never changes) -/
 | tup (xs : List V)
 /-- a dict whose keys are ints and texts; one whose keys are tuples of ints and texts (the empty one is both) -/
 | dK (kvs : List (Key × V)) | dT (kvs : List (List Key × V))
 /-- a set of ints: its members, its size -/
 | set (S : Int → Bool) (n : Nat)
 /-- an instance of the class at C, its dict at dx, its attributes -/
 | ins (C dx : Addr) (fs : List (Str × V))
 /-- the dict of the instance at x -/
 | own (x : Addr)
 /-- the dict of an exception -/
 | xd (fs : List (Str × V))
 /-- a bound method, f of x -/
 | met (f x : Addr)
 /-- a range object lo, lo + 1, .. below hi -/
 | rng (lo hi : Int)
 /-- a thing that is known to the object (the script; a dict while a loop walks it): read, never written while it is so -/
 | frz (o : Obj) (u : HO)
 /-- a code object's table -/
 | tbl (ps : Array Value)
 /-- any other thing, by what is true of its one object (a def of one's own: SetO a S n := HO.ext fun h => ..) -/
 | ext (φ : Heap → Prop)
abbrev Hp := Addr → Option HO
def upd (H : Hp) (a : Addr) (o : HO) : Hp := fun b => if b = a then some o else H b
theorem z8 {H : Hp} {a : Addr} {o : HO} : upd H a o a = some o := by unfold upd; rw [if_pos rfl]
theorem upd_ne {H : Hp} {a b : Addr} {o : HO} (h : b ≠ a) : upd H a o b = H b := by unfold upd; rw [if_neg h]
theorem ne_of {H : Hp} {a b : Addr} {o u : HO} (h : H a = some o) (h' : H b = some u) (d : o ≠ u) : a ≠ b := by
 intro e; subst e; rw [h] at h'; exact d (Option.some.inj h')
theorem z9 {H : Hp} {a b : Addr} {o : HO} (h : H a = some o) (h' : H b = none) : a ≠ b := by
 intro e; subst e; rw [h] at h'; cases h'
section
variable (P : Program) (w : World)
def ObjOk (H : Hp) (h : Heap) (a : Addr) : HO → Prop
 | .lst xs => xs.length ≤ sizeLine ∧ ∃ (its : List Value) (n : Nat), Vals xs its ∧ h.get? a = some { cls := .type "list", data := .seq its.toArray n }
 | .tup xs => xs.length ≤ sizeLine ∧ ∃ its : List Value, Vals xs its ∧ IsTup h a its.toArray
 | .dK kvs => kvs.length ≤ sizeLine ∧ (a == sysModules) = false ∧ ∃ vs, KV kvs vs ∧ h.DictOf (z25 P w) a vs
 | .dT kvs => kvs.length ≤ sizeLine ∧ (a == sysModules) = false ∧ ∃ xs : List (List Key × Addr × Value),
     Paired (fun (p : List Key × V) (q : List Key × Addr × Value) => p.1 = q.1 ∧ H q.2.1 = some (.tup (p.1.map kV)) ∧ RelV p.2 q.2.2) kvs xs ∧
     ∃ o es ep, h.get? a = some o ∧ o.ExactDict ∧ o.data = .dict es ep ∧ es.toList = xs.map (entryOfKey (tupleKind (z25 P w))) ∧ (xs.map (·.1)).Nodup
 | .set S n => h.SetOf (intKind P w) a S n
 | .ins C dx fs => H dx = some (.own a) ∧ fs.length ≤ 1000 ∧ dx ≠ a ∧ h.get? a = some (PySem.W.instObj C dx) ∧
     ∃ mA, h.Ns1 dx mA ∧ (∀ f, RelO (fs.lookup f) (mA f)) ∧ PySem.Within mA (fs.map (·.1))
 | .own _ => ∃ o, h.get? a = some o
 | .xd fs => ∃ mA, h.Ns1 a mA ∧ ∀ f, RelO (fs.lookup f) (mA f)
 | .rng lo hi => ∃ t u v, h.get? a = some { cls := .type "range", data := .fields #[.int lo t, .int hi u, .int 1 v] }
 | .frz o u => h.get? a = some o ∧ ObjOk H h a u
 | .tbl ps => h.get? a = some { cls := .none, data := .fields ps }
 | .met f x => h.get? a = some (PySem.W.methodObj (.ref f) (.ref x))
 | .ext φ => φ h ∧ (∃ o, h.get? a = some o) ∧ ∀ h1 h2 : Heap, φ h1 → (∀ o, h1.get? a = some o → h2.get? a = some o) → φ h2
def HOk (H : Hp) (h : Heap) : Prop := ∀ a o, H a = some o → ObjOk P w H h a o
end
section
variable {P : Program} {w : World} {H H' : Hp} {h h' : Heap} {a : Addr} {o : HO}
theorem ObjOk.lt (x : ObjOk P w H h a o) : a < h.objs.size := by
 cases o with
 | lst xs => obtain ⟨_, _, _, _, e⟩ := x; exact Heap.lt_size e
 | tup xs => obtain ⟨_, _, _, p⟩ := x; exact p.lt
 | dK kvs => obtain ⟨_, _, _, _, o, _, _, e, _⟩ := x; exact Heap.lt_size e
 | dT kvs => obtain ⟨_, _, _, _, o, _, _, e, _⟩ := x; exact Heap.lt_size e
 | set S n => obtain ⟨o, _, _, _, e, _⟩ := x; exact Heap.lt_size e
 | ins C dx fs => obtain ⟨_, _, _, e, _⟩ := x; exact Heap.lt_size e
 | own y => obtain ⟨_, e⟩ := x; exact Heap.lt_size e
 | xd fs => obtain ⟨_, ⟨_, _, _, e, _⟩, _⟩ := x; exact Heap.lt_size e
 | rng lo hi => obtain ⟨_, _, _, e⟩ := x; exact Heap.lt_size e
 | frz ob u => obtain ⟨e, _⟩ := x; exact Heap.lt_size e
 | tbl ps => exact Heap.lt_size (show h.get? a = some _ from x)
 | met f y => exact Heap.lt_size (show h.get? a = some _ from x)
 | ext φ => obtain ⟨_, ⟨_, e⟩, _⟩ := x; exact Heap.lt_size e
theorem Paired.mapP {α β : Type} {F G : α → β → Prop} : ∀ {l₁ : List α} {l₂ : List β}, Paired F l₁ l₂ → (∀ a b, F a b → G a b) → Paired G l₁ l₂
 | _, _, .nil, _ => .nil
 | _, _, .cons r t, f => .cons (f _ _ r) (Paired.mapP t f)
theorem ObjOk.stay (x : ObjOk P w H h a o) (k : ∀ b u, (b = a ∨ H b = some (.own a)) → h.get? b = some u → h'.get? b = some u)
   (ho : ∀ b, H b = some (.own a) → H' b = some (.own a)) (ht : ∀ b xs, H b = some (.tup xs) → H' b = some (.tup xs)) : ObjOk P w H' h' a o := by
 induction o with
 | lst xs => obtain ⟨z, its, n, r, e⟩ := x; exact ⟨z, its, n, r, k _ _ (.inl rfl) e⟩
 | tup xs => obtain ⟨z, its, r, ob, e, c⟩ := x; exact ⟨z, its, r, ob, k _ _ (.inl rfl) e, c⟩
 | dK kvs => obtain ⟨z, y, vs, r, ob, es, ep, e, c⟩ := x; exact ⟨z, y, vs, r, ob, es, ep, k _ _ (.inl rfl) e, c⟩
 | dT kvs =>
   obtain ⟨z, y, xs, r, ob, es, ep, e, c⟩ := x
   exact ⟨z, y, xs, Paired.mapP r fun p q z => ⟨z.1, ht _ _ z.2.1, z.2.2⟩, ob, es, ep, k _ _ (.inl rfl) e, c⟩
 | set S n => obtain ⟨ob, es, ep, t, e, c⟩ := x; exact ⟨ob, es, ep, t, k _ _ (.inl rfl) e, c⟩
 | ins C dx fs =>
   obtain ⟨d, z, ne, e, mA, ⟨od, es, ep, e2, c⟩, r⟩ := x
   exact ⟨ho _ d, z, ne, k _ _ (.inl rfl) e, mA, ⟨od, es, ep, k _ _ (.inr d) e2, c⟩, r⟩
 | own y => obtain ⟨ob, e⟩ := x; exact ⟨ob, k _ _ (.inl rfl) e⟩
 | xd fs => obtain ⟨mA, ⟨od, es, ep, e, c⟩, r⟩ := x; exact ⟨mA, ⟨od, es, ep, k _ _ (.inl rfl) e, c⟩, r⟩
 | rng lo hi => obtain ⟨t, u, v, e⟩ := x; exact ⟨t, u, v, k _ _ (.inl rfl) e⟩
 | frz ob u ih => obtain ⟨e, q⟩ := x; exact ⟨k _ _ (.inl rfl) e, ih q⟩
 | tbl ps =>
   have e : h.get? a = some { cls := .none, data := .fields ps } := x
   show h'.get? a = some { cls := .none, data := .fields ps }
   exact k a _ (.inl rfl) e
 | met f y =>
   have e : h.get? a = some (PySem.W.methodObj (.ref f) (.ref y)) := x
   show h'.get? a = some (PySem.W.methodObj (.ref f) (.ref y))
   exact k a _ (.inl rfl) e
 | ext φ => obtain ⟨p, ⟨o, e⟩, st⟩ := x; exact ⟨st _ _ p fun o q => k _ _ (.inl rfl) q, ⟨o, k _ _ (.inl rfl) e⟩, st⟩
theorem HOk.lt (x : HOk P w H h) (e : H a = some o) : a < h.objs.size := (x a o e).lt
theorem HOk.fresh (x : HOk P w H h) (e : h.objs.size ≤ a) : H a = none := by
 cases q : H a with
 | none => rfl
 | some u => exact absurd (Nat.lt_of_lt_of_le (x.lt q) e) (Nat.lt_irrefl _)
theorem HOk.kept (x : HOk P w H h) (k : ∀ b u, h.get? b = some u → h'.get? b = some u) : HOk P w H h' := fun a o e =>
 (x a o e).stay (fun b u _ q => k b u q) (fun _ q => q) fun _ _ q => q
theorem HOk.laid (x : HOk P w H h) (k : ∀ b u, h.get? b = some u → h'.get? b = some u) (hp : h.objs.size ≤ a) (new : ObjOk P w (upd H a o) h' a o) : HOk P w (upd H a o) h' := fun b u e => by
 have hn := x.fresh hp
 by_cases hb : b = a
 . subst hb; rw [z8] at e; cases e; exact new
 . rw [upd_ne hb] at e
   exact (x b u e).stay (fun c v _ q => k c v q) (fun c q => by rw [upd_ne (z9 q hn)]; exact q) fun c xs q => by rw [upd_ne (z9 q hn)]; exact q
end
def Rd (H : Hp) (a : Addr) (u : HO) : Prop := H a = some u ∨ ∃ o, H a = some (.frz o u)
theorem Rd.of {H : Hp} {a : Addr} {u : HO} (h : H a = some u) : Rd H a u := .inl h
theorem Rd.ok {P : Program} {w : World} {H : Hp} {h : Heap} {a : Addr} {u : HO} (r : Rd H a u) (x : HOk P w H h) : ObjOk P w H h a u := by
 rcases r with r | ⟨o, r⟩
 . exact x a u r
 . obtain ⟨_, q⟩ := x a _ r
   exact q
def Mut : Option HO → Prop
 | some (.lst _) => True
 | some (.dK _) => True
 | some (.dT _) => True
 | some (.set _ _) => True
 | some (.ins _ _ _) => True
 | some (.ext _) => True
 | _ => False
section
variable {P : Program} {w : World} {H : Hp} {h h' : Heap} {x e : Addr} {o' : HO}
theorem HOk.write (ok : HOk P w H h) (mu : Mut (H x)) (he : e = x ∨ H e = some (.own x)) (k : ∀ b u, b ≠ e → h.get? b = some u → h'.get? b = some u) (heo : ∃ u, h'.get? e = some u)
   (new : ObjOk P w (upd H x o') h' x o') : HOk P w (upd H x o') h' := fun b u q => by
 have nown : ∀ c y, H c = some (.own y) → c ≠ x := fun c y r z => by subst z; rw [r] at mu; exact mu
 have ntup : ∀ c xs, H c = some (.tup xs) → c ≠ x := fun c xs r z => by subst z; rw [r] at mu; exact mu
 by_cases hb : b = x
 . subst hb; rw [z8] at q; cases q; exact new
 . rw [upd_ne hb] at q
   by_cases hbe : b = e
   . have q' : H b = some (.own x) := by
       rcases he with z | z
       . exact absurd (hbe.trans z) hb
       . rw [hbe]; exact z
     rw [q] at q'; cases q'
     obtain ⟨v, hv⟩ := heo
     exact ⟨v, by rw [hbe]; exact hv⟩
   . refine (ok b u q).stay (fun c v hc r => k c v ?_ r) (fun c r => by rw [upd_ne (nown c b r)]; exact r) fun c xs r => by rw [upd_ne (ntup c xs r)]; exact r
     rcases hc with rfl | hc
     . exact hbe
     . rintro rfl
       rcases he with z | z
       . exact nown c b hc z
       . rw [hc] at z; cases z; exact hb rfl
end
structure Un (fs ex : List Addr) (H H' : Hp) (h h' : Heap) : Prop where
 keep : ∀ b o, h.get? b = some o → H b = none → b ∉ fs → b ∉ ex → h'.get? b = some o
 slot : ∀ b o, h.get? b = some o → H b = none → b ∈ fs → b ∉ ex → ∃ sl, h'.get? b = some { o with slots := sl }
 free : ∀ b o, h.get? b = some o → H b = none → b ∉ ex → H' b = none
 there : ∀ b o, h.get? b = some o → b ∉ ex → ∃ o', h'.get? b = some o'
 tups : ∀ b xs, H b = some (.tup xs) → H' b = some (.tup xs)
 frzs : ∀ b o u, H b = some (.frz o u) → H' b = some (.frz o u)
 tbls : ∀ b ps, H b = some (.tbl ps) → ∃ more, H' b = some (.tbl (ps ++ more))
section
variable {fs fs' ex ex' : List Addr} {H H1 H2 : Hp} {h h1 h2 h' : Heap} {a x e : Addr} {o : HO}
theorem Un.any (u : Un fs ex H H1 h h1) {b : Addr} {ob : Obj} (q : h.get? b = some ob) (n : H b = none) (hx : b ∉ ex) : ∃ sl, h1.get? b = some { ob with slots := sl } := by
 by_cases hb : b ∈ fs
 . exact u.slot b ob q n hb hx
 . exact ⟨ob.slots, u.keep b ob q n hb hx⟩
theorem Un.kept (k : ∀ b u, h.get? b = some u → h'.get? b = some u) : Un fs ex H H h h' :=
 ⟨fun b ob q _ _ _ => k b ob q, fun b ob q _ _ _ => ⟨ob.slots, k b ob q⟩, fun _ _ _ n _ => n, fun b ob q _ => ⟨ob, k b ob q⟩, fun _ _ q => q, fun _ _ _ q => q, fun _ ps q => ⟨#[], by rw [q]; simp⟩⟩
theorem Un.refl : Un fs ex H H h h := Un.kept fun _ _ q => q
theorem Un.laid (k : ∀ b u, h.get? b = some u → h'.get? b = some u) (hp : h.objs.size ≤ a) (hn : H a = none) : Un fs ex H (upd H a o) h h' where
 keep := fun b u q _ _ _ => k b u q
 slot := fun b u q _ _ _ => ⟨u.slots, k b u q⟩
 free := fun b u q n _ => by rw [upd_ne (Nat.ne_of_lt (Nat.lt_of_lt_of_le (Heap.lt_size q) hp))]; exact n
 there := fun b u q _ => ⟨u, k b u q⟩
 tups := fun b xs q => by rw [upd_ne (z9 q hn)]; exact q
 frzs := fun b u xs q => by rw [upd_ne (z9 q hn)]; exact q
 tbls := fun b ps q => ⟨#[], by rw [upd_ne (z9 q hn), q]; simp⟩
theorem Un.write (mu : Mut (H x)) (he : e = x ∨ H e = some (.own x)) (k : ∀ b u, b ≠ e → h.get? b = some u → h'.get? b = some u) (heo : ∃ u, h'.get? e = some u) : Un fs ex H (upd H x o) h h' := by
 have hx : ∀ b, H b = none → b ≠ x := fun b n z => by subst z; rw [n] at mu; exact mu
 have hb : ∀ b, H b = none → b ≠ e := fun b n z => by
   subst z
   rcases he with r | r
   . exact hx b n r
   . rw [n] at r; cases r
 have hm : ∀ b u, H b = some u → ¬ Mut (some u) → b ≠ x := fun b u q nm z => by subst z; rw [q] at mu; exact nm mu
 refine ⟨fun b u q n _ _ => k b u (hb b n) q, fun b u q n _ _ => ⟨u.slots, k b u (hb b n) q⟩, fun b u q n _ => by rw [upd_ne (hx b n)]; exact n, fun b u q _ => ?_,
   fun b xs q => by rw [upd_ne (hm b _ q fun z => z)]; exact q, fun b u xs q => by rw [upd_ne (hm b _ q fun z => z)]; exact q, fun b ps q => ⟨#[], by rw [upd_ne (hm b _ q fun z => z), q]; simp⟩⟩
 by_cases hbe : b = e
 . subst hbe; exact heo
 . exact ⟨u, k b u hbe q⟩
end
def trk (h : Heap) (H : Hp) : List Addr := (List.range h.objs.size).filter fun a => (H a).isSome
def hidT (h : Heap) (H : Hp) : Heap := PySem.W.hideAll h (trk h H)
theorem z127 (h : Heap) (H : Hp) : (hidT h H).objs.size = h.objs.size := PySem.W.hideAll_size _ _
theorem z17d {h : Heap} {H : Hp} {b : Addr} {o : Obj} (e : h.get? b = some o) (n : H b = none) : (hidT h H).get? b = some o :=
 PySem.W.hideAll_get _ e fun hm => by
   have q : (H b).isSome = true := (List.mem_filter.mp hm).2
   rw [n] at q; simp at q
theorem z1ac {h : Heap} {H : Hp} {b : Addr} {o : Obj} (e : (hidT h H).get? b = some o) : h.get? b = some o ∧ H b = none := by
 have e' : h.get? b = some o := PySem.W.of_hideAll (trk h H) e
 refine ⟨e', ?_⟩
 cases q : H b with
 | none => rfl
 | some x =>
   have hm : b ∈ trk h H := List.mem_filter.mpr ⟨List.mem_range.mpr (Heap.lt_size e'), by simp [q]⟩
   have z : (hidT h H).get? b = none := PySem.W.hideAll_none (trk h H) hm
   rw [z] at e; cases e
def z9a (g h : Heap) (L : Addr) : List (Addr × Obj) := (List.range h.objs.size).filterMap fun a => if a = L ∨ (g.get? a).isSome = true then none else (h.get? a).map fun o => (a, o)
theorem z57 {g h : Heap} {L a : Addr} {o : Obj} (h1 : a ≠ L) (h2 : g.get? a = none) (h3 : h.get? a = some o) : (a, o) ∈ z9a g h L :=
 List.mem_filterMap.mpr ⟨a, List.mem_range.mpr (Heap.lt_size h3), by simp [h1, h2, h3]⟩
theorem z8a {g h : Heap} {L : Addr} {p : Addr × Obj} (hp : p ∈ z9a g h L) : p.1 ≠ L ∧ g.get? p.1 = none ∧ h.get? p.1 = some p.2 := by
 obtain ⟨b, _, e⟩ := List.mem_filterMap.mp hp
 split at e
 . cases e
 . rename_i hn
   cases q : h.get? b with
   | none => rw [q] at e; simp at e
   | some u =>
     rw [q] at e
     simp only [Option.map_some, Option.some.injEq] at e
     subst e
     refine ⟨fun z => hn (.inl z), ?_, q⟩
     show g.get? b = none
     cases r : g.get? b with
     | none => rfl
     | some v => exact (hn (.inr (by simp [r]))).elim
def rest (g h : Heap) (L d : Addr) : List (Addr × Obj) := (z9a g h L).filter fun p => decide (p.1 ≠ d)
theorem zb6 {g h : Heap} {L : Addr} : News g L h (z9a g h L) := fun p hp => let ⟨a, b, c⟩ := z8a hp; ⟨c, a, b⟩
structure Mod (K : PySem.W.Frag) (mg : Str → Option Value) (base : Heap) : Prop where
 kin : K.In base
 glob : base.Ns mainGlobals mg
 blt : ∃ mb, base.Ns builtinsNs mb ∧ ∀ x : Str, x ≠ "__name__" → mb x = bootBuiltins x
 nolimit : base.NoLimit
structure Cx where
 prog : Program
 w : World
 K : PySem.W.Frag
 mg : Str → Option Value
 base : Heap
 A : Around
 N : List Str
 s₀ : Shared
 H₀ : Hp
 env : Env
 outer : List Env
 stack : List Env
 ex : List Addr
 fn : Str → Bool
 calm : Bool
 pn : List (Addr × Obj)
 xe : Value → Shared → Prop
def frs (l : List Env) : List Addr := l.filterMap (·.frame)
abbrev Cx.fs (X : Cx) : List Addr := frs X.outer
def Vis (sc : Scope) (x : Str) : Prop := sc.names.lookup x = some .local ∨ sc.names.lookup x = some .cell ∨ sc.names.lookup x = some .free
def Loc (sc : Scope) (x : Str) : Prop := sc.names.lookup x = some .local ∨ sc.names.lookup x = some .cell
def Look (env : Env) (h : Heap) (m : Str → Option Value) (x : Str) (u : Value) : Prop :=
 (env.kindOf x = some .local ∧ m x = some u) ∨ ((env.kindOf x = some .cell ∨ env.kindOf x = some .free) ∧ ∃ c, env.cells.lookup x = some c ∧ h.IsCell c (some u))
structure Cx.Ok (X : Cx) : Prop where
 mod : Mod X.K X.mg X.base
 kind : X.env.scope.kind = .function
 glob : X.env.globals = mainGlobals
 blt : X.env.builtins = builtinsNs
 above : X.s₀.heap.objs.size ≤ X.env.locals
 inj : ∀ x y c, X.env.cells.lookup x = some c → X.env.cells.lookup y = some c → x = y
 has : ∀ x, (X.env.kindOf x = some .cell ∨ X.env.kindOf x = some .free) → ∃ c, X.env.cells.lookup x = some c
 cab : ∀ x c, X.fn x = true → X.env.cells.lookup x = some c → X.s₀.heap.objs.size ≤ c
 hd : X.calm = true → X.A.handled = none
 frames : X.A.frames = some X.stack
 stk : X.stack = X.outer ∨ (X.stack = X.env :: X.outer ∧ X.env.frame = some X.env.locals)
 exf : ∀ b ∈ X.ex, b ≠ X.env.locals ∧ ∀ x c, X.env.cells.lookup x = some c → c ≠ b
 bs : ∀ b o, X.base.get? b = some o → X.s₀.heap.get? b = some o ∧ X.H₀ b = none
 bsz : X.base.objs.size ≤ X.s₀.heap.objs.size
 noex : ∀ b o, X.base.get? b = some o → b ∉ X.ex
 exfs : ∀ b ∈ X.ex, b ∉ X.fs
 funs : X.s₀.heap.FunFrames X.base X.outer
 frf : ∀ b ∈ X.fs, X.H₀ b = none
structure Inv (X : Cx) (pins : List (Addr × Obj)) (σ : List (Option V)) (H : Hp) (s : Shared) : Prop where
 ok : X.Ok
 os : s.os = X.s₀.os
 bare : AllBare s.gens
 base : Un X.fs X.ex X.H₀ H X.s₀.heap s.heap
 loc : ∃ m, s.heap.Ns X.env.locals m ∧ ∀ (i : Nat) (x : Str) (v : V), X.N[i]? = some x → σ[i]? = some (some v) → Vis X.env.scope x → ∃ u, RelV v u ∧ Look X.env s.heap m x u
 cell : ∀ x c, X.env.cells.lookup x = some c → ∃ v, s.heap.IsCell c v
 free : H X.env.locals = none
 freeC : ∀ x c, X.env.cells.lookup x = some c → H c = none
 pin : ∀ p ∈ X.pn ++ pins, s.heap.get? p.1 = some p.2 ∧ H p.1 = none ∧ p.1 ≠ X.env.locals ∧ p.1 ∉ X.fs ∧ ∀ v, p.2.data ≠ .cell v
 hok : HOk X.prog X.w H s.heap
 len : σ.length = X.N.length
section
variable {X : Cx} {pins : List (Addr × Obj)} {σ : List (Option V)} {H H' : Hp} {s : Shared} {h' : Heap}
theorem Cx.Ok.nofr (ok : X.Ok) {b : Addr} {o : Obj} (e : X.base.get? b = some o) : b ∉ X.fs := fun hb => by
 have := (ok.funs.mem hb).1
 rw [e] at this; cases this
theorem Inv.bs (I : Inv X pins σ H s) : ∀ b o, X.base.get? b = some o → s.heap.get? b = some o ∧ H b = none := fun b o e =>
 ⟨I.base.keep b o (I.ok.bs b o e).1 (I.ok.bs b o e).2 (I.ok.nofr e) (I.ok.noex b o e), I.base.free b o (I.ok.bs b o e).1 (I.ok.bs b o e).2 (I.ok.noex b o e)⟩
theorem Inv.bk (I : Inv X pins σ H s) : ∀ b o, X.base.get? b = some o → s.heap.get? b = some o := fun b o e => (I.bs b o e).1
theorem Inv.mod (I : Inv X pins σ H s) : Mod X.K X.mg X.base := I.ok.mod
theorem Inv.kIn (I : Inv X pins σ H s) : X.K.In s.heap := I.ok.mod.kin.keeps I.bk
theorem Inv.lt (I : Inv X pins σ H s) : X.env.locals < s.heap.objs.size := let ⟨_, hn, _⟩ := I.loc; hn.lt
theorem Inv.sz (I : Inv X pins σ H s) : X.s₀.heap.objs.size ≤ s.heap.objs.size := Nat.le_trans I.ok.above (Nat.le_of_lt I.lt)
theorem Inv.nofs (I : Inv X pins σ H s) {a : Addr} (h : s.heap.objs.size ≤ a) : a ∉ X.fs := fun hb => by
 obtain ⟨_, o, ho, _⟩ := I.ok.funs.mem hb
 exact absurd (Nat.lt_of_lt_of_le (Heap.lt_size ho) (Nat.le_trans I.sz h)) (Nat.lt_irrefl _)
theorem Inv.cne (I : Inv X pins σ H s) : ∀ x c, X.env.cells.lookup x = some c → c ≠ X.env.locals := fun x c e z => by
 obtain ⟨v, o, ho, hd⟩ := I.cell x c e
 obtain ⟨m, ⟨o', es, ep, ho', hd', _⟩, _⟩ := I.loc
 rw [z, ho'] at ho; cases ho; rw [hd'] at hd; cases hd
theorem Inv.funs (I : Inv X pins σ H s) : s.heap.FunFrames X.base X.outer := by
 have all : ∀ (l : List Env), (∀ b ∈ frs l, b ∈ X.fs) → X.s₀.heap.FunFrames X.base l → s.heap.FunFrames X.base l := by
   intro l
   induction l with
   | nil => intro _ _; trivial
   | cons env r ih =>
     intro hs hl
     obtain ⟨hk, ⟨L, o, hf, hn, ho, hd⟩, hr⟩ := hl
     have hL : L ∈ X.fs := hs L (by unfold frs; rw [List.filterMap_cons, hf]; exact List.mem_cons_self)
     obtain ⟨sl, e⟩ := I.base.slot L o ho (I.ok.frf L hL) hL fun z => I.ok.exfs L z hL
     exact ⟨hk, ⟨L, _, hf, hn, e, hd⟩, ih (fun b hb => hs b (by unfold frs; rw [List.filterMap_cons, hf]; exact List.mem_cons_of_mem _ hb)) hr⟩
 exact all X.outer (fun _ hb => hb) I.ok.funs
theorem Inv.stack (I : Inv X pins σ H s) : s.heap.FunFrames X.base X.stack := by
 rcases I.ok.stk with e | ⟨e, hf⟩
 . rw [e]; exact I.funs
 . rw [e]
   obtain ⟨m, hn, _⟩ := I.loc
   refine .cons (by rw [I.ok.kind]; decide) hf hn ?_ I.funs
   exact Heap.get?_none_of_le (Nat.le_trans I.ok.bsz I.ok.above)
theorem Inv.stkSub (I : Inv X pins σ H s) : ∀ b ∈ frs X.stack, b ∈ X.env.locals :: X.fs := fun b hb => by
 rcases I.ok.stk with e | ⟨e, hf⟩
 . rw [e] at hb; exact List.mem_cons_of_mem _ hb
 . rw [e] at hb
   unfold frs at hb
   rw [List.filterMap_cons, hf] at hb
   exact hb
theorem Inv.stkFree (I : Inv X pins σ H s) : ∀ b ∈ frs X.stack, H b = none := fun b hb => by
 rcases List.mem_cons.mp (I.stkSub b hb) with e | hb
 . rw [e]; exact I.free
 . obtain ⟨_, o, ho, _⟩ := I.ok.funs.mem hb
   exact I.base.free b o ho (I.ok.frf b hb) fun z => I.ok.exfs b z hb
theorem Inv.step {g' : Array GenState} {t' : Nat} {d' : Drawn} {ch : List Addr} (I : Inv X pins σ H s)
   (hch : ∀ b ∈ ch, (b ∈ X.ex ∨ X.s₀.heap.objs.size ≤ b) ∧ b ≠ X.env.locals ∧ (∀ x c, X.env.cells.lookup x = some c → c ≠ b) ∧ ∀ p ∈ X.pn ++ pins, p.1 ≠ b)
   (keep : ∀ b o, b ≠ X.env.locals → b ∉ X.fs → b ∉ ch → s.heap.get? b = some o → H b = none → h'.get? b = some o)
   (slot : ∀ b o, b ≠ X.env.locals → b ∈ X.fs → b ∉ ch → s.heap.get? b = some o → H b = none → ∃ sl, h'.get? b = some { o with slots := sl }) (free : ∀ b o, b ∉ ch → s.heap.get? b = some o → H b = none → H' b = none)
   (there : ∀ b o, b ∉ ch → s.heap.get? b = some o → ∃ o', h'.get? b = some o')
   (tups : ∀ b xs, H b = some (.tup xs) → H' b = some (.tup xs)) (frzs : ∀ b o u, H b = some (.frz o u) → H' b = some (.frz o u)) (tbls : ∀ b ps, H b = some (.tbl ps) → ∃ more, H' b = some (.tbl (ps ++ more)))
   (ns : ∀ m, s.heap.Ns X.env.locals m → h'.Ns X.env.locals m) (hok : HOk X.prog X.w H' h') (hg : AllBare g') :
   Inv X pins σ H' { s with heap := h', gens := g', drawn := d', toks := t' } := by
 have neL : ∀ b o, X.s₀.heap.get? b = some o → b ≠ X.env.locals := fun b o e => Nat.ne_of_lt (Nat.lt_of_lt_of_le (Heap.lt_size e) I.ok.above)
 have neC : ∀ b o, X.s₀.heap.get? b = some o → b ∉ X.ex → b ∉ ch := fun b o e hx hb => by
   rcases (hch b hb).1 with z | z
   . exact hx z
   . exact absurd (Nat.lt_of_lt_of_le (Heap.lt_size e) z) (Nat.lt_irrefl _)
 have cellK : ∀ x c, X.env.cells.lookup x = some c → ∀ v, s.heap.IsCell c v → h'.IsCell c v := fun x c e v ⟨o, ho, hd⟩ => by
   have nch : c ∉ ch := fun z => (hch c z).2.2.1 x c e rfl
   by_cases hc : c ∈ X.fs
   . obtain ⟨sl, q⟩ := slot c o (I.cne x c e) hc nch ho (I.freeC x c e)
     exact ⟨_, q, hd⟩
   . exact ⟨o, keep c o (I.cne x c e) hc nch ho (I.freeC x c e), hd⟩
 refine ⟨I.ok, I.os, hg, ⟨fun b o e n hb hx => ?_, fun b o e n hb hx => ?_, fun b o e n hx => ?_, fun b o e hx => ?_, fun b xs e => tups b xs (I.base.tups b xs e), fun b o xs e => frzs b o xs (I.base.frzs b o xs e), fun b ps e => ?_⟩, ?_, fun x c e => ?_, ?_, fun x c e => ?_, fun p hp => ?_, hok, I.len⟩
 . exact keep b o (neL b o e) hb (neC b o e hx) (I.base.keep b o e n hb hx) (I.base.free b o e n hx)
 . obtain ⟨sl, e1⟩ := I.base.slot b o e n hb hx
   obtain ⟨sl', e2⟩ := slot b _ (neL b o e) hb (neC b o e hx) e1 (I.base.free b o e n hx)
   exact ⟨sl', e2⟩
 . obtain ⟨o', e1⟩ := I.base.there b o e hx
   exact free b o' (neC b o e hx) e1 (I.base.free b o e n hx)
 . obtain ⟨o', e1⟩ := I.base.there b o e hx
   exact there b o' (neC b o e hx) e1
 . obtain ⟨m1, e1⟩ := I.base.tbls b ps e
   obtain ⟨m2, e2⟩ := tbls b _ e1
   exact ⟨m1 ++ m2, by rw [e2, Array.append_assoc]⟩
 . obtain ⟨m, hn, hl⟩ := I.loc
   refine ⟨m, ns m hn, fun i x v e1 e2 e3 => ?_⟩
   obtain ⟨u, r, l⟩ := hl i x v e1 e2 e3
   refine ⟨u, r, ?_⟩
   rcases l with l | ⟨k, c, e, z⟩
   . exact .inl l
   . exact .inr ⟨k, c, e, cellK x c e _ z⟩
 . obtain ⟨v, z⟩ := I.cell x c e
   exact ⟨v, cellK x c e v z⟩
 . obtain ⟨m, ⟨o, _, _, ho, _⟩, _⟩ := I.loc
   exact free _ o (fun z => (hch _ z).2.1 rfl) ho I.free
 . obtain ⟨v, o, ho, hd⟩ := I.cell x c e
   exact free c o (fun z => (hch c z).2.2.1 x c e rfl) ho (I.freeC x c e)
 . obtain ⟨e, n, ne, nf, d⟩ := I.pin p hp
   have nch : p.1 ∉ ch := fun z => (hch p.1 z).2.2.2 p hp rfl
   exact ⟨keep p.1 p.2 ne nf nch e n, free p.1 p.2 nch e n, ne, nf, d⟩
theorem Inv.un {t' : Nat} (I : Inv X pins σ H s) (u : Un X.fs [] H H' s.heap h') (hok : HOk X.prog X.w H' h') : Inv X pins σ H' { s with heap := h', toks := t' } := by
 obtain ⟨m, ⟨o, es, ep, ho, r⟩, _⟩ := id I.loc
 obtain ⟨sl, hL⟩ := u.any ho I.free (by simp)
 exact I.step (g' := s.gens) (d' := s.drawn) (ch := []) (fun _ z => nomatch z) (fun b o _ hb _ e n => u.keep b o e n hb (by simp)) (fun b o _ hb _ e n => u.slot b o e n hb (by simp)) (fun b o _ e n => u.free b o e n (by simp)) (fun b o _ e => u.there b o e (by simp)) u.tups u.frzs u.tbls (fun m' hm => by
   obtain ⟨o', es', ep', ho', r'⟩ := hm
   rw [ho] at ho'; cases ho'
   exact ⟨_, es', ep', hL, r'⟩) hok I.bare
theorem Inv.call {g' : Array GenState} {t' : Nat} {d' : Drawn} {ch : List Addr} (I : Inv X pins σ H s) (u : Un (frs X.stack) ch H H' s.heap h') (hok : HOk X.prog X.w H' h') (hg : AllBare g')
   (hch : ∀ b ∈ ch, (b ∈ X.ex ∨ X.s₀.heap.objs.size ≤ b) ∧ b ≠ X.env.locals ∧ (∀ x c, X.env.cells.lookup x = some c → c ≠ b) ∧ ∀ p ∈ X.pn ++ pins, p.1 ≠ b) :
   Inv X pins σ H' { s with heap := h', gens := g', drawn := d', toks := t' } := by
 obtain ⟨m, ⟨o, es, ep, ho, r⟩, _⟩ := id I.loc
 obtain ⟨sl, hL⟩ := u.any ho I.free fun z => (hch _ z).2.1 rfl
 exact I.step (ch := ch) hch (fun b o hL hb hc e n => u.keep b o e n (fun z => (List.mem_cons.mp (I.stkSub b z)).elim hL hb) hc) (fun b o _ _ hc e n => u.any e n hc) (fun b o hc e n => u.free b o e n hc) (fun b o hc e => u.there b o e hc) u.tups u.frzs u.tbls (fun m' hm => by
   obtain ⟨o', es', ep', ho', r'⟩ := hm
   rw [ho] at ho'; cases ho'
   exact ⟨_, es', ep', hL, r'⟩) hok hg
theorem Inv.turned {t' : Nat} {it : Addr} (I : Inv X pins σ H s) (k : ∀ b o, b ≠ it → s.heap.get? b = some o → h'.get? b = some o) (hn : H it = none) (hL : it ≠ X.env.locals)
   (h1 : it ∈ X.ex ∨ X.s₀.heap.objs.size ≤ it) (h2 : ∀ x c, X.env.cells.lookup x = some c → c ≠ it) (h3 : ∀ p ∈ X.pn ++ pins, p.1 ≠ it) : Inv X pins σ H { s with heap := h', toks := t' } := by
 have nit : ∀ b u, H b = some u → b ≠ it := fun b u e z => by rw [z, hn] at e; cases e
 refine I.step (g' := s.gens) (d' := s.drawn) (ch := [it]) (fun b hb => ?_) (fun b o _ _ hc e _ => k b o (fun z => hc (by simp [z])) e) (fun b o _ _ hc e _ => ⟨o.slots, k b o (fun z => hc (by simp [z])) e⟩) (fun _ _ _ _ n => n)
   (fun b o hc e => ⟨o, k b o (fun z => hc (by simp [z])) e⟩) (fun _ _ e => e) (fun _ _ _ e => e) (fun b ps e => ⟨#[], by rw [e]; simp⟩) (fun m hm => ?_) (fun b u e => ?_) I.bare
 . have e : b = it := by simpa using hb
   subst e
   exact ⟨h1, hL, h2, h3⟩
 . obtain ⟨o, es, ep, ho, r⟩ := hm
   exact ⟨o, es, ep, k _ o (Ne.symm hL) ho, r⟩
 . refine (I.hok b u e).stay (fun c v hc q => k c v ?_ q) (fun _ q => q) fun _ _ q => q
   rcases hc with z | z
   . rw [z]; exact nit b u e
   . exact nit c _ z
theorem Inv.tok (I : Inv X pins σ H s) (t : Nat) : Inv X pins σ H { s with toks := t } := I.un (h' := s.heap) (t' := t) Un.refl I.hok
theorem Inv.kept {t' : Nat} (I : Inv X pins σ H s) (k : ∀ b u, s.heap.get? b = some u → h'.get? b = some u) : Inv X pins σ H { s with heap := h', toks := t' } := I.un (Un.kept k) (I.hok.kept k)
theorem Inv.laid {a : Addr} {o : HO} {t' : Nat} (I : Inv X pins σ H s) (k : ∀ b u, s.heap.get? b = some u → h'.get? b = some u) (hp : s.heap.objs.size ≤ a) (new : ObjOk X.prog X.w (upd H a o) h' a o) :
   Inv X pins σ (upd H a o) { s with heap := h', toks := t' } := I.un (Un.laid k hp (I.hok.fresh hp)) (I.hok.laid k hp new)
theorem Inv.write {x e : Addr} {o : HO} {t' : Nat} (I : Inv X pins σ H s) (mu : Mut (H x)) (he : e = x ∨ H e = some (.own x)) (k : ∀ b u, b ≠ e → s.heap.get? b = some u → h'.get? b = some u) (heo : ∃ u, h'.get? e = some u)
   (new : ObjOk X.prog X.w (upd H x o) h' x o) : Inv X pins σ (upd H x o) { s with heap := h', toks := t' } := I.un (Un.write mu he k heo) (I.hok.write mu he k heo new)
theorem Inv.pins_of {pins' : List (Addr × Obj)} (I : Inv X pins σ H s) (h : ∀ p ∈ pins', s.heap.get? p.1 = some p.2 ∧ H p.1 = none ∧ p.1 ≠ X.env.locals ∧ p.1 ∉ X.fs ∧ ∀ v, p.2.data ≠ .cell v) : Inv X pins' σ H s :=
 ⟨I.ok, I.os, I.bare, I.base, I.loc, I.cell, I.free, I.freeC, fun p hp => (List.mem_append.mp hp).elim (fun z => I.pin p (List.mem_append_left _ z)) (h p), I.hok, I.len⟩
theorem zf3 {N : List Str} (hN : N.Nodup) {i j : Nat} {x : Str} (a : N[i]? = some x) (b : N[j]? = some x) : i = j := by
 obtain ⟨h1, e1⟩ := List.getElem?_eq_some_iff.mp a
 obtain ⟨h2, e2⟩ := List.getElem?_eq_some_iff.mp b
 exact (List.getElem_inj hN).mp (e1.trans e2.symm)
theorem zce {M : Model} {A : Around} {E : Value → Shared → Prop} {i : Nat} {x : Str} {v : V} {u : Value} {Q : Unit → Shared → Prop} (I : Inv X pins σ H s) (hN : X.N.Nodup) (hi : X.N[i]? = some x) (hx : Loc X.env.scope x) (r : RelV v u)
   (h : ∀ s', Inv X pins (σ.set i (some v)) H s' → (∃ a, Heap.SameBut a s.heap s'.heap ∧ (a = X.env.locals ∨ X.env.cells.lookup x = some a)) → Q () s') (hf : X.fn x = true ∨ X.env.scope.names.lookup x = some .local := by first | exact .inl rfl | exact .inr rfl | assumption) : wpAny M A (storeName X.env x u) Q E s := by
 obtain ⟨m, hn, hl⟩ := id I.loc
 have hcls : (X.env.scope.kind == .class || (X.env.scope.kind == .module && X.env.locals != X.env.globals)) = false := by rw [I.ok.kind]; rfl
 have hiσ : i < σ.length := by rw [I.len]; exact (List.getElem?_eq_some_iff.mp hi).1
 have cne := I.cne
 have tracked : ∀ {a : Addr} {h' : Heap}, (∃ o, s.heap.get? a = some o ∧ H a = none) → Heap.SameBut a s.heap h' → HOk X.prog X.w H h' := fun {a h'} ha hs b ob e => by
   obtain ⟨_, _, hfree⟩ := ha
   refine (I.hok b ob e).stay (fun c w' hc q => (hs.2 c ?_).trans q) (fun _ q => q) fun _ _ q => q
   rintro rfl
   rcases hc with rfl | hc
   . rw [hfree] at e; cases e
   . rw [hfree] at hc; cases hc
 rcases hx with hk | hk
 . refine wpAny_storeName_local hk hn (fun h' hn' hs => ?_) hcls
   obtain ⟨oL, _, _, hoL, _⟩ := id hn
   refine h _ ⟨I.ok, I.os, I.bare, ⟨fun b o e n hb hx => ?_, fun b o e n hb hx => ?_, I.base.free, fun b o e hx => ?_, I.base.tups, I.base.frzs, I.base.tbls⟩, ⟨_, hn', fun j y v' e1 e2 e3 => ?_⟩, fun y c e => ?_, I.free, I.freeC, fun p hp => ?_, tracked ⟨oL, hoL, I.free⟩ hs, by simpa using I.len⟩ ⟨_, hs, .inl rfl⟩
   . exact (hs.2 b (Nat.ne_of_lt (Nat.lt_of_lt_of_le (Heap.lt_size e) I.ok.above))).trans (I.base.keep b o e n hb hx)
   . obtain ⟨sl, e1⟩ := I.base.slot b o e n hb hx
     exact ⟨sl, (hs.2 b (Nat.ne_of_lt (Nat.lt_of_lt_of_le (Heap.lt_size e) I.ok.above))).trans e1⟩
   . obtain ⟨o', e1⟩ := I.base.there b o e hx
     exact ⟨o', (hs.2 b (Nat.ne_of_lt (Nat.lt_of_lt_of_le (Heap.lt_size e) I.ok.above))).trans e1⟩
   . by_cases hj : j = i
     . subst hj
       rw [hi] at e1; cases e1
       rw [List.getElem?_set_self hiσ] at e2
       cases e2
       exact ⟨u, r, .inl ⟨hk, by simp⟩⟩
     . rw [List.getElem?_set_ne (Ne.symm hj)] at e2
       obtain ⟨u', r', q⟩ := hl j y v' e1 e2 e3
       refine ⟨u', r', ?_⟩
       rcases q with ⟨k, e⟩ | ⟨k, c, e, z⟩
       . refine .inl ⟨k, ?_⟩
         have : y ≠ x := fun e => hj (zf3 hN e1 (e ▸ hi))
         simp [this, e]
       . exact .inr ⟨k, c, e, z.sameBut hs (cne y c e)⟩
   . obtain ⟨w', z⟩ := I.cell y c e
     exact ⟨w', z.sameBut hs (cne y c e)⟩
   . obtain ⟨e, n, ne, nf, d⟩ := I.pin p hp
     exact ⟨(hs.2 p.1 ne).trans e, n, ne, nf, d⟩
 . have hfn : X.fn x = true := by
     rcases hf with z | z
     . exact z
     . rw [z] at hk; cases hk
   obtain ⟨c, hc⟩ := I.ok.has x (.inl hk)
   obtain ⟨w', z⟩ := I.cell x c hc
   refine wpAny_storeName_cell I.ok.kind hk hc z (fun h' hc' hs => ?_)
   obtain ⟨oc, hoc, hocd⟩ := id z
   refine h { s with heap := h' } ⟨I.ok, I.os, I.bare, ⟨fun b o e n hb hx => ?_, fun b o e n hb hx => ?_, I.base.free, fun b o e hx => ?_, I.base.tups, I.base.frzs, I.base.tbls⟩, ⟨m, hn.sameBut hs (Ne.symm (cne x c hc)), fun j y v' e1 e2 e3 => ?_⟩, fun y c' e => ?_, I.free, I.freeC, fun p hp => ?_, tracked ⟨oc, hoc, I.freeC x c hc⟩ hs, by simpa using I.len⟩ ⟨c, hs, .inr hc⟩
   . exact (hs.2 b (Nat.ne_of_lt (Nat.lt_of_lt_of_le (Heap.lt_size e) (I.ok.cab x c hfn hc)))).trans (I.base.keep b o e n hb hx)
   . obtain ⟨sl, e1⟩ := I.base.slot b o e n hb hx
     exact ⟨sl, (hs.2 b (Nat.ne_of_lt (Nat.lt_of_lt_of_le (Heap.lt_size e) (I.ok.cab x c hfn hc)))).trans e1⟩
   . obtain ⟨o', e1⟩ := I.base.there b o e hx
     exact ⟨o', (hs.2 b (Nat.ne_of_lt (Nat.lt_of_lt_of_le (Heap.lt_size e) (I.ok.cab x c hfn hc)))).trans e1⟩
   . by_cases hj : j = i
     . subst hj
       rw [hi] at e1; cases e1
       rw [List.getElem?_set_self hiσ] at e2
       cases e2
       exact ⟨u, r, .inr ⟨.inl hk, c, hc, hc'⟩⟩
     . rw [List.getElem?_set_ne (Ne.symm hj)] at e2
       obtain ⟨u', r', q⟩ := hl j y v' e1 e2 e3
       refine ⟨u', r', ?_⟩
       rcases q with q | ⟨k, c', e, z'⟩
       . exact .inl q
       . refine .inr ⟨k, c', e, z'.sameBut hs ?_⟩
         rintro rfl
         exact hj (zf3 hN e1 (I.ok.inj _ _ _ e hc ▸ hi))
   . by_cases hcc : c' = c
     . subst hcc; exact ⟨_, hc'⟩
     . obtain ⟨w2, z2⟩ := I.cell y c' e
       exact ⟨w2, z2.sameBut hs hcc⟩
   . obtain ⟨e, n, ne, nf, d⟩ := I.pin p hp
     refine ⟨(hs.2 p.1 ?_).trans e, n, ne, nf, d⟩
     intro q
     rw [q, hoc] at e
     have q' : oc = p.2 := Option.some.inj e
     exact d w' (by rw [← q']; exact hocd)
theorem z8b {M : Model} {A : Around} {E : Value → Shared → Prop} {i : Nat} {x : Str} {v : V} {u : Value} {Q : Unit → Shared → Prop} (I : Inv X pins σ H s) (hN : X.N.Nodup) (hi : X.N[i]? = some x) (hx : Loc X.env.scope x) (r : RelV v u)
   (h : ∀ s', Inv X pins (σ.set i (some v)) H s' → Q () s') (hf : X.fn x = true ∨ X.env.scope.names.lookup x = some .local := by first | exact .inl rfl | exact .inr rfl | assumption) : wpAny M A (storeName X.env x u) Q E s :=
 zce I hN hi hx r (fun s' I' _ => h s' I') hf
theorem Inv.call' {s' : Shared} {ch : List Addr} (I : Inv X pins σ H s) (ho : s'.os = s.os) (u : Un (frs X.stack) ch H H' s.heap s'.heap) (hok : HOk X.prog X.w H' s'.heap) (hg : AllBare s'.gens)
   (hch : ∀ b ∈ ch, (b ∈ X.ex ∨ X.s₀.heap.objs.size ≤ b) ∧ b ≠ X.env.locals ∧ (∀ x c, X.env.cells.lookup x = some c → c ≠ b) ∧ ∀ p ∈ X.pn ++ pins, p.1 ≠ b) : Inv X pins σ H' s' := by
 obtain ⟨h', g', d', t', o'⟩ := s'
 have e : o' = s.os := ho
 subst e
 exact I.call (g' := g') (t' := t') (d' := d') u hok hg hch
end
abbrev XK := Value → Option Addr → Hp → Prop
abbrev St := List (Option V)
abbrev VK := V → Hp → Prop
abbrev TE := St → Hp → VK → Prop
abbrev TT := St → Hp → (Bool → Hp → Prop) → Prop
abbrev TA := St → Hp → (List V → Hp → Prop) → Prop
structure Ends where
 nx : St → Hp → Prop
 rt : VK
 bk : St → Hp → Prop := fun _ _ => False
 ct : St → Hp → Prop := fun _ _ => False
abbrev TS := Ends → St → Hp → Prop
def EP (X : Cx) (pins : List (Addr × Obj)) (σ : St) (Q : VK) (u : Value) (s' : Shared) : Prop := ∃ v H', Inv X pins σ H' s' ∧ RelV v u ∧ Q v H'
def TP (X : Cx) (pins : List (Addr × Obj)) (σ : St) (Q : Bool → Hp → Prop) (b : Bool) (s' : Shared) : Prop := ∃ H', Inv X pins σ H' s' ∧ Q b H'
def AP (X : Cx) (pins : List (Addr × Obj)) (σ : St) (Q : List V → Hp → Prop) (us : List Value) (s' : Shared) : Prop := ∃ vs H', Inv X pins σ H' s' ∧ Vals vs us ∧ Q vs H'
def SP (X : Cx) (pins : List (Addr × Obj)) (D : Ends) (f : Flow) (s' : Shared) : Prop :=
 match f with
 | .next => ∃ σ' H', Inv X pins σ' H' s' ∧ D.nx σ' H'
 | .brk => ∃ σ' H', Inv X pins σ' H' s' ∧ D.bk σ' H'
 | .cont => ∃ σ' H', Inv X pins σ' H' s' ∧ D.ct σ' H'
 | .ret u => ∃ v σ' H', Inv X pins σ' H' s' ∧ RelV v u ∧ D.rt v H'
def PE (X : Cx) (e : Expr) (t : TE) : Prop :=
 ∀ (pins : List (Addr × Obj)) (s : Shared) (σ : St) (H : Hp) (Q : VK), Inv X pins σ H s → t σ H Q → wpAny (model X.prog X.w) X.A (eval e X.env) (EP X pins σ Q) X.xe s
def PT (X : Cx) (e : Expr) (t : TT) : Prop :=
 ∀ (pins : List (Addr × Obj)) (s : Shared) (σ : St) (H : Hp) (Q : Bool → Hp → Prop), Inv X pins σ H s → t σ H Q → wpAny (model X.prog X.w) X.A (isTrue e X.env (eval e X.env)) (TP X pins σ Q) X.xe s
def PW (X : Cx) (e : Expr) (t : TT) : Prop :=
 ∀ (whole : Sem Value) (pins : List (Addr × Obj)) (s : Shared) (σ : St) (H : Hp) (Q : Bool → Hp → Prop), Inv X pins σ H s → t σ H Q → wpAny (model X.prog X.w) X.A (isTrue e X.env whole) (TP X pins σ Q) X.xe s
theorem PW.pt {X : Cx} {e : Expr} {t : TT} (h : PW X e t) : PT X e t := h _
def PA (X : Cx) (es : List Expr) (t : TA) : Prop :=
 ∀ (pos : Pos) (pins : List (Addr × Obj)) (s : Shared) (σ : St) (H : Hp) (Q : List V → Hp → Prop), Inv X pins σ H s → t σ H Q → wpAny (model X.prog X.w) X.A (spliced (backTo pos (starEach es X.env))) (AP X pins σ Q) X.xe s
def PS (X : Cx) (st : Stmt) (t : TS) : Prop :=
 ∀ (pins : List (Addr × Obj)) (s : Shared) (σ : St) (H : Hp) (D : Ends), Inv X pins σ H s → t D σ H → wpAny (model X.prog X.w) X.A (exec st X.env) (SP X pins D) X.xe s
def PSs (X : Cx) (st : List Stmt) (t : TS) : Prop :=
 ∀ (pins : List (Addr × Obj)) (s : Shared) (σ : St) (H : Hp) (D : Ends), Inv X pins σ H s → t D σ H → wpAny (model X.prog X.w) X.A (execs st X.env) (SP X pins D) X.xe s
theorem thn {α : Type} {t : Sem α} {Q Q' : α → Shared → Prop} {M : Model} {A : Around} {E : Value → Shared → Prop} {s : Shared} (h : wpAny M A t Q E s) (hQ : ∀ a s, Q a s → Q' a s) : wpAny M A t Q' E s := wpAny_mono h hQ fun _ _ x => x
section
variable {X : Cx}
theorem bin {a b : Expr} {ta tb : TE} (ha : PE X a ta) (hb : PE X b tb) {pins : List (Addr × Obj)} {s : Shared} {σ : St} {H : Hp} {R : V → V → Hp → Prop} (I : Inv X pins σ H s) (h : ta σ H fun x H1 => tb σ H1 fun y H2 => R x y H2)
   {α : Type} {Q : α → Shared → Prop} {f : Value → Value → Sem α}
   (hf : ∀ v u s2 x y H2, Inv X pins σ H2 s2 → RelV x v → RelV y u → R x y H2 → wpAny (model X.prog X.w) X.A (f v u) Q X.xe s2) :
   wpAny (model X.prog X.w) X.A (eval a X.env) (fun v s₁ => wpAny (model X.prog X.w) X.A (eval b X.env) (fun u s₂ => wpAny (model X.prog X.w) X.A (f v u) Q X.xe s₂) X.xe s₁) X.xe s := by
 refine thn (ha pins s σ H _ I h) fun v s1 ⟨x, H1, I1, r1, q1⟩ => ?_
 refine thn (hb pins s1 σ H1 _ I1 q1) fun u s2 ⟨y, H2, I2, r2, q2⟩ => ?_
 exact hf v u s2 x y H2 I2 r1 r2 q2
def tVar (i : Nat) : TE := fun σ H Q => ∃ v, σ[i]? = some (some v) ∧ Q v H
def tC (v : V) : TE := fun _ H Q => Q v H
theorem pe_var {i : Nat} {x : Str} {pos : Pos} (hN : X.N[i]? = some x) (hv : Vis X.env.scope x) (hd : (x == ("__debug__" : Str)) = false := by decide) (hcd : (x == ("__classdict__" : Str)) = false := by decide) : PE X (.Name x pos) (tVar i) := by
 intro pins s σ H Q I h
 obtain ⟨v, e, h⟩ := h
 obtain ⟨m, hn, hl⟩ := I.loc
 obtain ⟨u, r, l⟩ := hl i x v hN e hv
 have fin : EP X pins σ Q u s := ⟨v, H, I, r, h⟩
 rcases l with ⟨hk, hm⟩ | ⟨hk, c, hc, hcell⟩
 . exact wpAny_Name (wpAny_loadName_local I.ok.kind hk hn hm fin) hd
 . rcases hk with hk | hk
   . exact wpAny_Name (wpAny_loadName_cell I.ok.kind hk hc hcell fin) hd
   . exact wpAny_Name (wpAny_loadName_free I.ok.kind hk hc hcell fin hcd) hd
theorem pe_int {i j pos} : PE X (.Constant (.int i) j pos) (tC (.int i)) := fun _ _ _ H _ I h => wpAny_Constant_int ⟨.int i, H, I.tok _, ⟨_, rfl⟩, h⟩
theorem pe_bl {b j pos} : PE X (.Constant (.bool b) j pos) (tC (.bl b)) := fun _ _ _ H _ I h => Constant_bool ⟨.bl b, H, I, rfl, h⟩
def Gl (X : Cx) (x : Str) : Prop := X.env.kindOf x = some .globalImplicit
theorem z1ad {E : Value → Shared → Prop} {pins : List (Addr × Obj)} {s : Shared} {σ : St} {H : Hp} {x : Str} {u : Value} {pos : Pos} {Q : Value → Shared → Prop} (I : Inv X pins σ H s) (hg : Gl X x) (hm : X.mg x = some u) (h : Q u s)
   (hd : (x == ("__debug__" : Str)) = false := by decide) : wpAny (model X.prog X.w) X.A (eval (.Name x pos) X.env) Q E s :=
 Calls.Name_function_global I.ok.kind hg (Calls.loadGlobal_global (by rw [I.ok.glob]; exact I.mod.glob.keeps I.bk) hm h) hd
theorem ld_blt {E : Value → Shared → Prop} {pins : List (Addr × Obj)} {s : Shared} {σ : St} {H : Hp} {x : Str} {u : Value} {pos : Pos} {Q : Value → Shared → Prop} (I : Inv X pins σ H s) (hg : Gl X x) (hm : X.mg x = none) (hv : bootBuiltins x = some u) (h : Q u s)
   (hn : x ≠ "__name__" := by decide) (hd : (x == ("__debug__" : Str)) = false := by decide) : wpAny (model X.prog X.w) X.A (eval (.Name x pos) X.env) Q E s := by
 obtain ⟨mb, h1, h2⟩ := I.mod.blt
 exact Calls.Name_function_global I.ok.kind hg (Calls.loadGlobal_builtin (by rw [I.ok.glob]; exact I.mod.glob.keeps I.bk) hm (by rw [I.ok.blt]; exact h1.keeps I.bk) ((h2 x hn).trans hv) h) hd
theorem z9b {x : Str} {v : V} {u : Value} {pos : Pos} (hg : Gl X x) (hm : X.mg x = none) (hv : bootBuiltins x = some u) (r : RelV v u) (hn : x ≠ "__name__" := by decide) (hd : (x == ("__debug__" : Str)) = false := by decide) : PE X (.Name x pos) (tC v) :=
 fun _ _ _ H _ I h => ld_blt I hg hm hv ⟨v, H, I, r, h⟩ hn hd
variable {a b : Expr} {ta tb : TE} {pos : Pos}
variable {tA tB' : TT} {rest : List Expr}
def tAnd (t u : TT) : TT := fun σ H Q => t σ H fun c H1 => if c = true then u σ H1 Q else Q false H1
def tOr (t u : TT) : TT := fun σ H Q => t σ H fun c H1 => if c = true then Q true H1 else u σ H1 Q
def tNot (t : TT) : TT := fun σ H Q => t σ H fun c H1 => Q (!c) H1
theorem z1ae (ha : PT X a tA) : PW X (.BoolOp .And [a] pos) tA := by
 intro wh pins s σ H Q I h
 refine isTrue_and (thn (ha pins s σ H Q I h) fun c s1 e => ?_)
 cases c with
 | true => exact isTrue_and_nil e
 | false => exact e
theorem pw_or1 (ha : PT X a tA) : PW X (.BoolOp .Or [a] pos) tA := by
 intro wh pins s σ H Q I h
 refine isTrue_or (thn (ha pins s σ H Q I h) fun c s1 e => ?_)
 cases c with
 | false => exact isTrue_or_nil e
 | true => exact e
theorem pw_and (ha : PT X a tA) (hb : PW X (.BoolOp .And (b :: rest) pos) tB') : PW X (.BoolOp .And (a :: b :: rest) pos) (tAnd tA tB') := by
 intro wh pins s σ H Q I h
 refine isTrue_and (thn (ha pins s σ H _ I h) fun c s1 ⟨H1, I1, q1⟩ => ?_)
 cases c with
 | true => exact hb wh pins s1 σ H1 Q I1 q1
 | false => exact ⟨H1, I1, q1⟩
theorem pw_or (ha : PT X a tA) (hb : PW X (.BoolOp .Or (b :: rest) pos) tB') : PW X (.BoolOp .Or (a :: b :: rest) pos) (tOr tA tB') := by
 intro wh pins s σ H Q I h
 refine isTrue_or (thn (ha pins s σ H _ I h) fun c s1 ⟨H1, I1, q1⟩ => ?_)
 cases c with
 | true => exact ⟨H1, I1, q1⟩
 | false => exact hb wh pins s1 σ H1 Q I1 q1
theorem pt_not (ha : PT X a tA) : PT X (.UnaryOp .Not a pos) (tNot tA) := by
 intro pins s σ H Q I h
 exact isTrue_not (ha pins s σ H (fun c H1 => Q (!c) H1) I h)
theorem pe_one {op} {t : TE} (h : PE X a t) : PE X (.BoolOp op [a] pos) t := fun pins s σ H Q I hw => BoolOp_one (h pins s σ H Q I hw)
end
def SqL (K : PySem.W.Frag) (H : Hp) (a : Addr) (xs : List V) : Prop :=
 Rd H a (.lst xs) ∨
   ∃ (o : Obj) (its : Array Value) (n : Nat), K.lookup a = some o ∧ o.cls = .type "list" ∧ o.dict = none ∧ o.data = .seq its n ∧ its.size ≤ sizeLine ∧ Vals xs its.toList
def SqT (K : PySem.W.Frag) (H : Hp) (a : Addr) (xs : List V) : Prop :=
 Rd H a (.tup xs) ∨
   ∃ (o : Obj) (its : Array Value) (n : Nat), K.lookup a = some o ∧ o.cls = .type "tuple" ∧ o.data = .seq its n ∧ its.size ≤ sizeLine ∧ Vals xs its.toList
def absV : Value → Option V
 | .none => some .non
 | .bool b => some (.bl b)
 | .int i _ => some (.int i)
 | .str x _ => some (.str x)
 | .bytes b _ => some (.byt b)
 | .float b _ => some (.flt b)
 | .ref a => some (.ref a)
 | .type n => some (.ty n)
 | _ => none
theorem RelV.abs {x : V} {u : Value} (r : RelV x u) : absV u = some x := by
 cases x with
 | non => cases r; rfl
 | bl _ => cases r; rfl
 | int _ => obtain ⟨t, rfl⟩ := r; rfl
 | str _ => obtain ⟨t, rfl⟩ := r; rfl
 | byt _ => obtain ⟨t, rfl⟩ := r; rfl
 | flt _ => obtain ⟨t, rfl⟩ := r; rfl
 | ref _ => cases r; rfl
 | ty _ => cases r; rfl
theorem RelV.inj {x y : V} {u : Value} (r : RelV x u) (q : RelV y u) : x = y := Option.some.inj (r.abs.symm.trans q.abs)
theorem Vals.inj : ∀ {xs ys : List V} {us : List Value}, Vals xs us → Vals ys us → xs = ys
 | _, _, _, .nil, .nil => rfl
 | _, _, _, .cons r t, .cons r' t' => by rw [r.inj r', Vals.inj t t']
section
variable {X : Cx} {pins : List (Addr × Obj)} {σ : St} {H : Hp} {s : Shared} {a : Addr} {xs ys : List V}
theorem SqL.of {K : PySem.W.Frag} (h : H a = some (.lst xs)) : SqL K H a xs := .inl (.inl h)
theorem SqT.of {K : PySem.W.Frag} (h : H a = some (.tup xs)) : SqT K H a xs := .inl (.inl h)
theorem Inv.list (I : Inv X pins σ H s) (h : SqL X.K H a xs) : ∃ its : List Value, Vals xs its ∧ PlainL s.heap a its.toArray ∧ xs.length ≤ sizeLine := by
 rcases h with h | ⟨o, its, n, hk, hc, hd, hs, hz, r⟩
 . obtain ⟨z, its, n, r, e⟩ := h.ok I.hok
   exact ⟨its, r, ⟨_, n, e, rfl, rfl, rfl⟩, z⟩
 . refine ⟨its.toList, r, ⟨o, n, I.kIn a o hk, hc, hd, by simpa using hs⟩, ?_⟩
   have e := r.length
   simp only [Array.length_toList] at e
   omega
theorem Inv.tuple (I : Inv X pins σ H s) (h : SqT X.K H a xs) : ∃ its : List Value, Vals xs its ∧ IsTup s.heap a its.toArray ∧ xs.length ≤ sizeLine := by
 rcases h with h | ⟨o, its, n, hk, hc, hs, hz, r⟩
 . obtain ⟨z, its, r, p⟩ := h.ok I.hok
   exact ⟨its, r, p, z⟩
 . refine ⟨its.toList, r, ⟨o, I.kIn a o hk, hc, n, by simpa using hs⟩, ?_⟩
   have e := r.length
   simp only [Array.length_toList] at e
   omega
theorem Inv.list_inj (I : Inv X pins σ H s) (h : SqL X.K H a xs) (h' : SqL X.K H a ys) : xs = ys := by
 obtain ⟨its, r, ⟨o, n, e, _, _, d⟩, _⟩ := I.list h
 obtain ⟨its', r', ⟨o', n', e', _, _, d'⟩, _⟩ := I.list h'
 rw [e] at e'; cases e'
 rw [d] at d'
 injection d' with d1 _
 have : its = its' := by simpa using congrArg Array.toList d1
 subst this
 exact r.inj r'
theorem Inv.tuple_inj (I : Inv X pins σ H s) (h : SqT X.K H a xs) (h' : SqT X.K H a ys) : xs = ys := by
 obtain ⟨its, r, ⟨o, e, _, n, d⟩, _⟩ := I.tuple h
 obtain ⟨its', r', ⟨o', e', _, n', d'⟩, _⟩ := I.tuple h'
 rw [e] at e'; cases e'
 rw [d] at d'
 injection d' with d1 _
 have : its = its' := by simpa using congrArg Array.toList d1
 subst this
 exact r.inj r'
end
abbrev Cx.wish (X : Cx) (E : Value → Shared → Prop) : Cx := { X with xe := E }
abbrev Cx.nox (X : Cx) : Cx := X.wish fun _ _ => False
theorem Cx.Ok.wish {X : Cx} (ok : X.Ok) (E : Value → Shared → Prop) : (X.wish E).Ok :=
 ⟨ok.mod, ok.kind, ok.glob, ok.blt, ok.above, ok.inj, ok.has, ok.cab, ok.hd, ok.frames, ok.stk, ok.exf, ok.bs, ok.bsz, ok.noex, ok.exfs, ok.funs, ok.frf⟩
theorem Cx.Ok.unwish {X : Cx} {E : Value → Shared → Prop} (ok : (X.wish E).Ok) : X.Ok :=
 ⟨ok.mod, ok.kind, ok.glob, ok.blt, ok.above, ok.inj, ok.has, ok.cab, ok.hd, ok.frames, ok.stk, ok.exf, ok.bs, ok.bsz, ok.noex, ok.exfs, ok.funs, ok.frf⟩
section
variable {X : Cx} {pins : List (Addr × Obj)} {σ : St} {H : Hp} {s : Shared} {E : Value → Shared → Prop}
theorem Inv.wish (I : Inv X pins σ H s) (E : Value → Shared → Prop) : Inv (X.wish E) pins σ H s := ⟨I.ok.wish E, I.os, I.bare, I.base, I.loc, I.cell, I.free, I.freeC, I.pin, I.hok, I.len⟩
theorem Inv.unwish (I : Inv (X.wish E) pins σ H s) : Inv X pins σ H s := ⟨I.ok.unwish, I.os, I.bare, I.base, I.loc, I.cell, I.free, I.freeC, I.pin, I.hok, I.len⟩
theorem SP.unwish {D : Ends} {f : Flow} {s' : Shared} (h : SP (X.wish E) pins D f s') : SP X pins D f s' := by
 cases f with
 | next => obtain ⟨σ', H', I, q⟩ := h; exact ⟨σ', H', I.unwish, q⟩
 | brk => obtain ⟨σ', H', I, q⟩ := h; exact ⟨σ', H', I.unwish, q⟩
 | cont => obtain ⟨σ', H', I, q⟩ := h; exact ⟨σ', H', I.unwish, q⟩
 | ret u => obtain ⟨v, σ', H', I, r, q⟩ := h; exact ⟨v, σ', H', I.unwish, r, q⟩
theorem PE.nox {e : Expr} {t : TE} (h : PE X.nox e t) : PE X e t := fun pins s σ H Q I hw =>
 wpAny_mono (h pins s σ H Q (I.wish _) hw) (fun _ _ ⟨v, H', I', r, q⟩ => ⟨v, H', I'.unwish, r, q⟩) fun _ _ z => False.elim z
theorem PT.nox {e : Expr} {t : TT} (h : PT X.nox e t) : PT X e t := fun pins s σ H Q I hw =>
 wpAny_mono (h pins s σ H Q (I.wish _) hw) (fun _ _ ⟨H', I', q⟩ => ⟨H', I'.unwish, q⟩) fun _ _ z => False.elim z
theorem PSs.nox {st : List Stmt} {t : TS} (h : PSs X.nox st t) : PSs X st t := fun pins s σ H D I hw =>
 wpAny_mono (h pins s σ H D (I.wish _) hw) (fun _ _ q => q.unwish) fun _ _ z => False.elim z
end
section
variable {X : Cx} {st : Stmt} {rest : List Stmt} {t u : TS} {e : Expr} {te : TE} {pos : Pos}
def tNext : TS := fun D σ H => D.nx σ H
def tSeq (t u : TS) : TS := fun D σ H => t { D with nx := u D } σ H
theorem pss_nil : PSs X [] tNext := fun _ _ σ H _ I h => wpAny_execs_nil ⟨σ, H, I, h⟩
theorem z17e (h1 : PS X st t) (h2 : PSs X rest u) : PSs X (st :: rest) (tSeq t u) := by
 intro pins s σ H D I h
 refine wpAny_execs_cons (thn (h1 pins s σ H { D with nx := u D } I h) fun f s1 q => ?_)
 cases f with
 | next =>
   obtain ⟨σ', H', I', q⟩ := q
   exact h2 pins s1 σ' H' D I' q
 | ret v => exact q
 | brk => exact q
 | cont => exact q
theorem z1af (h1 : PS X st t) : PSs X [st] t := by
 intro pins s σ H D I h
 refine wpAny_execs_cons (thn (h1 pins s σ H D I h) fun f s1 q => ?_)
 cases f with
 | next => exact wpAny_execs_nil q
 | ret v => exact q
 | brk => exact q
 | cont => exact q
theorem Inv.quiet {pins : List (Addr × Obj)} {σ : St} {H : Hp} {s : Shared} (I : Inv X pins σ H s) : interactive X.env = false := by simp [interactive, I.ok.kind]
def tDrop (te : TE) : TS := fun D σ H => te σ H fun _ H1 => D.nx σ H1
theorem zf4 (he : PE X e te) (hs : swapsWith e none pos.line X.env = pure false := by rfl) : PS X (.Expr e pos) (tDrop te) := by
 intro pins s σ H D I h
 exact wpAny_Expr_any (thn (he pins s σ H _ I h) fun v s1 ⟨x, H1, I1, r1, q1⟩ => ⟨σ, H1, I1, q1⟩) I.quiet hs
def tRet (te : TE) : TS := fun D σ H => te σ H D.rt
theorem ps_ret (he : PE X e te) : PS X (.Return (some e) pos) (tRet te) := by
 intro pins s σ H D I h
 exact wpAny_Return_some (thn (he pins s σ H _ I h) fun v s1 ⟨x, H1, I1, r1, q1⟩ => ⟨x, σ, H1, I1, r1, q1⟩)
def tIfS (c : TT) (t u : TS) : TS := fun D σ H => c σ H fun b H1 => if b = true then t D σ H1 else u D σ H1
theorem ps_if {c : Expr} {a b : List Stmt} {tc : TT} (hc : PT X c tc) (ha : PSs X a t) (hb : PSs X b u) : PS X (.If c a b pos) (tIfS tc t u) := by
 intro pins s σ H D I h
 refine wpAny_If (thn (hc pins s σ H _ I h) fun d s1 ⟨H1, I1, q1⟩ => ?_)
 cases d with
 | true => exact ha pins s1 σ H1 D I1 q1
 | false => exact hb pins s1 σ H1 D I1 q1
def tNever : TS := fun _ _ _ => False
theorem ps_never : PS X st tNever := fun _ _ _ _ _ _ h => h.elim
end
abbrev TG := V → St → Hp → (St → Hp → Prop) → Prop
abbrev TGs := List V → St → Hp → (St → Hp → Prop) → Prop
def PG (X : Cx) (target : Expr) (t : TG) : Prop :=
 ∀ (pins : List (Addr × Obj)) (s : Shared) (σ : St) (H : Hp) (v : V) (u : Value) (Q : St → Hp → Prop), Inv X pins σ H s → RelV v u → t v σ H Q →
   wpAny (model X.prog X.w) X.A (assign target X.env u) (fun _ s' => ∃ σ' H', Inv X pins σ' H' s' ∧ Q σ' H') X.xe s
def PGs (X : Cx) (ts : List Expr) (t : TGs) : Prop :=
 ∀ (pins : List (Addr × Obj)) (s : Shared) (σ : St) (H : Hp) (vs : List V) (us : List Value) (Q : St → Hp → Prop), Inv X pins σ H s → Vals vs us → t vs σ H Q →
   wpAny (model X.prog X.w) X.A (assignInOrder ((assignEach ts X.env).map (·.2)) us) (fun _ s' => ∃ σ' H', Inv X pins σ' H' s' ∧ Q σ' H') X.xe s
abbrev TSet := V → V → V → Hp → (Hp → Prop) → Prop
def PSet (X : Cx) (t : TSet) : Prop :=
 ∀ (pins : List (Addr × Obj)) (s : Shared) (σ : St) (H : Hp) (o i v : V) (ov iv u : Value) (Q : Hp → Prop), Inv X pins σ H s → RelV o ov → RelV i iv → RelV v u → t o i v H Q →
   wpAny (model X.prog X.w) X.A (setItem ov iv u) (fun _ s' => ∃ H', Inv X pins σ H' s' ∧ Q H') X.xe s
section
variable {X : Cx} {pos : Pos}
def gName (i : Nat) : TG := fun v σ H Q => Q (σ.set i (some v)) H
theorem zf5 {i : Nat} {x : Str} (hN : X.N.Nodup) (hi : X.N[i]? = some x) (hx : Loc X.env.scope x) (hf : X.fn x = true ∨ X.env.scope.names.lookup x = some .local := by first | exact .inl rfl | exact .inr rfl | assumption) : PG X (.Name x pos) (gName i) := by
 intro pins s σ H v u Q I r h
 exact wpAny_assign_Name (z8b I hN hi hx r (fun s' I' => ⟨_, H, I', h⟩) hf)
def gNil : TGs := fun vs σ H Q => vs = [] ∧ Q σ H
def gCons (t : TG) (u : TGs) : TGs := fun vs σ H Q => ∃ v r, vs = v :: r ∧ t v σ H fun σ' H' => u r σ' H' Q
theorem pgs_nil : PGs X [] gNil := by
 intro pins s σ H vs us Q I r h
 obtain ⟨e, h⟩ := h
 subst e
 cases r
 exact assignInOrder_nil ⟨σ, H, I, h⟩
theorem z17f {e : Expr} {es : List Expr} {t : TG} {u : TGs} (h1 : PG X e t) (h2 : PGs X es u)
   (hs : (assignEach (e :: es) X.env).map (·.2) = assign e X.env :: (assignEach es X.env).map (·.2) := by rfl) : PGs X (e :: es) (gCons t u) := by
 intro pins s σ H vs us Q I r h
 obtain ⟨v, vr, e1, h⟩ := h
 subst e1
 cases r with
 | cons r rr =>
   rw [hs]
   refine assignInOrder_cons (thn (h1 pins s σ H _ _ _ I r h) fun _ s1 ⟨σ1, H1, I1, q1⟩ => ?_)
   exact h2 pins s1 σ1 H1 _ _ Q I1 rr q1
def gTup (K : PySem.W.Frag) (n : Nat) (t : TGs) : TG := fun v σ H Q => ∃ a xs, v = .ref a ∧ SqT K H a xs ∧ xs.length = n ∧ t xs σ H Q
theorem pg_tup {es : List Expr} {k : Nat} {t : TGs} {n : Nat} (hc : X.calm = true) (h : PGs X es t)
   (hn : (assignEach es X.env).length = n := by rfl) (hst : (assignEach es X.env).findIdx? (·.1) = none := by rfl) : PG X (.Tuple es k pos) (gTup X.K n t) := by
 intro pins s σ H v u Q I r hw
 obtain ⟨a, xs, e1, hq, hl, hw⟩ := hw
 subst e1
 cases r
 obtain ⟨its, rv, ht, hz⟩ := I.tuple hq
 refine assign_Tuple_tuple (I.ok.hd hc) ht (by simp [hn, ← hl, rv.length]) hst fun h' hx => ?_
 have I1 : Inv X pins σ H { s with heap := h' } := I.kept (t' := s.toks) fun b o e => hx b o (Nat.ne_of_lt (Heap.lt_size e)) e
 exact h pins _ σ H xs _ Q I1 (by simpa using rv) hw
def gSub (to ti : TE) (t : TSet) : TG := fun v σ H Q => to σ H fun o H1 => ti σ H1 fun i H2 => t o i v H2 fun H3 => Q σ H3
theorem pg_sub {o i : Expr} {to ti : TE} {t : TSet} (ho : PE X o to) (hi : PE X i ti) (hs : PSet X t)
   (ha : ∀ v, assign (.Subscript o i pos) X.env v = (do
     let ov ← holding [v] (eval o X.env)
     let iv ← holding [v, ov] (eval i X.env)
     standAt pos
     holding [v, ov, iv] (setItem ov iv v)
     release [v, ov, iv] []) := by intro _; rfl) : PG X (.Subscript o i pos) (gSub to ti t) := by
 intro pins s σ H v u Q I r h
 rw [ha]
 refine wpAny_bind (wpAny_holding (thn (ho pins s σ H _ I h) fun ov s1 ⟨x, H1, I1, r1, q1⟩ => ?_))
 refine wpAny_bind (wpAny_holding (thn (hi pins s1 σ H1 _ I1 q1) fun iv s2 ⟨y, H2, I2, r2, q2⟩ => ?_))
 refine wpAny_bind (wpAny_standAt (wpAny_bind (wpAny_holding (thn (hs pins s2 σ H2 x y v ov iv u _ I2 r1 r2 r q2) fun _ s3 ⟨H3, I3, q3⟩ => ?_))))
 exact wpAny_release ⟨σ, H3, I3, q3⟩
def tAsg (te : TE) (g : TG) : TS := fun D σ H => te σ H fun x H1 => g x σ H1 D.nx
theorem ps_asg {tg e : Expr} {te : TE} {g : TG} (he : PE X e te) (hg : PG X tg g) (hs : swapsWithSole [tg] e pos.line X.env = pure false := by rfl) (hw : swappedStores [tg] e X.env = pure none := by rfl)
   (h1 : (assignEach [tg] X.env).map (·.2) = [assign tg X.env] := by rfl) : PS X (.Assign [tg] e pos) (tAsg te g) := by
 intro pins s σ H D I h
 refine wpAny_Assign_stores (thn (he pins s σ H _ I h) fun v s1 ⟨x, H1, I1, r1, q1⟩ => ?_) hs hw
 rw [h1]
 exact thn (hg pins s1 σ H1 x v _ I1 r1 q1) fun _ s2 q => q
theorem ps_set {i : Nat} {x : Str} {e : Expr} {te : TE} {pos' : Pos} (hN : X.N.Nodup) (hi : X.N[i]? = some x) (hx : Loc X.env.scope x) (he : PE X e te) (hs : swapsWith e (some (.Name x pos')) pos.line X.env = pure false := by rfl) (hf : X.fn x = true ∨ X.env.scope.names.lookup x = some .local := by first | exact .inl rfl | exact .inr rfl | assumption) :
   PS X (.Assign [.Name x pos'] e pos) (tAsg te (gName i)) := by
 intro pins s σ H D I h
 refine wpAny_Assign_Name (thn (he pins s σ H _ I h) fun v s1 ⟨y, H1, I1, r1, q1⟩ => ?_) hs
 exact z8b I1 hN hi hx r1 (fun s2 I2 => ⟨_, H1, I2, q1⟩) hf
def tPar (i j : Nat) (ta : TA) : TS := fun D σ H => ta σ H fun vs H1 => ∃ v w, vs = [v, w] ∧ D.nx ((σ.set i (some v)).set j (some w)) H1
theorem ps_par {i j : Nat} {x y : Str} {a b : Expr} {ta : TA} {px py pt : Pos} {kt k2 pt2} (hc : X.calm = true) (hN : X.N.Nodup) (hi : X.N[i]? = some x) (hj : X.N[j]? = some y) (hij : i ≠ j)
   (hx : X.env.scope.names.lookup x = some .local) (hy : X.env.scope.names.lookup y = some .local) (ha : PA X [a, b] ta)
   (hw : swappedStores [.Tuple [.Name x px, .Name y py] kt pt] (.Tuple [a, b] k2 pt2) X.env = pure (some [x, y]))
   (hs : swapsWithSole [.Tuple [.Name x px, .Name y py] kt pt] (.Tuple [a, b] k2 pt2) pos.line X.env = pure false := by rfl) :
   PS X (.Assign [.Tuple [.Name x px, .Name y py] kt pt] (.Tuple [a, b] k2 pt2) pos) (tPar i j ta) := by
 intro pins s σ H D I h
 rw [exec_Assign_arm]
 refine wpAny_bind (wpAny_standAt ?_)
 rw [hs]
 refine wpAny_bind (wpAny_pure ?_)
 rw [if_neg (by decide)]
 refine wpAny_bind (Tuple_ (thn (ha _ pins s σ H _ I h) fun us s1 ⟨vs, H1, I1, r1, q1⟩ => ?_))
 obtain ⟨v, w, e1, q1⟩ := q1
 subst e1
 obtain ⟨u1, u2, rfl, rv, rw'⟩ : ∃ u1 u2, us = [u1, u2] ∧ RelV v u1 ∧ RelV w u2 := by
   cases r1 with
   | cons p q =>
     cases q with
     | cons p' q' =>
       cases q'
       exact ⟨_, _, rfl, p, p'⟩
 refine wpAny_newObj_type ?_ (by show 2 ≤ sizeLine; decide)
 have I2 : Inv X pins σ H1 { s1 with heap := s1.heap.push { cls := .type "tuple", data := .seq [u1, u2].toArray } } := I1.kept (t' := s1.toks) fun b o e => Heap.get?_push_of_some _ e
 rw [hw]
 refine wpAny_bind (wpAny_pure ?_)
 show wpAny (model X.prog X.w) X.A (do rule "assign.swapped-stores"; let items ← unpackItems (.ref s1.heap.objs.size) 2 none; assignInOrder [fun v => bindName X.env y v, fun v => bindName X.env x v] items.reverse; pure Flow.next) _ _ _
 refine wpAny_bind (wpAny_rule (wpAny_bind (unpackItems_tuple (items := #[u1, u2]) (I.ok.hd hc) (IsTup.new s1.heap _) fun h' hx' => ?_)))
 have I3 := I2.kept (h' := h') (t' := s1.toks) fun b o e => hx' b o (Nat.ne_of_lt (Heap.lt_size e)) e
 show wpAny _ _ (assignInOrder [fun v => bindName X.env y v, fun v => bindName X.env x v] [u2, u1] >>= fun _ => pure Flow.next) _ _ _
 refine wpAny_bind (assignInOrder_cons (wpAny_bindName (z8b I3 hN hj (.inl hy) rw' (fun s2 I4 => ?_) (.inr hy))))
 refine assignInOrder_cons (wpAny_bindName (z8b I4 hN hi (.inl hx) rv (fun s3 I5 => assignInOrder_nil (wpAny_pure ?_)) (.inr hx)))
 rw [List.set_comm _ _ (Ne.symm hij)] at I5
 exact ⟨_, H1, I5, q1⟩
end
section
variable {X : Cx} {pos : Pos}
def tWhile (c : TT) (tb : TS) : TS := fun D σ H => ∃ W : Nat → St → Hp → Prop, (∃ m, W m σ H) ∧ ∀ m σ H, W m σ H →
 c σ H fun b H1 => if b = true then ∃ N : St → Hp → Prop, (∀ σ' H', N σ' H' → ∃ m', m' < m ∧ W m' σ' H') ∧ tb { D with nx := N, ct := N, bk := D.nx } σ H1 else D.nx σ H1
theorem z180 {c : Expr} {body : List Stmt} {tc : TT} {tb : TS} (hp : PassesOwn (model X.prog X.w) X.A X.env X.xe) (hc : PT X c tc) (hb : PSs X body tb) : PS X (.While c body [] pos) (tWhile tc tb) := by
 intro pins s σ H D I h
 obtain ⟨W, ⟨m0, w0⟩, turn⟩ := h
 refine wpAny_While (codeAny_whileLoop (fun n s' => ∃ σ' H', Inv X pins σ' H' s' ∧ W n σ' H') ?_ m0 ⟨σ, H, I, w0⟩)
 rintro n s1 ⟨σ1, H1, I1, w1⟩
 refine wpAny_passesOwn hp (thn (hc pins s1 σ1 H1 _ I1 (turn n σ1 H1 w1)) fun b s2 ⟨H2, I2, q2⟩ => ?_)
 cases b with
 | true =>
   obtain ⟨N, hN, q2⟩ := q2
   rw [if_pos rfl]
   refine wpAny_passesOwn hp (thn (hb pins s2 σ1 H2 _ I2 q2) fun f s3 q3 => ?_)
   cases f with
   | next =>
     obtain ⟨σ3, H3, I3, n3⟩ := q3
     obtain ⟨m', hm, w3⟩ := hN σ3 H3 n3
     exact ⟨m', hm, σ3, H3, I3, w3⟩
   | cont =>
     obtain ⟨σ3, H3, I3, n3⟩ := q3
     obtain ⟨m', hm, w3⟩ := hN σ3 H3 n3
     exact ⟨m', hm, σ3, H3, I3, w3⟩
   | brk => exact q3
   | ret v => exact q3
 | false =>
   rw [if_neg Bool.false_ne_true]
   exact wpAny_execs_nil ⟨σ1, H2, I2, q2⟩
end
structure It where
 go : Nat → Hp → Prop
 yld : Nat → Hp → V → Hp → Prop
 stop : Nat → Hp → Prop
def FpOk (X : Cx) (pins : List (Addr × Obj)) (H : Hp) (b : Addr) : Prop :=
 H b = none ∧ b ≠ X.env.locals ∧ b ∉ X.fs ∧ (b ∈ X.ex ∨ X.s₀.heap.objs.size ≤ b) ∧ (∀ x c, X.env.cells.lookup x = some c → c ≠ b) ∧ ∀ p ∈ X.pn ++ pins, p.1 ≠ b
theorem Inv.fpOk {X : Cx} {pins : List (Addr × Obj)} {σ : St} {H H' : Hp} {s : Shared} {b : Addr} (I : Inv X pins σ H s) (hb : s.heap.objs.size ≤ b) (hn : H' b = none) : FpOk X pins H' b := by
 refine ⟨hn, Nat.ne_of_gt (Nat.lt_of_lt_of_le I.lt hb), I.nofs hb, .inr (Nat.le_trans I.sz hb), fun x c e z => ?_, fun p hp z => ?_⟩
 . obtain ⟨v, q⟩ := I.cell x c e
   exact absurd (Nat.lt_of_lt_of_le q.lt (by rw [z]; exact hb)) (Nat.lt_irrefl _)
 . exact absurd (Nat.lt_of_lt_of_le (Heap.lt_size (I.pin p hp).1) (by rw [z]; exact hb)) (Nat.lt_irrefl _)
structure Turn (P : Program) (w : World) (K : PySem.W.Frag) (tg : Expr) (J : It) (fp : List Addr) (it : Addr) (tn : Nat → Heap → Prop) : Prop where
 mem : it ∈ fp
 obj : ∀ i h, tn i h → ∀ b ∈ fp, ∃ o, h.get? b = some o ∧ ∀ v, o.data ≠ .cell v
 keep : ∀ i h h', tn i h → (∀ b ∈ fp, ∀ o, h.get? b = some o → h'.get? b = some o) → tn i h'
 item : ∀ (X : Cx), X.prog = P → X.w = w → X.K = K → X.calm = true → ∀ (i : Nat) (pins : List (Addr × Obj)) (s : Shared) (σ : St) (H : Hp) (E : Value → Shared → Prop), Inv X pins σ H s → (∀ b ∈ fp, FpOk X pins H b) → tn i s.heap → J.go i H →
   wpAny (model P w) X.A (pyNext (.ref it)) (fun r s1 => ∃ u, r = some u ∧
     wpAny (model P w) X.A (letOwnedTupleGo tg (.ref it) u) (fun _ s2 => ∃ x H', Inv X pins σ H' s2 ∧ RelV x u ∧ J.yld i H x H' ∧ tn (i + 1) s2.heap ∧ ∀ b ∈ fp, H' b = none) E s1) E s
 done : ∀ (X : Cx), X.prog = P → X.w = w → X.K = K → X.calm = true → ∀ (i : Nat) (pins : List (Addr × Obj)) (s : Shared) (σ : St) (H : Hp) (E : Value → Shared → Prop), Inv X pins σ H s → (∀ b ∈ fp, FpOk X pins H b) → tn i s.heap → J.stop i H →
   wpAny (model P w) X.A (pyNext (.ref it)) (fun r s1 => r = none ∧ Inv X pins σ H s1) E s
 self : ∀ (A : Around) (i : Nat) (s : Shared) (Q : Value → Shared → Prop) (E : Value → Shared → Prop), tn i s.heap → Q (.ref it) s → wpAny (model P w) A (pyIter (.ref it)) Q E s
abbrev TI := St → Hp → (It → Hp → Prop) → Prop
def PIE (X : Cx) (pins : List (Addr × Obj)) (σ : St) (tg : Expr) (R : It → Hp → Prop) (itv : Value) (s2 : Shared) : Prop :=
 ∃ (it : Addr) (fp : List Addr) (tn : Nat → Heap → Prop) (J : It) (H' : Hp), itv = .ref it ∧ Inv X pins σ H' s2 ∧ Turn X.prog X.w X.K tg J fp it tn ∧ tn 0 s2.heap ∧ (∀ b ∈ fp, FpOk X pins H' b) ∧ R J H'
def PI (X : Cx) (tg iter : Expr) (wi : TI) : Prop :=
 ∀ (pins : List (Addr × Obj)) (s : Shared) (σ : St) (H : Hp) (R : It → Hp → Prop), Inv X pins σ H s → wi σ H R →
   wpAny (model X.prog X.w) X.A (eval iter X.env) (fun v s1 => wpAny (model X.prog X.w) X.A (pyIter v) (PIE X pins σ tg R) X.xe s1) X.xe s
theorem go_of {M : Model} {A : Around} {E : Value → Shared → Prop} {s : Shared} {tg : Expr} {it : Addr} {u : Value} {o : Obj} {n : String} {vs : Array Value} {Q : Unit → Shared → Prop} (ho : s.heap.get? it = some o) (hc : o.cls = .type n) (hd : o.data = .fields vs)
   (hn : ["enumerate", "zip", "dict_itemiterator", "dict_reverseitemiterator", "odict_iterator", "itertools.zip_longest", "itertools.pairwise"].contains n = false) (hQ : Q () s) : wpAny M A (letOwnedTupleGo tg (.ref it) u) Q E s := by
 unfold letOwnedTupleGo
 cases tg <;> first
   | exact wpAny_pure hQ
   | (cases u <;> first
       | exact wpAny_pure hQ
       | (refine wpAny_bind (wpAny_load ho ?_)
          rw [hc, hd]
          show wpAny M A (if (["enumerate", "zip", "dict_itemiterator", "dict_reverseitemiterator", "odict_iterator", "itertools.zip_longest", "itertools.pairwise"].contains n && vs[0]? == some (rawInt _)) = true then _ else _) Q E s
          rw [if_neg (by intro h; rw [hn, Bool.false_and] at h; cases h)]
          exact wpAny_pure hQ))
def Itl (K : PySem.W.Frag) (a : Addr) : It :=
 ⟨fun i H => ∃ xs x, SqL K H a xs ∧ xs[i]? = some x, fun i H x H' => H' = H ∧ ∀ xs, SqL K H a xs → xs[i]? = some x, fun i H => ∃ xs, SqL K H a xs ∧ xs.length ≤ i⟩
def Itt (K : PySem.W.Frag) (a : Addr) : It :=
 ⟨fun i H => ∃ xs x, SqT K H a xs ∧ xs[i]? = some x, fun i H x H' => H' = H ∧ ∀ xs, SqT K H a xs → xs[i]? = some x, fun i H => ∃ xs, SqT K H a xs ∧ xs.length ≤ i⟩
def Itr (lo : Int) (n : Nat) : It := ⟨fun i _ => i < n, fun i H x H' => H' = H ∧ x = .int (lo + i), fun i _ => n ≤ i⟩
theorem z128 {P : Program} {w : World} {K : PySem.W.Frag} {tg : Expr} (a it : Addr) : Turn P w K tg (Itl K a) [it] it (fun i h => h.IsListIter it a i) where
 mem := by simp
 obj := fun i h st b hb => by
   have e : b = it := by simpa using hb
   subst e
   obtain ⟨o, e, c, d⟩ := st
   exact ⟨o, e, fun v z => by rw [d] at z; cases z⟩
 keep := fun i h h' st k => st.at fun o e => k it (by simp) o e
 item := by
   intro X hP hw hK hc i pins s σ H E I hf st hg
   subst hP hw hK
   obtain ⟨xs, x, hq, hx⟩ := hg
   obtain ⟨its, rv, p, hz⟩ := I.list hq
   obtain ⟨u, hu, ru⟩ := rv.get hx
   obtain ⟨f0, f1, f2, f3, f4, f5⟩ := hf it (by simp)
   refine wpAny_pyNext_list_item st p.isList (x := u) (by simpa using hu) fun h' st' sb => ?_
   have I1 : Inv X pins σ H { s with heap := h' } := I.turned (t' := s.toks) (fun b o hb e => (sb.2 b hb).trans e) f0 f1 f3 f4 f5
   obtain ⟨o, e, c, d⟩ := id st'
   exact ⟨u, rfl, go_of (s := { s with heap := h' }) e c d (by decide) ⟨x, H, I1, ru, ⟨rfl, fun ys hy => by rw [I.list_inj hy hq]; exact hx⟩, st', fun b hb => (hf b hb).1⟩⟩
 done := by
   intro X hP hw hK hc i pins s σ H E I hf st hg
   subst hP hw hK
   obtain ⟨xs, hq, hx⟩ := hg
   obtain ⟨its, rv, p, hz⟩ := I.list hq
   obtain ⟨f0, f1, f2, f3, f4, f5⟩ := hf it (by simp)
   have hl := rv.length
   exact wpAny_pyNext_list_end (I.ok.hd hc) st p.isList (by simp; omega) fun h' eb => ⟨rfl, I.turned (t' := s.toks) (fun b o hb e => eb b o hb e) f0 f1 f3 f4 f5⟩
 self := fun _ _ _ _ _ st h => wpAny_pyIter_listiter st h
theorem zf6 {P : Program} {w : World} {K : PySem.W.Frag} {tg : Expr} (a it : Addr) : Turn P w K tg (Itt K a) [it] it (fun i h => h.IsTupleIter it a i) where
 mem := by simp
 obj := fun i h st b hb => by
   have e : b = it := by simpa using hb
   subst e
   obtain ⟨o, e, c, d⟩ := st
   exact ⟨o, e, fun v z => by rw [d] at z; cases z⟩
 keep := fun i h h' st k => st.at fun o e => k it (by simp) o e
 item := by
   intro X hP hw hK hc i pins s σ H E I hf st hg
   subst hP hw hK
   obtain ⟨xs, x, hq, hx⟩ := hg
   obtain ⟨its, rv, p, hz⟩ := I.tuple hq
   obtain ⟨u, hu, ru⟩ := rv.get hx
   obtain ⟨f0, f1, f2, f3, f4, f5⟩ := hf it (by simp)
   refine wpAny_pyNext_tuple_item st (show s.heap.IsTuple a its.toArray from p) (x := u) (by simpa using hu) fun h' st' sb => ?_
   have I1 : Inv X pins σ H { s with heap := h' } := I.turned (t' := s.toks) (fun b o hb e => (sb.2 b hb).trans e) f0 f1 f3 f4 f5
   obtain ⟨o, e, c, d⟩ := id st'
   exact ⟨u, rfl, go_of (s := { s with heap := h' }) e c d (by decide) ⟨x, H, I1, ru, ⟨rfl, fun ys hy => by rw [I.tuple_inj hy hq]; exact hx⟩, st', fun b hb => (hf b hb).1⟩⟩
 done := by
   intro X hP hw hK hc i pins s σ H E I hf st hg
   subst hP hw hK
   obtain ⟨xs, hq, hx⟩ := hg
   obtain ⟨its, rv, p, hz⟩ := I.tuple hq
   obtain ⟨f0, f1, f2, f3, f4, f5⟩ := hf it (by simp)
   have hl := rv.length
   exact wpAny_pyNext_tuple_end (I.ok.hd hc) st (show s.heap.IsTuple a its.toArray from p) (by simp; omega) fun h' eb => ⟨rfl, I.turned (t' := s.toks) (fun b o hb e => eb b o hb e) f0 f1 f3 f4 f5⟩
 self := fun _ _ _ _ _ st h => wpAny_pyIter_tupleiter st h
theorem zf7 {P : Program} {w : World} {K : PySem.W.Frag} {tg : Expr} (it : Addr) (lo : Int) (n : Nat) : Turn P w K tg (Itr lo n) [it] it (fun i h => IsRangeIter h it (lo + (i : Nat) * 1) ((n : Int) - (i : Nat)) 1) where
 mem := by simp
 obj := fun i h st b hb => by
   have e : b = it := by simpa using hb
   subst e
   exact ⟨_, st, fun v z => by
     have z' : Data.fields _ = Data.cell v := z
     cases z'⟩
 keep := fun i h h' st k => k it (by simp) _ st
 item := by
   intro X hP hw hK hc i pins s σ H E I hf st hg
   subst hP hw hK
   obtain ⟨f0, f1, f2, f3, f4, f5⟩ := hf it (by simp)
   have W := Walks.range (prog := X.prog) (w := X.w) (I.ok.hd hc) it lo 1 n
   refine W.item i s _ _ hg st fun v h' tk hv st' kk => ?_
   obtain ⟨t, rfl⟩ := hv
   have I1 : Inv X pins σ H { s with heap := h', toks := tk } := I.turned (fun b o hb e => kk b o (by simpa using hb) e) f0 f1 f3 f4 f5
   refine ⟨_, rfl, go_of (s := { s with heap := h', toks := tk }) (n := "range_iterator") st' rfl rfl (by decide) ⟨.int (lo + i), H, I1, ⟨t, ?_⟩, ⟨rfl, rfl⟩, st', fun b hb => (hf b hb).1⟩⟩
   rw [Int.mul_one]
 done := by
   intro X hP hw hK hc i pins s σ H E I hf st hg
   subst hP hw hK
   obtain ⟨f0, f1, f2, f3, f4, f5⟩ := hf it (by simp)
   exact wpAny_pyNext_range_end (I.ok.hd hc) st (by have : n ≤ i := hg; omega) fun h' eb => ⟨rfl, I.turned (t' := s.toks) (fun b o hb e => eb b o hb e) f0 f1 f3 f4 f5⟩
 self := fun _ _ _ _ _ st h => wpAny_pyIter_rangeiter st h
section
variable {X : Cx} {tg : Expr}
theorem zf8 {pins : List (Addr × Obj)} {σ : St} {H : Hp} {s : Shared} {R : It → Hp → Prop} {E : Value → Shared → Prop} {lo hi : Int} {t u v : Tok} {tk : Nat} (I : Inv X pins σ H s) (h1 : -(2 ^ 62) ≤ lo) (h2 : lo < 2 ^ 62) (h3 : -(2 ^ 62) ≤ hi) (h4 : hi < 2 ^ 62)
   (q : R (Itr lo (hi - lo).toNat) H) : wpAny (model X.prog X.w) X.A (pyIter (.ref s.heap.objs.size)) (PIE X pins σ tg R) E { s with heap := s.heap.push { cls := .type "range", data := .fields #[.int lo t, .int hi u, .int 1 v] }, toks := tk } := by
 refine wpAny_pyIter_range (IsRange.new ..) (small_one h1 h2 h3 h4) ?_
 have I1 : Inv X pins σ H { s with heap := s.heap.push { cls := .type "range", data := .fields #[.int lo t, .int hi u, .int 1 v] }, toks := tk } := I.kept fun b o e => Heap.get?_push_of_some _ e
 refine ⟨(s.heap.push { cls := .type "range", data := .fields #[.int lo t, .int hi u, .int 1 v] }).objs.size, [(s.heap.push { cls := .type "range", data := .fields #[.int lo t, .int hi u, .int 1 v] }).objs.size], _, _, H, rfl,
   I1.kept (t' := tk) fun b o e => Heap.get?_push_of_some _ e, zf7 _ lo (hi - lo).toNat, ?_, fun b hb => ?_, q⟩
 . have e1 : lo + ((0 : Nat) : Int) * 1 = lo := by simp
   have e2 : (((hi - lo).toNat : Nat) : Int) - ((0 : Nat) : Int) = Builtin.Range.rangeSize lo hi 1 := by rw [rangeSize_one]; split <;> omega
   show IsRangeIter _ _ (lo + ((0 : Nat) : Int) * 1) ((((hi - lo).toNat : Nat) : Int) - ((0 : Nat) : Int)) 1
   rw [e1, e2]
   exact Heap.get?_push_size _ rfl
 . have e : b = (s.heap.push { cls := .type "range", data := .fields #[.int lo t, .int hi u, .int 1 v] }).objs.size := by simpa using hb
   subst e
   exact I1.fpOk (Nat.le_refl _) (I1.hok.fresh (Nat.le_refl _))
def tFor (wi : TI) (g : TG) (tb : TS) : TS := fun D σ H => wi σ H fun J H1 => ∃ W : Nat → Nat → St → Hp → Prop, (∃ m, W 0 m σ H1) ∧ ∀ i m σ H, W i m σ H →
 (J.stop i H ∧ D.nx σ H) ∨ (J.go i H ∧ ∃ N : St → Hp → Prop, (∀ σ' H', N σ' H' → ∃ m', m' < m ∧ W (i + 1) m' σ' H') ∧ ∀ x H', J.yld i H x H' → g x σ H' fun σ2 H2 => tb { D with nx := N, ct := N, bk := D.nx } σ2 H2)
def pinsAt (fp : List Addr) (h : Heap) : List (Addr × Obj) := fp.filterMap fun b => (h.get? b).map fun o => (b, o)
theorem z4e {fp : List Addr} {h : Heap} {b : Addr} {o : Obj} (hb : b ∈ fp) (e : h.get? b = some o) : (b, o) ∈ pinsAt fp h := List.mem_filterMap.mpr ⟨b, hb, by rw [e]; rfl⟩
theorem z129 {fp : List Addr} {h : Heap} {p : Addr × Obj} (hp : p ∈ pinsAt fp h) : p.1 ∈ fp ∧ h.get? p.1 = some p.2 := by
 obtain ⟨b, hb, e⟩ := List.mem_filterMap.mp hp
 cases q : h.get? b with
 | none => rw [q] at e; cases e
 | some o =>
   rw [q] at e
   have e' : (b, o) = p := Option.some.inj e
   subst e'
   exact ⟨hb, q⟩
theorem Inv.pinned {pins : List (Addr × Obj)} {σ : St} {H : Hp} {s : Shared} {fp : List Addr} (I : Inv X pins σ H s) (hf : ∀ b ∈ fp, FpOk X pins H b) (ho : ∀ b ∈ fp, ∃ o, s.heap.get? b = some o ∧ ∀ v, o.data ≠ .cell v) : Inv X (pins ++ pinsAt fp s.heap) σ H s :=
 I.pins_of fun p hp => (List.mem_append.mp hp).elim (fun z => I.pin p (List.mem_append_right _ z)) fun z => by
   obtain ⟨hb, e⟩ := z129 z
   obtain ⟨f0, f1, f2, _⟩ := hf p.1 hb
   obtain ⟨o, e', d⟩ := ho p.1 hb
   rw [e] at e'; cases e'
   exact ⟨e, f0, f1, f2, d⟩
theorem Inv.unpinned {pins pl : List (Addr × Obj)} {σ : St} {H : Hp} {s : Shared} (I : Inv X (pins ++ pl) σ H s) : Inv X pins σ H s := I.pins_of fun p hp => I.pin p (List.mem_append_right _ (List.mem_append_left _ hp))
theorem ps_for {iter : Expr} {body : List Stmt} {wi : TI} {g : TG} {tb : TS} {pos : Pos} (hp : PassesOwn (model X.prog X.w) X.A X.env X.xe) (hc : X.calm = true) (hi : PI X tg iter wi) (hg : PG X tg g) (hb : PSs X body tb)
   (hs : ∀ x, foldedSetIterable iter X.env x = pure x := by intro _; rfl) : PS X (.For tg iter body [] pos) (tFor wi g tb) := by
 intro pins s σ H D I h
 refine wpAny_For (thn (hi pins s σ H _ I h) fun v s1 h1 => thn h1 fun itv s2 h2 => ?_) hs
 obtain ⟨it, fp, tn, J, H2, e, I2, T, st2, f2, W, ⟨m0, w0⟩, turn⟩ := h2
 subst e
 -- what stays true of the iterator's objects through the loop
 have stat : ∀ {H' : Hp}, (∀ b ∈ fp, H' b = none) → ∀ b ∈ fp, FpOk X pins H' b := fun hn b hb => ⟨hn b hb, (f2 b hb).2⟩
 refine codeAny_forLoop_any (fun n s' => ∃ i σ' H', Inv X pins σ' H' s' ∧ tn i s'.heap ∧ (∀ b ∈ fp, H' b = none) ∧ W i n σ' H') ?_ m0 ⟨0, σ, H2, I2, st2, fun b hb => (f2 b hb).1, w0⟩
 rintro n s3 ⟨i, σ3, H3, I3, st3, fr3, w3⟩
 rcases turn i n σ3 H3 w3 with ⟨stop, qn⟩ | ⟨go, N, hN, step⟩
 . refine wpAny_passesOwn hp (thn (T.done X rfl rfl rfl hc i pins s3 σ3 H3 X.xe I3 (stat fr3) st3 stop) fun r s4 ⟨hr, I4⟩ => ?_)
   subst hr
   exact wpAny_execs_nil ⟨σ3, H3, I4, qn⟩
 . refine wpAny_passesOwn hp (thn (T.item X rfl rfl rfl hc i pins s3 σ3 H3 X.xe I3 (stat fr3) st3 go) fun r s4 ⟨u, hr, h4⟩ => ?_)
   subst hr
   refine wpAny_passesOwn hp (thn h4 fun _ s5 ⟨x, H5, I5, r5, y5, st5, fr5⟩ => ?_)
   have I5' := I5.pinned (stat fr5) (T.obj _ _ st5)
   refine wpAny_passesOwn hp (thn (hg _ s5 σ3 H5 x u _ I5' r5 (step x H5 y5)) fun _ s6 ⟨σ6, H6, I6, q6⟩ => ?_)
   refine wpAny_passesOwn hp (thn (hb _ s6 σ6 H6 _ I6 q6) fun f s7 q7 => ?_)
   have again : ∀ {σ7 : St} {H7 : Hp}, Inv X (pins ++ pinsAt fp s5.heap) σ7 H7 s7 → N σ7 H7 → ∃ m, m < n ∧ ∃ i σ' H', Inv X pins σ' H' s7 ∧ tn i s7.heap ∧ (∀ b ∈ fp, H' b = none) ∧ W i m σ' H' := fun {σ7 H7} I7 n7 => by
     obtain ⟨m', hm, w7⟩ := hN σ7 H7 n7
     refine ⟨m', hm, i + 1, σ7, H7, I7.unpinned, T.keep _ _ _ st5 fun b hb o e => (I7.pin (b, o) (List.mem_append_right _ (List.mem_append_right _ (z4e hb e)))).1, fun b hb => ?_, w7⟩
     obtain ⟨o, e, d⟩ := T.obj _ _ st5 b hb
     exact (I7.pin (b, o) (List.mem_append_right _ (List.mem_append_right _ (z4e hb e)))).2.1
   cases f with
   | next => obtain ⟨σ7, H7, I7, n7⟩ := q7; exact again I7 n7
   | cont => obtain ⟨σ7, H7, I7, n7⟩ := q7; exact again I7 n7
   | brk => obtain ⟨σ7, H7, I7, q7⟩ := q7; exact ⟨σ7, H7, I7.unpinned, q7⟩
   | ret v => obtain ⟨x7, σ7, H7, I7, r7, q7⟩ := q7; exact ⟨x7, σ7, H7, I7.unpinned, r7, q7⟩
end
abbrev R2 := V → V → Hp → VK → Prop
def OpR (X : Cx) (f : Value → Value → Sem Value) (r : R2) : Prop :=
 ∀ (pins : List (Addr × Obj)) (s : Shared) (σ : St) (H : Hp) (x y : V) (v u : Value) (Q : VK), Inv X pins σ H s → RelV x v → RelV y u → r x y H Q →
   wpAny (model X.prog X.w) X.A (f v u) (EP X pins σ Q) X.xe s
def UnR (X : Cx) (f : Value → Sem Value) (r : V → Hp → VK → Prop) : Prop :=
 ∀ (pins : List (Addr × Obj)) (s : Shared) (σ : St) (H : Hp) (x : V) (v : Value) (Q : VK), Inv X pins σ H s → RelV x v → r x H Q →
   wpAny (model X.prog X.w) X.A (f v) (EP X pins σ Q) X.xe s
def CallR (X : Cx) (f : Value) (r : List V → Hp → VK → Prop) : Prop :=
 ∀ (pins : List (Addr × Obj)) (s : Shared) (σ : St) (H : Hp) (xs : List V) (us : List Value) (Q : VK), Inv X pins σ H s → Vals xs us → r xs H Q →
   wpAny (model X.prog X.w) X.A (call f us) (EP X pins σ Q) X.xe s
def TruR (X : Cx) (r : V → Hp → (Bool → Hp → Prop) → Prop) : Prop :=
 ∀ (pins : List (Addr × Obj)) (s : Shared) (σ : St) (H : Hp) (x : V) (v : Value) (Q : Bool → Hp → Prop), Inv X pins σ H s → RelV x v → r x H Q →
   wpAny (model X.prog X.w) X.A (truthy v) (TP X pins σ Q) X.xe s
def tOp (r : R2) (ta tb : TE) : TE := fun σ H Q => ta σ H fun x H1 => tb σ H1 fun y H2 => r x y H2 Q
def tUn (r : V → Hp → VK → Prop) (ta : TE) : TE := fun σ H Q => ta σ H fun x H1 => r x H1 Q
def rI (C : Int → Int → Prop) (g : Int → Int → V) : R2 := fun x y H Q => ∃ i j, x = .int i ∧ y = .int j ∧ C i j ∧ Q (g i j) H
def rI0 (g : Int → Int → V) : R2 := fun x y H Q => ∃ i j, x = .int i ∧ y = .int j ∧ Q (g i j) H
def rU (g : Int → V) : V → Hp → VK → Prop := fun x H Q => ∃ i, x = .int i ∧ Q (g i) H
section
variable {X : Cx} {a b c : Expr} {ta tb tc : TE} {pos : Pos}
theorem binT (ha : PE X a ta) (hb : PE X b tb) {pins : List (Addr × Obj)} {s : Shared} {σ : St} {H : Hp} {R : V → V → Hp → Prop} (I : Inv X pins σ H s)
   (h : ta σ H fun x H1 => tb σ H1 fun y H2 => R x y H2) {Q : Value → Shared → Prop} {f : Value → Value → Sem Value}
   (hf : ∀ v u s2 x y H2, Inv X pins σ H2 s2 → RelV x v → RelV y u → R x y H2 → wpAny (model X.prog X.w) X.A (f v u) Q X.xe s2) :
   wpAny (model X.prog X.w) X.A (eval a X.env) (fun v s₁ => wpAny (model X.prog X.w) X.A (eval b X.env) (fun u s₂ => wpAny (model X.prog X.w) X.A (f v u) Q X.xe s₂) X.xe s₁) X.xe s := by
 refine thn (ha pins s σ H _ I h) fun v s1 ⟨x, H1, I1, r1, q1⟩ => ?_
 refine thn (hb pins s1 σ H1 _ I1 q1) fun u s2 ⟨y, H2, I2, r2, q2⟩ => ?_
 exact hf v u s2 x y H2 I2 r1 r2 q2
theorem pe_op {op : Operator} {r : R2} (ho : OpR X (binaryOp op) r) (ha : PE X a ta) (hb : PE X b tb) : PE X (.BinOp a op b pos) (tOp r ta tb) := by
 intro pins s σ H Q I h
 exact wpAny_BinOp (binT ha hb I h fun v u s2 x y H2 I2 rx ry q => ho pins s2 σ H2 x y v u Q I2 rx ry q)
theorem pe_un {op : UnaryOp} {r : V → Hp → VK → Prop} (ho : UnR X (unaryOp op) r) (ha : PE X a ta) : PE X (.UnaryOp op a pos) (tUn r ta) := by
 intro pins s σ H Q I h
 exact UnaryOp_ (thn (ha pins s σ H _ I h) fun v s1 ⟨x, H1, I1, r1, q1⟩ => ho pins s1 σ H1 x v Q I1 r1 q1)
theorem opI {f : Value → Value → Sem Value} {C : Int → Int → Prop} {g : Int → Int → Int}
   (rule : ∀ (i j : Int) (t u : Tok) (s : Shared) (Q : Value → Shared → Prop) (E : Value → Shared → Prop), C i j → Q (.int (g i j) s.toks) { s with toks := s.toks + 1 } → wpAny (model X.prog X.w) X.A (f (.int i t) (.int j u)) Q E s) :
   OpR X f (rI C fun i j => .int (g i j)) := by
 intro pins s σ H x y v u Q I rx ry h
 obtain ⟨i, j, rfl, rfl, hc, q⟩ := h
 obtain ⟨t, rfl⟩ := rx
 obtain ⟨t', rfl⟩ := ry
 exact rule i j t t' s _ _ hc ⟨.int (g i j), H, I.tok _, ⟨_, rfl⟩, q⟩
theorem opI0 {f : Value → Value → Sem Value} {g : Int → Int → Int}
   (rule : ∀ (i j : Int) (t u : Tok) (s : Shared) (Q : Value → Shared → Prop) (E : Value → Shared → Prop), Q (.int (g i j) s.toks) { s with toks := s.toks + 1 } → wpAny (model X.prog X.w) X.A (f (.int i t) (.int j u)) Q E s) :
   OpR X f (rI0 fun i j => .int (g i j)) := by
 intro pins s σ H x y v u Q I rx ry h
 obtain ⟨i, j, rfl, rfl, q⟩ := h
 obtain ⟨t, rfl⟩ := rx
 obtain ⟨t', rfl⟩ := ry
 exact rule i j t t' s _ _ ⟨.int (g i j), H, I.tok _, ⟨_, rfl⟩, q⟩
theorem opB0 {f : Value → Value → Sem Value} {g : Int → Int → Bool}
   (rule : ∀ (i j : Int) (t u : Tok) (s : Shared) (Q : Value → Shared → Prop) (E : Value → Shared → Prop), Q (.bool (g i j)) s → wpAny (model X.prog X.w) X.A (f (.int i t) (.int j u)) Q E s) :
   OpR X f (rI0 fun i j => .bl (g i j)) := by
 intro pins s σ H x y v u Q I rx ry h
 obtain ⟨i, j, rfl, rfl, q⟩ := h
 obtain ⟨t, rfl⟩ := rx
 obtain ⟨t', rfl⟩ := ry
 exact rule i j t t' s _ _ ⟨.bl (g i j), H, I, rfl, q⟩
def CDiv (i j : Int) : Prop := 0 < j ∧ j < 1073741824
def CPow (i j : Int) : Prop := 0 ≤ j ∧ j ≤ 1000000 ∧ i.natAbs < 2 ^ 64
def CMul (i j : Int) : Prop := (-(2 ^ 64) < i ∧ i < 2 ^ 64) ∨ (-(2 ^ 64) < j ∧ j < 2 ^ 64)
theorem CMul.ok {i j : Int} (h : CMul i j) : IntMulOk i j := by
 rcases h with ⟨h1, h2⟩ | ⟨h1, h2⟩
 . exact .of_left (intBits_le_64 h1 h2)
 . exact .of_right (intBits_le_64 h1 h2)
theorem op_add : OpR X (binaryOp .Add) (rI0 fun i j => .int (i + j)) := opI0 fun _ _ _ _ _ _ _ q => add_int q
theorem op_sub : OpR X (binaryOp .Sub) (rI0 fun i j => .int (i - j)) := opI0 fun _ _ _ _ _ _ _ q => sub_int q
theorem op_mul : OpR X (binaryOp .Mult) (rI CMul fun i j => .int (i * j)) := opI fun _ _ _ _ _ _ _ hc q => mul_int q hc.ok
theorem op_fdiv : OpR X (binaryOp .FloorDiv) (rI CDiv fun i j => .int (i / j)) := opI fun i j _ _ _ _ _ hc q => by
 have h1 : (0 : Int) < j := hc.1
 have h2 : j < 1073741824 := hc.2
 exact floordiv_int (by omega) (by rw [Int.fdiv_eq_ediv_of_nonneg i (by omega)]; exact q) (.inl (PyProof.noPylong_small (by omega)))
theorem op_mod : OpR X (binaryOp .Mod) (rI (fun _ j => 0 < j) fun i j => .int (i % j)) := opI fun i j _ _ _ _ _ hc q => by
 have h1 : (0 : Int) < j := hc
 exact mod_int' (by omega) (by rw [Int.fmod_eq_emod_of_nonneg i (by omega)]; exact q)
theorem unI {f : Value → Sem Value} {g : Int → Int}
   (rule : ∀ (i : Int) (t : Tok) (s : Shared) (Q : Value → Shared → Prop) (E : Value → Shared → Prop), Q (.int (g i) s.toks) { s with toks := s.toks + 1 } → wpAny (model X.prog X.w) X.A (f (.int i t)) Q E s) :
   UnR X f (rU fun i => .int (g i)) := by
 intro pins s σ H x v Q I rx h
 obtain ⟨i, rfl, q⟩ := h
 obtain ⟨t, rfl⟩ := rx
 exact rule i t s _ _ ⟨.int (g i), H, I.tok _, ⟨_, rfl⟩, q⟩
theorem un_neg : UnR X (unaryOp .USub) (rU fun i => .int (-i)) := unI fun _ _ _ _ _ q => neg_int q
end
section
variable {X : Cx} {a b c : Expr} {ta tb tc : TE} {pos : Pos}
theorem fin_bl {pins : List (Addr × Obj)} {σ : St} {H : Hp} {s : Shared} {Q : VK} {k k' : Bool} (I : Inv X pins σ H s) (q : Q (.bl k) H) (e : k = k') : EP X pins σ Q (.bool k') s := by
 subst e
 exact ⟨.bl k, H, I, rfl, q⟩
theorem op_lt : OpR X (compareOp .Lt) (rI0 fun i j => .bl (decide (i < j))) := opB0 fun _ _ _ _ _ _ _ q => lt_int q
theorem op_le : OpR X (compareOp .LtE) (rI0 fun i j => .bl (decide (i ≤ j))) := opB0 fun _ _ _ _ _ _ _ q => le_int q
theorem op_gt : OpR X (compareOp .Gt) (rI0 fun i j => .bl (decide (j < i))) := opB0 fun _ _ _ _ _ _ _ q => gt_int q
theorem OpR.or {f : Value → Value → Sem Value} {r r' : R2} (h : OpR X f r) (h' : OpR X f r') : OpR X f (fun x y H Q => r x y H Q ∨ r' x y H Q) := by
 intro pins s σ H x y v u Q I rx ry q
 rcases q with q | q
 . exact h pins s σ H x y v u Q I rx ry q
 . exact h' pins s σ H x y v u Q I rx ry q
theorem nomark (b : Expr) {op : CmpOp} (h : op ≠ .In := by decide) (h2 : op ≠ .NotIn := by decide) : behindInMarks op b = false := by
 have e1 : (op == CmpOp.In) = false := by cases op <;> first | rfl | exact absurd rfl h
 have e2 : (op == CmpOp.NotIn) = false := by cases op <;> first | rfl | exact absurd rfl h2
 cases b <;> simp [behindInMarks, e1, e2]
theorem z1b0 {op : CmpOp} {r : R2} (ho : OpR X (compareOp op) r) (ha : PE X a ta) (hb : PE X b tb) (hm : behindInMarks op b = false) : PE X (.Compare a [op] [b] pos) (tOp r ta tb) := by
 intro pins s σ H Q I h
 exact wpAny_Compare1 (binT ha hb I h fun v u s2 x y H2 I2 rx ry q => ho pins s2 σ H2 x y v u Q I2 rx ry q) hm
def TruV (K : PySem.W.Frag) (x : V) (H : Hp) (k : Bool) : Prop :=
 match x with
 | .non => k = false
 | .bl b => k = b
 | .int i => k = (i != 0)
 | .str y => y.length ≤ sizeLine ∧ k = ((y.length : Int) != 0)
 | .byt y => y.size ≤ sizeLine ∧ k = ((y.size : Int) != 0)
 | .ref p => (∃ xs, SqL K H p xs ∧ k = !xs.isEmpty) ∨ (∃ xs, SqT K H p xs ∧ k = !xs.isEmpty) ∨ ∃ kvs, H p = some (.dK kvs) ∧ k = !kvs.isEmpty
 | _ => False
theorem zf9 {κ : Type} {kvs : List (κ × V)} {vs : List (κ × Value)} (r : KV kvs vs) : (!vs.isEmpty) = !kvs.isEmpty := by
 cases r <;> rfl
theorem z9c {xs : List V} {its : List Value} (r : Vals xs its) : (!its.toArray.isEmpty) = !xs.isEmpty := by
 cases r <;> simp
theorem line63 : (sizeLine : Nat) < 2 ^ 63 := by rw [sizeLine_eq]; decide
theorem tru_ok : TruR X (fun x H Q => ∃ k, TruV X.K x H k ∧ Q k H) := by
 intro pins s σ H x v Q I rx h
 obtain ⟨k, e, q⟩ := h
 have hl := line63
 have hs : sizeLine = 16777216 := sizeLine_eq
 cases x with
 | non =>
   cases rx
   have e' : k = false := e
   subst e'
   exact truthy_none ⟨H, I, q⟩
 | bl b =>
   cases rx
   have e' : k = b := e
   subst e'
   exact wpAny_truthy_bool ⟨H, I, q⟩
 | int i =>
   obtain ⟨t, rfl⟩ := rx
   have e' : k = (i != 0) := e
   subst e'
   exact PySem.P.truthy_int ⟨H, I, q⟩
 | str y =>
   obtain ⟨t, rfl⟩ := rx
   obtain ⟨hy, e'⟩ : y.length ≤ sizeLine ∧ k = ((y.length : Int) != 0) := e
   subst e'
   exact PySem.P.truthy_str (by omega) ⟨H, I.tok _, q⟩
 | byt y =>
   obtain ⟨t, rfl⟩ := rx
   obtain ⟨hy, e'⟩ : y.size ≤ sizeLine ∧ k = ((y.size : Int) != 0) := e
   subst e'
   exact PySem.W.truthy_bytes (by omega) ⟨H, I.tok _, q⟩
 | ref p =>
   cases rx
   have e' : (∃ xs, SqL X.K H p xs ∧ k = !xs.isEmpty) ∨ (∃ xs, SqT X.K H p xs ∧ k = !xs.isEmpty) ∨ ∃ kvs, H p = some (.dK kvs) ∧ k = !kvs.isEmpty := e
   rcases e' with ⟨xs, hx, e'⟩ | ⟨xs, hx, e'⟩ | ⟨kvs, hx, e'⟩
   . subst e'
     obtain ⟨its, r, pl, hz⟩ := I.list hx
     have hlen := r.length
     exact wpAny_truthy_list pl.isList (by simp only [List.size_toArray]; omega) ⟨H, I.tok _, by rw [z9c r]; exact q⟩
   . subst e'
     obtain ⟨its, r, pl, hz⟩ := I.tuple hx
     have hlen := r.length
     exact truthy_tuple pl (by simp only [List.size_toArray]; omega) ⟨H, I.tok _, by rw [z9c r]; exact q⟩
   . subst e'
     obtain ⟨hz, hS, vs, r, m⟩ : kvs.length ≤ sizeLine ∧ (p == sysModules) = false ∧ ∃ vs, KV kvs vs ∧ s.heap.DictOf (z25 X.prog X.w) p vs := I.hok p _ hx
     have hlen : kvs.length = vs.length := Paired.length r
     exact wpAny_truthy_dict hS m (by omega) ⟨H, I.tok _, by rw [zf9 r]; exact q⟩
 | _ => exact (show False from e).elim
theorem vals1 {x : V} {us : List Value} (r : Vals [x] us) : ∃ u, us = [u] ∧ RelV x u := by
 cases r with
 | cons r1 r2 => cases r2; exact ⟨_, rfl, r1⟩
theorem vals2 {x y : V} {us : List Value} (r : Vals [x, y] us) : ∃ u w', us = [u, w'] ∧ RelV x u ∧ RelV y w' := by
 cases r with
 | cons r1 r2 =>
   cases r2 with
   | cons r3 r4 => cases r4; exact ⟨_, _, rfl, r1, r3⟩
theorem z12a (hc : X.calm = true) : CallR X (.builtin "max") (fun xs H Q => ∃ i j, xs = [.int i, .int j] ∧ Q (.int (if j > i then j else i)) H) := by
 intro pins s σ H xs us Q I r h
 obtain ⟨i, j, rfl, q⟩ := h
 obtain ⟨u, w', rfl, ⟨t, rfl⟩, ⟨t', rfl⟩⟩ := vals2 r
 refine max_two_ints (I.ok.hd hc) fun h' tk k => ⟨_, H, I.kept k, ?_, q⟩
 by_cases hj : j > i
 . rw [if_pos hj, if_pos hj]; exact ⟨_, rfl⟩
 . rw [if_neg hj, if_neg hj]; exact ⟨_, rfl⟩
theorem z12b (hc : X.calm = true) : CallR X (.builtin "min") (fun xs H Q => ∃ i j, xs = [.int i, .int j] ∧ Q (.int (if j < i then j else i)) H) := by
 intro pins s σ H xs us Q I r h
 obtain ⟨i, j, rfl, q⟩ := h
 obtain ⟨u, w', rfl, ⟨t, rfl⟩, ⟨t', rfl⟩⟩ := vals2 r
 refine min_two_ints (I.ok.hd hc) fun h' tk k => ⟨_, H, I.kept k, ?_, q⟩
 by_cases hj : j < i
 . rw [if_pos hj, if_pos hj]; exact ⟨_, rfl⟩
 . rw [if_neg hj, if_neg hj]; exact ⟨_, rfl⟩
end
structure ObjM (h : Heap) (x dx C : Addr) (mA : Str → Option Value) : Prop where
 obj : h.get? x = some (PySem.W.instObj C dx)
 ns : h.Ns1 dx mA
 ne : dx ≠ x
theorem z12c {h : Heap} {dx : Addr} {mA : Str → Option Value} (n : h.Ns1 dx mA) : ∃ od, h.get? dx = some od ∧ ∀ name, PySem.W.lookIn name od = some (mA name) := by
 obtain ⟨o, es, ep, ho, hd, hk, _, hm⟩ := n
 refine ⟨o, ho, fun name => ?_⟩
 have e := hm name
 unfold nsFind findBy at e
 rw [← Array.find?_toList] at e
 unfold PySem.W.lookIn
 rw [hd]
 dsimp only
 split
 . rename_i y q
   rw [q] at e
   exact congrArg some e
 . rename_i q
   rw [q] at e
   have a : es.toList.any (·.refKey) = false := by
     rw [List.any_eq_false]
     intro y hy
     obtain ⟨z, t, hkey⟩ := hk y (Array.mem_toList_iff.mp hy)
     simp [DictEntry.refKey, hkey]
   have a' : ¬ es.toList.any (·.refKey) = true := by rw [a]; exact Bool.false_ne_true
   rw [if_neg a']
   exact congrArg some e
theorem ObjM.look {h : Heap} {x dx C : Addr} {mA : Str → Option Value} (I : ObjM h x dx C mA) : ∃ od, PySem.W.InstAt h x (PySem.W.instObj C dx) C (some od) ∧ ∀ name, PySem.W.lookIn name od = some (mA name) :=
 let ⟨od, ho, hl⟩ := z12c I.ns
 ⟨od, ⟨I.obj, rfl, rfl, ho⟩, hl⟩
theorem RelO.some_of {v : V} {o : Option Value} (r : RelO (some v) o) : ∃ u, o = some u ∧ RelV v u := by
 cases o with
 | none => exact (show False from r).elim
 | some u => exact ⟨u, rfl, r⟩
section
variable {P : Program} {w : World} {H H' : Hp} {h h' : Heap} {a C dx : Addr} {fs fs' : List (Str × V)}
theorem z1b1 (hok : HOk P w H h) (e : H a = some (.ins C dx fs)) : ∃ mA, ObjM h a dx C mA ∧ (∀ f, RelO (fs.lookup f) (mA f)) ∧ PySem.Within mA (fs.map (·.1)) ∧ fs.length ≤ 1000 ∧ H dx = some (.own a) := by
 obtain ⟨d, z, ne, ob, mA, n, r, q⟩ := (show ObjOk P w H h a (.ins C dx fs) from hok a _ e)
 exact ⟨mA, ⟨ob, n, ne⟩, r, q, z, d⟩
end
structure Cls (K : PySem.W.Frag) (C : Addr) : Prop where
 pg : PySem.W.plainGet K C Str.empty = true
 hd : PySem.W.hasDictIn K C = true
 po : PySem.W.plainOver K C = true
 sa : PySem.W.findIn K (.ref C) "__setattr__" = some (some (.builtin "object.__setattr__"))
theorem Cls.get {K : PySem.W.Frag} {C : Addr} (c : Cls K C) (f : Str) : PySem.W.plainGet K C f = true := c.pg
section
variable {X : Cx} {pins : List (Addr × Obj)} {σ : St} {H : Hp} {s : Shared} {A : Around} {E : Value → Shared → Prop} {Q : Value → Shared → Prop} {c : Value} {b : Bool}
inductive TyOf (K : PySem.W.Frag) (H : Hp) : V → Value → Prop where
 | non : TyOf K H .non (.type "NoneType")
 | bl (x : Bool) : TyOf K H (.bl x) (.type "bool")
 | int (i : Int) : TyOf K H (.int i) (.type "int")
 | str (x : Str) : TyOf K H (.str x) (.type "str")
 | flt (x : UInt64) : TyOf K H (.flt x) (.type "float")
 | lst {a : Addr} {xs : List V} (e : H a = some (.lst xs)) : TyOf K H (.ref a) (.type "list")
 | frz {a : Addr} {o : Obj} {xs : List V} (e : H a = some (.frz o (.lst xs))) : TyOf K H (.ref a) (.type "list")
 | tup {a : Addr} {xs : List V} (e : H a = some (.tup xs)) : TyOf K H (.ref a) (.type "tuple")
 | dK {a : Addr} {kvs : List (Key × V)} (e : H a = some (.dK kvs)) : TyOf K H (.ref a) (.type "dict")
 | dT {a : Addr} {kvs : List (List Key × V)} (e : H a = some (.dT kvs)) : TyOf K H (.ref a) (.type "dict")
 | ins {a C dx : Addr} {fs : List (Str × V)} (e : H a = some (.ins C dx fs)) (cl : Cls K C) (ha : PySem.W.findIn K (.ref C) "__class__" = some (some (.builtin "object.__class__")))
     (hn : PySem.W.specialIn K (.builtin "object.__class__") "__get__" = some (some (.builtin "getset_descriptor.__get__"))) (htk : PySem.W.takesIn K (.builtin "object.__class__") = some true)
     (hm : PySem.W.mroIn K C (.type "object") = some true) : TyOf K H (.ref a) (.ref C)
theorem z26 {x : V} {u t : Value} (I : Inv X pins σ H s) (rx : RelV x u) (ty : TyOf X.K H x t) (e : PySem.W.kitOne X.K t c = some b) (h : ∀ tk, Q (.bool b) { s with toks := tk }) :
   wpAny (model X.prog X.w) A (call (.builtin "isinstance") [u, c]) Q E s := by
 cases ty with
 | non => cases (show u = Value.none from rx); exact PySem.W.kia_one PySem.W.kitx_none I.kIn True.intro e (fun z => nomatch z) h
 | bl y => cases (show u = Value.bool y from rx); exact PySem.W.kia_one PySem.W.kitx_bool I.kIn True.intro e (fun z => nomatch z) h
 | int i => obtain ⟨t, q⟩ := (show ∃ t, u = Value.int i t from rx); cases q; exact PySem.W.kia_one PySem.W.kitx_int I.kIn True.intro e (fun z => nomatch z) h
 | str y => obtain ⟨t, q⟩ := (show ∃ t, u = Value.str y t from rx); cases q; exact PySem.W.kia_one PySem.W.kitx_str I.kIn True.intro e (fun z => nomatch z) h
 | flt y => obtain ⟨t, q⟩ := (show ∃ t, u = Value.float y t from rx); cases q; exact PySem.W.kia_one PySem.W.kitx_float I.kIn True.intro e (fun z => nomatch z) h
 | @lst a xs ea =>
   cases (show u = Value.ref a from rx)
   obtain ⟨_, _, n, _, h1⟩ := (show ObjOk X.prog X.w H s.heap a (.lst xs) from I.hok a _ ea)
   exact PySem.W.kia_one PySem.W.kitx_list I.kIn ⟨_, h1, rfl⟩ e (fun z => nomatch z) h
 | @frz a ob xs ea =>
   cases (show u = Value.ref a from rx)
   obtain ⟨_, _, _, n, _, h1⟩ := (show ObjOk X.prog X.w H s.heap a (.frz ob (.lst xs)) from I.hok a _ ea)
   exact PySem.W.kia_one PySem.W.kitx_list I.kIn ⟨_, h1, rfl⟩ e (fun z => nomatch z) h
 | @tup a xs ea =>
   cases (show u = Value.ref a from rx)
   obtain ⟨_, _, _, p⟩ := (show ObjOk X.prog X.w H s.heap a (.tup xs) from I.hok a _ ea)
   obtain ⟨o, h1, h2, _⟩ := p
   exact PySem.W.kia_one PySem.W.kitx_tuple I.kIn ⟨o, h1, h2⟩ e (fun z => nomatch z) h
 | @dK a kvs ea =>
   cases (show u = Value.ref a from rx)
   obtain ⟨_, _, vs, _, p⟩ := (show ObjOk X.prog X.w H s.heap a (.dK kvs) from I.hok a _ ea)
   obtain ⟨o, es, ep, h1, h2, _⟩ := p
   exact PySem.W.kia_one PySem.W.kitx_dict I.kIn ⟨o, h1, h2.1⟩ e (fun z => nomatch z) h
 | @dT a kvs ea =>
   cases (show u = Value.ref a from rx)
   obtain ⟨_, _, xs, _, o, es, ep, h1, h2, _⟩ := (show ObjOk X.prog X.w H s.heap a (.dT kvs) from I.hok a _ ea)
   exact PySem.W.kia_one PySem.W.kitx_dict I.kIn ⟨o, h1, h2.1⟩ e (fun z => nomatch z) h
 | @ins a C dx fs ea cl ha hn htk hm =>
   cases (show u = Value.ref a from rx)
   obtain ⟨mA, O, _⟩ := z1b1 I.hok ea
   obtain ⟨od, J, _⟩ := O.look
   exact PySem.W.kia_one (PySem.W.kitx_own (cl.get _) cl.hd ha hn htk hm) I.kIn J e (fun z => nomatch z) h
end
structure Room (k : Nat) (A : Around) : Prop where
 hd : A.handled = none
 dp : A.depth + 3 * k + 5 < recursionLimit
 un : A.units + 16 * k + 200 < cLine
theorem Room.mono {j k : Nat} {A : Around} (r : Room k A) (h : j ≤ k) : Room j A := ⟨r.hd, by have := r.dp; omega, by have := r.un; omega⟩
theorem Room.deeper {k : Nat} {A : Around} (r : Room (k + 1) A) (env : Env) : Room k (A.deeper env) :=
 ⟨r.hd, by have := r.dp; show A.depth + 1 + 3 * k + 5 < _; omega, by have := r.un; show A.units + 3 + 16 * k + 200 < _; omega⟩
theorem Room.depth {k : Nat} {A : Around} (r : Room k A) : A.depth < recursionLimit := by have := r.dp; omega
theorem Room.units {k : Nat} {A : Around} (r : Room k A) : A.units + 64 < cLine := by have := r.un; omega
def tNil : TA := fun _ H Q => Q [] H
def tCons (ta : TE) (tr : TA) : TA := fun σ H Q => ta σ H fun x H1 => tr σ H1 fun xs H2 => Q (x :: xs) H2
section
variable {X : Cx} {e : Expr} {es : List Expr} {te : TE} {t : TA} {pos : Pos}
theorem pa_nil : PA X [] tNil := fun _ _ _ _ H Q I h => Calls.spliced_nil ⟨[], H, I, .nil, h⟩
theorem z9d (ha : PE X e te) (hr : PA X es t) (hs : starEach (e :: es) X.env = (false, eval e X.env) :: starEach es X.env := by rfl) : PA X (e :: es) (tCons te t) := by
 intro pos pins s σ H Q I h
 rw [hs]
 show wpAny _ _ (spliced ((false, eval e X.env) :: backTo pos (starEach es X.env))) _ _ s
 refine Calls.spliced_cons (thn (ha pins s σ H _ I h) fun u s1 ⟨x, H1, I1, r1, q1⟩ => ?_)
 exact thn (hr pos pins s1 σ H1 _ I1 q1) fun us s2 ⟨xs, H2, I2, r2, q2⟩ => ⟨x :: xs, H2, I2, .cons r1 r2, q2⟩
def tTup (t : TA) : TE := fun σ H Q => t σ H fun xs H1 => xs.length ≤ sizeLine ∧ ∀ p, H1 p = none → Q (.ref p) (upd H1 p (.tup xs))
def tLst (t : TA) : TE := fun σ H Q => t σ H fun xs H1 => xs.length ≤ sizeLine ∧ ∀ p, H1 p = none → Q (.ref p) (upd H1 p (.lst xs))
theorem pe_tup {x1} (h : PA X es t) : PE X (.Tuple es x1 pos) (tTup t) := by
 intro pins s σ H Q I hq
 refine wpAny_Tuple_spliced (thn (h pos pins s σ H _ I hq) fun us s1 ⟨xs, H1, I1, r, z, q⟩ => ⟨by rw [← r.length]; exact z, ?_⟩)
 have hf : H1 s1.heap.objs.size = none := I1.hok.fresh (Nat.le_refl _)
 refine ⟨.ref s1.heap.objs.size, upd H1 s1.heap.objs.size (.tup xs), I1.laid (t' := s1.toks) (fun b u e => Heap.get?_push_of_some _ e) (Nat.le_refl _) ?_, rfl, q _ hf⟩
 exact ⟨z, us, r, ⟨_, Heap.get?_push_size _ rfl, rfl, _, rfl⟩⟩
theorem pe_lst (h : PA X es t) : PE X (.List es pos) (tLst t) := by
 intro pins s σ H Q I hq
 refine wpAny_List_spliced (thn (h pos pins s σ H _ I hq) fun us s1 ⟨xs, H1, I1, r, z, q⟩ => ⟨by rw [← r.length]; exact z, ?_⟩)
 have hf : H1 s1.heap.objs.size = none := I1.hok.fresh (Nat.le_refl _)
 refine ⟨.ref s1.heap.objs.size, upd H1 s1.heap.objs.size (.lst xs), I1.laid (t' := s1.toks) (fun b u e => Heap.get?_push_of_some _ e) (Nat.le_refl _) ?_, rfl, q _ hf⟩
 exact ⟨z, us, 0, r, Heap.get?_push_size _ rfl⟩
end
abbrev Sp := List V → Hp → VK → XK → Prop
abbrev CXT := List Env → Hp → Shared → XK → Value → Shared → Prop
structure Env0 (P : Program) (w : World) (K : PySem.W.Frag) (mg : Str → Option Value) (base : Heap) (A : Around) (outer : List Env) (s : Shared) (H : Hp) : Prop where
 frames : A.frames = some outer
 mod : Mod K mg base
 bs : ∀ b o, base.get? b = some o → s.heap.get? b = some o ∧ H b = none
 bsz : base.objs.size ≤ s.heap.objs.size
 funs : s.heap.FunFrames base outer
 frf : ∀ b ∈ frs outer, H b = none
 hok : HOk P w H s.heap
 bare : AllBare s.gens
def CE (outer : List Env) (P : Program) (w : World) (H : Hp) (s : Shared) (Q : VK) (u : Value) (s' : Shared) : Prop :=
 ∃ v H', s'.os = s.os ∧ AllBare s'.gens ∧ Un (frs outer) [] H H' s.heap s'.heap ∧ HOk P w H' s'.heap ∧ RelV v u ∧ Q v H'
def CR (CX : CXT) (outer : List Env) (P : Program) (w : World) (H : Hp) (s : Shared) (Q : VK) (E : XK) (r : Result) (s' : Shared) : Prop :=
 match r with
 | .ok (.ret u) => CE outer P w H s Q u s'
 | .ok _ => False
 | .error e => CX outer H s E e s'
structure FnOk (P : Program) (w : World) (K : PySem.W.Frag) (mg : Str → Option Value) (base : Heap) (CX : CXT) (k : Nat) (f : Addr) (fd : FuncData) (ps : List Str) (sp : Sp) : Prop where
 len : ∀ vs H Q E, sp vs H Q E → vs.length = ps.length
 run : ∀ (A : Around) (outer : List Env) (s : Shared) (H : Hp) (args : Args) (us : List Value) (vs : List V) (Q : VK) (E : XK), Room k A → Env0 P w K mg base A outer s H → BindsTo s fd args (ps.zip us) → Vals vs us → sp vs H Q E →
   codeAny (model P w) A (.call (.ref f) args) (CR CX outer P w H s Q E) s
theorem FnOk.imp {P : Program} {w : World} {K : PySem.W.Frag} {mg : Str → Option Value} {base : Heap} {CX : CXT} {k : Nat} {f : Addr} {fd : FuncData} {ps : List Str} {sp sp' : Sp} (F : FnOk P w K mg base CX k f fd ps sp)
   (h : ∀ vs H Q E, sp' vs H Q E → sp vs H Q E) : FnOk P w K mg base CX k f fd ps sp' :=
 ⟨fun vs H Q E q => F.len vs H Q E (h _ _ _ _ q), fun A outer s H args us vs Q E hr he hb hv hs => F.run A outer s H args us vs Q E hr he hb hv (h _ _ _ _ hs)⟩
section
variable {X : Cx} {pins : List (Addr × Obj)} {σ : St} {H : Hp} {s s' : Shared}
theorem Inv.env0 (I : Inv X pins σ H s) : Env0 X.prog X.w X.K X.mg X.base X.A X.stack s H :=
 ⟨I.ok.frames, I.ok.mod, I.bs, Nat.le_trans I.ok.bsz I.sz, I.stack, I.stkFree, I.hok, I.bare⟩
theorem Inv.after {Q : VK} {u : Value} (I : Inv X pins σ H s) (h : CE X.stack X.prog X.w H s Q u s') : EP X pins σ Q u s' := by
 obtain ⟨v, H', os, bare, un, hok, r, q⟩ := h
 obtain ⟨hh, g, d, t, os'⟩ := s'
 obtain rfl : os' = s.os := os
 exact ⟨v, H', I.call (h' := hh) (g' := g) (d' := d) (t' := t) (ch := []) un hok bare (fun b z => absurd z (by simp)), r, q⟩
end
def tCall (sp : Sp) (dvs : List V) (E : XK) (t : TA) : TE := fun σ H Q => t σ H fun vs H1 => sp (vs ++ dvs) H1 Q E
def Binds (K : PySem.W.Frag) (fd : FuncData) (ps : List Str) (ds : List Value) : Prop :=
 ∀ (s : Shared) (us : List Value), K.In s.heap → (us ++ ds).length = ps.length → BindsTo s fd ⟨us, []⟩ (ps.zip (us ++ ds))
theorem Binds.all {K : PySem.W.Frag} {fd : FuncData} {ps : List Str} (h : ∀ us : List Value, us.length = ps.length → bindArgs fd ⟨us, []⟩ = pure (ps.zip us)) : Binds K fd ps [] := fun s us _ hl => by
 rw [List.append_nil] at hl ⊢
 exact .of_eq (h us hl)
def Passes (CX : CXT) (X : Cx) (E : XK) : Prop := ∀ (pins : List (Addr × Obj)) (σ : St) (H : Hp) (s : Shared) (e : Value) (s' : Shared), Inv X pins σ H s → CX X.stack H s E e s' → X.xe e s'
section
variable {X : Cx} {CX : CXT} {k : Nat} {f C : Addr} {fd : FuncData} {ps : List Str} {sp : Sp} {dvs : List V} {ds : List Value} {E : XK} {x m : Str} {p pos apos : Pos} {e o : Expr} {es : List Expr} {ta : TE} {t : TA}
theorem run_fn {pins : List (Addr × Obj)} {σ : St} {H : Hp} {s : Shared} {Q : VK} {us : List Value} {vs : List V} (F : FnOk X.prog X.w X.K X.mg X.base CX k f fd ps sp) (hr : Room k X.A) (hb : Binds X.K fd ps ds) (hd : Vals dvs ds) (hx : Passes CX X E)
   (I : Inv X pins σ H s) (r : Vals vs us) (h : sp (vs ++ dvs) H Q E) : wpAny (model X.prog X.w) X.A (call (.ref f) us) (EP X pins σ Q) X.xe s := by
 have r2 : Vals (vs ++ dvs) (us ++ ds) := r.append hd
 have hl : (us ++ ds).length = ps.length := by rw [← r2.length]; exact F.len _ _ _ _ h
 refine wpAny_call (codeAny_mono (F.run X.A X.stack s H ⟨us, []⟩ (us ++ ds) (vs ++ dvs) Q E hr I.env0 (hb s us I.kIn hl) r2 h) fun r s' hq => ?_)
 cases r with
 | error e => exact hx pins σ H s e s' I hq
 | ok fl =>
   cases fl with
   | ret u => exact I.after hq
   | next => exact False.elim hq
   | brk => exact False.elim hq
   | cont => exact False.elim hq
theorem z1b2 (F : FnOk X.prog X.w X.K X.mg X.base CX k f fd ps sp) (hr : Room k X.A) (hg : Gl X x) (hm : X.mg x = some (.ref f)) (hk : PySem.W.keepIn X.K (.ref f) = true) (hb : Binds X.K fd ps ds) (hd : Vals dvs ds) (hx : Passes CX X E)
   (ha : PA X (e :: es) t) (hdb : (x == ("__debug__" : Str)) = false := by decide) (he : starEach (e :: es) X.env = (false, eval e X.env) :: starEach es X.env := by rfl) (hpl : (backTo pos (starEach es X.env)).any (·.1) = false := by rfl) :
   PE X (.Call (.Name x p) (e :: es) [] pos) (tCall sp dvs E t) := by
 intro pins s σ H Q I h
 refine wpAny_Call_Name_kw (z1ad I hg hm ?_ hdb)
 refine PySem.W.callWith_K (h₀ := X.base) I.ok.mod.kin hk (thn (ha pos pins s σ H _ I h) fun us s1 ⟨vs, H1, I1, r, q⟩ => ⟨I1.kIn, ?_⟩) he hpl
 exact run_fn F hr hb hd hx I1 r q
end
structure FnScope (N P : List Str) (sc : Scope) : Prop where
 kind : sc.kind = .function
 co : sc.isCoroutine = false
 gen : sc.isGenerator = false
 nd : N.Nodup
 pre : N.take P.length = P
 par : ∀ x ∈ P, sc.names.lookup x = some .local ∨ sc.names.lookup x = some .cell
 nofree : ∀ y ∈ sc.names, y.2 ≠ .free
theorem zcf {kindOf : Str → Option NameKind} {x : Str} : ∀ {binds : List (Str × Value)} {m : Str → Option Value}, (∀ v, (x, v) ∉ binds) → bindL kindOf binds m x = m x
 | [], _, _ => rfl
 | (n, v) :: r, m, h => by
   unfold bindL
   rw [zcf fun w hw => h w (List.mem_cons_of_mem _ hw)]
   split
   . have : x ≠ n := by rintro rfl; exact h v List.mem_cons_self
     simp [this]
   . rfl
theorem zd0 {kindOf : Str → Option NameKind} {x : Str} : ∀ {binds : List (Str × Value)} {m : Str → Option Value}, (∀ v, (x, v) ∉ binds) → bindC kindOf binds m x = m x
 | [], _, _ => rfl
 | (n, v) :: r, m, h => by
   unfold bindC
   rw [zd0 fun w hw => h w (List.mem_cons_of_mem _ hw)]
   split
   . rfl
   . have : x ≠ n := by rintro rfl; exact h v List.mem_cons_self
     simp [this]
theorem zd1 {kindOf : Str → Option NameKind} {x : Str} {v : Value} : ∀ {P : List Str} {vs : List Value} {i : Nat} {m : Str → Option Value}, P.Nodup → P[i]? = some x → vs[i]? = some v → kindOf x = some .local →
   bindL kindOf (P.zip vs) m x = some v
 | [], _, _, _, _, h, _, _ => by simp at h
 | _ :: _, [], _, _, _, _, h, _ => by simp at h
 | p :: P, w :: vs, 0, m, nd, h1, h2, hk => by
   simp at h1 h2; subst h1; subst h2
   show bindL kindOf ((p, w) :: P.zip vs) m p = _
   unfold bindL
   rw [zcf fun v hv => (List.nodup_cons.mp nd).1 (List.of_mem_zip hv).1, if_pos hk]
   simp
 | p :: P, w :: vs, i + 1, m, nd, h1, h2, hk => by
   show bindL kindOf ((p, w) :: P.zip vs) m x = _
   unfold bindL
   exact zd1 (i := i) (List.nodup_cons.mp nd).2 (by simpa using h1) (by simpa using h2) hk
theorem zd2 {kindOf : Str → Option NameKind} {x : Str} {v : Value} : ∀ {P : List Str} {vs : List Value} {i : Nat} {m : Str → Option Value}, P.Nodup → P[i]? = some x → vs[i]? = some v → kindOf x ≠ some .local →
   bindC kindOf (P.zip vs) m x = some v
 | [], _, _, _, _, h, _, _ => by simp at h
 | _ :: _, [], _, _, _, _, h, _ => by simp at h
 | p :: P, w :: vs, 0, m, nd, h1, h2, hk => by
   simp at h1 h2; subst h1; subst h2
   show bindC kindOf ((p, w) :: P.zip vs) m p = _
   unfold bindC
   rw [zd0 fun v hv => (List.nodup_cons.mp nd).1 (List.of_mem_zip hv).1, if_neg hk]
   simp
 | p :: P, w :: vs, i + 1, m, nd, h1, h2, hk => by
   show bindC kindOf ((p, w) :: P.zip vs) m x = _
   unfold bindC
   exact zd2 (i := i) (List.nodup_cons.mp nd).2 (by simpa using h1) (by simpa using h2) hk
def start (N : List Str) (vs : List V) : St := vs.map some ++ List.replicate (N.length - vs.length) none
def cxOf (CX : CXT) (P : Program) (w : World) (K : PySem.W.Frag) (mg : Str → Option Value) (base : Heap) (N : List Str) (qual : Str) (scope : Scope) (f : Addr) (cd : Value) (A : Around) (outer : List Env) (s : Shared) (H : Hp) (E : XK) : Cx where
 prog := P
 w := w
 K := K
 mg := mg
 base := base
 A := A.deeper (envOfC qual scope s.heap.objs.size f cd)
 N := N
 s₀ := s
 H₀ := H
 env := envOfC qual scope s.heap.objs.size f cd
 outer := outer
 stack := envOfC qual scope s.heap.objs.size f cd :: outer
 ex := []
 calm := true
 fn := fun _ => true
 pn := []
 xe := fun e s' => wpAny (model P w) (A.deeper (envOfC qual scope s.heap.objs.size f cd)) (leaving (envOfC qual scope s.heap.objs.size f cd) e) (fun _ s'' => CX outer H s E e s'') (fun e' s'' => CX outer H s E e' s'') s'
theorem zfa {sc : Scope} {n : Nat} {x : Str} (h : sc.names.lookup x = some .cell) : ∃ c, (cellsFrom n sc.names []).lookup x = some c := by
 have q := PySem.W.cellsFrom_some sc.names n [] (.inl h)
 exact Option.isSome_iff_exists.mp q
theorem z12d {CX : CXT} {P : Program} {w : World} {K : PySem.W.Frag} {mg : Str → Option Value} {base : Heap} {N ps : List Str} {qual : Str} {scope : Scope} {f : Addr} {cd : Value} {A : Around} {outer : List Env} {s s1 : Shared} {H : Hp} {E : XK} {us : List Value} {vs : List V}
   (S : FnScope N ps scope) (hd : A.handled = none) (e0 : Env0 P w K mg base A outer s H) (hl : vs.length = ps.length) (r : Vals vs us)
   (x : InCallC s s.heap.objs.size (bindL (envOfC qual scope s.heap.objs.size f cd).kindOf (ps.zip us) fun _ => none) (cellsFrom (s.heap.objs.size + 1) scope.names []) (bindC (envOfC qual scope s.heap.objs.size f cd).kindOf (ps.zip us) fun _ => none) s1) :
   Inv (cxOf CX P w K mg base N qual scope f cd A outer s H E) [] (start N vs) H s1 := by
 have hpl : ps.length ≤ N.length := by have := congrArg List.length S.pre; rw [List.length_take] at this; omega
 obtain ⟨h1, tk, rfl, hk⟩ := x.done
 have noA : ∀ b : Addr, b ∉ (cxOf CX P w K mg base N qual scope f cd A outer s H E).ex := fun b z => absurd (show b ∈ ([] : List Addr) from z) (by simp)
 refine ⟨⟨e0.mod, S.kind, rfl, rfl, Nat.le_refl _, fun y z c h1 h2 => ?_, fun y hy => ?_, fun y c _ h => ?_, fun _ => hd, Around.frames_deeper e0.frames, .inr ⟨rfl, rfl⟩, fun b z => absurd z (noA b), e0.bs, e0.bsz, fun b _ _ => noA b, fun b z => absurd z (noA b), e0.funs, e0.frf⟩,
   rfl, e0.bare, Un.kept hk, ⟨_, x.toInCall.ns, fun i y v h1 h2 h3 => ?_⟩, fun y c h => ⟨_, x.cell y c h⟩, e0.hok.fresh (Nat.le_refl _), fun y c h => ?_, fun p hp => absurd (show p ∈ ([] : List (Addr × Obj)) from hp) (by simp), e0.hok.kept hk, ?_⟩
 . exact name_of_addr x.apart (PySem.mem_of_lookup h1) (PySem.mem_of_lookup h2)
 . have hy : scope.names.lookup y = some .cell ∨ scope.names.lookup y = some .free := hy
   rcases hy with hy | hy
   . exact zfa hy
   . exact absurd rfl (S.nofree _ (PySem.mem_of_lookup hy))
 . exact Nat.le_of_lt (x.above y c (PySem.mem_of_lookup h))
 . have hi : i < vs.length := by
     unfold start at h2
     by_cases hi : i < vs.length
     . exact hi
     . rw [List.getElem?_append_right (by simpa using hi)] at h2
       rw [List.getElem?_replicate] at h2
       split at h2 <;> cases h2
   have ha : vs[i]? = some v := by
     unfold start at h2
     rw [List.getElem?_append_left (by simpa using hi), List.getElem?_map] at h2
     cases e : vs[i]? with
     | none => rw [e] at h2; cases h2
     | some a => rw [e] at h2; cases h2; rfl
   obtain ⟨u, hu, rv⟩ := r.get ha
   have hp : ps[i]? = some y := by
     rw [← S.pre, List.getElem?_take_of_lt (by omega)]; exact h1
   have ndP : ps.Nodup := by rw [← S.pre]; exact S.nd.sublist (List.take_sublist _ _)
   refine ⟨u, rv, ?_⟩
   rcases S.par y (List.mem_of_getElem? hp) with k | k
   . exact .inl ⟨k, zd1 ndP hp hu k⟩
   . obtain ⟨c, e⟩ := zfa (n := s.heap.objs.size + 1) k
     refine .inr ⟨.inl k, c, e, ?_⟩
     have q := x.cell y c e
     rw [zd2 ndP hp hu (by show scope.names.lookup y ≠ _; rw [k]; decide)] at q
     exact q
 . exact e0.hok.fresh (Nat.le_of_lt (x.above y c (PySem.mem_of_lookup h)))
 . unfold start
   show _ = N.length
   rw [List.length_append, List.length_map, List.length_replicate]
   omega
theorem fn_of {CX : CXT} {P : Program} {w : World} {K : PySem.W.Frag} {mg : Str → Option Value} {base : Heap} {k : Nat} {f : Addr} {name qual : Str} {params : Arguments} {body : List Stmt} {scope : Scope} {dV kV doc pm cdv ct oc : Value} {an od : Option Addr}
   {osl : Array (Option Value)} {N ps : List Str} {sp : Sp} (lk : K.lookup f = some ⟨oc, od, .func (PySem.W.fnOf name qual params body scope dV kV doc pm an cdv ct), osl⟩) (hcd : PySem.W.codeIn K cdv qual = true) (S : FnScope N ps scope)
   (len : ∀ vs H Q E, sp vs H Q E → vs.length = ps.length)
   (hbody : ∀ (A : Around) (outer : List Env) (s : Shared) (H : Hp) (vs : List V) (Q : VK) (E : XK), Room k (A.deeper (envOfC qual scope s.heap.objs.size f cdv)) → sp vs H Q E →
     ∃ t, PSs (cxOf CX P w K mg base N qual scope f cdv A outer s H E) body t ∧ t { nx := fun _ H' => Q .non H', rt := Q } (start N vs) H) :
   FnOk P w K mg base CX (k + 1) f (PySem.W.fnOf name qual params body scope dV kV doc pm an cdv ct) ps sp := by
 refine ⟨len, fun A outer s H args us vs Q E hr e0 hb r hsp => ?_⟩
 have hl := len _ _ _ _ hsp
 have KX : K.In s.heap := e0.mod.kin.keeps fun b o e => (e0.bs b o e).1
 have lim : s.heap.NoLimit := e0.mod.nolimit.keeps fun b o e => (e0.bs b o e).1
 have hkind : ∀ y ∈ ps.zip us, scope.names.lookup y.1 = some .local ∨ (scope.names.lookup y.1 = some .cell ∧ ((cellsFrom (s.heap.objs.size + 1) scope.names []).lookup y.1).isSome = true) := fun ⟨n, v⟩ hy => by
   rcases S.par n (List.of_mem_zip hy).1 with q | q
   . exact .inl q
   . exact .inr ⟨q, PySem.W.cellsFrom_some _ _ _ (.inl q)⟩
 refine codeAny_call_function hr.depth (KX _ _ lk) rfl S.co S.gen rfl (PySem.W.codeRec_of KX hcd) (hb _ _ _ _ ?_)
 refine wpAny_newFunctionEnv_cells S.kind hkind fun env he s1 x => ?_
 subst he
 refine ⟨lim.keeps x.toInCall.keep, codeAny_func ?_⟩
 obtain ⟨t, ht, hq⟩ := hbody A outer s H vs Q E (hr.deeper _) hsp
 have I : Inv (cxOf CX P w K mg base N qual scope f cdv A outer s H E) [] (start N vs) H s1 := z12d S hr.hd e0 hl r x
 refine wpAny_mono (ht [] s1 (start N vs) H _ I hq) (fun fl s' hs => ?_) fun e s' hs => hs
 have fin : ∀ {σ' : St} {H' : Hp} {v : V} {u : Value}, Inv (cxOf CX P w K mg base N qual scope f cdv A outer s H E) [] σ' H' s' → RelV v u → Q v H' → CE outer P w H s Q u s' :=
   fun {σ' H' v u} J rv q => ⟨v, H', J.os, J.bare, J.base, J.hok, rv, q⟩
 cases fl with
 | ret u =>
   obtain ⟨v, σ', H', J, rv, q⟩ := hs
   exact fin J rv q
 | next =>
   obtain ⟨σ', H', J, q⟩ := hs
   exact fin (v := V.non) (u := Value.none) J rfl q
 | brk =>
   obtain ⟨_, _, _, q⟩ := hs
   exact False.elim q
 | cont =>
   obtain ⟨_, _, _, q⟩ := hs
   exact False.elim q
section
variable {X : Cx} {x : Str} {p pos : Pos} {e : Expr} {es : List Expr} {t : TA} {id T : String} {r : List V → Hp → VK → Prop}
def tCB (r : List V → Hp → VK → Prop) (t : TA) : TE := fun σ H Q => t σ H fun vs H1 => r vs H1 Q
theorem zfb (hc : CallR X (.builtin id) r) (hg : Gl X x) (hm : X.mg x = none) (hv : bootBuiltins x = some (.builtin id)) (ha : PA X (e :: es) t) (hn : x ≠ "__name__" := by decide) (hdb : (x == ("__debug__" : Str)) = false := by decide)
   (he : starEach (e :: es) X.env = (false, eval e X.env) :: starEach es X.env := by rfl) (hpl : (backTo pos (starEach es X.env)).any (·.1) = false := by rfl) : PE X (.Call (.Name x p) (e :: es) [] pos) (tCB r t) := by
 intro pins s σ H Q I h
 refine wpAny_Call_Name_kw (ld_blt I hg hm hv ?_ hn hdb)
 exact PyProof.Rows.callWith_builtin1 (thn (ha pos pins s σ H _ I h) fun us s1 ⟨vs, H1, I1, r1, q1⟩ => hc pins s1 σ H1 vs us Q I1 r1 q1) he hpl
theorem z12e (hc : CallR X (.type T) r) (hg : Gl X x) (hm : X.mg x = none) (hv : bootBuiltins x = some (.type T)) (ha : PA X (e :: es) t) (hn : x ≠ "__name__" := by decide) (hdb : (x == ("__debug__" : Str)) = false := by decide)
   (he : starEach (e :: es) X.env = (false, eval e X.env) :: starEach es X.env := by rfl) (hpl : (backTo pos (starEach es X.env)).any (·.1) = false := by rfl) : PE X (.Call (.Name x p) (e :: es) [] pos) (tCB r t) := by
 intro pins s σ H Q I h
 refine wpAny_Call_Name_kw (ld_blt I hg hm hv ?_ hn hdb)
 exact PyProof.Rows.callWith_type1 (thn (ha pos pins s σ H _ I h) fun us s1 ⟨vs, H1, I1, r1, q1⟩ => hc pins s1 σ H1 vs us Q I1 r1 q1) he hpl
end
end L2
namespace HT
open PySem PyProof.Rows
theorem rcLt_int (A : Around) (s : Shared) (a : Int) (t : Tok) (c : Int) (u : Tok) (prog : Program) (w : World) (E : Value → Shared → Prop) (Q : Value → Shared → Prop) (h : Q (.bool (decide (a < c))) s) :
   wpAny (model prog w) A (richCompare .Lt (.int a t) (.int c u)) Q E s :=
 (PyProof.Rows.lt_int h : wpAny (model prog w) A (compareOp .Lt (.int a t) (.int c u)) Q E s)
section
open PySem.SeqAt
open PySem.AutoSeq1 (wpAny_loadPart')
open PySem.MeetsSeq PySem.MeetsSeq2 PySem.MeetsSeq3
end
section
variable {prog : Program} {w : World} {A : Around} {E : Value → Shared → Prop} {s : Shared}
theorem cat_tup {t b : Addr} {vs ws : List Value} {Q : Value → Shared → Prop} (ht : IsTup s.heap t vs.toArray) (hb : IsTup s.heap b ws.toArray) (hv : vs ≠ [])
   (h1 : ws = [] → Q (.ref t) s) (h2 : ws ≠ [] → Q (.ref s.heap.objs.size) { s with heap := s.heap.push { cls := .type "tuple", data := .seq (vs ++ ws).toArray } })
   (hsz : vs.length + ws.length ≤ sizeLine) : wpAny (model prog w) A (binaryOp .Add (.ref t) (.ref b)) Q E s := by
 obtain ⟨⟨cls, dd, data, sl⟩, ho, hc, n, hd⟩ := id ht
 obtain ⟨⟨cls2, dd2, data2, sl2⟩, ho2, hc2, n2, hd2⟩ := id hb
 simp only at hc hd hc2 hd2
 subst hc hd hc2 hd2
 have e : vs.toArray ++ ws.toArray = (vs ++ ws).toArray := by simp
 by_cases hw : ws = []
 . exact concat_meets ⟨_, ho, rfl⟩ ⟨_, ho2, rfl⟩ noFill_tuple_add seq_tuple_add PySem.F.slot_tuple_add PySem.F.entry_tuple_add (PySem.F.args_tuple_add_2 _ _)
     (tuple_addW1 t b vs.toArray ws.toArray n n2 dd dd2 sl sl2 (by simpa using hv) (by simp [hw])) ⟨ho, ho2, h1 hw⟩
 . refine concat_meets ⟨_, ho, rfl⟩ ⟨_, ho2, rfl⟩ noFill_tuple_add seq_tuple_add PySem.F.slot_tuple_add PySem.F.entry_tuple_add (PySem.F.args_tuple_add_2 _ _)
     (tuple_addW2 t b vs.toArray ws.toArray n n2 dd dd2 sl sl2 (by simpa using hv) (by simpa using hw) (by rw [List.size_toArray, List.size_toArray]; exact hsz)) ⟨ho, ho2, ?_⟩
   rw [e]
   exact h2 hw
def sIx (n d : Nat) : Option Int → Nat
 | none => d
 | some v => if v < 0 then (v + (n : Int)).toNat else min v.toNat n
end
end HT
namespace L2
open PySem PySem.Spec PyProof.Rows
abbrev TO := St → Hp → (Option Int → Hp → Prop) → Prop
def PO (X : Cx) (e : Option Expr) (t : TO) : Prop :=
 ∀ (pins : List (Addr × Obj)) (s : Shared) (σ : St) (H : Hp) (Q : Option Int → Hp → Prop), Inv X pins σ H s → t σ H Q →
   wpAny (model X.prog X.w) X.A (evalPart e X.env) (fun u s' => ∃ o H', Inv X pins σ H' s' ∧ IsPart u o ∧ Q o H') X.xe s
def z1b3 : TO := fun _ H Q => Q none H
def tPart (t : TE) : TO := fun σ H Q => t σ H fun x H1 => ∃ i, x = .int i ∧ Q (some i) H1
theorem z9e {ns : List Int} : ∀ {us : List Value}, Vals (ns.map V.int) us → IntsAre us ns := by
 induction ns with
 | nil => intro us r; rw [List.map_nil] at r; cases r; exact .nil
 | cons n ns ih =>
   intro us r
   rw [List.map_cons] at r
   cases r with
   | cons r1 r2 =>
     obtain ⟨t, e⟩ := r1
     subst e
     exact .cons n t (ih r2)
section
variable {X : Cx} {e : Expr} {te : TE} {lo hi : Option Expr} {tl th : TO} {pos p2 : Pos}
theorem po_none : PO X none z1b3 := by
 intro pins s σ H Q I h
 rw [evalPart_none]
 exact wpAny_pure ⟨none, H, I, .none, h⟩
theorem z1b4 (h : PE X e te) : PO X (some e) (tPart te) := by
 intro pins s σ H Q I hw
 rw [evalPart_some]
 refine thn (h pins s σ H _ I hw) fun u s1 ⟨x, H1, I1, r1, q1⟩ => ?_
 obtain ⟨i, rfl, q⟩ := q1
 obtain ⟨t, rfl⟩ := r1
 exact ⟨some i, H1, I1, .int i t, q⟩
def SlR (X : Cx) (r : V → Option Int → Option Int → Hp → VK → Prop) : Prop :=
 ∀ (pins : List (Addr × Obj)) (s : Shared) (σ : St) (H : Hp) (x : V) (v vl vu : Value) (lo hi : Option Int) (sl : Addr) (Q : VK), Inv X pins σ H s → RelV x v → s.heap.IsSliceOf sl vl vu .none → IsPart vl lo → IsPart vu hi → r x lo hi H Q →
   ∃ T id, typeLookup (.type T) "__getitem__" = pure (some (.builtin id)) ∧ s.TypeIs v T ∧ wpAny (model X.prog X.w) X.A (getItem v (.ref sl)) (EP X pins σ Q) X.xe s
def tSl (r : V → Option Int → Option Int → Hp → VK → Prop) (te : TE) (tl th : TO) : TE := fun σ H Q => te σ H fun x H1 => tl σ H1 fun l H2 => th σ H2 fun u H3 => r x l u H3 Q
theorem z181 {r : V → Option Int → Option Int → Hp → VK → Prop} (hr : SlR X r) (he : PE X e te) (hl : PO X lo tl) (hu : PO X hi th) : PE X (.Subscript e (.Slice lo hi none p2) pos) (tSl r te tl th) := by
 intro pins s σ H Q I h
 refine Subscript_ (thn (he pins s σ H _ I h) fun v s1 ⟨x, H1, I1, r1, q1⟩ => ?_)
 refine wpAny_Slice (thn (hl pins s1 σ H1 _ I1 q1) fun vl s2 ⟨l, H2, I2, pl, q2⟩ => thn (hu pins s2 σ H2 _ I2 q2) fun vu s3 ⟨u, H3, I3, pu, q3⟩ => ?_)
 rw [evalPart_none]
 refine wpAny_pure ?_
 have I4 : Inv X pins σ H3 { s3 with heap := s3.heap.push { cls := .type "slice", data := .fields #[vl, vu, .none] } } := I3.kept (t' := s3.toks) fun b ob q => Heap.get?_push_of_some _ q
 obtain ⟨T, id, hT, ht, hg⟩ := hr pins { s3 with heap := s3.heap.push { cls := .type "slice", data := .fields #[vl, vu, .none] } } σ H3 x v vl vu l u s3.heap.objs.size Q I4 r1 (Heap.IsSliceOf.new ..) pl pu q3
 show wpAny (model X.prog X.w) X.A (subscriptTail e (.Slice lo hi none p2) v (.ref s3.heap.objs.size)) (EP X pins σ Q) X.xe { s3 with heap := s3.heap.push { cls := .type "slice", data := .fields #[vl, vu, .none] } }
 exact tail_any (ops := [.ref s3.heap.objs.size, v]) ht hT hg (by with_unfolding_all rfl)
def cutV (xs : List V) (lo hi : Option Int) : List V := (xs.drop (HT.sIx xs.length 0 lo)).take (HT.sIx xs.length xs.length hi - HT.sIx xs.length 0 lo)
theorem zeb (xs : List V) (lo hi : Option Int) : (cutV xs lo hi).length ≤ xs.length := by
 unfold cutV
 rw [List.length_take, List.length_drop]
 omega
def rCatT (K : PySem.W.Frag) : R2 := fun x y H Q => ∃ a b xs ys, x = .ref a ∧ y = .ref b ∧ SqT K H a xs ∧ SqT K H b ys ∧ xs ≠ [] ∧ xs.length + ys.length ≤ sizeLine ∧
 (ys = [] → Q (.ref a) H) ∧ (ys ≠ [] → ∀ p, H p = none → Q (.ref p) (upd H p (.tup (xs ++ ys))))
theorem Vals.nil_iff {xs : List V} {us : List Value} (r : Vals xs us) : us = [] ↔ xs = [] := by
 cases r with
 | nil => simp
 | cons _ _ => simp
theorem z1b5 : OpR X (binaryOp .Add) (rCatT X.K) := by
 intro pins s σ H x y v u Q I rx ry h
 obtain ⟨a, b, xs, ys, rfl, rfl, ha, hb, hx, hz, q1, q2⟩ := h
 cases rx
 cases ry
 obtain ⟨its, r1, p1, _⟩ := I.tuple ha
 obtain ⟨its2, r2, p2, _⟩ := I.tuple hb
 refine HT.cat_tup p1 p2 (fun z => hx (r1.nil_iff.mp z)) (fun z => ⟨.ref a, H, I, rfl, q1 (r2.nil_iff.mp z)⟩) (fun z => ?_) (by rw [← r1.length, ← r2.length]; exact hz)
 refine ⟨.ref s.heap.objs.size, _, I.laid (t' := s.toks) (o := .tup (xs ++ ys)) (fun b ob q => Heap.get?_push_of_some _ q) (Nat.le_refl _) ?_, rfl, q2 (fun w => z (r2.nil_iff.mpr w)) _ (I.hok.fresh (Nat.le_refl _))⟩
 exact ⟨by rw [List.length_append]; exact hz, _, r1.append r2, IsTup.new _ _⟩
end
def ixN (n : Nat) (i : Int) : Option Nat := if 0 ≤ i then (if i < n then some i.toNat else none) else if -(n : Int) ≤ i then some (i + n).toNat else none
def atI {α : Type} (xs : List α) (i : Int) : Option α := (ixN xs.length i).bind fun j => xs[j]?
theorem z153 {n : Nat} {i : Int} {j : Nat} (h : ixN n i = some j) : seqIndex? i n = some j ∧ j < n ∧ -(n : Int) ≤ i ∧ i < n := by
 unfold ixN at h
 by_cases h0 : 0 ≤ i
 . rw [if_pos h0] at h
   by_cases h1 : i < n
   . rw [if_pos h1] at h
     have e : i.toNat = j := Option.some.inj h
     exact ⟨by rw [seqIndex_of h0 h1, e], by omega, by omega, h1⟩
   . rw [if_neg h1] at h; cases h
 . rw [if_neg h0] at h
   by_cases h1 : -(n : Int) ≤ i
   . rw [if_pos h1] at h
     have e : (i + n).toNat = j := Option.some.inj h
     exact ⟨by rw [seqIndex_neg (by omega) h1, e], by omega, h1, by omega⟩
   . rw [if_neg h1] at h; cases h
theorem zfc {α : Type} {xs : List α} {i : Int} {v : α} (h : atI xs i = some v) : ∃ j, seqIndex? i xs.length = some j ∧ xs[j]? = some v ∧ j < xs.length ∧ -(xs.length : Int) ≤ i ∧ i < xs.length := by
 unfold atI at h
 cases e : ixN xs.length i with
 | none => rw [e] at h; cases h
 | some j =>
   rw [e] at h
   obtain ⟨h1, h2, h3, h4⟩ := z153 e
   exact ⟨j, h1, h, h2, h3, h4⟩
theorem zd3 {α : Type} {xs : List α} {j : Nat} {v : α} (h : xs[j]? = some v) : atI xs (j : Int) = some v := by
 have hj : j < xs.length := (List.getElem?_eq_some_iff.mp h).1
 have e : ixN xs.length (j : Int) = some j := by
   unfold ixN
   rw [if_pos (by omega), if_pos (by omega)]; simp
 unfold atI; rw [e]; exact h
theorem z182 {α : Type} (xs : List α) (v : α) : atI (xs ++ [v]) (-1) = some v := by
 have hl : (xs ++ [v]).length = xs.length + 1 := by simp
 have e : ixN (xs ++ [v]).length (-1) = some xs.length := by
   unfold ixN
   rw [hl, if_neg (by decide), if_pos (by omega)]
   congr 1
   omega
 unfold atI
 rw [e]
 show (xs ++ [v])[xs.length]? = some v
 simp
def z154 (b : Expr) : Prop := ∀ o i, subscripted b false o i = operate [o, i] (getItem o i)
def IxR (X : Cx) (r : R2) : Prop :=
 ∀ (value slice : Expr) (pins : List (Addr × Obj)) (s : Shared) (σ : St) (H : Hp) (x y : V) (v u : Value) (Q : VK), Inv X pins σ H s → RelV x v → RelV y u → r x y H Q →
   subscripted slice false v u = operate [v, u] (getItem v u) → wpAny (model X.prog X.w) X.A (subscriptTail value slice v u) (EP X pins σ Q) X.xe s
def MtR (X : Cx) (id : String) (r : V → List V → Hp → VK → Prop) : Prop :=
 ∀ (pins : List (Addr × Obj)) (s : Shared) (σ : St) (H : Hp) (x : V) (xs : List V) (v : Value) (us : List Value) (Q : VK), Inv X pins σ H s → RelV x v → Vals xs us → r x xs H Q →
   wpAny (model X.prog X.w) X.A (call (.builtin id) (v :: us)) (EP X pins σ Q) X.xe s
section
variable {X : Cx} {a b : Expr} {ta tb : TE} {pos : Pos}
theorem IxR.or {r r' : R2} (h : IxR X r) (h' : IxR X r') : IxR X (fun x y H Q => r x y H Q ∨ r' x y H Q) := by
 intro value slice pins s σ H x y v u Q I rx ry q hs
 rcases q with q | q
 . exact h value slice pins s σ H x y v u Q I rx ry q hs
 . exact h' value slice pins s σ H x y v u Q I rx ry q hs
theorem pe_ix {r : R2} (hr : IxR X r) (ha : PE X a ta) (hb : PE X b tb) (hs : z154 b) : PE X (.Subscript a b pos) (tOp r ta tb) := by
 intro pins s σ H Q I h
 exact Subscript_ (binT ha hb I h fun v u s2 x y H2 I2 rx ry q => hr a b pins s2 σ H2 x y v u Q I2 rx ry q (hs _ _))
def rIxL (K : PySem.W.Frag) : R2 := fun x y H Q => ∃ p xs i v, x = .ref p ∧ y = .int i ∧ SqL K H p xs ∧ atI xs i = some v ∧ Q v H
def rIxT (K : PySem.W.Frag) : R2 := fun x y H Q => ∃ p xs i v, x = .ref p ∧ y = .int i ∧ SqT K H p xs ∧ atI xs i = some v ∧ Q v H
def rIxS : R2 := fun x y H Q => ∃ z i c, x = .str z ∧ y = .int i ∧ z.length ≤ sizeLine ∧ atI z.cps.toList i = some c ∧ Q (.str ⟨#[c]⟩) H
theorem ix_list : IxR X (rIxL X.K) := by
 intro value slice pins s σ H x y v u Q I rx ry h hs
 obtain ⟨p, xs, i, z, rfl, rfl, hq, he, q⟩ := h
 cases rx
 obtain ⟨t, rfl⟩ := ry
 obtain ⟨its, r, pl, hz⟩ := I.list hq
 obtain ⟨j, h1, h2, h3, h4, h5⟩ := zfc he
 obtain ⟨w, ew, rw'⟩ := r.get h2
 have hl := r.length
 have hn := line63
 have fin : EP X pins σ Q w s := ⟨z, H, I, rw', q⟩
 by_cases h0 : 0 ≤ i
 . have hj : i.toNat = j := by
     rw [seqIndex_of h0 h5] at h1
     exact Option.some.inj h1
   exact item_listR pl.isList h0 (by omega) (by rw [hj]; simpa using ew) fin hs
 . have hj : (i + (its.toArray.size : Int)).toNat = j := by
     rw [seqIndex_neg (by omega) h4] at h1
     rw [List.size_toArray, ← hl]
     exact Option.some.inj h1
   exact subscriptTail_builtinR (x := w) pl.isList.typeIs slot_list_getitem.lookup
     (wpAny_getItem_list_neg (Q := fun r s' => r = w ∧ EP X pins σ Q r s') pl.isList (by omega) (by rw [List.size_toArray] <;> omega) (by omega) (by rw [hj]; simpa using ew) ⟨rfl, fin⟩) hs
theorem ix_tup : IxR X (rIxT X.K) := by
 intro value slice pins s σ H x y v u Q I rx ry h hs
 obtain ⟨p, xs, i, z, rfl, rfl, hq, he, q⟩ := h
 cases rx
 obtain ⟨t, rfl⟩ := ry
 obtain ⟨its, r, pl, hz⟩ := I.tuple hq
 obtain ⟨j, h1, h2, h3, h4, h5⟩ := zfc he
 obtain ⟨w, ew, rw'⟩ := r.get h2
 have hl := r.length
 have hn := line63
 have fin : EP X pins σ Q w s := ⟨z, H, I, rw', q⟩
 exact subscriptTail_builtinR (x := w) pl.typeIs slot_tuple_getitem.lookup
   (getItem_tuple (j := j) (Q := fun r s' => r = w ∧ EP X pins σ Q r s') pl (by omega) (by omega) (by rw [List.size_toArray, ← hl]; exact h1) (by simpa using ew) ⟨rfl, fin⟩) hs
theorem ix_str : IxR X rIxS := by
 intro value slice pins s σ H x y v u Q I rx ry h hs
 obtain ⟨z, i, c, rfl, rfl, hz, he, q⟩ := h
 obtain ⟨t, rfl⟩ := rx
 obtain ⟨t', rfl⟩ := ry
 obtain ⟨j, h1, h2, h3, h4, h5⟩ := zfc he
 have hl : z.cps.toList.length = z.length := by simp [Str.length]
 rw [hl] at h1 h4 h5
 have hn := line63
 exact tail_any (typeIs_str s z t) slot_str_getitem.lookup (getItem_str (c := c) (by
   have e1 : decide (i < -(2 ^ 63 : Int)) = false := decide_eq_false (by omega)
   have e2 : decide (i ≥ 2 ^ 63) = false := decide_eq_false (by omega)
   rw [e1, e2, Bool.or_false]) (by rw [h1]; simpa using h2) ⟨.str ⟨#[c]⟩, H, I.tok _, ⟨_, rfl⟩, q⟩) hs
def rIx (K : PySem.W.Frag) : R2 := fun x y H Q => rIxL K x y H Q ∨ rIxT K x y H Q ∨ rIxS x y H Q
theorem ix_seq : IxR X (rIx X.K) := ix_list.or (ix_tup.or ix_str)
theorem zfd (its : List Value) (n j : Nat) (u : Value) : Obj.mapSeq (·.setIfInBounds j u) { cls := .type "list", data := .seq its.toArray n } = { cls := .type "list", data := .seq (its.set j u).toArray n } := by
 simp [Obj.mapSeq]
theorem Inv.lst {pins : List (Addr × Obj)} {σ : St} {H : Hp} {s : Shared} {p : Addr} {xs : List V} (I : Inv X pins σ H s) (h : H p = some (.lst xs)) :
   ∃ (its : List Value) (n : Nat), Vals xs its ∧ s.heap.get? p = some { cls := .type "list", data := .seq its.toArray n } ∧ xs.length ≤ sizeLine := by
 obtain ⟨z, its, n, r, e⟩ := I.hok p _ h
 exact ⟨its, n, r, e, z⟩
theorem Inv.lstUpd {pins : List (Addr × Obj)} {σ : St} {H : Hp} {s : Shared} {p : Addr} {xs ys : List V} {its its' : List Value} {n n' : Nat} {f : Obj → Obj} (I : Inv X pins σ H s) (h : H p = some (.lst xs))
   (ho : s.heap.get? p = some { cls := .type "list", data := .seq its.toArray n }) (hf : f { cls := .type "list", data := .seq its.toArray n } = { cls := .type "list", data := .seq its'.toArray n' }) (r : Vals ys its') (hz : ys.length ≤ sizeLine) (t : Nat) :
   Inv X pins σ (upd H p (.lst ys)) { s with heap := s.heap.update p f, toks := t } := by
 have e : (s.heap.update p f).get? p = some { cls := .type "list", data := .seq its'.toArray n' } := by
   rw [Heap.get?_update_self f ho (by rw [hf] <;> rfl), hf]
 refine I.write (x := p) (e := p) (by rw [h]; trivial) (.inl rfl) (fun b u hb q => (Heap.get?_update_other _ _ (Ne.symm hb)).trans q) ⟨_, e⟩ ?_
 exact ⟨hz, its', n', r, e⟩
def rSetL : V → V → V → Hp → (Hp → Prop) → Prop := fun o i v H Q => ∃ p xs k j, o = .ref p ∧ i = .int k ∧ H p = some (.lst xs) ∧ ixN xs.length k = some j ∧ Q (upd H p (.lst (xs.set j v)))
theorem z183 : PSet X rSetL := by
 intro pins s σ H o i v ov iv u Q I ro ri rv h
 obtain ⟨p, xs, k, j, rfl, rfl, hp, hj, q⟩ := h
 cases ro
 obtain ⟨t, rfl⟩ := ri
 obtain ⟨its, n, r, ho, hz⟩ := I.lst hp
 obtain ⟨h1, h2, h3, h4⟩ := z153 hj
 have hl := r.length
 have hn := line63
 have I' : Inv X pins σ (upd H p (.lst (xs.set j v))) { s with heap := s.heap.update p (Obj.mapSeq (·.setIfInBounds j u)) } :=
   I.lstUpd hp ho (zfd its n j u) (r.set rv j) (by rw [List.length_set]; exact hz) s.toks
 by_cases h0 : 0 ≤ k
 . have hk : k.toNat = j := by
     rw [seqIndex_of h0 h4] at h1
     exact Option.some.inj h1
   exact PySem.W.ki_setAt ho h0 (by omega) (by rw [List.size_toArray, ← hl]; exact h4) (by rw [hk]; exact ⟨_, I', q⟩)
 . have hk : (k + (its.toArray.size : Int)).toNat = j := by
     rw [seqIndex_neg (by omega) h3] at h1
     rw [List.size_toArray, ← hl]
     exact Option.some.inj h1
   exact PySem.W.ki_setBack ho (by omega) (by rw [List.size_toArray, ← hl]; exact h3) (by omega) (by rw [hk]; exact ⟨_, I', q⟩)
theorem zb7 (lo hi : Option Int) (n : Nat) : (sliceBounds lo hi none n).1 = ((HT.sIx n 0 lo : Nat) : Int) ∧ (sliceBounds lo hi none n).2.1 = ((HT.sIx n n hi : Nat) : Int) ∧ (sliceBounds lo hi none n).2.2 = 1 := by
 refine ⟨?_, ?_, rfl⟩
 . cases lo with
   | none => simp [sliceBounds, HT.sIx]
   | some i =>
     simp only [sliceBounds, HT.sIx, Option.getD_none, show (1 : Int) > 0 by decide, if_true]
     by_cases h : i < 0
     . simp only [h, if_true] <;> omega
     . simp only [h, if_false] <;> omega
 . cases hi with
   | none => simp [sliceBounds, HT.sIx]
   | some i =>
     simp only [sliceBounds, HT.sIx, Option.getD_none, show (1 : Int) > 0 by decide, if_true]
     by_cases h : i < 0
     . simp only [h, if_true] <;> omega
     . simp only [h, if_false] <;> omega
theorem z9f (its : List Value) (lo hi : Option Int) : slicePick its.toArray lo hi none = ((its.drop (HT.sIx its.length 0 lo)).take (HT.sIx its.length its.length hi - HT.sIx its.length 0 lo)).toArray := by
 obtain ⟨h1, h2, h3⟩ := zb7 lo hi its.toArray.size
 unfold slicePick
 rw [h1, h2, h3]
 simp only [sliceRange_one, pick_run, List.size_toArray] <;> rfl
def rSlL (K : PySem.W.Frag) : V → Option Int → Option Int → Hp → VK → Prop := fun x lo hi H Q => ∃ a xs, x = .ref a ∧ SqL K H a xs ∧ ∀ p, H p = none → Q (.ref p) (upd H p (.lst (cutV xs lo hi)))
theorem z155 : SlR X (rSlL X.K) := by
 intro pins s σ H x v vl vu lo hi sl Q I rx hs pl pu h
 obtain ⟨a, xs, rfl, hx, q⟩ := h
 cases rx
 obtain ⟨its, r, ht, hz⟩ := I.list hx
 have hlen := r.length
 refine ⟨"list", _, slot_list_getitem.lookup, ht.isList.typeIs, ?_⟩
 refine wpAny_getItem_list_slice ht.isList hs pl pu .none (by simp) ?_ (by rw [List.size_toArray] <;> omega)
 rw [z9f, ← hlen]
 refine ⟨.ref s.heap.objs.size, _, I.laid (t' := s.toks) (o := .lst (cutV xs lo hi)) (fun b ob q => Heap.get?_push_of_some _ q) (Nat.le_refl _) ?_, rfl, q _ (I.hok.fresh (Nat.le_refl _))⟩
 exact ⟨Nat.le_trans (zeb xs lo hi) hz, _, 0, (r.drop (HT.sIx xs.length 0 lo)).take (HT.sIx xs.length xs.length hi - HT.sIx xs.length 0 lo), Heap.get?_push_size _ rfl⟩
theorem call_len_seq : CallR X (.builtin "len") (fun xs H Q => ∃ p ys, xs = [.ref p] ∧ (SqL X.K H p ys ∨ SqT X.K H p ys) ∧ Q (.int ys.length) H) := by
 intro pins s σ H xs us Q I r h
 obtain ⟨p, ys, rfl, hq, q⟩ := h
 obtain ⟨u, rfl, rx⟩ := vals1 r
 cases rx
 have hn := line63
 rcases hq with hq | hq
 . obtain ⟨its, r', pl, hz⟩ := I.list hq
   have hlen := r'.length
   exact Calls.call_len_list pl.isList (by simp only [List.size_toArray] <;> omega) ⟨.int ys.length, H, I.tok _, ⟨s.toks + 1, by rw [List.size_toArray, hlen]⟩, q⟩
 . obtain ⟨its, r', pl, hz⟩ := I.tuple hq
   have hlen := r'.length
   exact len_tuple pl (by simp only [List.size_toArray] <;> omega) ⟨.int ys.length, H, I.tok _, ⟨s.toks + 1, by rw [List.size_toArray, hlen]⟩, q⟩
theorem zb8 : CallR X (.builtin "len") (fun xs H Q => ∃ z, xs = [.str z] ∧ z.length ≤ sizeLine ∧ Q (.int z.length) H) := by
 intro pins s σ H xs us Q I r h
 obtain ⟨z, rfl, hz, q⟩ := h
 obtain ⟨u, rfl, t, rfl⟩ := vals1 r
 have hn := line63
 exact len_str (by omega) ⟨.int z.length, H, I.tok _, ⟨_, rfl⟩, q⟩
theorem CallR.or {f : Value} {r r' : List V → Hp → VK → Prop} (h : CallR X f r) (h' : CallR X f r') : CallR X f (fun xs H Q => r xs H Q ∨ r' xs H Q) := by
 intro pins s σ H xs us Q I rs q
 rcases q with q | q
 . exact h pins s σ H xs us Q I rs q
 . exact h' pins s σ H xs us Q I rs q
theorem zb9 : CallR X (.type "list") (fun xs H Q => ∃ p ys, xs = [.ref p] ∧ (SqL X.K H p ys ∨ SqT X.K H p ys) ∧ ∀ l, H l = none → Q (.ref l) (upd H l (.lst ys))) := by
 intro pins s σ H xs us Q I r h
 obtain ⟨p, ys, rfl, hq, q⟩ := h
 obtain ⟨u, rfl, rx⟩ := vals1 r
 cases rx
 have fin : ∀ (its : List Value), Vals ys its → ys.length ≤ sizeLine → ∀ (h' : Heap) (c' : Nat), (∀ b o', s.heap.get? b = some o' → h'.get? b = some o') →
     h'.get? s.heap.objs.size = some { cls := .type "list", dict := none, data := .seq its.toArray c', slots := #[] } → EP X pins σ Q (.ref s.heap.objs.size) { s with heap := h' } := fun its r' hz h' c' kp e =>
   ⟨.ref s.heap.objs.size, _, I.laid (t' := s.toks) kp (Nat.le_refl _) (show ObjOk X.prog X.w _ h' _ (.lst ys) from ⟨hz, its, c', r', e⟩), rfl, q _ (I.hok.fresh (Nat.le_refl _))⟩
 rcases hq with hq | hq
 . obtain ⟨its, r', pl, hz⟩ := I.list hq
   have hlen := r'.length
   obtain ⟨o, ho, hc, n, hd⟩ := pl.isList
   exact call_list_seq p (.inl rfl) ho hc hd (fun h' c' kp e => fin its r' hz h' c' kp e) (by simp only [List.size_toArray] <;> omega)
 . obtain ⟨its, r', pl, hz⟩ := I.tuple hq
   have hlen := r'.length
   obtain ⟨o, ho, hc, n, hd⟩ := pl
   exact call_list_seq p (.inr rfl) ho hc hd (fun h' c' kp e => fin its r' hz h' c' kp e) (by simp only [List.size_toArray] <;> omega)
theorem za0 : CallR X (.type "tuple") (fun xs H Q => ∃ p ys, xs = [.ref p] ∧ ((SqL X.K H p ys ∧ ∀ l, H l = none → Q (.ref l) (upd H l (.tup ys))) ∨ (SqT X.K H p ys ∧ Q (.ref p) H))) := by
 intro pins s σ H xs us Q I r h
 obtain ⟨p, ys, rfl, h⟩ := h
 obtain ⟨u, rfl, rx⟩ := vals1 r
 cases rx
 rcases h with ⟨hq, q⟩ | ⟨hq, q⟩
 . obtain ⟨its, r', pl, hz⟩ := I.list hq
   have hlen := r'.length
   refine call_tuple_list pl.isList (fun h' kp => ?_) (by simp only [List.size_toArray] <;> omega)
   have I1 : Inv X pins σ H { s with heap := h' } := I.kept (t' := s.toks) kp
   have I2 : Inv X pins σ (upd H h'.objs.size (.tup ys)) { s with heap := h'.push { cls := .type "tuple", data := .seq its.toArray } } :=
     I1.laid (t' := s.toks) (fun b o e => Heap.get?_push_of_some _ e) (Nat.le_refl _) (show ObjOk X.prog X.w _ _ _ (.tup ys) from ⟨hz, its, r', IsTup.new _ _⟩)
   exact ⟨.ref h'.objs.size, _, I2, rfl, q _ (I1.hok.fresh (Nat.le_refl _))⟩
 . obtain ⟨its, r', pl, hz⟩ := I.tuple hq
   exact call_tuple_same pl ⟨.ref p, H, I, rfl, q⟩
def tyV (K : PySem.W.Frag) (T : String) (x : V) (H : Hp) : Prop := match x with
 | .str _ => T = "str"
 | .int _ => T = "int"
 | .ref p => (T = "list" ∧ ∃ xs, SqL K H p xs) ∨ (T = "tuple" ∧ ∃ o, K.lookup p = some o ∧ o.cls = .type "tuple" ∧ o.dict = none) ∨
     (T = "dict" ∧ ((∃ kvs, H p = some (.dK kvs)) ∨ ∃ kvs, H p = some (.dT kvs))) ∨ (T = "set" ∧ ∃ S n, H p = some (.set S n))
 | _ => False
theorem tyV_is {pins : List (Addr × Obj)} {σ : St} {H : Hp} {s : Shared} {T : String} {x : V} {v : Value} (I : Inv X pins σ H s) (r : RelV x v) (ty : tyV X.K T x H) :
   s.TypeIs v T ∧ ∀ a, v = .ref a → ∃ ob, s.heap.get? a = some ob ∧ ob.dict = none := by
 cases x with
 | str z =>
   obtain ⟨t, rfl⟩ := r
   cases (show T = "str" from ty)
   exact ⟨typeIs_str s z t, fun _ e => nomatch e⟩
 | int i =>
   obtain ⟨t, rfl⟩ := r
   cases (show T = "int" from ty)
   exact ⟨typeIs_int s i t, fun _ e => nomatch e⟩
 | ref p =>
   cases r
   rcases ty with ⟨rfl, xs, hq⟩ | ⟨rfl, o, hk, hc, hd⟩ | ⟨rfl, hk⟩ | ⟨rfl, S, n, hk⟩
   . obtain ⟨its, _, pl, _⟩ := I.list hq
     refine ⟨pl.isList.typeIs, fun a e => ?_⟩
     cases e
     obtain ⟨o, n, e, c, hd, _⟩ := pl
     exact ⟨o, e, hd⟩
   . refine ⟨⟨o, I.kIn p o hk, hc⟩, fun a e => ?_⟩
     cases e
     exact ⟨o, I.kIn _ o hk, hd⟩
   . have z : ∃ o, s.heap.get? p = some o ∧ o.ExactDict := by
       rcases hk with ⟨kvs, hk⟩ | ⟨kvs, hk⟩
       . obtain ⟨_, _, _, _, o, _, _, e, ex, _⟩ := I.hok p _ hk
         exact ⟨o, e, ex⟩
       . obtain ⟨_, _, _, _, o, _, _, e, ex, _⟩ := I.hok p _ hk
         exact ⟨o, e, ex⟩
     obtain ⟨o, e, ex⟩ := z
     refine ⟨⟨o, e, ex.1⟩, fun a e2 => ?_⟩
     cases e2
     exact ⟨o, e, ex.2.1⟩
   . obtain ⟨o, _, _, _, e, ex, _⟩ := I.hok p _ hk
     refine ⟨⟨o, e, ex.1⟩, fun a e2 => ?_⟩
     cases e2
     exact ⟨o, e, ex.2.1⟩
 | _ => exact False.elim ty
def tBM (K : PySem.W.Frag) (T : String) (r : V → List V → Hp → VK → Prop) (to : TE) (t : TA) : TE := fun σ H Q => to σ H fun x H1 => tyV K T x H1 ∧ t σ H1 fun xs H2 => r x xs H2 Q
variable {o e : Expr} {es : List Expr} {to : TE} {t : TA} {name : Str} {apos cpos : Pos} {T id : String} {r : V → List V → Hp → VK → Prop}
theorem pe_bm (pa : PlainAttrs T) (slot : Slot T name id) (hty : typeOf (.builtin id) = pure (.type "method_descriptor")) (hm : MtR X id r) (ho : PE X o to) (ha : PA X (e :: es) t)
   (hbase : attributeBase o name X.env (eval o X.env) = eval o X.env := by rfl)
   (hfew : ((backTo cpos (starEach (e :: es) X.env)).all (fun x => !x.1) && (backToKw cpos (keywordEach [] X.env)).all (fun x => x.1.isSome)
     && decide ((e :: es).length + ([] : List Keyword).length + (if ([] : List Keyword).isEmpty then 0 else 1) < 30)) = true := by rfl)
   (hline : (apos.endLine == cpos.line) = true := by rfl) (hs : starEach (e :: es) X.env = (false, eval e X.env) :: starEach es X.env := by rfl) (hplain : (backTo cpos (starEach es X.env)).any (·.1) = false := by rfl) :
   PE X (.Call (.Attribute o name apos) (e :: es) [] cpos) (tBM X.K T r to t) := by
 intro pins s σ H Q I h
 refine wpAny_Call_method_late hbase hfew hline rfl (thn (ho pins s σ H _ I h) fun v s1 ⟨x, H1, I1, r1, ty, q1⟩ => ?_)
 obtain ⟨h1, h2⟩ := tyV_is I1 r1 ty
 refine ⟨T, id, pa, slot, hty, h1, h2, ?_⟩
 have hA := ha cpos pins s1 σ H1 _ I1 q1
 rw [hs] at hA ⊢
 refine Calls.callWith_builtin (by show (false || (backTo cpos (starEach es X.env)).any (·.1)) = false; rw [hplain] <;> rfl) (Calls.evalArgs_plain ?_)
 exact thn hA fun us s2 ⟨vs, H2, I2, r2, q2⟩ => hm pins s2 σ H2 x vs v us Q I2 r1 r2 q2
end
def MtM (X : Cx) (id : String) (r : V → List V → Hp → VK → Prop) : Prop :=
 ∀ (pins : List (Addr × Obj)) (s : Shared) (σ : St) (H : Hp) (x : V) (xs : List V) (v : Value) (us : List Value) (Q : VK), Inv X pins σ H s → RelV x v → Vals xs us → r x xs H Q →
   wpAny (model X.prog X.w) X.A (call (.builtin id) (v :: us)) (EP X pins σ Q) X.xe s
theorem Vals.one : ∀ {x : V} {us : List Value}, Vals [x] us → ∃ u, us = [u] ∧ RelV x u
 | _, _, .cons r .nil => ⟨_, rfl, r⟩
theorem Vals.two : ∀ {x y : V} {us : List Value}, Vals [x, y] us → ∃ u v, us = [u, v] ∧ RelV x u ∧ RelV y v
 | _, _, _, .cons r (.cons q .nil) => ⟨_, _, rfl, r, q⟩
section
variable {X : Cx} {pins : List (Addr × Obj)} {σ : St} {H : Hp} {s : Shared} {l b : Addr} {xs ys zs : List V}
theorem Inv.lset {its its' : List Value} {n : Nat} {f : Array Value → Array Value} {t' : Nat} (I : Inv X pins σ H s) (hH : H l = some (.lst xs))
   (e : s.heap.get? l = some { cls := .type "list", data := .seq its.toArray n }) (hf : f its.toArray = its'.toArray) (hv : Vals ys its') (hz : ys.length ≤ sizeLine) :
   Inv X pins σ (upd H l (.lst ys)) { s with heap := s.heap.update l (Obj.mapSeq f), toks := t' } := by
 have q := PySem.IsL.update e f
 rw [hf] at q
 refine I.write (x := l) (e := l) (by rw [hH]; exact trivial) (.inl rfl) (fun b' u hb hu => (Heap.get?_update_other s.heap (Obj.mapSeq f) (Ne.symm hb)).trans hu) ⟨_, q⟩ ?_
 exact ⟨hz, its', _, hv, q⟩
theorem Inv.lnew {its : List Value} {t' : Nat} (I : Inv X pins σ H s) (hv : Vals ys its) (hz : ys.length ≤ sizeLine) :
   Inv X pins σ (upd H s.heap.objs.size (.lst ys)) { s with heap := s.heap.push { cls := .type "list", data := .seq its.toArray }, toks := t' } :=
 I.laid (fun _ _ q => Heap.get?_push_of_some _ q) (Nat.le_refl _) ⟨hz, its, 0, hv, Heap.get?_push_size _ rfl⟩
theorem Inv.fresh (I : Inv X pins σ H s) : H s.heap.objs.size = none := I.hok.fresh (Nat.le_refl _)
theorem Inv.lstM (I : Inv X pins σ H s) (hH : H l = some (.lst xs)) : xs.length ≤ sizeLine ∧ ∃ (its : List Value) (n : Nat), Vals xs its ∧ xs.length = its.length ∧ s.heap.get? l = some { cls := .type "list", data := .seq its.toArray n } := by
 obtain ⟨z, its, n, r, e⟩ := I.hok l _ hH
 exact ⟨z, its, n, r, r.length, e⟩
theorem z184 {n : Nat} (h : n ≤ sizeLine) : Builtin.List.listTooLong n = false := by
 unfold Builtin.List.listTooLong
 exact decide_eq_false (by omega)
end
section
variable {X : Cx}
def z156 : V → List V → Hp → VK → Prop := fun x vs H Q => ∃ l xs y, x = .ref l ∧ vs = [y] ∧ H l = some (.lst xs) ∧ xs.length < sizeLine ∧ Q .non (upd H l (.lst (xs ++ [y])))
theorem z8c : MtM X "list.append" z156 := by
 intro pins s σ H x vs v us Q I rx rv h
 obtain ⟨l, xs, y, rfl, rfl, hH, hz, q⟩ := h
 cases rx
 obtain ⟨u, rfl, ru⟩ := rv.one
 obtain ⟨z, its, n, r, hl, e⟩ := I.lstM hH
 refine call_meets F.slot_list_append ⟨_, e, rfl⟩ F.entry_list_append (F.args_list_append_2 _ _) (PySem.list_append l its.toArray n u (by rw [List.size_toArray]; omega)) ⟨e, ?_⟩
 refine ⟨.non, _, I.lset (its' := its ++ [u]) hH e (by simp) (r.append (.cons ru .nil)) ?_, rfl, q⟩
 rw [List.length_append, List.length_singleton]
 omega
def z157 : V → List V → Hp → VK → Prop := fun x vs H Q => ∃ l b xs zs, x = .ref l ∧ vs = [.ref b] ∧ H l = some (.lst xs) ∧ H b = some (.lst zs) ∧ xs.length + zs.length ≤ sizeLine ∧ Q .non (upd H l (.lst (xs ++ zs)))
theorem z12f : MtM X "list.extend" z157 := by
 intro pins s σ H x vs v us Q I rx rv h
 obtain ⟨l, b, xs, zs, rfl, rfl, hH, hB, hz, q⟩ := h
 cases rx
 obtain ⟨u, rfl, ru⟩ := rv.one
 cases ru
 obtain ⟨z, its, n, r, hl, e⟩ := I.lstM hH
 obtain ⟨z2, its2, n2, r2, hl2, e2⟩ := I.lstM hB
 have hsz : its.toArray.size + its2.toArray.size ≤ sizeLine := by rw [List.size_toArray, List.size_toArray]; omega
 have hlong : ¬ (!its.toArray.isEmpty && Builtin.List.listTooLong (its.toArray.size + its2.toArray.size)) = true := by
   rw [z184 hsz, Bool.and_false]
   exact Bool.false_ne_true
 refine call_meets F.slot_list_extend ⟨_, e, rfl⟩ F.entry_list_extend (F.args_list_extend_2 _ _)
   (AutoSeq1.list_extend_list_list_0 l its.toArray n b its2.toArray n2 hlong (by rw [List.size_toArray]; omega) (by omega)) ⟨e, e2, ?_⟩
 refine ⟨.non, _, I.lset (its' := its ++ its2) hH e (by simp) (r.append r2) ?_, rfl, q⟩
 rw [List.length_append]
 omega
def rCat : R2 := fun x y H Q => ∃ l b xs zs, x = .ref l ∧ y = .ref b ∧ H l = some (.lst xs) ∧ H b = some (.lst zs) ∧ xs.length + zs.length ≤ sizeLine ∧ ∀ p, H p = none → Q (.ref p) (upd H p (.lst (xs ++ zs)))
theorem op_cat : OpR X (binaryOp .Add) rCat := by
 intro pins s σ H x y v u Q I rx ry h
 obtain ⟨l, b, xs, zs, rfl, rfl, hH, hB, hz, q⟩ := h
 cases rx
 cases ry
 obtain ⟨z, its, n, r, hl, e⟩ := I.lstM hH
 obtain ⟨z2, its2, n2, r2, hl2, e2⟩ := I.lstM hB
 refine PySem.P.add_list e e2 ?_ (by rw [List.size_toArray, List.size_toArray]; omega)
 have ea : its.toArray ++ its2.toArray = (its ++ its2).toArray := by simp
 rw [ea]
 exact ⟨.ref _, _, I.lnew (t' := s.toks) (r.append r2) (by rw [List.length_append]; omega), rfl, q _ I.fresh⟩
end
section
variable {κ : Type} [DecidableEq κ]
def valV (kvs : List (κ × V)) (k : κ) : Option V := (kvs.find? fun kv => decide (kv.1 = k)).map (·.2)
def putK (kvs : List (κ × V)) (k : κ) (v : V) : List (κ × V) :=
 if (kvs.any fun kv => decide (kv.1 = k)) = true then kvs.map (fun kv => if kv.1 = k then (kv.1, v) else kv) else kvs ++ [(k, v)]
theorem zba {p : κ × V} {r : List (κ × V)} {k : κ} (e : p.1 = k) : valV (p :: r) k = some p.2 := by simp [valV, List.find?_cons, e]
theorem zbb {p : κ × V} {r : List (κ × V)} {k : κ} (e : ¬ p.1 = k) : valV (p :: r) k = valV r k := by simp [valV, List.find?_cons, e]
theorem zfe (k : κ) : ∀ kvs : List (κ × V), (kvs.any fun kv => decide (kv.1 = k)) = (valV kvs k).isSome
 | [] => rfl
 | p :: r => by
   rw [List.any_cons]
   by_cases e : p.1 = k
   . simp only [zba e, decide_eq_true e, Bool.true_or, Option.isSome_some]
   . rw [zbb e, decide_eq_false e, Bool.false_or]; exact zfe k r
theorem z58 (kvs : List (κ × V)) (k : κ) (v : V) : (putK kvs k v).length ≤ kvs.length + 1 := by
 unfold putK
 split
 . rw [List.length_map]; omega
 . rw [List.length_append, List.length_cons, List.length_nil]; omega
theorem RelO.isSome_eq {o : Option V} {u : Option Value} (r : RelO o u) : o.isSome = u.isSome := by
 cases o with
 | none => cases u with
   | none => rfl
   | some _ => exact (show False from r).elim
 | some _ => cases u with
   | none => exact (show False from r).elim
   | some _ => rfl
theorem KV.val {kvs : List (κ × V)} {vs : List (κ × Value)} (r : KV kvs vs) (k : κ) : RelO (valV kvs k) (valueAt vs k) := by
 unfold KV at r
 induction r with
 | nil => exact True.intro
 | @cons p q ps qs h t ih =>
   obtain ⟨h1, h2⟩ := h
   by_cases e : p.1 = k
   . have e' : q.1 = k := h1.symm.trans e
     have b : valueAt (q :: qs) k = some q.2 := by simp [valueAt, List.find?_cons, e']
     rw [zba e, b]; exact h2
   . have e' : ¬ q.1 = k := fun z => e (h1.trans z)
     have b : valueAt (q :: qs) k = valueAt qs k := by simp [valueAt, List.find?_cons, e']
     rw [zbb e, b]; exact ih
theorem KV.any {kvs : List (κ × V)} {vs : List (κ × Value)} (r : KV kvs vs) (k : κ) : (kvs.any fun kv => decide (kv.1 = k)) = vs.any fun kv => decide (kv.1 = k) := by
 unfold KV at r
 induction r with
 | nil => rfl
 | cons h t ih => rw [List.any_cons, List.any_cons, ih, h.1]
theorem KV.repl {kvs : List (κ × V)} {vs : List (κ × Value)} (r : KV kvs vs) (k : κ) {y : V} {u : Value} (ry : RelV y u) :
   KV (kvs.map fun kv => if kv.1 = k then (kv.1, y) else kv) (vs.map fun kv => if kv.1 = k then (kv.1, u) else kv) := by
 unfold KV at r ⊢
 induction r with
 | nil => exact .nil
 | @cons p q ps qs h t ih =>
   rw [List.map_cons, List.map_cons]
   refine .cons ?_ ih
   obtain ⟨h1, h2⟩ := h
   by_cases e : p.1 = k
   . rw [if_pos e, if_pos (h1.symm.trans e)]; exact ⟨h1, ry⟩
   . rw [if_neg e, if_neg (fun z => e (h1.trans z))]; exact ⟨h1, h2⟩
theorem KV.put {kvs : List (κ × V)} {vs : List (κ × Value)} (r : KV kvs vs) (k : κ) {y : V} {u : Value} (ry : RelV y u) : KV (putK kvs k y) (stored vs k u) := by
 unfold putK stored
 rw [r.any k]
 by_cases e : (vs.any fun kv => decide (kv.1 = k)) = true
 . rw [if_pos e, if_pos e]; exact r.repl k ry
 . rw [if_neg e, if_neg e]; exact Paired.snoc r ⟨rfl, ry⟩
theorem KV.length {kvs : List (κ × V)} {vs : List (κ × Value)} (r : KV kvs vs) : kvs.length = vs.length := Paired.length r
end
theorem kV_is {P : Program} {w : World} {k : Key} {u : Value} (r : RelV (kV k) u) : (z25 P w).is k u = true := by
 cases k with
 | inl i => obtain ⟨t, e⟩ := (show ∃ t, u = Value.int i t from r); subst e; exact ze9 P w i t
 | inr x => obtain ⟨t, e⟩ := (show ∃ t, u = Value.str x t from r); subst e; exact zea P w x t
theorem zd4 {P : Program} {w : World} : ∀ {ks : List Key} {us : List Value}, Vals (ks.map kV) us → ItemsAre (z25 P w) ks us
 | [], _, r => by rw [List.map_nil] at r; cases r; exact .nil
 | k :: ks, _, r => by
   rw [List.map_cons] at r
   cases r with
   | cons h t => exact .cons (kV_is h) (zd4 t)
abbrev KT (H : Hp) : List (List Key × V) → List (List Key × Addr × Value) → Prop := Paired fun p q => p.1 = q.1 ∧ H q.2.1 = some (.tup (p.1.map kV)) ∧ RelV p.2 q.2.2
theorem KT.val {H : Hp} {kvs : List (List Key × V)} {xs : List (List Key × Addr × Value)} (r : KT H kvs xs) (k : List Key) : RelO (valV kvs k) ((atKey xs k).map (·.2)) := by
 induction r with
 | nil => exact True.intro
 | @cons p q ps qs h t ih =>
   obtain ⟨h1, _, h2⟩ := h
   by_cases e : p.1 = k
   . have e' : q.1 = k := h1.symm.trans e
     have b : atKey (q :: qs) k = some q.2 := by simp [atKey, List.find?_cons, e']
     rw [zba e, b]; exact h2
   . have e' : ¬ q.1 = k := fun z => e (h1.trans z)
     have b : atKey (q :: qs) k = atKey qs k := by simp [atKey, List.find?_cons, e']
     rw [zbb e, b]; exact ih
theorem KT.repl {H : Hp} {kvs : List (List Key × V)} {xs : List (List Key × Addr × Value)} (r : KT H kvs xs) (k : List Key) {y : V} {u : Value} (ry : RelV y u) :
   KT H (kvs.map fun kv => if kv.1 = k then (kv.1, y) else kv) (xs.map (putAt k u)) := by
 induction r with
 | nil => exact .nil
 | @cons p q ps qs h t ih =>
   rw [List.map_cons, List.map_cons]
   refine .cons ?_ ih
   obtain ⟨h1, h2, h3⟩ := h
   unfold putAt
   by_cases e : p.1 = k
   . rw [if_pos e, if_pos (h1.symm.trans e)]; exact ⟨h1, h2, ry⟩
   . rw [if_neg e, if_neg (fun z => e (h1.trans z))]; exact ⟨h1, h2, h3⟩
theorem KT.put {H : Hp} {kvs : List (List Key × V)} {xs : List (List Key × Addr × Value)} (r : KT H kvs xs) (k : List Key) {b : Addr} {y : V} {u : Value} (hb : H b = some (.tup (k.map kV))) (ry : RelV y u) :
   KT H (putK kvs k y) (storedH xs k b u) := by
 have e : (kvs.any fun kv => decide (kv.1 = k)) = (atKey xs k).isSome := by
   rw [zfe, (r.val k).isSome_eq, Option.isSome_map]
 unfold putK storedH
 rw [e]
 by_cases q : (atKey xs k).isSome = true
 . rw [if_pos q, if_pos q]; exact r.repl k ry
 . rw [if_neg q, if_neg q]; exact Paired.snoc r ⟨rfl, hb, ry⟩
theorem KT.keeps {H H' : Hp} {kvs : List (List Key × V)} {xs : List (List Key × Addr × Value)} (r : KT H kvs xs) (ht : ∀ b ys, H b = some (.tup ys) → H' b = some (.tup ys)) : KT H' kvs xs :=
 Paired.mapP r fun _ _ z => ⟨z.1, ht _ _ z.2.1, z.2.2⟩
section
variable {P : Program} {w : World} {H : Hp} {h : Heap} {a : Addr}
theorem rd_of {u : HO} (ok : HOk P w H h) (e : Rd H a u) : ObjOk P w H h a u := e.ok ok
theorem dk_rd {kvs : List (Key × V)} (ok : HOk P w H h) (e : Rd H a (.dK kvs)) : kvs.length ≤ sizeLine ∧ (a == sysModules) = false ∧ ∃ vs, KV kvs vs ∧ h.DictOf (z25 P w) a vs :=
 show ObjOk P w H h a (.dK kvs) from rd_of ok e
theorem dk_of {kvs : List (Key × V)} (ok : HOk P w H h) (e : H a = some (.dK kvs)) : kvs.length ≤ sizeLine ∧ (a == sysModules) = false ∧ ∃ vs, KV kvs vs ∧ h.DictOf (z25 P w) a vs := dk_rd ok (.inl e)
theorem key_of {ks : List Key} (ok : HOk P w H h) (e : H a = some (.tup (ks.map kV))) : (tupleKind (z25 P w)).is h ks a := by
 obtain ⟨_, its, r, o, h1, h2, n, h3⟩ := (show ObjOk P w H h a (.tup (ks.map kV)) from ok a _ e)
 exact ⟨o, its.toArray, n, h1, h2, h3, by simpa using zd4 r⟩
theorem dt_rd {kvs : List (List Key × V)} (ok : HOk P w H h) (e : Rd H a (.dT kvs)) : kvs.length ≤ sizeLine ∧ (a == sysModules) = false ∧
   ∃ xs, KT H kvs xs ∧ h.DictOfH (tupleKind (z25 P w)) a xs := by
 obtain ⟨z, y, xs, r, o, es, ep, h1, h2, h3, h4, h5⟩ := (show ObjOk P w H h a (.dT kvs) from rd_of ok e)
 refine ⟨z, y, xs, r, o, es, ep, h1, h2, h3, h4, fun x hx => ?_, h5⟩
 have all : ∀ {l : List (List Key × V)} {m : List (List Key × Addr × Value)}, KT H l m → ∀ x ∈ m, (tupleKind (z25 P w)).is h x.1 x.2.1 := by
   intro l m q
   induction q with
   | nil => intro x hx; exact nomatch hx
   | @cons p q ps qs hq t ih =>
     intro x hx
     rcases List.mem_cons.mp hx with e | hx
     . subst e
       exact key_of ok (by rw [← hq.1]; exact hq.2.1)
     . exact ih x hx
 exact all r x hx
theorem dt_of {kvs : List (List Key × V)} (ok : HOk P w H h) (e : H a = some (.dT kvs)) : kvs.length ≤ sizeLine ∧ (a == sysModules) = false ∧
   ∃ xs, KT H kvs xs ∧ h.DictOfH (tupleKind (z25 P w)) a xs := dt_rd ok (.inl e)
end
def DGet (H : Hp) (a : Addr) (y : V) (r : Option V) : Prop :=
 (∃ kvs k, Rd H a (.dK kvs) ∧ y = kV k ∧ r = valV kvs k) ∨ ∃ kvs k b, Rd H a (.dT kvs) ∧ y = .ref b ∧ H b = some (.tup (k.map kV)) ∧ r = valV kvs k
def DPut (H : Hp) (a : Addr) (y v : V) (H' : Hp) : Prop :=
 (∃ kvs k, H a = some (.dK kvs) ∧ y = kV k ∧ kvs.length < sizeLine ∧ H' = upd H a (.dK (putK kvs k v))) ∨
 ∃ kvs k b, H a = some (.dT kvs) ∧ y = .ref b ∧ H b = some (.tup (k.map kV)) ∧ kvs.length < sizeLine ∧ H' = upd H a (.dT (putK kvs k v))
theorem DGet.k {H : Hp} {a : Addr} {kvs : List (Key × V)} {k : Key} (e : H a = some (.dK kvs)) : DGet H a (kV k) (valV kvs k) := .inl ⟨kvs, k, .inl e, rfl, rfl⟩
theorem DGet.t {H : Hp} {a b : Addr} {kvs : List (List Key × V)} {k : List Key} (e : H a = some (.dT kvs)) (eb : H b = some (.tup (k.map kV))) : DGet H a (.ref b) (valV kvs k) := .inr ⟨kvs, k, b, .inl e, rfl, eb, rfl⟩
theorem DPut.k {H : Hp} {a : Addr} {kvs : List (Key × V)} {k : Key} {v : V} (e : H a = some (.dK kvs)) (hl : kvs.length < sizeLine) : DPut H a (kV k) v (upd H a (.dK (putK kvs k v))) := .inl ⟨kvs, k, e, rfl, hl, rfl⟩
theorem DPut.t {H : Hp} {a b : Addr} {kvs : List (List Key × V)} {k : List Key} {v : V} (e : H a = some (.dT kvs)) (eb : H b = some (.tup (k.map kV))) (hl : kvs.length < sizeLine) :
   DPut H a (.ref b) v (upd H a (.dT (putK kvs k v))) := .inr ⟨kvs, k, b, e, rfl, eb, hl, rfl⟩
section
variable {X : Cx} {pins : List (Addr × Obj)} {σ : St} {H : Hp} {s : Shared} {a : Addr} {y v : V} {u r : Value} {o : Option V} {A : Around} {E : Value → Shared → Prop}
theorem Inv.big (I : Inv X pins σ H s) : sysModules < s.heap.objs.size := by
 have h : mainGlobals < s.heap.objs.size := (I.mod.glob.keeps I.bk).lt
 exact Nat.lt_trans (by decide) h
theorem z130 {Q : Value → Shared → Prop} (hu : A.units + 1 < cLine) (I : Inv X pins σ H s) (g : DGet H a y (some v)) (ry : RelV y u) (h : ∀ w' s', Inv X pins σ H s' → RelV v w' → Q w' s') :
   wpAny (model X.prog X.w) A (getItem (.ref a) u) Q E s := by
 rcases g with ⟨kvs, k, e, ey, l⟩ | ⟨kvs, k, b, e, ey, eb, l⟩
 . subst ey
   obtain ⟨z, hd, vs, rel, dd⟩ := dk_rd I.hok e
   obtain ⟨w', hw, rw'⟩ := RelO.some_of (v := v) (o := valueAt vs k) (by rw [l]; exact rel.val k)
   exact wpAny_getItem_of (kV_is ry) dd.mapOf hw (h w' _ (I.tok _) rw')
 . subst ey
   cases (show u = Value.ref b from ry)
   obtain ⟨z, hd, xs, rel, dd⟩ := dt_rd I.hok e
   obtain ⟨w', hw, rw'⟩ := RelO.some_of (v := v) (o := (atKey xs k).map (·.2)) (by rw [l]; exact rel.val k)
   obtain ⟨p, hp, hp2⟩ := Option.map_eq_some_iff.mp hw
   refine wpAny_getItem_heap (tupleKind_room_in1 hu) (key_of I.hok eb) dd hp ?_
   rw [hp2]
   exact h w' _ (I.tok _) rw'
theorem d_in {Q : Value → Shared → Prop} (hu : A.units + 1 < cLine) (I : Inv X pins σ H s) (g : DGet H a y o) (ry : RelV y u) (h : ∀ s', Inv X pins σ H s' → Q (.bool o.isSome) s') :
   wpAny (model X.prog X.w) A (compareOp .In u (.ref a)) Q E s := by
 rcases g with ⟨kvs, k, e, ey, l⟩ | ⟨kvs, k, b, e, ey, eb, l⟩
 . subst ey
   obtain ⟨z, hd, vs, rel, dd⟩ := dk_rd I.hok e
   refine wpAny_in_of (kV_is ry) hd dd.mapOf ?_
   rw [← (rel.val k).isSome_eq, ← l]
   exact h _ (I.tok _)
 . subst ey
   cases (show u = Value.ref b from ry)
   obtain ⟨z, hd, xs, rel, dd⟩ := dt_rd I.hok e
   refine wpAny_in_heap (tupleKind_room_in1 hu) (key_of I.hok eb) hd dd ?_
   have q := (rel.val k).isSome_eq
   rw [Option.isSome_map] at q
   rw [← q, ← l]
   exact h _ (I.tok _)
theorem z1b6 {Q : Value → Shared → Prop} (hu : A.units + 1 < cLine) (I : Inv X pins σ H s) (g : DGet H a y o) (ry : RelV y u) (h : ∀ s', Inv X pins σ H s' → Q (.bool (!o.isSome)) s') :
   wpAny (model X.prog X.w) A (compareOp .NotIn u (.ref a)) Q E s := by
 rcases g with ⟨kvs, k, e, ey, l⟩ | ⟨kvs, k, b, e, ey, eb, l⟩
 . subst ey
   obtain ⟨z, hd, vs, rel, dd⟩ := dk_rd I.hok e
   refine wpAny_notIn_of (kV_is ry) hd dd.mapOf ?_
   rw [← (rel.val k).isSome_eq, ← l]
   exact h _ (I.tok _)
 . subst ey
   cases (show u = Value.ref b from ry)
   obtain ⟨z, hd, xs, rel, dd⟩ := dt_rd I.hok e
   refine wpAny_notIn_heap (tupleKind_room_in1 hu) (key_of I.hok eb) hd dd ?_
   have q := (rel.val k).isSome_eq
   rw [Option.isSome_map] at q
   rw [← q, ← l]
   exact h _ (I.tok _)
theorem zd5 {h' : Heap} {t' : Nat} {ob : HO} (I : Inv X pins σ H s) (mu : Mut (H a)) (hs : Heap.SameBut a s.heap h') (he : ∃ q, h'.get? a = some q) (new : ObjOk X.prog X.w (upd H a ob) h' a ob) :
   Inv X pins σ (upd H a ob) { s with heap := h', toks := t' } :=
 I.write (x := a) (e := a) mu (.inl rfl) (fun b q hb z => (hs.2 b hb).trans z) he new
theorem dk_new {P : Program} {w : World} {H' : Hp} {h' : Heap} {kvs : List (Key × V)} {vs : List (Key × Value)} (z : kvs.length ≤ sizeLine) (hd : (a == sysModules) = false) (rel : KV kvs vs) (dd : h'.DictOf (z25 P w) a vs) :
   ObjOk P w H' h' a (.dK kvs) := ⟨z, hd, vs, rel, dd⟩
theorem z131 {H' : Hp} {Q : Unit → Shared → Prop} (hu : A.units + 1 < cLine) (I : Inv X pins σ H s) (g : DPut H a y v H') (ry : RelV y u) (rv : RelV v r) (h : ∀ s', Inv X pins σ H' s' → Q () s') :
   wpAny (model X.prog X.w) A (setItem (.ref a) u r) Q E s := by
 rcases g with ⟨kvs, k, e, ey, l, eH⟩ | ⟨kvs, k, b, e, ey, eb, l, eH⟩
 . subst ey eH
   obtain ⟨z, hd, vs, rel, dd⟩ := dk_of I.hok e
   have hz : vs.length ≤ sizeLine := by rw [← rel.length]; exact z
   have hl : (putK kvs k v).length ≤ sizeLine := by have := z58 kvs k v; omega
   refine wpAny_setItem_pairs (hsz := hz) (kV_is ry) dd fun h' dd' hs => h _ ?_
   have he : ∃ q, h'.get? a = some q := let ⟨q, _, _, hq, _⟩ := dd'; ⟨q, hq⟩
   exact zd5 I (by rw [e]; exact True.intro) hs he (dk_new hl hd (rel.put k rv) dd')
 . subst ey eH
   cases (show u = Value.ref b from ry)
   obtain ⟨z, hd, xs, rel, dd⟩ := dt_of I.hok e
   have hz : xs.length ≤ sizeLine := by rw [← Paired.length rel]; exact z
   have hl : (putK kvs k v).length ≤ sizeLine := by have := z58 kvs k v; omega
   refine wpAny_setItem_heap (hsz := hz) (tupleKind_room_in1 hu) (key_of I.hok eb) dd fun h' dd' hs => h _ ?_
   obtain ⟨q, es, ep, hq, h2, h3, h4, _, h5⟩ := dd'
   refine zd5 I (by rw [e]; exact True.intro) hs ⟨q, hq⟩ ⟨hl, hd, _, (rel.put k eb rv).keeps fun c ys ec => ?_, q, es, ep, hq, h2, h3, h4, h5⟩
   rw [upd_ne (ne_of ec e (fun z => nomatch z))]
   exact ec
end
section
variable {X : Cx} {pins : List (Addr × Obj)} {σ : St} {H : Hp} {s : Shared} {a : Addr} {kvs : List (Key × V)} {k : Key} {u : Value} {A : Around} {E : Value → Shared → Prop}
theorem d_len {Q : Value → Shared → Prop} (I : Inv X pins σ H s) (e : Rd H a (.dK kvs)) (h : ∀ t s', Inv X pins σ H s' → Q (.int kvs.length t) s') : wpAny (model X.prog X.w) A (call (.builtin "len") [.ref a]) Q E s := by
 obtain ⟨z, hd, vs, rel, dd⟩ := dk_rd I.hok e
 refine call_len_dict hd dd (by rw [← rel.length]; rw [sizeLine_eq] at z; omega) ?_
 rw [← rel.length]
 exact h _ _ (I.tok _)
end
theorem zec {X : Cx} {pins : List (Addr × Obj)} {σ : St} {H : Hp} {s : Shared} {a : Addr} {y : V} {o : Option V} (I : Inv X pins σ H s) (g : DGet H a y o) : s.TypeIs (.ref a) "dict" := by
 rcases g with ⟨kvs, k, e, _, _⟩ | ⟨kvs, k, b, e, _, _, _⟩
 . obtain ⟨_, _, vs, _, dd⟩ := dk_rd I.hok e
   exact dd.typeIs
 . obtain ⟨_, _, xs, _, dd⟩ := dt_rd I.hok e
   exact dd.typeIs
theorem zff {P : Program} {w : World} {H : Hp} (h : Heap) (hb : sysModules < h.objs.size) : ObjOk P w H (h.push { cls := .type "dict", data := .dict #[] }) h.objs.size (.dK []) :=
 ⟨Nat.zero_le _, beq_eq_false_iff_ne.mpr (Ne.symm (Nat.ne_of_lt hb)), [], .nil, Heap.DictOf.new h⟩
def tDNewK : TE := fun _ H Q => ∀ p, H p = none → Q (.ref p) (upd H p (.dK []))
section
variable {X : Cx} {pos : Pos}
theorem pe_dnewK : PE X (.Dict [] [] pos) tDNewK := fun pins s σ H Q I h =>
 wpAny_Dict_empty ⟨.ref s.heap.objs.size, _, I.laid (a := s.heap.objs.size) (o := .dK []) (t' := s.toks) (fun _ _ q => Heap.get?_push_of_some _ q) (Nat.le_refl _) (zff s.heap I.big), rfl, h _ (I.hok.fresh (Nat.le_refl _))⟩
end
def tPairs : List (TE × TE) → St → Hp → (List (V × V) → Hp → Prop) → Prop
 | [], _, H, Q => Q [] H
 | (tk, tv) :: r, σ, H, Q => tk σ H fun x H1 => tv σ H1 fun y H2 => tPairs r σ H2 fun ps H3 => Q ((x, y) :: ps) H3
abbrev VV : List (V × V) → List (Value × Value) → Prop := Paired fun p q => RelV p.1 q.1 ∧ RelV p.2 q.2
def PPs (X : Cx) (pos : Pos) (keys : List (Option Expr)) (values : List Expr) (trs : List (TE × TE)) : Prop :=
 ∀ (pins : List (Addr × Obj)) (s : Shared) (σ : St) (H : Hp) (Q : List (V × V) → Hp → Prop), Inv X pins σ H s → tPairs trs σ H Q →
   wpAny (model X.prog X.w) X.A (evalPairs (pairTrees keys values X.env pos)) (fun vs s' => ∃ ps H', Inv X pins σ H' s' ∧ VV ps vs ∧ Q ps H') X.xe s
theorem z1b7 {X : Cx} {pos : Pos} : PPs X pos [] [] [] := fun pins s σ H Q I h => pairTrees_nil_walk ⟨[], H, I, .nil, h⟩
theorem z100 {X : Cx} {pos : Pos} {k v : Expr} {ks : List (Option Expr)} {vs : List Expr} {tk tv : TE} {trs : List (TE × TE)} (hk : PE X k tk) (hv : PE X v tv) (hr : PPs X pos ks vs trs) :
   PPs X pos (some k :: ks) (v :: vs) ((tk, tv) :: trs) := fun pins s σ H Q I h =>
 pairTrees_cons_walk (thn (hk pins s σ H _ I h) fun u s1 ⟨x, H1, I1, rx, q1⟩ => thn (hv pins s1 σ H1 _ I1 q1) fun w2 s2 ⟨y, H2, I2, ry, q2⟩ =>
   thn (hr pins s2 σ H2 _ I2 q2) fun ws s3 ⟨ps, H3, I3, rel, q3⟩ => ⟨(x, y) :: ps, H3, I3, .cons ⟨rx, ry⟩ rel, q3⟩)
def mergeK (kvs more : List (Key × V)) : List (Key × V) := more.foldl (fun acc kv => putK acc kv.1 kv.2) kvs
theorem KV.merge : ∀ {more : List (Key × V)} {rs : List (Key × Value)} {kvs : List (Key × V)} {vs : List (Key × Value)}, KV more rs → KV kvs vs → KV (mergeK kvs more) (merged vs rs) := by
 intro more rs kvs vs r
 unfold KV at r
 induction r generalizing kvs vs with
 | nil => intro q; exact q
 | @cons p q ps qs h t ih =>
   intro r0
   have e : KV (putK kvs p.1 p.2) (stored vs q.1 q.2) := by
     have := r0.put p.1 h.2
     rw [← h.1]; exact this
   exact ih e
theorem z61 : ∀ (more kvs : List (Key × V)), (mergeK kvs more).length ≤ kvs.length + more.length
 | [], kvs => by show kvs.length ≤ kvs.length + 0; omega
 | p :: r, kvs => by
   have h1 := z61 r (putK kvs p.1 p.2)
   have h2 := z58 kvs p.1 p.2
   show (mergeK (putK kvs p.1 p.2) r).length ≤ _
   rw [List.length_cons]; omega
theorem za1 {P : Program} {w : World} : ∀ {kvs : List (Key × V)} {ws : List (Value × Value)}, VV (kvs.map fun kv => (kV kv.1, kv.2)) ws → ∃ rs, Carries (z25 P w) ws rs ∧ KV kvs rs
 | [], _, r => by rw [List.map_nil] at r; cases r; exact ⟨[], True.intro, .nil⟩
 | p :: kvs, _, r => by
   rw [List.map_cons] at r
   cases r with
   | @cons a b as bs h t =>
     obtain ⟨rs, c, q⟩ := za1 (P := P) (w := w) t
     obtain ⟨b1, b2⟩ := b
     exact ⟨(p.1, b2) :: rs, ⟨kV_is h.1, rfl, c⟩, .cons ⟨rfl, h.2⟩ q⟩
def tDisp (trs : List (TE × TE)) : TE := fun σ H Q => ∀ p, H p = none → tPairs trs σ (upd H p (.dK [])) fun ps H2 => H2 p = some (.dK []) ∧ ∃ kvs : List (Key × V), ps = kvs.map (fun kv => (kV kv.1, kv.2)) ∧ kvs.length ≤ 15 ∧ Q (.ref p) (upd H2 p (.dK (mergeK [] kvs)))
theorem z1b8 {X : Cx} {pos : Pos} {keys : List (Option Expr)} {values : List Expr} {trs : List (TE × TE)} (h : PPs X pos keys values trs) (hall : keys.all (·.isSome) = true) (hl : keys.length = values.length) (h0 : keys ≠ [])
   (h15 : keys.length ≤ 15) : PE X (.Dict keys values pos) (tDisp trs) := by
 intro pins s σ H Q I q
 have hn := I.hok.fresh (Nat.le_refl s.heap.objs.size)
 have I1 := I.laid (a := s.heap.objs.size) (o := .dK []) (h' := s.heap.push { cls := .type "dict", data := .dict #[] }) (t' := s.toks) (fun _ _ q => Heap.get?_push_of_some _ q) (Nat.le_refl _) (zff s.heap I.big)
 refine wpAny_Dict_walk (knd := z25 X.prog X.w) hall hl h0 h15 (thn (h pins _ σ _ _ I1 (q _ hn)) fun ws s2 ⟨ps, H2, I2, rel, e, kvs, ep, lk, q2⟩ => ?_)
 subst ep
 obtain ⟨rs, c, rk⟩ := za1 (P := X.prog) (w := X.w) rel
 obtain ⟨z, hd, vs0, r0, dd⟩ := dk_of I2.hok e
 cases r0
 refine ⟨rs, c, dd, fun h' dd' hs => ⟨.ref s.heap.objs.size, _, ?_, rfl, q2⟩⟩
 have hz : (mergeK [] kvs).length ≤ sizeLine := by
   have h1 := z61 kvs []
   rw [List.length_nil] at h1
   rw [sizeLine_eq]; omega
 have he : ∃ q, h'.get? s.heap.objs.size = some q := let ⟨q, _, _, hq, _⟩ := dd'; ⟨q, hq⟩
 exact zd5 I2 (by rw [e]; exact True.intro) hs he (dk_new hz hd (rk.merge .nil) dd')
end L2
namespace Att
open PySem PySem.W PySem.Calls PyProof.Rows
theorem z7d {P : Params} {h : Heap} : ∀ (ns : List Int) (vs : List Value), WellAll P h vs (ns.map WData.int) → IntsAre vs ns := by
 intro ns
 induction ns with
 | nil =>
   intro vs w
   rw [List.map_nil] at w
   cases w
   exact .nil
 | cons n ns ih =>
   intro vs w
   rw [List.map_cons] at w
   cases w with
   | cons a b =>
     cases a
     exact .cons _ _ (ih _ b)
theorem z132 {l : OpenLaw} {n : Nat} (hn : l.most = some n) {P : Params} {h : Heap} {args : List WData} {vals : List Value}
   (hpre : l.row.toRowW.claim.pre args = true) (hwl : WellAll P h vals args) :
   ∃ a vs ns, vals = [Value.ref a] ∧ args = [WData.list (ns.map WData.int)] ∧ h.get? a = some { cls := .type "list", data := .seq vs.toArray } ∧ IntsAre vs ns ∧ ns.length ≤ n := by
 have hsh : WShape.hasAll [] args [.list .int] = true := (pre_splitW hpre).1
 have hc : l.pre.holds [] { args := args } = true := (pre_splitW hpre).2
 obtain ⟨d, r, rfl, h1, h2⟩ := hasAllW_cons hsh
 obtain rfl := hasAllW_nil h2
 obtain ⟨xs, rfl, h3⟩ := hasW_list h1
 obtain ⟨ns, rfl⟩ := items_int h3
 have hlen : ns.length ≤ n := by
   unfold OpenLaw.pre at hc
   have h4 : (WTm.not (.lt (.lit (.int (n : Int))) (.len (.arg 0)))).holds [] { args := [.list (ns.map .int)] } = true := by
     have h4 := (holds_andW hc).1
     rw [hn] at h4
     exact h4
   have h5 := condW_of h4 (w_not (w_lt w_lit (w_len_list (w_arg rfl))))
   rw [List.length_map] at h5
   refine Nat.le_of_not_lt fun q => ?_
   have q' : (n : Int) < ((ns.length : Nat) : Int) := by omega
   first
     | (rw [decide_eq_true q'] at h5; exact absurd h5 (by decide))
     | (simp at h5; omega)
 cases hwl with
 | cons w1 w2 =>
   cases w2
   cases w1 with
   | list ho hall => exact ⟨_, _, ns, rfl, rfl, ho, z7d ns _ hall, hlen⟩
theorem z133 (l : OpenLaw) (args : List WData) : l.row.toRowW.claim.post args (.bool true) args = true :=
 postW_of (r := l.row.toRowW) (X := (true == true))
   (show WShape.has [] (.bool true) .bool = true by first | rfl | decide | simp [WShape.has, WShape.arms, WShape.armsAll])
   (show (WTm.eq .res (.lit (.bool true))).value [] { args := args, res := some (.bool true), after := args } = some (.bool (true == true)) from w_eq_bool (w_res rfl) w_lit) rfl
theorem attach_call {l : OpenLaw} {n : Nat} {q : Program} {loose : List Str} {XP : (Str → Option Value) → Heap → Prop} {YP : World → Heap → Prop} {d : DefRec}
   (hn : l.most = some n) (hdf : d.params.defaults = [])
   (call : ∀ (w : World) (s₀ s₁ : Shared) (mg mb : Str → Option Value) (fa : Addr) (o : Obj) (pm cd doc : Value) (a : Addr) (vs : List Value) (ns : List Int),
     Ground q loose [] XP w s₀ mg mb s₁.heap → YP w s₁.heap →
     s₁.heap.get? fa = some o → o.data = .func (docDef d.name d.params d.body d.scope pm cd doc) → s₁.heap.CodeRec cd d.name → mg d.name = some (.ref fa) →
     s₁.heap.get? a = some { cls := .type "list", data := .seq vs.toArray } → IntsAre vs ns → ns.length ≤ n → s₁.gens = #[] →
     codeAny (model l.prog w) callerA (.call (.ref fa) ⟨[.ref a], []⟩) (fun r s' => r = .ok (.ret (.bool true)) ∧ OldK s₁.heap s'.heap ∧ s'.os = s₁.os ∧ AllBare s'.gens) s₁) :
   WalkO q loose XP YP l.row.toRowW d [] (fun f vs => PySem.call f vs) := by
 intro w s₀ s₁ mg mb G Y fa o pm cd doc dV kV ho hd hcd hD hmg hg args vals as hpre hlay hrd hwl hlo
 obtain rfl : dV = .none := Dflts.none hD hdf
 obtain rfl : kV = .none := Dflts.noKw hD
 obtain ⟨a, vs, ns, rfl, rfl, hobj, hints, hlen⟩ := z132 hn hpre hwl
 refine enter_call (codeAny_mono (call w s₀ s₁ mg mb fa o pm cd doc a vs ns G Y ho (fd_plain hd) hcd hmg hobj hints hlen hg) fun r s' hq => ?_)
 obtain ⟨rfl, h2, h3, h4⟩ := hq
 exact ⟨.inl ⟨.bool true, .bool true, [], rfl, fun _ => rfl, .bool true, z133 l _, fun _ => ⟨List.Pairwise.nil, fun _ hm => (nomatch hm)⟩⟩, h2, h3, h4⟩
section
variable {prog : Program} {w : World} {A : Around} {E : Value → Shared → Prop} {s : Shared} {K : Frag}
def noObjs (h : Heap) : Heap := { h with objs := #[] }
theorem noObjs_get (h : Heap) (b : Addr) : (noObjs h).get? b = none := by
 cases e : (noObjs h).get? b with
 | none => rfl
 | some o => exact absurd (Heap.lt_size e) (Nat.not_lt_zero _)
theorem fr_all {h : Heap} {L : Addr} {m : Str → Option Value} (n : h.Ns L m) : Fr (noObjs h) L h m :=
 ⟨n, fun b o e => (by rw [noObjs_get] at e; cases e), Nat.zero_le _⟩
end
end Att
namespace L2
open PySem PySem.Spec PyProof.Rows
theorem z8d : ∀ {vs : List Value} {ns : List Int}, IntsAre vs ns → Vals (ns.map V.int) vs
 | _, _, .nil => .nil
 | _, _, .cons n t h => .cons ⟨t, rfl⟩ (z8d h)
def Only (H : Hp) : Prop := ∀ b, H b = none ∨ ∃ o xs, H b = some (.frz o (.lst xs))
theorem z185 {P : Program} {w : World} {K : PySem.W.Frag} {mg mb : Str → Option Value} {CX : CXT} {k : Nat} {fa a : Addr} {fd : FuncData} {x : Str} {sp : Sp} {s₁ : Shared} {vs : List Value} {ns : List Int}
   (KX : K.In s₁.heap) (hns : s₁.heap.Ns mainGlobals mg) (hb : s₁.heap.Ns builtinsNs mb) (hbb : ∀ x : Str, x ≠ "__name__" → mb x = bootBuiltins x) (hlim : s₁.heap.NoLimit) (hg : s₁.gens = #[])
   (ha : s₁.heap.get? a = some { cls := .type "list", data := .seq vs.toArray }) (hi : IntsAre vs ns) (hl : ns.length ≤ sizeLine) (hr : Room k callerA)
   (F : ∀ base : Heap, K.In base → base.Ns mainGlobals mg → FnOk P w K mg base CX k fa fd [x] sp) (hbind : ∀ (s : Shared) (u : Value), BindsTo s fd ⟨[u], []⟩ [(x, u)])
   (hsp : ∀ H : Hp, Only H → SqL K H a (ns.map V.int) → sp [.ref a] H (fun v _ => v = .bl true) fun _ _ _ => False)
   (hCX : ∀ H e s', CX [] H s₁ (fun _ _ _ => False) e s' → False) :
   codeAny (model P w) callerA (.call (.ref fa) ⟨[.ref a], []⟩) (fun r s' => r = .ok (.ret (.bool true)) ∧ OldK s₁.heap s'.heap ∧ s'.os = s₁.os ∧ AllBare s'.gens) s₁ := by
 have rv := z8d hi
 have lenV := hi.length
 -- from an abstract heap in which nothing but the script may be tracked
 have core : ∀ H : Hp, Only H → SqL K H a (ns.map V.int) → HOk P w H s₁.heap → (∀ b, H b ≠ none → b = a) → (H a ≠ none → K.lookup a = none) →
     codeAny (model P w) callerA (.call (.ref fa) ⟨[.ref a], []⟩) (fun r s' => r = .ok (.ret (.bool true)) ∧ OldK s₁.heap s'.heap ∧ s'.os = s₁.os ∧ AllBare s'.gens) s₁ := by
   intro H hO hS hok hA hK
   have base_of : ∀ {b : Addr} {o : Obj}, s₁.heap.get? b = some o → H b = none → (hidT s₁.heap H).get? b = some o := fun e n => z17d e n
   have noA : ∀ {b : Addr} {o : Obj} {es : Array DictEntry} {ep : Nat}, s₁.heap.get? b = some o → o.data = .dict es ep → H b = none := fun {b o es ep} e d => by
     cases q : H b with
     | none => rfl
     | some u =>
       have e' : b = a := hA b (by rw [q]; simp)
       subst e'
       rw [ha] at e; cases e
       have d' : Data.seq vs.toArray _ = Data.dict es ep := d
       cases d'
   have nsK : ∀ {b : Addr} {m : Str → Option Value}, s₁.heap.Ns b m → (hidT s₁.heap H).Ns b m := fun {b m} ⟨o, es, ep, e, d, r⟩ => ⟨o, es, ep, base_of e (noA e d), d, r⟩
   have hKb : K.In (hidT s₁.heap H) := fun b o e => base_of (KX b o e) (by
     cases q : H b with
     | none => rfl
     | some u =>
       have e' : b = a := hA b (by rw [q]; simp)
       subst e'
       rw [hK (by rw [q]; simp)] at e; cases e)
   have hM : Mod K mg (hidT s₁.heap H) := ⟨hKb, nsK hns, ⟨mb, nsK hb, hbb⟩, let ⟨mc, h1, h2⟩ := hlim; ⟨mc, nsK h1, h2⟩⟩
   have e0 : Env0 P w K mg (hidT s₁.heap H) callerA [] s₁ H := ⟨rfl, hM, fun b o e => z1ac e, Nat.le_of_eq (z127 _ _), trivial, fun b hb => absurd (show b ∈ ([] : List Addr) from hb) (by simp), hok, .of_eq hg⟩
   refine codeAny_mono ((F _ hKb (nsK hns)).run callerA [] s₁ H ⟨[.ref a], []⟩ [.ref a] [.ref a] _ _ hr e0 (hbind s₁ (.ref a)) (.cons rfl .nil) (hsp H hO hS)) fun r s' h => ?_
   cases r with
   | error e => exact (hCX H e s' h).elim
   | ok fl =>
     cases fl with
     | next => exact False.elim h
     | brk => exact False.elim h
     | cont => exact False.elim h
     | ret u =>
       obtain ⟨v, H', os, bare, un, hok', r', q⟩ := h
       have q' : v = .bl true := q
       subst q'
       obtain rfl : u = Value.bool true := r'
       refine ⟨rfl, OldK.of_keep fun b o e => ?_, os, bare⟩
       cases q : H b with
       | none => exact un.keep b o e q (by intro z; exact absurd (show b ∈ ([] : List Addr) from z) (by simp)) (by simp)
       | some u =>
         rcases hO b with z | ⟨ob, xs, z⟩
         . rw [q] at z; cases z
         . have z2 := un.frzs b ob _ z
           obtain ⟨e1, _⟩ := hok b _ z
           obtain ⟨e2, _⟩ := hok' b _ z2
           rw [e] at e1; cases e1
           exact e2
 cases hk : K.lookup a with
 | some o =>
   -- the script is one of the module's own objects
   have e := KX a o hk
   rw [ha] at e
   cases e
   refine core (fun _ => none) (fun _ => .inl rfl) (.inr ⟨_, vs.toArray, _, hk, rfl, rfl, rfl, by rw [List.size_toArray, lenV]; exact hl, by simpa using rv⟩) (fun b u z => by have z' : (none : Option HO) = some u := z; cases z') (fun b z => absurd rfl z) fun z => absurd rfl z
 | none =>
   refine core (fun b => if b = a then some (.frz { cls := .type "list", data := .seq vs.toArray } (.lst (ns.map V.int))) else none) (fun b => ?_) (.inl (.inr ⟨{ cls := .type "list", data := .seq vs.toArray }, if_pos rfl⟩)) (fun b u z => ?_) (fun b z => ?_) fun _ => hk
   . by_cases hb : b = a
     . exact .inr ⟨_, _, if_pos hb⟩
     . exact .inl (if_neg hb)
   . by_cases hb : b = a
     . have z' := (if_pos hb).symm.trans z
       cases z'
       subst hb
       exact ⟨ha, by rw [List.length_map]; exact hl, vs, _, rv, ha⟩
     . have z' := (if_neg hb).symm.trans z
       cases z'
   . by_cases hb : b = a
     . exact hb
     . exact absurd (if_neg hb) z
theorem walk_of {l : PySem.W.OpenLaw} {n k : Nat} {q : Program} {loose : List Str} {XP : (Str → Option Value) → Heap → Prop} {YP : World → Heap → Prop} {d : DefRec} {K : Params → PySem.W.Frag} {CX : World → CXT} {sp : World → Sp} {x : Str}
   (hn : l.most = some n) (hn2 : n ≤ sizeLine) (hdf : d.params.defaults = []) (hr : Room k callerA)
   (hY : ∀ (w : World) (h : Heap), YP w h → (K w.params).In h)
   (F : ∀ (w : World) (mg : Str → Option Value) (fa : Addr) (h : Heap), (K w.params).In h → h.Ns mainGlobals mg → mg d.name = some (.ref fa) →
     ∃ fd : FuncData, (∀ (s : Shared) (u : Value), BindsTo s fd ⟨[u], []⟩ [(x, u)]) ∧
       ∀ base : Heap, (K w.params).In base → base.Ns mainGlobals mg → FnOk l.prog w (K w.params) mg base (CX w) k fa fd [x] (sp w))
   (hsp : ∀ (w : World) (H : Hp) (a : Addr) (ns : List Int), ns.length ≤ n → Only H → SqL (K w.params) H a (ns.map V.int) → sp w [.ref a] H (fun v _ => v = .bl true) fun _ _ _ => False)
   (hCX : ∀ (w : World) (H : Hp) (s : Shared) (e : Value) (s' : Shared), CX w [] H s (fun _ _ _ => False) e s' → False) :
   PySem.W.WalkO q loose XP YP l.row.toRowW d [] (fun f vs => PySem.call f vs) := by
 refine Att.attach_call hn hdf fun w s₀ s₁ mg mb fa o pm cd doc a vs ns G Y ho hd hcd hmg hobj hints hlen hg => ?_
 have KX := hY w _ Y
 obtain ⟨fd, hb, hF⟩ := F w mg fa _ KX G.T.g hmg
 exact z185 KX G.T.g G.T.b G.T.builtins G.T.nolimit hg hobj hints (Nat.le_trans hlen hn2) hr hF hb (fun H hO hS => hsp w H a ns hlen hO hS) fun H e s' => hCX w H s₁ e s'
def z15 (s : Stmt) : Arguments := match s with
 | .FunctionDef _ a _ _ _ _ _ _ _ _ => a
 | _ => { posonlyargs := [], args := [], vararg := none, kwonlyargs := [], kw_defaults := [], kwarg := none, defaults := [] }
def zf (s : Stmt) : List Stmt := match s with
 | .FunctionDef _ _ b _ _ _ _ _ _ _ => b
 | _ => []
def z0 (s : Stmt) : Scope := match s with
 | .FunctionDef _ _ _ _ _ _ sc _ _ _ => sc
 | _ => { kind := .function, names := [], isGenerator := false, isCoroutine := false }
abbrev CX0 : CXT := fun _ _ _ _ _ _ => False
abbrev E0 : XK := fun _ _ _ => False
structure Fun (K : PySem.W.Frag) (x qual : Str) (st : Stmt) (f : Addr) (fd : FuncData) : Prop where
 ex : ∃ (oc : Value) (od : Option Addr) (kV doc pm : Value) (an : Option Addr) (cdv ct : Value) (osl : Array (Option Value)),
   fd = PySem.W.fnOf x qual (z15 st) (zf st) (z0 st) .none kV doc pm an cdv ct ∧ K.lookup f = some ⟨oc, od, .func fd, osl⟩ ∧ PySem.W.codeIn K cdv qual = true
 kp : PySem.W.keepIn K (.ref f) = true
section
variable {P : Program} {w : World} {K : PySem.W.Frag} {mg : Str → Option Value} {base : Heap}
theorem Fun.ok {x qual : Str} {st : Stmt} {f : Addr} {fd : FuncData} {N ps : List Str} {k : Nat} {sp : Sp} (F : Fun K x qual st f fd) (S : FnScope N ps (z0 st)) (len : ∀ vs H Q E, sp vs H Q E → vs.length = ps.length)
   (hbody : ∀ (cdv : Value) (A : Around) (outer : List Env) (s : Shared) (H : Hp) (vs : List V) (Q : VK) (E : XK), Room k (A.deeper (envOfC qual (z0 st) s.heap.objs.size f cdv)) → sp vs H Q E →
     ∃ t, PSs (cxOf CX0 P w K mg base N qual (z0 st) f cdv A outer s H E).nox (zf st) t ∧ t { nx := fun _ H' => Q .non H', rt := Q } (start N vs) H) : FnOk P w K mg base CX0 (k + 1) f fd ps sp := by
 obtain ⟨oc, od, kV, doc, pm, an, cdv, ct, osl, rfl, lk, hcd⟩ := F.ex
 refine fn_of lk hcd S len fun A outer s H vs Q E hr hsp => ?_
 obtain ⟨t, h, q⟩ := hbody cdv A outer s H vs Q E hr hsp
 exact ⟨t, h.nox, q⟩
theorem Fun.binds {x qual : Str} {st : Stmt} {f : Addr} {fd : FuncData} {ps : List Str} (F : Fun K x qual st f fd)
   (h : ∀ (kV doc pm : Value) (an : Option Addr) (cdv ct : Value) (us : List Value), us.length = ps.length → bindArgs (PySem.W.fnOf x qual (z15 st) (zf st) (z0 st) .none kV doc pm an cdv ct) ⟨us, []⟩ = pure (ps.zip us)) : Binds K fd ps [] := by
 obtain ⟨oc, od, kV, doc, pm, an, cdv, ct, osl, rfl, lk, hcd⟩ := F.ex
 exact .all (h kV doc pm an cdv ct)
theorem fun_mk {x qual : Str} {st : Stmt} {f : Addr} {oc : Value} {od an : Option Addr} {osl : Array (Option Value)} {kV doc pm cdv ct : Value} (l : K.lookup f = some ⟨oc, od, .func (PySem.W.fnOf x qual (z15 st) (zf st) (z0 st) .none kV doc pm an cdv ct), osl⟩)
   (c : PySem.W.codeIn K cdv qual = true) (k : PySem.W.keepIn K (.ref f) = true) : Fun K x qual st f (PySem.W.fnOf x qual (z15 st) (zf st) (z0 st) .none kV doc pm an cdv ct) := ⟨⟨oc, od, kV, doc, pm, an, cdv, ct, osl, rfl, l, c⟩, k⟩
end
section
variable {X : Cx}
theorem pv (i : Nat) {x : Str} {pos : Pos} (hN : X.N[i]? = some x := by rfl) (hv : Vis X.env.scope x := by first | exact Or.inl rfl | exact Or.inr (Or.inl rfl) | exact Or.inr (Or.inr rfl)) (hd : (x == ("__debug__" : Str)) = false := by decide)
   (hcd : (x == ("__classdict__" : Str)) = false := by decide) : PE X (.Name x pos) (tVar i) := pe_var hN hv hd hcd
theorem call_lenD : CallR X (.builtin "len") (fun xs H Q => ∃ a kvs, xs = [V.ref a] ∧ H a = some (.dK kvs) ∧ Q (.int kvs.length) H) := by
 intro pins s σ H xs us Q I r h
 obtain ⟨a, kvs, rfl, ha, q⟩ := h
 obtain ⟨u, rfl, ru⟩ := vals1 r
 cases ru
 exact d_len I (.inl ha) fun t s' I' => ⟨.int kvs.length, H, I', ⟨t, rfl⟩, q⟩
end
def Same (H H' : Hp) : Prop := ∀ b o, H b = some o → H' b = some o
theorem Same.refl (H : Hp) : Same H H := fun _ _ h => h
theorem Same.trans {H H1 H2 : Hp} (a : Same H H1) (b : Same H1 H2) : Same H H2 := fun c o h => b c o (a c o h)
theorem Same.free {H H' : Hp} (e : Same H H') {l : Addr} (h : H' l = Option.none) : H l = Option.none := by
 cases q : H l with
 | none => rfl
 | some o =>
   rw [e l o q] at h
   cases h
end L2
set_option maxHeartbeats 4000000
namespace L2
open PySem PySem.Spec PyProof.Rows
def z23 (cells : List (Str × Addr)) : List (Str × NameKind) → List (Str × Addr) → List (Str × Addr)
 | [], acc => acc
 | (n, k) :: r, acc => z23 cells r (if k == .free then (n, (cells.lookup n).getD 0) :: acc else acc)
theorem z4f {cells : List (Str × Addr)} {x : Str} {c : Addr} : ∀ {names : List (Str × NameKind)} {acc : List (Str × Addr)},
   (∀ y ∈ names, y.2 = .free → ∃ c, cells.lookup y.1 = some c) → (∀ y c, acc.lookup y = some c → cells.lookup y = some c) → (z23 cells names acc).lookup x = some c → cells.lookup x = some c
 | [], acc, _, ha, h => ha x c h
 | (n, k) :: r, acc, hf, ha, h => by
   refine z4f (names := r) (fun y hy => hf y (List.mem_cons_of_mem _ hy)) (fun y c' => ?_) h
   by_cases hk : k = .free
   . subst hk
     obtain ⟨c0, e0⟩ := hf (n, .free) List.mem_cons_self rfl
     intro e
     have e1 : (if (NameKind.free == NameKind.free) = true then (n, (cells.lookup n).getD 0) :: acc else acc) = (n, (cells.lookup n).getD 0) :: acc := if_pos (show (NameKind.free == NameKind.free) = true from rfl)
     rw [e1, List.lookup_cons] at e
     cases hyn : y == n with
     | true =>
       rw [hyn] at e
       have e2 : y = n := by simpa using hyn
       subst e2
       have e3 := Option.some.inj e
       have e0' : cells.lookup y = some c0 := e0
       rw [e0'] at e3 ⊢
       exact congrArg some e3
     | false => rw [hyn] at e; exact ha y c' e
   . have e1 : (if (k == NameKind.free) = true then (n, (cells.lookup n).getD 0) :: acc else acc) = acc := if_neg (by simpa using hk)
     rw [e1]; exact ha y c'
theorem z59 {cells : List (Str × Addr)} {x : Str} : ∀ {names : List (Str × NameKind)} {acc : List (Str × Addr)},
   ((∃ c, acc.lookup x = some c) ∨ ∃ y ∈ names, y.2 = .free ∧ y.1 = x) → ∃ c, (z23 cells names acc).lookup x = some c
 | [], acc, h => by
   rcases h with h | ⟨y, hy, _⟩
   . exact h
   . cases hy
 | (n, k) :: r, acc, h => by
   refine z59 (names := r) ?_
   by_cases hk : k = .free
   . subst hk
     have e1 : (if (NameKind.free == NameKind.free) = true then (n, (cells.lookup n).getD 0) :: acc else acc) = (n, (cells.lookup n).getD 0) :: acc := if_pos (show (NameKind.free == NameKind.free) = true from rfl)
     rw [e1, List.lookup_cons]
     cases hxn : x == n with
     | true => exact .inl ⟨_, rfl⟩
     | false =>
       rcases h with h | ⟨y, hy, hf, e⟩
       . exact .inl h
       . rcases List.mem_cons.mp hy with z | z
         . subst z
           have e' : n = x := e
           subst e'
           simp at hxn
         . exact .inr ⟨y, z, hf, e⟩
   . have e1 : (if (k == NameKind.free) = true then (n, (cells.lookup n).getD 0) :: acc else acc) = acc := if_neg (by simpa using hk)
     rw [e1]
     rcases h with h | ⟨y, hy, hf, e⟩
     . exact .inl h
     . rcases List.mem_cons.mp hy with z | z
       . subst z; exact absurd hf hk
       . exact .inr ⟨y, z, hf, e⟩
theorem z62 {scope : Scope} {env : Env} (hf : ∀ y ∈ scope.names, y.2 = .free → ∃ c, env.cells.lookup y.1 = some c) : closureFor scope env = pure (z23 env.cells scope.names []) := by
 have go : ∀ (names : List (Str × NameKind)) (acc : List (Str × Addr)), (∀ y ∈ names, y.2 = .free → ∃ c, env.cells.lookup y.1 = some c) →
     (forIn names acc fun x cs => if (x.2 == NameKind.free) = true then do let a ← cellOf env x.1; pure (ForInStep.yield ((x.1, a) :: cs)) else pure (ForInStep.yield cs) : Sem (List (Str × Addr))) = pure (z23 env.cells names acc) := by
   intro names
   induction names with
   | nil => intro acc _; rfl
   | cons p r ih =>
     intro acc h
     obtain ⟨n, k⟩ := p
     rw [List.forIn_cons]
     by_cases hk : k = .free
     . subst hk
       obtain ⟨c, e⟩ := h (n, .free) List.mem_cons_self rfl
       have e' : env.cells.lookup n = some c := e
       have e1 : cellOf env n = pure c := by unfold cellOf; rw [e']
       have e2 : z23 env.cells ((n, NameKind.free) :: r) acc = z23 env.cells r ((n, c) :: acc) := by
         show z23 env.cells r (if (NameKind.free == NameKind.free) = true then (n, (env.cells.lookup n).getD 0) :: acc else acc) = _
         rw [if_pos (show (NameKind.free == NameKind.free) = true from rfl), e']; rfl
       rw [e2, ← ih _ fun y hy => h y (List.mem_cons_of_mem _ hy)]
       show ((if (NameKind.free == NameKind.free) = true then do let a ← cellOf env n; pure (ForInStep.yield ((n, a) :: acc)) else pure (ForInStep.yield acc)) >>= _ : Sem _) = _
       rw [if_pos (show (NameKind.free == NameKind.free) = true from rfl), e1]
       rfl
     . have hk' : (k == NameKind.free) = false := by simpa using hk
       have e2 : z23 env.cells ((n, k) :: r) acc = z23 env.cells r acc := by
         show z23 env.cells r (if (k == NameKind.free) = true then _ else acc) = _
         rw [if_neg (by rw [hk']; exact Bool.false_ne_true)]
       rw [e2, ← ih _ fun y hy => h y (List.mem_cons_of_mem _ hy)]
       show ((if (k == NameKind.free) = true then do let a ← cellOf env n; pure (ForInStep.yield ((n, a) :: acc)) else pure (ForInStep.yield acc)) >>= _ : Sem _) = _
       rw [if_neg (by rw [hk']; exact Bool.false_ne_true)]
       rfl
 have := go scope.names [] hf
 unfold closureFor
 simpa using this
theorem zbc {prog : Program} {w : World} {A : Around} {R : Result → Shared → Prop} {s : Shared} {elt target iter : Expr} {ifs : List Expr} {scope : Scope} {pos : Pos} {it acc : Value} {env : Env} (I : Nat → Shared → Prop)
   (turn : ∀ n s, I n s → wpAny (model prog w) A (pyNext it) (fun r s₁ => match r with
     | none => R (.ok .next) s₁
     | some v => wpAny (model prog w) A (letOwnedTupleGo target it v) (fun _ s₁' => wpAny (model prog w) A (assign target env v) (fun _ s₂ =>
         wpAny (model prog w) A (forIn ifs true fun c r => if r = true then do let ok ← isTrue c env (eval c env); pure (ForInStep.yield ok) else pure (ForInStep.yield r)) (fun ok s₃ =>
           if ok = true then wpAny (model prog w) A (eval elt env) (fun x s₄ =>
             wpAny (model prog w) A (call (.builtin "list.append") [acc, x]) (fun _ s₅ => ∃ m, m < n ∧ I m s₅) (fun _ _ => False) s₄) (fun _ _ => False) s₃
           else ∃ m, m < n ∧ I m s₃) (fun _ _ => False) s₂) (fun _ _ => False) s₁') (fun _ _ => False) s₁) (fun _ _ => False) s)
   (n : Nat) (h : I n s) :
   codeAny (model prog w) A (.compLoop (.ListComp elt [⟨target, iter, ifs, 0⟩] scope pos) 0 it acc env) R s := by
 refine codeAny_loop rfl I (fun n s hI => ?_) n h
 show wpAny _ A ((compTurn (.ListComp elt [⟨target, iter, ifs, 0⟩] scope pos) 0 it acc env).onRaise (fun x => do noteFrame x env; theTreesLotGoes x)) _ _ s
 refine wpAny_noted ?_
 rw [compTurn_list]
 refine wpAny_bind (wpAny_standAt (wpAny_bind (wpAny_mono (turn n s hI) (fun r s₁ h₁ => ?_) fun _ _ h' => h'.elim)))
 cases r with
 | none => exact wpAny_pure h₁
 | some v =>
   refine wpAny_bind (wpAny_mono h₁ (fun _ s₁' h₁' => ?_) fun _ _ h' => h'.elim)
   refine wpAny_bind (wpAny_mono h₁' (fun _ s₂ h₂ => wpAny_bind (wpAny_mono h₂ (fun ok s₃ h₃ => ?_) fun _ _ h' => h'.elim)) fun _ _ h' => h'.elim)
   cases ok with
   | false => exact wpAny_pure ⟨rfl, h₃⟩
   | true =>
     exact wpAny_bind (wpAny_bind (wpAny_mono h₃ (fun x s₄ h₄ => wpAny_bind (wpAny_mono h₄ (fun _ s₅ h₅ => wpAny_pure (wpAny_pure ⟨rfl, h₅⟩)) fun _ _ h' => h'.elim)) fun _ _ h' => h'.elim))
theorem z3b {env : Env} : ∀ {names : List (Str × NameKind)} {x : Str},
   (names.map fun (n, k) => if (k == NameKind.free && env.scope.kind == .function && env.kindOf n == some .cell) then (n, NameKind.cell) else (n, k)).lookup x =
     (names.lookup x).map fun k => if (k == NameKind.free && env.scope.kind == .function && env.kindOf x == some .cell) then NameKind.cell else k
 | [], _ => rfl
 | (n, k) :: r, x => by
   have ih := @z3b env r x
   show List.lookup x ((if (k == NameKind.free && env.scope.kind == .function && env.kindOf n == some .cell) = true then (n, NameKind.cell) else (n, k)) :: _) = _
   cases hx : x == n with
   | true =>
     have e : x = n := by simpa using hx
     subst e
     by_cases hc : (k == NameKind.free && env.scope.kind == .function && env.kindOf x == some .cell) = true
     . rw [if_pos hc]; simp only [List.lookup_cons, hx, Option.map_some, hc, if_true]
     . rw [if_neg hc]; simp only [List.lookup_cons, hx, Option.map_some, hc, if_false]; rfl
   | false =>
     by_cases hc : (k == NameKind.free && env.scope.kind == .function && env.kindOf n == some .cell) = true
     . rw [if_pos hc]; simp only [List.lookup_cons, hx]; exact ih
     . rw [if_neg hc]; simp only [List.lookup_cons, hx]; exact ih
def cxComp (X : Cx) (sc : Scope) (N' : List Str) (fp : List Addr) (s₃ : Shared) (H₃ : Hp) : Cx :=
 { X with env := compEnvC sc (z23 X.env.cells sc.names []) s₃.heap.objs.size X.env, N := N', s₀ := s₃, H₀ := H₃, outer := X.stack, ex := fp, fn := fun _ => false, pn := [], xe := fun _ _ => False }
def selV (ix : List Nat) (σ : St) : St := ix.map fun j => (σ[j]?).getD none
structure CompOk (X : Cx) (sc : Scope) (caps : List Str) (ix : List Nat) : Prop where
 calm : X.calm = true
 kind : sc.kind = .function
 ncell : ∀ y ∈ sc.names, y.2 ≠ .cell
 free : ∀ y ∈ sc.names, y.2 = .free → X.env.kindOf y.1 = some .cell ∨ X.env.kindOf y.1 = some .free
 names : ∀ y ∈ sc.names, y.2 = .local → sc.names.lookup y.1 = some .local
 cap : ∀ (j : Nat) x, caps[j]? = some x → sc.names.lookup x = some .free ∧ ∃ i, ix[j]? = some i ∧ X.N[i]? = some x
 len : ix.length = caps.length
def zd6 (fsc : Scope) (N : List Str) (sc : Scope) (caps : List Str) (ix : List Nat) : Bool :=
 sc.kind == .function && sc.names.all (fun y => y.2 != .cell) && sc.names.all (fun y => y.2 != .free || (fsc.names.lookup y.1 == some .cell || fsc.names.lookup y.1 == some .free)) &&
   sc.names.all (fun y => y.2 != .local || sc.names.lookup y.1 == some .local) && caps.all (fun x => sc.names.lookup x == some .free) && (ix.map fun i => N[i]?) == caps.map some
theorem z34 {X : Cx} {sc : Scope} {caps : List Str} {ix : List Nat} (hc : X.calm = true) (h : zd6 X.env.scope X.N sc caps ix = true) : CompOk X sc caps ix := by
 unfold zd6 at h
 simp only [Bool.and_eq_true] at h
 obtain ⟨⟨⟨⟨⟨h1, h2⟩, h3⟩, h4⟩, h5⟩, h6⟩ := h
 have e6 : (ix.map fun i => X.N[i]?) = caps.map some := by simpa using h6
 have elen : ix.length = caps.length := by simpa using congrArg List.length e6
 refine ⟨hc, by simpa using h1, fun y hy => ?_, fun y hy hf => ?_, fun y hy hl => ?_, fun j x hj => ⟨?_, ?_⟩, elen⟩
 . have := List.all_eq_true.mp h2 y hy
   simpa using this
 . have := List.all_eq_true.mp h3 y hy
   rw [hf] at this
   simp only [bne_self_eq_false, Bool.false_or, Bool.or_eq_true, beq_iff_eq] at this
   exact this
 . have := List.all_eq_true.mp h4 y hy
   rw [hl] at this
   simpa using this
 . have := List.all_eq_true.mp h5 x (List.mem_of_getElem? hj)
   simpa using this
 . have hjl : j < ix.length := by rw [elen]; exact (List.getElem?_eq_some_iff.mp hj).1
   refine ⟨ix[j], List.getElem?_eq_getElem hjl, ?_⟩
   have q := congrArg (fun l => l[j]?) e6
   simp only [List.getElem?_map, List.getElem?_eq_getElem hjl, hj, Option.map_some] at q
   exact Option.some.inj q
section
variable {X : Cx} {sc : Scope} {tgs caps : List Str} {ix : List Nat} {pins : List (Addr × Obj)} {σ : St} {H : Hp} {s : Shared} {fp : List Addr}
theorem CompOk.free_cell (C : CompOk X sc caps ix) (I : Inv X pins σ H s) : ∀ y ∈ sc.names, y.2 = .free → ∃ c, X.env.cells.lookup y.1 = some c := fun y hy hf => I.ok.has y.1 (C.free y hy hf)
theorem CompOk.sub (C : CompOk X sc caps ix) (I : Inv X pins σ H s) {x : Str} {c : Addr} (h : (z23 X.env.cells sc.names []).lookup x = some c) : X.env.cells.lookup x = some c :=
 z4f (C.free_cell I) (fun _ _ e => by cases e) h
theorem z101 (C : CompOk X sc caps ix) (I : Inv X pins σ H s) (hf : ∀ b ∈ fp, FpOk X pins H b) (hl : ∀ b ∈ fp, b < s.heap.objs.size) {h' : Heap} {t' : Nat} {m : Str → Option Value} (hn : h'.Ns s.heap.objs.size m)
   (hk : ∀ b o, s.heap.get? b = some o → h'.get? b = some o) :
   Inv (cxComp X sc (tgs ++ caps) fp s H) [] (List.replicate tgs.length none ++ selV ix σ) H { s with heap := h', toks := t' } := by
 have sub : ∀ {x c}, (z23 X.env.cells sc.names []).lookup x = some c → X.env.cells.lookup x = some c := fun h => C.sub I h
 have clt : ∀ {x c}, X.env.cells.lookup x = some c → c < s.heap.objs.size := fun {x c} h => by
   obtain ⟨v, q⟩ := I.cell x c h
   exact q.lt
 refine ⟨⟨I.ok.mod, C.kind, I.ok.glob, I.ok.blt, Nat.le_refl _, fun x y c h1 h2 => I.ok.inj x y c (sub h1) (sub h2), fun x hx => ?_, fun x c hfn _ => ?_, I.ok.hd, I.ok.frames, .inl rfl, fun b hb => ⟨?_, fun x c h z => ?_⟩, fun b o e => I.bs b o e, Nat.le_trans I.ok.bsz I.sz, fun b o e hb => ?_, fun b hb hfs => ?_, I.stack, I.stkFree⟩,
   rfl, I.bare, Un.kept hk, ⟨m, hn, fun i x v e1 e2 e3 => ?_⟩, fun x c h => ?_, I.hok.fresh (Nat.le_refl _), fun x c h => I.freeC x c (sub h), fun p hp => absurd (show p ∈ ([] : List (Addr × Obj)) from hp) (by simp), I.hok.kept hk, ?_⟩
 . -- a cell or free name of the block has a cell
   have hx' : (relabel sc X.env).names.lookup x = some .cell ∨ (relabel sc X.env).names.lookup x = some .free := hx
   have e : (relabel sc X.env).names.lookup x = (sc.names.lookup x).map fun k => if (k == NameKind.free && X.env.scope.kind == .function && X.env.kindOf x == some .cell) then NameKind.cell else k := z3b
   rw [e] at hx'
   cases q : sc.names.lookup x with
   | none => rw [q] at hx'; rcases hx' with z | z <;> cases z
   | some k =>
     have hm : (x, k) ∈ sc.names := PySem.mem_of_lookup q
     have hkf : k = .free := by
       rw [q] at hx'
       simp only [Option.map_some] at hx'
       by_cases hkk : k = .free
       . exact hkk
       . have : (k == NameKind.free) = false := by simpa using hkk
         simp only [this, Bool.false_and, Bool.false_eq_true, if_false] at hx'
         rcases hx' with z | z
         . exact absurd (Option.some.inj z) (C.ncell _ hm)
         . exact Option.some.inj z
     subst hkf
     exact z59 (.inr ⟨_, hm, rfl, rfl⟩)
 . exact absurd (show false = true from hfn) Bool.false_ne_true
 . exact Nat.ne_of_lt (hl b hb)
 . exact (hf b hb).2.2.2.2.1 x c (sub h) z
 . obtain ⟨_, _, _, hx, _⟩ := hf b hb
   rcases hx with z | z
   . exact I.ok.noex b o e z
   . exact absurd (Nat.lt_of_lt_of_le (Heap.lt_size e) (Nat.le_trans I.ok.bsz z)) (Nat.lt_irrefl _)
 . obtain ⟨_, h1, h2, _⟩ := hf b hb
   rcases List.mem_cons.mp (I.stkSub b hfs) with z | z
   . exact h1 z
   . exact h2 z
 . -- the captured names' values
   have hi : tgs.length ≤ i := by
     by_cases hi : i < tgs.length
     . rw [List.getElem?_append_left (by simpa using hi), List.getElem?_replicate] at e2
       split at e2 <;> cases e2
     . omega
   have e1' : caps[i - tgs.length]? = some x := by
     have : (tgs ++ caps)[i]? = some x := e1
     rw [List.getElem?_append_right hi] at this
     exact this
   rw [List.getElem?_append_right (by simpa using hi), List.length_replicate] at e2
   obtain ⟨hfr, j, hj, hjN⟩ := C.cap _ x e1'
   have e2' : σ[j]? = some (some v) := by
     unfold selV at e2
     rw [List.getElem?_map, hj] at e2
     simp only [Option.map_some] at e2
     have e2 := Option.some.inj e2
     cases q : σ[j]? with
     | none => rw [q] at e2; cases e2
     | some o => rw [q] at e2; exact congrArg some e2
   have hmem : (x, NameKind.free) ∈ sc.names := PySem.mem_of_lookup hfr
   have hkind := C.free _ hmem rfl
   obtain ⟨m0, hn0, hl0⟩ := I.loc
   have hvis : Vis X.env.scope x := hkind.elim (fun z => .inr (.inl z)) fun z => .inr (.inr z)
   obtain ⟨u, r, look⟩ := hl0 j x v hjN e2' hvis
   refine ⟨u, r, ?_⟩
   rcases look with ⟨k, _⟩ | ⟨_, c, hc, z⟩
   . rcases hkind with q | q
     . rw [show X.env.kindOf x = some .cell from q] at k; cases k
     . rw [show X.env.kindOf x = some .free from q] at k; cases k
   . obtain ⟨c', hc'⟩ := z59 (cells := X.env.cells) (names := sc.names) (acc := []) (x := x) (.inr ⟨_, hmem, rfl, rfl⟩)
     have hcc : c' = c := by have := sub hc'; rw [hc] at this; exact (Option.some.inj this).symm
     subst hcc
     refine .inr ⟨?_, c', hc', ?_⟩
     . have e : (relabel sc X.env).names.lookup x = (sc.names.lookup x).map fun k => if (k == NameKind.free && X.env.scope.kind == .function && X.env.kindOf x == some .cell) then NameKind.cell else k := z3b
       show (relabel sc X.env).names.lookup x = some .cell ∨ (relabel sc X.env).names.lookup x = some .free
       rw [e, hfr]
       simp only [Option.map_some]
       split
       . exact .inl rfl
       . exact .inr rfl
     . obtain ⟨o, ho, hd⟩ := z
       exact ⟨o, hk _ o ho, hd⟩
 . obtain ⟨v, o, ho, hd⟩ := I.cell x c (sub h)
   exact ⟨v, o, hk _ o ho, hd⟩
 . show _ = (tgs ++ caps).length
   unfold selV
   rw [List.length_append, List.length_replicate, List.length_map, List.length_append, C.len]
inductive PTs (X : Cx) : List Expr → TT → Prop where
 | nil : PTs X [] (fun _ H Q => Q true H)
 | one {c : Expr} {t : TT} (h : PT X c t) : PTs X [c] t
theorem PTs.run {X : Cx} {ifs : List Expr} {t : TT} (h : PTs X ifs t) {pins : List (Addr × Obj)} {s : Shared} {σ : St} {H : Hp} {Q : Bool → Hp → Prop} (I : Inv X pins σ H s) (q : t σ H Q) :
   wpAny (model X.prog X.w) X.A (forIn ifs true fun c r => if r = true then do let ok ← isTrue c X.env (eval c X.env); pure (ForInStep.yield ok) else pure (ForInStep.yield r)) (TP X pins σ Q) X.xe s := by
 cases h with
 | nil => exact wpAny_tests_nil ⟨H, I, q⟩
 | one h => exact wpAny_tests_one (h pins s σ H Q I q)
def CompW (J : It) (D : Addr) (B : V → Hp → (List V → Hp → Prop) → Prop) (cs : St) (tt : TT) (te : TE) (Q : VK) (H1 : Hp) : Prop :=
 ∃ W : Nat → Nat → List V → Hp → Prop, (∃ m, W 0 m [] (upd H1 D (.lst []))) ∧ ∀ i m ys H, W i m ys H →
   H D = some (.lst ys) ∧ ((J.stop i H ∧ Q (.ref D) H) ∨ (J.go i H ∧ ∀ x H', J.yld i H x H' → B x H' fun vals H2 => tt (vals.map some ++ cs) H2 fun b H3 =>
     if b = true then te (vals.map some ++ cs) H3 fun y H4 => H4 D = some (.lst ys) ∧ ys.length < sizeLine ∧ ∃ m', m' < m ∧ W (i + 1) m' (ys ++ [y]) (upd H4 D (.lst (ys ++ [y])))
     else ∃ m', m' < m ∧ W (i + 1) m' ys H3))
def tComp (wi : TI) (B : V → Hp → (List V → Hp → Prop) → Prop) (ix : List Nat) (tt : TT) (te : TE) : TE := fun σ H Q => wi σ H fun J H1 => ∀ D, H1 D = none → CompW J D B (selV ix σ) tt te Q H1
variable {elt tg iter : Expr} {ifs : List Expr} {pos : Pos} {g : TG} {B : V → Hp → (List V → Hp → Prop) → Prop} {tt : TT} {te : TE}
theorem za2 (C : CompOk X sc caps ix) (hg : ∀ fp s H, PG (cxComp X sc (tgs ++ caps) fp s H) tg g)
   (hB : ∀ (x : V) (σt cs : St) (H : Hp) (Q : St → Hp → Prop), σt.length = tgs.length → B x H (fun vals H2 => Q (vals.map some ++ cs) H2) → g x (σt ++ cs) H fun σ2 H2 => (∃ vals : List V, vals.length = tgs.length ∧ σ2 = vals.map some ++ cs) ∧ Q σ2 H2)
   (ht : ∀ fp s H, PTs (cxComp X sc (tgs ++ caps) fp s H) ifs tt) (he : ∀ fp s H, PE (cxComp X sc (tgs ++ caps) fp s H) elt te)
   {J : It} {it : Addr} {tn : Nat → Heap → Prop} {Q : VK} {E : Value → Shared → Prop} (I2 : Inv X pins σ H s) (T : Turn X.prog X.w X.K tg J fp it tn) (st : tn 0 s.heap) (hf : ∀ b ∈ fp, FpOk X pins H b)
   (hw : ∀ D, H D = none → CompW J D B (selV ix σ) tt te Q H) {RR : Value → Addr → Result → Shared → Prop}
   (hRR : ∀ D Cc H' s' m, s'.heap.Ns Cc m → Inv X pins σ H' s' → FpOk X pins H' Cc → Q (.ref D) H' → RR (.ref D) Cc (.ok .next) s') :
   wpAny (model X.prog X.w) X.A (newList []) (fun acc s₃ => wpAny (model X.prog X.w) X.A (newFunctionEnv sc X.env.globals (z23 X.env.cells sc.names []) [] X.env.qual none .none (some X.env)) (fun cenv s₄ =>
     codeAny (model X.prog X.w) X.A (.compStart (.ListComp elt [⟨tg, iter, ifs, 0⟩] sc pos) 0 (.ref it) acc { cenv with scope := relabel sc X.env }) (RR acc cenv.locals) s₄) E s₃) E s := by
 refine wpAny_newObj_type (wpAny_newFunctionEnv C.ncell (by intro y hy; simp at hy) (fun h₁ hns₁ hsb₁ => ?_) C.kind)
 have I3 : Inv X pins σ (upd H s.heap.objs.size (.lst [])) { s with heap := s.heap.push { cls := .type "list", dict := none, data := .seq ([] : List Value).toArray } } := I2.lnew (t' := s.toks) (its := []) .nil (Nat.zero_le _)
 have hD0 : H s.heap.objs.size = none := I2.fresh
 have lt0 : ∀ b ∈ fp, b < s.heap.objs.size := fun b hb => by
   obtain ⟨o, e, _⟩ := T.obj _ _ st b hb
   exact Heap.lt_size e
 have hfD : ∀ b ∈ fp, b ≠ s.heap.objs.size := fun b hb => Nat.ne_of_lt (lt0 b hb)
 have hf3 : ∀ b ∈ fp, FpOk X pins (upd H s.heap.objs.size (.lst [])) b := fun b hb => ⟨by rw [upd_ne (hfD b hb)]; exact (hf b hb).1, (hf b hb).2⟩
 generalize hs3 : ({ s with heap := s.heap.push { cls := .type "list", dict := none, data := .seq ([] : List Value).toArray } } : Shared) = s₃ at I3 hns₁ hsb₁ ⊢
 have hs3h : s₃.heap = s.heap.push { cls := .type "list", dict := none, data := .seq ([] : List Value).toArray } := by rw [← hs3]
 have st3 : tn 0 s₃.heap := T.keep _ _ _ st fun b _ o e => by rw [hs3h]; exact Heap.get?_push_of_some _ e
 have hl3 : ∀ b ∈ fp, b < s₃.heap.objs.size := fun b hb => by rw [hs3h, Heap.size_push]; exact Nat.lt_succ_of_lt (lt0 b hb)
 generalize hDD : s.heap.objs.size = D at *
 have hk1 : ∀ b o, s₃.heap.get? b = some o → h₁.get? b = some o := fun b o e => hsb₁.extBut b o (Nat.ne_of_lt (Heap.lt_size e)) (Heap.get?_push_of_some _ e)
 have I4 := z101 (tgs := tgs) (t' := s₃.toks + ([] : List (Str × Value)).length) C I3 hf3 hl3 hns₁ hk1
 have st4 : tn 0 h₁ := T.keep _ _ _ st3 fun b _ o e => hk1 b o e
 have fr4 : ∀ b ∈ fp, (upd H D (.lst [])) b = none := fun b hb => (hf3 b hb).1
 generalize hXc : cxComp X sc (tgs ++ caps) fp s₃ (upd H D (.lst [])) = Xc at I4
 have hprog : Xc.prog = X.prog := by rw [← hXc]; rfl
 have hww : Xc.w = X.w := by rw [← hXc]; rfl
 have hKK : Xc.K = X.K := by rw [← hXc]; rfl
 have hcalm : Xc.calm = true := by rw [← hXc]; exact C.calm
 have hA : Xc.A = X.A := by rw [← hXc]; rfl
 have henv : Xc.env = compEnvC sc (z23 X.env.cells sc.names []) s₃.heap.objs.size X.env := by rw [← hXc]; rfl
 have hxe : Xc.xe = fun _ _ => False := by rw [← hXc]; rfl
 have hg' := hg fp s₃ (upd H D (.lst []))
 have ht' := ht fp s₃ (upd H D (.lst []))
 have he' := he fp s₃ (upd H D (.lst []))
 rw [hXc] at hg' ht' he'
 obtain ⟨W, ⟨m0, w0⟩, turn⟩ := hw D hD0
 have stat : ∀ {H' : Hp}, (∀ b ∈ fp, H' b = none) → ∀ b ∈ fp, FpOk Xc [] H' b := fun {H'} hn b hb => by
   refine ⟨hn b hb, ?_, ?_, .inl ?_, fun x c e z => ?_, fun p hp => ?_⟩
   . rw [henv]; exact Nat.ne_of_lt (hl3 b hb)
   . rw [← hXc]
     intro z
     obtain ⟨_, h1, h2, _⟩ := hf b hb
     rcases List.mem_cons.mp (I3.stkSub b z) with q | q
     . exact h1 q
     . exact h2 q
   . rw [← hXc]; exact hb
   . rw [henv] at e
     exact (hf b hb).2.2.2.2.1 x c (C.sub I2 e) z
   . rw [← hXc] at hp
     exact absurd (show p ∈ ([] : List (Addr × Obj)) from hp) (by simp)
 have loop : ∀ s₄ : Shared, s₄ = { s₃ with heap := h₁, toks := s₃.toks + ([] : List (Str × Value)).length } →
     codeAny (model X.prog X.w) X.A (.compLoop (.ListComp elt [⟨tg, iter, ifs, 0⟩] sc pos) 0 (.ref it) (.ref D) (compEnvC sc (z23 X.env.cells sc.names []) s₃.heap.objs.size X.env)) (RR (.ref D) s₃.heap.objs.size) s₄ := by
   intro s₄ hs4
   rw [← hprog, ← hww, ← hA, ← henv]
   refine zbc (fun n s' => ∃ (i : Nat) (ys : List V) (σt : St) (H' : Hp), σt.length = tgs.length ∧ Inv Xc [] (σt ++ selV ix σ) H' s' ∧ tn i s'.heap ∧ (∀ b ∈ fp, H' b = none) ∧ W i n ys H') ?_ m0
     ⟨0, [], List.replicate tgs.length none, upd H D (.lst []), by simp, by rw [hs4]; exact I4, by rw [hs4]; exact st4, fr4, w0⟩
   rintro n s5 ⟨i, ys, σt, H5, hσ, I5, st5, fr5, w5⟩
   obtain ⟨hD5, hturn⟩ := turn i n ys H5 w5
   rcases hturn with ⟨stop, q⟩ | ⟨go, step⟩
   . rw [hprog, hww]
     refine thn (T.done Xc hprog hww hKK hcalm i [] s5 _ H5 _ I5 (stat fr5) st5 stop) fun r s6 ⟨hr, I6⟩ => ?_
     subst hr
     obtain ⟨m6, hn6, _⟩ := I6.loc
     rw [henv] at hn6
     have hcb : ∀ b ∈ fp, (b ∈ X.ex ∨ X.s₀.heap.objs.size ≤ b) ∧ b ≠ X.env.locals ∧ (∀ x c, X.env.cells.lookup x = some c → c ≠ b) ∧ ∀ p ∈ X.pn ++ pins, p.1 ≠ b := fun b hb => ⟨(hf b hb).2.2.2.1, (hf b hb).2.1, (hf b hb).2.2.2.2.1, (hf b hb).2.2.2.2.2⟩
     have hos : s6.os = s₃.os := by have := I6.os; rw [← hXc] at this; exact this
     have un6 : Un (frs X.stack) fp (upd H D (.lst [])) H5 s₃.heap s6.heap := by have := I6.base; rw [← hXc] at this; exact this
     have hok6 : HOk X.prog X.w H5 s6.heap := by have := I6.hok; rw [hprog, hww] at this; exact this
     have I7 : Inv X pins σ H5 s6 := I3.call' hos un6 hok6 I6.bare hcb
     refine hRR D _ H5 s6 m6 hn6 I7 ?_ q
     have hCn : H5 s₃.heap.objs.size = none := by have := I6.free; rw [henv] at this; exact this
     exact I3.fpOk (Nat.le_refl _) hCn
   . rw [hprog, hww]
     refine thn (T.item Xc hprog hww hKK hcalm i [] s5 _ H5 _ I5 (stat fr5) st5 go) fun r s6 ⟨u, hr, h6⟩ => ?_
     subst hr
     refine thn h6 fun _ s7 ⟨x, H7, I7, r7, y7, st7, fr7⟩ => ?_
     have I7' := I7.pinned (stat fr7) (T.obj _ _ st7)
     have hst := hg' _ s7 _ H7 x u _ I7' r7 (hB x σt (selV ix σ) H7 (fun σ2 H2 => tt σ2 H2 fun b H3 => if b = true then te σ2 H3 fun y H4 => H4 D = some (.lst ys) ∧ ys.length < sizeLine ∧ ∃ m', m' < n ∧ W (i + 1) m' (ys ++ [y]) (upd H4 D (.lst (ys ++ [y]))) else ∃ m', m' < n ∧ W (i + 1) m' ys H3) hσ (step x H7 y7))
     rw [hprog, hww, hxe] at hst
     refine thn hst fun _ s8 ⟨σ8, H8, I8, ⟨vals, hvl, hσ8⟩, q8⟩ => ?_
     have again : ∀ {H9 : Hp} {s9 : Shared}, Inv Xc ([] ++ pinsAt fp s7.heap) σ8 H9 s9 → tn (i + 1) s9.heap ∧ ∀ b ∈ fp, H9 b = none := fun {H9 s9} I9 =>
       ⟨T.keep _ _ _ st7 fun b hb o e => (I9.pin (b, o) (List.mem_append_right _ (List.mem_append_right _ (z4e hb e)))).1, fun b hb => by
         obtain ⟨o, e, d⟩ := T.obj _ _ st7 b hb
         exact (I9.pin (b, o) (List.mem_append_right _ (List.mem_append_right _ (z4e hb e)))).2.1⟩
     subst hσ8
     have hts := ht'.run I8 q8
     rw [hprog, hww, hxe] at hts
     refine thn hts fun ok s9 ⟨H9, I9, q9⟩ => ?_
     cases ok with
     | false =>
       rw [if_neg Bool.false_ne_true] at q9 ⊢
       obtain ⟨m', hm, w9⟩ := q9
       obtain ⟨a1, a2⟩ := again I9
       exact ⟨m', hm, i + 1, ys, vals.map some, H9, by simpa using hvl, I9.unpinned, a1, a2, w9⟩
     | true =>
       rw [if_pos rfl] at q9 ⊢
       have hev := he' _ s9 _ H9 _ I9 q9
       rw [hprog, hww, hxe] at hev
       refine thn hev fun uy s10 ⟨y, H10, I10, r10, hD10, hz10, m', hm, w10⟩ => ?_
       have hap := z8c (X := Xc) _ s10 _ H10 (.ref D) [y] (.ref D) [uy] (fun v H11 => v = .non ∧ H11 = upd H10 D (.lst (ys ++ [y]))) I10 rfl (.cons r10 .nil) ⟨D, ys, y, rfl, rfl, hD10, hz10, rfl, rfl⟩
       rw [hprog, hww, hxe] at hap
       refine thn hap fun _ s11 ⟨v, H11, I11, _, _, e11⟩ => ?_
       subst e11
       obtain ⟨a1, a2⟩ := again I11
       exact ⟨m', hm, i + 1, ys ++ [y], vals.map some, _, by simpa using hvl, I11.unpinned, a1, a2, w10⟩
 refine codeAny_compStart_list (loop _ rfl) (T.self X.A 0 _ _ _ st4 (loop _ rfl))
theorem z1b9 {wi : TI} (C : CompOk X sc caps ix) (hi : PI X tg iter wi) (hg : ∀ fp s H, PG (cxComp X sc (tgs ++ caps) fp s H) tg g)
   (hB : ∀ (x : V) (σt cs : St) (H : Hp) (Q : St → Hp → Prop), σt.length = tgs.length → B x H (fun vals H2 => Q (vals.map some ++ cs) H2) → g x (σt ++ cs) H fun σ2 H2 => (∃ vals : List V, vals.length = tgs.length ∧ σ2 = vals.map some ++ cs) ∧ Q σ2 H2)
   (ht : ∀ fp s H, PTs (cxComp X sc (tgs ++ caps) fp s H) ifs tt) (he : ∀ fp s H, PE (cxComp X sc (tgs ++ caps) fp s H) elt te)
   (hs : ∀ x, foldedSetIterable iter X.env x = pure x := by intro _; rfl) : PE X (.ListComp elt [⟨tg, iter, ifs, 0⟩] sc pos) (tComp wi B ix tt te) := by
 intro pins s σ H Q I h
 rw [eval_ListComp]
 refine wpAny_comprehension_free (use := none) rfl hs (z62 (C.free_cell I)) C.kind C.names (thn (hi pins s σ H _ I h) fun v s1 h1 => thn h1 fun itv s2 h2 => ?_)
 obtain ⟨it, fp, tn, J, H2, e, I2, T, st2, f2, hw⟩ := h2
 subst e
 refine za2 (RR := fun acc Cc => compPost (model X.prog X.w) X.A X.xe none (EP X pins σ Q) acc Cc) C hg hB ht he I2 T st2 f2 hw ?_
 intro D Cc H' s' m hn I' hfp q
 refine ⟨m, hn, fun h' sb => ⟨.ref D, H', ?_, rfl, q⟩⟩
 exact I'.turned (t' := s'.toks) (fun b o hb e => sb.extBut b o hb e) hfp.1 hfp.2.1 hfp.2.2.2.1 hfp.2.2.2.2.1 hfp.2.2.2.2.2
theorem z1ba {wi : TI} {k : Nat} {x : Str} {spos px : Pos} (hN : X.N.Nodup) (hk : X.N[k]? = some x) (hx : X.env.scope.names.lookup x = some .local) (C : CompOk X sc caps ix) (hi : PI X tg iter wi) (hg : ∀ fp s H, PG (cxComp X sc (tgs ++ caps) fp s H) tg g)
   (hB : ∀ (x : V) (σt cs : St) (H : Hp) (Q : St → Hp → Prop), σt.length = tgs.length → B x H (fun vals H2 => Q (vals.map some ++ cs) H2) → g x (σt ++ cs) H fun σ2 H2 => (∃ vals : List V, vals.length = tgs.length ∧ σ2 = vals.map some ++ cs) ∧ Q σ2 H2)
   (ht : ∀ fp s H, PTs (cxComp X sc (tgs ++ caps) fp s H) ifs tt) (he : ∀ fp s H, PE (cxComp X sc (tgs ++ caps) fp s H) elt te)
   (hsw : swapsWith (.ListComp elt [⟨tg, iter, ifs, 0⟩] sc pos) (some (.Name x px)) spos.line X.env = pure true := by rfl)
   (hs : ∀ x, foldedSetIterable iter X.env x = pure x := by intro _; rfl) : PS X (.Assign [.Name x px] (.ListComp elt [⟨tg, iter, ifs, 0⟩] sc pos) spos) (tAsg (tComp wi B ix tt te) (gName k)) := by
 intro pins s σ H D0 I h
 rw [exec_Assign_Name_used _ _ _ _ hsw]
 refine wpAny_bind (wpAny_standAt (wpAny_bind ?_))
 show wpAny _ X.A (do let _ ← comprehension (.ListComp elt [⟨tg, iter, ifs, 0⟩] sc pos) sc X.env _ (newList []) false (eval iter X.env) (some (assign (.Name x px) X.env))) _ _ s
 refine wpAny_bind (wpAny_mono (wpAny_comprehension_free (use := some (assign (.Name x px) X.env)) (Q := fun _ s' => SP X pins D0 .next s') rfl hs (z62 (C.free_cell I)) C.kind C.names
   (thn (hi pins s σ H _ I h) fun v s1 h1 => thn h1 fun itv s2 h2 => ?_)) (fun _ s' hq => wpAny_pure (wpAny_pure hq)) fun _ _ e => e)
 obtain ⟨it, fp, tn, J, H2, e, I2, T, st2, f2, hw⟩ := h2
 subst e
 refine za2 (RR := fun acc Cc => compPost (model X.prog X.w) X.A X.xe (some (assign (.Name x px) X.env)) (fun _ s' => SP X pins D0 .next s') acc Cc) C hg hB ht he I2 T st2 f2 hw ?_
 intro D Cc H' s' m hn I' hfp q
 show wpAny _ X.A (assign (.Name x px) X.env (.ref D)) _ _ _
 refine wpAny_assign_Name (zce I' hN hk (.inl hx) (v := .ref D) rfl (fun s'' I'' hch => ?_) (.inr hx))
 obtain ⟨a, sb, ha⟩ := hch
 have hne : Cc ≠ a := by
   rcases ha with z | z
   . rw [z]; exact hfp.2.1
   . exact fun e => hfp.2.2.2.2.1 x a z e.symm
 refine ⟨m, hn.sameBut sb hne, fun h' sb' => ⟨_, H', ?_, q⟩⟩
 exact I''.turned (t' := s''.toks) (fun b o hb e => sb'.extBut b o hb e) hfp.1 hfp.2.1 hfp.2.2.2.1 hfp.2.2.2.2.1 hfp.2.2.2.2.2
end
section
variable {X : Cx}
theorem PE.imp {e : Expr} {t t' : TE} (h : PE X e t) (hi : ∀ σ H Q, t' σ H Q → t σ H Q) : PE X e t' := fun pins s σ H Q I q => h pins s σ H Q I (hi σ H Q q)
theorem PT.imp {e : Expr} {t t' : TT} (h : PT X e t) (hi : ∀ σ H Q, t' σ H Q → t σ H Q) : PT X e t' := fun pins s σ H Q I q => h pins s σ H Q I (hi σ H Q q)
theorem OpR.imp {f : Value → Value → Sem Value} {r r' : R2} (h : OpR X f r) (hi : ∀ x y H Q, r' x y H Q → r x y H Q) : OpR X f r' := fun pins s σ H x y v u Q I rx ry q => h pins s σ H x y v u Q I rx ry (hi x y H Q q)
theorem UnR.imp {f : Value → Sem Value} {r r' : V → Hp → VK → Prop} (h : UnR X f r) (hi : ∀ x H Q, r' x H Q → r x H Q) : UnR X f r' := fun pins s σ H x v Q I rx q => h pins s σ H x v Q I rx (hi x H Q q)
theorem CallR.imp {f : Value} {r r' : List V → Hp → VK → Prop} (h : CallR X f r) (hi : ∀ xs H Q, r' xs H Q → r xs H Q) : CallR X f r' := fun pins s σ H xs us Q I rx q => h pins s σ H xs us Q I rx (hi xs H Q q)
end
def cVar (i : Nat) : TE := fun σ H Q => match σ[i]? with | some (some v) => Q v H | _ => False
theorem pw {X : Cx} (i : Nat) {x : Str} {pos : Pos} (hN : X.N[i]? = some x := by rfl) (hv : Vis X.env.scope x := by first | exact Or.inl rfl | exact Or.inr (Or.inl rfl) | exact Or.inr (Or.inr rfl)) (hd : (x == ("__debug__" : Str)) = false := by decide)
   (hcd : (x == ("__classdict__" : Str)) = false := by decide) : PE X (.Name x pos) (cVar i) :=
 (pe_var hN hv hd hcd).imp fun σ H Q q => by
   unfold cVar at q
   unfold tVar
   split at q
   . rename_i v e; exact ⟨v, e, q⟩
   . exact q.elim
def cI (g : Int → Int → V) : R2 := fun x y H Q => match x, y with | .int i, .int j => Q (g i j) H | _, _ => False
def cIC (C : Int → Int → Prop) (g : Int → Int → V) : R2 := fun x y H Q => match x, y with | .int i, .int j => C i j ∧ Q (g i j) H | _, _ => False
theorem OpR.cI {X : Cx} {f : Value → Value → Sem Value} {g : Int → Int → V} (h : OpR X f (rI0 g)) : OpR X f (cI g) := h.imp fun x y H Q q => by
 cases x <;> cases y <;> first | exact ⟨_, _, rfl, rfl, q⟩ | exact q.elim
theorem OpR.cIC {X : Cx} {f : Value → Value → Sem Value} {C : Int → Int → Prop} {g : Int → Int → V} (h : OpR X f (rI C g)) : OpR X f (cIC C g) := h.imp fun x y H Q q => by
 cases x <;> cases y <;> first | exact ⟨_, _, rfl, rfl, q.1, q.2⟩ | exact q.elim
section
variable {X : Cx}
theorem o_add : OpR X (binaryOp .Add) (cI fun i j => .int (i + j)) := op_add.cI
theorem o_sub : OpR X (binaryOp .Sub) (cI fun i j => .int (i - j)) := op_sub.cI
theorem o_mul : OpR X (binaryOp .Mult) (cIC CMul fun i j => .int (i * j)) := op_mul.cIC
theorem o_fdiv : OpR X (binaryOp .FloorDiv) (cIC CDiv fun i j => .int (i / j)) := op_fdiv.cIC
theorem o_mod : OpR X (binaryOp .Mod) (cIC (fun _ j => 0 < j) fun i j => .int (i % j)) := op_mod.cIC
theorem o_lt : OpR X (compareOp .Lt) (cI fun i j => .bl (decide (i < j))) := op_lt.cI
theorem o_le : OpR X (compareOp .LtE) (cI fun i j => .bl (decide (i ≤ j))) := op_le.cI
theorem o_gt : OpR X (compareOp .Gt) (cI fun i j => .bl (decide (j < i))) := op_gt.cI
def cU (g : Int → V) : V → Hp → VK → Prop := fun x H Q => match x with | .int i => Q (g i) H | _ => False
theorem u_neg : UnR X (unaryOp .USub) (cU fun i => .int (-i)) := un_neg.imp fun x H Q q => by
 cases x <;> first | exact ⟨_, rfl, q⟩ | exact q.elim
end
def rdSeq (H : Hp) (p : Addr) : Option (List V) := match H p with
 | some (.lst xs) => some xs
 | some (.tup xs) => some xs
 | some (.frz _ (.lst xs)) => some xs
 | some (.frz _ (.tup xs)) => some xs
 | _ => none
theorem z186 {K : PySem.W.Frag} {H : Hp} {p : Addr} {xs : List V} (h : rdSeq H p = some xs) : SqL K H p xs ∨ SqT K H p xs := by
 unfold rdSeq at h
 split at h
 all_goals first | (cases h; done) | skip
 . rename_i ys e; cases h; exact .inl (.inl (.inl e))
 . rename_i ys e; cases h; exact .inr (.inl (.inl e))
 . rename_i o ys e; cases h; exact .inl (.inl (.inr ⟨_, e⟩))
 . rename_i o ys e; cases h; exact .inr (.inl (.inr ⟨_, e⟩))
theorem z134 {H : Hp} {p : Addr} {xs : List V} (h : H p = some (.lst xs)) : rdSeq H p = some xs := by unfold rdSeq; rw [h]
theorem z135 {H : Hp} {p : Addr} {xs : List V} (h : H p = some (.tup xs)) : rdSeq H p = some xs := by unfold rdSeq; rw [h]
def cIx : R2 := fun x y H Q => match x, y with
 | .ref p, .int i => (match rdSeq H p with
   | some xs => (match atI xs i with | some v => Q v H | none => False)
   | none => False)
 | .str z, .int i => z.length ≤ sizeLine ∧ (match atI z.cps.toList i with | some c => Q (.str ⟨#[c]⟩) H | none => False)
 | _, _ => False
def cTruV (x : V) (H : Hp) (Q : Bool → Hp → Prop) : Prop := match x with
 | .bl b => Q b H
 | .int i => Q (i != 0) H
 | .non => Q false H
 | .str y => y.length ≤ sizeLine ∧ Q ((y.length : Int) != 0) H
 | .ref p => (match rdSeq H p with
   | some xs => Q (!xs.isEmpty) H
   | none => (match H p with | some (.dK kvs) => Q (!kvs.isEmpty) H | _ => False))
 | _ => False
theorem z102 {K : PySem.W.Frag} {x : V} {H : Hp} {Q : Bool → Hp → Prop} (h : cTruV x H Q) : ∃ k, TruV K x H k ∧ Q k H := by
 cases x with
 | bl b => exact ⟨b, rfl, h⟩
 | int i => exact ⟨_, rfl, h⟩
 | non => exact ⟨_, rfl, h⟩
 | str y => exact ⟨_, ⟨h.1, rfl⟩, h.2⟩
 | ref p =>
   unfold cTruV at h
   dsimp only at h
   split at h
   . rename_i xs e
     rcases z186 (K := K) e with z | z
     . exact ⟨_, .inl ⟨xs, z, rfl⟩, h⟩
     . exact ⟨_, .inr (.inl ⟨xs, z, rfl⟩), h⟩
   . split at h
     . rename_i kvs e; exact ⟨_, .inr (.inr ⟨kvs, e, rfl⟩), h⟩
     . exact h.elim
 | _ => exact h.elim
def cTru (t : TE) : TT := fun σ H Q => t σ H fun x H' => cTruV x H' Q
section
variable {X : Cx} {a b c : Expr} {ta tb tc : TE} {pos : Pos}
theorem pt_tru (ha : PE X a ta) (he : ∀ whole, isTrue a X.env whole = (do let v ← whole; standAt a.pos; holding [v] (truthy v)) := by intro _; rfl) : PT X a (cTru ta) := by
 intro pins s σ H Q I h
 exact isTrue_plain (thn (ha pins s σ H _ I h) fun v s1 ⟨x, H1, I1, r1, q1⟩ => tru_ok pins s1 σ H1 x v Q I1 r1 (z102 q1)) (he _)
def cTest (t : TE) : TT := fun σ H Q => t σ H fun x H' => match x with | .bl k => Q k H' | _ => False
theorem z1bb {op : CmpOp} {r : R2} (ho : OpR X (compareOp op) r) (ha : PE X a ta) (hb : PE X b tb) (hm : behindInMarks op b = false) : PT X (.Compare a [op] [b] pos) (cTest (tOp r ta tb)) := by
 intro pins s σ H Q I h
 refine wpAny_isTrue_Compare1 (thn (ha pins s σ H _ I h) fun v s1 ⟨x, H1, I1, r1, q1⟩ => thn (hb pins s1 σ H1 _ I1 q1) fun u s2 ⟨y, H2, I2, r2, q2⟩ =>
   thn (ho pins s2 σ H2 x y v u _ I2 r1 r2 q2) fun c s3 ⟨z, H3, I3, r3, q3⟩ => ?_) hm
 cases z <;> first | exact q3.elim | skip
 cases r3
 exact wpAny_truthy_bool ⟨H3, I3, q3⟩
end
section
variable {X : Cx} {a b c : Expr} {ta tb tc : TE} {pos : Pos}
def PChT (X : Cx) (ops : List CmpOp) (rs : List Expr) (t : V → TT) : Prop :=
 ∀ (pos : Pos) (pins : List (Addr × Obj)) (s : Shared) (σ : St) (H : Hp) (x : V) (v : Value) (Q : Bool → Hp → Prop), Inv X pins σ H s → RelV x v → t x σ H Q → wpAny (model X.prog X.w) X.A (testChain pos v ops (evalEach rs X.env)) (TP X pins σ Q) X.xe s
def tLink (r : R2) (tb : TE) (t : V → TE) : V → TE := fun x σ H Q => tb σ H fun y H2 => r x y H2 fun z H3 => match z with | .bl k => (if k = true then t y σ H3 Q else Q (.bl false) H3) | _ => False
def tLastT (r : R2) (tb : TE) : V → TT := fun x σ H Q => tb σ H fun y H2 => r x y H2 fun z H3 => match z with | .bl k => Q k H3 | _ => False
def tLinkT (r : R2) (tb : TE) (t : V → TT) : V → TT := fun x σ H Q => tb σ H fun y H2 => r x y H2 fun z H3 => match z with | .bl k => (if k = true then t y σ H3 Q else Q false H3) | _ => False
theorem z136 {op : CmpOp} {r : R2} (ho : OpR X (compareOp op) r) (hb : PE X b tb) : PChT X [op] [b] (tLastT r tb) := by
 intro pos pins s σ H x v Q I rx h
 refine test_last (thn (hb pins s σ H _ I h) fun u s2 ⟨y, H2, I2, r2, q2⟩ => thn (ho pins s2 σ H2 x y v u _ I2 rx r2 q2) fun d s3 ⟨z, H3, I3, r3, q3⟩ => ?_)
 cases z <;> first | exact q3.elim | skip
 cases r3
 exact wpAny_truthy_bool ⟨H3, I3, q3⟩
theorem z137 {op op' : CmpOp} {ops : List CmpOp} {r' : Expr} {rs : List Expr} {r : R2} {t : V → TT} (ho : OpR X (compareOp op) r) (hb : PE X b tb) (hr : PChT X (op' :: ops) (r' :: rs) t) : PChT X (op :: op' :: ops) (b :: r' :: rs) (tLinkT r tb t) := by
 intro pos pins s σ H x v Q I rx h
 refine test_link (thn (hb pins s σ H _ I h) fun u s2 ⟨y, H2, I2, r2, q2⟩ => thn (ho pins s2 σ H2 x y v u _ I2 rx r2 q2) fun d s3 ⟨z, H3, I3, r3, q3⟩ => ?_)
 cases z <;> first | exact q3.elim | skip
 rename_i k
 cases r3
 refine wpAny_truthy_bool ?_
 cases k with
 | false => exact ite_ff ⟨H3, I3, by simpa using q3⟩
 | true => exact ite_tt (hr pos pins s3 σ H3 y u Q I3 r2 (by simpa using q3))
def tChnT (ta : TE) (t : V → TT) : TT := fun σ H Q => ta σ H fun x H1 => t x σ H1 Q
theorem pt_chn {op₁ op₂ : CmpOp} {ops : List CmpOp} {r₁ r₂ : Expr} {rs : List Expr} {t : V → TT} (ha : PE X a ta) (hr : PChT X (op₁ :: op₂ :: ops) (r₁ :: r₂ :: rs) t) (hm : lastMarks (op₁ :: op₂ :: ops) (r₁ :: r₂ :: rs) = false := by with_unfolding_all rfl) :
   PT X (.Compare a (op₁ :: op₂ :: ops) (r₁ :: r₂ :: rs) pos) (tChnT ta t) := by
 intro pins s σ H Q I h
 exact isTrue_chain (thn (ha pins s σ H _ I h) fun v s1 ⟨x, H1, I1, r1, q1⟩ => hr pos pins s1 σ H1 x v Q I1 r1 q1) hm
def cAndV (ta tb : TE) : TE := fun σ H Q => ta σ H fun x H1 => match x with | .bl c => (if c = true then tb σ H1 Q else Q (.bl false) H1) | _ => False
end
section
variable {X : Cx} {a b c : Expr} {ta tb tc : TE} {pos : Pos} {rest : List Expr}
theorem z1bc (ha : PE X a ta) (hb : PE X (.BoolOp .And (b :: rest) pos) tb) : PE X (.BoolOp .And (a :: b :: rest) pos) (cAndV ta tb) := by
 intro pins s σ H Q I h
 refine BoolOp_and (thn (ha pins s σ H _ I h) fun v s1 ⟨x, H1, I1, r1, q1⟩ => ?_)
 cases x <;> first | exact q1.elim | skip
 rename_i k
 cases r1
 refine wpAny_truthy_bool ?_
 cases k with
 | true => exact ite_tt (hb pins s1 σ H1 Q I1 (by simpa using q1))
 | false => exact ite_ff ⟨.bl false, H1, I1, rfl, by simpa using q1⟩
def cNotC (ta : TE) : TE := fun σ H Q => ta σ H fun x H1 => cTruV x H1 fun k H2 => Q (.bl (!k)) H2
theorem z1bd (ha : PE X a ta) : PE X (.UnaryOp .Not a pos) (cNotC ta) := by
 intro pins s σ H Q I h
 refine UnaryOp_ (thn (ha pins s σ H _ I h) fun v s1 ⟨x, H1, I1, r1, q1⟩ => not_of ?_)
 exact thn (tru_ok pins s1 σ H1 x v _ I1 r1 (z102 q1)) fun k s2 ⟨H2, I2, q2⟩ => ⟨.bl (!k), H2, I2, rfl, q2⟩
def kindV (H : Hp) : V → Option String
 | .non => some "NoneType"
 | .bl _ => some "bool"
 | .int _ => some "int"
 | .str _ => some "str"
 | .ref a => (match H a with
   | some (.lst _) => some "list"
   | some (.frz _ (.lst _)) => some "list"
   | some (.tup _) => some "tuple"
   | some (.dK _) => some "dict"
   | some (.dT _) => some "dict"
   | _ => none)
 | _ => none
def isiB (t c : String) : Bool := t == c || (t == "bool" && c == "int")
def isKnd (c : String) : Bool := ["int", "bool", "str", "list", "tuple", "dict"].contains c
theorem z27 {K : PySem.W.Frag} {t c : String} (ht : ["NoneType", "bool", "int", "str", "list", "tuple", "dict"].contains t = true) (hc : isKnd c = true) : PySem.W.kitOne K (.type t) (.type c) = some (isiB t c) := by
 have h1 : t = "NoneType" ∨ t = "bool" ∨ t = "int" ∨ t = "str" ∨ t = "list" ∨ t = "tuple" ∨ t = "dict" := by simpa using ht
 have h2 : c = "int" ∨ c = "bool" ∨ c = "str" ∨ c = "list" ∨ c = "tuple" ∨ c = "dict" := by simpa [isKnd] using hc
 rcases h1 with rfl | rfl | rfl | rfl | rfl | rfl | rfl <;> rcases h2 with rfl | rfl | rfl | rfl | rfl | rfl <;> first | rfl | (with_unfolding_all rfl)
theorem z187 : CallR X (.builtin "isinstance") (fun xs H Q => match xs with
   | [x, .ty c] => isKnd c = true ∧ (match kindV H x with | some t => Q (.bl (isiB t c)) H | none => False)
   | _ => False) := by
 intro pins s σ H xs us Q I r h
 split at h
 . rename_i x c
   obtain ⟨hc, h⟩ := h
   obtain ⟨u, w', rfl, ru, rw'⟩ := vals2 r
   cases rw'
   split at h
   . rename_i t et
     have fin : ∀ (tk : Nat), EP X pins σ Q (.bool (isiB t c)) { s with toks := tk } := fun tk => ⟨.bl _, H, I.tok _, rfl, h⟩
     cases x <;> simp only [kindV] at et
     case non => cases et; exact z26 I ru .non (z27 (by decide) hc) fin
     case bl b => cases et; exact z26 I ru (.bl b) (z27 (by decide) hc) fin
     case int b => cases et; exact z26 I ru (.int b) (z27 (by decide) hc) fin
     case str b => cases et; exact z26 I ru (.str b) (z27 (by decide) hc) fin
     case ref a =>
       split at et <;> first | (cases et; done) | skip
       . rename_i ys e; cases et; exact z26 I ru (.lst e) (z27 (by decide) hc) fin
       . rename_i o ys e; cases et; exact z26 I ru (.frz e) (z27 (by decide) hc) fin
       . rename_i ys e; cases et; exact z26 I ru (.tup e) (z27 (by decide) hc) fin
       . rename_i ys e; cases et; exact z26 I ru (.dK e) (z27 (by decide) hc) fin
       . rename_i ys e; cases et; exact z26 I ru (.dT e) (z27 (by decide) hc) fin
     all_goals cases et
   . exact h.elim
 . exact h.elim
abbrev allOf (s : Shared) (L : Addr) : List (Addr × Obj) := z9a (Att.noObjs s.heap) s.heap L
section
variable {pins : List (Addr × Obj)} {σ : St} {H : Hp} {s : Shared} {h' : Heap} {m : Str → Option Value}
theorem za3 {L : Addr} (N : News (Att.noObjs s.heap) L h' (allOf s L)) : ∀ b o, b ≠ L → s.heap.get? b = some o → h'.get? b = some o := fun b o hb e => (N (b, o) (z57 hb (Att.noObjs_get _ _) e)).1
theorem Inv.frn {tk : Nat} (I : Inv X pins σ H s) (hn : s.heap.Ns X.env.locals m) (F : Fr (Att.noObjs s.heap) X.env.locals h' m) (N : News (Att.noObjs s.heap) X.env.locals h' (allOf s X.env.locals)) : Inv X pins σ H { s with heap := h', toks := tk } := by
 have kept := za3 N
 refine I.step (g' := s.gens) (d' := s.drawn) (ch := []) (fun _ z => nomatch z) (fun b o hL _ _ e _ => kept b o hL e) (fun b o hL _ _ e _ => ⟨o.slots, kept b o hL e⟩) (fun _ _ _ _ n => n) (fun b o _ e => ?_) (fun _ _ e => e) (fun _ _ _ e => e) (fun b ps e => ⟨#[], by rw [e]; simp⟩) (fun m' hm => ?_) (fun b u e => ?_) I.bare
 . by_cases hb : b = X.env.locals
   . subst hb
     obtain ⟨o', _, _, ho', _⟩ := F.ns
     exact ⟨o', ho'⟩
   . exact ⟨o, kept b o hb e⟩
 . rw [hm.eq_nsMap, ← hn.eq_nsMap]; exact F.ns
 . refine (I.hok b u e).stay (fun c v hc q => kept c v ?_ q) (fun _ q => q) fun _ _ q => q
   intro z
   rcases hc with hc | hc
   . rw [← hc, z, I.free] at e; cases e
   . rw [z, I.free] at hc; cases hc
theorem Inv.frnew {tk : Nat} {D : Addr} {ob : Obj} {o : HO} (I : Inv X pins σ H s) (hn : s.heap.Ns X.env.locals m) (F : Fr (Att.noObjs s.heap) X.env.locals h' m) (N : News (Att.noObjs s.heap) X.env.locals h' ((D, ob) :: allOf s X.env.locals))
   (hD : s.heap.get? D = none) (new : ObjOk X.prog X.w (upd H D o) h' D o) : H D = none ∧ Inv X pins σ (upd H D o) { s with heap := h', toks := tk } := by
 have kept := za3 (fun p hp => N p (.tail _ hp))
 have hDL : D ≠ X.env.locals := (N (D, ob) (.head _)).2.1
 have neD : ∀ b o, s.heap.get? b = some o → b ≠ D := fun b o e z => by rw [z, hD] at e; cases e
 have HD : H D = none := by
   cases q : H D with
   | none => rfl
   | some u =>
     have := (I.hok D u q).lt
     obtain ⟨v, hv⟩ : ∃ v, s.heap.get? D = some v := by
       have z := I.hok D u q
       cases u with
       | lst xs => obtain ⟨_, _, _, _, e⟩ := z; exact ⟨_, e⟩
       | tup xs => obtain ⟨_, _, _, o, e, _⟩ := z; exact ⟨_, e⟩
       | dK kvs => obtain ⟨_, _, _, _, o, _, _, e, _⟩ := z; exact ⟨_, e⟩
       | dT kvs => obtain ⟨_, _, _, _, o, _, _, e, _⟩ := z; exact ⟨_, e⟩
       | set S n => obtain ⟨_, _, _, _, e, _⟩ := z; exact ⟨_, e⟩
       | ins C dx fs => obtain ⟨_, _, _, e, _⟩ := z; exact ⟨_, e⟩
       | own x => exact z
       | xd fs => obtain ⟨mA, n1, _⟩ := z; obtain ⟨o, _, _, e, _⟩ := n1; exact ⟨o, e⟩
       | met f x => exact ⟨_, z⟩
       | rng lo hi => obtain ⟨_, _, _, e⟩ := z; exact ⟨_, e⟩
       | frz o u => exact ⟨_, z.1⟩
       | tbl ps => exact ⟨_, z⟩
       | ext φ => exact z.2.1
     rw [hD] at hv; cases hv
 refine ⟨HD, I.step (g' := s.gens) (d' := s.drawn) (ch := []) (fun _ z => nomatch z) (fun b o hL _ _ e _ => kept b o hL e) (fun b o hL _ _ e _ => ⟨o.slots, kept b o hL e⟩) (fun b ob _ e n => by rw [upd_ne (neD b ob e)]; exact n) (fun b o _ e => ?_)
   (fun b xs e => by rw [upd_ne (z9 e HD)]; exact e) (fun b u xs e => by rw [upd_ne (z9 e HD)]; exact e) (fun b ps e => ⟨#[], by rw [upd_ne (z9 e HD), e]; simp⟩) (fun m' hm => ?_) (fun b u e => ?_) I.bare⟩
 . by_cases hb : b = X.env.locals
   . subst hb
     obtain ⟨o', _, _, ho', _⟩ := F.ns
     exact ⟨o', ho'⟩
   . exact ⟨o, kept b o hb e⟩
 . rw [hm.eq_nsMap, ← hn.eq_nsMap]; exact F.ns
 . by_cases hb : b = D
   . subst hb
     rw [z8] at e
     cases e
     exact new
   . rw [upd_ne hb] at e
     refine (I.hok b u e).stay (fun c v hc q => kept c v ?_ q) (fun c q => ?_) fun c xs q => ?_
     . intro z
       rcases hc with hc | hc
       . rw [← hc, z, I.free] at e; cases e
       . rw [z, I.free] at hc; cases hc
     . rw [upd_ne (z9 q HD)]; exact q
     . rw [upd_ne (z9 q HD)]; exact q
end
theorem z103 (hc : X.calm = true) : CallR X (.builtin "max") (fun xs H Q => match xs with | [.int i, .int j] => Q (.int (if j > i then j else i)) H | _ => False) := (z12a hc).imp fun xs H Q q => by
 split at q
 . exact ⟨_, _, rfl, q⟩
 . exact q.elim
theorem z104 (hc : X.calm = true) : CallR X (.builtin "min") (fun xs H Q => match xs with | [.int i, .int j] => Q (.int (if j < i then j else i)) H | _ => False) := (z12b hc).imp fun xs H Q q => by
 split at q
 . exact ⟨_, _, rfl, q⟩
 . exact q.elim
end
def ItS (S : Hp → Prop) (xs : List V) : It := ⟨fun i H => S H ∧ i < xs.length, fun i H x H' => H' = H ∧ xs[i]? = some x, fun i H => S H ∧ xs.length ≤ i⟩
theorem Turn.conv {P : Program} {w : World} {K : PySem.W.Frag} {tg : Expr} {J J' : It} {fp : List Addr} {it : Addr} {tn : Nat → Heap → Prop} (T : Turn P w K tg J fp it tn) (h1 : ∀ i H, J'.go i H → J.go i H) (h2 : ∀ i H x H', J'.go i H → J.yld i H x H' → J'.yld i H x H')
   (h3 : ∀ i H, J'.stop i H → J.stop i H) : Turn P w K tg J' fp it tn where
 mem := T.mem
 obj := T.obj
 keep := T.keep
 item := fun X a b c d i pins s σ H E I hf st hg => thn (T.item X a b c d i pins s σ H E I hf st (h1 i H hg)) fun r s1 ⟨u, e, h⟩ => ⟨u, e, thn h fun _ s2 ⟨x, H', I', r', y', st', fr'⟩ => ⟨x, H', I', r', h2 i H x H' hg y', st', fr'⟩⟩
 done := fun X a b c d i pins s σ H E I hf st hg => T.done X a b c d i pins s σ H E I hf st (h3 i H hg)
 self := T.self
section
variable {X : Cx} {tg : Expr}
def seqK (x : V) (H1 : Hp) (R : It → Hp → Prop) : Prop := match x with
 | .ref a => (match H1 a with
   | some (.lst xs) => R (ItS (fun H' => Rd H' a (.lst xs)) xs) H1
   | some (.frz _ (.lst xs)) => R (ItS (fun H' => Rd H' a (.lst xs)) xs) H1
   | some (.tup xs) => R (ItS (fun H' => H' a = some (.tup xs)) xs) H1
   | _ => False)
 | _ => False
theorem z188 {a : Addr} {H : Hp} {R : It → Hp → Prop} {xs : List V} (h : Rd H a (.lst xs)) (r : R (ItS (fun H' => Rd H' a (.lst xs)) xs) H) : seqK (.ref a) H R := by
 unfold seqK
 rcases h with h | ⟨o, h⟩
 . dsimp only; rw [h]; exact r
 . dsimp only; rw [h]; exact r
theorem z189 {a : Addr} {H : Hp} {R : It → Hp → Prop} {xs : List V} (h : H a = some (.tup xs)) (r : R (ItS (fun H' => H' a = some (.tup xs)) xs) H) : seqK (.ref a) H R := by
 unfold seqK
 dsimp only; rw [h]; exact r
def iSeq (K : PySem.W.Frag) (tl : TE) : TI := fun σ H R => tl σ H fun x H1 => seqK x H1 R
theorem pi_seq {l : Expr} {tl : TE} (hl : PE X l tl) : PI X tg l (iSeq X.K tl) := by
 intro pins s σ H R I h
 refine thn (hl pins s σ H _ I h) fun v s1 ⟨x, H1, I1, r1, q1⟩ => ?_
 cases x <;> first | exact q1.elim | skip
 rename_i a
 cases r1
 unfold seqK at q1
 dsimp only at q1
 have asList : ∀ xs, Rd H1 a (.lst xs) → R (ItS (fun H' => Rd H' a (.lst xs)) xs) H1 → wpAny (model X.prog X.w) X.A (pyIter (.ref a)) (PIE X pins σ tg R) X.xe s1 := fun xs hq q => by
   obtain ⟨its, rv, p, hz⟩ := I1.list (.inl hq)
   refine wpAny_pyIter_list p.isList ?_
   refine ⟨s1.heap.objs.size, [s1.heap.objs.size], _, _, H1, rfl, I1.kept (t' := s1.toks) fun b o e => Heap.get?_push_of_some _ e, (z128 a _).conv ?_ ?_ ?_, ⟨_, Heap.get?_push_size _ rfl, rfl, rfl⟩, fun b hb => ?_, q⟩
   . exact fun i H' ⟨h1, h2⟩ => ⟨xs, xs[i], .inl h1, by simp [h2]⟩
   . exact fun i H' x H'' ⟨h1, h2⟩ ⟨e, y⟩ => ⟨e, y xs (.inl h1)⟩
   . exact fun i H' ⟨h1, h2⟩ => ⟨xs, .inl h1, h2⟩
   . have e : b = s1.heap.objs.size := by simpa using hb
     subst e
     exact I1.fpOk (Nat.le_refl _) (I1.hok.fresh (Nat.le_refl _))
 split at q1
 . rename_i xs e; exact asList xs (.inl e) q1
 . rename_i o xs e; exact asList xs (.inr ⟨o, e⟩) q1
 . rename_i xs e
   obtain ⟨its, rv, p, hz⟩ := I1.tuple (.of e)
   refine wpAny_pyIter_tuple (show s1.heap.IsTuple a its.toArray from p) ?_
   refine ⟨s1.heap.objs.size, [s1.heap.objs.size], _, _, H1, rfl, I1.kept (t' := s1.toks) fun b o e => Heap.get?_push_of_some _ e, (zf6 a _).conv ?_ ?_ ?_, ⟨_, Heap.get?_push_size _ rfl, rfl, rfl⟩, fun b hb => ?_, q1⟩
   . exact fun i H' ⟨h1, h2⟩ => ⟨xs, xs[i], .of h1, by simp [h2]⟩
   . exact fun i H' x H'' ⟨h1, h2⟩ ⟨e, y⟩ => ⟨e, y xs (.of h1)⟩
   . exact fun i H' ⟨h1, h2⟩ => ⟨xs, .of h1, h2⟩
   . have e : b = s1.heap.objs.size := by simpa using hb
     subst e
     exact I1.fpOk (Nat.le_refl _) (I1.hok.fresh (Nat.le_refl _))
 . exact q1.elim
def zseq (lo : Int) (n : Nat) : List V := (List.range n).map fun (i : Nat) => V.int (lo + i)
theorem z6a (lo : Int) (n : Nat) : (zseq lo n).length = n := by simp [zseq]
theorem z158 (lo : Int) (n i : Nat) (h : i < n) : (zseq lo n)[i]? = some (.int (lo + i)) := by simp [zseq, h]
def iR1 (ta : TA) : TI := fun σ H R => ta σ H fun vs H1 => match vs with | [.int j] => (-(2 ^ 62) ≤ j ∧ j < 2 ^ 62) ∧ R (ItS (fun _ => True) (zseq 0 j.toNat)) H1 | _ => False
def iR2 (ta : TA) : TI := fun σ H R => ta σ H fun vs H1 => match vs with | [.int i, .int j] => (-(2 ^ 62) ≤ i ∧ i < 2 ^ 62 ∧ -(2 ^ 62) ≤ j ∧ j < 2 ^ 62) ∧ R (ItS (fun _ => True) (zseq i (j - i).toNat)) H1 | _ => False
theorem z36 (lo : Int) (n : Nat) : (∀ i (H : Hp), (ItS (fun _ => True) (zseq lo n)).go i H → (Itr lo n).go i H) ∧ (∀ i H x H', (ItS (fun _ => True) (zseq lo n)).go i H → (Itr lo n).yld i H x H' → (ItS (fun _ => True) (zseq lo n)).yld i H x H') ∧
   (∀ i (H : Hp), (ItS (fun _ => True) (zseq lo n)).stop i H → (Itr lo n).stop i H) := by
 refine ⟨fun i H ⟨_, h⟩ => ?_, fun i H x H' ⟨_, h⟩ ⟨e, y⟩ => ⟨e, ?_⟩, fun i H ⟨_, h⟩ => ?_⟩
 . rw [z6a] at h; exact h
 . rw [z6a] at h; rw [y]; exact z158 lo n i h
 . rw [z6a] at h; exact h
end
def ForW (J : It) (g : TG) (tb : TS) (D : Ends) (σ : St) (H1 : Hp) : Prop := ∃ W : Nat → Nat → St → Hp → Prop, (∃ m, W 0 m σ H1) ∧ ∀ i m σ H, W i m σ H →
 (J.stop i H ∧ D.nx σ H) ∨ (J.go i H ∧ ∃ N : St → Hp → Prop, (∀ σ' H', N σ' H' → ∃ m', m' < m ∧ W (i + 1) m' σ' H') ∧ ∀ x H', J.yld i H x H' → g x σ H' fun σ2 H2 => tb { D with nx := N, ct := N, bk := D.nx } σ2 H2)
def tForC (wi : TI) (g : TG) (tb : TS) : TS := fun D σ H => wi σ H fun J H1 => ForW J g tb D σ H1
theorem z1be {X : Cx} {tg iter : Expr} {body : List Stmt} {wi : TI} {g : TG} {tb : TS} {pos : Pos} (hp : PassesOwn (model X.prog X.w) X.A X.env X.xe) (hc : X.calm = true) (hi : PI X tg iter wi) (hg : PG X tg g) (hb : PSs X body tb)
   (hs : ∀ x, foldedSetIterable iter X.env x = pure x := by intro _; rfl) : PS X (.For tg iter body [] pos) (tForC wi g tb) := ps_for hp hc hi hg hb hs
theorem Same.upd_new {H : Hp} {a : Addr} {o : HO} (h : H a = none) : Same H (upd H a o) := fun b u e => by rw [upd_ne (z9 e h)]; exact e
theorem Same.upd_at {H H1 : Hp} {a : Addr} {o : HO} (s : Same H H1) (h : H a = none) : Same H (upd H1 a o) := fun b u e => by rw [upd_ne (z9 e h)]; exact s b u e
section
variable {X : Cx} {pins : List (Addr × Obj)} {σ : St} {H : Hp} {s : Shared} {tg : Expr}
theorem Inv.turnedT {wr : List Addr} {h' : Heap} {tk : Nat} {T : Addr} {xs : List V} {its : List Value} (I : Inv X pins σ H s) (hw : ∀ b ∈ wr, FpOk X pins H b) (k : ∀ b o, b ∉ wr → s.heap.get? b = some o → h'.get? b = some o)
   (hT : s.heap.objs.size ≤ T) (ht : h'.IsTuple T its.toArray) (rv : Vals xs its) (hz : xs.length ≤ sizeLine) : Inv X pins σ (upd H T (.tup xs)) { s with heap := h', toks := tk } := by
 have HT : H T = none := I.hok.fresh hT
 have nw : ∀ b u, H b = some u → b ∉ wr := fun b u e z => by rw [(hw b z).1] at e; cases e
 have neT : ∀ b o, s.heap.get? b = some o → b ≠ T := fun b o e => Nat.ne_of_lt (Nat.lt_of_lt_of_le (Heap.lt_size e) hT)
 refine I.step (g' := s.gens) (d' := s.drawn) (ch := wr) (fun b hb => ⟨(hw b hb).2.2.2.1, (hw b hb).2.1, (hw b hb).2.2.2.2.1, (hw b hb).2.2.2.2.2⟩) (fun b o _ _ hc e _ => k b o hc e) (fun b o _ _ hc e _ => ⟨o.slots, k b o hc e⟩)
   (fun b o _ e n => by rw [upd_ne (neT b o e)]; exact n) (fun b o hc e => ⟨o, k b o hc e⟩) (fun b ys e => by rw [upd_ne (z9 e HT)]; exact e) (fun b u ys e => by rw [upd_ne (z9 e HT)]; exact e)
   (fun b ps e => ⟨#[], by rw [upd_ne (z9 e HT), e]; simp⟩) (fun m hm => ?_) (fun b u e => ?_) I.bare
 . obtain ⟨o, es, ep, ho, r⟩ := hm
   exact ⟨o, es, ep, k _ o (fun z => (hw _ z).2.1 rfl) ho, r⟩
 . by_cases hb : b = T
   . subst hb
     rw [z8] at e
     cases e
     exact ⟨hz, its, rv, ht⟩
   . rw [upd_ne hb] at e
     refine (I.hok b u e).stay (fun c v hc q => k c v ?_ q) (fun c q => ?_) fun c ys q => ?_
     . rcases hc with z | z
       . rw [z]; exact nw b u e
       . exact nw c _ z
     . rw [upd_ne (z9 q HT)]; exact q
     . rw [upd_ne (z9 q HT)]; exact q
end
section
variable {X : Cx} {pins : List (Addr × Obj)} {σ : St} {H : Hp} {s : Shared}
theorem Inv.turnedN {wr : List Addr} {h' : Heap} {tk : Nat} (I : Inv X pins σ H s) (hw : ∀ b ∈ wr, FpOk X pins H b) (k : ∀ b o, b ∉ wr → s.heap.get? b = some o → h'.get? b = some o) : Inv X pins σ H { s with heap := h', toks := tk } := by
 have nw : ∀ b u, H b = some u → b ∉ wr := fun b u e z => by rw [(hw b z).1] at e; cases e
 refine I.step (g' := s.gens) (d' := s.drawn) (ch := wr) (fun b hb => ⟨(hw b hb).2.2.2.1, (hw b hb).2.1, (hw b hb).2.2.2.2.1, (hw b hb).2.2.2.2.2⟩) (fun b o _ _ hc e _ => k b o hc e) (fun b o _ _ hc e _ => ⟨o.slots, k b o hc e⟩)
   (fun b o _ e n => n) (fun b o hc e => ⟨o, k b o hc e⟩) (fun b ys e => e) (fun b u ys e => e) (fun b ps e => ⟨#[], by rw [e]; simp⟩) (fun m hm => ?_) (fun b u e => ?_) I.bare
 . obtain ⟨o, es, ep, ho, r⟩ := hm
   exact ⟨o, es, ep, k _ o (fun z => (hw _ z).2.1 rfl) ho, r⟩
 . refine (I.hok b u e).stay (fun c v hc q => k c v ?_ q) (fun c q => q) fun c ys q => q
   rcases hc with z | z
   . rw [z]; exact nw b u e
   . exact nw c _ z
end
def ItP (S : Hp → Prop) (ps : List (V × V)) : It := ⟨fun i H => S H ∧ i < ps.length, fun i H x H' => ∃ T a b, x = .ref T ∧ H T = none ∧ H' = upd H T (.tup [a, b]) ∧ ps[i]? = some (a, b), fun i H => S H ∧ i = ps.length⟩
theorem two_le : 2 ≤ sizeLine := by rw [sizeLine_eq]; decide
theorem z138 {P : Program} {w : World} {K : PySem.W.Frag} {elts : List Expr} {k : Nat} {pos : Pos} {e it l : Addr} {xs : List V} (hei : e ≠ it) (hle : l ≠ e) (hli : l ≠ it) :
   Turn P w K (.Tuple elts k pos) (ItP (fun H => Rd H l (.lst xs)) ((zseq 0 xs.length).zip xs)) [e, it] e (fun i h => (∃ old, IsEnum h e it i old) ∧ h.IsListIter it l i) where
 mem := by simp
 obj := fun i h ⟨⟨old, he⟩, ⟨o1, h1, _, d1⟩⟩ c hc => by
   have hc' : c = e ∨ c = it := by simpa using hc
   rcases hc' with rfl | rfl
   . exact ⟨_, he, fun v z => by cases z⟩
   . exact ⟨o1, h1, fun v z => by rw [d1] at z; cases z⟩
 keep := fun i h h' ⟨⟨old, he⟩, h1⟩ kp => ⟨⟨old, kp e (by simp) _ he⟩, h1.at fun o z => kp it (by simp) o z⟩
 item := by
   intro X hP hw hK hc i pins s σ H E I hf st hg
   subst hP hw hK
   obtain ⟨hS, hlt⟩ := hg
   obtain ⟨he, h1⟩ := st
   obtain ⟨its, r, p1, z1⟩ := I.list (.inl hS)
   have W := WalksT.enumerate (prog := X.prog) (w := X.w) (A := X.A) (I.ok.hd hc) e it l hei hle hli its.toArray
   have le1 := r.length
   have hlx : i < xs.length := by rw [List.length_zip, z6a] at hlt; omega
   have hlz : i < its.toArray.size := by simp only [List.size_toArray]; omega
   refine W.item i s _ _ hlz ⟨he, h1, p1.isList⟩ fun T vals h' tk hPt hT ht hM hk => ⟨.ref T, rfl, ?_⟩
   refine W.go elts k pos i T _ _ _ hM fun h'' hst'' hk'' => ?_
   obtain ⟨t, x, hx, rfl⟩ := hPt
   obtain ⟨a, ea⟩ : ∃ a, xs[i]? = some a := ⟨xs[i], by simp⟩
   obtain ⟨u1, q1, ru1⟩ := r.get ea
   have hx' : its[i]? = some x := by simpa using hx
   rw [q1] at hx'; cases hx'
   obtain ⟨oT, hoT, hcT, nT, hdT⟩ := ht
   have ht'' : h''.IsTuple T ([.int (i : Nat) t, x] : List Value).toArray := ⟨oT, hk'' T oT (W.apart i T _ hM) hoT, hcT, nT, hdT⟩
   have sub : ∀ c ∈ [e, it], FpOk X pins H c := fun c hc' => hf c hc'
   have I2 := I.turnedT (tk := tk) (xs := [.int (i : Nat), a]) (its := [.int (i : Nat) t, x]) sub (fun c o hcw z => hk'' c o hcw (hk c o hcw z)) hT ht'' (.cons ⟨_, rfl⟩ (.cons ru1 .nil)) two_le
   have HT : H T = none := I.hok.fresh hT
   refine ⟨.ref T, upd H T (.tup [.int (i : Nat), a]), I2, rfl, ⟨T, .int (i : Nat), a, rfl, HT, rfl, ?_⟩, ⟨hst''.1, hst''.2.1⟩, fun c hc' => ?_⟩
   . rw [List.getElem?_zip_eq_some]
     refine ⟨?_, ea⟩
     rw [z158 0 _ _ hlx]; simp
   . rw [upd_ne]
     . exact (hf c hc').1
     . intro ec
       have hh : ∃ o, s.heap.get? c = some o := by
         have hc'' : c = e ∨ c = it := by simpa using hc'
         obtain ⟨old, he'⟩ := he
         obtain ⟨o1, g1, _⟩ := h1
         rcases hc'' with z | z <;> subst z
         . exact ⟨_, he'⟩
         . exact ⟨_, g1⟩
       obtain ⟨o, ho⟩ := hh
       exact absurd (Nat.lt_of_lt_of_le (Heap.lt_size ho) hT) (by rw [ec]; exact Nat.lt_irrefl _)
 done := by
   intro X hP hw hK hc i pins s σ H E I hf st hg
   subst hP hw hK
   obtain ⟨hS, hle'⟩ := hg
   obtain ⟨he, h1⟩ := st
   obtain ⟨its, r, p1, z1⟩ := I.list (.inl hS)
   have W := WalksT.enumerate (prog := X.prog) (w := X.w) (A := X.A) (I.ok.hd hc) e it l hei hle hli its.toArray
   have le1 := r.length
   have hi : its.toArray.size = i := by
     rw [List.length_zip, z6a] at hle'
     simp only [List.size_toArray]; omega
   rw [← hi] at h1 he
   exact W.done s _ _ ⟨he, h1, p1.isList⟩ fun h' tk hk => ⟨rfl, I.turnedN hf hk⟩
 self := fun A i s Q E st h => by
   obtain ⟨⟨old, he⟩, _⟩ := st
   exact wpAny_pyIter_enum he h
section
variable {X : Cx} {a b : Expr} {ta : TA} {p pos tpos : Pos} {elts : List Expr} {k : Nat}
def iZip (ta : TA) : TI := fun σ H R => ta σ H fun vs H1 => match vs with
 | [.ref l1, .ref l2] => ∃ xs ys, Rd H1 l1 (.lst xs) ∧ Rd H1 l2 (.lst ys) ∧ R (ItP (fun H => Rd H l1 (.lst xs) ∧ Rd H l2 (.lst ys)) (xs.zip ys)) H1
 | _ => False
theorem z139 {n l1 l2 : Addr} (h1 : l1 < n) (h2 : l2 < n) : ZipApart (n + 4) (n + 2) (n + 3) n (n + 1) l1 l2 := PySem.W.ktu_apart _ _ _ h1 h2
def iEnum (ta : TA) : TI := fun σ H R => ta σ H fun vs H1 => match vs with
 | [.ref l] => ∃ xs, Rd H1 l (.lst xs) ∧ R (ItP (fun H => Rd H l (.lst xs)) ((zseq 0 xs.length).zip xs)) H1
 | _ => False
theorem z1bf (hg : Gl X "enumerate") (hm : X.mg "enumerate" = none) (ha : PA X [a] ta) (hs : starEach [a] X.env = [(false, eval a X.env)] := by rfl) :
   PI X (.Tuple elts k tpos) (.Call (.Name "enumerate" p) [a] [] pos) (iEnum ta) := by
 intro pins s σ H R I h
 refine Call_ (ld_blt I hg hm boot_enumerate (PyProof.Rows.callWith_type1 (thn (ha pos pins s σ H _ I h) fun us s1 ⟨vs, H1, I1, r1, q1⟩ => ?_) hs rfl))
 dsimp only at q1
 split at q1
 . rename_i l
   obtain ⟨xs, e1, q⟩ := q1
   obtain ⟨u, rfl, ru⟩ := vals1 r1
   cases ru
   obtain ⟨its1, rr1, p1, _⟩ := I1.list (.inl e1)
   have lt1 : l < s1.heap.objs.size := by obtain ⟨o, ho, _⟩ := p1.isList; exact Heap.lt_size ho
   refine call_enumerate_list p1.isList fun h' he hi hsz hk => ?_
   refine wpAny_pyIter_enum he ⟨s1.heap.objs.size + 1, [s1.heap.objs.size + 1, s1.heap.objs.size], _, _, H1, rfl, I1.kept (t' := s1.toks) hk, z138 (Nat.succ_ne_self _) (Nat.ne_of_lt (Nat.lt_succ_of_lt lt1)) (Nat.ne_of_lt lt1), ⟨⟨_, he⟩, hi⟩, fun c hc => ?_, q⟩
   have hc' : s1.heap.objs.size ≤ c := by
     have : c = s1.heap.objs.size + 1 ∨ c = s1.heap.objs.size := by simpa using hc
     rcases this with z | z <;> rw [z] <;> first | exact Nat.le_add_right _ _ | exact Nat.le_refl _
   exact I1.fpOk hc' (I1.hok.fresh hc')
 . exact q1.elim
end
section
variable {X : Cx} {tg : Expr} {a b : Expr} {ta : TA} {p pos : Pos}
theorem pi_r1 (hg : Gl X "range") (hm : X.mg "range" = none) (ha : PA X [a] ta) (hs : starEach [a] X.env = [(false, eval a X.env)] := by rfl) : PI X tg (.Call (.Name "range" p) [a] [] pos) (iR1 ta) := by
 intro pins s σ H R I h
 refine Call_ (ld_blt I hg hm boot_range (PyProof.Rows.callWith_type1 (thn (ha pos pins s σ H _ I h) fun us s1 ⟨vs, H1, I1, r1, q1⟩ => ?_) hs rfl))
 dsimp only at q1
 split at q1
 . rename_i j
   obtain ⟨⟨h1, h2⟩, q⟩ := q1
   obtain ⟨u, rfl, t, rfl⟩ := vals1 r1
   refine call_range_1 (thn (zf8 (tg := tg) (R := fun J H1 => ∃ J', (∀ i H, J'.go i H → J.go i H) ∧ (∀ i H x H', J'.go i H → J.yld i H x H' → J'.yld i H x H') ∧ (∀ i H, J'.stop i H → J.stop i H) ∧ R J' H1) I1 (by omega) (by omega) h1 h2 ?_) fun itv s2 h2 => ?_)
   . refine ⟨_, (z36 0 (j - 0).toNat).1, (z36 0 (j - 0).toNat).2.1, (z36 0 (j - 0).toNat).2.2, ?_⟩
     simpa using q
   . obtain ⟨it, fp, tn, J, H2, e, I2, T, st, hf, J', c1, c2, c3, r⟩ := h2
     exact ⟨it, fp, tn, J', H2, e, I2, T.conv c1 c2 c3, st, hf, r⟩
 . exact q1.elim
theorem pi_r2 (hg : Gl X "range") (hm : X.mg "range" = none) (ha : PA X [a, b] ta) (hs : starEach [a, b] X.env = [(false, eval a X.env), (false, eval b X.env)] := by rfl) (hs2 : starEach [b] X.env = [(false, eval b X.env)] := by rfl) :
   PI X tg (.Call (.Name "range" p) [a, b] [] pos) (iR2 ta) := by
 intro pins s σ H R I h
 refine Call_ (ld_blt I hg hm boot_range (PyProof.Rows.callWith_type1 (thn (ha pos pins s σ H _ I h) fun us s1 ⟨vs, H1, I1, r1, q1⟩ => ?_) (by rw [hs, hs2]) (by rw [hs2]; rfl)))
 dsimp only at q1
 split at q1
 . rename_i i j
   obtain ⟨⟨h1, h2, h3, h4⟩, q⟩ := q1
   obtain ⟨u, w', rfl, ⟨t, rfl⟩, ⟨t', rfl⟩⟩ := vals2 r1
   refine call_range_2 (thn (zf8 (tg := tg) (R := fun J H1 => ∃ J', (∀ i H, J'.go i H → J.go i H) ∧ (∀ i H x H', J'.go i H → J.yld i H x H' → J'.yld i H x H') ∧ (∀ i H, J'.stop i H → J.stop i H) ∧ R J' H1) I1 h1 h2 h3 h4 ?_) fun itv s2 h2 => ?_)
   . exact ⟨_, (z36 i (j - i).toNat).1, (z36 i (j - i).toNat).2.1, (z36 i (j - i).toNat).2.2, q⟩
   . obtain ⟨it, fp, tn, J, H2, e, I2, T, st, hf, J', c1, c2, c3, r⟩ := h2
     exact ⟨it, fp, tn, J', H2, e, I2, T.conv c1 c2 c3, st, hf, r⟩
 . exact q1.elim
end
def cB1 : V → Hp → (List V → Hp → Prop) → Prop := fun x H R => R [x] H
def cBT (n : Nat) : V → Hp → (List V → Hp → Prop) → Prop := fun x H R => match x with
 | .ref a => (match H a with | some (.tup xs) => xs.length = n ∧ R xs H | _ => False)
 | _ => False
section
variable {X : Cx} {sc : Scope} {caps : List Str} {ix : List Nat} {elt iter : Expr} {ifs : List Expr} {pos px py pz tpos : Pos} {tt : TT} {te : TE} {wi : TI} {x y z : Str} {kt : Nat}
theorem hB_1 (x : V) (σt cs : St) (H : Hp) (Q : St → Hp → Prop) (hl : σt.length = 1) (h : cB1 x H (fun vals H2 => Q (vals.map some ++ cs) H2)) : gName 0 x (σt ++ cs) H fun σ2 H2 => (∃ vals : List V, vals.length = 1 ∧ σ2 = vals.map some ++ cs) ∧ Q σ2 H2 := by
 match σt, hl with
 | [t], _ => exact ⟨⟨[x], rfl, rfl⟩, h⟩
theorem pg_c {tgs : List Str} {i : Nat} {x : Str} {px : Pos} (hN : (tgs ++ caps).Nodup) (hi : (tgs ++ caps)[i]? = some x) (hx : sc.names.lookup x = some .local) (fp : List Addr) (s : Shared) (H : Hp) : PG (cxComp X sc (tgs ++ caps) fp s H) (.Name x px) (gName i) :=
 zf5 (X := cxComp X sc (tgs ++ caps) fp s H) hN hi (.inl (lookup_relabel_local hx)) (.inr (lookup_relabel_local hx))
theorem z18a (C : CompOk X sc caps ix) (hN : ([x] ++ caps).Nodup) (hx : sc.names.lookup x = some .local) (hi : PI X (.Name x px) iter wi) (ht : ∀ fp s H, PTs (cxComp X sc ([x] ++ caps) fp s H) ifs tt) (he : ∀ fp s H, PE (cxComp X sc ([x] ++ caps) fp s H) elt te)
   (hs : ∀ x, foldedSetIterable iter X.env x = pure x := by intro _; rfl) : PE X (.ListComp elt [⟨.Name x px, iter, ifs, 0⟩] sc pos) (tComp wi cB1 ix tt te) :=
 z1b9 (tgs := [x]) C hi (fun fp s H => pg_c hN rfl hx fp s H) hB_1 ht he hs
theorem z18b {v : Str} {k : Nat} {spos pv : Pos} (hNX : X.N.Nodup) (hk : X.N[k]? = some v) (hv : X.env.scope.names.lookup v = some .local) (C : CompOk X sc caps ix) (hN : ([x] ++ caps).Nodup) (hx : sc.names.lookup x = some .local) (hi : PI X (.Name x px) iter wi)
   (ht : ∀ fp s H, PTs (cxComp X sc ([x] ++ caps) fp s H) ifs tt) (he : ∀ fp s H, PE (cxComp X sc ([x] ++ caps) fp s H) elt te)
   (hsw : swapsWith (.ListComp elt [⟨.Name x px, iter, ifs, 0⟩] sc pos) (some (.Name v pv)) spos.line X.env = pure true := by rfl) (hs : ∀ x, foldedSetIterable iter X.env x = pure x := by intro _; rfl) :
   PS X (.Assign [.Name v pv] (.ListComp elt [⟨.Name x px, iter, ifs, 0⟩] sc pos) spos) (tAsg (tComp wi cB1 ix tt te) (gName k)) :=
 z1ba (tgs := [x]) hNX hk hv C hi (fun fp s H => pg_c hN rfl hx fp s H) hB_1 ht he hsw hs
def gTupC (n : Nat) (t : TGs) : TG := fun v σ H Q => match v with
 | .ref a => (match H a with | some (.tup xs) => xs.length = n ∧ t xs σ H Q | _ => False)
 | _ => False
def gConsC (t : TG) (u : TGs) : TGs := fun vs σ H Q => match vs with | v :: r => t v σ H fun σ' H' => u r σ' H' Q | [] => False
def gNilC : TGs := fun vs σ H Q => match vs with | [] => Q σ H | _ => False
theorem PGs.imp {es : List Expr} {t t' : TGs} (h : PGs X es t) (hi : ∀ vs σ H Q, t' vs σ H Q → t vs σ H Q) : PGs X es t' := fun pins s σ H vs us Q I r q => h pins s σ H vs us Q I r (hi vs σ H Q q)
theorem PG.imp {e : Expr} {t t' : TG} (h : PG X e t) (hi : ∀ v σ H Q, t' v σ H Q → t v σ H Q) : PG X e t' := fun pins s σ H v u Q I r q => h pins s σ H v u Q I r (hi v σ H Q q)
theorem z18c : PGs X [] gNilC := pgs_nil.imp fun vs σ H Q q => by
 cases vs with
 | nil => exact ⟨rfl, q⟩
 | cons _ _ => exact q.elim
theorem z13a {e : Expr} {es : List Expr} {t : TG} {u : TGs} (h1 : PG X e t) (h2 : PGs X es u) (hs : (assignEach (e :: es) X.env).map (·.2) = assign e X.env :: (assignEach es X.env).map (·.2) := by rfl) : PGs X (e :: es) (gConsC t u) := (z17f h1 h2 hs).imp fun vs σ H Q q => by
 cases vs with
 | nil => exact q.elim
 | cons v r => exact ⟨v, r, rfl, q⟩
theorem z1c0 {es : List Expr} {k : Nat} {t : TGs} {n : Nat} (hc : X.calm = true) (h : PGs X es t)
   (hn : (assignEach es X.env).length = n := by rfl) (hst : (assignEach es X.env).findIdx? (·.1) = none := by rfl) : PG X (.Tuple es k pos) (gTupC n t) := (pg_tup hc h hn hst).imp fun v σ H Q q => by
 cases v <;> first | exact q.elim | skip
 rename_i a
 unfold gTupC at q
 dsimp only at q
 split at q
 . rename_i xs e; exact ⟨a, xs, rfl, .of e, q.1, q.2⟩
 . exact q.elim
end
theorem atI0 {α : Type} (a : α) (r : List α) : atI (a :: r) 0 = some a := zd3 (j := 0) rfl
theorem atI1 {α : Type} (a b : α) (r : List α) : atI (a :: b :: r) 1 = some b := zd3 (j := 1) rfl
section
variable {prog : Program} {w : World} {A : Around} {E : Value → Shared → Prop} {s : Shared}
theorem z105 {it t : Addr} {items : Array Value} (hne : t ≠ it) : ∀ (n i : Nat) (s : Shared) (Q : List Value → Shared → Prop), s.heap.IsListIter it t i → s.heap.IsList t items → i + n ≤ items.size →
   (∀ h', h'.IsListIter it t (i + n) → Heap.SameBut it s.heap h' → Q ((items.toList.drop i).take n) { s with heap := h' }) → wpAny (model prog w) A (draw (.ref it) n) Q E s
 | 0, i, s, Q, hit, _, _, k => by
   show wpAny _ _ (pure []) Q E s
   exact wpAny_pure (by simpa using k s.heap hit (Heap.SameBut.refl ..))
 | n + 1, i, s, Q, hit, ht, hle, k => by
   have hlt : i < items.size := by omega
   show wpAny _ _ (pyNext (.ref it) >>= _) Q E s
   refine wpAny_bind (wpAny_pyNext_list_item hit ht (x := items[i]) (by simp [hlt]) fun g1 it1 sb1 => ?_)
   refine wpAny_bind (wpAny_holding (z105 hne n (i + 1) _ _ it1 (ht.extBut sb1.extBut hne) (by omega) fun g2 it2 sb2 => wpAny_pure ?_))
   have hd : items.toList.drop i = items[i] :: items.toList.drop (i + 1) := by simp [List.drop_eq_getElem_cons, hlt]
   have z := k g2 (by rw [show i + (n + 1) = i + 1 + n by omega]; exact it2) (sb1.trans sb2)
   rw [hd, List.take_succ_cons] at z
   exact z
theorem z13b {t : Addr} {items : Array Value} {Q : List Value → Shared → Prop} (hh : A.handled = none) (ht : s.heap.IsList t items)
   (k : ∀ h', (∀ b o, s.heap.get? b = some o → h'.get? b = some o) → Q items.toList { s with heap := h' }) : wpAny (model prog w) A (unpackItems (.ref t) items.size none) Q E s := by
 have hlt : t ≠ s.heap.objs.size := by obtain ⟨o, ho, _⟩ := ht; exact Nat.ne_of_lt (Heap.lt_size ho)
 have old : ∀ {b : Addr} {o : Obj}, s.heap.get? b = some o → b ≠ s.heap.objs.size := fun e => Nat.ne_of_lt (Heap.lt_size e)
 unfold unpackItems
 refine wpAny_bind ?_
 . unfold notIterableAtAll
   refine wpAny_bind (wpAny_specialOf ht.typeIs slot_list_iter.lookup ?_)
   refine wpAny_pure ?_
   simp only [Bool.false_eq_true, if_false]
   refine wpAny_bind (wpAny_holding (wpAny_pyIter_list ht ?_))
   refine wpAny_bind (wpAny_holding (z105 hlt items.size 0 _ _ ⟨_, Heap.get?_push_size _ rfl, rfl, rfl⟩ (ht.push _) (by omega) fun g1 it1 sb1 => ?_))
   have hall : List.take items.size (List.drop 0 items.toList) = items.toList := by
     rw [List.drop_zero]; exact List.take_of_length_le (by simp)
   rw [hall]
   rw [if_neg (by simp)]
   have ht1 : g1.IsList t items := (ht.push _).extBut sb1.extBut hlt
   refine wpAny_bind (wpAny_holding (wpAny_pyNext_list_end hh it1 ht1 (by simp) fun g2 eb2 => ?_))
   simp only [Option.isSome_none, Bool.false_eq_true, if_false]
   exact wpAny_pure (k g2 fun b o e => eb2 b o (old e) (sb1.extBut b o (old e) (Heap.get?_push_of_some _ e)))
theorem z106 {env : Env} {elts : List Expr} {x1} {pos : Pos} {t : Addr} {items : Array Value} {Q : Unit → Shared → Prop} (hh : A.handled = none) (ht : s.heap.IsList t items)
   (hn : (assignEach elts env).length = items.size) (hstar : (assignEach elts env).findIdx? (·.1) = none)
   (h : ∀ h', (∀ b o, s.heap.get? b = some o → h'.get? b = some o) → wpAny (model prog w) A (assignInOrder ((assignEach elts env).map (·.2)) items.toList) Q E { s with heap := h' }) :
   wpAny (model prog w) A (assign (.Tuple elts x1 pos) env (.ref t)) Q E s := by
 rw [assign_Tuple]
 refine wpAny_bind (wpAny_standAt ?_)
 unfold unpack
 rw [hn, hstar]
 exact wpAny_bind (wpAny_holding (z13b hh ht h))
end
section
variable {X : Cx} {pos : Pos}
def gSeqC (n : Nat) (t : TGs) : TG := fun v σ H Q => match v with
 | .ref a => (match H a with
   | some (.tup xs) => xs.length = n ∧ t xs σ H Q
   | some (.lst xs) => xs.length = n ∧ t xs σ H Q
   | _ => False)
 | _ => False
theorem z1c1 {es : List Expr} {k : Nat} {t : TGs} {n : Nat} (hc : X.calm = true) (h : PGs X es t)
   (hn : (assignEach es X.env).length = n := by rfl) (hst : (assignEach es X.env).findIdx? (·.1) = none := by rfl) : PG X (.Tuple es k pos) (gSeqC n t) := by
 intro pins s σ H v u Q I r hw
 cases v <;> first | exact hw.elim | skip
 rename_i a
 unfold gSeqC at hw
 dsimp only at hw
 split at hw
 . rename_i xs e
   exact z1c0 hc h hn hst pins s σ H (.ref a) u Q I r (by unfold gTupC; dsimp only; rw [e]; exact hw)
 . rename_i xs e
   obtain ⟨hl, hw⟩ := hw
   cases r
   obtain ⟨its, rv, ht, hz⟩ := I.list (.of e)
   refine z106 (I.ok.hd hc) ht.isList (by simp [hn, ← hl, rv.length]) hst fun h' hx => ?_
   exact h pins _ σ H xs _ Q (I.kept (t' := s.toks) hx) (by simpa using rv) hw
 . exact hw.elim
def rIsi : List V → Hp → VK → Prop := fun xs H Q => match xs with
   | [x, .ty c] => isKnd c = true ∧ (match kindV H x with | some t => Q (.bl (isiB t c)) H | none => False)
   | _ => False
def rMax2 : List V → Hp → VK → Prop := fun xs H Q => match xs with | [.int i, .int j] => Q (.int (if j > i then j else i)) H | _ => False
def rMin2 : List V → Hp → VK → Prop := fun xs H Q => match xs with | [.int i, .int j] => Q (.int (if j < i then j else i)) H | _ => False
section
variable {H : Hp} {Q : VK} {QB : Bool → Hp → Prop} {p q l b : Addr} {i j : Int} {x y : V} {a c : Bool} {cs : String} {vs : List V}
theorem rIsi_e : rIsi [x, .ty cs] H Q = (isKnd cs = true ∧ (match kindV H x with | some t => Q (.bl (isiB t cs)) H | none => False)) := rfl
theorem z1c2 : rMax2 [.int i, .int j] H Q = Q (.int (if j > i then j else i)) H := rfl
theorem z1c3 : rMin2 [.int i, .int j] H Q = Q (.int (if j < i then j else i)) H := rfl
end
theorem c_isi : CallR X (.builtin "isinstance") rIsi := z187
theorem c_max2 (hc : X.calm = true) : CallR X (.builtin "max") rMax2 := z103 hc
theorem c_min2 (hc : X.calm = true) : CallR X (.builtin "min") rMin2 := z104 hc
end
inductive NK where
 | i (n : Int)
 | t (ks : List NK)
noncomputable instance : DecidableEq NK := fun a b => Classical.propDecidable (a = b)
mutual
def NK.dep : NK → Nat
 | .i _ => 0
 | .t ks => nkDeps ks + 1
def nkDeps : List NK → Nat
 | [] => 0
 | k :: ks => max k.dep (nkDeps ks)
end
mutual
def NK.hs : NK → Int
 | .i n => hashInt n
 | .t ks => reduceHash (Builtin.Tuple.tupleHashOf (nkHs ks))
def nkHs : List NK → List Int
 | [] => []
 | k :: ks => k.hs :: nkHs ks
end
mutual
def NK.dr : NK → Nat
 | .i _ => 1
 | .t ks => nkDr ks + 1
def nkDr : List NK → Nat
 | [] => 0
 | k :: ks => k.dr + nkDr ks
end
mutual
def NKv (h : Heap) : NK → Value → Prop
 | .i n, v => ∃ t, v = .int n t
 | .t ks, v => ∃ a its, v = .ref a ∧ h.IsTuple a its ∧ NKvs h ks its.toList
def NKvs (h : Heap) : List NK → List Value → Prop
 | [], vs => vs = []
 | k :: ks, vs => ∃ v r, vs = v :: r ∧ NKv h k v ∧ NKvs h ks r
end
theorem NKvs.len {h : Heap} : ∀ {ks : List NK} {vs : List Value}, NKvs h ks vs → ks.length = vs.length
 | [], _, q => by simp only [NKvs] at q; rw [q]; rfl
 | k :: ks, _, q => by
   simp only [NKvs] at q
   obtain ⟨v, r, rfl, _, q⟩ := q
   simp only [List.length_cons, NKvs.len q]
theorem z13c {h : Heap} {a : Addr} {x y : Array Value} (p : h.IsTuple a x) (q : h.IsTuple a y) : x = y := by
 obtain ⟨o, e, c, n, d⟩ := p
 obtain ⟨o', e', c', n', d'⟩ := q
 rw [e] at e'; cases e'
 rw [d] at d'; cases d'; rfl
mutual
theorem NKv.inj {h : Heap} : ∀ {k j : NK} {v : Value}, NKv h k v → NKv h j v → k = j
 | .i n, .i m, v, p, q => by
   simp only [NKv] at p q
   obtain ⟨t, rfl⟩ := p; obtain ⟨t', e⟩ := q
   cases e; rfl
 | .i n, .t ks, v, p, q => by
   simp only [NKv] at p q
   obtain ⟨t, rfl⟩ := p; obtain ⟨_, _, e, _⟩ := q; cases e
 | .t ks, .i m, v, p, q => by
   simp only [NKv] at p q
   obtain ⟨t, rfl⟩ := q; obtain ⟨_, _, e, _⟩ := p; cases e
 | .t ks, .t js, v, p, q => by
   simp only [NKv] at p q
   obtain ⟨a, its, rfl, p1, p2⟩ := p
   obtain ⟨b, its', e, q1, q2⟩ := q
   cases e
   cases z13c p1 q1
   rw [NKvs.inj p2 q2]
theorem NKvs.inj {h : Heap} : ∀ {ks js : List NK} {vs : List Value}, NKvs h ks vs → NKvs h js vs → ks = js
 | [], [], _, _, _ => rfl
 | [], j :: js, _, p, q => by
   simp only [NKvs] at p q; subst p; obtain ⟨_, _, e, _⟩ := q; cases e
 | k :: ks, [], _, p, q => by
   simp only [NKvs] at p q; subst q; obtain ⟨_, _, e, _⟩ := p; cases e
 | k :: ks, j :: js, _, p, q => by
   simp only [NKvs] at p q
   obtain ⟨v, r, rfl, p1, p2⟩ := p
   obtain ⟨_, _, e, q1, q2⟩ := q
   cases e
   rw [NKv.inj p1 q1, NKvs.inj p2 q2]
end
mutual
theorem NKv.stay {h h' : Heap} (st : ∀ a its, h.IsTuple a its → h'.IsTuple a its) : ∀ {k : NK} {v : Value}, NKv h k v → NKv h' k v
 | .i n, v, p => by simp only [NKv] at p ⊢; exact p
 | .t ks, v, p => by
   simp only [NKv] at p ⊢
   obtain ⟨a, its, e, p1, p2⟩ := p
   exact ⟨a, its, e, st _ _ p1, NKvs.stay st p2⟩
theorem NKvs.stay {h h' : Heap} (st : ∀ a its, h.IsTuple a its → h'.IsTuple a its) : ∀ {ks : List NK} {vs : List Value}, NKvs h ks vs → NKvs h' ks vs
 | [], _, p => by simp only [NKvs] at p ⊢; exact p
 | k :: ks, _, p => by
   simp only [NKvs] at p ⊢
   obtain ⟨v, r, e, p1, p2⟩ := p
   exact ⟨v, r, e, NKv.stay st p1, NKvs.stay st p2⟩
end
section
variable {prog : Program} {w : World}
theorem z159 : ∀ (m : Nat) {k : NK} {v : Value} {A : Around} {E : Value → Shared → Prop} {s : Shared} {Q : Int → Shared → Prop}, k.dep ≤ m → A.units + m < cLine → NKv s.heap k v → Q k.hs { s with toks := s.toks + k.dr } → wpAny (model prog w) A (pyHash v) Q E s
 | m, .i n, v, A, E, s, Q, hd, hu, p, q => by
   simp only [NKv] at p
   obtain ⟨t, rfl⟩ := p
   exact wpAny_pyHash_int q
 | 0, .t ks, v, A, E, s, Q, hd, hu, p, q => by simp only [NK.dep] at hd; omega
 | m + 1, .t ks, v, A, E, s, Q, hd, hu, p, q => by
   simp only [NKv] at p
   obtain ⟨a, its, rfl, ⟨o, e, c, n, d⟩, p2⟩ := p
   simp only [NK.dep] at hd
   show wpAny (model prog w) A (pyHashByItsType (.ref a)) Q E s
   refine W.pyHash_slot (T := "tuple") ⟨o, e, c⟩ F.slot_tuple_hash F.entry_tuple_hash (F.args_tuple_hash_1 _) rfl (.inr (by omega)) ?_
   refine wpAny_bind (wpAny_of_eq (show slotArgs "__hash__" 0 ⟨[.ref a], []⟩ = pure (.ref a, []) from rfl) ?_)
   show wpAny (model prog w) A.in1 (Builtin.Tuple.tupleItemsOf (.ref a) >>= _) _ _ s
   refine wpAny_bind (wpAny_tupleItemsOf e d ?_)
   refine wpAny_bind ?_
   have go : ∀ (ks : List NK) (vs : List Value) (b : Array Int) (s' : Shared) (Q' : Array Int → Shared → Prop), nkDeps ks ≤ m → NKvs s'.heap ks vs → (∀ b' : Array Int, b'.toList = b.toList ++ nkHs ks → Q' b' { s' with toks := s'.toks + nkDr ks }) →
       wpAny (model prog w) A.in1 (forIn vs b fun x r => do
         let h ← pyHash x
         pure (ForInStep.yield (r.push h))) Q' E s' := by
     intro ks
     induction ks with
     | nil =>
       intro vs b s' Q' _ p hq
       simp only [NKvs] at p; subst p
       exact wpAny_pure (hq b (by simp [nkHs]))
     | cons k ks ih =>
       intro vs b s' Q' hd p hq
       simp only [NKvs] at p
       obtain ⟨v, r, rfl, p1, p2⟩ := p
       simp only [nkDeps] at hd
       rw [List.forIn_cons]
       refine wpAny_bind (wpAny_bind (z159 m (by omega) (by show A.units + 1 + m < cLine; omega) p1 ?_))
       refine wpAny_pure ?_
       refine ih r (b.push k.hs) _ Q' (by omega) p2 fun b' hb' => ?_
       have := hq b' (by rw [hb']; simp [nkHs])
       simpa only [nkDr, Nat.add_assoc] using this
   rw [← Array.forIn_toList]
   refine go ks its.toList #[] s _ (by omega) p2 fun b' hb' => ?_
   show wpAny (model prog w) A.in1 (retInt (Builtin.Tuple.tupleHashOf b'.toList)) _ _ _
   refine wpAny_mono (wpAny_ret_mkInt (Q := fun v s' => ∃ n t, v = Value.int n t ∧ Q (reduceHash n) s') ⟨_, _, rfl, ?_⟩) (fun fin s' h => ?_) fun _ _ h => h
   . rw [hb']
     simpa only [NK.hs, NK.dr, Nat.add_assoc, List.nil_append] using q
   . obtain ⟨v, rfl, n, t, rfl, hq⟩ := h
     exact ⟨n, t, rfl, hq⟩
theorem nk_eq {s : Shared} : ∀ (m : Nat) {k j : NK} {u v : Value} {A : Around}, k.dep ≤ m → A.units + m < cLine → NKv s.heap k u → NKv s.heap j v → SeqAt.EqAt A s u v (decide (k = j))
 | m, .i n, .i n', u, v, A, hd, hu, p, q => by
   simp only [NKv] at p q
   obtain ⟨t, rfl⟩ := p; obtain ⟨t', rfl⟩ := q
   have : decide (NK.i n = NK.i n') = (n == n') := by
     by_cases h : n = n'
     . rw [h]; simp
     . rw [decide_eq_false (fun e => h (NK.i.inj e))]; simp [h]
   rw [this]
   exact .int_int _ _ _ _
 | m, .i n, .t js, u, v, A, hd, hu, p, q => by
   simp only [NKv] at p q
   obtain ⟨t, rfl⟩ := p; obtain ⟨a, its, rfl, q1, _⟩ := q
   rw [decide_eq_false (fun e => by cases e)]
   exact .int_tuple _ _ q1 (by omega)
 | m, .t ks, .i n', u, v, A, hd, hu, p, q => by
   simp only [NKv] at p q
   obtain ⟨t, rfl⟩ := q; obtain ⟨a, its, rfl, q1, _⟩ := p
   rw [decide_eq_false (fun e => by cases e)]
   exact .tuple_int _ _ q1 (by omega)
 | 0, .t ks, .t js, u, v, A, hd, hu, p, q => by simp only [NK.dep] at hd; omega
 | m + 1, .t ks, .t js, u, v, A, hd, hu, p, q => by
   have p0 := p
   have q0 := q
   simp only [NKv] at p q
   obtain ⟨a, its, rfl, p1, p2⟩ := p
   obtain ⟨b, its2, rfl, q1, q2⟩ := q
   simp only [NK.dep] at hd
   by_cases hab : a = b
   . subst hab
     rw [decide_eq_true (NKv.inj p0 q0)]
     exact .same _
   . have l1 := p2.len
     have l2 := q2.len
     simp only [Array.length_toList] at l1 l2
     have at' : ∀ (ks : List NK) (vs : List Value), NKvs s.heap ks vs → ∀ j v, vs[j]? = some v → NKv s.heap (ks.getD j (.i 0)) v ∧ (ks.getD j (.i 0)).dep ≤ nkDeps ks := by
       intro ks
       induction ks with
       | nil => intro vs p j v e; simp only [NKvs] at p; subst p; simp at e
       | cons k ks ih =>
         intro vs p j v e
         simp only [NKvs] at p
         obtain ⟨v0, r, rfl, r1, r2⟩ := p
         cases j with
         | zero => simp at e; subst e; exact ⟨r1, by simp only [List.getD_cons_zero, nkDeps]; omega⟩
         | succ j =>
           simp only [List.getElem?_cons_succ] at e
           obtain ⟨x1, x2⟩ := ih r r2 j v e
           exact ⟨x1, by simp only [List.getD_cons_succ, nkDeps]; omega⟩
     have q := SeqAt.RcAt.tuples (A := A) p1 q1 (by omega) (e := fun j => decide (ks.getD j (.i 0) = js.getD j (.i 0))) fun j h1 h2 => by
       obtain ⟨x1, x2⟩ := at' ks _ p2 j its[j] (by simp [h1])
       obtain ⟨y1, y2⟩ := at' js _ q2 j its2[j] (by simp [h2])
       exact nk_eq m (by omega) (by show A.units + 1 + m < cLine; omega) x1 y1
     have eb : ((List.range (min its.size its2.size)).all (fun j => decide (ks.getD j (.i 0) = js.getD j (.i 0))) && its.size == its2.size) = decide (NK.t ks = NK.t js) := by
       rw [Bool.eq_iff_iff, Bool.and_eq_true, List.all_eq_true, decide_eq_true_eq, beq_iff_eq]
       constructor
       . rintro ⟨h1, h2⟩
         congr 1
         refine List.ext_getElem (by omega) fun j hj hj' => ?_
         have := h1 j (List.mem_range.mpr (by omega))
         rw [decide_eq_true_eq, List.getD_eq_getElem?_getD, List.getD_eq_getElem?_getD, List.getElem?_eq_getElem hj, List.getElem?_eq_getElem hj'] at this
         exact this
       . intro e
         cases e
         exact ⟨fun j _ => decide_eq_true rfl, by omega⟩
     rw [eb] at q
     exact .of_refs hab q
end
section
variable {prog : Program} {w : World}
theorem z107 {A : Around} {E : Value → Shared → Prop} {s : Shared} : ∀ (m : Nat) {k : NK} {v : Value} {Q : Bool → Shared → Prop}, k.dep ≤ m → NKv s.heap k v → Q true s → wpAny (model prog w) A (eqIsQuiet m v) Q E s
 | m, .i n, v, Q, hd, p, q => by
   simp only [NKv] at p
   obtain ⟨t, rfl⟩ := p
   rw [eqIsQuiet.eq_3 _ _ (fun a e => by cases e)]
   exact wpAny_pure q
 | 0, .t ks, v, Q, hd, p, q => by simp only [NK.dep] at hd; omega
 | m + 1, .t ks, v, Q, hd, p, q => by
   simp only [NKv] at p
   obtain ⟨a, its, rfl, ⟨o, e, c, n, d⟩, p2⟩ := p
   simp only [NK.dep] at hd
   rw [eqIsQuiet.eq_2]
   refine wpAny_bind (wpAny_specialOf (T := "tuple") ⟨o, e, c⟩ F.slot_tuple_eq.lookup ?_)
   show wpAny (model prog w) A (isInstance (.ref a) (.type "tuple") >>= _) _ _ s
   refine wpAny_bind (wpAny_isInstance (T := "tuple") (b := true) ⟨o, e, c⟩ (by rfl) ?_)
   show wpAny (model prog w) A (seqItems? (.ref a) >>= _) _ _ s
   refine wpAny_bind (wpAny_seqItems e d ?_)
   refine wpAny_bind ?_
   have go : ∀ (ks : List NK) (vs : List Value) (Q' : Option Bool × Unit → Shared → Prop), nkDeps ks ≤ m → NKvs s.heap ks vs → Q' (none, ()) s →
       wpAny (model prog w) A (forIn vs ((none, ()) : Option Bool × Unit) fun y __s => do
                 let __do_lift ← eqIsQuiet m y
                 if (!__do_lift) = true then pure (ForInStep.done (some false, ()))
                   else pure (ForInStep.yield (none, ()))) Q' E s := by
     intro ks
     induction ks with
     | nil =>
       intro vs Q' _ p hq
       simp only [NKvs] at p; subst p
       exact wpAny_pure hq
     | cons k ks ih =>
       intro vs Q' hd p hq
       simp only [NKvs] at p
       obtain ⟨v, r, rfl, p1, p2⟩ := p
       simp only [nkDeps] at hd
       rw [List.forIn_cons]
       refine wpAny_bind (wpAny_bind (z107 m (by omega) p1 ?_))
       refine wpAny_pure ?_
       exact ih r Q' (by omega) p2 hq
   show wpAny (model prog w) A (forIn its ((none, ()) : Option Bool × Unit) _) _ _ s
   rw [← Array.forIn_toList]
   refine go ks its.toList _ (by omega) p2 ?_
   exact wpAny_pure q
noncomputable def deepKind (prog : Program) (w : World) : HeapKind prog w NK where
 is := fun h k a => NKv h k (.ref a) ∧ k.dep ≤ 8
 hash := NK.hs
 draws := NK.dr
 room := fun A => A.units + 8 < cLine
 inj := fun p q => NKv.inj p.1 q.1
 keeps := fun {h h' k a d o es ep} p e eo sb => ⟨NKv.stay (fun b its t => by
   obtain ⟨ob, eb, cb, n, db⟩ := t
   have hne : b ≠ d := fun z => by
     subst z
     rw [e] at eb; cases eb
     rw [eo] at db; cases db
   exact ⟨ob, (sb.2 b hne).trans eb, cb, n, db⟩) p.1, p.2⟩
 pyHash := fun {A E s k a Q} hr p q => z159 8 p.2 hr p.1 q
 eqBool := fun {A E s x y a b Q} hr p p' q => nk_eq 8 p.2 hr p.1 p'.1 prog w E Q q
 quiet := fun {A E s k a Q} p q => z107 8 p.2 p.1 q
end
def dnE (x : NK × Addr × Value) : DictEntry := { hash := x.1.hs, key := .ref x.2.1, val := x.2.2 }
def dnP (a : Addr) (ks : List (NK × Addr)) (xs : List V) (h : Heap) : Prop :=
 ∃ (vs : List Value) (o : Obj) (es : Array DictEntry) (ep : Nat), Vals xs vs ∧ ks.length = vs.length ∧ h.get? a = some o ∧ o.ExactDict ∧ o.data = .dict es ep ∧ es.toList = ((ks.zip vs).map fun q => (q.1.1, q.1.2, q.2)).map dnE
theorem dnP.stay {a : Addr} {ks : List (NK × Addr)} {xs : List V} : ∀ h1 h2 : Heap, dnP a ks xs h1 → (∀ o, h1.get? a = some o → h2.get? a = some o) → dnP a ks xs h2 := by
 rintro h1 h2 ⟨vs, o, es, ep, p1, p2, p3, p4⟩ k
 exact ⟨vs, o, es, ep, p1, p2, k _ p3, p4⟩
mutual
def NKr (H : Hp) : NK → V → Prop
 | .i n, v => v = .int n
 | .t ks, v => ∃ a ys, v = .ref a ∧ H a = some (.tup ys) ∧ NKrs H ks ys
def NKrs (H : Hp) : List NK → List V → Prop
 | [], vs => vs = []
 | k :: ks, vs => ∃ v r, vs = v :: r ∧ NKr H k v ∧ NKrs H ks r
end
mutual
theorem NKr.mono {H H' : Hp} (st : ∀ a ys, H a = some (.tup ys) → H' a = some (.tup ys)) : ∀ {k : NK} {v : V}, NKr H k v → NKr H' k v
 | .i n, v, p => by simp only [NKr] at p ⊢; exact p
 | .t ks, v, p => by
   simp only [NKr] at p ⊢
   obtain ⟨a, ys, e, p1, p2⟩ := p
   exact ⟨a, ys, e, st _ _ p1, NKrs.mono st p2⟩
theorem NKrs.mono {H H' : Hp} (st : ∀ a ys, H a = some (.tup ys) → H' a = some (.tup ys)) : ∀ {ks : List NK} {vs : List V}, NKrs H ks vs → NKrs H' ks vs
 | [], _, p => by simp only [NKrs] at p ⊢; exact p
 | k :: ks, _, p => by
   simp only [NKrs] at p ⊢
   obtain ⟨v, r, e, p1, p2⟩ := p
   exact ⟨v, r, e, NKr.mono st p1, NKrs.mono st p2⟩
end
section
variable {X : Cx} {pins : List (Addr × Obj)} {σ : St} {H : Hp} {s : Shared}
mutual
theorem nk_of (I : Inv X pins σ H s) : ∀ {k : NK} {x : V} {u : Value}, NKr H k x → RelV x u → NKv s.heap k u
 | .i n, x, u, p, r => by
   simp only [NKr] at p; subst p
   obtain ⟨t, rfl⟩ := r
   simp only [NKv]; exact ⟨t, rfl⟩
 | .t ks, x, u, p, r => by
   simp only [NKr] at p
   obtain ⟨a, ys, rfl, p1, p2⟩ := p
   cases r
   obtain ⟨its, r1, t1, _⟩ := I.tuple (.of p1)
   simp only [NKv]
   exact ⟨a, its.toArray, rfl, t1, nks_of I p2 r1⟩
theorem nks_of (I : Inv X pins σ H s) : ∀ {ks : List NK} {xs : List V} {us : List Value}, NKrs H ks xs → Vals xs us → NKvs s.heap ks us
 | [], _, _, p, r => by simp only [NKrs] at p; subst p; cases r; simp only [NKvs]
 | k :: ks, _, _, p, r => by
   simp only [NKrs] at p
   obtain ⟨v, q, rfl, p1, p2⟩ := p
   cases r with
   | cons a1 a2 =>
     simp only [NKvs]
     exact ⟨_, _, rfl, nk_of I p1 a1, nks_of I p2 a2⟩
end
end
def KL (K : PySem.W.Frag) (a : Addr) (xs : List V) : Prop := ∃ (o : Obj) (its : Array Value) (n : Nat), K.lookup a = some o ∧ o.cls = .type "list" ∧ o.dict = none ∧ o.data = .seq its n ∧ its.size ≤ sizeLine ∧ Vals xs its.toList
def XO (K : PySem.W.Frag) (c : String) (a : Addr) (o : HO) : Prop := ∃ C : Addr, PySem.W.nsIn K mainGlobals (c : Str) = some (some (.ref C)) ∧ o = .ext fun h => ∃ ob, h.get? a = some ob ∧ ob.cls = .ref C ∧ ∃ vs, ob.data = .fields vs
inductive D where
 | non | bl (b : Bool) | int (i : Int) | str (x : Str) | tup (ds : List D) | lst (ds : List D)
 | dk (ks : List Key) (ds : List D) | dt (ks : List (List Key)) (ds : List D) | dn (ks : List NK) (ds : List D) | scr (ns : List Int) | exc (c : String)
def DN (H : Hp) (a : Addr) (qs : List (NK × Addr)) : Prop := (qs.map (·.1)).Nodup ∧ (∀ q ∈ qs, NKr H q.1 (.ref q.2) ∧ q.1.dep ≤ 8) ∧ (a == sysModules) = false ∧ qs.length ≤ sizeLine
theorem DN.tk {H H' : Hp} {a : Addr} {qs : List (NK × Addr)} (h : DN H a qs) (st : ∀ a ys, H a = some (.tup ys) → H' a = some (.tup ys)) : DN H' a qs :=
 ⟨h.1, fun q hq => ⟨NKr.mono st (h.2.1 q hq).1, (h.2.1 q hq).2⟩, h.2.2⟩
mutual
def RD (K : PySem.W.Frag) (H : Hp) : D → V → Prop
 | .non, v => v = .non
 | .bl b, v => v = .bl b
 | .int i, v => v = .int i
 | .str x, v => v = .str x
 | .tup ds, v => ∃ a xs, v = .ref a ∧ H a = some (.tup xs) ∧ RDs K H ds xs
 | .lst ds, v => ∃ a xs, v = .ref a ∧ H a = some (.lst xs) ∧ RDs K H ds xs
 | .dk ks ds, v => ∃ a xs, v = .ref a ∧ H a = some (.dK (ks.zip xs)) ∧ ks.length = xs.length ∧ RDs K H ds xs
 | .dt ks ds, v => ∃ a xs, v = .ref a ∧ H a = some (.dT (ks.zip xs)) ∧ ks.length = xs.length ∧ RDs K H ds xs
 | .dn ks ds, v => ∃ a qs xs, v = .ref a ∧ H a = some (.ext (dnP a qs xs)) ∧ qs.map (·.1) = ks ∧ DN H a qs ∧ RDs K H ds xs
 | .scr ns, v => ∃ a, v = .ref a ∧ ((∃ o, H a = some (.frz o (.lst (ns.map V.int)))) ∨ KL K a (ns.map V.int))
 | .exc c, v => ∃ a o, v = .ref a ∧ XO K c a o ∧ H a = some o
def RDs (K : PySem.W.Frag) (H : Hp) : List D → List V → Prop
 | [], xs => xs = []
 | d :: ds, xs => ∃ x r, xs = x :: r ∧ RD K H d x ∧ RDs K H ds r
end
mutual
def D.noL : D → Bool
 | .lst _ => false
 | .dk _ _ => false
 | .dt _ _ => false
 | .dn _ _ => false
 | .tup ds => noLs ds
 | _ => true
def noLs : List D → Bool
 | [] => true
 | d :: ds => d.noL && noLs ds
end
mutual
def D.pl : D → Bool
 | .dk _ _ => false
 | .dt _ _ => false
 | .dn _ _ => false
 | .scr _ => false
 | .exc _ => false
 | .tup ds => pls ds
 | .lst ds => pls ds
 | _ => true
def pls : List D → Bool
 | [] => true
 | d :: ds => d.pl && pls ds
end
def D.shal : D → Bool
 | .lst ds => noLs ds
 | .dk _ ds => noLs ds
 | .dt _ ds => noLs ds
 | .dn _ ds => noLs ds
 | d => d.noL
def Imm : HO → Prop
 | .tup _ => True
 | .frz _ _ => True
 | .ext φ => ∀ a qs xs, φ ≠ dnP a qs xs
 | _ => False
theorem XO.imm {K : PySem.W.Frag} {c : String} {a : Addr} {o : HO} (h : XO K c a o) : Imm o := by
 obtain ⟨C, _, rfl⟩ := h
 intro b qs xs e
 obtain ⟨ob, hob⟩ : ∃ ob : Obj, ob = { cls := .ref C, data := .fields #[] } := ⟨_, rfl⟩
 have hg : ∀ (i : Nat) (o : Obj), ({ objs := Array.replicate (a + 1) ob } : Heap).get? i = some o → o = ob := fun i o q => by
   by_cases hi : i < a + 1
   . have z : ({ objs := Array.replicate (a + 1) ob } : Heap).get? i = some ob := by
       unfold Heap.get?
       rw [Array.getElem?_replicate, if_pos hi, hob]
     rw [z] at q; cases q; rfl
   . unfold Heap.get? at q
     rw [Array.getElem?_replicate, if_neg hi] at q; cases q
 have h1 : (fun h : Heap => ∃ ob, h.get? a = some ob ∧ ob.cls = .ref C ∧ ∃ vs, ob.data = .fields vs) { objs := Array.replicate (a + 1) ob } := by
   refine ⟨ob, ?_, by rw [hob], #[], by rw [hob]⟩
   unfold Heap.get?
   rw [Array.getElem?_replicate, if_pos (Nat.lt_succ_self a), hob]
 rw [e] at h1
 obtain ⟨vs, o, es, ep, _, _, g, _, d, _⟩ := h1
 rw [hg _ _ g, hob] at d
 cases d
def TK (H H' : Hp) : Prop := ∀ a o, Imm o → H a = some o → H' a = some o
section
variable {K : PySem.W.Frag} {H H' : Hp}
mutual
theorem RD.tk (hs : TK H H') : ∀ {d : D} {v : V}, d.noL = true → RD K H d v → RD K H' d v
 | .non, _, _, h => by simp only [RD] at h ⊢; exact h
 | .bl _, _, _, h => by simp only [RD] at h ⊢; exact h
 | .int _, _, _, h => by simp only [RD] at h ⊢; exact h
 | .str _, _, _, h => by simp only [RD] at h ⊢; exact h
 | .tup ds, _, n, h => by
   simp only [RD] at h ⊢
   obtain ⟨a, xs, e, h1, h2⟩ := h
   exact ⟨a, xs, e, hs _ _ trivial h1, RDs.tk hs (by simpa only [D.noL] using n) h2⟩
 | .lst ds, _, n, h => by simp [D.noL] at n
 | .dk _ ds, _, n, h => by simp [D.noL] at n
 | .dt _ ds, _, n, h => by simp [D.noL] at n
 | .dn _ ds, _, n, h => by simp [D.noL] at n
 | .exc c, _, n, h => by
   simp only [RD] at h ⊢
   obtain ⟨a, o, e, h1, h2⟩ := h
   exact ⟨a, o, e, h1, hs _ _ h1.imm h2⟩
 | .scr ns, _, n, h => by
   simp only [RD] at h ⊢
   obtain ⟨a, e, h1⟩ := h
   refine ⟨a, e, ?_⟩
   rcases h1 with ⟨o, h1⟩ | h1
   . exact .inl ⟨o, hs _ _ trivial h1⟩
   . exact .inr h1
theorem RDs.tk (hs : TK H H') : ∀ {ds : List D} {xs : List V}, noLs ds = true → RDs K H ds xs → RDs K H' ds xs
 | [], _, _, h => by simp only [RDs] at h ⊢; exact h
 | d :: ds, _, n, h => by
   simp only [RDs] at h ⊢
   simp only [noLs, Bool.and_eq_true] at n
   obtain ⟨x, r, e, h1, h2⟩ := h
   exact ⟨x, r, e, RD.tk hs n.1 h1, RDs.tk hs n.2 h2⟩
end
mutual
theorem RD.mono (hs : Same H H') : ∀ {d : D} {v : V}, RD K H d v → RD K H' d v
 | .non, _, h => by simp only [RD] at h ⊢; exact h
 | .bl _, _, h => by simp only [RD] at h ⊢; exact h
 | .int _, _, h => by simp only [RD] at h ⊢; exact h
 | .str _, _, h => by simp only [RD] at h ⊢; exact h
 | .tup ds, _, h => by
   simp only [RD] at h ⊢
   obtain ⟨a, xs, e, h1, h2⟩ := h
   exact ⟨a, xs, e, hs _ _ h1, RDs.mono hs h2⟩
 | .lst ds, _, h => by
   simp only [RD] at h ⊢
   obtain ⟨a, xs, e, h1, h2⟩ := h
   exact ⟨a, xs, e, hs _ _ h1, RDs.mono hs h2⟩
 | .dk _ ds, _, h => by
   simp only [RD] at h ⊢
   obtain ⟨a, xs, e, h1, hl, h2⟩ := h
   exact ⟨a, xs, e, hs _ _ h1, hl, RDs.mono hs h2⟩
 | .dn _ ds, _, h => by
   simp only [RD] at h ⊢
   obtain ⟨a, qs, xs, e, h1, hk, hd, h2⟩ := h
   exact ⟨a, qs, xs, e, hs _ _ h1, hk, hd.tk fun b ys q => hs _ _ q, RDs.mono hs h2⟩
 | .dt _ ds, _, h => by
   simp only [RD] at h ⊢
   obtain ⟨a, xs, e, h1, hl, h2⟩ := h
   exact ⟨a, xs, e, hs _ _ h1, hl, RDs.mono hs h2⟩
 | .exc c, _, h => by
   simp only [RD] at h ⊢
   obtain ⟨a, o, e, h1, h2⟩ := h
   exact ⟨a, o, e, h1, hs _ _ h2⟩
 | .scr ns, _, h => by
   simp only [RD] at h ⊢
   obtain ⟨a, e, h1⟩ := h
   refine ⟨a, e, ?_⟩
   rcases h1 with ⟨o, h1⟩ | h1
   . exact .inl ⟨o, hs _ _ h1⟩
   . exact .inr h1
theorem RDs.mono (hs : Same H H') : ∀ {ds : List D} {xs : List V}, RDs K H ds xs → RDs K H' ds xs
 | [], _, h => by simp only [RDs] at h ⊢; exact h
 | d :: ds, _, h => by
   simp only [RDs] at h ⊢
   obtain ⟨x, r, e, h1, h2⟩ := h
   exact ⟨x, r, e, RD.mono hs h1, RDs.mono hs h2⟩
end
theorem RDs.length : ∀ {ds : List D} {xs : List V}, RDs K H ds xs → ds.length = xs.length
 | [], _, h => by simp only [RDs] at h; subst h; rfl
 | d :: ds, _, h => by
   simp only [RDs] at h
   obtain ⟨x, r, rfl, _, h2⟩ := h
   simp [RDs.length h2]
theorem RDs.get : ∀ {ds : List D} {xs : List V} {i : Nat} {x : V}, RDs K H ds xs → xs[i]? = some x → ∃ d, ds[i]? = some d ∧ RD K H d x
 | [], _, i, x, h, e => by simp only [RDs] at h; subst h; simp at e
 | d :: ds, _, i, x, h, e => by
   simp only [RDs] at h
   obtain ⟨y, r, rfl, h1, h2⟩ := h
   cases i with
   | zero => simp at e; subst e; exact ⟨d, rfl, h1⟩
   | succ i => simp at e; obtain ⟨d', e1, e2⟩ := RDs.get h2 e; exact ⟨d', by simpa using e1, e2⟩
theorem RDs.get' : ∀ {ds : List D} {xs : List V} {i : Nat} {d : D}, RDs K H ds xs → ds[i]? = some d → ∃ x, xs[i]? = some x ∧ RD K H d x
 | [], _, i, d, h, e => by simp at e
 | d' :: ds, _, i, d, h, e => by
   simp only [RDs] at h
   obtain ⟨y, r, rfl, h1, h2⟩ := h
   cases i with
   | zero => simp at e; subst e; exact ⟨y, rfl, h1⟩
   | succ i => simp at e; obtain ⟨x', e1, e2⟩ := RDs.get' h2 e; exact ⟨x', by simpa using e1, e2⟩
theorem RDs.append : ∀ {ds es : List D} {xs ys : List V}, RDs K H ds xs → RDs K H es ys → RDs K H (ds ++ es) (xs ++ ys)
 | [], _, _, _, h, h' => by simp only [RDs] at h; subst h; exact h'
 | d :: ds, es, _, ys, h, h' => by
   simp only [RDs] at h
   obtain ⟨x, r, rfl, h1, h2⟩ := h
   simp only [List.cons_append, RDs]
   exact ⟨x, r ++ ys, rfl, h1, RDs.append h2 h'⟩
theorem RDs.nil : RDs K H [] [] := by simp only [RDs]
theorem RDs.cons {d : D} {x : V} {ds : List D} {xs : List V} (h : RD K H d x) (h' : RDs K H ds xs) : RDs K H (d :: ds) (x :: xs) := by simp only [RDs]; exact ⟨x, xs, rfl, h, h'⟩
theorem RDs.one {d : D} {x : V} (h : RD K H d x) : RDs K H [d] [x] := .cons h .nil
theorem RDs.take : ∀ {ds : List D} {xs : List V} (n : Nat), RDs K H ds xs → RDs K H (ds.take n) (xs.take n)
 | _, _, 0, _ => by simp [RDs]
 | [], _, n + 1, h => by simp only [RDs] at h; subst h; simp [RDs]
 | d :: ds, _, n + 1, h => by
   simp only [RDs] at h
   obtain ⟨x, r, rfl, h1, h2⟩ := h
   simp only [List.take_succ_cons]
   exact .cons h1 (RDs.take n h2)
theorem RDs.drop : ∀ {ds : List D} {xs : List V} (n : Nat), RDs K H ds xs → RDs K H (ds.drop n) (xs.drop n)
 | _, _, 0, h => h
 | [], _, n + 1, h => by simp only [RDs] at h; subst h; simp [RDs]
 | d :: ds, _, n + 1, h => by
   simp only [RDs] at h
   obtain ⟨x, r, rfl, h1, h2⟩ := h
   exact RDs.drop n h2
theorem RDs.set : ∀ {ds : List D} {xs : List V} (n : Nat) {d : D} {x : V}, RDs K H ds xs → RD K H d x → RDs K H (ds.set n d) (xs.set n x)
 | [], _, n, _, _, h, _ => by simp only [RDs] at h; subst h; simp [RDs]
 | d :: ds, _, 0, _, _, h, h' => by
   simp only [RDs] at h
   obtain ⟨x, r, rfl, h1, h2⟩ := h
   exact .cons h' h2
 | d :: ds, _, n + 1, _, _, h, h' => by
   simp only [RDs] at h
   obtain ⟨x, r, rfl, h1, h2⟩ := h
   exact .cons h1 (RDs.set n h2 h')
theorem RDs.ofInts : ∀ (ns : List Int), RDs K H (ns.map D.int) (ns.map V.int)
 | [] => by simp only [List.map, RDs]
 | n :: ns => by
   simp only [List.map]
   exact RDs.cons (by simp only [RD]) (RDs.ofInts ns)
end
mutual
def eqD : D → D → Bool
 | .non, .non => true
 | .bl a, .bl b => a == b
 | .bl a, .int j => (if a then 1 else 0) == j
 | .int i, .bl b => i == (if b then 1 else 0)
 | .int i, .int j => i == j
 | .str a, .str b => a == b
 | .tup ds, .tup es => eqDs ds es
 | .lst ds, .lst es => eqDs ds es
 | _, _ => false
def eqDs : List D → List D → Bool
 | [], [] => true
 | d :: ds, e :: es => eqD d e && eqDs ds es
 | _, _ => false
end
mutual
def D.dep : D → Nat
 | .tup ds => deps ds + 1
 | .lst ds => deps ds + 1
 | _ => 0
def deps : List D → Nat
 | [] => 0
 | d :: ds => max d.dep (deps ds)
end
mutual
theorem zbd : ∀ d : D, d.pl = true → eqD d d = true
 | .non, _ => rfl
 | .bl b, _ => by simp [eqD]
 | .int b, _ => by simp [eqD]
 | .str b, _ => by simp [eqD]
 | .tup ds, h => by simp only [eqD]; exact z8e ds (by simpa only [D.pl] using h)
 | .lst ds, h => by simp only [eqD]; exact z8e ds (by simpa only [D.pl] using h)
 | .dk _ _, h => by simp [D.pl] at h
 | .dt _ _, h => by simp [D.pl] at h
 | .dn _ _, h => by simp [D.pl] at h
 | .scr _, h => by simp [D.pl] at h
 | .exc _, h => by simp [D.pl] at h
theorem z8e : ∀ ds : List D, pls ds = true → eqDs ds ds = true
 | [], _ => rfl
 | d :: ds, h => by
   simp only [pls, Bool.and_eq_true] at h
   simp only [eqDs, zbd d h.1, z8e ds h.2, Bool.and_self]
end
mutual
theorem RD.inj {K : PySem.W.Frag} {H : Hp} : ∀ {d e : D} {v : V}, d.pl = true → e.pl = true → RD K H d v → RD K H e v → d = e
 | .non, e, v, _, p, h, h' => by
   simp only [RD] at h; subst h
   cases e <;> simp only [RD] at h' <;> first | (exfalso; simp [D.pl] at p; done) | rfl | (cases h'; done) | (obtain ⟨a, xs, z, _⟩ := h'; cases z)
 | .bl b, e, v, _, p, h, h' => by
   simp only [RD] at h; subst h
   cases e <;> simp only [RD] at h' <;> first | (exfalso; simp [D.pl] at p; done) | (cases h'; rfl) | (cases h'; done) | (obtain ⟨a, xs, z, _⟩ := h'; cases z)
 | .int b, e, v, _, p, h, h' => by
   simp only [RD] at h; subst h
   cases e <;> simp only [RD] at h' <;> first | (exfalso; simp [D.pl] at p; done) | (cases h'; rfl) | (cases h'; done) | (obtain ⟨a, xs, z, _⟩ := h'; cases z)
 | .str b, e, v, _, p, h, h' => by
   simp only [RD] at h; subst h
   cases e <;> simp only [RD] at h' <;> first | (exfalso; simp [D.pl] at p; done) | (cases h'; rfl) | (cases h'; done) | (obtain ⟨a, xs, z, _⟩ := h'; cases z)
 | .dk _ _, e, v, p, _, h, h' => by simp [D.pl] at p
 | .dt _ _, e, v, p, _, h, h' => by simp [D.pl] at p
 | .dn _ _, e, v, p, _, h, h' => by simp [D.pl] at p
 | .scr _, e, v, p, _, h, h' => by simp [D.pl] at p
 | .exc _, e, v, p, _, h, h' => by simp [D.pl] at p
 | .tup ds, e, v, p, p', h, h' => by
   simp only [RD] at h
   obtain ⟨a, xs, rfl, h1, h2⟩ := h
   cases e <;> simp only [RD] at h'
   case tup es =>
     obtain ⟨b, ys, z, h3, h4⟩ := h'
     cases z
     rw [h1] at h3; cases h3
     rw [RDs.inj (by simpa only [D.pl] using p) (by simpa only [D.pl] using p') h2 h4]
   case lst es =>
     obtain ⟨b, ys, z, h3, h4⟩ := h'
     cases z
     rw [h1] at h3; cases h3
   all_goals first | (exfalso; simp [D.pl] at p'; done) | cases h'
 | .lst ds, e, v, p, p', h, h' => by
   simp only [RD] at h
   obtain ⟨a, xs, rfl, h1, h2⟩ := h
   cases e <;> simp only [RD] at h'
   case tup es =>
     obtain ⟨b, ys, z, h3, h4⟩ := h'
     cases z
     rw [h1] at h3; cases h3
   case lst es =>
     obtain ⟨b, ys, z, h3, h4⟩ := h'
     cases z
     rw [h1] at h3; cases h3
     rw [RDs.inj (by simpa only [D.pl] using p) (by simpa only [D.pl] using p') h2 h4]
   all_goals first | (exfalso; simp [D.pl] at p'; done) | cases h'
theorem RDs.inj {K : PySem.W.Frag} {H : Hp} : ∀ {ds es : List D} {xs : List V}, pls ds = true → pls es = true → RDs K H ds xs → RDs K H es xs → ds = es
 | [], es, xs, _, _, h, h' => by
   simp only [RDs] at h; subst h
   cases es <;> simp only [RDs] at h'
   . rfl
   . obtain ⟨x, r, z, _⟩ := h'; cases z
 | d :: ds, es, xs, p, p', h, h' => by
   simp only [RDs] at h
   obtain ⟨x, r, rfl, h1, h2⟩ := h
   simp only [pls, Bool.and_eq_true] at p
   cases es with
   | nil => simp only [RDs] at h'; cases h'
   | cons e es =>
     simp only [RDs] at h'
     obtain ⟨y, r', z, h3, h4⟩ := h'
     cases z
     simp only [pls, Bool.and_eq_true] at p'
     rw [RD.inj p.1 p'.1 h1 h3, RDs.inj p.2 p'.2 h2 h4]
end
theorem za4 : ∀ {ds : List D} {d : D}, pls ds = true → d ∈ ds → d.pl = true
 | e :: ds, d, h, m => by
   simp only [pls, Bool.and_eq_true] at h
   rcases List.mem_cons.mp m with rfl | m
   . exact h.1
   . exact za4 h.2 m
theorem z8f : ∀ {ds : List D} {d : D}, d ∈ ds → d.dep ≤ deps ds
 | d' :: ds, d, h => by
   simp only [deps]
   rcases List.mem_cons.mp h with rfl | h
   . omega
   . have := z8f h; omega
theorem z6b : ∀ {ds es : List D}, ds.length = es.length → eqDs ds es = (List.range ds.length).all fun j => eqD (ds.getD j .non) (es.getD j .non)
 | [], [], _ => rfl
 | [], _ :: _, h => by simp at h
 | _ :: _, [], h => by simp at h
 | d :: ds, e :: es, h => by
   simp only [eqDs, List.length_cons]
   rw [z6b (by simpa using h), List.range_succ_eq_map, List.all_cons, List.all_map]
   rfl
theorem z5a : ∀ {ds es : List D}, ds.length ≠ es.length → eqDs ds es = false
 | [], [], h => absurd rfl h
 | [], _ :: _, _ => rfl
 | _ :: _, [], _ => rfl
 | d :: ds, e :: es, h => by
   simp only [eqDs]
   rw [z5a (by intro z; exact h (by simp [z])), Bool.and_false]
section
variable {X : Cx} {pins : List (Addr × Obj)} {σ : St} {H : Hp} {s : Shared}
theorem Inv.tupA (I : Inv X pins σ H s) {a : Addr} {xs : List V} (h : H a = some (.tup xs)) : ∃ its : List Value, Vals xs its ∧ s.heap.IsTuple a its.toArray := by
 obtain ⟨its, r, t, _⟩ := I.tuple (.of h)
 exact ⟨its, r, t⟩
theorem Inv.lstA (I : Inv X pins σ H s) {a : Addr} {xs : List V} (h : H a = some (.lst xs)) : ∃ its : List Value, Vals xs its ∧ s.heap.IsList a its.toArray := by
 obtain ⟨its, r, t, _⟩ := I.list (.of h)
 exact ⟨its, r, t.isList⟩
theorem eqAt_D (I : Inv X pins σ H s) : ∀ (n : Nat) {A : Around} {d e : D} {x y : V} {u v : Value}, d.pl = true → e.pl = true → d.dep ≤ n → A.units + n < cLine → RD X.K H d x → RD X.K H e y → RelV x u → RelV y v → SeqAt.EqAt A s u v (eqD d e) := by
 intro n
 induction n with
 | zero =>
   intro A d e x y u v hpd hpe hn hu hx hy ru rv
   have hu' : A.units < cLine := by omega
   cases d with
   | dk _ _ => simp [D.pl] at hpd
   | dt _ _ => simp [D.pl] at hpd
   | dn _ _ => simp [D.pl] at hpd
   | scr _ => simp [D.pl] at hpd
   | exc _ => simp [D.pl] at hpd
   | tup ds => simp only [D.dep] at hn; omega
   | lst ds => simp only [D.dep] at hn; omega
   | non =>
     simp only [RD] at hx; subst hx; cases ru
     cases e with
     | dk _ _ => simp [D.pl] at hpe
     | dt _ _ => simp [D.pl] at hpe
     | dn _ _ => simp [D.pl] at hpe
     | scr _ => simp [D.pl] at hpe
     | exc _ => simp [D.pl] at hpe
     | non => simp only [RD] at hy; subst hy; cases rv; exact .same _
     | bl b => simp only [RD] at hy; subst hy; cases rv; exact .none_bool _
     | int b => simp only [RD] at hy; subst hy; obtain ⟨t, rfl⟩ := rv; exact .none_int _ _
     | str b => simp only [RD] at hy; subst hy; obtain ⟨t, rfl⟩ := rv; exact .none_str _ _
     | tup es => simp only [RD] at hy; obtain ⟨a, ys, rfl, h1, _⟩ := hy; cases rv; obtain ⟨its, _, t⟩ := I.tupA h1; exact .none_tuple t hu'
     | lst es => simp only [RD] at hy; obtain ⟨a, ys, rfl, h1, _⟩ := hy; cases rv; obtain ⟨its, _, t⟩ := I.lstA h1; exact .none_list t hu'
   | bl c =>
     simp only [RD] at hx; subst hx; cases ru
     cases e with
     | dk _ _ => simp [D.pl] at hpe
     | dt _ _ => simp [D.pl] at hpe
     | dn _ _ => simp [D.pl] at hpe
     | scr _ => simp [D.pl] at hpe
     | exc _ => simp [D.pl] at hpe
     | non => simp only [RD] at hy; subst hy; cases rv; exact .bool_none _
     | bl b => simp only [RD] at hy; subst hy; cases rv; exact .bool_bool _ _
     | int b => simp only [RD] at hy; subst hy; obtain ⟨t, rfl⟩ := rv; exact .bool_int _ _ _
     | str b => simp only [RD] at hy; subst hy; obtain ⟨t, rfl⟩ := rv; exact .bool_str _ _ _
     | tup es => simp only [RD] at hy; obtain ⟨a, ys, rfl, h1, _⟩ := hy; cases rv; obtain ⟨its, _, t⟩ := I.tupA h1; exact .bool_tuple _ t hu'
     | lst es => simp only [RD] at hy; obtain ⟨a, ys, rfl, h1, _⟩ := hy; cases rv; obtain ⟨its, _, t⟩ := I.lstA h1; exact .bool_list _ t hu'
   | int c =>
     simp only [RD] at hx; subst hx; obtain ⟨tt, rfl⟩ := ru
     cases e with
     | dk _ _ => simp [D.pl] at hpe
     | dt _ _ => simp [D.pl] at hpe
     | dn _ _ => simp [D.pl] at hpe
     | scr _ => simp [D.pl] at hpe
     | exc _ => simp [D.pl] at hpe
     | non => simp only [RD] at hy; subst hy; cases rv; exact .int_none _ _
     | bl b => simp only [RD] at hy; subst hy; cases rv; exact .int_bool _ _ _
     | int b => simp only [RD] at hy; subst hy; obtain ⟨t, rfl⟩ := rv; exact .int_int _ _ _ _
     | str b => simp only [RD] at hy; subst hy; obtain ⟨t, rfl⟩ := rv; exact .int_str _ _ _ _
     | tup es => simp only [RD] at hy; obtain ⟨a, ys, rfl, h1, _⟩ := hy; cases rv; obtain ⟨its, _, t⟩ := I.tupA h1; exact .int_tuple _ _ t hu'
     | lst es => simp only [RD] at hy; obtain ⟨a, ys, rfl, h1, _⟩ := hy; cases rv; obtain ⟨its, _, t⟩ := I.lstA h1; exact .int_list _ _ t hu'
   | str c =>
     simp only [RD] at hx; subst hx; obtain ⟨tt, rfl⟩ := ru
     cases e with
     | dk _ _ => simp [D.pl] at hpe
     | dt _ _ => simp [D.pl] at hpe
     | dn _ _ => simp [D.pl] at hpe
     | scr _ => simp [D.pl] at hpe
     | exc _ => simp [D.pl] at hpe
     | non => simp only [RD] at hy; subst hy; cases rv; exact .str_none _ _
     | bl b => simp only [RD] at hy; subst hy; cases rv; exact .str_bool _ _ _
     | int b => simp only [RD] at hy; subst hy; obtain ⟨t, rfl⟩ := rv; exact .str_int _ _ _ _
     | str b => simp only [RD] at hy; subst hy; obtain ⟨t, rfl⟩ := rv; exact .str_str _ _ _ _
     | tup es => simp only [RD] at hy; obtain ⟨a, ys, rfl, h1, _⟩ := hy; cases rv; obtain ⟨its, _, t⟩ := I.tupA h1; exact .str_tuple _ _ t hu'
     | lst es => simp only [RD] at hy; obtain ⟨a, ys, rfl, h1, _⟩ := hy; cases rv; obtain ⟨its, _, t⟩ := I.lstA h1; exact .str_list _ _ t hu'
 | succ n ih =>
   intro A d e x y u v hpd hpe hn hu hx hy ru rv
   have hu' : A.units < cLine := by omega
   by_cases hd0 : d.dep ≤ n
   . exact ih hpd hpe hd0 (by omega) hx hy ru rv
   have inner : ∀ {ds es : List D} {xs ys : List V} {its its2 : List Value}, pls ds = true → pls es = true → deps ds ≤ n → RDs X.K H ds xs → RDs X.K H es ys → Vals xs its → Vals ys its2 → ∀ j (h1 : j < its.toArray.size) (h2 : j < its2.toArray.size),
       SeqAt.EqAt A.in1 s its.toArray[j] its2.toArray[j] (eqD (ds.getD j .non) (es.getD j .non)) := fun {ds es xs ys its its2} pd pe hdn hxs hys r r2 j h1 h2 => by
     have h1' : j < its.length := by simpa using h1
     have h2' : j < its2.length := by simpa using h2
     have l1 := r.length
     have l2 := r2.length
     obtain ⟨u1, e1, q1⟩ := r.get (i := j) (x := xs[j]'(by omega)) (by simp)
     obtain ⟨u2, e2, q2⟩ := r2.get (i := j) (x := ys[j]'(by omega)) (by simp)
     obtain ⟨d1, g1, w1⟩ := hxs.get (i := j) (x := xs[j]'(by omega)) (by simp)
     obtain ⟨d2, g2, w2⟩ := hys.get (i := j) (x := ys[j]'(by omega)) (by simp)
     have ea : its.toArray[j] = u1 := by
       rw [List.getElem?_eq_getElem h1'] at e1; simpa using e1
     have eb : its2.toArray[j] = u2 := by
       rw [List.getElem?_eq_getElem h2'] at e2; simpa using e2
     rw [ea, eb]
     have ga : ds.getD j .non = d1 := by rw [List.getD_eq_getElem?_getD, g1]; rfl
     have gb : es.getD j .non = d2 := by rw [List.getD_eq_getElem?_getD, g2]; rfl
     rw [ga, gb]
     have hdj : d1.dep ≤ n := Nat.le_trans (z8f (List.mem_of_getElem? g1)) hdn
     exact ih (za4 pd (List.mem_of_getElem? g1)) (za4 pe (List.mem_of_getElem? g2)) hdj (by show A.units + 1 + n < cLine; omega) w1 w2 q1 q2
   cases d with
   | dk _ _ => simp [D.pl] at hpd
   | dt _ _ => simp [D.pl] at hpd
   | dn _ _ => simp [D.pl] at hpd
   | scr _ => simp [D.pl] at hpd
   | exc _ => simp [D.pl] at hpd
   | non => simp only [D.dep] at hd0; omega
   | bl _ => simp only [D.dep] at hd0; omega
   | int _ => simp only [D.dep] at hd0; omega
   | str _ => simp only [D.dep] at hd0; omega
   | tup ds =>
     simp only [RD] at hx; obtain ⟨a, xs, rfl, h1, hxs⟩ := hx; cases ru
     obtain ⟨its, r, t⟩ := I.tupA h1
     cases e with
     | dk _ _ => simp [D.pl] at hpe
     | dt _ _ => simp [D.pl] at hpe
     | dn _ _ => simp [D.pl] at hpe
     | scr _ => simp [D.pl] at hpe
     | exc _ => simp [D.pl] at hpe
     | non => simp only [RD] at hy; subst hy; cases rv; exact .tuple_none t hu'
     | bl b => simp only [RD] at hy; subst hy; cases rv; exact .tuple_bool _ t hu'
     | int b => simp only [RD] at hy; subst hy; obtain ⟨tk, rfl⟩ := rv; exact .tuple_int _ _ t hu'
     | str b => simp only [RD] at hy; subst hy; obtain ⟨tk, rfl⟩ := rv; exact .tuple_str _ _ t hu'
     | tup es =>
       simp only [RD] at hy; obtain ⟨b, ys, rfl, h2, hys⟩ := hy; cases rv
       obtain ⟨its2, r2, t2⟩ := I.tupA h2
       by_cases hab : a = b
       . subst hab
         rw [h1] at h2; cases h2
         rw [RDs.inj (by simpa only [D.pl] using hpd) (by simpa only [D.pl] using hpe) hxs hys, zbd _ (by simpa only [D.pl] using hpe)]
         exact .same _
       . have lx := hxs.length; have ly := hys.length; have l1 := r.length; have l2 := r2.length
         have q := SeqAt.RcAt.tuples t t2 hu' (e := fun j => eqD (ds.getD j .non) (es.getD j .non)) (inner (by simpa only [D.pl] using hpd) (by simpa only [D.pl] using hpe) (by simp only [D.dep] at hn; omega) hxs hys r r2)
         have eb : ((List.range (min its.toArray.size its2.toArray.size)).all (fun j => eqD (ds.getD j .non) (es.getD j .non)) && its.toArray.size == its2.toArray.size) = eqD (.tup ds) (.tup es) := by
           simp only [eqD, List.size_toArray]
           by_cases hl : ds.length = es.length
           . rw [z6b hl]
             have : its.length = its2.length := by omega
             rw [this, Nat.min_self, show its2.length = ds.length by omega]
             simp
           . rw [z5a hl]
             have : (its.length == its2.length) = false := by simp; omega
             rw [this, Bool.and_false]
         rw [eb] at q
         exact .of_refs hab q
     | lst es =>
       simp only [RD] at hy; obtain ⟨b, ys, rfl, h2, hys⟩ := hy; cases rv
       obtain ⟨its2, r2, t2⟩ := I.lstA h2
       exact .tuple_list t t2 hu'
   | lst ds =>
     simp only [RD] at hx; obtain ⟨a, xs, rfl, h1, hxs⟩ := hx; cases ru
     obtain ⟨its, r, t⟩ := I.lstA h1
     cases e with
     | dk _ _ => simp [D.pl] at hpe
     | dt _ _ => simp [D.pl] at hpe
     | dn _ _ => simp [D.pl] at hpe
     | scr _ => simp [D.pl] at hpe
     | exc _ => simp [D.pl] at hpe
     | non => simp only [RD] at hy; subst hy; cases rv; exact .list_none t hu'
     | bl b => simp only [RD] at hy; subst hy; cases rv; exact .list_bool _ t hu'
     | int b => simp only [RD] at hy; subst hy; obtain ⟨tk, rfl⟩ := rv; exact .list_int _ _ t hu'
     | str b => simp only [RD] at hy; subst hy; obtain ⟨tk, rfl⟩ := rv; exact .list_str _ _ t hu'
     | tup es =>
       simp only [RD] at hy; obtain ⟨b, ys, rfl, h2, hys⟩ := hy; cases rv
       obtain ⟨its2, r2, t2⟩ := I.tupA h2
       exact .list_tuple t t2 hu'
     | lst es =>
       simp only [RD] at hy; obtain ⟨b, ys, rfl, h2, hys⟩ := hy; cases rv
       obtain ⟨its2, r2, t2⟩ := I.lstA h2
       by_cases hab : a = b
       . subst hab
         rw [h1] at h2; cases h2
         rw [RDs.inj (by simpa only [D.pl] using hpd) (by simpa only [D.pl] using hpe) hxs hys, zbd _ (by simpa only [D.pl] using hpe)]
         exact .same _
       . have lx := hxs.length; have ly := hys.length; have l1 := r.length; have l2 := r2.length
         by_cases hl : ds.length = es.length
         . have hsz : its.toArray.size = its2.toArray.size := by simp; omega
           have q := SeqAt.RcAt.lists t t2 hsz hu' (e := fun j => eqD (ds.getD j .non) (es.getD j .non)) (inner (by simpa only [D.pl] using hpd) (by simpa only [D.pl] using hpe) (by simp only [D.dep] at hn; omega) hxs hys r r2)
           have eb : ((List.range its.toArray.size).all fun j => eqD (ds.getD j .non) (es.getD j .non)) = eqD (.lst ds) (.lst es) := by
             simp only [eqD, List.size_toArray]
             rw [z6b hl, show its.length = ds.length by omega]
           rw [eb] at q
           exact .of_refs hab q
         . have q := SeqAt.RcAt.lists_lengths t t2 (by simp; omega) hu'
           have : eqD (.lst ds) (.lst es) = false := by simp only [eqD]; exact z5a hl
           rw [this]
           exact .of_refs hab q
end
section
variable {X : Cx} {pins : List (Addr × Obj)} {σ : St} {H : Hp} {s : Shared}
theorem zd7 (I : Inv X pins σ H s) {n : Nat} {A : Around} (hu : A.units + 1 + n < cLine) {ds es : List D} {xs ys : List V} {its its2 : List Value} (pd : pls ds = true) (pe : pls es = true) (hdn : deps ds ≤ n) (hxs : RDs X.K H ds xs) (hys : RDs X.K H es ys) (r : Vals xs its) (r2 : Vals ys its2) (j : Nat)
   (h1 : j < its.toArray.size) (h2 : j < its2.toArray.size) : SeqAt.EqAt A.in1 s its.toArray[j] its2.toArray[j] (eqD (ds.getD j .non) (es.getD j .non)) := by
 have h1' : j < its.length := by simpa using h1
 have h2' : j < its2.length := by simpa using h2
 have l1 := r.length
 have l2 := r2.length
 obtain ⟨u1, e1, q1⟩ := r.get (i := j) (x := xs[j]'(by omega)) (by simp)
 obtain ⟨u2, e2, q2⟩ := r2.get (i := j) (x := ys[j]'(by omega)) (by simp)
 obtain ⟨d1, g1, w1⟩ := hxs.get (i := j) (x := xs[j]'(by omega)) (by simp)
 obtain ⟨d2, g2, w2⟩ := hys.get (i := j) (x := ys[j]'(by omega)) (by simp)
 have ea : its.toArray[j] = u1 := by
   rw [List.getElem?_eq_getElem h1'] at e1; simpa using e1
 have eb : its2.toArray[j] = u2 := by
   rw [List.getElem?_eq_getElem h2'] at e2; simpa using e2
 rw [ea, eb]
 have ga : ds.getD j .non = d1 := by rw [List.getD_eq_getElem?_getD, g1]; rfl
 have gb : es.getD j .non = d2 := by rw [List.getD_eq_getElem?_getD, g2]; rfl
 rw [ga, gb]
 exact eqAt_D I n (za4 pd (List.mem_of_getElem? g1)) (za4 pe (List.mem_of_getElem? g2)) (Nat.le_trans (z8f (List.mem_of_getElem? g1)) hdn) (by show A.units + 1 + n < cLine; omega) w1 w2 q1 q2
theorem z15a {ds es : List D} {xs ys : List V} {its its2 : List Value} (hxs : RDs X.K H ds xs) (hys : RDs X.K H es ys) (r : Vals xs its) (r2 : Vals ys its2) :
   ((List.range (min its.toArray.size its2.toArray.size)).all (fun j => eqD (ds.getD j .non) (es.getD j .non)) && its.toArray.size == its2.toArray.size) = eqDs ds es := by
 have lx := hxs.length; have ly := hys.length; have l1 := r.length; have l2 := r2.length
 simp only [List.size_toArray]
 by_cases hl : ds.length = es.length
 . rw [z6b hl]
   have : its.length = its2.length := by omega
   rw [this, Nat.min_self, show its2.length = ds.length by omega]
   simp
 . rw [z5a hl]
   have : (its.length == its2.length) = false := by simp; omega
   rw [this, Bool.and_false]
theorem z15b {ds es : List D} {xs ys : List V} {its its2 : List Value} (hxs : RDs X.K H ds xs) (hys : RDs X.K H es ys) (r : Vals xs its) (r2 : Vals ys its2) (hl : ds.length = es.length) :
   ((List.range its.toArray.size).all fun j => eqD (ds.getD j .non) (es.getD j .non)) = eqDs ds es := by
 have lx := hxs.length; have ly := hys.length; have l1 := r.length; have l2 := r2.length
 rw [z6b hl, List.size_toArray, show its.length = ds.length by omega]
theorem rcAt_D (I : Inv X pins σ H s) {n : Nat} {A : Around} {d e : D} {x y : V} {u v : Value} (hpd : d.pl = true) (hpe : e.pl = true) (hn : d.dep ≤ n) (hu : A.units + 1 + n < cLine) (hx : RD X.K H d x) (hy : RD X.K H e y) (ru : RelV x u) (rv : RelV y v) : SeqAt.RcAt A s u v (eqD d e) := by
 have hu' : A.units < cLine := by omega
 cases d with
 | dk _ _ => simp [D.pl] at hpd
 | dt _ _ => simp [D.pl] at hpd
 | dn _ _ => simp [D.pl] at hpd
 | scr _ => simp [D.pl] at hpd
 | exc _ => simp [D.pl] at hpd
 | non =>
   simp only [RD] at hx; subst hx; cases ru
   cases e with
   | dk _ _ => simp [D.pl] at hpe
   | dt _ _ => simp [D.pl] at hpe
   | dn _ _ => simp [D.pl] at hpe
   | scr _ => simp [D.pl] at hpe
   | exc _ => simp [D.pl] at hpe
   | non => simp only [RD] at hy; subst hy; cases rv; exact .none_none
   | bl b => simp only [RD] at hy; subst hy; cases rv; exact .none_bool _
   | int b => simp only [RD] at hy; subst hy; obtain ⟨t, rfl⟩ := rv; exact .none_int _ _
   | str b => simp only [RD] at hy; subst hy; obtain ⟨t, rfl⟩ := rv; exact .none_str _ _
   | tup es => simp only [RD] at hy; obtain ⟨a, ys, rfl, h1, _⟩ := hy; cases rv; obtain ⟨its, _, t⟩ := I.tupA h1; exact .none_tuple t hu'
   | lst es => simp only [RD] at hy; obtain ⟨a, ys, rfl, h1, _⟩ := hy; cases rv; obtain ⟨its, _, t⟩ := I.lstA h1; exact .none_list t hu'
 | bl c =>
   simp only [RD] at hx; subst hx; cases ru
   cases e with
   | dk _ _ => simp [D.pl] at hpe
   | dt _ _ => simp [D.pl] at hpe
   | dn _ _ => simp [D.pl] at hpe
   | scr _ => simp [D.pl] at hpe
   | exc _ => simp [D.pl] at hpe
   | non => simp only [RD] at hy; subst hy; cases rv; exact .bool_none _
   | bl b => simp only [RD] at hy; subst hy; cases rv; exact .bool_bool _ _
   | int b => simp only [RD] at hy; subst hy; obtain ⟨t, rfl⟩ := rv; exact .bool_int _ _ _
   | str b => simp only [RD] at hy; subst hy; obtain ⟨t, rfl⟩ := rv; exact .bool_str _ _ _
   | tup es => simp only [RD] at hy; obtain ⟨a, ys, rfl, h1, _⟩ := hy; cases rv; obtain ⟨its, _, t⟩ := I.tupA h1; exact .bool_tuple _ t hu'
   | lst es => simp only [RD] at hy; obtain ⟨a, ys, rfl, h1, _⟩ := hy; cases rv; obtain ⟨its, _, t⟩ := I.lstA h1; exact .bool_list _ t hu'
 | int c =>
   simp only [RD] at hx; subst hx; obtain ⟨tt, rfl⟩ := ru
   cases e with
   | dk _ _ => simp [D.pl] at hpe
   | dt _ _ => simp [D.pl] at hpe
   | dn _ _ => simp [D.pl] at hpe
   | scr _ => simp [D.pl] at hpe
   | exc _ => simp [D.pl] at hpe
   | non => simp only [RD] at hy; subst hy; cases rv; exact .int_none _ _
   | bl b => simp only [RD] at hy; subst hy; cases rv; exact .int_bool _ _ _
   | int b => simp only [RD] at hy; subst hy; obtain ⟨t, rfl⟩ := rv; exact .int_int _ _ _ _
   | str b => simp only [RD] at hy; subst hy; obtain ⟨t, rfl⟩ := rv; exact .int_str _ _ _ _
   | tup es => simp only [RD] at hy; obtain ⟨a, ys, rfl, h1, _⟩ := hy; cases rv; obtain ⟨its, _, t⟩ := I.tupA h1; exact .int_tuple _ _ t hu'
   | lst es => simp only [RD] at hy; obtain ⟨a, ys, rfl, h1, _⟩ := hy; cases rv; obtain ⟨its, _, t⟩ := I.lstA h1; exact .int_list _ _ t hu'
 | str c =>
   simp only [RD] at hx; subst hx; obtain ⟨tt, rfl⟩ := ru
   cases e with
   | dk _ _ => simp [D.pl] at hpe
   | dt _ _ => simp [D.pl] at hpe
   | dn _ _ => simp [D.pl] at hpe
   | scr _ => simp [D.pl] at hpe
   | exc _ => simp [D.pl] at hpe
   | non => simp only [RD] at hy; subst hy; cases rv; exact .str_none _ _
   | bl b => simp only [RD] at hy; subst hy; cases rv; exact .str_bool _ _ _
   | int b => simp only [RD] at hy; subst hy; obtain ⟨t, rfl⟩ := rv; exact .str_int _ _ _ _
   | str b => simp only [RD] at hy; subst hy; obtain ⟨t, rfl⟩ := rv; exact .str_str _ _ _ _
   | tup es => simp only [RD] at hy; obtain ⟨a, ys, rfl, h1, _⟩ := hy; cases rv; obtain ⟨its, _, t⟩ := I.tupA h1; exact .str_tuple _ _ t hu'
   | lst es => simp only [RD] at hy; obtain ⟨a, ys, rfl, h1, _⟩ := hy; cases rv; obtain ⟨its, _, t⟩ := I.lstA h1; exact .str_list _ _ t hu'
 | tup ds =>
   simp only [RD] at hx; obtain ⟨a, xs, rfl, h1, hxs⟩ := hx; cases ru
   obtain ⟨its, r, t⟩ := I.tupA h1
   cases e with
   | dk _ _ => simp [D.pl] at hpe
   | dt _ _ => simp [D.pl] at hpe
   | dn _ _ => simp [D.pl] at hpe
   | scr _ => simp [D.pl] at hpe
   | exc _ => simp [D.pl] at hpe
   | non => simp only [RD] at hy; subst hy; cases rv; exact .tuple_none t hu'
   | bl b => simp only [RD] at hy; subst hy; cases rv; exact .tuple_bool _ t hu'
   | int b => simp only [RD] at hy; subst hy; obtain ⟨tk, rfl⟩ := rv; exact .tuple_int _ _ t hu'
   | str b => simp only [RD] at hy; subst hy; obtain ⟨tk, rfl⟩ := rv; exact .tuple_str _ _ t hu'
   | tup es =>
     simp only [RD] at hy; obtain ⟨b, ys, rfl, h2, hys⟩ := hy; cases rv
     obtain ⟨its2, r2, t2⟩ := I.tupA h2
     have q := SeqAt.RcAt.tuples t t2 hu' (e := fun j => eqD (ds.getD j .non) (es.getD j .non)) (zd7 I hu (by simpa only [D.pl] using hpd) (by simpa only [D.pl] using hpe) (by simp only [D.dep] at hn; omega) hxs hys r r2)
     rw [z15a hxs hys r r2] at q
     exact q
   | lst es =>
     simp only [RD] at hy; obtain ⟨b, ys, rfl, h2, hys⟩ := hy; cases rv
     obtain ⟨its2, r2, t2⟩ := I.lstA h2
     exact .tuple_list t t2 hu'
 | lst ds =>
   simp only [RD] at hx; obtain ⟨a, xs, rfl, h1, hxs⟩ := hx; cases ru
   obtain ⟨its, r, t⟩ := I.lstA h1
   cases e with
   | dk _ _ => simp [D.pl] at hpe
   | dt _ _ => simp [D.pl] at hpe
   | dn _ _ => simp [D.pl] at hpe
   | scr _ => simp [D.pl] at hpe
   | exc _ => simp [D.pl] at hpe
   | non => simp only [RD] at hy; subst hy; cases rv; exact .list_none t hu'
   | bl b => simp only [RD] at hy; subst hy; cases rv; exact .list_bool _ t hu'
   | int b => simp only [RD] at hy; subst hy; obtain ⟨tk, rfl⟩ := rv; exact .list_int _ _ t hu'
   | str b => simp only [RD] at hy; subst hy; obtain ⟨tk, rfl⟩ := rv; exact .list_str _ _ t hu'
   | tup es =>
     simp only [RD] at hy; obtain ⟨b, ys, rfl, h2, hys⟩ := hy; cases rv
     obtain ⟨its2, r2, t2⟩ := I.tupA h2
     exact .list_tuple t t2 hu'
   | lst es =>
     simp only [RD] at hy; obtain ⟨b, ys, rfl, h2, hys⟩ := hy; cases rv
     obtain ⟨its2, r2, t2⟩ := I.lstA h2
     have lx := hxs.length; have ly := hys.length; have l1 := r.length; have l2 := r2.length
     by_cases hl : ds.length = es.length
     . have hsz : its.toArray.size = its2.toArray.size := by simp; omega
       have q := SeqAt.RcAt.lists t t2 hsz hu' (e := fun j => eqD (ds.getD j .non) (es.getD j .non)) (zd7 I hu (by simpa only [D.pl] using hpd) (by simpa only [D.pl] using hpe) (by simp only [D.dep] at hn; omega) hxs hys r r2)
       rw [z15b hxs hys r r2 hl] at q
       exact q
     . have q := SeqAt.RcAt.lists_lengths t t2 (by simp; omega) hu'
       have : eqD (.lst ds) (.lst es) = false := by simp only [eqD]; exact z5a hl
       rw [this]
       exact q
theorem rcNe_D (I : Inv X pins σ H s) {n : Nat} {A : Around} {d e : D} {x y : V} {u v : Value} (hpd : d.pl = true) (hpe : e.pl = true) (hn : d.dep ≤ n) (hu : A.units + 1 + n < cLine) (hx : RD X.K H d x) (hy : RD X.K H e y) (ru : RelV x u) (rv : RelV y v) : SeqAt.RcNeAt A s u v (!eqD d e) := by
 have hu' : A.units < cLine := by omega
 cases d with
 | dk _ _ => simp [D.pl] at hpd
 | dt _ _ => simp [D.pl] at hpd
 | dn _ _ => simp [D.pl] at hpd
 | scr _ => simp [D.pl] at hpd
 | exc _ => simp [D.pl] at hpd
 | non =>
   simp only [RD] at hx; subst hx; cases ru
   cases e with
   | dk _ _ => simp [D.pl] at hpe
   | dt _ _ => simp [D.pl] at hpe
   | dn _ _ => simp [D.pl] at hpe
   | scr _ => simp [D.pl] at hpe
   | exc _ => simp [D.pl] at hpe
   | non => simp only [RD] at hy; subst hy; cases rv; exact .none_none
   | bl b => simp only [RD] at hy; subst hy; cases rv; exact .none_bool _
   | int b => simp only [RD] at hy; subst hy; obtain ⟨t, rfl⟩ := rv; exact .none_int _ _
   | str b => simp only [RD] at hy; subst hy; obtain ⟨t, rfl⟩ := rv; exact .none_str _ _
   | tup es => simp only [RD] at hy; obtain ⟨a, ys, rfl, h1, _⟩ := hy; cases rv; obtain ⟨its, _, t⟩ := I.tupA h1; exact .none_tuple t hu'
   | lst es => simp only [RD] at hy; obtain ⟨a, ys, rfl, h1, _⟩ := hy; cases rv; obtain ⟨its, _, t⟩ := I.lstA h1; exact .none_list t hu'
 | bl c =>
   simp only [RD] at hx; subst hx; cases ru
   cases e with
   | dk _ _ => simp [D.pl] at hpe
   | dt _ _ => simp [D.pl] at hpe
   | dn _ _ => simp [D.pl] at hpe
   | scr _ => simp [D.pl] at hpe
   | exc _ => simp [D.pl] at hpe
   | non => simp only [RD] at hy; subst hy; cases rv; exact .bool_none _
   | bl b => simp only [RD] at hy; subst hy; cases rv; exact .bool_bool _ _
   | int b => simp only [RD] at hy; subst hy; obtain ⟨t, rfl⟩ := rv; exact .bool_int _ _ _
   | str b => simp only [RD] at hy; subst hy; obtain ⟨t, rfl⟩ := rv; exact .bool_str _ _ _
   | tup es => simp only [RD] at hy; obtain ⟨a, ys, rfl, h1, _⟩ := hy; cases rv; obtain ⟨its, _, t⟩ := I.tupA h1; exact .bool_tuple _ t hu'
   | lst es => simp only [RD] at hy; obtain ⟨a, ys, rfl, h1, _⟩ := hy; cases rv; obtain ⟨its, _, t⟩ := I.lstA h1; exact .bool_list _ t hu'
 | int c =>
   simp only [RD] at hx; subst hx; obtain ⟨tt, rfl⟩ := ru
   cases e with
   | dk _ _ => simp [D.pl] at hpe
   | dt _ _ => simp [D.pl] at hpe
   | dn _ _ => simp [D.pl] at hpe
   | scr _ => simp [D.pl] at hpe
   | exc _ => simp [D.pl] at hpe
   | non => simp only [RD] at hy; subst hy; cases rv; exact .int_none _ _
   | bl b => simp only [RD] at hy; subst hy; cases rv; exact .int_bool _ _ _
   | int b => simp only [RD] at hy; subst hy; obtain ⟨t, rfl⟩ := rv; exact .int_int _ _ _ _
   | str b => simp only [RD] at hy; subst hy; obtain ⟨t, rfl⟩ := rv; exact .int_str _ _ _ _
   | tup es => simp only [RD] at hy; obtain ⟨a, ys, rfl, h1, _⟩ := hy; cases rv; obtain ⟨its, _, t⟩ := I.tupA h1; exact .int_tuple _ _ t hu'
   | lst es => simp only [RD] at hy; obtain ⟨a, ys, rfl, h1, _⟩ := hy; cases rv; obtain ⟨its, _, t⟩ := I.lstA h1; exact .int_list _ _ t hu'
 | str c =>
   simp only [RD] at hx; subst hx; obtain ⟨tt, rfl⟩ := ru
   cases e with
   | dk _ _ => simp [D.pl] at hpe
   | dt _ _ => simp [D.pl] at hpe
   | dn _ _ => simp [D.pl] at hpe
   | scr _ => simp [D.pl] at hpe
   | exc _ => simp [D.pl] at hpe
   | non => simp only [RD] at hy; subst hy; cases rv; exact .str_none _ _
   | bl b => simp only [RD] at hy; subst hy; cases rv; exact .str_bool _ _ _
   | int b => simp only [RD] at hy; subst hy; obtain ⟨t, rfl⟩ := rv; exact .str_int _ _ _ _
   | str b => simp only [RD] at hy; subst hy; obtain ⟨t, rfl⟩ := rv; exact .str_str _ _ _ _
   | tup es => simp only [RD] at hy; obtain ⟨a, ys, rfl, h1, _⟩ := hy; cases rv; obtain ⟨its, _, t⟩ := I.tupA h1; exact .str_tuple _ _ t hu'
   | lst es => simp only [RD] at hy; obtain ⟨a, ys, rfl, h1, _⟩ := hy; cases rv; obtain ⟨its, _, t⟩ := I.lstA h1; exact .str_list _ _ t hu'
 | tup ds =>
   simp only [RD] at hx; obtain ⟨a, xs, rfl, h1, hxs⟩ := hx; cases ru
   obtain ⟨its, r, t⟩ := I.tupA h1
   cases e with
   | dk _ _ => simp [D.pl] at hpe
   | dt _ _ => simp [D.pl] at hpe
   | dn _ _ => simp [D.pl] at hpe
   | scr _ => simp [D.pl] at hpe
   | exc _ => simp [D.pl] at hpe
   | non => simp only [RD] at hy; subst hy; cases rv; exact .tuple_none t hu'
   | bl b => simp only [RD] at hy; subst hy; cases rv; exact .tuple_bool _ t hu'
   | int b => simp only [RD] at hy; subst hy; obtain ⟨tk, rfl⟩ := rv; exact .tuple_int _ _ t hu'
   | str b => simp only [RD] at hy; subst hy; obtain ⟨tk, rfl⟩ := rv; exact .tuple_str _ _ t hu'
   | tup es =>
     simp only [RD] at hy; obtain ⟨b, ys, rfl, h2, hys⟩ := hy; cases rv
     obtain ⟨its2, r2, t2⟩ := I.tupA h2
     have q := SeqAt.RcNeAt.tuples t t2 hu' (e := fun j => eqD (ds.getD j .non) (es.getD j .non)) (zd7 I hu (by simpa only [D.pl] using hpd) (by simpa only [D.pl] using hpe) (by simp only [D.dep] at hn; omega) hxs hys r r2)
     rw [z15a hxs hys r r2] at q
     exact q
   | lst es =>
     simp only [RD] at hy; obtain ⟨b, ys, rfl, h2, hys⟩ := hy; cases rv
     obtain ⟨its2, r2, t2⟩ := I.lstA h2
     exact .tuple_list t t2 hu'
 | lst ds =>
   simp only [RD] at hx; obtain ⟨a, xs, rfl, h1, hxs⟩ := hx; cases ru
   obtain ⟨its, r, t⟩ := I.lstA h1
   cases e with
   | dk _ _ => simp [D.pl] at hpe
   | dt _ _ => simp [D.pl] at hpe
   | dn _ _ => simp [D.pl] at hpe
   | scr _ => simp [D.pl] at hpe
   | exc _ => simp [D.pl] at hpe
   | non => simp only [RD] at hy; subst hy; cases rv; exact .list_none t hu'
   | bl b => simp only [RD] at hy; subst hy; cases rv; exact .list_bool _ t hu'
   | int b => simp only [RD] at hy; subst hy; obtain ⟨tk, rfl⟩ := rv; exact .list_int _ _ t hu'
   | str b => simp only [RD] at hy; subst hy; obtain ⟨tk, rfl⟩ := rv; exact .list_str _ _ t hu'
   | tup es =>
     simp only [RD] at hy; obtain ⟨b, ys, rfl, h2, hys⟩ := hy; cases rv
     obtain ⟨its2, r2, t2⟩ := I.tupA h2
     exact .list_tuple t t2 hu'
   | lst es =>
     simp only [RD] at hy; obtain ⟨b, ys, rfl, h2, hys⟩ := hy; cases rv
     obtain ⟨its2, r2, t2⟩ := I.lstA h2
     have lx := hxs.length; have ly := hys.length; have l1 := r.length; have l2 := r2.length
     by_cases hl : ds.length = es.length
     . have hsz : its.toArray.size = its2.toArray.size := by simp; omega
       have q := SeqAt.RcNeAt.lists t t2 hsz hu' (e := fun j => eqD (ds.getD j .non) (es.getD j .non)) (zd7 I hu (by simpa only [D.pl] using hpd) (by simpa only [D.pl] using hpe) (by simp only [D.dep] at hn; omega) hxs hys r r2)
       rw [z15b hxs hys r r2 hl] at q
       exact q
     . have q := SeqAt.RcNeAt.lists_lengths t t2 (by simp; omega) hu'
       have : eqD (.lst ds) (.lst es) = false := by simp only [eqD]; exact z5a hl
       rw [this]
       exact q
end
section
variable {X : Cx}
open Classical in
noncomputable def hitD (K : PySem.W.Frag) (H : Hp) (d : D) (u : Value) : Bool := match absV u with
 | some v => decide (∃ e, e.pl = true ∧ RD K H e v ∧ eqD e d = true)
 | none => false
open Classical in
theorem z15c {K : PySem.W.Frag} {H : Hp} {d e : D} {y : V} {u : Value} (pe : e.pl = true) (r : RelV y u) (h : RD K H e y) : hitD K H d u = eqD e d := by
 unfold hitD
 rw [r.abs]
 dsimp only
 rw [Bool.eq_iff_iff]
 rw [decide_eq_true_iff]
 exact ⟨fun ⟨e', p', h', q⟩ => by rw [RD.inj pe p' h h']; exact q, fun q => ⟨e, pe, h, q⟩⟩
theorem z6c {K : PySem.W.Frag} {H : Hp} {d : D} : ∀ {es : List D} {xs : List V} {us : List Value}, pls es = true → RDs K H es xs → Vals xs us → us.any (hitD K H d) = es.any fun e => eqD e d
 | [], _, _, _, h, r => by
   simp only [RDs] at h; subst h; cases r; rfl
 | e :: es, _, _, p, h, r => by
   simp only [RDs] at h
   simp only [pls, Bool.and_eq_true] at p
   obtain ⟨x, xs, rfl, h1, h2⟩ := h
   cases r with
   | cons r1 r2 => rw [List.any_cons, List.any_cons, z15c p.1 r1 h1, z6c p.2 h2 r2]
theorem za5 {A : Around} {pins : List (Addr × Obj)} {σ : St} {H : Hp} {s : Shared} (I : Inv X pins σ H s) (hu : A.units + 1 + 20 < cLine) {d : D} {x : V} {v : Value} (pd : d.pl = true) (hx : RD X.K H d x) (rx : RelV x v) : ∀ {es : List D} {xs : List V} {us : List Value},
   pls es = true → RDs X.K H es xs → Vals xs us → deps es ≤ 20 → ∀ u ∈ us, SeqAt.EqAt A.in1 s u v (hitD X.K H d u)
 | [], _, _, _, h, r, _ => by
   simp only [RDs] at h; subst h; cases r
   intro u hu; cases hu
 | e :: es, _, _, p, h, r, hd => by
   simp only [RDs] at h
   simp only [pls, Bool.and_eq_true] at p
   obtain ⟨y, xs, rfl, h1, h2⟩ := h
   simp only [deps] at hd
   cases r with
   | cons r1 r2 =>
     intro u hm
     rcases List.mem_cons.mp hm with z | hm
     . subst z
       rw [z15c p.1 r1 h1]
       exact eqAt_D I 20 p.1 pd (by omega) (by show A.units + 1 + 20 < cLine; omega) h1 hx r1 rx
     . exact za5 I hu pd hx rx p.2 h2 r2 (by omega) u hm
end
structure Ex where
 cls : String
 fs : List D
inductive R (α : Type) where
 | ok (a : α) | er (x : Ex) | st
def R.bind {α β : Type} (r : R α) (f : α → R β) : R β := match r with
 | .ok a => f a
 | .er x => .er x
 | .st => .st
def Rk {α : Type} (EX : Ex → Prop) (r : R α) (k : α → Prop) : Prop := match r with
 | .ok a => k a
 | .er x => EX x
 | .st => False
section
variable {α β : Type} {EX : Ex → Prop}
def R.of (o : Option α) : R α := match o with
 | some a => .ok a
 | none => .st
theorem R.of_some (a : α) : R.of (some a) = R.ok a := rfl
theorem Rk.of {o : Option α} {k : α → Prop} (h : Rk EX (R.of o) k) : ∃ a, o = some a ∧ k a := by
 cases o with
 | none => exact h.elim
 | some a => exact ⟨a, rfl, h⟩
theorem R.bind_ok (a : α) (f : α → R β) : (R.ok a).bind f = f a := rfl
theorem Rk.bind {r : R α} {f : α → R β} {k : β → Prop} : Rk EX (r.bind f) k = Rk EX r fun a => Rk EX (f a) k := by cases r <;> rfl
theorem Rk.mono {r : R α} {k k' : α → Prop} (h : Rk EX r k) (hk : ∀ a, k a → k' a) : Rk EX r k' := by
 cases r with
 | ok a => exact hk a h
 | er x => exact h
 | st => exact h
end
def Ext (H0 H H0' H' : Hp) : Prop := Same H0 H0' ∧ Same H0' H' ∧ ∀ a, H a ≠ none → H0 a = none → H0' a = none
theorem Ext.refl {H0 H : Hp} (h : Same H0 H) : Ext H0 H H0 H := ⟨Same.refl _, h, fun _ _ e => e⟩
theorem za6 {α : Type} {o : Option α} {x : α} (h : o = some x) : o ≠ none := by rw [h]; exact fun z => nomatch z
theorem Same.ne {H H' : Hp} (h : Same H H') {a : Addr} (n : H a ≠ none) : H' a ≠ none := by
 cases e : H a with
 | none => exact absurd e n
 | some o => exact za6 (h a o e)
theorem Ext.trans {H0 H H0' H' H0'' H'' : Hp} (s : Same H H') (a : Ext H0 H H0' H') (b : Ext H0' H' H0'' H'') : Ext H0 H H0'' H'' :=
 ⟨a.1.trans b.1, b.2.1, fun c h1 h2 => b.2.2 c (s.ne h1) (a.2.2 c h1 h2)⟩
theorem Ext.grow {H0 H H0' H' H'' : Hp} (a : Ext H0 H H0' H') (s : Same H' H'') : Ext H0 H H0' H'' := ⟨a.1, a.2.1.trans s, a.2.2⟩
theorem Ext.new {H0 H : Hp} {p : Addr} {o : HO} (h : Same H0 H) (hp : H p = none) : Ext H0 H (upd H0 p o) (upd H p o) := by
 have h0 : H0 p = none := by
   cases e : H0 p with
   | none => rfl
   | some u => rw [h p u e] at hp; cases hp
 refine ⟨Same.upd_new h0, fun b u e => ?_, fun a h1 h2 => ?_⟩
 . by_cases hb : b = p
   . subst hb; rw [z8] at e ⊢; exact e
   . rw [upd_ne hb] at e ⊢; exact h b u e
 . have ha : a ≠ p := fun z => h1 (by rw [z]; exact hp)
   rw [upd_ne ha]; exact h2
def OB (K : PySem.W.Frag) (H0 H : Hp) (a : Addr) : D → Prop
 | .lst ds => ∃ xs, H a = some (.lst xs) ∧ RDs K H0 ds xs
 | .dk ks ds => ∃ xs, H a = some (.dK (ks.zip xs)) ∧ ks.length = xs.length ∧ RDs K H0 ds xs
 | .dt ks ds => ∃ xs, H a = some (.dT (ks.zip xs)) ∧ ks.length = xs.length ∧ RDs K H0 ds xs
 | .dn ks ds => ∃ qs xs, H a = some (.ext (dnP a qs xs)) ∧ qs.map (·.1) = ks ∧ DN H0 a qs ∧ RDs K H0 ds xs
 | _ => False
section
variable {K : PySem.W.Frag} {H0 H H0' H' : Hp} {a : Addr} {d : D}
theorem OB.some (h : OB K H0 H a d) : ∃ o, H a = some o ∧ ¬ Imm o := by
 cases d <;> simp only [OB] at h
 . obtain ⟨xs, h, _⟩ := h; exact ⟨_, h, fun z => z⟩
 . obtain ⟨xs, h, _⟩ := h; exact ⟨_, h, fun z => z⟩
 . obtain ⟨xs, h, _⟩ := h; exact ⟨_, h, fun z => z⟩
 . obtain ⟨qs, xs, h, _⟩ := h; exact ⟨_, h, fun z => z _ _ _ rfl⟩
theorem OB.mono (h : OB K H0 H a d) (s0 : Same H0 H0') (s : Same H H') : OB K H0' H' a d := by
 cases d <;> simp only [OB] at h ⊢
 . obtain ⟨xs, h, r⟩ := h; exact ⟨_, s _ _ h, r.mono s0⟩
 . obtain ⟨xs, h, l, r⟩ := h; exact ⟨_, s _ _ h, l, r.mono s0⟩
 . obtain ⟨xs, h, l, r⟩ := h; exact ⟨_, s _ _ h, l, r.mono s0⟩
 . obtain ⟨qs, xs, h, k, n, r⟩ := h; exact ⟨qs, xs, s _ _ h, k, n.tk fun b ys q => s0 _ _ q, r.mono s0⟩
theorem OB.at (h : OB K H0 H a d) (e : H' a = H a) : OB K H0 H' a d := by
 cases d <;> simp only [OB] at h ⊢
 . obtain ⟨xs, h, r⟩ := h; exact ⟨_, e.trans h, r⟩
 . obtain ⟨xs, h, l, r⟩ := h; exact ⟨_, e.trans h, l, r⟩
 . obtain ⟨xs, h, l, r⟩ := h; exact ⟨_, e.trans h, l, r⟩
 . obtain ⟨qs, xs, h, k, n, r⟩ := h; exact ⟨qs, xs, e.trans h, k, n, r⟩
theorem OB.tk (h : OB K H0 H a d) (n : d.shal = true) (t : TK H0 H0') : OB K H0' H a d := by
 cases d <;> simp only [OB, D.shal] at h n ⊢
 . obtain ⟨xs, h, r⟩ := h; exact ⟨_, h, r.tk t n⟩
 . obtain ⟨xs, h, l, r⟩ := h; exact ⟨_, h, l, r.tk t n⟩
 . obtain ⟨xs, h, l, r⟩ := h; exact ⟨_, h, l, r.tk t n⟩
 . obtain ⟨qs, xs, h, k, m, r⟩ := h; exact ⟨qs, xs, h, k, m.tk fun b ys q => t _ _ trivial q, r.tk t n⟩
theorem OB.rd (h : OB K H0 H a d) (s0 : Same H0 H0') (e : H0' a = H a) : RD K H0' d (.ref a) := by
 cases d <;> simp only [OB, RD] at h ⊢
 . obtain ⟨xs, h, r⟩ := h; exact ⟨_, _, rfl, e.trans h, r.mono s0⟩
 . obtain ⟨xs, h, l, r⟩ := h; exact ⟨_, _, rfl, e.trans h, l, r.mono s0⟩
 . obtain ⟨xs, h, l, r⟩ := h; exact ⟨_, _, rfl, e.trans h, l, r.mono s0⟩
 . obtain ⟨qs, xs, h, k, n, r⟩ := h; exact ⟨_, qs, xs, rfl, e.trans h, k, n.tk fun b ys q => s0 _ _ q, r.mono s0⟩
end
def Out (K : PySem.W.Frag) (fr : Bool) (H0 H : Hp) (d : D) (v : V) (H' : Hp) : Prop :=
 Same H H' ∧ ∃ H0', Ext H0 H H0' H' ∧ (if fr = true then ∃ p, v = .ref p ∧ H p = none ∧ H0' p = none ∧ OB K H0' H' p d else RD K H0' d v)
section
variable {K : PySem.W.Frag} {fr : Bool} {H0 H H0' H' : Hp} {d : D} {v : V}
theorem Out.val (s : Same H H') (e : Ext H0 H H0' H') (r : RD K H0' d v) : Out K false H0 H d v H' := ⟨s, H0', e, by rw [if_neg Bool.false_ne_true]; exact r⟩
theorem Out.pure (s : Same H0 H) (r : RD K H0 d v) : Out K false H0 H d v H := .val (Same.refl _) (.refl s) r
theorem Out.fresh {p : Addr} (s : Same H H') (e : Ext H0 H H0' H') (hp : H p = none) (hp0 : H0' p = none) (o : OB K H0' H' p d) : Out K true H0 H d (.ref p) H' := ⟨s, H0', e, by rw [if_pos rfl]; exact ⟨p, rfl, hp, hp0, o⟩⟩
theorem Out.rd (o : Out K false H0 H d v H') : Same H H' ∧ ∃ H0', Ext H0 H H0' H' ∧ RD K H0' d v := by
 obtain ⟨s, H0', e, r⟩ := o
 rw [if_neg Bool.false_ne_true] at r
 exact ⟨s, H0', e, r⟩
theorem Out.weak (o : Out K fr H0 H d v H') : Out K false H0 H d v H' := by
 cases fr with
 | false => exact o
 | true =>
   obtain ⟨s, H0', e, r⟩ := o
   rw [if_pos rfl] at r
   obtain ⟨p, rfl, hp, hp0, ob⟩ := r
   obtain ⟨u, hu, _⟩ := ob.some
   have e2 : Ext H0 H (upd H0' p u) H' := by
     refine ⟨e.1.trans (Same.upd_new hp0), fun b w q => ?_, fun a h1 h2 => ?_⟩
     . by_cases hb : b = p
       . subst hb; rw [z8] at q; cases q; exact hu
       . rw [upd_ne hb] at q; exact e.2.1 b w q
     . rw [upd_ne (fun z => h1 (by rw [z]; exact hp))]; exact e.2.2 a h1 h2
   exact .val s e2 (ob.rd (Same.upd_new hp0) (by rw [z8, hu]))
theorem Out.after {H1 H1' : Hp} (s : Same H H1) (e : Ext H0 H H1' H1) (o : Out K fr H1' H1 d v H') : Out K fr H0 H d v H' := by
 obtain ⟨s', H0', e', r⟩ := o
 refine ⟨s.trans s', H0', e.trans s e', ?_⟩
 cases fr with
 | false => exact r
 | true =>
   rw [if_pos rfl] at r ⊢
   obtain ⟨p, rfl, hp, r⟩ := r
   refine ⟨p, rfl, ?_, r⟩
   cases q : H p with
   | none => rfl
   | some u => rw [s p u q] at hp; cases hp
end
abbrev DE := List (Option D)
def RE (K : PySem.W.Frag) (H : Hp) (ρ : DE) (σ : St) : Prop := ρ.length = σ.length ∧ ∀ (i : Nat) d, ρ[i]? = some (some d) → ∃ v, σ[i]? = some (some v) ∧ RD K H d v
theorem RE.mono {K : PySem.W.Frag} {H H' : Hp} {ρ : DE} {σ : St} (h : RE K H ρ σ) (s : Same H H') : RE K H' ρ σ := ⟨h.1, fun i d e => by
 obtain ⟨v, h1, h2⟩ := h.2 i d e
 exact ⟨v, h1, h2.mono s⟩⟩
structure XW where
 hb : Hp
 p : Ex → Hp → Prop
abbrev F0 : XW := ⟨fun _ => none, fun _ _ => False⟩
theorem F0.same (H : Hp) : Same F0.hb H := fun _ _ z => nomatch z
def XW.at (W : XW) (x : Ex) : Prop := ∀ H', Same W.hb H' → W.p x H'
def TEd (K : PySem.W.Frag) (EX : XW) (fr : Bool) (f : DE → R D) : TE := fun σ H Q => Same EX.hb H ∧ ∃ ρ H0, Same H0 H ∧ RE K H0 ρ σ ∧ Rk EX.at (f ρ) fun d => ∀ v H', Out K fr H0 H d v H' → Q v H'
def TAd (K : PySem.W.Frag) (EX : XW) (f : DE → R (List D)) : TA := fun σ H Q => Same EX.hb H ∧ ∃ ρ H0, Same H0 H ∧ RE K H0 ρ σ ∧ Rk EX.at (f ρ) fun ds => ∀ vs H' H0', Same H H' → Ext H0 H H0' H' → RDs K H0' ds vs → Q vs H'
def TTd (K : PySem.W.Frag) (EX : XW) (f : DE → R Bool) : TT := fun σ H Q => Same EX.hb H ∧ ∃ ρ H0, Same H0 H ∧ RE K H0 ρ σ ∧ Rk EX.at (f ρ) fun b => ∀ H', Same H H' → Q b H'
def eVar (i : Nat) : DE → R D := fun ρ => match ρ[i]? with | some (some d) => .ok d | _ => .st
def eC (d : D) : DE → R D := fun _ => .ok d
def eOp (o : D → D → Option D) (fa fb : DE → R D) : DE → R D := fun ρ => (fa ρ).bind fun x => (fb ρ).bind fun y => R.of (o x y)
def eUn (o : D → Option D) (fa : DE → R D) : DE → R D := fun ρ => (fa ρ).bind fun x => R.of (o x)
def eNil : DE → R (List D) := fun _ => .ok []
def eCons (f : DE → R D) (fs : DE → R (List D)) : DE → R (List D) := fun ρ => (f ρ).bind fun d => (fs ρ).bind fun ds => .ok (d :: ds)
def eCall (m : List D → R D) (fs : DE → R (List D)) : DE → R D := fun ρ => (fs ρ).bind m
def eCB (m : List D → Option D) (fs : DE → R (List D)) : DE → R D := fun ρ => (fs ρ).bind fun ds => R.of (m ds)
def eTup (fs : DE → R (List D)) : DE → R D := fun ρ => (fs ρ).bind fun ds => if ds.length ≤ 1000 then .ok (.tup ds) else .st
def eLst (fs : DE → R (List D)) : DE → R D := fun ρ => (fs ρ).bind fun ds => if ds.length ≤ 1000 then .ok (.lst ds) else .st
def eIf (t : DE → R Bool) (fa fb : DE → R D) : DE → R D := fun ρ => (t ρ).bind fun b => if b = true then fa ρ else fb ρ
def bAnd (t u : DE → R Bool) : DE → R Bool := fun ρ => (t ρ).bind fun b => if b = true then u ρ else .ok false
def bOr (t u : DE → R Bool) : DE → R Bool := fun ρ => (t ρ).bind fun b => if b = true then .ok true else u ρ
def bNot (t : DE → R Bool) : DE → R Bool := fun ρ => (t ρ).bind fun b => .ok (!b)
def asB : D → Option Bool
 | .bl b => some b
 | _ => none
def bVal (tr : D → Option Bool) (f : DE → R D) : DE → R Bool := fun ρ => (f ρ).bind fun d => R.of (tr d)
def eAnd (fa fb : DE → R D) : DE → R D := fun ρ => (fa ρ).bind fun x => (R.of (asB x)).bind fun b => if b = true then fb ρ else .ok (.bl false)
def eOr (fa fb : DE → R D) : DE → R D := fun ρ => (fa ρ).bind fun x => (R.of (asB x)).bind fun b => if b = true then .ok (.bl true) else fb ρ
def OpD (K : PySem.W.Frag) (fr : Bool) (o : D → D → Option D) (r : R2) : Prop := ∀ (H0 H : Hp) (x y : V) (d e z : D) (Q : VK), Same H0 H → RD K H0 d x → RD K H0 e y → o d e = some z → (∀ v H', Out K fr H0 H z v H' → Q v H') → r x y H Q
def UnD (K : PySem.W.Frag) (fr : Bool) (o : D → Option D) (r : V → Hp → VK → Prop) : Prop := ∀ (H0 H : Hp) (x : V) (d z : D) (Q : VK), Same H0 H → RD K H0 d x → o d = some z → (∀ v H', Out K fr H0 H z v H' → Q v H') → r x H Q
def CallD (K : PySem.W.Frag) (fr : Bool) (m : List D → Option D) (r : List V → Hp → VK → Prop) : Prop := ∀ (H0 H : Hp) (xs : List V) (ds : List D) (z : D) (Q : VK), Same H0 H → RDs K H0 ds xs → m ds = some z → (∀ v H', Out K fr H0 H z v H' → Q v H') → r xs H Q
def TruD (K : PySem.W.Frag) (tr : D → Option Bool) (r : V → Hp → (Bool → Hp → Prop) → Prop) : Prop := ∀ (H0 H : Hp) (x : V) (d : D) (b : Bool) (Q : Bool → Hp → Prop), Same H0 H → RD K H0 d x → tr d = some b → Q b H → r x H Q
section
variable {K : PySem.W.Frag} {EX : XW} {fr : Bool} {σ : St} {H : Hp} {Q : VK}
theorem TEd.go {f : DE → R D} {ρ : DE} {H0 : Hp} {k : D → Prop} (sx : Same EX.hb H) (s : Same H0 H) (e : RE K H0 ρ σ) (h : Rk EX.at (f ρ) k) (hk : ∀ d, k d → ∀ v H' H0', Same H H' → Ext H0 H H0' H' → RD K H0' d v → Q v H') : TEd K EX false f σ H Q :=
 ⟨sx, ρ, H0, s, e, h.mono fun d z v H' o => by
   obtain ⟨s', H0', e', r⟩ := o.rd
   exact hk d z v H' H0' s' e' r⟩
theorem TAd.go {f : DE → R (List D)} {ρ : DE} {H0 : Hp} {k : List D → Prop} {Q : List V → Hp → Prop} (sx : Same EX.hb H) (s : Same H0 H) (e : RE K H0 ρ σ) (h : Rk EX.at (f ρ) k) (hk : ∀ d, k d → ∀ v H' H0', Same H H' → Ext H0 H H0' H' → RDs K H0' d v → Q v H') : TAd K EX f σ H Q :=
 ⟨sx, ρ, H0, s, e, h.mono fun d z v H' H0' s' e' r => hk d z v H' H0' s' e' r⟩
theorem TTd.go {f : DE → R Bool} {ρ : DE} {H0 : Hp} {k : Bool → Prop} {Q : Bool → Hp → Prop} (sx : Same EX.hb H) (s : Same H0 H) (e : RE K H0 ρ σ) (h : Rk EX.at (f ρ) k) (hk : ∀ b, k b → ∀ H', Same H H' → Q b H') : TTd K EX f σ H Q :=
 ⟨sx, ρ, H0, s, e, h.mono fun b z H' s' => hk b z H' s'⟩
theorem TEd.weak {f : DE → R D} (h : TEd K EX false f σ H Q) : TEd K EX fr f σ H Q := by
 obtain ⟨sx, ρ, H0, s, e, h⟩ := h
 exact ⟨sx, ρ, H0, s, e, h.mono fun d z v H' o => z v H' o.weak⟩
theorem d_var {i : Nat} (h : TEd K EX false (eVar i) σ H Q) : ∃ v, σ[i]? = some (some v) ∧ Q v H := by
 obtain ⟨sx, ρ, H0, s, e, h⟩ := h
 unfold eVar at h
 split at h
 . rename_i d q
   obtain ⟨v, h1, h2⟩ := e.2 i d q
   exact ⟨v, h1, h v H (.pure s h2)⟩
 . exact h.elim
theorem z15d {d : D} {v : V} (hd : ∀ H0, RD K H0 d v) (h : TEd K EX false (eC d) σ H Q) : tC v σ H Q := by
 obtain ⟨sx, ρ, H0, s, e, h⟩ := h
 exact h v H (.pure s (hd _))
theorem d_op {o : D → D → Option D} {r : R2} {fa fb : DE → R D} (ho : OpD K fr o r) (h : TEd K EX fr (eOp o fa fb) σ H Q) : tOp r (TEd K EX false fa) (TEd K EX false fb) σ H Q := by
 obtain ⟨sx, ρ, H0, s, e, h⟩ := h
 unfold eOp at h
 rw [Rk.bind] at h
 refine TEd.go sx s e h fun d h v H1 H1' s1 e1 r1 => ?_
 rw [Rk.bind] at h
 refine TEd.go (sx.trans s1) e1.2.1 (e.mono e1.1) h fun d2 h v2 H2 H2' s2 e2 r2 => ?_
 obtain ⟨z, hz, h⟩ := h.of
 exact ho H2' H2 v v2 d d2 z Q e2.2.1 (r1.mono e2.1) r2 hz fun w H3 o => h w H3 (o.after (s1.trans s2) (e1.trans s1 e2))
theorem d_un {o : D → Option D} {r : V → Hp → VK → Prop} {fa : DE → R D} (ho : UnD K fr o r) (h : TEd K EX fr (eUn o fa) σ H Q) : tUn r (TEd K EX false fa) σ H Q := by
 obtain ⟨sx, ρ, H0, s, e, h⟩ := h
 unfold eUn at h
 rw [Rk.bind] at h
 refine TEd.go sx s e h fun d h v H1 H1' s1 e1 r1 => ?_
 obtain ⟨z, hz, h⟩ := h.of
 exact ho H1' H1 v d z Q e1.2.1 r1 hz fun w H3 o => h w H3 (o.after s1 e1)
theorem d_nil {Q : List V → Hp → Prop} (h : TAd K EX eNil σ H Q) : tNil σ H Q := by
 obtain ⟨sx, ρ, H0, s, e, h⟩ := h
 exact h [] H H0 (Same.refl _) (.refl s) .nil
theorem d_cons {Q : List V → Hp → Prop} {f : DE → R D} {fs : DE → R (List D)} (h : TAd K EX (eCons f fs) σ H Q) : tCons (TEd K EX false f) (TAd K EX fs) σ H Q := by
 obtain ⟨sx, ρ, H0, s, e, h⟩ := h
 unfold eCons at h
 rw [Rk.bind] at h
 refine TEd.go sx s e h fun d h v H1 H1' s1 e1 r1 => ?_
 rw [Rk.bind] at h
 refine TAd.go (sx.trans s1) e1.2.1 (e.mono e1.1) h fun ds h vs H2 H2' s2 e2 r2 => ?_
 exact h (v :: vs) H2 H2' (s1.trans s2) (e1.trans s1 e2) (.cons (r1.mono e2.1) r2)
theorem d_cb {m : List D → Option D} {r : List V → Hp → VK → Prop} {fs : DE → R (List D)} (hm : CallD K fr m r) (h : TEd K EX fr (eCB m fs) σ H Q) : tCB r (TAd K EX fs) σ H Q := by
 obtain ⟨sx, ρ, H0, s, e, h⟩ := h
 unfold eCB at h
 rw [Rk.bind] at h
 refine TAd.go sx s e h fun ds h vs H1 H1' s1 e1 r1 => ?_
 obtain ⟨z, hz, h⟩ := h.of
 exact hm H1' H1 vs ds z Q e1.2.1 r1 hz fun w H3 o => h w H3 (o.after s1 e1)
theorem z15e {n : Nat} (h : n ≤ 1000) : n ≤ sizeLine := Nat.le_trans h (by decide)
theorem d_tup {fs : DE → R (List D)} (h : TEd K EX false (eTup fs) σ H Q) : tTup (TAd K EX fs) σ H Q := by
 obtain ⟨sx, ρ, H0, s, e, h⟩ := h
 unfold eTup at h
 rw [Rk.bind] at h
 refine TAd.go sx s e h fun ds h vs H1 H1' s1 e1 r1 => ?_
 split at h
 . rename_i hl
   refine ⟨z15e (by rw [← r1.length]; exact hl), fun p hp => h _ _ (.val (s1.trans (Same.upd_new hp)) (e1.trans s1 (.new e1.2.1 hp)) ?_)⟩
   have h1p : H1' p = none := by
     cases q : H1' p with
     | none => rfl
     | some u => rw [e1.2.1 p u q] at hp; cases hp
   simp only [RD]
   exact ⟨p, vs, rfl, z8, r1.mono (Same.upd_new h1p)⟩
 . exact h.elim
theorem Same.none {H H' : Hp} (s : Same H H') {p : Addr} (h : H' p = none) : H p = none := by
 cases q : H p with
 | none => rfl
 | some u => rw [s p u q] at h; cases h
theorem Out.new {H0 H : Hp} {d : D} {p : Addr} {o : HO} (s : Same H0 H) (hp : H p = none) (hob : ∀ H', H' p = some o → OB K H0 H' p d) : Out K true H0 H d (.ref p) (upd H p o) :=
 .fresh (Same.upd_new hp) ((Ext.refl s).grow (Same.upd_new hp)) hp (s.none hp) (hob _ z8)
theorem d_lst {fs : DE → R (List D)} (h : TEd K EX true (eLst fs) σ H Q) : tLst (TAd K EX fs) σ H Q := by
 obtain ⟨sx, ρ, H0, s, e, h⟩ := h
 unfold eLst at h
 rw [Rk.bind] at h
 refine TAd.go sx s e h fun ds h vs H1 H1' s1 e1 r1 => ?_
 split at h
 . rename_i hl
   refine ⟨z15e (by rw [← r1.length]; exact hl), fun p hp => h _ _ (Out.after s1 e1 (.new e1.2.1 hp fun H' hH => ?_))⟩
   simp only [OB]
   exact ⟨vs, hH, r1⟩
 . exact h.elim
theorem d_band {t u : DE → R Bool} {Q : Bool → Hp → Prop} (h : TTd K EX (bAnd t u) σ H Q) : tAnd (TTd K EX t) (TTd K EX u) σ H Q := by
 obtain ⟨sx, ρ, H0, s, e, h⟩ := h
 unfold bAnd at h
 rw [Rk.bind] at h
 refine TTd.go sx s e h fun b h H1 s1 => ?_
 cases b with
 | true => exact TTd.go (sx.trans s1) (s.trans s1) e h fun b h H' s' => h H' (s1.trans s')
 | false => exact h H1 s1
theorem d_bor {t u : DE → R Bool} {Q : Bool → Hp → Prop} (h : TTd K EX (bOr t u) σ H Q) : tOr (TTd K EX t) (TTd K EX u) σ H Q := by
 obtain ⟨sx, ρ, H0, s, e, h⟩ := h
 unfold bOr at h
 rw [Rk.bind] at h
 refine TTd.go sx s e h fun b h H1 s1 => ?_
 cases b with
 | true => exact h H1 s1
 | false => exact TTd.go (sx.trans s1) (s.trans s1) e h fun b h H' s' => h H' (s1.trans s')
theorem d_bnot {t : DE → R Bool} {Q : Bool → Hp → Prop} (h : TTd K EX (bNot t) σ H Q) : tNot (TTd K EX t) σ H Q := by
 obtain ⟨sx, ρ, H0, s, e, h⟩ := h
 unfold bNot at h
 rw [Rk.bind] at h
 exact TTd.go sx s e h fun b h H1 s1 => h H1 s1
end
def tTru (r : V → Hp → (Bool → Hp → Prop) → Prop) (t : TE) : TT := fun σ H Q => t σ H fun x H' => r x H' Q
def TChTd (K : PySem.W.Frag) (EX : XW) (g : D → DE → R Bool) : V → TT := fun x σ H Q => Same EX.hb H ∧ ∃ d ρ H0, Same H0 H ∧ RE K H0 ρ σ ∧ RD K H0 d x ∧ Rk EX.at (g d ρ) fun b => ∀ H', Same H H' → Q b H'
def cLast (o : D → D → Option D) (fb : DE → R D) : D → DE → R D := fun d ρ => (fb ρ).bind fun y => R.of (o d y)
def cLink (o : D → D → Option D) (fb : DE → R D) (g : D → DE → R D) : D → DE → R D := fun d ρ => (fb ρ).bind fun y => (R.of (o d y)).bind fun z => (R.of (asB z)).bind fun b => if b = true then g y ρ else .ok (.bl false)
def cLastT (o : D → D → Option D) (fb : DE → R D) : D → DE → R Bool := fun d ρ => (fb ρ).bind fun y => (R.of (o d y)).bind fun z => R.of (asB z)
def cLinkT (o : D → D → Option D) (fb : DE → R D) (g : D → DE → R Bool) : D → DE → R Bool := fun d ρ => (fb ρ).bind fun y => (R.of (o d y)).bind fun z => (R.of (asB z)).bind fun b => if b = true then g y ρ else .ok false
def eChn (fa : DE → R D) (g : D → DE → R D) : DE → R D := fun ρ => (fa ρ).bind fun x => g x ρ
def bChn (fa : DE → R D) (g : D → DE → R Bool) : DE → R Bool := fun ρ => (fa ρ).bind fun x => g x ρ
theorem z90 {d : D} {b : Bool} (h : asB d = some b) : d = .bl b := by
 cases d <;> simp [asB] at h
 subst h; rfl
theorem RD.bl {K : PySem.W.Frag} {H : Hp} {b : Bool} {v : V} (h : RD K H (.bl b) v) : v = .bl b := by simpa only [RD] using h
section
variable {K : PySem.W.Frag} {EX : XW} {fr : Bool} {σ : St} {H : Hp} {Q : VK} {QB : Bool → Hp → Prop}
theorem d_and {fa fb : DE → R D} (h : TEd K EX false (eAnd fa fb) σ H Q) : cAndV (TEd K EX false fa) (TEd K EX false fb) σ H Q := by
 obtain ⟨sx, ρ, H0, s, e, h⟩ := h
 unfold eAnd at h
 rw [Rk.bind] at h
 refine TEd.go sx s e h fun d h v H1 H1' s1 e1 r1 => ?_
 rw [Rk.bind] at h
 obtain ⟨b, hb, h⟩ := h.of
 cases z90 hb
 cases r1.bl
 cases b with
 | true => exact TEd.go (sx.trans s1) e1.2.1 (e.mono e1.1) h fun d h v H2 H2' s2 e2 r2 => h v H2 (.val (s1.trans s2) (e1.trans s1 e2) r2)
 | false => exact h _ H1 (.val s1 e1 (by simp only [RD]))
theorem d_tru {tr : D → Option Bool} {r : V → Hp → (Bool → Hp → Prop) → Prop} {fa : DE → R D} (ht : TruD K tr r) (h : TTd K EX (bVal tr fa) σ H QB) : tTru r (TEd K EX false fa) σ H QB := by
 obtain ⟨sx, ρ, H0, s, e, h⟩ := h
 unfold bVal at h
 rw [Rk.bind] at h
 refine TEd.go sx s e h fun d h v H1 H1' s1 e1 r1 => ?_
 obtain ⟨b, hb, h⟩ := h.of
 exact ht H1' H1 v d b QB e1.2.1 r1 hb (h H1 s1)
theorem d_notV {tr : D → Option Bool} {r : V → Hp → (Bool → Hp → Prop) → Prop} {fa : DE → R D} (ht : TruD K tr r) (h : TEd K EX false (eUn (fun d => (tr d).map fun b => .bl (!b)) fa) σ H Q) :
   (fun σ H Q => (TEd K EX false fa) σ H fun x H1 => r x H1 fun k H2 => Q (.bl (!k)) H2) σ H Q := by
 obtain ⟨sx, ρ, H0, s, e, h⟩ := h
 unfold eUn at h
 rw [Rk.bind] at h
 refine TEd.go sx s e h fun d h v H1 H1' s1 e1 r1 => ?_
 obtain ⟨z, hz, h⟩ := h.of
 have hz : (tr d).map (fun b => D.bl (!b)) = some z := hz
 cases hb : tr d with
 | none => rw [hb] at hz; cases hz
 | some b =>
   rw [hb] at hz; cases hz
   exact ht H1' H1 v d b _ e1.2.1 r1 hb (h _ H1 (.val s1 e1 (by simp only [RD])))
theorem d_cmp {o : D → D → Option D} {r : R2} {fa fb : DE → R D} (ho : OpD K false o r) (h : TTd K EX (bVal asB (eOp o fa fb)) σ H QB) : cTest (tOp r (TEd K EX false fa) (TEd K EX false fb)) σ H QB := by
 obtain ⟨sx, ρ, H0, s, e, h⟩ := h
 unfold bVal at h
 rw [Rk.bind] at h
 unfold cTest
 refine d_op (EX := EX) ho ⟨sx, ρ, H0, s, e, h.mono fun d h v H' o => ?_⟩
 obtain ⟨b, hb, h⟩ := h.of
 obtain ⟨s', H0', e', r'⟩ := o.rd
 cases z90 hb
 cases r'.bl
 exact h H' s'
theorem z1c4 {o : D → D → Option D} {r : R2} {fb : DE → R D} (ho : OpD K false o r) {x : V} (h : TChTd K EX (cLastT o fb) x σ H QB) : tLastT r (TEd K EX false fb) x σ H QB := by
 obtain ⟨sx, d, ρ, H0, s, e, rx, h⟩ := h
 unfold cLastT at h
 rw [Rk.bind] at h
 refine TEd.go sx s e h fun d2 h v2 H2 H2' s2 e2 r2 => ?_
 rw [Rk.bind] at h
 obtain ⟨z, hz, h⟩ := h.of
 obtain ⟨b, hb, h⟩ := h.of
 cases z90 hb
 refine ho H2' H2 x v2 d d2 _ _ e2.2.1 (rx.mono e2.1) r2 hz fun w H3 o => ?_
 obtain ⟨s3, H3', e3, r3⟩ := o.rd
 cases r3.bl
 exact h H3 (s2.trans s3)
theorem z1c5 {o : D → D → Option D} {r : R2} {fb : DE → R D} {g : D → DE → R Bool} (ho : OpD K false o r) {x : V} (h : TChTd K EX (cLinkT o fb g) x σ H QB) : tLinkT r (TEd K EX false fb) (TChTd K EX g) x σ H QB := by
 obtain ⟨sx, d, ρ, H0, s, e, rx, h⟩ := h
 unfold cLinkT at h
 rw [Rk.bind] at h
 refine TEd.go sx s e h fun d2 h v2 H2 H2' s2 e2 r2 => ?_
 rw [Rk.bind] at h
 obtain ⟨z, hz, h⟩ := h.of
 rw [Rk.bind] at h
 obtain ⟨b, hb, h9⟩ := h.of
 cases z90 hb
 refine ho H2' H2 x v2 d d2 _ _ e2.2.1 (rx.mono e2.1) r2 hz fun w H3 o => ?_
 obtain ⟨s3, H3', e3, r3⟩ := o.rd
 cases r3.bl
 clear h
 have h := h9
 cases b with
 | true => exact ⟨(sx.trans s2).trans s3, d2, ρ, H3', e3.2.1, e.mono (e2.1.trans e3.1), r2.mono e3.1, h.mono fun z h H' s' => h H' (s2.trans (s3.trans s'))⟩
 | false => exact h H3 (s2.trans s3)
theorem d_chnT {fa : DE → R D} {g : D → DE → R Bool} (h : TTd K EX (bChn fa g) σ H QB) : tChnT (TEd K EX false fa) (TChTd K EX g) σ H QB := by
 obtain ⟨sx, ρ, H0, s, e, h⟩ := h
 unfold bChn at h
 rw [Rk.bind] at h
 exact TEd.go sx s e h fun d h v H1 H1' s1 e1 r1 => ⟨sx.trans s1, d, ρ, H1', e1.2.1, e.mono e1.1, r1, h.mono fun z h H' s' => h H' (s1.trans s')⟩
end
inductive Sl where
 | em | im (d : D) | ow (d : D)
abbrev DS := List Sl
def Sl.see (b : Bool) : Sl → Option D
 | .em => none
 | .im d => some d
 | .ow d => if b = true then some d else none
def Sl.frz (b : Bool) : Sl → Sl
 | .ow d => if b = true then .im d else .ow d
 | s => s
def vis : List Bool → DS → DE
 | _, [] => []
 | [], s :: r => s.see false :: vis [] r
 | b :: m, s :: r => s.see b :: vis m r
def frz : List Bool → DS → DS
 | _, [] => []
 | [], s :: r => s :: r
 | b :: m, s :: r => s.frz b :: frz m r
theorem z108 : ∀ (m : List Bool) (ρ : DS) (i : Nat), (vis m ρ)[i]? = (ρ[i]?).map (Sl.see (m.getD i false))
 | [], [], i => by simp [vis]
 | _ :: _, [], i => by simp [vis]
 | [], s :: r, 0 => by simp [vis]
 | b :: m, s :: r, 0 => by simp [vis]
 | [], s :: r, i + 1 => by simpa [vis] using z108 [] r i
 | b :: m, s :: r, i + 1 => by simpa [vis] using z108 m r i
theorem z6d : ∀ (m : List Bool) (ρ : DS), (vis m ρ).length = ρ.length
 | [], [] => rfl
 | _ :: _, [] => rfl
 | [], s :: r => by simp [vis, z6d [] r]
 | b :: m, s :: r => by simp [vis, z6d m r]
theorem Sl.frz_false (s : Sl) : s.frz false = s := by cases s <;> simp [Sl.frz]
theorem z109 : ∀ (m : List Bool) (ρ : DS) (i : Nat), (L2.frz m ρ)[i]? = (ρ[i]?).map (Sl.frz (m.getD i false))
 | [], [], i => by simp [frz]
 | _ :: _, [], i => by simp [frz]
 | [], s :: r, i => by
   simp only [frz, List.getD_nil]
   cases h : (s :: r)[i]? with
   | none => rfl
   | some x => simp [Sl.frz_false]
 | b :: m, s :: r, 0 => by simp [frz]
 | b :: m, s :: r, i + 1 => by simpa [frz] using z109 m r i
theorem za7 : ∀ (m : List Bool) (ρ : DS), (L2.frz m ρ).length = ρ.length
 | [], [] => rfl
 | _ :: _, [] => rfl
 | [], s :: r => rfl
 | b :: m, s :: r => by simp [frz, za7 m r]
structure RS (K : PySem.W.Frag) (Hc Hb H0 : Hp) (ρ : DS) (σ : St) (H : Hp) : Prop where
 sb : Same Hb H
 ext : Ext Hc Hb H0 H
 len : ρ.length = σ.length
 im : ∀ (i : Nat) d, ρ[i]? = some (.im d) → ∃ v, σ[i]? = some (some v) ∧ RD K H0 d v
 ow : ∀ (i : Nat) d, ρ[i]? = some (.ow d) → ∃ a, σ[i]? = some (some (.ref a)) ∧ H0 a = none ∧ Hb a = none ∧ OB K H0 H a d
 ap : ∀ (i j : Nat) d e a, ρ[i]? = some (.ow d) → ρ[j]? = some (.ow e) → σ[i]? = some (some (.ref a)) → σ[j]? = some (some (.ref a)) → i = j
theorem RS.grow {K : PySem.W.Frag} {Hc Hb H0 H H' : Hp} {ρ : DS} {σ : St} (R : RS K Hc Hb H0 ρ σ H) (s : Same H H') : RS K Hc Hb H0 ρ σ H' :=
 ⟨R.sb.trans s, R.ext.grow s, R.len, R.im, fun i d e => by
   obtain ⟨a, h1, h2, h3, h4⟩ := R.ow i d e
   exact ⟨a, h1, h2, h3, h4.mono (Same.refl _) s⟩, R.ap⟩
def Msk (m : List Bool) (ρ : DS) (σ : St) (a : Addr) : Prop := ∃ i d, m.getD i false = true ∧ ρ[i]? = some (.ow d) ∧ σ[i]? = some (some (.ref a))
open Classical in
noncomputable def HeOf (m : List Bool) (ρ : DS) (σ : St) (H0 H : Hp) : Hp := fun a => if Msk m ρ σ a then H a else H0 a
open Classical in
noncomputable def HdOf (m : List Bool) (ρ : DS) (σ : St) (H0 : Hp) : Hp := fun a => if Msk m ρ σ a then none else H0 a
section
variable {K : PySem.W.Frag} {Hc Hb H0 H H' : Hp} {ρ : DS} {σ : St} {m : List Bool}
theorem RS.msk (R : RS K Hc Hb H0 ρ σ H) {a : Addr} (h : Msk m ρ σ a) : H0 a = none ∧ Hb a = none ∧ ∃ o, H a = some o ∧ ¬ Imm o := by
 obtain ⟨i, d, _, h1, h2⟩ := h
 obtain ⟨a', q1, q2, q3, q4⟩ := R.ow i d h1
 rw [h2] at q1; cases q1
 exact ⟨q2, q3, q4.some⟩
theorem zd8 {a : Addr} (h : Msk m ρ σ a) : HeOf m ρ σ H0 H a = H a := by unfold HeOf; exact if_pos h
theorem z5b {a : Addr} (h : ¬ Msk m ρ σ a) : HeOf m ρ σ H0 H a = H0 a := by unfold HeOf; exact if_neg h
theorem zd9 {a : Addr} (h : Msk m ρ σ a) : HdOf m ρ σ H0 a = none := by unfold HdOf; exact if_pos h
theorem z5c {a : Addr} (h : ¬ Msk m ρ σ a) : HdOf m ρ σ H0 a = H0 a := by unfold HdOf; exact if_neg h
theorem RS.he0 (R : RS K Hc Hb H0 ρ σ H) (m : List Bool) : Same H0 (HeOf m ρ σ H0 H) := fun b o e => by
 by_cases h : Msk m ρ σ b
 . rw [(R.msk h).1] at e; cases e
 . rw [z5b h]; exact e
theorem RS.heH (R : RS K Hc Hb H0 ρ σ H) (m : List Bool) : Same (HeOf m ρ σ H0 H) H := fun b o e => by
 by_cases h : Msk m ρ σ b
 . rw [zd8 h] at e; exact e
 . rw [z5b h] at e; exact R.ext.2.1 b o e
theorem RS.re (R : RS K Hc Hb H0 ρ σ H) (m : List Bool) : RE K (HeOf m ρ σ H0 H) (vis m ρ) σ := by
 refine ⟨by rw [z6d]; exact R.len, fun i d e => ?_⟩
 rw [z108] at e
 cases q : ρ[i]? with
 | none => rw [q] at e; cases e
 | some s =>
   rw [q] at e
   simp only [Option.map_some, Option.some.injEq] at e
   cases s with
   | em => cases e
   | im d' =>
     cases e
     obtain ⟨v, h1, h2⟩ := R.im i d q
     exact ⟨v, h1, h2.mono (R.he0 m)⟩
   | ow d' =>
     simp only [Sl.see] at e
     split at e
     . rename_i hm
       cases e
       obtain ⟨a, h1, h2, h3, h4⟩ := R.ow i d q
       exact ⟨_, h1, h4.rd (R.he0 m) (zd8 ⟨i, d, hm, q, h1⟩)⟩
     . cases e
def thaw (keep : Bool) (m : List Bool) (ρ : DS) : DS := if keep = true then ρ else frz m ρ
def keeps (fr : Bool) (d : D) : Bool := if fr = true then d.shal else d.noL
def Apt (K : PySem.W.Frag) (fr : Bool) (Hb H0 : Hp) (ρ : DS) (σ : St) (H : Hp) (d : D) (v : V) : Prop :=
 if fr = true then ∃ p, v = .ref p ∧ H0 p = none ∧ Hb p = none ∧ OB K H0 H p d ∧ ∀ (i : Nat) e, ρ[i]? = some (.ow e) → σ[i]? ≠ some (some (.ref p)) else RD K H0 d v
theorem zda {keep : Bool} {i : Nat} {d : D} (h : (thaw keep m ρ)[i]? = some (.ow d)) : ρ[i]? = some (.ow d) ∧ (keep = false → m.getD i false = false) := by
 unfold thaw at h
 cases keep with
 | true => exact ⟨h, fun z => nomatch z⟩
 | false =>
   rw [if_neg Bool.false_ne_true, z109] at h
   cases q : ρ[i]? with
   | none => rw [q] at h; cases h
   | some s =>
     rw [q] at h
     simp only [Option.map_some, Option.some.injEq] at h
     cases s with
     | em => cases h
     | im d' => cases h
     | ow d' =>
       simp only [Sl.frz] at h
       split at h
       . cases h
       . rename_i hm
         cases h
         exact ⟨rfl, fun _ => by simpa using hm⟩
theorem RS.frame (R : RS K Hc Hb H0 ρ σ H) {H0' : Hp} (s : Same H H') (e : Ext (HeOf m ρ σ H0 H) H H0' H') (keep : Bool) :
   ∃ H0n, RS K Hc Hb H0n (thaw keep m ρ) σ H' ∧ TK H0' H0n ∧ (keep = false → H0n = H0') ∧ (∀ p, H0' p = none → H0n p = none) ∧ Same H0 H0n := by
 have hunm : ∀ (i : Nat) d' a, ρ[i]? = some (.ow d') → σ[i]? = some (some (.ref a)) → ¬ Msk m ρ σ a → H0' a = none := fun i d' a h1 h2 h3 => by
   obtain ⟨a', q1, q2, q3, q4⟩ := R.ow i d' h1
   rw [h2] at q1; cases q1
   obtain ⟨u, hu, _⟩ := q4.some
   exact e.2.2 a (za6 hu) (by rw [z5b h3]; exact q2)
 have nmsk : ∀ {i : Nat} {d' : D} {a : Addr}, ρ[i]? = some (.ow d') → σ[i]? = some (some (.ref a)) → m.getD i false = false → ¬ Msk m ρ σ a := fun {i d' a} h1 h2 h3 ⟨j, e', q1, q2, q3⟩ => by
   have := R.ap i j d' e' a h1 q2 h2 q3
   subst this
   rw [h3] at q1; cases q1
 cases keep with
 | true =>
   -- nothing owned is shared: the things of the mask stay unseen
   have hth : thaw true m ρ = ρ := rfl
   have s0 : Same H0 (HdOf m ρ σ H0') := fun b u q => by
     have hb : ¬ Msk m ρ σ b := fun z => by rw [(R.msk z).1] at q; cases q
     rw [z5c hb]
     exact e.1 b u (R.he0 m b u q)
   have tk : TK H0' (HdOf m ρ σ H0') := fun b u hi q => by
     have hb : ¬ Msk m ρ σ b := fun z => by
       obtain ⟨_, _, w, hw, hn⟩ := R.msk z
       have := e.1 b w (by rw [zd8 z]; exact hw)
       rw [q] at this; cases this
       exact hn hi
     rw [z5c hb]; exact q
   refine ⟨HdOf m ρ σ H0', ⟨R.sb.trans s, ⟨R.ext.1.trans s0, fun b u q => ?_, fun a h1 h2 => ?_⟩, R.len, fun i d' q => ?_, fun i d' q => ?_, R.ap⟩, tk, (fun z => nomatch z), fun p hp => ?_, s0⟩
   . by_cases hb : Msk m ρ σ b
     . rw [zd9 hb] at q; cases q
     . rw [z5c hb] at q; exact e.2.1 b u q
   . by_cases hb : Msk m ρ σ a
     . exact zd9 hb
     . rw [z5c hb]
       exact e.2.2 a (R.sb.ne h1) (by rw [z5b hb]; exact R.ext.2.2 a h1 h2)
   . obtain ⟨w, h1, h2⟩ := R.im i d' q
     exact ⟨w, h1, h2.mono s0⟩
   . obtain ⟨a, h1, h2, h3, h4⟩ := R.ow i d' q
     refine ⟨a, h1, ?_, h3, h4.mono s0 s⟩
     by_cases hb : Msk m ρ σ a
     . exact zd9 hb
     . rw [z5c hb]; exact hunm i d' a q h1 hb
   . by_cases hb : Msk m ρ σ p
     . exact zd9 hb
     . rw [z5c hb]; exact hp
 | false =>
   refine ⟨H0', ⟨R.sb.trans s, ?_, ?_, fun i d' q => ?_, fun i d' q => ?_, fun i j d1 d2 a q1 q2 => ?_⟩, fun _ _ _ z => z, fun _ => rfl, fun _ z => z, (R.he0 m).trans e.1⟩
   . refine ⟨R.ext.1.trans ((R.he0 m).trans e.1), e.2.1, fun a h1 h2 => e.2.2 a (R.sb.ne h1) ?_⟩
     have hb : ¬ Msk m ρ σ a := fun z => h1 (R.msk z).2.1
     rw [z5b hb]; exact R.ext.2.2 a h1 h2
   . show (L2.frz m ρ).length = _
     rw [za7]; exact R.len
   . have q' : (L2.frz m ρ)[i]? = some (.im d') := q
     rw [z109] at q'
     cases hs : ρ[i]? with
     | none => rw [hs] at q'; cases q'
     | some sl =>
       rw [hs] at q'
       simp only [Option.map_some, Option.some.injEq] at q'
       cases sl with
       | em => cases q'
       | im d2 =>
         cases q'
         obtain ⟨w, h1, h2⟩ := R.im i d' hs
         exact ⟨w, h1, h2.mono ((R.he0 m).trans e.1)⟩
       | ow d2 =>
         simp only [Sl.frz] at q'
         split at q'
         . rename_i hm
           cases q'
           obtain ⟨a, h1, h2, h3, h4⟩ := R.ow i d' hs
           obtain ⟨u, hu, _⟩ := h4.some
           refine ⟨_, h1, h4.rd ((R.he0 m).trans e.1) ?_⟩
           rw [hu]
           exact e.1 a u (by rw [zd8 ⟨i, d', hm, hs, h1⟩]; exact hu)
         . cases q'
   . obtain ⟨q1, q2⟩ := zda q
     obtain ⟨a, h1, h2, h3, h4⟩ := R.ow i d' q1
     exact ⟨a, h1, hunm i d' a q1 h1 (nmsk q1 h1 (q2 rfl)), h3, h4.mono ((R.he0 m).trans e.1) s⟩
   . exact R.ap i j d1 d2 a (zda q1).1 (zda q2).1
theorem RS.out (R : RS K Hc Hb H0 ρ σ H) {fr : Bool} {d : D} {v : V} (o : Out K fr (HeOf m ρ σ H0 H) H d v H') :
   ∃ H0n, RS K Hc Hb H0n (thaw (keeps fr d) m ρ) σ H' ∧ Apt K fr Hb H0n (thaw (keeps fr d) m ρ) σ H' d v := by
 obtain ⟨s, H0', e, r⟩ := o
 obtain ⟨H0n, R', tk, eq, hn, _⟩ := R.frame s e (keeps fr d)
 refine ⟨H0n, R', ?_⟩
 unfold Apt
 cases fr with
 | false =>
   rw [if_neg Bool.false_ne_true] at r ⊢
   cases hk : keeps false d with
   | true => exact r.tk tk (by simpa [keeps] using hk)
   | false => rw [eq hk]; exact r
 | true =>
   rw [if_pos rfl] at r ⊢
   obtain ⟨p, rfl, hp, hp0, ob⟩ := r
   refine ⟨p, rfl, hn p hp0, R.sb.none hp, ?_, fun i e' q z => ?_⟩
   . cases hk : keeps true d with
     | true => exact ob.tk (by simpa [keeps] using hk) tk
     | false => rw [eq hk]; exact ob
   . obtain ⟨a, h1, _, _, h4⟩ := R.ow i e' (zda q).1
     rw [z] at h1; cases h1
     obtain ⟨u, hu, _⟩ := h4.some
     rw [hp] at hu; cases hu
theorem RS.outs (R : RS K Hc Hb H0 ρ σ H) {ds : List D} {vs : List V} {H0' : Hp} (s : Same H H') (e : Ext (HeOf m ρ σ H0 H) H H0' H') (r : RDs K H0' ds vs) :
   ∃ H0n, RS K Hc Hb H0n (thaw (noLs ds) m ρ) σ H' ∧ RDs K H0n ds vs := by
 obtain ⟨H0n, R', tk, eq, hn, _⟩ := R.frame s e (noLs ds)
 refine ⟨H0n, R', ?_⟩
 cases hk : noLs ds with
 | true => exact r.tk tk hk
 | false => rw [eq hk]; exact r
def putS (fr : Bool) (i : Nat) (d : D) (ρ : DS) : DS := ρ.set i (if fr = true then .ow d else .im d)
theorem RS.put (R : RS K Hc Hb H0 ρ σ H) {fr : Bool} {d : D} {v : V} (a : Apt K fr Hb H0 ρ σ H d v) (i : Nat) : RS K Hc Hb H0 (putS fr i d ρ) (σ.set i (some v)) H := by
 unfold putS
 have other : ∀ {j : Nat} {s : Sl}, j ≠ i → (ρ.set i s)[j]? = ρ[j]? := fun {j s} h => by rw [List.getElem?_set_ne (Ne.symm h)]
 have otherσ : ∀ {j : Nat}, j ≠ i → (σ.set i (some v))[j]? = σ[j]? := fun {j} h => by rw [List.getElem?_set_ne (Ne.symm h)]
 have here : ∀ {s s' : Sl}, (ρ.set i s)[i]? = some s' → s' = s ∧ (σ.set i (some v))[i]? = some (some v) := fun {s s'} h => by
   have hi : i < ρ.length := by
     have := (List.getElem?_eq_some_iff.mp h).1
     simpa using this
   rw [List.getElem?_set_self hi] at h
   cases h
   exact ⟨rfl, by rw [List.getElem?_set_self (by rw [← R.len]; exact hi)]⟩
 refine ⟨R.sb, R.ext, by rw [List.length_set, List.length_set]; exact R.len, fun j d' q => ?_, fun j d' q => ?_, fun j k d1 d2 b q1 q2 z1 z2 => ?_⟩
 . by_cases hj : j = i
   . subst hj
     obtain ⟨h1, h2⟩ := here q
     refine ⟨v, h2, ?_⟩
     cases fr with
     | false =>
       rw [if_neg Bool.false_ne_true] at h1; cases h1
       unfold Apt at a
       rw [if_neg Bool.false_ne_true] at a; exact a
     | true => rw [if_pos rfl] at h1; cases h1
   . rw [other hj] at q
     rw [otherσ hj]; exact R.im j d' q
 . by_cases hj : j = i
   . subst hj
     obtain ⟨h1, h2⟩ := here q
     cases fr with
     | false => rw [if_neg Bool.false_ne_true] at h1; cases h1
     | true =>
       rw [if_pos rfl] at h1; cases h1
       unfold Apt at a
       rw [if_pos rfl] at a
       obtain ⟨p, rfl, a1, a2, a3, _⟩ := a
       exact ⟨p, h2, a1, a2, a3⟩
   . rw [other hj] at q
     rw [otherσ hj]; exact R.ow j d' q
 . by_cases hj : j = i
   . by_cases hk : k = i
     . rw [hj, hk]
     . subst hj
       obtain ⟨h1, h2⟩ := here q1
       rw [other hk] at q2
       rw [otherσ hk] at z2
       rw [h2] at z1
       cases fr with
       | false => rw [if_neg Bool.false_ne_true] at h1; cases h1
       | true =>
         unfold Apt at a
         rw [if_pos rfl] at a
         obtain ⟨p, rfl, _, _, _, a4⟩ := a
         cases z1
         exact absurd z2 (a4 k d2 q2)
   . by_cases hk : k = i
     . subst hk
       obtain ⟨h1, h2⟩ := here q2
       rw [other hj] at q1
       rw [otherσ hj] at z1
       rw [h2] at z2
       cases fr with
       | false => rw [if_neg Bool.false_ne_true] at h1; cases h1
       | true =>
         unfold Apt at a
         rw [if_pos rfl] at a
         obtain ⟨p, rfl, _, _, _, a4⟩ := a
         cases z2
         exact absurd z1 (a4 j d1 q1)
     . rw [other hj] at q1
       rw [other hk] at q2
       rw [otherσ hj] at z1
       rw [otherσ hk] at z2
       exact R.ap j k d1 d2 b q1 q2 z1 z2
end
inductive SR where
 | nx (ρ : DS) | bk (ρ : DS) | ct (ρ : DS) | rt (d : D) | er (x : Ex) | st
def SK (K : PySem.W.Frag) (EX : XW) (fr : Bool) (Hc Hb : Hp) (De : Ends) : SR → Prop
 | .nx ρ => ∀ σ H H0, RS K Hc Hb H0 ρ σ H → De.nx σ H
 | .bk ρ => ∀ σ H H0, RS K Hc Hb H0 ρ σ H → De.bk σ H
 | .ct ρ => ∀ σ H H0, RS K Hc Hb H0 ρ σ H → De.ct σ H
 | .rt d => ∀ v H, Out K fr Hc Hb d v H → De.rt v H
 | .er x => EX.at x
 | .st => False
def TSd (K : PySem.W.Frag) (EX : XW) (fr : Bool) (g : DS → SR) : TS := fun De σ H => ∃ Hc Hb H0 ρ, Same EX.hb Hb ∧ RS K Hc Hb H0 ρ σ H ∧ SK K EX fr Hc Hb De (g ρ)
def R.toS {α : Type} (r : R α) (k : α → SR) : SR := match r with
 | .ok a => k a
 | .er x => .er x
 | .st => .st
def sNx : DS → SR := fun ρ => .nx ρ
def sNo : DS → SR := fun _ => .st
def sSeq (g1 g2 : DS → SR) : DS → SR := fun ρ => match g1 ρ with
 | .nx ρ' => g2 ρ'
 | r => r
def see (ρ : DS) : DE := ρ.map (Sl.see true)
def sIf (t : DE → R Bool) (g1 g2 : DS → SR) : DS → SR := fun ρ => (t (see ρ)).toS fun b => if b = true then g1 ρ else g2 ρ
def sAsg (fr : Bool) (i : Nat) (m : List Bool) (f : DE → R D) : DS → SR := fun ρ => (f (vis m ρ)).toS fun d => .nx (putS fr i d (thaw (keeps fr d) m ρ))
def sRet (m : List Bool) (f : DE → R D) : DS → SR := fun ρ => (f (vis m ρ)).toS fun d => .rt d
def sRetN : DS → SR := fun _ => .rt .non
def sRetO (i : Nat) : DS → SR := fun ρ => match ρ[i]? with
 | some (.ow d) => .rt d
 | _ => .st
def sDrop (f : DE → R D) : DS → SR := fun ρ => (f (see ρ)).toS fun _ => .nx ρ
section
variable {K : PySem.W.Frag} {EX : XW} {fr : Bool} {Hc Hb H0 H H' : Hp} {ρ : DS} {σ : St} {De : Ends} {m : List Bool}
theorem SK.toS {α : Type} {r : R α} {k : α → SR} : SK K EX fr Hc Hb De (r.toS k) = Rk EX.at r fun a => SK K EX fr Hc Hb De (k a) := by cases r <;> rfl
theorem z10a : ∀ (ρ : DS), vis (List.replicate ρ.length true) ρ = see ρ
 | [] => rfl
 | s :: r => by
   show s.see true :: vis (List.replicate r.length true) r = _
   rw [z10a r]; rfl
theorem RS.extE (R : RS K Hc Hb H0 ρ σ H) (m : List Bool) : Ext Hc Hb (HeOf m ρ σ H0 H) H :=
 ⟨R.ext.1.trans (R.he0 m), R.heH m, fun a h1 h2 => by
   have hb : ¬ Msk m ρ σ a := fun z => h1 (R.msk z).2.1
   rw [z5b hb]; exact R.ext.2.2 a h1 h2⟩
theorem RS.te (I : RS K Hc Hb H0 ρ σ H) (sb : Same EX.hb Hb) {f : DE → R D} {fr' : Bool} {k : D → Prop} {Q : VK} (h : Rk EX.at (f (vis m ρ)) k)
   (hk : ∀ d, k d → ∀ v H' H0n, RS K Hc Hb H0n (thaw (keeps fr' d) m ρ) σ H' → Apt K fr' Hb H0n (thaw (keeps fr' d) m ρ) σ H' d v → Q v H') : TEd K EX fr' f σ H Q :=
 ⟨sb.trans I.sb, vis m ρ, HeOf m ρ σ H0 H, I.heH m, I.re m, h.mono fun d z v H' o => by
   obtain ⟨H0n, R', a⟩ := I.out o
   exact hk d z v H' H0n R' a⟩
theorem RS.tt (I : RS K Hc Hb H0 ρ σ H) (sb : Same EX.hb Hb) {f : DE → R Bool} {k : Bool → Prop} {Q : Bool → Hp → Prop} (h : Rk EX.at (f (see ρ)) k) (hk : ∀ b, k b → ∀ H', RS K Hc Hb H0 ρ σ H' → Q b H') : TTd K EX f σ H Q := by
 refine ⟨sb.trans I.sb, see ρ, HeOf (List.replicate ρ.length true) ρ σ H0 H, I.heH _, ?_, h.mono fun b z H' s => hk b z H' (I.grow s)⟩
 rw [← z10a]; exact I.re _
theorem d_nx (h : TSd K EX fr sNx De σ H) : tNext De σ H := by
 obtain ⟨Hc, Hb, H0, ρ, sb, R, h⟩ := h
 exact h σ H H0 R
theorem d_no (h : TSd K EX fr sNo De σ H) : tNever De σ H := by
 obtain ⟨Hc, Hb, H0, ρ, sb, R, h⟩ := h
 exact h
theorem d_seq {g1 g2 : DS → SR} (h : TSd K EX fr (sSeq g1 g2) De σ H) : tSeq (TSd K EX fr g1) (TSd K EX fr g2) De σ H := by
 obtain ⟨Hc, Hb, H0, ρ, sb, R, h⟩ := h
 refine ⟨Hc, Hb, H0, ρ, sb, R, ?_⟩
 unfold sSeq at h
 cases q : g1 ρ with
 | nx ρ' => rw [q] at h; exact fun σ' H' H0' R' => ⟨Hc, Hb, H0', ρ', sb, R', h⟩
 | bk ρ' => rw [q] at h; exact h
 | ct ρ' => rw [q] at h; exact h
 | rt d => rw [q] at h; exact h
 | er x => rw [q] at h; exact h
 | st => rw [q] at h; exact h
theorem d_ifs {t : DE → R Bool} {g1 g2 : DS → SR} (h : TSd K EX fr (sIf t g1 g2) De σ H) : tIfS (TTd K EX t) (TSd K EX fr g1) (TSd K EX fr g2) De σ H := by
 obtain ⟨Hc, Hb, H0, ρ, sb, R, h⟩ := h
 unfold sIf at h
 rw [SK.toS] at h
 refine R.tt sb h fun b h H' R' => ?_
 cases b with
 | true => exact ⟨Hc, Hb, H0, ρ, sb, R', h⟩
 | false => exact ⟨Hc, Hb, H0, ρ, sb, R', h⟩
theorem d_asg {i : Nat} {f : DE → R D} {fr' : Bool} (h : TSd K EX fr (sAsg fr' i m f) De σ H) : tAsg (TEd K EX fr' f) (gName i) De σ H := by
 obtain ⟨Hc, Hb, H0, ρ, sb, R, h⟩ := h
 unfold sAsg at h
 rw [SK.toS] at h
 exact R.te sb h fun d h v H' H0n R' a => h _ H' H0n (R'.put a i)
theorem d_ret {f : DE → R D} (h : TSd K EX fr (sRet m f) De σ H) : tRet (TEd K EX fr f) De σ H := by
 obtain ⟨Hc, Hb, H0, ρ, sb, R, h⟩ := h
 unfold sRet at h
 rw [SK.toS] at h
 exact ⟨sb.trans R.sb, vis m ρ, HeOf m ρ σ H0 H, R.heH m, R.re m, h.mono fun d z v H' o => z v H' (o.after R.sb (R.extE m))⟩
theorem d_retO {i : Nat} (h : TSd K EX true (sRetO i) De σ H) : tRet (cVar i) De σ H := by
 obtain ⟨Hc, Hb, H0, ρ, sb, R, h⟩ := h
 unfold sRetO at h
 split at h
 . rename_i d q
   obtain ⟨a, h1, h2, h3, h4⟩ := R.ow i d q
   show cVar i σ H De.rt
   unfold cVar
   rw [h1]
   exact h _ H (.fresh R.sb R.ext h3 h2 h4)
 . exact h.elim
theorem d_drop {f : DE → R D} (h : TSd K EX fr (sDrop f) De σ H) : tDrop (TEd K EX false f) De σ H := by
 obtain ⟨Hc, Hb, H0, ρ, sb, R, h⟩ := h
 unfold sDrop at h
 rw [SK.toS] at h
 refine ⟨sb.trans R.sb, see ρ, HeOf (List.replicate ρ.length true) ρ σ H0 H, R.heH _, by rw [← z10a]; exact R.re _, h.mono fun d z v H' o => ?_⟩
 exact z σ H' H0 (R.grow o.1)
theorem RS.mutate (R : RS K Hc Hb H0 ρ σ H) {i : Nat} {d d' : D} {a : Addr} {o : HO} (h : ρ[i]? = some (.ow d)) (ha : σ[i]? = some (some (.ref a))) (ob : OB K H0 (upd H a o) a d') : RS K Hc Hb H0 (ρ.set i (.ow d')) σ (upd H a o) := by
 obtain ⟨a', q1, q2, q3, q4⟩ := R.ow i d h
 rw [ha] at q1; cases q1
 have hi : i < ρ.length := (List.getElem?_eq_some_iff.mp h).1
 have other : ∀ {j : Nat} {s : Sl}, j ≠ i → (ρ.set i s)[j]? = ρ[j]? := fun {j s} h => by rw [List.getElem?_set_ne (Ne.symm h)]
 have here : (ρ.set i (.ow d'))[i]? = some (.ow d') := by rw [List.getElem?_set_self hi]
 have sm : ∀ {H1 : Hp}, Same H1 H → H1 a = none → Same H1 (upd H a o) := fun s n => s.upd_at n
 refine ⟨sm R.sb q3, ⟨R.ext.1, sm R.ext.2.1 q2, R.ext.2.2⟩, by rw [List.length_set]; exact R.len, fun j d2 q => ?_, fun j d2 q => ?_, fun j k d1 d2 b z1 z2 => ?_⟩
 . have hj : j ≠ i := fun z => by subst z; rw [here] at q; cases q
   rw [other hj] at q
   exact R.im j d2 q
 . by_cases hj : j = i
   . subst hj
     rw [here] at q; cases q
     exact ⟨a, ha, q2, q3, ob⟩
   . rw [other hj] at q
     obtain ⟨b, h1, h2, h3, h4⟩ := R.ow j d2 q
     have hb : b ≠ a := fun z => hj (R.ap j i d2 d b q h h1 (by rw [z]; exact ha))
     exact ⟨b, h1, h2, h3, h4.at (upd_ne hb)⟩
 . have back : ∀ {j : Nat} {d1 : D}, (ρ.set i (.ow d'))[j]? = some (.ow d1) → ∃ d0, ρ[j]? = some (.ow d0) := fun {j d1} z => by
     by_cases hj : j = i
     . subst hj; exact ⟨d, h⟩
     . rw [other hj] at z; exact ⟨_, z⟩
   obtain ⟨e1, z1⟩ := back z1
   obtain ⟨e2, z2⟩ := back z2
   exact R.ap j k e1 e2 b z1 z2
def MutD (K : PySem.W.Frag) (mt : D → List D → Option D) (r : V → List V → Hp → VK → Prop) : Prop := ∀ (H0 H : Hp) (a : Addr) (d d' : D) (ds : List D) (vs : List V) (Q : VK), Same H0 H → H0 a = none → OB K H0 H a d → RDs K H0 ds vs → mt d ds = some d' →
 (∀ v o, OB K H0 (upd H a o) a d' → Q v (upd H a o)) → r (.ref a) vs H Q
def isT (T : String) : D → Bool
 | .lst _ => T == "list"
 | .dk _ _ => T == "dict"
 | .dt _ _ => T == "dict"
 | _ => false
def TyD (K : PySem.W.Frag) (T : String) : Prop := ∀ (H0 H : Hp) (a : Addr) (d : D), OB K H0 H a d → isT T d = true → tyV K T (.ref a) H
def sMut (T : String) (mt : D → List D → Option D) (i : Nat) (m : List Bool) (fs : DE → R (List D)) : DS → SR := fun ρ => match ρ[i]? with
 | some (.ow d0) => if isT T d0 = true then (fs (vis m ρ)).toS fun ds => match (thaw (noLs ds) m ρ)[i]? with
   | some (.ow d) => (R.of (mt d ds)).toS fun d' => .nx ((thaw (noLs ds) m ρ).set i (.ow d'))
   | _ => .st
   else .st
 | _ => .st
theorem d_mut {T : String} {mt : D → List D → Option D} {r : V → List V → Hp → VK → Prop} {i : Nat} {fs : DE → R (List D)} (hm : MutD K mt r) (hT : TyD K T) (h : TSd K EX fr (sMut T mt i m fs) De σ H) :
   tDrop (tBM K T r (cVar i) (TAd K EX fs)) De σ H := by
 obtain ⟨Hc, Hb, H0, ρ, sb, R, h⟩ := h
 unfold sMut at h
 split at h
 . rename_i d0 q0
   split at h
   . rename_i hty
     rw [SK.toS] at h
     obtain ⟨a, h1, h2, h3, h4⟩ := R.ow i d0 q0
     unfold tDrop tBM cVar
     rw [h1]
     refine ⟨hT H0 H a d0 h4 hty, sb.trans R.sb, vis m ρ, HeOf m ρ σ H0 H, R.heH m, R.re m, h.mono fun ds h vs H' H0' s e rds => ?_⟩
     obtain ⟨H0n, R', rd'⟩ := R.outs s e rds
     split at h
     . rename_i d q
       rw [SK.toS] at h
       obtain ⟨d', hd', h⟩ := h.of
       obtain ⟨a', z1, z2, z3, z4⟩ := R'.ow i d q
       rw [h1] at z1; cases z1
       exact hm H0n H' a d d' ds vs _ R'.ext.2.1 z2 z4 rd' hd' fun v o ob => h σ _ H0n (R'.mutate q h1 ob)
     . exact h.elim
   . exact h.elim
 . exact h.elim
def sMut0 (T : String) (mt : D → List D → Option D) (i : Nat) : DS → SR := fun ρ => match ρ[i]? with
 | some (.ow d) => if isT T d = true then (R.of (mt d [])).toS fun d' => .nx (ρ.set i (.ow d')) else .st
 | _ => .st
def SetD (K : PySem.W.Frag) (st : D → D → D → Option D) (r : TSet) : Prop := ∀ (H0 H : Hp) (a : Addr) (d d' dk dv : D) (y v : V) (Q : Hp → Prop), Same H0 H → H0 a = none → OB K H0 H a d → RD K H0 dk y → RD K H0 dv v → st d dk dv = some d' →
 (∀ o, OB K H0 (upd H a o) a d' → Q (upd H a o)) → r (.ref a) y v H Q
def sSet (st : D → D → D → Option D) (i : Nat) (m : List Bool) (fk fv : DE → R D) : DS → SR := fun ρ => (fv (vis m ρ)).toS fun dv => match (thaw (keeps false dv) m ρ)[i]? with
 | some (.ow _) => (fk (vis m (thaw (keeps false dv) m ρ))).toS fun dk => (match (thaw (keeps false dk) m (thaw (keeps false dv) m ρ))[i]? with
   | some (.ow d) => (R.of (st d dk dv)).toS fun d' => .nx ((thaw (keeps false dk) m (thaw (keeps false dv) m ρ)).set i (.ow d'))
   | _ => .st)
 | _ => .st
theorem Apt.rd {ρ : DS} {d : D} {v : V} (a : Apt K false Hb H0 ρ σ H d v) : RD K H0 d v := by
 unfold Apt at a
 rw [if_neg Bool.false_ne_true] at a; exact a
end
section
variable {K : PySem.W.Frag} {EX : XW} {fr : Bool} {Hc Hb H0 H H' : Hp} {ρ : DS} {σ : St} {De : Ends} {m : List Bool}
theorem d_set {st : D → D → D → Option D} {r : TSet} {i : Nat} {fk fv : DE → R D} (hs : SetD K st r) (h : TSd K EX fr (sSet st i m fk fv) De σ H) :
   tAsg (TEd K EX false fv) (gSub (cVar i) (TEd K EX false fk) r) De σ H := by
 obtain ⟨Hc, Hb, H0, ρ, sb, I, h⟩ := h
 unfold sSet at h
 rw [SK.toS] at h
 refine I.te sb h fun dv h v H1 H1n I1 a1 => ?_
 split at h
 . rename_i d0 q0
   rw [SK.toS] at h
   obtain ⟨a, h1, h2, h3, h4⟩ := I1.ow i d0 q0
   unfold gSub cVar
   rw [h1]
   refine ⟨sb.trans I1.sb, vis m _, HeOf m _ σ H1n H1, I1.heH m, I1.re m, h.mono fun dk h y H2 o2 => ?_⟩
   obtain ⟨s2, H2', e2, r2⟩ := o2.rd
   obtain ⟨H2n, I2, tk, eq, hn, sub⟩ := I1.frame s2 e2 (keeps false dk)
   have r2' : RD K H2n dk y := by
     cases hk : keeps false dk with
     | true => exact r2.tk tk (by simpa [keeps] using hk)
     | false => rw [eq hk]; exact r2
   split at h
   . rename_i d q
     rw [SK.toS] at h
     obtain ⟨d', hd', h⟩ := h.of
     obtain ⟨a', z1, z2, z3, z4⟩ := I2.ow i d q
     rw [h1] at z1; cases z1
     exact hs H2n H2 a d d' dk dv y v _ I2.ext.2.1 z2 z4 r2' (a1.rd.mono sub) hd' fun o ob => h σ _ H2n (I2.mutate q h1 ob)
   . exact h.elim
 . exact h.elim
inductive Tg where
 | n (i : Nat) | t (is : List Nat)
def putAll : List Nat → List D → DS → DS
 | i :: is, d :: ds, ρ => putAll is ds (putS false i d ρ)
 | _, _, ρ => ρ
def items : D → Option (List D)
 | .tup ds => some ds
 | .lst ds => some ds
 | _ => none
def putT : Tg → D → DS → Option DS
 | .n i, d, ρ => some (putS false i d ρ)
 | .t is, d, ρ => (items d).bind fun ds => if ds.length = is.length then some (putAll is ds ρ) else none
def TGd (K : PySem.W.Frag) (tg : Tg) : TG := fun v σ H Q => ∃ Hc Hb H0 ρ d ρ', RS K Hc Hb H0 ρ σ H ∧ RD K H0 d v ∧ putT tg d ρ = some ρ' ∧ ∀ σ', RS K Hc Hb H0 ρ' σ' H → Q σ' H
theorem RS.putI (I : RS K Hc Hb H0 ρ σ H) {d : D} {v : V} (r : RD K H0 d v) (i : Nat) : RS K Hc Hb H0 (putS false i d ρ) (σ.set i (some v)) H :=
 I.put (fr := false) (by unfold Apt; rw [if_neg Bool.false_ne_true]; exact r) i
theorem d_tn {i : Nat} {v : V} {Q : St → Hp → Prop} (h : TGd K (.n i) v σ H Q) : gName i v σ H Q := by
 obtain ⟨Hc, Hb, H0, ρ, d, ρ', I, r, e, q⟩ := h
 simp only [putT, Option.some.injEq] at e
 subst e
 exact q _ (I.putI r i)
def gNames : List Nat → TGs
 | [] => gNilC
 | i :: is => gConsC (gName i) (gNames is)
theorem z91 : ∀ (is : List Nat) {ds : List D} {xs : List V} {ρ : DS} {σ : St} {Q : St → Hp → Prop}, RS K Hc Hb H0 ρ σ H → RDs K H0 ds xs → ds.length = is.length → (∀ σ', RS K Hc Hb H0 (putAll is ds ρ) σ' H → Q σ' H) → gNames is xs σ H Q
 | [], [], _, ρ, σ, Q, I, r, _, q => by
   simp only [RDs] at r; subst r
   exact q σ I
 | [], _ :: _, _, _, _, _, _, _, hl, _ => by simp at hl
 | _ :: _, [], _, _, _, _, _, _, hl, _ => by simp at hl
 | i :: is, d :: ds, _, ρ, σ, Q, I, r, hl, q => by
   simp only [RDs] at r
   obtain ⟨x, xs, rfl, r1, r2⟩ := r
   exact z91 is (I.putI r1 i) r2 (by simpa using hl) q
theorem d_tt {is : List Nat} {v : V} {Q : St → Hp → Prop} (h : TGd K (.t is) v σ H Q) : gSeqC is.length (gNames is) v σ H Q := by
 obtain ⟨Hc, Hb, H0, ρ, d, ρ', I, r, e, q⟩ := h
 simp only [putT] at e
 cases d <;> simp only [items, Option.bind_none, Option.bind_some] at e <;> first | cases e | skip
 . rename_i ds
   split at e
   . rename_i hl
     cases e
     simp only [RD] at r
     obtain ⟨a, xs, rfl, ha, rs⟩ := r
     unfold gSeqC
     simp only [I.ext.2.1 a _ ha]
     exact ⟨by rw [← rs.length]; exact hl, z91 is I rs hl q⟩
   . cases e
 . rename_i ds
   split at e
   . rename_i hl
     cases e
     simp only [RD] at r
     obtain ⟨a, xs, rfl, ha, rs⟩ := r
     unfold gSeqC
     simp only [I.ext.2.1 a _ ha]
     exact ⟨by rw [← rs.length]; exact hl, z91 is I rs hl q⟩
   . cases e
def sUnp (tg : Tg) (m : List Bool) (f : DE → R D) : DS → SR := fun ρ => (f (vis m ρ)).toS fun d => match putT tg d (thaw (keeps false d) m ρ) with
 | some ρ' => .nx ρ'
 | none => .st
def Hno : Hp := fun _ => none
def ItOk (K : PySem.W.Frag) (J : It) (H0 : Hp) (ds : List D) : Prop :=
 (∀ (i : Nat) d, ds[i]? = some d → ∀ H H1, Same H0 H1 → Same H1 H → J.go i H ∧ ∀ x H', J.yld i H x H' → Same H H' ∧ ∃ H1', Ext H1 H H1' H' ∧ RD K H1' d x) ∧ ∀ H, Same H0 H → J.stop ds.length H
def TId (K : PySem.W.Frag) (EX : XW) (kp : Bool) (f : DE → R (List D)) : TI := fun σ H Q => Same EX.hb H ∧ ∃ ρ H0, Same H0 H ∧ RE K H0 ρ σ ∧ Rk EX.at (f ρ) fun ds => ∀ J H' H0', Same H H' → Ext H0 H H0' H' → ItOk K J (if kp = true then Hno else H0') ds → Q J H'
def forL (tg : Tg) (g : DS → SR) : List D → DS → SR
 | [], ρ => .nx ρ
 | d :: ds, ρ => match putT tg d ρ with
   | none => .st
   | some ρ1 => match g ρ1 with
     | .nx ρ2 => forL tg g ds ρ2
     | .ct ρ2 => forL tg g ds ρ2
     | .bk ρ2 => .nx ρ2
     | .rt d => .rt d
     | .er x => .er x
     | .st => .st
def sFor (kp : Bool) (m : List Bool) (f : DE → R (List D)) (tg : Tg) (g : DS → SR) : DS → SR := fun ρ => (f (vis m ρ)).toS fun ds => forL tg g ds (thaw kp m ρ)
theorem Ext.base {Hc' : Hp} (a : Ext Hc Hb Hc' H) (b : Ext Hc' Hb H0 H') : Ext Hc Hb H0 H' := ⟨a.1.trans b.1, b.2.1, fun c h1 h2 => b.2.2 c h1 (a.2.2 c h1 h2)⟩
theorem RS.base {Hc' H1 : Hp} (a : Ext Hc Hb Hc' H1) (I : RS K Hc' Hb H0 ρ σ H) : RS K Hc Hb H0 ρ σ H := ⟨I.sb, a.base I.ext, I.len, I.im, I.ow, I.ap⟩
theorem RS.self (I : RS K Hc Hb H0 ρ σ H) : RS K H0 Hb H0 ρ σ H := ⟨I.sb, ⟨Same.refl _, I.ext.2.1, fun _ _ z => z⟩, I.len, I.im, I.ow, I.ap⟩
theorem Out.base {Hc' : Hp} {d : D} {v : V} (a : Ext Hc Hb Hc' H) (o : Out K fr Hc' Hb d v H') : Out K fr Hc Hb d v H' := by
 obtain ⟨s, H0', e, r⟩ := o
 exact ⟨s, H0', a.base e, r⟩
theorem RS.sees {H1' : Hp} (I : RS K Hc Hb H0 ρ σ H) (s : Same H H') (e : Ext H0 H H1' H') : RS K Hc Hb H1' ρ σ H' :=
 ⟨I.sb.trans s, ⟨I.ext.1.trans e.1, e.2.1, fun a h1 h2 => e.2.2 a (I.sb.ne h1) (I.ext.2.2 a h1 h2)⟩, I.len, fun i d q => by
   obtain ⟨v, h1, h2⟩ := I.im i d q
   exact ⟨v, h1, h2.mono e.1⟩, fun i d q => by
   obtain ⟨a, h1, h2, h3, h4⟩ := I.ow i d q
   obtain ⟨u, hu, _⟩ := h4.some
   exact ⟨a, h1, e.2.2 a (za6 hu) h2, h3, h4.mono e.1 s⟩, I.ap⟩
theorem d_for {kp : Bool} {f : DE → R (List D)} {tg : Tg} {g : DS → SR} (h : TSd K EX fr (sFor kp m f tg g) De σ H) : tForC (TId K EX kp f) (TGd K tg) (TSd K EX fr g) De σ H := by
 obtain ⟨Hc, Hb, H0, ρ, sb, I, h⟩ := h
 unfold sFor at h
 rw [SK.toS] at h
 refine ⟨sb.trans I.sb, vis m ρ, HeOf m ρ σ H0 H, I.heH m, I.re m, h.mono fun ds h J H1 H1' s1 e1 it => ?_⟩
 obtain ⟨Hn, I1, tk, eq, hn, sub⟩ := I.frame s1 e1 kp
 have it' : ItOk K J Hn ds := by
   cases kp with
   | true =>
     rw [if_pos rfl] at it
     exact ⟨fun i d q H H1 a b => it.1 i d q H H1 (fun _ _ z => nomatch z) b, fun H a => it.2 H fun _ _ z => nomatch z⟩
   | false => rw [if_neg Bool.false_ne_true, ← eq rfl] at it; exact it
 have ex1 : Ext Hc Hb Hn H1 := I1.ext
 refine ⟨fun i mm σ H => mm = ds.length - i ∧ i ≤ ds.length ∧ ∃ ρ H0, RS K Hn Hb H0 ρ σ H ∧ SK K EX fr Hc Hb De (forL tg g (ds.drop i) ρ), ⟨ds.length, by simp, Nat.zero_le _, _, Hn, I1.self, h⟩, ?_⟩
 rintro i mm σ H ⟨rfl, hi, ρ, H0, I2, h⟩
 have sn : Same Hn H0 := I2.ext.1
 by_cases hlt : i < ds.length
 . have hd : ds[i]? = some ds[i] := by simp [hlt]
   obtain ⟨hgo, hy⟩ := it'.1 i _ hd H H0 sn I2.ext.2.1
   have hdr : ds.drop i = ds[i] :: ds.drop (i + 1) := List.drop_eq_getElem_cons hlt
   rw [hdr] at h
   refine .inr ⟨hgo, fun σ' H' => ∃ ρ' H0', RS K Hn Hb H0' ρ' σ' H' ∧ SK K EX fr Hc Hb De (forL tg g (ds.drop (i + 1)) ρ'), fun σ' H' ⟨ρ', H0', q⟩ => ⟨ds.length - (i + 1), by omega, rfl, hlt, ρ', H0', q⟩, fun x H' y => ?_⟩
   obtain ⟨s3, H3, e3, r3⟩ := hy x H' y
   have I3 := I2.sees s3 e3
   unfold forL at h
   split at h
   . exact h.elim
   . rename_i ρ1 q1
     refine ⟨Hn, Hb, H3, ρ, ds[i], ρ1, I3, r3, q1, fun σ' I4 => ⟨Hn, Hb, H3, ρ1, sb, I4, ?_⟩⟩
     cases qg : g ρ1 with
     | nx ρ2 => rw [qg] at h; exact fun σ5 H5 H05 I5 => ⟨ρ2, H05, I5, h⟩
     | ct ρ2 => rw [qg] at h; exact fun σ5 H5 H05 I5 => ⟨ρ2, H05, I5, h⟩
     | bk ρ2 => rw [qg] at h; exact fun σ5 H5 H05 I5 => h σ5 H5 H05 (I5.base ex1)
     | rt d => rw [qg] at h; exact fun v H5 o => h v H5 (o.base ex1)
     | er x => rw [qg] at h; exact h
     | st => rw [qg] at h; exact h
 . have e : i = ds.length := by omega
   subst e
   rw [List.drop_length] at h
   refine .inl ⟨it'.2 H (sn.trans I2.ext.2.1), ?_⟩
   exact h σ H H0 (I2.base ex1)
def whileL (t : DE → R Bool) (g : DS → SR) : Nat → DS → SR
 | 0, _ => .st
 | n + 1, ρ => (t (see ρ)).toS fun b => if b = true then (match g ρ with
     | .nx ρ2 => whileL t g n ρ2
     | .ct ρ2 => whileL t g n ρ2
     | .bk ρ2 => .nx ρ2
     | .rt d => .rt d
     | .er x => .er x
     | .st => .st) else .nx ρ
def sWhile (n : Nat) (t : DE → R Bool) (g : DS → SR) : DS → SR := whileL t g n
theorem z1c6 {n : Nat} {t : DE → R Bool} {g : DS → SR} (h : TSd K EX fr (sWhile n t g) De σ H) : tWhile (TTd K EX t) (TSd K EX fr g) De σ H := by
 obtain ⟨Hc, Hb, H0, ρ, sb, I, h⟩ := h
 refine ⟨fun mm σ H => ∃ ρ H0, RS K Hc Hb H0 ρ σ H ∧ SK K EX fr Hc Hb De (whileL t g mm ρ), ⟨n, ρ, H0, I, h⟩, ?_⟩
 rintro mm σ H ⟨ρ, H0, I, h⟩
 cases mm with
 | zero => exact h.elim
 | succ mm =>
   unfold whileL at h
   rw [SK.toS] at h
   refine I.tt sb h fun b h H' I' => ?_
   cases b with
   | false => exact h σ H' H0 I'
   | true =>
     rw [if_pos rfl] at h ⊢
     refine ⟨fun σ' H' => ∃ ρ' H0', RS K Hc Hb H0' ρ' σ' H' ∧ SK K EX fr Hc Hb De (whileL t g mm ρ'), fun σ' H' q => ⟨mm, Nat.lt_succ_self _, q⟩, Hc, Hb, H0, ρ, sb, I', ?_⟩
     cases qg : g ρ with
     | nx ρ2 => rw [qg] at h; exact fun σ5 H5 H05 I5 => ⟨ρ2, H05, I5, h⟩
     | ct ρ2 => rw [qg] at h; exact fun σ5 H5 H05 I5 => ⟨ρ2, H05, I5, h⟩
     | bk ρ2 => rw [qg] at h; exact fun σ5 H5 H05 I5 => h σ5 H5 H05 I5
     | rt d => rw [qg] at h; exact fun v H5 o => h v H5 o
     | er x => rw [qg] at h; exact h
     | st => rw [qg] at h; exact h
def R.noE {α : Type} (r : R α) : R α := match r with
 | .er _ => .st
 | r => r
theorem Rk.noE {α : Type} {EX EX' : Ex → Prop} {r : R α} {k : α → Prop} (h : Rk EX r.noE k) : Rk EX' r k := by
 cases r with
 | ok a => exact h
 | er x => exact h.elim
 | st => exact h
def BD (K : PySem.W.Frag) (bn : D → Option (List D)) (B : V → Hp → (List V → Hp → Prop) → Prop) : Prop := ∀ (H0 H : Hp) (x : V) (d : D) (ds : List D) (Q : List V → Hp → Prop), Same H0 H → RD K H0 d x → bn d = some ds → (∀ vs, RDs K H0 ds vs → Q vs H) → B x H Q
def b1 : D → Option (List D) := fun d => some [d]
theorem bd_1 : BD K b1 cB1 := fun H0 H x d ds Q s r e q => by
 simp only [b1, Option.some.injEq] at e
 subst e
 exact q [x] (.one r)
def sel (ix : List Nat) (ρ : DE) : DE := ix.map fun j => (ρ[j]?).getD none
def compL (bn : D → Option (List D)) (t : DE → R Bool) (f : DE → R D) (cs : DE) : List D → R (List D)
 | [] => .ok []
 | d :: ds => (R.of (bn d)).bind fun bs => (t (bs.map some ++ cs)).noE.bind fun b => if b = true then (f (bs.map some ++ cs)).noE.bind fun y => (compL bn t f cs ds).bind fun ys => .ok (y :: ys) else compL bn t f cs ds
def eComp (fi : DE → R (List D)) (bn : D → Option (List D)) (ix : List Nat) (t : DE → R Bool) (f : DE → R D) : DE → R D := fun ρ => (fi ρ).bind fun ds => if ds.length ≤ 100000 then (compL bn t f (sel ix ρ) ds).bind fun ys => .ok (.lst ys) else .st
theorem RE.sel {ρ : DE} {vs : List V} {ds : List D} (h : RE K H0 ρ σ) (r : RDs K H0 ds vs) (ix : List Nat) : RE K H0 (ds.map some ++ sel ix ρ) (vs.map some ++ selV ix σ) := by
 have hl := r.length
 refine ⟨by simp [L2.sel, selV, hl], fun i d e => ?_⟩
 by_cases hi : i < ds.length
 . rw [List.getElem?_append_left (by simpa using hi), List.getElem?_map] at e
   rw [List.getElem?_append_left (by simpa [← hl] using hi), List.getElem?_map]
   cases q : ds[i]? with
   | none => rw [q] at e; cases e
   | some d' =>
     rw [q] at e; cases e
     obtain ⟨x, h1, h2⟩ := r.get' q
     exact ⟨x, by rw [h1]; rfl, h2⟩
 . rw [List.getElem?_append_right (by simpa using hi)] at e
   rw [List.getElem?_append_right (by simpa [← hl] using hi)]
   simp only [List.length_map] at e ⊢
   rw [← hl]
   unfold L2.sel at e
   unfold selV
   rw [List.getElem?_map] at e ⊢
   cases q : ix[i - ds.length]? with
   | none => rw [q] at e; cases e
   | some j =>
     rw [q] at e
     simp only [Option.map_some, Option.some.injEq] at e ⊢
     cases qj : ρ[j]? with
     | none => rw [qj] at e; cases e
     | some o =>
       rw [qj] at e
       simp only [Option.getD_some] at e
       subst e
       obtain ⟨v, h1, h2⟩ := h.2 j d qj
       exact ⟨v, by rw [h1]; rfl, h2⟩
theorem z3c {n : Nat} (h : n < 100000) : n < sizeLine := Nat.lt_of_lt_of_le h (by decide)
theorem d_comp {kp : Bool} {fi : DE → R (List D)} {bn : D → Option (List D)} {B : V → Hp → (List V → Hp → Prop) → Prop} {ix : List Nat} {t : DE → R Bool} {f : DE → R D} {Q : VK} {tt : TT} (hB : BD K bn B) (htt : ∀ σ H Q, TTd K F0 t σ H Q → tt σ H Q)
   (h : TEd K EX true (eComp fi bn ix t f) σ H Q) : tComp (TId K EX kp fi) B ix tt (TEd K F0 false f) σ H Q := by
 obtain ⟨sx, ρ, H0, s, e, h⟩ := h
 unfold eComp at h
 rw [Rk.bind] at h
 refine ⟨sx, ρ, H0, s, e, h.mono fun ds h J H1 H1' s1 e1 it D hD => ?_⟩
 split at h
 . rename_i hsz
   rw [Rk.bind] at h
   have it' : ItOk K J H1' ds := by
     cases kp with
     | true => rw [if_pos rfl] at it; exact ⟨fun i d q H H1 a b => it.1 i d q H H1 (fun _ _ z => nomatch z) b, fun H a => it.2 H fun _ _ z => nomatch z⟩
     | false => rw [if_neg Bool.false_ne_true] at it; exact it
   have e' := e.mono e1.1
   have hDn : H1' D = none := e1.2.1.none hD
   refine ⟨fun i mm ys H2 => mm = ds.length - i ∧ i ≤ ds.length ∧ ys.length ≤ i ∧ ∃ acc H2', Same H1 H2 ∧ H2 D = some (.lst ys) ∧ Ext H1' H1 H2' H2 ∧ H2' D = none ∧ RDs K H2' acc ys ∧
     Rk EX.at (compL bn t f (L2.sel ix ρ) (ds.drop i)) fun rest => ∀ v H', Out K true H0 H (.lst (acc ++ rest)) v H' → Q v H', ⟨ds.length, by simp, Nat.zero_le _, Nat.le_refl _, [], H1', Same.upd_new hD, z8, (Ext.refl e1.2.1).grow (Same.upd_new hD), hDn, .nil, h⟩, ?_⟩
   rintro i mm ys H2 ⟨rfl, hi, hys, acc, H2', s2, hd2, e2, hdn2, r2, h⟩
   refine ⟨hd2, ?_⟩
   by_cases hlt : i < ds.length
   . have hd : ds[i]? = some ds[i] := by simp [hlt]
     obtain ⟨hgo, hy⟩ := it'.1 i _ hd H2 H2' e2.1 e2.2.1
     have hdr : ds.drop i = ds[i] :: ds.drop (i + 1) := List.drop_eq_getElem_cons hlt
     rw [hdr] at h
     unfold compL at h
     rw [Rk.bind] at h
     obtain ⟨bs, hbs, h⟩ := h.of
     rw [Rk.bind] at h
     refine .inr ⟨hgo, fun x H3 y => ?_⟩
     obtain ⟨s3, H3', e3, r3⟩ := hy x H3 y
     refine hB H3' H3 x _ bs _ e3.2.1 r3 hbs fun vs rvs => ?_
     have en := (e'.mono (e2.1.trans e3.1)).sel rvs ix
     have e23 := e2.trans s2 e3
     refine htt _ _ _ ⟨F0.same _, _, H3', e3.2.1, en, (Rk.noE h).mono fun b h H4 s4 => ?_⟩
     have s14 := s2.trans (s3.trans s4)
     have hd4 : H4 D = some (.lst ys) := s4 _ _ (s3 _ _ hd2)
     have hdn3 : H3' D = none := e3.2.2 D (za6 hd2) hdn2
     have e14 : Ext H1' H1 H3' H4 := e23.grow s4
     cases b with
     | false =>
       rw [if_neg Bool.false_ne_true] at h
       dsimp only
       rw [if_neg Bool.false_ne_true]
       exact ⟨ds.length - (i + 1), by omega, rfl, hlt, by omega, acc, H3', s14, hd4, e14, hdn3, r2.mono e3.1, h⟩
     | true =>
       rw [if_pos rfl] at h
       dsimp only
       rw [if_pos rfl]
       rw [Rk.bind] at h
       refine ⟨F0.same _, _, H3', e14.2.1, en, (Rk.noE h).mono fun y h w H5 o5 => ?_⟩
       obtain ⟨s5, H5', e5, r5⟩ := o5.rd
       have hd5 : H5 D = some (.lst ys) := s5 _ _ hd4
       have hdn5 : H5' D = none := e5.2.2 D (za6 hd4) hdn3
       have e15 := e14.trans s14 e5
       rw [Rk.bind] at h
       refine ⟨hd5, z3c (by omega), ds.length - (i + 1), by omega, rfl, hlt, by rw [List.length_append]; show ys.length + 1 ≤ i + 1; omega, acc ++ [y], H5', (s14.trans s5).upd_at hD, z8, ⟨e15.1, e15.2.1.upd_at hdn5, e15.2.2⟩, hdn5, ((r2.mono (e3.1.trans e5.1))).append (.one r5), ?_⟩
       exact h.mono fun rest h v H' o => h v H' (by simpa using o)
   . have ei : i = ds.length := by omega
     subst ei
     rw [List.drop_length] at h
     refine .inl ⟨it'.2 H2 (e2.1.trans e2.2.1), h _ H2 ?_⟩
     rw [List.append_nil]
     refine Out.after s1 e1 (.fresh s2 e2 hD hdn2 ?_)
     simp only [OB]
     exact ⟨ys, hd2, r2⟩
 . exact h.elim
def mOf (fr : Bool) (n k : Nat) (g : DS → SR) : List D → R D := fun ds => if ds.length = n then (match g (ds.map .im ++ List.replicate k .em) with
 | .rt d => .ok d
 | .nx _ => if fr = true then .st else .ok .non
 | .er x => .er x
 | _ => .st) else .st
def xNm (mg : Str → Option Value) (E : XK) (x : Ex) (H : Hp) : Prop := ∃ C, mg (x.cls : Str) = some (.ref C) ∧ E (.ref C) none H
def spD (K : PySem.W.Frag) (mg : Str → Option Value) (fr : Bool) (m : List D → R D) (n : Nat) : Sp := fun vs H Q E => ∃ ds H0, Same H0 H ∧ RDs K H0 ds vs ∧ ds.length = n ∧ Rk (XW.at ⟨H, xNm mg E⟩) (m ds) fun d => ∀ v H', Out K fr H0 H d v H' → Q v H'
def cCallX (sp : Sp) (E : XK) (t : TA) : TE := fun σ H Q => t σ H fun vs H1 => sp vs H1 Q E
theorem d_call {mg : Str → Option Value} {E : XK} {m : List D → R D} {n : Nat} {fs : DE → R (List D)} {Q : VK} (hl : ∀ ds, ds.length ≠ n → m ds = .st) (hE : ∀ x H, EX.p x H → xNm mg E x H) (h : TEd K EX fr (eCall m fs) σ H Q) : cCallX (spD K mg fr m n) E (TAd K EX fs) σ H Q := by
 obtain ⟨sx, ρ, H0, s, e, h⟩ := h
 unfold eCall at h
 rw [Rk.bind] at h
 refine TAd.go sx s e h fun ds h vs H1 H1' s1 e1 r1 => ?_
 refine ⟨ds, H1', e1.2.1, r1, ?_, ?_⟩
 . apply Classical.byContradiction
   intro hn
   rw [hl ds hn] at h
   exact h
 . cases q : m ds with
   | ok d => rw [q] at h; exact fun v H' o => h v H' (o.after s1 e1)
   | er x => rw [q] at h; exact fun H' s' => hE x H' (h H' ((sx.trans s1).trans s'))
   | st => rw [q] at h; exact h
theorem z1c7 {n k : Nat} {g : DS → SR} (ds : List D) (h : ds.length ≠ n) : mOf fr n k g ds = .st := by unfold mOf; rw [if_neg h]
theorem z18d {vs : List V} {ds : List D} (s : Same H0 H) (r : RDs K H0 ds vs) (k : Nat) : RS K H0 H H0 (ds.map .im ++ List.replicate k .em) (vs.map some ++ List.replicate k none) H := by
 have hl := r.length
 have noow : ∀ (i : Nat) d, (ds.map Sl.im ++ List.replicate k Sl.em)[i]? ≠ some (.ow d) := fun i d q => by
   rcases List.mem_append.mp (List.mem_of_getElem? q) with z | z
   . obtain ⟨_, _, z⟩ := List.mem_map.mp z; cases z
   . have := (List.mem_replicate.mp z).2; cases this
 refine ⟨Same.refl _, .refl s, by simp [hl], fun i d q => ?_, fun i d q => absurd q (noow i d), fun i j d e a q => absurd q (noow i d)⟩
 by_cases hi : i < ds.length
 . rw [List.getElem?_append_left (by simpa using hi), List.getElem?_map] at q
   rw [List.getElem?_append_left (by simpa [← hl] using hi), List.getElem?_map]
   cases qd : ds[i]? with
   | none => rw [qd] at q; cases q
   | some d' =>
     rw [qd] at q
     simp only [Option.map_some, Option.some.injEq, Sl.im.injEq] at q
     subst q
     obtain ⟨x, h1, h2⟩ := r.get' qd
     exact ⟨x, by rw [h1]; rfl, h2⟩
 . rw [List.getElem?_append_right (by simpa using hi)] at q
   have := (List.mem_replicate.mp (List.mem_of_getElem? q)).2
   cases this
theorem d_body {n k : Nat} {g : DS → SR} {vs : List V} {Q : VK} {E : XK} {mg : Str → Option Value} (h : spD K mg fr (mOf fr n k g) n vs H Q E) :
   TSd K ⟨H, xNm mg E⟩ fr g { nx := fun _ H' => Q .non H', rt := Q } (vs.map some ++ List.replicate k none) H := by
 obtain ⟨ds, H0, s, r, hn, h⟩ := h
 refine ⟨H0, H, H0, _, Same.refl _, z18d s r k, ?_⟩
 unfold mOf at h
 rw [if_pos hn] at h
 cases q : g (ds.map .im ++ List.replicate k .em) with
 | nx ρ =>
   rw [q] at h
   cases fr with
   | true => exact h.elim
   | false => exact fun σ H' H0' I => h _ H' (.val I.sb I.ext (by simp only [RD]))
 | rt d => rw [q] at h; exact h
 | er x => rw [q] at h; exact h
 | bk ρ => rw [q] at h; exact h.elim
 | ct ρ => rw [q] at h; exact h.elim
 | st => rw [q] at h; exact h.elim
end
theorem ObjOk.there {P : Program} {w : World} {H : Hp} {h : Heap} {a : Addr} {o : HO} (x : ObjOk P w H h a o) : ∃ ob, h.get? a = some ob := by
 induction o with
 | lst xs => obtain ⟨_, _, _, _, e⟩ := x; exact ⟨_, e⟩
 | tup xs => obtain ⟨_, _, _, ob, e, _⟩ := x; exact ⟨_, e⟩
 | dK kvs => obtain ⟨_, _, _, _, o, _, _, e, _⟩ := x; exact ⟨_, e⟩
 | dT kvs => obtain ⟨_, _, _, _, o, _, _, e, _⟩ := x; exact ⟨_, e⟩
 | set S n => obtain ⟨o, _, _, _, e, _⟩ := x; exact ⟨_, e⟩
 | ins C dx fs => obtain ⟨_, _, _, e, _⟩ := x; exact ⟨_, e⟩
 | own y => exact x
 | xd fs => obtain ⟨_, ⟨_, _, _, e, _⟩, _⟩ := x; exact ⟨_, e⟩
 | rng lo hi => obtain ⟨_, _, _, e⟩ := x; exact ⟨_, e⟩
 | frz ob u ih => exact ⟨_, x.1⟩
 | tbl ps => exact ⟨_, x⟩
 | met f y => exact ⟨_, x⟩
 | ext φ => exact x.2.1
theorem HOk.none {P : Program} {w : World} {H : Hp} {h : Heap} {a : Addr} (x : HOk P w H h) (e : h.get? a = Option.none) : H a = Option.none := by
 cases q : H a with
 | none => rfl
 | some o =>
   obtain ⟨ob, z⟩ := (x a o q).there
   rw [e] at z; cases z
def Fly (h0 : Heap) (H' : Hp) (C a : Addr) (h : Heap) : Prop := ∃ oe vs T oT ts a0, h.get? a = some oe ∧ oe.cls = .ref C ∧ vs[0]? = some a0 ∧ oe.data = .fields vs ∧ vs[1]? = some (.ref T) ∧ T ≠ a ∧ h.get? T = some oT ∧ oT.data = .fields ts ∧ ts[3]? = some Value.none ∧
 h0.get? a = none ∧ h0.get? T = none ∧ H' a = none ∧ H' T = none
structure XOut (P : Program) (w : World) (outer : List Env) (H : Hp) (s : Shared) (C a : Addr) (H' : Hp) (s' : Shared) : Prop where
 os : s'.os = s.os
 bare : AllBare s'.gens
 un : Un (frs outer) [] H H' s.heap s'.heap
 hok : HOk P w H' s'.heap
 fly : Fly s.heap H' C a s'.heap
def CX1 (P : Program) (w : World) : CXT := fun outer H s E e s' => ∃ C a H', e = .ref a ∧ XOut P w outer H s C a H' s' ∧ E (.ref C) none H'
theorem zdb {l : List Addr} {h : Heap} {b : Addr} (e : (PySem.W.hideAll h l).get? b = none) : b ∈ l ∨ h.get? b = none := by
 by_cases hb : b ∈ l
 . exact .inl hb
 . cases q : h.get? b with
   | none => exact .inr rfl
   | some o => rw [PySem.W.hideAll_get l q hb] at e; cases e
section
variable {X : Cx} {pins : List (Addr × Obj)} {σ : List (Option V)} {H1 H2 : Hp} {s1 s2 : Shared} {h' B : Heap} {Z : List Addr} {C a : Addr} {a0 : Value}
theorem Inv.stack2 (I : Inv X pins σ H1 s1) (un : Un (frs X.stack) [] H1 H2 s1.heap s2.heap) : s2.heap.FunFrames X.base X.stack := by
 have all : ∀ (l : List Env), (∀ b ∈ frs l, b ∈ frs X.stack) → s1.heap.FunFrames X.base l → s2.heap.FunFrames X.base l := by
   intro l
   induction l with
   | nil => intro _ _; trivial
   | cons env r ih =>
     intro hs hl
     obtain ⟨hk, ⟨L, o, hf, hn, ho, hd⟩, hr⟩ := hl
     have hL : L ∈ frs X.stack := hs L (by unfold frs; rw [List.filterMap_cons, hf]; exact List.mem_cons_self)
     obtain ⟨sl, e⟩ := un.slot L o ho (I.stkFree L hL) hL (by simp)
     exact ⟨hk, ⟨L, _, hf, hn, e, hd⟩, ih (fun b hb => hs b (by unfold frs; rw [List.filterMap_cons, hf]; exact List.mem_cons_of_mem _ hb)) hr⟩
 exact all X.stack (fun _ hb => hb) I.stack
theorem za8 (I : Inv X pins σ H1 s1) (hst : X.stack = X.env :: X.outer) (hex : X.ex = []) (hos : s2.os = s1.os) (hbare : AllBare s2.gens) (un : Un (frs X.stack) [] H1 H2 s1.heap s2.heap) (hok : HOk X.prog X.w H2 s2.heap)
   (hZ : ∀ b ∈ Z, s1.heap.get? b = none ∧ H2 b = none) (ha : s1.heap.get? a = none) (hHa : H2 a = none) (keep : ∀ b o, s2.heap.get? b = some o → b ∉ Z → b ∉ frs X.stack → h'.get? b = some o)
   (up : s2.heap.UpToSlots h') (hB : ∀ b, B.get? b = none → b ∈ frs X.stack ∨ (s1.heap.get? b = none ∧ H2 b = none)) (hfl : Heap.FlyingW B X.outer a (.ref C) a0 h') :
   XOut X.prog X.w X.outer X.H₀ X.s₀ C a H2 { s2 with heap := h' } := by
 have base : Un X.fs [] X.H₀ H1 X.s₀.heap s1.heap := hex ▸ I.base
 have F2 := I.stack2 un
 have sub : ∀ b ∈ frs X.outer, b ∈ frs X.stack := fun b hb => by
   rw [hst]; unfold frs
   cases q : X.env.frame with
   | none => rw [List.filterMap_cons, q]; exact hb
   | some L => rw [List.filterMap_cons, q]; exact List.mem_cons_of_mem _ hb
 have neL : ∀ b o, X.s₀.heap.get? b = some o → b ≠ X.env.locals := fun b o e => Nat.ne_of_lt (Nat.lt_of_lt_of_le (Heap.lt_size e) I.ok.above)
 have nost : ∀ b o, X.s₀.heap.get? b = some o → b ∉ frs X.outer → b ∉ frs X.stack := fun b o e hb z => (List.mem_cons.mp (I.stkSub b z)).elim (neL b o e) hb
 have fresh0 : ∀ b, s1.heap.get? b = none → X.s₀.heap.get? b = none := fun b e => by
   cases q : X.s₀.heap.get? b with
   | none => rfl
   | some o =>
     obtain ⟨o', z⟩ := base.there b o q (by simp)
     rw [e] at z; cases z
 have noZ : ∀ b o, X.s₀.heap.get? b = some o → b ∉ Z := fun b o e hb => by
   rw [fresh0 b (hZ b hb).1] at e; cases e
 have frFree : ∀ b ∈ frs X.stack, H2 b = none := fun b hb => by
   obtain ⟨_, o, ho, _⟩ := I.stack.mem hb
   exact un.free b o ho (I.stkFree b hb) (by simp)
 have slotF : ∀ b ∈ frs X.stack, ∀ o, s2.heap.get? b = some o → ∃ sl, h'.get? b = some { o with slots := sl } := fun b hb o e => by
   obtain ⟨_, o', ho', hd⟩ := F2.mem hb
   rw [e] at ho'; cases ho'
   exact up b o e hd
 refine ⟨by show s2.os = _; rw [hos, I.os], hbare, ⟨fun b o e n hb _ => ?_, fun b o e n hb _ => ?_, fun b o e n _ => ?_, fun b o e _ => ?_, fun b xs e => un.tups b xs (base.tups b xs e), fun b o u e => un.frzs b o u (base.frzs b o u e), fun b ps e => ?_⟩, fun b o e => ?_, ?_⟩
 . exact keep b o (un.keep b o (base.keep b o e n hb (by simp)) (base.free b o e n (by simp)) (nost b o e hb) (by simp)) (noZ b o e) (nost b o e hb)
 . obtain ⟨sl, e1⟩ := base.slot b o e n hb (by simp)
   obtain ⟨sl2, e2⟩ := un.slot b _ e1 (base.free b o e n (by simp)) (sub b hb) (by simp)
   obtain ⟨sl3, e3⟩ := slotF b (sub b hb) _ e2
   exact ⟨sl3, e3⟩
 . obtain ⟨o1, e1⟩ := base.there b o e (by simp)
   exact un.free b o1 e1 (base.free b o e n (by simp)) (by simp)
 . obtain ⟨o1, e1⟩ := base.there b o e (by simp)
   obtain ⟨o2, e2⟩ := un.there b o1 e1 (by simp)
   by_cases hb : b ∈ frs X.stack
   . obtain ⟨sl, e3⟩ := slotF b hb _ e2
     exact ⟨_, e3⟩
   . exact ⟨o2, keep b o2 e2 (noZ b o e) hb⟩
 . obtain ⟨m1, e1⟩ := base.tbls b ps e
   obtain ⟨m2, e2⟩ := un.tbls b _ e1
   exact ⟨m1 ++ m2, by rw [e2, Array.append_assoc]⟩
 . refine (hok b o e).stay (fun c v hc q => keep c v q (fun hz => ?_) fun hf => ?_) (fun _ q => q) fun _ _ q => q
   . have := (hZ c hz).2
     rcases hc with rfl | hc
     . rw [e] at this; cases this
     . rw [hc] at this; cases this
   . have := frFree c hf
     rcases hc with rfl | hc
     . rw [e] at this; cases this
     . rw [hc] at this; cases this
 . obtain ⟨_, _, _, oe, vs, T, oT, ts, he, ⟨hc, h0⟩, hd, h1, hnT, hTe, hT, hdT, h3⟩ := hfl
   have hTn : s1.heap.get? T = none ∧ H2 T = none := by
     rcases hB T hnT with z | z
     . obtain ⟨_, o', ho', hd'⟩ := F2.mem z
       obtain ⟨sl, e3⟩ := slotF T z o' ho'
       rw [hT] at e3; cases e3
       exact absurd hdT (hd' ts)
     . exact z
   exact ⟨oe, vs, T, oT, ts, a0, he, hc, h0, hd, h1, hTe, hT, hdT, h3, fresh0 a ha, fresh0 T hTn.1, hHa, hTn.2⟩
theorem z18e (I : Inv X pins σ H1 s1) (hst : X.stack = X.env :: X.outer) (hex : X.ex = []) (hf : X.env.frame = some X.env.locals) (x : XOut X.prog X.w X.stack H1 s1 C a H2 s2) {E : Value → Shared → Prop} {Q : Unit → Shared → Prop}
   (h : ∀ s', XOut X.prog X.w X.outer X.H₀ X.s₀ C a H2 s' → Q () s') : wpAny (model X.prog X.w) X.A (leaving X.env (.ref a)) Q E s2 := by
 obtain ⟨oe, vs, T, oT, ts, a0, he, hc, h0, hd, h1, hTe, hT, hdT, h3, na, nT, ha, hHT⟩ := id x.fly
 have F2 := I.stack2 x.un
 have hin : ∀ env ∈ X.stack, ∀ b, env.frame = some b → b ∈ a :: T :: frs X.stack := fun env he b hb => List.mem_cons_of_mem _ (List.mem_cons_of_mem _ (List.mem_filterMap.mpr ⟨env, he, hb⟩))
 have hfr : X.A.frames = some (X.env :: X.outer) := by rw [← hst]; exact I.ok.frames
 refine wpAny_leaves_onW (base := PySem.W.hideAll s2.heap (a :: T :: frs X.stack)) (cls := .ref C) (a0 := a0) hfr hf ⟨fun b o q => PySem.W.of_hideAll _ q, PySem.W.hideAll_none _ (.head _), hst ▸ PySem.W.funFrames_hide F2 hin, ?_⟩ fun h' hfl up => h _ (za8 (Z := [a, T]) I hst hex x.os x.bare x.un x.hok (fun b hb => ?_) na ha (fun b o q hz hfs => hfl.1 b o (PySem.W.hideAll_get _ q ?_)) up (fun b q => ?_) hfl)
 . exact ⟨oe, vs, T, oT, ts, he, ⟨hc, h0⟩, hd, h1, PySem.W.hideAll_none _ (.tail _ (.head _)), hTe, hT, hdT, h3⟩
 . rcases List.mem_cons.mp hb with rfl | hb
   . exact ⟨na, ha⟩
   . have : b = T := by simpa using hb
     subst this; exact ⟨nT, hHT⟩
 . intro z
   rcases List.mem_cons.mp z with rfl | z
   . exact hz (.head _)
   . rcases List.mem_cons.mp z with rfl | z
     . exact hz (.tail _ (.head _))
     . exact hfs z
 . rcases zdb q with z | z
   . rcases List.mem_cons.mp z with rfl | z
     . exact .inr ⟨na, ha⟩
     . rcases List.mem_cons.mp z with rfl | z
       . exact .inr ⟨nT, hHT⟩
       . exact .inl z
   . refine .inr ⟨?_, x.hok.none z⟩
     cases q1 : s1.heap.get? b with
     | none => rfl
     | some o =>
       obtain ⟨o', e'⟩ := x.un.there b o q1 (by simp)
       rw [z] at e'; cases e'
theorem z10b (I : Inv X pins σ H1 s1) (hst : X.stack = X.env :: X.outer) (hex : X.ex = []) (hf : X.env.frame = some X.env.locals) {args : List Value} (hx : Heap.MadeExcOf s1.heap s2.heap a (.ref C) args) (hos : s2.os = s1.os) (hbare : AllBare s2.gens) {E : Value → Shared → Prop} {Q : Unit → Shared → Prop}
   (h : ∀ s', XOut X.prog X.w X.outer X.H₀ X.s₀ C a H1 s' → Q () s') : wpAny (model X.prog X.w) X.A (leaving X.env (.ref a)) Q E s2 := by
 have hin : ∀ env ∈ X.stack, ∀ b, env.frame = some b → b ∈ frs X.stack := fun env he b hb => List.mem_filterMap.mpr ⟨env, he, hb⟩
 have hfr : X.A.frames = some (X.env :: X.outer) := by rw [← hst]; exact I.ok.frames
 obtain ⟨t, het, htn, ht⟩ := hx.there
 refine wpAny_leaves_madeW (base := PySem.W.hideAll s1.heap (frs X.stack)) (h := s1.heap) hfr hf (fun b o q => PySem.W.of_hideAll _ q) (hst ▸ PySem.W.funFrames_hide I.stack hin) hx fun h' t' hfl htup htb up => h _ ?_
 refine za8 (B := PySem.W.hideAll s1.heap (frs X.stack)) (Z := s2.heap.objs.size :: (List.range s2.heap.objs.size).filter fun b => (s1.heap.get? b).isNone) I hst hex hos hbare (Un.kept hx.keeps) (I.hok.kept hx.keeps) (fun b hb => ?_) hx.new (I.hok.none hx.new) (fun b o q hz hfs => ?_) up (fun b q => ?_) hfl
 . rcases List.mem_cons.mp hb with rfl | hb
   . have e : s1.heap.get? s2.heap.objs.size = none := by
       cases q : s1.heap.get? s2.heap.objs.size with
       | none => rfl
       | some o => exact absurd (Heap.lt_size (hx.keeps _ o q)) (Nat.lt_irrefl _)
     exact ⟨e, I.hok.none e⟩
   . have e := (List.mem_filter.mp hb).2
     have e : s1.heap.get? b = none := by simpa using e
     exact ⟨e, I.hok.none e⟩
 . cases e : s1.heap.get? b with
   | none => exact absurd (.tail _ (List.mem_filter.mpr ⟨List.mem_range.mpr (Heap.lt_size q), by simp [e]⟩)) hz
   | some o' =>
     have := hx.keeps b o' e
     rw [q] at this; cases this
     exact hfl.1 b o (PySem.W.hideAll_get _ e hfs)
 . rcases zdb q with z | z
   . exact .inl z
   . exact .inr ⟨z, I.hok.none z⟩
end
def eOf (EX : XW) (mg : Str → Option Value) : XK := fun cv _ H => ∃ x : Ex, EX.p x H ∧ mg (x.cls : Str) = some cv
structure Lnd (X : Cx) (EX : XW) : Prop where
 nm : ∀ x H, EX.p x H → ∃ C, X.mg (x.cls : Str) = some (.ref C)
 on : Passes (CX1 X.prog X.w) X (eOf EX X.mg)
 md : ∀ (pins : List (Addr × Obj)) (σ : St) (H : Hp) (s : Shared) (a C : Addr) (s' : Shared) (x : Ex) (args : List Value), Inv X pins σ H s → Heap.MadeExcOf s.heap s'.heap a (.ref C) args → s'.os = s.os → AllBare s'.gens → X.mg (x.cls : Str) = some (.ref C) → EX.p x H → X.xe (.ref a) s'
theorem lnd0 {X : Cx} : Lnd X F0 := ⟨fun _ _ z => z.elim, fun _ _ _ _ _ _ _ ⟨_, _, _, _, _, _, z, _⟩ => z.elim, fun _ _ _ _ _ _ _ _ _ _ _ _ _ _ z => z.elim⟩
theorem lndF {P : Program} {w : World} {K : PySem.W.Frag} {mg : Str → Option Value} {base : Heap} {N : List Str} {qual : Str} {sc : Scope} {f : Addr} {cdv : Value} {A : Around} {outer : List Env} {s : Shared} {H : Hp} {E : XK} :
   Lnd (cxOf (CX1 P w) P w K mg base N qual sc f cdv A outer s H E) ⟨H, xNm mg E⟩ := by
 refine ⟨fun x H ⟨C, hC, _⟩ => ⟨C, hC⟩, ?_, ?_⟩
 . rintro pins σ H1 s1 e s' I ⟨C, a, H', rfl, xo, x, ⟨C', hC', hE⟩, hmg⟩
   have hmg : mg (x.cls : Str) = some (.ref C) := hmg
   rw [hC'] at hmg
   cases hmg
   exact z18e I rfl rfl rfl xo fun s'' y => ⟨_, a, H', rfl, y, hE⟩
 . rintro pins σ H1 s1 a C s' x args I hx ho hb hmg ⟨C', hC', hE⟩
   have hmg : mg (x.cls : Str) = some (.ref C) := hmg
   rw [hC'] at hmg
   cases hmg
   exact z10b I rfl rfl rfl hx ho hb fun s'' y => ⟨_, a, H1, rfl, y, hE⟩
def GotX (P : Program) (w : World) (K : PySem.W.Frag) (mg : Str → Option Value) (base : Heap) (x : Str) (ps : List Str) (k : Nat) (sp : Sp) : Prop :=
 ∃ f fd, FnOk P w K mg base (CX1 P w) k f fd ps sp ∧ Binds K fd ps [] ∧ mg x = some (.ref f) ∧ PySem.W.keepIn K (.ref f) = true
section
variable {X : Cx} {x : Str} {p pos : Pos} {e : Expr} {es : List Expr} {t : TA} {ps : List Str} {k j : Nat} {sp : Sp} {E : XK}
theorem z1c8 (G : GotX X.prog X.w X.K X.mg X.base x ps k sp) (hx : Passes (CX1 X.prog X.w) X E) (hr : Room j X.A) (hg : Gl X x) (ha : PA X (e :: es) t) (hkj : k ≤ j := by omega) (hdb : (x == ("__debug__" : Str)) = false := by decide)
   (he : starEach (e :: es) X.env = (false, eval e X.env) :: starEach es X.env := by rfl) (hpl : (backTo pos (starEach es X.env)).any (·.1) = false := by rfl) : PE X (.Call (.Name x p) (e :: es) [] pos) (cCallX sp E t) := by
 obtain ⟨f, fd, F, b, m, kp⟩ := G
 refine (z1b2 F (hr.mono hkj) hg m kp b .nil hx ha hdb he hpl).imp fun σ H Q q => ?_
 unfold tCall
 unfold cCallX at q
 simpa only [List.append_nil] using q
end
theorem Fun.okX {P : Program} {w : World} {K : PySem.W.Frag} {mg : Str → Option Value} {base : Heap} {x qual : Str} {st : Stmt} {f : Addr} {fd : FuncData} {N ps : List Str} {k : Nat} {sp : Sp} {CX : CXT} (F : Fun K x qual st f fd) (S : FnScope N ps (z0 st)) (len : ∀ vs H Q E, sp vs H Q E → vs.length = ps.length)
   (hbody : ∀ (cdv : Value) (A : Around) (outer : List Env) (s : Shared) (H : Hp) (vs : List V) (Q : VK) (E : XK), Room k (A.deeper (envOfC qual (z0 st) s.heap.objs.size f cdv)) → sp vs H Q E →
     ∃ t, PSs (cxOf CX P w K mg base N qual (z0 st) f cdv A outer s H E) (zf st) t ∧ t { nx := fun _ H' => Q .non H', rt := Q } (start N vs) H) : FnOk P w K mg base CX (k + 1) f fd ps sp := by
 obtain ⟨oc, od, kV, doc, pm, an, cdv, ct, osl, rfl, lk, hcd⟩ := F.ex
 refine fn_of lk hcd S len fun A outer s H vs Q E hr hsp => ?_
 exact hbody cdv A outer s H vs Q E hr hsp
section
variable {K : PySem.W.Frag} {H : Hp} {v : V}
theorem RD.int {i : Int} (h : RD K H (.int i) v) : v = .int i := by simpa only [RD] using h
theorem RD.str {i : Str} (h : RD K H (.str i) v) : v = .str i := by simpa only [RD] using h
theorem RD.non (h : RD K H .non v) : v = .non := by simpa only [RD] using h
theorem RD.tup {ds : List D} (h : RD K H (.tup ds) v) : ∃ a xs, v = .ref a ∧ H a = some (.tup xs) ∧ RDs K H ds xs := by simpa only [RD] using h
theorem RD.lst {ds : List D} (h : RD K H (.lst ds) v) : ∃ a xs, v = .ref a ∧ H a = some (.lst xs) ∧ RDs K H ds xs := by simpa only [RD] using h
theorem RD.dk {ks : List Key} {ds : List D} (h : RD K H (.dk ks ds) v) : ∃ a xs, v = .ref a ∧ H a = some (.dK (ks.zip xs)) ∧ ks.length = xs.length ∧ RDs K H ds xs := by simpa only [RD] using h
theorem RD.dt {ks : List (List Key)} {ds : List D} (h : RD K H (.dt ks ds) v) : ∃ a xs, v = .ref a ∧ H a = some (.dT (ks.zip xs)) ∧ ks.length = xs.length ∧ RDs K H ds xs := by simpa only [RD] using h
theorem RD.scr {ns : List Int} (h : RD K H (.scr ns) v) : ∃ a, v = .ref a ∧ SqL K H a (ns.map V.int) := by
 simp only [RD] at h
 obtain ⟨a, e, h | h⟩ := h
 . exact ⟨a, e, .inl (.inr h)⟩
 . exact ⟨a, e, .inr h⟩
theorem RD.mkInt (i : Int) : RD K H (.int i) (.int i) := by simp only [RD]
theorem RD.mkBl (i : Bool) : RD K H (.bl i) (.bl i) := by simp only [RD]
theorem RD.mkStr (i : Str) : RD K H (.str i) (.str i) := by simp only [RD]
theorem RD.mkTup {a : Addr} {xs : List V} {ds : List D} (h : H a = some (.tup xs)) (r : RDs K H ds xs) : RD K H (.tup ds) (.ref a) := by simp only [RD]; exact ⟨a, xs, rfl, h, r⟩
end
def dI (g : Int → Int → D) : D → D → Option D
 | .int i, .int j => some (g i j)
 | _, _ => none
def dIC (C : Int → Int → Prop) [∀ i j, Decidable (C i j)] (g : Int → Int → D) : D → D → Option D
 | .int i, .int j => if C i j then some (g i j) else none
 | _, _ => none
def dOr (o p : D → D → Option D) : D → D → Option D := fun d e => match o d e with
 | some z => some z
 | none => p d e
section
variable {K : PySem.W.Frag}
theorem OpD.weak {fr : Bool} {o : D → D → Option D} {r : R2} (h : OpD K fr o r) : OpD K false o r := fun H0 H x y d e z Q s rx ry ho k => h H0 H x y d e z Q s rx ry ho fun v H' q => k v H' q.weak
theorem OpD.or {f1 f2 : Bool} {o p : D → D → Option D} {r q : R2} (h1 : OpD K f1 o r) (h2 : OpD K f2 p q) : OpD K false (dOr o p) (fun x y H Q => r x y H Q ∨ q x y H Q) := by
 intro H0 H x y d e z Q s rx ry ho k
 unfold dOr at ho
 split at ho
 . rename_i z' hz
   cases ho
   exact .inl (h1.weak H0 H x y d e z Q s rx ry hz k)
 . exact .inr (h2.weak H0 H x y d e z Q s rx ry ho k)
theorem od_I {gv : Int → Int → V} {gd : Int → Int → D} (h : ∀ i j H, RD K H (gd i j) (gv i j)) : OpD K false (dI gd) (cI gv) := by
 intro H0 H x y d e z Q s rx ry ho k
 cases d <;> simp only [dI] at ho <;> first | cases ho | skip
 cases e <;> simp only [dI] at ho <;> first | cases ho | skip
 cases rx.int; cases ry.int
 exact k _ H (.pure s (h _ _ _))
theorem od_IC {C : Int → Int → Prop} [∀ i j, Decidable (C i j)] {gv : Int → Int → V} {gd : Int → Int → D} (h : ∀ i j H, RD K H (gd i j) (gv i j)) : OpD K false (dIC C gd) (cIC C gv) := by
 intro H0 H x y d e z Q s rx ry ho k
 cases d <;> simp only [dIC] at ho <;> first | cases ho | skip
 cases e <;> simp only [dIC] at ho <;> first | cases ho | skip
 cases rx.int; cases ry.int
 split at ho
 . rename_i hcc
   cases ho
   exact ⟨hcc, k _ H (.pure s (h _ _ _))⟩
 . cases ho
instance (i j : Int) : Decidable (CMul i j) := by unfold CMul; infer_instance
instance (i j : Int) : Decidable (CDiv i j) := by unfold CDiv; infer_instance
instance (i j : Int) : Decidable (CPow i j) := by unfold CPow; infer_instance
def dAddI : D → D → Option D := dI fun i j => .int (i + j)
def dSub : D → D → Option D := dI fun i j => .int (i - j)
def dMul : D → D → Option D := dIC CMul fun i j => .int (i * j)
def dDiv : D → D → Option D := dIC CDiv fun i j => .int (i / j)
def dMod : D → D → Option D := dIC (fun _ j => 0 < j) fun i j => .int (i % j)
def dLtI : D → D → Option D := dI fun i j => .bl (decide (i < j))
def dLe : D → D → Option D := dI fun i j => .bl (decide (i ≤ j))
def dGtI : D → D → Option D := dI fun i j => .bl (decide (j < i))
def dGe : D → D → Option D := dI fun i j => .bl (decide (j ≤ i))
theorem z63 : OpD K false dAddI (cI fun i j => .int (i + j)) := od_I fun _ _ _ => .mkInt _
theorem od_sub : OpD K false dSub (cI fun i j => .int (i - j)) := od_I fun _ _ _ => .mkInt _
theorem od_mul : OpD K false dMul (cIC CMul fun i j => .int (i * j)) := od_IC fun _ _ _ => .mkInt _
theorem od_div : OpD K false dDiv (cIC CDiv fun i j => .int (i / j)) := od_IC fun _ _ _ => .mkInt _
theorem od_mod : OpD K false dMod (cIC (fun _ j => 0 < j) fun i j => .int (i % j)) := od_IC fun _ _ _ => .mkInt _
theorem od_ltI : OpD K false dLtI (cI fun i j => .bl (decide (i < j))) := od_I fun _ _ _ => .mkBl _
theorem od_le : OpD K false dLe (cI fun i j => .bl (decide (i ≤ j))) := od_I fun _ _ _ => .mkBl _
theorem od_gtI : OpD K false dGtI (cI fun i j => .bl (decide (j < i))) := od_I fun _ _ _ => .mkBl _
def dNeg : D → Option D
 | .int i => some (.int (-i))
 | _ => none
theorem ud_neg : UnD K false dNeg (cU fun i => .int (-i)) := by
 intro H0 H x d z Q s rx ho k
 cases d <;> simp only [dNeg] at ho <;> first | cases ho | skip
 cases rx.int
 exact k _ H (.pure s (.mkInt _))
def dCat : D → D → Option D
 | .lst ds, .lst es => if ds.length + es.length ≤ 100000 then some (.lst (ds ++ es)) else none
 | _, _ => none
theorem k100 {n : Nat} (h : n ≤ 100000) : n ≤ sizeLine := Nat.le_trans h (by decide)
theorem od_cat : OpD K true dCat rCat := by
 intro H0 H x y d e z Q s rx ry ho k
 cases d <;> simp only [dCat] at ho <;> first | cases ho | skip
 cases e <;> simp only [dCat] at ho <;> first | cases ho | skip
 split at ho <;> cases ho
 rename_i hl
 obtain ⟨a, xs, rfl, ha, ra⟩ := rx.lst
 obtain ⟨b, ys, rfl, hb, rb⟩ := ry.lst
 refine ⟨a, b, xs, ys, rfl, rfl, s _ _ ha, s _ _ hb, by rw [← ra.length, ← rb.length]; exact k100 hl, fun p hp => k _ _ (.new s hp fun H' hH => ?_)⟩
 simp only [OB]
 exact ⟨_, hH, ra.append rb⟩
end
def dEq : D → D → Option D := fun d e => if d.pl = true ∧ e.pl = true ∧ d.dep ≤ 20 then some (.bl (eqD d e)) else none
def dNe : D → D → Option D := fun d e => if d.pl = true ∧ e.pl = true ∧ d.dep ≤ 20 then some (.bl (!eqD d e)) else none
def rEqD (K : PySem.W.Frag) : R2 := fun x y H Q => ∃ d e, RD K H d x ∧ RD K H e y ∧ d.pl = true ∧ e.pl = true ∧ d.dep ≤ 20 ∧ Q (.bl (eqD d e)) H
def rNeD (K : PySem.W.Frag) : R2 := fun x y H Q => ∃ d e, RD K H d x ∧ RD K H e y ∧ d.pl = true ∧ e.pl = true ∧ d.dep ≤ 20 ∧ Q (.bl (!eqD d e)) H
def dInS (neg : Bool) : D → D → Option D := fun d c => match c with
 | .lst es => if d.pl = true ∧ pls es = true ∧ deps es ≤ 20 then some (.bl (if neg then !(es.any fun e => eqD e d) else es.any fun e => eqD e d)) else none
 | .tup es => if d.pl = true ∧ pls es = true ∧ deps es ≤ 20 then some (.bl (if neg then !(es.any fun e => eqD e d) else es.any fun e => eqD e d)) else none
 | _ => none
def rInS (K : PySem.W.Frag) (neg : Bool) : R2 := fun x y H Q => ∃ p xs d es, y = .ref p ∧ (H p = some (.lst xs) ∨ H p = some (.tup xs)) ∧ RD K H d x ∧ RDs K H es xs ∧ d.pl = true ∧ pls es = true ∧ deps es ≤ 20 ∧ Q (.bl (if neg then !(es.any fun e => eqD e d) else es.any fun e => eqD e d)) H
section
variable {X : Cx} {K : PySem.W.Frag}
theorem o_eqD (hu : X.A.units + 64 < cLine) : OpR X (compareOp .Eq) (rEqD X.K) := by
 intro pins s σ H x y v u Q I rx ry h
 obtain ⟨d, e, h1, h2, p1, p2, h3, q⟩ := h
 exact rcAt_D (n := 20) I p1 p2 h3 (by omega) h1 h2 rx ry X.prog X.w X.xe _ ⟨.bl _, H, I, rfl, q⟩
theorem o_neD (hu : X.A.units + 64 < cLine) : OpR X (compareOp .NotEq) (rNeD X.K) := by
 intro pins s σ H x y v u Q I rx ry h
 obtain ⟨d, e, h1, h2, p1, p2, h3, q⟩ := h
 exact rcNe_D (n := 20) I p1 p2 h3 (by omega) h1 h2 rx ry X.prog X.w X.xe _ ⟨.bl _, H, I, rfl, q⟩
theorem od_eq : OpD K false dEq (rEqD K) := by
 intro H0 H x y d e z Q s rx ry ho k
 unfold dEq at ho
 split at ho <;> cases ho
 rename_i h
 exact ⟨d, e, rx.mono s, ry.mono s, h.1, h.2.1, h.2.2, k _ H (.pure s (.mkBl _))⟩
theorem od_ne : OpD K false dNe (rNeD K) := by
 intro H0 H x y d e z Q s rx ry ho k
 unfold dNe at ho
 split at ho <;> cases ho
 rename_i h
 exact ⟨d, e, rx.mono s, ry.mono s, h.1, h.2.1, h.2.2, k _ H (.pure s (.mkBl _))⟩
theorem o_inS (hu : X.A.units + 64 < cLine) : OpR X (compareOp .In) (rInS X.K false) := by
 intro pins s σ H x y v u Q I rx ry h
 obtain ⟨p, xs, d, es, rfl, hp, hx, hes, pd, pe, hd, q⟩ := h
 cases ry
 rcases hp with hq | hq
 . obtain ⟨its, rv, pl, _⟩ := I.list (.of hq)
   refine SeqAt.in_listAt (hitD X.K H d) pl.isList (fun y hy => za5 (A := X.A) I (by omega) pd hx rx pe hes rv hd y (by simpa using hy)) ⟨.bl _, H, I, rfl, ?_⟩
   rw [show its.toArray.any (hitD X.K H d) = its.any (hitD X.K H d) by simp, z6c pe hes rv]
   simpa using q
 . obtain ⟨its, rv, pl, _⟩ := I.tuple (.of hq)
   refine SeqAt.in_tupleAt (hitD X.K H d) pl (fun y hy => za5 (A := X.A) I (by omega) pd hx rx pe hes rv hd y (by simpa using hy)) ⟨.bl _, H, I, rfl, ?_⟩
   rw [show its.toArray.any (hitD X.K H d) = its.any (hitD X.K H d) by simp, z6c pe hes rv]
   simpa using q
theorem z18f (hu : X.A.units + 64 < cLine) : OpR X (compareOp .NotIn) (rInS X.K true) := by
 intro pins s σ H x y v u Q I rx ry h
 obtain ⟨p, xs, d, es, rfl, hp, hx, hes, pd, pe, hd, q⟩ := h
 cases ry
 rcases hp with hq | hq
 . obtain ⟨its, rv, pl, _⟩ := I.list (.of hq)
   refine SeqAt.notIn_listAt (hitD X.K H d) pl.isList (fun y hy => za5 (A := X.A) I (by omega) pd hx rx pe hes rv hd y (by simpa using hy)) ⟨.bl _, H, I, rfl, ?_⟩
   rw [show its.toArray.any (hitD X.K H d) = its.any (hitD X.K H d) by simp, z6c pe hes rv]
   simpa using q
 . obtain ⟨its, rv, pl, _⟩ := I.tuple (.of hq)
   refine SeqAt.notIn_tupleAt (hitD X.K H d) pl (fun y hy => za5 (A := X.A) I (by omega) pd hx rx pe hes rv hd y (by simpa using hy)) ⟨.bl _, H, I, rfl, ?_⟩
   rw [show its.toArray.any (hitD X.K H d) = its.any (hitD X.K H d) by simp, z6c pe hes rv]
   simpa using q
theorem od_inS {neg : Bool} : OpD K false (dInS neg) (rInS K neg) := by
 intro H0 H x y d e z Q s rx ry ho k
 unfold dInS at ho
 cases e <;> dsimp only at ho <;> first | cases ho | skip
 . split at ho <;> cases ho
   rename_i es h
   obtain ⟨a, xs, rfl, ha, ra⟩ := ry.tup
   exact ⟨a, xs, d, es, rfl, .inr (s _ _ ha), rx.mono s, ra.mono s, h.1, h.2.1, h.2.2, k _ H (.pure s (.mkBl _))⟩
 . split at ho <;> cases ho
   rename_i es h
   obtain ⟨a, xs, rfl, ha, ra⟩ := ry.lst
   exact ⟨a, xs, d, es, rfl, .inl (s _ _ ha), rx.mono s, ra.mono s, h.1, h.2.1, h.2.2, k _ H (.pure s (.mkBl _))⟩
end
def keyD : D → Option Key
 | .int i => some (.inl i)
 | .str x => some (.inr x)
 | _ => none
def keysD : List D → Option (List Key)
 | [] => some []
 | d :: ds => match keyD d, keysD ds with
   | some k, some ks => some (k :: ks)
   | _, _ => none
theorem za9 {K : PySem.W.Frag} {H : Hp} {d : D} {k : Key} {v : V} (h : keyD d = some k) (r : RD K H d v) : v = kV k := by
 cases d <;> simp only [keyD] at h <;> first | cases h | skip
 . cases r.int; rfl
 . cases r.str; rfl
theorem zbe {K : PySem.W.Frag} {H : Hp} : ∀ {ds : List D} {ks : List Key} {xs : List V}, keysD ds = some ks → RDs K H ds xs → xs = ks.map kV
 | [], ks, xs, h, r => by
   simp only [keysD] at h; cases h
   simp only [RDs] at r; subst r; rfl
 | d :: ds, ks, xs, h, r => by
   simp only [RDs] at r
   obtain ⟨x, xs, rfl, r1, r2⟩ := r
   simp only [keysD] at h
   split at h <;> cases h
   rename_i k ks h1 h2
   rw [za9 h1 r1, zbe h2 r2]; rfl
def ROp (K : PySem.W.Frag) (H : Hp) : Option D → Option V → Prop
 | some z, w => ∃ v, w = some v ∧ RD K H z v
 | none, w => w = none
section
variable {κ : Type} [DecidableEq κ]
def lookD (ks : List κ) (ds : List D) (k : κ) : Option D := ((ks.zip ds).find? fun kv => decide (kv.1 = k)).map (·.2)
theorem z10c {K : PySem.W.Frag} {H : Hp} (k : κ) : ∀ {ks : List κ} {ds : List D} {xs : List V}, ks.length = xs.length → RDs K H ds xs → ROp K H (lookD ks ds k) (valV (ks.zip xs) k)
 | [], ds, xs, _, _ => by simp [lookD, valV, ROp]
 | k' :: ks, [], xs, h, r => by
   simp only [RDs] at r; subst r; simp at h
 | k' :: ks, d :: ds, xs, h, r => by
   simp only [RDs] at r
   obtain ⟨x, xs, rfl, r1, r2⟩ := r
   have ih := z10c k (by simpa using h) r2 (ks := ks)
   simp only [lookD, valV, List.zip_cons_cons, List.find?_cons] at ih ⊢
   by_cases e : k' = k
   . simp only [e, decide_true]
     exact ⟨x, rfl, r1⟩
   . simp only [e, decide_false]
     exact ih
def putKs (ks : List κ) (k : κ) : List κ := if k ∈ ks then ks else ks ++ [k]
def putV {β : Type} (ks : List κ) (ds : List β) (k : κ) (d : β) : List β := if k ∈ ks then List.zipWith (fun k' d' => if k' = k then d else d') ks ds else ds ++ [d]
theorem zbf (k : κ) (v : V) {ks : List κ} {xs : List V} (hl : ks.length = xs.length) : putK (ks.zip xs) k v = (putKs ks k).zip (putV ks xs k v) ∧ (putKs ks k).length = (putV ks xs k v).length := by
 have any : ∀ (ks : List κ) (xs : List V), ks.length = xs.length → ((ks.zip xs).any fun kv => decide (kv.1 = k)) = decide (k ∈ ks) := by
   intro ks
   induction ks with
   | nil => intro xs _; simp
   | cons k' ks ih =>
     intro xs h
     cases xs with
     | nil => simp at h
     | cons x xs =>
       simp only [List.zip_cons_cons, List.any_cons]
       rw [ih xs (by simpa using h)]
       by_cases e : k' = k
       . simp [e]
       . by_cases m : k ∈ ks <;> simp [e, m, Ne.symm e]
 have mp : ∀ (ks : List κ) (xs : List V), ks.length = xs.length → (ks.zip xs).map (fun kv => if kv.1 = k then (kv.1, v) else kv) = ks.zip (List.zipWith (fun k' d' => if k' = k then v else d') ks xs) := by
   intro ks
   induction ks with
   | nil => intro xs _; simp
   | cons k' ks ih =>
     intro xs h
     cases xs with
     | nil => simp at h
     | cons x xs =>
       simp only [List.zip_cons_cons, List.map_cons, List.zipWith_cons_cons]
       rw [ih xs (by simpa using h)]
       by_cases e : k' = k <;> simp [e]
 unfold putK putKs putV
 rw [any ks xs hl]
 by_cases m : k ∈ ks
 . rw [if_pos (by simpa using m), if_pos m, if_pos m]
   exact ⟨mp ks xs hl, by simp [hl]⟩
 . rw [if_neg (by simpa using m), if_neg m, if_neg m]
   exact ⟨by rw [List.zip_append hl]; rfl, by simp [hl]⟩
theorem zdc {K : PySem.W.Frag} {H : Hp} (k : κ) {d : D} {v : V} (rv : RD K H d v) {ks : List κ} {ds : List D} {xs : List V} (r : RDs K H ds xs) : RDs K H (putV ks ds k d) (putV ks xs k v) := by
 have zw : ∀ (ks : List κ) (ds : List D) (xs : List V), RDs K H ds xs → RDs K H (List.zipWith (fun k' d' => if k' = k then d else d') ks ds) (List.zipWith (fun k' d' => if k' = k then v else d') ks xs) := by
   intro ks
   induction ks with
   | nil => intro ds xs _; simp [RDs]
   | cons k' ks ih =>
     intro ds xs r
     cases ds with
     | nil => simp only [RDs] at r; subst r; simp [RDs]
     | cons d' ds =>
       simp only [RDs] at r
       obtain ⟨x, xs, rfl, r1, r2⟩ := r
       simp only [List.zipWith_cons_cons]
       refine .cons ?_ (ih ds xs r2)
       by_cases e : k' = k
       . rw [if_pos e, if_pos e]; exact rv
       . rw [if_neg e, if_neg e]; exact r1
 unfold putV
 by_cases m : k ∈ ks
 . rw [if_pos m, if_pos m]; exact zw ks ds xs r
 . rw [if_neg m, if_neg m]; exact r.append (.one rv)
end
def getD' : D → D → Option (Option D)
 | .dk ks ds, k => (keyD k).map fun k => lookD ks ds k
 | .dt ks ds, .tup es => (keysD es).map fun k => lookD ks ds k
 | _, _ => none
theorem z15f {K : PySem.W.Frag} {H : Hp} {d k : D} {x y : V} {o : Option D} (h : getD' d k = some o) (rx : RD K H d x) (ry : RD K H k y) :
   ∃ a w, x = .ref a ∧ DGet H a y w ∧ ROp K H o w := by
 cases d <;> simp only [getD'] at h <;> first | cases h | skip
 . rename_i ks ds
   obtain ⟨a, xs, rfl, ha, hl, rs⟩ := rx.dk
   cases hk : keyD k with
   | none => rw [hk] at h; cases h
   | some k' =>
     rw [hk] at h
     have h : lookD ks ds k' = o := by simpa using h
     subst h
     cases za9 hk ry
     exact ⟨a, _, rfl, DGet.k ha, z10c k' hl rs⟩
 . rename_i ks ds
   cases k <;> simp only [getD'] at h <;> first | cases h | skip
   rename_i es
   obtain ⟨a, xs, rfl, ha, hl, rs⟩ := rx.dt
   obtain ⟨b, ys, rfl, hb, rb⟩ := ry.tup
   cases hk : keysD es with
   | none => rw [hk] at h; cases h
   | some k' =>
     rw [hk] at h
     have h : lookD ks ds k' = o := by simpa using h
     subst h
     have e := zbe hk rb
     subst e
     exact ⟨a, _, rfl, DGet.t ha hb, z10c k' hl rs⟩
def dInD (neg : Bool) : D → D → Option D := fun k d => (getD' d k).map fun o => .bl (if neg then !o.isSome else o.isSome)
def rInD (neg : Bool) : R2 := fun y x H Q => ∃ a w, x = .ref a ∧ DGet H a y w ∧ Q (.bl (if neg then !w.isSome else w.isSome)) H
def dIxD : D → D → Option D := fun d k => (getD' d k).bind id
def rIxD : R2 := fun x y H Q => ∃ a w, x = .ref a ∧ DGet H a y (some w) ∧ Q w H
def dIxS : D → D → Option D
 | .lst ds, .int i => atI ds i
 | .tup ds, .int i => atI ds i
 | .scr ns, .int i => (atI ns i).map D.int
 | .str z, .int i => if z.length ≤ 100000 then (atI z.cps.toList i).map fun c => D.str ⟨#[c]⟩ else none
 | _, _ => none
theorem RDs.atI {K : PySem.W.Frag} {H : Hp} {ds : List D} {xs : List V} {i : Int} {d : D} (r : RDs K H ds xs) (h : L2.atI ds i = some d) : ∃ v, L2.atI xs i = some v ∧ RD K H d v := by
 unfold L2.atI at h ⊢
 rw [← r.length]
 cases q : ixN ds.length i with
 | none => rw [q] at h; cases h
 | some j =>
   rw [q] at h
   exact r.get' h
theorem z1c9 {α β : Type} (f : α → β) (xs : List α) (i : Int) : atI (xs.map f) i = (atI xs i).map f := by
 unfold atI
 rw [List.length_map]
 cases ixN xs.length i with
 | none => rfl
 | some j => simp
section
variable {X : Cx} {K : PySem.W.Frag}
theorem o_inD (hu : X.A.units + 64 < cLine) : OpR X (compareOp .In) (rInD false) := by
 intro pins s σ H x y v u Q I rx ry h
 obtain ⟨a, w, rfl, g, q⟩ := h
 cases ry
 exact d_in (by omega) I g rx fun s' I' => ⟨.bl w.isSome, H, I', rfl, by simpa using q⟩
theorem z190 (hu : X.A.units + 64 < cLine) : OpR X (compareOp .NotIn) (rInD true) := by
 intro pins s σ H x y v u Q I rx ry h
 obtain ⟨a, w, rfl, g, q⟩ := h
 cases ry
 exact z1b6 (by omega) I g rx fun s' I' => ⟨.bl (!w.isSome), H, I', rfl, by simpa using q⟩
theorem od_inD {neg : Bool} : OpD K false (dInD neg) (rInD neg) := by
 intro H0 H x y d e z Q s rx ry ho k
 unfold dInD at ho
 cases ho' : getD' e d with
 | none => rw [ho'] at ho; cases ho
 | some o =>
   rw [ho'] at ho; cases ho
   obtain ⟨a, w, rfl, g, m⟩ := z15f ho' (ry.mono s) (rx.mono s)
   refine ⟨a, w, rfl, g, k _ H ?_⟩
   have e : w.isSome = o.isSome := by
     cases o with
     | none => rw [show w = none from m]; rfl
     | some z => obtain ⟨v, e, _⟩ := m; rw [e]; rfl
   rw [e]
   exact .pure s (.mkBl _)
def dIn (neg : Bool) : D → D → Option D := dOr (dInS neg) (dInD neg)
def rIn' (K : PySem.W.Frag) (neg : Bool) : R2 := fun x y H Q => rInS K neg x y H Q ∨ rInD neg x y H Q
theorem o_inG (hu : X.A.units + 64 < cLine) : OpR X (compareOp .In) (rIn' X.K false) := (o_inS hu).or (o_inD hu)
theorem z10d (hu : X.A.units + 64 < cLine) : OpR X (compareOp .NotIn) (rIn' X.K true) := (z18f hu).or (z190 hu)
theorem od_in {neg : Bool} : OpD K false (dIn neg) (rIn' K neg) := od_inS.or od_inD
theorem z1ca (hu : X.A.units + 64 < cLine) : IxR X rIxD := by
 intro value slice pins s σ H x y v u Q I rx ry h hs
 obtain ⟨a, w, rfl, g, q⟩ := h
 cases rx
 exact tail_any (ops := [.ref a, u]) (zec I g) PySem.F.slot_dict_getitem.lookup (z130 (by omega) I g ry fun w' s3 I3 rw' => ⟨w, H, I3, rw', q⟩) hs
theorem od_ixD : OpD K false dIxD rIxD := by
 intro H0 H x y d e z Q s rx ry ho k
 unfold dIxD at ho
 cases ho' : getD' d e with
 | none => rw [ho'] at ho; cases ho
 | some o =>
   rw [ho'] at ho
   have ho : o = some z := ho
   subst ho
   obtain ⟨a, w, e0, g, m⟩ := z15f ho' rx ry
   obtain ⟨v, rfl, rv⟩ := m
   subst e0
   refine ⟨a, v, rfl, ?_, k _ H (.pure s rv)⟩
   rcases g with ⟨kvs, kk, e1, e2, e3⟩ | ⟨kvs, kk, b, e1, e2, e3, e4⟩
   . refine .inl ⟨kvs, kk, ?_, e2, e3⟩
     rcases e1 with e1 | ⟨o, e1⟩
     . exact .inl (s _ _ e1)
     . exact .inr ⟨o, s _ _ e1⟩
   . refine .inr ⟨kvs, kk, b, ?_, e2, s _ _ e3, e4⟩
     rcases e1 with e1 | ⟨o, e1⟩
     . exact .inl (s _ _ e1)
     . exact .inr ⟨o, s _ _ e1⟩
theorem od_ixS : OpD K false dIxS (rIx K) := by
 intro H0 H x y d e z Q s rx ry ho k
 cases d <;> simp only [dIxS] at ho <;> first | cases ho | skip
 . -- a text
   cases e <;> simp only [dIxS] at ho <;> first | cases ho | skip
   cases rx.str; cases ry.int
   split at ho
   . rename_i z' i hl
     cases hc : atI z'.cps.toList i with
     | none => rw [hc] at ho; cases ho
     | some c =>
       rw [hc] at ho; cases ho
       exact .inr (.inr ⟨z', i, c, rfl, rfl, k100 hl, hc, k _ H (.pure s (.mkStr _))⟩)
   . cases ho
 . cases e <;> simp only [dIxS] at ho <;> first | cases ho | skip
   obtain ⟨a, xs, rfl, ha, ra⟩ := rx.tup
   cases ry.int
   obtain ⟨v, hv, rv⟩ := ra.atI ho
   exact .inr (.inl ⟨a, xs, _, v, rfl, rfl, .of (s _ _ ha), hv, k _ H (.pure s rv)⟩)
 . cases e <;> simp only [dIxS] at ho <;> first | cases ho | skip
   obtain ⟨a, xs, rfl, ha, ra⟩ := rx.lst
   cases ry.int
   obtain ⟨v, hv, rv⟩ := ra.atI ho
   exact .inl ⟨a, xs, _, v, rfl, rfl, .of (s _ _ ha), hv, k _ H (.pure s rv)⟩
 . cases e <;> simp only [dIxS] at ho <;> first | cases ho | skip
   rename_i ns i
   cases ry.int
   obtain ⟨a, rfl, ha⟩ := (rx.mono s).scr
   cases hc : atI ns i with
   | none => rw [hc] at ho; cases ho
   | some c =>
     rw [hc] at ho; cases ho
     exact .inl ⟨a, _, i, .int c, rfl, rfl, ha, by rw [z1c9, hc]; rfl, k _ H (.pure s (.mkInt _))⟩
def dIx : D → D → Option D := dOr dIxS dIxD
def rIxG (K : PySem.W.Frag) : R2 := fun x y H Q => rIx K x y H Q ∨ rIxD x y H Q
theorem ix_G (hu : X.A.units + 64 < cLine) : IxR X (rIxG X.K) := ix_seq.or (z1ca hu)
theorem od_ix : OpD K false dIx (rIxG K) := od_ixS.or od_ixD
end
structure QE (X : Cx) (EX : XW) (fr : Bool) (e : Expr) (f : DE → R D) : Prop where
 h : PE X e (TEd X.K EX fr f)
structure QT (X : Cx) (EX : XW) (e : Expr) (t : DE → R Bool) : Prop where
 h : PT X e (TTd X.K EX t)
structure QW (X : Cx) (EX : XW) (e : Expr) (t : DE → R Bool) : Prop where
 h : PW X e (TTd X.K EX t)
structure QA (X : Cx) (EX : XW) (es : List Expr) (f : DE → R (List D)) : Prop where
 h : PA X es (TAd X.K EX f)
structure QI (X : Cx) (EX : XW) (kp : Bool) (tg e : Expr) (f : DE → R (List D)) : Prop where
 h : PI X tg e (TId X.K EX kp f)
structure QG (X : Cx) (tg : Expr) (t : Tg) : Prop where
 h : PG X tg (TGd X.K t)
structure QGs (X : Cx) (ts : List Expr) (is : List Nat) : Prop where
 h : PGs X ts (gNames is)
structure QS (X : Cx) (EX : XW) (fr : Bool) (st : Stmt) (g : DS → SR) : Prop where
 h : PS X st (TSd X.K EX fr g)
structure QB (X : Cx) (EX : XW) (fr : Bool) (sts : List Stmt) (g : DS → SR) : Prop where
 h : PSs X sts (TSd X.K EX fr g)
structure QCT (X : Cx) (EX : XW) (ops : List CmpOp) (rs : List Expr) (g : D → DE → R Bool) : Prop where
 h : PChT X ops rs (TChTd X.K EX g)
section
variable {X : Cx} {EX : XW} {fr : Bool} {a b c e : Expr} {es rest : List Expr} {fa fb : DE → R D} {fs : DE → R (List D)} {t u : DE → R Bool} {pos p : Pos} {x : Str}
theorem PA.imp {es : List Expr} {t t' : TA} (h : PA X es t) (hi : ∀ σ H Q, t' σ H Q → t σ H Q) : PA X es t' := fun pos pins s σ H Q I q => h pos pins s σ H Q I (hi σ H Q q)
theorem PW.imp {e : Expr} {t t' : TT} (h : PW X e t) (hi : ∀ σ H Q, t' σ H Q → t σ H Q) : PW X e t' := fun wh pins s σ H Q I q => h wh pins s σ H Q I (hi σ H Q q)
theorem PI.imp {tg e : Expr} {t t' : TI} (h : PI X tg e t) (hi : ∀ σ H Q, t' σ H Q → t σ H Q) : PI X tg e t' := fun pins s σ H Q I q => h pins s σ H Q I (hi σ H Q q)
theorem PS.imp {st : Stmt} {t t' : TS} (h : PS X st t) (hi : ∀ D σ H, t' D σ H → t D σ H) : PS X st t' := fun pins s σ H D I q => h pins s σ H D I (hi D σ H q)
theorem PSs.imp {st : List Stmt} {t t' : TS} (h : PSs X st t) (hi : ∀ D σ H, t' D σ H → t D σ H) : PSs X st t' := fun pins s σ H D I q => h pins s σ H D I (hi D σ H q)
theorem QE.wk {f : DE → R D} (h : QE X EX true e f) : QE X EX false e f := ⟨h.h.imp fun _ _ _ q => q.weak⟩
theorem qv (i : Nat) {x : Str} {pos : Pos} (hN : X.N[i]? = some x := by rfl) (hv : Vis X.env.scope x := by first | exact Or.inl rfl | exact Or.inr (Or.inl rfl) | exact Or.inr (Or.inr rfl)) (hd : (x == ("__debug__" : Str)) = false := by decide)
   (hcd : (x == ("__classdict__" : Str)) = false := by decide) : QE X EX false (.Name x pos) (eVar i) := ⟨(pe_var hN hv hd hcd).imp fun σ H Q q => d_var q⟩
theorem q_int {i j pos} : QE X EX false (.Constant (.int i) j pos) (eC (.int i)) := ⟨pe_int.imp fun σ H Q q => z15d (fun _ => .mkInt i) q⟩
theorem q_bl {i j pos} : QE X EX false (.Constant (.bool i) j pos) (eC (.bl i)) := ⟨pe_bl.imp fun σ H Q q => z15d (fun _ => .mkBl i) q⟩
theorem q_bin {op : Operator} {r : R2} {o : D → D → Option D} (ho : OpR X (binaryOp op) r) (od : OpD X.K fr o r) (ha : QE X EX false a fa) (hb : QE X EX false b fb) : QE X EX fr (.BinOp a op b pos) (eOp o fa fb) := ⟨(pe_op ho ha.h hb.h).imp fun _ _ _ q => d_op od q⟩
theorem q_un {op : UnaryOp} {r : V → Hp → VK → Prop} {o : D → Option D} (ho : UnR X (unaryOp op) r) (od : UnD X.K fr o r) (ha : QE X EX false a fa) : QE X EX fr (.UnaryOp op a pos) (eUn o fa) := ⟨(pe_un ho ha.h).imp fun _ _ _ q => d_un od q⟩
theorem q_cmp {op : CmpOp} {r : R2} {o : D → D → Option D} (ho : OpR X (compareOp op) r) (od : OpD X.K false o r) (ha : QE X EX false a fa) (hb : QE X EX false b fb) (hm : behindInMarks op b = false) :
   QE X EX false (.Compare a [op] [b] pos) (eOp o fa fb) := ⟨(z1b0 ho ha.h hb.h hm).imp fun _ _ _ q => d_op od q⟩
theorem q_ix {r : R2} {o : D → D → Option D} (ho : IxR X r) (od : OpD X.K false o r) (ha : QE X EX false a fa) (hb : QE X EX false b fb) (hs : z154 b := by exact fun _ _ => rfl) : QE X EX false (.Subscript a b pos) (eOp o fa fb) := ⟨(pe_ix ho ha.h hb.h hs).imp fun _ _ _ q => d_op od q⟩
theorem q_nil : QA X EX [] eNil := ⟨pa_nil.imp fun _ _ _ q => d_nil q⟩
theorem q_cons (ha : QE X EX false e fa) (hr : QA X EX es fs) (hs : starEach (e :: es) X.env = (false, eval e X.env) :: starEach es X.env := by rfl) : QA X EX (e :: es) (eCons fa fs) := ⟨(z9d ha.h hr.h hs).imp fun _ _ _ q => d_cons q⟩
theorem q_tup {x1} (h : QA X EX es fs) : QE X EX false (.Tuple es x1 pos) (eTup fs) := ⟨(pe_tup h.h).imp fun _ _ _ q => d_tup q⟩
theorem q_lst (h : QA X EX es fs) : QE X EX true (.List es pos) (eLst fs) := ⟨(pe_lst h.h).imp fun _ _ _ q => d_lst q⟩
theorem q_and (ha : QE X EX false a fa) (hb : QE X EX false (.BoolOp .And (b :: rest) pos) fb) : QE X EX false (.BoolOp .And (a :: b :: rest) pos) (eAnd fa fb) := ⟨(z1bc ha.h hb.h).imp fun _ _ _ q => d_and q⟩
theorem q_one {op} (h : QE X EX false a fa) : QE X EX false (.BoolOp op [a] pos) fa := ⟨pe_one h.h⟩
def dTru : D → Option Bool
 | .bl b => some b
 | .int i => some (i != 0)
 | .non => some false
 | .str z => if z.length ≤ 100000 then some ((z.length : Int) != 0) else none
 | .lst ds => some (!ds.isEmpty)
 | .tup ds => some (!ds.isEmpty)
 | .dk ks _ => some (!ks.isEmpty)
 | _ => none
theorem z5d {α β : Type} {xs : List α} {ys : List β} (h : xs.length = ys.length) : xs.isEmpty = ys.isEmpty := by
 cases xs <;> cases ys <;> first | rfl | simp at h
theorem td_tru {K : PySem.W.Frag} : TruD K dTru cTruV := by
 intro H0 H x d b Q s rx ht q
 cases d <;> simp only [dTru] at ht <;> first | cases ht | skip
 . cases rx.non; exact q
 . cases rx.bl; exact q
 . cases rx.int; exact q
 . split at ht <;> cases ht
   rename_i h
   cases rx.str
   exact ⟨k100 h, q⟩
 . obtain ⟨p, xs, rfl, hp, r⟩ := rx.tup
   unfold cTruV
   dsimp only
   rw [z135 (s _ _ hp)]
   rw [z5d r.length] at q; exact q
 . obtain ⟨p, xs, rfl, hp, r⟩ := rx.lst
   unfold cTruV
   dsimp only
   rw [z134 (s _ _ hp)]
   rw [z5d r.length] at q; exact q
 . rename_i ks es
   obtain ⟨p, xs, rfl, hp, hl, r⟩ := rx.dk
   unfold cTruV
   dsimp only
   have e : rdSeq H p = none := by unfold rdSeq; rw [s _ _ hp]
   rw [e]
   dsimp only
   rw [s _ _ hp]
   dsimp only
   rw [z5d (show ks.length = (List.zip ks xs).length by rw [List.length_zip, ← hl, Nat.min_self])] at q
   exact q
theorem q_notV (ha : QE X EX false a fa) : QE X EX false (.UnaryOp .Not a pos) (eUn (fun d => (dTru d).map fun b => .bl (!b)) fa) := ⟨(z1bd ha.h).imp fun _ _ _ q => d_notV td_tru q⟩
theorem t_val (ha : QE X EX false a fa) (he : ∀ whole, isTrue a X.env whole = (do let v ← whole; standAt a.pos; holding [v] (truthy v)) := by intro _; rfl) : QT X EX a (bVal dTru fa) := ⟨(pt_tru ha.h he).imp fun _ _ _ q => d_tru td_tru q⟩
theorem t_cmp {op : CmpOp} {r : R2} {o : D → D → Option D} (ho : OpR X (compareOp op) r) (od : OpD X.K false o r) (ha : QE X EX false a fa) (hb : QE X EX false b fb) (hm : behindInMarks op b = false) :
   QT X EX (.Compare a [op] [b] pos) (bVal asB (eOp o fa fb)) := ⟨(z1bb ho ha.h hb.h hm).imp fun _ _ _ q => d_cmp od q⟩
theorem QW.pt (h : QW X EX a t) : QT X EX a t := ⟨h.h.pt⟩
theorem t_not (ha : QT X EX a t) : QT X EX (.UnaryOp .Not a pos) (bNot t) := ⟨(pt_not ha.h).imp fun _ _ _ q => d_bnot q⟩
theorem w_and1 (ha : QT X EX a t) : QW X EX (.BoolOp .And [a] pos) t := ⟨z1ae ha.h⟩
theorem w_or1 (ha : QT X EX a t) : QW X EX (.BoolOp .Or [a] pos) t := ⟨pw_or1 ha.h⟩
theorem w_and (ha : QT X EX a t) (hb : QW X EX (.BoolOp .And (b :: rest) pos) u) : QW X EX (.BoolOp .And (a :: b :: rest) pos) (bAnd t u) := ⟨(pw_and ha.h hb.h).imp fun _ _ _ q => d_band q⟩
theorem w_or (ha : QT X EX a t) (hb : QW X EX (.BoolOp .Or (b :: rest) pos) u) : QW X EX (.BoolOp .Or (a :: b :: rest) pos) (bOr t u) := ⟨(pw_or ha.h hb.h).imp fun _ _ _ q => d_bor q⟩
theorem PChT.imp {ops : List CmpOp} {rs : List Expr} {t t' : V → TT} (h : PChT X ops rs t) (hi : ∀ x σ H Q, t' x σ H Q → t x σ H Q) : PChT X ops rs t' := fun pos pins s σ H x v Q I r q => h pos pins s σ H x v Q I r (hi x σ H Q q)
variable {g : D → DE → R D} {gt : D → DE → R Bool} {op op' : CmpOp} {ops : List CmpOp} {r : R2} {o : D → D → Option D} {r' : Expr} {rs : List Expr}
theorem z1cb (ho : OpR X (compareOp op) r) (od : OpD X.K false o r) (hb : QE X EX false b fb) : QCT X EX [op] [b] (cLastT o fb) := ⟨(z136 ho hb.h).imp fun _ _ _ _ q => z1c4 od q⟩
theorem z1cc (ho : OpR X (compareOp op) r) (od : OpD X.K false o r) (hb : QE X EX false b fb) (hr : QCT X EX (op' :: ops) (r' :: rs) gt) : QCT X EX (op :: op' :: ops) (b :: r' :: rs) (cLinkT o fb gt) := ⟨(z137 ho hb.h hr.h).imp fun _ _ _ _ q => z1c5 od q⟩
theorem t_chn {op₁ op₂ : CmpOp} {r₁ r₂ : Expr} (ha : QE X EX false a fa) (hr : QCT X EX (op₁ :: op₂ :: ops) (r₁ :: r₂ :: rs) gt) (hm : lastMarks (op₁ :: op₂ :: ops) (r₁ :: r₂ :: rs) = false := by with_unfolding_all rfl) :
   QT X EX (.Compare a (op₁ :: op₂ :: ops) (r₁ :: r₂ :: rs) pos) (bChn fa gt) := ⟨(pt_chn ha.h hr.h hm).imp fun _ _ _ q => d_chnT q⟩
theorem q_cb {id : String} {rr : List V → Hp → VK → Prop} {m : List D → Option D} (hc : CallR X (.builtin id) rr) (od : CallD X.K fr m rr) (hg : Gl X x) (hm : X.mg x = none) (hv : bootBuiltins x = some (.builtin id)) (ha : QA X EX (e :: es) fs) (hn : x ≠ "__name__" := by decide) (hdb : (x == ("__debug__" : Str)) = false := by decide)
   (he : starEach (e :: es) X.env = (false, eval e X.env) :: starEach es X.env := by rfl) (hpl : (backTo pos (starEach es X.env)).any (·.1) = false := by rfl) : QE X EX fr (.Call (.Name x p) (e :: es) [] pos) (eCB m fs) := ⟨(zfb hc hg hm hv ha.h hn hdb he hpl).imp fun _ _ _ q => d_cb od q⟩
theorem q_cty {T : String} {rr : List V → Hp → VK → Prop} {m : List D → Option D} (hc : CallR X (.type T) rr) (od : CallD X.K fr m rr) (hg : Gl X x) (hm : X.mg x = none) (hv : bootBuiltins x = some (.type T)) (ha : QA X EX (e :: es) fs) (hn : x ≠ "__name__" := by decide) (hdb : (x == ("__debug__" : Str)) = false := by decide)
   (he : starEach (e :: es) X.env = (false, eval e X.env) :: starEach es X.env := by rfl) (hpl : (backTo pos (starEach es X.env)).any (·.1) = false := by rfl) : QE X EX fr (.Call (.Name x p) (e :: es) [] pos) (eCB m fs) := ⟨(z12e hc hg hm hv ha.h hn hdb he hpl).imp fun _ _ _ q => d_cb od q⟩
theorem q_own {ps : List Str} {k j n kk : Nat} {gg : DS → SR} (L : Lnd X EX) (G : GotX X.prog X.w X.K X.mg X.base x ps k (spD X.K X.mg fr (mOf fr n kk gg) n)) (hr : Room j X.A) (hg : Gl X x) (ha : QA X EX (e :: es) fs) (hkj : k ≤ j := by omega) (hdb : (x == ("__debug__" : Str)) = false := by decide)
   (he : starEach (e :: es) X.env = (false, eval e X.env) :: starEach es X.env := by rfl) (hpl : (backTo pos (starEach es X.env)).any (·.1) = false := by rfl) : QE X EX fr (.Call (.Name x p) (e :: es) [] pos) (eCall (mOf fr n kk gg) fs) := ⟨(z1c8 G L.on hr hg ha.h hkj hdb he hpl).imp fun _ _ _ q => d_call z1c7 (fun x H z => by obtain ⟨C, hC⟩ := L.nm x H z; exact ⟨C, hC, x, z, hC⟩) q⟩
end
def dKind : D → String
 | .non => "NoneType"
 | .bl _ => "bool"
 | .int _ => "int"
 | .str _ => "str"
 | .tup _ => "tuple"
 | .lst _ => "list"
 | .dk _ _ => "dict"
 | .dt _ _ => "dict"
 | .dn _ _ => "?"
 | .scr _ => "?"
 | .exc _ => "?"
def dIsi (c : String) : D → Option D := fun d => if isKnd c = true ∧ dKind d ≠ "?" then some (.bl (isiB (dKind d) c)) else none
theorem z1cd {K : PySem.W.Frag} {H : Hp} {d : D} {v : V} (h : dKind d ≠ "?") (r : RD K H d v) : kindV H v = some (dKind d) := by
 cases d
 . cases r.non; rfl
 . cases r.bl; rfl
 . cases r.int; rfl
 . cases r.str; rfl
 . obtain ⟨a, xs, rfl, ha, _⟩ := r.tup; simp only [kindV, ha, dKind]
 . obtain ⟨a, xs, rfl, ha, _⟩ := r.lst; simp only [kindV, ha, dKind]
 . obtain ⟨a, xs, rfl, ha, _⟩ := r.dk; simp only [kindV, ha, dKind]
 . obtain ⟨a, xs, rfl, ha, _⟩ := r.dt; simp only [kindV, ha, dKind]
 . exact absurd rfl h
 . exact absurd rfl h
 . exact absurd rfl h
theorem d_isi {K : PySem.W.Frag} {EX : XW} {σ : St} {H : Hp} {Q : VK} {c : String} {f : DE → R D} (h : TEd K EX false (eUn (dIsi c) f) σ H Q) : tCB rIsi (tCons (TEd K EX false f) (tCons (tC (.ty c)) tNil)) σ H Q := by
 obtain ⟨sx, ρ, H0, s, e, h⟩ := h
 unfold eUn at h
 rw [Rk.bind] at h
 refine TEd.go sx s e h fun d h v H1 H1' s1 e1 r1 => ?_
 obtain ⟨z, hz, h⟩ := h.of
 unfold dIsi at hz
 split at hz <;> cases hz
 rename_i hc
 show rIsi [v, .ty c] H1 Q
 rw [rIsi_e]
 refine ⟨hc.1, ?_⟩
 rw [z1cd hc.2 (r1.mono e1.2.1)]
 exact h _ H1 (.val s1 e1 (.mkBl _))
theorem q_isi {X : Cx} {EX : XW} {a b : Expr} {pos p : Pos} {x c : _} {f : DE → R D} (hg : Gl X x) (hm : X.mg x = none) (hv : bootBuiltins x = some (.builtin "isinstance")) (ha : QE X EX false a f) (hb : PE X b (tC (.ty c))) (hn : x ≠ "__name__" := by decide) (hdb : (x == ("__debug__" : Str)) = false := by decide)
   (he : starEach [a, b] X.env = (false, eval a X.env) :: starEach [b] X.env := by rfl) (hpl : (backTo pos (starEach [b] X.env)).any (·.1) = false := by rfl) (hs : starEach [b] X.env = (false, eval b X.env) :: starEach [] X.env := by rfl) :
   QE X EX false (.Call (.Name x p) [a, b] [] pos) (eUn (dIsi c) f) := ⟨(zfb c_isi hg hm hv (z9d ha.h (z9d hb pa_nil hs) he) hn hdb he hpl).imp fun _ _ _ q => d_isi q⟩
def intsOf : List D → Option (List Int)
 | [] => some []
 | .int i :: ds => (intsOf ds).map (i :: ·)
 | _ :: _ => none
def z160 : List D → Option (List Bool)
 | [] => some []
 | .bl i :: ds => (z160 ds).map (i :: ·)
 | _ :: _ => none
theorem z41 : ∀ (ns : List Int), intsOf (ns.map D.int) = some ns
 | [] => rfl
 | n :: ns => by simp [intsOf, z41 ns]
theorem z66 {K : PySem.W.Frag} {H : Hp} : ∀ {ds : List D} {ns : List Int} {xs : List V}, intsOf ds = some ns → RDs K H ds xs → xs = ns.map V.int
 | [], ns, xs, h, r => by
   simp only [intsOf] at h; cases h
   simp only [RDs] at r; subst r; rfl
 | d :: ds, ns, xs, h, r => by
   simp only [RDs] at r
   obtain ⟨x, xs, rfl, r1, r2⟩ := r
   cases d <;> simp only [intsOf] at h <;> first | cases h | skip
   cases q : intsOf ds with
   | none => rw [q] at h; cases h
   | some ms =>
     rw [q] at h; cases h
     cases r1.int
     rw [z66 q r2]; rfl
def dLen : List D → Option D
 | [.lst ds] => some (.int ds.length)
 | [.tup ds] => some (.int ds.length)
 | [.dk ks _] => some (.int ks.length)
 | [.scr ns] => some (.int ns.length)
 | [.str z] => if z.length ≤ 100000 then some (.int z.length) else none
 | _ => none
def dSum : List D → Option D
 | [.lst ds] => (intsOf ds).map fun ns => .int ns.sum
 | [.tup ds] => (intsOf ds).map fun ns => .int ns.sum
 | _ => none
def dAll : List D → Option D
 | [.lst ds] => (z160 ds).map fun bs => .bl (bs.all id)
 | _ => none
def dMax2 : List D → Option D
 | [.int i, .int j] => some (.int (if j > i then j else i))
 | _ => none
def dMin2 : List D → Option D
 | [.int i, .int j] => some (.int (if j < i then j else i))
 | _ => none
def dInt : List D → Option D
 | [.int i] => some (.int i)
 | [.bl b] => some (.int (if b then 1 else 0))
 | _ => none
def dList : List D → Option D
 | [.lst ds] => some (.lst ds)
 | [.tup ds] => some (.lst ds)
 | [.scr ns] => some (.lst (ns.map .int))
 | _ => none
def dTuple : List D → Option D
 | [.lst ds] => some (.tup ds)
 | [.tup ds] => some (.tup ds)
 | _ => none
section
variable {X : Cx} {K : PySem.W.Frag}
theorem RDs.uno {H : Hp} {d : D} {xs : List V} (h : RDs K H [d] xs) : ∃ x, xs = [x] ∧ RD K H d x := by
 simp only [RDs] at h
 obtain ⟨x, r, rfl, h1, rfl⟩ := h
 exact ⟨x, rfl, h1⟩
theorem RDs.duo {H : Hp} {d e : D} {xs : List V} (h : RDs K H [d, e] xs) : ∃ x y, xs = [x, y] ∧ RD K H d x ∧ RD K H e y := by
 simp only [RDs] at h
 obtain ⟨x, r, rfl, h1, y, r', rfl, h2, rfl⟩ := h
 exact ⟨x, y, rfl, h1, h2⟩
def rLenG (K : PySem.W.Frag) : List V → Hp → VK → Prop := fun xs H Q => (∃ p ys, xs = [.ref p] ∧ (SqL K H p ys ∨ SqT K H p ys) ∧ Q (.int ys.length) H) ∨ (∃ a kvs, xs = [V.ref a] ∧ H a = some (.dK kvs) ∧ Q (.int kvs.length) H) ∨ ∃ z, xs = [.str z] ∧ z.length ≤ sizeLine ∧ Q (.int z.length) H
theorem c_lenG : CallR X (.builtin "len") (rLenG X.K) := call_len_seq.or (call_lenD.or zb8)
theorem cd_len : CallD K false dLen (rLenG K) := by
 intro H0 H xs ds z Q s r ho k
 unfold dLen at ho
 split at ho <;> first | cases ho | skip
 . obtain ⟨x, rfl, q1⟩ := r.uno
   obtain ⟨a, ys, rfl, ha, ra⟩ := q1.lst
   exact .inl ⟨a, ys, rfl, .inl (.of (s _ _ ha)), by rw [← ra.length]; exact k _ H (.pure s (.mkInt _))⟩
 . obtain ⟨x, rfl, q1⟩ := r.uno
   obtain ⟨a, ys, rfl, ha, ra⟩ := q1.tup
   exact .inl ⟨a, ys, rfl, .inr (.of (s _ _ ha)), by rw [← ra.length]; exact k _ H (.pure s (.mkInt _))⟩
 . obtain ⟨x, rfl, q1⟩ := r.uno
   obtain ⟨a, ys, rfl, ha, hl, ra⟩ := q1.dk
   refine .inr (.inl ⟨a, _, rfl, s _ _ ha, ?_⟩)
   rw [List.length_zip, ← hl, Nat.min_self]
   exact k _ H (.pure s (.mkInt _))
 . obtain ⟨x, rfl, q1⟩ := r.uno
   obtain ⟨a, rfl, ha⟩ := (q1.mono s).scr
   exact .inl ⟨a, _, rfl, .inl ha, by rw [List.length_map]; exact k _ H (.pure s (.mkInt _))⟩
 . split at ho <;> cases ho
   rename_i h
   obtain ⟨x, rfl, q1⟩ := r.uno
   cases q1.str
   exact .inr (.inr ⟨_, rfl, k100 h, k _ H (.pure s (.mkInt _))⟩)
theorem z1ce : CallD K false dMax2 rMax2 := by
 intro H0 H xs ds z Q s r ho k
 unfold dMax2 at ho
 split at ho <;> first | cases ho | skip
 obtain ⟨x, y, rfl, r1, r2⟩ := r.duo
 cases r1.int; cases r2.int
 rw [z1c2]
 exact k _ H (.pure s (.mkInt _))
theorem z1cf : CallD K false dMin2 rMin2 := by
 intro H0 H xs ds z Q s r ho k
 unfold dMin2 at ho
 split at ho <;> first | cases ho | skip
 obtain ⟨x, y, rfl, r1, r2⟩ := r.duo
 cases r1.int; cases r2.int
 rw [z1c3]
 exact k _ H (.pure s (.mkInt _))
def rListG (K : PySem.W.Frag) : List V → Hp → VK → Prop := fun xs H Q => ∃ p ys, xs = [.ref p] ∧ (SqL K H p ys ∨ SqT K H p ys) ∧ ∀ l, H l = none → Q (.ref l) (upd H l (.lst ys))
theorem z1d0 : CallR X (.type "list") (rListG X.K) := zb9
theorem z1d1 : CallD K true dList (rListG K) := by
 intro H0 H xs ds z Q s r ho k
 have fin : ∀ {p : Addr} {ys : List V} {es : List D}, RDs K H0 es ys → z = .lst es → H p = none → Q (.ref p) (upd H p (.lst ys)) := fun {p ys es} re e hp => by
   subst e
   refine k _ _ (.new s hp fun H' hH => ?_)
   simp only [OB]
   exact ⟨_, hH, re⟩
 unfold dList at ho
 split at ho <;> first | cases ho | skip
 . obtain ⟨x, rfl, q1⟩ := r.uno
   obtain ⟨a, ys, rfl, ha, ra⟩ := q1.lst
   exact ⟨a, ys, rfl, .inl (.of (s _ _ ha)), fun l hl => fin ra rfl hl⟩
 . obtain ⟨x, rfl, q1⟩ := r.uno
   obtain ⟨a, ys, rfl, ha, ra⟩ := q1.tup
   exact ⟨a, ys, rfl, .inr (.of (s _ _ ha)), fun l hl => fin ra rfl hl⟩
 . obtain ⟨x, rfl, q1⟩ := r.uno
   obtain ⟨a, rfl, ha⟩ := (q1.mono s).scr
   exact ⟨a, _, rfl, .inl ha, fun l hl => fin (RDs.ofInts _) rfl hl⟩
def z161 (K : PySem.W.Frag) : List V → Hp → VK → Prop := fun xs H Q => ∃ p ys, xs = [.ref p] ∧ ((SqL K H p ys ∧ ∀ l, H l = none → Q (.ref l) (upd H l (.tup ys))) ∨ (SqT K H p ys ∧ Q (.ref p) H))
theorem z10e : CallR X (.type "tuple") (z161 X.K) := za0
theorem z10f : CallD K false dTuple (z161 K) := by
 intro H0 H xs ds z Q s r ho k
 unfold dTuple at ho
 split at ho <;> first | cases ho | skip
 . obtain ⟨x, rfl, q1⟩ := r.uno
   obtain ⟨a, ys, rfl, ha, ra⟩ := q1.lst
   refine ⟨a, ys, rfl, .inl ⟨.of (s _ _ ha), fun l hl => k _ _ (.val (Same.upd_new hl) (.new s hl) (.mkTup z8 (ra.mono (Same.upd_new (s.none hl)))))⟩⟩
 . obtain ⟨x, rfl, q1⟩ := r.uno
   obtain ⟨a, ys, rfl, ha, ra⟩ := q1.tup
   exact ⟨a, ys, rfl, .inr ⟨.of (s _ _ ha), k _ H (.pure s (.mkTup ha ra))⟩⟩
end
def cutL {α : Type} (xs : List α) (lo hi : Option Int) : List α := (xs.drop (HT.sIx xs.length 0 lo)).take (HT.sIx xs.length xs.length hi - HT.sIx xs.length 0 lo)
def dSl : D → Option Int → Option Int → Option D
 | .lst ds, lo, hi => some (.lst (cutL ds lo hi))
 | .scr ns, lo, hi => some (.lst ((cutL ns lo hi).map .int))
 | _, _, _ => none
def TOd (K : PySem.W.Frag) (EX : XW) (f : DE → R (Option Int)) : TO := fun σ H Q => Same EX.hb H ∧ ∃ ρ H0, Same H0 H ∧ RE K H0 ρ σ ∧ Rk EX.at (f ρ) fun o => ∀ H', Same H H' → Q o H'
def oNo : DE → R (Option Int) := fun _ => .ok none
def oSo (f : DE → R D) : DE → R (Option Int) := fun ρ => (f ρ).bind fun d => R.of (match d with | .int i => some (some i) | _ => none)
def eSl (o : D → Option Int → Option Int → Option D) (f : DE → R D) (fl fh : DE → R (Option Int)) : DE → R D := fun ρ => (f ρ).bind fun d => (fl ρ).bind fun lo => (fh ρ).bind fun hi => R.of (o d lo hi)
def SlD (K : PySem.W.Frag) (fr : Bool) (o : D → Option Int → Option Int → Option D) (r : V → Option Int → Option Int → Hp → VK → Prop) : Prop := ∀ (H0 H : Hp) (x : V) (d z : D) (lo hi : Option Int) (Q : VK), Same H0 H → RD K H0 d x → o d lo hi = some z → (∀ v H', Out K fr H0 H z v H' → Q v H') → r x lo hi H Q
section
variable {X : Cx} {K : PySem.W.Frag} {EX : XW} {fr : Bool} {σ : St} {H : Hp} {Q : VK}
structure QO (X : Cx) (EX : XW) (e : Option Expr) (f : DE → R (Option Int)) : Prop where
 h : PO X e (TOd X.K EX f)
theorem PO.imp {e : Option Expr} {t t' : TO} (h : PO X e t) (hi : ∀ σ H Q, t' σ H Q → t σ H Q) : PO X e t' := fun pins s σ H Q I q => h pins s σ H Q I (hi σ H Q q)
theorem s_no : QO X EX none oNo := ⟨po_none.imp fun σ H Q ⟨sx, ρ, H0, s, e, h⟩ => h H (Same.refl _)⟩
theorem s_so {e : Expr} {f : DE → R D} (he : QE X EX false e f) : QO X EX (some e) (oSo f) := ⟨(z1b4 he.h).imp fun σ H Q ⟨sx, ρ, H0, s, e, h⟩ => by
 unfold oSo at h
 rw [Rk.bind] at h
 refine TEd.go sx s e h fun d h v H1 H1' s1 e1 r1 => ?_
 obtain ⟨o, ho, h⟩ := h.of
 cases d <;> dsimp only at ho <;> first | cases ho | skip
 cases r1.int
 exact ⟨_, rfl, h H1 s1⟩⟩
theorem d_sl {o : D → Option Int → Option Int → Option D} {r : V → Option Int → Option Int → Hp → VK → Prop} {f : DE → R D} {fl fh : DE → R (Option Int)} (hs : SlD K fr o r) (h : TEd K EX fr (eSl o f fl fh) σ H Q) : tSl r (TEd K EX false f) (TOd K EX fl) (TOd K EX fh) σ H Q := by
 obtain ⟨sx, ρ, H0, s, e, h⟩ := h
 unfold eSl at h
 rw [Rk.bind] at h
 refine TEd.go sx s e h fun d h v H1 H1' s1 e1 r1 => ?_
 rw [Rk.bind] at h
 refine ⟨sx.trans s1, ρ, H1', e1.2.1, e.mono e1.1, h.mono fun lo h H2 s2 => ?_⟩
 rw [Rk.bind] at h
 refine ⟨(sx.trans s1).trans s2, ρ, H1', e1.2.1.trans s2, e.mono e1.1, h.mono fun hi h H3 s3 => ?_⟩
 obtain ⟨z, hz, h⟩ := h.of
 exact hs H1' H3 v d z lo hi Q (e1.2.1.trans (s2.trans s3)) r1 hz fun w H4 o => h w H4 (o.after (s1.trans (s2.trans s3)) (e1.grow (s2.trans s3)))
theorem RDs.cut {H : Hp} {ds : List D} {xs : List V} (r : RDs K H ds xs) (lo hi : Option Int) : RDs K H (cutL ds lo hi) (cutV xs lo hi) := by
 unfold cutL cutV
 rw [← r.length]
 exact (r.drop _).take _
theorem z162 : SlD K true dSl (rSlL K) := by
 intro H0 H x d z lo hi Q s r ho k
 cases d <;> simp only [dSl] at ho <;> first | cases ho | skip
 . obtain ⟨a, xs, rfl, ha, ra⟩ := r.lst
   refine ⟨a, xs, rfl, .of (s _ _ ha), fun p hp => k _ _ (.new s hp fun H' hH => ?_)⟩
   simp only [OB]
   exact ⟨_, hH, ra.cut lo hi⟩
 . rename_i ns
   obtain ⟨a, rfl, ha⟩ := (r.mono s).scr
   refine ⟨a, _, rfl, ha, fun p hp => k _ _ (.new s hp fun H' hH => ?_)⟩
   simp only [OB]
   have e := (RDs.ofInts (K := K) (H := H0) ns).cut lo hi
   refine ⟨_, hH, ?_⟩
   have e2 : ∀ ns : List Int, cutL (ns.map D.int) lo hi = (cutL ns lo hi).map D.int := fun ns => by
     unfold cutL; rw [List.length_map, List.map_take, List.map_drop]
   rw [e2] at e
   exact e
theorem q_sl {o : D → Option Int → Option Int → Option D} {r : V → Option Int → Option Int → Hp → VK → Prop} {e : Expr} {lo hi : Option Expr} {pos p2 : Pos} {f : DE → R D} {fl fh : DE → R (Option Int)} (hr : SlR X r) (hs : SlD X.K fr o r) (he : QE X EX false e f) (hl : QO X EX lo fl) (hu : QO X EX hi fh) :
   QE X EX fr (.Subscript e (.Slice lo hi none p2) pos) (eSl o f fl fh) := ⟨(z181 hr he.h hl.h hu.h).imp fun _ _ _ q => d_sl hs q⟩
end
def iL (f : DE → R D) : DE → R (List D) := fun ρ => (f ρ).bind fun d => R.of (items d)
def zD (lo : Int) (n : Nat) : List D := (List.range n).map fun (i : Nat) => D.int (lo + i)
def iR1d (fs : DE → R (List D)) : DE → R (List D) := fun ρ => (fs ρ).bind fun ds => R.of (match ds with
 | [.int j] => if -(2 ^ 62) ≤ j ∧ j < 2 ^ 62 then some (zD 0 j.toNat) else none
 | _ => none)
def iR2d (fs : DE → R (List D)) : DE → R (List D) := fun ρ => (fs ρ).bind fun ds => R.of (match ds with
 | [.int i, .int j] => if -(2 ^ 62) ≤ i ∧ i < 2 ^ 62 ∧ -(2 ^ 62) ≤ j ∧ j < 2 ^ 62 then some (zD i (j - i).toNat) else none
 | _ => none)
def iEn (fs : DE → R (List D)) : DE → R (List D) := fun ρ => (fs ρ).bind fun ds => R.of (match ds with
 | [.lst es] => some (((zD 0 es.length).zip es).map fun p => D.tup [p.1, p.2])
 | _ => none)
section
variable {X : Cx} {K : PySem.W.Frag} {EX : XW} {H0 : Hp}
theorem itok_S {S : Hp → Prop} {xs : List V} {ds : List D} (hS : ∀ H, Same H0 H → S H) (r : RDs K H0 ds xs) : ItOk K (ItS S xs) H0 ds := by
 have hl := r.length
 refine ⟨fun i d e H H1 s1 s2 => ⟨⟨hS H (s1.trans s2), by rw [← hl]; exact (List.getElem?_eq_some_iff.mp e).1⟩, fun x H' ⟨e1, e2⟩ => ?_⟩, fun H s => ⟨hS H s, by rw [hl]; exact Nat.le_refl _⟩⟩
 subst e1
 obtain ⟨x', q1, q2⟩ := r.get' e
 rw [q1] at e2; cases e2
 exact ⟨Same.refl _, H1, .refl s2, q2.mono s1⟩
theorem zD_rd (lo : Int) (n : Nat) : RDs K H0 (zD lo n) (zseq lo n) := by
 have : ∀ l : List Nat, RDs K H0 (l.map fun (i : Nat) => D.int (lo + i)) (l.map fun (i : Nat) => V.int (lo + i)) := by
   intro l
   induction l with
   | nil => simp [RDs]
   | cons a l ih => exact .cons (.mkInt _) ih
 exact this _
theorem q_seq {tg l : Expr} {f : DE → R D} (hl : QE X EX false l f) : QI X EX false tg l (iL f) := ⟨(pi_seq hl.h).imp fun σ H Q ⟨sx, ρ, H0, s, e, h⟩ => by
 unfold iL at h
 rw [Rk.bind] at h
 refine TEd.go sx s e h fun d h v H1 H1' s1 e1 r1 => ?_
 obtain ⟨ds, hd, h⟩ := h.of
 cases d <;> simp only [items] at hd <;> first | cases hd | skip
 . obtain ⟨a, xs, rfl, ha, ra⟩ := r1.tup
   exact z189 (e1.2.1 _ _ ha) (h _ H1 H1' s1 e1 (itok_S (fun H s => s _ _ ha) ra))
 . obtain ⟨a, xs, rfl, ha, ra⟩ := r1.lst
   exact z188 (.inl (e1.2.1 _ _ ha)) (h _ H1 H1' s1 e1 (itok_S (fun H s => .inl (s _ _ ha)) ra))⟩
theorem q_r1 {tg a : Expr} {p pos : Pos} {fs : DE → R (List D)} (hg : Gl X "range") (hm : X.mg "range" = none) (ha : QA X EX [a] fs) (hs : starEach [a] X.env = [(false, eval a X.env)] := by rfl) : QI X EX true tg (.Call (.Name "range" p) [a] [] pos) (iR1d fs) := ⟨(pi_r1 hg hm ha.h hs).imp fun σ H Q ⟨sx, ρ, H0, s, e, h⟩ => by
 unfold iR1d at h
 rw [Rk.bind] at h
 refine TAd.go sx s e h fun ds h vs H1 H1' s1 e1 r1 => ?_
 obtain ⟨es, hd, h⟩ := h.of
 split at hd <;> first | cases hd | skip
 obtain ⟨x, rfl, q1⟩ := r1.uno
 cases q1.int
 split at hd <;> cases hd
 rename_i hb
 exact ⟨hb, h _ H1 H1' s1 e1 (itok_S (fun _ _ => trivial) (zD_rd _ _))⟩⟩
theorem q_r2 {tg a b : Expr} {p pos : Pos} {fs : DE → R (List D)} (hg : Gl X "range") (hm : X.mg "range" = none) (ha : QA X EX [a, b] fs) (hs : starEach [a, b] X.env = [(false, eval a X.env), (false, eval b X.env)] := by rfl) (hs2 : starEach [b] X.env = [(false, eval b X.env)] := by rfl) :
   QI X EX true tg (.Call (.Name "range" p) [a, b] [] pos) (iR2d fs) := ⟨(pi_r2 hg hm ha.h hs hs2).imp fun σ H Q ⟨sx, ρ, H0, s, e, h⟩ => by
 unfold iR2d at h
 rw [Rk.bind] at h
 refine TAd.go sx s e h fun ds h vs H1 H1' s1 e1 r1 => ?_
 obtain ⟨es, hd, h⟩ := h.of
 split at hd <;> first | cases hd | skip
 obtain ⟨x, y, rfl, q1, q2⟩ := r1.duo
 cases q1.int; cases q2.int
 split at hd <;> cases hd
 rename_i hb
 exact ⟨hb, h _ H1 H1' s1 e1 (itok_S (fun _ _ => trivial) (zD_rd _ _))⟩⟩
theorem itok_P {S : Hp → Prop} {xs ys : List V} {ds es : List D} (hS : ∀ H, Same H0 H → S H) (r : RDs K H0 ds xs) (r' : RDs K H0 es ys) : ItOk K (ItP S (xs.zip ys)) H0 ((ds.zip es).map fun p => D.tup [p.1, p.2]) := by
 have hl := r.length
 have hl' := r'.length
 have hz : ((ds.zip es).map fun p => D.tup [p.1, p.2]).length = (xs.zip ys).length := by rw [List.length_map, List.length_zip, List.length_zip, hl, hl']
 refine ⟨fun i d e H H1 s1 s2 => ⟨⟨hS H (s1.trans s2), by rw [← hz]; exact (List.getElem?_eq_some_iff.mp e).1⟩, fun x H' y => ?_⟩, fun H s => ⟨hS H s, hz⟩⟩
 obtain ⟨T, a, b, rfl, hT, rfl, ep⟩ := y
 obtain ⟨ea, eb⟩ := List.getElem?_zip_eq_some.mp ep
 obtain ⟨da, ga, ra⟩ := r.get ea
 obtain ⟨db, gb, rb⟩ := r'.get eb
 have gz : (ds.zip es)[i]? = some (da, db) := List.getElem?_zip_eq_some.mpr ⟨ga, gb⟩
 rw [List.getElem?_map, gz] at e
 cases e
 refine ⟨Same.upd_new hT, upd H1 T (.tup [a, b]), .new s2 hT, .mkTup z8 ?_⟩
 have sm := Same.upd_new (o := .tup [a, b]) (s2.none hT)
 exact .cons (ra.mono (s1.trans sm)) (.cons (rb.mono (s1.trans sm)) .nil)
theorem q_en {elts : List Expr} {k : Nat} {a : Expr} {p pos tpos : Pos} {fs : DE → R (List D)} (hg : Gl X "enumerate") (hm : X.mg "enumerate" = none) (ha : QA X EX [a] fs) (hs : starEach [a] X.env = [(false, eval a X.env)] := by rfl) :
   QI X EX false (.Tuple elts k tpos) (.Call (.Name "enumerate" p) [a] [] pos) (iEn fs) := ⟨(z1bf hg hm ha.h hs).imp fun σ H Q ⟨sx, ρ, H0, s, e, h⟩ => by
 unfold iEn at h
 rw [Rk.bind] at h
 refine TAd.go sx s e h fun ds h vs H1 H1' s1 e1 r1 => ?_
 obtain ⟨es, hd, h⟩ := h.of
 split at hd <;> first | cases hd | skip
 obtain ⟨x, rfl, q1⟩ := r1.uno
 obtain ⟨l, xs, rfl, hl, rl⟩ := q1.lst
 refine ⟨xs, .inl (e1.2.1 _ _ hl), h _ H1 H1' s1 e1 ?_⟩
 rw [rl.length]
 exact itok_P (fun H s => .inl (s _ _ hl)) (zD_rd _ _) rl⟩
end
section
variable {X : Cx} {sc : Scope} {caps : List Str} {ix : List Nat} {elt iter : Expr} {ifs : List Expr} {pos px py pz tpos : Pos} {x y z : Str} {kt : Nat} {kp : Bool} {EX : XW} {fi : DE → R (List D)} {t : DE → R Bool} {f : DE → R D}
def bYes : DE → R Bool := fun _ => .ok true
inductive PTq (X : Cx) (sc : Scope) (N : List Str) : List Expr → (DE → R Bool) → Prop where
 | nil : PTq X sc N [] bYes
 | one {c : Expr} {t : DE → R Bool} (h : ∀ fp s H, QT (cxComp X sc N fp s H) F0 c t) : PTq X sc N [c] t
theorem PTq.run {N : List Str} (h : PTq X sc N ifs t) : ∃ tt, (∀ fp s H, PTs (cxComp X sc N fp s H) ifs tt) ∧ ∀ σ H Q, TTd X.K F0 t σ H Q → tt σ H Q := by
 cases h with
 | nil => exact ⟨_, fun _ _ _ => .nil, fun σ H Q ⟨sx, ρ, H0, s, e, h⟩ => h H (Same.refl _)⟩
 | one h => exact ⟨_, fun fp s H => .one (h fp s H).h, fun _ _ _ q => q⟩
theorem q_c1 (C : CompOk X sc caps ix) (hN : ([x] ++ caps).Nodup) (hx : sc.names.lookup x = some .local) (hi : QI X EX kp (.Name x px) iter fi) (ht : PTq X sc ([x] ++ caps) ifs t) (he : ∀ fp s H, QE (cxComp X sc ([x] ++ caps) fp s H) F0 false elt f)
   (hs : ∀ x, foldedSetIterable iter X.env x = pure x := by intro _; rfl) : QE X EX true (.ListComp elt [⟨.Name x px, iter, ifs, 0⟩] sc pos) (eComp fi b1 ix t f) := by
 obtain ⟨tt, h1, h2⟩ := ht.run
 refine ⟨(z18a C hN hx hi.h h1 (fun fp s H => (he fp s H).h) hs).imp fun _ _ _ q => d_comp bd_1 h2 q⟩
theorem z13d {te te' : TE} {g : TG} (h : ∀ σ H Q, te' σ H Q → te σ H Q) {De : Ends} {σ : St} {H : Hp} (q : tAsg te' g De σ H) : tAsg te g De σ H := h _ _ _ q
theorem s_c1 {fr : Bool} {m : List Bool} {v : Str} {k : Nat} {spos pv : Pos} (hNX : X.N.Nodup) (hk : X.N[k]? = some v) (hv : X.env.scope.names.lookup v = some .local) (C : CompOk X sc caps ix) (hN : ([x] ++ caps).Nodup) (hx : sc.names.lookup x = some .local) (hi : QI X EX kp (.Name x px) iter fi)
   (ht : PTq X sc ([x] ++ caps) ifs t) (he : ∀ fp s H, QE (cxComp X sc ([x] ++ caps) fp s H) F0 false elt f)
   (hsw : swapsWith (.ListComp elt [⟨.Name x px, iter, ifs, 0⟩] sc pos) (some (.Name v pv)) spos.line X.env = pure true := by rfl) (hs : ∀ x, foldedSetIterable iter X.env x = pure x := by intro _; rfl) :
   QS X EX fr (.Assign [.Name v pv] (.ListComp elt [⟨.Name x px, iter, ifs, 0⟩] sc pos) spos) (sAsg true k m (eComp fi b1 ix t f)) := by
 obtain ⟨tt, h1, h2⟩ := ht.run
 refine ⟨(z18b hNX hk hv C hN hx hi.h h1 (fun fp s H => (he fp s H).h) hsw hs).imp fun _ _ _ q => z13d (fun _ _ _ q => d_comp bd_1 h2 q) (d_asg q)⟩
end
section
variable {X : Cx} {EX : XW} {fr fr' : Bool} {st : Stmt} {sts : List Stmt} {a b c e : Expr} {es : List Expr} {f fv fk : DE → R D} {fs : DE → R (List D)} {t : DE → R Bool} {g g1 g2 : DS → SR} {pos p : Pos} {m : List Bool}
theorem b_nil : QB X EX fr [] sNx := ⟨pss_nil.imp fun _ _ _ q => d_nx q⟩
theorem b_one (h : QS X EX fr st g) : QB X EX fr [st] g := ⟨z1af h.h⟩
theorem b_cons (h1 : QS X EX fr st g1) (h2 : QB X EX fr sts g2) : QB X EX fr (st :: sts) (sSeq g1 g2) := ⟨(z17e h1.h h2.h).imp fun _ _ _ q => d_seq q⟩
theorem z163 : QS X EX fr st sNo := ⟨ps_never.imp fun _ _ _ q => d_no q⟩
theorem s_if {x y : List Stmt} (hc : QT X EX c t) (ha : QB X EX fr x g1) (hb : QB X EX fr y g2) : QS X EX fr (.If c x y pos) (sIf t g1 g2) := ⟨(ps_if hc.h ha.h hb.h).imp fun _ _ _ q => d_ifs q⟩
theorem s_ret (he : QE X EX fr e f) : QS X EX fr (.Return (some e) pos) (sRet m f) := ⟨(ps_ret he.h).imp fun _ _ _ q => d_ret q⟩
theorem s_retO {i : Nat} {x : Str} {p : Pos} (hN : X.N[i]? = some x := by rfl) (hv : Vis X.env.scope x := by first | exact Or.inl rfl | exact Or.inr (Or.inl rfl) | exact Or.inr (Or.inr rfl)) (hd : (x == ("__debug__" : Str)) = false := by decide)
   (hcd : (x == ("__classdict__" : Str)) = false := by decide) : QS X EX true (.Return (some (.Name x p)) pos) (sRetO i) := ⟨(ps_ret (pw i hN hv hd hcd)).imp fun _ _ _ q => d_retO q⟩
theorem s_drop (he : QE X EX false e f) (hs : swapsWith e none pos.line X.env = pure false := by rfl) : QS X EX fr (.Expr e pos) (sDrop f) := ⟨(zf4 he.h hs).imp fun _ _ _ q => d_drop q⟩
theorem s_asg {i : Nat} {x : Str} {pos' : Pos} (hN : X.N.Nodup) (hi : X.N[i]? = some x) (hx : Loc X.env.scope x) (he : QE X EX fr' e f) (hs : swapsWith e (some (.Name x pos')) pos.line X.env = pure false := by rfl) (hf : X.fn x = true ∨ X.env.scope.names.lookup x = some .local := by first | exact .inl rfl | exact .inr rfl | assumption) :
   QS X EX fr (.Assign [.Name x pos'] e pos) (sAsg fr' i m f) := ⟨(ps_set hN hi hx he.h hs hf).imp fun _ _ _ q => d_asg q⟩
theorem g_n {i : Nat} {x : Str} {pos : Pos} (hN : X.N.Nodup) (hi : X.N[i]? = some x) (hx : Loc X.env.scope x) (hf : X.fn x = true ∨ X.env.scope.names.lookup x = some .local := by first | exact .inl rfl | exact .inr rfl | assumption) : QG X (.Name x pos) (.n i) := ⟨(zf5 hN hi hx hf).imp fun _ _ _ _ q => d_tn q⟩
theorem gs_nil : QGs X [] [] := ⟨z18c⟩
theorem z42 {i : Nat} {is : List Nat} {x : Str} {pos : Pos} {ts : List Expr} (hN : X.N.Nodup) (hi : X.N[i]? = some x) (hx : Loc X.env.scope x) (hr : QGs X ts is) (hf : X.fn x = true ∨ X.env.scope.names.lookup x = some .local := by first | exact .inl rfl | exact .inr rfl | assumption)
   (hs : (assignEach (.Name x pos :: ts) X.env).map (·.2) = assign (.Name x pos) X.env :: (assignEach ts X.env).map (·.2) := by rfl) : QGs X (.Name x pos :: ts) (i :: is) := ⟨z13a (zf5 hN hi hx hf) hr.h hs⟩
theorem g_t {is : List Nat} {ts : List Expr} {k : Nat} {pos : Pos} (hc : X.calm = true) (h : QGs X ts is) (hn : (assignEach ts X.env).length = is.length := by rfl) (hst : (assignEach ts X.env).findIdx? (·.1) = none := by rfl) : QG X (.Tuple ts k pos) (.t is) := ⟨(z1c1 hc h.h hn hst).imp fun _ _ _ _ q => d_tt q⟩
theorem s_for {tg iter : Expr} {tt : Tg} {body : List Stmt} {kp : Bool} {fi : DE → R (List D)} (hp : PassesOwn (model X.prog X.w) X.A X.env X.xe) (hc : X.calm = true) (hi : QI X EX kp tg iter fi) (hg : QG X tg tt) (hb : QB X EX fr body g)
   (hs : ∀ x, foldedSetIterable iter X.env x = pure x := by intro _; rfl) : QS X EX fr (.For tg iter body [] pos) (sFor kp m fi tt g) := ⟨(z1be hp hc hi.h hg.h hb.h hs).imp fun _ _ _ q => d_for q⟩
theorem z1d2 {n : Nat} {body : List Stmt} (hp : PassesOwn (model X.prog X.w) X.A X.env X.xe) (hc : QT X EX c t) (hb : QB X EX fr body g) : QS X EX fr (.While c body [] pos) (sWhile n t g) := ⟨(z180 hp hc.h hb.h).imp fun _ _ _ q => z1c6 q⟩
def mApp : D → List D → Option D
 | .lst ds, [d] => if ds.length < 100000 then some (.lst (ds ++ [d])) else none
 | _, _ => none
theorem zdd {K : PySem.W.Frag} : TyD K "list" := fun H0 H a d ob h => by
 cases d <;> simp [isT] at h
 simp only [OB] at ob
 obtain ⟨xs, hx, _⟩ := ob
 exact .inl ⟨rfl, xs, .of hx⟩
theorem md_app {K : PySem.W.Frag} : MutD K mApp z156 := by
 intro H0 H a d d' ds vs Q s h0 ob r hm k
 unfold mApp at hm
 split at hm <;> first | cases hm | skip
 split at hm <;> cases hm
 rename_i es e hl
 simp only [OB] at ob
 obtain ⟨xs, hx, rx⟩ := ob
 obtain ⟨y, rfl, q1⟩ := r.uno
 refine ⟨a, xs, y, rfl, rfl, hx, by rw [← rx.length]; exact z3c hl, k _ _ ?_⟩
 simp only [OB]
 exact ⟨_, z8, rx.append (.one q1)⟩
theorem s_mut {T id : String} {name : Str} {i : Nat} {x : Str} {xp apos cpos : Pos} {mt : D → List D → Option D} {rr : V → List V → Hp → VK → Prop} (pa : PlainAttrs T) (slot : Slot T name id) (hty : typeOf (.builtin id) = pure (.type "method_descriptor")) (hm : MtM X id rr) (od : MutD X.K mt rr) (hT : TyD X.K T)
   (ho : PE X (.Name x xp) (cVar i)) (ha : QA X EX (e :: es) fs)
   (hbase : attributeBase (.Name x xp) name X.env (eval (.Name x xp) X.env) = eval (.Name x xp) X.env := by rfl)
   (hfew : ((backTo cpos (starEach (e :: es) X.env)).all (fun x => !x.1) && (backToKw cpos (keywordEach [] X.env)).all (fun x => x.1.isSome)
     && decide ((e :: es).length + ([] : List Keyword).length + (if ([] : List Keyword).isEmpty then 0 else 1) < 30)) = true := by rfl)
   (hline : (apos.endLine == cpos.line) = true := by rfl) (hs : starEach (e :: es) X.env = (false, eval e X.env) :: starEach es X.env := by rfl) (hplain : (backTo cpos (starEach es X.env)).any (·.1) = false := by rfl)
   (hsw : swapsWith (.Call (.Attribute (.Name x xp) name apos) (e :: es) [] cpos) none pos.line X.env = pure false := by rfl) :
   QS X EX fr (.Expr (.Call (.Attribute (.Name x xp) name apos) (e :: es) [] cpos) pos) (sMut T mt i m fs) := ⟨(zf4 (pe_bm pa slot hty hm ho ha.h hbase hfew hline hs hplain) hsw).imp fun _ _ _ q => d_mut od hT q⟩
def dSet : D → D → D → Option D
 | .lst ds, .int i, v => (ixN ds.length i).map fun j => .lst (ds.set j v)
 | .dk ks ds, k, v => if ks.length < 100000 then (keyD k).map fun k => .dk (putKs ks k) (putV ks ds k v) else none
 | .dt ks ds, .tup es, v => if ks.length < 100000 then (keysD es).map fun k => .dt (putKs ks k) (putV ks ds k v) else none
 | _, _, _ => none
def rSetG : TSet := fun o i v H Q => rSetL o i v H Q ∨ ∃ a H', o = .ref a ∧ DPut H a i v H' ∧ Q H'
theorem set_G (hu : X.A.units + 64 < cLine) : PSet X rSetG := by
 intro pins s σ H o i v ov iv u Q I ro ri rv h
 rcases h with h | ⟨a, H', rfl, g, q⟩
 . exact z183 pins s σ H o i v ov iv u Q I ro ri rv h
 . cases ro
   exact z131 (by omega) I g ri rv fun s' I' => ⟨H', I', q⟩
theorem sd_set {K : PySem.W.Frag} : SetD K dSet rSetG := by
 intro H0 H a d d' dk dv y v Q s h0 ob rk rv hm k
 cases d <;> simp only [dSet] at hm <;> first | cases hm | skip
 . cases dk <;> simp only [dSet] at hm <;> first | cases hm | skip
   rename_i ds i
   simp only [OB] at ob
   obtain ⟨xs, hx, rx⟩ := ob
   cases rk.int
   cases hj : ixN ds.length i with
   | none => rw [hj] at hm; cases hm
   | some j =>
     rw [hj] at hm; cases hm
     refine .inl ⟨a, xs, i, j, rfl, rfl, hx, by rw [← rx.length]; exact hj, k _ ?_⟩
     simp only [OB]
     exact ⟨_, z8, rx.set j rv⟩
 . rename_i ks ds
   split at hm
   . rename_i hl
     cases hk : keyD dk with
     | none => rw [hk] at hm; cases hm
     | some kk =>
       rw [hk] at hm
       have hm : D.dk (putKs ks kk) (putV ks ds kk dv) = d' := by simpa using hm
       subst hm
       simp only [OB] at ob
       obtain ⟨xs, hx, hlen, rx⟩ := ob
       cases za9 hk rk
       refine .inr ⟨a, _, rfl, DPut.k hx (by rw [List.length_zip, ← hlen, Nat.min_self]; exact z3c hl), k _ ?_⟩
       obtain ⟨e1, e2⟩ := zbf kk v hlen
       simp only [OB]
       exact ⟨_, by rw [z8, e1], e2, zdc kk rv rx⟩
   . cases hm
 . rename_i ks ds
   cases dk <;> simp only [dSet] at hm <;> first | cases hm | skip
   rename_i es
   split at hm
   . rename_i hl
     cases hk : keysD es with
     | none => rw [hk] at hm; cases hm
     | some kk =>
       rw [hk] at hm
       have hm : D.dt (putKs ks kk) (putV ks ds kk dv) = d' := by simpa using hm
       subst hm
       simp only [OB] at ob
       obtain ⟨xs, hx, hlen, rx⟩ := ob
       obtain ⟨b, ys, rfl, hb, rb⟩ := rk.tup
       have e := zbe hk rb
       subst e
       refine .inr ⟨a, _, rfl, DPut.t hx (s _ _ hb) (by rw [List.length_zip, ← hlen, Nat.min_self]; exact z3c hl), k _ ?_⟩
       obtain ⟨e1, e2⟩ := zbf kk v hlen
       simp only [OB]
       exact ⟨_, by rw [z8, e1], e2, zdc kk rv rx⟩
   . cases hm
theorem s_set {i : Nat} {o ix : Expr} {tpos : Pos} (hu : X.A.units + 64 < cLine) (ho : PE X o (cVar i)) (hk : QE X EX false ix fk) (hv : QE X EX false e fv)
   (ha : ∀ v, assign (.Subscript o ix tpos) X.env v = (do
     let ov ← holding [v] (eval o X.env)
     let iv ← holding [v, ov] (eval ix X.env)
     standAt tpos
     holding [v, ov, iv] (setItem ov iv v)
     release [v, ov, iv] []) := by intro _; rfl) (hs : swapsWithSole [.Subscript o ix tpos] e pos.line X.env = pure false := by rfl) (hw : swappedStores [.Subscript o ix tpos] e X.env = pure none := by rfl)
   (h1 : (assignEach [.Subscript o ix tpos] X.env).map (·.2) = [assign (.Subscript o ix tpos) X.env] := by rfl) : QS X EX fr (.Assign [.Subscript o ix tpos] e pos) (sSet dSet i m fk fv) := ⟨(ps_asg hv.h (pg_sub ho hk.h (set_G hu) ha) hs hw h1).imp fun _ _ _ q => d_set sd_set q⟩
def eNewK : DE → R D := fun _ => .ok (.dk [] [])
theorem q_newK : QE X EX true (.Dict [] [] pos) eNewK := ⟨pe_dnewK.imp fun σ H Q ⟨sx, ρ, H0, s, e, h⟩ p hp => h _ _ (.new s hp fun H' hH => by simp only [OB]; exact ⟨[], hH, rfl, .nil⟩)⟩
end
theorem fnD {P : Program} {w : World} {K : PySem.W.Frag} {mg : Str → Option Value} {base : Heap} {x qual : Str} {st : Stmt} {f : Addr} {fd : FuncData} {N ps : List Str} {k n kk : Nat} {fr : Bool} {g : DS → SR} (F : Fun K x qual st f fd) (S : FnScope N ps (z0 st)) (hps : ps.length = n) (hN : N.length = n + kk)
   (hbody : ∀ (cdv : Value) (A : Around) (outer : List Env) (s : Shared) (H : Hp) (E : XK), Room k (A.deeper (envOfC qual (z0 st) s.heap.objs.size f cdv)) →
     QB (cxOf (CX1 P w) P w K mg base N qual (z0 st) f cdv A outer s H E) ⟨H, xNm mg E⟩ fr (zf st) g) : FnOk P w K mg base (CX1 P w) (k + 1) f fd ps (spD K mg fr (mOf fr n kk g) n) := by
 have hlen : ∀ {vs : List V} {H : Hp} {Q : VK} {E : XK}, spD K mg fr (mOf fr n kk g) n vs H Q E → vs.length = n := fun {vs H Q E} h => by
   obtain ⟨ds, H0, s, r, hn, _⟩ := h
   rw [← r.length]; exact hn
 refine F.okX S (fun vs H Q E h => by rw [hlen h, hps]) (fun cdv A outer s H vs Q E hr h => ⟨_, (hbody cdv A outer s H E hr).h, ?_⟩)
 have e : start N vs = vs.map some ++ List.replicate kk none := by
   unfold start
   rw [hlen h, hN, Nat.add_sub_cancel_left]
 rw [e]
 exact d_body h
def spL (K : PySem.W.Frag) (fr : Bool) (m : List D → R D) (n : Nat) : Sp := fun vs H Q _ => ∃ ds H0, Same H0 H ∧ RDs K H0 ds vs ∧ ds.length = n ∧ Rk (fun _ => False) (m ds) fun d => ∀ v H', Out K fr H0 H d v H' → Q v H'
theorem spL.spD {K : PySem.W.Frag} {fr : Bool} {m : List D → R D} {n : Nat} {vs : List V} {H : Hp} {Q : VK} {E : XK} {mg : Str → Option Value} (h : spL K fr m n vs H Q E) : L2.spD K mg fr m n vs H Q E := by
 obtain ⟨ds, H0, s, r, hn, h⟩ := h
 refine ⟨ds, H0, s, r, hn, ?_⟩
 cases q : m ds with
 | ok d => rw [q] at h; exact h
 | er x => rw [q] at h; exact h.elim
 | st => rw [q] at h; exact h.elim
theorem law_sp {K : PySem.W.Frag} {H : Hp} {a : Addr} {ns : List Int} {m : List D → R D} {fr : Bool} (hO : Only H) (hS : SqL K H a (ns.map V.int)) (h : m [.scr ns] = .ok (.bl true)) : spL K fr m 1 [.ref a] H (fun v _ => v = .bl true) fun _ _ _ => False := by
 refine ⟨[.scr ns], H, Same.refl _, .one ?_, rfl, ?_⟩
 . simp only [RD]
   refine ⟨a, rfl, ?_⟩
   rcases hS with (hS | hS) | hS
   . rcases hO a with z | ⟨o, xs, z⟩ <;> rw [z] at hS <;> cases hS
   . exact .inl hS
   . exact .inr hS
 . rw [h]
   exact fun v H' o => by
     obtain ⟨_, H0', _, r⟩ := o.weak.rd
     exact r.bl
end L2
namespace L2
open PySem PySem.Spec PyProof.Rows
open PySem.W (KasT kas_sort kas_rev kas_asc kas_desc kas_tail3 kas_descPart kas_count kas_place kas_bin)
def runT {α : Type} (lt : Nat → Nat → Bool) : KasT α → α
 | .ret a => a
 | .ask i j k => runT lt (k (lt i j))
theorem z47 {α β : Type} {lt : Nat → Nat → Bool} {f : α → KasT β} : ∀ t : KasT α, runT lt (t.bind f) = runT lt (f (runT lt t))
 | .ret a => rfl
 | .ask i j k => by
   show runT lt ((k (lt i j)).bind f) = _
   exact z47 (k (lt i j))
structure Ord (lt : Nat → Nat → Bool) : Prop where
 irr : ∀ a, lt a a = false
 tr : ∀ {a b c}, lt b a = false → lt c b = false → lt c a = false
 asy : ∀ {a b}, lt a b = true → lt b a = false
section
variable {lt : Nat → Nat → Bool} {p : Array Nat}
abbrev g (p : Array Nat) (i : Nat) : Nat := p.getD i 0
def SrtTo (lt : Nat → Nat → Bool) (p : Array Nat) (m : Nat) : Prop := ∀ i j, i ≤ j → j < m → lt (g p j) (g p i) = false
def NonTo (lt : Nat → Nat → Bool) (p : Array Nat) (m : Nat) : Prop := ∀ i j, i ≤ j → j < m → lt (g p i) (g p j) = false
theorem zaa {p q : Array Nat} {i j : Nat} (h : p[i]? = q[j]?) : g p i = g q j := by
 unfold g
 rw [Array.getD_eq_getD_getElem?, Array.getD_eq_getD_getElem?, h]
theorem g_rev {i j : Nat} (hj : j ≤ p.size) (k : Nat) : g (kas_rev p i j) k = if i ≤ k ∧ k < j then g p (i + j - 1 - k) else g p k := by
 have e := getElem?_mirror_all (i := i) hj k
 split
 . rename_i h; rw [if_pos h] at e; exact zaa e
 . rename_i h; rw [if_neg h] at e; exact zaa e
theorem zc0 {i j : Nat} : (kas_rev p i j).size = p.size := mirror_size _ _ _ _
theorem rev_perm {i j : Nat} : (kas_rev p i j).Perm p := mirror_perm _ _ _ _
theorem asc_ok (O : Ord lt) : ∀ (f n : Nat), 1 ≤ n → SrtTo lt p n → n ≤ runT lt (kas_asc p f n) ∧ runT lt (kas_asc p f n) ≤ n + f ∧ SrtTo lt p (runT lt (kas_asc p f n)) ∧
     (runT lt (kas_asc p f n) = n + f ∨ lt (g p (runT lt (kas_asc p f n))) (g p (runT lt (kas_asc p f n) - 1)) = true)
 | 0, n, h1, hs => ⟨Nat.le_refl _, Nat.le_refl _, hs, .inl rfl⟩
 | f + 1, n, h1, hs => by
   unfold kas_asc
   simp only [runT]
   cases hc : lt (p.getD n 0) (p.getD (n - 1) 0) with
   | true => simp only [if_true, runT]; exact ⟨Nat.le_refl _, by omega, hs, .inr hc⟩
   | false =>
     simp only [Bool.false_eq_true, if_false]
     have hs' : SrtTo lt p (n + 1) := fun i j hij hj => by
       by_cases hjn : j = n
       . subst hjn
         by_cases hi : i = j
         . subst hi; exact O.irr _
         . exact O.tr (hs i (j - 1) (by omega) (by omega)) hc
       . exact hs i j hij (by omega)
     obtain ⟨a, b, c, d⟩ := asc_ok O f (n + 1) (by omega) hs'
     exact ⟨by omega, by omega, c, d.imp (fun z => by omega) id⟩
def EqTo (lt : Nat → Nat → Bool) (p : Array Nat) (n q : Nat) : Prop := ∀ i j, n - (q + 1) ≤ i → i < n → n - (q + 1) ≤ j → j < n → lt (g p i) (g p j) = false
theorem z164 (O : Ord lt) {n q : Nat} (hn : n ≤ p.size) (hq : q + 1 ≤ n) (hs : NonTo lt p n) (he : EqTo lt p n q) : NonTo lt (kas_rev p (n - (q + 1)) n) n := by
 intro i j hij hj
 rw [g_rev hn, g_rev hn]
 split <;> split
 . exact he _ _ (by omega) (by omega) (by omega) (by omega)
 . omega
 . exact hs _ _ (by omega) (by omega)
 . exact hs i j hij hj
theorem zde (O : Ord lt) : ∀ (f : Nat) (p : Array Nat) (n q : Nat), n + f ≤ p.size → q + 1 ≤ n → NonTo lt p n → EqTo lt p n q →
   (runT lt (kas_desc f p n q)).1.Perm p ∧ n ≤ (runT lt (kas_desc f p n q)).2.1 ∧ (runT lt (kas_desc f p n q)).2.1 ≤ n + f ∧ (runT lt (kas_desc f p n q)).2.2 + 1 ≤ (runT lt (kas_desc f p n q)).2.1 ∧
     NonTo lt (runT lt (kas_desc f p n q)).1 (runT lt (kas_desc f p n q)).2.1 ∧ EqTo lt (runT lt (kas_desc f p n q)).1 (runT lt (kas_desc f p n q)).2.1 (runT lt (kas_desc f p n q)).2.2
 | 0, p, n, q, hn, hq, hs, he => ⟨Array.Perm.refl _, Nat.le_refl _, Nat.le_refl _, hq, hs, he⟩
 | f + 1, p, n, q, hn, hq, hs, he => by
   unfold kas_desc
   simp only [runT]
   have eq0 : ∀ (p' : Array Nat), EqTo lt p' (n + 1) 0 := fun p' i j h1 h2 h3 h4 => by
     have : i = j := by omega
     subst this; exact O.irr _
   have step : ∀ (p' : Array Nat), p'.size = p.size → NonTo lt p' n → lt (g p' n) (g p' (n - 1)) = true → NonTo lt p' (n + 1) := fun p' _ hs' hc i j hij hj => by
     by_cases hjn : j = n
     . subst hjn
       by_cases hi : i = j
       . subst hi; exact O.irr _
       . exact O.tr (O.asy hc) (hs' i (j - 1) (by omega) (by omega))
     . exact hs' i j hij (by omega)
   cases hc : lt (p.getD n 0) (p.getD (n - 1) 0) with
   | true =>
     simp only [if_true]
     by_cases hq0 : q > 0
     . rw [if_pos hq0]
       have hr := z164 O (by omega) hq hs he
       have hz : (kas_rev p (n - (q + 1)) n).size = p.size := zc0
       have hc' : lt (g (kas_rev p (n - (q + 1)) n) n) (g (kas_rev p (n - (q + 1)) n) (n - 1)) = true := by
         rw [g_rev (by omega), g_rev (by omega), if_neg (by omega), if_pos (by omega)]
         -- the first of the last run stands as its last
         have e1 : lt (g p (n - (q + 1) + n - 1 - (n - 1))) (g p (n - 1)) = false := he _ _ (by omega) (by omega) (by omega) (by omega)
         have e2 : lt (g p (n - 1)) (g p (n - (q + 1) + n - 1 - (n - 1))) = false := he _ _ (by omega) (by omega) (by omega) (by omega)
         cases hx : lt (g p n) (g p (n - (q + 1) + n - 1 - (n - 1))) with
         | true => rfl
         | false =>
           have z := O.tr e1 hx
           rw [show lt (g p n) (g p (n - 1)) = true from hc] at z
           cases z
       obtain ⟨a1, a2, a3, a4, a5, a6⟩ := zde O f _ (n + 1) 0 (by rw [hz]; omega) (by omega) (step _ hz hr hc') (eq0 _)
       exact ⟨a1.trans rev_perm, by omega, by omega, a4, a5, a6⟩
     . rw [if_neg hq0]
       obtain ⟨a1, a2, a3, a4, a5, a6⟩ := zde O f p (n + 1) 0 (by omega) (by omega) (step _ rfl hs hc) (eq0 _)
       exact ⟨a1, by omega, by omega, a4, a5, a6⟩
   | false =>
     simp only [Bool.false_eq_true, if_false, runT]
     cases hd : lt (p.getD (n - 1) 0) (p.getD n 0) with
     | true => simp only [if_true, runT]; exact ⟨Array.Perm.refl _, Nat.le_refl _, by omega, hq, hs, he⟩
     | false =>
       simp only [Bool.false_eq_true, if_false]
       have hs' : NonTo lt p (n + 1) := fun i j hij hj => by
         by_cases hjn : j = n
         . subst hjn
           by_cases hi : i = j
           . subst hi; exact O.irr _
           . exact O.tr hd (hs i (j - 1) (by omega) (by omega))
         . exact hs i j hij (by omega)
       have he' : EqTo lt p (n + 1) (q + 1) := fun i j h1 h2 h3 h4 => by
         by_cases hi : i = n <;> by_cases hj : j = n
         . rw [hi, hj]; exact O.irr _
         . rw [hi]; exact O.tr (he (n - 1) j (by omega) (by omega) (by omega) (by omega)) hc
         . rw [hj]; exact O.tr hd (he i (n - 1) (by omega) (by omega) (by omega) (by omega))
         . exact he i j (by omega) (by omega) (by omega) (by omega)
       obtain ⟨a1, a2, a3, a4, a5, a6⟩ := zde O f p (n + 1) (q + 1) (by omega) (by omega) hs' he'
       exact ⟨a1, by omega, by omega, a4, a5, a6⟩
theorem z110 (O : Ord lt) {n nrem : Nat} (h1 : 1 ≤ n) (hn : n ≤ nrem) (hz : nrem ≤ p.size) (hs : NonTo lt p n) :
   n ≤ (runT lt (kas_tail3 n nrem p)).1 ∧ (runT lt (kas_tail3 n nrem p)).1 ≤ nrem ∧ (runT lt (kas_tail3 n nrem p)).2.Perm p ∧ SrtTo lt (runT lt (kas_tail3 n nrem p)).2 (runT lt (kas_tail3 n nrem p)).1 := by
 unfold kas_tail3
 rw [z47]
 simp only [runT]
 have hs' : SrtTo lt (kas_rev p 0 n) n := fun i j hij hj => by
   rw [g_rev (by omega), g_rev (by omega), if_pos (by omega), if_pos (by omega)]
   exact hs _ _ (by omega) (by omega)
 obtain ⟨a, b, c, _⟩ := asc_ok O (nrem - n) n h1 hs'
 exact ⟨a, by omega, rev_perm, c⟩
theorem z80 (O : Ord lt) {n nrem : Nat} (hn : n + 1 ≤ nrem) (hz : nrem ≤ p.size) (hs : NonTo lt p (n + 1)) :
   1 ≤ (runT lt (kas_descPart n nrem p)).1 ∧ (runT lt (kas_descPart n nrem p)).1 ≤ nrem ∧ (runT lt (kas_descPart n nrem p)).2.Perm p ∧ SrtTo lt (runT lt (kas_descPart n nrem p)).2 (runT lt (kas_descPart n nrem p)).1 := by
 unfold kas_descPart
 rw [z47]
 obtain ⟨a1, a2, a3, a4, a5, a6⟩ := zde O (nrem - (n + 1)) p (n + 1) 0 (by omega) (by omega) hs (fun i j h1 h2 h3 h4 => by
   have : i = j := by omega
   subst this; exact O.irr _)
 generalize hr : runT lt (kas_desc (nrem - (n + 1)) p (n + 1) 0) = r at *
 have hsz : r.1.size = p.size := a1.size_eq
 split
 . rename_i hq
   obtain ⟨b1, b2, b3, b4⟩ := z110 (nrem := nrem) O (by omega) (by omega) (by rw [zc0, hsz]; exact hz) (z164 O (by rw [hsz]; omega) a4 a5 a6)
   exact ⟨by omega, b2, b3.trans (rev_perm.trans a1), b4⟩
 . obtain ⟨b1, b2, b3, b4⟩ := z110 (nrem := nrem) O (by omega) (by omega) (by rw [hsz]; exact hz) a5
   exact ⟨by omega, b2, b3.trans a1, b4⟩
theorem z191 (O : Ord lt) {nrem : Nat} (h1 : 1 ≤ nrem) (hz : nrem ≤ p.size) :
   1 ≤ (runT lt (kas_count nrem p)).1 ∧ (runT lt (kas_count nrem p)).1 ≤ nrem ∧ (runT lt (kas_count nrem p)).2.Perm p ∧ SrtTo lt (runT lt (kas_count nrem p)).2 (runT lt (kas_count nrem p)).1 := by
 unfold kas_count
 rw [z47]
 have h0 : SrtTo lt p 1 := fun i j hij hj => by
   have : i = j := by omega
   subst this; exact O.irr _
 obtain ⟨a, b, c, d⟩ := asc_ok O (nrem - 1) 1 (Nat.le_refl _) h0
 generalize hm : runT lt (kas_asc p (nrem - 1) 1) = m at *
 by_cases he : m = nrem
 . rw [if_pos (by simpa using he)]
   exact ⟨a, by show m ≤ nrem; omega, Array.Perm.refl _, c⟩
 . rw [if_neg (by simpa using he)]
   have hlt : lt (g p m) (g p (m - 1)) = true := d.resolve_left (by omega)
   by_cases hg : m > 1
   . rw [if_pos hg]
     simp only [runT]
     cases hc : lt (p.getD 0 0) (p.getD (m - 1) 0) with
     | true => simp only [if_true, runT]; exact ⟨a, by omega, Array.Perm.refl _, c⟩
     | false =>
       simp only [Bool.false_eq_true, if_false]
       have al : ∀ i j, i < m → j < m → lt (g p i) (g p j) = false := fun i j hi hj =>
         -- j is at most the last, the last at most the first, the first at most i: so i is not before j
         O.tr (O.tr (c j (m - 1) (by omega) (by omega)) hc) (c 0 i (by omega) hi)
       obtain ⟨b1, b2, b3, b4⟩ := z80 (p := kas_rev p 0 m) (n := m) (nrem := nrem) O (by omega) (by rw [zc0]; exact hz) (fun i j hij hj => by
         rw [g_rev (by omega), g_rev (by omega)]
         by_cases hjm : j < m
         . rw [if_pos (by omega), if_pos (by omega)]; exact al _ _ (by omega) (by omega)
         . have hj' : j = m := by omega
           subst hj'
           by_cases hi : i = j
           . subst hi; rw [if_neg (by omega)]; exact O.irr _
           . rw [if_pos (by omega), if_neg (by omega)]
             -- i stands with the last: m is before it
             exact O.tr (O.asy hlt) (al _ _ (by omega) (by omega)))
       exact ⟨b1, b2, b3.trans rev_perm, b4⟩
   . rw [if_neg hg]
     have hm1 : m = 1 := by omega
     exact z80 O (by omega) hz fun i j hij hj => by
       by_cases hi : i = j
       . subst hi; exact O.irr _
       . have hi0 : i = 0 := by omega
         have hj1 : j = 1 := by omega
         subst hi0; subst hj1
         rw [hm1] at hlt
         exact O.asy hlt
theorem zc1 (O : Ord lt) {k : Nat} (hs : SrtTo lt p k) : ∀ (f l r : Nat), l ≤ r → r ≤ k → r - l ≤ f → (∀ i, i < l → lt (g p k) (g p i) = false) → (∀ i, r ≤ i → i < k → lt (g p k) (g p i) = true) →
   runT lt (kas_place p k f l r) ≤ k ∧ (∀ i, i < runT lt (kas_place p k f l r) → lt (g p k) (g p i) = false) ∧ ∀ i, runT lt (kas_place p k f l r) ≤ i → i < k → lt (g p k) (g p i) = true
 | 0, l, r, h1, h2, h3, hl, hr => by
   have : l = r := by omega
   subst this
   exact ⟨h2, hl, hr⟩
 | f + 1, l, r, h1, h2, h3, hl, hr => by
   unfold kas_place
   by_cases hlr : l ≥ r
   . rw [if_pos hlr]
     have : l = r := by omega
     subst this
     exact ⟨h2, hl, hr⟩
   . rw [if_neg hlr]
     simp only [runT]
     cases hc : lt (p.getD k 0) (p.getD ((l + r) / 2) 0) with
     | true =>
       simp only [if_true]
       refine zc1 O hs f l ((l + r) / 2) (by omega) (by omega) (by omega) hl fun i hi hik => ?_
       cases hx : lt (g p k) (g p i) with
       | true => rfl
       | false =>
         have := O.tr (hs ((l + r) / 2) i hi hik) hx
         rw [show lt (g p k) (g p ((l + r) / 2)) = true from hc] at this; cases this
     | false =>
       simp only [Bool.false_eq_true, if_false]
       exact zc1 O hs f ((l + r) / 2 + 1) r (by omega) h2 (by omega) (fun i hi => O.tr (hs i ((l + r) / 2) (by omega) (by omega)) hc) hr
theorem z111 {k d : Nat} (hk : k < p.size) (hd : d ≤ k) (i : Nat) : g (bubble p k d) i = if i = k - d then g p k else if k - d < i ∧ i ≤ k then g p (i - 1) else g p i := by
 have e := getElem?_bubble hk d hd i
 by_cases h : i = k - d
 . rw [if_pos h] at e ⊢; exact zaa e
 . rw [if_neg h] at e ⊢
   by_cases h2 : k - d < i ∧ i ≤ k
   . rw [if_pos h2] at e ⊢; exact zaa e
   . rw [if_neg h2] at e ⊢; exact zaa e
theorem bin_ok (O : Ord lt) : ∀ (f : Nat) (p : Array Nat) (k : Nat), k + f ≤ p.size → SrtTo lt p k → (runT lt (kas_bin f p k)).Perm p ∧ SrtTo lt (runT lt (kas_bin f p k)) (k + f)
 | 0, p, k, h, hs => ⟨Array.Perm.refl _, hs⟩
 | f + 1, p, k, h, hs => by
   unfold kas_bin
   rw [z47]
   obtain ⟨a, b, c⟩ := zc1 O hs k 0 k (Nat.zero_le _) (Nat.le_refl _) (by omega) (fun i hi => absurd hi (Nat.not_lt_zero _)) (fun i h1 h2 => absurd h2 (by omega))
   generalize hl : runT lt (kas_place p k k 0 k) = l at *
   have hs' : SrtTo lt (bubble p k (k - l)) (k + 1) := fun i j hij hj => by
     rw [z111 (by omega) (by omega), z111 (by omega) (by omega)]
     have hkl : k - (k - l) = l := by omega
     rw [hkl]
     by_cases hj1 : j = l
     . rw [if_pos hj1]
       by_cases hi1 : i = l
       . rw [if_pos hi1]; exact O.irr _
       . rw [if_neg hi1, if_neg (by omega)]; exact b i (by omega)
     . rw [if_neg hj1]
       by_cases hj2 : l < j ∧ j ≤ k
       . rw [if_pos hj2]
         by_cases hi1 : i = l
         . rw [if_pos hi1]; exact O.asy (c (j - 1) (by omega) (by omega))
         . rw [if_neg hi1]
           by_cases hi2 : l < i ∧ i ≤ k
           . rw [if_pos hi2]; exact hs _ _ (by omega) (by omega)
           . rw [if_neg hi2]; exact hs _ _ (by omega) (by omega)
       . rw [if_neg hj2, if_neg (by omega), if_neg (by omega)]
         exact hs _ _ hij (by omega)
   obtain ⟨a1, a2⟩ := bin_ok O f (bubble p k (k - l)) (k + 1) (by rw [bubble_size]; omega) hs'
   exact ⟨a1.trans (bubble_perm _ _ _), by rw [show k + (f + 1) = k + 1 + f by omega]; exact a2⟩
theorem z112 (O : Ord lt) {n : Nat} (h1 : 1 ≤ n) : (runT lt (kas_sort n)).Perm (List.toArray (List.range n)) ∧ SrtTo lt (runT lt (kas_sort n)) n := by
 unfold kas_sort
 rw [z47]
 obtain ⟨a, b, c, d⟩ := z191 (p := List.toArray (List.range n)) O h1 (by simp)
 generalize runT lt (kas_count n (List.toArray (List.range n))) = r at *
 have hsz : r.2.size = n := by rw [c.size_eq]; simp
 split
 . rename_i hr
   obtain ⟨a1, a2⟩ := bin_ok O (n - max r.1 1) r.2 (max r.1 1) (by omega) (by rw [show max r.1 1 = r.1 by omega]; exact d)
   exact ⟨a1.trans c, by rw [show max r.1 1 + (n - max r.1 1) = n by omega] at a2; exact a2⟩
 . rename_i hr
   have : r.1 = n := by omega
   exact ⟨c, by rw [this] at d; exact d⟩
end
end L2
namespace L2
open PySem PySem.Spec PyProof.Rows
open PySem.W (KasT kas_sort)
mutual
def D.oi : D → Bool
 | .int _ => true
 | .tup ds => ois ds
 | _ => false
def ois : List D → Bool
 | [] => true
 | d :: ds => d.oi && ois ds
end
mutual
def ltT : D → D → Bool
 | .int i, .int j => decide (i < j)
 | .int _, .tup _ => true
 | .tup ds, .tup es => ltTs ds es
 | _, _ => false
def ltTs : List D → List D → Bool
 | [], [] => false
 | [], _ :: _ => true
 | _ :: _, [] => false
 | d :: ds, e :: es => if eqD d e = true then ltTs ds es else ltT d e
end
mutual
def cmpD : D → D → Option Bool
 | .int i, .int j => some (decide (i < j))
 | .tup ds, .tup es => cmpDs ds es
 | _, _ => none
def cmpDs : List D → List D → Option Bool
 | [], [] => some false
 | [], _ :: _ => some true
 | _ :: _, [] => some false
 | d :: ds, e :: es => if eqD d e = true then cmpDs ds es else cmpD d e
end
mutual
theorem cmp_lt : ∀ {d e : D} {b : Bool}, cmpD d e = some b → b = ltT d e
 | .int i, .int j, b, h => by simp only [cmpD, Option.some.injEq] at h; simp only [ltT]; exact h.symm
 | .tup ds, .tup es, b, h => by simp only [cmpD] at h; simp only [ltT]; exact z165 h
 | .non, e, b, h => by simp [cmpD] at h
 | .bl _, e, b, h => by simp [cmpD] at h
 | .str _, e, b, h => by simp [cmpD] at h
 | .lst _, e, b, h => by simp [cmpD] at h
 | .dk _ _, e, b, h => by simp [cmpD] at h
 | .dt _ _, e, b, h => by simp [cmpD] at h
 | .dn _ _, e, b, h => by simp [cmpD] at h
 | .scr _, e, b, h => by simp [cmpD] at h
 | .exc _, e, b, h => by simp [cmpD] at h
 | .int _, .non, b, h => by simp [cmpD] at h
 | .int _, .bl _, b, h => by simp [cmpD] at h
 | .int _, .str _, b, h => by simp [cmpD] at h
 | .int _, .lst _, b, h => by simp [cmpD] at h
 | .int _, .tup _, b, h => by simp [cmpD] at h
 | .int _, .dk _ _, b, h => by simp [cmpD] at h
 | .int _, .dt _ _, b, h => by simp [cmpD] at h
 | .int _, .dn _ _, b, h => by simp [cmpD] at h
 | .int _, .scr _, b, h => by simp [cmpD] at h
 | .int _, .exc _, b, h => by simp [cmpD] at h
 | .tup _, .non, b, h => by simp [cmpD] at h
 | .tup _, .bl _, b, h => by simp [cmpD] at h
 | .tup _, .int _, b, h => by simp [cmpD] at h
 | .tup _, .str _, b, h => by simp [cmpD] at h
 | .tup _, .lst _, b, h => by simp [cmpD] at h
 | .tup _, .dk _ _, b, h => by simp [cmpD] at h
 | .tup _, .dt _ _, b, h => by simp [cmpD] at h
 | .tup _, .dn _ _, b, h => by simp [cmpD] at h
 | .tup _, .scr _, b, h => by simp [cmpD] at h
 | .tup _, .exc _, b, h => by simp [cmpD] at h
theorem z165 : ∀ {ds es : List D} {b : Bool}, cmpDs ds es = some b → b = ltTs ds es
 | [], [], b, h => by simp only [cmpDs, Option.some.injEq] at h; simp only [ltTs]; exact h.symm
 | [], _ :: _, b, h => by simp only [cmpDs, Option.some.injEq] at h; simp only [ltTs]; exact h.symm
 | _ :: _, [], b, h => by simp only [cmpDs, Option.some.injEq] at h; simp only [ltTs]; exact h.symm
 | d :: ds, e :: es, b, h => by
   simp only [cmpDs] at h
   simp only [ltTs]
   split at h
   . rename_i q; rw [if_pos q]; exact z165 h
   . rename_i q; rw [if_neg q]; exact cmp_lt h
end
mutual
theorem oi_eq : ∀ {d e : D}, d.oi = true → eqD d e = true → e.oi = true → d = e
 | .int i, .int j, _, h, _ => by simp only [eqD, beq_iff_eq] at h; rw [h]
 | .tup ds, .tup es, p, h, q => by
   simp only [eqD] at h
   simp only [D.oi] at p q
   rw [ois_eq p h q]
 | .int i, .tup _, _, h, _ => by simp [eqD] at h
 | .tup _, .int _, _, h, _ => by simp [eqD] at h
 | .int _, .non, _, _, q => by simp [D.oi] at q
 | .int _, .bl _, _, _, q => by simp [D.oi] at q
 | .int _, .str _, _, _, q => by simp [D.oi] at q
 | .int _, .lst _, _, _, q => by simp [D.oi] at q
 | .int _, .dk _ _, _, _, q => by simp [D.oi] at q
 | .int _, .dt _ _, _, _, q => by simp [D.oi] at q
 | .int _, .dn _ _, _, _, q => by simp [D.oi] at q
 | .int _, .scr _, _, _, q => by simp [D.oi] at q
 | .int _, .exc _, _, _, q => by simp [D.oi] at q
 | .tup _, .non, _, _, q => by simp [D.oi] at q
 | .tup _, .bl _, _, _, q => by simp [D.oi] at q
 | .tup _, .str _, _, _, q => by simp [D.oi] at q
 | .tup _, .lst _, _, _, q => by simp [D.oi] at q
 | .tup _, .dk _ _, _, _, q => by simp [D.oi] at q
 | .tup _, .dt _ _, _, _, q => by simp [D.oi] at q
 | .tup _, .dn _ _, _, _, q => by simp [D.oi] at q
 | .tup _, .scr _, _, _, q => by simp [D.oi] at q
 | .tup _, .exc _, _, _, q => by simp [D.oi] at q
 | .non, _, p, _, _ => by simp [D.oi] at p
 | .bl _, _, p, _, _ => by simp [D.oi] at p
 | .str _, _, p, _, _ => by simp [D.oi] at p
 | .lst _, _, p, _, _ => by simp [D.oi] at p
 | .dk _ _, _, p, _, _ => by simp [D.oi] at p
 | .dt _ _, _, p, _, _ => by simp [D.oi] at p
 | .dn _ _, _, p, _, _ => by simp [D.oi] at p
 | .scr _, _, p, _, _ => by simp [D.oi] at p
 | .exc _, _, p, _, _ => by simp [D.oi] at p
theorem ois_eq : ∀ {ds es : List D}, ois ds = true → eqDs ds es = true → ois es = true → ds = es
 | [], [], _, _, _ => rfl
 | [], _ :: _, _, h, _ => by simp [eqDs] at h
 | _ :: _, [], _, h, _ => by simp [eqDs] at h
 | d :: ds, e :: es, p, h, q => by
   simp only [eqDs, Bool.and_eq_true] at h
   simp only [ois, Bool.and_eq_true] at p q
   rw [oi_eq p.1 h.1 q.1, ois_eq p.2 h.2 q.2]
end
mutual
theorem zdf : ∀ {d : D}, d.oi = true → eqD d d = true
 | .int i, _ => by simp [eqD]
 | .tup ds, p => by simp only [eqD]; exact z113 (by simpa only [D.oi] using p)
 | .non, p => by simp [D.oi] at p
 | .bl _, p => by simp [D.oi] at p
 | .str _, p => by simp [D.oi] at p
 | .lst _, p => by simp [D.oi] at p
 | .dk _ _, p => by simp [D.oi] at p
 | .dt _ _, p => by simp [D.oi] at p
 | .dn _ _, p => by simp [D.oi] at p
 | .scr _, p => by simp [D.oi] at p
 | .exc _, p => by simp [D.oi] at p
theorem z113 : ∀ {ds : List D}, ois ds = true → eqDs ds ds = true
 | [], _ => rfl
 | d :: ds, p => by
   simp only [ois, Bool.and_eq_true] at p
   simp only [eqDs, zdf p.1, z113 p.2, Bool.and_self]
end
mutual
/-- one of three -/
theorem lt_tri : ∀ {d e : D}, d.oi = true → e.oi = true → ltT d e = false → ltT e d = false → d = e
 | .int i, .int j, _, _, h, h' => by
   simp only [ltT, decide_eq_false_iff_not] at h h'
   have : i = j := by omega
   rw [this]
 | .tup ds, .tup es, p, q, h, h' => by
   simp only [ltT] at h h'
   simp only [D.oi] at p q
   rw [z166 p q h h']
 | .int _, .tup _, _, _, h, _ => by simp [ltT] at h
 | .tup _, .int _, _, _, _, h => by simp [ltT] at h
 | .int _, .non, _, q, _, _ => by simp [D.oi] at q
 | .int _, .bl _, _, q, _, _ => by simp [D.oi] at q
 | .int _, .str _, _, q, _, _ => by simp [D.oi] at q
 | .int _, .lst _, _, q, _, _ => by simp [D.oi] at q
 | .int _, .dk _ _, _, q, _, _ => by simp [D.oi] at q
 | .int _, .dt _ _, _, q, _, _ => by simp [D.oi] at q
 | .int _, .dn _ _, _, q, _, _ => by simp [D.oi] at q
 | .int _, .scr _, _, q, _, _ => by simp [D.oi] at q
 | .int _, .exc _, _, q, _, _ => by simp [D.oi] at q
 | .tup _, .non, _, q, _, _ => by simp [D.oi] at q
 | .tup _, .bl _, _, q, _, _ => by simp [D.oi] at q
 | .tup _, .str _, _, q, _, _ => by simp [D.oi] at q
 | .tup _, .lst _, _, q, _, _ => by simp [D.oi] at q
 | .tup _, .dk _ _, _, q, _, _ => by simp [D.oi] at q
 | .tup _, .dt _ _, _, q, _, _ => by simp [D.oi] at q
 | .tup _, .dn _ _, _, q, _, _ => by simp [D.oi] at q
 | .tup _, .scr _, _, q, _, _ => by simp [D.oi] at q
 | .tup _, .exc _, _, q, _, _ => by simp [D.oi] at q
 | .non, _, p, _, _, _ => by simp [D.oi] at p
 | .bl _, _, p, _, _, _ => by simp [D.oi] at p
 | .str _, _, p, _, _, _ => by simp [D.oi] at p
 | .lst _, _, p, _, _, _ => by simp [D.oi] at p
 | .dk _ _, _, p, _, _, _ => by simp [D.oi] at p
 | .dt _ _, _, p, _, _, _ => by simp [D.oi] at p
 | .dn _ _, _, p, _, _, _ => by simp [D.oi] at p
 | .scr _, _, p, _, _, _ => by simp [D.oi] at p
 | .exc _, _, p, _, _, _ => by simp [D.oi] at p
theorem z166 : ∀ {ds es : List D}, ois ds = true → ois es = true → ltTs ds es = false → ltTs es ds = false → ds = es
 | [], [], _, _, _, _ => rfl
 | [], _ :: _, _, _, h, _ => by simp [ltTs] at h
 | _ :: _, [], _, _, _, h => by simp [ltTs] at h
 | d :: ds, e :: es, p, q, h, h' => by
   simp only [ois, Bool.and_eq_true] at p q
   simp only [ltTs] at h h'
   by_cases w : eqD d e = true
   . have := oi_eq p.1 w q.1
     subst this
     rw [if_pos w] at h
     rw [if_pos w] at h'
     rw [z166 p.2 q.2 h h']
   . have w' : ¬ eqD e d = true := fun z => w (by rw [oi_eq q.1 z p.1]; exact zdf p.1)
     rw [if_neg w] at h
     rw [if_neg w'] at h'
     have := lt_tri p.1 q.1 h h'
     subst this
     exact absurd (zdf p.1) w
end
mutual
theorem lt_irr : ∀ {d : D}, d.oi = true → ltT d d = false
 | .int i, _ => by simp [ltT]
 | .tup ds, p => by simp only [ltT]; exact z167 (by simpa only [D.oi] using p)
 | .non, p => by simp [D.oi] at p
 | .bl _, p => by simp [D.oi] at p
 | .str _, p => by simp [D.oi] at p
 | .lst _, p => by simp [D.oi] at p
 | .dk _ _, p => by simp [D.oi] at p
 | .dt _ _, p => by simp [D.oi] at p
 | .dn _ _, p => by simp [D.oi] at p
 | .scr _, p => by simp [D.oi] at p
 | .exc _, p => by simp [D.oi] at p
theorem z167 : ∀ {ds : List D}, ois ds = true → ltTs ds ds = false
 | [], _ => rfl
 | d :: ds, p => by
   simp only [ois, Bool.and_eq_true] at p
   simp only [ltTs]
   rw [if_pos (zdf p.1)]
   exact z167 p.2
end
mutual
theorem lt_tr : ∀ {d e f : D}, d.oi = true → e.oi = true → f.oi = true → ltT d e = true → ltT e f = true → ltT d f = true
 | .int i, .int j, .int k, _, _, _, h, h' => by
   simp only [ltT, decide_eq_true_eq] at h h' ⊢
   omega
 | .int i, .int j, .tup _, _, _, _, h, h' => by simp only [ltT]
 | .int i, .tup _, .tup _, _, _, _, h, h' => by simp only [ltT]
 | .tup ds, .tup es, .tup fs, p, q, r, h, h' => by
   simp only [ltT] at h h' ⊢
   simp only [D.oi] at p q r
   exact lts_tr p q r h h'
 | .int i, .tup _, .int _, _, _, _, h, h' => by simp [ltT] at h'
 | .tup _, .int _, _, _, _, _, h, h' => by simp [ltT] at h
 | .tup _, .tup _, .int _, _, _, _, h, h' => by simp [ltT] at h'
 | .non, _, _, p, _, _, _, _ => by simp [D.oi] at p
 | .bl _, _, _, p, _, _, _, _ => by simp [D.oi] at p
 | .str _, _, _, p, _, _, _, _ => by simp [D.oi] at p
 | .lst _, _, _, p, _, _, _, _ => by simp [D.oi] at p
 | .dk _ _, _, _, p, _, _, _, _ => by simp [D.oi] at p
 | .dt _ _, _, _, p, _, _, _, _ => by simp [D.oi] at p
 | .dn _ _, _, _, p, _, _, _, _ => by simp [D.oi] at p
 | .scr _, _, _, p, _, _, _, _ => by simp [D.oi] at p
 | .exc _, _, _, p, _, _, _, _ => by simp [D.oi] at p
 | _, .non, _, _, p, _, _, _ => by simp [D.oi] at p
 | _, .bl _, _, _, p, _, _, _ => by simp [D.oi] at p
 | _, .str _, _, _, p, _, _, _ => by simp [D.oi] at p
 | _, .lst _, _, _, p, _, _, _ => by simp [D.oi] at p
 | _, .dk _ _, _, _, p, _, _, _ => by simp [D.oi] at p
 | _, .dt _ _, _, _, p, _, _, _ => by simp [D.oi] at p
 | _, .dn _ _, _, _, p, _, _, _ => by simp [D.oi] at p
 | _, .scr _, _, _, p, _, _, _ => by simp [D.oi] at p
 | _, .exc _, _, _, p, _, _, _ => by simp [D.oi] at p
 | _, _, .non, _, _, p, _, _ => by simp [D.oi] at p
 | _, _, .bl _, _, _, p, _, _ => by simp [D.oi] at p
 | _, _, .str _, _, _, p, _, _ => by simp [D.oi] at p
 | _, _, .lst _, _, _, p, _, _ => by simp [D.oi] at p
 | _, _, .dk _ _, _, _, p, _, _ => by simp [D.oi] at p
 | _, _, .dt _ _, _, _, p, _, _ => by simp [D.oi] at p
 | _, _, .dn _ _, _, _, p, _, _ => by simp [D.oi] at p
 | _, _, .scr _, _, _, p, _, _ => by simp [D.oi] at p
 | _, _, .exc _, _, _, p, _, _ => by simp [D.oi] at p
theorem lts_tr : ∀ {ds es fs : List D}, ois ds = true → ois es = true → ois fs = true → ltTs ds es = true → ltTs es fs = true → ltTs ds fs = true
 | [], _, _ :: _, _, _, _, _, _ => by simp only [ltTs]
 | _, [], [], _, _, _, _, h => by simp [ltTs] at h
 | _ :: _, [], _, _, _, _, h, _ => by simp [ltTs] at h
 | _, _ :: _, [], _, _, _, _, h => by simp [ltTs] at h
 | d :: ds, e :: es, f :: fs, p, q, r, h, h' => by
   simp only [ois, Bool.and_eq_true] at p q r
   simp only [ltTs] at h h' ⊢
   by_cases w : eqD d e = true
   . have := oi_eq p.1 w q.1
     subst this
     rw [if_pos w] at h
     by_cases w2 : eqD d f = true
     . rw [if_pos w2] at h' ⊢; exact lts_tr p.2 q.2 r.2 h h'
     . rw [if_neg w2] at h' ⊢; exact h'
   . rw [if_neg w] at h
     by_cases w2 : eqD e f = true
     . have := oi_eq q.1 w2 r.1
       subst this
       rw [if_neg w]; exact h
     . rw [if_neg w2] at h'
       have h3 := lt_tr p.1 q.1 r.1 h h'
       by_cases w3 : eqD d f = true
       . have := oi_eq p.1 w3 r.1
         subst this
         rw [lt_irr p.1] at h3; cases h3
       . rw [if_neg w3]; exact h3
end
theorem z43 : ∀ {ds : List D} {i : Nat}, ois ds = true → (ds.getD i (.int 0)).oi = true
 | [], i, _ => by simp [D.oi]
 | d :: ds, 0, h => by simp only [ois, Bool.and_eq_true] at h; simpa using h.1
 | d :: ds, i + 1, h => by
   simp only [ois, Bool.and_eq_true] at h
   simpa using z43 (i := i) h.2
def ltI (ds : List D) (i j : Nat) : Bool := ltT (ds.getD i (.int 0)) (ds.getD j (.int 0))
theorem z114 {ds : List D} (h : ois ds = true) : Ord (ltI ds) := by
 refine ⟨fun a => lt_irr (z43 h), fun {a b c} h1 h2 => ?_, fun {a b} h1 => ?_⟩
 . unfold ltI at h1 h2 ⊢
   cases hx : ltT (ds.getD c (.int 0)) (ds.getD a (.int 0)) with
   | false => rfl
   | true =>
     -- c before a; a not behind b, so a before b or alike
     cases hy : ltT (ds.getD a (.int 0)) (ds.getD b (.int 0)) with
     | true => rw [lt_tr (z43 h) (z43 h) (z43 h) hx hy] at h2; cases h2
     | false =>
       rw [lt_tri (z43 h) (z43 h) hy h1] at hx
       rw [hx] at h2; cases h2
 . unfold ltI at h1 ⊢
   cases hx : ltT (ds.getD b (.int 0)) (ds.getD a (.int 0)) with
   | false => rfl
   | true =>
     have := lt_tr (z43 h) (z43 h) (z43 h) h1 hx
     rw [lt_irr (z43 h)] at this; cases this
def insT (d : D) : List D → List D
 | [] => [d]
 | e :: r => if ltT e d = true then e :: insT d r else d :: e :: r
def sortT : List D → List D
 | [] => []
 | d :: r => insT d (sortT r)
theorem z92 (d : D) : ∀ l : List D, (insT d l).Perm (d :: l)
 | [] => .refl _
 | e :: r => by
   unfold insT
   split
   . exact ((z92 d r).cons e).trans (.swap d e r)
   . exact .refl _
theorem z16 : ∀ l : List D, (sortT l).Perm l
 | [] => .refl _
 | d :: r => (z92 d (sortT r)).trans ((z16 r).cons d)
theorem ois_mem : ∀ {ds : List D}, ois ds = true ↔ ∀ d ∈ ds, d.oi = true
 | [] => by simp [ois]
 | d :: ds => by simp [ois, ois_mem (ds := ds)]
def Srt (l : List D) : Prop := l.Pairwise fun a b => ltT b a = false
theorem z115 {d : D} : ∀ {l : List D}, d.oi = true → ois l = true → Srt l → Srt (insT d l)
 | [], _, _, _ => by simp [insT, Srt]
 | e :: r, hd, hl, hs => by
   simp only [ois, Bool.and_eq_true] at hl
   obtain ⟨h1, h2⟩ := List.pairwise_cons.mp hs
   unfold insT
   split
   . rename_i hlt
     refine List.pairwise_cons.mpr ⟨fun x hx => ?_, z115 hd hl.2 h2⟩
     rcases List.mem_cons.mp ((z92 d r).mem_iff.mp hx) with rfl | hx
     . cases hq : ltT x e with
       | false => rfl
       | true =>
         have := lt_tr hl.1 hd hl.1 hlt hq
         rw [lt_irr hl.1] at this; cases this
     . exact h1 x hx
   . rename_i hlt
     have hlt : ltT e d = false := by simpa using hlt
     refine List.pairwise_cons.mpr ⟨fun x hx => ?_, hs⟩
     rcases List.mem_cons.mp hx with rfl | hx
     . exact hlt
     . have hxo := (ois_mem.mp hl.2) x hx
       cases hq : ltT x d with
       | false => rfl
       | true =>
         -- x before d, d not behind e, e not behind x
         have h3 := h1 x hx
         cases hy : ltT d e with
         | true => rw [lt_tr hxo hd hl.1 hq hy] at h3; cases h3
         | false =>
           rw [lt_tri hd hl.1 hy hlt] at hq
           rw [hq] at h3; cases h3
theorem z6e {l l' : List D} (p : l.Perm l') (h : ois l' = true) : ois l = true := ois_mem.mpr fun d hd => (ois_mem.mp h) d (p.mem_iff.mp hd)
theorem z35 : ∀ {l : List D}, ois l = true → Srt (sortT l)
 | [], _ => .nil
 | d :: r, h => by
   simp only [ois, Bool.and_eq_true] at h
   exact z115 h.1 (z6e (z16 r) h.2) (z35 h.2)
theorem z4a : ∀ {l l' : List D}, ois l = true → l.Perm l' → Srt l → Srt l' → l = l'
 | [], l', _, p, _, _ => by rw [p.nil_eq]
 | a :: r, [], _, p, _, _ => by have := p.length_eq; simp at this
 | a :: r, b :: r', h, p, s, s' => by
   have h' := h
   simp only [ois, Bool.and_eq_true] at h
   obtain ⟨h1, h2⟩ := List.pairwise_cons.mp s
   obtain ⟨h3, h4⟩ := List.pairwise_cons.mp s'
   have hb : b ∈ a :: r := p.mem_iff.mpr List.mem_cons_self
   have ha : a ∈ b :: r' := p.mem_iff.mp List.mem_cons_self
   have hbo := (ois_mem.mp h') b hb
   have e : a = b := by
     rcases List.mem_cons.mp hb with z | z
     . exact z.symm
     . rcases List.mem_cons.mp ha with w | w
       . exact w
       . exact lt_tri h.1 hbo (h3 a w) (h1 b z)
   subst e
   rw [z4a h.2 (List.perm_cons a |>.mp p) h2 h4]
theorem zab {ds : List D} (h : ois ds = true) (h1 : 1 ≤ ds.length) : (runT (ltI ds) (kas_sort ds.length)).toList.map (fun i => ds.getD i (.int 0)) = sortT ds := by
 obtain ⟨p, s⟩ := z112 (z114 h) h1
 generalize runT (ltI ds) (kas_sort ds.length) = a at *
 have hsz : a.size = ds.length := by rw [p.size_eq]; simp
 have pl : a.toList.Perm (List.range ds.length) := by
   have := p.toList
   simpa using this
 have pm : (a.toList.map fun i => ds.getD i (.int 0)).Perm ds := by
   refine (pl.map _).trans ?_
   rw [show (List.range ds.length).map (fun i => ds.getD i (.int 0)) = ds from ?_]
   apply List.ext_getElem?
   intro i
   rw [List.getElem?_map]
   by_cases hi : i < ds.length
   . rw [List.getElem?_range hi]
     simp [hi]
   . rw [List.getElem?_eq_none (by simpa using hi), List.getElem?_eq_none (by simpa using hi)]; rfl
 refine z4a (z6e pm h) (pm.trans (z16 ds).symm) ?_ (z35 h)
 refine List.pairwise_iff_getElem.mpr fun i j hi hj hij => ?_
 simp only [List.length_map, Array.length_toList] at hi hj
 have := s i j (Nat.le_of_lt hij) (by omega)
 unfold ltI g at this
 rw [Array.getD_eq_getD_getElem?, Array.getD_eq_getD_getElem?, Array.getElem?_eq_getElem hi, Array.getElem?_eq_getElem hj] at this
 simpa using this
end L2
namespace L2
open PySem PySem.Spec PyProof.Rows
open PySem.W (KasT kas_sort kas_rev kas_asc kas_desc kas_tail3 kas_descPart kas_count kas_place kas_bin)
def InP {α : Type} (n : Nat) (P : α → Prop) : KasT α → Prop
 | .ret a => P a
 | .ask i j k => i < n ∧ j < n ∧ ∀ b, InP n P (k b)
theorem InP.bind {α β : Type} {n : Nat} {P : α → Prop} {P' : β → Prop} {f : α → KasT β} : ∀ {t : KasT α}, InP n P t → (∀ a, P a → InP n P' (f a)) → InP n P' (t.bind f)
 | .ret a, h, hf => hf a h
 | .ask i j k, h, hf => ⟨h.1, h.2.1, fun b => InP.bind (h.2.2 b) hf⟩
def Al (n : Nat) (p : Array Nat) : Prop := ∀ i, p.getD i 0 < n
theorem Al.perm {n : Nat} {p q : Array Nat} (h0 : 0 < n) (h : q.Perm p) (a : Al n p) : Al n q := fun i => by
 by_cases hi : i < q.size
 . have hm : q[i] ∈ p.toList := h.toList.mem_iff.mp (by simp)
   obtain ⟨j, hj, e⟩ := List.mem_iff_getElem.mp hm
   have := a j
   rw [Array.getD_eq_getD_getElem?, Array.getElem?_eq_getElem (by simpa using hj)] at this
   rw [Array.getD_eq_getD_getElem?, Array.getElem?_eq_getElem hi]
   simp only [Option.getD_some] at this ⊢
   rw [← e]
   simpa using this
 . rw [Array.getD_eq_getD_getElem?, Array.getElem?_eq_none (by omega)]; exact h0
section
variable {n : Nat} {p : Array Nat}
theorem in_asc (a : Al n p) : ∀ f k, InP n (fun _ => True) (kas_asc p f k)
 | 0, k => trivial
 | f + 1, k => ⟨a _, a _, fun b => by cases b <;> first | exact trivial | exact in_asc a f (k + 1)⟩
theorem ze0 (h0 : 0 < n) : ∀ (f : Nat) (p : Array Nat) (k q : Nat), Al n p → InP n (fun r => Al n r.1) (kas_desc f p k q)
 | 0, p, k, q, a => a
 | f + 1, p, k, q, a => by
   refine ⟨a _, a _, fun b => ?_⟩
   cases b with
   | true =>
     dsimp only
     rw [if_pos rfl]
     split
     . exact ze0 h0 f _ _ _ (a.perm h0 rev_perm)
     . exact ze0 h0 f _ _ _ a
   | false =>
     dsimp only
     rw [if_neg Bool.false_ne_true]
     refine ⟨a _, a _, fun c => ?_⟩
     cases c with
     | true => exact a
     | false => exact ze0 h0 f _ _ _ a
theorem z116 (h0 : 0 < n) (a : Al n p) (k m : Nat) : InP n (fun r => Al n r.2) (kas_tail3 k m p) :=
 InP.bind (in_asc (a.perm h0 rev_perm) _ _) fun _ _ => a.perm h0 rev_perm
theorem z81 (h0 : 0 < n) (a : Al n p) (k m : Nat) : InP n (fun r => Al n r.2) (kas_descPart k m p) :=
 InP.bind (ze0 h0 _ _ _ _ a) fun r hr => by
   split
   . exact z116 h0 (hr.perm h0 rev_perm) _ _
   . exact z116 h0 hr _ _
theorem z192 (h0 : 0 < n) (a : Al n p) (m : Nat) : InP n (fun r => Al n r.2) (kas_count m p) :=
 InP.bind (in_asc a _ _) fun k _ => by
   split
   . exact a
   . split
     . refine ⟨a _, a _, fun b => ?_⟩
       cases b with
       | true => exact a
       | false => exact z81 h0 (a.perm h0 rev_perm) _ _
     . exact z81 h0 a _ _
theorem zc2 (a : Al n p) (k : Nat) : ∀ f l r, InP n (fun _ => True) (kas_place p k f l r)
 | 0, l, r => trivial
 | f + 1, l, r => by
   unfold kas_place
   split
   . exact trivial
   . refine ⟨a _, a _, fun b => ?_⟩
     cases b with
     | true => exact zc2 a k f _ _
     | false => exact zc2 a k f _ _
theorem in_bin (h0 : 0 < n) : ∀ (f : Nat) (p : Array Nat) (k : Nat), Al n p → InP n (Al n) (kas_bin f p k)
 | 0, p, k, a => a
 | f + 1, p, k, a => InP.bind (zc2 a k _ _ _) fun l _ => in_bin h0 f _ _ (a.perm h0 (bubble_perm _ _ _))
theorem z168 (h0 : 0 < n) : InP n (Al n) (kas_sort n) := by
 have a : Al n (List.toArray (List.range n)) := fun i => by
   rw [Array.getD_eq_getD_getElem?]
   by_cases hi : i < n
   . simp [hi]
   . rw [Array.getElem?_eq_none (by simpa using hi)]; exact h0
 exact InP.bind (z192 h0 a _) fun r hr => by
   split
   . exact in_bin h0 _ _ _ hr
   . exact hr
end
theorem kas_go {α : Type} {n : Nat} {P : α → Prop} {lt : Nat → Nat → Bool} {cmp : Nat → Nat → (Bool → Shared → Prop) → Shared → Prop} {Q : α → Shared → Prop} {s : Shared} (hc : ∀ i j C, i < n → j < n → C (lt i j) s → cmp i j C s) :
   ∀ {t : KasT α}, InP n P t → Q (runT lt t) s → t.kasWp cmp Q s
 | .ret a, _, q => q
 | .ask i j k, h, q => hc i j _ h.1 h.2.1 (kas_go hc (h.2.2 _) q)
def RcLt (A : Around) (s : Shared) (x y : Value) (b : Bool) : Prop := ∀ (prog : Program) (w : World) (E : Value → Shared → Prop) (Q : Value → Shared → Prop), Q (.bool b) s → wpAny (model prog w) A (richCompare .Lt x y) Q E s
inductive LexR (A : Around) (s : Shared) : List Value → List Value → Bool → Prop
 | nn : LexR A s [] [] false
 | nc {w ws} : LexR A s [] (w :: ws) true
 | cn {v vs} : LexR A s (v :: vs) [] false
 | eq {v w vs ws b} (h : SeqAt.EqAt A s v w true) (r : LexR A s vs ws b) : LexR A s (v :: vs) (w :: ws) b
 | lt {v w vs ws b} (h : SeqAt.EqAt A s v w false) (r : RcLt A s v w b) : LexR A s (v :: vs) (w :: ws) b
section
open PySem.SeqAt
open PySem.AutoSeq1 (wpAny_loadPart')
open PySem.MeetsSeq PySem.MeetsSeq2 PySem.MeetsSeq3
theorem z117 (l b : Addr) (items items2 : Array Value) (n n2 : Nat) (dd dd2 : Option Addr) (sl sl2 : Array (Option Value)) (r : Bool) :
   Meets (Builtin.«tuple.__lt__» ⟨[.ref l, .ref b], []⟩)
     (fun A R s => s.heap.get? l = some { cls := .type "tuple", dict := dd, data := .seq items n, slots := sl } ∧ s.heap.get? b = some { cls := .type "tuple", dict := dd2, data := .seq items2 n2, slots := sl2 } ∧
       LexR A.in1 s items.toList items2.toList r ∧ R (.ok (.ret (.bool r))) s) :=
 .of_wp fun prog w A R s h => by
   obtain ⟨hp, g, d, tk, os⟩ := s; obtain ⟨hl, hb, hL, h⟩ := h
   have f2 := AutoSeq1.sub_tuple_tuple
   wp_walk using wpAny_loadPart' hl, wpAny_loadPart' hb, wpAny_forIn_list _ (fun rest b s' => b.1 = none ∧ s' = ⟨hp, g, d, tk, os⟩ ∧ ∃ (vs ws : List Value) (r' : Bool), rest = vs.zip ws ∧
     LexR A.in1 ⟨hp, g, d, tk, os⟩ vs ws r' ∧ vs.length + items2.size = ws.length + items.size ∧ R (.ok (.ret (.bool r'))) ⟨hp, g, d, tk, os⟩) _
   case turn =>
     rintro ⟨y, x⟩ rest b s' ⟨hb', rfl, vs, ws, r', hz, hL', hlen, hR⟩
     cases hL' with
     | nn => rw [List.zip_nil_left] at hz; cases hz
     | nc => rw [List.zip_nil_left] at hz; cases hz
     | cn => rw [List.zip_nil_right] at hz; cases hz
     | eq he hr =>
       rw [List.zip_cons_cons] at hz
       injection hz with hyx hrest
       injection hyx with hy hx
       subst hy hx
       simp only [List.length_cons] at hlen
       refine wpAny_bind (he prog w _ _ ?_)
       wp_walk
       exact ⟨rfl, rfl, _, _, _, hrest, hr, by omega, hR⟩
     | lt he hr =>
       rw [List.zip_cons_cons] at hz
       injection hz with hyx hrest
       injection hyx with hy hx
       subst hy hx
       refine wpAny_bind (he prog w _ _ ?_)
       have hri := hr prog w
       wp_walk using hri
       exact ⟨_, rfl, by simpa using hR⟩
   case fin =>
     rintro ⟨b1, b2⟩ s' ⟨hb', rfl, vs, ws, r', hz, hL', hlen, hR⟩
     simp only at hb'
     subst hb'
     have hv : r' = decide (items.size < items2.size) := by
       cases hL' with
       | nn => simp only [List.length_nil] at hlen; exact (decide_eq_false (by omega)).symm
       | nc => simp only [List.length_nil, List.length_cons] at hlen; exact (decide_eq_true (by omega)).symm
       | cn => simp only [List.length_nil, List.length_cons] at hlen; exact (decide_eq_false (by omega)).symm
       | eq _ _ => rw [List.zip_cons_cons] at hz; cases hz
       | lt _ _ => rw [List.zip_cons_cons] at hz; cases hz
     rw [hv] at hR
     wp_walk
     exact ⟨_, rfl, by simpa [Builtin.Tuple.tupleCompareSizes] using hR⟩
   case h => exact ⟨rfl, rfl, items.toList, items2.toList, r, rfl, hL, by simp; omega, h⟩
theorem RcLt.tuples {A : Around} {s : Shared} {l b : Addr} {items items2 : Array Value} {r : Bool} (hl : s.heap.IsTuple l items) (hb : s.heap.IsTuple b items2) (hL : LexR A.in1 s items.toList items2.toList r) (hu : A.units < cLine) : RcLt A s (.ref l) (.ref b) r := fun prog w E Q h => by
 obtain ⟨⟨cls, dd, data, sl⟩, ho, hc, n, hd⟩ := id hl
 obtain ⟨⟨cls2, dd2, data2, sl2⟩, ho2, hc2, n2, hd2⟩ := id hb
 simp only at hc hd hc2 hd2
 subst hc hd hc2 hd2
 exact richCompare_meets_room (op := .Lt) ⟨_, ho, rfl⟩ ⟨_, ho2, rfl⟩ PySem.F.slot_tuple_lt PySem.F.entry_tuple_lt (PySem.F.args_tuple_lt_2 _ _) (z117 l b items items2 n n2 dd dd2 sl sl2 r)
   ⟨ho, ho2, hL, show Value.bool r ≠ Value.notImplemented ∧ Q (.bool r) s from ⟨(fun x => nomatch x), h⟩⟩ hu
end
mutual
theorem oi_pl : ∀ {d : D}, d.oi = true → d.pl = true
 | .int _, _ => rfl
 | .tup ds, h => by simp only [D.pl]; exact ois_pl (by simpa only [D.oi] using h)
 | .non, p => by simp [D.oi] at p
 | .bl _, p => by simp [D.oi] at p
 | .str _, p => by simp [D.oi] at p
 | .lst _, p => by simp [D.oi] at p
 | .dk _ _, p => by simp [D.oi] at p
 | .dt _ _, p => by simp [D.oi] at p
 | .dn _ _, p => by simp [D.oi] at p
 | .scr _, p => by simp [D.oi] at p
 | .exc _, p => by simp [D.oi] at p
theorem ois_pl : ∀ {ds : List D}, ois ds = true → pls ds = true
 | [], _ => rfl
 | d :: ds, h => by
   simp only [ois, Bool.and_eq_true] at h
   simp only [pls, oi_pl h.1, ois_pl h.2, Bool.and_self]
end
section
variable {X : Cx} {pins : List (Addr × Obj)} {σ : St} {H : Hp} {s : Shared}
theorem lexR_D (I : Inv X pins σ H s) {A : Around} {n : Nat} (hu : A.units + n < cLine) (lt : ∀ {d e : D} {x y : V} {u v : Value} {b : Bool}, d.oi = true → e.oi = true → d.dep ≤ n → RD X.K H d x → RD X.K H e y → RelV x u → RelV y v → cmpD d e = some b → RcLt A s u v b) :
   ∀ {ds es : List D} {xs ys : List V} {us vs : List Value} {b : Bool}, ois ds = true → ois es = true → deps ds ≤ n → RDs X.K H ds xs → RDs X.K H es ys → Vals xs us → Vals ys vs → cmpDs ds es = some b → LexR A s us vs b
 | [], [], _, _, _, _, b, _, _, _, r1, r2, q1, q2, h => by
   simp only [RDs] at r1 r2; subst r1; subst r2
   cases q1; cases q2
   simp only [cmpDs, Option.some.injEq] at h; subst h
   exact .nn
 | [], e :: es, _, _, _, _, b, _, _, _, r1, r2, q1, q2, h => by
   simp only [RDs] at r1 r2; subst r1
   obtain ⟨y, ys, rfl, _, _⟩ := r2
   cases q1; cases q2
   simp only [cmpDs, Option.some.injEq] at h; subst h
   exact .nc
 | d :: ds, [], _, _, _, _, b, _, _, _, r1, r2, q1, q2, h => by
   simp only [RDs] at r1 r2; subst r2
   obtain ⟨y, ys, rfl, _, _⟩ := r1
   cases q1; cases q2
   simp only [cmpDs, Option.some.injEq] at h; subst h
   exact .cn
 | d :: ds, e :: es, _, _, _, _, b, p1, p2, hd, r1, r2, q1, q2, h => by
   simp only [RDs] at r1 r2
   obtain ⟨x, xs, rfl, rx, rxs⟩ := r1
   obtain ⟨y, ys, rfl, ry, rys⟩ := r2
   simp only [ois, Bool.and_eq_true] at p1 p2
   simp only [deps] at hd
   cases q1 with
   | cons a1 a2 =>
     cases q2 with
     | cons b1 b2 =>
       have eq := eqAt_D (A := A) I n (oi_pl p1.1) (oi_pl p2.1) (by omega) hu rx ry a1 b1
       simp only [cmpDs] at h
       split at h
       . rename_i w
         rw [w] at eq
         exact .eq eq (lexR_D I hu lt p1.2 p2.2 (by omega) rxs rys a2 b2 h)
       . rename_i w
         rw [show eqD d e = false by simpa using w] at eq
         exact .lt eq (lt p1.1 p2.1 (by omega) rx ry a1 b1 h)
theorem ze1 {d e : D} {b : Bool} (h : cmpD d e = some b) : (∃ i j, d = .int i ∧ e = .int j ∧ b = decide (i < j)) ∨ ∃ ds es, d = .tup ds ∧ e = .tup es ∧ cmpDs ds es = some b := by
 cases d with
 | int i => cases e with
   | int j => exact .inl ⟨_, _, rfl, rfl, (Option.some.inj h).symm⟩
   | _ => exact nomatch h
 | tup ds => cases e with
   | tup es => exact .inr ⟨_, _, rfl, rfl, h⟩
   | _ => exact nomatch h
 | _ => exact nomatch h
theorem rcLt_D (I : Inv X pins σ H s) : ∀ (n : Nat) {A : Around} {d e : D} {x y : V} {u v : Value} {b : Bool}, A.units + n < cLine → d.oi = true → e.oi = true → d.dep ≤ n → RD X.K H d x → RD X.K H e y → RelV x u → RelV y v → cmpD d e = some b → RcLt A s u v b := by
 intro n
 induction n with
 | zero =>
   intro A d e x y u v b hu p1 p2 hd rx ry ru rv h
   rcases ze1 h with ⟨i, j, rfl, rfl, rfl⟩ | ⟨ds, es, rfl, rfl, h⟩
   . cases rx.int; cases ry.int
     obtain ⟨t, rfl⟩ := ru; obtain ⟨t', rfl⟩ := rv
     exact fun prog w E Q q => HT.rcLt_int A s _ _ _ _ prog w E Q q
   . simp only [D.dep] at hd; omega
 | succ n ih =>
   intro A d e x y u v b hu p1 p2 hd rx ry ru rv h
   rcases ze1 h with ⟨i, j, rfl, rfl, rfl⟩ | ⟨ds, es, rfl, rfl, h⟩
   . cases rx.int; cases ry.int
     obtain ⟨t, rfl⟩ := ru; obtain ⟨t', rfl⟩ := rv
     exact fun prog w E Q q => HT.rcLt_int A s _ _ _ _ prog w E Q q
   . obtain ⟨a, xs, rfl, ha, ra⟩ := rx.tup
     obtain ⟨c, ys, rfl, hc, rc⟩ := ry.tup
     cases ru; cases rv
     obtain ⟨its, r1, t1⟩ := I.tupA ha
     obtain ⟨its2, r2, t2⟩ := I.tupA hc
     simp only [D.dep] at hd
     simp only [D.oi] at p1 p2
     have hu1 : A.in1.units + n < cLine := by show A.units + 1 + n < cLine; omega
     exact RcLt.tuples t1 t2 (lexR_D I hu1 (fun {d e x y u v b} q1 q2 q3 q4 q5 q6 q7 q8 => ih hu1 q1 q2 q3 q4 q5 q6 q7 q8) p1 p2 (by omega) ra rc r1 r2 h) (by omega)
end
end L2
namespace L2
open PySem PySem.Spec PyProof.Rows
section
variable {prog : Program} {w : World} {A : Around} {E : Value → Shared → Prop} {s : Shared}
theorem z118 {a : Addr} {vs : List Value} {n : Nat} {P : PySem.Fin → Shared → Prop} (ho : s.heap.get? a = some (seqObj "list" vs.toArray n)) (hs : vs.length < 2)
   (h : P (.done (.ret .none)) { s with heap := sortedHeap s.heap a vs ((pairsOf vs).map (·.2)) }) : wpAny (model prog w) A (Builtin.«list.sort» ⟨[.ref a], []⟩) P E s := by
 rw [list_sort_plain]
 have ha : a < s.heap.objs.size := Heap.lt_size ho
 refine wpAny_bind (listItems_at ho rfl ?_)
 refine wpAny_bind (listUpdate_at ho rfl ?_)
 obtain ⟨e1, ho1⟩ : ∃ e1, (s.heap.update a (Obj.mapSeq fun _ => #[])).get? a = some (seqObj "list" #[] e1) := ⟨_, get?_update_seq ho (fun _ => #[])⟩
 refine wpAny_bind (seqEpoch_at ho1 rfl ?_)
 refine wpAny_bind (wpAny_newTuple ?_)
 refine wpAny_bind (wpAny_newList ?_)
 refine wpAny_holding ?_
 have ho6 : (((s.heap.update a (Obj.mapSeq fun _ => #[])).push (seqObj "tuple" vs.toArray 0)).push (seqObj "list" #[] 0)).get? a = some (seqObj "list" #[] e1) := by
   rw [Heap.get?_push_ne _ _ _ (by rw [size_push', Heap.size_update]; exact Nat.ne_of_lt (Nat.lt_succ_of_lt ha)), Heap.get?_push_ne _ _ _ (by rw [Heap.size_update]; exact Nat.ne_of_lt ha)]
   exact ho1
 show wpAny (model prog w) A _ P E { s with heap := ((s.heap.update a (Obj.mapSeq fun _ => #[])).push (seqObj "tuple" vs.toArray 0)).push (seqObj "list" #[] 0) }
 dsimp only
 have hsz : vs.toArray.size = vs.length := by simp
 have h2 : vs.toArray.size < 2 := by rw [hsz]; exact hs
 rw [if_pos h2, if_pos h2]
 refine wpAny_bind (wpAny_pure ?_)
 rw [StateT.run_pure]
 refine wpAny_bind (wpAny_pure ?_)
 dsimp only
 refine wpAny_bind (seqEpoch_at ho6 rfl ?_)
 refine wpAny_bind (listUpdate_at ho6 rfl ?_ (hsz2 := by rw [Array.size_map]; show (pairsOf vs).size ≤ _; rw [pairsOf_size, sizeLine_eq]; omega))
 simp only [bne_self_eq_false, Bool.false_eq_true, if_false]
 exact wpAny_pure h
theorem z6f {l : Addr} {vs : List Value} {Q : Value → Shared → Prop} (hl : s.heap.IsList l vs.toArray) (hs : vs.length < 2)
   (h : Q (.ref (s.heap.objs.size + 1)) { s with heap := sortedAll s.heap vs ((pairsOf vs).map (·.2)) }) : wpAny (model prog w) A (call (.builtin "sorted") [.ref l]) Q E s := by
 refine Calls.call_function_entry kind_sorted plain_sorted entry_sorted (args_sorted1 _) ?_
 unfold Builtin.«sorted»
 refine wpAny_bind (m := checkCount "sorted" 1 1 _) (wpAny_pure ?_)
 refine wpAny_bind (collect_list hl ?_ (by rw [sizeLine_eq]; omega))
 refine wpAny_bind (wpAny_newList ?_ (by rw [sizeLine_eq]; omega))
 have hsz : ((s.heap.push (seqObj "list" #[] 0)).update s.heap.objs.size (Obj.mapSeq (· ++ vs.toArray))).objs.size = s.heap.objs.size + 1 := by
   rw [Heap.size_update, size_push']
 have hoL : (((s.heap.push (seqObj "list" #[] 0)).update s.heap.objs.size (Obj.mapSeq (· ++ vs.toArray))).push (seqObj "list" vs.toArray 0)).get? (s.heap.objs.size + 1) = some (seqObj "list" vs.toArray 0) := by
   rw [← hsz]; exact Heap.get?_push_size _ rfl
 show wpAny _ _ _ _ _ { s with heap := ((s.heap.push (seqObj "list" #[] 0)).update s.heap.objs.size (Obj.mapSeq (· ++ vs.toArray))).push (seqObj "list" vs.toArray 0) }
 rw [hsz]
 refine wpAny_bind (wpAny_holding (wpAny_call_entry slot_list_sort ⟨_, hoL, rfl⟩ entry_list_sort (z118 hoL hs ⟨_, rfl, ?_⟩) (args_list_sort _)))
 exact wpAny_pure ⟨_, rfl, h⟩
end
def isI : D → Bool
 | .int _ => true
 | _ => false
def fstI : D → Bool
 | .tup (.int _ :: _) => true
 | _ => false
def fstT : D → Bool
 | .tup (.tup _ :: _) => true
 | _ => false
def sortOk (ds : List D) : Bool := decide (ds.length < 64) && ois ds && decide (deps ds ≤ 20) && ds.all (fun d => ds.all fun e => (cmpD d e).isSome) && (ds.all isI || ds.all fstI || ds.all fstT)
def z44 : List D → Option D
 | [.lst ds] => if sortOk ds = true then some (.lst (sortT ds)) else none
 | _ => none
def z169 (K : PySem.W.Frag) : List V → Hp → VK → Prop := fun xs H Q => ∃ p ys ds, xs = [.ref p] ∧ H p = some (.lst ys) ∧ RDs K H ds ys ∧ sortOk ds = true ∧ (∀ (l : Addr) (is : List Nat), H l = none → (∀ i ∈ is, i < ys.length) → sortT ds = is.map (fun i => ds.getD i (.int 0)) → Q (.ref l) (upd H l (.lst (is.map fun i => ys.getD i .non)))) ∧ ∀ (l : Addr) (ns : List Int), H l = none → sortT ds = ns.map D.int → Q (.ref l) (upd H l (.lst (ns.map V.int)))
theorem RDs.pick {K : PySem.W.Frag} {H : Hp} {ds : List D} {ys : List V} (r : RDs K H ds ys) : ∀ {is : List Nat}, (∀ i ∈ is, i < ys.length) → RDs K H (is.map fun i => ds.getD i (.int 0)) (is.map fun i => ys.getD i .non)
 | [], _ => by simp [RDs]
 | i :: is, h => by
   have hi := h i List.mem_cons_self
   have hy : ys[i]? = some ys[i] := by simp [hi]
   obtain ⟨d, h1, h2⟩ := r.get hy
   simp only [List.map_cons]
   refine .cons ?_ (RDs.pick r fun j hj => h j (List.mem_cons_of_mem _ hj))
   rw [List.getD_eq_getElem?_getD, List.getD_eq_getElem?_getD, h1, hy]
   exact h2
theorem z93 {K : PySem.W.Frag} : CallD K true z44 (z169 K) := by
 intro H0 H xs ds z Q s r ho k
 unfold z44 at ho
 split at ho <;> first | cases ho | skip
 split at ho <;> cases ho
 rename_i es hok
 obtain ⟨x, rfl, q1⟩ := r.uno
 obtain ⟨p, ys, rfl, hp, ry⟩ := q1.lst
 refine ⟨p, ys, es, rfl, s _ _ hp, ry.mono s, hok, fun l is hl hi he => k _ _ (.new s hl fun H' hH => ?_), fun l ns hl he => k _ _ (.new s hl fun H' hH => ?_)⟩
 . simp only [OB]
   refine ⟨_, hH, ?_⟩
   rw [he]
   exact ry.pick hi
 . simp only [OB]
   refine ⟨_, hH, ?_⟩
   rw [he]
   exact .ofInts _
section
variable {X : Cx} {pins : List (Addr × Obj)} {σ : St} {H : Hp} {s : Shared}
theorem Vals.pick {ys : List V} {its : List Value} (r : Vals ys its) : ∀ {is : List Nat}, (∀ i ∈ is, i < ys.length) → Vals (is.map fun i => ys.getD i .non) (is.map fun i => its.getD i Value.none)
 | [], _ => .nil
 | i :: is, h => by
   have hi := h i List.mem_cons_self
   have hy : ys[i]? = some ys[i] := by simp [hi]
   obtain ⟨u, h1, h2⟩ := r.get hy
   simp only [List.map_cons]
   refine .cons ?_ (Vals.pick r fun j hj => h j (List.mem_cons_of_mem _ hj))
   rw [List.getD_eq_getElem?_getD, List.getD_eq_getElem?_getD, h1, hy]
   exact h2
theorem z16a (I : Inv X pins σ H s) {A : Around} (hu : A.units + 20 < cLine) {b : Bool} {fin : Bool} {Q : Bool → Shared → Prop} {r : Bool} (q : Q r s) :
   ∀ {ds es : List D} {xs ys : List V} {us vs : List Value} (i : Nat), (b = true → i = 0 → (∃ k r, ds = .int k :: r) ∧ ∃ k r, es = .int k :: r) → ois ds = true → ois es = true → deps ds ≤ 20 → RDs X.K H ds xs → RDs X.K H es ys → Vals xs us → Vals ys vs → cmpDs ds es = some r →
     fin = decide (us.length < vs.length) → PySem.W.KatLex X.prog X.w A b fin Q (us.zip vs) i s
 | [], [], _, _, _, _, i, _, _, _, _, r1, r2, q1, q2, h, hf => by
   simp only [RDs] at r1 r2; subst r1; subst r2
   cases q1; cases q2
   simp only [cmpDs, Option.some.injEq] at h; subst h
   simp at hf; subst hf
   exact q
 | [], e :: es, _, _, _, _, i, _, _, _, _, r1, r2, q1, q2, h, hf => by
   simp only [RDs] at r1 r2; subst r1
   obtain ⟨y, ys, rfl, _, _⟩ := r2
   cases q1; cases q2
   simp only [cmpDs, Option.some.injEq] at h; subst h
   simp at hf; subst hf
   exact q
 | d :: ds, [], _, _, _, _, i, _, _, _, _, r1, r2, q1, q2, h, hf => by
   simp only [RDs] at r1 r2; subst r2
   obtain ⟨y, ys, rfl, _, _⟩ := r1
   cases q1; cases q2
   simp only [cmpDs, Option.some.injEq] at h; subst h
   simp at hf; subst hf
   exact q
 | d :: ds, e :: es, _, _, _, _, i, hb, p1, p2, hd, r1, r2, q1, q2, h, hf => by
   simp only [RDs] at r1 r2
   obtain ⟨x, xs, rfl, rx, rxs⟩ := r1
   obtain ⟨y, ys, rfl, ry, rys⟩ := r2
   simp only [ois, Bool.and_eq_true] at p1 p2
   simp only [deps] at hd
   cases q1 with
   | cons a1 a2 =>
     cases q2 with
     | cons b1 b2 =>
       have eq := eqAt_D (A := A) I 20 (oi_pl p1.1) (oi_pl p2.1) (by omega) hu rx ry a1 b1
       rw [List.zip_cons_cons]
       refine PySem.W.kat_cons (eq X.prog X.w _ _ ?_)
       simp only [cmpDs] at h
       simp only [List.length_cons, Nat.add_lt_add_iff_right] at hf
       split at h
       . rename_i w
         rw [w]
         exact PySem.W.kat_yes (z16a I hu q (i + 1) (fun _ z => by omega) p1.2 p2.2 (by omega) rxs rys a2 b2 h hf)
       . rename_i w
         rw [show eqD d e = false by simpa using w]
         refine PySem.W.kat_no ?_
         by_cases hbi : (b && i == 0) = true
         . rw [hbi]
           simp only [Bool.and_eq_true, beq_iff_eq] at hbi
           obtain ⟨⟨k1, s1, e1⟩, k2, s2, e2⟩ := hb hbi.1 hbi.2
           cases e1; cases e2
           cases rx.int; cases ry.int
           obtain ⟨t, rfl⟩ := a1; obtain ⟨t', rfl⟩ := b1
           refine oneLt_int ?_
           simp only [cmpD, Option.some.injEq] at h
           rw [h]; exact q
         . rw [show (b && i == 0) = false by simpa using hbi]
           exact PySem.W.kat_one _ _ (rcLt_D I 20 hu p1.1 p2.1 (by omega) rx ry a1 b1 h X.prog X.w _ _ q)
theorem tups_D {M : Model} (I : Inv X pins σ H s) (T : Bool) : ∀ {ds : List D} {xs : List V} {us : List Value}, (∀ d ∈ ds, (if T = true then fstT d else fstI d) = true) → RDs X.K H ds xs → Vals xs us →
   ∃ fs : List Value, PySem.W.KatTups s.heap us fs ∧ fs.length = ds.length ∧ ∀ v ∈ fs, PySem.W.Looks M s.heap (typeOf v) (.type (if T = true then "tuple" else "int"))
 | [], _, _, _, r, q => by
   simp only [RDs] at r; subst r; cases q
   exact ⟨[], trivial, rfl, fun v hv => by cases hv⟩
 | d :: ds, _, _, h, r, q => by
   simp only [RDs] at r
   obtain ⟨x, xs, rfl, rx, rxs⟩ := r
   cases q with
   | cons q1 q2 =>
     obtain ⟨fs, h1, h2, h3⟩ := tups_D (M := M) I T (fun d hd => h d (List.mem_cons_of_mem _ hd)) rxs q2
     have hd := h d List.mem_cons_self
     cases T with
     | false =>
       rw [if_neg Bool.false_ne_true] at hd
       cases d <;> simp only [fstI] at hd <;> first | cases hd | skip
       rename_i es
       cases es with
       | nil => simp at hd
       | cons e es =>
         cases e <;> simp at hd
         obtain ⟨a, ys, rfl, ha, ra⟩ := rx.tup
         cases q1
         obtain ⟨its, rv, t⟩ := I.tupA ha
         simp only [RDs] at ra
         obtain ⟨y, ys, rfl, ry, rys⟩ := ra
         cases ry.int
         cases rv with
         | cons v1 v2 =>
           obtain ⟨tk, rfl⟩ := v1
           obtain ⟨o, ho, hc, n, hdt⟩ := t
           refine ⟨_ :: fs, PySem.W.KatTups.cons ho hc hdt rfl h1, by simp [h2], fun v hv => ?_⟩
           rcases List.mem_cons.mp hv with rfl | hv
           . exact .now
           . exact h3 v hv
     | true =>
       rw [if_pos rfl] at hd
       cases d <;> simp only [fstT] at hd <;> first | cases hd | skip
       rename_i es
       cases es with
       | nil => simp at hd
       | cons e es =>
         cases e <;> simp at hd
         obtain ⟨a, ys, rfl, ha, ra⟩ := rx.tup
         cases q1
         obtain ⟨its, rv, t⟩ := I.tupA ha
         simp only [RDs] at ra
         obtain ⟨y, ys, rfl, ry, rys⟩ := ra
         obtain ⟨a2, ys2, rfl, ha2, ra2⟩ := ry.tup
         cases rv with
         | cons v1 v2 =>
           cases v1
           obtain ⟨its2, rv2, o2, ho2, hc2, _⟩ := I.tupA ha2
           obtain ⟨o, ho, hc, n, hdt⟩ := t
           refine ⟨_ :: fs, PySem.W.KatTups.cons ho hc hdt rfl h1, by simp [h2], fun v hv => ?_⟩
           rcases List.mem_cons.mp hv with rfl | hv
           . have lk : PySem.W.Looks M s.heap (typeOf (.ref a2)) o2.cls := (PySem.W.Looks.ld ho2).andThen .now
             rw [hc2] at lk
             exact lk
           . exact h3 v hv
theorem Vals.getD {ys : List V} {its : List Value} (r : Vals ys its) {i : Nat} (h : i < ys.length) : RelV (ys.getD i .non) (its.getD i Value.none) := by
 have hy : ys[i]? = some ys[i] := by simp [h]
 obtain ⟨u, h1, h2⟩ := r.get hy
 rw [List.getD_eq_getElem?_getD, List.getD_eq_getElem?_getD, h1, hy]
 exact h2
theorem RDs.getD {ds : List D} {ys : List V} (r : RDs X.K H ds ys) {i : Nat} (h : i < ys.length) : RD X.K H (ds.getD i (.int 0)) (ys.getD i .non) := by
 have hy : ys[i]? = some ys[i] := by simp [h]
 obtain ⟨d, h1, h2⟩ := r.get hy
 rw [List.getD_eq_getElem?_getD, List.getD_eq_getElem?_getD, h1, hy]
 exact h2
theorem zc3 {α : Type} {l : List α} {i : Nat} {d : α} (h : i < l.length) : l.getD i d ∈ l := by
 rw [List.getD_eq_getElem?_getD, List.getElem?_eq_getElem h]
 exact List.getElem_mem h
theorem z94 (hc : X.calm = true) (hu : X.A.units + 64 < cLine) : CallR X (.builtin "sorted") (z169 X.K) := by
 intro pins s σ H xs us Q I r h
 obtain ⟨p, ys, ds, rfl, hp, rd, hok, k, kI⟩ := h
 obtain ⟨u, rfl, ru⟩ := vals1 r
 cases ru
 obtain ⟨its, rv, pl, hz⟩ := I.list (.of hp)
 obtain ⟨m, hn, _⟩ := id I.loc
 have F := Att.fr_all hn
 have N := zb6 (g := Att.noObjs s.heap) (h := s.heap) (L := X.env.locals)
 unfold sortOk at hok
 simp only [Bool.and_eq_true, Bool.or_eq_true, decide_eq_true_eq] at hok
 obtain ⟨⟨⟨⟨h64, hoi⟩, hdep⟩, hcmp⟩, hkind⟩ := hok
 have hl1 := rd.length
 have hl2 := rv.length
 -- the end, by the places
 have fin : ∀ {D : Addr} {h' : Heap} {tk : Nat} {e : Nat} {is : List Nat}, (∀ i ∈ is, i < ys.length) → sortT ds = is.map (fun i => ds.getD i (.int 0)) → Fr (Att.noObjs s.heap) X.env.locals h' m → News (Att.noObjs s.heap) X.env.locals h' ((D, seqObj "list" (is.map fun i => its.getD i Value.none).toArray e) :: allOf s X.env.locals) → s.heap.get? D = none →
     EP X pins σ Q (.ref D) { s with heap := h', toks := tk } := fun {D h' tk e is} hi he F' N' hD => by
   have hlen : (is.map fun i => ys.getD i .non).length ≤ sizeLine := by
     have e1 : is.length = ds.length := by have := congrArg List.length he; rw [List.length_map, (z16 ds).length_eq] at this; exact this.symm
     rw [List.length_map, e1, hl1]; exact hz
   obtain ⟨HD, I'⟩ := I.frnew (tk := tk) (o := .lst (is.map fun i => ys.getD i .non)) hn F' N' hD ⟨hlen, _, e, rv.pick hi, (N' _ (.head _)).1⟩
   exact ⟨.ref D, _, I', rfl, k D is HD hi he⟩
 by_cases hI : ds.all isI = true
 . -- ints
   have asInts : ∀ ds : List D, ds.all isI = true → ∃ ns : List Int, ds = ns.map D.int := by
     intro ds hI
     induction ds with
     | nil => exact ⟨[], rfl⟩
     | cons d ds ih =>
       simp only [List.all_cons, Bool.and_eq_true] at hI
       obtain ⟨ns, e⟩ := ih hI.2
       cases d <;> simp [isI] at hI
       exact ⟨_ :: ns, by rw [e]; rfl⟩
   obtain ⟨ns, hns⟩ := asInts ds hI
   subst hns
   have ey : ys = ns.map V.int := z66 (z41 ns) rd
   subst ey
   refine sorted_N F N pl.isList (z9e rv) (by simp at hl1 hl2 h64; omega) fun h' vs' ns' e F' N' hi' hp' hs' => ?_
   have hsame : sortT (ns.map D.int) = ns'.map D.int := by
     refine z4a (z6e (z16 _) hoi) ((z16 _).trans (hp'.symm.map _)) (z35 hoi) ?_
     refine List.pairwise_map.mpr (hs'.imp fun {a b} hab => ?_)
     simp only [ltT, decide_eq_false_iff_not]; omega
   have hlen : (ns'.map V.int).length ≤ sizeLine := by
     rw [List.length_map, hp'.length_eq]; simpa using hz
   have hD : s.heap.get? (s.heap.objs.size + 1) = none := Heap.get?_none_of_le (Nat.le_succ _)
   obtain ⟨HD, I'⟩ := I.frnew (tk := s.toks) (o := .lst (ns'.map V.int)) hn F' N' hD ⟨hlen, vs', e, z8d hi', (N' _ (.head _)).1⟩
   exact ⟨.ref _, _, I', rfl, kI _ ns' HD hsame⟩
 . by_cases h2 : 2 ≤ its.length
   . obtain ⟨T, hT⟩ : ∃ T : Bool, ∀ d ∈ ds, (if T = true then fstT d else fstI d) = true := by
       rcases hkind with (z | z) | z
       . exact absurd z hI
       . exact ⟨false, fun d hd => by rw [if_neg Bool.false_ne_true]; exact List.all_eq_true.mp z d hd⟩
       . exact ⟨true, fun d hd => by rw [if_pos rfl]; exact List.all_eq_true.mp z d hd⟩
     refine PySem.W.kat_sorted F N pl.isList h2 (by omega) fun D e1 h' F' N' hlt => ?_
     have N'' : News (Att.noObjs s.heap) X.env.locals h' (allOf s X.env.locals) := fun p hp => N' p (.tail _ hp)
     have I' : Inv X pins σ H { s with heap := h' } := I.frn (tk := s.toks) hn F' N''
     have hDL : D ≠ X.env.locals := (N' _ (.head _)).2.1
     have hD : s.heap.get? D = none := by
       cases q : s.heap.get? D with
       | none => rfl
       | some o => exact absurd (hlt (D, o) (z57 hDL (Att.noObjs_get _ _) q)) (Nat.lt_irrefl _)
     obtain ⟨fs, t1, t2, t3⟩ := tups_D (M := model X.prog X.w) I' T hT rd rv
     have huu : X.A.in1.in1.units + 20 < cLine := by show X.A.units + 1 + 1 + 20 < cLine; omega
     refine PySem.W.kat_kind t1 (by omega) t3 (by cases T <;> rfl) ?_
     have h0 : 0 < its.length := by omega
     refine kas_go (n := its.length) (lt := ltI ds) ?_ (z168 h0) ?_
     . intro i j C hi hj hC
       show wpAny (model X.prog X.w) X.A.in1.in1 (keyLt' _ (its.getD i Value.none) (its.getD j Value.none)) C _ _
       have hi' : i < ys.length := by omega
       have hj' : j < ys.length := by omega
       have r1 := rd.getD hi'
       have r2 := rd.getD hj'
       have v1 := rv.getD hi'
       have v2 := rv.getD hj'
       have m1 : ds.getD i (.int 0) ∈ ds := zc3 (by omega)
       have m2 : ds.getD j (.int 0) ∈ ds := zc3 (by omega)
       have o1 := (ois_mem.mp hoi) _ m1
       have o2 := (ois_mem.mp hoi) _ m2
       have d1 := z8f m1
       have f1 := hT _ m1
       have f2 := hT _ m2
       have hc2 : (cmpD (ds.getD i (.int 0)) (ds.getD j (.int 0))).isSome = true := List.all_eq_true.mp (List.all_eq_true.mp hcmp _ m1) _ m2
       obtain ⟨b, hb⟩ := Option.isSome_iff_exists.mp hc2
       have hbl : b = ltI ds i j := cmp_lt hb
       rw [← hbl] at hC
       generalize ds.getD i (.int 0) = da at *
       generalize ds.getD j (.int 0) = db at *
       have tp : ∀ {d : L2.D}, (if T = true then fstT d else fstI d) = true → ∃ es, d = .tup es ∧ (T = false → ∃ k r, es = .int k :: r) := fun {d} h => by
         cases T with
         | false =>
           rw [if_neg Bool.false_ne_true] at h
           cases d <;> simp only [fstI] at h <;> first | cases h | skip
           rename_i es
           cases es with
           | nil => simp at h
           | cons e es => cases e <;> simp at h; exact ⟨_, rfl, fun _ => ⟨_, _, rfl⟩⟩
         | true =>
           rw [if_pos rfl] at h
           cases d <;> simp only [fstT] at h <;> first | cases h | skip
           exact ⟨_, rfl, fun z => nomatch z⟩
       obtain ⟨ea, rfl, ka⟩ := tp f1
       obtain ⟨eb, rfl, kb⟩ := tp f2
       obtain ⟨a, xa, e1, ha, ra⟩ := r1.tup
       obtain ⟨c, xc, e2, hcc, rc⟩ := r2.tup
       rw [e1] at v1; rw [e2] at v2
       rw [show its.getD i Value.none = Value.ref a from v1, show its.getD j Value.none = Value.ref c from v2]
       obtain ⟨ia, va, oa, hoa, _, na, hda⟩ := I'.tupA ha
       obtain ⟨ic, vc, oc, hoc, _, nc, hdc⟩ := I'.tupA hcc
       simp only [L2.D.oi] at o1 o2
       simp only [L2.D.dep] at d1
       simp only [cmpD] at hb
       refine PySem.W.kat_lt hoa hda hoc hdc ?_
       refine z16a I' huu hC 0 (fun hb0 _ => ?_) o1 o2 (by omega) ra rc va vc hb (by simp)
       cases T with
       | false => exact ⟨ka rfl, kb rfl⟩
       | true => exact absurd hb0 (by simp)
     . refine PySem.W.KasFin.intro F' N' (.head fun p hp => Nat.ne_of_lt (hlt p hp)) fun h'' c F3 N3 => ?_
       have hl3 : its.length = ds.length := by omega
       rw [hl3] at N3
       have pm := (z112 (z114 hoi) (n := ds.length) (by omega)).1
       refine fin (is := (runT (ltI ds) (PySem.W.kas_sort ds.length)).toList) (fun i hi => ?_) (zab hoi (by omega)).symm F3 N3 hD
       have := pm.toList.mem_iff.mp hi
       simp at this
       omega
   . -- at most one
     have hs1 : sortT ds = ds := by
       match ds, hl1, hl2 with
       | [], _, _ => rfl
       | [d], _, _ => rfl
       | _ :: _ :: _, a, b => simp at a; omega
     refine z6f pl.isList (by omega) ?_
     obtain ⟨e, he⟩ := sortedAll_at s.heap its ((pairsOf its).map (·.2))
     have kp : ∀ b o, s.heap.get? b = some o → (sortedAll s.heap its ((pairsOf its).map (·.2))).get? b = some o := fun b o q => sortedAll_old q
     have hout : (pairsOf its).map (·.2) = (List.map (fun i => its.getD i Value.none) (List.range its.length)).toArray := by
       have pz : ∀ l : List Value, l.length < 2 → (pairsOf l).map (·.2) = (List.map (fun i => l.getD i Value.none) (List.range l.length)).toArray := fun l hl => by
         match l, hl with
         | [], _ => simp [pairsOf]
         | [v], _ => simp [pairsOf]
         | _ :: _ :: _, z => simp at z; omega
       exact pz its (by omega)
     rw [hout] at he kp ⊢
     have hN := N.kept_cons F kp (Nat.le_succ _) he
     refine fin (is := List.range its.length) (fun i hi => by simp at hi; omega) ?_ (F.kept kp) hN (Heap.get?_none_of_le (Nat.le_succ _))
     rw [hs1]
     apply List.ext_getElem?
     intro i
     rw [List.getElem?_map]
     by_cases hi : i < its.length
     . rw [List.getElem?_range hi]
       simp [show i < ds.length by omega]
     . rw [List.getElem?_eq_none (show (List.range its.length).length ≤ i by simpa using hi), List.getElem?_eq_none (by omega)]; rfl
end
def insK (n : Nat) (x : Int) : Nat := if x < 0 then (x + (n : Int)).toNat else min x.toNat n
def insAt {α : Type} (xs : List α) (x : Int) (y : α) : List α := xs.take (insK xs.length x) ++ y :: xs.drop (insK xs.length x)
def z16b : V → List V → Hp → VK → Prop := fun o vs H Q => ∃ l xs i y, o = .ref l ∧ vs = [.int i, y] ∧ H l = some (.lst xs) ∧ -(2 ^ 63) ≤ i ∧ i < 2 ^ 63 ∧ xs.length < sizeLine ∧ Q .non (upd H l (.lst (insAt xs i y)))
theorem Vals.ins {xs : List V} {its : List Value} {y : V} {u : Value} (r : Vals xs its) (ru : RelV y u) (i : Int) : Vals (insAt xs i y) (insAt its i u) := by
 unfold insAt
 rw [r.length]
 exact (r.take _).append (.cons ru (r.drop _))
theorem zc4 {α : Type} (xs : List α) (i : Int) (y : α) : (insAt xs i y).length = xs.length + 1 := by
 unfold insAt
 rw [List.length_append, List.length_take, List.length_cons, List.length_drop]
 omega
section
variable {X : Cx} {K : PySem.W.Frag}
theorem z13e : MtM X "list.insert" z16b := by
 intro pins s σ H x vs v us Q I rx rv h
 obtain ⟨l, xs, i, y, rfl, rfl, hH, h1, h2, hz, q⟩ := h
 cases rx
 obtain ⟨u, w, rfl, ru, rw'⟩ := rv.two
 obtain ⟨t, rfl⟩ := ru
 obtain ⟨z, its, n, r, hl, e⟩ := I.lstM hH
 refine call_meets PySem.F.slot_list_insert ⟨_, e, rfl⟩ PySem.F.entry_list_insert (PySem.F.args_list_insert_3 _ _ _) (PySem.AutoSeq1.list_insert_list_int_val_1 l its.toArray n i t w (by simp [fitsIndex_both h1 h2]) (by rw [List.size_toArray]; omega)) ⟨e, ?_⟩
 refine ⟨.non, _, I.lset (its' := insAt its i w) hH e ?_ (r.ins rw' i) (by rw [zc4]; omega), rfl, q⟩
 show ((its.toArray.extract 0 (insK its.toArray.size i)).push w ++ its.toArray.extract (insK its.toArray.size i)) = (insAt its i w).toArray
 unfold insAt
 apply Array.toList_inj.mp
 simp
 exact List.take_of_length_le (by simp)
def mIns : D → List D → Option D
 | .lst ds, [.int i, d] => if -(2 ^ 63) ≤ i ∧ i < 2 ^ 63 ∧ ds.length < 100000 then some (.lst (insAt ds i d)) else none
 | _, _ => none
theorem RDs.ins {H : Hp} {ds : List D} {xs : List V} {d : D} {y : V} (r : RDs K H ds xs) (ry : RD K H d y) (i : Int) : RDs K H (insAt ds i d) (insAt xs i y) := by
 unfold insAt
 rw [← r.length]
 exact (r.take _).append (.cons ry (r.drop _))
theorem md_ins : MutD K mIns z16b := by
 intro H0 H a d d' ds vs Q s h0 ob r hm k
 unfold mIns at hm
 split at hm <;> first | cases hm | skip
 split at hm <;> cases hm
 rename_i es i e hl
 simp only [OB] at ob
 obtain ⟨xs, hx, rx⟩ := ob
 obtain ⟨y, z, rfl, q1, q2⟩ := r.duo
 cases q1.int
 refine ⟨a, xs, _, z, rfl, rfl, hx, hl.1, hl.2.1, by rw [← rx.length]; exact z3c hl.2.2, k _ _ ?_⟩
 simp only [OB]
 exact ⟨_, z8, rx.ins q2 _⟩
def mExt : D → List D → Option D
 | .lst ds, [.lst es] => if ds.length + es.length ≤ 100000 then some (.lst (ds ++ es)) else none
 | _, _ => none
theorem md_ext : MutD K mExt z157 := by
 intro H0 H a d d' ds vs Q s h0 ob r hm k
 unfold mExt at hm
 split at hm <;> first | cases hm | skip
 split at hm <;> cases hm
 rename_i es gs hl
 simp only [OB] at ob
 obtain ⟨xs, hx, rx⟩ := ob
 obtain ⟨y, rfl, q1⟩ := r.uno
 obtain ⟨b, ys, rfl, hb, rb⟩ := q1.lst
 refine ⟨a, b, xs, ys, rfl, rfl, hx, s _ _ hb, by rw [← rx.length, ← rb.length]; exact k100 hl, k _ _ ?_⟩
 simp only [OB]
 exact ⟨_, z8, rx.append rb⟩
def maxI (n : Int) (ns : List Int) : Int := ns.foldl (fun a b => if b > a then b else a) n
theorem z119 : ∀ (ns : List Int) (n : Int), maxI n ns ∈ n :: ns ∧ ∀ a ∈ n :: ns, a ≤ maxI n ns
 | [], n => by simp [maxI]
 | b :: ns, n => by
   have ih := z119 ns (if b > n then b else n)
   show maxI (if b > n then b else n) ns ∈ _ ∧ ∀ a ∈ _, a ≤ maxI (if b > n then b else n) ns
   generalize maxI (if b > n then b else n) ns = M at ih
   obtain ⟨h1, h2⟩ := ih
   constructor
   . rcases List.mem_cons.mp h1 with z | z
     . rw [z]; split <;> simp
     . simp [z]
   . intro a ha
     have h3 := h2 _ List.mem_cons_self
     rcases List.mem_cons.mp ha with rfl | ha
     . split at h3 <;> omega
     . rcases List.mem_cons.mp ha with rfl | ha
       . split at h3 <;> omega
       . exact h2 a (List.mem_cons_of_mem _ ha)
end
section
variable {X : Cx} {EX : XW} {fr : Bool} {pins : List (Addr × Obj)} {σ : St} {H1 H2 : Hp} {s1 s2 : Shared} {C a T : Addr} {B h5 : Heap} {a0 : Value}
abbrev HD := Ex → DS → SR
end
theorem SK.ex {K : PySem.W.Frag} {EX EX' : XW} {fr : Bool} {Hc Hb : Hp} {De : Ends} {r : SR} (h : SK K EX fr Hc Hb De r) (he : ∀ x, EX.at x → EX'.at x) : SK K EX' fr Hc Hb De r := by
 cases r with
 | er x => exact he x h
 | nx ρ => exact h
 | bk ρ => exact h
 | ct ρ => exact h
 | rt d => exact h
 | st => exact h
def SR.noE : SR → SR
 | .er _ => .st
 | r => r
theorem SK.noE {K : PySem.W.Frag} {EX : XW} {fr : Bool} {Hc Hb : Hp} {De : Ends} {r : SR} (h : SK K EX fr Hc Hb De r.noE) : SK K F0 fr Hc Hb De r := by
 cases r with
 | nx ρ => exact h
 | bk ρ => exact h
 | ct ρ => exact h
 | rt d => exact h
 | er x => exact h.elim
 | st => exact h.elim
end L2
namespace L2
open PySem PySem.Spec PyProof.Rows
open PySem.Calls
end L2
namespace L2
open PySem PySem.Spec PyProof.Rows
def dIsB : D → D → Option D
 | .bl a, .bl b => some (.bl (a == b))
 | .int _, .bl _ => some (.bl false)
 | _, _ => none
def dNotB : D → D → Option D
 | .bl a, .bl b => some (.bl (!(a == b)))
 | .int _, .bl _ => some (.bl true)
 | _, _ => none
def rNotB : R2 := fun x y H Q => (∃ a b, x = .bl a ∧ y = .bl b ∧ Q (.bl (!(a == b))) H) ∨ ∃ i b, x = .int i ∧ y = .bl b ∧ Q (.bl true) H
section
variable {X : Cx} {K : PySem.W.Frag}
theorem z16c : OpR X (compareOp .IsNot) rNotB := by
 intro pins s σ H x y v u Q I rx ry h
 rcases h with ⟨a, b, rfl, rfl, q⟩ | ⟨i, b, rfl, rfl, q⟩
 . cases rx; cases ry
   exact isnot_bool (fin_bl I q rfl)
 . obtain ⟨t, rfl⟩ := rx; cases ry
   exact wpAny_pure (fin_bl I q rfl)
theorem z16d : OpD K false dNotB rNotB := by
 intro H0 H x y d e z Q s rx ry ho k
 unfold dNotB at ho
 split at ho <;> cases ho
 . cases rx.bl; cases ry.bl
   exact .inl ⟨_, _, rfl, rfl, k _ H (.pure s (.mkBl _))⟩
 . cases rx.int; cases ry.bl
   exact .inr ⟨_, _, rfl, rfl, k _ H (.pure s (.mkBl _))⟩
end
section
variable {prog : Program} {w : World} {A : Around} {R : Result → Shared → Prop} {I : Addr} {fp wr : List Addr} {n : Nat} {P : Nat → Value → Prop} {St : Nat → Heap → Prop}
theorem mx_go (kw : List (Str × Value)) (W : Walks prog w A.in1 I fp wr n P St) (bt : Nat → Nat → Bool) (cm : CmpOf prog w A.in1 .Gt P bt) (S : Addr) (nf : S ∉ fp) :
   ∀ (k j : Nat) (s : Shared) (vb : Value) (c : Nat), n - (j + 1) = k → j + 1 ≤ n → St (j + 1) s.heap → P (argBest bt j) vb → s.heap.get? S = some { cls := .type "list", dict := none, data := .seq #[vb, vb] c, slots := #[] } →
   (∀ v h' tk, P (argBest bt (n - 1)) v → (∀ b o, b ∉ wr → b ≠ S → s.heap.get? b = some o → h'.get? b = some o) → R (.ok (.ret v)) { s with heap := h', toks := tk }) → codeAny (model prog w) A (.builtin "max.loop" ⟨[.ref I, .none, .ref S], kw⟩) R s := by
 have nw : S ∉ wr := fun h => nf (W.sub _ h)
 have nm : (toString "max" ++ toString ".loop" : String) = "max.loop" := by decide
 intro k
 induction k with
 | zero =>
   intro j s vb c ek ej st pb eS fin
   have jn : j + 1 = n := by omega
   refine codeAny_builtin PySem.F.entry_max_loop ?_
   rw [Around.under_plainId PySem.F.plain_max_loop _]
   show wpAny _ A.in1 (seqItems? (.ref S) >>= _) _ _ _
   refine wpAny_bind (wpAny_seqItems eS rfl ?_)
   show wpAny _ A.in1 (tryCatch (pyNext (.ref I)) _ >>= _) _ _ _
   refine wpAny_bind (wpAny_tryCatch (W.done s _ _ (jn ▸ st) fun h' tk kp => ?_))
   have eS' := kp S _ nw eS
   show wpAny _ A.in1 (updateSeq S (fun _ => #[]) >>= _) _ _ _
   refine wpAny_bind ?_
   refine wpAny_updateSeq eS' rfl (wpAny_bind (wpAny_letGo (wpAny_pure ?_)))
   exact fin vb _ tk (by rw [← jn]; exact pb) fun b o hbw hbS e => (Heap.get?_update_other _ _ (Ne.symm hbS)).trans (kp b o hbw e)
 | succ k ih =>
   intro j s vb c ek ej st pb eS fin
   have jl : j + 1 < n := by omega
   refine codeAny_builtin PySem.F.entry_max_loop ?_
   rw [Around.under_plainId PySem.F.plain_max_loop _]
   show wpAny _ A.in1 (seqItems? (.ref S) >>= _) _ _ _
   refine wpAny_bind (wpAny_seqItems eS rfl ?_)
   show wpAny _ A.in1 (tryCatch (pyNext (.ref I)) _ >>= _) _ _ _
   refine wpAny_bind (wpAny_tryCatch (W.item (j + 1) s _ _ jl st fun v h' tk pv st' kp => ?_))
   have eS' := kp S _ nw eS
   show wpAny _ A.in1 (tryCatch (holding [v, v] (richCompare .Gt v vb >>= _)) _ >>= _) _ _ _
   refine wpAny_bind (wpAny_tryCatch (wpAny_holding (wpAny_bind (cm (j + 1) (argBest bt j) v vb _ _ _ pv pb ?_))))
   refine wpAny_bind (wpAny_holding (wpAny_truthy_bool ?_))
   refine wpAny_bind (wpAny_letGo (wpAny_pure ?_))
   cases hb : bt (j + 1) (argBest bt j) with
   | true =>
     rw [if_pos rfl]
     refine wpAny_bind ?_
     refine wpAny_updateSeq eS' rfl (wpAny_bind (wpAny_letGo ?_))
     rw [nm]
     refine wpAny_pure ⟨plainId_quiet PySem.F.plain_max_loop _, ih (j + 1) _ v _ (by omega) jl (W.frame _ _ _ st' fun b hbf o e => ?_) (by simp only [argBest, hb, if_true]; exact pv) (Heap.get?_update_self _ eS' rfl) fun v' h'' tk'' pv' kp' => ?_⟩
     . exact (Heap.get?_update_other _ _ (fun z : S = b => nf (by rw [z]; exact hbf))).trans e
     . exact fin v' h'' tk'' pv' fun b o hbw hbS e => kp' b o hbw hbS ((Heap.get?_update_other _ _ (Ne.symm hbS)).trans (kp b o hbw e))
   | false =>
     rw [if_neg Bool.false_ne_true]
     refine wpAny_bind (wpAny_letGo ?_)
     rw [nm]
     exact wpAny_pure ⟨plainId_quiet PySem.F.plain_max_loop _, ih (j + 1) _ vb c (by omega) jl st' (by simp only [argBest, hb, Bool.false_eq_true, if_false]; exact pb) eS' fun v' h'' tk'' pv' kp' => fin v' h'' tk'' pv' fun b o hbw hbS e => kp' b o hbw hbS (kp b o hbw e)⟩
theorem z193 (kw : List (Str × Value)) (W : Walks prog w A.in1 I fp wr n P St) (bt : Nat → Nat → Bool) (cm : CmpOf prog w A.in1 .Gt P bt) (S : Addr) (nf : S ∉ fp) (n0 : 0 < n) {s : Shared} {c : Nat} (st : St 0 s.heap)
   (eS : s.heap.get? S = some { cls := .type "list", dict := none, data := .seq #[] c, slots := #[] }) (fin : ∀ v h' tk, P (argBest bt (n - 1)) v → (∀ b o, b ∉ wr → b ≠ S → s.heap.get? b = some o → h'.get? b = some o) → R (.ok (.ret v)) { s with heap := h', toks := tk }) :
   codeAny (model prog w) A (.builtin "max.loop" ⟨[.ref I, .none, .ref S], kw⟩) R s := by
 have nw : S ∉ wr := fun h => nf (W.sub _ h)
 have nm : (toString "max" ++ toString ".loop" : String) = "max.loop" := by decide
 refine codeAny_builtin PySem.F.entry_max_loop ?_
 rw [Around.under_plainId PySem.F.plain_max_loop _]
 show wpAny _ A.in1 (seqItems? (.ref S) >>= _) _ _ _
 refine wpAny_bind (wpAny_seqItems eS rfl ?_)
 show wpAny _ A.in1 (tryCatch (pyNext (.ref I)) _ >>= _) _ _ _
 refine wpAny_bind (wpAny_tryCatch (W.item 0 s _ _ n0 st fun v h' tk pv st' kp => ?_))
 have eS' := kp S _ nw eS
 show wpAny _ A.in1 (updateSeq S (fun _ => #[v, v]) >>= _) _ _ _
 refine wpAny_bind ?_
 refine wpAny_updateSeq eS' rfl ?_
 rw [nm]
 refine wpAny_pure ⟨plainId_quiet PySem.F.plain_max_loop _, mx_go kw W bt cm S nf _ 0 _ v _ rfl n0 (W.frame _ _ _ st' fun b hbf o e => ?_) pv (Heap.get?_update_self _ eS' rfl) fun v' h'' tk'' pv' kp' => ?_⟩
 . exact (Heap.get?_update_other _ _ (fun z : S = b => nf (by rw [z]; exact hbf))).trans e
 . exact fin v' h'' tk'' pv' fun b o hbw hbS e => kp' b o hbw hbS ((Heap.get?_update_other _ _ (Ne.symm hbS)).trans (kp b o hbw e))
theorem z1d3 (q : Str) (dv : Value) (W : Walks prog w A.in1 I fp wr n P St) (S : Addr) (nf : S ∉ fp) (n0 : n = 0) {s : Shared} {c : Nat} (st : St 0 s.heap)
   (eS : s.heap.get? S = some { cls := .type "list", dict := none, data := .seq #[] c, slots := #[] }) (fin : ∀ h' tk, (∀ b o, b ∉ wr → b ≠ S → s.heap.get? b = some o → h'.get? b = some o) → R (.ok (.ret dv)) { s with heap := h', toks := tk }) :
   codeAny (model prog w) A (.builtin "max.loop" ⟨[.ref I, .none, .ref S], [(q, dv)]⟩) R s := by
 refine codeAny_builtin PySem.F.entry_max_loop ?_
 rw [Around.under_plainId PySem.F.plain_max_loop _]
 show wpAny _ A.in1 (seqItems? (.ref S) >>= _) _ _ _
 refine wpAny_bind (wpAny_seqItems eS rfl ?_)
 show wpAny _ A.in1 (tryCatch (pyNext (.ref I)) _ >>= _) _ _ _
 refine wpAny_bind (wpAny_tryCatch (W.done s _ _ (n0 ▸ st) fun h' tk kp => ?_))
 show wpAny _ A.in1 (rule _ >>= _) _ _ _
 exact wpAny_bind (wpAny_rule (wpAny_pure (fin h' tk fun b o hb _ e => kp b o hb e)))
end
theorem z1d4 (a v : Value) : argsOk "max" ⟨[a], [(Str.ofString "default", v)]⟩ := by unfold argsOk; kernel_rfl
section
variable {prog : Program} {w : World} {A : Around} {E : Value → Shared → Prop} {s : Shared}
theorem z1d5 {x dv : Value} {Q : Value → Shared → Prop}
   (h : wpAny (model prog w) A.in1 (pyIter x) (fun it s₂ => ∃ I fp wr n P St bt, it = .ref I ∧ Walks prog w A.in1 I fp wr n P St ∧ St 0 s₂.heap ∧ (∀ b ∈ fp, b < s₂.heap.objs.size) ∧ CmpOf prog w A.in1 .Gt P bt ∧
     ∀ v h' tk, ((0 < n ∧ P (argBest bt (n - 1)) v) ∨ (n = 0 ∧ v = dv)) → (∀ b o, b ∉ wr → s₂.heap.get? b = some o → h'.get? b = some o) → Q v { s₂ with heap := h', toks := tk }) E s) :
   wpAny (model prog w) A (call (.builtin "max") [x] [(Str.ofString "default", dv)]) Q E s := by
 have nm : (toString "max" ++ toString ".loop" : String) = "max.loop" := by decide
 refine kmk_tree PySem.F.kind_max PySem.F.plain_max PySem.F.entry_max (z1d4 _ _) ?_
 show wpAny _ A.in1 (Builtin.Builtins.bindParams "max" ["key", "default"] 0 ⟨[], [(Str.ofString "default", dv)]⟩ >>= _) _ _ s
 refine wpAny_bind (wpAny_of_eq (show Builtin.Builtins.bindParams "max" ["key", "default"] 0 ⟨[], [(Str.ofString "default", dv)]⟩ = pure [none, some dv] from rfl) ?_)
 refine wpAny_bind (wpAny_pure ?_)
 refine wpAny_bind (wpAny_mono h (fun it s₂ g => ?_) fun _ _ e => e)
 obtain ⟨I, fp, wr, n, P, St, bt, rfl, W, st, bd, cm, hQ⟩ := g
 refine wpAny_bind (wpAny_newObj_type ?_)
 have nf : s₂.heap.objs.size ∉ fp := fun hm => Nat.lt_irrefl _ (bd _ hm)
 rw [nm]
 refine wpAny_pure ⟨plainId_quiet PySem.F.plain_max_loop _, ?_⟩
 by_cases n0 : 0 < n
 . exact z193 _ W bt cm s₂.heap.objs.size nf n0 (W.frame _ _ _ st fun b _ o e => Heap.get?_push_of_some _ e) (Heap.get?_push_size _ rfl) fun v h' tk pv kp =>
     hQ v h' tk (.inl ⟨n0, pv⟩) fun b o hbw e => kp b o hbw (Nat.ne_of_lt (Heap.lt_size e)) (Heap.get?_push_of_some _ e)
 . exact z1d3 _ dv W s₂.heap.objs.size nf (by omega) (W.frame _ _ _ st fun b _ o e => Heap.get?_push_of_some _ e) (Heap.get?_push_size _ rfl) fun h' tk kp =>
     hQ dv h' tk (.inr ⟨by omega, rfl⟩) fun b o hbw e => kp b o hbw (Nat.ne_of_lt (Heap.lt_size e)) (Heap.get?_push_of_some _ e)
variable {h₀ : Heap} {L : Addr} {m : Str → Option Value} {news : List (Addr × Obj)}
theorem z1d6 {l : Addr} {vs : List Value} {ns : List Int} {dv : Value} {Q : Value → Shared → Prop} (hh : A.handled = none) (F : Fr h₀ L s.heap m) (N : News h₀ L s.heap news) (hl : s.heap.IsList l vs.toArray) (hi : IntsAre vs ns)
   (h : ∀ v h' tk, Fr h₀ L h' m → News h₀ L h' news → ((ns = [] ∧ v = dv) ∨ ∃ M t, v = .int M t ∧ M ∈ ns ∧ ∀ a, a ∈ ns → a ≤ M) → Q v { s with heap := h', toks := tk }) :
   wpAny (model prog w) A (call (.builtin "max") [.ref l] [(Str.ofString "default", dv)]) Q E s := by
 obtain ⟨xs, e⟩ := hi.allInts.items
 have en : ns = xs.toList.map (·.1) := by rw [← hi.numsOf, ← nums_intItems, ← e]
 have el : ns.length = xs.size := by rw [en, List.length_map, Array.length_toList]
 rw [e] at hl
 refine z1d5 (iter_intList hl fun s₂ e st bd lI => ?_)
 subst e
 refine ⟨_, _, _, _, _, _, _, rfl, Walks.list (A := A.in1) hh _ l lI (intItems xs), st, bd, CmpOf.ints_gt (numAt xs) (fun _ _ => intItems_at), fun v h' tk pv kp => ?_⟩
 have kp' := old_kept kp
 refine h v h' tk (F.grownK kp') (N.grown kp') ?_
 rcases pv with ⟨n0, pv⟩ | ⟨n0, rfl⟩
 . right
   have n0' : 0 < xs.size := by simpa [intItems] using n0
   have pv' : (intItems xs)[argBest (fun i j => decide (numAt xs i > numAt xs j)) (xs.size - 1)]? = some v := by simpa [intItems] using pv
   obtain ⟨t, rfl⟩ := intItems_at pv'
   obtain ⟨h1, h2⟩ := argBest_gt (numAt xs) (xs.size - 1)
   refine ⟨_, t, rfl, ?_, fun a ha => ?_⟩
   . rw [en, numAt_eq]; exact zc3 (by rw [List.length_map, Array.length_toList]; omega)
   . rw [en] at ha
     obtain ⟨j, hj, rfl⟩ := mem_getD ha
     rw [List.length_map, Array.length_toList] at hj
     rw [← numAt_eq]; exact h2 j (by omega)
 . left
   have : xs.size = 0 := by simpa [intItems] using n0
   exact ⟨List.length_eq_zero_iff.mp (by omega), rfl⟩
end
def mxD (d : Int) : List Int → Int
 | [] => d
 | n :: ns => maxI n ns
def dMaxD : List D → Option D
 | [.lst ds, .int d] => (intsOf ds).map fun ns => .int (mxD d ns)
 | _ => none
def rMaxD : List V → Hp → VK → Prop := fun xs H Q => ∃ p ns d, xs = [.ref p, .int d] ∧ H p = some (.lst (ns.map V.int)) ∧ Q (.int (mxD d ns)) H
theorem TEd.mono' {K : PySem.W.Frag} {EX : XW} {fr : Bool} {f : DE → R D} {σ : St} {H : Hp} {Q Q' : VK} (h : TEd K EX fr f σ H Q) (hq : ∀ v H', Q v H' → Q' v H') : TEd K EX fr f σ H Q' := by
 obtain ⟨sx, ρ, H0, s, e, h⟩ := h
 exact ⟨sx, ρ, H0, s, e, h.mono fun a k v H' o => hq _ _ (k v H' o)⟩
section
variable {X : Cx} {EX : XW} {e d : Expr} {p kp pos : Pos} {x : Str} {t1 t2 : TE} {f1 f2 : DE → R D}
theorem z1d7 (hc : X.calm = true) (hg : Gl X x) (hm : X.mg x = none) (hv : bootBuiltins x = some (.builtin "max")) (ha : PE X e t1) (hd : PE X d t2) (hn : x ≠ "__name__" := by decide) (hdb : (x == ("__debug__" : Str)) = false := by decide)
   (hs : starEach [e] X.env = (false, eval e X.env) :: starEach [] X.env := by rfl) :
   PE X (.Call (.Name x p) [e] [⟨some (Str.ofString "default"), d, kp⟩] pos) (tCB rMaxD (tCons t1 (tCons t2 tNil))) := by
 intro pins s σ H Q I h
 refine wpAny_Call_Name_kw (ld_blt I hg hm hv ?_ hn hdb)
 refine callWith_kw ?_ (by rw [hs]; rfl) (by rw [hs]; rfl)
 refine thn (z9d ha pa_nil hs pos pins s σ H (fun vs H1 => t2 σ H1 fun u H2 => rMaxD (vs ++ [u]) H2 Q) I h) fun us s1 ⟨vs, H1, I1, r1, q1⟩ => ?_
 refine kws_cons (thn (hd pins s1 σ H1 _ I1 q1) fun u s2 ⟨y, H2, I2, r2, q2⟩ => kws_nil ?_)
 obtain ⟨a, ns, i, e1, ea, q⟩ := q2
 obtain ⟨rfl, rfl⟩ : vs = [.ref a] ∧ y = .int i := by
   cases vs with
   | nil => cases e1
   | cons b r =>
     cases r with
     | nil => cases e1; exact ⟨rfl, rfl⟩
     | cons c r => cases r <;> cases e1
 obtain ⟨u1, rfl, ru⟩ := vals1 r1
 cases ru
 obtain ⟨t, rfl⟩ := r2
 obtain ⟨its, rv, pl, _⟩ := I2.list (.of ea)
 obtain ⟨m, hnn, _⟩ := id I2.loc
 refine z1d6 (I2.ok.hd hc) (Att.fr_all hnn) (zb6 (g := Att.noObjs s2.heap) (L := X.env.locals)) pl.isList (z9e rv) fun v h' tk F N hM => ?_
 rcases hM with ⟨rfl, rfl⟩ | ⟨M, t, rfl, hM, hle⟩
 . exact ⟨.int i, H2, I2.frn hnn F N, ⟨_, rfl⟩, q⟩
 . cases ns with
   | nil => cases hM
   | cons n ns =>
     obtain ⟨a1, a2⟩ := z119 ns n
     have e : M = maxI n ns := Int.le_antisymm (a2 M hM) (hle _ a1)
     exact ⟨.int M, H2, I2.frn hnn F N, ⟨t, rfl⟩, by rw [e]; exact q⟩
theorem z1d8 {K : PySem.W.Frag} : CallD K false dMaxD rMaxD := by
 intro H0 H xs ds z Q s r ho k
 unfold dMaxD at ho
 split at ho <;> first | cases ho | skip
 rename_i es i
 cases hq : intsOf es with
 | none => rw [hq] at ho; cases ho
 | some ns =>
   rw [hq] at ho
   cases ho
   simp only [RDs] at r
   obtain ⟨x1, r1, rfl, q1, x2, r2, rfl, q2, rfl⟩ := r
   obtain ⟨a, ys, rfl, ha, ra⟩ := q1.lst
   have e := z66 hq ra
   subst e
   cases q2.int
   exact ⟨a, ns, i, rfl, s _ _ ha, k _ H (.pure s (.mkInt _))⟩
theorem q_maxD (hc : X.calm = true) (hg : Gl X x) (hm : X.mg x = none) (hv : bootBuiltins x = some (.builtin "max")) (ha : QE X EX false e f1) (hd : QE X EX false d f2) (hn : x ≠ "__name__" := by decide) (hdb : (x == ("__debug__" : Str)) = false := by decide)
   (hs : starEach [e] X.env = (false, eval e X.env) :: starEach [] X.env := by rfl) :
   QE X EX false (.Call (.Name x p) [e] [⟨some (Str.ofString "default"), d, kp⟩] pos) (eCB dMaxD (eCons f1 (eCons f2 eNil))) :=
 ⟨(z1d7 hc hg hm hv ha.h hd.h hn hdb hs).imp fun _ _ _ q => (d_cons (d_cb z1d8 q)).mono' fun _ _ q => (d_cons q).mono' fun _ _ q => d_nil q⟩
end
def SR.thn (r : SR) (g : DS → SR) : SR := match r with
 | .nx ρ' => g ρ'
 | r => r
def SR.out (fr : Bool) (r : SR) : R D := match r with
 | .rt d => .ok d
 | .nx _ => if fr = true then .st else .ok .non
 | .er x => .er x
 | _ => .st
theorem sSeq_e (g1 g2 : DS → SR) (ρ : DS) : sSeq g1 g2 ρ = (g1 ρ).thn g2 := rfl
theorem thn_nx (ρ : DS) (g : DS → SR) : (SR.nx ρ).thn g = g ρ := rfl
theorem thn_rt (d : D) (g : DS → SR) : (SR.rt d).thn g = .rt d := rfl
theorem thn_er (x : Ex) (g : DS → SR) : (SR.er x).thn g = .er x := rfl
theorem thn_bk (ρ : DS) (g : DS → SR) : (SR.bk ρ).thn g = .bk ρ := rfl
theorem thn_ct (ρ : DS) (g : DS → SR) : (SR.ct ρ).thn g = .ct ρ := rfl
theorem thn_st (g : DS → SR) : (SR.st).thn g = .st := rfl
theorem thn_ite (c : Prop) [Decidable c] (a b : SR) (g : DS → SR) : (if c then a else b).thn g = if c then a.thn g else b.thn g := by split <;> rfl
theorem mOf_e (fr : Bool) (n k : Nat) (g : DS → SR) (ds : List D) : mOf fr n k g ds = if ds.length = n then (g (ds.map .im ++ List.replicate k .em)).out fr else .st := rfl
theorem out_rt (fr : Bool) (d : D) : (SR.rt d).out fr = .ok d := rfl
theorem out_nx (ρ : DS) : (SR.nx ρ).out false = .ok .non := rfl
theorem out_er (fr : Bool) (x : Ex) : (SR.er x).out fr = .er x := rfl
theorem out_st (fr : Bool) : (SR.st).out fr = .st := rfl
theorem out_ite (fr : Bool) (c : Prop) [Decidable c] (a b : SR) : (if c then a else b).out fr = if c then a.out fr else b.out fr := by split <;> rfl
theorem sRet_e (m : List Bool) (f : DE → R D) (ρ : DS) : sRet m f ρ = (f (vis m ρ)).toS fun d => .rt d := rfl
theorem sAsg_e (fr : Bool) (i : Nat) (m : List Bool) (f : DE → R D) (ρ : DS) : sAsg fr i m f ρ = (f (vis m ρ)).toS fun d => .nx (putS fr i d (thaw (keeps fr d) m ρ)) := rfl
theorem sIf_e (t : DE → R Bool) (g1 g2 : DS → SR) (ρ : DS) : sIf t g1 g2 ρ = (t (see ρ)).toS fun b => if b = true then g1 ρ else g2 ρ := rfl
theorem toS_ok {α : Type} (a : α) (k : α → SR) : R.toS (.ok a) k = k a := rfl
theorem toS_er {α : Type} (x : Ex) (k : α → SR) : R.toS (.er x : R α) k = .er x := rfl
theorem toS_st {α : Type} (k : α → SR) : R.toS (.st : R α) k = .st := rfl
theorem toS_ite {α : Type} (c : Prop) [Decidable c] (a b : R α) (k : α → SR) : R.toS (if c then a else b) k = if c then R.toS a k else R.toS b k := by split <;> rfl
theorem bind_er {α β : Type} (x : Ex) (k : α → R β) : R.bind (.er x : R α) k = .er x := rfl
theorem noE_ok {α : Type} (a : α) : (R.ok a).noE = .ok a := rfl
theorem vis_n (m : List Bool) : vis m [] = [] := by cases m <;> rfl
theorem vis_0 (s : Sl) (r : DS) : vis [] (s :: r) = s.see false :: vis [] r := rfl
theorem vis_c (b : Bool) (m : List Bool) (s : Sl) (r : DS) : vis (b :: m) (s :: r) = s.see b :: vis m r := rfl
theorem see_n : see [] = [] := rfl
theorem see_c (s : Sl) (r : DS) : see (s :: r) = s.see true :: see r := rfl
theorem see_em (b : Bool) : Sl.see b .em = none := rfl
theorem see_im (b : Bool) (d : D) : Sl.see b (.im d) = some d := rfl
theorem see_ow1 (d : D) : Sl.see true (.ow d) = some d := rfl
theorem see_ow0 (d : D) : Sl.see false (.ow d) = none := rfl
theorem thaw_t (m : List Bool) (ρ : DS) : thaw true m ρ = ρ := rfl
theorem keep_int (fr : Bool) (i : Int) : keeps fr (.int i) = true := by cases fr <;> rfl
theorem keep_bl (fr : Bool) (i : Bool) : keeps fr (.bl i) = true := by cases fr <;> rfl
theorem keep_non (fr : Bool) : keeps fr .non = true := by cases fr <;> rfl
theorem keep_str (fr : Bool) (x : PySem.Str) : keeps fr (.str x) = true := by cases fr <;> rfl
theorem keep_tup (fr : Bool) (ds : List D) : keeps fr (.tup ds) = noLs ds := by cases fr <;> simp only [keeps, D.noL, D.shal, if_true, Bool.false_eq_true, if_false]
theorem keep_lst (ds : List D) : keeps true (.lst ds) = noLs ds := rfl
theorem noLs_n : noLs [] = true := by simp only [noLs]
theorem noLs_c (d : D) (r : List D) : noLs (d :: r) = (d.noL && noLs r) := by simp only [noLs]
theorem noL_int (i : Int) : (D.int i).noL = true := by simp only [D.noL]
theorem noL_bl (i : Bool) : (D.bl i).noL = true := by simp only [D.noL]
theorem noL_str (i : PySem.Str) : (D.str i).noL = true := by simp only [D.noL]
theorem noL_non : (D.non).noL = true := by simp only [D.noL]
theorem noL_tup (ds : List D) : (D.tup ds).noL = noLs ds := by simp only [D.noL]
theorem noL_lst (ds : List D) : (D.lst ds).noL = false := by simp only [D.noL]
theorem put_f (i : Nat) (d : D) (ρ : DS) : putS false i d ρ = ρ.set i (.im d) := rfl
theorem put_t (i : Nat) (d : D) (ρ : DS) : putS true i d ρ = ρ.set i (.ow d) := rfl
theorem sel_n (ρ : DE) : sel [] ρ = [] := rfl
theorem sel_c (j : Nat) (r : List Nat) (ρ : DE) : sel (j :: r) ρ = (ρ[j]?).getD none :: sel r ρ := rfl
theorem var0 (d : D) (r : DE) : eVar 0 (some d :: r) = .ok d := rfl
theorem varS (i : Nat) (d : Option D) (r : DE) : eVar (i + 1) (d :: r) = eVar i r := rfl
theorem dI_ii (g : Int → Int → D) (i j : Int) : dI g (.int i) (.int j) = some (g i j) := rfl
theorem dIC_ii (C : Int → Int → Prop) [∀ i j, Decidable (C i j)] (g : Int → Int → D) (i j : Int) : dIC C g (.int i) (.int j) = if C i j then some (g i j) else none := rfl
theorem asB_b (b : Bool) : asB (.bl b) = some b := rfl
theorem dTru_b (b : Bool) : dTru (.bl b) = some b := rfl
theorem dTru_l (ds : List D) : dTru (.lst ds) = some (!ds.isEmpty) := rfl
theorem dTru_i (i : Int) : dTru (.int i) = some (i != 0) := rfl
theorem zac (i j : Int) : (i == j) = decide (i = j) := by rw [Bool.eq_iff_iff]; simp
theorem dEq_ii (i j : Int) : dEq (.int i) (.int j) = some (.bl (decide (i = j))) := by
 unfold dEq
 rw [if_pos (by simp [D.pl, D.dep])]
 simp only [eqD, zac]
theorem dNe_ii (i j : Int) : dNe (.int i) (.int j) = some (.bl (!decide (i = j))) := by
 unfold dNe
 rw [if_pos (by simp [D.pl, D.dep])]
 simp only [eqD, zac]
theorem dEq_bb (i j : Bool) : dEq (.bl i) (.bl j) = some (.bl (i == j)) := by
 unfold dEq
 rw [if_pos (by simp [D.pl, D.dep])]
 simp only [eqD]
theorem dEq_t2 (a b c e : Int) : dEq (.tup [.int a, .int b]) (.tup [.int c, .int e]) = some (.bl (decide (a = c) && decide (b = e))) := by
 unfold dEq
 rw [if_pos (by simp [D.pl, D.dep, pls, deps])]
 simp only [eqD, eqDs, zac, Bool.and_true]
theorem dNe_t2 (a b c e : Int) : dNe (.tup [.int a, .int b]) (.tup [.int c, .int e]) = some (.bl (!(decide (a = c) && decide (b = e)))) := by
 unfold dNe
 rw [if_pos (by simp [D.pl, D.dep, pls, deps])]
 simp only [eqD, eqDs, zac, Bool.and_true]
theorem dIx_t0 (a : D) (r : List D) : dIx (.tup (a :: r)) (.int 0) = some a := by simp only [dIx, dOr, dIxS, atI0]
theorem dIx_t1 (a b : D) (r : List D) : dIx (.tup (a :: b :: r)) (.int 1) = some b := by simp only [dIx, dOr, dIxS, atI1]
theorem dIx_t2 (a b c : D) (r : List D) : dIx (.tup (a :: b :: c :: r)) (.int 2) = some c := by simp only [dIx, dOr, dIxS, show atI (a :: b :: c :: r) 2 = some c from zd3 (j := 2) rfl]
theorem dIx_l0 (a : D) (r : List D) : dIx (.lst (a :: r)) (.int 0) = some a := by simp only [dIx, dOr, dIxS, atI0]
theorem dIx_l1 (a b : D) (r : List D) : dIx (.lst (a :: b :: r)) (.int 1) = some b := by simp only [dIx, dOr, dIxS, atI1]
theorem dIx_ln {ds : List D} {j : Nat} {d : D} (h : ds[j]? = some d) : dIx (.lst ds) (.int (j : Int)) = some d := by simp only [dIx, dOr, dIxS, zd3 h]
theorem dLen_s (ns : List Int) : dLen [.scr ns] = some (.int ns.length) := rfl
theorem dLen_l (ns : List D) : dLen [.lst ns] = some (.int ns.length) := rfl
theorem dLen_t (ns : List D) : dLen [.tup ns] = some (.int ns.length) := rfl
theorem or_ok (b c : Bool) : (if b = true then R.ok true else R.ok c) = R.ok (b || c) := by cases b <;> rfl
theorem and_ok (b c : Bool) : (if b = true then R.ok c else R.ok false) = R.ok (b && c) := by cases b <;> rfl
theorem orD_ok (b c : Bool) : (if b = true then R.ok (D.bl true) else R.ok (D.bl c)) = R.ok (D.bl (b || c)) := by cases b <;> rfl
theorem andD_ok (b c : Bool) : (if b = true then R.ok (D.bl c) else R.ok (D.bl false)) = R.ok (D.bl (b && c)) := by cases b <;> rfl
theorem isi_ii (i : Int) : dIsi "int" (.int i) = some (.bl true) := by simp [dIsi, dKind, isKnd, isiB]
theorem isi_ib (i : Int) : dIsi "bool" (.int i) = some (.bl false) := by simp [dIsi, dKind, isKnd, isiB]
theorem isi_bb (i : Bool) : dIsi "bool" (.bl i) = some (.bl true) := by simp [dIsi, dKind, isKnd, isiB]
theorem isi_tt (ds : List D) : dIsi "tuple" (.tup ds) = some (.bl true) := by simp [dIsi, dKind, isKnd, isiB]
theorem isi_ll (ds : List D) : dIsi "list" (.lst ds) = some (.bl true) := by simp [dIsi, dKind, isKnd, isiB]
theorem forL_n (tg : Tg) (g : DS → SR) (ρ : DS) : forL tg g [] ρ = .nx ρ := rfl
def SR.itr (r : SR) (k : DS → SR) : SR := match r with
 | .nx ρ2 => k ρ2
 | .ct ρ2 => k ρ2
 | .bk ρ2 => .nx ρ2
 | .rt d => .rt d
 | .er x => .er x
 | .st => .st
theorem itr_nx (ρ : DS) (k : DS → SR) : (SR.nx ρ).itr k = k ρ := rfl
theorem itr_ct (ρ : DS) (k : DS → SR) : (SR.ct ρ).itr k = k ρ := rfl
theorem itr_bk (ρ : DS) (k : DS → SR) : (SR.bk ρ).itr k = .nx ρ := rfl
theorem itr_rt (d : D) (k : DS → SR) : (SR.rt d).itr k = .rt d := rfl
theorem itr_ite (c : Prop) [Decidable c] (a b : SR) (g : DS → SR) : (if c then a else b).itr g = if c then a.itr g else b.itr g := by split <;> rfl
theorem compL_n (bn : D → Option (List D)) (t : DE → R Bool) (f : DE → R D) (cs : DE) : compL bn t f cs [] = .ok [] := rfl
theorem compL_1 (f : DE → R D) (cs : DE) (d : D) (ds : List D) : compL b1 bYes f cs (d :: ds) = (f (some d :: cs)).noE.bind fun y => (compL b1 bYes f cs ds).bind fun ys => .ok (y :: ys) := rfl
theorem z67 {bn : D → Option (List D)} {f : DE → R D} {cs : DE} {α : Type} {en : α → D} {bs : α → List D} {g : α → D} (xs : List α) (hb : ∀ x ∈ xs, bn (en x) = some (bs x)) (hf : ∀ x ∈ xs, f ((bs x).map some ++ cs) = .ok (g x)) : compL bn bYes f cs (xs.map en) = .ok (xs.map g) := by
 induction xs with
 | nil => rfl
 | cons x xs ih =>
   simp only [List.map_cons, compL, hb x (by simp), bYes, R.of_some, R.bind_ok, noE_ok, if_true, hf x (by simp), ih (fun y hy => hb y (by simp [hy])) (fun y hy => hf y (by simp [hy]))]
theorem z68 {bn : D → Option (List D)} {t : DE → R Bool} {f : DE → R D} {cs : DE} {α : Type} {en : α → D} {bs : α → List D} {p : α → Bool} {g : α → D} (xs : List α) (hb : ∀ x ∈ xs, bn (en x) = some (bs x)) (ht : ∀ x ∈ xs, t ((bs x).map some ++ cs) = .ok (p x)) (hf : ∀ x ∈ xs, p x = true → f ((bs x).map some ++ cs) = .ok (g x)) : compL bn t f cs (xs.map en) = .ok ((xs.filter p).map g) := by
 induction xs with
 | nil => rfl
 | cons x xs ih =>
   have ih' := ih (fun y hy => hb y (by simp [hy])) (fun y hy => ht y (by simp [hy])) (fun y hy => hf y (by simp [hy]))
   simp only [List.map_cons, compL, hb x (by simp), ht x (by simp), R.of_some, R.bind_ok, noE_ok, ih']
   cases e : p x with
   | true => simp only [if_true, hf x (by simp) e, noE_ok, R.bind_ok, List.filter_cons, e, List.map_cons]
   | false => simp only [Bool.false_eq_true, if_false, List.filter_cons, e]
theorem z5e {tg : Tg} {g : DS → SR} {α : Type} {en : α → D} (P : List α → DS → Prop) (xs : List α) (ρ : DS) (h0 : P xs ρ) (hs : ∀ x r ρ, P (x :: r) ρ → ∃ ρ1 ρ2, putT tg (en x) ρ = some ρ1 ∧ (g ρ1 = .nx ρ2 ∨ g ρ1 = .ct ρ2) ∧ P r ρ2) : ∃ ρ', forL tg g (xs.map en) ρ = .nx ρ' ∧ P [] ρ' := by
 induction xs generalizing ρ with
 | nil => exact ⟨ρ, rfl, h0⟩
 | cons x r ih =>
   obtain ⟨ρ1, ρ2, e1, e2, q⟩ := hs x r ρ h0
   obtain ⟨ρ', e', p'⟩ := ih ρ2 q
   refine ⟨ρ', ?_, p'⟩
   rcases e2 with e2 | e2 <;> simp only [List.map_cons, forL, e1, e2, e']
def L (ns : List Int) : D := .lst (ns.map .int)
theorem z4b {α : Type} (f : α → D) (xs : List α) (h : ∀ x ∈ xs, (f x).noL = true) : noLs (xs.map f) = true := by
 induction xs with
 | nil => simp only [List.map_nil, noLs]
 | cons a r ih => simp only [List.map_cons, noLs, h a (by simp), ih fun x hx => h x (by simp [hx]), Bool.and_self]
theorem keep_L (ns : List Int) : keeps true (L ns) = true := by
 unfold L; rw [keep_lst]; exact z4b _ _ fun x _ => noL_int x
theorem len_L (ns : List Int) : dLen [L ns] = some (.int ns.length) := by unfold L; rw [dLen_l, List.length_map]
theorem list_L (ns : List Int) : dList [L ns] = some (L ns) := rfl
theorem isi_L (ns : List Int) : dIsi "list" (L ns) = some (.bl true) := isi_ll _
theorem items_L (ns : List Int) : items (L ns) = some (ns.map .int) := rfl
theorem ix_L {ns : List Int} {x : Int} (h0 : 0 ≤ x) (h1 : x.toNat < ns.length) : dIx (L ns) (.int x) = some (.int (ns.getD x.toNat 0)) := by
 have e : (ns.map D.int)[x.toNat]? = some (.int (ns.getD x.toNat 0)) := by
   rw [List.getElem?_map, List.getElem?_eq_getElem h1, List.getD_eq_getElem?_getD, List.getElem?_eq_getElem h1]; rfl
 have := dIx_ln e
 rwa [show ((x.toNat : Nat) : Int) = x by omega] at this
theorem ix_N {ns : List Int} {k : Nat} (h1 : k < ns.length) : dIx (L ns) (.int (k : Int)) = some (.int (ns.getD k 0)) := ix_L (x := (k : Int)) (by omega) (by simpa using h1)
theorem app_L {ns : List Int} {x : Int} (h : ns.length < 100000) : mApp (L ns) [.int x] = some (L (ns ++ [x])) := by
 simp only [L, mApp, List.length_map, h, if_true, List.map_append, List.map_cons, List.map_nil]
theorem ix_nat {n : Nat} {x : Int} (h0 : 0 ≤ x) (h1 : x < n) : ixN n x = some x.toNat := by
 unfold ixN; rw [if_pos h0, if_pos h1]
theorem map_set {α β : Type} (f : α → β) (xs : List α) (j : Nat) (a : α) : (xs.map f).set j (f a) = (xs.set j a).map f := by
 rw [List.map_set]
theorem set_L {ns : List Int} {x y : Int} (h0 : 0 ≤ x) (h1 : x < ns.length) : dSet (L ns) (.int x) (.int y) = some (L (ns.set x.toNat y)) := by
 simp only [L, dSet, List.length_map, ix_nat h0 h1, Option.map_some, map_set]
theorem ins_L {ns : List Int} {x y : Int} (h0 : 0 ≤ x) (h1 : x ≤ ns.length) (h : ns.length < 100000) : mIns (L ns) [.int x, .int y] = some (L (ns.take x.toNat ++ y :: ns.drop x.toNat)) := by
 simp only [L, mIns, List.length_map]
 rw [if_pos (by refine ⟨by omega, ?_, h⟩; have : ns.length < 2 ^ 63 := by omega
                omega)]
 congr 2
 simp only [insAt, insK, List.length_map, if_neg (show ¬ x < 0 by omega), List.map_append, List.map_take, List.map_cons, List.map_drop]
 rw [Nat.min_eq_left (by omega)]
theorem sl_L (ns : List Int) (lo hi : Option Int) : dSl (L ns) lo hi = some (L (cutL ns lo hi)) := by
 simp only [L, dSl, cutL, List.length_map, List.map_take, List.map_drop]
theorem sl_scr (ns : List Int) (lo hi : Option Int) : dSl (.scr ns) lo hi = some (L (cutL ns lo hi)) := rfl
theorem sum_L (ns : List Int) : dSum [L ns] = some (.int ns.sum) := by simp only [L, dSum, z41, Option.map_some]
theorem dep_L (ns : List Int) : (L ns).dep ≤ 1 ∧ (L ns).pl = true := by
 have : ∀ ns : List Int, deps (ns.map D.int) = 0 ∧ pls (ns.map D.int) = true := fun ns => by
   induction ns with
   | nil => simp only [List.map_nil, deps, pls, and_self]
   | cons a r ih => simp only [List.map_cons, deps, pls, D.dep, D.pl, ih.1, ih.2, Bool.and_self, Nat.max_self, and_self]
 simp only [L, D.dep, D.pl, this]; exact ⟨by omega, trivial⟩
theorem eqDs_L : ∀ (a b : List Int), eqDs (a.map D.int) (b.map D.int) = decide (a = b)
 | [], [] => by simp [eqDs]
 | [], _ :: _ => by simp [eqDs]
 | _ :: _, [] => by simp [eqDs]
 | x :: a, y :: b => by
   simp only [List.map_cons, eqDs, eqD, eqDs_L a b, List.cons.injEq, Bool.decide_and, zac]
theorem eq_L (a b : List Int) : dEq (L a) (L b) = some (.bl (decide (a = b))) := by
 unfold dEq
 rw [if_pos ⟨(dep_L a).2, (dep_L b).2, by have := (dep_L a).1; omega⟩]
 simp only [L, eqD, eqDs_L]
theorem ne_L (a b : List Int) : dNe (L a) (L b) = some (.bl (!decide (a = b))) := by
 unfold dNe
 rw [if_pos ⟨(dep_L a).2, (dep_L b).2, by have := (dep_L a).1; omega⟩]
 simp only [L, eqD, eqDs_L]
theorem z95 {tg : Tg} {g : DS → SR} (n : Nat) (en : Nat → D) (P : Nat → DS → Prop) (ρ : DS) (h0 : P 0 ρ)
   (hs : ∀ i, i < n → ∀ ρ, P i ρ → ∃ ρ1 ρ2, putT tg (en i) ρ = some ρ1 ∧ (g ρ1 = .nx ρ2 ∨ g ρ1 = .ct ρ2) ∧ P (i + 1) ρ2) :
   ∃ ρ', forL tg g ((List.range n).map en) ρ = .nx ρ' ∧ P n ρ' := by
 have key : ∀ k s ρ, s + k = n → P s ρ → ∃ ρ', forL tg g ((List.range' s k).map en) ρ = .nx ρ' ∧ P n ρ' := by
   intro k
   induction k with
   | zero => intro s ρ e h; exact ⟨ρ, rfl, by rwa [← e]⟩
   | succ k ih =>
     intro s ρ e h
     obtain ⟨ρ1, ρ2, e1, e2, q⟩ := hs s (by omega) ρ h
     obtain ⟨ρ', e', p'⟩ := ih (s + 1) ρ2 (by omega) q
     refine ⟨ρ', ?_, p'⟩
     rw [List.range'_succ, List.map_cons]
     rcases e2 with e2 | e2 <;> simp only [forL, e1, e2, e']
 rw [List.range_eq_range']
 exact key n 0 ρ (by omega) h0
theorem z194 (n : Nat) (g : Nat → D) : ((zD 0 ((List.range n).map g).length).zip ((List.range n).map g)).map (fun p => D.tup [p.1, p.2]) = (List.range n).map fun (i : Nat) => D.tup [.int (i : Int), g i] := by
 simp only [zD, List.length_map, List.length_range]
 have : ∀ (l : List Nat), ((l.map fun (i : Nat) => D.int (0 + i)).zip (l.map g)).map (fun p => D.tup [p.1, p.2]) = l.map fun (i : Nat) => D.tup [.int (i : Int), g i] := fun l => by
   induction l with
   | nil => rfl
   | cons a r ih => simp only [Int.zero_add] at ih ⊢; simp only [List.map_cons, List.zip_cons_cons, ih]
 exact this _
theorem as_rng {α : Type} (xs : List α) (d : α) : xs = (List.range xs.length).map fun i => xs.getD i d := by
 apply List.ext_getElem?
 intro i
 by_cases h : i < xs.length
 . rw [List.getElem?_map, List.getElem?_range h, Option.map_some, List.getD_eq_getElem?_getD, List.getElem?_eq_getElem h]; rfl
 . rw [List.getElem?_eq_none (by omega), List.getElem?_eq_none (by simp; omega)]
theorem isT_L (ns : List Int) : isT "list" (L ns) = true := by simp only [L, isT, beq_self_eq_true]
theorem thaw_f (m : List Bool) (ρ : DS) : thaw false m ρ = frz m ρ := rfl
theorem frz_0 (ρ : DS) : frz [] ρ = ρ := by cases ρ <;> rfl
theorem frz_n (m : List Bool) : frz m [] = [] := by cases m <;> rfl
theorem frz_c (b : Bool) (m : List Bool) (s : Sl) (r : DS) : frz (b :: m) (s :: r) = s.frz b :: frz m r := rfl
theorem frz_im (b : Bool) (d : D) : Sl.frz b (.im d) = .im d := rfl
theorem frz_em (b : Bool) : Sl.frz b .em = .em := rfl
theorem frz_ow0 (d : D) : Sl.frz false (.ow d) = .ow d := rfl
theorem frz_ow1 (d : D) : Sl.frz true (.ow d) = .im d := rfl
theorem mul_l {i j : Int} (h : -(2 ^ 64) < i ∧ i < 2 ^ 64) : dMul (.int i) (.int j) = some (.int (i * j)) := by
 unfold dMul; rw [dIC_ii, if_pos (show CMul i j from Or.inl h)]
theorem mul_r {i j : Int} (h : -(2 ^ 64) < j ∧ j < 2 ^ 64) : dMul (.int i) (.int j) = some (.int (i * j)) := by
 unfold dMul; rw [dIC_ii, if_pos (show CMul i j from Or.inr h)]
theorem mod_p {i j : Int} (h : 0 < j) : dMod (.int i) (.int j) = some (.int (i % j)) := by
 unfold dMod; rw [dIC_ii, if_pos h]
theorem div_p {i j : Int} (h : 0 < j ∧ j < 1073741824) : dDiv (.int i) (.int j) = some (.int (i / j)) := by
 unfold dDiv; rw [dIC_ii, if_pos (show CDiv i j from h)]
theorem of_int (i : Int) : R.of (match D.int i with | .int i => some (some i) | _ => none) = R.ok (some i) := rfl
theorem z1d9 {i j : Int} (hi : -100000 ≤ i ∧ i ≤ 100000) (hj : -100000 ≤ j ∧ j ≤ 100000) : -(2 ^ 62) ≤ i ∧ i < 2 ^ 62 ∧ -(2 ^ 62) ≤ j ∧ j < 2 ^ 62 := by omega
theorem z1da {j : Int} (hj : -100000 ≤ j ∧ j ≤ 100000) : -(2 ^ 62) ≤ j ∧ j < 2 ^ 62 := by omega
theorem iR2_e {fs : DE → R (List D)} {ρ : DE} (i j : Int) (hi : -100000 ≤ i ∧ i ≤ 100000) (hj : -100000 ≤ j ∧ j ≤ 100000) (h : fs ρ = .ok [.int i, .int j]) : iR2d fs ρ = .ok (zD i (j - i).toNat) := by
 unfold iR2d; rw [h, R.bind_ok]
 show R.of (if _ then _ else _) = _
 rw [if_pos (z1d9 hi hj)]; rfl
theorem iR1_e {fs : DE → R (List D)} {ρ : DE} (j : Int) (hj : -100000 ≤ j ∧ j ≤ 100000) (h : fs ρ = .ok [.int j]) : iR1d fs ρ = .ok (zD 0 j.toNat) := by
 unfold iR1d; rw [h, R.bind_ok]
 show R.of (if _ then _ else _) = _
 rw [if_pos (z1da hj)]; rfl
theorem items_l (ds : List D) : items (.lst ds) = some ds := rfl
theorem items_t (ds : List D) : items (.tup ds) = some ds := rfl
theorem zD_len (lo : Int) (n : Nat) : (zD lo n).length = n := by simp [zD]
theorem keep_lstf (ds : List D) : keeps false (.lst ds) = false := by simp only [keeps, D.noL, Bool.false_eq_true, if_false]
theorem keep_Lf (ns : List Int) : keeps false (L ns) = false := keep_lstf _
def T2 (p : Int × Int) : D := .tup [.int p.1, .int p.2]
def T3 (p : Int × Int × Int) : D := .tup [.int p.1, .int p.2.1, .int p.2.2]
theorem ze2 {l l' : List D} (h : ois l' = true) (p : l.Perm l') : sortT l = sortT l' :=
 z4a (z6e ((z16 l).trans p) h) (((z16 l).trans p).trans (z16 l').symm) (z35 (z6e p h)) (z35 h)
def insB {α : Type} (lt : α → α → Bool) (d : α) : List α → List α
 | [] => [d]
 | e :: r => if lt e d = true then e :: insB lt d r else d :: e :: r
def sortB {α : Type} (lt : α → α → Bool) : List α → List α
 | [] => []
 | d :: r => insB lt d (sortB lt r)
section
variable {α : Type} (f : α → D)
theorem z11a (d : α) : ∀ l : List α, insT (f d) (l.map f) = (insB (fun a b => ltT (f a) (f b)) d l).map f
 | [] => rfl
 | e :: r => by
   simp only [List.map_cons, insT, insB]
   split
   . rw [List.map_cons, z11a d r]
   . rfl
theorem z69 : ∀ l : List α, sortT (l.map f) = (sortB (fun a b => ltT (f a) (f b)) l).map f
 | [] => rfl
 | d :: r => by simp only [List.map_cons, sortT, sortB, z69 r, z11a]
variable (lt : α → α → Bool)
theorem ze3 (d : α) : ∀ l : List α, (insB lt d l).Perm (d :: l)
 | [] => .refl _
 | e :: r => by
   unfold insB
   split
   . exact ((ze3 d r).cons e).trans (.swap d e r)
   . exact .refl _
theorem z70 : ∀ l : List α, (sortB lt l).Perm l
 | [] => .refl _
 | d :: r => (ze3 lt d (sortB lt r)).trans ((z70 r).cons d)
end
def so2 (ls : List (Int × Int)) : List (Int × Int) := sortB (fun a b => ltT (T2 a) (T2 b)) ls
def so3 (ls : List (Int × Int × Int)) : List (Int × Int × Int) := sortB (fun a b => ltT (T3 a) (T3 b)) ls
def soI (ls : List Int) : List Int := sortB (fun a b => ltT (.int a) (.int b)) ls
theorem ze4 (ls : List (Int × Int)) : sortT (ls.map T2) = (so2 ls).map T2 := z69 _ _
theorem z82 (ls : List (Int × Int × Int)) : sortT (ls.map T3) = (so3 ls).map T3 := z69 _ _
theorem z1db (ls : List Int) : sortT (ls.map D.int) = (soI ls).map D.int := z69 _ _
theorem z96 (ls : List (Int × Int)) : (so2 ls).Perm ls := z70 _ _
theorem z14 (ls : List (Int × Int × Int)) : (so3 ls).Perm ls := z70 _ _
theorem all_of {α : Type} (xs : List α) (f : α → D) (p : D → Bool) (h : ∀ x, p (f x) = true) : (xs.map f).all p = true := by
 rw [List.all_eq_true]; intro d hd; obtain ⟨x, _, rfl⟩ := List.mem_map.mp hd; exact h x
theorem ois_of {α : Type} (xs : List α) (f : α → D) (h : ∀ x, (f x).oi = true) : ois (xs.map f) = true :=
 ois_mem.mpr fun d hd => by obtain ⟨x, _, rfl⟩ := List.mem_map.mp hd; exact h x
theorem z71 {α : Type} (xs : List α) (f : α → D) (n : Nat) (h : ∀ x, (f x).dep ≤ n) : deps (xs.map f) ≤ n := by
 induction xs with
 | nil => simp only [List.map_nil, deps, Nat.zero_le]
 | cons a r ih => simp only [List.map_cons, deps]; have := h a; omega
theorem pls_of {α : Type} (xs : List α) (f : α → D) (h : ∀ x, (f x).pl = true) : pls (xs.map f) = true := by
 induction xs with
 | nil => simp only [List.map_nil, pls]
 | cons a r ih => simp only [List.map_cons, pls, h a, ih, Bool.and_self]
theorem oi_T2 (p : Int × Int) : (T2 p).oi = true := by simp [T2, D.oi, ois]
theorem oi_T3 (p : Int × Int × Int) : (T3 p).oi = true := by simp [T3, D.oi, ois]
theorem oi_I (p : Int) : (D.int p).oi = true := by simp [D.oi]
theorem dep_T2 (p : Int × Int) : (T2 p).dep ≤ 1 := by simp [T2, D.dep, deps]
theorem dep_T3 (p : Int × Int × Int) : (T3 p).dep ≤ 1 := by simp [T3, D.dep, deps]
theorem noL_T2 (p : Int × Int) : (T2 p).noL = true := by simp [T2, D.noL, noLs]
theorem noL_T3 (p : Int × Int × Int) : (T3 p).noL = true := by simp [T3, D.noL, noLs]
theorem cmp_T2 (p q : Int × Int) : (cmpD (T2 p) (T2 q)).isSome = true := by
 simp only [T2, cmpD, cmpDs]; repeat (first | rfl | split)
theorem cmp_T3 (p q : Int × Int × Int) : (cmpD (T3 p) (T3 q)).isSome = true := by
 simp only [T3, cmpD, cmpDs]; repeat (first | rfl | split)
theorem cmp_I (p q : Int) : (cmpD (.int p) (.int q)).isSome = true := by simp only [cmpD]; rfl
theorem z13f (ls : List (Int × Int)) (h : ls.length < 64) : sortOk (ls.map T2) = true := by
 unfold sortOk
 rw [List.length_map, decide_eq_true h, ois_of _ _ oi_T2, decide_eq_true (Nat.le_trans (z71 ls T2 1 dep_T2) (by decide)), all_of ls T2 (fun d => (ls.map T2).all fun e => (cmpD d e).isSome) (fun x => all_of _ _ _ fun y => cmp_T2 x y), all_of ls T2 fstI (fun x => rfl)]
 simp
theorem z140 (ls : List (Int × Int × Int)) (h : ls.length < 64) : sortOk (ls.map T3) = true := by
 unfold sortOk
 rw [List.length_map, decide_eq_true h, ois_of _ _ oi_T3, decide_eq_true (Nat.le_trans (z71 ls T3 1 dep_T3) (by decide)), all_of ls T3 (fun d => (ls.map T3).all fun e => (cmpD d e).isSome) (fun x => all_of _ _ _ fun y => cmp_T3 x y), all_of ls T3 fstI (fun x => rfl)]
 simp
theorem z195 (ls : List Int) (h : ls.length < 64) : sortOk (ls.map D.int) = true := by
 unfold sortOk
 rw [List.length_map, decide_eq_true h, ois_of _ _ oi_I, decide_eq_true (Nat.le_trans (z71 ls D.int 1 (fun x => by simp [D.dep])) (by decide)), all_of ls D.int (fun d => (ls.map D.int).all fun e => (cmpD d e).isSome) (fun x => all_of _ _ _ fun y => cmp_I x y), all_of ls D.int isI (fun x => rfl)]
 simp
theorem z141 (ls : List (Int × Int)) (h : ls.length < 64) : z44 [.lst (ls.map T2)] = some (.lst ((so2 ls).map T2)) := by
 simp only [z44, z13f ls h, if_true, ze4]
theorem z142 (ls : List (Int × Int × Int)) (h : ls.length < 64) : z44 [.lst (ls.map T3)] = some (.lst ((so3 ls).map T3)) := by
 simp only [z44, z140 ls h, if_true, z82]
theorem z196 (ls : List Int) (h : ls.length < 64) : z44 [L ls] = some (L (soI ls)) := by
 simp only [L, z44, z195 ls h, if_true, z1db]
theorem T3_inj {p q : Int × Int × Int} (h : T3 p = T3 q) : p = q := by
 obtain ⟨a, b, c⟩ := p; obtain ⟨a', b', c'⟩ := q
 simp only [T3, D.tup.injEq, List.cons.injEq, D.int.injEq, and_true] at h
 simp only [Prod.mk.injEq]; exact h
theorem T2_inj {p q : Int × Int} (h : T2 p = T2 q) : p = q := by
 obtain ⟨a, b⟩ := p; obtain ⟨a', b'⟩ := q
 simp only [T2, D.tup.injEq, List.cons.injEq, D.int.injEq, and_true] at h
 simp only [Prod.mk.injEq]; exact h
theorem z5f {α β : Type} {f : α → β} (hf : ∀ x y, f x = f y → x = y) : ∀ {a b : List α}, a.map f = b.map f → a = b
 | [], [], _ => rfl
 | [], _ :: _, h => by simp at h
 | _ :: _, [], h => by simp at h
 | x :: a, y :: b, h => by
   simp only [List.map_cons, List.cons.injEq] at h
   rw [hf _ _ h.1, z5f hf h.2]
theorem zc5 {a b : List (Int × Int × Int)} (p : a.Perm b) : so3 a = so3 b := by
 have := ze2 (ois_of b T3 oi_T3) (p.map T3)
 rw [z82, z82] at this
 exact z5f (fun _ _ => T3_inj) this
theorem zc6 {a b : List (Int × Int)} (p : a.Perm b) : so2 a = so2 b := by
 have := ze2 (ois_of b T2 oi_T2) (p.map T2)
 rw [ze4, ze4] at this
 exact z5f (fun _ _ => T2_inj) this
theorem mxD_is {d m : Int} {ys : List Int} (h1 : ∀ y ∈ ys, y ≤ m) (h2 : m ∈ ys ∨ (ys = [] ∧ d = m)) : mxD d ys = m := by
 cases ys with
 | nil =>
   rcases h2 with h2 | h2
   . cases h2
   . exact h2.2
 | cons n ns =>
   rcases h2 with h2 | h2
   . obtain ⟨a, b⟩ := z119 ns n
     exact Int.le_antisymm (h1 _ a) (b _ h2)
   . cases h2.1
theorem isT_l (ds : List D) : isT "list" (.lst ds) = true := by simp only [isT, beq_self_eq_true]
theorem int_b (b : Bool) : dInt [.bl b] = some (.int (if b then 1 else 0)) := rfl
theorem int_i (i : Int) : dInt [.int i] = some (.int i) := rfl
theorem list_t (ds : List D) : dList [.tup ds] = some (.lst ds) := rfl
theorem list_l (ds : List D) : dList [.lst ds] = some (.lst ds) := rfl
theorem tuple_l (ds : List D) : dTuple [.lst ds] = some (.tup ds) := rfl
theorem tuple_t (ds : List D) : dTuple [.tup ds] = some (.tup ds) := rfl
theorem keep_lT2 (ls : List (Int × Int)) : noLs (ls.map T2) = true := z4b _ _ fun x _ => noL_T2 x
theorem keep_lT3 (ls : List (Int × Int × Int)) : noLs (ls.map T3) = true := z4b _ _ fun x _ => noL_T3 x
theorem sum_T3 (t : Int × Int × Int) : dSum [T3 t] = some (.int (t.1 + (t.2.1 + (t.2.2 + 0)))) := by
 simp only [T3, dSum, intsOf, Option.map_some, List.sum_cons, List.sum_nil]
theorem sum_T2 (t : Int × Int) : dSum [T2 t] = some (.int (t.1 + (t.2 + 0))) := by
 simp only [T2, dSum, intsOf, Option.map_some, List.sum_cons, List.sum_nil]
theorem isi_T3 (t : Int × Int × Int) : dIsi "tuple" (T3 t) = some (.bl true) := isi_tt _
theorem isi_T2 (t : Int × Int) : dIsi "tuple" (T2 t) = some (.bl true) := isi_tt _
theorem len_T2 (t : Int × Int) : dLen [T2 t] = some (.int 2) := rfl
theorem ix2_0 (t : Int × Int) : dIx (T2 t) (.int 0) = some (.int t.1) := dIx_t0 _ _
theorem ix2_1 (t : Int × Int) : dIx (T2 t) (.int 1) = some (.int t.2) := dIx_t1 _ _ _
theorem items_T3 (t : Int × Int × Int) : items (T3 t) = some [.int t.1, .int t.2.1, .int t.2.2] := rfl
theorem z143 (ds : List D) : keeps false (.tup ds) = noLs ds := by simp only [keeps, D.noL, Bool.false_eq_true, if_false]
section
variable {X : Cx} {K : PySem.W.Frag} {EX : XW} {fr : Bool} {m : List Bool} {De : Ends} {σ : St} {H : Hp}
theorem d_par {i j : Nat} {fs : DE → R (List D)} (h : TSd K EX fr (sUnp (.t [i, j]) m (eTup fs)) De σ H) : tPar i j (TAd K EX fs) De σ H := by
 obtain ⟨Hc, Hb, H0, ρ, sb, I, h⟩ := h
 unfold sUnp eTup at h
 rw [SK.toS, Rk.bind] at h
 refine ⟨sb.trans I.sb, vis m ρ, HeOf m ρ σ H0 H, I.heH m, I.re m, h.mono fun ds h vs H' H0' s e rds => ?_⟩
 obtain ⟨H0n, R', rd'⟩ := I.outs s e rds
 split at h
 . have h : SK K EX fr Hc Hb De (match putT (.t [i, j]) (.tup ds) (thaw (keeps false (.tup ds)) m ρ) with | some ρ' => .nx ρ' | none => .st) := h
   rw [z143] at h
   split at h
   . rename_i ρ' q
     simp only [putT, items, Option.bind_some] at q
     split at q
     . rename_i hl
       cases q
       match ds, hl with
       | [x, y], _ =>
         simp only [RDs] at rd'
         obtain ⟨v, r1, rfl, q1, w, r2, rfl, q2, rfl⟩ := rd'
         refine ⟨v, w, rfl, ?_⟩
         simp only [putAll] at h
         exact h _ H' H0n ((R'.putI q1 i).putI q2 j)
     . cases q
   . exact h.elim
 . exact h.elim
theorem s_par {i j : Nat} {x y : Str} {a b : Expr} {px py pt : Pos} {kt k2 pt2} {pos : Pos} {fs : DE → R (List D)} (hc : X.calm = true) (hN : X.N.Nodup) (hi : X.N[i]? = some x) (hj : X.N[j]? = some y) (hij : i ≠ j)
   (hx : X.env.scope.names.lookup x = some .local) (hy : X.env.scope.names.lookup y = some .local) (ha : QA X EX [a, b] fs)
   (hw : swappedStores [.Tuple [.Name x px, .Name y py] kt pt] (.Tuple [a, b] k2 pt2) X.env = pure (some [x, y]) := by rfl)
   (hs : swapsWithSole [.Tuple [.Name x px, .Name y py] kt pt] (.Tuple [a, b] k2 pt2) pos.line X.env = pure false := by rfl) :
   QS X EX fr (.Assign [.Tuple [.Name x px, .Name y py] kt pt] (.Tuple [a, b] k2 pt2) pos) (sUnp (.t [i, j]) m (eTup fs)) :=
 ⟨(ps_par hc hN hi hj hij hx hy ha.h hw hs).imp fun _ _ _ q => d_par q⟩
end
def dIndex : D → D → Option D
 | .lst ds, .int k => match intsOf ds with
   | some ns => if k ∈ ns ∧ ns.length ≤ 100000 then some (.int (ns.idxOf k : Int)) else none
   | none => none
 | _, _ => none
theorem z11b : ∀ {xs : List V} {us : List Value}, xs.length = us.length → (∀ (i : Nat) x u, xs[i]? = some x → us[i]? = some u → RelV x u) → Vals xs us
 | [], [], _, _ => .nil
 | [], _ :: _, h, _ => by simp at h
 | _ :: _, [], h, _ => by simp at h
 | x :: xs, u :: us, h, k => .cons (k 0 x u rfl rfl) (z11b (by simpa using h) fun i y v a b => k (i + 1) y v (by simpa using a) (by simpa using b))
def tLR (ta : TA) : TE := fun σ H Q => ta σ H fun vs H1 => ∃ j : Int, vs = [.int j] ∧ 0 ≤ j ∧ j ≤ 100000 ∧ ∀ l, H1 l = none → Q (.ref l) (upd H1 l (.lst ((List.range j.toNat).map fun (k : Nat) => V.int (k : Int))))
section
variable {X : Cx} {EX : XW} {σ : St} {H : Hp} {Q : VK}
theorem zc7 {a : Expr} {ta : TA} {p p' pos pos' : Pos} (hc : X.calm = true) (hgl : Gl X "list") (hml : X.mg "list" = none) (hg : Gl X "range") (hm : X.mg "range" = none) (ha : PA X [a] ta) (hs : starEach [a] X.env = [(false, eval a X.env)] := by rfl)
   (hs2 : starEach [.Call (.Name "range" p') [a] [] pos'] X.env = (false, eval (.Call (.Name "range" p') [a] [] pos') X.env) :: starEach [] X.env := by rfl) (hpl : (backTo pos (starEach [] X.env)).any (·.1) = false := by rfl) :
   PE X (.Call (.Name "list" p) [.Call (.Name "range" p') [a] [] pos'] [] pos) (tLR ta) := by
 intro pins s σ H Q I h
 refine wpAny_Call_Name_kw (ld_blt I hgl hml boot_list ?_)
 refine PyProof.Rows.callWith_type1 ?_ hs2 hpl
 rw [hs2]
 show wpAny _ _ (spliced ((false, eval (.Call (.Name "range" p') [a] [] pos') X.env) :: backTo pos (starEach [] X.env))) _ _ s
 refine Calls.spliced_cons ?_
 refine Call_ (ld_blt I hg hm boot_range (PyProof.Rows.callWith_type1 (thn (ha pos' pins s σ H _ I h) fun us s1 ⟨vs, H1, I1, r1, q1⟩ => ?_) hs rfl))
 obtain ⟨j, e, j0, j1, q⟩ := q1
 subst e
 cases r1 with
 | cons r rr =>
   cases rr
   obtain ⟨t, rfl⟩ := r
   refine call_range_1 ?_
   refine Calls.spliced_nil ?_
   obtain ⟨hp, hhp⟩ : ∃ hp, hp = s1.heap.push { cls := .type "range", data := .fields #[.int 0 s1.toks, .int j t, .int 1 (s1.toks + 1)] } := ⟨_, rfl⟩
   have I2 : Inv X pins σ H1 { s1 with heap := hp, toks := s1.toks + 1 + 1 } := I1.kept fun b o e => by rw [hhp]; exact Heap.get?_push_of_some _ e
   have hr : IsRange hp s1.heap.objs.size 0 j 1 s1.toks t (s1.toks + 1) := by rw [hhp]; exact IsRange.new ..
   rw [← hhp]
   refine call_list_range (n := j.toNat) (I2.ok.hd hc) hr (small_one (by omega) (by omega) (by omega) (by omega)) (by rw [rangeSize_one]; split <;> omega) (by omega) fun h' tk acc c' kp hl hit => ?_
   have hz : ((List.range j.toNat).map fun (k : Nat) => V.int (k : Int)).length ≤ sizeLine := by rw [List.length_map, List.length_range]; exact k100 (by omega)
   have rv : Vals ((List.range j.toNat).map fun (k : Nat) => V.int (k : Int)) acc.toList := by
     refine z11b (by rw [List.length_map, List.length_range, Array.length_toList]; exact hit.1.symm) fun i x u hx hu => ?_
     rw [Array.getElem?_toList] at hu
     obtain ⟨t', rfl⟩ := hit.2 i u hu
     rw [List.getElem?_map] at hx
     cases hr : (List.range j.toNat)[i]? with
     | none => rw [hr] at hx; cases hx
     | some k =>
       rw [hr] at hx
       cases hx
       have := List.getElem?_range (i := i) (n := j.toNat) (by
         apply Classical.byContradiction; intro hn
         rw [List.getElem?_eq_none (by rw [List.length_range]; omega)] at hr; cases hr)
       rw [this] at hr; cases hr
       exact ⟨t', by simp⟩
   exact ⟨.ref hp.objs.size, _, I2.laid (t' := tk) kp (Nat.le_refl _) (show ObjOk X.prog X.w _ h' _ (.lst _) from ⟨hz, acc.toList, c', rv, by simpa using hl⟩), rfl, q _ (I2.hok.fresh (Nat.le_refl _))⟩
end
def eLR (fs : DE → R (List D)) : DE → R D := fun ρ => (fs ρ).bind fun ds => match ds with
 | [.int j] => if 0 ≤ j ∧ j ≤ 100000 then .ok (L ((List.range j.toNat).map fun (k : Nat) => (k : Int))) else .st
 | _ => .st
section
variable {X : Cx} {EX : XW} {σ : St} {H : Hp} {Q : VK}
theorem d_lr {K : PySem.W.Frag} {fs : DE → R (List D)} (h : TEd K EX true (eLR fs) σ H Q) : tLR (TAd K EX fs) σ H Q := by
 obtain ⟨sx, ρ, H0, s, e, h⟩ := h
 unfold eLR at h
 rw [Rk.bind] at h
 refine TAd.go sx s e h fun ds h vs H1 H1' s1 e1 r1 => ?_
 split at h
 . rename_i j
   split at h
   . rename_i hj
     obtain ⟨x, rfl, q1⟩ := r1.uno
     cases q1.int
     refine ⟨j, rfl, hj.1, hj.2, fun l hl => h _ _ (Out.after s1 e1 (.new e1.2.1 hl fun H' hH => ?_))⟩
     simp only [OB, L]
     refine ⟨_, hH, ?_⟩
     rw [show (List.range j.toNat).map (fun (k : Nat) => V.int (k : Int)) = ((List.range j.toNat).map fun (k : Nat) => (k : Int)).map V.int by rw [List.map_map]; rfl]
     exact RDs.ofInts _
   . exact h.elim
 . exact h.elim
theorem q_lr {a : Expr} {fs : DE → R (List D)} {p p' pos pos' : Pos} (hc : X.calm = true) (hgl : Gl X "list") (hml : X.mg "list" = none) (hg : Gl X "range") (hm : X.mg "range" = none) (ha : QA X EX [a] fs) (hs : starEach [a] X.env = [(false, eval a X.env)] := by rfl)
   (hs2 : starEach [.Call (.Name "range" p') [a] [] pos'] X.env = (false, eval (.Call (.Name "range" p') [a] [] pos') X.env) :: starEach [] X.env := by rfl) (hpl : (backTo pos (starEach [] X.env)).any (·.1) = false := by rfl) :
   QE X EX true (.Call (.Name "list" p) [.Call (.Name "range" p') [a] [] pos'] [] pos) (eLR fs) := ⟨(zc7 hc hgl hml hg hm ha.h hs hs2 hpl).imp fun _ _ _ q => d_lr q⟩
end
def CDivG (i j : Int) : Prop := 0 < j ∧ j < 2 ^ 200
instance (i j : Int) : Decidable (CDivG i j) := by unfold CDivG; infer_instance
mutual
def D.ob : D → Bool
 | .int _ => true
 | .bl _ => true
 | .tup ds => obs ds
 | _ => false
def obs : List D → Bool
 | [] => true
 | d :: ds => d.ob && obs ds
end
mutual
def cmpB : D → D → Option Bool
 | .int i, .int j => some (decide (i < j))
 | .bl a, .bl b => some (decide (b2i a < b2i b))
 | .tup ds, .tup es => cmpBs ds es
 | _, _ => none
def cmpBs : List D → List D → Option Bool
 | [], [] => some false
 | [], _ :: _ => some true
 | _ :: _, [] => some false
 | d :: ds, e :: es => if eqD d e = true then cmpBs ds es else cmpB d e
end
mutual
theorem ob_pl : ∀ {d : D}, d.ob = true → d.pl = true
 | .int _, _ => rfl
 | .bl _, _ => rfl
 | .tup ds, h => by simp only [D.pl]; exact obs_pl (by simpa only [D.ob] using h)
 | .non, p => by simp [D.ob] at p
 | .str _, p => by simp [D.ob] at p
 | .lst _, p => by simp [D.ob] at p
 | .dk _ _, p => by simp [D.ob] at p
 | .dt _ _, p => by simp [D.ob] at p
 | .dn _ _, p => by simp [D.ob] at p
 | .scr _, p => by simp [D.ob] at p
 | .exc _, p => by simp [D.ob] at p
theorem obs_pl : ∀ {ds : List D}, obs ds = true → pls ds = true
 | [], _ => rfl
 | d :: ds, h => by
   simp only [obs, Bool.and_eq_true] at h
   simp only [pls, ob_pl h.1, obs_pl h.2, Bool.and_self]
end
section
variable {X : Cx} {pins : List (Addr × Obj)} {σ : St} {H : Hp} {s : Shared}
theorem lexR_B (I : Inv X pins σ H s) {A : Around} {n : Nat} (hu : A.units + n < cLine) (lt : ∀ {d e : D} {x y : V} {u v : Value} {b : Bool}, d.ob = true → e.ob = true → d.dep ≤ n → RD X.K H d x → RD X.K H e y → RelV x u → RelV y v → cmpB d e = some b → RcLt A s u v b) :
   ∀ {ds es : List D} {xs ys : List V} {us vs : List Value} {b : Bool}, obs ds = true → obs es = true → deps ds ≤ n → RDs X.K H ds xs → RDs X.K H es ys → Vals xs us → Vals ys vs → cmpBs ds es = some b → LexR A s us vs b
 | [], [], _, _, _, _, b, _, _, _, r1, r2, q1, q2, h => by
   simp only [RDs] at r1 r2; subst r1; subst r2
   cases q1; cases q2
   simp only [cmpBs, Option.some.injEq] at h; subst h
   exact .nn
 | [], e :: es, _, _, _, _, b, _, _, _, r1, r2, q1, q2, h => by
   simp only [RDs] at r1 r2; subst r1
   obtain ⟨y, ys, rfl, _, _⟩ := r2
   cases q1; cases q2
   simp only [cmpBs, Option.some.injEq] at h; subst h
   exact .nc
 | d :: ds, [], _, _, _, _, b, _, _, _, r1, r2, q1, q2, h => by
   simp only [RDs] at r1 r2; subst r2
   obtain ⟨y, ys, rfl, _, _⟩ := r1
   cases q1; cases q2
   simp only [cmpBs, Option.some.injEq] at h; subst h
   exact .cn
 | d :: ds, e :: es, _, _, _, _, b, p1, p2, hd, r1, r2, q1, q2, h => by
   simp only [RDs] at r1 r2
   obtain ⟨x, xs, rfl, rx, rxs⟩ := r1
   obtain ⟨y, ys, rfl, ry, rys⟩ := r2
   simp only [obs, Bool.and_eq_true] at p1 p2
   simp only [deps] at hd
   cases q1 with
   | cons a1 a2 =>
     cases q2 with
     | cons b1 b2 =>
       have eq := eqAt_D (A := A) I n (ob_pl p1.1) (ob_pl p2.1) (by omega) hu rx ry a1 b1
       simp only [cmpBs] at h
       split at h
       . rename_i w
         rw [w] at eq
         exact .eq eq (lexR_B I hu lt p1.2 p2.2 (by omega) rxs rys a2 b2 h)
       . rename_i w
         rw [show eqD d e = false by simpa using w] at eq
         exact .lt eq (lt p1.1 p2.1 (by omega) rx ry a1 b1 h)
theorem zad {d e : D} {b : Bool} (h : cmpB d e = some b) : (∃ i j, d = .int i ∧ e = .int j ∧ b = decide (i < j)) ∨ (∃ p q, d = .bl p ∧ e = .bl q ∧ b = decide (b2i p < b2i q)) ∨ ∃ ds es, d = .tup ds ∧ e = .tup es ∧ cmpBs ds es = some b := by
 cases d with
 | int i => cases e with
   | int j => exact .inl ⟨_, _, rfl, rfl, (Option.some.inj h).symm⟩
   | _ => exact nomatch h
 | bl p => cases e with
   | bl q => exact .inr (.inl ⟨_, _, rfl, rfl, (Option.some.inj h).symm⟩)
   | _ => exact nomatch h
 | tup ds => cases e with
   | tup es => exact .inr (.inr ⟨_, _, rfl, rfl, h⟩)
   | _ => exact nomatch h
 | _ => exact nomatch h
theorem rcLt_B (I : Inv X pins σ H s) : ∀ (n : Nat) {A : Around} {d e : D} {x y : V} {u v : Value} {b : Bool}, A.units + n < cLine → d.ob = true → e.ob = true → d.dep ≤ n → RD X.K H d x → RD X.K H e y → RelV x u → RelV y v → cmpB d e = some b → RcLt A s u v b := by
 have low : ∀ {A : Around} {d e : D} {x y : V} {u v : Value} {b : Bool}, RD X.K H d x → RD X.K H e y → RelV x u → RelV y v → ((∃ i j, d = .int i ∧ e = .int j ∧ b = decide (i < j)) ∨ (∃ p q, d = .bl p ∧ e = .bl q ∧ b = decide (b2i p < b2i q))) → RcLt A s u v b := by
   intro A d e x y u v b rx ry ru rv h
   rcases h with ⟨i, j, rfl, rfl, rfl⟩ | ⟨p, q, rfl, rfl, rfl⟩
   . cases rx.int; cases ry.int
     obtain ⟨t, rfl⟩ := ru; obtain ⟨t', rfl⟩ := rv
     exact fun prog w E Q q => HT.rcLt_int A s _ _ _ _ prog w E Q q
   . cases rx.bl; cases ry.bl
     obtain rfl : _ = Value.bool p := ru
     obtain rfl : _ = Value.bool q := rv
     exact fun prog w E Q q => PyProof.Rows.lt_bool q
 intro n
 induction n with
 | zero =>
   intro A d e x y u v b hu p1 p2 hd rx ry ru rv h
   rcases zad h with z | z | ⟨ds, es, rfl, rfl, h⟩
   . exact low rx ry ru rv (.inl z)
   . exact low rx ry ru rv (.inr z)
   . simp only [D.dep] at hd; omega
 | succ n ih =>
   intro A d e x y u v b hu p1 p2 hd rx ry ru rv h
   rcases zad h with z | z | ⟨ds, es, rfl, rfl, h⟩
   . exact low rx ry ru rv (.inl z)
   . exact low rx ry ru rv (.inr z)
   . obtain ⟨a, xs, rfl, ha, ra⟩ := rx.tup
     obtain ⟨c, ys, rfl, hc, rc⟩ := ry.tup
     cases ru; cases rv
     obtain ⟨its, r1, t1⟩ := I.tupA ha
     obtain ⟨its2, r2, t2⟩ := I.tupA hc
     simp only [D.dep] at hd
     simp only [D.ob] at p1 p2
     have hu1 : A.in1.units + n < cLine := by show A.units + 1 + n < cLine; omega
     exact RcLt.tuples t1 t2 (lexR_B I hu1 (fun {d e x y u v b} q1 q2 q3 q4 q5 q6 q7 q8 => ih hu1 q1 q2 q3 q4 q5 q6 q7 q8) p1 p2 (by omega) ra rc r1 r2 h) (by omega)
end
def dLtB : D → D → Option D := fun d e => if d.ob = true ∧ e.ob = true ∧ d.dep ≤ 20 then (cmpB d e).map D.bl else none
def rLtB (K : PySem.W.Frag) : R2 := fun x y H Q => ∃ d e b, RD K H d x ∧ RD K H e y ∧ d.ob = true ∧ e.ob = true ∧ d.dep ≤ 20 ∧ cmpB d e = some b ∧ Q (.bl b) H
theorem o_ltB {X : Cx} (hu : X.A.units + 64 < cLine) : OpR X (compareOp .Lt) (rLtB X.K) := by
 intro pins s σ H x y v u Q I rx ry h
 obtain ⟨d, e, b, h1, h2, p1, p2, h3, h4, q⟩ := h
 exact rcLt_B I 20 (by omega) p1 p2 h3 h1 h2 rx ry h4 X.prog X.w X.xe _ ⟨.bl _, H, I, rfl, q⟩
theorem od_ltB {K : PySem.W.Frag} : OpD K false dLtB (rLtB K) := by
 intro H0 H x y d e z Q s rx ry ho k
 unfold dLtB at ho
 split at ho
 . rename_i h
   cases hc : cmpB d e with
   | none => rw [hc] at ho; cases ho
   | some b =>
     rw [hc] at ho; cases ho
     exact ⟨d, e, b, rx.mono s, ry.mono s, h.1, h.2.1, h.2.2, hc, k _ H (.pure s (.mkBl _))⟩
 . cases ho
mutual
def nkD : D → Option NK
 | .int n => some (.i n)
 | .tup ds => (nksD ds).map .t
 | _ => none
def nksD : List D → Option (List NK)
 | [] => some []
 | d :: ds => match nkD d, nksD ds with
   | some k, some ks => some (k :: ks)
   | _, _ => none
end
mutual
theorem nkD_rd {K : PySem.W.Frag} {H : Hp} : ∀ {d : D} {k : NK} {x : V}, nkD d = some k → RD K H d x → NKr H k x
 | .int n, k, x, e, r => by
   simp only [nkD, Option.some.injEq] at e; subst e
   cases r.int; simp only [NKr]
 | .tup ds, k, x, e, r => by
   simp only [nkD, Option.map_eq_some_iff] at e
   obtain ⟨ks, e, rfl⟩ := e
   obtain ⟨a, xs, rfl, ha, ra⟩ := r.tup
   simp only [NKr]
   exact ⟨a, xs, rfl, ha, z16e e ra⟩
 | .non, _, _, e, _ => by simp [nkD] at e
 | .bl _, _, _, e, _ => by simp [nkD] at e
 | .str _, _, _, e, _ => by simp [nkD] at e
 | .lst _, _, _, e, _ => by simp [nkD] at e
 | .dk _ _, _, _, e, _ => by simp [nkD] at e
 | .dt _ _, _, _, e, _ => by simp [nkD] at e
 | .dn _ _, _, _, e, _ => by simp [nkD] at e
 | .scr _, _, _, e, _ => by simp [nkD] at e
 | .exc _, _, _, e, _ => by simp [nkD] at e
theorem z16e {K : PySem.W.Frag} {H : Hp} : ∀ {ds : List D} {ks : List NK} {xs : List V}, nksD ds = some ks → RDs K H ds xs → NKrs H ks xs
 | [], ks, xs, e, r => by
   simp only [nksD, Option.some.injEq] at e; subst e
   simp only [RDs] at r; subst r; simp only [NKrs]
 | d :: ds, ks, xs, e, r => by
   simp only [RDs] at r
   obtain ⟨x, r, rfl, r1, r2⟩ := r
   simp only [nksD] at e
   split at e
   . rename_i k ks' e1 e2
     cases e
     simp only [NKrs]
     exact ⟨x, _, rfl, nkD_rd e1 r1, z16e e2 r2⟩
   . cases e
end
noncomputable def putQ (qs : List (NK × Addr)) (k : NK) (b : Addr) : List (NK × Addr) := if k ∈ qs.map (·.1) then qs else qs ++ [(k, b)]
def z3 (qs : List (NK × Addr)) (vs : List Value) : List (NK × Addr × Value) := (qs.zip vs).map fun q => (q.1.1, q.1.2, q.2)
theorem z3_fst : ∀ (qs : List (NK × Addr)) (vs : List Value), qs.length = vs.length → (z3 qs vs).map (·.1) = qs.map (·.1)
 | [], _, _ => rfl
 | q :: qs, [], h => by simp at h
 | q :: qs, v :: vs, h => by
   have := z3_fst qs vs (by simpa using h)
   simp only [z3, List.zip_cons_cons, List.map_cons] at this ⊢
   rw [this]
theorem z3_len (qs : List (NK × Addr)) (vs : List Value) (h : qs.length = vs.length) : (z3 qs vs).length = qs.length := by
 simp only [z3, List.length_map, List.length_zip]; omega
theorem z1dc {α : Type} (xs : List (NK × Addr × α)) (k : NK) : ((xs.find? fun x => decide (x.1 = k)).map (·.2)).isSome = decide (k ∈ xs.map (·.1)) := by
 rw [Option.isSome_map, Bool.eq_iff_iff, List.find?_isSome, decide_eq_true_eq, List.mem_map]
 constructor
 . rintro ⟨x, hx, e⟩; exact ⟨x, hx, by simpa using e⟩
 . rintro ⟨x, hx, e⟩; exact ⟨x, hx, by simpa using e⟩
theorem z3_put (qs : List (NK × Addr)) (vs : List Value) (h : qs.length = vs.length) (k : NK) (b : Addr) (u : Value) : storedH (z3 qs vs) k b u = z3 (putQ qs k b) (putV (qs.map (·.1)) vs k u) ∧ (putQ qs k b).length = (putV (qs.map (·.1)) vs k u).length := by
 unfold storedH putQ putV
 have e := z1dc (z3 qs vs) k
 rw [z3_fst qs vs h] at e
 rw [show (atKey (z3 qs vs) k).isSome = decide (k ∈ qs.map (·.1)) from e]
 by_cases hk : k ∈ qs.map (·.1)
 . rw [if_pos (decide_eq_true hk), if_pos hk, if_pos hk]
   have go : ∀ (qs : List (NK × Addr)) (vs : List Value), qs.length = vs.length → (z3 qs vs).map (putAt k u) = z3 qs (List.zipWith (fun k' d' => if k' = k then u else d') (qs.map (·.1)) vs) ∧ qs.length = (List.zipWith (fun k' d' => if k' = k then u else d') (qs.map (·.1)) vs).length := by
     intro qs
     induction qs with
     | nil => intro vs _; exact ⟨rfl, rfl⟩
     | cons q qs ih =>
       intro vs h
       cases vs with
       | nil => simp at h
       | cons v vs =>
         obtain ⟨i1, i2⟩ := ih vs (by simpa using h)
         simp only [z3, List.zip_cons_cons, List.map_cons, List.zipWith_cons_cons, List.length_cons] at i1 i2 ⊢
         refine ⟨?_, by omega⟩
         rw [i1]
         congr 1
         unfold putAt
         by_cases z : q.1 = k
         . simp only [if_pos z]
         . simp only [if_neg z]
   exact go qs vs h
 . rw [if_neg (by simpa using hk), if_neg hk, if_neg hk]
   refine ⟨?_, by simp; omega⟩
   unfold z3
   rw [List.zip_append h, List.map_append]; rfl
section
variable {X : Cx} {pins : List (Addr × Obj)} {σ : St} {H : Hp} {s : Shared}
theorem z144 {ks : List NK} {k : NK} {v : V} {u : Value} (ru : RelV v u) {xs : List V} {vs : List Value} (r : Vals xs vs) : Vals (putV ks xs k v) (putV ks vs k u) := by
 unfold putV
 split
 . have go : ∀ (ks : List NK) (xs : List V) (vs : List Value), Vals xs vs → Vals (List.zipWith (fun k' d' => if k' = k then v else d') ks xs) (List.zipWith (fun k' d' => if k' = k then u else d') ks vs) := by
     intro ks
     induction ks with
     | nil => intro xs vs _; exact .nil
     | cons k' ks ih =>
       intro xs vs r
       cases r with
       | nil => exact .nil
       | cons a1 a2 =>
         simp only [List.zipWith_cons_cons]
         refine .cons ?_ (ih _ _ a2)
         split
         . exact ru
         . exact a1
   exact go ks xs vs r
 . exact r.append (.cons ru .nil)
theorem z16f (I : Inv X pins σ H s) {a : Addr} {qs : List (NK × Addr)} {xs : List V} (e : H a = some (.ext (dnP a qs xs))) (n : DN H a qs) : ∃ vs, Vals xs vs ∧ qs.length = vs.length ∧ Heap.DictOfH (deepKind X.prog X.w) s.heap a (z3 qs vs) := by
 obtain ⟨p, _, _⟩ := (show ObjOk X.prog X.w H s.heap a (.ext (dnP a qs xs)) from I.hok a _ e)
 obtain ⟨vs, o, es, ep, p1, p2, p3, p4, p5, p6⟩ := p
 refine ⟨vs, p1, p2, o, es, ep, p3, p4, p5, p6, fun x hx => ?_, by rw [z3_fst qs vs p2]; exact n.1⟩
 obtain ⟨q, hq, rfl⟩ := List.mem_map.mp hx
 have hq' := (List.of_mem_zip hq).1
 exact ⟨nk_of I (n.2.1 _ hq').1 rfl, (n.2.1 _ hq').2⟩
end
def rSetN : TSet := fun o i v H Q => ∃ (a : Addr) (qs : List (NK × Addr)) (xs : List V) (k : NK) (b : Addr), o = .ref a ∧ i = .ref b ∧ H a = some (.ext (dnP a qs xs)) ∧ DN H a qs ∧ NKr H k (.ref b) ∧ k.dep ≤ 8 ∧ qs.length < sizeLine ∧ Q (upd H a (.ext (dnP a (putQ qs k b) (putV (qs.map (·.1)) xs k v))))
theorem set_N {X : Cx} (hu : X.A.units + 64 < cLine) : PSet X rSetN := by
 intro pins s σ H o i v ov iv u Q I ro ri rv h
 obtain ⟨a, qs, xs, k, b, rfl, rfl, e, n, hk, hd, hl, q⟩ := h
 cases ro; cases ri
 obtain ⟨vs, p1, p2, dd⟩ := z16f I e n
 have hz : (z3 qs vs).length ≤ sizeLine := by rw [z3_len qs vs p2]; omega
 refine wpAny_setItem_heap (knd := deepKind X.prog X.w) (hsz := hz) (by show X.A.units + 1 + 8 < cLine; omega) ⟨nk_of I hk rfl, hd⟩ dd fun h' dd' hs => ⟨_, ?_, q⟩
 obtain ⟨e1, e2⟩ := z3_put qs vs p2 k b u
 rw [e1] at dd'
 obtain ⟨o', es, ep, d1, d2, d3, d4, _⟩ := dd'
 exact zd5 I (by rw [e]; exact True.intro) hs ⟨o', d1⟩ ⟨⟨_, o', es, ep, z144 rv p1, e2, d1, d2, d3, d4⟩, ⟨o', d1⟩, dnP.stay⟩
noncomputable def dSetN : D → D → D → Option D
 | .dn ks ds, .tup es, v => match nkD (.tup es) with
   | some k => if ks.length < 100000 ∧ k.dep ≤ 8 then some (.dn (putKs ks k) (putV ks ds k v)) else none
   | none => none
 | _, _, _ => none
theorem z1dd {K : PySem.W.Frag} : SetD K dSetN rSetN := by
 intro H0 H a d d' dk dv y v Q s h0 ob rk rv hm k
 cases d <;> simp only [dSetN] at hm <;> first | cases hm | skip
 cases dk <;> simp only [dSetN] at hm <;> first | cases hm | skip
 rename_i ks ds es
 split at hm
 . rename_i kk hkk
   split at hm
   . rename_i hl
     cases hm
     simp only [OB] at ob
     obtain ⟨qs, xs, hx, hk, n, rx⟩ := ob
     have rk' := rk
     obtain ⟨b, ys, rfl, hb, rb⟩ := rk.tup
     have nk := nkD_rd hkk rk'
     have hlen : qs.length = ks.length := by rw [← hk, List.length_map]
     have mono : ∀ a ys, H0 a = some (.tup ys) → H a = some (.tup ys) := fun c ys q => s _ _ q
     refine ⟨a, qs, xs, kk, b, rfl, rfl, hx, n.tk mono, NKr.mono mono nk, hl.2, by rw [hlen]; exact z3c hl.1, k _ ?_⟩
     simp only [OB]
     refine ⟨_, _, z8, ?_, ?_, by rw [hk]; exact zdc kk rv rx⟩
     . unfold putQ putKs
       rw [hk]
       split
       . exact hk
       . rw [List.map_append, hk]; rfl
     . obtain ⟨n1, n2, n3, n4⟩ := n
       unfold putQ
       split
       . exact ⟨n1, n2, n3, n4⟩
       . rename_i hn
         refine ⟨?_, fun q hq => ?_, n3, ?_⟩
         . rw [List.map_append, List.map_cons, List.map_nil]
           exact List.nodup_append.mpr ⟨n1, by simp, fun x hx y hy e => hn (by rw [List.mem_singleton.mp hy] at e; have e' : x = kk := e; rw [← e']; exact hx)⟩
         . rcases List.mem_append.mp hq with z | z
           . exact n2 q z
           . rw [List.mem_singleton.mp z]; exact ⟨nk, hl.2⟩
         . have := z3c hl.1
           rw [List.length_append, List.length_singleton]; omega
   . cases hm
 . cases hm
section
variable {X : Cx} {EX : XW} {fr : Bool} {m : List Bool} {pos : Pos} {e : Expr} {fk fv : DE → R D}
theorem s_setN {i : Nat} {o ix : Expr} {tpos : Pos} (hu : X.A.units + 64 < cLine) (ho : PE X o (cVar i)) (hk : QE X EX false ix fk) (hv : QE X EX false e fv)
   (ha : ∀ v, assign (.Subscript o ix tpos) X.env v = (do
     let ov ← holding [v] (eval o X.env)
     let iv ← holding [v, ov] (eval ix X.env)
     standAt tpos
     holding [v, ov, iv] (setItem ov iv v)
     release [v, ov, iv] []) := by intro _; rfl) (hs : swapsWithSole [.Subscript o ix tpos] e pos.line X.env = pure false := by rfl) (hw : swappedStores [.Subscript o ix tpos] e X.env = pure none := by rfl)
   (h1 : (assignEach [.Subscript o ix tpos] X.env).map (·.2) = [assign (.Subscript o ix tpos) X.env] := by rfl) : QS X EX fr (.Assign [.Subscript o ix tpos] e pos) (sSet dSetN i m fk fv) := ⟨(ps_asg hv.h (pg_sub ho hk.h (set_N hu) ha) hs hw h1).imp fun _ _ _ q => d_set z1dd q⟩
def eNewN : DE → R D := fun _ => .ok (.dn [] [])
theorem pe_dnewN : PE X (.Dict [] [] pos) (fun _ H Q => ∀ p, H p = none → (p == sysModules) = false → Q (.ref p) (upd H p (.ext (dnP p [] [])))) := fun pins s σ H Q I h =>
 wpAny_Dict_empty ⟨.ref s.heap.objs.size, _, I.laid (a := s.heap.objs.size) (o := .ext (dnP s.heap.objs.size [] [])) (t' := s.toks) (fun _ _ q => Heap.get?_push_of_some _ q) (Nat.le_refl _) ⟨⟨[], _, #[], 0, .nil, rfl, Heap.get?_push_size _ rfl, ⟨rfl, rfl, rfl⟩, rfl, rfl⟩, ⟨_, Heap.get?_push_size _ rfl⟩, dnP.stay⟩, rfl, h _ (I.hok.fresh (Nat.le_refl _)) (beq_eq_false_iff_ne.mpr (Ne.symm (Nat.ne_of_lt I.big)))⟩
theorem q_newN : QE X EX true (.Dict [] [] pos) eNewN := ⟨pe_dnewN.imp fun σ H Q ⟨sx, ρ, H0, s, e, h⟩ p hp hq => h _ _ (.new s hp fun H' hH => by simp only [OB]; exact ⟨[], [], hH, rfl, ⟨List.nodup_nil, fun q hq => (by simp at hq), hq, Nat.zero_le _⟩, .nil⟩)⟩
end
def CMulG (i j : Int) : Prop := Builtin.Int.intBits i ≤ 2 ^ 20 ∧ Builtin.Int.intBits j ≤ 2 ^ 20
instance (i j : Int) : Decidable (CMulG i j) := by unfold CMulG; infer_instance
section
open PySem.SeqAt
open PySem.AutoSeq1 (wpAny_loadPart')
open PySem.MeetsSeq PySem.MeetsSeq2 PySem.MeetsSeq3
theorem z197 (l b : Addr) (items items2 : Array Value) (n n2 : Nat) (dd dd2 : Option Addr) (sl sl2 : Array (Option Value)) (r : Bool) (k : Nat) :
   ∀ i : Nat, items.size - i = k → i ≤ items.size → i ≤ items2.size → Meets (Builtin.«list.__eq__.loop» ⟨[.ref l, .ref b, rawInt i, rawInt 0], []⟩)
     (fun A R s => s.heap.get? l = some { cls := .type "list", dict := dd, data := .seq items n, slots := sl } ∧ s.heap.get? b = some { cls := .type "list", dict := dd2, data := .seq items2 n2, slots := sl2 } ∧
       LexR A.in1 s (items.toList.drop i) (items2.toList.drop i) r ∧ R (.ok (.ret (.bool r))) s) := by
 induction k with
 | zero =>
   intro i hk hi hi2 prog w A R s h
   obtain ⟨hp, g, d, tk, os⟩ := s; obtain ⟨hl, hb, hL, h⟩ := h
   wp_walk using wpAny_loadPart' hl, wpAny_loadPart' hb
   have hi1 : items[((i : Nat) : Int).toNat]? = none := by simp; omega
   have hd : items.toList.drop i = [] := by simp; omega
   rw [hd] at hL
   rw [hi1]
   wp_walk using wpAny_loadPart' hl, wpAny_loadPart' hb
   show R (.ok (.ret (.bool (decide (items.size < items2.size))))) _
   have e : r = decide (items.size < items2.size) := by
     generalize hw : items2.toList.drop i = ws at hL
     have hlen : ws.length = items2.size - i := by rw [← hw]; simp
     cases hL with
     | nn => rw [List.length_nil] at hlen; exact (decide_eq_false (by omega)).symm
     | nc => rw [List.length_cons] at hlen; exact (decide_eq_true (by omega)).symm
   rw [← e]; exact h
 | succ k ih =>
   intro i hk hi hi2 prog w A R s h
   obtain ⟨hp, g, d, tk, os⟩ := s; obtain ⟨hl, hb, hL, h⟩ := h
   have hlt : i < items.size := by omega
   have hi1 : items[((i : Nat) : Int).toNat]? = some items[i] := by simp [hlt]
   have hd : items.toList.drop i = items[i] :: items.toList.drop (i + 1) := by rw [List.drop_eq_getElem_cons (by simpa using hlt)]; simp
   have hc : ((i : Int) + 1) = ((i + 1 : Nat) : Int) := by push_cast; rfl
   by_cases hlt2 : i < items2.size
   . have hi2' : items2[((i : Nat) : Int).toNat]? = some items2[i] := by simp [hlt2]
     have hd2 : items2.toList.drop i = items2[i] :: items2.toList.drop (i + 1) := by rw [List.drop_eq_getElem_cons (by simpa using hlt2)]; simp
     rw [hd, hd2] at hL
     wp_walk using wpAny_loadPart' hl, wpAny_loadPart' hb
     rw [hi1, hi2']
     generalize hx : items[i] = x at *
     generalize hy : items2[i] = y at *
     cases hL with
     | eq he hr =>
       refine wpAny_bind (he prog w _ _ ?_)
       wp_walk
       rw [hc]
       exact ⟨plainId_quiet plain_eq_loop _, codeAny_builtin entry_eq_loop (by
         rw [Around.under_plainId plain_eq_loop _]
         exact ih (i + 1) (by omega) (by omega) (by omega) prog w A R _ ⟨hl, hb, hr, h⟩)⟩
     | lt he hr =>
       refine wpAny_bind (he prog w _ _ ?_)
       wp_walk using wpAny_loadPart' hl, wpAny_loadPart' hb
       rw [hi1, hi2']
       have hri := hr prog w
       wp_walk using hri
       exact h
   . have hi2' : items2[((i : Nat) : Int).toNat]? = none := by simp; omega
     have hd2 : items2.toList.drop i = [] := by simp; omega
     rw [hd, hd2] at hL
     wp_walk using wpAny_loadPart' hl, wpAny_loadPart' hb
     rw [hi1, hi2']
     wp_walk using wpAny_loadPart' hl, wpAny_loadPart' hb
     show R (.ok (.ret (.bool (decide (items.size < items2.size))))) _
     cases hL
     rw [decide_eq_false (by omega)]; exact h
theorem z145 (l b : Addr) (items items2 : Array Value) (n n2 : Nat) (dd dd2 : Option Addr) (sl sl2 : Array (Option Value)) (r : Bool) :
   Meets (Builtin.«list.__lt__» ⟨[.ref l, .ref b], []⟩)
     (fun A R s => s.heap.get? l = some { cls := .type "list", dict := dd, data := .seq items n, slots := sl } ∧ s.heap.get? b = some { cls := .type "list", dict := dd2, data := .seq items2 n2, slots := sl2 } ∧
       LexR A.in1 s items.toList items2.toList r ∧ R (.ok (.ret (.bool r))) s) := by
 intro prog w A R s h
 obtain ⟨hp, g, d, tk, os⟩ := s; obtain ⟨hl, hb, hL, h⟩ := h
 have f3 := AutoSeq1.sub_list_list
 wp_walk using wpAny_loadPart' hl, wpAny_loadPart' hb
 exact ⟨plainId_quiet plain_eq_loop _, codeAny_builtin entry_eq_loop (by
   rw [Around.under_plainId plain_eq_loop _]
   exact z197 l b items items2 n n2 dd dd2 sl sl2 r _ 0 rfl (Nat.zero_le _) (Nat.zero_le _) prog w A R _ ⟨hl, hb, hL, h⟩)⟩
end
section
variable {prog : Program} {w : World} {A : Around} {E : Value → Shared → Prop} {s : Shared}
theorem zed {l b : Addr} {items items2 : Array Value} {r : Bool} {Q : Bool → Shared → Prop} (hl : s.heap.IsList l items) (hb : s.heap.IsList b items2) (hL : LexR A.in1 s items.toList items2.toList r) (hu : A.units < cLine) (h : Q r s) :
   wpAny (model prog w) A (keyLt' oneType' (.ref l) (.ref b)) Q E s := by
 rw [keyLt'_oneType, oneLt'_eq]
 simp only [if_true]
 refine wpAny_bind (wpAny_cRoomFor hu ?_)
 obtain ⟨⟨cls, dd, data, sl⟩, ho, hc, n, hd⟩ := id hl
 obtain ⟨⟨cls2, dd2, data2, sl2⟩, ho2, hc2, n2, hd2⟩ := id hb
 simp only at hc hd hc2 hd2
 subst hc hd hc2 hd2
 refine wpAny_bind (wpAny_callSpecialIfBound?_slot (T := "list") ⟨_, ho, rfl⟩ PySem.F.slot_list_lt (call_meets PySem.F.slot_list_lt ⟨_, ho, rfl⟩ PySem.F.entry_list_lt (PySem.F.args_list_lt_2 _ _) (z145 l b items items2 n n2 dd dd2 sl sl2 r) ⟨ho, ho2, hL, ?_⟩))
 exact wpAny_truthy_bool h
end
def toT : D → D
 | .lst ds => .tup ds
 | d => d
def toL : D → D
 | .tup ds => .lst ds
 | d => d
def isLI : D → Bool
 | .lst ds => ds.all isI
 | _ => false
def z72 : List D → Option D
 | [.lst ds] => if ds.length < 64 ∧ ds.all isLI = true then some (.lst ((sortT (ds.map toT)).map toL)) else none
 | _ => none
theorem z1de {d : D} (h : isLI d = true) : ∃ ns : List Int, d = L ns := by
 cases d <;> simp only [isLI] at h <;> first | cases h | skip
 rename_i ds
 have asInts : ∀ ds : List D, ds.all isI = true → ∃ ns : List Int, ds = ns.map D.int := by
   intro ds hI
   induction ds with
   | nil => exact ⟨[], rfl⟩
   | cons d ds ih =>
     simp only [List.all_cons, Bool.and_eq_true] at hI
     obtain ⟨ns, e⟩ := ih hI.2
     cases d <;> simp [isI] at hI
     exact ⟨_ :: ns, by rw [e]; rfl⟩
 obtain ⟨ns, e⟩ := asInts ds h
 exact ⟨ns, by rw [e]; rfl⟩
theorem allLI : ∀ {ds : List D}, ds.all isLI = true → ∃ xss : List (List Int), ds = xss.map L
 | [], _ => ⟨[], rfl⟩
 | d :: ds, h => by
   simp only [List.all_cons, Bool.and_eq_true] at h
   obtain ⟨xss, e⟩ := allLI h.2
   obtain ⟨ns, e1⟩ := z1de h.1
   exact ⟨ns :: xss, by rw [e, e1]; rfl⟩
def TuI (ns : List Int) : D := .tup (ns.map .int)
theorem z73 : ∀ ns : List Int, ois (ns.map D.int) = true ∧ deps (ns.map D.int) = 0
 | [] => by simp [ois, deps]
 | n :: ns => by
   have := z73 ns
   simp only [List.map_cons, ois, deps, D.oi, D.dep, this.1, this.2, Bool.and_self, Nat.max_self, and_self]
theorem oi_TuI (ns : List Int) : (TuI ns).oi = true := by simp only [TuI, D.oi]; exact (z73 ns).1
theorem z170 : ∀ xss : List (List Int), ois (xss.map TuI) = true
 | [] => by simp [ois]
 | x :: xss => by simp only [List.map_cons, ois, oi_TuI, z170 xss, Bool.and_self]
theorem ze5 : ∀ a b : List Int, ∃ r, cmpDs (a.map D.int) (b.map D.int) = some r
 | [], [] => ⟨_, rfl⟩
 | [], _ :: _ => ⟨_, rfl⟩
 | _ :: _, [] => ⟨_, rfl⟩
 | x :: a, y :: b => by
   simp only [List.map_cons, cmpDs]
   split
   . exact ze5 a b
   . exact ⟨_, rfl⟩
def z11c (K : PySem.W.Frag) : List V → Hp → VK → Prop := fun xs H Q => ∃ (p : Addr) (ys : List V) (xss : List (List Int)), xs = [.ref p] ∧ H p = some (.lst ys) ∧ RDs K H (xss.map L) ys ∧ xss.length < 64 ∧ ∀ (l : Addr) (is : List Nat), H l = none → (∀ i ∈ is, i < ys.length) → sortT (xss.map TuI) = is.map (fun i => (xss.map TuI).getD i (.int 0)) → Q (.ref l) (upd H l (.lst (is.map fun i => ys.getD i .non)))
theorem z11d {K : PySem.W.Frag} : CallD K true z72 (z11c K) := by
 intro H0 H xs ds z Q s r ho k
 unfold z72 at ho
 split at ho <;> first | cases ho | skip
 split at ho <;> cases ho
 rename_i es hok
 obtain ⟨xss, e⟩ := allLI hok.2
 subst e
 obtain ⟨x, rfl, q1⟩ := r.uno
 obtain ⟨p, ys, rfl, hp, ry⟩ := q1.lst
 refine ⟨p, ys, xss, rfl, s _ _ hp, ry.mono s, by simpa using hok.1, fun l is hl hi he => k _ _ (.new s hl fun H' hH => ?_)⟩
 simp only [OB]
 refine ⟨_, hH, ?_⟩
 have hlen := ry.length
 rw [List.map_map, show toT ∘ L = TuI from rfl, he, List.map_map]
 have : is.map (toL ∘ fun i => (xss.map TuI).getD i (.int 0)) = is.map fun i => (xss.map L).getD i (.int 0) := List.map_congr_left fun i hi' => by
   have hb : i < xss.length := by have := hi i hi'; rw [← hlen, List.length_map] at this; exact this
   simp only [Function.comp, List.getD_eq_getElem?_getD, List.getElem?_map, List.getElem?_eq_getElem hb, Option.map_some, Option.getD_some]
   rfl
 rw [this]
 exact ry.pick hi
section
variable {X : Cx} {pins : List (Addr × Obj)} {σ : St} {H : Hp} {s : Shared}
theorem z1df {ns : List Int} {y : V} {u : Value} (I : Inv X pins σ H s) (r : RD X.K H (L ns) y) (ru : RelV y u) : ∃ (a : Addr) (its : List Value), u = .ref a ∧ s.heap.IsList a its.toArray ∧ Vals (ns.map V.int) its := by
 obtain ⟨a, xs, rfl, ha, rs⟩ := r.lst
 cases ru
 have ex : xs = ns.map V.int := z66 (z41 ns) rs
 subst ex
 obtain ⟨its, rv, pl, hz⟩ := I.list (.of ha)
 exact ⟨a, its, rfl, pl.isList, rv⟩
theorem z146 (hc : X.calm = true) (hu : X.A.units + 64 < cLine) : CallR X (.builtin "sorted") (z11c X.K) := by
 intro pins s σ H xs us Q I r h
 obtain ⟨p, ys, xss, rfl, hp, rd, h64, k⟩ := h
 obtain ⟨u, rfl, ru⟩ := vals1 r
 cases ru
 obtain ⟨its, rv, pl, hz⟩ := I.list (.of hp)
 obtain ⟨m, hn, _⟩ := id I.loc
 have F := Att.fr_all hn
 have N := zb6 (g := Att.noObjs s.heap) (h := s.heap) (L := X.env.locals)
 have hl1 := rd.length
 rw [List.length_map] at hl1
 have hl2 := rv.length
 have hoi := z170 xss
 have fin : ∀ {D : Addr} {h' : Heap} {tk : Nat} {e : Nat} {is : List Nat}, (∀ i ∈ is, i < ys.length) → sortT (xss.map TuI) = is.map (fun i => (xss.map TuI).getD i (.int 0)) → Fr (Att.noObjs s.heap) X.env.locals h' m → News (Att.noObjs s.heap) X.env.locals h' ((D, seqObj "list" (is.map fun i => its.getD i Value.none).toArray e) :: allOf s X.env.locals) → s.heap.get? D = none →
     EP X pins σ Q (.ref D) { s with heap := h', toks := tk } := fun {D h' tk e is} hi he F' N' hD => by
   have hlen : (is.map fun i => ys.getD i .non).length ≤ sizeLine := by
     have e1 : is.length = xss.length := by have := congrArg List.length he; rw [List.length_map, (z16 _).length_eq, List.length_map] at this; exact this.symm
     rw [List.length_map, e1, hl1]; exact hz
   obtain ⟨HD, I'⟩ := I.frnew (tk := tk) (o := .lst (is.map fun i => ys.getD i .non)) hn F' N' hD ⟨hlen, _, e, rv.pick hi, (N' _ (.head _)).1⟩
   exact ⟨.ref D, _, I', rfl, k D is HD hi he⟩
 by_cases h2 : 2 ≤ its.length
 . refine PySem.W.kat_sorted F N pl.isList h2 (by omega) fun D e1 h' F' N' hlt => ?_
   have N'' : News (Att.noObjs s.heap) X.env.locals h' (allOf s X.env.locals) := fun p hp => N' p (.tail _ hp)
   have I' : Inv X pins σ H { s with heap := h' } := I.frn (tk := s.toks) hn F' N''
   have hDL : D ≠ X.env.locals := (N' _ (.head _)).2.1
   have hD : s.heap.get? D = none := by
     cases q : s.heap.get? D with
     | none => rfl
     | some o => exact absurd (hlt (D, o) (z57 hDL (Att.noObjs_get _ _) q)) (Nat.lt_irrefl _)
   have at' : ∀ i, i < its.length → ∃ (a : Addr) (vs : List Value), its.getD i Value.none = .ref a ∧ ({ s with heap := h' } : Shared).heap.IsList a vs.toArray ∧ Vals ((xss.getD i []).map V.int) vs := fun i hi => by
     have r1 := rd.getD (i := i) (by omega)
     rw [show (xss.map L).getD i (.int 0) = L (xss.getD i []) by
       rw [List.getD_eq_getElem?_getD, List.getD_eq_getElem?_getD, List.getElem?_map, List.getElem?_eq_getElem (show i < xss.length by omega)]; rfl] at r1
     exact z1df I' r1 (rv.getD (by omega))
   have huu : X.A.in1.in1.units + 20 < cLine := by show X.A.units + 1 + 1 + 20 < cLine; omega
   refine PySem.W.kas_kind (T := .type "list") h2 (fun v hv => ?_) (by decide) (by decide) ?_
   . obtain ⟨i, hi, rfl⟩ := List.mem_iff_getElem.mp hv
     obtain ⟨a, vs, e, ⟨o, ho, hcl, _⟩, _⟩ := at' i hi
     rw [List.getD_eq_getElem?_getD, List.getElem?_eq_getElem hi, Option.getD_some] at e
     rw [e]
     have lk : PySem.W.Looks (model X.prog X.w) h' (typeOf (.ref a)) o.cls := (PySem.W.Looks.ld ho).andThen .now
     rw [hcl] at lk
     exact lk
   have h0 : 0 < its.length := by omega
   refine kas_go (n := its.length) (lt := ltI (xss.map TuI)) ?_ (z168 h0) ?_
   . intro i j C hi hj hC
     show wpAny (model X.prog X.w) X.A.in1.in1 (keyLt' _ (its.getD i Value.none) (its.getD j Value.none)) C _ _
     obtain ⟨a, vs, e1, l1, v1⟩ := at' i hi
     obtain ⟨c, ws, e2, l2, v2⟩ := at' j hj
     rw [e1, e2]
     obtain ⟨b, hb⟩ := ze5 (xss.getD i []) (xss.getD j [])
     have hbl : b = ltI (xss.map TuI) i j := by
       have : cmpD ((xss.map TuI).getD i (.int 0)) ((xss.map TuI).getD j (.int 0)) = some b := by
         rw [List.getD_eq_getElem?_getD, List.getD_eq_getElem?_getD, List.getElem?_map, List.getElem?_map, List.getElem?_eq_getElem (show i < xss.length by omega), List.getElem?_eq_getElem (show j < xss.length by omega)]
         rw [List.getD_eq_getElem?_getD, List.getD_eq_getElem?_getD, List.getElem?_eq_getElem (show i < xss.length by omega), List.getElem?_eq_getElem (show j < xss.length by omega)] at hb
         simp only [Option.map_some, Option.getD_some, TuI, cmpD] at hb ⊢
         exact hb
       exact cmp_lt this
     rw [← hbl] at hC
     have hu1 : X.A.in1.in1.in1.units + 1 < cLine := by show X.A.units + 1 + 1 + 1 + 1 < cLine; omega
     refine zed l1 l2 ?_ (by omega) hC
     exact lexR_D (n := 1) I' hu1 (fun {d e x y u v b} q1 q2 q3 q4 q5 q6 q7 q8 => rcLt_D I' 1 hu1 q1 q2 q3 q4 q5 q6 q7 q8) (z73 _).1 (z73 _).1 (by rw [(z73 _).2]; omega) (.ofInts _) (.ofInts _) v1 v2 hb
   . refine PySem.W.KasFin.intro F' N' (.head fun p hp => Nat.ne_of_lt (hlt p hp)) fun h'' c F3 N3 => ?_
     have hl3 : its.length = (xss.map TuI).length := by rw [List.length_map]; omega
     rw [hl3] at N3
     have pm := (z112 (z114 hoi) (n := (xss.map TuI).length) (by omega)).1
     refine fin (is := (runT (ltI (xss.map TuI)) (PySem.W.kas_sort (xss.map TuI).length)).toList) (fun i hi => ?_) (zab hoi (by omega)).symm F3 N3 hD
     have := pm.toList.mem_iff.mp hi
     simp at this
     omega
 . have hs1 : sortT (xss.map TuI) = xss.map TuI := by
     match xss, hl1, hl2 with
     | [], _, _ => rfl
     | [d], _, _ => rfl
     | _ :: _ :: _, a, b => simp at a; omega
   refine z6f pl.isList (by omega) ?_
   obtain ⟨e, he⟩ := sortedAll_at s.heap its ((pairsOf its).map (·.2))
   have kp : ∀ b o, s.heap.get? b = some o → (sortedAll s.heap its ((pairsOf its).map (·.2))).get? b = some o := fun b o q => sortedAll_old q
   have hout : (pairsOf its).map (·.2) = (List.map (fun i => its.getD i Value.none) (List.range its.length)).toArray := by
     have pz : ∀ l : List Value, l.length < 2 → (pairsOf l).map (·.2) = (List.map (fun i => l.getD i Value.none) (List.range l.length)).toArray := fun l hl => by
       match l, hl with
       | [], _ => simp [pairsOf]
       | [v], _ => simp [pairsOf]
       | _ :: _ :: _, z => simp at z; omega
     exact pz its (by omega)
   rw [hout] at he kp ⊢
   have hN := N.kept_cons F kp (Nat.le_succ _) he
   refine fin (is := List.range its.length) (fun i hi => by simp at hi; omega) ?_ (F.kept kp) hN (Heap.get?_none_of_le (Nat.le_succ _))
   rw [hs1]
   have hzl : (xss.map TuI).length = its.length := by rw [List.length_map]; omega
   clear fin k hs1 hoi
   generalize xss.map TuI = zs at hzl
   apply List.ext_getElem?
   intro i
   rw [List.getElem?_map]
   by_cases hi : i < its.length
   . rw [List.getElem?_range hi]
     simp [show i < zs.length by omega]
   . rw [List.getElem?_eq_none (show (List.range its.length).length ≤ i by simpa using hi), List.getElem?_eq_none (by omega)]; rfl
end
end L2
namespace L2
open PySem PySem.Spec PyProof.Rows
section
variable {X : Cx}
def dCatT : D → D → Option D
 | .tup ds, .tup es => if ds.length + es.length ≤ 100000 then some (.tup (ds ++ es)) else none
 | _, _ => none
def rCatU (K : PySem.W.Frag) : R2 := fun x y H Q => ∃ a b xs ys, x = .ref a ∧ y = .ref b ∧ SqT K H a xs ∧ SqT K H b ys ∧ xs.length + ys.length ≤ sizeLine ∧
 (xs = [] → Q (.ref b) H) ∧ (xs ≠ [] → ys = [] → Q (.ref a) H) ∧ (xs ≠ [] → ys ≠ [] → ∀ p, H p = none → Q (.ref p) (upd H p (.tup (xs ++ ys))))
theorem z1e0 : OpR X (binaryOp .Add) (rCatU X.K) := by
 intro pins s σ H x y v u Q I rx ry h
 obtain ⟨a, b, xs, ys, rfl, rfl, ha, hb, hz, q0, q1, q2⟩ := h
 by_cases hx : xs = []
 . cases rx
   cases ry
   obtain ⟨its, r1, p1, _⟩ := I.tuple ha
   obtain ⟨its2, r2, p2, _⟩ := I.tuple hb
   obtain ⟨⟨cls, dd, data, sl⟩, ho, hc, n, hd⟩ := id p1
   obtain ⟨⟨cls2, dd2, data2, sl2⟩, ho2, hc2, n2, hd2⟩ := id p2
   simp only at hc hd hc2 hd2
   subst hc hd hc2 hd2
   have he : its = [] := r1.nil_iff.mpr hx
   exact concat_meets ⟨_, ho, rfl⟩ ⟨_, ho2, rfl⟩ noFill_tuple_add seq_tuple_add PySem.F.slot_tuple_add PySem.F.entry_tuple_add (PySem.F.args_tuple_add_2 _ _)
     (tuple_addW0 a b its.toArray its2.toArray n n2 dd dd2 sl sl2 (by simp [he])) ⟨ho, ho2, ⟨.ref b, H, I, rfl, q0 hx⟩⟩
 . exact z1b5 pins s σ H _ _ v u Q I rx ry ⟨a, b, xs, ys, rfl, rfl, ha, hb, hx, hz, q1 hx, q2 hx⟩
theorem z1e1 {K : PySem.W.Frag} : OpD K false dCatT (rCatU K) := by
 intro H0 H x y d e z Q s rx ry ho k
 cases d <;> simp only [dCatT] at ho <;> first | cases ho | skip
 cases e <;> simp only [dCatT] at ho <;> first | cases ho | skip
 rename_i ds es
 split at ho <;> cases ho
 rename_i hl
 obtain ⟨a, xs, rfl, ha, ra⟩ := rx.tup
 obtain ⟨b, ys, rfl, hb, rb⟩ := ry.tup
 refine ⟨a, b, xs, ys, rfl, rfl, .of (s _ _ ha), .of (s _ _ hb), by rw [← ra.length, ← rb.length]; exact k100 hl, fun e => ?_, fun _ e => ?_, fun _ _ p hp => ?_⟩
 . have : ds = [] := by have := ra.length; rw [e] at this; exact List.eq_nil_of_length_eq_zero this
   subst this
   refine k _ _ (.pure s ?_)
   simp only [RD, List.nil_append]
   exact ⟨b, ys, rfl, hb, rb⟩
 . have : es = [] := by have := rb.length; rw [e] at this; exact List.eq_nil_of_length_eq_zero this
   subst this
   refine k _ _ (.pure s ?_)
   simp only [RD, List.append_nil]
   exact ⟨a, xs, rfl, ha, ra⟩
 . refine k _ _ (.val (Same.upd_new hp) (.new s hp) ?_)
   simp only [RD]
   have s0 : Same H0 (upd H0 p (.tup (xs ++ ys))) := Same.upd_new (s.none hp)
   exact ⟨p, xs ++ ys, rfl, z8, (ra.append rb).mono s0⟩
end
def eDisp2 (fa fx fb fy : DE → R D) : DE → R D := fun ρ => (fa ρ).bind fun a => (fx ρ).bind fun x => (fb ρ).bind fun b => (fy ρ).bind fun y => R.of (match keyD a, keyD b with
 | some k, some l => some (.dk (putKs [k] l) (putV [k] [x] l y))
 | _, _ => none)
section
variable {X : Cx} {EX : XW} {σ : St} {H : Hp} {Q : VK}
theorem z1e2 {K : PySem.W.Frag} {fa fx fb fy : DE → R D} (h : TEd K EX true (eDisp2 fa fx fb fy) σ H Q) : tDisp [(TEd K EX false fa, TEd K EX false fx), (TEd K EX false fb, TEd K EX false fy)] σ H Q := by
 obtain ⟨sx, ρ, H0, s, e, h⟩ := h
 intro p hp
 have sp : Same H (upd H p (.dK [])) := Same.upd_new hp
 have h0p := s.none hp
 unfold eDisp2 at h
 rw [Rk.bind] at h
 show TEd K EX false fa σ _ _
 refine TEd.go (sx.trans sp) (s.trans sp) e h fun a h v1 H1 H1' s1 e1 r1 => ?_
 rw [Rk.bind] at h
 refine TEd.go ((sx.trans sp).trans s1) e1.2.1 (e.mono e1.1) h fun x h v2 H2 H2' s2 e2 r2 => ?_
 rw [Rk.bind] at h
 have e12 := e1.trans s1 e2
 show TEd K EX false fb σ _ _
 refine TEd.go (((sx.trans sp).trans s1).trans s2) e2.2.1 (e.mono e12.1) h fun b h v3 H3 H3' s3 e3 r3 => ?_
 rw [Rk.bind] at h
 have e13 := e12.trans (s1.trans s2) e3
 refine TEd.go ((((sx.trans sp).trans s1).trans s2).trans s3) e3.2.1 (e.mono e13.1) h fun y h v4 H4 H4' s4 e4 r4 => ?_
 have e14 := e13.trans ((s1.trans s2).trans s3) e4
 have s14 : Same (upd H p (.dK [])) H4 := ((s1.trans s2).trans s3).trans s4
 obtain ⟨z, hz, h⟩ := h.of
 cases ka : keyD a with
 | none => simp only [ka] at hz; cases hz
 | some k =>
   cases kb : keyD b with
   | none => simp only [ka, kb] at hz; cases hz
   | some l =>
     simp only [ka, kb, Option.some.injEq] at hz
     subst hz
     cases za9 ka r1
     cases za9 kb r3
     refine ⟨s14 p _ z8, [(k, v2), (l, v4)], rfl, by simp, h _ _ ?_⟩
     have p4 : H4' p = none := e14.2.2 p (by rw [z8]; exact fun z => nomatch z) h0p
     refine .fresh (fun c o q => ?_) ⟨e14.1, fun c o q => ?_, fun c q1 q2 => e14.2.2 c (sp.ne q1) q2⟩ hp p4 ?_
     . have hc : c ≠ p := fun z => by rw [z, hp] at q; cases q
       rw [upd_ne hc]
       exact s14 c o (sp c o q)
     . have hc : c ≠ p := fun z => by rw [z, p4] at q; cases q
       rw [upd_ne hc]
       exact e14.2.1 c o q
     . simp only [OB]
       obtain ⟨q1, q2⟩ := zbf (ks := [k]) (xs := [v2]) l v4 rfl
       refine ⟨_, by rw [z8]; exact congrArg _ (congrArg _ q1), q2, zdc l r4 (RDs.one (r2.mono (e3.1.trans e4.1)))⟩
theorem z1e3 {a x b y : Expr} {pos : Pos} {fa fx fb fy : DE → R D} (ha : QE X EX false a fa) (hx : QE X EX false x fx) (hb : QE X EX false b fb) (hy : QE X EX false y fy) : QE X EX true (.Dict [some a, some b] [x, y] pos) (eDisp2 fa fx fb fy) :=
 ⟨(z1b8 (z100 ha.h hx.h (z100 hb.h hy.h z1b7)) rfl rfl (by simp) (by simp)).imp fun _ _ _ q => z1e2 q⟩
end
def sMutF (T : String) (mt : D → List D → Option D) (i : Nat) (m : List Bool) (f : DE → R D) : DS → SR := fun ρ => match ρ[i]? with
 | some (.ow d0) => if isT T d0 = true then (f (vis m ρ)).toS fun d => match (thaw (keeps true d) m ρ)[i]? with
   | some (.ow dx) => (R.of (mt dx [d])).toS fun d' => .nx ((thaw (keeps true d) m ρ).set i (.ow d'))
   | _ => .st
   else .st
 | _ => .st
section
variable {K : PySem.W.Frag} {EX : XW} {fr : Bool} {Hc Hb H0 H H' : Hp} {ρ : DS} {σ : St} {De : Ends} {m : List Bool}
theorem RS.seeF (R : RS K Hc Hb H0 ρ σ H) {d : D} {v : V} (a : Apt K true Hb H0 ρ σ H d v) : ∃ H1, RS K Hc Hb H1 ρ σ H ∧ RD K H1 d v := by
 unfold Apt at a
 rw [if_pos rfl] at a
 obtain ⟨p, rfl, h0, hb, ob, no⟩ := a
 obtain ⟨u, hu, _⟩ := ob.some
 have s0 : Same H0 (upd H0 p u) := Same.upd_new h0
 refine ⟨upd H0 p u, ⟨R.sb, ⟨R.ext.1.trans s0, fun c o q => ?_, fun c h1 h2 => ?_⟩, R.len, fun i d q => ?_, fun i d q => ?_, R.ap⟩, ob.rd s0 (by rw [z8, hu])⟩
 . by_cases hc : c = p
   . subst hc; rw [z8] at q; cases q; exact hu
   . rw [upd_ne hc] at q; exact R.ext.2.1 c o q
 . rw [upd_ne (fun z => h1 (by rw [z]; exact hb))]; exact R.ext.2.2 c h1 h2
 . obtain ⟨v, h1, h2⟩ := R.im i d q
   exact ⟨v, h1, h2.mono s0⟩
 . obtain ⟨c, h1, h2, h3, h4⟩ := R.ow i d q
   have hc : c ≠ p := fun z => no i d q (by rw [← z]; exact h1)
   exact ⟨c, h1, by rw [upd_ne hc]; exact h2, h3, h4.mono s0 (Same.refl _)⟩
theorem d_mutF {T : String} {mt : D → List D → Option D} {r : V → List V → Hp → VK → Prop} {i : Nat} {f : DE → R D} (hm : MutD K mt r) (hT : TyD K T) (h : TSd K EX fr (sMutF T mt i m f) De σ H) :
   tDrop (tBM K T r (cVar i) (tCons (TEd K EX true f) tNil)) De σ H := by
 obtain ⟨Hc, Hb, H0, ρ, sb, R, h⟩ := h
 unfold sMutF at h
 split at h
 . rename_i d0 q0
   split at h
   . rename_i hty
     rw [SK.toS] at h
     obtain ⟨a, h1, h2, h3, h4⟩ := R.ow i d0 q0
     unfold tDrop tBM cVar
     rw [h1]
     refine ⟨hT H0 H a d0 h4 hty, sb.trans R.sb, vis m ρ, HeOf m ρ σ H0 H, R.heH m, R.re m, h.mono fun d h v H' o => ?_⟩
     obtain ⟨H0n, R', apt⟩ := R.out o
     obtain ⟨H1n, R'', rd'⟩ := R'.seeF apt
     split at h
     . rename_i dx q
       rw [SK.toS] at h
       obtain ⟨d', hd', h⟩ := h.of
       obtain ⟨a', z1, z2, z3, z4⟩ := R''.ow i dx q
       rw [h1] at z1; cases z1
       exact hm H1n H' a dx d' [d] [v] _ R''.ext.2.1 z2 z4 (RDs.one rd') hd' fun v o ob => h σ _ H1n (R''.mutate q h1 ob)
     . exact h.elim
   . exact h.elim
 . exact h.elim
end
theorem s_mutF {X : Cx} {EX : XW} {fr : Bool} {e : Expr} {f : DE → R D} {pos : Pos} {m : List Bool} {T id : String} {name : Str} {i : Nat} {x : Str} {xp apos cpos : Pos} {mt : D → List D → Option D} {rr : V → List V → Hp → VK → Prop} (pa : PlainAttrs T) (slot : Slot T name id) (hty : typeOf (.builtin id) = pure (.type "method_descriptor")) (hm : MtM X id rr) (od : MutD X.K mt rr) (hT : TyD X.K T)
   (ho : PE X (.Name x xp) (cVar i)) (ha : QE X EX true e f)
   (hbase : attributeBase (.Name x xp) name X.env (eval (.Name x xp) X.env) = eval (.Name x xp) X.env := by rfl)
   (hfew : ((backTo cpos (starEach [e] X.env)).all (fun x => !x.1) && (backToKw cpos (keywordEach [] X.env)).all (fun x => x.1.isSome)
     && decide ([e].length + ([] : List Keyword).length + (if ([] : List Keyword).isEmpty then 0 else 1) < 30)) = true := by rfl)
   (hline : (apos.endLine == cpos.line) = true := by rfl) (hs : starEach [e] X.env = (false, eval e X.env) :: starEach [] X.env := by rfl) (hplain : (backTo cpos (starEach [] X.env)).any (·.1) = false := by rfl)
   (hsw : swapsWith (.Call (.Attribute (.Name x xp) name apos) [e] [] cpos) none pos.line X.env = pure false := by rfl) :
   QS X EX fr (.Expr (.Call (.Attribute (.Name x xp) name apos) [e] [] cpos) pos) (sMutF T mt i m f) := ⟨(zf4 (pe_bm pa slot hty hm ho (z9d ha.h pa_nil hs) hbase hfew hline hs hplain) hsw).imp fun _ _ _ q => d_mutF od hT q⟩
def dictO (es : Array DictEntry) (ep : Nat) : Obj := { cls := .type "dict", data := .dict es ep }
def keyItO (d : Addr) (i n ep : Nat) : Obj := { cls := .type "dict_keyiterator", data := .fields #[.ref d, .int i 0, .int n 0, .int ep 0] }
section
open PySem.SeqAt
open PySem.AutoSeq1 (wpAny_loadPart')
theorem m_iter (d : Addr) (es : Array DictEntry) (ep : Nat) (hd : (d == sysModules) = false) :
   Meets (Builtin.«dict.__iter__» ⟨[.ref d], []⟩) (fun _ R s => s.heap.get? d = some (dictO es ep) ∧ R (.ok (.ret (.ref s.heap.objs.size))) { s with heap := s.heap.push (keyItO d 0 es.size ep) }) :=
 .of_wp fun prog w A R s h => by
   obtain ⟨hp, g, dr, tk, os⟩ := s; obtain ⟨hl, h⟩ := h
   unfold dictO at hl
   wp_walk using wpAny_loadPart' hl
   exact ⟨_, rfl, h⟩
theorem m_item (it d : Addr) (es : Array DictEntry) (ep i : Nat) (hi : i < es.size) :
   Meets (Builtin.«dict_keyiterator.__next__» ⟨[.ref it], []⟩) (fun _ R s => s.heap.get? it = some (keyItO d i es.size ep) ∧ s.heap.get? d = some (dictO es ep) ∧
     R (.ok (.ret es[i].key)) { s with heap := s.heap.update it (Obj.mapFields (·.setIfInBounds 1 (rawInt ((i : Int) + 1)))) }) :=
 .of_wp fun prog w A R s h => by
   obtain ⟨hp, g, dr, tk, os⟩ := s; obtain ⟨hl, hd, h⟩ := h
   unfold dictO at hd
   unfold keyItO at hl
   have hsz : (((es.size : Int) != (es.size : Int)) = true) = False := by simp
   have hep : (((ep : Int) != (ep : Int)) = true) = False := by simp
   have hat : (if (i : Int) < 0 then none else es[((i : Nat) : Int).toNat]?) = some es[i] := by rw [if_neg (by omega)]; simp [hi]
   wp_walk using wpAny_loadPart' hl, wpAny_loadPart' hd
   rw [hat]
   wp_walk using wpAny_loadPart' hl, wpAny_loadPart' hd
   exact ⟨_, rfl, h⟩
theorem m_end (it d : Addr) (es : Array DictEntry) (ep i : Nat) (hi : es.size ≤ i) :
   Meets (Builtin.«dict_keyiterator.__next__» ⟨[.ref it], []⟩) (fun A R s => s.heap.get? it = some (keyItO d i es.size ep) ∧ s.heap.get? d = some (dictO es ep) ∧ A.in1.handled = none ∧
     ∀ h' e, (∀ c o, c ≠ it → s.heap.get? c = some o → h'.get? c = some o) → (∃ o, h'.get? e = some o ∧ o.cls = .type "StopIteration") → R (.error (.ref e)) { s with heap := h' }) :=
 .of_wp fun prog w A R s h => by
   obtain ⟨hp, g, dr, tk, os⟩ := s; obtain ⟨hl, hd, hh, h⟩ := h
   unfold dictO at hd
   unfold keyItO at hl
   have hsz : (((es.size : Int) != (es.size : Int)) = true) = False := by simp
   have hep : (((ep : Int) != (ep : Int)) = true) = False := by simp
   have hat : (if (i : Int) < 0 then none else es[((i : Nat) : Int).toNat]?) = none := by rw [if_neg (by omega)]; simp [hi]
   wp_walk using wpAny_loadPart' hl, wpAny_loadPart' hd
   rw [hat]
   wp_walk using wpAny_loadPart' hl, wpAny_loadPart' hd
   unfold raiseNew
   refine wpAny_bind (wpAny_handled ?_)
   rw [hh]
   refine wpAny_bind (wpAny_pure (wpAny_throw (h _ _ (fun c o hc e => ?_) ⟨_, Heap.get?_push_size _ rfl, rfl⟩)))
   refine Heap.get?_push_of_some _ (Heap.get?_push_of_some _ ?_)
   rw [Heap.get?_update_ne _ _ _ _ hc]
   exact e
end
section
variable {prog : Program} {w : World} {A : Around} {E : Value → Shared → Prop} {s : Shared} {d it : Addr} {es : Array DictEntry} {ep i : Nat}
theorem z147 {Q : Value → Shared → Prop} (lo : (d == sysModules) = false) (hm : s.heap.get? d = some (dictO es ep)) (hQ : Q (.ref s.heap.objs.size) { s with heap := s.heap.push (keyItO d 0 es.size ep) }) :
   wpAny (model prog w) A (pyIter (.ref d)) Q E s :=
 wpAny_pyIter_slot ⟨_, hm, rfl⟩ F.slot_dict_iter (call_meets F.slot_dict_iter ⟨_, hm, rfl⟩ F.entry_dict_iter (F.args_dict_iter_1 _) (m_iter d es ep lo)
   ⟨hm, ⟨"dict_keyiterator", _, ⟨_, Heap.get?_push_size _ rfl, rfl⟩, F.slot_dict_keyiterator_next.lookup, hQ⟩⟩)
theorem z198 {h : Heap} (hi : h.get? it = some (keyItO d i es.size ep)) : (h.update it (Obj.mapFields (·.setIfInBounds 1 (rawInt ((i : Int) + 1))))).get? it = some (keyItO d (i + 1) es.size ep) := by
 rw [Heap.get?_update_self _ hi rfl]
 simp [keyItO, Obj.mapFields, rawInt]
theorem z148 {Q : Option Value → Shared → Prop} (hit : s.heap.get? it = some (keyItO d i es.size ep)) (hm : s.heap.get? d = some (dictO es ep)) (hi : i < es.size)
   (hQ : Q (some es[i].key) { s with heap := s.heap.update it (Obj.mapFields (·.setIfInBounds 1 (rawInt ((i : Int) + 1)))) }) : wpAny (model prog w) A (pyNext (.ref it)) Q E s := by
 unfold pyNext
 exact wpAny_bind (wpAny_attempt (wpAny_callSpecial?_slot (name := Str.ofString "__next__") ⟨_, hit, rfl⟩ F.slot_dict_keyiterator_next
   (call_meets F.slot_dict_keyiterator_next ⟨_, hit, rfl⟩ F.entry_dict_keyiterator_next (F.args_dict_keyiterator_next_1 _) (m_item it d es ep i hi) ⟨hit, hm, wpAny_pure hQ⟩)))
theorem z199 {Q : Option Value → Shared → Prop} (hh : A.handled = none) (hit : s.heap.get? it = some (keyItO d i es.size ep)) (hm : s.heap.get? d = some (dictO es ep)) (hi : es.size ≤ i)
   (hQ : ∀ h', (∀ c o, c ≠ it → s.heap.get? c = some o → h'.get? c = some o) → Q none { s with heap := h' }) : wpAny (model prog w) A (pyNext (.ref it)) Q E s := by
 unfold pyNext
 refine wpAny_bind (wpAny_attempt (wpAny_callSpecial?_slot (name := Str.ofString "__next__") ⟨_, hit, rfl⟩ F.slot_dict_keyiterator_next
   (call_meets F.slot_dict_keyiterator_next ⟨_, hit, rfl⟩ F.entry_dict_keyiterator_next (F.args_dict_keyiterator_next_1 _) (m_end it d es ep i hi) ⟨hit, hm, hh, fun h' e kp he => ?_⟩)))
 obtain ⟨o, ho, hc⟩ := he
 exact wpAny_bind (wpAny_isInstance (T := "StopIteration") (b := true) ⟨o, ho, hc⟩ isSubtype_stop (wpAny_pure (hQ h' kp)))
theorem z11e (hh : A.handled = none) (I : Addr) (hne : d ≠ I) :
   Walks prog w A I [I, d] [I] es.size (fun i v => ∃ e, es[i]? = some e ∧ v = e.key) (fun i h => h.get? I = some (keyItO d i es.size ep) ∧ h.get? d = some (dictO es ep)) where
 sub := fun b hb => by simp at hb; simp [hb]
 frame := fun _ _ _ st kp => ⟨kp I (by simp) _ st.1, kp d (by simp) _ st.2⟩
 item := fun i s Q E hi st k => z148 st.1 st.2 hi (k _ _ s.toks ⟨es[i], by simp [hi], rfl⟩ ⟨z198 st.1, by rw [Heap.get?_update_ne _ _ _ _ hne]; exact st.2⟩ fun b o hb e => by
   rw [Heap.get?_update_ne _ _ _ _ (fun z => hb (by simp [z]))]; exact e)
 done := fun s Q E st k => z199 hh st.1 st.2 (Nat.le_refl _) fun h' kp => k h' s.toks fun b o hb e => kp b o (fun z => hb (by simp [z])) e
 self := fun _ _ _ _ st k => wpAny_pyIter_keyiter ⟨_, st.1, rfl, rfl⟩ k
theorem z19a (lo : (d == sysModules) = false) : PySem.W.KdlSrc prog w "dict" d d es.size (fun i v => ∃ e, es[i]? = some e ∧ v = e.key) (fun h => h.get? d = some (dictO es ep)) where
 type := fun _ hm => ⟨_, hm, rfl⟩
 there := fun _ hm => ⟨Heap.lt_size hm, Heap.lt_size hm⟩
 keep := fun _ _ hm kp => kp d (.inl rfl) _ hm
 notList := by decide
 notTuple := by decide
 hint := fun _ _ _ _ hm hq => PySem.W.kdl_hint_dict ⟨_, hm, rfl⟩ hq
 iter := fun _ _ hh hm => ⟨_, _, (fun _ _ hq => z147 lo hm hq), z11e hh _ (Nat.ne_of_lt (Heap.lt_size hm)), Heap.get?_push_size _ rfl, Heap.get?_push_of_some _ hm⟩
end
mutual
def dOfNK : NK → D
 | .i n => .int n
 | .t ks => .tup (dsOfNK ks)
def dsOfNK : List NK → List D
 | [] => []
 | k :: ks => dOfNK k :: dsOfNK ks
end
mutual
theorem nk_rd {K : PySem.W.Frag} {H : Hp} : ∀ {k : NK} {x : V}, NKr H k x → RD K H (dOfNK k) x
 | .i n, x, h => by simp only [NKr] at h; subst h; simp only [dOfNK, RD]
 | .t ks, x, h => by
   simp only [NKr] at h
   obtain ⟨a, xs, rfl, ha, hs⟩ := h
   simp only [dOfNK, RD]
   exact ⟨a, xs, rfl, ha, nks_rd hs⟩
theorem nks_rd {K : PySem.W.Frag} {H : Hp} : ∀ {ks : List NK} {xs : List V}, NKrs H ks xs → RDs K H (dsOfNK ks) xs
 | [], xs, h => by simp only [NKrs] at h; subst h; simp only [dsOfNK, RDs]
 | k :: ks, xs, h => by
   simp only [NKrs] at h
   obtain ⟨x, r, rfl, h1, h2⟩ := h
   simp only [dsOfNK, RDs]
   exact ⟨x, r, rfl, nk_rd h1, nks_rd h2⟩
end
def dListN : List D → Option D
 | [.dn ks _] => some (.lst (ks.map dOfNK))
 | _ => none
def rListN : List V → Hp → VK → Prop := fun xs H Q => ∃ (a : Addr) (qs : List (NK × Addr)) (ys : List V), xs = [V.ref a] ∧ H a = some (.ext (dnP a qs ys)) ∧ DN H a qs ∧ ∀ l, H l = none → Q (.ref l) (upd H l (.lst (qs.map fun q => V.ref q.2)))
theorem z19b {K : PySem.W.Frag} : CallD K true dListN rListN := by
 intro H0 H xs ds z Q s r ho k
 unfold dListN at ho
 split at ho <;> cases ho
 obtain ⟨x, rfl, q1⟩ := r.uno
 simp only [RD] at q1
 obtain ⟨a, qs, ys, rfl, h1, hk, n, ra⟩ := q1
 refine ⟨a, qs, ys, rfl, s _ _ h1, n.tk fun b ys q => s _ _ q, fun l hl => k _ _ (.new s hl fun H' hH => ?_)⟩
 simp only [OB]
 refine ⟨_, hH, ?_⟩
 rw [← hk, List.map_map]
 have key : ∀ qs : List (NK × Addr), (∀ q ∈ qs, NKr H0 q.1 (.ref q.2)) → RDs K H0 (qs.map (dOfNK ∘ fun x => x.1)) (qs.map fun q => V.ref q.2) := by
   intro qs
   induction qs with
   | nil => intro _; simp only [List.map_nil, RDs]
   | cons q qs ih =>
     intro h
     simp only [List.map_cons, RDs]
     exact ⟨_, _, rfl, nk_rd (h q (by simp)), ih fun p hp => h p (by simp [hp])⟩
 exact key qs fun q hq => (n.2.1 q hq).1
theorem z1e4 {X : Cx} (hc : X.calm = true) : CallR X (.type "list") rListN := by
 intro pins s σ H xs us Q I r h
 obtain ⟨a, qs, ys, rfl, ha, n, q⟩ := h
 obtain ⟨u, rfl, ru⟩ := vals1 r
 cases ru
 obtain ⟨vs, p1, p2, o, es, ep, d1, d2, d3, d4, _⟩ := z16f I ha n
 have hsz : es.size = qs.length := by rw [← Array.length_toList, d4, List.length_map, z3_len qs vs p2]
 have hz := n.2.2.2
 have d5 : s.heap.get? a = some (dictO es ep) := by
   rw [d1]
   obtain ⟨cl, di, da, sl⟩ := o
   obtain ⟨q1, q2, q3⟩ := d2
   simp only at q1 q2 q3 d3
   subst q1 q2 q3 d3
   rfl
 refine PySem.W.kdl_call (z19a (es := es) (ep := ep) n.2.2.1) (I.ok.hd hc) d5 (by rw [hsz]; exact hz) fun h' tk acc' c' kp hl hit => ?_
 have hl2 : acc'.size = qs.length := by rw [hit.1, hsz]
 have hv : Vals (qs.map fun q => V.ref q.2) acc'.toList := by
   refine z11b (by simp [hl2]) fun i x u hx hu => ?_
   rw [List.getElem?_map] at hx
   cases hq : qs[i]? with
   | none => rw [hq] at hx; cases hx
   | some p =>
     rw [hq] at hx
     cases hx
     obtain ⟨e, he, rfl⟩ := hit.2 i u (by simpa using hu)
     have : es.toList[i]? = some e := by simpa using he
     rw [d4, List.getElem?_map] at this
     have hz3 : (z3 qs vs)[i]? = some (p.1, p.2, vs.getD i Value.none) := by
       unfold z3
       rw [List.getElem?_map, (List.getElem?_zip_eq_some (z := (p, vs.getD i Value.none))).mpr ⟨hq, (by
         have hi : i < qs.length := (List.getElem?_eq_some_iff.mp hq).1
         show vs[i]? = some (vs.getD i Value.none)
         rw [List.getD_eq_getElem?_getD, List.getElem?_eq_getElem (by omega)]; rfl)⟩]
       rfl
     rw [hz3] at this
     cases this
     rfl
 exact ⟨.ref s.heap.objs.size, _, I.laid (t' := tk) (o := .lst (qs.map fun q => V.ref q.2)) kp (Nat.le_refl _) ⟨by rw [List.length_map]; exact hz, acc'.toList, c', hv, by rw [hl]⟩, rfl, q _ (I.hok.fresh (Nat.le_refl _))⟩
end L2
namespace L2
open PySem PySem.Spec PyProof.Rows
def zipO (TI TO : Addr) (f0 : Value) : Obj := { cls := .type "zip", data := .fields #[f0, .bool false, .bool false, .ref TI, .ref TO] }
def pairO (a b : Value) : Obj := { cls := .type "tuple", data := .seq #[a, b] }
def tupItO (l : Addr) (i : Nat) : Obj := { cls := .type "tuple_iterator", data := .fields #[.ref l, .int i 0] }
def lstItO (l : Addr) (i : Nat) : Obj := { cls := .type "list_iterator", data := .fields #[.ref l, .int i 0] }
abbrev up1 (i : Nat) : Obj → Obj := Obj.mapFields (·.setIfInBounds 1 (rawInt ((i : Int) + 1)))
def Gives (i : Addr) (x : Value) (f : Obj → Obj) (A : Around) (s : Shared) : Prop := ∀ (prog : Program) (w : World) (E : Value → Shared → Prop) (Q : Value → Shared → Prop), Q x { s with heap := s.heap.update i f } → wpAny (model prog w) A (Builtin.SmallTypes.nextOf (.ref i)) Q E s
def Ends_ (i : Addr) (A : Around) (s : Shared) : Prop := ∀ (prog : Program) (w : World) (E : Value → Shared → Prop) (Q : Value → Shared → Prop),
 (∀ h' e, (∀ c o, c ≠ i → s.heap.get? c = some o → h'.get? c = some o) → (∃ o, h'.get? e = some o ∧ o.cls = .type "StopIteration") → E (.ref e) { s with heap := h' }) → wpAny (model prog w) A (Builtin.SmallTypes.nextOf (.ref i)) Q E s
section
open PySem.SeqAt
open PySem.AutoSeq1 (wpAny_loadPart')
theorem z149 (it l : Addr) (items : Array Value) (i n : Nat) (dd : Option Addr) (sl : Array (Option Value)) (x : Value) (hx : items[i]? = some x) :
   Meets (Builtin.«tuple_iterator.__next__» ⟨[.ref it], []⟩) (fun _ R s => s.heap.get? it = some (tupItO l i) ∧ s.heap.get? l = some { cls := .type "tuple", dict := dd, data := .seq items n, slots := sl } ∧ R (.ok (.ret x)) { s with heap := s.heap.update it (up1 i) }) :=
 .of_wp fun prog w A R s h => by
   obtain ⟨hp, g, dr, tk, os⟩ := s; obtain ⟨hl, hd, h⟩ := h
   unfold tupItO at hl
   have hat : items[((i : Nat) : Int).toNat]? = some x := by simpa using hx
   wp_walk using wpAny_loadPart' hl, wpAny_loadPart' hd
   rw [hat]
   wp_walk using wpAny_loadPart' hl, wpAny_loadPart' hd
   exact ⟨_, rfl, h⟩
theorem z14a (it l : Addr) (items : Array Value) (i n : Nat) (dd : Option Addr) (sl : Array (Option Value)) (x : Value) (hx : items[i]? = some x) :
   Meets (Builtin.«list_iterator.__next__» ⟨[.ref it], []⟩) (fun _ R s => s.heap.get? it = some (lstItO l i) ∧ s.heap.get? l = some { cls := .type "list", dict := dd, data := .seq items n, slots := sl } ∧ R (.ok (.ret x)) { s with heap := s.heap.update it (up1 i) }) :=
 .of_wp fun prog w A R s h => by
   obtain ⟨hp, g, dr, tk, os⟩ := s; obtain ⟨hl, hd, h⟩ := h
   unfold lstItO at hl
   have hat : items[((i : Nat) : Int).toNat]? = some x := by simpa using hx
   wp_walk using wpAny_loadPart' hl, wpAny_loadPart' hd
   rw [hat]
   wp_walk using wpAny_loadPart' hl, wpAny_loadPart' hd
   exact ⟨_, rfl, h⟩
theorem z19c (it l : Addr) (items : Array Value) (i n : Nat) (dd : Option Addr) (sl : Array (Option Value)) (hx : items[i]? = none) :
   Meets (Builtin.«tuple_iterator.__next__» ⟨[.ref it], []⟩) (fun A R s => s.heap.get? it = some (tupItO l i) ∧ s.heap.get? l = some { cls := .type "tuple", dict := dd, data := .seq items n, slots := sl } ∧ A.in1.handled = none ∧
     ∀ h' e, (∀ c o, c ≠ it → s.heap.get? c = some o → h'.get? c = some o) → (∃ o, h'.get? e = some o ∧ o.cls = .type "StopIteration") → R (.error (.ref e)) { s with heap := h' }) :=
 .of_wp fun prog w A R s h => by
   obtain ⟨hp, g, dr, tk, os⟩ := s; obtain ⟨hl, hd, hh, h⟩ := h
   unfold tupItO at hl
   have hat : items[((i : Nat) : Int).toNat]? = none := by simpa using hx
   wp_walk using wpAny_loadPart' hl, wpAny_loadPart' hd
   rw [hat]
   wp_walk using wpAny_loadPart' hl, wpAny_loadPart' hd
   unfold raiseNew
   refine wpAny_bind (wpAny_handled ?_)
   rw [hh]
   refine wpAny_bind (wpAny_pure (wpAny_throw (h _ _ (fun c o hc e => ?_) ⟨_, Heap.get?_push_size _ rfl, rfl⟩)))
   refine Heap.get?_push_of_some _ (Heap.get?_push_of_some _ ?_)
   rw [Heap.get?_update_ne _ _ _ _ hc]
   exact e
theorem z14b {it l : Addr} {items : Array Value} {i : Nat} {x : Value} {A : Around} {s : Shared} (hit : s.heap.get? it = some (tupItO l i)) (hl : s.heap.IsTuple l items) (hx : items[i]? = some x) : Gives it x (up1 i) A s := fun prog w E Q q => by
 obtain ⟨⟨cl, dd, da, sl⟩, ho, hc, n, hd⟩ := hl
 simp only at hc hd
 subst hc hd
 unfold Builtin.SmallTypes.nextOf
 exact wpAny_bind (wpAny_callSpecial?_slot (name := Str.ofString "__next__") ⟨_, hit, rfl⟩ F.slot_tuple_iterator_next (call_meets F.slot_tuple_iterator_next ⟨_, hit, rfl⟩ F.entry_tuple_iterator_next (F.args_tuple_iterator_next_1 _) (z149 it l items i n dd sl x hx) ⟨hit, ho, wpAny_pure q⟩))
theorem z14c {it l : Addr} {items : Array Value} {i : Nat} {x : Value} {A : Around} {s : Shared} (hit : s.heap.get? it = some (lstItO l i)) (hl : s.heap.IsList l items) (hx : items[i]? = some x) : Gives it x (up1 i) A s := fun prog w E Q q => by
 obtain ⟨⟨cl, dd, da, sl⟩, ho, hc, n, hd⟩ := hl
 simp only at hc hd
 subst hc hd
 unfold Builtin.SmallTypes.nextOf
 exact wpAny_bind (wpAny_callSpecial?_slot (name := Str.ofString "__next__") ⟨_, hit, rfl⟩ slot_listiter_next (call_meets slot_listiter_next ⟨_, hit, rfl⟩ entry_listiter_next (args_listiter_next _) (z14a it l items i n dd sl x hx) ⟨hit, ho, wpAny_pure q⟩))
theorem z19d {it l : Addr} {items : Array Value} {i : Nat} {A : Around} {s : Shared} (hh : A.handled = none) (hit : s.heap.get? it = some (tupItO l i)) (hl : s.heap.IsTuple l items) (hx : items[i]? = none) : Ends_ it A s := fun prog w E Q q => by
 obtain ⟨⟨cl, dd, da, sl⟩, ho, hc, n, hd⟩ := hl
 simp only at hc hd
 subst hc hd
 unfold Builtin.SmallTypes.nextOf
 exact wpAny_bind (wpAny_callSpecial?_slot (name := Str.ofString "__next__") ⟨_, hit, rfl⟩ F.slot_tuple_iterator_next (call_meets F.slot_tuple_iterator_next ⟨_, hit, rfl⟩ F.entry_tuple_iterator_next (F.args_tuple_iterator_next_1 _) (z19c it l items i n dd sl hx) ⟨hit, ho, hh, q⟩))
def zH1 (hp : Heap) (z : Addr) : Heap := hp.update z (Obj.mapFields (·.setIfInBounds 0 .ellipsis))
def zH4 (hp : Heap) (z TO i1 i2 : Addr) (x : Value) (f1 f2 : Obj → Obj) : Heap := (((zH1 hp z).update i1 f1).update TO (Obj.mapSeq (·.setIfInBounds 0 x))).update i2 f2
def zHF (hp : Heap) (z TO i1 i2 : Addr) (x y : Value) (f1 f2 : Obj → Obj) : Heap := ((((zH4 hp z TO i1 i2 x f1 f2).update TO (Obj.mapSeq (·.setIfInBounds 1 y))).push (pairO x y)).update z (Obj.mapFields (·.setIfInBounds 0 (rawInt hp.objs.size)))).update z (Obj.mapFields (·.setIfInBounds 1 (.bool false)))
def Held (p : Prop) : Prop := p
theorem z14d (z TI TO i1 i2 : Addr) (a b x y : Value) (f1 f2 : Obj → Obj) (n2 : TO ≠ z) (n3 : TO ≠ i1) (n4 : TO ≠ i2) (n5 : i1 ≠ z) (n6 : i2 ≠ z) :
   Meets (Builtin.«zip.__next__» ⟨[.ref z], []⟩) (fun A R s => s.heap.get? z = some (zipO TI TO .none) ∧ s.heap.get? TI = some (pairO (.ref i1) (.ref i2)) ∧ s.heap.get? TO = some (pairO a b) ∧
     Gives i1 x f1 A.in1 { s with heap := zH1 s.heap z } ∧ Gives i2 y f2 A.in1 { s with heap := ((zH1 s.heap z).update i1 f1).update TO (Obj.mapSeq (·.setIfInBounds 0 x)) } ∧
     R (.ok (.ret (.ref s.heap.objs.size))) { s with heap := zHF s.heap z TO i1 i2 x y f1 f2 }) :=
 .of_wp fun prog w A R s h => by
   obtain ⟨hp, g, dr, tk, os⟩ := s; obtain ⟨hz, hTI, hTO, g1, g2, h⟩ := h
   unfold zipO at hz
   unfold pairO at hTI hTO
   have g1' := g1 prog w
   have g2' := g2 prog w
   simp only [zH1] at g1' g2'
   have g1s : ∀ (E : Value → Shared → Prop) (Q : Value → Shared → Prop), Held (Q x { heap := (hp.update z (Obj.mapFields (·.setIfInBounds 0 .ellipsis))).update i1 f1, gens := g, drawn := dr, toks := tk, os := os }) → wpAny (model prog w) A.in1 (Builtin.SmallTypes.nextOf (.ref i1)) Q E { heap := hp.update z (Obj.mapFields (·.setIfInBounds 0 .ellipsis)), gens := g, drawn := dr, toks := tk, os := os } := fun E Q h => g1' E Q h
   wp_walk using wpAny_onRaise, wpAny_loadPart' hz, wpAny_loadPart' hTI, wpAny_loadPart' hTO, (g1s _ _)
   unfold Held
   have hTO2 : ((hp.update z (Obj.mapFields (·.setIfInBounds 0 .ellipsis))).update i1 f1).get? TO = some { cls := .type "tuple", data := .seq #[a, b] } := by
     rw [Heap.get?_update_ne _ _ _ _ n3, Heap.get?_update_ne _ _ _ _ n2]; exact hTO
   have hTO3 : (((hp.update z (Obj.mapFields (·.setIfInBounds 0 .ellipsis))).update i1 f1).update TO (Obj.mapSeq (·.setIfInBounds 0 x))).get? TO = some { cls := .type "tuple", data := .seq #[x, b] } := by
     rw [Heap.get?_update_self _ hTO2 rfl]; rfl
   have g2s : ∀ (E : Value → Shared → Prop) (Q : Value → Shared → Prop), Held (Q y { heap := (((hp.update z (Obj.mapFields (·.setIfInBounds 0 .ellipsis))).update i1 f1).update TO (Obj.mapSeq (·.setIfInBounds 0 x))).update i2 f2, gens := g, drawn := dr, toks := tk, os := os }) → wpAny (model prog w) A.in1 (Builtin.SmallTypes.nextOf (.ref i2)) Q E { heap := ((hp.update z (Obj.mapFields (·.setIfInBounds 0 .ellipsis))).update i1 f1).update TO (Obj.mapSeq (·.setIfInBounds 0 x)), gens := g, drawn := dr, toks := tk, os := os } := fun E Q h => g2' E Q h
   wp_walk using wpAny_onRaise, (g2s _ _), wpAny_loadPart' (s := { heap := (hp.update z (Obj.mapFields (·.setIfInBounds 0 .ellipsis))).update i1 f1, gens := g, drawn := dr, toks := tk, os := os }) hTO2, (wpAny_updateSeq (s := { heap := (hp.update z (Obj.mapFields (·.setIfInBounds 0 .ellipsis))).update i1 f1, gens := g, drawn := dr, toks := tk, os := os }) hTO2 rfl)
   unfold Held
   have e4 : zH4 hp z TO i1 i2 x f1 f2 = ((((hp.update z (Obj.mapFields (·.setIfInBounds 0 .ellipsis))).update i1 f1).update TO (Obj.mapSeq (·.setIfInBounds 0 x))).update i2 f2) := rfl
   unfold zHF at h
   rw [e4] at h
   generalize hH4 : ((((hp.update z (Obj.mapFields (·.setIfInBounds 0 .ellipsis))).update i1 f1).update TO (Obj.mapSeq (·.setIfInBounds 0 x))).update i2 f2) = H4 at h
   have hTO4 : H4.get? TO = some { cls := .type "tuple", data := .seq #[x, b] } := by
     rw [← hH4, Heap.get?_update_ne _ _ _ _ n4]; exact hTO3
   have hTO5 : (H4.update TO (Obj.mapSeq (·.setIfInBounds 1 y))).get? TO = some { cls := .type "tuple", data := .seq #[x, y] } := by
     rw [Heap.get?_update_self _ hTO4 rfl]; rfl
   have hz5 : (H4.update TO (Obj.mapSeq (·.setIfInBounds 1 y))).get? z = some { cls := .type "zip", data := .fields #[.ellipsis, .bool false, .bool false, .ref TI, .ref TO] } := by
     rw [Heap.get?_update_ne _ _ _ _ n2.symm, ← hH4, Heap.get?_update_ne _ _ _ _ n6.symm, Heap.get?_update_ne _ _ _ _ n2.symm, Heap.get?_update_ne _ _ _ _ n5.symm, Heap.get?_update_self _ hz rfl]; rfl
   wp_walk using wpAny_loadPart' (s := { heap := H4, gens := g, drawn := dr, toks := tk, os := os }) hTO4, (wpAny_updateSeq (s := { heap := H4, gens := g, drawn := dr, toks := tk, os := os }) hTO4 rfl), wpAny_loadPart' (s := { heap := H4.update TO (Obj.mapSeq (·.setIfInBounds 1 y)), gens := g, drawn := dr, toks := tk, os := os }) hTO5
   have hsz : (H4.update TO (Obj.mapSeq (·.setIfInBounds (0 + 1) y))).objs.size = hp.objs.size := by
     rw [Heap.size_update, ← hH4, Heap.size_update, Heap.size_update, Heap.size_update, Heap.size_update]
   refine ⟨_, rfl, ?_⟩
   show R (.ok (.ret (.ref (H4.update TO (Obj.mapSeq (·.setIfInBounds (0 + 1) y))).objs.size))) { heap := (((H4.update TO (Obj.mapSeq (·.setIfInBounds (0 + 1) y))).push { cls := .type "tuple", data := .seq #[x, y].toList.toArray }).update z (Obj.mapFields (·.setIfInBounds 0 (rawInt ((H4.update TO (Obj.mapSeq (·.setIfInBounds (0 + 1) y))).objs.size : Nat))))).update z (Obj.mapFields (·.setIfInBounds 1 (.bool false))), gens := g, drawn := dr, toks := tk, os := os }
   rw [hsz]
   exact h
theorem z19e (z TI TO i1 i2 : Addr) (a b : Value) (n5 : i1 ≠ z) :
   Meets (Builtin.«zip.__next__» ⟨[.ref z], []⟩) (fun A R s => s.heap.get? z = some (zipO TI TO .none) ∧ s.heap.get? TI = some (pairO (.ref i1) (.ref i2)) ∧ s.heap.get? TO = some (pairO a b) ∧
     Ends_ i1 A.in1 { s with heap := zH1 s.heap z } ∧ ∀ h' e, (∀ c o, c ≠ z → c ≠ i1 → s.heap.get? c = some o → h'.get? c = some o) → (∃ o, h'.get? e = some o ∧ o.cls = .type "StopIteration") → R (.error (.ref e)) { s with heap := h' }) :=
 .of_wp fun prog w A R s h => by
   obtain ⟨hp, g, dr, tk, os⟩ := s; obtain ⟨hz, hTI, hTO, g1, h⟩ := h
   unfold zipO at hz
   unfold pairO at hTI hTO
   have g1' := g1 prog w
   simp only [zH1] at g1'
   have g1s : ∀ (E : Value → Shared → Prop) (Q : Value → Shared → Prop), Held (∀ h' e, (∀ c o, c ≠ i1 → (hp.update z (Obj.mapFields (·.setIfInBounds 0 .ellipsis))).get? c = some o → h'.get? c = some o) → (∃ o, h'.get? e = some o ∧ o.cls = .type "StopIteration") → E (.ref e) { heap := h', gens := g, drawn := dr, toks := tk, os := os }) → wpAny (model prog w) A.in1 (Builtin.SmallTypes.nextOf (.ref i1)) Q E { heap := hp.update z (Obj.mapFields (·.setIfInBounds 0 .ellipsis)), gens := g, drawn := dr, toks := tk, os := os } := fun E Q h => g1' E Q h
   wp_walk using wpAny_onRaise, wpAny_loadPart' hz, wpAny_loadPart' hTI, wpAny_loadPart' hTO, (g1s _ _)
   unfold Held
   intro h' e kp he
   obtain ⟨oe, hoe, hce⟩ := he
   have hz' : h'.get? z = some { cls := .type "zip", data := .fields #[.ellipsis, .bool false, .bool false, .ref TI, .ref TO] } := kp z _ n5.symm (by rw [Heap.get?_update_self _ hz rfl]; rfl)
   have hez : e ≠ z := fun q => by rw [q, hz'] at hoe; cases hoe; simp at hce
   refine wpAny_setField hz' rfl (by simp) (h _ e (fun c o c1 c2 q => ?_) ⟨oe, by rw [Heap.get?_update_ne _ _ _ _ hez]; exact hoe, hce⟩)
   rw [Heap.get?_update_ne _ _ _ _ c1]
   exact kp c o c2 (by rw [Heap.get?_update_ne _ _ _ _ c1]; exact q)
end
end L2
namespace L2
open PySem PySem.Spec PyProof.Rows
section
variable {hp : Heap} {z TI TO i1 i2 l1 l2 : Addr} {a b x y : Value} {k : Nat}
theorem up_ne {h : Heap} {c e : Addr} {f : Obj → Obj} (n : c ≠ e) : (h.update e f).get? c = h.get? c := Heap.get?_update_ne _ _ _ _ n
theorem zG_at {H4 : Heap} {o1 o2 : Obj} (D : ZipApart z TI TO i1 i2 l1 l2) (u1 : H4.get? i1 = some o1) (u2 : H4.get? i2 = some o2) (u3 : H4.get? TO = some (pairO x b)) (u4 : H4.get? z = some (zipO TI TO .ellipsis))
   (u5 : ∀ c o, c ≠ z → c ≠ TO → c ≠ i1 → c ≠ i2 → hp.get? c = some o → H4.get? c = some o) (sz : (H4.update TO (Obj.mapSeq (·.setIfInBounds 1 y))).objs.size = hp.objs.size) (nz : hp.objs.size ≠ z) :
   (((((H4.update TO (Obj.mapSeq (·.setIfInBounds 1 y))).push (pairO x y)).update z (Obj.mapFields (·.setIfInBounds 0 (rawInt hp.objs.size)))).update z (Obj.mapFields (·.setIfInBounds 1 (.bool false)))).get? z = some (zipO TI TO (rawInt hp.objs.size))) ∧
   (((((H4.update TO (Obj.mapSeq (·.setIfInBounds 1 y))).push (pairO x y)).update z (Obj.mapFields (·.setIfInBounds 0 (rawInt hp.objs.size)))).update z (Obj.mapFields (·.setIfInBounds 1 (.bool false)))).get? TO = some (pairO x y)) ∧
   (((((H4.update TO (Obj.mapSeq (·.setIfInBounds 1 y))).push (pairO x y)).update z (Obj.mapFields (·.setIfInBounds 0 (rawInt hp.objs.size)))).update z (Obj.mapFields (·.setIfInBounds 1 (.bool false)))).get? hp.objs.size = some (pairO x y)) ∧
   (((((H4.update TO (Obj.mapSeq (·.setIfInBounds 1 y))).push (pairO x y)).update z (Obj.mapFields (·.setIfInBounds 0 (rawInt hp.objs.size)))).update z (Obj.mapFields (·.setIfInBounds 1 (.bool false)))).get? i1 = some o1) ∧
   (((((H4.update TO (Obj.mapSeq (·.setIfInBounds 1 y))).push (pairO x y)).update z (Obj.mapFields (·.setIfInBounds 0 (rawInt hp.objs.size)))).update z (Obj.mapFields (·.setIfInBounds 1 (.bool false)))).get? i2 = some o2) ∧
   ∀ c o, c ≠ z → c ≠ TO → c ≠ i1 → c ≠ i2 → hp.get? c = some o → ((((H4.update TO (Obj.mapSeq (·.setIfInBounds 1 y))).push (pairO x y)).update z (Obj.mapFields (·.setIfInBounds 0 (rawInt hp.objs.size)))).update z (Obj.mapFields (·.setIfInBounds 1 (.bool false)))).get? c = some o := by
 have t5 : (H4.update TO (Obj.mapSeq (·.setIfInBounds 1 y))).get? TO = some (pairO x y) := by rw [Heap.get?_update_self _ u3 rfl]; rfl
 have z5 : (H4.update TO (Obj.mapSeq (·.setIfInBounds 1 y))).get? z = some (zipO TI TO .ellipsis) := by rw [up_ne D.TOz.symm]; exact u4
 have a5 : (H4.update TO (Obj.mapSeq (·.setIfInBounds 1 y))).get? i1 = some o1 := by rw [up_ne D.TOi1.symm]; exact u1
 have b5 : (H4.update TO (Obj.mapSeq (·.setIfInBounds 1 y))).get? i2 = some o2 := by rw [up_ne D.TOi2.symm]; exact u2
 have c5 : ∀ c o, c ≠ z → c ≠ TO → c ≠ i1 → c ≠ i2 → hp.get? c = some o → (H4.update TO (Obj.mapSeq (·.setIfInBounds 1 y))).get? c = some o := fun c o c1 c2 c3 c4 e => by rw [up_ne c2]; exact u5 c o c1 c2 c3 c4 e
 generalize H4.update TO (Obj.mapSeq (·.setIfInBounds 1 y)) = H5 at *
 have z6 : (H5.push (pairO x y)).get? z = some (zipO TI TO .ellipsis) := Heap.get?_push_of_some _ z5
 have z7 : ((H5.push (pairO x y)).update z (Obj.mapFields (·.setIfInBounds 0 (rawInt hp.objs.size)))).get? z = some (zipO TI TO (rawInt hp.objs.size)) := by rw [Heap.get?_update_self _ z6 rfl]; rfl
 have two : ∀ {c : Addr}, c ≠ z → (((H5.push (pairO x y)).update z (Obj.mapFields (·.setIfInBounds 0 (rawInt hp.objs.size)))).update z (Obj.mapFields (·.setIfInBounds 1 (.bool false)))).get? c = (H5.push (pairO x y)).get? c := fun n => by rw [up_ne n, up_ne n]
 refine ⟨?_, ?_, ?_, ?_, ?_, fun c o c1 c2 c3 c4 e => ?_⟩
 . rw [Heap.get?_update_self _ z7 rfl]; rfl
 . rw [two D.TOz]; exact Heap.get?_push_of_some _ t5
 . rw [two nz, ← sz]; exact Heap.get?_push_size _ rfl
 . rw [two D.i1z]; exact Heap.get?_push_of_some _ a5
 . rw [two D.i2z]; exact Heap.get?_push_of_some _ b5
 . rw [two c1]; exact Heap.get?_push_of_some _ (c5 c o c1 c2 c3 c4 e)
theorem zHF_at (D : ZipApart z TI TO i1 i2 l1 l2) (hz : hp.get? z = some (zipO TI TO .none)) (hTO : hp.get? TO = some (pairO a b)) (h1 : hp.get? i1 = some (tupItO l1 k)) (h2 : hp.get? i2 = some (lstItO l2 k)) :
   (zHF hp z TO i1 i2 x y (up1 k) (up1 k)).get? z = some (zipO TI TO (rawInt hp.objs.size)) ∧ (zHF hp z TO i1 i2 x y (up1 k) (up1 k)).get? TO = some (pairO x y) ∧ (zHF hp z TO i1 i2 x y (up1 k) (up1 k)).get? hp.objs.size = some (pairO x y) ∧
   (zHF hp z TO i1 i2 x y (up1 k) (up1 k)).get? i1 = some (tupItO l1 (k + 1)) ∧ (zHF hp z TO i1 i2 x y (up1 k) (up1 k)).get? i2 = some (lstItO l2 (k + 1)) ∧
   ∀ c o, c ≠ z → c ≠ TO → c ≠ i1 → c ≠ i2 → hp.get? c = some o → (zHF hp z TO i1 i2 x y (up1 k) (up1 k)).get? c = some o := by
 have z1 : (zH1 hp z).get? z = some (zipO TI TO .ellipsis) := by unfold zH1; rw [Heap.get?_update_self _ hz rfl]; rfl
 have zn : ∀ {c}, c ≠ z → (zH1 hp z).get? c = hp.get? c := fun n => up_ne n
 have t2 : ((zH1 hp z).update i1 (up1 k)).get? TO = some (pairO a b) := by rw [up_ne D.TOi1, zn D.TOz]; exact hTO
 have t3 : (((zH1 hp z).update i1 (up1 k)).update TO (Obj.mapSeq (·.setIfInBounds 0 x))).get? TO = some (pairO x b) := by rw [Heap.get?_update_self _ t2 rfl]; rfl
 have i2' : (((zH1 hp z).update i1 (up1 k)).update TO (Obj.mapSeq (·.setIfInBounds 0 x))).get? i2 = some (lstItO l2 k) := by rw [up_ne D.TOi2.symm, up_ne D.i12.symm, zn D.i2z]; exact h2
 have u2 : (zH4 hp z TO i1 i2 x (up1 k) (up1 k)).get? i2 = some (lstItO l2 (k + 1)) := by
   unfold zH4; rw [Heap.get?_update_self _ i2' rfl]; simp [lstItO, Obj.mapFields, rawInt]
 have u1 : (zH4 hp z TO i1 i2 x (up1 k) (up1 k)).get? i1 = some (tupItO l1 (k + 1)) := by
   unfold zH4
   rw [up_ne D.i12, up_ne D.TOi1.symm, Heap.get?_update_self _ (show (zH1 hp z).get? i1 = some (tupItO l1 k) by rw [zn D.i1z]; exact h1) rfl]
   simp [tupItO, Obj.mapFields, rawInt]
 have u3 : (zH4 hp z TO i1 i2 x (up1 k) (up1 k)).get? TO = some (pairO x b) := by unfold zH4; rw [up_ne D.TOi2]; exact t3
 have u4 : (zH4 hp z TO i1 i2 x (up1 k) (up1 k)).get? z = some (zipO TI TO .ellipsis) := by unfold zH4; rw [up_ne D.i2z.symm, up_ne D.TOz.symm, up_ne D.i1z.symm]; exact z1
 have u5 : ∀ c o, c ≠ z → c ≠ TO → c ≠ i1 → c ≠ i2 → hp.get? c = some o → (zH4 hp z TO i1 i2 x (up1 k) (up1 k)).get? c = some o := fun c o c1 c2 c3 c4 e => by
   unfold zH4; rw [up_ne c4, up_ne c2, up_ne c3, zn c1]; exact e
 have sz : ((zH4 hp z TO i1 i2 x (up1 k) (up1 k)).update TO (Obj.mapSeq (·.setIfInBounds 1 y))).objs.size = hp.objs.size := by
   unfold zH4 zH1; rw [Heap.size_update, Heap.size_update, Heap.size_update, Heap.size_update, Heap.size_update]
 have nz : hp.objs.size ≠ z := Nat.ne_of_gt (Heap.lt_size hz)
 exact zG_at D u1 u2 u3 u4 u5 sz nz
end
section
variable {prog : Program} {w : World} {A : Around} {E : Value → Shared → Prop} {s : Shared} {z TI TO i1 i2 l1 l2 : Addr} {a b x y : Value} {k : Nat} {xs ys : Array Value}
theorem z19f {Q : Option Value → Shared → Prop} (D : ZipApart z TI TO i1 i2 l1 l2) (hz : s.heap.get? z = some (zipO TI TO .none)) (hTI : s.heap.get? TI = some (pairO (.ref i1) (.ref i2))) (hTO : s.heap.get? TO = some (pairO a b))
   (h1 : s.heap.get? i1 = some (tupItO l1 k)) (h2 : s.heap.get? i2 = some (lstItO l2 k)) (hl1 : s.heap.IsTuple l1 xs) (hl2 : s.heap.IsList l2 ys) (hx : xs[k]? = some x) (hy : ys[k]? = some y)
   (hQ : Q (some (.ref s.heap.objs.size)) { s with heap := zHF s.heap z TO i1 i2 x y (up1 k) (up1 k) }) : wpAny (model prog w) A (pyNext (.ref z)) Q E s := by
 have hT : s.TypeIs (.ref z) "zip" := ⟨_, hz, rfl⟩
 have k1 : ∀ {c o}, c ≠ z → s.heap.get? c = some o → (zH1 s.heap z).get? c = some o := fun n e => by unfold zH1; rw [up_ne n]; exact e
 have g1 : Gives i1 x (up1 k) A.in1 { s with heap := zH1 s.heap z } := z14b (k1 D.i1z h1) (let ⟨o, ho, r⟩ := hl1; ⟨o, k1 D.l1z ho, r⟩) hx
 have k3 : ∀ {c o}, c ≠ z → c ≠ i1 → c ≠ TO → s.heap.get? c = some o → (((zH1 s.heap z).update i1 (up1 k)).update TO (Obj.mapSeq (·.setIfInBounds 0 x))).get? c = some o := fun n1 n2 n3 e => by rw [up_ne n3, up_ne n2]; exact k1 n1 e
 have g2 : Gives i2 y (up1 k) A.in1 { s with heap := ((zH1 s.heap z).update i1 (up1 k)).update TO (Obj.mapSeq (·.setIfInBounds 0 x)) } := z14c (k3 D.i2z D.i12.symm D.TOi2.symm h2) (let ⟨o, ho, r⟩ := hl2; ⟨o, k3 D.l2z D.l2i1 D.l2TO ho, r⟩) hy
 unfold pyNext
 exact wpAny_bind (wpAny_attempt (wpAny_callSpecial?_slot (name := Str.ofString "__next__") hT F.slot_zip_next
   (call_meets F.slot_zip_next hT F.entry_zip_next (F.args_zip_next_1 _) (z14d z TI TO i1 i2 a b x y (up1 k) (up1 k) D.TOz D.TOi1 D.TOi2 D.i1z D.i2z) ⟨hz, hTI, hTO, g1, g2, wpAny_pure hQ⟩)))
theorem z1e5 {Q : Option Value → Shared → Prop} (hh : A.handled = none) (D : ZipApart z TI TO i1 i2 l1 l2) (hz : s.heap.get? z = some (zipO TI TO .none)) (hTI : s.heap.get? TI = some (pairO (.ref i1) (.ref i2))) (hTO : s.heap.get? TO = some (pairO a b))
   (h1 : s.heap.get? i1 = some (tupItO l1 k)) (hl1 : s.heap.IsTuple l1 xs) (hx : xs[k]? = none) (hQ : ∀ h', (∀ c o, c ≠ z → c ≠ i1 → s.heap.get? c = some o → h'.get? c = some o) → Q none { s with heap := h' }) : wpAny (model prog w) A (pyNext (.ref z)) Q E s := by
 have hT : s.TypeIs (.ref z) "zip" := ⟨_, hz, rfl⟩
 have k1 : ∀ {c o}, c ≠ z → s.heap.get? c = some o → (zH1 s.heap z).get? c = some o := fun n e => by unfold zH1; rw [up_ne n]; exact e
 have g1 : Ends_ i1 A.in1 { s with heap := zH1 s.heap z } := z19d hh (k1 D.i1z h1) (let ⟨o, ho, r⟩ := hl1; ⟨o, k1 D.l1z ho, r⟩) hx
 unfold pyNext
 refine wpAny_bind (wpAny_attempt (wpAny_callSpecial?_slot (name := Str.ofString "__next__") hT F.slot_zip_next
   (call_meets F.slot_zip_next hT F.entry_zip_next (F.args_zip_next_1 _) (z19e z TI TO i1 i2 a b D.i1z) ⟨hz, hTI, hTO, g1, fun h' e kp he => ?_⟩)))
 obtain ⟨o, ho, hc⟩ := he
 exact wpAny_bind (wpAny_isInstance (T := "StopIteration") (b := true) ⟨o, ho, hc⟩ isSubtype_stop (wpAny_pure (hQ h' kp)))
end
theorem z14e {P : Program} {w : World} {K : PySem.W.Frag} {elts : List Expr} {k : Nat} {pos : Pos} {z TI TO i1 i2 l1 l2 : Addr} {xs ys : List V} (D : ZipApart z TI TO i1 i2 l1 l2) (hlen : xs.length = ys.length) :
   Turn P w K (.Tuple elts k pos) (ItP (fun H => Rd H l1 (.tup xs) ∧ Rd H l2 (.lst ys)) (xs.zip ys)) [z, TI, TO, i1, i2] z
     (fun i h => h.get? z = some (zipO TI TO .none) ∧ h.get? TI = some (pairO (.ref i1) (.ref i2)) ∧ (∃ a b, h.get? TO = some (pairO a b)) ∧ h.get? i1 = some (tupItO l1 i) ∧ h.get? i2 = some (lstItO l2 i)) where
 mem := by simp
 obj := fun i h ⟨hz, hTI, ⟨a, b, hTO⟩, h1, h2⟩ c hc => by
   have hc' : c = z ∨ c = TI ∨ c = TO ∨ c = i1 ∨ c = i2 := by simpa using hc
   rcases hc' with rfl | rfl | rfl | rfl | rfl
   . exact ⟨_, hz, fun v e => by cases e⟩
   . exact ⟨_, hTI, fun v e => by cases e⟩
   . exact ⟨_, hTO, fun v e => by cases e⟩
   . exact ⟨_, h1, fun v e => by cases e⟩
   . exact ⟨_, h2, fun v e => by cases e⟩
 keep := fun i h h' ⟨hz, hTI, ⟨a, b, hTO⟩, h1, h2⟩ kp => ⟨kp z (by simp) _ hz, kp TI (by simp) _ hTI, ⟨a, b, kp TO (by simp) _ hTO⟩, kp i1 (by simp) _ h1, kp i2 (by simp) _ h2⟩
 item := by
   intro X hP hw hK hc i pins s σ H E I hf st hg
   subst hP hw hK
   obtain ⟨⟨hS1, hS2⟩, hlt⟩ := hg
   obtain ⟨hz, hTI, ⟨a0, b0, hTO⟩, h1, h2⟩ := st
   obtain ⟨its1, r1, p1, z1⟩ := I.tuple (.inl hS1)
   obtain ⟨its2, r2, p2, z2⟩ := I.list (.inl hS2)
   have le1 := r1.length
   have le2 := r2.length
   rw [List.length_zip] at hlt
   obtain ⟨a, ea⟩ : ∃ a, xs[i]? = some a := ⟨xs[i]'(by omega), by simp⟩
   obtain ⟨b, eb⟩ : ∃ b, ys[i]? = some b := ⟨ys[i]'(by omega), by simp⟩
   obtain ⟨x, q1, ru1⟩ := r1.get ea
   obtain ⟨y, q2, ru2⟩ := r2.get eb
   obtain ⟨f1, f2, f3, f4, f5, f6⟩ := zHF_at (x := x) (y := y) D hz hTO h1 h2
   refine z19f D hz hTI hTO h1 h2 p1 p2.isList (by simpa using q1) (by simpa using q2) ⟨.ref s.heap.objs.size, rfl, ?_⟩
   generalize zHF s.heap z TO i1 i2 x y (up1 i) (up1 i) = HF at f1 f2 f3 f4 f5 f6
   refine wpAny_letOwnedTupleGo_zip (TI := TI) (TO := TO) f1 fun h' hz' hs' => ?_
   have nT : ∀ {c o}, s.heap.get? c = some o → s.heap.objs.size ≠ c := fun e => Nat.ne_of_gt (Heap.lt_size e)
   have up : ∀ {c o}, c ≠ z → HF.get? c = some o → h'.get? c = some o := fun n e => hs'.extBut _ _ n e
   have ht : h'.IsTuple s.heap.objs.size ([x, y] : List Value).toArray := ⟨_, up (nT hz) f3, rfl, _, rfl⟩
   have sub : ∀ c ∈ [z, TO, i1, i2], FpOk X pins H c := fun c hc' => hf c (by
     have : c = z ∨ c = TO ∨ c = i1 ∨ c = i2 := by simpa using hc'
     rcases this with rfl | rfl | rfl | rfl <;> simp)
   have I2 := I.turnedT (tk := s.toks) (h' := h') (xs := [a, b]) (its := [x, y]) sub (fun c o hcw e => by
     have hc' : c ≠ z ∧ c ≠ TO ∧ c ≠ i1 ∧ c ≠ i2 := by simpa using hcw
     exact up hc'.1 (f6 c o hc'.1 hc'.2.1 hc'.2.2.1 hc'.2.2.2 e)) (Nat.le_refl _) ht (.cons ru1 (.cons ru2 .nil)) two_le
   have HT : H s.heap.objs.size = none := I.hok.fresh (Nat.le_refl _)
   refine ⟨.ref s.heap.objs.size, upd H s.heap.objs.size (.tup [a, b]), I2, rfl, ⟨s.heap.objs.size, a, b, rfl, HT, rfl, ?_⟩, ⟨hz', up D.TIz (f6 _ _ D.TIz D.TITO D.TIi1 D.TIi2 hTI), ⟨x, y, up D.TOz f2⟩, up D.i1z f4, up D.i2z f5⟩, fun c hc' => ?_⟩
   . rw [List.getElem?_zip_eq_some]; exact ⟨ea, eb⟩
   . rw [upd_ne]
     . exact (hf c hc').1
     . intro e
       have hc'' : c = z ∨ c = TI ∨ c = TO ∨ c = i1 ∨ c = i2 := by simpa using hc'
       rcases hc'' with q | q | q | q | q <;> rw [q] at e
       . exact nT hz e.symm
       . exact nT hTI e.symm
       . exact nT hTO e.symm
       . exact nT h1 e.symm
       . exact nT h2 e.symm
 done := by
   intro X hP hw hK hc i pins s σ H E I hf st hg
   subst hP hw hK
   obtain ⟨⟨hS1, hS2⟩, hle⟩ := hg
   obtain ⟨hz, hTI, ⟨a0, b0, hTO⟩, h1, h2⟩ := st
   obtain ⟨its1, r1, p1, z1⟩ := I.tuple (.inl hS1)
   have le1 := r1.length
   rw [List.length_zip] at hle
   have sub : ∀ c ∈ [z, i1], FpOk X pins H c := fun c hc' => hf c (by
     have : c = z ∨ c = i1 := by simpa using hc'
     rcases this with rfl | rfl <;> simp)
   refine z1e5 (I.ok.hd hc) D hz hTI hTO h1 p1 (by simp; omega) fun h' kp => ⟨rfl, ?_⟩
   exact I.turnedN (tk := s.toks) sub fun c o hcw e => by
     have hc' : c ≠ z ∧ c ≠ i1 := by simpa using hcw
     exact kp c o hc'.1 hc'.2 e
 self := fun A i s Q E st h => wpAny_pyIter_zip (TI := TI) (TO := TO) (f0 := .none) st.1 h
def zN (h : Heap) (os : List Obj) : Heap := os.foldl Heap.push h
theorem z171 : ∀ (os : List Obj) (h : Heap), (zN h os).objs.size = h.objs.size + os.length
 | [], h => rfl
 | o :: os, h => by
   show (zN (h.push o) os).objs.size = _
   rw [z171 os, Heap.size_push, List.length_cons]; omega
theorem z11f : ∀ (os : List Obj) {h : Heap} {c : Addr} {o : Obj}, h.get? c = some o → (zN h os).get? c = some o
 | [], _, _, _, e => e
 | o :: os, h, c, u, e => z11f os (h := h.push o) (Heap.get?_push_of_some _ e)
theorem zN_at (os : List Obj) (o : Obj) (rest : List Obj) (h : Heap) (hf : o.isFreed = false) : (zN h (os ++ o :: rest)).get? (h.objs.size + os.length) = some o := by
 have e : zN h (os ++ o :: rest) = zN ((zN h os).push o) rest := by unfold zN; rw [List.foldl_append]; rfl
 rw [e, ← z171]
 exact z11f rest (Heap.get?_push_size _ hf)
def zOs (n : Nat) (l1 l2 : Addr) : List Obj := [tupItO l1 0, lstItO l2 0, pairO (.ref n) (.ref (n + 1)), pairO .none .none, zipO (n + 2) (n + 3) .none]
section
open PySem.SeqAt
open PySem.AutoSeq1 (wpAny_loadPart')
theorem z1a0 (l1 l2 : Addr) (xs ys : Array Value) :
   Meets (Builtin.«zip.__new__» ⟨[.type "zip", .ref l1, .ref l2], []⟩) (fun _ R s => s.heap.IsTuple l1 xs ∧ s.heap.IsList l2 ys ∧ R (.ok (.ret (.ref (s.heap.objs.size + 4)))) { s with heap := zN s.heap (zOs s.heap.objs.size l1 l2) }) :=
 .of_wp fun prog w A R s h => by
   obtain ⟨hp, g, dr, tk, os⟩ := s; obtain ⟨q1, q2, h⟩ := h
   have f0 := sub_zip
   have a1 : Heap.IsTuple (Shared.heap ⟨hp, g, dr, tk, os⟩) l1 xs := q1
   have a2 : Heap.IsList (Shared.heap ⟨hp.push { cls := .type "tuple_iterator", data := .fields #[.ref l1, .int 0 0] }, g, dr, tk, os⟩) l2 ys := Heap.IsList.push q2 _
   wp_walk using wpAny_pyIter_tuple a1, wpAny_pyIter_list a2
   refine ⟨_, rfl, ?_⟩
   have s1 : (hp.push (tupItO l1 0)).objs.size = hp.objs.size + 1 := Heap.size_push ..
   have s2 : ((hp.push (tupItO l1 0)).push (lstItO l2 0)).objs.size = hp.objs.size + 2 := by rw [Heap.size_push, s1]
   have s3 : (((hp.push (tupItO l1 0)).push (lstItO l2 0)).push (pairO (.ref hp.objs.size) (.ref (hp.push (tupItO l1 0)).objs.size))).objs.size = hp.objs.size + 3 := by rw [Heap.size_push, s2]
   have s4 : ((((hp.push (tupItO l1 0)).push (lstItO l2 0)).push (pairO (.ref hp.objs.size) (.ref (hp.push (tupItO l1 0)).objs.size))).push (pairO .none .none)).objs.size = hp.objs.size + 4 := by rw [Heap.size_push, s3]
   show R (.ok (.ret (.ref ((((hp.push (tupItO l1 0)).push (lstItO l2 0)).push (pairO (.ref hp.objs.size) (.ref (hp.push (tupItO l1 0)).objs.size))).push (pairO .none .none)).objs.size))) { heap := ((((hp.push (tupItO l1 0)).push (lstItO l2 0)).push (pairO (.ref hp.objs.size) (.ref (hp.push (tupItO l1 0)).objs.size))).push (pairO .none .none)).push (zipO ((hp.push (tupItO l1 0)).push (lstItO l2 0)).objs.size (((hp.push (tupItO l1 0)).push (lstItO l2 0)).push (pairO (.ref hp.objs.size) (.ref (hp.push (tupItO l1 0)).objs.size))).objs.size .none), gens := g, drawn := dr, toks := tk, os := os }
   rw [s4, s3, s2, s1]
   exact h
end
def iZipT (ta : TA) : TI := fun σ H R => ta σ H fun vs H1 => match vs with
 | [.ref l1, .ref l2] => ∃ xs ys, Rd H1 l1 (.tup xs) ∧ Rd H1 l2 (.lst ys) ∧ xs.length = ys.length ∧ R (ItP (fun H => Rd H l1 (.tup xs) ∧ Rd H l2 (.lst ys)) (xs.zip ys)) H1
 | _ => False
section
variable {X : Cx} {a b : Expr} {ta : TA} {p pos tpos : Pos} {elts : List Expr} {k : Nat}
theorem z1e6 (hg : Gl X "zip") (hm : X.mg "zip" = none) (ha : PA X [a, b] ta) (hs : starEach [a, b] X.env = [(false, eval a X.env), (false, eval b X.env)] := by rfl) (hs2 : starEach [b] X.env = [(false, eval b X.env)] := by rfl) :
   PI X (.Tuple elts k tpos) (.Call (.Name "zip" p) [a, b] [] pos) (iZipT ta) := by
 intro pins s σ H R I h
 refine Call_ (ld_blt I hg hm boot_zip (PyProof.Rows.callWith_type1 (thn (ha pos pins s σ H _ I h) fun us s1 ⟨vs, H1, I1, r1, q1⟩ => ?_) (by rw [hs, hs2]) (by rw [hs2]; rfl)))
 dsimp only at q1
 split at q1
 . rename_i l1 l2
   obtain ⟨xs, ys, e1, e2, hlen, q⟩ := q1
   obtain ⟨u, w', rfl, ru, rw'⟩ := vals2 r1
   cases ru; cases rw'
   obtain ⟨its1, rr1, p1, _⟩ := I1.tuple (.inl e1)
   obtain ⟨its2, rr2, p2, _⟩ := I1.list (.inl e2)
   have lt1 : l1 < s1.heap.objs.size := by obtain ⟨o, ho, _⟩ := p1; exact Heap.lt_size ho
   have lt2 : l2 < s1.heap.objs.size := by obtain ⟨o, ho, _⟩ := p2.isList; exact Heap.lt_size ho
   refine callType_new F.called_zip (by decide) (F.typeCall_zip_2 _ _) (F.newCall_zip_2 _ _) (fun obj => F.args_object_init_3 obj _ _) F.entry_zip_new (z1a0 l1 l2 its1.toArray its2.toArray) ⟨p1, p2.isList, ?_⟩
   have g4 := zN_at [tupItO l1 0, lstItO l2 0, pairO (.ref s1.heap.objs.size) (.ref (s1.heap.objs.size + 1)), pairO .none .none] (zipO (s1.heap.objs.size + 2) (s1.heap.objs.size + 3) .none) [] s1.heap rfl
   have g3 := zN_at [tupItO l1 0, lstItO l2 0, pairO (.ref s1.heap.objs.size) (.ref (s1.heap.objs.size + 1))] (pairO .none .none) [zipO (s1.heap.objs.size + 2) (s1.heap.objs.size + 3) .none] s1.heap rfl
   have g2 := zN_at [tupItO l1 0, lstItO l2 0] (pairO (.ref s1.heap.objs.size) (.ref (s1.heap.objs.size + 1))) [pairO .none .none, zipO (s1.heap.objs.size + 2) (s1.heap.objs.size + 3) .none] s1.heap rfl
   have g1 := zN_at [tupItO l1 0] (lstItO l2 0) [pairO (.ref s1.heap.objs.size) (.ref (s1.heap.objs.size + 1)), pairO .none .none, zipO (s1.heap.objs.size + 2) (s1.heap.objs.size + 3) .none] s1.heap rfl
   have g0 := zN_at [] (tupItO l1 0) [lstItO l2 0, pairO (.ref s1.heap.objs.size) (.ref (s1.heap.objs.size + 1)), pairO .none .none, zipO (s1.heap.objs.size + 2) (s1.heap.objs.size + 3) .none] s1.heap rfl
   have kp : ∀ c o, s1.heap.get? c = some o → (zN s1.heap (zOs s1.heap.objs.size l1 l2)).get? c = some o := fun c o e => z11f _ e
   refine ⟨⟨_, g4, rfl⟩, ?_⟩
   refine wpAny_pyIter_zip (TI := s1.heap.objs.size + 2) (TO := s1.heap.objs.size + 3) (f0 := .none) g4 ⟨s1.heap.objs.size + 4, [s1.heap.objs.size + 4, s1.heap.objs.size + 2, s1.heap.objs.size + 3, s1.heap.objs.size, s1.heap.objs.size + 1], _, _, H1, rfl, I1.kept (t' := s1.toks) kp, z14e (z139 lt1 lt2) hlen, ⟨g4, g2, ⟨_, _, g3⟩, g0, g1⟩, fun c hc => ?_, q⟩
   have hc' : s1.heap.objs.size ≤ c := by
     have : c = s1.heap.objs.size + 4 ∨ c = s1.heap.objs.size + 2 ∨ c = s1.heap.objs.size + 3 ∨ c = s1.heap.objs.size ∨ c = s1.heap.objs.size + 1 := by simpa using hc
     rcases this with q | q | q | q | q <;> rw [q] <;> first | exact Nat.le_add_right _ _ | exact Nat.le_refl _
   exact I1.fpOk hc' (I1.hok.fresh hc')
 . exact q1.elim
end
def iZpT (fs : DE → R (List D)) : DE → R (List D) := fun ρ => (fs ρ).bind fun ds => R.of (match ds with
 | [.tup es, .lst gs] => if es.length = gs.length then some ((es.zip gs).map fun p => D.tup [p.1, p.2]) else none
 | _ => none)
theorem q_zpT {X : Cx} {EX : XW} {elts : List Expr} {k : Nat} {a b : Expr} {p pos tpos : Pos} {fs : DE → R (List D)} (hg : Gl X "zip") (hm : X.mg "zip" = none) (ha : QA X EX [a, b] fs) (hs : starEach [a, b] X.env = [(false, eval a X.env), (false, eval b X.env)] := by rfl) (hs2 : starEach [b] X.env = [(false, eval b X.env)] := by rfl) :
   QI X EX false (.Tuple elts k tpos) (.Call (.Name "zip" p) [a, b] [] pos) (iZpT fs) := ⟨(z1e6 hg hm ha.h hs hs2).imp fun σ H Q ⟨sx, ρ, H0, s, e, h⟩ => by
 unfold iZpT at h
 rw [Rk.bind] at h
 refine TAd.go sx s e h fun ds h vs H1 H1' s1 e1 r1 => ?_
 obtain ⟨es, hd, h⟩ := h.of
 split at hd <;> first | cases hd | skip
 split at hd <;> cases hd
 rename_i hl0
 obtain ⟨x, y, rfl, q1, q2⟩ := r1.duo
 obtain ⟨l, xs, rfl, hl, rl⟩ := q1.tup
 obtain ⟨l', ys, rfl, hl', rl'⟩ := q2.lst
 exact ⟨xs, ys, .inl (e1.2.1 _ _ hl), .inl (e1.2.1 _ _ hl'), by rw [← rl.length, ← rl'.length]; exact hl0, h _ H1 H1' s1 e1 (itok_P (fun H s => ⟨.inl (s _ _ hl), .inl (s _ _ hl')⟩) rl rl')⟩⟩
end L2
namespace L2
open PySem PySem.Spec PyProof.Rows
end L2
namespace Bd
abbrev Vc := Int × Int
def dt (u v : Vc) : Int := u.1 * v.2 - u.2 * v.1
theorem z50 (a : Vc) : dt a a = 0 := by simp only [dt]; grind
def ad (u v : Vc) : Vc := (u.1 + v.1, u.2 + v.2)
def ng (u : Vc) : Vc := (-u.1, -u.2)
theorem ze6 (a b c : Vc) : dt (ad a b) c = dt a c + dt b c := by simp only [dt, ad]; grind
theorem zae (a b c : Vc) : dt c (ad a b) = dt c a + dt c b := by simp only [dt, ad]; grind
theorem z1e7 (a c : Vc) : dt c (ng a) = - dt c a := by simp only [dt, ng]; grind
theorem dt_sw (a c : Vc) : dt c a = - dt a c := by simp only [dt]; grind
structure Fr (n : Nat) (R : Nat → Int) (v : Nat → Vc) : Prop where
 per : ∀ k, v (k + n) = ng (v k)
 ini : dt (v 0) (v 1) = 1
 rc1 : ∀ k, (v (k+2)).1 = R ((k+1) % n) * (v (k+1)).1 - (v k).1
 rc2 : ∀ k, (v (k+2)).2 = R ((k+1) % n) * (v (k+1)).2 - (v k).2
 pos : ∀ i j, i < j → j < i + n → 0 < dt (v i) (v j)
variable {n : Nat} {R : Nat → Int} {v : Nat → Vc}
theorem Fr.rc (F : Fr n R v) (u : Vc) (k : Nat) :
   dt u (v (k+2)) = R ((k+1) % n) * dt u (v (k+1)) - dt u (v k) := by
 simp only [dt, F.rc1 k, F.rc2 k]; grind
theorem Fr.one (F : Fr n R v) : ∀ k, dt (v k) (v (k+1)) = 1
 | 0 => F.ini
 | k+1 => by
   have h := F.rc (v (k+1)) k
   rw [h, z50, dt_sw (v k), F.one k]; grind
theorem Fr.turn (F : Fr n R v) (i j : Nat) : dt (v i) (v (j + n)) = - dt (v i) (v j) := by
 rw [F.per, z1e7]
theorem Fr.nn (F : Fr n R v) (i j : Nat) (h : i ≤ j) (h2 : j ≤ i + n) : 0 ≤ dt (v i) (v j) := by
 by_cases e : i = j
 . subst e; rw [z50]; omega
 by_cases e2 : j = i + n
 . subst e2; rw [F.turn, z50]; omega
 have := F.pos i j (by omega) (by omega); omega
def gR (n c : Nat) (R : Nat → Int) (k : Nat) : Int :=
 if k = c + 1 then 1 else
 let o := if k ≤ c then k else k - 1
 R o + (if o = c then 1 else 0) + (if o = (c + 1) % n then 1 else 0)
def gq (n c : Nat) (v : Nat → Vc) (q r : Nat) : Vc :=
 if r ≤ c then v (q * n + r) else if r = c + 1 then ad (v (q * n + c)) (v (q * n + c + 1)) else v (q * n + (r - 1))
def gV (n c : Nat) (v : Nat → Vc) (k : Nat) : Vc := gq n c v (k / (n+1)) (k % (n+1))
theorem gV_at (n c : Nat) (v : Nat → Vc) (q r : Nat) (h : r ≤ n) : gV n c v (q * (n+1) + r) = gq n c v q r := by
 unfold gV
 rw [show (q * (n+1) + r) / (n+1) = q by
       rw [Nat.mul_comm, Nat.mul_add_div (by omega), Nat.div_eq_of_lt (by omega)]; omega,
     show (q * (n+1) + r) % (n+1) = r by
       rw [Nat.mul_comm, Nat.mul_add_mod]; exact Nat.mod_eq_of_lt (by omega)]
theorem at_of (n k : Nat) : ∃ q r, k = q * (n+1) + r ∧ r ≤ n :=
 ⟨k / (n+1), k % (n+1), by rw [Nat.mul_comm]; exact (Nat.div_add_mod k (n+1)).symm, by have := Nat.mod_lt k (show n+1 > 0 by omega); omega⟩
theorem sm (q n : Nat) : (q+1) * n = q * n + n := Nat.succ_mul q n
theorem mdn (q n s : Nat) (h : s < n) : (q * n + s) % n = s := by
 rw [Nat.mul_comm, Nat.mul_add_mod]; exact Nat.mod_eq_of_lt h
theorem gV_per (F : Fr n R v) (c : Nat) (k : Nat) : gV n c v (k + (n+1)) = ng (gV n c v k) := by
 obtain ⟨q, r, rfl, h⟩ := at_of n k
 rw [show q * (n+1) + r + (n+1) = (q+1) * (n+1) + r by rw [sm q (n+1)]; omega, gV_at _ _ _ _ _ h, gV_at _ _ _ _ _ h]
 unfold gq
 split
 . rw [show (q+1)*n + r = q * n + r + n by rw [sm]; omega, F.per]
 split
 . rw [show (q+1)*n + c = q * n + c + n by rw [sm]; omega, show q * n + c + n + 1 = q * n + c + 1 + n by omega, F.per, F.per]
   simp only [ng, ad]; ext <;> simp <;> omega
 . rw [show (q+1)*n + (r-1) = q * n + (r-1) + n by rw [sm]; omega, F.per]
def lin (x : Int) (b a : Vc) : Vc := (x * b.1 - a.1, x * b.2 - a.2)
theorem Fr.rv (F : Fr n R v) (k : Nat) : v (k+2) = lin (R ((k+1) % n)) (v (k+1)) (v k) := by
 have h1 := F.rc1 k; have h2 := F.rc2 k
 exact Prod.ext h1 h2
theorem Fr.rvq (F : Fr n R v) (q s : Nat) (h : s + 1 < n) : v (q * n + s + 2) = lin (R (s+1)) (v (q * n + s + 1)) (v (q * n + s)) := by
 rw [F.rv, show q * n + s + 1 = q * n + (s + 1) by omega, mdn q n (s+1) h]
theorem Fr.rv0 (F : Fr n R v) (q : Nat) (h : 1 ≤ n) : v (q * n + n + 1) = lin (R 0) (v (q * n + n)) (v (q * n + (n - 1))) := by
 have := F.rv (q * n + (n - 1))
 rw [show q * n + (n-1) + 2 = q * n + n + 1 by omega, show q * n + (n-1) + 1 = (q+1) * n + 0 by rw [sm]; omega, mdn (q+1) n 0 (by omega)] at this
 rw [this]; congr 2; rw [sm]; rfl
theorem gq_lo (n c : Nat) (v : Nat → Vc) (q r : Nat) (h : r ≤ c) : gq n c v q r = v (q * n + r) := by
 unfold gq; rw [if_pos h]
theorem gq_new (n c : Nat) (v : Nat → Vc) (q : Nat) : gq n c v q (c+1) = ad (v (q * n + c)) (v (q * n + c + 1)) := by
 unfold gq; rw [if_neg (by omega), if_pos rfl]
theorem gq_hi (n c : Nat) (v : Nat → Vc) (q r : Nat) (h : c + 1 ≤ r) : gq n c v q (r+1) = v (q * n + r) := by
 unfold gq; rw [if_neg (by omega), if_neg (by omega)]; rfl
theorem lin_a (x : Int) (a b : Vc) : ad b (lin x b a) = lin (x + 1) b a := by
 simp only [ad, lin, Prod.mk.injEq]; constructor <;> grind
theorem lin_b (a b : Vc) : b = lin 1 (ad a b) a := by
 apply Prod.ext <;> simp only [ad, lin] <;> grind
theorem lin_c (x : Int) (a b : Vc) : lin x b a = lin (x + 1) b (ad a b) := by
 simp only [ad, lin, Prod.mk.injEq]; constructor <;> grind
theorem gV_rec (F : Fr n R v) (c : Nat) (hc : c < n) (hn : 3 ≤ n) (k : Nat) :
   gV n c v (k+2) = lin (gR n c R ((k+1) % (n+1))) (gV n c v (k+1)) (gV n c v k) := by
 obtain ⟨q, r, rfl, h⟩ := at_of n k
 by_cases h2 : r + 2 ≤ n
 . rw [show q * (n+1) + r + 2 = q * (n+1) + (r+2) by omega, show q * (n+1) + r + 1 = q * (n+1) + (r+1) by omega,
     mdn q (n+1) (r+1) (by omega), gV_at _ _ _ _ _ h2, gV_at _ _ _ _ _ (by omega), gV_at _ _ _ _ _ h]
   by_cases e1 : r + 2 ≤ c
   . rw [gq_lo _ _ _ _ _ e1, gq_lo _ _ _ _ _ (by omega), gq_lo _ _ _ _ _ (by omega), show gR n c R (r+1) = R (r+1) by
       have : ¬ (r + 1 = (c+1) % n) := by
         by_cases z : c + 1 = n
         . rw [z, Nat.mod_self]; omega
         . rw [Nat.mod_eq_of_lt (by omega)]; omega
       simp only [gR, if_neg (show ¬ (r + 1 = c + 1) by omega), if_pos (show r + 1 ≤ c by omega), if_neg (show ¬ (r + 1 = c) by omega), if_neg this]; omega]
     exact F.rvq q r (by omega)
   by_cases e2 : r + 1 = c
   . subst e2
     rw [gq_lo _ _ _ _ r (by omega), gq_lo _ _ _ _ (r+1) (by omega), show r + 2 = (r + 1) + 1 by rfl, gq_new,
       show gR n (r+1) R (r+1) = R (r+1) + 1 by
       have : ¬ (r + 1 = (r+1+1) % n) := by
         by_cases z : r+1 + 1 = n
         . rw [z, Nat.mod_self]; omega
         . rw [Nat.mod_eq_of_lt (by omega)]; omega
       simp only [gR, if_neg (show ¬ (r + 1 = r + 1 + 1) by omega), if_pos (Nat.le_refl (r+1)), if_neg this, if_true]; omega]
     have := F.rvq q r (by omega)
     rw [show q * n + (r + 1) + 1 = q * n + r + 2 by omega, this, ← lin_a]; rfl
   by_cases e3 : r = c
   . subst e3
     rw [gq_lo _ _ _ _ r (by omega), gq_new, gq_hi _ _ _ _ (r+1) (by omega), show gR n r R (r+1) = 1 by simp only [gR, if_true]]
     exact lin_b _ _
   by_cases e4 : r = c + 1
   . subst e4
     rw [gq_new, gq_hi _ _ _ _ _ (by omega), gq_hi _ _ _ _ _ (by omega), show gR n c R (c + 1 + 1) = R (c+1) + 1 by
       have : (c+1) % n = c + 1 := Nat.mod_eq_of_lt (by omega)
       simp only [gR, if_neg (show ¬ (c + 1 + 1 = c + 1) by omega), if_neg (show ¬ (c + 1 + 1 ≤ c) by omega), this]
       rw [show c + 1 + 1 - 1 = c + 1 by omega, if_neg (by omega), if_pos rfl]; omega]
     have := F.rvq q c (by omega)
     rw [show q * n + (c + 1 + 1) = q * n + c + 2 by omega, this, lin_c]; rfl
   . obtain ⟨s, rfl⟩ : ∃ s, r = s + 1 := ⟨r - 1, by omega⟩
     rw [gq_hi _ _ _ _ s (by omega), show s + 1 + 2 = (s + 2) + 1 by rfl, gq_hi _ _ _ _ (s+2) (by omega), gq_hi _ _ _ _ (s+1) (by omega), show gR n c R (s + 1 + 1) = R (s+1) by
       have : ¬ (s + 1 = (c+1) % n) := by
         rw [Nat.mod_eq_of_lt (by omega)]; omega
       simp only [gR, if_neg (show ¬ (s + 1 + 1 = c + 1) by omega), if_neg (show ¬ (s + 1 + 1 ≤ c) by omega), show s + 1 + 1 - 1 = s + 1 by omega, if_neg (show ¬ (s + 1 = c) by omega), if_neg this]; omega]
     exact F.rvq q s (by omega)
 by_cases h3 : r + 1 = n
 . subst h3
   rw [show q * (r+1+1) + r + 2 = (q+1) * (r+1+1) + 0 by rw [sm q]; omega, show q * (r+1+1) + r + 1 = q * (r+1+1) + (r+1) by omega,
     mdn q (r+1+1) (r+1) (by omega), gV_at _ _ _ _ _ (by omega), gV_at _ _ _ _ _ (by omega), gV_at _ _ _ _ _ h, gq_lo _ _ _ _ 0 (by omega)]
   rw [show (q+1) * (r+1) + 0 = q * (r+1) + r + 1 by rw [sm q]; omega]
   by_cases e : r = c
   . subst e
     rw [gq_lo _ _ _ _ r (by omega), gq_new, show gR (r+1) r R (r+1) = 1 by simp only [gR, if_true]]
     exact lin_b _ _
   by_cases e4 : r = c + 1
   . subst e4
     rw [gq_new, gq_hi _ _ _ _ _ (by omega), show gR (c+1+1) c R (c + 1 + 1) = R (c+1) + 1 by
       have : (c+1) % (c+1+1) = c + 1 := Nat.mod_eq_of_lt (by omega)
       simp only [gR, if_neg (show ¬ (c + 1 + 1 = c + 1) by omega), if_neg (show ¬ (c + 1 + 1 ≤ c) by omega), this]
       rw [show c + 1 + 1 - 1 = c + 1 by omega, if_neg (by omega), if_pos rfl]; omega]
     have := F.rvq q c (by omega)
     rw [show q * (c+1+1) + (c + 1) + 1 = q * (c+1+1) + c + 2 by omega, this, lin_c]; rfl
   . obtain ⟨s, rfl⟩ : ∃ s, r = s + 1 := ⟨r - 1, by omega⟩
     rw [gq_hi _ _ _ _ _ (by omega), gq_hi _ _ _ _ _ (by omega), show gR (s+1+1) c R (s + 1 + 1) = R (s+1) by
       have : ¬ (s + 1 = (c+1) % (s+1+1)) := by
         rw [Nat.mod_eq_of_lt (by omega)]; omega
       simp only [gR, if_neg (show ¬ (s + 1 + 1 = c + 1) by omega), if_neg (show ¬ (s + 1 + 1 ≤ c) by omega), show s + 1 + 1 - 1 = s + 1 by omega, if_neg (show ¬ (s + 1 = c) by omega), if_neg this]; omega]
     exact F.rvq q s (by omega)
 . obtain rfl : r = n := by omega
   rw [show q * (r+1) + r + 2 = (q+1) * (r+1) + 1 by rw [sm q]; omega, show q * (r+1) + r + 1 = (q+1) * (r+1) + 0 by rw [sm q]; omega,
     mdn (q+1) (r+1) 0 (by omega), gV_at _ _ _ _ _ (by omega), gV_at _ _ _ _ _ (by omega), gV_at _ _ _ _ _ h, gq_lo _ _ _ _ 0 (by omega)]
   rw [show (q+1) * r + 0 = q * r + r by rw [sm q]; omega]
   have key := F.rv0 q (by omega)
   by_cases e0 : c = 0
   . subst e0
     obtain ⟨s, rfl⟩ : ∃ s, r = s + 1 := ⟨r - 1, by omega⟩
     rw [show gq (s+1) 0 v (q+1) 1 = ad (v ((q+1) * (s+1) + 0)) (v ((q+1) * (s+1) + 0 + 1)) from gq_new _ _ _ _, gq_hi _ _ _ _ _ (by omega), show gR (s+1) 0 R 0 = R 0 + 1 by
       have : ¬ (0 = (0+1) % (s+1)) := by rw [Nat.mod_eq_of_lt (by omega)]; omega
       simp only [gR, if_neg (show ¬ (0 = 0 + 1) by omega), if_pos (Nat.le_refl 0), if_true, if_neg this]; omega]
     rw [show (q+1) * (s+1) + 0 = q * (s+1) + (s+1) by rw [sm q]; omega, key, lin_a]; rfl
   rw [gq_lo _ _ _ _ 1 (by omega)]
   by_cases e1 : c + 1 = r
   . subst e1
     rw [gq_new, show gR (c+1) c R 0 = R 0 + 1 by
       simp only [gR, if_neg (show ¬ (0 = c + 1) by omega), if_pos (Nat.zero_le c), if_neg (show ¬ (0 = c) by omega), Nat.mod_self, if_true]; omega]
     rw [show (q+1) * (c+1) + 1 = q * (c+1) + (c+1) + 1 by rw [sm q], key, lin_c]; rfl
   . obtain ⟨s, rfl⟩ : ∃ s, r = s + 1 := ⟨r - 1, by omega⟩
     rw [gq_hi _ _ _ _ _ (by omega), show gR (s+1) c R 0 = R 0 by
       have : ¬ (0 = (c+1) % (s+1)) := by rw [Nat.mod_eq_of_lt (by omega)]; omega
       simp only [gR, if_neg (show ¬ (0 = c + 1) by omega), if_pos (Nat.zero_le c), if_neg (show ¬ (0 = c) by omega), if_neg this]; omega]
     rw [show (q+1) * (s+1) + 1 = q * (s+1) + (s+1) + 1 by rw [sm q], key]; rfl
theorem z45 (n c : Nat) (hc : c < n) (v : Nat → Vc) (q r : Nat) (h : r ≤ n) :
   (r ≠ c + 1 ∧ gq n c v q r = v (q * n + (if r ≤ c then r else r - 1))) ∨
   (r = c + 1 ∧ gq n c v q r = ad (v (q * n + c)) (v (q * n + c + 1))) := by
 by_cases e : r = c + 1
 . right; subst e; exact ⟨rfl, gq_new _ _ _ _⟩
 . left; refine ⟨e, ?_⟩
   by_cases e2 : r ≤ c
   . rw [if_pos e2, gq_lo _ _ _ _ _ e2]
   . rw [if_neg e2]; unfold gq; rw [if_neg e2, if_neg e]
theorem Fr.new_l (F : Fr n R v) (hn : 3 ≤ n) (p p' : Nat) (h1 : p + 1 ≤ p') (h2 : p' ≤ p + n) :
   0 < dt (ad (v p) (v (p+1))) (v p') ∧ (p + 1 < p' → p' < p + n → 1 < dt (ad (v p) (v (p+1))) (v p')) := by
 rw [ze6]
 have a := F.nn p p' (by omega) h2
 have b := F.nn (p+1) p' h1 (by omega)
 have a' := fun z => F.pos p p' (by omega) z
 have b' := fun z => F.pos (p+1) p' z (by omega)
 constructor
 . by_cases z : p' < p + n
   . have := a' z; omega
   . have := b' (by omega); omega
 . intro z z'; have := a' z'; have := b' z; omega
theorem Fr.new_r (F : Fr n R v) (hn : 3 ≤ n) (i p : Nat) (h1 : i ≤ p) (h2 : p + 1 ≤ i + n) :
   0 < dt (v i) (ad (v p) (v (p+1))) ∧ (i < p → p + 1 < i + n → 1 < dt (v i) (ad (v p) (v (p+1)))) := by
 rw [zae]
 have a := F.nn i p h1 (by omega)
 have b := F.nn i (p+1) (by omega) h2
 have a' := fun z => F.pos i p z (by omega)
 have b' := fun z => F.pos i (p+1) (by omega) z
 constructor
 . by_cases z : i < p
   . have := a' z; omega
   . have := b' (by omega); omega
 . intro z z'; have := a' z; have := b' z'; omega
theorem gV_pos (F : Fr n R v) (c : Nat) (hc : c < n) (hn : 3 ≤ n) (i j : Nat) (h : i < j) (h2 : j < i + (n + 1)) :
   0 < dt (gV n c v i) (gV n c v j) := by
 obtain ⟨q, r, rfl, hr⟩ := at_of n i
 obtain ⟨q', s, rfl, hs⟩ := at_of n j
 have hq : q' = q ∨ q' = q + 1 := by
   by_cases a : q' < q
   . have : (q'+1) * (n+1) ≤ q * (n+1) := Nat.mul_le_mul_right _ a
     rw [sm] at this; omega
   by_cases b : q + 1 < q'
   . have : (q+1+1) * (n+1) ≤ q' * (n+1) := Nat.mul_le_mul_right _ b
     rw [sm, sm] at this; omega
   omega
 rw [gV_at _ _ _ _ _ hr, gV_at _ _ _ _ _ hs]
 rcases hq with rfl | rfl
 . rcases z45 n c hc v q' r hr with ⟨e, g⟩ | ⟨e, g⟩ <;> rcases z45 n c hc v q' s hs with ⟨e', g'⟩ | ⟨e', g'⟩ <;> rw [g, g']
   . exact F.pos _ _ (by split <;> split <;> omega) (by split <;> split <;> omega)
   . exact (F.new_r hn _ _ (by split <;> omega) (by split <;> omega)).1
   . exact (F.new_l hn _ _ (by split <;> omega) (by split <;> omega)).1
   . omega
 . rw [sm q (n+1)] at h h2
   rcases z45 n c hc v q r hr with ⟨e, g⟩ | ⟨e, g⟩ <;> rcases z45 n c hc v (q+1) s hs with ⟨e', g'⟩ | ⟨e', g'⟩ <;> rw [g, g', sm q n]
   . exact F.pos _ _ (by split <;> split <;> omega) (by split <;> split <;> omega)
   . exact (F.new_r hn _ _ (by split <;> omega) (by split <;> omega)).1
   . exact (F.new_l hn _ _ (by split <;> omega) (by split <;> omega)).1
   . omega
theorem Fr.grow (F : Fr n R v) (c : Nat) (hc : c < n) (hn : 3 ≤ n) : Fr (n+1) (gR n c R) (gV n c v) where
 per := gV_per F c
 ini := by
   have a0 : gV n c v 0 = v 0 := by
     have := gV_at n c v 0 0 (by omega); simp only [Nat.zero_mul, Nat.zero_add] at this
     rw [this, gq_lo _ _ _ _ _ (by omega)]; simp
   have a1 := gV_at n c v 0 1 (by omega); simp only [Nat.zero_mul, Nat.zero_add] at a1
   rw [a0, a1]
   by_cases e : c = 0
   . subst e
     have : gq n 0 v 0 1 = ad (v 0) (v 1) := by have := gq_new n 0 v 0; simpa using this
     rw [this, zae, z50, F.ini]; rfl
   . rw [gq_lo _ _ _ _ _ (by omega)]; simp [F.ini]
 rc1 := fun k => by rw [gV_rec F c hc hn k]; rfl
 rc2 := fun k => by rw [gV_rec F c hc hn k]; rfl
 pos := gV_pos F c hc hn
def v3 (k : Nat) : Vc := if k % 6 = 0 then (1, 0) else if k % 6 = 1 then (0, 1) else if k % 6 = 2 then (-1, 1)
 else if k % 6 = 3 then (-1, 0) else if k % 6 = 4 then (0, -1) else (1, -1)
theorem fr3 : Fr 3 (fun _ => 1) v3 := by
 have key : ∀ k, v3 k = v3 (k % 6) := fun k => by simp only [v3, Nat.mod_mod]
 have ks : ∀ k a, v3 (k + a) = v3 ((k % 6 + a) % 6) := fun k a => by rw [key (k+a)]; congr 1; omega
 have six : ∀ k, k % 6 = 0 ∨ k % 6 = 1 ∨ k % 6 = 2 ∨ k % 6 = 3 ∨ k % 6 = 4 ∨ k % 6 = 5 := fun k => by omega
 refine ⟨fun k => ?_, rfl, fun k => ?_, fun k => ?_, fun i j h h2 => ?_⟩
 . rw [ks k 3, key k]; rcases six k with e | e | e | e | e | e <;> rw [e] <;> rfl
 . rw [ks k 2, ks k 1, key k]; rcases six k with e | e | e | e | e | e <;> rw [e] <;> rfl
 . rw [ks k 2, ks k 1, key k]; rcases six k with e | e | e | e | e | e <;> rw [e] <;> rfl
 . obtain rfl | rfl : j = i + 1 ∨ j = i + 2 := by omega
   . rw [ks i 1, key i]; rcases six i with e | e | e | e | e | e <;> rw [e] <;> decide
   . rw [ks i 2, key i]; rcases six i with e | e | e | e | e | e <;> rw [e] <;> decide
theorem Fr.congr {n : Nat} {R R' : Nat → Int} {v : Nat → Vc} (F : Fr n R v) (hn : 1 ≤ n) (h : ∀ k, k < n → R' k = R k) : Fr n R' v where
 per := F.per
 ini := F.ini
 rc1 := fun k => by rw [h _ (Nat.mod_lt _ (by omega))]; exact F.rc1 k
 rc2 := fun k => by rw [h _ (Nat.mod_lt _ (by omega))]; exact F.rc2 k
 pos := F.pos
theorem gV_bd {n : Nat} {R : Nat → Int} {v : Nat → Vc} {B : Int} (F : Fr n R v) (c : Nat) (hc : c < n) (hn : 3 ≤ n) (hB : ∀ i j, i ≤ j → j ≤ i + n → dt (v i) (v j) ≤ B) (i j : Nat) (h : i < j) (h2 : j < i + (n + 1)) :
   dt (gV n c v i) (gV n c v j) ≤ 2 * B := by
 obtain ⟨q, r, rfl, hr⟩ := at_of n i
 obtain ⟨q', s, rfl, hs⟩ := at_of n j
 have B0 : 0 ≤ B := by have := hB 0 0 (by omega) (by omega); rw [z50] at this; exact this
 have hq : q' = q ∨ q' = q + 1 := by
   by_cases a : q' < q
   . have : (q'+1) * (n+1) ≤ q * (n+1) := Nat.mul_le_mul_right _ a
     rw [sm] at this; omega
   by_cases b : q + 1 < q'
   . have : (q+1+1) * (n+1) ≤ q' * (n+1) := Nat.mul_le_mul_right _ b
     rw [sm, sm] at this; omega
   omega
 rw [gV_at _ _ _ _ _ hr, gV_at _ _ _ _ _ hs]
 rcases hq with rfl | rfl
 . rcases z45 n c hc v q' r hr with ⟨e, g⟩ | ⟨e, g⟩ <;> rcases z45 n c hc v q' s hs with ⟨e', g'⟩ | ⟨e', g'⟩ <;> rw [g, g']
   . have := hB (q' * n + (if r ≤ c then r else r - 1)) (q' * n + (if s ≤ c then s else s - 1)) (by split <;> split <;> omega) (by split <;> split <;> omega); omega
   . rw [zae]
     have a := hB (q' * n + (if r ≤ c then r else r - 1)) (q' * n + c) (by split <;> omega) (by split <;> omega)
     have b := hB (q' * n + (if r ≤ c then r else r - 1)) (q' * n + c + 1) (by split <;> omega) (by split <;> omega); omega
   . rw [ze6]
     have a := hB (q' * n + c) (q' * n + (if s ≤ c then s else s - 1)) (by split <;> omega) (by split <;> omega)
     have b := hB (q' * n + c + 1) (q' * n + (if s ≤ c then s else s - 1)) (by split <;> omega) (by split <;> omega); omega
   . omega
 . rw [sm q (n+1)] at h h2
   rcases z45 n c hc v q r hr with ⟨e, g⟩ | ⟨e, g⟩ <;> rcases z45 n c hc v (q+1) s hs with ⟨e', g'⟩ | ⟨e', g'⟩ <;> rw [g, g', sm q n]
   . have := hB (q * n + (if r ≤ c then r else r - 1)) (q * n + n + (if s ≤ c then s else s - 1)) (by split <;> split <;> omega) (by split <;> split <;> omega); omega
   . rw [zae]
     have a := hB (q * n + (if r ≤ c then r else r - 1)) (q * n + n + c) (by split <;> omega) (by split <;> omega)
     have b := hB (q * n + (if r ≤ c then r else r - 1)) (q * n + n + c + 1) (by split <;> omega) (by split <;> omega); omega
   . rw [ze6]
     have a := hB (q * n + c) (q * n + n + (if s ≤ c then s else s - 1)) (by split <;> omega) (by split <;> omega)
     have b := hB (q * n + c + 1) (q * n + n + (if s ≤ c then s else s - 1)) (by split <;> omega) (by split <;> omega); omega
   . omega
def growR (row : List Int) (c : Nat) : List Int :=
 let m1 := row.set c (row.getD c 0 + 1)
 let m2 := m1.set ((c + 1) % row.length) (m1.getD ((c + 1) % row.length) 0 + 1)
 m2.take (c + 1) ++ 1 :: m2.drop (c + 1)
theorem z51 (row : List Int) (c : Nat) (hc : c < row.length) : (growR row c).length = row.length + 1 := by
 simp only [growR, List.length_append, List.length_take, List.length_set, List.length_cons, List.length_drop]; omega
theorem z97 (l : List Int) (i j : Nat) (x : Int) (hi : i < l.length) : (l.set i x).getD j 0 = if j = i then x else l.getD j 0 := by
 rw [List.getD_eq_getElem?_getD, List.getElem?_set, List.getD_eq_getElem?_getD]
 by_cases e : i = j
 . subst e; simp [hi]
 . rw [if_neg e, if_neg (Ne.symm e)]
theorem z98 (row : List Int) (c k : Nat) (hc : c < row.length) (hn : 2 ≤ row.length) (hk : k < row.length + 1) :
   (growR row c).getD k 0 = gR row.length c (fun k => row.getD k 0) k := by
 have hm : (c + 1) % row.length < row.length := Nat.mod_lt _ (by omega)
 have hne : (c + 1) % row.length ≠ c := by
   by_cases z : c + 1 = row.length
   . rw [z, Nat.mod_self]; omega
   . rw [Nat.mod_eq_of_lt (by omega)]; omega
 have e2 : ∀ j, ((row.set c (row.getD c 0 + 1)).set ((c + 1) % row.length) ((row.set c (row.getD c 0 + 1)).getD ((c + 1) % row.length) 0 + 1)).getD j 0
     = row.getD j 0 + (if j = c then 1 else 0) + (if j = (c + 1) % row.length then 1 else 0) := fun j => by
   rw [z97 _ _ _ _ (by rw [List.length_set]; exact hm), z97 _ _ _ _ hc, z97 _ _ _ _ hc, if_neg hne]
   by_cases a : j = (c + 1) % row.length
   . rw [if_pos a, if_pos a, if_neg (by omega), a]; omega
   . rw [if_neg a, if_neg a]
     by_cases b : j = c
     . rw [if_pos b, if_pos b, b]; omega
     . rw [if_neg b, if_neg b]; omega
 simp only [growR]
 generalize hm2 : (row.set c (row.getD c 0 + 1)).set ((c + 1) % row.length) ((row.set c (row.getD c 0 + 1)).getD ((c + 1) % row.length) 0 + 1) = m2 at e2 ⊢
 have hl : m2.length = row.length := by rw [← hm2, List.length_set, List.length_set]
 have ht : (m2.take (c+1)).length = c + 1 := by rw [List.length_take, hl]; omega
 unfold gR
 by_cases a : k = c + 1
 . rw [if_pos a, List.getD_eq_getElem?_getD, List.getElem?_append_right (by omega), ht, a]; simp
 . rw [if_neg a]
   by_cases b : k ≤ c
   . rw [if_pos b]
     show _ = row.getD k 0 + (if k = c then 1 else 0) + (if k = (c+1) % row.length then 1 else 0)
     rw [← e2, List.getD_eq_getElem?_getD, List.getElem?_append_left (by omega), List.getElem?_take, if_pos (by omega), List.getD_eq_getElem?_getD]
   . rw [if_neg b]
     show _ = row.getD (k-1) 0 + (if k-1 = c then 1 else 0) + (if k-1 = (c+1) % row.length then 1 else 0)
     obtain ⟨t, rfl⟩ : ∃ t, k = c + 1 + (t + 1) := ⟨k - (c + 2), by omega⟩
     rw [← e2, List.getD_eq_getElem?_getD, List.getElem?_append_right (by omega), ht, List.getD_eq_getElem?_getD,
       show c + 1 + (t + 1) - (c + 1) = t + 1 by omega, List.getElem?_cons_succ, List.getElem?_drop, show c + 1 + (t + 1) - 1 = c + 1 + t by omega]
structure Good (row : List Int) (v : Nat → Vc) : Prop where
 len : 3 ≤ row.length
 fr : Fr row.length (fun k => row.getD k 0) v
 bd : ∀ i j, i ≤ j → j ≤ i + row.length → dt (v i) (v j) ≤ 2 ^ (row.length - 3)
 rb : ∀ k, 0 ≤ row.getD k 0 ∧ row.getD k 0 ≤ row.length
theorem good3 : Good [1, 1, 1] v3 := by
 refine ⟨by decide, fr3.congr (by decide) fun k hk => ?_, fun i j h h2 => ?_, fun k => ?_⟩
 . have : k = 0 ∨ k = 1 ∨ k = 2 := by have hk' : k < 3 := hk; omega
   rcases this with rfl | rfl | rfl <;> rfl
 . have key : ∀ k, v3 k = v3 (k % 6) := fun k => by simp only [v3, Nat.mod_mod]
   have ks : ∀ k a, v3 (k + a) = v3 ((k % 6 + a) % 6) := fun k a => by rw [key (k+a)]; congr 1; omega
   have six : ∀ k, k % 6 = 0 ∨ k % 6 = 1 ∨ k % 6 = 2 ∨ k % 6 = 3 ∨ k % 6 = 4 ∨ k % 6 = 5 := fun k => by omega
   simp only [List.length_cons, List.length_nil] at h2
   have hj : j = i + 0 ∨ j = i + 1 ∨ j = i + 2 ∨ j = i + 3 := by omega
   rcases hj with z | z | z | z <;> rw [z, ks i, key i] <;> rcases six i with e | e | e | e | e | e <;> rw [e] <;> decide
 . match k with
   | 0 => decide
   | 1 => decide
   | 2 => decide
   | k + 3 => simp
theorem Good.grow {row : List Int} {v : Nat → Vc} (G : Good row v) (c : Nat) (hc : c < row.length) : Good (growR row c) (gV row.length c v) := by
 have hl := z51 row c hc
 have h3 := G.len
 have F := G.fr.grow c hc h3
 refine ⟨by omega, ?_, ?_, fun k => ?_⟩
 . rw [hl]
   exact F.congr (by omega) fun k hk => z98 row c k hc (by omega) hk
 . rw [hl]
   intro i j h h2
   have e : (2 : Int) ^ (row.length + 1 - 3) = 2 * 2 ^ (row.length - 3) := by
     rw [show row.length + 1 - 3 = (row.length - 3) + 1 by omega, Int.pow_succ]; omega
   have p : (0 : Int) < 2 ^ (row.length - 3) := Int.pow_pos (by decide)
   rw [e]
   by_cases z : i = j
   . subst z; rw [z50]; omega
   by_cases z2 : j = i + (row.length + 1)
   . subst z2; rw [F.turn, z50]; omega
   exact gV_bd G.fr c hc h3 G.bd i j (by omega) (by omega)
 . rw [hl]
   by_cases hk : k < row.length + 1
   . rw [z98 row c k hc (by omega) hk]
     unfold gR
     by_cases a : k = c + 1
     . rw [if_pos a]; omega
     . rw [if_neg a]
       have := G.rb (if k ≤ c then k else k - 1)
       generalize (if k ≤ c then k else k - 1) = o at this
       have hne : o = c → ¬ o = (c + 1) % row.length := by
         intro z z'
         by_cases y : c + 1 = row.length
         . rw [y, Nat.mod_self] at z'; omega
         . rw [Nat.mod_eq_of_lt (by omega)] at z'; omega
       show 0 ≤ row.getD o 0 + (if o = c then 1 else 0) + (if o = (c + 1) % row.length then 1 else 0) ∧ row.getD o 0 + (if o = c then 1 else 0) + (if o = (c + 1) % row.length then 1 else 0) ≤ _
       by_cases z : o = c
       . rw [if_pos z, if_neg (hne z)]; omega
       . rw [if_neg z]; split <;> omega
   . rw [List.getD_eq_getElem?_getD, List.getElem?_eq_none (by omega)]
     simp only [Option.getD_none]; omega
end Bd
namespace Cu
abbrev P2 := Int × Int
abbrev P3 := Int × Int × Int
def sh (at' x : Int) : Int := if x > at' then x + 1 else x
def sh2 (c : Int) (p : P2) : P2 := (sh c p.1, sh c p.2)
def sh3 (c : Int) (p : P3) : P3 := (sh c p.1, sh c p.2.1, sh c p.2.2)
def outer (p : P3) : P2 := (p.1, p.2.2)
def nLine (n c : Int) : P2 := if c = n - 1 then (0, c) else (c, c + 2)
def nTri (n c : Int) : P3 := if c = n - 1 then (0, c, n) else (c, c + 1, c + 2)
structure CInv (n : Int) (ls : List P2) (T : List P3) : Prop where
 n3 : 3 ≤ n
 tri : ∀ a c b, (a, c, b) ∈ T → 0 ≤ a ∧ a < c ∧ c < b ∧ b ≤ n - 1 ∧ ((a, c) ∈ ls ∨ c = a + 1) ∧ ((c, b) ∈ ls ∨ b = c + 1)
 lin : ∀ a b, (a, b) ∈ ls → 0 ≤ a ∧ a + 2 ≤ b ∧ b ≤ n - 1 ∧ ¬ (a = 0 ∧ b = n - 1)
 nc : ∀ a b c d, (a, b) ∈ ls → (c, d) ∈ ls → ¬ (a < c ∧ c < b ∧ b < d)
 nd : ls.Nodup
 prm : (T.map outer).Perm ((0, n - 1) :: ls)
theorem inv3 : CInv 3 [] [(0, 1, 2)] where
 n3 := by omega
 tri := fun a c b h => by simp only [List.mem_cons, Prod.mk.injEq, List.not_mem_nil, or_false] at h; omega
 lin := fun a b h => by simp at h
 nc := fun a b c d h => by simp at h
 nd := List.nodup_nil
 prm := .refl _
theorem z83 {c : Int} {ls : List P2} {x y : Int} (h : (x, y) ∈ ls.map (sh2 c)) : ∃ a b, (a, b) ∈ ls ∧ x = sh c a ∧ y = sh c b := by
 obtain ⟨⟨a, b⟩, hm, e⟩ := List.mem_map.mp h
 simp only [sh2, Prod.mk.injEq] at e
 exact ⟨a, b, hm, e.1.symm, e.2.symm⟩
theorem z172 {c : Int} {ls : List P2} {a b : Int} (h : (a, b) ∈ ls) : (sh c a, sh c b) ∈ ls.map (sh2 c) := List.mem_map.mpr ⟨(a, b), h, rfl⟩
theorem sh_inj {c x y : Int} (h : sh c x = sh c y) : x = y := by
 unfold sh at h; split at h <;> split at h <;> omega
theorem CInv.grow {n : Int} {ls : List P2} {T : List P3} (I : CInv n ls T) (c : Int) (h0 : 0 ≤ c) (h1 : c < n) : CInv (n + 1) (ls.map (sh2 c) ++ [nLine n c]) (T.map (sh3 c) ++ [nTri n c]) where
 n3 := by have := I.n3; omega
 tri := fun x y z h => by
   have h3 := I.n3
   rcases List.mem_append.mp h with h | h
   . obtain ⟨⟨a, m, b⟩, hm, e⟩ := List.mem_map.mp h
     simp only [sh3, Prod.mk.injEq] at e
     obtain ⟨rfl, rfl, rfl⟩ := e
     obtain ⟨g1, g2, g3, g4, g5, g6⟩ := I.tri a m b hm
     have k1 : 0 ≤ sh c a := by unfold sh; split <;> omega
     have k2 : sh c a < sh c m := by unfold sh; split <;> split <;> omega
     have k3 : sh c m < sh c b := by unfold sh; split <;> split <;> omega
     have k4 : sh c b ≤ n + 1 - 1 := by unfold sh; split <;> omega
     have side : ∀ u w, u + 1 = w → w ≤ n - 1 → (sh c u, sh c w) ∈ ls.map (sh2 c) ++ [nLine n c] ∨ sh c w = sh c u + 1 := fun u w e hw => by
       by_cases q : u = c
       . left
         refine List.mem_append.mpr (.inr ?_)
         have e1 : sh c u = c := by unfold sh; split <;> omega
         have e2 : sh c w = c + 2 := by unfold sh; split <;> omega
         rw [e1, e2]; unfold nLine; rw [if_neg (by omega)]; simp
       . right; unfold sh; split <;> split <;> omega
     refine ⟨k1, k2, k3, k4, ?_, ?_⟩
     . rcases g5 with g5 | g5
       . exact .inl (List.mem_append.mpr (.inl (z172 g5)))
       . exact side a m (by omega) (by omega)
     . rcases g6 with g6 | g6
       . exact .inl (List.mem_append.mpr (.inl (z172 g6)))
       . exact side m b (by omega) (by omega)
   . simp only [List.mem_singleton] at h
     unfold nTri at h
     by_cases q : c = n - 1
     . rw [if_pos q] at h
       simp only [Prod.mk.injEq] at h
       obtain ⟨rfl, rfl, rfl⟩ := h
       refine ⟨by omega, by omega, by omega, by omega, .inl (List.mem_append.mpr (.inr ?_)), .inr (by omega)⟩
       unfold nLine; rw [if_pos q]; simp
     . rw [if_neg q] at h
       simp only [Prod.mk.injEq] at h
       obtain ⟨rfl, rfl, rfl⟩ := h
       exact ⟨by omega, by omega, by omega, by omega, .inr rfl, .inr (by omega)⟩
 lin := fun x y h => by
   have h3 := I.n3
   rcases List.mem_append.mp h with h | h
   . obtain ⟨a, b, hm, rfl, rfl⟩ := z83 h
     obtain ⟨g1, g2, g3, g4⟩ := I.lin a b hm
     unfold sh; split <;> split <;> omega
   . simp only [List.mem_singleton] at h
     unfold nLine at h
     by_cases q : c = n - 1
     . rw [if_pos q] at h; simp only [Prod.mk.injEq] at h; omega
     . rw [if_neg q] at h; simp only [Prod.mk.injEq] at h; omega
 nc := fun x y z w h h' => by
   have h3 := I.n3
   rcases List.mem_append.mp h with h | h <;> rcases List.mem_append.mp h' with h' | h'
   . obtain ⟨a, b, hm, rfl, rfl⟩ := z83 h
     obtain ⟨a', b', hm', rfl, rfl⟩ := z83 h'
     have := I.nc a b a' b' hm hm'
     unfold sh; split <;> split <;> split <;> split <;> omega
   . obtain ⟨a, b, hm, rfl, rfl⟩ := z83 h
     simp only [List.mem_singleton] at h'
     have := I.lin a b hm
     unfold nLine at h'
     by_cases q : c = n - 1
     . rw [if_pos q] at h'; simp only [Prod.mk.injEq] at h'; unfold sh; split <;> split <;> omega
     . rw [if_neg q] at h'; simp only [Prod.mk.injEq] at h'; unfold sh; split <;> split <;> omega
   . obtain ⟨a, b, hm, rfl, rfl⟩ := z83 h'
     simp only [List.mem_singleton] at h
     have := I.lin a b hm
     unfold nLine at h
     by_cases q : c = n - 1
     . rw [if_pos q] at h; simp only [Prod.mk.injEq] at h; unfold sh; split <;> split <;> omega
     . rw [if_neg q] at h; simp only [Prod.mk.injEq] at h; unfold sh; split <;> split <;> omega
   . simp only [List.mem_singleton] at h h'
     rw [← h'] at h; simp only [Prod.mk.injEq] at h; omega
 nd := by
   have h3 := I.n3
   rw [List.nodup_append]
   refine ⟨?_, by simp, fun p hp q hq => ?_⟩
   . refine (List.pairwise_map.mpr (I.nd.imp fun {p q} hne e => hne ?_))
     simp only [sh2, Prod.mk.injEq] at e
     exact Prod.ext (sh_inj e.1) (sh_inj e.2)
   . simp only [List.mem_singleton] at hq
     subst hq
     obtain ⟨x, y⟩ := p
     obtain ⟨a, b, hm, rfl, rfl⟩ := z83 hp
     have := I.lin a b hm
     intro e
     unfold nLine at e
     by_cases q : c = n - 1
     . rw [if_pos q] at e; simp only [Prod.mk.injEq] at e; unfold sh at e; split at e <;> split at e <;> omega
     . rw [if_neg q] at e; simp only [Prod.mk.injEq] at e; unfold sh at e; split at e <;> split at e <;> omega
 prm := by
   have h3 := I.n3
   have e1 : (T.map (sh3 c) ++ [nTri n c]).map outer = (T.map outer).map (sh2 c) ++ [outer (nTri n c)] := by
     simp only [List.map_append, List.map_map, List.map_cons, List.map_nil]; rfl
   have p1 : ((T.map outer).map (sh2 c) ++ [outer (nTri n c)]).Perm (((0, n - 1) :: ls).map (sh2 c) ++ [outer (nTri n c)]) := (I.prm.map (sh2 c)).append_right _
   rw [e1]
   refine p1.trans ?_
   have e0 : sh c 0 = 0 := by unfold sh; split <;> omega
   rw [List.map_cons]
   by_cases q : c = n - 1
   . have e2 : sh2 c (0, n - 1) = nLine n c := by
       unfold nLine sh2; rw [if_pos q]; simp only [Prod.mk.injEq]; exact ⟨e0, by unfold sh; split <;> omega⟩
     have e3 : outer (nTri n c) = (0, n + 1 - 1) := by unfold nTri outer; rw [if_pos q]; simp
     rw [e2, e3]
     refine (List.perm_append_comm (l₁ := _ :: _) (l₂ := [_])).trans ?_
     refine List.Perm.cons _ ?_
     exact (List.perm_append_comm (l₁ := [nLine n c]) (l₂ := ls.map (sh2 c)))
   . have e2 : sh2 c (0, n - 1) = (0, n + 1 - 1) := by
       unfold sh2; simp only [Prod.mk.injEq]; exact ⟨e0, by unfold sh; split <;> omega⟩
     have e3 : outer (nTri n c) = nLine n c := by unfold nTri nLine outer; rw [if_neg q, if_neg q]
     rw [e2, e3]; exact .refl _
end Cu
namespace Cu
open L2 (mxD mxD_is T2 T3 so3 zc5 z14)
def pk (x : Int) (p l : P2) : Bool := decide (l.1 = x) && (decide (l.2 ≤ p.2) && !(decide (l.1 = p.1) && decide (l.2 = p.2)))
theorem pk_iff {x : Int} {p l : P2} : pk x p l = true ↔ l.1 = x ∧ l.2 ≤ p.2 ∧ ¬ (l.1 = p.1 ∧ l.2 = p.2) := by
 simp only [pk, Bool.and_eq_true, decide_eq_true_eq, Bool.not_eq_true', Bool.and_eq_false_iff, decide_eq_false_iff_not]
 constructor
 . rintro ⟨h1, h2, h3⟩; exact ⟨h1, h2, fun h => by rcases h3 with z | z <;> omega⟩
 . rintro ⟨h1, h2, h3⟩
   refine ⟨h1, h2, ?_⟩
   by_cases z : l.1 = p.1
   . exact .inr fun w => h3 ⟨z, w⟩
   . exact .inl z
def ends (x : Int) (p : P2) (ls : List P2) : List Int := (ls.filter (pk x p)).map (·.2)
theorem mem_ends {x : Int} {p : P2} {ls : List P2} {y : Int} : y ∈ ends x p ls ↔ (x, y) ∈ ls ∧ y ≤ p.2 ∧ ¬ (x = p.1 ∧ y = p.2) := by
 simp only [ends, List.mem_map, List.mem_filter, pk_iff]
 constructor
 . rintro ⟨⟨a, b⟩, ⟨h1, h2, h3, h4⟩, rfl⟩
   simp only at h2 h3 h4 ⊢
   subst h2; exact ⟨h1, h3, h4⟩
 . rintro ⟨h1, h2, h3⟩; exact ⟨(x, y), ⟨h1, rfl, h2, h3⟩, rfl⟩
section
variable {n : Int} {ls ls' : List P2} {T : List P3} {a b c : Int}
theorem CInv.beh1 (I : CInv n ls T) (p : ls'.Perm ls) (h : (a, c, b) ∈ T) : mxD (a + 1) (ends a (a, b) ls') = c := by
 obtain ⟨g1, g2, g3, g4, g5, g6⟩ := I.tri a c b h
 have key : ∀ y ∈ ends a (a, b) ls', y ≤ c := fun y hy => by
   obtain ⟨m1, m2, m3⟩ := mem_ends.mp hy
   have m1 := p.mem_iff.mp m1
   simp only at m2 m3
   have : ¬ y = b := fun z => m3 (by simpa using z)
   rcases g6 with g6 | g6
   . have := I.nc a y c b m1 g6; omega
   . omega
 refine mxD_is key ?_
 rcases g5 with g5 | g5
 . left; exact mem_ends.mpr ⟨p.mem_iff.mpr g5, by simp only; omega, by simp only; omega⟩
 . by_cases z : ends a (a, b) ls' = []
   . exact .inr ⟨z, by omega⟩
   . obtain ⟨y, hy⟩ := List.exists_mem_of_ne_nil _ z
     have := key y hy
     obtain ⟨m1, m2, m3⟩ := mem_ends.mp hy
     have := I.lin a y (p.mem_iff.mp m1); omega
theorem CInv.beh2 (I : CInv n ls T) (p : ls'.Perm ls) (h : (a, c, b) ∈ T) : mxD (c + 1) (ends c (a, b) ls') = b := by
 obtain ⟨g1, g2, g3, g4, g5, g6⟩ := I.tri a c b h
 refine mxD_is (fun y hy => (mem_ends.mp hy).2.1) ?_
 rcases g6 with g6 | g6
 . left; exact mem_ends.mpr ⟨p.mem_iff.mpr g6, by simp only; omega, by simp only; omega⟩
 . by_cases z : ends c (a, b) ls' = []
   . exact .inr ⟨z, by omega⟩
   . obtain ⟨y, hy⟩ := List.exists_mem_of_ne_nil _ z
     obtain ⟨m1, m2, m3⟩ := mem_ends.mp hy
     have := I.lin c y (p.mem_iff.mp m1); simp only at m2; omega
def thr (T : List P3) (p : P2) : P3 := (T.find? fun t => decide (outer t = p)).getD (0, 0, 0)
theorem thr_of {p : P2} (h : p ∈ T.map outer) : thr T p ∈ T ∧ outer (thr T p) = p := by
 obtain ⟨t, ht, e⟩ := List.mem_map.mp h
 unfold thr
 cases hf : T.find? fun t => decide (outer t = p) with
 | none =>
   have := List.find?_eq_none.mp hf t ht
   simp [e] at this
 | some u =>
   have h1 := List.mem_of_find?_eq_some hf
   have h2 := List.find?_some hf
   exact ⟨h1, by simpa using h2⟩
theorem CInv.thr_outer (I : CInv n ls T) {t : P3} (h : t ∈ T) : thr T (outer t) = t := by
 obtain ⟨h1, h2⟩ := thr_of (T := T) (List.mem_map.mpr ⟨t, h, rfl⟩)
 obtain ⟨a, c, b⟩ := t
 generalize thr T (outer (a, c, b)) = u at h1 h2
 obtain ⟨a', c', b'⟩ := u
 simp only [outer, Prod.mk.injEq] at h2
 obtain ⟨rfl, rfl⟩ := h2
 have e1 := I.beh1 (.refl _) h1
 have e2 := I.beh1 (.refl _) h
 rw [e1] at e2
 rw [e2]
theorem CInv.tops (I : CInv n ls T) (p : ls'.Perm ls) : (((0, n - 1) :: ls').map (thr T)).Perm T := by
 have q : ((0, n - 1) :: ls').Perm (T.map outer) := (p.cons _).trans I.prm.symm
 refine (q.map (thr T)).trans ?_
 rw [List.map_map]
 have : T.map (thr T ∘ outer) = T := by
   conv => rhs; rw [← List.map_id T]
   exact List.map_congr_left fun t ht => I.thr_outer ht
 rw [this]
theorem CInv.top_in (I : CInv n ls T) (p : ls'.Perm ls) {q : P2} (h : q ∈ (0, n - 1) :: ls') : thr T q ∈ T ∧ outer (thr T q) = q :=
 thr_of ((((p.cons _).trans I.prm.symm).mem_iff).mp h)
theorem CInv.len (I : CInv n ls T) : T.length = ls.length + 1 := by
 have := I.prm.length_eq; simpa using this
end
theorem sh_eq {c x y : Int} : (sh c x = sh c y) ↔ x = y := ⟨sh_inj, fun h => by rw [h]⟩
end Cu
namespace Cu
open Bd (gR growR z98 z51)
def ind (k : Int) (t : P3) : Int := (if k = t.1 then 1 else 0) + (if k = t.2.1 then 1 else 0) + (if k = t.2.2 then 1 else 0)
def c1 (k : Int) : List P3 → Int
 | [] => 0
 | t :: r => ind k t + c1 k r
theorem c1_app (k : Int) : ∀ (a b : List P3), c1 k (a ++ b) = c1 k a + c1 k b
 | [], b => by simp [c1]
 | t :: a, b => by simp only [List.cons_append, c1, c1_app k a b]; omega
theorem z1e8 (k : Int) {a b : List P3} (p : a.Perm b) : c1 k a = c1 k b := by
 induction p with
 | nil => rfl
 | cons x _ ih => simp only [c1, ih]
 | swap x y l => simp only [c1]; omega
 | trans _ _ i1 i2 => exact i1.trans i2
theorem ind_sh (c o : Int) (t : P3) : ind (sh c o) (sh3 c t) = ind o t := by simp only [ind, sh3, sh_eq]
theorem c1_sh (c o : Int) : ∀ T : List P3, c1 (sh c o) (T.map (sh3 c)) = c1 o T
 | [] => rfl
 | t :: T => by simp only [List.map_cons, c1, ind_sh, c1_sh c o T]
theorem c1_new (c : Int) : ∀ T : List P3, c1 (c + 1) (T.map (sh3 c)) = 0
 | [] => rfl
 | t :: T => by
   have h : ∀ x, ¬ (c + 1 = sh c x) := fun x => by unfold sh; split <;> omega
   simp only [List.map_cons, c1, ind, sh3, h, if_false, c1_new c T]; rfl
def Rw (row : List Int) (T : List P3) : Prop := ∀ k, k < row.length → row.getD k 0 = c1 (k : Int) T
theorem rw3 : Rw [1, 1, 1] [(0, 1, 2)] := by
 intro k hk
 match k, hk with
 | 0, _ => decide
 | 1, _ => decide
 | 2, _ => decide
theorem Rw.grow {row : List Int} {T : List P3} (h : Rw row T) (c : Nat) (hc : c < row.length) (hn : 3 ≤ row.length) : Rw (growR row c) (T.map (sh3 (c : Int)) ++ [nTri (row.length : Int) (c : Int)]) := by
 intro k hk
 rw [z51 row c hc] at hk
 rw [z98 row c k hc (by omega) hk, c1_app]
 unfold gR
 by_cases a : k = c + 1
 . subst a
   rw [if_pos rfl, show ((c + 1 : Nat) : Int) = (c : Int) + 1 by omega, c1_new]
   simp only [c1]
   by_cases q : (c : Int) = (row.length : Int) - 1
   . rw [show nTri (row.length : Int) (c : Int) = (0, (c : Int), (row.length : Int)) by unfold nTri; rw [if_pos q]]
     simp only [ind]
     rw [if_neg (by omega), if_neg (by omega), if_pos (by omega)]; rfl
   . rw [show nTri (row.length : Int) (c : Int) = ((c : Int), (c : Int) + 1, (c : Int) + 2) by unfold nTri; rw [if_neg q]]
     simp only [ind]
     rw [if_neg (by omega), if_pos (by first | trivial | rfl), if_neg (by omega)]; rfl
 . rw [if_neg a]
   obtain ⟨o, ho, e⟩ : ∃ o : Nat, (if k ≤ c then k else k - 1) = o ∧ ((k : Int) = sh (c : Int) (o : Int) ∧ o < row.length) := by
     by_cases z : k ≤ c
     . exact ⟨k, by rw [if_pos z], by unfold sh; rw [if_neg (by omega)], by omega⟩
     . exact ⟨k - 1, by rw [if_neg z], by unfold sh; rw [if_pos (by omega)]; omega, by omega⟩
   rw [ho]
   show row.getD o 0 + (if o = c then 1 else 0) + (if o = (c + 1) % row.length then 1 else 0) = _
   rw [h o e.2, e.1, c1_sh]
   simp only [c1]
   have e1 := e.1
   have e2 := e.2
   by_cases q : (c : Int) = (row.length : Int) - 1
   . have m0 : (c + 1) % row.length = 0 := by rw [show c + 1 = row.length by omega, Nat.mod_self]
     rw [show nTri (row.length : Int) (c : Int) = (0, (c : Int), (row.length : Int)) by unfold nTri; rw [if_pos q], m0]
     simp only [ind]
     by_cases z1 : o = c
     . rw [if_pos z1, if_neg (by omega), if_neg (by unfold sh; split <;> omega), if_pos (by unfold sh; split <;> omega), if_neg (by unfold sh; split <;> omega)]; omega
     . by_cases z2 : o = 0
       . rw [if_neg z1, if_pos z2, if_pos (by unfold sh; split <;> omega), if_neg (by unfold sh; split <;> omega), if_neg (by unfold sh; split <;> omega)]; omega
       . rw [if_neg z1, if_neg z2, if_neg (by unfold sh; split <;> omega), if_neg (by unfold sh; split <;> omega), if_neg (by unfold sh; split <;> omega)]; omega
   . have m0 : (c + 1) % row.length = c + 1 := Nat.mod_eq_of_lt (by omega)
     rw [show nTri (row.length : Int) (c : Int) = ((c : Int), (c : Int) + 1, (c : Int) + 2) by unfold nTri; rw [if_neg q], m0]
     simp only [ind]
     by_cases z1 : o = c
     . rw [if_pos z1, if_neg (by omega), if_pos (by unfold sh; split <;> omega), if_neg (by unfold sh; split <;> omega), if_neg (by unfold sh; split <;> omega)]; omega
     . by_cases z2 : o = c + 1
       . rw [if_neg z1, if_pos z2, if_neg (by unfold sh; split <;> omega), if_neg (by unfold sh; split <;> omega), if_pos (by unfold sh; split <;> omega)]; omega
       . rw [if_neg z1, if_neg z2, if_neg (by unfold sh; split <;> omega), if_neg (by unfold sh; split <;> omega), if_neg (by unfold sh; split <;> omega)]; omega
end Cu
namespace Bd
def sc (s : Int) (u : Vc) : Vc := (s * u.1, s * u.2)
end Bd
namespace Cu
open L2 (so2 z96 ze4 ltT T2 Srt z4a z35 ois_of oi_T2 z5f T2_inj D)
def le2 (a b : P2) : Prop := a.1 < b.1 ∨ (a.1 = b.1 ∧ a.2 ≤ b.2)
def un (e x : Int) : Int := if x > e then x - 1 else x
end Cu
namespace Cu
open L2 (so2 z96 zc6)
open Bd
open PySem (intBits_mul_le intBits_sub_le)
open PySem.Builtin.Int (intBits)
def bn (row : List Int) (i : Nat) : Nat → Int
 | 0 => 0
 | 1 => 1
 | d + 2 => row.getD ((i + (d + 1)) % row.length) 0 * bn row i (d + 1) - bn row i d
theorem bn_dt {row : List Int} {v : Nat → Vc} (G : Good row v) (i : Nat) : ∀ d, bn row i d = dt (v i) (v (i + d))
 | 0 => by rw [Nat.add_zero, z50]; rfl
 | 1 => by rw [G.fr.one i]; rfl
 | d + 2 => by
   have F := G.fr.rc (v i) (i + d)
   rw [show i + d + 1 = i + (d + 1) by omega, show i + d + 2 = i + (d + 2) by omega] at F
   rw [bn, bn_dt G i d, bn_dt G i (d + 1), F]
def pr (a b : Nat) : P2 := ((a : Int), (b : Int))
def st2 (a b : P2) : Prop := a.1 < b.1 ∨ (a.1 = b.1 ∧ a.2 < b.2)
def shN (c p : Nat) : Nat := if p > c then p + 1 else p
theorem gV_lo (n c : Nat) (v : Nat → Vc) (k : Nat) (h : k ≤ n) : gV n c v k = gq n c v 0 k := by
 have := gV_at n c v 0 k h
 rwa [Nat.zero_mul, Nat.zero_add] at this
theorem gV_old (n c : Nat) (v : Nat → Vc) (p : Nat) (hp : p < n) : gV n c v (shN c p) = v p := by
 unfold shN
 by_cases h : p > c
 . rw [if_pos h, gV_lo _ _ _ _ (by omega), gq_hi _ _ _ _ _ (by omega), Nat.zero_mul, Nat.zero_add]
 . rw [if_neg h, gV_lo _ _ _ _ (by omega), gq_lo _ _ _ _ _ (by omega), Nat.zero_mul, Nat.zero_add]
theorem gV_new (n c : Nat) (v : Nat → Vc) (hc : c < n) : gV n c v (c + 1) = ad (v c) (v (c + 1)) := by
 rw [gV_lo _ _ _ _ (by omega), gq_new, Nat.zero_mul, Nat.zero_add]
end Cu
namespace Cu
open L2 (so2 z96 zc6 so3 z14 zc5 z82 ltT T3 Srt z4a z35 ois_of oi_T3 z5f T3_inj D)
open Bd
theorem z120 {α : Type} {r : α → α → Prop} (as : ∀ a b, r a b → ¬ r b a) : ∀ {xs ys : List α}, xs.Pairwise r → ys.Pairwise r → (∀ x, x ∈ xs ↔ x ∈ ys) → xs = ys
 | [], [], _, _, _ => rfl
 | [], y :: _, _, _, h => by have := (h y).mpr (by simp); cases this
 | x :: _, [], _, _, h => by have := (h x).mp (by simp); cases this
 | x :: xs, y :: ys, hx, hy, h => by
   rw [List.pairwise_cons] at hx hy
   have e : x = y := by
     rcases List.mem_cons.mp ((h x).mp (by simp)) with e | e
     . exact e
     . rcases List.mem_cons.mp ((h y).mpr (by simp)) with e' | e'
       . exact e'.symm
       . exact absurd (hy.1 x e) (as _ _ (hx.1 y e'))
   subst e
   congr 1
   refine z120 as hx.2 hy.2 fun z => ⟨fun m => ?_, fun m => ?_⟩
   . rcases List.mem_cons.mp ((h z).mp (List.mem_cons_of_mem _ m)) with e | e
     . subst e; exact absurd (hx.1 z m) (as _ _ (hx.1 z m))
     . exact e
   . rcases List.mem_cons.mp ((h z).mpr (List.mem_cons_of_mem _ m)) with e | e
     . subst e; exact absurd (hy.1 z m) (as _ _ (hy.1 z m))
     . exact e
def le3 (a b : P3) : Prop := a.1 < b.1 ∨ (a.1 = b.1 ∧ (a.2.1 < b.2.1 ∨ (a.2.1 = b.2.1 ∧ a.2.2 ≤ b.2.2)))
theorem ltT_T3 (p q : P3) : ltT (T3 p) (T3 q) = decide (p.1 < q.1 ∨ (p.1 = q.1 ∧ (p.2.1 < q.2.1 ∨ (p.2.1 = q.2.1 ∧ p.2.2 < q.2.2)))) := by
 obtain ⟨a, b, c⟩ := p; obtain ⟨d, e, f⟩ := q
 simp only [T3, L2.ltT, L2.ltTs, L2.eqD]
 by_cases h1 : a = d
 . subst h1
   by_cases h2 : b = e
   . subst h2
     by_cases h3 : c = f
     . simp [h3]
     . simp [h3]
   . simp [h2]
 . simp [h1]
theorem z121 (xs : List P3) : Srt (xs.map T3) ↔ xs.Pairwise le3 := by
 unfold Srt
 rw [List.pairwise_map]
 constructor
 . exact fun h => h.imp fun {a b} h => by
     rw [ltT_T3, decide_eq_false_iff_not] at h; unfold le3; omega
 . exact fun h => h.imp fun {a b} h => by
     rw [ltT_T3, decide_eq_false_iff_not]; unfold le3 at h; omega
theorem so3_pw (ls : List P3) : (so3 ls).Pairwise le3 := by
 rw [← z121, ← z82]; exact z35 (ois_of ls T3 oi_T3)
theorem so3_id {xs ls : List P3} (h : xs.Pairwise le3) (p : xs.Perm ls) : xs = so3 ls := by
 have := z4a (ois_of xs T3 oi_T3) ((p.trans (z14 ls).symm).map T3) ((z121 xs).mpr h) ((z121 _).mpr (so3_pw ls))
 exact z5f (fun _ _ => T3_inj) this
theorem sh_lt {c x y : Int} : sh c x < sh c y ↔ x < y := by unfold sh; split <;> split <;> omega
theorem so3_sh (c : Int) (T : List P3) : so3 (T.map (sh3 c)) = (so3 T).map (sh3 c) := by
 refine (so3_id ?_ ((z14 T).map _)).symm
 rw [List.pairwise_map]
 refine (so3_pw T).imp fun {a b} h => ?_
 have key : ∀ x y : Int, (sh c x < sh c y ↔ x < y) ∧ (sh c x = sh c y ↔ x = y) := fun x y => ⟨sh_lt, sh_eq⟩
 have l3 : sh c a.2.2 ≤ sh c b.2.2 ↔ a.2.2 ≤ b.2.2 := by have := sh_lt (c := c) (x := b.2.2) (y := a.2.2); omega
 unfold le3 at h ⊢
 simp only [sh3, (key _ _).1, (key _ _).2, l3]
 exact h
theorem z1a1 {c : Int} {T : List P3} {t : P3} (ht : t ∉ T.map (sh3 c)) : ∃ A B, so3 T = A ++ B ∧ so3 (T.map (sh3 c) ++ [t]) = A.map (sh3 c) ++ t :: B.map (sh3 c) := by
 have hm : t ∈ so3 (T.map (sh3 c) ++ [t]) := (z14 _).mem_iff.mpr (by simp)
 obtain ⟨A', B', e⟩ := List.append_of_mem hm
 have p1 : (A' ++ t :: B').Perm (t :: T.map (sh3 c)) := by
   rw [← e]; exact (z14 _).trans (List.perm_append_comm (l₁ := T.map (sh3 c)) (l₂ := [t]))
 have p2 : (A' ++ B').Perm (T.map (sh3 c)) := (List.perm_middle.symm.trans p1).cons_inv
 have pw : (A' ++ B').Pairwise le3 := by
   have := so3_pw (T.map (sh3 c) ++ [t])
   rw [e] at this
   exact this.sublist (List.Sublist.append (List.Sublist.refl _) (List.sublist_cons_self _ _))
 have e2 := so3_id pw p2
 rw [so3_sh] at e2
 obtain ⟨A, B, h1, h2, h3⟩ := List.map_eq_append_iff.mp e2.symm
 exact ⟨A, B, h1, by rw [e, h2, h3]⟩
def lx : List Int → List Int → Prop
 | c :: x, d :: y => c < d ∨ (c = d ∧ lx x y)
 | _, _ => False
theorem lx_as : ∀ a b, lx a b → ¬ lx b a
 | [], [], h => by simp [lx] at h
 | [], _ :: _, h => by simp [lx] at h
 | _ :: _, [], h => by simp [lx] at h
 | c :: x, d :: y, h => by
   simp only [lx] at h ⊢
   rcases h with h | ⟨rfl, h⟩
   . omega
   . intro q
     rcases q with q | ⟨_, q⟩
     . omega
     . exact lx_as x y h q
theorem lx_app : ∀ {a b : List Int} (u w : List Int), lx a b → lx (a ++ u) (b ++ w)
 | [], [], u, w, h => by simp [lx] at h
 | [], _ :: _, u, w, h => by simp [lx] at h
 | _ :: _, [], u, w, h => by simp [lx] at h
 | c :: x, d :: y, u, w, h => by
   simp only [lx, List.cons_append] at h ⊢
   exact h.imp id fun ⟨e, q⟩ => ⟨e, lx_app u w q⟩
theorem z173 : ∀ (g : List Int) {c d : Int}, c < d → lx (g ++ [c]) (g ++ [d])
 | [], c, d, h => by simp only [List.nil_append, lx]; exact Or.inl h
 | a :: g, c, d, h => by simp only [List.cons_append, lx]; exact Or.inr ⟨trivial, z173 g h⟩
theorem lx_map {f : Int → Int} (hf : ∀ x y, x < y → f x < f y) : ∀ {a b : List Int}, lx a b → lx (a.map f) (b.map f)
 | [], [], h => by simp [lx] at h
 | [], _ :: _, h => by simp [lx] at h
 | _ :: _, [], h => by simp [lx] at h
 | c :: x, d :: y, h => by
   simp only [lx, List.map_cons] at h ⊢
   rcases h with h | ⟨rfl, h⟩
   . exact Or.inl (hf _ _ h)
   . exact Or.inr ⟨rfl, lx_map hf h⟩
def cor (t : P3) : List Int := [t.1, t.2.1, t.2.2]
def xt (E : List Int) (t : P3) (g : List Int) : List (List Int) := (((cor t).filter fun c => decide (c ∉ E)).filter fun c => decide (c ∉ g)).map fun c => g ++ [c]
def Sg (E : List Int) : List P3 → List (List Int) → List (List Int)
 | [], B => B
 | t :: ts, B => Sg E ts (B.flatMap (xt E t))
def Sh (E : List Int) (ts : List P3) : List (List Int) := Sg E ts [[]]
def Al : List Int → List P3 → Prop
 | [], [] => True
 | c :: x, t :: ts => c ∈ cor t ∧ Al x ts
 | _, _ => False
theorem Al.len : ∀ {x : List Int} {ts : List P3}, Al x ts → x.length = ts.length
 | [], [], _ => rfl
 | [], _ :: _, h => by simp [Al] at h
 | _ :: _, [], h => by simp [Al] at h
 | c :: x, t :: ts, h => by simp only [Al] at h; simp only [List.length_cons, h.2.len]
def Vd (E : List Int) (ts : List P3) (x : List Int) : Prop := Al x ts ∧ x.Nodup ∧ ∀ c ∈ x, c ∉ E
theorem mem_xt {E : List Int} {t : P3} {g x : List Int} : x ∈ xt E t g ↔ ∃ c ∈ cor t, c ∉ E ∧ c ∉ g ∧ x = g ++ [c] := by
 unfold xt
 simp only [List.mem_map, List.mem_filter, decide_eq_true_eq]
 exact ⟨fun ⟨c, ⟨⟨h1, h2⟩, h3⟩, e⟩ => ⟨c, h1, h2, h3, e.symm⟩, fun ⟨c, h1, h2, h3, e⟩ => ⟨c, ⟨⟨h1, h2⟩, h3⟩, e.symm⟩⟩
theorem mem_Sg (E : List Int) : ∀ (ts : List P3) (B : List (List Int)) (x : List Int), x ∈ Sg E ts B ↔ ∃ g ∈ B, ∃ y, x = g ++ y ∧ Al y ts ∧ y.Nodup ∧ (∀ c ∈ y, c ∉ g) ∧ ∀ c ∈ y, c ∉ E
 | [], B, x => by
   simp only [Sg]
   constructor
   . intro h
     exact ⟨x, h, [], by simp, trivial, List.nodup_nil, by simp, by simp⟩
   . rintro ⟨g, hg, y, rfl, ha, _⟩
     cases y with
     | nil => simpa using hg
     | cons => simp [Al] at ha
 | t :: ts, B, x => by
   simp only [Sg]
   rw [mem_Sg E ts]
   constructor
   . rintro ⟨g', hg', y, rfl, ha, hn, h1, h2⟩
     obtain ⟨g, hg, hx⟩ := List.mem_flatMap.mp hg'
     obtain ⟨c, hc, hE, hcg, rfl⟩ := mem_xt.mp hx
     refine ⟨g, hg, c :: y, by simp, ⟨hc, ha⟩, List.nodup_cons.mpr ⟨fun m => h1 c m (by simp), hn⟩, fun d hd => ?_, fun d hd => ?_⟩
     . rcases List.mem_cons.mp hd with rfl | hd
       . exact hcg
       . exact fun m => h1 d hd (by simp [m])
     . rcases List.mem_cons.mp hd with rfl | hd
       . exact hE
       . exact h2 d hd
   . rintro ⟨g, hg, y, rfl, ha, hn, h1, h2⟩
     cases y with
     | nil => simp [Al] at ha
     | cons c y =>
       simp only [Al] at ha
       rw [List.nodup_cons] at hn
       refine ⟨g ++ [c], List.mem_flatMap.mpr ⟨g, hg, mem_xt.mpr ⟨c, ha.1, h2 c (by simp), h1 c (by simp), rfl⟩⟩, y, by simp, ha.2, hn.2, fun d hd m => ?_, fun d hd => h2 d (by simp [hd])⟩
       rcases List.mem_append.mp m with m | m
       . exact h1 d (by simp [hd]) m
       . rw [List.mem_singleton] at m; subst m; exact hn.1 hd
theorem mem_Sh {E : List Int} {ts : List P3} {x : List Int} : x ∈ Sh E ts ↔ Vd E ts x := by
 unfold Sh Vd
 rw [mem_Sg]
 constructor
 . rintro ⟨g, hg, y, rfl, ha, hn, _, h2⟩
   rw [List.mem_singleton] at hg; subst hg
   exact ⟨ha, hn, h2⟩
 . rintro ⟨ha, hn, h2⟩
   exact ⟨[], by simp, x, rfl, ha, hn, by simp, h2⟩
def Asc (ts : List P3) : Prop := ∀ t ∈ ts, t.1 < t.2.1 ∧ t.2.1 < t.2.2
theorem Sg_lx (E : List Int) : ∀ (ts : List P3) (B : List (List Int)) (m : Nat), Asc ts → (∀ g ∈ B, g.length = m) → B.Pairwise lx → (Sg E ts B).Pairwise lx
 | [], B, m, _, _, h => h
 | t :: ts, B, m, ha, hl, h => by
   have ht := ha t (by simp)
   simp only [Sg]
   refine Sg_lx E ts _ (m + 1) (fun u hu => ha u (by simp [hu])) (fun g' hg' => ?_) ?_
   . obtain ⟨g, hg, hx⟩ := List.mem_flatMap.mp hg'
     obtain ⟨c, _, _, _, rfl⟩ := mem_xt.mp hx
     rw [List.length_append, hl g hg, List.length_singleton]
   . rw [List.pairwise_flatMap]
     refine ⟨fun g hg => ?_, h.imp_of_mem fun {g g'} hg hg' q x hx y hy => ?_⟩
     . unfold xt
       rw [List.pairwise_map]
       have : (cor t).Pairwise (· < ·) := by
         unfold cor
         simp only [List.pairwise_cons, List.mem_cons, List.not_mem_nil, or_false, forall_eq_or_imp, forall_eq, List.Pairwise.nil, and_true, false_imp_iff, implies_true]
         omega
       exact ((this.sublist List.filter_sublist).sublist List.filter_sublist).imp fun {c d} q => z173 g q
     . obtain ⟨c, _, _, _, rfl⟩ := mem_xt.mp hx
       obtain ⟨d, _, _, _, rfl⟩ := mem_xt.mp hy
       exact lx_app _ _ q
theorem Sh_lx {E : List Int} {ts : List P3} (ha : Asc ts) : (Sh E ts).Pairwise lx := Sg_lx E ts [[]] 0 ha (by simp) (List.pairwise_singleton _ _)
theorem z1a2 {E E' : List Int} (h : ∀ k, k ∈ E ↔ k ∈ E') {ts : List P3} (ha : Asc ts) : Sh E ts = Sh E' ts :=
 z120 lx_as (Sh_lx ha) (Sh_lx ha) fun x => by rw [mem_Sh, mem_Sh]; unfold Vd; simp only [h]
def insW : Nat → Int → List Int → List Int
 | 0, w, y => w :: y
 | k + 1, w, c :: y => c :: insW k w y
 | _ + 1, w, [] => [w]
theorem z4c : ∀ (k : Nat) (w : Int) (y : List Int), (insW k w y).Perm (w :: y)
 | 0, w, y => .refl _
 | k + 1, w, c :: y => by simp only [insW]; exact ((z4c k w y).cons c).trans (List.Perm.swap w c y)
 | _ + 1, w, [] => .refl _
theorem ins_at : ∀ (k : Nat) (w : Int) (y : List Int), k ≤ y.length → (insW k w y).getD k 0 = w
 | 0, w, y, _ => rfl
 | k + 1, w, c :: y, h => by simp only [insW, List.getD_cons_succ]; exact ins_at k w y (by simpa using h)
 | k + 1, w, [], h => by simp at h
theorem ins_lx : ∀ (k : Nat) (w : Int) {y z : List Int}, lx y z → lx (insW k w y) (insW k w z)
 | 0, w, y, z, h => by simp only [insW, lx]; exact Or.inr ⟨trivial, h⟩
 | k + 1, w, [], [], h => by simp [lx] at h
 | k + 1, w, [], _ :: _, h => by simp [lx] at h
 | k + 1, w, _ :: _, [], h => by simp [lx] at h
 | k + 1, w, c :: y, d :: z, h => by
   simp only [lx, insW] at h ⊢
   exact h.imp id fun ⟨e, q⟩ => ⟨e, ins_lx k w q⟩
theorem Al_ins (t : P3) (w : Int) (B : List P3) : ∀ (A : List P3) (y : List Int), y.length = A.length + B.length → (Al (insW A.length w y) (A ++ t :: B) ↔ w ∈ cor t ∧ Al y (A ++ B))
 | [], y, _ => by simp only [List.length_nil, insW, List.nil_append, Al]
 | a :: A, [], h => by simp at h; omega
 | a :: A, c :: y, h => by
   simp only [List.length_cons, insW, List.cons_append, Al]
   rw [Al_ins t w B A y (by simp only [List.length_cons] at h; omega)]
   exact ⟨fun ⟨h1, h2, h3⟩ => ⟨h2, h1, h3⟩, fun ⟨h2, h1, h3⟩ => ⟨h1, h2, h3⟩⟩
theorem z74 (t : P3) (B : List P3) : ∀ (A : List P3) (x : List Int), Al x (A ++ t :: B) → ∃ w y, x = insW A.length w y ∧ y.length = A.length + B.length
 | [], [], h => by simp [Al] at h
 | [], w :: y, h => ⟨w, y, rfl, by simp only [List.nil_append, Al] at h; simp [h.2.len]⟩
 | a :: A, [], h => by simp [Al] at h
 | a :: A, c :: x, h => by
   simp only [List.cons_append, Al] at h
   obtain ⟨w, y, e, hl⟩ := z74 t B A x h.2
   exact ⟨w, c :: y, by simp only [List.length_cons, insW, e], by simp only [List.length_cons, hl]; omega⟩
theorem cor_sh {c k : Int} {t : P3} : sh c k ∈ cor (sh3 c t) ↔ k ∈ cor t := by
 unfold cor sh3
 simp only [List.mem_cons, List.not_mem_nil, or_false, sh_eq]
theorem Al_sh (c : Int) : ∀ {y : List Int} {ts : List P3}, Al (y.map (sh c)) (ts.map (sh3 c)) ↔ Al y ts
 | [], [] => Iff.rfl
 | [], _ :: _ => by simp [Al]
 | _ :: _, [] => by simp [Al]
 | k :: y, t :: ts => by simp only [List.map_cons, Al, cor_sh, Al_sh c]
theorem z122 (c : Int) : ∀ {x : List Int} {ts : List P3}, Al x (ts.map (sh3 c)) → ∃ y : List Int, x = y.map (sh c)
 | [], [], _ => ⟨[], rfl⟩
 | [], _ :: _, h => by simp [Al] at h
 | _ :: _, [], h => by simp [Al] at h
 | k :: x, t :: ts, h => by
   simp only [List.map_cons, Al] at h
   obtain ⟨y, e⟩ := z122 c h.2
   have : ∃ j, k = sh c j := by
     have := h.1
     unfold cor sh3 at this
     simp only [List.mem_cons, List.not_mem_nil, or_false] at this
     rcases this with e | e | e <;> exact ⟨_, e⟩
   obtain ⟨j, e2⟩ := this
   exact ⟨j :: y, by rw [e, e2]; rfl⟩
theorem nd_map_sh {c : Int} {y : List Int} : (y.map (sh c)).Nodup ↔ y.Nodup := by
 constructor
 . intro h
   exact (List.pairwise_map.mp h).imp fun {a b} q e => q (by rw [e])
 . intro h
   exact List.pairwise_map.mpr (h.imp fun {a b} q e => q (sh_eq.mp e))
theorem mem_map_sh {c k : Int} {y : List Int} : sh c k ∈ y.map (sh c) ↔ k ∈ y := by
 rw [List.mem_map]
 exact ⟨fun ⟨j, hj, e⟩ => sh_eq.mp e ▸ hj, fun h => ⟨k, h, rfl⟩⟩
theorem Asc.sh {ts : List P3} (h : Asc ts) (c : Int) : Asc (ts.map (sh3 c)) := fun t ht => by
 obtain ⟨u, hu, rfl⟩ := List.mem_map.mp ht
 have := h u hu
 simp only [sh3, sh_lt]; exact this
section
variable {E E0 : List Int} {c w : Int} {A B : List P3} {t : P3}
theorem Sh_ins (ha : Asc (A ++ B)) (htA : t.1 < t.2.1 ∧ t.2.1 < t.2.2) (hw : w ∈ cor t) (hwE : w ∉ E) (hE : ∀ k, sh c k ∈ w :: E ↔ k ∈ E0) :
   (Sh E (A.map (sh3 c) ++ t :: B.map (sh3 c))).filter (fun x => decide (x.getD A.length 0 = w)) = (Sh E0 (A ++ B)).map (fun (y : List Int) => insW A.length w (y.map (sh c))) := by
 have hA : Asc (A.map (sh3 c) ++ t :: B.map (sh3 c)) := fun u hu => by
   rcases List.mem_append.mp hu with h | h
   . exact Asc.sh (ts := A) (fun t ht => ha t (by simp [ht])) c u h
   . rcases List.mem_cons.mp h with rfl | h
     . exact htA
     . exact Asc.sh (ts := B) (fun t ht => ha t (by simp [ht])) c u h
 refine z120 lx_as ((Sh_lx hA).sublist List.filter_sublist) ?_ fun x => ?_
 . rw [List.pairwise_map]
   exact (Sh_lx ha).imp fun {y z} q => ins_lx _ _ (lx_map (fun _ _ => sh_lt.mpr) q)
 . rw [List.mem_filter, List.mem_map, mem_Sh, decide_eq_true_eq]
   constructor
   . rintro ⟨⟨h1, h2, h3⟩, h4⟩
     obtain ⟨w', y', rfl, hl⟩ := z74 t _ _ x h1
     rw [List.length_map] at *
     rw [List.length_map] at hl
     rw [ins_at _ _ _ (by omega)] at h4
     subst h4
     have pm := z4c A.length w' y'
     have hal := (Al_ins t w' (B.map (sh3 c)) (A.map (sh3 c)) y' (by rw [List.length_map, List.length_map]; exact hl)).mp (by rw [List.length_map]; exact h1)
     rw [← List.map_append] at hal
     obtain ⟨y, rfl⟩ := z122 c hal.2
     have nd := pm.nodup_iff.mp h2
     rw [List.nodup_cons] at nd
     refine ⟨y, mem_Sh.mpr ⟨(Al_sh c).mp hal.2, nd_map_sh.mp nd.2, fun k hk hk0 => ?_⟩, rfl⟩
     have m1 : sh c k ∈ y.map (sh c) := mem_map_sh.mpr hk
     rcases List.mem_cons.mp ((hE k).mpr hk0) with e | e
     . exact nd.1 (e ▸ m1)
     . exact h3 _ (pm.mem_iff.mpr (by simp [m1])) e
   . rintro ⟨y, hy, rfl⟩
     obtain ⟨h1, h2, h3⟩ := mem_Sh.mp hy
     have hl : (y.map (sh c)).length = A.length + B.length := by rw [List.length_map, h1.len, List.length_append]
     have pm := z4c A.length w (y.map (sh c))
     refine ⟨⟨?_, pm.nodup_iff.mpr (List.nodup_cons.mpr ⟨fun m => ?_, nd_map_sh.mpr h2⟩), fun d hd => ?_⟩, ins_at _ _ _ (by omega)⟩
     . have := (Al_ins t w (B.map (sh3 c)) (A.map (sh3 c)) (y.map (sh c)) (by rw [hl, List.length_map, List.length_map])).mpr ⟨hw, by rw [← List.map_append]; exact (Al_sh c).mpr h1⟩
       rw [List.length_map] at this
       exact this
     . obtain ⟨k, hk, e⟩ := List.mem_map.mp m
       exact h3 k hk ((hE k).mp (by rw [e]; simp))
     . rcases List.mem_cons.mp (pm.mem_iff.mp hd) with rfl | hd
       . exact hwE
       . obtain ⟨k, hk, rfl⟩ := List.mem_map.mp hd
         exact fun m => h3 k hk ((hE k).mp (by simp [m]))
theorem z1e9 (hwE : w ∈ E) : (Sh E (A.map (sh3 c) ++ t :: B.map (sh3 c))).filter (fun x => decide (x.getD A.length 0 = w)) = [] := by
 rw [List.filter_eq_nil_iff]
 intro x hx
 rw [decide_eq_true_eq]
 obtain ⟨h1, h2, h3⟩ := mem_Sh.mp hx
 obtain ⟨w', y', rfl, hl⟩ := z74 t _ _ x h1
 rw [List.length_map] at *
 rw [List.length_map] at hl
 rw [ins_at _ _ _ (by omega)]
 rintro rfl
 exact h3 _ ((z4c A.length w' y').mem_iff.mpr (by simp)) hwE
theorem Sh_wit {x : List Int} (hx : x ∈ Sh E (A.map (sh3 c) ++ t :: B.map (sh3 c))) : x.getD A.length 0 ∈ cor t ∧ x.getD A.length 0 ∉ E ∧ x.length = A.length + B.length + 1 := by
 obtain ⟨h1, h2, h3⟩ := mem_Sh.mp hx
 obtain ⟨w', y', rfl, hl⟩ := z74 t _ _ x h1
 rw [List.length_map] at *
 rw [List.length_map] at hl
 rw [ins_at _ _ _ (by omega)]
 have hal := (Al_ins t w' (B.map (sh3 c)) (A.map (sh3 c)) y' (by rw [List.length_map, List.length_map]; exact hl)).mp (by rw [List.length_map]; exact h1)
 refine ⟨hal.1, h3 _ ((z4c A.length w' y').mem_iff.mpr (by simp)), ?_⟩
 rw [(z4c A.length w' y').length_eq, List.length_cons, hl]
end
theorem nd_len : ∀ {xs ys : List Int}, xs.Nodup → (∀ x ∈ xs, x ∈ ys) → xs.length ≤ ys.length
 | [], _, _, _ => Nat.zero_le _
 | x :: xs, ys, h, k => by
   rw [List.nodup_cons] at h
   have hx := k x (by simp)
   have := nd_len (ys := ys.erase x) h.2 fun z hz => (List.mem_erase_of_ne (fun e : z = x => h.1 (by rw [← e]; exact hz))).mpr (k z (by simp [hz]))
   rw [List.length_erase_of_mem hx] at this
   have : 0 < ys.length := List.length_pos_of_mem hx
   rw [List.length_cons]; omega
theorem Al.mem : ∀ {x : List Int} {ts : List P3}, Al x ts → ∀ k ∈ x, ∃ u ∈ ts, k ∈ cor u
 | [], _, _, k, hk => by cases hk
 | _ :: _, [], h, _, _ => by simp [Al] at h
 | c :: x, t :: ts, h, k, hk => by
   simp only [Al] at h
   rcases List.mem_cons.mp hk with rfl | hk
   . exact ⟨t, by simp, h.1⟩
   . obtain ⟨u, hu, hm⟩ := h.2.mem k hk
     exact ⟨u, by simp [hu], hm⟩
def en1 (n c : Int) : Int := if c = n - 1 then 0 else c
def en2 (n c : Int) : Int := if c = n - 1 then c else c + 1
theorem ze7 {n c k : Int} (hn : 3 ≤ n) (h0 : 0 ≤ c) (h1 : c < n) : k ∈ cor (nTri n c) ↔ k = sh c (en1 n c) ∨ k = sh c (en2 n c) ∨ k = c + 1 := by
 unfold nTri en1 en2 cor sh
 by_cases h : c = n - 1
 . simp only [if_pos h, List.mem_cons, List.not_mem_nil, or_false]
   rw [if_neg (by omega), if_neg (by omega)]; omega
 . simp only [if_neg h, List.mem_cons, List.not_mem_nil, or_false]
   rw [if_neg (by omega), if_pos (by omega)]; omega
theorem en_ne {n c : Int} (hn : 3 ≤ n) (h0 : 0 ≤ c) (h1 : c < n) : en1 n c ≠ en2 n c := by
 unfold en1 en2; split <;> omega
theorem nsh {c k : Int} : sh c k ≠ c + 1 := by unfold sh; split <;> omega
structure Gr (n : Nat) (c : Nat) (A B : List P3) : Prop where
 n3 : 3 ≤ n
 hc : c < n
 asc : Asc (A ++ B)
 bd : ∀ u ∈ A ++ B, ∀ k ∈ cor u, 0 ≤ k ∧ k < n
 len : A.length + B.length + 2 = n
section
variable {n c : Nat} {A B : List P3}
theorem Gr.tri (G : Gr n c A B) : (nTri (n : Int) c).1 < (nTri (n : Int) c).2.1 ∧ (nTri (n : Int) c).2.1 < (nTri (n : Int) c).2.2 := by
 have := G.n3
 have := G.hc
 unfold nTri; split <;> simp only <;> omega
def grw (n c : Nat) (A B : List P3) : List P3 := A.map (sh3 (c : Int)) ++ nTri (n : Int) (c : Int) :: B.map (sh3 (c : Int))
theorem Gr.bd' (G : Gr n c A B) : ∀ u ∈ grw n c A B, ∀ k ∈ cor u, 0 ≤ k ∧ k ≤ n := by
 have hn := G.n3
 have hc := G.hc
 have aux : ∀ u ∈ A ++ B, ∀ k ∈ cor (sh3 (c : Int) u), 0 ≤ k ∧ k ≤ n := fun u hu k hk => by
   have : ∃ j, k = sh (c : Int) j ∧ j ∈ cor u := by
     unfold cor sh3 at hk
     simp only [List.mem_cons, List.not_mem_nil, or_false] at hk
     rcases hk with e | e | e
     . exact ⟨_, e, by simp [cor]⟩
     . exact ⟨_, e, by simp [cor]⟩
     . exact ⟨_, e, by simp [cor]⟩
   obtain ⟨j, rfl, hj⟩ := this
   have := G.bd u hu j hj
   unfold sh; split <;> omega
 intro u hu k hk
 unfold grw at hu
 rcases List.mem_append.mp hu with h | h
 . obtain ⟨w, hw, rfl⟩ := List.mem_map.mp h
   exact aux w (by simp [hw]) k hk
 . rcases List.mem_cons.mp h with rfl | h
   . unfold cor nTri at hk
     split at hk <;> simp only [List.mem_cons, List.not_mem_nil, or_false] at hk <;> omega
   . obtain ⟨w, hw, rfl⟩ := List.mem_map.mp h
     exact aux w (by simp [hw]) k hk
theorem Gr.new (G : Gr n c A B) {i j : Int} (hi : 0 ≤ i ∧ i < n) (hj : 0 ≤ j ∧ j < n) (hij : i ≠ j) {x : List Int} (hx : x ∈ Sh [sh (c : Int) i, sh (c : Int) j] (grw n c A B)) : x.getD A.length 0 = (c : Int) + 1 := by
 have hn := G.n3
 have hc := G.hc
 have hlen := G.len
 obtain ⟨h1, h2, h3⟩ := mem_Sh.mp hx
 have hm : ((c : Int) + 1) ∈ x := by
   refine Classical.byContradiction fun hno => ?_
   have nd : (((c : Int) + 1) :: sh (c : Int) i :: sh (c : Int) j :: x).Nodup := by
     simp only [List.nodup_cons, List.mem_cons, not_or]
     exact ⟨⟨fun e => nsh e.symm, fun e => nsh e.symm, hno⟩, ⟨fun e => hij (sh_eq.mp e), fun m => h3 _ m (by simp)⟩, fun m => h3 _ m (by simp), h2⟩
   have := nd_len (ys := (List.range (n + 1)).map fun (k : Nat) => (k : Int)) nd fun z hz => by
     rw [List.mem_map]
     have hz' : 0 ≤ z ∧ z ≤ n := by
       simp only [List.mem_cons] at hz
       rcases hz with rfl | rfl | rfl | hz
       . omega
       . unfold sh; split <;> omega
       . unfold sh; split <;> omega
       . obtain ⟨u, hu, hk⟩ := h1.mem z hz
         exact G.bd' u hu z hk
     exact ⟨z.toNat, by rw [List.mem_range]; omega, by omega⟩
   rw [List.length_map, List.length_range] at this
   simp only [List.length_cons] at this
   have hl := h1.len
   unfold grw at hl
   rw [List.length_append, List.length_cons, List.length_map, List.length_map] at hl
   omega
 unfold grw at h1
 obtain ⟨w, y, rfl, hl⟩ := z74 _ _ _ x h1
 rw [List.length_map] at *
 rw [List.length_map] at hl
 rw [ins_at _ _ _ (by omega)]
 have hal := (Al_ins (nTri (n : Int) c) w (B.map (sh3 c)) (A.map (sh3 c)) y (by rw [List.length_map, List.length_map]; exact hl)).mp (by rw [List.length_map]; exact h1)
 rw [← List.map_append] at hal
 obtain ⟨y', rfl⟩ := z122 (c : Int) hal.2
 rcases List.mem_cons.mp ((z4c A.length w _).mem_iff.mp hm) with e | e
 . exact e.symm
 . obtain ⟨k, _, e⟩ := List.mem_map.mp e
   exact absurd e nsh
theorem Gr.old (G : Gr n c A B) {i j : Int} (hi : 0 ≤ i ∧ i < n) (hj : 0 ≤ j ∧ j < n) (hij : i ≠ j) :
   Sh [sh (c : Int) i, sh (c : Int) j] (grw n c A B) = (Sh [i, j] (A ++ B)).map fun (y : List Int) => insW A.length ((c : Int) + 1) (y.map (sh (c : Int))) := by
 have hn := G.n3
 have hc := G.hc
 have e := Sh_ins (E := [sh (c : Int) i, sh (c : Int) j]) (E0 := [i, j]) (c := (c : Int)) (w := (c : Int) + 1) (t := nTri (n : Int) c) G.asc G.tri ((ze7 (by omega) (by omega) (by omega)).mpr (Or.inr (Or.inr rfl)))
   (by simp only [List.mem_cons, List.not_mem_nil, or_false]; rintro (h | h) <;> exact nsh h.symm)
   (fun k => by simp only [List.mem_cons, List.not_mem_nil, or_false, sh_eq]; exact ⟨fun h => h.elim (fun h => absurd h nsh) id, Or.inr⟩)
 rw [← e, List.filter_eq_self.mpr]
 . rfl
 . exact fun x hx => decide_eq_true (G.new hi hj hij hx)
theorem Gr.at (G : Gr n c A B) {e j : Int} (he : e = en1 n c ∨ e = en2 n c) (hej : e ≠ j) :
   (Sh [(c : Int) + 1, sh (c : Int) j] (grw n c A B)).filter (fun x => decide (x.getD A.length 0 = sh (c : Int) e)) = (Sh [e, j] (A ++ B)).map fun (y : List Int) => insW A.length (sh (c : Int) e) (y.map (sh (c : Int))) := by
 have hn := G.n3
 have hc := G.hc
 refine Sh_ins (E := [(c : Int) + 1, sh (c : Int) j]) (E0 := [e, j]) (c := (c : Int)) (w := sh (c : Int) e) (t := nTri (n : Int) c) G.asc G.tri ((ze7 (by omega) (by omega) (by omega)).mpr ?_) ?_ fun k => ?_
 . rcases he with rfl | rfl
   . exact Or.inl rfl
   . exact Or.inr (Or.inl rfl)
 . simp only [List.mem_cons, List.not_mem_nil, or_false]
   rintro (h | h)
   . exact nsh h
   . exact hej (sh_eq.mp h)
 . simp only [List.mem_cons, List.not_mem_nil, or_false, sh_eq]
   exact ⟨fun h => h.imp id fun h => h.elim (fun h => absurd h nsh) id, fun h => h.imp id Or.inr⟩
theorem Gr.at0 (n c : Nat) (A B : List P3) (j : Int) : (Sh [(c : Int) + 1, sh (c : Int) j] (grw n c A B)).filter (fun x => decide (x.getD A.length 0 = sh (c : Int) j)) = [] := z1e9 (by simp)
theorem Gr.two (G : Gr n c A B) {j : Int} {x : List Int} (hx : x ∈ Sh [(c : Int) + 1, sh (c : Int) j] (grw n c A B)) : x.getD A.length 0 = sh (c : Int) (en1 n c) ∨ x.getD A.length 0 = sh (c : Int) (en2 n c) := by
 have hn := G.n3
 have hc := G.hc
 obtain ⟨h1, h2, _⟩ := Sh_wit hx
 rcases (ze7 (by omega) (by omega) (by omega)).mp h1 with h | h | h
 . exact Or.inl h
 . exact Or.inr h
 . exact absurd (by rw [h]; simp) h2
theorem z174 {α : Type} (p : α → Bool) : ∀ l : List α, l.length = (l.filter p).length + (l.filter fun x => !p x).length
 | [] => rfl
 | a :: l => by
   have := z174 p l
   cases h : p a
   . rw [List.filter_cons_of_neg (by simp [h]), List.filter_cons_of_pos (by simp [h]), List.length_cons, List.length_cons]; omega
   . rw [List.filter_cons_of_pos h, List.filter_cons_of_neg (by simp [h]), List.length_cons, List.length_cons]; omega
def cn (i j : Int) (ts : List P3) : Nat := if i = j then 0 else (Sh [i, j] ts).length
theorem cn_sw {i j : Int} {ts : List P3} (ha : Asc ts) : cn i j ts = cn j i ts := by
 unfold cn
 by_cases h : i = j
 . rw [if_pos h, if_pos h.symm]
 . rw [if_neg h, if_neg (fun e => h e.symm), z1a2 (E' := [j, i]) (fun k => by simp only [List.mem_cons, List.not_mem_nil, or_false]; exact Or.comm) ha]
theorem Gr.cold (G : Gr n c A B) {i j : Int} (hi : 0 ≤ i ∧ i < n) (hj : 0 ≤ j ∧ j < n) : cn (sh (c : Int) i) (sh (c : Int) j) (grw n c A B) = cn i j (A ++ B) := by
 unfold cn
 by_cases h : i = j
 . rw [if_pos h, if_pos (by rw [h])]
 . rw [if_neg h, if_neg (fun e => h (sh_eq.mp e)), G.old hi hj h, List.length_map]
theorem Gr.cnew (G : Gr n c A B) (j : Int) : cn ((c : Int) + 1) (sh (c : Int) j) (grw n c A B) = cn (en1 n c) j (A ++ B) + cn (en2 n c) j (A ++ B) := by
 have hn := G.n3
 have hc := G.hc
 have one : ∀ e, (e = en1 n c ∨ e = en2 n c) → ((Sh [(c : Int) + 1, sh (c : Int) j] (grw n c A B)).filter (fun x => decide (x.getD A.length 0 = sh (c : Int) e))).length = cn e j (A ++ B) := fun e he => by
   unfold cn
   by_cases h : e = j
   . rw [if_pos h, h, Gr.at0]; rfl
   . rw [if_neg h, G.at he h, List.length_map]
 rw [← one _ (Or.inl rfl), ← one _ (Or.inr rfl)]
 show (if _ then _ else _) = _
 rw [if_neg (fun e => nsh e.symm)]
 have hne := en_ne (n := (n : Int)) (c := (c : Int)) (by omega) (by omega) (by omega)
 generalize hl : Sh [(c : Int) + 1, sh (c : Int) j] (grw n c A B) = l
 rw [z174 (fun x => decide (x.getD A.length 0 = sh (c : Int) (en1 n c))) l]
 congr 2
 refine List.filter_congr fun x hx => ?_
 rw [← hl] at hx
 rcases G.two hx with h | h
 . rw [h, decide_eq_true rfl, decide_eq_false fun e => hne (sh_eq.mp e)]; rfl
 . rw [h, decide_eq_false fun e => hne (sh_eq.mp e).symm, decide_eq_true rfl]; rfl
end
def mm (v : Nat → Vc) (p q : Nat) : Int := dt (v (min p q)) (v (max p q))
theorem mm_sw (v : Nat → Vc) (p q : Nat) : mm v p q = mm v q p := by unfold mm; rw [Nat.min_comm, Nat.max_comm]
theorem mm_old (n c : Nat) (v : Nat → Vc) (p q : Nat) (hp : p < n) (hq : q < n) : mm (gV n c v) (shN c p) (shN c q) = mm v p q := by
 unfold mm
 rw [show min (shN c p) (shN c q) = shN c (min p q) by unfold shN; split <;> split <;> split <;> omega, show max (shN c p) (shN c q) = shN c (max p q) by unfold shN; split <;> split <;> split <;> omega,
   gV_old _ _ _ _ (by omega), gV_old _ _ _ _ (by omega)]
theorem mm_new {n : Nat} {R : Nat → Int} {v : Nat → Vc} (F : Fr n R v) (hn : 3 ≤ n) (c p : Nat) (hc : c < n) (hp : p < n) : mm (gV n c v) (c + 1) (shN c p) = mm v c p + mm v ((c + 1) % n) p := by
 by_cases h : p ≤ c
 . have e : shN c p = p := by unfold shN; rw [if_neg (by omega)]
   have := gV_old n c v p hp
   rw [e] at this ⊢
   unfold mm
   rw [Nat.min_eq_right (show p ≤ c + 1 by omega), Nat.max_eq_left (show p ≤ c + 1 by omega), this, gV_new _ _ _ hc, zae, Nat.min_eq_right h, Nat.max_eq_left h]
   by_cases z : c + 1 = n
   . have t := F.turn p 0
     rw [Nat.zero_add] at t
     rw [z, Nat.mod_self, Nat.min_eq_left (Nat.zero_le p), Nat.max_eq_right (Nat.zero_le p), t, dt_sw (v 0)]; omega
   . rw [Nat.mod_eq_of_lt (show c + 1 < n by omega), Nat.min_eq_right (show p ≤ c + 1 by omega), Nat.max_eq_left (show p ≤ c + 1 by omega)]
 . have e : shN c p = p + 1 := by unfold shN; rw [if_pos (by omega)]
   have := gV_old n c v p hp
   rw [e] at this ⊢
   unfold mm
   rw [Nat.min_eq_left (show c + 1 ≤ p + 1 by omega), Nat.max_eq_right (show c + 1 ≤ p + 1 by omega), this, gV_new _ _ _ hc, ze6, Nat.min_eq_left (show c ≤ p by omega), Nat.max_eq_right (show c ≤ p by omega),
     Nat.mod_eq_of_lt (show c + 1 < n by omega), Nat.min_eq_left (show c + 1 ≤ p by omega), Nat.max_eq_right (show c + 1 ≤ p by omega)]
theorem CInv.asc {n : Int} {ls : List P2} {T : List P3} (I : CInv n ls T) : Asc (so3 T) := fun t ht => by
 obtain ⟨a, c, b⟩ := t
 have := I.tri a c b ((z14 T).mem_iff.mp ht)
 exact ⟨this.2.1, this.2.2.1⟩
theorem CInv.tlen {n : Nat} {ls : List P2} {T : List P3} (I : CInv (n : Int) ls T) (hl : ls.length + 3 = n) : T.length + 2 = n := by
 have := I.prm.length_eq
 rw [List.length_map, List.length_cons] at this
 omega
theorem Gr.of {n : Nat} {ls : List P2} {T : List P3} (I : CInv (n : Int) ls T) (hl : ls.length + 3 = n) (c : Nat) (hc : c < n) :
   ∃ A B, so3 T = A ++ B ∧ so3 (T.map (sh3 (c : Int)) ++ [nTri (n : Int) (c : Int)]) = grw n c A B ∧ Gr n c A B := by
 have h3 := I.n3
 have ht : nTri (n : Int) (c : Int) ∉ T.map (sh3 (c : Int)) := fun h => by
   obtain ⟨u, _, e⟩ := List.mem_map.mp h
   have : ((c : Int) + 1) ∈ cor (sh3 (c : Int) u) := by rw [e]; exact (ze7 (by omega) (by omega) (by omega)).mpr (Or.inr (Or.inr rfl))
   unfold cor sh3 at this
   simp only [List.mem_cons, List.not_mem_nil, or_false] at this
   rcases this with e | e | e <;> exact nsh e.symm
 obtain ⟨A, B, h1, h2⟩ := z1a1 ht
 refine ⟨A, B, h1, h2, by omega, hc, by rw [← h1]; exact I.asc, fun u hu k hk => ?_, ?_⟩
 . rw [← h1] at hu
   obtain ⟨a, d, b⟩ := u
   have := I.tri a d b ((z14 T).mem_iff.mp hu)
   unfold cor at hk
   simp only [List.mem_cons, List.not_mem_nil, or_false] at hk
   omega
 . have := I.tlen hl
   rw [← (z14 T).length_eq, h1, List.length_append] at this
   exact this
def Sc (n : Nat) (T : List P3) (v : Nat → Vc) : Prop := ∀ i j : Nat, i < n → j < n → ((cn (i : Int) (j : Int) (so3 T) : Nat) : Int) = mm v i j
theorem sc3 : Sc 3 [(0, 1, 2)] v3 := by
 intro i j hi hj
 rw [show so3 [((0 : Int), (1 : Int), (2 : Int))] = [(0, 1, 2)] from rfl]
 have h1 : i = 0 ∨ i = 1 ∨ i = 2 := by omega
 have h2 : j = 0 ∨ j = 1 ∨ j = 2 := by omega
 rcases h1 with rfl | rfl | rfl <;> rcases h2 with rfl | rfl | rfl <;> decide
theorem shN_sh (c p : Nat) : ((shN c p : Nat) : Int) = sh (c : Int) (p : Int) := by unfold shN sh; split <;> split <;> omega
theorem old_or {n c x : Nat} (hc : c < n) (hx : x < n + 1) : x = c + 1 ∨ ∃ y, y < n ∧ x = shN c y := by
 by_cases h : x ≤ c
 . exact Or.inr ⟨x, by omega, by unfold shN; rw [if_neg (by omega)]⟩
 . by_cases h' : x = c + 1
   . exact Or.inl h'
   . exact Or.inr ⟨x - 1, by omega, by unfold shN; rw [if_pos (by omega)]; omega⟩
theorem Sc.grow {n : Nat} {R : Nat → Int} {ls : List P2} {T : List P3} {v : Nat → Vc} (C : Sc n T v) (F : Fr n R v) (I : CInv (n : Int) ls T) (hl : ls.length + 3 = n) (c : Nat) (hc : c < n) :
   Sc (n + 1) (T.map (sh3 (c : Int)) ++ [nTri (n : Int) (c : Int)]) (gV n c v) := by
 have h3 : 3 ≤ n := by have := I.n3; omega
 obtain ⟨A, B, h1, h2, G⟩ := Gr.of I hl c hc
 have ha : Asc (grw n c A B) := by
   rw [← h2]
   have := I.grow (c : Int) (by omega) (by omega)
   exact this.asc
 have new : ∀ q, q < n → ((cn ((c : Int) + 1) (sh (c : Int) (q : Int)) (grw n c A B) : Nat) : Int) = mm (gV n c v) (c + 1) (shN c q) := fun q hq => by
   rw [G.cnew, mm_new F h3 c q hc hq, ← h1]
   have e1 := C c q hc hq
   have e2 := C ((c + 1) % n) q (Nat.mod_lt _ (by omega)) hq
   rw [← e1, ← e2]
   unfold en1 en2
   by_cases z : c + 1 = n
   . rw [if_pos (by omega), if_pos (by omega), z, Nat.mod_self]
     push_cast; omega
   . rw [if_neg (by omega), if_neg (by omega), Nat.mod_eq_of_lt (by omega)]
     push_cast; rfl
 intro i j hi hj
 rw [h2]
 rcases old_or hc hi with rfl | ⟨p, hp, rfl⟩
 . rcases old_or hc hj with rfl | ⟨q, hq, rfl⟩
   . unfold cn mm
     rw [if_pos rfl, Nat.min_self, Nat.max_self, z50]; rfl
   . rw [shN_sh]; exact new q hq
 . rcases old_or hc hj with rfl | ⟨q, hq, rfl⟩
   . rw [shN_sh, cn_sw ha, mm_sw]; exact new p hp
   . rw [shN_sh, shN_sh, G.cold (by omega) (by omega), ← h1, mm_old _ _ _ _ _ hp hq]
     exact C p q hp hq
def pin (o : List Int) (k : Nat) (x : Int) : List Int := o.take k ++ x :: o.drop k
theorem z175 (o : List Int) (k : Nat) (x : Int) : (pin o k x).length = o.length + 1 := by
 simp only [pin, List.length_append, List.length_cons, List.length_take, List.length_drop]; omega
theorem pin_at (o : List Int) (k : Nat) (x : Int) (hk : k ≤ o.length) (i : Nat) (hi : i < o.length) : (pin o k x).getD (if k ≤ i then i + 1 else i) 0 = o.getD i 0 := by
 unfold pin
 simp only [List.getD_eq_getElem?_getD]
 by_cases h : k ≤ i
 . rw [if_pos h, List.getElem?_append_right (by rw [List.length_take]; omega), List.length_take, show i + 1 - min k o.length = (i - k) + 1 by omega, List.getElem?_cons_succ, List.getElem?_drop, show k + (i - k) = i by omega]
 . rw [if_neg h, List.getElem?_append_left (by rw [List.length_take]; omega), List.getElem?_take, if_pos (by omega)]
def nm3 (o : List Int) (p : P3) : List Int := [o.getD p.1.toNat 0, o.getD p.2.1.toNat 0, o.getD p.2.2.toNat 0]
def rot (p : P3) : P3 := if p.2.1 < p.2.2 then p else (p.2.2, p.1, p.2.1)
structure Nm (o : List Int) (tp : List P3) (T : List P3) : Prop where
 l3 : 3 ≤ o.length
 rng : ∀ x ∈ o, 0 ≤ x ∧ x < o.length
 nd : o.Nodup
 inn : ∀ p ∈ tp, (0 ≤ p.1 ∧ p.1 < o.length) ∧ (0 ≤ p.2.1 ∧ p.2.1 < o.length) ∧ (0 ≤ p.2.2 ∧ p.2.2 < o.length)
 shp : ∀ p ∈ tp, p.1 < p.2.1 ∧ (p.2.1 < p.2.2 ∨ p.2.2 < p.1)
 srt : tp.map rot = T
theorem nm0 : Nm [0, 1, 2] [(0, 1, 2)] [(0, 1, 2)] := ⟨by decide, by decide, by decide, by decide, by decide, rfl⟩
def nwT (m c : Nat) : P3 := ((c : Int), (c : Int) + 1, sh (c : Int) (((c + 1) % m : Nat) : Int))
theorem rot_sh (c : Int) (p : P3) : rot (sh3 c p) = sh3 c (rot p) := by
 unfold rot
 by_cases h : p.2.1 < p.2.2
 . rw [if_pos h, if_pos (show (sh3 c p).2.1 < (sh3 c p).2.2 from sh_lt.mpr h)]
 . rw [if_neg h, if_neg (show ¬ (sh3 c p).2.1 < (sh3 c p).2.2 from fun z => h (sh_lt.mp z))]; rfl
theorem Nm.grow {o : List Int} {tp T : List P3} (N : Nm o tp T) (c : Nat) (hc : c < o.length) :
   Nm (pin o (c + 1) (o.length : Int)) (tp.map (sh3 (c : Int)) ++ [nwT o.length c]) (T.map (sh3 (c : Int)) ++ [nTri (o.length : Int) (c : Int)]) ∧
   tp.map (nm3 o) ++ [[o.getD c 0, (o.length : Int), o.getD ((c + 1) % o.length) 0]] = (tp.map (sh3 (c : Int)) ++ [nwT o.length c]).map (nm3 (pin o (c + 1) (o.length : Int))) := by
 have h3 := N.l3
 have hl := z175 o (c + 1) (o.length : Int)
 have m1 : (c + 1) % o.length < o.length := Nat.mod_lt _ (by omega)
 have shN' : ∀ x : Int, 0 ≤ x → x < o.length → (pin o (c + 1) (o.length : Int)).getD (sh (c : Int) x).toNat 0 = o.getD x.toNat 0 := fun x x0 x1 => by
   have := pin_at o (c + 1) (o.length : Int) (by omega) x.toNat (by omega)
   rw [← this]
   congr 1
   unfold sh
   split
   . rw [if_pos (by omega)]; omega
   . rw [if_neg (by omega)]
 have hnew : (pin o (c + 1) (o.length : Int)).getD (c + 1) 0 = (o.length : Int) := by
   unfold pin
   rw [List.getD_eq_getElem?_getD, List.getElem?_append_right (by rw [List.length_take]; omega), List.length_take, show c + 1 - min (c + 1) o.length = 0 by omega]; rfl
 have hw : ∀ x : Int, x = (((c + 1) % o.length : Nat) : Int) → (c + 1 = o.length ∧ x = 0) ∨ (c + 1 < o.length ∧ x = (c : Int) + 1) := fun x hx => by
   by_cases z : c + 1 = o.length
   . left; rw [z, Nat.mod_self] at hx; omega
   . right; rw [Nat.mod_eq_of_lt (by omega)] at hx; omega
 refine ⟨⟨by omega, ?_, ?_, ?_, ?_, ?_⟩, ?_⟩
 . intro x hx
   rw [hl]
   rcases List.mem_append.mp hx with h | h
   . have := N.rng x (List.mem_of_mem_take h); omega
   . rcases List.mem_cons.mp h with h | h
     . omega
     . have := N.rng x (List.mem_of_mem_drop h); omega
 . have p : (pin o (c + 1) (o.length : Int)).Perm ((o.length : Int) :: o) := by
     unfold pin
     exact List.perm_middle.trans (.cons _ (.of_eq (List.take_append_drop _ _)))
   rw [p.nodup_iff, List.nodup_cons]
   exact ⟨fun h => by have := N.rng _ h; omega, N.nd⟩
 . intro p hp
   rw [hl]
   rcases List.mem_append.mp hp with h | h
   . obtain ⟨q, hq, rfl⟩ := List.mem_map.mp h
     have := N.inn q hq
     unfold sh3 sh
     simp only
     refine ⟨⟨?_, ?_⟩, ⟨?_, ?_⟩, ?_, ?_⟩ <;> split <;> omega
   . rw [List.mem_singleton] at h
     subst h
     unfold nwT sh
     simp only
     refine ⟨⟨?_, ?_⟩, ⟨?_, ?_⟩, ?_, ?_⟩ <;> (try split) <;> omega
 . intro p hp
   rcases List.mem_append.mp hp with h | h
   . obtain ⟨q, hq, rfl⟩ := List.mem_map.mp h
     have := N.shp q hq
     exact ⟨sh_lt.mpr this.1, this.2.imp sh_lt.mpr sh_lt.mpr⟩
   . rw [List.mem_singleton] at h
     subst h
     unfold nwT
     simp only
     rcases hw _ rfl with ⟨z, e⟩ | ⟨z, e⟩ <;> rw [e] <;> unfold sh
     . rw [if_neg (by omega)]; omega
     . rw [if_pos (by omega)]; omega
 . rw [List.map_append, List.map_map, ← N.srt, List.map_map]
   congr 1
   . exact List.map_congr_left fun p _ => rot_sh _ p
   . rw [List.map_cons, List.map_nil]
     congr 1
     unfold nwT nTri rot
     rcases hw _ rfl with ⟨z, e⟩ | ⟨z, e⟩ <;> rw [e] <;> unfold sh
     . rw [if_neg (show ¬ (0 : Int) > (c : Int) by omega), if_neg (by simp only; omega), if_pos (by omega)]
       refine Prod.ext rfl (Prod.ext rfl ?_)
       show (c : Int) + 1 = o.length
       omega
     . rw [if_pos (show ((c : Int) + 1) > (c : Int) by omega), if_pos (by simp only; omega), if_neg (by omega)]
       refine Prod.ext rfl (Prod.ext rfl ?_)
       show (c : Int) + 1 + 1 = c + 2
       omega
 . rw [List.map_append, List.map_map]
   congr 1
   . refine List.map_congr_left fun p hp => ?_
     have := N.inn p hp
     show nm3 o p = nm3 _ (sh3 (c : Int) p)
     unfold nm3 sh3
     simp only
     rw [shN' _ this.1.1 this.1.2, shN' _ this.2.1.1 this.2.1.2, shN' _ this.2.2.1 this.2.2.2]
   . rw [List.map_cons, List.map_nil]
     congr 1
     unfold nm3 nwT
     simp only
     have e1 := shN' (c : Int) (by omega) (by omega)
     rw [show sh (c : Int) (c : Int) = c by unfold sh; rw [if_neg (by omega)]] at e1
     rw [e1, shN' _ (by omega) (by omega), show ((c : Int) + 1).toNat = c + 1 by omega, hnew, Int.toNat_natCast, Int.toNat_natCast]
end Cu
noncomputable section
namespace K43
open PySem PySem.Spec PyProof.Rows L2
def zaf : DS → SR :=
 (sRet [true] (eAnd (eUn (dIsi "int") (eVar 0)) (eUn (fun d => (dTru d).map fun b => .bl (!b)) (eUn (dIsi "bool") (eVar 0)))))
def z37 : List D → R D := mOf false 1 0 zaf
def z3e : DE → R Bool :=
 (bAnd (bVal asB (eOp dEq (eOp dIx (eVar 0) (eC (.int 0))) (eVar 1))) (bAnd (bVal asB (eOp dLe (eOp dIx (eVar 0) (eC (.int 1))) (eOp dIx (eVar 2) (eC (.int 1))))) (bVal asB (eOp dNe (eVar 0) (eVar 2)))))
def z3f : DE → R D :=
 (eOp dIx (eVar 0) (eC (.int 1)))
def z48 : DS → SR :=
 (sSeq (sAsg true 3 [true, true, true] (eComp (iL (eVar 2)) b1 [0, 1] z3e z3f))
   (sRet [true, false, false, true] (eCB dMaxD (eCons (eVar 3) (eCons (eOp dAddI (eVar 0) (eC (.int 1))) eNil)))))
def zd : List D → R D := mOf false 3 1 z48
def z52 : DE → R Bool :=
 (bVal asB (eOp (dIn true) (eVar 0) (eVar 1)))
def z53 : DE → R D :=
 (eOp dCatT (eVar 1) (eTup (eCons (eVar 0) eNil)))
def z28 : DS → SR :=
 (sMut "list" mExt 2 [false, true, false, true] (eCons (eComp (iL (eVar 1)) b1 [3] z52 z53) eNil))
def z75 : DS → SR :=
 (sSeq (sAsg true 2 [] (eLst eNil))
   (sSeq (sFor false [true] (iL (eVar 0)) (.n 3) z28)
   (sRetO 2)))
def z1a : List D → R D := mOf true 2 2 z75
def z84 : DS → SR :=
 (sRet [true, true] (eOp dIx (eOp dCat (eSl dSl (eVar 0) (oSo (eVar 1)) (oSo (eOp dAddI (eVar 1) (eC (.int 1))))) (eLst (eCons (eC (.int 0)) eNil))) (eC (.int 0))))
def z18 : List D → R D := mOf false 2 0 z84
def z76 : DS → SR :=
 (sRet [true] (eAnd (eUn (dIsi "int") (eVar 0)) (eAnd (eOp dNotB (eVar 0) (eC (.bl true))) (eOp dNotB (eVar 0) (eC (.bl false))))))
def z1b : List D → R D := mOf false 1 0 z76
def z49 : DE → R D :=
 (eOp dMul (eOp dDiv (eOp dAddI (eVar 0) (eC (.int 1))) (eC (.int 2))) (eOp dSub (eOp dMod (eVar 1) (eC (.int 5))) (eC (.int 3))))
def z22 : DS → SR :=
 (sIf (bVal asB (eOp dGtI (eVar 1) (eC (.int 0))))
     (sSet dSet 3 [false, true, false, true, true, true] (eOp dMod (eVar 4) (eVar 1)) (eOp dMod (eOp dAddI (eOp dMul (eOp dIx (eVar 3) (eOp dMod (eVar 4) (eVar 1))) (eC (.int 48271))) (eVar 5)) (eC (.int 2147483647))))
     sNx)
def z46 : DS → SR :=
 (sSeq (sIf (bVal asB (eOp dGtI (eOp dMod (eVar 0) (eC (.int 5))) (eC (.int 2))))
     (sRet [true, true, false, false, true] (eComp (iR1d (eCons (eVar 1) eNil)) b1 [0] bYes z49))
     sNx)
   (sSeq (sAsg true 3 [false, true] (eLR (eCons (eVar 1) eNil)))
   (sSeq (sFor false [false, false, true] (iEn (eCons (eVar 2) eNil)) (.t [4, 5]) z22)
   (sRetO 3))))
def z11 : List D → R D := mOf true 3 3 z46
def z29 : DS → SR :=
 (sSeq (sAsg false 4 [false, true, false, true] (eOp dMod (eVar 3) (eCB dLen (eCons (eVar 1) eNil))))
   (sSeq (sMutF "list" mApp 2 [false, true, false, false, true] (eLst (eCons (eOp dIx (eVar 1) (eVar 4)) (eCons (eCB dLen (eCons (eVar 1) eNil)) (eCons (eOp dIx (eVar 1) (eOp dMod (eOp dAddI (eVar 4) (eC (.int 1))) (eCB dLen (eCons (eVar 1) eNil)))) eNil)))))
   (sMut "list" mIns 1 [false, true, false, false, true] (eCons (eOp dAddI (eVar 4) (eC (.int 1))) (eCons (eCB dLen (eCons (eVar 1) eNil)) eNil)))))
def z2a : DS → SR :=
 (sSet dSet 5 [false, false, false, false, false, false, true, true] (eVar 7) (eVar 6))
def z54 : DE → R D :=
 (eOp dIx (eVar 1) (eVar 0))
def z55 : DE → R D :=
 (eCB z44 (eCons (eComp (iL (eVar 0)) b1 [1] bYes z54) eNil))
def z77 : DS → SR :=
 (sSeq (sAsg true 1 [] (eLst (eCons (eC (.int 0)) (eCons (eC (.int 1)) (eCons (eC (.int 2)) eNil)))))
   (sSeq (sAsg true 2 [] (eLst (eCons (eLst (eCons (eC (.int 0)) (eCons (eC (.int 1)) (eCons (eC (.int 2)) eNil)))) eNil)))
   (sSeq (sFor false [true] (iL (eVar 0)) (.n 3) z29)
   (sSeq (sAsg true 5 [] eNewK)
   (sSeq (sFor false [false, true] (iEn (eCons (eVar 1) eNil)) (.t [6, 7]) z2a)
   (sRet [false, false, true, false, false, true, false, true] (eCB z72 (eCons (eComp (iL (eVar 2)) b1 [5] bYes z55) eNil))))))))
def z17 : List D → R D := mOf true 1 7 z77
def z31 : DS → SR :=
 (sIf (bAnd (bVal asB (eOp dGtI (eOp dSub (eVar 7) (eVar 6)) (eC (.int 1)))) (bVal asB (eOp dNe (eTup (eCons (eVar 6) (eCons (eVar 7) eNil))) (eTup (eCons (eC (.int 0)) (eCons (eOp dSub (eVar 0) (eC (.int 1))) eNil))))))
     (sSet dSetN 2 [false, false, false, false, false, false, true, true] (eTup (eCons (eVar 6) (eCons (eVar 7) eNil))) (eC (.bl true)))
     sNx)
def z3d : DS → SR :=
 (sFor false [false, false, false, true, true, true] (iL (eLst (eCons (eTup (eCons (eVar 3) (eCons (eVar 4) eNil))) (eCons (eTup (eCons (eVar 4) (eCons (eVar 5) eNil))) (eCons (eTup (eCons (eVar 3) (eCons (eVar 5) eNil))) eNil))))) (.t [6, 7]) z31)
def zb0 : DS → SR :=
 (sSeq (sAsg true 2 [] eNewN)
   (sSeq (sFor false [false, true] (iL (eVar 1)) (.t [3, 4, 5]) z3d)
   (sRet [true, false, true] (eTup (eCons (eVar 0) (eCons (eCB dTuple (eCons (eCB z44 (eCons (eCB dListN (eCons (eVar 2) eNil)) eNil)) eNil)) eNil))))))
def z32 : List D → R D := mOf false 2 6 zb0
def z64 : DE → R Bool :=
 (bVal asB (eOp (dIn false) (eOp dAddI (eVar 1) (eC (.int 1))) (eVar 0)))
def z65 : DE → R D :=
 (eVar 0)
def z24 : DS → SR :=
 (sSeq (sAsg false 6 [true, false, false, false, false, true] (eCB dLen (eCons (eComp (iL (eVar 0)) b1 [5] z64 z65) eNil)))
   (sUnp (.t [3, 4]) [false, false, false, true, true, false, true] (eTup (eCons (eVar 4) (eCons (eOp dSub (eOp dMul (eVar 6) (eVar 4)) (eVar 3)) eNil)))))
def z85 : DS → SR :=
 (sSeq (sAsg false 3 [] (eC (.int 0)))
   (sSeq (sAsg false 4 [] (eC (.int 1)))
   (sSeq (sFor true [false, true, true] (iR2d (eCons (eCB dMin2 (eCons (eVar 1) (eCons (eVar 2) eNil))) (eCons (eCB dMax2 (eCons (eVar 1) (eCons (eVar 2) eNil))) eNil))) (.n 5) z24)
   (sRet [false, false, false, true] (eVar 3)))))
def z1c : List D → R D := mOf false 3 4 z85
def z56 : DS → SR :=
 (sIf (bOr (bNot (bVal dTru (eCall z37 (eCons (eVar 1) eNil)))) (bNot (bChn (eC (.int 0)) (cLinkT dLe (eVar 1) (cLastT dLtI (eVar 0))))))
     sNo
     sNx)
def zc : List D → R D := mOf false 2 0 z56
def z2b : DE → R Bool :=
 (bVal asB (eOp dLtI (eOp dIx (eVar 2) (eUn dNeg (eC (.int 1)))) (eOp dIx (eVar 0) (eC (.int 1)))))
def z2c : DS → SR :=
 (sMut "list" mApp 2 [true, true, true] (eCons (eCall zd (eCons (eOp dIx (eVar 2) (eUn dNeg (eC (.int 1)))) (eCons (eVar 0) (eCons (eVar 1) eNil)))) eNil))
def z78 : DS → SR :=
 (sSeq (sAsg true 2 [true] (eLst (eCons (eOp dIx (eVar 0) (eC (.int 0))) eNil)))
   (sSeq (sWhile 1000 z2b z2c)
   (sRet [false, false, true] (eCB dTuple (eCons (eVar 2) eNil)))))
def z1d : List D → R D := mOf false 2 1 z78
def z10 : DS → SR :=
 (sSeq (sIf (bOr (bNot (bVal dTru (eCall z1b (eCons (eVar 5) eNil)))) (bOr (bVal asB (eOp (dIn true) (eVar 5) (eVar 6))) (bVal asB (eOp (dIn false) (eVar 5) (eVar 4)))))
     (sRet [] (eC (.bl false)))
     sNx)
   (sSet dSet 4 [false, false, false, false, false, true] (eVar 5) (eC (.bl true))))
def z40 : DS → SR :=
 (sSeq (sIf (bOr (bNot (bVal dTru (eUn (dIsi "tuple") (eVar 0)))) (bVal asB (eOp dNe (eCB dLen (eCons (eVar 0) eNil)) (eCB dLen (eCons (eVar 1) eNil)))))
     (sRet [] (eC (.bl false)))
     sNx)
   (sSeq (sAsg true 4 [false, false, true, true] (eDisp2 (eVar 2) (eC (.bl true)) (eVar 3) (eC (.bl true))))
   (sSeq (sFor false [true, true] (iZpT (eCons (eVar 0) (eCons (eVar 1) eNil))) (.t [5, 6]) z10)
   (sRet [] (eC (.bl true))))))
def za : List D → R D := mOf false 4 3 z40
def ze8 : DE → R D :=
 (eCall z1d (eCons (eVar 0) (eCons (eVar 1) eNil)))
def z176 : DS → SR :=
 (sSeq (sAsg true 2 [true, true] (eOp dCat (eLst (eCons (eTup (eCons (eC (.int 0)) (eCons (eOp dSub (eVar 0) (eC (.int 1))) eNil))) eNil)) (eCB dList (eCons (eVar 1) eNil))))
   (sRet [false, true, true] (eCB z44 (eCons (eComp (iL (eVar 2)) b1 [1] bYes ze8) eNil))))
def z86 : List D → R D := mOf true 2 1 z176
def z87 : DS → SR :=
 (sRet [true] (eCall z86 (eCons (eOp dIx (eVar 0) (eC (.int 0))) (eCons (eOp dIx (eVar 0) (eC (.int 1))) eNil))))
def z2d : List D → R D := mOf true 1 0 z87
def z79 : DE → R Bool :=
 (bAnd (bVal asB (eOp dNe (eVar 0) (eVar 1))) (bVal asB (eOp dNe (eVar 0) (eVar 2))))
def z7a : DE → R D :=
 (eVar 0)
def z4d : DS → SR :=
 (sAsg true 3 [false, true, true, true, true] (eCall z1a (eCons (eVar 3) (eCons (eComp (iL (eVar 4)) b1 [1, 2] z79 z7a) eNil))))
def z7b : DS → SR :=
 (sSeq (sDrop (eCall zc (eCons (eOp dIx (eVar 0) (eC (.int 0))) (eCons (eVar 1) eNil))))
   (sSeq (sDrop (eCall zc (eCons (eOp dIx (eVar 0) (eC (.int 0))) (eCons (eVar 2) eNil))))
   (sSeq (sIf (bVal asB (eOp dGtI (eOp dIx (eVar 0) (eC (.int 0))) (eC (.int 12))))
     sNo
     sNx)
   (sSeq (sIf (bVal asB (eOp dEq (eVar 1) (eVar 2)))
     (sRet [] (eLst eNil))
     sNx)
   (sSeq (sAsg true 3 [] (eLst (eCons (eTup eNil) eNil)))
   (sSeq (sFor false [true] (iL (eCall z2d (eCons (eVar 0) eNil))) (.n 4) z4d)
   (sRetO 3)))))))
def z33 : List D → R D := mOf true 3 2 z7b
def z88 : DS → SR :=
 (sSeq (sIf (bNot (bVal dTru (eCall za (eCons (eOp dIx (eVar 6) (eVar 7)) (eCons (eVar 2) (eCons (eVar 4) (eCons (eVar 5) eNil)))))))
     (sRet [] (eC (.bl false)))
     sNx)
   (sIf (bAnd (bVal asB (eOp dGtI (eVar 7) (eC (.int 0)))) (bNot (bVal asB (eOp dLtB (eOp dIx (eVar 6) (eOp dSub (eVar 7) (eC (.int 1)))) (eOp dIx (eVar 6) (eVar 7))))))
     (sRet [] (eC (.bl false)))
     sNx))
def g_law : DS → SR :=
 (sSeq (sAsg false 1 [true] (eCall z18 (eCons (eVar 0) (eCons (eC (.int 0)) eNil))))
   (sSeq (sAsg true 2 [true, true] (eCall z17 (eCons (eCall z11 (eCons (eVar 1) (eCons (eOp dMod (eOp dDiv (eVar 1) (eC (.int 5))) (eC (.int 10))) (eCons (eSl dSl (eVar 0) (oSo (eC (.int 3))) oNo) eNil)))) eNil)))
   (sSeq (sAsg false 3 [false, false, true] (eOp dAddI (eCB dLen (eCons (eVar 2) eNil)) (eC (.int 2))))
   (sSeq (sAsg false 4 [true, false, false, true] (eOp dMod (eCall z18 (eCons (eVar 0) (eCons (eC (.int 1)) eNil))) (eVar 3)))
   (sSeq (sAsg false 5 [true, false, false, true] (eOp dMod (eCall z18 (eCons (eVar 0) (eCons (eC (.int 2)) eNil))) (eVar 3)))
   (sSeq (sAsg true 6 [false, false, true, true, true, true] (eCall z33 (eCons (eCall z32 (eCons (eVar 3) (eCons (eVar 2) eNil))) (eCons (eVar 4) (eCons (eVar 5) eNil)))))
   (sSeq (sIf (bOr (bNot (bVal dTru (eUn (dIsi "list") (eVar 6)))) (bVal asB (eOp dNe (eCB dLen (eCons (eVar 6) eNil)) (eCall z1c (eCons (eVar 2) (eCons (eVar 4) (eCons (eVar 5) eNil)))))))
     (sRet [] (eC (.bl false)))
     sNx)
   (sSeq (sFor true [false, false, false, false, false, false, true] (iR1d (eCons (eCB dLen (eCons (eVar 6) eNil)) eNil)) (.n 7) z88)
   (sRet [] (eC (.bl true)))))))))))
def m_law : List D → R D := mOf false 1 7 g_law
def top (i : Nat) : Stmt := PySem.Challenge.pw_friezeyard_k43_sharings_counted.main.body.getD i (.Pass ⟨0, 0, 0, 0⟩)
abbrev z38 : Stmt := top 5
abbrev z13 : Stmt := top 7
abbrev z89 : Stmt := top 9
abbrev z1e : Stmt := top 10
abbrev ze : Stmt := top 11
abbrev z2e : Stmt := top 12
abbrev z39 : Stmt := top 14
abbrev z1f : Stmt := top 15
abbrev z2f : Stmt := top 17
abbrev z20 : Stmt := top 18
abbrev z19 : Stmt := top 19
abbrev z21 : Stmt := top 20
abbrev z3a : Stmt := top 21
abbrev z30 : Stmt := top 22
abbrev zb : Stmt := top 23
abbrev s_law : Stmt := top 24
structure Txt (mg : Str → Option Value) : Prop where
 bool : mg "bool" = none
 enumerate : mg "enumerate" = none
 int : mg "int" = none
 isinstance : mg "isinstance" = none
 len : mg "len" = none
 list : mg "list" = none
 «max» : mg "max" = none
 «min» : mg "min" = none
 range : mg "range" = none
 sorted : mg "sorted" = none
 tuple : mg "tuple" = none
 zip : mg "zip" = none
theorem zee : FnScope ["thing"] ["thing"] (z0 z38) := ⟨rfl, rfl, rfl, by decide +kernel, rfl, by decide +kernel, by decide +kernel⟩
theorem z7e : FnScope ["n", "thing"] ["n", "thing"] (z0 z13) := ⟨rfl, rfl, rfl, by decide +kernel, rfl, by decide +kernel, by decide +kernel⟩
theorem sc_rooms : FnScope ["n", "lines", "tops"] ["n", "lines"] (z0 z89) := ⟨rfl, rfl, rfl, by decide +kernel, rfl, by decide +kernel, by decide +kernel⟩
theorem sc_room_under : FnScope ["top", "lines", "room"] ["top", "lines"] (z0 z1e) := ⟨rfl, rfl, rfl, by decide +kernel, rfl, by decide +kernel, by decide +kernel⟩
theorem sc_corner_behind : FnScope ["corner", "top", "lines", "ends"] ["corner", "top", "lines"] (z0 ze) := ⟨rfl, rfl, rfl, by decide +kernel, rfl, by decide +kernel, by decide +kernel⟩
theorem zc8 : FnScope ["cut"] ["cut"] (z0 z2e) := ⟨rfl, rfl, rfl, by decide +kernel, rfl, by decide +kernel, by decide +kernel⟩
theorem sc_sharings : FnScope ["cut", "i", "j", "begun", "corners"] ["cut", "i", "j"] (z0 z39) := ⟨rfl, rfl, rfl, by decide +kernel, rfl, by decide +kernel, by decide +kernel⟩
theorem sc_carried_on : FnScope ["begun", "corners", "found", "given"] ["begun", "corners"] (z0 z1f) := ⟨rfl, rfl, rfl, by decide +kernel, rfl, by decide +kernel, by decide +kernel⟩
theorem zc9 : FnScope ["_law_script", "_law_k"] ["_law_script", "_law_k"] (z0 z2f) := ⟨rfl, rfl, rfl, by decide +kernel, rfl, by decide +kernel, by decide +kernel⟩
theorem zb1 : FnScope ["_law_found"] ["_law_found"] (z0 z20) := ⟨rfl, rfl, rfl, by decide +kernel, rfl, by decide +kernel, by decide +kernel⟩
theorem sc__law_places : FnScope ["_law_cell", "_law_many", "_law_cells", "_law_found", "_law_k", "_law_one"] ["_law_cell", "_law_many", "_law_cells"] (z0 z19) := ⟨rfl, rfl, rfl, by decide +kernel, rfl, by decide +kernel, by decide +kernel⟩
theorem sc__law_rooms : FnScope ["_law_spots", "_law_order", "_law_threes", "_law_spot", "_law_at", "_law_stands", "_law_k", "_law_name"] ["_law_spots"] (z0 z21) := ⟨rfl, rfl, rfl, by decide +kernel, rfl, by decide +kernel, by decide +kernel⟩
theorem sc__law_cut : FnScope ["_law_n", "_law_threes", "_law_lines", "_law_a", "_law_b", "_law_c", "_law_one", "_law_other"] ["_law_n", "_law_threes"] (z0 z3a) := ⟨rfl, rfl, rfl, by decide +kernel, rfl, by decide +kernel, by decide +kernel⟩
theorem sc__law_band : FnScope ["_law_threes", "_law_i", "_law_j", "_law_here", "_law_ahead", "_law_corner", "_law_many"] ["_law_threes", "_law_i", "_law_j"] (z0 z30) := ⟨rfl, rfl, rfl, by decide +kernel, rfl, by decide +kernel, by decide +kernel⟩
theorem sc__law_is_sharing : FnScope ["_law_found", "_law_threes", "_law_i", "_law_j", "_law_given", "_law_corner", "_law_three"] ["_law_found", "_law_threes", "_law_i", "_law_j"] (z0 zb) := ⟨rfl, rfl, rfl, by decide +kernel, rfl, by decide +kernel, by decide +kernel⟩
theorem sc_law : FnScope ["_law_script", "_law_cell", "_law_threes", "_law_n", "_law_i", "_law_j", "_law_found", "_law_k"] ["_law_script"] (z0 s_law) := ⟨rfl, rfl, rfl, by decide +kernel, rfl, by decide +kernel, by decide +kernel⟩
theorem zef {P : Program} {w : World} {K : PySem.W.Frag} {mg : Str → Option Value} {base : Heap} {f : Addr} {fd : FuncData} (F : Fun K "is_whole" "is_whole" z38 f fd) (T : Txt mg)  : FnOk P w K mg base (CX1 P w) 1 f fd ["thing"] (spD K mg false z37 1) :=
 fnD (k := 0) F zee rfl rfl fun cdv A outer s H E hr =>
   (b_one (s_ret (q_and (q_isi rfl T.isinstance boot_isinstance (qv 0) (z9b (v := .ty "int") rfl T.int boot_int rfl)) (q_one (q_notV (q_isi rfl T.isinstance boot_isinstance (qv 0) (z9b (v := .ty "bool") rfl T.bool boot_bool rfl)))))))
theorem z7c {P : Program} {w : World} {K : PySem.W.Frag} {mg : Str → Option Value} {base : Heap} {f : Addr} {fd : FuncData} (F : Fun K "corner_behind" "corner_behind" ze f fd) (T : Txt mg)  : FnOk P w K mg base (CX1 P w) 1 f fd ["corner", "top", "lines"] (spD K mg false zd 3) :=
 fnD (k := 0) F sc_corner_behind rfl rfl fun cdv A outer s H E hr =>
   (b_cons (s_c1 sc_corner_behind.nd (k := 3) rfl rfl (z34 (caps := ["corner", "top"]) (ix := [0, 1]) rfl rfl) (by decide +kernel) rfl (q_seq (qv 2)) (.one fun _ _ _ => (QW.pt (w_and (t_cmp (o_eqD hr.units) od_eq (q_ix (ix_G hr.units) od_ix (qv 0) q_int) (qv 1) (nomark _)) (w_and (t_cmp o_le od_le (q_ix (ix_G hr.units) od_ix (qv 0) q_int) (q_ix (ix_G hr.units) od_ix (qv 2) q_int) (nomark _)) (w_and1 (t_cmp (o_neD hr.units) od_ne (qv 0) (qv 2) (nomark _))))))) (fun _ _ _ => (q_ix (ix_G hr.units) od_ix (qv 0) q_int)))
     (b_one (s_ret (q_maxD rfl rfl T.«max» boot_max (qv 3) (q_bin o_add z63 (qv 0) q_int)))))
theorem zb2 {P : Program} {w : World} {K : PySem.W.Frag} {mg : Str → Option Value} {base : Heap} {f : Addr} {fd : FuncData} (F : Fun K "carried_on" "carried_on" z1f f fd) (T : Txt mg)  : FnOk P w K mg base (CX1 P w) 1 f fd ["begun", "corners"] (spD K mg true z1a 2) :=
 fnD (k := 0) F sc_carried_on rfl rfl fun cdv A outer s H E hr =>
   (b_cons (s_asg (i := 2) sc_carried_on.nd rfl (Or.inl rfl) (q_lst q_nil))
     (b_cons (s_for PassesOwn.leaving rfl (q_seq (qv 0)) (g_n (i := 3) sc_carried_on.nd rfl (Or.inr rfl))
       (b_one (s_mut PySem.F.plainAttrs_list PySem.F.slot_list_extend PySem.F.type_list_extend z12f md_ext zdd (pw 2) (q_cons (QE.wk (q_c1 (z34 (caps := ["given"]) (ix := [3]) rfl rfl) (by decide +kernel) rfl (q_seq (qv 1)) (.one fun _ _ _ => (t_cmp (z10d hr.units) od_in (qv 0) (qv 1) (by with_unfolding_all rfl))) (fun _ _ _ => (q_bin z1e0 z1e1 (qv 1) (q_tup (q_cons (qv 0) q_nil)))))) q_nil))))
     (b_one (s_retO (i := 2)))))
theorem zca {P : Program} {w : World} {K : PySem.W.Frag} {mg : Str → Option Value} {base : Heap} {f : Addr} {fd : FuncData} (F : Fun K "_law_pick" "_law_pick" z2f f fd) (T : Txt mg)  : FnOk P w K mg base (CX1 P w) 1 f fd ["_law_script", "_law_k"] (spD K mg false z18 2) :=
 fnD (k := 0) F zc9 rfl rfl fun cdv A outer s H E hr =>
   (b_one (s_ret (q_ix (ix_G hr.units) od_ix (QE.wk (q_bin op_cat od_cat (QE.wk (q_sl z155 z162 (qv 0) (s_so (qv 1)) (s_so (q_bin o_add z63 (qv 1) q_int)))) (QE.wk (q_lst (q_cons q_int q_nil))))) q_int)))
theorem zb3 {P : Program} {w : World} {K : PySem.W.Frag} {mg : Str → Option Value} {base : Heap} {f : Addr} {fd : FuncData} (F : Fun K "_law_plain" "_law_plain" z20 f fd) (T : Txt mg)  : FnOk P w K mg base (CX1 P w) 1 f fd ["_law_found"] (spD K mg false z1b 1) :=
 fnD (k := 0) F zb1 rfl rfl fun cdv A outer s H E hr =>
   (b_one (s_ret (q_and (q_isi rfl T.isinstance boot_isinstance (qv 0) (z9b (v := .ty "int") rfl T.int boot_int rfl)) (q_and (q_cmp z16c z16d (qv 0) q_bl (nomark _)) (q_one (q_cmp z16c z16d (qv 0) q_bl (nomark _)))))))
theorem z99 {P : Program} {w : World} {K : PySem.W.Frag} {mg : Str → Option Value} {base : Heap} {f : Addr} {fd : FuncData} (F : Fun K "_law_places" "_law_places" z19 f fd) (T : Txt mg)  : FnOk P w K mg base (CX1 P w) 1 f fd ["_law_cell", "_law_many", "_law_cells"] (spD K mg true z11 3) :=
 fnD (k := 0) F sc__law_places rfl rfl fun cdv A outer s H E hr =>
   (b_cons (s_if (t_cmp o_gt od_gtI (q_bin o_mod od_mod (qv 0) q_int) q_int (nomark _))
       (b_one (s_ret (q_c1 (z34 (caps := ["_law_cell"]) (ix := [0]) rfl rfl) (by decide +kernel) rfl (q_r1 rfl T.range (q_cons (qv 1) q_nil)) .nil (fun _ _ _ => (q_bin o_mul od_mul (q_bin o_fdiv od_div (q_bin o_add z63 (qv 0) q_int) q_int) (q_bin o_sub od_sub (q_bin o_mod od_mod (qv 1) q_int) q_int))))))
       b_nil)
     (b_cons (s_asg (i := 3) sc__law_places.nd rfl (Or.inl rfl) (q_lr rfl rfl T.list rfl T.range (q_cons (qv 1) q_nil)))
     (b_cons (s_for PassesOwn.leaving rfl (q_en rfl T.enumerate (q_cons (qv 2) q_nil)) (g_t rfl (z42 (i := 4) sc__law_places.nd rfl (Or.inl rfl) (z42 (i := 5) sc__law_places.nd rfl (Or.inl rfl) gs_nil)))
       (b_one (s_if (t_cmp o_gt od_gtI (qv 1) q_int (nomark _))
       (b_one (s_set hr.units (pw 3) (q_bin o_mod od_mod (qv 4) (qv 1)) (q_bin o_mod od_mod (q_bin o_add z63 (q_bin o_mul od_mul (q_ix (ix_G hr.units) od_ix (qv 3) (q_bin o_mod od_mod (qv 4) (qv 1))) q_int) (qv 5)) q_int)))
       b_nil)))
     (b_one (s_retO (i := 3))))))
theorem zb4 {P : Program} {w : World} {K : PySem.W.Frag} {mg : Str → Option Value} {base : Heap} {f : Addr} {fd : FuncData} (F : Fun K "_law_rooms" "_law_rooms" z21 f fd) (T : Txt mg)  : FnOk P w K mg base (CX1 P w) 1 f fd ["_law_spots"] (spD K mg true z17 1) :=
 fnD (k := 0) F sc__law_rooms rfl rfl fun cdv A outer s H E hr =>
   (b_cons (s_asg (i := 1) sc__law_rooms.nd rfl (Or.inl rfl) (q_lst (q_cons q_int (q_cons q_int (q_cons q_int q_nil)))))
     (b_cons (s_asg (i := 2) sc__law_rooms.nd rfl (Or.inl rfl) (q_lst (q_cons (QE.wk (q_lst (q_cons q_int (q_cons q_int (q_cons q_int q_nil))))) q_nil)))
     (b_cons (s_for PassesOwn.leaving rfl (q_seq (qv 0)) (g_n (i := 3) sc__law_rooms.nd rfl (Or.inl rfl))
       (b_cons (s_asg (i := 4) sc__law_rooms.nd rfl (Or.inl rfl) (q_bin o_mod od_mod (qv 3) (q_cb c_lenG cd_len rfl T.len PySem.boot_len (q_cons (qv 1) q_nil))))
     (b_cons (s_mutF PySem.F.plainAttrs_list PySem.F.slot_list_append PySem.F.type_list_append z8c md_app zdd (pw 2) (q_lst (q_cons (q_ix (ix_G hr.units) od_ix (qv 1) (qv 4)) (q_cons (q_cb c_lenG cd_len rfl T.len PySem.boot_len (q_cons (qv 1) q_nil)) (q_cons (q_ix (ix_G hr.units) od_ix (qv 1) (q_bin o_mod od_mod (q_bin o_add z63 (qv 4) q_int) (q_cb c_lenG cd_len rfl T.len PySem.boot_len (q_cons (qv 1) q_nil)))) q_nil)))))
     (b_one (s_mut PySem.F.plainAttrs_list PySem.F.slot_list_insert PySem.F.type_list_insert z13e md_ins zdd (pw 1) (q_cons (q_bin o_add z63 (qv 4) q_int) (q_cons (q_cb c_lenG cd_len rfl T.len PySem.boot_len (q_cons (qv 1) q_nil)) q_nil)))))))
     (b_cons (s_asg (i := 5) sc__law_rooms.nd rfl (Or.inr rfl) q_newK)
     (b_cons (s_for PassesOwn.leaving rfl (q_en rfl T.enumerate (q_cons (qv 1) q_nil)) (g_t rfl (z42 (i := 6) sc__law_rooms.nd rfl (Or.inl rfl) (z42 (i := 7) sc__law_rooms.nd rfl (Or.inl rfl) gs_nil)))
       (b_one (s_set hr.units (pw 5) (qv 7) (qv 6))))
     (b_one (s_ret (q_cb (z146 rfl hr.units) z11d rfl T.sorted boot_sorted (q_cons (QE.wk (q_c1 (z34 (caps := ["_law_stands"]) (ix := [5]) rfl rfl) (by decide +kernel) rfl (q_seq (qv 2)) .nil (fun _ _ _ => (QE.wk (q_cb (z94 rfl hr.units) z93 rfl T.sorted boot_sorted (q_cons (QE.wk (q_c1 (z34 (caps := ["_law_stands"]) (ix := [1]) rfl rfl) (by decide +kernel) rfl (q_seq (qv 0)) .nil (fun _ _ _ => (q_ix (ix_G hr.units) od_ix (qv 1) (qv 0))))) q_nil)))))) q_nil)))))))))
theorem zf0 {P : Program} {w : World} {K : PySem.W.Frag} {mg : Str → Option Value} {base : Heap} {f : Addr} {fd : FuncData} (F : Fun K "_law_cut" "_law_cut" z3a f fd) (T : Txt mg)  : FnOk P w K mg base (CX1 P w) 1 f fd ["_law_n", "_law_threes"] (spD K mg false z32 2) :=
 fnD (k := 0) F sc__law_cut rfl rfl fun cdv A outer s H E hr =>
   (b_cons (s_asg (i := 2) sc__law_cut.nd rfl (Or.inl rfl) q_newN)
     (b_cons (s_for PassesOwn.leaving rfl (q_seq (qv 1)) (g_t rfl (z42 (i := 3) sc__law_cut.nd rfl (Or.inl rfl) (z42 (i := 4) sc__law_cut.nd rfl (Or.inl rfl) (z42 (i := 5) sc__law_cut.nd rfl (Or.inl rfl) gs_nil))))
       (b_one (s_for PassesOwn.leaving rfl (q_seq (QE.wk (q_lst (q_cons (q_tup (q_cons (qv 3) (q_cons (qv 4) q_nil))) (q_cons (q_tup (q_cons (qv 4) (q_cons (qv 5) q_nil))) (q_cons (q_tup (q_cons (qv 3) (q_cons (qv 5) q_nil))) q_nil)))))) (g_t rfl (z42 (i := 6) sc__law_cut.nd rfl (Or.inl rfl) (z42 (i := 7) sc__law_cut.nd rfl (Or.inl rfl) gs_nil)))
       (b_one (s_if (QW.pt (w_and (t_cmp o_gt od_gtI (q_bin o_sub od_sub (qv 7) (qv 6)) q_int (nomark _)) (w_and1 (t_cmp (o_neD hr.units) od_ne (q_tup (q_cons (qv 6) (q_cons (qv 7) q_nil))) (q_tup (q_cons q_int (q_cons (q_bin o_sub od_sub (qv 0) q_int) q_nil))) (nomark _)))))
       (b_one (s_setN hr.units (pw 2) (q_tup (q_cons (qv 6) (q_cons (qv 7) q_nil))) q_bl))
       b_nil)))))
     (b_one (s_ret (q_tup (q_cons (qv 0) (q_cons (q_cty z10e z10f rfl T.tuple boot_tuple (q_cons (QE.wk (q_cb (z94 rfl hr.units) z93 rfl T.sorted boot_sorted (q_cons (QE.wk (q_cty (z1e4 rfl) z19b rfl T.list boot_list (q_cons (qv 2) q_nil))) q_nil))) q_nil)) q_nil)))))))
theorem zcb {P : Program} {w : World} {K : PySem.W.Frag} {mg : Str → Option Value} {base : Heap} {f : Addr} {fd : FuncData} (F : Fun K "_law_band" "_law_band" z30 f fd) (T : Txt mg)  : FnOk P w K mg base (CX1 P w) 1 f fd ["_law_threes", "_law_i", "_law_j"] (spD K mg false z1c 3) :=
 fnD (k := 0) F sc__law_band rfl rfl fun cdv A outer s H E hr =>
   (b_cons (s_asg (i := 3) sc__law_band.nd rfl (Or.inl rfl) q_int)
     (b_cons (s_asg (i := 4) sc__law_band.nd rfl (Or.inl rfl) q_int)
     (b_cons (s_for PassesOwn.leaving rfl (q_r2 rfl T.range (q_cons (q_cb (c_min2 rfl) z1cf rfl T.«min» boot_min (q_cons (qv 1) (q_cons (qv 2) q_nil))) (q_cons (q_cb (c_max2 rfl) z1ce rfl T.«max» boot_max (q_cons (qv 1) (q_cons (qv 2) q_nil))) q_nil))) (g_n (i := 5) sc__law_band.nd rfl (Or.inr rfl))
       (b_cons (s_asg (i := 6) sc__law_band.nd rfl (Or.inl rfl) (q_cb c_lenG cd_len rfl T.len PySem.boot_len (q_cons (QE.wk (q_c1 (z34 (caps := ["_law_corner"]) (ix := [5]) rfl rfl) (by decide +kernel) rfl (q_seq (qv 0)) (.one fun _ _ _ => (t_cmp (o_inG hr.units) od_in (q_bin o_add z63 (qv 1) q_int) (qv 0) (by with_unfolding_all rfl))) (fun _ _ _ => (qv 0)))) q_nil)))
     (b_one (s_par (i := 3) (j := 4) rfl sc__law_band.nd rfl rfl (by decide) rfl rfl (q_cons (qv 4) (q_cons (q_bin o_sub od_sub (q_bin o_mul od_mul (qv 6) (qv 4)) (qv 3)) q_nil))))))
     (b_one (s_ret (qv 3))))))
theorem z7f {P : Program} {w : World} {K : PySem.W.Frag} {mg : Str → Option Value} {base : Heap} {f : Addr} {fd : FuncData} (F : Fun K "check_corner" "check_corner" z13 f fd) (T : Txt mg) (G_is_whole : GotX P w K mg base "is_whole" ["thing"] 1 (spD K mg false z37 1)) : FnOk P w K mg base (CX1 P w) 2 f fd ["n", "thing"] (spD K mg false zc 2) :=
 fnD (k := 1) F z7e rfl rfl fun cdv A outer s H E hr =>
   (b_one (s_if (QW.pt (w_or (t_not (t_val (q_own lndF G_is_whole hr rfl (q_cons (qv 1) q_nil)))) (w_or1 (t_not (t_chn q_int (z1cc o_le od_le (qv 1) (z1cb o_lt od_ltI (qv 0))))))))
       (b_one z163)
       b_nil))
theorem zb5 {P : Program} {w : World} {K : PySem.W.Frag} {mg : Str → Option Value} {base : Heap} {f : Addr} {fd : FuncData} (F : Fun K "room_under" "room_under" z1e f fd) (T : Txt mg) (G_corner_behind : GotX P w K mg base "corner_behind" ["corner", "top", "lines"] 1 (spD K mg false zd 3)) : FnOk P w K mg base (CX1 P w) 2 f fd ["top", "lines"] (spD K mg false z1d 2) :=
 fnD (k := 1) F sc_room_under rfl rfl fun cdv A outer s H E hr =>
   (b_cons (s_asg (i := 2) sc_room_under.nd rfl (Or.inl rfl) (q_lst (q_cons (q_ix (ix_G hr.units) od_ix (qv 0) q_int) q_nil)))
     (b_cons (z1d2 (n := 1000) PassesOwn.leaving (t_cmp o_lt od_ltI (q_ix (ix_G hr.units) od_ix (qv 2) (q_un u_neg ud_neg q_int)) (q_ix (ix_G hr.units) od_ix (qv 0) q_int) (nomark _))
       (b_one (s_mut PySem.F.plainAttrs_list PySem.F.slot_list_append PySem.F.type_list_append z8c md_app zdd (pw 2) (q_cons (q_own lndF G_corner_behind hr rfl (q_cons (q_ix (ix_G hr.units) od_ix (qv 2) (q_un u_neg ud_neg q_int)) (q_cons (qv 0) (q_cons (qv 1) q_nil)))) q_nil))))
     (b_one (s_ret (q_cty z10e z10f rfl T.tuple boot_tuple (q_cons (qv 2) q_nil))))))
theorem z60 {P : Program} {w : World} {K : PySem.W.Frag} {mg : Str → Option Value} {base : Heap} {f : Addr} {fd : FuncData} (F : Fun K "_law_is_sharing" "_law_is_sharing" zb f fd) (T : Txt mg) (G__law_plain : GotX P w K mg base "_law_plain" ["_law_found"] 1 (spD K mg false z1b 1)) : FnOk P w K mg base (CX1 P w) 2 f fd ["_law_found", "_law_threes", "_law_i", "_law_j"] (spD K mg false za 4) :=
 fnD (k := 1) F sc__law_is_sharing rfl rfl fun cdv A outer s H E hr =>
   (b_cons (s_if (QW.pt (w_or (t_not (t_val (q_isi rfl T.isinstance boot_isinstance (qv 0) (z9b (v := .ty "tuple") rfl T.tuple boot_tuple rfl)))) (w_or1 (t_cmp (o_neD hr.units) od_ne (q_cb c_lenG cd_len rfl T.len PySem.boot_len (q_cons (qv 0) q_nil)) (q_cb c_lenG cd_len rfl T.len PySem.boot_len (q_cons (qv 1) q_nil)) (nomark _)))))
       (b_one (s_ret q_bl))
       b_nil)
     (b_cons (s_asg (i := 4) sc__law_is_sharing.nd rfl (Or.inl rfl) (z1e3 (qv 2) q_bl (qv 3) q_bl))
     (b_cons (s_for PassesOwn.leaving rfl (q_zpT rfl T.zip (q_cons (qv 0) (q_cons (qv 1) q_nil))) (g_t rfl (z42 (i := 5) sc__law_is_sharing.nd rfl (Or.inl rfl) (z42 (i := 6) sc__law_is_sharing.nd rfl (Or.inl rfl) gs_nil)))
       (b_cons (s_if (QW.pt (w_or (t_not (t_val (q_own lndF G__law_plain hr rfl (q_cons (qv 5) q_nil)))) (w_or (t_cmp (z10d hr.units) od_in (qv 5) (qv 6) (by with_unfolding_all rfl)) (w_or1 (t_cmp (o_inG hr.units) od_in (qv 5) (qv 4) (by with_unfolding_all rfl))))))
       (b_one (s_ret q_bl))
       b_nil)
     (b_one (s_set hr.units (pw 4) (qv 5) q_bl))))
     (b_one (s_ret q_bl)))))
theorem z1a3 {P : Program} {w : World} {K : PySem.W.Frag} {mg : Str → Option Value} {base : Heap} {f : Addr} {fd : FuncData} (F : Fun K "rooms" "rooms" z89 f fd) (T : Txt mg) (G_room_under : GotX P w K mg base "room_under" ["top", "lines"] 2 (spD K mg false z1d 2)) : FnOk P w K mg base (CX1 P w) 3 f fd ["n", "lines"] (spD K mg true z86 2) :=
 fnD (k := 2) F sc_rooms rfl rfl fun cdv A outer s H E hr =>
   (b_cons (s_asg (i := 2) sc_rooms.nd rfl (Or.inl rfl) (q_bin op_cat od_cat (QE.wk (q_lst (q_cons (q_tup (q_cons q_int (q_cons (q_bin o_sub od_sub (qv 0) q_int) q_nil))) q_nil))) (QE.wk (q_cty z1d0 z1d1 rfl T.list boot_list (q_cons (qv 1) q_nil)))))
     (b_one (s_ret (q_cb (z94 rfl hr.units) z93 rfl T.sorted boot_sorted (q_cons (QE.wk (q_c1 (z34 (caps := ["lines"]) (ix := [1]) rfl rfl) (by decide +kernel) rfl (q_seq (qv 2)) .nil (fun _ _ _ => (q_own lnd0 G_room_under hr rfl (q_cons (qv 0) (q_cons (qv 1) q_nil)))))) q_nil)))))
theorem zcc {P : Program} {w : World} {K : PySem.W.Frag} {mg : Str → Option Value} {base : Heap} {f : Addr} {fd : FuncData} (F : Fun K "triangles" "triangles" z2e f fd) (T : Txt mg) (G_rooms : GotX P w K mg base "rooms" ["n", "lines"] 3 (spD K mg true z86 2)) : FnOk P w K mg base (CX1 P w) 4 f fd ["cut"] (spD K mg true z2d 1) :=
 fnD (k := 3) F zc8 rfl rfl fun cdv A outer s H E hr =>
   (b_one (s_ret (q_own lndF G_rooms hr rfl (q_cons (q_ix (ix_G hr.units) od_ix (qv 0) q_int) (q_cons (q_ix (ix_G hr.units) od_ix (qv 0) q_int) q_nil)))))
theorem zf1 {P : Program} {w : World} {K : PySem.W.Frag} {mg : Str → Option Value} {base : Heap} {f : Addr} {fd : FuncData} (F : Fun K "sharings" "sharings" z39 f fd) (T : Txt mg) (G_carried_on : GotX P w K mg base "carried_on" ["begun", "corners"] 1 (spD K mg true z1a 2)) (G_check_corner : GotX P w K mg base "check_corner" ["n", "thing"] 2 (spD K mg false zc 2)) (G_triangles : GotX P w K mg base "triangles" ["cut"] 4 (spD K mg true z2d 1)) : FnOk P w K mg base (CX1 P w) 5 f fd ["cut", "i", "j"] (spD K mg true z33 3) :=
 fnD (k := 4) F sc_sharings rfl rfl fun cdv A outer s H E hr =>
   (b_cons (s_drop (q_own lndF G_check_corner hr rfl (q_cons (q_ix (ix_G hr.units) od_ix (qv 0) q_int) (q_cons (qv 1) q_nil))))
     (b_cons (s_drop (q_own lndF G_check_corner hr rfl (q_cons (q_ix (ix_G hr.units) od_ix (qv 0) q_int) (q_cons (qv 2) q_nil))))
     (b_cons (s_if (t_cmp o_gt od_gtI (q_ix (ix_G hr.units) od_ix (qv 0) q_int) q_int (nomark _))
       (b_one z163)
       b_nil)
     (b_cons (s_if (t_cmp (o_eqD hr.units) od_eq (qv 1) (qv 2) (nomark _))
       (b_one (s_ret (q_lst q_nil)))
       b_nil)
     (b_cons (s_asg (i := 3) sc_sharings.nd rfl (Or.inl rfl) (q_lst (q_cons (q_tup q_nil) q_nil)))
     (b_cons (s_for PassesOwn.leaving rfl (q_seq (QE.wk (q_own lndF G_triangles hr rfl (q_cons (qv 0) q_nil)))) (g_n (i := 4) sc_sharings.nd rfl (Or.inl rfl))
       (b_one (s_asg (i := 3) sc_sharings.nd rfl (Or.inl rfl) (q_own lndF G_carried_on hr rfl (q_cons (qv 3) (q_cons (QE.wk (q_c1 (z34 (caps := ["i", "j"]) (ix := [1, 2]) rfl rfl) (by decide +kernel) rfl (q_seq (qv 4)) (.one fun _ _ _ => (QW.pt (w_and (t_cmp (o_neD hr.units) od_ne (qv 0) (qv 1) (nomark _)) (w_and1 (t_cmp (o_neD hr.units) od_ne (qv 0) (qv 2) (nomark _)))))) (fun _ _ _ => (qv 0)))) q_nil))))))
     (b_one (s_retO (i := 3)))))))))
theorem ok_law {P : Program} {w : World} {K : PySem.W.Frag} {mg : Str → Option Value} {base : Heap} {f : Addr} {fd : FuncData} (F : Fun K "law" "law" s_law f fd) (T : Txt mg) (G__law_band : GotX P w K mg base "_law_band" ["_law_threes", "_law_i", "_law_j"] 1 (spD K mg false z1c 3)) (G__law_cut : GotX P w K mg base "_law_cut" ["_law_n", "_law_threes"] 1 (spD K mg false z32 2)) (G__law_is_sharing : GotX P w K mg base "_law_is_sharing" ["_law_found", "_law_threes", "_law_i", "_law_j"] 2 (spD K mg false za 4)) (G__law_pick : GotX P w K mg base "_law_pick" ["_law_script", "_law_k"] 1 (spD K mg false z18 2)) (G__law_places : GotX P w K mg base "_law_places" ["_law_cell", "_law_many", "_law_cells"] 1 (spD K mg true z11 3)) (G__law_rooms : GotX P w K mg base "_law_rooms" ["_law_spots"] 1 (spD K mg true z17 1)) (G_sharings : GotX P w K mg base "sharings" ["cut", "i", "j"] 5 (spD K mg true z33 3)) : FnOk P w K mg base (CX1 P w) 6 f fd ["_law_script"] (spD K mg false m_law 1) :=
 fnD (k := 5) F sc_law rfl rfl fun cdv A outer s H E hr =>
   (b_cons (s_asg (i := 1) sc_law.nd rfl (Or.inl rfl) (q_own lndF G__law_pick hr rfl (q_cons (qv 0) (q_cons q_int q_nil))))
     (b_cons (s_asg (i := 2) sc_law.nd rfl (Or.inl rfl) (q_own lndF G__law_rooms hr rfl (q_cons (QE.wk (q_own lndF G__law_places hr rfl (q_cons (qv 1) (q_cons (q_bin o_mod od_mod (q_bin o_fdiv od_div (qv 1) q_int) q_int) (q_cons (QE.wk (q_sl z155 z162 (qv 0) (s_so q_int) s_no)) q_nil))))) q_nil)))
     (b_cons (s_asg (i := 3) sc_law.nd rfl (Or.inl rfl) (q_bin o_add z63 (q_cb c_lenG cd_len rfl T.len PySem.boot_len (q_cons (qv 2) q_nil)) q_int))
     (b_cons (s_asg (i := 4) sc_law.nd rfl (Or.inl rfl) (q_bin o_mod od_mod (q_own lndF G__law_pick hr rfl (q_cons (qv 0) (q_cons q_int q_nil))) (qv 3)))
     (b_cons (s_asg (i := 5) sc_law.nd rfl (Or.inl rfl) (q_bin o_mod od_mod (q_own lndF G__law_pick hr rfl (q_cons (qv 0) (q_cons q_int q_nil))) (qv 3)))
     (b_cons (s_asg (i := 6) sc_law.nd rfl (Or.inl rfl) (q_own lndF G_sharings hr rfl (q_cons (q_own lndF G__law_cut hr rfl (q_cons (qv 3) (q_cons (qv 2) q_nil))) (q_cons (qv 4) (q_cons (qv 5) q_nil)))))
     (b_cons (s_if (QW.pt (w_or (t_not (t_val (q_isi rfl T.isinstance boot_isinstance (qv 6) (z9b (v := .ty "list") rfl T.list boot_list rfl)))) (w_or1 (t_cmp (o_neD hr.units) od_ne (q_cb c_lenG cd_len rfl T.len PySem.boot_len (q_cons (qv 6) q_nil)) (q_own lndF G__law_band hr rfl (q_cons (qv 2) (q_cons (qv 4) (q_cons (qv 5) q_nil)))) (nomark _)))))
       (b_one (s_ret q_bl))
       b_nil)
     (b_cons (s_for PassesOwn.leaving rfl (q_r1 rfl T.range (q_cons (q_cb c_lenG cd_len rfl T.len PySem.boot_len (q_cons (qv 6) q_nil)) q_nil)) (g_n (i := 7) sc_law.nd rfl (Or.inl rfl))
       (b_cons (s_if (t_not (t_val (q_own lndF G__law_is_sharing hr rfl (q_cons (q_ix (ix_G hr.units) od_ix (qv 6) (qv 7)) (q_cons (qv 2) (q_cons (qv 4) (q_cons (qv 5) q_nil)))))))
       (b_one (s_ret q_bl))
       b_nil)
     (b_one (s_if (QW.pt (w_and (t_cmp o_gt od_gtI (qv 7) q_int (nomark _)) (w_and1 (t_not (t_cmp (o_ltB hr.units) od_ltB (q_ix (ix_G hr.units) od_ix (qv 6) (q_bin o_sub od_sub (qv 7) q_int)) (q_ix (ix_G hr.units) od_ix (qv 6) (qv 7)) (nomark _))))))
       (b_one (s_ret q_bl))
       b_nil))))
     (b_one (s_ret q_bl))))))))))
theorem all_mk {l : PySem.W.OpenLaw} {w : World} {K : PySem.W.Frag} {h : Heap} {mg : Str → Option Value} {fa : Addr} (X : K.In h) (G : h.Ns mainGlobals mg) (hfa : mg "law" = some (.ref fa))
   {f0 : Addr} {od0 an0 : Option Addr} {sl0 : Array (Option Value)} {oc0 kV0 dc0 pm0 cd0 ct0 : Value}
   {f1 : Addr} {od1 an1 : Option Addr} {sl1 : Array (Option Value)} {oc1 kV1 dc1 pm1 cd1 ct1 : Value}
   {f2 : Addr} {od2 an2 : Option Addr} {sl2 : Array (Option Value)} {oc2 kV2 dc2 pm2 cd2 ct2 : Value}
   {f3 : Addr} {od3 an3 : Option Addr} {sl3 : Array (Option Value)} {oc3 kV3 dc3 pm3 cd3 ct3 : Value}
   {f4 : Addr} {od4 an4 : Option Addr} {sl4 : Array (Option Value)} {oc4 kV4 dc4 pm4 cd4 ct4 : Value}
   {f5 : Addr} {od5 an5 : Option Addr} {sl5 : Array (Option Value)} {oc5 kV5 dc5 pm5 cd5 ct5 : Value}
   {f6 : Addr} {od6 an6 : Option Addr} {sl6 : Array (Option Value)} {oc6 kV6 dc6 pm6 cd6 ct6 : Value}
   {f7 : Addr} {od7 an7 : Option Addr} {sl7 : Array (Option Value)} {oc7 kV7 dc7 pm7 cd7 ct7 : Value}
   {f8 : Addr} {od8 an8 : Option Addr} {sl8 : Array (Option Value)} {oc8 kV8 dc8 pm8 cd8 ct8 : Value}
   {f9 : Addr} {od9 an9 : Option Addr} {sl9 : Array (Option Value)} {oc9 kV9 dc9 pm9 cd9 ct9 : Value}
   {f10 : Addr} {od10 an10 : Option Addr} {sl10 : Array (Option Value)} {oc10 kV10 dc10 pm10 cd10 ct10 : Value}
   {f11 : Addr} {od11 an11 : Option Addr} {sl11 : Array (Option Value)} {oc11 kV11 dc11 pm11 cd11 ct11 : Value}
   {f12 : Addr} {od12 an12 : Option Addr} {sl12 : Array (Option Value)} {oc12 kV12 dc12 pm12 cd12 ct12 : Value}
   {f13 : Addr} {od13 an13 : Option Addr} {sl13 : Array (Option Value)} {oc13 kV13 dc13 pm13 cd13 ct13 : Value}
   {f14 : Addr} {od14 an14 : Option Addr} {sl14 : Array (Option Value)} {oc14 kV14 dc14 pm14 cd14 ct14 : Value}
   {f15 : Addr} {od15 an15 : Option Addr} {sl15 : Array (Option Value)} {oc15 kV15 dc15 pm15 cd15 ct15 : Value}
   (a0 : PySem.W.nsIn K mainGlobals "is_whole" = some (some (.ref f0))) (l0 : K.lookup f0 = some ⟨oc0, od0, .func (PySem.W.fnOf "is_whole" "is_whole" (z15 z38) (zf z38) (z0 z38) .none kV0 dc0 pm0 an0 cd0 ct0), sl0⟩) (c0 : PySem.W.codeIn K cd0 "is_whole" = true) (k0 : PySem.W.keepIn K (.ref f0) = true)
   (a1 : PySem.W.nsIn K mainGlobals "corner_behind" = some (some (.ref f1))) (l1 : K.lookup f1 = some ⟨oc1, od1, .func (PySem.W.fnOf "corner_behind" "corner_behind" (z15 ze) (zf ze) (z0 ze) .none kV1 dc1 pm1 an1 cd1 ct1), sl1⟩) (c1 : PySem.W.codeIn K cd1 "corner_behind" = true) (k1 : PySem.W.keepIn K (.ref f1) = true)
   (a2 : PySem.W.nsIn K mainGlobals "carried_on" = some (some (.ref f2))) (l2 : K.lookup f2 = some ⟨oc2, od2, .func (PySem.W.fnOf "carried_on" "carried_on" (z15 z1f) (zf z1f) (z0 z1f) .none kV2 dc2 pm2 an2 cd2 ct2), sl2⟩) (c2 : PySem.W.codeIn K cd2 "carried_on" = true) (k2 : PySem.W.keepIn K (.ref f2) = true)
   (a3 : PySem.W.nsIn K mainGlobals "_law_pick" = some (some (.ref f3))) (l3 : K.lookup f3 = some ⟨oc3, od3, .func (PySem.W.fnOf "_law_pick" "_law_pick" (z15 z2f) (zf z2f) (z0 z2f) .none kV3 dc3 pm3 an3 cd3 ct3), sl3⟩) (c3 : PySem.W.codeIn K cd3 "_law_pick" = true) (k3 : PySem.W.keepIn K (.ref f3) = true)
   (a4 : PySem.W.nsIn K mainGlobals "_law_plain" = some (some (.ref f4))) (l4 : K.lookup f4 = some ⟨oc4, od4, .func (PySem.W.fnOf "_law_plain" "_law_plain" (z15 z20) (zf z20) (z0 z20) .none kV4 dc4 pm4 an4 cd4 ct4), sl4⟩) (c4 : PySem.W.codeIn K cd4 "_law_plain" = true) (k4 : PySem.W.keepIn K (.ref f4) = true)
   (a5 : PySem.W.nsIn K mainGlobals "_law_places" = some (some (.ref f5))) (l5 : K.lookup f5 = some ⟨oc5, od5, .func (PySem.W.fnOf "_law_places" "_law_places" (z15 z19) (zf z19) (z0 z19) .none kV5 dc5 pm5 an5 cd5 ct5), sl5⟩) (c5 : PySem.W.codeIn K cd5 "_law_places" = true) (k5 : PySem.W.keepIn K (.ref f5) = true)
   (a6 : PySem.W.nsIn K mainGlobals "_law_rooms" = some (some (.ref f6))) (l6 : K.lookup f6 = some ⟨oc6, od6, .func (PySem.W.fnOf "_law_rooms" "_law_rooms" (z15 z21) (zf z21) (z0 z21) .none kV6 dc6 pm6 an6 cd6 ct6), sl6⟩) (c6 : PySem.W.codeIn K cd6 "_law_rooms" = true) (k6 : PySem.W.keepIn K (.ref f6) = true)
   (a7 : PySem.W.nsIn K mainGlobals "_law_cut" = some (some (.ref f7))) (l7 : K.lookup f7 = some ⟨oc7, od7, .func (PySem.W.fnOf "_law_cut" "_law_cut" (z15 z3a) (zf z3a) (z0 z3a) .none kV7 dc7 pm7 an7 cd7 ct7), sl7⟩) (c7 : PySem.W.codeIn K cd7 "_law_cut" = true) (k7 : PySem.W.keepIn K (.ref f7) = true)
   (a8 : PySem.W.nsIn K mainGlobals "_law_band" = some (some (.ref f8))) (l8 : K.lookup f8 = some ⟨oc8, od8, .func (PySem.W.fnOf "_law_band" "_law_band" (z15 z30) (zf z30) (z0 z30) .none kV8 dc8 pm8 an8 cd8 ct8), sl8⟩) (c8 : PySem.W.codeIn K cd8 "_law_band" = true) (k8 : PySem.W.keepIn K (.ref f8) = true)
   (a9 : PySem.W.nsIn K mainGlobals "check_corner" = some (some (.ref f9))) (l9 : K.lookup f9 = some ⟨oc9, od9, .func (PySem.W.fnOf "check_corner" "check_corner" (z15 z13) (zf z13) (z0 z13) .none kV9 dc9 pm9 an9 cd9 ct9), sl9⟩) (c9 : PySem.W.codeIn K cd9 "check_corner" = true) (k9 : PySem.W.keepIn K (.ref f9) = true)
   (a10 : PySem.W.nsIn K mainGlobals "room_under" = some (some (.ref f10))) (l10 : K.lookup f10 = some ⟨oc10, od10, .func (PySem.W.fnOf "room_under" "room_under" (z15 z1e) (zf z1e) (z0 z1e) .none kV10 dc10 pm10 an10 cd10 ct10), sl10⟩) (c10 : PySem.W.codeIn K cd10 "room_under" = true) (k10 : PySem.W.keepIn K (.ref f10) = true)
   (a11 : PySem.W.nsIn K mainGlobals "_law_is_sharing" = some (some (.ref f11))) (l11 : K.lookup f11 = some ⟨oc11, od11, .func (PySem.W.fnOf "_law_is_sharing" "_law_is_sharing" (z15 zb) (zf zb) (z0 zb) .none kV11 dc11 pm11 an11 cd11 ct11), sl11⟩) (c11 : PySem.W.codeIn K cd11 "_law_is_sharing" = true) (k11 : PySem.W.keepIn K (.ref f11) = true)
   (a12 : PySem.W.nsIn K mainGlobals "rooms" = some (some (.ref f12))) (l12 : K.lookup f12 = some ⟨oc12, od12, .func (PySem.W.fnOf "rooms" "rooms" (z15 z89) (zf z89) (z0 z89) .none kV12 dc12 pm12 an12 cd12 ct12), sl12⟩) (c12 : PySem.W.codeIn K cd12 "rooms" = true) (k12 : PySem.W.keepIn K (.ref f12) = true)
   (a13 : PySem.W.nsIn K mainGlobals "triangles" = some (some (.ref f13))) (l13 : K.lookup f13 = some ⟨oc13, od13, .func (PySem.W.fnOf "triangles" "triangles" (z15 z2e) (zf z2e) (z0 z2e) .none kV13 dc13 pm13 an13 cd13 ct13), sl13⟩) (c13 : PySem.W.codeIn K cd13 "triangles" = true) (k13 : PySem.W.keepIn K (.ref f13) = true)
   (a14 : PySem.W.nsIn K mainGlobals "sharings" = some (some (.ref f14))) (l14 : K.lookup f14 = some ⟨oc14, od14, .func (PySem.W.fnOf "sharings" "sharings" (z15 z39) (zf z39) (z0 z39) .none kV14 dc14 pm14 an14 cd14 ct14), sl14⟩) (c14 : PySem.W.codeIn K cd14 "sharings" = true) (k14 : PySem.W.keepIn K (.ref f14) = true)
   (a15 : PySem.W.nsIn K mainGlobals "law" = some (some (.ref f15))) (l15 : K.lookup f15 = some ⟨oc15, od15, .func (PySem.W.fnOf "law" "law" (z15 s_law) (zf s_law) (z0 s_law) .none kV15 dc15 pm15 an15 cd15 ct15), sl15⟩) (c15 : PySem.W.codeIn K cd15 "law" = true) (k15 : PySem.W.keepIn K (.ref f15) = true)
   (z_bool : PySem.W.nsIn K mainGlobals "bool" = some none) (z_enumerate : PySem.W.nsIn K mainGlobals "enumerate" = some none) (z_int : PySem.W.nsIn K mainGlobals "int" = some none) (z_isinstance : PySem.W.nsIn K mainGlobals "isinstance" = some none) (z_len : PySem.W.nsIn K mainGlobals "len" = some none) (z_list : PySem.W.nsIn K mainGlobals "list" = some none) (z_max : PySem.W.nsIn K mainGlobals "max" = some none) (z_min : PySem.W.nsIn K mainGlobals "min" = some none) (z_range : PySem.W.nsIn K mainGlobals "range" = some none) (z_sorted : PySem.W.nsIn K mainGlobals "sorted" = some none) (z_tuple : PySem.W.nsIn K mainGlobals "tuple" = some none) (z_zip : PySem.W.nsIn K mainGlobals "zip" = some none) :
   ∃ fd : FuncData, (∀ (s : Shared) (v : Value), BindsTo s fd ⟨[v], []⟩ [("_law_script", v)]) ∧ ∀ base : Heap, K.In base → base.Ns mainGlobals mg → FnOk l.prog w K mg base (CX1 l.prog w) 6 fa fd ["_law_script"] (spL K false m_law 1) := by
 have e := hfa.symm.trans (PySem.W.mg_of X G a15)
 cases e
 have T : Txt mg := ⟨PySem.W.mg_none_of X G z_bool, PySem.W.mg_none_of X G z_enumerate, PySem.W.mg_none_of X G z_int, PySem.W.mg_none_of X G z_isinstance, PySem.W.mg_none_of X G z_len, PySem.W.mg_none_of X G z_list, PySem.W.mg_none_of X G z_max, PySem.W.mg_none_of X G z_min, PySem.W.mg_none_of X G z_range, PySem.W.mg_none_of X G z_sorted, PySem.W.mg_none_of X G z_tuple, PySem.W.mg_none_of X G z_zip⟩
 have F0 := fun_mk (st := z38) l0 c0 k0
 have b0 := F0.binds (ps := ["thing"]) fun _ _ _ _ _ _ us hl => match us, hl with | [_], _ => rfl
 have F1 := fun_mk (st := ze) l1 c1 k1
 have b1 := F1.binds (ps := ["corner", "top", "lines"]) fun _ _ _ _ _ _ us hl => match us, hl with | [_, _, _], _ => rfl
 have F2 := fun_mk (st := z1f) l2 c2 k2
 have b2 := F2.binds (ps := ["begun", "corners"]) fun _ _ _ _ _ _ us hl => match us, hl with | [_, _], _ => rfl
 have F3 := fun_mk (st := z2f) l3 c3 k3
 have b3 := F3.binds (ps := ["_law_script", "_law_k"]) fun _ _ _ _ _ _ us hl => match us, hl with | [_, _], _ => rfl
 have F4 := fun_mk (st := z20) l4 c4 k4
 have b4 := F4.binds (ps := ["_law_found"]) fun _ _ _ _ _ _ us hl => match us, hl with | [_], _ => rfl
 have F5 := fun_mk (st := z19) l5 c5 k5
 have b5 := F5.binds (ps := ["_law_cell", "_law_many", "_law_cells"]) fun _ _ _ _ _ _ us hl => match us, hl with | [_, _, _], _ => rfl
 have F6 := fun_mk (st := z21) l6 c6 k6
 have b6 := F6.binds (ps := ["_law_spots"]) fun _ _ _ _ _ _ us hl => match us, hl with | [_], _ => rfl
 have F7 := fun_mk (st := z3a) l7 c7 k7
 have b7 := F7.binds (ps := ["_law_n", "_law_threes"]) fun _ _ _ _ _ _ us hl => match us, hl with | [_, _], _ => rfl
 have F8 := fun_mk (st := z30) l8 c8 k8
 have b8 := F8.binds (ps := ["_law_threes", "_law_i", "_law_j"]) fun _ _ _ _ _ _ us hl => match us, hl with | [_, _, _], _ => rfl
 have F9 := fun_mk (st := z13) l9 c9 k9
 have b9 := F9.binds (ps := ["n", "thing"]) fun _ _ _ _ _ _ us hl => match us, hl with | [_, _], _ => rfl
 have F10 := fun_mk (st := z1e) l10 c10 k10
 have b10 := F10.binds (ps := ["top", "lines"]) fun _ _ _ _ _ _ us hl => match us, hl with | [_, _], _ => rfl
 have F11 := fun_mk (st := zb) l11 c11 k11
 have b11 := F11.binds (ps := ["_law_found", "_law_threes", "_law_i", "_law_j"]) fun _ _ _ _ _ _ us hl => match us, hl with | [_, _, _, _], _ => rfl
 have F12 := fun_mk (st := z89) l12 c12 k12
 have b12 := F12.binds (ps := ["n", "lines"]) fun _ _ _ _ _ _ us hl => match us, hl with | [_, _], _ => rfl
 have F13 := fun_mk (st := z2e) l13 c13 k13
 have b13 := F13.binds (ps := ["cut"]) fun _ _ _ _ _ _ us hl => match us, hl with | [_], _ => rfl
 have F14 := fun_mk (st := z39) l14 c14 k14
 have b14 := F14.binds (ps := ["cut", "i", "j"]) fun _ _ _ _ _ _ us hl => match us, hl with | [_, _, _], _ => rfl
 have F15 := fun_mk (st := s_law) l15 c15 k15
 refine ⟨PySem.W.fnOf "law" "law" (z15 s_law) (zf s_law) (z0 s_law) .none kV15 dc15 pm15 an15 cd15 ct15, fun s v => .of_eq rfl, fun base kb nb => ?_⟩
 have G_is_whole : GotX l.prog w K mg base "is_whole" ["thing"] 1 (spD K mg false z37 1) := ⟨f0, _, zef F0 T , b0, PySem.W.mg_of X G a0, k0⟩
 have G_corner_behind : GotX l.prog w K mg base "corner_behind" ["corner", "top", "lines"] 1 (spD K mg false zd 3) := ⟨f1, _, z7c F1 T , b1, PySem.W.mg_of X G a1, k1⟩
 have G_carried_on : GotX l.prog w K mg base "carried_on" ["begun", "corners"] 1 (spD K mg true z1a 2) := ⟨f2, _, zb2 F2 T , b2, PySem.W.mg_of X G a2, k2⟩
 have G__law_pick : GotX l.prog w K mg base "_law_pick" ["_law_script", "_law_k"] 1 (spD K mg false z18 2) := ⟨f3, _, zca F3 T , b3, PySem.W.mg_of X G a3, k3⟩
 have G__law_plain : GotX l.prog w K mg base "_law_plain" ["_law_found"] 1 (spD K mg false z1b 1) := ⟨f4, _, zb3 F4 T , b4, PySem.W.mg_of X G a4, k4⟩
 have G__law_places : GotX l.prog w K mg base "_law_places" ["_law_cell", "_law_many", "_law_cells"] 1 (spD K mg true z11 3) := ⟨f5, _, z99 F5 T , b5, PySem.W.mg_of X G a5, k5⟩
 have G__law_rooms : GotX l.prog w K mg base "_law_rooms" ["_law_spots"] 1 (spD K mg true z17 1) := ⟨f6, _, zb4 F6 T , b6, PySem.W.mg_of X G a6, k6⟩
 have G__law_cut : GotX l.prog w K mg base "_law_cut" ["_law_n", "_law_threes"] 1 (spD K mg false z32 2) := ⟨f7, _, zf0 F7 T , b7, PySem.W.mg_of X G a7, k7⟩
 have G__law_band : GotX l.prog w K mg base "_law_band" ["_law_threes", "_law_i", "_law_j"] 1 (spD K mg false z1c 3) := ⟨f8, _, zcb F8 T , b8, PySem.W.mg_of X G a8, k8⟩
 have G_check_corner : GotX l.prog w K mg base "check_corner" ["n", "thing"] 2 (spD K mg false zc 2) := ⟨f9, _, z7f F9 T G_is_whole, b9, PySem.W.mg_of X G a9, k9⟩
 have G_room_under : GotX l.prog w K mg base "room_under" ["top", "lines"] 2 (spD K mg false z1d 2) := ⟨f10, _, zb5 F10 T G_corner_behind, b10, PySem.W.mg_of X G a10, k10⟩
 have G__law_is_sharing : GotX l.prog w K mg base "_law_is_sharing" ["_law_found", "_law_threes", "_law_i", "_law_j"] 2 (spD K mg false za 4) := ⟨f11, _, z60 F11 T G__law_plain, b11, PySem.W.mg_of X G a11, k11⟩
 have G_rooms : GotX l.prog w K mg base "rooms" ["n", "lines"] 3 (spD K mg true z86 2) := ⟨f12, _, z1a3 F12 T G_room_under, b12, PySem.W.mg_of X G a12, k12⟩
 have G_triangles : GotX l.prog w K mg base "triangles" ["cut"] 4 (spD K mg true z2d 1) := ⟨f13, _, zcc F13 T G_rooms, b13, PySem.W.mg_of X G a13, k13⟩
 have G_sharings : GotX l.prog w K mg base "sharings" ["cut", "i", "j"] 5 (spD K mg true z33 3) := ⟨f14, _, zf1 F14 T G_carried_on G_check_corner G_triangles, b14, PySem.W.mg_of X G a14, k14⟩
 exact (ok_law F15 T G__law_band G__law_cut G__law_is_sharing G__law_pick G__law_places G__law_rooms G_sharings).imp fun _ _ _ _ z => z.spD
end K43
namespace K43
open L2 Bd Cu
local macro_rules | `(tactic| walk_at "dz") => `(tactic| try simp (implicitDefEqProofs := false) only [mOf_e, sSeq_e, sIf_e, sAsg_e, sRet_e, sRetN, sRetO, sNx, sUnp, sMut, sMut0, sMutF, sSet, sFor, sDrop, toS_ok, toS_er, toS_st, toS_ite, thn_nx, thn_rt, thn_er, thn_st, thn_bk, thn_ct, thn_ite, out_rt, out_nx, out_er, out_st, out_ite, bind_er, noE_ok, vis_n, vis_0, vis_c, see_n, see_c, see_em, see_im, see_ow1, see_ow0, thaw_t, thaw_f, frz_0, frz_n, frz_c, frz_im, frz_em, frz_ow0, frz_ow1, keep_int, keep_bl, keep_non, keep_str, keep_tup, keep_lst, keep_L, keep_lstf, keep_Lf, noLs_n, noLs_c, noL_int, noL_bl, noL_str, noL_non, noL_tup, noL_lst, putT, putAll, Option.bind_some, Bool.and_true, Bool.true_and, put_f, put_t, sel_n, sel_c, var0, varS, eC, eOp, eUn, eNil, eCons, eCall, eCB, eTup, eLst, eIf, eSl, oSo, oNo, of_int, bAnd, bOr, bNot, bVal, eAnd, eOr, eChn, bChn, cLast, cLink, cLastT, cLinkT, eComp, iL, items_l, items_t, items_L, compL_n, compL_1, R.bind_ok, R.of_some, dAddI, dSub, dLtI, dLe, dGtI, dGe, dI_ii, dNeg, asB_b, dTru_b, dTru_l, dTru_i, dEq_ii, dNe_ii, dEq_bb, dEq_t2, dNe_t2, dIx_t0, dIx_t1, dIx_t2, dIx_l0, dIx_l1, dLen_s, dLen_l, dLen_t, len_L, list_L, isi_L, isT_L, isT_l, list_t, list_l, tuple_l, tuple_t, keep_lT2, keep_lT3, sl_L, sl_scr, sum_L, eq_L, ne_L, dMin2, dMax2, int_b, int_i, sum_T3, sum_T2, isi_T3, isi_T2, len_T2, ix2_0, ix2_1, items_T3, noL_T2, noL_T3, or_ok, and_ok, orD_ok, andD_ok, isi_ii, isi_ib, dTru_b, isi_bb, isi_tt, isi_ll, forL_n, itr_nx, itr_ct, itr_bk, itr_rt, itr_ite, List.map_cons, List.map_nil, List.length_cons, List.length_nil, List.cons_append, List.nil_append, List.replicate_succ, List.replicate_zero, List.getElem?_cons_zero, List.getElem?_cons_succ, List.set_cons_zero, List.set_cons_succ, Option.map_some, Option.getD_some, if_true, if_false, Bool.false_eq_true, Bool.not_true, Bool.not_false, Bool.and_false, Bool.false_and, Bool.or_true, Bool.true_or, Bool.or_false, Bool.false_or, Nat.reduceAdd, Nat.reduceLeDiff, Nat.reduceEqDiff, reduceCtorEq, decide_true, decide_false, Int.reduceEq])
structure Flr (row : List Int) (ls : List P2) (T : List P3) (v : Nat → Vc) : Prop where
 good : Good row v
 inv : CInv (row.length : Int) ls T
 rw' : Rw row T
 len : ls.length + 3 = row.length
theorem flr3 : Flr [1, 1, 1] [] [(0, 1, 2)] v3 := ⟨good3, inv3, rw3, rfl⟩
theorem Flr.grow {row : List Int} {ls : List P2} {T : List P3} {v : Nat → Vc} (F : Flr row ls T v) (c : Nat) (hc : c < row.length) :
   Flr (growR row c) (ls.map (sh2 (c : Int)) ++ [nLine (row.length : Int) (c : Int)]) (T.map (sh3 (c : Int)) ++ [nTri (row.length : Int) (c : Int)]) (gV row.length c v) := by
 have hl := z51 row c hc
 refine ⟨F.good.grow c hc, ?_, F.rw'.grow c hc F.good.len, ?_⟩
 . have := F.inv.grow (c : Int) (by omega) (by omega)
   rw [hl]; exact this
 . rw [hl, List.length_append, List.length_map, List.length_singleton]; have := F.len; omega
theorem maxD_L (d : Int) (ns : List Int) : dMaxD [L ns, .int d] = some (.int (mxD d ns)) := by simp only [L, dMaxD, z41, Option.map_some]
theorem z1a4 (c : Int) (p : P2) (ls : List P2) (hl : ls.length ≤ 1000) : zd [.int c, T2 p, .tup (ls.map T2)] = .ok (.int (mxD (c + 1) (ends c p ls))) := by
 unfold zd z48
 walk_at "dz"
 rw [if_pos (by rw [List.length_map]; omega), z68 (en := T2) (bs := fun l => [T2 l]) (p := pk c p) (g := fun l => D.int l.2) ls (fun x _ => rfl) (fun l _ => by
   unfold z3e
   simp only [T2]
   walk_at "dz"
   rfl) (fun l _ _ => by
   unfold z3f
   simp only [T2]
   walk_at "dz")]
 simp only [R.bind_ok]
 rw [show D.lst ((ls.filter (pk c p)).map fun l => D.int l.2) = L (ends c p ls) by unfold L ends; rw [List.map_map]; rfl]
 walk_at "dz"
 rw [maxD_L]
 walk_at "dz"
theorem zcd (t : DE → R Bool) (g : DS → SR) (n : Nat) (ρ : DS) : whileL t g (n + 1) ρ = (t (see ρ)).toS fun b => if b = true then (g ρ).itr (whileL t g n) else .nx ρ := by
 rw [whileL]; congr 1
theorem ix_end (xs : List Int) (v : Int) : dIx (L (xs ++ [v])) (.int (-1)) = some (.int v) := by
 have : (xs ++ [v]).map D.int = xs.map D.int ++ [D.int v] := by simp
 simp only [L, dIx, dOr, dIxS, this, z182]
theorem z123 (ls : List P2) (p : P2) (xs : List Int) (v : Int) : z2b [some (T2 p), some (.tup (ls.map T2)), some (L (xs ++ [v]))] = .ok (decide (v < p.2)) := by
 unfold z2b
 simp only [T2]
 walk_at "dz"
 rw [ix_end]
 walk_at "dz"
theorem z177 (ls : List P2) (hl : ls.length ≤ 1000) (p : P2) (xs : List Int) (v : Int) (hx : xs.length < 1000) : z2c [.im (T2 p), .im (.tup (ls.map T2)), .ow (L (xs ++ [v]))] = .nx [.im (T2 p), .im (.tup (ls.map T2)), .ow (L (xs ++ [v] ++ [mxD (v + 1) (ends v p ls)]))] := by
 unfold z2c
 walk_at "dz"
 rw [ix_end]
 walk_at "dz"
 rw [z1a4 _ _ _ hl]
 walk_at "dz"
 rw [app_L (by simp; omega)]
 walk_at "dz"
theorem z1ea {n : Int} {ls ls' : List P2} {T : List P3} (I : CInv n ls T) (p : ls'.Perm ls) (hl : ls'.length ≤ 1000) (a c b : Int) (h : (a, c, b) ∈ T) :
   z1d [T2 (a, b), .tup (ls'.map T2)] = .ok (T3 (a, c, b)) := by
 obtain ⟨g1, g2, g3, g4, _⟩ := I.tri a c b h
 unfold z1d z78
 walk_at "dz"
 have w : sWhile 1000 z2b z2c [.im (T2 (a, b)), .im (.tup (ls'.map T2)), .ow (L [a])] = .nx [.im (T2 (a, b)), .im (.tup (ls'.map T2)), .ow (L [a, c, b])] := by
   have t1 := z123 ls' (a, b) [] a
   have t2 := z123 ls' (a, b) [a] c
   have t3 := z123 ls' (a, b) [a, c] b
   have b1 := z177 ls' hl (a, b) [] a (by simp)
   have b2 := z177 ls' hl (a, b) [a] c (by simp)
   rw [I.beh1 p h] at b1
   rw [I.beh2 p h] at b2
   simp only [List.nil_append, List.cons_append] at t1 t2 t3 b1 b2
   unfold sWhile
   rw [show (1000 : Nat) = 997 + 1 + 1 + 1 from rfl, zcd]
   simp only [see_c, see_im, see_ow1, see_n]
   rw [t1, toS_ok, decide_eq_true (show a < b by omega), if_pos rfl, b1, itr_nx, zcd]
   simp only [see_c, see_im, see_ow1, see_n]
   rw [t2, toS_ok, decide_eq_true (show c < b by omega), if_pos rfl, b2, itr_nx, zcd]
   simp only [see_c, see_im, see_ow1, see_n]
   rw [t3, toS_ok, decide_eq_false (show ¬ b < b by omega), if_neg Bool.false_ne_true]
 rw [show D.lst [D.int a] = L [a] from rfl, w]
 walk_at "dz"
 rfl
theorem z1eb {n : Int} {ls ls' : List P2} {T : List P3} (I : CInv n ls T) (p : ls'.Perm ls) (hl : ls.length ≤ 60) :
   z86 [.int n, .tup (ls'.map T2)] = .ok (.lst ((so3 T).map T3)) := by
 have hl' : ls'.length ≤ 60 := by rw [p.length_eq]; exact hl
 unfold z86 z176
 walk_at "dz"
 rw [show dCat (D.lst [D.tup [D.int 0, D.int (n - 1)]]) (D.lst (ls'.map T2)) = some (.lst (((0, n - 1) :: ls').map T2)) by
   simp only [dCat]; rw [if_pos (by simp; omega)]; rfl]
 obtain ⟨tops, ht⟩ : ∃ tops : List P2, tops = (0, n - 1) :: ls' := ⟨_, rfl⟩
 have hlt : tops.length ≤ 61 := by rw [ht, List.length_cons]; omega
 rw [← ht]
 have kp : keeps true (D.lst (tops.map T2)) = true := by rw [keep_lst]; exact z4b _ _ fun x _ => noL_T2 x
 simp only [R.of_some, toS_ok, kp]
 walk_at "dz"
 rw [if_pos (by rw [List.length_map]; omega), z67 (en := T2) (bs := fun q => [T2 q]) (g := fun q => T3 (thr T q)) tops (fun x _ => rfl) (fun q hq => by
   obtain ⟨m1, m2⟩ := I.top_in p (by rw [← ht]; exact hq)
   unfold ze8
   walk_at "dz"
   generalize thr T q = u at m1 m2
   obtain ⟨a, c, b⟩ := u
   rw [← m2]
   exact z1ea I p (by omega) a c b m1)]
 walk_at "dz"
 have e1 : tops.map (fun q => T3 (thr T q)) = (tops.map (thr T)).map T3 := by rw [List.map_map]; rfl
 have pm : (tops.map (thr T)).Perm T := by rw [ht]; exact I.tops p
 rw [e1, z142 _ (by rw [List.length_map]; omega), zc5 pm]
 walk_at "dz"
theorem zf2 {n : Int} {ls ls' : List P2} {T : List P3} (I : CInv n ls T) (p : ls'.Perm ls) (hl : ls.length ≤ 60) :
   z2d [.tup [.int n, .tup (ls'.map T2)]] = .ok (.lst ((so3 T).map T3)) := by
 unfold z2d z87
 walk_at "dz"
 rw [z1eb I p hl]
 walk_at "dz"
theorem seq_nx {a r : DS → SR} {ρ ρ' : DS} (h : a ρ = .nx ρ') : sSeq a r ρ = r ρ' := by rw [sSeq_e, h, thn_nx]
theorem z1ec (i : Int) : z37 [.int i] = .ok (.bl true) := by
 unfold z37 zaf
 walk_at "dz"
theorem z1ed (i : Int) : z1b [.int i] = .ok (.bl true) := by
 unfold z1b z76
 walk_at "dz"
 simp only [dNotB]
 walk_at "dz"
def pkv (ns : List Int) (k : Int) : Int := (cutL ns (some k) (some (k + 1)) ++ [0]).getD 0 0
theorem z178 (ns : List Int) (a b : Option Int) : (cutL ns a b).length ≤ ns.length := by
 unfold cutL; simp only [List.length_drop, List.length_take]; omega
theorem pick_e (ns : List Int) (hl : ns.length ≤ 63) (k : Int) : z18 [.scr ns, .int k] = .ok (.int (pkv ns k)) := by
 have h := z178 ns (some k) (some (k + 1))
 unfold z18 z84 pkv
 walk_at "dz"
 generalize cutL ns (some k) (some (k + 1)) = xs at h
 rw [show dCat (L xs) (D.lst [D.int 0]) = some (L (xs ++ [0])) by
   simp only [L, dCat, List.length_map, List.length_cons, List.length_nil, if_pos (show xs.length + (0 + 1) ≤ 100000 by omega), List.map_append, List.map_cons, List.map_nil]]
 walk_at "dz"
 rw [ix_L (by omega) (by simp)]
 rfl
theorem z1a5 (n c : Int) (h : 0 ≤ c ∧ c < n) : zc [.int n, .int c] = .ok .non := by
 unfold zc z56
 walk_at "dz"
 rw [z1ec]
 walk_at "dz"
 rw [decide_eq_true h.1, decide_eq_true h.2]
 walk_at "dz"
theorem lr_e {fs : DE → R (List D)} {ρ : DE} (n : Nat) (hn : n ≤ 100000) (h : fs ρ = .ok [.int (n : Int)]) : ∃ xs : List Int, xs.length = n ∧ eLR fs ρ = .ok (L xs) := by
 refine ⟨(List.range n).map fun (k : Nat) => (k : Int), by simp, ?_⟩
 unfold eLR
 rw [h, R.bind_ok]
 simp only
 rw [if_pos (by omega), Int.toNat_natCast]
 first | done | simp only [L, List.map_map, Function.comp_def]
theorem en_L (xs : List Int) : List.map (fun p => D.tup [p.1, p.2]) ((zD 0 (xs.map D.int).length).zip (xs.map D.int)) = (List.range xs.length).map fun (i : Nat) => D.tup [.int (i : Int), .int (xs.getD i 0)] := by
 rw [show xs.map D.int = (List.range xs.length).map fun i => D.int (xs.getD i 0) by
   conv => lhs; rw [as_rng xs 0]
   rw [List.map_map]; rfl]
 exact z194 _ _
theorem z1a6 (S0 S2 : Sl) (m : Nat) (hm : m ≤ 100) (xs : List Int) (hx : xs.length = m) (k : Nat) (hk : k ≤ 1000) (one : Int) :
   ∃ ys : List Int, ys.length = m ∧ z22 [S0, .im (.int (m : Int)), S2, .ow (L xs), .im (.int (k : Int)), .im (.int one)] = .nx [S0, .im (.int (m : Int)), S2, .ow (L ys), .im (.int (k : Int)), .im (.int one)] := by
 unfold z22
 by_cases h : (0 : Int) < (m : Int)
 . have m0 : 0 ≤ (k : Int) % (m : Int) := Int.emod_nonneg _ (Int.ne_of_gt h)
   have m1 : (k : Int) % (m : Int) < m := Int.emod_lt_of_pos _ h
   refine ⟨xs.set ((k : Int) % (m : Int)).toNat ((xs.getD ((k : Int) % (m : Int)).toNat 0 * 48271 + one) % 2147483647), by rw [List.length_set]; exact hx, ?_⟩
   walk_at "dz"
   rw [decide_eq_true h]
   walk_at "dz"
   rw [mod_p h]
   walk_at "dz"
   rw [ix_L m0 ((Int.toNat_lt m0).mpr (by rw [hx]; exact m1))]
   walk_at "dz"
   rw [mul_r (by first | decide | omega)]
   walk_at "dz"
   rw [mod_p (by first | decide | omega)]
   walk_at "dz"
   rw [mod_p h]
   walk_at "dz"
   rw [set_L m0 (by rw [hx]; exact m1)]
   walk_at "dz"
 . refine ⟨xs, hx, ?_⟩
   walk_at "dz"
   rw [decide_eq_false h]
   walk_at "dz"
theorem z1a7 (cell : Int) (m : Nat) (hm : m ≤ 100) (cells : List Int) (hc : cells.length ≤ 100) : ∃ sp : List Int, sp.length = m ∧ z11 [.int cell, .int (m : Int), L cells] = .ok (L sp) := by
 have c0 : 0 ≤ cell % 5 := Int.emod_nonneg _ (by decide)
 have c1 : cell % 5 < 5 := Int.emod_lt_of_pos _ (by decide)
 unfold z11
 rw [mOf_e, if_pos (show [D.int cell, .int (m : Int), L cells].length = 3 from rfl)]
 show ∃ sp : List Int, sp.length = m ∧ SR.out true (z46 [.im (.int cell), .im (.int (m : Int)), .im (L cells), .em, .em, .em]) = _
 unfold z46
 by_cases h : 2 < cell % 5
 . refine ⟨(List.range m).map fun (k : Nat) => (0 + (k : Int) + 1) / 2 * (cell % 5 - 3), by simp, ?_⟩
   walk_at "dz"
   rw [mod_p (by first | decide | omega)]
   walk_at "dz"
   rw [decide_eq_true h]
   walk_at "dz"
   rw [iR1_e (m : Int) ⟨Int.le_trans (by decide) (Int.natCast_nonneg m), by omega⟩ (by walk_at "dz")]
   walk_at "dz"
   rw [if_pos (by rw [zD_len, Int.toNat_natCast]; exact Nat.le_trans hm (by decide))]
   simp only [zD, Int.toNat_natCast]
   rw [z67 (en := fun (i : Nat) => D.int (0 + (i : Int))) (bs := fun (i : Nat) => [D.int (0 + (i : Int))]) (g := fun (k : Nat) => D.int ((0 + (k : Int) + 1) / 2 * (cell % 5 - 3))) _ (fun x _ => rfl) (fun i hi => by
     have hi' : i < m := List.mem_range.mp hi
     unfold z49
     walk_at "dz"
     rw [div_p (by first | decide | omega), mod_p (by first | decide | omega)]
     walk_at "dz"
     rw [mul_l (by omega)]
     walk_at "dz")]
   walk_at "dz"
   simp only [L, List.map_map]
   rfl
 . rw [seq_nx (ρ' := [.im (.int cell), .im (.int (m : Int)), .im (L cells), .em, .em, .em]) (by
     walk_at "dz"
     rw [mod_p (by first | decide | omega)]
     walk_at "dz"
     rw [decide_eq_false h]
     walk_at "dz")]
   obtain ⟨xs, hx, ex⟩ := lr_e (fs := eCons (eVar 1) eNil) (ρ := vis [false, true] [.im (.int cell), .im (.int (m : Int)), .im (L cells), .em, .em, .em]) m (Nat.le_trans hm (by decide)) (by walk_at "dz")
   rw [seq_nx (ρ' := [.im (.int cell), .im (.int (m : Int)), .im (L cells), .ow (L xs), .em, .em]) (by
     rw [sAsg_e, ex]
     walk_at "dz")]
   walk_at "dz"
   simp only [iEn]
   walk_at "dz"
   simp only [L]
   walk_at "dz"
   rw [en_L]
   obtain ⟨ρ', e, ys, s4, s5, hy, hr⟩ := z95 (tg := .t [4, 5]) (g := z22) cells.length (fun (i : Nat) => D.tup [.int (i : Int), .int (cells.getD i 0)])
     (fun k ρ => ∃ (ys : List Int) (s4 s5 : Sl), ys.length = m ∧ ρ = [.im (.int cell), .im (.int (m : Int)), .im (L cells), .ow (L ys), s4, s5])
     [.im (.int cell), .im (.int (m : Int)), .im (L cells), .ow (L xs), .em, .em] ⟨xs, .em, .em, hx, rfl⟩ (by
       rintro i hi ρ ⟨ys, s4, s5, hy, rfl⟩
       obtain ⟨zs, hz, e⟩ := z1a6 (.im (.int cell)) (.im (L cells)) m hm ys hy i (Nat.le_trans (Nat.le_of_lt hi) (Nat.le_trans hc (by decide))) (cells.getD i 0)
       exact ⟨_, _, rfl, Or.inl e, ⟨zs, _, _, hz, rfl⟩⟩)
   simp only [L] at e
   rw [e, hr]
   walk_at "dz"
   exact ⟨ys, hy, rfl⟩
structure BS where
 o : List Int
 tp : List P3
 T : List P3
 row : List Int
 ls : List P2
 v : Nat → Vc
def bs0 : BS := ⟨[0, 1, 2], [(0, 1, 2)], [(0, 1, 2)], [1, 1, 1], [], v3⟩
def BS.c (s : BS) (x : Int) : Nat := (x % (s.o.length : Int)).toNat
def BS.step (s : BS) (x : Int) : BS := ⟨pin s.o (s.c x + 1) (s.o.length : Int), s.tp.map (sh3 (s.c x : Int)) ++ [nwT s.o.length (s.c x)], s.T.map (sh3 (s.c x : Int)) ++ [nTri (s.o.length : Int) (s.c x : Int)], growR s.row (s.c x), s.ls.map (sh2 (s.c x : Int)) ++ [nLine (s.o.length : Int) (s.c x : Int)], gV s.o.length (s.c x) s.v⟩
def bs (sp : List Int) : BS := sp.foldl BS.step bs0
structure BS.Ok (s : BS) : Prop where
 nm : Nm s.o s.tp s.T
 fl : Flr s.row s.ls s.T s.v
 sc : Sc s.o.length s.T s.v
 len : s.row.length = s.o.length
 tl : s.tp.length + 2 = s.o.length
theorem bs0_ok : bs0.Ok := ⟨nm0, flr3, sc3, rfl, rfl⟩
theorem BS.c_lt {s : BS} (O : s.Ok) (x : Int) : s.c x < s.o.length := by
 have := O.nm.l3
 have m0 : 0 ≤ x % (s.o.length : Int) := Int.emod_nonneg _ (by omega)
 have m1 : x % (s.o.length : Int) < s.o.length := Int.emod_lt_of_pos _ (by omega)
 unfold BS.c; omega
theorem BS.Ok.step {s : BS} (O : s.Ok) (x : Int) : (s.step x).Ok ∧ (s.step x).o.length = s.o.length + 1 := by
 have hc := BS.c_lt O x
 have hl : (s.step x).o.length = s.o.length + 1 := z175 _ _ _
 have F := O.fl.grow (s.c x) (by rw [O.len]; exact hc)
 have C := O.sc.grow (by have := O.fl.good.fr; rw [O.len] at this; exact this) (by have := O.fl.inv; rw [O.len] at this; exact this) (by have := O.fl.len; rw [O.len] at this; exact this) (s.c x) hc
 rw [O.len] at F
 refine ⟨⟨(O.nm.grow _ hc).1, F, ?_, ?_, ?_⟩, hl⟩
 . rw [hl]; exact C
 . rw [hl]
   show (growR s.row (s.c x)).length = _
   rw [z51 _ _ (by rw [O.len]; exact hc), O.len]
 . rw [hl]
   show (s.tp.map _ ++ [_]).length + 2 = _
   rw [List.length_append, List.length_map, List.length_singleton]
   have := O.tl; omega
theorem bs_ok' : ∀ (sp : List Int) (s : BS), s.Ok → (sp.foldl BS.step s).Ok ∧ (sp.foldl BS.step s).o.length = s.o.length + sp.length
 | [], s, O => ⟨O, rfl⟩
 | x :: sp, s, O => by
   obtain ⟨O', hl⟩ := O.step x
   obtain ⟨h1, h2⟩ := bs_ok' sp _ O'
   exact ⟨h1, by rw [List.foldl_cons, h2, hl, List.length_cons]; omega⟩
theorem bs_ok (sp : List Int) : (bs sp).Ok ∧ (bs sp).o.length = sp.length + 3 := by
 obtain ⟨h1, h2⟩ := bs_ok' sp bs0 bs0_ok
 exact ⟨h1, by unfold bs; rw [h2]; show 3 + sp.length = _; omega⟩
theorem z1ee (S0 : Sl) (s : BS) (O : s.Ok) (ho : s.o.length ≤ 900) (spot : Int) (s4 : Sl) (r : List Sl) :
   z29 (S0 :: .ow (L s.o) :: .ow (.lst ((s.tp.map (nm3 s.o)).map L)) :: .im (.int spot) :: s4 :: r) =
     .nx (S0 :: .ow (L (s.step spot).o) :: .ow (.lst (((s.step spot).tp.map (nm3 (s.step spot).o)).map L)) :: .im (.int spot) :: .im (.int (s.c spot : Int)) :: r) := by
 have h3 := O.nm.l3
 have hn : 0 < (s.o.length : Int) := Int.ofNat_lt.mpr (Nat.lt_of_lt_of_le (by decide) h3)
 have m0 : 0 ≤ spot % (s.o.length : Int) := Int.emod_nonneg _ (Int.ne_of_gt hn)
 have hc := BS.c_lt O spot
 have hc' : spot % (s.o.length : Int) = (s.c spot : Int) := (Int.toNat_of_nonneg m0).symm
 have e := (O.nm.grow (s.c spot) hc).2
 have htl := O.tl
 show _ = SR.nx (S0 :: .ow (L (pin s.o (s.c spot + 1) (s.o.length : Int))) :: .ow (.lst (((s.tp.map (sh3 (s.c spot : Int)) ++ [nwT s.o.length (s.c spot)]).map (nm3 (pin s.o (s.c spot + 1) (s.o.length : Int)))).map L)) :: .im (.int spot) :: .im (.int (s.c spot : Int)) :: r)
 rw [← e]
 generalize s.c spot = c at hc hc' e
 have hm : ((c : Int) + 1) % (s.o.length : Int) = (((c + 1) % s.o.length : Nat) : Int) := by
   rw [show (c : Int) + 1 = ((c + 1 : Nat) : Int) from rfl]; rfl
 have hm2 : (c + 1) % s.o.length < s.o.length := Nat.mod_lt _ (Nat.lt_of_lt_of_le (by decide) h3)
 have hx : (s.tp.map (nm3 s.o)).length < 1000 := by rw [List.length_map]; omega
 generalize s.tp.map (nm3 s.o) = xs at hx
 generalize s.o = o at *
 unfold z29
 walk_at "dz"
 rw [mod_p hn, hc']
 walk_at "dz"
 rw [ix_N hc, mod_p hn, hm]
 walk_at "dz"
 rw [ix_N hm2]
 walk_at "dz"
 rw [show mApp (.lst (xs.map L)) [.lst [.int (o.getD c 0), .int (o.length : Int), .int (o.getD ((c + 1) % o.length) 0)]] = some (.lst ((xs ++ [[o.getD c 0, (o.length : Int), o.getD ((c + 1) % o.length) 0]]).map L)) by
   simp only [mApp, List.length_map, if_pos (show xs.length < 100000 from Nat.lt_trans hx (by decide)), List.map_append, List.map_cons, List.map_nil, L]]
 walk_at "dz"
 rw [ins_L (x := (c : Int) + 1) (Int.natCast_nonneg (c + 1)) (Int.ofNat_le.mpr hc) (Nat.lt_of_le_of_lt ho (by decide))]
 walk_at "dz"
 rw [show ((c : Int) + 1).toNat = c + 1 from rfl]
 rfl
theorem in_key (o : List Int) (x : Int) : ((Sum.inl x : Key) ∈ o.map fun x => (Sum.inl x : Key)) ↔ x ∈ o := by
 rw [List.mem_map]
 constructor
 . rintro ⟨y, hy, e⟩; cases e; exact hy
 . intro h; exact ⟨x, h, rfl⟩
theorem z1ef (A B C E F : Sl) (o : List Int) (k : Nat) (ho : o.length < 1000) (nd : o.Nodup) (hk : k < o.length) :
   z2a [A, B, C, E, F, .ow (.dk ((o.take k).map fun x => (Sum.inl x : Key)) ((List.range k).map fun (k : Nat) => D.int (k : Int))), .im (.int (k : Int)), .im (.int (o.getD k 0))] =
     .nx [A, B, C, E, F, .ow (.dk ((o.take (k + 1)).map fun x => (Sum.inl x : Key)) ((List.range (k + 1)).map fun (k : Nat) => D.int (k : Int))), .im (.int (k : Int)), .im (.int (o.getD k 0))] := by
 have hn : o.getD k 0 ∉ o.take k := fun h => by
   have e : o.getD k 0 = o[k] := by rw [List.getD_eq_getElem?_getD, List.getElem?_eq_getElem hk]; rfl
   rw [e] at h
   obtain ⟨j, hj, hjk⟩ := List.mem_take_iff_getElem.mp h
   have : j = k := (List.getElem_inj nd).mp hjk
   omega
 have et : o.take (k + 1) = o.take k ++ [o.getD k 0] := by
   rw [List.take_succ, List.getD_eq_getElem?_getD, List.getElem?_eq_getElem hk]; rfl
 unfold z2a
 walk_at "dz"
 simp only [dSet, keyD, Option.map_some]
 rw [if_pos (by rw [List.length_map, List.length_take]; omega)]
 walk_at "dz"
 unfold putKs putV
 rw [if_neg (by rw [in_key]; exact hn), if_neg (by rw [in_key]; exact hn), et, List.map_append, List.range_succ, List.map_append]
 rfl
theorem z1f0 {o : List Int} (nd : o.Nodup) (i : Nat) (hi : i < o.length) : L2.lookD (o.map fun x => (Sum.inl x : L2.Key)) ((List.range o.length).map fun (k : Nat) => L2.D.int (k : Int)) (Sum.inl (o.getD i 0)) = some (.int (i : Int)) := by
 have key : ∀ (o : List Int) (s i : Nat), o.Nodup → i < o.length → L2.lookD (o.map fun x => (Sum.inl x : L2.Key)) ((List.range' s o.length).map fun (k : Nat) => L2.D.int (k : Int)) (Sum.inl (o.getD i 0)) = some (.int ((s + i : Nat) : Int)) := by
   intro o
   induction o with
   | nil => intro s i _ h; simp at h
   | cons x o ih =>
     intro s i nd h
     rw [List.nodup_cons] at nd
     cases i with
     | zero => simp [L2.lookD, List.range'_succ]
     | succ i =>
       have hx : ¬ x = o.getD i 0 := fun e => nd.1 (by
         rw [e, List.getD_eq_getElem?_getD, List.getElem?_eq_getElem (by simpa using h)]
         exact List.getElem_mem _)
       have := ih (s + 1) i nd.2 (by simpa using h)
       rw [show s + 1 + i = s + (i + 1) by omega] at this
       rw [← this]
       simp only [L2.lookD, List.map_cons, List.length_cons, List.range'_succ, List.zip_cons_cons, List.getD_cons_succ]
       rw [List.find?_cons_of_neg (by simpa using hx)]
 have := key o 0 i nd hi
 rw [Nat.zero_add, ← List.range_eq_range'] at this
 exact this
theorem ix_dk {o : List Int} (nd : o.Nodup) (i : Int) (h0 : 0 ≤ i) (h1 : i < o.length) : dIx (.dk (o.map fun x => (Sum.inl x : Key)) ((List.range o.length).map fun (k : Nat) => D.int (k : Int))) (.int (o.getD i.toNat 0)) = some (.int i) := by
 have := z1f0 nd i.toNat (by omega)
 rw [Int.toNat_of_nonneg h0] at this
 simp only [dIx, dOr, dIxD, getD', keyD, Option.map_some, this, Option.bind_some, id, dIxS]
theorem z1f1 {p : P3} (h : p.1 < p.2.1 ∧ (p.2.1 < p.2.2 ∨ p.2.2 < p.1)) : soI [p.1, p.2.1, p.2.2] = cor (rot p) := by
 obtain ⟨a, b, c⟩ := p
 simp only at h
 unfold rot cor
 simp only
 by_cases h1 : b < c
 . rw [if_pos h1]
   simp [soI, sortB, insB, ltT, show ¬ c < b by omega, show ¬ b < a by omega]
 . rw [if_neg h1]
   have h2 : c < a := by omega
   simp [soI, sortB, insB, ltT, show c < b by omega, show ¬ b < a by omega, h2]
def L3 (t : P3) : D := L (cor t)
theorem z14f (T : List P3) (h : T.length < 64) : z72 [.lst (T.map L3)] = some (.lst ((so3 T).map L3)) := by
 have hall : (T.map L3).all isLI = true := by
   rw [List.all_eq_true]; intro d hd; obtain ⟨t, _, rfl⟩ := List.mem_map.mp hd; rfl
 simp only [z72]
 rw [if_pos ⟨by rw [List.length_map]; exact h, hall⟩, List.map_map, show toT ∘ L3 = T3 from rfl, z82, List.map_map, show toL ∘ T3 = L3 from rfl]
theorem z1a8 (sp : List Int) (hs : sp.length ≤ 57) : z17 [L sp] = .ok (.lst ((so3 (bs sp).T).map L3)) := by
 obtain ⟨O, hol⟩ := bs_ok sp
 unfold z17 z77
 walk_at "dz"
 simp only [L, List.map_cons, List.map_nil]
 walk_at "dz"
 obtain ⟨ρ', e, s, s3, s4, Os, hl, hb, hr⟩ := z5e (tg := .n 3) (g := z29) (en := D.int)
   (fun r ρ => ∃ (s : BS) (s3 s4 : Sl), s.Ok ∧ s.o.length + r.length = sp.length + 3 ∧ bs sp = r.foldl BS.step s ∧ ρ = [.im (L sp), .ow (L s.o), .ow (.lst ((s.tp.map (nm3 s.o)).map L)), s3, s4, .em, .em, .em])
   sp [.im (L sp), .ow (L [0, 1, 2]), .ow (.lst [L [0, 1, 2]]), .em, .em, .em, .em, .em] ⟨bs0, .em, .em, bs0_ok, Nat.add_comm 3 sp.length, rfl, rfl⟩ (by
     rintro x r ρ ⟨s, s3, s4, Os, hl, hb, rfl⟩
     simp only [List.length_cons] at hl
     obtain ⟨O', hl'⟩ := Os.step x
     exact ⟨_, _, rfl, Or.inl (z1ee (.im (L sp)) s Os (Nat.le_trans (Nat.le_trans (Nat.le_add_right _ _) (Nat.le_of_eq hl)) (Nat.le_trans (Nat.add_le_add_right hs 3) (by decide))) x s4 [.em, .em, .em]), ⟨_, _, _, O', (by rw [hl', Nat.add_assoc, Nat.add_comm 1]; exact hl), hb, rfl⟩⟩)
 simp only [L, List.map_cons, List.map_nil] at e
 rw [e, hr]
 have hs' : bs sp = s := hb
 rw [hs'] at O hol ⊢
 clear hb hs' e
 have nd := O.nm.nd
 have h3 := O.nm.l3
 have o60 : s.o.length ≤ 60 := hol ▸ Nat.add_le_add_right hs 3
 have t60 : s.tp.length ≤ 60 := Nat.le_trans (Nat.le_trans (Nat.le_add_right _ 2) (Nat.le_of_eq O.tl)) o60
 have hx : (s.tp.map (nm3 s.o)).length ≤ 1000 := by rw [List.length_map]; exact Nat.le_trans t60 (by decide)
 obtain ⟨xs, hxs⟩ : ∃ xs, xs = (s.tp.map (nm3 s.o)).map L := ⟨_, rfl⟩
 have hx2 : xs.length ≤ 1000 := by rw [hxs, List.length_map]; exact hx
 rw [← hxs]
 walk_at "dz"
 simp only [eNewK]
 walk_at "dz"
 rw [show keeps true (D.dk [] []) = true from rfl]
 walk_at "dz"
 simp only [iEn]
 walk_at "dz"
 simp only [L]
 walk_at "dz"
 rw [en_L]
 obtain ⟨ρ2, e2, s6, s7, hr2⟩ := z95 (tg := .t [6, 7]) (g := z2a) s.o.length (fun (i : Nat) => D.tup [.int (i : Int), .int (s.o.getD i 0)])
   (fun k ρ => ∃ s6 s7 : Sl, ρ = [.im (.lst (sp.map D.int)), .im (.lst (s.o.map D.int)), .ow (.lst xs), s3, s4, .ow (.dk ((s.o.take k).map fun x => (Sum.inl x : Key)) ((List.range k).map fun (k : Nat) => D.int (k : Int))), s6, s7])
   [.im (.lst (sp.map D.int)), .im (.lst (s.o.map D.int)), .ow (.lst xs), s3, s4, .ow (.dk [] []), .em, .em] ⟨.em, .em, rfl⟩ (by
     rintro k hk ρ ⟨s6, s7, rfl⟩
     exact ⟨_, _, rfl, Or.inl (z1ef _ _ _ _ _ s.o k (Nat.lt_of_le_of_lt o60 (by decide)) nd hk), ⟨_, _, rfl⟩⟩)
 rw [e2, hr2, List.take_length]
 walk_at "dz"
 rw [if_pos (Nat.le_trans hx2 (by decide)), hxs, List.map_map, z67 (en := L ∘ nm3 s.o) (bs := fun q => [L (nm3 s.o q)]) (g := fun q => L3 (rot q)) s.tp (fun x _ => rfl) (fun q hq => by
   have hi := O.nm.inn q hq
   unfold z55
   walk_at "dz"
   rw [if_pos (by simp [nm3])]
   rw [z67 (en := D.int) (bs := fun x => [D.int x]) (g := fun x => (dIx (.dk (s.o.map fun x => (Sum.inl x : Key)) ((List.range s.o.length).map fun (k : Nat) => D.int (k : Int))) (.int x)).getD .non) (nm3 s.o q) (fun x _ => rfl) (fun x hx => by
     unfold z54
     walk_at "dz"
     have : ∃ i : Int, 0 ≤ i ∧ i < s.o.length ∧ x = s.o.getD i.toNat 0 := by
       unfold nm3 at hx
       simp only [List.mem_cons, List.not_mem_nil, or_false] at hx
       rcases hx with e | e | e
       . exact ⟨_, hi.1.1, hi.1.2, e⟩
       . exact ⟨_, hi.2.1.1, hi.2.1.2, e⟩
       . exact ⟨_, hi.2.2.1, hi.2.2.2, e⟩
     obtain ⟨i, i0, i1, rfl⟩ := this
     rw [ix_dk nd i i0 i1]
     walk_at "dz")]
   simp only [nm3, List.map_cons, List.map_nil]
   rw [ix_dk nd _ hi.1.1 hi.1.2, ix_dk nd _ hi.2.1.1 hi.2.1.2, ix_dk nd _ hi.2.2.1 hi.2.2.2]
   simp only [Option.getD_some, R.bind_ok]
   rw [show D.lst [.int q.1, .int q.2.1, .int q.2.2] = L [q.1, q.2.1, q.2.2] from rfl, z196 _ (by simp), z1f1 (O.nm.shp q hq)]
   walk_at "dz"
   rfl)]
 simp only [R.bind_ok]
 have hT : s.tp.map (fun q => L3 (rot q)) = s.T.map L3 := by rw [← O.nm.srt, List.map_map]; rfl
 have hTl : s.T.length < 64 := by rw [← O.nm.srt, List.length_map]; exact Nat.lt_of_le_of_lt t60 (by decide)
 rw [hT, z14f _ hTl]
 generalize (so3 s.T).map L3 = ys
 walk_at "dz"
def kT2 (p : P2) : NK := .t [.i p.1, .i p.2]
theorem z1f2 {p q : P2} (h : kT2 p = kT2 q) : p = q := by
 obtain ⟨a, b⟩ := p; obtain ⟨c, d⟩ := q
 simp only [kT2, NK.t.injEq, List.cons.injEq, NK.i.injEq, and_true] at h
 rw [h.1, h.2]
def addK (ks : List P2) (p : P2) : List P2 := if p ∈ ks then ks else ks ++ [p]
theorem z1f3 (ks : List P2) (p : P2) : putKs (ks.map kT2) (kT2 p) = (addK ks p).map kT2 := by
 have hm : kT2 p ∈ ks.map kT2 ↔ p ∈ ks := by
   rw [List.mem_map]
   exact ⟨fun ⟨q, hq, e⟩ => z1f2 e ▸ hq, fun h => ⟨p, h, rfl⟩⟩
 unfold putKs addK
 by_cases h : p ∈ ks
 . rw [if_pos h, if_pos (hm.mpr h)]
 . rw [if_neg h, if_neg (fun z => h (hm.mp z)), List.map_append]; rfl
def islnB (n : Int) (p : P2) : Bool := decide (1 < p.2 - p.1) && !(decide (p.1 = 0) && decide (p.2 = n - 1))
def ad1 (n : Int) (ks : List P2) (p : P2) : List P2 := if islnB n p = true then addK ks p else ks
def prs (t : P3) : List P2 := [(t.1, t.2.1), (t.2.1, t.2.2), (t.1, t.2.2)]
def ad3 (n : Int) (ks : List P2) (t : P3) : List P2 := (prs t).foldl (ad1 n) ks
theorem z1a9 (ks : List P2) (p x : P2) : x ∈ addK ks p ↔ x ∈ ks ∨ x = p := by
 unfold addK
 split
 . rename_i h
   exact ⟨.inl, fun z => z.elim id fun e => e ▸ h⟩
 . rw [List.mem_append, List.mem_singleton]
theorem z1f4 {ks : List P2} (p : P2) (h : ks.Nodup) : (addK ks p).Nodup := by
 unfold addK
 split
 . exact h
 . rename_i hk
   exact List.nodup_append.mpr ⟨h, by simp, fun x hx y hy e => hk (by rw [List.mem_singleton.mp hy] at e; rw [← e]; exact hx)⟩
theorem z1aa (ks : List P2) (p : P2) : (addK ks p).length ≤ ks.length + 1 := by
 unfold addK; split
 . omega
 . simp
theorem z1f5 (n : Int) (ks : List P2) (p x : P2) : x ∈ ad1 n ks p ↔ x ∈ ks ∨ (x = p ∧ islnB n x = true) := by
 unfold ad1
 by_cases h : islnB n p = true
 . rw [if_pos h, z1a9]
   exact ⟨fun z => z.imp id fun e => ⟨e, e ▸ h⟩, fun z => z.imp id (·.1)⟩
 . rw [if_neg h]
   exact ⟨.inl, fun z => z.elim id fun ⟨e, q⟩ => absurd (e ▸ q) h⟩
theorem ad1_nd {n : Int} {ks : List P2} (p : P2) (h : ks.Nodup) : (ad1 n ks p).Nodup := by
 unfold ad1; split
 . exact z1f4 p h
 . exact h
theorem z179 (n : Int) (ks : List P2) (p : P2) : (ad1 n ks p).length ≤ ks.length + 1 := by
 unfold ad1; split
 . exact z1aa ks p
 . omega
theorem fold1 (n : Int) : ∀ (ps ks : List P2), (∀ x, x ∈ ps.foldl (ad1 n) ks ↔ x ∈ ks ∨ (x ∈ ps ∧ islnB n x = true)) ∧ (ks.Nodup → (ps.foldl (ad1 n) ks).Nodup) ∧ (ps.foldl (ad1 n) ks).length ≤ ks.length + ps.length
 | [], ks => ⟨fun x => by simp, id, by simp⟩
 | p :: ps, ks => by
   obtain ⟨h1, h2, h3⟩ := fold1 n ps (ad1 n ks p)
   refine ⟨fun x => ?_, fun h => h2 (ad1_nd p h), ?_⟩
   . rw [List.foldl_cons, h1, z1f5, List.mem_cons]
     constructor
     . rintro ((h | ⟨h, q⟩) | ⟨h, q⟩)
       . exact .inl h
       . exact .inr ⟨.inl h, q⟩
       . exact .inr ⟨.inr h, q⟩
     . rintro (h | ⟨h | h, q⟩)
       . exact .inl (.inl h)
       . exact .inl (.inr ⟨h, q⟩)
       . exact .inr ⟨h, q⟩
   . have := z179 n ks p
     rw [List.foldl_cons, List.length_cons]; omega
theorem fold3 (n : Int) : ∀ (ts : List P3) (ks : List P2), (∀ x, x ∈ ts.foldl (ad3 n) ks ↔ x ∈ ks ∨ ((∃ t ∈ ts, x ∈ prs t) ∧ islnB n x = true)) ∧ (ks.Nodup → (ts.foldl (ad3 n) ks).Nodup)
 | [], ks => ⟨fun x => by simp, id⟩
 | t :: ts, ks => by
   obtain ⟨h1, h2⟩ := fold3 n ts (ad3 n ks t)
   obtain ⟨g1, g2, _⟩ := fold1 n (prs t) ks
   refine ⟨fun x => ?_, fun h => h2 (g2 h)⟩
   rw [List.foldl_cons, h1]
   show (x ∈ (prs t).foldl (ad1 n) ks ∨ _) ↔ _
   rw [g1]
   constructor
   . rintro ((h | ⟨h, q⟩) | ⟨⟨u, hu, h⟩, q⟩)
     . exact .inl h
     . exact .inr ⟨⟨t, by simp, h⟩, q⟩
     . exact .inr ⟨⟨u, by simp [hu], h⟩, q⟩
   . rintro (h | ⟨⟨u, hu, h⟩, q⟩)
     . exact .inl (.inl h)
     . rcases List.mem_cons.mp hu with rfl | hu
       . exact .inl (.inr ⟨h, q⟩)
       . exact .inr ⟨⟨u, hu, h⟩, q⟩
theorem z150 {n : Int} {ls : List P2} {T : List P3} (I : CInv n ls T) : ((so3 T).foldl (ad3 n) []).Perm ls := by
 obtain ⟨h1, h2⟩ := fold3 n (so3 T) []
 refine (List.perm_ext_iff_of_nodup (h2 List.nodup_nil) I.nd).mpr fun x => ?_
 rw [h1]
 obtain ⟨p, q⟩ := x
 simp only [islnB, Bool.and_eq_true, decide_eq_true_eq, Bool.not_eq_true', Bool.and_eq_false_iff, decide_eq_false_iff_not]
 constructor
 . rintro (h | ⟨⟨t, ht, h⟩, q1, q2⟩)
   . cases h
   . obtain ⟨a, c, b⟩ := t
     have ht' := (z14 T).mem_iff.mp ht
     obtain ⟨i0, i1, i2, i3, i4, i5⟩ := I.tri a c b ht'
     simp only [prs, List.mem_cons, Prod.mk.injEq, List.not_mem_nil, or_false] at h
     rcases h with ⟨rfl, rfl⟩ | ⟨rfl, rfl⟩ | ⟨rfl, rfl⟩
     . rcases i4 with h | h
       . exact h
       . omega
     . rcases i5 with h | h
       . exact h
       . omega
     . have := I.prm.mem_iff.mp (List.mem_map.mpr ⟨_, ht', rfl⟩)
       simp only [outer] at this
       rcases List.mem_cons.mp this with h | h
       . rw [Prod.mk.injEq] at h; omega
       . exact h
 . intro h
   obtain ⟨j0, j1, j2, j3⟩ := I.lin p q h
   have := I.prm.mem_iff.mpr (List.mem_cons_of_mem _ h)
   obtain ⟨t, ht, e⟩ := List.mem_map.mp this
   refine .inr ⟨⟨t, (z14 T).mem_iff.mpr ht, ?_⟩, by omega, by omega⟩
   simp only [outer, Prod.mk.injEq] at e
   simp only [prs, List.mem_cons, Prod.mk.injEq, List.not_mem_nil, or_false]
   exact .inr (.inr ⟨e.1.symm, e.2.symm⟩)
theorem cut_b0 (n : Int) (S1 : Sl) (ks : List P2) (ds : List D) (hk : ks.length < 9000) (a c b : Sl) (p : P2) :
   ∃ ds', z31 [.im (.int n), S1, .ow (.dn (ks.map kT2) ds), a, c, b, .im (.int p.1), .im (.int p.2)] = .nx [.im (.int n), S1, .ow (.dn ((ad1 n ks p).map kT2) ds'), a, c, b, .im (.int p.1), .im (.int p.2)] := by
 unfold z31
 walk_at "dz"
 show ∃ ds', (if islnB n p = true then _ else _) = _
 unfold ad1
 by_cases h : islnB n p = true
 . rw [if_pos h]
   refine ⟨putV (ks.map kT2) ds (kT2 p) (.bl true), ?_⟩
   rw [if_pos h]
   walk_at "dz"
   rw [show dSetN (.dn (ks.map kT2) ds) (.tup [.int p.1, .int p.2]) (.bl true) = some (.dn (putKs (ks.map kT2) (kT2 p)) (putV (ks.map kT2) ds (kT2 p) (.bl true))) by
     unfold dSetN
     simp only [nkD, nksD, Option.map_some]
     rw [if_pos ⟨by rw [List.length_map]; omega, by simp [NK.dep, nkDeps]⟩]; rfl, z1f3]
   walk_at "dz"
 . rw [if_neg h]
   refine ⟨ds, ?_⟩
   rw [if_neg h]
theorem cut_b1 (n : Int) (S1 : Sl) (ks : List P2) (ds : List D) (hk : ks.length < 8000) (t : P3) (s6 s7 : Sl) :
   ∃ ds' t6 t7, z3d [.im (.int n), S1, .ow (.dn (ks.map kT2) ds), .im (.int t.1), .im (.int t.2.1), .im (.int t.2.2), s6, s7] = .nx [.im (.int n), S1, .ow (.dn ((ad3 n ks t).map kT2) ds'), .im (.int t.1), .im (.int t.2.1), .im (.int t.2.2), t6, t7] := by
 unfold z3d
 walk_at "dz"
 obtain ⟨ρ', e, ks', ds', t6, t7, h1, h2, hr⟩ := z5e (tg := .t [6, 7]) (g := z31) (en := T2)
   (fun r ρ => ∃ (ks' : List P2) (ds' : List D) (t6 t7 : Sl), r.foldl (ad1 n) ks' = ad3 n ks t ∧ ks'.length + r.length ≤ ks.length + 3 ∧ ρ = [.im (.int n), S1, .ow (.dn (ks'.map kT2) ds'), .im (.int t.1), .im (.int t.2.1), .im (.int t.2.2), t6, t7])
   (prs t) [.im (.int n), S1, .ow (.dn (ks.map kT2) ds), .im (.int t.1), .im (.int t.2.1), .im (.int t.2.2), s6, s7] ⟨ks, ds, s6, s7, rfl, by simp [prs], rfl⟩ (by
     rintro p r ρ ⟨ks', ds', t6, t7, h1, h2, rfl⟩
     simp only [List.length_cons] at h2
     obtain ⟨ds2, e⟩ := cut_b0 n S1 ks' ds' (by omega) (.im (.int t.1)) (.im (.int t.2.1)) (.im (.int t.2.2)) p
     have := z179 n ks' p
     exact ⟨_, _, rfl, Or.inl e, ⟨_, _, _, _, h1, by omega, rfl⟩⟩)
 have e' : forL (.t [6, 7]) z31 [.tup [.int t.1, .int t.2.1], .tup [.int t.2.1, .int t.2.2], .tup [.int t.1, .int t.2.2]] [.im (.int n), S1, .ow (.dn (ks.map kT2) ds), .im (.int t.1), .im (.int t.2.1), .im (.int t.2.2), s6, s7] = .nx ρ' := e
 rw [Sl.frz_false, e', hr]
 rw [List.foldl_nil] at h1
 rw [h1]
 exact ⟨_, _, _, rfl⟩
theorem cut_e {n : Int} {ls : List P2} {T : List P3} (I : CInv n ls T) (hl : ls.length ≤ 57) : z32 [.int n, .lst ((so3 T).map L3)] = .ok (.tup [.int n, .tup ((so2 ls).map T2)]) := by
 have hT : (so3 T).length ≤ 58 := by
   have := I.prm.length_eq
   rw [List.length_map, List.length_cons] at this
   rw [(z14 T).length_eq]; omega
 have hp := z150 I
 have hpl := hp.length_eq
 generalize hts : so3 T = ts at hT hp hpl
 unfold z32 zb0
 walk_at "dz"
 simp only [eNewN]
 walk_at "dz"
 rw [show keeps true (D.dn [] []) = true from rfl]
 walk_at "dz"
 obtain ⟨ρ', e, ks, ds, s3, s4, s5, s6, s7, h1, h2, hr⟩ := z5e (tg := .t [3, 4, 5]) (g := z3d) (en := L3)
   (fun r ρ => ∃ (ks : List P2) (ds : List D) (s3 s4 s5 s6 s7 : Sl), r.foldl (ad3 n) ks = ts.foldl (ad3 n) [] ∧ ks.length + 3 * r.length ≤ 174 ∧ ρ = [.im (.int n), .im (.lst (ts.map L3)), .ow (.dn (ks.map kT2) ds), s3, s4, s5, s6, s7])
   ts [.im (.int n), .im (.lst (ts.map L3)), .ow (.dn [] []), .em, .em, .em, .em, .em] ⟨[], [], .em, .em, .em, .em, .em, rfl, by simp; omega, rfl⟩ (by
     rintro t r ρ ⟨ks, ds, s3, s4, s5, s6, s7, h1, h2, rfl⟩
     simp only [List.length_cons] at h2
     obtain ⟨ds2, t6, t7, e⟩ := cut_b1 n (.im (.lst (ts.map L3))) ks ds (by omega) t s6 s7
     have := (fold1 n (prs t) ks).2.2
     have h3 : (ad3 n ks t).length ≤ ks.length + 3 := this
     exact ⟨_, _, rfl, Or.inl e, ⟨_, _, _, _, _, _, _, h1, by omega, rfl⟩⟩)
 rw [e, hr]
 rw [List.foldl_nil] at h1
 rw [← h1] at hp hpl
 walk_at "dz"
 rw [show dListN [.dn (ks.map kT2) ds] = some (.lst (ks.map T2)) by
   simp only [dListN, List.map_map]; rfl]
 walk_at "dz"
 rw [z141 _ (by omega), zc6 hp]
 walk_at "dz"
theorem z1f6 (k : Int) (xs : List Int) : dIn true (.int k) (TuI xs) = some (.bl (!decide (k ∈ xs))) := by
 have e : (xs.map D.int).any (fun e => eqD e (.int k)) = decide (k ∈ xs) := by
   rw [List.any_map, Bool.eq_iff_iff, List.any_eq_true, decide_eq_true_eq]
   constructor
   . rintro ⟨x, hx, h⟩
     simp only [Function.comp, eqD, beq_iff_eq] at h
     rw [← h]; exact hx
   . intro h; exact ⟨k, h, by simp [eqD]⟩
 have h1 : deps (xs.map D.int) ≤ 0 := z71 xs D.int 0 fun x => by simp [D.dep]
 have h2 : pls (xs.map D.int) = true := pls_of xs D.int fun x => rfl
 unfold dIn dOr dInS
 simp only [TuI, D.pl, h2, true_and, if_pos (show deps (xs.map D.int) ≤ 20 by omega), e, if_true]
theorem catT_1 (g : List Int) (c : Int) (h : g.length ≤ 1000) : dCatT (TuI g) (.tup [.int c]) = some (TuI (g ++ [c])) := by
 simp only [TuI, dCatT, List.length_map, List.length_cons, List.length_nil]
 rw [if_pos (by omega), List.map_append]; rfl
def xt1 (cs : List Int) (g : List Int) : List (List Int) := (cs.filter fun c => decide (c ∉ g)).map fun c => g ++ [c]
theorem z17a (cs g : List Int) : (xt1 cs g).length ≤ cs.length := by
 unfold xt1; rw [List.length_map]; exact List.length_filter_le _ _
theorem z17b (g : List Int) : (TuI g).noL = true := by
 unfold TuI; simp only [D.noL]; exact z4b _ _ fun x _ => noL_int x
theorem z151 (B0 : Sl) (cs : List Int) (hc : cs.length ≤ 100) (F : List (List Int)) (g : List Int) (hg : g.length ≤ 1000) (hF : F.length ≤ 99000) :
   z28 [B0, .im (L cs), .ow (.lst (F.map TuI)), .im (TuI g)] = .nx [B0, .im (L cs), .ow (.lst ((F ++ xt1 cs g).map TuI)), .im (TuI g)] := by
 unfold z28
 walk_at "dz"
 rw [if_pos (by rw [List.length_map]; omega), z68 (en := D.int) (bs := fun x => [D.int x]) (p := fun c => decide (c ∉ g)) (g := fun c => TuI (g ++ [c])) cs (fun x _ => rfl) (fun c _ => by
   unfold z52
   walk_at "dz"
   rw [z1f6]
   walk_at "dz"
   congr 1
   by_cases h : c ∈ g <;> simp [h]) (fun c _ _ => by
   unfold z53
   walk_at "dz"
   rw [catT_1 g c hg]
   walk_at "dz")]
 have hl := z17a cs g
 rw [show List.map (fun c => TuI (g ++ [c])) (cs.filter fun c => decide (c ∉ g)) = (xt1 cs g).map TuI by unfold xt1; rw [List.map_map]; rfl]
 generalize xt1 cs g = X at hl
 walk_at "dz"
 rw [show mExt (.lst (F.map TuI)) [.lst (X.map TuI)] = some (.lst ((F ++ X).map TuI)) by
   simp only [mExt, List.length_map]
   rw [if_pos (by omega), List.map_append]]
 walk_at "dz"
 try rw [Sl.frz_false]
theorem z152 (B : List (List Int)) (cs : List Int) (hc : cs.length ≤ 3) (hB : B.length ≤ 20000) (hg : ∀ g ∈ B, g.length ≤ 1000) : z1a [.lst (B.map TuI), L cs] = .ok (.lst ((B.flatMap (xt1 cs)).map TuI)) := by
 unfold z1a z75
 walk_at "dz"
 obtain ⟨ρ', e, F, s3, h1, h2, hr⟩ := z5e (tg := .n 3) (g := z28) (en := TuI)
   (fun r ρ => ∃ (F : List (List Int)) (s3 : Sl), F ++ r.flatMap (xt1 cs) = B.flatMap (xt1 cs) ∧ (F.length + 3 * r.length ≤ 60000 ∧ ∀ g ∈ r, g.length ≤ 1000) ∧ ρ = [.im (.lst (B.map TuI)), .im (L cs), .ow (.lst (F.map TuI)), s3])
   B [.im (.lst (B.map TuI)), .im (L cs), .ow (.lst []), .em] ⟨[], .em, rfl, ⟨by simp; omega, hg⟩, rfl⟩ (by
     rintro g r ρ ⟨F, s3, h1, ⟨h2, h3⟩, rfl⟩
     simp only [List.length_cons] at h2
     have hl := z17a cs g
     refine ⟨_, _, rfl, Or.inl (z151 _ cs (by omega) F g (h3 g (by simp)) (by omega)), ⟨_, _, ?_, ⟨?_, fun u hu => h3 u (by simp [hu])⟩, rfl⟩⟩
     . rw [← h1, List.flatMap_cons, List.append_assoc]
     . rw [List.length_append]; omega)
 rw [e, hr]
 rw [List.flatMap_nil, List.append_nil] at h1
 walk_at "dz"
 rw [h1]
theorem Sg_len (E : List Int) : ∀ (ts : List P3) (B : List (List Int)), (Sg E ts B).length ≤ B.length * 3 ^ ts.length
 | [], B => by simp [Sg]
 | t :: ts, B => by
   have h := Sg_len E ts (B.flatMap (xt E t))
   have h2 : (B.flatMap (xt E t)).length ≤ 3 * B.length := by
     clear h
     induction B with
     | nil => simp
     | cons g B ih =>
       have : (xt E t g).length ≤ 3 := by
         unfold xt
         rw [List.length_map]
         exact Nat.le_trans (List.length_filter_le _ _) (Nat.le_trans (List.length_filter_le _ _) (Nat.le_refl 3))
       rw [List.flatMap_cons, List.length_append, List.length_cons]; omega
   rw [List.length_cons, Nat.pow_succ]
   show (Sg E ts (B.flatMap (xt E t))).length ≤ _
   calc (Sg E ts (B.flatMap (xt E t))).length ≤ (B.flatMap (xt E t)).length * 3 ^ ts.length := h
     _ ≤ (3 * B.length) * 3 ^ ts.length := Nat.mul_le_mul_right _ h2
     _ = B.length * (3 ^ ts.length * 3) := by rw [Nat.mul_comm 3, Nat.mul_assoc, Nat.mul_comm 3]
def shr (i j : Int) (ts : List P3) : List (List Int) := if i = j then [] else Sh [i, j] ts
theorem z124 {n : Int} {ls : List P2} {T : List P3} (I : CInv n ls T) (hl : (ls.length : Int) + 3 = n) (h12 : n ≤ 12) (i j : Int) (hi : 0 ≤ i ∧ i < n) (hj : 0 ≤ j ∧ j < n) :
   z33 [.tup [.int n, .tup ((so2 ls).map T2)], .int i, .int j] = .ok (.lst ((shr i j (so3 T)).map TuI)) := by
 have et := zf2 I (z96 ls) (by omega)
 have hT : (so3 T).length ≤ 10 := by
   have := I.prm.length_eq
   rw [List.length_map, List.length_cons] at this
   rw [(z14 T).length_eq]; omega
 generalize hcut : (D.tup [.int n, .tup ((so2 ls).map T2)]) = cut at et
 have c0 : dIx cut (.int 0) = some (.int n) := by rw [← hcut]; exact dIx_t0 _ _
 generalize so3 T = ts at et hT
 have s1 : ∀ k (hk : 0 ≤ k ∧ k < n) (v : Nat) (ρ : DS), see ρ = [some cut, some (.int i), some (.int j), none, none] → eVar v [some cut, some (.int i), some (.int j), none, none] = .ok (.int k) → sDrop (eCall zc (eCons (eOp dIx (eVar 0) (eC (.int 0))) (eCons (eVar v) eNil))) ρ = .nx ρ := fun k hk v ρ hs hv => by
   simp only [sDrop, hs, eCall, eCons, eOp, eNil, hv]
   walk_at "dz"
   rw [c0]
   walk_at "dz"
   rw [z1a5 n k hk]
   walk_at "dz"
 unfold z33
 rw [mOf_e, if_pos (show [cut, D.int i, .int j].length = 3 from rfl)]
 show SR.out true (z7b [.im cut, .im (.int i), .im (.int j), .em, .em]) = _
 unfold z7b
 rw [seq_nx (s1 i hi 1 _ rfl rfl), seq_nx (s1 j hj 2 _ rfl rfl)]
 rw [seq_nx (ρ' := [.im cut, .im (.int i), .im (.int j), .em, .em]) (by
   walk_at "dz"
   rw [c0]
   walk_at "dz"
   rw [decide_eq_false (by first | exact Int.not_lt.mpr h12 | omega)]
   walk_at "dz")]
 by_cases hij : i = j
 . subst hij
   walk_at "dz"
   unfold shr
   rw [if_pos rfl]
   rfl
 . rw [seq_nx (ρ' := [.im cut, .im (.int i), .im (.int j), .em, .em]) (by
     walk_at "dz"
     rw [decide_eq_false hij]
     walk_at "dz")]
   rw [seq_nx (ρ' := [.im cut, .im (.int i), .im (.int j), .ow (.lst ([[]].map TuI)), .em]) (by
     walk_at "dz"
     rfl)]
   walk_at "dz"
   rw [et]
   walk_at "dz"
   obtain ⟨ρ', e, B, s4, h1, h2, hr⟩ := z5e (tg := .n 4) (g := z4d) (en := T3)
     (fun r ρ => ∃ (B : List (List Int)) (s4 : Sl), Sg [i, j] r B = Sh [i, j] ts ∧ (B.length * 3 ^ r.length ≤ 59049 ∧ ∀ g ∈ B, g.length + r.length ≤ 10) ∧ ρ = [.im cut, .im (.int i), .im (.int j), .ow (.lst (B.map TuI)), s4])
     ts [.im cut, .im (.int i), .im (.int j), .ow (.lst ([[]].map TuI)), .em] ⟨[[]], .em, rfl, ⟨by
       show 1 * 3 ^ ts.length ≤ 3 ^ 10
       rw [Nat.one_mul]; exact Nat.pow_le_pow_right (by decide) hT, by simp; omega⟩, rfl⟩ (by
       rintro t r ρ ⟨B, s4, h1, ⟨h2, h3⟩, rfl⟩
       have hB : B.length ≤ 19683 := by
         rw [List.length_cons, Nat.pow_succ] at h2
         exact Nat.le_of_mul_le_mul_right (Nat.le_trans (Nat.mul_le_mul_left _ (Nat.le_mul_of_pos_left 3 (Nat.pow_pos (by decide)))) h2 : B.length * 3 ≤ 19683 * 3) (by decide)
       have hcs : ((cor t).filter fun c => decide (c ∉ [i, j])).length ≤ 3 := Nat.le_trans (List.length_filter_le _ _) (Nat.le_refl 3)
       refine ⟨_, [.im cut, .im (.int i), .im (.int j), .ow (.lst ((B.flatMap (xt [i, j] t)).map TuI)), .im (T3 t)], rfl, Or.inl ?_, ⟨_, _, h1, ⟨?_, fun g hg => ?_⟩, rfl⟩⟩
       . unfold z4d
         walk_at "dz"
         rw [show [D.int t.1, D.int t.2.1, D.int t.2.2] = (cor t).map D.int from rfl, z68 (en := D.int) (bs := fun x => [D.int x]) (p := fun c => decide (c ∉ [i, j])) (g := fun c => D.int c) (cor t) (fun x _ => rfl) (fun c _ => by
           unfold z79
           walk_at "dz"
           congr 1
           rw [Bool.eq_iff_iff]
           simp only [Bool.and_eq_true, Bool.not_eq_true', decide_eq_false_iff_not, decide_eq_true_eq, List.mem_cons, List.not_mem_nil, or_false, not_or]) (fun c _ _ => by
           unfold z7a
           walk_at "dz")]
         simp only [R.bind_ok]
         have hg' : ∀ g ∈ B, g.length ≤ 1000 := fun g hg => Nat.le_trans (Nat.le_add_right _ _) (Nat.le_trans (h3 g hg) (by decide))
         have e1 := z152 B ((cor t).filter fun c => decide (c ∉ [i, j])) hcs (Nat.le_trans hB (by decide)) hg'
         rw [show (D.lst (List.map (fun c => D.int c) ((cor t).filter fun c => decide (c ∉ [i, j])))) = L ((cor t).filter fun c => decide (c ∉ [i, j])) from rfl, e1]
         rw [show xt1 ((cor t).filter fun c => decide (c ∉ [i, j])) = xt [i, j] t from rfl]
         rw [toS_ok, show keeps true (D.lst ((B.flatMap (xt [i, j] t)).map TuI)) = true by rw [keep_lst]; exact z4b _ _ fun x _ => z17b x]
         walk_at "dz"
       . have := Sg_len [i, j] [t] B
         have e3 : (B.flatMap (xt [i, j] t)).length ≤ B.length * 3 := this
         rw [List.length_cons, Nat.pow_succ] at h2
         calc (B.flatMap (xt [i, j] t)).length * 3 ^ r.length ≤ (B.length * 3) * 3 ^ r.length := Nat.mul_le_mul_right _ e3
           _ = B.length * (3 ^ r.length * 3) := by rw [Nat.mul_assoc, Nat.mul_comm 3]
           _ ≤ 59049 := h2
       . obtain ⟨g0, hg0, hx⟩ := List.mem_flatMap.mp hg
         obtain ⟨c, _, _, _, rfl⟩ := mem_xt.mp hx
         have := h3 g0 hg0
         rw [List.length_cons] at this
         rw [List.length_append, List.length_singleton]; omega)
   simp only [List.map_cons, List.map_nil] at e
   rw [e, hr]
   have h1' : B = Sh [i, j] ts := h1
   walk_at "dz"
   unfold shr
   rw [if_neg hij, ← h1']
theorem in_L (k : Int) (xs : List Int) : dIn false (.int k) (L xs) = some (.bl (decide (k ∈ xs))) := by
 have e : (xs.map D.int).any (fun e => eqD e (.int k)) = decide (k ∈ xs) := by
   rw [List.any_map, Bool.eq_iff_iff, List.any_eq_true, decide_eq_true_eq]
   constructor
   . rintro ⟨x, hx, h⟩
     simp only [Function.comp, eqD, beq_iff_eq] at h
     rw [← h]; exact hx
   . intro h; exact ⟨k, h, by simp [eqD]⟩
 have h1 : deps (xs.map D.int) ≤ 0 := z71 xs D.int 0 fun x => by simp [D.dep]
 have h2 : pls (xs.map D.int) = true := pls_of xs D.int fun x => rfl
 unfold dIn dOr dInS
 simp only [L, D.pl, h2, true_and, if_pos (show deps (xs.map D.int) ≤ 20 by omega), e, Bool.false_eq_true, if_false]
theorem cnt_c1 (k : Int) : ∀ {ts : List P3}, Asc ts → ((ts.filter fun t => decide (k ∈ cor t)).length : Int) = c1 k ts
 | [], _ => rfl
 | t :: ts, h => by
   have ih := cnt_c1 k (ts := ts) fun u hu => h u (by simp [hu])
   have ht := h t (by simp)
   rw [c1, ← ih]
   unfold ind
   by_cases hk : k ∈ cor t
   . rw [List.filter_cons_of_pos (by simpa using hk), List.length_cons]
     have : k = t.1 ∨ k = t.2.1 ∨ k = t.2.2 := by unfold cor at hk; simpa using hk
     have e : ((if k = t.1 then (1 : Int) else 0) + if k = t.2.1 then 1 else 0) + (if k = t.2.2 then 1 else 0) = 1 := by
       rcases this with e | e | e
       . rw [if_pos e, if_neg (e ▸ Int.ne_of_lt ht.1), if_neg (e ▸ Int.ne_of_lt (Int.lt_trans ht.1 ht.2))]; rfl
       . rw [if_neg (e ▸ (Int.ne_of_lt ht.1).symm), if_pos e, if_neg (e ▸ Int.ne_of_lt ht.2)]; rfl
       . rw [if_neg (e ▸ (Int.ne_of_lt (Int.lt_trans ht.1 ht.2)).symm), if_neg (e ▸ (Int.ne_of_lt ht.2).symm), if_pos e]; rfl
     rw [e, Int.add_comm]; rfl
   . rw [List.filter_cons_of_neg (by simpa using hk)]
     have : ¬ k = t.1 ∧ ¬ k = t.2.1 ∧ ¬ k = t.2.2 := by unfold cor at hk; simpa using hk
     rw [if_neg this.1, if_neg this.2.1, if_neg this.2.2]; exact (Int.zero_add _).symm
theorem band_b {row : List Int} {ls : List P2} {T : List P3} {v : Nat → Vc} (F : Flr row ls T v) (h60 : row.length ≤ 60) (lo d : Nat) (hd : lo + d + 1 < row.length) (i j : D) (s6 : Sl) :
   ∃ t6, z24 [.im (.lst ((so3 T).map L3)), .im i, .im j, .im (.int (bn row lo d)), .im (.int (bn row lo (d + 1))), .im (.int ((lo : Int) + (d : Int))), s6] =
     .nx [.im (.lst ((so3 T).map L3)), .im i, .im j, .im (.int (bn row lo (d + 1))), .im (.int (bn row lo (d + 2))), .im (.int ((lo : Int) + (d : Int))), t6] := by
 have hr := F.rw' (lo + d + 1) (by first | exact hd | omega)
 have rb := F.good.rb (lo + d + 1)
 have hTl : (so3 T).length ≤ 1000 := by
   have := F.inv.prm.length_eq
   rw [List.length_map, List.length_cons] at this
   have := F.len
   rw [(z14 T).length_eq]; omega
 have hc := cnt_c1 (((lo + d + 1 : Nat) : Int)) F.inv.asc
 rw [z1e8 _ (z14 T), ← hr] at hc
 generalize so3 T = ts at hc hTl
 refine ⟨.im (.int (row.getD (lo + d + 1) 0)), ?_⟩
 unfold z24
 rw [seq_nx (ρ' := [.im (.lst (ts.map L3)), .im i, .im j, .im (.int (bn row lo d)), .im (.int (bn row lo (d + 1))), .im (.int ((lo : Int) + (d : Int))), .im (.int (row.getD (lo + d + 1) 0))]) (by
   walk_at "dz"
   rw [if_pos (by rw [List.length_map]; exact Nat.le_trans hTl (by decide)), z68 (en := L3) (bs := fun x => [L3 x]) (p := fun t => decide (((lo + d + 1 : Nat) : Int) ∈ cor t)) (g := L3) ts (fun x _ => rfl) (fun t _ => by
     unfold z64
     walk_at "dz"
     rw [show (lo : Int) + (d : Int) + 1 = ((lo + d + 1 : Nat) : Int) from rfl, show L3 t = L (cor t) from rfl, in_L]
     walk_at "dz") (fun t _ _ => by
     unfold z65
     walk_at "dz")]
   walk_at "dz"
   rw [List.length_map, hc])]
 walk_at "dz"
 rw [mul_l (by omega)]
 walk_at "dz"
 rw [show bn row lo (d + 2) = row.getD (lo + d + 1) 0 * bn row lo (d + 1) - bn row lo d by rw [bn, show lo + (d + 1) = lo + d + 1 from rfl, Nat.mod_eq_of_lt hd]]
theorem mn_e (i j : Nat) : (if (j : Int) < (i : Int) then (j : Int) else (i : Int)) = ((min i j : Nat) : Int) := by
 by_cases h : j < i
 . rw [if_pos (Int.ofNat_lt.mpr h), Nat.min_eq_right (Nat.le_of_lt h)]
 . rw [if_neg (fun e => h (Int.ofNat_lt.mp e)), Nat.min_eq_left (Nat.le_of_not_lt h)]
theorem mx_e (i j : Nat) : (if (j : Int) > (i : Int) then (j : Int) else (i : Int)) = ((max i j : Nat) : Int) := by
 by_cases h : i < j
 . rw [if_pos (Int.ofNat_lt.mpr h), Nat.max_eq_right (Nat.le_of_lt h)]
 . rw [if_neg (fun e => h (Int.ofNat_lt.mp e)), Nat.max_eq_left (Nat.le_of_not_lt h)]
theorem bnd {k : Nat} (h : k ≤ 100000) : -100000 ≤ (k : Int) ∧ (k : Int) ≤ 100000 := ⟨Int.le_trans (by decide) (Int.natCast_nonneg k), Int.ofNat_le.mpr h⟩
theorem band_f {row : List Int} {ls : List P2} {T : List P3} {v : Nat → Vc} (F : Flr row ls T v) (h60 : row.length ≤ 60) (i j : D) (lo w : Nat) (hw : lo + w < row.length) :
   ∃ s5 s6, forL (.n 5) z24 ((List.range w).map fun (d : Nat) => D.int ((lo : Int) + (d : Int))) [.im (.lst ((so3 T).map L3)), .im i, .im j, .im (.int 0), .im (.int 1), .em, .em] =
     .nx [.im (.lst ((so3 T).map L3)), .im i, .im j, .im (.int (bn row lo w)), .im (.int (bn row lo (w + 1))), s5, s6] := by
 obtain ⟨ρ', e, s5, s6, hr⟩ := z95 (tg := .n 5) (g := z24) w (fun (d : Nat) => D.int ((lo : Int) + (d : Int)))
   (fun d ρ => ∃ s5 s6 : Sl, ρ = [.im (.lst ((so3 T).map L3)), .im i, .im j, .im (.int (bn row lo d)), .im (.int (bn row lo (d + 1))), s5, s6])
   [.im (.lst ((so3 T).map L3)), .im i, .im j, .im (.int 0), .im (.int 1), .em, .em] ⟨.em, .em, rfl⟩ (by
     rintro d hd ρ ⟨s5, s6, rfl⟩
     obtain ⟨t6, e⟩ := band_b F h60 lo d (Nat.lt_of_le_of_lt (Nat.add_le_add_left hd lo) hw) i j s6
     exact ⟨_, _, rfl, Or.inl e, ⟨_, _, rfl⟩⟩)
 exact ⟨s5, s6, hr ▸ e⟩
theorem band_e {row : List Int} {ls : List P2} {T : List P3} {v : Nat → Vc} (F : Flr row ls T v) (h60 : row.length ≤ 60) (i j : Nat) (hi : i < row.length) (hj : j < row.length) :
   z1c [.lst ((so3 T).map L3), .int (i : Int), .int (j : Int)] = .ok (.int (mm v i j)) := by
 have hM : max i j < row.length := Nat.max_lt.mpr ⟨hi, hj⟩
 have hlm : min i j ≤ max i j := Nat.le_trans (Nat.min_le_left i j) (Nat.le_max_left i j)
 have hs : min i j + (max i j - min i j) = max i j := Nat.add_sub_cancel' hlm
 have hM' : max i j ≤ 100000 := Nat.le_trans (Nat.le_of_lt hM) (Nat.le_trans h60 (by decide))
 obtain ⟨s5, s6, e⟩ := band_f F h60 (.int (i : Int)) (.int (j : Int)) (min i j) (max i j - min i j) (by rw [hs]; exact hM)
 rw [show mm v i j = bn row (min i j) (max i j - min i j) by rw [bn_dt F.good, hs]; rfl]
 rw [show max i j - min i j = (((max i j : Nat) : Int) - ((min i j : Nat) : Int)).toNat by rw [← Int.ofNat_sub hlm, Int.toNat_natCast]] at e ⊢
 unfold z1c z85
 generalize bn row (min i j) _ = z at e ⊢
 generalize (so3 T).map L3 = ts at e ⊢
 walk_at "dz"
 rw [iR2_e ((min i j : Nat) : Int) ((max i j : Nat) : Int) (bnd (Nat.le_trans hlm hM')) (bnd hM') (by
   walk_at "dz"
   rw [mn_e, mx_e])]
 walk_at "dz"
 simp only [zD]
 rw [e]
 walk_at "dz"
theorem z1f7 (x : List Int) : dLen [TuI x] = some (.int (x.length : Int)) := by unfold TuI; rw [dLen_t, List.length_map]
abbrev kI (zs : List Int) : D := .dk (zs.map fun x => (Sum.inl x : Key)) (zs.map fun _ => D.bl true)
theorem z17c (c : Int) : ∀ zs : List Int, c ∉ zs → lookD (zs.map fun x => (Sum.inl x : Key)) (zs.map fun _ => D.bl true) (Sum.inl c) = none
 | [], _ => rfl
 | z :: zs, h => by
   rw [List.mem_cons, not_or] at h
   have ih := z17c c zs h.2
   unfold lookD at ih ⊢
   simp only [List.map_cons, List.zip_cons_cons]
   rw [List.find?_cons_of_neg (by simpa using fun e => h.1 e.symm)]
   exact ih
theorem in_dk (c : Int) (zs : List Int) (h : c ∉ zs) : dIn false (.int c) (kI zs) = some (.bl false) := by
 unfold dIn dOr dInS dInD
 simp only [getD', keyD, Option.map_some, z17c c zs h, Option.isSome_none, Bool.false_eq_true, if_false]
theorem set_dk (c : Int) (zs : List Int) (h : c ∉ zs) (hz : zs.length ≤ 1000) : dSet (kI zs) (.int c) (.bl true) = some (kI (zs ++ [c])) := by
 simp only [dSet, keyD, Option.map_some]
 rw [if_pos (by rw [List.length_map]; omega)]
 unfold putKs putV
 rw [if_neg (by rw [in_key]; exact h), if_neg (by rw [in_key]; exact h)]
 simp only [kI, List.map_append, List.map_cons, List.map_nil]
theorem in_Ln (k : Int) (xs : List Int) (hk : k ∈ xs) : dIn true (.int k) (L xs) = some (.bl false) := by
 have e : (xs.map D.int).any (fun e => eqD e (.int k)) = true := by
   rw [List.any_map, List.any_eq_true]
   exact ⟨k, hk, by simp [eqD]⟩
 have h1 : deps (xs.map D.int) ≤ 0 := z71 xs D.int 0 fun x => by simp [D.dep]
 have h2 : pls (xs.map D.int) = true := pls_of xs D.int fun x => rfl
 unfold dIn dOr dInS
 simp only [L, D.pl, h2, true_and, if_pos (show deps (xs.map D.int) ≤ 20 by omega), e, if_true, Bool.not_true]
def pr (p : Int × P3) : D := .tup [.int p.1, L3 p.2]
theorem zip_pr : ∀ (x : List Int) (ts : List P3), ((x.map D.int).zip (ts.map L3)).map (fun p => D.tup [p.1, p.2]) = (x.zip ts).map pr
 | [], _ => by simp
 | _ :: _, [] => by simp
 | c :: x, t :: ts => by simp only [List.map_cons, List.zip_cons_cons, zip_pr x ts]; rfl
theorem al_zip : ∀ {x : List Int} {ts : List P3}, Cu.Al x ts → (∀ p ∈ x.zip ts, p.1 ∈ cor p.2) ∧ (x.zip ts).map (·.1) = x
 | [], [], _ => by simp
 | [], _ :: _, h => by simp [Cu.Al] at h
 | _ :: _, [], h => by simp [Cu.Al] at h
 | c :: x, t :: ts, h => by
   simp only [Cu.Al] at h
   have ih := al_zip h.2
   refine ⟨fun p hp => ?_, by simp only [List.zip_cons_cons, List.map_cons, ih.2]⟩
   rw [List.zip_cons_cons, List.mem_cons] at hp
   rcases hp with rfl | hp
   . exact h.1
   . exact ih.1 p hp
theorem iss_b (A B I J s5 s6 : Sl) (c : Int) (t : P3) (zs : List Int) (h1 : c ∈ cor t) (h2 : c ∉ zs) (hz : zs.length ≤ 1000) :
   z10 [A, B, I, J, .ow (kI zs), .im (.int c), .im (L3 t)] = .nx [A, B, I, J, .ow (kI (zs ++ [c])), .im (.int c), .im (L3 t)] := by
 unfold z10
 walk_at "dz"
 rw [z1ed]
 walk_at "dz"
 rw [show L3 t = L (cor t) from rfl, in_Ln c _ h1, in_dk c zs h2]
 walk_at "dz"
 rw [set_dk c zs h2 hz]
 walk_at "dz"
 try rfl
theorem iss_e {i j : Int} {ts : List P3} {x : List Int} (h : Vd [i, j] ts x) (hij : i ≠ j) (ht : ts.length ≤ 100) :
   za [TuI x, .lst (ts.map L3), .int i, .int j] = .ok (.bl true) := by
 obtain ⟨h1, h2, h3⟩ := h
 have hl := h1.len
 have hz := al_zip h1
 have hzl : (x.zip ts).length ≤ 100 := by rw [List.length_zip, hl, Nat.min_self]; exact ht
 have hnd : ((x.zip ts).map (·.1)).Nodup := by rw [hz.2]; exact h2
 have hE : ∀ p ∈ x.zip ts, p.1 ∉ [i, j] := fun p hp => h3 _ (by rw [← hz.2]; exact List.mem_map_of_mem hp)
 unfold za z40
 walk_at "dz"
 rw [show dIsi "tuple" (TuI x) = some (.bl true) from isi_tt _, z1f7, List.length_map, hl]
 walk_at "dz"
 simp only [eDisp2]
 walk_at "dz"
 simp only [keyD, R.of]
 rw [show putKs [(Sum.inl i : Key)] (Sum.inl j) = [i, j].map (fun x => (Sum.inl x : Key)) by
   unfold putKs; rw [if_neg (by simpa using fun e => hij e.symm)]; rfl]
 rw [show putV [(Sum.inl i : Key)] [D.bl true] (Sum.inl j) (D.bl true) = [i, j].map (fun _ => D.bl true) by
   unfold putV; rw [if_neg (by simpa using fun e => hij e.symm)]; rfl]
 walk_at "dz"
 rw [show (D.dk [Sum.inl i, Sum.inl j] [D.bl true, D.bl true]) = kI [i, j] from rfl, show keeps true (kI [i, j]) = true from rfl]
 walk_at "dz"
 simp only [iZpT]
 walk_at "dz"
 simp only [TuI, List.length_map, hl, if_true, R.of, zip_pr]
 walk_at "dz"
 obtain ⟨ρ', e, zs, s5, s6, _, hr⟩ := z5e (tg := .t [5, 6]) (g := z10) (en := pr)
   (fun r ρ => ∃ (zs : List Int) (s5 s6 : Sl), ((∀ p ∈ r, p.1 ∈ cor p.2 ∧ p.1 ∉ zs) ∧ (r.map (·.1)).Nodup ∧ zs.length + r.length ≤ 102) ∧ ρ = [.im (.tup (x.map D.int)), .im (.lst (ts.map L3)), .im (.int i), .im (.int j), .ow (kI zs), s5, s6])
   (x.zip ts) [.im (.tup (x.map D.int)), .im (.lst (ts.map L3)), .im (.int i), .im (.int j), .ow (kI [i, j]), .em, .em] ⟨[i, j], .em, .em, ⟨fun p hp => ⟨hz.1 p hp, hE p hp⟩, hnd, by rw [Nat.add_comm]; exact Nat.add_le_add_right hzl 2⟩, rfl⟩ (by
     rintro ⟨c, t⟩ r ρ ⟨zs, s5, s6, ⟨g1, g2, g3⟩, rfl⟩
     have hc := g1 (c, t) (by simp)
     rw [List.map_cons, List.nodup_cons] at g2
     rw [List.length_cons] at g3
     refine ⟨_, _, rfl, Or.inl (iss_b _ _ _ _ s5 s6 c t zs hc.1 hc.2 (Nat.le_trans (Nat.le_add_right _ _) (Nat.le_trans g3 (by decide)))), ⟨_, _, _, ⟨fun p hp => ⟨(g1 p (by simp [hp])).1, fun hm => ?_⟩, g2.2, by rw [List.length_append, List.length_singleton, Nat.add_assoc, Nat.add_comm 1]; exact g3⟩, rfl⟩⟩
     rw [List.mem_append, List.mem_singleton] at hm
     rcases hm with hm | hm
     . exact (g1 p (by simp [hp])).2 hm
     . exact g2.1 (hm ▸ List.mem_map_of_mem (f := (·.1)) hp))
 rw [e, hr]
 walk_at "dz"
theorem lt_TuI {a b : List Int} (h : lx a b) : dLtB (TuI a) (TuI b) = some (.bl true) := by
 have ho : ∀ a : List Int, obs (a.map D.int) = true := fun a => by
   induction a with
   | nil => rfl
   | cons x a ih => simp only [List.map_cons, obs, D.ob, ih, Bool.and_true]
 have hc : ∀ a b : List Int, lx a b → cmpBs (a.map D.int) (b.map D.int) = some true := fun a => by
   induction a with
   | nil => intro b h; cases b <;> simp [lx] at h
   | cons x a ih =>
     intro b h
     cases b with
     | nil => simp [lx] at h
     | cons y b =>
       simp only [lx] at h
       simp only [List.map_cons, cmpBs, cmpB, eqD, beq_iff_eq]
       rcases h with h | ⟨rfl, h⟩
       . rw [if_neg (by omega), decide_eq_true h]
       . rw [if_pos rfl]; exact ih b h
 have h1 : deps (a.map D.int) ≤ 0 := z71 a D.int 0 fun x => by simp [D.dep]
 unfold dLtB TuI
 simp only [D.ob, ho, D.dep, true_and, if_pos (show deps (a.map D.int) + 1 ≤ 20 by omega), cmpB, hc a b h, Option.map_some]
theorem ix_S {S : List (List Int)} {k : Nat} (h : k < S.length) : dIx (.lst (S.map TuI)) (.int (k : Int)) = some (TuI S[k]) := by
 refine dIx_ln ?_
 rw [List.getElem?_map, List.getElem?_eq_getElem h]; rfl
theorem kL3 {ts : List P3} (h : ts ≠ []) : keeps true (D.lst (ts.map L3)) = false := by
 cases ts with
 | nil => exact absurd rfl h
 | cons t ts => rw [keep_lst, List.map_cons, noLs_c]; rfl
theorem law_b {i j : Int} {ts : List P3} (hij : i ≠ j) (ha : Asc ts) (ht : ts.length ≤ 100) (k : Nat) (hk : k < (Sh [i, j] ts).length) (A B C : Sl) :
   z88 [A, B, .ow (.lst (ts.map L3)), C, .im (.int i), .im (.int j), .ow (.lst ((Sh [i, j] ts).map TuI)), .im (.int (k : Int))] =
     .nx [A, B, .ow (.lst (ts.map L3)), C, .im (.int i), .im (.int j), .ow (.lst ((Sh [i, j] ts).map TuI)), .im (.int (k : Int))] := by
 have hv : Vd [i, j] ts (Sh [i, j] ts)[k] := mem_Sh.mp (List.getElem_mem hk)
 have hp := List.pairwise_iff_getElem.mp (Sh_lx (E := [i, j]) ha)
 generalize Sh [i, j] ts = S at *
 unfold z88
 walk_at "dz"
 rw [ix_S hk]
 walk_at "dz"
 rw [iss_e hv hij ht]
 walk_at "dz"
 cases k with
 | zero =>
   rw [decide_eq_false (by first | decide | omega)]
   walk_at "dz"
 | succ k =>
   rw [decide_eq_true (by first | exact Int.ofNat_lt.mpr (Nat.succ_pos k) | omega)]
   walk_at "dz"
   rw [show ((k + 1 : Nat) : Int) - 1 = (k : Int) from Int.add_sub_cancel (k : Int) 1, ix_S (show k < S.length from Nat.lt_of_succ_lt hk)]
   walk_at "dz"
   rw [ix_S hk]
   walk_at "dz"
   rw [lt_TuI (hp k (k + 1) (Nat.lt_of_succ_lt hk) hk (Nat.lt_succ_self k))]
   walk_at "dz"
theorem law_c (ns : List Int) (hns : ns.length ≤ 63) (sp : List Int) (m n i j : Nat) (ts : List P3) (S : List (List Int)) (cut : D) (hm : pkv ns 0 / 5 % 10 = (m : Int))
   (ep : z11 [.int (pkv ns 0), .int (m : Int), L (cutL ns (some 3) none)] = .ok (L sp)) (er : z17 [L sp] = .ok (.lst (ts.map L3))) (hT : (ts.length : Int) + 2 = (n : Int)) (hn0 : 0 < (n : Int))
   (hi : pkv ns 1 % (n : Int) = (i : Int)) (hj : pkv ns 2 % (n : Int) = (j : Int)) (ec : z32 [.int (n : Int), .lst (ts.map L3)] = .ok cut) (es : z33 [cut, .int (i : Int), .int (j : Int)] = .ok (.lst (S.map TuI)))
   (eb : z1c [.lst (ts.map L3), .int (i : Int), .int (j : Int)] = .ok (.int (S.length : Int))) (hS : S.length ≤ 100000) (hts : ts ≠ [])
   (lb : ∀ k, k < S.length → ∀ A B C, z88 [A, B, .ow (.lst (ts.map L3)), C, .im (.int (i : Int)), .im (.int (j : Int)), .ow (.lst (S.map TuI)), .im (.int (k : Int))] =
     .nx [A, B, .ow (.lst (ts.map L3)), C, .im (.int (i : Int)), .im (.int (j : Int)), .ow (.lst (S.map TuI)), .im (.int (k : Int))]) : m_law [.scr ns] = .ok (.bl true) := by
 have nl : noLs (ts.map L3) = false := by have := kL3 hts; rwa [keep_lst] at this
 have nT : noLs (S.map TuI) = true := z4b _ _ fun x _ => z17b x
 obtain ⟨ρ', e, s7, hr⟩ := z95 (tg := .n 7) (g := z88) S.length (fun (k : Nat) => D.int (0 + (k : Int)))
   (fun k ρ => ∃ s7 : Sl, ρ = [.im (.scr ns), .im (.int (pkv ns 0)), .ow (.lst (ts.map L3)), .im (.int (n : Int)), .im (.int (i : Int)), .im (.int (j : Int)), .ow (.lst (S.map TuI)), s7])
   [.im (.scr ns), .im (.int (pkv ns 0)), .ow (.lst (ts.map L3)), .im (.int (n : Int)), .im (.int (i : Int)), .im (.int (j : Int)), .ow (.lst (S.map TuI)), .em] ⟨.em, rfl⟩ (by
     rintro k hk ρ ⟨s7, rfl⟩
     rw [Int.zero_add]
     exact ⟨_, _, rfl, Or.inl (lb k hk _ _ _), ⟨_, rfl⟩⟩)
 unfold m_law g_law
 walk_at "dz"
 rw [pick_e ns hns]
 walk_at "dz"
 rw [div_p (by decide)]
 walk_at "dz"
 rw [mod_p (by decide), hm]
 walk_at "dz"
 rw [ep]
 walk_at "dz"
 rw [er]
 walk_at "dz"
 rw [nl]
 walk_at "dz"
 rw [List.length_map, hT]
 walk_at "dz"
 rw [pick_e ns hns]
 walk_at "dz"
 rw [mod_p hn0, hi]
 walk_at "dz"
 rw [pick_e ns hns]
 walk_at "dz"
 rw [mod_p hn0, hj]
 walk_at "dz"
 rw [ec]
 walk_at "dz"
 rw [es]
 walk_at "dz"
 rw [nT]
 walk_at "dz"
 rw [List.length_map, eb]
 walk_at "dz"
 rw [iR1_e (S.length : Int) (bnd hS) (by
   walk_at "dz"
   rw [List.length_map])]
 walk_at "dz"
 simp only [zD]
 rw [show ((S.length : Int)).toNat = S.length from Int.toNat_natCast _, e, hr]
 walk_at "dz"
theorem mk_mod (x : Int) {n : Nat} (h : 0 < (n : Int)) : ∃ i : Nat, i < n ∧ x % (n : Int) = (i : Int) :=
 ⟨(x % (n : Int)).toNat, Int.ofNat_lt.mp (by rw [Int.toNat_of_nonneg (Int.emod_nonneg _ (Int.ne_of_gt h))]; exact Int.emod_lt_of_pos _ h), (Int.toNat_of_nonneg (Int.emod_nonneg _ (Int.ne_of_gt h))).symm⟩
theorem shr_le {i j : Int} {ts : List P3} (h : ts.length ≤ 10) : (shr i j ts).length ≤ 100000 := by
 unfold shr; split
 . simp
 . exact Nat.le_trans (Sg_len [i, j] ts [[]]) (by
     show 1 * 3 ^ ts.length ≤ 100000
     rw [Nat.one_mul]
     exact Nat.le_trans (Nat.pow_le_pow_right (by decide) h) (by decide))
theorem shr_b {i j : Int} {ts : List P3} (ha : Asc ts) (ht : ts.length ≤ 100) (k : Nat) (hk : k < (shr i j ts).length) (A B C : Sl) :
   z88 [A, B, .ow (.lst (ts.map L3)), C, .im (.int i), .im (.int j), .ow (.lst ((shr i j ts).map TuI)), .im (.int (k : Int))] =
     .nx [A, B, .ow (.lst (ts.map L3)), C, .im (.int i), .im (.int j), .ow (.lst ((shr i j ts).map TuI)), .im (.int (k : Int))] := by
 unfold shr at hk ⊢
 split at hk
 . exact absurd hk (by simp)
 . rename_i hij
   rw [if_neg hij]
   exact law_b hij ha ht k hk A B C
theorem z1ab (ns : List Int) (hns : ns.length ≤ 63) : m_law [.scr ns] = .ok (.bl true) := by
 obtain ⟨m, q1, hm⟩ := mk_mod (pkv ns 0 / 5) (n := 10) (by decide)
 have hcl := z178 ns (some 3) none
 obtain ⟨sp, hsp, ep⟩ := z1a7 (pkv ns 0) m (by omega) (cutL ns (some 3) none) (by omega)
 have er := z1a8 sp (by omega)
 obtain ⟨O, hol⟩ := bs_ok sp
 have hrl := O.len
 have h12 : (bs sp).row.length ≤ 12 := by rw [hrl, hol, hsp]; exact Nat.add_le_add_right (Nat.le_of_lt_succ q1) 3
 have h3 : 3 ≤ (bs sp).row.length := by rw [hrl, hol]; exact Nat.le_add_left 3 _
 have F := O.fl
 have C := O.sc
 rw [← hrl] at C
 clear hrl hol hcl hsp q1 O
 generalize (bs sp).row = row at *
 generalize (bs sp).ls = ls at *
 generalize (bs sp).T = T at *
 generalize (bs sp).v = v at *
 have hl := F.len
 have hT : (so3 T).length + 2 = row.length := by rw [(z14 T).length_eq]; exact F.inv.tlen hl
 have hn0 : 0 < (row.length : Int) := Int.ofNat_lt.mpr (Nat.lt_of_lt_of_le (by decide) h3)
 have hl' : (ls.length : Int) + 3 = (row.length : Int) := by rw [← hl]; rfl
 have h12' : (row.length : Int) ≤ 12 := Int.ofNat_le.mpr h12
 have ht : (so3 T).length ≤ 10 := Nat.le_of_add_le_add_right (b := 2) (by rw [hT]; exact h12)
 obtain ⟨i, i1, hi⟩ := mk_mod (pkv ns 1) hn0
 obtain ⟨j, j1, hj⟩ := mk_mod (pkv ns 2) hn0
 have eb := band_e F (Nat.le_trans h12 (by decide)) i j i1 j1
 rw [← C i j i1 j1, show cn (i : Int) (j : Int) (so3 T) = (shr (i : Int) (j : Int) (so3 T)).length by unfold shr cn; split <;> rfl] at eb
 exact law_c ns hns sp m row.length i j (so3 T) _ _ hm ep er (by rw [← hT]; rfl) hn0 hi hj (cut_e F.inv (by omega))
   (z124 F.inv hl' h12' (i : Int) (j : Int) ⟨Int.natCast_nonneg i, Int.ofNat_lt.mpr i1⟩ ⟨Int.natCast_nonneg j, Int.ofNat_lt.mpr j1⟩) eb (shr_le ht)
   (fun e => by rw [e] at hT; rw [← hT] at h3; exact absurd h3 (by decide)) (shr_b F.inv.asc (Nat.le_trans ht (by decide)))
end K43
namespace K43
open PySem PySem.Spec PyProof.Rows L2
theorem walk {l : PySem.W.OpenLaw} {q : Program} {loose : List Str} {XP : (Str → Option Value) → Heap → Prop} {YP : World → Heap → Prop} {d : DefRec} {K : Params → PySem.W.Frag} (hn : l.most = some 63) (hdf : d.params.defaults = [])
   (hY : ∀ (w : World) (h : Heap), YP w h → (K w.params).In h)
   (F : ∀ (w : World) (mg : Str → Option Value) (fa : Addr) (h : Heap), (K w.params).In h → h.Ns mainGlobals mg → mg d.name = some (.ref fa) →
     ∃ fd : FuncData, (∀ (s : Shared) (u : Value), BindsTo s fd ⟨[u], []⟩ [("_law_script", u)]) ∧ ∀ base : Heap, (K w.params).In base → base.Ns mainGlobals mg → FnOk l.prog w (K w.params) mg base (CX1 l.prog w) 6 fa fd ["_law_script"] (spL (K w.params) false m_law 1)) :
   PySem.W.WalkO q loose XP YP l.row.toRowW d [] (fun f vs => PySem.call f vs) :=
 L2.walk_of (n := 63) (k := 6) (x := "_law_script") (CX := fun w => CX1 l.prog w) (sp := fun w => (spL (K w.params) false m_law 1)) hn (by decide) hdf ⟨rfl, by decide, by decide⟩ hY F (fun _ _ a ns hl hO hS => law_sp hO hS (z1ab ns hl)) fun _ _ _ _ _ ⟨_, _, _, _, _, z⟩ => z
end K43
open PySem PySem.W PyProof.Rows
set_option maxRecDepth 100000 in
set_option maxHeartbeats 0 in
theorem PySem.Challenge.cw_friezeyard_k43_sharings_counted_holds : PySem.Challenge.rw_friezeyard_k43_sharings_counted.Holds := by
 w_on; o_law; k_head; (case hw => w_witness2)
 k_fill
 refine K43.walk (l := PySem.Challenge.rw_friezeyard_k43_sharings_counted) rfl rfl (fun w h Y => PySem.W.kIn_of Y) ?F
 case F =>
   intro w mg fa h KX G hmg
   refine' K43.all_mk KX G hmg ?a0 ?l0 ?c0 ?k0 ?a1 ?l1 ?c1 ?k1 ?a2 ?l2 ?c2 ?k2 ?a3 ?l3 ?c3 ?k3 ?a4 ?l4 ?c4 ?k4 ?a5 ?l5 ?c5 ?k5 ?a6 ?l6 ?c6 ?k6 ?a7 ?l7 ?c7 ?k7 ?a8 ?l8 ?c8 ?k8 ?a9 ?l9 ?c9 ?k9 ?a10 ?l10 ?c10 ?k10 ?a11 ?l11 ?c11 ?k11 ?a12 ?l12 ?c12 ?k12 ?a13 ?l13 ?c13 ?k13 ?a14 ?l14 ?c14 ?k14 ?a15 ?l15 ?c15 ?k15 ?z_bool ?z_enumerate ?z_int ?z_isinstance ?z_len ?z_list ?z_max ?z_min ?z_range ?z_sorted ?z_tuple ?z_zip
   (case a0 => k_is)
   (case l0 => k_is)
   (case c0 => k_is)
   (case k0 => k_is)
   (case a1 => k_is)
   (case l1 => k_is)
   (case c1 => k_is)
   (case k1 => k_is)
   (case a2 => k_is)
   (case l2 => k_is)
   (case c2 => k_is)
   (case k2 => k_is)
   (case a3 => k_is)
   (case l3 => k_is)
   (case c3 => k_is)
   (case k3 => k_is)
   (case a4 => k_is)
   (case l4 => k_is)
   (case c4 => k_is)
   (case k4 => k_is)
   (case a5 => k_is)
   (case l5 => k_is)
   (case c5 => k_is)
   (case k5 => k_is)
   (case a6 => k_is)
   (case l6 => k_is)
   (case c6 => k_is)
   (case k6 => k_is)
   (case a7 => k_is)
   (case l7 => k_is)
   (case c7 => k_is)
   (case k7 => k_is)
   (case a8 => k_is)
   (case l8 => k_is)
   (case c8 => k_is)
   (case k8 => k_is)
   (case a9 => k_is)
   (case l9 => k_is)
   (case c9 => k_is)
   (case k9 => k_is)
   (case a10 => k_is)
   (case l10 => k_is)
   (case c10 => k_is)
   (case k10 => k_is)
   (case a11 => k_is)
   (case l11 => k_is)
   (case c11 => k_is)
   (case k11 => k_is)
   (case a12 => k_is)
   (case l12 => k_is)
   (case c12 => k_is)
   (case k12 => k_is)
   (case a13 => k_is)
   (case l13 => k_is)
   (case c13 => k_is)
   (case k13 => k_is)
   (case a14 => k_is)
   (case l14 => k_is)
   (case c14 => k_is)
   (case k14 => k_is)
   (case a15 => k_is)
   (case l15 => k_is)
   (case c15 => k_is)
   (case k15 => k_is)
   (case z_bool => k_is)
   (case z_enumerate => k_is)
   (case z_int => k_is)
   (case z_isinstance => k_is)
   (case z_len => k_is)
   (case z_list => k_is)
   (case z_max => k_is)
   (case z_min => k_is)
   (case z_range => k_is)
   (case z_sorted => k_is)
   (case z_tuple => k_is)
   (case z_zip => k_is)
