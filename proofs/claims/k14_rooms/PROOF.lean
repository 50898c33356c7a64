import PyProof.Rows.All
import Wide.All
import OpenK.AllK
import Wide.FinOn
import Lean
import PyProof.EqAt
import PyProof.EqKinds
import PyProof.TupleCall
import KE.KIsAll
import KE.RegKIsAll
import PyProof.ExcArgsOwn
import PyProof.InstStoreFacts
import PyProof.Rows.MinMaxN
import PyProof.Rows.CallKwBuiltin
import KE.KMinKey
import KE.KDictOf
import PyProof.AttrMissSeq
import KE.KSortAsk
import KE.KDictSum
import PyProof.Rows.TupDisplay
import PyProof.SetKind
import PyProof.IsRules
import PyProof.SetNew
import PyProof.Rows.SetFrom
import PySem.Challenge.RW_friezeyard_k14_rooms_between_lines
set_option Elab.async false
set_option linter.all false
set_option maxRecDepth 100000
namespace L2
open PySem PySem.Spec PyProof.Rows
abbrev Key := Sum Int Str
def keyIs : Key → Value → Bool
  | .inl k, v => Value.isInt k v
  | .inr x, v => Value.isStrOf x v
def keyH (w : World) : Key → Int
  | .inl k => hashInt k
  | .inr x => hashStr w x
theorem keyIs_shape : ∀ {k : Key} {v : Value}, keyIs k v = true → (∃ i t, k = Sum.inl i ∧ v = Value.int i t) ∨ (∃ x t, k = Sum.inr x ∧ v = Value.str x t)
  | .inl i, v, h => by
    obtain ⟨t, e⟩ := Value.isInt_shape (k := i) (v := v) h
    exact .inl ⟨i, t, rfl, e⟩
  | .inr x, v, h => by
    obtain ⟨t, e⟩ := Value.isStrOf_shape (x := x) (v := v) h
    exact .inr ⟨x, t, rfl, e⟩
theorem keyIs_int (i : Int) (t : Tok) : keyIs (.inl i) (.int i t) = true := by simp [keyIs, Value.isInt]
theorem keyIs_str (x : Str) (t : Tok) : keyIs (.inr x) (.str x t) = true := by simp [keyIs, Value.isStrOf]
theorem key_ll (a b : Int) : decide ((Sum.inl a : Key) = Sum.inl b) = (a == b) := by
  by_cases e : a = b
  · subst e; simp
  · have h : ¬ (Sum.inl a : Key) = Sum.inl b := fun q => e (Sum.inl.inj q)
    rw [decide_eq_false h]
    exact (beq_eq_false_iff_ne.mpr e).symm
theorem key_rr (a b : Str) : decide ((Sum.inr a : Key) = Sum.inr b) = decide (a = b) := by
  by_cases e : a = b
  · subst e; simp
  · have h : ¬ (Sum.inr a : Key) = Sum.inr b := fun q => e (Sum.inr.inj q)
    rw [decide_eq_false h, decide_eq_false e]
theorem key_lr (a : Int) (b : Str) : decide ((Sum.inl a : Key) = Sum.inr b) = false := decide_eq_false (fun q => nomatch q)
theorem key_rl (a : Str) (b : Int) : decide ((Sum.inr a : Key) = Sum.inl b) = false := decide_eq_false (fun q => nomatch q)
def mixKind (prog : Program) (w : World) : PySem.KeyKind prog w Key where
  is := keyIs
  hash := keyH w
  inj := fun v a b ha hb => by
    rcases keyIs_shape ha with ⟨i, t, rfl, rfl⟩ | ⟨x, t, rfl, rfl⟩
    · rcases keyIs_shape hb with ⟨j, u, rfl, e⟩ | ⟨y, u, rfl, e⟩
      · injection e with e1 _; rw [e1]
      · exact nomatch e
    · rcases keyIs_shape hb with ⟨j, u, rfl, e⟩ | ⟨y, u, rfl, e⟩
      · exact nomatch e
      · injection e with e1 _; rw [e1]
  byValue := fun k v h => by
    rcases keyIs_shape h with ⟨i, t, rfl, rfl⟩ | ⟨x, t, rfl, rfl⟩ <;> rfl
  pyHash := fun hv h => by
    rcases keyIs_shape hv with ⟨i, t, rfl, rfl⟩ | ⟨x, t, rfl, rfl⟩
    · exact wpAny_pyHash_int h
    · exact wpAny_pyHash_str h
  eqBool := fun hu hv h => by
    rcases keyIs_shape hu with ⟨i, t, rfl, rfl⟩ | ⟨x, t, rfl, rfl⟩
    · rcases keyIs_shape hv with ⟨j, u, rfl, rfl⟩ | ⟨y, u, rfl, rfl⟩
      · rw [key_ll] at h; exact wpAny_eqBool_int h
      · rw [key_lr] at h; exact SeqAt.EqAt.int_str i t y u _ _ _ _ h
    · rcases keyIs_shape hv with ⟨j, u, rfl, rfl⟩ | ⟨y, u, rfl, rfl⟩
      · rw [key_rl] at h; exact SeqAt.EqAt.str_int x t j u _ _ _ _ h
      · rw [key_rr] at h; exact wpAny_eqBool_str h
  «strs» := fun k x t v h => by
    rcases keyIs_shape h with ⟨i, u, rfl, e⟩ | ⟨y, u, rfl, e⟩
    · exact nomatch e
    · injection e with e1 _
      subst e1
      cases v <;> rfl
theorem mixKind_int (prog : Program) (w : World) (i : Int) (t : Tok) : (mixKind prog w).is (.inl i) (.int i t) = true := keyIs_int i t
theorem mixKind_str (prog : Program) (w : World) (x : Str) (t : Tok) : (mixKind prog w).is (.inr x) (.str x t) = true := keyIs_str x t
end L2
namespace L2
open PySem PySem.Spec PyProof.Rows
inductive V where
  | non | bl (b : Bool) | int (i : Int) | str (x : Str) | byt (b : Array UInt8) | flt (b : UInt64) | ref (a : Addr) | ty (n : String)
  deriving DecidableEq
def RelV : V → Value → Prop
  | .non, u => u = Value.none
  | .bl b, u => u = Value.bool b
  | .int i, u => ∃ t, u = Value.int i t
  | .str x, u => ∃ t, u = Value.str x t
  | .byt b, u => ∃ t, u = Value.bytes b t
  | .flt b, u => ∃ t, u = Value.float b t
  | .ref a, u => u = Value.ref a
  | .ty n, u => u = Value.type n
abbrev Vals : List V → List Value → Prop := Paired RelV
theorem Vals.length {xs : List V} {us : List Value} (r : Vals xs us) : xs.length = us.length := Paired.length r
theorem Vals.get : ∀ {xs : List V} {us : List Value} {i : Nat} {x : V}, Vals xs us → xs[i]? = some x → ∃ u, us[i]? = some u ∧ RelV x u
  | _, _, _, _, .nil, e => by simp at e
  | _, _, 0, _, .cons r _, e => by simp at e; subst e; exact ⟨_, rfl, r⟩
  | _, _, i + 1, x, .cons _ t, e => by
    obtain ⟨u, h1, h2⟩ := Vals.get (i := i) (x := x) t (by simpa using e)
    exact ⟨u, by simpa using h1, h2⟩
theorem Vals.set {x : V} {u : Value} (r : RelV x u) : ∀ {xs : List V} {us : List Value} (i : Nat), Vals xs us → Vals (xs.set i x) (us.set i u)
  | _, _, _, .nil => .nil
  | _, _, 0, .cons _ t => .cons r t
  | _, _, i + 1, .cons q t => .cons q (Vals.set r i t)
theorem Vals.append : ∀ {xs ys : List V} {us ws : List Value}, Vals xs us → Vals ys ws → Vals (xs ++ ys) (us ++ ws)
  | _, _, _, _, .nil, s => s
  | _, _, _, _, .cons r t, s => .cons r (Vals.append t s)
theorem Vals.take : ∀ {xs : List V} {us : List Value} (n : Nat), Vals xs us → Vals (xs.take n) (us.take n)
  | _, _, 0, _ => .nil
  | _, _, _ + 1, .nil => .nil
  | _, _, n + 1, .cons r t => .cons r (Vals.take n t)
theorem Vals.drop : ∀ {xs : List V} {us : List Value} (n : Nat), Vals xs us → Vals (xs.drop n) (us.drop n)
  | _, _, 0, r => r
  | _, _, _ + 1, .nil => .nil
  | _, _, n + 1, .cons _ t => Vals.drop n t
def RelO : Option V → Option Value → Prop
  | some v, some u => RelV v u
  | none, none => True
  | _, _ => False
def KV {κ : Type} : List (κ × V) → List (κ × Value) → Prop := Paired fun (p : κ × V) (q : κ × Value) => p.1 = q.1 ∧ RelV p.2 q.2
def kV : Key → V
  | .inl i => .int i
  | .inr x => .str x
def IsTp (h : Heap) (a : Addr) (its : Array Value) : Prop := ∃ o, h.get? a = some o ∧ o.cls = .type "tuple" ∧ (∃ n, o.data = .seq its n) ∧ o.dict = none
theorem IsTp.tup {h : Heap} {a : Addr} {its : Array Value} (p : IsTp h a its) : IsTup h a its := by obtain ⟨o, e, c, d, _⟩ := p; exact ⟨o, e, c, d⟩
theorem IsTp.lt {h : Heap} {a : Addr} {its : Array Value} (p : IsTp h a its) : a < h.objs.size := by obtain ⟨o, e, _⟩ := p; exact Heap.lt_size e
theorem IsTp.mk' {h : Heap} {a : Addr} {its : Array Value} {n : Nat} {sl : Array (Option Value)} (e : h.get? a = some { cls := .type "tuple", data := .seq its n, slots := sl }) : IsTp h a its := ⟨_, e, rfl, ⟨n, rfl⟩, rfl⟩
inductive HO where
  /-- a list -/
  | lst (xs : List V)
  /-- a tuple (never changes) -/
  | tup (xs : List V)
  /-- a dict whose keys are ints and texts; one whose keys are tuples of ints and texts (the empty one is both) -/
  | dK (kvs : List (Key × V)) | dT (kvs : List (List Key × V))
  /-- a set of ints: its members, its size -/
  | set (S : Int → Bool) (n : Nat)
  /-- an instance of the class at C, its dict at dx, its attributes -/
  | ins (C dx : Addr) (fs : List (Str × V))
  /-- the dict of the instance at x -/
  | own (x : Addr)
  /-- the dict of an exception -/
  | xd (fs : List (Str × V))
  /-- a bound method, f of x -/
  | met (f x : Addr)
  /-- a range object lo, lo + 1, .. below hi -/
  | rng (lo hi : Int)
  /-- a thing that is known to the object (the script; a dict while a loop walks it): read, never written while it is so -/
  | frz (o : Obj) (u : HO)
  /-- a code object's table -/
  | tbl (ps : Array Value)
  /-- the table of a def that makes lambdas, all of the qualname q -/
  | ctb (q : Str)
  /-- any other thing, by what is true of its one object (a def of one's own: SetO a S n := HO.ext fun h => ..) -/
  | ext (φ : Heap → Prop)
abbrev Hp := Addr → Option HO
def upd (H : Hp) (a : Addr) (o : HO) : Hp := fun b => if b = a then some o else H b
theorem upd_same {H : Hp} {a : Addr} {o : HO} : upd H a o a = some o := by unfold upd; rw [if_pos rfl]
theorem upd_ne {H : Hp} {a b : Addr} {o : HO} (h : b ≠ a) : upd H a o b = H b := by unfold upd; rw [if_neg h]
theorem ne_of_none {H : Hp} {a b : Addr} {o : HO} (h : H a = some o) (h' : H b = none) : a ≠ b := by
  intro e; subst e; rw [h] at h'; cases h'
section
variable (P : Program) (w : World)
def ObjOk (H : Hp) (h : Heap) (a : Addr) : HO → Prop
  | .lst xs => xs.length ≤ sizeLine ∧ ∃ (its : List Value) (n : Nat), Vals xs its ∧ h.get? a = some { cls := .type "list", data := .seq its.toArray n }
  | .tup xs => xs.length ≤ sizeLine ∧ ∃ its : List Value, Vals xs its ∧ IsTp h a its.toArray
  | .dK kvs => kvs.length ≤ sizeLine ∧ (a == sysModules) = false ∧ ∃ vs, KV kvs vs ∧ h.DictOf (mixKind P w) a vs
  | .dT kvs => kvs.length ≤ sizeLine ∧ (a == sysModules) = false ∧ ∃ xs : List (List Key × Addr × Value),
      Paired (fun (p : List Key × V) (q : List Key × Addr × Value) => p.1 = q.1 ∧ H q.2.1 = some (.tup (p.1.map kV)) ∧ RelV p.2 q.2.2) kvs xs ∧
      ∃ o es ep, h.get? a = some o ∧ o.ExactDict ∧ o.data = .dict es ep ∧ es.toList = xs.map (entryOfKey (tupleKind (mixKind P w))) ∧ (xs.map (·.1)).Nodup
  | .set S n => h.SetOf (intKind P w) a S n
  | .ins C dx fs => H dx = some (.own a) ∧ fs.length ≤ 1000 ∧ dx ≠ a ∧ h.get? a = some (PySem.W.instObj C dx) ∧
      ∃ mA, h.Ns1 dx mA ∧ (∀ f, RelO (fs.lookup f) (mA f)) ∧ PySem.Within mA (fs.map (·.1))
  | .own _ => ∃ o, h.get? a = some o
  | .xd fs => ∃ mA, h.Ns1 a mA ∧ ∀ f, RelO (fs.lookup f) (mA f)
  | .rng lo hi => ∃ t u v, h.get? a = some { cls := .type "range", data := .fields #[.int lo t, .int hi u, .int 1 v] }
  | .frz o u => h.get? a = some o ∧ ObjOk H h a u
  | .tbl ps => h.get? a = some { cls := .none, data := .fields ps }
  | .ctb q => ∃ ps : Array Value, h.get? a = some { cls := .none, data := .fields ps } ∧ TriplesOk ps.toList ∧ ∀ (pos : Pos) (v : Value), codeAmong pos ps.toList = some v → ∃ c, v = .ref c ∧ H c = some (.own a) ∧ h.CodeRec (.ref c) q
  | .met f x => h.get? a = some (PySem.W.methodObj (.ref f) (.ref x))
  | .ext φ => φ h ∧ (∃ o, h.get? a = some o) ∧ ∀ h1 h2 : Heap, φ h1 → (∀ o, h1.get? a = some o → h2.get? a = some o) → φ h2
def HOk (H : Hp) (h : Heap) : Prop := ∀ a o, H a = some o → ObjOk P w H h a o
end
section
variable {P : Program} {w : World} {H H' : Hp} {h h' : Heap} {a : Addr} {o : HO}
theorem ObjOk.lt (x : ObjOk P w H h a o) : a < h.objs.size := by
  cases o with
  | lst xs => obtain ⟨_, _, _, _, e⟩ := x; exact Heap.lt_size e
  | tup xs => obtain ⟨_, _, _, p⟩ := x; exact p.lt
  | dK kvs => obtain ⟨_, _, _, _, o, _, _, e, _⟩ := x; exact Heap.lt_size e
  | dT kvs => obtain ⟨_, _, _, _, o, _, _, e, _⟩ := x; exact Heap.lt_size e
  | set S n => obtain ⟨o, _, _, _, e, _⟩ := x; exact Heap.lt_size e
  | ins C dx fs => obtain ⟨_, _, _, e, _⟩ := x; exact Heap.lt_size e
  | own y => obtain ⟨_, e⟩ := x; exact Heap.lt_size e
  | xd fs => obtain ⟨_, ⟨_, _, _, e, _⟩, _⟩ := x; exact Heap.lt_size e
  | rng lo hi => obtain ⟨_, _, _, e⟩ := x; exact Heap.lt_size e
  | frz ob u => obtain ⟨e, _⟩ := x; exact Heap.lt_size e
  | tbl ps => exact Heap.lt_size (show h.get? a = some _ from x)
  | ctb q => obtain ⟨_, e, _⟩ := x; exact Heap.lt_size e
  | met f y => exact Heap.lt_size (show h.get? a = some _ from x)
  | ext φ => obtain ⟨_, ⟨_, e⟩, _⟩ := x; exact Heap.lt_size e
theorem Paired.mapP {α β : Type} {F G : α → β → Prop} : ∀ {l₁ : List α} {l₂ : List β}, Paired F l₁ l₂ → (∀ a b, F a b → G a b) → Paired G l₁ l₂
  | _, _, .nil, _ => .nil
  | _, _, .cons r t, f => .cons (f _ _ r) (Paired.mapP t f)
theorem ObjOk.stay (x : ObjOk P w H h a o) (k : ∀ b u, (b = a ∨ H b = some (.own a)) → h.get? b = some u → h'.get? b = some u)
    (ho : ∀ b, H b = some (.own a) → H' b = some (.own a)) (ht : ∀ b xs, H b = some (.tup xs) → H' b = some (.tup xs)) : ObjOk P w H' h' a o := by
  induction o with
  | lst xs => obtain ⟨z, its, n, r, e⟩ := x; exact ⟨z, its, n, r, k _ _ (.inl rfl) e⟩
  | tup xs => obtain ⟨z, its, r, ob, e, c⟩ := x; exact ⟨z, its, r, ob, k _ _ (.inl rfl) e, c⟩
  | dK kvs => obtain ⟨z, y, vs, r, ob, es, ep, e, c⟩ := x; exact ⟨z, y, vs, r, ob, es, ep, k _ _ (.inl rfl) e, c⟩
  | dT kvs =>
    obtain ⟨z, y, xs, r, ob, es, ep, e, c⟩ := x
    exact ⟨z, y, xs, Paired.mapP r fun p q z => ⟨z.1, ht _ _ z.2.1, z.2.2⟩, ob, es, ep, k _ _ (.inl rfl) e, c⟩
  | set S n => obtain ⟨ob, es, ep, t, e, c⟩ := x; exact ⟨ob, es, ep, t, k _ _ (.inl rfl) e, c⟩
  | ins C dx fs =>
    obtain ⟨d, z, ne, e, mA, ⟨od, es, ep, e2, c⟩, r⟩ := x
    exact ⟨ho _ d, z, ne, k _ _ (.inl rfl) e, mA, ⟨od, es, ep, k _ _ (.inr d) e2, c⟩, r⟩
  | own y => obtain ⟨ob, e⟩ := x; exact ⟨ob, k _ _ (.inl rfl) e⟩
  | xd fs => obtain ⟨mA, ⟨od, es, ep, e, c⟩, r⟩ := x; exact ⟨mA, ⟨od, es, ep, k _ _ (.inl rfl) e, c⟩, r⟩
  | rng lo hi => obtain ⟨t, u, v, e⟩ := x; exact ⟨t, u, v, k _ _ (.inl rfl) e⟩
  | frz ob u ih => obtain ⟨e, q⟩ := x; exact ⟨k _ _ (.inl rfl) e, ih q⟩
  | tbl ps =>
    have e : h.get? a = some { cls := .none, data := .fields ps } := x
    show h'.get? a = some { cls := .none, data := .fields ps }
    exact k a _ (.inl rfl) e
  | ctb q =>
    obtain ⟨ps, e, t, c⟩ := x
    refine ⟨ps, k _ _ (.inl rfl) e, t, fun pos v hb => ?_⟩
    obtain ⟨b, rfl, z, c2, oc, vs, tq, e1, e2, e3⟩ := c pos v hb
    cases e1
    exact ⟨b, rfl, ho _ z, b, oc, vs, tq, rfl, k _ _ (.inr z) e2, e3⟩
  | met f y =>
    have e : h.get? a = some (PySem.W.methodObj (.ref f) (.ref y)) := x
    show h'.get? a = some (PySem.W.methodObj (.ref f) (.ref y))
    exact k a _ (.inl rfl) e
  | ext φ => obtain ⟨p, ⟨o, e⟩, st⟩ := x; exact ⟨st _ _ p fun o q => k _ _ (.inl rfl) q, ⟨o, k _ _ (.inl rfl) e⟩, st⟩
theorem HOk.lt (x : HOk P w H h) (e : H a = some o) : a < h.objs.size := (x a o e).lt
theorem HOk.fresh (x : HOk P w H h) (e : h.objs.size ≤ a) : H a = none := by
  cases q : H a with
  | none => rfl
  | some u => exact absurd (Nat.lt_of_lt_of_le (x.lt q) e) (Nat.lt_irrefl _)
theorem HOk.kept (x : HOk P w H h) (k : ∀ b u, h.get? b = some u → h'.get? b = some u) : HOk P w H h' := fun a o e =>
  (x a o e).stay (fun b u _ q => k b u q) (fun _ q => q) fun _ _ q => q
theorem HOk.laid (x : HOk P w H h) (k : ∀ b u, h.get? b = some u → h'.get? b = some u) (hp : h.objs.size ≤ a) (new : ObjOk P w (upd H a o) h' a o) : HOk P w (upd H a o) h' := fun b u e => by
  have hn := x.fresh hp
  by_cases hb : b = a
  · subst hb; rw [upd_same] at e; cases e; exact new
  · rw [upd_ne hb] at e
    exact (x b u e).stay (fun c v _ q => k c v q) (fun c q => by rw [upd_ne (ne_of_none q hn)]; exact q) fun c xs q => by rw [upd_ne (ne_of_none q hn)]; exact q
end
def Rd (H : Hp) (a : Addr) (u : HO) : Prop := H a = some u ∨ ∃ o, H a = some (.frz o u)
theorem Rd.of {H : Hp} {a : Addr} {u : HO} (h : H a = some u) : Rd H a u := .inl h
theorem Rd.ok {P : Program} {w : World} {H : Hp} {h : Heap} {a : Addr} {u : HO} (r : Rd H a u) (x : HOk P w H h) : ObjOk P w H h a u := by
  rcases r with r | ⟨o, r⟩
  · exact x a u r
  · obtain ⟨_, q⟩ := x a _ r
    exact q
def Mut : Option HO → Prop
  | some (.lst _) => True
  | some (.dK _) => True
  | some (.dT _) => True
  | some (.set _ _) => True
  | some (.ins _ _ _) => True
  | some (.ext _) => True
  | _ => False
section
variable {P : Program} {w : World} {H : Hp} {h h' : Heap} {x e : Addr} {o' : HO}
theorem HOk.write (ok : HOk P w H h) (mu : Mut (H x)) (he : e = x ∨ H e = some (.own x)) (k : ∀ b u, b ≠ e → h.get? b = some u → h'.get? b = some u) (heo : ∃ u, h'.get? e = some u)
    (new : ObjOk P w (upd H x o') h' x o') : HOk P w (upd H x o') h' := fun b u q => by
  have nown : ∀ c y, H c = some (.own y) → c ≠ x := fun c y r z => by subst z; rw [r] at mu; exact mu
  have ntup : ∀ c xs, H c = some (.tup xs) → c ≠ x := fun c xs r z => by subst z; rw [r] at mu; exact mu
  by_cases hb : b = x
  · subst hb; rw [upd_same] at q; cases q; exact new
  · rw [upd_ne hb] at q
    by_cases hbe : b = e
    · have q' : H b = some (.own x) := by
        rcases he with z | z
        · exact absurd (hbe.trans z) hb
        · rw [hbe]; exact z
      rw [q] at q'; cases q'
      obtain ⟨v, hv⟩ := heo
      exact ⟨v, by rw [hbe]; exact hv⟩
    · refine (ok b u q).stay (fun c v hc r => k c v ?_ r) (fun c r => by rw [upd_ne (nown c b r)]; exact r) fun c xs r => by rw [upd_ne (ntup c xs r)]; exact r
      rcases hc with rfl | hc
      · exact hbe
      · rintro rfl
        rcases he with z | z
        · exact nown c b hc z
        · rw [hc] at z; cases z; exact hb rfl
end
structure Un (fs ex : List Addr) (H H' : Hp) (h h' : Heap) : Prop where
  keep : ∀ b o, h.get? b = some o → H b = none → b ∉ fs → b ∉ ex → h'.get? b = some o
  slot : ∀ b o, h.get? b = some o → H b = none → b ∈ fs → b ∉ ex → ∃ sl, h'.get? b = some { o with slots := sl }
  free : ∀ b o, h.get? b = some o → H b = none → b ∉ ex → H' b = none
  there : ∀ b o, h.get? b = some o → b ∉ ex → ∃ o', h'.get? b = some o'
  tups : ∀ b xs, H b = some (.tup xs) → H' b = some (.tup xs)
  frzs : ∀ b o u, H b = some (.frz o u) → H' b = some (.frz o u)
  tbls : ∀ b ps, H b = some (.tbl ps) → ∃ more, H' b = some (.tbl (ps ++ more))
section
variable {fs fs' ex ex' : List Addr} {H H1 H2 : Hp} {h h1 h2 h' : Heap} {a x e : Addr} {o : HO}
theorem Un.any (u : Un fs ex H H1 h h1) {b : Addr} {ob : Obj} (q : h.get? b = some ob) (n : H b = none) (hx : b ∉ ex) : ∃ sl, h1.get? b = some { ob with slots := sl } := by
  by_cases hb : b ∈ fs
  · exact u.slot b ob q n hb hx
  · exact ⟨ob.slots, u.keep b ob q n hb hx⟩
theorem Un.trans (a : Un fs ex H H1 h h1) (b : Un fs ex H1 H2 h1 h2) : Un fs ex H H2 h h2 where
  keep := fun c ob q n hc hx => b.keep c ob (a.keep c ob q n hc hx) (a.free c ob q n hx) hc hx
  slot := fun c ob q n hc hx => by
    obtain ⟨sl, e1⟩ := a.slot c ob q n hc hx
    obtain ⟨sl', e2⟩ := b.slot c _ e1 (a.free c ob q n hx) hc hx
    exact ⟨sl', e2⟩
  free := fun c ob q n hx => by
    obtain ⟨o', e1⟩ := a.there c ob q hx
    exact b.free c o' e1 (a.free c ob q n hx) hx
  there := fun c ob q hx => by
    obtain ⟨o', e1⟩ := a.there c ob q hx
    exact b.there c o' e1 hx
  tups := fun c xs q => b.tups c xs (a.tups c xs q)
  frzs := fun c ob xs q => b.frzs c ob xs (a.frzs c ob xs q)
  tbls := fun c ps q => by
    obtain ⟨m1, e1⟩ := a.tbls c ps q
    obtain ⟨m2, e2⟩ := b.tbls c _ e1
    exact ⟨m1 ++ m2, by rw [e2, Array.append_assoc]⟩
theorem Un.kept (k : ∀ b u, h.get? b = some u → h'.get? b = some u) : Un fs ex H H h h' :=
  ⟨fun b ob q _ _ _ => k b ob q, fun b ob q _ _ _ => ⟨ob.slots, k b ob q⟩, fun _ _ _ n _ => n, fun b ob q _ => ⟨ob, k b ob q⟩, fun _ _ q => q, fun _ _ _ q => q, fun _ ps q => ⟨#[], by rw [q]; simp⟩⟩
theorem Un.refl : Un fs ex H H h h := Un.kept fun _ _ q => q
theorem Un.laid (k : ∀ b u, h.get? b = some u → h'.get? b = some u) (hp : h.objs.size ≤ a) (hn : H a = none) : Un fs ex H (upd H a o) h h' where
  keep := fun b u q _ _ _ => k b u q
  slot := fun b u q _ _ _ => ⟨u.slots, k b u q⟩
  free := fun b u q n _ => by rw [upd_ne (Nat.ne_of_lt (Nat.lt_of_lt_of_le (Heap.lt_size q) hp))]; exact n
  there := fun b u q _ => ⟨u, k b u q⟩
  tups := fun b xs q => by rw [upd_ne (ne_of_none q hn)]; exact q
  frzs := fun b u xs q => by rw [upd_ne (ne_of_none q hn)]; exact q
  tbls := fun b ps q => ⟨#[], by rw [upd_ne (ne_of_none q hn), q]; simp⟩
theorem Un.write (mu : Mut (H x)) (he : e = x ∨ H e = some (.own x)) (k : ∀ b u, b ≠ e → h.get? b = some u → h'.get? b = some u) (heo : ∃ u, h'.get? e = some u) : Un fs ex H (upd H x o) h h' := by
  have hx : ∀ b, H b = none → b ≠ x := fun b n z => by subst z; rw [n] at mu; exact mu
  have hb : ∀ b, H b = none → b ≠ e := fun b n z => by
    subst z
    rcases he with r | r
    · exact hx b n r
    · rw [n] at r; cases r
  have hm : ∀ b u, H b = some u → ¬ Mut (some u) → b ≠ x := fun b u q nm z => by subst z; rw [q] at mu; exact nm mu
  refine ⟨fun b u q n _ _ => k b u (hb b n) q, fun b u q n _ _ => ⟨u.slots, k b u (hb b n) q⟩, fun b u q n _ => by rw [upd_ne (hx b n)]; exact n, fun b u q _ => ?_,
    fun b xs q => by rw [upd_ne (hm b _ q fun z => z)]; exact q, fun b u xs q => by rw [upd_ne (hm b _ q fun z => z)]; exact q, fun b ps q => ⟨#[], by rw [upd_ne (hm b _ q fun z => z), q]; simp⟩⟩
  by_cases hbe : b = e
  · subst hbe; exact heo
  · exact ⟨u, k b u hbe q⟩
end
def trk (h : Heap) (H : Hp) : List Addr := (List.range h.objs.size).filter fun a => (H a).isSome
def hidT (h : Heap) (H : Hp) : Heap := PySem.W.hideAll h (trk h H)
theorem hidT_size (h : Heap) (H : Hp) : (hidT h H).objs.size = h.objs.size := PySem.W.hideAll_size _ _
theorem hidT_get {h : Heap} {H : Hp} {b : Addr} {o : Obj} (e : h.get? b = some o) (n : H b = none) : (hidT h H).get? b = some o :=
  PySem.W.hideAll_get _ e fun hm => by
    have q : (H b).isSome = true := (List.mem_filter.mp hm).2
    rw [n] at q; simp at q
theorem of_hidT {h : Heap} {H : Hp} {b : Addr} {o : Obj} (e : (hidT h H).get? b = some o) : h.get? b = some o ∧ H b = none := by
  have e' : h.get? b = some o := PySem.W.of_hideAll (trk h H) e
  refine ⟨e', ?_⟩
  cases q : H b with
  | none => rfl
  | some x =>
    have hm : b ∈ trk h H := List.mem_filter.mpr ⟨List.mem_range.mpr (Heap.lt_size e'), by simp [q]⟩
    have z : (hidT h H).get? b = none := PySem.W.hideAll_none (trk h H) hm
    rw [z] at e; cases e
def allNews (g h : Heap) (L : Addr) : List (Addr × Obj) := (List.range h.objs.size).filterMap fun a => if a = L ∨ (g.get? a).isSome = true then none else (h.get? a).map fun o => (a, o)
theorem mem_allNews {g h : Heap} {L a : Addr} {o : Obj} (h1 : a ≠ L) (h2 : g.get? a = none) (h3 : h.get? a = some o) : (a, o) ∈ allNews g h L :=
  List.mem_filterMap.mpr ⟨a, List.mem_range.mpr (Heap.lt_size h3), by simp [h1, h2, h3]⟩
theorem of_mem_allNews {g h : Heap} {L : Addr} {p : Addr × Obj} (hp : p ∈ allNews g h L) : p.1 ≠ L ∧ g.get? p.1 = none ∧ h.get? p.1 = some p.2 := by
  obtain ⟨b, _, e⟩ := List.mem_filterMap.mp hp
  split at e
  · cases e
  · rename_i hn
    cases q : h.get? b with
    | none => rw [q] at e; simp at e
    | some u =>
      rw [q] at e
      simp only [Option.map_some, Option.some.injEq] at e
      subst e
      refine ⟨fun z => hn (.inl z), ?_, q⟩
      show g.get? b = none
      cases r : g.get? b with
      | none => rfl
      | some v => exact (hn (.inr (by simp [r]))).elim
def rest (g h : Heap) (L d : Addr) : List (Addr × Obj) := (allNews g h L).filter fun p => decide (p.1 ≠ d)
theorem news_all {g h : Heap} {L : Addr} : News g L h (allNews g h L) := fun p hp => let ⟨a, b, c⟩ := of_mem_allNews hp; ⟨c, a, b⟩
end L2
namespace L2
open PySem PySem.Spec PyProof.Rows
structure Mod (K : PySem.W.Frag) (mg : Str → Option Value) (base : Heap) : Prop where
  kin : K.In base
  glob : base.Ns mainGlobals mg
  blt : ∃ mb, base.Ns builtinsNs mb ∧ ∀ x : Str, x ≠ "__name__" → mb x = bootBuiltins x
  nolimit : base.NoLimit
structure Cx where
  prog : Program
  w : World
  K : PySem.W.Frag
  mg : Str → Option Value
  base : Heap
  A : Around
  N : List Str
  s₀ : Shared
  H₀ : Hp
  env : Env
  outer : List Env
  stack : List Env
  ex : List Addr
  fn : Str → Bool
  calm : Bool
  pn : List (Addr × Obj)
  xe : Value → Shared → Prop
def frs (l : List Env) : List Addr := l.filterMap (·.frame)
abbrev Cx.fs (X : Cx) : List Addr := frs X.outer
def Vis (sc : Scope) (x : Str) : Prop := sc.names.lookup x = some .local ∨ sc.names.lookup x = some .cell ∨ sc.names.lookup x = some .free
def Loc (sc : Scope) (x : Str) : Prop := sc.names.lookup x = some .local ∨ sc.names.lookup x = some .cell
def Look (env : Env) (h : Heap) (m : Str → Option Value) (x : Str) (u : Value) : Prop :=
  (env.kindOf x = some .local ∧ m x = some u) ∨ ((env.kindOf x = some .cell ∨ env.kindOf x = some .free) ∧ ∃ c, env.cells.lookup x = some c ∧ h.IsCell c (some u))
structure Cx.Ok (X : Cx) : Prop where
  mod : Mod X.K X.mg X.base
  kind : X.env.scope.kind = .function
  glob : X.env.globals = mainGlobals
  blt : X.env.builtins = builtinsNs
  above : X.s₀.heap.objs.size ≤ X.env.locals
  inj : ∀ x y c, X.env.cells.lookup x = some c → X.env.cells.lookup y = some c → x = y
  has : ∀ x, (X.env.kindOf x = some .cell ∨ X.env.kindOf x = some .free) → ∃ c, X.env.cells.lookup x = some c
  cab : ∀ x c, X.fn x = true → X.env.cells.lookup x = some c → X.s₀.heap.objs.size ≤ c
  hd : X.calm = true → X.A.handled = none
  frames : X.A.frames = some X.stack
  stk : X.stack = X.outer ∨ (X.stack = X.env :: X.outer ∧ X.env.frame = some X.env.locals)
  exf : ∀ b ∈ X.ex, b ≠ X.env.locals ∧ ∀ x c, X.env.cells.lookup x = some c → c ≠ b
  bs : ∀ b o, X.base.get? b = some o → X.s₀.heap.get? b = some o ∧ X.H₀ b = none
  bsz : X.base.objs.size ≤ X.s₀.heap.objs.size
  noex : ∀ b o, X.base.get? b = some o → b ∉ X.ex
  exfs : ∀ b ∈ X.ex, b ∉ X.fs
  funs : X.s₀.heap.FunFrames X.base X.outer
  frf : ∀ b ∈ X.fs, X.H₀ b = none
structure Inv (X : Cx) (pins : List (Addr × Obj)) (σ : List (Option V)) (H : Hp) (s : Shared) : Prop where
  ok : X.Ok
  os : s.os = X.s₀.os
  bare : AllBare s.gens
  base : Un X.fs X.ex X.H₀ H X.s₀.heap s.heap
  loc : ∃ m, s.heap.Ns X.env.locals m ∧ ∀ (i : Nat) (x : Str) (v : V), X.N[i]? = some x → σ[i]? = some (some v) → Vis X.env.scope x → ∃ u, RelV v u ∧ Look X.env s.heap m x u
  cell : ∀ x c, X.env.cells.lookup x = some c → ∃ v, s.heap.IsCell c v
  free : H X.env.locals = none
  freeC : ∀ x c, X.env.cells.lookup x = some c → H c = none
  pin : ∀ p ∈ X.pn ++ pins, s.heap.get? p.1 = some p.2 ∧ H p.1 = none ∧ p.1 ≠ X.env.locals ∧ p.1 ∉ X.fs ∧ ∀ v, p.2.data ≠ .cell v
  hok : HOk X.prog X.w H s.heap
  len : σ.length = X.N.length
section
variable {X : Cx} {pins : List (Addr × Obj)} {σ : List (Option V)} {H H' : Hp} {s : Shared} {h' : Heap}
theorem Cx.Ok.nofr (ok : X.Ok) {b : Addr} {o : Obj} (e : X.base.get? b = some o) : b ∉ X.fs := fun hb => by
  have := (ok.funs.mem hb).1
  rw [e] at this; cases this
theorem Inv.bs (I : Inv X pins σ H s) : ∀ b o, X.base.get? b = some o → s.heap.get? b = some o ∧ H b = none := fun b o e =>
  ⟨I.base.keep b o (I.ok.bs b o e).1 (I.ok.bs b o e).2 (I.ok.nofr e) (I.ok.noex b o e), I.base.free b o (I.ok.bs b o e).1 (I.ok.bs b o e).2 (I.ok.noex b o e)⟩
theorem Inv.bk (I : Inv X pins σ H s) : ∀ b o, X.base.get? b = some o → s.heap.get? b = some o := fun b o e => (I.bs b o e).1
theorem Inv.mod (I : Inv X pins σ H s) : Mod X.K X.mg X.base := I.ok.mod
theorem Inv.kIn (I : Inv X pins σ H s) : X.K.In s.heap := I.ok.mod.kin.keeps I.bk
theorem Inv.lt (I : Inv X pins σ H s) : X.env.locals < s.heap.objs.size := let ⟨_, hn, _⟩ := I.loc; hn.lt
theorem Inv.sz (I : Inv X pins σ H s) : X.s₀.heap.objs.size ≤ s.heap.objs.size := Nat.le_trans I.ok.above (Nat.le_of_lt I.lt)
theorem Inv.nofs (I : Inv X pins σ H s) {a : Addr} (h : s.heap.objs.size ≤ a) : a ∉ X.fs := fun hb => by
  obtain ⟨_, o, ho, _⟩ := I.ok.funs.mem hb
  exact absurd (Nat.lt_of_lt_of_le (Heap.lt_size ho) (Nat.le_trans I.sz h)) (Nat.lt_irrefl _)
theorem Inv.cne (I : Inv X pins σ H s) : ∀ x c, X.env.cells.lookup x = some c → c ≠ X.env.locals := fun x c e z => by
  obtain ⟨v, o, ho, hd⟩ := I.cell x c e
  obtain ⟨m, ⟨o', es, ep, ho', hd', _⟩, _⟩ := I.loc
  rw [z, ho'] at ho; cases ho; rw [hd'] at hd; cases hd
theorem Inv.funs (I : Inv X pins σ H s) : s.heap.FunFrames X.base X.outer := by
  have all : ∀ (l : List Env), (∀ b ∈ frs l, b ∈ X.fs) → X.s₀.heap.FunFrames X.base l → s.heap.FunFrames X.base l := by
    intro l
    induction l with
    | nil => intro _ _; trivial
    | cons env r ih =>
      intro hs hl
      obtain ⟨hk, ⟨L, o, hf, hn, ho, hd⟩, hr⟩ := hl
      have hL : L ∈ X.fs := hs L (by unfold frs; rw [List.filterMap_cons, hf]; exact List.mem_cons_self)
      obtain ⟨sl, e⟩ := I.base.slot L o ho (I.ok.frf L hL) hL fun z => I.ok.exfs L z hL
      exact ⟨hk, ⟨L, _, hf, hn, e, hd⟩, ih (fun b hb => hs b (by unfold frs; rw [List.filterMap_cons, hf]; exact List.mem_cons_of_mem _ hb)) hr⟩
  exact all X.outer (fun _ hb => hb) I.ok.funs
theorem Inv.stack (I : Inv X pins σ H s) : s.heap.FunFrames X.base X.stack := by
  rcases I.ok.stk with e | ⟨e, hf⟩
  · rw [e]; exact I.funs
  · rw [e]
    obtain ⟨m, hn, _⟩ := I.loc
    refine .cons (by rw [I.ok.kind]; decide) hf hn ?_ I.funs
    exact Heap.get?_none_of_le (Nat.le_trans I.ok.bsz I.ok.above)
theorem Inv.stkSub (I : Inv X pins σ H s) : ∀ b ∈ frs X.stack, b ∈ X.env.locals :: X.fs := fun b hb => by
  rcases I.ok.stk with e | ⟨e, hf⟩
  · rw [e] at hb; exact List.mem_cons_of_mem _ hb
  · rw [e] at hb
    unfold frs at hb
    rw [List.filterMap_cons, hf] at hb
    exact hb
theorem Inv.stkFree (I : Inv X pins σ H s) : ∀ b ∈ frs X.stack, H b = none := fun b hb => by
  rcases List.mem_cons.mp (I.stkSub b hb) with e | hb
  · rw [e]; exact I.free
  · obtain ⟨_, o, ho, _⟩ := I.ok.funs.mem hb
    exact I.base.free b o ho (I.ok.frf b hb) fun z => I.ok.exfs b z hb
theorem Inv.step {g' : Array GenState} {t' : Nat} {d' : Drawn} {ch : List Addr} (I : Inv X pins σ H s)
    (hch : ∀ b ∈ ch, (b ∈ X.ex ∨ X.s₀.heap.objs.size ≤ b) ∧ b ≠ X.env.locals ∧ (∀ x c, X.env.cells.lookup x = some c → c ≠ b) ∧ ∀ p ∈ X.pn ++ pins, p.1 ≠ b)
    (keep : ∀ b o, b ≠ X.env.locals → b ∉ X.fs → b ∉ ch → s.heap.get? b = some o → H b = none → h'.get? b = some o)
    (slot : ∀ b o, b ≠ X.env.locals → b ∈ X.fs → b ∉ ch → s.heap.get? b = some o → H b = none → ∃ sl, h'.get? b = some { o with slots := sl }) (free : ∀ b o, b ∉ ch → s.heap.get? b = some o → H b = none → H' b = none)
    (there : ∀ b o, b ∉ ch → s.heap.get? b = some o → ∃ o', h'.get? b = some o')
    (tups : ∀ b xs, H b = some (.tup xs) → H' b = some (.tup xs)) (frzs : ∀ b o u, H b = some (.frz o u) → H' b = some (.frz o u)) (tbls : ∀ b ps, H b = some (.tbl ps) → ∃ more, H' b = some (.tbl (ps ++ more)))
    (ns : ∀ m, s.heap.Ns X.env.locals m → h'.Ns X.env.locals m) (hok : HOk X.prog X.w H' h') (hg : AllBare g') :
    Inv X pins σ H' { s with heap := h', gens := g', drawn := d', toks := t' } := by
  have neL : ∀ b o, X.s₀.heap.get? b = some o → b ≠ X.env.locals := fun b o e => Nat.ne_of_lt (Nat.lt_of_lt_of_le (Heap.lt_size e) I.ok.above)
  have neC : ∀ b o, X.s₀.heap.get? b = some o → b ∉ X.ex → b ∉ ch := fun b o e hx hb => by
    rcases (hch b hb).1 with z | z
    · exact hx z
    · exact absurd (Nat.lt_of_lt_of_le (Heap.lt_size e) z) (Nat.lt_irrefl _)
  have cellK : ∀ x c, X.env.cells.lookup x = some c → ∀ v, s.heap.IsCell c v → h'.IsCell c v := fun x c e v ⟨o, ho, hd⟩ => by
    have nch : c ∉ ch := fun z => (hch c z).2.2.1 x c e rfl
    by_cases hc : c ∈ X.fs
    · obtain ⟨sl, q⟩ := slot c o (I.cne x c e) hc nch ho (I.freeC x c e)
      exact ⟨_, q, hd⟩
    · exact ⟨o, keep c o (I.cne x c e) hc nch ho (I.freeC x c e), hd⟩
  refine ⟨I.ok, I.os, hg, ⟨fun b o e n hb hx => ?_, fun b o e n hb hx => ?_, fun b o e n hx => ?_, fun b o e hx => ?_, fun b xs e => tups b xs (I.base.tups b xs e), fun b o xs e => frzs b o xs (I.base.frzs b o xs e), fun b ps e => ?_⟩, ?_, fun x c e => ?_, ?_, fun x c e => ?_, fun p hp => ?_, hok, I.len⟩
  · exact keep b o (neL b o e) hb (neC b o e hx) (I.base.keep b o e n hb hx) (I.base.free b o e n hx)
  · obtain ⟨sl, e1⟩ := I.base.slot b o e n hb hx
    obtain ⟨sl', e2⟩ := slot b _ (neL b o e) hb (neC b o e hx) e1 (I.base.free b o e n hx)
    exact ⟨sl', e2⟩
  · obtain ⟨o', e1⟩ := I.base.there b o e hx
    exact free b o' (neC b o e hx) e1 (I.base.free b o e n hx)
  · obtain ⟨o', e1⟩ := I.base.there b o e hx
    exact there b o' (neC b o e hx) e1
  · obtain ⟨m1, e1⟩ := I.base.tbls b ps e
    obtain ⟨m2, e2⟩ := tbls b _ e1
    exact ⟨m1 ++ m2, by rw [e2, Array.append_assoc]⟩
  · obtain ⟨m, hn, hl⟩ := I.loc
    refine ⟨m, ns m hn, fun i x v e1 e2 e3 => ?_⟩
    obtain ⟨u, r, l⟩ := hl i x v e1 e2 e3
    refine ⟨u, r, ?_⟩
    rcases l with l | ⟨k, c, e, z⟩
    · exact .inl l
    · exact .inr ⟨k, c, e, cellK x c e _ z⟩
  · obtain ⟨v, z⟩ := I.cell x c e
    exact ⟨v, cellK x c e v z⟩
  · obtain ⟨m, ⟨o, _, _, ho, _⟩, _⟩ := I.loc
    exact free _ o (fun z => (hch _ z).2.1 rfl) ho I.free
  · obtain ⟨v, o, ho, hd⟩ := I.cell x c e
    exact free c o (fun z => (hch c z).2.2.1 x c e rfl) ho (I.freeC x c e)
  · obtain ⟨e, n, ne, nf, d⟩ := I.pin p hp
    have nch : p.1 ∉ ch := fun z => (hch p.1 z).2.2.2 p hp rfl
    exact ⟨keep p.1 p.2 ne nf nch e n, free p.1 p.2 nch e n, ne, nf, d⟩
theorem Inv.un {t' : Nat} (I : Inv X pins σ H s) (u : Un X.fs [] H H' s.heap h') (hok : HOk X.prog X.w H' h') : Inv X pins σ H' { s with heap := h', toks := t' } := by
  obtain ⟨m, ⟨o, es, ep, ho, r⟩, _⟩ := id I.loc
  obtain ⟨sl, hL⟩ := u.any ho I.free (by simp)
  exact I.step (g' := s.gens) (d' := s.drawn) (ch := []) (fun _ z => nomatch z) (fun b o _ hb _ e n => u.keep b o e n hb (by simp)) (fun b o _ hb _ e n => u.slot b o e n hb (by simp)) (fun b o _ e n => u.free b o e n (by simp)) (fun b o _ e => u.there b o e (by simp)) u.tups u.frzs u.tbls (fun m' hm => by
    obtain ⟨o', es', ep', ho', r'⟩ := hm
    rw [ho] at ho'; cases ho'
    exact ⟨_, es', ep', hL, r'⟩) hok I.bare
theorem Inv.call {g' : Array GenState} {t' : Nat} {d' : Drawn} {ch : List Addr} (I : Inv X pins σ H s) (u : Un (frs X.stack) ch H H' s.heap h') (hok : HOk X.prog X.w H' h') (hg : AllBare g')
    (hch : ∀ b ∈ ch, (b ∈ X.ex ∨ X.s₀.heap.objs.size ≤ b) ∧ b ≠ X.env.locals ∧ (∀ x c, X.env.cells.lookup x = some c → c ≠ b) ∧ ∀ p ∈ X.pn ++ pins, p.1 ≠ b) :
    Inv X pins σ H' { s with heap := h', gens := g', drawn := d', toks := t' } := by
  obtain ⟨m, ⟨o, es, ep, ho, r⟩, _⟩ := id I.loc
  obtain ⟨sl, hL⟩ := u.any ho I.free fun z => (hch _ z).2.1 rfl
  exact I.step (ch := ch) hch (fun b o hL hb hc e n => u.keep b o e n (fun z => (List.mem_cons.mp (I.stkSub b z)).elim hL hb) hc) (fun b o _ _ hc e n => u.any e n hc) (fun b o hc e n => u.free b o e n hc) (fun b o hc e => u.there b o e hc) u.tups u.frzs u.tbls (fun m' hm => by
    obtain ⟨o', es', ep', ho', r'⟩ := hm
    rw [ho] at ho'; cases ho'
    exact ⟨_, es', ep', hL, r'⟩) hok hg
theorem Inv.turned {t' : Nat} {it : Addr} (I : Inv X pins σ H s) (k : ∀ b o, b ≠ it → s.heap.get? b = some o → h'.get? b = some o) (hn : H it = none) (hL : it ≠ X.env.locals)
    (h1 : it ∈ X.ex ∨ X.s₀.heap.objs.size ≤ it) (h2 : ∀ x c, X.env.cells.lookup x = some c → c ≠ it) (h3 : ∀ p ∈ X.pn ++ pins, p.1 ≠ it) : Inv X pins σ H { s with heap := h', toks := t' } := by
  have nit : ∀ b u, H b = some u → b ≠ it := fun b u e z => by rw [z, hn] at e; cases e
  refine I.step (g' := s.gens) (d' := s.drawn) (ch := [it]) (fun b hb => ?_) (fun b o _ _ hc e _ => k b o (fun z => hc (by simp [z])) e) (fun b o _ _ hc e _ => ⟨o.slots, k b o (fun z => hc (by simp [z])) e⟩) (fun _ _ _ _ n => n)
    (fun b o hc e => ⟨o, k b o (fun z => hc (by simp [z])) e⟩) (fun _ _ e => e) (fun _ _ _ e => e) (fun b ps e => ⟨#[], by rw [e]; simp⟩) (fun m hm => ?_) (fun b u e => ?_) I.bare
  · have e : b = it := by simpa using hb
    subst e
    exact ⟨h1, hL, h2, h3⟩
  · obtain ⟨o, es, ep, ho, r⟩ := hm
    exact ⟨o, es, ep, k _ o (Ne.symm hL) ho, r⟩
  · refine (I.hok b u e).stay (fun c v hc q => k c v ?_ q) (fun _ q => q) fun _ _ q => q
    rcases hc with z | z
    · rw [z]; exact nit b u e
    · exact nit c _ z
theorem Inv.tok (I : Inv X pins σ H s) (t : Nat) : Inv X pins σ H { s with toks := t } := I.un (h' := s.heap) (t' := t) Un.refl I.hok
theorem Inv.kept {t' : Nat} (I : Inv X pins σ H s) (k : ∀ b u, s.heap.get? b = some u → h'.get? b = some u) : Inv X pins σ H { s with heap := h', toks := t' } := I.un (Un.kept k) (I.hok.kept k)
theorem Inv.laid {a : Addr} {o : HO} {t' : Nat} (I : Inv X pins σ H s) (k : ∀ b u, s.heap.get? b = some u → h'.get? b = some u) (hp : s.heap.objs.size ≤ a) (new : ObjOk X.prog X.w (upd H a o) h' a o) :
    Inv X pins σ (upd H a o) { s with heap := h', toks := t' } := I.un (Un.laid k hp (I.hok.fresh hp)) (I.hok.laid k hp new)
theorem Inv.write {x e : Addr} {o : HO} {t' : Nat} (I : Inv X pins σ H s) (mu : Mut (H x)) (he : e = x ∨ H e = some (.own x)) (k : ∀ b u, b ≠ e → s.heap.get? b = some u → h'.get? b = some u) (heo : ∃ u, h'.get? e = some u)
    (new : ObjOk X.prog X.w (upd H x o) h' x o) : Inv X pins σ (upd H x o) { s with heap := h', toks := t' } := I.un (Un.write mu he k heo) (I.hok.write mu he k heo new)
theorem Inv.pins_of {pins' : List (Addr × Obj)} (I : Inv X pins σ H s) (h : ∀ p ∈ pins', s.heap.get? p.1 = some p.2 ∧ H p.1 = none ∧ p.1 ≠ X.env.locals ∧ p.1 ∉ X.fs ∧ ∀ v, p.2.data ≠ .cell v) : Inv X pins' σ H s :=
  ⟨I.ok, I.os, I.bare, I.base, I.loc, I.cell, I.free, I.freeC, fun p hp => (List.mem_append.mp hp).elim (fun z => I.pin p (List.mem_append_left _ z)) (h p), I.hok, I.len⟩
theorem nodup_ix {N : List Str} (hN : N.Nodup) {i j : Nat} {x : Str} (a : N[i]? = some x) (b : N[j]? = some x) : i = j := by
  obtain ⟨h1, e1⟩ := List.getElem?_eq_some_iff.mp a
  obtain ⟨h2, e2⟩ := List.getElem?_eq_some_iff.mp b
  exact (List.getElem_inj hN).mp (e1.trans e2.symm)
theorem store_ok2 {M : Model} {A : Around} {E : Value → Shared → Prop} {i : Nat} {x : Str} {v : V} {u : Value} {Q : Unit → Shared → Prop} (I : Inv X pins σ H s) (hN : X.N.Nodup) (hi : X.N[i]? = some x) (hx : Loc X.env.scope x) (r : RelV v u)
    (h : ∀ s', Inv X pins (σ.set i (some v)) H s' → (∃ a, Heap.SameBut a s.heap s'.heap ∧ (a = X.env.locals ∨ X.env.cells.lookup x = some a)) → Q () s') (hf : X.fn x = true ∨ X.env.scope.names.lookup x = some .local := by first | exact .inl rfl | exact .inr rfl | assumption) : wpAny M A (storeName X.env x u) Q E s := by
  obtain ⟨m, hn, hl⟩ := id I.loc
  have hcls : (X.env.scope.kind == .class || (X.env.scope.kind == .module && X.env.locals != X.env.globals)) = false := by rw [I.ok.kind]; rfl
  have hiσ : i < σ.length := by rw [I.len]; exact (List.getElem?_eq_some_iff.mp hi).1
  have cne := I.cne
  have tracked : ∀ {a : Addr} {h' : Heap}, (∃ o, s.heap.get? a = some o ∧ H a = none) → Heap.SameBut a s.heap h' → HOk X.prog X.w H h' := fun {a h'} ha hs b ob e => by
    obtain ⟨_, _, hfree⟩ := ha
    refine (I.hok b ob e).stay (fun c w' hc q => (hs.2 c ?_).trans q) (fun _ q => q) fun _ _ q => q
    rintro rfl
    rcases hc with rfl | hc
    · rw [hfree] at e; cases e
    · rw [hfree] at hc; cases hc
  rcases hx with hk | hk
  · refine wpAny_storeName_local hk hn (fun h' hn' hs => ?_) hcls
    obtain ⟨oL, _, _, hoL, _⟩ := id hn
    refine h _ ⟨I.ok, I.os, I.bare, ⟨fun b o e n hb hx => ?_, fun b o e n hb hx => ?_, I.base.free, fun b o e hx => ?_, I.base.tups, I.base.frzs, I.base.tbls⟩, ⟨_, hn', fun j y v' e1 e2 e3 => ?_⟩, fun y c e => ?_, I.free, I.freeC, fun p hp => ?_, tracked ⟨oL, hoL, I.free⟩ hs, by simpa using I.len⟩ ⟨_, hs, .inl rfl⟩
    · exact (hs.2 b (Nat.ne_of_lt (Nat.lt_of_lt_of_le (Heap.lt_size e) I.ok.above))).trans (I.base.keep b o e n hb hx)
    · obtain ⟨sl, e1⟩ := I.base.slot b o e n hb hx
      exact ⟨sl, (hs.2 b (Nat.ne_of_lt (Nat.lt_of_lt_of_le (Heap.lt_size e) I.ok.above))).trans e1⟩
    · obtain ⟨o', e1⟩ := I.base.there b o e hx
      exact ⟨o', (hs.2 b (Nat.ne_of_lt (Nat.lt_of_lt_of_le (Heap.lt_size e) I.ok.above))).trans e1⟩
    · by_cases hj : j = i
      · subst hj
        rw [hi] at e1; cases e1
        rw [List.getElem?_set_self hiσ] at e2
        cases e2
        exact ⟨u, r, .inl ⟨hk, by simp⟩⟩
      · rw [List.getElem?_set_ne (Ne.symm hj)] at e2
        obtain ⟨u', r', q⟩ := hl j y v' e1 e2 e3
        refine ⟨u', r', ?_⟩
        rcases q with ⟨k, e⟩ | ⟨k, c, e, z⟩
        · refine .inl ⟨k, ?_⟩
          have : y ≠ x := fun e => hj (nodup_ix hN e1 (e ▸ hi))
          simp [this, e]
        · exact .inr ⟨k, c, e, z.sameBut hs (cne y c e)⟩
    · obtain ⟨w', z⟩ := I.cell y c e
      exact ⟨w', z.sameBut hs (cne y c e)⟩
    · obtain ⟨e, n, ne, nf, d⟩ := I.pin p hp
      exact ⟨(hs.2 p.1 ne).trans e, n, ne, nf, d⟩
  · have hfn : X.fn x = true := by
      rcases hf with z | z
      · exact z
      · rw [z] at hk; cases hk
    obtain ⟨c, hc⟩ := I.ok.has x (.inl hk)
    obtain ⟨w', z⟩ := I.cell x c hc
    refine wpAny_storeName_cell I.ok.kind hk hc z (fun h' hc' hs => ?_)
    obtain ⟨oc, hoc, hocd⟩ := id z
    refine h { s with heap := h' } ⟨I.ok, I.os, I.bare, ⟨fun b o e n hb hx => ?_, fun b o e n hb hx => ?_, I.base.free, fun b o e hx => ?_, I.base.tups, I.base.frzs, I.base.tbls⟩, ⟨m, hn.sameBut hs (Ne.symm (cne x c hc)), fun j y v' e1 e2 e3 => ?_⟩, fun y c' e => ?_, I.free, I.freeC, fun p hp => ?_, tracked ⟨oc, hoc, I.freeC x c hc⟩ hs, by simpa using I.len⟩ ⟨c, hs, .inr hc⟩
    · exact (hs.2 b (Nat.ne_of_lt (Nat.lt_of_lt_of_le (Heap.lt_size e) (I.ok.cab x c hfn hc)))).trans (I.base.keep b o e n hb hx)
    · obtain ⟨sl, e1⟩ := I.base.slot b o e n hb hx
      exact ⟨sl, (hs.2 b (Nat.ne_of_lt (Nat.lt_of_lt_of_le (Heap.lt_size e) (I.ok.cab x c hfn hc)))).trans e1⟩
    · obtain ⟨o', e1⟩ := I.base.there b o e hx
      exact ⟨o', (hs.2 b (Nat.ne_of_lt (Nat.lt_of_lt_of_le (Heap.lt_size e) (I.ok.cab x c hfn hc)))).trans e1⟩
    · by_cases hj : j = i
      · subst hj
        rw [hi] at e1; cases e1
        rw [List.getElem?_set_self hiσ] at e2
        cases e2
        exact ⟨u, r, .inr ⟨.inl hk, c, hc, hc'⟩⟩
      · rw [List.getElem?_set_ne (Ne.symm hj)] at e2
        obtain ⟨u', r', q⟩ := hl j y v' e1 e2 e3
        refine ⟨u', r', ?_⟩
        rcases q with q | ⟨k, c', e, z'⟩
        · exact .inl q
        · refine .inr ⟨k, c', e, z'.sameBut hs ?_⟩
          rintro rfl
          exact hj (nodup_ix hN e1 (I.ok.inj _ _ _ e hc ▸ hi))
    · by_cases hcc : c' = c
      · subst hcc; exact ⟨_, hc'⟩
      · obtain ⟨w2, z2⟩ := I.cell y c' e
        exact ⟨w2, z2.sameBut hs hcc⟩
    · obtain ⟨e, n, ne, nf, d⟩ := I.pin p hp
      refine ⟨(hs.2 p.1 ?_).trans e, n, ne, nf, d⟩
      intro q
      rw [q, hoc] at e
      have q' : oc = p.2 := Option.some.inj e
      exact d w' (by rw [← q']; exact hocd)
theorem store_ok {M : Model} {A : Around} {E : Value → Shared → Prop} {i : Nat} {x : Str} {v : V} {u : Value} {Q : Unit → Shared → Prop} (I : Inv X pins σ H s) (hN : X.N.Nodup) (hi : X.N[i]? = some x) (hx : Loc X.env.scope x) (r : RelV v u)
    (h : ∀ s', Inv X pins (σ.set i (some v)) H s' → Q () s') (hf : X.fn x = true ∨ X.env.scope.names.lookup x = some .local := by first | exact .inl rfl | exact .inr rfl | assumption) : wpAny M A (storeName X.env x u) Q E s :=
  store_ok2 I hN hi hx r (fun s' I' _ => h s' I') hf
theorem Inv.call' {s' : Shared} {ch : List Addr} (I : Inv X pins σ H s) (ho : s'.os = s.os) (u : Un (frs X.stack) ch H H' s.heap s'.heap) (hok : HOk X.prog X.w H' s'.heap) (hg : AllBare s'.gens)
    (hch : ∀ b ∈ ch, (b ∈ X.ex ∨ X.s₀.heap.objs.size ≤ b) ∧ b ≠ X.env.locals ∧ (∀ x c, X.env.cells.lookup x = some c → c ≠ b) ∧ ∀ p ∈ X.pn ++ pins, p.1 ≠ b) : Inv X pins σ H' s' := by
  obtain ⟨h', g', d', t', o'⟩ := s'
  have e : o' = s.os := ho
  subst e
  exact I.call (g' := g') (t' := t') (d' := d') u hok hg hch
end
abbrev XK := Value → Option Addr → Hp → Prop
abbrev St := List (Option V)
abbrev VK := V → Hp → Prop
abbrev TE := St → Hp → VK → Prop
abbrev TT := St → Hp → (Bool → Hp → Prop) → Prop
abbrev TA := St → Hp → (List V → Hp → Prop) → Prop
structure Ends where
  nx : St → Hp → Prop
  rt : VK
  bk : St → Hp → Prop := fun _ _ => False
  ct : St → Hp → Prop := fun _ _ => False
abbrev TS := Ends → St → Hp → Prop
def EP (X : Cx) (pins : List (Addr × Obj)) (σ : St) (Q : VK) (u : Value) (s' : Shared) : Prop := ∃ v H', Inv X pins σ H' s' ∧ RelV v u ∧ Q v H'
def TP (X : Cx) (pins : List (Addr × Obj)) (σ : St) (Q : Bool → Hp → Prop) (b : Bool) (s' : Shared) : Prop := ∃ H', Inv X pins σ H' s' ∧ Q b H'
def AP (X : Cx) (pins : List (Addr × Obj)) (σ : St) (Q : List V → Hp → Prop) (us : List Value) (s' : Shared) : Prop := ∃ vs H', Inv X pins σ H' s' ∧ Vals vs us ∧ Q vs H'
def SP (X : Cx) (pins : List (Addr × Obj)) (D : Ends) (f : Flow) (s' : Shared) : Prop :=
  match f with
  | .next => ∃ σ' H', Inv X pins σ' H' s' ∧ D.nx σ' H'
  | .brk => ∃ σ' H', Inv X pins σ' H' s' ∧ D.bk σ' H'
  | .cont => ∃ σ' H', Inv X pins σ' H' s' ∧ D.ct σ' H'
  | .ret u => ∃ v σ' H', Inv X pins σ' H' s' ∧ RelV v u ∧ D.rt v H'
def PE (X : Cx) (e : Expr) (t : TE) : Prop :=
  ∀ (pins : List (Addr × Obj)) (s : Shared) (σ : St) (H : Hp) (Q : VK), Inv X pins σ H s → t σ H Q → wpAny (model X.prog X.w) X.A (eval e X.env) (EP X pins σ Q) X.xe s
def PT (X : Cx) (e : Expr) (t : TT) : Prop :=
  ∀ (pins : List (Addr × Obj)) (s : Shared) (σ : St) (H : Hp) (Q : Bool → Hp → Prop), Inv X pins σ H s → t σ H Q → wpAny (model X.prog X.w) X.A (isTrue e X.env (eval e X.env)) (TP X pins σ Q) X.xe s
def PW (X : Cx) (e : Expr) (t : TT) : Prop :=
  ∀ (whole : Sem Value) (pins : List (Addr × Obj)) (s : Shared) (σ : St) (H : Hp) (Q : Bool → Hp → Prop), Inv X pins σ H s → t σ H Q → wpAny (model X.prog X.w) X.A (isTrue e X.env whole) (TP X pins σ Q) X.xe s
theorem PW.pt {X : Cx} {e : Expr} {t : TT} (h : PW X e t) : PT X e t := h _
def PA (X : Cx) (es : List Expr) (t : TA) : Prop :=
  ∀ (pos : Pos) (pins : List (Addr × Obj)) (s : Shared) (σ : St) (H : Hp) (Q : List V → Hp → Prop), Inv X pins σ H s → t σ H Q → wpAny (model X.prog X.w) X.A (spliced (backTo pos (starEach es X.env))) (AP X pins σ Q) X.xe s
def PS (X : Cx) (st : Stmt) (t : TS) : Prop :=
  ∀ (pins : List (Addr × Obj)) (s : Shared) (σ : St) (H : Hp) (D : Ends), Inv X pins σ H s → t D σ H → wpAny (model X.prog X.w) X.A (exec st X.env) (SP X pins D) X.xe s
def PSs (X : Cx) (st : List Stmt) (t : TS) : Prop :=
  ∀ (pins : List (Addr × Obj)) (s : Shared) (σ : St) (H : Hp) (D : Ends), Inv X pins σ H s → t D σ H → wpAny (model X.prog X.w) X.A (execs st X.env) (SP X pins D) X.xe s
theorem thn {α : Type} {t : Sem α} {Q Q' : α → Shared → Prop} {M : Model} {A : Around} {E : Value → Shared → Prop} {s : Shared} (h : wpAny M A t Q E s) (hQ : ∀ a s, Q a s → Q' a s) : wpAny M A t Q' E s := wpAny_mono h hQ fun _ _ x => x
end L2
namespace L2
open PySem PySem.Spec PyProof.Rows
section
variable {X : Cx}
theorem bin {a b : Expr} {ta tb : TE} (ha : PE X a ta) (hb : PE X b tb) {pins : List (Addr × Obj)} {s : Shared} {σ : St} {H : Hp} {R : V → V → Hp → Prop} (I : Inv X pins σ H s) (h : ta σ H fun x H1 => tb σ H1 fun y H2 => R x y H2)
    {α : Type} {Q : α → Shared → Prop} {f : Value → Value → Sem α}
    (hf : ∀ v u s2 x y H2, Inv X pins σ H2 s2 → RelV x v → RelV y u → R x y H2 → wpAny (model X.prog X.w) X.A (f v u) Q X.xe s2) :
    wpAny (model X.prog X.w) X.A (eval a X.env) (fun v s₁ => wpAny (model X.prog X.w) X.A (eval b X.env) (fun u s₂ => wpAny (model X.prog X.w) X.A (f v u) Q X.xe s₂) X.xe s₁) X.xe s := by
  refine thn (ha pins s σ H _ I h) fun v s1 ⟨x, H1, I1, r1, q1⟩ => ?_
  refine thn (hb pins s1 σ H1 _ I1 q1) fun u s2 ⟨y, H2, I2, r2, q2⟩ => ?_
  exact hf v u s2 x y H2 I2 r1 r2 q2
def tVar (i : Nat) : TE := fun σ H Q => ∃ v, σ[i]? = some (some v) ∧ Q v H
def tC (v : V) : TE := fun _ H Q => Q v H
theorem pe_var {i : Nat} {x : Str} {pos : Pos} (hN : X.N[i]? = some x) (hv : Vis X.env.scope x) (hd : (x == ("__debug__" : Str)) = false := by decide) (hcd : (x == ("__classdict__" : Str)) = false := by decide) : PE X (.Name x pos) (tVar i) := by
  intro pins s σ H Q I h
  obtain ⟨v, e, h⟩ := h
  obtain ⟨m, hn, hl⟩ := I.loc
  obtain ⟨u, r, l⟩ := hl i x v hN e hv
  have fin : EP X pins σ Q u s := ⟨v, H, I, r, h⟩
  rcases l with ⟨hk, hm⟩ | ⟨hk, c, hc, hcell⟩
  · exact wpAny_Name (wpAny_loadName_local I.ok.kind hk hn hm fin) hd
  · rcases hk with hk | hk
    · exact wpAny_Name (wpAny_loadName_cell I.ok.kind hk hc hcell fin) hd
    · exact wpAny_Name (wpAny_loadName_free I.ok.kind hk hc hcell fin hcd) hd
theorem pe_int {i j pos} : PE X (.Constant (.int i) j pos) (tC (.int i)) := fun _ _ _ H _ I h => wpAny_Constant_int ⟨.int i, H, I.tok _, ⟨_, rfl⟩, h⟩
theorem pe_bl {b j pos} : PE X (.Constant (.bool b) j pos) (tC (.bl b)) := fun _ _ _ H _ I h => Constant_bool ⟨.bl b, H, I, rfl, h⟩
def Gl (X : Cx) (x : Str) : Prop := X.env.kindOf x = some .globalImplicit
theorem ld_glob {E : Value → Shared → Prop} {pins : List (Addr × Obj)} {s : Shared} {σ : St} {H : Hp} {x : Str} {u : Value} {pos : Pos} {Q : Value → Shared → Prop} (I : Inv X pins σ H s) (hg : Gl X x) (hm : X.mg x = some u) (h : Q u s)
    (hd : (x == ("__debug__" : Str)) = false := by decide) : wpAny (model X.prog X.w) X.A (eval (.Name x pos) X.env) Q E s :=
  Calls.Name_function_global I.ok.kind hg (Calls.loadGlobal_global (by rw [I.ok.glob]; exact I.mod.glob.keeps I.bk) hm h) hd
theorem ld_blt {E : Value → Shared → Prop} {pins : List (Addr × Obj)} {s : Shared} {σ : St} {H : Hp} {x : Str} {u : Value} {pos : Pos} {Q : Value → Shared → Prop} (I : Inv X pins σ H s) (hg : Gl X x) (hm : X.mg x = none) (hv : bootBuiltins x = some u) (h : Q u s)
    (hn : x ≠ "__name__" := by decide) (hd : (x == ("__debug__" : Str)) = false := by decide) : wpAny (model X.prog X.w) X.A (eval (.Name x pos) X.env) Q E s := by
  obtain ⟨mb, h1, h2⟩ := I.mod.blt
  exact Calls.Name_function_global I.ok.kind hg (Calls.loadGlobal_builtin (by rw [I.ok.glob]; exact I.mod.glob.keeps I.bk) hm (by rw [I.ok.blt]; exact h1.keeps I.bk) ((h2 x hn).trans hv) h) hd
theorem pe_bltn {x : Str} {v : V} {u : Value} {pos : Pos} (hg : Gl X x) (hm : X.mg x = none) (hv : bootBuiltins x = some u) (r : RelV v u) (hn : x ≠ "__name__" := by decide) (hd : (x == ("__debug__" : Str)) = false := by decide) : PE X (.Name x pos) (tC v) :=
  fun _ _ _ H _ I h => ld_blt I hg hm hv ⟨v, H, I, r, h⟩ hn hd
variable {a b : Expr} {ta tb : TE} {pos : Pos}
variable {tA tB' : TT} {rest : List Expr}
def tAnd (t u : TT) : TT := fun σ H Q => t σ H fun c H1 => if c = true then u σ H1 Q else Q false H1
def tOr (t u : TT) : TT := fun σ H Q => t σ H fun c H1 => if c = true then Q true H1 else u σ H1 Q
def tNot (t : TT) : TT := fun σ H Q => t σ H fun c H1 => Q (!c) H1
theorem pw_and1 (ha : PT X a tA) : PW X (.BoolOp .And [a] pos) tA := by
  intro wh pins s σ H Q I h
  refine isTrue_and (thn (ha pins s σ H Q I h) fun c s1 e => ?_)
  cases c with
  | true => exact isTrue_and_nil e
  | false => exact e
theorem pw_or1 (ha : PT X a tA) : PW X (.BoolOp .Or [a] pos) tA := by
  intro wh pins s σ H Q I h
  refine isTrue_or (thn (ha pins s σ H Q I h) fun c s1 e => ?_)
  cases c with
  | false => exact isTrue_or_nil e
  | true => exact e
theorem pw_and (ha : PT X a tA) (hb : PW X (.BoolOp .And (b :: rest) pos) tB') : PW X (.BoolOp .And (a :: b :: rest) pos) (tAnd tA tB') := by
  intro wh pins s σ H Q I h
  refine isTrue_and (thn (ha pins s σ H _ I h) fun c s1 ⟨H1, I1, q1⟩ => ?_)
  cases c with
  | true => exact hb wh pins s1 σ H1 Q I1 q1
  | false => exact ⟨H1, I1, q1⟩
theorem pw_or (ha : PT X a tA) (hb : PW X (.BoolOp .Or (b :: rest) pos) tB') : PW X (.BoolOp .Or (a :: b :: rest) pos) (tOr tA tB') := by
  intro wh pins s σ H Q I h
  refine isTrue_or (thn (ha pins s σ H _ I h) fun c s1 ⟨H1, I1, q1⟩ => ?_)
  cases c with
  | true => exact ⟨H1, I1, q1⟩
  | false => exact hb wh pins s1 σ H1 Q I1 q1
theorem pt_not (ha : PT X a tA) : PT X (.UnaryOp .Not a pos) (tNot tA) := by
  intro pins s σ H Q I h
  exact isTrue_not (ha pins s σ H (fun c H1 => Q (!c) H1) I h)
theorem pe_one {op} {t : TE} (h : PE X a t) : PE X (.BoolOp op [a] pos) t := fun pins s σ H Q I hw => BoolOp_one (h pins s σ H Q I hw)
end
end L2
namespace L2
open PySem PySem.Spec PyProof.Rows
def SqL (K : PySem.W.Frag) (H : Hp) (a : Addr) (xs : List V) : Prop :=
  Rd H a (.lst xs) ∨
    ∃ (o : Obj) (its : Array Value) (n : Nat), K.lookup a = some o ∧ o.cls = .type "list" ∧ o.dict = none ∧ o.data = .seq its n ∧ its.size ≤ sizeLine ∧ Vals xs its.toList
def SqT (K : PySem.W.Frag) (H : Hp) (a : Addr) (xs : List V) : Prop :=
  Rd H a (.tup xs) ∨
    ∃ (o : Obj) (its : Array Value) (n : Nat), K.lookup a = some o ∧ o.cls = .type "tuple" ∧ o.data = .seq its n ∧ its.size ≤ sizeLine ∧ Vals xs its.toList
def absV : Value → Option V
  | .none => some .non
  | .bool b => some (.bl b)
  | .int i _ => some (.int i)
  | .str x _ => some (.str x)
  | .bytes b _ => some (.byt b)
  | .float b _ => some (.flt b)
  | .ref a => some (.ref a)
  | .type n => some (.ty n)
  | _ => none
theorem RelV.abs {x : V} {u : Value} (r : RelV x u) : absV u = some x := by
  cases x with
  | non => cases r; rfl
  | bl _ => cases r; rfl
  | int _ => obtain ⟨t, rfl⟩ := r; rfl
  | str _ => obtain ⟨t, rfl⟩ := r; rfl
  | byt _ => obtain ⟨t, rfl⟩ := r; rfl
  | flt _ => obtain ⟨t, rfl⟩ := r; rfl
  | ref _ => cases r; rfl
  | ty _ => cases r; rfl
theorem RelV.inj {x y : V} {u : Value} (r : RelV x u) (q : RelV y u) : x = y := Option.some.inj (r.abs.symm.trans q.abs)
theorem Vals.inj : ∀ {xs ys : List V} {us : List Value}, Vals xs us → Vals ys us → xs = ys
  | _, _, _, .nil, .nil => rfl
  | _, _, _, .cons r t, .cons r' t' => by rw [r.inj r', Vals.inj t t']
section
variable {X : Cx} {pins : List (Addr × Obj)} {σ : St} {H : Hp} {s : Shared} {a : Addr} {xs ys : List V}
theorem SqL.of {K : PySem.W.Frag} (h : H a = some (.lst xs)) : SqL K H a xs := .inl (.inl h)
theorem SqT.of {K : PySem.W.Frag} (h : H a = some (.tup xs)) : SqT K H a xs := .inl (.inl h)
theorem Inv.list (I : Inv X pins σ H s) (h : SqL X.K H a xs) : ∃ its : List Value, Vals xs its ∧ PlainL s.heap a its.toArray ∧ xs.length ≤ sizeLine := by
  rcases h with h | ⟨o, its, n, hk, hc, hd, hs, hz, r⟩
  · obtain ⟨z, its, n, r, e⟩ := h.ok I.hok
    exact ⟨its, r, ⟨_, n, e, rfl, rfl, rfl⟩, z⟩
  · refine ⟨its.toList, r, ⟨o, n, I.kIn a o hk, hc, hd, by simpa using hs⟩, ?_⟩
    have e := r.length
    simp only [Array.length_toList] at e
    omega
theorem Inv.tuple (I : Inv X pins σ H s) (h : SqT X.K H a xs) : ∃ its : List Value, Vals xs its ∧ IsTup s.heap a its.toArray ∧ xs.length ≤ sizeLine := by
  rcases h with h | ⟨o, its, n, hk, hc, hs, hz, r⟩
  · obtain ⟨z, its, r, p⟩ := h.ok I.hok
    exact ⟨its, r, p.tup, z⟩
  · refine ⟨its.toList, r, ⟨o, I.kIn a o hk, hc, n, by simpa using hs⟩, ?_⟩
    have e := r.length
    simp only [Array.length_toList] at e
    omega
theorem Inv.list_inj (I : Inv X pins σ H s) (h : SqL X.K H a xs) (h' : SqL X.K H a ys) : xs = ys := by
  obtain ⟨its, r, ⟨o, n, e, _, _, d⟩, _⟩ := I.list h
  obtain ⟨its', r', ⟨o', n', e', _, _, d'⟩, _⟩ := I.list h'
  rw [e] at e'; cases e'
  rw [d] at d'
  injection d' with d1 _
  have : its = its' := by simpa using congrArg Array.toList d1
  subst this
  exact r.inj r'
theorem Inv.tuple_inj (I : Inv X pins σ H s) (h : SqT X.K H a xs) (h' : SqT X.K H a ys) : xs = ys := by
  obtain ⟨its, r, ⟨o, e, _, n, d⟩, _⟩ := I.tuple h
  obtain ⟨its', r', ⟨o', e', _, n', d'⟩, _⟩ := I.tuple h'
  rw [e] at e'; cases e'
  rw [d] at d'
  injection d' with d1 _
  have : its = its' := by simpa using congrArg Array.toList d1
  subst this
  exact r.inj r'
end
abbrev Cx.wish (X : Cx) (E : Value → Shared → Prop) : Cx := { X with xe := E }
abbrev Cx.nox (X : Cx) : Cx := X.wish fun _ _ => False
theorem Cx.Ok.wish {X : Cx} (ok : X.Ok) (E : Value → Shared → Prop) : (X.wish E).Ok :=
  ⟨ok.mod, ok.kind, ok.glob, ok.blt, ok.above, ok.inj, ok.has, ok.cab, ok.hd, ok.frames, ok.stk, ok.exf, ok.bs, ok.bsz, ok.noex, ok.exfs, ok.funs, ok.frf⟩
theorem Cx.Ok.unwish {X : Cx} {E : Value → Shared → Prop} (ok : (X.wish E).Ok) : X.Ok :=
  ⟨ok.mod, ok.kind, ok.glob, ok.blt, ok.above, ok.inj, ok.has, ok.cab, ok.hd, ok.frames, ok.stk, ok.exf, ok.bs, ok.bsz, ok.noex, ok.exfs, ok.funs, ok.frf⟩
section
variable {X : Cx} {pins : List (Addr × Obj)} {σ : St} {H : Hp} {s : Shared} {E : Value → Shared → Prop}
theorem Inv.wish (I : Inv X pins σ H s) (E : Value → Shared → Prop) : Inv (X.wish E) pins σ H s := ⟨I.ok.wish E, I.os, I.bare, I.base, I.loc, I.cell, I.free, I.freeC, I.pin, I.hok, I.len⟩
theorem Inv.unwish (I : Inv (X.wish E) pins σ H s) : Inv X pins σ H s := ⟨I.ok.unwish, I.os, I.bare, I.base, I.loc, I.cell, I.free, I.freeC, I.pin, I.hok, I.len⟩
theorem SP.unwish {D : Ends} {f : Flow} {s' : Shared} (h : SP (X.wish E) pins D f s') : SP X pins D f s' := by
  cases f with
  | next => obtain ⟨σ', H', I, q⟩ := h; exact ⟨σ', H', I.unwish, q⟩
  | brk => obtain ⟨σ', H', I, q⟩ := h; exact ⟨σ', H', I.unwish, q⟩
  | cont => obtain ⟨σ', H', I, q⟩ := h; exact ⟨σ', H', I.unwish, q⟩
  | ret u => obtain ⟨v, σ', H', I, r, q⟩ := h; exact ⟨v, σ', H', I.unwish, r, q⟩
theorem PE.nox {e : Expr} {t : TE} (h : PE X.nox e t) : PE X e t := fun pins s σ H Q I hw =>
  wpAny_mono (h pins s σ H Q (I.wish _) hw) (fun _ _ ⟨v, H', I', r, q⟩ => ⟨v, H', I'.unwish, r, q⟩) fun _ _ z => False.elim z
theorem PT.nox {e : Expr} {t : TT} (h : PT X.nox e t) : PT X e t := fun pins s σ H Q I hw =>
  wpAny_mono (h pins s σ H Q (I.wish _) hw) (fun _ _ ⟨H', I', q⟩ => ⟨H', I'.unwish, q⟩) fun _ _ z => False.elim z
theorem PSs.nox {st : List Stmt} {t : TS} (h : PSs X.nox st t) : PSs X st t := fun pins s σ H D I hw =>
  wpAny_mono (h pins s σ H D (I.wish _) hw) (fun _ _ q => q.unwish) fun _ _ z => False.elim z
end
section
variable {X : Cx} {st : Stmt} {rest : List Stmt} {t u : TS} {e : Expr} {te : TE} {pos : Pos}
def tNext : TS := fun D σ H => D.nx σ H
def tSeq (t u : TS) : TS := fun D σ H => t { D with nx := u D } σ H
theorem pss_nil : PSs X [] tNext := fun _ _ σ H _ I h => wpAny_execs_nil ⟨σ, H, I, h⟩
theorem pss_cons (h1 : PS X st t) (h2 : PSs X rest u) : PSs X (st :: rest) (tSeq t u) := by
  intro pins s σ H D I h
  refine wpAny_execs_cons (thn (h1 pins s σ H { D with nx := u D } I h) fun f s1 q => ?_)
  cases f with
  | next =>
    obtain ⟨σ', H', I', q⟩ := q
    exact h2 pins s1 σ' H' D I' q
  | ret v => exact q
  | brk => exact q
  | cont => exact q
theorem pss_one (h1 : PS X st t) : PSs X [st] t := by
  intro pins s σ H D I h
  refine wpAny_execs_cons (thn (h1 pins s σ H D I h) fun f s1 q => ?_)
  cases f with
  | next => exact wpAny_execs_nil q
  | ret v => exact q
  | brk => exact q
  | cont => exact q
theorem Inv.quiet {pins : List (Addr × Obj)} {σ : St} {H : Hp} {s : Shared} (I : Inv X pins σ H s) : interactive X.env = false := by simp [interactive, I.ok.kind]
def tDrop (te : TE) : TS := fun D σ H => te σ H fun _ H1 => D.nx σ H1
theorem ps_expr (he : PE X e te) (hs : swapsWith e none pos.line X.env = pure false := by rfl) : PS X (.Expr e pos) (tDrop te) := by
  intro pins s σ H D I h
  exact wpAny_Expr_any (thn (he pins s σ H _ I h) fun v s1 ⟨x, H1, I1, r1, q1⟩ => ⟨σ, H1, I1, q1⟩) I.quiet hs
def tRet (te : TE) : TS := fun D σ H => te σ H D.rt
theorem ps_ret (he : PE X e te) : PS X (.Return (some e) pos) (tRet te) := by
  intro pins s σ H D I h
  exact wpAny_Return_some (thn (he pins s σ H _ I h) fun v s1 ⟨x, H1, I1, r1, q1⟩ => ⟨x, σ, H1, I1, r1, q1⟩)
def tIfS (c : TT) (t u : TS) : TS := fun D σ H => c σ H fun b H1 => if b = true then t D σ H1 else u D σ H1
theorem ps_if {c : Expr} {a b : List Stmt} {tc : TT} (hc : PT X c tc) (ha : PSs X a t) (hb : PSs X b u) : PS X (.If c a b pos) (tIfS tc t u) := by
  intro pins s σ H D I h
  refine wpAny_If (thn (hc pins s σ H _ I h) fun d s1 ⟨H1, I1, q1⟩ => ?_)
  cases d with
  | true => exact ha pins s1 σ H1 D I1 q1
  | false => exact hb pins s1 σ H1 D I1 q1
end
abbrev TG := V → St → Hp → (St → Hp → Prop) → Prop
abbrev TGs := List V → St → Hp → (St → Hp → Prop) → Prop
def PG (X : Cx) (target : Expr) (t : TG) : Prop :=
  ∀ (pins : List (Addr × Obj)) (s : Shared) (σ : St) (H : Hp) (v : V) (u : Value) (Q : St → Hp → Prop), Inv X pins σ H s → RelV v u → t v σ H Q →
    wpAny (model X.prog X.w) X.A (assign target X.env u) (fun _ s' => ∃ σ' H', Inv X pins σ' H' s' ∧ Q σ' H') X.xe s
def PGs (X : Cx) (ts : List Expr) (t : TGs) : Prop :=
  ∀ (pins : List (Addr × Obj)) (s : Shared) (σ : St) (H : Hp) (vs : List V) (us : List Value) (Q : St → Hp → Prop), Inv X pins σ H s → Vals vs us → t vs σ H Q →
    wpAny (model X.prog X.w) X.A (assignInOrder ((assignEach ts X.env).map (·.2)) us) (fun _ s' => ∃ σ' H', Inv X pins σ' H' s' ∧ Q σ' H') X.xe s
abbrev TSet := V → V → V → Hp → (Hp → Prop) → Prop
def PSet (X : Cx) (t : TSet) : Prop :=
  ∀ (pins : List (Addr × Obj)) (s : Shared) (σ : St) (H : Hp) (o i v : V) (ov iv u : Value) (Q : Hp → Prop), Inv X pins σ H s → RelV o ov → RelV i iv → RelV v u → t o i v H Q →
    wpAny (model X.prog X.w) X.A (setItem ov iv u) (fun _ s' => ∃ H', Inv X pins σ H' s' ∧ Q H') X.xe s
section
variable {X : Cx} {pos : Pos}
def gName (i : Nat) : TG := fun v σ H Q => Q (σ.set i (some v)) H
theorem pg_name {i : Nat} {x : Str} (hN : X.N.Nodup) (hi : X.N[i]? = some x) (hx : Loc X.env.scope x) (hf : X.fn x = true ∨ X.env.scope.names.lookup x = some .local := by first | exact .inl rfl | exact .inr rfl | assumption) : PG X (.Name x pos) (gName i) := by
  intro pins s σ H v u Q I r h
  exact wpAny_assign_Name (store_ok I hN hi hx r (fun s' I' => ⟨_, H, I', h⟩) hf)
def gNil : TGs := fun vs σ H Q => vs = [] ∧ Q σ H
def gCons (t : TG) (u : TGs) : TGs := fun vs σ H Q => ∃ v r, vs = v :: r ∧ t v σ H fun σ' H' => u r σ' H' Q
theorem pgs_nil : PGs X [] gNil := by
  intro pins s σ H vs us Q I r h
  obtain ⟨e, h⟩ := h
  subst e
  cases r
  exact assignInOrder_nil ⟨σ, H, I, h⟩
theorem pgs_cons {e : Expr} {es : List Expr} {t : TG} {u : TGs} (h1 : PG X e t) (h2 : PGs X es u)
    (hs : (assignEach (e :: es) X.env).map (·.2) = assign e X.env :: (assignEach es X.env).map (·.2) := by rfl) : PGs X (e :: es) (gCons t u) := by
  intro pins s σ H vs us Q I r h
  obtain ⟨v, vr, e1, h⟩ := h
  subst e1
  cases r with
  | cons r rr =>
    rw [hs]
    refine assignInOrder_cons (thn (h1 pins s σ H _ _ _ I r h) fun _ s1 ⟨σ1, H1, I1, q1⟩ => ?_)
    exact h2 pins s1 σ1 H1 _ _ Q I1 rr q1
def gTup (K : PySem.W.Frag) (n : Nat) (t : TGs) : TG := fun v σ H Q => ∃ a xs, v = .ref a ∧ SqT K H a xs ∧ xs.length = n ∧ t xs σ H Q
theorem pg_tup {es : List Expr} {k : Nat} {t : TGs} {n : Nat} (hc : X.calm = true) (h : PGs X es t)
    (hn : (assignEach es X.env).length = n := by rfl) (hst : (assignEach es X.env).findIdx? (·.1) = none := by rfl) : PG X (.Tuple es k pos) (gTup X.K n t) := by
  intro pins s σ H v u Q I r hw
  obtain ⟨a, xs, e1, hq, hl, hw⟩ := hw
  subst e1
  cases r
  obtain ⟨its, rv, ht, hz⟩ := I.tuple hq
  refine assign_Tuple_tuple (I.ok.hd hc) ht (by simp [hn, ← hl, rv.length]) hst fun h' hx => ?_
  have I1 : Inv X pins σ H { s with heap := h' } := I.kept (t' := s.toks) fun b o e => hx b o (Nat.ne_of_lt (Heap.lt_size e)) e
  exact h pins _ σ H xs _ Q I1 (by simpa using rv) hw
def gSub (to ti : TE) (t : TSet) : TG := fun v σ H Q => to σ H fun o H1 => ti σ H1 fun i H2 => t o i v H2 fun H3 => Q σ H3
theorem pg_sub {o i : Expr} {to ti : TE} {t : TSet} (ho : PE X o to) (hi : PE X i ti) (hs : PSet X t)
    (ha : ∀ v, assign (.Subscript o i pos) X.env v = (do
      let ov ← holding [v] (eval o X.env)
      let iv ← holding [v, ov] (eval i X.env)
      standAt pos
      holding [v, ov, iv] (setItem ov iv v)
      release [v, ov, iv] []) := by intro _; rfl) : PG X (.Subscript o i pos) (gSub to ti t) := by
  intro pins s σ H v u Q I r h
  rw [ha]
  refine wpAny_bind (wpAny_holding (thn (ho pins s σ H _ I h) fun ov s1 ⟨x, H1, I1, r1, q1⟩ => ?_))
  refine wpAny_bind (wpAny_holding (thn (hi pins s1 σ H1 _ I1 q1) fun iv s2 ⟨y, H2, I2, r2, q2⟩ => ?_))
  refine wpAny_bind (wpAny_standAt (wpAny_bind (wpAny_holding (thn (hs pins s2 σ H2 x y v ov iv u _ I2 r1 r2 r q2) fun _ s3 ⟨H3, I3, q3⟩ => ?_))))
  exact wpAny_release ⟨σ, H3, I3, q3⟩
def tAsg (te : TE) (g : TG) : TS := fun D σ H => te σ H fun x H1 => g x σ H1 D.nx
theorem ps_asg {tg e : Expr} {te : TE} {g : TG} (he : PE X e te) (hg : PG X tg g) (hs : swapsWithSole [tg] e pos.line X.env = pure false := by rfl) (hw : swappedStores [tg] e X.env = pure none := by rfl)
    (h1 : (assignEach [tg] X.env).map (·.2) = [assign tg X.env] := by rfl) : PS X (.Assign [tg] e pos) (tAsg te g) := by
  intro pins s σ H D I h
  refine wpAny_Assign_stores (thn (he pins s σ H _ I h) fun v s1 ⟨x, H1, I1, r1, q1⟩ => ?_) hs hw
  rw [h1]
  exact thn (hg pins s1 σ H1 x v _ I1 r1 q1) fun _ s2 q => q
theorem ps_set {i : Nat} {x : Str} {e : Expr} {te : TE} {pos' : Pos} (hN : X.N.Nodup) (hi : X.N[i]? = some x) (hx : Loc X.env.scope x) (he : PE X e te) (hs : swapsWith e (some (.Name x pos')) pos.line X.env = pure false := by rfl) (hf : X.fn x = true ∨ X.env.scope.names.lookup x = some .local := by first | exact .inl rfl | exact .inr rfl | assumption) :
    PS X (.Assign [.Name x pos'] e pos) (tAsg te (gName i)) := by
  intro pins s σ H D I h
  refine wpAny_Assign_Name (thn (he pins s σ H _ I h) fun v s1 ⟨y, H1, I1, r1, q1⟩ => ?_) hs
  exact store_ok I1 hN hi hx r1 (fun s2 I2 => ⟨_, H1, I2, q1⟩) hf
end
section
variable {X : Cx} {pos : Pos}
def tWhile (c : TT) (tb : TS) : TS := fun D σ H => ∃ W : Nat → St → Hp → Prop, (∃ m, W m σ H) ∧ ∀ m σ H, W m σ H →
  c σ H fun b H1 => if b = true then ∃ N : St → Hp → Prop, (∀ σ' H', N σ' H' → ∃ m', m' < m ∧ W m' σ' H') ∧ tb { D with nx := N, ct := N, bk := D.nx } σ H1 else D.nx σ H1
theorem ps_while {c : Expr} {body : List Stmt} {tc : TT} {tb : TS} (hp : PassesOwn (model X.prog X.w) X.A X.env X.xe) (hc : PT X c tc) (hb : PSs X body tb) : PS X (.While c body [] pos) (tWhile tc tb) := by
  intro pins s σ H D I h
  obtain ⟨W, ⟨m0, w0⟩, turn⟩ := h
  refine wpAny_While (codeAny_whileLoop (fun n s' => ∃ σ' H', Inv X pins σ' H' s' ∧ W n σ' H') ?_ m0 ⟨σ, H, I, w0⟩)
  rintro n s1 ⟨σ1, H1, I1, w1⟩
  refine wpAny_passesOwn hp (thn (hc pins s1 σ1 H1 _ I1 (turn n σ1 H1 w1)) fun b s2 ⟨H2, I2, q2⟩ => ?_)
  cases b with
  | true =>
    obtain ⟨N, hN, q2⟩ := q2
    rw [if_pos rfl]
    refine wpAny_passesOwn hp (thn (hb pins s2 σ1 H2 _ I2 q2) fun f s3 q3 => ?_)
    cases f with
    | next =>
      obtain ⟨σ3, H3, I3, n3⟩ := q3
      obtain ⟨m', hm, w3⟩ := hN σ3 H3 n3
      exact ⟨m', hm, σ3, H3, I3, w3⟩
    | cont =>
      obtain ⟨σ3, H3, I3, n3⟩ := q3
      obtain ⟨m', hm, w3⟩ := hN σ3 H3 n3
      exact ⟨m', hm, σ3, H3, I3, w3⟩
    | brk => exact q3
    | ret v => exact q3
  | false =>
    rw [if_neg Bool.false_ne_true]
    exact wpAny_execs_nil ⟨σ1, H2, I2, q2⟩
end
structure It where
  go : Nat → Hp → Prop
  yld : Nat → Hp → V → Hp → Prop
  stop : Nat → Hp → Prop
def FpOk (X : Cx) (pins : List (Addr × Obj)) (H : Hp) (b : Addr) : Prop :=
  H b = none ∧ b ≠ X.env.locals ∧ b ∉ X.fs ∧ (b ∈ X.ex ∨ X.s₀.heap.objs.size ≤ b) ∧ (∀ x c, X.env.cells.lookup x = some c → c ≠ b) ∧ ∀ p ∈ X.pn ++ pins, p.1 ≠ b
theorem Inv.fpOk {X : Cx} {pins : List (Addr × Obj)} {σ : St} {H H' : Hp} {s : Shared} {b : Addr} (I : Inv X pins σ H s) (hb : s.heap.objs.size ≤ b) (hn : H' b = none) : FpOk X pins H' b := by
  refine ⟨hn, Nat.ne_of_gt (Nat.lt_of_lt_of_le I.lt hb), I.nofs hb, .inr (Nat.le_trans I.sz hb), fun x c e z => ?_, fun p hp z => ?_⟩
  · obtain ⟨v, q⟩ := I.cell x c e
    exact absurd (Nat.lt_of_lt_of_le q.lt (by rw [z]; exact hb)) (Nat.lt_irrefl _)
  · exact absurd (Nat.lt_of_lt_of_le (Heap.lt_size (I.pin p hp).1) (by rw [z]; exact hb)) (Nat.lt_irrefl _)
structure Turn (P : Program) (w : World) (K : PySem.W.Frag) (tg : Expr) (J : It) (fp : List Addr) (it : Addr) (tn : Nat → Heap → Prop) : Prop where
  mem : it ∈ fp
  obj : ∀ i h, tn i h → ∀ b ∈ fp, ∃ o, h.get? b = some o ∧ ∀ v, o.data ≠ .cell v
  keep : ∀ i h h', tn i h → (∀ b ∈ fp, ∀ o, h.get? b = some o → h'.get? b = some o) → tn i h'
  item : ∀ (X : Cx), X.prog = P → X.w = w → X.K = K → X.calm = true → ∀ (i : Nat) (pins : List (Addr × Obj)) (s : Shared) (σ : St) (H : Hp) (E : Value → Shared → Prop), Inv X pins σ H s → (∀ b ∈ fp, FpOk X pins H b) → tn i s.heap → J.go i H →
    wpAny (model P w) X.A (pyNext (.ref it)) (fun r s1 => ∃ u, r = some u ∧
      wpAny (model P w) X.A (letOwnedTupleGo tg (.ref it) u) (fun _ s2 => ∃ x H', Inv X pins σ H' s2 ∧ RelV x u ∧ J.yld i H x H' ∧ tn (i + 1) s2.heap ∧ ∀ b ∈ fp, H' b = none) E s1) E s
  done : ∀ (X : Cx), X.prog = P → X.w = w → X.K = K → X.calm = true → ∀ (i : Nat) (pins : List (Addr × Obj)) (s : Shared) (σ : St) (H : Hp) (E : Value → Shared → Prop), Inv X pins σ H s → (∀ b ∈ fp, FpOk X pins H b) → tn i s.heap → J.stop i H →
    wpAny (model P w) X.A (pyNext (.ref it)) (fun r s1 => r = none ∧ Inv X pins σ H s1) E s
  self : ∀ (A : Around) (i : Nat) (s : Shared) (Q : Value → Shared → Prop) (E : Value → Shared → Prop), tn i s.heap → Q (.ref it) s → wpAny (model P w) A (pyIter (.ref it)) Q E s
abbrev TI := St → Hp → (It → Hp → Prop) → Prop
def PIE (X : Cx) (pins : List (Addr × Obj)) (σ : St) (tg : Expr) (R : It → Hp → Prop) (itv : Value) (s2 : Shared) : Prop :=
  ∃ (it : Addr) (fp : List Addr) (tn : Nat → Heap → Prop) (J : It) (H' : Hp), itv = .ref it ∧ Inv X pins σ H' s2 ∧ Turn X.prog X.w X.K tg J fp it tn ∧ tn 0 s2.heap ∧ (∀ b ∈ fp, FpOk X pins H' b) ∧ R J H'
def PI (X : Cx) (tg iter : Expr) (wi : TI) : Prop :=
  ∀ (pins : List (Addr × Obj)) (s : Shared) (σ : St) (H : Hp) (R : It → Hp → Prop), Inv X pins σ H s → wi σ H R →
    wpAny (model X.prog X.w) X.A (eval iter X.env) (fun v s1 => wpAny (model X.prog X.w) X.A (pyIter v) (PIE X pins σ tg R) X.xe s1) X.xe s
theorem go_of {M : Model} {A : Around} {E : Value → Shared → Prop} {s : Shared} {tg : Expr} {it : Addr} {u : Value} {o : Obj} {n : String} {vs : Array Value} {Q : Unit → Shared → Prop} (ho : s.heap.get? it = some o) (hc : o.cls = .type n) (hd : o.data = .fields vs)
    (hn : ["enumerate", "zip", "dict_itemiterator", "dict_reverseitemiterator", "odict_iterator", "itertools.zip_longest", "itertools.pairwise"].contains n = false) (hQ : Q () s) : wpAny M A (letOwnedTupleGo tg (.ref it) u) Q E s := by
  unfold letOwnedTupleGo
  cases tg <;> first
    | exact wpAny_pure hQ
    | (cases u <;> first
        | exact wpAny_pure hQ
        | (refine wpAny_bind (wpAny_load ho ?_)
           rw [hc, hd]
           show wpAny M A (if (["enumerate", "zip", "dict_itemiterator", "dict_reverseitemiterator", "odict_iterator", "itertools.zip_longest", "itertools.pairwise"].contains n && vs[0]? == some (rawInt _)) = true then _ else _) Q E s
           rw [if_neg (by intro h; rw [hn, Bool.false_and] at h; cases h)]
           exact wpAny_pure hQ))
def Itl (K : PySem.W.Frag) (a : Addr) : It :=
  ⟨fun i H => ∃ xs x, SqL K H a xs ∧ xs[i]? = some x, fun i H x H' => H' = H ∧ ∀ xs, SqL K H a xs → xs[i]? = some x, fun i H => ∃ xs, SqL K H a xs ∧ xs.length ≤ i⟩
def Itt (K : PySem.W.Frag) (a : Addr) : It :=
  ⟨fun i H => ∃ xs x, SqT K H a xs ∧ xs[i]? = some x, fun i H x H' => H' = H ∧ ∀ xs, SqT K H a xs → xs[i]? = some x, fun i H => ∃ xs, SqT K H a xs ∧ xs.length ≤ i⟩
def Itr (lo : Int) (n : Nat) : It := ⟨fun i _ => i < n, fun i H x H' => H' = H ∧ x = .int (lo + i), fun i _ => n ≤ i⟩
theorem turn_list {P : Program} {w : World} {K : PySem.W.Frag} {tg : Expr} (a it : Addr) : Turn P w K tg (Itl K a) [it] it (fun i h => h.IsListIter it a i) where
  mem := by simp
  obj := fun i h st b hb => by
    have e : b = it := by simpa using hb
    subst e
    obtain ⟨o, e, c, d⟩ := st
    exact ⟨o, e, fun v z => by rw [d] at z; cases z⟩
  keep := fun i h h' st k => st.at fun o e => k it (by simp) o e
  item := by
    intro X hP hw hK hc i pins s σ H E I hf st hg
    subst hP hw hK
    obtain ⟨xs, x, hq, hx⟩ := hg
    obtain ⟨its, rv, p, hz⟩ := I.list hq
    obtain ⟨u, hu, ru⟩ := rv.get hx
    obtain ⟨f0, f1, f2, f3, f4, f5⟩ := hf it (by simp)
    refine wpAny_pyNext_list_item st p.isList (x := u) (by simpa using hu) fun h' st' sb => ?_
    have I1 : Inv X pins σ H { s with heap := h' } := I.turned (t' := s.toks) (fun b o hb e => (sb.2 b hb).trans e) f0 f1 f3 f4 f5
    obtain ⟨o, e, c, d⟩ := id st'
    exact ⟨u, rfl, go_of (s := { s with heap := h' }) e c d (by decide) ⟨x, H, I1, ru, ⟨rfl, fun ys hy => by rw [I.list_inj hy hq]; exact hx⟩, st', fun b hb => (hf b hb).1⟩⟩
  done := by
    intro X hP hw hK hc i pins s σ H E I hf st hg
    subst hP hw hK
    obtain ⟨xs, hq, hx⟩ := hg
    obtain ⟨its, rv, p, hz⟩ := I.list hq
    obtain ⟨f0, f1, f2, f3, f4, f5⟩ := hf it (by simp)
    have hl := rv.length
    exact wpAny_pyNext_list_end (I.ok.hd hc) st p.isList (by simp; omega) fun h' eb => ⟨rfl, I.turned (t' := s.toks) (fun b o hb e => eb b o hb e) f0 f1 f3 f4 f5⟩
  self := fun _ _ _ _ _ st h => wpAny_pyIter_listiter st h
theorem turn_tuple {P : Program} {w : World} {K : PySem.W.Frag} {tg : Expr} (a it : Addr) : Turn P w K tg (Itt K a) [it] it (fun i h => h.IsTupleIter it a i) where
  mem := by simp
  obj := fun i h st b hb => by
    have e : b = it := by simpa using hb
    subst e
    obtain ⟨o, e, c, d⟩ := st
    exact ⟨o, e, fun v z => by rw [d] at z; cases z⟩
  keep := fun i h h' st k => st.at fun o e => k it (by simp) o e
  item := by
    intro X hP hw hK hc i pins s σ H E I hf st hg
    subst hP hw hK
    obtain ⟨xs, x, hq, hx⟩ := hg
    obtain ⟨its, rv, p, hz⟩ := I.tuple hq
    obtain ⟨u, hu, ru⟩ := rv.get hx
    obtain ⟨f0, f1, f2, f3, f4, f5⟩ := hf it (by simp)
    refine wpAny_pyNext_tuple_item st (show s.heap.IsTuple a its.toArray from p) (x := u) (by simpa using hu) fun h' st' sb => ?_
    have I1 : Inv X pins σ H { s with heap := h' } := I.turned (t' := s.toks) (fun b o hb e => (sb.2 b hb).trans e) f0 f1 f3 f4 f5
    obtain ⟨o, e, c, d⟩ := id st'
    exact ⟨u, rfl, go_of (s := { s with heap := h' }) e c d (by decide) ⟨x, H, I1, ru, ⟨rfl, fun ys hy => by rw [I.tuple_inj hy hq]; exact hx⟩, st', fun b hb => (hf b hb).1⟩⟩
  done := by
    intro X hP hw hK hc i pins s σ H E I hf st hg
    subst hP hw hK
    obtain ⟨xs, hq, hx⟩ := hg
    obtain ⟨its, rv, p, hz⟩ := I.tuple hq
    obtain ⟨f0, f1, f2, f3, f4, f5⟩ := hf it (by simp)
    have hl := rv.length
    exact wpAny_pyNext_tuple_end (I.ok.hd hc) st (show s.heap.IsTuple a its.toArray from p) (by simp; omega) fun h' eb => ⟨rfl, I.turned (t' := s.toks) (fun b o hb e => eb b o hb e) f0 f1 f3 f4 f5⟩
  self := fun _ _ _ _ _ st h => wpAny_pyIter_tupleiter st h
theorem turn_range {P : Program} {w : World} {K : PySem.W.Frag} {tg : Expr} (it : Addr) (lo : Int) (n : Nat) : Turn P w K tg (Itr lo n) [it] it (fun i h => IsRangeIter h it (lo + (i : Nat) * 1) ((n : Int) - (i : Nat)) 1) where
  mem := by simp
  obj := fun i h st b hb => by
    have e : b = it := by simpa using hb
    subst e
    exact ⟨_, st, fun v z => by
      have z' : Data.fields _ = Data.cell v := z
      cases z'⟩
  keep := fun i h h' st k => k it (by simp) _ st
  item := by
    intro X hP hw hK hc i pins s σ H E I hf st hg
    subst hP hw hK
    obtain ⟨f0, f1, f2, f3, f4, f5⟩ := hf it (by simp)
    have W := Walks.range (prog := X.prog) (w := X.w) (I.ok.hd hc) it lo 1 n
    refine W.item i s _ _ hg st fun v h' tk hv st' kk => ?_
    obtain ⟨t, rfl⟩ := hv
    have I1 : Inv X pins σ H { s with heap := h', toks := tk } := I.turned (fun b o hb e => kk b o (by simpa using hb) e) f0 f1 f3 f4 f5
    refine ⟨_, rfl, go_of (s := { s with heap := h', toks := tk }) (n := "range_iterator") st' rfl rfl (by decide) ⟨.int (lo + i), H, I1, ⟨t, ?_⟩, ⟨rfl, rfl⟩, st', fun b hb => (hf b hb).1⟩⟩
    rw [Int.mul_one]
  done := by
    intro X hP hw hK hc i pins s σ H E I hf st hg
    subst hP hw hK
    obtain ⟨f0, f1, f2, f3, f4, f5⟩ := hf it (by simp)
    exact wpAny_pyNext_range_end (I.ok.hd hc) st (by have : n ≤ i := hg; omega) fun h' eb => ⟨rfl, I.turned (t' := s.toks) (fun b o hb e => eb b o hb e) f0 f1 f3 f4 f5⟩
  self := fun _ _ _ _ _ st h => wpAny_pyIter_rangeiter st h
end L2
namespace L2
open PySem PySem.Spec PyProof.Rows
section
variable {X : Cx} {tg : Expr}
theorem range_it {pins : List (Addr × Obj)} {σ : St} {H : Hp} {s : Shared} {R : It → Hp → Prop} {E : Value → Shared → Prop} {lo hi : Int} {t u v : Tok} {tk : Nat} (I : Inv X pins σ H s) (h1 : -(2 ^ 62) ≤ lo) (h2 : lo < 2 ^ 62) (h3 : -(2 ^ 62) ≤ hi) (h4 : hi < 2 ^ 62)
    (q : R (Itr lo (hi - lo).toNat) H) : wpAny (model X.prog X.w) X.A (pyIter (.ref s.heap.objs.size)) (PIE X pins σ tg R) E { s with heap := s.heap.push { cls := .type "range", data := .fields #[.int lo t, .int hi u, .int 1 v] }, toks := tk } := by
  refine wpAny_pyIter_range (IsRange.new ..) (small_one h1 h2 h3 h4) ?_
  have I1 : Inv X pins σ H { s with heap := s.heap.push { cls := .type "range", data := .fields #[.int lo t, .int hi u, .int 1 v] }, toks := tk } := I.kept fun b o e => Heap.get?_push_of_some _ e
  refine ⟨(s.heap.push { cls := .type "range", data := .fields #[.int lo t, .int hi u, .int 1 v] }).objs.size, [(s.heap.push { cls := .type "range", data := .fields #[.int lo t, .int hi u, .int 1 v] }).objs.size], _, _, H, rfl,
    I1.kept (t' := tk) fun b o e => Heap.get?_push_of_some _ e, turn_range _ lo (hi - lo).toNat, ?_, fun b hb => ?_, q⟩
  · have e1 : lo + ((0 : Nat) : Int) * 1 = lo := by simp
    have e2 : (((hi - lo).toNat : Nat) : Int) - ((0 : Nat) : Int) = Builtin.Range.rangeSize lo hi 1 := by rw [rangeSize_one]; split <;> omega
    show IsRangeIter _ _ (lo + ((0 : Nat) : Int) * 1) ((((hi - lo).toNat : Nat) : Int) - ((0 : Nat) : Int)) 1
    rw [e1, e2]
    exact Heap.get?_push_size _ rfl
  · have e : b = (s.heap.push { cls := .type "range", data := .fields #[.int lo t, .int hi u, .int 1 v] }).objs.size := by simpa using hb
    subst e
    exact I1.fpOk (Nat.le_refl _) (I1.hok.fresh (Nat.le_refl _))
def tFor (wi : TI) (g : TG) (tb : TS) : TS := fun D σ H => wi σ H fun J H1 => ∃ W : Nat → Nat → St → Hp → Prop, (∃ m, W 0 m σ H1) ∧ ∀ i m σ H, W i m σ H →
  (J.stop i H ∧ D.nx σ H) ∨ (J.go i H ∧ ∃ N : St → Hp → Prop, (∀ σ' H', N σ' H' → ∃ m', m' < m ∧ W (i + 1) m' σ' H') ∧ ∀ x H', J.yld i H x H' → g x σ H' fun σ2 H2 => tb { D with nx := N, ct := N, bk := D.nx } σ2 H2)
def pinsAt (fp : List Addr) (h : Heap) : List (Addr × Obj) := fp.filterMap fun b => (h.get? b).map fun o => (b, o)
theorem mem_pinsAt {fp : List Addr} {h : Heap} {b : Addr} {o : Obj} (hb : b ∈ fp) (e : h.get? b = some o) : (b, o) ∈ pinsAt fp h := List.mem_filterMap.mpr ⟨b, hb, by rw [e]; rfl⟩
theorem of_pinsAt {fp : List Addr} {h : Heap} {p : Addr × Obj} (hp : p ∈ pinsAt fp h) : p.1 ∈ fp ∧ h.get? p.1 = some p.2 := by
  obtain ⟨b, hb, e⟩ := List.mem_filterMap.mp hp
  cases q : h.get? b with
  | none => rw [q] at e; cases e
  | some o =>
    rw [q] at e
    have e' : (b, o) = p := Option.some.inj e
    subst e'
    exact ⟨hb, q⟩
theorem Inv.pinned {pins : List (Addr × Obj)} {σ : St} {H : Hp} {s : Shared} {fp : List Addr} (I : Inv X pins σ H s) (hf : ∀ b ∈ fp, FpOk X pins H b) (ho : ∀ b ∈ fp, ∃ o, s.heap.get? b = some o ∧ ∀ v, o.data ≠ .cell v) : Inv X (pins ++ pinsAt fp s.heap) σ H s :=
  I.pins_of fun p hp => (List.mem_append.mp hp).elim (fun z => I.pin p (List.mem_append_right _ z)) fun z => by
    obtain ⟨hb, e⟩ := of_pinsAt z
    obtain ⟨f0, f1, f2, _⟩ := hf p.1 hb
    obtain ⟨o, e', d⟩ := ho p.1 hb
    rw [e] at e'; cases e'
    exact ⟨e, f0, f1, f2, d⟩
theorem Inv.unpinned {pins pl : List (Addr × Obj)} {σ : St} {H : Hp} {s : Shared} (I : Inv X (pins ++ pl) σ H s) : Inv X pins σ H s := I.pins_of fun p hp => I.pin p (List.mem_append_right _ (List.mem_append_left _ hp))
theorem ps_for {iter : Expr} {body : List Stmt} {wi : TI} {g : TG} {tb : TS} {pos : Pos} (hp : PassesOwn (model X.prog X.w) X.A X.env X.xe) (hc : X.calm = true) (hi : PI X tg iter wi) (hg : PG X tg g) (hb : PSs X body tb)
    (hs : ∀ x, foldedSetIterable iter X.env x = pure x := by intro _; rfl) : PS X (.For tg iter body [] pos) (tFor wi g tb) := by
  intro pins s σ H D I h
  refine wpAny_For (thn (hi pins s σ H _ I h) fun v s1 h1 => thn h1 fun itv s2 h2 => ?_) hs
  obtain ⟨it, fp, tn, J, H2, e, I2, T, st2, f2, W, ⟨m0, w0⟩, turn⟩ := h2
  subst e
  -- what stays true of the iterator's objects through the loop
  have stat : ∀ {H' : Hp}, (∀ b ∈ fp, H' b = none) → ∀ b ∈ fp, FpOk X pins H' b := fun hn b hb => ⟨hn b hb, (f2 b hb).2⟩
  refine codeAny_forLoop_any (fun n s' => ∃ i σ' H', Inv X pins σ' H' s' ∧ tn i s'.heap ∧ (∀ b ∈ fp, H' b = none) ∧ W i n σ' H') ?_ m0 ⟨0, σ, H2, I2, st2, fun b hb => (f2 b hb).1, w0⟩
  rintro n s3 ⟨i, σ3, H3, I3, st3, fr3, w3⟩
  rcases turn i n σ3 H3 w3 with ⟨stop, qn⟩ | ⟨go, N, hN, step⟩
  · refine wpAny_passesOwn hp (thn (T.done X rfl rfl rfl hc i pins s3 σ3 H3 X.xe I3 (stat fr3) st3 stop) fun r s4 ⟨hr, I4⟩ => ?_)
    subst hr
    exact wpAny_execs_nil ⟨σ3, H3, I4, qn⟩
  · refine wpAny_passesOwn hp (thn (T.item X rfl rfl rfl hc i pins s3 σ3 H3 X.xe I3 (stat fr3) st3 go) fun r s4 ⟨u, hr, h4⟩ => ?_)
    subst hr
    refine wpAny_passesOwn hp (thn h4 fun _ s5 ⟨x, H5, I5, r5, y5, st5, fr5⟩ => ?_)
    have I5' := I5.pinned (stat fr5) (T.obj _ _ st5)
    refine wpAny_passesOwn hp (thn (hg _ s5 σ3 H5 x u _ I5' r5 (step x H5 y5)) fun _ s6 ⟨σ6, H6, I6, q6⟩ => ?_)
    refine wpAny_passesOwn hp (thn (hb _ s6 σ6 H6 _ I6 q6) fun f s7 q7 => ?_)
    have again : ∀ {σ7 : St} {H7 : Hp}, Inv X (pins ++ pinsAt fp s5.heap) σ7 H7 s7 → N σ7 H7 → ∃ m, m < n ∧ ∃ i σ' H', Inv X pins σ' H' s7 ∧ tn i s7.heap ∧ (∀ b ∈ fp, H' b = none) ∧ W i m σ' H' := fun {σ7 H7} I7 n7 => by
      obtain ⟨m', hm, w7⟩ := hN σ7 H7 n7
      refine ⟨m', hm, i + 1, σ7, H7, I7.unpinned, T.keep _ _ _ st5 fun b hb o e => (I7.pin (b, o) (List.mem_append_right _ (List.mem_append_right _ (mem_pinsAt hb e)))).1, fun b hb => ?_, w7⟩
      obtain ⟨o, e, d⟩ := T.obj _ _ st5 b hb
      exact (I7.pin (b, o) (List.mem_append_right _ (List.mem_append_right _ (mem_pinsAt hb e)))).2.1
    cases f with
    | next => obtain ⟨σ7, H7, I7, n7⟩ := q7; exact again I7 n7
    | cont => obtain ⟨σ7, H7, I7, n7⟩ := q7; exact again I7 n7
    | brk => obtain ⟨σ7, H7, I7, q7⟩ := q7; exact ⟨σ7, H7, I7.unpinned, q7⟩
    | ret v => obtain ⟨x7, σ7, H7, I7, r7, q7⟩ := q7; exact ⟨x7, σ7, H7, I7.unpinned, r7, q7⟩
end
end L2
namespace L2
open PySem PySem.Spec PyProof.Rows
abbrev R2 := V → V → Hp → VK → Prop
def OpR (X : Cx) (f : Value → Value → Sem Value) (r : R2) : Prop :=
  ∀ (pins : List (Addr × Obj)) (s : Shared) (σ : St) (H : Hp) (x y : V) (v u : Value) (Q : VK), Inv X pins σ H s → RelV x v → RelV y u → r x y H Q →
    wpAny (model X.prog X.w) X.A (f v u) (EP X pins σ Q) X.xe s
def UnR (X : Cx) (f : Value → Sem Value) (r : V → Hp → VK → Prop) : Prop :=
  ∀ (pins : List (Addr × Obj)) (s : Shared) (σ : St) (H : Hp) (x : V) (v : Value) (Q : VK), Inv X pins σ H s → RelV x v → r x H Q →
    wpAny (model X.prog X.w) X.A (f v) (EP X pins σ Q) X.xe s
def CallR (X : Cx) (f : Value) (r : List V → Hp → VK → Prop) : Prop :=
  ∀ (pins : List (Addr × Obj)) (s : Shared) (σ : St) (H : Hp) (xs : List V) (us : List Value) (Q : VK), Inv X pins σ H s → Vals xs us → r xs H Q →
    wpAny (model X.prog X.w) X.A (call f us) (EP X pins σ Q) X.xe s
def TruR (X : Cx) (r : V → Hp → (Bool → Hp → Prop) → Prop) : Prop :=
  ∀ (pins : List (Addr × Obj)) (s : Shared) (σ : St) (H : Hp) (x : V) (v : Value) (Q : Bool → Hp → Prop), Inv X pins σ H s → RelV x v → r x H Q →
    wpAny (model X.prog X.w) X.A (truthy v) (TP X pins σ Q) X.xe s
def tOp (r : R2) (ta tb : TE) : TE := fun σ H Q => ta σ H fun x H1 => tb σ H1 fun y H2 => r x y H2 Q
def tUn (r : V → Hp → VK → Prop) (ta : TE) : TE := fun σ H Q => ta σ H fun x H1 => r x H1 Q
def rI (C : Int → Int → Prop) (g : Int → Int → V) : R2 := fun x y H Q => ∃ i j, x = .int i ∧ y = .int j ∧ C i j ∧ Q (g i j) H
def rI0 (g : Int → Int → V) : R2 := fun x y H Q => ∃ i j, x = .int i ∧ y = .int j ∧ Q (g i j) H
def rU (g : Int → V) : V → Hp → VK → Prop := fun x H Q => ∃ i, x = .int i ∧ Q (g i) H
section
variable {X : Cx} {a b c : Expr} {ta tb tc : TE} {pos : Pos}
theorem binT (ha : PE X a ta) (hb : PE X b tb) {pins : List (Addr × Obj)} {s : Shared} {σ : St} {H : Hp} {R : V → V → Hp → Prop} (I : Inv X pins σ H s)
    (h : ta σ H fun x H1 => tb σ H1 fun y H2 => R x y H2) {Q : Value → Shared → Prop} {f : Value → Value → Sem Value}
    (hf : ∀ v u s2 x y H2, Inv X pins σ H2 s2 → RelV x v → RelV y u → R x y H2 → wpAny (model X.prog X.w) X.A (f v u) Q X.xe s2) :
    wpAny (model X.prog X.w) X.A (eval a X.env) (fun v s₁ => wpAny (model X.prog X.w) X.A (eval b X.env) (fun u s₂ => wpAny (model X.prog X.w) X.A (f v u) Q X.xe s₂) X.xe s₁) X.xe s := by
  refine thn (ha pins s σ H _ I h) fun v s1 ⟨x, H1, I1, r1, q1⟩ => ?_
  refine thn (hb pins s1 σ H1 _ I1 q1) fun u s2 ⟨y, H2, I2, r2, q2⟩ => ?_
  exact hf v u s2 x y H2 I2 r1 r2 q2
theorem pe_op {op : Operator} {r : R2} (ho : OpR X (binaryOp op) r) (ha : PE X a ta) (hb : PE X b tb) : PE X (.BinOp a op b pos) (tOp r ta tb) := by
  intro pins s σ H Q I h
  exact wpAny_BinOp (binT ha hb I h fun v u s2 x y H2 I2 rx ry q => ho pins s2 σ H2 x y v u Q I2 rx ry q)
theorem pe_un {op : UnaryOp} {r : V → Hp → VK → Prop} (ho : UnR X (unaryOp op) r) (ha : PE X a ta) : PE X (.UnaryOp op a pos) (tUn r ta) := by
  intro pins s σ H Q I h
  exact UnaryOp_ (thn (ha pins s σ H _ I h) fun v s1 ⟨x, H1, I1, r1, q1⟩ => ho pins s1 σ H1 x v Q I1 r1 q1)
theorem opI {f : Value → Value → Sem Value} {C : Int → Int → Prop} {g : Int → Int → Int}
    (rule : ∀ (i j : Int) (t u : Tok) (s : Shared) (Q : Value → Shared → Prop) (E : Value → Shared → Prop), C i j → Q (.int (g i j) s.toks) { s with toks := s.toks + 1 } → wpAny (model X.prog X.w) X.A (f (.int i t) (.int j u)) Q E s) :
    OpR X f (rI C fun i j => .int (g i j)) := by
  intro pins s σ H x y v u Q I rx ry h
  obtain ⟨i, j, rfl, rfl, hc, q⟩ := h
  obtain ⟨t, rfl⟩ := rx
  obtain ⟨t', rfl⟩ := ry
  exact rule i j t t' s _ _ hc ⟨.int (g i j), H, I.tok _, ⟨_, rfl⟩, q⟩
theorem opI0 {f : Value → Value → Sem Value} {g : Int → Int → Int}
    (rule : ∀ (i j : Int) (t u : Tok) (s : Shared) (Q : Value → Shared → Prop) (E : Value → Shared → Prop), Q (.int (g i j) s.toks) { s with toks := s.toks + 1 } → wpAny (model X.prog X.w) X.A (f (.int i t) (.int j u)) Q E s) :
    OpR X f (rI0 fun i j => .int (g i j)) := by
  intro pins s σ H x y v u Q I rx ry h
  obtain ⟨i, j, rfl, rfl, q⟩ := h
  obtain ⟨t, rfl⟩ := rx
  obtain ⟨t', rfl⟩ := ry
  exact rule i j t t' s _ _ ⟨.int (g i j), H, I.tok _, ⟨_, rfl⟩, q⟩
theorem opB0 {f : Value → Value → Sem Value} {g : Int → Int → Bool}
    (rule : ∀ (i j : Int) (t u : Tok) (s : Shared) (Q : Value → Shared → Prop) (E : Value → Shared → Prop), Q (.bool (g i j)) s → wpAny (model X.prog X.w) X.A (f (.int i t) (.int j u)) Q E s) :
    OpR X f (rI0 fun i j => .bl (g i j)) := by
  intro pins s σ H x y v u Q I rx ry h
  obtain ⟨i, j, rfl, rfl, q⟩ := h
  obtain ⟨t, rfl⟩ := rx
  obtain ⟨t', rfl⟩ := ry
  exact rule i j t t' s _ _ ⟨.bl (g i j), H, I, rfl, q⟩
def CDiv (i j : Int) : Prop := 0 < j ∧ j < 1073741824
def CPow (i j : Int) : Prop := 0 ≤ j ∧ j ≤ 1000000 ∧ i.natAbs < 2 ^ 64
def CMul (i j : Int) : Prop := (-(2 ^ 64) < i ∧ i < 2 ^ 64) ∨ (-(2 ^ 64) < j ∧ j < 2 ^ 64)
theorem CMul.ok {i j : Int} (h : CMul i j) : IntMulOk i j := by
  rcases h with ⟨h1, h2⟩ | ⟨h1, h2⟩
  · exact .of_left (intBits_le_64 h1 h2)
  · exact .of_right (intBits_le_64 h1 h2)
theorem op_add : OpR X (binaryOp .Add) (rI0 fun i j => .int (i + j)) := opI0 fun _ _ _ _ _ _ _ q => add_int q
theorem op_sub : OpR X (binaryOp .Sub) (rI0 fun i j => .int (i - j)) := opI0 fun _ _ _ _ _ _ _ q => sub_int q
theorem op_mul : OpR X (binaryOp .Mult) (rI CMul fun i j => .int (i * j)) := opI fun _ _ _ _ _ _ _ hc q => mul_int q hc.ok
theorem op_fdiv : OpR X (binaryOp .FloorDiv) (rI CDiv fun i j => .int (i / j)) := opI fun i j _ _ _ _ _ hc q => by
  have h1 : (0 : Int) < j := hc.1
  have h2 : j < 1073741824 := hc.2
  exact floordiv_int (by omega) (by rw [Int.fdiv_eq_ediv_of_nonneg i (by omega)]; exact q) (.inl (PyProof.noPylong_small (by omega)))
theorem op_mod : OpR X (binaryOp .Mod) (rI (fun _ j => 0 < j) fun i j => .int (i % j)) := opI fun i j _ _ _ _ _ hc q => by
  have h1 : (0 : Int) < j := hc
  exact mod_int' (by omega) (by rw [Int.fmod_eq_emod_of_nonneg i (by omega)]; exact q)
theorem unI {f : Value → Sem Value} {g : Int → Int}
    (rule : ∀ (i : Int) (t : Tok) (s : Shared) (Q : Value → Shared → Prop) (E : Value → Shared → Prop), Q (.int (g i) s.toks) { s with toks := s.toks + 1 } → wpAny (model X.prog X.w) X.A (f (.int i t)) Q E s) :
    UnR X f (rU fun i => .int (g i)) := by
  intro pins s σ H x v Q I rx h
  obtain ⟨i, rfl, q⟩ := h
  obtain ⟨t, rfl⟩ := rx
  exact rule i t s _ _ ⟨.int (g i), H, I.tok _, ⟨_, rfl⟩, q⟩
theorem un_neg : UnR X (unaryOp .USub) (rU fun i => .int (-i)) := unI fun _ _ _ _ _ q => neg_int q
end
section
variable {X : Cx} {a b c : Expr} {ta tb tc : TE} {pos : Pos}
theorem op_lt : OpR X (compareOp .Lt) (rI0 fun i j => .bl (decide (i < j))) := opB0 fun _ _ _ _ _ _ _ q => lt_int q
theorem op_le : OpR X (compareOp .LtE) (rI0 fun i j => .bl (decide (i ≤ j))) := opB0 fun _ _ _ _ _ _ _ q => le_int q
theorem op_gt : OpR X (compareOp .Gt) (rI0 fun i j => .bl (decide (j < i))) := opB0 fun _ _ _ _ _ _ _ q => gt_int q
theorem op_ge : OpR X (compareOp .GtE) (rI0 fun i j => .bl (decide (j ≤ i))) := opB0 fun _ _ _ _ _ _ _ q => ge_int q
theorem OpR.or {f : Value → Value → Sem Value} {r r' : R2} (h : OpR X f r) (h' : OpR X f r') : OpR X f (fun x y H Q => r x y H Q ∨ r' x y H Q) := by
  intro pins s σ H x y v u Q I rx ry q
  rcases q with q | q
  · exact h pins s σ H x y v u Q I rx ry q
  · exact h' pins s σ H x y v u Q I rx ry q
theorem nomark (b : Expr) {op : CmpOp} (h : op ≠ .In := by decide) (h2 : op ≠ .NotIn := by decide) : behindInMarks op b = false := by
  have e1 : (op == CmpOp.In) = false := by cases op <;> first | rfl | exact absurd rfl h
  have e2 : (op == CmpOp.NotIn) = false := by cases op <;> first | rfl | exact absurd rfl h2
  cases b <;> simp [behindInMarks, e1, e2]
theorem pe_cmpR {op : CmpOp} {r : R2} (ho : OpR X (compareOp op) r) (ha : PE X a ta) (hb : PE X b tb) (hm : behindInMarks op b = false) : PE X (.Compare a [op] [b] pos) (tOp r ta tb) := by
  intro pins s σ H Q I h
  exact wpAny_Compare1 (binT ha hb I h fun v u s2 x y H2 I2 rx ry q => ho pins s2 σ H2 x y v u Q I2 rx ry q) hm
def TruV (K : PySem.W.Frag) (x : V) (H : Hp) (k : Bool) : Prop :=
  match x with
  | .non => k = false
  | .bl b => k = b
  | .int i => k = (i != 0)
  | .str y => y.length ≤ sizeLine ∧ k = ((y.length : Int) != 0)
  | .byt y => y.size ≤ sizeLine ∧ k = ((y.size : Int) != 0)
  | .ref p => (∃ xs, SqL K H p xs ∧ k = !xs.isEmpty) ∨ (∃ xs, SqT K H p xs ∧ k = !xs.isEmpty) ∨ ∃ kvs, H p = some (.dK kvs) ∧ k = !kvs.isEmpty
  | _ => False
theorem isEmpty_kv {κ : Type} {kvs : List (κ × V)} {vs : List (κ × Value)} (r : KV kvs vs) : (!vs.isEmpty) = !kvs.isEmpty := by
  cases r <;> rfl
theorem isEmpty_of {xs : List V} {its : List Value} (r : Vals xs its) : (!its.toArray.isEmpty) = !xs.isEmpty := by
  cases r <;> simp
theorem line63 : (sizeLine : Nat) < 2 ^ 63 := by rw [sizeLine_eq]; decide
theorem tru_ok : TruR X (fun x H Q => ∃ k, TruV X.K x H k ∧ Q k H) := by
  intro pins s σ H x v Q I rx h
  obtain ⟨k, e, q⟩ := h
  have hl := line63
  have hs : sizeLine = 16777216 := sizeLine_eq
  cases x with
  | non =>
    cases rx
    have e' : k = false := e
    subst e'
    exact truthy_none ⟨H, I, q⟩
  | bl b =>
    cases rx
    have e' : k = b := e
    subst e'
    exact wpAny_truthy_bool ⟨H, I, q⟩
  | int i =>
    obtain ⟨t, rfl⟩ := rx
    have e' : k = (i != 0) := e
    subst e'
    exact PySem.P.truthy_int ⟨H, I, q⟩
  | str y =>
    obtain ⟨t, rfl⟩ := rx
    obtain ⟨hy, e'⟩ : y.length ≤ sizeLine ∧ k = ((y.length : Int) != 0) := e
    subst e'
    exact PySem.P.truthy_str (by omega) ⟨H, I.tok _, q⟩
  | byt y =>
    obtain ⟨t, rfl⟩ := rx
    obtain ⟨hy, e'⟩ : y.size ≤ sizeLine ∧ k = ((y.size : Int) != 0) := e
    subst e'
    exact PySem.W.truthy_bytes (by omega) ⟨H, I.tok _, q⟩
  | ref p =>
    cases rx
    have e' : (∃ xs, SqL X.K H p xs ∧ k = !xs.isEmpty) ∨ (∃ xs, SqT X.K H p xs ∧ k = !xs.isEmpty) ∨ ∃ kvs, H p = some (.dK kvs) ∧ k = !kvs.isEmpty := e
    rcases e' with ⟨xs, hx, e'⟩ | ⟨xs, hx, e'⟩ | ⟨kvs, hx, e'⟩
    · subst e'
      obtain ⟨its, r, pl, hz⟩ := I.list hx
      have hlen := r.length
      exact wpAny_truthy_list pl.isList (by simp only [List.size_toArray]; omega) ⟨H, I.tok _, by rw [isEmpty_of r]; exact q⟩
    · subst e'
      obtain ⟨its, r, pl, hz⟩ := I.tuple hx
      have hlen := r.length
      exact truthy_tuple pl (by simp only [List.size_toArray]; omega) ⟨H, I.tok _, by rw [isEmpty_of r]; exact q⟩
    · subst e'
      obtain ⟨hz, hS, vs, r, m⟩ : kvs.length ≤ sizeLine ∧ (p == sysModules) = false ∧ ∃ vs, KV kvs vs ∧ s.heap.DictOf (mixKind X.prog X.w) p vs := I.hok p _ hx
      have hlen : kvs.length = vs.length := Paired.length r
      exact wpAny_truthy_dict hS m (by omega) ⟨H, I.tok _, by rw [isEmpty_kv r]; exact q⟩
  | _ => exact (show False from e).elim
theorem vals1 {x : V} {us : List Value} (r : Vals [x] us) : ∃ u, us = [u] ∧ RelV x u := by
  cases r with
  | cons r1 r2 => cases r2; exact ⟨_, rfl, r1⟩
theorem vals2 {x y : V} {us : List Value} (r : Vals [x, y] us) : ∃ u w', us = [u, w'] ∧ RelV x u ∧ RelV y w' := by
  cases r with
  | cons r1 r2 =>
    cases r2 with
    | cons r3 r4 => cases r4; exact ⟨_, _, rfl, r1, r3⟩
theorem call_max2 (hc : X.calm = true) : CallR X (.builtin "max") (fun xs H Q => ∃ i j, xs = [.int i, .int j] ∧ Q (.int (if j > i then j else i)) H) := by
  intro pins s σ H xs us Q I r h
  obtain ⟨i, j, rfl, q⟩ := h
  obtain ⟨u, w', rfl, ⟨t, rfl⟩, ⟨t', rfl⟩⟩ := vals2 r
  refine max_two_ints (I.ok.hd hc) fun h' tk k => ⟨_, H, I.kept k, ?_, q⟩
  by_cases hj : j > i
  · rw [if_pos hj, if_pos hj]; exact ⟨_, rfl⟩
  · rw [if_neg hj, if_neg hj]; exact ⟨_, rfl⟩
theorem call_min2 (hc : X.calm = true) : CallR X (.builtin "min") (fun xs H Q => ∃ i j, xs = [.int i, .int j] ∧ Q (.int (if j < i then j else i)) H) := by
  intro pins s σ H xs us Q I r h
  obtain ⟨i, j, rfl, q⟩ := h
  obtain ⟨u, w', rfl, ⟨t, rfl⟩, ⟨t', rfl⟩⟩ := vals2 r
  refine min_two_ints (I.ok.hd hc) fun h' tk k => ⟨_, H, I.kept k, ?_, q⟩
  by_cases hj : j < i
  · rw [if_pos hj, if_pos hj]; exact ⟨_, rfl⟩
  · rw [if_neg hj, if_neg hj]; exact ⟨_, rfl⟩
theorem call_int1 : CallR X (.type "int") (fun xs H Q => (∃ i, xs = [.int i] ∧ Q (.int i) H) ∨ ∃ k, xs = [.bl k] ∧ Q (.int (if k then 1 else 0)) H) := by
  intro pins s σ H xs us Q I r h
  rcases h with ⟨i, rfl, q⟩ | ⟨k, rfl, q⟩
  · obtain ⟨u, rfl, t, rfl⟩ := vals1 r
    exact call_int_int ⟨.int i, H, I, ⟨_, rfl⟩, q⟩
  · obtain ⟨u, rfl, r1⟩ := vals1 r
    cases r1
    exact call_int_bool ⟨.int (if k then 1 else 0), H, I.tok _, ⟨_, rfl⟩, q⟩
end
end L2
namespace L2
open PySem PySem.Spec PyProof.Rows
structure ObjM (h : Heap) (x dx C : Addr) (mA : Str → Option Value) : Prop where
  obj : h.get? x = some (PySem.W.instObj C dx)
  ns : h.Ns1 dx mA
  ne : dx ≠ x
theorem lookIn_ns {h : Heap} {dx : Addr} {mA : Str → Option Value} (n : h.Ns1 dx mA) : ∃ od, h.get? dx = some od ∧ ∀ name, PySem.W.lookIn name od = some (mA name) := by
  obtain ⟨o, es, ep, ho, hd, hk, _, hm⟩ := n
  refine ⟨o, ho, fun name => ?_⟩
  have e := hm name
  unfold nsFind findBy at e
  rw [← Array.find?_toList] at e
  unfold PySem.W.lookIn
  rw [hd]
  dsimp only
  split
  · rename_i y q
    rw [q] at e
    exact congrArg some e
  · rename_i q
    rw [q] at e
    have a : es.toList.any (·.refKey) = false := by
      rw [List.any_eq_false]
      intro y hy
      obtain ⟨z, t, hkey⟩ := hk y (Array.mem_toList_iff.mp hy)
      simp [DictEntry.refKey, hkey]
    have a' : ¬ es.toList.any (·.refKey) = true := by rw [a]; exact Bool.false_ne_true
    rw [if_neg a']
    exact congrArg some e
theorem ObjM.look {h : Heap} {x dx C : Addr} {mA : Str → Option Value} (I : ObjM h x dx C mA) : ∃ od, PySem.W.InstAt h x (PySem.W.instObj C dx) C (some od) ∧ ∀ name, PySem.W.lookIn name od = some (mA name) :=
  let ⟨od, ho, hl⟩ := lookIn_ns I.ns
  ⟨od, ⟨I.obj, rfl, rfl, ho⟩, hl⟩
theorem RelO.some_of {v : V} {o : Option Value} (r : RelO (some v) o) : ∃ u, o = some u ∧ RelV v u := by
  cases o with
  | none => exact (show False from r).elim
  | some u => exact ⟨u, rfl, r⟩
section
variable {P : Program} {w : World} {H H' : Hp} {h h' : Heap} {a C dx : Addr} {fs fs' : List (Str × V)}
theorem ins_get (hok : HOk P w H h) (e : H a = some (.ins C dx fs)) : ∃ mA, ObjM h a dx C mA ∧ (∀ f, RelO (fs.lookup f) (mA f)) ∧ PySem.Within mA (fs.map (·.1)) ∧ fs.length ≤ 1000 ∧ H dx = some (.own a) := by
  obtain ⟨d, z, ne, ob, mA, n, r, q⟩ := (show ObjOk P w H h a (.ins C dx fs) from hok a _ e)
  exact ⟨mA, ⟨ob, n, ne⟩, r, q, z, d⟩
end
structure Cls (K : PySem.W.Frag) (C : Addr) : Prop where
  pg : PySem.W.plainGet K C Str.empty = true
  hd : PySem.W.hasDictIn K C = true
  po : PySem.W.plainOver K C = true
  sa : PySem.W.findIn K (.ref C) "__setattr__" = some (some (.builtin "object.__setattr__"))
theorem Cls.get {K : PySem.W.Frag} {C : Addr} (c : Cls K C) (f : Str) : PySem.W.plainGet K C f = true := c.pg
section
variable {X : Cx} {pins : List (Addr × Obj)} {σ : St} {H : Hp} {s : Shared} {A : Around} {E : Value → Shared → Prop} {Q : Value → Shared → Prop} {c : Value} {b : Bool}
inductive TyOf (K : PySem.W.Frag) (H : Hp) : V → Value → Prop where
  | non : TyOf K H .non (.type "NoneType")
  | bl (x : Bool) : TyOf K H (.bl x) (.type "bool")
  | int (i : Int) : TyOf K H (.int i) (.type "int")
  | str (x : Str) : TyOf K H (.str x) (.type "str")
  | flt (x : UInt64) : TyOf K H (.flt x) (.type "float")
  | lst {a : Addr} {xs : List V} (e : H a = some (.lst xs)) : TyOf K H (.ref a) (.type "list")
  | frz {a : Addr} {o : Obj} {xs : List V} (e : H a = some (.frz o (.lst xs))) : TyOf K H (.ref a) (.type "list")
  | tup {a : Addr} {xs : List V} (e : H a = some (.tup xs)) : TyOf K H (.ref a) (.type "tuple")
  | dK {a : Addr} {kvs : List (Key × V)} (e : H a = some (.dK kvs)) : TyOf K H (.ref a) (.type "dict")
  | dT {a : Addr} {kvs : List (List Key × V)} (e : H a = some (.dT kvs)) : TyOf K H (.ref a) (.type "dict")
  | ins {a C dx : Addr} {fs : List (Str × V)} (e : H a = some (.ins C dx fs)) (cl : Cls K C) (ha : PySem.W.findIn K (.ref C) "__class__" = some (some (.builtin "object.__class__")))
      (hn : PySem.W.specialIn K (.builtin "object.__class__") "__get__" = some (some (.builtin "getset_descriptor.__get__"))) (htk : PySem.W.takesIn K (.builtin "object.__class__") = some true)
      (hm : PySem.W.mroIn K C (.type "object") = some true) : TyOf K H (.ref a) (.ref C)
theorem isinst_ok {x : V} {u t : Value} (I : Inv X pins σ H s) (rx : RelV x u) (ty : TyOf X.K H x t) (e : PySem.W.kitOne X.K t c = some b) (h : ∀ tk, Q (.bool b) { s with toks := tk }) :
    wpAny (model X.prog X.w) A (call (.builtin "isinstance") [u, c]) Q E s := by
  cases ty with
  | non => cases (show u = Value.none from rx); exact PySem.W.kia_one PySem.W.kitx_none I.kIn True.intro e (fun z => nomatch z) h
  | bl y => cases (show u = Value.bool y from rx); exact PySem.W.kia_one PySem.W.kitx_bool I.kIn True.intro e (fun z => nomatch z) h
  | int i => obtain ⟨t, q⟩ := (show ∃ t, u = Value.int i t from rx); cases q; exact PySem.W.kia_one PySem.W.kitx_int I.kIn True.intro e (fun z => nomatch z) h
  | str y => obtain ⟨t, q⟩ := (show ∃ t, u = Value.str y t from rx); cases q; exact PySem.W.kia_one PySem.W.kitx_str I.kIn True.intro e (fun z => nomatch z) h
  | flt y => obtain ⟨t, q⟩ := (show ∃ t, u = Value.float y t from rx); cases q; exact PySem.W.kia_one PySem.W.kitx_float I.kIn True.intro e (fun z => nomatch z) h
  | @lst a xs ea =>
    cases (show u = Value.ref a from rx)
    obtain ⟨_, _, n, _, h1⟩ := (show ObjOk X.prog X.w H s.heap a (.lst xs) from I.hok a _ ea)
    exact PySem.W.kia_one PySem.W.kitx_list I.kIn ⟨_, h1, rfl⟩ e (fun z => nomatch z) h
  | @frz a ob xs ea =>
    cases (show u = Value.ref a from rx)
    obtain ⟨_, _, _, n, _, h1⟩ := (show ObjOk X.prog X.w H s.heap a (.frz ob (.lst xs)) from I.hok a _ ea)
    exact PySem.W.kia_one PySem.W.kitx_list I.kIn ⟨_, h1, rfl⟩ e (fun z => nomatch z) h
  | @tup a xs ea =>
    cases (show u = Value.ref a from rx)
    obtain ⟨_, _, _, p⟩ := (show ObjOk X.prog X.w H s.heap a (.tup xs) from I.hok a _ ea)
    obtain ⟨o, h1, h2, _⟩ := p
    exact PySem.W.kia_one PySem.W.kitx_tuple I.kIn ⟨o, h1, h2⟩ e (fun z => nomatch z) h
  | @dK a kvs ea =>
    cases (show u = Value.ref a from rx)
    obtain ⟨_, _, vs, _, p⟩ := (show ObjOk X.prog X.w H s.heap a (.dK kvs) from I.hok a _ ea)
    obtain ⟨o, es, ep, h1, h2, _⟩ := p
    exact PySem.W.kia_one PySem.W.kitx_dict I.kIn ⟨o, h1, h2.1⟩ e (fun z => nomatch z) h
  | @dT a kvs ea =>
    cases (show u = Value.ref a from rx)
    obtain ⟨_, _, xs, _, o, es, ep, h1, h2, _⟩ := (show ObjOk X.prog X.w H s.heap a (.dT kvs) from I.hok a _ ea)
    exact PySem.W.kia_one PySem.W.kitx_dict I.kIn ⟨o, h1, h2.1⟩ e (fun z => nomatch z) h
  | @ins a C dx fs ea cl ha hn htk hm =>
    cases (show u = Value.ref a from rx)
    obtain ⟨mA, O, _⟩ := ins_get I.hok ea
    obtain ⟨od, J, _⟩ := O.look
    exact PySem.W.kia_one (PySem.W.kitx_own (cl.get _) cl.hd ha hn htk hm) I.kIn J e (fun z => nomatch z) h
end
end L2
namespace L2
open PySem PySem.Spec PyProof.Rows
structure Room (k : Nat) (A : Around) : Prop where
  hd : A.handled = none
  dp : A.depth + 3 * k + 5 < recursionLimit
  un : A.units + 16 * k + 200 < cLine
theorem Room.mono {j k : Nat} {A : Around} (r : Room k A) (h : j ≤ k) : Room j A := ⟨r.hd, by have := r.dp; omega, by have := r.un; omega⟩
theorem Room.deeper {k : Nat} {A : Around} (r : Room (k + 1) A) (env : Env) : Room k (A.deeper env) :=
  ⟨r.hd, by have := r.dp; show A.depth + 1 + 3 * k + 5 < _; omega, by have := r.un; show A.units + 3 + 16 * k + 200 < _; omega⟩
theorem Room.depth {k : Nat} {A : Around} (r : Room k A) : A.depth < recursionLimit := by have := r.dp; omega
theorem Room.units {k : Nat} {A : Around} (r : Room k A) : A.units + 64 < cLine := by have := r.un; omega
def tNil : TA := fun _ H Q => Q [] H
def tCons (ta : TE) (tr : TA) : TA := fun σ H Q => ta σ H fun x H1 => tr σ H1 fun xs H2 => Q (x :: xs) H2
section
variable {X : Cx} {e : Expr} {es : List Expr} {te : TE} {t : TA} {pos : Pos}
theorem pa_nil : PA X [] tNil := fun _ _ _ _ H Q I h => Calls.spliced_nil ⟨[], H, I, .nil, h⟩
theorem pa_cons (ha : PE X e te) (hr : PA X es t) (hs : starEach (e :: es) X.env = (false, eval e X.env) :: starEach es X.env := by rfl) : PA X (e :: es) (tCons te t) := by
  intro pos pins s σ H Q I h
  rw [hs]
  show wpAny _ _ (spliced ((false, eval e X.env) :: backTo pos (starEach es X.env))) _ _ s
  refine Calls.spliced_cons (thn (ha pins s σ H _ I h) fun u s1 ⟨x, H1, I1, r1, q1⟩ => ?_)
  exact thn (hr pos pins s1 σ H1 _ I1 q1) fun us s2 ⟨xs, H2, I2, r2, q2⟩ => ⟨x :: xs, H2, I2, .cons r1 r2, q2⟩
def tTup (t : TA) : TE := fun σ H Q => t σ H fun xs H1 => xs.length ≤ sizeLine ∧ ∀ p, H1 p = none → Q (.ref p) (upd H1 p (.tup xs))
def tLst (t : TA) : TE := fun σ H Q => t σ H fun xs H1 => xs.length ≤ sizeLine ∧ ∀ p, H1 p = none → Q (.ref p) (upd H1 p (.lst xs))
theorem pe_tup {x1} (h : PA X es t) : PE X (.Tuple es x1 pos) (tTup t) := by
  intro pins s σ H Q I hq
  refine wpAny_Tuple_spliced (thn (h pos pins s σ H _ I hq) fun us s1 ⟨xs, H1, I1, r, z, q⟩ => ⟨by rw [← r.length]; exact z, ?_⟩)
  have hf : H1 s1.heap.objs.size = none := I1.hok.fresh (Nat.le_refl _)
  refine ⟨.ref s1.heap.objs.size, upd H1 s1.heap.objs.size (.tup xs), I1.laid (t' := s1.toks) (fun b u e => Heap.get?_push_of_some _ e) (Nat.le_refl _) ?_, rfl, q _ hf⟩
  exact ⟨z, us, r, .mk' (Heap.get?_push_size _ rfl)⟩
theorem pe_lst (h : PA X es t) : PE X (.List es pos) (tLst t) := by
  intro pins s σ H Q I hq
  refine wpAny_List_spliced (thn (h pos pins s σ H _ I hq) fun us s1 ⟨xs, H1, I1, r, z, q⟩ => ⟨by rw [← r.length]; exact z, ?_⟩)
  have hf : H1 s1.heap.objs.size = none := I1.hok.fresh (Nat.le_refl _)
  refine ⟨.ref s1.heap.objs.size, upd H1 s1.heap.objs.size (.lst xs), I1.laid (t' := s1.toks) (fun b u e => Heap.get?_push_of_some _ e) (Nat.le_refl _) ?_, rfl, q _ hf⟩
  exact ⟨z, us, 0, r, Heap.get?_push_size _ rfl⟩
end
abbrev Sp := List V → Hp → VK → XK → Prop
abbrev CXT := List Env → Hp → Shared → XK → Value → Shared → Prop
structure Env0 (P : Program) (w : World) (K : PySem.W.Frag) (mg : Str → Option Value) (base : Heap) (A : Around) (outer : List Env) (s : Shared) (H : Hp) : Prop where
  frames : A.frames = some outer
  mod : Mod K mg base
  bs : ∀ b o, base.get? b = some o → s.heap.get? b = some o ∧ H b = none
  bsz : base.objs.size ≤ s.heap.objs.size
  funs : s.heap.FunFrames base outer
  frf : ∀ b ∈ frs outer, H b = none
  hok : HOk P w H s.heap
  bare : AllBare s.gens
def CE (outer : List Env) (P : Program) (w : World) (H : Hp) (s : Shared) (Q : VK) (u : Value) (s' : Shared) : Prop :=
  ∃ v H', s'.os = s.os ∧ AllBare s'.gens ∧ Un (frs outer) [] H H' s.heap s'.heap ∧ HOk P w H' s'.heap ∧ RelV v u ∧ Q v H'
def CR (CX : CXT) (outer : List Env) (P : Program) (w : World) (H : Hp) (s : Shared) (Q : VK) (E : XK) (r : Result) (s' : Shared) : Prop :=
  match r with
  | .ok (.ret u) => CE outer P w H s Q u s'
  | .ok _ => False
  | .error e => CX outer H s E e s'
structure FnOk (P : Program) (w : World) (K : PySem.W.Frag) (mg : Str → Option Value) (base : Heap) (CX : CXT) (k : Nat) (f : Addr) (fd : FuncData) (ps : List Str) (sp : Sp) : Prop where
  len : ∀ vs H Q E, sp vs H Q E → vs.length = ps.length
  run : ∀ (A : Around) (outer : List Env) (s : Shared) (H : Hp) (args : Args) (us : List Value) (vs : List V) (Q : VK) (E : XK), Room k A → Env0 P w K mg base A outer s H → BindsTo s fd args (ps.zip us) → Vals vs us → sp vs H Q E →
    codeAny (model P w) A (.call (.ref f) args) (CR CX outer P w H s Q E) s
theorem FnOk.imp {P : Program} {w : World} {K : PySem.W.Frag} {mg : Str → Option Value} {base : Heap} {CX : CXT} {k : Nat} {f : Addr} {fd : FuncData} {ps : List Str} {sp sp' : Sp} (F : FnOk P w K mg base CX k f fd ps sp)
    (h : ∀ vs H Q E, sp' vs H Q E → sp vs H Q E) : FnOk P w K mg base CX k f fd ps sp' :=
  ⟨fun vs H Q E q => F.len vs H Q E (h _ _ _ _ q), fun A outer s H args us vs Q E hr he hb hv hs => F.run A outer s H args us vs Q E hr he hb hv (h _ _ _ _ hs)⟩
section
variable {X : Cx} {pins : List (Addr × Obj)} {σ : St} {H : Hp} {s s' : Shared}
theorem Inv.env0 (I : Inv X pins σ H s) : Env0 X.prog X.w X.K X.mg X.base X.A X.stack s H :=
  ⟨I.ok.frames, I.ok.mod, I.bs, Nat.le_trans I.ok.bsz I.sz, I.stack, I.stkFree, I.hok, I.bare⟩
theorem Inv.after {Q : VK} {u : Value} (I : Inv X pins σ H s) (h : CE X.stack X.prog X.w H s Q u s') : EP X pins σ Q u s' := by
  obtain ⟨v, H', os, bare, un, hok, r, q⟩ := h
  obtain ⟨hh, g, d, t, os'⟩ := s'
  obtain rfl : os' = s.os := os
  exact ⟨v, H', I.call (h' := hh) (g' := g) (d' := d) (t' := t) (ch := []) un hok bare (fun b z => absurd z (by simp)), r, q⟩
end
def tCall (sp : Sp) (dvs : List V) (E : XK) (t : TA) : TE := fun σ H Q => t σ H fun vs H1 => sp (vs ++ dvs) H1 Q E
def Binds (K : PySem.W.Frag) (fd : FuncData) (ps : List Str) (ds : List Value) : Prop :=
  ∀ (s : Shared) (us : List Value), K.In s.heap → (us ++ ds).length = ps.length → BindsTo s fd ⟨us, []⟩ (ps.zip (us ++ ds))
theorem Binds.all {K : PySem.W.Frag} {fd : FuncData} {ps : List Str} (h : ∀ us : List Value, us.length = ps.length → bindArgs fd ⟨us, []⟩ = pure (ps.zip us)) : Binds K fd ps [] := fun s us _ hl => by
  rw [List.append_nil] at hl ⊢
  exact .of_eq (h us hl)
def Passes (CX : CXT) (X : Cx) (E : XK) : Prop := ∀ (pins : List (Addr × Obj)) (σ : St) (H : Hp) (s : Shared) (e : Value) (s' : Shared), Inv X pins σ H s → CX X.stack H s E e s' → X.xe e s'
section
variable {X : Cx} {CX : CXT} {k : Nat} {f C : Addr} {fd : FuncData} {ps : List Str} {sp : Sp} {dvs : List V} {ds : List Value} {E : XK} {x m : Str} {p pos apos : Pos} {e o : Expr} {es : List Expr} {ta : TE} {t : TA}
theorem run_fn {pins : List (Addr × Obj)} {σ : St} {H : Hp} {s : Shared} {Q : VK} {us : List Value} {vs : List V} (F : FnOk X.prog X.w X.K X.mg X.base CX k f fd ps sp) (hr : Room k X.A) (hb : Binds X.K fd ps ds) (hd : Vals dvs ds) (hx : Passes CX X E)
    (I : Inv X pins σ H s) (r : Vals vs us) (h : sp (vs ++ dvs) H Q E) : wpAny (model X.prog X.w) X.A (call (.ref f) us) (EP X pins σ Q) X.xe s := by
  have r2 : Vals (vs ++ dvs) (us ++ ds) := r.append hd
  have hl : (us ++ ds).length = ps.length := by rw [← r2.length]; exact F.len _ _ _ _ h
  refine wpAny_call (codeAny_mono (F.run X.A X.stack s H ⟨us, []⟩ (us ++ ds) (vs ++ dvs) Q E hr I.env0 (hb s us I.kIn hl) r2 h) fun r s' hq => ?_)
  cases r with
  | error e => exact hx pins σ H s e s' I hq
  | ok fl =>
    cases fl with
    | ret u => exact I.after hq
    | next => exact False.elim hq
    | brk => exact False.elim hq
    | cont => exact False.elim hq
theorem pe_call (F : FnOk X.prog X.w X.K X.mg X.base CX k f fd ps sp) (hr : Room k X.A) (hg : Gl X x) (hm : X.mg x = some (.ref f)) (hk : PySem.W.keepIn X.K (.ref f) = true) (hb : Binds X.K fd ps ds) (hd : Vals dvs ds) (hx : Passes CX X E)
    (ha : PA X (e :: es) t) (hdb : (x == ("__debug__" : Str)) = false := by decide) (he : starEach (e :: es) X.env = (false, eval e X.env) :: starEach es X.env := by rfl) (hpl : (backTo pos (starEach es X.env)).any (·.1) = false := by rfl) :
    PE X (.Call (.Name x p) (e :: es) [] pos) (tCall sp dvs E t) := by
  intro pins s σ H Q I h
  refine wpAny_Call_Name_kw (ld_glob I hg hm ?_ hdb)
  refine PySem.W.callWith_K (h₀ := X.base) I.ok.mod.kin hk (thn (ha pos pins s σ H _ I h) fun us s1 ⟨vs, H1, I1, r, q⟩ => ⟨I1.kIn, ?_⟩) he hpl
  exact run_fn F hr hb hd hx I1 r q
end
structure FnScope (N P : List Str) (sc : Scope) : Prop where
  kind : sc.kind = .function
  co : sc.isCoroutine = false
  gen : sc.isGenerator = false
  nd : N.Nodup
  pre : N.take P.length = P
  par : ∀ x ∈ P, sc.names.lookup x = some .local ∨ sc.names.lookup x = some .cell
  nofree : ∀ y ∈ sc.names, y.2 ≠ .free
theorem bindL_out {kindOf : Str → Option NameKind} {x : Str} : ∀ {binds : List (Str × Value)} {m : Str → Option Value}, (∀ v, (x, v) ∉ binds) → bindL kindOf binds m x = m x
  | [], _, _ => rfl
  | (n, v) :: r, m, h => by
    unfold bindL
    rw [bindL_out fun w hw => h w (List.mem_cons_of_mem _ hw)]
    split
    · have : x ≠ n := by rintro rfl; exact h v List.mem_cons_self
      simp [this]
    · rfl
theorem bindC_out {kindOf : Str → Option NameKind} {x : Str} : ∀ {binds : List (Str × Value)} {m : Str → Option Value}, (∀ v, (x, v) ∉ binds) → bindC kindOf binds m x = m x
  | [], _, _ => rfl
  | (n, v) :: r, m, h => by
    unfold bindC
    rw [bindC_out fun w hw => h w (List.mem_cons_of_mem _ hw)]
    split
    · rfl
    · have : x ≠ n := by rintro rfl; exact h v List.mem_cons_self
      simp [this]
theorem bindL_get {kindOf : Str → Option NameKind} {x : Str} {v : Value} : ∀ {P : List Str} {vs : List Value} {i : Nat} {m : Str → Option Value}, P.Nodup → P[i]? = some x → vs[i]? = some v → kindOf x = some .local →
    bindL kindOf (P.zip vs) m x = some v
  | [], _, _, _, _, h, _, _ => by simp at h
  | _ :: _, [], _, _, _, _, h, _ => by simp at h
  | p :: P, w :: vs, 0, m, nd, h1, h2, hk => by
    simp at h1 h2; subst h1; subst h2
    show bindL kindOf ((p, w) :: P.zip vs) m p = _
    unfold bindL
    rw [bindL_out fun v hv => (List.nodup_cons.mp nd).1 (List.of_mem_zip hv).1, if_pos hk]
    simp
  | p :: P, w :: vs, i + 1, m, nd, h1, h2, hk => by
    show bindL kindOf ((p, w) :: P.zip vs) m x = _
    unfold bindL
    exact bindL_get (i := i) (List.nodup_cons.mp nd).2 (by simpa using h1) (by simpa using h2) hk
theorem bindC_get {kindOf : Str → Option NameKind} {x : Str} {v : Value} : ∀ {P : List Str} {vs : List Value} {i : Nat} {m : Str → Option Value}, P.Nodup → P[i]? = some x → vs[i]? = some v → kindOf x ≠ some .local →
    bindC kindOf (P.zip vs) m x = some v
  | [], _, _, _, _, h, _, _ => by simp at h
  | _ :: _, [], _, _, _, _, h, _ => by simp at h
  | p :: P, w :: vs, 0, m, nd, h1, h2, hk => by
    simp at h1 h2; subst h1; subst h2
    show bindC kindOf ((p, w) :: P.zip vs) m p = _
    unfold bindC
    rw [bindC_out fun v hv => (List.nodup_cons.mp nd).1 (List.of_mem_zip hv).1, if_neg hk]
    simp
  | p :: P, w :: vs, i + 1, m, nd, h1, h2, hk => by
    show bindC kindOf ((p, w) :: P.zip vs) m x = _
    unfold bindC
    exact bindC_get (i := i) (List.nodup_cons.mp nd).2 (by simpa using h1) (by simpa using h2) hk
def start (N : List Str) (vs : List V) : St := vs.map some ++ List.replicate (N.length - vs.length) none
def cxOf (CX : CXT) (P : Program) (w : World) (K : PySem.W.Frag) (mg : Str → Option Value) (base : Heap) (N : List Str) (qual : Str) (scope : Scope) (f : Addr) (cd : Value) (A : Around) (outer : List Env) (s : Shared) (H : Hp) (E : XK) : Cx where
  prog := P
  w := w
  K := K
  mg := mg
  base := base
  A := A.deeper (envOfC qual scope s.heap.objs.size f cd)
  N := N
  s₀ := s
  H₀ := H
  env := envOfC qual scope s.heap.objs.size f cd
  outer := outer
  stack := envOfC qual scope s.heap.objs.size f cd :: outer
  ex := []
  calm := true
  fn := fun _ => true
  pn := []
  xe := fun e s' => wpAny (model P w) (A.deeper (envOfC qual scope s.heap.objs.size f cd)) (leaving (envOfC qual scope s.heap.objs.size f cd) e) (fun _ s'' => CX outer H s E e s'') (fun e' s'' => CX outer H s E e' s'') s'
theorem cell_has {sc : Scope} {n : Nat} {x : Str} (h : sc.names.lookup x = some .cell) : ∃ c, (cellsFrom n sc.names []).lookup x = some c := by
  have q := PySem.W.cellsFrom_some sc.names n [] (.inl h)
  exact Option.isSome_iff_exists.mp q
theorem inv_start {CX : CXT} {P : Program} {w : World} {K : PySem.W.Frag} {mg : Str → Option Value} {base : Heap} {N ps : List Str} {qual : Str} {scope : Scope} {f : Addr} {cd : Value} {A : Around} {outer : List Env} {s s1 : Shared} {H : Hp} {E : XK} {us : List Value} {vs : List V}
    (S : FnScope N ps scope) (hd : A.handled = none) (e0 : Env0 P w K mg base A outer s H) (hl : vs.length = ps.length) (r : Vals vs us)
    (x : InCallC s s.heap.objs.size (bindL (envOfC qual scope s.heap.objs.size f cd).kindOf (ps.zip us) fun _ => none) (cellsFrom (s.heap.objs.size + 1) scope.names []) (bindC (envOfC qual scope s.heap.objs.size f cd).kindOf (ps.zip us) fun _ => none) s1) :
    Inv (cxOf CX P w K mg base N qual scope f cd A outer s H E) [] (start N vs) H s1 := by
  have hpl : ps.length ≤ N.length := by have := congrArg List.length S.pre; rw [List.length_take] at this; omega
  obtain ⟨h1, tk, rfl, hk⟩ := x.done
  have noA : ∀ b : Addr, b ∉ (cxOf CX P w K mg base N qual scope f cd A outer s H E).ex := fun b z => absurd (show b ∈ ([] : List Addr) from z) (by simp)
  refine ⟨⟨e0.mod, S.kind, rfl, rfl, Nat.le_refl _, fun y z c h1 h2 => ?_, fun y hy => ?_, fun y c _ h => ?_, fun _ => hd, Around.frames_deeper e0.frames, .inr ⟨rfl, rfl⟩, fun b z => absurd z (noA b), e0.bs, e0.bsz, fun b _ _ => noA b, fun b z => absurd z (noA b), e0.funs, e0.frf⟩,
    rfl, e0.bare, Un.kept hk, ⟨_, x.toInCall.ns, fun i y v h1 h2 h3 => ?_⟩, fun y c h => ⟨_, x.cell y c h⟩, e0.hok.fresh (Nat.le_refl _), fun y c h => ?_, fun p hp => absurd (show p ∈ ([] : List (Addr × Obj)) from hp) (by simp), e0.hok.kept hk, ?_⟩
  · exact name_of_addr x.apart (PySem.mem_of_lookup h1) (PySem.mem_of_lookup h2)
  · have hy : scope.names.lookup y = some .cell ∨ scope.names.lookup y = some .free := hy
    rcases hy with hy | hy
    · exact cell_has hy
    · exact absurd rfl (S.nofree _ (PySem.mem_of_lookup hy))
  · exact Nat.le_of_lt (x.above y c (PySem.mem_of_lookup h))
  · have hi : i < vs.length := by
      unfold start at h2
      by_cases hi : i < vs.length
      · exact hi
      · rw [List.getElem?_append_right (by simpa using hi)] at h2
        rw [List.getElem?_replicate] at h2
        split at h2 <;> cases h2
    have ha : vs[i]? = some v := by
      unfold start at h2
      rw [List.getElem?_append_left (by simpa using hi), List.getElem?_map] at h2
      cases e : vs[i]? with
      | none => rw [e] at h2; cases h2
      | some a => rw [e] at h2; cases h2; rfl
    obtain ⟨u, hu, rv⟩ := r.get ha
    have hp : ps[i]? = some y := by
      rw [← S.pre, List.getElem?_take_of_lt (by omega)]; exact h1
    have ndP : ps.Nodup := by rw [← S.pre]; exact S.nd.sublist (List.take_sublist _ _)
    refine ⟨u, rv, ?_⟩
    rcases S.par y (List.mem_of_getElem? hp) with k | k
    · exact .inl ⟨k, bindL_get ndP hp hu k⟩
    · obtain ⟨c, e⟩ := cell_has (n := s.heap.objs.size + 1) k
      refine .inr ⟨.inl k, c, e, ?_⟩
      have q := x.cell y c e
      rw [bindC_get ndP hp hu (by show scope.names.lookup y ≠ _; rw [k]; decide)] at q
      exact q
  · exact e0.hok.fresh (Nat.le_of_lt (x.above y c (PySem.mem_of_lookup h)))
  · unfold start
    show _ = N.length
    rw [List.length_append, List.length_map, List.length_replicate]
    omega
theorem fn_of {CX : CXT} {P : Program} {w : World} {K : PySem.W.Frag} {mg : Str → Option Value} {base : Heap} {k : Nat} {f : Addr} {name qual : Str} {params : Arguments} {body : List Stmt} {scope : Scope} {dV kV doc pm cdv ct oc : Value} {an od : Option Addr}
    {osl : Array (Option Value)} {N ps : List Str} {sp : Sp} (lk : K.lookup f = some ⟨oc, od, .func (PySem.W.fnOf name qual params body scope dV kV doc pm an cdv ct), osl⟩) (hcd : PySem.W.codeIn K cdv qual = true) (S : FnScope N ps scope)
    (len : ∀ vs H Q E, sp vs H Q E → vs.length = ps.length)
    (hbody : ∀ (A : Around) (outer : List Env) (s : Shared) (H : Hp) (vs : List V) (Q : VK) (E : XK), Room k (A.deeper (envOfC qual scope s.heap.objs.size f cdv)) → sp vs H Q E →
      ∃ t, PSs (cxOf CX P w K mg base N qual scope f cdv A outer s H E) body t ∧ t { nx := fun _ H' => Q .non H', rt := Q } (start N vs) H) :
    FnOk P w K mg base CX (k + 1) f (PySem.W.fnOf name qual params body scope dV kV doc pm an cdv ct) ps sp := by
  refine ⟨len, fun A outer s H args us vs Q E hr e0 hb r hsp => ?_⟩
  have hl := len _ _ _ _ hsp
  have KX : K.In s.heap := e0.mod.kin.keeps fun b o e => (e0.bs b o e).1
  have lim : s.heap.NoLimit := e0.mod.nolimit.keeps fun b o e => (e0.bs b o e).1
  have hkind : ∀ y ∈ ps.zip us, scope.names.lookup y.1 = some .local ∨ (scope.names.lookup y.1 = some .cell ∧ ((cellsFrom (s.heap.objs.size + 1) scope.names []).lookup y.1).isSome = true) := fun ⟨n, v⟩ hy => by
    rcases S.par n (List.of_mem_zip hy).1 with q | q
    · exact .inl q
    · exact .inr ⟨q, PySem.W.cellsFrom_some _ _ _ (.inl q)⟩
  refine codeAny_call_function hr.depth (KX _ _ lk) rfl S.co S.gen rfl (PySem.W.codeRec_of KX hcd) (hb _ _ _ _ ?_)
  refine wpAny_newFunctionEnv_cells S.kind hkind fun env he s1 x => ?_
  subst he
  refine ⟨lim.keeps x.toInCall.keep, codeAny_func ?_⟩
  obtain ⟨t, ht, hq⟩ := hbody A outer s H vs Q E (hr.deeper _) hsp
  have I : Inv (cxOf CX P w K mg base N qual scope f cdv A outer s H E) [] (start N vs) H s1 := inv_start S hr.hd e0 hl r x
  refine wpAny_mono (ht [] s1 (start N vs) H _ I hq) (fun fl s' hs => ?_) fun e s' hs => hs
  have fin : ∀ {σ' : St} {H' : Hp} {v : V} {u : Value}, Inv (cxOf CX P w K mg base N qual scope f cdv A outer s H E) [] σ' H' s' → RelV v u → Q v H' → CE outer P w H s Q u s' :=
    fun {σ' H' v u} J rv q => ⟨v, H', J.os, J.bare, J.base, J.hok, rv, q⟩
  cases fl with
  | ret u =>
    obtain ⟨v, σ', H', J, rv, q⟩ := hs
    exact fin J rv q
  | next =>
    obtain ⟨σ', H', J, q⟩ := hs
    exact fin (v := V.non) (u := Value.none) J rfl q
  | brk =>
    obtain ⟨_, _, _, q⟩ := hs
    exact False.elim q
  | cont =>
    obtain ⟨_, _, _, q⟩ := hs
    exact False.elim q
end L2
namespace L2
open PySem PySem.Spec PyProof.Rows
section
variable {X : Cx} {x : Str} {p pos : Pos} {e : Expr} {es : List Expr} {t : TA} {id T : String} {r : List V → Hp → VK → Prop}
def tCB (r : List V → Hp → VK → Prop) (t : TA) : TE := fun σ H Q => t σ H fun vs H1 => r vs H1 Q
theorem pe_callB (hc : CallR X (.builtin id) r) (hg : Gl X x) (hm : X.mg x = none) (hv : bootBuiltins x = some (.builtin id)) (ha : PA X (e :: es) t) (hn : x ≠ "__name__" := by decide) (hdb : (x == ("__debug__" : Str)) = false := by decide)
    (he : starEach (e :: es) X.env = (false, eval e X.env) :: starEach es X.env := by rfl) (hpl : (backTo pos (starEach es X.env)).any (·.1) = false := by rfl) : PE X (.Call (.Name x p) (e :: es) [] pos) (tCB r t) := by
  intro pins s σ H Q I h
  refine wpAny_Call_Name_kw (ld_blt I hg hm hv ?_ hn hdb)
  exact PyProof.Rows.callWith_builtin1 (thn (ha pos pins s σ H _ I h) fun us s1 ⟨vs, H1, I1, r1, q1⟩ => hc pins s1 σ H1 vs us Q I1 r1 q1) he hpl
theorem pe_callTy (hc : CallR X (.type T) r) (hg : Gl X x) (hm : X.mg x = none) (hv : bootBuiltins x = some (.type T)) (ha : PA X (e :: es) t) (hn : x ≠ "__name__" := by decide) (hdb : (x == ("__debug__" : Str)) = false := by decide)
    (he : starEach (e :: es) X.env = (false, eval e X.env) :: starEach es X.env := by rfl) (hpl : (backTo pos (starEach es X.env)).any (·.1) = false := by rfl) : PE X (.Call (.Name x p) (e :: es) [] pos) (tCB r t) := by
  intro pins s σ H Q I h
  refine wpAny_Call_Name_kw (ld_blt I hg hm hv ?_ hn hdb)
  exact PyProof.Rows.callWith_type1 (thn (ha pos pins s σ H _ I h) fun us s1 ⟨vs, H1, I1, r1, q1⟩ => hc pins s1 σ H1 vs us Q I1 r1 q1) he hpl
end
end L2
namespace HT
open PySem PyProof.Rows
theorem rcLt_int (A : Around) (s : Shared) (a : Int) (t : Tok) (c : Int) (u : Tok) (prog : Program) (w : World) (E : Value → Shared → Prop) (Q : Value → Shared → Prop) (h : Q (.bool (decide (a < c))) s) :
    wpAny (model prog w) A (richCompare .Lt (.int a t) (.int c u)) Q E s :=
  (PyProof.Rows.lt_int h : wpAny (model prog w) A (compareOp .Lt (.int a t) (.int c u)) Q E s)
section
open PySem.SeqAt
open PySem.AutoSeq1 (wpAny_loadPart')
open PySem.MeetsSeq PySem.MeetsSeq2 PySem.MeetsSeq3
end
section
variable {prog : Program} {w : World} {A : Around} {E : Value → Shared → Prop} {s : Shared}
def sIx (n d : Nat) : Option Int → Nat
  | none => d
  | some v => if v < 0 then (v + (n : Int)).toNat else min v.toNat n
end
end HT
namespace L2
open PySem PySem.Spec PyProof.Rows
abbrev TO := St → Hp → (Option Int → Hp → Prop) → Prop
def PO (X : Cx) (e : Option Expr) (t : TO) : Prop :=
  ∀ (pins : List (Addr × Obj)) (s : Shared) (σ : St) (H : Hp) (Q : Option Int → Hp → Prop), Inv X pins σ H s → t σ H Q →
    wpAny (model X.prog X.w) X.A (evalPart e X.env) (fun u s' => ∃ o H', Inv X pins σ H' s' ∧ IsPart u o ∧ Q o H') X.xe s
def tNoPart : TO := fun _ H Q => Q none H
def tPart (t : TE) : TO := fun σ H Q => t σ H fun x H1 => ∃ i, x = .int i ∧ Q (some i) H1
theorem intsAre_of {ns : List Int} : ∀ {us : List Value}, Vals (ns.map V.int) us → IntsAre us ns := by
  induction ns with
  | nil => intro us r; rw [List.map_nil] at r; cases r; exact .nil
  | cons n ns ih =>
    intro us r
    rw [List.map_cons] at r
    cases r with
    | cons r1 r2 =>
      obtain ⟨t, e⟩ := r1
      subst e
      exact .cons n t (ih r2)
section
variable {X : Cx} {e : Expr} {te : TE} {lo hi : Option Expr} {tl th : TO} {pos p2 : Pos}
theorem po_none : PO X none tNoPart := by
  intro pins s σ H Q I h
  rw [evalPart_none]
  exact wpAny_pure ⟨none, H, I, .none, h⟩
theorem po_some (h : PE X e te) : PO X (some e) (tPart te) := by
  intro pins s σ H Q I hw
  rw [evalPart_some]
  refine thn (h pins s σ H _ I hw) fun u s1 ⟨x, H1, I1, r1, q1⟩ => ?_
  obtain ⟨i, rfl, q⟩ := q1
  obtain ⟨t, rfl⟩ := r1
  exact ⟨some i, H1, I1, .int i t, q⟩
def SlR (X : Cx) (r : V → Option Int → Option Int → Hp → VK → Prop) : Prop :=
  ∀ (pins : List (Addr × Obj)) (s : Shared) (σ : St) (H : Hp) (x : V) (v vl vu : Value) (lo hi : Option Int) (sl : Addr) (Q : VK), Inv X pins σ H s → RelV x v → s.heap.IsSliceOf sl vl vu .none → IsPart vl lo → IsPart vu hi → r x lo hi H Q →
    ∃ T id, typeLookup (.type T) "__getitem__" = pure (some (.builtin id)) ∧ s.TypeIs v T ∧ wpAny (model X.prog X.w) X.A (getItem v (.ref sl)) (EP X pins σ Q) X.xe s
def tSl (r : V → Option Int → Option Int → Hp → VK → Prop) (te : TE) (tl th : TO) : TE := fun σ H Q => te σ H fun x H1 => tl σ H1 fun l H2 => th σ H2 fun u H3 => r x l u H3 Q
theorem pe_slice {r : V → Option Int → Option Int → Hp → VK → Prop} (hr : SlR X r) (he : PE X e te) (hl : PO X lo tl) (hu : PO X hi th) : PE X (.Subscript e (.Slice lo hi none p2) pos) (tSl r te tl th) := by
  intro pins s σ H Q I h
  refine Subscript_ (thn (he pins s σ H _ I h) fun v s1 ⟨x, H1, I1, r1, q1⟩ => ?_)
  refine wpAny_Slice (thn (hl pins s1 σ H1 _ I1 q1) fun vl s2 ⟨l, H2, I2, pl, q2⟩ => thn (hu pins s2 σ H2 _ I2 q2) fun vu s3 ⟨u, H3, I3, pu, q3⟩ => ?_)
  rw [evalPart_none]
  refine wpAny_pure ?_
  have I4 : Inv X pins σ H3 { s3 with heap := s3.heap.push { cls := .type "slice", data := .fields #[vl, vu, .none] } } := I3.kept (t' := s3.toks) fun b ob q => Heap.get?_push_of_some _ q
  obtain ⟨T, id, hT, ht, hg⟩ := hr pins { s3 with heap := s3.heap.push { cls := .type "slice", data := .fields #[vl, vu, .none] } } σ H3 x v vl vu l u s3.heap.objs.size Q I4 r1 (Heap.IsSliceOf.new ..) pl pu q3
  show wpAny (model X.prog X.w) X.A (subscriptTail e (.Slice lo hi none p2) v (.ref s3.heap.objs.size)) (EP X pins σ Q) X.xe { s3 with heap := s3.heap.push { cls := .type "slice", data := .fields #[vl, vu, .none] } }
  exact tail_any (ops := [.ref s3.heap.objs.size, v]) ht hT hg (by with_unfolding_all rfl)
def cutV (xs : List V) (lo hi : Option Int) : List V := (xs.drop (HT.sIx xs.length 0 lo)).take (HT.sIx xs.length xs.length hi - HT.sIx xs.length 0 lo)
theorem cutV_length (xs : List V) (lo hi : Option Int) : (cutV xs lo hi).length ≤ xs.length := by
  unfold cutV
  rw [List.length_take, List.length_drop]
  omega
end
end L2
namespace L2
open PySem PySem.Spec PyProof.Rows
def ixN (n : Nat) (i : Int) : Option Nat := if 0 ≤ i then (if i < n then some i.toNat else none) else if -(n : Int) ≤ i then some (i + n).toNat else none
def atI {α : Type} (xs : List α) (i : Int) : Option α := (ixN xs.length i).bind fun j => xs[j]?
theorem ixN_seq {n : Nat} {i : Int} {j : Nat} (h : ixN n i = some j) : seqIndex? i n = some j ∧ j < n ∧ -(n : Int) ≤ i ∧ i < n := by
  unfold ixN at h
  by_cases h0 : 0 ≤ i
  · rw [if_pos h0] at h
    by_cases h1 : i < n
    · rw [if_pos h1] at h
      have e : i.toNat = j := Option.some.inj h
      exact ⟨by rw [seqIndex_of h0 h1, e], by omega, by omega, h1⟩
    · rw [if_neg h1] at h; cases h
  · rw [if_neg h0] at h
    by_cases h1 : -(n : Int) ≤ i
    · rw [if_pos h1] at h
      have e : (i + n).toNat = j := Option.some.inj h
      exact ⟨by rw [seqIndex_neg (by omega) h1, e], by omega, h1, by omega⟩
    · rw [if_neg h1] at h; cases h
theorem atI_get {α : Type} {xs : List α} {i : Int} {v : α} (h : atI xs i = some v) : ∃ j, seqIndex? i xs.length = some j ∧ xs[j]? = some v ∧ j < xs.length ∧ -(xs.length : Int) ≤ i ∧ i < xs.length := by
  unfold atI at h
  cases e : ixN xs.length i with
  | none => rw [e] at h; cases h
  | some j =>
    rw [e] at h
    obtain ⟨h1, h2, h3, h4⟩ := ixN_seq e
    exact ⟨j, h1, h, h2, h3, h4⟩
theorem atI_nat {α : Type} {xs : List α} {j : Nat} {v : α} (h : xs[j]? = some v) : atI xs (j : Int) = some v := by
  have hj : j < xs.length := (List.getElem?_eq_some_iff.mp h).1
  have e : ixN xs.length (j : Int) = some j := by
    unfold ixN
    rw [if_pos (by omega), if_pos (by omega)]; simp
  unfold atI; rw [e]; exact h
theorem atI_last {α : Type} (xs : List α) (v : α) : atI (xs ++ [v]) (-1) = some v := by
  have hl : (xs ++ [v]).length = xs.length + 1 := by simp
  have e : ixN (xs ++ [v]).length (-1) = some xs.length := by
    unfold ixN
    rw [hl, if_neg (by decide), if_pos (by omega)]
    congr 1
    omega
  unfold atI
  rw [e]
  show (xs ++ [v])[xs.length]? = some v
  simp
def PlainIx (b : Expr) : Prop := ∀ o i, subscripted b false o i = operate [o, i] (getItem o i)
def IxR (X : Cx) (r : R2) : Prop :=
  ∀ (value slice : Expr) (pins : List (Addr × Obj)) (s : Shared) (σ : St) (H : Hp) (x y : V) (v u : Value) (Q : VK), Inv X pins σ H s → RelV x v → RelV y u → r x y H Q →
    subscripted slice false v u = operate [v, u] (getItem v u) → wpAny (model X.prog X.w) X.A (subscriptTail value slice v u) (EP X pins σ Q) X.xe s
def MtR (X : Cx) (id : String) (r : V → List V → Hp → VK → Prop) : Prop :=
  ∀ (pins : List (Addr × Obj)) (s : Shared) (σ : St) (H : Hp) (x : V) (xs : List V) (v : Value) (us : List Value) (Q : VK), Inv X pins σ H s → RelV x v → Vals xs us → r x xs H Q →
    wpAny (model X.prog X.w) X.A (call (.builtin id) (v :: us)) (EP X pins σ Q) X.xe s
section
variable {X : Cx} {a b : Expr} {ta tb : TE} {pos : Pos}
theorem IxR.or {r r' : R2} (h : IxR X r) (h' : IxR X r') : IxR X (fun x y H Q => r x y H Q ∨ r' x y H Q) := by
  intro value slice pins s σ H x y v u Q I rx ry q hs
  rcases q with q | q
  · exact h value slice pins s σ H x y v u Q I rx ry q hs
  · exact h' value slice pins s σ H x y v u Q I rx ry q hs
theorem pe_ix {r : R2} (hr : IxR X r) (ha : PE X a ta) (hb : PE X b tb) (hs : PlainIx b) : PE X (.Subscript a b pos) (tOp r ta tb) := by
  intro pins s σ H Q I h
  exact Subscript_ (binT ha hb I h fun v u s2 x y H2 I2 rx ry q => hr a b pins s2 σ H2 x y v u Q I2 rx ry q (hs _ _))
def rIxL (K : PySem.W.Frag) : R2 := fun x y H Q => ∃ p xs i v, x = .ref p ∧ y = .int i ∧ SqL K H p xs ∧ atI xs i = some v ∧ Q v H
def rIxT (K : PySem.W.Frag) : R2 := fun x y H Q => ∃ p xs i v, x = .ref p ∧ y = .int i ∧ SqT K H p xs ∧ atI xs i = some v ∧ Q v H
def rIxS : R2 := fun x y H Q => ∃ z i c, x = .str z ∧ y = .int i ∧ z.length ≤ sizeLine ∧ atI z.cps.toList i = some c ∧ Q (.str ⟨#[c]⟩) H
theorem ix_list : IxR X (rIxL X.K) := by
  intro value slice pins s σ H x y v u Q I rx ry h hs
  obtain ⟨p, xs, i, z, rfl, rfl, hq, he, q⟩ := h
  cases rx
  obtain ⟨t, rfl⟩ := ry
  obtain ⟨its, r, pl, hz⟩ := I.list hq
  obtain ⟨j, h1, h2, h3, h4, h5⟩ := atI_get he
  obtain ⟨w, ew, rw'⟩ := r.get h2
  have hl := r.length
  have hn := line63
  have fin : EP X pins σ Q w s := ⟨z, H, I, rw', q⟩
  by_cases h0 : 0 ≤ i
  · have hj : i.toNat = j := by
      rw [seqIndex_of h0 h5] at h1
      exact Option.some.inj h1
    exact item_listR pl.isList h0 (by omega) (by rw [hj]; simpa using ew) fin hs
  · have hj : (i + (its.toArray.size : Int)).toNat = j := by
      rw [seqIndex_neg (by omega) h4] at h1
      rw [List.size_toArray, ← hl]
      exact Option.some.inj h1
    exact subscriptTail_builtinR (x := w) pl.isList.typeIs slot_list_getitem.lookup
      (wpAny_getItem_list_neg (Q := fun r s' => r = w ∧ EP X pins σ Q r s') pl.isList (by omega) (by rw [List.size_toArray] <;> omega) (by omega) (by rw [hj]; simpa using ew) ⟨rfl, fin⟩) hs
theorem ix_tup : IxR X (rIxT X.K) := by
  intro value slice pins s σ H x y v u Q I rx ry h hs
  obtain ⟨p, xs, i, z, rfl, rfl, hq, he, q⟩ := h
  cases rx
  obtain ⟨t, rfl⟩ := ry
  obtain ⟨its, r, pl, hz⟩ := I.tuple hq
  obtain ⟨j, h1, h2, h3, h4, h5⟩ := atI_get he
  obtain ⟨w, ew, rw'⟩ := r.get h2
  have hl := r.length
  have hn := line63
  have fin : EP X pins σ Q w s := ⟨z, H, I, rw', q⟩
  exact subscriptTail_builtinR (x := w) pl.typeIs slot_tuple_getitem.lookup
    (getItem_tuple (j := j) (Q := fun r s' => r = w ∧ EP X pins σ Q r s') pl (by omega) (by omega) (by rw [List.size_toArray, ← hl]; exact h1) (by simpa using ew) ⟨rfl, fin⟩) hs
theorem ix_str : IxR X rIxS := by
  intro value slice pins s σ H x y v u Q I rx ry h hs
  obtain ⟨z, i, c, rfl, rfl, hz, he, q⟩ := h
  obtain ⟨t, rfl⟩ := rx
  obtain ⟨t', rfl⟩ := ry
  obtain ⟨j, h1, h2, h3, h4, h5⟩ := atI_get he
  have hl : z.cps.toList.length = z.length := by simp [Str.length]
  rw [hl] at h1 h4 h5
  have hn := line63
  exact tail_any (typeIs_str s z t) slot_str_getitem.lookup (getItem_str (c := c) (by
    have e1 : decide (i < -(2 ^ 63 : Int)) = false := decide_eq_false (by omega)
    have e2 : decide (i ≥ 2 ^ 63) = false := decide_eq_false (by omega)
    rw [e1, e2, Bool.or_false]) (by rw [h1]; simpa using h2) ⟨.str ⟨#[c]⟩, H, I.tok _, ⟨_, rfl⟩, q⟩) hs
def rIx (K : PySem.W.Frag) : R2 := fun x y H Q => rIxL K x y H Q ∨ rIxT K x y H Q ∨ rIxS x y H Q
theorem ix_seq : IxR X (rIx X.K) := ix_list.or (ix_tup.or ix_str)
theorem Inv.lst {pins : List (Addr × Obj)} {σ : St} {H : Hp} {s : Shared} {p : Addr} {xs : List V} (I : Inv X pins σ H s) (h : H p = some (.lst xs)) :
    ∃ (its : List Value) (n : Nat), Vals xs its ∧ s.heap.get? p = some { cls := .type "list", data := .seq its.toArray n } ∧ xs.length ≤ sizeLine := by
  obtain ⟨z, its, n, r, e⟩ := I.hok p _ h
  exact ⟨its, n, r, e, z⟩
theorem slice_bounds (lo hi : Option Int) (n : Nat) : (sliceBounds lo hi none n).1 = ((HT.sIx n 0 lo : Nat) : Int) ∧ (sliceBounds lo hi none n).2.1 = ((HT.sIx n n hi : Nat) : Int) ∧ (sliceBounds lo hi none n).2.2 = 1 := by
  refine ⟨?_, ?_, rfl⟩
  · cases lo with
    | none => simp [sliceBounds, HT.sIx]
    | some i =>
      simp only [sliceBounds, HT.sIx, Option.getD_none, show (1 : Int) > 0 by decide, if_true]
      by_cases h : i < 0
      · simp only [h, if_true] <;> omega
      · simp only [h, if_false] <;> omega
  · cases hi with
    | none => simp [sliceBounds, HT.sIx]
    | some i =>
      simp only [sliceBounds, HT.sIx, Option.getD_none, show (1 : Int) > 0 by decide, if_true]
      by_cases h : i < 0
      · simp only [h, if_true] <;> omega
      · simp only [h, if_false] <;> omega
theorem slicePick_cut (its : List Value) (lo hi : Option Int) : slicePick its.toArray lo hi none = ((its.drop (HT.sIx its.length 0 lo)).take (HT.sIx its.length its.length hi - HT.sIx its.length 0 lo)).toArray := by
  obtain ⟨h1, h2, h3⟩ := slice_bounds lo hi its.toArray.size
  unfold slicePick
  rw [h1, h2, h3]
  simp only [sliceRange_one, pick_run, List.size_toArray] <;> rfl
def rSlL (K : PySem.W.Frag) : V → Option Int → Option Int → Hp → VK → Prop := fun x lo hi H Q => ∃ a xs, x = .ref a ∧ SqL K H a xs ∧ ∀ p, H p = none → Q (.ref p) (upd H p (.lst (cutV xs lo hi)))
theorem sl_list : SlR X (rSlL X.K) := by
  intro pins s σ H x v vl vu lo hi sl Q I rx hs pl pu h
  obtain ⟨a, xs, rfl, hx, q⟩ := h
  cases rx
  obtain ⟨its, r, ht, hz⟩ := I.list hx
  have hlen := r.length
  refine ⟨"list", _, slot_list_getitem.lookup, ht.isList.typeIs, ?_⟩
  refine wpAny_getItem_list_slice ht.isList hs pl pu .none (by simp) ?_ (by rw [List.size_toArray] <;> omega)
  rw [slicePick_cut, ← hlen]
  refine ⟨.ref s.heap.objs.size, _, I.laid (t' := s.toks) (o := .lst (cutV xs lo hi)) (fun b ob q => Heap.get?_push_of_some _ q) (Nat.le_refl _) ?_, rfl, q _ (I.hok.fresh (Nat.le_refl _))⟩
  exact ⟨Nat.le_trans (cutV_length xs lo hi) hz, _, 0, (r.drop (HT.sIx xs.length 0 lo)).take (HT.sIx xs.length xs.length hi - HT.sIx xs.length 0 lo), Heap.get?_push_size _ rfl⟩
theorem call_len_seq : CallR X (.builtin "len") (fun xs H Q => ∃ p ys, xs = [.ref p] ∧ (SqL X.K H p ys ∨ SqT X.K H p ys) ∧ Q (.int ys.length) H) := by
  intro pins s σ H xs us Q I r h
  obtain ⟨p, ys, rfl, hq, q⟩ := h
  obtain ⟨u, rfl, rx⟩ := vals1 r
  cases rx
  have hn := line63
  rcases hq with hq | hq
  · obtain ⟨its, r', pl, hz⟩ := I.list hq
    have hlen := r'.length
    exact Calls.call_len_list pl.isList (by simp only [List.size_toArray] <;> omega) ⟨.int ys.length, H, I.tok _, ⟨s.toks + 1, by rw [List.size_toArray, hlen]⟩, q⟩
  · obtain ⟨its, r', pl, hz⟩ := I.tuple hq
    have hlen := r'.length
    exact len_tuple pl (by simp only [List.size_toArray] <;> omega) ⟨.int ys.length, H, I.tok _, ⟨s.toks + 1, by rw [List.size_toArray, hlen]⟩, q⟩
theorem call_len_str : CallR X (.builtin "len") (fun xs H Q => ∃ z, xs = [.str z] ∧ z.length ≤ sizeLine ∧ Q (.int z.length) H) := by
  intro pins s σ H xs us Q I r h
  obtain ⟨z, rfl, hz, q⟩ := h
  obtain ⟨u, rfl, t, rfl⟩ := vals1 r
  have hn := line63
  exact len_str (by omega) ⟨.int z.length, H, I.tok _, ⟨_, rfl⟩, q⟩
theorem CallR.or {f : Value} {r r' : List V → Hp → VK → Prop} (h : CallR X f r) (h' : CallR X f r') : CallR X f (fun xs H Q => r xs H Q ∨ r' xs H Q) := by
  intro pins s σ H xs us Q I rs q
  rcases q with q | q
  · exact h pins s σ H xs us Q I rs q
  · exact h' pins s σ H xs us Q I rs q
theorem call_list_of : CallR X (.type "list") (fun xs H Q => ∃ p ys, xs = [.ref p] ∧ (SqL X.K H p ys ∨ SqT X.K H p ys) ∧ ∀ l, H l = none → Q (.ref l) (upd H l (.lst ys))) := by
  intro pins s σ H xs us Q I r h
  obtain ⟨p, ys, rfl, hq, q⟩ := h
  obtain ⟨u, rfl, rx⟩ := vals1 r
  cases rx
  have fin : ∀ (its : List Value), Vals ys its → ys.length ≤ sizeLine → ∀ (h' : Heap) (c' : Nat), (∀ b o', s.heap.get? b = some o' → h'.get? b = some o') →
      h'.get? s.heap.objs.size = some { cls := .type "list", dict := none, data := .seq its.toArray c', slots := #[] } → EP X pins σ Q (.ref s.heap.objs.size) { s with heap := h' } := fun its r' hz h' c' kp e =>
    ⟨.ref s.heap.objs.size, _, I.laid (t' := s.toks) kp (Nat.le_refl _) (show ObjOk X.prog X.w _ h' _ (.lst ys) from ⟨hz, its, c', r', e⟩), rfl, q _ (I.hok.fresh (Nat.le_refl _))⟩
  rcases hq with hq | hq
  · obtain ⟨its, r', pl, hz⟩ := I.list hq
    have hlen := r'.length
    obtain ⟨o, ho, hc, n, hd⟩ := pl.isList
    exact call_list_seq p (.inl rfl) ho hc hd (fun h' c' kp e => fin its r' hz h' c' kp e) (by simp only [List.size_toArray] <;> omega)
  · obtain ⟨its, r', pl, hz⟩ := I.tuple hq
    have hlen := r'.length
    obtain ⟨o, ho, hc, n, hd⟩ := pl
    exact call_list_seq p (.inr rfl) ho hc hd (fun h' c' kp e => fin its r' hz h' c' kp e) (by simp only [List.size_toArray] <;> omega)
theorem call_tuple_of : CallR X (.type "tuple") (fun xs H Q => ∃ p ys, xs = [.ref p] ∧ ((SqL X.K H p ys ∧ ∀ l, H l = none → Q (.ref l) (upd H l (.tup ys))) ∨ (SqT X.K H p ys ∧ Q (.ref p) H))) := by
  intro pins s σ H xs us Q I r h
  obtain ⟨p, ys, rfl, h⟩ := h
  obtain ⟨u, rfl, rx⟩ := vals1 r
  cases rx
  rcases h with ⟨hq, q⟩ | ⟨hq, q⟩
  · obtain ⟨its, r', pl, hz⟩ := I.list hq
    have hlen := r'.length
    refine call_tuple_list pl.isList (fun h' kp => ?_) (by simp only [List.size_toArray] <;> omega)
    have I1 : Inv X pins σ H { s with heap := h' } := I.kept (t' := s.toks) kp
    have I2 : Inv X pins σ (upd H h'.objs.size (.tup ys)) { s with heap := h'.push { cls := .type "tuple", data := .seq its.toArray } } :=
      I1.laid (t' := s.toks) (fun b o e => Heap.get?_push_of_some _ e) (Nat.le_refl _) (show ObjOk X.prog X.w _ _ _ (.tup ys) from ⟨hz, its, r', .mk' (Heap.get?_push_size _ rfl)⟩)
    exact ⟨.ref h'.objs.size, _, I2, rfl, q _ (I1.hok.fresh (Nat.le_refl _))⟩
  · obtain ⟨its, r', pl, hz⟩ := I.tuple hq
    exact call_tuple_same pl ⟨.ref p, H, I, rfl, q⟩
def tyV (K : PySem.W.Frag) (T : String) (x : V) (H : Hp) : Prop := match x with
  | .str _ => T = "str"
  | .int _ => T = "int"
  | .ref p => (T = "list" ∧ ∃ xs, SqL K H p xs) ∨ (T = "tuple" ∧ ∃ o, K.lookup p = some o ∧ o.cls = .type "tuple" ∧ o.dict = none) ∨
      (T = "dict" ∧ ((∃ kvs, H p = some (.dK kvs)) ∨ ∃ kvs, H p = some (.dT kvs))) ∨ (T = "set" ∧ ∃ S n, H p = some (.set S n))
  | _ => False
theorem tyV_is {pins : List (Addr × Obj)} {σ : St} {H : Hp} {s : Shared} {T : String} {x : V} {v : Value} (I : Inv X pins σ H s) (r : RelV x v) (ty : tyV X.K T x H) :
    s.TypeIs v T ∧ ∀ a, v = .ref a → ∃ ob, s.heap.get? a = some ob ∧ ob.dict = none := by
  cases x with
  | str z =>
    obtain ⟨t, rfl⟩ := r
    cases (show T = "str" from ty)
    exact ⟨typeIs_str s z t, fun _ e => nomatch e⟩
  | int i =>
    obtain ⟨t, rfl⟩ := r
    cases (show T = "int" from ty)
    exact ⟨typeIs_int s i t, fun _ e => nomatch e⟩
  | ref p =>
    cases r
    rcases ty with ⟨rfl, xs, hq⟩ | ⟨rfl, o, hk, hc, hd⟩ | ⟨rfl, hk⟩ | ⟨rfl, S, n, hk⟩
    · obtain ⟨its, _, pl, _⟩ := I.list hq
      refine ⟨pl.isList.typeIs, fun a e => ?_⟩
      cases e
      obtain ⟨o, n, e, c, hd, _⟩ := pl
      exact ⟨o, e, hd⟩
    · refine ⟨⟨o, I.kIn p o hk, hc⟩, fun a e => ?_⟩
      cases e
      exact ⟨o, I.kIn _ o hk, hd⟩
    · have z : ∃ o, s.heap.get? p = some o ∧ o.ExactDict := by
        rcases hk with ⟨kvs, hk⟩ | ⟨kvs, hk⟩
        · obtain ⟨_, _, _, _, o, _, _, e, ex, _⟩ := I.hok p _ hk
          exact ⟨o, e, ex⟩
        · obtain ⟨_, _, _, _, o, _, _, e, ex, _⟩ := I.hok p _ hk
          exact ⟨o, e, ex⟩
      obtain ⟨o, e, ex⟩ := z
      refine ⟨⟨o, e, ex.1⟩, fun a e2 => ?_⟩
      cases e2
      exact ⟨o, e, ex.2.1⟩
    · obtain ⟨o, _, _, _, e, ex, _⟩ := I.hok p _ hk
      refine ⟨⟨o, e, ex.1⟩, fun a e2 => ?_⟩
      cases e2
      exact ⟨o, e, ex.2.1⟩
  | _ => exact False.elim ty
def tBM (K : PySem.W.Frag) (T : String) (r : V → List V → Hp → VK → Prop) (to : TE) (t : TA) : TE := fun σ H Q => to σ H fun x H1 => tyV K T x H1 ∧ t σ H1 fun xs H2 => r x xs H2 Q
variable {o e : Expr} {es : List Expr} {to : TE} {t : TA} {name : Str} {apos cpos : Pos} {T id : String} {r : V → List V → Hp → VK → Prop}
theorem pe_bm (pa : PlainAttrs T) (slot : Slot T name id) (hty : typeOf (.builtin id) = pure (.type "method_descriptor")) (hm : MtR X id r) (ho : PE X o to) (ha : PA X (e :: es) t)
    (hbase : attributeBase o name X.env (eval o X.env) = eval o X.env := by rfl)
    (hfew : ((backTo cpos (starEach (e :: es) X.env)).all (fun x => !x.1) && (backToKw cpos (keywordEach [] X.env)).all (fun x => x.1.isSome)
      && decide ((e :: es).length + ([] : List Keyword).length + (if ([] : List Keyword).isEmpty then 0 else 1) < 30)) = true := by rfl)
    (hline : (apos.endLine == cpos.line) = true := by rfl) (hs : starEach (e :: es) X.env = (false, eval e X.env) :: starEach es X.env := by rfl) (hplain : (backTo cpos (starEach es X.env)).any (·.1) = false := by rfl) :
    PE X (.Call (.Attribute o name apos) (e :: es) [] cpos) (tBM X.K T r to t) := by
  intro pins s σ H Q I h
  refine wpAny_Call_method_late hbase hfew hline rfl (thn (ho pins s σ H _ I h) fun v s1 ⟨x, H1, I1, r1, ty, q1⟩ => ?_)
  obtain ⟨h1, h2⟩ := tyV_is I1 r1 ty
  refine ⟨T, id, pa, slot, hty, h1, h2, ?_⟩
  have hA := ha cpos pins s1 σ H1 _ I1 q1
  rw [hs] at hA ⊢
  refine Calls.callWith_builtin (by show (false || (backTo cpos (starEach es X.env)).any (·.1)) = false; rw [hplain] <;> rfl) (Calls.evalArgs_plain ?_)
  exact thn hA fun us s2 ⟨vs, H2, I2, r2, q2⟩ => hm pins s2 σ H2 x vs v us Q I2 r1 r2 q2
end
end L2
namespace L2
open PySem PySem.Spec PyProof.Rows
def MtM (X : Cx) (id : String) (r : V → List V → Hp → VK → Prop) : Prop :=
  ∀ (pins : List (Addr × Obj)) (s : Shared) (σ : St) (H : Hp) (x : V) (xs : List V) (v : Value) (us : List Value) (Q : VK), Inv X pins σ H s → RelV x v → Vals xs us → r x xs H Q →
    wpAny (model X.prog X.w) X.A (call (.builtin id) (v :: us)) (EP X pins σ Q) X.xe s
theorem Vals.one : ∀ {x : V} {us : List Value}, Vals [x] us → ∃ u, us = [u] ∧ RelV x u
  | _, _, .cons r .nil => ⟨_, rfl, r⟩
theorem Vals.two : ∀ {x y : V} {us : List Value}, Vals [x, y] us → ∃ u v, us = [u, v] ∧ RelV x u ∧ RelV y v
  | _, _, _, .cons r (.cons q .nil) => ⟨_, _, rfl, r, q⟩
section
variable {X : Cx} {pins : List (Addr × Obj)} {σ : St} {H : Hp} {s : Shared} {l b : Addr} {xs ys zs : List V}
theorem Inv.lset {its its' : List Value} {n : Nat} {f : Array Value → Array Value} {t' : Nat} (I : Inv X pins σ H s) (hH : H l = some (.lst xs))
    (e : s.heap.get? l = some { cls := .type "list", data := .seq its.toArray n }) (hf : f its.toArray = its'.toArray) (hv : Vals ys its') (hz : ys.length ≤ sizeLine) :
    Inv X pins σ (upd H l (.lst ys)) { s with heap := s.heap.update l (Obj.mapSeq f), toks := t' } := by
  have q := PySem.IsL.update e f
  rw [hf] at q
  refine I.write (x := l) (e := l) (by rw [hH]; exact trivial) (.inl rfl) (fun b' u hb hu => (Heap.get?_update_other s.heap (Obj.mapSeq f) (Ne.symm hb)).trans hu) ⟨_, q⟩ ?_
  exact ⟨hz, its', _, hv, q⟩
theorem Inv.lnew {its : List Value} {t' : Nat} (I : Inv X pins σ H s) (hv : Vals ys its) (hz : ys.length ≤ sizeLine) :
    Inv X pins σ (upd H s.heap.objs.size (.lst ys)) { s with heap := s.heap.push { cls := .type "list", data := .seq its.toArray }, toks := t' } :=
  I.laid (fun _ _ q => Heap.get?_push_of_some _ q) (Nat.le_refl _) ⟨hz, its, 0, hv, Heap.get?_push_size _ rfl⟩
theorem Inv.fresh (I : Inv X pins σ H s) : H s.heap.objs.size = none := I.hok.fresh (Nat.le_refl _)
theorem Inv.lstM (I : Inv X pins σ H s) (hH : H l = some (.lst xs)) : xs.length ≤ sizeLine ∧ ∃ (its : List Value) (n : Nat), Vals xs its ∧ xs.length = its.length ∧ s.heap.get? l = some { cls := .type "list", data := .seq its.toArray n } := by
  obtain ⟨z, its, n, r, e⟩ := I.hok l _ hH
  exact ⟨z, its, n, r, r.length, e⟩
theorem notLongL {n : Nat} (h : n ≤ sizeLine) : Builtin.List.listTooLong n = false := by
  unfold Builtin.List.listTooLong
  exact decide_eq_false (by omega)
end
section
variable {X : Cx}
def rAppend : V → List V → Hp → VK → Prop := fun x vs H Q => ∃ l xs y, x = .ref l ∧ vs = [y] ∧ H l = some (.lst xs) ∧ xs.length < sizeLine ∧ Q .non (upd H l (.lst (xs ++ [y])))
theorem mt_append : MtM X "list.append" rAppend := by
  intro pins s σ H x vs v us Q I rx rv h
  obtain ⟨l, xs, y, rfl, rfl, hH, hz, q⟩ := h
  cases rx
  obtain ⟨u, rfl, ru⟩ := rv.one
  obtain ⟨z, its, n, r, hl, e⟩ := I.lstM hH
  refine call_meets F.slot_list_append ⟨_, e, rfl⟩ F.entry_list_append (F.args_list_append_2 _ _) (PySem.list_append l its.toArray n u (by rw [List.size_toArray]; omega)) ⟨e, ?_⟩
  refine ⟨.non, _, I.lset (its' := its ++ [u]) hH e (by simp) (r.append (.cons ru .nil)) ?_, rfl, q⟩
  rw [List.length_append, List.length_singleton]
  omega
def rExtend : V → List V → Hp → VK → Prop := fun x vs H Q => ∃ l b xs zs, x = .ref l ∧ vs = [.ref b] ∧ H l = some (.lst xs) ∧ H b = some (.lst zs) ∧ xs.length + zs.length ≤ sizeLine ∧ Q .non (upd H l (.lst (xs ++ zs)))
theorem mt_extend : MtM X "list.extend" rExtend := by
  intro pins s σ H x vs v us Q I rx rv h
  obtain ⟨l, b, xs, zs, rfl, rfl, hH, hB, hz, q⟩ := h
  cases rx
  obtain ⟨u, rfl, ru⟩ := rv.one
  cases ru
  obtain ⟨z, its, n, r, hl, e⟩ := I.lstM hH
  obtain ⟨z2, its2, n2, r2, hl2, e2⟩ := I.lstM hB
  have hsz : its.toArray.size + its2.toArray.size ≤ sizeLine := by rw [List.size_toArray, List.size_toArray]; omega
  have hlong : ¬ (!its.toArray.isEmpty && Builtin.List.listTooLong (its.toArray.size + its2.toArray.size)) = true := by
    rw [notLongL hsz, Bool.and_false]
    exact Bool.false_ne_true
  refine call_meets F.slot_list_extend ⟨_, e, rfl⟩ F.entry_list_extend (F.args_list_extend_2 _ _)
    (AutoSeq1.list_extend_list_list_0 l its.toArray n b its2.toArray n2 hlong (by rw [List.size_toArray]; omega) (by omega)) ⟨e, e2, ?_⟩
  refine ⟨.non, _, I.lset (its' := its ++ its2) hH e (by simp) (r.append r2) ?_, rfl, q⟩
  rw [List.length_append]
  omega
def rCat : R2 := fun x y H Q => ∃ l b xs zs, x = .ref l ∧ y = .ref b ∧ H l = some (.lst xs) ∧ H b = some (.lst zs) ∧ xs.length + zs.length ≤ sizeLine ∧ ∀ p, H p = none → Q (.ref p) (upd H p (.lst (xs ++ zs)))
theorem op_cat : OpR X (binaryOp .Add) rCat := by
  intro pins s σ H x y v u Q I rx ry h
  obtain ⟨l, b, xs, zs, rfl, rfl, hH, hB, hz, q⟩ := h
  cases rx
  cases ry
  obtain ⟨z, its, n, r, hl, e⟩ := I.lstM hH
  obtain ⟨z2, its2, n2, r2, hl2, e2⟩ := I.lstM hB
  refine PySem.P.add_list e e2 ?_ (by rw [List.size_toArray, List.size_toArray]; omega)
  have ea : its.toArray ++ its2.toArray = (its ++ its2).toArray := by simp
  rw [ea]
  exact ⟨.ref _, _, I.lnew (t' := s.toks) (r.append r2) (by rw [List.length_append]; omega), rfl, q _ I.fresh⟩
end
end L2
namespace L2
open PySem PySem.Spec PyProof.Rows
section
variable {κ : Type} [DecidableEq κ]
def valV (kvs : List (κ × V)) (k : κ) : Option V := (kvs.find? fun kv => decide (kv.1 = k)).map (·.2)
theorem valV_pos {p : κ × V} {r : List (κ × V)} {k : κ} (e : p.1 = k) : valV (p :: r) k = some p.2 := by simp [valV, List.find?_cons, e]
theorem valV_neg {p : κ × V} {r : List (κ × V)} {k : κ} (e : ¬ p.1 = k) : valV (p :: r) k = valV r k := by simp [valV, List.find?_cons, e]
theorem RelO.isSome_eq {o : Option V} {u : Option Value} (r : RelO o u) : o.isSome = u.isSome := by
  cases o with
  | none => cases u with
    | none => rfl
    | some _ => exact (show False from r).elim
  | some _ => cases u with
    | none => exact (show False from r).elim
    | some _ => rfl
theorem KV.val {kvs : List (κ × V)} {vs : List (κ × Value)} (r : KV kvs vs) (k : κ) : RelO (valV kvs k) (valueAt vs k) := by
  unfold KV at r
  induction r with
  | nil => exact True.intro
  | @cons p q ps qs h t ih =>
    obtain ⟨h1, h2⟩ := h
    by_cases e : p.1 = k
    · have e' : q.1 = k := h1.symm.trans e
      have b : valueAt (q :: qs) k = some q.2 := by simp [valueAt, List.find?_cons, e']
      rw [valV_pos e, b]; exact h2
    · have e' : ¬ q.1 = k := fun z => e (h1.trans z)
      have b : valueAt (q :: qs) k = valueAt qs k := by simp [valueAt, List.find?_cons, e']
      rw [valV_neg e, b]; exact ih
theorem KV.length {kvs : List (κ × V)} {vs : List (κ × Value)} (r : KV kvs vs) : kvs.length = vs.length := Paired.length r
end
theorem kV_is {P : Program} {w : World} {k : Key} {u : Value} (r : RelV (kV k) u) : (mixKind P w).is k u = true := by
  cases k with
  | inl i => obtain ⟨t, e⟩ := (show ∃ t, u = Value.int i t from r); subst e; exact mixKind_int P w i t
  | inr x => obtain ⟨t, e⟩ := (show ∃ t, u = Value.str x t from r); subst e; exact mixKind_str P w x t
theorem items_are {P : Program} {w : World} : ∀ {ks : List Key} {us : List Value}, Vals (ks.map kV) us → ItemsAre (mixKind P w) ks us
  | [], _, r => by rw [List.map_nil] at r; cases r; exact .nil
  | k :: ks, _, r => by
    rw [List.map_cons] at r
    cases r with
    | cons h t => exact .cons (kV_is h) (items_are t)
abbrev KT (H : Hp) : List (List Key × V) → List (List Key × Addr × Value) → Prop := Paired fun p q => p.1 = q.1 ∧ H q.2.1 = some (.tup (p.1.map kV)) ∧ RelV p.2 q.2.2
theorem KT.val {H : Hp} {kvs : List (List Key × V)} {xs : List (List Key × Addr × Value)} (r : KT H kvs xs) (k : List Key) : RelO (valV kvs k) ((atKey xs k).map (·.2)) := by
  induction r with
  | nil => exact True.intro
  | @cons p q ps qs h t ih =>
    obtain ⟨h1, _, h2⟩ := h
    by_cases e : p.1 = k
    · have e' : q.1 = k := h1.symm.trans e
      have b : atKey (q :: qs) k = some q.2 := by simp [atKey, List.find?_cons, e']
      rw [valV_pos e, b]; exact h2
    · have e' : ¬ q.1 = k := fun z => e (h1.trans z)
      have b : atKey (q :: qs) k = atKey qs k := by simp [atKey, List.find?_cons, e']
      rw [valV_neg e, b]; exact ih
section
variable {P : Program} {w : World} {H : Hp} {h : Heap} {a : Addr}
theorem rd_of {u : HO} (ok : HOk P w H h) (e : Rd H a u) : ObjOk P w H h a u := e.ok ok
theorem dk_rd {kvs : List (Key × V)} (ok : HOk P w H h) (e : Rd H a (.dK kvs)) : kvs.length ≤ sizeLine ∧ (a == sysModules) = false ∧ ∃ vs, KV kvs vs ∧ h.DictOf (mixKind P w) a vs :=
  show ObjOk P w H h a (.dK kvs) from rd_of ok e
theorem key_of {ks : List Key} (ok : HOk P w H h) (e : H a = some (.tup (ks.map kV))) : (tupleKind (mixKind P w)).is h ks a := by
  obtain ⟨_, its, r, o, h1, h2, ⟨n, h3⟩, _⟩ := (show ObjOk P w H h a (.tup (ks.map kV)) from ok a _ e)
  exact ⟨o, its.toArray, n, h1, h2, h3, by simpa using items_are r⟩
theorem dt_rd {kvs : List (List Key × V)} (ok : HOk P w H h) (e : Rd H a (.dT kvs)) : kvs.length ≤ sizeLine ∧ (a == sysModules) = false ∧
    ∃ xs, KT H kvs xs ∧ h.DictOfH (tupleKind (mixKind P w)) a xs := by
  obtain ⟨z, y, xs, r, o, es, ep, h1, h2, h3, h4, h5⟩ := (show ObjOk P w H h a (.dT kvs) from rd_of ok e)
  refine ⟨z, y, xs, r, o, es, ep, h1, h2, h3, h4, fun x hx => ?_, h5⟩
  have all : ∀ {l : List (List Key × V)} {m : List (List Key × Addr × Value)}, KT H l m → ∀ x ∈ m, (tupleKind (mixKind P w)).is h x.1 x.2.1 := by
    intro l m q
    induction q with
    | nil => intro x hx; exact nomatch hx
    | @cons p q ps qs hq t ih =>
      intro x hx
      rcases List.mem_cons.mp hx with e | hx
      · subst e
        exact key_of ok (by rw [← hq.1]; exact hq.2.1)
      · exact ih x hx
  exact all r x hx
end
def DGet (H : Hp) (a : Addr) (y : V) (r : Option V) : Prop :=
  (∃ kvs k, Rd H a (.dK kvs) ∧ y = kV k ∧ r = valV kvs k) ∨ ∃ kvs k b, Rd H a (.dT kvs) ∧ y = .ref b ∧ H b = some (.tup (k.map kV)) ∧ r = valV kvs k
theorem DGet.k {H : Hp} {a : Addr} {kvs : List (Key × V)} {k : Key} (e : H a = some (.dK kvs)) : DGet H a (kV k) (valV kvs k) := .inl ⟨kvs, k, .inl e, rfl, rfl⟩
theorem DGet.t {H : Hp} {a b : Addr} {kvs : List (List Key × V)} {k : List Key} (e : H a = some (.dT kvs)) (eb : H b = some (.tup (k.map kV))) : DGet H a (.ref b) (valV kvs k) := .inr ⟨kvs, k, b, .inl e, rfl, eb, rfl⟩
section
variable {X : Cx} {pins : List (Addr × Obj)} {σ : St} {H : Hp} {s : Shared} {a : Addr} {y v : V} {u r : Value} {o : Option V} {A : Around} {E : Value → Shared → Prop}
theorem Inv.big (I : Inv X pins σ H s) : sysModules < s.heap.objs.size := by
  have h : mainGlobals < s.heap.objs.size := (I.mod.glob.keeps I.bk).lt
  exact Nat.lt_trans (by decide) h
theorem d_getItem {Q : Value → Shared → Prop} (hu : A.units + 1 < cLine) (I : Inv X pins σ H s) (g : DGet H a y (some v)) (ry : RelV y u) (h : ∀ w' s', Inv X pins σ H s' → RelV v w' → Q w' s') :
    wpAny (model X.prog X.w) A (getItem (.ref a) u) Q E s := by
  rcases g with ⟨kvs, k, e, ey, l⟩ | ⟨kvs, k, b, e, ey, eb, l⟩
  · subst ey
    obtain ⟨z, hd, vs, rel, dd⟩ := dk_rd I.hok e
    obtain ⟨w', hw, rw'⟩ := RelO.some_of (v := v) (o := valueAt vs k) (by rw [l]; exact rel.val k)
    exact wpAny_getItem_of (kV_is ry) dd.mapOf hw (h w' _ (I.tok _) rw')
  · subst ey
    cases (show u = Value.ref b from ry)
    obtain ⟨z, hd, xs, rel, dd⟩ := dt_rd I.hok e
    obtain ⟨w', hw, rw'⟩ := RelO.some_of (v := v) (o := (atKey xs k).map (·.2)) (by rw [l]; exact rel.val k)
    obtain ⟨p, hp, hp2⟩ := Option.map_eq_some_iff.mp hw
    refine wpAny_getItem_heap (tupleKind_room_in1 hu) (key_of I.hok eb) dd hp ?_
    rw [hp2]
    exact h w' _ (I.tok _) rw'
theorem d_in {Q : Value → Shared → Prop} (hu : A.units + 1 < cLine) (I : Inv X pins σ H s) (g : DGet H a y o) (ry : RelV y u) (h : ∀ s', Inv X pins σ H s' → Q (.bool o.isSome) s') :
    wpAny (model X.prog X.w) A (compareOp .In u (.ref a)) Q E s := by
  rcases g with ⟨kvs, k, e, ey, l⟩ | ⟨kvs, k, b, e, ey, eb, l⟩
  · subst ey
    obtain ⟨z, hd, vs, rel, dd⟩ := dk_rd I.hok e
    refine wpAny_in_of (kV_is ry) hd dd.mapOf ?_
    rw [← (rel.val k).isSome_eq, ← l]
    exact h _ (I.tok _)
  · subst ey
    cases (show u = Value.ref b from ry)
    obtain ⟨z, hd, xs, rel, dd⟩ := dt_rd I.hok e
    refine wpAny_in_heap (tupleKind_room_in1 hu) (key_of I.hok eb) hd dd ?_
    have q := (rel.val k).isSome_eq
    rw [Option.isSome_map] at q
    rw [← q, ← l]
    exact h _ (I.tok _)
theorem d_notIn {Q : Value → Shared → Prop} (hu : A.units + 1 < cLine) (I : Inv X pins σ H s) (g : DGet H a y o) (ry : RelV y u) (h : ∀ s', Inv X pins σ H s' → Q (.bool (!o.isSome)) s') :
    wpAny (model X.prog X.w) A (compareOp .NotIn u (.ref a)) Q E s := by
  rcases g with ⟨kvs, k, e, ey, l⟩ | ⟨kvs, k, b, e, ey, eb, l⟩
  · subst ey
    obtain ⟨z, hd, vs, rel, dd⟩ := dk_rd I.hok e
    refine wpAny_notIn_of (kV_is ry) hd dd.mapOf ?_
    rw [← (rel.val k).isSome_eq, ← l]
    exact h _ (I.tok _)
  · subst ey
    cases (show u = Value.ref b from ry)
    obtain ⟨z, hd, xs, rel, dd⟩ := dt_rd I.hok e
    refine wpAny_notIn_heap (tupleKind_room_in1 hu) (key_of I.hok eb) hd dd ?_
    have q := (rel.val k).isSome_eq
    rw [Option.isSome_map] at q
    rw [← q, ← l]
    exact h _ (I.tok _)
theorem d_write {h' : Heap} {t' : Nat} {ob : HO} (I : Inv X pins σ H s) (mu : Mut (H a)) (hs : Heap.SameBut a s.heap h') (he : ∃ q, h'.get? a = some q) (new : ObjOk X.prog X.w (upd H a ob) h' a ob) :
    Inv X pins σ (upd H a ob) { s with heap := h', toks := t' } :=
  I.write (x := a) (e := a) mu (.inl rfl) (fun b q hb z => (hs.2 b hb).trans z) he new
end
section
variable {X : Cx} {pins : List (Addr × Obj)} {σ : St} {H : Hp} {s : Shared} {a : Addr} {kvs : List (Key × V)} {k : Key} {u : Value} {A : Around} {E : Value → Shared → Prop}
theorem d_len {Q : Value → Shared → Prop} (I : Inv X pins σ H s) (e : Rd H a (.dK kvs)) (h : ∀ t s', Inv X pins σ H s' → Q (.int kvs.length t) s') : wpAny (model X.prog X.w) A (call (.builtin "len") [.ref a]) Q E s := by
  obtain ⟨z, hd, vs, rel, dd⟩ := dk_rd I.hok e
  refine call_len_dict hd dd (by rw [← rel.length]; rw [sizeLine_eq] at z; omega) ?_
  rw [← rel.length]
  exact h _ _ (I.tok _)
end
theorem dict_typeIs {X : Cx} {pins : List (Addr × Obj)} {σ : St} {H : Hp} {s : Shared} {a : Addr} {y : V} {o : Option V} (I : Inv X pins σ H s) (g : DGet H a y o) : s.TypeIs (.ref a) "dict" := by
  rcases g with ⟨kvs, k, e, _, _⟩ | ⟨kvs, k, b, e, _, _, _⟩
  · obtain ⟨_, _, vs, _, dd⟩ := dk_rd I.hok e
    exact dd.typeIs
  · obtain ⟨_, _, xs, _, dd⟩ := dt_rd I.hok e
    exact dd.typeIs
def tPairs : List (TE × TE) → St → Hp → (List (V × V) → Hp → Prop) → Prop
  | [], _, H, Q => Q [] H
  | (tk, tv) :: r, σ, H, Q => tk σ H fun x H1 => tv σ H1 fun y H2 => tPairs r σ H2 fun ps H3 => Q ((x, y) :: ps) H3
abbrev VV : List (V × V) → List (Value × Value) → Prop := Paired fun p q => RelV p.1 q.1 ∧ RelV p.2 q.2
def PPs (X : Cx) (pos : Pos) (keys : List (Option Expr)) (values : List Expr) (trs : List (TE × TE)) : Prop :=
  ∀ (pins : List (Addr × Obj)) (s : Shared) (σ : St) (H : Hp) (Q : List (V × V) → Hp → Prop), Inv X pins σ H s → tPairs trs σ H Q →
    wpAny (model X.prog X.w) X.A (evalPairs (pairTrees keys values X.env pos)) (fun vs s' => ∃ ps H', Inv X pins σ H' s' ∧ VV ps vs ∧ Q ps H') X.xe s
theorem pps_nil {X : Cx} {pos : Pos} : PPs X pos [] [] [] := fun pins s σ H Q I h => pairTrees_nil_walk ⟨[], H, I, .nil, h⟩
theorem pps_cons {X : Cx} {pos : Pos} {k v : Expr} {ks : List (Option Expr)} {vs : List Expr} {tk tv : TE} {trs : List (TE × TE)} (hk : PE X k tk) (hv : PE X v tv) (hr : PPs X pos ks vs trs) :
    PPs X pos (some k :: ks) (v :: vs) ((tk, tv) :: trs) := fun pins s σ H Q I h =>
  pairTrees_cons_walk (thn (hk pins s σ H _ I h) fun u s1 ⟨x, H1, I1, rx, q1⟩ => thn (hv pins s1 σ H1 _ I1 q1) fun w2 s2 ⟨y, H2, I2, ry, q2⟩ =>
    thn (hr pins s2 σ H2 _ I2 q2) fun ws s3 ⟨ps, H3, I3, rel, q3⟩ => ⟨(x, y) :: ps, H3, I3, .cons ⟨rx, ry⟩ rel, q3⟩)
end L2
namespace Att
open PySem PySem.W PySem.Calls PyProof.Rows
theorem ints_of_wellAll {P : Params} {h : Heap} : ∀ (ns : List Int) (vs : List Value), WellAll P h vs (ns.map WData.int) → IntsAre vs ns := by
  intro ns
  induction ns with
  | nil =>
    intro vs w
    rw [List.map_nil] at w
    cases w
    exact .nil
  | cons n ns ih =>
    intro vs w
    rw [List.map_cons] at w
    cases w with
    | cons a b =>
      cases a
      exact .cons _ _ (ih _ b)
theorem script_of {l : OpenLaw} {n : Nat} (hn : l.most = some n) {P : Params} {h : Heap} {args : List WData} {vals : List Value}
    (hpre : l.row.toRowW.claim.pre args = true) (hwl : WellAll P h vals args) :
    ∃ a vs ns, vals = [Value.ref a] ∧ args = [WData.list (ns.map WData.int)] ∧ h.get? a = some { cls := .type "list", data := .seq vs.toArray } ∧ IntsAre vs ns ∧ ns.length ≤ n := by
  have hsh : WShape.hasAll [] args [.list .int] = true := (pre_splitW hpre).1
  have hc : l.pre.holds [] { args := args } = true := (pre_splitW hpre).2
  obtain ⟨d, r, rfl, h1, h2⟩ := hasAllW_cons hsh
  obtain rfl := hasAllW_nil h2
  obtain ⟨xs, rfl, h3⟩ := hasW_list h1
  obtain ⟨ns, rfl⟩ := items_int h3
  have hlen : ns.length ≤ n := by
    unfold OpenLaw.pre at hc
    have h4 : (WTm.not (.lt (.lit (.int (n : Int))) (.len (.arg 0)))).holds [] { args := [.list (ns.map .int)] } = true := by
      have h4 := (holds_andW hc).1
      rw [hn] at h4
      exact h4
    have h5 := condW_of h4 (w_not (w_lt w_lit (w_len_list (w_arg rfl))))
    rw [List.length_map] at h5
    refine Nat.le_of_not_lt fun q => ?_
    have q' : (n : Int) < ((ns.length : Nat) : Int) := by omega
    first
      | (rw [decide_eq_true q'] at h5; exact absurd h5 (by decide))
      | (simp at h5; omega)
  cases hwl with
  | cons w1 w2 =>
    cases w2
    cases w1 with
    | list ho hall => exact ⟨_, _, ns, rfl, rfl, ho, ints_of_wellAll ns _ hall, hlen⟩
theorem post_true (l : OpenLaw) (args : List WData) : l.row.toRowW.claim.post args (.bool true) args = true :=
  postW_of (r := l.row.toRowW) (X := (true == true))
    (show WShape.has [] (.bool true) .bool = true by first | rfl | decide | simp [WShape.has, WShape.arms, WShape.armsAll])
    (show (WTm.eq .res (.lit (.bool true))).value [] { args := args, res := some (.bool true), after := args } = some (.bool (true == true)) from w_eq_bool (w_res rfl) w_lit) rfl
theorem attach_call {l : OpenLaw} {n : Nat} {q : Program} {loose : List Str} {XP : (Str → Option Value) → Heap → Prop} {YP : World → Heap → Prop} {d : DefRec}
    (hn : l.most = some n) (hdf : d.params.defaults = [])
    (call : ∀ (w : World) (s₀ s₁ : Shared) (mg mb : Str → Option Value) (fa : Addr) (o : Obj) (pm cd doc : Value) (a : Addr) (vs : List Value) (ns : List Int),
      Ground q loose [] XP w s₀ mg mb s₁.heap → YP w s₁.heap →
      s₁.heap.get? fa = some o → o.data = .func (docDef d.name d.params d.body d.scope pm cd doc) → s₁.heap.CodeRec cd d.name → mg d.name = some (.ref fa) →
      s₁.heap.get? a = some { cls := .type "list", data := .seq vs.toArray } → IntsAre vs ns → ns.length ≤ n → s₁.gens = #[] →
      codeAny (model l.prog w) callerA (.call (.ref fa) ⟨[.ref a], []⟩) (fun r s' => r = .ok (.ret (.bool true)) ∧ OldK s₁.heap s'.heap ∧ s'.os = s₁.os ∧ AllBare s'.gens) s₁) :
    WalkO q loose XP YP l.row.toRowW d [] (fun f vs => PySem.call f vs) := by
  intro w s₀ s₁ mg mb G Y fa o pm cd doc dV kV ho hd hcd hD hmg hg args vals as hpre hlay hrd hwl hlo
  obtain rfl : dV = .none := Dflts.none hD hdf
  obtain rfl : kV = .none := Dflts.noKw hD
  obtain ⟨a, vs, ns, rfl, rfl, hobj, hints, hlen⟩ := script_of hn hpre hwl
  refine enter_call (codeAny_mono (call w s₀ s₁ mg mb fa o pm cd doc a vs ns G Y ho (fd_plain hd) hcd hmg hobj hints hlen hg) fun r s' hq => ?_)
  obtain ⟨rfl, h2, h3, h4⟩ := hq
  exact ⟨.inl ⟨.bool true, .bool true, [], rfl, fun _ => rfl, .bool true, post_true l _, fun _ => ⟨List.Pairwise.nil, fun _ hm => (nomatch hm)⟩⟩, h2, h3, h4⟩
section
variable {prog : Program} {w : World} {A : Around} {E : Value → Shared → Prop} {s : Shared} {K : Frag}
def noObjs (h : Heap) : Heap := { h with objs := #[] }
theorem noObjs_get (h : Heap) (b : Addr) : (noObjs h).get? b = none := by
  cases e : (noObjs h).get? b with
  | none => rfl
  | some o => exact absurd (Heap.lt_size e) (Nat.not_lt_zero _)
theorem fr_all {h : Heap} {L : Addr} {m : Str → Option Value} (n : h.Ns L m) : Fr (noObjs h) L h m :=
  ⟨n, fun b o e => (by rw [noObjs_get] at e; cases e), Nat.zero_le _⟩
end
end Att
namespace L2
open PySem PySem.Spec PyProof.Rows
theorem vals_ints : ∀ {vs : List Value} {ns : List Int}, IntsAre vs ns → Vals (ns.map V.int) vs
  | _, _, .nil => .nil
  | _, _, .cons n t h => .cons ⟨t, rfl⟩ (vals_ints h)
def Only (H : Hp) : Prop := ∀ b, H b = none ∨ ∃ o xs, H b = some (.frz o (.lst xs))
theorem law_call {P : Program} {w : World} {K : PySem.W.Frag} {mg mb : Str → Option Value} {CX : CXT} {k : Nat} {fa a : Addr} {fd : FuncData} {x : Str} {sp : Sp} {s₁ : Shared} {vs : List Value} {ns : List Int}
    (KX : K.In s₁.heap) (hns : s₁.heap.Ns mainGlobals mg) (hb : s₁.heap.Ns builtinsNs mb) (hbb : ∀ x : Str, x ≠ "__name__" → mb x = bootBuiltins x) (hlim : s₁.heap.NoLimit) (hg : s₁.gens = #[])
    (ha : s₁.heap.get? a = some { cls := .type "list", data := .seq vs.toArray }) (hi : IntsAre vs ns) (hl : ns.length ≤ sizeLine) (hr : Room k callerA)
    (F : ∀ base : Heap, K.In base → base.Ns mainGlobals mg → FnOk P w K mg base CX k fa fd [x] sp) (hbind : ∀ (s : Shared) (u : Value), BindsTo s fd ⟨[u], []⟩ [(x, u)])
    (hsp : ∀ H : Hp, Only H → SqL K H a (ns.map V.int) → sp [.ref a] H (fun v _ => v = .bl true) fun _ _ _ => False)
    (hCX : ∀ H e s', CX [] H s₁ (fun _ _ _ => False) e s' → False) :
    codeAny (model P w) callerA (.call (.ref fa) ⟨[.ref a], []⟩) (fun r s' => r = .ok (.ret (.bool true)) ∧ OldK s₁.heap s'.heap ∧ s'.os = s₁.os ∧ AllBare s'.gens) s₁ := by
  have rv := vals_ints hi
  have lenV := hi.length
  -- from an abstract heap in which nothing but the script may be tracked
  have core : ∀ H : Hp, Only H → SqL K H a (ns.map V.int) → HOk P w H s₁.heap → (∀ b, H b ≠ none → b = a) → (H a ≠ none → K.lookup a = none) →
      codeAny (model P w) callerA (.call (.ref fa) ⟨[.ref a], []⟩) (fun r s' => r = .ok (.ret (.bool true)) ∧ OldK s₁.heap s'.heap ∧ s'.os = s₁.os ∧ AllBare s'.gens) s₁ := by
    intro H hO hS hok hA hK
    have base_of : ∀ {b : Addr} {o : Obj}, s₁.heap.get? b = some o → H b = none → (hidT s₁.heap H).get? b = some o := fun e n => hidT_get e n
    have noA : ∀ {b : Addr} {o : Obj} {es : Array DictEntry} {ep : Nat}, s₁.heap.get? b = some o → o.data = .dict es ep → H b = none := fun {b o es ep} e d => by
      cases q : H b with
      | none => rfl
      | some u =>
        have e' : b = a := hA b (by rw [q]; simp)
        subst e'
        rw [ha] at e; cases e
        have d' : Data.seq vs.toArray _ = Data.dict es ep := d
        cases d'
    have nsK : ∀ {b : Addr} {m : Str → Option Value}, s₁.heap.Ns b m → (hidT s₁.heap H).Ns b m := fun {b m} ⟨o, es, ep, e, d, r⟩ => ⟨o, es, ep, base_of e (noA e d), d, r⟩
    have hKb : K.In (hidT s₁.heap H) := fun b o e => base_of (KX b o e) (by
      cases q : H b with
      | none => rfl
      | some u =>
        have e' : b = a := hA b (by rw [q]; simp)
        subst e'
        rw [hK (by rw [q]; simp)] at e; cases e)
    have hM : Mod K mg (hidT s₁.heap H) := ⟨hKb, nsK hns, ⟨mb, nsK hb, hbb⟩, let ⟨mc, h1, h2⟩ := hlim; ⟨mc, nsK h1, h2⟩⟩
    have e0 : Env0 P w K mg (hidT s₁.heap H) callerA [] s₁ H := ⟨rfl, hM, fun b o e => of_hidT e, Nat.le_of_eq (hidT_size _ _), trivial, fun b hb => absurd (show b ∈ ([] : List Addr) from hb) (by simp), hok, .of_eq hg⟩
    refine codeAny_mono ((F _ hKb (nsK hns)).run callerA [] s₁ H ⟨[.ref a], []⟩ [.ref a] [.ref a] _ _ hr e0 (hbind s₁ (.ref a)) (.cons rfl .nil) (hsp H hO hS)) fun r s' h => ?_
    cases r with
    | error e => exact (hCX H e s' h).elim
    | ok fl =>
      cases fl with
      | next => exact False.elim h
      | brk => exact False.elim h
      | cont => exact False.elim h
      | ret u =>
        obtain ⟨v, H', os, bare, un, hok', r', q⟩ := h
        have q' : v = .bl true := q
        subst q'
        obtain rfl : u = Value.bool true := r'
        refine ⟨rfl, OldK.of_keep fun b o e => ?_, os, bare⟩
        cases q : H b with
        | none => exact un.keep b o e q (by intro z; exact absurd (show b ∈ ([] : List Addr) from z) (by simp)) (by simp)
        | some u =>
          rcases hO b with z | ⟨ob, xs, z⟩
          · rw [q] at z; cases z
          · have z2 := un.frzs b ob _ z
            obtain ⟨e1, _⟩ := hok b _ z
            obtain ⟨e2, _⟩ := hok' b _ z2
            rw [e] at e1; cases e1
            exact e2
  cases hk : K.lookup a with
  | some o =>
    -- the script is one of the module's own objects
    have e := KX a o hk
    rw [ha] at e
    cases e
    refine core (fun _ => none) (fun _ => .inl rfl) (.inr ⟨_, vs.toArray, _, hk, rfl, rfl, rfl, by rw [List.size_toArray, lenV]; exact hl, by simpa using rv⟩) (fun b u z => by have z' : (none : Option HO) = some u := z; cases z') (fun b z => absurd rfl z) fun z => absurd rfl z
  | none =>
    refine core (fun b => if b = a then some (.frz { cls := .type "list", data := .seq vs.toArray } (.lst (ns.map V.int))) else none) (fun b => ?_) (.inl (.inr ⟨{ cls := .type "list", data := .seq vs.toArray }, if_pos rfl⟩)) (fun b u z => ?_) (fun b z => ?_) fun _ => hk
    · by_cases hb : b = a
      · exact .inr ⟨_, _, if_pos hb⟩
      · exact .inl (if_neg hb)
    · by_cases hb : b = a
      · have z' := (if_pos hb).symm.trans z
        cases z'
        subst hb
        exact ⟨ha, by rw [List.length_map]; exact hl, vs, _, rv, ha⟩
      · have z' := (if_neg hb).symm.trans z
        cases z'
    · by_cases hb : b = a
      · exact hb
      · exact absurd (if_neg hb) z
end L2
namespace L2
open PySem PySem.Spec PyProof.Rows
theorem walk_of {l : PySem.W.OpenLaw} {n k : Nat} {q : Program} {loose : List Str} {XP : (Str → Option Value) → Heap → Prop} {YP : World → Heap → Prop} {d : DefRec} {K : Params → PySem.W.Frag} {CX : World → CXT} {sp : World → Sp} {x : Str}
    (hn : l.most = some n) (hn2 : n ≤ sizeLine) (hdf : d.params.defaults = []) (hr : Room k callerA)
    (hY : ∀ (w : World) (h : Heap), YP w h → (K w.params).In h)
    (F : ∀ (w : World) (mg : Str → Option Value) (fa : Addr) (h : Heap), (K w.params).In h → h.Ns mainGlobals mg → mg d.name = some (.ref fa) →
      ∃ fd : FuncData, (∀ (s : Shared) (u : Value), BindsTo s fd ⟨[u], []⟩ [(x, u)]) ∧
        ∀ base : Heap, (K w.params).In base → base.Ns mainGlobals mg → FnOk l.prog w (K w.params) mg base (CX w) k fa fd [x] (sp w))
    (hsp : ∀ (w : World) (H : Hp) (a : Addr) (ns : List Int), ns.length ≤ n → Only H → SqL (K w.params) H a (ns.map V.int) → sp w [.ref a] H (fun v _ => v = .bl true) fun _ _ _ => False)
    (hCX : ∀ (w : World) (H : Hp) (s : Shared) (e : Value) (s' : Shared), CX w [] H s (fun _ _ _ => False) e s' → False) :
    PySem.W.WalkO q loose XP YP l.row.toRowW d [] (fun f vs => PySem.call f vs) := by
  refine Att.attach_call hn hdf fun w s₀ s₁ mg mb fa o pm cd doc a vs ns G Y ho hd hcd hmg hobj hints hlen hg => ?_
  have KX := hY w _ Y
  obtain ⟨fd, hb, hF⟩ := F w mg fa _ KX G.T.g hmg
  exact law_call KX G.T.g G.T.b G.T.builtins G.T.nolimit hg hobj hints (Nat.le_trans hlen hn2) hr hF hb (fun H hO hS => hsp w H a ns hlen hO hS) fun H e s' => hCX w H s₁ e s'
end L2
namespace L2
open PySem PySem.Spec PyProof.Rows
def defArgs (s : Stmt) : Arguments := match s with
  | .FunctionDef _ a _ _ _ _ _ _ _ _ => a
  | _ => { posonlyargs := [], args := [], vararg := none, kwonlyargs := [], kw_defaults := [], kwarg := none, defaults := [] }
def defBody (s : Stmt) : List Stmt := match s with
  | .FunctionDef _ _ b _ _ _ _ _ _ _ => b
  | _ => []
def defScope (s : Stmt) : Scope := match s with
  | .FunctionDef _ _ _ _ _ _ sc _ _ _ => sc
  | _ => { kind := .function, names := [], isGenerator := false, isCoroutine := false }
abbrev CX0 : CXT := fun _ _ _ _ _ _ => False
structure Fun (K : PySem.W.Frag) (x qual : Str) (st : Stmt) (f : Addr) (fd : FuncData) : Prop where
  ex : ∃ (oc : Value) (od : Option Addr) (kV doc pm : Value) (an : Option Addr) (cdv ct : Value) (osl : Array (Option Value)),
    fd = PySem.W.fnOf x qual (defArgs st) (defBody st) (defScope st) .none kV doc pm an cdv ct ∧ K.lookup f = some ⟨oc, od, .func fd, osl⟩ ∧ PySem.W.codeIn K cdv qual = true
  kp : PySem.W.keepIn K (.ref f) = true
section
variable {P : Program} {w : World} {K : PySem.W.Frag} {mg : Str → Option Value} {base : Heap}
theorem Fun.ok {x qual : Str} {st : Stmt} {f : Addr} {fd : FuncData} {N ps : List Str} {k : Nat} {sp : Sp} (F : Fun K x qual st f fd) (S : FnScope N ps (defScope st)) (len : ∀ vs H Q E, sp vs H Q E → vs.length = ps.length)
    (hbody : ∀ (cdv : Value) (A : Around) (outer : List Env) (s : Shared) (H : Hp) (vs : List V) (Q : VK) (E : XK), Room k (A.deeper (envOfC qual (defScope st) s.heap.objs.size f cdv)) → sp vs H Q E →
      ∃ t, PSs (cxOf CX0 P w K mg base N qual (defScope st) f cdv A outer s H E).nox (defBody st) t ∧ t { nx := fun _ H' => Q .non H', rt := Q } (start N vs) H) : FnOk P w K mg base CX0 (k + 1) f fd ps sp := by
  obtain ⟨oc, od, kV, doc, pm, an, cdv, ct, osl, rfl, lk, hcd⟩ := F.ex
  refine fn_of lk hcd S len fun A outer s H vs Q E hr hsp => ?_
  obtain ⟨t, h, q⟩ := hbody cdv A outer s H vs Q E hr hsp
  exact ⟨t, h.nox, q⟩
theorem Fun.binds {x qual : Str} {st : Stmt} {f : Addr} {fd : FuncData} {ps : List Str} (F : Fun K x qual st f fd)
    (h : ∀ (kV doc pm : Value) (an : Option Addr) (cdv ct : Value) (us : List Value), us.length = ps.length → bindArgs (PySem.W.fnOf x qual (defArgs st) (defBody st) (defScope st) .none kV doc pm an cdv ct) ⟨us, []⟩ = pure (ps.zip us)) : Binds K fd ps [] := by
  obtain ⟨oc, od, kV, doc, pm, an, cdv, ct, osl, rfl, lk, hcd⟩ := F.ex
  exact .all (h kV doc pm an cdv ct)
theorem fun_mk {x qual : Str} {st : Stmt} {f : Addr} {oc : Value} {od an : Option Addr} {osl : Array (Option Value)} {kV doc pm cdv ct : Value} (l : K.lookup f = some ⟨oc, od, .func (PySem.W.fnOf x qual (defArgs st) (defBody st) (defScope st) .none kV doc pm an cdv ct), osl⟩)
    (c : PySem.W.codeIn K cdv qual = true) (k : PySem.W.keepIn K (.ref f) = true) : Fun K x qual st f (PySem.W.fnOf x qual (defArgs st) (defBody st) (defScope st) .none kV doc pm an cdv ct) := ⟨⟨oc, od, kV, doc, pm, an, cdv, ct, osl, rfl, l, c⟩, k⟩
end
section
variable {X : Cx}
theorem pv (i : Nat) {x : Str} {pos : Pos} (hN : X.N[i]? = some x := by rfl) (hv : Vis X.env.scope x := by first | exact Or.inl rfl | exact Or.inr (Or.inl rfl) | exact Or.inr (Or.inr rfl)) (hd : (x == ("__debug__" : Str)) = false := by decide)
    (hcd : (x == ("__classdict__" : Str)) = false := by decide) : PE X (.Name x pos) (tVar i) := pe_var hN hv hd hcd
theorem call_lenD : CallR X (.builtin "len") (fun xs H Q => ∃ a kvs, xs = [V.ref a] ∧ H a = some (.dK kvs) ∧ Q (.int kvs.length) H) := by
  intro pins s σ H xs us Q I r h
  obtain ⟨a, kvs, rfl, ha, q⟩ := h
  obtain ⟨u, rfl, ru⟩ := vals1 r
  cases ru
  exact d_len I (.inl ha) fun t s' I' => ⟨.int kvs.length, H, I', ⟨t, rfl⟩, q⟩
end
def Same (H H' : Hp) : Prop := ∀ b o, H b = some o → H' b = some o
theorem Same.refl (H : Hp) : Same H H := fun _ _ h => h
theorem Same.trans {H H1 H2 : Hp} (a : Same H H1) (b : Same H1 H2) : Same H H2 := fun c o h => b c o (a c o h)
theorem Same.free {H H' : Hp} (e : Same H H') {l : Addr} (h : H' l = Option.none) : H l = Option.none := by
  cases q : H l with
  | none => rfl
  | some o =>
    rw [e l o q] at h
    cases h
theorem Same.seq {K : PySem.W.Frag} {H H' : Hp} {a : Addr} {xs : List V} (e : Same H H') (h : SqL K H a xs) : SqL K H' a xs := by
  rcases h with (h | ⟨o, h⟩) | h
  · exact .inl (.inl (e _ _ h))
  · exact .inl (.inr ⟨o, e _ _ h⟩)
  · exact .inr h
end L2
set_option Elab.async false
set_option linter.all false
set_option maxRecDepth 100000
set_option maxHeartbeats 4000000
namespace L2
open PySem PySem.Spec PyProof.Rows
def closeOf (cells : List (Str × Addr)) : List (Str × NameKind) → List (Str × Addr) → List (Str × Addr)
  | [], acc => acc
  | (n, k) :: r, acc => closeOf cells r (if k == .free then (n, (cells.lookup n).getD 0) :: acc else acc)
theorem closeOf_lookup {cells : List (Str × Addr)} {x : Str} {c : Addr} : ∀ {names : List (Str × NameKind)} {acc : List (Str × Addr)},
    (∀ y ∈ names, y.2 = .free → ∃ c, cells.lookup y.1 = some c) → (∀ y c, acc.lookup y = some c → cells.lookup y = some c) → (closeOf cells names acc).lookup x = some c → cells.lookup x = some c
  | [], acc, _, ha, h => ha x c h
  | (n, k) :: r, acc, hf, ha, h => by
    refine closeOf_lookup (names := r) (fun y hy => hf y (List.mem_cons_of_mem _ hy)) (fun y c' => ?_) h
    by_cases hk : k = .free
    · subst hk
      obtain ⟨c0, e0⟩ := hf (n, .free) List.mem_cons_self rfl
      intro e
      have e1 : (if (NameKind.free == NameKind.free) = true then (n, (cells.lookup n).getD 0) :: acc else acc) = (n, (cells.lookup n).getD 0) :: acc := if_pos (show (NameKind.free == NameKind.free) = true from rfl)
      rw [e1, List.lookup_cons] at e
      cases hyn : y == n with
      | true =>
        rw [hyn] at e
        have e2 : y = n := by simpa using hyn
        subst e2
        have e3 := Option.some.inj e
        have e0' : cells.lookup y = some c0 := e0
        rw [e0'] at e3 ⊢
        exact congrArg some e3
      | false => rw [hyn] at e; exact ha y c' e
    · have e1 : (if (k == NameKind.free) = true then (n, (cells.lookup n).getD 0) :: acc else acc) = acc := if_neg (by simpa using hk)
      rw [e1]; exact ha y c'
theorem closeOf_has {cells : List (Str × Addr)} {x : Str} : ∀ {names : List (Str × NameKind)} {acc : List (Str × Addr)},
    ((∃ c, acc.lookup x = some c) ∨ ∃ y ∈ names, y.2 = .free ∧ y.1 = x) → ∃ c, (closeOf cells names acc).lookup x = some c
  | [], acc, h => by
    rcases h with h | ⟨y, hy, _⟩
    · exact h
    · cases hy
  | (n, k) :: r, acc, h => by
    refine closeOf_has (names := r) ?_
    by_cases hk : k = .free
    · subst hk
      have e1 : (if (NameKind.free == NameKind.free) = true then (n, (cells.lookup n).getD 0) :: acc else acc) = (n, (cells.lookup n).getD 0) :: acc := if_pos (show (NameKind.free == NameKind.free) = true from rfl)
      rw [e1, List.lookup_cons]
      cases hxn : x == n with
      | true => exact .inl ⟨_, rfl⟩
      | false =>
        rcases h with h | ⟨y, hy, hf, e⟩
        · exact .inl h
        · rcases List.mem_cons.mp hy with z | z
          · subst z
            have e' : n = x := e
            subst e'
            simp at hxn
          · exact .inr ⟨y, z, hf, e⟩
    · have e1 : (if (k == NameKind.free) = true then (n, (cells.lookup n).getD 0) :: acc else acc) = acc := if_neg (by simpa using hk)
      rw [e1]
      rcases h with h | ⟨y, hy, hf, e⟩
      · exact .inl h
      · rcases List.mem_cons.mp hy with z | z
        · subst z; exact absurd hf hk
        · exact .inr ⟨y, z, hf, e⟩
theorem closureFor_of {scope : Scope} {env : Env} (hf : ∀ y ∈ scope.names, y.2 = .free → ∃ c, env.cells.lookup y.1 = some c) : closureFor scope env = pure (closeOf env.cells scope.names []) := by
  have go : ∀ (names : List (Str × NameKind)) (acc : List (Str × Addr)), (∀ y ∈ names, y.2 = .free → ∃ c, env.cells.lookup y.1 = some c) →
      (forIn names acc fun x cs => if (x.2 == NameKind.free) = true then do let a ← cellOf env x.1; pure (ForInStep.yield ((x.1, a) :: cs)) else pure (ForInStep.yield cs) : Sem (List (Str × Addr))) = pure (closeOf env.cells names acc) := by
    intro names
    induction names with
    | nil => intro acc _; rfl
    | cons p r ih =>
      intro acc h
      obtain ⟨n, k⟩ := p
      rw [List.forIn_cons]
      by_cases hk : k = .free
      · subst hk
        obtain ⟨c, e⟩ := h (n, .free) List.mem_cons_self rfl
        have e' : env.cells.lookup n = some c := e
        have e1 : cellOf env n = pure c := by unfold cellOf; rw [e']
        have e2 : closeOf env.cells ((n, NameKind.free) :: r) acc = closeOf env.cells r ((n, c) :: acc) := by
          show closeOf env.cells r (if (NameKind.free == NameKind.free) = true then (n, (env.cells.lookup n).getD 0) :: acc else acc) = _
          rw [if_pos (show (NameKind.free == NameKind.free) = true from rfl), e']; rfl
        rw [e2, ← ih _ fun y hy => h y (List.mem_cons_of_mem _ hy)]
        show ((if (NameKind.free == NameKind.free) = true then do let a ← cellOf env n; pure (ForInStep.yield ((n, a) :: acc)) else pure (ForInStep.yield acc)) >>= _ : Sem _) = _
        rw [if_pos (show (NameKind.free == NameKind.free) = true from rfl), e1]
        rfl
      · have hk' : (k == NameKind.free) = false := by simpa using hk
        have e2 : closeOf env.cells ((n, k) :: r) acc = closeOf env.cells r acc := by
          show closeOf env.cells r (if (k == NameKind.free) = true then _ else acc) = _
          rw [if_neg (by rw [hk']; exact Bool.false_ne_true)]
        rw [e2, ← ih _ fun y hy => h y (List.mem_cons_of_mem _ hy)]
        show ((if (k == NameKind.free) = true then do let a ← cellOf env n; pure (ForInStep.yield ((n, a) :: acc)) else pure (ForInStep.yield acc)) >>= _ : Sem _) = _
        rw [if_neg (by rw [hk']; exact Bool.false_ne_true)]
        rfl
  have := go scope.names [] hf
  unfold closureFor
  simpa using this
theorem compLoop_gen {prog : Program} {w : World} {A : Around} {R : Result → Shared → Prop} {s : Shared} {elt target iter : Expr} {ifs : List Expr} {scope : Scope} {pos : Pos} {it acc : Value} {env : Env} (I : Nat → Shared → Prop)
    (turn : ∀ n s, I n s → wpAny (model prog w) A (pyNext it) (fun r s₁ => match r with
      | none => R (.ok .next) s₁
      | some v => wpAny (model prog w) A (letOwnedTupleGo target it v) (fun _ s₁' => wpAny (model prog w) A (assign target env v) (fun _ s₂ =>
          wpAny (model prog w) A (forIn ifs true fun c r => if r = true then do let ok ← isTrue c env (eval c env); pure (ForInStep.yield ok) else pure (ForInStep.yield r)) (fun ok s₃ =>
            if ok = true then wpAny (model prog w) A (eval elt env) (fun x s₄ =>
              wpAny (model prog w) A (call (.builtin "list.append") [acc, x]) (fun _ s₅ => ∃ m, m < n ∧ I m s₅) (fun _ _ => False) s₄) (fun _ _ => False) s₃
            else ∃ m, m < n ∧ I m s₃) (fun _ _ => False) s₂) (fun _ _ => False) s₁') (fun _ _ => False) s₁) (fun _ _ => False) s)
    (n : Nat) (h : I n s) :
    codeAny (model prog w) A (.compLoop (.ListComp elt [⟨target, iter, ifs, 0⟩] scope pos) 0 it acc env) R s := by
  refine codeAny_loop rfl I (fun n s hI => ?_) n h
  show wpAny _ A ((compTurn (.ListComp elt [⟨target, iter, ifs, 0⟩] scope pos) 0 it acc env).onRaise (fun x => do noteFrame x env; theTreesLotGoes x)) _ _ s
  refine wpAny_noted ?_
  rw [compTurn_list]
  refine wpAny_bind (wpAny_standAt (wpAny_bind (wpAny_mono (turn n s hI) (fun r s₁ h₁ => ?_) fun _ _ h' => h'.elim)))
  cases r with
  | none => exact wpAny_pure h₁
  | some v =>
    refine wpAny_bind (wpAny_mono h₁ (fun _ s₁' h₁' => ?_) fun _ _ h' => h'.elim)
    refine wpAny_bind (wpAny_mono h₁' (fun _ s₂ h₂ => wpAny_bind (wpAny_mono h₂ (fun ok s₃ h₃ => ?_) fun _ _ h' => h'.elim)) fun _ _ h' => h'.elim)
    cases ok with
    | false => exact wpAny_pure ⟨rfl, h₃⟩
    | true =>
      exact wpAny_bind (wpAny_bind (wpAny_mono h₃ (fun x s₄ h₄ => wpAny_bind (wpAny_mono h₄ (fun _ s₅ h₅ => wpAny_pure (wpAny_pure ⟨rfl, h₅⟩)) fun _ _ h' => h'.elim)) fun _ _ h' => h'.elim))
theorem lookup_relabel {env : Env} : ∀ {names : List (Str × NameKind)} {x : Str},
    (names.map fun (n, k) => if (k == NameKind.free && env.scope.kind == .function && env.kindOf n == some .cell) then (n, NameKind.cell) else (n, k)).lookup x =
      (names.lookup x).map fun k => if (k == NameKind.free && env.scope.kind == .function && env.kindOf x == some .cell) then NameKind.cell else k
  | [], _ => rfl
  | (n, k) :: r, x => by
    have ih := @lookup_relabel env r x
    show List.lookup x ((if (k == NameKind.free && env.scope.kind == .function && env.kindOf n == some .cell) = true then (n, NameKind.cell) else (n, k)) :: _) = _
    cases hx : x == n with
    | true =>
      have e : x = n := by simpa using hx
      subst e
      by_cases hc : (k == NameKind.free && env.scope.kind == .function && env.kindOf x == some .cell) = true
      · rw [if_pos hc]; simp only [List.lookup_cons, hx, Option.map_some, hc, if_true]
      · rw [if_neg hc]; simp only [List.lookup_cons, hx, Option.map_some, hc, if_false]; rfl
    | false =>
      by_cases hc : (k == NameKind.free && env.scope.kind == .function && env.kindOf n == some .cell) = true
      · rw [if_pos hc]; simp only [List.lookup_cons, hx]; exact ih
      · rw [if_neg hc]; simp only [List.lookup_cons, hx]; exact ih
def cxComp (X : Cx) (sc : Scope) (N' : List Str) (fp : List Addr) (s₃ : Shared) (H₃ : Hp) : Cx :=
  { X with env := compEnvC sc (closeOf X.env.cells sc.names []) s₃.heap.objs.size X.env, N := N', s₀ := s₃, H₀ := H₃, outer := X.stack, ex := fp, fn := fun _ => false, pn := [], xe := fun _ _ => False }
def selV (ix : List Nat) (σ : St) : St := ix.map fun j => (σ[j]?).getD none
structure CompOk (X : Cx) (sc : Scope) (caps : List Str) (ix : List Nat) : Prop where
  calm : X.calm = true
  kind : sc.kind = .function
  ncell : ∀ y ∈ sc.names, y.2 ≠ .cell
  free : ∀ y ∈ sc.names, y.2 = .free → X.env.kindOf y.1 = some .cell ∨ X.env.kindOf y.1 = some .free
  names : ∀ y ∈ sc.names, y.2 = .local → sc.names.lookup y.1 = some .local
  cap : ∀ (j : Nat) x, caps[j]? = some x → sc.names.lookup x = some .free ∧ ∃ i, ix[j]? = some i ∧ X.N[i]? = some x
  len : ix.length = caps.length
def compCheck (fsc : Scope) (N : List Str) (sc : Scope) (caps : List Str) (ix : List Nat) : Bool :=
  sc.kind == .function && sc.names.all (fun y => y.2 != .cell) && sc.names.all (fun y => y.2 != .free || (fsc.names.lookup y.1 == some .cell || fsc.names.lookup y.1 == some .free)) &&
    sc.names.all (fun y => y.2 != .local || sc.names.lookup y.1 == some .local) && caps.all (fun x => sc.names.lookup x == some .free) && (ix.map fun i => N[i]?) == caps.map some
theorem compOk_of {X : Cx} {sc : Scope} {caps : List Str} {ix : List Nat} (hc : X.calm = true) (h : compCheck X.env.scope X.N sc caps ix = true) : CompOk X sc caps ix := by
  unfold compCheck at h
  simp only [Bool.and_eq_true] at h
  obtain ⟨⟨⟨⟨⟨h1, h2⟩, h3⟩, h4⟩, h5⟩, h6⟩ := h
  have e6 : (ix.map fun i => X.N[i]?) = caps.map some := by simpa using h6
  have elen : ix.length = caps.length := by simpa using congrArg List.length e6
  refine ⟨hc, by simpa using h1, fun y hy => ?_, fun y hy hf => ?_, fun y hy hl => ?_, fun j x hj => ⟨?_, ?_⟩, elen⟩
  · have := List.all_eq_true.mp h2 y hy
    simpa using this
  · have := List.all_eq_true.mp h3 y hy
    rw [hf] at this
    simp only [bne_self_eq_false, Bool.false_or, Bool.or_eq_true, beq_iff_eq] at this
    exact this
  · have := List.all_eq_true.mp h4 y hy
    rw [hl] at this
    simpa using this
  · have := List.all_eq_true.mp h5 x (List.mem_of_getElem? hj)
    simpa using this
  · have hjl : j < ix.length := by rw [elen]; exact (List.getElem?_eq_some_iff.mp hj).1
    refine ⟨ix[j], List.getElem?_eq_getElem hjl, ?_⟩
    have q := congrArg (fun l => l[j]?) e6
    simp only [List.getElem?_map, List.getElem?_eq_getElem hjl, hj, Option.map_some] at q
    exact Option.some.inj q
section
variable {X : Cx} {sc : Scope} {tgs caps : List Str} {ix : List Nat} {pins : List (Addr × Obj)} {σ : St} {H : Hp} {s : Shared} {fp : List Addr}
theorem CompOk.free_cell (C : CompOk X sc caps ix) (I : Inv X pins σ H s) : ∀ y ∈ sc.names, y.2 = .free → ∃ c, X.env.cells.lookup y.1 = some c := fun y hy hf => I.ok.has y.1 (C.free y hy hf)
theorem CompOk.sub (C : CompOk X sc caps ix) (I : Inv X pins σ H s) {x : Str} {c : Addr} (h : (closeOf X.env.cells sc.names []).lookup x = some c) : X.env.cells.lookup x = some c :=
  closeOf_lookup (C.free_cell I) (fun _ _ e => by cases e) h
theorem comp_start (C : CompOk X sc caps ix) (I : Inv X pins σ H s) (hf : ∀ b ∈ fp, FpOk X pins H b) (hl : ∀ b ∈ fp, b < s.heap.objs.size) {h' : Heap} {t' : Nat} {m : Str → Option Value} (hn : h'.Ns s.heap.objs.size m)
    (hk : ∀ b o, s.heap.get? b = some o → h'.get? b = some o) :
    Inv (cxComp X sc (tgs ++ caps) fp s H) [] (List.replicate tgs.length none ++ selV ix σ) H { s with heap := h', toks := t' } := by
  have sub : ∀ {x c}, (closeOf X.env.cells sc.names []).lookup x = some c → X.env.cells.lookup x = some c := fun h => C.sub I h
  have clt : ∀ {x c}, X.env.cells.lookup x = some c → c < s.heap.objs.size := fun {x c} h => by
    obtain ⟨v, q⟩ := I.cell x c h
    exact q.lt
  refine ⟨⟨I.ok.mod, C.kind, I.ok.glob, I.ok.blt, Nat.le_refl _, fun x y c h1 h2 => I.ok.inj x y c (sub h1) (sub h2), fun x hx => ?_, fun x c hfn _ => ?_, I.ok.hd, I.ok.frames, .inl rfl, fun b hb => ⟨?_, fun x c h z => ?_⟩, fun b o e => I.bs b o e, Nat.le_trans I.ok.bsz I.sz, fun b o e hb => ?_, fun b hb hfs => ?_, I.stack, I.stkFree⟩,
    rfl, I.bare, Un.kept hk, ⟨m, hn, fun i x v e1 e2 e3 => ?_⟩, fun x c h => ?_, I.hok.fresh (Nat.le_refl _), fun x c h => I.freeC x c (sub h), fun p hp => absurd (show p ∈ ([] : List (Addr × Obj)) from hp) (by simp), I.hok.kept hk, ?_⟩
  · -- a cell or free name of the block has a cell
    have hx' : (relabel sc X.env).names.lookup x = some .cell ∨ (relabel sc X.env).names.lookup x = some .free := hx
    have e : (relabel sc X.env).names.lookup x = (sc.names.lookup x).map fun k => if (k == NameKind.free && X.env.scope.kind == .function && X.env.kindOf x == some .cell) then NameKind.cell else k := lookup_relabel
    rw [e] at hx'
    cases q : sc.names.lookup x with
    | none => rw [q] at hx'; rcases hx' with z | z <;> cases z
    | some k =>
      have hm : (x, k) ∈ sc.names := PySem.mem_of_lookup q
      have hkf : k = .free := by
        rw [q] at hx'
        simp only [Option.map_some] at hx'
        by_cases hkk : k = .free
        · exact hkk
        · have : (k == NameKind.free) = false := by simpa using hkk
          simp only [this, Bool.false_and, Bool.false_eq_true, if_false] at hx'
          rcases hx' with z | z
          · exact absurd (Option.some.inj z) (C.ncell _ hm)
          · exact Option.some.inj z
      subst hkf
      exact closeOf_has (.inr ⟨_, hm, rfl, rfl⟩)
  · exact absurd (show false = true from hfn) Bool.false_ne_true
  · exact Nat.ne_of_lt (hl b hb)
  · exact (hf b hb).2.2.2.2.1 x c (sub h) z
  · obtain ⟨_, _, _, hx, _⟩ := hf b hb
    rcases hx with z | z
    · exact I.ok.noex b o e z
    · exact absurd (Nat.lt_of_lt_of_le (Heap.lt_size e) (Nat.le_trans I.ok.bsz z)) (Nat.lt_irrefl _)
  · obtain ⟨_, h1, h2, _⟩ := hf b hb
    rcases List.mem_cons.mp (I.stkSub b hfs) with z | z
    · exact h1 z
    · exact h2 z
  · -- the captured names' values
    have hi : tgs.length ≤ i := by
      by_cases hi : i < tgs.length
      · rw [List.getElem?_append_left (by simpa using hi), List.getElem?_replicate] at e2
        split at e2 <;> cases e2
      · omega
    have e1' : caps[i - tgs.length]? = some x := by
      have : (tgs ++ caps)[i]? = some x := e1
      rw [List.getElem?_append_right hi] at this
      exact this
    rw [List.getElem?_append_right (by simpa using hi), List.length_replicate] at e2
    obtain ⟨hfr, j, hj, hjN⟩ := C.cap _ x e1'
    have e2' : σ[j]? = some (some v) := by
      unfold selV at e2
      rw [List.getElem?_map, hj] at e2
      simp only [Option.map_some] at e2
      have e2 := Option.some.inj e2
      cases q : σ[j]? with
      | none => rw [q] at e2; cases e2
      | some o => rw [q] at e2; exact congrArg some e2
    have hmem : (x, NameKind.free) ∈ sc.names := PySem.mem_of_lookup hfr
    have hkind := C.free _ hmem rfl
    obtain ⟨m0, hn0, hl0⟩ := I.loc
    have hvis : Vis X.env.scope x := hkind.elim (fun z => .inr (.inl z)) fun z => .inr (.inr z)
    obtain ⟨u, r, look⟩ := hl0 j x v hjN e2' hvis
    refine ⟨u, r, ?_⟩
    rcases look with ⟨k, _⟩ | ⟨_, c, hc, z⟩
    · rcases hkind with q | q
      · rw [show X.env.kindOf x = some .cell from q] at k; cases k
      · rw [show X.env.kindOf x = some .free from q] at k; cases k
    · obtain ⟨c', hc'⟩ := closeOf_has (cells := X.env.cells) (names := sc.names) (acc := []) (x := x) (.inr ⟨_, hmem, rfl, rfl⟩)
      have hcc : c' = c := by have := sub hc'; rw [hc] at this; exact (Option.some.inj this).symm
      subst hcc
      refine .inr ⟨?_, c', hc', ?_⟩
      · have e : (relabel sc X.env).names.lookup x = (sc.names.lookup x).map fun k => if (k == NameKind.free && X.env.scope.kind == .function && X.env.kindOf x == some .cell) then NameKind.cell else k := lookup_relabel
        show (relabel sc X.env).names.lookup x = some .cell ∨ (relabel sc X.env).names.lookup x = some .free
        rw [e, hfr]
        simp only [Option.map_some]
        split
        · exact .inl rfl
        · exact .inr rfl
      · obtain ⟨o, ho, hd⟩ := z
        exact ⟨o, hk _ o ho, hd⟩
  · obtain ⟨v, o, ho, hd⟩ := I.cell x c (sub h)
    exact ⟨v, o, hk _ o ho, hd⟩
  · show _ = (tgs ++ caps).length
    unfold selV
    rw [List.length_append, List.length_replicate, List.length_map, List.length_append, C.len]
inductive PTs (X : Cx) : List Expr → TT → Prop where
  | nil : PTs X [] (fun _ H Q => Q true H)
  | one {c : Expr} {t : TT} (h : PT X c t) : PTs X [c] t
theorem PTs.run {X : Cx} {ifs : List Expr} {t : TT} (h : PTs X ifs t) {pins : List (Addr × Obj)} {s : Shared} {σ : St} {H : Hp} {Q : Bool → Hp → Prop} (I : Inv X pins σ H s) (q : t σ H Q) :
    wpAny (model X.prog X.w) X.A (forIn ifs true fun c r => if r = true then do let ok ← isTrue c X.env (eval c X.env); pure (ForInStep.yield ok) else pure (ForInStep.yield r)) (TP X pins σ Q) X.xe s := by
  cases h with
  | nil => exact wpAny_tests_nil ⟨H, I, q⟩
  | one h => exact wpAny_tests_one (h pins s σ H Q I q)
def CompW (J : It) (D : Addr) (B : V → Hp → (List V → Hp → Prop) → Prop) (cs : St) (tt : TT) (te : TE) (Q : VK) (H1 : Hp) : Prop :=
  ∃ W : Nat → Nat → List V → Hp → Prop, (∃ m, W 0 m [] (upd H1 D (.lst []))) ∧ ∀ i m ys H, W i m ys H →
    H D = some (.lst ys) ∧ ((J.stop i H ∧ Q (.ref D) H) ∨ (J.go i H ∧ ∀ x H', J.yld i H x H' → B x H' fun vals H2 => tt (vals.map some ++ cs) H2 fun b H3 =>
      if b = true then te (vals.map some ++ cs) H3 fun y H4 => H4 D = some (.lst ys) ∧ ys.length < sizeLine ∧ ∃ m', m' < m ∧ W (i + 1) m' (ys ++ [y]) (upd H4 D (.lst (ys ++ [y])))
      else ∃ m', m' < m ∧ W (i + 1) m' ys H3))
def tComp (wi : TI) (B : V → Hp → (List V → Hp → Prop) → Prop) (ix : List Nat) (tt : TT) (te : TE) : TE := fun σ H Q => wi σ H fun J H1 => ∀ D, H1 D = none → CompW J D B (selV ix σ) tt te Q H1
variable {elt tg iter : Expr} {ifs : List Expr} {pos : Pos} {g : TG} {B : V → Hp → (List V → Hp → Prop) → Prop} {tt : TT} {te : TE}
theorem comp_block (C : CompOk X sc caps ix) (hg : ∀ fp s H, PG (cxComp X sc (tgs ++ caps) fp s H) tg g)
    (hB : ∀ (x : V) (σt cs : St) (H : Hp) (Q : St → Hp → Prop), σt.length = tgs.length → B x H (fun vals H2 => Q (vals.map some ++ cs) H2) → g x (σt ++ cs) H fun σ2 H2 => (∃ vals : List V, vals.length = tgs.length ∧ σ2 = vals.map some ++ cs) ∧ Q σ2 H2)
    (ht : ∀ fp s H, PTs (cxComp X sc (tgs ++ caps) fp s H) ifs tt) (he : ∀ fp s H, PE (cxComp X sc (tgs ++ caps) fp s H) elt te)
    {J : It} {it : Addr} {tn : Nat → Heap → Prop} {Q : VK} {E : Value → Shared → Prop} (I2 : Inv X pins σ H s) (T : Turn X.prog X.w X.K tg J fp it tn) (st : tn 0 s.heap) (hf : ∀ b ∈ fp, FpOk X pins H b)
    (hw : ∀ D, H D = none → CompW J D B (selV ix σ) tt te Q H) {RR : Value → Addr → Result → Shared → Prop}
    (hRR : ∀ D Cc H' s' m, s'.heap.Ns Cc m → Inv X pins σ H' s' → FpOk X pins H' Cc → Q (.ref D) H' → RR (.ref D) Cc (.ok .next) s') :
    wpAny (model X.prog X.w) X.A (newList []) (fun acc s₃ => wpAny (model X.prog X.w) X.A (newFunctionEnv sc X.env.globals (closeOf X.env.cells sc.names []) [] X.env.qual none .none (some X.env)) (fun cenv s₄ =>
      codeAny (model X.prog X.w) X.A (.compStart (.ListComp elt [⟨tg, iter, ifs, 0⟩] sc pos) 0 (.ref it) acc { cenv with scope := relabel sc X.env }) (RR acc cenv.locals) s₄) E s₃) E s := by
  refine wpAny_newObj_type (wpAny_newFunctionEnv C.ncell (by intro y hy; simp at hy) (fun h₁ hns₁ hsb₁ => ?_) C.kind)
  have I3 : Inv X pins σ (upd H s.heap.objs.size (.lst [])) { s with heap := s.heap.push { cls := .type "list", dict := none, data := .seq ([] : List Value).toArray } } := I2.lnew (t' := s.toks) (its := []) .nil (Nat.zero_le _)
  have hD0 : H s.heap.objs.size = none := I2.fresh
  have lt0 : ∀ b ∈ fp, b < s.heap.objs.size := fun b hb => by
    obtain ⟨o, e, _⟩ := T.obj _ _ st b hb
    exact Heap.lt_size e
  have hfD : ∀ b ∈ fp, b ≠ s.heap.objs.size := fun b hb => Nat.ne_of_lt (lt0 b hb)
  have hf3 : ∀ b ∈ fp, FpOk X pins (upd H s.heap.objs.size (.lst [])) b := fun b hb => ⟨by rw [upd_ne (hfD b hb)]; exact (hf b hb).1, (hf b hb).2⟩
  generalize hs3 : ({ s with heap := s.heap.push { cls := .type "list", dict := none, data := .seq ([] : List Value).toArray } } : Shared) = s₃ at I3 hns₁ hsb₁ ⊢
  have hs3h : s₃.heap = s.heap.push { cls := .type "list", dict := none, data := .seq ([] : List Value).toArray } := by rw [← hs3]
  have st3 : tn 0 s₃.heap := T.keep _ _ _ st fun b _ o e => by rw [hs3h]; exact Heap.get?_push_of_some _ e
  have hl3 : ∀ b ∈ fp, b < s₃.heap.objs.size := fun b hb => by rw [hs3h, Heap.size_push]; exact Nat.lt_succ_of_lt (lt0 b hb)
  generalize hDD : s.heap.objs.size = D at *
  have hk1 : ∀ b o, s₃.heap.get? b = some o → h₁.get? b = some o := fun b o e => hsb₁.extBut b o (Nat.ne_of_lt (Heap.lt_size e)) (Heap.get?_push_of_some _ e)
  have I4 := comp_start (tgs := tgs) (t' := s₃.toks + ([] : List (Str × Value)).length) C I3 hf3 hl3 hns₁ hk1
  have st4 : tn 0 h₁ := T.keep _ _ _ st3 fun b _ o e => hk1 b o e
  have fr4 : ∀ b ∈ fp, (upd H D (.lst [])) b = none := fun b hb => (hf3 b hb).1
  generalize hXc : cxComp X sc (tgs ++ caps) fp s₃ (upd H D (.lst [])) = Xc at I4
  have hprog : Xc.prog = X.prog := by rw [← hXc]; rfl
  have hww : Xc.w = X.w := by rw [← hXc]; rfl
  have hKK : Xc.K = X.K := by rw [← hXc]; rfl
  have hcalm : Xc.calm = true := by rw [← hXc]; exact C.calm
  have hA : Xc.A = X.A := by rw [← hXc]; rfl
  have henv : Xc.env = compEnvC sc (closeOf X.env.cells sc.names []) s₃.heap.objs.size X.env := by rw [← hXc]; rfl
  have hxe : Xc.xe = fun _ _ => False := by rw [← hXc]; rfl
  have hg' := hg fp s₃ (upd H D (.lst []))
  have ht' := ht fp s₃ (upd H D (.lst []))
  have he' := he fp s₃ (upd H D (.lst []))
  rw [hXc] at hg' ht' he'
  obtain ⟨W, ⟨m0, w0⟩, turn⟩ := hw D hD0
  have stat : ∀ {H' : Hp}, (∀ b ∈ fp, H' b = none) → ∀ b ∈ fp, FpOk Xc [] H' b := fun {H'} hn b hb => by
    refine ⟨hn b hb, ?_, ?_, .inl ?_, fun x c e z => ?_, fun p hp => ?_⟩
    · rw [henv]; exact Nat.ne_of_lt (hl3 b hb)
    · rw [← hXc]
      intro z
      obtain ⟨_, h1, h2, _⟩ := hf b hb
      rcases List.mem_cons.mp (I3.stkSub b z) with q | q
      · exact h1 q
      · exact h2 q
    · rw [← hXc]; exact hb
    · rw [henv] at e
      exact (hf b hb).2.2.2.2.1 x c (C.sub I2 e) z
    · rw [← hXc] at hp
      exact absurd (show p ∈ ([] : List (Addr × Obj)) from hp) (by simp)
  have loop : ∀ s₄ : Shared, s₄ = { s₃ with heap := h₁, toks := s₃.toks + ([] : List (Str × Value)).length } →
      codeAny (model X.prog X.w) X.A (.compLoop (.ListComp elt [⟨tg, iter, ifs, 0⟩] sc pos) 0 (.ref it) (.ref D) (compEnvC sc (closeOf X.env.cells sc.names []) s₃.heap.objs.size X.env)) (RR (.ref D) s₃.heap.objs.size) s₄ := by
    intro s₄ hs4
    rw [← hprog, ← hww, ← hA, ← henv]
    refine compLoop_gen (fun n s' => ∃ (i : Nat) (ys : List V) (σt : St) (H' : Hp), σt.length = tgs.length ∧ Inv Xc [] (σt ++ selV ix σ) H' s' ∧ tn i s'.heap ∧ (∀ b ∈ fp, H' b = none) ∧ W i n ys H') ?_ m0
      ⟨0, [], List.replicate tgs.length none, upd H D (.lst []), by simp, by rw [hs4]; exact I4, by rw [hs4]; exact st4, fr4, w0⟩
    rintro n s5 ⟨i, ys, σt, H5, hσ, I5, st5, fr5, w5⟩
    obtain ⟨hD5, hturn⟩ := turn i n ys H5 w5
    rcases hturn with ⟨stop, q⟩ | ⟨go, step⟩
    · rw [hprog, hww]
      refine thn (T.done Xc hprog hww hKK hcalm i [] s5 _ H5 _ I5 (stat fr5) st5 stop) fun r s6 ⟨hr, I6⟩ => ?_
      subst hr
      obtain ⟨m6, hn6, _⟩ := I6.loc
      rw [henv] at hn6
      have hcb : ∀ b ∈ fp, (b ∈ X.ex ∨ X.s₀.heap.objs.size ≤ b) ∧ b ≠ X.env.locals ∧ (∀ x c, X.env.cells.lookup x = some c → c ≠ b) ∧ ∀ p ∈ X.pn ++ pins, p.1 ≠ b := fun b hb => ⟨(hf b hb).2.2.2.1, (hf b hb).2.1, (hf b hb).2.2.2.2.1, (hf b hb).2.2.2.2.2⟩
      have hos : s6.os = s₃.os := by have := I6.os; rw [← hXc] at this; exact this
      have un6 : Un (frs X.stack) fp (upd H D (.lst [])) H5 s₃.heap s6.heap := by have := I6.base; rw [← hXc] at this; exact this
      have hok6 : HOk X.prog X.w H5 s6.heap := by have := I6.hok; rw [hprog, hww] at this; exact this
      have I7 : Inv X pins σ H5 s6 := I3.call' hos un6 hok6 I6.bare hcb
      refine hRR D _ H5 s6 m6 hn6 I7 ?_ q
      have hCn : H5 s₃.heap.objs.size = none := by have := I6.free; rw [henv] at this; exact this
      exact I3.fpOk (Nat.le_refl _) hCn
    · rw [hprog, hww]
      refine thn (T.item Xc hprog hww hKK hcalm i [] s5 _ H5 _ I5 (stat fr5) st5 go) fun r s6 ⟨u, hr, h6⟩ => ?_
      subst hr
      refine thn h6 fun _ s7 ⟨x, H7, I7, r7, y7, st7, fr7⟩ => ?_
      have I7' := I7.pinned (stat fr7) (T.obj _ _ st7)
      have hst := hg' _ s7 _ H7 x u _ I7' r7 (hB x σt (selV ix σ) H7 (fun σ2 H2 => tt σ2 H2 fun b H3 => if b = true then te σ2 H3 fun y H4 => H4 D = some (.lst ys) ∧ ys.length < sizeLine ∧ ∃ m', m' < n ∧ W (i + 1) m' (ys ++ [y]) (upd H4 D (.lst (ys ++ [y]))) else ∃ m', m' < n ∧ W (i + 1) m' ys H3) hσ (step x H7 y7))
      rw [hprog, hww, hxe] at hst
      refine thn hst fun _ s8 ⟨σ8, H8, I8, ⟨vals, hvl, hσ8⟩, q8⟩ => ?_
      have again : ∀ {H9 : Hp} {s9 : Shared}, Inv Xc ([] ++ pinsAt fp s7.heap) σ8 H9 s9 → tn (i + 1) s9.heap ∧ ∀ b ∈ fp, H9 b = none := fun {H9 s9} I9 =>
        ⟨T.keep _ _ _ st7 fun b hb o e => (I9.pin (b, o) (List.mem_append_right _ (List.mem_append_right _ (mem_pinsAt hb e)))).1, fun b hb => by
          obtain ⟨o, e, d⟩ := T.obj _ _ st7 b hb
          exact (I9.pin (b, o) (List.mem_append_right _ (List.mem_append_right _ (mem_pinsAt hb e)))).2.1⟩
      subst hσ8
      have hts := ht'.run I8 q8
      rw [hprog, hww, hxe] at hts
      refine thn hts fun ok s9 ⟨H9, I9, q9⟩ => ?_
      cases ok with
      | false =>
        rw [if_neg Bool.false_ne_true] at q9 ⊢
        obtain ⟨m', hm, w9⟩ := q9
        obtain ⟨a1, a2⟩ := again I9
        exact ⟨m', hm, i + 1, ys, vals.map some, H9, by simpa using hvl, I9.unpinned, a1, a2, w9⟩
      | true =>
        rw [if_pos rfl] at q9 ⊢
        have hev := he' _ s9 _ H9 _ I9 q9
        rw [hprog, hww, hxe] at hev
        refine thn hev fun uy s10 ⟨y, H10, I10, r10, hD10, hz10, m', hm, w10⟩ => ?_
        have hap := mt_append (X := Xc) _ s10 _ H10 (.ref D) [y] (.ref D) [uy] (fun v H11 => v = .non ∧ H11 = upd H10 D (.lst (ys ++ [y]))) I10 rfl (.cons r10 .nil) ⟨D, ys, y, rfl, rfl, hD10, hz10, rfl, rfl⟩
        rw [hprog, hww, hxe] at hap
        refine thn hap fun _ s11 ⟨v, H11, I11, _, _, e11⟩ => ?_
        subst e11
        obtain ⟨a1, a2⟩ := again I11
        exact ⟨m', hm, i + 1, ys ++ [y], vals.map some, _, by simpa using hvl, I11.unpinned, a1, a2, w10⟩
  refine codeAny_compStart_list (loop _ rfl) (T.self X.A 0 _ _ _ st4 (loop _ rfl))
theorem pe_comp {wi : TI} (C : CompOk X sc caps ix) (hi : PI X tg iter wi) (hg : ∀ fp s H, PG (cxComp X sc (tgs ++ caps) fp s H) tg g)
    (hB : ∀ (x : V) (σt cs : St) (H : Hp) (Q : St → Hp → Prop), σt.length = tgs.length → B x H (fun vals H2 => Q (vals.map some ++ cs) H2) → g x (σt ++ cs) H fun σ2 H2 => (∃ vals : List V, vals.length = tgs.length ∧ σ2 = vals.map some ++ cs) ∧ Q σ2 H2)
    (ht : ∀ fp s H, PTs (cxComp X sc (tgs ++ caps) fp s H) ifs tt) (he : ∀ fp s H, PE (cxComp X sc (tgs ++ caps) fp s H) elt te)
    (hs : ∀ x, foldedSetIterable iter X.env x = pure x := by intro _; rfl) : PE X (.ListComp elt [⟨tg, iter, ifs, 0⟩] sc pos) (tComp wi B ix tt te) := by
  intro pins s σ H Q I h
  rw [eval_ListComp]
  refine wpAny_comprehension_free (use := none) rfl hs (closureFor_of (C.free_cell I)) C.kind C.names (thn (hi pins s σ H _ I h) fun v s1 h1 => thn h1 fun itv s2 h2 => ?_)
  obtain ⟨it, fp, tn, J, H2, e, I2, T, st2, f2, hw⟩ := h2
  subst e
  refine comp_block (RR := fun acc Cc => compPost (model X.prog X.w) X.A X.xe none (EP X pins σ Q) acc Cc) C hg hB ht he I2 T st2 f2 hw ?_
  intro D Cc H' s' m hn I' hfp q
  refine ⟨m, hn, fun h' sb => ⟨.ref D, H', ?_, rfl, q⟩⟩
  exact I'.turned (t' := s'.toks) (fun b o hb e => sb.extBut b o hb e) hfp.1 hfp.2.1 hfp.2.2.2.1 hfp.2.2.2.2.1 hfp.2.2.2.2.2
theorem ps_setC {wi : TI} {k : Nat} {x : Str} {spos px : Pos} (hN : X.N.Nodup) (hk : X.N[k]? = some x) (hx : X.env.scope.names.lookup x = some .local) (C : CompOk X sc caps ix) (hi : PI X tg iter wi) (hg : ∀ fp s H, PG (cxComp X sc (tgs ++ caps) fp s H) tg g)
    (hB : ∀ (x : V) (σt cs : St) (H : Hp) (Q : St → Hp → Prop), σt.length = tgs.length → B x H (fun vals H2 => Q (vals.map some ++ cs) H2) → g x (σt ++ cs) H fun σ2 H2 => (∃ vals : List V, vals.length = tgs.length ∧ σ2 = vals.map some ++ cs) ∧ Q σ2 H2)
    (ht : ∀ fp s H, PTs (cxComp X sc (tgs ++ caps) fp s H) ifs tt) (he : ∀ fp s H, PE (cxComp X sc (tgs ++ caps) fp s H) elt te)
    (hsw : swapsWith (.ListComp elt [⟨tg, iter, ifs, 0⟩] sc pos) (some (.Name x px)) spos.line X.env = pure true := by rfl)
    (hs : ∀ x, foldedSetIterable iter X.env x = pure x := by intro _; rfl) : PS X (.Assign [.Name x px] (.ListComp elt [⟨tg, iter, ifs, 0⟩] sc pos) spos) (tAsg (tComp wi B ix tt te) (gName k)) := by
  intro pins s σ H D0 I h
  rw [exec_Assign_Name_used _ _ _ _ hsw]
  refine wpAny_bind (wpAny_standAt (wpAny_bind ?_))
  show wpAny _ X.A (do let _ ← comprehension (.ListComp elt [⟨tg, iter, ifs, 0⟩] sc pos) sc X.env _ (newList []) false (eval iter X.env) (some (assign (.Name x px) X.env))) _ _ s
  refine wpAny_bind (wpAny_mono (wpAny_comprehension_free (use := some (assign (.Name x px) X.env)) (Q := fun _ s' => SP X pins D0 .next s') rfl hs (closureFor_of (C.free_cell I)) C.kind C.names
    (thn (hi pins s σ H _ I h) fun v s1 h1 => thn h1 fun itv s2 h2 => ?_)) (fun _ s' hq => wpAny_pure (wpAny_pure hq)) fun _ _ e => e)
  obtain ⟨it, fp, tn, J, H2, e, I2, T, st2, f2, hw⟩ := h2
  subst e
  refine comp_block (RR := fun acc Cc => compPost (model X.prog X.w) X.A X.xe (some (assign (.Name x px) X.env)) (fun _ s' => SP X pins D0 .next s') acc Cc) C hg hB ht he I2 T st2 f2 hw ?_
  intro D Cc H' s' m hn I' hfp q
  show wpAny _ X.A (assign (.Name x px) X.env (.ref D)) _ _ _
  refine wpAny_assign_Name (store_ok2 I' hN hk (.inl hx) (v := .ref D) rfl (fun s'' I'' hch => ?_) (.inr hx))
  obtain ⟨a, sb, ha⟩ := hch
  have hne : Cc ≠ a := by
    rcases ha with z | z
    · rw [z]; exact hfp.2.1
    · exact fun e => hfp.2.2.2.2.1 x a z e.symm
  refine ⟨m, hn.sameBut sb hne, fun h' sb' => ⟨_, H', ?_, q⟩⟩
  exact I''.turned (t' := s''.toks) (fun b o hb e => sb'.extBut b o hb e) hfp.1 hfp.2.1 hfp.2.2.2.1 hfp.2.2.2.2.1 hfp.2.2.2.2.2
end
end L2
set_option Elab.async false
set_option linter.all false
set_option maxRecDepth 100000
set_option maxHeartbeats 4000000
namespace L2
open PySem PySem.Spec PyProof.Rows
section
variable {X : Cx}
theorem PE.imp {e : Expr} {t t' : TE} (h : PE X e t) (hi : ∀ σ H Q, t' σ H Q → t σ H Q) : PE X e t' := fun pins s σ H Q I q => h pins s σ H Q I (hi σ H Q q)
theorem PT.imp {e : Expr} {t t' : TT} (h : PT X e t) (hi : ∀ σ H Q, t' σ H Q → t σ H Q) : PT X e t' := fun pins s σ H Q I q => h pins s σ H Q I (hi σ H Q q)
theorem OpR.imp {f : Value → Value → Sem Value} {r r' : R2} (h : OpR X f r) (hi : ∀ x y H Q, r' x y H Q → r x y H Q) : OpR X f r' := fun pins s σ H x y v u Q I rx ry q => h pins s σ H x y v u Q I rx ry (hi x y H Q q)
theorem UnR.imp {f : Value → Sem Value} {r r' : V → Hp → VK → Prop} (h : UnR X f r) (hi : ∀ x H Q, r' x H Q → r x H Q) : UnR X f r' := fun pins s σ H x v Q I rx q => h pins s σ H x v Q I rx (hi x H Q q)
theorem CallR.imp {f : Value} {r r' : List V → Hp → VK → Prop} (h : CallR X f r) (hi : ∀ xs H Q, r' xs H Q → r xs H Q) : CallR X f r' := fun pins s σ H xs us Q I rx q => h pins s σ H xs us Q I rx (hi xs H Q q)
end
def cVar (i : Nat) : TE := fun σ H Q => match σ[i]? with | some (some v) => Q v H | _ => False
theorem pw {X : Cx} (i : Nat) {x : Str} {pos : Pos} (hN : X.N[i]? = some x := by rfl) (hv : Vis X.env.scope x := by first | exact Or.inl rfl | exact Or.inr (Or.inl rfl) | exact Or.inr (Or.inr rfl)) (hd : (x == ("__debug__" : Str)) = false := by decide)
    (hcd : (x == ("__classdict__" : Str)) = false := by decide) : PE X (.Name x pos) (cVar i) :=
  (pe_var hN hv hd hcd).imp fun σ H Q q => by
    unfold cVar at q
    unfold tVar
    split at q
    · rename_i v e; exact ⟨v, e, q⟩
    · exact q.elim
def cI (g : Int → Int → V) : R2 := fun x y H Q => match x, y with | .int i, .int j => Q (g i j) H | _, _ => False
def cIC (C : Int → Int → Prop) (g : Int → Int → V) : R2 := fun x y H Q => match x, y with | .int i, .int j => C i j ∧ Q (g i j) H | _, _ => False
theorem OpR.cI {X : Cx} {f : Value → Value → Sem Value} {g : Int → Int → V} (h : OpR X f (rI0 g)) : OpR X f (cI g) := h.imp fun x y H Q q => by
  cases x <;> cases y <;> first | exact ⟨_, _, rfl, rfl, q⟩ | exact q.elim
theorem OpR.cIC {X : Cx} {f : Value → Value → Sem Value} {C : Int → Int → Prop} {g : Int → Int → V} (h : OpR X f (rI C g)) : OpR X f (cIC C g) := h.imp fun x y H Q q => by
  cases x <;> cases y <;> first | exact ⟨_, _, rfl, rfl, q.1, q.2⟩ | exact q.elim
section
variable {X : Cx}
theorem o_add : OpR X (binaryOp .Add) (cI fun i j => .int (i + j)) := op_add.cI
theorem o_sub : OpR X (binaryOp .Sub) (cI fun i j => .int (i - j)) := op_sub.cI
theorem o_mul : OpR X (binaryOp .Mult) (cIC CMul fun i j => .int (i * j)) := op_mul.cIC
theorem o_fdiv : OpR X (binaryOp .FloorDiv) (cIC CDiv fun i j => .int (i / j)) := op_fdiv.cIC
theorem o_mod : OpR X (binaryOp .Mod) (cIC (fun _ j => 0 < j) fun i j => .int (i % j)) := op_mod.cIC
theorem o_lt : OpR X (compareOp .Lt) (cI fun i j => .bl (decide (i < j))) := op_lt.cI
theorem o_le : OpR X (compareOp .LtE) (cI fun i j => .bl (decide (i ≤ j))) := op_le.cI
theorem o_gt : OpR X (compareOp .Gt) (cI fun i j => .bl (decide (j < i))) := op_gt.cI
theorem o_ge : OpR X (compareOp .GtE) (cI fun i j => .bl (decide (j ≤ i))) := op_ge.cI
def cU (g : Int → V) : V → Hp → VK → Prop := fun x H Q => match x with | .int i => Q (g i) H | _ => False
theorem u_neg : UnR X (unaryOp .USub) (cU fun i => .int (-i)) := un_neg.imp fun x H Q q => by
  cases x <;> first | exact ⟨_, rfl, q⟩ | exact q.elim
end
def rdSeq (H : Hp) (p : Addr) : Option (List V) := match H p with
  | some (.lst xs) => some xs
  | some (.tup xs) => some xs
  | some (.frz _ (.lst xs)) => some xs
  | some (.frz _ (.tup xs)) => some xs
  | _ => none
theorem rdSeq_sq {K : PySem.W.Frag} {H : Hp} {p : Addr} {xs : List V} (h : rdSeq H p = some xs) : SqL K H p xs ∨ SqT K H p xs := by
  unfold rdSeq at h
  split at h
  all_goals first | (cases h; done) | skip
  · rename_i ys e; cases h; exact .inl (.inl (.inl e))
  · rename_i ys e; cases h; exact .inr (.inl (.inl e))
  · rename_i o ys e; cases h; exact .inl (.inl (.inr ⟨_, e⟩))
  · rename_i o ys e; cases h; exact .inr (.inl (.inr ⟨_, e⟩))
theorem rdSeq_lst {H : Hp} {p : Addr} {xs : List V} (h : H p = some (.lst xs)) : rdSeq H p = some xs := by unfold rdSeq; rw [h]
theorem rdSeq_tup {H : Hp} {p : Addr} {xs : List V} (h : H p = some (.tup xs)) : rdSeq H p = some xs := by unfold rdSeq; rw [h]
def cIx : R2 := fun x y H Q => match x, y with
  | .ref p, .int i => (match rdSeq H p with
    | some xs => (match atI xs i with | some v => Q v H | none => False)
    | none => False)
  | .str z, .int i => z.length ≤ sizeLine ∧ (match atI z.cps.toList i with | some c => Q (.str ⟨#[c]⟩) H | none => False)
  | _, _ => False
def cTruV (x : V) (H : Hp) (Q : Bool → Hp → Prop) : Prop := match x with
  | .bl b => Q b H
  | .int i => Q (i != 0) H
  | .non => Q false H
  | .str y => y.length ≤ sizeLine ∧ Q ((y.length : Int) != 0) H
  | .ref p => (match rdSeq H p with
    | some xs => Q (!xs.isEmpty) H
    | none => (match H p with | some (.dK kvs) => Q (!kvs.isEmpty) H | _ => False))
  | _ => False
theorem cTruV_ok {K : PySem.W.Frag} {x : V} {H : Hp} {Q : Bool → Hp → Prop} (h : cTruV x H Q) : ∃ k, TruV K x H k ∧ Q k H := by
  cases x with
  | bl b => exact ⟨b, rfl, h⟩
  | int i => exact ⟨_, rfl, h⟩
  | non => exact ⟨_, rfl, h⟩
  | str y => exact ⟨_, ⟨h.1, rfl⟩, h.2⟩
  | ref p =>
    unfold cTruV at h
    dsimp only at h
    split at h
    · rename_i xs e
      rcases rdSeq_sq (K := K) e with z | z
      · exact ⟨_, .inl ⟨xs, z, rfl⟩, h⟩
      · exact ⟨_, .inr (.inl ⟨xs, z, rfl⟩), h⟩
    · split at h
      · rename_i kvs e; exact ⟨_, .inr (.inr ⟨kvs, e, rfl⟩), h⟩
      · exact h.elim
  | _ => exact h.elim
def cTru (t : TE) : TT := fun σ H Q => t σ H fun x H' => cTruV x H' Q
section
variable {X : Cx} {a b c : Expr} {ta tb tc : TE} {pos : Pos}
theorem pt_tru (ha : PE X a ta) (he : ∀ whole, isTrue a X.env whole = (do let v ← whole; standAt a.pos; holding [v] (truthy v)) := by intro _; rfl) : PT X a (cTru ta) := by
  intro pins s σ H Q I h
  exact isTrue_plain (thn (ha pins s σ H _ I h) fun v s1 ⟨x, H1, I1, r1, q1⟩ => tru_ok pins s1 σ H1 x v Q I1 r1 (cTruV_ok q1)) (he _)
def cTest (t : TE) : TT := fun σ H Q => t σ H fun x H' => match x with | .bl k => Q k H' | _ => False
theorem pt_cmpC {op : CmpOp} {r : R2} (ho : OpR X (compareOp op) r) (ha : PE X a ta) (hb : PE X b tb) (hm : behindInMarks op b = false) : PT X (.Compare a [op] [b] pos) (cTest (tOp r ta tb)) := by
  intro pins s σ H Q I h
  refine wpAny_isTrue_Compare1 (thn (ha pins s σ H _ I h) fun v s1 ⟨x, H1, I1, r1, q1⟩ => thn (hb pins s1 σ H1 _ I1 q1) fun u s2 ⟨y, H2, I2, r2, q2⟩ =>
    thn (ho pins s2 σ H2 x y v u _ I2 r1 r2 q2) fun c s3 ⟨z, H3, I3, r3, q3⟩ => ?_) hm
  cases z <;> first | exact q3.elim | skip
  cases r3
  exact wpAny_truthy_bool ⟨H3, I3, q3⟩
end
end L2
set_option Elab.async false
set_option linter.all false
set_option maxRecDepth 100000
set_option maxHeartbeats 4000000
namespace L2
open PySem PySem.Spec PyProof.Rows
section
variable {X : Cx} {a b c : Expr} {ta tb tc : TE} {pos : Pos}
def tLink (r : R2) (tb : TE) (t : V → TE) : V → TE := fun x σ H Q => tb σ H fun y H2 => r x y H2 fun z H3 => match z with | .bl k => (if k = true then t y σ H3 Q else Q (.bl false) H3) | _ => False
def cAndV (ta tb : TE) : TE := fun σ H Q => ta σ H fun x H1 => match x with | .bl c => (if c = true then tb σ H1 Q else Q (.bl false) H1) | _ => False
end
section
variable {X : Cx} {a b c : Expr} {ta tb tc : TE} {pos : Pos} {rest : List Expr}
theorem pe_andC (ha : PE X a ta) (hb : PE X (.BoolOp .And (b :: rest) pos) tb) : PE X (.BoolOp .And (a :: b :: rest) pos) (cAndV ta tb) := by
  intro pins s σ H Q I h
  refine BoolOp_and (thn (ha pins s σ H _ I h) fun v s1 ⟨x, H1, I1, r1, q1⟩ => ?_)
  cases x <;> first | exact q1.elim | skip
  rename_i k
  cases r1
  refine wpAny_truthy_bool ?_
  cases k with
  | true => exact ite_tt (hb pins s1 σ H1 Q I1 (by simpa using q1))
  | false => exact ite_ff ⟨.bl false, H1, I1, rfl, by simpa using q1⟩
def cNotC (ta : TE) : TE := fun σ H Q => ta σ H fun x H1 => cTruV x H1 fun k H2 => Q (.bl (!k)) H2
theorem pe_notC (ha : PE X a ta) : PE X (.UnaryOp .Not a pos) (cNotC ta) := by
  intro pins s σ H Q I h
  refine UnaryOp_ (thn (ha pins s σ H _ I h) fun v s1 ⟨x, H1, I1, r1, q1⟩ => not_of ?_)
  exact thn (tru_ok pins s1 σ H1 x v _ I1 r1 (cTruV_ok q1)) fun k s2 ⟨H2, I2, q2⟩ => ⟨.bl (!k), H2, I2, rfl, q2⟩
def kindV (H : Hp) : V → Option String
  | .non => some "NoneType"
  | .bl _ => some "bool"
  | .int _ => some "int"
  | .str _ => some "str"
  | .ref a => (match H a with
    | some (.lst _) => some "list"
    | some (.frz _ (.lst _)) => some "list"
    | some (.tup _) => some "tuple"
    | some (.dK _) => some "dict"
    | some (.dT _) => some "dict"
    | _ => none)
  | _ => none
def isiB (t c : String) : Bool := t == c || (t == "bool" && c == "int")
def isKnd (c : String) : Bool := ["int", "bool", "str", "list", "tuple", "dict"].contains c
theorem kit_known {K : PySem.W.Frag} {t c : String} (ht : ["NoneType", "bool", "int", "str", "list", "tuple", "dict"].contains t = true) (hc : isKnd c = true) : PySem.W.kitOne K (.type t) (.type c) = some (isiB t c) := by
  have h1 : t = "NoneType" ∨ t = "bool" ∨ t = "int" ∨ t = "str" ∨ t = "list" ∨ t = "tuple" ∨ t = "dict" := by simpa using ht
  have h2 : c = "int" ∨ c = "bool" ∨ c = "str" ∨ c = "list" ∨ c = "tuple" ∨ c = "dict" := by simpa [isKnd] using hc
  rcases h1 with rfl | rfl | rfl | rfl | rfl | rfl | rfl <;> rcases h2 with rfl | rfl | rfl | rfl | rfl | rfl <;> first | rfl | (with_unfolding_all rfl)
theorem call_isi : CallR X (.builtin "isinstance") (fun xs H Q => match xs with
    | [x, .ty c] => isKnd c = true ∧ (match kindV H x with | some t => Q (.bl (isiB t c)) H | none => False)
    | _ => False) := by
  intro pins s σ H xs us Q I r h
  split at h
  · rename_i x c
    obtain ⟨hc, h⟩ := h
    obtain ⟨u, w', rfl, ru, rw'⟩ := vals2 r
    cases rw'
    split at h
    · rename_i t et
      have fin : ∀ (tk : Nat), EP X pins σ Q (.bool (isiB t c)) { s with toks := tk } := fun tk => ⟨.bl _, H, I.tok _, rfl, h⟩
      cases x <;> simp only [kindV] at et
      case non => cases et; exact isinst_ok I ru .non (kit_known (by decide) hc) fin
      case bl b => cases et; exact isinst_ok I ru (.bl b) (kit_known (by decide) hc) fin
      case int b => cases et; exact isinst_ok I ru (.int b) (kit_known (by decide) hc) fin
      case str b => cases et; exact isinst_ok I ru (.str b) (kit_known (by decide) hc) fin
      case ref a =>
        split at et <;> first | (cases et; done) | skip
        · rename_i ys e; cases et; exact isinst_ok I ru (.lst e) (kit_known (by decide) hc) fin
        · rename_i o ys e; cases et; exact isinst_ok I ru (.frz e) (kit_known (by decide) hc) fin
        · rename_i ys e; cases et; exact isinst_ok I ru (.tup e) (kit_known (by decide) hc) fin
        · rename_i ys e; cases et; exact isinst_ok I ru (.dK e) (kit_known (by decide) hc) fin
        · rename_i ys e; cases et; exact isinst_ok I ru (.dT e) (kit_known (by decide) hc) fin
      all_goals cases et
    · exact h.elim
  · exact h.elim
theorem call_sumS (hc : X.calm = true) : CallR X (.builtin "sum") (fun xs H Q => match xs with
    | [.ref p] => ∃ ns : List Int, rdSeq H p = some (ns.map V.int) ∧ Q (.int ns.sum) H
    | _ => False) := by
  intro pins s σ H xs us Q I r h
  split at h
  · rename_i p
    obtain ⟨ns, e, q⟩ := h
    obtain ⟨u, rfl, ru⟩ := vals1 r
    cases ru
    have key : ∀ {its : List Value}, Vals (ns.map V.int) its → ∃ ys : Array (Int × Tok), its.toArray = intItems ys ∧ preSum (numAt ys) ys.size = ns.sum := fun {its} rv => by
      have hi := intsAre_of rv
      obtain ⟨ys, hx⟩ := hi.allInts.items
      refine ⟨ys, hx, ?_⟩
      have e1 : ns = ys.toList.map (·.1) := by
        rw [← nums_intItems, ← hx]
        exact (show numsOf its.toArray.toList = ns from hi.numsOf).symm
      rw [preSum_eq, List.take_of_length_le (by simp), e1]
    rcases rdSeq_sq (K := X.K) e with hq | hq
    · obtain ⟨its, rv, pl, _⟩ := I.list hq
      obtain ⟨ys, hx, es⟩ := key rv
      refine sum_intListG (I.ok.hd hc) (hx ▸ pl.isList) fun h' tk t' hk => ?_
      rw [es]
      exact ⟨.int ns.sum, H, I.kept hk, ⟨_, rfl⟩, q⟩
    · obtain ⟨its, rv, pl, _⟩ := I.tuple hq
      obtain ⟨ys, hx, es⟩ := key rv
      refine PySem.W.ktm_sumG (I.ok.hd hc) (hx ▸ pl) fun h' tk t' hk => ?_
      rw [es]
      exact ⟨.int ns.sum, H, I.kept hk, ⟨_, rfl⟩, q⟩
  · exact h.elim
abbrev allOf (s : Shared) (L : Addr) : List (Addr × Obj) := allNews (Att.noObjs s.heap) s.heap L
section
variable {pins : List (Addr × Obj)} {σ : St} {H : Hp} {s : Shared} {h' : Heap} {m : Str → Option Value}
theorem allOf_kept {L : Addr} (N : News (Att.noObjs s.heap) L h' (allOf s L)) : ∀ b o, b ≠ L → s.heap.get? b = some o → h'.get? b = some o := fun b o hb e => (N (b, o) (mem_allNews hb (Att.noObjs_get _ _) e)).1
theorem Inv.frn {tk : Nat} (I : Inv X pins σ H s) (hn : s.heap.Ns X.env.locals m) (F : Fr (Att.noObjs s.heap) X.env.locals h' m) (N : News (Att.noObjs s.heap) X.env.locals h' (allOf s X.env.locals)) : Inv X pins σ H { s with heap := h', toks := tk } := by
  have kept := allOf_kept N
  refine I.step (g' := s.gens) (d' := s.drawn) (ch := []) (fun _ z => nomatch z) (fun b o hL _ _ e _ => kept b o hL e) (fun b o hL _ _ e _ => ⟨o.slots, kept b o hL e⟩) (fun _ _ _ _ n => n) (fun b o _ e => ?_) (fun _ _ e => e) (fun _ _ _ e => e) (fun b ps e => ⟨#[], by rw [e]; simp⟩) (fun m' hm => ?_) (fun b u e => ?_) I.bare
  · by_cases hb : b = X.env.locals
    · subst hb
      obtain ⟨o', _, _, ho', _⟩ := F.ns
      exact ⟨o', ho'⟩
    · exact ⟨o, kept b o hb e⟩
  · rw [hm.eq_nsMap, ← hn.eq_nsMap]; exact F.ns
  · refine (I.hok b u e).stay (fun c v hc q => kept c v ?_ q) (fun _ q => q) fun _ _ q => q
    intro z
    rcases hc with hc | hc
    · rw [← hc, z, I.free] at e; cases e
    · rw [z, I.free] at hc; cases hc
theorem Inv.frnew {tk : Nat} {D : Addr} {ob : Obj} {o : HO} (I : Inv X pins σ H s) (hn : s.heap.Ns X.env.locals m) (F : Fr (Att.noObjs s.heap) X.env.locals h' m) (N : News (Att.noObjs s.heap) X.env.locals h' ((D, ob) :: allOf s X.env.locals))
    (hD : s.heap.get? D = none) (new : ObjOk X.prog X.w (upd H D o) h' D o) : H D = none ∧ Inv X pins σ (upd H D o) { s with heap := h', toks := tk } := by
  have kept := allOf_kept (fun p hp => N p (.tail _ hp))
  have hDL : D ≠ X.env.locals := (N (D, ob) (.head _)).2.1
  have neD : ∀ b o, s.heap.get? b = some o → b ≠ D := fun b o e z => by rw [z, hD] at e; cases e
  have HD : H D = none := by
    cases q : H D with
    | none => rfl
    | some u =>
      have := (I.hok D u q).lt
      obtain ⟨v, hv⟩ : ∃ v, s.heap.get? D = some v := by
        have z := I.hok D u q
        cases u with
        | lst xs => obtain ⟨_, _, _, _, e⟩ := z; exact ⟨_, e⟩
        | tup xs => obtain ⟨_, _, _, o, e, _⟩ := z; exact ⟨_, e⟩
        | dK kvs => obtain ⟨_, _, _, _, o, _, _, e, _⟩ := z; exact ⟨_, e⟩
        | dT kvs => obtain ⟨_, _, _, _, o, _, _, e, _⟩ := z; exact ⟨_, e⟩
        | set S n => obtain ⟨_, _, _, _, e, _⟩ := z; exact ⟨_, e⟩
        | ins C dx fs => obtain ⟨_, _, _, e, _⟩ := z; exact ⟨_, e⟩
        | own x => exact z
        | xd fs => obtain ⟨mA, n1, _⟩ := z; obtain ⟨o, _, _, e, _⟩ := n1; exact ⟨o, e⟩
        | met f x => exact ⟨_, z⟩
        | rng lo hi => obtain ⟨_, _, _, e⟩ := z; exact ⟨_, e⟩
        | frz o u => exact ⟨_, z.1⟩
        | tbl ps => exact ⟨_, z⟩
        | ctb q => obtain ⟨_, e, _⟩ := z; exact ⟨_, e⟩
        | ext φ => exact z.2.1
      rw [hD] at hv; cases hv
  refine ⟨HD, I.step (g' := s.gens) (d' := s.drawn) (ch := []) (fun _ z => nomatch z) (fun b o hL _ _ e _ => kept b o hL e) (fun b o hL _ _ e _ => ⟨o.slots, kept b o hL e⟩) (fun b ob _ e n => by rw [upd_ne (neD b ob e)]; exact n) (fun b o _ e => ?_)
    (fun b xs e => by rw [upd_ne (ne_of_none e HD)]; exact e) (fun b u xs e => by rw [upd_ne (ne_of_none e HD)]; exact e) (fun b ps e => ⟨#[], by rw [upd_ne (ne_of_none e HD), e]; simp⟩) (fun m' hm => ?_) (fun b u e => ?_) I.bare⟩
  · by_cases hb : b = X.env.locals
    · subst hb
      obtain ⟨o', _, _, ho', _⟩ := F.ns
      exact ⟨o', ho'⟩
    · exact ⟨o, kept b o hb e⟩
  · rw [hm.eq_nsMap, ← hn.eq_nsMap]; exact F.ns
  · by_cases hb : b = D
    · subst hb
      rw [upd_same] at e
      cases e
      exact new
    · rw [upd_ne hb] at e
      refine (I.hok b u e).stay (fun c v hc q => kept c v ?_ q) (fun c q => ?_) fun c xs q => ?_
      · intro z
        rcases hc with hc | hc
        · rw [← hc, z, I.free] at e; cases e
        · rw [z, I.free] at hc; cases hc
      · rw [upd_ne (ne_of_none q HD)]; exact q
      · rw [upd_ne (ne_of_none q HD)]; exact q
end
theorem boolsAre_of {bs : List Bool} : ∀ {us : List Value}, Vals (bs.map V.bl) us → LSm.BoolsAre us bs := by
  induction bs with
  | nil => intro us r; cases r; exact .nil
  | cons b bs ih =>
    intro us r
    cases r with
    | cons r1 r2 => cases r1; exact .cons b (ih r2)
theorem call_allB (hc : X.calm = true) : CallR X (.builtin "all") (fun xs H Q => match xs with
    | [.ref p] => ∃ bs : List Bool, Rd H p (.lst (bs.map V.bl)) ∧ Q (.bl (bs.all id)) H
    | _ => False) := by
  intro pins s σ H xs us Q I r h
  split at h
  · rename_i p
    obtain ⟨bs, e, q⟩ := h
    obtain ⟨u, rfl, ru⟩ := vals1 r
    cases ru
    obtain ⟨its, rv, pl, _⟩ := I.list (.inl e)
    obtain ⟨m, hn, _⟩ := id I.loc
    exact LSm.all_bools (Att.fr_all hn) (news_all (g := Att.noObjs s.heap) (L := X.env.locals)) (I.ok.hd hc) pl.isList (boolsAre_of rv) fun h' tk F N => ⟨.bl _, H, I.frn hn F N, rfl, q⟩
  · exact h.elim
theorem call_intC : CallR X (.type "int") (fun xs H Q => match xs with | [.int i] => Q (.int i) H | [.bl k] => Q (.int (if k then 1 else 0)) H | _ => False) := call_int1.imp fun xs H Q q => by
  split at q
  · exact .inl ⟨_, rfl, q⟩
  · exact .inr ⟨_, rfl, q⟩
  · exact q.elim
theorem call_max2C (hc : X.calm = true) : CallR X (.builtin "max") (fun xs H Q => match xs with | [.int i, .int j] => Q (.int (if j > i then j else i)) H | _ => False) := (call_max2 hc).imp fun xs H Q q => by
  split at q
  · exact ⟨_, _, rfl, q⟩
  · exact q.elim
theorem call_min2C (hc : X.calm = true) : CallR X (.builtin "min") (fun xs H Q => match xs with | [.int i, .int j] => Q (.int (if j < i then j else i)) H | _ => False) := (call_min2 hc).imp fun xs H Q q => by
  split at q
  · exact ⟨_, _, rfl, q⟩
  · exact q.elim
end
end L2
set_option Elab.async false
set_option linter.all false
set_option maxRecDepth 100000
set_option maxHeartbeats 4000000
namespace L2
open PySem PySem.Spec PyProof.Rows
def ItS (S : Hp → Prop) (xs : List V) : It := ⟨fun i H => S H ∧ i < xs.length, fun i H x H' => H' = H ∧ xs[i]? = some x, fun i H => S H ∧ xs.length ≤ i⟩
theorem Turn.conv {P : Program} {w : World} {K : PySem.W.Frag} {tg : Expr} {J J' : It} {fp : List Addr} {it : Addr} {tn : Nat → Heap → Prop} (T : Turn P w K tg J fp it tn) (h1 : ∀ i H, J'.go i H → J.go i H) (h2 : ∀ i H x H', J'.go i H → J.yld i H x H' → J'.yld i H x H')
    (h3 : ∀ i H, J'.stop i H → J.stop i H) : Turn P w K tg J' fp it tn where
  mem := T.mem
  obj := T.obj
  keep := T.keep
  item := fun X a b c d i pins s σ H E I hf st hg => thn (T.item X a b c d i pins s σ H E I hf st (h1 i H hg)) fun r s1 ⟨u, e, h⟩ => ⟨u, e, thn h fun _ s2 ⟨x, H', I', r', y', st', fr'⟩ => ⟨x, H', I', r', h2 i H x H' hg y', st', fr'⟩⟩
  done := fun X a b c d i pins s σ H E I hf st hg => T.done X a b c d i pins s σ H E I hf st (h3 i H hg)
  self := T.self
section
variable {X : Cx} {tg : Expr}
def seqK (x : V) (H1 : Hp) (R : It → Hp → Prop) : Prop := match x with
  | .ref a => (match H1 a with
    | some (.lst xs) => R (ItS (fun H' => Rd H' a (.lst xs)) xs) H1
    | some (.frz _ (.lst xs)) => R (ItS (fun H' => Rd H' a (.lst xs)) xs) H1
    | some (.tup xs) => R (ItS (fun H' => H' a = some (.tup xs)) xs) H1
    | _ => False)
  | _ => False
theorem seqK_lst {a : Addr} {H : Hp} {R : It → Hp → Prop} {xs : List V} (h : Rd H a (.lst xs)) (r : R (ItS (fun H' => Rd H' a (.lst xs)) xs) H) : seqK (.ref a) H R := by
  unfold seqK
  rcases h with h | ⟨o, h⟩
  · dsimp only; rw [h]; exact r
  · dsimp only; rw [h]; exact r
theorem seqK_tup {a : Addr} {H : Hp} {R : It → Hp → Prop} {xs : List V} (h : H a = some (.tup xs)) (r : R (ItS (fun H' => H' a = some (.tup xs)) xs) H) : seqK (.ref a) H R := by
  unfold seqK
  dsimp only; rw [h]; exact r
def iSeq (K : PySem.W.Frag) (tl : TE) : TI := fun σ H R => tl σ H fun x H1 => seqK x H1 R
theorem pi_seq {l : Expr} {tl : TE} (hl : PE X l tl) : PI X tg l (iSeq X.K tl) := by
  intro pins s σ H R I h
  refine thn (hl pins s σ H _ I h) fun v s1 ⟨x, H1, I1, r1, q1⟩ => ?_
  cases x <;> first | exact q1.elim | skip
  rename_i a
  cases r1
  unfold seqK at q1
  dsimp only at q1
  have asList : ∀ xs, Rd H1 a (.lst xs) → R (ItS (fun H' => Rd H' a (.lst xs)) xs) H1 → wpAny (model X.prog X.w) X.A (pyIter (.ref a)) (PIE X pins σ tg R) X.xe s1 := fun xs hq q => by
    obtain ⟨its, rv, p, hz⟩ := I1.list (.inl hq)
    refine wpAny_pyIter_list p.isList ?_
    refine ⟨s1.heap.objs.size, [s1.heap.objs.size], _, _, H1, rfl, I1.kept (t' := s1.toks) fun b o e => Heap.get?_push_of_some _ e, (turn_list a _).conv ?_ ?_ ?_, ⟨_, Heap.get?_push_size _ rfl, rfl, rfl⟩, fun b hb => ?_, q⟩
    · exact fun i H' ⟨h1, h2⟩ => ⟨xs, xs[i], .inl h1, by simp [h2]⟩
    · exact fun i H' x H'' ⟨h1, h2⟩ ⟨e, y⟩ => ⟨e, y xs (.inl h1)⟩
    · exact fun i H' ⟨h1, h2⟩ => ⟨xs, .inl h1, h2⟩
    · have e : b = s1.heap.objs.size := by simpa using hb
      subst e
      exact I1.fpOk (Nat.le_refl _) (I1.hok.fresh (Nat.le_refl _))
  split at q1
  · rename_i xs e; exact asList xs (.inl e) q1
  · rename_i o xs e; exact asList xs (.inr ⟨o, e⟩) q1
  · rename_i xs e
    obtain ⟨its, rv, p, hz⟩ := I1.tuple (.of e)
    refine wpAny_pyIter_tuple (show s1.heap.IsTuple a its.toArray from p) ?_
    refine ⟨s1.heap.objs.size, [s1.heap.objs.size], _, _, H1, rfl, I1.kept (t' := s1.toks) fun b o e => Heap.get?_push_of_some _ e, (turn_tuple a _).conv ?_ ?_ ?_, ⟨_, Heap.get?_push_size _ rfl, rfl, rfl⟩, fun b hb => ?_, q1⟩
    · exact fun i H' ⟨h1, h2⟩ => ⟨xs, xs[i], .of h1, by simp [h2]⟩
    · exact fun i H' x H'' ⟨h1, h2⟩ ⟨e, y⟩ => ⟨e, y xs (.of h1)⟩
    · exact fun i H' ⟨h1, h2⟩ => ⟨xs, .of h1, h2⟩
    · have e : b = s1.heap.objs.size := by simpa using hb
      subst e
      exact I1.fpOk (Nat.le_refl _) (I1.hok.fresh (Nat.le_refl _))
  · exact q1.elim
def zseq (lo : Int) (n : Nat) : List V := (List.range n).map fun (i : Nat) => V.int (lo + i)
theorem zseq_len (lo : Int) (n : Nat) : (zseq lo n).length = n := by simp [zseq]
theorem zseq_at (lo : Int) (n i : Nat) (h : i < n) : (zseq lo n)[i]? = some (.int (lo + i)) := by simp [zseq, h]
def iR1 (ta : TA) : TI := fun σ H R => ta σ H fun vs H1 => match vs with | [.int j] => (-(2 ^ 62) ≤ j ∧ j < 2 ^ 62) ∧ R (ItS (fun _ => True) (zseq 0 j.toNat)) H1 | _ => False
theorem range_conv (lo : Int) (n : Nat) : (∀ i (H : Hp), (ItS (fun _ => True) (zseq lo n)).go i H → (Itr lo n).go i H) ∧ (∀ i H x H', (ItS (fun _ => True) (zseq lo n)).go i H → (Itr lo n).yld i H x H' → (ItS (fun _ => True) (zseq lo n)).yld i H x H') ∧
    (∀ i (H : Hp), (ItS (fun _ => True) (zseq lo n)).stop i H → (Itr lo n).stop i H) := by
  refine ⟨fun i H ⟨_, h⟩ => ?_, fun i H x H' ⟨_, h⟩ ⟨e, y⟩ => ⟨e, ?_⟩, fun i H ⟨_, h⟩ => ?_⟩
  · rw [zseq_len] at h; exact h
  · rw [zseq_len] at h; rw [y]; exact zseq_at lo n i h
  · rw [zseq_len] at h; exact h
end
def ForW (J : It) (g : TG) (tb : TS) (D : Ends) (σ : St) (H1 : Hp) : Prop := ∃ W : Nat → Nat → St → Hp → Prop, (∃ m, W 0 m σ H1) ∧ ∀ i m σ H, W i m σ H →
  (J.stop i H ∧ D.nx σ H) ∨ (J.go i H ∧ ∃ N : St → Hp → Prop, (∀ σ' H', N σ' H' → ∃ m', m' < m ∧ W (i + 1) m' σ' H') ∧ ∀ x H', J.yld i H x H' → g x σ H' fun σ2 H2 => tb { D with nx := N, ct := N, bk := D.nx } σ2 H2)
def tForC (wi : TI) (g : TG) (tb : TS) : TS := fun D σ H => wi σ H fun J H1 => ForW J g tb D σ H1
theorem ps_forC {X : Cx} {tg iter : Expr} {body : List Stmt} {wi : TI} {g : TG} {tb : TS} {pos : Pos} (hp : PassesOwn (model X.prog X.w) X.A X.env X.xe) (hc : X.calm = true) (hi : PI X tg iter wi) (hg : PG X tg g) (hb : PSs X body tb)
    (hs : ∀ x, foldedSetIterable iter X.env x = pure x := by intro _; rfl) : PS X (.For tg iter body [] pos) (tForC wi g tb) := ps_for hp hc hi hg hb hs
def Stp (n i : Nat) (P : Prop) : Prop := ∃ m', m' < n - i ∧ m' = n - (i + 1) ∧ i + 1 ≤ n ∧ P
theorem Stp.mk {n i : Nat} {P : Prop} (h : i < n) (p : P) : Stp n i P := ⟨n - (i + 1), by omega, rfl, h, p⟩
theorem Same.upd_new {H : Hp} {a : Addr} {o : HO} (h : H a = none) : Same H (upd H a o) := fun b u e => by rw [upd_ne (ne_of_none e h)]; exact e
theorem Same.upd_at {H H1 : Hp} {a : Addr} {o : HO} (s : Same H H1) (h : H a = none) : Same H (upd H1 a o) := fun b u e => by rw [upd_ne (ne_of_none e h)]; exact s b u e
end L2
set_option Elab.async false
set_option linter.all false
set_option maxRecDepth 100000
set_option maxHeartbeats 4000000
namespace L2
open PySem PySem.Spec PyProof.Rows
theorem zip_tp {prog : Program} {w : World} {A : Around} {E : Value → Shared → Prop} {s : Shared} {z TI TO i1 i2 l1 l2 : Addr} (D : ZipApart z TI TO i1 i2 l1 l2) {xs ys : Array Value} {i : Nat} {Q : Option Value → Shared → Prop} (hi : i < min xs.size ys.size)
    (hz : IsZip s.heap z TI TO .none) (hTI : IsPair s.heap TI (.ref i1) (.ref i2)) (hTO : ∃ a b, IsPair s.heap TO a b) (h1 : s.heap.IsListIter i1 l1 i) (h2 : s.heap.IsListIter i2 l2 i) (g1 : s.heap.IsList l1 xs) (g2 : s.heap.IsList l2 ys)
    (q : ∀ T vals h' tk, (∃ x y, xs[i]? = some x ∧ ys[i]? = some y ∧ vals = #[x, y]) → s.heap.objs.size ≤ T → IsTp h' T vals → (IsZip h' z TI TO (rawInt T) ∧ IsPair h' TI (.ref i1) (.ref i2) ∧ (∃ a b, IsPair h' TO a b) ∧ h'.IsListIter i1 l1 (i + 1) ∧ h'.IsListIter i2 l2 (i + 1) ∧ h'.IsList l1 xs ∧ h'.IsList l2 ys ∧ T ≠ z ∧ T ≠ TO ∧ T ≠ i1 ∧ T ≠ i2) →
      (∀ c o, c ∉ [z, TO, i1, i2] → s.heap.get? c = some o → h'.get? c = some o) → Q (some (.ref T)) { s with heap := h', toks := tk }) : wpAny (model prog w) A (pyNext (.ref z)) Q E s := by
  obtain ⟨a, b, hTO⟩ := hTO
  have bx : i < xs.size := by omega
  have by' : i < ys.size := by omega
  have gt : ∀ {c : Addr} {o : Obj}, s.heap.get? c = some o → s.heap.objs.size ≠ c := fun e z => absurd (Heap.lt_size e) (by rw [z]; exact Nat.lt_irrefl _)
  have n1 : s.heap.objs.size ≠ i1 := by obtain ⟨_, e, _⟩ := h1; exact gt e
  have n2 : s.heap.objs.size ≠ i2 := by obtain ⟨_, e, _⟩ := h2; exact gt e
  refine wpAny_pyNext_zip_item D hz hTI hTO h1 h2 g1 g2 (x := xs[i]) (y := ys[i]) (by simp [bx]) (by simp [by']) fun h' r1 r2 r3 r4 r5 _ kp => ?_
  have kl : ∀ c o, c ∉ [z, TO, i1, i2] → s.heap.get? c = some o → h'.get? c = some o := fun c o hc e => by
    simp only [List.mem_cons, List.not_mem_nil, or_false, not_or] at hc
    exact kp c o hc.1 hc.2.1 hc.2.2.1 hc.2.2.2 e
  refine q s.heap.objs.size #[xs[i], ys[i]] h' s.toks ⟨_, _, by simp [bx], by simp [by'], rfl⟩ (Nat.le_refl _) (.mk' r5) ⟨r1, kp _ _ D.TIz D.TITO D.TIi1 D.TIi2 hTI, ⟨_, _, r2⟩, r3, r4, ?_, ?_, gt hz, gt hTO, n1, n2⟩ kl
  · exact g1.at fun o e => kp _ o D.l1z D.l1TO D.l1i1 D.l1i2 e
  · exact g2.at fun o e => kp _ o D.l2z D.l2TO D.l2i1 D.l2i2 e
theorem enum_tp {prog : Program} {w : World} {A : Around} {E : Value → Shared → Prop} {s : Shared} {e it l : Addr} (hei : e ≠ it) (hle : l ≠ e) (hli : l ≠ it) {items : Array Value} {i : Nat} {Q : Option Value → Shared → Prop} (hi : i < items.size)
    (he : ∃ old, IsEnum s.heap e it i old) (h1 : s.heap.IsListIter it l i) (g1 : s.heap.IsList l items)
    (q : ∀ T vals h' tk, (∃ t x, items[i]? = some x ∧ vals = #[.int i t, x]) → s.heap.objs.size ≤ T → IsTp h' T vals → ((∃ x, IsEnumOut h' e it ((i : Int) + 1) x T) ∧ h'.IsListIter it l (i + 1) ∧ h'.IsList l items ∧ T ≠ e ∧ T ≠ it) →
      (∀ c o, c ∉ [e, it] → s.heap.get? c = some o → h'.get? c = some o) → Q (some (.ref T)) { s with heap := h', toks := tk }) : wpAny (model prog w) A (pyNext (.ref e)) Q E s := by
  obtain ⟨old, he⟩ := he
  have gt : ∀ {c : Addr} {o : Obj}, s.heap.get? c = some o → s.heap.objs.size ≠ c := fun e z => absurd (Heap.lt_size e) (by rw [z]; exact Nat.lt_irrefl _)
  have n1 : s.heap.objs.size ≠ it := by obtain ⟨_, e, _⟩ := h1; exact gt e
  refine wpAny_pyNext_enum_item he h1 g1 (x := items[i]) (by simp [hi]) hei fun h' r1 r2 r3 _ kp => ?_
  have kl : ∀ c o, c ∉ [e, it] → s.heap.get? c = some o → h'.get? c = some o := fun c o hc e => by
    simp only [List.mem_cons, List.not_mem_nil, or_false, not_or] at hc
    exact kp c o hc.1 hc.2 e
  exact q s.heap.objs.size #[.int i s.toks, items[i]] h' (s.toks + 1) ⟨_, _, by simp [hi], rfl⟩ (Nat.le_refl _) (.mk' r3) ⟨⟨_, r1⟩, r2, g1.at fun o e => kp _ o hle hli e, gt he, n1⟩ kl
section
variable {X : Cx} {pins : List (Addr × Obj)} {σ : St} {H : Hp} {s : Shared} {tg : Expr}
theorem Inv.turnedT {wr : List Addr} {h' : Heap} {tk : Nat} {T : Addr} {xs : List V} {its : List Value} (I : Inv X pins σ H s) (hw : ∀ b ∈ wr, FpOk X pins H b) (k : ∀ b o, b ∉ wr → s.heap.get? b = some o → h'.get? b = some o)
    (hT : s.heap.objs.size ≤ T) (ht : IsTp h' T its.toArray) (rv : Vals xs its) (hz : xs.length ≤ sizeLine) : Inv X pins σ (upd H T (.tup xs)) { s with heap := h', toks := tk } := by
  have HT : H T = none := I.hok.fresh hT
  have nw : ∀ b u, H b = some u → b ∉ wr := fun b u e z => by rw [(hw b z).1] at e; cases e
  have neT : ∀ b o, s.heap.get? b = some o → b ≠ T := fun b o e => Nat.ne_of_lt (Nat.lt_of_lt_of_le (Heap.lt_size e) hT)
  refine I.step (g' := s.gens) (d' := s.drawn) (ch := wr) (fun b hb => ⟨(hw b hb).2.2.2.1, (hw b hb).2.1, (hw b hb).2.2.2.2.1, (hw b hb).2.2.2.2.2⟩) (fun b o _ _ hc e _ => k b o hc e) (fun b o _ _ hc e _ => ⟨o.slots, k b o hc e⟩)
    (fun b o _ e n => by rw [upd_ne (neT b o e)]; exact n) (fun b o hc e => ⟨o, k b o hc e⟩) (fun b ys e => by rw [upd_ne (ne_of_none e HT)]; exact e) (fun b u ys e => by rw [upd_ne (ne_of_none e HT)]; exact e)
    (fun b ps e => ⟨#[], by rw [upd_ne (ne_of_none e HT), e]; simp⟩) (fun m hm => ?_) (fun b u e => ?_) I.bare
  · obtain ⟨o, es, ep, ho, r⟩ := hm
    exact ⟨o, es, ep, k _ o (fun z => (hw _ z).2.1 rfl) ho, r⟩
  · by_cases hb : b = T
    · subst hb
      rw [upd_same] at e
      cases e
      exact ⟨hz, its, rv, ht⟩
    · rw [upd_ne hb] at e
      refine (I.hok b u e).stay (fun c v hc q => k c v ?_ q) (fun c q => ?_) fun c ys q => ?_
      · rcases hc with z | z
        · rw [z]; exact nw b u e
        · exact nw c _ z
      · rw [upd_ne (ne_of_none q HT)]; exact q
      · rw [upd_ne (ne_of_none q HT)]; exact q
end
section
variable {X : Cx} {pins : List (Addr × Obj)} {σ : St} {H : Hp} {s : Shared}
theorem Inv.turnedN {wr : List Addr} {h' : Heap} {tk : Nat} (I : Inv X pins σ H s) (hw : ∀ b ∈ wr, FpOk X pins H b) (k : ∀ b o, b ∉ wr → s.heap.get? b = some o → h'.get? b = some o) : Inv X pins σ H { s with heap := h', toks := tk } := by
  have nw : ∀ b u, H b = some u → b ∉ wr := fun b u e z => by rw [(hw b z).1] at e; cases e
  refine I.step (g' := s.gens) (d' := s.drawn) (ch := wr) (fun b hb => ⟨(hw b hb).2.2.2.1, (hw b hb).2.1, (hw b hb).2.2.2.2.1, (hw b hb).2.2.2.2.2⟩) (fun b o _ _ hc e _ => k b o hc e) (fun b o _ _ hc e _ => ⟨o.slots, k b o hc e⟩)
    (fun b o _ e n => n) (fun b o hc e => ⟨o, k b o hc e⟩) (fun b ys e => e) (fun b u ys e => e) (fun b ps e => ⟨#[], by rw [e]; simp⟩) (fun m hm => ?_) (fun b u e => ?_) I.bare
  · obtain ⟨o, es, ep, ho, r⟩ := hm
    exact ⟨o, es, ep, k _ o (fun z => (hw _ z).2.1 rfl) ho, r⟩
  · refine (I.hok b u e).stay (fun c v hc q => k c v ?_ q) (fun c q => q) fun c ys q => q
    rcases hc with z | z
    · rw [z]; exact nw b u e
    · exact nw c _ z
end
def ItP (S : Hp → Prop) (ps : List (V × V)) : It := ⟨fun i H => S H ∧ i < ps.length, fun i H x H' => ∃ T a b, x = .ref T ∧ H T = none ∧ H' = upd H T (.tup [a, b]) ∧ ps[i]? = some (a, b), fun i H => S H ∧ i = ps.length⟩
theorem two_le : 2 ≤ sizeLine := by rw [sizeLine_eq]; decide
theorem turn_enum {P : Program} {w : World} {K : PySem.W.Frag} {elts : List Expr} {k : Nat} {pos : Pos} {e it l : Addr} {xs : List V} (hei : e ≠ it) (hle : l ≠ e) (hli : l ≠ it) :
    Turn P w K (.Tuple elts k pos) (ItP (fun H => Rd H l (.lst xs)) ((zseq 0 xs.length).zip xs)) [e, it] e (fun i h => (∃ old, IsEnum h e it i old) ∧ h.IsListIter it l i) where
  mem := by simp
  obj := fun i h ⟨⟨old, he⟩, ⟨o1, h1, _, d1⟩⟩ c hc => by
    have hc' : c = e ∨ c = it := by simpa using hc
    rcases hc' with rfl | rfl
    · exact ⟨_, he, fun v z => by cases z⟩
    · exact ⟨o1, h1, fun v z => by rw [d1] at z; cases z⟩
  keep := fun i h h' ⟨⟨old, he⟩, h1⟩ kp => ⟨⟨old, kp e (by simp) _ he⟩, h1.at fun o z => kp it (by simp) o z⟩
  item := by
    intro X hP hw hK hc i pins s σ H E I hf st hg
    subst hP hw hK
    obtain ⟨hS, hlt⟩ := hg
    obtain ⟨he, h1⟩ := st
    obtain ⟨its, r, p1, z1⟩ := I.list (.inl hS)
    have W := WalksT.enumerate (prog := X.prog) (w := X.w) (A := X.A) (I.ok.hd hc) e it l hei hle hli its.toArray
    have le1 := r.length
    have hlx : i < xs.length := by rw [List.length_zip, zseq_len] at hlt; omega
    have hlz : i < its.toArray.size := by simp only [List.size_toArray]; omega
    refine enum_tp hei hle hli hlz he h1 p1.isList fun T vals h' tk hPt hT ht hM hk => ⟨.ref T, rfl, ?_⟩
    refine W.go elts k pos i T _ _ _ hM fun h'' hst'' hk'' => ?_
    obtain ⟨t, x, hx, rfl⟩ := hPt
    obtain ⟨a, ea⟩ : ∃ a, xs[i]? = some a := ⟨xs[i], by simp⟩
    obtain ⟨u1, q1, ru1⟩ := r.get ea
    have hx' : its[i]? = some x := by simpa using hx
    rw [q1] at hx'; cases hx'
    obtain ⟨oT, hoT, hcT, nT, hdT⟩ := ht
    have ht'' : IsTp h'' T ([.int (i : Nat) t, x] : List Value).toArray := ⟨oT, hk'' T oT (W.apart i T _ hM) hoT, hcT, nT, hdT⟩
    have sub : ∀ c ∈ [e, it], FpOk X pins H c := fun c hc' => hf c hc'
    have I2 := I.turnedT (tk := tk) (xs := [.int (i : Nat), a]) (its := [.int (i : Nat) t, x]) sub (fun c o hcw z => hk'' c o hcw (hk c o hcw z)) hT ht'' (.cons ⟨_, rfl⟩ (.cons ru1 .nil)) two_le
    have HT : H T = none := I.hok.fresh hT
    refine ⟨.ref T, upd H T (.tup [.int (i : Nat), a]), I2, rfl, ⟨T, .int (i : Nat), a, rfl, HT, rfl, ?_⟩, ⟨hst''.1, hst''.2.1⟩, fun c hc' => ?_⟩
    · rw [List.getElem?_zip_eq_some]
      refine ⟨?_, ea⟩
      rw [zseq_at 0 _ _ hlx]; simp
    · rw [upd_ne]
      · exact (hf c hc').1
      · intro ec
        have hh : ∃ o, s.heap.get? c = some o := by
          have hc'' : c = e ∨ c = it := by simpa using hc'
          obtain ⟨old, he'⟩ := he
          obtain ⟨o1, g1, _⟩ := h1
          rcases hc'' with z | z <;> subst z
          · exact ⟨_, he'⟩
          · exact ⟨_, g1⟩
        obtain ⟨o, ho⟩ := hh
        exact absurd (Nat.lt_of_lt_of_le (Heap.lt_size ho) hT) (by rw [ec]; exact Nat.lt_irrefl _)
  done := by
    intro X hP hw hK hc i pins s σ H E I hf st hg
    subst hP hw hK
    obtain ⟨hS, hle'⟩ := hg
    obtain ⟨he, h1⟩ := st
    obtain ⟨its, r, p1, z1⟩ := I.list (.inl hS)
    have W := WalksT.enumerate (prog := X.prog) (w := X.w) (A := X.A) (I.ok.hd hc) e it l hei hle hli its.toArray
    have le1 := r.length
    have hi : its.toArray.size = i := by
      rw [List.length_zip, zseq_len] at hle'
      simp only [List.size_toArray]; omega
    rw [← hi] at h1 he
    exact W.done s _ _ ⟨he, h1, p1.isList⟩ fun h' tk hk => ⟨rfl, I.turnedN hf hk⟩
  self := fun A i s Q E st h => by
    obtain ⟨⟨old, he⟩, _⟩ := st
    exact wpAny_pyIter_enum he h
section
variable {X : Cx} {a b : Expr} {ta : TA} {p pos tpos : Pos} {elts : List Expr} {k : Nat}
def iZip (ta : TA) : TI := fun σ H R => ta σ H fun vs H1 => match vs with
  | [.ref l1, .ref l2] => ∃ xs ys, Rd H1 l1 (.lst xs) ∧ Rd H1 l2 (.lst ys) ∧ R (ItP (fun H => Rd H l1 (.lst xs) ∧ Rd H l2 (.lst ys)) (xs.zip ys)) H1
  | _ => False
def iEnum (ta : TA) : TI := fun σ H R => ta σ H fun vs H1 => match vs with
  | [.ref l] => ∃ xs, Rd H1 l (.lst xs) ∧ R (ItP (fun H => Rd H l (.lst xs)) ((zseq 0 xs.length).zip xs)) H1
  | _ => False
theorem pi_enum (hg : Gl X "enumerate") (hm : X.mg "enumerate" = none) (ha : PA X [a] ta) (hs : starEach [a] X.env = [(false, eval a X.env)] := by rfl) :
    PI X (.Tuple elts k tpos) (.Call (.Name "enumerate" p) [a] [] pos) (iEnum ta) := by
  intro pins s σ H R I h
  refine Call_ (ld_blt I hg hm boot_enumerate (PyProof.Rows.callWith_type1 (thn (ha pos pins s σ H _ I h) fun us s1 ⟨vs, H1, I1, r1, q1⟩ => ?_) hs rfl))
  dsimp only at q1
  split at q1
  · rename_i l
    obtain ⟨xs, e1, q⟩ := q1
    obtain ⟨u, rfl, ru⟩ := vals1 r1
    cases ru
    obtain ⟨its1, rr1, p1, _⟩ := I1.list (.inl e1)
    have lt1 : l < s1.heap.objs.size := by obtain ⟨o, ho, _⟩ := p1.isList; exact Heap.lt_size ho
    refine call_enumerate_list p1.isList fun h' he hi hsz hk => ?_
    refine wpAny_pyIter_enum he ⟨s1.heap.objs.size + 1, [s1.heap.objs.size + 1, s1.heap.objs.size], _, _, H1, rfl, I1.kept (t' := s1.toks) hk, turn_enum (Nat.succ_ne_self _) (Nat.ne_of_lt (Nat.lt_succ_of_lt lt1)) (Nat.ne_of_lt lt1), ⟨⟨_, he⟩, hi⟩, fun c hc => ?_, q⟩
    have hc' : s1.heap.objs.size ≤ c := by
      have : c = s1.heap.objs.size + 1 ∨ c = s1.heap.objs.size := by simpa using hc
      rcases this with z | z <;> rw [z] <;> first | exact Nat.le_add_right _ _ | exact Nat.le_refl _
    exact I1.fpOk hc' (I1.hok.fresh hc')
  · exact q1.elim
end
end L2
set_option Elab.async false
set_option linter.all false
set_option maxRecDepth 100000
set_option maxHeartbeats 4000000
namespace L2
open PySem PySem.Spec PyProof.Rows
section
variable {X : Cx} {tg : Expr} {a b : Expr} {ta : TA} {p pos : Pos}
theorem pi_r1 (hg : Gl X "range") (hm : X.mg "range" = none) (ha : PA X [a] ta) (hs : starEach [a] X.env = [(false, eval a X.env)] := by rfl) : PI X tg (.Call (.Name "range" p) [a] [] pos) (iR1 ta) := by
  intro pins s σ H R I h
  refine Call_ (ld_blt I hg hm boot_range (PyProof.Rows.callWith_type1 (thn (ha pos pins s σ H _ I h) fun us s1 ⟨vs, H1, I1, r1, q1⟩ => ?_) hs rfl))
  dsimp only at q1
  split at q1
  · rename_i j
    obtain ⟨⟨h1, h2⟩, q⟩ := q1
    obtain ⟨u, rfl, t, rfl⟩ := vals1 r1
    refine call_range_1 (thn (range_it (tg := tg) (R := fun J H1 => ∃ J', (∀ i H, J'.go i H → J.go i H) ∧ (∀ i H x H', J'.go i H → J.yld i H x H' → J'.yld i H x H') ∧ (∀ i H, J'.stop i H → J.stop i H) ∧ R J' H1) I1 (by omega) (by omega) h1 h2 ?_) fun itv s2 h2 => ?_)
    · refine ⟨_, (range_conv 0 (j - 0).toNat).1, (range_conv 0 (j - 0).toNat).2.1, (range_conv 0 (j - 0).toNat).2.2, ?_⟩
      simpa using q
    · obtain ⟨it, fp, tn, J, H2, e, I2, T, st, hf, J', c1, c2, c3, r⟩ := h2
      exact ⟨it, fp, tn, J', H2, e, I2, T.conv c1 c2 c3, st, hf, r⟩
  · exact q1.elim
end
def cB1 : V → Hp → (List V → Hp → Prop) → Prop := fun x H R => R [x] H
def cBT (n : Nat) : V → Hp → (List V → Hp → Prop) → Prop := fun x H R => match x with
  | .ref a => (match H a with | some (.tup xs) => xs.length = n ∧ R xs H | _ => False)
  | _ => False
section
variable {X : Cx} {sc : Scope} {caps : List Str} {ix : List Nat} {elt iter : Expr} {ifs : List Expr} {pos px py pz tpos : Pos} {tt : TT} {te : TE} {wi : TI} {x y z : Str} {kt : Nat}
theorem hB_1 (x : V) (σt cs : St) (H : Hp) (Q : St → Hp → Prop) (hl : σt.length = 1) (h : cB1 x H (fun vals H2 => Q (vals.map some ++ cs) H2)) : gName 0 x (σt ++ cs) H fun σ2 H2 => (∃ vals : List V, vals.length = 1 ∧ σ2 = vals.map some ++ cs) ∧ Q σ2 H2 := by
  match σt, hl with
  | [t], _ => exact ⟨⟨[x], rfl, rfl⟩, h⟩
theorem hB_2 {K : PySem.W.Frag} (x : V) (σt cs : St) (H : Hp) (Q : St → Hp → Prop) (hl : σt.length = 2) (h : cBT 2 x H (fun vals H2 => Q (vals.map some ++ cs) H2)) :
    gTup K 2 (gCons (gName 0) (gCons (gName 1) gNil)) x (σt ++ cs) H fun σ2 H2 => (∃ vals : List V, vals.length = 2 ∧ σ2 = vals.map some ++ cs) ∧ Q σ2 H2 := by
  cases x <;> first | exact h.elim | skip
  rename_i a
  unfold cBT at h
  dsimp only at h
  split at h
  · rename_i xs e
    obtain ⟨hn, h⟩ := h
    match σt, hl, xs, hn with
    | [t, t'], _, [v, v'], _ => exact ⟨a, [v, v'], rfl, .of e, rfl, v, [v'], rfl, v', [], rfl, rfl, ⟨[v, v'], rfl, rfl⟩, h⟩
  · exact h.elim
theorem pg_c {tgs : List Str} {i : Nat} {x : Str} {px : Pos} (hN : (tgs ++ caps).Nodup) (hi : (tgs ++ caps)[i]? = some x) (hx : sc.names.lookup x = some .local) (fp : List Addr) (s : Shared) (H : Hp) : PG (cxComp X sc (tgs ++ caps) fp s H) (.Name x px) (gName i) :=
  pg_name (X := cxComp X sc (tgs ++ caps) fp s H) hN hi (.inl (lookup_relabel_local hx)) (.inr (lookup_relabel_local hx))
theorem pe_comp1 (C : CompOk X sc caps ix) (hN : ([x] ++ caps).Nodup) (hx : sc.names.lookup x = some .local) (hi : PI X (.Name x px) iter wi) (ht : ∀ fp s H, PTs (cxComp X sc ([x] ++ caps) fp s H) ifs tt) (he : ∀ fp s H, PE (cxComp X sc ([x] ++ caps) fp s H) elt te)
    (hs : ∀ x, foldedSetIterable iter X.env x = pure x := by intro _; rfl) : PE X (.ListComp elt [⟨.Name x px, iter, ifs, 0⟩] sc pos) (tComp wi cB1 ix tt te) :=
  pe_comp (tgs := [x]) C hi (fun fp s H => pg_c hN rfl hx fp s H) hB_1 ht he hs
theorem ps_comp1 {v : Str} {k : Nat} {spos pv : Pos} (hNX : X.N.Nodup) (hk : X.N[k]? = some v) (hv : X.env.scope.names.lookup v = some .local) (C : CompOk X sc caps ix) (hN : ([x] ++ caps).Nodup) (hx : sc.names.lookup x = some .local) (hi : PI X (.Name x px) iter wi)
    (ht : ∀ fp s H, PTs (cxComp X sc ([x] ++ caps) fp s H) ifs tt) (he : ∀ fp s H, PE (cxComp X sc ([x] ++ caps) fp s H) elt te)
    (hsw : swapsWith (.ListComp elt [⟨.Name x px, iter, ifs, 0⟩] sc pos) (some (.Name v pv)) spos.line X.env = pure true := by rfl) (hs : ∀ x, foldedSetIterable iter X.env x = pure x := by intro _; rfl) :
    PS X (.Assign [.Name v pv] (.ListComp elt [⟨.Name x px, iter, ifs, 0⟩] sc pos) spos) (tAsg (tComp wi cB1 ix tt te) (gName k)) :=
  ps_setC (tgs := [x]) hNX hk hv C hi (fun fp s H => pg_c hN rfl hx fp s H) hB_1 ht he hsw hs
theorem pg_c2 (hc : X.calm = true) (hN : ([x, y] ++ caps).Nodup) (hx : sc.names.lookup x = some .local) (hy : sc.names.lookup y = some .local) (fp : List Addr) (s : Shared) (H : Hp) :
    PG (cxComp X sc ([x, y] ++ caps) fp s H) (.Tuple [.Name x px, .Name y py] kt tpos) (gTup X.K 2 (gCons (gName 0) (gCons (gName 1) gNil))) :=
  pg_tup (X := cxComp X sc ([x, y] ++ caps) fp s H) hc (pgs_cons (pg_c hN rfl hx fp s H) (pgs_cons (pg_c hN rfl hy fp s H) pgs_nil))
theorem pe_comp2 (C : CompOk X sc caps ix) (hN : ([x, y] ++ caps).Nodup) (hx : sc.names.lookup x = some .local) (hy : sc.names.lookup y = some .local) (hi : PI X (.Tuple [.Name x px, .Name y py] kt tpos) iter wi) (ht : ∀ fp s H, PTs (cxComp X sc ([x, y] ++ caps) fp s H) ifs tt)
    (he : ∀ fp s H, PE (cxComp X sc ([x, y] ++ caps) fp s H) elt te) (hs : ∀ x, foldedSetIterable iter X.env x = pure x := by intro _; rfl) : PE X (.ListComp elt [⟨.Tuple [.Name x px, .Name y py] kt tpos, iter, ifs, 0⟩] sc pos) (tComp wi (cBT 2) ix tt te) :=
  pe_comp (tgs := [x, y]) C hi (fun fp s H => pg_c2 C.calm hN hx hy fp s H) hB_2 ht he hs
theorem ps_comp2 {v : Str} {k : Nat} {spos pv : Pos} (hNX : X.N.Nodup) (hk : X.N[k]? = some v) (hv : X.env.scope.names.lookup v = some .local) (C : CompOk X sc caps ix) (hN : ([x, y] ++ caps).Nodup) (hx : sc.names.lookup x = some .local) (hy : sc.names.lookup y = some .local)
    (hi : PI X (.Tuple [.Name x px, .Name y py] kt tpos) iter wi) (ht : ∀ fp s H, PTs (cxComp X sc ([x, y] ++ caps) fp s H) ifs tt) (he : ∀ fp s H, PE (cxComp X sc ([x, y] ++ caps) fp s H) elt te)
    (hsw : swapsWith (.ListComp elt [⟨.Tuple [.Name x px, .Name y py] kt tpos, iter, ifs, 0⟩] sc pos) (some (.Name v pv)) spos.line X.env = pure true := by rfl) (hs : ∀ x, foldedSetIterable iter X.env x = pure x := by intro _; rfl) :
    PS X (.Assign [.Name v pv] (.ListComp elt [⟨.Tuple [.Name x px, .Name y py] kt tpos, iter, ifs, 0⟩] sc pos) spos) (tAsg (tComp wi (cBT 2) ix tt te) (gName k)) :=
  ps_setC (tgs := [x, y]) hNX hk hv C hi (fun fp s H => pg_c2 C.calm hN hx hy fp s H) hB_2 ht he hsw hs
def gTupC (n : Nat) (t : TGs) : TG := fun v σ H Q => match v with
  | .ref a => (match H a with | some (.tup xs) => xs.length = n ∧ t xs σ H Q | _ => False)
  | _ => False
def gConsC (t : TG) (u : TGs) : TGs := fun vs σ H Q => match vs with | v :: r => t v σ H fun σ' H' => u r σ' H' Q | [] => False
def gNilC : TGs := fun vs σ H Q => match vs with | [] => Q σ H | _ => False
theorem PGs.imp {es : List Expr} {t t' : TGs} (h : PGs X es t) (hi : ∀ vs σ H Q, t' vs σ H Q → t vs σ H Q) : PGs X es t' := fun pins s σ H vs us Q I r q => h pins s σ H vs us Q I r (hi vs σ H Q q)
theorem PG.imp {e : Expr} {t t' : TG} (h : PG X e t) (hi : ∀ v σ H Q, t' v σ H Q → t v σ H Q) : PG X e t' := fun pins s σ H v u Q I r q => h pins s σ H v u Q I r (hi v σ H Q q)
theorem pgs_nilC : PGs X [] gNilC := pgs_nil.imp fun vs σ H Q q => by
  cases vs with
  | nil => exact ⟨rfl, q⟩
  | cons _ _ => exact q.elim
theorem pgs_consC {e : Expr} {es : List Expr} {t : TG} {u : TGs} (h1 : PG X e t) (h2 : PGs X es u) (hs : (assignEach (e :: es) X.env).map (·.2) = assign e X.env :: (assignEach es X.env).map (·.2) := by rfl) : PGs X (e :: es) (gConsC t u) := (pgs_cons h1 h2 hs).imp fun vs σ H Q q => by
  cases vs with
  | nil => exact q.elim
  | cons v r => exact ⟨v, r, rfl, q⟩
theorem pg_tupC {es : List Expr} {k : Nat} {t : TGs} {n : Nat} (hc : X.calm = true) (h : PGs X es t)
    (hn : (assignEach es X.env).length = n := by rfl) (hst : (assignEach es X.env).findIdx? (·.1) = none := by rfl) : PG X (.Tuple es k pos) (gTupC n t) := (pg_tup hc h hn hst).imp fun v σ H Q q => by
  cases v <;> first | exact q.elim | skip
  rename_i a
  unfold gTupC at q
  dsimp only at q
  split at q
  · rename_i xs e; exact ⟨a, xs, rfl, .of e, q.1, q.2⟩
  · exact q.elim
end
end L2
set_option Elab.async false
set_option linter.all false
set_option maxRecDepth 100000
set_option maxHeartbeats 4000000
namespace L2
open PySem PySem.Spec PyProof.Rows
theorem atI0 {α : Type} (a : α) (r : List α) : atI (a :: r) 0 = some a := atI_nat (j := 0) rfl
theorem atI1 {α : Type} (a b : α) (r : List α) : atI (a :: b :: r) 1 = some b := atI_nat (j := 1) rfl
section
variable {prog : Program} {w : World} {A : Around} {E : Value → Shared → Prop} {s : Shared}
theorem draw_lst {it t : Addr} {items : Array Value} (hne : t ≠ it) : ∀ (n i : Nat) (s : Shared) (Q : List Value → Shared → Prop), s.heap.IsListIter it t i → s.heap.IsList t items → i + n ≤ items.size →
    (∀ h', h'.IsListIter it t (i + n) → Heap.SameBut it s.heap h' → Q ((items.toList.drop i).take n) { s with heap := h' }) → wpAny (model prog w) A (draw (.ref it) n) Q E s
  | 0, i, s, Q, hit, _, _, k => by
    show wpAny _ _ (pure []) Q E s
    exact wpAny_pure (by simpa using k s.heap hit (Heap.SameBut.refl ..))
  | n + 1, i, s, Q, hit, ht, hle, k => by
    have hlt : i < items.size := by omega
    show wpAny _ _ (pyNext (.ref it) >>= _) Q E s
    refine wpAny_bind (wpAny_pyNext_list_item hit ht (x := items[i]) (by simp [hlt]) fun g1 it1 sb1 => ?_)
    refine wpAny_bind (wpAny_holding (draw_lst hne n (i + 1) _ _ it1 (ht.extBut sb1.extBut hne) (by omega) fun g2 it2 sb2 => wpAny_pure ?_))
    have hd : items.toList.drop i = items[i] :: items.toList.drop (i + 1) := by simp [List.drop_eq_getElem_cons, hlt]
    have z := k g2 (by rw [show i + (n + 1) = i + 1 + n by omega]; exact it2) (sb1.trans sb2)
    rw [hd, List.take_succ_cons] at z
    exact z
theorem items_lst {t : Addr} {items : Array Value} {Q : List Value → Shared → Prop} (hh : A.handled = none) (ht : s.heap.IsList t items)
    (k : ∀ h', (∀ b o, s.heap.get? b = some o → h'.get? b = some o) → Q items.toList { s with heap := h' }) : wpAny (model prog w) A (unpackItems (.ref t) items.size none) Q E s := by
  have hlt : t ≠ s.heap.objs.size := by obtain ⟨o, ho, _⟩ := ht; exact Nat.ne_of_lt (Heap.lt_size ho)
  have old : ∀ {b : Addr} {o : Obj}, s.heap.get? b = some o → b ≠ s.heap.objs.size := fun e => Nat.ne_of_lt (Heap.lt_size e)
  unfold unpackItems
  refine wpAny_bind ?_
  · unfold notIterableAtAll
    refine wpAny_bind (wpAny_specialOf ht.typeIs slot_list_iter.lookup ?_)
    refine wpAny_pure ?_
    simp only [Bool.false_eq_true, if_false]
    refine wpAny_bind (wpAny_holding (wpAny_pyIter_list ht ?_))
    refine wpAny_bind (wpAny_holding (draw_lst hlt items.size 0 _ _ ⟨_, Heap.get?_push_size _ rfl, rfl, rfl⟩ (ht.push _) (by omega) fun g1 it1 sb1 => ?_))
    have hall : List.take items.size (List.drop 0 items.toList) = items.toList := by
      rw [List.drop_zero]; exact List.take_of_length_le (by simp)
    rw [hall]
    rw [if_neg (by simp)]
    have ht1 : g1.IsList t items := (ht.push _).extBut sb1.extBut hlt
    refine wpAny_bind (wpAny_holding (wpAny_pyNext_list_end hh it1 ht1 (by simp) fun g2 eb2 => ?_))
    simp only [Option.isSome_none, Bool.false_eq_true, if_false]
    exact wpAny_pure (k g2 fun b o e => eb2 b o (old e) (sb1.extBut b o (old e) (Heap.get?_push_of_some _ e)))
theorem assign_lst {env : Env} {elts : List Expr} {x1} {pos : Pos} {t : Addr} {items : Array Value} {Q : Unit → Shared → Prop} (hh : A.handled = none) (ht : s.heap.IsList t items)
    (hn : (assignEach elts env).length = items.size) (hstar : (assignEach elts env).findIdx? (·.1) = none)
    (h : ∀ h', (∀ b o, s.heap.get? b = some o → h'.get? b = some o) → wpAny (model prog w) A (assignInOrder ((assignEach elts env).map (·.2)) items.toList) Q E { s with heap := h' }) :
    wpAny (model prog w) A (assign (.Tuple elts x1 pos) env (.ref t)) Q E s := by
  rw [assign_Tuple]
  refine wpAny_bind (wpAny_standAt ?_)
  unfold unpack
  rw [hn, hstar]
  exact wpAny_bind (wpAny_holding (items_lst hh ht h))
end
section
variable {X : Cx} {pos : Pos}
def gSeqC (n : Nat) (t : TGs) : TG := fun v σ H Q => match v with
  | .ref a => (match H a with
    | some (.tup xs) => xs.length = n ∧ t xs σ H Q
    | some (.lst xs) => xs.length = n ∧ t xs σ H Q
    | _ => False)
  | _ => False
theorem pg_seqC {es : List Expr} {k : Nat} {t : TGs} {n : Nat} (hc : X.calm = true) (h : PGs X es t)
    (hn : (assignEach es X.env).length = n := by rfl) (hst : (assignEach es X.env).findIdx? (·.1) = none := by rfl) : PG X (.Tuple es k pos) (gSeqC n t) := by
  intro pins s σ H v u Q I r hw
  cases v <;> first | exact hw.elim | skip
  rename_i a
  unfold gSeqC at hw
  dsimp only at hw
  split at hw
  · rename_i xs e
    exact pg_tupC hc h hn hst pins s σ H (.ref a) u Q I r (by unfold gTupC; dsimp only; rw [e]; exact hw)
  · rename_i xs e
    obtain ⟨hl, hw⟩ := hw
    cases r
    obtain ⟨its, rv, ht, hz⟩ := I.list (.of e)
    refine assign_lst (I.ok.hd hc) ht.isList (by simp [hn, ← hl, rv.length]) hst fun h' hx => ?_
    exact h pins _ σ H xs _ Q (I.kept (t' := s.toks) hx) (by simpa using rv) hw
  · exact hw.elim
def rIsi : List V → Hp → VK → Prop := fun xs H Q => match xs with
    | [x, .ty c] => isKnd c = true ∧ (match kindV H x with | some t => Q (.bl (isiB t c)) H | none => False)
    | _ => False
def rSumS : List V → Hp → VK → Prop := fun xs H Q => match xs with
    | [.ref p] => ∃ ns : List Int, rdSeq H p = some (ns.map V.int) ∧ Q (.int ns.sum) H
    | _ => False
def rAllB : List V → Hp → VK → Prop := fun xs H Q => match xs with
    | [.ref p] => ∃ bs : List Bool, Rd H p (.lst (bs.map V.bl)) ∧ Q (.bl (bs.all id)) H
    | _ => False
def rIntC : List V → Hp → VK → Prop := fun xs H Q => match xs with | [.int i] => Q (.int i) H | [.bl k] => Q (.int (if k then 1 else 0)) H | _ => False
def rMax2 : List V → Hp → VK → Prop := fun xs H Q => match xs with | [.int i, .int j] => Q (.int (if j > i then j else i)) H | _ => False
def rMin2 : List V → Hp → VK → Prop := fun xs H Q => match xs with | [.int i, .int j] => Q (.int (if j < i then j else i)) H | _ => False
section
variable {H : Hp} {Q : VK} {QB : Bool → Hp → Prop} {p q l b : Addr} {i j : Int} {x y : V} {a c : Bool} {cs : String} {vs : List V}
theorem rIsi_e : rIsi [x, .ty cs] H Q = (isKnd cs = true ∧ (match kindV H x with | some t => Q (.bl (isiB t cs)) H | none => False)) := rfl
theorem rAllB_e : rAllB [.ref p] H Q = ∃ bs : List Bool, Rd H p (.lst (bs.map V.bl)) ∧ Q (.bl (bs.all id)) H := rfl
theorem rMax2_e : rMax2 [.int i, .int j] H Q = Q (.int (if j > i then j else i)) H := rfl
theorem rMin2_e : rMin2 [.int i, .int j] H Q = Q (.int (if j < i then j else i)) H := rfl
end
theorem c_isi : CallR X (.builtin "isinstance") rIsi := call_isi
theorem c_all (hc : X.calm = true) : CallR X (.builtin "all") rAllB := call_allB hc
theorem c_int : CallR X (.type "int") rIntC := call_intC
theorem c_max2 (hc : X.calm = true) : CallR X (.builtin "max") rMax2 := call_max2C hc
theorem c_min2 (hc : X.calm = true) : CallR X (.builtin "min") rMin2 := call_min2C hc
end
end L2
set_option Elab.async false
set_option linter.all false
set_option maxRecDepth 100000
set_option maxHeartbeats 4000000
namespace L2
open PySem PySem.Spec PyProof.Rows
inductive NK where
  | i (n : Int)
  | t (ks : List NK)
noncomputable instance : DecidableEq NK := fun a b => Classical.propDecidable (a = b)
mutual
def NK.dep : NK → Nat
  | .i _ => 0
  | .t ks => nkDeps ks + 1
def nkDeps : List NK → Nat
  | [] => 0
  | k :: ks => max k.dep (nkDeps ks)
end
mutual
def NK.hs : NK → Int
  | .i n => hashInt n
  | .t ks => reduceHash (Builtin.Tuple.tupleHashOf (nkHs ks))
def nkHs : List NK → List Int
  | [] => []
  | k :: ks => k.hs :: nkHs ks
end
mutual
def NK.dr : NK → Nat
  | .i _ => 1
  | .t ks => nkDr ks + 1
def nkDr : List NK → Nat
  | [] => 0
  | k :: ks => k.dr + nkDr ks
end
mutual
def NKv (h : Heap) : NK → Value → Prop
  | .i n, v => ∃ t, v = .int n t
  | .t ks, v => ∃ a its, v = .ref a ∧ h.IsTuple a its ∧ NKvs h ks its.toList
def NKvs (h : Heap) : List NK → List Value → Prop
  | [], vs => vs = []
  | k :: ks, vs => ∃ v r, vs = v :: r ∧ NKv h k v ∧ NKvs h ks r
end
theorem NKvs.len {h : Heap} : ∀ {ks : List NK} {vs : List Value}, NKvs h ks vs → ks.length = vs.length
  | [], _, q => by simp only [NKvs] at q; rw [q]; rfl
  | k :: ks, _, q => by
    simp only [NKvs] at q
    obtain ⟨v, r, rfl, _, q⟩ := q
    simp only [List.length_cons, NKvs.len q]
theorem isTup_inj {h : Heap} {a : Addr} {x y : Array Value} (p : h.IsTuple a x) (q : h.IsTuple a y) : x = y := by
  obtain ⟨o, e, c, n, d⟩ := p
  obtain ⟨o', e', c', n', d'⟩ := q
  rw [e] at e'; cases e'
  rw [d] at d'; cases d'; rfl
mutual
theorem NKv.inj {h : Heap} : ∀ {k j : NK} {v : Value}, NKv h k v → NKv h j v → k = j
  | .i n, .i m, v, p, q => by
    simp only [NKv] at p q
    obtain ⟨t, rfl⟩ := p; obtain ⟨t', e⟩ := q
    cases e; rfl
  | .i n, .t ks, v, p, q => by
    simp only [NKv] at p q
    obtain ⟨t, rfl⟩ := p; obtain ⟨_, _, e, _⟩ := q; cases e
  | .t ks, .i m, v, p, q => by
    simp only [NKv] at p q
    obtain ⟨t, rfl⟩ := q; obtain ⟨_, _, e, _⟩ := p; cases e
  | .t ks, .t js, v, p, q => by
    simp only [NKv] at p q
    obtain ⟨a, its, rfl, p1, p2⟩ := p
    obtain ⟨b, its', e, q1, q2⟩ := q
    cases e
    cases isTup_inj p1 q1
    rw [NKvs.inj p2 q2]
theorem NKvs.inj {h : Heap} : ∀ {ks js : List NK} {vs : List Value}, NKvs h ks vs → NKvs h js vs → ks = js
  | [], [], _, _, _ => rfl
  | [], j :: js, _, p, q => by
    simp only [NKvs] at p q; subst p; obtain ⟨_, _, e, _⟩ := q; cases e
  | k :: ks, [], _, p, q => by
    simp only [NKvs] at p q; subst q; obtain ⟨_, _, e, _⟩ := p; cases e
  | k :: ks, j :: js, _, p, q => by
    simp only [NKvs] at p q
    obtain ⟨v, r, rfl, p1, p2⟩ := p
    obtain ⟨_, _, e, q1, q2⟩ := q
    cases e
    rw [NKv.inj p1 q1, NKvs.inj p2 q2]
end
mutual
theorem NKv.stay {h h' : Heap} (st : ∀ a its, h.IsTuple a its → h'.IsTuple a its) : ∀ {k : NK} {v : Value}, NKv h k v → NKv h' k v
  | .i n, v, p => by simp only [NKv] at p ⊢; exact p
  | .t ks, v, p => by
    simp only [NKv] at p ⊢
    obtain ⟨a, its, e, p1, p2⟩ := p
    exact ⟨a, its, e, st _ _ p1, NKvs.stay st p2⟩
theorem NKvs.stay {h h' : Heap} (st : ∀ a its, h.IsTuple a its → h'.IsTuple a its) : ∀ {ks : List NK} {vs : List Value}, NKvs h ks vs → NKvs h' ks vs
  | [], _, p => by simp only [NKvs] at p ⊢; exact p
  | k :: ks, _, p => by
    simp only [NKvs] at p ⊢
    obtain ⟨v, r, e, p1, p2⟩ := p
    exact ⟨v, r, e, NKv.stay st p1, NKvs.stay st p2⟩
end
section
variable {prog : Program} {w : World}
theorem nk_hash : ∀ (m : Nat) {k : NK} {v : Value} {A : Around} {E : Value → Shared → Prop} {s : Shared} {Q : Int → Shared → Prop}, k.dep ≤ m → A.units + m < cLine → NKv s.heap k v → Q k.hs { s with toks := s.toks + k.dr } → wpAny (model prog w) A (pyHash v) Q E s
  | m, .i n, v, A, E, s, Q, hd, hu, p, q => by
    simp only [NKv] at p
    obtain ⟨t, rfl⟩ := p
    exact wpAny_pyHash_int q
  | 0, .t ks, v, A, E, s, Q, hd, hu, p, q => by simp only [NK.dep] at hd; omega
  | m + 1, .t ks, v, A, E, s, Q, hd, hu, p, q => by
    simp only [NKv] at p
    obtain ⟨a, its, rfl, ⟨o, e, c, n, d⟩, p2⟩ := p
    simp only [NK.dep] at hd
    show wpAny (model prog w) A (pyHashByItsType (.ref a)) Q E s
    refine W.pyHash_slot (T := "tuple") ⟨o, e, c⟩ F.slot_tuple_hash F.entry_tuple_hash (F.args_tuple_hash_1 _) rfl (.inr (by omega)) ?_
    refine wpAny_bind (wpAny_of_eq (show slotArgs "__hash__" 0 ⟨[.ref a], []⟩ = pure (.ref a, []) from rfl) ?_)
    show wpAny (model prog w) A.in1 (Builtin.Tuple.tupleItemsOf (.ref a) >>= _) _ _ s
    refine wpAny_bind (wpAny_tupleItemsOf e d ?_)
    refine wpAny_bind ?_
    have go : ∀ (ks : List NK) (vs : List Value) (b : Array Int) (s' : Shared) (Q' : Array Int → Shared → Prop), nkDeps ks ≤ m → NKvs s'.heap ks vs → (∀ b' : Array Int, b'.toList = b.toList ++ nkHs ks → Q' b' { s' with toks := s'.toks + nkDr ks }) →
        wpAny (model prog w) A.in1 (forIn vs b fun x r => do
          let h ← pyHash x
          pure (ForInStep.yield (r.push h))) Q' E s' := by
      intro ks
      induction ks with
      | nil =>
        intro vs b s' Q' _ p hq
        simp only [NKvs] at p; subst p
        exact wpAny_pure (hq b (by simp [nkHs]))
      | cons k ks ih =>
        intro vs b s' Q' hd p hq
        simp only [NKvs] at p
        obtain ⟨v, r, rfl, p1, p2⟩ := p
        simp only [nkDeps] at hd
        rw [List.forIn_cons]
        refine wpAny_bind (wpAny_bind (nk_hash m (by omega) (by show A.units + 1 + m < cLine; omega) p1 ?_))
        refine wpAny_pure ?_
        refine ih r (b.push k.hs) _ Q' (by omega) p2 fun b' hb' => ?_
        have := hq b' (by rw [hb']; simp [nkHs])
        simpa only [nkDr, Nat.add_assoc] using this
    rw [← Array.forIn_toList]
    refine go ks its.toList #[] s _ (by omega) p2 fun b' hb' => ?_
    show wpAny (model prog w) A.in1 (retInt (Builtin.Tuple.tupleHashOf b'.toList)) _ _ _
    refine wpAny_mono (wpAny_ret_mkInt (Q := fun v s' => ∃ n t, v = Value.int n t ∧ Q (reduceHash n) s') ⟨_, _, rfl, ?_⟩) (fun fin s' h => ?_) fun _ _ h => h
    · rw [hb']
      simpa only [NK.hs, NK.dr, Nat.add_assoc, List.nil_append] using q
    · obtain ⟨v, rfl, n, t, rfl, hq⟩ := h
      exact ⟨n, t, rfl, hq⟩
theorem nk_eq {s : Shared} : ∀ (m : Nat) {k j : NK} {u v : Value} {A : Around}, k.dep ≤ m → A.units + m < cLine → NKv s.heap k u → NKv s.heap j v → SeqAt.EqAt A s u v (decide (k = j))
  | m, .i n, .i n', u, v, A, hd, hu, p, q => by
    simp only [NKv] at p q
    obtain ⟨t, rfl⟩ := p; obtain ⟨t', rfl⟩ := q
    have : decide (NK.i n = NK.i n') = (n == n') := by
      by_cases h : n = n'
      · rw [h]; simp
      · rw [decide_eq_false (fun e => h (NK.i.inj e))]; simp [h]
    rw [this]
    exact .int_int _ _ _ _
  | m, .i n, .t js, u, v, A, hd, hu, p, q => by
    simp only [NKv] at p q
    obtain ⟨t, rfl⟩ := p; obtain ⟨a, its, rfl, q1, _⟩ := q
    rw [decide_eq_false (fun e => by cases e)]
    exact .int_tuple _ _ q1 (by omega)
  | m, .t ks, .i n', u, v, A, hd, hu, p, q => by
    simp only [NKv] at p q
    obtain ⟨t, rfl⟩ := q; obtain ⟨a, its, rfl, q1, _⟩ := p
    rw [decide_eq_false (fun e => by cases e)]
    exact .tuple_int _ _ q1 (by omega)
  | 0, .t ks, .t js, u, v, A, hd, hu, p, q => by simp only [NK.dep] at hd; omega
  | m + 1, .t ks, .t js, u, v, A, hd, hu, p, q => by
    have p0 := p
    have q0 := q
    simp only [NKv] at p q
    obtain ⟨a, its, rfl, p1, p2⟩ := p
    obtain ⟨b, its2, rfl, q1, q2⟩ := q
    simp only [NK.dep] at hd
    by_cases hab : a = b
    · subst hab
      rw [decide_eq_true (NKv.inj p0 q0)]
      exact .same _
    · have l1 := p2.len
      have l2 := q2.len
      simp only [Array.length_toList] at l1 l2
      have at' : ∀ (ks : List NK) (vs : List Value), NKvs s.heap ks vs → ∀ j v, vs[j]? = some v → NKv s.heap (ks.getD j (.i 0)) v ∧ (ks.getD j (.i 0)).dep ≤ nkDeps ks := by
        intro ks
        induction ks with
        | nil => intro vs p j v e; simp only [NKvs] at p; subst p; simp at e
        | cons k ks ih =>
          intro vs p j v e
          simp only [NKvs] at p
          obtain ⟨v0, r, rfl, r1, r2⟩ := p
          cases j with
          | zero => simp at e; subst e; exact ⟨r1, by simp only [List.getD_cons_zero, nkDeps]; omega⟩
          | succ j =>
            simp only [List.getElem?_cons_succ] at e
            obtain ⟨x1, x2⟩ := ih r r2 j v e
            exact ⟨x1, by simp only [List.getD_cons_succ, nkDeps]; omega⟩
      have q := SeqAt.RcAt.tuples (A := A) p1 q1 (by omega) (e := fun j => decide (ks.getD j (.i 0) = js.getD j (.i 0))) fun j h1 h2 => by
        obtain ⟨x1, x2⟩ := at' ks _ p2 j its[j] (by simp [h1])
        obtain ⟨y1, y2⟩ := at' js _ q2 j its2[j] (by simp [h2])
        exact nk_eq m (by omega) (by show A.units + 1 + m < cLine; omega) x1 y1
      have eb : ((List.range (min its.size its2.size)).all (fun j => decide (ks.getD j (.i 0) = js.getD j (.i 0))) && its.size == its2.size) = decide (NK.t ks = NK.t js) := by
        rw [Bool.eq_iff_iff, Bool.and_eq_true, List.all_eq_true, decide_eq_true_eq, beq_iff_eq]
        constructor
        · rintro ⟨h1, h2⟩
          congr 1
          refine List.ext_getElem (by omega) fun j hj hj' => ?_
          have := h1 j (List.mem_range.mpr (by omega))
          rw [decide_eq_true_eq, List.getD_eq_getElem?_getD, List.getD_eq_getElem?_getD, List.getElem?_eq_getElem hj, List.getElem?_eq_getElem hj'] at this
          exact this
        · intro e
          cases e
          exact ⟨fun j _ => decide_eq_true rfl, by omega⟩
      rw [eb] at q
      exact .of_refs hab q
end
end L2
set_option Elab.async false
set_option linter.all false
set_option maxRecDepth 100000
set_option maxHeartbeats 4000000
namespace L2
open PySem PySem.Spec PyProof.Rows
section
variable {prog : Program} {w : World}
theorem nk_quiet {A : Around} {E : Value → Shared → Prop} {s : Shared} : ∀ (m : Nat) {k : NK} {v : Value} {Q : Bool → Shared → Prop}, k.dep ≤ m → NKv s.heap k v → Q true s → wpAny (model prog w) A (eqIsQuiet m v) Q E s
  | m, .i n, v, Q, hd, p, q => by
    simp only [NKv] at p
    obtain ⟨t, rfl⟩ := p
    rw [eqIsQuiet.eq_3 _ _ (fun a e => by cases e)]
    exact wpAny_pure q
  | 0, .t ks, v, Q, hd, p, q => by simp only [NK.dep] at hd; omega
  | m + 1, .t ks, v, Q, hd, p, q => by
    simp only [NKv] at p
    obtain ⟨a, its, rfl, ⟨o, e, c, n, d⟩, p2⟩ := p
    simp only [NK.dep] at hd
    rw [eqIsQuiet.eq_2]
    refine wpAny_bind (wpAny_specialOf (T := "tuple") ⟨o, e, c⟩ F.slot_tuple_eq.lookup ?_)
    show wpAny (model prog w) A (isInstance (.ref a) (.type "tuple") >>= _) _ _ s
    refine wpAny_bind (wpAny_isInstance (T := "tuple") (b := true) ⟨o, e, c⟩ (by rfl) ?_)
    show wpAny (model prog w) A (seqItems? (.ref a) >>= _) _ _ s
    refine wpAny_bind (wpAny_seqItems e d ?_)
    refine wpAny_bind ?_
    have go : ∀ (ks : List NK) (vs : List Value) (Q' : Option Bool × Unit → Shared → Prop), nkDeps ks ≤ m → NKvs s.heap ks vs → Q' (none, ()) s →
        wpAny (model prog w) A (forIn vs ((none, ()) : Option Bool × Unit) fun y __s => do
                  let __do_lift ← eqIsQuiet m y
                  if (!__do_lift) = true then pure (ForInStep.done (some false, ()))
                    else pure (ForInStep.yield (none, ()))) Q' E s := by
      intro ks
      induction ks with
      | nil =>
        intro vs Q' _ p hq
        simp only [NKvs] at p; subst p
        exact wpAny_pure hq
      | cons k ks ih =>
        intro vs Q' hd p hq
        simp only [NKvs] at p
        obtain ⟨v, r, rfl, p1, p2⟩ := p
        simp only [nkDeps] at hd
        rw [List.forIn_cons]
        refine wpAny_bind (wpAny_bind (nk_quiet m (by omega) p1 ?_))
        refine wpAny_pure ?_
        exact ih r Q' (by omega) p2 hq
    show wpAny (model prog w) A (forIn its ((none, ()) : Option Bool × Unit) _) _ _ s
    rw [← Array.forIn_toList]
    refine go ks its.toList _ (by omega) p2 ?_
    exact wpAny_pure q
noncomputable def deepKind (prog : Program) (w : World) : HeapKind prog w NK where
  is := fun h k a => NKv h k (.ref a) ∧ k.dep ≤ 8
  hash := NK.hs
  draws := NK.dr
  room := fun A => A.units + 8 < cLine
  inj := fun p q => NKv.inj p.1 q.1
  keeps := fun {h h' k a d o es ep} p e eo sb => ⟨NKv.stay (fun b its t => by
    obtain ⟨ob, eb, cb, n, db⟩ := t
    have hne : b ≠ d := fun z => by
      subst z
      rw [e] at eb; cases eb
      rw [eo] at db; cases db
    exact ⟨ob, (sb.2 b hne).trans eb, cb, n, db⟩) p.1, p.2⟩
  pyHash := fun {A E s k a Q} hr p q => nk_hash 8 p.2 hr p.1 q
  eqBool := fun {A E s x y a b Q} hr p p' q => nk_eq 8 p.2 hr p.1 p'.1 prog w E Q q
  quiet := fun {A E s k a Q} p q => nk_quiet 8 p.2 p.1 q
end
def dnE (x : NK × Addr × Value) : DictEntry := { hash := x.1.hs, key := .ref x.2.1, val := x.2.2 }
def dnP (a : Addr) (ks : List (NK × Addr)) (xs : List V) (o : Obj) (h : Heap) : Prop :=
  h.get? a = some o ∧ ∃ (vs : List Value) (es : Array DictEntry) (ep : Nat), Vals xs vs ∧ ks.length = vs.length ∧ o.ExactDict ∧ o.data = .dict es ep ∧ es.toList = ((ks.zip vs).map fun q => (q.1.1, q.1.2, q.2)).map dnE
theorem dnP.stay {a : Addr} {ks : List (NK × Addr)} {xs : List V} {o : Obj} : ∀ h1 h2 : Heap, dnP a ks xs o h1 → (∀ o, h1.get? a = some o → h2.get? a = some o) → dnP a ks xs o h2 := fun _ _ p k => ⟨k _ p.1, p.2⟩
mutual
def NKr (H : Hp) : NK → V → Prop
  | .i n, v => v = .int n
  | .t ks, v => ∃ a ys, v = .ref a ∧ H a = some (.tup ys) ∧ NKrs H ks ys
def NKrs (H : Hp) : List NK → List V → Prop
  | [], vs => vs = []
  | k :: ks, vs => ∃ v r, vs = v :: r ∧ NKr H k v ∧ NKrs H ks r
end
mutual
theorem NKr.mono {H H' : Hp} (st : ∀ a ys, H a = some (.tup ys) → H' a = some (.tup ys)) : ∀ {k : NK} {v : V}, NKr H k v → NKr H' k v
  | .i n, v, p => by simp only [NKr] at p ⊢; exact p
  | .t ks, v, p => by
    simp only [NKr] at p ⊢
    obtain ⟨a, ys, e, p1, p2⟩ := p
    exact ⟨a, ys, e, st _ _ p1, NKrs.mono st p2⟩
theorem NKrs.mono {H H' : Hp} (st : ∀ a ys, H a = some (.tup ys) → H' a = some (.tup ys)) : ∀ {ks : List NK} {vs : List V}, NKrs H ks vs → NKrs H' ks vs
  | [], _, p => by simp only [NKrs] at p ⊢; exact p
  | k :: ks, _, p => by
    simp only [NKrs] at p ⊢
    obtain ⟨v, r, e, p1, p2⟩ := p
    exact ⟨v, r, e, NKr.mono st p1, NKrs.mono st p2⟩
end
section
variable {X : Cx} {pins : List (Addr × Obj)} {σ : St} {H : Hp} {s : Shared}
mutual
theorem nk_of (I : Inv X pins σ H s) : ∀ {k : NK} {x : V} {u : Value}, NKr H k x → RelV x u → NKv s.heap k u
  | .i n, x, u, p, r => by
    simp only [NKr] at p; subst p
    obtain ⟨t, rfl⟩ := r
    simp only [NKv]; exact ⟨t, rfl⟩
  | .t ks, x, u, p, r => by
    simp only [NKr] at p
    obtain ⟨a, ys, rfl, p1, p2⟩ := p
    cases r
    obtain ⟨its, r1, t1, _⟩ := I.tuple (.of p1)
    simp only [NKv]
    exact ⟨a, its.toArray, rfl, t1, nks_of I p2 r1⟩
theorem nks_of (I : Inv X pins σ H s) : ∀ {ks : List NK} {xs : List V} {us : List Value}, NKrs H ks xs → Vals xs us → NKvs s.heap ks us
  | [], _, _, p, r => by simp only [NKrs] at p; subst p; cases r; simp only [NKvs]
  | k :: ks, _, _, p, r => by
    simp only [NKrs] at p
    obtain ⟨v, q, rfl, p1, p2⟩ := p
    cases r with
    | cons a1 a2 =>
      simp only [NKvs]
      exact ⟨_, _, rfl, nk_of I p1 a1, nks_of I p2 a2⟩
end
end
end L2
set_option Elab.async false
set_option linter.all false
set_option maxRecDepth 100000
set_option maxHeartbeats 4000000
namespace L2
open PySem PySem.Spec PyProof.Rows
def KL (K : PySem.W.Frag) (a : Addr) (xs : List V) : Prop := ∃ (o : Obj) (its : Array Value) (n : Nat), K.lookup a = some o ∧ o.cls = .type "list" ∧ o.dict = none ∧ o.data = .seq its n ∧ its.size ≤ sizeLine ∧ Vals xs its.toList
def XO (K : PySem.W.Frag) (c : String) (a : Addr) (od : Option Addr) (o : HO) : Prop := ∃ C : Addr, PySem.W.nsIn K mainGlobals (c : Str) = some (some (.ref C)) ∧ o = .ext fun h => ∃ ob, h.get? a = some ob ∧ ob.cls = .ref C ∧ (∃ vs, ob.data = .fields vs) ∧ ob.dict = od
def nmOf (c : String) : List Str := if c = "Fallen" then ["corner"] else if c = "Crossed" then ["one", "other"] else if c = "NotFull" then ["line"] else []
inductive D where
  | non | bl (b : Bool) | int (i : Int) | str (x : Str) | tup (ds : List D) | lst (ds : List D)
  | dk (ks : List Key) (ds : List D) | dt (ks : List (List Key)) (ds : List D) | dn (ks : List NK) (ds : List D) | scr (ns : List Int) | exc (c : String) (fs : List D)
def DN (H : Hp) (a : Addr) (qs : List (NK × Addr)) : Prop := (qs.map (·.1)).Nodup ∧ (∀ q ∈ qs, NKr H q.1 (.ref q.2) ∧ q.1.dep ≤ 8) ∧ (a == sysModules) = false ∧ qs.length ≤ sizeLine
theorem DN.tk {H H' : Hp} {a : Addr} {qs : List (NK × Addr)} (h : DN H a qs) (st : ∀ a ys, H a = some (.tup ys) → H' a = some (.tup ys)) : DN H' a qs :=
  ⟨h.1, fun q hq => ⟨NKr.mono st (h.2.1 q hq).1, (h.2.1 q hq).2⟩, h.2.2⟩
mutual
def RD (K : PySem.W.Frag) (H : Hp) : D → V → Prop
  | .non, v => v = .non
  | .bl b, v => v = .bl b
  | .int i, v => v = .int i
  | .str x, v => v = .str x
  | .tup ds, v => ∃ a xs, v = .ref a ∧ H a = some (.tup xs) ∧ RDs K H ds xs
  | .lst ds, v => ∃ a xs, v = .ref a ∧ H a = some (.lst xs) ∧ RDs K H ds xs
  | .dk ks ds, v => ∃ a xs, v = .ref a ∧ H a = some (.dK (ks.zip xs)) ∧ ks.length = xs.length ∧ RDs K H ds xs
  | .dt ks ds, v => ∃ a xs, v = .ref a ∧ H a = some (.dT (ks.zip xs)) ∧ ks.length = xs.length ∧ RDs K H ds xs
  | .dn ks ds, v => ∃ a qs xs o, v = .ref a ∧ H a = some (.ext (dnP a qs xs o)) ∧ qs.map (·.1) = ks ∧ DN H a qs ∧ RDs K H ds xs
  | .scr ns, v => ∃ a, v = .ref a ∧ ((∃ o, H a = some (.frz o (.lst (ns.map V.int)))) ∨ KL K a (ns.map V.int))
  | .exc c fs, v => ∃ a od o, v = .ref a ∧ XO K c a od o ∧ H a = some o ∧ (fs = [] ∨ ∃ (dx : Addr) (ns : List Int) (ob : Obj), od = some dx ∧ H dx = some (.frz ob (.xd ((nmOf c).zip (ns.map V.int)))) ∧ fs = ns.map D.int)
def RDs (K : PySem.W.Frag) (H : Hp) : List D → List V → Prop
  | [], xs => xs = []
  | d :: ds, xs => ∃ x r, xs = x :: r ∧ RD K H d x ∧ RDs K H ds r
end
mutual
def D.noL : D → Bool
  | .lst _ => false
  | .dk _ _ => false
  | .dt _ _ => false
  | .dn _ _ => false
  | .tup ds => noLs ds
  | _ => true
def noLs : List D → Bool
  | [] => true
  | d :: ds => d.noL && noLs ds
end
mutual
def D.pl : D → Bool
  | .dk _ _ => false
  | .dt _ _ => false
  | .dn _ _ => false
  | .scr _ => false
  | .exc _ _ => false
  | .tup ds => pls ds
  | .lst ds => pls ds
  | _ => true
def pls : List D → Bool
  | [] => true
  | d :: ds => d.pl && pls ds
end
def D.shal : D → Bool
  | .lst ds => noLs ds
  | .dk _ ds => noLs ds
  | .dt _ ds => noLs ds
  | .dn _ ds => noLs ds
  | d => d.noL
def Imm : HO → Prop
  | .tup _ => True
  | .frz _ _ => True
  | .ext φ => ∀ a qs xs o, φ ≠ dnP a qs xs o
  | _ => False
theorem XO.imm {K : PySem.W.Frag} {c : String} {a : Addr} {od : Option Addr} {o : HO} (h : XO K c a od o) : Imm o := by
  obtain ⟨C, _, rfl⟩ := h
  intro b qs xs o0 e
  obtain ⟨ob, hob⟩ : ∃ ob : Obj, ob = { cls := .ref C, dict := od, data := .fields #[] } := ⟨_, rfl⟩
  have hg : ∀ (i : Nat) (o : Obj), ({ objs := Array.replicate (a + 1) ob } : Heap).get? i = some o → o = ob := fun i o q => by
    by_cases hi : i < a + 1
    · have z : ({ objs := Array.replicate (a + 1) ob } : Heap).get? i = some ob := by
        unfold Heap.get?
        rw [Array.getElem?_replicate, if_pos hi, hob]
      rw [z] at q; cases q; rfl
    · unfold Heap.get? at q
      rw [Array.getElem?_replicate, if_neg hi] at q; cases q
  have h1 : (fun h : Heap => ∃ ob, h.get? a = some ob ∧ ob.cls = .ref C ∧ (∃ vs, ob.data = .fields vs) ∧ ob.dict = od) { objs := Array.replicate (a + 1) ob } := by
    refine ⟨ob, ?_, by rw [hob], ⟨#[], by rw [hob]⟩, by rw [hob]⟩
    unfold Heap.get?
    rw [Array.getElem?_replicate, if_pos (Nat.lt_succ_self a), hob]
  rw [e] at h1
  obtain ⟨g, vs, es, ep, _, _, _, d, _⟩ := h1
  rw [hg _ _ g, hob] at d
  cases d
def TK (H H' : Hp) : Prop := ∀ a o, Imm o → H a = some o → H' a = some o
section
variable {K : PySem.W.Frag} {H H' : Hp}
mutual
theorem RD.tk (hs : TK H H') : ∀ {d : D} {v : V}, d.noL = true → RD K H d v → RD K H' d v
  | .non, _, _, h => by simp only [RD] at h ⊢; exact h
  | .bl _, _, _, h => by simp only [RD] at h ⊢; exact h
  | .int _, _, _, h => by simp only [RD] at h ⊢; exact h
  | .str _, _, _, h => by simp only [RD] at h ⊢; exact h
  | .tup ds, _, n, h => by
    simp only [RD] at h ⊢
    obtain ⟨a, xs, e, h1, h2⟩ := h
    exact ⟨a, xs, e, hs _ _ trivial h1, RDs.tk hs (by simpa only [D.noL] using n) h2⟩
  | .lst ds, _, n, h => by simp [D.noL] at n
  | .dk _ ds, _, n, h => by simp [D.noL] at n
  | .dt _ ds, _, n, h => by simp [D.noL] at n
  | .dn _ ds, _, n, h => by simp [D.noL] at n
  | .exc c fs, _, n, h => by
    simp only [RD] at h ⊢
    obtain ⟨a, od, o, e, h1, h2, h3⟩ := h
    refine ⟨a, od, o, e, h1, hs _ _ h1.imm h2, ?_⟩
    rcases h3 with h3 | ⟨dx, xs, ob, q1, q2, q3⟩
    · exact .inl h3
    · exact .inr ⟨dx, xs, ob, q1, hs _ _ trivial q2, q3⟩
  | .scr ns, _, n, h => by
    simp only [RD] at h ⊢
    obtain ⟨a, e, h1⟩ := h
    refine ⟨a, e, ?_⟩
    rcases h1 with ⟨o, h1⟩ | h1
    · exact .inl ⟨o, hs _ _ trivial h1⟩
    · exact .inr h1
theorem RDs.tk (hs : TK H H') : ∀ {ds : List D} {xs : List V}, noLs ds = true → RDs K H ds xs → RDs K H' ds xs
  | [], _, _, h => by simp only [RDs] at h ⊢; exact h
  | d :: ds, _, n, h => by
    simp only [RDs] at h ⊢
    simp only [noLs, Bool.and_eq_true] at n
    obtain ⟨x, r, e, h1, h2⟩ := h
    exact ⟨x, r, e, RD.tk hs n.1 h1, RDs.tk hs n.2 h2⟩
end
mutual
theorem RD.mono (hs : Same H H') : ∀ {d : D} {v : V}, RD K H d v → RD K H' d v
  | .non, _, h => by simp only [RD] at h ⊢; exact h
  | .bl _, _, h => by simp only [RD] at h ⊢; exact h
  | .int _, _, h => by simp only [RD] at h ⊢; exact h
  | .str _, _, h => by simp only [RD] at h ⊢; exact h
  | .tup ds, _, h => by
    simp only [RD] at h ⊢
    obtain ⟨a, xs, e, h1, h2⟩ := h
    exact ⟨a, xs, e, hs _ _ h1, RDs.mono hs h2⟩
  | .lst ds, _, h => by
    simp only [RD] at h ⊢
    obtain ⟨a, xs, e, h1, h2⟩ := h
    exact ⟨a, xs, e, hs _ _ h1, RDs.mono hs h2⟩
  | .dk _ ds, _, h => by
    simp only [RD] at h ⊢
    obtain ⟨a, xs, e, h1, hl, h2⟩ := h
    exact ⟨a, xs, e, hs _ _ h1, hl, RDs.mono hs h2⟩
  | .dn _ ds, _, h => by
    simp only [RD] at h ⊢
    obtain ⟨a, qs, xs, o, e, h1, hk, hd, h2⟩ := h
    exact ⟨a, qs, xs, o, e, hs _ _ h1, hk, hd.tk fun b ys q => hs _ _ q, RDs.mono hs h2⟩
  | .dt _ ds, _, h => by
    simp only [RD] at h ⊢
    obtain ⟨a, xs, e, h1, hl, h2⟩ := h
    exact ⟨a, xs, e, hs _ _ h1, hl, RDs.mono hs h2⟩
  | .exc c fs, _, h => by
    simp only [RD] at h ⊢
    obtain ⟨a, od, o, e, h1, h2, h3⟩ := h
    refine ⟨a, od, o, e, h1, hs _ _ h2, ?_⟩
    rcases h3 with h3 | ⟨dx, xs, ob, q1, q2, q3⟩
    · exact .inl h3
    · exact .inr ⟨dx, xs, ob, q1, hs _ _ q2, q3⟩
  | .scr ns, _, h => by
    simp only [RD] at h ⊢
    obtain ⟨a, e, h1⟩ := h
    refine ⟨a, e, ?_⟩
    rcases h1 with ⟨o, h1⟩ | h1
    · exact .inl ⟨o, hs _ _ h1⟩
    · exact .inr h1
theorem RDs.mono (hs : Same H H') : ∀ {ds : List D} {xs : List V}, RDs K H ds xs → RDs K H' ds xs
  | [], _, h => by simp only [RDs] at h ⊢; exact h
  | d :: ds, _, h => by
    simp only [RDs] at h ⊢
    obtain ⟨x, r, e, h1, h2⟩ := h
    exact ⟨x, r, e, RD.mono hs h1, RDs.mono hs h2⟩
end
theorem RDs.length : ∀ {ds : List D} {xs : List V}, RDs K H ds xs → ds.length = xs.length
  | [], _, h => by simp only [RDs] at h; subst h; rfl
  | d :: ds, _, h => by
    simp only [RDs] at h
    obtain ⟨x, r, rfl, _, h2⟩ := h
    simp [RDs.length h2]
theorem RDs.get : ∀ {ds : List D} {xs : List V} {i : Nat} {x : V}, RDs K H ds xs → xs[i]? = some x → ∃ d, ds[i]? = some d ∧ RD K H d x
  | [], _, i, x, h, e => by simp only [RDs] at h; subst h; simp at e
  | d :: ds, _, i, x, h, e => by
    simp only [RDs] at h
    obtain ⟨y, r, rfl, h1, h2⟩ := h
    cases i with
    | zero => simp at e; subst e; exact ⟨d, rfl, h1⟩
    | succ i => simp at e; obtain ⟨d', e1, e2⟩ := RDs.get h2 e; exact ⟨d', by simpa using e1, e2⟩
theorem RDs.get' : ∀ {ds : List D} {xs : List V} {i : Nat} {d : D}, RDs K H ds xs → ds[i]? = some d → ∃ x, xs[i]? = some x ∧ RD K H d x
  | [], _, i, d, h, e => by simp at e
  | d' :: ds, _, i, d, h, e => by
    simp only [RDs] at h
    obtain ⟨y, r, rfl, h1, h2⟩ := h
    cases i with
    | zero => simp at e; subst e; exact ⟨y, rfl, h1⟩
    | succ i => simp at e; obtain ⟨x', e1, e2⟩ := RDs.get' h2 e; exact ⟨x', by simpa using e1, e2⟩
theorem RDs.append : ∀ {ds es : List D} {xs ys : List V}, RDs K H ds xs → RDs K H es ys → RDs K H (ds ++ es) (xs ++ ys)
  | [], _, _, _, h, h' => by simp only [RDs] at h; subst h; exact h'
  | d :: ds, es, _, ys, h, h' => by
    simp only [RDs] at h
    obtain ⟨x, r, rfl, h1, h2⟩ := h
    simp only [List.cons_append, RDs]
    exact ⟨x, r ++ ys, rfl, h1, RDs.append h2 h'⟩
theorem RDs.nil : RDs K H [] [] := by simp only [RDs]
theorem RDs.cons {d : D} {x : V} {ds : List D} {xs : List V} (h : RD K H d x) (h' : RDs K H ds xs) : RDs K H (d :: ds) (x :: xs) := by simp only [RDs]; exact ⟨x, xs, rfl, h, h'⟩
theorem RDs.one {d : D} {x : V} (h : RD K H d x) : RDs K H [d] [x] := .cons h .nil
theorem RDs.take : ∀ {ds : List D} {xs : List V} (n : Nat), RDs K H ds xs → RDs K H (ds.take n) (xs.take n)
  | _, _, 0, _ => by simp [RDs]
  | [], _, n + 1, h => by simp only [RDs] at h; subst h; simp [RDs]
  | d :: ds, _, n + 1, h => by
    simp only [RDs] at h
    obtain ⟨x, r, rfl, h1, h2⟩ := h
    simp only [List.take_succ_cons]
    exact .cons h1 (RDs.take n h2)
theorem RDs.drop : ∀ {ds : List D} {xs : List V} (n : Nat), RDs K H ds xs → RDs K H (ds.drop n) (xs.drop n)
  | _, _, 0, h => h
  | [], _, n + 1, h => by simp only [RDs] at h; subst h; simp [RDs]
  | d :: ds, _, n + 1, h => by
    simp only [RDs] at h
    obtain ⟨x, r, rfl, h1, h2⟩ := h
    exact RDs.drop n h2
theorem RDs.set : ∀ {ds : List D} {xs : List V} (n : Nat) {d : D} {x : V}, RDs K H ds xs → RD K H d x → RDs K H (ds.set n d) (xs.set n x)
  | [], _, n, _, _, h, _ => by simp only [RDs] at h; subst h; simp [RDs]
  | d :: ds, _, 0, _, _, h, h' => by
    simp only [RDs] at h
    obtain ⟨x, r, rfl, h1, h2⟩ := h
    exact .cons h' h2
  | d :: ds, _, n + 1, _, _, h, h' => by
    simp only [RDs] at h
    obtain ⟨x, r, rfl, h1, h2⟩ := h
    exact .cons h1 (RDs.set n h2 h')
theorem RDs.ofInts : ∀ (ns : List Int), RDs K H (ns.map D.int) (ns.map V.int)
  | [] => by simp only [List.map, RDs]
  | n :: ns => by
    simp only [List.map]
    exact RDs.cons (by simp only [RD]) (RDs.ofInts ns)
end
end L2
set_option Elab.async false
set_option linter.all false
set_option maxRecDepth 100000
set_option maxHeartbeats 4000000
namespace L2
open PySem PySem.Spec PyProof.Rows
mutual
def eqD : D → D → Bool
  | .non, .non => true
  | .bl a, .bl b => a == b
  | .bl a, .int j => (if a then 1 else 0) == j
  | .int i, .bl b => i == (if b then 1 else 0)
  | .int i, .int j => i == j
  | .str a, .str b => a == b
  | .tup ds, .tup es => eqDs ds es
  | .lst ds, .lst es => eqDs ds es
  | _, _ => false
def eqDs : List D → List D → Bool
  | [], [] => true
  | d :: ds, e :: es => eqD d e && eqDs ds es
  | _, _ => false
end
mutual
def D.dep : D → Nat
  | .tup ds => deps ds + 1
  | .lst ds => deps ds + 1
  | _ => 0
def deps : List D → Nat
  | [] => 0
  | d :: ds => max d.dep (deps ds)
end
mutual
theorem eqD_refl : ∀ d : D, d.pl = true → eqD d d = true
  | .non, _ => rfl
  | .bl b, _ => by simp [eqD]
  | .int b, _ => by simp [eqD]
  | .str b, _ => by simp [eqD]
  | .tup ds, h => by simp only [eqD]; exact eqDs_refl ds (by simpa only [D.pl] using h)
  | .lst ds, h => by simp only [eqD]; exact eqDs_refl ds (by simpa only [D.pl] using h)
  | .dk _ _, h => by simp [D.pl] at h
  | .dt _ _, h => by simp [D.pl] at h
  | .dn _ _, h => by simp [D.pl] at h
  | .scr _, h => by simp [D.pl] at h
  | .exc _ _, h => by simp [D.pl] at h
theorem eqDs_refl : ∀ ds : List D, pls ds = true → eqDs ds ds = true
  | [], _ => rfl
  | d :: ds, h => by
    simp only [pls, Bool.and_eq_true] at h
    simp only [eqDs, eqD_refl d h.1, eqDs_refl ds h.2, Bool.and_self]
end
mutual
theorem RD.inj {K : PySem.W.Frag} {H : Hp} : ∀ {d e : D} {v : V}, d.pl = true → e.pl = true → RD K H d v → RD K H e v → d = e
  | .non, e, v, _, p, h, h' => by
    simp only [RD] at h; subst h
    cases e <;> simp only [RD] at h' <;> first | (exfalso; simp [D.pl] at p; done) | rfl | (cases h'; done) | (obtain ⟨a, xs, z, _⟩ := h'; cases z)
  | .bl b, e, v, _, p, h, h' => by
    simp only [RD] at h; subst h
    cases e <;> simp only [RD] at h' <;> first | (exfalso; simp [D.pl] at p; done) | (cases h'; rfl) | (cases h'; done) | (obtain ⟨a, xs, z, _⟩ := h'; cases z)
  | .int b, e, v, _, p, h, h' => by
    simp only [RD] at h; subst h
    cases e <;> simp only [RD] at h' <;> first | (exfalso; simp [D.pl] at p; done) | (cases h'; rfl) | (cases h'; done) | (obtain ⟨a, xs, z, _⟩ := h'; cases z)
  | .str b, e, v, _, p, h, h' => by
    simp only [RD] at h; subst h
    cases e <;> simp only [RD] at h' <;> first | (exfalso; simp [D.pl] at p; done) | (cases h'; rfl) | (cases h'; done) | (obtain ⟨a, xs, z, _⟩ := h'; cases z)
  | .dk _ _, e, v, p, _, h, h' => by simp [D.pl] at p
  | .dt _ _, e, v, p, _, h, h' => by simp [D.pl] at p
  | .dn _ _, e, v, p, _, h, h' => by simp [D.pl] at p
  | .scr _, e, v, p, _, h, h' => by simp [D.pl] at p
  | .exc _ _, e, v, p, _, h, h' => by simp [D.pl] at p
  | .tup ds, e, v, p, p', h, h' => by
    simp only [RD] at h
    obtain ⟨a, xs, rfl, h1, h2⟩ := h
    cases e <;> simp only [RD] at h'
    case tup es =>
      obtain ⟨b, ys, z, h3, h4⟩ := h'
      cases z
      rw [h1] at h3; cases h3
      rw [RDs.inj (by simpa only [D.pl] using p) (by simpa only [D.pl] using p') h2 h4]
    case lst es =>
      obtain ⟨b, ys, z, h3, h4⟩ := h'
      cases z
      rw [h1] at h3; cases h3
    all_goals first | (exfalso; simp [D.pl] at p'; done) | cases h'
  | .lst ds, e, v, p, p', h, h' => by
    simp only [RD] at h
    obtain ⟨a, xs, rfl, h1, h2⟩ := h
    cases e <;> simp only [RD] at h'
    case tup es =>
      obtain ⟨b, ys, z, h3, h4⟩ := h'
      cases z
      rw [h1] at h3; cases h3
    case lst es =>
      obtain ⟨b, ys, z, h3, h4⟩ := h'
      cases z
      rw [h1] at h3; cases h3
      rw [RDs.inj (by simpa only [D.pl] using p) (by simpa only [D.pl] using p') h2 h4]
    all_goals first | (exfalso; simp [D.pl] at p'; done) | cases h'
theorem RDs.inj {K : PySem.W.Frag} {H : Hp} : ∀ {ds es : List D} {xs : List V}, pls ds = true → pls es = true → RDs K H ds xs → RDs K H es xs → ds = es
  | [], es, xs, _, _, h, h' => by
    simp only [RDs] at h; subst h
    cases es <;> simp only [RDs] at h'
    · rfl
    · obtain ⟨x, r, z, _⟩ := h'; cases z
  | d :: ds, es, xs, p, p', h, h' => by
    simp only [RDs] at h
    obtain ⟨x, r, rfl, h1, h2⟩ := h
    simp only [pls, Bool.and_eq_true] at p
    cases es with
    | nil => simp only [RDs] at h'; cases h'
    | cons e es =>
      simp only [RDs] at h'
      obtain ⟨y, r', z, h3, h4⟩ := h'
      cases z
      simp only [pls, Bool.and_eq_true] at p'
      rw [RD.inj p.1 p'.1 h1 h3, RDs.inj p.2 p'.2 h2 h4]
end
theorem pls_mem : ∀ {ds : List D} {d : D}, pls ds = true → d ∈ ds → d.pl = true
  | e :: ds, d, h, m => by
    simp only [pls, Bool.and_eq_true] at h
    rcases List.mem_cons.mp m with rfl | m
    · exact h.1
    · exact pls_mem h.2 m
theorem deps_mem : ∀ {ds : List D} {d : D}, d ∈ ds → d.dep ≤ deps ds
  | d' :: ds, d, h => by
    simp only [deps]
    rcases List.mem_cons.mp h with rfl | h
    · omega
    · have := deps_mem h; omega
theorem eqDs_all : ∀ {ds es : List D}, ds.length = es.length → eqDs ds es = (List.range ds.length).all fun j => eqD (ds.getD j .non) (es.getD j .non)
  | [], [], _ => rfl
  | [], _ :: _, h => by simp at h
  | _ :: _, [], h => by simp at h
  | d :: ds, e :: es, h => by
    simp only [eqDs, List.length_cons]
    rw [eqDs_all (by simpa using h), List.range_succ_eq_map, List.all_cons, List.all_map]
    rfl
theorem eqDs_len : ∀ {ds es : List D}, ds.length ≠ es.length → eqDs ds es = false
  | [], [], h => absurd rfl h
  | [], _ :: _, _ => rfl
  | _ :: _, [], _ => rfl
  | d :: ds, e :: es, h => by
    simp only [eqDs]
    rw [eqDs_len (by intro z; exact h (by simp [z])), Bool.and_false]
section
variable {X : Cx} {pins : List (Addr × Obj)} {σ : St} {H : Hp} {s : Shared}
theorem Inv.tupA (I : Inv X pins σ H s) {a : Addr} {xs : List V} (h : H a = some (.tup xs)) : ∃ its : List Value, Vals xs its ∧ s.heap.IsTuple a its.toArray := by
  obtain ⟨its, r, t, _⟩ := I.tuple (.of h)
  exact ⟨its, r, t⟩
theorem Inv.lstA (I : Inv X pins σ H s) {a : Addr} {xs : List V} (h : H a = some (.lst xs)) : ∃ its : List Value, Vals xs its ∧ s.heap.IsList a its.toArray := by
  obtain ⟨its, r, t, _⟩ := I.list (.of h)
  exact ⟨its, r, t.isList⟩
inductive Shp (X : Cx) (H : Hp) (s : Shared) : D → V → Value → Prop
  | non : Shp X H s .non .non .none
  | bl (b : Bool) : Shp X H s (.bl b) (.bl b) (.bool b)
  | int (i : Int) (t : Tok) : Shp X H s (.int i) (.int i) (.int i t)
  | str (c : Str) (t : Tok) : Shp X H s (.str c) (.str c) (.str c t)
  | tup {ds : List D} {a : Addr} {xs : List V} {its : List Value} (p : pls ds = true) (h : H a = some (.tup xs)) (q : RDs X.K H ds xs) (r : Vals xs its) (t : s.heap.IsTuple a its.toArray) : Shp X H s (.tup ds) (.ref a) (.ref a)
  | lst {ds : List D} {a : Addr} {xs : List V} {its : List Value} (p : pls ds = true) (h : H a = some (.lst xs)) (q : RDs X.K H ds xs) (r : Vals xs its) (t : s.heap.IsList a its.toArray) : Shp X H s (.lst ds) (.ref a) (.ref a)
theorem shp (I : Inv X pins σ H s) {d : D} {x : V} {u : Value} (p : d.pl = true) (h : RD X.K H d x) (r : RelV x u) : Shp X H s d x u := by
  cases d <;> simp only [RD] at h <;> first | (exfalso; simp [D.pl] at p; done) | skip
  · subst h; cases r; exact .non
  · subst h; cases r; exact .bl _
  · subst h; obtain ⟨t, rfl⟩ := r; exact .int _ _
  · subst h; obtain ⟨t, rfl⟩ := r; exact .str _ _
  · obtain ⟨a, xs, rfl, h1, h2⟩ := h
    cases r
    obtain ⟨its, v, t⟩ := I.tupA h1
    exact .tup (by simpa only [D.pl] using p) h1 h2 v t
  · obtain ⟨a, xs, rfl, h1, h2⟩ := h
    cases r
    obtain ⟨its, v, t⟩ := I.lstA h1
    exact .lst (by simpa only [D.pl] using p) h1 h2 v t
def EqIn (X : Cx) (H : Hp) (s : Shared) (A : Around) (n : Nat) : Prop := ∀ {d e : D} {x y : V} {u v : Value}, d.pl = true → e.pl = true → d.dep ≤ n → RD X.K H d x → RD X.K H e y → RelV x u → RelV y v → SeqAt.EqAt A s u v (eqD d e)
theorem inner_G {A : Around} {n : Nat} (ih : EqIn X H s A n) {ds es : List D} {xs ys : List V} {its its2 : List Value} (pd : pls ds = true) (pe : pls es = true) (hdn : deps ds ≤ n) (hxs : RDs X.K H ds xs) (hys : RDs X.K H es ys) (r : Vals xs its) (r2 : Vals ys its2) (j : Nat)
    (h1 : j < its.toArray.size) (h2 : j < its2.toArray.size) : SeqAt.EqAt A s its.toArray[j] its2.toArray[j] (eqD (ds.getD j .non) (es.getD j .non)) := by
  have h1' : j < its.length := by simpa using h1
  have h2' : j < its2.length := by simpa using h2
  have l1 := r.length
  have l2 := r2.length
  obtain ⟨u1, e1, q1⟩ := r.get (i := j) (x := xs[j]'(by omega)) (by simp)
  obtain ⟨u2, e2, q2⟩ := r2.get (i := j) (x := ys[j]'(by omega)) (by simp)
  obtain ⟨d1, g1, w1⟩ := hxs.get (i := j) (x := xs[j]'(by omega)) (by simp)
  obtain ⟨d2, g2, w2⟩ := hys.get (i := j) (x := ys[j]'(by omega)) (by simp)
  have ea : its.toArray[j] = u1 := by
    rw [List.getElem?_eq_getElem h1'] at e1; simpa using e1
  have eb : its2.toArray[j] = u2 := by
    rw [List.getElem?_eq_getElem h2'] at e2; simpa using e2
  have ga : ds.getD j .non = d1 := by rw [List.getD_eq_getElem?_getD, g1]; rfl
  have gb : es.getD j .non = d2 := by rw [List.getD_eq_getElem?_getD, g2]; rfl
  rw [ea, eb, ga, gb]
  exact ih (pls_mem pd (List.mem_of_getElem? g1)) (pls_mem pe (List.mem_of_getElem? g2)) (Nat.le_trans (deps_mem (List.mem_of_getElem? g1)) hdn) w1 w2 q1 q2
theorem eq_tups {ds es : List D} {xs ys : List V} {its its2 : List Value} (hxs : RDs X.K H ds xs) (hys : RDs X.K H es ys) (r : Vals xs its) (r2 : Vals ys its2) :
    ((List.range (min its.toArray.size its2.toArray.size)).all (fun j => eqD (ds.getD j .non) (es.getD j .non)) && its.toArray.size == its2.toArray.size) = eqDs ds es := by
  have lx := hxs.length; have ly := hys.length; have l1 := r.length; have l2 := r2.length
  simp only [List.size_toArray]
  by_cases hl : ds.length = es.length
  · rw [eqDs_all hl]
    have : its.length = its2.length := by omega
    rw [this, Nat.min_self, show its2.length = ds.length by omega]
    simp
  · rw [eqDs_len hl]
    have : (its.length == its2.length) = false := by simp; omega
    rw [this, Bool.and_false]
theorem eq_lsts {ds es : List D} {xs ys : List V} {its its2 : List Value} (hxs : RDs X.K H ds xs) (hys : RDs X.K H es ys) (r : Vals xs its) (r2 : Vals ys its2) (hl : ds.length = es.length) :
    ((List.range its.toArray.size).all fun j => eqD (ds.getD j .non) (es.getD j .non)) = eqDs ds es := by
  have lx := hxs.length; have ly := hys.length; have l1 := r.length; have l2 := r2.length
  rw [eqDs_all hl, List.size_toArray, show its.length = ds.length by omega]
theorem rc_G {A : Around} {n : Nat} (hu : A.units < cLine) (ih : EqIn X H s A.in1 n) {d e : D} {x y : V} {u v : Value} (hn : d.dep ≤ n + 1) (sx : Shp X H s d x u) (sy : Shp X H s e y v) : SeqAt.RcAt A s u v (eqD d e) ∧ SeqAt.RcNeAt A s u v (!eqD d e) := by
  cases sx with
  | non => cases sy with
    | non => exact ⟨.none_none, .none_none⟩
    | bl _ => exact ⟨.none_bool _, .none_bool _⟩
    | int _ _ => exact ⟨.none_int _ _, .none_int _ _⟩
    | str _ _ => exact ⟨.none_str _ _, .none_str _ _⟩
    | tup p2 h2 q2 r2 t2 => exact ⟨.none_tuple t2 hu, .none_tuple t2 hu⟩
    | lst p2 h2 q2 r2 t2 => exact ⟨.none_list t2 hu, .none_list t2 hu⟩
  | bl _ => cases sy with
    | non => exact ⟨.bool_none _, .bool_none _⟩
    | bl _ => exact ⟨.bool_bool _ _, .bool_bool _ _⟩
    | int _ _ => exact ⟨.bool_int _ _ _, .bool_int _ _ _⟩
    | str _ _ => exact ⟨.bool_str _ _ _, .bool_str _ _ _⟩
    | tup p2 h2 q2 r2 t2 => exact ⟨.bool_tuple _ t2 hu, .bool_tuple _ t2 hu⟩
    | lst p2 h2 q2 r2 t2 => exact ⟨.bool_list _ t2 hu, .bool_list _ t2 hu⟩
  | int _ _ => cases sy with
    | non => exact ⟨.int_none _ _, .int_none _ _⟩
    | bl _ => exact ⟨.int_bool _ _ _, .int_bool _ _ _⟩
    | int _ _ => exact ⟨.int_int _ _ _ _, .int_int _ _ _ _⟩
    | str _ _ => exact ⟨.int_str _ _ _ _, .int_str _ _ _ _⟩
    | tup p2 h2 q2 r2 t2 => exact ⟨.int_tuple _ _ t2 hu, .int_tuple _ _ t2 hu⟩
    | lst p2 h2 q2 r2 t2 => exact ⟨.int_list _ _ t2 hu, .int_list _ _ t2 hu⟩
  | str _ _ => cases sy with
    | non => exact ⟨.str_none _ _, .str_none _ _⟩
    | bl _ => exact ⟨.str_bool _ _ _, .str_bool _ _ _⟩
    | int _ _ => exact ⟨.str_int _ _ _ _, .str_int _ _ _ _⟩
    | str _ _ => exact ⟨.str_str _ _ _ _, .str_str _ _ _ _⟩
    | tup p2 h2 q2 r2 t2 => exact ⟨.str_tuple _ _ t2 hu, .str_tuple _ _ t2 hu⟩
    | lst p2 h2 q2 r2 t2 => exact ⟨.str_list _ _ t2 hu, .str_list _ _ t2 hu⟩
  | tup p h q r t => cases sy with
    | non => exact ⟨.tuple_none t hu, .tuple_none t hu⟩
    | bl _ => exact ⟨.tuple_bool _ t hu, .tuple_bool _ t hu⟩
    | int _ _ => exact ⟨.tuple_int _ _ t hu, .tuple_int _ _ t hu⟩
    | str _ _ => exact ⟨.tuple_str _ _ t hu, .tuple_str _ _ t hu⟩
    | tup p2 h2 q2 r2 t2 => 
      simp only [D.dep] at hn
      have z := inner_G ih p p2 (Nat.le_of_succ_le_succ hn) q q2 r r2
      simp only [eqD]
      rw [← eq_tups q q2 r r2]
      exact ⟨.tuples t t2 hu z, .tuples t t2 hu z⟩
    | lst p2 h2 q2 r2 t2 => exact ⟨.tuple_list t t2 hu, .tuple_list t t2 hu⟩
  | lst p h q r t => cases sy with
    | non => exact ⟨.list_none t hu, .list_none t hu⟩
    | bl _ => exact ⟨.list_bool _ t hu, .list_bool _ t hu⟩
    | int _ _ => exact ⟨.list_int _ _ t hu, .list_int _ _ t hu⟩
    | str _ _ => exact ⟨.list_str _ _ t hu, .list_str _ _ t hu⟩
    | tup p2 h2 q2 r2 t2 => exact ⟨.list_tuple t t2 hu, .list_tuple t t2 hu⟩
    | lst p2 h2 q2 r2 t2 => 
      rename_i ds _ xs its es _ ys its2
      simp only [D.dep] at hn
      have z := inner_G ih p p2 (Nat.le_of_succ_le_succ hn) q q2 r r2
      have lx := q.length; have ly := q2.length; have l1 := r.length; have l2 := r2.length
      simp only [eqD]
      by_cases hl : ds.length = es.length
      · have hsz : its.toArray.size = its2.toArray.size := by simp; omega
        rw [← eq_lsts q q2 r r2 hl]
        exact ⟨.lists t t2 hsz hu z, .lists t t2 hsz hu z⟩
      · have hsz : (its.toArray.size != its2.toArray.size) = true := by simp; omega
        rw [eqDs_len hl]
        exact ⟨.lists_lengths t t2 hsz hu, .lists_lengths t t2 hsz hu⟩
theorem eqAt_D (I : Inv X pins σ H s) : ∀ (n : Nat) {A : Around} {d e : D} {x y : V} {u v : Value}, d.pl = true → e.pl = true → d.dep ≤ n → A.units + n < cLine → RD X.K H d x → RD X.K H e y → RelV x u → RelV y v → SeqAt.EqAt A s u v (eqD d e) := by
  have key : ∀ (n : Nat) {A : Around} {d e : D} {x y : V} {u v : Value}, A.units < cLine → (∀ m, m + 1 = n → EqIn X H s A.in1 m) → d.pl = true → e.pl = true → d.dep ≤ n → RD X.K H d x → RD X.K H e y → RelV x u → RelV y v → SeqAt.EqAt A s u v (eqD d e) := by
    intro n A d e x y u v hu ih hpd hpe hn hx hy ru rv
    have sx := shp I hpd hx ru
    have sy := shp I hpe hy rv
    have back : ∀ {a b : Addr}, u = .ref a → v = .ref b → x = .ref a → y = .ref b → 1 ≤ d.dep → SeqAt.EqAt A s u v (eqD d e) := fun {a b} eu ev ex ey h1 => by
      subst eu ev ex ey
      by_cases hab : a = b
      · subst hab
        rw [RD.inj hpd hpe hx hy, eqD_refl _ hpe]
        exact .same _
      · exact .of_refs hab (rc_G (n := n - 1) hu (ih (n - 1) (by omega)) (by omega) sx sy).1
    cases sx with
    | non => cases sy with
      | non => exact .same _
      | bl _ => exact .none_bool _
      | int _ _ => exact .none_int _ _
      | str _ _ => exact .none_str _ _
      | tup p2 h2 q2 r2 t2 => exact .none_tuple t2 hu
      | lst p2 h2 q2 r2 t2 => exact .none_list t2 hu
    | bl _ => cases sy with
      | non => exact .bool_none _
      | bl _ => exact .bool_bool _ _
      | int _ _ => exact .bool_int _ _ _
      | str _ _ => exact .bool_str _ _ _
      | tup p2 h2 q2 r2 t2 => exact .bool_tuple _ t2 hu
      | lst p2 h2 q2 r2 t2 => exact .bool_list _ t2 hu
    | int _ _ => cases sy with
      | non => exact .int_none _ _
      | bl _ => exact .int_bool _ _ _
      | int _ _ => exact .int_int _ _ _ _
      | str _ _ => exact .int_str _ _ _ _
      | tup p2 h2 q2 r2 t2 => exact .int_tuple _ _ t2 hu
      | lst p2 h2 q2 r2 t2 => exact .int_list _ _ t2 hu
    | str _ _ => cases sy with
      | non => exact .str_none _ _
      | bl _ => exact .str_bool _ _ _
      | int _ _ => exact .str_int _ _ _ _
      | str _ _ => exact .str_str _ _ _ _
      | tup p2 h2 q2 r2 t2 => exact .str_tuple _ _ t2 hu
      | lst p2 h2 q2 r2 t2 => exact .str_list _ _ t2 hu
    | tup p h q r t => cases sy with
      | non => exact .tuple_none t hu
      | bl _ => exact .tuple_bool _ t hu
      | int _ _ => exact .tuple_int _ _ t hu
      | str _ _ => exact .tuple_str _ _ t hu
      | tup p2 h2 q2 r2 t2 => exact back rfl rfl rfl rfl (by simp only [D.dep]; exact Nat.succ_pos _)
      | lst p2 h2 q2 r2 t2 => exact .tuple_list t t2 hu
    | lst p h q r t => cases sy with
      | non => exact .list_none t hu
      | bl _ => exact .list_bool _ t hu
      | int _ _ => exact .list_int _ _ t hu
      | str _ _ => exact .list_str _ _ t hu
      | tup p2 h2 q2 r2 t2 => exact .list_tuple t t2 hu
      | lst p2 h2 q2 r2 t2 => exact back rfl rfl rfl rfl (by simp only [D.dep]; exact Nat.succ_pos _)
  intro n
  induction n with
  | zero => exact fun p q hn hu => key 0 (by omega) (fun m z => nomatch z) p q hn
  | succ n ih => exact fun {A d e x y u v} p q hn hu => key (n + 1) (by omega) (fun m z => by cases z; exact fun p q hn => ih p q hn (by show A.units + 1 + n < cLine; omega)) p q hn
theorem rcAt_D (I : Inv X pins σ H s) {n : Nat} {A : Around} {d e : D} {x y : V} {u v : Value} (hpd : d.pl = true) (hpe : e.pl = true) (hn : d.dep ≤ n) (hu : A.units + 1 + n < cLine) (hx : RD X.K H d x) (hy : RD X.K H e y) (ru : RelV x u) (rv : RelV y v) : SeqAt.RcAt A s u v (eqD d e) ∧ SeqAt.RcNeAt A s u v (!eqD d e) :=
  rc_G (n := n) (by omega) (fun p q h => eqAt_D I n p q h (by show A.units + 1 + n < cLine; omega)) (by omega) (shp I hpd hx ru) (shp I hpe hy rv)
end
section
variable {X : Cx}
open Classical in
noncomputable def hitD (K : PySem.W.Frag) (H : Hp) (d : D) (u : Value) : Bool := match absV u with
  | some v => decide (∃ e, e.pl = true ∧ RD K H e v ∧ eqD e d = true)
  | none => false
open Classical in
theorem hitD_of {K : PySem.W.Frag} {H : Hp} {d e : D} {y : V} {u : Value} (pe : e.pl = true) (r : RelV y u) (h : RD K H e y) : hitD K H d u = eqD e d := by
  unfold hitD
  rw [r.abs]
  dsimp only
  rw [Bool.eq_iff_iff]
  rw [decide_eq_true_iff]
  exact ⟨fun ⟨e', p', h', q⟩ => by rw [RD.inj pe p' h h']; exact q, fun q => ⟨e, pe, h, q⟩⟩
theorem hitD_any {K : PySem.W.Frag} {H : Hp} {d : D} : ∀ {es : List D} {xs : List V} {us : List Value}, pls es = true → RDs K H es xs → Vals xs us → us.any (hitD K H d) = es.any fun e => eqD e d
  | [], _, _, _, h, r => by
    simp only [RDs] at h; subst h; cases r; rfl
  | e :: es, _, _, p, h, r => by
    simp only [RDs] at h
    simp only [pls, Bool.and_eq_true] at p
    obtain ⟨x, xs, rfl, h1, h2⟩ := h
    cases r with
    | cons r1 r2 => rw [List.any_cons, List.any_cons, hitD_of p.1 r1 h1, hitD_any p.2 h2 r2]
theorem hitD_at {A : Around} {pins : List (Addr × Obj)} {σ : St} {H : Hp} {s : Shared} (I : Inv X pins σ H s) (hu : A.units + 1 + 20 < cLine) {d : D} {x : V} {v : Value} (pd : d.pl = true) (hx : RD X.K H d x) (rx : RelV x v) : ∀ {es : List D} {xs : List V} {us : List Value},
    pls es = true → RDs X.K H es xs → Vals xs us → deps es ≤ 20 → ∀ u ∈ us, SeqAt.EqAt A.in1 s u v (hitD X.K H d u)
  | [], _, _, _, h, r, _ => by
    simp only [RDs] at h; subst h; cases r
    intro u hu; cases hu
  | e :: es, _, _, p, h, r, hd => by
    simp only [RDs] at h
    simp only [pls, Bool.and_eq_true] at p
    obtain ⟨y, xs, rfl, h1, h2⟩ := h
    simp only [deps] at hd
    cases r with
    | cons r1 r2 =>
      intro u hm
      rcases List.mem_cons.mp hm with z | hm
      · subst z
        rw [hitD_of p.1 r1 h1]
        exact eqAt_D I 20 p.1 pd (by omega) (by show A.units + 1 + 20 < cLine; omega) h1 hx r1 rx
      · exact hitD_at I hu pd hx rx p.2 h2 r2 (by omega) u hm
end
end L2
set_option Elab.async false
set_option linter.all false
set_option maxRecDepth 100000
set_option maxHeartbeats 4000000
namespace L2
open PySem PySem.Spec PyProof.Rows
structure Ex where
  cls : String
  fs : List D
inductive R (α : Type) where
  | ok (a : α) | er (x : Ex) | st
def R.bind {α β : Type} (r : R α) (f : α → R β) : R β := match r with
  | .ok a => f a
  | .er x => .er x
  | .st => .st
def Rk {α : Type} (EX : Ex → Prop) (r : R α) (k : α → Prop) : Prop := match r with
  | .ok a => k a
  | .er x => EX x
  | .st => False
section
variable {α β : Type} {EX : Ex → Prop}
def R.of (o : Option α) : R α := match o with
  | some a => .ok a
  | none => .st
theorem R.of_some (a : α) : R.of (some a) = R.ok a := rfl
theorem Rk.of {o : Option α} {k : α → Prop} (h : Rk EX (R.of o) k) : ∃ a, o = some a ∧ k a := by
  cases o with
  | none => exact h.elim
  | some a => exact ⟨a, rfl, h⟩
theorem R.bind_ok (a : α) (f : α → R β) : (R.ok a).bind f = f a := rfl
theorem Rk.bind {r : R α} {f : α → R β} {k : β → Prop} : Rk EX (r.bind f) k = Rk EX r fun a => Rk EX (f a) k := by cases r <;> rfl
theorem Rk.mono {r : R α} {k k' : α → Prop} (h : Rk EX r k) (hk : ∀ a, k a → k' a) : Rk EX r k' := by
  cases r with
  | ok a => exact hk a h
  | er x => exact h
  | st => exact h
end
def Ext (H0 H H0' H' : Hp) : Prop := Same H0 H0' ∧ Same H0' H' ∧ ∀ a, H a ≠ none → H0 a = none → H0' a = none
theorem Ext.refl {H0 H : Hp} (h : Same H0 H) : Ext H0 H H0 H := ⟨Same.refl _, h, fun _ _ e => e⟩
theorem some_ne {α : Type} {o : Option α} {x : α} (h : o = some x) : o ≠ none := by rw [h]; exact fun z => nomatch z
theorem Same.ne {H H' : Hp} (h : Same H H') {a : Addr} (n : H a ≠ none) : H' a ≠ none := by
  cases e : H a with
  | none => exact absurd e n
  | some o => exact some_ne (h a o e)
theorem Ext.trans {H0 H H0' H' H0'' H'' : Hp} (s : Same H H') (a : Ext H0 H H0' H') (b : Ext H0' H' H0'' H'') : Ext H0 H H0'' H'' :=
  ⟨a.1.trans b.1, b.2.1, fun c h1 h2 => b.2.2 c (s.ne h1) (a.2.2 c h1 h2)⟩
theorem Ext.grow {H0 H H0' H' H'' : Hp} (a : Ext H0 H H0' H') (s : Same H' H'') : Ext H0 H H0' H'' := ⟨a.1, a.2.1.trans s, a.2.2⟩
theorem Ext.new {H0 H : Hp} {p : Addr} {o : HO} (h : Same H0 H) (hp : H p = none) : Ext H0 H (upd H0 p o) (upd H p o) := by
  have h0 : H0 p = none := by
    cases e : H0 p with
    | none => rfl
    | some u => rw [h p u e] at hp; cases hp
  refine ⟨Same.upd_new h0, fun b u e => ?_, fun a h1 h2 => ?_⟩
  · by_cases hb : b = p
    · subst hb; rw [upd_same] at e ⊢; exact e
    · rw [upd_ne hb] at e ⊢; exact h b u e
  · have ha : a ≠ p := fun z => h1 (by rw [z]; exact hp)
    rw [upd_ne ha]; exact h2
def OB (K : PySem.W.Frag) (H0 H : Hp) (a : Addr) : D → Prop
  | .lst ds => ∃ xs, H a = some (.lst xs) ∧ RDs K H0 ds xs
  | .dk ks ds => ∃ xs, H a = some (.dK (ks.zip xs)) ∧ ks.length = xs.length ∧ RDs K H0 ds xs
  | .dt ks ds => ∃ xs, H a = some (.dT (ks.zip xs)) ∧ ks.length = xs.length ∧ RDs K H0 ds xs
  | .dn ks ds => ∃ qs xs o, H a = some (.ext (dnP a qs xs o)) ∧ qs.map (·.1) = ks ∧ DN H0 a qs ∧ RDs K H0 ds xs
  | _ => False
section
variable {K : PySem.W.Frag} {H0 H H0' H' : Hp} {a : Addr} {d : D}
theorem OB.some (h : OB K H0 H a d) : ∃ o, H a = some o ∧ ¬ Imm o := by
  cases d <;> simp only [OB] at h
  · obtain ⟨xs, h, _⟩ := h; exact ⟨_, h, fun z => z⟩
  · obtain ⟨xs, h, _⟩ := h; exact ⟨_, h, fun z => z⟩
  · obtain ⟨xs, h, _⟩ := h; exact ⟨_, h, fun z => z⟩
  · obtain ⟨qs, xs, o, h, _⟩ := h; exact ⟨_, h, fun z => z _ _ _ _ rfl⟩
theorem OB.mono (h : OB K H0 H a d) (s0 : Same H0 H0') (s : Same H H') : OB K H0' H' a d := by
  cases d <;> simp only [OB] at h ⊢
  · obtain ⟨xs, h, r⟩ := h; exact ⟨_, s _ _ h, r.mono s0⟩
  · obtain ⟨xs, h, l, r⟩ := h; exact ⟨_, s _ _ h, l, r.mono s0⟩
  · obtain ⟨xs, h, l, r⟩ := h; exact ⟨_, s _ _ h, l, r.mono s0⟩
  · obtain ⟨qs, xs, o, h, k, n, r⟩ := h; exact ⟨qs, xs, o, s _ _ h, k, n.tk fun b ys q => s0 _ _ q, r.mono s0⟩
theorem OB.at (h : OB K H0 H a d) (e : H' a = H a) : OB K H0 H' a d := by
  cases d <;> simp only [OB] at h ⊢
  · obtain ⟨xs, h, r⟩ := h; exact ⟨_, e.trans h, r⟩
  · obtain ⟨xs, h, l, r⟩ := h; exact ⟨_, e.trans h, l, r⟩
  · obtain ⟨xs, h, l, r⟩ := h; exact ⟨_, e.trans h, l, r⟩
  · obtain ⟨qs, xs, o, h, k, n, r⟩ := h; exact ⟨qs, xs, o, e.trans h, k, n, r⟩
theorem OB.tk (h : OB K H0 H a d) (n : d.shal = true) (t : TK H0 H0') : OB K H0' H a d := by
  cases d <;> simp only [OB, D.shal] at h n ⊢
  · obtain ⟨xs, h, r⟩ := h; exact ⟨_, h, r.tk t n⟩
  · obtain ⟨xs, h, l, r⟩ := h; exact ⟨_, h, l, r.tk t n⟩
  · obtain ⟨xs, h, l, r⟩ := h; exact ⟨_, h, l, r.tk t n⟩
  · obtain ⟨qs, xs, o, h, k, m, r⟩ := h; exact ⟨qs, xs, o, h, k, m.tk fun b ys q => t _ _ trivial q, r.tk t n⟩
theorem OB.rd (h : OB K H0 H a d) (s0 : Same H0 H0') (e : H0' a = H a) : RD K H0' d (.ref a) := by
  cases d <;> simp only [OB, RD] at h ⊢
  · obtain ⟨xs, h, r⟩ := h; exact ⟨_, _, rfl, e.trans h, r.mono s0⟩
  · obtain ⟨xs, h, l, r⟩ := h; exact ⟨_, _, rfl, e.trans h, l, r.mono s0⟩
  · obtain ⟨xs, h, l, r⟩ := h; exact ⟨_, _, rfl, e.trans h, l, r.mono s0⟩
  · obtain ⟨qs, xs, o, h, k, n, r⟩ := h; exact ⟨_, qs, xs, o, rfl, e.trans h, k, n.tk fun b ys q => s0 _ _ q, r.mono s0⟩
end
def Out (K : PySem.W.Frag) (fr : Bool) (H0 H : Hp) (d : D) (v : V) (H' : Hp) : Prop :=
  Same H H' ∧ ∃ H0', Ext H0 H H0' H' ∧ (if fr = true then ∃ p, v = .ref p ∧ H p = none ∧ H0' p = none ∧ OB K H0' H' p d else RD K H0' d v)
section
variable {K : PySem.W.Frag} {fr : Bool} {H0 H H0' H' : Hp} {d : D} {v : V}
theorem Out.val (s : Same H H') (e : Ext H0 H H0' H') (r : RD K H0' d v) : Out K false H0 H d v H' := ⟨s, H0', e, by rw [if_neg Bool.false_ne_true]; exact r⟩
theorem Out.pure (s : Same H0 H) (r : RD K H0 d v) : Out K false H0 H d v H := .val (Same.refl _) (.refl s) r
theorem Out.fresh {p : Addr} (s : Same H H') (e : Ext H0 H H0' H') (hp : H p = none) (hp0 : H0' p = none) (o : OB K H0' H' p d) : Out K true H0 H d (.ref p) H' := ⟨s, H0', e, by rw [if_pos rfl]; exact ⟨p, rfl, hp, hp0, o⟩⟩
theorem Out.rd (o : Out K false H0 H d v H') : Same H H' ∧ ∃ H0', Ext H0 H H0' H' ∧ RD K H0' d v := by
  obtain ⟨s, H0', e, r⟩ := o
  rw [if_neg Bool.false_ne_true] at r
  exact ⟨s, H0', e, r⟩
theorem Out.weak (o : Out K fr H0 H d v H') : Out K false H0 H d v H' := by
  cases fr with
  | false => exact o
  | true =>
    obtain ⟨s, H0', e, r⟩ := o
    rw [if_pos rfl] at r
    obtain ⟨p, rfl, hp, hp0, ob⟩ := r
    obtain ⟨u, hu, _⟩ := ob.some
    have e2 : Ext H0 H (upd H0' p u) H' := by
      refine ⟨e.1.trans (Same.upd_new hp0), fun b w q => ?_, fun a h1 h2 => ?_⟩
      · by_cases hb : b = p
        · subst hb; rw [upd_same] at q; cases q; exact hu
        · rw [upd_ne hb] at q; exact e.2.1 b w q
      · rw [upd_ne (fun z => h1 (by rw [z]; exact hp))]; exact e.2.2 a h1 h2
    exact .val s e2 (ob.rd (Same.upd_new hp0) (by rw [upd_same, hu]))
theorem Out.after {H1 H1' : Hp} (s : Same H H1) (e : Ext H0 H H1' H1) (o : Out K fr H1' H1 d v H') : Out K fr H0 H d v H' := by
  obtain ⟨s', H0', e', r⟩ := o
  refine ⟨s.trans s', H0', e.trans s e', ?_⟩
  cases fr with
  | false => exact r
  | true =>
    rw [if_pos rfl] at r ⊢
    obtain ⟨p, rfl, hp, r⟩ := r
    refine ⟨p, rfl, ?_, r⟩
    cases q : H p with
    | none => rfl
    | some u => rw [s p u q] at hp; cases hp
end
abbrev DE := List (Option D)
def RE (K : PySem.W.Frag) (H : Hp) (ρ : DE) (σ : St) : Prop := ρ.length = σ.length ∧ ∀ (i : Nat) d, ρ[i]? = some (some d) → ∃ v, σ[i]? = some (some v) ∧ RD K H d v
theorem RE.mono {K : PySem.W.Frag} {H H' : Hp} {ρ : DE} {σ : St} (h : RE K H ρ σ) (s : Same H H') : RE K H' ρ σ := ⟨h.1, fun i d e => by
  obtain ⟨v, h1, h2⟩ := h.2 i d e
  exact ⟨v, h1, h2.mono s⟩⟩
structure XW where
  hb : Hp
  p : Ex → Hp → Prop
abbrev F0 : XW := ⟨fun _ => none, fun _ _ => False⟩
theorem F0.same (H : Hp) : Same F0.hb H := fun _ _ z => nomatch z
def XW.at (W : XW) (x : Ex) : Prop := ∀ H', Same W.hb H' → W.p x H'
def TEd (K : PySem.W.Frag) (EX : XW) (fr : Bool) (f : DE → R D) : TE := fun σ H Q => Same EX.hb H ∧ ∃ ρ H0, Same H0 H ∧ RE K H0 ρ σ ∧ Rk EX.at (f ρ) fun d => ∀ v H', Out K fr H0 H d v H' → Q v H'
def TAd (K : PySem.W.Frag) (EX : XW) (f : DE → R (List D)) : TA := fun σ H Q => Same EX.hb H ∧ ∃ ρ H0, Same H0 H ∧ RE K H0 ρ σ ∧ Rk EX.at (f ρ) fun ds => ∀ vs H' H0', Same H H' → Ext H0 H H0' H' → RDs K H0' ds vs → Q vs H'
def TTd (K : PySem.W.Frag) (EX : XW) (f : DE → R Bool) : TT := fun σ H Q => Same EX.hb H ∧ ∃ ρ H0, Same H0 H ∧ RE K H0 ρ σ ∧ Rk EX.at (f ρ) fun b => ∀ H', Same H H' → Q b H'
def eVar (i : Nat) : DE → R D := fun ρ => match ρ[i]? with | some (some d) => .ok d | _ => .st
def eC (d : D) : DE → R D := fun _ => .ok d
def eOp (o : D → D → Option D) (fa fb : DE → R D) : DE → R D := fun ρ => (fa ρ).bind fun x => (fb ρ).bind fun y => R.of (o x y)
def eUn (o : D → Option D) (fa : DE → R D) : DE → R D := fun ρ => (fa ρ).bind fun x => R.of (o x)
def eNil : DE → R (List D) := fun _ => .ok []
def eCons (f : DE → R D) (fs : DE → R (List D)) : DE → R (List D) := fun ρ => (f ρ).bind fun d => (fs ρ).bind fun ds => .ok (d :: ds)
def eCall (m : List D → R D) (fs : DE → R (List D)) : DE → R D := fun ρ => (fs ρ).bind m
def eCB (m : List D → Option D) (fs : DE → R (List D)) : DE → R D := fun ρ => (fs ρ).bind fun ds => R.of (m ds)
def eTup (fs : DE → R (List D)) : DE → R D := fun ρ => (fs ρ).bind fun ds => if ds.length ≤ 1000 then .ok (.tup ds) else .st
def eLst (fs : DE → R (List D)) : DE → R D := fun ρ => (fs ρ).bind fun ds => if ds.length ≤ 1000 then .ok (.lst ds) else .st
def eIf (t : DE → R Bool) (fa fb : DE → R D) : DE → R D := fun ρ => (t ρ).bind fun b => if b = true then fa ρ else fb ρ
def bAnd (t u : DE → R Bool) : DE → R Bool := fun ρ => (t ρ).bind fun b => if b = true then u ρ else .ok false
def bOr (t u : DE → R Bool) : DE → R Bool := fun ρ => (t ρ).bind fun b => if b = true then .ok true else u ρ
def bNot (t : DE → R Bool) : DE → R Bool := fun ρ => (t ρ).bind fun b => .ok (!b)
def asB : D → Option Bool
  | .bl b => some b
  | _ => none
def bVal (tr : D → Option Bool) (f : DE → R D) : DE → R Bool := fun ρ => (f ρ).bind fun d => R.of (tr d)
def eAnd (fa fb : DE → R D) : DE → R D := fun ρ => (fa ρ).bind fun x => (R.of (asB x)).bind fun b => if b = true then fb ρ else .ok (.bl false)
def eOr (fa fb : DE → R D) : DE → R D := fun ρ => (fa ρ).bind fun x => (R.of (asB x)).bind fun b => if b = true then .ok (.bl true) else fb ρ
def OpD (K : PySem.W.Frag) (fr : Bool) (o : D → D → Option D) (r : R2) : Prop := ∀ (H0 H : Hp) (x y : V) (d e z : D) (Q : VK), Same H0 H → RD K H0 d x → RD K H0 e y → o d e = some z → (∀ v H', Out K fr H0 H z v H' → Q v H') → r x y H Q
def UnD (K : PySem.W.Frag) (fr : Bool) (o : D → Option D) (r : V → Hp → VK → Prop) : Prop := ∀ (H0 H : Hp) (x : V) (d z : D) (Q : VK), Same H0 H → RD K H0 d x → o d = some z → (∀ v H', Out K fr H0 H z v H' → Q v H') → r x H Q
def CallD (K : PySem.W.Frag) (fr : Bool) (m : List D → Option D) (r : List V → Hp → VK → Prop) : Prop := ∀ (H0 H : Hp) (xs : List V) (ds : List D) (z : D) (Q : VK), Same H0 H → RDs K H0 ds xs → m ds = some z → (∀ v H', Out K fr H0 H z v H' → Q v H') → r xs H Q
def TruD (K : PySem.W.Frag) (tr : D → Option Bool) (r : V → Hp → (Bool → Hp → Prop) → Prop) : Prop := ∀ (H0 H : Hp) (x : V) (d : D) (b : Bool) (Q : Bool → Hp → Prop), Same H0 H → RD K H0 d x → tr d = some b → Q b H → r x H Q
section
variable {K : PySem.W.Frag} {EX : XW} {fr : Bool} {σ : St} {H : Hp} {Q : VK}
theorem TEd.go {f : DE → R D} {ρ : DE} {H0 : Hp} {k : D → Prop} (sx : Same EX.hb H) (s : Same H0 H) (e : RE K H0 ρ σ) (h : Rk EX.at (f ρ) k) (hk : ∀ d, k d → ∀ v H' H0', Same H H' → Ext H0 H H0' H' → RD K H0' d v → Q v H') : TEd K EX false f σ H Q :=
  ⟨sx, ρ, H0, s, e, h.mono fun d z v H' o => by
    obtain ⟨s', H0', e', r⟩ := o.rd
    exact hk d z v H' H0' s' e' r⟩
theorem TAd.go {f : DE → R (List D)} {ρ : DE} {H0 : Hp} {k : List D → Prop} {Q : List V → Hp → Prop} (sx : Same EX.hb H) (s : Same H0 H) (e : RE K H0 ρ σ) (h : Rk EX.at (f ρ) k) (hk : ∀ d, k d → ∀ v H' H0', Same H H' → Ext H0 H H0' H' → RDs K H0' d v → Q v H') : TAd K EX f σ H Q :=
  ⟨sx, ρ, H0, s, e, h.mono fun d z v H' H0' s' e' r => hk d z v H' H0' s' e' r⟩
theorem TTd.go {f : DE → R Bool} {ρ : DE} {H0 : Hp} {k : Bool → Prop} {Q : Bool → Hp → Prop} (sx : Same EX.hb H) (s : Same H0 H) (e : RE K H0 ρ σ) (h : Rk EX.at (f ρ) k) (hk : ∀ b, k b → ∀ H', Same H H' → Q b H') : TTd K EX f σ H Q :=
  ⟨sx, ρ, H0, s, e, h.mono fun b z H' s' => hk b z H' s'⟩
theorem TEd.weak {f : DE → R D} (h : TEd K EX false f σ H Q) : TEd K EX fr f σ H Q := by
  obtain ⟨sx, ρ, H0, s, e, h⟩ := h
  exact ⟨sx, ρ, H0, s, e, h.mono fun d z v H' o => z v H' o.weak⟩
theorem d_var {i : Nat} (h : TEd K EX false (eVar i) σ H Q) : ∃ v, σ[i]? = some (some v) ∧ Q v H := by
  obtain ⟨sx, ρ, H0, s, e, h⟩ := h
  unfold eVar at h
  split at h
  · rename_i d q
    obtain ⟨v, h1, h2⟩ := e.2 i d q
    exact ⟨v, h1, h v H (.pure s h2)⟩
  · exact h.elim
theorem d_const {d : D} {v : V} (hd : ∀ H0, RD K H0 d v) (h : TEd K EX false (eC d) σ H Q) : tC v σ H Q := by
  obtain ⟨sx, ρ, H0, s, e, h⟩ := h
  exact h v H (.pure s (hd _))
theorem d_op {o : D → D → Option D} {r : R2} {fa fb : DE → R D} (ho : OpD K fr o r) (h : TEd K EX fr (eOp o fa fb) σ H Q) : tOp r (TEd K EX false fa) (TEd K EX false fb) σ H Q := by
  obtain ⟨sx, ρ, H0, s, e, h⟩ := h
  unfold eOp at h
  rw [Rk.bind] at h
  refine TEd.go sx s e h fun d h v H1 H1' s1 e1 r1 => ?_
  rw [Rk.bind] at h
  refine TEd.go (sx.trans s1) e1.2.1 (e.mono e1.1) h fun d2 h v2 H2 H2' s2 e2 r2 => ?_
  obtain ⟨z, hz, h⟩ := h.of
  exact ho H2' H2 v v2 d d2 z Q e2.2.1 (r1.mono e2.1) r2 hz fun w H3 o => h w H3 (o.after (s1.trans s2) (e1.trans s1 e2))
theorem d_un {o : D → Option D} {r : V → Hp → VK → Prop} {fa : DE → R D} (ho : UnD K fr o r) (h : TEd K EX fr (eUn o fa) σ H Q) : tUn r (TEd K EX false fa) σ H Q := by
  obtain ⟨sx, ρ, H0, s, e, h⟩ := h
  unfold eUn at h
  rw [Rk.bind] at h
  refine TEd.go sx s e h fun d h v H1 H1' s1 e1 r1 => ?_
  obtain ⟨z, hz, h⟩ := h.of
  exact ho H1' H1 v d z Q e1.2.1 r1 hz fun w H3 o => h w H3 (o.after s1 e1)
theorem d_nil {Q : List V → Hp → Prop} (h : TAd K EX eNil σ H Q) : tNil σ H Q := by
  obtain ⟨sx, ρ, H0, s, e, h⟩ := h
  exact h [] H H0 (Same.refl _) (.refl s) .nil
theorem d_cons {Q : List V → Hp → Prop} {f : DE → R D} {fs : DE → R (List D)} (h : TAd K EX (eCons f fs) σ H Q) : tCons (TEd K EX false f) (TAd K EX fs) σ H Q := by
  obtain ⟨sx, ρ, H0, s, e, h⟩ := h
  unfold eCons at h
  rw [Rk.bind] at h
  refine TEd.go sx s e h fun d h v H1 H1' s1 e1 r1 => ?_
  rw [Rk.bind] at h
  refine TAd.go (sx.trans s1) e1.2.1 (e.mono e1.1) h fun ds h vs H2 H2' s2 e2 r2 => ?_
  exact h (v :: vs) H2 H2' (s1.trans s2) (e1.trans s1 e2) (.cons (r1.mono e2.1) r2)
theorem d_cb {m : List D → Option D} {r : List V → Hp → VK → Prop} {fs : DE → R (List D)} (hm : CallD K fr m r) (h : TEd K EX fr (eCB m fs) σ H Q) : tCB r (TAd K EX fs) σ H Q := by
  obtain ⟨sx, ρ, H0, s, e, h⟩ := h
  unfold eCB at h
  rw [Rk.bind] at h
  refine TAd.go sx s e h fun ds h vs H1 H1' s1 e1 r1 => ?_
  obtain ⟨z, hz, h⟩ := h.of
  exact hm H1' H1 vs ds z Q e1.2.1 r1 hz fun w H3 o => h w H3 (o.after s1 e1)
theorem le_line {n : Nat} (h : n ≤ 1000) : n ≤ sizeLine := Nat.le_trans h (by decide)
theorem d_tup {fs : DE → R (List D)} (h : TEd K EX false (eTup fs) σ H Q) : tTup (TAd K EX fs) σ H Q := by
  obtain ⟨sx, ρ, H0, s, e, h⟩ := h
  unfold eTup at h
  rw [Rk.bind] at h
  refine TAd.go sx s e h fun ds h vs H1 H1' s1 e1 r1 => ?_
  split at h
  · rename_i hl
    refine ⟨le_line (by rw [← r1.length]; exact hl), fun p hp => h _ _ (.val (s1.trans (Same.upd_new hp)) (e1.trans s1 (.new e1.2.1 hp)) ?_)⟩
    have h1p : H1' p = none := by
      cases q : H1' p with
      | none => rfl
      | some u => rw [e1.2.1 p u q] at hp; cases hp
    simp only [RD]
    exact ⟨p, vs, rfl, upd_same, r1.mono (Same.upd_new h1p)⟩
  · exact h.elim
theorem Same.none {H H' : Hp} (s : Same H H') {p : Addr} (h : H' p = none) : H p = none := by
  cases q : H p with
  | none => rfl
  | some u => rw [s p u q] at h; cases h
theorem Out.new {H0 H : Hp} {d : D} {p : Addr} {o : HO} (s : Same H0 H) (hp : H p = none) (hob : ∀ H', H' p = some o → OB K H0 H' p d) : Out K true H0 H d (.ref p) (upd H p o) :=
  .fresh (Same.upd_new hp) ((Ext.refl s).grow (Same.upd_new hp)) hp (s.none hp) (hob _ upd_same)
theorem d_lst {fs : DE → R (List D)} (h : TEd K EX true (eLst fs) σ H Q) : tLst (TAd K EX fs) σ H Q := by
  obtain ⟨sx, ρ, H0, s, e, h⟩ := h
  unfold eLst at h
  rw [Rk.bind] at h
  refine TAd.go sx s e h fun ds h vs H1 H1' s1 e1 r1 => ?_
  split at h
  · rename_i hl
    refine ⟨le_line (by rw [← r1.length]; exact hl), fun p hp => h _ _ (Out.after s1 e1 (.new e1.2.1 hp fun H' hH => ?_))⟩
    simp only [OB]
    exact ⟨vs, hH, r1⟩
  · exact h.elim
theorem d_band {t u : DE → R Bool} {Q : Bool → Hp → Prop} (h : TTd K EX (bAnd t u) σ H Q) : tAnd (TTd K EX t) (TTd K EX u) σ H Q := by
  obtain ⟨sx, ρ, H0, s, e, h⟩ := h
  unfold bAnd at h
  rw [Rk.bind] at h
  refine TTd.go sx s e h fun b h H1 s1 => ?_
  cases b with
  | true => exact TTd.go (sx.trans s1) (s.trans s1) e h fun b h H' s' => h H' (s1.trans s')
  | false => exact h H1 s1
theorem d_bor {t u : DE → R Bool} {Q : Bool → Hp → Prop} (h : TTd K EX (bOr t u) σ H Q) : tOr (TTd K EX t) (TTd K EX u) σ H Q := by
  obtain ⟨sx, ρ, H0, s, e, h⟩ := h
  unfold bOr at h
  rw [Rk.bind] at h
  refine TTd.go sx s e h fun b h H1 s1 => ?_
  cases b with
  | true => exact h H1 s1
  | false => exact TTd.go (sx.trans s1) (s.trans s1) e h fun b h H' s' => h H' (s1.trans s')
theorem d_bnot {t : DE → R Bool} {Q : Bool → Hp → Prop} (h : TTd K EX (bNot t) σ H Q) : tNot (TTd K EX t) σ H Q := by
  obtain ⟨sx, ρ, H0, s, e, h⟩ := h
  unfold bNot at h
  rw [Rk.bind] at h
  exact TTd.go sx s e h fun b h H1 s1 => h H1 s1
end
end L2
set_option Elab.async false
set_option linter.all false
set_option maxRecDepth 100000
set_option maxHeartbeats 4000000
namespace L2
open PySem PySem.Spec PyProof.Rows
def tTru (r : V → Hp → (Bool → Hp → Prop) → Prop) (t : TE) : TT := fun σ H Q => t σ H fun x H' => r x H' Q
def cLast (o : D → D → Option D) (fb : DE → R D) : D → DE → R D := fun d ρ => (fb ρ).bind fun y => R.of (o d y)
def cLink (o : D → D → Option D) (fb : DE → R D) (g : D → DE → R D) : D → DE → R D := fun d ρ => (fb ρ).bind fun y => (R.of (o d y)).bind fun z => (R.of (asB z)).bind fun b => if b = true then g y ρ else .ok (.bl false)
def cLastT (o : D → D → Option D) (fb : DE → R D) : D → DE → R Bool := fun d ρ => (fb ρ).bind fun y => (R.of (o d y)).bind fun z => R.of (asB z)
def cLinkT (o : D → D → Option D) (fb : DE → R D) (g : D → DE → R Bool) : D → DE → R Bool := fun d ρ => (fb ρ).bind fun y => (R.of (o d y)).bind fun z => (R.of (asB z)).bind fun b => if b = true then g y ρ else .ok false
def eChn (fa : DE → R D) (g : D → DE → R D) : DE → R D := fun ρ => (fa ρ).bind fun x => g x ρ
def bChn (fa : DE → R D) (g : D → DE → R Bool) : DE → R Bool := fun ρ => (fa ρ).bind fun x => g x ρ
theorem asB_some {d : D} {b : Bool} (h : asB d = some b) : d = .bl b := by
  cases d <;> simp [asB] at h
  subst h; rfl
theorem RD.bl {K : PySem.W.Frag} {H : Hp} {b : Bool} {v : V} (h : RD K H (.bl b) v) : v = .bl b := by simpa only [RD] using h
section
variable {K : PySem.W.Frag} {EX : XW} {fr : Bool} {σ : St} {H : Hp} {Q : VK} {QB : Bool → Hp → Prop}
theorem d_and {fa fb : DE → R D} (h : TEd K EX false (eAnd fa fb) σ H Q) : cAndV (TEd K EX false fa) (TEd K EX false fb) σ H Q := by
  obtain ⟨sx, ρ, H0, s, e, h⟩ := h
  unfold eAnd at h
  rw [Rk.bind] at h
  refine TEd.go sx s e h fun d h v H1 H1' s1 e1 r1 => ?_
  rw [Rk.bind] at h
  obtain ⟨b, hb, h⟩ := h.of
  cases asB_some hb
  cases r1.bl
  cases b with
  | true => exact TEd.go (sx.trans s1) e1.2.1 (e.mono e1.1) h fun d h v H2 H2' s2 e2 r2 => h v H2 (.val (s1.trans s2) (e1.trans s1 e2) r2)
  | false => exact h _ H1 (.val s1 e1 (by simp only [RD]))
theorem d_tru {tr : D → Option Bool} {r : V → Hp → (Bool → Hp → Prop) → Prop} {fa : DE → R D} (ht : TruD K tr r) (h : TTd K EX (bVal tr fa) σ H QB) : tTru r (TEd K EX false fa) σ H QB := by
  obtain ⟨sx, ρ, H0, s, e, h⟩ := h
  unfold bVal at h
  rw [Rk.bind] at h
  refine TEd.go sx s e h fun d h v H1 H1' s1 e1 r1 => ?_
  obtain ⟨b, hb, h⟩ := h.of
  exact ht H1' H1 v d b QB e1.2.1 r1 hb (h H1 s1)
theorem d_notV {tr : D → Option Bool} {r : V → Hp → (Bool → Hp → Prop) → Prop} {fa : DE → R D} (ht : TruD K tr r) (h : TEd K EX false (eUn (fun d => (tr d).map fun b => .bl (!b)) fa) σ H Q) :
    (fun σ H Q => (TEd K EX false fa) σ H fun x H1 => r x H1 fun k H2 => Q (.bl (!k)) H2) σ H Q := by
  obtain ⟨sx, ρ, H0, s, e, h⟩ := h
  unfold eUn at h
  rw [Rk.bind] at h
  refine TEd.go sx s e h fun d h v H1 H1' s1 e1 r1 => ?_
  obtain ⟨z, hz, h⟩ := h.of
  have hz : (tr d).map (fun b => D.bl (!b)) = some z := hz
  cases hb : tr d with
  | none => rw [hb] at hz; cases hz
  | some b =>
    rw [hb] at hz; cases hz
    exact ht H1' H1 v d b _ e1.2.1 r1 hb (h _ H1 (.val s1 e1 (by simp only [RD])))
theorem d_cmp {o : D → D → Option D} {r : R2} {fa fb : DE → R D} (ho : OpD K false o r) (h : TTd K EX (bVal asB (eOp o fa fb)) σ H QB) : cTest (tOp r (TEd K EX false fa) (TEd K EX false fb)) σ H QB := by
  obtain ⟨sx, ρ, H0, s, e, h⟩ := h
  unfold bVal at h
  rw [Rk.bind] at h
  unfold cTest
  refine d_op (EX := EX) ho ⟨sx, ρ, H0, s, e, h.mono fun d h v H' o => ?_⟩
  obtain ⟨b, hb, h⟩ := h.of
  obtain ⟨s', H0', e', r'⟩ := o.rd
  cases asB_some hb
  cases r'.bl
  exact h H' s'
end
inductive Sl where
  | em | im (d : D) | ow (d : D)
abbrev DS := List Sl
def Sl.see (b : Bool) : Sl → Option D
  | .em => none
  | .im d => some d
  | .ow d => if b = true then some d else none
def Sl.frz (b : Bool) : Sl → Sl
  | .ow d => if b = true then .im d else .ow d
  | s => s
def vis : List Bool → DS → DE
  | _, [] => []
  | [], s :: r => s.see false :: vis [] r
  | b :: m, s :: r => s.see b :: vis m r
def frz : List Bool → DS → DS
  | _, [] => []
  | [], s :: r => s :: r
  | b :: m, s :: r => s.frz b :: frz m r
theorem vis_get : ∀ (m : List Bool) (ρ : DS) (i : Nat), (vis m ρ)[i]? = (ρ[i]?).map (Sl.see (m.getD i false))
  | [], [], i => by simp [vis]
  | _ :: _, [], i => by simp [vis]
  | [], s :: r, 0 => by simp [vis]
  | b :: m, s :: r, 0 => by simp [vis]
  | [], s :: r, i + 1 => by simpa [vis] using vis_get [] r i
  | b :: m, s :: r, i + 1 => by simpa [vis] using vis_get m r i
theorem vis_length : ∀ (m : List Bool) (ρ : DS), (vis m ρ).length = ρ.length
  | [], [] => rfl
  | _ :: _, [] => rfl
  | [], s :: r => by simp [vis, vis_length [] r]
  | b :: m, s :: r => by simp [vis, vis_length m r]
theorem Sl.frz_false (s : Sl) : s.frz false = s := by cases s <;> simp [Sl.frz]
theorem frz_get : ∀ (m : List Bool) (ρ : DS) (i : Nat), (L2.frz m ρ)[i]? = (ρ[i]?).map (Sl.frz (m.getD i false))
  | [], [], i => by simp [frz]
  | _ :: _, [], i => by simp [frz]
  | [], s :: r, i => by
    simp only [frz, List.getD_nil]
    cases h : (s :: r)[i]? with
    | none => rfl
    | some x => simp [Sl.frz_false]
  | b :: m, s :: r, 0 => by simp [frz]
  | b :: m, s :: r, i + 1 => by simpa [frz] using frz_get m r i
theorem frz_length : ∀ (m : List Bool) (ρ : DS), (L2.frz m ρ).length = ρ.length
  | [], [] => rfl
  | _ :: _, [] => rfl
  | [], s :: r => rfl
  | b :: m, s :: r => by simp [frz, frz_length m r]
structure RS (K : PySem.W.Frag) (Hc Hb H0 : Hp) (ρ : DS) (σ : St) (H : Hp) : Prop where
  sb : Same Hb H
  ext : Ext Hc Hb H0 H
  len : ρ.length = σ.length
  im : ∀ (i : Nat) d, ρ[i]? = some (.im d) → ∃ v, σ[i]? = some (some v) ∧ RD K H0 d v
  ow : ∀ (i : Nat) d, ρ[i]? = some (.ow d) → ∃ a, σ[i]? = some (some (.ref a)) ∧ H0 a = none ∧ Hb a = none ∧ OB K H0 H a d
  ap : ∀ (i j : Nat) d e a, ρ[i]? = some (.ow d) → ρ[j]? = some (.ow e) → σ[i]? = some (some (.ref a)) → σ[j]? = some (some (.ref a)) → i = j
theorem RS.grow {K : PySem.W.Frag} {Hc Hb H0 H H' : Hp} {ρ : DS} {σ : St} (R : RS K Hc Hb H0 ρ σ H) (s : Same H H') : RS K Hc Hb H0 ρ σ H' :=
  ⟨R.sb.trans s, R.ext.grow s, R.len, R.im, fun i d e => by
    obtain ⟨a, h1, h2, h3, h4⟩ := R.ow i d e
    exact ⟨a, h1, h2, h3, h4.mono (Same.refl _) s⟩, R.ap⟩
def Msk (m : List Bool) (ρ : DS) (σ : St) (a : Addr) : Prop := ∃ i d, m.getD i false = true ∧ ρ[i]? = some (.ow d) ∧ σ[i]? = some (some (.ref a))
open Classical in
noncomputable def HeOf (m : List Bool) (ρ : DS) (σ : St) (H0 H : Hp) : Hp := fun a => if Msk m ρ σ a then H a else H0 a
open Classical in
noncomputable def HdOf (m : List Bool) (ρ : DS) (σ : St) (H0 : Hp) : Hp := fun a => if Msk m ρ σ a then none else H0 a
section
variable {K : PySem.W.Frag} {Hc Hb H0 H H' : Hp} {ρ : DS} {σ : St} {m : List Bool}
theorem RS.msk (R : RS K Hc Hb H0 ρ σ H) {a : Addr} (h : Msk m ρ σ a) : H0 a = none ∧ Hb a = none ∧ ∃ o, H a = some o ∧ ¬ Imm o := by
  obtain ⟨i, d, _, h1, h2⟩ := h
  obtain ⟨a', q1, q2, q3, q4⟩ := R.ow i d h1
  rw [h2] at q1; cases q1
  exact ⟨q2, q3, q4.some⟩
theorem HeOf_in {a : Addr} (h : Msk m ρ σ a) : HeOf m ρ σ H0 H a = H a := by unfold HeOf; exact if_pos h
theorem HeOf_out {a : Addr} (h : ¬ Msk m ρ σ a) : HeOf m ρ σ H0 H a = H0 a := by unfold HeOf; exact if_neg h
theorem HdOf_in {a : Addr} (h : Msk m ρ σ a) : HdOf m ρ σ H0 a = none := by unfold HdOf; exact if_pos h
theorem HdOf_out {a : Addr} (h : ¬ Msk m ρ σ a) : HdOf m ρ σ H0 a = H0 a := by unfold HdOf; exact if_neg h
theorem RS.he0 (R : RS K Hc Hb H0 ρ σ H) (m : List Bool) : Same H0 (HeOf m ρ σ H0 H) := fun b o e => by
  by_cases h : Msk m ρ σ b
  · rw [(R.msk h).1] at e; cases e
  · rw [HeOf_out h]; exact e
theorem RS.heH (R : RS K Hc Hb H0 ρ σ H) (m : List Bool) : Same (HeOf m ρ σ H0 H) H := fun b o e => by
  by_cases h : Msk m ρ σ b
  · rw [HeOf_in h] at e; exact e
  · rw [HeOf_out h] at e; exact R.ext.2.1 b o e
theorem RS.re (R : RS K Hc Hb H0 ρ σ H) (m : List Bool) : RE K (HeOf m ρ σ H0 H) (vis m ρ) σ := by
  refine ⟨by rw [vis_length]; exact R.len, fun i d e => ?_⟩
  rw [vis_get] at e
  cases q : ρ[i]? with
  | none => rw [q] at e; cases e
  | some s =>
    rw [q] at e
    simp only [Option.map_some, Option.some.injEq] at e
    cases s with
    | em => cases e
    | im d' =>
      cases e
      obtain ⟨v, h1, h2⟩ := R.im i d q
      exact ⟨v, h1, h2.mono (R.he0 m)⟩
    | ow d' =>
      simp only [Sl.see] at e
      split at e
      · rename_i hm
        cases e
        obtain ⟨a, h1, h2, h3, h4⟩ := R.ow i d q
        exact ⟨_, h1, h4.rd (R.he0 m) (HeOf_in ⟨i, d, hm, q, h1⟩)⟩
      · cases e
def thaw (keep : Bool) (m : List Bool) (ρ : DS) : DS := if keep = true then ρ else frz m ρ
def keeps (fr : Bool) (d : D) : Bool := if fr = true then d.shal else d.noL
def Apt (K : PySem.W.Frag) (fr : Bool) (Hb H0 : Hp) (ρ : DS) (σ : St) (H : Hp) (d : D) (v : V) : Prop :=
  if fr = true then ∃ p, v = .ref p ∧ H0 p = none ∧ Hb p = none ∧ OB K H0 H p d ∧ ∀ (i : Nat) e, ρ[i]? = some (.ow e) → σ[i]? ≠ some (some (.ref p)) else RD K H0 d v
theorem thaw_ow {keep : Bool} {i : Nat} {d : D} (h : (thaw keep m ρ)[i]? = some (.ow d)) : ρ[i]? = some (.ow d) ∧ (keep = false → m.getD i false = false) := by
  unfold thaw at h
  cases keep with
  | true => exact ⟨h, fun z => nomatch z⟩
  | false =>
    rw [if_neg Bool.false_ne_true, frz_get] at h
    cases q : ρ[i]? with
    | none => rw [q] at h; cases h
    | some s =>
      rw [q] at h
      simp only [Option.map_some, Option.some.injEq] at h
      cases s with
      | em => cases h
      | im d' => cases h
      | ow d' =>
        simp only [Sl.frz] at h
        split at h
        · cases h
        · rename_i hm
          cases h
          exact ⟨rfl, fun _ => by simpa using hm⟩
theorem RS.frame (R : RS K Hc Hb H0 ρ σ H) {H0' : Hp} (s : Same H H') (e : Ext (HeOf m ρ σ H0 H) H H0' H') (keep : Bool) :
    ∃ H0n, RS K Hc Hb H0n (thaw keep m ρ) σ H' ∧ TK H0' H0n ∧ (keep = false → H0n = H0') ∧ (∀ p, H0' p = none → H0n p = none) ∧ Same H0 H0n := by
  have hunm : ∀ (i : Nat) d' a, ρ[i]? = some (.ow d') → σ[i]? = some (some (.ref a)) → ¬ Msk m ρ σ a → H0' a = none := fun i d' a h1 h2 h3 => by
    obtain ⟨a', q1, q2, q3, q4⟩ := R.ow i d' h1
    rw [h2] at q1; cases q1
    obtain ⟨u, hu, _⟩ := q4.some
    exact e.2.2 a (some_ne hu) (by rw [HeOf_out h3]; exact q2)
  have nmsk : ∀ {i : Nat} {d' : D} {a : Addr}, ρ[i]? = some (.ow d') → σ[i]? = some (some (.ref a)) → m.getD i false = false → ¬ Msk m ρ σ a := fun {i d' a} h1 h2 h3 ⟨j, e', q1, q2, q3⟩ => by
    have := R.ap i j d' e' a h1 q2 h2 q3
    subst this
    rw [h3] at q1; cases q1
  cases keep with
  | true =>
    -- nothing owned is shared: the things of the mask stay unseen
    have hth : thaw true m ρ = ρ := rfl
    have s0 : Same H0 (HdOf m ρ σ H0') := fun b u q => by
      have hb : ¬ Msk m ρ σ b := fun z => by rw [(R.msk z).1] at q; cases q
      rw [HdOf_out hb]
      exact e.1 b u (R.he0 m b u q)
    have tk : TK H0' (HdOf m ρ σ H0') := fun b u hi q => by
      have hb : ¬ Msk m ρ σ b := fun z => by
        obtain ⟨_, _, w, hw, hn⟩ := R.msk z
        have := e.1 b w (by rw [HeOf_in z]; exact hw)
        rw [q] at this; cases this
        exact hn hi
      rw [HdOf_out hb]; exact q
    refine ⟨HdOf m ρ σ H0', ⟨R.sb.trans s, ⟨R.ext.1.trans s0, fun b u q => ?_, fun a h1 h2 => ?_⟩, R.len, fun i d' q => ?_, fun i d' q => ?_, R.ap⟩, tk, (fun z => nomatch z), fun p hp => ?_, s0⟩
    · by_cases hb : Msk m ρ σ b
      · rw [HdOf_in hb] at q; cases q
      · rw [HdOf_out hb] at q; exact e.2.1 b u q
    · by_cases hb : Msk m ρ σ a
      · exact HdOf_in hb
      · rw [HdOf_out hb]
        exact e.2.2 a (R.sb.ne h1) (by rw [HeOf_out hb]; exact R.ext.2.2 a h1 h2)
    · obtain ⟨w, h1, h2⟩ := R.im i d' q
      exact ⟨w, h1, h2.mono s0⟩
    · obtain ⟨a, h1, h2, h3, h4⟩ := R.ow i d' q
      refine ⟨a, h1, ?_, h3, h4.mono s0 s⟩
      by_cases hb : Msk m ρ σ a
      · exact HdOf_in hb
      · rw [HdOf_out hb]; exact hunm i d' a q h1 hb
    · by_cases hb : Msk m ρ σ p
      · exact HdOf_in hb
      · rw [HdOf_out hb]; exact hp
  | false =>
    refine ⟨H0', ⟨R.sb.trans s, ?_, ?_, fun i d' q => ?_, fun i d' q => ?_, fun i j d1 d2 a q1 q2 => ?_⟩, fun _ _ _ z => z, fun _ => rfl, fun _ z => z, (R.he0 m).trans e.1⟩
    · refine ⟨R.ext.1.trans ((R.he0 m).trans e.1), e.2.1, fun a h1 h2 => e.2.2 a (R.sb.ne h1) ?_⟩
      have hb : ¬ Msk m ρ σ a := fun z => h1 (R.msk z).2.1
      rw [HeOf_out hb]; exact R.ext.2.2 a h1 h2
    · show (L2.frz m ρ).length = _
      rw [frz_length]; exact R.len
    · have q' : (L2.frz m ρ)[i]? = some (.im d') := q
      rw [frz_get] at q'
      cases hs : ρ[i]? with
      | none => rw [hs] at q'; cases q'
      | some sl =>
        rw [hs] at q'
        simp only [Option.map_some, Option.some.injEq] at q'
        cases sl with
        | em => cases q'
        | im d2 =>
          cases q'
          obtain ⟨w, h1, h2⟩ := R.im i d' hs
          exact ⟨w, h1, h2.mono ((R.he0 m).trans e.1)⟩
        | ow d2 =>
          simp only [Sl.frz] at q'
          split at q'
          · rename_i hm
            cases q'
            obtain ⟨a, h1, h2, h3, h4⟩ := R.ow i d' hs
            obtain ⟨u, hu, _⟩ := h4.some
            refine ⟨_, h1, h4.rd ((R.he0 m).trans e.1) ?_⟩
            rw [hu]
            exact e.1 a u (by rw [HeOf_in ⟨i, d', hm, hs, h1⟩]; exact hu)
          · cases q'
    · obtain ⟨q1, q2⟩ := thaw_ow q
      obtain ⟨a, h1, h2, h3, h4⟩ := R.ow i d' q1
      exact ⟨a, h1, hunm i d' a q1 h1 (nmsk q1 h1 (q2 rfl)), h3, h4.mono ((R.he0 m).trans e.1) s⟩
    · exact R.ap i j d1 d2 a (thaw_ow q1).1 (thaw_ow q2).1
theorem RS.out (R : RS K Hc Hb H0 ρ σ H) {fr : Bool} {d : D} {v : V} (o : Out K fr (HeOf m ρ σ H0 H) H d v H') :
    ∃ H0n, RS K Hc Hb H0n (thaw (keeps fr d) m ρ) σ H' ∧ Apt K fr Hb H0n (thaw (keeps fr d) m ρ) σ H' d v := by
  obtain ⟨s, H0', e, r⟩ := o
  obtain ⟨H0n, R', tk, eq, hn, _⟩ := R.frame s e (keeps fr d)
  refine ⟨H0n, R', ?_⟩
  unfold Apt
  cases fr with
  | false =>
    rw [if_neg Bool.false_ne_true] at r ⊢
    cases hk : keeps false d with
    | true => exact r.tk tk (by simpa [keeps] using hk)
    | false => rw [eq hk]; exact r
  | true =>
    rw [if_pos rfl] at r ⊢
    obtain ⟨p, rfl, hp, hp0, ob⟩ := r
    refine ⟨p, rfl, hn p hp0, R.sb.none hp, ?_, fun i e' q z => ?_⟩
    · cases hk : keeps true d with
      | true => exact ob.tk (by simpa [keeps] using hk) tk
      | false => rw [eq hk]; exact ob
    · obtain ⟨a, h1, _, _, h4⟩ := R.ow i e' (thaw_ow q).1
      rw [z] at h1; cases h1
      obtain ⟨u, hu, _⟩ := h4.some
      rw [hp] at hu; cases hu
theorem RS.outs (R : RS K Hc Hb H0 ρ σ H) {ds : List D} {vs : List V} {H0' : Hp} (s : Same H H') (e : Ext (HeOf m ρ σ H0 H) H H0' H') (r : RDs K H0' ds vs) :
    ∃ H0n, RS K Hc Hb H0n (thaw (noLs ds) m ρ) σ H' ∧ RDs K H0n ds vs := by
  obtain ⟨H0n, R', tk, eq, hn, _⟩ := R.frame s e (noLs ds)
  refine ⟨H0n, R', ?_⟩
  cases hk : noLs ds with
  | true => exact r.tk tk hk
  | false => rw [eq hk]; exact r
def putS (fr : Bool) (i : Nat) (d : D) (ρ : DS) : DS := ρ.set i (if fr = true then .ow d else .im d)
theorem RS.put (R : RS K Hc Hb H0 ρ σ H) {fr : Bool} {d : D} {v : V} (a : Apt K fr Hb H0 ρ σ H d v) (i : Nat) : RS K Hc Hb H0 (putS fr i d ρ) (σ.set i (some v)) H := by
  unfold putS
  have other : ∀ {j : Nat} {s : Sl}, j ≠ i → (ρ.set i s)[j]? = ρ[j]? := fun {j s} h => by rw [List.getElem?_set_ne (Ne.symm h)]
  have otherσ : ∀ {j : Nat}, j ≠ i → (σ.set i (some v))[j]? = σ[j]? := fun {j} h => by rw [List.getElem?_set_ne (Ne.symm h)]
  have here : ∀ {s s' : Sl}, (ρ.set i s)[i]? = some s' → s' = s ∧ (σ.set i (some v))[i]? = some (some v) := fun {s s'} h => by
    have hi : i < ρ.length := by
      have := (List.getElem?_eq_some_iff.mp h).1
      simpa using this
    rw [List.getElem?_set_self hi] at h
    cases h
    exact ⟨rfl, by rw [List.getElem?_set_self (by rw [← R.len]; exact hi)]⟩
  refine ⟨R.sb, R.ext, by rw [List.length_set, List.length_set]; exact R.len, fun j d' q => ?_, fun j d' q => ?_, fun j k d1 d2 b q1 q2 z1 z2 => ?_⟩
  · by_cases hj : j = i
    · subst hj
      obtain ⟨h1, h2⟩ := here q
      refine ⟨v, h2, ?_⟩
      cases fr with
      | false =>
        rw [if_neg Bool.false_ne_true] at h1; cases h1
        unfold Apt at a
        rw [if_neg Bool.false_ne_true] at a; exact a
      | true => rw [if_pos rfl] at h1; cases h1
    · rw [other hj] at q
      rw [otherσ hj]; exact R.im j d' q
  · by_cases hj : j = i
    · subst hj
      obtain ⟨h1, h2⟩ := here q
      cases fr with
      | false => rw [if_neg Bool.false_ne_true] at h1; cases h1
      | true =>
        rw [if_pos rfl] at h1; cases h1
        unfold Apt at a
        rw [if_pos rfl] at a
        obtain ⟨p, rfl, a1, a2, a3, _⟩ := a
        exact ⟨p, h2, a1, a2, a3⟩
    · rw [other hj] at q
      rw [otherσ hj]; exact R.ow j d' q
  · by_cases hj : j = i
    · by_cases hk : k = i
      · rw [hj, hk]
      · subst hj
        obtain ⟨h1, h2⟩ := here q1
        rw [other hk] at q2
        rw [otherσ hk] at z2
        rw [h2] at z1
        cases fr with
        | false => rw [if_neg Bool.false_ne_true] at h1; cases h1
        | true =>
          unfold Apt at a
          rw [if_pos rfl] at a
          obtain ⟨p, rfl, _, _, _, a4⟩ := a
          cases z1
          exact absurd z2 (a4 k d2 q2)
    · by_cases hk : k = i
      · subst hk
        obtain ⟨h1, h2⟩ := here q2
        rw [other hj] at q1
        rw [otherσ hj] at z1
        rw [h2] at z2
        cases fr with
        | false => rw [if_neg Bool.false_ne_true] at h1; cases h1
        | true =>
          unfold Apt at a
          rw [if_pos rfl] at a
          obtain ⟨p, rfl, _, _, _, a4⟩ := a
          cases z2
          exact absurd z1 (a4 j d1 q1)
      · rw [other hj] at q1
        rw [other hk] at q2
        rw [otherσ hj] at z1
        rw [otherσ hk] at z2
        exact R.ap j k d1 d2 b q1 q2 z1 z2
end
end L2
set_option Elab.async false
set_option linter.all false
set_option maxRecDepth 100000
set_option maxHeartbeats 4000000
namespace L2
open PySem PySem.Spec PyProof.Rows
inductive SR where
  | nx (ρ : DS) | bk (ρ : DS) | ct (ρ : DS) | rt (d : D) | er (x : Ex) | st
def SK (K : PySem.W.Frag) (EX : XW) (fr : Bool) (Hc Hb : Hp) (De : Ends) : SR → Prop
  | .nx ρ => ∀ σ H H0, RS K Hc Hb H0 ρ σ H → De.nx σ H
  | .bk ρ => ∀ σ H H0, RS K Hc Hb H0 ρ σ H → De.bk σ H
  | .ct ρ => ∀ σ H H0, RS K Hc Hb H0 ρ σ H → De.ct σ H
  | .rt d => ∀ v H, Out K fr Hc Hb d v H → De.rt v H
  | .er x => EX.at x
  | .st => False
def TSd (K : PySem.W.Frag) (EX : XW) (fr : Bool) (g : DS → SR) : TS := fun De σ H => ∃ Hc Hb H0 ρ, Same EX.hb Hb ∧ RS K Hc Hb H0 ρ σ H ∧ SK K EX fr Hc Hb De (g ρ)
def R.toS {α : Type} (r : R α) (k : α → SR) : SR := match r with
  | .ok a => k a
  | .er x => .er x
  | .st => .st
def sNx : DS → SR := fun ρ => .nx ρ
def sSeq (g1 g2 : DS → SR) : DS → SR := fun ρ => match g1 ρ with
  | .nx ρ' => g2 ρ'
  | r => r
def see (ρ : DS) : DE := ρ.map (Sl.see true)
def sIf (t : DE → R Bool) (g1 g2 : DS → SR) : DS → SR := fun ρ => (t (see ρ)).toS fun b => if b = true then g1 ρ else g2 ρ
def sAsg (fr : Bool) (i : Nat) (m : List Bool) (f : DE → R D) : DS → SR := fun ρ => (f (vis m ρ)).toS fun d => .nx (putS fr i d (thaw (keeps fr d) m ρ))
def sRet (m : List Bool) (f : DE → R D) : DS → SR := fun ρ => (f (vis m ρ)).toS fun d => .rt d
def sRetN : DS → SR := fun _ => .rt .non
def sRetO (i : Nat) : DS → SR := fun ρ => match ρ[i]? with
  | some (.ow d) => .rt d
  | _ => .st
def sDrop (f : DE → R D) : DS → SR := fun ρ => (f (see ρ)).toS fun _ => .nx ρ
section
variable {K : PySem.W.Frag} {EX : XW} {fr : Bool} {Hc Hb H0 H H' : Hp} {ρ : DS} {σ : St} {De : Ends} {m : List Bool}
theorem SK.toS {α : Type} {r : R α} {k : α → SR} : SK K EX fr Hc Hb De (r.toS k) = Rk EX.at r fun a => SK K EX fr Hc Hb De (k a) := by cases r <;> rfl
theorem vis_all : ∀ (ρ : DS), vis (List.replicate ρ.length true) ρ = see ρ
  | [] => rfl
  | s :: r => by
    show s.see true :: vis (List.replicate r.length true) r = _
    rw [vis_all r]; rfl
theorem RS.extE (R : RS K Hc Hb H0 ρ σ H) (m : List Bool) : Ext Hc Hb (HeOf m ρ σ H0 H) H :=
  ⟨R.ext.1.trans (R.he0 m), R.heH m, fun a h1 h2 => by
    have hb : ¬ Msk m ρ σ a := fun z => h1 (R.msk z).2.1
    rw [HeOf_out hb]; exact R.ext.2.2 a h1 h2⟩
theorem RS.te (I : RS K Hc Hb H0 ρ σ H) (sb : Same EX.hb Hb) {f : DE → R D} {fr' : Bool} {k : D → Prop} {Q : VK} (h : Rk EX.at (f (vis m ρ)) k)
    (hk : ∀ d, k d → ∀ v H' H0n, RS K Hc Hb H0n (thaw (keeps fr' d) m ρ) σ H' → Apt K fr' Hb H0n (thaw (keeps fr' d) m ρ) σ H' d v → Q v H') : TEd K EX fr' f σ H Q :=
  ⟨sb.trans I.sb, vis m ρ, HeOf m ρ σ H0 H, I.heH m, I.re m, h.mono fun d z v H' o => by
    obtain ⟨H0n, R', a⟩ := I.out o
    exact hk d z v H' H0n R' a⟩
theorem RS.tt (I : RS K Hc Hb H0 ρ σ H) (sb : Same EX.hb Hb) {f : DE → R Bool} {k : Bool → Prop} {Q : Bool → Hp → Prop} (h : Rk EX.at (f (see ρ)) k) (hk : ∀ b, k b → ∀ H', RS K Hc Hb H0 ρ σ H' → Q b H') : TTd K EX f σ H Q := by
  refine ⟨sb.trans I.sb, see ρ, HeOf (List.replicate ρ.length true) ρ σ H0 H, I.heH _, ?_, h.mono fun b z H' s => hk b z H' (I.grow s)⟩
  rw [← vis_all]; exact I.re _
theorem d_nx (h : TSd K EX fr sNx De σ H) : tNext De σ H := by
  obtain ⟨Hc, Hb, H0, ρ, sb, R, h⟩ := h
  exact h σ H H0 R
theorem d_seq {g1 g2 : DS → SR} (h : TSd K EX fr (sSeq g1 g2) De σ H) : tSeq (TSd K EX fr g1) (TSd K EX fr g2) De σ H := by
  obtain ⟨Hc, Hb, H0, ρ, sb, R, h⟩ := h
  refine ⟨Hc, Hb, H0, ρ, sb, R, ?_⟩
  unfold sSeq at h
  cases q : g1 ρ with
  | nx ρ' => rw [q] at h; exact fun σ' H' H0' R' => ⟨Hc, Hb, H0', ρ', sb, R', h⟩
  | bk ρ' => rw [q] at h; exact h
  | ct ρ' => rw [q] at h; exact h
  | rt d => rw [q] at h; exact h
  | er x => rw [q] at h; exact h
  | st => rw [q] at h; exact h
theorem d_ifs {t : DE → R Bool} {g1 g2 : DS → SR} (h : TSd K EX fr (sIf t g1 g2) De σ H) : tIfS (TTd K EX t) (TSd K EX fr g1) (TSd K EX fr g2) De σ H := by
  obtain ⟨Hc, Hb, H0, ρ, sb, R, h⟩ := h
  unfold sIf at h
  rw [SK.toS] at h
  refine R.tt sb h fun b h H' R' => ?_
  cases b with
  | true => exact ⟨Hc, Hb, H0, ρ, sb, R', h⟩
  | false => exact ⟨Hc, Hb, H0, ρ, sb, R', h⟩
theorem d_asg {i : Nat} {f : DE → R D} {fr' : Bool} (h : TSd K EX fr (sAsg fr' i m f) De σ H) : tAsg (TEd K EX fr' f) (gName i) De σ H := by
  obtain ⟨Hc, Hb, H0, ρ, sb, R, h⟩ := h
  unfold sAsg at h
  rw [SK.toS] at h
  exact R.te sb h fun d h v H' H0n R' a => h _ H' H0n (R'.put a i)
theorem d_ret {f : DE → R D} (h : TSd K EX fr (sRet m f) De σ H) : tRet (TEd K EX fr f) De σ H := by
  obtain ⟨Hc, Hb, H0, ρ, sb, R, h⟩ := h
  unfold sRet at h
  rw [SK.toS] at h
  exact ⟨sb.trans R.sb, vis m ρ, HeOf m ρ σ H0 H, R.heH m, R.re m, h.mono fun d z v H' o => z v H' (o.after R.sb (R.extE m))⟩
theorem d_retO {i : Nat} (h : TSd K EX true (sRetO i) De σ H) : tRet (cVar i) De σ H := by
  obtain ⟨Hc, Hb, H0, ρ, sb, R, h⟩ := h
  unfold sRetO at h
  split at h
  · rename_i d q
    obtain ⟨a, h1, h2, h3, h4⟩ := R.ow i d q
    show cVar i σ H De.rt
    unfold cVar
    rw [h1]
    exact h _ H (.fresh R.sb R.ext h3 h2 h4)
  · exact h.elim
theorem RS.mutate (R : RS K Hc Hb H0 ρ σ H) {i : Nat} {d d' : D} {a : Addr} {o : HO} (h : ρ[i]? = some (.ow d)) (ha : σ[i]? = some (some (.ref a))) (ob : OB K H0 (upd H a o) a d') : RS K Hc Hb H0 (ρ.set i (.ow d')) σ (upd H a o) := by
  obtain ⟨a', q1, q2, q3, q4⟩ := R.ow i d h
  rw [ha] at q1; cases q1
  have hi : i < ρ.length := (List.getElem?_eq_some_iff.mp h).1
  have other : ∀ {j : Nat} {s : Sl}, j ≠ i → (ρ.set i s)[j]? = ρ[j]? := fun {j s} h => by rw [List.getElem?_set_ne (Ne.symm h)]
  have here : (ρ.set i (.ow d'))[i]? = some (.ow d') := by rw [List.getElem?_set_self hi]
  have sm : ∀ {H1 : Hp}, Same H1 H → H1 a = none → Same H1 (upd H a o) := fun s n => s.upd_at n
  refine ⟨sm R.sb q3, ⟨R.ext.1, sm R.ext.2.1 q2, R.ext.2.2⟩, by rw [List.length_set]; exact R.len, fun j d2 q => ?_, fun j d2 q => ?_, fun j k d1 d2 b z1 z2 => ?_⟩
  · have hj : j ≠ i := fun z => by subst z; rw [here] at q; cases q
    rw [other hj] at q
    exact R.im j d2 q
  · by_cases hj : j = i
    · subst hj
      rw [here] at q; cases q
      exact ⟨a, ha, q2, q3, ob⟩
    · rw [other hj] at q
      obtain ⟨b, h1, h2, h3, h4⟩ := R.ow j d2 q
      have hb : b ≠ a := fun z => hj (R.ap j i d2 d b q h h1 (by rw [z]; exact ha))
      exact ⟨b, h1, h2, h3, h4.at (upd_ne hb)⟩
  · have back : ∀ {j : Nat} {d1 : D}, (ρ.set i (.ow d'))[j]? = some (.ow d1) → ∃ d0, ρ[j]? = some (.ow d0) := fun {j d1} z => by
      by_cases hj : j = i
      · subst hj; exact ⟨d, h⟩
      · rw [other hj] at z; exact ⟨_, z⟩
    obtain ⟨e1, z1⟩ := back z1
    obtain ⟨e2, z2⟩ := back z2
    exact R.ap j k e1 e2 b z1 z2
def MutD (K : PySem.W.Frag) (mt : D → List D → Option D) (r : V → List V → Hp → VK → Prop) : Prop := ∀ (H0 H : Hp) (a : Addr) (d d' : D) (ds : List D) (vs : List V) (Q : VK), Same H0 H → H0 a = none → OB K H0 H a d → RDs K H0 ds vs → mt d ds = some d' →
  (∀ v o, OB K H0 (upd H a o) a d' → Q v (upd H a o)) → r (.ref a) vs H Q
def isT (T : String) : D → Bool
  | .lst _ => T == "list"
  | .dk _ _ => T == "dict"
  | .dt _ _ => T == "dict"
  | _ => false
def TyD (K : PySem.W.Frag) (T : String) : Prop := ∀ (H0 H : Hp) (a : Addr) (d : D), OB K H0 H a d → isT T d = true → tyV K T (.ref a) H
def sMut (T : String) (mt : D → List D → Option D) (i : Nat) (m : List Bool) (fs : DE → R (List D)) : DS → SR := fun ρ => match ρ[i]? with
  | some (.ow d0) => if isT T d0 = true then (fs (vis m ρ)).toS fun ds => match (thaw (noLs ds) m ρ)[i]? with
    | some (.ow d) => (R.of (mt d ds)).toS fun d' => .nx ((thaw (noLs ds) m ρ).set i (.ow d'))
    | _ => .st
    else .st
  | _ => .st
theorem d_mut {T : String} {mt : D → List D → Option D} {r : V → List V → Hp → VK → Prop} {i : Nat} {fs : DE → R (List D)} (hm : MutD K mt r) (hT : TyD K T) (h : TSd K EX fr (sMut T mt i m fs) De σ H) :
    tDrop (tBM K T r (cVar i) (TAd K EX fs)) De σ H := by
  obtain ⟨Hc, Hb, H0, ρ, sb, R, h⟩ := h
  unfold sMut at h
  split at h
  · rename_i d0 q0
    split at h
    · rename_i hty
      rw [SK.toS] at h
      obtain ⟨a, h1, h2, h3, h4⟩ := R.ow i d0 q0
      unfold tDrop tBM cVar
      rw [h1]
      refine ⟨hT H0 H a d0 h4 hty, sb.trans R.sb, vis m ρ, HeOf m ρ σ H0 H, R.heH m, R.re m, h.mono fun ds h vs H' H0' s e rds => ?_⟩
      obtain ⟨H0n, R', rd'⟩ := R.outs s e rds
      split at h
      · rename_i d q
        rw [SK.toS] at h
        obtain ⟨d', hd', h⟩ := h.of
        obtain ⟨a', z1, z2, z3, z4⟩ := R'.ow i d q
        rw [h1] at z1; cases z1
        exact hm H0n H' a d d' ds vs _ R'.ext.2.1 z2 z4 rd' hd' fun v o ob => h σ _ H0n (R'.mutate q h1 ob)
      · exact h.elim
    · exact h.elim
  · exact h.elim
def sMut0 (T : String) (mt : D → List D → Option D) (i : Nat) : DS → SR := fun ρ => match ρ[i]? with
  | some (.ow d) => if isT T d = true then (R.of (mt d [])).toS fun d' => .nx (ρ.set i (.ow d')) else .st
  | _ => .st
def SetD (K : PySem.W.Frag) (st : D → D → D → Option D) (r : TSet) : Prop := ∀ (H0 H : Hp) (a : Addr) (d d' dk dv : D) (y v : V) (Q : Hp → Prop), Same H0 H → H0 a = none → OB K H0 H a d → RD K H0 dk y → RD K H0 dv v → st d dk dv = some d' →
  (∀ o, OB K H0 (upd H a o) a d' → Q (upd H a o)) → r (.ref a) y v H Q
def sSet (st : D → D → D → Option D) (i : Nat) (m : List Bool) (fk fv : DE → R D) : DS → SR := fun ρ => (fv (vis m ρ)).toS fun dv => match (thaw (keeps false dv) m ρ)[i]? with
  | some (.ow _) => (fk (vis m (thaw (keeps false dv) m ρ))).toS fun dk => (match (thaw (keeps false dk) m (thaw (keeps false dv) m ρ))[i]? with
    | some (.ow d) => (R.of (st d dk dv)).toS fun d' => .nx ((thaw (keeps false dk) m (thaw (keeps false dv) m ρ)).set i (.ow d'))
    | _ => .st)
  | _ => .st
theorem Apt.rd {ρ : DS} {d : D} {v : V} (a : Apt K false Hb H0 ρ σ H d v) : RD K H0 d v := by
  unfold Apt at a
  rw [if_neg Bool.false_ne_true] at a; exact a
end
end L2
set_option Elab.async false
set_option linter.all false
set_option maxRecDepth 100000
set_option maxHeartbeats 4000000
namespace L2
open PySem PySem.Spec PyProof.Rows
section
variable {K : PySem.W.Frag} {EX : XW} {fr : Bool} {Hc Hb H0 H H' : Hp} {ρ : DS} {σ : St} {De : Ends} {m : List Bool}
theorem d_set {st : D → D → D → Option D} {r : TSet} {i : Nat} {fk fv : DE → R D} (hs : SetD K st r) (h : TSd K EX fr (sSet st i m fk fv) De σ H) :
    tAsg (TEd K EX false fv) (gSub (cVar i) (TEd K EX false fk) r) De σ H := by
  obtain ⟨Hc, Hb, H0, ρ, sb, I, h⟩ := h
  unfold sSet at h
  rw [SK.toS] at h
  refine I.te sb h fun dv h v H1 H1n I1 a1 => ?_
  split at h
  · rename_i d0 q0
    rw [SK.toS] at h
    obtain ⟨a, h1, h2, h3, h4⟩ := I1.ow i d0 q0
    unfold gSub cVar
    rw [h1]
    refine ⟨sb.trans I1.sb, vis m _, HeOf m _ σ H1n H1, I1.heH m, I1.re m, h.mono fun dk h y H2 o2 => ?_⟩
    obtain ⟨s2, H2', e2, r2⟩ := o2.rd
    obtain ⟨H2n, I2, tk, eq, hn, sub⟩ := I1.frame s2 e2 (keeps false dk)
    have r2' : RD K H2n dk y := by
      cases hk : keeps false dk with
      | true => exact r2.tk tk (by simpa [keeps] using hk)
      | false => rw [eq hk]; exact r2
    split at h
    · rename_i d q
      rw [SK.toS] at h
      obtain ⟨d', hd', h⟩ := h.of
      obtain ⟨a', z1, z2, z3, z4⟩ := I2.ow i d q
      rw [h1] at z1; cases z1
      exact hs H2n H2 a d d' dk dv y v _ I2.ext.2.1 z2 z4 r2' (a1.rd.mono sub) hd' fun o ob => h σ _ H2n (I2.mutate q h1 ob)
    · exact h.elim
  · exact h.elim
inductive Tg where
  | n (i : Nat) | t (is : List Nat)
def putAll : List Nat → List D → DS → DS
  | i :: is, d :: ds, ρ => putAll is ds (putS false i d ρ)
  | _, _, ρ => ρ
def items : D → Option (List D)
  | .tup ds => some ds
  | .lst ds => some ds
  | _ => none
def putT : Tg → D → DS → Option DS
  | .n i, d, ρ => some (putS false i d ρ)
  | .t is, d, ρ => (items d).bind fun ds => if ds.length = is.length then some (putAll is ds ρ) else none
def TGd (K : PySem.W.Frag) (tg : Tg) : TG := fun v σ H Q => ∃ Hc Hb H0 ρ d ρ', RS K Hc Hb H0 ρ σ H ∧ RD K H0 d v ∧ putT tg d ρ = some ρ' ∧ ∀ σ', RS K Hc Hb H0 ρ' σ' H → Q σ' H
theorem RS.putI (I : RS K Hc Hb H0 ρ σ H) {d : D} {v : V} (r : RD K H0 d v) (i : Nat) : RS K Hc Hb H0 (putS false i d ρ) (σ.set i (some v)) H :=
  I.put (fr := false) (by unfold Apt; rw [if_neg Bool.false_ne_true]; exact r) i
theorem d_tn {i : Nat} {v : V} {Q : St → Hp → Prop} (h : TGd K (.n i) v σ H Q) : gName i v σ H Q := by
  obtain ⟨Hc, Hb, H0, ρ, d, ρ', I, r, e, q⟩ := h
  simp only [putT, Option.some.injEq] at e
  subst e
  exact q _ (I.putI r i)
def gNames : List Nat → TGs
  | [] => gNilC
  | i :: is => gConsC (gName i) (gNames is)
theorem gNames_ok : ∀ (is : List Nat) {ds : List D} {xs : List V} {ρ : DS} {σ : St} {Q : St → Hp → Prop}, RS K Hc Hb H0 ρ σ H → RDs K H0 ds xs → ds.length = is.length → (∀ σ', RS K Hc Hb H0 (putAll is ds ρ) σ' H → Q σ' H) → gNames is xs σ H Q
  | [], [], _, ρ, σ, Q, I, r, _, q => by
    simp only [RDs] at r; subst r
    exact q σ I
  | [], _ :: _, _, _, _, _, _, _, hl, _ => by simp at hl
  | _ :: _, [], _, _, _, _, _, _, hl, _ => by simp at hl
  | i :: is, d :: ds, _, ρ, σ, Q, I, r, hl, q => by
    simp only [RDs] at r
    obtain ⟨x, xs, rfl, r1, r2⟩ := r
    exact gNames_ok is (I.putI r1 i) r2 (by simpa using hl) q
theorem d_tt {is : List Nat} {v : V} {Q : St → Hp → Prop} (h : TGd K (.t is) v σ H Q) : gSeqC is.length (gNames is) v σ H Q := by
  obtain ⟨Hc, Hb, H0, ρ, d, ρ', I, r, e, q⟩ := h
  simp only [putT] at e
  cases d <;> simp only [items, Option.bind_none, Option.bind_some] at e <;> first | cases e | skip
  · rename_i ds
    split at e
    · rename_i hl
      cases e
      simp only [RD] at r
      obtain ⟨a, xs, rfl, ha, rs⟩ := r
      unfold gSeqC
      simp only [I.ext.2.1 a _ ha]
      exact ⟨by rw [← rs.length]; exact hl, gNames_ok is I rs hl q⟩
    · cases e
  · rename_i ds
    split at e
    · rename_i hl
      cases e
      simp only [RD] at r
      obtain ⟨a, xs, rfl, ha, rs⟩ := r
      unfold gSeqC
      simp only [I.ext.2.1 a _ ha]
      exact ⟨by rw [← rs.length]; exact hl, gNames_ok is I rs hl q⟩
    · cases e
def sUnp (tg : Tg) (m : List Bool) (f : DE → R D) : DS → SR := fun ρ => (f (vis m ρ)).toS fun d => match putT tg d (thaw (keeps false d) m ρ) with
  | some ρ' => .nx ρ'
  | none => .st
theorem d_unp {tg : Tg} {f : DE → R D} (h : TSd K EX fr (sUnp tg m f) De σ H) : tAsg (TEd K EX false f) (TGd K tg) De σ H := by
  obtain ⟨Hc, Hb, H0, ρ, sb, I, h⟩ := h
  unfold sUnp at h
  rw [SK.toS] at h
  refine I.te sb h fun d h v H' H0n I' a => ?_
  split at h
  · rename_i ρ' q
    exact ⟨Hc, Hb, H0n, _, d, ρ', I', a.rd, q, fun σ' I2 => h σ' H' H0n I2⟩
  · exact h.elim
def Hno : Hp := fun _ => none
def ItOk (K : PySem.W.Frag) (J : It) (H0 : Hp) (ds : List D) : Prop :=
  (∀ (i : Nat) d, ds[i]? = some d → ∀ H H1, Same H0 H1 → Same H1 H → J.go i H ∧ ∀ x H', J.yld i H x H' → Same H H' ∧ ∃ H1', Ext H1 H H1' H' ∧ RD K H1' d x) ∧ ∀ H, Same H0 H → J.stop ds.length H
def TId (K : PySem.W.Frag) (EX : XW) (kp : Bool) (f : DE → R (List D)) : TI := fun σ H Q => Same EX.hb H ∧ ∃ ρ H0, Same H0 H ∧ RE K H0 ρ σ ∧ Rk EX.at (f ρ) fun ds => ∀ J H' H0', Same H H' → Ext H0 H H0' H' → ItOk K J (if kp = true then Hno else H0') ds → Q J H'
def forL (tg : Tg) (g : DS → SR) : List D → DS → SR
  | [], ρ => .nx ρ
  | d :: ds, ρ => match putT tg d ρ with
    | none => .st
    | some ρ1 => match g ρ1 with
      | .nx ρ2 => forL tg g ds ρ2
      | .ct ρ2 => forL tg g ds ρ2
      | .bk ρ2 => .nx ρ2
      | .rt d => .rt d
      | .er x => .er x
      | .st => .st
def sFor (kp : Bool) (m : List Bool) (f : DE → R (List D)) (tg : Tg) (g : DS → SR) : DS → SR := fun ρ => (f (vis m ρ)).toS fun ds => forL tg g ds (thaw kp m ρ)
theorem Ext.base {Hc' : Hp} (a : Ext Hc Hb Hc' H) (b : Ext Hc' Hb H0 H') : Ext Hc Hb H0 H' := ⟨a.1.trans b.1, b.2.1, fun c h1 h2 => b.2.2 c h1 (a.2.2 c h1 h2)⟩
theorem RS.base {Hc' H1 : Hp} (a : Ext Hc Hb Hc' H1) (I : RS K Hc' Hb H0 ρ σ H) : RS K Hc Hb H0 ρ σ H := ⟨I.sb, a.base I.ext, I.len, I.im, I.ow, I.ap⟩
theorem RS.self (I : RS K Hc Hb H0 ρ σ H) : RS K H0 Hb H0 ρ σ H := ⟨I.sb, ⟨Same.refl _, I.ext.2.1, fun _ _ z => z⟩, I.len, I.im, I.ow, I.ap⟩
theorem Out.base {Hc' : Hp} {d : D} {v : V} (a : Ext Hc Hb Hc' H) (o : Out K fr Hc' Hb d v H') : Out K fr Hc Hb d v H' := by
  obtain ⟨s, H0', e, r⟩ := o
  exact ⟨s, H0', a.base e, r⟩
theorem RS.sees {H1' : Hp} (I : RS K Hc Hb H0 ρ σ H) (s : Same H H') (e : Ext H0 H H1' H') : RS K Hc Hb H1' ρ σ H' :=
  ⟨I.sb.trans s, ⟨I.ext.1.trans e.1, e.2.1, fun a h1 h2 => e.2.2 a (I.sb.ne h1) (I.ext.2.2 a h1 h2)⟩, I.len, fun i d q => by
    obtain ⟨v, h1, h2⟩ := I.im i d q
    exact ⟨v, h1, h2.mono e.1⟩, fun i d q => by
    obtain ⟨a, h1, h2, h3, h4⟩ := I.ow i d q
    obtain ⟨u, hu, _⟩ := h4.some
    exact ⟨a, h1, e.2.2 a (some_ne hu) h2, h3, h4.mono e.1 s⟩, I.ap⟩
theorem d_go {J : It} {Hn H1 : Hp} {ρ : DS} {ds : List D} {tg : Tg} {g : DS → SR} (sb : Same EX.hb Hb) (I1 : RS K Hc Hb Hn ρ σ H1) (it' : ItOk K J Hn ds) (h : SK K EX fr Hc Hb De (forL tg g ds ρ)) : ForW J (TGd K tg) (TSd K EX fr g) De σ H1 := by
  have ex1 : Ext Hc Hb Hn H1 := I1.ext
  refine ⟨fun i mm σ H => mm = ds.length - i ∧ i ≤ ds.length ∧ ∃ ρ H0, RS K Hn Hb H0 ρ σ H ∧ SK K EX fr Hc Hb De (forL tg g (ds.drop i) ρ), ⟨ds.length, by simp, Nat.zero_le _, _, Hn, I1.self, h⟩, ?_⟩
  rintro i mm σ H ⟨rfl, hi, ρ, H0, I2, h⟩
  have sn : Same Hn H0 := I2.ext.1
  by_cases hlt : i < ds.length
  · have hd : ds[i]? = some ds[i] := by simp [hlt]
    obtain ⟨hgo, hy⟩ := it'.1 i _ hd H H0 sn I2.ext.2.1
    have hdr : ds.drop i = ds[i] :: ds.drop (i + 1) := List.drop_eq_getElem_cons hlt
    rw [hdr] at h
    refine .inr ⟨hgo, fun σ' H' => ∃ ρ' H0', RS K Hn Hb H0' ρ' σ' H' ∧ SK K EX fr Hc Hb De (forL tg g (ds.drop (i + 1)) ρ'), fun σ' H' ⟨ρ', H0', q⟩ => ⟨ds.length - (i + 1), by omega, rfl, hlt, ρ', H0', q⟩, fun x H' y => ?_⟩
    obtain ⟨s3, H3, e3, r3⟩ := hy x H' y
    have I3 := I2.sees s3 e3
    unfold forL at h
    split at h
    · exact h.elim
    · rename_i ρ1 q1
      refine ⟨Hn, Hb, H3, ρ, ds[i], ρ1, I3, r3, q1, fun σ' I4 => ⟨Hn, Hb, H3, ρ1, sb, I4, ?_⟩⟩
      cases qg : g ρ1 with
      | nx ρ2 => rw [qg] at h; exact fun σ5 H5 H05 I5 => ⟨ρ2, H05, I5, h⟩
      | ct ρ2 => rw [qg] at h; exact fun σ5 H5 H05 I5 => ⟨ρ2, H05, I5, h⟩
      | bk ρ2 => rw [qg] at h; exact fun σ5 H5 H05 I5 => h σ5 H5 H05 (I5.base ex1)
      | rt d => rw [qg] at h; exact fun v H5 o => h v H5 (o.base ex1)
      | er x => rw [qg] at h; exact h
      | st => rw [qg] at h; exact h
  · have e : i = ds.length := by omega
    subst e
    rw [List.drop_length] at h
    refine .inl ⟨it'.2 H (sn.trans I2.ext.2.1), ?_⟩
    exact h σ H H0 (I2.base ex1)
theorem d_for {kp : Bool} {f : DE → R (List D)} {tg : Tg} {g : DS → SR} (h : TSd K EX fr (sFor kp m f tg g) De σ H) : tForC (TId K EX kp f) (TGd K tg) (TSd K EX fr g) De σ H := by
  obtain ⟨Hc, Hb, H0, ρ, sb, I, h⟩ := h
  unfold sFor at h
  rw [SK.toS] at h
  refine ⟨sb.trans I.sb, vis m ρ, HeOf m ρ σ H0 H, I.heH m, I.re m, h.mono fun ds h J H1 H1' s1 e1 it => ?_⟩
  obtain ⟨Hn, I1, tk, eq, hn, sub⟩ := I.frame s1 e1 kp
  have it' : ItOk K J Hn ds := by
    cases kp with
    | true =>
      rw [if_pos rfl] at it
      exact ⟨fun i d q H H1 a b => it.1 i d q H H1 (fun _ _ z => nomatch z) b, fun H a => it.2 H fun _ _ z => nomatch z⟩
    | false => rw [if_neg Bool.false_ne_true, ← eq rfl] at it; exact it
  exact d_go sb I1 it' h
def whileL (t : DE → R Bool) (g : DS → SR) : Nat → DS → SR
  | 0, _ => .st
  | n + 1, ρ => (t (see ρ)).toS fun b => if b = true then (match g ρ with
      | .nx ρ2 => whileL t g n ρ2
      | .ct ρ2 => whileL t g n ρ2
      | .bk ρ2 => .nx ρ2
      | .rt d => .rt d
      | .er x => .er x
      | .st => .st) else .nx ρ
def sWhile (n : Nat) (t : DE → R Bool) (g : DS → SR) : DS → SR := whileL t g n
theorem d_while {n : Nat} {t : DE → R Bool} {g : DS → SR} (h : TSd K EX fr (sWhile n t g) De σ H) : tWhile (TTd K EX t) (TSd K EX fr g) De σ H := by
  obtain ⟨Hc, Hb, H0, ρ, sb, I, h⟩ := h
  refine ⟨fun mm σ H => ∃ ρ H0, RS K Hc Hb H0 ρ σ H ∧ SK K EX fr Hc Hb De (whileL t g mm ρ), ⟨n, ρ, H0, I, h⟩, ?_⟩
  rintro mm σ H ⟨ρ, H0, I, h⟩
  cases mm with
  | zero => exact h.elim
  | succ mm =>
    unfold whileL at h
    rw [SK.toS] at h
    refine I.tt sb h fun b h H' I' => ?_
    cases b with
    | false => exact h σ H' H0 I'
    | true =>
      rw [if_pos rfl] at h ⊢
      refine ⟨fun σ' H' => ∃ ρ' H0', RS K Hc Hb H0' ρ' σ' H' ∧ SK K EX fr Hc Hb De (whileL t g mm ρ'), fun σ' H' q => ⟨mm, Nat.lt_succ_self _, q⟩, Hc, Hb, H0, ρ, sb, I', ?_⟩
      cases qg : g ρ with
      | nx ρ2 => rw [qg] at h; exact fun σ5 H5 H05 I5 => ⟨ρ2, H05, I5, h⟩
      | ct ρ2 => rw [qg] at h; exact fun σ5 H5 H05 I5 => ⟨ρ2, H05, I5, h⟩
      | bk ρ2 => rw [qg] at h; exact fun σ5 H5 H05 I5 => h σ5 H5 H05 I5
      | rt d => rw [qg] at h; exact fun v H5 o => h v H5 o
      | er x => rw [qg] at h; exact h
      | st => rw [qg] at h; exact h
def R.noE {α : Type} (r : R α) : R α := match r with
  | .er _ => .st
  | r => r
theorem Rk.noE {α : Type} {EX EX' : Ex → Prop} {r : R α} {k : α → Prop} (h : Rk EX r.noE k) : Rk EX' r k := by
  cases r with
  | ok a => exact h
  | er x => exact h.elim
  | st => exact h
def BD (K : PySem.W.Frag) (bn : D → Option (List D)) (B : V → Hp → (List V → Hp → Prop) → Prop) : Prop := ∀ (H0 H : Hp) (x : V) (d : D) (ds : List D) (Q : List V → Hp → Prop), Same H0 H → RD K H0 d x → bn d = some ds → (∀ vs, RDs K H0 ds vs → Q vs H) → B x H Q
def b1 : D → Option (List D) := fun d => some [d]
def bT (n : Nat) : D → Option (List D)
  | .tup ds => if ds.length = n then some ds else none
  | _ => none
theorem bd_1 : BD K b1 cB1 := fun H0 H x d ds Q s r e q => by
  simp only [b1, Option.some.injEq] at e
  subst e
  exact q [x] (.one r)
theorem bd_T {n : Nat} : BD K (bT n) (cBT n) := fun H0 H x d ds Q s r e q => by
  cases d <;> simp only [bT] at e <;> first | cases e | skip
  rename_i es
  split at e
  · rename_i hl
    cases e
    simp only [RD] at r
    obtain ⟨a, xs, rfl, ha, rs⟩ := r
    unfold cBT
    simp only [s a _ ha]
    exact ⟨by rw [← rs.length]; exact hl, q xs rs⟩
  · cases e
def sel (ix : List Nat) (ρ : DE) : DE := ix.map fun j => (ρ[j]?).getD none
def compL (bn : D → Option (List D)) (t : DE → R Bool) (f : DE → R D) (cs : DE) : List D → R (List D)
  | [] => .ok []
  | d :: ds => (R.of (bn d)).bind fun bs => (t (bs.map some ++ cs)).noE.bind fun b => if b = true then (f (bs.map some ++ cs)).noE.bind fun y => (compL bn t f cs ds).bind fun ys => .ok (y :: ys) else compL bn t f cs ds
def eComp (fi : DE → R (List D)) (bn : D → Option (List D)) (ix : List Nat) (t : DE → R Bool) (f : DE → R D) : DE → R D := fun ρ => (fi ρ).bind fun ds => if ds.length ≤ 100000 then (compL bn t f (sel ix ρ) ds).bind fun ys => .ok (.lst ys) else .st
theorem RE.sel {ρ : DE} {vs : List V} {ds : List D} (h : RE K H0 ρ σ) (r : RDs K H0 ds vs) (ix : List Nat) : RE K H0 (ds.map some ++ sel ix ρ) (vs.map some ++ selV ix σ) := by
  have hl := r.length
  refine ⟨by simp [L2.sel, selV, hl], fun i d e => ?_⟩
  by_cases hi : i < ds.length
  · rw [List.getElem?_append_left (by simpa using hi), List.getElem?_map] at e
    rw [List.getElem?_append_left (by simpa [← hl] using hi), List.getElem?_map]
    cases q : ds[i]? with
    | none => rw [q] at e; cases e
    | some d' =>
      rw [q] at e; cases e
      obtain ⟨x, h1, h2⟩ := r.get' q
      exact ⟨x, by rw [h1]; rfl, h2⟩
  · rw [List.getElem?_append_right (by simpa using hi)] at e
    rw [List.getElem?_append_right (by simpa [← hl] using hi)]
    simp only [List.length_map] at e ⊢
    rw [← hl]
    unfold L2.sel at e
    unfold selV
    rw [List.getElem?_map] at e ⊢
    cases q : ix[i - ds.length]? with
    | none => rw [q] at e; cases e
    | some j =>
      rw [q] at e
      simp only [Option.map_some, Option.some.injEq] at e ⊢
      cases qj : ρ[j]? with
      | none => rw [qj] at e; cases e
      | some o =>
        rw [qj] at e
        simp only [Option.getD_some] at e
        subst e
        obtain ⟨v, h1, h2⟩ := h.2 j d qj
        exact ⟨v, by rw [h1]; rfl, h2⟩
theorem line_100k {n : Nat} (h : n < 100000) : n < sizeLine := Nat.lt_of_lt_of_le h (by decide)
theorem d_compW {W : XW} {kp : Bool} {fi : DE → R (List D)} {bn : D → Option (List D)} {B : V → Hp → (List V → Hp → Prop) → Prop} {ix : List Nat} {t : DE → R Bool} {f : DE → R D} {Q : VK} {tt : TT} (hW : Same W.hb EX.hb) (hB : BD K bn B) (htt : ∀ σ H Q, TTd K F0 t σ H Q → tt σ H Q)
    (h : TEd K EX true (eComp fi bn ix t f) σ H Q) : tComp (TId K EX kp fi) B ix tt (TEd K W false f) σ H Q := by
  obtain ⟨sx, ρ, H0, s, e, h⟩ := h
  unfold eComp at h
  rw [Rk.bind] at h
  refine ⟨sx, ρ, H0, s, e, h.mono fun ds h J H1 H1' s1 e1 it D hD => ?_⟩
  split at h
  · rename_i hsz
    rw [Rk.bind] at h
    have it' : ItOk K J H1' ds := by
      cases kp with
      | true => rw [if_pos rfl] at it; exact ⟨fun i d q H H1 a b => it.1 i d q H H1 (fun _ _ z => nomatch z) b, fun H a => it.2 H fun _ _ z => nomatch z⟩
      | false => rw [if_neg Bool.false_ne_true] at it; exact it
    have e' := e.mono e1.1
    have hDn : H1' D = none := e1.2.1.none hD
    refine ⟨fun i mm ys H2 => mm = ds.length - i ∧ i ≤ ds.length ∧ ys.length ≤ i ∧ ∃ acc H2', Same H1 H2 ∧ H2 D = some (.lst ys) ∧ Ext H1' H1 H2' H2 ∧ H2' D = none ∧ RDs K H2' acc ys ∧
      Rk EX.at (compL bn t f (L2.sel ix ρ) (ds.drop i)) fun rest => ∀ v H', Out K true H0 H (.lst (acc ++ rest)) v H' → Q v H', ⟨ds.length, by simp, Nat.zero_le _, Nat.le_refl _, [], H1', Same.upd_new hD, upd_same, (Ext.refl e1.2.1).grow (Same.upd_new hD), hDn, .nil, h⟩, ?_⟩
    rintro i mm ys H2 ⟨rfl, hi, hys, acc, H2', s2, hd2, e2, hdn2, r2, h⟩
    refine ⟨hd2, ?_⟩
    by_cases hlt : i < ds.length
    · have hd : ds[i]? = some ds[i] := by simp [hlt]
      obtain ⟨hgo, hy⟩ := it'.1 i _ hd H2 H2' e2.1 e2.2.1
      have hdr : ds.drop i = ds[i] :: ds.drop (i + 1) := List.drop_eq_getElem_cons hlt
      rw [hdr] at h
      unfold compL at h
      rw [Rk.bind] at h
      obtain ⟨bs, hbs, h⟩ := h.of
      rw [Rk.bind] at h
      refine .inr ⟨hgo, fun x H3 y => ?_⟩
      obtain ⟨s3, H3', e3, r3⟩ := hy x H3 y
      refine hB H3' H3 x _ bs _ e3.2.1 r3 hbs fun vs rvs => ?_
      have en := (e'.mono (e2.1.trans e3.1)).sel rvs ix
      have e23 := e2.trans s2 e3
      refine htt _ _ _ ⟨F0.same _, _, H3', e3.2.1, en, (Rk.noE h).mono fun b h H4 s4 => ?_⟩
      have s14 := s2.trans (s3.trans s4)
      have hd4 : H4 D = some (.lst ys) := s4 _ _ (s3 _ _ hd2)
      have hdn3 : H3' D = none := e3.2.2 D (some_ne hd2) hdn2
      have e14 : Ext H1' H1 H3' H4 := e23.grow s4
      cases b with
      | false =>
        rw [if_neg Bool.false_ne_true] at h
        dsimp only
        rw [if_neg Bool.false_ne_true]
        exact ⟨ds.length - (i + 1), by omega, rfl, hlt, by omega, acc, H3', s14, hd4, e14, hdn3, r2.mono e3.1, h⟩
      | true =>
        rw [if_pos rfl] at h
        dsimp only
        rw [if_pos rfl]
        rw [Rk.bind] at h
        refine ⟨hW.trans (sx.trans (s1.trans s14)), _, H3', e14.2.1, en, (Rk.noE h).mono fun y h w H5 o5 => ?_⟩
        obtain ⟨s5, H5', e5, r5⟩ := o5.rd
        have hd5 : H5 D = some (.lst ys) := s5 _ _ hd4
        have hdn5 : H5' D = none := e5.2.2 D (some_ne hd4) hdn3
        have e15 := e14.trans s14 e5
        rw [Rk.bind] at h
        refine ⟨hd5, line_100k (by omega), ds.length - (i + 1), by omega, rfl, hlt, by rw [List.length_append]; show ys.length + 1 ≤ i + 1; omega, acc ++ [y], H5', (s14.trans s5).upd_at hD, upd_same, ⟨e15.1, e15.2.1.upd_at hdn5, e15.2.2⟩, hdn5, ((r2.mono (e3.1.trans e5.1))).append (.one r5), ?_⟩
        exact h.mono fun rest h v H' o => h v H' (by simpa using o)
    · have ei : i = ds.length := by omega
      subst ei
      rw [List.drop_length] at h
      refine .inl ⟨it'.2 H2 (e2.1.trans e2.2.1), h _ H2 ?_⟩
      rw [List.append_nil]
      refine Out.after s1 e1 (.fresh s2 e2 hD hdn2 ?_)
      simp only [OB]
      exact ⟨ys, hd2, r2⟩
  · exact h.elim
theorem d_comp {kp : Bool} {fi : DE → R (List D)} {bn : D → Option (List D)} {B : V → Hp → (List V → Hp → Prop) → Prop} {ix : List Nat} {t : DE → R Bool} {f : DE → R D} {Q : VK} {tt : TT} (hB : BD K bn B) (htt : ∀ σ H Q, TTd K F0 t σ H Q → tt σ H Q)
    (h : TEd K EX true (eComp fi bn ix t f) σ H Q) : tComp (TId K EX kp fi) B ix tt (TEd K F0 false f) σ H Q := d_compW (F0.same _) hB htt h
def mOf (fr : Bool) (n k : Nat) (g : DS → SR) : List D → R D := fun ds => if ds.length = n then (match g (ds.map .im ++ List.replicate k .em) with
  | .rt d => .ok d
  | .nx _ => if fr = true then .st else .ok .non
  | .er x => .er x
  | _ => .st) else .st
def XFs (K : PySem.W.Frag) (x : Ex) (od : Option Addr) (H : Hp) : Prop := x.fs = [] ∨ ∃ (dx : Addr) (ns : List Int) (ob : Obj), od = some dx ∧ H dx = some (.frz ob (.xd ((nmOf x.cls).zip (ns.map V.int)))) ∧ x.fs = ns.map D.int
def xNm (K : PySem.W.Frag) (mg : Str → Option Value) (E : XK) (x : Ex) (H : Hp) : Prop := ∃ C, mg (x.cls : Str) = some (.ref C) ∧ ∀ od, XFs K x od H → E (.ref C) od H
def spD (K : PySem.W.Frag) (mg : Str → Option Value) (fr : Bool) (m : List D → R D) (n : Nat) : Sp := fun vs H Q E => ∃ ds H0, Same H0 H ∧ RDs K H0 ds vs ∧ ds.length = n ∧ Rk (XW.at ⟨H, xNm K mg E⟩) (m ds) fun d => ∀ v H', Out K fr H0 H d v H' → Q v H'
def cCallX (sp : Sp) (E : XK) (t : TA) : TE := fun σ H Q => t σ H fun vs H1 => sp vs H1 Q E
theorem d_call {mg : Str → Option Value} {E : XK} {m : List D → R D} {n : Nat} {fs : DE → R (List D)} {Q : VK} (hl : ∀ ds, ds.length ≠ n → m ds = .st) (hE : ∀ x H, EX.p x H → xNm K mg E x H) (h : TEd K EX fr (eCall m fs) σ H Q) : cCallX (spD K mg fr m n) E (TAd K EX fs) σ H Q := by
  obtain ⟨sx, ρ, H0, s, e, h⟩ := h
  unfold eCall at h
  rw [Rk.bind] at h
  refine TAd.go sx s e h fun ds h vs H1 H1' s1 e1 r1 => ?_
  refine ⟨ds, H1', e1.2.1, r1, ?_, ?_⟩
  · apply Classical.byContradiction
    intro hn
    rw [hl ds hn] at h
    exact h
  · cases q : m ds with
    | ok d => rw [q] at h; exact fun v H' o => h v H' (o.after s1 e1)
    | er x => rw [q] at h; exact fun H' s' => hE x H' (h H' ((sx.trans s1).trans s'))
    | st => rw [q] at h; exact h
theorem mOf_len {n k : Nat} {g : DS → SR} (ds : List D) (h : ds.length ≠ n) : mOf fr n k g ds = .st := by unfold mOf; rw [if_neg h]
theorem start_rs {vs : List V} {ds : List D} (s : Same H0 H) (r : RDs K H0 ds vs) (k : Nat) : RS K H0 H H0 (ds.map .im ++ List.replicate k .em) (vs.map some ++ List.replicate k none) H := by
  have hl := r.length
  have noow : ∀ (i : Nat) d, (ds.map Sl.im ++ List.replicate k Sl.em)[i]? ≠ some (.ow d) := fun i d q => by
    rcases List.mem_append.mp (List.mem_of_getElem? q) with z | z
    · obtain ⟨_, _, z⟩ := List.mem_map.mp z; cases z
    · have := (List.mem_replicate.mp z).2; cases this
  refine ⟨Same.refl _, .refl s, by simp [hl], fun i d q => ?_, fun i d q => absurd q (noow i d), fun i j d e a q => absurd q (noow i d)⟩
  by_cases hi : i < ds.length
  · rw [List.getElem?_append_left (by simpa using hi), List.getElem?_map] at q
    rw [List.getElem?_append_left (by simpa [← hl] using hi), List.getElem?_map]
    cases qd : ds[i]? with
    | none => rw [qd] at q; cases q
    | some d' =>
      rw [qd] at q
      simp only [Option.map_some, Option.some.injEq, Sl.im.injEq] at q
      subst q
      obtain ⟨x, h1, h2⟩ := r.get' qd
      exact ⟨x, by rw [h1]; rfl, h2⟩
  · rw [List.getElem?_append_right (by simpa using hi)] at q
    have := (List.mem_replicate.mp (List.mem_of_getElem? q)).2
    cases this
theorem d_body {n k : Nat} {g : DS → SR} {vs : List V} {Q : VK} {E : XK} {mg : Str → Option Value} (h : spD K mg fr (mOf fr n k g) n vs H Q E) :
    TSd K ⟨H, xNm K mg E⟩ fr g { nx := fun _ H' => Q .non H', rt := Q } (vs.map some ++ List.replicate k none) H := by
  obtain ⟨ds, H0, s, r, hn, h⟩ := h
  refine ⟨H0, H, H0, _, Same.refl _, start_rs s r k, ?_⟩
  unfold mOf at h
  rw [if_pos hn] at h
  cases q : g (ds.map .im ++ List.replicate k .em) with
  | nx ρ =>
    rw [q] at h
    cases fr with
    | true => exact h.elim
    | false => exact fun σ H' H0' I => h _ H' (.val I.sb I.ext (by simp only [RD]))
  | rt d => rw [q] at h; exact h
  | er x => rw [q] at h; exact h
  | bk ρ => rw [q] at h; exact h.elim
  | ct ρ => rw [q] at h; exact h.elim
  | st => rw [q] at h; exact h.elim
end
end L2
set_option Elab.async false
set_option linter.all false
set_option maxRecDepth 100000
set_option maxHeartbeats 4000000
namespace L2
open PySem PySem.Spec PyProof.Rows
structure Flt {α : Type} (t : Sem α) : Prop where
  go : ∀ {M : Model} {Γ : PySem.Ctx} {Q Q' : α → Pos → Shared → Prop} {E E' : Value → Pos → Shared → Prop} {p : Pos} {s : Shared},
  t.wp M Γ Q E p s → t.wp M Γ Q' E' p s → t.wp M Γ (fun a p s => Q a p s ∧ Q' a p s) (fun a p s => E a p s ∧ E' a p s) p s
theorem Flt.bind {α β : Type} {t : Sem α} {f : α → Sem β} (h : Flt t) (k : ∀ a, Flt (f a)) : Flt (t >>= f) := by
  refine ⟨fun x y => ?_⟩
  rw [Sem.wp_bind'] at x y ⊢
  exact Sem.wp_mono _ _ _ (fun a _ _ z => (k a).go z.1 z.2) (fun _ _ _ z => z) _ _ (h.go x y)
theorem Flt.pure {α : Type} (a : α) : Flt (Pure.pure a : Sem α) := ⟨fun x y => ⟨x, y⟩⟩
theorem Flt.uns {α : Type} (w : String) : Flt (unsupported w : Sem α) := ⟨fun x _ => x.elim⟩
theorem Flt.stack : Flt PySem.stack := ⟨fun x y => ⟨x, y⟩⟩
theorem Flt.alloc (o : Obj) : Flt (PySem.alloc o) := ⟨fun x y => ⟨x, y⟩⟩
theorem Flt.update (a : Addr) (f : Obj → Obj) : Flt (PySem.update a f) := ⟨fun x y => ⟨x.1, x.2, y.2⟩⟩
theorem Flt.load (a : Addr) : Flt (PySem.load a) := ⟨fun ⟨o, e, x⟩ ⟨o', e', y⟩ => by rw [e] at e'; cases e'; exact ⟨o, e, x, y⟩⟩
theorem Flt.cells (v : Value) : Flt (fieldsOf v) := by
  cases v <;> first | exact .uns _ | exact .bind (.load _) fun o => by split <;> first | exact .pure _ | exact .uns _
theorem Flt.field (v : Value) (i : Nat) : Flt (PySem.field v i) := .bind (.cells v) fun vs => by split <;> first | exact .pure _ | exact .uns _
theorem Flt.put (v : Value) (i : Nat) (x : Value) : Flt (setField v i x) := by
  cases v <;> first | exact .uns _ | exact .bind (.load _) fun o => by split <;> first | exact .uns _ | (split <;> first | exact .update _ _ | exact .uns _)
theorem Flt.flight (e : Value) (f : Option Addr) : Flt (setFlight e f) := .bind (.field e 1) fun tb => by split <;> first | exact .put _ _ _ | exact .pure _
theorem Flt.ready : ∀ l : List Env, Flt (readyFrames l)
  | [] => .pure _
  | env :: outer => by
    unfold readyFrames
    split <;> first | exact .uns _ | skip
    refine .bind (.load _) fun o => ?_
    split <;> first | exact .pure _ | skip
    refine .bind ?_ fun b => .bind ?_ fun v => .bind (.update _ _) fun _ => Flt.ready outer
    · unfold behindIsImport
      split <;> first | exact .pure _ | skip
      split <;> first | exact .pure _ | exact .bind (.field _ _) fun _ => .pure _
    · unfold keptBack
      split <;> first | exact .pure _ | skip
      split <;> first | exact .pure _ | exact .bind (.bind .stack fun _ => .pure _) fun _ => .pure _
theorem Flt.frame (env : Env) : Flt (frameOf env) := .bind (.bind .stack fun _ => .pure _) fun es => .bind (by
    unfold frameObject
    split
    · exact .pure _
    · exact .bind (.ready _) fun _ => .pure _) fun f => by split <;> first | exact .pure _ | exact .uns _
theorem Flt.fields (vs : List Value) : Flt (newFields "traceback" vs) := by
  have h : Flt (newObjAsIs (.type "traceback") (.fields vs.toArray)) := .bind (.alloc _) fun a => .pure _
  unfold newFields newObj
  dsimp only
  split
  · exact .bind (.uns _) fun _ => h
  · exact h
theorem Flt.entry (env : Env) (e head : Value) (L : Addr) (b : Bool) : Flt (do let a ← frameOf env; let pl ← entryPlaceOf L b; let b ← EntryCells.newEntry head a .none (rawInt L) .none pl; setField e 1 b) :=
  .bind (.frame env) fun _ => .bind (.bind .stack fun acts => by split <;> exact .pure _) fun _ => .bind (.fields _) fun _ => .put _ _ _
theorem Flt.note (e : Value) (env : Env) : Flt (noteFrame e env) := by
  unfold noteFrame
  split <;> first | exact .uns _ | skip
  refine .bind (.field _ _) fun head => ?_
  split
  · refine .bind (.field _ _) fun x => ?_
    split
    · exact .pure _
    · exact .bind (.put _ _ _) fun _ => .entry _ _ _ _ _
  · exact .entry _ _ _ _ _
theorem wpAny_also {M : Model} {A : Around} {α : Type} {t : Sem α} {Q Q' : α → Shared → Prop} {E E' : Value → Shared → Prop} {s : Shared} (f : Flt t) (h : wpAny M A t Q E s) (k : wpAny M A t Q' E' s) : wpAny M A t (fun a s => Q a s ∧ Q' a s) (fun a s => E a s ∧ E' a s) s :=
  fun Γ p hΓ => f.go (h Γ p hΓ) (k Γ p hΓ)
section
variable {M : Model} {A : Around} {E : Value → Shared → Prop} {s : Shared} {base : Heap} {env : Env} {outer : List Env} {L e : Addr} {cls a0 fl : Value} {od : Option Addr}
def DctIs (e : Addr) (od : Option Addr) (h : Heap) : Prop := ∀ o, h.get? e = some o → o.dict = od
theorem map_dict (o : Obj) (f : Array Value → Array Value) : (Obj.mapFields f o).dict = o.dict := by
  unfold Obj.mapFields
  split <;> rfl
theorem upd_dict {h : Heap} {b : Addr} {f : Array Value → Array Value} (d : DctIs e od h) (hb : ∃ o, h.get? b = some o ∧ ∃ vs, o.data = .fields vs) : DctIs e od (h.update b (Obj.mapFields f)) := by
  intro o ho
  by_cases q : b = e
  · subst q
    obtain ⟨ob, h1, vs, h2⟩ := hb
    rw [Heap.get?_update_self _ h1 (Obj.isFreed_of_fields (Obj.data_mapFields h2 f))] at ho
    cases ho
    rw [map_dict]
    exact d _ h1
  · rw [Heap.get?_update_other _ _ q] at ho
    exact d o ho
theorem tb_some (T : Addr) : (Value.ref T != Value.none) = true := by simp
theorem no_raw (L : Addr) : (Value.none == rawInt L) = false := by simp [rawInt]
theorem flight_dict (ht : s.heap.TracedAtW base e cls a0 fl) (d : DctIs e od s.heap) : wpAny M A (setFlight (.ref e) none) (fun _ s' => DctIs e od s'.heap) E s := by
  obtain ⟨oe, vs, T, oT, ts, he, -, hd, h1, -, -, hT, hdT, h3⟩ := ht
  have in3 := (Array.getElem?_eq_some_iff.mp h3).1
  unfold setFlight
  exact wpAny_bind (wpAny_field he hd h1 (by rw [if_pos (tb_some T)]; exact wpAny_setField hT hdT in3 (upd_dict d ⟨_, hT, _, hdT⟩)))
theorem entry_dict {oe : Obj} {vs : Array Value} {head : Value} {hadNext : Bool} (hfr : A.frames = some (env :: outer)) (hl : s.heap.FunFrames base (env :: outer)) (hf : env.frame = some L) (he : s.heap.get? e = some oe) (hd : oe.data = .fields vs) (hsz : 1 < vs.size) (d : DctIs e od s.heap) :
    wpAny M A (do let a ← frameOf env; let pl ← entryPlaceOf L hadNext; let b ← EntryCells.newEntry head a .none (rawInt L) .none pl; setField (.ref e) 1 b) (fun _ s' => DctIs e od s'.heap) E s := by
  have nf : e ∉ (env :: outer).filterMap (·.frame) := fun hm => by
    obtain ⟨_, o, ho, hnf⟩ := hl.mem hm
    rw [he] at ho; cases ho; exact hnf vs hd
  refine wpAny_bind (wpAny_frameOf_fun hfr hl hf fun h1 hs => wpAny_bind (wpAny_entryPlaceOf fun pl hpl => ?_))
  unfold EntryCells.newEntry newFields
  refine wpAny_bind (wpAny_newObj_type ?_ (hpl.sizeOk5 _ _ _ _ _))
  have he1 : h1.get? e = some oe := (hs.2.1 e nf).trans he
  have he2 := Heap.get?_push_of_some (h := h1) { cls := .type "traceback", dict := none, data := .fields ([head, .ref L, .none, rawInt L, .none] ++ (if pl.isEmpty then List.replicate 6 Value.none else pl)).toArray } he1
  refine wpAny_setField he2 hd hsz (upd_dict (fun o ho => ?_) ⟨_, he2, _, hd⟩)
  rw [he2] at ho; cases ho
  exact d _ he
theorem note_dict (hfr : A.frames = some (env :: outer)) (hl : s.heap.FunFrames base (env :: outer)) (hf : env.frame = some L) (ht : s.heap.TracedW base e cls a0) (d : DctIs e od s.heap) :
    wpAny M A (noteFrame (.ref e) env) (fun _ s' => DctIs e od s'.heap) E s := by
  obtain ⟨oe, vs, T, oT, ts, he, -, hd, h1, -, hTe, hT, hdT, h3⟩ := ht
  have in1 := (Array.getElem?_eq_some_iff.mp h1).1
  have in3 := (Array.getElem?_eq_some_iff.mp h3).1
  have off : ∀ b, T ≠ b → (s.heap.update T (Obj.mapFields (·.setIfInBounds 3 Value.none))).get? b = s.heap.get? b := fun b hb => Heap.get?_update_other _ _ hb
  have fr : (s.heap.update T (Obj.mapFields (·.setIfInBounds 3 Value.none))).FunFrames base (env :: outer) := hl.of_keeps fun b o hb nf => ⟨o, (off b fun z => by rw [← z, hT] at hb; cases hb; exact nf ts hdT).trans hb, rfl⟩
  unfold noteFrame
  simp only [hf]
  exact wpAny_bind (wpAny_field he hd h1 (by
    rw [if_pos (tb_some T)]
    exact wpAny_bind (wpAny_field hT hdT h3 (by
      rw [if_neg (by rw [no_raw]; exact Bool.false_ne_true)]
      exact wpAny_bind (wpAny_setField hT hdT in3 (entry_dict hfr fr hf ((off e hTe).trans he) hd in1 (upd_dict d ⟨_, hT, _, hdT⟩)))))))
end
section
variable {M : Model} {A : Around} {E : Value → Shared → Prop} {s : Shared} {base : Heap} {env : Env} {outer : List Env} {L e : Addr} {cls a0 : Value} {od : Option Addr} {Q : Unit → Shared → Prop}
theorem lands_D (hh : Heap.HeldW base (env :: outer) e cls a0 L s.heap) (d : DctIs e od s.heap) (hQ : ∀ h', Heap.FlyingW base (env :: outer) e cls a0 h' → s.heap.UpToSlots h' → DctIs e od h' → Q () { s with heap := h' }) : wpAny M A (setFlight (.ref e) none) Q E s :=
  wpAny_mono (wpAny_also (E := E) (E' := E) (.flight _ _) (wpAny_landsW hh (Q := fun _ s' => ∃ h', s' = { s with heap := h' } ∧ Heap.FlyingW base (env :: outer) e cls a0 h' ∧ s.heap.UpToSlots h') fun h' f u => ⟨h', rfl, f, u⟩) (flight_dict hh.2.2.2 d))
    (fun _ s' ⟨⟨h', e1, f, u⟩, d'⟩ => by subst e1; exact hQ h' f u d') fun _ _ z => z.1
theorem looks_D (hfr : A.frames = some (env :: outer)) (hf : env.frame = some L) (hfl : Heap.FlyingW base (env :: outer) e cls a0 s.heap) (d : DctIs e od s.heap)
    (hQ : ∀ h', Heap.HeldW base (env :: outer) e cls a0 L h' → s.heap.UpToSlots h' → DctIs e od h' → Q () { s with heap := h' }) : wpAny M A (noteFrame (.ref e) env) Q E s :=
  wpAny_mono (wpAny_also (E := E) (E' := E) (.note _ _) (wpAny_looks_onW hfr hf hfl (Q := fun _ s' => ∃ h', s' = { s with heap := h' } ∧ Heap.HeldW base (env :: outer) e cls a0 L h' ∧ s.heap.UpToSlots h') fun h' f u => ⟨h', rfl, f, u⟩) (note_dict hfr hfl.2.2.1 hf hfl.2.2.2 d))
    (fun _ s' ⟨⟨h', e1, f, u⟩, d'⟩ => by subst e1; exact hQ h' f u d') fun _ _ z => z.1
theorem leaves_D (hfr : A.frames = some (env :: outer)) (hf : env.frame = some L) (hfl : Heap.FlyingW base (env :: outer) e cls a0 s.heap) (d : DctIs e od s.heap)
    (hQ : ∀ h', Heap.FlyingW base outer e cls a0 h' → s.heap.UpToSlots h' → DctIs e od h' → Q () { s with heap := h' }) : wpAny M A (leaving env (.ref e)) Q E s := by
  unfold leaving
  refine wpAny_bind (looks_D hfr hf hfl d fun h1 hh u1 d1 => lands_D (s := { s with heap := h1 }) hh d1 fun h2 f u2 d2 => hQ h2 ?_ (u1.trans u2) d2)
  obtain ⟨k1, k2, ⟨_, _, k3⟩, k4⟩ := f
  exact ⟨k1, k2, k3, k4⟩
theorem first_D {oe : Obj} {vs : Array Value} (hfr : A.frames = some (env :: outer)) (hl : s.heap.FunFrames base (env :: outer)) (hf : env.frame = some L) (he : s.heap.get? e = some oe) (hkb : base.StaysIn s.heap) (hen : base.get? e = none) (hd : oe.data = .fields vs) (h1 : vs[1]? = some .none) (h0 : vs[0]? = some a0) (d : DctIs e od s.heap)
    (hQ : ∀ h', Heap.FlyingW base outer e oe.cls a0 h' → s.heap.UpToSlots h' → DctIs e od h' → Q () { s with heap := h' }) : wpAny M A (leaving env (.ref e)) Q E s := by
  have hsz := (Array.getElem?_eq_some_iff.mp h1).1
  unfold leaving noteFrame
  simp only [hf]
  refine wpAny_bind (wpAny_bind (wpAny_field he hd h1 ?_))
  rw [if_neg (by decide)]
  refine wpAny_mono (wpAny_also (E := E) (E' := E) (.entry _ _ _ _ _) (wpAny_entryW hfr hl hf he hkb hen hd hsz h0 (Q := fun _ s' => ∃ h', s' = { s with heap := h' } ∧ Heap.NotedW base (env :: outer) e oe.cls a0 (rawInt L) s.heap h') fun h' n => ⟨h', rfl, n⟩) (entry_dict hfr hl hf he hd hsz d)) (fun _ s' z => ?_) fun _ _ z => z.1
  obtain ⟨⟨h', e1, n1, n2, n3, n4⟩, d1⟩ := z
  subst e1
  refine lands_D (s := { s with heap := h' }) ⟨n1, hen, n2, n3⟩ d1 fun h2 f u2 d2 => hQ h2 ?_ (Heap.UpToSlots.trans n4 u2) d2
  obtain ⟨k1, k2, ⟨_, _, k3⟩, k4⟩ := f
  exact ⟨k1, k2, k3, k4⟩
end
end L2
set_option Elab.async false
set_option linter.all false
set_option maxRecDepth 100000
set_option maxHeartbeats 4000000
namespace L2
open PySem PySem.Spec PyProof.Rows
theorem ObjOk.there {P : Program} {w : World} {H : Hp} {h : Heap} {a : Addr} {o : HO} (x : ObjOk P w H h a o) : ∃ ob, h.get? a = some ob := by
  induction o with
  | lst xs => obtain ⟨_, _, _, _, e⟩ := x; exact ⟨_, e⟩
  | tup xs => obtain ⟨_, _, _, ob, e, _⟩ := x; exact ⟨_, e⟩
  | dK kvs => obtain ⟨_, _, _, _, o, _, _, e, _⟩ := x; exact ⟨_, e⟩
  | dT kvs => obtain ⟨_, _, _, _, o, _, _, e, _⟩ := x; exact ⟨_, e⟩
  | set S n => obtain ⟨o, _, _, _, e, _⟩ := x; exact ⟨_, e⟩
  | ins C dx fs => obtain ⟨_, _, _, e, _⟩ := x; exact ⟨_, e⟩
  | own y => exact x
  | xd fs => obtain ⟨_, ⟨_, _, _, e, _⟩, _⟩ := x; exact ⟨_, e⟩
  | rng lo hi => obtain ⟨_, _, _, e⟩ := x; exact ⟨_, e⟩
  | frz ob u ih => exact ⟨_, x.1⟩
  | tbl ps => exact ⟨_, x⟩
  | ctb q => obtain ⟨_, e, _⟩ := x; exact ⟨_, e⟩
  | met f y => exact ⟨_, x⟩
  | ext φ => exact x.2.1
theorem HOk.none {P : Program} {w : World} {H : Hp} {h : Heap} {a : Addr} (x : HOk P w H h) (e : h.get? a = Option.none) : H a = Option.none := by
  cases q : H a with
  | none => rfl
  | some o =>
    obtain ⟨ob, z⟩ := (x a o q).there
    rw [e] at z; cases z
def Fly (h0 : Heap) (H' : Hp) (C a : Addr) (od : Option Addr) (h : Heap) : Prop := ∃ oe vs T oT ts a0, h.get? a = some oe ∧ oe.cls = .ref C ∧ vs[0]? = some a0 ∧ oe.data = .fields vs ∧ vs[1]? = some (.ref T) ∧ T ≠ a ∧ h.get? T = some oT ∧ oT.data = .fields ts ∧ ts[3]? = some Value.none ∧
  h0.get? a = none ∧ h0.get? T = none ∧ H' a = none ∧ H' T = none ∧ oe.dict = od ∧ ∀ dx, od = some dx → h0.get? dx = none
structure XOut (P : Program) (w : World) (outer : List Env) (H : Hp) (s : Shared) (C a : Addr) (od : Option Addr) (H' : Hp) (s' : Shared) : Prop where
  os : s'.os = s.os
  bare : AllBare s'.gens
  un : Un (frs outer) [] H H' s.heap s'.heap
  hok : HOk P w H' s'.heap
  fly : Fly s.heap H' C a od s'.heap
def CX1 (P : Program) (w : World) : CXT := fun outer H s E e s' => ∃ C a od H', e = .ref a ∧ XOut P w outer H s C a od H' s' ∧ E (.ref C) od H'
theorem hide_none {l : List Addr} {h : Heap} {b : Addr} (e : (PySem.W.hideAll h l).get? b = none) : b ∈ l ∨ h.get? b = none := by
  by_cases hb : b ∈ l
  · exact .inl hb
  · cases q : h.get? b with
    | none => exact .inr rfl
    | some o => rw [PySem.W.hideAll_get l q hb] at e; cases e
section
variable {X : Cx} {pins : List (Addr × Obj)} {σ : List (Option V)} {H1 H2 : Hp} {s1 s2 : Shared} {h' B : Heap} {Z : List Addr} {C a : Addr} {a0 : Value} {od : Option Addr}
theorem Inv.stack2 (I : Inv X pins σ H1 s1) (un : Un (frs X.stack) [] H1 H2 s1.heap s2.heap) : s2.heap.FunFrames X.base X.stack := by
  have all : ∀ (l : List Env), (∀ b ∈ frs l, b ∈ frs X.stack) → s1.heap.FunFrames X.base l → s2.heap.FunFrames X.base l := by
    intro l
    induction l with
    | nil => intro _ _; trivial
    | cons env r ih =>
      intro hs hl
      obtain ⟨hk, ⟨L, o, hf, hn, ho, hd⟩, hr⟩ := hl
      have hL : L ∈ frs X.stack := hs L (by unfold frs; rw [List.filterMap_cons, hf]; exact List.mem_cons_self)
      obtain ⟨sl, e⟩ := un.slot L o ho (I.stkFree L hL) hL (by simp)
      exact ⟨hk, ⟨L, _, hf, hn, e, hd⟩, ih (fun b hb => hs b (by unfold frs; rw [List.filterMap_cons, hf]; exact List.mem_cons_of_mem _ hb)) hr⟩
  exact all X.stack (fun _ hb => hb) I.stack
theorem leave_xout (I : Inv X pins σ H1 s1) (hst : X.stack = X.env :: X.outer) (hex : X.ex = []) (hos : s2.os = s1.os) (hbare : AllBare s2.gens) (un : Un (frs X.stack) [] H1 H2 s1.heap s2.heap) (hok : HOk X.prog X.w H2 s2.heap)
    (hZ : ∀ b ∈ Z, s1.heap.get? b = none ∧ H2 b = none) (ha : s1.heap.get? a = none) (hHa : H2 a = none) (keep : ∀ b o, s2.heap.get? b = some o → b ∉ Z → b ∉ frs X.stack → h'.get? b = some o)
    (up : s2.heap.UpToSlots h') (hB : ∀ b, B.get? b = none → b ∈ frs X.stack ∨ (s1.heap.get? b = none ∧ H2 b = none)) (hfl : Heap.FlyingW B X.outer a (.ref C) a0 h') (hdc : DctIs a od h') (hnd : ∀ dx, od = some dx → s1.heap.get? dx = none) :
    XOut X.prog X.w X.outer X.H₀ X.s₀ C a od H2 { s2 with heap := h' } := by
  have base : Un X.fs [] X.H₀ H1 X.s₀.heap s1.heap := hex ▸ I.base
  have F2 := I.stack2 un
  have sub : ∀ b ∈ frs X.outer, b ∈ frs X.stack := fun b hb => by
    rw [hst]; unfold frs
    cases q : X.env.frame with
    | none => rw [List.filterMap_cons, q]; exact hb
    | some L => rw [List.filterMap_cons, q]; exact List.mem_cons_of_mem _ hb
  have neL : ∀ b o, X.s₀.heap.get? b = some o → b ≠ X.env.locals := fun b o e => Nat.ne_of_lt (Nat.lt_of_lt_of_le (Heap.lt_size e) I.ok.above)
  have nost : ∀ b o, X.s₀.heap.get? b = some o → b ∉ frs X.outer → b ∉ frs X.stack := fun b o e hb z => (List.mem_cons.mp (I.stkSub b z)).elim (neL b o e) hb
  have fresh0 : ∀ b, s1.heap.get? b = none → X.s₀.heap.get? b = none := fun b e => by
    cases q : X.s₀.heap.get? b with
    | none => rfl
    | some o =>
      obtain ⟨o', z⟩ := base.there b o q (by simp)
      rw [e] at z; cases z
  have noZ : ∀ b o, X.s₀.heap.get? b = some o → b ∉ Z := fun b o e hb => by
    rw [fresh0 b (hZ b hb).1] at e; cases e
  have frFree : ∀ b ∈ frs X.stack, H2 b = none := fun b hb => by
    obtain ⟨_, o, ho, _⟩ := I.stack.mem hb
    exact un.free b o ho (I.stkFree b hb) (by simp)
  have slotF : ∀ b ∈ frs X.stack, ∀ o, s2.heap.get? b = some o → ∃ sl, h'.get? b = some { o with slots := sl } := fun b hb o e => by
    obtain ⟨_, o', ho', hd⟩ := F2.mem hb
    rw [e] at ho'; cases ho'
    exact up b o e hd
  refine ⟨by show s2.os = _; rw [hos, I.os], hbare, ⟨fun b o e n hb _ => ?_, fun b o e n hb _ => ?_, fun b o e n _ => ?_, fun b o e _ => ?_, fun b xs e => un.tups b xs (base.tups b xs e), fun b o u e => un.frzs b o u (base.frzs b o u e), fun b ps e => ?_⟩, fun b o e => ?_, ?_⟩
  · exact keep b o (un.keep b o (base.keep b o e n hb (by simp)) (base.free b o e n (by simp)) (nost b o e hb) (by simp)) (noZ b o e) (nost b o e hb)
  · obtain ⟨sl, e1⟩ := base.slot b o e n hb (by simp)
    obtain ⟨sl2, e2⟩ := un.slot b _ e1 (base.free b o e n (by simp)) (sub b hb) (by simp)
    obtain ⟨sl3, e3⟩ := slotF b (sub b hb) _ e2
    exact ⟨sl3, e3⟩
  · obtain ⟨o1, e1⟩ := base.there b o e (by simp)
    exact un.free b o1 e1 (base.free b o e n (by simp)) (by simp)
  · obtain ⟨o1, e1⟩ := base.there b o e (by simp)
    obtain ⟨o2, e2⟩ := un.there b o1 e1 (by simp)
    by_cases hb : b ∈ frs X.stack
    · obtain ⟨sl, e3⟩ := slotF b hb _ e2
      exact ⟨_, e3⟩
    · exact ⟨o2, keep b o2 e2 (noZ b o e) hb⟩
  · obtain ⟨m1, e1⟩ := base.tbls b ps e
    obtain ⟨m2, e2⟩ := un.tbls b _ e1
    exact ⟨m1 ++ m2, by rw [e2, Array.append_assoc]⟩
  · refine (hok b o e).stay (fun c v hc q => keep c v q (fun hz => ?_) fun hf => ?_) (fun _ q => q) fun _ _ q => q
    · have := (hZ c hz).2
      rcases hc with rfl | hc
      · rw [e] at this; cases this
      · rw [hc] at this; cases this
    · have := frFree c hf
      rcases hc with rfl | hc
      · rw [e] at this; cases this
      · rw [hc] at this; cases this
  · obtain ⟨_, _, _, oe, vs, T, oT, ts, he, ⟨hc, h0⟩, hd, h1, hnT, hTe, hT, hdT, h3⟩ := hfl
    have hTn : s1.heap.get? T = none ∧ H2 T = none := by
      rcases hB T hnT with z | z
      · obtain ⟨_, o', ho', hd'⟩ := F2.mem z
        obtain ⟨sl, e3⟩ := slotF T z o' ho'
        rw [hT] at e3; cases e3
        exact absurd hdT (hd' ts)
      · exact z
    exact ⟨oe, vs, T, oT, ts, a0, he, hc, h0, hd, h1, hTe, hT, hdT, h3, fresh0 a ha, fresh0 T hTn.1, hHa, hTn.2, hdc _ he, fun dx e => fresh0 dx (hnd dx e)⟩
theorem leave_on (I : Inv X pins σ H1 s1) (hst : X.stack = X.env :: X.outer) (hex : X.ex = []) (hf : X.env.frame = some X.env.locals) (x : XOut X.prog X.w X.stack H1 s1 C a od H2 s2) {E : Value → Shared → Prop} {Q : Unit → Shared → Prop}
    (h : ∀ s', XOut X.prog X.w X.outer X.H₀ X.s₀ C a od H2 s' → Q () s') : wpAny (model X.prog X.w) X.A (leaving X.env (.ref a)) Q E s2 := by
  obtain ⟨oe, vs, T, oT, ts, a0, he, hc, h0, hd, h1, hTe, hT, hdT, h3, na, nT, ha, hHT, hod, hnd⟩ := id x.fly
  have F2 := I.stack2 x.un
  have hin : ∀ env ∈ X.stack, ∀ b, env.frame = some b → b ∈ a :: T :: frs X.stack := fun env he b hb => List.mem_cons_of_mem _ (List.mem_cons_of_mem _ (List.mem_filterMap.mpr ⟨env, he, hb⟩))
  have hfr : X.A.frames = some (X.env :: X.outer) := by rw [← hst]; exact I.ok.frames
  refine leaves_D (od := od) (base := PySem.W.hideAll s2.heap (a :: T :: frs X.stack)) (cls := .ref C) (a0 := a0) hfr hf ⟨fun b o q => PySem.W.of_hideAll _ q, PySem.W.hideAll_none _ (.head _), hst ▸ PySem.W.funFrames_hide F2 hin, ?_⟩ (fun o ho => by rw [he] at ho; cases ho; exact hod) fun h' hfl up hdc => h _ (leave_xout (Z := [a, T]) I hst hex x.os x.bare x.un x.hok (fun b hb => ?_) na ha (fun b o q hz hfs => hfl.1 b o (PySem.W.hideAll_get _ q ?_)) up (fun b q => ?_) hfl hdc hnd)
  · exact ⟨oe, vs, T, oT, ts, he, ⟨hc, h0⟩, hd, h1, PySem.W.hideAll_none _ (.tail _ (.head _)), hTe, hT, hdT, h3⟩
  · rcases List.mem_cons.mp hb with rfl | hb
    · exact ⟨na, ha⟩
    · have : b = T := by simpa using hb
      subst this; exact ⟨nT, hHT⟩
  · intro z
    rcases List.mem_cons.mp z with rfl | z
    · exact hz (.head _)
    · rcases List.mem_cons.mp z with rfl | z
      · exact hz (.tail _ (.head _))
      · exact hfs z
  · rcases hide_none q with z | z
    · rcases List.mem_cons.mp z with rfl | z
      · exact .inr ⟨na, ha⟩
      · rcases List.mem_cons.mp z with rfl | z
        · exact .inr ⟨nT, hHT⟩
        · exact .inl z
    · refine .inr ⟨?_, x.hok.none z⟩
      cases q1 : s1.heap.get? b with
      | none => rfl
      | some o =>
        obtain ⟨o', e'⟩ := x.un.there b o q1 (by simp)
        rw [z] at e'; cases e'
structure MadeX (h h' : Heap) (e C : Addr) (od : Option Addr) : Prop where
  new : h.get? e = none
  newd : ∀ dx, od = some dx → h.get? dx = none
  there : ∃ oe vs a0, h'.get? e = some oe ∧ oe.cls = .ref C ∧ oe.dict = od ∧ oe.data = .fields vs ∧ vs[0]? = some a0 ∧ vs[1]? = some .none
theorem MadeX.of {h h' : Heap} {e C : Addr} {args : List Value} (x : Heap.MadeExcOf h h' e (.ref C) args) : MadeX h h' e C none := by
  obtain ⟨t, he, _, _⟩ := x.there
  exact ⟨x.new, (fun _ z => nomatch z), _, _, _, he, rfl, rfl, rfl, rfl, rfl⟩
theorem leave_made (I : Inv X pins σ H1 s1) (hst : X.stack = X.env :: X.outer) (hex : X.ex = []) (hf : X.env.frame = some X.env.locals) (hx : MadeX s1.heap s2.heap a C od) (hok : HOk X.prog X.w H2 s2.heap) (un : Un (frs X.stack) [] H1 H2 s1.heap s2.heap) (hHa : H2 a = none) (hos : s2.os = s1.os) (hbare : AllBare s2.gens) {E : Value → Shared → Prop} {Q : Unit → Shared → Prop}
    (h : ∀ s', XOut X.prog X.w X.outer X.H₀ X.s₀ C a od H2 s' → Q () s') : wpAny (model X.prog X.w) X.A (leaving X.env (.ref a)) Q E s2 := by
  have hin : ∀ env ∈ X.stack, ∀ b, env.frame = some b → b ∈ a :: frs X.stack := fun env he b hb => List.mem_cons_of_mem _ (List.mem_filterMap.mpr ⟨env, he, hb⟩)
  have hfr : X.A.frames = some (X.env :: X.outer) := by rw [← hst]; exact I.ok.frames
  have F2 := I.stack2 un
  obtain ⟨oe, vs, a0, he, hc, hod, hd, h0, h1⟩ := hx.there
  refine first_D (od := od) (base := PySem.W.hideAll s2.heap (a :: frs X.stack)) hfr (hst ▸ PySem.W.funFrames_hide F2 hin) hf he (fun b o q => PySem.W.of_hideAll _ q) (PySem.W.hideAll_none _ (.head _)) hd h1 h0 (fun o ho => by rw [he] at ho; cases ho; exact hod) fun h' hfl up hdc => h _ ?_
  rw [hc] at hfl
  refine leave_xout (B := PySem.W.hideAll s2.heap (a :: frs X.stack)) (Z := [a]) I hst hex hos hbare un hok (fun b hb => ?_) hx.new hHa (fun b o q hz hfs => hfl.1 b o (PySem.W.hideAll_get _ q ?_)) up (fun b q => ?_) hfl hdc hx.newd
  · obtain rfl : b = a := by simpa using hb
    exact ⟨hx.new, hHa⟩
  · intro z
    rcases List.mem_cons.mp z with rfl | z
    · exact hz (.head _)
    · exact hfs z
  · rcases hide_none q with z | z
    · rcases List.mem_cons.mp z with rfl | z
      · exact .inr ⟨hx.new, hHa⟩
      · exact .inl z
    · refine .inr ⟨?_, hok.none z⟩
      cases q1 : s1.heap.get? b with
      | none => rfl
      | some o =>
        obtain ⟨o', e'⟩ := un.there b o q1 (by simp)
        rw [z] at e'; cases e'
end
def eOf (K : PySem.W.Frag) (EX : XW) (mg : Str → Option Value) : XK := fun cv od H => ∃ x : Ex, EX.p x H ∧ mg (x.cls : Str) = some cv ∧ XFs K x od H
structure Lnd (X : Cx) (EX : XW) : Prop where
  nm : ∀ x H, EX.p x H → ∃ C, X.mg (x.cls : Str) = some (.ref C)
  on : Passes (CX1 X.prog X.w) X (eOf X.K EX X.mg)
  md : ∀ (pins : List (Addr × Obj)) (σ : St) (H H2 : Hp) (s : Shared) (a C : Addr) (od : Option Addr) (s' : Shared) (x : Ex), Inv X pins σ H s → MadeX s.heap s'.heap a C od → HOk X.prog X.w H2 s'.heap → Un (frs X.stack) [] H H2 s.heap s'.heap → H2 a = none → s'.os = s.os → AllBare s'.gens → X.mg (x.cls : Str) = some (.ref C) → EX.p x H2 → XFs X.K x od H2 → X.xe (.ref a) s'
theorem lnd0 {X : Cx} : Lnd X F0 := ⟨fun _ _ z => z.elim, fun _ _ _ _ _ _ _ ⟨_, _, _, _, _, _, _, z, _⟩ => z.elim, fun _ _ _ _ _ _ _ _ _ _ _ _ _ _ _ _ _ _ z _ => z.elim⟩
theorem lndF {P : Program} {w : World} {K : PySem.W.Frag} {mg : Str → Option Value} {base : Heap} {N : List Str} {qual : Str} {sc : Scope} {f : Addr} {cdv : Value} {A : Around} {outer : List Env} {s : Shared} {H : Hp} {E : XK} :
    Lnd (cxOf (CX1 P w) P w K mg base N qual sc f cdv A outer s H E) ⟨H, xNm K mg E⟩ := by
  refine ⟨fun x H ⟨C, hC, _⟩ => ⟨C, hC⟩, ?_, ?_⟩
  · rintro pins σ H1 s1 e s' I ⟨C, a, od, H', rfl, xo, x, ⟨C', hC', hE⟩, hmg, hx⟩
    have hmg : mg (x.cls : Str) = some (.ref C) := hmg
    rw [hC'] at hmg
    cases hmg
    exact leave_on I rfl rfl rfl xo fun s'' y => ⟨_, a, od, H', rfl, y, hE od hx⟩
  · rintro pins σ H1 H2 s1 a C od s' x I hx hok un hHa ho hb hmg ⟨C', hC', hE⟩ hf
    have hmg : mg (x.cls : Str) = some (.ref C) := hmg
    rw [hC'] at hmg
    cases hmg
    exact leave_made I rfl rfl rfl hx hok un hHa ho hb fun s'' y => ⟨_, a, od, H2, rfl, y, hE od hf⟩
def GotX (P : Program) (w : World) (K : PySem.W.Frag) (mg : Str → Option Value) (base : Heap) (x : Str) (ps : List Str) (k : Nat) (sp : Sp) : Prop :=
  ∃ f fd, FnOk P w K mg base (CX1 P w) k f fd ps sp ∧ Binds K fd ps [] ∧ mg x = some (.ref f) ∧ PySem.W.keepIn K (.ref f) = true
section
variable {X : Cx} {x : Str} {p pos : Pos} {e : Expr} {es : List Expr} {t : TA} {ps : List Str} {k j : Nat} {sp : Sp} {E : XK}
theorem pe_ownX (G : GotX X.prog X.w X.K X.mg X.base x ps k sp) (hx : Passes (CX1 X.prog X.w) X E) (hr : Room j X.A) (hg : Gl X x) (ha : PA X (e :: es) t) (hkj : k ≤ j := by omega) (hdb : (x == ("__debug__" : Str)) = false := by decide)
    (he : starEach (e :: es) X.env = (false, eval e X.env) :: starEach es X.env := by rfl) (hpl : (backTo pos (starEach es X.env)).any (·.1) = false := by rfl) : PE X (.Call (.Name x p) (e :: es) [] pos) (cCallX sp E t) := by
  obtain ⟨f, fd, F, b, m, kp⟩ := G
  refine (pe_call F (hr.mono hkj) hg m kp b .nil hx ha hdb he hpl).imp fun σ H Q q => ?_
  unfold tCall
  unfold cCallX at q
  simpa only [List.append_nil] using q
end
theorem Fun.okX {P : Program} {w : World} {K : PySem.W.Frag} {mg : Str → Option Value} {base : Heap} {x qual : Str} {st : Stmt} {f : Addr} {fd : FuncData} {N ps : List Str} {k : Nat} {sp : Sp} {CX : CXT} (F : Fun K x qual st f fd) (S : FnScope N ps (defScope st)) (len : ∀ vs H Q E, sp vs H Q E → vs.length = ps.length)
    (hbody : ∀ (cdv : Value) (A : Around) (outer : List Env) (s : Shared) (H : Hp) (vs : List V) (Q : VK) (E : XK), Room k (A.deeper (envOfC qual (defScope st) s.heap.objs.size f cdv)) → sp vs H Q E →
      ∃ t, PSs (cxOf CX P w K mg base N qual (defScope st) f cdv A outer s H E) (defBody st) t ∧ t { nx := fun _ H' => Q .non H', rt := Q } (start N vs) H) : FnOk P w K mg base CX (k + 1) f fd ps sp := by
  obtain ⟨oc, od, kV, doc, pm, an, cdv, ct, osl, rfl, lk, hcd⟩ := F.ex
  refine fn_of lk hcd S len fun A outer s H vs Q E hr hsp => ?_
  exact hbody cdv A outer s H vs Q E hr hsp
end L2
set_option Elab.async false
set_option linter.all false
set_option maxRecDepth 100000
set_option maxHeartbeats 4000000
namespace L2
open PySem PySem.Spec PyProof.Rows
section
variable {K : PySem.W.Frag} {H : Hp} {v : V}
theorem RD.int {i : Int} (h : RD K H (.int i) v) : v = .int i := by simpa only [RD] using h
theorem RD.str {i : Str} (h : RD K H (.str i) v) : v = .str i := by simpa only [RD] using h
theorem RD.non (h : RD K H .non v) : v = .non := by simpa only [RD] using h
theorem RD.tup {ds : List D} (h : RD K H (.tup ds) v) : ∃ a xs, v = .ref a ∧ H a = some (.tup xs) ∧ RDs K H ds xs := by simpa only [RD] using h
theorem RD.lst {ds : List D} (h : RD K H (.lst ds) v) : ∃ a xs, v = .ref a ∧ H a = some (.lst xs) ∧ RDs K H ds xs := by simpa only [RD] using h
theorem RD.dk {ks : List Key} {ds : List D} (h : RD K H (.dk ks ds) v) : ∃ a xs, v = .ref a ∧ H a = some (.dK (ks.zip xs)) ∧ ks.length = xs.length ∧ RDs K H ds xs := by simpa only [RD] using h
theorem RD.dt {ks : List (List Key)} {ds : List D} (h : RD K H (.dt ks ds) v) : ∃ a xs, v = .ref a ∧ H a = some (.dT (ks.zip xs)) ∧ ks.length = xs.length ∧ RDs K H ds xs := by simpa only [RD] using h
theorem RD.scr {ns : List Int} (h : RD K H (.scr ns) v) : ∃ a, v = .ref a ∧ SqL K H a (ns.map V.int) := by
  simp only [RD] at h
  obtain ⟨a, e, h | h⟩ := h
  · exact ⟨a, e, .inl (.inr h)⟩
  · exact ⟨a, e, .inr h⟩
theorem RD.mkInt (i : Int) : RD K H (.int i) (.int i) := by simp only [RD]
theorem RD.mkBl (i : Bool) : RD K H (.bl i) (.bl i) := by simp only [RD]
theorem RD.mkStr (i : Str) : RD K H (.str i) (.str i) := by simp only [RD]
theorem RD.mkTup {a : Addr} {xs : List V} {ds : List D} (h : H a = some (.tup xs)) (r : RDs K H ds xs) : RD K H (.tup ds) (.ref a) := by simp only [RD]; exact ⟨a, xs, rfl, h, r⟩
end
def dI (g : Int → Int → D) : D → D → Option D
  | .int i, .int j => some (g i j)
  | _, _ => none
def dIC (C : Int → Int → Prop) [∀ i j, Decidable (C i j)] (g : Int → Int → D) : D → D → Option D
  | .int i, .int j => if C i j then some (g i j) else none
  | _, _ => none
def dOr (o p : D → D → Option D) : D → D → Option D := fun d e => match o d e with
  | some z => some z
  | none => p d e
section
variable {K : PySem.W.Frag}
theorem OpD.weak {fr : Bool} {o : D → D → Option D} {r : R2} (h : OpD K fr o r) : OpD K false o r := fun H0 H x y d e z Q s rx ry ho k => h H0 H x y d e z Q s rx ry ho fun v H' q => k v H' q.weak
theorem OpD.or {f1 f2 : Bool} {o p : D → D → Option D} {r q : R2} (h1 : OpD K f1 o r) (h2 : OpD K f2 p q) : OpD K false (dOr o p) (fun x y H Q => r x y H Q ∨ q x y H Q) := by
  intro H0 H x y d e z Q s rx ry ho k
  unfold dOr at ho
  split at ho
  · rename_i z' hz
    cases ho
    exact .inl (h1.weak H0 H x y d e z Q s rx ry hz k)
  · exact .inr (h2.weak H0 H x y d e z Q s rx ry ho k)
theorem od_I {gv : Int → Int → V} {gd : Int → Int → D} (h : ∀ i j H, RD K H (gd i j) (gv i j)) : OpD K false (dI gd) (cI gv) := by
  intro H0 H x y d e z Q s rx ry ho k
  cases d <;> simp only [dI] at ho <;> first | cases ho | skip
  cases e <;> simp only [dI] at ho <;> first | cases ho | skip
  cases rx.int; cases ry.int
  exact k _ H (.pure s (h _ _ _))
theorem od_IC {C : Int → Int → Prop} [∀ i j, Decidable (C i j)] {gv : Int → Int → V} {gd : Int → Int → D} (h : ∀ i j H, RD K H (gd i j) (gv i j)) : OpD K false (dIC C gd) (cIC C gv) := by
  intro H0 H x y d e z Q s rx ry ho k
  cases d <;> simp only [dIC] at ho <;> first | cases ho | skip
  cases e <;> simp only [dIC] at ho <;> first | cases ho | skip
  cases rx.int; cases ry.int
  split at ho
  · rename_i hcc
    cases ho
    exact ⟨hcc, k _ H (.pure s (h _ _ _))⟩
  · cases ho
instance (i j : Int) : Decidable (CMul i j) := by unfold CMul; infer_instance
instance (i j : Int) : Decidable (CDiv i j) := by unfold CDiv; infer_instance
instance (i j : Int) : Decidable (CPow i j) := by unfold CPow; infer_instance
def dAddI : D → D → Option D := dI fun i j => .int (i + j)
def dSub : D → D → Option D := dI fun i j => .int (i - j)
def dMul : D → D → Option D := dIC CMul fun i j => .int (i * j)
def dDiv : D → D → Option D := dIC CDiv fun i j => .int (i / j)
def dMod : D → D → Option D := dIC (fun _ j => 0 < j) fun i j => .int (i % j)
def dLtI : D → D → Option D := dI fun i j => .bl (decide (i < j))
def dLe : D → D → Option D := dI fun i j => .bl (decide (i ≤ j))
def dGtI : D → D → Option D := dI fun i j => .bl (decide (j < i))
def dGe : D → D → Option D := dI fun i j => .bl (decide (j ≤ i))
theorem od_addI : OpD K false dAddI (cI fun i j => .int (i + j)) := od_I fun _ _ _ => .mkInt _
theorem od_sub : OpD K false dSub (cI fun i j => .int (i - j)) := od_I fun _ _ _ => .mkInt _
theorem od_mul : OpD K false dMul (cIC CMul fun i j => .int (i * j)) := od_IC fun _ _ _ => .mkInt _
theorem od_div : OpD K false dDiv (cIC CDiv fun i j => .int (i / j)) := od_IC fun _ _ _ => .mkInt _
theorem od_mod : OpD K false dMod (cIC (fun _ j => 0 < j) fun i j => .int (i % j)) := od_IC fun _ _ _ => .mkInt _
theorem od_ltI : OpD K false dLtI (cI fun i j => .bl (decide (i < j))) := od_I fun _ _ _ => .mkBl _
theorem od_le : OpD K false dLe (cI fun i j => .bl (decide (i ≤ j))) := od_I fun _ _ _ => .mkBl _
theorem od_gtI : OpD K false dGtI (cI fun i j => .bl (decide (j < i))) := od_I fun _ _ _ => .mkBl _
theorem od_ge : OpD K false dGe (cI fun i j => .bl (decide (j ≤ i))) := od_I fun _ _ _ => .mkBl _
def dNeg : D → Option D
  | .int i => some (.int (-i))
  | _ => none
theorem ud_neg : UnD K false dNeg (cU fun i => .int (-i)) := by
  intro H0 H x d z Q s rx ho k
  cases d <;> simp only [dNeg] at ho <;> first | cases ho | skip
  cases rx.int
  exact k _ H (.pure s (.mkInt _))
def dCat : D → D → Option D
  | .lst ds, .lst es => if ds.length + es.length ≤ 100000 then some (.lst (ds ++ es)) else none
  | _, _ => none
theorem k100 {n : Nat} (h : n ≤ 100000) : n ≤ sizeLine := Nat.le_trans h (by decide)
theorem od_cat : OpD K true dCat rCat := by
  intro H0 H x y d e z Q s rx ry ho k
  cases d <;> simp only [dCat] at ho <;> first | cases ho | skip
  cases e <;> simp only [dCat] at ho <;> first | cases ho | skip
  split at ho <;> cases ho
  rename_i hl
  obtain ⟨a, xs, rfl, ha, ra⟩ := rx.lst
  obtain ⟨b, ys, rfl, hb, rb⟩ := ry.lst
  refine ⟨a, b, xs, ys, rfl, rfl, s _ _ ha, s _ _ hb, by rw [← ra.length, ← rb.length]; exact k100 hl, fun p hp => k _ _ (.new s hp fun H' hH => ?_)⟩
  simp only [OB]
  exact ⟨_, hH, ra.append rb⟩
end
def dEq : D → D → Option D := fun d e => if d.pl = true ∧ e.pl = true ∧ d.dep ≤ 20 then some (.bl (eqD d e)) else none
def dNe : D → D → Option D := fun d e => if d.pl = true ∧ e.pl = true ∧ d.dep ≤ 20 then some (.bl (!eqD d e)) else none
def rEqD (K : PySem.W.Frag) : R2 := fun x y H Q => ∃ d e, RD K H d x ∧ RD K H e y ∧ d.pl = true ∧ e.pl = true ∧ d.dep ≤ 20 ∧ Q (.bl (eqD d e)) H
def rNeD (K : PySem.W.Frag) : R2 := fun x y H Q => ∃ d e, RD K H d x ∧ RD K H e y ∧ d.pl = true ∧ e.pl = true ∧ d.dep ≤ 20 ∧ Q (.bl (!eqD d e)) H
def dInS (neg : Bool) : D → D → Option D := fun d c => match c with
  | .lst es => if d.pl = true ∧ pls es = true ∧ deps es ≤ 20 then some (.bl (if neg then !(es.any fun e => eqD e d) else es.any fun e => eqD e d)) else none
  | .tup es => if d.pl = true ∧ pls es = true ∧ deps es ≤ 20 then some (.bl (if neg then !(es.any fun e => eqD e d) else es.any fun e => eqD e d)) else none
  | _ => none
def rInS (K : PySem.W.Frag) (neg : Bool) : R2 := fun x y H Q => ∃ p xs d es, y = .ref p ∧ (H p = some (.lst xs) ∨ H p = some (.tup xs)) ∧ RD K H d x ∧ RDs K H es xs ∧ d.pl = true ∧ pls es = true ∧ deps es ≤ 20 ∧ Q (.bl (if neg then !(es.any fun e => eqD e d) else es.any fun e => eqD e d)) H
section
variable {X : Cx} {K : PySem.W.Frag}
theorem o_eqD (hu : X.A.units + 64 < cLine) : OpR X (compareOp .Eq) (rEqD X.K) := by
  intro pins s σ H x y v u Q I rx ry h
  obtain ⟨d, e, h1, h2, p1, p2, h3, q⟩ := h
  exact (rcAt_D (n := 20) I p1 p2 h3 (by omega) h1 h2 rx ry).1 X.prog X.w X.xe _ ⟨.bl _, H, I, rfl, q⟩
theorem o_neD (hu : X.A.units + 64 < cLine) : OpR X (compareOp .NotEq) (rNeD X.K) := by
  intro pins s σ H x y v u Q I rx ry h
  obtain ⟨d, e, h1, h2, p1, p2, h3, q⟩ := h
  exact (rcAt_D (n := 20) I p1 p2 h3 (by omega) h1 h2 rx ry).2 X.prog X.w X.xe _ ⟨.bl _, H, I, rfl, q⟩
theorem od_eq : OpD K false dEq (rEqD K) := by
  intro H0 H x y d e z Q s rx ry ho k
  unfold dEq at ho
  split at ho <;> cases ho
  rename_i h
  exact ⟨d, e, rx.mono s, ry.mono s, h.1, h.2.1, h.2.2, k _ H (.pure s (.mkBl _))⟩
theorem od_ne : OpD K false dNe (rNeD K) := by
  intro H0 H x y d e z Q s rx ry ho k
  unfold dNe at ho
  split at ho <;> cases ho
  rename_i h
  exact ⟨d, e, rx.mono s, ry.mono s, h.1, h.2.1, h.2.2, k _ H (.pure s (.mkBl _))⟩
theorem o_inS (hu : X.A.units + 64 < cLine) : OpR X (compareOp .In) (rInS X.K false) := by
  intro pins s σ H x y v u Q I rx ry h
  obtain ⟨p, xs, d, es, rfl, hp, hx, hes, pd, pe, hd, q⟩ := h
  cases ry
  rcases hp with hq | hq
  · obtain ⟨its, rv, pl, _⟩ := I.list (.of hq)
    refine SeqAt.in_listAt (hitD X.K H d) pl.isList (fun y hy => hitD_at (A := X.A) I (by omega) pd hx rx pe hes rv hd y (by simpa using hy)) ⟨.bl _, H, I, rfl, ?_⟩
    rw [show its.toArray.any (hitD X.K H d) = its.any (hitD X.K H d) by simp, hitD_any pe hes rv]
    simpa using q
  · obtain ⟨its, rv, pl, _⟩ := I.tuple (.of hq)
    refine SeqAt.in_tupleAt (hitD X.K H d) pl (fun y hy => hitD_at (A := X.A) I (by omega) pd hx rx pe hes rv hd y (by simpa using hy)) ⟨.bl _, H, I, rfl, ?_⟩
    rw [show its.toArray.any (hitD X.K H d) = its.any (hitD X.K H d) by simp, hitD_any pe hes rv]
    simpa using q
theorem o_notInS (hu : X.A.units + 64 < cLine) : OpR X (compareOp .NotIn) (rInS X.K true) := by
  intro pins s σ H x y v u Q I rx ry h
  obtain ⟨p, xs, d, es, rfl, hp, hx, hes, pd, pe, hd, q⟩ := h
  cases ry
  rcases hp with hq | hq
  · obtain ⟨its, rv, pl, _⟩ := I.list (.of hq)
    refine SeqAt.notIn_listAt (hitD X.K H d) pl.isList (fun y hy => hitD_at (A := X.A) I (by omega) pd hx rx pe hes rv hd y (by simpa using hy)) ⟨.bl _, H, I, rfl, ?_⟩
    rw [show its.toArray.any (hitD X.K H d) = its.any (hitD X.K H d) by simp, hitD_any pe hes rv]
    simpa using q
  · obtain ⟨its, rv, pl, _⟩ := I.tuple (.of hq)
    refine SeqAt.notIn_tupleAt (hitD X.K H d) pl (fun y hy => hitD_at (A := X.A) I (by omega) pd hx rx pe hes rv hd y (by simpa using hy)) ⟨.bl _, H, I, rfl, ?_⟩
    rw [show its.toArray.any (hitD X.K H d) = its.any (hitD X.K H d) by simp, hitD_any pe hes rv]
    simpa using q
theorem od_inS {neg : Bool} : OpD K false (dInS neg) (rInS K neg) := by
  intro H0 H x y d e z Q s rx ry ho k
  unfold dInS at ho
  cases e <;> dsimp only at ho <;> first | cases ho | skip
  · split at ho <;> cases ho
    rename_i es h
    obtain ⟨a, xs, rfl, ha, ra⟩ := ry.tup
    exact ⟨a, xs, d, es, rfl, .inr (s _ _ ha), rx.mono s, ra.mono s, h.1, h.2.1, h.2.2, k _ H (.pure s (.mkBl _))⟩
  · split at ho <;> cases ho
    rename_i es h
    obtain ⟨a, xs, rfl, ha, ra⟩ := ry.lst
    exact ⟨a, xs, d, es, rfl, .inl (s _ _ ha), rx.mono s, ra.mono s, h.1, h.2.1, h.2.2, k _ H (.pure s (.mkBl _))⟩
end
def keyD : D → Option Key
  | .int i => some (.inl i)
  | .str x => some (.inr x)
  | _ => none
def keysD : List D → Option (List Key)
  | [] => some []
  | d :: ds => match keyD d, keysD ds with
    | some k, some ks => some (k :: ks)
    | _, _ => none
theorem keyD_rd {K : PySem.W.Frag} {H : Hp} {d : D} {k : Key} {v : V} (h : keyD d = some k) (r : RD K H d v) : v = kV k := by
  cases d <;> simp only [keyD] at h <;> first | cases h | skip
  · cases r.int; rfl
  · cases r.str; rfl
theorem keysD_rd {K : PySem.W.Frag} {H : Hp} : ∀ {ds : List D} {ks : List Key} {xs : List V}, keysD ds = some ks → RDs K H ds xs → xs = ks.map kV
  | [], ks, xs, h, r => by
    simp only [keysD] at h; cases h
    simp only [RDs] at r; subst r; rfl
  | d :: ds, ks, xs, h, r => by
    simp only [RDs] at r
    obtain ⟨x, xs, rfl, r1, r2⟩ := r
    simp only [keysD] at h
    split at h <;> cases h
    rename_i k ks h1 h2
    rw [keyD_rd h1 r1, keysD_rd h2 r2]; rfl
def ROp (K : PySem.W.Frag) (H : Hp) : Option D → Option V → Prop
  | some z, w => ∃ v, w = some v ∧ RD K H z v
  | none, w => w = none
section
variable {κ : Type} [DecidableEq κ]
def lookD (ks : List κ) (ds : List D) (k : κ) : Option D := ((ks.zip ds).find? fun kv => decide (kv.1 = k)).map (·.2)
theorem look_rd {K : PySem.W.Frag} {H : Hp} (k : κ) : ∀ {ks : List κ} {ds : List D} {xs : List V}, ks.length = xs.length → RDs K H ds xs → ROp K H (lookD ks ds k) (valV (ks.zip xs) k)
  | [], ds, xs, _, _ => by simp [lookD, valV, ROp]
  | k' :: ks, [], xs, h, r => by
    simp only [RDs] at r; subst r; simp at h
  | k' :: ks, d :: ds, xs, h, r => by
    simp only [RDs] at r
    obtain ⟨x, xs, rfl, r1, r2⟩ := r
    have ih := look_rd k (by simpa using h) r2 (ks := ks)
    simp only [lookD, valV, List.zip_cons_cons, List.find?_cons] at ih ⊢
    by_cases e : k' = k
    · simp only [e, decide_true]
      exact ⟨x, rfl, r1⟩
    · simp only [e, decide_false]
      exact ih
def putKs (ks : List κ) (k : κ) : List κ := if k ∈ ks then ks else ks ++ [k]
def putV {β : Type} (ks : List κ) (ds : List β) (k : κ) (d : β) : List β := if k ∈ ks then List.zipWith (fun k' d' => if k' = k then d else d') ks ds else ds ++ [d]
theorem putV_rd {K : PySem.W.Frag} {H : Hp} (k : κ) {d : D} {v : V} (rv : RD K H d v) {ks : List κ} {ds : List D} {xs : List V} (r : RDs K H ds xs) : RDs K H (putV ks ds k d) (putV ks xs k v) := by
  have zw : ∀ (ks : List κ) (ds : List D) (xs : List V), RDs K H ds xs → RDs K H (List.zipWith (fun k' d' => if k' = k then d else d') ks ds) (List.zipWith (fun k' d' => if k' = k then v else d') ks xs) := by
    intro ks
    induction ks with
    | nil => intro ds xs _; simp [RDs]
    | cons k' ks ih =>
      intro ds xs r
      cases ds with
      | nil => simp only [RDs] at r; subst r; simp [RDs]
      | cons d' ds =>
        simp only [RDs] at r
        obtain ⟨x, xs, rfl, r1, r2⟩ := r
        simp only [List.zipWith_cons_cons]
        refine .cons ?_ (ih ds xs r2)
        by_cases e : k' = k
        · rw [if_pos e, if_pos e]; exact rv
        · rw [if_neg e, if_neg e]; exact r1
  unfold putV
  by_cases m : k ∈ ks
  · rw [if_pos m, if_pos m]; exact zw ks ds xs r
  · rw [if_neg m, if_neg m]; exact r.append (.one rv)
end
def getD' : D → D → Option (Option D)
  | .dk ks ds, k => (keyD k).map fun k => lookD ks ds k
  | .dt ks ds, .tup es => (keysD es).map fun k => lookD ks ds k
  | _, _ => none
theorem getD_rd {K : PySem.W.Frag} {H : Hp} {d k : D} {x y : V} {o : Option D} (h : getD' d k = some o) (rx : RD K H d x) (ry : RD K H k y) :
    ∃ a w, x = .ref a ∧ DGet H a y w ∧ ROp K H o w := by
  cases d <;> simp only [getD'] at h <;> first | cases h | skip
  · rename_i ks ds
    obtain ⟨a, xs, rfl, ha, hl, rs⟩ := rx.dk
    cases hk : keyD k with
    | none => rw [hk] at h; cases h
    | some k' =>
      rw [hk] at h
      have h : lookD ks ds k' = o := by simpa using h
      subst h
      cases keyD_rd hk ry
      exact ⟨a, _, rfl, DGet.k ha, look_rd k' hl rs⟩
  · rename_i ks ds
    cases k <;> simp only [getD'] at h <;> first | cases h | skip
    rename_i es
    obtain ⟨a, xs, rfl, ha, hl, rs⟩ := rx.dt
    obtain ⟨b, ys, rfl, hb, rb⟩ := ry.tup
    cases hk : keysD es with
    | none => rw [hk] at h; cases h
    | some k' =>
      rw [hk] at h
      have h : lookD ks ds k' = o := by simpa using h
      subst h
      have e := keysD_rd hk rb
      subst e
      exact ⟨a, _, rfl, DGet.t ha hb, look_rd k' hl rs⟩
def dInD (neg : Bool) : D → D → Option D := fun k d => (getD' d k).map fun o => .bl (if neg then !o.isSome else o.isSome)
def rInD (neg : Bool) : R2 := fun y x H Q => ∃ a w, x = .ref a ∧ DGet H a y w ∧ Q (.bl (if neg then !w.isSome else w.isSome)) H
def dIxD : D → D → Option D := fun d k => (getD' d k).bind id
def rIxD : R2 := fun x y H Q => ∃ a w, x = .ref a ∧ DGet H a y (some w) ∧ Q w H
def dIxS : D → D → Option D
  | .lst ds, .int i => atI ds i
  | .tup ds, .int i => atI ds i
  | .scr ns, .int i => (atI ns i).map D.int
  | .str z, .int i => if z.length ≤ 100000 then (atI z.cps.toList i).map fun c => D.str ⟨#[c]⟩ else none
  | _, _ => none
theorem RDs.atI {K : PySem.W.Frag} {H : Hp} {ds : List D} {xs : List V} {i : Int} {d : D} (r : RDs K H ds xs) (h : L2.atI ds i = some d) : ∃ v, L2.atI xs i = some v ∧ RD K H d v := by
  unfold L2.atI at h ⊢
  rw [← r.length]
  cases q : ixN ds.length i with
  | none => rw [q] at h; cases h
  | some j =>
    rw [q] at h
    exact r.get' h
theorem atI_map {α β : Type} (f : α → β) (xs : List α) (i : Int) : atI (xs.map f) i = (atI xs i).map f := by
  unfold atI
  rw [List.length_map]
  cases ixN xs.length i with
  | none => rfl
  | some j => simp
section
variable {X : Cx} {K : PySem.W.Frag}
theorem o_inD (hu : X.A.units + 64 < cLine) : OpR X (compareOp .In) (rInD false) := by
  intro pins s σ H x y v u Q I rx ry h
  obtain ⟨a, w, rfl, g, q⟩ := h
  cases ry
  exact d_in (by omega) I g rx fun s' I' => ⟨.bl w.isSome, H, I', rfl, by simpa using q⟩
theorem o_notInD (hu : X.A.units + 64 < cLine) : OpR X (compareOp .NotIn) (rInD true) := by
  intro pins s σ H x y v u Q I rx ry h
  obtain ⟨a, w, rfl, g, q⟩ := h
  cases ry
  exact d_notIn (by omega) I g rx fun s' I' => ⟨.bl (!w.isSome), H, I', rfl, by simpa using q⟩
theorem od_inD {neg : Bool} : OpD K false (dInD neg) (rInD neg) := by
  intro H0 H x y d e z Q s rx ry ho k
  unfold dInD at ho
  cases ho' : getD' e d with
  | none => rw [ho'] at ho; cases ho
  | some o =>
    rw [ho'] at ho; cases ho
    obtain ⟨a, w, rfl, g, m⟩ := getD_rd ho' (ry.mono s) (rx.mono s)
    refine ⟨a, w, rfl, g, k _ H ?_⟩
    have e : w.isSome = o.isSome := by
      cases o with
      | none => rw [show w = none from m]; rfl
      | some z => obtain ⟨v, e, _⟩ := m; rw [e]; rfl
    rw [e]
    exact .pure s (.mkBl _)
def dIn (neg : Bool) : D → D → Option D := dOr (dInS neg) (dInD neg)
def rIn' (K : PySem.W.Frag) (neg : Bool) : R2 := fun x y H Q => rInS K neg x y H Q ∨ rInD neg x y H Q
theorem o_inG (hu : X.A.units + 64 < cLine) : OpR X (compareOp .In) (rIn' X.K false) := (o_inS hu).or (o_inD hu)
theorem o_notInG (hu : X.A.units + 64 < cLine) : OpR X (compareOp .NotIn) (rIn' X.K true) := (o_notInS hu).or (o_notInD hu)
theorem od_in {neg : Bool} : OpD K false (dIn neg) (rIn' K neg) := od_inS.or od_inD
theorem ix_dict (hu : X.A.units + 64 < cLine) : IxR X rIxD := by
  intro value slice pins s σ H x y v u Q I rx ry h hs
  obtain ⟨a, w, rfl, g, q⟩ := h
  cases rx
  exact tail_any (ops := [.ref a, u]) (dict_typeIs I g) PySem.F.slot_dict_getitem.lookup (d_getItem (by omega) I g ry fun w' s3 I3 rw' => ⟨w, H, I3, rw', q⟩) hs
theorem od_ixD : OpD K false dIxD rIxD := by
  intro H0 H x y d e z Q s rx ry ho k
  unfold dIxD at ho
  cases ho' : getD' d e with
  | none => rw [ho'] at ho; cases ho
  | some o =>
    rw [ho'] at ho
    have ho : o = some z := ho
    subst ho
    obtain ⟨a, w, e0, g, m⟩ := getD_rd ho' rx ry
    obtain ⟨v, rfl, rv⟩ := m
    subst e0
    refine ⟨a, v, rfl, ?_, k _ H (.pure s rv)⟩
    rcases g with ⟨kvs, kk, e1, e2, e3⟩ | ⟨kvs, kk, b, e1, e2, e3, e4⟩
    · refine .inl ⟨kvs, kk, ?_, e2, e3⟩
      rcases e1 with e1 | ⟨o, e1⟩
      · exact .inl (s _ _ e1)
      · exact .inr ⟨o, s _ _ e1⟩
    · refine .inr ⟨kvs, kk, b, ?_, e2, s _ _ e3, e4⟩
      rcases e1 with e1 | ⟨o, e1⟩
      · exact .inl (s _ _ e1)
      · exact .inr ⟨o, s _ _ e1⟩
theorem od_ixS : OpD K false dIxS (rIx K) := by
  intro H0 H x y d e z Q s rx ry ho k
  cases d <;> simp only [dIxS] at ho <;> first | cases ho | skip
  · -- a text
    cases e <;> simp only [dIxS] at ho <;> first | cases ho | skip
    cases rx.str; cases ry.int
    split at ho
    · rename_i z' i hl
      cases hc : atI z'.cps.toList i with
      | none => rw [hc] at ho; cases ho
      | some c =>
        rw [hc] at ho; cases ho
        exact .inr (.inr ⟨z', i, c, rfl, rfl, k100 hl, hc, k _ H (.pure s (.mkStr _))⟩)
    · cases ho
  · cases e <;> simp only [dIxS] at ho <;> first | cases ho | skip
    obtain ⟨a, xs, rfl, ha, ra⟩ := rx.tup
    cases ry.int
    obtain ⟨v, hv, rv⟩ := ra.atI ho
    exact .inr (.inl ⟨a, xs, _, v, rfl, rfl, .of (s _ _ ha), hv, k _ H (.pure s rv)⟩)
  · cases e <;> simp only [dIxS] at ho <;> first | cases ho | skip
    obtain ⟨a, xs, rfl, ha, ra⟩ := rx.lst
    cases ry.int
    obtain ⟨v, hv, rv⟩ := ra.atI ho
    exact .inl ⟨a, xs, _, v, rfl, rfl, .of (s _ _ ha), hv, k _ H (.pure s rv)⟩
  · cases e <;> simp only [dIxS] at ho <;> first | cases ho | skip
    rename_i ns i
    cases ry.int
    obtain ⟨a, rfl, ha⟩ := (rx.mono s).scr
    cases hc : atI ns i with
    | none => rw [hc] at ho; cases ho
    | some c =>
      rw [hc] at ho; cases ho
      exact .inl ⟨a, _, i, .int c, rfl, rfl, ha, by rw [atI_map, hc]; rfl, k _ H (.pure s (.mkInt _))⟩
def dIx : D → D → Option D := dOr dIxS dIxD
def rIxG (K : PySem.W.Frag) : R2 := fun x y H Q => rIx K x y H Q ∨ rIxD x y H Q
theorem ix_G (hu : X.A.units + 64 < cLine) : IxR X (rIxG X.K) := ix_seq.or (ix_dict hu)
theorem od_ix : OpD K false dIx (rIxG K) := od_ixS.or od_ixD
end
end L2
set_option Elab.async false
set_option linter.all false
set_option maxRecDepth 100000
set_option maxHeartbeats 4000000
namespace L2
open PySem PySem.Spec PyProof.Rows
structure QE (X : Cx) (EX : XW) (fr : Bool) (e : Expr) (f : DE → R D) : Prop where
  h : PE X e (TEd X.K EX fr f)
structure QT (X : Cx) (EX : XW) (e : Expr) (t : DE → R Bool) : Prop where
  h : PT X e (TTd X.K EX t)
structure QW (X : Cx) (EX : XW) (e : Expr) (t : DE → R Bool) : Prop where
  h : PW X e (TTd X.K EX t)
structure QA (X : Cx) (EX : XW) (es : List Expr) (f : DE → R (List D)) : Prop where
  h : PA X es (TAd X.K EX f)
structure QI (X : Cx) (EX : XW) (kp : Bool) (tg e : Expr) (f : DE → R (List D)) : Prop where
  h : PI X tg e (TId X.K EX kp f)
structure QG (X : Cx) (tg : Expr) (t : Tg) : Prop where
  h : PG X tg (TGd X.K t)
structure QGs (X : Cx) (ts : List Expr) (is : List Nat) : Prop where
  h : PGs X ts (gNames is)
structure QS (X : Cx) (EX : XW) (fr : Bool) (st : Stmt) (g : DS → SR) : Prop where
  h : PS X st (TSd X.K EX fr g)
structure QB (X : Cx) (EX : XW) (fr : Bool) (sts : List Stmt) (g : DS → SR) : Prop where
  h : PSs X sts (TSd X.K EX fr g)
section
variable {X : Cx} {EX : XW} {fr : Bool} {a b c e : Expr} {es rest : List Expr} {fa fb : DE → R D} {fs : DE → R (List D)} {t u : DE → R Bool} {pos p : Pos} {x : Str}
theorem PA.imp {es : List Expr} {t t' : TA} (h : PA X es t) (hi : ∀ σ H Q, t' σ H Q → t σ H Q) : PA X es t' := fun pos pins s σ H Q I q => h pos pins s σ H Q I (hi σ H Q q)
theorem PW.imp {e : Expr} {t t' : TT} (h : PW X e t) (hi : ∀ σ H Q, t' σ H Q → t σ H Q) : PW X e t' := fun wh pins s σ H Q I q => h wh pins s σ H Q I (hi σ H Q q)
theorem PI.imp {tg e : Expr} {t t' : TI} (h : PI X tg e t) (hi : ∀ σ H Q, t' σ H Q → t σ H Q) : PI X tg e t' := fun pins s σ H Q I q => h pins s σ H Q I (hi σ H Q q)
theorem PS.imp {st : Stmt} {t t' : TS} (h : PS X st t) (hi : ∀ D σ H, t' D σ H → t D σ H) : PS X st t' := fun pins s σ H D I q => h pins s σ H D I (hi D σ H q)
theorem PSs.imp {st : List Stmt} {t t' : TS} (h : PSs X st t) (hi : ∀ D σ H, t' D σ H → t D σ H) : PSs X st t' := fun pins s σ H D I q => h pins s σ H D I (hi D σ H q)
theorem QE.wk {f : DE → R D} (h : QE X EX true e f) : QE X EX false e f := ⟨h.h.imp fun _ _ _ q => q.weak⟩
theorem qv (i : Nat) {x : Str} {pos : Pos} (hN : X.N[i]? = some x := by rfl) (hv : Vis X.env.scope x := by first | exact Or.inl rfl | exact Or.inr (Or.inl rfl) | exact Or.inr (Or.inr rfl)) (hd : (x == ("__debug__" : Str)) = false := by decide)
    (hcd : (x == ("__classdict__" : Str)) = false := by decide) : QE X EX false (.Name x pos) (eVar i) := ⟨(pe_var hN hv hd hcd).imp fun σ H Q q => d_var q⟩
theorem q_int {i j pos} : QE X EX false (.Constant (.int i) j pos) (eC (.int i)) := ⟨pe_int.imp fun σ H Q q => d_const (fun _ => .mkInt i) q⟩
theorem q_bl {i j pos} : QE X EX false (.Constant (.bool i) j pos) (eC (.bl i)) := ⟨pe_bl.imp fun σ H Q q => d_const (fun _ => .mkBl i) q⟩
theorem q_bin {op : Operator} {r : R2} {o : D → D → Option D} (ho : OpR X (binaryOp op) r) (od : OpD X.K fr o r) (ha : QE X EX false a fa) (hb : QE X EX false b fb) : QE X EX fr (.BinOp a op b pos) (eOp o fa fb) := ⟨(pe_op ho ha.h hb.h).imp fun _ _ _ q => d_op od q⟩
theorem q_un {op : UnaryOp} {r : V → Hp → VK → Prop} {o : D → Option D} (ho : UnR X (unaryOp op) r) (od : UnD X.K fr o r) (ha : QE X EX false a fa) : QE X EX fr (.UnaryOp op a pos) (eUn o fa) := ⟨(pe_un ho ha.h).imp fun _ _ _ q => d_un od q⟩
theorem q_cmp {op : CmpOp} {r : R2} {o : D → D → Option D} (ho : OpR X (compareOp op) r) (od : OpD X.K false o r) (ha : QE X EX false a fa) (hb : QE X EX false b fb) (hm : behindInMarks op b = false) :
    QE X EX false (.Compare a [op] [b] pos) (eOp o fa fb) := ⟨(pe_cmpR ho ha.h hb.h hm).imp fun _ _ _ q => d_op od q⟩
theorem q_ix {r : R2} {o : D → D → Option D} (ho : IxR X r) (od : OpD X.K false o r) (ha : QE X EX false a fa) (hb : QE X EX false b fb) (hs : PlainIx b := by exact fun _ _ => rfl) : QE X EX false (.Subscript a b pos) (eOp o fa fb) := ⟨(pe_ix ho ha.h hb.h hs).imp fun _ _ _ q => d_op od q⟩
theorem q_nil : QA X EX [] eNil := ⟨pa_nil.imp fun _ _ _ q => d_nil q⟩
theorem q_cons (ha : QE X EX false e fa) (hr : QA X EX es fs) (hs : starEach (e :: es) X.env = (false, eval e X.env) :: starEach es X.env := by rfl) : QA X EX (e :: es) (eCons fa fs) := ⟨(pa_cons ha.h hr.h hs).imp fun _ _ _ q => d_cons q⟩
theorem q_tup {x1} (h : QA X EX es fs) : QE X EX false (.Tuple es x1 pos) (eTup fs) := ⟨(pe_tup h.h).imp fun _ _ _ q => d_tup q⟩
theorem q_lst (h : QA X EX es fs) : QE X EX true (.List es pos) (eLst fs) := ⟨(pe_lst h.h).imp fun _ _ _ q => d_lst q⟩
theorem q_and (ha : QE X EX false a fa) (hb : QE X EX false (.BoolOp .And (b :: rest) pos) fb) : QE X EX false (.BoolOp .And (a :: b :: rest) pos) (eAnd fa fb) := ⟨(pe_andC ha.h hb.h).imp fun _ _ _ q => d_and q⟩
theorem q_one {op} (h : QE X EX false a fa) : QE X EX false (.BoolOp op [a] pos) fa := ⟨pe_one h.h⟩
def dTru : D → Option Bool
  | .bl b => some b
  | .int i => some (i != 0)
  | .non => some false
  | .str z => if z.length ≤ 100000 then some ((z.length : Int) != 0) else none
  | .lst ds => some (!ds.isEmpty)
  | .tup ds => some (!ds.isEmpty)
  | .dk ks _ => some (!ks.isEmpty)
  | _ => none
theorem isEmpty_len {α β : Type} {xs : List α} {ys : List β} (h : xs.length = ys.length) : xs.isEmpty = ys.isEmpty := by
  cases xs <;> cases ys <;> first | rfl | simp at h
theorem td_tru {K : PySem.W.Frag} : TruD K dTru cTruV := by
  intro H0 H x d b Q s rx ht q
  cases d <;> simp only [dTru] at ht <;> first | cases ht | skip
  · cases rx.non; exact q
  · cases rx.bl; exact q
  · cases rx.int; exact q
  · split at ht <;> cases ht
    rename_i h
    cases rx.str
    exact ⟨k100 h, q⟩
  · obtain ⟨p, xs, rfl, hp, r⟩ := rx.tup
    unfold cTruV
    dsimp only
    rw [rdSeq_tup (s _ _ hp)]
    rw [isEmpty_len r.length] at q; exact q
  · obtain ⟨p, xs, rfl, hp, r⟩ := rx.lst
    unfold cTruV
    dsimp only
    rw [rdSeq_lst (s _ _ hp)]
    rw [isEmpty_len r.length] at q; exact q
  · rename_i ks es
    obtain ⟨p, xs, rfl, hp, hl, r⟩ := rx.dk
    unfold cTruV
    dsimp only
    have e : rdSeq H p = none := by unfold rdSeq; rw [s _ _ hp]
    rw [e]
    dsimp only
    rw [s _ _ hp]
    dsimp only
    rw [isEmpty_len (show ks.length = (List.zip ks xs).length by rw [List.length_zip, ← hl, Nat.min_self])] at q
    exact q
theorem q_notV (ha : QE X EX false a fa) : QE X EX false (.UnaryOp .Not a pos) (eUn (fun d => (dTru d).map fun b => .bl (!b)) fa) := ⟨(pe_notC ha.h).imp fun _ _ _ q => d_notV td_tru q⟩
theorem t_val (ha : QE X EX false a fa) (he : ∀ whole, isTrue a X.env whole = (do let v ← whole; standAt a.pos; holding [v] (truthy v)) := by intro _; rfl) : QT X EX a (bVal dTru fa) := ⟨(pt_tru ha.h he).imp fun _ _ _ q => d_tru td_tru q⟩
theorem t_cmp {op : CmpOp} {r : R2} {o : D → D → Option D} (ho : OpR X (compareOp op) r) (od : OpD X.K false o r) (ha : QE X EX false a fa) (hb : QE X EX false b fb) (hm : behindInMarks op b = false) :
    QT X EX (.Compare a [op] [b] pos) (bVal asB (eOp o fa fb)) := ⟨(pt_cmpC ho ha.h hb.h hm).imp fun _ _ _ q => d_cmp od q⟩
theorem QW.pt (h : QW X EX a t) : QT X EX a t := ⟨h.h.pt⟩
theorem t_not (ha : QT X EX a t) : QT X EX (.UnaryOp .Not a pos) (bNot t) := ⟨(pt_not ha.h).imp fun _ _ _ q => d_bnot q⟩
theorem w_and1 (ha : QT X EX a t) : QW X EX (.BoolOp .And [a] pos) t := ⟨pw_and1 ha.h⟩
theorem w_or1 (ha : QT X EX a t) : QW X EX (.BoolOp .Or [a] pos) t := ⟨pw_or1 ha.h⟩
theorem w_and (ha : QT X EX a t) (hb : QW X EX (.BoolOp .And (b :: rest) pos) u) : QW X EX (.BoolOp .And (a :: b :: rest) pos) (bAnd t u) := ⟨(pw_and ha.h hb.h).imp fun _ _ _ q => d_band q⟩
theorem w_or (ha : QT X EX a t) (hb : QW X EX (.BoolOp .Or (b :: rest) pos) u) : QW X EX (.BoolOp .Or (a :: b :: rest) pos) (bOr t u) := ⟨(pw_or ha.h hb.h).imp fun _ _ _ q => d_bor q⟩
variable {g : D → DE → R D} {gt : D → DE → R Bool} {op op' : CmpOp} {ops : List CmpOp} {r : R2} {o : D → D → Option D} {r' : Expr} {rs : List Expr}
theorem q_cb {id : String} {rr : List V → Hp → VK → Prop} {m : List D → Option D} (hc : CallR X (.builtin id) rr) (od : CallD X.K fr m rr) (hg : Gl X x) (hm : X.mg x = none) (hv : bootBuiltins x = some (.builtin id)) (ha : QA X EX (e :: es) fs) (hn : x ≠ "__name__" := by decide) (hdb : (x == ("__debug__" : Str)) = false := by decide)
    (he : starEach (e :: es) X.env = (false, eval e X.env) :: starEach es X.env := by rfl) (hpl : (backTo pos (starEach es X.env)).any (·.1) = false := by rfl) : QE X EX fr (.Call (.Name x p) (e :: es) [] pos) (eCB m fs) := ⟨(pe_callB hc hg hm hv ha.h hn hdb he hpl).imp fun _ _ _ q => d_cb od q⟩
theorem q_cty {T : String} {rr : List V → Hp → VK → Prop} {m : List D → Option D} (hc : CallR X (.type T) rr) (od : CallD X.K fr m rr) (hg : Gl X x) (hm : X.mg x = none) (hv : bootBuiltins x = some (.type T)) (ha : QA X EX (e :: es) fs) (hn : x ≠ "__name__" := by decide) (hdb : (x == ("__debug__" : Str)) = false := by decide)
    (he : starEach (e :: es) X.env = (false, eval e X.env) :: starEach es X.env := by rfl) (hpl : (backTo pos (starEach es X.env)).any (·.1) = false := by rfl) : QE X EX fr (.Call (.Name x p) (e :: es) [] pos) (eCB m fs) := ⟨(pe_callTy hc hg hm hv ha.h hn hdb he hpl).imp fun _ _ _ q => d_cb od q⟩
theorem q_own {ps : List Str} {k j n kk : Nat} {gg : DS → SR} (L : Lnd X EX) (G : GotX X.prog X.w X.K X.mg X.base x ps k (spD X.K X.mg fr (mOf fr n kk gg) n)) (hr : Room j X.A) (hg : Gl X x) (ha : QA X EX (e :: es) fs) (hkj : k ≤ j := by omega) (hdb : (x == ("__debug__" : Str)) = false := by decide)
    (he : starEach (e :: es) X.env = (false, eval e X.env) :: starEach es X.env := by rfl) (hpl : (backTo pos (starEach es X.env)).any (·.1) = false := by rfl) : QE X EX fr (.Call (.Name x p) (e :: es) [] pos) (eCall (mOf fr n kk gg) fs) := ⟨(pe_ownX G L.on hr hg ha.h hkj hdb he hpl).imp fun _ _ _ q => d_call mOf_len (fun x H z => by obtain ⟨C, hC⟩ := L.nm x H z; exact ⟨C, hC, fun od xf => ⟨x, z, hC, xf⟩⟩) q⟩
end
def dKind : D → String
  | .non => "NoneType"
  | .bl _ => "bool"
  | .int _ => "int"
  | .str _ => "str"
  | .tup _ => "tuple"
  | .lst _ => "list"
  | .dk _ _ => "dict"
  | .dt _ _ => "dict"
  | .dn _ _ => "?"
  | .scr _ => "?"
  | .exc _ _ => "?"
def dIsi (c : String) : D → Option D := fun d => if isKnd c = true ∧ dKind d ≠ "?" then some (.bl (isiB (dKind d) c)) else none
theorem kind_rd {K : PySem.W.Frag} {H : Hp} {d : D} {v : V} (h : dKind d ≠ "?") (r : RD K H d v) : kindV H v = some (dKind d) := by
  cases d
  · cases r.non; rfl
  · cases r.bl; rfl
  · cases r.int; rfl
  · cases r.str; rfl
  · obtain ⟨a, xs, rfl, ha, _⟩ := r.tup; simp only [kindV, ha, dKind]
  · obtain ⟨a, xs, rfl, ha, _⟩ := r.lst; simp only [kindV, ha, dKind]
  · obtain ⟨a, xs, rfl, ha, _⟩ := r.dk; simp only [kindV, ha, dKind]
  · obtain ⟨a, xs, rfl, ha, _⟩ := r.dt; simp only [kindV, ha, dKind]
  · exact absurd rfl h
  · exact absurd rfl h
  · exact absurd rfl h
theorem d_isi {K : PySem.W.Frag} {EX : XW} {σ : St} {H : Hp} {Q : VK} {c : String} {f : DE → R D} (h : TEd K EX false (eUn (dIsi c) f) σ H Q) : tCB rIsi (tCons (TEd K EX false f) (tCons (tC (.ty c)) tNil)) σ H Q := by
  obtain ⟨sx, ρ, H0, s, e, h⟩ := h
  unfold eUn at h
  rw [Rk.bind] at h
  refine TEd.go sx s e h fun d h v H1 H1' s1 e1 r1 => ?_
  obtain ⟨z, hz, h⟩ := h.of
  unfold dIsi at hz
  split at hz <;> cases hz
  rename_i hc
  show rIsi [v, .ty c] H1 Q
  rw [rIsi_e]
  refine ⟨hc.1, ?_⟩
  rw [kind_rd hc.2 (r1.mono e1.2.1)]
  exact h _ H1 (.val s1 e1 (.mkBl _))
theorem q_isi {X : Cx} {EX : XW} {a b : Expr} {pos p : Pos} {x c : _} {f : DE → R D} (hg : Gl X x) (hm : X.mg x = none) (hv : bootBuiltins x = some (.builtin "isinstance")) (ha : QE X EX false a f) (hb : PE X b (tC (.ty c))) (hn : x ≠ "__name__" := by decide) (hdb : (x == ("__debug__" : Str)) = false := by decide)
    (he : starEach [a, b] X.env = (false, eval a X.env) :: starEach [b] X.env := by rfl) (hpl : (backTo pos (starEach [b] X.env)).any (·.1) = false := by rfl) (hs : starEach [b] X.env = (false, eval b X.env) :: starEach [] X.env := by rfl) :
    QE X EX false (.Call (.Name x p) [a, b] [] pos) (eUn (dIsi c) f) := ⟨(pe_callB c_isi hg hm hv (pa_cons ha.h (pa_cons hb pa_nil hs) he) hn hdb he hpl).imp fun _ _ _ q => d_isi q⟩
def intsOf : List D → Option (List Int)
  | [] => some []
  | .int i :: ds => (intsOf ds).map (i :: ·)
  | _ :: _ => none
def boolsOf : List D → Option (List Bool)
  | [] => some []
  | .bl i :: ds => (boolsOf ds).map (i :: ·)
  | _ :: _ => none
theorem intsOf_map : ∀ (ns : List Int), intsOf (ns.map D.int) = some ns
  | [] => rfl
  | n :: ns => by simp [intsOf, intsOf_map ns]
theorem boolsOf_map : ∀ (ns : List Bool), boolsOf (ns.map D.bl) = some ns
  | [] => rfl
  | n :: ns => by simp [boolsOf, boolsOf_map ns]
theorem intsOf_rd {K : PySem.W.Frag} {H : Hp} : ∀ {ds : List D} {ns : List Int} {xs : List V}, intsOf ds = some ns → RDs K H ds xs → xs = ns.map V.int
  | [], ns, xs, h, r => by
    simp only [intsOf] at h; cases h
    simp only [RDs] at r; subst r; rfl
  | d :: ds, ns, xs, h, r => by
    simp only [RDs] at r
    obtain ⟨x, xs, rfl, r1, r2⟩ := r
    cases d <;> simp only [intsOf] at h <;> first | cases h | skip
    cases q : intsOf ds with
    | none => rw [q] at h; cases h
    | some ms =>
      rw [q] at h; cases h
      cases r1.int
      rw [intsOf_rd q r2]; rfl
theorem boolsOf_rd {K : PySem.W.Frag} {H : Hp} : ∀ {ds : List D} {ns : List Bool} {xs : List V}, boolsOf ds = some ns → RDs K H ds xs → xs = ns.map V.bl
  | [], ns, xs, h, r => by
    simp only [boolsOf] at h; cases h
    simp only [RDs] at r; subst r; rfl
  | d :: ds, ns, xs, h, r => by
    simp only [RDs] at r
    obtain ⟨x, xs, rfl, r1, r2⟩ := r
    cases d <;> simp only [boolsOf] at h <;> first | cases h | skip
    cases q : boolsOf ds with
    | none => rw [q] at h; cases h
    | some ms =>
      rw [q] at h; cases h
      cases r1.bl
      rw [boolsOf_rd q r2]; rfl
def dLen : List D → Option D
  | [.lst ds] => some (.int ds.length)
  | [.tup ds] => some (.int ds.length)
  | [.dk ks _] => some (.int ks.length)
  | [.scr ns] => some (.int ns.length)
  | [.str z] => if z.length ≤ 100000 then some (.int z.length) else none
  | _ => none
def dSum : List D → Option D
  | [.lst ds] => (intsOf ds).map fun ns => .int ns.sum
  | [.tup ds] => (intsOf ds).map fun ns => .int ns.sum
  | _ => none
def dAll : List D → Option D
  | [.lst ds] => (boolsOf ds).map fun bs => .bl (bs.all id)
  | _ => none
def dMax2 : List D → Option D
  | [.int i, .int j] => some (.int (if j > i then j else i))
  | _ => none
def dMin2 : List D → Option D
  | [.int i, .int j] => some (.int (if j < i then j else i))
  | _ => none
def dInt : List D → Option D
  | [.int i] => some (.int i)
  | [.bl b] => some (.int (if b then 1 else 0))
  | _ => none
def dList : List D → Option D
  | [.lst ds] => some (.lst ds)
  | [.tup ds] => some (.lst ds)
  | [.scr ns] => some (.lst (ns.map .int))
  | _ => none
def dTuple : List D → Option D
  | [.lst ds] => some (.tup ds)
  | [.tup ds] => some (.tup ds)
  | _ => none
section
variable {X : Cx} {K : PySem.W.Frag}
theorem RDs.uno {H : Hp} {d : D} {xs : List V} (h : RDs K H [d] xs) : ∃ x, xs = [x] ∧ RD K H d x := by
  simp only [RDs] at h
  obtain ⟨x, r, rfl, h1, rfl⟩ := h
  exact ⟨x, rfl, h1⟩
theorem RDs.duo {H : Hp} {d e : D} {xs : List V} (h : RDs K H [d, e] xs) : ∃ x y, xs = [x, y] ∧ RD K H d x ∧ RD K H e y := by
  simp only [RDs] at h
  obtain ⟨x, r, rfl, h1, y, r', rfl, h2, rfl⟩ := h
  exact ⟨x, y, rfl, h1, h2⟩
def rLenG (K : PySem.W.Frag) : List V → Hp → VK → Prop := fun xs H Q => (∃ p ys, xs = [.ref p] ∧ (SqL K H p ys ∨ SqT K H p ys) ∧ Q (.int ys.length) H) ∨ (∃ a kvs, xs = [V.ref a] ∧ H a = some (.dK kvs) ∧ Q (.int kvs.length) H) ∨ ∃ z, xs = [.str z] ∧ z.length ≤ sizeLine ∧ Q (.int z.length) H
theorem c_lenG : CallR X (.builtin "len") (rLenG X.K) := call_len_seq.or (call_lenD.or call_len_str)
theorem cd_len : CallD K false dLen (rLenG K) := by
  intro H0 H xs ds z Q s r ho k
  unfold dLen at ho
  split at ho <;> first | cases ho | skip
  · obtain ⟨x, rfl, q1⟩ := r.uno
    obtain ⟨a, ys, rfl, ha, ra⟩ := q1.lst
    exact .inl ⟨a, ys, rfl, .inl (.of (s _ _ ha)), by rw [← ra.length]; exact k _ H (.pure s (.mkInt _))⟩
  · obtain ⟨x, rfl, q1⟩ := r.uno
    obtain ⟨a, ys, rfl, ha, ra⟩ := q1.tup
    exact .inl ⟨a, ys, rfl, .inr (.of (s _ _ ha)), by rw [← ra.length]; exact k _ H (.pure s (.mkInt _))⟩
  · obtain ⟨x, rfl, q1⟩ := r.uno
    obtain ⟨a, ys, rfl, ha, hl, ra⟩ := q1.dk
    refine .inr (.inl ⟨a, _, rfl, s _ _ ha, ?_⟩)
    rw [List.length_zip, ← hl, Nat.min_self]
    exact k _ H (.pure s (.mkInt _))
  · obtain ⟨x, rfl, q1⟩ := r.uno
    obtain ⟨a, rfl, ha⟩ := (q1.mono s).scr
    exact .inl ⟨a, _, rfl, .inl ha, by rw [List.length_map]; exact k _ H (.pure s (.mkInt _))⟩
  · split at ho <;> cases ho
    rename_i h
    obtain ⟨x, rfl, q1⟩ := r.uno
    cases q1.str
    exact .inr (.inr ⟨_, rfl, k100 h, k _ H (.pure s (.mkInt _))⟩)
theorem cd_all : CallD K false dAll rAllB := by
  intro H0 H xs ds z Q s r ho k
  unfold dAll at ho
  split at ho <;> first | cases ho | skip
  obtain ⟨x, rfl, q1⟩ := r.uno
  obtain ⟨a, ys, rfl, ha, ra⟩ := q1.lst
  rename_i es
  cases q : boolsOf es with
  | none => rw [q] at ho; cases ho
  | some ns =>
    rw [q] at ho; cases ho
    rw [rAllB_e]
    exact ⟨ns, by rw [← boolsOf_rd q ra]; exact .inl (s _ _ ha), k _ H (.pure s (.mkBl _))⟩
theorem cd_max2 : CallD K false dMax2 rMax2 := by
  intro H0 H xs ds z Q s r ho k
  unfold dMax2 at ho
  split at ho <;> first | cases ho | skip
  obtain ⟨x, y, rfl, r1, r2⟩ := r.duo
  cases r1.int; cases r2.int
  rw [rMax2_e]
  exact k _ H (.pure s (.mkInt _))
theorem cd_min2 : CallD K false dMin2 rMin2 := by
  intro H0 H xs ds z Q s r ho k
  unfold dMin2 at ho
  split at ho <;> first | cases ho | skip
  obtain ⟨x, y, rfl, r1, r2⟩ := r.duo
  cases r1.int; cases r2.int
  rw [rMin2_e]
  exact k _ H (.pure s (.mkInt _))
theorem cd_int : CallD K false dInt rIntC := by
  intro H0 H xs ds z Q s r ho k
  unfold dInt at ho
  split at ho <;> first | cases ho | skip
  · obtain ⟨x, rfl, q1⟩ := r.uno
    cases q1.int
    exact k _ H (.pure s (.mkInt _))
  · obtain ⟨x, rfl, q1⟩ := r.uno
    cases q1.bl
    exact k _ H (.pure s (.mkInt _))
def rListG (K : PySem.W.Frag) : List V → Hp → VK → Prop := fun xs H Q => ∃ p ys, xs = [.ref p] ∧ (SqL K H p ys ∨ SqT K H p ys) ∧ ∀ l, H l = none → Q (.ref l) (upd H l (.lst ys))
theorem c_listG : CallR X (.type "list") (rListG X.K) := call_list_of
theorem cd_list : CallD K true dList (rListG K) := by
  intro H0 H xs ds z Q s r ho k
  have fin : ∀ {p : Addr} {ys : List V} {es : List D}, RDs K H0 es ys → z = .lst es → H p = none → Q (.ref p) (upd H p (.lst ys)) := fun {p ys es} re e hp => by
    subst e
    refine k _ _ (.new s hp fun H' hH => ?_)
    simp only [OB]
    exact ⟨_, hH, re⟩
  unfold dList at ho
  split at ho <;> first | cases ho | skip
  · obtain ⟨x, rfl, q1⟩ := r.uno
    obtain ⟨a, ys, rfl, ha, ra⟩ := q1.lst
    exact ⟨a, ys, rfl, .inl (.of (s _ _ ha)), fun l hl => fin ra rfl hl⟩
  · obtain ⟨x, rfl, q1⟩ := r.uno
    obtain ⟨a, ys, rfl, ha, ra⟩ := q1.tup
    exact ⟨a, ys, rfl, .inr (.of (s _ _ ha)), fun l hl => fin ra rfl hl⟩
  · obtain ⟨x, rfl, q1⟩ := r.uno
    obtain ⟨a, rfl, ha⟩ := (q1.mono s).scr
    exact ⟨a, _, rfl, .inl ha, fun l hl => fin (RDs.ofInts _) rfl hl⟩
def rTupleG (K : PySem.W.Frag) : List V → Hp → VK → Prop := fun xs H Q => ∃ p ys, xs = [.ref p] ∧ ((SqL K H p ys ∧ ∀ l, H l = none → Q (.ref l) (upd H l (.tup ys))) ∨ (SqT K H p ys ∧ Q (.ref p) H))
theorem c_tupleG : CallR X (.type "tuple") (rTupleG X.K) := call_tuple_of
theorem cd_tuple : CallD K false dTuple (rTupleG K) := by
  intro H0 H xs ds z Q s r ho k
  unfold dTuple at ho
  split at ho <;> first | cases ho | skip
  · obtain ⟨x, rfl, q1⟩ := r.uno
    obtain ⟨a, ys, rfl, ha, ra⟩ := q1.lst
    refine ⟨a, ys, rfl, .inl ⟨.of (s _ _ ha), fun l hl => k _ _ (.val (Same.upd_new hl) (.new s hl) (.mkTup upd_same (ra.mono (Same.upd_new (s.none hl)))))⟩⟩
  · obtain ⟨x, rfl, q1⟩ := r.uno
    obtain ⟨a, ys, rfl, ha, ra⟩ := q1.tup
    exact ⟨a, ys, rfl, .inr ⟨.of (s _ _ ha), k _ H (.pure s (.mkTup ha ra))⟩⟩
end
def cutL {α : Type} (xs : List α) (lo hi : Option Int) : List α := (xs.drop (HT.sIx xs.length 0 lo)).take (HT.sIx xs.length xs.length hi - HT.sIx xs.length 0 lo)
def dSl : D → Option Int → Option Int → Option D
  | .lst ds, lo, hi => some (.lst (cutL ds lo hi))
  | .scr ns, lo, hi => some (.lst ((cutL ns lo hi).map .int))
  | _, _, _ => none
def TOd (K : PySem.W.Frag) (EX : XW) (f : DE → R (Option Int)) : TO := fun σ H Q => Same EX.hb H ∧ ∃ ρ H0, Same H0 H ∧ RE K H0 ρ σ ∧ Rk EX.at (f ρ) fun o => ∀ H', Same H H' → Q o H'
def oNo : DE → R (Option Int) := fun _ => .ok none
def oSo (f : DE → R D) : DE → R (Option Int) := fun ρ => (f ρ).bind fun d => R.of (match d with | .int i => some (some i) | _ => none)
def eSl (o : D → Option Int → Option Int → Option D) (f : DE → R D) (fl fh : DE → R (Option Int)) : DE → R D := fun ρ => (f ρ).bind fun d => (fl ρ).bind fun lo => (fh ρ).bind fun hi => R.of (o d lo hi)
def SlD (K : PySem.W.Frag) (fr : Bool) (o : D → Option Int → Option Int → Option D) (r : V → Option Int → Option Int → Hp → VK → Prop) : Prop := ∀ (H0 H : Hp) (x : V) (d z : D) (lo hi : Option Int) (Q : VK), Same H0 H → RD K H0 d x → o d lo hi = some z → (∀ v H', Out K fr H0 H z v H' → Q v H') → r x lo hi H Q
section
variable {X : Cx} {K : PySem.W.Frag} {EX : XW} {fr : Bool} {σ : St} {H : Hp} {Q : VK}
structure QO (X : Cx) (EX : XW) (e : Option Expr) (f : DE → R (Option Int)) : Prop where
  h : PO X e (TOd X.K EX f)
theorem PO.imp {e : Option Expr} {t t' : TO} (h : PO X e t) (hi : ∀ σ H Q, t' σ H Q → t σ H Q) : PO X e t' := fun pins s σ H Q I q => h pins s σ H Q I (hi σ H Q q)
theorem s_no : QO X EX none oNo := ⟨po_none.imp fun σ H Q ⟨sx, ρ, H0, s, e, h⟩ => h H (Same.refl _)⟩
theorem s_so {e : Expr} {f : DE → R D} (he : QE X EX false e f) : QO X EX (some e) (oSo f) := ⟨(po_some he.h).imp fun σ H Q ⟨sx, ρ, H0, s, e, h⟩ => by
  unfold oSo at h
  rw [Rk.bind] at h
  refine TEd.go sx s e h fun d h v H1 H1' s1 e1 r1 => ?_
  obtain ⟨o, ho, h⟩ := h.of
  cases d <;> dsimp only at ho <;> first | cases ho | skip
  cases r1.int
  exact ⟨_, rfl, h H1 s1⟩⟩
theorem d_sl {o : D → Option Int → Option Int → Option D} {r : V → Option Int → Option Int → Hp → VK → Prop} {f : DE → R D} {fl fh : DE → R (Option Int)} (hs : SlD K fr o r) (h : TEd K EX fr (eSl o f fl fh) σ H Q) : tSl r (TEd K EX false f) (TOd K EX fl) (TOd K EX fh) σ H Q := by
  obtain ⟨sx, ρ, H0, s, e, h⟩ := h
  unfold eSl at h
  rw [Rk.bind] at h
  refine TEd.go sx s e h fun d h v H1 H1' s1 e1 r1 => ?_
  rw [Rk.bind] at h
  refine ⟨sx.trans s1, ρ, H1', e1.2.1, e.mono e1.1, h.mono fun lo h H2 s2 => ?_⟩
  rw [Rk.bind] at h
  refine ⟨(sx.trans s1).trans s2, ρ, H1', e1.2.1.trans s2, e.mono e1.1, h.mono fun hi h H3 s3 => ?_⟩
  obtain ⟨z, hz, h⟩ := h.of
  exact hs H1' H3 v d z lo hi Q (e1.2.1.trans (s2.trans s3)) r1 hz fun w H4 o => h w H4 (o.after (s1.trans (s2.trans s3)) (e1.grow (s2.trans s3)))
theorem RDs.cut {H : Hp} {ds : List D} {xs : List V} (r : RDs K H ds xs) (lo hi : Option Int) : RDs K H (cutL ds lo hi) (cutV xs lo hi) := by
  unfold cutL cutV
  rw [← r.length]
  exact (r.drop _).take _
theorem sd_list : SlD K true dSl (rSlL K) := by
  intro H0 H x d z lo hi Q s r ho k
  cases d <;> simp only [dSl] at ho <;> first | cases ho | skip
  · obtain ⟨a, xs, rfl, ha, ra⟩ := r.lst
    refine ⟨a, xs, rfl, .of (s _ _ ha), fun p hp => k _ _ (.new s hp fun H' hH => ?_)⟩
    simp only [OB]
    exact ⟨_, hH, ra.cut lo hi⟩
  · rename_i ns
    obtain ⟨a, rfl, ha⟩ := (r.mono s).scr
    refine ⟨a, _, rfl, ha, fun p hp => k _ _ (.new s hp fun H' hH => ?_)⟩
    simp only [OB]
    have e := (RDs.ofInts (K := K) (H := H0) ns).cut lo hi
    refine ⟨_, hH, ?_⟩
    have e2 : ∀ ns : List Int, cutL (ns.map D.int) lo hi = (cutL ns lo hi).map D.int := fun ns => by
      unfold cutL; rw [List.length_map, List.map_take, List.map_drop]
    rw [e2] at e
    exact e
theorem q_sl {o : D → Option Int → Option Int → Option D} {r : V → Option Int → Option Int → Hp → VK → Prop} {e : Expr} {lo hi : Option Expr} {pos p2 : Pos} {f : DE → R D} {fl fh : DE → R (Option Int)} (hr : SlR X r) (hs : SlD X.K fr o r) (he : QE X EX false e f) (hl : QO X EX lo fl) (hu : QO X EX hi fh) :
    QE X EX fr (.Subscript e (.Slice lo hi none p2) pos) (eSl o f fl fh) := ⟨(pe_slice hr he.h hl.h hu.h).imp fun _ _ _ q => d_sl hs q⟩
end
def iL (f : DE → R D) : DE → R (List D) := fun ρ => (f ρ).bind fun d => R.of (items d)
def zD (lo : Int) (n : Nat) : List D := (List.range n).map fun (i : Nat) => D.int (lo + i)
def iR1d (fs : DE → R (List D)) : DE → R (List D) := fun ρ => (fs ρ).bind fun ds => R.of (match ds with
  | [.int j] => if -(2 ^ 62) ≤ j ∧ j < 2 ^ 62 then some (zD 0 j.toNat) else none
  | _ => none)
def iEn (fs : DE → R (List D)) : DE → R (List D) := fun ρ => (fs ρ).bind fun ds => R.of (match ds with
  | [.lst es] => some (((zD 0 es.length).zip es).map fun p => D.tup [p.1, p.2])
  | _ => none)
section
variable {X : Cx} {K : PySem.W.Frag} {EX : XW} {H0 : Hp}
theorem itok_S {S : Hp → Prop} {xs : List V} {ds : List D} (hS : ∀ H, Same H0 H → S H) (r : RDs K H0 ds xs) : ItOk K (ItS S xs) H0 ds := by
  have hl := r.length
  refine ⟨fun i d e H H1 s1 s2 => ⟨⟨hS H (s1.trans s2), by rw [← hl]; exact (List.getElem?_eq_some_iff.mp e).1⟩, fun x H' ⟨e1, e2⟩ => ?_⟩, fun H s => ⟨hS H s, by rw [hl]; exact Nat.le_refl _⟩⟩
  subst e1
  obtain ⟨x', q1, q2⟩ := r.get' e
  rw [q1] at e2; cases e2
  exact ⟨Same.refl _, H1, .refl s2, q2.mono s1⟩
theorem zD_rd (lo : Int) (n : Nat) : RDs K H0 (zD lo n) (zseq lo n) := by
  have : ∀ l : List Nat, RDs K H0 (l.map fun (i : Nat) => D.int (lo + i)) (l.map fun (i : Nat) => V.int (lo + i)) := by
    intro l
    induction l with
    | nil => simp [RDs]
    | cons a l ih => exact .cons (.mkInt _) ih
  exact this _
theorem q_seq {tg l : Expr} {f : DE → R D} (hl : QE X EX false l f) : QI X EX false tg l (iL f) := ⟨(pi_seq hl.h).imp fun σ H Q ⟨sx, ρ, H0, s, e, h⟩ => by
  unfold iL at h
  rw [Rk.bind] at h
  refine TEd.go sx s e h fun d h v H1 H1' s1 e1 r1 => ?_
  obtain ⟨ds, hd, h⟩ := h.of
  cases d <;> simp only [items] at hd <;> first | cases hd | skip
  · obtain ⟨a, xs, rfl, ha, ra⟩ := r1.tup
    exact seqK_tup (e1.2.1 _ _ ha) (h _ H1 H1' s1 e1 (itok_S (fun H s => s _ _ ha) ra))
  · obtain ⟨a, xs, rfl, ha, ra⟩ := r1.lst
    exact seqK_lst (.inl (e1.2.1 _ _ ha)) (h _ H1 H1' s1 e1 (itok_S (fun H s => .inl (s _ _ ha)) ra))⟩
theorem q_r1 {tg a : Expr} {p pos : Pos} {fs : DE → R (List D)} (hg : Gl X "range") (hm : X.mg "range" = none) (ha : QA X EX [a] fs) (hs : starEach [a] X.env = [(false, eval a X.env)] := by rfl) : QI X EX true tg (.Call (.Name "range" p) [a] [] pos) (iR1d fs) := ⟨(pi_r1 hg hm ha.h hs).imp fun σ H Q ⟨sx, ρ, H0, s, e, h⟩ => by
  unfold iR1d at h
  rw [Rk.bind] at h
  refine TAd.go sx s e h fun ds h vs H1 H1' s1 e1 r1 => ?_
  obtain ⟨es, hd, h⟩ := h.of
  split at hd <;> first | cases hd | skip
  obtain ⟨x, rfl, q1⟩ := r1.uno
  cases q1.int
  split at hd <;> cases hd
  rename_i hb
  exact ⟨hb, h _ H1 H1' s1 e1 (itok_S (fun _ _ => trivial) (zD_rd _ _))⟩⟩
theorem itok_P {S : Hp → Prop} {xs ys : List V} {ds es : List D} (hS : ∀ H, Same H0 H → S H) (r : RDs K H0 ds xs) (r' : RDs K H0 es ys) : ItOk K (ItP S (xs.zip ys)) H0 ((ds.zip es).map fun p => D.tup [p.1, p.2]) := by
  have hl := r.length
  have hl' := r'.length
  have hz : ((ds.zip es).map fun p => D.tup [p.1, p.2]).length = (xs.zip ys).length := by rw [List.length_map, List.length_zip, List.length_zip, hl, hl']
  refine ⟨fun i d e H H1 s1 s2 => ⟨⟨hS H (s1.trans s2), by rw [← hz]; exact (List.getElem?_eq_some_iff.mp e).1⟩, fun x H' y => ?_⟩, fun H s => ⟨hS H s, hz⟩⟩
  obtain ⟨T, a, b, rfl, hT, rfl, ep⟩ := y
  obtain ⟨ea, eb⟩ := List.getElem?_zip_eq_some.mp ep
  obtain ⟨da, ga, ra⟩ := r.get ea
  obtain ⟨db, gb, rb⟩ := r'.get eb
  have gz : (ds.zip es)[i]? = some (da, db) := List.getElem?_zip_eq_some.mpr ⟨ga, gb⟩
  rw [List.getElem?_map, gz] at e
  cases e
  refine ⟨Same.upd_new hT, upd H1 T (.tup [a, b]), .new s2 hT, .mkTup upd_same ?_⟩
  have sm := Same.upd_new (o := .tup [a, b]) (s2.none hT)
  exact .cons (ra.mono (s1.trans sm)) (.cons (rb.mono (s1.trans sm)) .nil)
theorem q_en {elts : List Expr} {k : Nat} {a : Expr} {p pos tpos : Pos} {fs : DE → R (List D)} (hg : Gl X "enumerate") (hm : X.mg "enumerate" = none) (ha : QA X EX [a] fs) (hs : starEach [a] X.env = [(false, eval a X.env)] := by rfl) :
    QI X EX false (.Tuple elts k tpos) (.Call (.Name "enumerate" p) [a] [] pos) (iEn fs) := ⟨(pi_enum hg hm ha.h hs).imp fun σ H Q ⟨sx, ρ, H0, s, e, h⟩ => by
  unfold iEn at h
  rw [Rk.bind] at h
  refine TAd.go sx s e h fun ds h vs H1 H1' s1 e1 r1 => ?_
  obtain ⟨es, hd, h⟩ := h.of
  split at hd <;> first | cases hd | skip
  obtain ⟨x, rfl, q1⟩ := r1.uno
  obtain ⟨l, xs, rfl, hl, rl⟩ := q1.lst
  refine ⟨xs, .inl (e1.2.1 _ _ hl), h _ H1 H1' s1 e1 ?_⟩
  rw [rl.length]
  exact itok_P (fun H s => .inl (s _ _ hl)) (zD_rd _ _) rl⟩
end
section
variable {X : Cx} {sc : Scope} {caps : List Str} {ix : List Nat} {elt iter : Expr} {ifs : List Expr} {pos px py pz tpos : Pos} {x y z : Str} {kt : Nat} {kp : Bool} {EX : XW} {fi : DE → R (List D)} {t : DE → R Bool} {f : DE → R D}
def bYes : DE → R Bool := fun _ => .ok true
inductive PTq (X : Cx) (sc : Scope) (N : List Str) : List Expr → (DE → R Bool) → Prop where
  | nil : PTq X sc N [] bYes
  | one {c : Expr} {t : DE → R Bool} (h : ∀ fp s H, QT (cxComp X sc N fp s H) F0 c t) : PTq X sc N [c] t
theorem PTq.run {N : List Str} (h : PTq X sc N ifs t) : ∃ tt, (∀ fp s H, PTs (cxComp X sc N fp s H) ifs tt) ∧ ∀ σ H Q, TTd X.K F0 t σ H Q → tt σ H Q := by
  cases h with
  | nil => exact ⟨_, fun _ _ _ => .nil, fun σ H Q ⟨sx, ρ, H0, s, e, h⟩ => h H (Same.refl _)⟩
  | one h => exact ⟨_, fun fp s H => .one (h fp s H).h, fun _ _ _ q => q⟩
theorem q_c1 (C : CompOk X sc caps ix) (hN : ([x] ++ caps).Nodup) (hx : sc.names.lookup x = some .local) (hi : QI X EX kp (.Name x px) iter fi) (ht : PTq X sc ([x] ++ caps) ifs t) (he : ∀ fp s H, QE (cxComp X sc ([x] ++ caps) fp s H) F0 false elt f)
    (hs : ∀ x, foldedSetIterable iter X.env x = pure x := by intro _; rfl) : QE X EX true (.ListComp elt [⟨.Name x px, iter, ifs, 0⟩] sc pos) (eComp fi b1 ix t f) := by
  obtain ⟨tt, h1, h2⟩ := ht.run
  refine ⟨(pe_comp1 C hN hx hi.h h1 (fun fp s H => (he fp s H).h) hs).imp fun _ _ _ q => d_comp bd_1 h2 q⟩
theorem q_c2 (C : CompOk X sc caps ix) (hN : ([x, y] ++ caps).Nodup) (hx : sc.names.lookup x = some .local) (hy : sc.names.lookup y = some .local) (hi : QI X EX kp (.Tuple [.Name x px, .Name y py] kt tpos) iter fi) (ht : PTq X sc ([x, y] ++ caps) ifs t)
    (he : ∀ fp s H, QE (cxComp X sc ([x, y] ++ caps) fp s H) F0 false elt f) (hs : ∀ x, foldedSetIterable iter X.env x = pure x := by intro _; rfl) : QE X EX true (.ListComp elt [⟨.Tuple [.Name x px, .Name y py] kt tpos, iter, ifs, 0⟩] sc pos) (eComp fi (bT 2) ix t f) := by
  obtain ⟨tt, h1, h2⟩ := ht.run
  refine ⟨(pe_comp2 C hN hx hy hi.h h1 (fun fp s H => (he fp s H).h) hs).imp fun _ _ _ q => d_comp bd_T h2 q⟩
theorem tAsg_mono {te te' : TE} {g : TG} (h : ∀ σ H Q, te' σ H Q → te σ H Q) {De : Ends} {σ : St} {H : Hp} (q : tAsg te' g De σ H) : tAsg te g De σ H := h _ _ _ q
theorem s_c1 {fr : Bool} {m : List Bool} {v : Str} {k : Nat} {spos pv : Pos} (hNX : X.N.Nodup) (hk : X.N[k]? = some v) (hv : X.env.scope.names.lookup v = some .local) (C : CompOk X sc caps ix) (hN : ([x] ++ caps).Nodup) (hx : sc.names.lookup x = some .local) (hi : QI X EX kp (.Name x px) iter fi)
    (ht : PTq X sc ([x] ++ caps) ifs t) (he : ∀ fp s H, QE (cxComp X sc ([x] ++ caps) fp s H) F0 false elt f)
    (hsw : swapsWith (.ListComp elt [⟨.Name x px, iter, ifs, 0⟩] sc pos) (some (.Name v pv)) spos.line X.env = pure true := by rfl) (hs : ∀ x, foldedSetIterable iter X.env x = pure x := by intro _; rfl) :
    QS X EX fr (.Assign [.Name v pv] (.ListComp elt [⟨.Name x px, iter, ifs, 0⟩] sc pos) spos) (sAsg true k m (eComp fi b1 ix t f)) := by
  obtain ⟨tt, h1, h2⟩ := ht.run
  refine ⟨(ps_comp1 hNX hk hv C hN hx hi.h h1 (fun fp s H => (he fp s H).h) hsw hs).imp fun _ _ _ q => tAsg_mono (fun _ _ _ q => d_comp bd_1 h2 q) (d_asg q)⟩
theorem s_c2 {fr : Bool} {m : List Bool} {v : Str} {k : Nat} {spos pv : Pos} (hNX : X.N.Nodup) (hk : X.N[k]? = some v) (hv : X.env.scope.names.lookup v = some .local) (C : CompOk X sc caps ix) (hN : ([x, y] ++ caps).Nodup) (hx : sc.names.lookup x = some .local) (hy : sc.names.lookup y = some .local)
    (hi : QI X EX kp (.Tuple [.Name x px, .Name y py] kt tpos) iter fi) (ht : PTq X sc ([x, y] ++ caps) ifs t) (he : ∀ fp s H, QE (cxComp X sc ([x, y] ++ caps) fp s H) F0 false elt f)
    (hsw : swapsWith (.ListComp elt [⟨.Tuple [.Name x px, .Name y py] kt tpos, iter, ifs, 0⟩] sc pos) (some (.Name v pv)) spos.line X.env = pure true := by rfl) (hs : ∀ x, foldedSetIterable iter X.env x = pure x := by intro _; rfl) :
    QS X EX fr (.Assign [.Name v pv] (.ListComp elt [⟨.Tuple [.Name x px, .Name y py] kt tpos, iter, ifs, 0⟩] sc pos) spos) (sAsg true k m (eComp fi (bT 2) ix t f)) := by
  obtain ⟨tt, h1, h2⟩ := ht.run
  refine ⟨(ps_comp2 hNX hk hv C hN hx hy hi.h h1 (fun fp s H => (he fp s H).h) hsw hs).imp fun _ _ _ q => tAsg_mono (fun _ _ _ q => d_comp bd_T h2 q) (d_asg q)⟩
end
section
variable {X : Cx} {EX : XW} {fr fr' : Bool} {st : Stmt} {sts : List Stmt} {a b c e : Expr} {es : List Expr} {f fv fk : DE → R D} {fs : DE → R (List D)} {t : DE → R Bool} {g g1 g2 : DS → SR} {pos p : Pos} {m : List Bool}
theorem b_nil : QB X EX fr [] sNx := ⟨pss_nil.imp fun _ _ _ q => d_nx q⟩
theorem b_one (h : QS X EX fr st g) : QB X EX fr [st] g := ⟨pss_one h.h⟩
theorem b_cons (h1 : QS X EX fr st g1) (h2 : QB X EX fr sts g2) : QB X EX fr (st :: sts) (sSeq g1 g2) := ⟨(pss_cons h1.h h2.h).imp fun _ _ _ q => d_seq q⟩
theorem s_if {x y : List Stmt} (hc : QT X EX c t) (ha : QB X EX fr x g1) (hb : QB X EX fr y g2) : QS X EX fr (.If c x y pos) (sIf t g1 g2) := ⟨(ps_if hc.h ha.h hb.h).imp fun _ _ _ q => d_ifs q⟩
theorem s_ret (he : QE X EX fr e f) : QS X EX fr (.Return (some e) pos) (sRet m f) := ⟨(ps_ret he.h).imp fun _ _ _ q => d_ret q⟩
theorem s_retO {i : Nat} {x : Str} {p : Pos} (hN : X.N[i]? = some x := by rfl) (hv : Vis X.env.scope x := by first | exact Or.inl rfl | exact Or.inr (Or.inl rfl) | exact Or.inr (Or.inr rfl)) (hd : (x == ("__debug__" : Str)) = false := by decide)
    (hcd : (x == ("__classdict__" : Str)) = false := by decide) : QS X EX true (.Return (some (.Name x p)) pos) (sRetO i) := ⟨(ps_ret (pw i hN hv hd hcd)).imp fun _ _ _ q => d_retO q⟩
theorem s_asg {i : Nat} {x : Str} {pos' : Pos} (hN : X.N.Nodup) (hi : X.N[i]? = some x) (hx : Loc X.env.scope x) (he : QE X EX fr' e f) (hs : swapsWith e (some (.Name x pos')) pos.line X.env = pure false := by rfl) (hf : X.fn x = true ∨ X.env.scope.names.lookup x = some .local := by first | exact .inl rfl | exact .inr rfl | assumption) :
    QS X EX fr (.Assign [.Name x pos'] e pos) (sAsg fr' i m f) := ⟨(ps_set hN hi hx he.h hs hf).imp fun _ _ _ q => d_asg q⟩
theorem g_n {i : Nat} {x : Str} {pos : Pos} (hN : X.N.Nodup) (hi : X.N[i]? = some x) (hx : Loc X.env.scope x) (hf : X.fn x = true ∨ X.env.scope.names.lookup x = some .local := by first | exact .inl rfl | exact .inr rfl | assumption) : QG X (.Name x pos) (.n i) := ⟨(pg_name hN hi hx hf).imp fun _ _ _ _ q => d_tn q⟩
theorem gs_nil : QGs X [] [] := ⟨pgs_nilC⟩
theorem gs_cons {i : Nat} {is : List Nat} {x : Str} {pos : Pos} {ts : List Expr} (hN : X.N.Nodup) (hi : X.N[i]? = some x) (hx : Loc X.env.scope x) (hr : QGs X ts is) (hf : X.fn x = true ∨ X.env.scope.names.lookup x = some .local := by first | exact .inl rfl | exact .inr rfl | assumption)
    (hs : (assignEach (.Name x pos :: ts) X.env).map (·.2) = assign (.Name x pos) X.env :: (assignEach ts X.env).map (·.2) := by rfl) : QGs X (.Name x pos :: ts) (i :: is) := ⟨pgs_consC (pg_name hN hi hx hf) hr.h hs⟩
theorem g_t {is : List Nat} {ts : List Expr} {k : Nat} {pos : Pos} (hc : X.calm = true) (h : QGs X ts is) (hn : (assignEach ts X.env).length = is.length := by rfl) (hst : (assignEach ts X.env).findIdx? (·.1) = none := by rfl) : QG X (.Tuple ts k pos) (.t is) := ⟨(pg_seqC hc h.h hn hst).imp fun _ _ _ _ q => d_tt q⟩
theorem s_unp {tg : Expr} {tt : Tg} (he : QE X EX false e f) (hg : QG X tg tt) (hs : swapsWithSole [tg] e pos.line X.env = pure false := by rfl) (hw : swappedStores [tg] e X.env = pure none := by rfl)
    (h1 : (assignEach [tg] X.env).map (·.2) = [assign tg X.env] := by rfl) : QS X EX fr (.Assign [tg] e pos) (sUnp tt m f) := ⟨(ps_asg he.h hg.h hs hw h1).imp fun _ _ _ q => d_unp q⟩
theorem s_for {tg iter : Expr} {tt : Tg} {body : List Stmt} {kp : Bool} {fi : DE → R (List D)} (hp : PassesOwn (model X.prog X.w) X.A X.env X.xe) (hc : X.calm = true) (hi : QI X EX kp tg iter fi) (hg : QG X tg tt) (hb : QB X EX fr body g)
    (hs : ∀ x, foldedSetIterable iter X.env x = pure x := by intro _; rfl) : QS X EX fr (.For tg iter body [] pos) (sFor kp m fi tt g) := ⟨(ps_forC hp hc hi.h hg.h hb.h hs).imp fun _ _ _ q => d_for q⟩
theorem s_while {n : Nat} {body : List Stmt} (hp : PassesOwn (model X.prog X.w) X.A X.env X.xe) (hc : QT X EX c t) (hb : QB X EX fr body g) : QS X EX fr (.While c body [] pos) (sWhile n t g) := ⟨(ps_while hp hc.h hb.h).imp fun _ _ _ q => d_while q⟩
def mApp : D → List D → Option D
  | .lst ds, [d] => if ds.length < 100000 then some (.lst (ds ++ [d])) else none
  | _, _ => none
theorem ty_list {K : PySem.W.Frag} : TyD K "list" := fun H0 H a d ob h => by
  cases d <;> simp [isT] at h
  simp only [OB] at ob
  obtain ⟨xs, hx, _⟩ := ob
  exact .inl ⟨rfl, xs, .of hx⟩
theorem md_app {K : PySem.W.Frag} : MutD K mApp rAppend := by
  intro H0 H a d d' ds vs Q s h0 ob r hm k
  unfold mApp at hm
  split at hm <;> first | cases hm | skip
  split at hm <;> cases hm
  rename_i es e hl
  simp only [OB] at ob
  obtain ⟨xs, hx, rx⟩ := ob
  obtain ⟨y, rfl, q1⟩ := r.uno
  refine ⟨a, xs, y, rfl, rfl, hx, by rw [← rx.length]; exact line_100k hl, k _ _ ?_⟩
  simp only [OB]
  exact ⟨_, upd_same, rx.append (.one q1)⟩
theorem s_mut {T id : String} {name : Str} {i : Nat} {x : Str} {xp apos cpos : Pos} {mt : D → List D → Option D} {rr : V → List V → Hp → VK → Prop} (pa : PlainAttrs T) (slot : Slot T name id) (hty : typeOf (.builtin id) = pure (.type "method_descriptor")) (hm : MtM X id rr) (od : MutD X.K mt rr) (hT : TyD X.K T)
    (ho : PE X (.Name x xp) (cVar i)) (ha : QA X EX (e :: es) fs)
    (hbase : attributeBase (.Name x xp) name X.env (eval (.Name x xp) X.env) = eval (.Name x xp) X.env := by rfl)
    (hfew : ((backTo cpos (starEach (e :: es) X.env)).all (fun x => !x.1) && (backToKw cpos (keywordEach [] X.env)).all (fun x => x.1.isSome)
      && decide ((e :: es).length + ([] : List Keyword).length + (if ([] : List Keyword).isEmpty then 0 else 1) < 30)) = true := by rfl)
    (hline : (apos.endLine == cpos.line) = true := by rfl) (hs : starEach (e :: es) X.env = (false, eval e X.env) :: starEach es X.env := by rfl) (hplain : (backTo cpos (starEach es X.env)).any (·.1) = false := by rfl)
    (hsw : swapsWith (.Call (.Attribute (.Name x xp) name apos) (e :: es) [] cpos) none pos.line X.env = pure false := by rfl) :
    QS X EX fr (.Expr (.Call (.Attribute (.Name x xp) name apos) (e :: es) [] cpos) pos) (sMut T mt i m fs) := ⟨(ps_expr (pe_bm pa slot hty hm ho ha.h hbase hfew hline hs hplain) hsw).imp fun _ _ _ q => d_mut od hT q⟩
end
theorem fnD {P : Program} {w : World} {K : PySem.W.Frag} {mg : Str → Option Value} {base : Heap} {x qual : Str} {st : Stmt} {f : Addr} {fd : FuncData} {N ps : List Str} {k n kk : Nat} {fr : Bool} {g : DS → SR} (F : Fun K x qual st f fd) (S : FnScope N ps (defScope st)) (hps : ps.length = n) (hN : N.length = n + kk)
    (hbody : ∀ (cdv : Value) (A : Around) (outer : List Env) (s : Shared) (H : Hp) (E : XK), Room k (A.deeper (envOfC qual (defScope st) s.heap.objs.size f cdv)) →
      QB (cxOf (CX1 P w) P w K mg base N qual (defScope st) f cdv A outer s H E) ⟨H, xNm K mg E⟩ fr (defBody st) g) : FnOk P w K mg base (CX1 P w) (k + 1) f fd ps (spD K mg fr (mOf fr n kk g) n) := by
  have hlen : ∀ {vs : List V} {H : Hp} {Q : VK} {E : XK}, spD K mg fr (mOf fr n kk g) n vs H Q E → vs.length = n := fun {vs H Q E} h => by
    obtain ⟨ds, H0, s, r, hn, _⟩ := h
    rw [← r.length]; exact hn
  refine F.okX S (fun vs H Q E h => by rw [hlen h, hps]) (fun cdv A outer s H vs Q E hr h => ⟨_, (hbody cdv A outer s H E hr).h, ?_⟩)
  have e : start N vs = vs.map some ++ List.replicate kk none := by
    unfold start
    rw [hlen h, hN, Nat.add_sub_cancel_left]
  rw [e]
  exact d_body h
def spL (K : PySem.W.Frag) (fr : Bool) (m : List D → R D) (n : Nat) : Sp := fun vs H Q _ => ∃ ds H0, Same H0 H ∧ RDs K H0 ds vs ∧ ds.length = n ∧ Rk (fun _ => False) (m ds) fun d => ∀ v H', Out K fr H0 H d v H' → Q v H'
theorem spL.spD {K : PySem.W.Frag} {fr : Bool} {m : List D → R D} {n : Nat} {vs : List V} {H : Hp} {Q : VK} {E : XK} {mg : Str → Option Value} (h : spL K fr m n vs H Q E) : L2.spD K mg fr m n vs H Q E := by
  obtain ⟨ds, H0, s, r, hn, h⟩ := h
  refine ⟨ds, H0, s, r, hn, ?_⟩
  cases q : m ds with
  | ok d => rw [q] at h; exact h
  | er x => rw [q] at h; exact h.elim
  | st => rw [q] at h; exact h.elim
theorem law_sp {K : PySem.W.Frag} {H : Hp} {a : Addr} {ns : List Int} {m : List D → R D} {fr : Bool} (hO : Only H) (hS : SqL K H a (ns.map V.int)) (h : m [.scr ns] = .ok (.bl true)) : spL K fr m 1 [.ref a] H (fun v _ => v = .bl true) fun _ _ _ => False := by
  refine ⟨[.scr ns], H, Same.refl _, .one ?_, rfl, ?_⟩
  · simp only [RD]
    refine ⟨a, rfl, ?_⟩
    rcases hS with (hS | hS) | hS
    · rcases hO a with z | ⟨o, xs, z⟩ <;> rw [z] at hS <;> cases hS
    · exact .inl hS
    · exact .inr hS
  · rw [h]
    exact fun v H' o => by
      obtain ⟨_, H0', _, r⟩ := o.weak.rd
      exact r.bl
end L2
set_option Elab.async false
set_option linter.all false
set_option maxRecDepth 100000
set_option maxHeartbeats 4000000
namespace L2
open PySem PySem.Spec PyProof.Rows
open PySem.W (KasT kas_sort kas_rev kas_asc kas_desc kas_tail3 kas_descPart kas_count kas_place kas_bin)
def runT {α : Type} (lt : Nat → Nat → Bool) : KasT α → α
  | .ret a => a
  | .ask i j k => runT lt (k (lt i j))
theorem runT_bind {α β : Type} {lt : Nat → Nat → Bool} {f : α → KasT β} : ∀ t : KasT α, runT lt (t.bind f) = runT lt (f (runT lt t))
  | .ret a => rfl
  | .ask i j k => by
    show runT lt ((k (lt i j)).bind f) = _
    exact runT_bind (k (lt i j))
structure Ord (lt : Nat → Nat → Bool) : Prop where
  irr : ∀ a, lt a a = false
  tr : ∀ {a b c}, lt b a = false → lt c b = false → lt c a = false
  asy : ∀ {a b}, lt a b = true → lt b a = false
section
variable {lt : Nat → Nat → Bool} {p : Array Nat}
abbrev g (p : Array Nat) (i : Nat) : Nat := p.getD i 0
def SrtTo (lt : Nat → Nat → Bool) (p : Array Nat) (m : Nat) : Prop := ∀ i j, i ≤ j → j < m → lt (g p j) (g p i) = false
def NonTo (lt : Nat → Nat → Bool) (p : Array Nat) (m : Nat) : Prop := ∀ i j, i ≤ j → j < m → lt (g p i) (g p j) = false
theorem g_congr {p q : Array Nat} {i j : Nat} (h : p[i]? = q[j]?) : g p i = g q j := by
  unfold g
  rw [Array.getD_eq_getD_getElem?, Array.getD_eq_getD_getElem?, h]
theorem g_rev {i j : Nat} (hj : j ≤ p.size) (k : Nat) : g (kas_rev p i j) k = if i ≤ k ∧ k < j then g p (i + j - 1 - k) else g p k := by
  have e := getElem?_mirror_all (i := i) hj k
  split
  · rename_i h; rw [if_pos h] at e; exact g_congr e
  · rename_i h; rw [if_neg h] at e; exact g_congr e
theorem rev_size {i j : Nat} : (kas_rev p i j).size = p.size := mirror_size _ _ _ _
theorem rev_perm {i j : Nat} : (kas_rev p i j).Perm p := mirror_perm _ _ _ _
theorem asc_ok (O : Ord lt) : ∀ (f n : Nat), 1 ≤ n → SrtTo lt p n → n ≤ runT lt (kas_asc p f n) ∧ runT lt (kas_asc p f n) ≤ n + f ∧ SrtTo lt p (runT lt (kas_asc p f n)) ∧
      (runT lt (kas_asc p f n) = n + f ∨ lt (g p (runT lt (kas_asc p f n))) (g p (runT lt (kas_asc p f n) - 1)) = true)
  | 0, n, h1, hs => ⟨Nat.le_refl _, Nat.le_refl _, hs, .inl rfl⟩
  | f + 1, n, h1, hs => by
    unfold kas_asc
    simp only [runT]
    cases hc : lt (p.getD n 0) (p.getD (n - 1) 0) with
    | true => simp only [if_true, runT]; exact ⟨Nat.le_refl _, by omega, hs, .inr hc⟩
    | false =>
      simp only [Bool.false_eq_true, if_false]
      have hs' : SrtTo lt p (n + 1) := fun i j hij hj => by
        by_cases hjn : j = n
        · subst hjn
          by_cases hi : i = j
          · subst hi; exact O.irr _
          · exact O.tr (hs i (j - 1) (by omega) (by omega)) hc
        · exact hs i j hij (by omega)
      obtain ⟨a, b, c, d⟩ := asc_ok O f (n + 1) (by omega) hs'
      exact ⟨by omega, by omega, c, d.imp (fun z => by omega) id⟩
def EqTo (lt : Nat → Nat → Bool) (p : Array Nat) (n q : Nat) : Prop := ∀ i j, n - (q + 1) ≤ i → i < n → n - (q + 1) ≤ j → j < n → lt (g p i) (g p j) = false
theorem non_rev (O : Ord lt) {n q : Nat} (hn : n ≤ p.size) (hq : q + 1 ≤ n) (hs : NonTo lt p n) (he : EqTo lt p n q) : NonTo lt (kas_rev p (n - (q + 1)) n) n := by
  intro i j hij hj
  rw [g_rev hn, g_rev hn]
  split <;> split
  · exact he _ _ (by omega) (by omega) (by omega) (by omega)
  · omega
  · exact hs _ _ (by omega) (by omega)
  · exact hs i j hij hj
theorem desc_ok (O : Ord lt) : ∀ (f : Nat) (p : Array Nat) (n q : Nat), n + f ≤ p.size → q + 1 ≤ n → NonTo lt p n → EqTo lt p n q →
    (runT lt (kas_desc f p n q)).1.Perm p ∧ n ≤ (runT lt (kas_desc f p n q)).2.1 ∧ (runT lt (kas_desc f p n q)).2.1 ≤ n + f ∧ (runT lt (kas_desc f p n q)).2.2 + 1 ≤ (runT lt (kas_desc f p n q)).2.1 ∧
      NonTo lt (runT lt (kas_desc f p n q)).1 (runT lt (kas_desc f p n q)).2.1 ∧ EqTo lt (runT lt (kas_desc f p n q)).1 (runT lt (kas_desc f p n q)).2.1 (runT lt (kas_desc f p n q)).2.2
  | 0, p, n, q, hn, hq, hs, he => ⟨Array.Perm.refl _, Nat.le_refl _, Nat.le_refl _, hq, hs, he⟩
  | f + 1, p, n, q, hn, hq, hs, he => by
    unfold kas_desc
    simp only [runT]
    have eq0 : ∀ (p' : Array Nat), EqTo lt p' (n + 1) 0 := fun p' i j h1 h2 h3 h4 => by
      have : i = j := by omega
      subst this; exact O.irr _
    have step : ∀ (p' : Array Nat), p'.size = p.size → NonTo lt p' n → lt (g p' n) (g p' (n - 1)) = true → NonTo lt p' (n + 1) := fun p' _ hs' hc i j hij hj => by
      by_cases hjn : j = n
      · subst hjn
        by_cases hi : i = j
        · subst hi; exact O.irr _
        · exact O.tr (O.asy hc) (hs' i (j - 1) (by omega) (by omega))
      · exact hs' i j hij (by omega)
    cases hc : lt (p.getD n 0) (p.getD (n - 1) 0) with
    | true =>
      simp only [if_true]
      by_cases hq0 : q > 0
      · rw [if_pos hq0]
        have hr := non_rev O (by omega) hq hs he
        have hz : (kas_rev p (n - (q + 1)) n).size = p.size := rev_size
        have hc' : lt (g (kas_rev p (n - (q + 1)) n) n) (g (kas_rev p (n - (q + 1)) n) (n - 1)) = true := by
          rw [g_rev (by omega), g_rev (by omega), if_neg (by omega), if_pos (by omega)]
          -- the first of the last run stands as its last
          have e1 : lt (g p (n - (q + 1) + n - 1 - (n - 1))) (g p (n - 1)) = false := he _ _ (by omega) (by omega) (by omega) (by omega)
          have e2 : lt (g p (n - 1)) (g p (n - (q + 1) + n - 1 - (n - 1))) = false := he _ _ (by omega) (by omega) (by omega) (by omega)
          cases hx : lt (g p n) (g p (n - (q + 1) + n - 1 - (n - 1))) with
          | true => rfl
          | false =>
            have z := O.tr e1 hx
            rw [show lt (g p n) (g p (n - 1)) = true from hc] at z
            cases z
        obtain ⟨a1, a2, a3, a4, a5, a6⟩ := desc_ok O f _ (n + 1) 0 (by rw [hz]; omega) (by omega) (step _ hz hr hc') (eq0 _)
        exact ⟨a1.trans rev_perm, by omega, by omega, a4, a5, a6⟩
      · rw [if_neg hq0]
        obtain ⟨a1, a2, a3, a4, a5, a6⟩ := desc_ok O f p (n + 1) 0 (by omega) (by omega) (step _ rfl hs hc) (eq0 _)
        exact ⟨a1, by omega, by omega, a4, a5, a6⟩
    | false =>
      simp only [Bool.false_eq_true, if_false, runT]
      cases hd : lt (p.getD (n - 1) 0) (p.getD n 0) with
      | true => simp only [if_true, runT]; exact ⟨Array.Perm.refl _, Nat.le_refl _, by omega, hq, hs, he⟩
      | false =>
        simp only [Bool.false_eq_true, if_false]
        have hs' : NonTo lt p (n + 1) := fun i j hij hj => by
          by_cases hjn : j = n
          · subst hjn
            by_cases hi : i = j
            · subst hi; exact O.irr _
            · exact O.tr hd (hs i (j - 1) (by omega) (by omega))
          · exact hs i j hij (by omega)
        have he' : EqTo lt p (n + 1) (q + 1) := fun i j h1 h2 h3 h4 => by
          by_cases hi : i = n <;> by_cases hj : j = n
          · rw [hi, hj]; exact O.irr _
          · rw [hi]; exact O.tr (he (n - 1) j (by omega) (by omega) (by omega) (by omega)) hc
          · rw [hj]; exact O.tr hd (he i (n - 1) (by omega) (by omega) (by omega) (by omega))
          · exact he i j (by omega) (by omega) (by omega) (by omega)
        obtain ⟨a1, a2, a3, a4, a5, a6⟩ := desc_ok O f p (n + 1) (q + 1) (by omega) (by omega) hs' he'
        exact ⟨a1, by omega, by omega, a4, a5, a6⟩
theorem tail3_ok (O : Ord lt) {n nrem : Nat} (h1 : 1 ≤ n) (hn : n ≤ nrem) (hz : nrem ≤ p.size) (hs : NonTo lt p n) :
    n ≤ (runT lt (kas_tail3 n nrem p)).1 ∧ (runT lt (kas_tail3 n nrem p)).1 ≤ nrem ∧ (runT lt (kas_tail3 n nrem p)).2.Perm p ∧ SrtTo lt (runT lt (kas_tail3 n nrem p)).2 (runT lt (kas_tail3 n nrem p)).1 := by
  unfold kas_tail3
  rw [runT_bind]
  simp only [runT]
  have hs' : SrtTo lt (kas_rev p 0 n) n := fun i j hij hj => by
    rw [g_rev (by omega), g_rev (by omega), if_pos (by omega), if_pos (by omega)]
    exact hs _ _ (by omega) (by omega)
  obtain ⟨a, b, c, _⟩ := asc_ok O (nrem - n) n h1 hs'
  exact ⟨a, by omega, rev_perm, c⟩
theorem descPart_ok (O : Ord lt) {n nrem : Nat} (hn : n + 1 ≤ nrem) (hz : nrem ≤ p.size) (hs : NonTo lt p (n + 1)) :
    1 ≤ (runT lt (kas_descPart n nrem p)).1 ∧ (runT lt (kas_descPart n nrem p)).1 ≤ nrem ∧ (runT lt (kas_descPart n nrem p)).2.Perm p ∧ SrtTo lt (runT lt (kas_descPart n nrem p)).2 (runT lt (kas_descPart n nrem p)).1 := by
  unfold kas_descPart
  rw [runT_bind]
  obtain ⟨a1, a2, a3, a4, a5, a6⟩ := desc_ok O (nrem - (n + 1)) p (n + 1) 0 (by omega) (by omega) hs (fun i j h1 h2 h3 h4 => by
    have : i = j := by omega
    subst this; exact O.irr _)
  generalize hr : runT lt (kas_desc (nrem - (n + 1)) p (n + 1) 0) = r at *
  have hsz : r.1.size = p.size := a1.size_eq
  split
  · rename_i hq
    obtain ⟨b1, b2, b3, b4⟩ := tail3_ok (nrem := nrem) O (by omega) (by omega) (by rw [rev_size, hsz]; exact hz) (non_rev O (by rw [hsz]; omega) a4 a5 a6)
    exact ⟨by omega, b2, b3.trans (rev_perm.trans a1), b4⟩
  · obtain ⟨b1, b2, b3, b4⟩ := tail3_ok (nrem := nrem) O (by omega) (by omega) (by rw [hsz]; exact hz) a5
    exact ⟨by omega, b2, b3.trans a1, b4⟩
theorem count_ok (O : Ord lt) {nrem : Nat} (h1 : 1 ≤ nrem) (hz : nrem ≤ p.size) :
    1 ≤ (runT lt (kas_count nrem p)).1 ∧ (runT lt (kas_count nrem p)).1 ≤ nrem ∧ (runT lt (kas_count nrem p)).2.Perm p ∧ SrtTo lt (runT lt (kas_count nrem p)).2 (runT lt (kas_count nrem p)).1 := by
  unfold kas_count
  rw [runT_bind]
  have h0 : SrtTo lt p 1 := fun i j hij hj => by
    have : i = j := by omega
    subst this; exact O.irr _
  obtain ⟨a, b, c, d⟩ := asc_ok O (nrem - 1) 1 (Nat.le_refl _) h0
  generalize hm : runT lt (kas_asc p (nrem - 1) 1) = m at *
  by_cases he : m = nrem
  · rw [if_pos (by simpa using he)]
    exact ⟨a, by show m ≤ nrem; omega, Array.Perm.refl _, c⟩
  · rw [if_neg (by simpa using he)]
    have hlt : lt (g p m) (g p (m - 1)) = true := d.resolve_left (by omega)
    by_cases hg : m > 1
    · rw [if_pos hg]
      simp only [runT]
      cases hc : lt (p.getD 0 0) (p.getD (m - 1) 0) with
      | true => simp only [if_true, runT]; exact ⟨a, by omega, Array.Perm.refl _, c⟩
      | false =>
        simp only [Bool.false_eq_true, if_false]
        have al : ∀ i j, i < m → j < m → lt (g p i) (g p j) = false := fun i j hi hj =>
          -- j is at most the last, the last at most the first, the first at most i: so i is not before j
          O.tr (O.tr (c j (m - 1) (by omega) (by omega)) hc) (c 0 i (by omega) hi)
        obtain ⟨b1, b2, b3, b4⟩ := descPart_ok (p := kas_rev p 0 m) (n := m) (nrem := nrem) O (by omega) (by rw [rev_size]; exact hz) (fun i j hij hj => by
          rw [g_rev (by omega), g_rev (by omega)]
          by_cases hjm : j < m
          · rw [if_pos (by omega), if_pos (by omega)]; exact al _ _ (by omega) (by omega)
          · have hj' : j = m := by omega
            subst hj'
            by_cases hi : i = j
            · subst hi; rw [if_neg (by omega)]; exact O.irr _
            · rw [if_pos (by omega), if_neg (by omega)]
              -- i stands with the last: m is before it
              exact O.tr (O.asy hlt) (al _ _ (by omega) (by omega)))
        exact ⟨b1, b2, b3.trans rev_perm, b4⟩
    · rw [if_neg hg]
      have hm1 : m = 1 := by omega
      exact descPart_ok O (by omega) hz fun i j hij hj => by
        by_cases hi : i = j
        · subst hi; exact O.irr _
        · have hi0 : i = 0 := by omega
          have hj1 : j = 1 := by omega
          subst hi0; subst hj1
          rw [hm1] at hlt
          exact O.asy hlt
theorem place_ok (O : Ord lt) {k : Nat} (hs : SrtTo lt p k) : ∀ (f l r : Nat), l ≤ r → r ≤ k → r - l ≤ f → (∀ i, i < l → lt (g p k) (g p i) = false) → (∀ i, r ≤ i → i < k → lt (g p k) (g p i) = true) →
    runT lt (kas_place p k f l r) ≤ k ∧ (∀ i, i < runT lt (kas_place p k f l r) → lt (g p k) (g p i) = false) ∧ ∀ i, runT lt (kas_place p k f l r) ≤ i → i < k → lt (g p k) (g p i) = true
  | 0, l, r, h1, h2, h3, hl, hr => by
    have : l = r := by omega
    subst this
    exact ⟨h2, hl, hr⟩
  | f + 1, l, r, h1, h2, h3, hl, hr => by
    unfold kas_place
    by_cases hlr : l ≥ r
    · rw [if_pos hlr]
      have : l = r := by omega
      subst this
      exact ⟨h2, hl, hr⟩
    · rw [if_neg hlr]
      simp only [runT]
      cases hc : lt (p.getD k 0) (p.getD ((l + r) / 2) 0) with
      | true =>
        simp only [if_true]
        refine place_ok O hs f l ((l + r) / 2) (by omega) (by omega) (by omega) hl fun i hi hik => ?_
        cases hx : lt (g p k) (g p i) with
        | true => rfl
        | false =>
          have := O.tr (hs ((l + r) / 2) i hi hik) hx
          rw [show lt (g p k) (g p ((l + r) / 2)) = true from hc] at this; cases this
      | false =>
        simp only [Bool.false_eq_true, if_false]
        exact place_ok O hs f ((l + r) / 2 + 1) r (by omega) h2 (by omega) (fun i hi => O.tr (hs i ((l + r) / 2) (by omega) (by omega)) hc) hr
theorem g_bubble {k d : Nat} (hk : k < p.size) (hd : d ≤ k) (i : Nat) : g (bubble p k d) i = if i = k - d then g p k else if k - d < i ∧ i ≤ k then g p (i - 1) else g p i := by
  have e := getElem?_bubble hk d hd i
  by_cases h : i = k - d
  · rw [if_pos h] at e ⊢; exact g_congr e
  · rw [if_neg h] at e ⊢
    by_cases h2 : k - d < i ∧ i ≤ k
    · rw [if_pos h2] at e ⊢; exact g_congr e
    · rw [if_neg h2] at e ⊢; exact g_congr e
theorem bin_ok (O : Ord lt) : ∀ (f : Nat) (p : Array Nat) (k : Nat), k + f ≤ p.size → SrtTo lt p k → (runT lt (kas_bin f p k)).Perm p ∧ SrtTo lt (runT lt (kas_bin f p k)) (k + f)
  | 0, p, k, h, hs => ⟨Array.Perm.refl _, hs⟩
  | f + 1, p, k, h, hs => by
    unfold kas_bin
    rw [runT_bind]
    obtain ⟨a, b, c⟩ := place_ok O hs k 0 k (Nat.zero_le _) (Nat.le_refl _) (by omega) (fun i hi => absurd hi (Nat.not_lt_zero _)) (fun i h1 h2 => absurd h2 (by omega))
    generalize hl : runT lt (kas_place p k k 0 k) = l at *
    have hs' : SrtTo lt (bubble p k (k - l)) (k + 1) := fun i j hij hj => by
      rw [g_bubble (by omega) (by omega), g_bubble (by omega) (by omega)]
      have hkl : k - (k - l) = l := by omega
      rw [hkl]
      by_cases hj1 : j = l
      · rw [if_pos hj1]
        by_cases hi1 : i = l
        · rw [if_pos hi1]; exact O.irr _
        · rw [if_neg hi1, if_neg (by omega)]; exact b i (by omega)
      · rw [if_neg hj1]
        by_cases hj2 : l < j ∧ j ≤ k
        · rw [if_pos hj2]
          by_cases hi1 : i = l
          · rw [if_pos hi1]; exact O.asy (c (j - 1) (by omega) (by omega))
          · rw [if_neg hi1]
            by_cases hi2 : l < i ∧ i ≤ k
            · rw [if_pos hi2]; exact hs _ _ (by omega) (by omega)
            · rw [if_neg hi2]; exact hs _ _ (by omega) (by omega)
        · rw [if_neg hj2, if_neg (by omega), if_neg (by omega)]
          exact hs _ _ hij (by omega)
    obtain ⟨a1, a2⟩ := bin_ok O f (bubble p k (k - l)) (k + 1) (by rw [bubble_size]; omega) hs'
    exact ⟨a1.trans (bubble_perm _ _ _), by rw [show k + (f + 1) = k + 1 + f by omega]; exact a2⟩
theorem sort_ok (O : Ord lt) {n : Nat} (h1 : 1 ≤ n) : (runT lt (kas_sort n)).Perm (List.toArray (List.range n)) ∧ SrtTo lt (runT lt (kas_sort n)) n := by
  unfold kas_sort
  rw [runT_bind]
  obtain ⟨a, b, c, d⟩ := count_ok (p := List.toArray (List.range n)) O h1 (by simp)
  generalize runT lt (kas_count n (List.toArray (List.range n))) = r at *
  have hsz : r.2.size = n := by rw [c.size_eq]; simp
  split
  · rename_i hr
    obtain ⟨a1, a2⟩ := bin_ok O (n - max r.1 1) r.2 (max r.1 1) (by omega) (by rw [show max r.1 1 = r.1 by omega]; exact d)
    exact ⟨a1.trans c, by rw [show max r.1 1 + (n - max r.1 1) = n by omega] at a2; exact a2⟩
  · rename_i hr
    have : r.1 = n := by omega
    exact ⟨c, by rw [this] at d; exact d⟩
end
end L2
set_option Elab.async false
set_option linter.all false
set_option maxRecDepth 100000
set_option maxHeartbeats 4000000
namespace L2
open PySem PySem.Spec PyProof.Rows
open PySem.W (KasT kas_sort)
mutual
def D.oi : D → Bool
  | .int _ => true
  | .tup ds => ois ds
  | _ => false
def ois : List D → Bool
  | [] => true
  | d :: ds => d.oi && ois ds
end
mutual
def ltT : D → D → Bool
  | .int i, .int j => decide (i < j)
  | .int _, .tup _ => true
  | .tup ds, .tup es => ltTs ds es
  | _, _ => false
def ltTs : List D → List D → Bool
  | [], [] => false
  | [], _ :: _ => true
  | _ :: _, [] => false
  | d :: ds, e :: es => if eqD d e = true then ltTs ds es else ltT d e
end
mutual
def cmpD : D → D → Option Bool
  | .int i, .int j => some (decide (i < j))
  | .tup ds, .tup es => cmpDs ds es
  | _, _ => none
def cmpDs : List D → List D → Option Bool
  | [], [] => some false
  | [], _ :: _ => some true
  | _ :: _, [] => some false
  | d :: ds, e :: es => if eqD d e = true then cmpDs ds es else cmpD d e
end
mutual
theorem cmp_lt : ∀ {d e : D} {b : Bool}, cmpD d e = some b → b = ltT d e
  | .int i, .int j, b, h => by simp only [cmpD, Option.some.injEq] at h; simp only [ltT]; exact h.symm
  | .tup ds, .tup es, b, h => by simp only [cmpD] at h; simp only [ltT]; exact cmps_lt h
  | .non, e, b, h => by simp [cmpD] at h
  | .bl _, e, b, h => by simp [cmpD] at h
  | .str _, e, b, h => by simp [cmpD] at h
  | .lst _, e, b, h => by simp [cmpD] at h
  | .dk _ _, e, b, h => by simp [cmpD] at h
  | .dt _ _, e, b, h => by simp [cmpD] at h
  | .dn _ _, e, b, h => by simp [cmpD] at h
  | .scr _, e, b, h => by simp [cmpD] at h
  | .exc _ _, e, b, h => by simp [cmpD] at h
  | .int _, .non, b, h => by simp [cmpD] at h
  | .int _, .bl _, b, h => by simp [cmpD] at h
  | .int _, .str _, b, h => by simp [cmpD] at h
  | .int _, .lst _, b, h => by simp [cmpD] at h
  | .int _, .tup _, b, h => by simp [cmpD] at h
  | .int _, .dk _ _, b, h => by simp [cmpD] at h
  | .int _, .dt _ _, b, h => by simp [cmpD] at h
  | .int _, .dn _ _, b, h => by simp [cmpD] at h
  | .int _, .scr _, b, h => by simp [cmpD] at h
  | .int _, .exc _ _, b, h => by simp [cmpD] at h
  | .tup _, .non, b, h => by simp [cmpD] at h
  | .tup _, .bl _, b, h => by simp [cmpD] at h
  | .tup _, .int _, b, h => by simp [cmpD] at h
  | .tup _, .str _, b, h => by simp [cmpD] at h
  | .tup _, .lst _, b, h => by simp [cmpD] at h
  | .tup _, .dk _ _, b, h => by simp [cmpD] at h
  | .tup _, .dt _ _, b, h => by simp [cmpD] at h
  | .tup _, .dn _ _, b, h => by simp [cmpD] at h
  | .tup _, .scr _, b, h => by simp [cmpD] at h
  | .tup _, .exc _ _, b, h => by simp [cmpD] at h
theorem cmps_lt : ∀ {ds es : List D} {b : Bool}, cmpDs ds es = some b → b = ltTs ds es
  | [], [], b, h => by simp only [cmpDs, Option.some.injEq] at h; simp only [ltTs]; exact h.symm
  | [], _ :: _, b, h => by simp only [cmpDs, Option.some.injEq] at h; simp only [ltTs]; exact h.symm
  | _ :: _, [], b, h => by simp only [cmpDs, Option.some.injEq] at h; simp only [ltTs]; exact h.symm
  | d :: ds, e :: es, b, h => by
    simp only [cmpDs] at h
    simp only [ltTs]
    split at h
    · rename_i q; rw [if_pos q]; exact cmps_lt h
    · rename_i q; rw [if_neg q]; exact cmp_lt h
end
mutual
theorem oi_eq : ∀ {d e : D}, d.oi = true → eqD d e = true → e.oi = true → d = e
  | .int i, .int j, _, h, _ => by simp only [eqD, beq_iff_eq] at h; rw [h]
  | .tup ds, .tup es, p, h, q => by
    simp only [eqD] at h
    simp only [D.oi] at p q
    rw [ois_eq p h q]
  | .int i, .tup _, _, h, _ => by simp [eqD] at h
  | .tup _, .int _, _, h, _ => by simp [eqD] at h
  | .int _, .non, _, _, q => by simp [D.oi] at q
  | .int _, .bl _, _, _, q => by simp [D.oi] at q
  | .int _, .str _, _, _, q => by simp [D.oi] at q
  | .int _, .lst _, _, _, q => by simp [D.oi] at q
  | .int _, .dk _ _, _, _, q => by simp [D.oi] at q
  | .int _, .dt _ _, _, _, q => by simp [D.oi] at q
  | .int _, .dn _ _, _, _, q => by simp [D.oi] at q
  | .int _, .scr _, _, _, q => by simp [D.oi] at q
  | .int _, .exc _ _, _, _, q => by simp [D.oi] at q
  | .tup _, .non, _, _, q => by simp [D.oi] at q
  | .tup _, .bl _, _, _, q => by simp [D.oi] at q
  | .tup _, .str _, _, _, q => by simp [D.oi] at q
  | .tup _, .lst _, _, _, q => by simp [D.oi] at q
  | .tup _, .dk _ _, _, _, q => by simp [D.oi] at q
  | .tup _, .dt _ _, _, _, q => by simp [D.oi] at q
  | .tup _, .dn _ _, _, _, q => by simp [D.oi] at q
  | .tup _, .scr _, _, _, q => by simp [D.oi] at q
  | .tup _, .exc _ _, _, _, q => by simp [D.oi] at q
  | .non, _, p, _, _ => by simp [D.oi] at p
  | .bl _, _, p, _, _ => by simp [D.oi] at p
  | .str _, _, p, _, _ => by simp [D.oi] at p
  | .lst _, _, p, _, _ => by simp [D.oi] at p
  | .dk _ _, _, p, _, _ => by simp [D.oi] at p
  | .dt _ _, _, p, _, _ => by simp [D.oi] at p
  | .dn _ _, _, p, _, _ => by simp [D.oi] at p
  | .scr _, _, p, _, _ => by simp [D.oi] at p
  | .exc _ _, _, p, _, _ => by simp [D.oi] at p
theorem ois_eq : ∀ {ds es : List D}, ois ds = true → eqDs ds es = true → ois es = true → ds = es
  | [], [], _, _, _ => rfl
  | [], _ :: _, _, h, _ => by simp [eqDs] at h
  | _ :: _, [], _, h, _ => by simp [eqDs] at h
  | d :: ds, e :: es, p, h, q => by
    simp only [eqDs, Bool.and_eq_true] at h
    simp only [ois, Bool.and_eq_true] at p q
    rw [oi_eq p.1 h.1 q.1, ois_eq p.2 h.2 q.2]
end
mutual
theorem oi_refl : ∀ {d : D}, d.oi = true → eqD d d = true
  | .int i, _ => by simp [eqD]
  | .tup ds, p => by simp only [eqD]; exact ois_refl (by simpa only [D.oi] using p)
  | .non, p => by simp [D.oi] at p
  | .bl _, p => by simp [D.oi] at p
  | .str _, p => by simp [D.oi] at p
  | .lst _, p => by simp [D.oi] at p
  | .dk _ _, p => by simp [D.oi] at p
  | .dt _ _, p => by simp [D.oi] at p
  | .dn _ _, p => by simp [D.oi] at p
  | .scr _, p => by simp [D.oi] at p
  | .exc _ _, p => by simp [D.oi] at p
theorem ois_refl : ∀ {ds : List D}, ois ds = true → eqDs ds ds = true
  | [], _ => rfl
  | d :: ds, p => by
    simp only [ois, Bool.and_eq_true] at p
    simp only [eqDs, oi_refl p.1, ois_refl p.2, Bool.and_self]
end
mutual
/-- one of three -/
theorem lt_tri : ∀ {d e : D}, d.oi = true → e.oi = true → ltT d e = false → ltT e d = false → d = e
  | .int i, .int j, _, _, h, h' => by
    simp only [ltT, decide_eq_false_iff_not] at h h'
    have : i = j := by omega
    rw [this]
  | .tup ds, .tup es, p, q, h, h' => by
    simp only [ltT] at h h'
    simp only [D.oi] at p q
    rw [lts_tri p q h h']
  | .int _, .tup _, _, _, h, _ => by simp [ltT] at h
  | .tup _, .int _, _, _, _, h => by simp [ltT] at h
  | .int _, .non, _, q, _, _ => by simp [D.oi] at q
  | .int _, .bl _, _, q, _, _ => by simp [D.oi] at q
  | .int _, .str _, _, q, _, _ => by simp [D.oi] at q
  | .int _, .lst _, _, q, _, _ => by simp [D.oi] at q
  | .int _, .dk _ _, _, q, _, _ => by simp [D.oi] at q
  | .int _, .dt _ _, _, q, _, _ => by simp [D.oi] at q
  | .int _, .dn _ _, _, q, _, _ => by simp [D.oi] at q
  | .int _, .scr _, _, q, _, _ => by simp [D.oi] at q
  | .int _, .exc _ _, _, q, _, _ => by simp [D.oi] at q
  | .tup _, .non, _, q, _, _ => by simp [D.oi] at q
  | .tup _, .bl _, _, q, _, _ => by simp [D.oi] at q
  | .tup _, .str _, _, q, _, _ => by simp [D.oi] at q
  | .tup _, .lst _, _, q, _, _ => by simp [D.oi] at q
  | .tup _, .dk _ _, _, q, _, _ => by simp [D.oi] at q
  | .tup _, .dt _ _, _, q, _, _ => by simp [D.oi] at q
  | .tup _, .dn _ _, _, q, _, _ => by simp [D.oi] at q
  | .tup _, .scr _, _, q, _, _ => by simp [D.oi] at q
  | .tup _, .exc _ _, _, q, _, _ => by simp [D.oi] at q
  | .non, _, p, _, _, _ => by simp [D.oi] at p
  | .bl _, _, p, _, _, _ => by simp [D.oi] at p
  | .str _, _, p, _, _, _ => by simp [D.oi] at p
  | .lst _, _, p, _, _, _ => by simp [D.oi] at p
  | .dk _ _, _, p, _, _, _ => by simp [D.oi] at p
  | .dt _ _, _, p, _, _, _ => by simp [D.oi] at p
  | .dn _ _, _, p, _, _, _ => by simp [D.oi] at p
  | .scr _, _, p, _, _, _ => by simp [D.oi] at p
  | .exc _ _, _, p, _, _, _ => by simp [D.oi] at p
theorem lts_tri : ∀ {ds es : List D}, ois ds = true → ois es = true → ltTs ds es = false → ltTs es ds = false → ds = es
  | [], [], _, _, _, _ => rfl
  | [], _ :: _, _, _, h, _ => by simp [ltTs] at h
  | _ :: _, [], _, _, _, h => by simp [ltTs] at h
  | d :: ds, e :: es, p, q, h, h' => by
    simp only [ois, Bool.and_eq_true] at p q
    simp only [ltTs] at h h'
    by_cases w : eqD d e = true
    · have := oi_eq p.1 w q.1
      subst this
      rw [if_pos w] at h
      rw [if_pos w] at h'
      rw [lts_tri p.2 q.2 h h']
    · have w' : ¬ eqD e d = true := fun z => w (by rw [oi_eq q.1 z p.1]; exact oi_refl p.1)
      rw [if_neg w] at h
      rw [if_neg w'] at h'
      have := lt_tri p.1 q.1 h h'
      subst this
      exact absurd (oi_refl p.1) w
end
mutual
theorem lt_irr : ∀ {d : D}, d.oi = true → ltT d d = false
  | .int i, _ => by simp [ltT]
  | .tup ds, p => by simp only [ltT]; exact lts_irr (by simpa only [D.oi] using p)
  | .non, p => by simp [D.oi] at p
  | .bl _, p => by simp [D.oi] at p
  | .str _, p => by simp [D.oi] at p
  | .lst _, p => by simp [D.oi] at p
  | .dk _ _, p => by simp [D.oi] at p
  | .dt _ _, p => by simp [D.oi] at p
  | .dn _ _, p => by simp [D.oi] at p
  | .scr _, p => by simp [D.oi] at p
  | .exc _ _, p => by simp [D.oi] at p
theorem lts_irr : ∀ {ds : List D}, ois ds = true → ltTs ds ds = false
  | [], _ => rfl
  | d :: ds, p => by
    simp only [ois, Bool.and_eq_true] at p
    simp only [ltTs]
    rw [if_pos (oi_refl p.1)]
    exact lts_irr p.2
end
mutual
theorem lt_tr : ∀ {d e f : D}, d.oi = true → e.oi = true → f.oi = true → ltT d e = true → ltT e f = true → ltT d f = true
  | .int i, .int j, .int k, _, _, _, h, h' => by
    simp only [ltT, decide_eq_true_eq] at h h' ⊢
    omega
  | .int i, .int j, .tup _, _, _, _, h, h' => by simp only [ltT]
  | .int i, .tup _, .tup _, _, _, _, h, h' => by simp only [ltT]
  | .tup ds, .tup es, .tup fs, p, q, r, h, h' => by
    simp only [ltT] at h h' ⊢
    simp only [D.oi] at p q r
    exact lts_tr p q r h h'
  | .int i, .tup _, .int _, _, _, _, h, h' => by simp [ltT] at h'
  | .tup _, .int _, _, _, _, _, h, h' => by simp [ltT] at h
  | .tup _, .tup _, .int _, _, _, _, h, h' => by simp [ltT] at h'
  | .non, _, _, p, _, _, _, _ => by simp [D.oi] at p
  | .bl _, _, _, p, _, _, _, _ => by simp [D.oi] at p
  | .str _, _, _, p, _, _, _, _ => by simp [D.oi] at p
  | .lst _, _, _, p, _, _, _, _ => by simp [D.oi] at p
  | .dk _ _, _, _, p, _, _, _, _ => by simp [D.oi] at p
  | .dt _ _, _, _, p, _, _, _, _ => by simp [D.oi] at p
  | .dn _ _, _, _, p, _, _, _, _ => by simp [D.oi] at p
  | .scr _, _, _, p, _, _, _, _ => by simp [D.oi] at p
  | .exc _ _, _, _, p, _, _, _, _ => by simp [D.oi] at p
  | _, .non, _, _, p, _, _, _ => by simp [D.oi] at p
  | _, .bl _, _, _, p, _, _, _ => by simp [D.oi] at p
  | _, .str _, _, _, p, _, _, _ => by simp [D.oi] at p
  | _, .lst _, _, _, p, _, _, _ => by simp [D.oi] at p
  | _, .dk _ _, _, _, p, _, _, _ => by simp [D.oi] at p
  | _, .dt _ _, _, _, p, _, _, _ => by simp [D.oi] at p
  | _, .dn _ _, _, _, p, _, _, _ => by simp [D.oi] at p
  | _, .scr _, _, _, p, _, _, _ => by simp [D.oi] at p
  | _, .exc _ _, _, _, p, _, _, _ => by simp [D.oi] at p
  | _, _, .non, _, _, p, _, _ => by simp [D.oi] at p
  | _, _, .bl _, _, _, p, _, _ => by simp [D.oi] at p
  | _, _, .str _, _, _, p, _, _ => by simp [D.oi] at p
  | _, _, .lst _, _, _, p, _, _ => by simp [D.oi] at p
  | _, _, .dk _ _, _, _, p, _, _ => by simp [D.oi] at p
  | _, _, .dt _ _, _, _, p, _, _ => by simp [D.oi] at p
  | _, _, .dn _ _, _, _, p, _, _ => by simp [D.oi] at p
  | _, _, .scr _, _, _, p, _, _ => by simp [D.oi] at p
  | _, _, .exc _ _, _, _, p, _, _ => by simp [D.oi] at p
theorem lts_tr : ∀ {ds es fs : List D}, ois ds = true → ois es = true → ois fs = true → ltTs ds es = true → ltTs es fs = true → ltTs ds fs = true
  | [], _, _ :: _, _, _, _, _, _ => by simp only [ltTs]
  | _, [], [], _, _, _, _, h => by simp [ltTs] at h
  | _ :: _, [], _, _, _, _, h, _ => by simp [ltTs] at h
  | _, _ :: _, [], _, _, _, _, h => by simp [ltTs] at h
  | d :: ds, e :: es, f :: fs, p, q, r, h, h' => by
    simp only [ois, Bool.and_eq_true] at p q r
    simp only [ltTs] at h h' ⊢
    by_cases w : eqD d e = true
    · have := oi_eq p.1 w q.1
      subst this
      rw [if_pos w] at h
      by_cases w2 : eqD d f = true
      · rw [if_pos w2] at h' ⊢; exact lts_tr p.2 q.2 r.2 h h'
      · rw [if_neg w2] at h' ⊢; exact h'
    · rw [if_neg w] at h
      by_cases w2 : eqD e f = true
      · have := oi_eq q.1 w2 r.1
        subst this
        rw [if_neg w]; exact h
      · rw [if_neg w2] at h'
        have h3 := lt_tr p.1 q.1 r.1 h h'
        by_cases w3 : eqD d f = true
        · have := oi_eq p.1 w3 r.1
          subst this
          rw [lt_irr p.1] at h3; cases h3
        · rw [if_neg w3]; exact h3
end
theorem ois_get : ∀ {ds : List D} {i : Nat}, ois ds = true → (ds.getD i (.int 0)).oi = true
  | [], i, _ => by simp [D.oi]
  | d :: ds, 0, h => by simp only [ois, Bool.and_eq_true] at h; simpa using h.1
  | d :: ds, i + 1, h => by
    simp only [ois, Bool.and_eq_true] at h
    simpa using ois_get (i := i) h.2
def ltI (ds : List D) (i j : Nat) : Bool := ltT (ds.getD i (.int 0)) (ds.getD j (.int 0))
theorem ltI_ord {ds : List D} (h : ois ds = true) : Ord (ltI ds) := by
  refine ⟨fun a => lt_irr (ois_get h), fun {a b c} h1 h2 => ?_, fun {a b} h1 => ?_⟩
  · unfold ltI at h1 h2 ⊢
    cases hx : ltT (ds.getD c (.int 0)) (ds.getD a (.int 0)) with
    | false => rfl
    | true =>
      -- c before a; a not behind b, so a before b or alike
      cases hy : ltT (ds.getD a (.int 0)) (ds.getD b (.int 0)) with
      | true => rw [lt_tr (ois_get h) (ois_get h) (ois_get h) hx hy] at h2; cases h2
      | false =>
        rw [lt_tri (ois_get h) (ois_get h) hy h1] at hx
        rw [hx] at h2; cases h2
  · unfold ltI at h1 ⊢
    cases hx : ltT (ds.getD b (.int 0)) (ds.getD a (.int 0)) with
    | false => rfl
    | true =>
      have := lt_tr (ois_get h) (ois_get h) (ois_get h) h1 hx
      rw [lt_irr (ois_get h)] at this; cases this
def insT (d : D) : List D → List D
  | [] => [d]
  | e :: r => if ltT e d = true then e :: insT d r else d :: e :: r
def sortT : List D → List D
  | [] => []
  | d :: r => insT d (sortT r)
theorem insT_perm (d : D) : ∀ l : List D, (insT d l).Perm (d :: l)
  | [] => .refl _
  | e :: r => by
    unfold insT
    split
    · exact ((insT_perm d r).cons e).trans (.swap d e r)
    · exact .refl _
theorem sortT_perm : ∀ l : List D, (sortT l).Perm l
  | [] => .refl _
  | d :: r => (insT_perm d (sortT r)).trans ((sortT_perm r).cons d)
theorem ois_mem : ∀ {ds : List D}, ois ds = true ↔ ∀ d ∈ ds, d.oi = true
  | [] => by simp [ois]
  | d :: ds => by simp [ois, ois_mem (ds := ds)]
def Srt (l : List D) : Prop := l.Pairwise fun a b => ltT b a = false
theorem insT_srt {d : D} : ∀ {l : List D}, d.oi = true → ois l = true → Srt l → Srt (insT d l)
  | [], _, _, _ => by simp [insT, Srt]
  | e :: r, hd, hl, hs => by
    simp only [ois, Bool.and_eq_true] at hl
    obtain ⟨h1, h2⟩ := List.pairwise_cons.mp hs
    unfold insT
    split
    · rename_i hlt
      refine List.pairwise_cons.mpr ⟨fun x hx => ?_, insT_srt hd hl.2 h2⟩
      rcases List.mem_cons.mp ((insT_perm d r).mem_iff.mp hx) with rfl | hx
      · cases hq : ltT x e with
        | false => rfl
        | true =>
          have := lt_tr hl.1 hd hl.1 hlt hq
          rw [lt_irr hl.1] at this; cases this
      · exact h1 x hx
    · rename_i hlt
      have hlt : ltT e d = false := by simpa using hlt
      refine List.pairwise_cons.mpr ⟨fun x hx => ?_, hs⟩
      rcases List.mem_cons.mp hx with rfl | hx
      · exact hlt
      · have hxo := (ois_mem.mp hl.2) x hx
        cases hq : ltT x d with
        | false => rfl
        | true =>
          -- x before d, d not behind e, e not behind x
          have h3 := h1 x hx
          cases hy : ltT d e with
          | true => rw [lt_tr hxo hd hl.1 hq hy] at h3; cases h3
          | false =>
            rw [lt_tri hd hl.1 hy hlt] at hq
            rw [hq] at h3; cases h3
theorem ois_perm {l l' : List D} (p : l.Perm l') (h : ois l' = true) : ois l = true := ois_mem.mpr fun d hd => (ois_mem.mp h) d (p.mem_iff.mp hd)
theorem sortT_srt : ∀ {l : List D}, ois l = true → Srt (sortT l)
  | [], _ => .nil
  | d :: r, h => by
    simp only [ois, Bool.and_eq_true] at h
    exact insT_srt h.1 (ois_perm (sortT_perm r) h.2) (sortT_srt h.2)
theorem srt_same : ∀ {l l' : List D}, ois l = true → l.Perm l' → Srt l → Srt l' → l = l'
  | [], l', _, p, _, _ => by rw [p.nil_eq]
  | a :: r, [], _, p, _, _ => by have := p.length_eq; simp at this
  | a :: r, b :: r', h, p, s, s' => by
    have h' := h
    simp only [ois, Bool.and_eq_true] at h
    obtain ⟨h1, h2⟩ := List.pairwise_cons.mp s
    obtain ⟨h3, h4⟩ := List.pairwise_cons.mp s'
    have hb : b ∈ a :: r := p.mem_iff.mpr List.mem_cons_self
    have ha : a ∈ b :: r' := p.mem_iff.mp List.mem_cons_self
    have hbo := (ois_mem.mp h') b hb
    have e : a = b := by
      rcases List.mem_cons.mp hb with z | z
      · exact z.symm
      · rcases List.mem_cons.mp ha with w | w
        · exact w
        · exact lt_tri h.1 hbo (h3 a w) (h1 b z)
    subst e
    rw [srt_same h.2 (List.perm_cons a |>.mp p) h2 h4]
theorem tree_sorts {ds : List D} (h : ois ds = true) (h1 : 1 ≤ ds.length) : (runT (ltI ds) (kas_sort ds.length)).toList.map (fun i => ds.getD i (.int 0)) = sortT ds := by
  obtain ⟨p, s⟩ := sort_ok (ltI_ord h) h1
  generalize runT (ltI ds) (kas_sort ds.length) = a at *
  have hsz : a.size = ds.length := by rw [p.size_eq]; simp
  have pl : a.toList.Perm (List.range ds.length) := by
    have := p.toList
    simpa using this
  have pm : (a.toList.map fun i => ds.getD i (.int 0)).Perm ds := by
    refine (pl.map _).trans ?_
    rw [show (List.range ds.length).map (fun i => ds.getD i (.int 0)) = ds from ?_]
    apply List.ext_getElem?
    intro i
    rw [List.getElem?_map]
    by_cases hi : i < ds.length
    · rw [List.getElem?_range hi]
      simp [hi]
    · rw [List.getElem?_eq_none (by simpa using hi), List.getElem?_eq_none (by simpa using hi)]; rfl
  refine srt_same (ois_perm pm h) (pm.trans (sortT_perm ds).symm) ?_ (sortT_srt h)
  refine List.pairwise_iff_getElem.mpr fun i j hi hj hij => ?_
  simp only [List.length_map, Array.length_toList] at hi hj
  have := s i j (Nat.le_of_lt hij) (by omega)
  unfold ltI g at this
  rw [Array.getD_eq_getD_getElem?, Array.getD_eq_getD_getElem?, Array.getElem?_eq_getElem hi, Array.getElem?_eq_getElem hj] at this
  simpa using this
end L2
set_option Elab.async false
set_option linter.all false
set_option maxRecDepth 100000
set_option maxHeartbeats 4000000
namespace L2
open PySem PySem.Spec PyProof.Rows
open PySem.W (KasT kas_sort kas_rev kas_asc kas_desc kas_tail3 kas_descPart kas_count kas_place kas_bin)
def InP {α : Type} (n : Nat) (P : α → Prop) : KasT α → Prop
  | .ret a => P a
  | .ask i j k => i < n ∧ j < n ∧ ∀ b, InP n P (k b)
theorem InP.bind {α β : Type} {n : Nat} {P : α → Prop} {P' : β → Prop} {f : α → KasT β} : ∀ {t : KasT α}, InP n P t → (∀ a, P a → InP n P' (f a)) → InP n P' (t.bind f)
  | .ret a, h, hf => hf a h
  | .ask i j k, h, hf => ⟨h.1, h.2.1, fun b => InP.bind (h.2.2 b) hf⟩
def Al (n : Nat) (p : Array Nat) : Prop := ∀ i, p.getD i 0 < n
theorem Al.perm {n : Nat} {p q : Array Nat} (h0 : 0 < n) (h : q.Perm p) (a : Al n p) : Al n q := fun i => by
  by_cases hi : i < q.size
  · have hm : q[i] ∈ p.toList := h.toList.mem_iff.mp (by simp)
    obtain ⟨j, hj, e⟩ := List.mem_iff_getElem.mp hm
    have := a j
    rw [Array.getD_eq_getD_getElem?, Array.getElem?_eq_getElem (by simpa using hj)] at this
    rw [Array.getD_eq_getD_getElem?, Array.getElem?_eq_getElem hi]
    simp only [Option.getD_some] at this ⊢
    rw [← e]
    simpa using this
  · rw [Array.getD_eq_getD_getElem?, Array.getElem?_eq_none (by omega)]; exact h0
section
variable {n : Nat} {p : Array Nat}
theorem in_asc (a : Al n p) : ∀ f k, InP n (fun _ => True) (kas_asc p f k)
  | 0, k => trivial
  | f + 1, k => ⟨a _, a _, fun b => by cases b <;> first | exact trivial | exact in_asc a f (k + 1)⟩
theorem in_desc (h0 : 0 < n) : ∀ (f : Nat) (p : Array Nat) (k q : Nat), Al n p → InP n (fun r => Al n r.1) (kas_desc f p k q)
  | 0, p, k, q, a => a
  | f + 1, p, k, q, a => by
    refine ⟨a _, a _, fun b => ?_⟩
    cases b with
    | true =>
      dsimp only
      rw [if_pos rfl]
      split
      · exact in_desc h0 f _ _ _ (a.perm h0 rev_perm)
      · exact in_desc h0 f _ _ _ a
    | false =>
      dsimp only
      rw [if_neg Bool.false_ne_true]
      refine ⟨a _, a _, fun c => ?_⟩
      cases c with
      | true => exact a
      | false => exact in_desc h0 f _ _ _ a
theorem in_tail3 (h0 : 0 < n) (a : Al n p) (k m : Nat) : InP n (fun r => Al n r.2) (kas_tail3 k m p) :=
  InP.bind (in_asc (a.perm h0 rev_perm) _ _) fun _ _ => a.perm h0 rev_perm
theorem in_descPart (h0 : 0 < n) (a : Al n p) (k m : Nat) : InP n (fun r => Al n r.2) (kas_descPart k m p) :=
  InP.bind (in_desc h0 _ _ _ _ a) fun r hr => by
    split
    · exact in_tail3 h0 (hr.perm h0 rev_perm) _ _
    · exact in_tail3 h0 hr _ _
theorem in_count (h0 : 0 < n) (a : Al n p) (m : Nat) : InP n (fun r => Al n r.2) (kas_count m p) :=
  InP.bind (in_asc a _ _) fun k _ => by
    split
    · exact a
    · split
      · refine ⟨a _, a _, fun b => ?_⟩
        cases b with
        | true => exact a
        | false => exact in_descPart h0 (a.perm h0 rev_perm) _ _
      · exact in_descPart h0 a _ _
theorem in_place (a : Al n p) (k : Nat) : ∀ f l r, InP n (fun _ => True) (kas_place p k f l r)
  | 0, l, r => trivial
  | f + 1, l, r => by
    unfold kas_place
    split
    · exact trivial
    · refine ⟨a _, a _, fun b => ?_⟩
      cases b with
      | true => exact in_place a k f _ _
      | false => exact in_place a k f _ _
theorem in_bin (h0 : 0 < n) : ∀ (f : Nat) (p : Array Nat) (k : Nat), Al n p → InP n (Al n) (kas_bin f p k)
  | 0, p, k, a => a
  | f + 1, p, k, a => InP.bind (in_place a k _ _ _) fun l _ => in_bin h0 f _ _ (a.perm h0 (bubble_perm _ _ _))
theorem in_sort (h0 : 0 < n) : InP n (Al n) (kas_sort n) := by
  have a : Al n (List.toArray (List.range n)) := fun i => by
    rw [Array.getD_eq_getD_getElem?]
    by_cases hi : i < n
    · simp [hi]
    · rw [Array.getElem?_eq_none (by simpa using hi)]; exact h0
  exact InP.bind (in_count h0 a _) fun r hr => by
    split
    · exact in_bin h0 _ _ _ hr
    · exact hr
end
theorem kas_go {α : Type} {n : Nat} {P : α → Prop} {lt : Nat → Nat → Bool} {cmp : Nat → Nat → (Bool → Shared → Prop) → Shared → Prop} {Q : α → Shared → Prop} {s : Shared} (hc : ∀ i j C, i < n → j < n → C (lt i j) s → cmp i j C s) :
    ∀ {t : KasT α}, InP n P t → Q (runT lt t) s → t.kasWp cmp Q s
  | .ret a, _, q => q
  | .ask i j k, h, q => hc i j _ h.1 h.2.1 (kas_go hc (h.2.2 _) q)
def RcLt (A : Around) (s : Shared) (x y : Value) (b : Bool) : Prop := ∀ (prog : Program) (w : World) (E : Value → Shared → Prop) (Q : Value → Shared → Prop), Q (.bool b) s → wpAny (model prog w) A (richCompare .Lt x y) Q E s
inductive LexR (A : Around) (s : Shared) : List Value → List Value → Bool → Prop
  | nn : LexR A s [] [] false
  | nc {w ws} : LexR A s [] (w :: ws) true
  | cn {v vs} : LexR A s (v :: vs) [] false
  | eq {v w vs ws b} (h : SeqAt.EqAt A s v w true) (r : LexR A s vs ws b) : LexR A s (v :: vs) (w :: ws) b
  | lt {v w vs ws b} (h : SeqAt.EqAt A s v w false) (r : RcLt A s v w b) : LexR A s (v :: vs) (w :: ws) b
section
open PySem.SeqAt
open PySem.AutoSeq1 (wpAny_loadPart')
open PySem.MeetsSeq PySem.MeetsSeq2 PySem.MeetsSeq3
theorem tuple_lt_R (l b : Addr) (items items2 : Array Value) (n n2 : Nat) (dd dd2 : Option Addr) (sl sl2 : Array (Option Value)) (r : Bool) :
    Meets (Builtin.«tuple.__lt__» ⟨[.ref l, .ref b], []⟩)
      (fun A R s => s.heap.get? l = some { cls := .type "tuple", dict := dd, data := .seq items n, slots := sl } ∧ s.heap.get? b = some { cls := .type "tuple", dict := dd2, data := .seq items2 n2, slots := sl2 } ∧
        LexR A.in1 s items.toList items2.toList r ∧ R (.ok (.ret (.bool r))) s) :=
  .of_wp fun prog w A R s h => by
    obtain ⟨hp, g, d, tk, os⟩ := s; obtain ⟨hl, hb, hL, h⟩ := h
    have f2 := AutoSeq1.sub_tuple_tuple
    wp_walk using wpAny_loadPart' hl, wpAny_loadPart' hb, wpAny_forIn_list _ (fun rest b s' => b.1 = none ∧ s' = ⟨hp, g, d, tk, os⟩ ∧ ∃ (vs ws : List Value) (r' : Bool), rest = vs.zip ws ∧
      LexR A.in1 ⟨hp, g, d, tk, os⟩ vs ws r' ∧ vs.length + items2.size = ws.length + items.size ∧ R (.ok (.ret (.bool r'))) ⟨hp, g, d, tk, os⟩) _
    case turn =>
      rintro ⟨y, x⟩ rest b s' ⟨hb', rfl, vs, ws, r', hz, hL', hlen, hR⟩
      cases hL' with
      | nn => rw [List.zip_nil_left] at hz; cases hz
      | nc => rw [List.zip_nil_left] at hz; cases hz
      | cn => rw [List.zip_nil_right] at hz; cases hz
      | eq he hr =>
        rw [List.zip_cons_cons] at hz
        injection hz with hyx hrest
        injection hyx with hy hx
        subst hy hx
        simp only [List.length_cons] at hlen
        refine wpAny_bind (he prog w _ _ ?_)
        wp_walk
        exact ⟨rfl, rfl, _, _, _, hrest, hr, by omega, hR⟩
      | lt he hr =>
        rw [List.zip_cons_cons] at hz
        injection hz with hyx hrest
        injection hyx with hy hx
        subst hy hx
        refine wpAny_bind (he prog w _ _ ?_)
        have hri := hr prog w
        wp_walk using hri
        exact ⟨_, rfl, by simpa using hR⟩
    case fin =>
      rintro ⟨b1, b2⟩ s' ⟨hb', rfl, vs, ws, r', hz, hL', hlen, hR⟩
      simp only at hb'
      subst hb'
      have hv : r' = decide (items.size < items2.size) := by
        cases hL' with
        | nn => simp only [List.length_nil] at hlen; exact (decide_eq_false (by omega)).symm
        | nc => simp only [List.length_nil, List.length_cons] at hlen; exact (decide_eq_true (by omega)).symm
        | cn => simp only [List.length_nil, List.length_cons] at hlen; exact (decide_eq_false (by omega)).symm
        | eq _ _ => rw [List.zip_cons_cons] at hz; cases hz
        | lt _ _ => rw [List.zip_cons_cons] at hz; cases hz
      rw [hv] at hR
      wp_walk
      exact ⟨_, rfl, by simpa [Builtin.Tuple.tupleCompareSizes] using hR⟩
    case h => exact ⟨rfl, rfl, items.toList, items2.toList, r, rfl, hL, by simp; omega, h⟩
theorem RcLt.tuples {A : Around} {s : Shared} {l b : Addr} {items items2 : Array Value} {r : Bool} (hl : s.heap.IsTuple l items) (hb : s.heap.IsTuple b items2) (hL : LexR A.in1 s items.toList items2.toList r) (hu : A.units < cLine) : RcLt A s (.ref l) (.ref b) r := fun prog w E Q h => by
  obtain ⟨⟨cls, dd, data, sl⟩, ho, hc, n, hd⟩ := id hl
  obtain ⟨⟨cls2, dd2, data2, sl2⟩, ho2, hc2, n2, hd2⟩ := id hb
  simp only at hc hd hc2 hd2
  subst hc hd hc2 hd2
  exact richCompare_meets_room (op := .Lt) ⟨_, ho, rfl⟩ ⟨_, ho2, rfl⟩ PySem.F.slot_tuple_lt PySem.F.entry_tuple_lt (PySem.F.args_tuple_lt_2 _ _) (tuple_lt_R l b items items2 n n2 dd dd2 sl sl2 r)
    ⟨ho, ho2, hL, show Value.bool r ≠ Value.notImplemented ∧ Q (.bool r) s from ⟨(fun x => nomatch x), h⟩⟩ hu
end
mutual
theorem oi_pl : ∀ {d : D}, d.oi = true → d.pl = true
  | .int _, _ => rfl
  | .tup ds, h => by simp only [D.pl]; exact ois_pl (by simpa only [D.oi] using h)
  | .non, p => by simp [D.oi] at p
  | .bl _, p => by simp [D.oi] at p
  | .str _, p => by simp [D.oi] at p
  | .lst _, p => by simp [D.oi] at p
  | .dk _ _, p => by simp [D.oi] at p
  | .dt _ _, p => by simp [D.oi] at p
  | .dn _ _, p => by simp [D.oi] at p
  | .scr _, p => by simp [D.oi] at p
  | .exc _ _, p => by simp [D.oi] at p
theorem ois_pl : ∀ {ds : List D}, ois ds = true → pls ds = true
  | [], _ => rfl
  | d :: ds, h => by
    simp only [ois, Bool.and_eq_true] at h
    simp only [pls, oi_pl h.1, ois_pl h.2, Bool.and_self]
end
section
variable {X : Cx} {pins : List (Addr × Obj)} {σ : St} {H : Hp} {s : Shared}
theorem lexR_D (I : Inv X pins σ H s) {A : Around} {n : Nat} (hu : A.units + n < cLine) (lt : ∀ {d e : D} {x y : V} {u v : Value} {b : Bool}, d.oi = true → e.oi = true → d.dep ≤ n → RD X.K H d x → RD X.K H e y → RelV x u → RelV y v → cmpD d e = some b → RcLt A s u v b) :
    ∀ {ds es : List D} {xs ys : List V} {us vs : List Value} {b : Bool}, ois ds = true → ois es = true → deps ds ≤ n → RDs X.K H ds xs → RDs X.K H es ys → Vals xs us → Vals ys vs → cmpDs ds es = some b → LexR A s us vs b
  | [], [], _, _, _, _, b, _, _, _, r1, r2, q1, q2, h => by
    simp only [RDs] at r1 r2; subst r1; subst r2
    cases q1; cases q2
    simp only [cmpDs, Option.some.injEq] at h; subst h
    exact .nn
  | [], e :: es, _, _, _, _, b, _, _, _, r1, r2, q1, q2, h => by
    simp only [RDs] at r1 r2; subst r1
    obtain ⟨y, ys, rfl, _, _⟩ := r2
    cases q1; cases q2
    simp only [cmpDs, Option.some.injEq] at h; subst h
    exact .nc
  | d :: ds, [], _, _, _, _, b, _, _, _, r1, r2, q1, q2, h => by
    simp only [RDs] at r1 r2; subst r2
    obtain ⟨y, ys, rfl, _, _⟩ := r1
    cases q1; cases q2
    simp only [cmpDs, Option.some.injEq] at h; subst h
    exact .cn
  | d :: ds, e :: es, _, _, _, _, b, p1, p2, hd, r1, r2, q1, q2, h => by
    simp only [RDs] at r1 r2
    obtain ⟨x, xs, rfl, rx, rxs⟩ := r1
    obtain ⟨y, ys, rfl, ry, rys⟩ := r2
    simp only [ois, Bool.and_eq_true] at p1 p2
    simp only [deps] at hd
    cases q1 with
    | cons a1 a2 =>
      cases q2 with
      | cons b1 b2 =>
        have eq := eqAt_D (A := A) I n (oi_pl p1.1) (oi_pl p2.1) (by omega) hu rx ry a1 b1
        simp only [cmpDs] at h
        split at h
        · rename_i w
          rw [w] at eq
          exact .eq eq (lexR_D I hu lt p1.2 p2.2 (by omega) rxs rys a2 b2 h)
        · rename_i w
          rw [show eqD d e = false by simpa using w] at eq
          exact .lt eq (lt p1.1 p2.1 (by omega) rx ry a1 b1 h)
theorem cmp_cases {d e : D} {b : Bool} (h : cmpD d e = some b) : (∃ i j, d = .int i ∧ e = .int j ∧ b = decide (i < j)) ∨ ∃ ds es, d = .tup ds ∧ e = .tup es ∧ cmpDs ds es = some b := by
  cases d with
  | int i => cases e with
    | int j => exact .inl ⟨_, _, rfl, rfl, (Option.some.inj h).symm⟩
    | _ => exact nomatch h
  | tup ds => cases e with
    | tup es => exact .inr ⟨_, _, rfl, rfl, h⟩
    | _ => exact nomatch h
  | _ => exact nomatch h
theorem rcLt_D (I : Inv X pins σ H s) : ∀ (n : Nat) {A : Around} {d e : D} {x y : V} {u v : Value} {b : Bool}, A.units + n < cLine → d.oi = true → e.oi = true → d.dep ≤ n → RD X.K H d x → RD X.K H e y → RelV x u → RelV y v → cmpD d e = some b → RcLt A s u v b := by
  intro n
  induction n with
  | zero =>
    intro A d e x y u v b hu p1 p2 hd rx ry ru rv h
    rcases cmp_cases h with ⟨i, j, rfl, rfl, rfl⟩ | ⟨ds, es, rfl, rfl, h⟩
    · cases rx.int; cases ry.int
      obtain ⟨t, rfl⟩ := ru; obtain ⟨t', rfl⟩ := rv
      exact fun prog w E Q q => HT.rcLt_int A s _ _ _ _ prog w E Q q
    · simp only [D.dep] at hd; omega
  | succ n ih =>
    intro A d e x y u v b hu p1 p2 hd rx ry ru rv h
    rcases cmp_cases h with ⟨i, j, rfl, rfl, rfl⟩ | ⟨ds, es, rfl, rfl, h⟩
    · cases rx.int; cases ry.int
      obtain ⟨t, rfl⟩ := ru; obtain ⟨t', rfl⟩ := rv
      exact fun prog w E Q q => HT.rcLt_int A s _ _ _ _ prog w E Q q
    · obtain ⟨a, xs, rfl, ha, ra⟩ := rx.tup
      obtain ⟨c, ys, rfl, hc, rc⟩ := ry.tup
      cases ru; cases rv
      obtain ⟨its, r1, t1⟩ := I.tupA ha
      obtain ⟨its2, r2, t2⟩ := I.tupA hc
      simp only [D.dep] at hd
      simp only [D.oi] at p1 p2
      have hu1 : A.in1.units + n < cLine := by show A.units + 1 + n < cLine; omega
      exact RcLt.tuples t1 t2 (lexR_D I hu1 (fun {d e x y u v b} q1 q2 q3 q4 q5 q6 q7 q8 => ih hu1 q1 q2 q3 q4 q5 q6 q7 q8) p1 p2 (by omega) ra rc r1 r2 h) (by omega)
end
end L2
set_option Elab.async false
set_option linter.all false
set_option maxRecDepth 100000
set_option maxHeartbeats 4000000
namespace L2
open PySem PySem.Spec PyProof.Rows
section
variable {prog : Program} {w : World} {A : Around} {E : Value → Shared → Prop} {s : Shared}
theorem sort_short {a : Addr} {vs : List Value} {n : Nat} {P : PySem.Fin → Shared → Prop} (ho : s.heap.get? a = some (seqObj "list" vs.toArray n)) (hs : vs.length < 2)
    (h : P (.done (.ret .none)) { s with heap := sortedHeap s.heap a vs ((pairsOf vs).map (·.2)) }) : wpAny (model prog w) A (Builtin.«list.sort» ⟨[.ref a], []⟩) P E s := by
  rw [list_sort_plain]
  have ha : a < s.heap.objs.size := Heap.lt_size ho
  refine wpAny_bind (listItems_at ho rfl ?_)
  refine wpAny_bind (listUpdate_at ho rfl ?_)
  obtain ⟨e1, ho1⟩ : ∃ e1, (s.heap.update a (Obj.mapSeq fun _ => #[])).get? a = some (seqObj "list" #[] e1) := ⟨_, get?_update_seq ho (fun _ => #[])⟩
  refine wpAny_bind (seqEpoch_at ho1 rfl ?_)
  refine wpAny_bind (wpAny_newTuple ?_)
  refine wpAny_bind (wpAny_newList ?_)
  refine wpAny_holding ?_
  have ho6 : (((s.heap.update a (Obj.mapSeq fun _ => #[])).push (seqObj "tuple" vs.toArray 0)).push (seqObj "list" #[] 0)).get? a = some (seqObj "list" #[] e1) := by
    rw [Heap.get?_push_ne _ _ _ (by rw [size_push', Heap.size_update]; exact Nat.ne_of_lt (Nat.lt_succ_of_lt ha)), Heap.get?_push_ne _ _ _ (by rw [Heap.size_update]; exact Nat.ne_of_lt ha)]
    exact ho1
  show wpAny (model prog w) A _ P E { s with heap := ((s.heap.update a (Obj.mapSeq fun _ => #[])).push (seqObj "tuple" vs.toArray 0)).push (seqObj "list" #[] 0) }
  dsimp only
  have hsz : vs.toArray.size = vs.length := by simp
  have h2 : vs.toArray.size < 2 := by rw [hsz]; exact hs
  rw [if_pos h2, if_pos h2]
  refine wpAny_bind (wpAny_pure ?_)
  rw [StateT.run_pure]
  refine wpAny_bind (wpAny_pure ?_)
  dsimp only
  refine wpAny_bind (seqEpoch_at ho6 rfl ?_)
  refine wpAny_bind (listUpdate_at ho6 rfl ?_ (hsz2 := by rw [Array.size_map]; show (pairsOf vs).size ≤ _; rw [pairsOf_size, sizeLine_eq]; omega))
  simp only [bne_self_eq_false, Bool.false_eq_true, if_false]
  exact wpAny_pure h
theorem sorted_short {l : Addr} {vs : List Value} {Q : Value → Shared → Prop} (hl : s.heap.IsList l vs.toArray) (hs : vs.length < 2)
    (h : Q (.ref (s.heap.objs.size + 1)) { s with heap := sortedAll s.heap vs ((pairsOf vs).map (·.2)) }) : wpAny (model prog w) A (call (.builtin "sorted") [.ref l]) Q E s := by
  refine Calls.call_function_entry kind_sorted plain_sorted entry_sorted (args_sorted1 _) ?_
  unfold Builtin.«sorted»
  refine wpAny_bind (m := checkCount "sorted" 1 1 _) (wpAny_pure ?_)
  refine wpAny_bind (collect_list hl ?_ (by rw [sizeLine_eq]; omega))
  refine wpAny_bind (wpAny_newList ?_ (by rw [sizeLine_eq]; omega))
  have hsz : ((s.heap.push (seqObj "list" #[] 0)).update s.heap.objs.size (Obj.mapSeq (· ++ vs.toArray))).objs.size = s.heap.objs.size + 1 := by
    rw [Heap.size_update, size_push']
  have hoL : (((s.heap.push (seqObj "list" #[] 0)).update s.heap.objs.size (Obj.mapSeq (· ++ vs.toArray))).push (seqObj "list" vs.toArray 0)).get? (s.heap.objs.size + 1) = some (seqObj "list" vs.toArray 0) := by
    rw [← hsz]; exact Heap.get?_push_size _ rfl
  show wpAny _ _ _ _ _ { s with heap := ((s.heap.push (seqObj "list" #[] 0)).update s.heap.objs.size (Obj.mapSeq (· ++ vs.toArray))).push (seqObj "list" vs.toArray 0) }
  rw [hsz]
  refine wpAny_bind (wpAny_holding (wpAny_call_entry slot_list_sort ⟨_, hoL, rfl⟩ entry_list_sort (sort_short hoL hs ⟨_, rfl, ?_⟩) (args_list_sort _)))
  exact wpAny_pure ⟨_, rfl, h⟩
end
def isI : D → Bool
  | .int _ => true
  | _ => false
def fstI : D → Bool
  | .tup (.int _ :: _) => true
  | _ => false
def fstT : D → Bool
  | .tup (.tup _ :: _) => true
  | _ => false
def sortOk (ds : List D) : Bool := decide (ds.length < 64) && ois ds && decide (deps ds ≤ 20) && ds.all (fun d => ds.all fun e => (cmpD d e).isSome) && (ds.all isI || ds.all fstI || ds.all fstT)
def dSorted : List D → Option D
  | [.lst ds] => if sortOk ds = true then some (.lst (sortT ds)) else none
  | _ => none
def rSorted (K : PySem.W.Frag) : List V → Hp → VK → Prop := fun xs H Q => ∃ p ys ds, xs = [.ref p] ∧ H p = some (.lst ys) ∧ RDs K H ds ys ∧ sortOk ds = true ∧ (∀ (l : Addr) (is : List Nat), H l = none → (∀ i ∈ is, i < ys.length) → sortT ds = is.map (fun i => ds.getD i (.int 0)) → Q (.ref l) (upd H l (.lst (is.map fun i => ys.getD i .non)))) ∧ ∀ (l : Addr) (ns : List Int), H l = none → sortT ds = ns.map D.int → Q (.ref l) (upd H l (.lst (ns.map V.int)))
theorem RDs.pick {K : PySem.W.Frag} {H : Hp} {ds : List D} {ys : List V} (r : RDs K H ds ys) : ∀ {is : List Nat}, (∀ i ∈ is, i < ys.length) → RDs K H (is.map fun i => ds.getD i (.int 0)) (is.map fun i => ys.getD i .non)
  | [], _ => by simp [RDs]
  | i :: is, h => by
    have hi := h i List.mem_cons_self
    have hy : ys[i]? = some ys[i] := by simp [hi]
    obtain ⟨d, h1, h2⟩ := r.get hy
    simp only [List.map_cons]
    refine .cons ?_ (RDs.pick r fun j hj => h j (List.mem_cons_of_mem _ hj))
    rw [List.getD_eq_getElem?_getD, List.getD_eq_getElem?_getD, h1, hy]
    exact h2
theorem cd_sorted {K : PySem.W.Frag} : CallD K true dSorted (rSorted K) := by
  intro H0 H xs ds z Q s r ho k
  unfold dSorted at ho
  split at ho <;> first | cases ho | skip
  split at ho <;> cases ho
  rename_i es hok
  obtain ⟨x, rfl, q1⟩ := r.uno
  obtain ⟨p, ys, rfl, hp, ry⟩ := q1.lst
  refine ⟨p, ys, es, rfl, s _ _ hp, ry.mono s, hok, fun l is hl hi he => k _ _ (.new s hl fun H' hH => ?_), fun l ns hl he => k _ _ (.new s hl fun H' hH => ?_)⟩
  · simp only [OB]
    refine ⟨_, hH, ?_⟩
    rw [he]
    exact ry.pick hi
  · simp only [OB]
    refine ⟨_, hH, ?_⟩
    rw [he]
    exact .ofInts _
section
variable {X : Cx} {pins : List (Addr × Obj)} {σ : St} {H : Hp} {s : Shared}
theorem Vals.pick {ys : List V} {its : List Value} (r : Vals ys its) : ∀ {is : List Nat}, (∀ i ∈ is, i < ys.length) → Vals (is.map fun i => ys.getD i .non) (is.map fun i => its.getD i Value.none)
  | [], _ => .nil
  | i :: is, h => by
    have hi := h i List.mem_cons_self
    have hy : ys[i]? = some ys[i] := by simp [hi]
    obtain ⟨u, h1, h2⟩ := r.get hy
    simp only [List.map_cons]
    refine .cons ?_ (Vals.pick r fun j hj => h j (List.mem_cons_of_mem _ hj))
    rw [List.getD_eq_getElem?_getD, List.getD_eq_getElem?_getD, h1, hy]
    exact h2
theorem lex_kat (I : Inv X pins σ H s) {A : Around} (hu : A.units + 20 < cLine) {b : Bool} {fin : Bool} {Q : Bool → Shared → Prop} {r : Bool} (q : Q r s) :
    ∀ {ds es : List D} {xs ys : List V} {us vs : List Value} (i : Nat), (b = true → i = 0 → (∃ k r, ds = .int k :: r) ∧ ∃ k r, es = .int k :: r) → ois ds = true → ois es = true → deps ds ≤ 20 → RDs X.K H ds xs → RDs X.K H es ys → Vals xs us → Vals ys vs → cmpDs ds es = some r →
      fin = decide (us.length < vs.length) → PySem.W.KatLex X.prog X.w A b fin Q (us.zip vs) i s
  | [], [], _, _, _, _, i, _, _, _, _, r1, r2, q1, q2, h, hf => by
    simp only [RDs] at r1 r2; subst r1; subst r2
    cases q1; cases q2
    simp only [cmpDs, Option.some.injEq] at h; subst h
    simp at hf; subst hf
    exact q
  | [], e :: es, _, _, _, _, i, _, _, _, _, r1, r2, q1, q2, h, hf => by
    simp only [RDs] at r1 r2; subst r1
    obtain ⟨y, ys, rfl, _, _⟩ := r2
    cases q1; cases q2
    simp only [cmpDs, Option.some.injEq] at h; subst h
    simp at hf; subst hf
    exact q
  | d :: ds, [], _, _, _, _, i, _, _, _, _, r1, r2, q1, q2, h, hf => by
    simp only [RDs] at r1 r2; subst r2
    obtain ⟨y, ys, rfl, _, _⟩ := r1
    cases q1; cases q2
    simp only [cmpDs, Option.some.injEq] at h; subst h
    simp at hf; subst hf
    exact q
  | d :: ds, e :: es, _, _, _, _, i, hb, p1, p2, hd, r1, r2, q1, q2, h, hf => by
    simp only [RDs] at r1 r2
    obtain ⟨x, xs, rfl, rx, rxs⟩ := r1
    obtain ⟨y, ys, rfl, ry, rys⟩ := r2
    simp only [ois, Bool.and_eq_true] at p1 p2
    simp only [deps] at hd
    cases q1 with
    | cons a1 a2 =>
      cases q2 with
      | cons b1 b2 =>
        have eq := eqAt_D (A := A) I 20 (oi_pl p1.1) (oi_pl p2.1) (by omega) hu rx ry a1 b1
        rw [List.zip_cons_cons]
        refine PySem.W.kat_cons (eq X.prog X.w _ _ ?_)
        simp only [cmpDs] at h
        simp only [List.length_cons, Nat.add_lt_add_iff_right] at hf
        split at h
        · rename_i w
          rw [w]
          exact PySem.W.kat_yes (lex_kat I hu q (i + 1) (fun _ z => by omega) p1.2 p2.2 (by omega) rxs rys a2 b2 h hf)
        · rename_i w
          rw [show eqD d e = false by simpa using w]
          refine PySem.W.kat_no ?_
          by_cases hbi : (b && i == 0) = true
          · rw [hbi]
            simp only [Bool.and_eq_true, beq_iff_eq] at hbi
            obtain ⟨⟨k1, s1, e1⟩, k2, s2, e2⟩ := hb hbi.1 hbi.2
            cases e1; cases e2
            cases rx.int; cases ry.int
            obtain ⟨t, rfl⟩ := a1; obtain ⟨t', rfl⟩ := b1
            refine oneLt_int ?_
            simp only [cmpD, Option.some.injEq] at h
            rw [h]; exact q
          · rw [show (b && i == 0) = false by simpa using hbi]
            exact PySem.W.kat_one _ _ (rcLt_D I 20 hu p1.1 p2.1 (by omega) rx ry a1 b1 h X.prog X.w _ _ q)
theorem tups_D {M : Model} (I : Inv X pins σ H s) (T : Bool) : ∀ {ds : List D} {xs : List V} {us : List Value}, (∀ d ∈ ds, (if T = true then fstT d else fstI d) = true) → RDs X.K H ds xs → Vals xs us →
    ∃ fs : List Value, PySem.W.KatTups s.heap us fs ∧ fs.length = ds.length ∧ ∀ v ∈ fs, PySem.W.Looks M s.heap (typeOf v) (.type (if T = true then "tuple" else "int"))
  | [], _, _, _, r, q => by
    simp only [RDs] at r; subst r; cases q
    exact ⟨[], trivial, rfl, fun v hv => by cases hv⟩
  | d :: ds, _, _, h, r, q => by
    simp only [RDs] at r
    obtain ⟨x, xs, rfl, rx, rxs⟩ := r
    cases q with
    | cons q1 q2 =>
      obtain ⟨fs, h1, h2, h3⟩ := tups_D (M := M) I T (fun d hd => h d (List.mem_cons_of_mem _ hd)) rxs q2
      have hd := h d List.mem_cons_self
      cases T with
      | false =>
        rw [if_neg Bool.false_ne_true] at hd
        cases d <;> simp only [fstI] at hd <;> first | cases hd | skip
        rename_i es
        cases es with
        | nil => simp at hd
        | cons e es =>
          cases e <;> simp at hd
          obtain ⟨a, ys, rfl, ha, ra⟩ := rx.tup
          cases q1
          obtain ⟨its, rv, t⟩ := I.tupA ha
          simp only [RDs] at ra
          obtain ⟨y, ys, rfl, ry, rys⟩ := ra
          cases ry.int
          cases rv with
          | cons v1 v2 =>
            obtain ⟨tk, rfl⟩ := v1
            obtain ⟨o, ho, hc, n, hdt⟩ := t
            refine ⟨_ :: fs, PySem.W.KatTups.cons ho hc hdt rfl h1, by simp [h2], fun v hv => ?_⟩
            rcases List.mem_cons.mp hv with rfl | hv
            · exact .now
            · exact h3 v hv
      | true =>
        rw [if_pos rfl] at hd
        cases d <;> simp only [fstT] at hd <;> first | cases hd | skip
        rename_i es
        cases es with
        | nil => simp at hd
        | cons e es =>
          cases e <;> simp at hd
          obtain ⟨a, ys, rfl, ha, ra⟩ := rx.tup
          cases q1
          obtain ⟨its, rv, t⟩ := I.tupA ha
          simp only [RDs] at ra
          obtain ⟨y, ys, rfl, ry, rys⟩ := ra
          obtain ⟨a2, ys2, rfl, ha2, ra2⟩ := ry.tup
          cases rv with
          | cons v1 v2 =>
            cases v1
            obtain ⟨its2, rv2, o2, ho2, hc2, _⟩ := I.tupA ha2
            obtain ⟨o, ho, hc, n, hdt⟩ := t
            refine ⟨_ :: fs, PySem.W.KatTups.cons ho hc hdt rfl h1, by simp [h2], fun v hv => ?_⟩
            rcases List.mem_cons.mp hv with rfl | hv
            · have lk : PySem.W.Looks M s.heap (typeOf (.ref a2)) o2.cls := (PySem.W.Looks.ld ho2).andThen .now
              rw [hc2] at lk
              exact lk
            · exact h3 v hv
theorem Vals.getD {ys : List V} {its : List Value} (r : Vals ys its) {i : Nat} (h : i < ys.length) : RelV (ys.getD i .non) (its.getD i Value.none) := by
  have hy : ys[i]? = some ys[i] := by simp [h]
  obtain ⟨u, h1, h2⟩ := r.get hy
  rw [List.getD_eq_getElem?_getD, List.getD_eq_getElem?_getD, h1, hy]
  exact h2
theorem RDs.getD {ds : List D} {ys : List V} (r : RDs X.K H ds ys) {i : Nat} (h : i < ys.length) : RD X.K H (ds.getD i (.int 0)) (ys.getD i .non) := by
  have hy : ys[i]? = some ys[i] := by simp [h]
  obtain ⟨d, h1, h2⟩ := r.get hy
  rw [List.getD_eq_getElem?_getD, List.getD_eq_getElem?_getD, h1, hy]
  exact h2
theorem getD_mem {α : Type} {l : List α} {i : Nat} {d : α} (h : i < l.length) : l.getD i d ∈ l := by
  rw [List.getD_eq_getElem?_getD, List.getElem?_eq_getElem h]
  exact List.getElem_mem h
theorem c_sortedD (hc : X.calm = true) (hu : X.A.units + 64 < cLine) : CallR X (.builtin "sorted") (rSorted X.K) := by
  intro pins s σ H xs us Q I r h
  obtain ⟨p, ys, ds, rfl, hp, rd, hok, k, kI⟩ := h
  obtain ⟨u, rfl, ru⟩ := vals1 r
  cases ru
  obtain ⟨its, rv, pl, hz⟩ := I.list (.of hp)
  obtain ⟨m, hn, _⟩ := id I.loc
  have F := Att.fr_all hn
  have N := news_all (g := Att.noObjs s.heap) (h := s.heap) (L := X.env.locals)
  unfold sortOk at hok
  simp only [Bool.and_eq_true, Bool.or_eq_true, decide_eq_true_eq] at hok
  obtain ⟨⟨⟨⟨h64, hoi⟩, hdep⟩, hcmp⟩, hkind⟩ := hok
  have hl1 := rd.length
  have hl2 := rv.length
  -- the end, by the places
  have fin : ∀ {D : Addr} {h' : Heap} {tk : Nat} {e : Nat} {is : List Nat}, (∀ i ∈ is, i < ys.length) → sortT ds = is.map (fun i => ds.getD i (.int 0)) → Fr (Att.noObjs s.heap) X.env.locals h' m → News (Att.noObjs s.heap) X.env.locals h' ((D, seqObj "list" (is.map fun i => its.getD i Value.none).toArray e) :: allOf s X.env.locals) → s.heap.get? D = none →
      EP X pins σ Q (.ref D) { s with heap := h', toks := tk } := fun {D h' tk e is} hi he F' N' hD => by
    have hlen : (is.map fun i => ys.getD i .non).length ≤ sizeLine := by
      have e1 : is.length = ds.length := by have := congrArg List.length he; rw [List.length_map, (sortT_perm ds).length_eq] at this; exact this.symm
      rw [List.length_map, e1, hl1]; exact hz
    obtain ⟨HD, I'⟩ := I.frnew (tk := tk) (o := .lst (is.map fun i => ys.getD i .non)) hn F' N' hD ⟨hlen, _, e, rv.pick hi, (N' _ (.head _)).1⟩
    exact ⟨.ref D, _, I', rfl, k D is HD hi he⟩
  by_cases hI : ds.all isI = true
  · -- ints
    have asInts : ∀ ds : List D, ds.all isI = true → ∃ ns : List Int, ds = ns.map D.int := by
      intro ds hI
      induction ds with
      | nil => exact ⟨[], rfl⟩
      | cons d ds ih =>
        simp only [List.all_cons, Bool.and_eq_true] at hI
        obtain ⟨ns, e⟩ := ih hI.2
        cases d <;> simp [isI] at hI
        exact ⟨_ :: ns, by rw [e]; rfl⟩
    obtain ⟨ns, hns⟩ := asInts ds hI
    subst hns
    have ey : ys = ns.map V.int := intsOf_rd (intsOf_map ns) rd
    subst ey
    refine sorted_N F N pl.isList (intsAre_of rv) (by simp at hl1 hl2 h64; omega) fun h' vs' ns' e F' N' hi' hp' hs' => ?_
    have hsame : sortT (ns.map D.int) = ns'.map D.int := by
      refine srt_same (ois_perm (sortT_perm _) hoi) ((sortT_perm _).trans (hp'.symm.map _)) (sortT_srt hoi) ?_
      refine List.pairwise_map.mpr (hs'.imp fun {a b} hab => ?_)
      simp only [ltT, decide_eq_false_iff_not]; omega
    have hlen : (ns'.map V.int).length ≤ sizeLine := by
      rw [List.length_map, hp'.length_eq]; simpa using hz
    have hD : s.heap.get? (s.heap.objs.size + 1) = none := Heap.get?_none_of_le (Nat.le_succ _)
    obtain ⟨HD, I'⟩ := I.frnew (tk := s.toks) (o := .lst (ns'.map V.int)) hn F' N' hD ⟨hlen, vs', e, vals_ints hi', (N' _ (.head _)).1⟩
    exact ⟨.ref _, _, I', rfl, kI _ ns' HD hsame⟩
  · by_cases h2 : 2 ≤ its.length
    · obtain ⟨T, hT⟩ : ∃ T : Bool, ∀ d ∈ ds, (if T = true then fstT d else fstI d) = true := by
        rcases hkind with (z | z) | z
        · exact absurd z hI
        · exact ⟨false, fun d hd => by rw [if_neg Bool.false_ne_true]; exact List.all_eq_true.mp z d hd⟩
        · exact ⟨true, fun d hd => by rw [if_pos rfl]; exact List.all_eq_true.mp z d hd⟩
      refine PySem.W.kat_sorted F N pl.isList h2 (by omega) fun D e1 h' F' N' hlt => ?_
      have N'' : News (Att.noObjs s.heap) X.env.locals h' (allOf s X.env.locals) := fun p hp => N' p (.tail _ hp)
      have I' : Inv X pins σ H { s with heap := h' } := I.frn (tk := s.toks) hn F' N''
      have hDL : D ≠ X.env.locals := (N' _ (.head _)).2.1
      have hD : s.heap.get? D = none := by
        cases q : s.heap.get? D with
        | none => rfl
        | some o => exact absurd (hlt (D, o) (mem_allNews hDL (Att.noObjs_get _ _) q)) (Nat.lt_irrefl _)
      obtain ⟨fs, t1, t2, t3⟩ := tups_D (M := model X.prog X.w) I' T hT rd rv
      have huu : X.A.in1.in1.units + 20 < cLine := by show X.A.units + 1 + 1 + 20 < cLine; omega
      refine PySem.W.kat_kind t1 (by omega) t3 (by cases T <;> rfl) ?_
      have h0 : 0 < its.length := by omega
      refine kas_go (n := its.length) (lt := ltI ds) ?_ (in_sort h0) ?_
      · intro i j C hi hj hC
        show wpAny (model X.prog X.w) X.A.in1.in1 (keyLt' _ (its.getD i Value.none) (its.getD j Value.none)) C _ _
        have hi' : i < ys.length := by omega
        have hj' : j < ys.length := by omega
        have r1 := rd.getD hi'
        have r2 := rd.getD hj'
        have v1 := rv.getD hi'
        have v2 := rv.getD hj'
        have m1 : ds.getD i (.int 0) ∈ ds := getD_mem (by omega)
        have m2 : ds.getD j (.int 0) ∈ ds := getD_mem (by omega)
        have o1 := (ois_mem.mp hoi) _ m1
        have o2 := (ois_mem.mp hoi) _ m2
        have d1 := deps_mem m1
        have f1 := hT _ m1
        have f2 := hT _ m2
        have hc2 : (cmpD (ds.getD i (.int 0)) (ds.getD j (.int 0))).isSome = true := List.all_eq_true.mp (List.all_eq_true.mp hcmp _ m1) _ m2
        obtain ⟨b, hb⟩ := Option.isSome_iff_exists.mp hc2
        have hbl : b = ltI ds i j := cmp_lt hb
        rw [← hbl] at hC
        generalize ds.getD i (.int 0) = da at *
        generalize ds.getD j (.int 0) = db at *
        have tp : ∀ {d : L2.D}, (if T = true then fstT d else fstI d) = true → ∃ es, d = .tup es ∧ (T = false → ∃ k r, es = .int k :: r) := fun {d} h => by
          cases T with
          | false =>
            rw [if_neg Bool.false_ne_true] at h
            cases d <;> simp only [fstI] at h <;> first | cases h | skip
            rename_i es
            cases es with
            | nil => simp at h
            | cons e es => cases e <;> simp at h; exact ⟨_, rfl, fun _ => ⟨_, _, rfl⟩⟩
          | true =>
            rw [if_pos rfl] at h
            cases d <;> simp only [fstT] at h <;> first | cases h | skip
            exact ⟨_, rfl, fun z => nomatch z⟩
        obtain ⟨ea, rfl, ka⟩ := tp f1
        obtain ⟨eb, rfl, kb⟩ := tp f2
        obtain ⟨a, xa, e1, ha, ra⟩ := r1.tup
        obtain ⟨c, xc, e2, hcc, rc⟩ := r2.tup
        rw [e1] at v1; rw [e2] at v2
        rw [show its.getD i Value.none = Value.ref a from v1, show its.getD j Value.none = Value.ref c from v2]
        obtain ⟨ia, va, oa, hoa, _, na, hda⟩ := I'.tupA ha
        obtain ⟨ic, vc, oc, hoc, _, nc, hdc⟩ := I'.tupA hcc
        simp only [L2.D.oi] at o1 o2
        simp only [L2.D.dep] at d1
        simp only [cmpD] at hb
        refine PySem.W.kat_lt hoa hda hoc hdc ?_
        refine lex_kat I' huu hC 0 (fun hb0 _ => ?_) o1 o2 (by omega) ra rc va vc hb (by simp)
        cases T with
        | false => exact ⟨ka rfl, kb rfl⟩
        | true => exact absurd hb0 (by simp)
      · refine PySem.W.KasFin.intro F' N' (.head fun p hp => Nat.ne_of_lt (hlt p hp)) fun h'' c F3 N3 => ?_
        have hl3 : its.length = ds.length := by omega
        rw [hl3] at N3
        have pm := (sort_ok (ltI_ord hoi) (n := ds.length) (by omega)).1
        refine fin (is := (runT (ltI ds) (PySem.W.kas_sort ds.length)).toList) (fun i hi => ?_) (tree_sorts hoi (by omega)).symm F3 N3 hD
        have := pm.toList.mem_iff.mp hi
        simp at this
        omega
    · -- at most one
      have hs1 : sortT ds = ds := by
        match ds, hl1, hl2 with
        | [], _, _ => rfl
        | [d], _, _ => rfl
        | _ :: _ :: _, a, b => simp at a; omega
      refine sorted_short pl.isList (by omega) ?_
      obtain ⟨e, he⟩ := sortedAll_at s.heap its ((pairsOf its).map (·.2))
      have kp : ∀ b o, s.heap.get? b = some o → (sortedAll s.heap its ((pairsOf its).map (·.2))).get? b = some o := fun b o q => sortedAll_old q
      have hout : (pairsOf its).map (·.2) = (List.map (fun i => its.getD i Value.none) (List.range its.length)).toArray := by
        have pz : ∀ l : List Value, l.length < 2 → (pairsOf l).map (·.2) = (List.map (fun i => l.getD i Value.none) (List.range l.length)).toArray := fun l hl => by
          match l, hl with
          | [], _ => simp [pairsOf]
          | [v], _ => simp [pairsOf]
          | _ :: _ :: _, z => simp at z; omega
        exact pz its (by omega)
      rw [hout] at he kp ⊢
      have hN := N.kept_cons F kp (Nat.le_succ _) he
      refine fin (is := List.range its.length) (fun i hi => by simp at hi; omega) ?_ (F.kept kp) hN (Heap.get?_none_of_le (Nat.le_succ _))
      rw [hs1]
      apply List.ext_getElem?
      intro i
      rw [List.getElem?_map]
      by_cases hi : i < its.length
      · rw [List.getElem?_range hi]
        simp [show i < ds.length by omega]
      · rw [List.getElem?_eq_none (show (List.range its.length).length ≤ i by simpa using hi), List.getElem?_eq_none (by omega)]; rfl
end
end L2
set_option Elab.async false
set_option linter.all false
set_option maxRecDepth 100000
set_option maxHeartbeats 4000000
namespace L2
open PySem PySem.Spec PyProof.Rows
def insK (n : Nat) (x : Int) : Nat := if x < 0 then (x + (n : Int)).toNat else min x.toNat n
def insAt {α : Type} (xs : List α) (x : Int) (y : α) : List α := xs.take (insK xs.length x) ++ y :: xs.drop (insK xs.length x)
def rInsert : V → List V → Hp → VK → Prop := fun o vs H Q => ∃ l xs i y, o = .ref l ∧ vs = [.int i, y] ∧ H l = some (.lst xs) ∧ -(2 ^ 63) ≤ i ∧ i < 2 ^ 63 ∧ xs.length < sizeLine ∧ Q .non (upd H l (.lst (insAt xs i y)))
theorem Vals.ins {xs : List V} {its : List Value} {y : V} {u : Value} (r : Vals xs its) (ru : RelV y u) (i : Int) : Vals (insAt xs i y) (insAt its i u) := by
  unfold insAt
  rw [r.length]
  exact (r.take _).append (.cons ru (r.drop _))
theorem insAt_length {α : Type} (xs : List α) (i : Int) (y : α) : (insAt xs i y).length = xs.length + 1 := by
  unfold insAt
  rw [List.length_append, List.length_take, List.length_cons, List.length_drop]
  omega
section
variable {X : Cx} {K : PySem.W.Frag}
theorem mt_insert : MtM X "list.insert" rInsert := by
  intro pins s σ H x vs v us Q I rx rv h
  obtain ⟨l, xs, i, y, rfl, rfl, hH, h1, h2, hz, q⟩ := h
  cases rx
  obtain ⟨u, w, rfl, ru, rw'⟩ := rv.two
  obtain ⟨t, rfl⟩ := ru
  obtain ⟨z, its, n, r, hl, e⟩ := I.lstM hH
  refine call_meets PySem.F.slot_list_insert ⟨_, e, rfl⟩ PySem.F.entry_list_insert (PySem.F.args_list_insert_3 _ _ _) (PySem.AutoSeq1.list_insert_list_int_val_1 l its.toArray n i t w (by simp [fitsIndex_both h1 h2]) (by rw [List.size_toArray]; omega)) ⟨e, ?_⟩
  refine ⟨.non, _, I.lset (its' := insAt its i w) hH e ?_ (r.ins rw' i) (by rw [insAt_length]; omega), rfl, q⟩
  show ((its.toArray.extract 0 (insK its.toArray.size i)).push w ++ its.toArray.extract (insK its.toArray.size i)) = (insAt its i w).toArray
  unfold insAt
  apply Array.toList_inj.mp
  simp
  exact List.take_of_length_le (by simp)
def mIns : D → List D → Option D
  | .lst ds, [.int i, d] => if -(2 ^ 63) ≤ i ∧ i < 2 ^ 63 ∧ ds.length < 100000 then some (.lst (insAt ds i d)) else none
  | _, _ => none
theorem RDs.ins {H : Hp} {ds : List D} {xs : List V} {d : D} {y : V} (r : RDs K H ds xs) (ry : RD K H d y) (i : Int) : RDs K H (insAt ds i d) (insAt xs i y) := by
  unfold insAt
  rw [← r.length]
  exact (r.take _).append (.cons ry (r.drop _))
theorem md_ins : MutD K mIns rInsert := by
  intro H0 H a d d' ds vs Q s h0 ob r hm k
  unfold mIns at hm
  split at hm <;> first | cases hm | skip
  split at hm <;> cases hm
  rename_i es i e hl
  simp only [OB] at ob
  obtain ⟨xs, hx, rx⟩ := ob
  obtain ⟨y, z, rfl, q1, q2⟩ := r.duo
  cases q1.int
  refine ⟨a, xs, _, z, rfl, rfl, hx, hl.1, hl.2.1, by rw [← rx.length]; exact line_100k hl.2.2, k _ _ ?_⟩
  simp only [OB]
  exact ⟨_, upd_same, rx.ins q2 _⟩
def maxI (n : Int) (ns : List Int) : Int := ns.foldl (fun a b => if b > a then b else a) n
theorem maxI_is : ∀ (ns : List Int) (n : Int), maxI n ns ∈ n :: ns ∧ ∀ a ∈ n :: ns, a ≤ maxI n ns
  | [], n => by simp [maxI]
  | b :: ns, n => by
    have ih := maxI_is ns (if b > n then b else n)
    show maxI (if b > n then b else n) ns ∈ _ ∧ ∀ a ∈ _, a ≤ maxI (if b > n then b else n) ns
    generalize maxI (if b > n then b else n) ns = M at ih
    obtain ⟨h1, h2⟩ := ih
    constructor
    · rcases List.mem_cons.mp h1 with z | z
      · rw [z]; split <;> simp
      · simp [z]
    · intro a ha
      have h3 := h2 _ List.mem_cons_self
      rcases List.mem_cons.mp ha with rfl | ha
      · split at h3 <;> omega
      · rcases List.mem_cons.mp ha with rfl | ha
        · split at h3 <;> omega
        · exact h2 a (List.mem_cons_of_mem _ ha)
end
end L2
set_option Elab.async false
set_option linter.all false
set_option maxRecDepth 100000
set_option maxHeartbeats 4000000
namespace L2
open PySem PySem.Spec PyProof.Rows
end L2
set_option Elab.async false
set_option linter.all false
set_option maxRecDepth 100000
set_option maxHeartbeats 4000000
namespace L2
open PySem PySem.Spec PyProof.Rows
end L2
set_option Elab.async false
set_option linter.all false
set_option maxRecDepth 100000
set_option maxHeartbeats 4000000
namespace L2
open PySem PySem.Spec PyProof.Rows
end L2
set_option Elab.async false
set_option linter.all false
set_option maxRecDepth 100000
set_option maxHeartbeats 4000000
namespace L2
open PySem PySem.Spec PyProof.Rows
section
variable {X : Cx} {EX : XW} {fr : Bool} {pins : List (Addr × Obj)} {σ : St} {H1 H2 : Hp} {s1 s2 : Shared} {C a T : Addr} {B h5 : Heap} {a0 : Value} {od : Option Addr}
abbrev HD := Ex → DS → SR
end
end L2
set_option Elab.async false
set_option linter.all false
set_option maxRecDepth 100000
set_option maxHeartbeats 4000000
namespace L2
open PySem PySem.Spec PyProof.Rows
theorem SK.ex {K : PySem.W.Frag} {EX EX' : XW} {fr : Bool} {Hc Hb : Hp} {De : Ends} {r : SR} (h : SK K EX fr Hc Hb De r) (he : ∀ x, EX.at x → EX'.at x) : SK K EX' fr Hc Hb De r := by
  cases r with
  | er x => exact he x h
  | nx ρ => exact h
  | bk ρ => exact h
  | ct ρ => exact h
  | rt d => exact h
  | st => exact h
end L2
set_option Elab.async false
set_option linter.all false
set_option maxRecDepth 100000
set_option maxHeartbeats 4000000
namespace L2
open PySem PySem.Spec PyProof.Rows
def SR.noE : SR → SR
  | .er _ => .st
  | r => r
theorem SK.noE {K : PySem.W.Frag} {EX : XW} {fr : Bool} {Hc Hb : Hp} {De : Ends} {r : SR} (h : SK K EX fr Hc Hb De r.noE) : SK K F0 fr Hc Hb De r := by
  cases r with
  | nx ρ => exact h
  | bk ρ => exact h
  | ct ρ => exact h
  | rt d => exact h
  | er x => exact h.elim
  | st => exact h.elim
end L2
set_option Elab.async false
set_option linter.all false
set_option maxRecDepth 100000
set_option maxHeartbeats 4000000
namespace L2
open PySem PySem.Spec PyProof.Rows
open PySem.Calls
end L2
set_option Elab.async false
set_option linter.all false
set_option maxRecDepth 100000
set_option maxHeartbeats 4000000
namespace L2
open PySem PySem.Spec PyProof.Rows
section
open PySem.AutoSeq1 (wpAny_loadPart')
variable {prog : Program} {w : World} {A : Around} {E : Value → Shared → Prop} {h : Heap} {g : Array GenState} {d : Drawn} {tk : Nat} {os : OsState} {K : PySem.W.Frag} {x C t : Addr} {name : Str} {v : Value}
end
end L2
set_option Elab.async false
set_option linter.all false
set_option maxRecDepth 100000
set_option maxHeartbeats 4000000
namespace L2
open PySem PySem.Spec PyProof.Rows
section
open PySem.AutoSeq1 (wpAny_loadPart')
variable {prog : Program} {w : World} {A : Around} {E : Value → Shared → Prop} {h : Heap} {g : Array GenState} {d : Drawn} {tk : Nat} {os : OsState} {K : PySem.W.Frag} {x C t : Addr} {name : Str} {v : Value}
end
end L2
set_option Elab.async false
set_option linter.all false
set_option maxRecDepth 100000
set_option maxHeartbeats 4000000
namespace L2
open PySem PySem.Spec PyProof.Rows
end L2
set_option Elab.async false
set_option linter.all false
set_option maxRecDepth 100000
set_option maxHeartbeats 4000000
namespace L2
open PySem PySem.Spec PyProof.Rows
end L2
set_option Elab.async false
set_option linter.all false
set_option maxRecDepth 100000
set_option maxHeartbeats 4000000
namespace L2
open PySem PySem.Spec PyProof.Rows
open PySem.Calls
open Builtin Builtin.ObjectAttr
section
open PySem.AutoSeq1 (wpAny_loadPart')
variable {prog : Program} {w : World} {A : Around} {E : Value → Shared → Prop} {h : Heap} {g : Array GenState} {d : Drawn} {t : Nat} {os : OsState} {K : PySem.W.Frag} {C a dx : Addr} {o : Obj} {f : Str} {v : Value} {mA : Str → Option Value}
variable {nm q : Str} {N : Addr} {bs bm : List Value} {sn : List Str} {sub : List Value} {ab : Bool} {col : Option Bool} {dd : Option Addr} {k0 k1 k2 k3 k5 : Option Value} {newId : String}
end
end L2
set_option Elab.async false
set_option linter.all false
set_option maxRecDepth 100000
set_option maxHeartbeats 4000000
namespace L2
open PySem PySem.Spec PyProof.Rows
end L2
set_option Elab.async false
set_option linter.all false
set_option maxRecDepth 100000
set_option maxHeartbeats 4000000
namespace L2
open PySem PySem.Spec PyProof.Rows
section
variable {prog : Program} {w : World} {A : Around} {R : Result → Shared → Prop} {I : Addr} {fp wr : List Addr} {n : Nat} {P : Nat → Value → Prop} {St : Nat → Heap → Prop}
theorem mx_go (kw : List (Str × Value)) (W : Walks prog w A.in1 I fp wr n P St) (bt : Nat → Nat → Bool) (cm : CmpOf prog w A.in1 .Gt P bt) (S : Addr) (nf : S ∉ fp) :
    ∀ (k j : Nat) (s : Shared) (vb : Value) (c : Nat), n - (j + 1) = k → j + 1 ≤ n → St (j + 1) s.heap → P (argBest bt j) vb → s.heap.get? S = some { cls := .type "list", dict := none, data := .seq #[vb, vb] c, slots := #[] } →
    (∀ v h' tk, P (argBest bt (n - 1)) v → (∀ b o, b ∉ wr → b ≠ S → s.heap.get? b = some o → h'.get? b = some o) → R (.ok (.ret v)) { s with heap := h', toks := tk }) → codeAny (model prog w) A (.builtin "max.loop" ⟨[.ref I, .none, .ref S], kw⟩) R s := by
  have nw : S ∉ wr := fun h => nf (W.sub _ h)
  have nm : (toString "max" ++ toString ".loop" : String) = "max.loop" := by decide
  intro k
  induction k with
  | zero =>
    intro j s vb c ek ej st pb eS fin
    have jn : j + 1 = n := by omega
    refine codeAny_builtin PySem.F.entry_max_loop ?_
    rw [Around.under_plainId PySem.F.plain_max_loop _]
    show wpAny _ A.in1 (seqItems? (.ref S) >>= _) _ _ _
    refine wpAny_bind (wpAny_seqItems eS rfl ?_)
    show wpAny _ A.in1 (tryCatch (pyNext (.ref I)) _ >>= _) _ _ _
    refine wpAny_bind (wpAny_tryCatch (W.done s _ _ (jn ▸ st) fun h' tk kp => ?_))
    have eS' := kp S _ nw eS
    show wpAny _ A.in1 (updateSeq S (fun _ => #[]) >>= _) _ _ _
    refine wpAny_bind ?_
    refine wpAny_updateSeq eS' rfl (wpAny_bind (wpAny_letGo (wpAny_pure ?_)))
    exact fin vb _ tk (by rw [← jn]; exact pb) fun b o hbw hbS e => (Heap.get?_update_other _ _ (Ne.symm hbS)).trans (kp b o hbw e)
  | succ k ih =>
    intro j s vb c ek ej st pb eS fin
    have jl : j + 1 < n := by omega
    refine codeAny_builtin PySem.F.entry_max_loop ?_
    rw [Around.under_plainId PySem.F.plain_max_loop _]
    show wpAny _ A.in1 (seqItems? (.ref S) >>= _) _ _ _
    refine wpAny_bind (wpAny_seqItems eS rfl ?_)
    show wpAny _ A.in1 (tryCatch (pyNext (.ref I)) _ >>= _) _ _ _
    refine wpAny_bind (wpAny_tryCatch (W.item (j + 1) s _ _ jl st fun v h' tk pv st' kp => ?_))
    have eS' := kp S _ nw eS
    show wpAny _ A.in1 (tryCatch (holding [v, v] (richCompare .Gt v vb >>= _)) _ >>= _) _ _ _
    refine wpAny_bind (wpAny_tryCatch (wpAny_holding (wpAny_bind (cm (j + 1) (argBest bt j) v vb _ _ _ pv pb ?_))))
    refine wpAny_bind (wpAny_holding (wpAny_truthy_bool ?_))
    refine wpAny_bind (wpAny_letGo (wpAny_pure ?_))
    cases hb : bt (j + 1) (argBest bt j) with
    | true =>
      rw [if_pos rfl]
      refine wpAny_bind ?_
      refine wpAny_updateSeq eS' rfl (wpAny_bind (wpAny_letGo ?_))
      rw [nm]
      refine wpAny_pure ⟨plainId_quiet PySem.F.plain_max_loop _, ih (j + 1) _ v _ (by omega) jl (W.frame _ _ _ st' fun b hbf o e => ?_) (by simp only [argBest, hb, if_true]; exact pv) (Heap.get?_update_self _ eS' rfl) fun v' h'' tk'' pv' kp' => ?_⟩
      · exact (Heap.get?_update_other _ _ (fun z : S = b => nf (by rw [z]; exact hbf))).trans e
      · exact fin v' h'' tk'' pv' fun b o hbw hbS e => kp' b o hbw hbS ((Heap.get?_update_other _ _ (Ne.symm hbS)).trans (kp b o hbw e))
    | false =>
      rw [if_neg Bool.false_ne_true]
      refine wpAny_bind (wpAny_letGo ?_)
      rw [nm]
      exact wpAny_pure ⟨plainId_quiet PySem.F.plain_max_loop _, ih (j + 1) _ vb c (by omega) jl st' (by simp only [argBest, hb, Bool.false_eq_true, if_false]; exact pb) eS' fun v' h'' tk'' pv' kp' => fin v' h'' tk'' pv' fun b o hbw hbS e => kp' b o hbw hbS (kp b o hbw e)⟩
theorem mx_first (kw : List (Str × Value)) (W : Walks prog w A.in1 I fp wr n P St) (bt : Nat → Nat → Bool) (cm : CmpOf prog w A.in1 .Gt P bt) (S : Addr) (nf : S ∉ fp) (n0 : 0 < n) {s : Shared} {c : Nat} (st : St 0 s.heap)
    (eS : s.heap.get? S = some { cls := .type "list", dict := none, data := .seq #[] c, slots := #[] }) (fin : ∀ v h' tk, P (argBest bt (n - 1)) v → (∀ b o, b ∉ wr → b ≠ S → s.heap.get? b = some o → h'.get? b = some o) → R (.ok (.ret v)) { s with heap := h', toks := tk }) :
    codeAny (model prog w) A (.builtin "max.loop" ⟨[.ref I, .none, .ref S], kw⟩) R s := by
  have nw : S ∉ wr := fun h => nf (W.sub _ h)
  have nm : (toString "max" ++ toString ".loop" : String) = "max.loop" := by decide
  refine codeAny_builtin PySem.F.entry_max_loop ?_
  rw [Around.under_plainId PySem.F.plain_max_loop _]
  show wpAny _ A.in1 (seqItems? (.ref S) >>= _) _ _ _
  refine wpAny_bind (wpAny_seqItems eS rfl ?_)
  show wpAny _ A.in1 (tryCatch (pyNext (.ref I)) _ >>= _) _ _ _
  refine wpAny_bind (wpAny_tryCatch (W.item 0 s _ _ n0 st fun v h' tk pv st' kp => ?_))
  have eS' := kp S _ nw eS
  show wpAny _ A.in1 (updateSeq S (fun _ => #[v, v]) >>= _) _ _ _
  refine wpAny_bind ?_
  refine wpAny_updateSeq eS' rfl ?_
  rw [nm]
  refine wpAny_pure ⟨plainId_quiet PySem.F.plain_max_loop _, mx_go kw W bt cm S nf _ 0 _ v _ rfl n0 (W.frame _ _ _ st' fun b hbf o e => ?_) pv (Heap.get?_update_self _ eS' rfl) fun v' h'' tk'' pv' kp' => ?_⟩
  · exact (Heap.get?_update_other _ _ (fun z : S = b => nf (by rw [z]; exact hbf))).trans e
  · exact fin v' h'' tk'' pv' fun b o hbw hbS e => kp' b o hbw hbS ((Heap.get?_update_other _ _ (Ne.symm hbS)).trans (kp b o hbw e))
theorem mx_none (q : Str) (dv : Value) (W : Walks prog w A.in1 I fp wr n P St) (S : Addr) (nf : S ∉ fp) (n0 : n = 0) {s : Shared} {c : Nat} (st : St 0 s.heap)
    (eS : s.heap.get? S = some { cls := .type "list", dict := none, data := .seq #[] c, slots := #[] }) (fin : ∀ h' tk, (∀ b o, b ∉ wr → b ≠ S → s.heap.get? b = some o → h'.get? b = some o) → R (.ok (.ret dv)) { s with heap := h', toks := tk }) :
    codeAny (model prog w) A (.builtin "max.loop" ⟨[.ref I, .none, .ref S], [(q, dv)]⟩) R s := by
  refine codeAny_builtin PySem.F.entry_max_loop ?_
  rw [Around.under_plainId PySem.F.plain_max_loop _]
  show wpAny _ A.in1 (seqItems? (.ref S) >>= _) _ _ _
  refine wpAny_bind (wpAny_seqItems eS rfl ?_)
  show wpAny _ A.in1 (tryCatch (pyNext (.ref I)) _ >>= _) _ _ _
  refine wpAny_bind (wpAny_tryCatch (W.done s _ _ (n0 ▸ st) fun h' tk kp => ?_))
  show wpAny _ A.in1 (rule _ >>= _) _ _ _
  exact wpAny_bind (wpAny_rule (wpAny_pure (fin h' tk fun b o hb _ e => kp b o hb e)))
end
theorem mx_args (a v : Value) : argsOk "max" ⟨[a], [(Str.ofString "default", v)]⟩ := by unfold argsOk; kernel_rfl
section
variable {prog : Program} {w : World} {A : Around} {E : Value → Shared → Prop} {s : Shared}
theorem mx_call {x dv : Value} {Q : Value → Shared → Prop}
    (h : wpAny (model prog w) A.in1 (pyIter x) (fun it s₂ => ∃ I fp wr n P St bt, it = .ref I ∧ Walks prog w A.in1 I fp wr n P St ∧ St 0 s₂.heap ∧ (∀ b ∈ fp, b < s₂.heap.objs.size) ∧ CmpOf prog w A.in1 .Gt P bt ∧
      ∀ v h' tk, ((0 < n ∧ P (argBest bt (n - 1)) v) ∨ (n = 0 ∧ v = dv)) → (∀ b o, b ∉ wr → s₂.heap.get? b = some o → h'.get? b = some o) → Q v { s₂ with heap := h', toks := tk }) E s) :
    wpAny (model prog w) A (call (.builtin "max") [x] [(Str.ofString "default", dv)]) Q E s := by
  have nm : (toString "max" ++ toString ".loop" : String) = "max.loop" := by decide
  refine kmk_tree PySem.F.kind_max PySem.F.plain_max PySem.F.entry_max (mx_args _ _) ?_
  show wpAny _ A.in1 (Builtin.Builtins.bindParams "max" ["key", "default"] 0 ⟨[], [(Str.ofString "default", dv)]⟩ >>= _) _ _ s
  refine wpAny_bind (wpAny_of_eq (show Builtin.Builtins.bindParams "max" ["key", "default"] 0 ⟨[], [(Str.ofString "default", dv)]⟩ = pure [none, some dv] from rfl) ?_)
  refine wpAny_bind (wpAny_pure ?_)
  refine wpAny_bind (wpAny_mono h (fun it s₂ g => ?_) fun _ _ e => e)
  obtain ⟨I, fp, wr, n, P, St, bt, rfl, W, st, bd, cm, hQ⟩ := g
  refine wpAny_bind (wpAny_newObj_type ?_)
  have nf : s₂.heap.objs.size ∉ fp := fun hm => Nat.lt_irrefl _ (bd _ hm)
  rw [nm]
  refine wpAny_pure ⟨plainId_quiet PySem.F.plain_max_loop _, ?_⟩
  by_cases n0 : 0 < n
  · exact mx_first _ W bt cm s₂.heap.objs.size nf n0 (W.frame _ _ _ st fun b _ o e => Heap.get?_push_of_some _ e) (Heap.get?_push_size _ rfl) fun v h' tk pv kp =>
      hQ v h' tk (.inl ⟨n0, pv⟩) fun b o hbw e => kp b o hbw (Nat.ne_of_lt (Heap.lt_size e)) (Heap.get?_push_of_some _ e)
  · exact mx_none _ dv W s₂.heap.objs.size nf (by omega) (W.frame _ _ _ st fun b _ o e => Heap.get?_push_of_some _ e) (Heap.get?_push_size _ rfl) fun h' tk kp =>
      hQ dv h' tk (.inr ⟨by omega, rfl⟩) fun b o hbw e => kp b o hbw (Nat.ne_of_lt (Heap.lt_size e)) (Heap.get?_push_of_some _ e)
variable {h₀ : Heap} {L : Addr} {m : Str → Option Value} {news : List (Addr × Obj)}
theorem mx_list {l : Addr} {vs : List Value} {ns : List Int} {dv : Value} {Q : Value → Shared → Prop} (hh : A.handled = none) (F : Fr h₀ L s.heap m) (N : News h₀ L s.heap news) (hl : s.heap.IsList l vs.toArray) (hi : IntsAre vs ns)
    (h : ∀ v h' tk, Fr h₀ L h' m → News h₀ L h' news → ((ns = [] ∧ v = dv) ∨ ∃ M t, v = .int M t ∧ M ∈ ns ∧ ∀ a, a ∈ ns → a ≤ M) → Q v { s with heap := h', toks := tk }) :
    wpAny (model prog w) A (call (.builtin "max") [.ref l] [(Str.ofString "default", dv)]) Q E s := by
  obtain ⟨xs, e⟩ := hi.allInts.items
  have en : ns = xs.toList.map (·.1) := by rw [← hi.numsOf, ← nums_intItems, ← e]
  have el : ns.length = xs.size := by rw [en, List.length_map, Array.length_toList]
  rw [e] at hl
  refine mx_call (iter_intList hl fun s₂ e st bd lI => ?_)
  subst e
  refine ⟨_, _, _, _, _, _, _, rfl, Walks.list (A := A.in1) hh _ l lI (intItems xs), st, bd, CmpOf.ints_gt (numAt xs) (fun _ _ => intItems_at), fun v h' tk pv kp => ?_⟩
  have kp' := old_kept kp
  refine h v h' tk (F.grownK kp') (N.grown kp') ?_
  rcases pv with ⟨n0, pv⟩ | ⟨n0, rfl⟩
  · right
    have n0' : 0 < xs.size := by simpa [intItems] using n0
    have pv' : (intItems xs)[argBest (fun i j => decide (numAt xs i > numAt xs j)) (xs.size - 1)]? = some v := by simpa [intItems] using pv
    obtain ⟨t, rfl⟩ := intItems_at pv'
    obtain ⟨h1, h2⟩ := argBest_gt (numAt xs) (xs.size - 1)
    refine ⟨_, t, rfl, ?_, fun a ha => ?_⟩
    · rw [en, numAt_eq]; exact getD_mem (by rw [List.length_map, Array.length_toList]; omega)
    · rw [en] at ha
      obtain ⟨j, hj, rfl⟩ := mem_getD ha
      rw [List.length_map, Array.length_toList] at hj
      rw [← numAt_eq]; exact h2 j (by omega)
  · left
    have : xs.size = 0 := by simpa [intItems] using n0
    exact ⟨List.length_eq_zero_iff.mp (by omega), rfl⟩
end
def mxD (d : Int) : List Int → Int
  | [] => d
  | n :: ns => maxI n ns
def dMaxD : List D → Option D
  | [.lst ds, .int d] => (intsOf ds).map fun ns => .int (mxD d ns)
  | _ => none
def rMaxD : List V → Hp → VK → Prop := fun xs H Q => ∃ p ns d, xs = [.ref p, .int d] ∧ H p = some (.lst (ns.map V.int)) ∧ Q (.int (mxD d ns)) H
theorem TEd.mono' {K : PySem.W.Frag} {EX : XW} {fr : Bool} {f : DE → R D} {σ : St} {H : Hp} {Q Q' : VK} (h : TEd K EX fr f σ H Q) (hq : ∀ v H', Q v H' → Q' v H') : TEd K EX fr f σ H Q' := by
  obtain ⟨sx, ρ, H0, s, e, h⟩ := h
  exact ⟨sx, ρ, H0, s, e, h.mono fun a k v H' o => hq _ _ (k v H' o)⟩
section
variable {X : Cx} {EX : XW} {e d : Expr} {p kp pos : Pos} {x : Str} {t1 t2 : TE} {f1 f2 : DE → R D}
theorem pe_maxD (hc : X.calm = true) (hg : Gl X x) (hm : X.mg x = none) (hv : bootBuiltins x = some (.builtin "max")) (ha : PE X e t1) (hd : PE X d t2) (hn : x ≠ "__name__" := by decide) (hdb : (x == ("__debug__" : Str)) = false := by decide)
    (hs : starEach [e] X.env = (false, eval e X.env) :: starEach [] X.env := by rfl) :
    PE X (.Call (.Name x p) [e] [⟨some (Str.ofString "default"), d, kp⟩] pos) (tCB rMaxD (tCons t1 (tCons t2 tNil))) := by
  intro pins s σ H Q I h
  refine wpAny_Call_Name_kw (ld_blt I hg hm hv ?_ hn hdb)
  refine callWith_kw ?_ (by rw [hs]; rfl) (by rw [hs]; rfl)
  refine thn (pa_cons ha pa_nil hs pos pins s σ H (fun vs H1 => t2 σ H1 fun u H2 => rMaxD (vs ++ [u]) H2 Q) I h) fun us s1 ⟨vs, H1, I1, r1, q1⟩ => ?_
  refine kws_cons (thn (hd pins s1 σ H1 _ I1 q1) fun u s2 ⟨y, H2, I2, r2, q2⟩ => kws_nil ?_)
  obtain ⟨a, ns, i, e1, ea, q⟩ := q2
  obtain ⟨rfl, rfl⟩ : vs = [.ref a] ∧ y = .int i := by
    cases vs with
    | nil => cases e1
    | cons b r =>
      cases r with
      | nil => cases e1; exact ⟨rfl, rfl⟩
      | cons c r => cases r <;> cases e1
  obtain ⟨u1, rfl, ru⟩ := vals1 r1
  cases ru
  obtain ⟨t, rfl⟩ := r2
  obtain ⟨its, rv, pl, _⟩ := I2.list (.of ea)
  obtain ⟨m, hnn, _⟩ := id I2.loc
  refine mx_list (I2.ok.hd hc) (Att.fr_all hnn) (news_all (g := Att.noObjs s2.heap) (L := X.env.locals)) pl.isList (intsAre_of rv) fun v h' tk F N hM => ?_
  rcases hM with ⟨rfl, rfl⟩ | ⟨M, t, rfl, hM, hle⟩
  · exact ⟨.int i, H2, I2.frn hnn F N, ⟨_, rfl⟩, q⟩
  · cases ns with
    | nil => cases hM
    | cons n ns =>
      obtain ⟨a1, a2⟩ := maxI_is ns n
      have e : M = maxI n ns := Int.le_antisymm (a2 M hM) (hle _ a1)
      exact ⟨.int M, H2, I2.frn hnn F N, ⟨t, rfl⟩, by rw [e]; exact q⟩
theorem cd_maxD {K : PySem.W.Frag} : CallD K false dMaxD rMaxD := by
  intro H0 H xs ds z Q s r ho k
  unfold dMaxD at ho
  split at ho <;> first | cases ho | skip
  rename_i es i
  cases hq : intsOf es with
  | none => rw [hq] at ho; cases ho
  | some ns =>
    rw [hq] at ho
    cases ho
    simp only [RDs] at r
    obtain ⟨x1, r1, rfl, q1, x2, r2, rfl, q2, rfl⟩ := r
    obtain ⟨a, ys, rfl, ha, ra⟩ := q1.lst
    have e := intsOf_rd hq ra
    subst e
    cases q2.int
    exact ⟨a, ns, i, rfl, s _ _ ha, k _ H (.pure s (.mkInt _))⟩
theorem q_maxD (hc : X.calm = true) (hg : Gl X x) (hm : X.mg x = none) (hv : bootBuiltins x = some (.builtin "max")) (ha : QE X EX false e f1) (hd : QE X EX false d f2) (hn : x ≠ "__name__" := by decide) (hdb : (x == ("__debug__" : Str)) = false := by decide)
    (hs : starEach [e] X.env = (false, eval e X.env) :: starEach [] X.env := by rfl) :
    QE X EX false (.Call (.Name x p) [e] [⟨some (Str.ofString "default"), d, kp⟩] pos) (eCB dMaxD (eCons f1 (eCons f2 eNil))) :=
  ⟨(pe_maxD hc hg hm hv ha.h hd.h hn hdb hs).imp fun _ _ _ q => (d_cons (d_cb cd_maxD q)).mono' fun _ _ q => (d_cons q).mono' fun _ _ q => d_nil q⟩
end
end L2
set_option Elab.async false
set_option linter.all false
set_option maxRecDepth 100000
set_option maxHeartbeats 4000000
namespace L2
open PySem PySem.Spec PyProof.Rows
end L2
set_option Elab.async false
set_option linter.all false
set_option maxRecDepth 100000
set_option maxHeartbeats 4000000
namespace L2
open PySem PySem.Spec PyProof.Rows
def SR.thn (r : SR) (g : DS → SR) : SR := match r with
  | .nx ρ' => g ρ'
  | r => r
def SR.out (fr : Bool) (r : SR) : R D := match r with
  | .rt d => .ok d
  | .nx _ => if fr = true then .st else .ok .non
  | .er x => .er x
  | _ => .st
theorem sSeq_e (g1 g2 : DS → SR) (ρ : DS) : sSeq g1 g2 ρ = (g1 ρ).thn g2 := rfl
theorem thn_nx (ρ : DS) (g : DS → SR) : (SR.nx ρ).thn g = g ρ := rfl
theorem thn_rt (d : D) (g : DS → SR) : (SR.rt d).thn g = .rt d := rfl
theorem thn_er (x : Ex) (g : DS → SR) : (SR.er x).thn g = .er x := rfl
theorem thn_bk (ρ : DS) (g : DS → SR) : (SR.bk ρ).thn g = .bk ρ := rfl
theorem thn_ct (ρ : DS) (g : DS → SR) : (SR.ct ρ).thn g = .ct ρ := rfl
theorem thn_st (g : DS → SR) : (SR.st).thn g = .st := rfl
theorem thn_ite (c : Prop) [Decidable c] (a b : SR) (g : DS → SR) : (if c then a else b).thn g = if c then a.thn g else b.thn g := by split <;> rfl
theorem mOf_e (fr : Bool) (n k : Nat) (g : DS → SR) (ds : List D) : mOf fr n k g ds = if ds.length = n then (g (ds.map .im ++ List.replicate k .em)).out fr else .st := rfl
theorem out_rt (fr : Bool) (d : D) : (SR.rt d).out fr = .ok d := rfl
theorem out_nx (ρ : DS) : (SR.nx ρ).out false = .ok .non := rfl
theorem out_er (fr : Bool) (x : Ex) : (SR.er x).out fr = .er x := rfl
theorem out_st (fr : Bool) : (SR.st).out fr = .st := rfl
theorem out_ite (fr : Bool) (c : Prop) [Decidable c] (a b : SR) : (if c then a else b).out fr = if c then a.out fr else b.out fr := by split <;> rfl
theorem sRet_e (m : List Bool) (f : DE → R D) (ρ : DS) : sRet m f ρ = (f (vis m ρ)).toS fun d => .rt d := rfl
theorem sAsg_e (fr : Bool) (i : Nat) (m : List Bool) (f : DE → R D) (ρ : DS) : sAsg fr i m f ρ = (f (vis m ρ)).toS fun d => .nx (putS fr i d (thaw (keeps fr d) m ρ)) := rfl
theorem sIf_e (t : DE → R Bool) (g1 g2 : DS → SR) (ρ : DS) : sIf t g1 g2 ρ = (t (see ρ)).toS fun b => if b = true then g1 ρ else g2 ρ := rfl
theorem toS_ok {α : Type} (a : α) (k : α → SR) : R.toS (.ok a) k = k a := rfl
theorem toS_er {α : Type} (x : Ex) (k : α → SR) : R.toS (.er x : R α) k = .er x := rfl
theorem toS_st {α : Type} (k : α → SR) : R.toS (.st : R α) k = .st := rfl
theorem toS_ite {α : Type} (c : Prop) [Decidable c] (a b : R α) (k : α → SR) : R.toS (if c then a else b) k = if c then R.toS a k else R.toS b k := by split <;> rfl
theorem bind_er {α β : Type} (x : Ex) (k : α → R β) : R.bind (.er x : R α) k = .er x := rfl
theorem noE_ok {α : Type} (a : α) : (R.ok a).noE = .ok a := rfl
theorem vis_n (m : List Bool) : vis m [] = [] := by cases m <;> rfl
theorem vis_0 (s : Sl) (r : DS) : vis [] (s :: r) = s.see false :: vis [] r := rfl
theorem vis_c (b : Bool) (m : List Bool) (s : Sl) (r : DS) : vis (b :: m) (s :: r) = s.see b :: vis m r := rfl
theorem see_n : see [] = [] := rfl
theorem see_c (s : Sl) (r : DS) : see (s :: r) = s.see true :: see r := rfl
theorem see_em (b : Bool) : Sl.see b .em = none := rfl
theorem see_im (b : Bool) (d : D) : Sl.see b (.im d) = some d := rfl
theorem see_ow1 (d : D) : Sl.see true (.ow d) = some d := rfl
theorem see_ow0 (d : D) : Sl.see false (.ow d) = none := rfl
theorem thaw_t (m : List Bool) (ρ : DS) : thaw true m ρ = ρ := rfl
theorem keep_int (fr : Bool) (i : Int) : keeps fr (.int i) = true := by cases fr <;> rfl
theorem keep_bl (fr : Bool) (i : Bool) : keeps fr (.bl i) = true := by cases fr <;> rfl
theorem keep_non (fr : Bool) : keeps fr .non = true := by cases fr <;> rfl
theorem keep_str (fr : Bool) (x : PySem.Str) : keeps fr (.str x) = true := by cases fr <;> rfl
theorem keep_tup (fr : Bool) (ds : List D) : keeps fr (.tup ds) = noLs ds := by cases fr <;> simp only [keeps, D.noL, D.shal, if_true, Bool.false_eq_true, if_false]
theorem keep_lst (ds : List D) : keeps true (.lst ds) = noLs ds := rfl
theorem noLs_n : noLs [] = true := by simp only [noLs]
theorem noLs_c (d : D) (r : List D) : noLs (d :: r) = (d.noL && noLs r) := by simp only [noLs]
theorem noL_int (i : Int) : (D.int i).noL = true := by simp only [D.noL]
theorem noL_bl (i : Bool) : (D.bl i).noL = true := by simp only [D.noL]
theorem noL_str (i : PySem.Str) : (D.str i).noL = true := by simp only [D.noL]
theorem noL_non : (D.non).noL = true := by simp only [D.noL]
theorem noL_tup (ds : List D) : (D.tup ds).noL = noLs ds := by simp only [D.noL]
theorem noL_lst (ds : List D) : (D.lst ds).noL = false := by simp only [D.noL]
theorem put_f (i : Nat) (d : D) (ρ : DS) : putS false i d ρ = ρ.set i (.im d) := rfl
theorem put_t (i : Nat) (d : D) (ρ : DS) : putS true i d ρ = ρ.set i (.ow d) := rfl
theorem sel_n (ρ : DE) : sel [] ρ = [] := rfl
theorem sel_c (j : Nat) (r : List Nat) (ρ : DE) : sel (j :: r) ρ = (ρ[j]?).getD none :: sel r ρ := rfl
theorem var0 (d : D) (r : DE) : eVar 0 (some d :: r) = .ok d := rfl
theorem varS (i : Nat) (d : Option D) (r : DE) : eVar (i + 1) (d :: r) = eVar i r := rfl
theorem dI_ii (g : Int → Int → D) (i j : Int) : dI g (.int i) (.int j) = some (g i j) := rfl
theorem dIC_ii (C : Int → Int → Prop) [∀ i j, Decidable (C i j)] (g : Int → Int → D) (i j : Int) : dIC C g (.int i) (.int j) = if C i j then some (g i j) else none := rfl
theorem asB_b (b : Bool) : asB (.bl b) = some b := rfl
theorem dTru_b (b : Bool) : dTru (.bl b) = some b := rfl
theorem dTru_l (ds : List D) : dTru (.lst ds) = some (!ds.isEmpty) := rfl
theorem dTru_i (i : Int) : dTru (.int i) = some (i != 0) := rfl
theorem beq_dec (i j : Int) : (i == j) = decide (i = j) := by rw [Bool.eq_iff_iff]; simp
theorem dEq_ii (i j : Int) : dEq (.int i) (.int j) = some (.bl (decide (i = j))) := by
  unfold dEq
  rw [if_pos (by simp [D.pl, D.dep])]
  simp only [eqD, beq_dec]
theorem dNe_ii (i j : Int) : dNe (.int i) (.int j) = some (.bl (!decide (i = j))) := by
  unfold dNe
  rw [if_pos (by simp [D.pl, D.dep])]
  simp only [eqD, beq_dec]
theorem dEq_bb (i j : Bool) : dEq (.bl i) (.bl j) = some (.bl (i == j)) := by
  unfold dEq
  rw [if_pos (by simp [D.pl, D.dep])]
  simp only [eqD]
theorem dEq_t2 (a b c e : Int) : dEq (.tup [.int a, .int b]) (.tup [.int c, .int e]) = some (.bl (decide (a = c) && decide (b = e))) := by
  unfold dEq
  rw [if_pos (by simp [D.pl, D.dep, pls, deps])]
  simp only [eqD, eqDs, beq_dec, Bool.and_true]
theorem dNe_t2 (a b c e : Int) : dNe (.tup [.int a, .int b]) (.tup [.int c, .int e]) = some (.bl (!(decide (a = c) && decide (b = e)))) := by
  unfold dNe
  rw [if_pos (by simp [D.pl, D.dep, pls, deps])]
  simp only [eqD, eqDs, beq_dec, Bool.and_true]
theorem dIx_t0 (a : D) (r : List D) : dIx (.tup (a :: r)) (.int 0) = some a := by simp only [dIx, dOr, dIxS, atI0]
theorem dIx_t1 (a b : D) (r : List D) : dIx (.tup (a :: b :: r)) (.int 1) = some b := by simp only [dIx, dOr, dIxS, atI1]
theorem dIx_t2 (a b c : D) (r : List D) : dIx (.tup (a :: b :: c :: r)) (.int 2) = some c := by simp only [dIx, dOr, dIxS, show atI (a :: b :: c :: r) 2 = some c from atI_nat (j := 2) rfl]
theorem dIx_l0 (a : D) (r : List D) : dIx (.lst (a :: r)) (.int 0) = some a := by simp only [dIx, dOr, dIxS, atI0]
theorem dIx_l1 (a b : D) (r : List D) : dIx (.lst (a :: b :: r)) (.int 1) = some b := by simp only [dIx, dOr, dIxS, atI1]
theorem dIx_ln {ds : List D} {j : Nat} {d : D} (h : ds[j]? = some d) : dIx (.lst ds) (.int (j : Int)) = some d := by simp only [dIx, dOr, dIxS, atI_nat h]
theorem dIx_tn {ds : List D} {j : Nat} {d : D} (h : ds[j]? = some d) : dIx (.tup ds) (.int (j : Int)) = some d := by simp only [dIx, dOr, dIxS, atI_nat h]
theorem dIx_scr {ns : List Int} {k : Int} (h0 : 0 ≤ k) (h1 : k < ns.length) : dIx (.scr ns) (.int k) = some (.int (ns.getD k.toNat 0)) := by
  have hk : k.toNat < ns.length := by omega
  have e : atI ns k = some (ns.getD k.toNat 0) := by
    have := atI_nat (xs := ns) (j := k.toNat) (v := ns.getD k.toNat 0) (by rw [List.getD_eq_getElem?_getD, List.getElem?_eq_getElem hk]; rfl)
    rwa [show ((k.toNat : Nat) : Int) = k by omega] at this
  simp only [dIx, dOr, dIxS, e, Option.map_some]
theorem dLen_s (ns : List Int) : dLen [.scr ns] = some (.int ns.length) := rfl
theorem dLen_l (ns : List D) : dLen [.lst ns] = some (.int ns.length) := rfl
theorem dLen_t (ns : List D) : dLen [.tup ns] = some (.int ns.length) := rfl
theorem or_ok (b c : Bool) : (if b = true then R.ok true else R.ok c) = R.ok (b || c) := by cases b <;> rfl
theorem and_ok (b c : Bool) : (if b = true then R.ok c else R.ok false) = R.ok (b && c) := by cases b <;> rfl
theorem orD_ok (b c : Bool) : (if b = true then R.ok (D.bl true) else R.ok (D.bl c)) = R.ok (D.bl (b || c)) := by cases b <;> rfl
theorem andD_ok (b c : Bool) : (if b = true then R.ok (D.bl c) else R.ok (D.bl false)) = R.ok (D.bl (b && c)) := by cases b <;> rfl
theorem isi_ii (i : Int) : dIsi "int" (.int i) = some (.bl true) := by simp [dIsi, dKind, isKnd, isiB]
theorem isi_ib (i : Int) : dIsi "bool" (.int i) = some (.bl false) := by simp [dIsi, dKind, isKnd, isiB]
theorem isi_bb (i : Bool) : dIsi "bool" (.bl i) = some (.bl true) := by simp [dIsi, dKind, isKnd, isiB]
theorem isi_tt (ds : List D) : dIsi "tuple" (.tup ds) = some (.bl true) := by simp [dIsi, dKind, isKnd, isiB]
theorem isi_ll (ds : List D) : dIsi "list" (.lst ds) = some (.bl true) := by simp [dIsi, dKind, isKnd, isiB]
theorem forL_n (tg : Tg) (g : DS → SR) (ρ : DS) : forL tg g [] ρ = .nx ρ := rfl
def SR.itr (r : SR) (k : DS → SR) : SR := match r with
  | .nx ρ2 => k ρ2
  | .ct ρ2 => k ρ2
  | .bk ρ2 => .nx ρ2
  | .rt d => .rt d
  | .er x => .er x
  | .st => .st
theorem itr_nx (ρ : DS) (k : DS → SR) : (SR.nx ρ).itr k = k ρ := rfl
theorem itr_ct (ρ : DS) (k : DS → SR) : (SR.ct ρ).itr k = k ρ := rfl
theorem itr_bk (ρ : DS) (k : DS → SR) : (SR.bk ρ).itr k = .nx ρ := rfl
theorem itr_rt (d : D) (k : DS → SR) : (SR.rt d).itr k = .rt d := rfl
theorem itr_ite (c : Prop) [Decidable c] (a b : SR) (g : DS → SR) : (if c then a else b).itr g = if c then a.itr g else b.itr g := by split <;> rfl
theorem compL_n (bn : D → Option (List D)) (t : DE → R Bool) (f : DE → R D) (cs : DE) : compL bn t f cs [] = .ok [] := rfl
theorem compL_1 (f : DE → R D) (cs : DE) (d : D) (ds : List D) : compL b1 bYes f cs (d :: ds) = (f (some d :: cs)).noE.bind fun y => (compL b1 bYes f cs ds).bind fun ys => .ok (y :: ys) := rfl
theorem compL_map {bn : D → Option (List D)} {f : DE → R D} {cs : DE} {α : Type} {en : α → D} {bs : α → List D} {g : α → D} (xs : List α) (hb : ∀ x ∈ xs, bn (en x) = some (bs x)) (hf : ∀ x ∈ xs, f ((bs x).map some ++ cs) = .ok (g x)) : compL bn bYes f cs (xs.map en) = .ok (xs.map g) := by
  induction xs with
  | nil => rfl
  | cons x xs ih =>
    simp only [List.map_cons, compL, hb x (by simp), bYes, R.of_some, R.bind_ok, noE_ok, if_true, hf x (by simp), ih (fun y hy => hb y (by simp [hy])) (fun y hy => hf y (by simp [hy]))]
theorem compL_flt {bn : D → Option (List D)} {t : DE → R Bool} {f : DE → R D} {cs : DE} {α : Type} {en : α → D} {bs : α → List D} {p : α → Bool} {g : α → D} (xs : List α) (hb : ∀ x ∈ xs, bn (en x) = some (bs x)) (ht : ∀ x ∈ xs, t ((bs x).map some ++ cs) = .ok (p x)) (hf : ∀ x ∈ xs, p x = true → f ((bs x).map some ++ cs) = .ok (g x)) : compL bn t f cs (xs.map en) = .ok ((xs.filter p).map g) := by
  induction xs with
  | nil => rfl
  | cons x xs ih =>
    have ih' := ih (fun y hy => hb y (by simp [hy])) (fun y hy => ht y (by simp [hy])) (fun y hy => hf y (by simp [hy]))
    simp only [List.map_cons, compL, hb x (by simp), ht x (by simp), R.of_some, R.bind_ok, noE_ok, ih']
    cases e : p x with
    | true => simp only [if_true, hf x (by simp) e, noE_ok, R.bind_ok, List.filter_cons, e, List.map_cons]
    | false => simp only [Bool.false_eq_true, if_false, List.filter_cons, e]
theorem forL_inv {tg : Tg} {g : DS → SR} {α : Type} {en : α → D} (P : List α → DS → Prop) (xs : List α) (ρ : DS) (h0 : P xs ρ) (hs : ∀ x r ρ, P (x :: r) ρ → ∃ ρ1 ρ2, putT tg (en x) ρ = some ρ1 ∧ (g ρ1 = .nx ρ2 ∨ g ρ1 = .ct ρ2) ∧ P r ρ2) : ∃ ρ', forL tg g (xs.map en) ρ = .nx ρ' ∧ P [] ρ' := by
  induction xs generalizing ρ with
  | nil => exact ⟨ρ, rfl, h0⟩
  | cons x r ih =>
    obtain ⟨ρ1, ρ2, e1, e2, q⟩ := hs x r ρ h0
    obtain ⟨ρ', e', p'⟩ := ih ρ2 q
    refine ⟨ρ', ?_, p'⟩
    rcases e2 with e2 | e2 <;> simp only [List.map_cons, forL, e1, e2, e']
end L2
set_option Elab.async false
set_option linter.all false
set_option maxRecDepth 100000
set_option maxHeartbeats 4000000
namespace L2
open PySem PySem.Spec PyProof.Rows
def L (ns : List Int) : D := .lst (ns.map .int)
theorem noLs_map {α : Type} (f : α → D) (xs : List α) (h : ∀ x ∈ xs, (f x).noL = true) : noLs (xs.map f) = true := by
  induction xs with
  | nil => simp only [List.map_nil, noLs]
  | cons a r ih => simp only [List.map_cons, noLs, h a (by simp), ih fun x hx => h x (by simp [hx]), Bool.and_self]
theorem keep_L (ns : List Int) : keeps true (L ns) = true := by
  unfold L; rw [keep_lst]; exact noLs_map _ _ fun x _ => noL_int x
theorem len_L (ns : List Int) : dLen [L ns] = some (.int ns.length) := by unfold L; rw [dLen_l, List.length_map]
theorem list_L (ns : List Int) : dList [L ns] = some (L ns) := rfl
theorem isi_L (ns : List Int) : dIsi "list" (L ns) = some (.bl true) := isi_ll _
theorem items_L (ns : List Int) : items (L ns) = some (ns.map .int) := rfl
theorem ix_L {ns : List Int} {x : Int} (h0 : 0 ≤ x) (h1 : x.toNat < ns.length) : dIx (L ns) (.int x) = some (.int (ns.getD x.toNat 0)) := by
  have e : (ns.map D.int)[x.toNat]? = some (.int (ns.getD x.toNat 0)) := by
    rw [List.getElem?_map, List.getElem?_eq_getElem h1, List.getD_eq_getElem?_getD, List.getElem?_eq_getElem h1]; rfl
  have := dIx_ln e
  rwa [show ((x.toNat : Nat) : Int) = x by omega] at this
theorem ix_N {ns : List Int} {k : Nat} (h1 : k < ns.length) : dIx (L ns) (.int (k : Int)) = some (.int (ns.getD k 0)) := ix_L (x := (k : Int)) (by omega) (by simpa using h1)
theorem app_L {ns : List Int} {x : Int} (h : ns.length < 100000) : mApp (L ns) [.int x] = some (L (ns ++ [x])) := by
  simp only [L, mApp, List.length_map, h, if_true, List.map_append, List.map_cons, List.map_nil]
theorem sl_L (ns : List Int) (lo hi : Option Int) : dSl (L ns) lo hi = some (L (cutL ns lo hi)) := by
  simp only [L, dSl, cutL, List.length_map, List.map_take, List.map_drop]
theorem sl_scr (ns : List Int) (lo hi : Option Int) : dSl (.scr ns) lo hi = some (L (cutL ns lo hi)) := rfl
theorem sum_L (ns : List Int) : dSum [L ns] = some (.int ns.sum) := by simp only [L, dSum, intsOf_map, Option.map_some]
theorem all_map {α : Type} (xs : List α) (f : α → Bool) : dAll [.lst (xs.map fun x => D.bl (f x))] = some (.bl (xs.all f)) := by
  have : xs.map (fun x => D.bl (f x)) = (xs.map f).map D.bl := by rw [List.map_map]; rfl
  rw [this]; simp only [dAll, boolsOf_map, Option.map_some, List.all_map]; rfl
theorem dep_L (ns : List Int) : (L ns).dep ≤ 1 ∧ (L ns).pl = true := by
  have : ∀ ns : List Int, deps (ns.map D.int) = 0 ∧ pls (ns.map D.int) = true := fun ns => by
    induction ns with
    | nil => simp only [List.map_nil, deps, pls, and_self]
    | cons a r ih => simp only [List.map_cons, deps, pls, D.dep, D.pl, ih.1, ih.2, Bool.and_self, Nat.max_self, and_self]
  simp only [L, D.dep, D.pl, this]; exact ⟨by omega, trivial⟩
theorem eqDs_L : ∀ (a b : List Int), eqDs (a.map D.int) (b.map D.int) = decide (a = b)
  | [], [] => by simp [eqDs]
  | [], _ :: _ => by simp [eqDs]
  | _ :: _, [] => by simp [eqDs]
  | x :: a, y :: b => by
    simp only [List.map_cons, eqDs, eqD, eqDs_L a b, List.cons.injEq, Bool.decide_and, beq_dec]
theorem eq_L (a b : List Int) : dEq (L a) (L b) = some (.bl (decide (a = b))) := by
  unfold dEq
  rw [if_pos ⟨(dep_L a).2, (dep_L b).2, by have := (dep_L a).1; omega⟩]
  simp only [L, eqD, eqDs_L]
theorem ne_L (a b : List Int) : dNe (L a) (L b) = some (.bl (!decide (a = b))) := by
  unfold dNe
  rw [if_pos ⟨(dep_L a).2, (dep_L b).2, by have := (dep_L a).1; omega⟩]
  simp only [L, eqD, eqDs_L]
theorem forL_rng {tg : Tg} {g : DS → SR} (n : Nat) (en : Nat → D) (P : Nat → DS → Prop) (ρ : DS) (h0 : P 0 ρ)
    (hs : ∀ i, i < n → ∀ ρ, P i ρ → ∃ ρ1 ρ2, putT tg (en i) ρ = some ρ1 ∧ (g ρ1 = .nx ρ2 ∨ g ρ1 = .ct ρ2) ∧ P (i + 1) ρ2) :
    ∃ ρ', forL tg g ((List.range n).map en) ρ = .nx ρ' ∧ P n ρ' := by
  have key : ∀ k s ρ, s + k = n → P s ρ → ∃ ρ', forL tg g ((List.range' s k).map en) ρ = .nx ρ' ∧ P n ρ' := by
    intro k
    induction k with
    | zero => intro s ρ e h; exact ⟨ρ, rfl, by rwa [← e]⟩
    | succ k ih =>
      intro s ρ e h
      obtain ⟨ρ1, ρ2, e1, e2, q⟩ := hs s (by omega) ρ h
      obtain ⟨ρ', e', p'⟩ := ih (s + 1) ρ2 (by omega) q
      refine ⟨ρ', ?_, p'⟩
      rw [List.range'_succ, List.map_cons]
      rcases e2 with e2 | e2 <;> simp only [forL, e1, e2, e']
  rw [List.range_eq_range']
  exact key n 0 ρ (by omega) h0
theorem enum_rng (n : Nat) (g : Nat → D) : ((zD 0 ((List.range n).map g).length).zip ((List.range n).map g)).map (fun p => D.tup [p.1, p.2]) = (List.range n).map fun (i : Nat) => D.tup [.int (i : Int), g i] := by
  simp only [zD, List.length_map, List.length_range]
  have : ∀ (l : List Nat), ((l.map fun (i : Nat) => D.int (0 + i)).zip (l.map g)).map (fun p => D.tup [p.1, p.2]) = l.map fun (i : Nat) => D.tup [.int (i : Int), g i] := fun l => by
    induction l with
    | nil => rfl
    | cons a r ih => simp only [Int.zero_add] at ih ⊢; simp only [List.map_cons, List.zip_cons_cons, ih]
  exact this _
theorem as_rng {α : Type} (xs : List α) (d : α) : xs = (List.range xs.length).map fun i => xs.getD i d := by
  apply List.ext_getElem?
  intro i
  by_cases h : i < xs.length
  · rw [List.getElem?_map, List.getElem?_range h, Option.map_some, List.getD_eq_getElem?_getD, List.getElem?_eq_getElem h]; rfl
  · rw [List.getElem?_eq_none (by omega), List.getElem?_eq_none (by simp; omega)]
theorem isT_L (ns : List Int) : isT "list" (L ns) = true := by simp only [L, isT, beq_self_eq_true]
theorem thaw_f (m : List Bool) (ρ : DS) : thaw false m ρ = frz m ρ := rfl
theorem frz_0 (ρ : DS) : frz [] ρ = ρ := by cases ρ <;> rfl
theorem frz_n (m : List Bool) : frz m [] = [] := by cases m <;> rfl
theorem frz_c (b : Bool) (m : List Bool) (s : Sl) (r : DS) : frz (b :: m) (s :: r) = s.frz b :: frz m r := rfl
theorem frz_im (b : Bool) (d : D) : Sl.frz b (.im d) = .im d := rfl
theorem frz_em (b : Bool) : Sl.frz b .em = .em := rfl
theorem frz_ow0 (d : D) : Sl.frz false (.ow d) = .ow d := rfl
theorem frz_ow1 (d : D) : Sl.frz true (.ow d) = .im d := rfl
theorem mul_l {i j : Int} (h : -(2 ^ 64) < i ∧ i < 2 ^ 64) : dMul (.int i) (.int j) = some (.int (i * j)) := by
  unfold dMul; rw [dIC_ii, if_pos (show CMul i j from Or.inl h)]
theorem mul_r {i j : Int} (h : -(2 ^ 64) < j ∧ j < 2 ^ 64) : dMul (.int i) (.int j) = some (.int (i * j)) := by
  unfold dMul; rw [dIC_ii, if_pos (show CMul i j from Or.inr h)]
theorem mod_p {i j : Int} (h : 0 < j) : dMod (.int i) (.int j) = some (.int (i % j)) := by
  unfold dMod; rw [dIC_ii, if_pos h]
theorem div_p {i j : Int} (h : 0 < j ∧ j < 1073741824) : dDiv (.int i) (.int j) = some (.int (i / j)) := by
  unfold dDiv; rw [dIC_ii, if_pos (show CDiv i j from h)]
theorem of_int (i : Int) : R.of (match D.int i with | .int i => some (some i) | _ => none) = R.ok (some i) := rfl
theorem rng1_ok {j : Int} (hj : -100000 ≤ j ∧ j ≤ 100000) : -(2 ^ 62) ≤ j ∧ j < 2 ^ 62 := by omega
theorem iR1_e {fs : DE → R (List D)} {ρ : DE} (j : Int) (hj : -100000 ≤ j ∧ j ≤ 100000) (h : fs ρ = .ok [.int j]) : iR1d fs ρ = .ok (zD 0 j.toNat) := by
  unfold iR1d; rw [h, R.bind_ok]
  show R.of (if _ then _ else _) = _
  rw [if_pos (rng1_ok hj)]; rfl
theorem items_l (ds : List D) : items (.lst ds) = some ds := rfl
theorem items_t (ds : List D) : items (.tup ds) = some ds := rfl
theorem zD_len (lo : Int) (n : Nat) : (zD lo n).length = n := by simp [zD]
theorem keep_lstf (ds : List D) : keeps false (.lst ds) = false := by simp only [keeps, D.noL, Bool.false_eq_true, if_false]
theorem keep_Lf (ns : List Int) : keeps false (L ns) = false := keep_lstf _
end L2
set_option Elab.async false
set_option linter.all false
set_option maxRecDepth 100000
set_option maxHeartbeats 4000000
namespace L2
open PySem PySem.Spec PyProof.Rows
def T2 (p : Int × Int) : D := .tup [.int p.1, .int p.2]
def T3 (p : Int × Int × Int) : D := .tup [.int p.1, .int p.2.1, .int p.2.2]
theorem sort_same {l l' : List D} (h : ois l' = true) (p : l.Perm l') : sortT l = sortT l' :=
  srt_same (ois_perm ((sortT_perm l).trans p) h) (((sortT_perm l).trans p).trans (sortT_perm l').symm) (sortT_srt (ois_perm p h)) (sortT_srt h)
def insB {α : Type} (lt : α → α → Bool) (d : α) : List α → List α
  | [] => [d]
  | e :: r => if lt e d = true then e :: insB lt d r else d :: e :: r
def sortB {α : Type} (lt : α → α → Bool) : List α → List α
  | [] => []
  | d :: r => insB lt d (sortB lt r)
section
variable {α : Type} (f : α → D)
theorem insB_map (d : α) : ∀ l : List α, insT (f d) (l.map f) = (insB (fun a b => ltT (f a) (f b)) d l).map f
  | [] => rfl
  | e :: r => by
    simp only [List.map_cons, insT, insB]
    split
    · rw [List.map_cons, insB_map d r]
    · rfl
theorem sortB_map : ∀ l : List α, sortT (l.map f) = (sortB (fun a b => ltT (f a) (f b)) l).map f
  | [] => rfl
  | d :: r => by simp only [List.map_cons, sortT, sortB, sortB_map r, insB_map]
variable (lt : α → α → Bool)
theorem insB_perm (d : α) : ∀ l : List α, (insB lt d l).Perm (d :: l)
  | [] => .refl _
  | e :: r => by
    unfold insB
    split
    · exact ((insB_perm d r).cons e).trans (.swap d e r)
    · exact .refl _
theorem sortB_perm : ∀ l : List α, (sortB lt l).Perm l
  | [] => .refl _
  | d :: r => (insB_perm lt d (sortB lt r)).trans ((sortB_perm r).cons d)
end
def so3 (ls : List (Int × Int × Int)) : List (Int × Int × Int) := sortB (fun a b => ltT (T3 a) (T3 b)) ls
theorem so3_map (ls : List (Int × Int × Int)) : sortT (ls.map T3) = (so3 ls).map T3 := sortB_map _ _
theorem so3_perm (ls : List (Int × Int × Int)) : (so3 ls).Perm ls := sortB_perm _ _
theorem all_of {α : Type} (xs : List α) (f : α → D) (p : D → Bool) (h : ∀ x, p (f x) = true) : (xs.map f).all p = true := by
  rw [List.all_eq_true]; intro d hd; obtain ⟨x, _, rfl⟩ := List.mem_map.mp hd; exact h x
theorem ois_of {α : Type} (xs : List α) (f : α → D) (h : ∀ x, (f x).oi = true) : ois (xs.map f) = true :=
  ois_mem.mpr fun d hd => by obtain ⟨x, _, rfl⟩ := List.mem_map.mp hd; exact h x
theorem deps_of {α : Type} (xs : List α) (f : α → D) (n : Nat) (h : ∀ x, (f x).dep ≤ n) : deps (xs.map f) ≤ n := by
  induction xs with
  | nil => simp only [List.map_nil, deps, Nat.zero_le]
  | cons a r ih => simp only [List.map_cons, deps]; have := h a; omega
theorem pls_of {α : Type} (xs : List α) (f : α → D) (h : ∀ x, (f x).pl = true) : pls (xs.map f) = true := by
  induction xs with
  | nil => simp only [List.map_nil, pls]
  | cons a r ih => simp only [List.map_cons, pls, h a, ih, Bool.and_self]
theorem oi_T3 (p : Int × Int × Int) : (T3 p).oi = true := by simp [T3, D.oi, ois]
theorem dep_T2 (p : Int × Int) : (T2 p).dep ≤ 1 := by simp [T2, D.dep, deps]
theorem pl_T2 (p : Int × Int) : (T2 p).pl = true := by simp [T2, D.pl, pls]
theorem noL_T2 (p : Int × Int) : (T2 p).noL = true := by simp [T2, D.noL, noLs]
theorem noL_T3 (p : Int × Int × Int) : (T3 p).noL = true := by simp [T3, D.noL, noLs]
theorem T3_inj {p q : Int × Int × Int} (h : T3 p = T3 q) : p = q := by
  obtain ⟨a, b, c⟩ := p; obtain ⟨a', b', c'⟩ := q
  simp only [T3, D.tup.injEq, List.cons.injEq, D.int.injEq, and_true] at h
  simp only [Prod.mk.injEq]; exact h
theorem map_inj' {α β : Type} {f : α → β} (hf : ∀ x y, f x = f y → x = y) : ∀ {a b : List α}, a.map f = b.map f → a = b
  | [], [], _ => rfl
  | [], _ :: _, h => by simp at h
  | _ :: _, [], h => by simp at h
  | x :: a, y :: b, h => by
    simp only [List.map_cons, List.cons.injEq] at h
    rw [hf _ _ h.1, map_inj' hf h.2]
theorem so3_same {a b : List (Int × Int × Int)} (p : a.Perm b) : so3 a = so3 b := by
  have := sort_same (ois_of b T3 oi_T3) (p.map T3)
  rw [so3_map, so3_map] at this
  exact map_inj' (fun _ _ => T3_inj) this
theorem mxD_is {d m : Int} {ys : List Int} (h1 : ∀ y ∈ ys, y ≤ m) (h2 : m ∈ ys ∨ (ys = [] ∧ d = m)) : mxD d ys = m := by
  cases ys with
  | nil =>
    rcases h2 with h2 | h2
    · cases h2
    · exact h2.2
  | cons n ns =>
    rcases h2 with h2 | h2
    · obtain ⟨a, b⟩ := maxI_is ns n
      exact Int.le_antisymm (h1 _ a) (b _ h2)
    · cases h2.1
end L2
set_option Elab.async false
set_option linter.all false
set_option maxRecDepth 100000
set_option maxHeartbeats 4000000
namespace L2
open PySem PySem.Spec PyProof.Rows
theorem isT_l (ds : List D) : isT "list" (.lst ds) = true := by simp only [isT, beq_self_eq_true]
theorem int_b (b : Bool) : dInt [.bl b] = some (.int (if b then 1 else 0)) := rfl
theorem int_i (i : Int) : dInt [.int i] = some (.int i) := rfl
theorem list_t (ds : List D) : dList [.tup ds] = some (.lst ds) := rfl
theorem list_l (ds : List D) : dList [.lst ds] = some (.lst ds) := rfl
theorem tuple_l (ds : List D) : dTuple [.lst ds] = some (.tup ds) := rfl
theorem tuple_t (ds : List D) : dTuple [.tup ds] = some (.tup ds) := rfl
theorem keep_lT2 (ls : List (Int × Int)) : noLs (ls.map T2) = true := noLs_map _ _ fun x _ => noL_T2 x
theorem keep_lT3 (ls : List (Int × Int × Int)) : noLs (ls.map T3) = true := noLs_map _ _ fun x _ => noL_T3 x
theorem app_T2 {ls : List (Int × Int)} {a b : Int} (h : ls.length < 100000) : mApp (.lst (ls.map T2)) [.tup [.int a, .int b]] = some (.lst ((ls ++ [(a, b)]).map T2)) := by
  simp only [mApp, List.length_map, h, if_true, List.map_append, List.map_cons, List.map_nil]; rfl
theorem ne_self' {d : D} (hp : d.pl = true) (hd : d.dep ≤ 20) : dNe d d = some (.bl false) := by
  unfold dNe; rw [if_pos ⟨hp, hp, hd⟩, eqD_refl d hp]; rfl
theorem pl_lT2 (ls : List (Int × Int)) : (D.lst (ls.map T2)).pl = true ∧ (D.lst (ls.map T2)).dep ≤ 20 := by
  have := deps_of ls T2 1 dep_T2
  simp only [D.pl, D.dep, pls_of ls T2 pl_T2, true_and]; omega
theorem eqD_T2 (p q : Int × Int) : eqD (T2 p) (T2 q) = decide (p = q) := by
  obtain ⟨a, b⟩ := p; obtain ⟨c, d⟩ := q
  simp only [T2, eqD, eqDs, beq_dec, Bool.and_true, Prod.mk.injEq, Bool.decide_and]
theorem sum_T3 (t : Int × Int × Int) : dSum [T3 t] = some (.int (t.1 + (t.2.1 + (t.2.2 + 0)))) := by
  simp only [T3, dSum, intsOf, Option.map_some, List.sum_cons, List.sum_nil]
theorem sum_T2 (t : Int × Int) : dSum [T2 t] = some (.int (t.1 + (t.2 + 0))) := by
  simp only [T2, dSum, intsOf, Option.map_some, List.sum_cons, List.sum_nil]
theorem isi_T3 (t : Int × Int × Int) : dIsi "tuple" (T3 t) = some (.bl true) := isi_tt _
theorem isi_T2 (t : Int × Int) : dIsi "tuple" (T2 t) = some (.bl true) := isi_tt _
theorem len_T2 (t : Int × Int) : dLen [T2 t] = some (.int 2) := rfl
theorem ix2_0 (t : Int × Int) : dIx (T2 t) (.int 0) = some (.int t.1) := dIx_t0 _ _
theorem ix2_1 (t : Int × Int) : dIx (T2 t) (.int 1) = some (.int t.2) := dIx_t1 _ _ _
theorem items_T3 (t : Int × Int × Int) : items (T3 t) = some [.int t.1, .int t.2.1, .int t.2.2] := rfl
theorem cat_T2 (a b : List (Int × Int)) (h : a.length + b.length ≤ 100000) : dCat (.lst (a.map T2)) (.lst (b.map T2)) = some (.lst ((a ++ b).map T2)) := by
  simp only [dCat, List.length_map, h, if_true, List.map_append]
end L2
set_option Elab.async false
set_option linter.all false
set_option maxRecDepth 100000
set_option maxHeartbeats 4000000
namespace L2
open PySem PySem.Spec PyProof.Rows
end L2
set_option Elab.async false
set_option linter.all false
set_option maxRecDepth 100000
set_option maxHeartbeats 4000000
namespace L2
open PySem PySem.Spec PyProof.Rows
end L2
set_option Elab.async false
set_option linter.all false
set_option maxRecDepth 100000
set_option maxHeartbeats 4000000
namespace L2
open PySem PySem.Spec PyProof.Rows
end L2
set_option Elab.async false
set_option linter.all false
set_option maxRecDepth 100000
set_option maxHeartbeats 4000000
namespace L2
open PySem PySem.Spec PyProof.Rows
end L2
set_option Elab.async false
set_option linter.all false
set_option maxRecDepth 100000
set_option maxHeartbeats 4000000
namespace L2
open PySem PySem.Spec PyProof.Rows
def CDivG (i j : Int) : Prop := 0 < j ∧ j < 2 ^ 200
instance (i j : Int) : Decidable (CDivG i j) := by unfold CDivG; infer_instance
end L2
set_option Elab.async false
set_option linter.all false
set_option maxRecDepth 100000
set_option maxHeartbeats 4000000
namespace L2
open PySem PySem.Spec PyProof.Rows
end L2
set_option Elab.async false
set_option linter.all false
set_option maxRecDepth 100000
set_option maxHeartbeats 4000000
namespace L2
open PySem PySem.Spec PyProof.Rows
end L2
set_option Elab.async false
set_option linter.all false
set_option maxRecDepth 100000
set_option maxHeartbeats 4000000
namespace L2
open PySem PySem.Spec PyProof.Rows
end L2
set_option Elab.async false
set_option linter.all false
set_option maxRecDepth 100000
set_option maxHeartbeats 4000000
namespace L2
open PySem PySem.Spec PyProof.Rows
mutual
def nkD : D → Option NK
  | .int n => some (.i n)
  | .tup ds => (nksD ds).map .t
  | _ => none
def nksD : List D → Option (List NK)
  | [] => some []
  | d :: ds => match nkD d, nksD ds with
    | some k, some ks => some (k :: ks)
    | _, _ => none
end
mutual
theorem nkD_rd {K : PySem.W.Frag} {H : Hp} : ∀ {d : D} {k : NK} {x : V}, nkD d = some k → RD K H d x → NKr H k x
  | .int n, k, x, e, r => by
    simp only [nkD, Option.some.injEq] at e; subst e
    cases r.int; simp only [NKr]
  | .tup ds, k, x, e, r => by
    simp only [nkD, Option.map_eq_some_iff] at e
    obtain ⟨ks, e, rfl⟩ := e
    obtain ⟨a, xs, rfl, ha, ra⟩ := r.tup
    simp only [NKr]
    exact ⟨a, xs, rfl, ha, nksD_rd e ra⟩
  | .non, _, _, e, _ => by simp [nkD] at e
  | .bl _, _, _, e, _ => by simp [nkD] at e
  | .str _, _, _, e, _ => by simp [nkD] at e
  | .lst _, _, _, e, _ => by simp [nkD] at e
  | .dk _ _, _, _, e, _ => by simp [nkD] at e
  | .dt _ _, _, _, e, _ => by simp [nkD] at e
  | .dn _ _, _, _, e, _ => by simp [nkD] at e
  | .scr _, _, _, e, _ => by simp [nkD] at e
  | .exc _ _, _, _, e, _ => by simp [nkD] at e
theorem nksD_rd {K : PySem.W.Frag} {H : Hp} : ∀ {ds : List D} {ks : List NK} {xs : List V}, nksD ds = some ks → RDs K H ds xs → NKrs H ks xs
  | [], ks, xs, e, r => by
    simp only [nksD, Option.some.injEq] at e; subst e
    simp only [RDs] at r; subst r; simp only [NKrs]
  | d :: ds, ks, xs, e, r => by
    simp only [RDs] at r
    obtain ⟨x, r, rfl, r1, r2⟩ := r
    simp only [nksD] at e
    split at e
    · rename_i k ks' e1 e2
      cases e
      simp only [NKrs]
      exact ⟨x, _, rfl, nkD_rd e1 r1, nksD_rd e2 r2⟩
    · cases e
end
noncomputable def putQ (qs : List (NK × Addr)) (k : NK) (b : Addr) : List (NK × Addr) := if k ∈ qs.map (·.1) then qs else qs ++ [(k, b)]
def z3 (qs : List (NK × Addr)) (vs : List Value) : List (NK × Addr × Value) := (qs.zip vs).map fun q => (q.1.1, q.1.2, q.2)
theorem z3_fst : ∀ (qs : List (NK × Addr)) (vs : List Value), qs.length = vs.length → (z3 qs vs).map (·.1) = qs.map (·.1)
  | [], _, _ => rfl
  | q :: qs, [], h => by simp at h
  | q :: qs, v :: vs, h => by
    have := z3_fst qs vs (by simpa using h)
    simp only [z3, List.zip_cons_cons, List.map_cons] at this ⊢
    rw [this]
theorem z3_len (qs : List (NK × Addr)) (vs : List Value) (h : qs.length = vs.length) : (z3 qs vs).length = qs.length := by
  simp only [z3, List.length_map, List.length_zip]; omega
theorem at_some {α : Type} (xs : List (NK × Addr × α)) (k : NK) : ((xs.find? fun x => decide (x.1 = k)).map (·.2)).isSome = decide (k ∈ xs.map (·.1)) := by
  rw [Option.isSome_map, Bool.eq_iff_iff, List.find?_isSome, decide_eq_true_eq, List.mem_map]
  constructor
  · rintro ⟨x, hx, e⟩; exact ⟨x, hx, by simpa using e⟩
  · rintro ⟨x, hx, e⟩; exact ⟨x, hx, by simpa using e⟩
theorem z3_put (qs : List (NK × Addr)) (vs : List Value) (h : qs.length = vs.length) (k : NK) (b : Addr) (u : Value) : storedH (z3 qs vs) k b u = z3 (putQ qs k b) (putV (qs.map (·.1)) vs k u) ∧ (putQ qs k b).length = (putV (qs.map (·.1)) vs k u).length := by
  unfold storedH putQ putV
  have e := at_some (z3 qs vs) k
  rw [z3_fst qs vs h] at e
  rw [show (atKey (z3 qs vs) k).isSome = decide (k ∈ qs.map (·.1)) from e]
  by_cases hk : k ∈ qs.map (·.1)
  · rw [if_pos (decide_eq_true hk), if_pos hk, if_pos hk]
    have go : ∀ (qs : List (NK × Addr)) (vs : List Value), qs.length = vs.length → (z3 qs vs).map (putAt k u) = z3 qs (List.zipWith (fun k' d' => if k' = k then u else d') (qs.map (·.1)) vs) ∧ qs.length = (List.zipWith (fun k' d' => if k' = k then u else d') (qs.map (·.1)) vs).length := by
      intro qs
      induction qs with
      | nil => intro vs _; exact ⟨rfl, rfl⟩
      | cons q qs ih =>
        intro vs h
        cases vs with
        | nil => simp at h
        | cons v vs =>
          obtain ⟨i1, i2⟩ := ih vs (by simpa using h)
          simp only [z3, List.zip_cons_cons, List.map_cons, List.zipWith_cons_cons, List.length_cons] at i1 i2 ⊢
          refine ⟨?_, by omega⟩
          rw [i1]
          congr 1
          unfold putAt
          by_cases z : q.1 = k
          · simp only [if_pos z]
          · simp only [if_neg z]
    exact go qs vs h
  · rw [if_neg (by simpa using hk), if_neg hk, if_neg hk]
    refine ⟨?_, by simp; omega⟩
    unfold z3
    rw [List.zip_append h, List.map_append]; rfl
section
variable {X : Cx} {pins : List (Addr × Obj)} {σ : St} {H : Hp} {s : Shared}
theorem vals_putV {ks : List NK} {k : NK} {v : V} {u : Value} (ru : RelV v u) {xs : List V} {vs : List Value} (r : Vals xs vs) : Vals (putV ks xs k v) (putV ks vs k u) := by
  unfold putV
  split
  · have go : ∀ (ks : List NK) (xs : List V) (vs : List Value), Vals xs vs → Vals (List.zipWith (fun k' d' => if k' = k then v else d') ks xs) (List.zipWith (fun k' d' => if k' = k then u else d') ks vs) := by
      intro ks
      induction ks with
      | nil => intro xs vs _; exact .nil
      | cons k' ks ih =>
        intro xs vs r
        cases r with
        | nil => exact .nil
        | cons a1 a2 =>
          simp only [List.zipWith_cons_cons]
          refine .cons ?_ (ih _ _ a2)
          split
          · exact ru
          · exact a1
    exact go ks xs vs r
  · exact r.append (.cons ru .nil)
theorem dn_dict (I : Inv X pins σ H s) {a : Addr} {qs : List (NK × Addr)} {xs : List V} {ob : Obj} (e : H a = some (.ext (dnP a qs xs ob))) (n : DN H a qs) : s.heap.get? a = some ob ∧ ∃ vs, Vals xs vs ∧ qs.length = vs.length ∧ Heap.DictOfH (deepKind X.prog X.w) s.heap a (z3 qs vs) := by
  obtain ⟨p, _, _⟩ := (show ObjOk X.prog X.w H s.heap a (.ext (dnP a qs xs ob)) from I.hok a _ e)
  obtain ⟨p3, vs, es, ep, p1, p2, p4, p5, p6⟩ := p
  refine ⟨p3, vs, p1, p2, ob, es, ep, p3, p4, p5, p6, fun x hx => ?_, by rw [z3_fst qs vs p2]; exact n.1⟩
  obtain ⟨q, hq, rfl⟩ := List.mem_map.mp hx
  have hq' := (List.of_mem_zip hq).1
  exact ⟨nk_of I (n.2.1 _ hq').1 rfl, (n.2.1 _ hq').2⟩
end
def rSetN : TSet := fun o i v H Q => ∃ (a : Addr) (qs : List (NK × Addr)) (xs : List V) (k : NK) (b : Addr) (ob : Obj), o = .ref a ∧ i = .ref b ∧ H a = some (.ext (dnP a qs xs ob)) ∧ DN H a qs ∧ NKr H k (.ref b) ∧ k.dep ≤ 8 ∧ qs.length < sizeLine ∧ ∀ ob', Q (upd H a (.ext (dnP a (putQ qs k b) (putV (qs.map (·.1)) xs k v) ob')))
theorem set_N {X : Cx} (hu : X.A.units + 64 < cLine) : PSet X rSetN := by
  intro pins s σ H o i v ov iv u Q I ro ri rv h
  obtain ⟨a, qs, xs, k, b, ob, rfl, rfl, e, n, hk, hd, hl, q⟩ := h
  cases ro; cases ri
  obtain ⟨_, vs, p1, p2, dd⟩ := dn_dict I e n
  have hz : (z3 qs vs).length ≤ sizeLine := by rw [z3_len qs vs p2]; omega
  refine wpAny_setItem_heap (knd := deepKind X.prog X.w) (hsz := hz) (by show X.A.units + 1 + 8 < cLine; omega) ⟨nk_of I hk rfl, hd⟩ dd fun h' dd' hs => ?_
  obtain ⟨e1, e2⟩ := z3_put qs vs p2 k b u
  rw [e1] at dd'
  obtain ⟨o', es, ep, d1, d2, d3, d4, _⟩ := dd'
  refine ⟨_, ?_, q o'⟩
  exact d_write I (by rw [e]; exact True.intro) hs ⟨o', d1⟩ ⟨⟨d1, _, es, ep, vals_putV rv p1, e2, d2, d3, d4⟩, ⟨o', d1⟩, dnP.stay⟩
noncomputable def dSetN : D → D → D → Option D
  | .dn ks ds, .tup es, v => match nkD (.tup es) with
    | some k => if ks.length < 100000 ∧ k.dep ≤ 8 then some (.dn (putKs ks k) (putV ks ds k v)) else none
    | none => none
  | _, _, _ => none
theorem sd_setN {K : PySem.W.Frag} : SetD K dSetN rSetN := by
  intro H0 H a d d' dk dv y v Q s h0 ob rk rv hm k
  cases d <;> simp only [dSetN] at hm <;> first | cases hm | skip
  cases dk <;> simp only [dSetN] at hm <;> first | cases hm | skip
  rename_i ks ds es
  split at hm
  · rename_i kk hkk
    split at hm
    · rename_i hl
      cases hm
      simp only [OB] at ob
      obtain ⟨qs, xs, ob0, hx, hk, n, rx⟩ := ob
      have rk' := rk
      obtain ⟨b, ys, rfl, hb, rb⟩ := rk.tup
      have nk := nkD_rd hkk rk'
      have hlen : qs.length = ks.length := by rw [← hk, List.length_map]
      have mono : ∀ a ys, H0 a = some (.tup ys) → H a = some (.tup ys) := fun c ys q => s _ _ q
      refine ⟨a, qs, xs, kk, b, ob0, rfl, rfl, hx, n.tk mono, NKr.mono mono nk, hl.2, by rw [hlen]; exact line_100k hl.1, fun ob' => k _ ?_⟩
      simp only [OB]
      refine ⟨_, _, ob', upd_same, ?_, ?_, by rw [hk]; exact putV_rd kk rv rx⟩
      · unfold putQ putKs
        rw [hk]
        split
        · exact hk
        · rw [List.map_append, hk]; rfl
      · obtain ⟨n1, n2, n3, n4⟩ := n
        unfold putQ
        split
        · exact ⟨n1, n2, n3, n4⟩
        · rename_i hn
          refine ⟨?_, fun q hq => ?_, n3, ?_⟩
          · rw [List.map_append, List.map_cons, List.map_nil]
            exact List.nodup_append.mpr ⟨n1, by simp, fun x hx y hy e => hn (by rw [List.mem_singleton.mp hy] at e; have e' : x = kk := e; rw [← e']; exact hx)⟩
          · rcases List.mem_append.mp hq with z | z
            · exact n2 q z
            · rw [List.mem_singleton.mp z]; exact ⟨nk, hl.2⟩
          · have := line_100k hl.1
            rw [List.length_append, List.length_singleton]; omega
    · cases hm
  · cases hm
section
variable {X : Cx} {EX : XW} {fr : Bool} {m : List Bool} {pos : Pos} {e : Expr} {fk fv : DE → R D}
theorem s_setN {i : Nat} {o ix : Expr} {tpos : Pos} (hu : X.A.units + 64 < cLine) (ho : PE X o (cVar i)) (hk : QE X EX false ix fk) (hv : QE X EX false e fv)
    (ha : ∀ v, assign (.Subscript o ix tpos) X.env v = (do
      let ov ← holding [v] (eval o X.env)
      let iv ← holding [v, ov] (eval ix X.env)
      standAt tpos
      holding [v, ov, iv] (setItem ov iv v)
      release [v, ov, iv] []) := by intro _; rfl) (hs : swapsWithSole [.Subscript o ix tpos] e pos.line X.env = pure false := by rfl) (hw : swappedStores [.Subscript o ix tpos] e X.env = pure none := by rfl)
    (h1 : (assignEach [.Subscript o ix tpos] X.env).map (·.2) = [assign (.Subscript o ix tpos) X.env] := by rfl) : QS X EX fr (.Assign [.Subscript o ix tpos] e pos) (sSet dSetN i m fk fv) := ⟨(ps_asg hv.h (pg_sub ho hk.h (set_N hu) ha) hs hw h1).imp fun _ _ _ q => d_set sd_setN q⟩
end
end L2
set_option Elab.async false
set_option linter.all false
set_option maxRecDepth 100000
set_option maxHeartbeats 4000000
namespace L2
open PySem PySem.Spec PyProof.Rows
def CMulG (i j : Int) : Prop := Builtin.Int.intBits i ≤ 2 ^ 20 ∧ Builtin.Int.intBits j ≤ 2 ^ 20
instance (i j : Int) : Decidable (CMulG i j) := by unfold CMulG; infer_instance
end L2
set_option Elab.async false
set_option linter.all false
set_option maxRecDepth 100000
set_option maxHeartbeats 4000000
namespace L2
open PySem PySem.Spec PyProof.Rows
section
open PySem.SeqAt
open PySem.AutoSeq1 (wpAny_loadPart')
open PySem.MeetsSeq PySem.MeetsSeq2 PySem.MeetsSeq3
end
def TuI (ns : List Int) : D := .tup (ns.map .int)
theorem ois_ints : ∀ ns : List Int, ois (ns.map D.int) = true ∧ deps (ns.map D.int) = 0
  | [] => by simp [ois, deps]
  | n :: ns => by
    have := ois_ints ns
    simp only [List.map_cons, ois, deps, D.oi, D.dep, this.1, this.2, Bool.and_self, Nat.max_self, and_self]
theorem oi_TuI (ns : List Int) : (TuI ns).oi = true := by simp only [TuI, D.oi]; exact (ois_ints ns).1
theorem cmps_ints : ∀ a b : List Int, ∃ r, cmpDs (a.map D.int) (b.map D.int) = some r
  | [], [] => ⟨_, rfl⟩
  | [], _ :: _ => ⟨_, rfl⟩
  | _ :: _, [] => ⟨_, rfl⟩
  | x :: a, y :: b => by
    simp only [List.map_cons, cmpDs]
    split
    · exact cmps_ints a b
    · exact ⟨_, rfl⟩
end L2
set_option Elab.async false
set_option linter.all false
set_option maxRecDepth 100000
set_option maxHeartbeats 4000000
namespace L2
open PySem PySem.Spec PyProof.Rows
end L2
set_option Elab.async false
set_option linter.all false
set_option maxRecDepth 100000
set_option maxHeartbeats 4000000
namespace L2
open PySem PySem.Spec PyProof.Rows
def dictO (es : Array DictEntry) (ep : Nat) : Obj := { cls := .type "dict", data := .dict es ep }
section
open PySem.SeqAt
open PySem.AutoSeq1 (wpAny_loadPart')
end
end L2
set_option Elab.async false
set_option linter.all false
set_option maxRecDepth 100000
set_option maxHeartbeats 4000000
namespace L2
open PySem PySem.Spec PyProof.Rows
section
open PySem.SeqAt
open PySem.AutoSeq1 (wpAny_loadPart')
end
end L2
set_option Elab.async false
set_option linter.all false
set_option maxRecDepth 100000
set_option maxHeartbeats 4000000
namespace L2
open PySem PySem.Spec PyProof.Rows
end L2
set_option Elab.async false
set_option linter.all false
set_option maxRecDepth 100000
set_option maxHeartbeats 4000000
namespace L2
open PySem PySem.Spec PyProof.Rows
end L2
set_option Elab.async false
set_option linter.all false
set_option maxRecDepth 100000
set_option maxHeartbeats 4000000
namespace L2
open PySem PySem.Spec PyProof.Rows
section
open PySem.SeqAt
open PySem.AutoSeq1 (wpAny_loadPart')
end
end L2
set_option Elab.async false
set_option linter.all false
set_option maxRecDepth 100000
set_option maxHeartbeats 4000000
namespace L2
open PySem PySem.Spec PyProof.Rows
end L2
set_option Elab.async false
set_option linter.all false
set_option maxRecDepth 100000
set_option maxHeartbeats 4000000
namespace L2
open PySem PySem.Spec PyProof.Rows
section
open PySem.SeqAt
open PySem.AutoSeq1 (wpAny_loadPart')
end
section
open PySem.SeqAt
open PySem.AutoSeq1 (wpAny_loadPart')
end
end L2
set_option Elab.async false
set_option linter.all false
set_option maxRecDepth 100000
set_option maxHeartbeats 4000000
namespace L2
open PySem PySem.Spec PyProof.Rows
def CDivH (i j : Int) : Prop := 0 < j ∧ j.natAbs < 2 ^ 9000
noncomputable instance (i j : Int) : Decidable (CDivH i j) := Classical.propDecidable _
end L2
set_option Elab.async false
set_option linter.all false
set_option maxRecDepth 100000
set_option maxHeartbeats 4000000
namespace L2
open PySem PySem.Spec PyProof.Rows
section
open PySem.SeqAt
open PySem.AutoSeq1 (wpAny_loadPart')
end
end L2
set_option Elab.async false
set_option linter.all false
set_option maxRecDepth 100000
set_option maxHeartbeats 4000000
namespace L2
open PySem PySem.Spec PyProof.Rows
theorem dn_raw {X : Cx} {pins : List (Addr × Obj)} {σ : St} {H : Hp} {s : Shared} (I : Inv X pins σ H s) {a : Addr} {qs : List (NK × Addr)} {xs : List V} {ob : Obj} (e : H a = some (.ext (dnP a qs xs ob))) (n : DN H a qs) :
    ∃ vs es ep, ob = dictO es ep ∧ s.heap.get? a = some (dictO es ep) ∧ Vals xs vs ∧ qs.length = vs.length ∧ es.toList = (z3 qs vs).map dnE := by
  obtain ⟨g0, vs, p1, p2, o, es, ep, d1, d2, d3, d4, _⟩ := dn_dict I e n
  rw [g0] at d1; cases d1
  have eo : ob = dictO es ep := by
    obtain ⟨cl, di, da, sl⟩ := ob
    obtain ⟨q1, q2, q3⟩ := d2
    simp only at q1 q2 q3 d3
    subst q1 q2 q3 d3
    rfl
  exact ⟨vs, es, ep, eo, by rw [g0, eo], p1, p2, d4⟩
theorem dict_inj {es es' : Array DictEntry} {ep ep' : Nat} (h : dictO es ep = dictO es' ep') : es = es' ∧ ep = ep' := by
  unfold dictO at h
  injection h with _ _ h
  injection h with h1 h2
  exact ⟨h1, h2⟩
end L2
set_option Elab.async false
set_option linter.all false
set_option maxRecDepth 100000
set_option maxHeartbeats 4000000
namespace L2
open PySem PySem.Spec PyProof.Rows
noncomputable def valN {α : Type} (ks : List NK) (xs : List α) (k : NK) : Option α := ((ks.zip xs).find? fun p => decide (p.1 = k)).map (·.2)
end L2
set_option Elab.async false
set_option linter.all false
set_option maxRecDepth 100000
set_option maxHeartbeats 4000000
namespace L2
open PySem PySem.Spec PyProof.Rows
def Keep (h h' : Heap) : Prop := ∀ b o, h.get? b = some o → h'.get? b = some o
theorem Keep.trans {a b c : Heap} (x : Keep a b) (y : Keep b c) : Keep a c := fun q o e => y q o (x q o e)
theorem Keep.tuple {h h' : Heap} (x : Keep h h') {a : Addr} {its : Array Value} (t : h.IsTuple a its) : h'.IsTuple a its := let ⟨o, e, c⟩ := t; ⟨o, x a o e, c⟩
theorem Keep.list {h h' : Heap} (x : Keep h h') {a : Addr} {its : Array Value} (t : h.IsList a its) : h'.IsList a its := let ⟨o, e, c⟩ := t; ⟨o, x a o e, c⟩
end L2
set_option Elab.async false
set_option linter.all false
set_option maxRecDepth 100000
set_option maxHeartbeats 4000000
namespace L2
open PySem PySem.Spec PyProof.Rows
end L2
set_option Elab.async false
set_option linter.all false
set_option maxRecDepth 100000
set_option maxHeartbeats 4000000
namespace L2
open PySem PySem.Spec PyProof.Rows
section
open HT
open PySem.SeqAt
open PySem.AutoSeq1 (wpAny_loadPart')
open PySem.MeetsSeq PySem.MeetsSeq2 PySem.MeetsSeq3
end
end L2
set_option Elab.async false
set_option linter.all false
set_option maxRecDepth 100000
set_option maxHeartbeats 4000000
namespace L2
open PySem PySem.Spec PyProof.Rows
end L2
set_option Elab.async false
set_option linter.all false
set_option maxRecDepth 100000
set_option maxHeartbeats 4000000
namespace L2
open PySem PySem.Spec PyProof.Rows
structure FnAt (K : PySem.W.Frag) (x : Str) (st : Stmt) (f : Addr) : Prop where
  ns : PySem.W.nsIn K mainGlobals x = some (some (.ref f))
  fn : ∃ fd, Fun K x x st f fd
section
variable {P : Program} {w : World} {K : PySem.W.Frag} {mg : Str → Option Value} {base h : Heap} {x : Str} {st : Stmt} {f : Addr} {ps : List Str} {k : Nat} {sp : Sp}
theorem fat {oc : Value} {od an : Option Addr} {osl : Array (Option Value)} {kV doc pm cdv ct : Value} (a : PySem.W.nsIn K mainGlobals x = some (some (.ref f))) (l : K.lookup f = some ⟨oc, od, .func (PySem.W.fnOf x x (defArgs st) (defBody st) (defScope st) .none kV doc pm an cdv ct), osl⟩)
    (c : PySem.W.codeIn K cdv x = true) (k : PySem.W.keepIn K (.ref f) = true) : FnAt K x st f := ⟨a, _, fun_mk l c k⟩
theorem lenE1 {us : List Value} (h : us.length = 1) : ∃ a, us = [a] := match us, h with | [a], _ => ⟨a, rfl⟩
theorem lenE2 {us : List Value} (h : us.length = 2) : ∃ a b, us = [a, b] := match us, h with | [a, b], _ => ⟨a, b, rfl⟩
theorem lenE3 {us : List Value} (h : us.length = 3) : ∃ a b c, us = [a, b, c] := match us, h with | [a, b, c], _ => ⟨a, b, c, rfl⟩
theorem lenE4 {us : List Value} (h : us.length = 4) : ∃ a b c d, us = [a, b, c, d] := match us, h with | [a, b, c, d], _ => ⟨a, b, c, d, rfl⟩
theorem got (X : K.In h) (G : h.Ns mainGlobals mg) (A : FnAt K x st f) (ok : ∀ {fd}, Fun K x x st f fd → FnOk P w K mg base (CX1 P w) k f fd ps sp)
    (hb : ∀ (kV doc pm : Value) (an : Option Addr) (cdv ct : Value) (us : List Value), us.length = ps.length → bindArgs (PySem.W.fnOf x x (defArgs st) (defBody st) (defScope st) .none kV doc pm an cdv ct) ⟨us, []⟩ = pure (ps.zip us) := by
      intro _ _ _ _ _ _ us hl
      first | (obtain ⟨_, rfl⟩ := lenE1 hl; rfl) | (obtain ⟨_, _, rfl⟩ := lenE2 hl; rfl) | (obtain ⟨_, _, _, rfl⟩ := lenE3 hl; rfl) | (obtain ⟨_, _, _, _, rfl⟩ := lenE4 hl; rfl)) : GotX P w K mg base x ps k sp := by
  obtain ⟨fd, F⟩ := A.fn
  exact ⟨f, fd, ok F, F.binds hb, PySem.W.mg_of X G A.ns, F.kp⟩
theorem all_at {fa : Addr} {z : Str} (X : K.In h) (G : h.Ns mainGlobals mg) (hfa : mg x = some (.ref fa)) (A : FnAt K x st f) (hb : ∀ (s : Shared) (v kV doc pm : Value) (an : Option Addr) (cdv ct : Value), BindsTo s (PySem.W.fnOf x x (defArgs st) (defBody st) (defScope st) .none kV doc pm an cdv ct) ⟨[v], []⟩ [(z, v)])
    (ok : ∀ base : Heap, K.In base → base.Ns mainGlobals mg → ∀ {fd}, Fun K x x st f fd → FnOk P w K mg base (CX1 P w) k f fd ps sp) :
    ∃ fd : FuncData, (∀ (s : Shared) (v : Value), BindsTo s fd ⟨[v], []⟩ [(z, v)]) ∧ ∀ base : Heap, K.In base → base.Ns mainGlobals mg → FnOk P w K mg base (CX1 P w) k fa fd ps sp := by
  have e := hfa.symm.trans (PySem.W.mg_of X G A.ns)
  cases e
  obtain ⟨fd, F⟩ := A.fn
  have F' := F
  obtain ⟨oc, od, kV, doc, pm, an, cdv, ct, osl, rfl, lk, hcd⟩ := F'.ex
  exact ⟨_, fun s v => hb s v _ _ _ _ _ _, fun base kb nb => ok base kb nb F⟩
theorem fsc {N ps : List Str} {sc : Scope} (a : sc.kind = .function := by rfl) (b : sc.isCoroutine = false := by rfl) (c : sc.isGenerator = false := by rfl) (d : N.Nodup := by decide +kernel) (e : N.take ps.length = ps := by rfl)
    (f : ∀ x ∈ ps, sc.names.lookup x = some .local ∨ sc.names.lookup x = some .cell := by decide +kernel) (g : ∀ y ∈ sc.names, y.2 ≠ .free := by decide +kernel) : FnScope N ps sc := ⟨a, b, c, d, e, f, g⟩
end
section
variable {X : Cx} {EX : XW} {fr fr' : Bool} {a b e : Expr} {f g : DE → R D} {pos p : Pos} {m : List Bool} {j : Nat}
theorem qI (hr : Room j X.A) (ha : QE X EX false a f) (hb : QE X EX false b g) (hs : PlainIx b := by exact fun _ _ => rfl) : QE X EX false (.Subscript a b pos) (eOp dIx f g) := q_ix (ix_G hr.units) od_ix ha hb hs
theorem qL (hm : X.mg "len" = none) (ha : QE X EX false e f) (hg : Gl X "len" := by rfl) (he : starEach [e] X.env = (false, eval e X.env) :: starEach [] X.env := by rfl) (hpl : (backTo pos (starEach [] X.env)).any (·.1) = false := by rfl) :
    QE X EX false (.Call (.Name "len" p) [e] [] pos) (eCB dLen (eCons f eNil)) := q_cb c_lenG cd_len hg hm PySem.boot_len (q_cons ha q_nil he) (he := he) (hpl := hpl)
theorem sA (i : Nat) {x : Str} {pos' : Pos} (hN : X.N.Nodup) (he : QE X EX fr' e f) (hi : X.N[i]? = some x := by rfl) (hx : Loc X.env.scope x := by first | exact .inl rfl | exact .inr rfl) (hs : swapsWith e (some (.Name x pos')) pos.line X.env = pure false := by rfl) (hf : X.fn x = true ∨ X.env.scope.names.lookup x = some .local := by first | exact .inl rfl | exact .inr rfl | assumption) :
    QS X EX fr (.Assign [.Name x pos'] e pos) (sAsg fr' i m f) := s_asg hN hi hx he hs hf
theorem tE (hr : Room j X.A) (ha : QE X EX false a f) (hb : QE X EX false b g) (hm : behindInMarks .Eq b = false) : QT X EX (.Compare a [.Eq] [b] pos) (bVal asB (eOp dEq f g)) := t_cmp (o_eqD hr.units) od_eq ha hb hm
theorem tN (hr : Room j X.A) (ha : QE X EX false a f) (hb : QE X EX false b g) (hm : behindInMarks .NotEq b = false) : QT X EX (.Compare a [.NotEq] [b] pos) (bVal asB (eOp dNe f g)) := t_cmp (o_neD hr.units) od_ne ha hb hm
end
end L2
set_option Elab.async false
set_option linter.all false
set_option maxRecDepth 100000
set_option maxHeartbeats 4000000
namespace L2
open PySem PySem.Spec PyProof.Rows
section
variable {prog : Program} {w : World} {A : Around} {E : Value → Shared → Prop} {s : Shared} {κ : SortKind} {a₀ : Array Keyed} {rk : Keyed → Nat}
def tk (rk : Keyed → Nat) (xs : Array Keyed) (i : Nat) : Nat := match xs[i]? with
  | some p => rk p
  | none => 0
structure TBs (κ : SortKind) (a₀ : Array Keyed) (st : SortSt) : Prop where
  perm : (arrOf st).Perm a₀
  kind : kindOf st = κ
  ok : failedOf st = none
def TSo (rk : Keyed → Nat) (xs : Array Keyed) (lo hi : Nat) : Prop := ∀ i j, lo ≤ i → i ≤ j → j < hi → tk rk xs i ≤ tk rk xs j
theorem TBs.size {st : SortSt} (B : TBs κ a₀ st) : (arrOf st).size = a₀.size := B.perm.size_eq
theorem TBs.set {st : SortSt} (B : TBs κ a₀ st) {xs : Array Keyed} (hp : xs.Perm (arrOf st)) : TBs κ a₀ (setArr st xs) := ⟨hp.trans B.perm, B.kind, B.ok⟩
theorem TSo.one {xs : Array Keyed} (lo : Nat) : TSo rk xs lo (lo + 1) := fun i j h0 h1 h2 => by
  obtain rfl : i = j := by omega
  exact Nat.le_refl _
structure TL (st st' : SortSt) (lo : Nat) : Prop where
  low : ∀ k, k < lo → (arrOf st')[k]? = (arrOf st)[k]?
  pend : pendingOf st' = pendingOf st
theorem TL.trans {a b c : SortSt} {lo : Nat} (h : TL a b lo) (k : TL b c lo) : TL a c lo := ⟨fun i hi => (k.low i hi).trans (h.low i hi), k.pend.trans h.pend⟩
end
end L2
set_option Elab.async false
set_option linter.all false
set_option maxRecDepth 100000
set_option maxHeartbeats 4000000
namespace L2
open PySem PySem.Spec PyProof.Rows
end L2
set_option Elab.async false
set_option linter.all false
set_option maxRecDepth 100000
set_option maxHeartbeats 4000000
namespace L2
open PySem PySem.Spec PyProof.Rows
section
variable {R : Keyed → Keyed → Prop}
def AscR (R : Keyed → Keyed → Prop) (l : List Keyed) : Prop := l.Pairwise R
variable {A B out : List Keyed} {ia ib k : Nat}
variable {rk : Keyed → Nat}
abbrev Asc (rk : Keyed → Nat) (l : List Keyed) : Prop := AscR (fun x y => rk x ≤ rk y) l
variable {a b : Array Keyed} {outA : Array Keyed}
end
end L2
set_option Elab.async false
set_option linter.all false
set_option maxRecDepth 100000
set_option maxHeartbeats 4000000
namespace L2
open PySem PySem.Spec PyProof.Rows
end L2
set_option Elab.async false
set_option linter.all false
set_option maxRecDepth 100000
set_option maxHeartbeats 4000000
namespace L2
open PySem PySem.Spec PyProof.Rows
end L2
set_option Elab.async false
set_option linter.all false
set_option maxRecDepth 100000
set_option maxHeartbeats 4000000
namespace L2
open PySem PySem.Spec PyProof.Rows
end L2
set_option Elab.async false
set_option linter.all false
set_option maxRecDepth 100000
set_option maxHeartbeats 4000000
namespace L2
open PySem PySem.Spec PyProof.Rows
section
variable {rk : Keyed → Nat}
structure Seg (xs : Array Keyed) (pre X post : List Keyed) : Prop where
  eq : xs.toList = pre ++ X ++ post
variable {xs : Array Keyed} {pre X post : List Keyed}
theorem Seg.size (S : Seg xs pre X post) : xs.size = pre.length + X.length + post.length := by
  rw [← Array.length_toList, S.eq, List.length_append, List.length_append]
theorem Seg.at (S : Seg xs pre X post) {i : Nat} (h : i < X.length) : ∃ hh : pre.length + i < xs.size, xs[pre.length + i] = X[i] := by
  refine ⟨by rw [S.size]; omega, ?_⟩
  rw [← Array.getElem_toList]
  simp only [S.eq]
  rw [List.getElem_append_left (by rw [List.length_append]; omega), List.getElem_append_right (by omega)]
  simp
theorem Asc.at {l : List Keyed} (h : Asc rk l) {i j : Nat} (hij : i ≤ j) (hj : j < l.length) : rk l[i] ≤ rk l[j] := by
  rcases Nat.lt_or_ge i j with z | z
  · exact List.pairwise_iff_getElem.mp h i j (by omega) hj z
  · obtain rfl : i = j := by omega
    exact Nat.le_refl _
end
end L2
set_option Elab.async false
set_option linter.all false
set_option maxRecDepth 100000
set_option maxHeartbeats 4000000
namespace L2
open PySem PySem.Spec PyProof.Rows
section
variable {rk : Keyed → Nat}
def pend : Nat → List (List Keyed × Nat) → List (Nat × Nat × Nat)
  | _, [] => []
  | lo, (X, pw) :: S => (lo, X.length, pw) :: pend (lo + X.length) S
def flat (S : List (List Keyed × Nat)) : List Keyed := (S.map (·.1)).flatten
theorem flat_app (S T : List (List Keyed × Nat)) : flat (S ++ T) = flat S ++ flat T := by simp [flat]
theorem flat_cons (X : List Keyed) (pw : Nat) (S : List (List Keyed × Nat)) : flat ((X, pw) :: S) = X ++ flat S := by simp [flat]
theorem pend_app : ∀ (lo : Nat) (S T : List (List Keyed × Nat)), pend lo (S ++ T) = pend lo S ++ pend (lo + (flat S).length) T
  | lo, [], T => by simp [pend, flat]
  | lo, (X, pw) :: S, T => by
    rw [List.cons_append, pend, pend, pend_app, flat_cons, List.length_append, List.cons_append, Nat.add_assoc]
structure Runs (rk : Keyed → Nat) (u : SortSt) (S : List (List Keyed × Nat)) (rest : List Keyed) : Prop where
  arr : (arrOf u).toList = flat S ++ rest
  pend : (pendingOf u).toList = L2.pend 0 S
  asc : ∀ X ∈ S, Asc rk X.1 ∧ 0 < X.1.length
variable {prog : Program} {w : World} {A : Around} {E : Value → Shared → Prop} {s : Shared} {κ : SortKind} {a₀ : Array Keyed}
theorem Runs.push {v : SortSt} {S : List (List Keyed × Nat)} {Z r : List Keyed} (H : Runs rk v S (Z ++ r)) (a : Asc rk Z) (z : 0 < Z.length) : Runs rk (setPending v ((pendingOf v).push ((flat S).length, Z.length, 0))) (S ++ [(Z, 0)]) r := by
  refine ⟨?_, ?_, fun X hX => ?_⟩
  · show (arrOf v).toList = _
    rw [H.arr, flat_app, flat_cons]; simp [flat]
  · show ((pendingOf v).push _).toList = _
    rw [Array.toList_push, H.pend, pend_app, Nat.zero_add]; rfl
  · rcases List.mem_append.mp hX with q | q
    · exact H.asc X q
    · rw [List.mem_singleton] at q; subst q; exact ⟨a, z⟩
end
end L2
set_option Elab.async false
set_option linter.all false
set_option maxRecDepth 100000
set_option maxHeartbeats 4000000
namespace L2
open PySem PySem.Spec PyProof.Rows
end L2
set_option Elab.async false
set_option linter.all false
set_option maxRecDepth 100000
set_option maxHeartbeats 4000000
namespace L2
open PySem PySem.Spec PyProof.Rows
end L2
set_option Elab.async false
set_option linter.all false
set_option maxRecDepth 100000
set_option maxHeartbeats 4000000
namespace L2
open PySem PySem.Spec PyProof.Rows
def nw (h : Heap) (vs : List Value) : Heap := h.push (seqObj "list" vs.toArray 0)
def valsVO (d : Addr) : Obj := { cls := .type "dict_values", data := .fields #[.ref d] }
def valItO (d : Addr) (i n ep : Nat) : Obj := { cls := .type "dict_valueiterator", data := .fields #[.ref d, .int i 0, .int n 0, .int ep 0] }
section
open PySem.SeqAt
open PySem.AutoSeq1 (wpAny_loadPart')
theorem m_vals (d : Addr) (es : Array DictEntry) (ep : Nat) (hd : (d == sysModules) = false) :
    Meets (Builtin.«dict.values» ⟨[.ref d], []⟩) (fun _ R s => s.heap.get? d = some (dictO es ep) ∧ R (.ok (.ret (.ref s.heap.objs.size))) { s with heap := s.heap.push (valsVO d) }) :=
  .of_wp fun prog w A R s h => by
    obtain ⟨hp, g, dr, tk, os⟩ := s; obtain ⟨hl, h⟩ := h
    unfold dictO at hl
    wp_walk using wpAny_loadPart' hl
    exact ⟨_, rfl, h⟩
theorem m_vIter (v d : Addr) (es : Array DictEntry) (ep : Nat) :
    Meets (Builtin.«dict_values.__iter__» ⟨[.ref v], []⟩) (fun _ R s => s.heap.get? v = some (valsVO d) ∧ s.heap.get? d = some (dictO es ep) ∧ R (.ok (.ret (.ref s.heap.objs.size))) { s with heap := s.heap.push (valItO d 0 es.size ep) }) :=
  .of_wp fun prog w A R s h => by
    obtain ⟨hp, g, dr, tk, os⟩ := s; obtain ⟨hl, hd, h⟩ := h
    unfold dictO at hd
    unfold valsVO at hl
    wp_walk using wpAny_loadPart' hl, wpAny_loadPart' hd
    exact ⟨_, rfl, h⟩
theorem m_vNext (it d : Addr) (es : Array DictEntry) (ep i : Nat) (hi : i < es.size) :
    Meets (Builtin.«dict_valueiterator.__next__» ⟨[.ref it], []⟩) (fun _ R s => s.heap.get? it = some (valItO d i es.size ep) ∧ s.heap.get? d = some (dictO es ep) ∧
      R (.ok (.ret es[i].val)) { s with heap := s.heap.update it (Obj.mapFields (·.setIfInBounds 1 (rawInt ((i : Int) + 1)))) }) :=
  .of_wp fun prog w A R s h => by
    obtain ⟨hp, g, dr, tk, os⟩ := s; obtain ⟨hl, hd, h⟩ := h
    unfold dictO at hd
    unfold valItO at hl
    have hsz : (((es.size : Int) != (es.size : Int)) = true) = False := by simp
    have hep : (((ep : Int) != (ep : Int)) = true) = False := by simp
    have hat : (if (i : Int) < 0 then none else es[((i : Nat) : Int).toNat]?) = some es[i] := by rw [if_neg (by omega)]; simp [hi]
    wp_walk using wpAny_loadPart' hl, wpAny_loadPart' hd
    rw [hat]
    wp_walk using wpAny_loadPart' hl, wpAny_loadPart' hd
    exact ⟨_, rfl, h⟩
theorem m_vEnd (it d : Addr) (es : Array DictEntry) (ep i : Nat) (hi : es.size ≤ i) :
    Meets (Builtin.«dict_valueiterator.__next__» ⟨[.ref it], []⟩) (fun A R s => s.heap.get? it = some (valItO d i es.size ep) ∧ s.heap.get? d = some (dictO es ep) ∧ A.in1.handled = none ∧
      ∀ h' e, (∀ c o, c ≠ it → s.heap.get? c = some o → h'.get? c = some o) → (∃ o, h'.get? e = some o ∧ o.cls = .type "StopIteration") → R (.error (.ref e)) { s with heap := h' }) :=
  .of_wp fun prog w A R s h => by
    obtain ⟨hp, g, dr, tk, os⟩ := s; obtain ⟨hl, hd, hh, h⟩ := h
    unfold dictO at hd
    unfold valItO at hl
    have hsz : (((es.size : Int) != (es.size : Int)) = true) = False := by simp
    have hep : (((ep : Int) != (ep : Int)) = true) = False := by simp
    have hat : (if (i : Int) < 0 then none else es[((i : Nat) : Int).toNat]?) = none := by rw [if_neg (by omega)]; simp [hi]
    wp_walk using wpAny_loadPart' hl, wpAny_loadPart' hd
    rw [hat]
    wp_walk using wpAny_loadPart' hl, wpAny_loadPart' hd
    unfold raiseNew
    refine wpAny_bind (wpAny_handled ?_)
    rw [hh]
    refine wpAny_bind (wpAny_pure (wpAny_throw (h _ _ (fun c o hc e => ?_) ⟨_, Heap.get?_push_size _ rfl, rfl⟩)))
    refine Heap.get?_push_of_some _ (Heap.get?_push_of_some _ ?_)
    rw [Heap.get?_update_ne _ _ _ _ hc]
    exact e
end
section
variable {prog : Program} {w : World} {A : Around} {E : Value → Shared → Prop} {s : Shared} {d it v : Addr} {es : Array DictEntry} {ep i : Nat}
theorem vals_iter {Q : Value → Shared → Prop} (hv : s.heap.get? v = some (valsVO d)) (hm : s.heap.get? d = some (dictO es ep)) (hQ : Q (.ref s.heap.objs.size) { s with heap := s.heap.push (valItO d 0 es.size ep) }) :
    wpAny (model prog w) A (pyIter (.ref v)) Q E s :=
  wpAny_pyIter_slot ⟨_, hv, rfl⟩ F.slot_dict_values_iter (call_meets F.slot_dict_values_iter ⟨_, hv, rfl⟩ F.entry_dict_values_iter (F.args_dict_values_iter_1 _) (m_vIter v d es ep)
    ⟨hv, hm, ⟨"dict_valueiterator", _, ⟨_, Heap.get?_push_size _ rfl, rfl⟩, F.slot_dict_valueiterator_next.lookup, hQ⟩⟩)
theorem valIt_up {h : Heap} (hi : h.get? it = some (valItO d i es.size ep)) : (h.update it (Obj.mapFields (·.setIfInBounds 1 (rawInt ((i : Int) + 1))))).get? it = some (valItO d (i + 1) es.size ep) := by
  rw [Heap.get?_update_self _ hi rfl]
  simp [valItO, Obj.mapFields, rawInt]
theorem vals_item {Q : Option Value → Shared → Prop} (hit : s.heap.get? it = some (valItO d i es.size ep)) (hm : s.heap.get? d = some (dictO es ep)) (hi : i < es.size)
    (hQ : Q (some es[i].val) { s with heap := s.heap.update it (Obj.mapFields (·.setIfInBounds 1 (rawInt ((i : Int) + 1)))) }) : wpAny (model prog w) A (pyNext (.ref it)) Q E s := by
  unfold pyNext
  exact wpAny_bind (wpAny_attempt (wpAny_callSpecial?_slot (name := Str.ofString "__next__") ⟨_, hit, rfl⟩ F.slot_dict_valueiterator_next
    (call_meets F.slot_dict_valueiterator_next ⟨_, hit, rfl⟩ F.entry_dict_valueiterator_next (F.args_dict_valueiterator_next_1 _) (m_vNext it d es ep i hi) ⟨hit, hm, wpAny_pure hQ⟩)))
theorem vals_end {Q : Option Value → Shared → Prop} (hh : A.handled = none) (hit : s.heap.get? it = some (valItO d i es.size ep)) (hm : s.heap.get? d = some (dictO es ep)) (hi : es.size ≤ i)
    (hQ : ∀ h', (∀ c o, c ≠ it → s.heap.get? c = some o → h'.get? c = some o) → Q none { s with heap := h' }) : wpAny (model prog w) A (pyNext (.ref it)) Q E s := by
  unfold pyNext
  refine wpAny_bind (wpAny_attempt (wpAny_callSpecial?_slot (name := Str.ofString "__next__") ⟨_, hit, rfl⟩ F.slot_dict_valueiterator_next
    (call_meets F.slot_dict_valueiterator_next ⟨_, hit, rfl⟩ F.entry_dict_valueiterator_next (F.args_dict_valueiterator_next_1 _) (m_vEnd it d es ep i hi) ⟨hit, hm, hh, fun h' e kp he => ?_⟩)))
  obtain ⟨o, ho, hc⟩ := he
  exact wpAny_bind (wpAny_isInstance (T := "StopIteration") (b := true) ⟨o, ho, hc⟩ isSubtype_stop (wpAny_pure (hQ h' kp)))
end
end L2
set_option Elab.async false
set_option linter.all false
set_option maxRecDepth 100000
set_option maxHeartbeats 4000000
namespace L2
open PySem PySem.Spec PyProof.Rows
noncomputable def dInN (neg : Bool) : D → D → Option D
  | .tup es, .dn ks _ => match nkD (.tup es) with
    | some k => if k.dep ≤ 8 then some (.bl (if neg = true then !decide (k ∈ ks) else decide (k ∈ ks))) else none
    | none => none
  | _, _ => none
noncomputable def rInN (neg : Bool) : R2 := fun y x H Q => ∃ (a : Addr) (qs : List (NK × Addr)) (xs : List V) (ob : Obj) (k : NK) (b : Addr), x = .ref a ∧ y = .ref b ∧ H a = some (.ext (dnP a qs xs ob)) ∧ DN H a qs ∧ NKr H k (.ref b) ∧ k.dep ≤ 8 ∧
  Q (.bl (if neg = true then !decide (k ∈ qs.map (·.1)) else decide (k ∈ qs.map (·.1)))) H
section
variable {X : Cx} {K : PySem.W.Frag}
theorem at_in (qs : List (NK × Addr)) (vs : List Value) (h : qs.length = vs.length) (k : NK) : (atKey (z3 qs vs) k).isSome = decide (k ∈ qs.map (·.1)) := by
  have e := at_some (z3 qs vs) k
  rw [z3_fst qs vs h] at e
  exact e
theorem o_inN (hu : X.A.units + 64 < cLine) : OpR X (compareOp .In) (rInN false) := by
  intro pins s σ H x y v u Q I rx ry h
  obtain ⟨a, qs, xs, ob, k, b, rfl, rfl, e, n, hk, hd, q⟩ := h
  cases rx; cases ry
  obtain ⟨_, vs, p1, p2, dd⟩ := dn_dict I e n
  refine wpAny_in_heap (knd := deepKind X.prog X.w) (by show X.A.units + 1 + 8 < cLine; omega) ⟨nk_of I hk rfl, hd⟩ n.2.2.1 dd ?_
  rw [at_in qs vs p2]
  generalize decide (k ∈ qs.map (·.1)) = c at q ⊢
  exact ⟨.bl c, H, I.tok _, rfl, q⟩
theorem od_inN {neg : Bool} : OpD K false (dInN neg) (rInN neg) := by
  intro H0 H x y d e z Q s rx ry ho k
  cases d <;> simp only [dInN] at ho <;> first | (cases ho; done) | skip
  cases e <;> simp only [dInN] at ho <;> first | (cases ho; done) | skip
  rename_i es ks ds
  split at ho <;> first | (cases ho; done) | skip
  rename_i kk hkk
  split at ho <;> first | (cases ho; done) | skip
  rename_i hd
  cases ho
  have nk := nkD_rd hkk rx
  obtain ⟨b, ys, rfl, hb, rb⟩ := rx.tup
  simp only [RD] at ry
  obtain ⟨a, qs, xs, ob, rfl, h1, hk, n, ra⟩ := ry
  refine ⟨a, qs, xs, ob, kk, b, rfl, rfl, s _ _ h1, n.tk fun b zs q => s _ _ q, NKr.mono (fun b zs q => s _ _ q) nk, hd, ?_⟩
  rw [hk]
  exact k _ H (.pure s (.mkBl _))
noncomputable def dIxN : D → D → Option D
  | .dn ks ds, .tup es => match nkD (.tup es) with
    | some k => if k.dep ≤ 8 then valN ks ds k else none
    | none => none
  | _, _ => none
noncomputable def rIxN : R2 := fun x y H Q => ∃ (a : Addr) (qs : List (NK × Addr)) (xs : List V) (ob : Obj) (k : NK) (b : Addr) (w : V), x = .ref a ∧ y = .ref b ∧ H a = some (.ext (dnP a qs xs ob)) ∧ DN H a qs ∧ NKr H k (.ref b) ∧ k.dep ≤ 8 ∧ valN (qs.map (·.1)) xs k = some w ∧ Q w H
theorem valN_at {k : NK} : ∀ {qs : List (NK × Addr)} {xs : List V} {vs : List Value} {w : V}, Vals xs vs → qs.length = vs.length → valN (qs.map (·.1)) xs k = some w → ∃ p : Addr × Value, atKey (z3 qs vs) k = some p ∧ RelV w p.2
  | [], xs, vs, w, r, hl, h => by
    unfold valN at h; rw [List.map_nil, List.zip_nil_left] at h; cases h
  | q :: qs, _, _, w, .nil, hl, h => by simp at hl
  | q :: qs, _, _, w, .cons (a := x) (b := v) (l₁ := xs) (l₂ := vs) r rr, hl, hw => by
    by_cases h : q.1 = k
    · unfold valN at hw
      rw [List.map_cons, List.zip_cons_cons, List.find?_cons_of_pos (by simpa using h)] at hw
      cases hw
      refine ⟨(q.2, v), ?_, r⟩
      show ((z3 (q :: qs) (v :: vs)).find? fun x => decide (x.1 = k)).map (·.2) = _
      unfold z3
      rw [List.zip_cons_cons, List.map_cons, List.find?_cons_of_pos (by simpa using h)]; rfl
    · unfold valN at hw
      rw [List.map_cons, List.zip_cons_cons, List.find?_cons_of_neg (by simpa using h)] at hw
      obtain ⟨p, e, rp⟩ := valN_at (qs := qs) rr (by simpa using hl) hw
      refine ⟨p, ?_, rp⟩
      show ((z3 (q :: qs) (v :: vs)).find? fun x => decide (x.1 = k)).map (·.2) = _
      unfold z3
      rw [List.zip_cons_cons, List.map_cons, List.find?_cons_of_neg (by simpa using h)]
      exact e
theorem ix_dn (hu : X.A.units + 64 < cLine) : IxR X rIxN := by
  intro value slice pins s σ H x y v u Q I rx ry h hs
  obtain ⟨a, qs, xs, ob, k, b, w, rfl, rfl, e, n, hk, hd, hv, q⟩ := h
  cases rx; cases ry
  obtain ⟨_, vs, p1, p2, dd⟩ := dn_dict I e n
  obtain ⟨p, hp, rp⟩ := valN_at p1 p2 hv
  exact tail_any (ops := [.ref a, .ref b]) dd.typeIs PySem.F.slot_dict_getitem.lookup (wpAny_getItem_heap (knd := deepKind X.prog X.w) (by show X.A.units + 1 + 8 < cLine; omega) ⟨nk_of I hk rfl, hd⟩ dd hp ⟨w, H, I.tok _, rp, q⟩) hs
theorem valN_rds {K : PySem.W.Frag} {H : Hp} {k : NK} {z : D} : ∀ {ks : List NK} {ds : List D} {xs : List V}, RDs K H ds xs → valN ks ds k = some z → ∃ w, valN ks xs k = some w ∧ RD K H z w
  | [], ds, xs, r, h => by unfold valN at h; rw [List.zip_nil_left] at h; cases h
  | k' :: ks, [], xs, r, h => by unfold valN at h; rw [List.zip_nil_right] at h; cases h
  | k' :: ks, d :: ds, xs, r, hz => by
    simp only [RDs] at r
    obtain ⟨x, r', rfl, r1, r2⟩ := r
    by_cases h : k' = k
    · unfold valN at hz ⊢
      rw [List.zip_cons_cons, List.find?_cons_of_pos (by simpa using h)] at hz ⊢
      cases hz
      exact ⟨x, rfl, r1⟩
    · unfold valN at hz ⊢
      rw [List.zip_cons_cons, List.find?_cons_of_neg (by simpa using h)] at hz ⊢
      exact valN_rds r2 hz
theorem od_ixN : OpD K false dIxN rIxN := by
  intro H0 H x y d e z Q s rx ry ho k
  cases d <;> simp only [dIxN] at ho <;> first | (cases ho; done) | skip
  cases e <;> simp only [dIxN] at ho <;> first | (cases ho; done) | skip
  rename_i ks ds es
  split at ho <;> first | (cases ho; done) | skip
  rename_i kk hkk
  split at ho <;> first | (cases ho; done) | skip
  rename_i hd
  have nk := nkD_rd hkk ry
  obtain ⟨b, ys, rfl, hb, rb⟩ := ry.tup
  simp only [RD] at rx
  obtain ⟨a, qs, xs, ob, rfl, h1, hk, n, ra⟩ := rx
  rw [← hk] at ho
  obtain ⟨w, hw, rw'⟩ := valN_rds ra ho
  exact ⟨a, qs, xs, ob, kk, b, w, rfl, rfl, s _ _ h1, n.tk fun b zs q => s _ _ q, NKr.mono (fun b zs q => s _ _ q) nk, hd, hw, k _ H (.pure s rw')⟩
end
def tDisp1 (tk tv : TE) : TE := fun σ H Q => ∀ (p : Addr) (ob : Obj), H p = none → (p == sysModules) = false → tk σ (upd H p (.ext (dnP p [] [] ob))) fun x H1 => tv σ H1 fun y H2 =>
  ∃ (k : NK) (b : Addr), x = .ref b ∧ H2 p = some (.ext (dnP p [] [] ob)) ∧ NKr H2 k (.ref b) ∧ k.dep ≤ 8 ∧ ∀ ob', Q (.ref p) (upd H2 p (.ext (dnP p [(k, b)] [y] ob')))
noncomputable def eDisp1 (fk fv : DE → R D) : DE → R D := fun ρ => (fk ρ).bind fun k => (fv ρ).bind fun v => R.of (match k with
  | .tup es => match nkD (.tup es) with
    | some kk => if kk.dep ≤ 8 then some (.dn [kk] [v]) else none
    | none => none
  | _ => none)
section
variable {X : Cx} {EX : XW} {σ : St} {H : Hp} {Q : VK} {k v : Expr} {pos : Pos}
theorem pe_disp1 {tk tv : TE} (hu : X.A.units + 64 < cLine) (hk : PE X k tk) (hv : PE X v tv) : PE X (.Dict [some k] [v] pos) (tDisp1 tk tv) := by
  intro pins s σ H Q I q
  have hn := I.hok.fresh (Nat.le_refl s.heap.objs.size)
  have hsm : (s.heap.objs.size == sysModules) = false := beq_eq_false_iff_ne.mpr (Ne.symm (Nat.ne_of_lt I.big))
  have I1 := I.laid (a := s.heap.objs.size) (o := .ext (dnP s.heap.objs.size [] [] { cls := .type "dict", data := .dict #[] })) (h' := s.heap.push { cls := .type "dict", data := .dict #[] }) (t' := s.toks) (fun _ _ q => Heap.get?_push_of_some _ q) (Nat.le_refl _)
    ⟨⟨Heap.get?_push_size _ rfl, [], #[], 0, .nil, rfl, ⟨rfl, rfl, rfl⟩, rfl, rfl⟩, ⟨_, Heap.get?_push_size _ rfl⟩, dnP.stay⟩
  have hp : PPs X pos [some k] [v] [(tk, tv)] := pps_cons hk hv pps_nil
  refine wpAny_Dict_any rfl rfl (by simp) (by simp) (thn (hp pins _ σ _ (fun ps H2 => match ps with
    | [(x, y)] => ∃ (kk : NK) (b : Addr), x = .ref b ∧ H2 s.heap.objs.size = some (.ext (dnP s.heap.objs.size [] [] { cls := .type "dict", data := .dict #[] })) ∧ NKr H2 kk (.ref b) ∧ kk.dep ≤ 8 ∧ ∀ ob', Q (.ref s.heap.objs.size) (upd H2 s.heap.objs.size (.ext (dnP s.heap.objs.size [(kk, b)] [y] ob')))
    | _ => False) I1 (q _ { cls := .type "dict", data := .dict #[] } hn hsm)) fun ws s2 ⟨ps, H2, I2, rel, q2⟩ => ?_)
  match ps, rel, q2 with
  | [(x, y)], .cons (b := (ux, uy)) r .nil, q2 =>
    obtain ⟨kk, b, ex, e2, nk, hd, q2⟩ := q2
    obtain ⟨r1, r2⟩ := r
    subst ex
    cases r1
    obtain ⟨_, vs, p1, p2, dd⟩ := dn_dict I2 e2 ⟨List.nodup_nil, fun q hq => (by simp at hq), hsm, Nat.zero_le _⟩
    cases p1
    unfold storeAll
    rw [List.forIn_cons]
    refine wpAny_bind (wpAny_bind (wpAny_dictSet_heap (knd := deepKind X.prog X.w) (hsz := Nat.zero_le _) (by show X.A.units + 8 < cLine; omega) ⟨nk_of I2 nk rfl, hd⟩ dd fun h' dd' hs => wpAny_pure (wpAny_pure ?_)))
    obtain ⟨o', es, ep, d1, d2, d3, d4, _⟩ := dd'
    refine ⟨.ref s.heap.objs.size, _, ?_, rfl, q2 o'⟩
    exact d_write I2 (by rw [e2]; exact True.intro) hs ⟨o', d1⟩ ⟨⟨d1, [uy], es, ep, .cons r2 .nil, rfl, d2, d3, d4⟩, ⟨o', d1⟩, dnP.stay⟩
theorem d_disp1 {K : PySem.W.Frag} {fk fv : DE → R D} (h : TEd K EX true (eDisp1 fk fv) σ H Q) : tDisp1 (TEd K EX false fk) (TEd K EX false fv) σ H Q := by
  obtain ⟨sx, ρ, H0, s, e, h⟩ := h
  intro p ob hp hsm
  have sp : Same H (upd H p (.ext (dnP p [] [] ob))) := Same.upd_new hp
  have h0p := s.none hp
  unfold eDisp1 at h
  rw [Rk.bind] at h
  show TEd K EX false fk σ _ _
  refine TEd.go (sx.trans sp) (s.trans sp) e h fun a h v1 H1 H1' s1 e1 r1 => ?_
  rw [Rk.bind] at h
  refine TEd.go ((sx.trans sp).trans s1) e1.2.1 (e.mono e1.1) h fun x h v2 H2 H2' s2 e2 r2 => ?_
  have e12 := e1.trans s1 e2
  have s12 := s1.trans s2
  obtain ⟨z, hz, h⟩ := h.of
  cases a <;> first | (cases hz; done) | skip
  rename_i es
  simp only at hz
  split at hz <;> first | (cases hz; done) | skip
  rename_i kk hkk
  split at hz <;> first | (cases hz; done) | skip
  rename_i hd
  cases hz
  have nk := nkD_rd hkk (r1.mono e2.1)
  obtain ⟨b, ys, rfl, hb, rb⟩ := r1.tup
  refine ⟨kk, b, rfl, s12 p _ upd_same, NKr.mono (fun b zs q => e2.2.1 _ _ q) nk, hd, fun ob' => h _ _ ?_⟩
  have p6 : H2' p = none := e12.2.2 p (by rw [upd_same]; exact fun z => nomatch z) h0p
  refine .fresh (fun c o q => ?_) ⟨e12.1, fun c o q => ?_, fun c q1 q2 => e12.2.2 c (sp.ne q1) q2⟩ hp p6 ?_
  · have hc : c ≠ p := fun z => by rw [z, hp] at q; cases q
    rw [upd_ne hc]
    exact s12 c o (sp c o q)
  · have hc : c ≠ p := fun z => by rw [z, p6] at q; cases q
    rw [upd_ne hc]
    exact e12.2.1 c o q
  · simp only [OB]
    exact ⟨[(kk, b)], [v2], ob', upd_same, rfl, ⟨by simp, fun q hq => by rw [List.mem_singleton.mp hq]; exact ⟨nk, hd⟩, hsm, by rw [sizeLine_eq]; simp⟩, .one r2⟩
theorem q_disp1 {fk fv : DE → R D} (hu : X.A.units + 64 < cLine) (hk : QE X EX false k fk) (hv : QE X EX false v fv) : QE X EX true (.Dict [some k] [v] pos) (eDisp1 fk fv) :=
  ⟨(pe_disp1 hu hk.h hv.h).imp fun _ _ _ q => d_disp1 q⟩
end
end L2
set_option Elab.async false
set_option linter.all false
set_option maxRecDepth 100000
set_option maxHeartbeats 4000000
namespace L2
open PySem PySem.Spec PyProof.Rows
theorem turn_vals {P : Program} {w : World} {K : PySem.W.Frag} {tg : Expr} {it d : Addr} {qs : List (NK × Addr)} {ys : List V} {es : Array DictEntry} {ep : Nat} (hl : qs.length = ys.length) (hes : es.size = qs.length) :
    Turn P w K tg (ItS (fun H => H d = some (.ext (dnP d qs ys (dictO es ep))) ∧ DN H d qs) ys) [it] it
      (fun i h => h.get? it = some (valItO d i es.size ep)) where
  mem := by simp
  obj := fun i h hz c hc => by
    have hc' : c = it := by simpa using hc
    subst hc'; exact ⟨_, hz, fun v e => by cases e⟩
  keep := fun i h h' hz kp => kp it (by simp) _ hz
  item := by
    intro X hP hw hK hc i pins s σ H E I hf hz hg
    subst hP hw hK
    obtain ⟨⟨hS, n⟩, hlt⟩ := hg
    obtain ⟨vs, es', ep', eo, ed, p1, p2, d4⟩ := dn_raw I hS n
    obtain ⟨rfl, rfl⟩ := dict_inj eo
    have hi : i < es.size := by omega
    have hiq : i < qs.length := by omega
    obtain ⟨y, ey⟩ : ∃ y, ys[i]? = some y := ⟨ys[i]'(by omega), by simp⟩
    obtain ⟨u, hu, ru⟩ := p1.get ey
    have hz3 : (z3 qs vs)[i]? = some (qs[i].1, qs[i].2, u) := by
      unfold z3
      have hzz : (qs.zip vs)[i]? = some (qs[i], u) := List.getElem?_zip_eq_some.mpr ⟨List.getElem?_eq_getElem hiq, hu⟩
      rw [List.getElem?_map, hzz]; rfl
    have he : es[i].val = u := by
      have h1 : es.toList[i]? = some (dnE (qs[i].1, qs[i].2, u)) := by rw [d4, List.getElem?_map, hz3]; rfl
      rw [Array.getElem?_toList, Array.getElem?_eq_getElem hi] at h1
      rw [Option.some.inj h1]; rfl
    obtain ⟨f0, f1, f2, f3, f4, f5⟩ := hf it (by simp)
    refine vals_item hz ed hi ⟨_, rfl, ?_⟩
    rw [he]
    have hz' := valIt_up (es := es) hz
    have I1 : Inv X pins σ H { s with heap := s.heap.update it (Obj.mapFields (·.setIfInBounds 1 (rawInt ((i : Int) + 1)))) } := I.turned (t' := s.toks) (fun b o hb e => by rw [Heap.get?_update_ne _ _ _ _ hb]; exact e) f0 f1 f3 f4 f5
    exact go_of (s := { s with heap := s.heap.update it (Obj.mapFields (·.setIfInBounds 1 (rawInt ((i : Int) + 1)))) }) hz' rfl rfl (by decide) ⟨y, H, I1, ru, ⟨rfl, ey⟩, hz', fun b hb => (hf b hb).1⟩
  done := by
    intro X hP hw hK hc i pins s σ H E I hf hz hg
    subst hP hw hK
    obtain ⟨⟨hS, n⟩, hle⟩ := hg
    obtain ⟨vs, es', ep', eo, ed, p1, p2, d4⟩ := dn_raw I hS n
    obtain ⟨rfl, rfl⟩ := dict_inj eo
    obtain ⟨f0, f1, f2, f3, f4, f5⟩ := hf it (by simp)
    exact vals_end (I.ok.hd hc) hz ed (by omega) fun h' kp => ⟨rfl, I.turned (t' := s.toks) (fun b o hb e => kp b o hb e) f0 f1 f3 f4 f5⟩
  self := fun A i s Q E st h => wpAny_pyIter_valiter ⟨_, st, rfl, rfl⟩ h
def iVals (td : TE) : TI := fun σ H R => td σ H fun x H1 => ∃ (a : Addr) (qs : List (NK × Addr)) (ys : List V) (ob : Obj), x = .ref a ∧ H1 a = some (.ext (dnP a qs ys ob)) ∧ DN H1 a qs ∧ qs.length = ys.length ∧
  R (ItS (fun H => H a = some (.ext (dnP a qs ys ob)) ∧ DN H a qs) ys) H1
section
variable {X : Cx} {EX : XW} {o tg : Expr} {td : TE} {apos cpos : Pos}
theorem pi_vals (ho : PE X o td) (hbase : attributeBase o "values" X.env (eval o X.env) = eval o X.env := by rfl) (hline : (apos.endLine == cpos.line) = true := by rfl) :
    PI X tg (.Call (.Attribute o "values" apos) [] [] cpos) (iVals td) := by
  intro pins s σ H R I h
  refine wpAny_Call_method0_late hbase hline (thn (ho pins s σ H _ I h) fun u s1 ⟨x, H1, I1, r1, a, qs, ys, ob, ex, e, n, hlq, q⟩ => ?_)
  subst ex
  cases r1
  obtain ⟨vs, es, ep, rfl, ed, p1, p2, d4⟩ := dn_raw I1 e n
  have hsz : es.size = qs.length := by rw [← Array.length_toList, d4, List.length_map, z3_len qs vs p2]
  refine ⟨"dict", "dict.values", PySem.F.plainAttrs_dict, PySem.F.slot_dict_values, PySem.F.type_dict_values, ⟨_, ed, rfl⟩, fun b eb => ?_, Calls.callWith_builtin rfl (PySem.evalArgs_none ?_)⟩
  · cases eb; exact ⟨_, ed, rfl⟩
  · refine call_meets F.slot_dict_values ⟨_, ed, rfl⟩ F.entry_dict_values (F.args_dict_values_1 _) (m_vals a es ep n.2.2.1) ⟨ed, ?_⟩
    have kp : ∀ c o, s1.heap.get? c = some o → (s1.heap.push (valsVO a)).get? c = some o := fun c o e => Heap.get?_push_of_some _ e
    refine vals_iter (s := { s1 with heap := s1.heap.push (valsVO a) }) (Heap.get?_push_size _ rfl) (kp _ _ ed) ?_
    have I2 : Inv X pins σ H1 { s1 with heap := s1.heap.push (valsVO a) } := I1.kept (t' := s1.toks) kp
    have kp2 : ∀ c o, (s1.heap.push (valsVO a)).get? c = some o → ((s1.heap.push (valsVO a)).push (valItO a 0 es.size ep)).get? c = some o := fun c o e => Heap.get?_push_of_some _ e
    have I3 := I2.kept (t' := s1.toks) kp2
    refine ⟨(s1.heap.push (valsVO a)).objs.size, [(s1.heap.push (valsVO a)).objs.size], _, _, H1, rfl, I3, turn_vals hlq hsz, Heap.get?_push_size _ rfl, fun c hc => ?_, q⟩
    have hc' : c = (s1.heap.push (valsVO a)).objs.size := by simpa using hc
    rw [hc']
    exact I2.fpOk (Nat.le_refl _) (I2.hok.fresh (Nat.le_refl _))
def iVaD (f : DE → R D) : DE → R (List D) := fun ρ => (f ρ).bind fun d => match d with
  | .dn ks ds => if ks.length = ds.length then .ok ds else .st
  | _ => .st
theorem q_vals {f : DE → R D} (ho : QE X EX false o f) (hbase : attributeBase o "values" X.env (eval o X.env) = eval o X.env := by rfl) (hline : (apos.endLine == cpos.line) = true := by rfl) :
    QI X EX false tg (.Call (.Attribute o "values" apos) [] [] cpos) (iVaD f) := ⟨(pi_vals ho.h hbase hline).imp fun σ H Q ⟨sx, ρ, H0, s, e, h⟩ => by
  unfold iVaD at h
  rw [Rk.bind] at h
  refine TEd.go sx s e h fun d h v H1 H1' s1 e1 r1 => ?_
  split at h
  · rename_i ks ds
    split at h
    · rename_i hl
      simp only [RD] at r1
      obtain ⟨a, qs, ys, ob, rfl, h1, hk, n, ra⟩ := r1
      have hq : qs.length = ys.length := by rw [← ra.length, ← hl, ← hk, List.length_map]
      exact ⟨a, qs, ys, ob, rfl, e1.2.1 _ _ h1, n.tk (fun b zs q => e1.2.1 _ _ q), hq, h _ H1 H1' s1 e1 (itok_S (fun H s => ⟨s _ _ h1, n.tk fun b zs q => s _ _ q⟩) ra)⟩
    · exact h.elim
  · exact h.elim⟩
end
end L2
set_option Elab.async false
set_option linter.all false
set_option maxRecDepth 100000
set_option maxHeartbeats 4000000
namespace L2
open PySem PySem.Spec PyProof.Rows
def stp (N i : Nat) : Nat := (i * 5 + 1) % N
def stpN (N : Nat) : Nat → Nat → Nat
  | 0, i => i
  | m + 1, i => stpN N m (stp N i)
theorem stpN_add (N : Nat) : ∀ a b i, stpN N (a + b) i = stpN N b (stpN N a i)
  | 0, b, i => by rw [Nat.zero_add]; rfl
  | a + 1, b, i => by rw [show a + 1 + b = (a + b) + 1 by omega]; exact stpN_add N a b _
def orbL (N : Nat) : Nat → Nat → List Nat
  | 0, _ => []
  | m + 1, i => i :: orbL N m (stp N i)
theorem mem_orb {N j : Nat} : ∀ {m i}, j ∈ orbL N m i → ∃ k, k < m ∧ stpN N k i = j
  | 0, i, h => by cases h
  | m + 1, i, h => by
    rcases List.mem_cons.mp h with rfl | h
    · exact ⟨0, by omega, rfl⟩
    · obtain ⟨k, hk, e⟩ := mem_orb h
      exact ⟨k + 1, by omega, e⟩
def Full (N : Nat) : Prop := (∀ j, j < N → ∃ k, k < N ∧ stpN N k 0 = j) ∧ stpN N N 0 = 0
theorem full_of {N : Nat} (h : ((List.range N).all fun j => (orbL N N 0).contains j) = true) (h0 : stpN N N 0 = 0) : Full N :=
  ⟨fun j hj => mem_orb (by have := List.all_eq_true.mp h j (List.mem_range.mpr hj); simpa using this), h0⟩
theorem full8 : Full 8 := full_of (by decide +kernel) (by decide +kernel)
theorem full32 : Full 32 := full_of (by decide +kernel) (by decide +kernel)
theorem full128 : Full 128 := full_of (by decide +kernel) (by decide +kernel)
theorem Full.all {N : Nat} (F : Full N) {i j : Nat} (hi : i < N) (hj : j < N) : ∃ k, k < N ∧ stpN N k i = j := by
  obtain ⟨a, ha, ea⟩ := F.1 i hi
  obtain ⟨b, hb, eb⟩ := F.1 j hj
  by_cases h : a ≤ b
  · refine ⟨b - a, by omega, ?_⟩
    rw [← ea, ← stpN_add, show a + (b - a) = b by omega, eb]
  · refine ⟨b + N - a, by omega, ?_⟩
    rw [← ea, ← stpN_add, show a + (b + N - a) = N + b by omega, stpN_add, F.2, eb]
def lps (mask : Nat) : Nat → Nat × Nat → Nat × Nat
  | 0, p => p
  | m + 1, p => lps mask m (SetTable.leap mask p.1 p.2)
theorem lps_add (mask : Nat) : ∀ a b p, lps mask (a + b) p = lps mask b (lps mask a p)
  | 0, b, p => by rw [Nat.zero_add]; rfl
  | a + 1, b, p => by rw [show a + 1 + b = (a + b) + 1 by omega]; exact lps_add mask a b _
theorem lps_nought (mask : Nat) : ∀ m i q, q < 32 ^ m → ∃ i', lps mask m (i, q) = (i', 0) ∧ (i < mask + 1 → i' < mask + 1)
  | 0, i, q, h => ⟨i, by rw [Nat.pow_zero] at h; rw [show q = 0 by omega]; rfl, id⟩
  | m + 1, i, q, h => by
    rw [Nat.pow_succ] at h
    obtain ⟨i', e, hi⟩ := lps_nought mask m ((i * 5 + 1 + q / 32) % (mask + 1)) (q / 32) (by omega)
    exact ⟨i', e, fun _ => hi (Nat.mod_lt _ (by omega))⟩
theorem lps_stp (mask : Nat) : ∀ m i, lps mask m (i, 0) = (stpN (mask + 1) m i, 0)
  | 0, i => rfl
  | m + 1, i => by
    show lps mask m ((i * 5 + 1 + 0 / 32) % (mask + 1), 0 / 32) = _
    rw [Nat.zero_div, Nat.add_zero]
    exact lps_stp mask m (stp (mask + 1) i)
theorem lps_reach {mask : Nat} (F : Full (mask + 1)) {i q j : Nat} (hi : i < mask + 1) (hq : q < 32 ^ 13) (hj : j < mask + 1) : ∃ m, m < mask + 14 ∧ (lps mask m (i, q)).1 = j := by
  obtain ⟨i', e, hi'⟩ := lps_nought mask 13 i q hq
  obtain ⟨k, hk, ek⟩ := F.all (hi' hi) hj
  exact ⟨13 + k, by omega, by rw [lps_add, e, lps_stp, ek]⟩
theorem bits_lt (h : Int) : SetTable.bits h < 32 ^ 13 := by
  unfold SetTable.bits
  have h1 : 0 ≤ h % (2 ^ 64 : Int) := Int.emod_nonneg _ (by decide)
  have h2 : h % (2 ^ 64 : Int) < 2 ^ 64 := Int.emod_lt_of_pos _ (by decide)
  have h3 : (32 : Nat) ^ 13 = 36893488147419103232 := by decide
  have h4 : (2 : Int) ^ 64 = 18446744073709551616 := by decide
  omega
theorem runEnd_le (mask i : Nat) : SetTable.runEnd mask i - i ≤ 9 := by unfold SetTable.runEnd; split <;> omega
section
variable {t : SetTable}
def adv (t : SetTable) : Nat → SetTable.Probe → SetTable.Probe
  | 0, p => p
  | k + 1, p => adv t k (t.advance p)
theorem adv_add (t : SetTable) : ∀ a b p, adv t (a + b) p = adv t b (adv t a p)
  | 0, b, p => by rw [Nat.zero_add]; rfl
  | a + 1, b, p => by rw [show a + 1 + b = (a + b) + 1 by omega]; exact adv_add t a b _
def atI' (t : SetTable) (p : Nat × Nat) (dm : Option Nat) : SetTable.Probe := { j := p.1, more := SetTable.runEnd t.mask p.1 - p.1, i := p.1, perturb := p.2, dummy := dm }
theorem adv_run : ∀ (r : Nat) (p : SetTable.Probe), p.more = r → adv t (r + 1) p = atI' t (SetTable.leap t.mask p.i p.perturb) p.dummy
  | 0, p, h => by
    show t.advance p = _
    unfold SetTable.advance atI'
    rw [if_neg (by omega)]
  | r + 1, p, h => by
    have e : t.advance p = { p with j := p.j + 1, more := r } := by
      unfold SetTable.advance
      rw [if_pos (by omega), h]; rfl
    show adv t (r + 1) (t.advance p) = _
    rw [e, adv_run r _ rfl]
theorem adv_lps (dm : Option Nat) : ∀ (m : Nat) (p : Nat × Nat), ∃ k, k ≤ 10 * m ∧ adv t k (atI' t p dm) = atI' t (lps t.mask m p) dm
  | 0, p => ⟨0, by omega, rfl⟩
  | m + 1, p => by
    obtain ⟨k, hk, e⟩ := adv_lps dm m (SetTable.leap t.mask p.1 p.2)
    have h9 := runEnd_le t.mask p.1
    refine ⟨SetTable.runEnd t.mask p.1 - p.1 + 1 + k, by omega, ?_⟩
    rw [adv_add, adv_run (SetTable.runEnd t.mask p.1 - p.1) (atI' t p dm) rfl]
    exact e
theorem start_at (h : Int) : t.probeStart h = atI' t (SetTable.bits h % (t.mask + 1), SetTable.bits h) none := rfl
theorem start_reach (F : Full (t.mask + 1)) (h : Int) {j : Nat} (hj : j < t.mask + 1) : ∃ d, d < 10 * SetTable.turns t.mask ∧ (adv t d (t.probeStart h)).j = j := by
  obtain ⟨m, hm, e⟩ := lps_reach F (i := SetTable.bits h % (t.mask + 1)) (Nat.mod_lt _ (by omega)) (bits_lt h) hj
  obtain ⟨k, hk, e2⟩ := adv_lps (t := t) none m (SetTable.bits h % (t.mask + 1), SetTable.bits h)
  refine ⟨k, by unfold SetTable.turns; omega, ?_⟩
  rw [start_at, e2]; exact e
theorem slot_nd (hd : t.dummies = #[]) (j : Nat) : (t.slot j = .empty) ∨ ∃ i, t.slot j = .live i ∧ i < t.place.size := by
  unfold SetTable.slot
  by_cases h : (t.place[SetTable.below t.place j]? == some j) = true
  · refine .inr ⟨_, if_pos h, ?_⟩
    have := beq_iff_eq.mp h
    exact (Array.getElem?_eq_some_iff.mp this).1
  · refine .inl ?_
    simp only [if_neg h]
    rw [hd]
    rfl
theorem go_met {ha : Nat → Int} {h : Int} {j0 : Nat} (hd : t.dummies = #[]) (he : t.slot j0 = .empty) : ∀ (d fuel : Nat) (p : SetTable.Probe), (adv t d p).j = j0 → d < fuel → p.dummy = none →
    (∃ j, SetTable.probe.go t ha h fuel p = some (.empty j none)) ∨ ∃ j i nx e, SetTable.probe.go t ha h fuel p = some (.candidate j i nx) ∧ t.slot j = .live i ∧ i < t.place.size ∧ e < d ∧ (adv t e nx).j = j0 ∧ nx.dummy = none
  | 0, fuel + 1, p, hj, _, hm => by
    have : p.j = j0 := hj
    refine .inl ⟨p.j, ?_⟩
    unfold SetTable.probe.go
    rw [this, he, hm]
  | d + 1, fuel + 1, p, hj, hf, hm => by
    have adm : (t.advance p).dummy = none := by
      unfold SetTable.advance
      split
      · exact hm
      · exact hm
    unfold SetTable.probe.go
    rcases slot_nd hd p.j with e | ⟨i, e, hi⟩
    · rw [e, hm]; exact .inl ⟨_, rfl⟩
    · rw [e]
      dsimp only
      by_cases hh : (ha i == h) = true
      · rw [if_pos hh]
        exact .inr ⟨_, _, _, d, rfl, e, hi, by omega, hj, adm⟩
      · rw [if_neg hh]
        rcases go_met hd he d fuel (t.advance p) hj (by omega) adm with z | ⟨j, i, nx, e', z1, z2, z3, z4, z5, z6⟩
        · exact .inl z
        · exact .inr ⟨j, i, nx, e', z1, z2, z3, by omega, z5, z6⟩
theorem nat_len : ∀ {xs ys : List Nat}, xs.Nodup → (∀ x ∈ xs, x ∈ ys) → xs.length ≤ ys.length
  | [], _, _, _ => Nat.zero_le _
  | x :: xs, ys, hn, h => by
    rw [List.nodup_cons] at hn
    have hx := h x (by simp)
    have := nat_len (xs := xs) (ys := ys.erase x) hn.2 fun z hz => (List.mem_erase_of_ne (fun e => hn.1 (by rw [← e]; exact hz))).mpr (h z (by simp [hz]))
    rw [List.length_erase_of_mem hx] at this
    have h0 : 0 < ys.length := List.length_pos_of_mem hx
    rw [List.length_cons]; omega
theorem slot_free (hd : t.dummies = #[]) (h : t.place.size ≤ t.mask) : ∃ j, j < t.mask + 1 ∧ t.slot j = .empty := by
  have : ∃ j, j < t.mask + 1 ∧ j ∉ t.place.toList := by
    apply Classical.byContradiction
    intro z
    have := nat_len (xs := List.range (t.mask + 1)) (ys := t.place.toList) List.nodup_range fun x hx => Classical.byContradiction fun y => z ⟨x, List.mem_range.mp hx, y⟩
    rw [List.length_range, Array.length_toList] at this
    omega
  obtain ⟨j, hj, hn⟩ := this
  refine ⟨j, hj, ?_⟩
  unfold SetTable.slot
  have hb : (t.place[SetTable.below t.place j]? == some j) = false := by
    cases e : (t.place[SetTable.below t.place j]? == some j) with
    | false => rfl
    | true =>
      have := Array.mem_of_getElem? (beq_iff_eq.mp e)
      exact absurd (Array.mem_toList_iff.mpr this) hn
  simp only [hb]
  rw [hd]
  rfl
end
end L2
set_option Elab.async false
set_option linter.all false
set_option maxRecDepth 100000
set_option maxHeartbeats 4000000
namespace L2
open PySem PySem.Spec PyProof.Rows
def Tok (t : SetTable) (n : Nat) : Prop := t.place.size = n ∧ t.dummies = #[] ∧ ((t.mask = 7 ∧ n < 5) ∨ (t.mask = 31 ∧ n < 19) ∨ (t.mask = 127 ∧ n < 77))
section
variable {t : SetTable} {n : Nat}
theorem Tok.full (h : Tok t n) : Full (t.mask + 1) := by
  rcases h.2.2 with ⟨e, _⟩ | ⟨e, _⟩ | ⟨e, _⟩ <;> rw [e]
  · exact full8
  · exact full32
  · exact full128
theorem Tok.le (h : Tok t n) : t.place.size ≤ t.mask := by
  obtain ⟨h1, _, h3⟩ := h; omega
theorem Tok.fits (h : Tok t n) : t.fits n = true := by
  have := h.le
  obtain ⟨h1, h2, h3⟩ := h
  unfold SetTable.fits SetTable.fill
  rw [h2, h1, Bool.and_eq_true, beq_iff_eq, decide_eq_true_eq]
  exact ⟨rfl, by show n + 0 ≤ _; omega⟩
theorem Tok.way (h : Tok t n) : t.gaveWay = false := by
  unfold SetTable.gaveWay
  rcases h.2.2 with ⟨e, _⟩ | ⟨e, _⟩ | ⟨e, _⟩ <;> rw [e] <;> rfl
end
theorem free_some {mask : Nat} {owner : Array (Option Nat)} {j0 : Nat} (ho : owner.getD j0 (some 0) = none) : ∀ (m fuel i q : Nat), (lps mask m (i, q)).1 = j0 → m < fuel →
    ∃ j, SetTable.layClean.free mask owner fuel i q = some j ∧ owner.getD j (some 0) = none
  | m, fuel + 1, i, q, hm, hf => by
    unfold SetTable.layClean.free
    cases e : (List.range (SetTable.runEnd mask i + 1 - i)).find? fun k => (owner.getD (i + k) (some 0)).isNone with
    | some k =>
      have := List.find?_some e
      exact ⟨i + k, rfl, by simpa using this⟩
    | none =>
      cases m with
      | zero =>
        have hi : i = j0 := hm
        have := List.find?_eq_none.mp e 0 (List.mem_range.mpr (by unfold SetTable.runEnd; split <;> omega))
        rw [Nat.add_zero, hi, ho] at this
        exact absurd rfl this
      | succ m => exact free_some ho m fuel _ _ hm (by omega)
def LayI (N : Nat) (owner : Array (Option Nat)) (k : Nat) : Prop := owner.size = N ∧ owner.toList.countP Option.isSome = k ∧ ∀ v, some v ∈ owner.toList → v < k
theorem lay_step {mask : Nat} (F : Full (mask + 1)) {owner : Array (Option Nat)} {k : Nat} (I : LayI (mask + 1) owner k) (hk : k < mask + 1) (h : Int) :
    ∃ j, SetTable.layClean.free mask owner (SetTable.turns mask) (SetTable.bits h % (mask + 1)) (SetTable.bits h) = some j ∧ LayI (mask + 1) (owner.setIfInBounds j (some k)) (k + 1) := by
  obtain ⟨hs, hc, hv⟩ := I
  have : ∃ j0, j0 < mask + 1 ∧ owner.getD j0 (some 0) = none := by
    apply Classical.byContradiction
    intro z
    have : owner.toList.countP Option.isSome = owner.toList.length := List.countP_eq_length.mpr fun x hx => by
      obtain ⟨j, hj, ej⟩ := List.mem_iff_getElem.mp hx
      cases x with
      | some v => rfl
      | none =>
        refine absurd ⟨j, ?_, ?_⟩ z
        · rw [Array.length_toList] at hj; omega
        · rw [Array.length_toList] at hj
          rw [Array.getD_eq_getD_getElem?, Array.getElem?_eq_getElem hj]
          simpa using ej
    rw [Array.length_toList] at this
    omega
  obtain ⟨j0, h0, e0⟩ := this
  obtain ⟨m, hm, em⟩ := lps_reach F (i := SetTable.bits h % (mask + 1)) (Nat.mod_lt _ (by omega)) (bits_lt h) h0
  obtain ⟨j, ej, en⟩ := free_some e0 m (SetTable.turns mask) _ _ em (by unfold SetTable.turns; omega)
  have hj : j < owner.size := by
    apply Classical.byContradiction
    intro z
    rw [Array.getD_eq_getD_getElem?, Array.getElem?_eq_none (by omega)] at en
    cases en
  have en' : owner.toList[j]'(by simpa using hj) = none := by
    rw [Array.getD_eq_getD_getElem?, Array.getElem?_eq_getElem hj] at en
    simpa using en
  refine ⟨j, ej, by simpa using hs, ?_, fun v h => ?_⟩
  · rw [Array.toList_setIfInBounds, List.countP_set (by simpa using hj), en', hc]
    simp
  · rw [Array.toList_setIfInBounds] at h
    rcases List.mem_or_eq_of_mem_set h with h | h
    · have := hv v h; omega
    · injection h with h; omega
theorem lay_list {mask : Nat} (F : Full (mask + 1)) : ∀ (hs : List Int) (owner : Array (Option Nat)) (k : Nat), LayI (mask + 1) owner k → k + hs.length ≤ mask →
    ∃ owner', hs.foldl (fun (acc : Option (Array (Option Nat) × Nat)) h => do
      let (owner, k) ← acc
      let j ← SetTable.layClean.free mask owner (SetTable.turns mask) (SetTable.bits h % (mask + 1)) (SetTable.bits h)
      pure (owner.setIfInBounds j (some k), k + 1)) (some (owner, k)) = some (owner', k + hs.length) ∧ LayI (mask + 1) owner' (k + hs.length)
  | [], owner, k, I, _ => ⟨owner, rfl, I⟩
  | h :: hs, owner, k, I, hk => by
    rw [List.length_cons] at hk
    obtain ⟨j, ej, I'⟩ := lay_step F I (by omega) h
    obtain ⟨owner', e, I2⟩ := lay_list F hs _ (k + 1) I' (by omega)
    refine ⟨owner', ?_, ?_⟩
    · rw [List.foldl_cons, List.length_cons, show k + (hs.length + 1) = k + 1 + hs.length by omega, ← e]
      congr 1
      show (SetTable.layClean.free mask owner (SetTable.turns mask) (SetTable.bits h % (mask + 1)) (SetTable.bits h) >>= fun j => pure (owner.setIfInBounds j (some k), k + 1)) = _
      rw [ej]; rfl
    · rw [List.length_cons, show k + (hs.length + 1) = k + 1 + hs.length by omega]; exact I2
theorem lay_clean {mask : Nat} (F : Full (mask + 1)) (hs : Array Int) (hl : hs.size ≤ mask) : ∃ owner, SetTable.layClean mask hs = some owner ∧ LayI (mask + 1) owner hs.size := by
  have I0 : LayI (mask + 1) (Array.replicate (mask + 1) none) 0 := ⟨by simp, by simp [List.countP_replicate], fun v h => by simp at h⟩
  obtain ⟨owner, e, I⟩ := lay_list F hs.toList _ 0 I0 (by simpa using hl)
  rw [Nat.zero_add, Array.length_toList] at e I
  refine ⟨owner, ?_, I⟩
  unfold SetTable.layClean
  rw [← Array.foldl_toList, e]; rfl
theorem relaid_ok (t : SetTable) {mask : Nat} (F : Full (mask + 1)) (hs : Array Int) (hl : hs.size ≤ mask) {wanted : Nat} (hw : SetTable.sizeAbove wanted - 1 = mask) :
    ∃ t' order, t.relaid hs wanted = some (t', order) ∧ t'.mask = mask ∧ t'.place.size = hs.size ∧ t'.dummies = #[] ∧ order.size = hs.size ∧ (∀ v ∈ order.toList, v < hs.size) := by
  obtain ⟨owner, e, I1, I2, I3⟩ := lay_clean F hs hl
  unfold SetTable.relaid SetTable.laid
  rw [hw, e]
  have hlen : ((List.range (mask + 1)).filterMap fun j => (owner.getD j none).map (j, ·)).length = hs.size := by
    rw [List.length_filterMap_eq_countP, ← I2]
    have : owner.toList = (List.range (mask + 1)).map fun j => owner.getD j none := by
      apply List.ext_getElem
      · rw [Array.length_toList, List.length_map, List.length_range, I1]
      · intro i h1 h2
        rw [List.getElem_map, List.getElem_range, Array.getD_eq_getD_getElem?, Array.getElem?_eq_getElem (by simpa using h1)]
        simp
    rw [this, List.countP_map]
    congr 1
    funext j
    simp
  refine ⟨_, _, rfl, rfl, ?_, rfl, ?_, fun v hv => ?_⟩
  · simp only [List.size_toArray, List.length_map]; exact hlen
  · simp only [List.size_toArray, List.length_map]; exact hlen
  · simp only [List.mem_map, List.mem_filterMap, List.mem_range] at hv
    obtain ⟨⟨j, v'⟩, ⟨j', hj', ej⟩, rfl⟩ := hv
    cases eo : owner.getD j' none with
    | none => rw [eo] at ej; cases ej
    | some z =>
      rw [eo] at ej
      simp only [Option.map_some, Option.some.injEq, Prod.mk.injEq] at ej
      obtain ⟨_, rfl⟩ := ej
      refine I3 _ ?_
      rw [Array.getD_eq_getD_getElem?] at eo
      cases eg : owner[j']? with
      | none => rw [eg] at eo; cases eo
      | some y =>
        rw [eg] at eo
        simp only [Option.getD_some] at eo
        subst eo
        exact Array.mem_toList_iff.mpr (Array.mem_of_getElem? eg)
theorem picked {α : Type} (es : Array α) (order : Array Nat) (h : ∀ v ∈ order.toList, v < es.size) : (order.filterMap (es[·]?)).size = order.size ∧ ∀ e ∈ (order.filterMap (es[·]?)).toList, e ∈ es.toList := by
  refine ⟨?_, fun e he => ?_⟩
  · rw [← Array.length_toList, Array.toList_filterMap, List.length_filterMap_eq_countP, ← Array.length_toList, List.countP_eq_length]
    intro v hv
    have := h v hv
    simp [this]
  · rw [Array.toList_filterMap, List.mem_filterMap] at he
    obtain ⟨v, _, hv⟩ := he
    exact Array.mem_toList_iff.mpr (Array.mem_of_getElem? hv)
end L2
set_option Elab.async false
set_option linter.all false
set_option maxRecDepth 100000
set_option maxHeartbeats 4000000
namespace L2
open PySem PySem.Spec PyProof.Rows
section
variable {prog : Program} {w : World} {A : Around} {E : Value → Shared → Prop} {s : Shared}
theorem nk_stmt : ∀ (m : Nat) {k : NK} {v : Value} {Q : Bool → Shared → Prop}, k.dep ≤ m → NKv s.heap k v → Q false s → wpAny (model prog w) A (ofAClassStatement m v) Q E s
  | m, .i n, v, Q, hd, p, q => by
    simp only [NKv] at p
    obtain ⟨t, rfl⟩ := p
    cases m <;> exact wpAny_pure q
  | 0, .t ks, v, Q, hd, p, q => by simp only [NK.dep] at hd; omega
  | m + 1, .t ks, v, Q, hd, p, q => by
    simp only [NKv] at p
    obtain ⟨a, its, rfl, ⟨o, e, c, n, d⟩, p2⟩ := p
    simp only [NK.dep] at hd
    rw [ofAClassStatement.eq_2]
    refine wpAny_bind (wpAny_typeOf (T := "tuple") ⟨o, e, c⟩ ?_)
    refine wpAny_bind (wpAny_pure ?_)
    dsimp only
    refine wpAny_bind (wpAny_seqItems e d ?_)
    dsimp only
    refine wpAny_bind ?_
    have go : ∀ (ks : List NK) (vs : List Value) (Q' : Option Bool × Unit → Shared → Prop), nkDeps ks ≤ m → NKvs s.heap ks vs → Q' (none, ()) s →
        wpAny (model prog w) A (forIn vs ((none, ()) : Option Bool × Unit) fun y __s => do
                  let __do_lift ← ofAClassStatement m y
                  if __do_lift = true then pure (ForInStep.done (some true, ()))
                    else pure (ForInStep.yield (none, ()))) Q' E s := by
      intro ks
      induction ks with
      | nil =>
        intro vs Q' _ p hq
        simp only [NKvs] at p; subst p
        exact wpAny_pure hq
      | cons k ks ih =>
        intro vs Q' hd p hq
        simp only [NKvs] at p
        obtain ⟨v, r, rfl, p1, p2⟩ := p
        simp only [nkDeps] at hd
        rw [List.forIn_cons]
        refine wpAny_bind (wpAny_bind (nk_stmt m (by omega) p1 ?_))
        refine wpAny_pure ?_
        exact ih r Q' (by omega) p2 hq
    rw [← Array.forIn_toList]
    refine go ks its.toList _ (by omega) p2 ?_
    exact wpAny_pure q
theorem nk_byval : ∀ (m : Nat) {k : NK} {v : Value} {Q : Bool → Shared → Prop}, k.dep ≤ m → NKv s.heap k v → Q true s → wpAny (model prog w) A (hashByValue m v) Q E s
  | m, .i n, v, Q, hd, p, q => by
    simp only [NKv] at p
    obtain ⟨t, rfl⟩ := p
    cases m <;> exact wpAny_pure q
  | 0, .t ks, v, Q, hd, p, q => by simp only [NK.dep] at hd; omega
  | m + 1, .t ks, v, Q, hd, p, q => by
    simp only [NKv] at p
    obtain ⟨a, its, rfl, ⟨o, e, c, n, d⟩, p2⟩ := p
    simp only [NK.dep] at hd
    unfold hashByValue
    refine wpAny_bind (wpAny_specialOf (T := "tuple") ⟨o, e, c⟩ F.slot_tuple_hash.lookup ?_)
    show wpAny (model prog w) A (seqItems? (.ref a) >>= _) _ _ s
    refine wpAny_bind (wpAny_seqItems e d ?_)
    refine wpAny_bind ?_
    have go : ∀ (ks : List NK) (vs : List Value) (Q' : Option Bool × Unit → Shared → Prop), nkDeps ks ≤ m → NKvs s.heap ks vs → Q' (none, ()) s →
        wpAny (model prog w) A (forIn vs ((none, ()) : Option Bool × Unit) fun y __s => do
                  let __do_lift ← hashByValue m y
                  if (!__do_lift) = true then pure (ForInStep.done (some false, ()))
                    else pure (ForInStep.yield (none, ()))) Q' E s := by
      intro ks
      induction ks with
      | nil =>
        intro vs Q' _ p hq
        simp only [NKvs] at p; subst p
        exact wpAny_pure hq
      | cons k ks ih =>
        intro vs Q' hd p hq
        simp only [NKvs] at p
        obtain ⟨v, r, rfl, p1, p2⟩ := p
        simp only [nkDeps] at hd
        rw [List.forIn_cons]
        refine wpAny_bind (wpAny_bind (nk_byval m (by omega) p1 ?_))
        refine wpAny_pure ?_
        exact ih r Q' (by omega) p2 hq
    show wpAny (model prog w) A (forIn its ((none, ()) : Option Bool × Unit) _) _ _ s
    rw [← Array.forIn_toList]
    refine go ks its.toList _ (by omega) p2 ?_
    exact wpAny_pure q
theorem wp_if {α : Type} {c : Prop} [Decidable c] {m1 m2 : Sem α} {Q : α → Shared → Prop} (h1 : wpAny (model prog w) A m1 Q E s) (h2 : wpAny (model prog w) A m2 Q E s) : wpAny (model prog w) A (if c then m1 else m2) Q E s := by
  split
  · exact h1
  · exact h2
theorem not_seen {x : Value} {kx : NK} (dx : kx.dep ≤ 8) (hx : NKv s.heap kx x) {Q : Bool → Shared → Prop} (q : Q false s) (l : List Value) (hl : ∀ y ∈ l, ∃ k : NK, k.dep ≤ 8 ∧ NKv s.heap k y) : wpAny (model prog w) A (searchCouldBeSeen x l) Q E s := by
  unfold searchCouldBeSeen
  refine wpAny_bind ?_
  induction l with
  | nil => exact wpAny_pure (wpAny_pure q)
  | cons y l ih =>
    obtain ⟨k, dk, hk⟩ := hl y (by simp)
    have ih := ih fun z hz => hl z (by simp [hz])
    rw [List.forIn_cons]
    refine wpAny_bind ?_
    refine wp_if (wpAny_pure ih) ?_
    · refine wpAny_bind (nk_quiet 8 dx hx ?_)
      refine wpAny_bind (nk_quiet 8 dk hk ?_)
      refine wpAny_bind (nk_stmt 8 dx hx ?_)
      refine wpAny_bind (nk_stmt 8 dk hk ?_)
      exact wpAny_pure ih
theorem probe_of {t : SetTable} {ha : Nat → Int} {h : Int} {j0 d : Nat} {p : SetTable.Probe} (hd : t.dummies = #[]) (he : t.slot j0 = .empty) (hj : (adv t d p).j = j0) (hl : d < 10 * SetTable.turns t.mask) (hm : p.dummy = none) {r : Option SetTable.Met} (e : t.probe ha h p = r) :
    (∃ j, r = some (.empty j none)) ∨ ∃ j i nx e, r = some (.candidate j i nx) ∧ t.slot j = .live i ∧ i < t.place.size ∧ e < d ∧ (adv t e nx).j = j0 ∧ nx.dummy = none := by
  rw [← e]; exact go_met hd he d _ p hj hl hm
theorem set_search {a : Addr} {o : Obj} {es : Array (Int × Value)} {ep : Nat} {t : SetTable} {b : Addr} {kx : NK} {h : Int} (ho : s.heap.get? a = some o) (hd : o.data = .set es ep t) (T : Tok t es.size) (hx : NKv s.heap kx (.ref b)) (dx : kx.dep ≤ 8) (hu : A.units + 8 < cLine)
    (hes : ∀ e ∈ es.toList, ∃ (k : NK) (c : Addr), k.dep ≤ 8 ∧ k ≠ kx ∧ e.2 = .ref c ∧ NKv s.heap k e.2) {j0 : Nat} (he : t.slot j0 = .empty) {Q : SetFound → Shared → Prop} (q : ∀ j, Q (.free j false) s) :
    ∀ (fuel d : Nat) (st : Option SetTable.Probe), d < fuel → d < 10 * SetTable.turns t.mask → (adv t d (st.getD (t.probeStart h))).j = j0 → (st.getD (t.probeStart h)).dummy = none → wpAny (model prog w) A (setSearchFrom a (.ref b) h true fuel st) Q E s
  | fuel + 1, d, st, hf, hl, hj, hm => by
    rw [setSearchFrom.eq_2]
    refine wpAny_bind (wpAny_setState_of ho hd T.fits ?_)
    dsimp only
    rw [if_neg (by rw [T.way]; exact Bool.false_ne_true)]
    split
    · rename_i met e
      rcases probe_of T.2.1 he hj hl hm e with ⟨j, z⟩ | ⟨j, i, nx, e', z, hs, hi, hlt, hj', hm'⟩
      · injection z with z; subst z
        exact wpAny_pure (q j)
      · injection z with z; subst z
        dsimp only
        have hi' : i < es.size := by rw [← T.1]; exact hi
        have body : wpAny (model prog w) A (match es[i]? with
            | some (fst, y) => (do
              let equal ← holding [y] (eqBool y (.ref b))
              let __x ← setState a
              match __x with
                | (es', fst, t') =>
                  if (true && equal) = true then pure (SetFound.there none)
                  else
                    match t'.sameMemory t.moves t.mask with
                    | some same =>
                      have __do_jp := fun still =>
                        match still with
                        | none => (do
                          rule "set.search.anew"
                          setSearchFrom a (.ref b) h true fuel none : Sem SetFound)
                        | some i' =>
                          if equal = true then pure (SetFound.there (some i'))
                          else setSearchFrom a (.ref b) h true fuel (some nx);
                      match if same = true then t'.slot j else SetTable.Slot.empty with
                      | SetTable.Slot.live i' =>
                        match es'[i']? with
                        | some (fst, y') => do
                          let __do_lift ← isSame y' y
                          let still ← pure (if __do_lift = true then some i' else none)
                          __do_jp still
                        | none => do
                          let still ← pure none
                          __do_jp still
                      | x => do
                        let still ← pure none
                        __do_jp still
                    | x => unsupported "set.changed-during-lookup:is-the-new-block-at-the-old-address" : Sem SetFound)
            | x => unsupported "internal:set-entry") Q E s := by
          obtain ⟨k, c, dk, hne, ey, hk⟩ := hes es[i] (by simp)
          have e1 : es[i]? = some (es[i].1, es[i].2) := by rw [Array.getElem?_eq_getElem hi']
          rw [e1]
          dsimp only
          refine wpAny_bind (wpAny_holding (nk_eq 8 dk hu hk hx prog w E _ ?_))
          rw [decide_eq_false hne]
          refine wpAny_bind (wpAny_setState_of ho hd T.fits ?_)
          dsimp only
          rw [if_neg (by decide)]
          rw [show t.sameMemory t.moves t.mask = some true by unfold SetTable.sameMemory; rw [if_pos (beq_self_eq_true _)]]
          dsimp only
          rw [if_pos rfl, hs]
          dsimp only
          rw [e1]
          dsimp only
          rw [ey]
          refine wpAny_bind (wpAny_isSame_ref_self ?_)
          refine wpAny_bind (wpAny_pure ?_)
          try dsimp only
          try rw [if_pos rfl]
          try dsimp only
          rw [if_neg Bool.false_ne_true]
          exact set_search ho hd T hx dx hu hes he q fuel e' (some nx) (by omega) (by omega) hj' hm'
        split
        · refine wpAny_bind (not_seen dx hx ?_ _ fun y hy => ?_)
          · rw [if_neg Bool.false_ne_true]
            exact body
          · obtain ⟨e2, he2, rfl⟩ := List.mem_map.mp hy
            have he2' : e2 ∈ es.toList := by
              simp only [Array.toList_filter, List.mem_filter] at he2
              exact he2.1
            obtain ⟨k, c, dk, _, _, hk⟩ := hes e2 he2'
            exact ⟨k, dk, hk⟩
        · exact body
    · rename_i hno
      rcases probe_of T.2.1 he hj hl hm rfl with ⟨j, z⟩ | ⟨j, i, nx, e', z, _⟩
      · exact absurd z (hno _)
      · exact absurd z (hno _)
end
end L2
set_option Elab.async false
set_option linter.all false
set_option maxRecDepth 100000
set_option maxHeartbeats 4000000
namespace L2
open PySem PySem.Spec PyProof.Rows
theorem ins_size {α : Type} (xs : Array α) (p : Nat) (x : α) : (SetTable.insertAt xs p x).size = xs.size + 1 := by
  unfold SetTable.insertAt
  simp only [Array.size_append, Array.size_push, Array.size_extract]
  omega
theorem ins_mem {α : Type} {xs : Array α} {p : Nat} {x e : α} (h : e ∈ (SetTable.insertAt xs p x).toList) : e ∈ xs.toList ∨ e = x := by
  unfold SetTable.insertAt at h
  simp only [Array.toList_append, Array.toList_push, List.mem_append, List.mem_singleton, Array.toList_extract, List.extract_eq_drop_take] at h
  rcases h with (h | h) | h
  · exact .inl (List.mem_of_mem_drop (List.mem_of_mem_take h))
  · exact .inr h
  · exact .inl (List.mem_of_mem_drop (List.mem_of_mem_take h))
theorem put_ok {t : SetTable} (hd : t.dummies = #[]) (j : Nat) : (t.put j).1.mask = t.mask ∧ (t.put j).1.place.size = t.place.size + 1 ∧ (t.put j).1.dummies = #[] := by
  refine ⟨rfl, ins_size _ _ _, ?_⟩
  show (if SetTable.has t.dummies j = true then _ else t.dummies) = #[]
  rw [hd]; rfl
section
variable {prog : Program} {w : World} {A : Around} {E : Value → Shared → Prop} {s : Shared}
def SetK (h : Heap) (a : Addr) (ks : List NK) : Prop := ∃ (o : Obj) (es : Array (Int × Value)) (ep : Nat) (t : SetTable), h.get? a = some o ∧ o.ExactSet ∧ o.data = .set es ep t ∧ Tok t es.size ∧ es.size = ks.length ∧
  ∀ e ∈ es.toList, ∃ (k : NK) (c : Addr), k ∈ ks ∧ k.dep ≤ 8 ∧ e.2 = .ref c ∧ NKv h k e.2
theorem nk_but {h h' : Heap} {a : Addr} {o : Obj} {es : Array (Int × Value)} {ep : Nat} {t : SetTable} (ho : h.get? a = some o) (hd : o.data = .set es ep t) (sb : ∀ b, b ≠ a → h'.get? b = h.get? b) {k : NK} {v : Value} (p : NKv h k v) : NKv h' k v :=
  NKv.stay (fun b its z => by
    obtain ⟨ob, eb, cb, n, db⟩ := z
    have hne : b ≠ a := fun z => by
      subst z
      rw [ho] at eb; cases eb
      rw [hd] at db; cases db
    exact ⟨ob, (sb b hne).trans eb, cb, n, db⟩) p
theorem upd_set {h : Heap} {a : Addr} {od : Option Addr} {es : Array (Int × Value)} {ep : Nat} {t : SetTable} {sl : Array (Option Value)} (ho : h.get? a = some ⟨.type "set", od, .set es ep t, sl⟩) (es1 : Array (Int × Value)) (t1 : SetTable) :
    (h.update a (Obj.putSet es1 t1)).get? a = some ⟨.type "set", od, .set es1 (ep + 1) t1, sl⟩ := Heap.get?_update_self _ ho rfl
theorem set_add {a : Addr} {ks : List NK} {b : Addr} {kx : NK} {h : Int} (S : SetK s.heap a ks) (hx : NKv s.heap kx (.ref b)) (dx : kx.dep ≤ 8) (hn : kx ∉ ks) (h64 : ks.length < 64) (hu : A.units + 8 < cLine) {Q : Bool → Shared → Prop}
    (q : ∀ h', (∀ c, c ≠ a → h'.get? c = s.heap.get? c) → h'.objs.size = s.heap.objs.size → SetK h' a (ks ++ [kx]) → Q true { s with heap := h' }) : wpAny (model prog w) A (setAddHashed a (.ref b) h) Q E s := by
  obtain ⟨o, es, ep, t, ho, hc, hd, T, hl, hes⟩ := S
  obtain ⟨oc, od, odt, osl⟩ := o
  obtain ⟨hc1, hc2, hc3⟩ := hc
  dsimp only at hc1 hc2 hc3 hd
  subst hc1 hc2 hc3 hd
  have hd : (⟨.type "set", none, .set es ep t, #[]⟩ : Obj).data = .set es ep t := rfl
  obtain ⟨j0, hj0, he0⟩ := slot_free T.2.1 T.le
  obtain ⟨d, hdl, hdj⟩ := start_reach T.full h hj0
  have hes' : ∀ e ∈ es.toList, ∃ (k : NK) (c : Addr), k.dep ≤ 8 ∧ k ≠ kx ∧ e.2 = .ref c ∧ NKv s.heap k e.2 := fun e he => by
    obtain ⟨k, c, z1, z2, z3, z4⟩ := hes e he
    exact ⟨k, c, z2, fun z => hn (by rw [← z]; exact z1), z3, z4⟩
  have hm : t.mask ≤ 127 := by rcases T.2.2 with ⟨e, _⟩ | ⟨e, _⟩ | ⟨e, _⟩ <;> omega
  unfold setAddHashed
  refine wpAny_holding ?_
  show wpAny (model prog w) A (setAddHashedIn a (.ref b) h (99999 + 1)) Q E s
  rw [setAddHashedIn.eq_2]
  refine wpAny_bind (wpAny_setState_of ho hd T.fits ?_)
  dsimp only
  rw [if_neg (show ¬ byScan (.ref b) es = true by unfold byScan; simp [Value.scannable])]
  refine wpAny_bind (set_search ho hd T hx dx hu hes' he0 (fun j => ?_) 100000 d none (by unfold SetTable.turns at hdl; omega) hdl hdj rfl)
  dsimp only
  refine wpAny_bind (wpAny_setState_of ho hd T.fits ?_)
  dsimp only
  obtain ⟨p1, p2, p3⟩ := put_ok T.2.1 j
  generalize t.put j = r at p1 p2 p3
  obtain ⟨t1, p⟩ := r
  dsimp only at p1 p2 p3 ⊢
  have sz := ins_size es p (h, Value.ref b)
  have mem : ∀ e ∈ (SetTable.insertAt es p (h, Value.ref b)).toList, ∃ (k : NK) (c : Addr), k ∈ ks ++ [kx] ∧ k.dep ≤ 8 ∧ e.2 = .ref c ∧ NKv s.heap k e.2 := fun e he => by
    rcases ins_mem he with he | rfl
    · obtain ⟨k, c, z1, z2, z3, z4⟩ := hes e he
      exact ⟨k, c, by simp [z1], z2, z3, z4⟩
    · exact ⟨kx, b, by simp, dx, rfl, hx⟩
  have hl' : (SetTable.insertAt es p (h, Value.ref b)).size = (ks ++ [kx]).length := by rw [sz, hl, List.length_append, List.length_singleton]
  have T1 := T.1
  rw [T1] at p2
  generalize SetTable.insertAt es p (h, Value.ref b) = es1 at sz mem hl'
  have hz : es1.size ≤ sizeLine := by rw [hl', List.length_append, List.length_singleton]; exact Nat.le_trans (show ks.length + 1 ≤ 64 by omega) (by decide)
  have ho1 := upd_set ho es1 t1
  have sb1 : ∀ c, c ≠ a → (s.heap.update a (Obj.putSet es1 t1)).get? c = s.heap.get? c := (Heap.SameBut.update s.heap a (Obj.putSet es1 t1)).2
  have mem1 : ∀ e ∈ es1.toList, ∃ (k : NK) (c : Addr), k ∈ ks ++ [kx] ∧ k.dep ≤ 8 ∧ e.2 = .ref c ∧ NKv (s.heap.update a (Obj.putSet es1 t1)) k e.2 := fun e he => by
    obtain ⟨k, c, z1, z2, z3, z4⟩ := mem e he
    exact ⟨k, c, z1, z2, z3, nk_but ho rfl sb1 z4⟩
  have rest : wpAny (model prog w) A (do
      storeSet a es1 t1
      if (!false && t1.tooFull) = true then do
          let __r ← setRelay a (SetTable.grown (es.size + 1))
          pure true
        else pure true) Q E s := by
    refine wpAny_bind (wpAny_storeSet_of ho hd ?_ hz)
    have hfull : t1.tooFull = decide ((es.size + 1) * 5 ≥ t.mask * 3) := by
      unfold SetTable.tooFull SetTable.fill
      rw [p2, p3, p1]; rfl
    have n64 : es.size + 1 ≤ 64 := by rw [hl]; omega
    by_cases hf : (es.size + 1) * 5 ≥ t.mask * 3
    · rw [hfull, decide_eq_true hf]
      rw [if_pos (show (!false && true) = true from rfl)]
      obtain ⟨mask', F', hw, hk, hle, hz'⟩ : ∃ mask', Full (mask' + 1) ∧ SetTable.sizeAbove (SetTable.grown (es.size + 1)) - 1 = mask' ∧ ((mask' = 7 ∧ es1.size < 5) ∨ (mask' = 31 ∧ es1.size < 19) ∨ (mask' = 127 ∧ es1.size < 77)) ∧ es1.size ≤ mask' ∧ ¬ SetTable.sizeAbove (SetTable.grown (es.size + 1)) > sizeLine := by
        rcases T.2.2 with ⟨e, z⟩ | ⟨e, z⟩ | ⟨e, z⟩
        · rw [e] at hf
          have : es.size = 4 := by omega
          rw [sz, this]
          exact ⟨31, full32, by decide, .inr (.inl ⟨rfl, by decide⟩), by decide, by decide⟩
        · rw [e] at hf
          have : es.size = 18 := by omega
          rw [sz, this]
          exact ⟨127, full128, by decide, .inr (.inr ⟨rfl, by decide⟩), by decide, by decide⟩
        · rw [e] at hf; omega
      obtain ⟨t2, order, er, m1, m2, m3, m4, m5⟩ := relaid_ok t1 F' (es1.map (·.1)) (by rw [Array.size_map]; exact hle) hw
      rw [Array.size_map] at m2 m4 m5
      obtain ⟨k1, k2⟩ := picked es1 order m5
      have fit1 : t1.fits es1.size = true := by
        unfold SetTable.fits SetTable.fill
        rw [p2, p3, p1, sz, Bool.and_eq_true, beq_iff_eq, decide_eq_true_eq]
        refine ⟨rfl, ?_⟩
        show es.size + 1 + 0 ≤ _
        rcases T.2.2 with ⟨e, z⟩ | ⟨e, z⟩ | ⟨e, z⟩ <;> omega
      refine wpAny_bind ?_
      unfold setRelay
      refine wpAny_bind (wpAny_setState_of ho1 rfl fit1 ?_)
      dsimp only
      rw [if_neg hz', er]
      refine wpAny_bind (wpAny_of_eq (a := (order.filterMap (es1[·]?), t2)) (by
        show (if ((order.filterMap (es1[·]?)).size != es1.size) = true then _ else pure (order.filterMap (es1[·]?), t2)) = _
        rw [if_neg (by rw [k1, m4]; simp)]) ?_)
      dsimp only
      refine wpAny_storeSet_of ho1 rfl ?_ (by rw [k1, m4]; exact hz)
      refine wpAny_pure ?_
      have ho2 := upd_set ho1 (order.filterMap (es1[·]?)) t2
      have sb2 : ∀ c, c ≠ a → ((s.heap.update a (Obj.putSet es1 t1)).update a (Obj.putSet (order.filterMap (es1[·]?)) t2)).get? c = (s.heap.update a (Obj.putSet es1 t1)).get? c := (Heap.SameBut.update _ a _).2
      refine q _ (fun c hc => (sb2 c hc).trans (sb1 c hc)) ?_ ⟨_, _, _, _, ho2, ⟨rfl, rfl, rfl⟩, rfl, ⟨by rw [m2, k1, m4], m3, ?_⟩, by rw [k1, m4]; exact hl', fun e he => ?_⟩
      · rw [(Heap.SameBut.update _ a _).1, (Heap.SameBut.update _ a _).1]
      · rw [m1, k1, m4]; exact hk
      · obtain ⟨k, c, z1, z2, z3, z4⟩ := mem1 e (k2 e he)
        exact ⟨k, c, z1, z2, z3, nk_but ho1 rfl sb2 z4⟩
    · rw [hfull, decide_eq_false hf]
      rw [if_neg (show ¬ (!false && false) = true from Bool.false_ne_true)]
      refine wpAny_pure (q _ sb1 ?_ ⟨_, _, _, _, ho1, ⟨rfl, rfl, rfl⟩, rfl, ⟨by rw [p2, sz], p3, ?_⟩, hl', mem1⟩)
      · rw [(Heap.SameBut.update _ a _).1]
      · rw [p1, sz]
        rcases T.2.2 with ⟨e, z⟩ | ⟨e, z⟩ | ⟨e, z⟩ <;> rw [e] at hf ⊢ <;> omega
  split
  · refine wpAny_bind (nk_byval 8 dx hx ?_)
    exact rest
  · refine wpAny_bind (wpAny_pure ?_)
    exact rest
end
end L2
set_option Elab.async false
set_option linter.all false
set_option maxRecDepth 100000
set_option maxHeartbeats 4000000
namespace L2
open PySem PySem.Spec PyProof.Rows
section
variable {prog : Program} {w : World}
theorem setK_keep {h h' : Heap} {d it l : Addr} {i : Nat} {ks : List NK} (hd : SetK h d ks) (hi : h.IsListIter it l i) (hne : d ≠ it) (kp : ∀ b o, b ≠ it → h.get? b = some o → h'.get? b = some o) : SetK h' d ks := by
  obtain ⟨o, es, ep, t, d1, d2, d3, d4, d5, d6⟩ := hd
  refine ⟨o, es, ep, t, kp d o hne d1, d2, d3, d4, d5, fun e he => ?_⟩
  obtain ⟨k, c, z1, z2, z3, z4⟩ := d6 e he
  refine ⟨k, c, z1, z2, z3, NKv.stay (fun a its t => ?_) z4⟩
  obtain ⟨ot, et, ct, n, dt⟩ := t
  obtain ⟨oi, ei, ci, _⟩ := hi
  refine ⟨ot, kp a ot (fun z => ?_) et, ct, n, dt⟩
  subst z
  rw [et] at ei; cases ei
  rw [ct] at ci; exact absurd (Value.type.inj ci) (by decide)
theorem so_loop {h₀ : Heap} {l it d : Addr} {items : Array Value} {A : Around} {R : Result → Shared → Prop} (hd0 : h₀.get? d = none) (hit0 : h₀.get? it = none) (hne : d ≠ it) (hl : h₀.IsList l items) (hh : A.handled = none) (hu : A.units + 16 < cLine) :
    ∀ (rest : List (NK × Addr)) (i : Nat) (acc : List NK) (s : Shared), Keep h₀ s.heap → s.heap.IsListIter it l i → SetK s.heap d acc →
      items.toList.drop i = rest.map (fun r => Value.ref r.2) → (∀ r ∈ rest, NKv h₀ r.1 (.ref r.2) ∧ r.1.dep ≤ 8) → (acc ++ rest.map (·.1)).Nodup → acc.length + rest.length ≤ 64 →
      (∀ h' tk, SetK h' d (acc ++ rest.map (·.1)) → Keep h₀ h' → R (.ok (.ret .none)) { s with heap := h', toks := tk }) →
      codeAny (model prog w) A (.builtin "set.update.loop" ⟨[.ref d, .ref it], []⟩) R s := by
  intro rest
  induction rest with
  | nil =>
    intro i acc s kp hi hd hr hf nd hz k
    refine codeAny_builtin F.entry_set_update_loop ?_
    rw [Around.under_plainId F.plain_set_update_loop _]
    show wpAny _ A.in1 (pyNext (.ref it) >>= _) _ _ s
    have hx : items[i]? = none := by
      have : items.toList[i]? = none := by
        rw [List.getElem?_eq_none_iff]
        exact List.drop_eq_nil_iff.mp hr
      simpa using this
    refine wpAny_bind (wpAny_pyNext_list_end hh hi (kp.list hl) hx fun h' ex => ?_)
    show wpAny _ _ (ret Value.none) _ _ _
    refine wpAny_pure ?_
    refine k h' s.toks ?_ ?_
    · rw [List.map_nil, List.append_nil]
      exact setK_keep hd hi hne fun b o hb e => ex b o hb e
    · exact fun b o e => ex b o (fun z => by rw [z, hit0] at e; cases e) (kp b o e)
  | cons r rest ih =>
    intro i acc s kp hi hd hr hf nd hz k
    refine codeAny_builtin F.entry_set_update_loop ?_
    rw [Around.under_plainId F.plain_set_update_loop _]
    show wpAny _ A.in1 (pyNext (.ref it) >>= _) _ _ s
    have hx : items[i]? = some (.ref r.2) := by
      have : items.toList[i]? = some (.ref r.2) := by
        have e := congrArg List.head? hr
        rw [List.head?_drop] at e
        rw [e]; rfl
      simpa using this
    obtain ⟨hk, hdp⟩ := hf r (by simp)
    rw [List.length_cons] at hz
    refine wpAny_bind (wpAny_pyNext_list_item hi (kp.list hl) hx fun h' hi' sb => ?_)
    have kp' : Keep h₀ h' := fun b o e => by
      have hb : b ≠ it := fun z => by rw [z, hit0] at e; cases e
      rw [sb.2 b hb]; exact kp b o e
    have hd' : SetK h' d acc := setK_keep hd hi hne fun b o hb e => by rw [sb.2 b hb]; exact e
    have hk' : NKv h' r.1 (.ref r.2) := NKv.stay (fun a its t => kp'.tuple t) hk
    show wpAny _ _ (holding [Value.ref r.2] (setAdd d (.ref r.2)) >>= _) _ _ _
    refine wpAny_bind (wpAny_holding ?_)
    unfold setAdd
    refine wpAny_holding ?_
    have nd' : r.1 ∉ acc := fun z => by
      rw [List.map_cons] at nd
      exact (List.nodup_append.mp nd).2.2 r.1 z r.1 (by simp) rfl
    refine wpAny_bind (nk_hash 8 hdp (by show A.units + 1 + 8 < cLine; omega) hk' ?_)
    refine set_add (s := { s with heap := h', toks := _ }) hd' hk' hdp nd' (by omega) (by show A.units + 1 + 8 < cLine; omega) fun h'' sb'' _ hd'' => ?_
    refine wpAny_pure ⟨plainId_quiet F.plain_set_update_loop _, ?_⟩
    refine ih (i + 1) (acc ++ [r.1]) { s with heap := h'', toks := _ } (fun b o e => ?_) ?_ hd'' ?_ (fun q hq => hf q (by simp [hq])) ?_ ?_ fun h3 tk3 hS hK => ?_
    · have hb : b ≠ d := fun z => by rw [z, hd0] at e; cases e
      show h''.get? b = some o
      rw [sb'' b hb]; exact kp' b o e
    · obtain ⟨o, eo, c⟩ := hi'
      exact ⟨o, by show h''.get? it = some o; rw [sb'' it (Ne.symm hne)]; exact eo, c⟩
    · have e := congrArg List.tail hr
      rw [List.tail_drop] at e
      exact e
    · rw [List.append_assoc]; exact nd
    · rw [List.length_append, List.length_singleton]; omega
    · rw [List.append_assoc] at hS
      exact k h3 tk3 hS hK
theorem so_call {A : Around} {E : Value → Shared → Prop} {s : Shared} {l : Addr} {its : Array Value} {Q : Value → Shared → Prop} (hl : s.heap.IsList l its) (hh : A.handled = none) (hu : A.units + 32 < cLine)
    (rest : List (NK × Addr)) (hr : its.toList = rest.map (fun r => Value.ref r.2)) (hf : ∀ r ∈ rest, NKv s.heap r.1 (.ref r.2) ∧ r.1.dep ≤ 8) (nd : (rest.map (·.1)).Nodup) (hz : rest.length ≤ 64)
    (k : ∀ h' tk, SetK h' s.heap.objs.size (rest.map (·.1)) → Keep s.heap h' → Q (.ref s.heap.objs.size) { s with heap := h', toks := tk }) :
    wpAny (model prog w) A (call (.type "set") [.ref l]) Q E s := by
  obtain ⟨c, tl, hmro⟩ := PySem.F.called_set.mro
  have hmade := PySem.F.called_set.made
  have hsub := PySem.F.called_set.sub
  have h1 := PySem.F.called_set.notType
  have h2 := PySem.F.called_set.canCreate
  have hct := PySem.F.typeCall_set_1 (.ref l)
  refine wpAny_call (codeAny_of_tree ?_)
  show wpAny _ _ (callAny (.type "set") _) _ _ _
  refine wpAny_pure ⟨Code.quiet_builtin _ (by decide +kernel), codeAny_builtin PySem.F.entry_type_call ?_⟩
  rw [Around.under_plain (weight_type_call_type "set" [.ref l] []) rfl]
  repeat (any_goals (first | assumption | wp_step))
  refine codeAny_mono (code_set_new_1 (.ref l) (E := E) (Q₁ := fun obj s₁ => ∃ led : Bool, obj = .ref s.heap.objs.size ∧ s₁ = { s with heap := s.heap.push { cls := .type "set", dict := none, data := .set #[] 0 (.fresh 0 0 led) } }) fun led => ⟨led, rfl, rfl⟩) fun r s₁ hr' => ?_
  cases r with
  | error e => exact hr'
  | ok fl =>
    cases fl with
    | ret obj =>
      obtain ⟨led, rfl, rfl⟩ := hr'
      have hS : (s.heap.push { cls := .type "set", dict := none, data := .set #[] 0 (.fresh 0 0 led) }).get? s.heap.objs.size = some { cls := .type "set", dict := none, data := .set #[] 0 (.fresh 0 0 led) } := Heap.get?_push_size _ rfl
      have hT : Shared.TypeIs { s with heap := s.heap.push { cls := .type "set", dict := none, data := .set #[] 0 (.fresh 0 0 led) } } (.ref s.heap.objs.size) "set" := ⟨_, hS, rfl⟩
      have hli := PySem.F.called_set.init.lookup
      have hbi := PySem.F.called_set.init.bind (.ref s.heap.objs.size)
      repeat (any_goals (first | assumption | wp_step))
      refine codeAny_mono (codeAny_call_builtin (R := wants (fun r s₂ => r = .none ∧ ∃ h' tk, s₂ = { s with heap := h', toks := tk } ∧ SetK h' s.heap.objs.size (rest.map (·.1)) ∧ Keep s.heap h') E) PySem.F.called_set.init.plain PySem.F.entry_set_init (check_set_init_1 hT ?_)) fun r₂ s₂ hr₂ => ?_
      · have hl0 := hl
        obtain ⟨ol, hol, hcl, nl, hdl⟩ := hl
        obtain ⟨ocls, odict, odata, oslots⟩ := ol
        simp only at hcl hdl
        subst hcl hdl
        have hol' : (s.heap.push { cls := .type "set", dict := none, data := .set #[] 0 (.fresh 0 0 led) }).get? l = some { cls := .type "list", dict := odict, data := .seq its nl, slots := oslots } := Heap.get?_push_of_some _ hol
        have hsls := PySem.F.sub_list_set
        have hslf := PySem.F.sub_list_frozenset
        have hne : (Value.type "list" == Value.type "dict") = false := by decide
        have hl1 : (s.heap.push { cls := .type "set", dict := none, data := .set #[] 0 (.fresh 0 0 led) }).IsList l its := ⟨_, hol', rfl, nl, rfl⟩
        unfold Builtin.«set.__init__» noKeywords Builtin.Frozenset.updateFrom
        generalize hPI : pyIter = PI
        wp_walk
        subst hPI
        refine wpAny_pyIter_list hl1 ?_
        refine wpAny_bind (wpAny_runValue ?_)
        have e1 : (s.heap.push { cls := .type "set", dict := none, data := .set #[] 0 (.fresh 0 0 led) }).objs.size = s.heap.objs.size + 1 := Heap.size_push ..
        have kp0 : Keep s.heap ((s.heap.push { cls := .type "set", dict := none, data := .set #[] 0 (.fresh 0 0 led) }).push { cls := .type "list_iterator", data := .fields #[.ref l, .int 0 0] }) := fun b ob q => Heap.get?_push_of_some _ (Heap.get?_push_of_some _ q)
        refine so_loop (h₀ := s.heap) (l := l) (items := its) (Heap.get?_none_of_le (Nat.le_refl _)) (Heap.get?_none_of_le (by show s.heap.objs.size ≤ (s.heap.push _).objs.size; rw [e1]; omega)) (by show s.heap.objs.size ≠ (s.heap.push _).objs.size; rw [e1]; omega) hl0 (by simp [hh]) (by simp; omega) rest 0 [] _ kp0 ⟨_, Heap.get?_push_size _ rfl, rfl, rfl⟩ ?_ (by simpa using hr) hf (by simpa using nd) (by simpa using hz) fun h' tk hK kp => ?_
        · refine ⟨_, #[], 0, _, Heap.get?_push_of_some _ hS, ⟨rfl, rfl, rfl⟩, rfl, ⟨rfl, rfl, .inl ⟨rfl, by decide⟩⟩, rfl, fun e he => by simp at he⟩
        · show wpAny _ _ _ _ _ _
          refine wpAny_pure ?_
          show wpAny _ _ (ret Value.none) _ _ _
          exact wpAny_pure ⟨rfl, h', tk, rfl, by simpa using hK, kp⟩
      · cases r₂ with
        | error e => exact hr₂
        | ok fl₂ =>
          cases fl₂ with
          | ret r =>
            obtain ⟨rfl, h', tk, rfl, hS', hk'⟩ := hr₂
            repeat (any_goals (first | assumption | wp_step))
            exact k _ _ hS' hk'
          | _ => exact hr₂.elim
    | _ => exact hr'.elim
end
end L2
set_option Elab.async false
set_option linter.all false
set_option maxRecDepth 100000
set_option maxHeartbeats 4000000
namespace L2
open PySem PySem.Spec PyProof.Rows
def setP (a : Addr) (n : Nat) : Heap → Prop := fun h => ∃ (o : Obj) (es : Array (Int × Value)) (ep : Nat) (t : SetTable), h.get? a = some o ∧ o.ExactSet ∧ o.data = .set es ep t ∧ t.fits es.size = true ∧ es.size = n
theorem setP.stay {a : Addr} {n : Nat} : ∀ h1 h2 : Heap, setP a n h1 → (∀ o, h1.get? a = some o → h2.get? a = some o) → setP a n h2 := fun _ _ ⟨o, es, ep, t, e, z⟩ k => ⟨o, es, ep, t, k _ e, z⟩
def rSetT (K : PySem.W.Frag) : List V → Hp → VK → Prop := fun vs H Q => ∃ (l : Addr) (xs : List V) (ks : List NK), vs = [.ref l] ∧ SqL K H l xs ∧ NKrs H ks xs ∧ (∀ x ∈ xs, ∃ b, x = .ref b) ∧ (∀ k ∈ ks, k.dep ≤ 8) ∧ ks.Nodup ∧ ks.length ≤ 64 ∧
  ∀ a, H a = none → Q (.ref a) (upd H a (.ext (setP a ks.length)))
def rLenS : List V → Hp → VK → Prop := fun vs H Q => ∃ (a : Addr) (n : Nat), vs = [.ref a] ∧ H a = some (.ext (setP a n)) ∧ n ≤ 64 ∧ Q (.int (n : Int)) H
section
variable {X : Cx} {pins : List (Addr × Obj)} {σ : St} {H : Hp} {s : Shared}
theorem so_rest (I : Inv X pins σ H s) : ∀ {ks : List NK} {xs : List V} {us : List Value}, NKrs H ks xs → (∀ x ∈ xs, ∃ b, x = .ref b) → Vals xs us → ∃ rest : List (NK × Addr), us = rest.map (fun r => Value.ref r.2) ∧ rest.map (·.1) = ks ∧ ∀ r ∈ rest, NKv s.heap r.1 (.ref r.2)
  | [], _, _, n, _, r => by
    simp only [NKrs] at n; subst n
    cases r
    exact ⟨[], rfl, rfl, fun r hr => by simp at hr⟩
  | k :: ks, _, _, n, hb, r => by
    simp only [NKrs] at n
    obtain ⟨x, xs, rfl, n1, n2⟩ := n
    cases r with
    | cons r1 r2 =>
      obtain ⟨b, rfl⟩ := hb x (by simp)
      obtain ⟨rest, e1, e2, e3⟩ := so_rest I n2 (fun y hy => hb y (by simp [hy])) r2
      have nk := nk_of I n1 r1
      cases r1
      refine ⟨(k, b) :: rest, by simp [e1], by simp [e2], fun q hq => ?_⟩
      rcases List.mem_cons.mp hq with rfl | hq
      · exact nk
      · exact e3 q hq
theorem c_setN (hc : X.calm = true) (hu : X.A.units + 64 < cLine) : CallR X (.type "set") (rSetT X.K) := by
  intro pins s σ H xs us Q I r h
  obtain ⟨l, ys, ks, rfl, hq, nk, hb, hd, nd, hz, q⟩ := h
  obtain ⟨u, rfl, ru⟩ := vals1 r
  cases ru
  obtain ⟨its, v1, pl, _⟩ := I.list hq
  obtain ⟨rest, e1, e2, e3⟩ := so_rest I nk hb v1
  have hlen : rest.length = ks.length := by rw [← e2, List.length_map]
  refine so_call pl.isList (I.ok.hd hc) (by omega) rest (by simpa using e1) (fun r hr => ⟨e3 r hr, hd _ (by rw [← e2]; exact List.mem_map.mpr ⟨r, hr, rfl⟩)⟩) (by rw [e2]; exact nd) (by omega) fun h' tk hS kp => ?_
  rw [e2] at hS
  obtain ⟨o, es, ep, t, d1, d2, d3, d4, d5, _⟩ := hS
  have pp : setP s.heap.objs.size ks.length h' := ⟨o, es, ep, t, d1, d2, d3, d4.fits, d5⟩
  exact ⟨.ref s.heap.objs.size, _, I.laid (t' := tk) (o := .ext (setP s.heap.objs.size ks.length)) kp (Nat.le_refl _) ⟨pp, ⟨o, d1⟩, setP.stay⟩, rfl, q _ (I.hok.fresh (Nat.le_refl _))⟩
theorem c_lenS : CallR X (.builtin "len") rLenS := by
  intro pins s σ H xs us Q I r h
  obtain ⟨a, n, rfl, ha, hn, q⟩ := h
  obtain ⟨u, rfl, ru⟩ := vals1 r
  cases ru
  obtain ⟨⟨o, es, ep, t, e1, e2, e3, e4, e5⟩, _, _⟩ := (show ObjOk X.prog X.w H s.heap a (.ext (setP a n)) from I.hok a _ ha)
  refine call_len_set e1 e2 e3 e4 (by omega) ?_
  rw [e5]
  exact ⟨.int (n : Int), H, I.tok _, ⟨_, rfl⟩, q⟩
end
def isTup2 : D → Bool
  | .tup _ => true
  | _ => false
open Classical in
noncomputable def dLS : List D → Option D
  | [.lst ds] => match nksD ds with
    | some ks => if ks.Nodup ∧ ks.length ≤ 64 ∧ (∀ k ∈ ks, k.dep ≤ 8) ∧ ds.all isTup2 = true then some (.int (ks.length : Int)) else none
    | none => none
  | _ => none
theorem refs_of {K : PySem.W.Frag} {H : Hp} : ∀ {ds : List D} {xs : List V}, ds.all isTup2 = true → RDs K H ds xs → ∀ x ∈ xs, ∃ b, x = .ref b
  | [], xs, _, r, x, hx => by simp only [RDs] at r; subst r; simp at hx
  | d :: ds, xs, h, r, x, hx => by
    simp only [RDs] at r
    obtain ⟨y, r', rfl, r1, r2⟩ := r
    rw [List.all_cons, Bool.and_eq_true] at h
    rcases List.mem_cons.mp hx with rfl | hx
    · cases d <;> first | (simp [isTup2] at h; done) | skip
      obtain ⟨a, _, rfl, _⟩ := r1.tup
      exact ⟨a, rfl⟩
    · exact refs_of h.2 r2 x hx
theorem cd_LS {K : PySem.W.Frag} : CallD K false dLS (fun vs H Q => rSetT K vs H fun x H1 => rLenS [x] H1 Q) := by
  intro H0 H xs ds z Q s r ho k
  unfold dLS at ho
  split at ho <;> first | (cases ho; done) | skip
  rename_i es
  split at ho <;> first | (cases ho; done) | skip
  rename_i ks hks
  split at ho <;> first | (cases ho; done) | skip
  rename_i hc
  cases ho
  obtain ⟨x, rfl, q1⟩ := r.uno
  obtain ⟨a, ys, rfl, ha, ra⟩ := q1.lst
  have nk := NKrs.mono (fun c ys q => s _ _ q) (nksD_rd hks ra)
  refine ⟨a, ys, ks, rfl, .of (s _ _ ha), nk, refs_of hc.2.2.2 ra, hc.2.2.1, hc.1, hc.2.1, fun p hp => ⟨p, ks.length, rfl, upd_same, hc.2.1, k _ _ (.val (Same.upd_new hp) (.new s hp) (.mkInt _))⟩⟩
noncomputable def eLS (fs : DE → R (List D)) : DE → R D := eCB dLS fs
theorem q_lenset {X : Cx} {EX : XW} {e : Expr} {fs : DE → R (List D)} {p p2 pos pos2 : Pos} (hc : X.calm = true) (hu : X.A.units + 64 < cLine) (hg : Gl X "len") (hm : X.mg "len" = none) (hv : bootBuiltins "len" = some (.builtin "len")) (hg2 : Gl X "set") (hm2 : X.mg "set" = none) (hv2 : bootBuiltins "set" = some (.type "set")) (ha : QA X EX [e] fs)
    (he : starEach [e] X.env = (false, eval e X.env) :: starEach [] X.env := by rfl) (he2 : starEach [Expr.Call (.Name "set" p2) [e] [] pos2] X.env = (false, eval (.Call (.Name "set" p2) [e] [] pos2) X.env) :: starEach [] X.env := by rfl) :
    QE X EX false (.Call (.Name "len" p) [.Call (.Name "set" p2) [e] [] pos2] [] pos) (eLS fs) :=
  ⟨(pe_callB c_lenS hg hm hv (pa_cons (pe_callTy (c_setN hc hu) hg2 hm2 hv2 ha.h (he := he)) pa_nil he2) (he := he2)).imp fun σ H Q q => (show tCB (fun vs H Q => rSetT X.K vs H fun x H1 => rLenS [x] H1 Q) (TAd X.K EX fs) σ H Q from d_cb cd_LS q)⟩
end L2
set_option Elab.async false
set_option linter.all false
set_option maxRecDepth 100000
set_option maxHeartbeats 4000000
namespace L2
open PySem PySem.Spec PyProof.Rows
open PySem.W in
def runTree (tb : String → Option Builtin) (p : Program) (w : World) (m : Nat) (ann : Option Value) : Nat → SharedT → Thread → Option SharedT
  | 0, _, _ => none
  | n + 1, s, t => match through t with
    | true => some s
    | false => match stepOk m ann t with
      | false => none
      | true => match stepT (denote tb) p w s t with
        | some (s', t') => runTree tb p w m ann n s' t'
        | none => none
open PySem.W in
theorem runTree_of {tb : String → Option Builtin} {p : Program} {w : World} {m : Nat} {ann : Option Value} : ∀ (n : Nat) {s s' : SharedT} {t : Thread}, runTree tb p w m ann n s t = some s' → topRun tb p w m ann n s.abs t = some s'.abs
  | 0, _, _, _, h => nomatch h
  | n + 1, s, s', t, h => by
    unfold runTree at h
    unfold topRun
    cases a : through t with
    | true => rw [a] at h; cases h; rfl
    | false =>
      rw [a] at h
      cases b : stepOk m ann t with
      | false => rw [b] at h; cases h
      | true =>
        rw [b] at h
        cases c : stepT (denote tb) p w s t with
        | none => rw [c] at h; cases h
        | some z =>
          obtain ⟨s2, t2⟩ := z
          rw [c] at h
          rw [stepT_spec c]
          exact runTree_of n h
open PySem.W in
def treeOf : List Obj → Nat → BT → BT
  | [], _, t => t
  | o :: l, i, t => treeOf l (i + 1) (t.ins i o)
open PySem.W in
noncomputable def bootS (w : World) (os : OsState) : SharedT := ⟨treeOf (boot_heap w.params).objs.toList 0 .nil, (boot_heap w.params).objs.size, (boot_heap w.params).life, Array.mk [], boot_drawn, boot_toks, os⟩
open PySem.W in
noncomputable def seenAt (p q : Program) (loose : List Str) (Xt : Shared → Bool) {α : Type} (Yf : Shared → α) (w : World) (t : Shared) :=
  (staticsOk (importedModules p.main.body) (boot_heap w.params) t.heap && namesBound p t.heap && gensDone t && laidKept (boot_heap w.params) t.heap, openSeen q loose (importedModules p.main.body) Xt true t, Yf t)
open PySem.W in
noncomputable def outAt (p q : Program) (loose : List Str) (Xt : Shared → Bool) {α : Type} (Yf : Shared → α) (N : Nat) (w : World) (os : OsState) :=
  (runTree treeTable p w (boot_heap w.params).objs.size ((boot_heap w.params).nsMap mainGlobals "__annotations__") N (bootS w os) (topStub p)).map fun s => seenAt p q loose Xt Yf w s.abs
open PySem.W in
theorem boot_abs : ∀ (w : World) (os : OsState), (bootS w os).abs = ⟨boot_heap w.params, Array.mk [], boot_drawn, boot_toks, os⟩ := fun _ _ => by kernel_rfl
open PySem.W in
theorem boot_ns : ∀ w : World, (boot_heap w.params).isNs mainGlobals = true := fun _ => by kernel_rfl
open PySem.W in
theorem left_of {p q : Program} {loose : List Str} {Xt : Shared → Bool} {α : Type} {Yf : Shared → α} {Ya : World → α} {N : Nat} (e : opening p = plainProg p.main.scope.names) (hN : Nat.ble 600 N = true)
    (f : ∀ s, fenceModules? p s = some s) (h : ∀ w os, outAt p q loose Xt Yf N w os = some (true, openGood q loose, Ya w)) : LeftO p q loose Xt Yf Ya N := fun w => by
  obtain ⟨⟨hp, gs, d, k, os⟩, a, b⟩ := Option.map_eq_some_iff.mp (boot_open e hN f w)
  obtain ⟨rfl, rfl, rfl, rfl⟩ : hp = boot_heap w.params ∧ gs = Array.mk [] ∧ d = boot_drawn ∧ k = boot_toks := by simpa using b
  obtain ⟨s, r, c⟩ := Option.map_eq_some_iff.mp (h w os)
  have r2 := runTree_of N r
  rw [boot_abs] at r2
  obtain ⟨l1, l2, l3⟩ : _ ∧ _ ∧ _ := by simpa only [seenAt, Prod.mk.injEq] using c
  have t : topFrom treeTable p w N ⟨boot_heap w.params, Array.mk [], boot_drawn, boot_toks, os⟩ = some s.abs := by
    unfold topFrom
    dsimp only
    rw [boot_ns, r2]
    show (match staticsOk (importedModules p.main.body) (boot_heap w.params) s.abs.heap && namesBound p s.abs.heap && gensDone s.abs && laidKept (boot_heap w.params) s.abs.heap with | true => _ | false => _) = _
    rw [l1]
  unfold openEnds
  rw [a]
  show (topFrom treeTable p w N _).map _ = _
  rw [t]
  exact congrArg some (Prod.ext l2 l3)
abbrev vs (x : String) (t : Nat) : Value := .str (Str.ofString x) t
abbrev en (P : Params) (x : String) (t : Nat) (v : Value) : DictEntry := ⟨PyData.keyHash P (Str.ofString x), .str (Str.ofString x) t, v⟩
abbrev oT (l : List Value) : Obj := { cls := .type "tuple", data := .seq l.toArray }
abbrev oD (l : List DictEntry) (n : Nat) : Obj := { cls := .type "dict", data := .dict l.toArray n }
abbrev oF (st : Stmt) (x q : String) (dV kV doc pm : Value) (an : Option Addr) (cd ct : Value) : Obj := { cls := .type "function", data := .func (PySem.W.fnOf (Str.ofString x) (Str.ofString q) (defArgs st) (defBody st) (defScope st) dV kV doc pm an cd ct) }
end L2
set_option Elab.async false
set_option linter.all false
set_option maxRecDepth 100000
set_option maxHeartbeats 4000000
namespace Cu
abbrev P2 := Int × Int
abbrev P3 := Int × Int × Int
def sh (at' x : Int) : Int := if x > at' then x + 1 else x
def sh2 (c : Int) (p : P2) : P2 := (sh c p.1, sh c p.2)
def sh3 (c : Int) (p : P3) : P3 := (sh c p.1, sh c p.2.1, sh c p.2.2)
def outer (p : P3) : P2 := (p.1, p.2.2)
def nLine (n c : Int) : P2 := if c = n - 1 then (0, c) else (c, c + 2)
def nTri (n c : Int) : P3 := if c = n - 1 then (0, c, n) else (c, c + 1, c + 2)
structure CInv (n : Int) (ls : List P2) (T : List P3) : Prop where
  n3 : 3 ≤ n
  tri : ∀ a c b, (a, c, b) ∈ T → 0 ≤ a ∧ a < c ∧ c < b ∧ b ≤ n - 1 ∧ ((a, c) ∈ ls ∨ c = a + 1) ∧ ((c, b) ∈ ls ∨ b = c + 1)
  lin : ∀ a b, (a, b) ∈ ls → 0 ≤ a ∧ a + 2 ≤ b ∧ b ≤ n - 1 ∧ ¬ (a = 0 ∧ b = n - 1)
  nc : ∀ a b c d, (a, b) ∈ ls → (c, d) ∈ ls → ¬ (a < c ∧ c < b ∧ b < d)
  nd : ls.Nodup
  prm : (T.map outer).Perm ((0, n - 1) :: ls)
theorem inv3 : CInv 3 [] [(0, 1, 2)] where
  n3 := by omega
  tri := fun a c b h => by simp only [List.mem_cons, Prod.mk.injEq, List.not_mem_nil, or_false] at h; omega
  lin := fun a b h => by simp at h
  nc := fun a b c d h => by simp at h
  nd := List.nodup_nil
  prm := .refl _
theorem mem_sh2 {c : Int} {ls : List P2} {x y : Int} (h : (x, y) ∈ ls.map (sh2 c)) : ∃ a b, (a, b) ∈ ls ∧ x = sh c a ∧ y = sh c b := by
  obtain ⟨⟨a, b⟩, hm, e⟩ := List.mem_map.mp h
  simp only [sh2, Prod.mk.injEq] at e
  exact ⟨a, b, hm, e.1.symm, e.2.symm⟩
theorem sh2_mem {c : Int} {ls : List P2} {a b : Int} (h : (a, b) ∈ ls) : (sh c a, sh c b) ∈ ls.map (sh2 c) := List.mem_map.mpr ⟨(a, b), h, rfl⟩
theorem sh_inj {c x y : Int} (h : sh c x = sh c y) : x = y := by
  unfold sh at h; split at h <;> split at h <;> omega
theorem CInv.grow {n : Int} {ls : List P2} {T : List P3} (I : CInv n ls T) (c : Int) (h0 : 0 ≤ c) (h1 : c < n) : CInv (n + 1) (ls.map (sh2 c) ++ [nLine n c]) (T.map (sh3 c) ++ [nTri n c]) where
  n3 := by have := I.n3; omega
  tri := fun x y z h => by
    have h3 := I.n3
    rcases List.mem_append.mp h with h | h
    · obtain ⟨⟨a, m, b⟩, hm, e⟩ := List.mem_map.mp h
      simp only [sh3, Prod.mk.injEq] at e
      obtain ⟨rfl, rfl, rfl⟩ := e
      obtain ⟨g1, g2, g3, g4, g5, g6⟩ := I.tri a m b hm
      have k1 : 0 ≤ sh c a := by unfold sh; split <;> omega
      have k2 : sh c a < sh c m := by unfold sh; split <;> split <;> omega
      have k3 : sh c m < sh c b := by unfold sh; split <;> split <;> omega
      have k4 : sh c b ≤ n + 1 - 1 := by unfold sh; split <;> omega
      have side : ∀ u w, u + 1 = w → w ≤ n - 1 → (sh c u, sh c w) ∈ ls.map (sh2 c) ++ [nLine n c] ∨ sh c w = sh c u + 1 := fun u w e hw => by
        by_cases q : u = c
        · left
          refine List.mem_append.mpr (.inr ?_)
          have e1 : sh c u = c := by unfold sh; split <;> omega
          have e2 : sh c w = c + 2 := by unfold sh; split <;> omega
          rw [e1, e2]; unfold nLine; rw [if_neg (by omega)]; simp
        · right; unfold sh; split <;> split <;> omega
      refine ⟨k1, k2, k3, k4, ?_, ?_⟩
      · rcases g5 with g5 | g5
        · exact .inl (List.mem_append.mpr (.inl (sh2_mem g5)))
        · exact side a m (by omega) (by omega)
      · rcases g6 with g6 | g6
        · exact .inl (List.mem_append.mpr (.inl (sh2_mem g6)))
        · exact side m b (by omega) (by omega)
    · simp only [List.mem_singleton] at h
      unfold nTri at h
      by_cases q : c = n - 1
      · rw [if_pos q] at h
        simp only [Prod.mk.injEq] at h
        obtain ⟨rfl, rfl, rfl⟩ := h
        refine ⟨by omega, by omega, by omega, by omega, .inl (List.mem_append.mpr (.inr ?_)), .inr (by omega)⟩
        unfold nLine; rw [if_pos q]; simp
      · rw [if_neg q] at h
        simp only [Prod.mk.injEq] at h
        obtain ⟨rfl, rfl, rfl⟩ := h
        exact ⟨by omega, by omega, by omega, by omega, .inr rfl, .inr (by omega)⟩
  lin := fun x y h => by
    have h3 := I.n3
    rcases List.mem_append.mp h with h | h
    · obtain ⟨a, b, hm, rfl, rfl⟩ := mem_sh2 h
      obtain ⟨g1, g2, g3, g4⟩ := I.lin a b hm
      unfold sh; split <;> split <;> omega
    · simp only [List.mem_singleton] at h
      unfold nLine at h
      by_cases q : c = n - 1
      · rw [if_pos q] at h; simp only [Prod.mk.injEq] at h; omega
      · rw [if_neg q] at h; simp only [Prod.mk.injEq] at h; omega
  nc := fun x y z w h h' => by
    have h3 := I.n3
    rcases List.mem_append.mp h with h | h <;> rcases List.mem_append.mp h' with h' | h'
    · obtain ⟨a, b, hm, rfl, rfl⟩ := mem_sh2 h
      obtain ⟨a', b', hm', rfl, rfl⟩ := mem_sh2 h'
      have := I.nc a b a' b' hm hm'
      unfold sh; split <;> split <;> split <;> split <;> omega
    · obtain ⟨a, b, hm, rfl, rfl⟩ := mem_sh2 h
      simp only [List.mem_singleton] at h'
      have := I.lin a b hm
      unfold nLine at h'
      by_cases q : c = n - 1
      · rw [if_pos q] at h'; simp only [Prod.mk.injEq] at h'; unfold sh; split <;> split <;> omega
      · rw [if_neg q] at h'; simp only [Prod.mk.injEq] at h'; unfold sh; split <;> split <;> omega
    · obtain ⟨a, b, hm, rfl, rfl⟩ := mem_sh2 h'
      simp only [List.mem_singleton] at h
      have := I.lin a b hm
      unfold nLine at h
      by_cases q : c = n - 1
      · rw [if_pos q] at h; simp only [Prod.mk.injEq] at h; unfold sh; split <;> split <;> omega
      · rw [if_neg q] at h; simp only [Prod.mk.injEq] at h; unfold sh; split <;> split <;> omega
    · simp only [List.mem_singleton] at h h'
      rw [← h'] at h; simp only [Prod.mk.injEq] at h; omega
  nd := by
    have h3 := I.n3
    rw [List.nodup_append]
    refine ⟨?_, by simp, fun p hp q hq => ?_⟩
    · refine (List.pairwise_map.mpr (I.nd.imp fun {p q} hne e => hne ?_))
      simp only [sh2, Prod.mk.injEq] at e
      exact Prod.ext (sh_inj e.1) (sh_inj e.2)
    · simp only [List.mem_singleton] at hq
      subst hq
      obtain ⟨x, y⟩ := p
      obtain ⟨a, b, hm, rfl, rfl⟩ := mem_sh2 hp
      have := I.lin a b hm
      intro e
      unfold nLine at e
      by_cases q : c = n - 1
      · rw [if_pos q] at e; simp only [Prod.mk.injEq] at e; unfold sh at e; split at e <;> split at e <;> omega
      · rw [if_neg q] at e; simp only [Prod.mk.injEq] at e; unfold sh at e; split at e <;> split at e <;> omega
  prm := by
    have h3 := I.n3
    have e1 : (T.map (sh3 c) ++ [nTri n c]).map outer = (T.map outer).map (sh2 c) ++ [outer (nTri n c)] := by
      simp only [List.map_append, List.map_map, List.map_cons, List.map_nil]; rfl
    have p1 : ((T.map outer).map (sh2 c) ++ [outer (nTri n c)]).Perm (((0, n - 1) :: ls).map (sh2 c) ++ [outer (nTri n c)]) := (I.prm.map (sh2 c)).append_right _
    rw [e1]
    refine p1.trans ?_
    have e0 : sh c 0 = 0 := by unfold sh; split <;> omega
    rw [List.map_cons]
    by_cases q : c = n - 1
    · have e2 : sh2 c (0, n - 1) = nLine n c := by
        unfold nLine sh2; rw [if_pos q]; simp only [Prod.mk.injEq]; exact ⟨e0, by unfold sh; split <;> omega⟩
      have e3 : outer (nTri n c) = (0, n + 1 - 1) := by unfold nTri outer; rw [if_pos q]; simp
      rw [e2, e3]
      refine (List.perm_append_comm (l₁ := _ :: _) (l₂ := [_])).trans ?_
      refine List.Perm.cons _ ?_
      exact (List.perm_append_comm (l₁ := [nLine n c]) (l₂ := ls.map (sh2 c)))
    · have e2 : sh2 c (0, n - 1) = (0, n + 1 - 1) := by
        unfold sh2; simp only [Prod.mk.injEq]; exact ⟨e0, by unfold sh; split <;> omega⟩
      have e3 : outer (nTri n c) = nLine n c := by unfold nTri nLine outer; rw [if_neg q, if_neg q]
      rw [e2, e3]; exact .refl _
end Cu
set_option Elab.async false
set_option linter.all false
set_option maxRecDepth 100000
set_option maxHeartbeats 4000000
namespace Cu
open L2 (mxD mxD_is T2 T3 so3 so3_same so3_perm)
def pk (x : Int) (p l : P2) : Bool := decide (l.1 = x) && (decide (l.2 ≤ p.2) && !(decide (l.1 = p.1) && decide (l.2 = p.2)))
theorem pk_iff {x : Int} {p l : P2} : pk x p l = true ↔ l.1 = x ∧ l.2 ≤ p.2 ∧ ¬ (l.1 = p.1 ∧ l.2 = p.2) := by
  simp only [pk, Bool.and_eq_true, decide_eq_true_eq, Bool.not_eq_true', Bool.and_eq_false_iff, decide_eq_false_iff_not]
  constructor
  · rintro ⟨h1, h2, h3⟩; exact ⟨h1, h2, fun h => by rcases h3 with z | z <;> omega⟩
  · rintro ⟨h1, h2, h3⟩
    refine ⟨h1, h2, ?_⟩
    by_cases z : l.1 = p.1
    · exact .inr fun w => h3 ⟨z, w⟩
    · exact .inl z
def ends (x : Int) (p : P2) (ls : List P2) : List Int := (ls.filter (pk x p)).map (·.2)
theorem mem_ends {x : Int} {p : P2} {ls : List P2} {y : Int} : y ∈ ends x p ls ↔ (x, y) ∈ ls ∧ y ≤ p.2 ∧ ¬ (x = p.1 ∧ y = p.2) := by
  simp only [ends, List.mem_map, List.mem_filter, pk_iff]
  constructor
  · rintro ⟨⟨a, b⟩, ⟨h1, h2, h3, h4⟩, rfl⟩
    simp only at h2 h3 h4 ⊢
    subst h2; exact ⟨h1, h3, h4⟩
  · rintro ⟨h1, h2, h3⟩; exact ⟨(x, y), ⟨h1, rfl, h2, h3⟩, rfl⟩
section
variable {n : Int} {ls ls' : List P2} {T : List P3} {a b c : Int}
theorem CInv.len (I : CInv n ls T) : T.length = ls.length + 1 := by
  have := I.prm.length_eq; simpa using this
end
end Cu
set_option Elab.async false
set_option linter.all false
set_option maxRecDepth 100000
set_option maxHeartbeats 4000000
namespace Cu
structure Lns (n : Int) (ls : List P2) : Prop where
  n3 : 3 ≤ n
  lin : ∀ a b, (a, b) ∈ ls → 0 ≤ a ∧ a + 2 ≤ b ∧ b ≤ n - 1 ∧ ¬ (a = 0 ∧ b = n - 1)
  nc : ∀ a b c d, (a, b) ∈ ls → (c, d) ∈ ls → ¬ (a < c ∧ c < b ∧ b < d)
  nd : ls.Nodup
structure Nx (t : P2) (ls : List P2) (nx : Int → Int) : Prop where
  up : ∀ c, c < t.2 → c < nx c ∧ nx c ≤ t.2
  or : ∀ c, c < t.2 → ((c, nx c) ∈ ls ∧ (c, nx c) ≠ t) ∨ nx c = c + 1
  ge : ∀ c e, (c, e) ∈ ls → e ≤ t.2 → (c, e) ≠ t → e ≤ nx c
inductive Ch (b : Int) (nx : Int → Int) : Int → List Int → List P2 → Prop
  | last : Ch b nx b [b] []
  | step {c : Int} {l : List Int} {es : List P2} (h : c < b) (r : Ch b nx (nx c) l es) : Ch b nx c (c :: l) ((c, nx c) :: es)
section
variable {b : Int} {nx : Int → Int} {c : Int} {l : List Int} {es : List P2}
theorem Ch.ge (h : Ch b nx c l es) (hu : ∀ c, c < b → c < nx c ∧ nx c ≤ b) : (∀ x ∈ l, c ≤ x ∧ x ≤ b) ∧ l.Pairwise (· < ·) ∧ c ∈ l ∧ b ∈ l := by
  induction h with
  | last => exact ⟨fun x hx => by simp at hx; omega, by simp, by simp, by simp⟩
  | step h r ih =>
    have u := hu _ h
    refine ⟨fun x hx => ?_, List.pairwise_cons.mpr ⟨fun x hx => ?_, ih.2.1⟩, by simp, List.mem_cons_of_mem _ ih.2.2.2⟩
    · rcases List.mem_cons.mp hx with rfl | hx
      · omega
      · have := ih.1 x hx; omega
    · have := ih.1 x hx; omega
theorem Ch.edge (h : Ch b nx c l es) (hu : ∀ c, c < b → c < nx c ∧ nx c ≤ b) : (∀ x y, (x, y) ∈ es ↔ x ∈ l ∧ x < b ∧ y = nx x) ∧ es.Nodup := by
  induction h with
  | last => exact ⟨fun x y => by simp; omega, List.nodup_nil⟩
  | @step c l es h r ih =>
    have g := r.ge hu
    have u := hu _ h
    refine ⟨fun x y => ?_, List.nodup_cons.mpr ⟨fun hm => ?_, ih.2⟩⟩
    · rw [List.mem_cons, ih.1, List.mem_cons, Prod.mk.injEq]
      constructor
      · rintro (⟨rfl, rfl⟩ | ⟨h1, h2, h3⟩)
        · exact ⟨.inl rfl, h, rfl⟩
        · exact ⟨.inr h1, h2, h3⟩
      · rintro ⟨rfl | h1, h2, h3⟩
        · exact .inl ⟨rfl, h3⟩
        · exact .inr ⟨h1, h2, h3⟩
    · have := (ih.1 c _).mp hm
      have := g.1 c this.1
      omega
theorem Ch.le (h : Ch b nx c l es) (hu : ∀ c, c < b → c < nx c ∧ nx c ≤ b) : ∀ x y, x ∈ l → y ∈ l → x < y → nx x ≤ y := by
  induction h with
  | last => intro x y hx hy; simp at hx hy; omega
  | @step c l es h r ih =>
    have g := r.ge hu
    have u := hu _ h
    intro x y hx hy hl
    rcases List.mem_cons.mp hx with e1 | kx <;> rcases List.mem_cons.mp hy with e2 | ky
    · omega
    · rw [e1]; exact (g.1 y ky).1
    · have := g.1 x kx; omega
    · exact ih x y kx ky hl
theorem Ch.lo (h : Ch b nx c l es) : ∀ z, c ≤ z → z ≤ b → ∃ p, p ∈ l ∧ p ≤ z ∧ (z = p ∨ (p < b ∧ z < nx p)) := by
  induction h with
  | last => intro z h1 h2; exact ⟨b, by simp, by omega, .inl (by omega)⟩
  | @step c l es h r ih =>
    intro z h1 h2
    by_cases q : z < nx c
    · exact ⟨c, by simp, h1, .inr ⟨h, q⟩⟩
    · obtain ⟨p, p1, p2, p3⟩ := ih z (by omega) h2
      exact ⟨p, List.mem_cons_of_mem _ p1, p2, p3⟩
theorem Ch.ends (h : Ch b nx c l es) : (∃ m, l = m ++ [b]) ∧ ∃ m, l = c :: m := by
  induction h with
  | last => exact ⟨⟨[], rfl⟩, [], rfl⟩
  | @step c l es h r ih => obtain ⟨⟨m, e⟩, _⟩ := ih; exact ⟨⟨c :: m, by rw [e]; rfl⟩, l, rfl⟩
theorem Ch.zip (h : Ch b nx c l es) : es = l.zip l.tail := by
  induction h with
  | last => rfl
  | @step c l es h r ih =>
    obtain ⟨m, e⟩ := r.ends.2
    rw [ih, e]; rfl
theorem Ch.ex (hu : ∀ c, c < b → c < nx c ∧ nx c ≤ b) : ∀ (k : Nat) (c : Int), c ≤ b → (b - c).toNat ≤ k → ∃ l es, Ch b nx c l es
  | 0, c, h, hk => by
    have : c = b := by omega
    subst this; exact ⟨_, _, .last⟩
  | k + 1, c, h, hk => by
    by_cases q : c < b
    · have u := hu c q
      obtain ⟨l, es, r⟩ := Ch.ex hu k (nx c) u.2 (by omega)
      exact ⟨_, _, .step q r⟩
    · have : c = b := by omega
      subst this; exact ⟨_, _, .last⟩
theorem Ch.len (h : Ch b nx c l es) (hu : ∀ c, c < b → c < nx c ∧ nx c ≤ b) : (l.length : Int) ≤ b - c + 1 := by
  induction h with
  | last => simp
  | @step c l es h r ih => have u := hu _ h; simp; omega
end
theorem ex_min {α : Type} (f : α → Nat) (P : α → Prop) (l : List α) : ∀ (k : Nat), (∃ x ∈ l, P x ∧ f x ≤ k) → ∃ x ∈ l, P x ∧ ∀ y ∈ l, P y → f x ≤ f y
  | 0, ⟨x, h1, h2, h3⟩ => ⟨x, h1, h2, fun y _ _ => by omega⟩
  | k + 1, ⟨x, h1, h2, h3⟩ => by
    by_cases q : ∃ y ∈ l, P y ∧ f y ≤ k
    · exact ex_min f P l k q
    · refine ⟨x, h1, h2, fun y hy py => ?_⟩
      by_cases z : f y ≤ k
      · exact absurd ⟨y, hy, py, z⟩ q
      · omega
section
variable {n : Int} {ls : List P2}
def isTop (n : Int) (ls : List P2) (t : P2) : Prop := t = (0, n - 1) ∨ t ∈ ls
theorem Lns.top (I : Lns n ls) {a b : Int} (h : isTop n ls (a, b)) : 0 ≤ a ∧ a + 2 ≤ b ∧ b ≤ n - 1 := by
  have := I.n3
  rcases h with h | h
  · cases h; omega
  · have := I.lin a b h; omega
theorem Lns.tnc (I : Lns n ls) {a b c d : Int} (h : isTop n ls (a, b)) (h' : isTop n ls (c, d)) : ¬ (a < c ∧ c < b ∧ b < d) := by
  have t1 := I.top h
  have t2 := I.top h'
  rcases h with h | h
  · cases h; omega
  rcases h' with h' | h'
  · cases h'; omega
  exact I.nc a b c d h h'
def isIn (n : Int) (ls : List P2) (f : P2) : Prop := f ∈ ls ∨ (f.2 = f.1 + 1 ∧ 0 ≤ f.1 ∧ f.2 ≤ n - 1)
variable {N : P2 → Int → Int} (hN : ∀ t, isTop n ls t → Nx t ls (N t))
include hN
theorem Lns.inner (I : Lns n ls) (C : P2 → List Int) (E : P2 → List P2) (hC : ∀ t, isTop n ls t → Ch t.2 (N t) t.1 (C t) (E t)) {f : P2} (hf : isIn n ls f) :
    ∃ t, isTop n ls t ∧ f ∈ E t ∧ ∀ t', isTop n ls t' → f ∈ E t' → t' = t := by
  have h3 := I.n3
  obtain ⟨c, e⟩ := f
  have hce : 0 ≤ c ∧ c < e ∧ e ≤ n - 1 := by
    rcases hf with h | h
    · have := I.lin c e h; omega
    · simp only at h; omega
  have ncf : ∀ p q, isTop n ls (p, q) → p < c → c < q → e ≤ q := fun p q hp h1 h2 => by
    rcases hf with h | h
    · have := I.tnc hp (.inr h); omega
    · simp only at h; omega
  have f0 : ((0 : Int), n - 1) ≠ (c, e) := fun z => by
    cases z
    rcases hf with h | h
    · have := I.lin _ _ h; omega
    · simp only at h; omega
  obtain ⟨t, ht, ⟨ht1, ht2, ht3⟩, hmin⟩ := ex_min (fun t : P2 => (t.2 - t.1).toNat) (fun t => t.1 ≤ c ∧ e ≤ t.2 ∧ t ≠ (c, e)) ((0, n - 1) :: ls) (n - 1).toNat ⟨(0, n - 1), by simp, ⟨hce.1, hce.2.2, f0⟩, by simp⟩
  obtain ⟨a, b⟩ := t
  have hT : isTop n ls (a, b) := List.mem_cons.mp ht
  have hmin : ∀ p q, isTop n ls (p, q) → p ≤ c → e ≤ q → (p, q) ≠ (c, e) → b - a ≤ q - p := fun p q hp h1 h2 h3 => by
    have t1 := I.top hT
    have t2 := I.top hp
    have := hmin (p, q) (List.mem_cons.mpr hp) ⟨h1, h2, h3⟩
    simp only at this
    omega
  simp only at ht1 ht2
  have tt := I.top hT
  have X := hN _ hT
  have Z := hC _ hT
  have G := Z.ge X.up
  have Ed := Z.edge X.up
  refine ⟨(a, b), hT, ?_, fun t' hT' hm => ?_⟩
  · -- c is a corner of the room
    obtain ⟨p, p1, p2, p3⟩ := Z.lo c ht1 (by simp only; omega)
    have hpa := (G.1 p p1).1
    simp only at hpa p3
    have hpc : c = p := by
      rcases p3 with p3 | ⟨p3, p4⟩
      · exact p3
      · by_cases q : c = p
        · exact q
        · exfalso
          have u := X.up p p3
          simp only at u
          rcases X.or p p3 with ⟨o1, o2⟩ | o
          · have o3 : isTop n ls (p, N (a, b) p) := .inr o1
            have := ncf _ _ o3 (by omega) p4
            have := hmin _ _ o3 (by omega) this (fun z => by cases z; omega)
            exact o2 (Prod.ext (by simp only; omega) (by simp only; omega))
          · omega
    subst hpc
    refine (Ed.1 _ _).mpr ⟨p1, by simp only; omega, ?_⟩
    have u := X.up c (by simp only; omega)
    simp only at u
    have hge : e ≤ N (a, b) c := by
      rcases hf with h | h
      · exact X.ge c e h ht2 (fun z => ht3 z.symm)
      · simp only at h; omega
    by_cases q : e = N (a, b) c
    · exact q
    · exfalso
      rcases X.or c (by simp only; omega) with ⟨o1, o2⟩ | o
      · have o3 : isTop n ls (c, N (a, b) c) := .inr o1
        have := hmin _ _ o3 (by omega) hge (fun z => by cases z; omega)
        exact o2 (Prod.ext (by simp only; omega) (by simp only; omega))
      · omega
  · obtain ⟨a', b'⟩ := t'
    have X' := hN _ hT'
    have Z' := hC _ hT'
    have G' := Z'.ge X'.up
    have Ed' := (Z'.edge X'.up).1 c e
    obtain ⟨m1, m2, m3⟩ := Ed'.mp hm
    have u' := X'.up c m2
    have mc := (G'.1 c m1).1
    simp only at m2 u' mc
    have tt' := I.top hT'
    have ne' : (a', b') ≠ (c, e) := fun z => by
      cases z
      rcases X'.or c m2 with ⟨o1, o2⟩ | o
      · exact o2 (by rw [← m3])
      · rw [← m3] at o; omega
    have hl := hmin a' b' hT' mc (by omega) ne'
    have n1 := I.tnc hT hT'
    have n2 := I.tnc hT' hT
    have ha : a' ≤ a := by omega
    have hb : b ≤ b' := by omega
    by_cases eq : (a', b') = (a, b)
    · exact eq
    exfalso
    have hin : (a, b) ∈ ls := by
      rcases hT with h | h
      · cases h; exact absurd (Prod.ext (by simp only; omega) (by simp only; omega)) eq
      · exact h
    have hge := X'.ge a b hin hb (fun z => eq z.symm)
    by_cases q : a = c
    · subst q
      exact ht3 (Prod.ext rfl (by simp only; omega))
    · obtain ⟨p, p1, p2, p3⟩ := Z'.lo a ha (by simp only; omega)
      have hpc := Z'.le X'.up p c p1 m1 (by omega)
      simp only at p3
      rcases p3 with p3 | ⟨p3, p4⟩
      · subst p3; omega
      · by_cases q2 : a = p
        · subst q2; omega
        · rcases X'.or p p3 with ⟨o1, o2⟩ | o
          · have := I.tnc (.inr o1) hT
            omega
          · omega
omit hN in
theorem Lns.room (I : Lns n ls) {t : P2} (ht : isTop n ls t) {nx : Int → Int} (X : Nx t ls nx) {C : List Int} {E : List P2} (Z : Ch t.2 nx t.1 C E) :
    3 ≤ C.length ∧ (∀ x ∈ C, 0 ≤ x ∧ x ≤ n - 1) ∧ t ∉ E ∧ (∀ f ∈ E, isIn n ls f ∧ f.1 < f.2) ∧ ∀ c e, (c, e) ∈ ls → c ∈ C → e ∈ C → (c, e) ∈ E ∨ (c, e) = t := by
  obtain ⟨a, b⟩ := t
  have tt := I.top ht
  have G := Z.ge X.up
  have Ed := Z.edge X.up
  have ua := X.up a (by simp only; omega)
  simp only at ua
  have na : nx a < b := by
    rcases X.or a (by simp only; omega) with ⟨o1, o2⟩ | o
    · have : nx a ≠ b := fun z => o2 (by rw [z])
      omega
    · omega
  refine ⟨?_, fun x hx => ?_, fun hm => ?_, fun f hf => ?_, fun c e h hc he => ?_⟩
  · cases Z with
    | last => omega
    | step h r =>
      rename_i l es
      generalize hx : nx a = x at *
      cases r with
      | last => omega
      | step h2 r2 =>
        obtain ⟨m, e⟩ := r2.ends.2
        rw [e]; simp
  · have := G.1 x hx; simp only at this; omega
  · have := (Ed.1 a b).mp hm; omega
  · obtain ⟨c, e⟩ := f
    obtain ⟨h1, h2, h3⟩ := (Ed.1 c e).mp hf
    have u := X.up c h2
    have := (G.1 c h1).1
    simp only at this u h2
    refine ⟨?_, by simp only; omega⟩
    rcases X.or c h2 with ⟨o1, o2⟩ | o
    · exact .inl (by rw [h3]; exact o1)
    · exact .inr ⟨by simp only; omega, by simp only; omega, by simp only; omega⟩
  · by_cases q : (c, e) = (a, b)
    · exact .inr q
    · left
      have l := I.lin c e h
      have h1 := G.1 e he
      simp only at h1
      have g := X.ge c e h h1.2 q
      have k := Z.le X.up c e hc he (by omega)
      exact (Ed.1 c e).mpr ⟨hc, by simp only; omega, by omega⟩
end
theorem sum_none {α : Type} {φ : α → Nat} : ∀ {l : List α}, (∀ x ∈ l, φ x = 0) → (l.map φ).sum = 0
  | [], _ => rfl
  | a :: l, h => by
    rw [List.map_cons, List.sum_cons, h a (by simp), sum_none fun x hx => h x (by simp [hx])]
theorem sum_only {α : Type} {φ : α → Nat} {t : α} : ∀ {l : List α}, l.Nodup → t ∈ l → (∀ x ∈ l, x ≠ t → φ x = 0) → (l.map φ).sum = φ t
  | [], _, h, _ => by cases h
  | a :: l, nd, h, hz => by
    rw [List.map_cons, List.sum_cons]
    have nd' := List.nodup_cons.mp nd
    by_cases e : a = t
    · subst e
      rw [sum_none fun x hx => hz x (by simp [hx]) fun z => nd'.1 (by rw [← z]; exact hx)]; omega
    · rw [hz a (by simp) e, sum_only nd'.2 ((List.mem_cons.mp h).resolve_left fun z => e z.symm) fun x hx hn => hz x (by simp [hx]) hn]; omega
theorem sum_two {α : Type} {φ ψ : α → Nat} : ∀ {l : List α}, (l.map fun x => φ x + ψ x).sum = (l.map φ).sum + (l.map ψ).sum
  | [] => rfl
  | a :: l => by
    rw [List.map_cons, List.map_cons, List.map_cons, List.sum_cons, List.sum_cons, List.sum_cons, sum_two (l := l)]; omega
section
variable {n : Int} {ls : List P2} {N : P2 → Int → Int}
theorem Lns.tops_nd (I : Lns n ls) : ((0, n - 1) :: ls).Nodup := List.nodup_cons.mpr ⟨fun h => by have := I.lin _ _ h; omega, I.nd⟩
theorem Lns.twice (I : Lns n ls) (hN : ∀ t, isTop n ls t → Nx t ls (N t)) (C : P2 → List Int) (E : P2 → List P2) (hC : ∀ t, isTop n ls t → Ch t.2 (N t) t.1 (C t) (E t)) {f : P2} (hf : f = (0, n - 1) ∨ isIn n ls f) :
    (((0, n - 1) :: ls).map fun t => (E t ++ [t]).count f).sum = if f ∈ ls then 2 else 1 := by
  have e1 : (fun t => (E t ++ [t]).count f) = fun t => (E t).count f + [t].count f := by funext t; rw [List.count_append]
  rw [e1, sum_two]
  have nd := I.tops_nd
  have mt : ∀ t, t ∈ (0, n - 1) :: ls ↔ isTop n ls t := fun t => List.mem_cons
  have c1 : ∀ t, isTop n ls t → (E t).count f = if f ∈ E t then 1 else 0 := fun t ht => by
    rw [(((hC t ht).edge (hN t ht).up).2).count]
  have s2 : ∀ t, [t].count f = if t = f then 1 else 0 := fun t => by
    rw [List.count_singleton]
    by_cases z : t = f
    · rw [if_pos z]; simp [z]
    · rw [if_neg z, if_neg (by simpa using z)]
  by_cases h0 : f ∈ ls
  · rw [if_pos h0]
    obtain ⟨t, ht, hm, hu⟩ := I.inner hN C E hC (.inl h0)
    rw [sum_only nd ((mt t).mpr ht) (fun x hx hn => by
      rw [c1 x ((mt x).mp hx), if_neg fun z => hn (hu x ((mt x).mp hx) z)]), sum_only (t := f) nd (by simp [h0]) (fun x hx hn => by rw [s2, if_neg hn]), c1 t ht, if_pos hm, s2, if_pos rfl]
  · rw [if_neg h0]
    rcases hf with hf | hf
    · rw [sum_none (fun x hx => by
        rw [c1 x ((mt x).mp hx), if_neg fun z => ?_]
        have := ((I.room ((mt x).mp hx) (hN _ ((mt x).mp hx)) (hC _ ((mt x).mp hx))).2.2.2.1 f z).1
        rcases this with q | q
        · exact h0 q
        · have := I.n3; rw [hf] at q; simp only at q; omega), sum_only (t := f) nd (by simp [hf]) (fun x hx hn => by rw [s2, if_neg hn]), s2, if_pos rfl]
    · obtain ⟨t, ht, hm, hu⟩ := I.inner hN C E hC hf
      rw [sum_only nd ((mt t).mpr ht) (fun x hx hn => by
        rw [c1 x ((mt x).mp hx), if_neg fun z => hn (hu x ((mt x).mp hx) z)]), sum_none (φ := fun t => [t].count f) (fun x hx => by
        rw [s2, if_neg fun z => ?_]
        rw [z] at hx
        rcases List.mem_cons.mp hx with q | q
        · rcases hf with hf | hf
          · exact h0 hf
          · have := I.n3; rw [q] at hf; simp only at hf; omega
        · exact h0 q), c1 t ht, if_pos hm]
end
end Cu
set_option Elab.async false
set_option linter.all false
set_option maxRecDepth 100000
set_option maxHeartbeats 4000000
noncomputable section
namespace K14
open PySem PySem.Spec PyProof.Rows L2
def h_corner_behind_0 : DE → R Bool :=
  (bAnd (bVal asB (eOp dEq (eOp dIx (eVar 0) (eC (.int 0))) (eVar 1))) (bAnd (bVal asB (eOp dLe (eOp dIx (eVar 0) (eC (.int 1))) (eOp dIx (eVar 2) (eC (.int 1))))) (bVal asB (eOp dNe (eVar 0) (eVar 2)))))
def h_corner_behind_1 : DE → R D :=
  (eOp dIx (eVar 0) (eC (.int 1)))
def g_corner_behind : DS → SR :=
  (sSeq (sAsg true 3 [true, true, true] (eComp (iL (eVar 2)) b1 [0, 1] h_corner_behind_0 h_corner_behind_1))
    (sRet [true, false, false, true] (eCB dMaxD (eCons (eVar 3) (eCons (eOp dAddI (eVar 0) (eC (.int 1))) eNil)))))
def m_corner_behind : List D → R D := mOf false 3 1 g_corner_behind
def g__law_pick : DS → SR :=
  (sSeq (sIf (bVal asB (eOp dLtI (eVar 1) (eCB dLen (eCons (eVar 0) eNil))))
      (sRet [true, true] (eOp dIx (eVar 0) (eVar 1)))
      sNx)
    (sRet [] (eC (.int 0))))
def m__law_pick : List D → R D := mOf false 2 0 g__law_pick
def g__law_is_number : DS → SR :=
  (sRet [true] (eAnd (eUn (dIsi "int") (eVar 0)) (eUn (fun d => (dTru d).map fun b => .bl (!b)) (eUn (dIsi "bool") (eVar 0)))))
def m__law_is_number : List D → R D := mOf false 1 0 g__law_is_number
def h__law_stream_0 : DS → SR :=
  (sSeq (sAsg false 3 [false, false, false, true, true] (eOp dMod (eOp dAddI (eOp dAddI (eOp dMul (eVar 3) (eC (.int 48271))) (eOp dMul (eVar 4) (eVar 4))) (eC (.int 1))) (eC (.int 2147483647))))
    (sSeq (sIf (bVal asB (eOp dLtI (eVar 4) (eCB dLen (eCons (eVar 0) eNil))))
      (sAsg false 3 [true, false, false, true, true] (eOp dMod (eOp dAddI (eVar 3) (eOp dIx (eVar 0) (eVar 4))) (eC (.int 2147483647))))
      sNx)
    (sMut "list" mApp 2 [false, false, false, true] (eCons (eVar 3) eNil))))
def g__law_stream : DS → SR :=
  (sSeq (sAsg true 2 [] (eLst eNil))
    (sSeq (sAsg false 3 [] (eC (.int 7)))
    (sSeq (sFor true [false, true] (iR1d (eCons (eVar 1) eNil)) (.n 4) h__law_stream_0)
    (sRetO 2))))
def m__law_stream : List D → R D := mOf true 2 3 g__law_stream
def h__law_grown_0 : DE → R D :=
  (eTup (eCons (eOp dAddI (eVar 0) (eCB dInt (eCons (eOp dGtI (eVar 0) (eVar 2)) eNil))) (eCons (eOp dAddI (eVar 1) (eCB dInt (eCons (eOp dGtI (eVar 1) (eVar 2)) eNil))) eNil)))
def h__law_grown_1 : DS → SR :=
  (sSeq (sAsg false 4 [false, true, false, true] (eOp dMod (eVar 3) (eVar 1)))
    (sSeq (sAsg true 2 [false, false, true, false, true] (eComp (iL (eVar 2)) (bT 2) [4] bYes h__law_grown_0))
    (sSeq (sIf (bVal asB (eOp dEq (eVar 4) (eOp dSub (eVar 1) (eC (.int 1)))))
      (sMut "list" mApp 2 [false, false, false, false, true] (eCons (eTup (eCons (eC (.int 0)) (eCons (eVar 4) eNil))) eNil))
      (sMut "list" mApp 2 [false, false, false, false, true] (eCons (eTup (eCons (eVar 4) (eCons (eOp dAddI (eVar 4) (eC (.int 2))) eNil))) eNil)))
    (sAsg false 1 [false, true] (eOp dAddI (eVar 1) (eC (.int 1)))))))
def g__law_grown : DS → SR :=
  (sSeq (sAsg false 1 [] (eC (.int 3)))
    (sSeq (sAsg true 2 [] (eLst eNil))
    (sSeq (sFor false [true] (iL (eVar 0)) (.n 3) h__law_grown_1)
    (sRet [false, true, true] (eTup (eCons (eVar 1) (eCons (eVar 2) eNil)))))))
def m__law_grown : List D → R D := mOf false 1 4 g__law_grown
def h__law_some_0 : DS → SR :=
  (sSeq (sAsg false 6 [true, false, false, false, true] (eOp dMod (eOp dAddI (eOp dAddI (eOp dMul (eOp dIx (eVar 0) (eVar 4)) (eC (.int 69621))) (eOp dMul (eOp dMul (eVar 4) (eVar 4)) (eC (.int 16807)))) (eC (.int 11))) (eC (.int 2147483629))))
    (sIf (bOr (bVal asB (eOp dEq (eVar 2) (eC (.int 1)))) (bVal asB (eOp dEq (eOp dMod (eOp dDiv (eVar 6) (eC (.int 4096))) (eVar 2)) (eC (.int 0)))))
      (sMut "list" mIns 3 [false, false, false, true, false, true, true] (eCons (eOp dMod (eVar 6) (eOp dAddI (eCB dLen (eCons (eVar 3) eNil)) (eC (.int 1)))) (eCons (eVar 5) eNil)))
      sNx))
def g__law_some : DS → SR :=
  (sSeq (sAsg true 3 [] (eLst eNil))
    (sSeq (sFor false [false, true] (iEn (eCons (eVar 1) eNil)) (.t [4, 5]) h__law_some_0)
    (sRetO 3)))
def m__law_some : List D → R D := mOf true 3 4 g__law_some
def h__law_edges_0 : DE → R D :=
  (eTup (eCons (eOp dIx (eVar 1) (eVar 0)) (eCons (eOp dIx (eVar 1) (eOp dAddI (eVar 0) (eC (.int 1)))) eNil)))
def g__law_edges : DS → SR :=
  (sRet [true] (eOp dCat (eComp (iR1d (eCons (eOp dSub (eCB dLen (eCons (eVar 0) eNil)) (eC (.int 1))) eNil)) b1 [0] bYes h__law_edges_0) (eLst (eCons (eTup (eCons (eOp dIx (eVar 0) (eC (.int 0))) (eCons (eOp dIx (eVar 0) (eUn dNeg (eC (.int 1)))) eNil))) eNil))))
def m__law_edges : List D → R D := mOf true 1 0 g__law_edges
def h_room_under_0 : DE → R Bool :=
  (bVal asB (eOp dLtI (eOp dIx (eVar 2) (eUn dNeg (eC (.int 1)))) (eOp dIx (eVar 0) (eC (.int 1)))))
def h_room_under_1 : DS → SR :=
  (sMut "list" mApp 2 [true, true, true] (eCons (eCall m_corner_behind (eCons (eOp dIx (eVar 2) (eUn dNeg (eC (.int 1)))) (eCons (eVar 0) (eCons (eVar 1) eNil)))) eNil))
def g_room_under : DS → SR :=
  (sSeq (sAsg true 2 [true] (eLst (eCons (eOp dIx (eVar 0) (eC (.int 0))) eNil)))
    (sSeq (sWhile 1000 h_room_under_0 h_room_under_1)
    (sRet [false, false, true] (eCB dTuple (eCons (eVar 2) eNil)))))
def m_room_under : List D → R D := mOf false 2 1 g_room_under
def g__law_many : DS → SR :=
  (sSeq (sAsg false 1 [true] (eCall m__law_pick (eCons (eVar 0) (eCons (eC (.int 0)) eNil))))
    (sSeq (sIf (bVal asB (eOp dEq (eOp dMod (eVar 1) (eC (.int 4))) (eC (.int 3))))
      (sRet [false, true] (eOp dMod (eOp dDiv (eVar 1) (eC (.int 4))) (eC (.int 58))))
      sNx)
    (sSeq (sIf (bVal asB (eOp dEq (eOp dMod (eVar 1) (eC (.int 4))) (eC (.int 2))))
      (sRet [false, true] (eOp dMod (eOp dDiv (eVar 1) (eC (.int 4))) (eC (.int 9))))
      sNx)
    (sRet [true] (eCB dMin2 (eCons (eC (.int 57)) (eCons (eCB dMax2 (eCons (eC (.int 0)) (eCons (eOp dSub (eCB dLen (eCons (eVar 0) eNil)) (eC (.int 2))) eNil))) eNil)))))))
def m__law_many : List D → R D := mOf false 1 1 g__law_many
def h__law_room_fits_0 : DE → R D :=
  (eCall m__law_is_number (eCons (eVar 0) eNil))
def h__law_room_fits_1 : DE → R D :=
  (eOp dLtI (eVar 0) (eVar 1))
def h__law_room_fits_2 : DE → R D :=
  (eOp (dInN false) (eVar 0) (eVar 1))
def h__law_room_fits_3 : DS → SR :=
  (sIf (bAnd (bVal asB (eOp (dIn false) (eOp dIx (eVar 5) (eC (.int 0))) (eVar 0))) (bAnd (bVal asB (eOp (dIn false) (eOp dIx (eVar 5) (eC (.int 1))) (eVar 0))) (bVal asB (eOp (dIn true) (eVar 5) (eVar 4)))))
      (sRet [] (eC (.bl false)))
      sNx)
def g__law_room_fits : DS → SR :=
  (sSeq (sIf (bOr (bNot (bVal dTru (eUn (dIsi "tuple") (eVar 0)))) (bOr (bVal asB (eOp dLtI (eCB dLen (eCons (eVar 0) eNil)) (eC (.int 3)))) (bNot (bVal dTru (eCB dAll (eCons (eComp (iL (eVar 0)) b1 [] bYes h__law_room_fits_0) eNil))))))
      (sRet [] (eC (.bl false)))
      sNx)
    (sSeq (sIf (bOr (bVal asB (eOp dLtI (eOp dIx (eVar 0) (eC (.int 0))) (eC (.int 0)))) (bOr (bVal asB (eOp dGe (eOp dIx (eVar 0) (eUn dNeg (eC (.int 1)))) (eVar 1))) (bNot (bVal dTru (eCB dAll (eCons (eComp (iL (eCall m__law_edges (eCons (eVar 0) eNil))) (bT 2) [] bYes h__law_room_fits_1) eNil))))))
      (sRet [] (eC (.bl false)))
      sNx)
    (sSeq (sAsg true 4 [true] (eCall m__law_edges (eCons (eVar 0) eNil)))
    (sSeq (sIf (bNot (bVal dTru (eCB dAll (eCons (eComp (iL (eVar 4)) b1 [3] bYes h__law_room_fits_2) eNil))))
      (sRet [] (eC (.bl false)))
      sNx)
    (sSeq (sFor false [false, false, true] (iL (eVar 2)) (.n 5) h__law_room_fits_3)
    (sRet [] (eC (.bl true))))))))
def m__law_room_fits : List D → R D := mOf false 4 2 g__law_room_fits
def h_rooms_0 : DE → R D :=
  (eCall m_room_under (eCons (eVar 0) (eCons (eVar 1) eNil)))
def g_rooms : DS → SR :=
  (sSeq (sAsg true 2 [true, true] (eOp dCat (eLst (eCons (eTup (eCons (eC (.int 0)) (eCons (eOp dSub (eVar 0) (eC (.int 1))) eNil))) eNil)) (eCB dList (eCons (eVar 1) eNil))))
    (sRet [false, true, true] (eCB dSorted (eCons (eComp (iL (eVar 2)) b1 [1] bYes h_rooms_0) eNil))))
def m_rooms : List D → R D := mOf true 2 1 g_rooms
def h_law_0 : DS → SR :=
  (sSet dSetN 5 [false, false, false, false, false, false, true] (eTup (eCons (eVar 6) (eCons (eOp dAddI (eVar 6) (eC (.int 1))) eNil))) (eC (.int 1)))
def h_law_1 : DS → SR :=
  (sSet dSetN 5 [false, false, false, false, false, false, false, true] (eVar 7) (eC (.int 2)))
def h_law_2 : DS → SR :=
  (sSet dSetN 5 [false, false, false, false, false, true, false, false, false, false, false, true] (eVar 11) (eOp dSub (eOp dIxN (eVar 5) (eVar 11)) (eC (.int 1))))
def h_law_3 : DS → SR :=
  (sSeq (sIf (bNot (bVal dTru (eCall m__law_room_fits (eCons (eVar 10) (eCons (eVar 2) (eCons (eVar 4) (eCons (eVar 5) eNil)))))))
      (sRet [] (eC (.bl false)))
      sNx)
    (sFor false [false, false, false, false, false, false, false, false, false, false, true] (iL (eCall m__law_edges (eCons (eVar 10) eNil))) (.n 11) h_law_2))
def h_law_4 : DE → R D :=
  (eOp dEq (eVar 0) (eC (.int 0)))
def g_law : DS → SR :=
  (sSeq (sAsg true 1 [true] (eCall m__law_stream (eCons (eSl dSl (eVar 0) (oSo (eC (.int 2))) oNo) (eCons (eCall m__law_many (eCons (eVar 0) eNil)) eNil))))
    (sSeq (sUnp (.t [2, 3]) [false, true] (eCall m__law_grown (eCons (eVar 1) eNil)))
    (sSeq (sAsg true 4 [true, true, false, true] (eCall m__law_some (eCons (eVar 1) (eCons (eVar 3) (eCons (eOp dAddI (eC (.int 1)) (eOp dMod (eCall m__law_pick (eCons (eVar 0) (eCons (eC (.int 1)) eNil))) (eC (.int 4)))) eNil)))))
    (sSeq (sAsg true 5 [false, false, true] (eDisp1 (eTup (eCons (eC (.int 0)) (eCons (eOp dSub (eVar 2) (eC (.int 1))) eNil))) (eC (.int 1))))
    (sSeq (sFor true [false, false, true] (iR1d (eCons (eOp dSub (eVar 2) (eC (.int 1))) eNil)) (.n 6) h_law_0)
    (sSeq (sFor false [false, false, false, false, true] (iL (eVar 4)) (.n 7) h_law_1)
    (sSeq (sAsg true 8 [false, false, false, false, true] (eCB dList (eCons (eVar 4) eNil)))
    (sSeq (sIf (bVal asB (eOp dEq (eOp dMod (eOp dDiv (eCall m__law_pick (eCons (eVar 0) (eCons (eC (.int 1)) eNil))) (eC (.int 4))) (eC (.int 2))) (eC (.int 0))))
      (sAsg true 9 [false, false, true, false, false, false, false, false, true] (eCall m_rooms (eCons (eVar 2) (eCons (eVar 8) eNil))))
      (sAsg true 9 [false, false, true, false, true] (eCall m_rooms (eCons (eVar 2) (eCons (eCB dTuple (eCons (eVar 4) eNil)) eNil)))))
    (sSeq (sIf (bOr (bNot (bVal dTru (eUn (dIsi "list") (eVar 9)))) (bOr (bVal asB (eOp dNe (eCB dLen (eCons (eVar 9) eNil)) (eOp dAddI (eCB dLen (eCons (eVar 4) eNil)) (eC (.int 1))))) (bVal asB (eOp dNe (eVar 8) (eVar 4)))))
      (sRet [] (eC (.bl false)))
      sNx)
    (sSeq (sFor false [false, false, false, false, false, false, false, false, false, true] (iL (eVar 9)) (.n 10) h_law_3)
    (sSeq (sIf (bOr (bVal asB (eOp dNe (eVar 9) (eCB dSorted (eCons (eVar 9) eNil)))) (bVal asB (eOp dNe (eLS (eCons (eVar 9) eNil)) (eCB dLen (eCons (eVar 9) eNil)))))
      (sRet [] (eC (.bl false)))
      sNx)
    (sRet [false, false, false, false, false, true] (eCB dAll (eCons (eComp (iVaD (eVar 5)) b1 [] bYes h_law_4) eNil))))))))))))))
def m_law : List D → R D := mOf false 1 11 g_law
end K14
set_option Elab.async false
set_option linter.all false
set_option maxRecDepth 100000
set_option maxHeartbeats 4000000
namespace K14
open PySem PySem.Spec PyProof.Rows L2
def top (i : Nat) : Stmt := PySem.Challenge.pw_friezeyard_k14_rooms_between_lines.main.body.getD i (.Pass ⟨0, 0, 0, 0⟩)
abbrev s_rooms : Stmt := top 1
abbrev s_room_under : Stmt := top 2
abbrev s_corner_behind : Stmt := top 3
abbrev s__law_pick : Stmt := top 5
abbrev s__law_is_number : Stmt := top 6
abbrev s__law_many : Stmt := top 7
abbrev s__law_stream : Stmt := top 8
abbrev s__law_grown : Stmt := top 9
abbrev s__law_some : Stmt := top 10
abbrev s__law_edges : Stmt := top 11
abbrev s__law_room_fits : Stmt := top 12
abbrev s_law : Stmt := top 13
structure Txt (mg : Str → Option Value) : Prop where
  «all» : mg "all" = none
  bool : mg "bool" = none
  enumerate : mg "enumerate" = none
  int : mg "int" = none
  isinstance : mg "isinstance" = none
  len : mg "len" = none
  list : mg "list" = none
  «max» : mg "max" = none
  «min» : mg "min" = none
  range : mg "range" = none
  «set» : mg "set" = none
  sorted : mg "sorted" = none
  tuple : mg "tuple" = none
theorem sc_rooms : FnScope ["n", "lines", "tops"] ["n", "lines"] (defScope s_rooms) := fsc
theorem sc_room_under : FnScope ["top", "lines", "room"] ["top", "lines"] (defScope s_room_under) := fsc
theorem sc_corner_behind : FnScope ["corner", "top", "lines", "ends"] ["corner", "top", "lines"] (defScope s_corner_behind) := fsc
theorem sc__law_pick : FnScope ["_law_script", "_law_k"] ["_law_script", "_law_k"] (defScope s__law_pick) := fsc
theorem sc__law_is_number : FnScope ["_law_found"] ["_law_found"] (defScope s__law_is_number) := fsc
theorem sc__law_many : FnScope ["_law_script", "_law_cell"] ["_law_script"] (defScope s__law_many) := fsc
theorem sc__law_stream : FnScope ["_law_cells", "_law_many_here", "_law_found", "_law_number", "_law_k"] ["_law_cells", "_law_many_here"] (defScope s__law_stream) := fsc
theorem sc__law_grown : FnScope ["_law_stream_here", "_law_n", "_law_lines", "_law_number", "_law_at"] ["_law_stream_here"] (defScope s__law_grown) := fsc
theorem sc__law_some : FnScope ["_law_stream_here", "_law_lines", "_law_part", "_law_some_here", "_law_k", "_law_line", "_law_number"] ["_law_stream_here", "_law_lines", "_law_part"] (defScope s__law_some) := fsc
theorem sc__law_edges : FnScope ["_law_room"] ["_law_room"] (defScope s__law_edges) := fsc
theorem sc__law_room_fits : FnScope ["_law_room", "_law_n", "_law_lines", "_law_known", "_law_edges_here", "_law_line"] ["_law_room", "_law_n", "_law_lines", "_law_known"] (defScope s__law_room_fits) := fsc
theorem sc_law : FnScope ["_law_script", "_law_stream_here", "_law_n", "_law_lines", "_law_some_here", "_law_known", "_law_c", "_law_line", "_law_handed", "_law_found", "_law_room", "_law_edge"] ["_law_script"] (defScope s_law) := fsc
abbrev x_corner_behind (P : Program) (w : World) (K : PySem.W.Frag) (mg : Str → Option Value) (base : Heap) : Prop := GotX P w K mg base "corner_behind" ["corner", "top", "lines"] 1 (spD K mg false m_corner_behind 3)
abbrev x__law_pick (P : Program) (w : World) (K : PySem.W.Frag) (mg : Str → Option Value) (base : Heap) : Prop := GotX P w K mg base "_law_pick" ["_law_script", "_law_k"] 1 (spD K mg false m__law_pick 2)
abbrev x__law_is_number (P : Program) (w : World) (K : PySem.W.Frag) (mg : Str → Option Value) (base : Heap) : Prop := GotX P w K mg base "_law_is_number" ["_law_found"] 1 (spD K mg false m__law_is_number 1)
abbrev x__law_stream (P : Program) (w : World) (K : PySem.W.Frag) (mg : Str → Option Value) (base : Heap) : Prop := GotX P w K mg base "_law_stream" ["_law_cells", "_law_many_here"] 1 (spD K mg true m__law_stream 2)
abbrev x__law_grown (P : Program) (w : World) (K : PySem.W.Frag) (mg : Str → Option Value) (base : Heap) : Prop := GotX P w K mg base "_law_grown" ["_law_stream_here"] 1 (spD K mg false m__law_grown 1)
abbrev x__law_some (P : Program) (w : World) (K : PySem.W.Frag) (mg : Str → Option Value) (base : Heap) : Prop := GotX P w K mg base "_law_some" ["_law_stream_here", "_law_lines", "_law_part"] 1 (spD K mg true m__law_some 3)
abbrev x__law_edges (P : Program) (w : World) (K : PySem.W.Frag) (mg : Str → Option Value) (base : Heap) : Prop := GotX P w K mg base "_law_edges" ["_law_room"] 1 (spD K mg true m__law_edges 1)
abbrev x_room_under (P : Program) (w : World) (K : PySem.W.Frag) (mg : Str → Option Value) (base : Heap) : Prop := GotX P w K mg base "room_under" ["top", "lines"] 2 (spD K mg false m_room_under 2)
abbrev x__law_many (P : Program) (w : World) (K : PySem.W.Frag) (mg : Str → Option Value) (base : Heap) : Prop := GotX P w K mg base "_law_many" ["_law_script"] 2 (spD K mg false m__law_many 1)
abbrev x__law_room_fits (P : Program) (w : World) (K : PySem.W.Frag) (mg : Str → Option Value) (base : Heap) : Prop := GotX P w K mg base "_law_room_fits" ["_law_room", "_law_n", "_law_lines", "_law_known"] 2 (spD K mg false m__law_room_fits 4)
abbrev x_rooms (P : Program) (w : World) (K : PySem.W.Frag) (mg : Str → Option Value) (base : Heap) : Prop := GotX P w K mg base "rooms" ["n", "lines"] 3 (spD K mg true m_rooms 2)
section
variable {P : Program} {w : World} {K : PySem.W.Frag} {mg : Str → Option Value} {base : Heap} {f : Addr} {fd : FuncData} 
theorem ok_corner_behind (F : Fun K "corner_behind" "corner_behind" s_corner_behind f fd) (T : Txt mg)  : FnOk P w K mg base (CX1 P w) 1 f fd ["corner", "top", "lines"] (spD K mg false m_corner_behind 3) :=
  fnD (k := 0) F sc_corner_behind rfl rfl fun cdv A outer s H E hr =>
    (b_cons (s_c1 sc_corner_behind.nd (k := 3) rfl rfl (compOk_of (caps := ["corner", "top"]) (ix := [0, 1]) rfl rfl) (by decide +kernel) rfl (q_seq (qv 2)) (.one fun _ _ _ => (QW.pt (w_and (tE hr (qI hr (qv 0) q_int) (qv 1) (nomark _)) (w_and (t_cmp o_le od_le (qI hr (qv 0) q_int) (qI hr (qv 2) q_int) (nomark _)) (w_and1 (tN hr (qv 0) (qv 2) (nomark _))))))) (fun _ _ _ => (qI hr (qv 0) q_int)))
      (b_one (s_ret (q_maxD rfl rfl T.«max» boot_max (qv 3) (q_bin o_add od_addI (qv 0) q_int)))))
theorem ok__law_pick (F : Fun K "_law_pick" "_law_pick" s__law_pick f fd) (T : Txt mg)  : FnOk P w K mg base (CX1 P w) 1 f fd ["_law_script", "_law_k"] (spD K mg false m__law_pick 2) :=
  fnD (k := 0) F sc__law_pick rfl rfl fun cdv A outer s H E hr =>
    (b_cons (s_if (t_cmp o_lt od_ltI (qv 1) (qL T.len (qv 0)) (nomark _))
        (b_one (s_ret (qI hr (qv 0) (qv 1))))
        b_nil)
      (b_one (s_ret q_int)))
theorem ok__law_is_number (F : Fun K "_law_is_number" "_law_is_number" s__law_is_number f fd) (T : Txt mg)  : FnOk P w K mg base (CX1 P w) 1 f fd ["_law_found"] (spD K mg false m__law_is_number 1) :=
  fnD (k := 0) F sc__law_is_number rfl rfl fun cdv A outer s H E hr =>
    (b_one (s_ret (q_and (q_isi rfl T.isinstance boot_isinstance (qv 0) (pe_bltn (v := .ty "int") rfl T.int boot_int rfl)) (q_one (q_notV (q_isi rfl T.isinstance boot_isinstance (qv 0) (pe_bltn (v := .ty "bool") rfl T.bool boot_bool rfl)))))))
theorem ok__law_stream (F : Fun K "_law_stream" "_law_stream" s__law_stream f fd) (T : Txt mg)  : FnOk P w K mg base (CX1 P w) 1 f fd ["_law_cells", "_law_many_here"] (spD K mg true m__law_stream 2) :=
  fnD (k := 0) F sc__law_stream rfl rfl fun cdv A outer s H E hr =>
    (b_cons (sA 2 sc__law_stream.nd (q_lst q_nil))
      (b_cons (sA 3 sc__law_stream.nd q_int)
      (b_cons (s_for PassesOwn.leaving rfl (q_r1 rfl T.range (q_cons (qv 1) q_nil)) (g_n (i := 4) sc__law_stream.nd rfl (Or.inl rfl))
        (b_cons (sA 3 sc__law_stream.nd (q_bin o_mod od_mod (q_bin o_add od_addI (q_bin o_add od_addI (q_bin o_mul od_mul (qv 3) q_int) (q_bin o_mul od_mul (qv 4) (qv 4))) q_int) q_int))
      (b_cons (s_if (t_cmp o_lt od_ltI (qv 4) (qL T.len (qv 0)) (nomark _))
        (b_one (sA 3 sc__law_stream.nd (q_bin o_mod od_mod (q_bin o_add od_addI (qv 3) (qI hr (qv 0) (qv 4))) q_int)))
        b_nil)
      (b_one (s_mut PySem.F.plainAttrs_list PySem.F.slot_list_append PySem.F.type_list_append mt_append md_app ty_list (pw 2) (q_cons (qv 3) q_nil))))))
      (b_one (s_retO (i := 2))))))
theorem ok__law_grown (F : Fun K "_law_grown" "_law_grown" s__law_grown f fd) (T : Txt mg)  : FnOk P w K mg base (CX1 P w) 1 f fd ["_law_stream_here"] (spD K mg false m__law_grown 1) :=
  fnD (k := 0) F sc__law_grown rfl rfl fun cdv A outer s H E hr =>
    (b_cons (sA 1 sc__law_grown.nd q_int)
      (b_cons (sA 2 sc__law_grown.nd (q_lst q_nil))
      (b_cons (s_for PassesOwn.leaving rfl (q_seq (qv 0)) (g_n (i := 3) sc__law_grown.nd rfl (Or.inl rfl))
        (b_cons (sA 4 sc__law_grown.nd (q_bin o_mod od_mod (qv 3) (qv 1)))
      (b_cons (s_c2 sc__law_grown.nd (k := 2) rfl rfl (compOk_of (caps := ["_law_at"]) (ix := [4]) rfl rfl) (by decide +kernel) rfl rfl (q_seq (qv 2)) .nil (fun _ _ _ => (q_tup (q_cons (q_bin o_add od_addI (qv 0) (q_cty c_int cd_int rfl T.int boot_int (q_cons (q_cmp o_gt od_gtI (qv 0) (qv 2) (nomark _)) q_nil))) (q_cons (q_bin o_add od_addI (qv 1) (q_cty c_int cd_int rfl T.int boot_int (q_cons (q_cmp o_gt od_gtI (qv 1) (qv 2) (nomark _)) q_nil))) q_nil)))))
      (b_cons (s_if (tE hr (qv 4) (q_bin o_sub od_sub (qv 1) q_int) (nomark _))
        (b_one (s_mut PySem.F.plainAttrs_list PySem.F.slot_list_append PySem.F.type_list_append mt_append md_app ty_list (pw 2) (q_cons (q_tup (q_cons q_int (q_cons (qv 4) q_nil))) q_nil)))
        (b_one (s_mut PySem.F.plainAttrs_list PySem.F.slot_list_append PySem.F.type_list_append mt_append md_app ty_list (pw 2) (q_cons (q_tup (q_cons (qv 4) (q_cons (q_bin o_add od_addI (qv 4) q_int) q_nil))) q_nil))))
      (b_one (sA 1 sc__law_grown.nd (q_bin o_add od_addI (qv 1) q_int)))))))
      (b_one (s_ret (q_tup (q_cons (qv 1) (q_cons (qv 2) q_nil))))))))
theorem ok__law_some (F : Fun K "_law_some" "_law_some" s__law_some f fd) (T : Txt mg)  : FnOk P w K mg base (CX1 P w) 1 f fd ["_law_stream_here", "_law_lines", "_law_part"] (spD K mg true m__law_some 3) :=
  fnD (k := 0) F sc__law_some rfl rfl fun cdv A outer s H E hr =>
    (b_cons (sA 3 sc__law_some.nd (q_lst q_nil))
      (b_cons (s_for PassesOwn.leaving rfl (q_en rfl T.enumerate (q_cons (qv 1) q_nil)) (g_t rfl (gs_cons (i := 4) sc__law_some.nd rfl (Or.inl rfl) (gs_cons (i := 5) sc__law_some.nd rfl (Or.inl rfl) gs_nil)))
        (b_cons (sA 6 sc__law_some.nd (q_bin o_mod od_mod (q_bin o_add od_addI (q_bin o_add od_addI (q_bin o_mul od_mul (qI hr (qv 0) (qv 4)) q_int) (q_bin o_mul od_mul (q_bin o_mul od_mul (qv 4) (qv 4)) q_int)) q_int) q_int))
      (b_one (s_if (QW.pt (w_or (tE hr (qv 2) q_int (nomark _)) (w_or1 (tE hr (q_bin o_mod od_mod (q_bin o_fdiv od_div (qv 6) q_int) (qv 2)) q_int (nomark _)))))
        (b_one (s_mut PySem.F.plainAttrs_list PySem.F.slot_list_insert PySem.F.type_list_insert mt_insert md_ins ty_list (pw 3) (q_cons (q_bin o_mod od_mod (qv 6) (q_bin o_add od_addI (qL T.len (qv 3)) q_int)) (q_cons (qv 5) q_nil))))
        b_nil))))
      (b_one (s_retO (i := 3)))))
theorem ok__law_edges (F : Fun K "_law_edges" "_law_edges" s__law_edges f fd) (T : Txt mg)  : FnOk P w K mg base (CX1 P w) 1 f fd ["_law_room"] (spD K mg true m__law_edges 1) :=
  fnD (k := 0) F sc__law_edges rfl rfl fun cdv A outer s H E hr =>
    (b_one (s_ret (q_bin op_cat od_cat (QE.wk (q_c1 (compOk_of (caps := ["_law_room"]) (ix := [0]) rfl rfl) (by decide +kernel) rfl (q_r1 rfl T.range (q_cons (q_bin o_sub od_sub (qL T.len (qv 0)) q_int) q_nil)) .nil (fun _ _ _ => (q_tup (q_cons (qI hr (qv 1) (qv 0)) (q_cons (qI hr (qv 1) (q_bin o_add od_addI (qv 0) q_int)) q_nil)))))) (QE.wk (q_lst (q_cons (q_tup (q_cons (qI hr (qv 0) q_int) (q_cons (qI hr (qv 0) (q_un u_neg ud_neg q_int)) q_nil))) q_nil))))))
theorem ok_room_under (F : Fun K "room_under" "room_under" s_room_under f fd) (T : Txt mg) (G_corner_behind : x_corner_behind P w K mg base) : FnOk P w K mg base (CX1 P w) 2 f fd ["top", "lines"] (spD K mg false m_room_under 2) :=
  fnD (k := 1) F sc_room_under rfl rfl fun cdv A outer s H E hr =>
    (b_cons (sA 2 sc_room_under.nd (q_lst (q_cons (qI hr (qv 0) q_int) q_nil)))
      (b_cons (s_while (n := 1000) PassesOwn.leaving (t_cmp o_lt od_ltI (qI hr (qv 2) (q_un u_neg ud_neg q_int)) (qI hr (qv 0) q_int) (nomark _))
        (b_one (s_mut PySem.F.plainAttrs_list PySem.F.slot_list_append PySem.F.type_list_append mt_append md_app ty_list (pw 2) (q_cons (q_own lndF G_corner_behind hr rfl (q_cons (qI hr (qv 2) (q_un u_neg ud_neg q_int)) (q_cons (qv 0) (q_cons (qv 1) q_nil)))) q_nil))))
      (b_one (s_ret (q_cty c_tupleG cd_tuple rfl T.tuple boot_tuple (q_cons (qv 2) q_nil))))))
theorem ok__law_many (F : Fun K "_law_many" "_law_many" s__law_many f fd) (T : Txt mg) (G__law_pick : x__law_pick P w K mg base) : FnOk P w K mg base (CX1 P w) 2 f fd ["_law_script"] (spD K mg false m__law_many 1) :=
  fnD (k := 1) F sc__law_many rfl rfl fun cdv A outer s H E hr =>
    (b_cons (sA 1 sc__law_many.nd (q_own lndF G__law_pick hr rfl (q_cons (qv 0) (q_cons q_int q_nil))))
      (b_cons (s_if (tE hr (q_bin o_mod od_mod (qv 1) q_int) q_int (nomark _))
        (b_one (s_ret (q_bin o_mod od_mod (q_bin o_fdiv od_div (qv 1) q_int) q_int)))
        b_nil)
      (b_cons (s_if (tE hr (q_bin o_mod od_mod (qv 1) q_int) q_int (nomark _))
        (b_one (s_ret (q_bin o_mod od_mod (q_bin o_fdiv od_div (qv 1) q_int) q_int)))
        b_nil)
      (b_one (s_ret (q_cb (c_min2 rfl) cd_min2 rfl T.«min» boot_min (q_cons q_int (q_cons (q_cb (c_max2 rfl) cd_max2 rfl T.«max» boot_max (q_cons q_int (q_cons (q_bin o_sub od_sub (qL T.len (qv 0)) q_int) q_nil))) q_nil))))))))
theorem ok__law_room_fits (F : Fun K "_law_room_fits" "_law_room_fits" s__law_room_fits f fd) (T : Txt mg) (G__law_edges : x__law_edges P w K mg base) (G__law_is_number : x__law_is_number P w K mg base) : FnOk P w K mg base (CX1 P w) 2 f fd ["_law_room", "_law_n", "_law_lines", "_law_known"] (spD K mg false m__law_room_fits 4) :=
  fnD (k := 1) F sc__law_room_fits rfl rfl fun cdv A outer s H E hr =>
    (b_cons (s_if (QW.pt (w_or (t_not (t_val (q_isi rfl T.isinstance boot_isinstance (qv 0) (pe_bltn (v := .ty "tuple") rfl T.tuple boot_tuple rfl)))) (w_or (t_cmp o_lt od_ltI (qL T.len (qv 0)) q_int (nomark _)) (w_or1 (t_not (t_val (q_cb (c_all rfl) cd_all rfl T.«all» boot_all (q_cons (QE.wk (q_c1 (compOk_of (caps := []) (ix := []) rfl rfl) (by decide +kernel) rfl (q_seq (qv 0)) .nil (fun _ _ _ => (q_own lnd0 G__law_is_number hr rfl (q_cons (qv 0) q_nil))))) q_nil))))))))
        (b_one (s_ret q_bl))
        b_nil)
      (b_cons (s_if (QW.pt (w_or (t_cmp o_lt od_ltI (qI hr (qv 0) q_int) q_int (nomark _)) (w_or (t_cmp o_ge od_ge (qI hr (qv 0) (q_un u_neg ud_neg q_int)) (qv 1) (nomark _)) (w_or1 (t_not (t_val (q_cb (c_all rfl) cd_all rfl T.«all» boot_all (q_cons (QE.wk (q_c2 (compOk_of (caps := []) (ix := []) rfl rfl) (by decide +kernel) rfl rfl (q_seq (QE.wk (q_own lndF G__law_edges hr rfl (q_cons (qv 0) q_nil)))) .nil (fun _ _ _ => (q_cmp o_lt od_ltI (qv 0) (qv 1) (nomark _))))) q_nil))))))))
        (b_one (s_ret q_bl))
        b_nil)
      (b_cons (sA 4 sc__law_room_fits.nd (q_own lndF G__law_edges hr rfl (q_cons (qv 0) q_nil)))
      (b_cons (s_if (t_not (t_val (q_cb (c_all rfl) cd_all rfl T.«all» boot_all (q_cons (QE.wk (q_c1 (compOk_of (caps := ["_law_known"]) (ix := [3]) rfl rfl) (by decide +kernel) rfl (q_seq (qv 4)) .nil (fun _ _ _ => (q_cmp (o_inN hr.units) od_inN (qv 0) (qv 1) (by with_unfolding_all rfl))))) q_nil))))
        (b_one (s_ret q_bl))
        b_nil)
      (b_cons (s_for PassesOwn.leaving rfl (q_seq (qv 2)) (g_n (i := 5) sc__law_room_fits.nd rfl (Or.inl rfl))
        (b_one (s_if (QW.pt (w_and (t_cmp (o_inG hr.units) od_in (qI hr (qv 5) q_int) (qv 0) (by with_unfolding_all rfl)) (w_and (t_cmp (o_inG hr.units) od_in (qI hr (qv 5) q_int) (qv 0) (by with_unfolding_all rfl)) (w_and1 (t_cmp (o_notInG hr.units) od_in (qv 5) (qv 4) (by with_unfolding_all rfl))))))
        (b_one (s_ret q_bl))
        b_nil)))
      (b_one (s_ret q_bl)))))))
theorem ok_rooms (F : Fun K "rooms" "rooms" s_rooms f fd) (T : Txt mg) (G_room_under : x_room_under P w K mg base) : FnOk P w K mg base (CX1 P w) 3 f fd ["n", "lines"] (spD K mg true m_rooms 2) :=
  fnD (k := 2) F sc_rooms rfl rfl fun cdv A outer s H E hr =>
    (b_cons (sA 2 sc_rooms.nd (q_bin op_cat od_cat (QE.wk (q_lst (q_cons (q_tup (q_cons q_int (q_cons (q_bin o_sub od_sub (qv 0) q_int) q_nil))) q_nil))) (QE.wk (q_cty c_listG cd_list rfl T.list boot_list (q_cons (qv 1) q_nil)))))
      (b_one (s_ret (q_cb (c_sortedD rfl hr.units) cd_sorted rfl T.sorted boot_sorted (q_cons (QE.wk (q_c1 (compOk_of (caps := ["lines"]) (ix := [1]) rfl rfl) (by decide +kernel) rfl (q_seq (qv 2)) .nil (fun _ _ _ => (q_own lnd0 G_room_under hr rfl (q_cons (qv 0) (q_cons (qv 1) q_nil)))))) q_nil)))))
theorem ok_law (F : Fun K "law" "law" s_law f fd) (T : Txt mg) (G__law_edges : x__law_edges P w K mg base) (G__law_grown : x__law_grown P w K mg base) (G__law_many : x__law_many P w K mg base) (G__law_pick : x__law_pick P w K mg base) (G__law_room_fits : x__law_room_fits P w K mg base) (G__law_some : x__law_some P w K mg base) (G__law_stream : x__law_stream P w K mg base) (G_rooms : x_rooms P w K mg base) : FnOk P w K mg base (CX1 P w) 4 f fd ["_law_script"] (spD K mg false m_law 1) :=
  fnD (k := 3) F sc_law rfl rfl fun cdv A outer s H E hr =>
    (b_cons (sA 1 sc_law.nd (q_own lndF G__law_stream hr rfl (q_cons (QE.wk (q_sl sl_list sd_list (qv 0) (s_so q_int) s_no)) (q_cons (q_own lndF G__law_many hr rfl (q_cons (qv 0) q_nil)) q_nil))))
      (b_cons (s_unp (q_own lndF G__law_grown hr rfl (q_cons (qv 1) q_nil)) (g_t rfl (gs_cons (i := 2) sc_law.nd rfl (Or.inl rfl) (gs_cons (i := 3) sc_law.nd rfl (Or.inl rfl) gs_nil))))
      (b_cons (sA 4 sc_law.nd (q_own lndF G__law_some hr rfl (q_cons (qv 1) (q_cons (qv 3) (q_cons (q_bin o_add od_addI q_int (q_bin o_mod od_mod (q_own lndF G__law_pick hr rfl (q_cons (qv 0) (q_cons q_int q_nil))) q_int)) q_nil)))))
      (b_cons (sA 5 sc_law.nd (q_disp1 hr.units (q_tup (q_cons q_int (q_cons (q_bin o_sub od_sub (qv 2) q_int) q_nil))) q_int))
      (b_cons (s_for PassesOwn.leaving rfl (q_r1 rfl T.range (q_cons (q_bin o_sub od_sub (qv 2) q_int) q_nil)) (g_n (i := 6) sc_law.nd rfl (Or.inl rfl))
        (b_one (s_setN hr.units (pw 5) (q_tup (q_cons (qv 6) (q_cons (q_bin o_add od_addI (qv 6) q_int) q_nil))) q_int)))
      (b_cons (s_for PassesOwn.leaving rfl (q_seq (qv 4)) (g_n (i := 7) sc_law.nd rfl (Or.inl rfl))
        (b_one (s_setN hr.units (pw 5) (qv 7) q_int)))
      (b_cons (sA 8 sc_law.nd (q_cty c_listG cd_list rfl T.list boot_list (q_cons (qv 4) q_nil)))
      (b_cons (s_if (tE hr (q_bin o_mod od_mod (q_bin o_fdiv od_div (q_own lndF G__law_pick hr rfl (q_cons (qv 0) (q_cons q_int q_nil))) q_int) q_int) q_int (nomark _))
        (b_one (sA 9 sc_law.nd (q_own lndF G_rooms hr rfl (q_cons (qv 2) (q_cons (qv 8) q_nil)))))
        (b_one (sA 9 sc_law.nd (q_own lndF G_rooms hr rfl (q_cons (qv 2) (q_cons (q_cty c_tupleG cd_tuple rfl T.tuple boot_tuple (q_cons (qv 4) q_nil)) q_nil))))))
      (b_cons (s_if (QW.pt (w_or (t_not (t_val (q_isi rfl T.isinstance boot_isinstance (qv 9) (pe_bltn (v := .ty "list") rfl T.list boot_list rfl)))) (w_or (tN hr (qL T.len (qv 9)) (q_bin o_add od_addI (qL T.len (qv 4)) q_int) (nomark _)) (w_or1 (tN hr (qv 8) (qv 4) (nomark _))))))
        (b_one (s_ret q_bl))
        b_nil)
      (b_cons (s_for PassesOwn.leaving rfl (q_seq (qv 9)) (g_n (i := 10) sc_law.nd rfl (Or.inl rfl))
        (b_cons (s_if (t_not (t_val (q_own lndF G__law_room_fits hr rfl (q_cons (qv 10) (q_cons (qv 2) (q_cons (qv 4) (q_cons (qv 5) q_nil)))))))
        (b_one (s_ret q_bl))
        b_nil)
      (b_one (s_for PassesOwn.leaving rfl (q_seq (QE.wk (q_own lndF G__law_edges hr rfl (q_cons (qv 10) q_nil)))) (g_n (i := 11) sc_law.nd rfl (Or.inl rfl))
        (b_one (s_setN hr.units (pw 5) (qv 11) (q_bin o_sub od_sub (q_ix (ix_dn hr.units) od_ixN (qv 5) (qv 11)) q_int)))))))
      (b_cons (s_if (QW.pt (w_or (tN hr (qv 9) (QE.wk (q_cb (c_sortedD rfl hr.units) cd_sorted rfl T.sorted boot_sorted (q_cons (qv 9) q_nil))) (nomark _)) (w_or1 (tN hr (q_lenset rfl hr.units rfl T.len PyProof.Rows.Boot.«len» rfl T.set PyProof.Rows.Boot.«set» (q_cons (qv 9) q_nil)) (qL T.len (qv 9)) (nomark _)))))
        (b_one (s_ret q_bl))
        b_nil)
      (b_one (s_ret (q_cb (c_all rfl) cd_all rfl T.«all» boot_all (q_cons (QE.wk (q_c1 (compOk_of (caps := []) (ix := []) rfl rfl) (by decide +kernel) rfl (q_vals (qv 5)) .nil (fun _ _ _ => (q_cmp (o_eqD hr.units) od_eq (qv 0) q_int (nomark _))))) q_nil)))))))))))))))
end
theorem all_mk {l : PySem.W.OpenLaw} {w : World} {K : PySem.W.Frag} {h : Heap} {mg : Str → Option Value} {fa : Addr} (X : K.In h) (G : h.Ns mainGlobals mg) (hfa : mg "law" = some (.ref fa))
    {f0 f1 f2 f3 f4 f5 f6 f7 f8 f9 f10 f11 : Addr}
    (A0 : FnAt K "corner_behind" s_corner_behind f0)
    (A1 : FnAt K "_law_pick" s__law_pick f1)
    (A2 : FnAt K "_law_is_number" s__law_is_number f2)
    (A3 : FnAt K "_law_stream" s__law_stream f3)
    (A4 : FnAt K "_law_grown" s__law_grown f4)
    (A5 : FnAt K "_law_some" s__law_some f5)
    (A6 : FnAt K "_law_edges" s__law_edges f6)
    (A7 : FnAt K "room_under" s_room_under f7)
    (A8 : FnAt K "_law_many" s__law_many f8)
    (A9 : FnAt K "_law_room_fits" s__law_room_fits f9)
    (A10 : FnAt K "rooms" s_rooms f10)
    (A11 : FnAt K "law" s_law f11)
    (T : Txt mg) :
    ∃ fd : FuncData, (∀ (s : Shared) (v : Value), BindsTo s fd ⟨[v], []⟩ [("_law_script", v)]) ∧ ∀ base : Heap, K.In base → base.Ns mainGlobals mg → FnOk l.prog w K mg base (CX1 l.prog w) 4 fa fd ["_law_script"] (spL K false m_law 1) := by
  refine all_at X G hfa A11 (fun _ _ _ _ _ _ _ _ => .of_eq rfl) fun base kb nb fd F => ?_
  have G_corner_behind : x_corner_behind l.prog w K mg base := got X G A0 fun F => ok_corner_behind F T 
  have G__law_pick : x__law_pick l.prog w K mg base := got X G A1 fun F => ok__law_pick F T 
  have G__law_is_number : x__law_is_number l.prog w K mg base := got X G A2 fun F => ok__law_is_number F T 
  have G__law_stream : x__law_stream l.prog w K mg base := got X G A3 fun F => ok__law_stream F T 
  have G__law_grown : x__law_grown l.prog w K mg base := got X G A4 fun F => ok__law_grown F T 
  have G__law_some : x__law_some l.prog w K mg base := got X G A5 fun F => ok__law_some F T 
  have G__law_edges : x__law_edges l.prog w K mg base := got X G A6 fun F => ok__law_edges F T 
  have G_room_under : x_room_under l.prog w K mg base := got X G A7 fun F => ok_room_under F T G_corner_behind
  have G__law_many : x__law_many l.prog w K mg base := got X G A8 fun F => ok__law_many F T G__law_pick
  have G__law_room_fits : x__law_room_fits l.prog w K mg base := got X G A9 fun F => ok__law_room_fits F T G__law_edges G__law_is_number
  have G_rooms : x_rooms l.prog w K mg base := got X G A10 fun F => ok_rooms F T G_room_under
  exact (ok_law F T G__law_edges G__law_grown G__law_many G__law_pick G__law_room_fits G__law_some G__law_stream G_rooms).imp fun _ _ _ _ z => z.spD
end K14
set_option Elab.async false
set_option linter.all false
set_option maxRecDepth 100000
set_option maxHeartbeats 4000000
namespace K14
open PySem PySem.Spec PyProof.Rows L2
abbrev kO (n : String) (t1 : Nat) (q : String) (t2 t3 : Nat) (a b c d e : Int) (r1 : Nat) (g : Int) (r2 r3 r4 r5 : Nat) (k l : Int) (t4 : Nat) : Obj := ⟨.type "code", none, .fields [vs n t1, vs q t2, vs "/claim/cut.py" t3, .int a 0, .int b 0, .int c 0, .int d 0, .int e 0, .ref r1, .bool true, .int g 0, .ref r2, .none, .ref r3, .ref r4, .ref r5, .int k 0, .int l 0, vs "/claim/cut.py" t4].toArray, #[]⟩
abbrev kCo (n : String) (t1 : Nat) (q : String) (t2 t3 : Nat) (a b c d e : Int) (r1 : Nat) (g : Int) (r2 r5 : Nat) (k l : Int) (t4 : Nat) : Obj := ⟨.type "code", none, .fields [vs n t1, vs q t2, vs "/claim/cut.py" t3, .int a 0, .int b 0, .int c 0, .int d 0, .int e 0, .ref r1, .bool true, .int g 0, .ref r2, .none, .none, .none, .ref r5, .int k 0, .int l 0, vs "/claim/cut.py" t4].toArray, #[]⟩
abbrev fO (i : Nat) (n m : String) (t r : Nat) : Obj := oF (top i) n n .none .none .none (vs m t) none (.ref r) .none
noncomputable def K : Params → PySem.W.Frag := fun P =>
  (nat_lit 2, ⟨.none, none, (.dict [].toArray 0), #[]⟩) ::
  (nat_lit 3, oD [en P "__name__" 165 (vs "law_friezeyard_k14_rooms_between_lines" 210), en P "__doc__" 166 .none, en P "__package__" 167 .none, en P "__loader__" 168 (.builtin "__main__.__loader__#opaque"), en P "__spec__" 169 .none, en P "__annotations__" 170 (.ref 6), en P "__builtins__" 171 (.ref 4), en P "__file__" 173 (vs "/claim/cut.py" 172), en P "__cached__" 174 .none, en P "rooms" 194 (.ref 19), en P "room_under" 203 (.ref 26), en P "corner_behind" 209 (.ref 31), en P "_law_pick" 219 (.ref 38), en P "_law_is_number" 226 (.ref 45), en P "_law_many" 234 (.ref 52), en P "_law_stream" 245 (.ref 59), en P "_law_grown" 251 (.ref 64), en P "_law_some" 264 (.ref 71), en P "_law_edges" 270 (.ref 76), en P "_law_room_fits" 276 (.ref 81), en P "law" 282 (.ref 86)] 21) ::
  (nat_lit 6, oD [] 0) ::
  (nat_lit 15, oT []) ::
  (nat_lit 18, (kCo "rooms" 189 "rooms" 190 191 2 2 0 0 3 15 181 16 17 192 2 193)) ::
  (nat_lit 19, (fO 1 "rooms" "friezeyard.rooms" 187 18)) ::
  (nat_lit 20, oT []) ::
  (nat_lit 22, oT [(vs "top" 198), (vs "lines" 199), (vs "room" 200)]) ::
  (nat_lit 23, oT []) ::
  (nat_lit 25, (kO "room_under" 195 "room_under" 196 197 5 2 0 0 3 20 181 21 22 23 24 201 5 202)) ::
  (nat_lit 26, (fO 2 "room_under" "friezeyard.rooms" 187 25)) ::
  (nat_lit 27, oT []) ::
  (nat_lit 30, (kCo "corner_behind" 204 "corner_behind" 205 206 10 3 0 0 3 27 181 28 29 207 10 208)) ::
  (nat_lit 31, (fO 3 "corner_behind" "friezeyard.rooms" 187 30)) ::
  (nat_lit 32, oT []) ::
  (nat_lit 34, oT [(vs "_law_script" 215), (vs "_law_k" 216)]) ::
  (nat_lit 35, oT []) ::
  (nat_lit 37, (kO "_law_pick" 212 "_law_pick" 213 214 14 2 0 0 3 32 181 33 34 35 36 217 14 218)) ::
  (nat_lit 38, (fO 5 "_law_pick" "law_friezeyard_k14_rooms_between_lines" 210 37)) ::
  (nat_lit 39, oT []) ::
  (nat_lit 41, oT [(vs "_law_found" 223)]) ::
  (nat_lit 42, oT []) ::
  (nat_lit 44, (kO "_law_is_number" 220 "_law_is_number" 221 222 18 1 0 0 3 39 181 40 41 42 43 224 18 225)) ::
  (nat_lit 45, (fO 6 "_law_is_number" "law_friezeyard_k14_rooms_between_lines" 210 44)) ::
  (nat_lit 46, oT []) ::
  (nat_lit 48, oT [(vs "_law_script" 230), (vs "_law_cell" 231)]) ::
  (nat_lit 49, oT []) ::
  (nat_lit 51, (kO "_law_many" 227 "_law_many" 228 229 20 1 0 0 3 46 181 47 48 49 50 232 20 233)) ::
  (nat_lit 52, (fO 7 "_law_many" "law_friezeyard_k14_rooms_between_lines" 210 51)) ::
  (nat_lit 53, oT []) ::
  (nat_lit 55, oT [(vs "_law_cells" 238), (vs "_law_many_here" 239), (vs "_law_found" 240), (vs "_law_number" 241), (vs "_law_k" 242)]) ::
  (nat_lit 56, oT []) ::
  (nat_lit 58, (kO "_law_stream" 235 "_law_stream" 236 237 27 2 0 0 3 53 181 54 55 56 57 243 27 244)) ::
  (nat_lit 59, (fO 8 "_law_stream" "law_friezeyard_k14_rooms_between_lines" 210 58)) ::
  (nat_lit 60, oT []) ::
  (nat_lit 63, (kCo "_law_grown" 246 "_law_grown" 247 248 36 1 0 0 3 60 181 61 62 249 36 250)) ::
  (nat_lit 64, (fO 9 "_law_grown" "law_friezeyard_k14_rooms_between_lines" 210 63)) ::
  (nat_lit 65, oT []) ::
  (nat_lit 67, oT [(vs "_law_stream_here" 255), (vs "_law_lines" 256), (vs "_law_part" 257), (vs "_law_some_here" 258), (vs "_law_k" 259), (vs "_law_line" 260), (vs "_law_number" 261)]) ::
  (nat_lit 68, oT []) ::
  (nat_lit 70, (kO "_law_some" 252 "_law_some" 253 254 48 3 0 0 3 65 181 66 67 68 69 262 48 263)) ::
  (nat_lit 71, (fO 10 "_law_some" "law_friezeyard_k14_rooms_between_lines" 210 70)) ::
  (nat_lit 72, oT []) ::
  (nat_lit 75, (kCo "_law_edges" 265 "_law_edges" 266 267 55 1 0 0 3 72 181 73 74 268 55 269)) ::
  (nat_lit 76, (fO 11 "_law_edges" "law_friezeyard_k14_rooms_between_lines" 210 75)) ::
  (nat_lit 77, oT []) ::
  (nat_lit 80, (kCo "_law_room_fits" 271 "_law_room_fits" 272 273 57 4 0 0 3 77 181 78 79 274 57 275)) ::
  (nat_lit 81, (fO 12 "_law_room_fits" "law_friezeyard_k14_rooms_between_lines" 210 80)) ::
  (nat_lit 82, oT []) ::
  (nat_lit 85, (kCo "law" 277 "law" 278 279 69 1 0 0 3 82 181 83 84 280 69 281)) ::
  (nat_lit 86, (fO 13 "law" "law_friezeyard_k14_rooms_between_lines" 210 85)) :: []
noncomputable def places : List Addr := [2, 3, 6, 15, 18, 19, 20, 22, 23, 25, 26, 27, 30, 31, 32, 34, 35, 37, 38, 39, 41, 42, 44, 45, 46, 48, 49, 51, 52, 53, 55, 56, 58, 59, 60, 63, 64, 65, 67, 68, 70, 71, 72, 75, 76, 77, 80, 81, 82, 85, 86]
theorem places_K : ∀ P, places = (K P).map (·.1) := fun _ => by kernel_rfl
noncomputable def hook : PySem.W.Hook := PySem.W.kHook K places places_K
noncomputable def q : Program := PySem.W.view PySem.Challenge.pw_friezeyard_k14_rooms_between_lines [1, 2, 3, 5, 6, 7, 8, 9, 10, 11, 12, 13]
noncomputable def xtH (s : Shared) : Bool := PySem.W.xlAt q [] s && PySem.W.recOk (PySem.W.RowW.records PySem.Challenge.rw_friezeyard_k14_rooms_between_lines.row.toRowW) s
noncomputable def out (w : World) (os : OsState) := outAt PySem.Challenge.pw_friezeyard_k14_rooms_between_lines q [] xtH (fun s => places.map s.heap.get?) 880 w os
noncomputable def good := PySem.W.openGood q []
example : ((fun (_ : Params → Obj) (_ : Str) => true) PySem.W.boot_o_0 (Str.ofString "dull")) = true := by k_qdec
lay_quick out good
theorem out_ok : ∀ w os, out w os = some (true, good, (K w.params).map fun p => some p.2) := fun w os => (congrFun (congrFun PySem.W.Fast.te14193720940160785444 w) os).trans (by rw [PySem.W.Fast.te14512460432384504852]; kernel_rfl)
theorem left : PySem.W.LeftO PySem.Challenge.pw_friezeyard_k14_rooms_between_lines q [] xtH (PySem.W.Hook.obs hook) (PySem.W.Hook.val hook) 880 := left_of (by kernel_rfl) (by kernel_rfl) (fun _ => by kernel_rfl) out_ok
end K14
set_option Elab.async false
set_option linter.all false
set_option maxRecDepth 100000
set_option maxHeartbeats 4000000
namespace K14
open L2 Cu
local macro_rules | `(tactic| walk_at "dz") => `(tactic| try simp (implicitDefEqProofs := false) only [mOf_e, sSeq_e, sIf_e, sAsg_e, sRet_e, sRetN, sRetO, sNx, sUnp, sMut, sMut0, sSet, sFor, sDrop, toS_ok, toS_er, toS_st, toS_ite, thn_nx, thn_rt, thn_er, thn_st, thn_bk, thn_ct, thn_ite, out_rt, out_nx, out_er, out_st, out_ite, bind_er, noE_ok, vis_n, vis_0, vis_c, see_n, see_c, see_em, see_im, see_ow1, see_ow0, thaw_t, thaw_f, frz_0, frz_n, frz_c, frz_im, frz_em, frz_ow0, frz_ow1, keep_int, keep_bl, keep_non, keep_str, keep_tup, keep_lst, keep_L, keep_lstf, keep_Lf, noLs_n, noLs_c, noL_int, noL_bl, noL_str, noL_non, noL_tup, noL_lst, putT, putAll, Option.bind_some, Bool.and_true, Bool.true_and, put_f, put_t, sel_n, sel_c, var0, varS, eC, eOp, eUn, eNil, eCons, eCall, eCB, eTup, eLst, eIf, eSl, oSo, oNo, of_int, bAnd, bOr, bNot, bVal, eAnd, eOr, eChn, bChn, cLast, cLink, cLastT, cLinkT, eComp, iL, items_l, items_t, items_L, compL_n, compL_1, R.bind_ok, R.of_some, dAddI, dSub, dLtI, dLe, dGtI, dGe, dI_ii, dNeg, asB_b, dTru_b, dTru_l, dTru_i, dEq_ii, dNe_ii, dEq_bb, dEq_t2, dNe_t2, dIx_t0, dIx_t1, dIx_t2, dIx_l0, dIx_l1, dLen_s, dLen_l, dLen_t, len_L, list_L, isi_L, isT_L, isT_l, list_t, list_l, tuple_l, tuple_t, keep_lT2, keep_lT3, sl_L, sl_scr, sum_L, eq_L, ne_L, dMin2, dMax2, int_b, int_i, sum_T3, sum_T2, isi_T3, isi_T2, len_T2, ix2_0, ix2_1, items_T3, noL_T2, noL_T3, or_ok, and_ok, orD_ok, andD_ok, isi_ii, isi_ib, dTru_b, isi_bb, isi_tt, isi_ll, forL_n, itr_nx, itr_ct, itr_bk, itr_rt, itr_ite, List.map_cons, List.map_nil, List.length_cons, List.length_nil, List.cons_append, List.nil_append, List.replicate_succ, List.replicate_zero, List.getElem?_cons_zero, List.getElem?_cons_succ, List.set_cons_zero, List.set_cons_succ, Option.map_some, Option.getD_some, if_true, if_false, Bool.false_eq_true, Bool.not_true, Bool.not_false, Bool.and_false, Bool.false_and, Bool.or_true, Bool.true_or, Bool.or_false, Bool.false_or, Nat.reduceAdd, Nat.reduceLeDiff, Nat.reduceEqDiff, reduceCtorEq, decide_true, decide_false, Int.reduceEq])
theorem num_e (i : Int) : m__law_is_number [.int i] = .ok (.bl true) := by
  unfold m__law_is_number g__law_is_number
  walk_at "dz"
theorem pick_e (ns : List Int) (k : Int) (hk : 0 ≤ k) : m__law_pick [.scr ns, .int k] = .ok (.int (ns.getD k.toNat 0)) := by
  unfold m__law_pick g__law_pick
  walk_at "dz"
  by_cases h : k < ns.length
  · rw [if_pos (by simpa using h), dIx_scr hk h]
    rfl
  · rw [if_neg (by simpa using h)]
    rw [List.getD_eq_getElem?_getD, List.getElem?_eq_none (by omega)]
    rfl
theorem stream_b (cells : List Int) (m : Int) (cs : List Int) (x i : Int) (hx : 0 ≤ x ∧ x < 2147483647) (hi : 0 ≤ i ∧ i < 1000) (hc : cs.length < 1000) :
    ∃ y : Int, (0 ≤ y ∧ y < 2147483647) ∧ h__law_stream_0 [.im (L cells), .im (.int m), .ow (L cs), .im (.int x), .im (.int i)] = .nx [.im (L cells), .im (.int m), .ow (L (cs ++ [y])), .im (.int y), .im (.int i)] := by
  unfold h__law_stream_0
  walk_at "dz"
  rw [mul_l (by omega), mul_l (by omega)]
  walk_at "dz"
  rw [mod_p (by omega)]
  walk_at "dz"
  by_cases h : i < cells.length
  · rw [decide_eq_true h]
    walk_at "dz"
    rw [ix_L hi.1 (by omega)]
    walk_at "dz"
    rw [mod_p (by omega)]
    walk_at "dz"
    rw [app_L (by omega)]
    walk_at "dz"
    exact ⟨_, ⟨Int.emod_nonneg _ (by decide), Int.emod_lt_of_pos _ (by decide)⟩, rfl⟩
  · rw [decide_eq_false h]
    walk_at "dz"
    rw [app_L (by omega)]
    walk_at "dz"
    exact ⟨_, ⟨Int.emod_nonneg _ (by decide), Int.emod_lt_of_pos _ (by decide)⟩, rfl⟩
theorem stream_e (cells : List Int) (m : Nat) (hm : m ≤ 57) : ∃ st : List Int, st.length = m ∧ m__law_stream [L cells, .int (m : Int)] = .ok (L st) := by
  unfold m__law_stream g__law_stream
  walk_at "dz"
  rw [iR1_e (m : Int) (by omega) (by walk_at "dz")]
  walk_at "dz"
  simp only [zD]
  obtain ⟨ρ', e, cs, x, s4, ⟨hl, hx⟩, hr⟩ := forL_rng (tg := .n 4) (g := h__law_stream_0) m (fun (i : Nat) => D.int (0 + (i : Int)))
    (fun k ρ => ∃ (cs : List Int) (x : Int) (s4 : Sl), (cs.length = k ∧ 0 ≤ x ∧ x < 2147483647) ∧ ρ = [.im (L cells), .im (.int (m : Int)), .ow (L cs), .im (.int x), s4])
    [.im (L cells), .im (.int (m : Int)), .ow (L []), .im (.int 7), .em] ⟨[], 7, .em, ⟨rfl, by omega, by omega⟩, rfl⟩ (by
      rintro i hi ρ ⟨cs, x, s4, ⟨hl, hx⟩, rfl⟩
      obtain ⟨y, hy, e⟩ := stream_b cells (m : Int) cs x (0 + (i : Int)) hx (by omega) (by omega)
      exact ⟨_, _, rfl, Or.inl e, ⟨_, _, _, ⟨by simp [hl], hy⟩, rfl⟩⟩)
  rw [show (D.lst [] : D) = L [] from rfl, Int.toNat_natCast, e, hr]
  walk_at "dz"
  exact ⟨cs, hl, rfl⟩
theorem sh_e (c x : Int) : x + (if decide (c < x) = true then 1 else 0) = sh c x := by
  unfold sh; by_cases h : c < x
  · rw [decide_eq_true h, if_pos rfl, if_pos h]
  · rw [decide_eq_false h, if_neg Bool.false_ne_true, if_neg h]; omega
theorem many_e (ns : List Int) : ∃ m : Nat, m ≤ 57 ∧ m__law_many [.scr ns] = .ok (.int (m : Int)) := by
  unfold m__law_many g__law_many
  walk_at "dz"
  rw [pick_e _ _ (by omega)]
  walk_at "dz"
  generalize ns.getD (Int.toNat 0) 0 = x
  rw [mod_p (by omega)]
  walk_at "dz"
  rw [div_p (by omega)]
  walk_at "dz"
  rw [mod_p (by omega), mod_p (by omega)]
  walk_at "dz"
  have a0 : 0 ≤ x / 4 % 58 := Int.emod_nonneg _ (by decide)
  have a1 : x / 4 % 58 < 58 := Int.emod_lt_of_pos _ (by decide)
  have b0 : 0 ≤ x / 4 % 9 := Int.emod_nonneg _ (by decide)
  have b1 : x / 4 % 9 < 9 := Int.emod_lt_of_pos _ (by decide)
  by_cases h1 : x % 4 = 3
  · rw [decide_eq_true h1]
    exact ⟨(x / 4 % 58).toNat, by omega, by walk_at "dz"; rw [show (((x / 4 % 58).toNat : Nat) : Int) = x / 4 % 58 by omega]⟩
  · rw [decide_eq_false h1]
    by_cases h2 : x % 4 = 2
    · rw [decide_eq_true h2]
      exact ⟨(x / 4 % 9).toNat, by omega, by walk_at "dz"; rw [mod_p (by omega)]; walk_at "dz"; rw [show (((x / 4 % 9).toNat : Nat) : Int) = x / 4 % 9 by omega]⟩
    · rw [decide_eq_false h2]
      walk_at "dz"
      generalize hy : (if (ns.length : Int) - 2 > 0 then (ns.length : Int) - 2 else 0) = y
      generalize hz : (if y < 57 then y else 57) = z
      have z0 : 0 ≤ z ∧ z ≤ 57 := by subst hz; subst hy; split <;> split <;> omega
      exact ⟨z.toNat, by omega, by rw [show ((z.toNat : Nat) : Int) = z by omega]⟩
theorem grown_b (st : List Int) (n : Int) (ls : List P2) (num : Int) (s4 : Sl) (hn : 3 ≤ n) (hl : ls.length < 1000) :
    ∃ c : Int, (0 ≤ c ∧ c < n) ∧ h__law_grown_1 [.im (L st), .im (.int n), .ow (.lst (ls.map T2)), .im (.int num), s4] =
      .nx [.im (L st), .im (.int (n + 1)), .ow (.lst ((ls.map (sh2 c) ++ [nLine n c]).map T2)), .im (.int num), .im (.int c)] := by
  refine ⟨num % n, ⟨Int.emod_nonneg _ (by omega), Int.emod_lt_of_pos _ (by omega)⟩, ?_⟩
  unfold h__law_grown_1
  walk_at "dz"
  rw [mod_p (by omega)]
  walk_at "dz"
  generalize num % n = c
  rw [if_pos (by rw [List.length_map]; omega), compL_map (en := T2) (bs := fun q => [D.int q.1, D.int q.2]) (g := fun q => T2 (sh2 c q)) ls (fun x _ => rfl) (fun q _ => by
    unfold h__law_grown_0
    walk_at "dz"
    rw [sh_e, sh_e]; rfl)]
  simp only [R.bind_ok]
  rw [show ls.map (fun q => T2 (sh2 c q)) = (ls.map (sh2 c)).map T2 by rw [List.map_map]; rfl]
  generalize hls : ls.map (sh2 c) = ls'
  have hl' : ls'.length < 1000 := by rw [← hls, List.length_map]; exact hl
  walk_at "dz"
  by_cases q : c = n - 1
  · rw [decide_eq_true q]
    walk_at "dz"
    rw [app_T2 (by omega)]
    walk_at "dz"
    unfold nLine
    rw [if_pos q]
  · rw [decide_eq_false q]
    walk_at "dz"
    rw [app_T2 (by omega)]
    walk_at "dz"
    unfold nLine
    rw [if_neg q]
theorem grown_e (st : List Int) (hs : st.length ≤ 57) : ∃ (n : Int) (ls : List P2) (T : List P3), CInv n ls T ∧ n = st.length + 3 ∧ ls.length = st.length ∧
    m__law_grown [L st] = .ok (.tup [.int n, .lst (ls.map T2)]) := by
  unfold m__law_grown g__law_grown
  walk_at "dz"
  obtain ⟨ρ', e, n, ls, T, s3, s4, I, hn, hl, hst, hr⟩ := forL_inv (tg := .n 3) (g := h__law_grown_1) (en := D.int)
    (fun r ρ => ∃ (n : Int) (ls : List P2) (T : List P3) (s3 s4 : Sl), CInv n ls T ∧ n + r.length = st.length + 3 ∧ (ls.length : Int) = n - 3 ∧ r.length ≤ st.length ∧ ρ = [.im (L st), .im (.int n), .ow (.lst (ls.map T2)), s3, s4])
    st [.im (L st), .im (.int 3), .ow (.lst []), .em, .em] ⟨3, [], [(0, 1, 2)], .em, .em, inv3, by omega, rfl, Nat.le_refl _, rfl⟩ (by
      rintro x r ρ ⟨n, ls, T, s3, s4, I, hn, hl, hst, rfl⟩
      have h3 := I.n3
      simp only [List.length_cons] at hn hst
      obtain ⟨c, hc, e⟩ := grown_b st n ls x s4 h3 (by omega)
      refine ⟨_, _, rfl, Or.inl e, ⟨_, _, _, _, _, I.grow c hc.1 hc.2, by omega, ?_, by omega, rfl⟩⟩
      rw [List.length_append, List.length_map, List.length_singleton]; omega)
  rw [e, hr]
  simp only [List.length_nil] at hn
  walk_at "dz"
  exact ⟨n, ls, T, I, by omega, by omega, rfl⟩
theorem ins_T2 {xs : List P2} {x : Int} (y : P2) (h0 : 0 ≤ x) (h1 : x ≤ xs.length) (h : xs.length < 1000) : mIns (.lst (xs.map T2)) [.int x, T2 y] = some (.lst ((xs.take x.toNat ++ y :: xs.drop x.toNat).map T2)) := by
  simp only [mIns, List.length_map]
  rw [if_pos (by refine ⟨by omega, by omega, by omega⟩)]
  congr 2
  simp only [insAt, insK, List.length_map, if_neg (show ¬ x < 0 by omega), List.map_append, List.map_take, List.map_cons, List.map_drop]
  rw [Nat.min_eq_left (by omega)]
theorem enum_T2 (xs : List P2) : ((zD 0 (xs.map T2).length).zip (xs.map T2)).map (fun p => D.tup [p.1, p.2]) = (List.range xs.length).map fun (i : Nat) => D.tup [.int (i : Int), T2 (xs.getD i (0, 0))] := by
  have e : xs.map T2 = (List.range xs.length).map fun i => T2 (xs.getD i (0, 0)) := by
    conv => lhs; rw [as_rng xs (0, 0)]
    rw [List.map_map]; rfl
  rw [e, enum_rng]
theorem some_b (A1 : Sl) (st : List Int) (pt : Int) (hp : 1 ≤ pt) (hp4 : pt ≤ 4) (xs : List P2) (i : Nat) (l : P2) (s6 : Sl) (hi : i < st.length) (hi2 : i < 1000) (hx : xs.length < 1000) :
    ∃ (ys : List P2) (s : Sl), (ys = xs ∨ ys.Perm (l :: xs)) ∧ h__law_some_0 [.im (L st), A1, .im (.int pt), .ow (.lst (xs.map T2)), .im (.int (i : Int)), .im (T2 l), s6] = .nx [.im (L st), A1, .im (.int pt), .ow (.lst (ys.map T2)), .im (.int (i : Int)), .im (T2 l), s] := by
  unfold h__law_some_0
  walk_at "dz"
  rw [ix_N hi]
  walk_at "dz"
  rw [mul_r (by omega), mul_l (by omega)]
  walk_at "dz"
  rw [mul_r (by omega)]
  walk_at "dz"
  rw [mod_p (by omega)]
  walk_at "dz"
  have x0 : 0 ≤ (st.getD i 0 * 69621 + (i : Int) * i * 16807 + 11) % 2147483629 := Int.emod_nonneg _ (by decide)
  generalize (st.getD i 0 * 69621 + (i : Int) * i * 16807 + 11) % 2147483629 = x at x0
  have j0 : 0 ≤ x % ((xs.length : Int) + 1) := Int.emod_nonneg _ (by omega)
  have j1 : x % ((xs.length : Int) + 1) < (xs.length : Int) + 1 := Int.emod_lt_of_pos _ (by omega)
  have pm : (xs.take (x % ((xs.length : Int) + 1)).toNat ++ l :: xs.drop (x % ((xs.length : Int) + 1)).toNat).Perm (l :: xs) := by
    refine List.perm_middle.trans ?_
    rw [List.take_append_drop]
  by_cases h1 : pt = 1
  · rw [decide_eq_true h1]
    walk_at "dz"
    rw [List.length_map, mod_p (by omega)]
    walk_at "dz"
    rw [ins_T2 l j0 (by omega) hx]
    walk_at "dz"
    exact ⟨_, _, .inr pm, rfl⟩
  · rw [decide_eq_false h1, div_p (by omega)]
    walk_at "dz"
    rw [mod_p (by omega)]
    walk_at "dz"
    by_cases h2 : x / 4096 % pt = 0
    · rw [decide_eq_true h2]
      walk_at "dz"
      rw [List.length_map, mod_p (by omega)]
      walk_at "dz"
      rw [ins_T2 l j0 (by omega) hx]
      walk_at "dz"
      exact ⟨_, _, .inr pm, rfl⟩
    · rw [decide_eq_false h2]
      walk_at "dz"
      exact ⟨xs, _, .inl rfl, rfl⟩
theorem some_e (st : List Int) (ls : List P2) (nd : ls.Nodup) (pt : Int) (hp : 1 ≤ pt) (hp4 : pt ≤ 4) (hst : ls.length ≤ st.length) (hl : ls.length ≤ 57) :
    ∃ xs : List P2, xs.Nodup ∧ (∀ p ∈ xs, p ∈ ls) ∧ xs.length ≤ 57 ∧ m__law_some [L st, .lst (ls.map T2), .int pt] = .ok (.lst (xs.map T2)) := by
  unfold m__law_some g__law_some
  walk_at "dz"
  simp only [iEn]
  walk_at "dz"
  rw [enum_T2]
  obtain ⟨ρ', e, xs, s4, s5, s6, h1, h2, h3, hr⟩ := forL_rng (tg := .t [4, 5]) (g := h__law_some_0) ls.length (fun (i : Nat) => D.tup [.int (i : Int), T2 (ls.getD i (0, 0))])
    (fun k ρ => ∃ (xs : List P2) (s4 s5 s6 : Sl), xs.Nodup ∧ (∀ p ∈ xs, p ∈ ls.take k) ∧ xs.length ≤ k ∧ ρ = [.im (L st), .im (.lst (ls.map T2)), .im (.int pt), .ow (.lst (xs.map T2)), s4, s5, s6])
    [.im (L st), .im (.lst (ls.map T2)), .im (.int pt), .ow (.lst []), .em, .em, .em] ⟨[], _, _, _, List.nodup_nil, fun p hp => (by simp at hp), Nat.le_refl _, rfl⟩ (by
      rintro i hi ρ ⟨xs, s4, s5, s6, h1, h2, h3, rfl⟩
      have hg : ls[i]? = some ls[i] := List.getElem?_eq_getElem hi
      have hgd : ls.getD i (0, 0) = ls[i] := by rw [List.getD_eq_getElem?_getD, hg]; rfl
      obtain ⟨ys, s, hy, e⟩ := some_b (.im (.lst (ls.map T2))) st pt hp hp4 xs i (ls.getD i (0, 0)) s6 (by omega) (by omega) (by omega)
      refine ⟨_, _, rfl, Or.inl e, ys, _, _, _, ?_, ?_, ?_, rfl⟩
      · rcases hy with rfl | hy
        · exact h1
        · refine hy.nodup_iff.mpr (List.nodup_cons.mpr ⟨fun hm => ?_, h1⟩)
          obtain ⟨j, hj, q⟩ := List.mem_iff_getElem.mp (h2 _ hm)
          rw [List.length_take] at hj
          rw [List.getElem_take, hgd] at q
          have := (List.getElem_inj nd).mp q
          omega
      · intro p hp
        have up : ∀ q, q ∈ ls.take i → q ∈ ls.take (i + 1) := fun q hq => by rw [List.take_add_one]; exact List.mem_append_left _ hq
        rcases hy with rfl | hy
        · exact up p (h2 p hp)
        · rcases List.mem_cons.mp (hy.mem_iff.mp hp) with rfl | q
          · rw [List.take_add_one, hg, hgd]; exact List.mem_append_right _ (by simp)
          · exact up p (h2 p q)
      · rcases hy with rfl | hy
        · omega
        · rw [hy.length_eq, List.length_cons]; omega)
  rw [e, hr]
  walk_at "dz"
  exact ⟨xs, h1, fun p hp => List.mem_of_mem_take (h2 p hp), by omega, rfl⟩
theorem lns_of {n : Int} {ls xs : List P2} {T : List P3} (I : CInv n ls T) (nd : xs.Nodup) (h : ∀ p ∈ xs, p ∈ ls) : Lns n xs :=
  ⟨I.n3, fun a b hm => I.lin a b (h _ hm), fun a b c d h1 h2 => I.nc a b c d (h _ h1) (h _ h2), nd⟩
def LT (b : Bool) (ls : List P2) : D := if b = true then .lst (ls.map T2) else .tup (ls.map T2)
theorem items_LT (b : Bool) (ls : List P2) : items (LT b ls) = some (ls.map T2) := by cases b <;> rfl
theorem maxD_L (d : Int) (ns : List Int) : dMaxD [L ns, .int d] = some (.int (mxD d ns)) := by simp only [L, dMaxD, intsOf_map, Option.map_some]
def nxt (ls : List P2) (t : P2) (c : Int) : Int := mxD (c + 1) (ends c t ls)
theorem behind_e (k : Bool) (c : Int) (p : P2) (ls : List P2) (hl : ls.length ≤ 1000) : m_corner_behind [.int c, T2 p, LT k ls] = .ok (.int (nxt ls p c)) := by
  unfold m_corner_behind g_corner_behind
  walk_at "dz"
  rw [items_LT]
  walk_at "dz"
  rw [if_pos (by rw [List.length_map]; omega), compL_flt (en := T2) (bs := fun l => [T2 l]) (p := pk c p) (g := fun l => D.int l.2) ls (fun x _ => rfl) (fun l _ => by
    unfold h_corner_behind_0
    simp only [T2]
    walk_at "dz"
    rfl) (fun l _ _ => by
    unfold h_corner_behind_1
    simp only [T2]
    walk_at "dz")]
  simp only [R.bind_ok]
  rw [show D.lst ((ls.filter (pk c p)).map fun l => D.int l.2) = L (ends c p ls) by unfold L ends; rw [List.map_map]; rfl]
  walk_at "dz"
  rw [maxD_L]
  walk_at "dz"
  rfl
theorem whileL_s (t : DE → R Bool) (g : DS → SR) (n : Nat) (ρ : DS) : whileL t g (n + 1) ρ = (t (see ρ)).toS fun b => if b = true then (g ρ).itr (whileL t g n) else .nx ρ := by
  rw [whileL]; congr 1
theorem ix_end (xs : List Int) (v : Int) : dIx (L (xs ++ [v])) (.int (-1)) = some (.int v) := by
  have : (xs ++ [v]).map D.int = xs.map D.int ++ [D.int v] := by simp
  simp only [L, dIx, dOr, dIxS, this, atI_last]
theorem under_t (k : Bool) (ls : List P2) (p : P2) (xs : List Int) (v : Int) : h_room_under_0 [some (T2 p), some (LT k ls), some (L (xs ++ [v]))] = .ok (decide (v < p.2)) := by
  unfold h_room_under_0
  simp only [T2]
  walk_at "dz"
  rw [ix_end]
  walk_at "dz"
theorem under_b (k : Bool) (ls : List P2) (hl : ls.length ≤ 1000) (p : P2) (xs : List Int) (v : Int) (hx : xs.length < 1000) : h_room_under_1 [.im (T2 p), .im (LT k ls), .ow (L (xs ++ [v]))] = .nx [.im (T2 p), .im (LT k ls), .ow (L (xs ++ [v] ++ [nxt ls p v]))] := by
  unfold h_room_under_1
  walk_at "dz"
  rw [ix_end]
  walk_at "dz"
  rw [behind_e k _ _ _ hl]
  walk_at "dz"
  rw [app_L (by simp; omega)]
  walk_at "dz"
theorem under_w (k : Bool) (ls : List P2) (hl : ls.length ≤ 1000) (p : P2) {c : Int} {l : List Int} {es : List P2} (h : Ch p.2 (nxt ls p) c l es) : ∀ (f : Nat) (xs : List Int), l.length ≤ f → xs.length + l.length < 1000 →
    whileL h_room_under_0 h_room_under_1 f [.im (T2 p), .im (LT k ls), .ow (L (xs ++ [c]))] = .nx [.im (T2 p), .im (LT k ls), .ow (L (xs ++ l))] := by
  induction h with
  | last =>
    intro f xs hf hx
    obtain ⟨f, rfl⟩ : ∃ g, f = g + 1 := ⟨f - 1, by simp at hf; omega⟩
    rw [whileL_s]
    simp only [see_c, see_im, see_ow1, see_n]
    rw [under_t, toS_ok, decide_eq_false (show ¬ p.2 < p.2 by omega), if_neg Bool.false_ne_true]
  | @step c l es h r ih =>
    intro f xs hf hx
    rw [List.length_cons] at hf hx
    obtain ⟨f, rfl⟩ : ∃ g, f = g + 1 := ⟨f - 1, by omega⟩
    rw [whileL_s]
    simp only [see_c, see_im, see_ow1, see_n]
    rw [under_t, toS_ok, decide_eq_true h, if_pos rfl, under_b k ls hl p xs c (by omega), itr_nx, ih f (xs ++ [c]) (by omega) (by simp; omega)]
    simp
theorem under_e (k : Bool) (ls : List P2) (hl : ls.length ≤ 1000) (p : P2) {l : List Int} {es : List P2} (h : Ch p.2 (nxt ls p) p.1 l es) (hn : l.length ≤ 100) : m_room_under [T2 p, LT k ls] = .ok (TuI l) := by
  unfold m_room_under g_room_under
  walk_at "dz"
  have w := under_w k ls hl p h 1000 [] (by omega) (by simp; omega)
  rw [List.nil_append, List.nil_append] at w
  rw [show D.lst [D.int p.1] = L [p.1] from rfl]
  unfold sWhile
  rw [w]
  walk_at "dz"
  rfl
theorem mxD_of {d : Int} {ys : List Int} : (mxD d ys ∈ ys ∨ (ys = [] ∧ mxD d ys = d)) ∧ ∀ y ∈ ys, y ≤ mxD d ys := by
  cases ys with
  | nil => exact ⟨.inr ⟨rfl, rfl⟩, fun y hy => by cases hy⟩
  | cons n ns =>
    obtain ⟨a, b⟩ := maxI_is ns n
    exact ⟨.inl a, b⟩
theorem nx_of {n : Int} {ls : List P2} (I : Lns n ls) (t : P2) : Nx t ls (nxt ls t) where
  up := fun c hc => by
    unfold nxt
    rcases (mxD_of (d := c + 1) (ys := ends c t ls)).1 with h | ⟨_, h⟩
    · obtain ⟨m1, m2, m3⟩ := mem_ends.mp h
      have := I.lin _ _ m1
      exact ⟨by omega, m2⟩
    · rw [h]; omega
  or := fun c hc => by
    unfold nxt
    rcases (mxD_of (d := c + 1) (ys := ends c t ls)).1 with h | ⟨_, h⟩
    · obtain ⟨m1, m2, m3⟩ := mem_ends.mp h
      exact .inl ⟨m1, fun z => m3 ⟨congrArg Prod.fst z, congrArg Prod.snd z⟩⟩
    · exact .inr h
  ge := fun c e h1 h2 h3 => (mxD_of (d := c + 1) (ys := ends c t ls)).2 e (mem_ends.mpr ⟨h1, h2, fun z => h3 (Prod.ext z.1 z.2)⟩)
theorem rooms_ex {n : Int} {ls : List P2} (I : Lns n ls) (hn : n ≤ 60) : ∃ (C : P2 → List Int) (E : P2 → List P2), ∀ t, isTop n ls t → Ch t.2 (nxt ls t) t.1 (C t) (E t) ∧ (C t).length ≤ 60 := by
  have ex : ∀ t, ∃ q : List Int × List P2, isTop n ls t → Ch t.2 (nxt ls t) t.1 q.1 q.2 ∧ q.1.length ≤ 60 := fun t => by
    by_cases h : isTop n ls t
    · have tt := I.top (a := t.1) (b := t.2) h
      have X := nx_of I t
      obtain ⟨l, es, r⟩ := Ch.ex X.up (t.2 - t.1).toNat t.1 (by omega) (Nat.le_refl _)
      have := r.len X.up
      exact ⟨(l, es), fun _ => ⟨r, by simp only; omega⟩⟩
    · exact ⟨([], []), fun z => absurd z h⟩
  exact ⟨fun t => (Classical.choose (ex t)).1, fun t => (Classical.choose (ex t)).2, fun t ht => Classical.choose_spec (ex t) ht⟩
theorem dep_TuI (l : List Int) : (TuI l).dep ≤ 1 := by simp only [TuI, D.dep, (ois_ints l).2]; omega
theorem pl_TuI (l : List Int) : (TuI l).pl = true := by simp only [TuI, D.pl]; exact pls_of l D.int fun _ => rfl
theorem cmp_TuI (a b : List Int) : (cmpD (TuI a) (TuI b)).isSome = true := by
  obtain ⟨r, h⟩ := cmps_ints a b
  simp only [TuI, cmpD, h, Option.isSome_some]
theorem sortOk_Tu {α : Type} (F : α → List Int) (ts : List α) (h : ts.length < 64) (hF : ∀ t ∈ ts, F t ≠ []) : sortOk (ts.map fun t => TuI (F t)) = true := by
  unfold sortOk
  simp only [Bool.and_eq_true, Bool.or_eq_true, decide_eq_true_eq, List.length_map]
  refine ⟨⟨⟨⟨h, ois_of ts _ fun t => oi_TuI _⟩, ?_⟩, ?_⟩, .inl (.inr ?_)⟩
  · have := deps_of ts (fun t => TuI (F t)) 1 (fun t => dep_TuI _); omega
  · exact all_of ts _ _ fun x => all_of ts _ _ fun y => cmp_TuI _ _
  · rw [List.all_eq_true]
    intro d hd
    obtain ⟨t, ht, rfl⟩ := List.mem_map.mp hd
    have := hF t ht
    cases e : F t with
    | nil => exact absurd e this
    | cons a r => simp only [TuI, List.map_cons, fstI]
def soT {α : Type} (F : α → List Int) (ts : List α) : List α := sortB (fun a b => ltT (TuI (F a)) (TuI (F b))) ts
theorem sorted_Tu {α : Type} (F : α → List Int) (ts : List α) (h : ts.length < 64) (hF : ∀ t ∈ ts, F t ≠ []) : dSorted [.lst (ts.map fun t => TuI (F t))] = some (.lst ((soT F ts).map fun t => TuI (F t))) := by
  simp only [dSorted, sortOk_Tu F ts h hF, if_true]
  rw [sortB_map (f := fun t => TuI (F t))]
  rfl
theorem soT_perm {α : Type} (F : α → List Int) (ts : List α) : (soT F ts).Perm ts := sortB_perm _ _
theorem sort_twice {α : Type} (F : α → List Int) (ts : List α) : sortT ((soT F ts).map fun t => TuI (F t)) = (soT F ts).map fun t => TuI (F t) := by
  have e : (soT F ts).map (fun t => TuI (F t)) = sortT (ts.map fun t => TuI (F t)) := (sortB_map (f := fun t => TuI (F t)) ts).symm
  rw [e]
  exact sort_same (ois_of ts _ fun t => oi_TuI _) (sortT_perm _)
theorem noL_TuI (l : List Int) : (TuI l).noL = true := by simp only [TuI, D.noL]; exact noLs_map _ _ fun x _ => noL_int x
theorem rooms_e {n : Int} {ls : List P2} (I : Lns n ls) (k : Bool) (hl : ls.length ≤ 57) {C : P2 → List Int} {E : P2 → List P2} (hC : ∀ t, isTop n ls t → Ch t.2 (nxt ls t) t.1 (C t) (E t) ∧ (C t).length ≤ 60) :
    m_rooms [.int n, LT k ls] = .ok (.lst ((soT C ((0, n - 1) :: ls)).map fun t => TuI (C t))) := by
  unfold m_rooms g_rooms
  walk_at "dz"
  rw [show dList [LT k ls] = some (.lst (ls.map T2)) by cases k <;> rfl]
  walk_at "dz"
  rw [show dCat (D.lst [D.tup [D.int 0, D.int (n - 1)]]) (D.lst (ls.map T2)) = some (.lst (((0, n - 1) :: ls).map T2)) by
    simp only [dCat]; rw [if_pos (by simp; omega)]; rfl]
  obtain ⟨tops, ht⟩ : ∃ tops : List P2, tops = (0, n - 1) :: ls := ⟨_, rfl⟩
  have hlt : tops.length ≤ 58 := by rw [ht, List.length_cons]; omega
  rw [← ht]
  have kp : keeps true (D.lst (tops.map T2)) = true := by rw [keep_lst]; exact noLs_map _ _ fun x _ => noL_T2 x
  simp only [R.of_some, toS_ok, kp]
  walk_at "dz"
  rw [if_pos (by rw [List.length_map]; omega), compL_map (en := T2) (bs := fun q => [T2 q]) (g := fun q => TuI (C q)) tops (fun x _ => rfl) (fun q hq => by
    unfold h_rooms_0
    walk_at "dz"
    have := hC q (by rw [ht] at hq; exact List.mem_cons.mp hq)
    exact under_e k ls (by omega) q this.1 (by omega))]
  walk_at "dz"
  rw [sorted_Tu C tops (by omega) fun t htt => by
    have := (hC t (by rw [ht] at htt; exact List.mem_cons.mp htt)).1.ends.2
    obtain ⟨m, e⟩ := this
    rw [e]; simp]
  walk_at "dz"
theorem ixT_N {l : List Int} {k : Nat} (h : k < l.length) : dIx (TuI l) (.int (k : Int)) = some (.int (l.getD k 0)) := by
  refine dIx_tn ?_
  rw [List.getElem?_map, List.getElem?_eq_getElem h, List.getD_eq_getElem?_getD, List.getElem?_eq_getElem h]; rfl
theorem ixT_end (xs : List Int) (v : Int) : dIx (TuI (xs ++ [v])) (.int (-1)) = some (.int v) := by
  have : (xs ++ [v]).map D.int = xs.map D.int ++ [D.int v] := by simp
  simp only [TuI, dIx, dOr, dIxS, this, atI_last]
theorem zip_tail : ∀ (l : List Int), (List.range (l.length - 1)).map (fun k => (l.getD k 0, l.getD (k + 1) 0)) = l.zip l.tail
  | [] => rfl
  | [_] => rfl
  | a :: b :: r => by
    have ih := zip_tail (b :: r)
    simp only [List.length_cons, Nat.add_sub_cancel, List.tail_cons] at ih ⊢
    rw [List.range_succ_eq_map, List.map_cons, List.map_map, List.zip_cons_cons]
    congr 1
theorem edges_e {a b : Int} {l m : List Int} (h1 : l = a :: m) {m' : List Int} (h2 : l = m' ++ [b]) (hl : l.length ≤ 1000) (h0 : 1 ≤ l.length) : m__law_edges [TuI l] = .ok (.lst ((l.zip l.tail ++ [(a, b)]).map T2)) := by
  unfold m__law_edges g__law_edges
  walk_at "dz"
  rw [iR1_e ((l.length : Int) - 1) (by omega) (by walk_at "dz"; rw [show dLen [TuI l] = some (.int (l.length : Int)) by simp only [TuI, dLen_t, List.length_map]]; walk_at "dz")]
  walk_at "dz"
  rw [if_pos (by rw [zD_len]; omega)]
  simp only [zD]
  rw [show ((l.length : Int) - 1).toNat = l.length - 1 by omega, compL_map (en := fun (i : Nat) => D.int (0 + (i : Int))) (bs := fun i => [D.int (0 + (i : Int))]) (g := fun i => T2 (l.getD i 0, l.getD (i + 1) 0)) (List.range (l.length - 1)) (fun x _ => rfl) (fun i hi => by
    have := List.mem_range.mp hi
    unfold h__law_edges_0
    walk_at "dz"
    rw [show (0 : Int) + (i : Int) = ((i : Nat) : Int) by omega, show ((i : Nat) : Int) + 1 = ((i + 1 : Nat) : Int) by omega, ixT_N (by omega), ixT_N (by omega)]
    walk_at "dz"
    rfl)]
  simp only [R.bind_ok]
  rw [show (List.range (l.length - 1)).map (fun i => T2 (l.getD i 0, l.getD (i + 1) 0)) = (l.zip l.tail).map T2 by rw [← zip_tail, List.map_map]; rfl]
  generalize hz : l.zip l.tail = zs
  have hzl : zs.length ≤ 1000 := by rw [← hz, List.length_zip]; omega
  have e0 : dIx (TuI l) (.int 0) = some (.int a) := by rw [h1]; exact dIx_t0 _ _
  have e1 : dIx (TuI l) (.int (-1)) = some (.int b) := by rw [h2]; exact ixT_end _ _
  walk_at "dz"
  rw [e0, e1]
  walk_at "dz"
  rw [show D.lst [D.tup [D.int a, D.int b]] = D.lst (([(a, b)] : List P2).map T2) from rfl, cat_T2 _ _ (by simp; omega)]
  walk_at "dz"
def KY (p : P2) : NK := .t [.i p.1, .i p.2]
theorem KY_inj {p q : P2} (h : KY p = KY q) : p = q := by
  simp only [KY, NK.t.injEq, List.cons.injEq, NK.i.injEq, and_true] at h
  exact Prod.ext h.1 h.2
theorem nk_T2 (p : P2) : nkD (.tup [.int p.1, .int p.2]) = some (KY p) := by simp only [nkD, nksD, Option.map_some, KY]
theorem KY_dep (p : P2) : (KY p).dep ≤ 8 := by simp [KY, NK.dep, nkDeps]
def kn (ks : List P2) (g : P2 → Int) : D := .dn (ks.map KY) (ks.map fun f => .int (g f))
theorem kn_congr {ks : List P2} {g g' : P2 → Int} (h : ∀ f ∈ ks, g f = g' f) : kn ks g = kn ks g' := by
  unfold kn; congr 1; exact List.map_congr_left fun f hf => by rw [h f hf]
theorem mem_KY {ks : List P2} {f : P2} : KY f ∈ ks.map KY ↔ f ∈ ks :=
  ⟨fun h => by obtain ⟨x, hx, e⟩ := List.mem_map.mp h; rw [← KY_inj e]; exact hx, fun h => List.mem_map_of_mem h⟩
theorem kn_in (ks : List P2) (g : P2 → Int) (f : P2) : dInN false (T2 f) (kn ks g) = some (.bl (decide (f ∈ ks))) := by
  unfold kn T2
  simp only [dInN, nk_T2, if_pos (KY_dep f), Bool.false_eq_true, if_false]
  congr 2
  exact decide_eq_decide.mpr mem_KY
theorem valN_kn {g : P2 → Int} {f : P2} : ∀ {ks : List P2}, f ∈ ks → valN (ks.map KY) (ks.map fun f => D.int (g f)) (KY f) = some (.int (g f))
  | [], h => by cases h
  | x :: ks, h => by
    unfold valN
    rw [List.map_cons, List.map_cons, List.zip_cons_cons]
    by_cases e : x = f
    · subst e
      rw [List.find?_cons_of_pos (by simp)]; rfl
    · rw [List.find?_cons_of_neg (by simpa using fun z => e (KY_inj z))]
      exact valN_kn ((List.mem_cons.mp h).resolve_left fun z => e z.symm)
theorem kn_ix {ks : List P2} (g : P2 → Int) {f : P2} (h : f ∈ ks) : dIxN (kn ks g) (T2 f) = some (.int (g f)) := by
  unfold kn T2
  simp only [dIxN, nk_T2, if_pos (KY_dep f), valN_kn h]
theorem kn_set {ks : List P2} (g : P2 → Int) {f : P2} (v : Int) (h : f ∈ ks) (hl : ks.length < 1000) : dSetN (kn ks g) (T2 f) (.int v) = some (kn ks fun x => if x = f then v else g x) := by
  unfold kn T2
  simp only [dSetN, nk_T2, List.length_map]
  rw [if_pos ⟨by omega, KY_dep f⟩]
  unfold putKs putV
  rw [if_pos (mem_KY.mpr h), if_pos (mem_KY.mpr h), List.zipWith_map]
  congr 2
  rw [show List.zipWith (fun a b => if KY a = KY f then D.int v else D.int (g b)) ks ks = ks.map fun x => if KY x = KY f then D.int v else D.int (g x) by
    clear h hl
    induction ks with
    | nil => rfl
    | cons a ks ih => simp only [List.zipWith_cons_cons, List.map_cons, ih]]
  refine List.map_congr_left fun x _ => ?_
  by_cases e : x = f
  · rw [if_pos (congrArg KY e), if_pos e]
  · rw [if_neg fun z => e (KY_inj z), if_neg e]
theorem kn_new {ks : List P2} (g : P2 → Int) {f : P2} (v : Int) (h : f ∉ ks) (hl : ks.length < 1000) : dSetN (kn ks g) (T2 f) (.int v) = some (kn (ks ++ [f]) fun x => if x = f then v else g x) := by
  unfold kn T2
  simp only [dSetN, nk_T2, List.length_map]
  rw [if_pos ⟨by omega, KY_dep f⟩]
  unfold putKs putV
  rw [if_neg fun z => h (mem_KY.mp z), if_neg fun z => h (mem_KY.mp z), List.map_append, List.map_append, List.map_cons, List.map_nil, List.map_cons, List.map_nil, if_pos rfl]
  congr 3
  exact List.map_congr_left fun x hx => by rw [if_neg fun z => h (by rw [← z]; exact hx)]
theorem num_all (l : List Int) : compL b1 bYes h__law_room_fits_0 (sel [] []) (l.map D.int) = .ok (l.map fun _ => D.bl true) := by
  refine compL_map (en := D.int) (bs := fun i => [D.int i]) (g := fun _ => D.bl true) l (fun x _ => rfl) fun i _ => ?_
  unfold h__law_room_fits_0
  walk_at "dz"
  rw [num_e]
theorem in_TuI (x : Int) (l : List Int) : dIn false (.int x) (TuI l) = some (.bl (decide (x ∈ l))) := by
  have e : (l.map D.int).any (fun d => eqD d (.int x)) = decide (x ∈ l) := by
    rw [Bool.eq_iff_iff, List.any_map, List.any_eq_true, decide_eq_true_eq]
    constructor
    · rintro ⟨y, hy, e⟩
      simp only [Function.comp, eqD, beq_iff_eq] at e
      rw [← e]; exact hy
    · intro h; exact ⟨x, h, by simp [Function.comp, eqD]⟩
  unfold dIn dOr dInS
  simp only [TuI, D.pl, pls_of l D.int fun _ => rfl, true_and, if_pos (show deps (l.map D.int) ≤ 20 by rw [(ois_ints l).2]; omega), e, Bool.false_eq_true, if_false]
theorem nin_lT2 (p : P2) (ls : List P2) : dIn true (T2 p) (.lst (ls.map T2)) = some (.bl (!decide (p ∈ ls))) := by
  have h1 := deps_of ls T2 1 dep_T2
  have e : (ls.map T2).any (fun e => eqD e (T2 p)) = decide (p ∈ ls) := by
    rw [List.any_map, Bool.eq_iff_iff, List.any_eq_true, decide_eq_true_eq]
    constructor
    · rintro ⟨x, hx, h⟩
      simp only [Function.comp, eqD_T2, decide_eq_true_eq] at h
      rw [← h]; exact hx
    · intro h; exact ⟨p, h, by simp only [Function.comp, eqD_T2, decide_true]⟩
  unfold dIn dOr dInS
  simp only [pl_T2, pls_of ls T2 pl_T2, true_and, if_pos (show deps (ls.map T2) ≤ 20 by omega), e, if_true]
theorem fits_b (a1 a2 a3 : Sl) (C : List Int) (es : List P2) (l : P2) (h : l.1 ∈ C → l.2 ∈ C → l ∈ es) : h__law_room_fits_3 [.im (TuI C), a1, a2, a3, .ow (.lst (es.map T2)), .im (T2 l)] = .nx [.im (TuI C), a1, a2, a3, .ow (.lst (es.map T2)), .im (T2 l)] := by
  unfold h__law_room_fits_3
  walk_at "dz"
  rw [in_TuI, in_TuI, nin_lT2]
  walk_at "dz"
  have : (decide (l.1 ∈ C) && (decide (l.2 ∈ C) && !decide (l ∈ es))) = false := by
    by_cases h1 : l.1 ∈ C
    · by_cases h2 : l.2 ∈ C
      · rw [decide_eq_true (h h1 h2)]; simp
      · rw [decide_eq_false h2]; simp
    · rw [decide_eq_false h1]; simp
  rw [this]
  walk_at "dz"
theorem fits_e {C : List Int} {a b n : Int} {m m' : List Int} (h1 : C = a :: m) (h2 : C = m' ++ [b]) (hl : C.length ≤ 60) (h3 : 3 ≤ C.length) (ha : 0 ≤ a) (hb : b < n) {es : List P2} (he : es = C.zip C.tail ++ [(a, b)])
    (hr : ∀ e ∈ es, e.1 < e.2) {ks : List P2} (g : P2 → Int) (hk : ∀ e ∈ es, e ∈ ks) {xs : List P2} (hx : ∀ l ∈ xs, l.1 ∈ C → l.2 ∈ C → l ∈ es) (hxl : xs.length ≤ 1000) :
    m__law_room_fits [TuI C, .int n, .lst (xs.map T2), kn ks g] = .ok (.bl true) := by
  have hes : es.length ≤ 1000 := by rw [he, List.length_append, List.length_zip]; simp; omega
  have ed := edges_e h1 h2 (by omega) (by omega)
  rw [← he] at ed
  have t0 : dIsi "tuple" (TuI C) = some (.bl true) := isi_tt _
  have t1 : dLen [TuI C] = some (.int (C.length : Int)) := by simp only [TuI, dLen_t, List.length_map]
  have t2 : items (TuI C) = some (C.map D.int) := rfl
  have e0 : dIx (TuI C) (.int 0) = some (.int a) := by rw [h1]; exact dIx_t0 _ _
  have e1 : dIx (TuI C) (.int (-1)) = some (.int b) := by rw [h2]; exact ixT_end _ _
  unfold m__law_room_fits g__law_room_fits
  walk_at "dz"
  rw [t0, t1, t2]
  walk_at "dz"
  rw [decide_eq_false (show ¬ (C.length : Int) < 3 by omega)]
  walk_at "dz"
  rw [if_pos (by rw [List.length_map]; omega), show ([] : DE) = sel [] [] from rfl, num_all]
  walk_at "dz"
  rw [all_map _ (fun _ => true), show C.all (fun _ => true) = true by simp]
  walk_at "dz"
  rw [e0, e1]
  walk_at "dz"
  rw [decide_eq_false (show ¬ a < 0 by omega), decide_eq_false (show ¬ n ≤ b by omega)]
  walk_at "dz"
  rw [ed]
  walk_at "dz"
  rw [if_pos (by rw [List.length_map]; omega), compL_map (en := T2) (bs := fun q => [D.int q.1, D.int q.2]) (g := fun q => D.bl (decide (q.1 < q.2))) es (fun x _ => rfl) (fun q _ => by
    unfold h__law_room_fits_1
    walk_at "dz")]
  walk_at "dz"
  rw [all_map _ (fun q : P2 => decide (q.1 < q.2)), show es.all (fun q : P2 => decide (q.1 < q.2)) = true by rw [List.all_eq_true]; intro q hq; exact decide_eq_true (hr q hq)]
  walk_at "dz"
  rw [ed]
  walk_at "dz"
  rw [if_pos (by rw [List.length_map]; omega), compL_map (en := T2) (bs := fun q => [T2 q]) (g := fun q => D.bl (decide (q ∈ ks))) es (fun x _ => rfl) (fun q _ => by
    unfold h__law_room_fits_2
    walk_at "dz"
    rw [kn_in]
    walk_at "dz")]
  walk_at "dz"
  rw [all_map _ (fun q : P2 => decide (q ∈ ks)), show es.all (fun q : P2 => decide (q ∈ ks)) = true by rw [List.all_eq_true]; intro q hq; exact decide_eq_true (hk q hq)]
  walk_at "dz"
  obtain ⟨ρ', e, _, s5, hρ⟩ := forL_inv (tg := .n 5) (g := h__law_room_fits_3) (en := T2)
    (fun r ρ => (∀ l ∈ r, l ∈ xs) ∧ ∃ s5 : Sl, ρ = [.im (TuI C), .im (.int n), .im (.lst (xs.map T2)), .im (kn ks g), .ow (.lst (es.map T2)), s5])
    xs [.im (TuI C), .im (.int n), .im (.lst (xs.map T2)), .im (kn ks g), .ow (.lst (es.map T2)), .em] ⟨fun l h => h, _, rfl⟩ (by
      rintro x r ρ ⟨hx', s5, rfl⟩
      exact ⟨_, _, rfl, Or.inl (fits_b _ _ _ C es x (hx x (hx' x (by simp)))), fun l h => hx' l (by simp [h]), _, rfl⟩)
  rw [e, hρ]
  walk_at "dz"
def kN (ps : List Int) : NK := .t (ps.map NK.i)
theorem nks_map : ∀ ps : List Int, nksD (ps.map D.int) = some (ps.map NK.i)
  | [] => by simp only [List.map_nil, nksD]
  | p :: ps => by simp only [List.map_cons, nksD, nkD, nks_map ps]
theorem nk_tup (ps : List Int) : nkD (.tup (ps.map D.int)) = some (kN ps) := by simp only [nkD, nks_map, Option.map_some, kN]
theorem nkDeps_i : ∀ ps : List Int, nkDeps (ps.map NK.i) = 0
  | [] => by simp only [List.map_nil, nkDeps]
  | p :: ps => by simp only [List.map_cons, nkDeps, nkDeps_i ps, NK.dep, Nat.max_self]
theorem kN_dep (ps : List Int) : (kN ps).dep ≤ 8 := by simp only [kN, NK.dep, nkDeps_i]; decide
theorem map_i_inj : ∀ {a b : List Int}, a.map NK.i = b.map NK.i → a = b
  | [], [], _ => rfl
  | [], _ :: _, h => by simp at h
  | _ :: _, [], h => by simp at h
  | x :: a, y :: b, h => by
    simp only [List.map_cons, List.cons.injEq, NK.i.injEq] at h
    rw [h.1, map_i_inj h.2]
theorem kN_inj {a b : List Int} (h : kN a = kN b) : a = b := map_i_inj (NK.t.inj h)
theorem nks_Tu : ∀ S : List (List Int), nksD (S.map TuI) = some (S.map kN)
  | [] => by simp only [List.map_nil, nksD]
  | x :: S => by simp only [List.map_cons, nksD, nks_Tu S]; rw [show nkD (TuI x) = some (kN x) from nk_tup x]
theorem ls_e {S : List (List Int)} (nd : S.Nodup) (h : S.length ≤ 63) : dLS [.lst (S.map TuI)] = some (.int (S.length : Int)) := by
  have c1 : (S.map kN).Nodup := by
    unfold List.Nodup at *
    rw [List.pairwise_map]
    exact nd.imp fun z e => z (kN_inj e)
  have c2 : (S.map kN).length ≤ 64 := by rw [List.length_map]; omega
  have c3 : ∀ k ∈ S.map kN, k.dep ≤ 8 := fun k hk => by
    obtain ⟨x, _, rfl⟩ := List.mem_map.mp hk
    exact kN_dep x
  have c4 : (S.map TuI).all isTup2 = true := by
    rw [List.all_eq_true]
    intro d hd
    obtain ⟨x, _, rfl⟩ := List.mem_map.mp hd
    rfl
  simp only [dLS, nks_Tu]
  rw [if_pos ⟨c1, c2, c3, c4⟩, List.length_map]
theorem seq_nx {a r : DS → SR} {ρ ρ' : DS} (h : a ρ = .nx ρ') : sSeq a r ρ = r ρ' := by rw [sSeq_e, h, thn_nx]
theorem sl_ff (s : Sl) : Sl.frz false s = s := by cases s <;> rfl
theorem keep_kn (ks : List P2) (g : P2 → Int) : keeps true (kn ks g) = true := by
  simp only [keeps, kn, D.shal, if_true]; exact noLs_map _ _ fun x _ => noL_int _
theorem law_b0 (a0 a1 a2 a3 a4 a6 a7 a8 a9 a10 : Sl) {ks : List P2} (g : P2 → Int) {f : P2} (h : f ∈ ks) (hl : ks.length < 1000) :
    h_law_2 [a0, a1, a2, a3, a4, .ow (kn ks g), a6, a7, a8, a9, a10, .im (T2 f)] = .nx [a0, a1, a2, a3, a4, .ow (kn ks fun x => if x = f then g f - 1 else g x), a6, a7, a8, a9, a10, .im (T2 f)] := by
  unfold h_law_2
  walk_at "dz"
  rw [kn_ix g h]
  walk_at "dz"
  simp only [show keeps false (T2 f) = true from noL_T2 f]
  walk_at "dz"
  rw [kn_set g _ h hl]
  walk_at "dz"
theorem law_b1 (a0 a1 a3 a6 a7 a8 a9 s11 : Sl) {n : Int} {xs : List P2} {C : List Int} {a b : Int} {m m' : List Int} (h1 : C = a :: m) (h2 : C = m' ++ [b]) (hl : C.length ≤ 60) (h3 : 3 ≤ C.length) (ha : 0 ≤ a) (hb : b < n) {es : List P2} (he : es = C.zip C.tail ++ [(a, b)])
    (hr : ∀ e ∈ es, e.1 < e.2) {ks : List P2} (hkl : ks.length < 1000) (g : P2 → Int) (hk : ∀ e ∈ es, e ∈ ks) (hx : ∀ l ∈ xs, l.1 ∈ C → l.2 ∈ C → l ∈ es) (hxl : xs.length ≤ 1000) :
    ∃ (g' : P2 → Int) (s : Sl), (∀ f ∈ ks, g' f = g f - es.count f) ∧ h_law_3 [a0, a1, .im (.int n), a3, .im (.lst (xs.map T2)), .ow (kn ks g), a6, a7, a8, a9, .im (TuI C), s11] =
      .nx [a0, a1, .im (.int n), a3, .im (.lst (xs.map T2)), .ow (kn ks g'), a6, a7, a8, a9, .im (TuI C), s] := by
  unfold h_law_3
  walk_at "dz"
  rw [fits_e h1 h2 hl h3 ha hb he hr g hk hx hxl]
  walk_at "dz"
  have ed := edges_e h1 h2 (by omega) (by omega)
  rw [← he] at ed
  rw [ed]
  walk_at "dz"
  simp only [sl_ff]
  obtain ⟨ρ', e, _, g', s, hg, hρ⟩ := forL_inv (tg := .n 11) (g := h_law_2) (en := T2)
    (fun r ρ => (∀ f ∈ r, f ∈ ks) ∧ ∃ (g' : P2 → Int) (s : Sl), (∀ f ∈ ks, g' f = g f - es.count f + r.count f) ∧ ρ = [a0, a1, .im (.int n), a3, .im (.lst (xs.map T2)), .ow (kn ks g'), a6, a7, a8, a9, .im (TuI C), s])
    es [a0, a1, .im (.int n), a3, .im (.lst (xs.map T2)), .ow (kn ks g), a6, a7, a8, a9, .im (TuI C), s11] ⟨hk, g, _, fun f _ => by omega, rfl⟩ (by
      rintro x r ρ ⟨hr', g', s, hg, rfl⟩
      refine ⟨_, _, rfl, Or.inl (law_b0 _ _ _ _ _ _ _ _ _ _ g' (hr' x (by simp)) hkl), fun f hf => hr' f (by simp [hf]), _, _, fun f hf => ?_, rfl⟩
      have := hg f hf
      rw [List.count_cons] at this
      by_cases q : f = x
      · subst q
        rw [if_pos (by simp)] at this
        rw [if_pos rfl]; omega
      · rw [if_neg (by simpa using fun z => q z.symm)] at this
        rw [if_neg q]; omega)
  rw [e, hρ]
  refine ⟨g', s, fun f hf => ?_, rfl⟩
  have := hg f hf
  simpa using this
def sds (k : Nat) : List P2 := (List.range k).map fun (i : Nat) => ((i : Int), (i : Int) + 1)
theorem mem_sds {k : Nat} {f : P2} : f ∈ sds k ↔ f.2 = f.1 + 1 ∧ 0 ≤ f.1 ∧ f.1 < k := by
  unfold sds
  rw [List.mem_map]
  constructor
  · rintro ⟨i, hi, e⟩
    have := List.mem_range.mp hi
    obtain ⟨a, b⟩ := f
    simp only [Prod.mk.injEq] at e ⊢
    omega
  · rintro ⟨h1, h2, h3⟩
    exact ⟨f.1.toNat, List.mem_range.mpr (by omega), Prod.ext (by simp only; omega) (by simp only; omega)⟩
theorem law_c0 (a0 a1 a2 a3 a4 a7 a8 a9 a10 a11 : Sl) {ks : List P2} (g : P2 → Int) (c : Int) (h : (c, c + 1) ∉ ks) (hl : ks.length < 1000) :
    h_law_0 [a0, a1, a2, a3, a4, .ow (kn ks g), .im (.int c), a7, a8, a9, a10, a11] = .nx [a0, a1, a2, a3, a4, .ow (kn (ks ++ [(c, c + 1)]) fun x => if x = (c, c + 1) then 1 else g x), .im (.int c), a7, a8, a9, a10, a11] := by
  unfold h_law_0
  walk_at "dz"
  rw [show D.tup [D.int c, D.int (c + 1)] = T2 (c, c + 1) from rfl, kn_new g _ h hl]
  walk_at "dz"
theorem law_c1 (a0 a1 a2 a3 a4 a6 a8 a9 a10 a11 : Sl) {ks : List P2} (g : P2 → Int) (f : P2) (h : f ∉ ks) (hl : ks.length < 1000) :
    h_law_1 [a0, a1, a2, a3, a4, .ow (kn ks g), a6, .im (T2 f), a8, a9, a10, a11] = .nx [a0, a1, a2, a3, a4, .ow (kn (ks ++ [f]) fun x => if x = f then 2 else g x), a6, .im (T2 f), a8, a9, a10, a11] := by
  unfold h_law_1
  walk_at "dz"
  simp only [show keeps false (T2 f) = true from noL_T2 f]
  walk_at "dz"
  rw [kn_new g _ h hl]
  walk_at "dz"
noncomputable abbrev l0 : DS → SR := (sAsg true 1 [true] (eCall m__law_stream (eCons (eSl dSl (eVar 0) (oSo (eC (.int 2))) oNo) (eCons (eCall m__law_many (eCons (eVar 0) eNil)) eNil))))
noncomputable abbrev l1 : DS → SR := (sUnp (.t [2, 3]) [false, true] (eCall m__law_grown (eCons (eVar 1) eNil)))
noncomputable abbrev l2 : DS → SR := (sAsg true 4 [true, true, false, true] (eCall m__law_some (eCons (eVar 1) (eCons (eVar 3) (eCons (eOp dAddI (eC (.int 1)) (eOp dMod (eCall m__law_pick (eCons (eVar 0) (eCons (eC (.int 1)) eNil))) (eC (.int 4)))) eNil)))))
noncomputable abbrev l3 : DS → SR := (sAsg true 5 [false, false, true] (eDisp1 (eTup (eCons (eC (.int 0)) (eCons (eOp dSub (eVar 2) (eC (.int 1))) eNil))) (eC (.int 1))))
noncomputable abbrev l4 : DS → SR := (sFor true [false, false, true] (iR1d (eCons (eOp dSub (eVar 2) (eC (.int 1))) eNil)) (.n 6) h_law_0)
noncomputable abbrev l5 : DS → SR := (sFor false [false, false, false, false, true] (iL (eVar 4)) (.n 7) h_law_1)
noncomputable abbrev l6 : DS → SR := (sAsg true 8 [false, false, false, false, true] (eCB dList (eCons (eVar 4) eNil)))
noncomputable abbrev l7 : DS → SR := (sIf (bVal asB (eOp dEq (eOp dMod (eOp dDiv (eCall m__law_pick (eCons (eVar 0) (eCons (eC (.int 1)) eNil))) (eC (.int 4))) (eC (.int 2))) (eC (.int 0)))) (sAsg true 9 [false, false, true, false, false, false, false, false, true] (eCall m_rooms (eCons (eVar 2) (eCons (eVar 8) eNil)))) (sAsg true 9 [false, false, true, false, true] (eCall m_rooms (eCons (eVar 2) (eCons (eCB dTuple (eCons (eVar 4) eNil)) eNil)))))
noncomputable abbrev l8 : DS → SR := (sIf (bOr (bNot (bVal dTru (eUn (dIsi "list") (eVar 9)))) (bOr (bVal asB (eOp dNe (eCB dLen (eCons (eVar 9) eNil)) (eOp dAddI (eCB dLen (eCons (eVar 4) eNil)) (eC (.int 1))))) (bVal asB (eOp dNe (eVar 8) (eVar 4))))) (sRet [] (eC (.bl false))) sNx)
noncomputable abbrev l9 : DS → SR := (sFor false [false, false, false, false, false, false, false, false, false, true] (iL (eVar 9)) (.n 10) h_law_3)
noncomputable abbrev l10 : DS → SR := (sIf (bOr (bVal asB (eOp dNe (eVar 9) (eCB dSorted (eCons (eVar 9) eNil)))) (bVal asB (eOp dNe (eLS (eCons (eVar 9) eNil)) (eCB dLen (eCons (eVar 9) eNil))))) (sRet [] (eC (.bl false))) sNx)
noncomputable abbrev l11 : DS → SR := (sRet [false, false, false, false, false, true] (eCB dAll (eCons (eComp (iVaD (eVar 5)) b1 [] bYes h_law_4) eNil)))
theorem disp_e (n : Int) (r : DE) (a b : Option D) : eDisp1 (eTup (eCons (eC (.int 0)) (eCons (eOp dSub (eVar 2) (eC (.int 1))) eNil))) (eC (.int 1)) (a :: b :: some (.int n) :: r) = .ok (kn [(0, n - 1)] fun _ => 1) := by
  unfold eDisp1
  walk_at "dz"
  rw [show D.tup [D.int 0, D.int (n - 1)] = T2 (0, n - 1) from rfl]
  simp only [T2, nk_T2, if_pos (KY_dep _), R.of_some]
  rfl
theorem st4 (a0 a1 a3 a4 : Sl) {n : Int} (h3 : 3 ≤ n) (hn : n ≤ 60) : ∃ s, l4 [a0, a1, .im (.int n), a3, a4, .ow (kn [(0, n - 1)] fun _ => 1), .em, .em, .em, .em, .em, .em] =
    .nx [a0, a1, .im (.int n), a3, a4, .ow (kn ((0, n - 1) :: sds (n - 1).toNat) fun _ => 1), s, .em, .em, .em, .em, .em] := by
  show ∃ s, sFor _ _ _ _ _ _ = _
  unfold sFor
  walk_at "dz"
  rw [iR1_e (n - 1) (by omega) (by walk_at "dz")]
  walk_at "dz"
  simp only [zD]
  obtain ⟨ρ', e, s, hρ⟩ := forL_rng (tg := .n 6) (g := h_law_0) (n - 1).toNat (fun (i : Nat) => D.int (0 + (i : Int)))
    (fun k ρ => ∃ s : Sl, ρ = [a0, a1, .im (.int n), a3, a4, .ow (kn ((0, n - 1) :: sds k) fun _ => 1), s, .em, .em, .em, .em, .em])
    [a0, a1, .im (.int n), a3, a4, .ow (kn [(0, n - 1)] fun _ => 1), .em, .em, .em, .em, .em, .em] ⟨_, rfl⟩ (by
      rintro i hi ρ ⟨s, rfl⟩
      have e0 : (0 : Int) + (i : Int) = (i : Int) := by omega
      have hnot : ((i : Int), (i : Int) + 1) ∉ ((0, n - 1) :: sds i) := fun h => by
        rcases List.mem_cons.mp h with z | z
        · have z1 := congrArg Prod.fst z
          have z2 := congrArg Prod.snd z
          simp only at z1 z2
          omega
        · have := mem_sds.mp z; simp only at this; omega
      refine ⟨_, _, rfl, Or.inl (law_c0 _ _ _ _ _ _ _ _ _ _ (fun _ => 1) (0 + (i : Int)) (by rw [e0]; exact hnot) (by simp [sds]; omega)), .im (.int (0 + (i : Int))), ?_⟩
      rw [e0, show ((0, n - 1) :: sds i) ++ [((i : Int), (i : Int) + 1)] = (0, n - 1) :: sds (i + 1) by unfold sds; rw [List.range_succ, List.map_append]; rfl]
      rw [kn_congr (g' := fun _ => 1) fun f _ => by split <;> rfl])
  rw [e, hρ]
  exact ⟨s, rfl⟩
theorem st5 (a0 a1 a2 a3 a6 : Sl) {n : Int} {xs : List P2} (J : Lns n xs) (hn : n ≤ 60) (hxl : xs.length ≤ 57) : ∃ s, l5 [a0, a1, a2, a3, .ow (.lst (xs.map T2)), .ow (kn ((0, n - 1) :: sds (n - 1).toNat) fun _ => 1), a6, .em, .em, .em, .em, .em] =
    .nx [a0, a1, a2, a3, .im (.lst (xs.map T2)), .ow (kn ((0, n - 1) :: sds (n - 1).toNat ++ xs) fun f => if f ∈ xs then 2 else 1), a6, s, .em, .em, .em, .em] := by
  have h3 := J.n3
  have hk0 : ∀ f ∈ (0, n - 1) :: sds (n - 1).toNat, f ∉ xs := fun f hf hx => by
    have := J.lin f.1 f.2 hx
    rcases List.mem_cons.mp hf with z | z
    · exact this.2.2.2 ⟨by rw [z], by rw [z]⟩
    · have := mem_sds.mp z; omega
  have hkl : ((0, n - 1) :: sds (n - 1).toNat).length ≤ 61 := by simp [sds]; omega
  show ∃ s, sFor _ _ _ _ _ _ = _
  unfold sFor
  walk_at "dz"
  simp only [sl_ff]
  rw [kn_congr (g' := fun f => if f ∈ xs then 2 else 1) fun f hf => by rw [if_neg (hk0 f hf)]]
  generalize hK : (0, n - 1) :: sds (n - 1).toNat = K0 at *
  obtain ⟨ρ', e, d, s, hd, hρ⟩ := forL_inv (tg := .n 7) (g := h_law_1) (en := T2)
    (fun r ρ => ∃ (d : List P2) (s : Sl), d ++ r = xs ∧ ρ = [a0, a1, a2, a3, .im (.lst (xs.map T2)), .ow (kn (K0 ++ d) fun f => if f ∈ xs then 2 else 1), a6, s, .em, .em, .em, .em])
    xs [a0, a1, a2, a3, .im (.lst (xs.map T2)), .ow (kn K0 fun f => if f ∈ xs then 2 else 1), a6, .em, .em, .em, .em, .em] ⟨[], _, rfl, by rw [List.append_nil]⟩ (by
      rintro x r ρ ⟨d, s, hd, rfl⟩
      have hxm : x ∈ xs := by rw [← hd]; simp
      have hnd := J.nd
      rw [← hd, List.nodup_append] at hnd
      have hnot : x ∉ K0 ++ d := fun h => by
        rcases List.mem_append.mp h with z | z
        · exact hk0 x z hxm
        · exact hnd.2.2 x z x (by simp) rfl
      have hdl : d.length ≤ 57 := by have := congrArg List.length hd; simp at this; omega
      refine ⟨_, _, rfl, Or.inl (law_c1 _ _ _ _ _ _ _ _ _ _ _ x hnot (by simp; omega)), d ++ [x], .im (T2 x), by rw [← hd]; simp, ?_⟩
      rw [List.append_assoc, kn_congr (g' := fun f => if f ∈ xs then 2 else 1) fun f _ => by
        by_cases z : f = x
        · rw [if_pos z, z, if_pos hxm]
        · rw [if_neg z]])
  rw [List.append_nil] at hd
  rw [e, hρ, hd, ← hK]
  exact ⟨s, rfl⟩
theorem perm_sum {α : Type} {φ : α → Nat} {a b : List α} (p : a.Perm b) : (a.map φ).sum = (b.map φ).sum := (p.map φ).sum_nat
theorem law_true (ns : List Int) (hns : ns.length ≤ 63) : m_law [.scr ns] = .ok (.bl true) := by
  obtain ⟨m, hm, em⟩ := many_e ns
  obtain ⟨st, hst, es⟩ := stream_e (cutL ns (some 2) none) m hm
  obtain ⟨n, ls, T, I, hn, hl, eg⟩ := grown_e st (by omega)
  have y0 : 0 ≤ ns.getD 1 0 % 4 := Int.emod_nonneg _ (by decide)
  have y1 : ns.getD 1 0 % 4 < 4 := Int.emod_lt_of_pos _ (by decide)
  obtain ⟨xs, nd, hx, hxl, ex⟩ := some_e st ls I.nd (1 + ns.getD 1 0 % 4) (by omega) (by omega) (by omega) (by omega)
  have J := lns_of I nd hx
  have h3 := J.n3
  have hn60 : n ≤ 60 := by omega
  obtain ⟨C, E, hC⟩ := rooms_ex J hn60
  have pk1 := pick_e ns 1 (by omega)
  rw [show (1 : Int).toNat = 1 from rfl] at pk1
  obtain ⟨tops, ht⟩ : ∃ tops : List P2, tops = (0, n - 1) :: xs := ⟨_, rfl⟩
  have hlt : tops.length = xs.length + 1 := by rw [ht, List.length_cons]
  have mt : ∀ t, t ∈ tops ↔ isTop n xs t := fun t => by rw [ht]; exact List.mem_cons
  obtain ⟨ks, hks⟩ : ∃ ks : List P2, ks = (0, n - 1) :: sds (n - 1).toNat ++ xs := ⟨_, rfl⟩
  have hkl : ks.length < 1000 := by rw [hks]; simp [sds]; omega
  have mk : ∀ f, f ∈ ks ↔ f = (0, n - 1) ∨ isIn n xs f := fun f => by
    rw [hks, List.mem_append, List.mem_cons]
    unfold isIn
    rw [mem_sds]
    constructor
    · rintro ((z | z) | z)
      · exact .inl z
      · exact .inr (.inr ⟨z.1, z.2.1, by omega⟩)
      · exact .inr (.inl z)
    · rintro (z | z | z)
      · exact .inl (.inl z)
      · exact .inr z
      · exact .inl (.inr ⟨z.1, z.2.1, by omega⟩)
  have s0 : l0 [.im (.scr ns), .em, .em, .em, .em, .em, .em, .em, .em, .em, .em, .em] = .nx [.im (.scr ns), .ow (L st), .em, .em, .em, .em, .em, .em, .em, .em, .em, .em] := by
    show sAsg _ _ _ _ _ = _
    walk_at "dz"
    rw [em]
    walk_at "dz"
    rw [es]
    walk_at "dz"
  have s1 : l1 [.im (.scr ns), .ow (L st), .em, .em, .em, .em, .em, .em, .em, .em, .em, .em] = .nx [.im (.scr ns), .im (L st), .im (.int n), .im (.lst (ls.map T2)), .em, .em, .em, .em, .em, .em, .em, .em] := by
    show sUnp _ _ _ _ = _
    walk_at "dz"
    rw [eg]
    walk_at "dz"
  have s2 : l2 [.im (.scr ns), .im (L st), .im (.int n), .im (.lst (ls.map T2)), .em, .em, .em, .em, .em, .em, .em, .em] = .nx [.im (.scr ns), .im (L st), .im (.int n), .im (.lst (ls.map T2)), .ow (.lst (xs.map T2)), .em, .em, .em, .em, .em, .em, .em] := by
    show sAsg _ _ _ _ _ = _
    walk_at "dz"
    rw [pk1]
    walk_at "dz"
    rw [mod_p (by omega)]
    walk_at "dz"
    rw [ex]
    walk_at "dz"
  have s3 : l3 [.im (.scr ns), .im (L st), .im (.int n), .im (.lst (ls.map T2)), .ow (.lst (xs.map T2)), .em, .em, .em, .em, .em, .em, .em] = .nx [.im (.scr ns), .im (L st), .im (.int n), .im (.lst (ls.map T2)), .ow (.lst (xs.map T2)), .ow (kn [(0, n - 1)] fun _ => 1), .em, .em, .em, .em, .em, .em] := by
    show sAsg _ _ _ _ _ = _
    rw [sAsg_e]
    simp only [vis_c, vis_0, vis_n]
    simp only [see_im]
    rw [disp_e, toS_ok, keep_kn]
    walk_at "dz"
  obtain ⟨c6, s4⟩ := st4 (.im (.scr ns)) (.im (L st)) (.im (.lst (ls.map T2))) (.ow (.lst (xs.map T2))) h3 hn60
  obtain ⟨c7, s5⟩ := st5 (.im (.scr ns)) (.im (L st)) (.im (.int n)) (.im (.lst (ls.map T2))) c6 J hn60 hxl
  rw [← hks] at s5
  have s6 : l6 [.im (.scr ns), .im (L st), .im (.int n), .im (.lst (ls.map T2)), .im (.lst (xs.map T2)), .ow (kn ks fun f => if f ∈ xs then 2 else 1), c6, c7, .em, .em, .em, .em] = .nx [.im (.scr ns), .im (L st), .im (.int n), .im (.lst (ls.map T2)), .im (.lst (xs.map T2)), .ow (kn ks fun f => if f ∈ xs then 2 else 1), c6, c7, .ow (.lst (xs.map T2)), .em, .em, .em] := by
    show sAsg _ _ _ _ _ = _
    walk_at "dz"
  obtain ⟨F, hF⟩ : ∃ F : List D, F = (soT C tops).map fun t => TuI (C t) := ⟨_, rfl⟩
  have nF : noLs F = true := by rw [hF]; exact noLs_map _ _ fun t _ => noL_TuI _
  have r1 : ∀ k, m_rooms [.int n, LT k xs] = .ok (.lst F) := fun k => by rw [rooms_e J k hxl hC, ← ht, ← hF]
  have s7 : l7 [.im (.scr ns), .im (L st), .im (.int n), .im (.lst (ls.map T2)), .im (.lst (xs.map T2)), .ow (kn ks fun f => if f ∈ xs then 2 else 1), c6, c7, .ow (.lst (xs.map T2)), .em, .em, .em] = .nx [.im (.scr ns), .im (L st), .im (.int n), .im (.lst (ls.map T2)), .im (.lst (xs.map T2)), .ow (kn ks fun f => if f ∈ xs then 2 else 1), c6, c7, .ow (.lst (xs.map T2)), .ow (.lst F), .em, .em] := by
    have ra := r1 true
    have rb := r1 false
    simp only [LT, if_true, Bool.false_eq_true, if_false] at ra rb
    show sIf _ _ _ _ = _
    walk_at "dz"
    rw [pk1]
    walk_at "dz"
    rw [div_p (by omega)]
    walk_at "dz"
    rw [mod_p (by omega)]
    walk_at "dz"
    generalize decide (ns.getD 1 0 / 4 % 2 = 0) = b
    cases b with
    | true =>
      walk_at "dz"
      rw [ra]
      walk_at "dz"
      rw [nF]
      walk_at "dz"
    | false =>
      walk_at "dz"
      rw [rb]
      walk_at "dz"
      rw [nF]
      walk_at "dz"
  have lF : F.length = xs.length + 1 := by rw [hF, List.length_map, (soT_perm C tops).length_eq, hlt]
  have s8 : l8 [.im (.scr ns), .im (L st), .im (.int n), .im (.lst (ls.map T2)), .im (.lst (xs.map T2)), .ow (kn ks fun f => if f ∈ xs then 2 else 1), c6, c7, .ow (.lst (xs.map T2)), .ow (.lst F), .em, .em] = .nx [.im (.scr ns), .im (L st), .im (.int n), .im (.lst (ls.map T2)), .im (.lst (xs.map T2)), .ow (kn ks fun f => if f ∈ xs then 2 else 1), c6, c7, .ow (.lst (xs.map T2)), .ow (.lst F), .em, .em] := by
    show sIf _ _ _ _ = _
    walk_at "dz"
    rw [lF, List.length_map, ne_self' (pl_lT2 xs).1 (pl_lT2 xs).2, show decide (((xs.length + 1 : Nat) : Int) = (xs.length : Int) + 1) = true from decide_eq_true (by omega)]
    walk_at "dz"
  obtain ⟨c10, c11, s9⟩ : ∃ c10 c11, l9 [.im (.scr ns), .im (L st), .im (.int n), .im (.lst (ls.map T2)), .im (.lst (xs.map T2)), .ow (kn ks fun f => if f ∈ xs then 2 else 1), c6, c7, .ow (.lst (xs.map T2)), .ow (.lst F), .em, .em] = .nx [.im (.scr ns), .im (L st), .im (.int n), .im (.lst (ls.map T2)), .im (.lst (xs.map T2)), .ow (kn ks fun _ => 0), c6, c7, .ow (.lst (xs.map T2)), .im (.lst F), c10, c11] := by
    show ∃ c10 c11, sFor _ _ _ _ _ _ = _
    unfold sFor
    walk_at "dz"
    simp only [sl_ff]
    have e0 := hF
    obtain ⟨ρ', e, _, g, c10, c11, hg, hρ⟩ := forL_inv (tg := .n 10) (g := h_law_3) (en := fun t => TuI (C t))
      (fun r ρ => (∀ t ∈ r, t ∈ tops) ∧ ∃ (g : P2 → Int) (c10 c11 : Sl), (∀ f ∈ ks, g f = ((r.map fun t => (E t ++ [t]).count f).sum : Nat)) ∧ ρ = [.im (.scr ns), .im (L st), .im (.int n), .im (.lst (ls.map T2)), .im (.lst (xs.map T2)), .ow (kn ks g), c6, c7, .ow (.lst (xs.map T2)), .im (.lst F), c10, c11])
      (soT C tops) [.im (.scr ns), .im (L st), .im (.int n), .im (.lst (ls.map T2)), .im (.lst (xs.map T2)), .ow (kn ks fun f => if f ∈ xs then 2 else 1), c6, c7, .ow (.lst (xs.map T2)), .im (.lst F), .em, .em]
      ⟨fun t h => (soT_perm C tops).mem_iff.mp h, _, _, _, fun f hf => by
        rw [perm_sum (soT_perm C tops), ht, J.twice (fun t _ => nx_of J t) C E (fun t h => (hC t h).1) ((mk f).mp hf)]
        split <;> rfl, rfl⟩ (by
        rintro t r ρ ⟨hr, g, c10, c11, hg, rfl⟩
        have tt : isTop n xs t := (mt t).mp (hr t (by simp))
        obtain ⟨Z, zl⟩ := hC t tt
        obtain ⟨q1, q2, q3, q4, q5⟩ := J.room tt (nx_of J t) Z
        have tb := J.top (a := t.1) (b := t.2) tt
        obtain ⟨⟨m', e2⟩, m, e1⟩ := Z.ends
        have ez := Z.zip
        obtain ⟨g', s, hg', e⟩ := law_b1 (.im (.scr ns)) (.im (L st)) (.im (.lst (ls.map T2))) c6 c7 (.ow (.lst (xs.map T2))) (.im (.lst F)) c11 (n := n) e1 e2 zl q1 tb.1 (by omega) (es := E t ++ [t]) (by rw [ez]) (fun f hf => by
            rcases List.mem_append.mp hf with z | z
            · exact (q4 f z).2
            · rw [List.mem_singleton.mp z]; omega) hkl g (fun f hf => by
            rcases List.mem_append.mp hf with z | z
            · exact (mk f).mpr (.inr (q4 f z).1)
            · rw [List.mem_singleton.mp z]
              rcases tt with z | z
              · exact (mk t).mpr (.inl z)
              · exact (mk t).mpr (.inr (.inl z))) (fun l hl h1 h2 => by
            rcases q5 l.1 l.2 hl h1 h2 with z | z
            · exact List.mem_append_left _ z
            · rw [show l = t from z]; simp) (by omega)
        refine ⟨_, _, rfl, Or.inl e, fun u hu => hr u (by simp [hu]), g', _, _, fun f hf => ?_, rfl⟩
        have a1 := hg f hf
        have a2 := hg' f hf
        rw [List.map_cons, List.sum_cons] at a1
        omega)
    rw [hF] at e ⊢
    rw [e, hρ, ← hF]
    refine ⟨c10, c11, ?_⟩
    rw [kn_congr (g' := fun _ => 0) fun f hf => by have := hg f hf; simpa using this]
  have pF : (D.lst F).pl = true ∧ (D.lst F).dep ≤ 20 := by
    rw [hF]
    simp only [D.pl, D.dep]
    exact ⟨pls_of _ _ fun t => pl_TuI _, by have := deps_of (soT C tops) (fun t => TuI (C t)) 1 (fun t => dep_TuI _); omega⟩
  have so : dSorted [.lst F] = some (.lst F) := by
    have k := sortOk_Tu C (soT C tops) (by rw [(soT_perm C tops).length_eq]; omega) fun t htt => by
      obtain ⟨m, e⟩ := (hC t ((mt t).mp ((soT_perm C tops).mem_iff.mp htt))).1.ends.2
      rw [e]; simp
    rw [hF]
    simp only [dSorted, k, if_true, sort_twice]
  have lse : dLS [.lst F] = some (.int (F.length : Int)) := by
    have e : F = ((soT C tops).map C).map TuI := by rw [hF, List.map_map]; rfl
    rw [e, ls_e]
    · simp
    · have nt : (soT C tops).Nodup := (soT_perm C tops).nodup_iff.mpr (by rw [ht]; exact J.tops_nd)
      unfold List.Nodup at *
      rw [List.pairwise_map]
      refine nt.imp_of_mem fun {x y} hx hy hne e => hne ?_
      obtain ⟨⟨m1, e1⟩, m2, e2⟩ := (hC x ((mt x).mp ((soT_perm C tops).mem_iff.mp hx))).1.ends
      obtain ⟨⟨m3, e3⟩, m4, e4⟩ := (hC y ((mt y).mp ((soT_perm C tops).mem_iff.mp hy))).1.ends
      refine Prod.ext ?_ ?_
      · rw [e, e4] at e2; exact (List.cons.inj e2).1.symm
      · rw [e, e3] at e1
        exact (List.append_inj' e1 rfl).2 |> fun z => ((List.cons.inj z).1).symm
    · rw [List.length_map, (soT_perm C tops).length_eq]; omega
  have s10 : l10 [.im (.scr ns), .im (L st), .im (.int n), .im (.lst (ls.map T2)), .im (.lst (xs.map T2)), .ow (kn ks fun _ => 0), c6, c7, .ow (.lst (xs.map T2)), .im (.lst F), c10, c11] = .nx [.im (.scr ns), .im (L st), .im (.int n), .im (.lst (ls.map T2)), .im (.lst (xs.map T2)), .ow (kn ks fun _ => 0), c6, c7, .ow (.lst (xs.map T2)), .im (.lst F), c10, c11] := by
    show sIf _ _ _ _ = _
    walk_at "dz"
    rw [so]
    walk_at "dz"
    rw [ne_self' pF.1 pF.2]
    walk_at "dz"
    simp only [eLS]
    walk_at "dz"
    rw [lse]
    walk_at "dz"
  have s11 : l11 [.im (.scr ns), .im (L st), .im (.int n), .im (.lst (ls.map T2)), .im (.lst (xs.map T2)), .ow (kn ks fun _ => 0), c6, c7, .ow (.lst (xs.map T2)), .im (.lst F), c10, c11] = .rt (.bl true) := by
    show sRet _ _ _ = _
    walk_at "dz"
    simp only [iVaD]
    walk_at "dz"
    rw [show kn ks (fun _ => 0) = .dn (ks.map KY) (ks.map fun _ => .int 0) from rfl]
    simp only [List.length_map, if_true]
    walk_at "dz"
    rw [if_pos (by rw [List.length_map]; omega), compL_map (en := fun _ : P2 => D.int 0) (bs := fun _ => [D.int 0]) (g := fun _ => D.bl true) ks (fun x _ => rfl) (fun q _ => by
      unfold h_law_4
      walk_at "dz")]
    walk_at "dz"
    rw [all_map _ (fun _ : P2 => true), show ks.all (fun _ => true) = true by simp]
    walk_at "dz"
  show (sSeq l0 (sSeq l1 (sSeq l2 (sSeq l3 (sSeq l4 (sSeq l5 (sSeq l6 (sSeq l7 (sSeq l8 (sSeq l9 (sSeq l10 l11)))))))))) [.im (.scr ns), .em, .em, .em, .em, .em, .em, .em, .em, .em, .em, .em]).out false = _
  rw [seq_nx s0, seq_nx s1, seq_nx s2, seq_nx s3, seq_nx s4, seq_nx s5, seq_nx s6, seq_nx s7, seq_nx s8, seq_nx s9, seq_nx s10, s11]
  rfl
end K14
set_option Elab.async false
set_option linter.all false
set_option maxRecDepth 100000
set_option maxHeartbeats 4000000
namespace K14
open PySem PySem.Spec PyProof.Rows L2
theorem walk {l : PySem.W.OpenLaw} {q : Program} {loose : List Str} {XP : (Str → Option Value) → Heap → Prop} {YP : World → Heap → Prop} {d : DefRec} {K : Params → PySem.W.Frag} (hn : l.most = some 63) (hdf : d.params.defaults = [])
    (hY : ∀ (w : World) (h : Heap), YP w h → (K w.params).In h)
    (F : ∀ (w : World) (mg : Str → Option Value) (fa : Addr) (h : Heap), (K w.params).In h → h.Ns mainGlobals mg → mg d.name = some (.ref fa) →
      ∃ fd : FuncData, (∀ (s : Shared) (u : Value), BindsTo s fd ⟨[u], []⟩ [("_law_script", u)]) ∧ ∀ base : Heap, (K w.params).In base → base.Ns mainGlobals mg → FnOk l.prog w (K w.params) mg base (CX1 l.prog w) 4 fa fd ["_law_script"] (spL (K w.params) false m_law 1)) :
    PySem.W.WalkO q loose XP YP l.row.toRowW d [] (fun f vs => PySem.call f vs) :=
  L2.walk_of (n := 63) (k := 4) (x := "_law_script") (CX := fun w => CX1 l.prog w) (sp := fun w => (spL (K w.params) false m_law 1)) hn (by decide) hdf ⟨rfl, by decide, by decide⟩ hY F (fun _ _ a ns hl hO hS => law_sp hO hS (law_true ns hl)) fun _ _ _ _ _ ⟨_, _, _, _, _, _, z⟩ => z
end K14
open PySem PySem.W PyProof.Rows
set_option maxRecDepth 100000 in
set_option maxHeartbeats 0 in
theorem PySem.Challenge.cw_friezeyard_k14_rooms_between_lines_holds : PySem.Challenge.rw_friezeyard_k14_rooms_between_lines.Holds := by
  w_on; o_law
  refine holds_open (q := K14.q) (loose := []) (Xt := K14.xtH) (XP := XL K14.q []) (Yf := K14.hook.obs) (Ya := K14.hook.val)
    (YP := K14.hook.says) (N := 880) K14.left K14.hook.of K14.hook.keeps
    (fun s e => xl_of s (Bool.and_eq_true_iff.mp e).1) XL.keeps (by rfl) (by rfl) (by rfl)
    (fun s e => recFacts_of (Bool.and_eq_true_iff.mp e).2) (by rfl) (by assumption) (by decide +kernel)
    ⟨rfl, rfl, rfl, rfl, rfl, by decide +kernel⟩ ?hw ?hc
  (case hw => w_witness2)
  refine K14.walk (l := PySem.Challenge.rw_friezeyard_k14_rooms_between_lines) (K := K14.K) rfl rfl (fun w h Y => Y) ?F
  case F =>
    intro w mg fa h KX G hmg
    k_fill
    refine' K14.all_mk KX G hmg ?A0 ?A1 ?A2 ?A3 ?A4 ?A5 ?A6 ?A7 ?A8 ?A9 ?A10 ?A11 ?T
    (case A0 => apply L2.fat; k_is; k_is; k_is; k_is)
    (case A1 => apply L2.fat; k_is; k_is; k_is; k_is)
    (case A2 => apply L2.fat; k_is; k_is; k_is; k_is)
    (case A3 => apply L2.fat; k_is; k_is; k_is; k_is)
    (case A4 => apply L2.fat; k_is; k_is; k_is; k_is)
    (case A5 => apply L2.fat; k_is; k_is; k_is; k_is)
    (case A6 => apply L2.fat; k_is; k_is; k_is; k_is)
    (case A7 => apply L2.fat; k_is; k_is; k_is; k_is)
    (case A8 => apply L2.fat; k_is; k_is; k_is; k_is)
    (case A9 => apply L2.fat; k_is; k_is; k_is; k_is)
    (case A10 => apply L2.fat; k_is; k_is; k_is; k_is)
    (case A11 => apply L2.fat; k_is; k_is; k_is; k_is)
    (case T => constructor <;> exact mg_none_of KX G (by k_is))
