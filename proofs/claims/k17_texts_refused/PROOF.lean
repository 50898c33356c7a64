import PyProof.Rows.All
import Wide.All
import OpenK.AllK
import Wide.FinOn
import Lean
import PyProof.EqAt
import PyProof.EqKinds
import PyProof.TupleCall
import KE.KIsAll
import KE.RegKIsAll
import PyProof.ExcArgsOwn
import PyProof.InstStoreFacts
import PyProof.Rows.MinMaxN
import PyProof.Rows.CallKwBuiltin
import KE.KMinKey
import KE.KDictOf
import PyProof.AttrMissSeq
import KE.KEqDict
import KE.KSortAsk
import KE.KIntText
import PyProof.SliceStr2
import PyProof.Rows.StrJoin2
import PyProof.StrCalls
import PyProof.StrWalks
import PyProof.Rows.FStr
import PySem.Challenge.RW_friezeyard_k17_texts_refused
set_option compiler.extract_closed false
noncomputable section
open PySem.W (Frag Looks codeIn funFrames_hide hideAll hideAll_get hideAll_none keepIn kia_one kitOne looks_findIn looks_mroIn mroIn nsIn of_hideAll typeIn)
def bI:=@List.mem_cons_of_mem
def ee:=@List.mem_cons
def gc:=@List.length_map
def gq:=@Bool.and_eq_true
def gR:=@decide_eq_true
def gV:=@List.length_cons
def io:=@List.mem_cons_self
def ng:=@List.map_cons
def oF:=@List.size_toArray
def pW:=@decide_eq_true_eq
def ro:=@List.getD_eq_getElem?_getD
def EQ:=@PyProof.Rows.boot_isinstance
def ER:=@Nat.ne_of_lt
def ES:=@Nat.lt_of_lt_of_le
def ET:=@List.getElem?_eq_getElem
def EU:=@PySem.wpAny_mono
def EV:=@List.all_eq_true
def EW:=@Bool.false_eq_true
def EY:=@Int.emod_lt_of_pos
def EZ:=@Nat.le_trans
def FA:=@PySem.wpAny_holding
def FC:=@Option.map_some
def FD:=@List.mem_append_right
def FE:=@Int.emod_nonneg
def FF:=@List.getElem?_map
def FG:=@Array.length_toList
def FH:=@PySem.wpAny_loadPart'
def FI:=@List.getElem?_set_ne
def FJ:=@List.mem_singleton
def FK:=@List.getElem?_eq_some_iff
def FL:=@List.getElem?_append_left
def FM:=@Option.map_eq_some_iff
def FN:=@List.getElem?_eq_none
def FO:=@List.filterMap_cons
def FP:=@List.mem_of_getElem?
def FQ:=@if_true
def FR:=@PySem.StrLaws.join_split
def FS:=@PySem.Heap.get?_update_other
def FT:=@decide_eq_false_iff_not
def FU:=@PySem.F.plainAttrs_list
def FV:=@if_false
def FW:=@PySem.F.excBase_ValueError
def FX:=@Nat.zero_le
def FY:=@List.pairwise_cons
def FZ:=@List.getElem?_append_right
def GA:=@List.map_append
def GB:=@PySem.F.plain_max_loop
def GC:=@List.getElem?_set_self
def GD:=@beq_eq_false_iff_ne
def GF:=@List.length_nil
def GG:=@Bool.eq_iff_iff
def GH:=@PySem.Str.length_append
def GI:=@List.not_mem_nil
def GJ:=@Bool.and_self
def GK:=@List.map_nil
def GL:=@List.append_nil
def GN:=@Ne.symm
def GO:=@Classical.byContradiction
def GP:=@PySem.PassesOwn.leaving
def GQ:=@List.length_singleton
def GR:=@List.zip_cons_cons
def GS:=@List.mem_filterMap
def GU:=@List.cons_ne_nil
def GV:=@List.mem_map
def GW:=@List.mem_append
def GX:=@List.find?_cons
def GY:=@congrArg
def GZ:=@PySem.mem_of_lookup
def HA:=@List.replicate_succ
def HB:=@PySem.wpAny_truthy_bool
def HC:=@PySem.wpAny_loadPart_at
def HE:=@List.length_drop
def HF:=@Array.getElem?_eq_some_iff
def HG:=@PySem.wpAny_standAt
def HH:=@Bool.not_eq_true'
def HI:=@PySem.F.type_list_append
def HJ:=@PySem.F.slot_list_append
def HK:=@List.eraseIdx_eq_take_drop_succ
def HL:=@List.take_of_length_le
def HM:=@List.nil_append
def HN:=@List.mem_filter
def HP:=@Bool.or_eq_true
def HQ:=@PySem.sizeLine_eq
def HR:=@Nat.lt_succ_of_lt
def HS:=@List.flatten_cons
def HU:=@List.append_assoc
def HV:=@PySem.wpAny_passesOwn
def HW:=@beq_self_eq_true
def HX:=@Nat.le_of_lt
def HY:=@List.lookup_cons
def HZ:=@List.length_take
def Ia:=@PySem.Heap.get?_update_self
def Ib:=@List.drop_eq_getElem_cons
def Ic:=@PySem.codeAny_call_builtin
def Ig:=@List.length_zip
def Ih:=@List.set_cons_zero
def Ii:=@List.set_cons_succ
def Ij:=@PySem.F.attr_ValueError
def Ik:=@decide_false
def Il:=@PySem.F.slot_str_split
def Im:=@PySem.F.entry_max_loop
def Io:=@List.map_map
def Ip:=@List.count_append
def Iq:=@Bool.and_false
def Ir:=@PySem.wpAny_execs_nil
def Iu:=@PySem.wpAny_Call_Name_kw
def Iv:=@beq_iff_eq
def Iw:=@Array.toList_inj
def Ix:=@decide_true
def Iy:=@PySem.codeAny_mono
def Iz:=@Nat.le_succ
def IA:=@List.count_le_length
def IB:=@Bool.or_eq_false_iff
def IC:=@List.nodup_cons
def ID:=@PySem.F.typeOf_object_class
def IE:=@PyProof.Rows.callWith_type1
def IF:=@PySem.Heap.size_update
def IG:=@PySem.lookup_relabel_local
def IH:=@List.mem_range
def II:=@List.drop_zero
def IJ:=@PySem.Heap.get?_none_of_le
def IK:=@Bool.false_and
def IL:=@Array.append_assoc
def IM:=@PySem.Around.under_plainId
def IN:=@PySem.codeAny_builtin
def IP:=@List.pairwise_iff_getElem
def IQ:=@List.getElem?_zip_eq_some
def IR:=@PySem.wpAny_isSubtype_exc
def IS:=@PySem.Heap.get?_update_ne
def IT:=@PySem.W.mg_of
def IU:=@PySem.StrLaws.split_free
def IV:=@PySem.F.slot_list_insert
def IW:=@List.map_take
def IX:=@Array.getElem?_replicate
set_option Elab.async false
set_option linter.all false
set_option maxRecDepth 100000
set_option maxHeartbeats 4000000
def ψ:=@if_neg
def ξ:=@if_pos
def ζ:=@Nat.le_refl
def η:=@Bool.false_ne_true
def θ:=@List.length_append
def χ:=@Nat.lt_irrefl
namespace L2
open PySem PySem.Spec PyProof.Rows
def δ:=@wpAny_bind
def γ:=@wpS_bind
def ω:=@wpAny_pure
def τ:=@Heap.get?_push_of_some
def π:=@Heap.lt_size
def Ψ:=@Heap.get?_push_size
noncomputable def J7(s:Stmt):Arguments:=match s with
 | .FunctionDef _ a _ _ _ _ _ _ _ _=>a
 |_=>{ posonlyargs:=[],args:=[],vararg:=none,kwonlyargs:=[],kw_defaults:=[],kwarg:=none,defaults:=[] }
noncomputable def C1(s:Stmt):List Stmt:=match s with
 | .FunctionDef _ _ b _ _ _ _ _ _ _=>b
 |_=>[]
noncomputable def g0(s:Stmt):Scope:=match s with
 | .FunctionDef _ _ _ _ _ _ sc _ _ _=>sc
 |_=>{ kind:=.function,names:=[],isGenerator:=false,isCoroutine:=false }
open PySem.W in
noncomputable def Eo(tb:String->Option Builtin)(p:Program)(w:World)(m:Nat)(li:Option Value):Nat->SharedT->Thread->Option SharedT
 | 0,_,_=>none
 |n+1,s,t=>match through t with
  |true=>some s
  |false=>match stepOk m li t with
   |false=>none
   |true=>match stepT (denote tb) p w s t with
    |some (s',t')=>Eo tb p w m li n s' t'
    |none=>none
open PySem.W in
theorem Yw:∀(n:Nat){s s':SharedT}{t:Thread},Eo tb p w m li n s t=some s'->topRun tb p w m li n s.abs t=some s'.abs
 | 0,_,_,_,h=>nomatch h
 |n+1,s,s',t,h=>by
  unfold Eo at h;unfold topRun;cases a:through t with
  |true=>rw[a]at h;cases h;rfl
  |false=>
   rw[a]at h
   cases b:stepOk m li t with
   |false=>rw[b]at h;cases h
   |true=>
    rw[b]at h
    cases c:stepT (denote tb) p w s t with
    |none=>rw[c]at h;cases h
    |some z=>
     obtain⟨s2,t2⟩:=z
     rw[c]at h
     rw[stepT_spec c]
     exact Yw n h
open PySem.W in
noncomputable def Ti:List Obj->Nat->BT->BT
 | [],_,t=>t
 |o::l,i,t=>Ti l (i+1) (t.ins i o)
open PySem.W in
def bootS(w:World)(os:OsState):SharedT:=⟨Ti (boot_heap w.params).objs.toList 0 .nil,(boot_heap w.params).objs.size,(boot_heap w.params).life,Array.mk [],boot_drawn,boot_toks,os⟩
open PySem.W in
noncomputable def seenAt(p q:Program)(loose:List Str)(Xt:Shared->Bool){α:Type}(Yf:Shared->α)(w:World)(t:Shared):=
 (staticsOk (importedModules p.main.body) (boot_heap w.params) t.heap&&namesBound p t.heap&&gensDone t&&laidKept (boot_heap w.params) t.heap,openSeen q loose (importedModules p.main.body) Xt true t,Yf t)
open PySem.W in
def outAt(p q:Program)(loose:List Str)(Xt:Shared->Bool){α:Type}(Yf:Shared->α)(N:Nat)(w:World)(os:OsState):=
 (Eo treeTable p w (boot_heap w.params).objs.size ((boot_heap w.params).nsMap mainGlobals "__annotations__") N (bootS w os) (topStub p)).map fun s=>seenAt p q loose Xt Yf w s.abs
open PySem.W in
def zm:∀(w:World)(os:OsState),(bootS w os).abs=⟨boot_heap w.params,Array.mk [],boot_drawn,boot_toks,os⟩:=fun _ _=>by kernel_rfl
open PySem.W in
def xK:∀w:World,(boot_heap w.params).isNs mainGlobals=true:=fun _=>by kernel_rfl
open PySem.W in
def xJ(e:opening p=plainProg p.main.scope.names)(hN:Nat.ble 600 N=true)
  (f:∀s,fenceModules? p s=some s) (h:∀w os,outAt p q loose Xt Yf N w os=some (true,openGood q loose,Ya w)):LeftO p q loose Xt Yf Ya N:=fun w=>by
 obtain⟨⟨hp,gs,d,k,os⟩,a,b⟩:=FM.mp (boot_open e hN f w)
 obtain⟨rfl,rfl,rfl,rfl⟩:hp=boot_heap w.params/\gs=Array.mk []/\d=boot_drawn/\k=boot_toks:=by simpa using b
 obtain⟨s,r,c⟩:=FM.mp (h w os)
 have r2:=Yw N r
 rw[zm]at r2
 obtain⟨l1,l2,l3⟩:_/\_/\_:=by simpa only [seenAt,Prod.mk.injEq] using c
 have t:topFrom treeTable p w N ⟨boot_heap w.params,Array.mk [],boot_drawn,boot_toks,os⟩=some s.abs:=by unfold topFrom;dsimp only;rw[xK,r2];show(match staticsOk (importedModules p.main.body) (boot_heap w.params) s.abs.heap&&namesBound p s.abs.heap&&gensDone s.abs&&laidKept (boot_heap w.params) s.abs.heap with |true=>_ |false=>_)=_;rw[l1]
 unfold openEnds
 rw[a]
 show(topFrom treeTable p w N _).map _=_
 rw[t]
 exact GY some (Prod.ext l2 l3)
abbrev c4(x:String)(t:Nat):Value:=.str (Str.ofString x) t
abbrev b8(P:Params)(x:String)(t:Nat)(v:Value):DictEntry:=⟨PyData.keyHash P (Str.ofString x),.str (Str.ofString x) t,v⟩
abbrev b9(l:List Value):Obj:={ cls:=.type "tuple",data:=.seq l.toArray }
abbrev v8(l:List DictEntry)(n:Nat):Obj:={ cls:=.type "dict",data:=.dict l.toArray n }
abbrev Gy(st:Stmt)(x q:String)(dV kV doc pm:Value)(an:Option Addr)(cd ct:Value):Obj:={ cls:=.type "function",data:=.func (PySem.W.fnOf (Str.ofString x) (Str.ofString q) (J7 st) (C1 st) (g0 st) dV kV doc pm an cd ct) }
noncomputable def Ji:Stmt->Nat->Stmt
 | .ClassDef _ _ _ b _ _ _ _ _ _ _,j=>b.getD j (.Pass ⟨0,0,0,0⟩)
 |s,_=>s
end L2
namespace K17
open PySem PySem.Spec PyProof.Rows L2
def top(i:Nat):Stmt:=PySem.Challenge.pw_friezeyard_k17_texts_refused.main.body.getD i (.Pass ⟨0,0,0,0⟩)
abbrev kO(n:String)(t1:Nat)(q:String)(t2 t3:Nat)(a b c d e:Int)(r1:Nat)(g:Int)(r2 r3 r4 r5:Nat)(k l:Int)(t4:Nat):Obj:=⟨.type "code",none,.fields [c4 n t1,c4 q t2,c4 "/claim/cut.py" t3,.int a 0,.int b 0,.int c 0,.int d 0,.int e 0,.ref r1,.bool true,.int g 0,.ref r2,.none,.ref r3,.ref r4,.ref r5,.int k 0,.int l 0,c4 "/claim/cut.py" t4].toArray,#[]⟩
abbrev kCo(n:String)(t1:Nat)(q:String)(t2 t3:Nat)(a b c d e:Int)(r1:Nat)(g:Int)(r2 r5:Nat)(k l:Int)(t4:Nat):Obj:=⟨.type "code",none,.fields [c4 n t1,c4 q t2,c4 "/claim/cut.py" t3,.int a 0,.int b 0,.int c 0,.int d 0,.int e 0,.ref r1,.bool true,.int g 0,.ref r2,.none,.none,.none,.ref r5,.int k 0,.int l 0,c4 "/claim/cut.py" t4].toArray,#[]⟩
abbrev fO(i:Nat)(n m:String)(t r:Nat):Obj:=Gy (top i) n n .none .none .none (c4 m t) none (.ref r) .none
abbrev cO(n:String)(b a ns r t1 t2:Nat):Obj:=⟨.type "type",none,.cls { name:=Str.ofString n,bases:=[.ref b],mro:=[.ref a,.ref b,.type "ValueError",.type "Exception",.type "BaseException",.type "object"],ns:=ns,qualname:=Str.ofString n,hasDict:=true,slotNames:=[],subclasses:=[],abstract:=false,collection:=none,hasDel:=false },#[some (.ref r),none,some (c4 n t1),some (c4 n t2),some (.builtin "ValueError.__new__"),some (.bool true)]⟩
def K:Params->Frag:=fun P=>
 (nat_lit 2,⟨.none,none,(.dict [].toArray 0),#[]⟩) ::
 (nat_lit 3,v8 [b8 P "__name__" 165 (c4 "law_friezeyard_k17_texts_refused" 669),b8 P "__doc__" 166 .none,b8 P "__package__" 167 .none,b8 P "__loader__" 168 (.builtin "__main__.__loader__#opaque"),b8 P "__spec__" 169 .none,b8 P "__annotations__" 170 (.ref 6),b8 P "__builtins__" 171 (.ref 4),b8 P "__file__" 173 (c4 "/claim/cut.py" 172),b8 P "__cached__" 174 .none,b8 P "FloorError" 206 (.ref 24),b8 P "NoFloor" 222 (.ref 37),b8 P "NoLine" 238 (.ref 49),b8 P "Crossed" 265 (.ref 68),b8 P "NotFull" 290 (.ref 87),b8 P "NoText" 306 (.ref 99),b8 P "NoCorner" 322 (.ref 111),b8 P "NoEar" 338 (.ref 123),b8 P "NoRow" 354 (.ref 135),b8 P "Fallen" 379 (.ref 154),b8 P "NoBand" 395 (.ref 166),b8 P "TooMany" 411 (.ref 178),b8 P "NoQuotient" 427 (.ref 190),b8 P "NotAlike" 443 (.ref 202),b8 P "NoPlace" 459 (.ref 214),b8 P "NoDeed" 475 (.ref 226),b8 P "NoName" 491 (.ref 238),b8 P "NoTurn" 507 (.ref 250),b8 P "is_whole" 516 (.ref 259),b8 P "pair" 524 (.ref 266),b8 P "is_side" 534 (.ref 273),b8 P "is_line" 542 (.ref 280),b8 P "cross" 554 (.ref 287),b8 P "is_two" 563 (.ref 294),b8 P "is_floor" 570 (.ref 301),b8 P "check_floor" 577 (.ref 308),b8 P "is_figures" 583 (.ref 313),b8 P "two_read" 589 (.ref 318),b8 P "rooms" 597 (.ref 323),b8 P "room_under" 606 (.ref 330),b8 P "corner_behind" 612 (.ref 335),b8 P "cutting" 620 (.ref 340),b8 P "line_of" 629 (.ref 347),b8 P "check_uncrossed" 639 (.ref 354),b8 P "free_line" 645 (.ref 359),b8 P "read" 653 (.ref 364),b8 P "corners_read" 660 (.ref 371),b8 P "line_read" 668 (.ref 378),b8 P "_law_pick" 678 (.ref 385),b8 P "_law_is_number" 685 (.ref 392),b8 P "_law_many" 693 (.ref 399),b8 P "_law_stream" 704 (.ref 406),b8 P "_law_grown" 710 (.ref 411),b8 P "_law_mixed" 722 (.ref 418),b8 P "_law_sign" 730 (.ref 425),b8 P "_law_spoil" 741 (.ref 432),b8 P "_law_odd" 749 (.ref 439),b8 P "_law_thing" 758 (.ref 446),b8 P "_law_put" 768 (.ref 453),b8 P "_law_number" 774 (.ref 458),b8 P "_law_lines" 786 (.ref 465),b8 P "_law_is_line" 796 (.ref 472),b8 P "_law_meet" 802 (.ref 477),b8 P "_law_due" 808 (.ref 482),b8 P "_law_answer" 818 (.ref 489),b8 P "_law_kinds" 827 (.ref 496),b8 P "_law_is_pair" 834 (.ref 503),b8 P "_law_told" 840 (.ref 508),b8 P "law" 846 (.ref 513)] 68) ::
 (nat_lit 15,b9 [(.type "ValueError")]) ::
 (nat_lit 22,b9 []) ::
 (nat_lit 23,v8 [b8 P "__module__" 196 (c4 "friezeyard.errors" 187),b8 P "__firstlineno__" 200 (.int 2 199),b8 P "__static_attributes__" 201 (.ref 22),b8 P "__weakref__" 203 (.ref 25),b8 P "__doc__" 204 .none] 3) ::
 (nat_lit 24,⟨(.type "type"),none,(.cls { name:=Str.ofString "FloorError",bases:=[(.type "ValueError")],mro:=[(.ref 24),(.type "ValueError"),(.type "Exception"),(.type "BaseException"),(.type "object")],ns:=23,qualname:=Str.ofString "FloorError",hasDict:=true,slotNames:=[],subclasses:=[(.ref 37),(.ref 49),(.ref 68),(.ref 87),(.ref 99),(.ref 111),(.ref 123),(.ref 135),(.ref 154),(.ref 166),(.ref 178),(.ref 190),(.ref 202),(.ref 214),(.ref 226),(.ref 238),(.ref 250)],abstract:=false,collection:=none,hasDel:=false }),#[some (.ref 15),none,some (c4 "FloorError" 189),some (c4 "FloorError" 197),some (.builtin "ValueError.__new__"),some (.bool true)]⟩) ::
 (nat_lit 25,⟨(.type "getset_descriptor"),none,(.fields [(c4 "__weakref__" 202),(.ref 24),(.builtin "ExceptionGroup.__weakref__"),.none].toArray),#[]⟩) ::
 (nat_lit 28,b9 [(.ref 24)]) ::
 (nat_lit 35,b9 []) ::
 (nat_lit 36,v8 [b8 P "__module__" 214 (c4 "friezeyard.errors" 187),b8 P "__firstlineno__" 218 (.int 4 217),b8 P "__static_attributes__" 219 (.ref 35),b8 P "__doc__" 220 .none] 2) ::
 (nat_lit 37,(cO "NoFloor" 24 37 36 28 207 215)) ::
 (nat_lit 40,b9 [(.ref 24)]) ::
 (nat_lit 47,b9 []) ::
 (nat_lit 48,v8 [b8 P "__module__" 230 (c4 "friezeyard.errors" 187),b8 P "__firstlineno__" 234 (.int 6 233),b8 P "__static_attributes__" 235 (.ref 47),b8 P "__doc__" 236 .none] 2) ::
 (nat_lit 49,(cO "NoLine" 24 49 48 40 223 231)) ::
 (nat_lit 52,b9 [(.ref 24)]) ::
 (nat_lit 59,b9 []) ::
 (nat_lit 61,b9 [(c4 "self" 254),(c4 "one" 255),(c4 "other" 256)]) ::
 (nat_lit 62,b9 []) ::
 (nat_lit 64,(kO "__init__" 251 "Crossed.__init__" 252 253 10 3 0 0 3 59 181 60 61 62 63 257 10 258)) ::
 (nat_lit 65,Gy (Ji (top 4) 0) "__init__" "Crossed.__init__" .none .none .none (c4 "friezeyard.errors" 187) none (.ref 64) .none) ::
 (nat_lit 66,b9 [(c4 "one" 260),(c4 "other" 261)]) ::
 (nat_lit 67,v8 [b8 P "__module__" 246 (c4 "friezeyard.errors" 187),b8 P "__firstlineno__" 250 (.int 8 249),b8 P "__init__" 259 (.ref 65),b8 P "__static_attributes__" 262 (.ref 66),b8 P "__doc__" 263 .none] 2) ::
 (nat_lit 68,(cO "Crossed" 24 68 67 52 239 247)) ::
 (nat_lit 71,b9 [(.ref 24)]) ::
 (nat_lit 78,b9 []) ::
 (nat_lit 80,b9 [(c4 "self" 281),(c4 "line" 282)]) ::
 (nat_lit 81,b9 []) ::
 (nat_lit 83,(kO "__init__" 278 "NotFull.__init__" 279 280 15 2 0 0 3 78 181 79 80 81 82 283 15 284)) ::
 (nat_lit 84,Gy (Ji (top 5) 0) "__init__" "NotFull.__init__" .none .none .none (c4 "friezeyard.errors" 187) none (.ref 83) .none) ::
 (nat_lit 85,b9 [(c4 "line" 286)]) ::
 (nat_lit 86,v8 [b8 P "__module__" 273 (c4 "friezeyard.errors" 187),b8 P "__firstlineno__" 277 (.int 13 276),b8 P "__init__" 285 (.ref 84),b8 P "__static_attributes__" 287 (.ref 85),b8 P "__doc__" 288 .none] 2) ::
 (nat_lit 87,(cO "NotFull" 24 87 86 71 266 274)) ::
 (nat_lit 90,b9 [(.ref 24)]) ::
 (nat_lit 97,b9 []) ::
 (nat_lit 98,v8 [b8 P "__module__" 298 (c4 "friezeyard.errors" 187),b8 P "__firstlineno__" 302 (.int 17 301),b8 P "__static_attributes__" 303 (.ref 97),b8 P "__doc__" 304 .none] 2) ::
 (nat_lit 99,(cO "NoText" 24 99 98 90 291 299)) ::
 (nat_lit 102,b9 [(.ref 24)]) ::
 (nat_lit 109,b9 []) ::
 (nat_lit 110,v8 [b8 P "__module__" 314 (c4 "friezeyard.errors" 187),b8 P "__firstlineno__" 318 (.int 19 317),b8 P "__static_attributes__" 319 (.ref 109),b8 P "__doc__" 320 .none] 2) ::
 (nat_lit 111,(cO "NoCorner" 24 111 110 102 307 315)) ::
 (nat_lit 114,b9 [(.ref 24)]) ::
 (nat_lit 121,b9 []) ::
 (nat_lit 122,v8 [b8 P "__module__" 330 (c4 "friezeyard.errors" 187),b8 P "__firstlineno__" 334 (.int 21 333),b8 P "__static_attributes__" 335 (.ref 121),b8 P "__doc__" 336 .none] 2) ::
 (nat_lit 123,(cO "NoEar" 24 123 122 114 323 331)) ::
 (nat_lit 126,b9 [(.ref 24)]) ::
 (nat_lit 133,b9 []) ::
 (nat_lit 134,v8 [b8 P "__module__" 346 (c4 "friezeyard.errors" 187),b8 P "__firstlineno__" 350 (.int 23 349),b8 P "__static_attributes__" 351 (.ref 133),b8 P "__doc__" 352 .none] 2) ::
 (nat_lit 135,(cO "NoRow" 24 135 134 126 339 347)) ::
 (nat_lit 138,b9 [(.ref 24)]) ::
 (nat_lit 145,b9 []) ::
 (nat_lit 147,b9 [(c4 "self" 370),(c4 "corner" 371)]) ::
 (nat_lit 148,b9 []) ::
 (nat_lit 150,(kO "__init__" 367 "Fallen.__init__" 368 369 27 2 0 0 3 145 181 146 147 148 149 372 27 373)) ::
 (nat_lit 151,Gy (Ji (top 10) 0) "__init__" "Fallen.__init__" .none .none .none (c4 "friezeyard.errors" 187) none (.ref 150) .none) ::
 (nat_lit 152,b9 [(c4 "corner" 375)]) ::
 (nat_lit 153,v8 [b8 P "__module__" 362 (c4 "friezeyard.errors" 187),b8 P "__firstlineno__" 366 (.int 25 365),b8 P "__init__" 374 (.ref 151),b8 P "__static_attributes__" 376 (.ref 152),b8 P "__doc__" 377 .none] 2) ::
 (nat_lit 154,(cO "Fallen" 24 154 153 138 355 363)) ::
 (nat_lit 157,b9 [(.ref 24)]) ::
 (nat_lit 164,b9 []) ::
 (nat_lit 165,v8 [b8 P "__module__" 387 (c4 "friezeyard.errors" 187),b8 P "__firstlineno__" 391 (.int 29 390),b8 P "__static_attributes__" 392 (.ref 164),b8 P "__doc__" 393 .none] 2) ::
 (nat_lit 166,(cO "NoBand" 24 166 165 157 380 388)) ::
 (nat_lit 169,b9 [(.ref 24)]) ::
 (nat_lit 176,b9 []) ::
 (nat_lit 177,v8 [b8 P "__module__" 403 (c4 "friezeyard.errors" 187),b8 P "__firstlineno__" 407 (.int 31 406),b8 P "__static_attributes__" 408 (.ref 176),b8 P "__doc__" 409 .none] 2) ::
 (nat_lit 178,(cO "TooMany" 24 178 177 169 396 404)) ::
 (nat_lit 181,b9 [(.ref 24)]) ::
 (nat_lit 188,b9 []) ::
 (nat_lit 189,v8 [b8 P "__module__" 419 (c4 "friezeyard.errors" 187),b8 P "__firstlineno__" 423 (.int 33 422),b8 P "__static_attributes__" 424 (.ref 188),b8 P "__doc__" 425 .none] 2) ::
 (nat_lit 190,(cO "NoQuotient" 24 190 189 181 412 420)) ::
 (nat_lit 193,b9 [(.ref 24)]) ::
 (nat_lit 200,b9 []) ::
 (nat_lit 201,v8 [b8 P "__module__" 435 (c4 "friezeyard.errors" 187),b8 P "__firstlineno__" 439 (.int 35 438),b8 P "__static_attributes__" 440 (.ref 200),b8 P "__doc__" 441 .none] 2) ::
 (nat_lit 202,(cO "NotAlike" 24 202 201 193 428 436)) ::
 (nat_lit 205,b9 [(.ref 24)]) ::
 (nat_lit 212,b9 []) ::
 (nat_lit 213,v8 [b8 P "__module__" 451 (c4 "friezeyard.errors" 187),b8 P "__firstlineno__" 455 (.int 37 454),b8 P "__static_attributes__" 456 (.ref 212),b8 P "__doc__" 457 .none] 2) ::
 (nat_lit 214,(cO "NoPlace" 24 214 213 205 444 452)) ::
 (nat_lit 217,b9 [(.ref 24)]) ::
 (nat_lit 224,b9 []) ::
 (nat_lit 225,v8 [b8 P "__module__" 467 (c4 "friezeyard.errors" 187),b8 P "__firstlineno__" 471 (.int 39 470),b8 P "__static_attributes__" 472 (.ref 224),b8 P "__doc__" 473 .none] 2) ::
 (nat_lit 226,(cO "NoDeed" 24 226 225 217 460 468)) ::
 (nat_lit 229,b9 [(.ref 24)]) ::
 (nat_lit 236,b9 []) ::
 (nat_lit 237,v8 [b8 P "__module__" 483 (c4 "friezeyard.errors" 187),b8 P "__firstlineno__" 487 (.int 41 486),b8 P "__static_attributes__" 488 (.ref 236),b8 P "__doc__" 489 .none] 2) ::
 (nat_lit 238,(cO "NoName" 24 238 237 229 476 484)) ::
 (nat_lit 241,b9 [(.ref 24)]) ::
 (nat_lit 248,b9 []) ::
 (nat_lit 249,v8 [b8 P "__module__" 499 (c4 "friezeyard.errors" 187),b8 P "__firstlineno__" 503 (.int 43 502),b8 P "__static_attributes__" 504 (.ref 248),b8 P "__doc__" 505 .none] 2) ::
 (nat_lit 250,(cO "NoTurn" 24 250 249 241 492 500)) ::
 (nat_lit 253,b9 []) ::
 (nat_lit 255,b9 [(c4 "thing" 513)]) ::
 (nat_lit 256,b9 []) ::
 (nat_lit 258,(kO "is_whole" 510 "is_whole" 511 512 46 1 0 0 3 253 181 254 255 256 257 514 46 515)) ::
 (nat_lit 259,(fO 20 "is_whole" "friezeyard.pairs" 508 258)) ::
 (nat_lit 260,b9 []) ::
 (nat_lit 262,b9 [(c4 "a" 520),(c4 "b" 521)]) ::
 (nat_lit 263,b9 []) ::
 (nat_lit 265,(kO "pair" 517 "pair" 518 519 48 2 0 0 3 260 181 261 262 263 264 522 48 523)) ::
 (nat_lit 266,(fO 21 "pair" "friezeyard.pairs" 508 265)) ::
 (nat_lit 267,b9 []) ::
 (nat_lit 269,b9 [(c4 "n" 528),(c4 "p" 529),(c4 "a" 530),(c4 "b" 531)]) ::
 (nat_lit 270,b9 []) ::
 (nat_lit 272,(kO "is_side" 525 "is_side" 526 527 50 2 0 0 3 267 181 268 269 270 271 532 50 533)) ::
 (nat_lit 273,(fO 22 "is_side" "friezeyard.pairs" 508 272)) ::
 (nat_lit 274,b9 []) ::
 (nat_lit 276,b9 [(c4 "n" 538),(c4 "p" 539)]) ::
 (nat_lit 277,b9 []) ::
 (nat_lit 279,(kO "is_line" 535 "is_line" 536 537 56 2 0 0 3 274 181 275 276 277 278 540 56 541)) ::
 (nat_lit 280,(fO 23 "is_line" "friezeyard.pairs" 508 279)) ::
 (nat_lit 281,b9 []) ::
 (nat_lit 283,b9 [(c4 "p" 546),(c4 "other" 547),(c4 "a" 548),(c4 "b" 549),(c4 "c" 550),(c4 "d" 551)]) ::
 (nat_lit 284,b9 []) ::
 (nat_lit 286,(kO "cross" 543 "cross" 544 545 58 2 0 0 3 281 181 282 283 284 285 552 58 553)) ::
 (nat_lit 287,(fO 24 "cross" "friezeyard.pairs" 508 286)) ::
 (nat_lit 288,b9 []) ::
 (nat_lit 290,b9 [(c4 "thing" 560)]) ::
 (nat_lit 291,b9 []) ::
 (nat_lit 293,(kO "is_two" 557 "is_two" 558 559 65 1 0 0 3 288 181 289 290 291 292 561 65 562)) ::
 (nat_lit 294,(fO 26 "is_two" "friezeyard.common" 555 293)) ::
 (nat_lit 295,b9 []) ::
 (nat_lit 297,b9 [(c4 "thing" 567)]) ::
 (nat_lit 298,b9 []) ::
 (nat_lit 300,(kO "is_floor" 564 "is_floor" 565 566 67 1 0 0 3 295 181 296 297 298 299 568 67 569)) ::
 (nat_lit 301,(fO 27 "is_floor" "friezeyard.common" 555 300)) ::
 (nat_lit 302,b9 []) ::
 (nat_lit 304,b9 [(c4 "thing" 574)]) ::
 (nat_lit 305,b9 []) ::
 (nat_lit 307,(kO "check_floor" 571 "check_floor" 572 573 69 1 0 0 3 302 181 303 304 305 306 575 69 576)) ::
 (nat_lit 308,(fO 28 "check_floor" "friezeyard.common" 555 307)) ::
 (nat_lit 309,b9 []) ::
 (nat_lit 312,(kCo "is_figures" 578 "is_figures" 579 580 72 2 0 0 3 309 181 310 311 581 72 582)) ::
 (nat_lit 313,(fO 29 "is_figures" "friezeyard.common" 555 312)) ::
 (nat_lit 314,b9 []) ::
 (nat_lit 317,(kCo "two_read" 584 "two_read" 585 586 78 1 0 0 3 314 181 315 316 587 78 588)) ::
 (nat_lit 318,(fO 30 "two_read" "friezeyard.common" 555 317)) ::
 (nat_lit 319,b9 []) ::
 (nat_lit 322,(kCo "rooms" 592 "rooms" 593 594 84 2 0 0 3 319 181 320 321 595 84 596)) ::
 (nat_lit 323,(fO 32 "rooms" "friezeyard.rooms" 590 322)) ::
 (nat_lit 324,b9 []) ::
 (nat_lit 326,b9 [(c4 "top" 601),(c4 "lines" 602),(c4 "room" 603)]) ::
 (nat_lit 327,b9 []) ::
 (nat_lit 329,(kO "room_under" 598 "room_under" 599 600 87 2 0 0 3 324 181 325 326 327 328 604 87 605)) ::
 (nat_lit 330,(fO 33 "room_under" "friezeyard.rooms" 590 329)) ::
 (nat_lit 331,b9 []) ::
 (nat_lit 334,(kCo "corner_behind" 607 "corner_behind" 608 609 92 3 0 0 3 331 181 332 333 610 92 611)) ::
 (nat_lit 335,(fO 34 "corner_behind" "friezeyard.rooms" 590 334)) ::
 (nat_lit 336,b9 []) ::
 (nat_lit 339,(kCo "cutting" 615 "cutting" 616 617 96 2 0 0 3 336 181 337 338 618 96 619)) ::
 (nat_lit 340,(fO 36 "cutting" "friezeyard.cuttings" 613 339)) ::
 (nat_lit 341,b9 []) ::
 (nat_lit 343,b9 [(c4 "n" 624),(c4 "thing" 625),(c4 "line" 626)]) ::
 (nat_lit 344,b9 []) ::
 (nat_lit 346,(kO "line_of" 621 "line_of" 622 623 103 2 0 0 3 341 181 342 343 344 345 627 103 628)) ::
 (nat_lit 347,(fO 37 "line_of" "friezeyard.cuttings" 613 346)) ::
 (nat_lit 348,b9 []) ::
 (nat_lit 350,b9 [(c4 "lines" 633),(c4 "k" 634),(c4 "other" 635),(c4 "one" 636)]) ::
 (nat_lit 351,b9 []) ::
 (nat_lit 353,(kO "check_uncrossed" 630 "check_uncrossed" 631 632 110 1 0 0 3 348 181 349 350 351 352 637 110 638)) ::
 (nat_lit 354,(fO 38 "check_uncrossed" "friezeyard.cuttings" 613 353)) ::
 (nat_lit 355,b9 []) ::
 (nat_lit 358,(kCo "free_line" 640 "free_line" 641 642 115 2 0 0 3 355 181 356 357 643 115 644)) ::
 (nat_lit 359,(fO 39 "free_line" "friezeyard.cuttings" 613 358)) ::
 (nat_lit 360,b9 []) ::
 (nat_lit 363,(kCo "read" 648 "read" 649 650 119 1 0 0 3 360 181 361 362 651 119 652)) ::
 (nat_lit 364,(fO 41 "read" "friezeyard.texts" 646 363)) ::
 (nat_lit 365,b9 []) ::
 (nat_lit 367,b9 [(c4 "word" 657)]) ::
 (nat_lit 368,b9 []) ::
 (nat_lit 370,(kO "corners_read" 654 "corners_read" 655 656 124 1 0 0 3 365 181 366 367 368 369 658 124 659)) ::
 (nat_lit 371,(fO 42 "corners_read" "friezeyard.texts" 646 370)) ::
 (nat_lit 372,b9 []) ::
 (nat_lit 374,b9 [(c4 "word" 664),(c4 "two" 665)]) ::
 (nat_lit 375,b9 []) ::
 (nat_lit 377,(kO "line_read" 661 "line_read" 662 663 128 1 0 0 3 372 181 373 374 375 376 666 128 667)) ::
 (nat_lit 378,(fO 43 "line_read" "friezeyard.texts" 646 377)) ::
 (nat_lit 379,b9 []) ::
 (nat_lit 381,b9 [(c4 "_law_script" 674),(c4 "_law_k" 675)]) ::
 (nat_lit 382,b9 []) ::
 (nat_lit 384,(kO "_law_pick" 671 "_law_pick" 672 673 134 2 0 0 3 379 181 380 381 382 383 676 134 677)) ::
 (nat_lit 385,(fO 45 "_law_pick" "law_friezeyard_k17_texts_refused" 669 384)) ::
 (nat_lit 386,b9 []) ::
 (nat_lit 388,b9 [(c4 "_law_found" 682)]) ::
 (nat_lit 389,b9 []) ::
 (nat_lit 391,(kO "_law_is_number" 679 "_law_is_number" 680 681 138 1 0 0 3 386 181 387 388 389 390 683 138 684)) ::
 (nat_lit 392,(fO 46 "_law_is_number" "law_friezeyard_k17_texts_refused" 669 391)) ::
 (nat_lit 393,b9 []) ::
 (nat_lit 395,b9 [(c4 "_law_script" 689),(c4 "_law_cell" 690)]) ::
 (nat_lit 396,b9 []) ::
 (nat_lit 398,(kO "_law_many" 686 "_law_many" 687 688 140 1 0 0 3 393 181 394 395 396 397 691 140 692)) ::
 (nat_lit 399,(fO 47 "_law_many" "law_friezeyard_k17_texts_refused" 669 398)) ::
 (nat_lit 400,b9 []) ::
 (nat_lit 402,b9 [(c4 "_law_cells" 697),(c4 "_law_many_here" 698),(c4 "_law_found" 699),(c4 "_law_number_here" 700),(c4 "_law_k" 701)]) ::
 (nat_lit 403,b9 []) ::
 (nat_lit 405,(kO "_law_stream" 694 "_law_stream" 695 696 147 2 0 0 3 400 181 401 402 403 404 702 147 703)) ::
 (nat_lit 406,(fO 48 "_law_stream" "law_friezeyard_k17_texts_refused" 669 405)) ::
 (nat_lit 407,b9 []) ::
 (nat_lit 410,(kCo "_law_grown" 705 "_law_grown" 706 707 156 1 0 0 3 407 181 408 409 708 156 709)) ::
 (nat_lit 411,(fO 49 "_law_grown" "law_friezeyard_k17_texts_refused" 669 410)) ::
 (nat_lit 412,b9 []) ::
 (nat_lit 414,b9 [(c4 "_law_stream_here" 714),(c4 "_law_lines_here" 715),(c4 "_law_some" 716),(c4 "_law_k" 717),(c4 "_law_line" 718),(c4 "_law_number_here" 719)]) ::
 (nat_lit 415,b9 []) ::
 (nat_lit 417,(kO "_law_mixed" 711 "_law_mixed" 712 713 168 2 0 0 3 412 181 413 414 415 416 720 168 721)) ::
 (nat_lit 418,(fO 50 "_law_mixed" "law_friezeyard_k17_texts_refused" 669 417)) ::
 (nat_lit 419,b9 []) ::
 (nat_lit 421,b9 [(c4 "_law_number_here" 726),(c4 "_law_some" 727)]) ::
 (nat_lit 422,b9 []) ::
 (nat_lit 424,(kO "_law_sign" 723 "_law_sign" 724 725 174 1 0 0 3 419 181 420 421 422 423 728 174 729)) ::
 (nat_lit 425,(fO 51 "_law_sign" "law_friezeyard_k17_texts_refused" 669 424)) ::
 (nat_lit 426,b9 []) ::
 (nat_lit 428,b9 [(c4 "_law_text" 734),(c4 "_law_number_here" 735),(c4 "_law_cell" 736),(c4 "_law_at" 737),(c4 "_law_sign_here" 738)]) ::
 (nat_lit 429,b9 []) ::
 (nat_lit 431,(kO "_law_spoil" 731 "_law_spoil" 732 733 180 3 0 0 3 426 181 427 428 429 430 739 180 740)) ::
 (nat_lit 432,(fO 52 "_law_spoil" "law_friezeyard_k17_texts_refused" 669 431)) ::
 (nat_lit 433,b9 []) ::
 (nat_lit 435,b9 [(c4 "_law_number_here" 745),(c4 "_law_some" 746)]) ::
 (nat_lit 436,b9 []) ::
 (nat_lit 438,(kO "_law_odd" 742 "_law_odd" 743 744 188 1 0 0 3 433 181 434 435 436 437 747 188 748)) ::
 (nat_lit 439,(fO 53 "_law_odd" "law_friezeyard_k17_texts_refused" 669 438)) ::
 (nat_lit 440,b9 []) ::
 (nat_lit 442,b9 [(c4 "_law_text" 753),(c4 "_law_number_here" 754),(c4 "_law_some" 755)]) ::
 (nat_lit 443,b9 []) ::
 (nat_lit 445,(kO "_law_thing" 750 "_law_thing" 751 752 194 2 0 0 3 440 181 441 442 443 444 756 194 757)) ::
 (nat_lit 446,(fO 54 "_law_thing" "law_friezeyard_k17_texts_refused" 669 445)) ::
 (nat_lit 447,b9 []) ::
 (nat_lit 449,b9 [(c4 "_law_n" 762),(c4 "_law_some" 763),(c4 "_law_a" 764),(c4 "_law_number_here" 765)]) ::
 (nat_lit 450,b9 []) ::
 (nat_lit 452,(kO "_law_put" 759 "_law_put" 760 761 197 4 0 0 3 447 181 448 449 450 451 766 197 767)) ::
 (nat_lit 453,(fO 55 "_law_put" "law_friezeyard_k17_texts_refused" 669 452)) ::
 (nat_lit 454,b9 []) ::
 (nat_lit 457,(kCo "_law_number" 769 "_law_number" 770 771 202 1 0 0 3 454 181 455 456 772 202 773)) ::
 (nat_lit 458,(fO 56 "_law_number" "law_friezeyard_k17_texts_refused" 669 457)) ::
 (nat_lit 459,b9 []) ::
 (nat_lit 461,b9 [(c4 "_law_words" 778),(c4 "_law_lines_here" 779),(c4 "_law_word" 780),(c4 "_law_at" 781),(c4 "_law_a" 782),(c4 "_law_b" 783)]) ::
 (nat_lit 462,b9 []) ::
 (nat_lit 464,(kO "_law_lines" 775 "_law_lines" 776 777 208 1 0 0 3 459 181 460 461 462 463 784 208 785)) ::
 (nat_lit 465,(fO 57 "_law_lines" "law_friezeyard_k17_texts_refused" 669 464)) ::
 (nat_lit 466,b9 []) ::
 (nat_lit 468,b9 [(c4 "_law_n" 790),(c4 "_law_thing_here" 791),(c4 "_law_least" 792),(c4 "_law_far" 793)]) ::
 (nat_lit 469,b9 []) ::
 (nat_lit 471,(kO "_law_is_line" 787 "_law_is_line" 788 789 220 2 0 0 3 466 181 467 468 469 470 794 220 795)) ::
 (nat_lit 472,(fO 58 "_law_is_line" "law_friezeyard_k17_texts_refused" 669 471)) ::
 (nat_lit 473,b9 []) ::
 (nat_lit 476,(kCo "_law_meet" 797 "_law_meet" 798 799 224 2 0 0 3 473 181 474 475 800 224 801)) ::
 (nat_lit 477,(fO 59 "_law_meet" "law_friezeyard_k17_texts_refused" 669 476)) ::
 (nat_lit 478,b9 []) ::
 (nat_lit 481,(kCo "_law_due" 803 "_law_due" 804 805 227 1 0 0 3 478 181 479 480 806 227 807)) ::
 (nat_lit 482,(fO 60 "_law_due" "law_friezeyard_k17_texts_refused" 669 481)) ::
 (nat_lit 483,b9 []) ::
 (nat_lit 485,b9 [(c4 "_law_text" 812),(c4 "_law_told_here" 813),(c4 "_law_found" 814),(c4 "e" 815)]) ::
 (nat_lit 486,b9 []) ::
 (nat_lit 488,(kO "_law_answer" 809 "_law_answer" 810 811 248 1 0 0 3 483 181 484 485 486 487 816 248 817)) ::
 (nat_lit 489,(fO 61 "_law_answer" "law_friezeyard_k17_texts_refused" 669 488)) ::
 (nat_lit 490,b9 []) ::
 (nat_lit 492,b9 [(c4 "_law_text" 822),(c4 "_law_told_here" 823),(c4 "e" 824)]) ::
 (nat_lit 493,b9 []) ::
 (nat_lit 495,(kO "_law_kinds" 819 "_law_kinds" 820 821 265 1 0 0 3 490 181 491 492 493 494 825 265 826)) ::
 (nat_lit 496,(fO 62 "_law_kinds" "law_friezeyard_k17_texts_refused" 669 495)) ::
 (nat_lit 497,b9 []) ::
 (nat_lit 499,b9 [(c4 "_law_found" 831)]) ::
 (nat_lit 500,b9 []) ::
 (nat_lit 502,(kO "_law_is_pair" 828 "_law_is_pair" 829 830 276 1 0 0 3 497 181 498 499 500 501 832 276 833)) ::
 (nat_lit 503,(fO 63 "_law_is_pair" "law_friezeyard_k17_texts_refused" 669 502)) ::
 (nat_lit 504,b9 []) ::
 (nat_lit 507,(kCo "_law_told" 835 "_law_told" 836 837 280 2 0 0 3 504 181 505 506 838 280 839)) ::
 (nat_lit 508,(fO 64 "_law_told" "law_friezeyard_k17_texts_refused" 669 507)) ::
 (nat_lit 509,b9 []) ::
 (nat_lit 512,(kCo "law" 841 "law" 842 843 296 1 0 0 3 509 181 510 511 844 296 845)) ::
 (nat_lit 513,(fO 65 "law" "law_friezeyard_k17_texts_refused" 669 512))::[]
noncomputable def places:List Addr:=[2,3,15,22,23,24,25,28,35,36,37,40,47,48,49,52,59,61,62,64,65,66,67,68,71,78,80,81,83,84,85,86,87,90,97,98,99,102,109,110,111,114,121,122,123,126,133,134,135,138,145,147,148,150,151,152,153,154,157,164,165,166,169,176,177,178,181,188,189,190,193,200,201,202,205,212,213,214,217,224,225,226,229,236,237,238,241,248,249,250,253,255,256,258,259,260,262,263,265,266,267,269,270,272,273,274,276,277,279,280,281,283,284,286,287,288,290,291,293,294,295,297,298,300,301,302,304,305,307,308,309,312,313,314,317,318,319,322,323,324,326,327,329,330,331,334,335,336,339,340,341,343,344,346,347,348,350,351,353,354,355,358,359,360,363,364,365,367,368,370,371,372,374,375,377,378,379,381,382,384,385,386,388,389,391,392,393,395,396,398,399,400,402,403,405,406,407,410,411,412,414,415,417,418,419,421,422,424,425,426,428,429,431,432,433,435,436,438,439,440,442,443,445,446,447,449,450,452,453,454,457,458,459,461,462,464,465,466,468,469,471,472,473,476,477,478,481,482,483,485,486,488,489,490,492,493,495,496,497,499,500,502,503,504,507,508,509,512,513]
def zl:∀P,places=(K P).map (·.1):=fun _=>by kernel_rfl
def hook:PySem.W.Hook:=PySem.W.kHook K places zl
noncomputable def q:Program:=PySem.W.view PySem.Challenge.pw_friezeyard_k17_texts_refused [1,2,3,4,5,6,7,8,9,10,11,12,13,14,15,16,17,18,20,21,22,23,24,26,27,28,29,30,32,33,34,36,37,38,39,41,42,43,45,46,47,48,49,50,51,52,53,54,55,56,57,58,59,60,61,62,63,64,65]
def xtH(s:Shared):Bool:=PySem.W.xlAt q [] s&&PySem.W.recOk (PySem.W.RowW.records PySem.Challenge.rw_friezeyard_k17_texts_refused.row.toRowW) s
def out(w:World)(os:OsState):=outAt PySem.Challenge.pw_friezeyard_k17_texts_refused q [] xtH (fun s=>places.map s.heap.get?) 10468 w os
def good:=PySem.W.openGood q []
example:((fun (_:Params->Obj)(_:Str)=>true) PySem.W.boot_o_0 (Str.ofString "dull"))=true:=by k_qdec
lay_quick out good
def vF:∀w os,out w os=some (true,good,(K w.params).map fun p=>some p.2):=fun w os=>(congrFun (congrFun PySem.W.Fast.te9308094269656700189 w) os).trans (by rw[PySem.W.Fast.te13941785742285067565];kernel_rfl)
theorem left:PySem.W.LeftO PySem.Challenge.pw_friezeyard_k17_texts_refused q [] xtH (PySem.W.Hook.obs hook) (PySem.W.Hook.val hook) 10468:=xJ (by kernel_rfl) (by kernel_rfl) (fun _=>by kernel_rfl) vF
end K17
namespace L2
open PySem PySem.Spec PyProof.Rows
abbrev Key:=Sum Int Str
noncomputable def V9:Key->Value->Bool
 | .inl k,v=>Value.isInt k v
 | .inr x,v=>Value.isStrOf x v
noncomputable def y6q(w:World):Key->Int
 | .inl k=>hashInt k
 | .inr x=>hashStr w x
theorem N0:∀{k:Key}{v:Value},V9 k v=true->(∃i t,k=Sum.inl i/\v=Value.int i t)\/(∃x t,k=Sum.inr x/\v=Value.str x t)
 | .inl i,v,h=>by obtain⟨t,e⟩:=Value.isInt_shape (k:=i) (v:=v) h;exact .inl ⟨i,t,rfl,e⟩
 | .inr x,v,h=>by obtain⟨t,e⟩:=Value.isStrOf_shape (x:=x) (v:=v) h;exact .inr ⟨x,t,rfl,e⟩
def zjy(i:Int)(t:Tok):V9 (.inl i) (.int i t)=true:=by simp[V9,Value.isInt]
def zjz(x:Str)(t:Tok):V9 (.inr x) (.str x t)=true:=by simp[V9,Value.isStrOf]
def vE(a b:Int):decide ((Sum.inl a:Key)=Sum.inl b)=(a==b):=by
 by_cases e:a=b
 . subst e;simp
 . have h:¬(Sum.inl a:Key)=Sum.inl b:=fun q=>e (Sum.inl.inj q)
   rw[decide_eq_false h];exact(GD.mpr e).symm
def vD(a b:Str):decide ((Sum.inr a:Key)=Sum.inr b)=decide (a=b):=by
 by_cases e:a=b
 . subst e;simp
 . have h:¬(Sum.inr a:Key)=Sum.inr b:=fun q=>e (Sum.inr.inj q)
   rw[decide_eq_false h,decide_eq_false e]
def vC(a:Int)(b:Str):decide ((Sum.inl a:Key)=Sum.inr b)=false:=decide_eq_false (fun q=>nomatch q)
def vB(a:Str)(b:Int):decide ((Sum.inr a:Key)=Sum.inl b)=false:=decide_eq_false (fun q=>nomatch q)
def G9(prog:Program)(w:World):PySem.KeyKind prog w Key where
 is:=V9
 hash:=y6q w
 inj:=fun v a b ha hb=>by
  rcases N0 ha with⟨i,t,rfl,rfl⟩ |⟨x,t,rfl,rfl⟩
  . rcases N0 hb with⟨j,u,rfl,e⟩ |⟨y,u,rfl,e⟩
    . injection e with e1 _;rw[e1]
    . exact nomatch e
  . rcases N0 hb with⟨j,u,rfl,e⟩ |⟨y,u,rfl,e⟩
    . exact nomatch e
    . injection e with e1 _;rw[e1]
 byValue:=fun k v h=>by rcases N0 h with⟨i,t,rfl,rfl⟩ |⟨x,t,rfl,rfl⟩<;>rfl
 pyHash:=fun hv h=>by
  rcases N0 hv with⟨i,t,rfl,rfl⟩ |⟨x,t,rfl,rfl⟩
  . exact wpAny_pyHash_int h
  . exact wpAny_pyHash_str h
 eqBool:=fun hu hv h=>by
  rcases N0 hu with⟨i,t,rfl,rfl⟩ |⟨x,t,rfl,rfl⟩
  . rcases N0 hv with⟨j,u,rfl,rfl⟩ |⟨y,u,rfl,rfl⟩
    . rw[vE]at h;exact wpAny_eqBool_int h
    . rw[vC]at h;exact SeqAt.EqAt.int_str i t y u _ _ _ _ h
  . rcases N0 hv with⟨j,u,rfl,rfl⟩ |⟨y,u,rfl,rfl⟩
    . rw[vB]at h;exact SeqAt.EqAt.str_int x t j u _ _ _ _ h
    . rw[vD]at h;exact wpAny_eqBool_str h
 «strs»:=fun k x t v h=>by
  rcases N0 h with⟨i,u,rfl,e⟩ |⟨y,u,rfl,e⟩
  . exact nomatch e
  . injection e with e1 _;subst e1;cases v<;>rfl
def zfm(prog:Program)(w:World)(i:Int)(t:Tok):(G9 prog w).is (.inl i) (.int i t)=true:=zjy i t
def zfn(prog:Program)(w:World)(x:Str)(t:Tok):(G9 prog w).is (.inr x) (.str x t)=true:=zjz x t
inductive V where
 |non |bl (b:Bool) |int (i:Int) |str (x:Str) |byt (b:Array UInt8) |flt (b:UInt64) |ref (a:Addr) |ty (n:String)
 deriving DecidableEq
def RelV:V->Value->Prop
 | .non,u=>u=Value.none
 | .bl b,u=>u=Value.bool b
 | .int i,u=>∃t,u=Value.int i t
 | .str x,u=>∃t,u=Value.str x t
 | .byt b,u=>∃t,u=Value.bytes b t
 | .flt b,u=>∃t,u=Value.float b t
 | .ref a,u=>u=Value.ref a
 | .ty n,u=>u=Value.type n
abbrev Vals:List V->List Value->Prop:=Paired RelV
def Vals.length(r:Vals xs us):xs.length=us.length:=Paired.length r
theorem Vals.get:∀{xs:List V}{us:List Value}{i:Nat}{x:V},Vals xs us->xs[i]?=some x->∃u,us[i]?=some u/\RelV x u
 |_,_,_,_,.nil,e=>by simp at e
 |_,_,0,_,.cons r _,e=>by simp at e;subst e;exact⟨_,rfl,r⟩
 |_,_,i+1,x,.cons _ t,e=>by obtain⟨u,h1,h2⟩:=Vals.get (i:=i) (x:=x) t (by simpa using e);exact⟨u,by simpa using h1,h2⟩
theorem Vals.set(r:RelV x u):∀{xs:List V}{us:List Value}(i:Nat),Vals xs us->Vals (xs.set i x) (us.set i u)
 |_,_,_,.nil=>.nil
 |_,_,0,.cons _ t=>.cons r t
 |_,_,i+1,.cons q t=>.cons q (Vals.set r i t)
theorem Vals.append:∀{xs ys:List V}{us ws:List Value},Vals xs us->Vals ys ws->Vals (xs++ys) (us++ws)
 |_,_,_,_,.nil,s=>s
 |_,_,_,_,.cons r t,s=>.cons r (Vals.append t s)
theorem Vals.take:∀{xs:List V}{us:List Value}(n:Nat),Vals xs us->Vals (xs.take n) (us.take n)
 |_,_,0,_=>.nil
 |_,_,_+1,.nil=>.nil
 |_,_,n+1,.cons r t=>.cons r (Vals.take n t)
theorem Vals.drop:∀{xs:List V}{us:List Value}(n:Nat),Vals xs us->Vals (xs.drop n) (us.drop n)
 |_,_,0,r=>r
 |_,_,_+1,.nil=>.nil
 |_,_,n+1,.cons _ t=>Vals.drop n t
def RelO:Option V->Option Value->Prop
 |some v,some u=>RelV v u
 |none,none=>True
 |_,_=>False
def KV{κ:Type}:List (κ×V)->List (κ×Value)->Prop:=Paired fun (p:κ×V)(q:κ×Value)=>p.1=q.1/\RelV p.2 q.2
noncomputable def kV:Key->V
 | .inl i=>.int i
 | .inr x=>.str x
def IsTp(h:Heap)(a:Addr)(its:Array Value):Prop:=∃o,h.get? a=some o/\o.cls=.type "tuple"/\(∃n,o.data=.seq its n)/\o.dict=none
def IsTp.tup(p:IsTp h a its):IsTup h a its:=by obtain⟨o,e,c,d,_⟩:=p;exact⟨o,e,c,d⟩
def IsTp.lt(p:IsTp h a its):a<h.objs.size:=by obtain⟨o,e,_⟩:=p;exact π e
def IsTp.mk'(e:h.get? a=some { cls:=.type "tuple",data:=.seq its n,slots:=sl }):IsTp h a its:=⟨_,e,rfl,⟨n,rfl⟩,rfl⟩
inductive HO where
 /-- a list -/
 |lst (xs:List V)
 /-- a tuple (never changes) -/
 |tup (xs:List V)
 /-- a dict whose keys are ints and texts;one whose keys are tuples of ints and texts (the empty one is both) -/
 |dK (kvs:List (Key×V)) |dT (kvs:List (List Key×V))
 /-- a set of ints: its members,its size -/
 |set (S:Int->Bool) (n:Nat)
 /-- an instance of the class at C,its dict at dx,its attributes -/
 |ins (C dx:Addr) (fs:List (Str×V))
 /-- the dict of the instance at x -/
 |own (x:Addr)
 /-- the dict of an exception -/
 |xd (fs:List (Str×V))
 /-- a bound method,f of x -/
 |met (f x:Addr)
 /-- a range object lo,lo+1,.. below hi -/
 |rng (lo hi:Int)
 /-- a thing that is known to the object (the script;a dict while a loop walks it): read,never written while it is so -/
 |frz (o:Obj) (u:HO)
 /-- a code object's table -/
 |tbl (ps:Array Value)
 /-- the table of a def that makes lambdas,all of the qualname q -/
 |ctb (q:Str)
 /-- any other thing,by what is true of its one object (a def of one's own: SetO a S n:=HO.ext fun h=>..) -/
 |ext (φ:Heap->Prop)
abbrev Hp:=Addr->Option HO
noncomputable def upd(H:Hp)(a:Addr)(o:HO):Hp:=fun b=>if b=a then some o else H b
def j9:upd H a o a=some o:=by unfold upd;rw[ξ rfl]
def d8(h:b≠a):upd H a o b=H b:=by unfold upd;rw[ψ h]
def z5{H:Hp}{a b:Addr}{o:HO}(h:H a=some o)(h':H b=none):a≠b:=by intro e;subst e;rw[h]at h';cases h'
section
variable (P:Program)(w:World)
def ObjOk(H:Hp)(h:Heap)(a:Addr):HO->Prop
 | .lst xs=>xs.length<=sizeLine/\∃(its:List Value)(n:Nat),Vals xs its/\h.get? a=some { cls:=.type "list",data:=.seq its.toArray n }
 | .tup xs=>xs.length<=sizeLine/\∃its:List Value,Vals xs its/\IsTp h a its.toArray
 | .dK kvs=>kvs.length<=sizeLine/\(a==sysModules)=false/\∃vs,KV kvs vs/\h.DictOf (G9 P w) a vs
 | .dT kvs=>kvs.length<=sizeLine/\(a==sysModules)=false/\∃xs:List (List Key×Addr×Value),
  Paired (fun (p:List Key×V)(q:List Key×Addr×Value)=>p.1=q.1/\H q.2.1=some (.tup (p.1.map kV))/\RelV p.2 q.2.2) kvs xs /\
  ∃o es ep,h.get? a=some o/\o.ExactDict/\o.data=.dict es ep/\es.toList=xs.map (entryOfKey (tupleKind (G9 P w)))/\(xs.map (·.1)).Nodup
 | .set S n=>h.SetOf (intKind P w) a S n
 | .ins C dx fs=>H dx=some (.own a)/\fs.length<=1000/\dx≠a/\h.get? a=some (PySem.W.instObj C dx) /\
  ∃mA,h.Ns1 dx mA/\(∀f,RelO (fs.lookup f) (mA f))/\PySem.Within mA (fs.map (·.1))
 | .own _=>∃o,h.get? a=some o
 | .xd fs=>∃mA,h.Ns1 a mA/\∀f,RelO (fs.lookup f) (mA f)
 | .rng lo hi=>∃t u v,h.get? a=some { cls:=.type "range",data:=.fields #[.int lo t,.int hi u,.int 1 v] }
 | .frz o u=>h.get? a=some o/\ObjOk H h a u
 | .tbl ps=>h.get? a=some { cls:=.none,data:=.fields ps }
 | .ctb q=>∃ps:Array Value,h.get? a=some { cls:=.none,data:=.fields ps }/\TriplesOk ps.toList/\∀(pos:Pos)(v:Value),codeAmong pos ps.toList=some v->∃c,v=.ref c/\H c=some (.own a)/\h.CodeRec (.ref c) q
 | .met f x=>h.get? a=some (PySem.W.methodObj (.ref f) (.ref x))
 | .ext φ=>φ h/\(∃o,h.get? a=some o)/\∀h1 h2:Heap,φ h1->(∀o,h1.get? a=some o->h2.get? a=some o)->φ h2
def HOk(H:Hp)(h:Heap):Prop:=∀a o,H a=some o->ObjOk P w H h a o
end
section
variable {P:Program}{w:World}{H H':Hp}{h h':Heap}{a:Addr}{o:HO}
def ObjOk.lt(x:ObjOk P w H h a o):a<h.objs.size:=by
 cases o with
 |lst xs=>obtain⟨_,_,_,_,e⟩:=x;exact π e
 |tup xs=>obtain⟨_,_,_,p⟩:=x;exact p.lt
 |dK kvs=>obtain⟨_,_,_,_,o,_,_,e,_⟩:=x;exact π e
 |dT kvs=>obtain⟨_,_,_,_,o,_,_,e,_⟩:=x;exact π e
 |set S n=>obtain⟨o,_,_,_,e,_⟩:=x;exact π e
 |ins C dx fs=>obtain⟨_,_,_,e,_⟩:=x;exact π e
 |own y=>obtain⟨_,e⟩:=x;exact π e
 |xd fs=>obtain⟨_,⟨_,_,_,e,_⟩,_⟩:=x;exact π e
 |rng lo hi=>obtain⟨_,_,_,e⟩:=x;exact π e
 |frz ob u=>obtain⟨e,_⟩:=x;exact π e
 |tbl ps=>exact π (show h.get? a=some _ from x)
 |ctb q=>obtain⟨_,e,_⟩:=x;exact π e
 |met f y=>exact π (show h.get? a=some _ from x)
 |ext φ=>obtain⟨_,⟨_,e⟩,_⟩:=x;exact π e
theorem Paired.mapP:∀{mZ:List α}{nh:List β},Paired F mZ nh->(∀a b,F a b->G a b)->Paired G mZ nh
 |_,_,.nil,_=>.nil
 |_,_,.cons r t,f=>.cons (f _ _ r) (Paired.mapP t f)
def ObjOk.stay(x:ObjOk P w H h a o)(k:∀b u,(b=a\/H b=some (.own a))->h.get? b=some u->h'.get? b=some u)
  (ho:∀b,H b=some (.own a)->H' b=some (.own a)) (ht:∀b xs,H b=some (.tup xs)->H' b=some (.tup xs)):ObjOk P w H' h' a o:=by
 induction o with
 |lst xs=>obtain⟨z,its,n,r,e⟩:=x;exact⟨z,its,n,r,k _ _ (.inl rfl) e⟩
 |tup xs=>obtain⟨z,its,r,ob,e,c⟩:=x;exact⟨z,its,r,ob,k _ _ (.inl rfl) e,c⟩
 |dK kvs=>obtain⟨z,y,vs,r,ob,es,ep,e,c⟩:=x;exact⟨z,y,vs,r,ob,es,ep,k _ _ (.inl rfl) e,c⟩
 |dT kvs=>
  obtain⟨z,y,xs,r,ob,es,ep,e,c⟩:=x
  exact⟨z,y,xs,Paired.mapP r fun p q z=>⟨z.1,ht _ _ z.2.1,z.2.2⟩,ob,es,ep,k _ _ (.inl rfl) e,c⟩
 |set S n=>obtain⟨ob,es,ep,t,e,c⟩:=x;exact⟨ob,es,ep,t,k _ _ (.inl rfl) e,c⟩
 |ins C dx fs=>
  obtain⟨d,z,ne,e,mA,⟨od,es,ep,e2,c⟩,r⟩:=x
  exact⟨ho _ d,z,ne,k _ _ (.inl rfl) e,mA,⟨od,es,ep,k _ _ (.inr d) e2,c⟩,r⟩
 |own y=>obtain⟨ob,e⟩:=x;exact⟨ob,k _ _ (.inl rfl) e⟩
 |xd fs=>obtain⟨mA,⟨od,es,ep,e,c⟩,r⟩:=x;exact⟨mA,⟨od,es,ep,k _ _ (.inl rfl) e,c⟩,r⟩
 |rng lo hi=>obtain⟨t,u,v,e⟩:=x;exact⟨t,u,v,k _ _ (.inl rfl) e⟩
 |frz ob u ih=>obtain⟨e,q⟩:=x;exact⟨k _ _ (.inl rfl) e,ih q⟩
 |tbl ps=>
  have e:h.get? a=some { cls:=.none,data:=.fields ps }:=x
  show h'.get? a=some { cls:=.none,data:=.fields ps }
  exact k a _ (.inl rfl) e
 |ctb q=>
  obtain⟨ps,e,t,c⟩:=x
  refine⟨ps,k _ _ (.inl rfl) e,t,fun pos v hb=>?_⟩
  obtain⟨b,rfl,z,c2,oc,vs,tq,e1,e2,e3⟩:=c pos v hb
  cases e1
  exact⟨b,rfl,ho _ z,b,oc,vs,tq,rfl,k _ _ (.inr z) e2,e3⟩
 |met f y=>
  have e:h.get? a=some (PySem.W.methodObj (.ref f) (.ref y)):=x
  show h'.get? a=some (PySem.W.methodObj (.ref f) (.ref y))
  exact k a _ (.inl rfl) e
 |ext φ=>obtain⟨p,⟨o,e⟩,st⟩:=x;exact⟨st _ _ p fun o q=>k _ _ (.inl rfl) q,⟨o,k _ _ (.inl rfl) e⟩,st⟩
def HOk.lt(x:HOk P w H h)(e:H a=some o):a<h.objs.size:=(x a o e).lt
def HOk.fresh(x:HOk P w H h)(e:h.objs.size<=a):H a=none:=by
 cases q:H a with
 |none=>rfl
 |some u=>exact absurd (ES (x.lt q) e) (χ _)
def HOk.kept(x:HOk P w H h)(k:∀b u,h.get? b=some u->h'.get? b=some u):HOk P w H h':=fun a o e=>
 (x a o e).stay (fun b u _ q=>k b u q) (fun _ q=>q) fun _ _ q=>q
def HOk.laid(x:HOk P w H h)(k:∀b u,h.get? b=some u->h'.get? b=some u)(hp:h.objs.size<=a)(new:ObjOk P w (upd H a o) h' a o):HOk P w (upd H a o) h':=fun b u e=>by
 have hn:=x.fresh hp;by_cases hb:b=a
 . subst hb;rw[j9]at e;cases e;exact new
 . rw[d8 hb]at e;exact(x b u e).stay (fun c v _ q=>k c v q) (fun c q=>by rw[d8 (z5 q hn)];exact q) fun c xs q=>by rw[d8 (z5 q hn)];exact q
end
def Rd(H:Hp)(a:Addr)(u:HO):Prop:=H a=some u\/∃o,H a=some (.frz o u)
def Rd.ok(r:Rd H a u)(x:HOk P w H h):ObjOk P w H h a u:=by
 rcases r with r |⟨o,r⟩
 . exact x a u r
 . obtain⟨_,q⟩:=x a _ r;exact q
def Mut:Option HO->Prop
 |some (.lst _)=>True
 |some (.dK _)=>True
 |some (.dT _)=>True
 |some (.set _ _)=>True
 |some (.ins _ _ _)=>True
 |some (.ext _)=>True
 |_=>False
section
variable {P:Program}{w:World}{H:Hp}{h h':Heap}{x e:Addr}{o':HO}
def HOk.write(ok:HOk P w H h)(mu:Mut (H x))(he:e=x\/H e=some (.own x))(k:∀b u,b≠e->h.get? b=some u->h'.get? b=some u)(ir:∃u,h'.get? e=some u)
  (new:ObjOk P w (upd H x o') h' x o'):HOk P w (upd H x o') h':=fun b u q=>by
 have nj:∀c y,H c=some (.own y)->c≠x:=fun c y r z=>by subst z;rw[r]at mu;exact mu
 have pX:∀c xs,H c=some (.tup xs)->c≠x:=fun c xs r z=>by subst z;rw[r]at mu;exact mu
 by_cases hb:b=x
 . subst hb;rw[j9]at q;cases q;exact new
 . rw[d8 hb]at q;by_cases gH:b=e
   . have q':H b=some (.own x):=by
      rcases he with z |z
      . exact absurd (gH.trans z) hb
      . rw[gH];exact z
     rw[q]at q';cases q'
     obtain⟨v,hv⟩:=ir
     exact⟨v,by rw[gH];exact hv⟩
   . refine(ok b u q).stay (fun c v hc r=>k c v ?_ r) (fun c r=>by rw[d8 (nj c b r)];exact r) fun c xs r=>by rw[d8 (pX c xs r)];exact r
     rcases hc with rfl |hc
     . exact gH
     . rintro rfl;rcases he with z |z
       . exact nj c b hc z
       . rw[hc]at z;cases z;exact hb rfl
end
structure Un(fs ex:List Addr)(H H':Hp)(h h':Heap):Prop where
 keep:∀b o,h.get? b=some o->H b=none->b∉fs->b∉ex->h'.get? b=some o
 slot:∀b o,h.get? b=some o->H b=none->b∈fs->b∉ex->∃sl,h'.get? b=some { o with slots:=sl }
 free:∀b o,h.get? b=some o->H b=none->b∉ex->H' b=none
 there:∀b o,h.get? b=some o->b∉ex->∃o',h'.get? b=some o'
 tups:∀b xs,H b=some (.tup xs)->H' b=some (.tup xs)
 frzs:∀b o u,H b=some (.frz o u)->H' b=some (.frz o u)
 tbls:∀b ps,H b=some (.tbl ps)->∃more,H' b=some (.tbl (ps++more))
section
variable {fs ex:List Addr}{H H1 H2:Hp}{h h1 h2 h':Heap}{a x e:Addr}{o:HO}
def Un.any(u:Un fs ex H H1 h h1)(q:h.get? b=some ob)(n:H b=none)(hx:b∉ex):∃sl,h1.get? b=some { ob with slots:=sl }:=by
 by_cases hb:b∈fs
 . exact u.slot b ob q n hb hx
 . exact⟨ob.slots,u.keep b ob q n hb hx⟩
def Un.trans(a:Un fs ex H H1 h h1)(b:Un fs ex H1 H2 h1 h2):Un fs ex H H2 h h2 where
 keep:=fun c ob q n hc hx=>b.keep c ob (a.keep c ob q n hc hx) (a.free c ob q n hx) hc hx
 slot:=fun c ob q n hc hx=>by obtain⟨sl,e1⟩:=a.slot c ob q n hc hx;obtain⟨nS,e2⟩:=b.slot c _ e1 (a.free c ob q n hx) hc hx;exact⟨nS,e2⟩
 free:=fun c ob q n hx=>by obtain⟨o',e1⟩:=a.there c ob q hx;exact b.free c o' e1 (a.free c ob q n hx) hx
 there:=fun c ob q hx=>by obtain⟨o',e1⟩:=a.there c ob q hx;exact b.there c o' e1 hx
 tups:=fun c xs q=>b.tups c xs (a.tups c xs q)
 frzs:=fun c ob xs q=>b.frzs c ob xs (a.frzs c ob xs q)
 tbls:=fun c ps q=>by obtain⟨m1,e1⟩:=a.tbls c ps q;obtain⟨m2,e2⟩:=b.tbls c _ e1;exact⟨m1++m2,by rw[e2,IL]⟩
def Un.kept(k:∀b u,h.get? b=some u->h'.get? b=some u):Un fs ex H H h h':=
 ⟨fun b ob q _ _ _=>k b ob q,fun b ob q _ _ _=>⟨ob.slots,k b ob q⟩,fun _ _ _ n _=>n,fun b ob q _=>⟨ob,k b ob q⟩,fun _ _ q=>q,fun _ _ _ q=>q,fun _ ps q=>⟨#[],by rw[q];simp⟩⟩
def Un.refl:Un fs ex H H h h:=Un.kept fun _ _ q=>q
def Un.laid(k:∀b u,h.get? b=some u->h'.get? b=some u)(hp:h.objs.size<=a)(hn:H a=none):Un fs ex H (upd H a o) h h' where
 keep:=fun b u q _ _ _=>k b u q
 slot:=fun b u q _ _ _=>⟨u.slots,k b u q⟩
 free:=fun b u q n _=>by rw[d8 (ER (ES (π q) hp))];exact n
 there:=fun b u q _=>⟨u,k b u q⟩
 tups:=fun b xs q=>by rw[d8 (z5 q hn)];exact q
 frzs:=fun b u xs q=>by rw[d8 (z5 q hn)];exact q
 tbls:=fun b ps q=>⟨#[],by rw[d8 (z5 q hn),q];simp⟩
def Un.write(mu:Mut (H x))(he:e=x\/H e=some (.own x))(k:∀b u,b≠e->h.get? b=some u->h'.get? b=some u)(ir:∃u,h'.get? e=some u):Un fs ex H (upd H x o) h h':=by
 have hx:∀b,H b=none->b≠x:=fun b n z=>by subst z;rw[n]at mu;exact mu
 have hb:∀b,H b=none->b≠e:=fun b n z=>by
  subst z;rcases he with r |r
  . exact hx b n r
  . rw[n]at r;cases r
 have hm:∀b u,H b=some u->¬Mut (some u)->b≠x:=fun b u q nm z=>by subst z;rw[q]at mu;exact nm mu
 refine⟨fun b u q n _ _=>k b u (hb b n) q,fun b u q n _ _=>⟨u.slots,k b u (hb b n) q⟩,fun b u q n _=>by rw[d8 (hx b n)];exact n,fun b u q _=>?_,
  fun b xs q=>by rw[d8 (hm b _ q fun z=>z)];exact q,fun b u xs q=>by rw[d8 (hm b _ q fun z=>z)];exact q,fun b ps q=>⟨#[],by rw[d8 (hm b _ q fun z=>z),q];simp⟩⟩
 by_cases gH:b=e
 . subst gH;exact ir
 . exact⟨u,k b u gH q⟩
end
noncomputable def trk(h:Heap)(H:Hp):List Addr:=(List.range h.objs.size).filter fun a=>(H a).isSome
def K9(h:Heap)(H:Hp):Heap:=hideAll h (trk h H)
def zk0(h:Heap)(H:Hp):(K9 h H).objs.size=h.objs.size:=PySem.W.hideAll_size _ _
def zk(e:h.get? b=some o)(n:H b=none):(K9 h H).get? b=some o:=
 hideAll_get _ e fun hm=>by have q:(H b).isSome=true:=(HN.mp hm).2;rw[n]at q;simp at q
def xI(e:(K9 h H).get? b=some o):h.get? b=some o/\H b=none:=by
 have e':h.get? b=some o:=of_hideAll (trk h H) e;refine⟨e',?_⟩;cases q:H b with
 |none=>rfl
 |some x=>
  have hm:b∈trk h H:=HN.mpr ⟨IH.mpr (π e'),by simp[q]⟩
  have z:(K9 h H).get? b=none:=hideAll_none (trk h H) hm
  rw[z]at e;cases e
noncomputable def En(g h:Heap)(L:Addr):List (Addr×Obj):=(List.range h.objs.size).filterMap fun a=>if a=L\/(g.get? a).isSome=true then none else(h.get? a).map fun o=>(a,o)
def zfo(h1:a≠L)(h2:g.get? a=none)(h3:h.get? a=some o):(a,o)∈En g h L:=
 GS.mpr ⟨a,IH.mpr (π h3),by simp[h1,h2,h3]⟩
def zau(hp:p∈En g h L):p.1≠L/\g.get? p.1=none/\h.get? p.1=some p.2:=by
 obtain⟨b,_,e⟩:=GS.mp hp;split at e
 . cases e
 . rename_i hn;cases q:h.get? b with
   |none=>rw[q]at e;simp at e
   |some u=>
    rw[q]at e
    simp only[FC,Option.some.injEq]at e
    subst e
    refine⟨fun z=>hn (.inl z),?_,q⟩
    show g.get? b=none
    cases r:g.get? b with
    |none=>rfl
    |some v=>exact(hn (.inr (by simp[r]))).elim
def X7:News g L h (En g h L):=fun p hp=>let ⟨a,b,c⟩:=zau hp;⟨c,a,b⟩
structure Mod(K:Frag)(mg:Str->Option Value)(base:Heap):Prop where
 kin:K.In base
 glob:base.Ns mainGlobals mg
 blt:∃mb,base.Ns builtinsNs mb/\∀x:Str,x≠"__name__"->mb x=bootBuiltins x
 nolimit:base.NoLimit
structure Cx where
 prog:Program
 w:World
 K:Frag
 mg:Str->Option Value
 base:Heap
 A:Around
 N:List Str
 s₀:Shared
 H₀:Hp
 env:Env
 outer:List Env
 stack:List Env
 ex:List Addr
 fn:Str->Bool
 calm:Bool
 pn:List (Addr×Obj)
 xe:Value->Shared->Prop
noncomputable def frs(l:List Env):List Addr:=l.filterMap (·.frame)
abbrev Cx.fs(X:Cx):List Addr:=frs X.outer
def Vis(sc:Scope)(x:Str):Prop:=sc.names.lookup x=some .local\/sc.names.lookup x=some .cell\/sc.names.lookup x=some .free
def Loc(sc:Scope)(x:Str):Prop:=sc.names.lookup x=some .local\/sc.names.lookup x=some .cell
def y6r(env:Env)(h:Heap)(m:Str->Option Value)(x:Str)(u:Value):Prop:=
 (env.kindOf x=some .local/\m x=some u)\/((env.kindOf x=some .cell\/env.kindOf x=some .free)/\∃c,env.cells.lookup x=some c/\h.IsCell c (some u))
structure Cx.Ok(X:Cx):Prop where
 mod:Mod X.K X.mg X.base
 kind:X.env.scope.kind=.function
 glob:X.env.globals=mainGlobals
 blt:X.env.builtins=builtinsNs
 above:X.s₀.heap.objs.size<=X.env.locals
 inj:∀x y c,X.env.cells.lookup x=some c->X.env.cells.lookup y=some c->x=y
 has:∀x,(X.env.kindOf x=some .cell\/X.env.kindOf x=some .free)->∃c,X.env.cells.lookup x=some c
 cab:∀x c,X.fn x=true->X.env.cells.lookup x=some c->X.s₀.heap.objs.size<=c
 hd:X.calm=true->X.A.handled=none
 frames:X.A.frames=some X.stack
 stk:X.stack=X.outer\/(X.stack=X.env::X.outer/\X.env.frame=some X.env.locals)
 exf:∀b∈X.ex,b≠X.env.locals/\∀x c,X.env.cells.lookup x=some c->c≠b
 bs:∀b o,X.base.get? b=some o->X.s₀.heap.get? b=some o/\X.H₀ b=none
 bsz:X.base.objs.size<=X.s₀.heap.objs.size
 noex:∀b o,X.base.get? b=some o->b∉X.ex
 exfs:∀b∈X.ex,b∉X.fs
 funs:X.s₀.heap.FunFrames X.base X.outer
 frf:∀b∈X.fs,X.H₀ b=none
structure Inv(X:Cx)(pins:List (Addr×Obj))(σ:List (Option V))(H:Hp)(s:Shared):Prop where
 ok:X.Ok
 os:s.os=X.s₀.os
 bare:AllBare s.gens
 base:Un X.fs X.ex X.H₀ H X.s₀.heap s.heap
 loc:∃m,s.heap.Ns X.env.locals m/\∀(i:Nat)(x:Str)(v:V),X.N[i]?=some x->σ[i]?=some (some v)->Vis X.env.scope x->∃u,RelV v u/\y6r X.env s.heap m x u
 cell:∀x c,X.env.cells.lookup x=some c->∃v,s.heap.IsCell c v
 free:H X.env.locals=none
 freeC:∀x c,X.env.cells.lookup x=some c->H c=none
 pin:∀p∈X.pn++pins,s.heap.get? p.1=some p.2/\H p.1=none/\p.1≠X.env.locals/\p.1∉X.fs/\∀v,p.2.data≠.cell v
 hok:HOk X.prog X.w H s.heap
 len:σ.length=X.N.length
section
variable {X:Cx}{pins:List (Addr×Obj)}{σ:List (Option V)}{H H':Hp}{s:Shared}{h':Heap}
def Cx.Ok.nofr(ok:X.Ok)(e:X.base.get? b=some o):b∉X.fs:=fun hb=>by have:=(ok.funs.mem hb).1;rw[e]at this;cases this
def Inv.bs(I:Inv X pins σ H s):∀b o,X.base.get? b=some o->s.heap.get? b=some o/\H b=none:=fun b o e=>
 ⟨I.base.keep b o (I.ok.bs b o e).1 (I.ok.bs b o e).2 (I.ok.nofr e) (I.ok.noex b o e),I.base.free b o (I.ok.bs b o e).1 (I.ok.bs b o e).2 (I.ok.noex b o e)⟩
def Inv.bk(I:Inv X pins σ H s):∀b o,X.base.get? b=some o->s.heap.get? b=some o:=fun b o e=>(I.bs b o e).1
def Inv.mod(I:Inv X pins σ H s):Mod X.K X.mg X.base:=I.ok.mod
def Inv.kIn(I:Inv X pins σ H s):X.K.In s.heap:=I.ok.mod.kin.keeps I.bk
def Inv.lt(I:Inv X pins σ H s):X.env.locals<s.heap.objs.size:=let ⟨_,hn,_⟩:=I.loc;hn.lt
def Inv.sz(I:Inv X pins σ H s):X.s₀.heap.objs.size<=s.heap.objs.size:=EZ I.ok.above (HX I.lt)
def Inv.nofs(I:Inv X pins σ H s)(h:s.heap.objs.size<=a):a∉X.fs:=fun hb=>by obtain⟨_,o,ho,_⟩:=I.ok.funs.mem hb;exact absurd (ES (π ho) (EZ I.sz h)) (χ _)
def Inv.cne(I:Inv X pins σ H s):∀x c,X.env.cells.lookup x=some c->c≠X.env.locals:=fun x c e z=>by obtain⟨v,o,ho,hd⟩:=I.cell x c e;obtain⟨m,⟨o',es,ep,aS,cJ,_⟩,_⟩:=I.loc;rw[z,aS]at ho;cases ho;rw[cJ]at hd;cases hd
def Inv.funs(I:Inv X pins σ H s):s.heap.FunFrames X.base X.outer:=by
 have all:∀(l:List Env),(∀b∈frs l,b∈X.fs)->X.s₀.heap.FunFrames X.base l->s.heap.FunFrames X.base l:=by
  intro l;induction l with
  |nil=>intro _ _;trivial
  |cons env r ih=>
   intro hs hl
   obtain⟨hk,⟨L,o,hf,hn,ho,hd⟩,hr⟩:=hl
   have hL:L∈X.fs:=hs L (by unfold frs;rw[FO,hf];exact io)
   obtain⟨sl,e⟩:=I.base.slot L o ho (I.ok.frf L hL) hL fun z=>I.ok.exfs L z hL
   exact⟨hk,⟨L,_,hf,hn,e,hd⟩,ih (fun b hb=>hs b (by unfold frs;rw[FO,hf];exact bI _ hb)) hr⟩
 exact all X.outer (fun _ hb=>hb) I.ok.funs
def Inv.stack(I:Inv X pins σ H s):s.heap.FunFrames X.base X.stack:=by
 rcases I.ok.stk with e |⟨e,hf⟩
 . rw[e];exact I.funs
 . rw[e];obtain⟨m,hn,_⟩:=I.loc;refine .cons (by rw[I.ok.kind];decide) hf hn ?_ I.funs;exact IJ (EZ I.ok.bsz I.ok.above)
def Inv.stkSub(I:Inv X pins σ H s):∀b∈frs X.stack,b∈X.env.locals::X.fs:=fun b hb=>by
 rcases I.ok.stk with e |⟨e,hf⟩
 . rw[e]at hb;exact bI _ hb
 . rw[e]at hb;unfold frs at hb;rw[FO,hf]at hb;exact hb
def Inv.stkFree(I:Inv X pins σ H s):∀b∈frs X.stack,H b=none:=fun b hb=>by
 rcases ee.mp (I.stkSub b hb) with e |hb
 . rw[e];exact I.free
 . obtain⟨_,o,ho,_⟩:=I.ok.funs.mem hb;exact I.base.free b o ho (I.ok.frf b hb) fun z=>I.ok.exfs b z hb
def Inv.step{g':Array GenState}{t':Nat}{d':Drawn}{ch:List Addr}(I:Inv X pins σ H s)
  (dw:∀b∈ch,(b∈X.ex\/X.s₀.heap.objs.size<=b)/\b≠X.env.locals/\(∀x c,X.env.cells.lookup x=some c->c≠b)/\∀p∈X.pn++pins,p.1≠b)
  (keep:∀b o,b≠X.env.locals->b∉X.fs->b∉ch->s.heap.get? b=some o->H b=none->h'.get? b=some o)
  (slot:∀b o,b≠X.env.locals->b∈X.fs->b∉ch->s.heap.get? b=some o->H b=none->∃sl,h'.get? b=some { o with slots:=sl }) (free:∀b o,b∉ch->s.heap.get? b=some o->H b=none->H' b=none)
  (there:∀b o,b∉ch->s.heap.get? b=some o->∃o',h'.get? b=some o')
  (tups:∀b xs,H b=some (.tup xs)->H' b=some (.tup xs)) (frzs:∀b o u,H b=some (.frz o u)->H' b=some (.frz o u)) (tbls:∀b ps,H b=some (.tbl ps)->∃more,H' b=some (.tbl (ps++more)))
  (ns:∀m,s.heap.Ns X.env.locals m->h'.Ns X.env.locals m) (hok:HOk X.prog X.w H' h') (hg:AllBare g') :
  Inv X pins σ H' { s with heap:=h',gens:=g',drawn:=d',toks:=t' }:=by
 have eG:∀b o,X.s₀.heap.get? b=some o->b≠X.env.locals:=fun b o e=>ER (ES (π e) I.ok.above)
 have mG:∀b o,X.s₀.heap.get? b=some o->b∉X.ex->b∉ch:=fun b o e hx hb=>by
  rcases (dw b hb).1 with z |z
  . exact hx z
  . exact absurd (ES (π e) z) (χ _)
 have iJ:∀x c,X.env.cells.lookup x=some c->∀v,s.heap.IsCell c v->h'.IsCell c v:=fun x c e v ⟨o,ho,hd⟩=>by
  have ll:c∉ch:=fun z=>(dw c z).2.2.1 x c e rfl
  by_cases hc:c∈X.fs
  . obtain⟨sl,q⟩:=slot c o (I.cne x c e) hc ll ho (I.freeC x c e);exact⟨_,q,hd⟩
  . exact⟨o,keep c o (I.cne x c e) hc ll ho (I.freeC x c e),hd⟩
 refine⟨I.ok,I.os,hg,⟨fun b o e n hb hx=>?_,fun b o e n hb hx=>?_,fun b o e n hx=>?_,fun b o e hx=>?_,fun b xs e=>tups b xs (I.base.tups b xs e),fun b o xs e=>frzs b o xs (I.base.frzs b o xs e),fun b ps e=>?_⟩,?_,fun x c e=>?_,?_,fun x c e=>?_,fun p hp=>?_,hok,I.len⟩
 . exact keep b o (eG b o e) hb (mG b o e hx) (I.base.keep b o e n hb hx) (I.base.free b o e n hx)
 . obtain⟨sl,e1⟩:=I.base.slot b o e n hb hx;obtain⟨nS,e2⟩:=slot b _ (eG b o e) hb (mG b o e hx) e1 (I.base.free b o e n hx);exact⟨nS,e2⟩
 . obtain⟨o',e1⟩:=I.base.there b o e hx;exact free b o' (mG b o e hx) e1 (I.base.free b o e n hx)
 . obtain⟨o',e1⟩:=I.base.there b o e hx;exact there b o' (mG b o e hx) e1
 . obtain⟨m1,e1⟩:=I.base.tbls b ps e;obtain⟨m2,e2⟩:=tbls b _ e1;exact⟨m1++m2,by rw[e2,IL]⟩
 . obtain⟨m,hn,hl⟩:=I.loc;refine⟨m,ns m hn,fun i x v e1 e2 e3=>?_⟩;obtain⟨u,r,l⟩:=hl i x v e1 e2 e3;refine⟨u,r,?_⟩;rcases l with l |⟨k,c,e,z⟩
   . exact .inl l
   . exact .inr ⟨k,c,e,iJ x c e _ z⟩
 . obtain⟨v,z⟩:=I.cell x c e;exact⟨v,iJ x c e v z⟩
 . obtain⟨m,⟨o,_,_,ho,_⟩,_⟩:=I.loc;exact free _ o (fun z=>(dw _ z).2.1 rfl) ho I.free
 . obtain⟨v,o,ho,hd⟩:=I.cell x c e;exact free c o (fun z=>(dw c z).2.2.1 x c e rfl) ho (I.freeC x c e)
 . obtain⟨e,n,ne,nf,d⟩:=I.pin p hp;have ll:p.1∉ch:=fun z=>(dw p.1 z).2.2.2 p hp rfl
   exact⟨keep p.1 p.2 ne nf ll e n,free p.1 p.2 ll e n,ne,nf,d⟩
def Inv.un(I:Inv X pins σ H s)(u:Un X.fs [] H H' s.heap h')(hok:HOk X.prog X.w H' h'):Inv X pins σ H' { s with heap:=h',toks:=t' }:=by obtain⟨m,⟨o,es,ep,ho,r⟩,_⟩:=id I.loc;obtain⟨sl,hL⟩:=u.any ho I.free (by simp);exact I.step (g':=s.gens) (d':=s.drawn) (ch:=[]) (fun _ z=>nomatch z) (fun b o _ hb _ e n=>u.keep b o e n hb (by simp)) (fun b o _ hb _ e n=>u.slot b o e n hb (by simp)) (fun b o _ e n=>u.free b o e n (by simp)) (fun b o _ e=>u.there b o e (by simp)) u.tups u.frzs u.tbls (fun m' hm=>by obtain⟨o',nU,nV,aS,r'⟩:=hm;rw[ho]at aS;cases aS;exact⟨_,nU,nV,hL,r'⟩) hok I.bare
def Inv.call(I:Inv X pins σ H s)(u:Un (frs X.stack) ch H H' s.heap h')(hok:HOk X.prog X.w H' h')(hg:AllBare g')
  (dw:∀b∈ch,(b∈X.ex\/X.s₀.heap.objs.size<=b)/\b≠X.env.locals/\(∀x c,X.env.cells.lookup x=some c->c≠b)/\∀p∈X.pn++pins,p.1≠b) :
  Inv X pins σ H' { s with heap:=h',gens:=g',drawn:=d',toks:=t' }:=by
 obtain⟨m,⟨o,es,ep,ho,r⟩,_⟩:=id I.loc
 obtain⟨sl,hL⟩:=u.any ho I.free fun z=>(dw _ z).2.1 rfl
 exact I.step (ch:=ch) dw (fun b o hL hb hc e n=>u.keep b o e n (fun z=>(ee.mp (I.stkSub b z)).elim hL hb) hc) (fun b o _ _ hc e n=>u.any e n hc) (fun b o hc e n=>u.free b o e n hc) (fun b o hc e=>u.there b o e hc) u.tups u.frzs u.tbls (fun m' hm=>by obtain⟨o',nU,nV,aS,r'⟩:=hm;rw[ho]at aS;cases aS;exact⟨_,nU,nV,hL,r'⟩) hok hg
def Inv.turned(I:Inv X pins σ H s)(k:∀b o,b≠it->s.heap.get? b=some o->h'.get? b=some o)(hn:H it=none)(hL:it≠X.env.locals)
  (h1:it∈X.ex\/X.s₀.heap.objs.size<=it) (h2:∀x c,X.env.cells.lookup x=some c->c≠it) (h3:∀p∈X.pn++pins,p.1≠it):Inv X pins σ H { s with heap:=h',toks:=t' }:=by
 have rS:∀b u,H b=some u->b≠it:=fun b u e z=>by rw[z,hn]at e;cases e
 refine I.step (g':=s.gens) (d':=s.drawn) (ch:=[it]) (fun b hb=>?_) (fun b o _ _ hc e _=>k b o (fun z=>hc (by simp[z])) e) (fun b o _ _ hc e _=>⟨o.slots,k b o (fun z=>hc (by simp[z])) e⟩) (fun _ _ _ _ n=>n)
  (fun b o hc e=>⟨o,k b o (fun z=>hc (by simp[z])) e⟩) (fun _ _ e=>e) (fun _ _ _ e=>e) (fun b ps e=>⟨#[],by rw[e];simp⟩) (fun m hm=>?_) (fun b u e=>?_) I.bare
 . have e:b=it:=by simpa using hb
   subst e;exact⟨h1,hL,h2,h3⟩
 . obtain⟨o,es,ep,ho,r⟩:=hm;exact⟨o,es,ep,k _ o (GN hL) ho,r⟩
 . refine(I.hok b u e).stay (fun c v hc q=>k c v ?_ q) (fun _ q=>q) fun _ _ q=>q
   rcases hc with z |z
   . rw[z];exact rS b u e
   . exact rS c _ z
def Inv.tok(I:Inv X pins σ H s)(t:Nat):Inv X pins σ H { s with toks:=t }:=I.un (h':=s.heap) (t':=t) Un.refl I.hok
def Inv.kept(I:Inv X pins σ H s)(k:∀b u,s.heap.get? b=some u->h'.get? b=some u):Inv X pins σ H { s with heap:=h',toks:=t' }:=I.un (Un.kept k) (I.hok.kept k)
def Inv.laid(I:Inv X pins σ H s)(k:∀b u,s.heap.get? b=some u->h'.get? b=some u)(hp:s.heap.objs.size<=a)(new:ObjOk X.prog X.w (upd H a o) h' a o) :
 Inv X pins σ (upd H a o) { s with heap:=h',toks:=t' }:=I.un (Un.laid k hp (I.hok.fresh hp)) (I.hok.laid k hp new)
def Inv.write(I:Inv X pins σ H s)(mu:Mut (H x))(he:e=x\/H e=some (.own x))(k:∀b u,b≠e->s.heap.get? b=some u->h'.get? b=some u)(ir:∃u,h'.get? e=some u)
 (new:ObjOk X.prog X.w (upd H x o) h' x o):Inv X pins σ (upd H x o) { s with heap:=h',toks:=t' }:=I.un (Un.write mu he k ir) (I.hok.write mu he k ir new)
def Inv.pins_of(I:Inv X pins σ H s)(h:∀p∈nJ,s.heap.get? p.1=some p.2/\H p.1=none/\p.1≠X.env.locals/\p.1∉X.fs/\∀v,p.2.data≠.cell v):Inv X nJ σ H s:=
 ⟨I.ok,I.os,I.bare,I.base,I.loc,I.cell,I.free,I.freeC,fun p hp=>(GW.mp hp).elim (fun z=>I.pin p (List.mem_append_left _ z)) (h p),I.hok,I.len⟩
def Mc{N:List Str}(hN:N.Nodup){i j:Nat}{x:Str}(a:N[i]?=some x)(b:N[j]?=some x):i=j:=by obtain⟨h1,e1⟩:=FK.mp a;obtain⟨h2,e2⟩:=FK.mp b;exact(List.getElem_inj hN).mp (e1.trans e2.symm)
def Mr(I:Inv X pins σ H s)(hN:X.N.Nodup)(hi:X.N[i]?=some x)(hx:Loc X.env.scope x)(r:RelV v u)
  (h:∀s',Inv X pins (σ.set i (some v)) H s'->(∃a,Heap.SameBut a s.heap s'.heap/\(a=X.env.locals\/X.env.cells.lookup x=some a))->Q () s') (hf:X.fn x=true\/X.env.scope.names.lookup x=some .local):wpAny M A (storeName X.env x u) Q E s:=by
 obtain⟨m,hn,hl⟩:=id I.loc
 have cM:(X.env.scope.kind==.class||(X.env.scope.kind==.module&&X.env.locals != X.env.globals))=false:=by rw[I.ok.kind];rfl
 have nq:i<σ.length:=by rw[I.len];exact(FK.mp hi).1
 have cne:=I.cne
 have fR:∀{a:Addr}{h':Heap},(∃o,s.heap.get? a=some o/\H a=none)->Heap.SameBut a s.heap h'->HOk X.prog X.w H h':=fun {a h'} ha hs b ob e=>by
  obtain⟨_,_,iK⟩:=ha;refine(I.hok b ob e).stay (fun c w' hc q=>(hs.2 c ?_).trans q) (fun _ q=>q) fun _ _ q=>q
  rintro rfl;rcases hc with rfl |hc
  . rw[iK]at e;cases e
  . rw[iK]at hc;cases hc
 rcases hx with hk |hk
 . refine wpAny_storeName_local hk hn (fun h' nW hs=>?_) cM;obtain⟨oL,_,_,lm,_⟩:=id hn;refine h _ ⟨I.ok,I.os,I.bare,⟨fun b o e n hb hx=>?_,fun b o e n hb hx=>?_,I.base.free,fun b o e hx=>?_,I.base.tups,I.base.frzs,I.base.tbls⟩,⟨_,nW,fun j y v' e1 e2 e3=>?_⟩,fun y c e=>?_,I.free,I.freeC,fun p hp=>?_,fR ⟨oL,lm,I.free⟩ hs,by simpa using I.len⟩ ⟨_,hs,.inl rfl⟩
   . exact(hs.2 b (ER (ES (π e) I.ok.above))).trans (I.base.keep b o e n hb hx)
   . obtain⟨sl,e1⟩:=I.base.slot b o e n hb hx;exact⟨sl,(hs.2 b (ER (ES (π e) I.ok.above))).trans e1⟩
   . obtain⟨o',e1⟩:=I.base.there b o e hx;exact⟨o',(hs.2 b (ER (ES (π e) I.ok.above))).trans e1⟩
   . by_cases hj:j=i
     . subst hj;rw[hi]at e1;cases e1;rw[GC nq]at e2;cases e2;exact⟨u,r,.inl ⟨hk,by simp⟩⟩
     . rw[FI (GN hj)]at e2;obtain⟨u',r',q⟩:=hl j y v' e1 e2 e3;refine⟨u',r',?_⟩;rcases q with⟨k,e⟩ |⟨k,c,e,z⟩
       . refine .inl ⟨k,?_⟩;have:y≠x:=fun e=>hj (Mc hN e1 (e ▸ hi))
         simp[this,e]
       . exact .inr ⟨k,c,e,z.sameBut hs (cne y c e)⟩
   . obtain⟨w',z⟩:=I.cell y c e;exact⟨w',z.sameBut hs (cne y c e)⟩
   . obtain⟨e,n,ne,nf,d⟩:=I.pin p hp;exact⟨(hs.2 p.1 ne).trans e,n,ne,nf,d⟩
 . have lq:X.fn x=true:=by
    rcases hf with z |z
    . exact z
    . rw[z]at hk;cases hk
   obtain⟨c,hc⟩:=I.ok.has x (.inl hk)
   obtain⟨w',z⟩:=I.cell x c hc
   refine wpAny_storeName_cell I.ok.kind hk hc z (fun h' cg hs=>?_)
   obtain⟨oc,eR,pY⟩:=id z
   refine h { s with heap:=h' } ⟨I.ok,I.os,I.bare,⟨fun b o e n hb hx=>?_,fun b o e n hb hx=>?_,I.base.free,fun b o e hx=>?_,I.base.tups,I.base.frzs,I.base.tbls⟩,⟨m,hn.sameBut hs (GN (cne x c hc)),fun j y v' e1 e2 e3=>?_⟩,fun y c' e=>?_,I.free,I.freeC,fun p hp=>?_,fR ⟨oc,eR,I.freeC x c hc⟩ hs,by simpa using I.len⟩ ⟨c,hs,.inr hc⟩
   . exact(hs.2 b (ER (ES (π e) (I.ok.cab x c lq hc)))).trans (I.base.keep b o e n hb hx)
   . obtain⟨sl,e1⟩:=I.base.slot b o e n hb hx;exact⟨sl,(hs.2 b (ER (ES (π e) (I.ok.cab x c lq hc)))).trans e1⟩
   . obtain⟨o',e1⟩:=I.base.there b o e hx;exact⟨o',(hs.2 b (ER (ES (π e) (I.ok.cab x c lq hc)))).trans e1⟩
   . by_cases hj:j=i
     . subst hj;rw[hi]at e1;cases e1;rw[GC nq]at e2;cases e2;exact⟨u,r,.inr ⟨.inl hk,c,hc,cg⟩⟩
     . rw[FI (GN hj)]at e2;obtain⟨u',r',q⟩:=hl j y v' e1 e2 e3;refine⟨u',r',?_⟩;rcases q with q |⟨k,c',e,z'⟩
       . exact .inl q
       . refine .inr ⟨k,c',e,z'.sameBut hs ?_⟩;rintro rfl;exact hj (Mc hN e1 (I.ok.inj _ _ _ e hc ▸ hi))
   . by_cases gf:c'=c
     . subst gf;exact⟨_,cg⟩
     . obtain⟨w2,z2⟩:=I.cell y c' e;exact⟨w2,z2.sameBut hs gf⟩
   . obtain⟨e,n,ne,nf,d⟩:=I.pin p hp;refine⟨(hs.2 p.1 ?_).trans e,n,ne,nf,d⟩;intro q;rw[q,eR]at e;have q':oc=p.2:=Option.some.inj e;exact d w' (by rw[<-q'];exact pY)
def Ew(I:Inv X pins σ H s)(hN:X.N.Nodup)(hi:X.N[i]?=some x)(hx:Loc X.env.scope x)(r:RelV v u)
  (h:∀s',Inv X pins (σ.set i (some v)) H s'->Q () s') (hf:X.fn x=true\/X.env.scope.names.lookup x=some .local):wpAny M A (storeName X.env x u) Q E s:=
 Mr I hN hi hx r (fun s' I' _=>h s' I') hf
def Inv.call'(I:Inv X pins σ H s)(ho:s'.os=s.os)(u:Un (frs X.stack) ch H H' s.heap s'.heap)(hok:HOk X.prog X.w H' s'.heap)(hg:AllBare s'.gens)
  (dw:∀b∈ch,(b∈X.ex\/X.s₀.heap.objs.size<=b)/\b≠X.env.locals/\(∀x c,X.env.cells.lookup x=some c->c≠b)/\∀p∈X.pn++pins,p.1≠b):Inv X pins σ H' s':=by
 obtain⟨h',g',d',t',o'⟩:=s'
 have e:o'=s.os:=ho
 subst e
 exact I.call (g':=g') (t':=t') (d':=d') u hok hg dw
end
abbrev XK:=Value->Option Addr->Hp->Prop
abbrev St:=List (Option V)
abbrev VK:=V->Hp->Prop
abbrev TE:=St->Hp->VK->Prop
abbrev TT:=St->Hp->(Bool->Hp->Prop)->Prop
abbrev TA:=St->Hp->(List V->Hp->Prop)->Prop
structure Ends where
 nx:St->Hp->Prop
 rt:VK
 bk:St->Hp->Prop:=fun _ _=>False
 ct:St->Hp->Prop:=fun _ _=>False
abbrev TS:=Ends->St->Hp->Prop
def EP(X:Cx)(pins:List (Addr×Obj))(σ:St)(Q:VK)(u:Value)(s':Shared):Prop:=∃v H',Inv X pins σ H' s'/\RelV v u/\Q v H'
def TP(X:Cx)(pins:List (Addr×Obj))(σ:St)(Q:Bool->Hp->Prop)(b:Bool)(s':Shared):Prop:=∃H',Inv X pins σ H' s'/\Q b H'
def AP(X:Cx)(pins:List (Addr×Obj))(σ:St)(Q:List V->Hp->Prop)(us:List Value)(s':Shared):Prop:=∃vs H',Inv X pins σ H' s'/\Vals vs us/\Q vs H'
def SP(X:Cx)(pins:List (Addr×Obj))(D:Ends)(f:Flow)(s':Shared):Prop:=
 match f with
 | .next=>∃ag H',Inv X pins ag H' s'/\D.nx ag H'
 | .brk=>∃ag H',Inv X pins ag H' s'/\D.bk ag H'
 | .cont=>∃ag H',Inv X pins ag H' s'/\D.ct ag H'
 | .ret u=>∃v ag H',Inv X pins ag H' s'/\RelV v u/\D.rt v H'
def PE(X:Cx)(e:Expr)(t:TE):Prop:=
 ∀(pins:List (Addr×Obj))(s:Shared)(σ:St)(H:Hp)(Q:VK),Inv X pins σ H s->t σ H Q->wpAny (model X.prog X.w) X.A (eval e X.env) (EP X pins σ Q) X.xe s
def PT(X:Cx)(e:Expr)(t:TT):Prop:=
 ∀(pins:List (Addr×Obj))(s:Shared)(σ:St)(H:Hp)(Q:Bool->Hp->Prop),Inv X pins σ H s->t σ H Q->wpAny (model X.prog X.w) X.A (isTrue e X.env (eval e X.env)) (TP X pins σ Q) X.xe s
def PW(X:Cx)(e:Expr)(t:TT):Prop:=
 ∀(whole:Sem Value)(pins:List (Addr×Obj))(s:Shared)(σ:St)(H:Hp)(Q:Bool->Hp->Prop),Inv X pins σ H s->t σ H Q->wpAny (model X.prog X.w) X.A (isTrue e X.env whole) (TP X pins σ Q) X.xe s
def PW.pt(h:PW X e t):PT X e t:=h _
def PA(X:Cx)(es:List Expr)(t:TA):Prop:=
 ∀(pos:Pos)(pins:List (Addr×Obj))(s:Shared)(σ:St)(H:Hp)(Q:List V->Hp->Prop),Inv X pins σ H s->t σ H Q->wpAny (model X.prog X.w) X.A (spliced (backTo pos (starEach es X.env))) (AP X pins σ Q) X.xe s
def PS(X:Cx)(st:Stmt)(t:TS):Prop:=
 ∀(pins:List (Addr×Obj))(s:Shared)(σ:St)(H:Hp)(D:Ends),Inv X pins σ H s->t D σ H->wpAny (model X.prog X.w) X.A (exec st X.env) (SP X pins D) X.xe s
def PSs(X:Cx)(st:List Stmt)(t:TS):Prop:=
 ∀(pins:List (Addr×Obj))(s:Shared)(σ:St)(H:Hp)(D:Ends),Inv X pins σ H s->t D σ H->wpAny (model X.prog X.w) X.A (execs st X.env) (SP X pins D) X.xe s
def thn(h:wpAny M A t Q E s)(hQ:∀a s,Q a s->Q' a s):wpAny M A t Q' E s:=EU h hQ fun _ _ x=>x
section
variable {X:Cx}
noncomputable def kF(i:Nat):TE:=fun σ H Q=>∃v,σ[i]?=some (some v)/\Q v H
noncomputable def tC(v:V):TE:=fun _ H Q=>Q v H
def P1(hN:X.N[i]?=some x)(hv:Vis X.env.scope x)(hd:(x==("__debug__":Str))=false:=by decide)(cK:(x==("__classdict__":Str))=false:=by decide):PE X (.Name x pos) (kF i):=by
 intro pins s σ H Q I h;obtain⟨v,e,h⟩:=h;obtain⟨m,hn,hl⟩:=I.loc;obtain⟨u,r,l⟩:=hl i x v hN e hv;have fin:EP X pins σ Q u s:=⟨v,H,I,r,h⟩;rcases l with⟨hk,hm⟩ |⟨hk,c,hc,iM⟩
 . exact wpAny_Name (wpAny_loadName_local I.ok.kind hk hn hm fin) hd
 . rcases hk with hk |hk
   . exact wpAny_Name (wpAny_loadName_cell I.ok.kind hk hc iM fin) hd
   . exact wpAny_Name (wpAny_loadName_free I.ok.kind hk hc iM fin cK) hd
def pe_int:PE X (.Constant (.int i) j pos) (tC (.int i)):=fun _ _ _ H _ I h=>wpAny_Constant_int ⟨.int i,H,I.tok _,⟨_,rfl⟩,h⟩
def pe_bl:PE X (.Constant (.bool b) j pos) (tC (.bl b)):=fun _ _ _ H _ I h=>Constant_bool ⟨.bl b,H,I,rfl,h⟩
def pe_non:PE X (.Constant .none j pos) (tC .non):=fun _ _ _ H _ I h=>Constant_none ⟨.non,H,I,rfl,h⟩
def pe_str:PE X (.Constant (.str x) j pos) (tC (.str x)):=fun _ _ _ H _ I h=>Calls.Constant_str ⟨.str x,H,I.tok _,⟨_,rfl⟩,h⟩
def Gl(X:Cx)(x:Str):Prop:=X.env.kindOf x=some .globalImplicit
def X3(I:Inv X pins σ H s)(hg:Gl X x)(hm:X.mg x=some u)(h:Q u s)
  (hd:(x==("__debug__":Str))=false:=by decide):wpAny (model X.prog X.w) X.A (eval (.Name x pos) X.env) Q E s:=
 Calls.Name_function_global I.ok.kind hg (Calls.loadGlobal_global (by rw[I.ok.glob];exact I.mod.glob.keeps I.bk) hm h) hd
def W8(I:Inv X pins σ H s)(hg:Gl X x)(hm:X.mg x=none)(hv:bootBuiltins x=some u)(h:Q u s)
  (hn:x≠"__name__":=by decide) (hd:(x==("__debug__":Str))=false:=by decide):wpAny (model X.prog X.w) X.A (eval (.Name x pos) X.env) Q E s:=by
 obtain⟨mb,h1,h2⟩:=I.mod.blt
 exact Calls.Name_function_global I.ok.kind hg (Calls.loadGlobal_builtin (by rw[I.ok.glob];exact I.mod.glob.keeps I.bk) hm (by rw[I.ok.blt];exact h1.keeps I.bk) ((h2 x hn).trans hv) h) hd
def y9(hg:Gl X x)(hm:X.mg x=some u)(r:RelV v u)(hd:(x==("__debug__":Str))=false:=by decide):PE X (.Name x pos) (tC v):=
 fun _ _ _ H _ I h=>X3 I hg hm ⟨v,H,I,r,h⟩ hd
def G8(hg:Gl X x)(hm:X.mg x=none)(hv:bootBuiltins x=some u)(r:RelV v u)(hn:x≠"__name__":=by decide)(hd:(x==("__debug__":Str))=false:=by decide):PE X (.Name x pos) (tC v):=
 fun _ _ _ H _ I h=>W8 I hg hm hv ⟨v,H,I,r,h⟩ hn hd
variable {a b:Expr}{ta tb:TE}{pos:Pos}
variable {tA mH:TT}{rest:List Expr}
noncomputable def kE(t u:TT):TT:=fun σ H Q=>t σ H fun c H1=>if c=true then u σ H1 Q else Q false H1
noncomputable def tOr(t u:TT):TT:=fun σ H Q=>t σ H fun c H1=>if c=true then Q true H1 else u σ H1 Q
noncomputable def kD(t:TT):TT:=fun σ H Q=>t σ H fun c H1=>Q (!c) H1
def xH(ha:PT X a tA):PW X (.BoolOp .And [a] pos) tA:=by
 intro wh pins s σ H Q I h;refine isTrue_and (thn (ha pins s σ H Q I h) fun c s1 e=>?_);cases c with
 |true=>exact isTrue_and_nil e
 |false=>exact e
def vA(ha:PT X a tA):PW X (.BoolOp .Or [a] pos) tA:=by
 intro wh pins s σ H Q I h;refine isTrue_or (thn (ha pins s σ H Q I h) fun c s1 e=>?_);cases c with
 |false=>exact isTrue_or_nil e
 |true=>exact e
def vz(ha:PT X a tA)(hb:PW X (.BoolOp .And (b::rest) pos) mH):PW X (.BoolOp .And (a::b::rest) pos) (kE tA mH):=by
 intro wh pins s σ H Q I h;refine isTrue_and (thn (ha pins s σ H _ I h) fun c s1 ⟨H1,I1,q1⟩=>?_);cases c with
 |true=>exact hb wh pins s1 σ H1 Q I1 q1
 |false=>exact⟨H1,I1,q1⟩
def y20(ha:PT X a tA)(hb:PW X (.BoolOp .Or (b::rest) pos) mH):PW X (.BoolOp .Or (a::b::rest) pos) (tOr tA mH):=by
 intro wh pins s σ H Q I h;refine isTrue_or (thn (ha pins s σ H _ I h) fun c s1 ⟨H1,I1,q1⟩=>?_);cases c with
 |true=>exact⟨H1,I1,q1⟩
 |false=>exact hb wh pins s1 σ H1 Q I1 q1
def vy(ha:PT X a tA):PT X (.UnaryOp .Not a pos) (kD tA):=by intro pins s σ H Q I h;exact isTrue_not (ha pins s σ H (fun c H1=>Q (!c) H1) I h)
def vx(h:PE X a t):PE X (.BoolOp op [a] pos) t:=fun pins s σ H Q I hw=>BoolOp_one (h pins s σ H Q I hw)
noncomputable def tIf(t:TT)(ta tb:TE):TE:=fun σ H Q=>t σ H fun c H1=>if c=true then ta σ H1 Q else tb σ H1 Q
def zj(hc:PT X c tA)(ha:PE X a ta)(hb:PE X b tb):PE X (.IfExp c a b pos) (tIf tA ta tb):=by
 intro pins s σ H Q I h;refine wpAny_IfExp (thn (hc pins s σ H _ I h) fun d s1 ⟨H1,I1,q1⟩=>?_);cases d with
 |true=>exact ha pins s1 σ H1 Q I1 q1
 |false=>exact hb pins s1 σ H1 Q I1 q1
end
def SqL(K:Frag)(H:Hp)(a:Addr)(xs:List V):Prop:=
 Rd H a (.lst xs) \/
  ∃(o:Obj)(its:Array Value)(n:Nat),K.lookup a=some o/\o.cls=.type "list"/\o.dict=none/\o.data=.seq its n/\its.size<=sizeLine/\Vals xs its.toList
def SqT(K:Frag)(H:Hp)(a:Addr)(xs:List V):Prop:=
 Rd H a (.tup xs) \/
  ∃(o:Obj)(its:Array Value)(n:Nat),K.lookup a=some o/\o.cls=.type "tuple"/\o.data=.seq its n/\its.size<=sizeLine/\Vals xs its.toList
noncomputable def kC:Value->Option V
 | .none=>some .non
 | .bool b=>some (.bl b)
 | .int i _=>some (.int i)
 | .str x _=>some (.str x)
 | .bytes b _=>some (.byt b)
 | .float b _=>some (.flt b)
 | .ref a=>some (.ref a)
 | .type n=>some (.ty n)
 |_=>none
def RelV.abs(r:RelV x u):kC u=some x:=by
 cases x with
 |non=>cases r;rfl
 |bl _=>cases r;rfl
 |int _=>obtain⟨t,rfl⟩:=r;rfl
 |str _=>obtain⟨t,rfl⟩:=r;rfl
 |byt _=>obtain⟨t,rfl⟩:=r;rfl
 |flt _=>obtain⟨t,rfl⟩:=r;rfl
 |ref _=>cases r;rfl
 |ty _=>cases r;rfl
def RelV.inj(r:RelV x u)(q:RelV y u):x=y:=Option.some.inj (r.abs.symm.trans q.abs)
theorem Vals.inj:∀{xs ys:List V}{us:List Value},Vals xs us->Vals ys us->xs=ys
 |_,_,_,.nil,.nil=>rfl
 |_,_,_,.cons r t,.cons r' t'=>by rw[r.inj r',Vals.inj t t']
section
variable {X:Cx}{pins:List (Addr×Obj)}{σ:St}{H:Hp}{s:Shared}{a:Addr}{xs ys:List V}
def SqL.of{K:Frag}(h:H a=some (.lst xs)):SqL K H a xs:=.inl (.inl h)
def SqT.of{K:Frag}(h:H a=some (.tup xs)):SqT K H a xs:=.inl (.inl h)
def Inv.list(I:Inv X pins σ H s)(h:SqL X.K H a xs):∃its:List Value,Vals xs its/\PlainL s.heap a its.toArray/\xs.length<=sizeLine:=by
 rcases h with h |⟨o,its,n,hk,hc,hd,hs,hz,r⟩
 . obtain⟨z,its,n,r,e⟩:=h.ok I.hok;exact⟨its,r,⟨_,n,e,rfl,rfl,rfl⟩,z⟩
 . refine⟨its.toList,r,⟨o,n,I.kIn a o hk,hc,hd,by simpa using hs⟩,?_⟩;have e:=r.length;simp only[FG]at e
   lia
def Inv.tuple(I:Inv X pins σ H s)(h:SqT X.K H a xs):∃its:List Value,Vals xs its/\IsTup s.heap a its.toArray/\xs.length<=sizeLine:=by
 rcases h with h |⟨o,its,n,hk,hc,hs,hz,r⟩
 . obtain⟨z,its,r,p⟩:=h.ok I.hok;exact⟨its,r,p.tup,z⟩
 . refine⟨its.toList,r,⟨o,I.kIn a o hk,hc,n,by simpa using hs⟩,?_⟩;have e:=r.length;simp only[FG]at e
   lia
def Inv.list_inj(I:Inv X pins σ H s)(h:SqL X.K H a xs)(h':SqL X.K H a ys):xs=ys:=by
 obtain⟨its,r,⟨o,n,e,_,_,d⟩,_⟩:=I.list h;obtain⟨its',r',⟨o',n',e',_,_,d'⟩,_⟩:=I.list h';rw[e]at e';cases e';rw[d]at d';injection d' with d1 _;have:its=its':=by simpa using GY Array.toList d1
 subst this;exact r.inj r'
def Inv.tuple_inj(I:Inv X pins σ H s)(h:SqT X.K H a xs)(h':SqT X.K H a ys):xs=ys:=by
 obtain⟨its,r,⟨o,e,_,n,d⟩,_⟩:=I.tuple h;obtain⟨its',r',⟨o',e',_,n',d'⟩,_⟩:=I.tuple h';rw[e]at e';cases e';rw[d]at d';injection d' with d1 _;have:its=its':=by simpa using GY Array.toList d1
 subst this;exact r.inj r'
end
abbrev Cx.wish(X:Cx)(E:Value->Shared->Prop):Cx:={ X with xe:=E }
abbrev Cx.nox(X:Cx):Cx:=X.wish fun _ _=>False
section
variable {X:Cx}{st:Stmt}{rest:List Stmt}{t u:TS}{e:Expr}{te:TE}{pos:Pos}
noncomputable def Qy:TS:=fun D σ H=>D.nx σ H
noncomputable def kB(t u:TS):TS:=fun D σ H=>t { D with nx:=u D } σ H
def pss_nil:PSs X [] Qy:=fun _ _ σ H _ I h=>Ir ⟨σ,H,I,h⟩
def Ev(h1:PS X st t)(h2:PSs X rest u):PSs X (st::rest) (kB t u):=by
 intro pins s σ H D I h;refine wpAny_execs_cons (thn (h1 pins s σ H { D with nx:=u D } I h) fun f s1 q=>?_);cases f with
 |next=>
  obtain⟨ag,H',I',q⟩:=q
  exact h2 pins s1 ag H' D I' q
 |ret v=>exact q
 |brk=>exact q
 |cont=>exact q
def Vh(h1:PS X st t):PSs X [st] t:=by
 intro pins s σ H D I h;refine wpAny_execs_cons (thn (h1 pins s σ H D I h) fun f s1 q=>?_);cases f with
 |next=>exact Ir q
 |ret v=>exact q
 |brk=>exact q
 |cont=>exact q
def Inv.quiet(I:Inv X pins σ H s):interactive X.env=false:=by simp[interactive,I.ok.kind]
noncomputable def O3(te:TE):TS:=fun D σ H=>te σ H fun _ H1=>D.nx σ H1
def Em(he:PE X e te)(hs:swapsWith e none pos.line X.env=pure false:=by rfl):PS X (.Expr e pos) (O3 te):=by intro pins s σ H D I h;exact wpAny_Expr_any (thn (he pins s σ H _ I h) fun v s1 ⟨x,H1,I1,r1,q1⟩=>⟨σ,H1,I1,q1⟩) I.quiet hs
noncomputable def Qc(te:TE):TS:=fun D σ H=>te σ H D.rt
def Th(he:PE X e te):PS X (.Return (some e) pos) (Qc te):=by intro pins s σ H D I h;exact wpAny_Return_some (thn (he pins s σ H _ I h) fun v s1 ⟨x,H1,I1,r1,q1⟩=>⟨x,σ,H1,I1,r1,q1⟩)
noncomputable def kA(c:TT)(t u:TS):TS:=fun D σ H=>c σ H fun b H1=>if b=true then t D σ H1 else u D σ H1
def Qx(hc:PT X c tc)(ha:PSs X a t)(hb:PSs X b u):PS X (.If c a b pos) (kA tc t u):=by
 intro pins s σ H D I h;refine wpAny_If (thn (hc pins s σ H _ I h) fun d s1 ⟨H1,I1,q1⟩=>?_);cases d with
 |true=>exact ha pins s1 σ H1 D I1 q1
 |false=>exact hb pins s1 σ H1 D I1 q1
end
abbrev TG:=V->St->Hp->(St->Hp->Prop)->Prop
abbrev TGs:=List V->St->Hp->(St->Hp->Prop)->Prop
def PG(X:Cx)(target:Expr)(t:TG):Prop:=
 ∀(pins:List (Addr×Obj))(s:Shared)(σ:St)(H:Hp)(v:V)(u:Value)(Q:St->Hp->Prop),Inv X pins σ H s->RelV v u->t v σ H Q ->
  wpAny (model X.prog X.w) X.A (assign target X.env u) (fun _ s'=>∃ag H',Inv X pins ag H' s'/\Q ag H') X.xe s
def PGs(X:Cx)(ts:List Expr)(t:TGs):Prop:=
 ∀(pins:List (Addr×Obj))(s:Shared)(σ:St)(H:Hp)(vs:List V)(us:List Value)(Q:St->Hp->Prop),Inv X pins σ H s->Vals vs us->t vs σ H Q ->
  wpAny (model X.prog X.w) X.A (assignInOrder ((assignEach ts X.env).map (·.2)) us) (fun _ s'=>∃ag H',Inv X pins ag H' s'/\Q ag H') X.xe s
section
variable {X:Cx}{pos:Pos}
noncomputable def B7(i:Nat):TG:=fun v σ H Q=>Q (σ.set i (some v)) H
def Lg(hN:X.N.Nodup)(hi:X.N[i]?=some x)(hx:Loc X.env.scope x)(hf:X.fn x=true\/X.env.scope.names.lookup x=some .local):PG X (.Name x pos) (B7 i):=by intro pins s σ H v u Q I r h;exact wpAny_assign_Name (Ew I hN hi hx r (fun s' I'=>⟨_,H,I',h⟩) hf)
noncomputable def Qb:TGs:=fun vs σ H Q=>vs=[]/\Q σ H
noncomputable def Ba(t:TG)(u:TGs):TGs:=fun vs σ H Q=>∃v r,vs=v::r/\t v σ H fun ag H'=>u r ag H' Q
def pgs_nil:PGs X [] Qb:=by intro pins s σ H vs us Q I r h;obtain⟨e,h⟩:=h;subst e;cases r;exact assignInOrder_nil ⟨σ,H,I,h⟩
def Mb(h1:PG X e t)(h2:PGs X es u)
  (hs:(assignEach (e::es) X.env).map (·.2)=assign e X.env::(assignEach es X.env).map (·.2):=by rfl):PGs X (e::es) (Ba t u):=by
 intro pins s σ H vs us Q I r h
 obtain⟨v,vr,e1,h⟩:=h
 subst e1
 cases r with
 |cons r rr=>
  rw[hs]
  refine assignInOrder_cons (thn (h1 pins s σ H _ _ _ I r h) fun _ s1 ⟨iw,H1,I1,q1⟩=>?_)
  exact h2 pins s1 iw H1 _ _ Q I1 rr q1
def Qa(K:Frag)(n:Nat)(t:TGs):TG:=fun v σ H Q=>∃a xs,v=.ref a/\SqT K H a xs/\xs.length=n/\t xs σ H Q
def Tf(hc:X.calm=true)(h:PGs X es t)
  (hn:(assignEach es X.env).length=n:=by rfl) (aF:(assignEach es X.env).findIdx? (·.1)=none:=by rfl):PG X (.Tuple es k pos) (Qa X.K n t):=by
 intro pins s σ H v u Q I r hw
 obtain⟨a,xs,e1,hq,hl,hw⟩:=hw
 subst e1
 cases r
 obtain⟨its,rv,ht,hz⟩:=I.tuple hq
 refine assign_Tuple_tuple (I.ok.hd hc) ht (by simp[hn,<-hl,rv.length]) aF fun h' hx=>?_
 have I1:Inv X pins σ H { s with heap:=h' }:=I.kept (t':=s.toks) fun b o e=>hx b o (ER (π e)) e
 exact h pins _ σ H xs _ Q I1 (by simpa using rv) hw
noncomputable def J2(te:TE)(g:TG):TS:=fun D σ H=>te σ H fun x H1=>g x σ H1 D.nx
def vw(he:PE X e te)(hg:PG X tg g)(hs:swapsWithSole [tg] e pos.line X.env=pure false:=by rfl)(hw:swappedStores [tg] e X.env=pure none:=by rfl)
  (h1:(assignEach [tg] X.env).map (·.2)=[assign tg X.env]:=by rfl):PS X (.Assign [tg] e pos) (J2 te g):=by
 intro pins s σ H D I h
 refine wpAny_Assign_stores (thn (he pins s σ H _ I h) fun v s1 ⟨x,H1,I1,r1,q1⟩=>?_) hs hw
 rw[h1]
 exact thn (hg pins s1 σ H1 x v _ I1 r1 q1) fun _ s2 q=>q
def vv(hN:X.N.Nodup)(hi:X.N[i]?=some x)(hx:Loc X.env.scope x)(he:PE X e te)(hs:swapsWith e (some (.Name x dm)) pos.line X.env=pure false:=by rfl)(hf:X.fn x=true\/X.env.scope.names.lookup x=some .local) :
  PS X (.Assign [.Name x dm] e pos) (J2 te (B7 i)):=by
 intro pins s σ H D I h
 refine wpAny_Assign_Name (thn (he pins s σ H _ I h) fun v s1 ⟨y,H1,I1,r1,q1⟩=>?_) hs
 exact Ew I1 hN hi hx r1 (fun s2 I2=>⟨_,H1,I2,q1⟩) hf
end
section
variable {X:Cx}{pos:Pos}
noncomputable def Te(c:TT)(tb:TS):TS:=fun D σ H=>∃W:Nat->St->Hp->Prop,(∃m,W m σ H)/\∀m σ H,W m σ H ->
 c σ H fun b H1=>if b=true then ∃N:St->Hp->Prop,(∀ag H',N ag H'->∃m',m'<m/\W m' ag H')/\tb { D with nx:=N,ct:=N,bk:=D.nx } σ H1 else D.nx σ H1
def zi(hp:PassesOwn (model X.prog X.w) X.A X.env X.xe)(hc:PT X c tc)(hb:PSs X body tb):PS X (.While c body [] pos) (Te tc tb):=by
 intro pins s σ H D I h;obtain⟨W,⟨m0,w0⟩,turn⟩:=h;refine wpAny_While (codeAny_whileLoop (fun n s'=>∃ag H',Inv X pins ag H' s'/\W n ag H') ?_ m0 ⟨σ,H,I,w0⟩);rintro n s1 ⟨iw,H1,I1,w1⟩;refine HV hp (thn (hc pins s1 iw H1 _ I1 (turn n iw H1 w1)) fun b s2 ⟨H2,I2,q2⟩=>?_);cases b with
 |true=>
  obtain⟨N,hN,q2⟩:=q2
  rw[ξ rfl]
  refine HV hp (thn (hb pins s2 iw H2 _ I2 q2) fun f s3 q3=>?_)
  cases f with
  |next=>
   obtain⟨eh,H3,I3,n3⟩:=q3
   obtain⟨m',hm,w3⟩:=hN eh H3 n3
   exact⟨m',hm,eh,H3,I3,w3⟩
  |cont=>
   obtain⟨eh,H3,I3,n3⟩:=q3
   obtain⟨m',hm,w3⟩:=hN eh H3 n3
   exact⟨m',hm,eh,H3,I3,w3⟩
  |brk=>exact q3
  |ret v=>exact q3
 |false=>
  rw[ψ η]
  exact Ir ⟨iw,H2,I2,q2⟩
end
structure It where
 go:Nat->Hp->Prop
 yld:Nat->Hp->V->Hp->Prop
 stop:Nat->Hp->Prop
def o8(X:Cx)(pins:List (Addr×Obj))(H:Hp)(b:Addr):Prop:=
 H b=none/\b≠X.env.locals/\b∉X.fs/\(b∈X.ex\/X.s₀.heap.objs.size<=b)/\(∀x c,X.env.cells.lookup x=some c->c≠b)/\∀p∈X.pn++pins,p.1≠b
def Inv.fpOk(I:Inv X pins σ H s)(hb:s.heap.objs.size<=b)(hn:H' b=none):o8 X pins H' b:=by
 refine⟨hn,Nat.ne_of_gt (ES I.lt hb),I.nofs hb,.inr (EZ I.sz hb),fun x c e z=>?_,fun p hp z=>?_⟩
 . obtain⟨v,q⟩:=I.cell x c e;exact absurd (ES q.lt (by rw[z];exact hb)) (χ _)
 . exact absurd (ES (π (I.pin p hp).1) (by rw[z];exact hb)) (χ _)
structure Turn(P:Program)(w:World)(K:Frag)(tg:Expr)(J:It)(fp:List Addr)(it:Addr)(tn:Nat->Heap->Prop):Prop where
 mem:it∈fp
 obj:∀i h,tn i h->∀b∈fp,∃o,h.get? b=some o/\∀v,o.data≠.cell v
 keep:∀i h h',tn i h->(∀b∈fp,∀o,h.get? b=some o->h'.get? b=some o)->tn i h'
 item:∀(X:Cx),X.prog=P->X.w=w->X.K=K->X.calm=true->∀(i:Nat)(pins:List (Addr×Obj))(s:Shared)(σ:St)(H:Hp)(E:Value->Shared->Prop),Inv X pins σ H s->(∀b∈fp,o8 X pins H b)->tn i s.heap->J.go i H ->
  wpAny (model P w) X.A (pyNext (.ref it)) (fun r s1=>∃u,r=some u /\
   wpAny (model P w) X.A (letOwnedTupleGo tg (.ref it) u) (fun _ s2=>∃x H',Inv X pins σ H' s2/\RelV x u/\J.yld i H x H'/\tn (i+1) s2.heap/\∀b∈fp,H' b=none) E s1) E s
 done:∀(X:Cx),X.prog=P->X.w=w->X.K=K->X.calm=true->∀(i:Nat)(pins:List (Addr×Obj))(s:Shared)(σ:St)(H:Hp)(E:Value->Shared->Prop),Inv X pins σ H s->(∀b∈fp,o8 X pins H b)->tn i s.heap->J.stop i H ->
  wpAny (model P w) X.A (pyNext (.ref it)) (fun r s1=>r=none/\Inv X pins σ H s1) E s
 self:∀(A:Around)(i:Nat)(s:Shared)(Q:Value->Shared->Prop)(E:Value->Shared->Prop),tn i s.heap->Q (.ref it) s->wpAny (model P w) A (pyIter (.ref it)) Q E s
abbrev TI:=St->Hp->(It->Hp->Prop)->Prop
def PIE(X:Cx)(pins:List (Addr×Obj))(σ:St)(tg:Expr)(R:It->Hp->Prop)(gI:Value)(s2:Shared):Prop:=
 ∃(it:Addr)(fp:List Addr)(tn:Nat->Heap->Prop)(J:It)(H':Hp),gI=.ref it/\Inv X pins σ H' s2/\Turn X.prog X.w X.K tg J fp it tn/\tn 0 s2.heap/\(∀b∈fp,o8 X pins H' b)/\R J H'
def PI(X:Cx)(tg iter:Expr)(wi:TI):Prop:=
 ∀(pins:List (Addr×Obj))(s:Shared)(σ:St)(H:Hp)(R:It->Hp->Prop),Inv X pins σ H s->wi σ H R ->
  wpAny (model X.prog X.w) X.A (eval iter X.env) (fun v s1=>wpAny (model X.prog X.w) X.A (pyIter v) (PIE X pins σ tg R) X.xe s1) X.xe s
def Dc(ho:s.heap.get? it=some o)(hc:o.cls=.type n)(hd:o.data=.fields vs)
  (hn:["enumerate","zip","dict_itemiterator","dict_reverseitemiterator","odict_iterator","itertools.zip_longest","itertools.pairwise"].contains n=false) (hQ:Q () s):wpAny M A (letOwnedTupleGo tg (.ref it) u) Q E s:=by
 unfold letOwnedTupleGo
 cases tg<;>first
  |exact ω hQ
  | (cases u<;>first
   |exact ω hQ
   | (refine δ (wpAny_load ho ?_)
      rw[hc,hd]
      show wpAny M A (if(["enumerate","zip","dict_itemiterator","dict_reverseitemiterator","odict_iterator","itertools.zip_longest","itertools.pairwise"].contains n&&vs[0]?==some (rawInt _))=true then _ else _) Q E s
      rw[ψ (by intro h;rw[hn,IK]at h;cases h)]
      exact ω hQ))
def Itl(K:Frag)(a:Addr):It:=
 ⟨fun i H=>∃xs x,SqL K H a xs/\xs[i]?=some x,fun i H x H'=>H'=H/\∀xs,SqL K H a xs->xs[i]?=some x,fun i H=>∃xs,SqL K H a xs/\xs.length<=i⟩
def Itt(K:Frag)(a:Addr):It:=
 ⟨fun i H=>∃xs x,SqT K H a xs/\xs[i]?=some x,fun i H x H'=>H'=H/\∀xs,SqT K H a xs->xs[i]?=some x,fun i H=>∃xs,SqT K H a xs/\xs.length<=i⟩
noncomputable def Itr(lo:Int)(n:Nat):It:=⟨fun i _=>i<n,fun i H x H'=>H'=H/\x=.int (lo+i),fun i _=>n<=i⟩
def zZ{P:Program}{w:World}{K:Frag}{tg:Expr}(a it:Addr):Turn P w K tg (Itl K a) [it] it (fun i h=>h.IsListIter it a i) where
 mem:=by simp
 obj:=fun i h st b hb=>by
  have e:b=it:=by simpa using hb
  subst e;obtain⟨o,e,c,d⟩:=st;exact⟨o,e,fun v z=>by rw[d]at z;cases z⟩
 keep:=fun i h h' st k=>st.at fun o e=>k it (by simp) o e
 item:=by
  intro X hP hw hK hc i pins s σ H E I hf st hg;subst hP hw hK;obtain⟨xs,x,hq,hx⟩:=hg;obtain⟨its,rv,p,hz⟩:=I.list hq;obtain⟨u,hu,ru⟩:=rv.get hx;obtain⟨f0,f1,f2,f3,f4,f5⟩:=hf it (by simp);refine wpAny_pyNext_list_item st p.isList (x:=u) (by simpa using hu) fun h' st' sb=>?_
  have I1:Inv X pins σ H { s with heap:=h' }:=I.turned (t':=s.toks) (fun b o hb e=>(sb.2 b hb).trans e) f0 f1 f3 f4 f5;obtain⟨o,e,c,d⟩:=id st';exact⟨u,rfl,Dc (s:={ s with heap:=h' }) e c d (by decide) ⟨x,H,I1,ru,⟨rfl,fun ys hy=>by rw[I.list_inj hy hq];exact hx⟩,st',fun b hb=>(hf b hb).1⟩⟩
 done:=by intro X hP hw hK hc i pins s σ H E I hf st hg;subst hP hw hK;obtain⟨xs,hq,hx⟩:=hg;obtain⟨its,rv,p,hz⟩:=I.list hq;obtain⟨f0,f1,f2,f3,f4,f5⟩:=hf it (by simp);have hl:=rv.length;exact wpAny_pyNext_list_end (I.ok.hd hc) st p.isList (by simp;lia) fun h' eb=>⟨rfl,I.turned (t':=s.toks) (fun b o hb e=>eb b o hb e) f0 f1 f3 f4 f5⟩
 self:=fun _ _ _ _ _ st h=>wpAny_pyIter_listiter st h
def zij{P:Program}{w:World}{K:Frag}{tg:Expr}(a it:Addr):Turn P w K tg (Itt K a) [it] it (fun i h=>h.IsTupleIter it a i) where
 mem:=by simp
 obj:=fun i h st b hb=>by
  have e:b=it:=by simpa using hb
  subst e;obtain⟨o,e,c,d⟩:=st;exact⟨o,e,fun v z=>by rw[d]at z;cases z⟩
 keep:=fun i h h' st k=>st.at fun o e=>k it (by simp) o e
 item:=by
  intro X hP hw hK hc i pins s σ H E I hf st hg;subst hP hw hK;obtain⟨xs,x,hq,hx⟩:=hg;obtain⟨its,rv,p,hz⟩:=I.tuple hq;obtain⟨u,hu,ru⟩:=rv.get hx;obtain⟨f0,f1,f2,f3,f4,f5⟩:=hf it (by simp);refine wpAny_pyNext_tuple_item st (show s.heap.IsTuple a its.toArray from p) (x:=u) (by simpa using hu) fun h' st' sb=>?_
  have I1:Inv X pins σ H { s with heap:=h' }:=I.turned (t':=s.toks) (fun b o hb e=>(sb.2 b hb).trans e) f0 f1 f3 f4 f5;obtain⟨o,e,c,d⟩:=id st';exact⟨u,rfl,Dc (s:={ s with heap:=h' }) e c d (by decide) ⟨x,H,I1,ru,⟨rfl,fun ys hy=>by rw[I.tuple_inj hy hq];exact hx⟩,st',fun b hb=>(hf b hb).1⟩⟩
 done:=by intro X hP hw hK hc i pins s σ H E I hf st hg;subst hP hw hK;obtain⟨xs,hq,hx⟩:=hg;obtain⟨its,rv,p,hz⟩:=I.tuple hq;obtain⟨f0,f1,f2,f3,f4,f5⟩:=hf it (by simp);have hl:=rv.length;exact wpAny_pyNext_tuple_end (I.ok.hd hc) st (show s.heap.IsTuple a its.toArray from p) (by simp;lia) fun h' eb=>⟨rfl,I.turned (t':=s.toks) (fun b o hb e=>eb b o hb e) f0 f1 f3 f4 f5⟩
 self:=fun _ _ _ _ _ st h=>wpAny_pyIter_tupleiter st h
def zik{P:Program}{w:World}{K:Frag}{tg:Expr}(it:Addr)(lo:Int)(n:Nat):Turn P w K tg (Itr lo n) [it] it (fun i h=>IsRangeIter h it (lo+(i:Nat) * 1) ((n:Int) - (i:Nat)) 1) where
 mem:=by simp
 obj:=fun i h st b hb=>by
  have e:b=it:=by simpa using hb
  subst e;exact⟨_,st,fun v z=>by have z':Data.fields _=Data.cell v:=z;cases z'⟩
 keep:=fun i h h' st k=>k it (by simp) _ st
 item:=by
  intro X hP hw hK hc i pins s σ H E I hf st hg;subst hP hw hK;obtain⟨f0,f1,f2,f3,f4,f5⟩:=hf it (by simp);have W:=Walks.range (prog:=X.prog) (w:=X.w) (I.ok.hd hc) it lo 1 n;refine W.item i s _ _ hg st fun v h' tk hv st' kk=>?_
  obtain⟨t,rfl⟩:=hv;have I1:Inv X pins σ H { s with heap:=h',toks:=tk }:=I.turned (fun b o hb e=>kk b o (by simpa using hb) e) f0 f1 f3 f4 f5;refine⟨_,rfl,Dc (s:={ s with heap:=h',toks:=tk }) (n:="range_iterator") st' rfl rfl (by decide) ⟨.int (lo+i),H,I1,⟨t,?_⟩,⟨rfl,rfl⟩,st',fun b hb=>(hf b hb).1⟩⟩;rw[Int.mul_one]
 done:=by intro X hP hw hK hc i pins s σ H E I hf st hg;subst hP hw hK;obtain⟨f0,f1,f2,f3,f4,f5⟩:=hf it (by simp);exact wpAny_pyNext_range_end (I.ok.hd hc) st (by have:n<=i:=hg;lia) fun h' eb=>⟨rfl,I.turned (t':=s.toks) (fun b o hb e=>eb b o hb e) f0 f1 f3 f4 f5⟩
 self:=fun _ _ _ _ _ st h=>wpAny_pyIter_rangeiter st h
section
variable {X:Cx}{tg:Expr}
def zh{pins:List (Addr×Obj)}{σ:St}{H:Hp}{s:Shared}{R:It->Hp->Prop}{E:Value->Shared->Prop}{lo hi:Int}{t u v:Tok}{tk:Nat}(I:Inv X pins σ H s)(h1:-(2 ^ 62)<=lo)(h2:lo<2 ^ 62)(h3:-(2 ^ 62)<=hi)(h4:hi<2 ^ 62)
  (q:R (Itr lo (hi - lo).toNat) H):wpAny (model X.prog X.w) X.A (pyIter (.ref s.heap.objs.size)) (PIE X pins σ tg R) E { s with heap:=s.heap.push { cls:=.type "range",data:=.fields #[.int lo t,.int hi u,.int 1 v] },toks:=tk }:=by
 refine wpAny_pyIter_range (IsRange.new ..) (small_one h1 h2 h3 h4) ?_
 have I1:Inv X pins σ H { s with heap:=s.heap.push { cls:=.type "range",data:=.fields #[.int lo t,.int hi u,.int 1 v] },toks:=tk }:=I.kept fun b o e=>τ _ e
 refine⟨(s.heap.push { cls:=.type "range",data:=.fields #[.int lo t,.int hi u,.int 1 v] }).objs.size,[(s.heap.push { cls:=.type "range",data:=.fields #[.int lo t,.int hi u,.int 1 v] }).objs.size],_,_,H,rfl,
  I1.kept (t':=tk) fun b o e=>τ _ e,zik _ lo (hi - lo).toNat,?_,fun b hb=>?_,q⟩
 . have e1:lo+((0:Nat):Int) * 1=lo:=by simp
   have e2:(((hi - lo).toNat:Nat):Int) - ((0:Nat):Int)=Builtin.Range.rangeSize lo hi 1:=by rw[rangeSize_one];split<;>lia
   show IsRangeIter _ _ (lo+((0:Nat):Int) * 1) ((((hi - lo).toNat:Nat):Int) - ((0:Nat):Int)) 1;rw[e1,e2];exact Ψ _ rfl
 . have e:b=(s.heap.push { cls:=.type "range",data:=.fields #[.int lo t,.int hi u,.int 1 v] }).objs.size:=by simpa using hb
   subst e;exact I1.fpOk (ζ _) (I1.hok.fresh (ζ _))
noncomputable def y6s(wi:TI)(g:TG)(tb:TS):TS:=fun D σ H=>wi σ H fun J H1=>∃W:Nat->Nat->St->Hp->Prop,(∃m,W 0 m σ H1)/\∀i m σ H,W i m σ H ->
 (J.stop i H/\D.nx σ H)\/(J.go i H/\∃N:St->Hp->Prop,(∀ag H',N ag H'->∃m',m'<m/\W (i+1) m' ag H')/\∀x H',J.yld i H x H'->g x σ H' fun aR H2=>tb { D with nx:=N,ct:=N,bk:=D.nx } aR H2)
noncomputable def W7(fp:List Addr)(h:Heap):List (Addr×Obj):=fp.filterMap fun b=>(h.get? b).map fun o=>(b,o)
def Y2(hb:b∈fp)(e:h.get? b=some o):(b,o)∈W7 fp h:=GS.mpr ⟨b,hb,by rw[e];rfl⟩
def zY(hp:p∈W7 fp h):p.1∈fp/\h.get? p.1=some p.2:=by
 obtain⟨b,hb,e⟩:=GS.mp hp;cases q:h.get? b with
 |none=>rw[q]at e;cases e
 |some o=>
  rw[q]at e
  have e':(b,o)=p:=Option.some.inj e
  subst e'
  exact⟨hb,q⟩
def Inv.pinned(I:Inv X pins σ H s)(hf:∀b∈fp,o8 X pins H b)(ho:∀b∈fp,∃o,s.heap.get? b=some o/\∀v,o.data≠.cell v):Inv X (pins++W7 fp s.heap) σ H s:=
 I.pins_of fun p hp=>(GW.mp hp).elim (fun z=>I.pin p (FD _ z)) fun z=>by obtain⟨hb,e⟩:=zY z;obtain⟨f0,f1,f2,_⟩:=hf p.1 hb;obtain⟨o,e',d⟩:=ho p.1 hb;rw[e]at e';cases e';exact⟨e,f0,f1,f2,d⟩
def Inv.unpinned(I:Inv X (pins++pl) σ H s):Inv X pins σ H s:=I.pins_of fun p hp=>I.pin p (FD _ (List.mem_append_left _ hp))
def vt(hp:PassesOwn (model X.prog X.w) X.A X.env X.xe)(hc:X.calm=true)(hi:PI X tg iter wi)(hg:PG X tg g)(hb:PSs X body tb)
  (hs:∀x,foldedSetIterable iter X.env x=pure x:=by intro _;rfl):PS X (.For tg iter body [] pos) (y6s wi g tb):=by
 intro pins s σ H D I h
 refine wpAny_For (thn (hi pins s σ H _ I h) fun v s1 h1=>thn h1 fun gI s2 h2=>?_) hs
 obtain⟨it,fp,tn,J,H2,e,I2,T,aH,f2,W,⟨m0,w0⟩,turn⟩:=h2
 subst e
 have cz:∀{H':Hp},(∀b∈fp,H' b=none)->∀b∈fp,o8 X pins H' b:=fun hn b hb=>⟨hn b hb,(f2 b hb).2⟩
 refine codeAny_forLoop_any (fun n s'=>∃i ag H',Inv X pins ag H' s'/\tn i s'.heap/\(∀b∈fp,H' b=none)/\W i n ag H') ?_ m0 ⟨0,σ,H2,I2,aH,fun b hb=>(f2 b hb).1,w0⟩
 rintro n s3 ⟨i,eh,H3,I3,dJ,fr3,w3⟩
 rcases turn i n eh H3 w3 with⟨stop,qn⟩ |⟨go,N,hN,step⟩
 . refine HV hp (thn (T.done X rfl rfl rfl hc i pins s3 eh H3 X.xe I3 (cz fr3) dJ stop) fun r s4 ⟨hr,I4⟩=>?_);subst hr;exact Ir ⟨eh,H3,I4,qn⟩
 . refine HV hp (thn (T.item X rfl rfl rfl hc i pins s3 eh H3 X.xe I3 (cz fr3) dJ go) fun r s4 ⟨u,hr,h4⟩=>?_);subst hr;refine HV hp (thn h4 fun _ s5 ⟨x,H5,I5,r5,y5,eT,gJ⟩=>?_);have tM:=I5.pinned (cz gJ) (T.obj _ _ eT);refine HV hp (thn (hg _ s5 eh H5 x u _ tM r5 (step x H5 y5)) fun _ s6 ⟨tO,H6,I6,q6⟩=>?_);refine HV hp (thn (hb _ s6 tO H6 _ I6 q6) fun f s7 q7=>?_);have again:∀{eo:St}{H7:Hp},Inv X (pins++W7 fp s5.heap) eo H7 s7->N eo H7->∃m,m<n/\∃i ag H',Inv X pins ag H' s7/\tn i s7.heap/\(∀b∈fp,H' b=none)/\W i m ag H':=fun {eo H7} I7 n7=>by obtain⟨m',hm,w7⟩:=hN eo H7 n7;refine⟨m',hm,i+1,eo,H7,I7.unpinned,T.keep _ _ _ eT fun b hb o e=>(I7.pin (b,o) (FD _ (FD _ (Y2 hb e)))).1,fun b hb=>?_,w7⟩;obtain⟨o,e,d⟩:=T.obj _ _ eT b hb;exact(I7.pin (b,o) (FD _ (FD _ (Y2 hb e)))).2.1
   cases f with
   |next=>obtain⟨eo,H7,I7,n7⟩:=q7;exact again I7 n7
   |cont=>obtain⟨eo,H7,I7,n7⟩:=q7;exact again I7 n7
   |brk=>obtain⟨eo,H7,I7,q7⟩:=q7;exact⟨eo,H7,I7.unpinned,q7⟩
   |ret v=>obtain⟨x7,eo,H7,I7,r7,q7⟩:=q7;exact⟨x7,eo,H7,I7.unpinned,r7,q7⟩
end
abbrev R2:=V->V->Hp->VK->Prop
def OpR(X:Cx)(f:Value->Value->Sem Value)(r:R2):Prop:=
 ∀(pins:List (Addr×Obj))(s:Shared)(σ:St)(H:Hp)(x y:V)(v u:Value)(Q:VK),Inv X pins σ H s->RelV x v->RelV y u->r x y H Q ->
  wpAny (model X.prog X.w) X.A (f v u) (EP X pins σ Q) X.xe s
def UnR(X:Cx)(f:Value->Sem Value)(r:V->Hp->VK->Prop):Prop:=
 ∀(pins:List (Addr×Obj))(s:Shared)(σ:St)(H:Hp)(x:V)(v:Value)(Q:VK),Inv X pins σ H s->RelV x v->r x H Q ->
  wpAny (model X.prog X.w) X.A (f v) (EP X pins σ Q) X.xe s
def CallR(X:Cx)(f:Value)(r:List V->Hp->VK->Prop):Prop:=
 ∀(pins:List (Addr×Obj))(s:Shared)(σ:St)(H:Hp)(xs:List V)(us:List Value)(Q:VK),Inv X pins σ H s->Vals xs us->r xs H Q ->
  wpAny (model X.prog X.w) X.A (call f us) (EP X pins σ Q) X.xe s
def y6t(X:Cx)(r:V->Hp->(Bool->Hp->Prop)->Prop):Prop:=
 ∀(pins:List (Addr×Obj))(s:Shared)(σ:St)(H:Hp)(x:V)(v:Value)(Q:Bool->Hp->Prop),Inv X pins σ H s->RelV x v->r x H Q ->
  wpAny (model X.prog X.w) X.A (truthy v) (TP X pins σ Q) X.xe s
noncomputable def tOp(r:R2)(ta tb:TE):TE:=fun σ H Q=>ta σ H fun x H1=>tb σ H1 fun y H2=>r x y H2 Q
noncomputable def tUn(r:V->Hp->VK->Prop)(ta:TE):TE:=fun σ H Q=>ta σ H fun x H1=>r x H1 Q
noncomputable def rI(C:Int->Int->Prop)(g:Int->Int->V):R2:=fun x y H Q=>∃i j,x=.int i/\y=.int j/\C i j/\Q (g i j) H
noncomputable def rI0(g:Int->Int->V):R2:=fun x y H Q=>∃i j,x=.int i/\y=.int j/\Q (g i j) H
def rU(g:Int->V):V->Hp->VK->Prop:=fun x H Q=>∃i,x=.int i/\Q (g i) H
section
variable {X:Cx}{a b:Expr}{ta tb:TE}{pos:Pos}
def Pz(ha:PE X a ta)(hb:PE X b tb){pins:List (Addr×Obj)}{s:Shared}{σ:St}{H:Hp}{R:V->V->Hp->Prop}(I:Inv X pins σ H s)
  (h:ta σ H fun x H1=>tb σ H1 fun y H2=>R x y H2) {Q:Value->Shared->Prop} {f:Value->Value->Sem Value}
  (hf:∀v u s2 x y H2,Inv X pins σ H2 s2->RelV x v->RelV y u->R x y H2->wpAny (model X.prog X.w) X.A (f v u) Q X.xe s2) :
  wpAny (model X.prog X.w) X.A (eval a X.env) (fun v af=>wpAny (model X.prog X.w) X.A (eval b X.env) (fun u aK=>wpAny (model X.prog X.w) X.A (f v u) Q X.xe aK) X.xe af) X.xe s:=by
 refine thn (ha pins s σ H _ I h) fun v s1 ⟨x,H1,I1,r1,q1⟩=>?_
 refine thn (hb pins s1 σ H1 _ I1 q1) fun u s2 ⟨y,H2,I2,r2,q2⟩=>?_
 exact hf v u s2 x y H2 I2 r1 r2 q2
def y25(ho:OpR X (binaryOp op) r)(ha:PE X a ta)(hb:PE X b tb):PE X (.BinOp a op b pos) (tOp r ta tb):=by intro pins s σ H Q I h;exact wpAny_BinOp (Pz ha hb I h fun v u s2 x y H2 I2 rx ry q=>ho pins s2 σ H2 x y v u Q I2 rx ry q)
def y26(ho:UnR X (unaryOp op) r)(ha:PE X a ta):PE X (.UnaryOp op a pos) (tUn r ta):=by intro pins s σ H Q I h;exact UnaryOp_ (thn (ha pins s σ H _ I h) fun v s1 ⟨x,H1,I1,r1,q1⟩=>ho pins s1 σ H1 x v Q I1 r1 q1)
def opI{f:Value->Value->Sem Value}{C:Int->Int->Prop}{g:Int->Int->Int}
  (rule:∀(i j:Int)(t u:Tok)(s:Shared)(Q:Value->Shared->Prop)(E:Value->Shared->Prop),C i j->Q (.int (g i j) s.toks) { s with toks:=s.toks+1 }->wpAny (model X.prog X.w) X.A (f (.int i t) (.int j u)) Q E s) :
  OpR X f (rI C fun i j=>.int (g i j)):=by
 intro pins s σ H x y v u Q I rx ry h
 obtain⟨i,j,rfl,rfl,hc,q⟩:=h
 obtain⟨t,rfl⟩:=rx
 obtain⟨t',rfl⟩:=ry
 exact rule i j t t' s _ _ hc ⟨.int (g i j),H,I.tok _,⟨_,rfl⟩,q⟩
def kz{f:Value->Value->Sem Value}{g:Int->Int->Int}
  (rule:∀(i j:Int)(t u:Tok)(s:Shared)(Q:Value->Shared->Prop)(E:Value->Shared->Prop),Q (.int (g i j) s.toks) { s with toks:=s.toks+1 }->wpAny (model X.prog X.w) X.A (f (.int i t) (.int j u)) Q E s) :
  OpR X f (rI0 fun i j=>.int (g i j)):=by
 intro pins s σ H x y v u Q I rx ry h
 obtain⟨i,j,rfl,rfl,q⟩:=h
 obtain⟨t,rfl⟩:=rx
 obtain⟨t',rfl⟩:=ry
 exact rule i j t t' s _ _ ⟨.int (g i j),H,I.tok _,⟨_,rfl⟩,q⟩
def Gx{f:Value->Value->Sem Value}{g:Int->Int->Bool}
  (rule:∀(i j:Int)(t u:Tok)(s:Shared)(Q:Value->Shared->Prop)(E:Value->Shared->Prop),Q (.bool (g i j)) s->wpAny (model X.prog X.w) X.A (f (.int i t) (.int j u)) Q E s) :
  OpR X f (rI0 fun i j=>.bl (g i j)):=by
 intro pins s σ H x y v u Q I rx ry h
 obtain⟨i,j,rfl,rfl,q⟩:=h
 obtain⟨t,rfl⟩:=rx
 obtain⟨t',rfl⟩:=ry
 exact rule i j t t' s _ _ ⟨.bl (g i j),H,I,rfl,q⟩
def R0(i j:Int):Prop:=0<j/\j<1073741824
def CMul(i j:Int):Prop:=(-(2 ^ 64)<i/\i<2 ^ 64)\/(-(2 ^ 64)<j/\j<2 ^ 64)
def CMul.ok(h:CMul i j):IntMulOk i j:=by
 rcases h with⟨h1,h2⟩ |⟨h1,h2⟩
 . exact .of_left (intBits_le_64 h1 h2)
 . exact .of_right (intBits_le_64 h1 h2)
def op_add:OpR X (binaryOp .Add) (rI0 fun i j=>.int (i+j)):=kz fun _ _ _ _ _ _ _ q=>add_int q
def op_sub:OpR X (binaryOp .Sub) (rI0 fun i j=>.int (i - j)):=kz fun _ _ _ _ _ _ _ q=>sub_int q
def op_mul:OpR X (binaryOp .Mult) (rI CMul fun i j=>.int (i * j)):=opI fun _ _ _ _ _ _ _ hc q=>mul_int q hc.ok
def op_fdiv:OpR X (binaryOp .FloorDiv) (rI R0 fun i j=>.int (i / j)):=opI fun i j _ _ _ _ _ hc q=>by have h1:(0:Int)<j:=hc.1;have h2:j<1073741824:=hc.2;exact floordiv_int (by omega) (by rw[Int.fdiv_eq_ediv_of_nonneg i (by omega)];exact q) (.inl (PyProof.noPylong_small (by omega)))
def op_mod:OpR X (binaryOp .Mod) (rI (fun _ j=>0<j) fun i j=>.int (i % j)):=opI fun i j _ _ _ _ _ hc q=>by have h1:(0:Int)<j:=hc;exact mod_int' (by lia) (by rw[Int.fmod_eq_emod_of_nonneg i (by lia)];exact q)
def unI{f:Value->Sem Value}{g:Int->Int}
  (rule:∀(i:Int)(t:Tok)(s:Shared)(Q:Value->Shared->Prop)(E:Value->Shared->Prop),Q (.int (g i) s.toks) { s with toks:=s.toks+1 }->wpAny (model X.prog X.w) X.A (f (.int i t)) Q E s) :
  UnR X f (rU fun i=>.int (g i)):=by
 intro pins s σ H x v Q I rx h
 obtain⟨i,rfl,q⟩:=h
 obtain⟨t,rfl⟩:=rx
 exact rule i t s _ _ ⟨.int (g i),H,I.tok _,⟨_,rfl⟩,q⟩
def un_neg:UnR X (unaryOp .USub) (rU fun i=>.int (-i)):=unI fun _ _ _ _ _ q=>neg_int q
end
section
variable {X:Cx}{a b:Expr}{ta tb:TE}{pos:Pos}
def Kj(I:Inv X pins σ H s)(q:Q (.bl k) H)(e:k=k'):EP X pins σ Q (.bool k') s:=by subst e;exact⟨.bl k,H,I,rfl,q⟩
def op_lt:OpR X (compareOp .Lt) (rI0 fun i j=>.bl (decide (i<j))):=Gx fun _ _ _ _ _ _ _ q=>lt_int q
def op_le:OpR X (compareOp .LtE) (rI0 fun i j=>.bl (decide (i<=j))):=Gx fun _ _ _ _ _ _ _ q=>le_int q
def op_gt:OpR X (compareOp .Gt) (rI0 fun i j=>.bl (decide (j<i))):=Gx fun _ _ _ _ _ _ _ q=>gt_int q
def op_ge:OpR X (compareOp .GtE) (rI0 fun i j=>.bl (decide (j<=i))):=Gx fun _ _ _ _ _ _ _ q=>ge_int q
def zX:OpR X (compareOp .In) (fun x y H Q=>∃i j,x=.str i/\y=.str j/\Q (.bl (!(Builtin.Str.occurrences j i 0 j.length 1).isEmpty)) H):=by intro pins s σ H x y v u Q I rx ry h;obtain⟨i,j,rfl,rfl,q⟩:=h;obtain⟨t,rfl⟩:=rx;obtain⟨t',rfl⟩:=ry;exact in_str (Kj I q rfl)
def Td:OpR X (compareOp .Is) (fun x y H Q=>y=.non/\Q (.bl (decide (x=.non))) H):=by
 intro pins s σ H x y v u Q I rx ry h;obtain⟨rfl,q⟩:=h;cases ry;refine is_none_gen (Kj I q ?_);cases x<;>first
  | (cases rx;rfl)
  | (obtain⟨t,rfl⟩:=rx;rfl)
def zdn:OpR X (compareOp .NotIn) (fun x y H Q=>∃i j,x=.str i/\y=.str j/\Q (.bl (!(!(Builtin.Str.occurrences j i 0 j.length 1).isEmpty))) H):=by intro pins s σ H x y v u Q I rx ry h;obtain⟨i,j,rfl,rfl,q⟩:=h;obtain⟨t,rfl⟩:=rx;obtain⟨t',rfl⟩:=ry;exact notIn_str (Kj I q rfl)
def OpR.or(h:OpR X f r)(h':OpR X f r'):OpR X f (fun x y H Q=>r x y H Q\/r' x y H Q):=by
 intro pins s σ H x y v u Q I rx ry q;rcases q with q |q
 . exact h pins s σ H x y v u Q I rx ry q
 . exact h' pins s σ H x y v u Q I rx ry q
def e9(b:Expr)(h:op≠.In:=by decide)(h2:op≠.NotIn:=by decide):behindInMarks op b=false:=by
 have e1:(op==CmpOp.In)=false:=by cases op<;>first |rfl |exact absurd rfl h
 have e2:(op==CmpOp.NotIn)=false:=by cases op<;>first |rfl |exact absurd rfl h2
 cases b<;>simp[behindInMarks,e1,e2]
def xG(ho:OpR X (compareOp op) r)(ha:PE X a ta)(hb:PE X b tb)(hm:behindInMarks op b=false):PE X (.Compare a [op] [b] pos) (tOp r ta tb):=by intro pins s σ H Q I h;exact wpAny_Compare1 (Pz ha hb I h fun v u s2 x y H2 I2 rx ry q=>ho pins s2 σ H2 x y v u Q I2 rx ry q) hm
def ku(K:Frag)(x:V)(H:Hp)(k:Bool):Prop:=
 match x with
 | .non=>k=false
 | .bl b=>k=b
 | .int i=>k=(i != 0)
 | .str y=>y.length<=sizeLine/\k=((y.length:Int) != 0)
 | .byt y=>y.size<=sizeLine/\k=((y.size:Int) != 0)
 | .ref p=>(∃xs,SqL K H p xs/\k=!xs.isEmpty)\/(∃xs,SqT K H p xs/\k=!xs.isEmpty)\/∃kvs,H p=some (.dK kvs)/\k=!kvs.isEmpty
 |_=>False
def zil(r:KV kvs vs):(!vs.isEmpty)=!kvs.isEmpty:=by cases r<;>rfl
def Yv(r:Vals xs its):(!its.toArray.isEmpty)=!xs.isEmpty:=by cases r<;>simp
def W6:(sizeLine:Nat)<2 ^ 63:=by rw[HQ];decide
def Tc:y6t X (fun x H Q=>∃k,ku X.K x H k/\Q k H):=by
 intro pins s σ H x v Q I rx h;obtain⟨k,e,q⟩:=h;have hl:=W6;have hs:sizeLine=16777216:=HQ;cases x with
 |non=>
  cases rx
  have e':k=false:=e
  subst e'
  exact truthy_none ⟨H,I,q⟩
 |bl b=>
  cases rx
  have e':k=b:=e
  subst e'
  exact HB ⟨H,I,q⟩
 |int i=>
  obtain⟨t,rfl⟩:=rx
  have e':k=(i != 0):=e
  subst e'
  exact PySem.P.truthy_int ⟨H,I,q⟩
 |str y=>
  obtain⟨t,rfl⟩:=rx
  obtain⟨hy,e'⟩:y.length<=sizeLine/\k=((y.length:Int) != 0):=e
  subst e'
  exact PySem.P.truthy_str (by lia) ⟨H,I.tok _,q⟩
 |byt y=>
  obtain⟨t,rfl⟩:=rx
  obtain⟨hy,e'⟩:y.size<=sizeLine/\k=((y.size:Int) != 0):=e
  subst e'
  exact PySem.W.truthy_bytes (by lia) ⟨H,I.tok _,q⟩
 |ref p=>
  cases rx
  have e':(∃xs,SqL X.K H p xs/\k=!xs.isEmpty)\/(∃xs,SqT X.K H p xs/\k=!xs.isEmpty)\/∃kvs,H p=some (.dK kvs)/\k=!kvs.isEmpty:=e
  rcases e' with⟨xs,hx,e'⟩ |⟨xs,hx,e'⟩ |⟨kvs,hx,e'⟩
  . subst e';obtain⟨its,r,pl,hz⟩:=I.list hx;have ax:=r.length;exact wpAny_truthy_list pl.isList (by simp only[oF];lia) ⟨H,I.tok _,by rw[Yv r];exact q⟩
  . subst e';obtain⟨its,r,pl,hz⟩:=I.tuple hx;have ax:=r.length;exact truthy_tuple pl (by simp only[oF];lia) ⟨H,I.tok _,by rw[Yv r];exact q⟩
  . subst e';obtain⟨hz,hS,vs,r,m⟩:kvs.length<=sizeLine/\(p==sysModules)=false/\∃vs,KV kvs vs/\s.heap.DictOf (G9 X.prog X.w) p vs:=I.hok p _ hx;have ax:kvs.length=vs.length:=Paired.length r;exact wpAny_truthy_dict hS m (by lia) ⟨H,I.tok _,by rw[zil r];exact q⟩
 |_=>exact(show False from e).elim
def zim:OpR X (binaryOp .Add) (fun x y H Q=>∃i j,x=.str i/\y=.str j/\i.length+j.length<=sizeLine/\Q (.str (i++j)) H):=by intro pins s σ H x y v u Q I rx ry h;obtain⟨i,j,rfl,rfl,hz,q⟩:=h;obtain⟨t,rfl⟩:=rx;obtain⟨t',rfl⟩:=ry;exact add_str (fun t' tk=>⟨.str (i++j),H,I.tok _,⟨_,rfl⟩,q⟩) hz
def r6(r:Vals [x] us):∃u,us=[u]/\RelV x u:=by
 cases r with
 |cons r1 r2=>cases r2;exact⟨_,rfl,r1⟩
def Jh(r:Vals [x,y] us):∃u w',us=[u,w']/\RelV x u/\RelV y w':=by
 cases r with
 |cons r1 r2=>
  cases r2 with
  |cons r3 r4=>cases r4;exact⟨_,_,rfl,r1,r3⟩
def zW(hc:X.calm=true):CallR X (.builtin "max") (fun xs H Q=>∃i j,xs=[.int i,.int j]/\Q (.int (if j > i then j else i)) H):=by
 intro pins s σ H xs us Q I r h;obtain⟨i,j,rfl,q⟩:=h;obtain⟨u,w',rfl,⟨t,rfl⟩,⟨t',rfl⟩⟩:=Jh r;refine max_two_ints (I.ok.hd hc) fun h' tk k=>⟨_,H,I.kept k,?_,q⟩
 by_cases hj:j > i
 . rw[ξ hj,ξ hj];exact⟨_,rfl⟩
 . rw[ψ hj,ψ hj];exact⟨_,rfl⟩
def zV(hc:X.calm=true):CallR X (.builtin "min") (fun xs H Q=>∃i j,xs=[.int i,.int j]/\Q (.int (if j<i then j else i)) H):=by
 intro pins s σ H xs us Q I r h;obtain⟨i,j,rfl,q⟩:=h;obtain⟨u,w',rfl,⟨t,rfl⟩,⟨t',rfl⟩⟩:=Jh r;refine min_two_ints (I.ok.hd hc) fun h' tk k=>⟨_,H,I.kept k,?_,q⟩
 by_cases hj:j<i
 . rw[ξ hj,ξ hj];exact⟨_,rfl⟩
 . rw[ψ hj,ψ hj];exact⟨_,rfl⟩
def call_int1:CallR X (.type "int") (fun xs H Q=>(∃i,xs=[.int i]/\Q (.int i) H)\/∃k,xs=[.bl k]/\Q (.int (if k then 1 else 0)) H):=by
 intro pins s σ H xs us Q I r h;rcases h with⟨i,rfl,q⟩ |⟨k,rfl,q⟩
 . obtain⟨u,rfl,t,rfl⟩:=r6 r;exact call_int_int ⟨.int i,H,I,⟨_,rfl⟩,q⟩
 . obtain⟨u,rfl,r1⟩:=r6 r;cases r1;exact call_int_bool ⟨.int (if k then 1 else 0),H,I.tok _,⟨_,rfl⟩,q⟩
end
structure ObjM(h:Heap)(x dx C:Addr)(mA:Str->Option Value):Prop where
 obj:h.get? x=some (PySem.W.instObj C dx)
 ns:h.Ns1 dx mA
 ne:dx≠x
def zU{h:Heap}{dx:Addr}{mA:Str->Option Value}(n:h.Ns1 dx mA):∃od,h.get? dx=some od/\∀name,PySem.W.lookIn name od=some (mA name):=by
 obtain⟨o,es,ep,ho,hd,hk,_,hm⟩:=n;refine⟨o,ho,fun name=>?_⟩;have e:=hm name;unfold nsFind findBy at e;rw[<-Array.find?_toList]at e;unfold PySem.W.lookIn;rw[hd];dsimp only;split
 . rename_i y q;rw[q]at e;exact GY some e
 . rename_i q;rw[q]at e;have a:es.toList.any (·.refKey)=false:=by rw[List.any_eq_false];intro y hy;obtain⟨z,t,pZ⟩:=hk y (Array.mem_toList_iff.mp hy);simp[DictEntry.refKey,pZ]
   have a':¬es.toList.any (·.refKey)=true:=by rw[a];exact η
   rw[ψ a'];exact GY some e
def ObjM.look(I:ObjM h x dx C mA):∃od,PySem.W.InstAt h x (PySem.W.instObj C dx) C (some od)/\∀name,PySem.W.lookIn name od=some (mA name):=
 let ⟨od,ho,hl⟩:=zU I.ns
 ⟨od,⟨I.obj,rfl,rfl,ho⟩,hl⟩
def RelO.some_of(r:RelO (some v) o):∃u,o=some u/\RelV v u:=by
 cases o with
 |none=>exact(show False from r).elim
 |some u=>exact⟨u,rfl,r⟩
def zT(r:RelV v u):PySem.W.handedIn u=true:=by
 cases v with
 |non=>cases (show u=Value.none from r);rfl
 |bl b=>cases (show u=Value.bool b from r);rfl
 |int i=>obtain⟨t,e⟩:=(show ∃t,u=Value.int i t from r);cases e;rfl
 |str x=>obtain⟨t,e⟩:=(show ∃t,u=Value.str x t from r);cases e;rfl
 |byt b=>obtain⟨t,e⟩:=(show ∃t,u=Value.bytes b t from r);cases e;rfl
 |flt b=>obtain⟨t,e⟩:=(show ∃t,u=Value.float b t from r);cases e;rfl
 |ref a=>cases (show u=Value.ref a from r);rfl
 |ty n=>cases (show u=Value.type n from r);rfl
section
variable {P:Program}{w:World}{H:Hp}{h:Heap}{a C dx:Addr}{fs:List (Str×V)}
def xF(hok:HOk P w H h)(e:H a=some (.ins C dx fs)):∃mA,ObjM h a dx C mA/\(∀f,RelO (fs.lookup f) (mA f))/\PySem.Within mA (fs.map (·.1))/\fs.length<=1000/\H dx=some (.own a):=by obtain⟨d,z,ne,ob,mA,n,r,q⟩:=(show ObjOk P w H h a (.ins C dx fs) from hok a _ e);exact⟨mA,⟨ob,n,ne⟩,r,q,z,d⟩
end
structure Cls(K:Frag)(C:Addr):Prop where
 pg:PySem.W.plainGet K C Str.empty=true
 hd:PySem.W.hasDictIn K C=true
 po:PySem.W.plainOver K C=true
 sa:PySem.W.findIn K (.ref C) "__setattr__"=some (some (.builtin "object.__setattr__"))
def Cls.get{K:Frag}{C:Addr}(c:Cls K C)(f:Str):PySem.W.plainGet K C f=true:=c.pg
section
variable {s:Shared}{f:Str}{A:Around}{E:Value->Shared->Prop}
def xE(hb:attributeBase e f env (eval e env)=eval e env)
  (h:wpAny (model prog w) A (eval e env) (fun o af=>wpAny (model prog w) A (getAttr o f true) Q E af) E s):wpAny (model prog w) A (eval (.Attribute e f pos) env) Q E s:=
 Attribute_any_ h (by rw[arm_eval_Attribute,hb])
end
section
variable {X:Cx}{pins:List (Addr×Obj)}{σ:St}{H:Hp}{s:Shared}{A:Around}{E:Value->Shared->Prop}{Q:Value->Shared->Prop}{c:Value}{b:Bool}
inductive TyOf (K:Frag) (H:Hp):V->Value->Prop where
 |non:TyOf K H .non (.type "NoneType")
 |bl (x:Bool):TyOf K H (.bl x) (.type "bool")
 |int (i:Int):TyOf K H (.int i) (.type "int")
 |str (x:Str):TyOf K H (.str x) (.type "str")
 |flt (x:UInt64):TyOf K H (.flt x) (.type "float")
 |lst {a:Addr} {xs:List V} (e:H a=some (.lst xs)):TyOf K H (.ref a) (.type "list")
 |frz {a:Addr} {o:Obj} {xs:List V} (e:H a=some (.frz o (.lst xs))):TyOf K H (.ref a) (.type "list")
 |tup {a:Addr} {xs:List V} (e:H a=some (.tup xs)):TyOf K H (.ref a) (.type "tuple")
 |dK {a:Addr} {kvs:List (Key×V)} (e:H a=some (.dK kvs)):TyOf K H (.ref a) (.type "dict")
 |dT {a:Addr} {kvs:List (List Key×V)} (e:H a=some (.dT kvs)):TyOf K H (.ref a) (.type "dict")
 |ins {a C dx:Addr} {fs:List (Str×V)} (e:H a=some (.ins C dx fs)) (cl:Cls K C) (ha:PySem.W.findIn K (.ref C) "__class__"=some (some (.builtin "object.__class__")))
  (hn:PySem.W.specialIn K (.builtin "object.__class__") "__get__"=some (some (.builtin "getset_descriptor.__get__"))) (htk:PySem.W.takesIn K (.builtin "object.__class__")=some true)
  (hm:mroIn K C (.type "object")=some true):TyOf K H (.ref a) (.ref C)
def M9(I:Inv X pins σ H s)(rx:RelV x u)(ty:TyOf X.K H x t)(e:kitOne X.K t c=some b)(h:∀tk,Q (.bool b) { s with toks:=tk }) :
  wpAny (model X.prog X.w) A (call (.builtin "isinstance") [u,c]) Q E s:=by
 cases ty with
 |non=>cases (show u=Value.none from rx);exact kia_one PySem.W.kitx_none I.kIn True.intro e (fun z=>nomatch z) h
 |bl y=>cases (show u=Value.bool y from rx);exact kia_one PySem.W.kitx_bool I.kIn True.intro e (fun z=>nomatch z) h
 |int i=>obtain⟨t,q⟩:=(show ∃t,u=Value.int i t from rx);cases q;exact kia_one PySem.W.kitx_int I.kIn True.intro e (fun z=>nomatch z) h
 |str y=>obtain⟨t,q⟩:=(show ∃t,u=Value.str y t from rx);cases q;exact kia_one PySem.W.kitx_str I.kIn True.intro e (fun z=>nomatch z) h
 |flt y=>obtain⟨t,q⟩:=(show ∃t,u=Value.float y t from rx);cases q;exact kia_one PySem.W.kitx_float I.kIn True.intro e (fun z=>nomatch z) h
 | @lst a xs ea=>
  cases (show u=Value.ref a from rx)
  obtain⟨_,_,n,_,h1⟩:=(show ObjOk X.prog X.w H s.heap a (.lst xs) from I.hok a _ ea)
  exact kia_one PySem.W.kitx_list I.kIn ⟨_,h1,rfl⟩ e (fun z=>nomatch z) h
 | @frz a ob xs ea=>
  cases (show u=Value.ref a from rx)
  obtain⟨_,_,_,n,_,h1⟩:=(show ObjOk X.prog X.w H s.heap a (.frz ob (.lst xs)) from I.hok a _ ea)
  exact kia_one PySem.W.kitx_list I.kIn ⟨_,h1,rfl⟩ e (fun z=>nomatch z) h
 | @tup a xs ea=>
  cases (show u=Value.ref a from rx)
  obtain⟨_,_,_,p⟩:=(show ObjOk X.prog X.w H s.heap a (.tup xs) from I.hok a _ ea)
  obtain⟨o,h1,h2,_⟩:=p
  exact kia_one PySem.W.kitx_tuple I.kIn ⟨o,h1,h2⟩ e (fun z=>nomatch z) h
 | @dK a kvs ea=>
  cases (show u=Value.ref a from rx)
  obtain⟨_,_,vs,_,p⟩:=(show ObjOk X.prog X.w H s.heap a (.dK kvs) from I.hok a _ ea)
  obtain⟨o,es,ep,h1,h2,_⟩:=p
  exact kia_one PySem.W.kitx_dict I.kIn ⟨o,h1,h2.1⟩ e (fun z=>nomatch z) h
 | @dT a kvs ea=>
  cases (show u=Value.ref a from rx)
  obtain⟨_,_,xs,_,o,es,ep,h1,h2,_⟩:=(show ObjOk X.prog X.w H s.heap a (.dT kvs) from I.hok a _ ea)
  exact kia_one PySem.W.kitx_dict I.kIn ⟨o,h1,h2.1⟩ e (fun z=>nomatch z) h
 | @ins a C dx fs ea cl ha hn htk hm=>
  cases (show u=Value.ref a from rx)
  obtain⟨mA,O,_⟩:=xF I.hok ea
  obtain⟨od,J,_⟩:=O.look
  exact kia_one (PySem.W.kitx_own (cl.get _) cl.hd ha hn htk hm) I.kIn J e (fun z=>nomatch z) h
end
structure Room(k:Nat)(A:Around):Prop where
 hd:A.handled=none
 dp:A.depth+3 * k+5<recursionLimit
 un:A.units+16 * k+200<cLine
def Room.mono(r:Room k A)(h:j<=k):Room j A:=⟨r.hd,by have:=r.dp;lia,by have:=r.un;lia⟩
def Room.deeper(r:Room (k+1) A)(env:Env):Room k (A.deeper env):=
 ⟨r.hd,by have:=r.dp;show A.depth+1+3 * k+5<_;lia,by have:=r.un;show A.units+3+16 * k+200<_;lia⟩
def zin{A:Around}{C:Addr}{us:List Value}{kw:List (Str×Value)}:(A.under (.builtin "type.__call__" ⟨.ref C::us,kw⟩)).depth=A.depth+1:=by first |rfl |simp[Around.under,Code.weight,Code.isCreation,Code.isGuard,Code.isCaller,Code.frames,Code.isFrame,guardIds]
def zio{A:Around}{C:Addr}{us:List Value}{kw:List (Str×Value)}:(A.under (.builtin "type.__call__" ⟨.ref C::us,kw⟩)).units=A.units+1:=by first |rfl |simp[Around.under,Code.cUnits,Code.frames,Code.isFrame]
def Room.make(r:Room (k+1) A)(C:Addr)(us:List Value)(kw:List (Str×Value)):Room k (A.under (.builtin "type.__call__" ⟨.ref C::us,kw⟩)):=
 ⟨r.hd,by have:=r.dp;rw[zin];omega,by have:=r.un;rw[zio];omega⟩
def Room.depth(r:Room k A):A.depth<recursionLimit:=by have:=r.dp;omega
def Room.units(r:Room k A):A.units+64<cLine:=by have:=r.un;lia
noncomputable def Aj:TA:=fun _ H Q=>Q [] H
noncomputable def F9(ta:TE)(tr:TA):TA:=fun σ H Q=>ta σ H fun x H1=>tr σ H1 fun xs H2=>Q (x::xs) H2
section
variable {X:Cx}{e:Expr}{es:List Expr}{te:TE}{t:TA}{pos:Pos}
def pa_nil:PA X [] Aj:=fun _ _ _ _ H Q I h=>Calls.spliced_nil ⟨[],H,I,.nil,h⟩
def P7(ha:PE X e te)(hr:PA X es t)(hs:starEach (e::es) X.env=(false,eval e X.env)::starEach es X.env:=by rfl):PA X (e::es) (F9 te t):=by intro pos pins s σ H Q I h;rw[hs];show wpAny _ _ (spliced ((false,eval e X.env)::backTo pos (starEach es X.env))) _ _ s;refine Calls.spliced_cons (thn (ha pins s σ H _ I h) fun u s1 ⟨x,H1,I1,r1,q1⟩=>?_);exact thn (hr pos pins s1 σ H1 _ I1 q1) fun us s2 ⟨xs,H2,I2,r2,q2⟩=>⟨x::xs,H2,I2,.cons r1 r2,q2⟩
def kr(t:TA):TE:=fun σ H Q=>t σ H fun xs H1=>xs.length<=sizeLine/\∀p,H1 p=none->Q (.ref p) (upd H1 p (.tup xs))
def kq(t:TA):TE:=fun σ H Q=>t σ H fun xs H1=>xs.length<=sizeLine/\∀p,H1 p=none->Q (.ref p) (upd H1 p (.lst xs))
def vq(h:PA X es t):PE X (.Tuple es x1 pos) (kr t):=by intro pins s σ H Q I hq;refine wpAny_Tuple_spliced (thn (h pos pins s σ H _ I hq) fun us s1 ⟨xs,H1,I1,r,z,q⟩=>⟨by rw[<-r.length];exact z,?_⟩);have hf:H1 s1.heap.objs.size=none:=I1.hok.fresh (ζ _);refine⟨.ref s1.heap.objs.size,upd H1 s1.heap.objs.size (.tup xs),I1.laid (t':=s1.toks) (fun b u e=>τ _ e) (ζ _) ?_,rfl,q _ hf⟩;exact⟨z,us,r,.mk' (Ψ _ rfl)⟩
def vp(h:PA X es t):PE X (.List es pos) (kq t):=by intro pins s σ H Q I hq;refine wpAny_List_spliced (thn (h pos pins s σ H _ I hq) fun us s1 ⟨xs,H1,I1,r,z,q⟩=>⟨by rw[<-r.length];exact z,?_⟩);have hf:H1 s1.heap.objs.size=none:=I1.hok.fresh (ζ _);refine⟨.ref s1.heap.objs.size,upd H1 s1.heap.objs.size (.lst xs),I1.laid (t':=s1.toks) (fun b u e=>τ _ e) (ζ _) ?_,rfl,q _ hf⟩;exact⟨z,us,0,r,Ψ _ rfl⟩
end
abbrev Sp:=List V->Hp->VK->XK->Prop
abbrev CXT:=List Env->Hp->Shared->XK->Value->Shared->Prop
structure Env0(P:Program)(w:World)(K:Frag)(mg:Str->Option Value)(base:Heap)(A:Around)(outer:List Env)(s:Shared)(H:Hp):Prop where
 frames:A.frames=some outer
 mod:Mod K mg base
 bs:∀b o,base.get? b=some o->s.heap.get? b=some o/\H b=none
 bsz:base.objs.size<=s.heap.objs.size
 funs:s.heap.FunFrames base outer
 frf:∀b∈frs outer,H b=none
 hok:HOk P w H s.heap
 bare:AllBare s.gens
def CE(outer:List Env)(P:Program)(w:World)(H:Hp)(s:Shared)(Q:VK)(u:Value)(s':Shared):Prop:=
 ∃v H',s'.os=s.os/\AllBare s'.gens/\Un (frs outer) [] H H' s.heap s'.heap/\HOk P w H' s'.heap/\RelV v u/\Q v H'
def CR(CX:CXT)(outer:List Env)(P:Program)(w:World)(H:Hp)(s:Shared)(Q:VK)(E:XK)(r:Result)(s':Shared):Prop:=
 match r with
 | .ok (.ret u)=>CE outer P w H s Q u s'
 | .ok _=>False
 | .error e=>CX outer H s E e s'
structure FnOk(P:Program)(w:World)(K:Frag)(mg:Str->Option Value)(base:Heap)(CX:CXT)(k:Nat)(f:Addr)(fd:FuncData)(ps:List Str)(sp:Sp):Prop where
 len:∀vs H Q E,sp vs H Q E->vs.length=ps.length
 run:∀(A:Around)(outer:List Env)(s:Shared)(H:Hp)(args:Args)(us:List Value)(vs:List V)(Q:VK)(E:XK),Room k A->Env0 P w K mg base A outer s H->BindsTo s fd args (ps.zip us)->Vals vs us->sp vs H Q E ->
  codeAny (model P w) A (.call (.ref f) args) (CR CX outer P w H s Q E) s
def FnOk.imp{P:Program}{w:World}{K:Frag}{mg:Str->Option Value}{base:Heap}{CX:CXT}{k:Nat}{f:Addr}{fd:FuncData}{ps:List Str}{sp rT:Sp}(F:FnOk P w K mg base CX k f fd ps sp)
  (h:∀vs H Q E,rT vs H Q E->sp vs H Q E):FnOk P w K mg base CX k f fd ps rT:=
 ⟨fun vs H Q E q=>F.len vs H Q E (h _ _ _ _ q),fun A outer s H args us vs Q E hr he hb hv hs=>F.run A outer s H args us vs Q E hr he hb hv (h _ _ _ _ hs)⟩
def Env0.make{P:Program}{w:World}{K:Frag}{mg:Str->Option Value}{base:Heap}{A:Around}{outer:List Env}{s:Shared}{H:Hp}(e:Env0 P w K mg base A outer s H)(C:Addr)(us:List Value)(kw:List (Str×Value)) :
 Env0 P w K mg base (A.under (.builtin "type.__call__" ⟨.ref C::us,kw⟩)) outer s H:=⟨by first |exact e.frames | (simpa [Around.under,Code.envs,Code.isFrame,pushEnvs] using e.frames),e.mod,e.bs,e.bsz,e.funs,e.frf,e.hok,e.bare⟩
section
variable {X:Cx}{pins:List (Addr×Obj)}{σ:St}{H:Hp}{s s':Shared}
def Inv.env0(I:Inv X pins σ H s):Env0 X.prog X.w X.K X.mg X.base X.A X.stack s H:=
 ⟨I.ok.frames,I.ok.mod,I.bs,EZ I.ok.bsz I.sz,I.stack,I.stkFree,I.hok,I.bare⟩
def Inv.after(I:Inv X pins σ H s)(h:CE X.stack X.prog X.w H s Q u s'):EP X pins σ Q u s':=by obtain⟨v,H',os,bare,un,hok,r,q⟩:=h;obtain⟨hh,g,d,t,tP⟩:=s';obtain rfl:tP=s.os:=os;exact⟨v,H',I.call (h':=hh) (g':=g) (d':=d) (t':=t) (ch:=[]) un hok bare (fun b z=>absurd z (by simp)),r,q⟩
end
noncomputable def Qw(sp:Sp)(gh:List V)(E:XK)(t:TA):TE:=fun σ H Q=>t σ H fun vs H1=>sp (vs++gh) H1 Q E
def Binds(K:Frag)(fd:FuncData)(ps:List Str)(ds:List Value):Prop:=
 ∀(s:Shared)(us:List Value),K.In s.heap->(us++ds).length=ps.length->BindsTo s fd ⟨us,[]⟩ (ps.zip (us++ds))
def Binds.all{K:Frag}{fd:FuncData}{ps:List Str}(h:∀us:List Value,us.length=ps.length->bindArgs fd ⟨us,[]⟩=pure (ps.zip us)):Binds K fd ps []:=fun s us _ hl=>by rw[GL]at hl⊢;exact .of_eq (h us hl)
def W5(CX:CXT)(X:Cx)(E:XK):Prop:=∀(pins:List (Addr×Obj))(σ:St)(H:Hp)(s:Shared)(e:Value)(s':Shared),Inv X pins σ H s->CX X.stack H s E e s'->X.xe e s'
section
variable {X:Cx}{CX:CXT}{k:Nat}{f:Addr}{fd:FuncData}{ps:List Str}{sp:Sp}{gh:List V}{ds:List Value}{E:XK}{x:Str}{p pos:Pos}{e:Expr}{es:List Expr}{t:TA}
def vo(F:FnOk X.prog X.w X.K X.mg X.base CX k f fd ps sp)(hr:Room k X.A)(hb:Binds X.K fd ps ds)(hd:Vals gh ds)(hx:W5 CX X E)
  (I:Inv X pins σ H s) (r:Vals vs us) (h:sp (vs++gh) H Q E):wpAny (model X.prog X.w) X.A (call (.ref f) us) (EP X pins σ Q) X.xe s:=by
 have r2:Vals (vs++gh) (us++ds):=r.append hd
 have hl:(us++ds).length=ps.length:=by rw[<-r2.length];exact F.len _ _ _ _ h
 refine wpAny_call (Iy (F.run X.A X.stack s H ⟨us,[]⟩ (us++ds) (vs++gh) Q E hr I.env0 (hb s us I.kIn hl) r2 h) fun r s' hq=>?_)
 cases r with
 |error e=>exact hx pins σ H s e s' I hq
 |ok fl=>
  cases fl with
  |ret u=>exact I.after hq
  |next=>exact False.elim hq
  |brk=>exact False.elim hq
  |cont=>exact False.elim hq
def xD(F:FnOk X.prog X.w X.K X.mg X.base CX k f fd ps sp)(hr:Room k X.A)(hg:Gl X x)(hm:X.mg x=some (.ref f))(hk:keepIn X.K (.ref f)=true)(hb:Binds X.K fd ps ds)(hd:Vals gh ds)(hx:W5 CX X E)
  (ha:PA X (e::es) t) (aA:(x==("__debug__":Str))=false:=by decide) (he:starEach (e::es) X.env=(false,eval e X.env)::starEach es X.env:=by rfl) (hpl:(backTo pos (starEach es X.env)).any (·.1)=false:=by rfl) :
  PE X (.Call (.Name x p) (e::es) [] pos) (Qw sp gh E t):=by
 intro pins s σ H Q I h
 refine Iu (X3 I hg hm ?_ aA)
 refine PySem.W.callWith_K (h₀:=X.base) I.ok.mod.kin hk (thn (ha pos pins s σ H _ I h) fun us s1 ⟨vs,H1,I1,r,q⟩=>⟨I1.kIn,?_⟩) he hpl
 exact vo F hr hb hd hx I1 r q
end
structure FnScope(N P:List Str)(sc:Scope):Prop where
 kind:sc.kind=.function
 co:sc.isCoroutine=false
 gen:sc.isGenerator=false
 nd:N.Nodup
 pre:N.take P.length=P
 par:∀x∈P,sc.names.lookup x=some .local\/sc.names.lookup x=some .cell
 nofree:∀y∈sc.names,y.2≠.free
theorem Xz{kindOf:Str->Option NameKind}{x:Str}:∀{binds:List (Str×Value)}{m:Str->Option Value},(∀v,(x,v)∉binds)->bindL kindOf binds m x=m x
 | [],_,_=>rfl
 | (n,v)::r,m,h=>by
  unfold bindL;rw[Xz fun w hw=>h w (bI _ hw)];split
  . have:x≠n:=by rintro rfl;exact h v io
    simp[this]
  . rfl
theorem Xy{kindOf:Str->Option NameKind}{x:Str}:∀{binds:List (Str×Value)}{m:Str->Option Value},(∀v,(x,v)∉binds)->bindC kindOf binds m x=m x
 | [],_,_=>rfl
 | (n,v)::r,m,h=>by
  unfold bindC;rw[Xy fun w hw=>h w (bI _ hw)];split
  . rfl
  . have:x≠n:=by rintro rfl;exact h v io
    simp[this]
theorem Xx{kindOf:Str->Option NameKind}{x:Str}{v:Value}:∀{P:List Str}{vs:List Value}{i:Nat}{m:Str->Option Value},P.Nodup->P[i]?=some x->vs[i]?=some v->kindOf x=some .local ->
  bindL kindOf (P.zip vs) m x=some v
 | [],_,_,_,_,h,_,_=>by simp at h
 |_::_,[],_,_,_,_,h,_=>by simp at h
 |p::P,w::vs,0,m,nd,h1,h2,hk=>by simp at h1 h2;subst h1;subst h2;show bindL kindOf ((p,w)::P.zip vs) m p=_;unfold bindL;rw[Xz fun v hv=>(IC.mp nd).1 (List.of_mem_zip hv).1,ξ hk];simp
 |p::P,w::vs,i+1,m,nd,h1,h2,hk=>by show bindL kindOf ((p,w)::P.zip vs) m x=_;unfold bindL;exact Xx (i:=i) (IC.mp nd).2 (by simpa using h1) (by simpa using h2) hk
theorem Xw{kindOf:Str->Option NameKind}{x:Str}{v:Value}:∀{P:List Str}{vs:List Value}{i:Nat}{m:Str->Option Value},P.Nodup->P[i]?=some x->vs[i]?=some v->kindOf x≠some .local ->
  bindC kindOf (P.zip vs) m x=some v
 | [],_,_,_,_,h,_,_=>by simp at h
 |_::_,[],_,_,_,_,h,_=>by simp at h
 |p::P,w::vs,0,m,nd,h1,h2,hk=>by simp at h1 h2;subst h1;subst h2;show bindC kindOf ((p,w)::P.zip vs) m p=_;unfold bindC;rw[Xy fun v hv=>(IC.mp nd).1 (List.of_mem_zip hv).1,ψ hk];simp
 |p::P,w::vs,i+1,m,nd,h1,h2,hk=>by show bindC kindOf ((p,w)::P.zip vs) m x=_;unfold bindC;exact Xw (i:=i) (IC.mp nd).2 (by simpa using h1) (by simpa using h2) hk
noncomputable def E8(N:List Str)(vs:List V):St:=vs.map some++List.replicate (N.length - vs.length) none
def B5(CX:CXT)(P:Program)(w:World)(K:Frag)(mg:Str->Option Value)(base:Heap)(N:List Str)(qual:Str)(scope:Scope)(f:Addr)(cd:Value)(A:Around)(outer:List Env)(s:Shared)(H:Hp)(E:XK):Cx where
 prog:=P
 w:=w
 K:=K
 mg:=mg
 base:=base
 A:=A.deeper (envOfC qual scope s.heap.objs.size f cd)
 N:=N
 s₀:=s
 H₀:=H
 env:=envOfC qual scope s.heap.objs.size f cd
 outer:=outer
 stack:=envOfC qual scope s.heap.objs.size f cd::outer
 ex:=[]
 calm:=true
 fn:=fun _=>true
 pn:=[]
 xe:=fun e s'=>wpAny (model P w) (A.deeper (envOfC qual scope s.heap.objs.size f cd)) (leaving (envOfC qual scope s.heap.objs.size f cd) e) (fun _ de=>CX outer H s E e de) (fun e' de=>CX outer H s E e' de) s'
def Wq{sc:Scope}{n:Nat}{x:Str}(h:sc.names.lookup x=some .cell):∃c,(cellsFrom n sc.names []).lookup x=some c:=by have q:=PySem.W.cellsFrom_some sc.names n [] (.inl h);exact Option.isSome_iff_exists.mp q
def zS{CX:CXT}{P:Program}{w:World}{K:Frag}{mg:Str->Option Value}{base:Heap}{N ps:List Str}{qual:Str}{scope:Scope}{f:Addr}{cd:Value}{A:Around}{outer:List Env}{s s1:Shared}{H:Hp}{E:XK}{us:List Value}{vs:List V}
  (S:FnScope N ps scope) (hd:A.handled=none) (e0:Env0 P w K mg base A outer s H) (hl:vs.length=ps.length) (r:Vals vs us)
  (x:InCallC s s.heap.objs.size (bindL (envOfC qual scope s.heap.objs.size f cd).kindOf (ps.zip us) fun _=>none) (cellsFrom (s.heap.objs.size+1) scope.names []) (bindC (envOfC qual scope s.heap.objs.size f cd).kindOf (ps.zip us) fun _=>none) s1) :
  Inv (B5 CX P w K mg base N qual scope f cd A outer s H E) [] (E8 N vs) H s1:=by
 have hpl:ps.length<=N.length:=by have:=GY List.length S.pre;rw[HZ]at this;lia
 obtain⟨h1,tk,rfl,hk⟩:=x.done
 have lr:∀b:Addr,b∉(B5 CX P w K mg base N qual scope f cd A outer s H E).ex:=fun b z=>absurd (show b∈([]:List Addr) from z) (by simp)
 refine⟨⟨e0.mod,S.kind,rfl,rfl,ζ _,fun y z c h1 h2=>?_,fun y hy=>?_,fun y c _ h=>?_,fun _=>hd,Around.frames_deeper e0.frames,.inr ⟨rfl,rfl⟩,fun b z=>absurd z (lr b),e0.bs,e0.bsz,fun b _ _=>lr b,fun b z=>absurd z (lr b),e0.funs,e0.frf⟩,
  rfl,e0.bare,Un.kept hk,⟨_,x.toInCall.ns,fun i y v h1 h2 h3=>?_⟩,fun y c h=>⟨_,x.cell y c h⟩,e0.hok.fresh (ζ _),fun y c h=>?_,fun p hp=>absurd (show p∈([]:List (Addr×Obj)) from hp) (by simp),e0.hok.kept hk,?_⟩
 . exact name_of_addr x.apart (GZ h1) (GZ h2)
 . have hy:scope.names.lookup y=some .cell\/scope.names.lookup y=some .free:=hy;rcases hy with hy |hy
   . exact Wq hy
   . exact absurd rfl (S.nofree _ (GZ hy))
 . exact HX (x.above y c (GZ h))
 . have hi:i<vs.length:=by
    unfold E8 at h2
    by_cases hi:i<vs.length
    . exact hi
    . rw[FZ (by simpa using hi)]at h2;rw[List.getElem?_replicate]at h2;split at h2<;>cases h2
   have ha:vs[i]?=some v:=by
    unfold E8 at h2;rw[FL (by simpa using hi),FF]at h2;cases e:vs[i]? with
    |none=>rw[e]at h2;cases h2
    |some a=>rw[e]at h2;cases h2;rfl
   obtain⟨u,hu,rv⟩:=r.get ha
   have hp:ps[i]?=some y:=by rw[<-S.pre,List.getElem?_take_of_lt (by lia)];exact h1
   have rV:ps.Nodup:=by rw[<-S.pre];exact S.nd.sublist (List.take_sublist _ _)
   refine⟨u,rv,?_⟩
   rcases S.par y (FP hp) with k |k
   . exact .inl ⟨k,Xx rV hp hu k⟩
   . obtain⟨c,e⟩:=Wq (n:=s.heap.objs.size+1) k;refine .inr ⟨.inl k,c,e,?_⟩;have q:=x.cell y c e;rw[Xw rV hp hu (by show scope.names.lookup y≠_;rw[k];decide)]at q;exact q
 . exact e0.hok.fresh (HX (x.above y c (GZ h)))
 . unfold E8;show _=N.length;rw[θ,gc,List.length_replicate]
   lia
def y27{CX:CXT}{P:Program}{w:World}{K:Frag}{mg:Str->Option Value}{base:Heap}{k:Nat}{f:Addr}{name qual:Str}{params:Arguments}{body:List Stmt}{scope:Scope}{dV kV doc pm cdv ct oc:Value}{an od:Option Addr}
  {osl:Array (Option Value)} {N ps:List Str} {sp:Sp} (lk:K.lookup f=some ⟨oc,od,.func (PySem.W.fnOf name qual params body scope dV kV doc pm an cdv ct),osl⟩) (cK:codeIn K cdv qual=true) (S:FnScope N ps scope)
  (len:∀vs H Q E,sp vs H Q E->vs.length=ps.length)
  (cY:∀(A:Around)(outer:List Env)(s:Shared)(H:Hp)(vs:List V)(Q:VK)(E:XK),Room k (A.deeper (envOfC qual scope s.heap.objs.size f cdv))->sp vs H Q E ->
   ∃t,PSs (B5 CX P w K mg base N qual scope f cdv A outer s H E) body t/\t { nx:=fun _ H'=>Q .non H',rt:=Q } (E8 N vs) H) :
  FnOk P w K mg base CX (k+1) f (PySem.W.fnOf name qual params body scope dV kV doc pm an cdv ct) ps sp:=by
 refine⟨len,fun A outer s H args us vs Q E hr e0 hb r gi=>?_⟩
 have hl:=len _ _ _ _ gi
 have KX:K.In s.heap:=e0.mod.kin.keeps fun b o e=>(e0.bs b o e).1
 have tQ:s.heap.NoLimit:=e0.mod.nolimit.keeps fun b o e=>(e0.bs b o e).1
 have dC:∀y∈ps.zip us,scope.names.lookup y.1=some .local\/(scope.names.lookup y.1=some .cell/\((cellsFrom (s.heap.objs.size+1) scope.names []).lookup y.1).isSome=true):=fun⟨n,v⟩ hy=>by
  rcases S.par n (List.of_mem_zip hy).1 with q |q
  . exact .inl q
  . exact .inr ⟨q,PySem.W.cellsFrom_some _ _ _ (.inl q)⟩
 refine codeAny_call_function hr.depth (KX _ _ lk) rfl S.co S.gen rfl (PySem.W.codeRec_of KX cK) (hb _ _ _ _ ?_)
 refine wpAny_newFunctionEnv_cells S.kind dC fun env he s1 x=>?_
 subst he
 refine⟨tQ.keeps x.toInCall.keep,codeAny_func ?_⟩
 obtain⟨t,ht,hq⟩:=cY A outer s H vs Q E (hr.deeper _) gi
 have I:Inv (B5 CX P w K mg base N qual scope f cdv A outer s H E) [] (E8 N vs) H s1:=zS S hr.hd e0 hl r x
 refine EU (ht [] s1 (E8 N vs) H _ I hq) (fun fl s' hs=>?_) fun e s' hs=>hs
 have fin:∀{ag:St}{H':Hp}{v:V}{u:Value},Inv (B5 CX P w K mg base N qual scope f cdv A outer s H E) [] ag H' s'->RelV v u->Q v H'->CE outer P w H s Q u s':=
  fun {ag H' v u} J rv q=>⟨v,H',J.os,J.bare,J.base,J.hok,rv,q⟩
 cases fl with
 |ret u=>
  obtain⟨v,ag,H',J,rv,q⟩:=hs
  exact fin J rv q
 |next=>
  obtain⟨ag,H',J,q⟩:=hs
  exact fin (v:=V.non) (u:=Value.none) J rfl q
 |brk=>
  obtain⟨_,_,_,q⟩:=hs
  exact False.elim q
 |cont=>
  obtain⟨_,_,_,q⟩:=hs
  exact False.elim q
section
variable {X:Cx}{x:Str}{p pos:Pos}{e:Expr}{es:List Expr}{t:TA}{id T:String}{r:List V->Hp->VK->Prop}
noncomputable def tCB(r:List V->Hp->VK->Prop)(t:TA):TE:=fun σ H Q=>t σ H fun vs H1=>r vs H1 Q
def Ma(hc:CallR X (.builtin id) r)(hg:Gl X x)(hm:X.mg x=none)(hv:bootBuiltins x=some (.builtin id))(ha:PA X (e::es) t)(hn:x≠"__name__":=by decide)(aA:(x==("__debug__":Str))=false:=by decide)
  (he:starEach (e::es) X.env=(false,eval e X.env)::starEach es X.env:=by rfl) (hpl:(backTo pos (starEach es X.env)).any (·.1)=false:=by rfl):PE X (.Call (.Name x p) (e::es) [] pos) (tCB r t):=by
 intro pins s σ H Q I h
 refine Iu (W8 I hg hm hv ?_ hn aA)
 exact PyProof.Rows.callWith_builtin1 (thn (ha pos pins s σ H _ I h) fun us s1 ⟨vs,H1,I1,r1,q1⟩=>hc pins s1 σ H1 vs us Q I1 r1 q1) he hpl
def zR(hc:CallR X (.type T) r)(hg:Gl X x)(hm:X.mg x=none)(hv:bootBuiltins x=some (.type T))(ha:PA X (e::es) t)(hn:x≠"__name__":=by decide)(aA:(x==("__debug__":Str))=false:=by decide)
  (he:starEach (e::es) X.env=(false,eval e X.env)::starEach es X.env:=by rfl) (hpl:(backTo pos (starEach es X.env)).any (·.1)=false:=by rfl):PE X (.Call (.Name x p) (e::es) [] pos) (tCB r t):=by
 intro pins s σ H Q I h
 refine Iu (W8 I hg hm hv ?_ hn aA)
 exact IE (thn (ha pos pins s σ H _ I h) fun us s1 ⟨vs,H1,I1,r1,q1⟩=>hc pins s1 σ H1 vs us Q I1 r1 q1) he hpl
end
end L2
namespace HT
open PySem PyProof.Rows
def rcLt_int(A:Around)(s:Shared)(a:Int)(t:Tok)(c:Int)(u:Tok)(prog:Program)(w:World)(E:Value->Shared->Prop)(Q:Value->Shared->Prop)(h:Q (.bool (decide (a<c))) s) :
  wpAny (model prog w) A (richCompare .Lt (.int a t) (.int c u)) Q E s:=
 (PyProof.Rows.lt_int h:wpAny (model prog w) A (compareOp .Lt (.int a t) (.int c u)) Q E s)
section
open PySem.SeqAt
open PySem.AutoSeq1 (wpAny_loadPart')
open PySem.MeetsSeq PySem.MeetsSeq2 PySem.MeetsSeq3
end
section
def sIx(n d:Nat):Option Int->Nat
 |none=>d
 |some v=>if v<0 then(v+(n:Int)).toNat else min v.toNat n
end
end HT
namespace L2
open PySem PySem.Spec PyProof.Rows
abbrev TO:=St->Hp->(Option Int->Hp->Prop)->Prop
def PO(X:Cx)(e:Option Expr)(t:TO):Prop:=
 ∀(pins:List (Addr×Obj))(s:Shared)(σ:St)(H:Hp)(Q:Option Int->Hp->Prop),Inv X pins σ H s->t σ H Q ->
  wpAny (model X.prog X.w) X.A (evalPart e X.env) (fun u s'=>∃o H',Inv X pins σ H' s'/\IsPart u o/\Q o H') X.xe s
noncomputable def xC:TO:=fun _ H Q=>Q none H
noncomputable def y28(t:TE):TO:=fun σ H Q=>t σ H fun x H1=>∃i,x=.int i/\Q (some i) H1
def Fw:∀{us:List Value},Vals (ns.map V.int) us->IntsAre us ns:=by
 induction ns with
 |nil=>intro us r;rw[GK]at r;cases r;exact .nil
 |cons n ns ih=>
  intro us r
  rw[ng]at r
  cases r with
  |cons r1 r2=>
   obtain⟨t,e⟩:=r1
   subst e
   exact .cons n t (ih r2)
section
variable {X:Cx}{e:Expr}{te:TE}{lo hi:Option Expr}{tl th:TO}{pos p2:Pos}
def po_none:PO X none xC:=by intro pins s σ H Q I h;rw[evalPart_none];exact ω ⟨none,H,I,.none,h⟩
def xB(h:PE X e te):PO X (some e) (y28 te):=by
 intro pins s σ H Q I hw;rw[evalPart_some];refine thn (h pins s σ H _ I hw) fun u s1 ⟨x,H1,I1,r1,q1⟩=>?_
 obtain⟨i,rfl,q⟩:=q1;obtain⟨t,rfl⟩:=r1;exact⟨some i,H1,I1,.int i t,q⟩
def SlR(X:Cx)(r:V->Option Int->Option Int->Hp->VK->Prop):Prop:=
 ∀(pins:List (Addr×Obj))(s:Shared)(σ:St)(H:Hp)(x:V)(v vl vu:Value)(lo hi:Option Int)(sl:Addr)(Q:VK),Inv X pins σ H s->RelV x v->s.heap.IsSliceOf sl vl vu .none->IsPart vl lo->IsPart vu hi->r x lo hi H Q ->
  ∃T id,typeLookup (.type T) "__getitem__"=pure (some (.builtin id))/\s.TypeIs v T/\wpAny (model X.prog X.w) X.A (getItem v (.ref sl)) (EP X pins σ Q) X.xe s
noncomputable def tSl(r:V->Option Int->Option Int->Hp->VK->Prop)(te:TE)(tl th:TO):TE:=fun σ H Q=>te σ H fun x H1=>tl σ H1 fun l H2=>th σ H2 fun u H3=>r x l u H3 Q
def zg(hr:SlR X r)(he:PE X e te)(hl:PO X lo tl)(hu:PO X hi th):PE X (.Subscript e (.Slice lo hi none p2) pos) (tSl r te tl th):=by
 intro pins s σ H Q I h;refine Subscript_ (thn (he pins s σ H _ I h) fun v s1 ⟨x,H1,I1,r1,q1⟩=>?_);refine wpAny_Slice (thn (hl pins s1 σ H1 _ I1 q1) fun vl s2 ⟨l,H2,I2,pl,q2⟩=>thn (hu pins s2 σ H2 _ I2 q2) fun vu s3 ⟨u,H3,I3,pu,q3⟩=>?_);rw[evalPart_none];refine ω ?_;have I4:Inv X pins σ H3 { s3 with heap:=s3.heap.push { cls:=.type "slice",data:=.fields #[vl,vu,.none] } }:=I3.kept (t':=s3.toks) fun b ob q=>τ _ q
 obtain⟨T,id,hT,ht,hg⟩:=hr pins { s3 with heap:=s3.heap.push { cls:=.type "slice",data:=.fields #[vl,vu,.none] } } σ H3 x v vl vu l u s3.heap.objs.size Q I4 r1 (Heap.IsSliceOf.new ..) pl pu q3;show wpAny (model X.prog X.w) X.A (subscriptTail e (.Slice lo hi none p2) v (.ref s3.heap.objs.size)) (EP X pins σ Q) X.xe { s3 with heap:=s3.heap.push { cls:=.type "slice",data:=.fields #[vl,vu,.none] } };exact tail_any (ops:=[.ref s3.heap.objs.size,v]) ht hT hg (by with_unfolding_all rfl)
noncomputable def U5(xs:List V)(lo hi:Option Int):List V:=(xs.drop (HT.sIx xs.length 0 lo)).take (HT.sIx xs.length xs.length hi - HT.sIx xs.length 0 lo)
def zfr(xs:List V)(lo hi:Option Int):(U5 xs lo hi).length<=xs.length:=by unfold U5;rw[HZ,HE];omega
end
noncomputable def ixN(n:Nat)(i:Int):Option Nat:=if 0<=i then(if i<n then some i.toNat else none) else if -(n:Int)<=i then some (i+n).toNat else none
def atI{α:Type}(xs:List α)(i:Int):Option α:=(ixN xs.length i).bind fun j=>xs[j]?
def xA(h:ixN n i=some j):seqIndex? i n=some j/\j<n/\-(n:Int)<=i/\i<n:=by
 unfold ixN at h;by_cases h0:0<=i
 . rw[ξ h0]at h;by_cases h1:i<n
   . rw[ξ h1]at h;have e:i.toNat=j:=Option.some.inj h;exact⟨by rw[seqIndex_of h0 h1,e],by lia,by lia,h1⟩
   . rw[ψ h1]at h;cases h
 . rw[ψ h0]at h;by_cases h1:-(n:Int)<=i
   . rw[ξ h1]at h;have e:(i+n).toNat=j:=Option.some.inj h;exact⟨by rw[seqIndex_neg (by lia) h1,e],by lia,h1,by lia⟩
   . rw[ψ h1]at h;cases h
def Lf(h:atI xs i=some v):∃j,seqIndex? i xs.length=some j/\xs[j]?=some v/\j<xs.length/\-(xs.length:Int)<=i/\i<xs.length:=by
 unfold atI at h;cases e:ixN xs.length i with
 |none=>rw[e]at h;cases h
 |some j=>
  rw[e]at h
  obtain⟨h1,h2,h3,h4⟩:=xA e
  exact⟨j,h1,h,h2,h3,h4⟩
def S0{α:Type}{xs:List α}{j:Nat}{v:α}(h:xs[j]?=some v):atI xs (j:Int)=some v:=by
 have hj:j<xs.length:=(FK.mp h).1;have e:ixN xs.length (j:Int)=some j:=by unfold ixN;rw[ξ (by lia),ξ (by lia)];simp
 unfold atI;rw[e];exact h
def zf(xs:List α)(v:α):atI (xs++[v]) (-1)=some v:=by
 have hl:(xs++[v]).length=xs.length+1:=by simp
 have e:ixN (xs++[v]).length (-1)=some xs.length:=by
  unfold ixN;rw[hl,ψ (by decide),ξ (by lia)];congr 1
  lia
 unfold atI;rw[e];show(xs++[v])[xs.length]?=some v;simp
def Le(b:Expr):Prop:=∀o i,subscripted b false o i=operate [o,i] (getItem o i)
def IxR(X:Cx)(r:R2):Prop:=
 ∀(value slice:Expr)(pins:List (Addr×Obj))(s:Shared)(σ:St)(H:Hp)(x y:V)(v u:Value)(Q:VK),Inv X pins σ H s->RelV x v->RelV y u->r x y H Q ->
  subscripted slice false v u=operate [v,u] (getItem v u)->wpAny (model X.prog X.w) X.A (subscriptTail value slice v u) (EP X pins σ Q) X.xe s
def MtR(X:Cx)(id:String)(r:V->List V->Hp->VK->Prop):Prop:=
 ∀(pins:List (Addr×Obj))(s:Shared)(σ:St)(H:Hp)(x:V)(xs:List V)(v:Value)(us:List Value)(Q:VK),Inv X pins σ H s->RelV x v->Vals xs us->r x xs H Q ->
  wpAny (model X.prog X.w) X.A (call (.builtin id) (v::us)) (EP X pins σ Q) X.xe s
section
variable {X:Cx}{a b:Expr}{ta tb:TE}{pos:Pos}
def IxR.or(h:IxR X r)(h':IxR X r'):IxR X (fun x y H Q=>r x y H Q\/r' x y H Q):=by
 intro value slice pins s σ H x y v u Q I rx ry q hs;rcases q with q |q
 . exact h value slice pins s σ H x y v u Q I rx ry q hs
 . exact h' value slice pins s σ H x y v u Q I rx ry q hs
def y29(hr:IxR X r)(ha:PE X a ta)(hb:PE X b tb)(hs:Le b):PE X (.Subscript a b pos) (tOp r ta tb):=by intro pins s σ H Q I h;exact Subscript_ (Pz ha hb I h fun v u s2 x y H2 I2 rx ry q=>hr a b pins s2 σ H2 x y v u Q I2 rx ry q (hs _ _))
def ko(K:Frag):R2:=fun x y H Q=>∃p xs i v,x=.ref p/\y=.int i/\SqL K H p xs/\atI xs i=some v/\Q v H
def km(K:Frag):R2:=fun x y H Q=>∃p xs i v,x=.ref p/\y=.int i/\SqT K H p xs/\atI xs i=some v/\Q v H
def kj:R2:=fun x y H Q=>∃z i c,x=.str z/\y=.int i/\z.length<=sizeLine/\atI z.cps.toList i=some c/\Q (.str ⟨#[c]⟩) H
def ix_list:IxR X (ko X.K):=by
 intro value slice pins s σ H x y v u Q I rx ry h hs;obtain⟨p,xs,i,z,rfl,rfl,hq,he,q⟩:=h;cases rx;obtain⟨t,rfl⟩:=ry;obtain⟨its,r,pl,hz⟩:=I.list hq;obtain⟨j,h1,h2,h3,h4,h5⟩:=Lf he;obtain⟨w,ew,cE⟩:=r.get h2;have hl:=r.length;have hn:=W6;have fin:EP X pins σ Q w s:=⟨z,H,I,cE,q⟩;by_cases h0:0<=i
 . have hj:i.toNat=j:=by
    rw[seqIndex_of h0 h5]at h1
    exact Option.some.inj h1
   exact item_listR pl.isList h0 (by lia) (by rw[hj];simpa using ew) fin hs
 . have hj:(i+(its.toArray.size:Int)).toNat=j:=by
    rw[seqIndex_neg (by lia) h4]at h1
    rw[oF,<-hl]
    exact Option.some.inj h1
   exact subscriptTail_builtinR (x:=w) pl.isList.typeIs slot_list_getitem.lookup
    (wpAny_getItem_list_neg (Q:=fun r s'=>r=w/\EP X pins σ Q r s') pl.isList (by lia) (by rw[oF]<;>lia) (by lia) (by rw[hj];simpa using ew) ⟨rfl,fin⟩) hs
def ix_tup:IxR X (km X.K):=by
 intro value slice pins s σ H x y v u Q I rx ry h hs;obtain⟨p,xs,i,z,rfl,rfl,hq,he,q⟩:=h;cases rx;obtain⟨t,rfl⟩:=ry;obtain⟨its,r,pl,hz⟩:=I.tuple hq;obtain⟨j,h1,h2,h3,h4,h5⟩:=Lf he;obtain⟨w,ew,cE⟩:=r.get h2;have hl:=r.length;have hn:=W6;have fin:EP X pins σ Q w s:=⟨z,H,I,cE,q⟩;exact subscriptTail_builtinR (x:=w) pl.typeIs slot_tuple_getitem.lookup
  (getItem_tuple (j:=j) (Q:=fun r s'=>r=w/\EP X pins σ Q r s') pl (by lia) (by lia) (by rw[oF,<-hl];exact h1) (by simpa using ew) ⟨rfl,fin⟩) hs
def vn:IxR X kj:=by
 intro value slice pins s σ H x y v u Q I rx ry h hs;obtain⟨z,i,c,rfl,rfl,hz,he,q⟩:=h;obtain⟨t,rfl⟩:=rx;obtain⟨t',rfl⟩:=ry;obtain⟨j,h1,h2,h3,h4,h5⟩:=Lf he;have hl:z.cps.toList.length=z.length:=by simp[Str.length]
 rw[hl]at h1 h4 h5;have hn:=W6;exact tail_any (typeIs_str s z t) slot_str_getitem.lookup (getItem_str (c:=c) (by have e1:decide (i < -(2 ^ 63:Int))=false:=decide_eq_false (by lia);have e2:decide (i ≥ 2 ^ 63)=false:=decide_eq_false (by lia);rw[e1,e2,Bool.or_false]) (by rw[h1];simpa using h2) ⟨.str ⟨#[c]⟩,H,I.tok _,⟨_,rfl⟩,q⟩) hs
def rIx(K:Frag):R2:=fun x y H Q=>ko K x y H Q\/km K x y H Q\/kj x y H Q
def ix_seq:IxR X (rIx X.K):=ix_list.or (ix_tup.or vn)
def zds(lo hi:Option Int)(n:Nat):(sliceBounds lo hi none n).1=((HT.sIx n 0 lo:Nat):Int)/\(sliceBounds lo hi none n).2.1=((HT.sIx n n hi:Nat):Int)/\(sliceBounds lo hi none n).2.2=1:=by
 refine⟨?_,?_,rfl⟩
 . cases lo with
   |none=>simp[sliceBounds,HT.sIx]
   |some i=>
    simp only[sliceBounds,HT.sIx,Option.getD_none,show(1:Int) > 0 by decide,FQ]
    by_cases h:i<0
    . simp only[h,FQ]<;>lia
    . simp only[h,FV]<;>lia
 . cases hi with
   |none=>simp[sliceBounds,HT.sIx]
   |some i=>
    simp only[sliceBounds,HT.sIx,Option.getD_none,show(1:Int) > 0 by decide,FQ]
    by_cases h:i<0
    . simp only[h,FQ]<;>lia
    . simp only[h,FV]<;>lia
def zc5(its:List Value)(lo hi:Option Int):slicePick its.toArray lo hi none=((its.drop (HT.sIx its.length 0 lo)).take (HT.sIx its.length its.length hi - HT.sIx its.length 0 lo)).toArray:=by obtain⟨h1,h2,h3⟩:=zds lo hi its.toArray.size;unfold slicePick;rw[h1,h2,h3];simp only[sliceRange_one,pick_run,oF]<;>rfl
def ki(K:Frag):V->Option Int->Option Int->Hp->VK->Prop:=fun x lo hi H Q=>∃a xs,x=.ref a/\SqL K H a xs/\∀p,H p=none->Q (.ref p) (upd H p (.lst (U5 xs lo hi)))
def Bt:SlR X (ki X.K):=by intro pins s σ H x v vl vu lo hi sl Q I rx hs pl pu h;obtain⟨a,xs,rfl,hx,q⟩:=h;cases rx;obtain⟨its,r,ht,hz⟩:=I.list hx;have ax:=r.length;refine⟨"list",_,slot_list_getitem.lookup,ht.isList.typeIs,?_⟩;refine wpAny_getItem_list_slice ht.isList hs pl pu .none (by simp) ?_ (by rw[oF]<;>lia);rw[zc5,<-ax];refine⟨.ref s.heap.objs.size,_,I.laid (t':=s.toks) (o:=.lst (U5 xs lo hi)) (fun b ob q=>τ _ q) (ζ _) ?_,rfl,q _ (I.hok.fresh (ζ _))⟩;exact⟨EZ (zfr xs lo hi) hz,_,0,(r.drop (HT.sIx xs.length 0 lo)).take (HT.sIx xs.length xs.length hi - HT.sIx xs.length 0 lo),Ψ _ rfl⟩
def call_len_seq:CallR X (.builtin "len") (fun xs H Q=>∃p ys,xs=[.ref p]/\(SqL X.K H p ys\/SqT X.K H p ys)/\Q (.int ys.length) H):=by
 intro pins s σ H xs us Q I r h;obtain⟨p,ys,rfl,hq,q⟩:=h;obtain⟨u,rfl,rx⟩:=r6 r;cases rx;have hn:=W6;rcases hq with hq |hq
 . obtain⟨its,r',pl,hz⟩:=I.list hq;have ax:=r'.length;exact Calls.call_len_list pl.isList (by simp only[oF]<;>lia) ⟨.int ys.length,H,I.tok _,⟨s.toks+1,by rw[oF,ax]⟩,q⟩
 . obtain⟨its,r',pl,hz⟩:=I.tuple hq;have ax:=r'.length;exact len_tuple pl (by simp only[oF]<;>lia) ⟨.int ys.length,H,I.tok _,⟨s.toks+1,by rw[oF,ax]⟩,q⟩
def zdt:CallR X (.builtin "len") (fun xs H Q=>∃z,xs=[.str z]/\z.length<=sizeLine/\Q (.int z.length) H):=by intro pins s σ H xs us Q I r h;obtain⟨z,rfl,hz,q⟩:=h;obtain⟨u,rfl,t,rfl⟩:=r6 r;have hn:=W6;exact len_str (by lia) ⟨.int z.length,H,I.tok _,⟨_,rfl⟩,q⟩
def CallR.or(h:CallR X f r)(h':CallR X f r'):CallR X f (fun xs H Q=>r xs H Q\/r' xs H Q):=by
 intro pins s σ H xs us Q I rs q;rcases q with q |q
 . exact h pins s σ H xs us Q I rs q
 . exact h' pins s σ H xs us Q I rs q
def zdu:CallR X (.type "list") (fun xs H Q=>∃p ys,xs=[.ref p]/\(SqL X.K H p ys\/SqT X.K H p ys)/\∀l,H l=none->Q (.ref l) (upd H l (.lst ys))):=by
 intro pins s σ H xs us Q I r h;obtain⟨p,ys,rfl,hq,q⟩:=h;obtain⟨u,rfl,rx⟩:=r6 r;cases rx;have fin:∀(its:List Value),Vals ys its->ys.length<=sizeLine->∀(h':Heap)(c':Nat),(∀b o',s.heap.get? b=some o'->h'.get? b=some o') ->
   h'.get? s.heap.objs.size=some { cls:=.type "list",dict:=none,data:=.seq its.toArray c',slots:=#[] }->EP X pins σ Q (.ref s.heap.objs.size) { s with heap:=h' }:=fun its r' hz h' c' kp e=>
  ⟨.ref s.heap.objs.size,_,I.laid (t':=s.toks) kp (ζ _) (show ObjOk X.prog X.w _ h' _ (.lst ys) from⟨hz,its,c',r',e⟩),rfl,q _ (I.hok.fresh (ζ _))⟩
 rcases hq with hq |hq
 . obtain⟨its,r',pl,hz⟩:=I.list hq;have ax:=r'.length;obtain⟨o,ho,hc,n,hd⟩:=pl.isList;exact call_list_seq p (.inl rfl) ho hc hd (fun h' c' kp e=>fin its r' hz h' c' kp e) (by simp only[oF]<;>lia)
 . obtain⟨its,r',pl,hz⟩:=I.tuple hq;have ax:=r'.length;obtain⟨o,ho,hc,n,hd⟩:=pl;exact call_list_seq p (.inr rfl) ho hc hd (fun h' c' kp e=>fin its r' hz h' c' kp e) (by simp only[oF]<;>lia)
def zc6:CallR X (.type "tuple") (fun xs H Q=>∃p ys,xs=[.ref p]/\((SqL X.K H p ys/\∀l,H l=none->Q (.ref l) (upd H l (.tup ys)))\/(SqT X.K H p ys/\Q (.ref p) H))):=by
 intro pins s σ H xs us Q I r h;obtain⟨p,ys,rfl,h⟩:=h;obtain⟨u,rfl,rx⟩:=r6 r;cases rx;rcases h with⟨hq,q⟩ |⟨hq,q⟩
 . obtain⟨its,r',pl,hz⟩:=I.list hq;have ax:=r'.length;refine call_tuple_list pl.isList (fun h' kp=>?_) (by simp only[oF]<;>lia);have I1:Inv X pins σ H { s with heap:=h' }:=I.kept (t':=s.toks) kp;have I2:Inv X pins σ (upd H h'.objs.size (.tup ys)) { s with heap:=h'.push { cls:=.type "tuple",data:=.seq its.toArray } }:=
    I1.laid (t':=s.toks) (fun b o e=>τ _ e) (ζ _) (show ObjOk X.prog X.w _ _ _ (.tup ys) from⟨hz,its,r',.mk' (Ψ _ rfl)⟩)
   exact⟨.ref h'.objs.size,_,I2,rfl,q _ (I1.hok.fresh (ζ _))⟩
 . obtain⟨its,r',pl,hz⟩:=I.tuple hq;exact call_tuple_same pl ⟨.ref p,H,I,rfl,q⟩
def tyV(K:Frag)(T:String)(x:V)(H:Hp):Prop:=match x with
 | .str _=>T="str"
 | .int _=>T="int"
 | .ref p=>(T="list"/\∃xs,SqL K H p xs)\/(T="tuple"/\∃o,K.lookup p=some o/\o.cls=.type "tuple"/\o.dict=none) \/
  (T="dict"/\((∃kvs,H p=some (.dK kvs))\/∃kvs,H p=some (.dT kvs)))\/(T="set"/\∃S n,H p=some (.set S n))
 |_=>False
def vm(I:Inv X pins σ H s)(r:RelV x v)(ty:tyV X.K T x H) :
  s.TypeIs v T/\∀a,v=.ref a->∃ob,s.heap.get? a=some ob/\ob.dict=none:=by
 cases x with
 |str z=>
  obtain⟨t,rfl⟩:=r
  cases (show T="str" from ty)
  exact⟨typeIs_str s z t,fun _ e=>nomatch e⟩
 |int i=>
  obtain⟨t,rfl⟩:=r
  cases (show T="int" from ty)
  exact⟨typeIs_int s i t,fun _ e=>nomatch e⟩
 |ref p=>
  cases r
  rcases ty with⟨rfl,xs,hq⟩ |⟨rfl,o,hk,hc,hd⟩ |⟨rfl,hk⟩ |⟨rfl,S,n,hk⟩
  . obtain⟨its,_,pl,_⟩:=I.list hq;refine⟨pl.isList.typeIs,fun a e=>?_⟩;cases e;obtain⟨o,n,e,c,hd,_⟩:=pl;exact⟨o,e,hd⟩
  . refine⟨⟨o,I.kIn p o hk,hc⟩,fun a e=>?_⟩;cases e;exact⟨o,I.kIn _ o hk,hd⟩
  . have z:∃o,s.heap.get? p=some o/\o.ExactDict:=by
     rcases hk with⟨kvs,hk⟩ |⟨kvs,hk⟩
     . obtain⟨_,_,_,_,o,_,_,e,ex,_⟩:=I.hok p _ hk;exact⟨o,e,ex⟩
     . obtain⟨_,_,_,_,o,_,_,e,ex,_⟩:=I.hok p _ hk;exact⟨o,e,ex⟩
    obtain⟨o,e,ex⟩:=z
    refine⟨⟨o,e,ex.1⟩,fun a e2=>?_⟩
    cases e2
    exact⟨o,e,ex.2.1⟩
  . obtain⟨o,_,_,_,e,ex,_⟩:=I.hok p _ hk;refine⟨⟨o,e,ex.1⟩,fun a e2=>?_⟩;cases e2;exact⟨o,e,ex.2.1⟩
 |_=>exact False.elim ty
def tBM(K:Frag)(T:String)(r:V->List V->Hp->VK->Prop)(to:TE)(t:TA):TE:=fun σ H Q=>to σ H fun x H1=>tyV K T x H1/\t σ H1 fun xs H2=>r x xs H2 Q
variable {o e:Expr}{es:List Expr}{to:TE}{t:TA}{name:Str}{bO ak:Pos}{T id:String}{r:V->List V->Hp->VK->Prop}
def Jg(pa:PlainAttrs T)(slot:Slot T name id)(eU:typeOf (.builtin id)=pure (.type "method_descriptor"))(hm:MtR X id r)(ho:PE X o to)(ha:PA X (e::es) t)
  (aU:attributeBase o name X.env (eval o X.env)=eval o X.env:=by rfl)
  (dX:((backTo ak (starEach (e::es) X.env)).all (fun x=>!x.1)&&(backToKw ak (keywordEach [] X.env)).all (fun x=>x.1.isSome)
   && decide ((e::es).length+([]:List Keyword).length+(if([]:List Keyword).isEmpty then 0 else 1)<30))=true:=by rfl)
  (cZ:(bO.endLine==ak.line)=true:=by rfl) (hs:starEach (e::es) X.env=(false,eval e X.env)::starEach es X.env:=by rfl) (bY:(backTo ak (starEach es X.env)).any (·.1)=false:=by rfl) :
  PE X (.Call (.Attribute o name bO) (e::es) [] ak) (tBM X.K T r to t):=by
 intro pins s σ H Q I h
 refine wpAny_Call_method_late aU dX cZ rfl (thn (ho pins s σ H _ I h) fun v s1 ⟨x,H1,I1,r1,ty,q1⟩=>?_)
 obtain⟨h1,h2⟩:=vm I1 r1 ty
 refine⟨T,id,pa,slot,eU,h1,h2,?_⟩
 have hA:=ha ak pins s1 σ H1 _ I1 q1
 rw[hs]at hA⊢
 refine Calls.callWith_builtin (by show(false||(backTo ak (starEach es X.env)).any (·.1))=false;rw[bY]<;>rfl) (Calls.evalArgs_plain ?_)
 exact thn hA fun us s2 ⟨vs,H2,I2,r2,q2⟩=>hm pins s2 σ H2 x vs v us Q I2 r1 r2 q2
end
def MtM(X:Cx)(id:String)(r:V->List V->Hp->VK->Prop):Prop:=
 ∀(pins:List (Addr×Obj))(s:Shared)(σ:St)(H:Hp)(x:V)(xs:List V)(v:Value)(us:List Value)(Q:VK),Inv X pins σ H s->RelV x v->Vals xs us->r x xs H Q ->
  wpAny (model X.prog X.w) X.A (call (.builtin id) (v::us)) (EP X pins σ Q) X.xe s
theorem Vals.one:∀{x:V}{us:List Value},Vals [x] us->∃u,us=[u]/\RelV x u
 |_,_,.cons r .nil=>⟨_,rfl,r⟩
theorem Vals.two:∀{x y:V}{us:List Value},Vals [x,y] us->∃u v,us=[u,v]/\RelV x u/\RelV y v
 |_,_,_,.cons r (.cons q .nil)=>⟨_,_,rfl,r,q⟩
theorem Vals.eraseIdx:∀{xs:List V}{us:List Value}(i:Nat),Vals xs us->Vals (xs.eraseIdx i) (us.eraseIdx i)
 |_,_,_,.nil=>.nil
 |_,_,0,.cons _ t=>t
 |_,_,i+1,.cons r t=>.cons r (Vals.eraseIdx i t)
theorem Vals.rep(h:Vals xs us):∀k:Nat,Vals (List.replicate k xs).flatten (List.replicate k us).flatten
 | 0=>.nil
 |k+1=>by rw[HA,HA,HS,HS];exact Vals.append h (Vals.rep h k)
theorem Xv:∀(l:List α)(i:Nat),(l.eraseIdx i).length<=l.length
 | [],_=>ζ _
 |_::_,0=>Iz _
 |_::r,i+1=>Nat.succ_le_succ (Xv r i)
theorem Xu(its:List Value):∀(k:Nat)(acc:List Value),
  List.foldl (fun x1 x2=>x1++x2) acc.toArray (List.replicate k its.toArray)=(acc++(List.replicate k its).flatten).toArray
 | 0,acc=>by simp
 |k+1,acc=>by
  have e:acc.toArray++its.toArray=(acc++its).toArray:=by simp
  have e2:(acc++its)++(List.replicate k its).flatten=acc++(List.replicate (k+1) its).flatten:=by rw[HA,HS,HU]
  rw[<-e2,<-Xu its k (acc++its),<-e,HA,List.foldl_cons]
section
variable {X:Cx}{pins:List (Addr×Obj)}{σ:St}{H:Hp}{s:Shared}{l:Addr}{xs ys:List V}
def Inv.lset{its its':List Value}{n:Nat}{f:Array Value->Array Value}{t':Nat}(I:Inv X pins σ H s)(hH:H l=some (.lst xs))
  (e:s.heap.get? l=some { cls:=.type "list",data:=.seq its.toArray n }) (hf:f its.toArray=its'.toArray) (hv:Vals ys its') (hz:ys.length<=sizeLine) :
  Inv X pins σ (upd H l (.lst ys)) { s with heap:=s.heap.update l (Obj.mapSeq f),toks:=t' }:=by
 have q:=PySem.IsL.update e f
 rw[hf]at q
 refine I.write (x:=l) (e:=l) (by rw[hH];exact trivial) (.inl rfl) (fun b' u hb hu=>(FS s.heap (Obj.mapSeq f) (GN hb)).trans hu) ⟨_,q⟩ ?_
 exact⟨hz,its',_,hv,q⟩
def Inv.lnew(I:Inv X pins σ H s)(hv:Vals ys its)(hz:ys.length<=sizeLine) :
  Inv X pins σ (upd H s.heap.objs.size (.lst ys)) { s with heap:=s.heap.push { cls:=.type "list",data:=.seq its.toArray },toks:=t' }:=
 I.laid (fun _ _ q=>τ _ q) (ζ _) ⟨hz,its,0,hv,Ψ _ rfl⟩
def Inv.fresh(I:Inv X pins σ H s):H s.heap.objs.size=none:=I.hok.fresh (ζ _)
def Inv.lstM(I:Inv X pins σ H s)(hH:H l=some (.lst xs)):xs.length<=sizeLine/\∃(its:List Value)(n:Nat),Vals xs its/\xs.length=its.length/\s.heap.get? l=some { cls:=.type "list",data:=.seq its.toArray n }:=by obtain⟨z,its,n,r,e⟩:=I.hok l _ hH;exact⟨z,its,n,r,r.length,e⟩
def ze(h:n<=sizeLine):Builtin.List.listTooLong n=false:=by unfold Builtin.List.listTooLong;exact decide_eq_false (by lia)
end
section
variable {X:Cx}
def Vg:V->List V->Hp->VK->Prop:=fun x vs H Q=>∃l xs y,x=.ref l/\vs=[y]/\H l=some (.lst xs)/\xs.length<sizeLine/\Q .non (upd H l (.lst (xs++[y])))
def S3:MtM X "list.append" Vg:=by
 intro pins s σ H x vs v us Q I rx rv h;obtain⟨l,xs,y,rfl,rfl,hH,hz,q⟩:=h;cases rx;obtain⟨u,rfl,ru⟩:=rv.one;obtain⟨z,its,n,r,hl,e⟩:=I.lstM hH;refine call_meets F.slot_list_append ⟨_,e,rfl⟩ F.entry_list_append (F.args_list_append_2 _ _) (PySem.list_append l its.toArray n u (by rw[oF];lia)) ⟨e,?_⟩;refine⟨.non,_,I.lset (its':=its++[u]) hH e (by simp) (r.append (.cons ru .nil)) ?_,rfl,q⟩;rw[θ,GQ]
 lia
def Ta:V->List V->Hp->VK->Prop:=fun x vs H Q=>∃l xs i k y,x=.ref l/\vs=[.int i]/\H l=some (.lst xs)/\-(2 ^ 63)<=i/\i<2 ^ 63/\seqIndex? i xs.length=some k/\xs[k]?=some y/\Q y (upd H l (.lst (xs.eraseIdx k)))
def zc:MtM X "list.pop" Ta:=by
 intro pins s σ H x vs v us Q I rx rv h;obtain⟨l,xs,i,k,y,rfl,rfl,hH,h1,h2,hk,hy,q⟩:=h;cases rx;obtain⟨u,rfl,ru⟩:=rv.one;obtain⟨t,rfl⟩:=ru;obtain⟨z,its,n,r,hl,e⟩:=I.lstM hH;obtain⟨w,hw,cE⟩:=r.get hy;refine call_meets F.slot_list_pop ⟨_,e,rfl⟩ F.entry_list_pop (F.args_list_pop_2 _ _)
  (MeetsSeq.list_pop_at l its.toArray n i t k w (fitsIndex_both h1 h2) (by rw[oF,<-hl];exact hk) (by rw[<-Array.getElem?_toList];exact hw) (by rw[oF];lia)) ⟨e,?_⟩
 refine⟨y,_,I.lset (its':=its.eraseIdx k) hH e ?_ (r.eraseIdx k) ?_,cE,q⟩
 . show its.toArray.eraseIdxIfInBounds k=(its.eraseIdx k).toArray;rw[List.eraseIdxIfInBounds_toArray]
 . have:=Xv xs k
   lia
def kh:R2:=fun x y H Q=>∃l b xs zs,x=.ref l/\y=.ref b/\H l=some (.lst xs)/\H b=some (.lst zs)/\xs.length+zs.length<=sizeLine/\∀p,H p=none->Q (.ref p) (upd H p (.lst (xs++zs)))
def M4:OpR X (binaryOp .Add) kh:=by
 intro pins s σ H x y v u Q I rx ry h;obtain⟨l,b,xs,zs,rfl,rfl,hH,hB,hz,q⟩:=h;cases rx;cases ry;obtain⟨z,its,n,r,hl,e⟩:=I.lstM hH;obtain⟨z2,aW,n2,r2,rW,e2⟩:=I.lstM hB;refine PySem.P.add_list e e2 ?_ (by rw[oF,oF];omega);have ea:its.toArray++aW.toArray=(its++aW).toArray:=by simp
 rw[ea];exact⟨.ref _,_,I.lnew (t':=s.toks) (r.append r2) (by rw[θ];omega),rfl,q _ I.fresh⟩
def kg:R2:=fun x y H Q=>∃l k xs,x=.ref l/\y=.int k/\H l=some (.lst xs)/\-(2 ^ 63)<=k/\k<2 ^ 63/\xs.length * k.toNat<=sizeLine /\
 ∀p,H p=none->Q (.ref p) (upd H p (.lst (List.replicate k.toNat xs).flatten))
def xz(xs:List α)(k:Nat):(List.replicate k xs).flatten.length=k * xs.length:=by
 induction k with
 |zero=>simp
 |succ k ih=>rw[HA,HS,θ,ih,Nat.succ_mul,Nat.add_comm]
def vk:OpR X (binaryOp .Mult) kg:=by
 intro pins s σ H x y v u Q I rx ry h;obtain⟨l,k,xs,rfl,rfl,hH,h1,h2,hz,q⟩:=h;cases rx;obtain⟨t,rfl⟩:=ry;obtain⟨z,its,n,r,hl,e⟩:=I.lstM hH;have ax:its.toArray.size * k.toNat<=sizeLine:=by rw[oF,<-hl];exact hz
 have rf:¬its.toArray.size * k.toNat > (2 ^ 63 - 1) / 8:=by
  have:(sizeLine:Nat)<=(2 ^ 63 - 1) / 8:=by decide
  lia
 have rh:¬(!Builtin.List.listFitsIndex k)=true:=by rw[fitsIndex_both h1 h2];exact η
 have nK:¬Builtin.List.listTooLong (its.toArray.size * k.toNat)=true:=by rw[ze ax];exact η
 have ri:List.foldl (fun x1 x2=>x1++x2) #[] (List.replicate (if its.toArray.isEmpty=true then 0 else k.toNat) its.toArray)=(List.replicate k.toNat its).flatten.toArray:=by
  have f0:∀m:Nat,List.foldl (fun x1 x2=>x1++x2) #[] (List.replicate m its.toArray)=(List.replicate m its).flatten.toArray:=fun m=>by have:=Xu its m [];rw[HM]at this;exact this
  rw[f0];cases its with
  |nil=>simp
  |cons a r'=>rw[ψ (by simp)]
 refine wpAny_binaryOp_repeat_ref (T:="list") (U:="int") (by decide) ⟨_,e,rfl⟩ (fun s'=>typeIs_int s' k t) noFill_list_mul F.fills_int_mul F.slot_int_rmul repeat_list F.slot_int_index.lookup
  (call_meets F.slot_int_rmul (typeIs_int s k t) F.entry_int_rmul (F.args_int_rmul_2 _ _) (int___rmul___int_list k t l its.toArray n)
   ⟨e,rfl,⟨_,e,rfl⟩,call_meets F.slot_list_mul ⟨_,e,rfl⟩ F.entry_list_mul (F.args_list_mul_2 _ _) (AutoListH.list___mul___list_int_3 l its.toArray n k t rh rf nK) ⟨e,?_⟩⟩)
 rw[ri];exact⟨.ref _,_,I.lnew (t':=s.toks) (r.rep k.toNat) (by rw[xz,Nat.mul_comm];exact hz),rfl,q _ I.fresh⟩
end
section
variable {κ:Type}[DecidableEq κ]
noncomputable def C5(kvs:List (κ×V))(k:κ):Option V:=(kvs.find? fun kv=>decide (kv.1=k)).map (·.2)
def Wp{p:κ×V}{r:List (κ×V)}{k:κ}(e:p.1=k):C5 (p::r) k=some p.2:=by simp[C5,GX,e]
def Wo{p:κ×V}{r:List (κ×V)}{k:κ}(e:¬p.1=k):C5 (p::r) k=C5 r k:=by simp[C5,GX,e]
def RelO.isSome_eq(r:RelO o u):o.isSome=u.isSome:=by
 cases o with
 |none=>cases u with
  |none=>rfl
  |some _=>exact(show False from r).elim
 |some _=>cases u with
  |none=>exact(show False from r).elim
  |some _=>rfl
def KV.val(r:KV kvs vs)(k:κ):RelO (C5 kvs k) (valueAt vs k):=by
 unfold KV at r;induction r with
 |nil=>exact True.intro
 | @cons p q ps qs h t ih=>
  obtain⟨h1,h2⟩:=h
  by_cases e:p.1=k
  . have e':q.1=k:=h1.symm.trans e;have b:valueAt (q::qs) k=some q.2:=by simp[valueAt,GX,e']
    rw[Wp e,b];exact h2
  . have e':¬q.1=k:=fun z=>e (h1.trans z)
    have b:valueAt (q::qs) k=valueAt qs k:=by simp[valueAt,GX,e']
    rw[Wo e,b];exact ih
def KV.length(r:KV kvs vs):kvs.length=vs.length:=Paired.length r
end
def Jf(r:RelV (kV k) u):(G9 P w).is k u=true:=by
 cases k with
 |inl i=>obtain⟨t,e⟩:=(show ∃t,u=Value.int i t from r);subst e;exact zfm P w i t
 |inr x=>obtain⟨t,e⟩:=(show ∃t,u=Value.str x t from r);subst e;exact zfn P w x t
theorem Xs:∀{ks:List Key}{us:List Value},Vals (ks.map kV) us->ItemsAre (G9 P w) ks us
 | [],_,r=>by rw[GK]at r;cases r;exact .nil
 |k::ks,_,r=>by
  rw[ng]at r;cases r with
  |cons h t=>exact .cons (Jf h) (Xs t)
abbrev KT(H:Hp):List (List Key×V)->List (List Key×Addr×Value)->Prop:=Paired fun p q=>p.1=q.1/\H q.2.1=some (.tup (p.1.map kV))/\RelV p.2 q.2.2
def KT.val(r:KT H kvs xs)(k:List Key):RelO (C5 kvs k) ((atKey xs k).map (·.2)):=by
 induction r with
 |nil=>exact True.intro
 | @cons p q ps qs h t ih=>
  obtain⟨h1,_,h2⟩:=h
  by_cases e:p.1=k
  . have e':q.1=k:=h1.symm.trans e;have b:atKey (q::qs) k=some q.2:=by simp[atKey,GX,e']
    rw[Wp e,b];exact h2
  . have e':¬q.1=k:=fun z=>e (h1.trans z)
    have b:atKey (q::qs) k=atKey qs k:=by simp[atKey,GX,e']
    rw[Wo e,b];exact ih
section
variable {P:Program}{w:World}{H:Hp}{h:Heap}{a:Addr}
def Qv(ok:HOk P w H h)(e:Rd H a u):ObjOk P w H h a u:=e.ok ok
def Db(ok:HOk P w H h)(e:Rd H a (.dK kvs)):kvs.length<=sizeLine/\(a==sysModules)=false/\∃vs,KV kvs vs/\h.DictOf (G9 P w) a vs:=
 show ObjOk P w H h a (.dK kvs) from Qv ok e
def Ki(ok:HOk P w H h)(e:H a=some (.tup (ks.map kV))):(tupleKind (G9 P w)).is h ks a:=by obtain⟨_,its,r,o,h1,h2,⟨n,h3⟩,_⟩:=(show ObjOk P w H h a (.tup (ks.map kV)) from ok a _ e);exact⟨o,its.toArray,n,h1,h2,h3,by simpa using Xs r⟩
def Je(ok:HOk P w H h)(e:Rd H a (.dT kvs)):kvs.length<=sizeLine/\(a==sysModules)=false /\
  ∃xs,KT H kvs xs/\h.DictOfH (tupleKind (G9 P w)) a xs:=by
 obtain⟨z,y,xs,r,o,es,ep,h1,h2,h3,h4,h5⟩:=(show ObjOk P w H h a (.dT kvs) from Qv ok e)
 refine⟨z,y,xs,r,o,es,ep,h1,h2,h3,h4,fun x hx=>?_,h5⟩
 have all:∀{l:List (List Key×V)}{m:List (List Key×Addr×Value)},KT H l m->∀x∈m,(tupleKind (G9 P w)).is h x.1 x.2.1:=by
  intro l m q;induction q with
  |nil=>intro x hx;exact nomatch hx
  | @cons p q ps qs hq t ih=>
   intro x hx
   rcases ee.mp hx with e |hx
   . subst e;exact Ki ok (by rw[<-hq.1];exact hq.2.1)
   . exact ih x hx
 exact all r x hx
end
def DGet(H:Hp)(a:Addr)(y:V)(r:Option V):Prop:=
 (∃kvs k,Rd H a (.dK kvs)/\y=kV k/\r=C5 kvs k)\/∃kvs k b,Rd H a (.dT kvs)/\y=.ref b/\H b=some (.tup (k.map kV))/\r=C5 kvs k
def DGet.k{H:Hp}{a:Addr}{kvs:List (Key×V)}{k:Key}(e:H a=some (.dK kvs)):DGet H a (kV k) (C5 kvs k):=.inl ⟨kvs,k,.inl e,rfl,rfl⟩
def DGet.t{H:Hp}{a b:Addr}{kvs:List (List Key×V)}{k:List Key}(e:H a=some (.dT kvs))(eb:H b=some (.tup (k.map kV))):DGet H a (.ref b) (C5 kvs k):=.inr ⟨kvs,k,b,.inl e,rfl,eb,rfl⟩
section
variable {X:Cx}{pins:List (Addr×Obj)}{σ:St}{H:Hp}{s:Shared}{a:Addr}{y v:V}{u:Value}{o:Option V}{A:Around}{E:Value->Shared->Prop}
def Inv.big(I:Inv X pins σ H s):sysModules<s.heap.objs.size:=by have h:mainGlobals<s.heap.objs.size:=(I.mod.glob.keeps I.bk).lt;exact Nat.lt_trans (by decide) h
def zQ(hu:A.units+1<cLine)(I:Inv X pins σ H s)(g:DGet H a y (some v))(ry:RelV y u)(h:∀w' s',Inv X pins σ H s'->RelV v w'->Q w' s') :
  wpAny (model X.prog X.w) A (getItem (.ref a) u) Q E s:=by
 rcases g with⟨kvs,k,e,ey,l⟩ |⟨kvs,k,b,e,ey,eb,l⟩
 . subst ey;obtain⟨z,hd,vs,rel,dd⟩:=Db I.hok e;obtain⟨w',hw,cE⟩:=RelO.some_of (v:=v) (o:=valueAt vs k) (by rw[l];exact rel.val k);exact wpAny_getItem_of (Jf ry) dd.mapOf hw (h w' _ (I.tok _) cE)
 . subst ey;cases (show u=Value.ref b from ry);obtain⟨z,hd,xs,rel,dd⟩:=Je I.hok e;obtain⟨w',hw,cE⟩:=RelO.some_of (v:=v) (o:=(atKey xs k).map (·.2)) (by rw[l];exact rel.val k);obtain⟨p,hp,gj⟩:=FM.mp hw;refine wpAny_getItem_heap (tupleKind_room_in1 hu) (Ki I.hok eb) dd hp ?_;rw[gj];exact h w' _ (I.tok _) cE
def xy(hu:A.units+1<cLine)(I:Inv X pins σ H s)(g:DGet H a y o)(ry:RelV y u)(h:∀s',Inv X pins σ H s'->Q (.bool (!o.isSome)) s') :
  wpAny (model X.prog X.w) A (compareOp .NotIn u (.ref a)) Q E s:=by
 rcases g with⟨kvs,k,e,ey,l⟩ |⟨kvs,k,b,e,ey,eb,l⟩
 . subst ey;obtain⟨z,hd,vs,rel,dd⟩:=Db I.hok e;refine wpAny_notIn_of (Jf ry) hd dd.mapOf ?_;rw[<-(rel.val k).isSome_eq,<-l];exact h _ (I.tok _)
 . subst ey;cases (show u=Value.ref b from ry);obtain⟨z,hd,xs,rel,dd⟩:=Je I.hok e;refine wpAny_notIn_heap (tupleKind_room_in1 hu) (Ki I.hok eb) hd dd ?_;have q:=(rel.val k).isSome_eq;rw[Option.isSome_map]at q;rw[<-q,<-l];exact h _ (I.tok _)
end
section
variable {X:Cx}{pins:List (Addr×Obj)}{σ:St}{H:Hp}{s:Shared}{a:Addr}{kvs:List (Key×V)}{A:Around}{E:Value->Shared->Prop}
def y2a(I:Inv X pins σ H s)(e:Rd H a (.dK kvs))(h:∀t s',Inv X pins σ H s'->Q (.int kvs.length t) s'):wpAny (model X.prog X.w) A (call (.builtin "len") [.ref a]) Q E s:=by obtain⟨z,hd,vs,rel,dd⟩:=Db I.hok e;refine call_len_dict hd dd (by rw[<-rel.length];rw[HQ]at z;lia) ?_;rw[<-rel.length];exact h _ _ (I.tok _)
end
def zfu(I:Inv X pins σ H s)(g:DGet H a y o):s.TypeIs (.ref a) "dict":=by
 rcases g with⟨kvs,k,e,_,_⟩ |⟨kvs,k,b,e,_,_,_⟩
 . obtain⟨_,_,vs,_,dd⟩:=Db I.hok e;exact dd.typeIs
 . obtain⟨_,_,xs,_,dd⟩:=Je I.hok e;exact dd.typeIs
def zb(h:Heap)(hb:sysModules<h.objs.size):ObjOk P w H (h.push { cls:=.type "dict",data:=.dict #[] }) h.objs.size (.dK []):=
 ⟨FX _,GD.mpr (GN (ER hb)),[],.nil,Heap.DictOf.new h⟩
def vj:TE:=fun _ H Q=>∀p,H p=none->Q (.ref p) (upd H p (.dK []))
section
variable {X:Cx}{pos:Pos}
def pe_dnewK:PE X (.Dict [] [] pos) vj:=fun pins s σ H Q I h=>
 wpAny_Dict_empty ⟨.ref s.heap.objs.size,_,I.laid (a:=s.heap.objs.size) (o:=.dK []) (t':=s.toks) (fun _ _ q=>τ _ q) (ζ _) (zb s.heap I.big),rfl,h _ (I.hok.fresh (ζ _))⟩
end
end L2
namespace Att
open PySem PySem.W PySem.Calls PyProof.Rows
def z9i:∀(ns:List Int)(vs:List Value),WellAll P h vs (ns.map WData.int)->IntsAre vs ns:=by
 intro ns;induction ns with
 |nil=>
  intro vs w
  rw[GK]at w
  cases w
  exact .nil
 |cons n ns ih=>
  intro vs w
  rw[ng]at w
  cases w with
  |cons a b=>
   cases a
   exact .cons _ _ (ih _ b)
def zP{l:OpenLaw}{n:Nat}(hn:l.most=some n){P:Params}{h:Heap}{args:List WData}{ah:List Value}
  (ie:l.row.toRowW.claim.pre args=true) (nZ:WellAll P h ah args) :
  ∃a vs ns,ah=[Value.ref a]/\args=[WData.list (ns.map WData.int)]/\h.get? a=some { cls:=.type "list",data:=.seq vs.toArray }/\IntsAre vs ns/\ns.length<=n:=by
 have tR:WShape.hasAll [] args [.list .int]=true:=(pre_splitW ie).1
 have hc:l.pre.holds [] { args:=args }=true:=(pre_splitW ie).2
 obtain⟨d,r,rfl,h1,h2⟩:=hasAllW_cons tR
 obtain rfl:=hasAllW_nil h2
 obtain⟨xs,rfl,h3⟩:=hasW_list h1
 obtain⟨ns,rfl⟩:=items_int h3
 have ax:ns.length<=n:=by
  unfold OpenLaw.pre at hc;have h4:(WTm.not (.lt (.lit (.int (n:Int))) (.len (.arg 0)))).holds [] { args:=[.list (ns.map .int)] }=true:=by have h4:=(holds_andW hc).1;rw[hn]at h4;exact h4
  have h5:=condW_of h4 (w_not (w_lt w_lit (w_len_list (w_arg rfl))));rw[gc]at h5;refine Nat.le_of_not_lt fun q=>?_
  have q':(n:Int)<((ns.length:Nat):Int):=by omega
  first
   | (rw[gR q']at h5;exact absurd h5 (by decide))
   | (simp at h5;omega)
 cases nZ with
 |cons w1 w2=>
  cases w2
  cases w1 with
  |list ho iP=>exact⟨_,_,ns,rfl,rfl,ho,z9i ns _ iP,ax⟩
def zO(l:OpenLaw)(args:List WData):l.row.toRowW.claim.post args (.bool true) args=true:=
 postW_of (r:=l.row.toRowW) (X:=(true==true))
  (show WShape.has [] (.bool true) .bool=true by first |rfl |decide |simp[WShape.has,WShape.arms,WShape.armsAll])
  (show(WTm.eq .res (.lit (.bool true))).value [] { args:=args,res:=some (.bool true),after:=args }=some (.bool (true==true)) from w_eq_bool (w_res rfl) w_lit) rfl
def attach_call{l:OpenLaw}{n:Nat}{q:Program}{loose:List Str}{XP:(Str->Option Value)->Heap->Prop}{YP:World->Heap->Prop}{d:DefRec}
  (hn:l.most=some n) (lu:d.params.defaults=[])
  (call:∀(w:World)(s₀ af:Shared)(mg mb:Str->Option Value)(fa:Addr)(o:Obj)(pm cd doc:Value)(a:Addr)(vs:List Value)(ns:List Int),
   Ground q loose [] XP w s₀ mg mb af.heap->YP w af.heap ->
   af.heap.get? fa=some o->o.data=.func (docDef d.name d.params d.body d.scope pm cd doc)->af.heap.CodeRec cd d.name->mg d.name=some (.ref fa) ->
   af.heap.get? a=some { cls:=.type "list",data:=.seq vs.toArray }->IntsAre vs ns->ns.length<=n->af.gens=#[] ->
   codeAny (model l.prog w) callerA (.call (.ref fa) ⟨[.ref a],[]⟩) (fun r s'=>r=.ok (.ret (.bool true))/\OldK af.heap s'.heap/\s'.os=af.os/\AllBare s'.gens) af) :
  WalkO q loose XP YP l.row.toRowW d [] (fun f vs=>PySem.call f vs):=by
 intro w s₀ af mg mb G Y fa o pm cd doc dV kV ho hd cK hD bQ hg args ah as ie CW DH nZ DI
 obtain rfl:dV=.none:=Dflts.none hD lu
 obtain rfl:kV=.none:=Dflts.noKw hD
 obtain⟨a,vs,ns,rfl,rfl,iQ,gE,ax⟩:=zP hn ie nZ
 refine enter_call (Iy (call w s₀ af mg mb fa o pm cd doc a vs ns G Y ho (fd_plain hd) cK bQ iQ gE ax hg) fun r s' hq=>?_)
 obtain⟨rfl,h2,h3,h4⟩:=hq
 exact⟨.inl ⟨.bool true,.bool true,[],rfl,fun _=>rfl,.bool true,zO l _,fun _=>⟨List.Pairwise.nil,fun _ hm=>(nomatch hm)⟩⟩,h2,h3,h4⟩
section
def noObjs(h:Heap):Heap:={ h with objs:=#[] }
def noObjs_get(h:Heap)(b:Addr):(noObjs h).get? b=none:=by
 cases e:(noObjs h).get? b with
 |none=>rfl
 |some o=>exact absurd (Heap.lt_size e) (Nat.not_lt_zero _)
def fr_all(n:h.Ns L m):Fr (noObjs h) L h m:=
 ⟨n,fun b o e=>(by rw[noObjs_get]at e;cases e),FX _⟩
end
end Att
namespace L2
open PySem PySem.Spec PyProof.Rows
theorem Xr:∀{vs:List Value}{ns:List Int},IntsAre vs ns->Vals (ns.map V.int) vs
 |_,_,.nil=>.nil
 |_,_,.cons n t h=>.cons ⟨t,rfl⟩ (Xr h)
def Gw(H:Hp):Prop:=∀b,H b=none\/∃o xs,H b=some (.frz o (.lst xs))
def za{P:Program}{w:World}{K:Frag}{mg mb:Str->Option Value}{CX:CXT}{k:Nat}{fa a:Addr}{fd:FuncData}{x:Str}{sp:Sp}{af:Shared}{vs:List Value}{ns:List Int}
  (KX:K.In af.heap) (bo:af.heap.Ns mainGlobals mg) (hb:af.heap.Ns builtinsNs mb) (tS:∀x:Str,x≠"__name__"->mb x=bootBuiltins x) (rj:af.heap.NoLimit) (hg:af.gens=#[])
  (ha:af.heap.get? a=some { cls:=.type "list",data:=.seq vs.toArray }) (hi:IntsAre vs ns) (hl:ns.length<=sizeLine) (hr:Room k callerA)
  (F:∀base:Heap,K.In base->base.Ns mainGlobals mg->FnOk P w K mg base CX k fa fd [x] sp) (nL:∀(s:Shared)(u:Value),BindsTo s fd ⟨[u],[]⟩ [(x,u)])
  (gi:∀H:Hp,Gw H->SqL K H a (ns.map V.int)->sp [.ref a] H (fun v _=>v=.bl true) fun _ _ _=>False)
  (og:∀H e s',CX [] H af (fun _ _ _=>False) e s'->False) :
  codeAny (model P w) callerA (.call (.ref fa) ⟨[.ref a],[]⟩) (fun r s'=>r=.ok (.ret (.bool true))/\OldK af.heap s'.heap/\s'.os=af.os/\AllBare s'.gens) af:=by
 have rv:=Xr hi
 have rn:=hi.length
 have ny:∀H:Hp,Gw H->SqL K H a (ns.map V.int)->HOk P w H af.heap->(∀b,H b≠none->b=a)->(H a≠none->K.lookup a=none) ->
   codeAny (model P w) callerA (.call (.ref fa) ⟨[.ref a],[]⟩) (fun r s'=>r=.ok (.ret (.bool true))/\OldK af.heap s'.heap/\s'.os=af.os/\AllBare s'.gens) af:=by
  intro H hO hS hok hA hK
  have fS:∀{b:Addr}{o:Obj},af.heap.get? b=some o->H b=none->(K9 af.heap H).get? b=some o:=fun e n=>zk e n
  have lr:∀{b:Addr}{o:Obj}{es:Array DictEntry}{ep:Nat},af.heap.get? b=some o->o.data=.dict es ep->H b=none:=fun {b o es ep} e d=>by
   cases q:H b with
   |none=>rfl
   |some u=>
    have e':b=a:=hA b (by rw[q];simp)
    subst e'
    rw[ha]at e;cases e
    have d':Data.seq vs.toArray _=Data.dict es ep:=d
    cases d'
  have mI:∀{b:Addr}{m:Str->Option Value},af.heap.Ns b m->(K9 af.heap H).Ns b m:=fun {b m} ⟨o,es,ep,e,d,r⟩=>⟨o,es,ep,fS e (lr e d),d,r⟩
  have rX:K.In (K9 af.heap H):=fun b o e=>fS (KX b o e) (by
   cases q:H b with
   |none=>rfl
   |some u=>
    have e':b=a:=hA b (by rw[q];simp)
    subst e'
    rw[hK (by rw[q];simp)]at e;cases e)
  have hM:Mod K mg (K9 af.heap H):=⟨rX,mI bo,⟨mb,mI hb,tS⟩,let ⟨mc,h1,h2⟩:=rj;⟨mc,mI h1,h2⟩⟩
  have e0:Env0 P w K mg (K9 af.heap H) callerA [] af H:=⟨rfl,hM,fun b o e=>xI e,Nat.le_of_eq (zk0 _ _),trivial,fun b hb=>absurd (show b∈([]:List Addr) from hb) (by simp),hok,.of_eq hg⟩
  refine Iy ((F _ rX (mI bo)).run callerA [] af H ⟨[.ref a],[]⟩ [.ref a] [.ref a] _ _ hr e0 (nL af (.ref a)) (.cons rfl .nil) (gi H hO hS)) fun r s' h=>?_
  cases r with
  |error e=>exact(og H e s' h).elim
  |ok fl=>
   cases fl with
   |next=>exact False.elim h
   |brk=>exact False.elim h
   |cont=>exact False.elim h
   |ret u=>
    obtain⟨v,H',os,bare,un,rq,r',q⟩:=h
    have q':v=.bl true:=q
    subst q'
    obtain rfl:u=Value.bool true:=r'
    refine⟨rfl,OldK.of_keep fun b o e=>?_,os,bare⟩
    cases q:H b with
    |none=>exact un.keep b o e q (by intro z;exact absurd (show b∈([]:List Addr) from z) (by simp)) (by simp)
    |some u=>
     rcases hO b with z |⟨ob,xs,z⟩
     . rw[q]at z;cases z
     . have z2:=un.frzs b ob _ z;obtain⟨e1,_⟩:=hok b _ z;obtain⟨e2,_⟩:=rq b _ z2;rw[e]at e1;cases e1;exact e2
 cases hk:K.lookup a with
 |some o=>
  have e:=KX a o hk
  rw[ha]at e
  cases e
  refine ny (fun _=>none) (fun _=>.inl rfl) (.inr ⟨_,vs.toArray,_,hk,rfl,rfl,rfl,by rw[oF,rn];exact hl,by simpa using rv⟩) (fun b u z=>by have z':(none:Option HO)=some u:=z;cases z') (fun b z=>absurd rfl z) fun z=>absurd rfl z
 |none=>
  refine ny (fun b=>if b=a then some (.frz { cls:=.type "list",data:=.seq vs.toArray } (.lst (ns.map V.int))) else none) (fun b=>?_) (.inl (.inr ⟨{ cls:=.type "list",data:=.seq vs.toArray },ξ rfl⟩)) (fun b u z=>?_) (fun b z=>?_) fun _=>hk
  . by_cases hb:b=a
    . exact .inr ⟨_,_,ξ hb⟩
    . exact .inl (ψ hb)
  . by_cases hb:b=a
    . have z':=(ξ hb).symm.trans z;cases z';subst hb;exact⟨ha,by rw[gc];exact hl,vs,_,rv,ha⟩
    . have z':=(ψ hb).symm.trans z;cases z'
  . by_cases hb:b=a
    . exact hb
    . exact absurd (ψ hb) z
def walk_of{l:PySem.W.OpenLaw}{n k:Nat}{q:Program}{loose:List Str}{XP:(Str->Option Value)->Heap->Prop}{YP:World->Heap->Prop}{d:DefRec}{K:Params->Frag}{CX:World->CXT}{sp:World->Sp}{x:Str}
  (hn:l.most=some n) (mJ:n<=sizeLine) (lu:d.params.defaults=[]) (hr:Room k callerA)
  (hY:∀(w:World)(h:Heap),YP w h->(K w.params).In h)
  (F:∀(w:World)(mg:Str->Option Value)(fa:Addr)(h:Heap),(K w.params).In h->h.Ns mainGlobals mg->mg d.name=some (.ref fa) ->
   ∃fd:FuncData,(∀(s:Shared)(u:Value),BindsTo s fd ⟨[u],[]⟩ [(x,u)]) /\
    ∀base:Heap,(K w.params).In base->base.Ns mainGlobals mg->FnOk l.prog w (K w.params) mg base (CX w) k fa fd [x] (sp w))
  (gi:∀(w:World)(H:Hp)(a:Addr)(ns:List Int),ns.length<=n->Gw H->SqL (K w.params) H a (ns.map V.int)->sp w [.ref a] H (fun v _=>v=.bl true) fun _ _ _=>False)
  (og:∀(w:World)(H:Hp)(s:Shared)(e:Value)(s':Shared),CX w [] H s (fun _ _ _=>False) e s'->False) :
  PySem.W.WalkO q loose XP YP l.row.toRowW d [] (fun f vs=>PySem.call f vs):=by
 refine Att.attach_call hn lu fun w s₀ af mg mb fa o pm cd doc a vs ns G Y ho hd cK bQ iQ gE ax hg=>?_
 have KX:=hY w _ Y
 obtain⟨fd,hb,hF⟩:=F w mg fa _ KX G.T.g bQ
 exact za KX G.T.g G.T.b G.T.builtins G.T.nolimit hg iQ gE (EZ ax mJ) hr hF hb (fun H hO hS=>gi w H a ns ax hO hS) fun H e s'=>og w H af e s'
structure Fun(K:Frag)(x qual:Str)(st:Stmt)(f:Addr)(fd:FuncData):Prop where
 ex:∃(oc:Value)(od:Option Addr)(kV doc pm:Value)(an:Option Addr)(cdv ct:Value)(osl:Array (Option Value)),
  fd=PySem.W.fnOf x qual (J7 st) (C1 st) (g0 st) .none kV doc pm an cdv ct/\K.lookup f=some ⟨oc,od,.func fd,osl⟩/\codeIn K cdv qual=true
 kp:keepIn K (.ref f)=true
section
variable {K:Frag}
def Fun.binds{x qual:Str}{st:Stmt}{f:Addr}{fd:FuncData}{ps:List Str}(F:Fun K x qual st f fd)
  (h:∀(kV doc pm:Value)(an:Option Addr)(cdv ct:Value)(us:List Value),us.length=ps.length->bindArgs (PySem.W.fnOf x qual (J7 st) (C1 st) (g0 st) .none kV doc pm an cdv ct) ⟨us,[]⟩=pure (ps.zip us)):Binds K fd ps []:=by
 obtain⟨oc,od,kV,doc,pm,an,cdv,ct,osl,rfl,lk,cK⟩:=F.ex
 exact .all (h kV doc pm an cdv ct)
def Bl{x qual:Str}{st:Stmt}{f:Addr}{oc:Value}{od an:Option Addr}{osl:Array (Option Value)}{kV doc pm cdv ct:Value}(l:K.lookup f=some ⟨oc,od,.func (PySem.W.fnOf x qual (J7 st) (C1 st) (g0 st) .none kV doc pm an cdv ct),osl⟩)
 (c:codeIn K cdv qual=true) (k:keepIn K (.ref f)=true):Fun K x qual st f (PySem.W.fnOf x qual (J7 st) (C1 st) (g0 st) .none kV doc pm an cdv ct):=⟨⟨oc,od,kV,doc,pm,an,cdv,ct,osl,rfl,l,c⟩,k⟩
end
section
variable {X:Cx}
def call_lenD:CallR X (.builtin "len") (fun xs H Q=>∃a kvs,xs=[V.ref a]/\H a=some (.dK kvs)/\Q (.int kvs.length) H):=by intro pins s σ H xs us Q I r h;obtain⟨a,kvs,rfl,ha,q⟩:=h;obtain⟨u,rfl,ru⟩:=r6 r;cases ru;exact y2a I (.inl ha) fun t s' I'=>⟨.int kvs.length,H,I',⟨t,rfl⟩,q⟩
end
def Same(H H':Hp):Prop:=∀b o,H b=some o->H' b=some o
def Same.refl(H:Hp):Same H H:=fun _ _ h=>h
def Same.trans(a:Same H H1)(b:Same H1 H2):Same H H2:=fun c o h=>b c o (a c o h)
noncomputable def t8(cells:List (Str×Addr)):List (Str×NameKind)->List (Str×Addr)->List (Str×Addr)
 | [],acc=>acc
 | (n,k)::r,acc=>t8 cells r (if k==.free then(n,(cells.lookup n).getD 0)::acc else acc)
theorem jp:∀{names:List (Str×NameKind)}{acc:List (Str×Addr)},
  (∀y∈names,y.2=.free->∃c,cells.lookup y.1=some c)->(∀y c,acc.lookup y=some c->cells.lookup y=some c)->(t8 cells names acc).lookup x=some c->cells.lookup x=some c
 | [],acc,_,ha,h=>ha x c h
 | (n,k)::r,acc,hf,ha,h=>by
  refine jp (names:=r) (fun y hy=>hf y (bI _ hy)) (fun y c'=>?_) h;by_cases hk:k=.free
  . subst hk;obtain⟨c0,e0⟩:=hf (n,.free) io rfl;intro e;have e1:(if(NameKind.free==NameKind.free)=true then(n,(cells.lookup n).getD 0)::acc else acc)=(n,(cells.lookup n).getD 0)::acc:=ξ (show(NameKind.free==NameKind.free)=true from rfl);rw[e1,HY]at e;cases lv:y==n with
    |true=>
     rw[lv]at e
     have e2:y=n:=by simpa using lv
     subst e2
     have e3:=Option.some.inj e
     have tT:cells.lookup y=some c0:=e0
     rw[tT]at e3⊢
     exact GY some e3
    |false=>rw[lv]at e;exact ha y c' e
  . have e1:(if(k==NameKind.free)=true then(n,(cells.lookup n).getD 0)::acc else acc)=acc:=ψ (by simpa using hk);rw[e1];exact ha y c'
theorem Nt:∀{names:List (Str×NameKind)}{acc:List (Str×Addr)},
  ((∃c,acc.lookup x=some c)\/∃y∈names,y.2=.free/\y.1=x)->∃c,(t8 cells names acc).lookup x=some c
 | [],acc,h=>by
  rcases h with h |⟨y,hy,_⟩
  . exact h
  . cases hy
 | (n,k)::r,acc,h=>by
  refine Nt (names:=r) ?_;by_cases hk:k=.free
  . subst hk;have e1:(if(NameKind.free==NameKind.free)=true then(n,(cells.lookup n).getD 0)::acc else acc)=(n,(cells.lookup n).getD 0)::acc:=ξ (show(NameKind.free==NameKind.free)=true from rfl);rw[e1,HY];cases tU:x==n with
    |true=>exact .inl ⟨_,rfl⟩
    |false=>
     rcases h with h |⟨y,hy,hf,e⟩
     . exact .inl h
     . rcases ee.mp hy with z |z
       . subst z;have e':n=x:=e;subst e';simp at tU
       . exact .inr ⟨y,z,hf,e⟩
  . have e1:(if(k==NameKind.free)=true then(n,(cells.lookup n).getD 0)::acc else acc)=acc:=ψ (by simpa using hk);rw[e1];rcases h with h |⟨y,hy,hf,e⟩
    . exact .inl h
    . rcases ee.mp hy with z |z
      . subst z;exact absurd hf hk
      . exact .inr ⟨y,z,hf,e⟩
def Ge(hf:∀y∈scope.names,y.2=.free->∃c,env.cells.lookup y.1=some c):closureFor scope env=pure (t8 env.cells scope.names []):=by
 have go:∀(names:List (Str×NameKind))(acc:List (Str×Addr)),(∀y∈names,y.2=.free->∃c,env.cells.lookup y.1=some c) ->
   (forIn names acc fun x cs=>if(x.2==NameKind.free)=true then do let a <-cellOf env x.1;pure (ForInStep.yield ((x.1,a)::cs)) else pure (ForInStep.yield cs):Sem (List (Str×Addr)))=pure (t8 env.cells names acc):=by
  intro names
  induction names with
  |nil=>intro acc _;rfl
  |cons p r ih=>
   intro acc h
   obtain⟨n,k⟩:=p
   rw[List.forIn_cons]
   by_cases hk:k=.free
   . subst hk;obtain⟨c,e⟩:=h (n,.free) io rfl;have e':env.cells.lookup n=some c:=e;have e1:cellOf env n=pure c:=by unfold cellOf;rw[e']
     have e2:t8 env.cells ((n,NameKind.free)::r) acc=t8 env.cells r ((n,c)::acc):=by show t8 env.cells r (if(NameKind.free==NameKind.free)=true then(n,(env.cells.lookup n).getD 0)::acc else acc)=_;rw[ξ (show(NameKind.free==NameKind.free)=true from rfl),e'];rfl
     rw[e2,<-ih _ fun y hy=>h y (bI _ hy)];show((if(NameKind.free==NameKind.free)=true then do let a <-cellOf env n;pure (ForInStep.yield ((n,a)::acc)) else pure (ForInStep.yield acc)) >>= _:Sem _)=_;rw[ξ (show(NameKind.free==NameKind.free)=true from rfl),e1];rfl
   . have rY:(k==NameKind.free)=false:=by simpa using hk
     have e2:t8 env.cells ((n,k)::r) acc=t8 env.cells r acc:=by show t8 env.cells r (if(k==NameKind.free)=true then _ else acc)=_;rw[ψ (by rw[rY];exact η)]
     rw[e2,<-ih _ fun y hy=>h y (bI _ hy)];show((if(k==NameKind.free)=true then do let a <-cellOf env n;pure (ForInStep.yield ((n,a)::acc)) else pure (ForInStep.yield acc)) >>= _:Sem _)=_;rw[ψ (by rw[rY];exact η)];rfl
 have:=go scope.names [] hf;unfold closureFor;simpa using this
def ze0(I:Nat->Shared->Prop)
  (turn:∀n s,I n s->wpAny (model prog w) A (pyNext it) (fun r af=>match r with
   |none=>R (.ok .next) af
   |some v=>wpAny (model prog w) A (letOwnedTupleGo target it v) (fun _ dU=>wpAny (model prog w) A (assign target env v) (fun _ aK=>
    wpAny (model prog w) A (forIn aq true fun c r=>if r=true then do let ok <-isTrue c env (eval c env);pure (ForInStep.yield ok) else pure (ForInStep.yield r)) (fun ok aa=>
     if ok=true then wpAny (model prog w) A (eval au env) (fun x aL=>
      wpAny (model prog w) A (call (.builtin "list.append") [acc,x]) (fun _ fT=>∃m,m<n/\I m fT) (fun _ _=>False) aL) (fun _ _=>False) aa
     else ∃m,m<n/\I m aa) (fun _ _=>False) aK) (fun _ _=>False) dU) (fun _ _=>False) af) (fun _ _=>False) s)
  (n:Nat) (h:I n s) :
  codeAny (model prog w) A (.compLoop (.ListComp au [⟨target,iter,aq,0⟩] scope pos) 0 it acc env) R s:=by
 refine codeAny_loop rfl I (fun n s hI=>?_) n h
 show wpAny _ A ((compTurn (.ListComp au [⟨target,iter,aq,0⟩] scope pos) 0 it acc env).onRaise (fun x=>do noteFrame x env;theTreesLotGoes x)) _ _ s
 refine wpAny_noted ?_
 rw[compTurn_list]
 refine δ (HG (δ (EU (turn n s hI) (fun r af bP=>?_) fun _ _ h'=>h'.elim)))
 cases r with
 |none=>exact ω bP
 |some v=>
  refine δ (EU bP (fun _ dU gF=>?_) fun _ _ h'=>h'.elim)
  refine δ (EU gF (fun _ aK iR=>δ (EU iR (fun ok aa dY=>?_) fun _ _ h'=>h'.elim)) fun _ _ h'=>h'.elim)
  cases ok with
  |false=>exact ω ⟨rfl,dY⟩
  |true=>
   exact δ (δ (EU dY (fun x aL iT=>δ (EU iT (fun _ fT iU=>ω (ω ⟨rfl,iU⟩)) fun _ _ h'=>h'.elim)) fun _ _ h'=>h'.elim))
theorem Ox{env:Env}:∀{names:List (Str×NameKind)}{x:Str},
  (names.map fun (n,k)=>if(k==NameKind.free&&env.scope.kind==.function&&env.kindOf n==some .cell) then(n,NameKind.cell) else(n,k)).lookup x =
   (names.lookup x).map fun k=>if(k==NameKind.free&&env.scope.kind==.function&&env.kindOf x==some .cell) then NameKind.cell else k
 | [],_=>rfl
 | (n,k)::r,x=>by
  have ih:=@Ox env r x;show List.lookup x ((if(k==NameKind.free&&env.scope.kind==.function&&env.kindOf n==some .cell)=true then(n,NameKind.cell) else(n,k))::_)=_;cases hx:x==n with
  |true=>
   have e:x=n:=by simpa using hx
   subst e
   by_cases hc:(k==NameKind.free&&env.scope.kind==.function&&env.kindOf x==some .cell)=true
   . rw[ξ hc];simp only[HY,hx,FC,hc,FQ]
   . rw[ψ hc];simp only[HY,hx,FC,hc,FV];rfl
  |false=>
   by_cases hc:(k==NameKind.free&&env.scope.kind==.function&&env.kindOf n==some .cell)=true
   . rw[ξ hc];simp only[HY,hx];exact ih
   . rw[ψ hc];simp only[HY,hx];exact ih
def j7(X:Cx)(sc:Scope)(N':List Str)(fp:List Addr)(aa:Shared)(cA:Hp):Cx:=
 { X with env:=compEnvC sc (t8 X.env.cells sc.names []) aa.heap.objs.size X.env,N:=N',s₀:=aa,H₀:=cA,outer:=X.stack,ex:=fp,fn:=fun _=>false,pn:=[],xe:=fun _ _=>False }
noncomputable def D1(ix:List Nat)(σ:St):St:=ix.map fun j=>(σ[j]?).getD none
structure CompOk(X:Cx)(sc:Scope)(caps:List Str)(ix:List Nat):Prop where
 calm:X.calm=true
 kind:sc.kind=.function
 ncell:∀y∈sc.names,y.2≠.cell
 free:∀y∈sc.names,y.2=.free->X.env.kindOf y.1=some .cell\/X.env.kindOf y.1=some .free
 names:∀y∈sc.names,y.2=.local->sc.names.lookup y.1=some .local
 cap:∀(j:Nat) x,caps[j]?=some x->sc.names.lookup x=some .free/\∃i,ix[j]?=some i/\X.N[i]?=some x
 len:ix.length=caps.length
noncomputable def Xq(fsc:Scope)(N:List Str)(sc:Scope)(caps:List Str)(ix:List Nat):Bool:=
 sc.kind==.function&&sc.names.all (fun y=>y.2 != .cell)&&sc.names.all (fun y=>y.2 != .free||(fsc.names.lookup y.1==some .cell||fsc.names.lookup y.1==some .free)) &&
  sc.names.all (fun y=>y.2 != .local||sc.names.lookup y.1==some .local)&&caps.all (fun x=>sc.names.lookup x==some .free)&&(ix.map fun i=>N[i]?)==caps.map some
def C2(hc:X.calm=true)(h:Xq X.env.scope X.N sc caps ix=true):CompOk X sc caps ix:=by
 unfold Xq at h;simp only[gq]at h;obtain⟨⟨⟨⟨⟨h1,h2⟩,h3⟩,h4⟩,h5⟩,h6⟩:=h;have e6:(ix.map fun i=>X.N[i]?)=caps.map some:=by simpa using h6
 have nz:ix.length=caps.length:=by simpa using GY List.length e6
 refine⟨hc,by simpa using h1,fun y hy=>?_,fun y hy hf=>?_,fun y hy hl=>?_,fun j x hj=>⟨?_,?_⟩,nz⟩
 . have:=EV.mp h2 y hy;simpa using this
 . have:=EV.mp h3 y hy;rw[hf]at this;simp only[bne_self_eq_false,Bool.false_or,HP,Iv]at this;exact this
 . have:=EV.mp h4 y hy;rw[hl]at this;simpa using this
 . have:=EV.mp h5 x (FP hj);simpa using this
 . have rZ:j<ix.length:=by rw[nz];exact(FK.mp hj).1
   refine⟨ix[j],ET rZ,?_⟩;have q:=GY (fun l=>l[j]?) e6;simp only[FF,ET rZ,hj,FC]at q;exact Option.some.inj q
section
variable {X:Cx}{sc:Scope}{tgs caps:List Str}{ix:List Nat}{pins:List (Addr×Obj)}{σ:St}{H:Hp}{s:Shared}{fp:List Addr}
def CompOk.free_cell(C:CompOk X sc caps ix)(I:Inv X pins σ H s):∀y∈sc.names,y.2=.free->∃c,X.env.cells.lookup y.1=some c:=fun y hy hf=>I.ok.has y.1 (C.free y hy hf)
def CompOk.sub(C:CompOk X sc caps ix)(I:Inv X pins σ H s)(h:(t8 X.env.cells sc.names []).lookup x=some c):X.env.cells.lookup x=some c:=
 jp (C.free_cell I) (fun _ _ e=>by cases e) h
def Yu(C:CompOk X sc caps ix)(I:Inv X pins σ H s)(hf:∀b∈fp,o8 X pins H b)(hl:∀b∈fp,b<s.heap.objs.size)(hn:h'.Ns s.heap.objs.size m)
  (hk:∀b o,s.heap.get? b=some o->h'.get? b=some o) :
  Inv (j7 X sc (tgs++caps) fp s H) [] (List.replicate tgs.length none++D1 ix σ) H { s with heap:=h',toks:=t' }:=by
 have sub:∀{x c},(t8 X.env.cells sc.names []).lookup x=some c->X.env.cells.lookup x=some c:=fun h=>C.sub I h
 have DJ:∀{x c},X.env.cells.lookup x=some c->c<s.heap.objs.size:=fun {x c} h=>by obtain⟨v,q⟩:=I.cell x c h;exact q.lt
 refine⟨⟨I.ok.mod,C.kind,I.ok.glob,I.ok.blt,ζ _,fun x y c h1 h2=>I.ok.inj x y c (sub h1) (sub h2),fun x hx=>?_,fun x c lq _=>?_,I.ok.hd,I.ok.frames,.inl rfl,fun b hb=>⟨?_,fun x c h z=>?_⟩,fun b o e=>I.bs b o e,EZ I.ok.bsz I.sz,fun b o e hb=>?_,fun b hb gK=>?_,I.stack,I.stkFree⟩,
  rfl,I.bare,Un.kept hk,⟨m,hn,fun i x v e1 e2 e3=>?_⟩,fun x c h=>?_,I.hok.fresh (ζ _),fun x c h=>I.freeC x c (sub h),fun p hp=>absurd (show p∈([]:List (Addr×Obj)) from hp) (by simp),I.hok.kept hk,?_⟩
 . -- a cell or free name of the tI has a cell
   have eI:(relabel sc X.env).names.lookup x=some .cell\/(relabel sc X.env).names.lookup x=some .free:=hx;have e:(relabel sc X.env).names.lookup x=(sc.names.lookup x).map fun k=>if(k==NameKind.free&&X.env.scope.kind==.function&&X.env.kindOf x==some .cell) then NameKind.cell else k:=Ox
   rw[e]at eI;cases q:sc.names.lookup x with
   |none=>rw[q]at eI;rcases eI with z |z<;>cases z
   |some k=>
    have hm:(x,k)∈sc.names:=GZ q
    have tV:k=.free:=by
     rw[q]at eI;simp only[FC]at eI;by_cases sg:k=.free
     . exact sg
     . have:(k==NameKind.free)=false:=by simpa using sg
       simp only[this,IK,EW,FV]at eI;rcases eI with z |z
       . exact absurd (Option.some.inj z) (C.ncell _ hm)
       . exact Option.some.inj z
    subst tV
    exact Nt (.inr ⟨_,hm,rfl,rfl⟩)
 . exact absurd (show false=true from lq) η
 . exact ER (hl b hb)
 . exact(hf b hb).2.2.2.2.1 x c (sub h) z
 . obtain⟨_,_,_,hx,_⟩:=hf b hb;rcases hx with z |z
   . exact I.ok.noex b o e z
   . exact absurd (ES (π e) (EZ I.ok.bsz z)) (χ _)
 . obtain⟨_,h1,h2,_⟩:=hf b hb;rcases ee.mp (I.stkSub b gK) with z |z
   . exact h1 z
   . exact h2 z
 . -- the pU tG tH
   have hi:tgs.length<=i:=by
    by_cases hi:i<tgs.length
    . rw[FL (by simpa using hi),List.getElem?_replicate]at e2;split at e2<;>cases e2
    . lia
   have tW:caps[i - tgs.length]?=some x:=by have:(tgs++caps)[i]?=some x:=e1;rw[FZ hi]at this;exact this
   rw[FZ (by simpa using hi),List.length_replicate]at e2;obtain⟨bq,j,hj,tX⟩:=C.cap _ x tW;have tY:σ[j]?=some (some v):=by
    unfold D1 at e2;rw[FF,hj]at e2;simp only[FC]at e2;have e2:=Option.some.inj e2;cases q:σ[j]? with
    |none=>rw[q]at e2;cases e2
    |some o=>rw[q]at e2;exact GY some e2
   have nA:(x,NameKind.free)∈sc.names:=GZ bq;have dC:=C.free _ nA rfl;obtain⟨m0,DK,tZ⟩:=I.loc;have rz:Vis X.env.scope x:=dC.elim (fun z=>.inr (.inl z)) fun z=>.inr (.inr z)
   obtain⟨u,r,look⟩:=tZ j x v tX tY rz;refine⟨u,r,?_⟩;rcases look with⟨k,_⟩ |⟨_,c,hc,z⟩
   . rcases dC with q |q
     . rw[show X.env.kindOf x=some .cell from q]at k;cases k
     . rw[show X.env.kindOf x=some .free from q]at k;cases k
   . obtain⟨c',cg⟩:=Nt (cells:=X.env.cells) (names:=sc.names) (acc:=[]) (x:=x) (.inr ⟨_,nA,rfl,rfl⟩);have gf:c'=c:=by have:=sub cg;rw[hc]at this;exact(Option.some.inj this).symm
     subst gf;refine .inr ⟨?_,c',cg,?_⟩
     . have e:(relabel sc X.env).names.lookup x=(sc.names.lookup x).map fun k=>if(k==NameKind.free&&X.env.scope.kind==.function&&X.env.kindOf x==some .cell) then NameKind.cell else k:=Ox
       show(relabel sc X.env).names.lookup x=some .cell\/(relabel sc X.env).names.lookup x=some .free;rw[e,bq];simp only[FC];split
       . exact .inl rfl
       . exact .inr rfl
     . obtain⟨o,ho,hd⟩:=z;exact⟨o,hk _ o ho,hd⟩
 . obtain⟨v,o,ho,hd⟩:=I.cell x c (sub h);exact⟨v,o,hk _ o ho,hd⟩
 . show _=(tgs++caps).length;unfold D1;rw[θ,List.length_replicate,gc,θ,C.len]
inductive PTs (X:Cx):List Expr->TT->Prop where
 |nil:PTs X [] (fun _ H Q=>Q true H)
 |one {c:Expr} {t:TT} (h:PT X c t):PTs X [c] t
def PTs.run(h:PTs X aq t)(I:Inv X pins σ H s)(q:t σ H Q) :
  wpAny (model X.prog X.w) X.A (forIn aq true fun c r=>if r=true then do let ok <-isTrue c X.env (eval c X.env);pure (ForInStep.yield ok) else pure (ForInStep.yield r)) (TP X pins σ Q) X.xe s:=by
 cases h with
 |nil=>exact wpAny_tests_nil ⟨H,I,q⟩
 |one h=>exact wpAny_tests_one (h pins s σ H Q I q)
def Jd(J:It)(D:Addr)(B:V->Hp->(List V->Hp->Prop)->Prop)(cs:St)(tt:TT)(te:TE)(Q:VK)(H1:Hp):Prop:=
 ∃W:Nat->Nat->List V->Hp->Prop,(∃m,W 0 m [] (upd H1 D (.lst [])))/\∀i m ys H,W i m ys H ->
  H D=some (.lst ys)/\((J.stop i H/\Q (.ref D) H)\/(J.go i H/\∀x H',J.yld i H x H'->B x H' fun ah H2=>tt (ah.map some++cs) H2 fun b H3=>
   if b=true then te (ah.map some++cs) H3 fun y H4=>H4 D=some (.lst ys)/\ys.length<sizeLine/\∃m',m'<m/\W (i+1) m' (ys++[y]) (upd H4 D (.lst (ys++[y])))
   else ∃m',m'<m/\W (i+1) m' ys H3))
def F8(wi:TI)(B:V->Hp->(List V->Hp->Prop)->Prop)(ix:List Nat)(tt:TT)(te:TE):TE:=fun σ H Q=>wi σ H fun J H1=>∀D,H1 D=none->Jd J D B (D1 ix σ) tt te Q H1
variable {au tg iter:Expr}{aq:List Expr}{pos:Pos}{g:TG}{B:V->Hp->(List V->Hp->Prop)->Prop}{tt:TT}{te:TE}
def Yt(C:CompOk X sc caps ix)(hg:∀fp s H,PG (j7 X sc (tgs++caps) fp s H) tg g)
  (hB:∀(x:V)(aM cs:St)(H:Hp)(Q:St->Hp->Prop),aM.length=tgs.length->B x H (fun ah H2=>Q (ah.map some++cs) H2)->g x (aM++cs) H fun aR H2=>(∃ah:List V,ah.length=tgs.length/\aR=ah.map some++cs)/\Q aR H2)
  (ht:∀fp s H,PTs (j7 X sc (tgs++caps) fp s H) aq tt) (he:∀fp s H,PE (j7 X sc (tgs++caps) fp s H) au te)
  {J:It} {it:Addr} {tn:Nat->Heap->Prop} {Q:VK} {E:Value->Shared->Prop} (I2:Inv X pins σ H s) (T:Turn X.prog X.w X.K tg J fp it tn) (st:tn 0 s.heap) (hf:∀b∈fp,o8 X pins H b)
  (hw:∀D,H D=none->Jd J D B (D1 ix σ) tt te Q H) {RR:Value->Addr->Result->Shared->Prop}
  (oh:∀D Cc H' s' m,s'.heap.Ns Cc m->Inv X pins σ H' s'->o8 X pins H' Cc->Q (.ref D) H'->RR (.ref D) Cc (.ok .next) s') :
  wpAny (model X.prog X.w) X.A (newList []) (fun acc aa=>wpAny (model X.prog X.w) X.A (newFunctionEnv sc X.env.globals (t8 X.env.cells sc.names []) [] X.env.qual none .none (some X.env)) (fun cenv aL=>
   codeAny (model X.prog X.w) X.A (.compStart (.ListComp au [⟨tg,iter,aq,0⟩] sc pos) 0 (.ref it) acc { cenv with scope:=relabel sc X.env }) (RR acc cenv.locals) aL) E aa) E s:=by
 refine wpAny_newObj_type (wpAny_newFunctionEnv C.ncell (by intro y hy;simp at hy) (fun bP dh di=>?_) C.kind)
 have I3:Inv X pins σ (upd H s.heap.objs.size (.lst [])) { s with heap:=s.heap.push { cls:=.type "list",dict:=none,data:=.seq ([]:List Value).toArray } }:=I2.lnew (t':=s.toks) (its:=[]) .nil (FX _)
 have oj:H s.heap.objs.size=none:=I2.fresh
 have lz:∀b∈fp,b<s.heap.objs.size:=fun b hb=>by obtain⟨o,e,_⟩:=T.obj _ _ st b hb;exact π e
 have ol:∀b∈fp,b≠s.heap.objs.size:=fun b hb=>ER (lz b hb)
 have iy:∀b∈fp,o8 X pins (upd H s.heap.objs.size (.lst [])) b:=fun b hb=>⟨by rw[d8 (ol b hb)];exact(hf b hb).1,(hf b hb).2⟩
 generalize om:({ s with heap:=s.heap.push { cls:=.type "list",dict:=none,data:=.seq ([]:List Value).toArray } }:Shared)=aa at I3 dh di⊢
 have fU:aa.heap=s.heap.push { cls:=.type "list",dict:=none,data:=.seq ([]:List Value).toArray }:=by rw[<-om]
 have dJ:tn 0 aa.heap:=T.keep _ _ _ st fun b _ o e=>by rw[fU];exact τ _ e
 have lA:∀b∈fp,b<aa.heap.objs.size:=fun b hb=>by rw[fU,Heap.size_push];exact HR (lz b hb)
 generalize ub:s.heap.objs.size=D at *
 have lB:∀b o,aa.heap.get? b=some o->bP.get? b=some o:=fun b o e=>di.extBut b o (ER (π e)) (τ _ e)
 have I4:=Yu (tgs:=tgs) (t':=aa.toks+([]:List (Str×Value)).length) C I3 iy lA dh lB
 have cL:tn 0 bP:=T.keep _ _ _ dJ fun b _ o e=>lB b o e
 have oo:∀b∈fp,(upd H D (.lst [])) b=none:=fun b hb=>(iy b hb).1
 generalize aX:j7 X sc (tgs++caps) fp aa (upd H D (.lst []))=Xc at I4
 have aE:Xc.prog=X.prog:=by rw[<-aX];rfl
 have bR:Xc.w=X.w:=by rw[<-aX];rfl
 have lC:Xc.K=X.K:=by rw[<-aX];rfl
 have bb:Xc.calm=true:=by rw[<-aX];exact C.calm
 have hA:Xc.A=X.A:=by rw[<-aX];rfl
 have cb:Xc.env=compEnvC sc (t8 X.env.cells sc.names []) aa.heap.objs.size X.env:=by rw[<-aX];rfl
 have gk:Xc.xe=fun _ _=>False:=by rw[<-aX];rfl
 have lD:=hg fp aa (upd H D (.lst []))
 have lE:=ht fp aa (upd H D (.lst []))
 have gl:=he fp aa (upd H D (.lst []))
 rw[aX]at lD lE gl
 obtain⟨W,⟨m0,w0⟩,turn⟩:=hw D oj
 have cz:∀{H':Hp},(∀b∈fp,H' b=none)->∀b∈fp,o8 Xc [] H' b:=fun {H'} hn b hb=>by
  refine⟨hn b hb,?_,?_,.inl ?_,fun x c e z=>?_,fun p hp=>?_⟩
  . rw[cb];exact ER (lA b hb)
  . rw[<-aX];intro z;obtain⟨_,h1,h2,_⟩:=hf b hb;rcases ee.mp (I3.stkSub b z) with q |q
    . exact h1 q
    . exact h2 q
  . rw[<-aX];exact hb
  . rw[cb]at e;exact(hf b hb).2.2.2.2.1 x c (C.sub I2 e) z
  . rw[<-aX]at hp;exact absurd (show p∈([]:List (Addr×Obj)) from hp) (by simp)
 have loop:∀aL:Shared,aL={ aa with heap:=bP,toks:=aa.toks+([]:List (Str×Value)).length } ->
   codeAny (model X.prog X.w) X.A (.compLoop (.ListComp au [⟨tg,iter,aq,0⟩] sc pos) 0 (.ref it) (.ref D) (compEnvC sc (t8 X.env.cells sc.names []) aa.heap.objs.size X.env)) (RR (.ref D) aa.heap.objs.size) aL:=by
  intro aL lF
  rw[<-aE,<-bR,<-hA,<-cb]
  refine ze0 (fun n s'=>∃(i:Nat)(ys:List V)(aM:St)(H':Hp),aM.length=tgs.length/\Inv Xc [] (aM++D1 ix σ) H' s'/\tn i s'.heap/\(∀b∈fp,H' b=none)/\W i n ys H') ?_ m0
   ⟨0,[],List.replicate tgs.length none,upd H D (.lst []),by simp,by rw[lF];exact I4,by rw[lF];exact cL,oo,w0⟩
  rintro n s5 ⟨i,ys,aM,H5,oq,I5,eT,gJ,w5⟩
  obtain⟨uc,gG⟩:=turn i n ys H5 w5
  rcases gG with⟨stop,q⟩ |⟨go,step⟩
  . rw[aE,bR];refine thn (T.done Xc aE bR lC bb i [] s5 _ H5 _ I5 (cz gJ) eT stop) fun r s6 ⟨hr,I6⟩=>?_
    subst hr;obtain⟨m6,lG,_⟩:=I6.loc;rw[cb]at lG;have ou:∀b∈fp,(b∈X.ex\/X.s₀.heap.objs.size<=b)/\b≠X.env.locals/\(∀x c,X.env.cells.lookup x=some c->c≠b)/\∀p∈X.pn++pins,p.1≠b:=fun b hb=>⟨(hf b hb).2.2.2.1,(hf b hb).2.1,(hf b hb).2.2.2.2.1,(hf b hb).2.2.2.2.2⟩
    have eV:s6.os=aa.os:=by have:=I6.os;rw[<-aX]at this;exact this
    have ox:Un (frs X.stack) fp (upd H D (.lst [])) H5 aa.heap s6.heap:=by have:=I6.base;rw[<-aX]at this;exact this
    have iV:HOk X.prog X.w H5 s6.heap:=by have:=I6.hok;rw[aE,bR]at this;exact this
    have I7:Inv X pins σ H5 s6:=I3.call' eV ox iV I6.bare ou;refine oh D _ H5 s6 m6 lG I7 ?_ q;have oy:H5 aa.heap.objs.size=none:=by have:=I6.free;rw[cb]at this;exact this
    exact I3.fpOk (ζ _) oy
  . rw[aE,bR];refine thn (T.item Xc aE bR lC bb i [] s5 _ H5 _ I5 (cz gJ) eT go) fun r s6 ⟨u,hr,h6⟩=>?_
    subst hr;refine thn h6 fun _ s7 ⟨x,H7,I7,r7,y7,gL,oz⟩=>?_
    have oA:=I7.pinned (cz oz) (T.obj _ _ gL);have aF:=lD _ s7 _ H7 x u _ oA r7 (hB x aM (D1 ix σ) H7 (fun aR H2=>tt aR H2 fun b H3=>if b=true then te aR H3 fun y H4=>H4 D=some (.lst ys)/\ys.length<sizeLine/\∃m',m'<n/\W (i+1) m' (ys++[y]) (upd H4 D (.lst (ys++[y]))) else ∃m',m'<n/\W (i+1) m' ys H3) oq (step x H7 y7));rw[aE,bR,gk]at aF;refine thn aF fun _ s8 ⟨oB,H8,I8,⟨ah,lH,iW⟩,q8⟩=>?_
    have again:∀{H9:Hp}{s9:Shared},Inv Xc ([]++W7 fp s7.heap) oB H9 s9->tn (i+1) s9.heap/\∀b∈fp,H9 b=none:=fun {H9 s9} I9=>
     ⟨T.keep _ _ _ gL fun b hb o e=>(I9.pin (b,o) (FD _ (FD _ (Y2 hb e)))).1,fun b hb=>by obtain⟨o,e,d⟩:=T.obj _ _ gL b hb;exact(I9.pin (b,o) (FD _ (FD _ (Y2 hb e)))).2.1⟩
    subst iW;have lJ:=lE.run I8 q8;rw[aE,bR,gk]at lJ;refine thn lJ fun ok s9 ⟨H9,I9,q9⟩=>?_
    cases ok with
    |false=>
     rw[ψ η]at q9⊢
     obtain⟨m',hm,w9⟩:=q9
     obtain⟨a1,a2⟩:=again I9
     exact⟨m',hm,i+1,ys,ah.map some,H9,by simpa using lH,I9.unpinned,a1,a2,w9⟩
    |true=>
     rw[ξ rfl]at q9⊢
     have mK:=gl _ s9 _ H9 _ I9 q9
     rw[aE,bR,gk]at mK
     refine thn mK fun uy oC ⟨y,lK,iz,oE,iX,iY,m',hm,oG⟩=>?_
     have lL:=S3 (X:=Xc) _ oC _ lK (.ref D) [y] (.ref D) [uy] (fun v lM=>v=.non/\lM=upd lK D (.lst (ys++[y]))) iz rfl (.cons oE .nil) ⟨D,ys,y,rfl,rfl,iX,iY,rfl,rfl⟩
     rw[aE,bR,gk]at lL
     refine thn lL fun _ ud ⟨v,lM,lN,_,_,oH⟩=>?_
     subst oH
     obtain⟨a1,a2⟩:=again lN
     exact⟨m',hm,i+1,ys++[y],ah.map some,_,by simpa using lH,lN.unpinned,a1,a2,oG⟩
 refine codeAny_compStart_list (loop _ rfl) (T.self X.A 0 _ _ _ cL (loop _ rfl))
def Vf(C:CompOk X sc caps ix)(hi:PI X tg iter wi)(hg:∀fp s H,PG (j7 X sc (tgs++caps) fp s H) tg g)
  (hB:∀(x:V)(aM cs:St)(H:Hp)(Q:St->Hp->Prop),aM.length=tgs.length->B x H (fun ah H2=>Q (ah.map some++cs) H2)->g x (aM++cs) H fun aR H2=>(∃ah:List V,ah.length=tgs.length/\aR=ah.map some++cs)/\Q aR H2)
  (ht:∀fp s H,PTs (j7 X sc (tgs++caps) fp s H) aq tt) (he:∀fp s H,PE (j7 X sc (tgs++caps) fp s H) au te)
  (hs:∀x,foldedSetIterable iter X.env x=pure x:=by intro _;rfl):PE X (.ListComp au [⟨tg,iter,aq,0⟩] sc pos) (F8 wi B ix tt te):=by
 intro pins s σ H Q I h
 rw[eval_ListComp]
 refine wpAny_comprehension_free (use:=none) rfl hs (Ge (C.free_cell I)) C.kind C.names (thn (hi pins s σ H _ I h) fun v s1 h1=>thn h1 fun gI s2 h2=>?_)
 obtain⟨it,fp,tn,J,H2,e,I2,T,aH,f2,hw⟩:=h2
 subst e
 refine Yt (RR:=fun acc Cc=>compPost (model X.prog X.w) X.A X.xe none (EP X pins σ Q) acc Cc) C hg hB ht he I2 T aH f2 hw ?_
 intro D Cc H' s' m hn I' bc q
 refine⟨m,hn,fun h' sb=>⟨.ref D,H',?_,rfl,q⟩⟩
 exact I'.turned (t':=s'.toks) (fun b o hb e=>sb.extBut b o hb e) bc.1 bc.2.1 bc.2.2.2.1 bc.2.2.2.2.1 bc.2.2.2.2.2
def Ve(hN:X.N.Nodup)(hk:X.N[k]?=some x)(hx:X.env.scope.names.lookup x=some .local)(C:CompOk X sc caps ix)(hi:PI X tg iter wi)(hg:∀fp s H,PG (j7 X sc (tgs++caps) fp s H) tg g)
  (hB:∀(x:V)(aM cs:St)(H:Hp)(Q:St->Hp->Prop),aM.length=tgs.length->B x H (fun ah H2=>Q (ah.map some++cs) H2)->g x (aM++cs) H fun aR H2=>(∃ah:List V,ah.length=tgs.length/\aR=ah.map some++cs)/\Q aR H2)
  (ht:∀fp s H,PTs (j7 X sc (tgs++caps) fp s H) aq tt) (he:∀fp s H,PE (j7 X sc (tgs++caps) fp s H) au te)
  (bZ:swapsWith (.ListComp au [⟨tg,iter,aq,0⟩] sc pos) (some (.Name x px)) aZ.line X.env=pure true:=by rfl)
  (hs:∀x,foldedSetIterable iter X.env x=pure x:=by intro _;rfl):PS X (.Assign [.Name x px] (.ListComp au [⟨tg,iter,aq,0⟩] sc pos) aZ) (J2 (F8 wi B ix tt te) (B7 k)):=by
 intro pins s σ H D0 I h
 rw[exec_Assign_Name_used _ _ _ _ bZ]
 refine δ (HG (δ ?_))
 show wpAny _ X.A (do let _ <-comprehension (.ListComp au [⟨tg,iter,aq,0⟩] sc pos) sc X.env _ (newList []) false (eval iter X.env) (some (assign (.Name x px) X.env))) _ _ s
 refine δ (EU (wpAny_comprehension_free (use:=some (assign (.Name x px) X.env)) (Q:=fun _ s'=>SP X pins D0 .next s') rfl hs (Ge (C.free_cell I)) C.kind C.names
  (thn (hi pins s σ H _ I h) fun v s1 h1=>thn h1 fun gI s2 h2=>?_)) (fun _ s' hq=>ω (ω hq)) fun _ _ e=>e)
 obtain⟨it,fp,tn,J,H2,e,I2,T,aH,f2,hw⟩:=h2
 subst e
 refine Yt (RR:=fun acc Cc=>compPost (model X.prog X.w) X.A X.xe (some (assign (.Name x px) X.env)) (fun _ s'=>SP X pins D0 .next s') acc Cc) C hg hB ht he I2 T aH f2 hw ?_
 intro D Cc H' s' m hn I' bc q
 show wpAny _ X.A (assign (.Name x px) X.env (.ref D)) _ _ _
 refine wpAny_assign_Name (Mr I' hN hk (.inl hx) (v:=.ref D) rfl (fun de oI dw=>?_) (.inr hx))
 obtain⟨a,sb,ha⟩:=dw
 have aP:Cc≠a:=by
  rcases ha with z |z
  . rw[z];exact bc.2.1
  . exact fun e=>bc.2.2.2.2.1 x a z e.symm
 refine⟨m,hn.sameBut sb aP,fun h' oJ=>⟨_,H',?_,q⟩⟩
 exact oI.turned (t':=de.toks) (fun b o hb e=>oJ.extBut b o hb e) bc.1 bc.2.1 bc.2.2.2.1 bc.2.2.2.2.1 bc.2.2.2.2.2
end
section
variable {X:Cx}
def PE.imp(h:PE X e t)(hi:∀σ H Q,t' σ H Q->t σ H Q):PE X e t':=fun pins s σ H Q I q=>h pins s σ H Q I (hi σ H Q q)
def PT.imp(h:PT X e t)(hi:∀σ H Q,t' σ H Q->t σ H Q):PT X e t':=fun pins s σ H Q I q=>h pins s σ H Q I (hi σ H Q q)
def OpR.imp(h:OpR X f r)(hi:∀x y H Q,r' x y H Q->r x y H Q):OpR X f r':=fun pins s σ H x y v u Q I rx ry q=>h pins s σ H x y v u Q I rx ry (hi x y H Q q)
def UnR.imp(h:UnR X f r)(hi:∀x H Q,r' x H Q->r x H Q):UnR X f r':=fun pins s σ H x v Q I rx q=>h pins s σ H x v Q I rx (hi x H Q q)
def CallR.imp(h:CallR X f r)(hi:∀xs H Q,r' xs H Q->r xs H Q):CallR X f r':=fun pins s σ H xs us Q I rx q=>h pins s σ H xs us Q I rx (hi xs H Q q)
end
noncomputable def E0(i:Nat):TE:=fun σ H Q=>match σ[i]? with |some (some v)=>Q v H |_=>False
def pw(i:Nat)(hN:X.N[i]?=some x:=by rfl)(hv:Vis X.env.scope x:=by first |exact .inl rfl |exact .inr (.inl rfl) |exact .inr (.inr rfl))(hd:(x==("__debug__":Str))=false:=by decide)
  (cK:(x==("__classdict__":Str))=false:=by decide):PE X (.Name x pos) (E0 i):=
 (P1 hN hv hd cK).imp fun σ H Q q=>by
  unfold E0 at q;unfold kF;split at q
  . rename_i v e;exact⟨v,e,q⟩
  . exact q.elim
noncomputable def cI(g:Int->Int->V):R2:=fun x y H Q=>match x,y with | .int i,.int j=>Q (g i j) H |_,_=>False
noncomputable def cIC(C:Int->Int->Prop)(g:Int->Int->V):R2:=fun x y H Q=>match x,y with | .int i,.int j=>C i j/\Q (g i j) H |_,_=>False
def OpR.cI(h:OpR X f (rI0 g)):OpR X f (cI g):=h.imp fun x y H Q q=>by cases x<;>cases y<;>first |exact⟨_,_,rfl,rfl,q⟩ |exact q.elim
def OpR.cIC(h:OpR X f (rI C g)):OpR X f (cIC C g):=h.imp fun x y H Q q=>by cases x<;>cases y<;>first |exact⟨_,_,rfl,rfl,q.1,q.2⟩ |exact q.elim
section
variable {X:Cx}
def t9:OpR X (binaryOp .Add) (cI fun i j=>.int (i+j)):=op_add.cI
def M1:OpR X (binaryOp .Sub) (cI fun i j=>.int (i - j)):=op_sub.cI
def Az:OpR X (binaryOp .Mult) (cIC CMul fun i j=>.int (i * j)):=op_mul.cIC
def W4:OpR X (binaryOp .FloorDiv) (cIC R0 fun i j=>.int (i / j)):=op_fdiv.cIC
def m7:OpR X (binaryOp .Mod) (cIC (fun _ j=>0<j) fun i j=>.int (i % j)):=op_mod.cIC
def m9:OpR X (compareOp .Lt) (cI fun i j=>.bl (decide (i<j))):=op_lt.cI
def N7:OpR X (compareOp .LtE) (cI fun i j=>.bl (decide (i<=j))):=op_le.cI
def N6:OpR X (compareOp .Gt) (cI fun i j=>.bl (decide (j<i))):=op_gt.cI
def y6u:OpR X (compareOp .GtE) (cI fun i j=>.bl (decide (j<=i))):=op_ge.cI
def cU(g:Int->V):V->Hp->VK->Prop:=fun x H Q=>match x with | .int i=>Q (g i) H |_=>False
def V8:UnR X (unaryOp .USub) (cU fun i=>.int (-i)):=un_neg.imp fun x H Q q=>by cases x<;>first |exact⟨_,rfl,q⟩ |exact q.elim
end
noncomputable def E7(H:Hp)(p:Addr):Option (List V):=match H p with
 |some (.lst xs)=>some xs
 |some (.tup xs)=>some xs
 |some (.frz _ (.lst xs))=>some xs
 |some (.frz _ (.tup xs))=>some xs
 |_=>none
def Wn{K:Frag}{H:Hp}{p:Addr}{xs:List V}(h:E7 H p=some xs):SqL K H p xs\/SqT K H p xs:=by
 unfold E7 at h;split at h;all_goals first | (cases h;done) |skip
 . rename_i ys e;cases h;exact .inl (.inl (.inl e))
 . rename_i ys e;cases h;exact .inr (.inl (.inl e))
 . rename_i o ys e;cases h;exact .inl (.inl (.inr ⟨_,e⟩))
 . rename_i o ys e;cases h;exact .inr (.inl (.inr ⟨_,e⟩))
def Xp(h:H p=some (.lst xs)):E7 H p=some xs:=by unfold E7;rw[h]
def Xo(h:H p=some (.tup xs)):E7 H p=some xs:=by unfold E7;rw[h]
def O2(x:V)(H:Hp)(Q:Bool->Hp->Prop):Prop:=match x with
 | .bl b=>Q b H
 | .int i=>Q (i != 0) H
 | .non=>Q false H
 | .str y=>y.length<=sizeLine/\Q ((y.length:Int) != 0) H
 | .ref p=>(match E7 H p with
  |some xs=>Q (!xs.isEmpty) H
  |none=>(match H p with |some (.dK kvs)=>Q (!kvs.isEmpty) H |_=>False))
 |_=>False
def Wm{K:Frag}{x:V}{H:Hp}{Q:Bool->Hp->Prop}(h:O2 x H Q):∃k,ku K x H k/\Q k H:=by
 cases x with
 |bl b=>exact⟨b,rfl,h⟩
 |int i=>exact⟨_,rfl,h⟩
 |non=>exact⟨_,rfl,h⟩
 |str y=>exact⟨_,⟨h.1,rfl⟩,h.2⟩
 |ref p=>
  unfold O2 at h
  dsimp only at h
  split at h
  . rename_i xs e;rcases Wn (K:=K) e with z |z
    . exact⟨_,.inl ⟨xs,z,rfl⟩,h⟩
    . exact⟨_,.inr (.inl ⟨xs,z,rfl⟩),h⟩
  . split at h
    . rename_i kvs e;exact⟨_,.inr (.inr ⟨kvs,e,rfl⟩),h⟩
    . exact h.elim
 |_=>exact h.elim
noncomputable def y6v(t:TE):TT:=fun σ H Q=>t σ H fun x H'=>O2 x H' Q
section
variable {X:Cx}{a b c:Expr}{ta tb:TE}{pos:Pos}
def vi(ha:PE X a ta)(he:∀whole,isTrue a X.env whole=(do let v <-whole;standAt a.pos;holding [v] (truthy v)):=by intro _;rfl):PT X a (y6v ta):=by intro pins s σ H Q I h;exact isTrue_plain (thn (ha pins s σ H _ I h) fun v s1 ⟨x,H1,I1,r1,q1⟩=>Tc pins s1 σ H1 x v Q I1 r1 (Wm q1)) (he _)
noncomputable def Jc(t:TE):TT:=fun σ H Q=>t σ H fun x H'=>match x with | .bl k=>Q k H' |_=>False
def xx(ho:OpR X (compareOp op) r)(ha:PE X a ta)(hb:PE X b tb)(hm:behindInMarks op b=false):PT X (.Compare a [op] [b] pos) (Jc (tOp r ta tb)):=by
 intro pins s σ H Q I h;refine wpAny_isTrue_Compare1 (thn (ha pins s σ H _ I h) fun v s1 ⟨x,H1,I1,r1,q1⟩=>thn (hb pins s1 σ H1 _ I1 q1) fun u s2 ⟨y,H2,I2,r2,q2⟩=>
  thn (ho pins s2 σ H2 x y v u _ I2 r1 r2 q2) fun c s3 ⟨z,H3,I3,r3,q3⟩=>?_) hm
 cases z<;>first |exact q3.elim |skip
 cases r3;exact HB ⟨H3,I3,q3⟩
end
section
variable {X:Cx}{a b c:Expr}{ta tb:TE}{pos:Pos}
def PCh(X:Cx)(ops:List CmpOp)(rs:List Expr)(t:V->TE):Prop:=
 ∀(pos:Pos)(pins:List (Addr×Obj))(s:Shared)(σ:St)(H:Hp)(x:V)(v:Value)(Q:VK),Inv X pins σ H s->RelV x v->t x σ H Q->wpAny (model X.prog X.w) X.A (compareChain pos v ops (evalEach rs X.env)) (EP X pins σ Q) X.xe s
def PChT(X:Cx)(ops:List CmpOp)(rs:List Expr)(t:V->TT):Prop:=
 ∀(pos:Pos)(pins:List (Addr×Obj))(s:Shared)(σ:St)(H:Hp)(x:V)(v:Value)(Q:Bool->Hp->Prop),Inv X pins σ H s->RelV x v->t x σ H Q->wpAny (model X.prog X.w) X.A (testChain pos v ops (evalEach rs X.env)) (TP X pins σ Q) X.xe s
noncomputable def Qu(r:R2)(tb:TE):V->TE:=fun x σ H Q=>tb σ H fun y H2=>r x y H2 Q
noncomputable def Qt(r:R2)(tb:TE)(t:V->TE):V->TE:=fun x σ H Q=>tb σ H fun y H2=>r x y H2 fun z H3=>match z with | .bl k=>(if k=true then t y σ H3 Q else Q (.bl false) H3) |_=>False
noncomputable def Sz(r:R2)(tb:TE):V->TT:=fun x σ H Q=>tb σ H fun y H2=>r x y H2 fun z H3=>match z with | .bl k=>Q k H3 |_=>False
noncomputable def Sy(r:R2)(tb:TE)(t:V->TT):V->TT:=fun x σ H Q=>tb σ H fun y H2=>r x y H2 fun z H3=>match z with | .bl k=>(if k=true then t y σ H3 Q else Q false H3) |_=>False
def yZ(ho:OpR X (compareOp op) r)(hb:PE X b tb):PCh X [op] [b] (Qu r tb):=by intro pos pins s σ H x v Q I rx h;exact chain_last (thn (hb pins s σ H _ I h) fun u s2 ⟨y,H2,I2,r2,q2⟩=>ho pins s2 σ H2 x y v u Q I2 rx r2 q2)
def yY(ho:OpR X (compareOp op) r)(hb:PE X b tb)(hr:PCh X (gm::ops) (r'::rs) t):PCh X (op::gm::ops) (b::r'::rs) (Qt r tb t):=by
 intro pos pins s σ H x v Q I rx h;refine chain_link (thn (hb pins s σ H _ I h) fun u s2 ⟨y,H2,I2,r2,q2⟩=>thn (ho pins s2 σ H2 x y v u _ I2 rx r2 q2) fun d s3 ⟨z,H3,I3,r3,q3⟩=>?_);cases z<;>first |exact q3.elim |skip
 rename_i k;cases r3;refine HB ?_;cases k with
 |false=>exact ite_ff ⟨.bl false,H3,I3,rfl,by simpa using q3⟩
 |true=>exact ite_tt (hr pos pins s3 σ H3 y u Q I3 r2 (by simpa using q3))
def zN(ho:OpR X (compareOp op) r)(hb:PE X b tb):PChT X [op] [b] (Sz r tb):=by
 intro pos pins s σ H x v Q I rx h;refine test_last (thn (hb pins s σ H _ I h) fun u s2 ⟨y,H2,I2,r2,q2⟩=>thn (ho pins s2 σ H2 x y v u _ I2 rx r2 q2) fun d s3 ⟨z,H3,I3,r3,q3⟩=>?_);cases z<;>first |exact q3.elim |skip
 cases r3;exact HB ⟨H3,I3,q3⟩
def zM(ho:OpR X (compareOp op) r)(hb:PE X b tb)(hr:PChT X (gm::ops) (r'::rs) t):PChT X (op::gm::ops) (b::r'::rs) (Sy r tb t):=by
 intro pos pins s σ H x v Q I rx h;refine test_link (thn (hb pins s σ H _ I h) fun u s2 ⟨y,H2,I2,r2,q2⟩=>thn (ho pins s2 σ H2 x y v u _ I2 rx r2 q2) fun d s3 ⟨z,H3,I3,r3,q3⟩=>?_);cases z<;>first |exact q3.elim |skip
 rename_i k;cases r3;refine HB ?_;cases k with
 |false=>exact ite_ff ⟨H3,I3,by simpa using q3⟩
 |true=>exact ite_tt (hr pos pins s3 σ H3 y u Q I3 r2 (by simpa using q3))
noncomputable def kf(ta:TE)(t:V->TE):TE:=fun σ H Q=>ta σ H fun x H1=>t x σ H1 Q
noncomputable def Qs(ta:TE)(t:V->TT):TT:=fun σ H Q=>ta σ H fun x H1=>t x σ H1 Q
def vh(ha:PE X a ta)(hr:PCh X (bw::bx::ops) (cB::cC::rs) t)(hm:lastMarks (bw::bx::ops) (cB::cC::rs)=false:=by with_unfolding_all rfl) :
  PE X (.Compare a (bw::bx::ops) (cB::cC::rs) pos) (kf ta t):=by
 intro pins s σ H Q I h
 exact Compare_chain (thn (ha pins s σ H _ I h) fun v s1 ⟨x,H1,I1,r1,q1⟩=>hr pos pins s1 σ H1 x v Q I1 r1 q1) hm
def vg(ha:PE X a ta)(hr:PChT X (bw::bx::ops) (cB::cC::rs) t)(hm:lastMarks (bw::bx::ops) (cB::cC::rs)=false:=by with_unfolding_all rfl) :
  PT X (.Compare a (bw::bx::ops) (cB::cC::rs) pos) (Qs ta t):=by
 intro pins s σ H Q I h
 exact isTrue_chain (thn (ha pins s σ H _ I h) fun v s1 ⟨x,H1,I1,r1,q1⟩=>hr pos pins s1 σ H1 x v Q I1 r1 q1) hm
noncomputable def Qr(ta tb:TE):TE:=fun σ H Q=>ta σ H fun x H1=>match x with | .bl c=>(if c=true then tb σ H1 Q else Q (.bl false) H1) |_=>False
noncomputable def ke(ta tb:TE):TE:=fun σ H Q=>ta σ H fun x H1=>match x with | .bl c=>(if c=true then Q (.bl true) H1 else tb σ H1 Q) |_=>False
end
section
variable {X:Cx}{a b c:Expr}{ta tb:TE}{pos:Pos}{rest:List Expr}
def xw(ha:PE X a ta)(hb:PE X (.BoolOp .And (b::rest) pos) tb):PE X (.BoolOp .And (a::b::rest) pos) (Qr ta tb):=by
 intro pins s σ H Q I h;refine BoolOp_and (thn (ha pins s σ H _ I h) fun v s1 ⟨x,H1,I1,r1,q1⟩=>?_);cases x<;>first |exact q1.elim |skip
 rename_i k;cases r1;refine HB ?_;cases k with
 |true=>exact ite_tt (hb pins s1 σ H1 Q I1 (by simpa using q1))
 |false=>exact ite_ff ⟨.bl false,H1,I1,rfl,by simpa using q1⟩
def vf(ha:PE X a ta)(hb:PE X (.BoolOp .Or (b::rest) pos) tb):PE X (.BoolOp .Or (a::b::rest) pos) (ke ta tb):=by
 intro pins s σ H Q I h;refine BoolOp_or (thn (ha pins s σ H _ I h) fun v s1 ⟨x,H1,I1,r1,q1⟩=>?_);cases x<;>first |exact q1.elim |skip
 rename_i k;cases r1;refine HB ?_;cases k with
 |true=>exact ite_tt ⟨.bl true,H1,I1,rfl,by simpa using q1⟩
 |false=>exact ite_ff (hb pins s1 σ H1 Q I1 (by simpa using q1))
noncomputable def y2b(ta:TE):TE:=fun σ H Q=>ta σ H fun x H1=>O2 x H1 fun k H2=>Q (.bl (!k)) H2
def xv(ha:PE X a ta):PE X (.UnaryOp .Not a pos) (y2b ta):=by intro pins s σ H Q I h;refine UnaryOp_ (thn (ha pins s σ H _ I h) fun v s1 ⟨x,H1,I1,r1,q1⟩=>not_of ?_);exact thn (Tc pins s1 σ H1 x v _ I1 r1 (Wm q1)) fun k s2 ⟨H2,I2,q2⟩=>⟨.bl (!k),H2,I2,rfl,q2⟩
noncomputable def M0(H:Hp):V->Option String
 | .non=>some "NoneType"
 | .bl _=>some "bool"
 | .int _=>some "int"
 | .str _=>some "str"
 | .ref a=>(match H a with
  |some (.lst _)=>some "list"
  |some (.frz _ (.lst _))=>some "list"
  |some (.tup _)=>some "tuple"
  |some (.dK _)=>some "dict"
  |some (.dT _)=>some "dict"
  |_=>none)
 |_=>none
noncomputable def K7(t c:String):Bool:=t==c||(t=="bool"&&c=="int")
noncomputable def L9(c:String):Bool:=["int","bool","str","list","tuple","dict"].contains c
def M8{K:Frag}{t c:String}(ht:["NoneType","bool","int","str","list","tuple","dict"].contains t=true)(hc:L9 c=true):kitOne K (.type t) (.type c)=some (K7 t c):=by
 have h1:t="NoneType"\/t="bool"\/t="int"\/t="str"\/t="list"\/t="tuple"\/t="dict":=by simpa using ht
 have h2:c="int"\/c="bool"\/c="str"\/c="list"\/c="tuple"\/c="dict":=by simpa [L9] using hc
 rcases h1 with rfl |rfl |rfl |rfl |rfl |rfl |rfl<;>rcases h2 with rfl |rfl |rfl |rfl |rfl |rfl<;>first |rfl | (with_unfolding_all rfl)
def yX:CallR X (.builtin "isinstance") (fun xs H Q=>match xs with
  | [x,.ty c]=>L9 c=true/\(match M0 H x with |some t=>Q (.bl (K7 t c)) H |none=>False)
  |_=>False):=by
 intro pins s σ H xs us Q I r h
 split at h
 . rename_i x c;obtain⟨hc,h⟩:=h;obtain⟨u,w',rfl,ru,cE⟩:=Jh r;cases cE;split at h
   . rename_i t et;have fin:∀(tk:Nat),EP X pins σ Q (.bool (K7 t c)) { s with toks:=tk }:=fun tk=>⟨.bl _,H,I.tok _,rfl,h⟩
     cases x<;>simp only[M0]at et
     case non=>cases et;exact M9 I ru .non (M8 (by decide) hc) fin
     case bl b=>cases et;exact M9 I ru (.bl b) (M8 (by decide) hc) fin
     case int b=>cases et;exact M9 I ru (.int b) (M8 (by decide) hc) fin
     case str b=>cases et;exact M9 I ru (.str b) (M8 (by decide) hc) fin
     case ref a=>
      split at et<;>first | (cases et;done) |skip
      . rename_i ys e;cases et;exact M9 I ru (.lst e) (M8 (by decide) hc) fin
      . rename_i o ys e;cases et;exact M9 I ru (.frz e) (M8 (by decide) hc) fin
      . rename_i ys e;cases et;exact M9 I ru (.tup e) (M8 (by decide) hc) fin
      . rename_i ys e;cases et;exact M9 I ru (.dK e) (M8 (by decide) hc) fin
      . rename_i ys e;cases et;exact M9 I ru (.dT e) (M8 (by decide) hc) fin
     all_goals cases et
   . exact h.elim
 . exact h.elim
def zL(hc:X.calm=true):CallR X (.builtin "sum") (fun xs H Q=>match xs with
  | [.ref p]=>∃ns:List Int,E7 H p=some (ns.map V.int)/\Q (.int ns.sum) H
  |_=>False):=by
 intro pins s σ H xs us Q I r h
 split at h
 . rename_i p;obtain⟨ns,e,q⟩:=h;obtain⟨u,rfl,ru⟩:=r6 r;cases ru;have key:∀{its:List Value},Vals (ns.map V.int) its->∃ys:Array (Int×Tok),its.toArray=intItems ys/\preSum (numAt ys) ys.size=ns.sum:=fun {its} rv=>by
    have hi:=Fw rv;obtain⟨ys,hx⟩:=hi.allInts.items;refine⟨ys,hx,?_⟩;have e1:ns=ys.toList.map (·.1):=by rw[<-nums_intItems,<-hx];exact(show numsOf its.toArray.toList=ns from hi.numsOf).symm
    rw[preSum_eq,HL (by simp),e1]
   rcases Wn (K:=X.K) e with hq |hq
   . obtain⟨its,rv,pl,_⟩:=I.list hq;obtain⟨ys,hx,es⟩:=key rv;refine sum_intListG (I.ok.hd hc) (hx ▸ pl.isList) fun h' tk t' hk=>?_
     rw[es];exact⟨.int ns.sum,H,I.kept hk,⟨_,rfl⟩,q⟩
   . obtain⟨its,rv,pl,_⟩:=I.tuple hq;obtain⟨ys,hx,es⟩:=key rv;refine PySem.W.ktm_sumG (I.ok.hd hc) (hx ▸ pl) fun h' tk t' hk=>?_
     rw[es];exact⟨.int ns.sum,H,I.kept hk,⟨_,rfl⟩,q⟩
 . exact h.elim
abbrev Jb(s:Shared)(L:Addr):List (Addr×Obj):=En (Att.noObjs s.heap) s.heap L
section
variable {pins:List (Addr×Obj)}{σ:St}{H:Hp}{s:Shared}{h':Heap}{m:Str->Option Value}
def Ys(N:News (Att.noObjs s.heap) L h' (Jb s L)):∀b o,b≠L->s.heap.get? b=some o->h'.get? b=some o:=fun b o hb e=>(N (b,o) (zfo hb (Att.noObjs_get _ _) e)).1
def Inv.frn(I:Inv X pins σ H s)(hn:s.heap.Ns X.env.locals m)(F:Fr (Att.noObjs s.heap) X.env.locals h' m)(N:News (Att.noObjs s.heap) X.env.locals h' (Jb s X.env.locals)):Inv X pins σ H { s with heap:=h',toks:=tk }:=by
 have kept:=Ys N;refine I.step (g':=s.gens) (d':=s.drawn) (ch:=[]) (fun _ z=>nomatch z) (fun b o hL _ _ e _=>kept b o hL e) (fun b o hL _ _ e _=>⟨o.slots,kept b o hL e⟩) (fun _ _ _ _ n=>n) (fun b o _ e=>?_) (fun _ _ e=>e) (fun _ _ _ e=>e) (fun b ps e=>⟨#[],by rw[e];simp⟩) (fun m' hm=>?_) (fun b u e=>?_) I.bare
 . by_cases hb:b=X.env.locals
   . subst hb;obtain⟨o',_,_,aS,_⟩:=F.ns;exact⟨o',aS⟩
   . exact⟨o,kept b o hb e⟩
 . rw[hm.eq_nsMap,<-hn.eq_nsMap];exact F.ns
 . refine(I.hok b u e).stay (fun c v hc q=>kept c v ?_ q) (fun _ q=>q) fun _ _ q=>q
   intro z;rcases hc with hc |hc
   . rw[<-hc,z,I.free]at e;cases e
   . rw[z,I.free]at hc;cases hc
def Inv.frnew(I:Inv X pins σ H s)(hn:s.heap.Ns X.env.locals m)(F:Fr (Att.noObjs s.heap) X.env.locals h' m)(N:News (Att.noObjs s.heap) X.env.locals h' ((D,ob)::Jb s X.env.locals))
  (hD:s.heap.get? D=none) (new:ObjOk X.prog X.w (upd H D o) h' D o):H D=none/\Inv X pins σ (upd H D o) { s with heap:=h',toks:=tk }:=by
 have kept:=Ys (fun p hp=>N p (.tail _ hp))
 have DL:D≠X.env.locals:=(N (D,ob) (.head _)).2.1
 have ue:∀b o,s.heap.get? b=some o->b≠D:=fun b o e z=>by rw[z,hD]at e;cases e
 have HD:H D=none:=by
  cases q:H D with
  |none=>rfl
  |some u=>
   have:=(I.hok D u q).lt
   obtain⟨v,hv⟩:∃v,s.heap.get? D=some v:=by
    have z:=I.hok D u q;cases u with
    |lst xs=>obtain⟨_,_,_,_,e⟩:=z;exact⟨_,e⟩
    |tup xs=>obtain⟨_,_,_,o,e,_⟩:=z;exact⟨_,e⟩
    |dK kvs=>obtain⟨_,_,_,_,o,_,_,e,_⟩:=z;exact⟨_,e⟩
    |dT kvs=>obtain⟨_,_,_,_,o,_,_,e,_⟩:=z;exact⟨_,e⟩
    |set S n=>obtain⟨_,_,_,_,e,_⟩:=z;exact⟨_,e⟩
    |ins C dx fs=>obtain⟨_,_,_,e,_⟩:=z;exact⟨_,e⟩
    |own x=>exact z
    |xd fs=>obtain⟨mA,n1,_⟩:=z;obtain⟨o,_,_,e,_⟩:=n1;exact⟨o,e⟩
    |met f x=>exact⟨_,z⟩
    |rng lo hi=>obtain⟨_,_,_,e⟩:=z;exact⟨_,e⟩
    |frz o u=>exact⟨_,z.1⟩
    |tbl ps=>exact⟨_,z⟩
    |ctb q=>obtain⟨_,e,_⟩:=z;exact⟨_,e⟩
    |ext φ=>exact z.2.1
   rw[hD]at hv;cases hv
 refine⟨HD,I.step (g':=s.gens) (d':=s.drawn) (ch:=[]) (fun _ z=>nomatch z) (fun b o hL _ _ e _=>kept b o hL e) (fun b o hL _ _ e _=>⟨o.slots,kept b o hL e⟩) (fun b ob _ e n=>by rw[d8 (ue b ob e)];exact n) (fun b o _ e=>?_)
  (fun b xs e=>by rw[d8 (z5 e HD)];exact e) (fun b u xs e=>by rw[d8 (z5 e HD)];exact e) (fun b ps e=>⟨#[],by rw[d8 (z5 e HD),e];simp⟩) (fun m' hm=>?_) (fun b u e=>?_) I.bare⟩
 . by_cases hb:b=X.env.locals
   . subst hb;obtain⟨o',_,_,aS,_⟩:=F.ns;exact⟨o',aS⟩
   . exact⟨o,kept b o hb e⟩
 . rw[hm.eq_nsMap,<-hn.eq_nsMap];exact F.ns
 . by_cases hb:b=D
   . subst hb;rw[j9]at e;cases e;exact new
   . rw[d8 hb]at e;refine(I.hok b u e).stay (fun c v hc q=>kept c v ?_ q) (fun c q=>?_) fun c xs q=>?_
     . intro z;rcases hc with hc |hc
       . rw[<-hc,z,I.free]at e;cases e
       . rw[z,I.free]at hc;cases hc
     . rw[d8 (z5 q HD)];exact q
     . rw[d8 (z5 q HD)];exact q
end
def Zk:∀{us:List Value},Vals (bs.map V.bl) us->LSm.BoolsAre us bs:=by
 induction bs with
 |nil=>intro us r;cases r;exact .nil
 |cons b bs ih=>
  intro us r
  cases r with
  |cons r1 r2=>cases r1;exact .cons b (ih r2)
def zK(hc:X.calm=true):CallR X (.builtin "all") (fun xs H Q=>match xs with
  | [.ref p]=>∃bs:List Bool,Rd H p (.lst (bs.map V.bl))/\Q (.bl (bs.all id)) H
  |_=>False):=by
 intro pins s σ H xs us Q I r h
 split at h
 . rename_i p;obtain⟨bs,e,q⟩:=h;obtain⟨u,rfl,ru⟩:=r6 r;cases ru;obtain⟨its,rv,pl,_⟩:=I.list (.inl e);obtain⟨m,hn,_⟩:=id I.loc;exact LSm.all_bools (Att.fr_all hn) (X7 (g:=Att.noObjs s.heap) (L:=X.env.locals)) (I.ok.hd hc) pl.isList (Zk rv) fun h' tk F N=>⟨.bl _,H,I.frn hn F N,rfl,q⟩
 . exact h.elim
def zJ(hc:X.calm=true):CallR X (.builtin "any") (fun xs H Q=>match xs with
  | [.ref p]=>∃bs:List Bool,Rd H p (.lst (bs.map V.bl))/\Q (.bl (bs.any id)) H
  |_=>False):=by
 intro pins s σ H xs us Q I r h
 split at h
 . rename_i p;obtain⟨bs,e,q⟩:=h;obtain⟨u,rfl,ru⟩:=r6 r;cases ru;obtain⟨its,rv,pl,_⟩:=I.list (.inl e);obtain⟨m,hn,_⟩:=id I.loc;exact LSm.any_bools (Att.fr_all hn) (X7 (g:=Att.noObjs s.heap) (L:=X.env.locals)) (I.ok.hd hc) pl.isList (Zk rv) fun h' tk F N=>⟨.bl _,H,I.frn hn F N,rfl,q⟩
 . exact h.elim
def zI:CallR X (.type "int") (fun xs H Q=>match xs with | [.int i]=>Q (.int i) H | [.bl k]=>Q (.int (if k then 1 else 0)) H |_=>False):=call_int1.imp fun xs H Q q=>by
 split at q
 . exact .inl ⟨_,rfl,q⟩
 . exact .inr ⟨_,rfl,q⟩
 . exact q.elim
def zis(hc:X.calm=true):CallR X (.builtin "max") (fun xs H Q=>match xs with | [.int i,.int j]=>Q (.int (if j > i then j else i)) H |_=>False):=(zW hc).imp fun xs H Q q=>by
 split at q
 . exact⟨_,_,rfl,q⟩
 . exact q.elim
def zit(hc:X.calm=true):CallR X (.builtin "min") (fun xs H Q=>match xs with | [.int i,.int j]=>Q (.int (if j<i then j else i)) H |_=>False):=(zV hc).imp fun xs H Q q=>by
 split at q
 . exact⟨_,_,rfl,q⟩
 . exact q.elim
end
noncomputable def ItS(S:Hp->Prop)(xs:List V):It:=⟨fun i H=>S H/\i<xs.length,fun i H x H'=>H'=H/\xs[i]?=some x,fun i H=>S H/\xs.length<=i⟩
def Turn.conv{P:Program}{w:World}{K:Frag}{tg:Expr}{J J':It}{fp:List Addr}{it:Addr}{tn:Nat->Heap->Prop}(T:Turn P w K tg J fp it tn)(h1:∀i H,J'.go i H->J.go i H)(h2:∀i H x H',J'.go i H->J.yld i H x H'->J'.yld i H x H')
  (h3:∀i H,J'.stop i H->J.stop i H):Turn P w K tg J' fp it tn where
 mem:=T.mem
 obj:=T.obj
 keep:=T.keep
 item:=fun X a b c d i pins s σ H E I hf st hg=>thn (T.item X a b c d i pins s σ H E I hf st (h1 i H hg)) fun r s1 ⟨u,e,h⟩=>⟨u,e,thn h fun _ s2 ⟨x,H',I',r',y',st',dD⟩=>⟨x,H',I',r',h2 i H x H' hg y',st',dD⟩⟩
 done:=fun X a b c d i pins s σ H E I hf st hg=>T.done X a b c d i pins s σ H E I hf st (h3 i H hg)
 self:=T.self
section
variable {X:Cx}{tg:Expr}
def U4(x:V)(H1:Hp)(R:It->Hp->Prop):Prop:=match x with
 | .ref a=>(match H1 a with
  |some (.lst xs)=>R (ItS (fun H'=>Rd H' a (.lst xs)) xs) H1
  |some (.frz _ (.lst xs))=>R (ItS (fun H'=>Rd H' a (.lst xs)) xs) H1
  |some (.tup xs)=>R (ItS (fun H'=>H' a=some (.tup xs)) xs) H1
  |_=>False)
 |_=>False
def yW(h:Rd H a (.lst xs))(r:R (ItS (fun H'=>Rd H' a (.lst xs)) xs) H):U4 (.ref a) H R:=by
 unfold U4;rcases h with h |⟨o,h⟩
 . dsimp only;rw[h];exact r
 . dsimp only;rw[h];exact r
def yV(h:H a=some (.tup xs))(r:R (ItS (fun H'=>H' a=some (.tup xs)) xs) H):U4 (.ref a) H R:=by unfold U4;dsimp only;rw[h];exact r
noncomputable def y6w(K:Frag)(tl:TE):TI:=fun σ H R=>tl σ H fun x H1=>U4 x H1 R
def ve(hl:PE X l tl):PI X tg l (y6w X.K tl):=by
 intro pins s σ H R I h;refine thn (hl pins s σ H _ I h) fun v s1 ⟨x,H1,I1,r1,q1⟩=>?_
 cases x<;>first |exact q1.elim |skip
 rename_i a;cases r1;unfold U4 at q1;dsimp only at q1;have hU:∀xs,Rd H1 a (.lst xs)->R (ItS (fun H'=>Rd H' a (.lst xs)) xs) H1->wpAny (model X.prog X.w) X.A (pyIter (.ref a)) (PIE X pins σ tg R) X.xe s1:=fun xs hq q=>by
  obtain⟨its,rv,p,hz⟩:=I1.list (.inl hq);refine wpAny_pyIter_list p.isList ?_;refine⟨s1.heap.objs.size,[s1.heap.objs.size],_,_,H1,rfl,I1.kept (t':=s1.toks) fun b o e=>τ _ e,(zZ a _).conv ?_ ?_ ?_,⟨_,Ψ _ rfl,rfl,rfl⟩,fun b hb=>?_,q⟩
  . exact fun i H' ⟨h1,h2⟩=>⟨xs,xs[i],.inl h1,by simp[h2]⟩
  . exact fun i H' x eW ⟨h1,h2⟩ ⟨e,y⟩=>⟨e,y xs (.inl h1)⟩
  . exact fun i H' ⟨h1,h2⟩=>⟨xs,.inl h1,h2⟩
  . have e:b=s1.heap.objs.size:=by simpa using hb
    subst e;exact I1.fpOk (ζ _) (I1.hok.fresh (ζ _))
 split at q1
 . rename_i xs e;exact hU xs (.inl e) q1
 . rename_i o xs e;exact hU xs (.inr ⟨o,e⟩) q1
 . rename_i xs e;obtain⟨its,rv,p,hz⟩:=I1.tuple (.of e);refine wpAny_pyIter_tuple (show s1.heap.IsTuple a its.toArray from p) ?_;refine⟨s1.heap.objs.size,[s1.heap.objs.size],_,_,H1,rfl,I1.kept (t':=s1.toks) fun b o e=>τ _ e,(zij a _).conv ?_ ?_ ?_,⟨_,Ψ _ rfl,rfl,rfl⟩,fun b hb=>?_,q1⟩
   . exact fun i H' ⟨h1,h2⟩=>⟨xs,xs[i],.of h1,by simp[h2]⟩
   . exact fun i H' x eW ⟨h1,h2⟩ ⟨e,y⟩=>⟨e,y xs (.of h1)⟩
   . exact fun i H' ⟨h1,h2⟩=>⟨xs,.of h1,h2⟩
   . have e:b=s1.heap.objs.size:=by simpa using hb
     subst e;exact I1.fpOk (ζ _) (I1.hok.fresh (ζ _))
 . exact q1.elim
noncomputable def D9(lo:Int)(n:Nat):List V:=(List.range n).map fun (i:Nat)=>V.int (lo+i)
def Bw(lo:Int)(n:Nat):(D9 lo n).length=n:=by simp[D9]
def Vd(lo:Int)(n i:Nat)(h:i<n):(D9 lo n)[i]?=some (.int (lo+i)):=by simp[D9,h]
def iR1(ta:TA):TI:=fun σ H R=>ta σ H fun vs H1=>match vs with | [.int j]=>(-(2 ^ 62)<=j/\j<2 ^ 62)/\R (ItS (fun _=>True) (D9 0 j.toNat)) H1 |_=>False
def Nf(lo:Int)(n:Nat):(∀i (H:Hp),(ItS (fun _=>True) (D9 lo n)).go i H->(Itr lo n).go i H)/\(∀i H x H',(ItS (fun _=>True) (D9 lo n)).go i H->(Itr lo n).yld i H x H'->(ItS (fun _=>True) (D9 lo n)).yld i H x H') /\
  (∀i (H:Hp),(ItS (fun _=>True) (D9 lo n)).stop i H->(Itr lo n).stop i H):=by
 refine⟨fun i H ⟨_,h⟩=>?_,fun i H x H' ⟨_,h⟩ ⟨e,y⟩=>⟨e,?_⟩,fun i H ⟨_,h⟩=>?_⟩
 . rw[Bw]at h;exact h
 . rw[Bw]at h;rw[y];exact Vd lo n i h
 . rw[Bw]at h;exact h
end
def kc(J:It)(g:TG)(tb:TS)(D:Ends)(σ:St)(H1:Hp):Prop:=∃W:Nat->Nat->St->Hp->Prop,(∃m,W 0 m σ H1)/\∀i m σ H,W i m σ H ->
 (J.stop i H/\D.nx σ H)\/(J.go i H/\∃N:St->Hp->Prop,(∀ag H',N ag H'->∃m',m'<m/\W (i+1) m' ag H')/\∀x H',J.yld i H x H'->g x σ H' fun aR H2=>tb { D with nx:=N,ct:=N,bk:=D.nx } aR H2)
noncomputable def Qq(wi:TI)(g:TG)(tb:TS):TS:=fun D σ H=>wi σ H fun J H1=>kc J g tb D σ H1
def xu(hp:PassesOwn (model X.prog X.w) X.A X.env X.xe)(hc:X.calm=true)(hi:PI X tg iter wi)(hg:PG X tg g)(hb:PSs X body tb)
 (hs:∀x,foldedSetIterable iter X.env x=pure x:=by intro _;rfl):PS X (.For tg iter body [] pos) (Qq wi g tb):=vt hp hc hi hg hb hs
def Same.upd_new(h:H a=none):Same H (upd H a o):=fun b u e=>by rw[d8 (z5 e h)];exact e
def Same.upd_at(s:Same H H1)(h:H a=none):Same H (upd H1 a o):=fun b u e=>by rw[d8 (z5 e h)];exact s b u e
def xt{prog:Program}{w:World}{A:Around}{E:Value->Shared->Prop}{s:Shared}{e it l:Addr}(lO:e≠it)(dy:l≠e)(lP:l≠it){items:Array Value}{i:Nat}{Q:Option Value->Shared->Prop}(hi:i<items.size)
  (he:∃dL,IsEnum s.heap e it i dL) (h1:s.heap.IsListIter it l i) (g1:s.heap.IsList l items)
  (q:∀T ah h' tk,(∃t x,items[i]?=some x/\ah=#[.int i t,x])->s.heap.objs.size<=T->IsTp h' T ah->((∃x,IsEnumOut h' e it ((i:Int)+1) x T)/\h'.IsListIter it l (i+1)/\h'.IsList l items/\T≠e/\T≠it) ->
   (∀c o,c∉[e,it]->s.heap.get? c=some o->h'.get? c=some o)->Q (some (.ref T)) { s with heap:=h',toks:=tk }):wpAny (model prog w) A (pyNext (.ref e)) Q E s:=by
 obtain⟨dL,he⟩:=he
 have gt:∀{c:Addr}{o:Obj},s.heap.get? c=some o->s.heap.objs.size≠c:=fun e z=>absurd (π e) (by rw[z];exact χ _)
 have n1:s.heap.objs.size≠it:=by obtain⟨_,e,_⟩:=h1;exact gt e
 refine wpAny_pyNext_enum_item he h1 g1 (x:=items[i]) (by simp[hi]) lO fun h' r1 r2 r3 _ kp=>?_
 have kl:∀c o,c∉[e,it]->s.heap.get? c=some o->h'.get? c=some o:=fun c o hc e=>by simp only[ee,GI,or_false,not_or]at hc;exact kp c o hc.1 hc.2 e
 exact q s.heap.objs.size #[.int i s.toks,items[i]] h' (s.toks+1) ⟨_,_,by simp[hi],rfl⟩ (ζ _) (.mk' r3) ⟨⟨_,r1⟩,r2,g1.at fun o e=>kp _ o dy lP e,gt he,n1⟩ kl
section
variable {X:Cx}{pins:List (Addr×Obj)}{σ:St}{H:Hp}{s:Shared}
def Inv.turnedT{wr:List Addr}{h':Heap}{tk:Nat}{T:Addr}{xs:List V}{its:List Value}(I:Inv X pins σ H s)(hw:∀b∈wr,o8 X pins H b)(k:∀b o,b∉wr->s.heap.get? b=some o->h'.get? b=some o)
  (hT:s.heap.objs.size<=T) (ht:IsTp h' T its.toArray) (rv:Vals xs its) (hz:xs.length<=sizeLine):Inv X pins σ (upd H T (.tup xs)) { s with heap:=h',toks:=tk }:=by
 have HT:H T=none:=I.hok.fresh hT
 have nw:∀b u,H b=some u->b∉wr:=fun b u e z=>by rw[(hw b z).1]at e;cases e
 have neT:∀b o,s.heap.get? b=some o->b≠T:=fun b o e=>ER (ES (π e) hT)
 refine I.step (g':=s.gens) (d':=s.drawn) (ch:=wr) (fun b hb=>⟨(hw b hb).2.2.2.1,(hw b hb).2.1,(hw b hb).2.2.2.2.1,(hw b hb).2.2.2.2.2⟩) (fun b o _ _ hc e _=>k b o hc e) (fun b o _ _ hc e _=>⟨o.slots,k b o hc e⟩)
  (fun b o _ e n=>by rw[d8 (neT b o e)];exact n) (fun b o hc e=>⟨o,k b o hc e⟩) (fun b ys e=>by rw[d8 (z5 e HT)];exact e) (fun b u ys e=>by rw[d8 (z5 e HT)];exact e)
  (fun b ps e=>⟨#[],by rw[d8 (z5 e HT),e];simp⟩) (fun m hm=>?_) (fun b u e=>?_) I.bare
 . obtain⟨o,es,ep,ho,r⟩:=hm;exact⟨o,es,ep,k _ o (fun z=>(hw _ z).2.1 rfl) ho,r⟩
 . by_cases hb:b=T
   . subst hb;rw[j9]at e;cases e;exact⟨hz,its,rv,ht⟩
   . rw[d8 hb]at e;refine(I.hok b u e).stay (fun c v hc q=>k c v ?_ q) (fun c q=>?_) fun c ys q=>?_
     . rcases hc with z |z
       . rw[z];exact nw b u e
       . exact nw c _ z
     . rw[d8 (z5 q HT)];exact q
     . rw[d8 (z5 q HT)];exact q
end
section
variable {X:Cx}{pins:List (Addr×Obj)}{σ:St}{H:Hp}{s:Shared}
def Inv.turnedN{wr:List Addr}{h':Heap}{tk:Nat}(I:Inv X pins σ H s)(hw:∀b∈wr,o8 X pins H b)(k:∀b o,b∉wr->s.heap.get? b=some o->h'.get? b=some o):Inv X pins σ H { s with heap:=h',toks:=tk }:=by
 have nw:∀b u,H b=some u->b∉wr:=fun b u e z=>by rw[(hw b z).1]at e;cases e
 refine I.step (g':=s.gens) (d':=s.drawn) (ch:=wr) (fun b hb=>⟨(hw b hb).2.2.2.1,(hw b hb).2.1,(hw b hb).2.2.2.2.1,(hw b hb).2.2.2.2.2⟩) (fun b o _ _ hc e _=>k b o hc e) (fun b o _ _ hc e _=>⟨o.slots,k b o hc e⟩)
  (fun b o _ e n=>n) (fun b o hc e=>⟨o,k b o hc e⟩) (fun b ys e=>e) (fun b u ys e=>e) (fun b ps e=>⟨#[],by rw[e];simp⟩) (fun m hm=>?_) (fun b u e=>?_) I.bare
 . obtain⟨o,es,ep,ho,r⟩:=hm;exact⟨o,es,ep,k _ o (fun z=>(hw _ z).2.1 rfl) ho,r⟩
 . refine(I.hok b u e).stay (fun c v hc q=>k c v ?_ q) (fun c q=>q) fun c ys q=>q
   rcases hc with z |z
   . rw[z];exact nw b u e
   . exact nw c _ z
end
def ItP(S:Hp->Prop)(ps:List (V×V)):It:=⟨fun i H=>S H/\i<ps.length,fun i H x H'=>∃T a b,x=.ref T/\H T=none/\H'=upd H T (.tup [a,b])/\ps[i]?=some (a,b),fun i H=>S H/\i=ps.length⟩
def vd:2<=sizeLine:=by rw[HQ];decide
def zH{P:Program}{w:World}{K:Frag}{dr:List Expr}{k:Nat}{pos:Pos}{e it l:Addr}{xs:List V}(lO:e≠it)(dy:l≠e)(lP:l≠it) :
  Turn P w K (.Tuple dr k pos) (ItP (fun H=>Rd H l (.lst xs)) ((D9 0 xs.length).zip xs)) [e,it] e (fun i h=>(∃dL,IsEnum h e it i dL)/\h.IsListIter it l i) where
 mem:=by simp
 obj:=fun i h ⟨⟨dL,he⟩,⟨o1,h1,_,d1⟩⟩ c hc=>by
  have cg:c=e\/c=it:=by simpa using hc
  rcases cg with rfl |rfl
  . exact⟨_,he,fun v z=>by cases z⟩
  . exact⟨o1,h1,fun v z=>by rw[d1]at z;cases z⟩
 keep:=fun i h h' ⟨⟨dL,he⟩,h1⟩ kp=>⟨⟨dL,kp e (by simp) _ he⟩,h1.at fun o z=>kp it (by simp) o z⟩
 item:=by
  intro X hP hw hK hc i pins s σ H E I hf st hg;subst hP hw hK;obtain⟨hS,ay⟩:=hg;obtain⟨he,h1⟩:=st;obtain⟨its,r,p1,z1⟩:=I.list (.inl hS);have W:=WalksT.enumerate (prog:=X.prog) (w:=X.w) (A:=X.A) (I.ok.hd hc) e it l lO dy lP its.toArray;have uf:=r.length;have ug:i<xs.length:=by rw[Ig,Bw]at ay;lia
  have uh:i<its.toArray.size:=by simp only[oF];lia
  refine xt lO dy lP uh he h1 p1.isList fun T ah h' tk ui hT ht hM hk=>⟨.ref T,rfl,?_⟩
  refine W.go dr k pos i T _ _ _ hM fun gM iN nB=>?_
  obtain⟨t,x,hx,rfl⟩:=ui;obtain⟨a,ea⟩:∃a,xs[i]?=some a:=⟨xs[i],by simp⟩;obtain⟨u1,q1,uj⟩:=r.get ea;have eI:its[i]?=some x:=by simpa using hx
  rw[q1]at eI;cases eI;obtain⟨oT,uk,ul,nT,aV⟩:=ht;have rA:IsTp gM T ([.int (i:Nat) t,x]:List Value).toArray:=⟨oT,nB T oT (W.apart i T _ hM) uk,ul,nT,aV⟩;have sub:∀c∈[e,it],o8 X pins H c:=fun c cg=>hf c cg
  have I2:=I.turnedT (tk:=tk) (xs:=[.int (i:Nat),a]) (its:=[.int (i:Nat) t,x]) sub (fun c o sq z=>nB c o sq (hk c o sq z)) hT rA (.cons ⟨_,rfl⟩ (.cons uj .nil)) vd;have HT:H T=none:=I.hok.fresh hT;refine⟨.ref T,upd H T (.tup [.int (i:Nat),a]),I2,rfl,⟨T,.int (i:Nat),a,rfl,HT,rfl,?_⟩,⟨iN.1,iN.2.1⟩,fun c cg=>?_⟩
  . rw[IQ];refine⟨?_,ea⟩;rw[Vd 0 _ _ ug];simp
  . rw[d8]
    . exact(hf c cg).1
    . intro ec;have hh:∃o,s.heap.get? c=some o:=by
       have rB:c=e\/c=it:=by simpa using cg
       obtain⟨dL,gl⟩:=he;obtain⟨o1,g1,_⟩:=h1;rcases rB with z |z<;>subst z
       . exact⟨_,gl⟩
       . exact⟨_,g1⟩
      obtain⟨o,ho⟩:=hh;exact absurd (ES (π ho) hT) (by rw[ec];exact χ _)
 done:=by
  intro X hP hw hK hc i pins s σ H E I hf st hg;subst hP hw hK;obtain⟨hS,rC⟩:=hg;obtain⟨he,h1⟩:=st;obtain⟨its,r,p1,z1⟩:=I.list (.inl hS);have W:=WalksT.enumerate (prog:=X.prog) (w:=X.w) (A:=X.A) (I.ok.hd hc) e it l lO dy lP its.toArray;have uf:=r.length;have hi:its.toArray.size=i:=by rw[Ig,Bw]at rC;simp only[oF];lia
  rw[<-hi]at h1 he;exact W.done s _ _ ⟨he,h1,p1.isList⟩ fun h' tk hk=>⟨rfl,I.turnedN hf hk⟩
 self:=fun A i s Q E st h=>by obtain⟨⟨dL,he⟩,_⟩:=st;exact wpAny_pyIter_enum he h
section
variable {X:Cx}{a:Expr}{ta:TA}{p pos bz:Pos}{dr:List Expr}{k:Nat}
def y2c(ta:TA):TI:=fun σ H R=>ta σ H fun vs H1=>match vs with
 | [.ref l]=>∃xs,Rd H1 l (.lst xs)/\R (ItP (fun H=>Rd H l (.lst xs)) ((D9 0 xs.length).zip xs)) H1
 |_=>False
def xr(hg:Gl X "enumerate")(hm:X.mg "enumerate"=none)(ha:PA X [a] ta)(hs:starEach [a] X.env=[(false,eval a X.env)]:=by rfl) :
  PI X (.Tuple dr k bz) (.Call (.Name "enumerate" p) [a] [] pos) (y2c ta):=by
 intro pins s σ H R I h
 refine Call_ (W8 I hg hm boot_enumerate (IE (thn (ha pos pins s σ H _ I h) fun us s1 ⟨vs,H1,I1,r1,q1⟩=>?_) hs rfl))
 dsimp only at q1
 split at q1
 . rename_i l;obtain⟨xs,e1,q⟩:=q1;obtain⟨u,rfl,ru⟩:=r6 r1;cases ru;obtain⟨CY,DM,p1,_⟩:=I1.list (.inl e1);have sr:l<s1.heap.objs.size:=by obtain⟨o,ho,_⟩:=p1.isList;exact π ho
   refine call_enumerate_list p1.isList fun h' he hi bB hk=>?_
   refine wpAny_pyIter_enum he ⟨s1.heap.objs.size+1,[s1.heap.objs.size+1,s1.heap.objs.size],_,_,H1,rfl,I1.kept (t':=s1.toks) hk,zH (Nat.succ_ne_self _) (ER (HR sr)) (ER sr),⟨⟨_,he⟩,hi⟩,fun c hc=>?_,q⟩;have cg:s1.heap.objs.size<=c:=by
    have:c=s1.heap.objs.size+1\/c=s1.heap.objs.size:=by simpa using hc
    rcases this with z |z<;>rw[z]<;>first |exact Nat.le_add_right _ _ |exact ζ _
   exact I1.fpOk cg (I1.hok.fresh cg)
 . exact q1.elim
end
section
variable {X:Cx}{tg:Expr}{a:Expr}{ta:TA}{p pos:Pos}
def y2d(hg:Gl X "range")(hm:X.mg "range"=none)(ha:PA X [a] ta)(hs:starEach [a] X.env=[(false,eval a X.env)]:=by rfl):PI X tg (.Call (.Name "range" p) [a] [] pos) (iR1 ta):=by
 intro pins s σ H R I h;refine Call_ (W8 I hg hm boot_range (IE (thn (ha pos pins s σ H _ I h) fun us s1 ⟨vs,H1,I1,r1,q1⟩=>?_) hs rfl));dsimp only at q1;split at q1
 . rename_i j;obtain⟨⟨h1,h2⟩,q⟩:=q1;obtain⟨u,rfl,t,rfl⟩:=r6 r1;refine call_range_1 (thn (zh (tg:=tg) (R:=fun J H1=>∃J',(∀i H,J'.go i H->J.go i H)/\(∀i H x H',J'.go i H->J.yld i H x H'->J'.yld i H x H')/\(∀i H,J'.stop i H->J.stop i H)/\R J' H1) I1 (by lia) (by lia) h1 h2 ?_) fun gI s2 h2=>?_)
   . refine⟨_,(Nf 0 (j - 0).toNat).1,(Nf 0 (j - 0).toNat).2.1,(Nf 0 (j - 0).toNat).2.2,?_⟩;simpa using q
   . obtain⟨it,fp,tn,J,H2,e,I2,T,st,hf,J',c1,c2,c3,r⟩:=h2;exact⟨it,fp,tn,J',H2,e,I2,T.conv c1 c2 c3,st,hf,r⟩
 . exact q1.elim
end
def cB1:V->Hp->(List V->Hp->Prop)->Prop:=fun x H R=>R [x] H
def cBT(n:Nat):V->Hp->(List V->Hp->Prop)->Prop:=fun x H R=>match x with
 | .ref a=>(match H a with |some (.tup xs)=>xs.length=n/\R xs H |_=>False)
 |_=>False
section
variable {X:Cx}{sc:Scope}{caps:List Str}{ix:List Nat}{au iter:Expr}{aq:List Expr}{pos px py bz:Pos}{tt:TT}{te:TE}{wi:TI}{x y:Str}{kt:Nat}
def Gv(x:V)(aM cs:St)(H:Hp)(Q:St->Hp->Prop)(hl:aM.length=1)(h:cB1 x H (fun ah H2=>Q (ah.map some++cs) H2)):B7 0 x (aM++cs) H fun aR H2=>(∃ah:List V,ah.length=1/\aR=ah.map some++cs)/\Q aR H2:=by
 match aM,hl with
 | [t],_=>exact⟨⟨[x],rfl,rfl⟩,h⟩
def jZ{K:Frag}(x:V)(aM cs:St)(H:Hp)(Q:St->Hp->Prop)(hl:aM.length=2)(h:cBT 2 x H (fun ah H2=>Q (ah.map some++cs) H2)) :
  Qa K 2 (Ba (B7 0) (Ba (B7 1) Qb)) x (aM++cs) H fun aR H2=>(∃ah:List V,ah.length=2/\aR=ah.map some++cs)/\Q aR H2:=by
 cases x<;>first |exact h.elim |skip
 rename_i a
 unfold cBT at h
 dsimp only at h
 split at h
 . rename_i xs e;obtain⟨hn,h⟩:=h
   match aM,hl,xs,hn with
   | [t,t'],_,[v,v'],_=>exact⟨a,[v,v'],rfl,.of e,rfl,v,[v'],rfl,v',[],rfl,rfl,⟨[v,v'],rfl,rfl⟩,h⟩
 . exact h.elim
def U0(hN:(tgs++caps).Nodup)(hi:(tgs++caps)[i]?=some x)(hx:sc.names.lookup x=some .local)(fp:List Addr)(s:Shared)(H:Hp):PG (j7 X sc (tgs++caps) fp s H) (.Name x px) (B7 i):=
 Lg (X:=j7 X sc (tgs++caps) fp s H) hN hi (.inl (IG hx)) (.inr (IG hx))
def yU(C:CompOk X sc caps ix)(hN:([x]++caps).Nodup)(hx:sc.names.lookup x=some .local)(hi:PI X (.Name x px) iter wi)(ht:∀fp s H,PTs (j7 X sc ([x]++caps) fp s H) aq tt)(he:∀fp s H,PE (j7 X sc ([x]++caps) fp s H) au te)
  (hs:∀x,foldedSetIterable iter X.env x=pure x:=by intro _;rfl):PE X (.ListComp au [⟨.Name x px,iter,aq,0⟩] sc pos) (F8 wi cB1 ix tt te):=
 Vf (tgs:=[x]) C hi (fun fp s H=>U0 hN rfl hx fp s H) Gv ht he hs
def yT{v:Str}{k:Nat}{aZ pv:Pos}(eX:X.N.Nodup)(hk:X.N[k]?=some v)(hv:X.env.scope.names.lookup v=some .local)(C:CompOk X sc caps ix)(hN:([x]++caps).Nodup)(hx:sc.names.lookup x=some .local)(hi:PI X (.Name x px) iter wi)
  (ht:∀fp s H,PTs (j7 X sc ([x]++caps) fp s H) aq tt) (he:∀fp s H,PE (j7 X sc ([x]++caps) fp s H) au te)
  (bZ:swapsWith (.ListComp au [⟨.Name x px,iter,aq,0⟩] sc pos) (some (.Name v pv)) aZ.line X.env=pure true:=by rfl) (hs:∀x,foldedSetIterable iter X.env x=pure x:=by intro _;rfl) :
  PS X (.Assign [.Name v pv] (.ListComp au [⟨.Name x px,iter,aq,0⟩] sc pos) aZ) (J2 (F8 wi cB1 ix tt te) (B7 k)):=
 Ve (tgs:=[x]) eX hk hv C hi (fun fp s H=>U0 hN rfl hx fp s H) Gv ht he bZ hs
def Qp(hc:X.calm=true)(hN:([x,y]++caps).Nodup)(hx:sc.names.lookup x=some .local)(hy:sc.names.lookup y=some .local)(fp:List Addr)(s:Shared)(H:Hp) :
  PG (j7 X sc ([x,y]++caps) fp s H) (.Tuple [.Name x px,.Name y py] kt bz) (Qa X.K 2 (Ba (B7 0) (Ba (B7 1) Qb))):=
 Tf (X:=j7 X sc ([x,y]++caps) fp s H) hc (Mb (U0 hN rfl hx fp s H) (Mb (U0 hN rfl hy fp s H) pgs_nil))
def yS(C:CompOk X sc caps ix)(hN:([x,y]++caps).Nodup)(hx:sc.names.lookup x=some .local)(hy:sc.names.lookup y=some .local)(hi:PI X (.Tuple [.Name x px,.Name y py] kt bz) iter wi)(ht:∀fp s H,PTs (j7 X sc ([x,y]++caps) fp s H) aq tt)
  (he:∀fp s H,PE (j7 X sc ([x,y]++caps) fp s H) au te) (hs:∀x,foldedSetIterable iter X.env x=pure x:=by intro _;rfl):PE X (.ListComp au [⟨.Tuple [.Name x px,.Name y py] kt bz,iter,aq,0⟩] sc pos) (F8 wi (cBT 2) ix tt te):=
 Vf (tgs:=[x,y]) C hi (fun fp s H=>Qp C.calm hN hx hy fp s H) jZ ht he hs
def yR{v:Str}{k:Nat}{aZ pv:Pos}(eX:X.N.Nodup)(hk:X.N[k]?=some v)(hv:X.env.scope.names.lookup v=some .local)(C:CompOk X sc caps ix)(hN:([x,y]++caps).Nodup)(hx:sc.names.lookup x=some .local)(hy:sc.names.lookup y=some .local)
  (hi:PI X (.Tuple [.Name x px,.Name y py] kt bz) iter wi) (ht:∀fp s H,PTs (j7 X sc ([x,y]++caps) fp s H) aq tt) (he:∀fp s H,PE (j7 X sc ([x,y]++caps) fp s H) au te)
  (bZ:swapsWith (.ListComp au [⟨.Tuple [.Name x px,.Name y py] kt bz,iter,aq,0⟩] sc pos) (some (.Name v pv)) aZ.line X.env=pure true:=by rfl) (hs:∀x,foldedSetIterable iter X.env x=pure x:=by intro _;rfl) :
  PS X (.Assign [.Name v pv] (.ListComp au [⟨.Tuple [.Name x px,.Name y py] kt bz,iter,aq,0⟩] sc pos) aZ) (J2 (F8 wi (cBT 2) ix tt te) (B7 k)):=
 Ve (tgs:=[x,y]) eX hk hv C hi (fun fp s H=>Qp C.calm hN hx hy fp s H) jZ ht he bZ hs
noncomputable def Ja(n:Nat)(t:TGs):TG:=fun v σ H Q=>match v with
 | .ref a=>(match H a with |some (.tup xs)=>xs.length=n/\t xs σ H Q |_=>False)
 |_=>False
noncomputable def Sx(t:TG)(u:TGs):TGs:=fun vs σ H Q=>match vs with |v::r=>t v σ H fun ag H'=>u r ag H' Q | []=>False
noncomputable def Qo:TGs:=fun vs σ H Q=>match vs with | []=>Q σ H |_=>False
def PGs.imp(h:PGs X es t)(hi:∀vs σ H Q,t' vs σ H Q->t vs σ H Q):PGs X es t':=fun pins s σ H vs us Q I r q=>h pins s σ H vs us Q I r (hi vs σ H Q q)
def PG.imp(h:PG X e t)(hi:∀v σ H Q,t' v σ H Q->t v σ H Q):PG X e t':=fun pins s σ H v u Q I r q=>h pins s σ H v u Q I r (hi v σ H Q q)
def yQ:PGs X [] Qo:=pgs_nil.imp fun vs σ H Q q=>by
 cases vs with
 |nil=>exact⟨rfl,q⟩
 |cons _ _=>exact q.elim
def zG(h1:PG X e t)(h2:PGs X es u)(hs:(assignEach (e::es) X.env).map (·.2)=assign e X.env::(assignEach es X.env).map (·.2):=by rfl):PGs X (e::es) (Sx t u):=(Mb h1 h2 hs).imp fun vs σ H Q q=>by
 cases vs with
 |nil=>exact q.elim
 |cons v r=>exact⟨v,r,rfl,q⟩
def xq(hc:X.calm=true)(h:PGs X es t)
  (hn:(assignEach es X.env).length=n:=by rfl) (aF:(assignEach es X.env).findIdx? (·.1)=none:=by rfl):PG X (.Tuple es k pos) (Ja n t):=(Tf hc h hn aF).imp fun v σ H Q q=>by
 cases v<;>first |exact q.elim |skip
 rename_i a
 unfold Ja at q
 dsimp only at q
 split at q
 . rename_i xs e;exact⟨a,xs,rfl,.of e,q.1,q.2⟩
 . exact q.elim
end
def jY(a:α)(r:List α):atI (a::r) 0=some a:=S0 (j:=0) rfl
def jX(a b:α)(r:List α):atI (a::b::r) 1=some b:=S0 (j:=1) rfl
section
variable {prog:Program}{w:World}{A:Around}{E:Value->Shared->Prop}{s:Shared}
theorem Wl(aP:t≠it):∀(n i:Nat)(s:Shared)(Q:List Value->Shared->Prop),s.heap.IsListIter it t i->s.heap.IsList t items->i+n<=items.size ->
  (∀h',h'.IsListIter it t (i+n)->Heap.SameBut it s.heap h'->Q ((items.toList.drop i).take n) { s with heap:=h' })->wpAny (model prog w) A (draw (.ref it) n) Q E s
 | 0,i,s,Q,oK,_,_,k=>by show wpAny _ _ (pure []) Q E s;exact ω (by simpa using k s.heap oK (Heap.SameBut.refl ..))
 |n+1,i,s,Q,oK,ht,dy,k=>by
  have ay:i<items.size:=by lia
  show wpAny _ _ (pyNext (.ref it) >>= _) Q E s;refine δ (wpAny_pyNext_list_item oK ht (x:=items[i]) (by simp[ay]) fun g1 oM lQ=>?_);refine δ (FA (Wl aP n (i+1) _ _ oM (ht.extBut lQ.extBut aP) (by lia) fun g2 um uo=>ω ?_));have hd:items.toList.drop i=items[i]::items.toList.drop (i+1):=by simp[Ib,ay]
  have z:=k g2 (by rw[show i+(n+1)=i+1+n by lia];exact um) (lQ.trans uo);rw[hd,List.take_succ_cons]at z;exact z
def zF(hh:A.handled=none)(ht:s.heap.IsList t items)
  (k:∀h',(∀b o,s.heap.get? b=some o->h'.get? b=some o)->Q items.toList { s with heap:=h' }):wpAny (model prog w) A (unpackItems (.ref t) items.size none) Q E s:=by
 have ay:t≠s.heap.objs.size:=by obtain⟨o,ho,_⟩:=ht;exact ER (π ho)
 have dL:∀{b:Addr}{o:Obj},s.heap.get? b=some o->b≠s.heap.objs.size:=fun e=>ER (π e)
 unfold unpackItems
 refine δ ?_
 . unfold notIterableAtAll;refine δ (wpAny_specialOf ht.typeIs slot_list_iter.lookup ?_);refine ω ?_;simp only[EW,FV];refine δ (FA (wpAny_pyIter_list ht ?_));refine δ (FA (Wl ay items.size 0 _ _ ⟨_,Ψ _ rfl,rfl,rfl⟩ (ht.push _) (by lia) fun g1 oM lQ=>?_));have iP:List.take items.size (List.drop 0 items.toList)=items.toList:=by rw[II];exact HL (by simp)
   rw[iP];rw[ψ (by simp)];have uq:g1.IsList t items:=(ht.push _).extBut lQ.extBut ay;refine δ (FA (wpAny_pyNext_list_end hh oM uq (by simp) fun g2 ur=>?_));simp only[Option.isSome_none,EW,FV];exact ω (k g2 fun b o e=>ur b o (dL e) (lQ.extBut b o (dL e) (τ _ e)))
def ziu(hh:A.handled=none)(ht:s.heap.IsList t items)
  (hn:(assignEach dr env).length=items.size) (nM:(assignEach dr env).findIdx? (·.1)=none)
  (h:∀h',(∀b o,s.heap.get? b=some o->h'.get? b=some o)->wpAny (model prog w) A (assignInOrder ((assignEach dr env).map (·.2)) items.toList) Q E { s with heap:=h' }) :
  wpAny (model prog w) A (assign (.Tuple dr x1 pos) env (.ref t)) Q E s:=by
 rw[assign_Tuple]
 refine δ (HG ?_)
 unfold unpack
 rw[hn,nM]
 exact δ (FA (zF hh ht h))
end
section
variable {X:Cx}{pos:Pos}
noncomputable def Ay(n:Nat)(t:TGs):TG:=fun v σ H Q=>match v with
 | .ref a=>(match H a with
  |some (.tup xs)=>xs.length=n/\t xs σ H Q
  |some (.lst xs)=>xs.length=n/\t xs σ H Q
  |_=>False)
 |_=>False
def xn(hc:X.calm=true)(h:PGs X es t)
  (hn:(assignEach es X.env).length=n:=by rfl) (aF:(assignEach es X.env).findIdx? (·.1)=none:=by rfl):PG X (.Tuple es k pos) (Ay n t):=by
 intro pins s σ H v u Q I r hw
 cases v<;>first |exact hw.elim |skip
 rename_i a
 unfold Ay at hw
 dsimp only at hw
 split at hw
 . rename_i xs e;exact xq hc h hn aF pins s σ H (.ref a) u Q I r (by unfold Ja;dsimp only;rw[e];exact hw)
 . rename_i xs e;obtain⟨hl,hw⟩:=hw;cases r;obtain⟨its,rv,ht,hz⟩:=I.list (.of e);refine ziu (I.ok.hd hc) ht.isList (by simp[hn,<-hl,rv.length]) aF fun h' hx=>?_
   exact h pins _ σ H xs _ Q (I.kept (t':=s.toks) hx) (by simpa using rv) hw
 . exact hw.elim
def Gu:List V->Hp->VK->Prop:=fun xs H Q=>match xs with
 | [x,.ty c]=>L9 c=true/\(match M0 H x with |some t=>Q (.bl (K7 t c)) H |none=>False)
 |_=>False
def Hz:List V->Hp->VK->Prop:=fun xs H Q=>match xs with
 | [.ref p]=>∃ns:List Int,E7 H p=some (ns.map V.int)/\Q (.int ns.sum) H
 |_=>False
def Hy:List V->Hp->VK->Prop:=fun xs H Q=>match xs with
 | [.ref p]=>∃bs:List Bool,Rd H p (.lst (bs.map V.bl))/\Q (.bl (bs.all id)) H
 |_=>False
def Hx:List V->Hp->VK->Prop:=fun xs H Q=>match xs with
 | [.ref p]=>∃bs:List Bool,Rd H p (.lst (bs.map V.bl))/\Q (.bl (bs.any id)) H
 |_=>False
def Qn:List V->Hp->VK->Prop:=fun xs H Q=>match xs with | [.int i]=>Q (.int i) H | [.bl k]=>Q (.int (if k then 1 else 0)) H |_=>False
def Hw:List V->Hp->VK->Prop:=fun xs H Q=>match xs with | [.int i,.int j]=>Q (.int (if j > i then j else i)) H |_=>False
def Hv:List V->Hp->VK->Prop:=fun xs H Q=>match xs with | [.int i,.int j]=>Q (.int (if j<i then j else i)) H |_=>False
section
variable {H:Hp}{Q:VK}{p:Addr}{i j:Int}{x:V}{cs:String}
def qZ:Gu [x,.ty cs] H Q=(L9 cs=true/\(match M0 H x with |some t=>Q (.bl (K7 t cs)) H |none=>False)):=rfl
def Vc:Hz [.ref p] H Q=∃ns:List Int,E7 H p=some (ns.map V.int)/\Q (.int ns.sum) H:=rfl
def xm:Hy [.ref p] H Q=∃bs:List Bool,Rd H p (.lst (bs.map V.bl))/\Q (.bl (bs.all id)) H:=rfl
def xk:Hx [.ref p] H Q=∃bs:List Bool,Rd H p (.lst (bs.map V.bl))/\Q (.bl (bs.any id)) H:=rfl
def xj:Hw [.int i,.int j] H Q=Q (.int (if j > i then j else i)) H:=rfl
def xi:Hv [.int i,.int j] H Q=Q (.int (if j<i then j else i)) H:=rfl
end
def y2e:CallR X (.builtin "isinstance") Gu:=yX
def y2f(hc:X.calm=true):CallR X (.builtin "sum") Hz:=zL hc
def Ax(hc:X.calm=true):CallR X (.builtin "all") Hy:=zK hc
def y2g(hc:X.calm=true):CallR X (.builtin "any") Hx:=zJ hc
def Hu:CallR X (.type "int") Qn:=zI
def qY(hc:X.calm=true):CallR X (.builtin "max") Hw:=zis hc
def qX(hc:X.calm=true):CallR X (.builtin "min") Hv:=zit hc
end
inductive NK where
 |i (n:Int)
 |t (ks:List NK)
noncomputable instance:DecidableEq NK:=fun a b=>Classical.propDecidable (a=b)
mutual
noncomputable def NK.dep:NK->Nat
 | .i _=>0
 | .t ks=>Sw ks+1
noncomputable def Sw:List NK->Nat
 | []=>0
 |k::ks=>max k.dep (Sw ks)
end
mutual
noncomputable def NK.hs:NK->Int
 | .i n=>hashInt n
 | .t ks=>reduceHash (Builtin.Tuple.tupleHashOf (jW ks))
noncomputable def jW:List NK->List Int
 | []=>[]
 |k::ks=>k.hs::jW ks
end
def dnE(x:NK×Addr×Value):DictEntry:={ hash:=x.1.hs,key:=.ref x.2.1,val:=x.2.2 }
def dnP(a:Addr)(ks:List (NK×Addr))(xs:List V)(o:Obj)(h:Heap):Prop:=
 h.get? a=some o/\∃(vs:List Value)(es:Array DictEntry)(ep:Nat),Vals xs vs/\ks.length=vs.length/\o.ExactDict/\o.data=.dict es ep/\es.toList=((ks.zip vs).map fun q=>(q.1.1,q.1.2,q.2)).map dnE
mutual
def NKr(H:Hp):NK->V->Prop
 | .i n,v=>v=.int n
 | .t ks,v=>∃a ys,v=.ref a/\H a=some (.tup ys)/\NKrs H ks ys
def NKrs(H:Hp):List NK->List V->Prop
 | [],vs=>vs=[]
 |k::ks,vs=>∃v r,vs=v::r/\NKr H k v/\NKrs H ks r
end
mutual
theorem NKr.mono(st:∀a ys,H a=some (.tup ys)->H' a=some (.tup ys)):∀{k:NK}{v:V},NKr H k v->NKr H' k v
 | .i n,v,p=>by simp only[NKr]at p⊢;exact p
 | .t ks,v,p=>by simp only[NKr]at p⊢;obtain⟨a,ys,e,p1,p2⟩:=p;exact⟨a,ys,e,st _ _ p1,NKrs.mono st p2⟩
theorem NKrs.mono(st:∀a ys,H a=some (.tup ys)->H' a=some (.tup ys)):∀{ks:List NK}{vs:List V},NKrs H ks vs->NKrs H' ks vs
 | [],_,p=>by simp only[NKrs]at p⊢;exact p
 |k::ks,_,p=>by simp only[NKrs]at p⊢;obtain⟨v,r,e,p1,p2⟩:=p;exact⟨v,r,e,NKr.mono st p1,NKrs.mono st p2⟩
end
def KL(K:Frag)(a:Addr)(xs:List V):Prop:=∃(o:Obj)(its:Array Value)(n:Nat),K.lookup a=some o/\o.cls=.type "list"/\o.dict=none/\o.data=.seq its n/\its.size<=sizeLine/\Vals xs its.toList
def XO(K:Frag)(c:String)(a:Addr)(od:Option Addr)(o:HO):Prop:=∃C:Addr,nsIn K mainGlobals (c:Str)=some (some (.ref C))/\o=.ext fun h=>∃ob,h.get? a=some ob/\ob.cls=.ref C/\(∃vs,ob.data=.fields vs)/\ob.dict=od
noncomputable def C4(c:String):List Str:=if c="Fallen" then ["corner"] else if c="Crossed" then ["one","other"] else if c="NotFull" then ["line"] else []
inductive D where
 |non |bl (b:Bool) |int (i:Int) |str (x:Str) |tup (ds:List D) |lst (ds:List D)
 |dk (ks:List Key) (ds:List D) |dt (ks:List (List Key)) (ds:List D) |dn (ks:List NK) (ds:List D) |scr (ns:List Int) |exc (c:String) (fs:List D)
def DN(H:Hp)(a:Addr)(qs:List (NK×Addr)):Prop:=(qs.map (·.1)).Nodup/\(∀q∈qs,NKr H q.1 (.ref q.2)/\q.1.dep<=8)/\(a==sysModules)=false/\qs.length<=sizeLine
def DN.tk(h:DN H a qs)(st:∀a ys,H a=some (.tup ys)->H' a=some (.tup ys)):DN H' a qs:=
 ⟨h.1,fun q hq=>⟨NKr.mono st (h.2.1 q hq).1,(h.2.1 q hq).2⟩,h.2.2⟩
mutual
noncomputable def D.noL:D->Bool
 | .lst _=>false
 | .dk _ _=>false
 | .dt _ _=>false
 | .dn _ _=>false
 | .tup ds=>i3 ds
 |_=>true
noncomputable def i3:List D->Bool
 | []=>true
 |d::ds=>d.noL&&i3 ds
end
mutual
noncomputable def D.pl:D->Bool
 | .dk _ _=>false
 | .dt _ _=>false
 | .dn _ _=>false
 | .scr _=>false
 | .exc _ _=>false
 | .tup ds=>pls ds
 | .lst ds=>pls ds
 |_=>true
noncomputable def pls:List D->Bool
 | []=>true
 |d::ds=>d.pl&&pls ds
end
mutual
def RD(K:Frag)(H:Hp):D->V->Prop
 | .non,v=>v=.non
 | .bl b,v=>v=.bl b
 | .int i,v=>v=.int i
 | .str x,v=>v=.str x
 | .tup ds,v=>∃a xs,v=.ref a/\H a=some (.tup xs)/\RDs K H ds xs
 | .lst ds,v=>∃a xs,v=.ref a/\H a=some (.lst xs)/\RDs K H ds xs
 | .dk ks ds,v=>∃a xs,v=.ref a/\H a=some (.dK (ks.zip xs))/\ks.length=xs.length/\RDs K H ds xs
 | .dt ks ds,v=>∃a xs,v=.ref a/\H a=some (.dT (ks.zip xs))/\ks.length=xs.length/\RDs K H ds xs
 | .dn ks ds,v=>∃a qs xs o,v=.ref a/\H a=some (.ext (dnP a qs xs o))/\qs.map (·.1)=ks/\DN H a qs/\RDs K H ds xs
 | .scr ns,v=>∃a,v=.ref a/\((∃o,H a=some (.frz o (.lst (ns.map V.int))))\/KL K a (ns.map V.int))
 | .exc c fs,v=>∃a od o,v=.ref a/\XO K c a od o/\H a=some o/\(fs=[]\/∃(dx:Addr)(vs:List V)(ob:Obj),od=some dx/\H dx=some (.frz ob (.xd ((C4 c).zip vs)))/\(i3 fs=true/\pls fs=true)/\RDs K H fs vs)
def RDs(K:Frag)(H:Hp):List D->List V->Prop
 | [],xs=>xs=[]
 |d::ds,xs=>∃x r,xs=x::r/\RD K H d x/\RDs K H ds r
end
def D.shal:D->Bool
 | .lst ds=>i3 ds
 | .dk _ ds=>i3 ds
 | .dt _ ds=>i3 ds
 | .dn _ ds=>i3 ds
 |d=>d.noL
def Imm:HO->Prop
 | .tup _=>True
 | .frz _ _=>True
 | .ext φ=>∀a qs xs o,φ≠dnP a qs xs o
 |_=>False
def XO.imm{K:Frag}{c:String}{a:Addr}{od:Option Addr}{o:HO}(h:XO K c a od o):Imm o:=by
 obtain⟨C,_,rfl⟩:=h;intro b qs xs o0 e;obtain⟨ob,ci⟩:∃ob:Obj,ob={ cls:=.ref C,dict:=od,data:=.fields #[] }:=⟨_,rfl⟩;have hg:∀(i:Nat)(o:Obj),({ objs:=Array.replicate (a+1) ob }:Heap).get? i=some o->o=ob:=fun i o q=>by
  by_cases hi:i<a+1
  . have z:({ objs:=Array.replicate (a+1) ob }:Heap).get? i=some ob:=by
     unfold Heap.get?
     rw[IX,ξ hi,ci]
    rw[z]at q;cases q;rfl
  . unfold Heap.get? at q;rw[IX,ψ hi]at q;cases q
 have h1:(fun h:Heap=>∃ob,h.get? a=some ob/\ob.cls=.ref C/\(∃vs,ob.data=.fields vs)/\ob.dict=od) { objs:=Array.replicate (a+1) ob }:=by refine⟨ob,?_,by rw[ci],⟨#[],by rw[ci]⟩,by rw[ci]⟩;unfold Heap.get?;rw[IX,ξ (Nat.lt_succ_self a),ci]
 rw[e]at h1;obtain⟨g,vs,es,ep,_,_,_,d,_⟩:=h1;rw[hg _ _ g,ci]at d;cases d
def TK(H H':Hp):Prop:=∀a o,Imm o->H a=some o->H' a=some o
section
variable {K:Frag}{H H':Hp}
mutual
theorem RD.tk(hs:TK H H'):∀{d:D}{v:V},d.noL=true->RD K H d v->RD K H' d v
 | .non,_,_,h=>by simp only[RD]at h⊢;exact h
 | .bl _,_,_,h=>by simp only[RD]at h⊢;exact h
 | .int _,_,_,h=>by simp only[RD]at h⊢;exact h
 | .str _,_,_,h=>by simp only[RD]at h⊢;exact h
 | .tup ds,_,n,h=>by simp only[RD]at h⊢;obtain⟨a,xs,e,h1,h2⟩:=h;exact⟨a,xs,e,hs _ _ trivial h1,RDs.tk hs (by simpa only [D.noL] using n) h2⟩
 | .lst ds,_,n,h=>by simp[D.noL]at n
 | .dk _ ds,_,n,h=>by simp[D.noL]at n
 | .dt _ ds,_,n,h=>by simp[D.noL]at n
 | .dn _ ds,_,n,h=>by simp[D.noL]at n
 | .exc c fs,_,n,h=>by
  simp only[RD]at h⊢;obtain⟨a,od,o,e,h1,h2,h3⟩:=h;refine⟨a,od,o,e,h1,hs _ _ h1.imm h2,?_⟩;rcases h3 with h3 |⟨dx,xs,ob,q1,q2,q3,q4⟩
  . exact .inl h3
  . exact .inr ⟨dx,xs,ob,q1,hs _ _ trivial q2,q3,RDs.tk hs q3.1 q4⟩
 | .scr ns,_,n,h=>by
  simp only[RD]at h⊢;obtain⟨a,e,h1⟩:=h;refine⟨a,e,?_⟩;rcases h1 with⟨o,h1⟩ |h1
  . exact .inl ⟨o,hs _ _ trivial h1⟩
  . exact .inr h1
theorem RDs.tk(hs:TK H H'):∀{ds:List D}{xs:List V},i3 ds=true->RDs K H ds xs->RDs K H' ds xs
 | [],_,_,h=>by simp only[RDs]at h⊢;exact h
 |d::ds,_,n,h=>by simp only[RDs]at h⊢;simp only[i3,gq]at n;obtain⟨x,r,e,h1,h2⟩:=h;exact⟨x,r,e,RD.tk hs n.1 h1,RDs.tk hs n.2 h2⟩
end
mutual
theorem RD.mono(hs:Same H H'):∀{d:D}{v:V},RD K H d v->RD K H' d v
 | .non,_,h=>by simp only[RD]at h⊢;exact h
 | .bl _,_,h=>by simp only[RD]at h⊢;exact h
 | .int _,_,h=>by simp only[RD]at h⊢;exact h
 | .str _,_,h=>by simp only[RD]at h⊢;exact h
 | .tup ds,_,h=>by simp only[RD]at h⊢;obtain⟨a,xs,e,h1,h2⟩:=h;exact⟨a,xs,e,hs _ _ h1,RDs.mono hs h2⟩
 | .lst ds,_,h=>by simp only[RD]at h⊢;obtain⟨a,xs,e,h1,h2⟩:=h;exact⟨a,xs,e,hs _ _ h1,RDs.mono hs h2⟩
 | .dk _ ds,_,h=>by simp only[RD]at h⊢;obtain⟨a,xs,e,h1,hl,h2⟩:=h;exact⟨a,xs,e,hs _ _ h1,hl,RDs.mono hs h2⟩
 | .dn _ ds,_,h=>by simp only[RD]at h⊢;obtain⟨a,qs,xs,o,e,h1,hk,hd,h2⟩:=h;exact⟨a,qs,xs,o,e,hs _ _ h1,hk,hd.tk fun b ys q=>hs _ _ q,RDs.mono hs h2⟩
 | .dt _ ds,_,h=>by simp only[RD]at h⊢;obtain⟨a,xs,e,h1,hl,h2⟩:=h;exact⟨a,xs,e,hs _ _ h1,hl,RDs.mono hs h2⟩
 | .exc c fs,_,h=>by
  simp only[RD]at h⊢;obtain⟨a,od,o,e,h1,h2,h3⟩:=h;refine⟨a,od,o,e,h1,hs _ _ h2,?_⟩;rcases h3 with h3 |⟨dx,xs,ob,q1,q2,q3,q4⟩
  . exact .inl h3
  . exact .inr ⟨dx,xs,ob,q1,hs _ _ q2,q3,RDs.mono hs q4⟩
 | .scr ns,_,h=>by
  simp only[RD]at h⊢;obtain⟨a,e,h1⟩:=h;refine⟨a,e,?_⟩;rcases h1 with⟨o,h1⟩ |h1
  . exact .inl ⟨o,hs _ _ h1⟩
  . exact .inr h1
theorem RDs.mono(hs:Same H H'):∀{ds:List D}{xs:List V},RDs K H ds xs->RDs K H' ds xs
 | [],_,h=>by simp only[RDs]at h⊢;exact h
 |d::ds,_,h=>by simp only[RDs]at h⊢;obtain⟨x,r,e,h1,h2⟩:=h;exact⟨x,r,e,RD.mono hs h1,RDs.mono hs h2⟩
end
theorem RDs.length:∀{ds:List D}{xs:List V},RDs K H ds xs->ds.length=xs.length
 | [],_,h=>by simp only[RDs]at h;subst h;rfl
 |d::ds,_,h=>by simp only[RDs]at h;obtain⟨x,r,rfl,_,h2⟩:=h;simp[RDs.length h2]
theorem RDs.get:∀{ds:List D}{xs:List V}{i:Nat}{x:V},RDs K H ds xs->xs[i]?=some x->∃d,ds[i]?=some d/\RD K H d x
 | [],_,i,x,h,e=>by simp only[RDs]at h;subst h;simp at e
 |d::ds,_,i,x,h,e=>by
  simp only[RDs]at h;obtain⟨y,r,rfl,h1,h2⟩:=h;cases i with
  |zero=>simp at e;subst e;exact⟨d,rfl,h1⟩
  |succ i=>simp at e;obtain⟨d',e1,e2⟩:=RDs.get h2 e;exact⟨d',by simpa using e1,e2⟩
theorem RDs.get':∀{ds:List D}{xs:List V}{i:Nat}{d:D},RDs K H ds xs->ds[i]?=some d->∃x,xs[i]?=some x/\RD K H d x
 | [],_,i,d,h,e=>by simp at e
 |d'::ds,_,i,d,h,e=>by
  simp only[RDs]at h;obtain⟨y,r,rfl,h1,h2⟩:=h;cases i with
  |zero=>simp at e;subst e;exact⟨y,rfl,h1⟩
  |succ i=>simp at e;obtain⟨x',e1,e2⟩:=RDs.get' h2 e;exact⟨x',by simpa using e1,e2⟩
theorem RDs.append:∀{ds es:List D}{xs ys:List V},RDs K H ds xs->RDs K H es ys->RDs K H (ds++es) (xs++ys)
 | [],_,_,_,h,h'=>by simp only[RDs]at h;subst h;exact h'
 |d::ds,es,_,ys,h,h'=>by simp only[RDs]at h;obtain⟨x,r,rfl,h1,h2⟩:=h;simp only[List.cons_append,RDs];exact⟨x,r++ys,rfl,h1,RDs.append h2 h'⟩
def RDs.nil:RDs K H [] []:=by simp only[RDs]
def RDs.cons(h:RD K H d x)(h':RDs K H ds xs):RDs K H (d::ds) (x::xs):=by simp only[RDs];exact⟨x,xs,rfl,h,h'⟩
def RDs.one(h:RD K H d x):RDs K H [d] [x]:=.cons h .nil
theorem RDs.take:∀{ds:List D}{xs:List V}(n:Nat),RDs K H ds xs->RDs K H (ds.take n) (xs.take n)
 |_,_,0,_=>by simp[RDs]
 | [],_,n+1,h=>by simp only[RDs]at h;subst h;simp[RDs]
 |d::ds,_,n+1,h=>by simp only[RDs]at h;obtain⟨x,r,rfl,h1,h2⟩:=h;simp only[List.take_succ_cons];exact .cons h1 (RDs.take n h2)
theorem RDs.drop:∀{ds:List D}{xs:List V}(n:Nat),RDs K H ds xs->RDs K H (ds.drop n) (xs.drop n)
 |_,_,0,h=>h
 | [],_,n+1,h=>by simp only[RDs]at h;subst h;simp[RDs]
 |d::ds,_,n+1,h=>by simp only[RDs]at h;obtain⟨x,r,rfl,h1,h2⟩:=h;exact RDs.drop n h2
theorem RDs.ofInts:∀(ns:List Int),RDs K H (ns.map D.int) (ns.map V.int)
 | []=>by simp only[List.map,RDs]
 |n::ns=>by simp only[List.map];exact RDs.cons (by simp only[RD]) (RDs.ofInts ns)
end
mutual
noncomputable def eqD:D->D->Bool
 | .non,.non=>true
 | .bl a,.bl b=>a==b
 | .bl a,.int j=>(if a then 1 else 0)==j
 | .int i,.bl b=>i==(if b then 1 else 0)
 | .int i,.int j=>i==j
 | .str a,.str b=>a==b
 | .tup ds,.tup es=>v7 ds es
 | .lst ds,.lst es=>v7 ds es
 |_,_=>false
noncomputable def v7:List D->List D->Bool
 | [],[]=>true
 |d::ds,e::es=>eqD d e&&v7 ds es
 |_,_=>false
end
mutual
noncomputable def D.dep:D->Nat
 | .tup ds=>l7 ds+1
 | .lst ds=>l7 ds+1
 |_=>0
noncomputable def l7:List D->Nat
 | []=>0
 |d::ds=>max d.dep (l7 ds)
end
mutual
theorem Lz:∀d:D,d.pl=true->eqD d d=true
 | .non,_=>rfl
 | .bl b,_=>by simp[eqD]
 | .int b,_=>by simp[eqD]
 | .str b,_=>by simp[eqD]
 | .tup ds,h=>by simp only[eqD];exact Mq ds (by simpa only [D.pl] using h)
 | .lst ds,h=>by simp only[eqD];exact Mq ds (by simpa only [D.pl] using h)
 | .dk _ _,h=>by simp[D.pl]at h
 | .dt _ _,h=>by simp[D.pl]at h
 | .dn _ _,h=>by simp[D.pl]at h
 | .scr _,h=>by simp[D.pl]at h
 | .exc _ _,h=>by simp[D.pl]at h
theorem Mq:∀ds:List D,pls ds=true->v7 ds ds=true
 | [],_=>rfl
 |d::ds,h=>by simp only[pls,gq]at h;simp only[v7,Lz d h.1,Mq ds h.2,GJ]
end
mutual
theorem RD.inj{K:Frag}{H:Hp}:∀{d e:D}{v:V},d.pl=true->e.pl=true->RD K H d v->RD K H e v->d=e
 | .non,e,v,_,p,h,h'=>by simp only[RD]at h;subst h;cases e<;>simp only[RD]at h'<;>first | (exfalso;simp[D.pl]at p;done) |rfl | (cases h';done) | (obtain⟨a,xs,z,_⟩:=h';cases z)
 | .bl b,e,v,_,p,h,h'=>by simp only[RD]at h;subst h;cases e<;>simp only[RD]at h'<;>first | (exfalso;simp[D.pl]at p;done) | (cases h';rfl) | (cases h';done) | (obtain⟨a,xs,z,_⟩:=h';cases z)
 | .int b,e,v,_,p,h,h'=>by simp only[RD]at h;subst h;cases e<;>simp only[RD]at h'<;>first | (exfalso;simp[D.pl]at p;done) | (cases h';rfl) | (cases h';done) | (obtain⟨a,xs,z,_⟩:=h';cases z)
 | .str b,e,v,_,p,h,h'=>by simp only[RD]at h;subst h;cases e<;>simp only[RD]at h'<;>first | (exfalso;simp[D.pl]at p;done) | (cases h';rfl) | (cases h';done) | (obtain⟨a,xs,z,_⟩:=h';cases z)
 | .dk _ _,e,v,p,_,h,h'=>by simp[D.pl]at p
 | .dt _ _,e,v,p,_,h,h'=>by simp[D.pl]at p
 | .dn _ _,e,v,p,_,h,h'=>by simp[D.pl]at p
 | .scr _,e,v,p,_,h,h'=>by simp[D.pl]at p
 | .exc _ _,e,v,p,_,h,h'=>by simp[D.pl]at p
 | .tup ds,e,v,p,p',h,h'=>by
  simp only[RD]at h;obtain⟨a,xs,rfl,h1,h2⟩:=h;cases e<;>simp only[RD]at h'
  case tup es=>
   obtain⟨b,ys,z,h3,h4⟩:=h'
   cases z
   rw[h1]at h3;cases h3
   rw[RDs.inj (by simpa only [D.pl] using p) (by simpa only [D.pl] using p') h2 h4]
  case lst es=>
   obtain⟨b,ys,z,h3,h4⟩:=h'
   cases z
   rw[h1]at h3;cases h3
  all_goals first | (exfalso;simp[D.pl]at p';done) |cases h'
 | .lst ds,e,v,p,p',h,h'=>by
  simp only[RD]at h;obtain⟨a,xs,rfl,h1,h2⟩:=h;cases e<;>simp only[RD]at h'
  case tup es=>
   obtain⟨b,ys,z,h3,h4⟩:=h'
   cases z
   rw[h1]at h3;cases h3
  case lst es=>
   obtain⟨b,ys,z,h3,h4⟩:=h'
   cases z
   rw[h1]at h3;cases h3
   rw[RDs.inj (by simpa only [D.pl] using p) (by simpa only [D.pl] using p') h2 h4]
  all_goals first | (exfalso;simp[D.pl]at p';done) |cases h'
theorem RDs.inj{K:Frag}{H:Hp}:∀{ds es:List D}{xs:List V},pls ds=true->pls es=true->RDs K H ds xs->RDs K H es xs->ds=es
 | [],es,xs,_,_,h,h'=>by
  simp only[RDs]at h;subst h;cases es<;>simp only[RDs]at h'
  . rfl
  . obtain⟨x,r,z,_⟩:=h';cases z
 |d::ds,es,xs,p,p',h,h'=>by
  simp only[RDs]at h;obtain⟨x,r,rfl,h1,h2⟩:=h;simp only[pls,gq]at p;cases es with
  |nil=>simp only[RDs]at h';cases h'
  |cons e es=>
   simp only[RDs]at h'
   obtain⟨y,r',z,h3,h4⟩:=h'
   cases z
   simp only[pls,gq]at p'
   rw[RD.inj p.1 p'.1 h1 h3,RDs.inj p.2 p'.2 h2 h4]
end
theorem Ld:∀{ds:List D}{d:D},pls ds=true->d∈ds->d.pl=true
 |e::ds,d,h,m=>by
  simp only[pls,gq]at h;rcases ee.mp m with rfl |m
  . exact h.1
  . exact Ld h.2 m
theorem Ly:∀{ds:List D}{d:D},d∈ds->d.dep<=l7 ds
 |d'::ds,d,h=>by
  simp only[l7];rcases ee.mp h with rfl |h
  . lia
  . have:=Ly h;lia
theorem Lx:∀{ds es:List D},ds.length=es.length->v7 ds es=(List.range ds.length).all fun j=>eqD (ds.getD j .non) (es.getD j .non)
 | [],[],_=>rfl
 | [],_::_,h=>by simp at h
 |_::_,[],h=>by simp at h
 |d::ds,e::es,h=>by simp only[v7,gV];rw[Lx (by simpa using h),List.range_succ_eq_map,List.all_cons,List.all_map];rfl
theorem Lw:∀{ds es:List D},ds.length≠es.length->v7 ds es=false
 | [],[],h=>absurd rfl h
 | [],_::_,_=>rfl
 |_::_,[],_=>rfl
 |d::ds,e::es,h=>by simp only[v7];rw[Lw (by intro z;exact h (by simp[z])),Iq]
section
variable {X:Cx}{pins:List (Addr×Obj)}{σ:St}{H:Hp}{s:Shared}
def Inv.tupA(I:Inv X pins σ H s)(h:H a=some (.tup xs)):∃its:List Value,Vals xs its/\s.heap.IsTuple a its.toArray:=by obtain⟨its,r,t,_⟩:=I.tuple (.of h);exact⟨its,r,t⟩
def Inv.lstA(I:Inv X pins σ H s)(h:H a=some (.lst xs)):∃its:List Value,Vals xs its/\s.heap.IsList a its.toArray:=by obtain⟨its,r,t,_⟩:=I.list (.of h);exact⟨its,r,t.isList⟩
inductive Shp (X:Cx) (H:Hp) (s:Shared):D->V->Value->Prop
 |non:Shp X H s .non .non .none
 |bl (b:Bool):Shp X H s (.bl b) (.bl b) (.bool b)
 |int (i:Int) (t:Tok):Shp X H s (.int i) (.int i) (.int i t)
 |str (c:Str) (t:Tok):Shp X H s (.str c) (.str c) (.str c t)
 |tup {ds:List D} {a:Addr} {xs:List V} {its:List Value} (p:pls ds=true) (h:H a=some (.tup xs)) (q:RDs X.K H ds xs) (r:Vals xs its) (t:s.heap.IsTuple a its.toArray):Shp X H s (.tup ds) (.ref a) (.ref a)
 |lst {ds:List D} {a:Addr} {xs:List V} {its:List Value} (p:pls ds=true) (h:H a=some (.lst xs)) (q:RDs X.K H ds xs) (r:Vals xs its) (t:s.heap.IsList a its.toArray):Shp X H s (.lst ds) (.ref a) (.ref a)
def shp(I:Inv X pins σ H s)(p:d.pl=true)(h:RD X.K H d x)(r:RelV x u):Shp X H s d x u:=by
 cases d<;>simp only[RD]at h<;>first | (exfalso;simp[D.pl]at p;done) |skip
 . subst h;cases r;exact .non
 . subst h;cases r;exact .bl _
 . subst h;obtain⟨t,rfl⟩:=r;exact .int _ _
 . subst h;obtain⟨t,rfl⟩:=r;exact .str _ _
 . obtain⟨a,xs,rfl,h1,h2⟩:=h;cases r;obtain⟨its,v,t⟩:=I.tupA h1;exact .tup (by simpa only [D.pl] using p) h1 h2 v t
 . obtain⟨a,xs,rfl,h1,h2⟩:=h;cases r;obtain⟨its,v,t⟩:=I.lstA h1;exact .lst (by simpa only [D.pl] using p) h1 h2 v t
def Py(X:Cx)(H:Hp)(s:Shared)(A:Around)(n:Nat):Prop:=∀{d e:D}{x y:V}{u v:Value},d.pl=true->e.pl=true->d.dep<=n->RD X.K H d x->RD X.K H e y->RelV x u->RelV y v->SeqAt.EqAt A s u v (eqD d e)
def Vb(ih:Py X H s A n)(pd:pls ds=true)(pe:pls es=true)(ut:l7 ds<=n)(iA:RDs X.K H ds xs)(eJ:RDs X.K H es ys)(r:Vals xs its)(r2:Vals ys aW)(j:Nat)
  (h1:j<its.toArray.size) (h2:j<aW.toArray.size):SeqAt.EqAt A s its.toArray[j] aW.toArray[j] (eqD (ds.getD j .non) (es.getD j .non)):=by
 have oN:j<its.length:=by simpa using h1
 have uu:j<aW.length:=by simpa using h2
 have l1:=r.length
 have l2:=r2.length
 obtain⟨u1,e1,q1⟩:=r.get (i:=j) (x:=xs[j]'(by lia)) (by simp)
 obtain⟨u2,e2,q2⟩:=r2.get (i:=j) (x:=ys[j]'(by lia)) (by simp)
 obtain⟨d1,g1,w1⟩:=iA.get (i:=j) (x:=xs[j]'(by lia)) (by simp)
 obtain⟨d2,g2,w2⟩:=eJ.get (i:=j) (x:=ys[j]'(by lia)) (by simp)
 have ea:its.toArray[j]=u1:=by rw[ET oN]at e1;simpa using e1
 have eb:aW.toArray[j]=u2:=by rw[ET uu]at e2;simpa using e2
 have ga:ds.getD j .non=d1:=by rw[ro,g1];rfl
 have gb:es.getD j .non=d2:=by rw[ro,g2];rfl
 rw[ea,eb,ga,gb]
 exact ih (Ld pd (FP g1)) (Ld pe (FP g2)) (EZ (Ly (FP g1)) ut) w1 w2 q1 q2
def xh(iA:RDs X.K H ds xs)(eJ:RDs X.K H es ys)(r:Vals xs its)(r2:Vals ys aW) :
  ((List.range (min its.toArray.size aW.toArray.size)).all (fun j=>eqD (ds.getD j .non) (es.getD j .non))&&its.toArray.size==aW.toArray.size)=v7 ds es:=by
 have lx:=iA.length;have ly:=eJ.length;have l1:=r.length;have l2:=r2.length
 simp only[oF]
 by_cases hl:ds.length=es.length
 . rw[Lx hl];have:its.length=aW.length:=by lia
   rw[this,Nat.min_self,show aW.length=ds.length by lia];simp
 . rw[Lw hl];have:(its.length==aW.length)=false:=by simp;lia
   rw[this,Iq]
def xg(iA:RDs X.K H ds xs)(eJ:RDs X.K H es ys)(r:Vals xs its)(r2:Vals ys aW)(hl:ds.length=es.length) :
  ((List.range its.toArray.size).all fun j=>eqD (ds.getD j .non) (es.getD j .non))=v7 ds es:=by
 have lx:=iA.length;have ly:=eJ.length;have l1:=r.length;have l2:=r2.length
 rw[Lx hl,oF,show its.length=ds.length by lia]
def jV(hu:A.units<cLine)(ih:Py X H s A.in1 n)(hn:d.dep<=n+1)(sx:Shp X H s d x u)(sy:Shp X H s e y v):SeqAt.RcAt A s u v (eqD d e)/\SeqAt.RcNeAt A s u v (!eqD d e):=by
 cases sx with
 |non=>cases sy with
  |non=>exact⟨.none_none,.none_none⟩
  |bl _=>exact⟨.none_bool _,.none_bool _⟩
  |int _ _=>exact⟨.none_int _ _,.none_int _ _⟩
  |str _ _=>exact⟨.none_str _ _,.none_str _ _⟩
  |tup p2 h2 q2 r2 t2=>exact⟨.none_tuple t2 hu,.none_tuple t2 hu⟩
  |lst p2 h2 q2 r2 t2=>exact⟨.none_list t2 hu,.none_list t2 hu⟩
 |bl _=>cases sy with
  |non=>exact⟨.bool_none _,.bool_none _⟩
  |bl _=>exact⟨.bool_bool _ _,.bool_bool _ _⟩
  |int _ _=>exact⟨.bool_int _ _ _,.bool_int _ _ _⟩
  |str _ _=>exact⟨.bool_str _ _ _,.bool_str _ _ _⟩
  |tup p2 h2 q2 r2 t2=>exact⟨.bool_tuple _ t2 hu,.bool_tuple _ t2 hu⟩
  |lst p2 h2 q2 r2 t2=>exact⟨.bool_list _ t2 hu,.bool_list _ t2 hu⟩
 |int _ _=>cases sy with
  |non=>exact⟨.int_none _ _,.int_none _ _⟩
  |bl _=>exact⟨.int_bool _ _ _,.int_bool _ _ _⟩
  |int _ _=>exact⟨.int_int _ _ _ _,.int_int _ _ _ _⟩
  |str _ _=>exact⟨.int_str _ _ _ _,.int_str _ _ _ _⟩
  |tup p2 h2 q2 r2 t2=>exact⟨.int_tuple _ _ t2 hu,.int_tuple _ _ t2 hu⟩
  |lst p2 h2 q2 r2 t2=>exact⟨.int_list _ _ t2 hu,.int_list _ _ t2 hu⟩
 |str _ _=>cases sy with
  |non=>exact⟨.str_none _ _,.str_none _ _⟩
  |bl _=>exact⟨.str_bool _ _ _,.str_bool _ _ _⟩
  |int _ _=>exact⟨.str_int _ _ _ _,.str_int _ _ _ _⟩
  |str _ _=>exact⟨.str_str _ _ _ _,.str_str _ _ _ _⟩
  |tup p2 h2 q2 r2 t2=>exact⟨.str_tuple _ _ t2 hu,.str_tuple _ _ t2 hu⟩
  |lst p2 h2 q2 r2 t2=>exact⟨.str_list _ _ t2 hu,.str_list _ _ t2 hu⟩
 |tup p h q r t=>cases sy with
  |non=>exact⟨.tuple_none t hu,.tuple_none t hu⟩
  |bl _=>exact⟨.tuple_bool _ t hu,.tuple_bool _ t hu⟩
  |int _ _=>exact⟨.tuple_int _ _ t hu,.tuple_int _ _ t hu⟩
  |str _ _=>exact⟨.tuple_str _ _ t hu,.tuple_str _ _ t hu⟩
  |tup p2 h2 q2 r2 t2 => 
   simp only[D.dep]at hn
   have z:=Vb ih p p2 (Nat.le_of_succ_le_succ hn) q q2 r r2
   simp only[eqD]
   rw[<-xh q q2 r r2]
   exact⟨.tuples t t2 hu z,.tuples t t2 hu z⟩
  |lst p2 h2 q2 r2 t2=>exact⟨.tuple_list t t2 hu,.tuple_list t t2 hu⟩
 |lst p h q r t=>cases sy with
  |non=>exact⟨.list_none t hu,.list_none t hu⟩
  |bl _=>exact⟨.list_bool _ t hu,.list_bool _ t hu⟩
  |int _ _=>exact⟨.list_int _ _ t hu,.list_int _ _ t hu⟩
  |str _ _=>exact⟨.list_str _ _ t hu,.list_str _ _ t hu⟩
  |tup p2 h2 q2 r2 t2=>exact⟨.list_tuple t t2 hu,.list_tuple t t2 hu⟩
  |lst p2 h2 q2 r2 t2 => 
   rename_i ds _ xs its es _ ys aW
   simp only[D.dep]at hn
   have z:=Vb ih p p2 (Nat.le_of_succ_le_succ hn) q q2 r r2
   have lx:=q.length;have ly:=q2.length;have l1:=r.length;have l2:=r2.length
   simp only[eqD]
   by_cases hl:ds.length=es.length
   . have bB:its.toArray.size=aW.toArray.size:=by simp;lia
     rw[<-xg q q2 r r2 hl];exact⟨.lists t t2 bB hu z,.lists t t2 bB hu z⟩
   . have bB:(its.toArray.size != aW.toArray.size)=true:=by simp;lia
     rw[Lw hl];exact⟨.lists_lengths t t2 bB hu,.lists_lengths t t2 bB hu⟩
def Du(I:Inv X pins σ H s):∀(n:Nat){A:Around}{d e:D}{x y:V}{u v:Value},d.pl=true->e.pl=true->d.dep<=n->A.units+n<cLine->RD X.K H d x->RD X.K H e y->RelV x u->RelV y v->SeqAt.EqAt A s u v (eqD d e):=by
 have key:∀(n:Nat){A:Around}{d e:D}{x y:V}{u v:Value},A.units<cLine->(∀m,m+1=n->Py X H s A.in1 m)->d.pl=true->e.pl=true->d.dep<=n->RD X.K H d x->RD X.K H e y->RelV x u->RelV y v->SeqAt.EqAt A s u v (eqD d e):=by
  intro n A d e x y u v hu ih mL lR hn hx hy ru rv;have sx:=shp I mL hx ru;have sy:=shp I lR hy rv;have dH:∀{a b:Addr},u=.ref a->v=.ref b->x=.ref a->y=.ref b->1<=d.dep->SeqAt.EqAt A s u v (eqD d e):=fun {a b} eu ev ex ey h1=>by
   subst eu ev ex ey;by_cases bA:a=b
   . subst bA;rw[RD.inj mL lR hx hy,Lz _ lR];exact .same _
   . exact .of_refs bA (jV (n:=n - 1) hu (ih (n - 1) (by lia)) (by lia) sx sy).1
  cases sx with
  |non=>cases sy with
   |non=>exact .same _
   |bl _=>exact .none_bool _
   |int _ _=>exact .none_int _ _
   |str _ _=>exact .none_str _ _
   |tup p2 h2 q2 r2 t2=>exact .none_tuple t2 hu
   |lst p2 h2 q2 r2 t2=>exact .none_list t2 hu
  |bl _=>cases sy with
   |non=>exact .bool_none _
   |bl _=>exact .bool_bool _ _
   |int _ _=>exact .bool_int _ _ _
   |str _ _=>exact .bool_str _ _ _
   |tup p2 h2 q2 r2 t2=>exact .bool_tuple _ t2 hu
   |lst p2 h2 q2 r2 t2=>exact .bool_list _ t2 hu
  |int _ _=>cases sy with
   |non=>exact .int_none _ _
   |bl _=>exact .int_bool _ _ _
   |int _ _=>exact .int_int _ _ _ _
   |str _ _=>exact .int_str _ _ _ _
   |tup p2 h2 q2 r2 t2=>exact .int_tuple _ _ t2 hu
   |lst p2 h2 q2 r2 t2=>exact .int_list _ _ t2 hu
  |str _ _=>cases sy with
   |non=>exact .str_none _ _
   |bl _=>exact .str_bool _ _ _
   |int _ _=>exact .str_int _ _ _ _
   |str _ _=>exact .str_str _ _ _ _
   |tup p2 h2 q2 r2 t2=>exact .str_tuple _ _ t2 hu
   |lst p2 h2 q2 r2 t2=>exact .str_list _ _ t2 hu
  |tup p h q r t=>cases sy with
   |non=>exact .tuple_none t hu
   |bl _=>exact .tuple_bool _ t hu
   |int _ _=>exact .tuple_int _ _ t hu
   |str _ _=>exact .tuple_str _ _ t hu
   |tup p2 h2 q2 r2 t2=>exact dH rfl rfl rfl rfl (by simp only[D.dep];exact Nat.succ_pos _)
   |lst p2 h2 q2 r2 t2=>exact .tuple_list t t2 hu
  |lst p h q r t=>cases sy with
   |non=>exact .list_none t hu
   |bl _=>exact .list_bool _ t hu
   |int _ _=>exact .list_int _ _ t hu
   |str _ _=>exact .list_str _ _ t hu
   |tup p2 h2 q2 r2 t2=>exact .list_tuple t t2 hu
   |lst p2 h2 q2 r2 t2=>exact dH rfl rfl rfl rfl (by simp only[D.dep];exact Nat.succ_pos _)
 intro n;induction n with
 |zero=>exact fun p q hn hu=>key 0 (by lia) (fun m z=>nomatch z) p q hn
 |succ n ih=>exact fun {A d e x y u v} p q hn hu=>key (n+1) (by lia) (fun m z=>by cases z;exact fun p q hn=>ih p q hn (by show A.units+1+n<cLine;lia)) p q hn
def Sv(I:Inv X pins σ H s)(mL:d.pl=true)(lR:e.pl=true)(hn:d.dep<=n)(hu:A.units+1+n<cLine)(hx:RD X.K H d x)(hy:RD X.K H e y)(ru:RelV x u)(rv:RelV y v):SeqAt.RcAt A s u v (eqD d e)/\SeqAt.RcNeAt A s u v (!eqD d e):=
 jV (n:=n) (by lia) (fun p q h=>Du I n p q h (by show A.units+1+n<cLine;lia)) (by lia) (shp I mL hx ru) (shp I lR hy rv)
end
section
variable {X:Cx}
open Classical in
def hitD(K:Frag)(H:Hp)(d:D)(u:Value):Bool:=match kC u with
 |some v=>decide (∃e,e.pl=true/\RD K H e v/\eqD e d=true)
 |none=>false
open Classical in
def Va{K:Frag}{H:Hp}{d e:D}{y:V}{u:Value}(pe:e.pl=true)(r:RelV y u)(h:RD K H e y):hitD K H d u=eqD e d:=by unfold hitD;rw[r.abs];dsimp only;rw[GG];rw[decide_eq_true_iff];exact⟨fun⟨e',p',h',q⟩=>by rw[RD.inj pe p' h h'];exact q,fun q=>⟨e,pe,h,q⟩⟩
theorem Lv{K:Frag}{H:Hp}{d:D}:∀{es:List D}{xs:List V}{us:List Value},pls es=true->RDs K H es xs->Vals xs us->us.any (hitD K H d)=es.any fun e=>eqD e d
 | [],_,_,_,h,r=>by simp only[RDs]at h;subst h;cases r;rfl
 |e::es,_,_,p,h,r=>by
  simp only[RDs]at h;simp only[pls,gq]at p;obtain⟨x,xs,rfl,h1,h2⟩:=h;cases r with
  |cons r1 r2=>rw[List.any_cons,List.any_cons,Va p.1 r1 h1,Lv p.2 h2 r2]
theorem Lc{A:Around}{pins:List (Addr×Obj)}{σ:St}{H:Hp}{s:Shared}(I:Inv X pins σ H s)(hu:A.units+1+20<cLine){d:D}{x:V}{v:Value}(pd:d.pl=true)(hx:RD X.K H d x)(rx:RelV x v):∀{es:List D}{xs:List V}{us:List Value},
  pls es=true->RDs X.K H es xs->Vals xs us->l7 es<=20->∀u∈us,SeqAt.EqAt A.in1 s u v (hitD X.K H d u)
 | [],_,_,_,h,r,_=>by simp only[RDs]at h;subst h;cases r;intro u hu;cases hu
 |e::es,_,_,p,h,r,hd=>by
  simp only[RDs]at h;simp only[pls,gq]at p;obtain⟨y,xs,rfl,h1,h2⟩:=h;simp only[l7]at hd;cases r with
  |cons r1 r2=>
   intro u hm
   rcases ee.mp hm with z |hm
   . subst z;rw[Va p.1 r1 h1];exact Du I 20 p.1 pd (by lia) (by show A.units+1+20<cLine;lia) h1 hx r1 rx
   . exact Lc I hu pd hx rx p.2 h2 r2 (by lia) u hm
end
structure Ex where
 cls:String
 fs:List D
inductive R (α:Type) where
 |ok (a:α) |er (x:Ex) |st
noncomputable def R.bind{α β:Type}(r:R α)(f:α->R β):R β:=match r with
 | .ok a=>f a
 | .er x=>.er x
 | .st=>.st
def Rk{α:Type}(EX:Ex->Prop)(r:R α)(k:α->Prop):Prop:=match r with
 | .ok a=>k a
 | .er x=>EX x
 | .st=>False
section
variable {α β:Type}{EX:Ex->Prop}
noncomputable def R.of(o:Option α):R α:=match o with
 |some a=>.ok a
 |none=>.st
def R.of_some(a:α):R.of (some a)=R.ok a:=rfl
def Rk.of(h:Rk EX (R.of o) k):∃a,o=some a/\k a:=by
 cases o with
 |none=>exact h.elim
 |some a=>exact⟨a,rfl,h⟩
def R.bind_ok(a:α)(f:α->R β):(R.ok a).bind f=f a:=rfl
def Rk.bind:Rk EX (r.bind f) k=Rk EX r fun a=>Rk EX (f a) k:=by cases r<;>rfl
def Rk.mono(h:Rk EX r k)(hk:∀a,k a->k' a):Rk EX r k':=by
 cases r with
 |ok a=>exact hk a h
 |er x=>exact h
 |st=>exact h
end
def NoT(o:Option HO):Prop:=o=none\/∃xs,o=some (.tup xs)
def Ext(H0 H ae H':Hp):Prop:=Same H0 ae/\Same ae H'/\∀a,H a≠none->H0 a=none->NoT (ae a)
def Ext.refl(h:Same H0 H):Ext H0 H H0 H:=⟨Same.refl _,h,fun _ _ e=>.inl e⟩
def Ext.nt(e:Ext H0 H ae H')(h:H a≠none)(n:NoT (H0 a)):NoT (ae a):=by
 rcases n with n |⟨xs,n⟩
 . exact e.2.2 a h n
 . exact .inr ⟨xs,e.1 _ _ n⟩
def Ext.no(e:Ext H0 H ae H')(s:Same H H')(h:H a=some o)(ni:¬Imm o)(h0:H0 a=none):ae a=none:=by
 rcases e.2.2 a (by rw[h];exact fun z=>nomatch z) h0 with z |⟨xs,z⟩
 . exact z
 . have:=e.2.1 _ _ z;rw[s _ _ h]at this;cases this;exact absurd trivial ni
def xb(h:o=some x):o≠none:=by rw[h];exact fun z=>nomatch z
def Same.ne(h:Same H H')(n:H a≠none):H' a≠none:=by
 cases e:H a with
 |none=>exact absurd e n
 |some o=>exact xb (h a o e)
def Ext.trans(s:Same H H')(a:Ext H0 H ae H')(b:Ext ae H' rD eW):Ext H0 H rD eW:=
 ⟨a.1.trans b.1,b.2.1,fun c h1 h2=>b.nt (s.ne h1) (a.2.2 c h1 h2)⟩
def Ext.grow(a:Ext H0 H ae H')(s:Same H' eW):Ext H0 H ae eW:=⟨a.1,a.2.1.trans s,a.2.2⟩
def Ext.new(h:Same H0 H)(hp:H p=none):Ext H0 H (upd H0 p o) (upd H p o):=by
 have h0:H0 p=none:=by
  cases e:H0 p with
  |none=>rfl
  |some u=>rw[h p u e]at hp;cases hp
 refine⟨Same.upd_new h0,fun b u e=>?_,fun a h1 h2=>?_⟩
 . by_cases hb:b=p
   . subst hb;rw[j9]at e⊢;exact e
   . rw[d8 hb]at e⊢;exact h b u e
 . have ha:a≠p:=fun z=>h1 (by rw[z];exact hp)
   rw[d8 ha];exact .inl h2
def OB(K:Frag)(H0 H:Hp)(a:Addr):D->Prop
 | .lst ds=>∃xs,H a=some (.lst xs)/\RDs K H0 ds xs
 | .dk ks ds=>∃xs,H a=some (.dK (ks.zip xs))/\ks.length=xs.length/\RDs K H0 ds xs
 | .dt ks ds=>∃xs,H a=some (.dT (ks.zip xs))/\ks.length=xs.length/\RDs K H0 ds xs
 | .dn ks ds=>∃qs xs o,H a=some (.ext (dnP a qs xs o))/\qs.map (·.1)=ks/\DN H0 a qs/\RDs K H0 ds xs
 |_=>False
section
variable {K:Frag}{H0 H ae H':Hp}{a:Addr}{d:D}
def OB.some(h:OB K H0 H a d):∃o,H a=some o/\¬Imm o:=by
 cases d<;>simp only[OB]at h
 . obtain⟨xs,h,_⟩:=h;exact⟨_,h,fun z=>z⟩
 . obtain⟨xs,h,_⟩:=h;exact⟨_,h,fun z=>z⟩
 . obtain⟨xs,h,_⟩:=h;exact⟨_,h,fun z=>z⟩
 . obtain⟨qs,xs,o,h,_⟩:=h;exact⟨_,h,fun z=>z _ _ _ _ rfl⟩
def OB.mono(h:OB K H0 H a d)(s0:Same H0 ae)(s:Same H H'):OB K ae H' a d:=by
 cases d<;>simp only[OB]at h⊢
 . obtain⟨xs,h,r⟩:=h;exact⟨_,s _ _ h,r.mono s0⟩
 . obtain⟨xs,h,l,r⟩:=h;exact⟨_,s _ _ h,l,r.mono s0⟩
 . obtain⟨xs,h,l,r⟩:=h;exact⟨_,s _ _ h,l,r.mono s0⟩
 . obtain⟨qs,xs,o,h,k,n,r⟩:=h;exact⟨qs,xs,o,s _ _ h,k,n.tk fun b ys q=>s0 _ _ q,r.mono s0⟩
def OB.at(h:OB K H0 H a d)(e:H' a=H a):OB K H0 H' a d:=by
 cases d<;>simp only[OB]at h⊢
 . obtain⟨xs,h,r⟩:=h;exact⟨_,e.trans h,r⟩
 . obtain⟨xs,h,l,r⟩:=h;exact⟨_,e.trans h,l,r⟩
 . obtain⟨xs,h,l,r⟩:=h;exact⟨_,e.trans h,l,r⟩
 . obtain⟨qs,xs,o,h,k,n,r⟩:=h;exact⟨qs,xs,o,e.trans h,k,n,r⟩
def OB.tk(h:OB K H0 H a d)(n:d.shal=true)(t:TK H0 ae):OB K ae H a d:=by
 cases d<;>simp only[OB,D.shal]at h n⊢
 . obtain⟨xs,h,r⟩:=h;exact⟨_,h,r.tk t n⟩
 . obtain⟨xs,h,l,r⟩:=h;exact⟨_,h,l,r.tk t n⟩
 . obtain⟨xs,h,l,r⟩:=h;exact⟨_,h,l,r.tk t n⟩
 . obtain⟨qs,xs,o,h,k,m,r⟩:=h;exact⟨qs,xs,o,h,k,m.tk fun b ys q=>t _ _ trivial q,r.tk t n⟩
def OB.rd(h:OB K H0 H a d)(s0:Same H0 ae)(e:ae a=H a):RD K ae d (.ref a):=by
 cases d<;>simp only[OB,RD]at h⊢
 . obtain⟨xs,h,r⟩:=h;exact⟨_,_,rfl,e.trans h,r.mono s0⟩
 . obtain⟨xs,h,l,r⟩:=h;exact⟨_,_,rfl,e.trans h,l,r.mono s0⟩
 . obtain⟨xs,h,l,r⟩:=h;exact⟨_,_,rfl,e.trans h,l,r.mono s0⟩
 . obtain⟨qs,xs,o,h,k,n,r⟩:=h;exact⟨_,qs,xs,o,rfl,e.trans h,k,n.tk fun b ys q=>s0 _ _ q,r.mono s0⟩
end
def Out(K:Frag)(fr:Bool)(H0 H:Hp)(d:D)(v:V)(H':Hp):Prop:=
 Same H H'/\∃ae,Ext H0 H ae H'/\(if fr=true then ∃p,v=.ref p/\H p=none/\ae p=none/\OB K ae H' p d else RD K ae d v)
section
variable {K:Frag}{fr:Bool}{H0 H ae H':Hp}{d:D}{v:V}
def Out.val(s:Same H H')(e:Ext H0 H ae H')(r:RD K ae d v):Out K false H0 H d v H':=⟨s,ae,e,by rw[ψ η];exact r⟩
def Out.pure(s:Same H0 H)(r:RD K H0 d v):Out K false H0 H d v H:=.val (Same.refl _) (.refl s) r
def Out.fresh(s:Same H H')(e:Ext H0 H ae H')(hp:H p=none)(iB:ae p=none)(o:OB K ae H' p d):Out K true H0 H d (.ref p) H':=⟨s,ae,e,by rw[ξ rfl];exact⟨p,rfl,hp,iB,o⟩⟩
def Out.rd(o:Out K false H0 H d v H'):Same H H'/\∃ae,Ext H0 H ae H'/\RD K ae d v:=by obtain⟨s,ae,e,r⟩:=o;rw[ψ η]at r;exact⟨s,ae,e,r⟩
def Out.weak(o:Out K fr H0 H d v H'):Out K false H0 H d v H':=by
 cases fr with
 |false=>exact o
 |true=>
  obtain⟨s,ae,e,r⟩:=o
  rw[ξ rfl]at r
  obtain⟨p,rfl,hp,iB,ob⟩:=r
  obtain⟨u,hu,_⟩:=ob.some
  have e2:Ext H0 H (upd ae p u) H':=by
   refine⟨e.1.trans (Same.upd_new iB),fun b w q=>?_,fun a h1 h2=>?_⟩
   . by_cases hb:b=p
     . subst hb;rw[j9]at q;cases q;exact hu
     . rw[d8 hb]at q;exact e.2.1 b w q
   . rw[d8 (fun z=>h1 (by rw[z];exact hp))];exact e.2.2 a h1 h2
  exact .val s e2 (ob.rd (Same.upd_new iB) (by rw[j9,hu]))
def Out.after(s:Same H H1)(e:Ext H0 H ao H1)(o:Out K fr ao H1 d v H'):Out K fr H0 H d v H':=by
 obtain⟨s',ae,e',r⟩:=o;refine⟨s.trans s',ae,e.trans s e',?_⟩;cases fr with
 |false=>exact r
 |true=>
  rw[ξ rfl]at r⊢
  obtain⟨p,rfl,hp,r⟩:=r
  refine⟨p,rfl,?_,r⟩
  cases q:H p with
  |none=>rfl
  |some u=>rw[s p u q]at hp;cases hp
end
abbrev DE:=List (Option D)
def RE(K:Frag)(H:Hp)(ρ:DE)(σ:St):Prop:=ρ.length=σ.length/\∀(i:Nat) d,ρ[i]?=some (some d)->∃v,σ[i]?=some (some v)/\RD K H d v
def RE.mono{K:Frag}{H H':Hp}{ρ:DE}{σ:St}(h:RE K H ρ σ)(s:Same H H'):RE K H' ρ σ:=⟨h.1,fun i d e=>by obtain⟨v,h1,h2⟩:=h.2 i d e;exact⟨v,h1,h2.mono s⟩⟩
structure XW where
 hb:Hp
 p:Ex->Hp->Prop
abbrev F0:XW:=⟨fun _=>none,fun _ _=>False⟩
def F0.same(H:Hp):Same F0.hb H:=fun _ _ z=>nomatch z
def XW.at(W:XW)(x:Ex):Prop:=∀H',Same W.hb H'->W.p x H'
def TEd(K:Frag)(EX:XW)(fr:Bool)(f:DE->R D):TE:=fun σ H Q=>Same EX.hb H/\∃ρ H0,Same H0 H/\RE K H0 ρ σ/\Rk EX.at (f ρ) fun d=>∀v H',Out K fr H0 H d v H'->Q v H'
def TAd(K:Frag)(EX:XW)(f:DE->R (List D)):TA:=fun σ H Q=>Same EX.hb H/\∃ρ H0,Same H0 H/\RE K H0 ρ σ/\Rk EX.at (f ρ) fun ds=>∀vs H' ae,Same H H'->Ext H0 H ae H'->RDs K ae ds vs->Q vs H'
def TTd(K:Frag)(EX:XW)(f:DE->R Bool):TT:=fun σ H Q=>Same EX.hb H/\∃ρ H0,Same H0 H/\RE K H0 ρ σ/\Rk EX.at (f ρ) fun b=>∀H',Same H H'->Q b H'
noncomputable def a5(i:Nat):DE->R D:=fun ρ=>match ρ[i]? with |some (some d)=>.ok d |_=>.st
noncomputable def eC(d:D):DE->R D:=fun _=>.ok d
def eOp(o:D->D->Option D)(fa fb:DE->R D):DE->R D:=fun ρ=>(fa ρ).bind fun x=>(fb ρ).bind fun y=>R.of (o x y)
def eUn(o:D->Option D)(fa:DE->R D):DE->R D:=fun ρ=>(fa ρ).bind fun x=>R.of (o x)
noncomputable def a8:DE->R (List D):=fun _=>.ok []
def a6(f:DE->R D)(fs:DE->R (List D)):DE->R (List D):=fun ρ=>(f ρ).bind fun d=>(fs ρ).bind fun ds=>.ok (d::ds)
def c9(m:List D->R D)(fs:DE->R (List D)):DE->R D:=fun ρ=>(fs ρ).bind m
def eCB(m:List D->Option D)(fs:DE->R (List D)):DE->R D:=fun ρ=>(fs ρ).bind fun ds=>R.of (m ds)
def i5(fs:DE->R (List D)):DE->R D:=fun ρ=>(fs ρ).bind fun ds=>if ds.length<=1000 then .ok (.tup ds) else .st
def j4(fs:DE->R (List D)):DE->R D:=fun ρ=>(fs ρ).bind fun ds=>if ds.length<=1000 then .ok (.lst ds) else .st
def eIf(t:DE->R Bool)(fa fb:DE->R D):DE->R D:=fun ρ=>(t ρ).bind fun b=>if b=true then fa ρ else fb ρ
def L7(t u:DE->R Bool):DE->R Bool:=fun ρ=>(t ρ).bind fun b=>if b=true then u ρ else .ok false
def bOr(t u:DE->R Bool):DE->R Bool:=fun ρ=>(t ρ).bind fun b=>if b=true then .ok true else u ρ
def o9(t:DE->R Bool):DE->R Bool:=fun ρ=>(t ρ).bind fun b=>.ok (!b)
noncomputable def asB:D->Option Bool
 | .bl b=>some b
 |_=>none
def c8(tr:D->Option Bool)(f:DE->R D):DE->R Bool:=fun ρ=>(f ρ).bind fun d=>R.of (tr d)
def p9(fa fb:DE->R D):DE->R D:=fun ρ=>(fa ρ).bind fun x=>(R.of (asB x)).bind fun b=>if b=true then fb ρ else .ok (.bl false)
def eOr(fa fb:DE->R D):DE->R D:=fun ρ=>(fa ρ).bind fun x=>(R.of (asB x)).bind fun b=>if b=true then .ok (.bl true) else fb ρ
def OpD(K:Frag)(fr:Bool)(o:D->D->Option D)(r:R2):Prop:=∀(H0 H:Hp)(x y:V)(d e z:D)(Q:VK),Same H0 H->RD K H0 d x->RD K H0 e y->o d e=some z->(∀v H',Out K fr H0 H z v H'->Q v H')->r x y H Q
def UnD(K:Frag)(fr:Bool)(o:D->Option D)(r:V->Hp->VK->Prop):Prop:=∀(H0 H:Hp)(x:V)(d z:D)(Q:VK),Same H0 H->RD K H0 d x->o d=some z->(∀v H',Out K fr H0 H z v H'->Q v H')->r x H Q
def x5(K:Frag)(fr:Bool)(m:List D->Option D)(r:List V->Hp->VK->Prop):Prop:=∀(H0 H:Hp)(xs:List V)(ds:List D)(z:D)(Q:VK),Same H0 H->RDs K H0 ds xs->m ds=some z->(∀v H',Out K fr H0 H z v H'->Q v H')->r xs H Q
def Px(K:Frag)(tr:D->Option Bool)(r:V->Hp->(Bool->Hp->Prop)->Prop):Prop:=∀(H0 H:Hp)(x:V)(d:D)(b:Bool)(Q:Bool->Hp->Prop),Same H0 H->RD K H0 d x->tr d=some b->Q b H->r x H Q
section
variable {K:Frag}{EX:XW}{fr:Bool}{σ:St}{H:Hp}{Q:VK}
def TEd.go(sx:Same EX.hb H)(s:Same H0 H)(e:RE K H0 ρ σ)(h:Rk EX.at (f ρ) k)(hk:∀d,k d->∀v H' ae,Same H H'->Ext H0 H ae H'->RD K ae d v->Q v H'):TEd K EX false f σ H Q:=
 ⟨sx,ρ,H0,s,e,h.mono fun d z v H' o=>by obtain⟨s',ae,e',r⟩:=o.rd;exact hk d z v H' ae s' e' r⟩
def TAd.go{f:DE->R (List D)}{ρ:DE}{H0:Hp}{k:List D->Prop}{Q:List V->Hp->Prop}(sx:Same EX.hb H)(s:Same H0 H)(e:RE K H0 ρ σ)(h:Rk EX.at (f ρ) k)(hk:∀d,k d->∀v H' ae,Same H H'->Ext H0 H ae H'->RDs K ae d v->Q v H'):TAd K EX f σ H Q:=
 ⟨sx,ρ,H0,s,e,h.mono fun d z v H' ae s' e' r=>hk d z v H' ae s' e' r⟩
def TTd.go{f:DE->R Bool}{ρ:DE}{H0:Hp}{k:Bool->Prop}{Q:Bool->Hp->Prop}(sx:Same EX.hb H)(s:Same H0 H)(e:RE K H0 ρ σ)(h:Rk EX.at (f ρ) k)(hk:∀b,k b->∀H',Same H H'->Q b H'):TTd K EX f σ H Q:=
 ⟨sx,ρ,H0,s,e,h.mono fun b z H' s'=>hk b z H' s'⟩
def TEd.weak(h:TEd K EX false f σ H Q):TEd K EX fr f σ H Q:=by obtain⟨sx,ρ,H0,s,e,h⟩:=h;exact⟨sx,ρ,H0,s,e,h.mono fun d z v H' o=>z v H' o.weak⟩
def y2j(h:TEd K EX false (a5 i) σ H Q):∃v,σ[i]?=some (some v)/\Q v H:=by
 obtain⟨sx,ρ,H0,s,e,h⟩:=h;unfold a5 at h;split at h
 . rename_i d q;obtain⟨v,h1,h2⟩:=e.2 i d q;exact⟨v,h1,h v H (.pure s h2)⟩
 . exact h.elim
def El(hd:∀H0,RD K H0 d v)(h:TEd K EX false (eC d) σ H Q):tC v σ H Q:=by obtain⟨sx,ρ,H0,s,e,h⟩:=h;exact h v H (.pure s (hd _))
def Gs(ho:OpD K fr o r)(h:TEd K EX fr (eOp o fa fb) σ H Q):tOp r (TEd K EX false fa) (TEd K EX false fb) σ H Q:=by
 obtain⟨sx,ρ,H0,s,e,h⟩:=h;unfold eOp at h;rw[Rk.bind]at h;refine TEd.go sx s e h fun d h v H1 ao s1 e1 r1=>?_
 rw[Rk.bind]at h;refine TEd.go (sx.trans s1) e1.2.1 (e.mono e1.1) h fun d2 h v2 H2 aY s2 e2 r2=>?_
 obtain⟨z,hz,h⟩:=h.of;exact ho aY H2 v v2 d d2 z Q e2.2.1 (r1.mono e2.1) r2 hz fun w H3 o=>h w H3 (o.after (s1.trans s2) (e1.trans s1 e2))
def y6x(ho:UnD K fr o r)(h:TEd K EX fr (eUn o fa) σ H Q):tUn r (TEd K EX false fa) σ H Q:=by
 obtain⟨sx,ρ,H0,s,e,h⟩:=h;unfold eUn at h;rw[Rk.bind]at h;refine TEd.go sx s e h fun d h v H1 ao s1 e1 r1=>?_
 obtain⟨z,hz,h⟩:=h.of;exact ho ao H1 v d z Q e1.2.1 r1 hz fun w H3 o=>h w H3 (o.after s1 e1)
def Qm{Q:List V->Hp->Prop}(h:TAd K EX a8 σ H Q):Aj σ H Q:=by obtain⟨sx,ρ,H0,s,e,h⟩:=h;exact h [] H H0 (Same.refl _) (.refl s) .nil
def Kh{Q:List V->Hp->Prop}{f:DE->R D}{fs:DE->R (List D)}(h:TAd K EX (a6 f fs) σ H Q):F9 (TEd K EX false f) (TAd K EX fs) σ H Q:=by
 obtain⟨sx,ρ,H0,s,e,h⟩:=h;unfold a6 at h;rw[Rk.bind]at h;refine TEd.go sx s e h fun d h v H1 ao s1 e1 r1=>?_
 rw[Rk.bind]at h;refine TAd.go (sx.trans s1) e1.2.1 (e.mono e1.1) h fun ds h vs H2 aY s2 e2 r2=>?_
 exact h (v::vs) H2 aY (s1.trans s2) (e1.trans s1 e2) (.cons (r1.mono e2.1) r2)
def Pw(hm:x5 K fr m r)(h:TEd K EX fr (eCB m fs) σ H Q):tCB r (TAd K EX fs) σ H Q:=by
 obtain⟨sx,ρ,H0,s,e,h⟩:=h;unfold eCB at h;rw[Rk.bind]at h;refine TAd.go sx s e h fun ds h vs H1 ao s1 e1 r1=>?_
 obtain⟨z,hz,h⟩:=h.of;exact hm ao H1 vs ds z Q e1.2.1 r1 hz fun w H3 o=>h w H3 (o.after s1 e1)
def Lb(h:n<=1000):n<=sizeLine:=EZ h (by decide)
def y2l(h:TEd K EX false (i5 fs) σ H Q):kr (TAd K EX fs) σ H Q:=by
 obtain⟨sx,ρ,H0,s,e,h⟩:=h;unfold i5 at h;rw[Rk.bind]at h;refine TAd.go sx s e h fun ds h vs H1 ao s1 e1 r1=>?_
 split at h
 . rename_i hl;refine⟨Lb (by rw[<-r1.length];exact hl),fun p hp=>h _ _ (.val (s1.trans (Same.upd_new hp)) (e1.trans s1 (.new e1.2.1 hp)) ?_)⟩;have uv:ao p=none:=by
    cases q:ao p with
    |none=>rfl
    |some u=>rw[e1.2.1 p u q]at hp;cases hp
   simp only[RD];exact⟨p,vs,rfl,j9,r1.mono (Same.upd_new uv)⟩
 . exact h.elim
def Same.none(s:Same H H')(h:H' p=none):H p=none:=by
 cases q:H p with
 |none=>rfl
 |some u=>rw[s p u q]at h;cases h
def Out.new(s:Same H0 H)(hp:H p=none)(ci:∀H',H' p=some o->OB K H0 H' p d):Out K true H0 H d (.ref p) (upd H p o):=
 .fresh (Same.upd_new hp) ((Ext.refl s).grow (Same.upd_new hp)) hp (s.none hp) (ci _ j9)
def y2m(h:TEd K EX true (j4 fs) σ H Q):kq (TAd K EX fs) σ H Q:=by
 obtain⟨sx,ρ,H0,s,e,h⟩:=h;unfold j4 at h;rw[Rk.bind]at h;refine TAd.go sx s e h fun ds h vs H1 ao s1 e1 r1=>?_
 split at h
 . rename_i hl;refine⟨Lb (by rw[<-r1.length];exact hl),fun p hp=>h _ _ (Out.after s1 e1 (.new e1.2.1 hp fun H' hH=>?_))⟩;simp only[OB];exact⟨vs,hH,r1⟩
 . exact h.elim
def y6y(h:TEd K EX fr (eIf t fa fb) σ H Q):tIf (TTd K EX t) (TEd K EX fr fa) (TEd K EX fr fb) σ H Q:=by
 obtain⟨sx,ρ,H0,s,e,h⟩:=h;unfold eIf at h;rw[Rk.bind]at h;refine TTd.go sx s e h fun b h H1 s1=>?_
 have fin:∀{f:DE->R D},Rk EX.at (f ρ) (fun d=>∀v H',Out K fr H0 H d v H'->Q v H')->TEd K EX fr f σ H1 Q:=fun {f} h=>
  ⟨sx.trans s1,ρ,H0,s.trans s1,e,h.mono fun d z v H' o=>z v H' (o.after s1 ((Ext.refl s).grow s1))⟩
 cases b with
 |true=>exact fin h
 |false=>exact fin h
def qW{t u:DE->R Bool}{Q:Bool->Hp->Prop}(h:TTd K EX (L7 t u) σ H Q):kE (TTd K EX t) (TTd K EX u) σ H Q:=by
 obtain⟨sx,ρ,H0,s,e,h⟩:=h;unfold L7 at h;rw[Rk.bind]at h;refine TTd.go sx s e h fun b h H1 s1=>?_
 cases b with
 |true=>exact TTd.go (sx.trans s1) (s.trans s1) e h fun b h H' s'=>h H' (s1.trans s')
 |false=>exact h H1 s1
def y2n{t u:DE->R Bool}{Q:Bool->Hp->Prop}(h:TTd K EX (bOr t u) σ H Q):tOr (TTd K EX t) (TTd K EX u) σ H Q:=by
 obtain⟨sx,ρ,H0,s,e,h⟩:=h;unfold bOr at h;rw[Rk.bind]at h;refine TTd.go sx s e h fun b h H1 s1=>?_
 cases b with
 |true=>exact h H1 s1
 |false=>exact TTd.go (sx.trans s1) (s.trans s1) e h fun b h H' s'=>h H' (s1.trans s')
def qV{t:DE->R Bool}{Q:Bool->Hp->Prop}(h:TTd K EX (o9 t) σ H Q):kD (TTd K EX t) σ H Q:=by obtain⟨sx,ρ,H0,s,e,h⟩:=h;unfold o9 at h;rw[Rk.bind]at h;exact TTd.go sx s e h fun b h H1 s1=>h H1 s1
end
noncomputable def y6z(r:V->Hp->(Bool->Hp->Prop)->Prop)(t:TE):TT:=fun σ H Q=>t σ H fun x H'=>r x H' Q
def Ai(K:Frag)(EX:XW)(g:D->DE->R D):V->TE:=fun x σ H Q=>Same EX.hb H/\∃d ρ H0,Same H0 H/\RE K H0 ρ σ/\RD K H0 d x/\Rk EX.at (g d ρ) fun z=>∀v H',Out K false H0 H z v H'->Q v H'
def Aw(K:Frag)(EX:XW)(g:D->DE->R Bool):V->TT:=fun x σ H Q=>Same EX.hb H/\∃d ρ H0,Same H0 H/\RE K H0 ρ σ/\RD K H0 d x/\Rk EX.at (g d ρ) fun b=>∀H',Same H H'->Q b H'
def O5(o:D->D->Option D)(fb:DE->R D):D->DE->R D:=fun d ρ=>(fb ρ).bind fun y=>R.of (o d y)
def G1(o:D->D->Option D)(fb:DE->R D)(g:D->DE->R D):D->DE->R D:=fun d ρ=>(fb ρ).bind fun y=>(R.of (o d y)).bind fun z=>(R.of (asB z)).bind fun b=>if b=true then g y ρ else .ok (.bl false)
def Dx(o:D->D->Option D)(fb:DE->R D):D->DE->R Bool:=fun d ρ=>(fb ρ).bind fun y=>(R.of (o d y)).bind fun z=>R.of (asB z)
def Dw(o:D->D->Option D)(fb:DE->R D)(g:D->DE->R Bool):D->DE->R Bool:=fun d ρ=>(fb ρ).bind fun y=>(R.of (o d y)).bind fun z=>(R.of (asB z)).bind fun b=>if b=true then g y ρ else .ok false
def N8(fa:DE->R D)(g:D->DE->R D):DE->R D:=fun ρ=>(fa ρ).bind fun x=>g x ρ
def Cp(fa:DE->R D)(g:D->DE->R Bool):DE->R Bool:=fun ρ=>(fa ρ).bind fun x=>g x ρ
def X6(h:asB d=some b):d=.bl b:=by cases d<;>simp[asB]at h;subst h;rfl
def RD.bl{K:Frag}{H:Hp}{b:Bool}{v:V}(h:RD K H (.bl b) v):v=.bl b:=by simpa only [RD] using h
section
variable {K:Frag}{EX:XW}{σ:St}{H:Hp}{Q:VK}{QB:Bool->Hp->Prop}
def y2o(h:TEd K EX false (p9 fa fb) σ H Q):Qr (TEd K EX false fa) (TEd K EX false fb) σ H Q:=by
 obtain⟨sx,ρ,H0,s,e,h⟩:=h;unfold p9 at h;rw[Rk.bind]at h;refine TEd.go sx s e h fun d h v H1 ao s1 e1 r1=>?_
 rw[Rk.bind]at h;obtain⟨b,hb,h⟩:=h.of;cases X6 hb;cases r1.bl;cases b with
 |true=>exact TEd.go (sx.trans s1) e1.2.1 (e.mono e1.1) h fun d h v H2 aY s2 e2 r2=>h v H2 (.val (s1.trans s2) (e1.trans s1 e2) r2)
 |false=>exact h _ H1 (.val s1 e1 (by simp only[RD]))
def y70(h:TEd K EX false (eOr fa fb) σ H Q):ke (TEd K EX false fa) (TEd K EX false fb) σ H Q:=by
 obtain⟨sx,ρ,H0,s,e,h⟩:=h;unfold eOr at h;rw[Rk.bind]at h;refine TEd.go sx s e h fun d h v H1 ao s1 e1 r1=>?_
 rw[Rk.bind]at h;obtain⟨b,hb,h⟩:=h.of;cases X6 hb;cases r1.bl;cases b with
 |true=>exact h _ H1 (.val s1 e1 (by simp only[RD]))
 |false=>exact TEd.go (sx.trans s1) e1.2.1 (e.mono e1.1) h fun d h v H2 aY s2 e2 r2=>h v H2 (.val (s1.trans s2) (e1.trans s1 e2) r2)
def y2p(ht:Px K tr r)(h:TTd K EX (c8 tr fa) σ H QB):y6z r (TEd K EX false fa) σ H QB:=by
 obtain⟨sx,ρ,H0,s,e,h⟩:=h;unfold c8 at h;rw[Rk.bind]at h;refine TEd.go sx s e h fun d h v H1 ao s1 e1 r1=>?_
 obtain⟨b,hb,h⟩:=h.of;exact ht ao H1 v d b QB e1.2.1 r1 hb (h H1 s1)
def qU(ht:Px K tr r)(h:TEd K EX false (eUn (fun d=>(tr d).map fun b=>.bl (!b)) fa) σ H Q) :
  (fun σ H Q=>(TEd K EX false fa) σ H fun x H1=>r x H1 fun k H2=>Q (.bl (!k)) H2) σ H Q:=by
 obtain⟨sx,ρ,H0,s,e,h⟩:=h
 unfold eUn at h
 rw[Rk.bind]at h
 refine TEd.go sx s e h fun d h v H1 ao s1 e1 r1=>?_
 obtain⟨z,hz,h⟩:=h.of
 have hz:(tr d).map (fun b=>D.bl (!b))=some z:=hz
 cases hb:tr d with
 |none=>rw[hb]at hz;cases hz
 |some b=>
  rw[hb]at hz;cases hz
  exact ht ao H1 v d b _ e1.2.1 r1 hb (h _ H1 (.val s1 e1 (by simp only[RD])))
def y2q(ho:OpD K false o r)(h:TTd K EX (c8 asB (eOp o fa fb)) σ H QB):Jc (tOp r (TEd K EX false fa) (TEd K EX false fb)) σ H QB:=by obtain⟨sx,ρ,H0,s,e,h⟩:=h;unfold c8 at h;rw[Rk.bind]at h;unfold Jc;refine Gs (EX:=EX) ho ⟨sx,ρ,H0,s,e,h.mono fun d h v H' o=>?_⟩;obtain⟨b,hb,h⟩:=h.of;obtain⟨s',ae,e',r'⟩:=o.rd;cases X6 hb;cases r'.bl;exact h H' s'
def qT(ho:OpD K false o r)(h:Ai K EX (O5 o fb) x σ H Q):Qu r (TEd K EX false fb) x σ H Q:=by
 obtain⟨sx,d,ρ,H0,s,e,rx,h⟩:=h;unfold O5 at h;rw[Rk.bind]at h;refine TEd.go sx s e h fun d2 h v2 H2 aY s2 e2 r2=>?_
 obtain⟨z,hz,h⟩:=h.of;exact ho aY H2 x v2 d d2 z Q e2.2.1 (rx.mono e2.1) r2 hz fun w H3 o=>h w H3 (o.after s2 e2)
def qS(ho:OpD K false o r)(h:Ai K EX (G1 o fb g) x σ H Q):Qt r (TEd K EX false fb) (Ai K EX g) x σ H Q:=by
 obtain⟨sx,d,ρ,H0,s,e,rx,h⟩:=h;unfold G1 at h;rw[Rk.bind]at h;refine TEd.go sx s e h fun d2 h v2 H2 aY s2 e2 r2=>?_
 rw[Rk.bind]at h;obtain⟨z,hz,h⟩:=h.of;rw[Rk.bind]at h;obtain⟨b,hb,h9⟩:=h.of;cases X6 hb;refine ho aY H2 x v2 d d2 _ _ e2.2.1 (rx.mono e2.1) r2 hz fun w H3 o=>?_
 obtain⟨s3,cj,e3,r3⟩:=o.rd;cases r3.bl;clear h;have h:=h9;cases b with
 |true=>exact⟨(sx.trans s2).trans s3,d2,ρ,cj,e3.2.1,e.mono (e2.1.trans e3.1),r2.mono e3.1,h.mono fun z h v H' o=>h v H' (o.after (s2.trans s3) (e2.trans s2 e3))⟩
 |false=>exact h _ H3 (.val (s2.trans s3) (e2.trans s2 e3) (by simp only[RD]))
def wZ(ho:OpD K false o r)(h:Aw K EX (Dx o fb) x σ H QB):Sz r (TEd K EX false fb) x σ H QB:=by
 obtain⟨sx,d,ρ,H0,s,e,rx,h⟩:=h;unfold Dx at h;rw[Rk.bind]at h;refine TEd.go sx s e h fun d2 h v2 H2 aY s2 e2 r2=>?_
 rw[Rk.bind]at h;obtain⟨z,hz,h⟩:=h.of;obtain⟨b,hb,h⟩:=h.of;cases X6 hb;refine ho aY H2 x v2 d d2 _ _ e2.2.1 (rx.mono e2.1) r2 hz fun w H3 o=>?_
 obtain⟨s3,cj,e3,r3⟩:=o.rd;cases r3.bl;exact h H3 (s2.trans s3)
def wY(ho:OpD K false o r)(h:Aw K EX (Dw o fb g) x σ H QB):Sy r (TEd K EX false fb) (Aw K EX g) x σ H QB:=by
 obtain⟨sx,d,ρ,H0,s,e,rx,h⟩:=h;unfold Dw at h;rw[Rk.bind]at h;refine TEd.go sx s e h fun d2 h v2 H2 aY s2 e2 r2=>?_
 rw[Rk.bind]at h;obtain⟨z,hz,h⟩:=h.of;rw[Rk.bind]at h;obtain⟨b,hb,h9⟩:=h.of;cases X6 hb;refine ho aY H2 x v2 d d2 _ _ e2.2.1 (rx.mono e2.1) r2 hz fun w H3 o=>?_
 obtain⟨s3,cj,e3,r3⟩:=o.rd;cases r3.bl;clear h;have h:=h9;cases b with
 |true=>exact⟨(sx.trans s2).trans s3,d2,ρ,cj,e3.2.1,e.mono (e2.1.trans e3.1),r2.mono e3.1,h.mono fun z h H' s'=>h H' (s2.trans (s3.trans s'))⟩
 |false=>exact h H3 (s2.trans s3)
def y2r(h:TEd K EX false (N8 fa g) σ H Q):kf (TEd K EX false fa) (Ai K EX g) σ H Q:=by obtain⟨sx,ρ,H0,s,e,h⟩:=h;unfold N8 at h;rw[Rk.bind]at h;exact TEd.go sx s e h fun d h v H1 ao s1 e1 r1=>⟨sx.trans s1,d,ρ,ao,e1.2.1,e.mono e1.1,r1,h.mono fun z h v H' o=>h v H' (o.after s1 e1)⟩
def qR(h:TTd K EX (Cp fa g) σ H QB):Qs (TEd K EX false fa) (Aw K EX g) σ H QB:=by obtain⟨sx,ρ,H0,s,e,h⟩:=h;unfold Cp at h;rw[Rk.bind]at h;exact TEd.go sx s e h fun d h v H1 ao s1 e1 r1=>⟨sx.trans s1,d,ρ,ao,e1.2.1,e.mono e1.1,r1,h.mono fun z h H' s'=>h H' (s1.trans s')⟩
end
inductive Sl where
 |em |im (d:D) |ow (d:D)
abbrev DS:=List Sl
noncomputable def Sl.see(b:Bool):Sl->Option D
 | .em=>none
 | .im d=>some d
 | .ow d=>if b=true then some d else none
noncomputable def Sl.frz(b:Bool):Sl->Sl
 | .ow d=>if b=true then .im d else .ow d
 |s=>s
def vis:List Bool->DS->DE
 |_,[]=>[]
 | [],s::r=>s.see false::vis [] r
 |b::m,s::r=>s.see b::vis m r
noncomputable def frz:List Bool->DS->DS
 |_,[]=>[]
 | [],s::r=>s::r
 |b::m,s::r=>s.frz b::frz m r
theorem La:∀(m:List Bool)(ρ:DS)(i:Nat),(vis m ρ)[i]?=(ρ[i]?).map (Sl.see (m.getD i false))
 | [],[],i=>by simp[vis]
 |_::_,[],i=>by simp[vis]
 | [],s::r,0=>by simp[vis]
 |b::m,s::r,0=>by simp[vis]
 | [],s::r,i+1=>by simpa [vis] using La [] r i
 |b::m,s::r,i+1=>by simpa [vis] using La m r i
theorem Nd:∀(m:List Bool)(ρ:DS),(vis m ρ).length=ρ.length
 | [],[]=>rfl
 |_::_,[]=>rfl
 | [],s::r=>by simp[vis,Nd [] r]
 |b::m,s::r=>by simp[vis,Nd m r]
def Sl.frz_false(s:Sl):s.frz false=s:=by cases s<;>simp[Sl.frz]
theorem Kz:∀(m:List Bool)(ρ:DS)(i:Nat),(L2.frz m ρ)[i]?=(ρ[i]?).map (Sl.frz (m.getD i false))
 | [],[],i=>by simp[frz]
 |_::_,[],i=>by simp[frz]
 | [],s::r,i=>by
  simp only[frz,List.getD_nil];cases h:(s::r)[i]? with
  |none=>rfl
  |some x=>simp[Sl.frz_false]
 |b::m,s::r,0=>by simp[frz]
 |b::m,s::r,i+1=>by simpa [frz] using Kz m r i
theorem Yr:∀(m:List Bool)(ρ:DS),(L2.frz m ρ).length=ρ.length
 | [],[]=>rfl
 |_::_,[]=>rfl
 | [],s::r=>rfl
 |b::m,s::r=>by simp[frz,Yr m r]
structure RS(K:Frag)(Hc Hb H0:Hp)(ρ:DS)(σ:St)(H:Hp):Prop where
 sb:Same Hb H
 ext:Ext Hc Hb H0 H
 len:ρ.length=σ.length
 im:∀(i:Nat) d,ρ[i]?=some (.im d)->∃v,σ[i]?=some (some v)/\RD K H0 d v
 ow:∀(i:Nat) d,ρ[i]?=some (.ow d)->∃a,σ[i]?=some (some (.ref a))/\H0 a=none/\Hb a=none/\OB K H0 H a d
 ap:∀(i j:Nat) d e a,ρ[i]?=some (.ow d)->ρ[j]?=some (.ow e)->σ[i]?=some (some (.ref a))->σ[j]?=some (some (.ref a))->i=j
def RS.grow{K:Frag}{Hc Hb H0 H H':Hp}{ρ:DS}{σ:St}(R:RS K Hc Hb H0 ρ σ H)(s:Same H H'):RS K Hc Hb H0 ρ σ H':=
 ⟨R.sb.trans s,R.ext.grow s,R.len,R.im,fun i d e=>by obtain⟨a,h1,h2,h3,h4⟩:=R.ow i d e;exact⟨a,h1,h2,h3,h4.mono (Same.refl _) s⟩,R.ap⟩
def Msk(m:List Bool)(ρ:DS)(σ:St)(a:Addr):Prop:=∃i d,m.getD i false=true/\ρ[i]?=some (.ow d)/\σ[i]?=some (some (.ref a))
open Classical in
noncomputable def HeOf(m:List Bool)(ρ:DS)(σ:St)(H0 H:Hp):Hp:=fun a=>if Msk m ρ σ a then H a else H0 a
open Classical in
noncomputable def HdOf(m:List Bool)(ρ:DS)(σ:St)(H0:Hp):Hp:=fun a=>if Msk m ρ σ a then none else H0 a
section
variable {K:Frag}{Hc Hb H0 H H':Hp}{ρ:DS}{σ:St}{m:List Bool}
def RS.msk(R:RS K Hc Hb H0 ρ σ H)(h:Msk m ρ σ a):H0 a=none/\Hb a=none/\∃o,H a=some o/\¬Imm o:=by obtain⟨i,d,_,h1,h2⟩:=h;obtain⟨a',q1,q2,q3,q4⟩:=R.ow i d h1;rw[h2]at q1;cases q1;exact⟨q2,q3,q4.some⟩
def Ek(h:Msk m ρ σ a):HeOf m ρ σ H0 H a=H a:=by unfold HeOf;exact ξ h
def X5(h:¬Msk m ρ σ a):HeOf m ρ σ H0 H a=H0 a:=by unfold HeOf;exact ψ h
def Ej(h:Msk m ρ σ a):HdOf m ρ σ H0 a=none:=by unfold HdOf;exact ξ h
def X4(h:¬Msk m ρ σ a):HdOf m ρ σ H0 a=H0 a:=by unfold HdOf;exact ψ h
def RS.he0(R:RS K Hc Hb H0 ρ σ H)(m:List Bool):Same H0 (HeOf m ρ σ H0 H):=fun b o e=>by
 by_cases h:Msk m ρ σ b
 . rw[(R.msk h).1]at e;cases e
 . rw[X5 h];exact e
def RS.heH(R:RS K Hc Hb H0 ρ σ H)(m:List Bool):Same (HeOf m ρ σ H0 H) H:=fun b o e=>by
 by_cases h:Msk m ρ σ b
 . rw[Ek h]at e;exact e
 . rw[X5 h]at e;exact R.ext.2.1 b o e
def RS.re(R:RS K Hc Hb H0 ρ σ H)(m:List Bool):RE K (HeOf m ρ σ H0 H) (vis m ρ) σ:=by
 refine⟨by rw[Nd];exact R.len,fun i d e=>?_⟩;rw[La]at e;cases q:ρ[i]? with
 |none=>rw[q]at e;cases e
 |some s=>
  rw[q]at e
  simp only[FC,Option.some.injEq]at e
  cases s with
  |em=>cases e
  |im d'=>
   cases e
   obtain⟨v,h1,h2⟩:=R.im i d q
   exact⟨v,h1,h2.mono (R.he0 m)⟩
  |ow d'=>
   simp only[Sl.see]at e
   split at e
   . rename_i hm;cases e;obtain⟨a,h1,h2,h3,h4⟩:=R.ow i d q;exact⟨_,h1,h4.rd (R.he0 m) (Ek ⟨i,d,hm,q,h1⟩)⟩
   . cases e
def t6(keep:Bool)(m:List Bool)(ρ:DS):DS:=if keep=true then ρ else frz m ρ
def keeps(fr:Bool)(d:D):Bool:=if fr=true then d.shal else d.noL
def Apt(K:Frag)(fr:Bool)(Hb H0:Hp)(ρ:DS)(σ:St)(H:Hp)(d:D)(v:V):Prop:=
 if fr=true then ∃p,v=.ref p/\H0 p=none/\Hb p=none/\OB K H0 H p d/\∀(i:Nat) e,ρ[i]?=some (.ow e)->σ[i]?≠some (some (.ref p)) else RD K H0 d v
def Ei(h:(t6 keep m ρ)[i]?=some (.ow d)):ρ[i]?=some (.ow d)/\(keep=false->m.getD i false=false):=by
 unfold t6 at h;cases keep with
 |true=>exact⟨h,fun z=>nomatch z⟩
 |false=>
  rw[ψ η,Kz]at h
  cases q:ρ[i]? with
  |none=>rw[q]at h;cases h
  |some s=>
   rw[q]at h
   simp only[FC,Option.some.injEq]at h
   cases s with
   |em=>cases h
   |im d'=>cases h
   |ow d'=>
    simp only[Sl.frz]at h
    split at h
    . cases h
    . rename_i hm;cases h;exact⟨rfl,fun _=>by simpa using hm⟩
def RS.frame(R:RS K Hc Hb H0 ρ σ H)(s:Same H H')(e:Ext (HeOf m ρ σ H0 H) H ae H')(keep:Bool) :
  ∃aQ,RS K Hc Hb aQ (t6 keep m ρ) σ H'/\TK ae aQ/\(keep=false->aQ=ae)/\(∀p,ae p=none->aQ p=none)/\Same H0 aQ:=by
 have nC:∀(i:Nat) d' a,ρ[i]?=some (.ow d')->σ[i]?=some (some (.ref a))->¬Msk m ρ σ a->ae a=none:=fun i d' a h1 h2 h3=>by obtain⟨a',q1,q2,q3,q4⟩:=R.ow i d' h1;rw[h2]at q1;cases q1;obtain⟨u,hu,ni⟩:=q4.some;exact e.no s hu ni (by rw[X5 h3];exact q2)
 have rE:∀{i:Nat}{d':D}{a:Addr},ρ[i]?=some (.ow d')->σ[i]?=some (some (.ref a))->m.getD i false=false->¬Msk m ρ σ a:=fun {i d' a} h1 h2 h3 ⟨j,e',q1,q2,q3⟩=>by have:=R.ap i j d' e' a h1 q2 h2 q3;subst this;rw[h3]at q1;cases q1
 cases keep with
 |true=>
  have DO:t6 true m ρ=ρ:=rfl
  have s0:Same H0 (HdOf m ρ σ ae):=fun b u q=>by
   have hb:¬Msk m ρ σ b:=fun z=>by rw[(R.msk z).1]at q;cases q
   rw[X4 hb];exact e.1 b u (R.he0 m b u q)
  have tk:TK ae (HdOf m ρ σ ae):=fun b u hi q=>by
   have hb:¬Msk m ρ σ b:=fun z=>by obtain⟨_,_,w,hw,hn⟩:=R.msk z;have:=e.1 b w (by rw[Ek z];exact hw);rw[q]at this;cases this;exact hn hi
   rw[X4 hb];exact q
  refine⟨HdOf m ρ σ ae,⟨R.sb.trans s,⟨R.ext.1.trans s0,fun b u q=>?_,fun a h1 h2=>?_⟩,R.len,fun i d' q=>?_,fun i d' q=>?_,R.ap⟩,tk,(fun z=>nomatch z),fun p hp=>?_,s0⟩
  . by_cases hb:Msk m ρ σ b
    . rw[Ej hb]at q;cases q
    . rw[X4 hb]at q;exact e.2.1 b u q
  . by_cases hb:Msk m ρ σ a
    . exact .inl (Ej hb)
    . rw[X4 hb];exact e.nt (R.sb.ne h1) (by rw[X5 hb];exact R.ext.2.2 a h1 h2)
  . obtain⟨w,h1,h2⟩:=R.im i d' q;exact⟨w,h1,h2.mono s0⟩
  . obtain⟨a,h1,h2,h3,h4⟩:=R.ow i d' q;refine⟨a,h1,?_,h3,h4.mono s0 s⟩;by_cases hb:Msk m ρ σ a
    . exact Ej hb
    . rw[X4 hb];exact nC i d' a q h1 hb
  . by_cases hb:Msk m ρ σ p
    . exact Ej hb
    . rw[X4 hb];exact hp
 |false=>
  refine⟨ae,⟨R.sb.trans s,?_,?_,fun i d' q=>?_,fun i d' q=>?_,fun i j d1 d2 a q1 q2=>?_⟩,fun _ _ _ z=>z,fun _=>rfl,fun _ z=>z,(R.he0 m).trans e.1⟩
  . refine⟨R.ext.1.trans ((R.he0 m).trans e.1),e.2.1,fun a h1 h2=>e.nt (R.sb.ne h1) ?_⟩;have hb:¬Msk m ρ σ a:=fun z=>h1 (R.msk z).2.1
    rw[X5 hb];exact R.ext.2.2 a h1 h2
  . show(L2.frz m ρ).length=_;rw[Yr];exact R.len
  . have q':(L2.frz m ρ)[i]?=some (.im d'):=q;rw[Kz]at q';cases hs:ρ[i]? with
    |none=>rw[hs]at q';cases q'
    |some sl=>
     rw[hs]at q'
     simp only[FC,Option.some.injEq]at q'
     cases sl with
     |em=>cases q'
     |im d2=>
      cases q'
      obtain⟨w,h1,h2⟩:=R.im i d' hs
      exact⟨w,h1,h2.mono ((R.he0 m).trans e.1)⟩
     |ow d2=>
      simp only[Sl.frz]at q'
      split at q'
      . rename_i hm;cases q';obtain⟨a,h1,h2,h3,h4⟩:=R.ow i d' hs;obtain⟨u,hu,_⟩:=h4.some;refine⟨_,h1,h4.rd ((R.he0 m).trans e.1) ?_⟩;rw[hu];exact e.1 a u (by rw[Ek ⟨i,d',hm,hs,h1⟩];exact hu)
      . cases q'
  . obtain⟨q1,q2⟩:=Ei q;obtain⟨a,h1,h2,h3,h4⟩:=R.ow i d' q1;exact⟨a,h1,nC i d' a q1 h1 (rE q1 h1 (q2 rfl)),h3,h4.mono ((R.he0 m).trans e.1) s⟩
  . exact R.ap i j d1 d2 a (Ei q1).1 (Ei q2).1
def RS.out(R:RS K Hc Hb H0 ρ σ H)(o:Out K fr (HeOf m ρ σ H0 H) H d v H') :
  ∃aQ,RS K Hc Hb aQ (t6 (keeps fr d) m ρ) σ H'/\Apt K fr Hb aQ (t6 (keeps fr d) m ρ) σ H' d v:=by
 obtain⟨s,ae,e,r⟩:=o
 obtain⟨aQ,R',tk,eq,hn,_⟩:=R.frame s e (keeps fr d)
 refine⟨aQ,R',?_⟩
 unfold Apt
 cases fr with
 |false=>
  rw[ψ η]at r⊢
  cases hk:keeps false d with
  |true=>exact r.tk tk (by simpa [keeps] using hk)
  |false=>rw[eq hk];exact r
 |true=>
  rw[ξ rfl]at r⊢
  obtain⟨p,rfl,hp,iB,ob⟩:=r
  refine⟨p,rfl,hn p iB,R.sb.none hp,?_,fun i e' q z=>?_⟩
  . cases hk:keeps true d with
    |true=>exact ob.tk (by simpa [keeps] using hk) tk
    |false=>rw[eq hk];exact ob
  . obtain⟨a,h1,_,_,h4⟩:=R.ow i e' (Ei q).1;rw[z]at h1;cases h1;obtain⟨u,hu,_⟩:=h4.some;rw[hp]at hu;cases hu
def RS.outs(R:RS K Hc Hb H0 ρ σ H)(s:Same H H')(e:Ext (HeOf m ρ σ H0 H) H ae H')(r:RDs K ae ds vs) :
  ∃aQ,RS K Hc Hb aQ (t6 (i3 ds) m ρ) σ H'/\RDs K aQ ds vs:=by
 obtain⟨aQ,R',tk,eq,hn,_⟩:=R.frame s e (i3 ds)
 refine⟨aQ,R',?_⟩
 cases hk:i3 ds with
 |true=>exact r.tk tk hk
 |false=>rw[eq hk];exact r
noncomputable def K6(fr:Bool)(i:Nat)(d:D)(ρ:DS):DS:=ρ.set i (if fr=true then .ow d else .im d)
def RS.put(R:RS K Hc Hb H0 ρ σ H)(a:Apt K fr Hb H0 ρ σ H d v)(i:Nat):RS K Hc Hb H0 (K6 fr i d ρ) (σ.set i (some v)) H:=by
 unfold K6;have other:∀{j:Nat}{s:Sl},j≠i->(ρ.set i s)[j]?=ρ[j]?:=fun {j s} h=>by rw[FI (GN h)]
 have bN:∀{j:Nat},j≠i->(σ.set i (some v))[j]?=σ[j]?:=fun {j} h=>by rw[FI (GN h)]
 have here:∀{s s':Sl},(ρ.set i s)[i]?=some s'->s'=s/\(σ.set i (some v))[i]?=some (some v):=fun {s s'} h=>by
  have hi:i<ρ.length:=by have:=(FK.mp h).1;simpa using this
  rw[GC hi]at h;cases h;exact⟨rfl,by rw[GC (by rw[<-R.len];exact hi)]⟩
 refine⟨R.sb,R.ext,by rw[List.length_set,List.length_set];exact R.len,fun j d' q=>?_,fun j d' q=>?_,fun j k d1 d2 b q1 q2 z1 z2=>?_⟩
 . by_cases hj:j=i
   . subst hj;obtain⟨h1,h2⟩:=here q;refine⟨v,h2,?_⟩;cases fr with
     |false=>
      rw[ψ η]at h1;cases h1
      unfold Apt at a
      rw[ψ η]at a;exact a
     |true=>rw[ξ rfl]at h1;cases h1
   . rw[other hj]at q;rw[bN hj];exact R.im j d' q
 . by_cases hj:j=i
   . subst hj;obtain⟨h1,h2⟩:=here q;cases fr with
     |false=>rw[ψ η]at h1;cases h1
     |true=>
      rw[ξ rfl]at h1;cases h1
      unfold Apt at a
      rw[ξ rfl]at a
      obtain⟨p,rfl,a1,a2,a3,_⟩:=a
      exact⟨p,h2,a1,a2,a3⟩
   . rw[other hj]at q;rw[bN hj];exact R.ow j d' q
 . by_cases hj:j=i
   . by_cases hk:k=i
     . rw[hj,hk]
     . subst hj;obtain⟨h1,h2⟩:=here q1;rw[other hk]at q2;rw[bN hk]at z2;rw[h2]at z1;cases fr with
       |false=>rw[ψ η]at h1;cases h1
       |true=>
        unfold Apt at a
        rw[ξ rfl]at a
        obtain⟨p,rfl,_,_,_,a4⟩:=a
        cases z1
        exact absurd z2 (a4 k d2 q2)
   . by_cases hk:k=i
     . subst hk;obtain⟨h1,h2⟩:=here q2;rw[other hj]at q1;rw[bN hj]at z1;rw[h2]at z2;cases fr with
       |false=>rw[ψ η]at h1;cases h1
       |true=>
        unfold Apt at a
        rw[ξ rfl]at a
        obtain⟨p,rfl,_,_,_,a4⟩:=a
        cases z2
        exact absurd z1 (a4 j d1 q1)
     . rw[other hj]at q1;rw[other hk]at q2;rw[bN hj]at z1;rw[bN hk]at z2;exact R.ap j k d1 d2 b q1 q2 z1 z2
end
inductive SR where
 |nx (ρ:DS) |bk (ρ:DS) |ct (ρ:DS) |rt (d:D) |er (x:Ex) |st
def SK(K:Frag)(EX:XW)(fr:Bool)(Hc Hb:Hp)(De:Ends):SR->Prop
 | .nx ρ=>∀σ H H0,RS K Hc Hb H0 ρ σ H->De.nx σ H
 | .bk ρ=>∀σ H H0,RS K Hc Hb H0 ρ σ H->De.bk σ H
 | .ct ρ=>∀σ H H0,RS K Hc Hb H0 ρ σ H->De.ct σ H
 | .rt d=>∀v H,Out K fr Hc Hb d v H->De.rt v H
 | .er x=>EX.at x
 | .st=>False
def TSd(K:Frag)(EX:XW)(fr:Bool)(g:DS->SR):TS:=fun De σ H=>∃Hc Hb H0 ρ,Same EX.hb Hb/\RS K Hc Hb H0 ρ σ H/\SK K EX fr Hc Hb De (g ρ)
noncomputable def R.toS{α:Type}(r:R α)(k:α->SR):SR:=match r with
 | .ok a=>k a
 | .er x=>.er x
 | .st=>.st
noncomputable def sNx:DS->SR:=fun ρ=>.nx ρ
noncomputable def a9(g1 g2:DS->SR):DS->SR:=fun ρ=>match g1 ρ with
 | .nx av=>g2 av
 |r=>r
noncomputable def see(ρ:DS):DE:=ρ.map (Sl.see true)
def sIf(t:DE->R Bool)(g1 g2:DS->SR):DS->SR:=fun ρ=>(t (see ρ)).toS fun b=>if b=true then g1 ρ else g2 ρ
def c5(fr:Bool)(i:Nat)(m:List Bool)(f:DE->R D):DS->SR:=fun ρ=>(f (vis m ρ)).toS fun d=>.nx (K6 fr i d (t6 (keeps fr d) m ρ))
def e7(m:List Bool)(f:DE->R D):DS->SR:=fun ρ=>(f (vis m ρ)).toS fun d=>.rt d
noncomputable def O4(i:Nat):DS->SR:=fun ρ=>match ρ[i]? with
 |some (.ow d)=>.rt d
 |_=>.st
def G0(f:DE->R D):DS->SR:=fun ρ=>(f (see ρ)).toS fun _=>.nx ρ
section
variable {K:Frag}{EX:XW}{fr:Bool}{Hc Hb H0 H H':Hp}{ρ:DS}{σ:St}{De:Ends}{m:List Bool}
def SK.toS:SK K EX fr Hc Hb De (r.toS k)=Rk EX.at r fun a=>SK K EX fr Hc Hb De (k a):=by cases r<;>rfl
theorem X1:∀(ρ:DS),vis (List.replicate ρ.length true) ρ=see ρ
 | []=>rfl
 |s::r=>by show s.see true::vis (List.replicate r.length true) r=_;rw[X1 r];rfl
def RS.extE(R:RS K Hc Hb H0 ρ σ H)(m:List Bool):Ext Hc Hb (HeOf m ρ σ H0 H) H:=
 ⟨R.ext.1.trans (R.he0 m),R.heH m,fun a h1 h2=>by
  have hb:¬Msk m ρ σ a:=fun z=>h1 (R.msk z).2.1
  rw[X5 hb];exact R.ext.2.2 a h1 h2⟩
def RS.te(I:RS K Hc Hb H0 ρ σ H)(sb:Same EX.hb Hb)(h:Rk EX.at (f (vis m ρ)) k)
  (hk:∀d,k d->∀v H' aQ,RS K Hc Hb aQ (t6 (keeps dD d) m ρ) σ H'->Apt K dD Hb aQ (t6 (keeps dD d) m ρ) σ H' d v->Q v H'):TEd K EX dD f σ H Q:=
 ⟨sb.trans I.sb,vis m ρ,HeOf m ρ σ H0 H,I.heH m,I.re m,h.mono fun d z v H' o=>by obtain⟨aQ,R',a⟩:=I.out o;exact hk d z v H' aQ R' a⟩
def RS.tt(I:RS K Hc Hb H0 ρ σ H)(sb:Same EX.hb Hb)(h:Rk EX.at (f (see ρ)) k)(hk:∀b,k b->∀H',RS K Hc Hb H0 ρ σ H'->Q b H'):TTd K EX f σ H Q:=by refine⟨sb.trans I.sb,see ρ,HeOf (List.replicate ρ.length true) ρ σ H0 H,I.heH _,?_,h.mono fun b z H' s=>hk b z H' (I.grow s)⟩;rw[<-X1];exact I.re _
def jU(h:TSd K EX fr sNx De σ H):Qy De σ H:=by obtain⟨Hc,Hb,H0,ρ,sb,R,h⟩:=h;exact h σ H H0 R
def y2s(h:TSd K EX fr (a9 g1 g2) De σ H):kB (TSd K EX fr g1) (TSd K EX fr g2) De σ H:=by
 obtain⟨Hc,Hb,H0,ρ,sb,R,h⟩:=h;refine⟨Hc,Hb,H0,ρ,sb,R,?_⟩;unfold a9 at h;cases q:g1 ρ with
 |nx av=>rw[q]at h;exact fun ag H' ae R'=>⟨Hc,Hb,ae,av,sb,R',h⟩
 |bk av=>rw[q]at h;exact h
 |ct av=>rw[q]at h;exact h
 |rt d=>rw[q]at h;exact h
 |er x=>rw[q]at h;exact h
 |st=>rw[q]at h;exact h
def Ql(h:TSd K EX fr (sIf t g1 g2) De σ H):kA (TTd K EX t) (TSd K EX fr g1) (TSd K EX fr g2) De σ H:=by
 obtain⟨Hc,Hb,H0,ρ,sb,R,h⟩:=h;unfold sIf at h;rw[SK.toS]at h;refine R.tt sb h fun b h H' R'=>?_
 cases b with
 |true=>exact⟨Hc,Hb,H0,ρ,sb,R',h⟩
 |false=>exact⟨Hc,Hb,H0,ρ,sb,R',h⟩
def Da(h:TSd K EX fr (c5 dD i m f) De σ H):J2 (TEd K EX dD f) (B7 i) De σ H:=by obtain⟨Hc,Hb,H0,ρ,sb,R,h⟩:=h;unfold c5 at h;rw[SK.toS]at h;exact R.te sb h fun d h v H' aQ R' a=>h _ H' aQ (R'.put a i)
def y2t(h:TSd K EX fr (e7 m f) De σ H):Qc (TEd K EX fr f) De σ H:=by obtain⟨Hc,Hb,H0,ρ,sb,R,h⟩:=h;unfold e7 at h;rw[SK.toS]at h;exact⟨sb.trans R.sb,vis m ρ,HeOf m ρ σ H0 H,R.heH m,R.re m,h.mono fun d z v H' o=>z v H' (o.after R.sb (R.extE m))⟩
def qQ(h:TSd K EX true (O4 i) De σ H):Qc (E0 i) De σ H:=by
 obtain⟨Hc,Hb,H0,ρ,sb,R,h⟩:=h;unfold O4 at h;split at h
 . rename_i d q;obtain⟨a,h1,h2,h3,h4⟩:=R.ow i d q;show E0 i σ H De.rt;unfold E0;rw[h1];exact h _ H (.fresh R.sb R.ext h3 h2 h4)
 . exact h.elim
def qP(h:TSd K EX fr (G0 f) De σ H):O3 (TEd K EX false f) De σ H:=by obtain⟨Hc,Hb,H0,ρ,sb,R,h⟩:=h;unfold G0 at h;rw[SK.toS]at h;refine⟨sb.trans R.sb,see ρ,HeOf (List.replicate ρ.length true) ρ σ H0 H,R.heH _,by rw[<-X1];exact R.re _,h.mono fun d z v H' o=>?_⟩;exact z σ H' H0 (R.grow o.1)
def RS.mutate(R:RS K Hc Hb H0 ρ σ H)(h:ρ[i]?=some (.ow d))(ha:σ[i]?=some (some (.ref a)))(ob:OB K H0 (upd H a o) a d'):RS K Hc Hb H0 (ρ.set i (.ow d')) σ (upd H a o):=by
 obtain⟨a',q1,q2,q3,q4⟩:=R.ow i d h;rw[ha]at q1;cases q1;have hi:i<ρ.length:=(FK.mp h).1;have other:∀{j:Nat}{s:Sl},j≠i->(ρ.set i s)[j]?=ρ[j]?:=fun {j s} h=>by rw[FI (GN h)]
 have here:(ρ.set i (.ow d'))[i]?=some (.ow d'):=by rw[GC hi]
 have sm:∀{H1:Hp},Same H1 H->H1 a=none->Same H1 (upd H a o):=fun s n=>s.upd_at n
 refine⟨sm R.sb q3,⟨R.ext.1,sm R.ext.2.1 q2,R.ext.2.2⟩,by rw[List.length_set];exact R.len,fun j d2 q=>?_,fun j d2 q=>?_,fun j k d1 d2 b z1 z2=>?_⟩
 . have hj:j≠i:=fun z=>by subst z;rw[here]at q;cases q
   rw[other hj]at q;exact R.im j d2 q
 . by_cases hj:j=i
   . subst hj;rw[here]at q;cases q;exact⟨a,ha,q2,q3,ob⟩
   . rw[other hj]at q;obtain⟨b,h1,h2,h3,h4⟩:=R.ow j d2 q;have hb:b≠a:=fun z=>hj (R.ap j i d2 d b q h h1 (by rw[z];exact ha))
     exact⟨b,h1,h2,h3,h4.at (d8 hb)⟩
 . have dH:∀{j:Nat}{d1:D},(ρ.set i (.ow d'))[j]?=some (.ow d1)->∃d0,ρ[j]?=some (.ow d0):=fun {j d1} z=>by
    by_cases hj:j=i
    . subst hj;exact⟨d,h⟩
    . rw[other hj]at z;exact⟨_,z⟩
   obtain⟨e1,z1⟩:=dH z1
   obtain⟨e2,z2⟩:=dH z2
   exact R.ap j k e1 e2 b z1 z2
def T9(K:Frag)(mt:D->List D->Option D)(r:V->List V->Hp->VK->Prop):Prop:=∀(H0 H:Hp)(a:Addr)(d d':D)(ds:List D)(vs:List V)(Q:VK),Same H0 H->H0 a=none->OB K H0 H a d->RDs K H0 ds vs->mt d ds=some d' ->
 (∀v o,OB K H0 (upd H a o) a d'->Q v (upd H a o))->r (.ref a) vs H Q
noncomputable def isT(T:String):D->Bool
 | .lst _=>T=="list"
 | .dk _ _=>T=="dict"
 | .dt _ _=>T=="dict"
 |_=>false
def TyD(K:Frag)(T:String):Prop:=∀(H0 H:Hp)(a:Addr)(d:D),OB K H0 H a d->isT T d=true->tyV K T (.ref a) H
def E3(T:String)(mt:D->List D->Option D)(i:Nat)(m:List Bool)(fs:DE->R (List D)):DS->SR:=fun ρ=>match ρ[i]? with
 |some (.ow d0)=>if isT T d0=true then(fs (vis m ρ)).toS fun ds=>match (t6 (i3 ds) m ρ)[i]? with
  |some (.ow d)=>(R.of (mt d ds)).toS fun d'=>.nx ((t6 (i3 ds) m ρ).set i (.ow d'))
  |_=>.st
  else .st
 |_=>.st
def Qk{T:String}{mt:D->List D->Option D}{r:V->List V->Hp->VK->Prop}{i:Nat}{fs:DE->R (List D)}(hm:T9 K mt r)(hT:TyD K T)(h:TSd K EX fr (E3 T mt i m fs) De σ H) :
  O3 (tBM K T r (E0 i) (TAd K EX fs)) De σ H:=by
 obtain⟨Hc,Hb,H0,ρ,sb,R,h⟩:=h
 unfold E3 at h
 split at h
 . rename_i d0 q0;split at h
   . rename_i eU;rw[SK.toS]at h;obtain⟨a,h1,h2,h3,h4⟩:=R.ow i d0 q0;unfold O3 tBM E0;rw[h1];refine⟨hT H0 H a d0 h4 eU,sb.trans R.sb,vis m ρ,HeOf m ρ σ H0 H,R.heH m,R.re m,h.mono fun ds h vs H' ae s e oO=>?_⟩;obtain⟨aQ,R',mM⟩:=R.outs s e oO;split at h
     . rename_i d q;rw[SK.toS]at h;obtain⟨d',cJ,h⟩:=h.of;obtain⟨a',z1,z2,z3,z4⟩:=R'.ow i d q;rw[h1]at z1;cases z1;exact hm aQ H' a d d' ds vs _ R'.ext.2.1 z2 z4 mM cJ fun v o ob=>h σ _ aQ (R'.mutate q h1 ob)
     . exact h.elim
   . exact h.elim
 . exact h.elim
def Apt.rd(a:Apt K false Hb H0 ρ σ H d v):RD K H0 d v:=by unfold Apt at a;rw[ψ η]at a;exact a
end
section
variable {K:Frag}{EX:XW}{fr:Bool}{Hc Hb H0 H H':Hp}{ρ:DS}{σ:St}{De:Ends}{m:List Bool}
inductive Tg where
 |n (i:Nat) |t (is:List Nat)
def Dv:List Nat->List D->DS->DS
 |i::is,d::ds,ρ=>Dv is ds (K6 false i d ρ)
 |_,_,ρ=>ρ
noncomputable def items:D->Option (List D)
 | .tup ds=>some ds
 | .lst ds=>some ds
 |_=>none
def L5:Tg->D->DS->Option DS
 | .n i,d,ρ=>some (K6 false i d ρ)
 | .t is,d,ρ=>(items d).bind fun ds=>if ds.length=is.length then some (Dv is ds ρ) else none
def TGd(K:Frag)(tg:Tg):TG:=fun v σ H Q=>∃Hc Hb H0 ρ d av,RS K Hc Hb H0 ρ σ H/\RD K H0 d v/\L5 tg d ρ=some av/\∀ag,RS K Hc Hb H0 av ag H->Q ag H
def RS.putI(I:RS K Hc Hb H0 ρ σ H)(r:RD K H0 d v)(i:Nat):RS K Hc Hb H0 (K6 false i d ρ) (σ.set i (some v)) H:=
 I.put (fr:=false) (by unfold Apt;rw[ψ η];exact r) i
def y71(h:TGd K (.n i) v σ H Q):B7 i v σ H Q:=by obtain⟨Hc,Hb,H0,ρ,d,av,I,r,e,q⟩:=h;simp only[L5,Option.some.injEq]at e;subst e;exact q _ (I.putI r i)
def Dt:List Nat->TGs
 | []=>Qo
 |i::is=>Sx (B7 i) (Dt is)
theorem Mp:∀(is:List Nat){ds:List D}{xs:List V}{ρ:DS}{σ:St}{Q:St->Hp->Prop},RS K Hc Hb H0 ρ σ H->RDs K H0 ds xs->ds.length=is.length->(∀ag,RS K Hc Hb H0 (Dv is ds ρ) ag H->Q ag H)->Dt is xs σ H Q
 | [],[],_,ρ,σ,Q,I,r,_,q=>by simp only[RDs]at r;subst r;exact q σ I
 | [],_::_,_,_,_,_,_,_,hl,_=>by simp at hl
 |_::_,[],_,_,_,_,_,_,hl,_=>by simp at hl
 |i::is,d::ds,_,ρ,σ,Q,I,r,hl,q=>by simp only[RDs]at r;obtain⟨x,xs,rfl,r1,r2⟩:=r;exact Mp is (I.putI r1 i) r2 (by simpa using hl) q
def y72(h:TGd K (.t is) v σ H Q):Ay is.length (Dt is) v σ H Q:=by
 obtain⟨Hc,Hb,H0,ρ,d,av,I,r,e,q⟩:=h;simp only[L5]at e;cases d<;>simp only[items,Option.bind_none,Option.bind_some]at e<;>first |cases e |skip
 . rename_i ds;split at e
   . rename_i hl;cases e;simp only[RD]at r;obtain⟨a,xs,rfl,ha,rs⟩:=r;unfold Ay;simp only[I.ext.2.1 a _ ha];exact⟨by rw[<-rs.length];exact hl,Mp is I rs hl q⟩
   . cases e
 . rename_i ds;split at e
   . rename_i hl;cases e;simp only[RD]at r;obtain⟨a,xs,rfl,ha,rs⟩:=r;unfold Ay;simp only[I.ext.2.1 a _ ha];exact⟨by rw[<-rs.length];exact hl,Mp is I rs hl q⟩
   . cases e
def Ak(tg:Tg)(m:List Bool)(f:DE->R D):DS->SR:=fun ρ=>(f (vis m ρ)).toS fun d=>match L5 tg d (t6 (keeps false d) m ρ) with
 |some av=>.nx av
 |none=>.st
def y2u(h:TSd K EX fr (Ak tg m f) De σ H):J2 (TEd K EX false f) (TGd K tg) De σ H:=by
 obtain⟨Hc,Hb,H0,ρ,sb,I,h⟩:=h;unfold Ak at h;rw[SK.toS]at h;refine I.te sb h fun d h v H' aQ I' a=>?_
 split at h
 . rename_i av q;exact⟨Hc,Hb,aQ,_,d,av,I',a.rd,q,fun ag I2=>h ag H' aQ I2⟩
 . exact h.elim
noncomputable def Hno:Hp:=fun _=>none
def Q9(K:Frag)(J:It)(H0:Hp)(ds:List D):Prop:=
 (∀(i:Nat) d,ds[i]?=some d->∀H H1,Same H0 H1->Same H1 H->J.go i H/\∀x H',J.yld i H x H'->Same H H'/\∃ao,Ext H1 H ao H'/\RD K ao d x)/\∀H,Same H0 H->J.stop ds.length H
def TId(K:Frag)(EX:XW)(kp:Bool)(f:DE->R (List D)):TI:=fun σ H Q=>Same EX.hb H/\∃ρ H0,Same H0 H/\RE K H0 ρ σ/\Rk EX.at (f ρ) fun ds=>∀J H' ae,Same H H'->Ext H0 H ae H'->Q9 K J (if kp=true then Hno else ae) ds->Q J H'
def l6(tg:Tg)(g:DS->SR):List D->DS->SR
 | [],ρ=>.nx ρ
 |d::ds,ρ=>match L5 tg d ρ with
  |none=>.st
  |some df=>match g df with
   | .nx aG=>l6 tg g ds aG
   | .ct aG=>l6 tg g ds aG
   | .bk aG=>.nx aG
   | .rt d=>.rt d
   | .er x=>.er x
   | .st=>.st
def E2(kp:Bool)(m:List Bool)(f:DE->R (List D))(tg:Tg)(g:DS->SR):DS->SR:=fun ρ=>(f (vis m ρ)).toS fun ds=>l6 tg g ds (t6 kp m ρ)
def Ext.base(a:Ext Hc Hb lS H)(b:Ext lS Hb H0 H'):Ext Hc Hb H0 H':=⟨a.1.trans b.1,b.2.1,fun c h1 h2=>b.nt h1 (a.2.2 c h1 h2)⟩
def RS.base(a:Ext Hc Hb lS H1)(I:RS K lS Hb H0 ρ σ H):RS K Hc Hb H0 ρ σ H:=⟨I.sb,a.base I.ext,I.len,I.im,I.ow,I.ap⟩
def RS.self(I:RS K Hc Hb H0 ρ σ H):RS K H0 Hb H0 ρ σ H:=⟨I.sb,⟨Same.refl _,I.ext.2.1,fun _ _ z=>.inl z⟩,I.len,I.im,I.ow,I.ap⟩
def Out.base(a:Ext Hc Hb lS H)(o:Out K fr lS Hb d v H'):Out K fr Hc Hb d v H':=by obtain⟨s,ae,e,r⟩:=o;exact⟨s,ae,a.base e,r⟩
def RS.sees(I:RS K Hc Hb H0 ρ σ H)(s:Same H H')(e:Ext H0 H ao H'):RS K Hc Hb ao ρ σ H':=
 ⟨I.sb.trans s,⟨I.ext.1.trans e.1,e.2.1,fun a h1 h2=>e.nt (I.sb.ne h1) (I.ext.2.2 a h1 h2)⟩,I.len,fun i d q=>by
  obtain⟨v,h1,h2⟩:=I.im i d q;exact⟨v,h1,h2.mono e.1⟩,fun i d q=>by
  obtain⟨a,h1,h2,h3,h4⟩:=I.ow i d q;obtain⟨u,hu,ni⟩:=h4.some;exact⟨a,h1,e.no s hu ni h2,h3,h4.mono e.1 s⟩,I.ap⟩
def y73(sb:Same EX.hb Hb)(I1:RS K Hc Hb Hn ρ σ H1)(eK:Q9 K J Hn ds)(h:SK K EX fr Hc Hb De (l6 tg g ds ρ)):kc J (TGd K tg) (TSd K EX fr g) De σ H1:=by
 have oP:Ext Hc Hb Hn H1:=I1.ext;refine⟨fun i mm σ H=>mm=ds.length - i/\i<=ds.length/\∃ρ H0,RS K Hn Hb H0 ρ σ H/\SK K EX fr Hc Hb De (l6 tg g (ds.drop i) ρ),⟨ds.length,by simp,FX _,_,Hn,I1.self,h⟩,?_⟩;rintro i mm σ H ⟨rfl,hi,ρ,H0,I2,h⟩;have sn:Same Hn H0:=I2.ext.1;by_cases ay:i<ds.length
 . have hd:ds[i]?=some ds[i]:=by simp[ay]
   obtain⟨lT,hy⟩:=eK.1 i _ hd H H0 sn I2.ext.2.1;have lU:ds.drop i=ds[i]::ds.drop (i+1):=Ib ay;rw[lU]at h;refine .inr ⟨lT,fun ag H'=>∃av ae,RS K Hn Hb ae av ag H'/\SK K EX fr Hc Hb De (l6 tg g (ds.drop (i+1)) av),fun ag H' ⟨av,ae,q⟩=>⟨ds.length - (i+1),by omega,rfl,ay,av,ae,q⟩,fun x H' y=>?_⟩;obtain⟨s3,H3,e3,r3⟩:=hy x H' y;have I3:=I2.sees s3 e3;unfold l6 at h;split at h
   . exact h.elim
   . rename_i df q1;refine⟨Hn,Hb,H3,ρ,ds[i],df,I3,r3,q1,fun ag I4=>⟨Hn,Hb,H3,df,sb,I4,?_⟩⟩;cases qg:g df with
     |nx aG=>rw[qg]at h;exact fun gN H5 ez I5=>⟨aG,ez,I5,h⟩
     |ct aG=>rw[qg]at h;exact fun gN H5 ez I5=>⟨aG,ez,I5,h⟩
     |bk aG=>rw[qg]at h;exact fun gN H5 ez I5=>h gN H5 ez (I5.base oP)
     |rt d=>rw[qg]at h;exact fun v H5 o=>h v H5 (o.base oP)
     |er x=>rw[qg]at h;exact h
     |st=>rw[qg]at h;exact h
 . have e:i=ds.length:=by omega
   subst e;rw[List.drop_length]at h;refine .inl ⟨eK.2 H (sn.trans I2.ext.2.1),?_⟩;exact h σ H H0 (I2.base oP)
def y2v(h:TSd K EX fr (E2 kp m f tg g) De σ H):Qq (TId K EX kp f) (TGd K tg) (TSd K EX fr g) De σ H:=by
 obtain⟨Hc,Hb,H0,ρ,sb,I,h⟩:=h;unfold E2 at h;rw[SK.toS]at h;refine⟨sb.trans I.sb,vis m ρ,HeOf m ρ σ H0 H,I.heH m,I.re m,h.mono fun ds h J H1 ao s1 e1 it=>?_⟩;obtain⟨Hn,I1,tk,eq,hn,sub⟩:=I.frame s1 e1 kp;have eK:Q9 K J Hn ds:=by
  cases kp with
  |true=>
   rw[ξ rfl]at it
   exact⟨fun i d q H H1 a b=>it.1 i d q H H1 (fun _ _ z=>nomatch z) b,fun H a=>it.2 H fun _ _ z=>nomatch z⟩
  |false=>rw[ψ η,<-eq rfl]at it;exact it
 exact y73 sb I1 eK h
def J6(t:DE->R Bool)(g:DS->SR):Nat->DS->SR
 | 0,_=>.st
 |n+1,ρ=>(t (see ρ)).toS fun b=>if b=true then(match g ρ with
  | .nx aG=>J6 t g n aG
  | .ct aG=>J6 t g n aG
  | .bk aG=>.nx aG
  | .rt d=>.rt d
  | .er x=>.er x
  | .st=>.st) else .nx ρ
def Dr(n:Nat)(t:DE->R Bool)(g:DS->SR):DS->SR:=J6 t g n
def wX(h:TSd K EX fr (Dr n t g) De σ H):Te (TTd K EX t) (TSd K EX fr g) De σ H:=by
 obtain⟨Hc,Hb,H0,ρ,sb,I,h⟩:=h;refine⟨fun mm σ H=>∃ρ H0,RS K Hc Hb H0 ρ σ H/\SK K EX fr Hc Hb De (J6 t g mm ρ),⟨n,ρ,H0,I,h⟩,?_⟩;rintro mm σ H ⟨ρ,H0,I,h⟩;cases mm with
 |zero=>exact h.elim
 |succ mm=>
  unfold J6 at h
  rw[SK.toS]at h
  refine I.tt sb h fun b h H' I'=>?_
  cases b with
  |false=>exact h σ H' H0 I'
  |true=>
   rw[ξ rfl]at h⊢
   refine⟨fun ag H'=>∃av ae,RS K Hc Hb ae av ag H'/\SK K EX fr Hc Hb De (J6 t g mm av),fun ag H' q=>⟨mm,Nat.lt_succ_self _,q⟩,Hc,Hb,H0,ρ,sb,I',?_⟩
   cases qg:g ρ with
   |nx aG=>rw[qg]at h;exact fun gN H5 ez I5=>⟨aG,ez,I5,h⟩
   |ct aG=>rw[qg]at h;exact fun gN H5 ez I5=>⟨aG,ez,I5,h⟩
   |bk aG=>rw[qg]at h;exact fun gN H5 ez I5=>h gN H5 ez I5
   |rt d=>rw[qg]at h;exact fun v H5 o=>h v H5 o
   |er x=>rw[qg]at h;exact h
   |st=>rw[qg]at h;exact h
noncomputable def R.noE{α:Type}(r:R α):R α:=match r with
 | .er _=>.st
 |r=>r
def Rk.noE{α:Type}{EX uw:Ex->Prop}{r:R α}{k:α->Prop}(h:Rk EX r.noE k):Rk uw r k:=by
 cases r with
 |ok a=>exact h
 |er x=>exact h.elim
 |st=>exact h
def BD(K:Frag)(bn:D->Option (List D))(B:V->Hp->(List V->Hp->Prop)->Prop):Prop:=∀(H0 H:Hp)(x:V)(d:D)(ds:List D)(Q:List V->Hp->Prop),Same H0 H->RD K H0 d x->bn d=some ds->(∀vs,RDs K H0 ds vs->Q vs H)->B x H Q
noncomputable def b1:D->Option (List D):=fun d=>some [d]
noncomputable def bT(n:Nat):D->Option (List D)
 | .tup ds=>if ds.length=n then some ds else none
 |_=>none
def Gr:BD K b1 cB1:=fun H0 H x d ds Q s r e q=>by simp only[b1,Option.some.injEq]at e;subst e;exact q [x] (.one r)
def jT:BD K (bT n) (cBT n):=fun H0 H x d ds Q s r e q=>by
 cases d<;>simp only[bT]at e<;>first |cases e |skip
 rename_i es;split at e
 . rename_i hl;cases e;simp only[RD]at r;obtain⟨a,xs,rfl,ha,rs⟩:=r;unfold cBT;simp only[s a _ ha];exact⟨by rw[<-rs.length];exact hl,q xs rs⟩
 . cases e
noncomputable def sel(ix:List Nat)(ρ:DE):DE:=ix.map fun j=>(ρ[j]?).getD none
def B6(bn:D->Option (List D))(t:DE->R Bool)(f:DE->R D)(cs:DE):List D->R (List D)
 | []=>.ok []
 |d::ds=>(R.of (bn d)).bind fun bs=>(t (bs.map some++cs)).noE.bind fun b=>if b=true then(f (bs.map some++cs)).noE.bind fun y=>(B6 bn t f cs ds).bind fun ys=>.ok (y::ys) else B6 bn t f cs ds
def o6(fi:DE->R (List D))(bn:D->Option (List D))(ix:List Nat)(t:DE->R Bool)(f:DE->R D):DE->R D:=fun ρ=>(fi ρ).bind fun ds=>if ds.length<=100000 then(B6 bn t f (sel ix ρ) ds).bind fun ys=>.ok (.lst ys) else .st
def RE.sel{ρ:DE}{vs:List V}{ds:List D}(h:RE K H0 ρ σ)(r:RDs K H0 ds vs)(ix:List Nat):RE K H0 (ds.map some++sel ix ρ) (vs.map some++D1 ix σ):=by
 have hl:=r.length;refine⟨by simp[L2.sel,D1,hl],fun i d e=>?_⟩;by_cases hi:i<ds.length
 . rw[FL (by simpa using hi),FF]at e;rw[FL (by simpa [<-hl] using hi),FF];cases q:ds[i]? with
   |none=>rw[q]at e;cases e
   |some d'=>
    rw[q]at e;cases e
    obtain⟨x,h1,h2⟩:=r.get' q
    exact⟨x,by rw[h1];rfl,h2⟩
 . rw[FZ (by simpa using hi)]at e;rw[FZ (by simpa [<-hl] using hi)];simp only[gc]at e⊢;rw[<-hl];unfold L2.sel at e;unfold D1;rw[FF]at e⊢;cases q:ix[i - ds.length]? with
   |none=>rw[q]at e;cases e
   |some j=>
    rw[q]at e
    simp only[FC,Option.some.injEq]at e⊢
    cases qj:ρ[j]? with
    |none=>rw[qj]at e;cases e
    |some o=>
     rw[qj]at e
     simp only[Option.getD_some]at e
     subst e
     obtain⟨v,h1,h2⟩:=h.2 j d qj
     exact⟨v,by rw[h1];rfl,h2⟩
def Fk(h:n<100000):n<sizeLine:=ES h (by decide)
def wW(hW:Same W.hb EX.hb)(hB:BD K bn B)(gn:∀σ H Q,TTd K F0 t σ H Q->tt σ H Q)
  (h:TEd K EX true (o6 fi bn ix t f) σ H Q):F8 (TId K EX kp fi) B ix tt (TEd K W false f) σ H Q:=by
 obtain⟨sx,ρ,H0,s,e,h⟩:=h
 unfold o6 at h
 rw[Rk.bind]at h
 refine⟨sx,ρ,H0,s,e,h.mono fun ds h J H1 ao s1 e1 it D hD=>?_⟩
 split at h
 . rename_i bB;rw[Rk.bind]at h;have eK:Q9 K J ao ds:=by
    cases kp with
    |true=>rw[ξ rfl]at it;exact⟨fun i d q H H1 a b=>it.1 i d q H H1 (fun _ _ z=>nomatch z) b,fun H a=>it.2 H fun _ _ z=>nomatch z⟩
    |false=>rw[ψ η]at it;exact it
   have e':=e.mono e1.1;have oQ:ao D=none:=e1.2.1.none hD;refine⟨fun i mm ys H2=>mm=ds.length - i/\i<=ds.length/\ys.length<=i/\∃acc aY,Same H1 H2/\H2 D=some (.lst ys)/\Ext ao H1 aY H2/\aY D=none/\RDs K aY acc ys /\
    Rk EX.at (B6 bn t f (L2.sel ix ρ) (ds.drop i)) fun rest=>∀v H',Out K true H0 H (.lst (acc++rest)) v H'->Q v H',⟨ds.length,by simp,FX _,ζ _,[],ao,Same.upd_new hD,j9,(Ext.refl e1.2.1).grow (Same.upd_new hD),oQ,.nil,h⟩,?_⟩
   rintro i mm ys H2 ⟨rfl,hi,eJ,acc,aY,s2,dM,e2,fV,r2,h⟩;refine⟨dM,?_⟩;by_cases ay:i<ds.length
   . have hd:ds[i]?=some ds[i]:=by simp[ay]
     obtain⟨lT,hy⟩:=eK.1 i _ hd H2 aY e2.1 e2.2.1;have lU:ds.drop i=ds[i]::ds.drop (i+1):=Ib ay;rw[lU]at h;unfold B6 at h;rw[Rk.bind]at h;obtain⟨bs,oS,h⟩:=h.of;rw[Rk.bind]at h;refine .inr ⟨lT,fun x H3 y=>?_⟩;obtain⟨s3,cj,e3,r3⟩:=hy x H3 y;refine hB cj H3 x _ bs _ e3.2.1 r3 oS fun vs oU=>?_
     have en:=(e'.mono (e2.1.trans e3.1)).sel oU ix;have oV:=e2.trans s2 e3;refine gn _ _ _ ⟨F0.same _,_,cj,e3.2.1,en,(Rk.noE h).mono fun b h H4 s4=>?_⟩;have eY:=s2.trans (s3.trans s4);have gO:H4 D=some (.lst ys):=s4 _ _ (s3 _ _ dM);have fW:cj D=none:=e3.no s3 dM (fun z=>z) fV;have gP:Ext ao H1 cj H4:=oV.grow s4;cases b with
     |false=>
      rw[ψ η]at h
      dsimp only
      rw[ψ η]
      exact⟨ds.length - (i+1),by lia,rfl,ay,by lia,acc,cj,eY,gO,gP,fW,r2.mono e3.1,h⟩
     |true=>
      rw[ξ rfl]at h
      dsimp only
      rw[ξ rfl]
      rw[Rk.bind]at h
      refine⟨hW.trans (sx.trans (s1.trans eY)),_,cj,gP.2.1,en,(Rk.noE h).mono fun y h w H5 o5=>?_⟩
      obtain⟨s5,lW,e5,r5⟩:=o5.rd
      have lX:H5 D=some (.lst ys):=s5 _ _ gO
      have fX:lW D=none:=e5.no s5 gO (fun z=>z) fW
      have gQ:=gP.trans eY e5
      rw[Rk.bind]at h
      refine⟨lX,Fk (by lia),ds.length - (i+1),by lia,rfl,ay,by rw[θ];show ys.length+1<=i+1;lia,acc++[y],lW,(eY.trans s5).upd_at hD,j9,⟨gQ.1,gQ.2.1.upd_at fX,gQ.2.2⟩,fX,((r2.mono (e3.1.trans e5.1))).append (.one r5),?_⟩
      exact h.mono fun rest h v H' o=>h v H' (by simpa using o)
   . have ei:i=ds.length:=by lia
     subst ei;rw[List.drop_length]at h;refine .inl ⟨eK.2 H2 (e2.1.trans e2.2.1),h _ H2 ?_⟩;rw[GL];refine Out.after s1 e1 (.fresh s2 e2 hD fV ?_);simp only[OB];exact⟨ys,dM,r2⟩
 . exact h.elim
def Dq(hB:BD K bn B)(gn:∀σ H Q,TTd K F0 t σ H Q->tt σ H Q)
 (h:TEd K EX true (o6 fi bn ix t f) σ H Q):F8 (TId K EX kp fi) B ix tt (TEd K F0 false f) σ H Q:=wW (F0.same _) hB gn h
noncomputable def mOf(fr:Bool)(n k:Nat)(g:DS->SR):List D->R D:=fun ds=>if ds.length=n then(match g (ds.map .im++List.replicate k .em) with
 | .rt d=>.ok d
 | .nx _=>if fr=true then .st else .ok .non
 | .er x=>.er x
 |_=>.st) else .st
def XFs(K:Frag)(x:Ex)(od:Option Addr)(H:Hp):Prop:=x.fs=[]\/∃(dx:Addr)(vs:List V)(ob:Obj),od=some dx/\H dx=some (.frz ob (.xd ((C4 x.cls).zip vs)))/\(i3 x.fs=true/\pls x.fs=true)/\RDs K H x.fs vs
def xNm(K:Frag)(mg:Str->Option Value)(E:XK)(x:Ex)(H:Hp):Prop:=∃C,mg (x.cls:Str)=some (.ref C)/\∀od,XFs K x od H->E (.ref C) od H
def spD(K:Frag)(mg:Str->Option Value)(fr:Bool)(m:List D->R D)(n:Nat):Sp:=fun vs H Q E=>∃ds H0,Same H0 H/\RDs K H0 ds vs/\ds.length=n/\Rk (XW.at ⟨H,xNm K mg E⟩) (m ds) fun d=>∀v H',Out K fr H0 H d v H'->Q v H'
noncomputable def Bk(sp:Sp)(E:XK)(t:TA):TE:=fun σ H Q=>t σ H fun vs H1=>sp vs H1 Q E
def Su{mg:Str->Option Value}{E:XK}{m:List D->R D}{n:Nat}{fs:DE->R (List D)}{Q:VK}(hl:∀ds,ds.length≠n->m ds=.st)(hE:∀x H,EX.p x H->xNm K mg E x H)(h:TEd K EX fr (c9 m fs) σ H Q):Bk (spD K mg fr m n) E (TAd K EX fs) σ H Q:=by
 obtain⟨sx,ρ,H0,s,e,h⟩:=h;unfold c9 at h;rw[Rk.bind]at h;refine TAd.go sx s e h fun ds h vs H1 ao s1 e1 r1=>?_
 refine⟨ds,ao,e1.2.1,r1,?_,?_⟩
 . apply GO;intro hn;rw[hl ds hn]at h;exact h
 . cases q:m ds with
   |ok d=>rw[q]at h;exact fun v H' o=>h v H' (o.after s1 e1)
   |er x=>rw[q]at h;exact fun H' s'=>hE x H' (h H' ((sx.trans s1).trans s'))
   |st=>rw[q]at h;exact h
def Eh(ds:List D)(h:ds.length≠n):mOf fr n k g ds=.st:=by unfold mOf;rw[ψ h]
def yP(s:Same H0 H)(r:RDs K H0 ds vs)(k:Nat):RS K H0 H H0 (ds.map .im++List.replicate k .em) (vs.map some++List.replicate k none) H:=by
 have hl:=r.length;have nD:∀(i:Nat) d,(ds.map Sl.im++List.replicate k Sl.em)[i]?≠some (.ow d):=fun i d q=>by
  rcases GW.mp (FP q) with z |z
  . obtain⟨_,_,z⟩:=GV.mp z;cases z
  . have:=(List.mem_replicate.mp z).2;cases this
 refine⟨Same.refl _,.refl s,by simp[hl],fun i d q=>?_,fun i d q=>absurd q (nD i d),fun i j d e a q=>absurd q (nD i d)⟩;by_cases hi:i<ds.length
 . rw[FL (by simpa using hi),FF]at q;rw[FL (by simpa [<-hl] using hi),FF];cases qd:ds[i]? with
   |none=>rw[qd]at q;cases q
   |some d'=>
    rw[qd]at q
    simp only[FC,Option.some.injEq,Sl.im.injEq]at q
    subst q
    obtain⟨x,h1,h2⟩:=r.get' qd
    exact⟨x,by rw[h1];rfl,h2⟩
 . rw[FZ (by simpa using hi)]at q;have:=(List.mem_replicate.mp (FP q)).2;cases this
def qO(h:spD K mg fr (mOf fr n k g) n vs H Q E) :
  TSd K ⟨H,xNm K mg E⟩ fr g { nx:=fun _ H'=>Q .non H',rt:=Q } (vs.map some++List.replicate k none) H:=by
 obtain⟨ds,H0,s,r,hn,h⟩:=h
 refine⟨H0,H,H0,_,Same.refl _,yP s r k,?_⟩
 unfold mOf at h
 rw[ξ hn]at h
 cases q:g (ds.map .im++List.replicate k .em) with
 |nx ρ=>
  rw[q]at h
  cases fr with
  |true=>exact h.elim
  |false=>exact fun σ H' ae I=>h _ H' (.val I.sb I.ext (by simp only[RD]))
 |rt d=>rw[q]at h;exact h
 |er x=>rw[q]at h;exact h
 |bk ρ=>rw[q]at h;exact h.elim
 |ct ρ=>rw[q]at h;exact h.elim
 |st=>rw[q]at h;exact h.elim
end
structure Flt{α:Type}(t:Sem α):Prop where
 go:∀{M:Model}{Γ:PySem.Ctx}{Q Q':α->Pos->Shared->Prop}{E E':Value->Pos->Shared->Prop}{p:Pos}{s:Shared},
 t.wp M Γ Q E p s->t.wp M Γ Q' E' p s->t.wp M Γ (fun a p s=>Q a p s/\Q' a p s) (fun a p s=>E a p s/\E' a p s) p s
def Flt.bind(h:Flt t)(k:∀a,Flt (f a)):Flt (t >>= f):=by refine⟨fun x y=>?_⟩;rw[Sem.wp_bind']at x y⊢;exact Sem.wp_mono _ _ _ (fun a _ _ z=>(k a).go z.1 z.2) (fun _ _ _ z=>z) _ _ (h.go x y)
def Flt.pure(a:α):Flt (Pure.pure a:Sem α):=⟨fun x y=>⟨x,y⟩⟩
def Flt.uns(w:String):Flt (unsupported w:Sem α):=⟨fun x _=>x.elim⟩
def Flt.stack:Flt PySem.stack:=⟨fun x y=>⟨x,y⟩⟩
def Flt.alloc(o:Obj):Flt (PySem.alloc o):=⟨fun x y=>⟨x,y⟩⟩
def Flt.update(a:Addr)(f:Obj->Obj):Flt (PySem.update a f):=⟨fun x y=>⟨x.1,x.2,y.2⟩⟩
def Flt.load(a:Addr):Flt (PySem.load a):=⟨fun⟨o,e,x⟩ ⟨o',e',y⟩=>by rw[e]at e';cases e';exact⟨o,e,x,y⟩⟩
def Flt.cells(v:Value):Flt (fieldsOf v):=by cases v<;>first |exact .uns _ |exact .bind (.load _) fun o=>by split<;>first |exact .pure _ |exact .uns _
def Flt.field(v:Value)(i:Nat):Flt (PySem.field v i):=.bind (.cells v) fun vs=>by split<;>first |exact .pure _ |exact .uns _
def Flt.put(v:Value)(i:Nat)(x:Value):Flt (setField v i x):=by cases v<;>first |exact .uns _ |exact .bind (.load _) fun o=>by split<;>first |exact .uns _ | (split<;>first |exact .update _ _ |exact .uns _)
def Flt.flight(e:Value)(f:Option Addr):Flt (setFlight e f):=.bind (.field e 1) fun tb=>by split<;>first |exact .put _ _ _ |exact .pure _
theorem Flt.ready:∀l:List Env,Flt (readyFrames l)
 | []=>.pure _
 |env::outer=>by
  unfold readyFrames;split<;>first |exact .uns _ |skip
  refine .bind (.load _) fun o=>?_
  split<;>first |exact .pure _ |skip
  refine .bind ?_ fun b=>.bind ?_ fun v=>.bind (.update _ _) fun _=>Flt.ready outer
  . unfold behindIsImport;split<;>first |exact .pure _ |skip
    split<;>first |exact .pure _ |exact .bind (.field _ _) fun _=>.pure _
  . unfold keptBack;split<;>first |exact .pure _ |skip
    split<;>first |exact .pure _ |exact .bind (.bind .stack fun _=>.pure _) fun _=>.pure _
def Flt.frame(env:Env):Flt (frameOf env):=.bind (.bind .stack fun _=>.pure _) fun es=>.bind (by
 unfold frameObject;split
 . exact .pure _
 . exact .bind (.ready _) fun _=>.pure _) fun f=>by split<;>first |exact .pure _ |exact .uns _
def Flt.fields(vs:List Value):Flt (newFields "traceback" vs):=by
 have h:Flt (newObjAsIs (.type "traceback") (.fields vs.toArray)):=.bind (.alloc _) fun a=>.pure _
 unfold newFields newObj;dsimp only;split
 . exact .bind (.uns _) fun _=>h
 . exact h
def Flt.entry(env:Env)(e head:Value)(L:Addr)(b:Bool):Flt (do let a <-frameOf env;let pl <-entryPlaceOf L b;let b <-EntryCells.newEntry head a .none (rawInt L) .none pl;setField e 1 b):=
 .bind (.frame env) fun _=>.bind (.bind .stack fun CZ=>by split<;>exact .pure _) fun _=>.bind (.fields _) fun _=>.put _ _ _
def Flt.note(e:Value)(env:Env):Flt (noteFrame e env):=by
 unfold noteFrame;split<;>first |exact .uns _ |skip
 refine .bind (.field _ _) fun head=>?_
 split
 . refine .bind (.field _ _) fun x=>?_
   split
   . exact .pure _
   . exact .bind (.put _ _ _) fun _=>.entry _ _ _ _ _
 . exact .entry _ _ _ _ _
def Fv(f:Flt t)(h:wpAny M A t Q E s)(k:wpAny M A t Q' E' s):wpAny M A t (fun a s=>Q a s/\Q' a s) (fun a s=>E a s/\E' a s) s:=
 fun Γ p ss=>f.go (h Γ p ss) (k Γ p ss)
section
variable {M:Model}{A:Around}{E:Value->Shared->Prop}{s:Shared}{base:Heap}{env:Env}{outer:List Env}{L e:Addr}{cls a0 fl:Value}{od:Option Addr}
def p5(e:Addr)(od:Option Addr)(h:Heap):Prop:=∀o,h.get? e=some o->o.dict=od
def yO(o:Obj)(f:Array Value->Array Value):(Obj.mapFields f o).dict=o.dict:=by unfold Obj.mapFields;split<;>rfl
def Lu(d:p5 e od h)(hb:∃o,h.get? b=some o/\∃vs,o.data=.fields vs):p5 e od (h.update b (Obj.mapFields f)):=by
 intro o ho;by_cases q:b=e
 . subst q;obtain⟨ob,h1,vs,h2⟩:=hb;rw[Ia _ h1 (Obj.isFreed_of_fields (Obj.data_mapFields h2 f))]at ho;cases ho;rw[yO];exact d _ h1
 . rw[FS _ _ q]at ho;exact d o ho
def Eg(T:Addr):(Value.ref T != Value.none)=true:=by simp
def qN(L:Addr):(Value.none==rawInt L)=false:=by simp[rawInt]
def Zj(ht:s.heap.TracedAtW base e cls a0 fl)(d:p5 e od s.heap):wpAny M A (setFlight (.ref e) none) (fun _ s'=>p5 e od s'.heap) E s:=by obtain⟨oe,vs,T,oT,ts,he,-,hd,h1,-,-,hT,aV,h3⟩:=ht;have oW:=(HF.mp h3).1;unfold setFlight;exact δ (wpAny_field he hd h1 (by rw[ξ (Eg T)];exact wpAny_setField hT aV oW (Lu d ⟨_,hT,_,aV⟩)))
def Yq(bq:A.frames=some (env::outer))(hl:s.heap.FunFrames base (env::outer))(hf:env.frame=some L)(he:s.heap.get? e=some oe)(hd:oe.data=.fields vs)(bB:1<vs.size)(d:p5 e od s.heap) :
  wpAny M A (do let a <-frameOf env;let pl <-entryPlaceOf L pV;let b <-EntryCells.newEntry head a .none (rawInt L) .none pl;setField (.ref e) 1 b) (fun _ s'=>p5 e od s'.heap) E s:=by
 have nf:e∉(env::outer).filterMap (·.frame):=fun hm=>by obtain⟨_,o,ho,gS⟩:=hl.mem hm;rw[he]at ho;cases ho;exact gS vs hd
 refine δ (wpAny_frameOf_fun bq hl hf fun h1 hs=>δ (wpAny_entryPlaceOf fun pl hpl=>?_))
 unfold EntryCells.newEntry newFields
 refine δ (wpAny_newObj_type ?_ (hpl.sizeOk5 _ _ _ _ _))
 have ux:h1.get? e=some oe:=(hs.2.1 e nf).trans he
 have oX:=τ (h:=h1) { cls:=.type "traceback",dict:=none,data:=.fields ([head,.ref L,.none,rawInt L,.none]++(if pl.isEmpty then List.replicate 6 Value.none else pl)).toArray } ux
 refine wpAny_setField oX hd bB (Lu (fun o ho=>?_) ⟨_,oX,_,hd⟩)
 rw[oX]at ho;cases ho
 exact d _ he
def zE(bq:A.frames=some (env::outer))(hl:s.heap.FunFrames base (env::outer))(hf:env.frame=some L)(ht:s.heap.TracedW base e cls a0)(d:p5 e od s.heap) :
  wpAny M A (noteFrame (.ref e) env) (fun _ s'=>p5 e od s'.heap) E s:=by
 obtain⟨oe,vs,T,oT,ts,he,-,hd,h1,-,ck,hT,aV,h3⟩:=ht
 have in1:=(HF.mp h1).1
 have oW:=(HF.mp h3).1
 have sw:∀b,T≠b->(s.heap.update T (Obj.mapFields (·.setIfInBounds 3 Value.none))).get? b=s.heap.get? b:=fun b hb=>FS _ _ hb
 have fr:(s.heap.update T (Obj.mapFields (·.setIfInBounds 3 Value.none))).FunFrames base (env::outer):=hl.of_keeps fun b o hb nf=>⟨o,(sw b fun z=>by rw[<-z,hT]at hb;cases hb;exact nf ts aV).trans hb,rfl⟩
 unfold noteFrame
 simp only[hf]
 exact δ (wpAny_field he hd h1 (by rw[ξ (Eg T)];exact δ (wpAny_field hT aV h3 (by rw[ψ (by rw[qN];exact η)];exact δ (wpAny_setField hT aV oW (Yq bq fr hf ((sw e ck).trans he) hd in1 (Lu d ⟨_,hT,_,aV⟩)))))))
end
section
variable {M:Model}{A:Around}{E:Value->Shared->Prop}{s:Shared}{base:Heap}{env:Env}{outer:List Env}{L e:Addr}{cls a0:Value}{od:Option Addr}{Q:Unit->Shared->Prop}
def Ef(hh:Heap.HeldW base (env::outer) e cls a0 L s.heap)(d:p5 e od s.heap)(hQ:∀h',Heap.FlyingW base (env::outer) e cls a0 h'->s.heap.UpToSlots h'->p5 e od h'->Q () { s with heap:=h' }):wpAny M A (setFlight (.ref e) none) Q E s:=
 EU (Fv (E:=E) (E':=E) (.flight _ _) (wpAny_landsW hh (Q:=fun _ s'=>∃h',s'={ s with heap:=h' }/\Heap.FlyingW base (env::outer) e cls a0 h'/\s.heap.UpToSlots h') fun h' f u=>⟨h',rfl,f,u⟩) (Zj hh.2.2.2 d))
  (fun _ s' ⟨⟨h',e1,f,u⟩,d'⟩=>by subst e1;exact hQ h' f u d') fun _ _ z=>z.1
def Ky(bq:A.frames=some (env::outer))(hf:env.frame=some L)(bD:Heap.FlyingW base (env::outer) e cls a0 s.heap)(d:p5 e od s.heap)
  (hQ:∀h',Heap.HeldW base (env::outer) e cls a0 L h'->s.heap.UpToSlots h'->p5 e od h'->Q () { s with heap:=h' }):wpAny M A (noteFrame (.ref e) env) Q E s:=
 EU (Fv (E:=E) (E':=E) (.note _ _) (wpAny_looks_onW bq hf bD (Q:=fun _ s'=>∃h',s'={ s with heap:=h' }/\Heap.HeldW base (env::outer) e cls a0 L h'/\s.heap.UpToSlots h') fun h' f u=>⟨h',rfl,f,u⟩) (zE bq bD.2.2.1 hf bD.2.2.2 d))
  (fun _ s' ⟨⟨h',e1,f,u⟩,d'⟩=>by subst e1;exact hQ h' f u d') fun _ _ z=>z.1
def yN(bq:A.frames=some (env::outer))(hf:env.frame=some L)(bD:Heap.FlyingW base (env::outer) e cls a0 s.heap)(d:p5 e od s.heap)
  (hQ:∀h',Heap.FlyingW base outer e cls a0 h'->s.heap.UpToSlots h'->p5 e od h'->Q () { s with heap:=h' }):wpAny M A (leaving env (.ref e)) Q E s:=by
 unfold leaving
 refine δ (Ky bq hf bD d fun h1 hh u1 d1=>Ef (s:={ s with heap:=h1 }) hh d1 fun h2 f u2 d2=>hQ h2 ?_ (u1.trans u2) d2)
 obtain⟨k1,k2,⟨_,_,k3⟩,k4⟩:=f
 exact⟨k1,k2,k3,k4⟩
def wV(bq:A.frames=some (env::outer))(hl:s.heap.FunFrames base (env::outer))(hf:env.frame=some L)(he:s.heap.get? e=some oe)(iC:base.StaysIn s.heap)(gT:base.get? e=none)(hd:oe.data=.fields vs)(h1:vs[1]?=some .none)(h0:vs[0]?=some a0)(d:p5 e od s.heap)
  (hQ:∀h',Heap.FlyingW base outer e oe.cls a0 h'->s.heap.UpToSlots h'->p5 e od h'->Q () { s with heap:=h' }):wpAny M A (leaving env (.ref e)) Q E s:=by
 have bB:=(HF.mp h1).1
 unfold leaving noteFrame
 simp only[hf]
 refine δ (δ (wpAny_field he hd h1 ?_))
 rw[ψ (by decide)]
 refine EU (Fv (E:=E) (E':=E) (.entry _ _ _ _ _) (wpAny_entryW bq hl hf he iC gT hd bB h0 (Q:=fun _ s'=>∃h',s'={ s with heap:=h' }/\Heap.NotedW base (env::outer) e oe.cls a0 (rawInt L) s.heap h') fun h' n=>⟨h',rfl,n⟩) (Yq bq hl hf he hd bB d)) (fun _ s' z=>?_) fun _ _ z=>z.1
 obtain⟨⟨h',e1,n1,n2,n3,n4⟩,d1⟩:=z
 subst e1
 refine Ef (s:={ s with heap:=h' }) ⟨n1,gT,n2,n3⟩ d1 fun h2 f u2 d2=>hQ h2 ?_ (Heap.UpToSlots.trans n4 u2) d2
 obtain⟨k1,k2,⟨_,_,k3⟩,k4⟩:=f
 exact⟨k1,k2,k3,k4⟩
end
def ObjOk.there(x:ObjOk P w H h a o):∃ob,h.get? a=some ob:=by
 induction o with
 |lst xs=>obtain⟨_,_,_,_,e⟩:=x;exact⟨_,e⟩
 |tup xs=>obtain⟨_,_,_,ob,e,_⟩:=x;exact⟨_,e⟩
 |dK kvs=>obtain⟨_,_,_,_,o,_,_,e,_⟩:=x;exact⟨_,e⟩
 |dT kvs=>obtain⟨_,_,_,_,o,_,_,e,_⟩:=x;exact⟨_,e⟩
 |set S n=>obtain⟨o,_,_,_,e,_⟩:=x;exact⟨_,e⟩
 |ins C dx fs=>obtain⟨_,_,_,e,_⟩:=x;exact⟨_,e⟩
 |own y=>exact x
 |xd fs=>obtain⟨_,⟨_,_,_,e,_⟩,_⟩:=x;exact⟨_,e⟩
 |rng lo hi=>obtain⟨_,_,_,e⟩:=x;exact⟨_,e⟩
 |frz ob u ih=>exact⟨_,x.1⟩
 |tbl ps=>exact⟨_,x⟩
 |ctb q=>obtain⟨_,e,_⟩:=x;exact⟨_,e⟩
 |met f y=>exact⟨_,x⟩
 |ext φ=>exact x.2.1
def HOk.none(x:HOk P w H h)(e:h.get? a=Option.none):H a=Option.none:=by
 cases q:H a with
 |none=>rfl
 |some o=>
  obtain⟨ob,z⟩:=(x a o q).there
  rw[e]at z;cases z
def Fly(h0:Heap)(H':Hp)(C a:Addr)(od:Option Addr)(h:Heap):Prop:=∃oe vs T oT ts a0,h.get? a=some oe/\oe.cls=.ref C/\vs[0]?=some a0/\oe.data=.fields vs/\vs[1]?=some (.ref T)/\T≠a/\h.get? T=some oT/\oT.data=.fields ts/\ts[3]?=some Value.none /\
 h0.get? a=none/\h0.get? T=none/\H' a=none/\H' T=none/\oe.dict=od/\∀dx,od=some dx->h0.get? dx=none
structure XOut(P:Program)(w:World)(outer:List Env)(H:Hp)(s:Shared)(C a:Addr)(od:Option Addr)(H':Hp)(s':Shared):Prop where
 os:s'.os=s.os
 bare:AllBare s'.gens
 un:Un (frs outer) [] H H' s.heap s'.heap
 hok:HOk P w H' s'.heap
 fly:Fly s.heap H' C a od s'.heap
noncomputable def CX1(P:Program)(w:World):CXT:=fun outer H s E e s'=>∃C a od H',e=.ref a/\XOut P w outer H s C a od H' s'/\E (.ref C) od H'
def Mo(e:(hideAll h l).get? b=none):b∈l\/h.get? b=none:=by
 by_cases hb:b∈l
 . exact .inl hb
 . cases q:h.get? b with
   |none=>exact .inr rfl
   |some o=>rw[hideAll_get l q hb]at e;cases e
section
variable {X:Cx}{pins:List (Addr×Obj)}{σ:List (Option V)}{H1 H2:Hp}{s1 s2:Shared}{h' B:Heap}{Z:List Addr}{C a:Addr}{a0:Value}{od:Option Addr}
def Inv.stack2(I:Inv X pins σ H1 s1)(un:Un (frs X.stack) [] H1 H2 s1.heap s2.heap):s2.heap.FunFrames X.base X.stack:=by
 have all:∀(l:List Env),(∀b∈frs l,b∈frs X.stack)->s1.heap.FunFrames X.base l->s2.heap.FunFrames X.base l:=by
  intro l;induction l with
  |nil=>intro _ _;trivial
  |cons env r ih=>
   intro hs hl
   obtain⟨hk,⟨L,o,hf,hn,ho,hd⟩,hr⟩:=hl
   have hL:L∈frs X.stack:=hs L (by unfold frs;rw[FO,hf];exact io)
   obtain⟨sl,e⟩:=un.slot L o ho (I.stkFree L hL) hL (by simp)
   exact⟨hk,⟨L,_,hf,hn,e,hd⟩,ih (fun b hb=>hs b (by unfold frs;rw[FO,hf];exact bI _ hb)) hr⟩
 exact all X.stack (fun _ hb=>hb) I.stack
def Yp(I:Inv X pins σ H1 s1)(aF:X.stack=X.env::X.outer)(hex:X.ex=[])(eV:s2.os=s1.os)(dW:AllBare s2.gens)(un:Un (frs X.stack) [] H1 H2 s1.heap s2.heap)(hok:HOk X.prog X.w H2 s2.heap)
  (hZ:∀b∈Z,s1.heap.get? b=none/\H2 b=none) (ha:s1.heap.get? a=none) (cF:H2 a=none) (keep:∀b o,s2.heap.get? b=some o->b∉Z->b∉frs X.stack->h'.get? b=some o)
  (up:s2.heap.UpToSlots h') (hB:∀b,B.get? b=none->b∈frs X.stack\/(s1.heap.get? b=none/\H2 b=none)) (bD:Heap.FlyingW B X.outer a (.ref C) a0 h') (bE:p5 a od h') (eL:∀dx,od=some dx->s1.heap.get? dx=none) :
  XOut X.prog X.w X.outer X.H₀ X.s₀ C a od H2 { s2 with heap:=h' }:=by
 have base:Un X.fs [] X.H₀ H1 X.s₀.heap s1.heap:=hex ▸ I.base
 have F2:=I.stack2 un
 have sub:∀b∈frs X.outer,b∈frs X.stack:=fun b hb=>by
  rw[aF];unfold frs;cases q:X.env.frame with
  |none=>rw[FO,q];exact hb
  |some L=>rw[FO,q];exact bI _ hb
 have eG:∀b o,X.s₀.heap.get? b=some o->b≠X.env.locals:=fun b o e=>ER (ES (π e) I.ok.above)
 have fY:∀b o,X.s₀.heap.get? b=some o->b∉frs X.outer->b∉frs X.stack:=fun b o e hb z=>(ee.mp (I.stkSub b z)).elim (eG b o e) hb
 have aO:∀b,s1.heap.get? b=none->X.s₀.heap.get? b=none:=fun b e=>by
  cases q:X.s₀.heap.get? b with
  |none=>rfl
  |some o=>
   obtain⟨o',z⟩:=base.there b o q (by simp)
   rw[e]at z;cases z
 have lY:∀b o,X.s₀.heap.get? b=some o->b∉Z:=fun b o e hb=>by rw[aO b (hZ b hb).1]at e;cases e
 have dj:∀b∈frs X.stack,H2 b=none:=fun b hb=>by obtain⟨_,o,ho,_⟩:=I.stack.mem hb;exact un.free b o ho (I.stkFree b hb) (by simp)
 have bM:∀b∈frs X.stack,∀o,s2.heap.get? b=some o->∃sl,h'.get? b=some { o with slots:=sl }:=fun b hb o e=>by obtain⟨_,o',aS,hd⟩:=F2.mem hb;rw[e]at aS;cases aS;exact up b o e hd
 refine⟨by show s2.os=_;rw[eV,I.os],dW,⟨fun b o e n hb _=>?_,fun b o e n hb _=>?_,fun b o e n _=>?_,fun b o e _=>?_,fun b xs e=>un.tups b xs (base.tups b xs e),fun b o u e=>un.frzs b o u (base.frzs b o u e),fun b ps e=>?_⟩,fun b o e=>?_,?_⟩
 . exact keep b o (un.keep b o (base.keep b o e n hb (by simp)) (base.free b o e n (by simp)) (fY b o e hb) (by simp)) (lY b o e) (fY b o e hb)
 . obtain⟨sl,e1⟩:=base.slot b o e n hb (by simp);obtain⟨gp,e2⟩:=un.slot b _ e1 (base.free b o e n (by simp)) (sub b hb) (by simp);obtain⟨lZ,e3⟩:=bM b (sub b hb) _ e2;exact⟨lZ,e3⟩
 . obtain⟨o1,e1⟩:=base.there b o e (by simp);exact un.free b o1 e1 (base.free b o e n (by simp)) (by simp)
 . obtain⟨o1,e1⟩:=base.there b o e (by simp);obtain⟨o2,e2⟩:=un.there b o1 e1 (by simp);by_cases hb:b∈frs X.stack
   . obtain⟨sl,e3⟩:=bM b hb _ e2;exact⟨_,e3⟩
   . exact⟨o2,keep b o2 e2 (lY b o e) hb⟩
 . obtain⟨m1,e1⟩:=base.tbls b ps e;obtain⟨m2,e2⟩:=un.tbls b _ e1;exact⟨m1++m2,by rw[e2,IL]⟩
 . refine(hok b o e).stay (fun c v hc q=>keep c v q (fun hz=>?_) fun hf=>?_) (fun _ q=>q) fun _ _ q=>q
   . have:=(hZ c hz).2;rcases hc with rfl |hc
     . rw[e]at this;cases this
     . rw[hc]at this;cases this
   . have:=dj c hf;rcases hc with rfl |hc
     . rw[e]at this;cases this
     . rw[hc]at this;cases this
 . obtain⟨_,_,_,oe,vs,T,oT,ts,he,⟨hc,h0⟩,hd,h1,eM,ck,hT,aV,h3⟩:=bD;have ma:s1.heap.get? T=none/\H2 T=none:=by
    rcases hB T eM with z |z
    . obtain⟨_,o',aS,cJ⟩:=F2.mem z;obtain⟨sl,e3⟩:=bM T z o' aS;rw[hT]at e3;cases e3;exact absurd aV (cJ ts)
    . exact z
   exact⟨oe,vs,T,oT,ts,a0,he,hc,h0,hd,h1,ck,hT,aV,h3,aO a ha,aO T ma.1,cF,ma.2,bE _ he,fun dx e=>aO dx (eL dx e)⟩
def yM(I:Inv X pins σ H1 s1)(aF:X.stack=X.env::X.outer)(hex:X.ex=[])(hf:X.env.frame=some X.env.locals)(x:XOut X.prog X.w X.stack H1 s1 C a od H2 s2)
  (h:∀s',XOut X.prog X.w X.outer X.H₀ X.s₀ C a od H2 s'->Q () s'):wpAny (model X.prog X.w) X.A (leaving X.env (.ref a)) Q E s2:=by
 obtain⟨oe,vs,T,oT,ts,a0,he,hc,h0,hd,h1,ck,hT,aV,h3,na,nT,ha,gU,gW,eL⟩:=id x.fly
 have F2:=I.stack2 x.un
 have dN:∀env∈X.stack,∀b,env.frame=some b->b∈a::T::frs X.stack:=fun env he b hb=>bI _ (bI _ (GS.mpr ⟨env,he,hb⟩))
 have bq:X.A.frames=some (X.env::X.outer):=by rw[<-aF];exact I.ok.frames
 refine yN (od:=od) (base:=hideAll s2.heap (a::T::frs X.stack)) (cls:=.ref C) (a0:=a0) bq hf ⟨fun b o q=>of_hideAll _ q,hideAll_none _ (.head _),aF ▸ funFrames_hide F2 dN,?_⟩ (fun o ho=>by rw[he]at ho;cases ho;exact gW) fun h' bD up bE=>h _ (Yp (Z:=[a,T]) I aF hex x.os x.bare x.un x.hok (fun b hb=>?_) na ha (fun b o q hz gK=>bD.1 b o (hideAll_get _ q ?_)) up (fun b q=>?_) bD bE eL)
 . exact⟨oe,vs,T,oT,ts,he,⟨hc,h0⟩,hd,h1,hideAll_none _ (.tail _ (.head _)),ck,hT,aV,h3⟩
 . rcases ee.mp hb with rfl |hb
   . exact⟨na,ha⟩
   . have:b=T:=by simpa using hb
     subst this;exact⟨nT,gU⟩
 . intro z;rcases ee.mp z with rfl |z
   . exact hz (.head _)
   . rcases ee.mp z with rfl |z
     . exact hz (.tail _ (.head _))
     . exact gK z
 . rcases Mo q with z |z
   . rcases ee.mp z with rfl |z
     . exact .inr ⟨na,ha⟩
     . rcases ee.mp z with rfl |z
       . exact .inr ⟨nT,gU⟩
       . exact .inl z
   . refine .inr ⟨?_,x.hok.none z⟩;cases q1:s1.heap.get? b with
     |none=>rfl
     |some o=>
      obtain⟨o',e'⟩:=x.un.there b o q1 (by simp)
      rw[z]at e';cases e'
structure MadeX(h h':Heap)(e C:Addr)(od:Option Addr):Prop where
 new:h.get? e=none
 newd:∀dx,od=some dx->h.get? dx=none
 there:∃oe vs a0,h'.get? e=some oe/\oe.cls=.ref C/\oe.dict=od/\oe.data=.fields vs/\vs[0]?=some a0/\vs[1]?=some .none
def MadeX.of(x:Heap.MadeExcOf h h' e (.ref C) args):MadeX h h' e C none:=by obtain⟨t,he,_,_⟩:=x.there;exact⟨x.new,(fun _ z=>nomatch z),_,_,_,he,rfl,rfl,rfl,rfl,rfl⟩
def zix(I:Inv X pins σ H1 s1)(aF:X.stack=X.env::X.outer)(hex:X.ex=[])(hf:X.env.frame=some X.env.locals)(hx:MadeX s1.heap s2.heap a C od)(hok:HOk X.prog X.w H2 s2.heap)(un:Un (frs X.stack) [] H1 H2 s1.heap s2.heap)(cF:H2 a=none)(eV:s2.os=s1.os)(dW:AllBare s2.gens)
  (h:∀s',XOut X.prog X.w X.outer X.H₀ X.s₀ C a od H2 s'->Q () s'):wpAny (model X.prog X.w) X.A (leaving X.env (.ref a)) Q E s2:=by
 have dN:∀env∈X.stack,∀b,env.frame=some b->b∈a::frs X.stack:=fun env he b hb=>bI _ (GS.mpr ⟨env,he,hb⟩)
 have bq:X.A.frames=some (X.env::X.outer):=by rw[<-aF];exact I.ok.frames
 have F2:=I.stack2 un
 obtain⟨oe,vs,a0,he,hc,gW,hd,h0,h1⟩:=hx.there
 refine wV (od:=od) (base:=hideAll s2.heap (a::frs X.stack)) bq (aF ▸ funFrames_hide F2 dN) hf he (fun b o q=>of_hideAll _ q) (hideAll_none _ (.head _)) hd h1 h0 (fun o ho=>by rw[he]at ho;cases ho;exact gW) fun h' bD up bE=>h _ ?_
 rw[hc]at bD
 refine Yp (B:=hideAll s2.heap (a::frs X.stack)) (Z:=[a]) I aF hex eV dW un hok (fun b hb=>?_) hx.new cF (fun b o q hz gK=>bD.1 b o (hideAll_get _ q ?_)) up (fun b q=>?_) bD bE hx.newd
 . obtain rfl:b=a:=by simpa using hb
   exact⟨hx.new,cF⟩
 . intro z;rcases ee.mp z with rfl |z
   . exact hz (.head _)
   . exact gK z
 . rcases Mo q with z |z
   . rcases ee.mp z with rfl |z
     . exact .inr ⟨hx.new,cF⟩
     . exact .inl z
   . refine .inr ⟨?_,hok.none z⟩;cases q1:s1.heap.get? b with
     |none=>rfl
     |some o=>
      obtain⟨o',e'⟩:=un.there b o q1 (by simp)
      rw[z]at e';cases e'
end
def eOf(K:Frag)(EX:XW)(mg:Str->Option Value):XK:=fun cv od H=>∃x:Ex,EX.p x H/\mg (x.cls:Str)=some cv/\XFs K x od H
structure Lnd(X:Cx)(EX:XW):Prop where
 nm:∀x H,EX.p x H->∃C,X.mg (x.cls:Str)=some (.ref C)
 on:W5 (CX1 X.prog X.w) X (eOf X.K EX X.mg)
 md:∀(pins:List (Addr×Obj))(σ:St)(H H2:Hp)(s:Shared)(a C:Addr)(od:Option Addr)(s':Shared)(x:Ex),Inv X pins σ H s->MadeX s.heap s'.heap a C od->HOk X.prog X.w H2 s'.heap->Un (frs X.stack) [] H H2 s.heap s'.heap->H2 a=none->s'.os=s.os->AllBare s'.gens->X.mg (x.cls:Str)=some (.ref C)->EX.p x H2->XFs X.K x od H2->X.xe (.ref a) s'
def T8:Lnd X F0:=⟨fun _ _ z=>z.elim,fun _ _ _ _ _ _ _ ⟨_,_,_,_,_,_,_,z,_⟩=>z.elim,fun _ _ _ _ _ _ _ _ _ _ _ _ _ _ _ _ _ _ z _=>z.elim⟩
def g8{P:Program}{w:World}{K:Frag}{mg:Str->Option Value}{base:Heap}{N:List Str}{qual:Str}{sc:Scope}{f:Addr}{cdv:Value}{A:Around}{outer:List Env}{s:Shared}{H:Hp}{E:XK} :
  Lnd (B5 (CX1 P w) P w K mg base N qual sc f cdv A outer s H E) ⟨H,xNm K mg E⟩:=by
 refine⟨fun x H ⟨C,hC,_⟩=>⟨C,hC⟩,?_,?_⟩
 . rintro pins σ H1 s1 e s' I ⟨C,a,od,H',rfl,xo,x,⟨C',me,hE⟩,bQ,hx⟩;have bQ:mg (x.cls:Str)=some (.ref C):=bQ;rw[me]at bQ;cases bQ;exact yM I rfl rfl rfl xo fun de y=>⟨_,a,od,H',rfl,y,hE od hx⟩
 . rintro pins σ H1 H2 s1 a C od s' x I hx hok un cF ho hb bQ ⟨C',me,hE⟩ hf;have bQ:mg (x.cls:Str)=some (.ref C):=bQ;rw[me]at bQ;cases bQ;exact zix I rfl rfl rfl hx hok un cF ho hb fun de y=>⟨_,a,od,H2,rfl,y,hE od hf⟩
def i4(P:Program)(w:World)(K:Frag)(mg:Str->Option Value)(base:Heap)(x:Str)(ps:List Str)(k:Nat)(sp:Sp):Prop:=
 ∃f fd,FnOk P w K mg base (CX1 P w) k f fd ps sp/\Binds K fd ps []/\mg x=some (.ref f)/\keepIn K (.ref f)=true
section
variable {X:Cx}{x:Str}{p pos:Pos}{e:Expr}{es:List Expr}{t:TA}{ps:List Str}{k j:Nat}{sp:Sp}{E:XK}
def Kx(G:i4 X.prog X.w X.K X.mg X.base x ps k sp)(hx:W5 (CX1 X.prog X.w) X E)(hr:Room j X.A)(hg:Gl X x)(ha:PA X (e::es) t)(cG:k<=j:=by omega)(aA:(x==("__debug__":Str))=false:=by decide)
  (he:starEach (e::es) X.env=(false,eval e X.env)::starEach es X.env:=by rfl) (hpl:(backTo pos (starEach es X.env)).any (·.1)=false:=by rfl):PE X (.Call (.Name x p) (e::es) [] pos) (Bk sp E t):=by
 obtain⟨f,fd,F,b,m,kp⟩:=G
 refine(xD F (hr.mono cG) hg m kp b .nil hx ha aA he hpl).imp fun σ H Q q=>?_
 unfold Qw
 unfold Bk at q
 simpa only [GL] using q
end
def Fun.okX{P:Program}{w:World}{K:Frag}{mg:Str->Option Value}{base:Heap}{x qual:Str}{st:Stmt}{f:Addr}{fd:FuncData}{N ps:List Str}{k:Nat}{sp:Sp}{CX:CXT}(F:Fun K x qual st f fd)(S:FnScope N ps (g0 st))(len:∀vs H Q E,sp vs H Q E->vs.length=ps.length)
  (cY:∀(cdv:Value)(A:Around)(outer:List Env)(s:Shared)(H:Hp)(vs:List V)(Q:VK)(E:XK),Room k (A.deeper (envOfC qual (g0 st) s.heap.objs.size f cdv))->sp vs H Q E ->
   ∃t,PSs (B5 CX P w K mg base N qual (g0 st) f cdv A outer s H E) (C1 st) t/\t { nx:=fun _ H'=>Q .non H',rt:=Q } (E8 N vs) H):FnOk P w K mg base CX (k+1) f fd ps sp:=by
 obtain⟨oc,od,kV,doc,pm,an,cdv,ct,osl,rfl,lk,cK⟩:=F.ex
 refine y27 lk cK S len fun A outer s H vs Q E hr gi=>?_
 exact cY cdv A outer s H vs Q E hr gi
section
variable {K:Frag}{H:Hp}{v:V}
def RD.int(h:RD K H (.int i) v):v=.int i:=by simpa only [RD] using h
def RD.str(h:RD K H (.str i) v):v=.str i:=by simpa only [RD] using h
def RD.non(h:RD K H .non v):v=.non:=by simpa only [RD] using h
def RD.tup(h:RD K H (.tup ds) v):∃a xs,v=.ref a/\H a=some (.tup xs)/\RDs K H ds xs:=by simpa only [RD] using h
def RD.lst(h:RD K H (.lst ds) v):∃a xs,v=.ref a/\H a=some (.lst xs)/\RDs K H ds xs:=by simpa only [RD] using h
def RD.dk(h:RD K H (.dk ks ds) v):∃a xs,v=.ref a/\H a=some (.dK (ks.zip xs))/\ks.length=xs.length/\RDs K H ds xs:=by simpa only [RD] using h
def RD.dt(h:RD K H (.dt ks ds) v):∃a xs,v=.ref a/\H a=some (.dT (ks.zip xs))/\ks.length=xs.length/\RDs K H ds xs:=by simpa only [RD] using h
def RD.scr(h:RD K H (.scr ns) v):∃a,v=.ref a/\SqL K H a (ns.map V.int):=by
 simp only[RD]at h;obtain⟨a,e,h |h⟩:=h
 . exact⟨a,e,.inl (.inr h)⟩
 . exact⟨a,e,.inr h⟩
def RD.mkInt(i:Int):RD K H (.int i) (.int i):=by simp only[RD]
def RD.mkBl(i:Bool):RD K H (.bl i) (.bl i):=by simp only[RD]
def RD.mkNon:RD K H .non .non:=by simp only[RD]
def RD.mkStr(i:Str):RD K H (.str i) (.str i):=by simp only[RD]
def RD.mkTup(h:H a=some (.tup xs))(r:RDs K H ds xs):RD K H (.tup ds) (.ref a):=by simp only[RD];exact⟨a,xs,rfl,h,r⟩
end
noncomputable def dI(g:Int->Int->D):D->D->Option D
 | .int i,.int j=>some (g i j)
 |_,_=>none
noncomputable def dIC(C:Int->Int->Prop)[∀i j,Decidable (C i j)](g:Int->Int->D):D->D->Option D
 | .int i,.int j=>if C i j then some (g i j) else none
 |_,_=>none
noncomputable def dOr(o p:D->D->Option D):D->D->Option D:=fun d e=>match o d e with
 |some z=>some z
 |none=>p d e
section
variable {K:Frag}
def OpD.weak(h:OpD K fr o r):OpD K false o r:=fun H0 H x y d e z Q s rx ry ho k=>h H0 H x y d e z Q s rx ry ho fun v H' q=>k v H' q.weak
def OpD.or(h1:OpD K f1 o r)(h2:OpD K f2 p q):OpD K false (dOr o p) (fun x y H Q=>r x y H Q\/q x y H Q):=by
 intro H0 H x y d e z Q s rx ry ho k;unfold dOr at ho;split at ho
 . rename_i z' hz;cases ho;exact .inl (h1.weak H0 H x y d e z Q s rx ry hz k)
 . exact .inr (h2.weak H0 H x y d e z Q s rx ry ho k)
def T7(h:∀i j H,RD K H (gd i j) (gv i j)):OpD K false (dI gd) (cI gv):=by
 intro H0 H x y d e z Q s rx ry ho k;cases d<;>simp only[dI]at ho<;>first |cases ho |skip
 cases e<;>simp only[dI]at ho<;>first |cases ho |skip
 cases rx.int;cases ry.int;exact k _ H (.pure s (h _ _ _))
def Ht[∀i j,Decidable (C i j)](h:∀i j H,RD K H (gd i j) (gv i j)):OpD K false (dIC C gd) (cIC C gv):=by
 intro H0 H x y d e z Q s rx ry ho k;cases d<;>simp only[dIC]at ho<;>first |cases ho |skip
 cases e<;>simp only[dIC]at ho<;>first |cases ho |skip
 cases rx.int;cases ry.int;split at ho
 . rename_i gf;cases ho;exact⟨gf,k _ H (.pure s (h _ _ _))⟩
 . cases ho
instance (i j:Int):Decidable (CMul i j):=by unfold CMul;infer_instance
instance (i j:Int):Decidable (R0 i j):=by unfold R0;infer_instance
def r8:D->D->Option D:=dI fun i j=>.int (i+j)
def E1:D->D->Option D:=dI fun i j=>.int (i - j)
def J1:D->D->Option D:=dIC CMul fun i j=>.int (i * j)
def J0:D->D->Option D:=dIC R0 fun i j=>.int (i / j)
def j8:D->D->Option D:=dIC (fun _ j=>0<j) fun i j=>.int (i % j)
def l4:D->D->Option D:=dI fun i j=>.bl (decide (i<j))
def dLe:D->D->Option D:=dI fun i j=>.bl (decide (i<=j))
def F6:D->D->Option D:=dI fun i j=>.bl (decide (j<i))
def dGe:D->D->Option D:=dI fun i j=>.bl (decide (j<=i))
def v5:OpD K false r8 (cI fun i j=>.int (i+j)):=T7 fun _ _ _=>.mkInt _
def M3:OpD K false E1 (cI fun i j=>.int (i - j)):=T7 fun _ _ _=>.mkInt _
def Bj:OpD K false J1 (cIC CMul fun i j=>.int (i * j)):=Ht fun _ _ _=>.mkInt _
def W3:OpD K false J0 (cIC R0 fun i j=>.int (i / j)):=Ht fun _ _ _=>.mkInt _
def m8:OpD K false j8 (cIC (fun _ j=>0<j) fun i j=>.int (i % j)):=Ht fun _ _ _=>.mkInt _
def n8:OpD K false l4 (cI fun i j=>.bl (decide (i<j))):=T7 fun _ _ _=>.mkBl _
def O1:OpD K false dLe (cI fun i j=>.bl (decide (i<=j))):=T7 fun _ _ _=>.mkBl _
def P0:OpD K false F6 (cI fun i j=>.bl (decide (j<i))):=T7 fun _ _ _=>.mkBl _
def y2w:OpD K false dGe (cI fun i j=>.bl (decide (j<=i))):=T7 fun _ _ _=>.mkBl _
noncomputable def L0:D->Option D
 | .int i=>some (.int (-i))
 |_=>none
def W2:UnD K false L0 (cU fun i=>.int (-i)):=by
 intro H0 H x d z Q s rx ho k;cases d<;>simp only[L0]at ho<;>first |cases ho |skip
 cases rx.int;exact k _ H (.pure s (.mkInt _))
noncomputable def n9:D->D->Option D
 | .lst ds,.lst es=>if ds.length+es.length<=100000 then some (.lst (ds++es)) else none
 |_,_=>none
def Ah(h:n<=100000):n<=sizeLine:=EZ h (by decide)
def M2:OpD K true n9 kh:=by
 intro H0 H x y d e z Q s rx ry ho k;cases d<;>simp only[n9]at ho<;>first |cases ho |skip
 cases e<;>simp only[n9]at ho<;>first |cases ho |skip
 split at ho<;>cases ho;rename_i hl;obtain⟨a,xs,rfl,ha,ra⟩:=rx.lst;obtain⟨b,ys,rfl,hb,rb⟩:=ry.lst;refine⟨a,b,xs,ys,rfl,rfl,s _ _ ha,s _ _ hb,by rw[<-ra.length,<-rb.length];exact Ah hl,fun p hp=>k _ _ (.new s hp fun H' hH=>?_)⟩;simp only[OB];exact⟨_,hH,ra.append rb⟩
noncomputable def T6:D->D->Option D
 | .lst ds,.int k=>if -(2 ^ 63)<=k/\k<2 ^ 63/\ds.length * k.toNat<=100000 then some (.lst (List.replicate k.toNat ds).flatten) else none
 |_,_=>none
theorem RDs.flat(h:RDs K H ds xs):∀k:Nat,RDs K H (List.replicate k ds).flatten (List.replicate k xs).flatten
 | 0=>by simp[RDs]
 |k+1=>by rw[HA,HA,HS,HS];exact h.append (h.flat k)
def qM:OpD K true T6 kg:=by
 intro H0 H x y d e z Q s rx ry ho k;cases d<;>simp only[T6]at ho<;>first |cases ho |skip
 cases e<;>simp only[T6]at ho<;>first |cases ho |skip
 split at ho<;>cases ho;rename_i hl;obtain⟨a,xs,rfl,ha,ra⟩:=rx.lst;cases ry.int;refine⟨a,_,xs,rfl,rfl,s _ _ ha,hl.1,hl.2.1,by rw[<-ra.length];exact Ah hl.2.2,fun p hp=>k _ _ (.new s hp fun H' hH=>?_)⟩;simp only[OB];exact⟨_,hH,ra.flat _⟩
end
def dEq:D->D->Option D:=fun d e=>if d.pl=true/\e.pl=true/\d.dep<=20 then some (.bl (eqD d e)) else none
def dNe:D->D->Option D:=fun d e=>if d.pl=true/\e.pl=true/\d.dep<=20 then some (.bl (!eqD d e)) else none
def jS(K:Frag):R2:=fun x y H Q=>∃d e,RD K H d x/\RD K H e y/\d.pl=true/\e.pl=true/\d.dep<=20/\Q (.bl (eqD d e)) H
def jR(K:Frag):R2:=fun x y H Q=>∃d e,RD K H d x/\RD K H e y/\d.pl=true/\e.pl=true/\d.dep<=20/\Q (.bl (!eqD d e)) H
def Gq(neg:Bool):D->D->Option D:=fun d c=>match c with
 | .lst es=>if d.pl=true/\pls es=true/\l7 es<=20 then some (.bl (if neg then !(es.any fun e=>eqD e d) else es.any fun e=>eqD e d)) else none
 | .tup es=>if d.pl=true/\pls es=true/\l7 es<=20 then some (.bl (if neg then !(es.any fun e=>eqD e d) else es.any fun e=>eqD e d)) else none
 |_=>none
def Pv(K:Frag)(neg:Bool):R2:=fun x y H Q=>∃p xs d es,y=.ref p/\(H p=some (.lst xs)\/H p=some (.tup xs))/\RD K H d x/\RDs K H es xs/\d.pl=true/\pls es=true/\l7 es<=20/\Q (.bl (if neg then !(es.any fun e=>eqD e d) else es.any fun e=>eqD e d)) H
section
variable {X:Cx}{K:Frag}
def z8(hu:X.A.units+64<cLine):OpR X (compareOp .Eq) (jS X.K):=by intro pins s σ H x y v u Q I rx ry h;obtain⟨d,e,h1,h2,p1,p2,h3,q⟩:=h;exact(Sv (n:=20) I p1 p2 h3 (by lia) h1 h2 rx ry).1 X.prog X.w X.xe _ ⟨.bl _,H,I,rfl,q⟩
def y2y(hu:X.A.units+64<cLine):OpR X (compareOp .NotEq) (jR X.K):=by intro pins s σ H x y v u Q I rx ry h;obtain⟨d,e,h1,h2,p1,p2,h3,q⟩:=h;exact(Sv (n:=20) I p1 p2 h3 (by lia) h1 h2 rx ry).2 X.prog X.w X.xe _ ⟨.bl _,H,I,rfl,q⟩
def z7:OpD K false dEq (jS K):=by intro H0 H x y d e z Q s rx ry ho k;unfold dEq at ho;split at ho<;>cases ho;rename_i h;exact⟨d,e,rx.mono s,ry.mono s,h.1,h.2.1,h.2.2,k _ H (.pure s (.mkBl _))⟩
def y2z:OpD K false dNe (jR K):=by intro H0 H x y d e z Q s rx ry ho k;unfold dNe at ho;split at ho<;>cases ho;rename_i h;exact⟨d,e,rx.mono s,ry.mono s,h.1,h.2.1,h.2.2,k _ H (.pure s (.mkBl _))⟩
def yL(hu:X.A.units+64<cLine):OpR X (compareOp .NotIn) (Pv X.K true):=by
 intro pins s σ H x y v u Q I rx ry h;obtain⟨p,xs,d,es,rfl,hp,hx,mO,pd,pe,hd,q⟩:=h;cases ry;rcases hp with hq |hq
 . obtain⟨its,rv,pl,_⟩:=I.list (.of hq);refine SeqAt.notIn_listAt (hitD X.K H d) pl.isList (fun y hy=>Lc (A:=X.A) I (by lia) pd hx rx pe mO rv hd y (by simpa using hy)) ⟨.bl _,H,I,rfl,?_⟩;rw[show its.toArray.any (hitD X.K H d)=its.any (hitD X.K H d) by simp,Lv pe mO rv];simpa using q
 . obtain⟨its,rv,pl,_⟩:=I.tuple (.of hq);refine SeqAt.notIn_tupleAt (hitD X.K H d) pl (fun y hy=>Lc (A:=X.A) I (by lia) pd hx rx pe mO rv hd y (by simpa using hy)) ⟨.bl _,H,I,rfl,?_⟩;rw[show its.toArray.any (hitD X.K H d)=its.any (hitD X.K H d) by simp,Lv pe mO rv];simpa using q
def od_inS:OpD K false (Gq neg) (Pv K neg):=by
 intro H0 H x y d e z Q s rx ry ho k;unfold Gq at ho;cases e<;>dsimp only at ho<;>first |cases ho |skip
 . split at ho<;>cases ho;rename_i es h;obtain⟨a,xs,rfl,ha,ra⟩:=ry.tup;exact⟨a,xs,d,es,rfl,.inr (s _ _ ha),rx.mono s,ra.mono s,h.1,h.2.1,h.2.2,k _ H (.pure s (.mkBl _))⟩
 . split at ho<;>cases ho;rename_i es h;obtain⟨a,xs,rfl,ha,ra⟩:=ry.lst;exact⟨a,xs,d,es,rfl,.inl (s _ _ ha),rx.mono s,ra.mono s,h.1,h.2.1,h.2.2,k _ H (.pure s (.mkBl _))⟩
end
noncomputable def Ag:D->Option Key
 | .int i=>some (.inl i)
 | .str x=>some (.inr x)
 |_=>none
def V7:List D->Option (List Key)
 | []=>some []
 |d::ds=>match Ag d,V7 ds with
  |some k,some ks=>some (k::ks)
  |_,_=>none
def Uz{K:Frag}{H:Hp}{d:D}{k:Key}{v:V}(h:Ag d=some k)(r:RD K H d v):v=kV k:=by
 cases d<;>simp only[Ag]at h<;>first |cases h |skip
 . cases r.int;rfl
 . cases r.str;rfl
theorem Wk{K:Frag}{H:Hp}:∀{ds:List D}{ks:List Key}{xs:List V},V7 ds=some ks->RDs K H ds xs->xs=ks.map kV
 | [],ks,xs,h,r=>by simp only[V7]at h;cases h;simp only[RDs]at r;subst r;rfl
 |d::ds,ks,xs,h,r=>by simp only[RDs]at r;obtain⟨x,xs,rfl,r1,r2⟩:=r;simp only[V7]at h;split at h<;>cases h;rename_i k ks h1 h2;rw[Uz h1 r1,Wk h2 r2];rfl
def ROp(K:Frag)(H:Hp):Option D->Option V->Prop
 |some z,w=>∃v,w=some v/\RD K H z v
 |none,w=>w=none
section
variable {κ:Type}[DecidableEq κ]
noncomputable def R7(ks:List κ)(ds:List D)(k:κ):Option D:=((ks.zip ds).find? fun kv=>decide (kv.1=k)).map (·.2)
theorem Kw{K:Frag}{H:Hp}(k:κ):∀{ks:List κ}{ds:List D}{xs:List V},ks.length=xs.length->RDs K H ds xs->ROp K H (R7 ks ds k) (C5 (ks.zip xs) k)
 | [],ds,xs,_,_=>by simp[R7,C5,ROp]
 |k'::ks,[],xs,h,r=>by simp only[RDs]at r;subst r;simp at h
 |k'::ks,d::ds,xs,h,r=>by
  simp only[RDs]at r;obtain⟨x,xs,rfl,r1,r2⟩:=r;have ih:=Kw k (by simpa using h) r2 (ks:=ks);simp only[R7,C5,GR,GX]at ih⊢;by_cases e:k'=k
  . simp only[e,Ix];exact⟨x,rfl,r1⟩
  . simp only[e,Ik];exact ih
end
def R6:D->D->Option (Option D)
 | .dk ks ds,k=>(Ag k).map fun k=>R7 ks ds k
 | .dt ks ds,.tup es=>(V7 es).map fun k=>R7 ks ds k
 |_,_=>none
def Uy{K:Frag}{H:Hp}{d k:D}{x y:V}{o:Option D}(h:R6 d k=some o)(rx:RD K H d x)(ry:RD K H k y) :
  ∃a w,x=.ref a/\DGet H a y w/\ROp K H o w:=by
 cases d<;>simp only[R6]at h<;>first |cases h |skip
 . rename_i ks ds;obtain⟨a,xs,rfl,ha,hl,rs⟩:=rx.dk;cases hk:Ag k with
   |none=>rw[hk]at h;cases h
   |some k'=>
    rw[hk]at h
    have h:R7 ks ds k'=o:=by simpa using h
    subst h
    cases Uz hk ry
    exact⟨a,_,rfl,DGet.k ha,Kw k' hl rs⟩
 . rename_i ks ds;cases k<;>simp only[R6]at h<;>first |cases h |skip
   rename_i es;obtain⟨a,xs,rfl,ha,hl,rs⟩:=rx.dt;obtain⟨b,ys,rfl,hb,rb⟩:=ry.tup;cases hk:V7 es with
   |none=>rw[hk]at h;cases h
   |some k'=>
    rw[hk]at h
    have h:R7 ks ds k'=o:=by simpa using h
    subst h
    have e:=Wk hk rb
    subst e
    exact⟨a,_,rfl,DGet.t ha hb,Kw k' hl rs⟩
def Pu(neg:Bool):D->D->Option D:=fun k d=>(R6 d k).map fun o=>.bl (if neg then !o.isSome else o.isSome)
noncomputable def Pt(neg:Bool):R2:=fun y x H Q=>∃a w,x=.ref a/\DGet H a y w/\Q (.bl (if neg then !w.isSome else w.isSome)) H
def Ps:D->D->Option D:=fun d k=>(R6 d k).bind id
noncomputable def Pr:R2:=fun x y H Q=>∃a w,x=.ref a/\DGet H a y (some w)/\Q w H
def y3:D->D->Option D
 | .lst ds,.int i=>atI ds i
 | .tup ds,.int i=>atI ds i
 | .scr ns,.int i=>(atI ns i).map D.int
 | .str z,.int i=>if z.length<=100000 then(atI z.cps.toList i).map fun c=>D.str ⟨#[c]⟩ else none
 |_,_=>none
def RDs.atI{K:Frag}{H:Hp}{ds:List D}{xs:List V}{i:Int}{d:D}(r:RDs K H ds xs)(h:L2.atI ds i=some d):∃v,L2.atI xs i=some v/\RD K H d v:=by
 unfold L2.atI at h⊢;rw[<-r.length];cases q:ixN ds.length i with
 |none=>rw[q]at h;cases h
 |some j=>
  rw[q]at h
  exact r.get' h
def wU(f:α->β)(xs:List α)(i:Int):atI (xs.map f) i=(atI xs i).map f:=by
 unfold atI;rw[gc];cases ixN xs.length i with
 |none=>rfl
 |some j=>simp
section
variable {X:Cx}{K:Frag}
def yK(hu:X.A.units+64<cLine):OpR X (compareOp .NotIn) (Pt true):=by intro pins s σ H x y v u Q I rx ry h;obtain⟨a,w,rfl,g,q⟩:=h;cases ry;exact xy (by omega) I g rx fun s' I'=>⟨.bl (!w.isSome),H,I',rfl,by simpa using q⟩
def qK:OpD K false (Pu neg) (Pt neg):=by
 intro H0 H x y d e z Q s rx ry ho k;unfold Pu at ho;cases aS:R6 e d with
 |none=>rw[aS]at ho;cases ho
 |some o=>
  rw[aS]at ho;cases ho
  obtain⟨a,w,rfl,g,m⟩:=Uy aS (ry.mono s) (rx.mono s)
  refine⟨a,w,rfl,g,k _ H ?_⟩
  have e:w.isSome=o.isSome:=by
   cases o with
   |none=>rw[show w=none from m];rfl
   |some z=>obtain⟨v,e,_⟩:=m;rw[e];rfl
  rw[e]
  exact .pure s (.mkBl _)
def dIn(neg:Bool):D->D->Option D:=dOr (Gq neg) (Pu neg)
def jQ(K:Frag)(neg:Bool):R2:=fun x y H Q=>Pv K neg x y H Q\/Pt neg x y H Q
def Wj(hu:X.A.units+64<cLine):OpR X (compareOp .NotIn) (jQ X.K true):=(yL hu).or (yK hu)
def Qj:OpD K false (dIn neg) (jQ K neg):=od_inS.or qK
def wT(hu:X.A.units+64<cLine):IxR X Pr:=by intro value slice pins s σ H x y v u Q I rx ry h hs;obtain⟨a,w,rfl,g,q⟩:=h;cases rx;exact tail_any (ops:=[.ref a,u]) (zfu I g) PySem.F.slot_dict_getitem.lookup (zQ (by lia) I g ry fun w' s3 I3 cE=>⟨w,H,I3,cE,q⟩) hs
def qJ:OpD K false Ps Pr:=by
 intro H0 H x y d e z Q s rx ry ho k;unfold Ps at ho;cases aS:R6 d e with
 |none=>rw[aS]at ho;cases ho
 |some o=>
  rw[aS]at ho
  have ho:o=some z:=ho
  subst ho
  obtain⟨a,w,e0,g,m⟩:=Uy aS rx ry
  obtain⟨v,rfl,rv⟩:=m
  subst e0
  refine⟨a,v,rfl,?_,k _ H (.pure s rv)⟩
  rcases g with⟨kvs,kk,e1,e2,e3⟩ |⟨kvs,kk,b,e1,e2,e3,e4⟩
  . refine .inl ⟨kvs,kk,?_,e2,e3⟩;rcases e1 with e1 |⟨o,e1⟩
    . exact .inl (s _ _ e1)
    . exact .inr ⟨o,s _ _ e1⟩
  . refine .inr ⟨kvs,kk,b,?_,e2,s _ _ e3,e4⟩;rcases e1 with e1 |⟨o,e1⟩
    . exact .inl (s _ _ e1)
    . exact .inr ⟨o,s _ _ e1⟩
def od_ixS:OpD K false y3 (rIx K):=by
 intro H0 H x y d e z Q s rx ry ho k;cases d<;>simp only[y3]at ho<;>first |cases ho |skip
 . -- a text
   cases e<;>simp only[y3]at ho<;>first |cases ho |skip
   cases rx.str;cases ry.int;split at ho
   . rename_i z' i hl;cases hc:atI z'.cps.toList i with
     |none=>rw[hc]at ho;cases ho
     |some c=>
      rw[hc]at ho;cases ho
      exact .inr (.inr ⟨z',i,c,rfl,rfl,Ah hl,hc,k _ H (.pure s (.mkStr _))⟩)
   . cases ho
 . cases e<;>simp only[y3]at ho<;>first |cases ho |skip
   obtain⟨a,xs,rfl,ha,ra⟩:=rx.tup;cases ry.int;obtain⟨v,hv,rv⟩:=ra.atI ho;exact .inr (.inl ⟨a,xs,_,v,rfl,rfl,.of (s _ _ ha),hv,k _ H (.pure s rv)⟩)
 . cases e<;>simp only[y3]at ho<;>first |cases ho |skip
   obtain⟨a,xs,rfl,ha,ra⟩:=rx.lst;cases ry.int;obtain⟨v,hv,rv⟩:=ra.atI ho;exact .inl ⟨a,xs,_,v,rfl,rfl,.of (s _ _ ha),hv,k _ H (.pure s rv)⟩
 . cases e<;>simp only[y3]at ho<;>first |cases ho |skip
   rename_i ns i;cases ry.int;obtain⟨a,rfl,ha⟩:=(rx.mono s).scr;cases hc:atI ns i with
   |none=>rw[hc]at ho;cases ho
   |some c=>
    rw[hc]at ho;cases ho
    exact .inl ⟨a,_,i,.int c,rfl,rfl,ha,by rw[wU,hc];rfl,k _ H (.pure s (.mkInt _))⟩
def dIx:D->D->Option D:=dOr y3 Ps
def jP(K:Frag):R2:=fun x y H Q=>rIx K x y H Q\/Pr x y H Q
def y74(hu:X.A.units+64<cLine):IxR X (jP X.K):=ix_seq.or (wT hu)
def y34:OpD K false dIx (jP K):=od_ixS.or qJ
end
structure QE(X:Cx)(EX:XW)(fr:Bool)(e:Expr)(f:DE->R D):Prop where
 h:PE X e (TEd X.K EX fr f)
structure QT(X:Cx)(EX:XW)(e:Expr)(t:DE->R Bool):Prop where
 h:PT X e (TTd X.K EX t)
structure QW(X:Cx)(EX:XW)(e:Expr)(t:DE->R Bool):Prop where
 h:PW X e (TTd X.K EX t)
structure QA(X:Cx)(EX:XW)(es:List Expr)(f:DE->R (List D)):Prop where
 h:PA X es (TAd X.K EX f)
structure QI(X:Cx)(EX:XW)(kp:Bool)(tg e:Expr)(f:DE->R (List D)):Prop where
 h:PI X tg e (TId X.K EX kp f)
structure QG(X:Cx)(tg:Expr)(t:Tg):Prop where
 h:PG X tg (TGd X.K t)
structure QGs(X:Cx)(ts:List Expr)(is:List Nat):Prop where
 h:PGs X ts (Dt is)
structure QS(X:Cx)(EX:XW)(fr:Bool)(st:Stmt)(g:DS->SR):Prop where
 h:PS X st (TSd X.K EX fr g)
structure QB(X:Cx)(EX:XW)(fr:Bool)(sts:List Stmt)(g:DS->SR):Prop where
 h:PSs X sts (TSd X.K EX fr g)
structure QC(X:Cx)(EX:XW)(ops:List CmpOp)(rs:List Expr)(g:D->DE->R D):Prop where
 h:PCh X ops rs (Ai X.K EX g)
structure QCT(X:Cx)(EX:XW)(ops:List CmpOp)(rs:List Expr)(g:D->DE->R Bool):Prop where
 h:PChT X ops rs (Aw X.K EX g)
section
variable {X:Cx}{EX:XW}{fr:Bool}{a b c e:Expr}{es rest:List Expr}{fa fb:DE->R D}{fs:DE->R (List D)}{t u:DE->R Bool}{pos p:Pos}{x:Str}
def PA.imp{es:List Expr}{t t':TA}(h:PA X es t)(hi:∀σ H Q,t' σ H Q->t σ H Q):PA X es t':=fun pos pins s σ H Q I q=>h pos pins s σ H Q I (hi σ H Q q)
def PW.imp{e:Expr}{t t':TT}(h:PW X e t)(hi:∀σ H Q,t' σ H Q->t σ H Q):PW X e t':=fun wh pins s σ H Q I q=>h wh pins s σ H Q I (hi σ H Q q)
def PI.imp{tg e:Expr}{t t':TI}(h:PI X tg e t)(hi:∀σ H Q,t' σ H Q->t σ H Q):PI X tg e t':=fun pins s σ H Q I q=>h pins s σ H Q I (hi σ H Q q)
def PS.imp{st:Stmt}{t t':TS}(h:PS X st t)(hi:∀D σ H,t' D σ H->t D σ H):PS X st t':=fun pins s σ H D I q=>h pins s σ H D I (hi D σ H q)
def PSs.imp{st:List Stmt}{t t':TS}(h:PSs X st t)(hi:∀D σ H,t' D σ H->t D σ H):PSs X st t':=fun pins s σ H D I q=>h pins s σ H D I (hi D σ H q)
def QE.wk(h:QE X EX true e f):QE X EX false e f:=⟨h.h.imp fun _ _ _ q=>q.weak⟩
def qv(i:Nat)(hN:X.N[i]?=some x:=by rfl)(hv:Vis X.env.scope x:=by first |exact .inl rfl |exact .inr (.inl rfl) |exact .inr (.inr rfl))(hd:(x==("__debug__":Str))=false:=by decide)
 (cK:(x==("__classdict__":Str))=false:=by decide):QE X EX false (.Name x pos) (a5 i):=⟨(P1 hN hv hd cK).imp fun σ H Q q=>y2j q⟩
def b7:QE X EX false (.Constant (.int i) j pos) (eC (.int i)):=⟨pe_int.imp fun σ H Q q=>El (fun _=>.mkInt i) q⟩
def D8:QE X EX false (.Constant (.bool i) j pos) (eC (.bl i)):=⟨pe_bl.imp fun σ H Q q=>El (fun _=>.mkBl i) q⟩
def V6:QE X EX false (.Constant .none j pos) (eC .non):=⟨pe_non.imp fun σ H Q q=>El (fun _=>.mkNon) q⟩
def e8:QE X EX false (.Constant (.str i) j pos) (eC (.str i)):=⟨pe_str.imp fun σ H Q q=>El (fun _=>.mkStr i) q⟩
def d9(ho:OpR X (binaryOp op) r)(od:OpD X.K fr o r)(ha:QE X EX false a fa)(hb:QE X EX false b fb):QE X EX fr (.BinOp a op b pos) (eOp o fa fb):=⟨(y25 ho ha.h hb.h).imp fun _ _ _ q=>Gs od q⟩
def T4(ho:UnR X (unaryOp op) r)(od:UnD X.K fr o r)(ha:QE X EX false a fa):QE X EX fr (.UnaryOp op a pos) (eUn o fa):=⟨(y26 ho ha.h).imp fun _ _ _ q=>y6x od q⟩
def n6(ho:OpR X (compareOp op) r)(od:OpD X.K false o r)(ha:QE X EX false a fa)(hb:QE X EX false b fb)(hm:behindInMarks op b=false) :
 QE X EX false (.Compare a [op] [b] pos) (eOp o fa fb):=⟨(xG ho ha.h hb.h hm).imp fun _ _ _ q=>Gs od q⟩
def y75(ho:IxR X r)(od:OpD X.K false o r)(ha:QE X EX false a fa)(hb:QE X EX false b fb)(hs:Le b:=by exact fun _ _=>rfl):QE X EX false (.Subscript a b pos) (eOp o fa fb):=⟨(y29 ho ha.h hb.h hs).imp fun _ _ _ q=>Gs od q⟩
def b6:QA X EX [] a8:=⟨pa_nil.imp fun _ _ _ q=>Qm q⟩
def a7(ha:QE X EX false e fa)(hr:QA X EX es fs)(hs:starEach (e::es) X.env=(false,eval e X.env)::starEach es X.env:=by rfl):QA X EX (e::es) (a6 fa fs):=⟨(P7 ha.h hr.h hs).imp fun _ _ _ q=>Kh q⟩
def l8(h:QA X EX es fs):QE X EX false (.Tuple es x1 pos) (i5 fs):=⟨(vq h.h).imp fun _ _ _ q=>y2l q⟩
def o4(h:QA X EX es fs):QE X EX true (.List es pos) (j4 fs):=⟨(vp h.h).imp fun _ _ _ q=>y2m q⟩
def y35(hc:QT X EX c t)(ha:QE X EX fr a fa)(hb:QE X EX fr b fb):QE X EX fr (.IfExp c a b pos) (eIf t fa fb):=⟨(zj hc.h ha.h hb.h).imp fun _ _ _ q=>y6y q⟩
def v9(ha:QE X EX false a fa)(hb:QE X EX false (.BoolOp .And (b::rest) pos) fb):QE X EX false (.BoolOp .And (a::b::rest) pos) (p9 fa fb):=⟨(xw ha.h hb.h).imp fun _ _ _ q=>y2o q⟩
def Pq(ha:QE X EX false a fa)(hb:QE X EX false (.BoolOp .Or (b::rest) pos) fb):QE X EX false (.BoolOp .Or (a::b::rest) pos) (eOr fa fb):=⟨(vf ha.h hb.h).imp fun _ _ _ q=>y70 q⟩
def C8(h:QE X EX false a fa):QE X EX false (.BoolOp op [a] pos) fa:=⟨vx h.h⟩
noncomputable def l5:D->Option Bool
 | .bl b=>some b
 | .int i=>some (i != 0)
 | .non=>some false
 | .str z=>if z.length<=100000 then some ((z.length:Int) != 0) else none
 | .lst ds=>some (!ds.isEmpty)
 | .tup ds=>some (!ds.isEmpty)
 | .dk ks _=>some (!ks.isEmpty)
 |_=>none
def Nr{α β:Type}{xs:List α}{ys:List β}(h:xs.length=ys.length):xs.isEmpty=ys.isEmpty:=by cases xs<;>cases ys<;>first |rfl |simp at h
def Ss{K:Frag}:Px K l5 O2:=by
 intro H0 H x d b Q s rx ht q;cases d<;>simp only[l5]at ht<;>first |cases ht |skip
 . cases rx.non;exact q
 . cases rx.bl;exact q
 . cases rx.int;exact q
 . split at ht<;>cases ht;rename_i h;cases rx.str;exact⟨Ah h,q⟩
 . obtain⟨p,xs,rfl,hp,r⟩:=rx.tup;unfold O2;dsimp only;rw[Xo (s _ _ hp)];rw[Nr r.length]at q;exact q
 . obtain⟨p,xs,rfl,hp,r⟩:=rx.lst;unfold O2;dsimp only;rw[Xp (s _ _ hp)];rw[Nr r.length]at q;exact q
 . rename_i ks es;obtain⟨p,xs,rfl,hp,hl,r⟩:=rx.dk;unfold O2;dsimp only;have e:E7 H p=none:=by unfold E7;rw[s _ _ hp]
   rw[e];dsimp only;rw[s _ _ hp];dsimp only;rw[Nr (show ks.length=(List.zip ks xs).length by rw[Ig,<-hl,Nat.min_self])]at q;exact q
def Dp(ha:QE X EX false a fa):QE X EX false (.UnaryOp .Not a pos) (eUn (fun d=>(l5 d).map fun b=>.bl (!b)) fa):=⟨(xv ha.h).imp fun _ _ _ q=>qU Ss q⟩
def x4(ha:QE X EX false a fa)(he:∀whole,isTrue a X.env whole=(do let v <-whole;standAt a.pos;holding [v] (truthy v)):=by intro _;rfl):QT X EX a (c8 l5 fa):=⟨(vi ha.h he).imp fun _ _ _ q=>y2p Ss q⟩
def n5(ho:OpR X (compareOp op) r)(od:OpD X.K false o r)(ha:QE X EX false a fa)(hb:QE X EX false b fb)(hm:behindInMarks op b=false) :
 QT X EX (.Compare a [op] [b] pos) (c8 asB (eOp o fa fb)):=⟨(xx ho ha.h hb.h hm).imp fun _ _ _ q=>y2q od q⟩
def QW.pt(h:QW X EX a t):QT X EX a t:=⟨h.h.pt⟩
def y8(ha:QT X EX a t):QT X EX (.UnaryOp .Not a pos) (o9 t):=⟨(vy ha.h).imp fun _ _ _ q=>qV q⟩
def Do(ha:QT X EX a t):QW X EX (.BoolOp .And [a] pos) t:=⟨xH ha.h⟩
def E6(ha:QT X EX a t):QW X EX (.BoolOp .Or [a] pos) t:=⟨vA ha.h⟩
def As(ha:QT X EX a t)(hb:QW X EX (.BoolOp .And (b::rest) pos) u):QW X EX (.BoolOp .And (a::b::rest) pos) (L7 t u):=⟨(vz ha.h hb.h).imp fun _ _ _ q=>qW q⟩
def B0(ha:QT X EX a t)(hb:QW X EX (.BoolOp .Or (b::rest) pos) u):QW X EX (.BoolOp .Or (a::b::rest) pos) (bOr t u):=⟨(y20 ha.h hb.h).imp fun _ _ _ q=>y2n q⟩
def PCh.imp{ops:List CmpOp}{rs:List Expr}{t t':V->TE}(h:PCh X ops rs t)(hi:∀x σ H Q,t' x σ H Q->t x σ H Q):PCh X ops rs t':=fun pos pins s σ H x v Q I r q=>h pos pins s σ H x v Q I r (hi x σ H Q q)
def PChT.imp{ops:List CmpOp}{rs:List Expr}{t t':V->TT}(h:PChT X ops rs t)(hi:∀x σ H Q,t' x σ H Q->t x σ H Q):PChT X ops rs t':=fun pos pins s σ H x v Q I r q=>h pos pins s σ H x v Q I r (hi x σ H Q q)
variable {g:D->DE->R D}{gt:D->DE->R Bool}{op gm:CmpOp}{ops:List CmpOp}{r:R2}{o:D->D->Option D}{r':Expr}{rs:List Expr}
def Bi(ho:OpR X (compareOp op) r)(od:OpD X.K false o r)(hb:QE X EX false b fb):QC X EX [op] [b] (O5 o fb):=⟨(yZ ho hb.h).imp fun _ _ _ _ q=>qT od q⟩
def O9(ho:OpR X (compareOp op) r)(od:OpD X.K false o r)(hb:QE X EX false b fb)(hr:QC X EX (gm::ops) (r'::rs) g):QC X EX (op::gm::ops) (b::r'::rs) (G1 o fb g):=⟨(yY ho hb.h hr.h).imp fun _ _ _ _ q=>qS od q⟩
def wS(ho:OpR X (compareOp op) r)(od:OpD X.K false o r)(hb:QE X EX false b fb):QCT X EX [op] [b] (Dx o fb):=⟨(zN ho hb.h).imp fun _ _ _ _ q=>wZ od q⟩
def wR(ho:OpR X (compareOp op) r)(od:OpD X.K false o r)(hb:QE X EX false b fb)(hr:QCT X EX (gm::ops) (r'::rs) gt):QCT X EX (op::gm::ops) (b::r'::rs) (Dw o fb gt):=⟨(zM ho hb.h hr.h).imp fun _ _ _ _ q=>wY od q⟩
def Ar(ha:QE X EX false a fa)(hr:QC X EX (bw::bx::ops) (cB::cC::rs) g)(hm:lastMarks (bw::bx::ops) (cB::cC::rs)=false:=by with_unfolding_all rfl) :
 QE X EX false (.Compare a (bw::bx::ops) (cB::cC::rs) pos) (N8 fa g):=⟨(vh ha.h hr.h hm).imp fun _ _ _ q=>y2r q⟩
def y37(ha:QE X EX false a fa)(hr:QCT X EX (bw::bx::ops) (cB::cC::rs) gt)(hm:lastMarks (bw::bx::ops) (cB::cC::rs)=false:=by with_unfolding_all rfl) :
 QT X EX (.Compare a (bw::bx::ops) (cB::cC::rs) pos) (Cp fa gt):=⟨(vg ha.h hr.h hm).imp fun _ _ _ q=>qR q⟩
def w6{id:String}{rr:List V->Hp->VK->Prop}{m:List D->Option D}(hc:CallR X (.builtin id) rr)(od:x5 X.K fr m rr)(hg:Gl X x)(hm:X.mg x=none)(hv:bootBuiltins x=some (.builtin id))(ha:QA X EX (e::es) fs)(hn:x≠"__name__":=by decide)(aA:(x==("__debug__":Str))=false:=by decide)
 (he:starEach (e::es) X.env=(false,eval e X.env)::starEach es X.env:=by rfl) (hpl:(backTo pos (starEach es X.env)).any (·.1)=false:=by rfl):QE X EX fr (.Call (.Name x p) (e::es) [] pos) (eCB m fs):=⟨(Ma hc hg hm hv ha.h hn aA he hpl).imp fun _ _ _ q=>Pw od q⟩
def C7(hc:CallR X (.type T) rr)(od:x5 X.K fr m rr)(hg:Gl X x)(hm:X.mg x=none)(hv:bootBuiltins x=some (.type T))(ha:QA X EX (e::es) fs)(hn:x≠"__name__":=by decide)(aA:(x==("__debug__":Str))=false:=by decide)
 (he:starEach (e::es) X.env=(false,eval e X.env)::starEach es X.env:=by rfl) (hpl:(backTo pos (starEach es X.env)).any (·.1)=false:=by rfl):QE X EX fr (.Call (.Name x p) (e::es) [] pos) (eCB m fs):=⟨(zR hc hg hm hv ha.h hn aA he hpl).imp fun _ _ _ q=>Pw od q⟩
def g9(L:Lnd X EX)(G:i4 X.prog X.w X.K X.mg X.base x ps k (spD X.K X.mg fr (mOf fr n kk gg) n))(hr:Room j X.A)(hg:Gl X x)(ha:QA X EX (e::es) fs)(cG:k<=j:=by omega)(aA:(x==("__debug__":Str))=false:=by decide)
 (he:starEach (e::es) X.env=(false,eval e X.env)::starEach es X.env:=by rfl) (hpl:(backTo pos (starEach es X.env)).any (·.1)=false:=by rfl):QE X EX fr (.Call (.Name x p) (e::es) [] pos) (c9 (mOf fr n kk gg) fs):=⟨(Kx G L.on hr hg ha.h cG aA he hpl).imp fun _ _ _ q=>Su Eh (fun x H z=>by obtain⟨C,hC⟩:=L.nm x H z;exact⟨C,hC,fun od xf=>⟨x,z,hC,xf⟩⟩) q⟩
end
noncomputable def F7:D->String
 | .non=>"NoneType"
 | .bl _=>"bool"
 | .int _=>"int"
 | .str _=>"str"
 | .tup _=>"tuple"
 | .lst _=>"list"
 | .dk _ _=>"dict"
 | .dt _ _=>"dict"
 | .dn _ _=>"?"
 | .scr _=>"?"
 | .exc _ _=>"?"
def m5(c:String):D->Option D:=fun d=>if L9 c=true/\F7 d≠"?" then some (.bl (K7 (F7 d) c)) else none
def wQ{K:Frag}{H:Hp}{d:D}{v:V}(h:F7 d≠"?")(r:RD K H d v):M0 H v=some (F7 d):=by
 cases d
 . cases r.non;rfl
 . cases r.bl;rfl
 . cases r.int;rfl
 . cases r.str;rfl
 . obtain⟨a,xs,rfl,ha,_⟩:=r.tup;simp only[M0,ha,F7]
 . obtain⟨a,xs,rfl,ha,_⟩:=r.lst;simp only[M0,ha,F7]
 . obtain⟨a,xs,rfl,ha,_⟩:=r.dk;simp only[M0,ha,F7]
 . obtain⟨a,xs,rfl,ha,_⟩:=r.dt;simp only[M0,ha,F7]
 . exact absurd rfl h
 . exact absurd rfl h
 . exact absurd rfl h
def y38{K:Frag}{EX:XW}{σ:St}{H:Hp}{Q:VK}{c:String}{f:DE->R D}(h:TEd K EX false (eUn (m5 c) f) σ H Q):tCB Gu (F9 (TEd K EX false f) (F9 (tC (.ty c)) Aj)) σ H Q:=by
 obtain⟨sx,ρ,H0,s,e,h⟩:=h;unfold eUn at h;rw[Rk.bind]at h;refine TEd.go sx s e h fun d h v H1 ao s1 e1 r1=>?_
 obtain⟨z,hz,h⟩:=h.of;unfold m5 at hz;split at hz<;>cases hz;rename_i hc;show Gu [v,.ty c] H1 Q;rw[qZ];refine⟨hc.1,?_⟩;rw[wQ hc.2 (r1.mono e1.2.1)];exact h _ H1 (.val s1 e1 (.mkBl _))
def J3(hg:Gl X x)(hm:X.mg x=none)(hv:bootBuiltins x=some (.builtin "isinstance"))(ha:QE X EX false a f)(hb:PE X b (tC (.ty c)))(hn:x≠"__name__":=by decide)(aA:(x==("__debug__":Str))=false:=by decide)
 (he:starEach [a,b] X.env=(false,eval a X.env)::starEach [b] X.env:=by rfl) (hpl:(backTo pos (starEach [b] X.env)).any (·.1)=false:=by rfl) (hs:starEach [b] X.env=(false,eval b X.env)::starEach [] X.env:=by rfl) :
 QE X EX false (.Call (.Name x p) [a,b] [] pos) (eUn (m5 c) f):=⟨(Ma y2e hg hm hv (P7 ha.h (P7 hb pa_nil hs) he) hn aA he hpl).imp fun _ _ _ q=>y38 q⟩
noncomputable def B9:List D->Option (List Int)
 | []=>some []
 | .int i::ds=>(B9 ds).map (i::·)
 |_::_=>none
noncomputable def G7:List D->Option (List Bool)
 | []=>some []
 | .bl i::ds=>(G7 ds).map (i::·)
 |_::_=>none
theorem Yo:∀(ns:List Int),B9 (ns.map D.int)=some ns
 | []=>rfl
 |n::ns=>by simp[B9,Yo ns]
theorem Nq:∀(ns:List Bool),G7 (ns.map D.bl)=some ns
 | []=>rfl
 |n::ns=>by simp[G7,Nq ns]
theorem X9{K:Frag}{H:Hp}:∀{ds:List D}{ns:List Int}{xs:List V},B9 ds=some ns->RDs K H ds xs->xs=ns.map V.int
 | [],ns,xs,h,r=>by simp only[B9]at h;cases h;simp only[RDs]at r;subst r;rfl
 |d::ds,ns,xs,h,r=>by
  simp only[RDs]at r;obtain⟨x,xs,rfl,r1,r2⟩:=r;cases d<;>simp only[B9]at h<;>first |cases h |skip
  cases q:B9 ds with
  |none=>rw[q]at h;cases h
  |some ms=>
   rw[q]at h;cases h
   cases r1.int
   rw[X9 q r2];rfl
theorem Nc{K:Frag}{H:Hp}:∀{ds:List D}{ns:List Bool}{xs:List V},G7 ds=some ns->RDs K H ds xs->xs=ns.map V.bl
 | [],ns,xs,h,r=>by simp only[G7]at h;cases h;simp only[RDs]at r;subst r;rfl
 |d::ds,ns,xs,h,r=>by
  simp only[RDs]at r;obtain⟨x,xs,rfl,r1,r2⟩:=r;cases d<;>simp only[G7]at h<;>first |cases h |skip
  cases q:G7 ds with
  |none=>rw[q]at h;cases h
  |some ms=>
   rw[q]at h;cases h
   cases r1.bl
   rw[Nc q r2];rfl
noncomputable def k9:List D->Option D
 | [.lst ds]=>some (.int ds.length)
 | [.tup ds]=>some (.int ds.length)
 | [.dk ks _]=>some (.int ks.length)
 | [.scr ns]=>some (.int ns.length)
 | [.str z]=>if z.length<=100000 then some (.int z.length) else none
 |_=>none
def Gp:List D->Option D
 | [.lst ds]=>(B9 ds).map fun ns=>.int ns.sum
 | [.tup ds]=>(B9 ds).map fun ns=>.int ns.sum
 |_=>none
def D7:List D->Option D
 | [.lst ds]=>(G7 ds).map fun bs=>.bl (bs.all id)
 |_=>none
def Ae:List D->Option D
 | [.lst ds]=>(G7 ds).map fun bs=>.bl (bs.any id)
 |_=>none
noncomputable def Jk:List D->Option D
 | [.int i,.int j]=>some (.int (if j > i then j else i))
 |_=>none
noncomputable def Jj:List D->Option D
 | [.int i,.int j]=>some (.int (if j<i then j else i))
 |_=>none
noncomputable def T3:List D->Option D
 | [.int i]=>some (.int i)
 | [.bl b]=>some (.int (if b then 1 else 0))
 |_=>none
noncomputable def Cz:List D->Option D
 | [.lst ds]=>some (.lst ds)
 | [.tup ds]=>some (.lst ds)
 | [.scr ns]=>some (.lst (ns.map .int))
 |_=>none
noncomputable def O8:List D->Option D
 | [.lst ds]=>some (.tup ds)
 | [.tup ds]=>some (.tup ds)
 |_=>none
section
variable {X:Cx}{K:Frag}
def RDs.uno(h:RDs K H [d] xs):∃x,xs=[x]/\RD K H d x:=by simp only[RDs]at h;obtain⟨x,r,rfl,h1,rfl⟩:=h;exact⟨x,rfl,h1⟩
def RDs.duo(h:RDs K H [d,e] xs):∃x y,xs=[x,y]/\RD K H d x/\RD K H e y:=by simp only[RDs]at h;obtain⟨x,r,rfl,h1,y,r',rfl,h2,rfl⟩:=h;exact⟨x,y,rfl,h1,h2⟩
def Qi(K:Frag):List V->Hp->VK->Prop:=fun xs H Q=>(∃p ys,xs=[.ref p]/\(SqL K H p ys\/SqT K H p ys)/\Q (.int ys.length) H)\/(∃a kvs,xs=[V.ref a]/\H a=some (.dK kvs)/\Q (.int kvs.length) H)\/∃z,xs=[.str z]/\z.length<=sizeLine/\Q (.int z.length) H
def qH:CallR X (.builtin "len") (Qi X.K):=call_len_seq.or (call_lenD.or zdt)
def qG:x5 K false k9 (Qi K):=by
 intro H0 H xs ds z Q s r ho k;unfold k9 at ho;split at ho<;>first |cases ho |skip
 . obtain⟨x,rfl,q1⟩:=r.uno;obtain⟨a,ys,rfl,ha,ra⟩:=q1.lst;exact .inl ⟨a,ys,rfl,.inl (.of (s _ _ ha)),by rw[<-ra.length];exact k _ H (.pure s (.mkInt _))⟩
 . obtain⟨x,rfl,q1⟩:=r.uno;obtain⟨a,ys,rfl,ha,ra⟩:=q1.tup;exact .inl ⟨a,ys,rfl,.inr (.of (s _ _ ha)),by rw[<-ra.length];exact k _ H (.pure s (.mkInt _))⟩
 . obtain⟨x,rfl,q1⟩:=r.uno;obtain⟨a,ys,rfl,ha,hl,ra⟩:=q1.dk;refine .inr (.inl ⟨a,_,rfl,s _ _ ha,?_⟩);rw[Ig,<-hl,Nat.min_self];exact k _ H (.pure s (.mkInt _))
 . obtain⟨x,rfl,q1⟩:=r.uno;obtain⟨a,rfl,ha⟩:=(q1.mono s).scr;exact .inl ⟨a,_,rfl,.inl ha,by rw[gc];exact k _ H (.pure s (.mkInt _))⟩
 . split at ho<;>cases ho;rename_i h;obtain⟨x,rfl,q1⟩:=r.uno;cases q1.str;exact .inr (.inr ⟨_,rfl,Ah h,k _ H (.pure s (.mkInt _))⟩)
def qF:x5 K false Gp Hz:=by
 intro H0 H xs ds z Q s r ho k;unfold Gp at ho;split at ho<;>first |cases ho |skip
 . obtain⟨x,rfl,q1⟩:=r.uno;obtain⟨a,ys,rfl,ha,ra⟩:=q1.lst;rename_i es;cases q:B9 es with
   |none=>rw[q]at ho;cases ho
   |some ns=>
    rw[q]at ho;cases ho
    rw[Vc]
    exact⟨ns,by rw[<-X9 q ra];exact Xp (s _ _ ha),k _ H (.pure s (.mkInt _))⟩
 . obtain⟨x,rfl,q1⟩:=r.uno;obtain⟨a,ys,rfl,ha,ra⟩:=q1.tup;rename_i es;cases q:B9 es with
   |none=>rw[q]at ho;cases ho
   |some ns=>
    rw[q]at ho;cases ho
    rw[Vc]
    exact⟨ns,by rw[<-X9 q ra];exact Xo (s _ _ ha),k _ H (.pure s (.mkInt _))⟩
def Bh:x5 K false D7 Hy:=by
 intro H0 H xs ds z Q s r ho k;unfold D7 at ho;split at ho<;>first |cases ho |skip
 obtain⟨x,rfl,q1⟩:=r.uno;obtain⟨a,ys,rfl,ha,ra⟩:=q1.lst;rename_i es;cases q:G7 es with
 |none=>rw[q]at ho;cases ho
 |some ns=>
  rw[q]at ho;cases ho
  rw[xm]
  exact⟨ns,by rw[<-Nc q ra];exact .inl (s _ _ ha),k _ H (.pure s (.mkBl _))⟩
def qE:x5 K false Ae Hx:=by
 intro H0 H xs ds z Q s r ho k;unfold Ae at ho;split at ho<;>first |cases ho |skip
 obtain⟨x,rfl,q1⟩:=r.uno;obtain⟨a,ys,rfl,ha,ra⟩:=q1.lst;rename_i es;cases q:G7 es with
 |none=>rw[q]at ho;cases ho
 |some ns=>
  rw[q]at ho;cases ho
  rw[xk]
  exact⟨ns,by rw[<-Nc q ra];exact .inl (s _ _ ha),k _ H (.pure s (.mkBl _))⟩
def wP:x5 K false Jk Hw:=by
 intro H0 H xs ds z Q s r ho k;unfold Jk at ho;split at ho<;>first |cases ho |skip
 obtain⟨x,y,rfl,r1,r2⟩:=r.duo;cases r1.int;cases r2.int;rw[xj];exact k _ H (.pure s (.mkInt _))
def wO:x5 K false Jj Hv:=by
 intro H0 H xs ds z Q s r ho k;unfold Jj at ho;split at ho<;>first |cases ho |skip
 obtain⟨x,y,rfl,r1,r2⟩:=r.duo;cases r1.int;cases r2.int;rw[xi];exact k _ H (.pure s (.mkInt _))
def Kg:x5 K false T3 Qn:=by
 intro H0 H xs ds z Q s r ho k;unfold T3 at ho;split at ho<;>first |cases ho |skip
 . obtain⟨x,rfl,q1⟩:=r.uno;cases q1.int;exact k _ H (.pure s (.mkInt _))
 . obtain⟨x,rfl,q1⟩:=r.uno;cases q1.bl;exact k _ H (.pure s (.mkInt _))
def Sr(K:Frag):List V->Hp->VK->Prop:=fun xs H Q=>∃p ys,xs=[.ref p]/\(SqL K H p ys\/SqT K H p ys)/\∀l,H l=none->Q (.ref l) (upd H l (.lst ys))
def wN:CallR X (.type "list") (Sr X.K):=zdu
def wM:x5 K true Cz (Sr K):=by
 intro H0 H xs ds z Q s r ho k;have fin:∀{p:Addr}{ys:List V}{es:List D},RDs K H0 es ys->z=.lst es->H p=none->Q (.ref p) (upd H p (.lst ys)):=fun {p ys es} re e hp=>by subst e;refine k _ _ (.new s hp fun H' hH=>?_);simp only[OB];exact⟨_,hH,re⟩
 unfold Cz at ho;split at ho<;>first |cases ho |skip
 . obtain⟨x,rfl,q1⟩:=r.uno;obtain⟨a,ys,rfl,ha,ra⟩:=q1.lst;exact⟨a,ys,rfl,.inl (.of (s _ _ ha)),fun l hl=>fin ra rfl hl⟩
 . obtain⟨x,rfl,q1⟩:=r.uno;obtain⟨a,ys,rfl,ha,ra⟩:=q1.tup;exact⟨a,ys,rfl,.inr (.of (s _ _ ha)),fun l hl=>fin ra rfl hl⟩
 . obtain⟨x,rfl,q1⟩:=r.uno;obtain⟨a,rfl,ha⟩:=(q1.mono s).scr;exact⟨a,_,rfl,.inl ha,fun l hl=>fin (RDs.ofInts _) rfl hl⟩
def Ux(K:Frag):List V->Hp->VK->Prop:=fun xs H Q=>∃p ys,xs=[.ref p]/\((SqL K H p ys/\∀l,H l=none->Q (.ref l) (upd H l (.tup ys)))\/(SqT K H p ys/\Q (.ref p) H))
def Ls:CallR X (.type "tuple") (Ux X.K):=zc6
def Lr:x5 K false O8 (Ux K):=by
 intro H0 H xs ds z Q s r ho k;unfold O8 at ho;split at ho<;>first |cases ho |skip
 . obtain⟨x,rfl,q1⟩:=r.uno;obtain⟨a,ys,rfl,ha,ra⟩:=q1.lst;refine⟨a,ys,rfl,.inl ⟨.of (s _ _ ha),fun l hl=>k _ _ (.val (Same.upd_new hl) (.new s hl) (.mkTup j9 (ra.mono (Same.upd_new (s.none hl)))))⟩⟩
 . obtain⟨x,rfl,q1⟩:=r.uno;obtain⟨a,ys,rfl,ha,ra⟩:=q1.tup;exact⟨a,ys,rfl,.inr ⟨.of (s _ _ ha),k _ H (.pure s (.mkTup ha ra))⟩⟩
end
noncomputable def y0{α:Type}(xs:List α)(lo hi:Option Int):List α:=(xs.drop (HT.sIx xs.length 0 lo)).take (HT.sIx xs.length xs.length hi - HT.sIx xs.length 0 lo)
def dSl:D->Option Int->Option Int->Option D
 | .lst ds,lo,hi=>some (.lst (y0 ds lo hi))
 | .scr ns,lo,hi=>some (.lst ((y0 ns lo hi).map .int))
 |_,_,_=>none
def TOd(K:Frag)(EX:XW)(f:DE->R (Option Int)):TO:=fun σ H Q=>Same EX.hb H/\∃ρ H0,Same H0 H/\RE K H0 ρ σ/\Rk EX.at (f ρ) fun o=>∀H',Same H H'->Q o H'
noncomputable def oNo:DE->R (Option Int):=fun _=>.ok none
def oSo(f:DE->R D):DE->R (Option Int):=fun ρ=>(f ρ).bind fun d=>R.of (match d with | .int i=>some (some i) |_=>none)
def eSl(o:D->Option Int->Option Int->Option D)(f:DE->R D)(fl fh:DE->R (Option Int)):DE->R D:=fun ρ=>(f ρ).bind fun d=>(fl ρ).bind fun lo=>(fh ρ).bind fun hi=>R.of (o d lo hi)
def SlD(K:Frag)(fr:Bool)(o:D->Option Int->Option Int->Option D)(r:V->Option Int->Option Int->Hp->VK->Prop):Prop:=∀(H0 H:Hp)(x:V)(d z:D)(lo hi:Option Int)(Q:VK),Same H0 H->RD K H0 d x->o d lo hi=some z->(∀v H',Out K fr H0 H z v H'->Q v H')->r x lo hi H Q
section
variable {X:Cx}{K:Frag}{EX:XW}{fr:Bool}{σ:St}{H:Hp}{Q:VK}
structure QO(X:Cx)(EX:XW)(e:Option Expr)(f:DE->R (Option Int)):Prop where
 h:PO X e (TOd X.K EX f)
def PO.imp(h:PO X e t)(hi:∀σ H Q,t' σ H Q->t σ H Q):PO X e t':=fun pins s σ H Q I q=>h pins s σ H Q I (hi σ H Q q)
def x9:QO X EX none oNo:=⟨po_none.imp fun σ H Q ⟨sx,ρ,H0,s,e,h⟩=>h H (Same.refl _)⟩
def x8(he:QE X EX false e f):QO X EX (some e) (oSo f):=⟨(xB he.h).imp fun σ H Q ⟨sx,ρ,H0,s,e,h⟩=>by
 unfold oSo at h;rw[Rk.bind]at h;refine TEd.go sx s e h fun d h v H1 ao s1 e1 r1=>?_
 obtain⟨o,ho,h⟩:=h.of;cases d<;>dsimp only at ho<;>first |cases ho |skip
 cases r1.int;exact⟨_,rfl,h H1 s1⟩⟩
def y76(hs:SlD K fr o r)(h:TEd K EX fr (eSl o f fl fh) σ H Q):tSl r (TEd K EX false f) (TOd K EX fl) (TOd K EX fh) σ H Q:=by
 obtain⟨sx,ρ,H0,s,e,h⟩:=h;unfold eSl at h;rw[Rk.bind]at h;refine TEd.go sx s e h fun d h v H1 ao s1 e1 r1=>?_
 rw[Rk.bind]at h;refine⟨sx.trans s1,ρ,ao,e1.2.1,e.mono e1.1,h.mono fun lo h H2 s2=>?_⟩;rw[Rk.bind]at h;refine⟨(sx.trans s1).trans s2,ρ,ao,e1.2.1.trans s2,e.mono e1.1,h.mono fun hi h H3 s3=>?_⟩;obtain⟨z,hz,h⟩:=h.of;exact hs ao H3 v d z lo hi Q (e1.2.1.trans (s2.trans s3)) r1 hz fun w H4 o=>h w H4 (o.after (s1.trans (s2.trans s3)) (e1.grow (s2.trans s3)))
def RDs.cut(r:RDs K H ds xs)(lo hi:Option Int):RDs K H (y0 ds lo hi) (U5 xs lo hi):=by unfold y0 U5;rw[<-r.length];exact(r.drop _).take _
def Bs:SlD K true dSl (ki K):=by
 intro H0 H x d z lo hi Q s r ho k;cases d<;>simp only[dSl]at ho<;>first |cases ho |skip
 . obtain⟨a,xs,rfl,ha,ra⟩:=r.lst;refine⟨a,xs,rfl,.of (s _ _ ha),fun p hp=>k _ _ (.new s hp fun H' hH=>?_)⟩;simp only[OB];exact⟨_,hH,ra.cut lo hi⟩
 . rename_i ns;obtain⟨a,rfl,ha⟩:=(r.mono s).scr;refine⟨a,_,rfl,ha,fun p hp=>k _ _ (.new s hp fun H' hH=>?_)⟩;simp only[OB];have e:=(RDs.ofInts (K:=K) (H:=H0) ns).cut lo hi;refine⟨_,hH,?_⟩;have e2:∀ns:List Int,y0 (ns.map D.int) lo hi=(y0 ns lo hi).map D.int:=fun ns=>by unfold y0;rw[gc,IW,List.map_drop]
   rw[e2]at e;exact e
def x6{o:D->Option Int->Option Int->Option D}{r:V->Option Int->Option Int->Hp->VK->Prop}{e:Expr}{lo hi:Option Expr}{pos p2:Pos}{f:DE->R D}{fl fh:DE->R (Option Int)}(hr:SlR X r)(hs:SlD X.K fr o r)(he:QE X EX false e f)(hl:QO X EX lo fl)(hu:QO X EX hi fh) :
 QE X EX fr (.Subscript e (.Slice lo hi none p2) pos) (eSl o f fl fh):=⟨(zg hr he.h hl.h hu.h).imp fun _ _ _ q=>y76 hs q⟩
end
def iL(f:DE->R D):DE->R (List D):=fun ρ=>(f ρ).bind fun d=>R.of (items d)
noncomputable def zD(lo:Int)(n:Nat):List D:=(List.range n).map fun (i:Nat)=>D.int (lo+i)
def Ad(fs:DE->R (List D)):DE->R (List D):=fun ρ=>(fs ρ).bind fun ds=>R.of (match ds with
 | [.int j]=>if -(2 ^ 62)<=j/\j<2 ^ 62 then some (zD 0 j.toNat) else none
 |_=>none)
def iEn(fs:DE->R (List D)):DE->R (List D):=fun ρ=>(fs ρ).bind fun ds=>R.of (match ds with
 | [.lst es]=>some (((zD 0 es.length).zip es).map fun p=>D.tup [p.1,p.2])
 |_=>none)
section
variable {X:Cx}{K:Frag}{EX:XW}{H0:Hp}
def Dn(hS:∀H,Same H0 H->S H)(r:RDs K H0 ds xs):Q9 K (ItS S xs) H0 ds:=by have hl:=r.length;refine⟨fun i d e H H1 s1 s2=>⟨⟨hS H (s1.trans s2),by rw[<-hl];exact(FK.mp e).1⟩,fun x H' ⟨e1,e2⟩=>?_⟩,fun H s=>⟨hS H s,by rw[hl];exact ζ _⟩⟩;subst e1;obtain⟨x',q1,q2⟩:=r.get' e;rw[q1]at e2;cases e2;exact⟨Same.refl _,H1,.refl s2,q2.mono s1⟩
def Qh(lo:Int)(n:Nat):RDs K H0 (zD lo n) (D9 lo n):=by
 have:∀l:List Nat,RDs K H0 (l.map fun (i:Nat)=>D.int (lo+i)) (l.map fun (i:Nat)=>V.int (lo+i)):=by
  intro l;induction l with
  |nil=>simp[RDs]
  |cons a l ih=>exact .cons (.mkInt _) ih
 exact this _
def y6(hl:QE X EX false l f):QI X EX false tg l (iL f):=⟨(ve hl.h).imp fun σ H Q ⟨sx,ρ,H0,s,e,h⟩=>by
 unfold iL at h;rw[Rk.bind]at h;refine TEd.go sx s e h fun d h v H1 ao s1 e1 r1=>?_
 obtain⟨ds,hd,h⟩:=h.of;cases d<;>simp only[items]at hd<;>first |cases hd |skip
 . obtain⟨a,xs,rfl,ha,ra⟩:=r1.tup;exact yV (e1.2.1 _ _ ha) (h _ H1 ao s1 e1 (Dn (fun H s=>s _ _ ha) ra))
 . obtain⟨a,xs,rfl,ha,ra⟩:=r1.lst;exact yW (.inl (e1.2.1 _ _ ha)) (h _ H1 ao s1 e1 (Dn (fun H s=>.inl (s _ _ ha)) ra))⟩
def y77(hg:Gl X "range")(hm:X.mg "range"=none)(ha:QA X EX [a] fs)(hs:starEach [a] X.env=[(false,eval a X.env)]:=by rfl):QI X EX true tg (.Call (.Name "range" p) [a] [] pos) (Ad fs):=⟨(y2d hg hm ha.h hs).imp fun σ H Q ⟨sx,ρ,H0,s,e,h⟩=>by
 unfold Ad at h;rw[Rk.bind]at h;refine TAd.go sx s e h fun ds h vs H1 ao s1 e1 r1=>?_
 obtain⟨es,hd,h⟩:=h.of;split at hd<;>first |cases hd |skip
 obtain⟨x,rfl,q1⟩:=r1.uno;cases q1.int;split at hd<;>cases hd;rename_i hb;exact⟨hb,h _ H1 ao s1 e1 (Dn (fun _ _=>trivial) (Qh _ _))⟩⟩
def qC(hS:∀H,Same H0 H->S H)(r:RDs K H0 ds xs)(r':RDs K H0 es ys):Q9 K (ItP S (xs.zip ys)) H0 ((ds.zip es).map fun p=>D.tup [p.1,p.2]):=by
 have hl:=r.length;have sB:=r'.length;have hz:((ds.zip es).map fun p=>D.tup [p.1,p.2]).length=(xs.zip ys).length:=by rw[gc,Ig,Ig,hl,sB]
 refine⟨fun i d e H H1 s1 s2=>⟨⟨hS H (s1.trans s2),by rw[<-hz];exact(FK.mp e).1⟩,fun x H' y=>?_⟩,fun H s=>⟨hS H s,hz⟩⟩;obtain⟨T,a,b,rfl,hT,rfl,ep⟩:=y;obtain⟨ea,eb⟩:=IQ.mp ep;obtain⟨da,ga,ra⟩:=r.get ea;obtain⟨db,gb,rb⟩:=r'.get eb;have gz:(ds.zip es)[i]?=some (da,db):=IQ.mpr ⟨ga,gb⟩;rw[FF,gz]at e;cases e;refine⟨Same.upd_new hT,upd H1 T (.tup [a,b]),.new s2 hT,.mkTup j9 ?_⟩;have sm:=Same.upd_new (o:=.tup [a,b]) (s2.none hT);exact .cons (ra.mono (s1.trans sm)) (.cons (rb.mono (s1.trans sm)) .nil)
def Pp(hg:Gl X "enumerate")(hm:X.mg "enumerate"=none)(ha:QA X EX [a] fs)(hs:starEach [a] X.env=[(false,eval a X.env)]:=by rfl) :
  QI X EX false (.Tuple dr k bz) (.Call (.Name "enumerate" p) [a] [] pos) (iEn fs):=⟨(xr hg hm ha.h hs).imp fun σ H Q ⟨sx,ρ,H0,s,e,h⟩=>by
 unfold iEn at h
 rw[Rk.bind]at h
 refine TAd.go sx s e h fun ds h vs H1 ao s1 e1 r1=>?_
 obtain⟨es,hd,h⟩:=h.of
 split at hd<;>first |cases hd |skip
 obtain⟨x,rfl,q1⟩:=r1.uno
 obtain⟨l,xs,rfl,hl,rl⟩:=q1.lst
 refine⟨xs,.inl (e1.2.1 _ _ hl),h _ H1 ao s1 e1 ?_⟩
 rw[rl.length]
 exact qC (fun H s=>.inl (s _ _ hl)) (Qh _ _) rl⟩
end
section
variable {X:Cx}{sc:Scope}{caps:List Str}{ix:List Nat}{au iter:Expr}{aq:List Expr}{pos px py bz:Pos}{x y:Str}{kt:Nat}{kp:Bool}{EX:XW}{fi:DE->R (List D)}{t:DE->R Bool}{f:DE->R D}
noncomputable def k8:DE->R Bool:=fun _=>.ok true
inductive PTq (X:Cx) (sc:Scope) (N:List Str):List Expr->(DE->R Bool)->Prop where
 |nil:PTq X sc N [] k8
 |one {c:Expr} {t:DE->R Bool} (h:∀fp s H,QT (j7 X sc N fp s H) F0 c t):PTq X sc N [c] t
def PTq.run(h:PTq X sc N aq t):∃tt,(∀fp s H,PTs (j7 X sc N fp s H) aq tt)/\∀σ H Q,TTd X.K F0 t σ H Q->tt σ H Q:=by
 cases h with
 |nil=>exact⟨_,fun _ _ _=>.nil,fun σ H Q ⟨sx,ρ,H0,s,e,h⟩=>h H (Same.refl _)⟩
 |one h=>exact⟨_,fun fp s H=>.one (h fp s H).h,fun _ _ _ q=>q⟩
def N5(C:CompOk X sc caps ix)(hN:([x]++caps).Nodup)(hx:sc.names.lookup x=some .local)(hi:QI X EX kp (.Name x px) iter fi)(ht:PTq X sc ([x]++caps) aq t)(he:∀fp s H,QE (j7 X sc ([x]++caps) fp s H) F0 false au f)
  (hs:∀x,foldedSetIterable iter X.env x=pure x:=by intro _;rfl):QE X EX true (.ListComp au [⟨.Name x px,iter,aq,0⟩] sc pos) (o6 fi b1 ix t f):=by
 obtain⟨tt,h1,h2⟩:=ht.run
 refine⟨(yU C hN hx hi.h h1 (fun fp s H=>(he fp s H).h) hs).imp fun _ _ _ q=>Dq Gr h2 q⟩
def y78(C:CompOk X sc caps ix)(hN:([x,y]++caps).Nodup)(hx:sc.names.lookup x=some .local)(hy:sc.names.lookup y=some .local)(hi:QI X EX kp (.Tuple [.Name x px,.Name y py] kt bz) iter fi)(ht:PTq X sc ([x,y]++caps) aq t)
  (he:∀fp s H,QE (j7 X sc ([x,y]++caps) fp s H) F0 false au f) (hs:∀x,foldedSetIterable iter X.env x=pure x:=by intro _;rfl):QE X EX true (.ListComp au [⟨.Tuple [.Name x px,.Name y py] kt bz,iter,aq,0⟩] sc pos) (o6 fi (bT 2) ix t f):=by
 obtain⟨tt,h1,h2⟩:=ht.run
 refine⟨(yS C hN hx hy hi.h h1 (fun fp s H=>(he fp s H).h) hs).imp fun _ _ _ q=>Dq jT h2 q⟩
def Mn(h:∀σ H Q,uz σ H Q->te σ H Q)(q:J2 uz g De σ H):J2 te g De σ H:=h _ _ _ q
def Po{fr:Bool}{m:List Bool}{v:Str}{k:Nat}{aZ pv:Pos}(eX:X.N.Nodup)(hk:X.N[k]?=some v)(hv:X.env.scope.names.lookup v=some .local)(C:CompOk X sc caps ix)(hN:([x]++caps).Nodup)(hx:sc.names.lookup x=some .local)(hi:QI X EX kp (.Name x px) iter fi)
  (ht:PTq X sc ([x]++caps) aq t) (he:∀fp s H,QE (j7 X sc ([x]++caps) fp s H) F0 false au f)
  (bZ:swapsWith (.ListComp au [⟨.Name x px,iter,aq,0⟩] sc pos) (some (.Name v pv)) aZ.line X.env=pure true:=by rfl) (hs:∀x,foldedSetIterable iter X.env x=pure x:=by intro _;rfl) :
  QS X EX fr (.Assign [.Name v pv] (.ListComp au [⟨.Name x px,iter,aq,0⟩] sc pos) aZ) (c5 true k m (o6 fi b1 ix t f)):=by
 obtain⟨tt,h1,h2⟩:=ht.run
 refine⟨(yT eX hk hv C hN hx hi.h h1 (fun fp s H=>(he fp s H).h) bZ hs).imp fun _ _ _ q=>Mn (fun _ _ _ q=>Dq Gr h2 q) (Da q)⟩
def y79{fr:Bool}{m:List Bool}{v:Str}{k:Nat}{aZ pv:Pos}(eX:X.N.Nodup)(hk:X.N[k]?=some v)(hv:X.env.scope.names.lookup v=some .local)(C:CompOk X sc caps ix)(hN:([x,y]++caps).Nodup)(hx:sc.names.lookup x=some .local)(hy:sc.names.lookup y=some .local)
  (hi:QI X EX kp (.Tuple [.Name x px,.Name y py] kt bz) iter fi) (ht:PTq X sc ([x,y]++caps) aq t) (he:∀fp s H,QE (j7 X sc ([x,y]++caps) fp s H) F0 false au f)
  (bZ:swapsWith (.ListComp au [⟨.Tuple [.Name x px,.Name y py] kt bz,iter,aq,0⟩] sc pos) (some (.Name v pv)) aZ.line X.env=pure true:=by rfl) (hs:∀x,foldedSetIterable iter X.env x=pure x:=by intro _;rfl) :
  QS X EX fr (.Assign [.Name v pv] (.ListComp au [⟨.Tuple [.Name x px,.Name y py] kt bz,iter,aq,0⟩] sc pos) aZ) (c5 true k m (o6 fi (bT 2) ix t f)):=by
 obtain⟨tt,h1,h2⟩:=ht.run
 refine⟨(yR eX hk hv C hN hx hy hi.h h1 (fun fp s H=>(he fp s H).h) bZ hs).imp fun _ _ _ q=>Mn (fun _ _ _ q=>Dq jT h2 q) (Da q)⟩
end
section
variable {X:Cx}{EX:XW}{fr dD:Bool}{st:Stmt}{sts:List Stmt}{a c e:Expr}{es:List Expr}{f:DE->R D}{fs:DE->R (List D)}{t:DE->R Bool}{g g1 g2:DS->SR}{pos p:Pos}{m:List Bool}
def i9:QB X EX fr [] sNx:=⟨pss_nil.imp fun _ _ _ q=>jU q⟩
def c7(h:QS X EX fr st g):QB X EX fr [st] g:=⟨Vh h.h⟩
def c6(h1:QS X EX fr st g1)(h2:QB X EX fr sts g2):QB X EX fr (st::sts) (a9 g1 g2):=⟨(Ev h1.h h2.h).imp fun _ _ _ q=>y2s q⟩
def i8(hc:QT X EX c t)(ha:QB X EX fr x g1)(hb:QB X EX fr y g2):QS X EX fr (.If c x y pos) (sIf t g1 g2):=⟨(Qx hc.h ha.h hb.h).imp fun _ _ _ q=>Ql q⟩
def g7(he:QE X EX fr e f):QS X EX fr (.Return (some e) pos) (e7 m f):=⟨(Th he.h).imp fun _ _ _ q=>y2t q⟩
def Kf(hN:X.N[i]?=some x:=by rfl)(hv:Vis X.env.scope x:=by first |exact .inl rfl |exact .inr (.inl rfl) |exact .inr (.inr rfl))(hd:(x==("__debug__":Str))=false:=by decide)
 (cK:(x==("__classdict__":Str))=false:=by decide):QS X EX true (.Return (some (.Name x p)) pos) (O4 i):=⟨(Th (pw i hN hv hd cK)).imp fun _ _ _ q=>qQ q⟩
def Sq(he:QE X EX false e f)(hs:swapsWith e none pos.line X.env=pure false:=by rfl):QS X EX fr (.Expr e pos) (G0 f):=⟨(Em he.h hs).imp fun _ _ _ q=>qP q⟩
def y3b(hN:X.N.Nodup)(hi:X.N[i]?=some x)(hx:Loc X.env.scope x)(he:QE X EX dD e f)(hs:swapsWith e (some (.Name x dm)) pos.line X.env=pure false:=by rfl)(hf:X.fn x=true\/X.env.scope.names.lookup x=some .local) :
 QS X EX fr (.Assign [.Name x dm] e pos) (c5 dD i m f):=⟨(vv hN hi hx he.h hs hf).imp fun _ _ _ q=>Da q⟩
def g_n(hN:X.N.Nodup)(hi:X.N[i]?=some x)(hx:Loc X.env.scope x)(hf:X.fn x=true\/X.env.scope.names.lookup x=some .local:=by exact .inl rfl):QG X (.Name x pos) (.n i):=⟨(Lg hN hi hx hf).imp fun _ _ _ _ q=>y71 q⟩
def Dm:QGs X [] []:=⟨yQ⟩
def P6(hN:X.N.Nodup)(hi:X.N[i]?=some x)(hx:Loc X.env.scope x)(hr:QGs X ts is)(hf:X.fn x=true\/X.env.scope.names.lookup x=some .local:=by exact .inl rfl)
 (hs:(assignEach (.Name x pos::ts) X.env).map (·.2)=assign (.Name x pos) X.env::(assignEach ts X.env).map (·.2):=by rfl):QGs X (.Name x pos::ts) (i::is):=⟨zG (Lg hN hi hx hf) hr.h hs⟩
def g_t(hc:X.calm=true)(h:QGs X ts is)(hn:(assignEach ts X.env).length=is.length:=by rfl)(aF:(assignEach ts X.env).findIdx? (·.1)=none:=by rfl):QG X (.Tuple ts k pos) (.t is):=⟨(xn hc h.h hn aF).imp fun _ _ _ _ q=>y72 q⟩
def y3c(he:QE X EX false e f)(hg:QG X tg tt)(hs:swapsWithSole [tg] e pos.line X.env=pure false:=by rfl)(hw:swappedStores [tg] e X.env=pure none:=by rfl)
 (h1:(assignEach [tg] X.env).map (·.2)=[assign tg X.env]:=by rfl):QS X EX fr (.Assign [tg] e pos) (Ak tt m f):=⟨(vw he.h hg.h hs hw h1).imp fun _ _ _ q=>y2u q⟩
def O0(hp:PassesOwn (model X.prog X.w) X.A X.env X.xe)(hc:X.calm=true)(hi:QI X EX kp tg iter fi)(hg:QG X tg tt)(hb:QB X EX fr body g)
 (hs:∀x,foldedSetIterable iter X.env x=pure x:=by intro _;rfl):QS X EX fr (.For tg iter body [] pos) (E2 kp m fi tt g):=⟨(xu hp hc hi.h hg.h hb.h hs).imp fun _ _ _ q=>y2v q⟩
def wL(hp:PassesOwn (model X.prog X.w) X.A X.env X.xe)(hc:QT X EX c t)(hb:QB X EX fr body g):QS X EX fr (.While c body [] pos) (Dr n t g):=⟨(zi hp hc.h hb.h).imp fun _ _ _ q=>wX q⟩
noncomputable def F5:D->List D->Option D
 | .lst ds,[d]=>if ds.length<100000 then some (.lst (ds++[d])) else none
 |_,_=>none
def P5{K:Frag}:TyD K "list":=fun H0 H a d ob h=>by cases d<;>simp[isT]at h;simp only[OB]at ob;obtain⟨xs,hx,_⟩:=ob;exact .inl ⟨rfl,xs,.of hx⟩
def Bg{K:Frag}:T9 K F5 Vg:=by
 intro H0 H a d d' ds vs Q s h0 ob r hm k;unfold F5 at hm;split at hm<;>first |cases hm |skip
 split at hm<;>cases hm;rename_i es e hl;simp only[OB]at ob;obtain⟨xs,hx,rx⟩:=ob;obtain⟨y,rfl,q1⟩:=r.uno;refine⟨a,xs,y,rfl,rfl,hx,by rw[<-rx.length];exact Fk hl,k _ _ ?_⟩;simp only[OB];exact⟨_,j9,rx.append (.one q1)⟩
def V5{T id:String}{name:Str}{i:Nat}{x:Str}{xp bO ak:Pos}{mt:D->List D->Option D}{rr:V->List V->Hp->VK->Prop}(pa:PlainAttrs T)(slot:Slot T name id)(eU:typeOf (.builtin id)=pure (.type "method_descriptor"))(hm:MtM X id rr)(od:T9 X.K mt rr)(hT:TyD X.K T)
 (ho:PE X (.Name x xp) (E0 i)) (ha:QA X EX (e::es) fs)
 (aU:attributeBase (.Name x xp) name X.env (eval (.Name x xp) X.env)=eval (.Name x xp) X.env:=by rfl)
 (dX:((backTo ak (starEach (e::es) X.env)).all (fun x=>!x.1)&&(backToKw ak (keywordEach [] X.env)).all (fun x=>x.1.isSome)
  && decide ((e::es).length+([]:List Keyword).length+(if([]:List Keyword).isEmpty then 0 else 1)<30))=true:=by rfl)
 (cZ:(bO.endLine==ak.line)=true:=by rfl) (hs:starEach (e::es) X.env=(false,eval e X.env)::starEach es X.env:=by rfl) (bY:(backTo ak (starEach es X.env)).any (·.1)=false:=by rfl)
 (bZ:swapsWith (.Call (.Attribute (.Name x xp) name bO) (e::es) [] ak) none pos.line X.env=pure false:=by rfl) :
 QS X EX fr (.Expr (.Call (.Attribute (.Name x xp) name bO) (e::es) [] ak) pos) (E3 T mt i m fs):=⟨(Em (Jg pa slot eU hm ho ha.h aU dX cZ hs bY) bZ).imp fun _ _ _ q=>Qk od hT q⟩
noncomputable def Hs:DE->R D:=fun _=>.ok (.dk [] [])
def qB:QE X EX true (.Dict [] [] pos) Hs:=⟨pe_dnewK.imp fun σ H Q ⟨sx,ρ,H0,s,e,h⟩ p hp=>h _ _ (.new s hp fun H' hH=>by simp only[OB];exact⟨[],hH,rfl,.nil⟩)⟩
end
def fnD{P:Program}{w:World}{K:Frag}{mg:Str->Option Value}{base:Heap}{x qual:Str}{st:Stmt}{f:Addr}{fd:FuncData}{N ps:List Str}{k n kk:Nat}{fr:Bool}{g:DS->SR}(F:Fun K x qual st f fd)(S:FnScope N ps (g0 st))(oY:ps.length=n)(hN:N.length=n+kk)
  (cY:∀(cdv:Value)(A:Around)(outer:List Env)(s:Shared)(H:Hp)(E:XK),Room k (A.deeper (envOfC qual (g0 st) s.heap.objs.size f cdv)) ->
   QB (B5 (CX1 P w) P w K mg base N qual (g0 st) f cdv A outer s H E) ⟨H,xNm K mg E⟩ fr (C1 st) g):FnOk P w K mg base (CX1 P w) (k+1) f fd ps (spD K mg fr (mOf fr n kk g) n):=by
 have ax:∀{vs:List V}{H:Hp}{Q:VK}{E:XK},spD K mg fr (mOf fr n kk g) n vs H Q E->vs.length=n:=fun {vs H Q E} h=>by obtain⟨ds,H0,s,r,hn,_⟩:=h;rw[<-r.length];exact hn
 refine F.okX S (fun vs H Q E h=>by rw[ax h,oY]) (fun cdv A outer s H vs Q E hr h=>⟨_,(cY cdv A outer s H E hr).h,?_⟩)
 have e:E8 N vs=vs.map some++List.replicate kk none:=by unfold E8;rw[ax h,hN,Nat.add_sub_cancel_left]
 rw[e]
 exact qO h
def spL(K:Frag)(fr:Bool)(m:List D->R D)(n:Nat):Sp:=fun vs H Q _=>∃ds H0,Same H0 H/\RDs K H0 ds vs/\ds.length=n/\Rk (fun _=>False) (m ds) fun d=>∀v H',Out K fr H0 H d v H'->Q v H'
def spL.spD{K:Frag}{fr:Bool}{m:List D->R D}{n:Nat}{vs:List V}{H:Hp}{Q:VK}{E:XK}{mg:Str->Option Value}(h:spL K fr m n vs H Q E):L2.spD K mg fr m n vs H Q E:=by
 obtain⟨ds,H0,s,r,hn,h⟩:=h;refine⟨ds,H0,s,r,hn,?_⟩;cases q:m ds with
 |ok d=>rw[q]at h;exact h
 |er x=>rw[q]at h;exact h.elim
 |st=>rw[q]at h;exact h.elim
def qA{K:Frag}{H:Hp}{a:Addr}{ns:List Int}{m:List D->R D}{fr:Bool}(hO:Gw H)(hS:SqL K H a (ns.map V.int))(h:m [.scr ns]=.ok (.bl true)):spL K fr m 1 [.ref a] H (fun v _=>v=.bl true) fun _ _ _=>False:=by
 refine⟨[.scr ns],H,Same.refl _,.one ?_,rfl,?_⟩
 . simp only[RD];refine⟨a,rfl,?_⟩;rcases hS with (hS |hS) |hS
   . rcases hO a with z |⟨o,xs,z⟩<;>rw[z]at hS<;>cases hS
   . exact .inl hS
   . exact .inr hS
 . rw[h];exact fun v H' o=>by obtain⟨_,ae,_,r⟩:=o.weak.rd;exact r.bl
end L2
namespace L2
open PySem PySem.Spec PyProof.Rows
open PySem.W (KasT kas_sort kas_rev kas_asc kas_desc kas_tail3 kas_descPart kas_count kas_place kas_bin)
end L2
namespace L2
open PySem PySem.Spec PyProof.Rows
open PySem.W (KasT kas_sort)
mutual
noncomputable def D.oi:D->Bool
 | .int _=>true
 | .tup ds=>ois ds
 |_=>false
noncomputable def ois:List D->Bool
 | []=>true
 |d::ds=>d.oi&&ois ds
end
mutual
noncomputable def ltT:D->D->Bool
 | .int i,.int j=>decide (i<j)
 | .int _,.tup _=>true
 | .tup ds,.tup es=>p8 ds es
 |_,_=>false
noncomputable def p8:List D->List D->Bool
 | [],[]=>false
 | [],_::_=>true
 |_::_,[]=>false
 |d::ds,e::es=>if eqD d e=true then p8 ds es else ltT d e
end
mutual
noncomputable def i7:D->D->Option Bool
 | .int i,.int j=>some (decide (i<j))
 | .tup ds,.tup es=>t7 ds es
 |_,_=>none
noncomputable def t7:List D->List D->Option Bool
 | [],[]=>some false
 | [],_::_=>some true
 |_::_,[]=>some false
 |d::ds,e::es=>if eqD d e=true then t7 ds es else i7 d e
end
mutual
theorem So:∀{d e:D}{b:Bool},i7 d e=some b->b=ltT d e
 | .int i,.int j,b,h=>by simp only[i7,Option.some.injEq]at h;simp only[ltT];exact h.symm
 | .tup ds,.tup es,b,h=>by simp only[i7]at h;simp only[ltT];exact Uw h
 | .non,e,b,h=>by simp[i7]at h
 | .bl _,e,b,h=>by simp[i7]at h
 | .str _,e,b,h=>by simp[i7]at h
 | .lst _,e,b,h=>by simp[i7]at h
 | .dk _ _,e,b,h=>by simp[i7]at h
 | .dt _ _,e,b,h=>by simp[i7]at h
 | .dn _ _,e,b,h=>by simp[i7]at h
 | .scr _,e,b,h=>by simp[i7]at h
 | .exc _ _,e,b,h=>by simp[i7]at h
 | .int _,.non,b,h=>by simp[i7]at h
 | .int _,.bl _,b,h=>by simp[i7]at h
 | .int _,.str _,b,h=>by simp[i7]at h
 | .int _,.lst _,b,h=>by simp[i7]at h
 | .int _,.tup _,b,h=>by simp[i7]at h
 | .int _,.dk _ _,b,h=>by simp[i7]at h
 | .int _,.dt _ _,b,h=>by simp[i7]at h
 | .int _,.dn _ _,b,h=>by simp[i7]at h
 | .int _,.scr _,b,h=>by simp[i7]at h
 | .int _,.exc _ _,b,h=>by simp[i7]at h
 | .tup _,.non,b,h=>by simp[i7]at h
 | .tup _,.bl _,b,h=>by simp[i7]at h
 | .tup _,.int _,b,h=>by simp[i7]at h
 | .tup _,.str _,b,h=>by simp[i7]at h
 | .tup _,.lst _,b,h=>by simp[i7]at h
 | .tup _,.dk _ _,b,h=>by simp[i7]at h
 | .tup _,.dt _ _,b,h=>by simp[i7]at h
 | .tup _,.dn _ _,b,h=>by simp[i7]at h
 | .tup _,.scr _,b,h=>by simp[i7]at h
 | .tup _,.exc _ _,b,h=>by simp[i7]at h
theorem Uw:∀{ds es:List D}{b:Bool},t7 ds es=some b->b=p8 ds es
 | [],[],b,h=>by simp only[t7,Option.some.injEq]at h;simp only[p8];exact h.symm
 | [],_::_,b,h=>by simp only[t7,Option.some.injEq]at h;simp only[p8];exact h.symm
 |_::_,[],b,h=>by simp only[t7,Option.some.injEq]at h;simp only[p8];exact h.symm
 |d::ds,e::es,b,h=>by
  simp only[t7]at h;simp only[p8];split at h
  . rename_i q;rw[ξ q];exact Uw h
  . rename_i q;rw[ψ q];exact So h
end
mutual
theorem V4:∀{d e:D},d.oi=true->eqD d e=true->e.oi=true->d=e
 | .int i,.int j,_,h,_=>by simp only[eqD,Iv]at h;rw[h]
 | .tup ds,.tup es,p,h,q=>by simp only[eqD]at h;simp only[D.oi]at p q;rw[Sn p h q]
 | .int i,.tup _,_,h,_=>by simp[eqD]at h
 | .tup _,.int _,_,h,_=>by simp[eqD]at h
 | .int _,.non,_,_,q=>by simp[D.oi]at q
 | .int _,.bl _,_,_,q=>by simp[D.oi]at q
 | .int _,.str _,_,_,q=>by simp[D.oi]at q
 | .int _,.lst _,_,_,q=>by simp[D.oi]at q
 | .int _,.dk _ _,_,_,q=>by simp[D.oi]at q
 | .int _,.dt _ _,_,_,q=>by simp[D.oi]at q
 | .int _,.dn _ _,_,_,q=>by simp[D.oi]at q
 | .int _,.scr _,_,_,q=>by simp[D.oi]at q
 | .int _,.exc _ _,_,_,q=>by simp[D.oi]at q
 | .tup _,.non,_,_,q=>by simp[D.oi]at q
 | .tup _,.bl _,_,_,q=>by simp[D.oi]at q
 | .tup _,.str _,_,_,q=>by simp[D.oi]at q
 | .tup _,.lst _,_,_,q=>by simp[D.oi]at q
 | .tup _,.dk _ _,_,_,q=>by simp[D.oi]at q
 | .tup _,.dt _ _,_,_,q=>by simp[D.oi]at q
 | .tup _,.dn _ _,_,_,q=>by simp[D.oi]at q
 | .tup _,.scr _,_,_,q=>by simp[D.oi]at q
 | .tup _,.exc _ _,_,_,q=>by simp[D.oi]at q
 | .non,_,p,_,_=>by simp[D.oi]at p
 | .bl _,_,p,_,_=>by simp[D.oi]at p
 | .str _,_,p,_,_=>by simp[D.oi]at p
 | .lst _,_,p,_,_=>by simp[D.oi]at p
 | .dk _ _,_,p,_,_=>by simp[D.oi]at p
 | .dt _ _,_,p,_,_=>by simp[D.oi]at p
 | .dn _ _,_,p,_,_=>by simp[D.oi]at p
 | .scr _,_,p,_,_=>by simp[D.oi]at p
 | .exc _ _,_,p,_,_=>by simp[D.oi]at p
theorem Sn:∀{ds es:List D},ois ds=true->v7 ds es=true->ois es=true->ds=es
 | [],[],_,_,_=>rfl
 | [],_::_,_,h,_=>by simp[v7]at h
 |_::_,[],_,h,_=>by simp[v7]at h
 |d::ds,e::es,p,h,q=>by simp only[v7,gq]at h;simp only[ois,gq]at p q;rw[V4 p.1 h.1 q.1,Sn p.2 h.2 q.2]
end
mutual
theorem Ee:∀{d:D},d.oi=true->eqD d d=true
 | .int i,_=>by simp[eqD]
 | .tup ds,p=>by simp only[eqD];exact Wi (by simpa only [D.oi] using p)
 | .non,p=>by simp[D.oi]at p
 | .bl _,p=>by simp[D.oi]at p
 | .str _,p=>by simp[D.oi]at p
 | .lst _,p=>by simp[D.oi]at p
 | .dk _ _,p=>by simp[D.oi]at p
 | .dt _ _,p=>by simp[D.oi]at p
 | .dn _ _,p=>by simp[D.oi]at p
 | .scr _,p=>by simp[D.oi]at p
 | .exc _ _,p=>by simp[D.oi]at p
theorem Wi:∀{ds:List D},ois ds=true->v7 ds ds=true
 | [],_=>rfl
 |d::ds,p=>by simp only[ois,gq]at p;simp only[v7,Ee p.1,Wi p.2,GJ]
end
mutual
theorem Dl:∀{d e:D},d.oi=true->e.oi=true->ltT d e=false->ltT e d=false->d=e
 | .int i,.int j,_,_,h,h'=>by
  simp only[ltT,FT]at h h';have:i=j:=by lia
  rw[this]
 | .tup ds,.tup es,p,q,h,h'=>by simp only[ltT]at h h';simp only[D.oi]at p q;rw[Uv p q h h']
 | .int _,.tup _,_,_,h,_=>by simp[ltT]at h
 | .tup _,.int _,_,_,_,h=>by simp[ltT]at h
 | .int _,.non,_,q,_,_=>by simp[D.oi]at q
 | .int _,.bl _,_,q,_,_=>by simp[D.oi]at q
 | .int _,.str _,_,q,_,_=>by simp[D.oi]at q
 | .int _,.lst _,_,q,_,_=>by simp[D.oi]at q
 | .int _,.dk _ _,_,q,_,_=>by simp[D.oi]at q
 | .int _,.dt _ _,_,q,_,_=>by simp[D.oi]at q
 | .int _,.dn _ _,_,q,_,_=>by simp[D.oi]at q
 | .int _,.scr _,_,q,_,_=>by simp[D.oi]at q
 | .int _,.exc _ _,_,q,_,_=>by simp[D.oi]at q
 | .tup _,.non,_,q,_,_=>by simp[D.oi]at q
 | .tup _,.bl _,_,q,_,_=>by simp[D.oi]at q
 | .tup _,.str _,_,q,_,_=>by simp[D.oi]at q
 | .tup _,.lst _,_,q,_,_=>by simp[D.oi]at q
 | .tup _,.dk _ _,_,q,_,_=>by simp[D.oi]at q
 | .tup _,.dt _ _,_,q,_,_=>by simp[D.oi]at q
 | .tup _,.dn _ _,_,q,_,_=>by simp[D.oi]at q
 | .tup _,.scr _,_,q,_,_=>by simp[D.oi]at q
 | .tup _,.exc _ _,_,q,_,_=>by simp[D.oi]at q
 | .non,_,p,_,_,_=>by simp[D.oi]at p
 | .bl _,_,p,_,_,_=>by simp[D.oi]at p
 | .str _,_,p,_,_,_=>by simp[D.oi]at p
 | .lst _,_,p,_,_,_=>by simp[D.oi]at p
 | .dk _ _,_,p,_,_,_=>by simp[D.oi]at p
 | .dt _ _,_,p,_,_,_=>by simp[D.oi]at p
 | .dn _ _,_,p,_,_,_=>by simp[D.oi]at p
 | .scr _,_,p,_,_,_=>by simp[D.oi]at p
 | .exc _ _,_,p,_,_,_=>by simp[D.oi]at p
theorem Uv:∀{ds es:List D},ois ds=true->ois es=true->p8 ds es=false->p8 es ds=false->ds=es
 | [],[],_,_,_,_=>rfl
 | [],_::_,_,_,h,_=>by simp[p8]at h
 |_::_,[],_,_,_,h=>by simp[p8]at h
 |d::ds,e::es,p,q,h,h'=>by
  simp only[ois,gq]at p q;simp only[p8]at h h';by_cases w:eqD d e=true
  . have:=V4 p.1 w q.1;subst this;rw[ξ w]at h;rw[ξ w]at h';rw[Uv p.2 q.2 h h']
  . have w':¬eqD e d=true:=fun z=>w (by rw[V4 q.1 z p.1];exact Ee p.1)
    rw[ψ w]at h;rw[ψ w']at h';have:=Dl p.1 q.1 h h';subst this;exact absurd (Ee p.1) w
end
mutual
theorem Ke:∀{d:D},d.oi=true->ltT d d=false
 | .int i,_=>by simp[ltT]
 | .tup ds,p=>by simp only[ltT];exact Uu (by simpa only [D.oi] using p)
 | .non,p=>by simp[D.oi]at p
 | .bl _,p=>by simp[D.oi]at p
 | .str _,p=>by simp[D.oi]at p
 | .lst _,p=>by simp[D.oi]at p
 | .dk _ _,p=>by simp[D.oi]at p
 | .dt _ _,p=>by simp[D.oi]at p
 | .dn _ _,p=>by simp[D.oi]at p
 | .scr _,p=>by simp[D.oi]at p
 | .exc _ _,p=>by simp[D.oi]at p
theorem Uu:∀{ds:List D},ois ds=true->p8 ds ds=false
 | [],_=>rfl
 |d::ds,p=>by simp only[ois,gq]at p;simp only[p8];rw[ξ (Ee p.1)];exact Uu p.2
end
mutual
theorem Cy:∀{d e f:D},d.oi=true->e.oi=true->f.oi=true->ltT d e=true->ltT e f=true->ltT d f=true
 | .int i,.int j,.int k,_,_,_,h,h'=>by
  simp only[ltT,pW]at h h'⊢
  lia
 | .int i,.int j,.tup _,_,_,_,h,h'=>by simp only[ltT]
 | .int i,.tup _,.tup _,_,_,_,h,h'=>by simp only[ltT]
 | .tup ds,.tup es,.tup fs,p,q,r,h,h'=>by simp only[ltT]at h h'⊢;simp only[D.oi]at p q r;exact Sm p q r h h'
 | .int i,.tup _,.int _,_,_,_,h,h'=>by simp[ltT]at h'
 | .tup _,.int _,_,_,_,_,h,h'=>by simp[ltT]at h
 | .tup _,.tup _,.int _,_,_,_,h,h'=>by simp[ltT]at h'
 | .non,_,_,p,_,_,_,_=>by simp[D.oi]at p
 | .bl _,_,_,p,_,_,_,_=>by simp[D.oi]at p
 | .str _,_,_,p,_,_,_,_=>by simp[D.oi]at p
 | .lst _,_,_,p,_,_,_,_=>by simp[D.oi]at p
 | .dk _ _,_,_,p,_,_,_,_=>by simp[D.oi]at p
 | .dt _ _,_,_,p,_,_,_,_=>by simp[D.oi]at p
 | .dn _ _,_,_,p,_,_,_,_=>by simp[D.oi]at p
 | .scr _,_,_,p,_,_,_,_=>by simp[D.oi]at p
 | .exc _ _,_,_,p,_,_,_,_=>by simp[D.oi]at p
 |_,.non,_,_,p,_,_,_=>by simp[D.oi]at p
 |_,.bl _,_,_,p,_,_,_=>by simp[D.oi]at p
 |_,.str _,_,_,p,_,_,_=>by simp[D.oi]at p
 |_,.lst _,_,_,p,_,_,_=>by simp[D.oi]at p
 |_,.dk _ _,_,_,p,_,_,_=>by simp[D.oi]at p
 |_,.dt _ _,_,_,p,_,_,_=>by simp[D.oi]at p
 |_,.dn _ _,_,_,p,_,_,_=>by simp[D.oi]at p
 |_,.scr _,_,_,p,_,_,_=>by simp[D.oi]at p
 |_,.exc _ _,_,_,p,_,_,_=>by simp[D.oi]at p
 |_,_,.non,_,_,p,_,_=>by simp[D.oi]at p
 |_,_,.bl _,_,_,p,_,_=>by simp[D.oi]at p
 |_,_,.str _,_,_,p,_,_=>by simp[D.oi]at p
 |_,_,.lst _,_,_,p,_,_=>by simp[D.oi]at p
 |_,_,.dk _ _,_,_,p,_,_=>by simp[D.oi]at p
 |_,_,.dt _ _,_,_,p,_,_=>by simp[D.oi]at p
 |_,_,.dn _ _,_,_,p,_,_=>by simp[D.oi]at p
 |_,_,.scr _,_,_,p,_,_=>by simp[D.oi]at p
 |_,_,.exc _ _,_,_,p,_,_=>by simp[D.oi]at p
theorem Sm:∀{ds es fs:List D},ois ds=true->ois es=true->ois fs=true->p8 ds es=true->p8 es fs=true->p8 ds fs=true
 | [],_,_::_,_,_,_,_,_=>by simp only[p8]
 |_,[],[],_,_,_,_,h=>by simp[p8]at h
 |_::_,[],_,_,_,_,h,_=>by simp[p8]at h
 |_,_::_,[],_,_,_,_,h=>by simp[p8]at h
 |d::ds,e::es,f::fs,p,q,r,h,h'=>by
  simp only[ois,gq]at p q r;simp only[p8]at h h'⊢;by_cases w:eqD d e=true
  . have:=V4 p.1 w q.1;subst this;rw[ξ w]at h;by_cases w2:eqD d f=true
    . rw[ξ w2]at h'⊢;exact Sm p.2 q.2 r.2 h h'
    . rw[ψ w2]at h'⊢;exact h'
  . rw[ψ w]at h;by_cases w2:eqD e f=true
    . have:=V4 q.1 w2 r.1;subst this;rw[ψ w];exact h
    . rw[ψ w2]at h';have h3:=Cy p.1 q.1 r.1 h h';by_cases w3:eqD d f=true
      . have:=V4 p.1 w3 r.1;subst this;rw[Ke p.1]at h3;cases h3
      . rw[ψ w3];exact h3
end
theorem Kv:∀{ds:List D}{i:Nat},ois ds=true->(ds.getD i (.int 0)).oi=true
 | [],i,_=>by simp[D.oi]
 |d::ds,0,h=>by simp only[ois,gq]at h;simpa using h.1
 |d::ds,i+1,h=>by simp only[ois,gq]at h;simpa using Kv (i:=i) h.2
def ltI(ds:List D)(i j:Nat):Bool:=ltT (ds.getD i (.int 0)) (ds.getD j (.int 0))
def K5(d:D):List D->List D
 | []=>[d]
 |e::r=>if ltT e d=true then e::K5 d r else d::e::r
def E5:List D->List D
 | []=>[]
 |d::r=>K5 d (E5 r)
theorem Mm(d:D):∀l:List D,(K5 d l).Perm (d::l)
 | []=>.refl _
 |e::r=>by
  unfold K5;split
  . exact((Mm d r).cons e).trans (.swap d e r)
  . exact .refl _
theorem Ce:∀l:List D,(E5 l).Perm l
 | []=>.refl _
 |d::r=>(Mm d (E5 r)).trans ((Ce r).cons d)
theorem ois_mem:∀{ds:List D},ois ds=true↔∀d∈ds,d.oi=true
 | []=>by simp[ois]
 |d::ds=>by simp[ois,ois_mem (ds:=ds)]
def Srt(l:List D):Prop:=l.Pairwise fun a b=>ltT b a=false
theorem Wh:∀{l:List D},d.oi=true->ois l=true->Srt l->Srt (K5 d l)
 | [],_,_,_=>by simp[K5,Srt]
 |e::r,hd,hl,hs=>by
  simp only[ois,gq]at hl;obtain⟨h1,h2⟩:=FY.mp hs;unfold K5;split
  . rename_i ay;refine FY.mpr ⟨fun x hx=>?_,Wh hd hl.2 h2⟩;rcases ee.mp ((Mm d r).mem_iff.mp hx) with rfl |hx
    . cases hq:ltT x e with
      |false=>rfl
      |true=>
       have:=Cy hl.1 hd hl.1 ay hq
       rw[Ke hl.1]at this;cases this
    . exact h1 x hx
  . rename_i ay;have ay:ltT e d=false:=by simpa using ay
    refine FY.mpr ⟨fun x hx=>?_,hs⟩;rcases ee.mp hx with rfl |hx
    . exact ay
    . have uA:=(ois_mem.mp hl.2) x hx;cases hq:ltT x d with
      |false=>rfl
      |true=>
       have h3:=h1 x hx
       cases hy:ltT d e with
       |true=>rw[Cy uA hd hl.1 hq hy]at h3;cases h3
       |false=>
        rw[Dl hd hl.1 hy ay]at hq
        rw[hq]at h3;cases h3
def Wg(p:l.Perm l')(h:ois l'=true):ois l=true:=ois_mem.mpr fun d hd=>(ois_mem.mp h) d (p.mem_iff.mp hd)
theorem Xn:∀{l:List D},ois l=true->Srt (E5 l)
 | [],_=>.nil
 |d::r,h=>by simp only[ois,gq]at h;exact Wh h.1 (Wg (Ce r) h.2) (Xn h.2)
theorem Wf:∀{l l':List D},ois l=true->l.Perm l'->Srt l->Srt l'->l=l'
 | [],l',_,p,_,_=>by rw[p.nil_eq]
 |a::r,[],_,p,_,_=>by have:=p.length_eq;simp at this
 |a::r,b::r',h,p,s,s'=>by
  have h':=h;simp only[ois,gq]at h;obtain⟨h1,h2⟩:=FY.mp s;obtain⟨h3,h4⟩:=FY.mp s';have hb:b∈a::r:=p.mem_iff.mpr io;have ha:a∈b::r':=p.mem_iff.mp io;have mf:=(ois_mem.mp h') b hb;have e:a=b:=by
   rcases ee.mp hb with z |z
   . exact z.symm
   . rcases ee.mp ha with w |w
     . exact w
     . exact Dl h.1 mf (h3 a w) (h1 b z)
  subst e;rw[Wf h.2 (List.perm_cons a |>.mp p) h2 h4]
end L2
namespace L2
open PySem PySem.Spec PyProof.Rows
open PySem.W (KasT kas_sort kas_rev kas_asc kas_desc kas_tail3 kas_descPart kas_count kas_place kas_bin)
def RcLt(A:Around)(s:Shared)(x y:Value)(b:Bool):Prop:=∀(prog:Program)(w:World)(E:Value->Shared->Prop)(Q:Value->Shared->Prop),Q (.bool b) s->wpAny (model prog w) A (richCompare .Lt x y) Q E s
inductive LexR (A:Around) (s:Shared):List Value->List Value->Bool->Prop
 |nn:LexR A s [] [] false
 |nc {w ws}:LexR A s [] (w::ws) true
 |cn {v vs}:LexR A s (v::vs) [] false
 |eq {v w vs ws b} (h:SeqAt.EqAt A s v w true) (r:LexR A s vs ws b):LexR A s (v::vs) (w::ws) b
 |lt {v w vs ws b} (h:SeqAt.EqAt A s v w false) (r:RcLt A s v w b):LexR A s (v::vs) (w::ws) b
section
open PySem.SeqAt
open PySem.AutoSeq1 (wpAny_loadPart')
open PySem.MeetsSeq PySem.MeetsSeq2 PySem.MeetsSeq3
def zj3(l b:Addr)(items bp:Array Value)(n n2:Nat)(dd mP:Option Addr)(sl gp:Array (Option Value))(r:Bool) :
  Meets (Builtin.«tuple.__lt__» ⟨[.ref l,.ref b],[]⟩)
   (fun A R s=>s.heap.get? l=some { cls:=.type "tuple",dict:=dd,data:=.seq items n,slots:=sl }/\s.heap.get? b=some { cls:=.type "tuple",dict:=mP,data:=.seq bp n2,slots:=gp } /\
    LexR A.in1 s items.toList bp.toList r/\R (.ok (.ret (.bool r))) s):=
 .of_wp fun prog w A R s h=>by
  obtain⟨hp,g,d,tk,os⟩:=s;obtain⟨hl,hb,hL,h⟩:=h;have f2:=AutoSeq1.sub_tuple_tuple
  wp_walk using FH hl,FH hb,wpAny_forIn_list _ (fun rest b s'=>b.1=none/\s'=⟨hp,g,d,tk,os⟩/\∃(vs ws:List Value)(r':Bool),rest=vs.zip ws /\
   LexR A.in1 ⟨hp,g,d,tk,os⟩ vs ws r'/\vs.length+bp.size=ws.length+items.size/\R (.ok (.ret (.bool r'))) ⟨hp,g,d,tk,os⟩) _
  case turn=>
   rintro⟨y,x⟩ rest b s' ⟨oZ,rfl,vs,ws,r',hz,pc,ax,hR⟩
   cases pc with
   |nn=>rw[List.zip_nil_left]at hz;cases hz
   |nc=>rw[List.zip_nil_left]at hz;cases hz
   |cn=>rw[List.zip_nil_right]at hz;cases hz
   |eq he hr=>
    rw[GR]at hz
    injection hz with pf cy
    injection pf with hy hx
    subst hy hx
    simp only[gV]at ax
    refine δ (he prog w _ _ ?_)
    wp_walk
    exact⟨rfl,rfl,_,_,_,cy,hr,by lia,hR⟩
   |lt he hr=>
    rw[GR]at hz
    injection hz with pf cy
    injection pf with hy hx
    subst hy hx
    refine δ (he prog w _ _ ?_)
    have uB:=hr prog w
    wp_walk using uB
    exact⟨_,rfl,by simpa using hR⟩
  case fin=>
   rintro⟨b1,b2⟩ s' ⟨oZ,rfl,vs,ws,r',hz,pc,ax,hR⟩
   simp only at oZ
   subst oZ
   have hv:r'=decide (items.size<bp.size):=by
    cases pc with
    |nn=>simp only[GF]at ax;exact(decide_eq_false (by lia)).symm
    |nc=>simp only[GF,gV]at ax;exact(gR (by lia)).symm
    |cn=>simp only[GF,gV]at ax;exact(decide_eq_false (by lia)).symm
    |eq _ _=>rw[GR]at hz;cases hz
    |lt _ _=>rw[GR]at hz;cases hz
   rw[hv]at hR
   wp_walk
   exact⟨_,rfl,by simpa [Builtin.Tuple.tupleCompareSizes] using hR⟩
  case h=>exact⟨rfl,rfl,items.toList,bp.toList,r,rfl,hL,by simp;lia,h⟩
def RcLt.tuples{A:Around}{s:Shared}{l b:Addr}{items bp:Array Value}{r:Bool}(hl:s.heap.IsTuple l items)(hb:s.heap.IsTuple b bp)(hL:LexR A.in1 s items.toList bp.toList r)(hu:A.units<cLine):RcLt A s (.ref l) (.ref b) r:=fun prog w E Q h=>by
 obtain⟨⟨cls,dd,data,sl⟩,ho,hc,n,hd⟩:=id hl;obtain⟨⟨DA,mP,data2,gp⟩,gX,mQ,n2,dM⟩:=id hb;simp only at hc hd mQ dM;subst hc hd mQ dM;exact richCompare_meets_room (op:=.Lt) ⟨_,ho,rfl⟩ ⟨_,gX,rfl⟩ PySem.F.slot_tuple_lt PySem.F.entry_tuple_lt (PySem.F.args_tuple_lt_2 _ _) (zj3 l b items bp n n2 dd mP sl gp r)
  ⟨ho,gX,hL,show Value.bool r≠Value.notImplemented/\Q (.bool r) s from⟨(fun x=>nomatch x),h⟩⟩ hu
end
mutual
theorem Aq:∀{d:D},d.oi=true->d.pl=true
 | .int _,_=>rfl
 | .tup ds,h=>by simp only[D.pl];exact Sk (by simpa only [D.oi] using h)
 | .non,p=>by simp[D.oi]at p
 | .bl _,p=>by simp[D.oi]at p
 | .str _,p=>by simp[D.oi]at p
 | .lst _,p=>by simp[D.oi]at p
 | .dk _ _,p=>by simp[D.oi]at p
 | .dt _ _,p=>by simp[D.oi]at p
 | .dn _ _,p=>by simp[D.oi]at p
 | .scr _,p=>by simp[D.oi]at p
 | .exc _ _,p=>by simp[D.oi]at p
theorem Sk:∀{ds:List D},ois ds=true->pls ds=true
 | [],_=>rfl
 |d::ds,h=>by simp only[ois,gq]at h;simp only[pls,Aq h.1,Sk h.2,GJ]
end
section
variable {X:Cx}{pins:List (Addr×Obj)}{σ:St}{H:Hp}{s:Shared}
theorem Sj(I:Inv X pins σ H s)(hu:A.units+n<cLine)(lt:∀{d e:D}{x y:V}{u v:Value}{b:Bool},d.oi=true->e.oi=true->d.dep<=n->RD X.K H d x->RD X.K H e y->RelV x u->RelV y v->i7 d e=some b->RcLt A s u v b) :
  ∀{ds es:List D}{xs ys:List V}{us vs:List Value}{b:Bool},ois ds=true->ois es=true->l7 ds<=n->RDs X.K H ds xs->RDs X.K H es ys->Vals xs us->Vals ys vs->t7 ds es=some b->LexR A s us vs b
 | [],[],_,_,_,_,b,_,_,_,r1,r2,q1,q2,h=>by simp only[RDs]at r1 r2;subst r1;subst r2;cases q1;cases q2;simp only[t7,Option.some.injEq]at h;subst h;exact .nn
 | [],e::es,_,_,_,_,b,_,_,_,r1,r2,q1,q2,h=>by simp only[RDs]at r1 r2;subst r1;obtain⟨y,ys,rfl,_,_⟩:=r2;cases q1;cases q2;simp only[t7,Option.some.injEq]at h;subst h;exact .nc
 |d::ds,[],_,_,_,_,b,_,_,_,r1,r2,q1,q2,h=>by simp only[RDs]at r1 r2;subst r2;obtain⟨y,ys,rfl,_,_⟩:=r1;cases q1;cases q2;simp only[t7,Option.some.injEq]at h;subst h;exact .cn
 |d::ds,e::es,_,_,_,_,b,p1,p2,hd,r1,r2,q1,q2,h=>by
  simp only[RDs]at r1 r2;obtain⟨x,xs,rfl,rx,mh⟩:=r1;obtain⟨y,ys,rfl,ry,mi⟩:=r2;simp only[ois,gq]at p1 p2;simp only[l7]at hd;cases q1 with
  |cons a1 a2=>
   cases q2 with
   |cons b1 b2=>
    have eq:=Du (A:=A) I n (Aq p1.1) (Aq p2.1) (by lia) hu rx ry a1 b1
    simp only[t7]at h
    split at h
    . rename_i w;rw[w]at eq;exact .eq eq (Sj I hu lt p1.2 p2.2 (by lia) mh mi a2 b2 h)
    . rename_i w;rw[show eqD d e=false by simpa using w]at eq;exact .lt eq (lt p1.1 p2.1 (by lia) rx ry a1 b1 h)
def Xm(h:i7 d e=some b):(∃i j,d=.int i/\e=.int j/\b=decide (i<j))\/∃ds es,d=.tup ds/\e=.tup es/\t7 ds es=some b:=by
 cases d with
 |int i=>cases e with
  |int j=>exact .inl ⟨_,_,rfl,rfl,(Option.some.inj h).symm⟩
  |_=>exact nomatch h
 |tup ds=>cases e with
  |tup es=>exact .inr ⟨_,_,rfl,rfl,h⟩
  |_=>exact nomatch h
 |_=>exact nomatch h
def qz(I:Inv X pins σ H s):∀(n:Nat){A:Around}{d e:D}{x y:V}{u v:Value}{b:Bool},A.units+n<cLine->d.oi=true->e.oi=true->d.dep<=n->RD X.K H d x->RD X.K H e y->RelV x u->RelV y v->i7 d e=some b->RcLt A s u v b:=by
 intro n;induction n with
 |zero=>
  intro A d e x y u v b hu p1 p2 hd rx ry ru rv h
  rcases Xm h with⟨i,j,rfl,rfl,rfl⟩ |⟨ds,es,rfl,rfl,h⟩
  . cases rx.int;cases ry.int;obtain⟨t,rfl⟩:=ru;obtain⟨t',rfl⟩:=rv;exact fun prog w E Q q=>HT.rcLt_int A s _ _ _ _ prog w E Q q
  . simp only[D.dep]at hd;lia
 |succ n ih=>
  intro A d e x y u v b hu p1 p2 hd rx ry ru rv h
  rcases Xm h with⟨i,j,rfl,rfl,rfl⟩ |⟨ds,es,rfl,rfl,h⟩
  . cases rx.int;cases ry.int;obtain⟨t,rfl⟩:=ru;obtain⟨t',rfl⟩:=rv;exact fun prog w E Q q=>HT.rcLt_int A s _ _ _ _ prog w E Q q
  . obtain⟨a,xs,rfl,ha,ra⟩:=rx.tup;obtain⟨c,ys,rfl,hc,rc⟩:=ry.tup;cases ru;cases rv;obtain⟨its,r1,t1⟩:=I.tupA ha;obtain⟨aW,r2,t2⟩:=I.tupA hc;simp only[D.dep]at hd;simp only[D.oi]at p1 p2;have sC:A.in1.units+n<cLine:=by show A.units+1+n<cLine;lia
    exact RcLt.tuples t1 t2 (Sj I sC (fun {d e x y u v b} q1 q2 q3 q4 q5 q6 q7 q8=>ih sC q1 q2 q3 q4 q5 q6 q7 q8) p1 p2 (by lia) ra rc r1 r2 h) (by lia)
end
end L2
namespace L2
open PySem PySem.Spec PyProof.Rows
section
variable {prog:Program}{w:World}{A:Around}{E:Value->Shared->Prop}{s:Shared}
def zj4(ho:s.heap.get? a=some (seqObj "list" vs.toArray n))(hs:vs.length<2)
  (h:P (.done (.ret .none)) { s with heap:=sortedHeap s.heap a vs ((pairsOf vs).map (·.2)) }):wpAny (model prog w) A (Builtin.«list.sort» ⟨[.ref a],[]⟩) P E s:=by
 rw[list_sort_plain]
 have ha:a<s.heap.objs.size:=π ho
 refine δ (listItems_at ho rfl ?_)
 refine δ (listUpdate_at ho rfl ?_)
 obtain⟨e1,sD⟩:∃e1,(s.heap.update a (Obj.mapSeq fun _=>#[])).get? a=some (seqObj "list" #[] e1):=⟨_,get?_update_seq ho (fun _=>#[])⟩
 refine δ (seqEpoch_at sD rfl ?_)
 refine δ (wpAny_newTuple ?_)
 refine δ (wpAny_newList ?_)
 refine FA ?_
 have sE:(((s.heap.update a (Obj.mapSeq fun _=>#[])).push (seqObj "tuple" vs.toArray 0)).push (seqObj "list" #[] 0)).get? a=some (seqObj "list" #[] e1):=by rw[Heap.get?_push_ne _ _ _ (by rw[size_push',IF];exact ER (HR ha)),Heap.get?_push_ne _ _ _ (by rw[IF];exact ER ha)];exact sD
 show wpAny (model prog w) A _ P E { s with heap:=((s.heap.update a (Obj.mapSeq fun _=>#[])).push (seqObj "tuple" vs.toArray 0)).push (seqObj "list" #[] 0) }
 dsimp only
 have bB:vs.toArray.size=vs.length:=by simp
 have h2:vs.toArray.size<2:=by rw[bB];exact hs
 rw[ξ h2,ξ h2]
 refine δ (ω ?_)
 rw[StateT.run_pure]
 refine δ (ω ?_)
 dsimp only
 refine δ (seqEpoch_at sE rfl ?_)
 refine δ (listUpdate_at sE rfl ?_ (hsz2:=by rw[Array.size_map];show(pairsOf vs).size<=_;rw[pairsOf_size,HQ];lia))
 simp only[bne_self_eq_false,EW,FV]
 exact ω h
def zem(hl:s.heap.IsList l vs.toArray)(hs:vs.length<2)
  (h:Q (.ref (s.heap.objs.size+1)) { s with heap:=sortedAll s.heap vs ((pairsOf vs).map (·.2)) }):wpAny (model prog w) A (call (.builtin "sorted") [.ref l]) Q E s:=by
 refine Calls.call_function_entry kind_sorted plain_sorted entry_sorted (args_sorted1 _) ?_
 unfold Builtin.«sorted»
 refine δ (m:=checkCount "sorted" 1 1 _) (ω ?_)
 refine δ (collect_list hl ?_ (by rw[HQ];omega))
 refine δ (wpAny_newList ?_ (by rw[HQ];omega))
 have bB:((s.heap.push (seqObj "list" #[] 0)).update s.heap.objs.size (Obj.mapSeq (·++vs.toArray))).objs.size=s.heap.objs.size+1:=by rw[IF,size_push']
 have lm:(((s.heap.push (seqObj "list" #[] 0)).update s.heap.objs.size (Obj.mapSeq (·++vs.toArray))).push (seqObj "list" vs.toArray 0)).get? (s.heap.objs.size+1)=some (seqObj "list" vs.toArray 0):=by rw[<-bB];exact Ψ _ rfl
 show wpAny _ _ _ _ _ { s with heap:=((s.heap.push (seqObj "list" #[] 0)).update s.heap.objs.size (Obj.mapSeq (·++vs.toArray))).push (seqObj "list" vs.toArray 0) }
 rw[bB]
 refine δ (FA (wpAny_call_entry slot_list_sort ⟨_,lm,rfl⟩ entry_list_sort (zj4 lm hs ⟨_,rfl,?_⟩) (args_list_sort _)))
 exact ω ⟨_,rfl,h⟩
end
noncomputable def isI:D->Bool
 | .int _=>true
 |_=>false
noncomputable def K4:D->Bool
 | .tup (.int _::_)=>true
 |_=>false
noncomputable def Q8:D->Bool
 | .tup (.tup _::_)=>true
 |_=>false
theorem RDs.pick{K:Frag}{H:Hp}{ds:List D}{ys:List V}(r:RDs K H ds ys):∀{is:List Nat},(∀i∈is,i<ys.length)->RDs K H (is.map fun i=>ds.getD i (.int 0)) (is.map fun i=>ys.getD i .non)
 | [],_=>by simp[RDs]
 |i::is,h=>by
  have hi:=h i io;have hy:ys[i]?=some ys[i]:=by simp[hi]
  obtain⟨d,h1,h2⟩:=r.get hy;simp only[ng];refine .cons ?_ (RDs.pick r fun j hj=>h j (bI _ hj));rw[ro,ro,h1,hy];exact h2
section
variable {X:Cx}{pins:List (Addr×Obj)}{σ:St}{H:Hp}{s:Shared}
theorem Vals.pick(r:Vals ys its):∀{is:List Nat},(∀i∈is,i<ys.length)->Vals (is.map fun i=>ys.getD i .non) (is.map fun i=>its.getD i Value.none)
 | [],_=>.nil
 |i::is,h=>by
  have hi:=h i io;have hy:ys[i]?=some ys[i]:=by simp[hi]
  obtain⟨u,h1,h2⟩:=r.get hy;simp only[ng];refine .cons ?_ (Vals.pick r fun j hj=>h j (bI _ hj));rw[ro,ro,h1,hy];exact h2
theorem Ut(I:Inv X pins σ H s)(hu:A.units+20<cLine)(q:Q r s) :
  ∀{ds es:List D}{xs ys:List V}{us vs:List Value}(i:Nat),(b=true->i=0->(∃k r,ds=.int k::r)/\∃k r,es=.int k::r)->ois ds=true->ois es=true->l7 ds<=20->RDs X.K H ds xs->RDs X.K H es ys->Vals xs us->Vals ys vs->t7 ds es=some r ->
   fin=decide (us.length<vs.length)->PySem.W.KatLex X.prog X.w A b fin Q (us.zip vs) i s
 | [],[],_,_,_,_,i,_,_,_,_,r1,r2,q1,q2,h,hf=>by simp only[RDs]at r1 r2;subst r1;subst r2;cases q1;cases q2;simp only[t7,Option.some.injEq]at h;subst h;simp at hf;subst hf;exact q
 | [],e::es,_,_,_,_,i,_,_,_,_,r1,r2,q1,q2,h,hf=>by simp only[RDs]at r1 r2;subst r1;obtain⟨y,ys,rfl,_,_⟩:=r2;cases q1;cases q2;simp only[t7,Option.some.injEq]at h;subst h;simp at hf;subst hf;exact q
 |d::ds,[],_,_,_,_,i,_,_,_,_,r1,r2,q1,q2,h,hf=>by simp only[RDs]at r1 r2;subst r2;obtain⟨y,ys,rfl,_,_⟩:=r1;cases q1;cases q2;simp only[t7,Option.some.injEq]at h;subst h;simp at hf;subst hf;exact q
 |d::ds,e::es,_,_,_,_,i,hb,p1,p2,hd,r1,r2,q1,q2,h,hf=>by
  simp only[RDs]at r1 r2;obtain⟨x,xs,rfl,rx,mh⟩:=r1;obtain⟨y,ys,rfl,ry,mi⟩:=r2;simp only[ois,gq]at p1 p2;simp only[l7]at hd;cases q1 with
  |cons a1 a2=>
   cases q2 with
   |cons b1 b2=>
    have eq:=Du (A:=A) I 20 (Aq p1.1) (Aq p2.1) (by lia) hu rx ry a1 b1
    rw[GR]
    refine PySem.W.kat_cons (eq X.prog X.w _ _ ?_)
    simp only[t7]at h
    simp only[gV,Nat.add_lt_add_iff_right]at hf
    split at h
    . rename_i w;rw[w];exact PySem.W.kat_yes (Ut I hu q (i+1) (fun _ z=>by lia) p1.2 p2.2 (by lia) mh mi a2 b2 h hf)
    . rename_i w;rw[show eqD d e=false by simpa using w];refine PySem.W.kat_no ?_;by_cases ml:(b&&i==0)=true
      . rw[ml];simp only[gq,Iv]at ml;obtain⟨⟨k1,s1,e1⟩,k2,s2,e2⟩:=hb ml.1 ml.2;cases e1;cases e2;cases rx.int;cases ry.int;obtain⟨t,rfl⟩:=a1;obtain⟨t',rfl⟩:=b1;refine oneLt_int ?_;simp only[i7,Option.some.injEq]at h;rw[h];exact q
      . rw[show(b&&i==0)=false by simpa using ml];exact PySem.W.kat_one _ _ (qz I 20 hu p1.1 p2.1 (by lia) rx ry a1 b1 h X.prog X.w _ _ q)
theorem Si(I:Inv X pins σ H s)(T:Bool):∀{ds:List D}{xs:List V}{us:List Value},(∀d∈ds,(if T=true then Q8 d else K4 d)=true)->RDs X.K H ds xs->Vals xs us ->
  ∃fs:List Value,PySem.W.KatTups s.heap us fs/\fs.length=ds.length/\∀v∈fs,Looks M s.heap (typeOf v) (.type (if T=true then "tuple" else "int"))
 | [],_,_,_,r,q=>by simp only[RDs]at r;subst r;cases q;exact⟨[],trivial,rfl,fun v hv=>by cases hv⟩
 |d::ds,_,_,h,r,q=>by
  simp only[RDs]at r;obtain⟨x,xs,rfl,rx,mh⟩:=r;cases q with
  |cons q1 q2=>
   obtain⟨fs,h1,h2,h3⟩:=Si (M:=M) I T (fun d hd=>h d (bI _ hd)) mh q2
   have hd:=h d io
   cases T with
   |false=>
    rw[ψ η]at hd
    cases d<;>simp only[K4]at hd<;>first |cases hd |skip
    rename_i es
    cases es with
    |nil=>simp at hd
    |cons e es=>
     cases e<;>simp at hd
     obtain⟨a,ys,rfl,ha,ra⟩:=rx.tup
     cases q1
     obtain⟨its,rv,t⟩:=I.tupA ha
     simp only[RDs]at ra
     obtain⟨y,ys,rfl,ry,mi⟩:=ra
     cases ry.int
     cases rv with
     |cons v1 v2=>
      obtain⟨tk,rfl⟩:=v1
      obtain⟨o,ho,hc,n,ph⟩:=t
      refine⟨_::fs,PySem.W.KatTups.cons ho hc ph rfl h1,by simp[h2],fun v hv=>?_⟩
      rcases ee.mp hv with rfl |hv
      . exact .now
      . exact h3 v hv
   |true=>
    rw[ξ rfl]at hd
    cases d<;>simp only[Q8]at hd<;>first |cases hd |skip
    rename_i es
    cases es with
    |nil=>simp at hd
    |cons e es=>
     cases e<;>simp at hd
     obtain⟨a,ys,rfl,ha,ra⟩:=rx.tup
     cases q1
     obtain⟨its,rv,t⟩:=I.tupA ha
     simp only[RDs]at ra
     obtain⟨y,ys,rfl,ry,mi⟩:=ra
     obtain⟨a2,DP,rfl,uC,DQ⟩:=ry.tup
     cases rv with
     |cons v1 v2=>
      cases v1
      obtain⟨aW,DR,o2,gX,mQ,_⟩:=I.tupA uC
      obtain⟨o,ho,hc,n,ph⟩:=t
      refine⟨_::fs,PySem.W.KatTups.cons ho hc ph rfl h1,by simp[h2],fun v hv=>?_⟩
      rcases ee.mp hv with rfl |hv
      . have lk:Looks M s.heap (typeOf (.ref a2)) o2.cls:=(PySem.W.Looks.ld gX).andThen .now;rw[mQ]at lk;exact lk
      . exact h3 v hv
def Vals.getD(r:Vals ys its)(h:i<ys.length):RelV (ys.getD i .non) (its.getD i Value.none):=by
 have hy:ys[i]?=some ys[i]:=by simp[h]
 obtain⟨u,h1,h2⟩:=r.get hy;rw[ro,ro,h1,hy];exact h2
def RDs.getD(r:RDs X.K H ds ys)(h:i<ys.length):RD X.K H (ds.getD i (.int 0)) (ys.getD i .non):=by
 have hy:ys[i]?=some ys[i]:=by simp[h]
 obtain⟨d,h1,h2⟩:=r.get hy;rw[ro,ro,h1,hy];exact h2
def J8{α:Type}{l:List α}{i:Nat}{d:α}(h:i<l.length):l.getD i d∈l:=by rw[ro,ET h];exact List.getElem_mem h
end
noncomputable def Ac(n:Nat)(x:Int):Nat:=if x<0 then(x+(n:Int)).toNat else min x.toNat n
def C6{α:Type}(xs:List α)(x:Int)(y:α):List α:=xs.take (Ac xs.length x)++y::xs.drop (Ac xs.length x)
def Us:V->List V->Hp->VK->Prop:=fun o vs H Q=>∃l xs i y,o=.ref l/\vs=[.int i,y]/\H l=some (.lst xs)/\-(2 ^ 63)<=i/\i<2 ^ 63/\xs.length<sizeLine/\Q .non (upd H l (.lst (C6 xs i y)))
def Vals.ins(r:Vals xs its)(ru:RelV y u)(i:Int):Vals (C6 xs i y) (C6 its i u):=by unfold C6;rw[r.length];exact(r.take _).append (.cons ru (r.drop _))
def zen(xs:List α)(i:Int)(y:α):(C6 xs i y).length=xs.length+1:=by unfold C6;rw[θ,HZ,gV,HE];omega
section
variable {X:Cx}{K:Frag}
def Xl:MtM X "list.insert" Us:=by intro pins s σ H x vs v us Q I rx rv h;obtain⟨l,xs,i,y,rfl,rfl,hH,h1,h2,hz,q⟩:=h;cases rx;obtain⟨u,w,rfl,ru,cE⟩:=rv.two;obtain⟨t,rfl⟩:=ru;obtain⟨z,its,n,r,hl,e⟩:=I.lstM hH;refine call_meets IV ⟨_,e,rfl⟩ PySem.F.entry_list_insert (PySem.F.args_list_insert_3 _ _ _) (PySem.AutoSeq1.list_insert_list_int_val_1 l its.toArray n i t w (by simp[fitsIndex_both h1 h2]) (by rw[oF];lia)) ⟨e,?_⟩;refine⟨.non,_,I.lset (its':=C6 its i w) hH e ?_ (r.ins cE i) (by rw[zen];lia),rfl,q⟩;show((its.toArray.extract 0 (Ac its.toArray.size i)).push w++its.toArray.extract (Ac its.toArray.size i))=(C6 its i w).toArray;unfold C6;apply Iw.mp;simp;exact HL (by simp)
def T1:D->List D->Option D
 | .lst ds,[.int i,d]=>if -(2 ^ 63)<=i/\i<2 ^ 63/\ds.length<100000 then some (.lst (C6 ds i d)) else none
 |_,_=>none
def RDs.ins(r:RDs K H ds xs)(ry:RD K H d y)(i:Int):RDs K H (C6 ds i d) (C6 xs i y):=by unfold C6;rw[<-r.length];exact(r.take _).append (.cons ry (r.drop _))
def Sh:T9 K T1 Us:=by
 intro H0 H a d d' ds vs Q s h0 ob r hm k;unfold T1 at hm;split at hm<;>first |cases hm |skip
 split at hm<;>cases hm;rename_i es i e hl;simp only[OB]at ob;obtain⟨xs,hx,rx⟩:=ob;obtain⟨y,z,rfl,q1,q2⟩:=r.duo;cases q1.int;refine⟨a,xs,_,z,rfl,rfl,hx,hl.1,hl.2.1,by rw[<-rx.length];exact Fk hl.2.2,k _ _ ?_⟩;simp only[OB];exact⟨_,j9,rx.ins q2 _⟩
noncomputable def N4:D->D->Option D
 | .non,.non=>some (.bl true)
 | .scr _,.non=>none
 |_,.non=>some (.bl false)
 |_,_=>none
def zC(r:RD K H d x)(h:d≠.non):x≠.non:=by intro e;subst e;cases d<;>simp only[RD]at r<;>first |exact h rfl | (cases r;done) | (obtain⟨a,z,_⟩:=r;cases z;done) | (obtain⟨a,xs,z,_⟩:=r;cases z;done) | (obtain⟨a,qs,xs,z,_⟩:=r;cases z;done) | (obtain⟨a,qs,xs,o,z,_⟩:=r;cases z)
def Sg:OpD K false N4 (fun x y H Q=>y=.non/\Q (.bl (decide (x=.non))) H):=by
 intro H0 H x y d e z Q s rx ry ho k;unfold N4 at ho;split at ho<;>cases ho
 . cases rx.non;exact⟨ry.non,k _ H (.pure s (.mkBl _))⟩
 . rename_i hn hs;refine⟨ry.non,?_⟩;rw[decide_eq_false (zC rx hn)];exact k _ H (.pure s (.mkBl _))
noncomputable def r9(n:Int)(ns:List Int):Int:=ns.foldl (fun a b=>if b > a then b else a) n
noncomputable def v6(n:Int)(ns:List Int):Int:=ns.foldl (fun a b=>if b<a then b else a) n
theorem Br:∀(ns:List Int)(n:Int),r9 n ns∈n::ns/\∀a∈n::ns,a<=r9 n ns
 | [],n=>by simp[r9]
 |b::ns,n=>by
  have ih:=Br ns (if b > n then b else n);show r9 (if b > n then b else n) ns∈_/\∀a∈_,a<=r9 (if b > n then b else n) ns;generalize r9 (if b > n then b else n) ns=M at ih;obtain⟨h1,h2⟩:=ih;constructor
  . rcases ee.mp h1 with z |z
    . rw[z];split<;>simp
    . simp[z]
  . intro a ha;have h3:=h2 _ io;rcases ee.mp ha with rfl |ha
    . split at h3<;>lia
    . rcases ee.mp ha with rfl |ha
      . split at h3<;>lia
      . exact h2 a (bI _ ha)
theorem Ur:∀(ns:List Int)(n:Int),v6 n ns∈n::ns/\∀a∈n::ns,v6 n ns<=a
 | [],n=>by simp[v6]
 |b::ns,n=>by
  have ih:=Ur ns (if b<n then b else n);show v6 (if b<n then b else n) ns∈_/\∀a∈_,v6 (if b<n then b else n) ns<=a;generalize v6 (if b<n then b else n) ns=M at ih;obtain⟨h1,h2⟩:=ih;constructor
  . rcases ee.mp h1 with z |z
    . rw[z];split<;>simp
    . simp[z]
  . intro a ha;have h3:=h2 _ io;rcases ee.mp ha with rfl |ha
    . split at h3<;>lia
    . rcases ee.mp ha with rfl |ha
      . split at h3<;>lia
      . exact h2 a (bI _ ha)
end
def Uq{K:Frag}{h:Heap}{C:Addr}{bmB:List Value}{newId:String}(X:K.In h)(q:PySem.W.excIn K C bmB newId=true) :
  ∃bm N nm qn bs hdct sn sub ab col dd k0 k1 k2 k3 k5 mN,h.get? C=some (excClassObj nm qn C N bs bm hdct sn sub ab col dd k0 k1 k2 k3 k5 newId)/\h.Ns N mN/\mN "__init__"=none/\OwnTail h bmB bm:=by
 unfold PySem.W.excIn at q
 split at q<;>try cases q
 rename_i dd cd sl ho
 split at q<;>try cases q
 rename_i C' bm k0 k1 k2 k3 n k5 hm hs
 simp only[gq,Iv,HH]at q
 obtain⟨⟨⟨⟨⟨e1,e2⟩,fZ⟩,ht⟩,hok⟩,mR⟩:=q
 subst e1 e2
 have ho:=X _ _ ho
 cases cd
 dsimp only at hm fZ hok mR
 subst hm fZ
 have pi:sl=#[k0,k1,k2,k3,some (.builtin n),k5]:=by cases sl;simp only at hs;rw[hs]
 rw[pi]at ho
 exact⟨bm,_,_,_,_,_,_,_,_,_,dd,k0,k1,k2,k3,k5,_,ho,.of_isNs (PySem.W.isNs_of_in X hok),PySem.W.nsMap_none_of_in X hok mR,PySem.W.tail_of_in X ht⟩
def z9(K:Frag)(C:Addr)(bmB:List Value)(newId:String):Bool:=match K.lookup C with
 |some ⟨.type "type",_,.cls cd,sl⟩=>(match cd.mro,sl.toList with
  | .ref C'::bm,[_,_,_,_,some (.builtin n),_]=>C'==C&&n==newId&&!cd.hasDel&&PySem.W.tailIn K bmB bm&&cd.hasDict
  |_,_=>false)
 |_=>false
def M7{K:Frag}{h:Heap}{C:Addr}{bmB:List Value}{newId:String}(X:K.In h)(q:z9 K C bmB newId=true) :
  ∃bm N nm qn bs sn sub ab col dd k0 k1 k2 k3 k5,h.get? C=some (excClassObj nm qn C N bs bm true sn sub ab col dd k0 k1 k2 k3 k5 newId)/\OwnTail h bmB bm:=by
 unfold z9 at q
 split at q<;>try cases q
 rename_i dd cd sl ho
 split at q<;>try cases q
 rename_i C' bm k0 k1 k2 k3 n k5 hm hs
 simp only[gq,Iv,HH]at q
 obtain⟨⟨⟨⟨e1,e2⟩,fZ⟩,ht⟩,bE⟩:=q
 subst e1 e2
 have ho:=X _ _ ho
 cases cd
 dsimp only at hm fZ bE
 subst hm fZ bE
 have pi:sl=#[k0,k1,k2,k3,some (.builtin n),k5]:=by cases sl;simp only at hs;rw[hs]
 rw[pi]at ho
 exact⟨bm,_,_,_,_,_,_,_,_,dd,k0,k1,k2,k3,k5,ho,PySem.W.tail_of_in X ht⟩
def XCl(K:Frag)(C:Addr)(bmB:List Value)(newId:String):Prop:=PySem.W.excIn K C bmB newId=true\/z9 K C bmB newId=true
def Up{K:Frag}{h:Heap}{C:Addr}{bmB:List Value}{newId:String}(X:K.In h)(q:XCl K C bmB newId) :
  ∃bm N nm qn bs hdct sn sub ab col dd k0 k1 k2 k3 k5,h.get? C=some (excClassObj nm qn C N bs bm hdct sn sub ab col dd k0 k1 k2 k3 k5 newId)/\OwnTail h bmB bm:=by
 rcases q with q |q
 . obtain⟨bm,N,nm,qn,bs,hdct,sn,sub,ab,col,dd,k0,k1,k2,k3,k5,mN,hC,_,_,T⟩:=Uq X q;exact⟨bm,N,nm,qn,bs,hdct,sn,sub,ab,col,dd,k0,k1,k2,k3,k5,hC,T⟩
 . obtain⟨bm,N,nm,qn,bs,sn,sub,ab,col,dd,k0,k1,k2,k3,k5,hC,T⟩:=M7 X q;exact⟨bm,N,nm,qn,bs,true,sn,sub,ab,col,dd,k0,k1,k2,k3,k5,hC,T⟩
section
variable {X:Cx}{x:Str}{C:Addr}{bmB:List Value}{B newId ib:String}{np ak pos:Pos}{e:Expr}{es:List Expr}{t:TA}{EX:XW}{fr:Bool}{fs:DE->R (List D)}
def yJ(FB:ExcBaseFacts B newId ib bmB)(bb:X.calm=true)(hg:Gl X x)(hm:X.mg x=some (.ref C))(hq:PySem.W.excIn X.K C bmB newId=true)(ha:PA X (e::es) t)(E:Hp->Prop)
  (hE:∀(pins:List (Addr×Obj))(σ:St)(H:Hp)(s:Shared)(a:Addr)(s':Shared)(args:List Value),Inv X pins σ H s->Heap.MadeExcOf s.heap s'.heap a (.ref C) args->s'.os=s.os->AllBare s'.gens->E H->X.xe (.ref a) s')
  (aA:(x==("__debug__":Str))=false:=by decide) (he:starEach (e::es) X.env=(false,eval e X.env)::starEach es X.env:=by rfl) (hpl:(backTo ak (starEach es X.env)).any (·.1)=false:=by rfl) :
  PS X (.Raise (some (.Call (.Name x np) (e::es) [] ak)) none pos) (fun _ σ H=>t σ H fun vs H1=>vs.length<=sizeLine/\E H1):=by
 intro pins s σ H D I h
 obtain⟨bm,N,nm,qn,bs,hdct,sn,sub,ab,col,dd,k0,k1,k2,k3,k5,mN,hC,hN,mR,T⟩:=Uq I.ok.mod.kin hq
 refine wpAny_Raise_call_subT (C:=C) (nm:=nm) (q:=qn) (N:=N) (bs:=bs) (bm:=bm) (hdct:=hdct) (sn:=sn) (sub:=sub) (ab:=ab) (col:=col) (dd:=dd) (k0:=k0) (k1:=k1) (k2:=k2) (k3:=k3) (k5:=k5)
  FB (mN:=mN) (T.hasType FB.hasBase) (I.ok.hd bb) (by rw[he];show(false||(backTo ak (starEach es X.env)).any (·.1))=false;rw[hpl];rfl) mR (X3 I hg hm ⟨rfl,?_⟩ aA)
 have go:=ha ak pins s σ H _ I h
 rw[he]at go⊢
 refine Calls.evalArgs_plain (EU go (fun us s2 ⟨vs,H1,I1,r,hl,pr⟩=>⟨rfl,by rw[<-r.length];exact hl,I1.bk _ _ hC,hN.keeps I1.bk,T.keeps I1.bk,fun h' a hx=>?_⟩) fun _ _ y=>y)
 exact hE pins σ H1 s2 a _ us I1 hx rfl I1.bare pr
def D3(c:String)(fs:DE->R (List D)):DS->SR:=fun ρ=>(fs (see ρ)).toS fun ds=>if ds.length<=1000 then .er ⟨c,[]⟩ else .st
def wK{K:Frag}{De:Ends}{σ:St}{H:Hp}{c:String}(h:TSd K EX fr (D3 c fs) De σ H):TAd K EX fs σ H fun vs H1=>vs.length<=sizeLine/\EX.p ⟨c,[]⟩ H1:=by
 obtain⟨Hc,Hb,H0,ρ,sb,R,h⟩:=h;unfold D3 at h;rw[SK.toS]at h;refine⟨sb.trans R.sb,see ρ,HeOf (List.replicate ρ.length true) ρ σ H0 H,R.heH _,by rw[<-X1];exact R.re _,h.mono fun ds z vs H' ae s e r=>?_⟩;split at z
 . rename_i hl;exact⟨Lb (by rw[<-r.length];exact hl),z H' ((sb.trans R.sb).trans s)⟩
 . exact z.elim
def X0{c:String}(L:Lnd X EX)(FB:ExcBaseFacts B newId ib bmB)(bb:X.calm=true)(hg:Gl X (c:Str))(hm:X.mg (c:Str)=some (.ref C))(hq:PySem.W.excIn X.K C bmB newId=true)(ha:QA X EX (e::es) fs)
  (aA:(((c:Str))==("__debug__":Str))=false:=by decide) (he:starEach (e::es) X.env=(false,eval e X.env)::starEach es X.env:=by rfl) (hpl:(backTo ak (starEach es X.env)).any (·.1)=false:=by rfl) :
  QS X EX fr (.Raise (some (.Call (.Name (c:Str) np) (e::es) [] ak)) none pos) (D3 c fs):=
 ⟨(yJ FB bb hg hm hq ha.h (fun H=>EX.p ⟨c,[]⟩ H) (fun pins σ H s a s' args I hx ho hb hp=>L.md pins σ H H s a C none s' ⟨c,[]⟩ I (.of hx) (I.hok.kept hx.keeps) (Un.kept hx.keeps) (I.hok.none hx.new) ho hb hm hp (.inl rfl)) aA he hpl).imp fun _ _ _ q=>wK q⟩
end
def zB{M:Model}{A:Around}{E:Value->Shared->Prop}{nm uD q qD:Str}{C N DD ND:Addr}{bs bm uE pA:List Value}{hdct nN:Bool}{sn uF:List Str}{sub rF:List Value}{ab uG:Bool}{col rG:Option Bool}{dd uH:Option Addr}{k0 k1 k2 k3 k5 j0 j1 j2 j3 j5:Option Value}{newId rH:String}
  {h:Heap} {g:Array GenState} {d:Drawn} {t:Nat} {os:OsState} {e:Addr} {oe:Obj} {Q:Bool->Shared->Prop}
  (hC:h.get? C=some (excClassObj nm q C N bs bm hdct sn sub ab col dd k0 k1 k2 k3 k5 newId)) (hD:h.get? DD=some (excClassObj uD qD DD ND uE pA nN uF rF uG rG uH j0 j1 j2 j3 j5 rH)) (he:h.get? e=some oe) (cM:oe.cls=.ref C)
  (aU:pA.contains (.type "BaseException")=true) (hq:Q ((Value.ref C::bm).contains (.ref DD)) ⟨h,g,d,t,os⟩):wpAny M A (excMatches (.ref e) (.ref DD)) Q E ⟨h,g,d,t,os⟩:=by
 have uI:(Value.ref DD::pA).contains (.type "BaseException")=true:=by rw[List.contains_cons,aU,Bool.or_true]
 have f:=tc_notTuple
 unfold excMatches
 repeat (first | (with_reducible refine HC he ?_;rw[cM]) |with_reducible refine HC hD ?_ | (with_reducible refine IR hD ?_;rw[uI]) |with_reducible refine IR hC ?_ |wp_step)
 cases hb:(Value.ref C::bm).contains (.ref DD)<;>(rw[hb]at hq;wp_walk;exact hq)
section
variable {X:Cx}{pins:List (Addr×Obj)}{σ:List (Option V)}{H1 H2:Hp}{s1 s2:Shared}{h' B:Heap}{C a T:Addr}{a0:Value}{od:Option Addr}
noncomputable def C3(a C:Addr)(od:Option Addr):HO:=.ext fun h=>∃ob,h.get? a=some ob/\ob.cls=.ref C/\(∃vs,ob.data=.fields vs)/\ob.dict=od
def yI(I:Inv X pins σ H1 s1)(x:XOut X.prog X.w X.stack H1 s1 C a od H2 s2)(na:s1.heap.get? a=none)(nT:s1.heap.get? T=none)(ha:H2 a=none)(hT:H2 T=none)
  (keep:∀b o,s2.heap.get? b=some o->b≠a->b≠T->b∉frs X.stack->h'.get? b=some o) (up:s2.heap.UpToSlots h') (bD:Heap.FlyingW B X.stack a (.ref C) a0 h') (bE:p5 a od h') :
  Inv X pins σ (upd H2 a (C3 a C od)) { s2 with heap:=h' }/\Same H2 (upd H2 a (C3 a C od)):=by
 have F2:=I.stack2 x.un
 have bM:∀b∈frs X.stack,∀o,s2.heap.get? b=some o->∃sl,h'.get? b=some { o with slots:=sl }:=fun b hb o e=>by obtain⟨_,o',aS,hd⟩:=F2.mem hb;rw[e]at aS;cases aS;exact up b o e hd
 have ne:∀b o,s1.heap.get? b=some o->b≠a/\b≠T:=fun b o e=>⟨fun z=>(by rw[z,na]at e;cases e),fun z=>(by rw[z,nT]at e;cases e)⟩
 have mo:∀b o,H2 b=some o->b≠a/\b≠T:=fun b o e=>⟨fun z=>(by rw[z,ha]at e;cases e),fun z=>(by rw[z,hT]at e;cases e)⟩
 have dj:∀b∈frs X.stack,H2 b=none:=fun b hb=>by obtain⟨_,o,ho,_⟩:=I.stack.mem hb;exact x.un.free b o ho (I.stkFree b hb) (by simp)
 obtain⟨oe,vs,he,hc,hd,_⟩:=bD.first
 have un:Un (frs X.stack) [] H1 (upd H2 a (C3 a C od)) s1.heap h':=by
  refine⟨fun b o e n hb hx=>?_,fun b o e n hb hx=>?_,fun b o e n hx=>?_,fun b o e hx=>?_,fun b xs e=>?_,fun b o u e=>?_,fun b ps e=>?_⟩
  . exact keep b o (x.un.keep b o e n hb hx) (ne b o e).1 (ne b o e).2 hb
  . obtain⟨sl,e1⟩:=x.un.slot b o e n hb hx;obtain⟨gp,e2⟩:=bM b hb _ e1;exact⟨gp,e2⟩
  . rw[d8 (ne b o e).1];exact x.un.free b o e n hx
  . obtain⟨o1,e1⟩:=x.un.there b o e hx;by_cases hb:b∈frs X.stack
    . obtain⟨sl,e2⟩:=bM b hb _ e1;exact⟨_,e2⟩
    . exact⟨o1,keep b o1 e1 (ne b o e).1 (ne b o e).2 hb⟩
  . have:=x.un.tups b xs e;rw[d8 (mo b _ this).1];exact this
  . have:=x.un.frzs b o u e;rw[d8 (mo b _ this).1];exact this
  . obtain⟨m,this⟩:=x.un.tbls b ps e;exact⟨m,by rw[d8 (mo b _ this).1];exact this⟩
 have hok:HOk X.prog X.w (upd H2 a (C3 a C od)) h':=fun b o e=>by
  by_cases hb:b=a
  . subst hb;rw[j9]at e;cases e;exact⟨⟨oe,he,hc,⟨vs,hd⟩,bE _ he⟩,⟨oe,he⟩,fun h1 h2 ⟨ob,z1,z2⟩ k=>⟨ob,k _ z1,z2⟩⟩
  . rw[d8 hb]at e;refine(x.hok b o e).stay (fun c v hc q=>?_) (fun c q=>by rw[d8 (mo c _ q).1];exact q) fun c xs q=>by rw[d8 (mo c _ q).1];exact q
    have pB:H2 c≠none:=by
     rcases hc with rfl |hc
     . rw[e];exact fun z=>nomatch z
     . rw[hc];exact fun z=>nomatch z
    refine keep c v q (fun z=>pB (z ▸ ha)) (fun z=>pB (z ▸ hT)) fun z=>pB (dj c z)
 exact⟨I.call' (s':={ s2 with heap:=h' }) (ch:=[]) x.os un hok x.bare (fun _ z=>nomatch z),Same.upd_new ha⟩
end
section
variable {X:Cx}{pins:List (Addr×Obj)}{σ:List (Option V)}{H:Hp}{s:Shared}
def Ec(I:Inv X pins σ H s)(hN:X.N.Nodup)(hi:X.N[i]?=some n)(hk:X.env.scope.names.lookup n=some .local)
  (h:∀s',Inv X pins (σ.set i none) H s'->Q () s'):wpAny M A (do bindName X.env n .none;unbindBehindTheSuite X.env n pos) Q E s:=by
 obtain⟨m,hn,hl⟩:=id I.loc
 have cM:(X.env.scope.kind==.class||(X.env.scope.kind==.module&&X.env.locals != X.env.globals))=false:=by rw[I.ok.kind];rfl
 obtain⟨oL,_,_,lm,_⟩:=id hn
 refine wpAny_nameGoes_keeps hk hn cM fun h' v nW hs=>h _ ?_
 have hok:HOk X.prog X.w H h':=fun b ob e=>by
  refine(I.hok b ob e).stay (fun c w' hc q=>(hs.2 c ?_).trans q) (fun _ q=>q) fun _ _ q=>q
  rintro rfl;rcases hc with rfl |hc
  . rw[I.free]at e;cases e
  . rw[I.free]at hc;cases hc
 have eG:∀b o,X.s₀.heap.get? b=some o->b≠X.env.locals:=fun b o e=>ER (ES (π e) I.ok.above)
 refine⟨I.ok,I.os,I.bare,⟨fun b o e n hb hx=>?_,fun b o e n hb hx=>?_,I.base.free,fun b o e hx=>?_,I.base.tups,I.base.frzs,I.base.tbls⟩,⟨_,nW,fun j y v' e1 e2 e3=>?_⟩,fun y c e=>?_,I.free,I.freeC,fun p hp=>?_,hok,by simpa using I.len⟩
 . exact(hs.2 b (eG b o e)).trans (I.base.keep b o e n hb hx)
 . obtain⟨sl,e1⟩:=I.base.slot b o e n hb hx;exact⟨sl,(hs.2 b (eG b o e)).trans e1⟩
 . obtain⟨o',e1⟩:=I.base.there b o e hx;exact⟨o',(hs.2 b (eG b o e)).trans e1⟩
 . have hj:j≠i:=fun z=>by
    subst z
    by_cases ay:j<σ.length
    . rw[GC ay]at e2;cases e2
    . rw[FN (by simpa using ay)]at e2;cases e2
   rw[FI (GN hj)]at e2
   have lv:y≠n:=fun z=>by subst z;exact hj (Mc hN e1 hi)
   obtain⟨u,r,l⟩:=hl j y v' e1 e2 e3
   refine⟨u,r,?_⟩
   rcases l with⟨k,l⟩ |⟨k,c,e,ob,z,zd⟩
   . exact .inl ⟨k,(by show(if y=n then v else m y)=some u;rw[ψ lv];exact l)⟩
   . exact .inr ⟨k,c,e,ob,(hs.2 c (I.cne y c e)).trans z,zd⟩
 . obtain⟨v,ob,z,zd⟩:=I.cell y c e;exact⟨v,ob,(hs.2 c (I.cne y c e)).trans z,zd⟩
 . obtain⟨e,n,ne,nf,d⟩:=I.pin p hp;exact⟨(hs.2 p.1 ne).trans e,n,ne,nf,d⟩
abbrev Cx.held(X:Cx)(e:Value):Cx:={ X with A:=X.A.mark (some e),calm:=false,xe:=fun _ _=>False }
def Inv.held(I:Inv X pins σ H s)(e:Value):Inv (X.held e) pins σ H s:=
 ⟨⟨I.ok.mod,I.ok.kind,I.ok.glob,I.ok.blt,I.ok.above,I.ok.inj,I.ok.has,I.ok.cab,(fun z=>nomatch z),I.ok.frames,I.ok.stk,I.ok.exf,I.ok.bs,I.ok.bsz,I.ok.noex,I.ok.exfs,I.ok.funs,I.ok.frf⟩,I.os,I.bare,I.base,I.loc,I.cell,I.free,I.freeC,I.pin,I.hok,I.len⟩
def Inv.unheld(ok:X.Ok)(I:Inv (X.held e) pins σ H s):Inv X pins σ H s:=
 ⟨ok,I.os,I.bare,I.base,I.loc,I.cell,I.free,I.freeC,I.pin,I.hok,I.len⟩
def We(G:i4 X.prog X.w X.K X.mg X.base x ps k sp)(hr:Room j X.A)(hg:Gl X x)(ha:PA X.nox (e::es) t)(I:Inv X pins σ H s)(h:t σ H fun vs H1=>Same H H1/\sp vs H1 Q E)(cG:k<=j:=by omega)(aA:(x==("__debug__":Str))=false:=by decide)
  (he:starEach (e::es) X.env=(false,eval e X.env)::starEach es X.env:=by rfl) (hpl:(backTo pos (starEach es X.env)).any (·.1)=false:=by rfl) :
  wpAny (model X.prog X.w) X.A (eval (.Call (.Name x p) (e::es) [] pos) X.env) (EP X pins σ Q) (fun ev s'=>∃H1 s1,Same H H1/\Inv X pins σ H1 s1/\CX1 X.prog X.w X.stack H1 s1 E ev s') s:=by
 obtain⟨f,fd,F,b,m,kp⟩:=G
 refine Iu (X3 I hg m ?_ aA)
 have I':Inv X.nox pins σ H s:=⟨⟨I.ok.mod,I.ok.kind,I.ok.glob,I.ok.blt,I.ok.above,I.ok.inj,I.ok.has,I.ok.cab,I.ok.hd,I.ok.frames,I.ok.stk,I.ok.exf,I.ok.bs,I.ok.bsz,I.ok.noex,I.ok.exfs,I.ok.funs,I.ok.frf⟩,I.os,I.bare,I.base,I.loc,I.cell,I.free,I.freeC,I.pin,I.hok,I.len⟩
 refine PySem.W.callWith_K (h₀:=X.base) I.ok.mod.kin kp (EU (ha pos pins s σ H _ I' h) (fun us s1 ⟨vs,H1,I1,r,sH,q⟩=>⟨I1.kIn,?_⟩) fun _ _ z=>z.elim) he hpl
 have I1:Inv X pins σ H1 s1:=⟨I.ok,I1.os,I1.bare,I1.base,I1.loc,I1.cell,I1.free,I1.freeC,I1.pin,I1.hok,I1.len⟩
 have hl:us.length=ps.length:=by rw[<-r.length];exact F.len _ _ _ _ q
 have hb:=b s1 us I1.kIn (by rw[GL];exact hl)
 rw[GL]at hb
 refine wpAny_call (Iy (F.run X.A X.stack s1 H1 ⟨us,[]⟩ us vs Q E (hr.mono cG) I1.env0 hb r q) fun r s' hq=>?_)
 cases r with
 |error e=>exact⟨H1,s1,sH,I1,hq⟩
 |ok fl=>
  cases fl with
  |ret u=>exact I1.after hq
  |next=>exact False.elim hq
  |brk=>exact False.elim hq
  |cont=>exact False.elim hq
end
structure Lnd5(X:Cx)(pins:List (Addr×Obj))(σ:St)(H1:Hp)(s1:Shared)(C a:Addr)(od:Option Addr)(H2:Hp)(s2:Shared)(B:Heap)(T:Addr)(a0:Value)(h5:Heap):Prop where
 I:Inv X pins σ H1 s1
 x:XOut X.prog X.w X.stack H1 s1 C a od H2 s2
 na:s1.heap.get? a=none
 nT:s1.heap.get? T=none
 ha:H2 a=none
 hT:H2 T=none
 keep:∀b o,s2.heap.get? b=some o->b≠a->b≠T->b∉frs X.stack->B.get? b=some o
 up:s2.heap.UpToSlots h5
 fl:Heap.FlyingW B X.stack a (.ref C) a0 h5
 dc:p5 a od h5
section
variable {X:Cx}{EX:XW}{fr:Bool}{pins:List (Addr×Obj)}{σ:St}{H1 H2:Hp}{s1 s2:Shared}{C a T:Addr}{B h5:Heap}{a0:Value}{od:Option Addr}
def Lnd5.inv(L:Lnd5 X pins σ H1 s1 C a od H2 s2 B T a0 h5):Inv X pins σ (upd H2 a (C3 a C od)) { s2 with heap:=h5 }/\Same H2 (upd H2 a (C3 a C od)):=
 yI L.I L.x L.na L.nT L.ha L.hT (fun b o e h1 h2 h3=>L.fl.1 b o (L.keep b o e h1 h2 h3)) L.up L.fl L.dc
def Lnd5.again(L:Lnd5 X pins σ H1 s1 C a od H2 s2 B T a0 h5)(h:∀h6,Lnd5 X pins σ H1 s1 C a od H2 s2 B T a0 h6->Q () { s2 with heap:=h6 }) :
  wpAny (model X.prog X.w) A (setFlight (.ref a) none) Q E { s2 with heap:=h5 }:=
 EU (Fv (E:=E) (E':=E) (.flight _ _) (lands_againW (Q:=fun _ s=>∃h',s={ s2 with heap:=h' }/\Heap.FlyingW B X.stack a (.ref C) a0 h'/\h5.UpToSlots h') (s:={ s2 with heap:=h5 }) L.fl fun h' fl up=>⟨h',rfl,fl,up⟩) (Zj (s:={ s2 with heap:=h5 }) L.fl.2.2.2 L.dc)) (fun _ s ⟨⟨h',e,fl,up⟩,d⟩=>by subst e;exact h h' ⟨L.I,L.x,L.na,L.nT,L.ha,L.hT,L.keep,L.up.trans up,fl,d⟩) fun _ _ z=>z.1
def Uo(I:Inv X pins σ H1 s1)(aF:X.stack=X.env::X.outer)(hf:X.env.frame=some X.env.locals)(x:XOut X.prog X.w X.stack H1 s1 C a od H2 s2)
  (h:∀B T a0 h5,Lnd5 X pins σ H1 s1 C a od H2 s2 B T a0 h5->Q () { s2 with heap:=h5 }):wpAny (model X.prog X.w) X.A (noteFrame (.ref a) X.env) (fun _ s'=>wpAny (model X.prog X.w) X.A (setFlight (.ref a) none) Q E s') E s2:=by
 obtain⟨oe,vs,T,oT,ts,a0,he,hc,h0,hd,h1,ck,hT,aV,h3,na,nT,ha,gU,gW,eL⟩:=id x.fly
 have F2:=I.stack2 x.un
 have dN:∀env∈X.stack,∀b,env.frame=some b->b∈a::T::frs X.stack:=fun env he b hb=>bI _ (bI _ (GS.mpr ⟨env,he,hb⟩))
 have bq:X.A.frames=some (X.env::X.outer):=by rw[<-aF];exact I.ok.frames
 have bD:Heap.FlyingW (hideAll s2.heap (a::T::frs X.stack)) (X.env::X.outer) a (.ref C) a0 s2.heap:=⟨fun b o q=>of_hideAll _ q,hideAll_none _ (.head _),aF ▸ funFrames_hide F2 dN,oe,vs,T,oT,ts,he,⟨hc,h0⟩,hd,h1,hideAll_none _ (.tail _ (.head _)),ck,hT,aV,h3⟩
 refine Ky (od:=od) bq hf bD (fun o ho=>by rw[he]at ho;cases ho;exact gW) fun h4 hh mq d4=>?_
 refine Ef (s:={ s2 with heap:=h4 }) hh d4 fun h5 fl uJ d5=>h (hideAll s2.heap (a::T::frs X.stack)) T a0 h5 ⟨I,x,na,nT,ha,gU,fun b o q h1 h2 h3=>hideAll_get _ q fun z=>?_,mq.trans uJ,(by rw[<-aF]at fl;exact fl),d5⟩
 rcases ee.mp z with rfl |z
 . exact h1 rfl
 . rcases ee.mp z with rfl |z
   . exact h2 rfl
   . exact h3 z
def Hr(s:Same H H1)(e:H1 b=none):H b=none:=by
 cases q:H b with
 |none=>rfl
 |some o=>rw[s b o q]at e;cases e
def _root_.L2.Fly.newd(f:Fly h0 H' C a od h):∀dx,od=some dx->h0.get? dx=none:=by obtain⟨_,_,_,_,_,_,_,_,_,_,_,_,_,_,_,_,_,_,_,_,h⟩:=f;exact h
abbrev HD:=Ex->DS->SR
structure QY(X:Cx)(fr:Bool)(sts:List Stmt)(g:DS->SR):Prop where
 h:∀(pins:List (Addr×Obj))(s:Shared)(σ:St)(H:Hp)(De:Ends)(Hc Hb H0:Hp)(ρ:DS)(P:Ex->Hp->Prop),Inv X pins σ H s->RS X.K Hc Hb H0 ρ σ H->SK X.K ⟨H,P⟩ fr Hc Hb De (g ρ) ->
  wpAny (model X.prog X.w) X.A (execs sts X.env) (SP X pins De) (fun ev s'=>∃H1 s1 x C a od H2,ev=.ref a/\Same H H1/\Inv X pins σ H1 s1/\XOut X.prog X.w X.stack H1 s1 C a od H2 s'/\X.mg (Str.ofString (Ex.cls x))=some (.ref C)/\P x H2/\XFs X.K x od H2) s
structure QH(X:Cx)(EX:XW)(fr:Bool)(hs:List ExceptHandler)(hd:HD):Prop where
 h:∀(pins:List (Addr×Obj))(σ:St)(H1:Hp)(s1:Shared)(C a:Addr)(od:Option Addr)(H2:Hp)(s2:Shared)(B:Heap)(T:Addr)(a0:Value)(h5:Heap)(De:Ends)(Hc Hb H0:Hp)(ρ:DS)(x:Ex)(E:Value->Shared->Prop)(H:Hp),Same H H2->(∀dx,od=some dx->H dx=none)->XFs X.K x od H2->Lnd5 X pins σ H1 s1 C a od H2 s2 B T a0 h5->X.mg (Str.ofString x.cls)=some (.ref C) ->
  RS X.K Hc Hb H0 ρ σ H->SK X.K EX fr Hc Hb De (hd x ρ)->wpAny (model X.prog X.w) X.A (handleBy (.ref a) X.env hs) (SP X pins De) E { s2 with heap:=h5 }
noncomputable def T0(g:DS->SR)(hd:HD):DS->SR:=fun ρ=>match g ρ with
 | .er x=>hd x ρ
 |r=>r
def y3d{body:List Stmt}{h₀:ExceptHandler}{hs:List ExceptHandler}{g:DS->SR}{hd:HD}{pos:Pos}(aF:X.stack=X.env::X.outer)(hf:X.env.frame=some X.env.locals)(hb:QY X fr body g)(hh:QH X EX fr (h₀::hs) hd):QS X EX fr (.Try body (h₀::hs) [] [] pos) (T0 g hd):=by
 refine⟨fun pins s σ H De I h=>?_⟩;obtain⟨Hc,Hb,H0,ρ,sb,R,h⟩:=h;refine wpAny_Try_except (EU (hb.h pins s σ H De Hc Hb H0 ρ (fun x H'=>Same H H'/\SK X.K EX fr Hc Hb De (hd x ρ)) I R ?_) (fun f af hq=>?_) fun ev s' ⟨H1,s1,x,C,a,od,H2,e,sH,I1,xo,hm,⟨sm,hk⟩,xf⟩=>?_)
 . unfold T0 at h;cases q:g ρ with
   |nx av=>rw[q]at h;exact h
   |bk av=>rw[q]at h;exact h
   |ct av=>rw[q]at h;exact h
   |rt d=>rw[q]at h;exact h
   |er x=>rw[q]at h;exact fun H' s'=>⟨s',h⟩
   |st=>rw[q]at h;exact h
 . cases f with
   |next=>exact Ir hq
   |brk=>exact hq
   |cont=>exact hq
   |ret u=>exact hq
 . subst e;exact Uo I1 aF hf xo fun B T a0 h5 L=>hh.h pins σ H1 s1 C a od H2 s' B T a0 h5 De Hc Hb H0 ρ x X.xe H sm (fun dx e=>Hr sH (I1.hok.none (xo.fly.newd dx e))) xf L hm R hk
noncomputable def V3(g:DS->SR)(hd:HD)(ge:DS->SR):DS->SR:=fun ρ=>match g ρ with
 | .er x=>hd x ρ
 | .nx av=>ge av
 |r=>r
def qy{body sF:List Stmt}{h₀:ExceptHandler}{hs:List ExceptHandler}{g ge:DS->SR}{hd:HD}{pos:Pos}(aF:X.stack=X.env::X.outer)(hf:X.env.frame=some X.env.locals)(hb:QY X fr body g)(hh:QH X EX fr (h₀::hs) hd)(he:QB X EX fr sF ge):QS X EX fr (.Try body (h₀::hs) sF [] pos) (V3 g hd ge):=by
 refine⟨fun pins s σ H De I h=>?_⟩;obtain⟨Hc,Hb,H0,ρ,sb,R,h⟩:=h;refine wpAny_Try_except (EU (hb.h pins s σ H { De with nx:=TSd X.K EX fr ge De } Hc Hb H0 ρ (fun x H'=>Same H H'/\SK X.K EX fr Hc Hb De (hd x ρ)) I R ?_) (fun f af hq=>?_) fun ev s' ⟨H1,s1,x,C,a,od,H2,e,sH,I1,xo,hm,⟨sm,hk⟩,xf⟩=>?_)
 . unfold V3 at h;cases q:g ρ with
   |nx av=>rw[q]at h;exact fun ag H' ae R'=>⟨Hc,Hb,ae,av,sb,R',h⟩
   |bk av=>rw[q]at h;exact h
   |ct av=>rw[q]at h;exact h
   |rt d=>rw[q]at h;exact h
   |er x=>rw[q]at h;exact fun H' s'=>⟨s',h⟩
   |st=>rw[q]at h;exact h
 . cases f with
   |next=>
    obtain⟨ag,H',I',q⟩:=hq
    exact he.h pins af ag H' De I' q
   |brk=>exact hq
   |cont=>exact hq
   |ret u=>exact hq
 . subst e;exact Uo I1 aF hf xo fun B T a0 h5 L=>hh.h pins σ H1 s1 C a od H2 s' B T a0 h5 De Hc Hb H0 ρ x X.xe H sm (fun dx e=>Hr sH (I1.hok.none (xo.fly.newd dx e))) xf L hm R hk
end
noncomputable def R.kn{α:Type}(k:String->Bool)(r:R α):R α:=match r with
 | .er x=>if k x.cls=true then .er x else .st
 |r=>r
def D6(k:String->Bool)(m:List D->R D)(fs:DE->R (List D)):DE->R D:=fun ρ=>(fs ρ).noE.bind fun ds=>(m ds).kn k
section
variable {X:Cx}{fr eZ:Bool}{k:String->Bool}{fs:DE->R (List D)}{mm:List D->R D}{n:Nat}{m:List Bool}
def Wd{K:Frag}{mg:Str->Option Value}{Hc Hb H0 H:Hp}{ρ:DS}{σ:St}{P:Ex->Hp->Prop}{kk:D->Prop}{Q:VK}(hl:∀ds,ds.length≠n->mm ds=.st)(hk:∀c,k c=true->∃C,mg (Str.ofString c)=some (.ref C))(R:RS K Hc Hb H0 ρ σ H)
  (h:Rk (XW.at ⟨H,P⟩) (D6 k mm fs (vis m ρ)) kk) (hQ:∀d,kk d->∀v H',Out K eZ (HeOf m ρ σ H0 H) H d v H'->Q v H'):TAd K F0 fs σ H fun vs H1=>Same H H1/\spD K mg eZ mm n vs H1 Q (eOf K ⟨H,P⟩ mg):=by
 unfold D6 at h
 rw[Rk.bind]at h
 refine⟨F0.same _,vis m ρ,HeOf m ρ σ H0 H,R.heH m,R.re m,(Rk.noE h).mono fun ds h vs H1 ao s1 e1 r1=>⟨s1,ds,ao,e1.2.1,r1,?_,?_⟩⟩
 . apply GO;intro hn;rw[hl ds hn]at h;exact h
 . cases q:mm ds with
   |ok d=>rw[q]at h;exact fun v H' o=>hQ d h v H' (o.after s1 e1)
   |st=>rw[q]at h;exact h
   |er x=>
    rw[q]at h
    unfold L2.R.kn at h
    dsimp only at h
    split at h
    . rename_i hx;obtain⟨C,hC⟩:=hk _ hx;exact fun H' s'=>⟨C,hC,fun od xf=>⟨x,h H' (s1.trans s'),hC,xf⟩⟩
    . exact h.elim
def Wc(h:∃H1 s1,Same H H1/\Inv X pins σ H1 s1/\CX1 X.prog X.w X.stack H1 s1 (eOf X.K ⟨H,P⟩ X.mg) ev s') :
  ∃H1 s1 x C a od H2,ev=.ref a/\Same H H1/\Inv X pins σ H1 s1/\XOut X.prog X.w X.stack H1 s1 C a od H2 s'/\X.mg (Str.ofString (Ex.cls x))=some (.ref C)/\P x H2/\XFs X.K x od H2:=by
 obtain⟨H1,s1,sH,I,C,a,od,H2,e,xo,x,hp,hm,xf⟩:=h
 exact⟨H1,s1,x,C,a,od,H2,e,sH,I,xo,hm,hp,xf⟩
def Sf{pins:List (Addr×Obj)}{De:Ends}{st:Stmt}{s:Shared}{E:Value->Shared->Prop}(h:wpAny (model X.prog X.w) X.A (exec st X.env) (SP X pins De) E s):wpAny (model X.prog X.w) X.A (execs [st] X.env) (SP X pins De) E s:=by
 refine wpAny_execs_cons (thn h fun f s1 q=>?_);cases f with
 |next=>exact Ir q
 |ret v=>exact q
 |brk=>exact q
 |cont=>exact q
variable {x:Str}{p ak pos:Pos}{e:Expr}{es:List Expr}{ps:List Str}{kl j mS:Nat}{gg:DS->SR}
def qx(hk:∀c,k c=true->∃C,X.mg (Str.ofString c)=some (.ref C))(G:i4 X.prog X.w X.K X.mg X.base x ps kl (spD X.K X.mg eZ (mOf eZ n mS gg) n))(hr:Room j X.A)(hg:Gl X x)(ha:QA X.nox F0 (e::es) fs)(cG:kl<=j:=by omega)(aA:(x==("__debug__":Str))=false:=by decide)
  (he:starEach (e::es) X.env=(false,eval e X.env)::starEach es X.env:=by rfl) (hpl:(backTo ak (starEach es X.env)).any (·.1)=false:=by rfl) (hs:swapsWith (.Call (.Name x p) (e::es) [] ak) none pos.line X.env=pure false:=by rfl) :
  QY X fr [.Expr (.Call (.Name x p) (e::es) [] ak) pos] (G0 (D6 k (mOf eZ n mS gg) fs)):=by
 refine⟨fun pins s σ H De Hc Hb H0 ρ P I R h=>?_⟩
 unfold G0 at h
 rw[SK.toS,<-X1]at h
 refine Sf (wpAny_Expr_any (EU (We (Q:=fun _ H'=>De.nx σ H') G hr hg ha.h I (Wd Eh hk R h fun d z v H' o=>z σ H' H0 (R.grow o.1)) cG aA he hpl) (fun v s1 ⟨y,H1,I1,r1,q1⟩=>⟨σ,H1,I1,q1⟩) fun ev s' z=>Wc z) I.quiet hs)
def y3e{i:Nat}{v:Str}{pv:Pos}(hk:∀c,k c=true->∃C,X.mg (Str.ofString c)=some (.ref C))(hN:X.N.Nodup)(hi:X.N[i]?=some v)(hx:Loc X.env.scope v)(G:i4 X.prog X.w X.K X.mg X.base x ps kl (spD X.K X.mg eZ (mOf eZ n mS gg) n))(hr:Room j X.A)(hg:Gl X x)(ha:QA X.nox F0 (e::es) fs)(cG:kl<=j:=by omega)(aA:(x==("__debug__":Str))=false:=by decide)
  (he:starEach (e::es) X.env=(false,eval e X.env)::starEach es X.env:=by rfl) (hpl:(backTo ak (starEach es X.env)).any (·.1)=false:=by rfl) (hs:swapsWith (.Call (.Name x p) (e::es) [] ak) (some (.Name v pv)) pos.line X.env=pure false:=by rfl)
  (hf:X.fn v=true\/X.env.scope.names.lookup v=some .local:=by first |exact .inl rfl |exact .inr rfl |assumption) :
  QY X fr [.Assign [.Name v pv] (.Call (.Name x p) (e::es) [] ak) pos] (c5 eZ i m (D6 k (mOf eZ n mS gg) fs)):=by
 refine⟨fun pins s σ H De Hc Hb H0 ρ P I R h=>?_⟩
 unfold c5 at h
 rw[SK.toS]at h
 refine Sf (wpAny_Assign_Name (EU (We (Q:=fun u H'=>De.nx (σ.set i (some u)) H') G hr hg ha.h I (Wd Eh hk R h fun d z u H' o=>?_) cG aA he hpl) (fun u s1 ⟨y,H1,I1,r1,q1⟩=>?_) fun ev s' z=>Wc z) hs)
 . obtain⟨aQ,R',a⟩:=R.out o;exact z _ H' aQ (R'.put a i)
 . exact Ew I1 hN hi hx r1 (fun s2 I2=>⟨_,H1,I2,q1⟩) hf
end
noncomputable def Ab:HD:=fun _ _=>.st
noncomputable def SR.gone(i:Nat):SR->SR
 | .nx ρ=>.nx (ρ.set i .em)
 | .bk ρ=>.bk (ρ.set i .em)
 | .ct ρ=>.ct (ρ.set i .em)
 | .rt d=>.rt d
 |_=>.st
def hAs(tb:String->Option Bool)(i:Nat)(g:DS->SR)(r:HD):HD:=fun x ρ=>match tb x.cls with
 |some true=>(g (ρ.set i (.im (.exc x.cls x.fs)))).gone i
 |some false=>r x ρ
 |none=>.st
noncomputable def SR.noE:SR->SR
 | .er _=>.st
 |r=>r
def hNo(tb:String->Option Bool)(g:DS->SR)(r:HD):HD:=fun x ρ=>match tb x.cls with
 |some true=>(g ρ).noE
 |some false=>r x ρ
 |none=>.st
def RS.gone{K:Frag}{Hc Hb H0 H:Hp}{ρ:DS}{σ:St}(R:RS K Hc Hb H0 ρ σ H)(i:Nat):RS K Hc Hb H0 (ρ.set i .em) (σ.set i none) H:=by
 have ne:∀(j:Nat)(z:Sl),(ρ.set i Sl.em)[j]?=some z->z≠.em->j≠i/\ρ[j]?=some z:=fun j z e hz=>by
  by_cases hj:j=i
  . subst hj;by_cases hl:j<ρ.length
    . rw[GC hl]at e;cases e;exact absurd rfl hz
    . rw[FN (by simpa using hl)]at e;cases e
  . rw[FI (GN hj)]at e;exact⟨hj,e⟩
 refine⟨R.sb,R.ext,by simpa using R.len,fun j d e=>?_,fun j d e=>?_,fun j k d e a h1 h2 h3 h4=>?_⟩
 . obtain⟨hj,e⟩:=ne j _ e (by simp);rw[FI (GN hj)];exact R.im j d e
 . obtain⟨hj,e⟩:=ne j _ e (by simp);rw[FI (GN hj)];exact R.ow j d e
 . obtain⟨hj,e1⟩:=ne j _ h1 (by simp);obtain⟨hk,e2⟩:=ne k _ h2 (by simp);rw[FI (GN hj)]at h3;rw[FI (GN hk)]at h4;exact R.ap j k d e a e1 e2 h3 h4
noncomputable def gD(De:Ends)(i:Nat):Ends:={ nx:=fun σ H=>De.nx (σ.set i none) H,rt:=De.rt,bk:=fun σ H=>De.bk (σ.set i none) H,ct:=fun σ H=>De.ct (σ.set i none) H }
def SK.gone{K:Frag}{EX:XW}{fr:Bool}{Hc Hb:Hp}{De:Ends}{i:Nat}{r:SR}(h:SK K EX fr Hc Hb De (r.gone i)):SK K F0 fr Hc Hb (gD De i) r:=by
 cases r with
 |nx ρ=>exact fun σ H H0 R=>h _ H H0 (R.gone i)
 |bk ρ=>exact fun σ H H0 R=>h _ H H0 (R.gone i)
 |ct ρ=>exact fun σ H H0 R=>h _ H H0 (R.gone i)
 |rt d=>exact h
 |er x=>exact h.elim
 |st=>exact h.elim
def SK.noE{K:Frag}{EX:XW}{fr:Bool}{Hc Hb:Hp}{De:Ends}{r:SR}(h:SK K EX fr Hc Hb De r.noE):SK K F0 fr Hc Hb De r:=by
 cases r with
 |nx ρ=>exact h
 |bk ρ=>exact h
 |ct ρ=>exact h
 |rt d=>exact h
 |er x=>exact h.elim
 |st=>exact h.elim
mutual
theorem RD.tups{K:Frag}{H H':Hp}(hs:∀b xs,H b=some (.tup xs)->H' b=some (.tup xs)):∀{d:D}{v:V},d.noL=true->d.pl=true->RD K H d v->RD K H' d v
 | .non,_,_,_,h=>by simp only[RD]at h⊢;exact h
 | .bl _,_,_,_,h=>by simp only[RD]at h⊢;exact h
 | .int _,_,_,_,h=>by simp only[RD]at h⊢;exact h
 | .str _,_,_,_,h=>by simp only[RD]at h⊢;exact h
 | .tup ds,_,n,p,h=>by simp only[RD]at h⊢;obtain⟨a,xs,e,h1,h2⟩:=h;exact⟨a,xs,e,hs _ _ h1,RDs.tups hs (by simpa only [D.noL] using n) (by simpa only [D.pl] using p) h2⟩
 | .lst ds,_,n,_,h=>by simp[D.noL]at n
 | .dk _ ds,_,n,_,h=>by simp[D.noL]at n
 | .dt _ ds,_,n,_,h=>by simp[D.noL]at n
 | .dn _ ds,_,n,_,h=>by simp[D.noL]at n
 | .exc c fs,_,_,p,h=>by simp[D.pl]at p
 | .scr ns,_,_,p,h=>by simp[D.pl]at p
theorem RDs.tups{K:Frag}{H H':Hp}(hs:∀b xs,H b=some (.tup xs)->H' b=some (.tup xs)):∀{ds:List D}{xs:List V},i3 ds=true->pls ds=true->RDs K H ds xs->RDs K H' ds xs
 | [],_,_,_,h=>by simp only[RDs]at h⊢;exact h
 |d::ds,_,n,p,h=>by simp only[RDs]at h⊢;simp only[i3,gq]at n;simp only[pls,gq]at p;obtain⟨x,r,e,h1,h2⟩:=h;exact⟨x,r,e,RD.tups hs n.1 p.1 h1,RDs.tups hs n.2 p.2 h2⟩
end
open Classical in
noncomputable def seeT(He H H2:Hp):Hp:=fun b=>if He b=none/\(H b=none\/∃xs,H2 b=some (.tup xs)) then H2 b else He b
def yH(h0:He b=none)(h:H b=none):seeT He H H2 b=H2 b:=by unfold seeT;rw[ξ ⟨h0,.inl h⟩]
def yG(h0:Same He H)(s:Same H H2)(h:H2 b=some (.tup xs)):seeT He H H2 b=some (.tup xs):=by
 unfold seeT;cases q:He b with
 |none=>rw[ξ ⟨rfl,.inr ⟨xs,h⟩⟩];exact h
 |some o=>rw[ψ (fun z=>nomatch z.1),<-h,s _ _ (h0 _ _ q)]
def yF(h0:Same He H)(s:Same H H2):Ext He H (seeT He H H2) H2:=by
 refine⟨fun b o q=>?_,fun b o q=>?_,fun b n q=>?_⟩
 . unfold seeT;rw[ψ (fun z=>by rw[q]at z;exact nomatch z.1)];exact q
 . unfold seeT at q;split at q
   . exact q
   . exact s _ _ (h0 _ _ q)
 . unfold seeT;split
   . rename_i z;rcases z.2 with z |⟨xs,z⟩
     . exact absurd z n
     . exact .inr ⟨xs,z⟩
   . exact .inl q
def Out.exc{K:Frag}{He H H2:Hp}{x:Ex}{a C:Addr}{od:Option Addr}(e1:nsIn K mainGlobals (Str.ofString x.cls)=some (some (.ref C)))(h0:Same He H)(s:Same H H2)(ha:H2 a=none)(nd:∀dx,od=some dx->H dx=none)(xf:XFs K x od H2):Out K false He H (.exc x.cls x.fs) (.ref a) (upd H2 a (C3 a C od)):=by
 have sm:Same H2 (upd H2 a (C3 a C od)):=Same.upd_new ha;rcases xf with e |⟨dx,vs,ob,h1,h2,h3,h4⟩
 . have e2:Ext He H He H2:=⟨Same.refl _,h0.trans s,fun _ _ z=>.inl z⟩;exact .val (s.trans sm) (e2.trans s (.new (h0.trans s) ha)) (by simp only[RD];exact⟨a,od,_,rfl,⟨C,e1,rfl⟩,j9,.inl e⟩)
 . have hd:=nd dx h1;have e2:Ext He H (seeT He H H2) H2:=yF h0 s;have aP:dx≠a:=fun z=>by rw[z,ha]at h2;cases h2
   have tk:∀b xs,H2 b=some (.tup xs)->upd (seeT He H H2) a (C3 a C od) b=some (.tup xs):=fun b xs q=>by rw[d8 (fun z=>by rw[z,ha]at q;cases q)];exact yG h0 s q
   exact .val (s.trans sm) (e2.trans s (.new e2.2.1 ha)) (by simp only[RD];exact⟨a,od,_,rfl,⟨C,e1,rfl⟩,j9,.inr ⟨dx,vs,ob,h1,by rw[d8 aP,yH (Hr h0 hd) hd];exact h2,h3,RDs.tups tk h3.1 h3.2 h4⟩⟩)
structure Tbl(K:Frag)(cn:String)(Dd:Addr)(bmB:List Value)(newId:String)(tb:String->Option Bool):Prop where
 dn:nsIn K mainGlobals (Str.ofString cn)=some (some (.ref Dd))
 dq:XCl K Dd bmB newId
 cs:∀c b,tb c=some b->∃C,nsIn K mainGlobals (Str.ofString c)=some (some (.ref C))/\XCl K C bmB newId/\mroIn K C (.ref Dd)=some b
def qw{K:Frag}{h:Heap}{C:Addr}{v:Value}{b:Bool}{nm q:Str}{N:Addr}{bs bm:List Value}{hdct:Bool}{sn:List Str}{sub:List Value}{ab:Bool}{col:Option Bool}{dd:Option Addr}{k0 k1 k2 k3 k5:Option Value}{newId:String}(X:K.In h)
  (hC:h.get? C=some (excClassObj nm q C N bs bm hdct sn sub ab col dd k0 k1 k2 k3 k5 newId)) (hm:mroIn K C v=some b):(Value.ref C::bm).contains v=b:=by
 obtain⟨cd,e1,e2⟩:=Option.bind_eq_some_iff.mp hm
 unfold PySem.W.clsIn at e1
 split at e1<;>cases e1
 rename_i ho
 have:=(X _ _ ho).symm.trans hC
 unfold excClassObj at this
 cases this
 split at e2
 . cases e2
 . exact Option.some.inj e2
section
variable {X:Cx}{EX:XW}{fr:Bool}{cn:String}{Dd:Addr}{bmB:List Value}{newId:String}{tb:String->Option Bool}{cp iZ:Pos}{ig:Stmt}{suite:List Stmt}{rest:List ExceptHandler}{g:DS->SR}{hd:HD}{n:Str}{i:Nat}
def Qg:QH X EX fr [] Ab:=⟨fun _ _ _ _ _ _ _ _ _ _ _ _ _ _ _ _ _ _ _ _ _ _ _ _ _ _ _ h=>h.elim⟩
def Se{pins:List (Addr×Obj)}{σ:St}{H1:Hp}{s1:Shared}{C a:Addr}{od:Option Addr}{H2:Hp}{s2:Shared}{B:Heap}{T:Addr}{a0:Value}{h5:Heap}{x:Ex}{b:Bool}{R:Result->Shared->Prop}(Tb:Tbl X.K cn Dd bmB newId tb)(aU:bmB.contains (.type "BaseException")=true)(hg:Gl X (Str.ofString cn))(L:Lnd5 X pins σ H1 s1 C a od H2 s2 B T a0 h5)
  (gr:X.mg (Str.ofString x.cls)=some (.ref C)) (hb:tb x.cls=some b) (h:R (.ok (if b then .brk else .next)) { s2 with heap:=h5 }) (aA:(Str.ofString cn==("__debug__":Str))=false) :
  codeAny (model X.prog X.w) (X.A.mark (some (.ref a))) (.handlers (.ref a) [.ExceptHandler (some (.Name (Str.ofString cn) cp)) none [] iZ] X.env) R { s2 with heap:=h5 }:=by
 obtain⟨I5,sm⟩:=L.inv
 have hm:X.mg (Str.ofString cn)=some (.ref Dd):=IT L.I.ok.mod.kin L.I.ok.mod.glob Tb.dn
 obtain⟨C',e1,e2,e3⟩:=Tb.cs _ _ hb
 have mr:=IT L.I.ok.mod.kin L.I.ok.mod.glob e1
 rw[gr]at mr
 cases mr
 obtain⟨oe,vs,he,hc,cJ,_⟩:=L.fl.first
 have KI:X.K.In h5:=I5.kIn
 obtain⟨bm,N,nm,qn,bs,hdct,sn,sub,ab,col,dd,k0,k1,k2,k3,k5,hC,TL⟩:=Up KI e2
 obtain⟨DT,N2,DU,DV,DW,tJ,DX,DB,DY,DC,mP,j0,j1,j2,j3,j5,hD,uK⟩:=Up KI Tb.dq
 refine codeAny_handlers_test (X3 (X:=X.held (.ref a)) (I5.held _) hg hm ?_ aA)
 exact zB hC hD he hc (uK.hasType aU) (by rw[qw KI hC e3];exact h)
def Pn(Tb:Tbl X.K cn Dd bmB newId tb)(aU:bmB.contains (.type "BaseException")=true)(hg:Gl X (Str.ofString cn))(hN:X.N.Nodup)(hi:X.N[i]?=some n)(hk:X.env.scope.names.lookup n=some .local)(hs:∀e,QB (X.held e) F0 fr (ig::suite) g)(hr:QH X EX fr rest hd)(aA:(Str.ofString cn==("__debug__":Str))=false:=by decide) :
  QH X EX fr (.ExceptHandler (some (.Name (Str.ofString cn) cp)) (some n) (ig::suite) iZ::rest) (hAs tb i g hd):=by
 refine⟨fun pins σ H1 s1 C a od H2 s2 B T a0 h5 De Hc Hb H0 ρ x E H sH nd xf L gr R h=>?_⟩
 unfold hAs at h
 refine wpAny_handleBy_cons ?_ (by intro q;cases q)
 cases hb:tb x.cls with
 |none=>rw[hb]at h;exact h.elim
 |some b=>
  rw[hb]at h
  refine Se Tb aU hg L gr hb ?_ aA
  cases b with
  |false=>exact hr.h pins σ H1 s1 C a od H2 s2 B T a0 h5 De Hc Hb H0 ρ x E H sH nd xf L gr R h
  |true=>
   refine codeAny_handlers_suite_as (L.again fun h6 L6=>?_)
   obtain⟨I6,sm⟩:=L6.inv
   refine Ew I6 hN hi (.inl hk) (v:=.ref a) rfl (fun s3 I3=>?_) (.inr hk)
   obtain⟨C',e1,e2,e3⟩:=Tb.cs _ _ hb
   have mr:=IT L.I.ok.mod.kin L.I.ok.mod.glob e1
   rw[gr]at mr
   cases mr
   have o:Out X.K false (HeOf [] ρ σ H0 H) H (.exc x.cls x.fs) (.ref a) (upd H2 a (C3 a C od)):=.exc e1 (R.heH []) sH L.ha nd xf
   obtain⟨aQ,R',uL⟩:=R.out o
   have R3:=R'.put uL i
   refine EU ((hs (.ref a)).h pins s3 _ _ (gD De i) (I3.held (.ref a)) ⟨Hc,Hb,aQ,_,F0.same _,R3,h.gone⟩) (fun f s4 q=>?_) fun _ _ z=>z.elim
   cases f with
   |next=>obtain⟨ag,H',I',q⟩:=q;exact Ec (I'.unheld L.I.ok) hN hi hk fun s5 I5=>⟨_,H',I5,q⟩
   |brk=>obtain⟨ag,H',I',q⟩:=q;exact Ec (I'.unheld L.I.ok) hN hi hk fun s5 I5=>⟨_,H',I5,q⟩
   |cont=>obtain⟨ag,H',I',q⟩:=q;exact Ec (I'.unheld L.I.ok) hN hi hk fun s5 I5=>⟨_,H',I5,q⟩
   |ret u=>obtain⟨v,ag,H',I',rv,q⟩:=q;exact Ec (I'.unheld L.I.ok) hN hi hk fun s5 I5=>⟨v,_,H',I5,rv,q⟩
def Pm(Tb:Tbl X.K cn Dd bmB newId tb)(aU:bmB.contains (.type "BaseException")=true)(hg:Gl X (Str.ofString cn))(hs:∀e,QB (X.held e) F0 fr (ig::suite) g)(hr:QH X EX fr rest hd)(aA:(Str.ofString cn==("__debug__":Str))=false:=by decide) :
  QH X EX fr (.ExceptHandler (some (.Name (Str.ofString cn) cp)) none (ig::suite) iZ::rest) (hNo tb g hd):=by
 refine⟨fun pins σ H1 s1 C a od H2 s2 B T a0 h5 De Hc Hb H0 ρ x E H sH nd xf L gr R h=>?_⟩
 unfold hNo at h
 refine wpAny_handleBy_cons ?_ (by intro q;cases q)
 cases hb:tb x.cls with
 |none=>rw[hb]at h;exact h.elim
 |some b=>
  rw[hb]at h
  refine Se Tb aU hg L gr hb ?_ aA
  cases b with
  |false=>exact hr.h pins σ H1 s1 C a od H2 s2 B T a0 h5 De Hc Hb H0 ρ x E H sH nd xf L gr R h
  |true=>
   refine codeAny_handlers_suite (L.again fun h6 L6=>?_)
   obtain⟨I6,sm⟩:=L6.inv
   refine EU ((hs (.ref a)).h pins _ _ _ De (I6.held (.ref a)) ⟨Hc,Hb,H0,ρ,F0.same _,R.grow (sH.trans sm),h.noE⟩) (fun f s4 q=>?_) fun _ _ z=>z.elim
   cases f with
   |next=>obtain⟨ag,H',I',q⟩:=q;exact⟨ag,H',I'.unheld L.I.ok,q⟩
   |brk=>obtain⟨ag,H',I',q⟩:=q;exact⟨ag,H',I'.unheld L.I.ok,q⟩
   |cont=>obtain⟨ag,H',I',q⟩:=q;exact⟨ag,H',I'.unheld L.I.ok,q⟩
   |ret u=>obtain⟨v,ag,H',I',rv,q⟩:=q;exact⟨v,ag,H',I'.unheld L.I.ok,rv,q⟩
end
end L2
namespace L2
open PySem PySem.Spec PyProof.Rows
open PySem.Calls
section
variable {prog:Program}{w:World}{A:Around}{E:Value->Shared->Prop}{h:Heap}{g:Array GenState}{d:Drawn}{t:Nat}{os:OsState}{K:Frag}{C a:Addr}{o:Obj}
def E4(L:Looks M h m r)(q:Q r ⟨h,g,d,t,os⟩):wpAny M A m Q E ⟨h,g,d,t,os⟩:=L A Q E _ (fun _ _ z=>z) q
def y3h{R:Result->Shared->Prop}(X:K.In h)(hx:h.get? a=some o)(hc:o.cls=.ref C)(hm:mroIn K C (.type "object")=some true)(hq:R (.ok (.ret (.ref C))) ⟨h,g,d,t,os⟩) :
  codeAny (model prog w) A (.call (.builtin "getset_descriptor.__get__") ⟨[.builtin "object.__class__",.ref a,.ref C],[]⟩) R ⟨h,g,d,t,os⟩:=by
 have sG:(⟨h,g,d,t,os⟩:Shared).TypeIs (.builtin "object.__class__") "getset_descriptor":=ID
 have L1:Looks (model prog w) h (isSubtype (.ref C) (.type (".".intercalate ("object.__class__".cutAt '.').dropLast))) true:=by rw[PySem.F.owner_object_class];exact looks_mroIn X hm
 refine Ic PySem.F.slot_gs_get.plain PySem.F.entry_gs_get (PySem.F.slot_gs_get.check _ _ _ _ _ _ _ _ sG (PySem.F.args_gs_get _ _ _) ?_)
 repeat (any_goals (first |assumption | (with_reducible refine HC hx ?_;rw[hc]) |with_reducible refine E4 L1 ?_ |wp_step))
 refine⟨Code.quiet_builtin _ (by decide +kernel),IN PySem.F.entry_object_class ?_⟩
 repeat (any_goals (first |assumption | (with_reducible refine HC hx ?_;rw[hc]) |wp_step))
def wJ(X:K.In h)(hx:h.get? a=some o)(hc:o.cls=.ref C)(hm:mroIn K C (.type "object")=some true)(dO:PySem.W.findIn K (.ref C) "__class__"=some (some (.builtin "object.__class__")))(hq:Q (.done (.ret (.ref C))) ⟨h,g,d,t,os⟩) :
  wpAny (model prog w) A (Builtin.«object.__getattribute__» ⟨[.ref a,.str "__class__" tk],[]⟩) Q E ⟨h,g,d,t,os⟩:=by
 have sG:(⟨h,g,d,t,os⟩:Shared).TypeIs (.builtin "object.__class__") "getset_descriptor":=ID
 have L2:=looks_findIn (M:=model prog w) X dO
 have f5:=ID
 have f6:=PySem.F.slot_gs_get.lookup
 have f7:=PySem.F.slot_gs_set.lookup
 repeat (any_goals (first |assumption | (with_reducible refine HC hx ?_;rw[hc]) |with_reducible refine E4 L2 ?_ |wp_step))
 refine y3h X hx hc hm ?_
 repeat (any_goals (first |assumption |wp_step))
def Um(X:K.In h)(hx:h.get? a=some o)(hc:o.cls=.ref C)(hB:mroIn K C (.type "BaseException")=some true)(hq:Q () ⟨h,g,d,t,os⟩):wpAny M A (checkBuiltinCall "BaseException.__getattribute__" ⟨[.ref a,nO],[]⟩) Q E ⟨h,g,d,t,os⟩:=by
 have hk:builtinKind "BaseException.__getattribute__"=some .slot:=by decide +kernel
 have mF:splitId "BaseException.__getattribute__"=some ("BaseException","__getattribute__"):=by decide +kernel
 have ha:=PySem.F.args_bexc_ga (.ref a) nO;have L1:=looks_mroIn (M:=M) X hB;simp only[checkBuiltinCall,hk,mF];refine δ ?_
 . unfold isInstance;repeat (first | (with_reducible refine HC hx ?_;rw[hc]) |with_reducible refine E4 L1 ?_ |wp_step)
   exact hq
def qu{tk:Tok}{R:Result->Shared->Prop}(X:K.In h)(hx:h.get? a=some o)(hc:o.cls=.ref C)(hm:mroIn K C (.type "object")=some true)(hB:mroIn K C (.type "BaseException")=some true)(dO:PySem.W.findIn K (.ref C) "__class__"=some (some (.builtin "object.__class__")))(hq:R (.ok (.ret (.ref C))) ⟨h,g,d,t,os⟩) :
  codeAny (model prog w) A (.call (.builtin "BaseException.__getattribute__") ⟨[.ref a,.str "__class__" tk],[]⟩) R ⟨h,g,d,t,os⟩:=
 Ic Ij.ga.plain PySem.F.entry_bexc_ga (Um X hx hc hB (wJ X hx hc hm dO hq))
def y7a(X:K.In h)(hx:h.get? a=some o)(hc:o.cls=.ref C)(hm:mroIn K C (.type "object")=some true)(hB:mroIn K C (.type "BaseException")=some true)(dO:PySem.W.findIn K (.ref C) "__class__"=some (some (.builtin "object.__class__")))
  (gY:PySem.W.findIn K (.ref C) "__getattribute__"=some (some (.builtin "BaseException.__getattribute__"))) (gZ:PySem.W.findIn K (.ref C) "__getattr__"=some none) (hq:Q (.ref C) ⟨h,g,d,t,os⟩):wpAny (model prog w) A (getAttrBy (.ref a) (.str "__class__" tk) false) Q E ⟨h,g,d,t,os⟩:=by
 have L1:=looks_findIn (M:=model prog w) X gY
 have L2:=looks_findIn (M:=model prog w) X gZ
 have f3:=(Ij).ga.bind (.ref a)
 have iD:(Value.builtin "BaseException.__getattribute__"==Value.builtin "object.__getattribute__")=false:=by decide +kernel
 have sI:(onTheHeap (Value.ref C)&&Value.builtin "BaseException.__getattribute__"==Value.builtin "object.__getattribute__")=false:=by rw[iD];rfl
 repeat (any_goals (first |assumption | (with_reducible refine HC hx ?_;rw[hc]) |with_reducible refine E4 L1 ?_ |with_reducible refine E4 L2 ?_ |wp_step))
 refine qu X hx hc hm hB dO ?_
 repeat (any_goals (first |assumption |wp_step))
def wI(X:K.In h)(hx:h.get? a=some o)(hc:o.cls=.ref C)(hm:mroIn K C (.type "object")=some true)(hB:mroIn K C (.type "BaseException")=some true)(dO:PySem.W.findIn K (.ref C) "__class__"=some (some (.builtin "object.__class__")))
  (gY:PySem.W.findIn K (.ref C) "__getattribute__"=some (some (.builtin "BaseException.__getattribute__"))) (gZ:PySem.W.findIn K (.ref C) "__getattr__"=some none) (hq:Q (some (.ref C)) ⟨h,g,d,t+1,os⟩):wpAny (model prog w) A (getAttr? (.ref a) "__class__") Q E ⟨h,g,d,t,os⟩:=by
 unfold getAttr? getAttrBy?
 repeat (any_goals (first |assumption |with_reducible apply y7a X hx hc hm hB dO gY gZ |wp_step))
end
structure XF(K:Frag)(C:Addr):Prop where
 ob:mroIn K C (.type "object")=some true
 be:mroIn K C (.type "BaseException")=some true
 cl:PySem.W.findIn K (.ref C) "__class__"=some (some (.builtin "object.__class__"))
 ga:PySem.W.findIn K (.ref C) "__getattribute__"=some (some (.builtin "BaseException.__getattribute__"))
 gt:PySem.W.findIn K (.ref C) "__getattr__"=some none
def XF.cls{K:Frag}{C:Addr}(F:XF K C):∃c' d' cd sl,K.lookup C=some ⟨c',d',.cls cd,sl⟩:=by obtain⟨cd,e1,e2⟩:=Option.bind_eq_some_iff.mp F.ob;unfold PySem.W.clsIn at e1;split at e1<;>cases e1;rename_i ho;exact⟨_,_,_,_,ho⟩
def Lq{K:Frag}{C a:Addr}(F:XF K C):PySem.W.KitX K (.ref a) (.ref C) (fun h=>∃ob,h.get? a=some ob/\ob.cls=.ref C) where
 ty:=fun M h X ⟨o,h1,h2⟩=>h2 ▸ (PySem.W.Looks.ld h1).andThen .now
 it:=fun _ _ X _=>by obtain⟨c',d',cd,sl,ho⟩:=F.cls;intro A' Q' E' s' k q;unfold isType loadHead;exact δ (wpAny_loadPart (k _ _ (X _ _ ho)) (ω q))
 ne:=fun h tp dd its n sl X mv=>by
  obtain⟨c',d',cd,sl,ho⟩:=F.cls;refine Bool.eq_false_iff.mpr fun q=>?_
  have e:C=tp:=Value.ref.inj (Iv.mp q);subst e;have z:=(X _ _ ho).symm.trans mv;cases z
 ca:=fun {prog w A E Q s} X ⟨o,hx,hc⟩ k=>by obtain⟨h,g,d,t,os⟩:=s;exact wI X hx hc F.ob F.be F.cl F.ga F.gt k
def Pl(K:Frag):List V->Hp->VK->Prop:=fun xs H Q=>match xs with
 | [.ref a,.ref p]=>∃C od b,H a=some (C3 a C od)/\XF K C/\(kitOne K (.ref C) (.ref p)=some b\/∃Ds:List Addr,H p=some (.tup (Ds.map V.ref))/\PySem.W.kitAny K (.ref C) (Ds.map Value.ref)=some b)/\Q (.bl b) H
 | [.ref a,.ty T]=>∃C od b,H a=some (C3 a C od)/\XF K C/\kitOne K (.ref C) (.type T)=some b/\Q (.bl b) H
 |_=>False
theorem Xk:∀{Ds:List Addr}{us:List Value},Vals (Ds.map V.ref) us->us=Ds.map Value.ref
 | [],_,.nil=>rfl
 |_::_,_,.cons r t=>by rw[Xk t,show _=_ from r];rfl
def y3j:CallR X (.builtin "isinstance") (Pl X.K):=by
 intro pins s σ H xs us Q I r h;unfold Pl at h;split at h
 . rename_i a p;obtain⟨C,od,b,ha,F,hk,q⟩:=h;cases r with
   |cons r1 r=>cases r with
    |cons r2 r=>
     cases r
     cases (show _=_ from r1)
     cases (show _=_ from r2)
     obtain⟨⟨ob,o1,o2,_⟩,_⟩:=I.hok a _ ha
     rcases hk with hk |⟨Ds,hp,hk⟩
     . exact kia_one (Lq F) I.kIn ⟨ob,o1,o2⟩ hk (fun z=>by cases z) fun tk=>⟨.bl b,H,I.tok tk,rfl,q⟩
     . obtain⟨_,its,rv,ot,n,t1,⟨t2,t3⟩,_⟩:=I.hok p _ hp;obtain⟨oc,od,uM,osl⟩:=ot;dsimp only at t1 t3;subst t1 t3;rw[Xk rv]at n;exact PySem.W.kia_tup (Lq F) I.kIn ⟨ob,o1,o2⟩ n hk (fun z=>by cases z) fun tk=>⟨.bl b,H,I.tok tk,rfl,q⟩
 . rename_i a T;obtain⟨C,od,b,ha,F,hk,q⟩:=h;cases r with
   |cons r1 r=>cases r with
    |cons r2 r=>
     cases r
     cases (show _=_ from r1)
     cases (show _=_ from r2)
     obtain⟨⟨ob,o1,o2,_⟩,_⟩:=I.hok a _ ha
     exact kia_one (Lq F) I.kIn ⟨ob,o1,o2⟩ hk (fun z=>by cases z) fun tk=>⟨.bl b,H,I.tok tk,rfl,q⟩
 . exact h.elim
noncomputable def j6(tb:String->Option Bool):D->Option D
 | .exc c _=>(tb c).map .bl
 |_=>none
structure Bel(K:Frag)(y:Value)(tb:String->Option Bool):Prop where
 h:∀c b,tb c=some b->∃C,nsIn K mainGlobals (Str.ofString c)=some (some (.ref C))/\XF K C/\kitOne K (.ref C) y=some b
def RD.exc{K:Frag}{H:Hp}{c:String}{fs:List D}{v:V}(r:RD K H (.exc c fs) v):∃a C od,v=.ref a/\nsIn K mainGlobals (Str.ofString c)=some (some (.ref C))/\H a=some (C3 a C od)/\XFs K ⟨c,fs⟩ od H:=by simp only[RD]at r;obtain⟨a,od,o,e,⟨C,h1,h2⟩,h3,h4⟩:=r;subst h2;exact⟨a,C,od,e,h1,h3,h4⟩
section
variable {X:Cx}{EX:XW}{a b:Expr}{pos p:Pos}{x:Str}{f:DE->R D}{tb:String->Option Bool}
def y3k{K:Frag}{σ:St}{H:Hp}{Q:VK}{y:V}{yv:Value}(hy:(∃Dd,y=.ref Dd/\yv=.ref Dd)\/∃T,y=.ty T/\yv=.type T)(B:Bel K yv tb)(h:TEd K EX false (eUn (j6 tb) f) σ H Q):tCB (Pl K) (F9 (TEd K EX false f) (F9 (tC y) Aj)) σ H Q:=by
 obtain⟨sx,ρ,H0,s,e,h⟩:=h;unfold eUn at h;rw[Rk.bind]at h;refine TEd.go sx s e h fun d h v H1 ao s1 e1 r1=>?_
 obtain⟨z,hz,h⟩:=h.of;cases d<;>simp only[j6]at hz<;>first |cases hz |skip
 rename_i c _;obtain⟨b,hb,rfl⟩:=FM.mp hz;obtain⟨a,C,od,rfl,hn,ha,_⟩:=r1.exc;obtain⟨C',h1,h2,h3⟩:=B.h c b hb;rw[hn]at h1;cases h1;have q:=h (.bl b) H1 (.val s1 e1 (by simp only[RD]));rcases hy with⟨Dd,rfl,rfl⟩ |⟨T,rfl,rfl⟩
 . exact⟨C,od,b,e1.2.1 _ _ ha,h2,.inl h3,q⟩
 . exact⟨C,od,b,e1.2.1 _ _ ha,h2,h3,q⟩
def x3(hg:Gl X x)(hm:X.mg x=none)(hv:bootBuiltins x=some (.builtin "isinstance"))(ha:QE X EX false a f)(hb:PE X b (tC y))(hy:(∃Dd,y=.ref Dd/\yv=.ref Dd)\/∃T,y=.ty T/\yv=.type T)(B:Bel X.K yv tb)(hn:x≠"__name__":=by decide)(aA:(x==("__debug__":Str))=false:=by decide)
 (he:starEach [a,b] X.env=(false,eval a X.env)::starEach [b] X.env:=by rfl) (hpl:(backTo pos (starEach [b] X.env)).any (·.1)=false:=by rfl) (hs:starEach [b] X.env=(false,eval b X.env)::starEach [] X.env:=by rfl) :
 QE X EX false (.Call (.Name x p) [a,b] [] pos) (eUn (j6 tb) f):=⟨(Ma y3j hg hm hv (P7 ha.h (P7 hb pa_nil hs) he) hn aA he hpl).imp fun _ _ _ q=>y3k hy B q⟩
end
end L2
namespace L2
open PySem PySem.Spec PyProof.Rows
def zg7(T:OwnTail h bmB tl)(hp:refuseLoop self what bmB=pure ()):refuseLoop self what tl=pure ():=by
 induction T with
 |base=>exact hp
 |own _ _ _ _ ih=>rw[refuseLoop_ref];exact ih
abbrev exN(C t:Addr)(od:Option Addr):Obj:={ cls:=.ref C,dict:=od,data:=.fields #[.ref t,.none,.none,.none,.bool false,.none] }
abbrev bmV:List Value:=[.type "ValueError",.type "Exception",.type "BaseException",.type "object"]
section
open PySem.AutoSeq1 (wpAny_loadPart')
variable {prog:Program}{w:World}{A:Around}{E:Value->Shared->Prop}{h:Heap}{g:Array GenState}{d:Drawn}{tk:Nat}{os:OsState}{K:Frag}{x C t:Addr}{name:Str}{v:Value}
def Wb(X:K.In h)(q:z9 K C bmV "ValueError.__new__"=true)(hx:h.get? x=some (exN C t od))(k:Q () ⟨h,g,d,tk,os⟩):wpAny (model prog w) A (Builtin.ObjectAttr.refuseIfOverridden (.ref x) "__setattr__") Q E ⟨h,g,d,tk,os⟩:=by
 obtain⟨bm,N,nm,qn,bs,sn,sub,ab,col,dd,k0,k1,k2,k3,k5,hC,T⟩:=M7 X q;have e:refuseLoop (.ref x) "__setattr__" (.ref C::bm)=pure ():=(refuseLoop_ref _ _ _ _).trans (zg7 T (PySem.F.store_ValueError.passes _));rw[refuse_eq]
 wp_walk using FH hx,wpAny_mroOf_exc hC
 exact k
def yE(X:K.In h)(q:z9 K C bmV "ValueError.__new__"=true)(hx:h.get? x=some (exN C t none))
  (k:∀hh,hh.get? x=some (exN C t (some h.objs.size))->hh.Ns1 h.objs.size (fun _=>none)->(∀b o,b≠x->h.get? b=some o->hh.get? b=some o)->Q (some h.objs.size) ⟨hh,g,d,tk,os⟩) :
  wpAny (model prog w) A (Builtin.ObjectAttr.ownDictForStores (.ref x)) Q E ⟨h,g,d,tk,os⟩:=by
 obtain⟨bm,N,nm,qn,bs,sn,sub,ab,col,dd,k0,k1,k2,k3,k5,hC,T⟩:=M7 X q
 have ne:h.objs.size≠x:=fun z=>χ _ (z ▸ π hx)
 wp_walk using FH hx,FH hC
 have d2:((h.push { cls:=.type "dict",data:=.dict #[] }).update x fun o=>{ cls:=o.cls,dict:=some h.objs.size,data:=o.data,slots:=o.slots }).get? h.objs.size=some { cls:=.type "dict",data:=.dict #[] }:=by rw[IS _ _ _ _ ne,Ψ _ rfl]
 refine k _ (Ia _ (τ _ hx) rfl) (.of_empty ⟨_,#[],_,d2,rfl,(fun _ z=>nomatch (Array.not_mem_empty _ z)),fun _=>rfl⟩) fun b o hb z=>?_
 rw[IS _ _ _ _ hb]
 exact τ _ z
def yD(n2:h.Ns1 a fun _=>none)(k:∀h' n,h'.Ns1 a (fun y=>if y=name then some v else none)->(∀b o,b≠a->h.get? b=some o->h'.get? b=some o)->Q (.done (.ret .none)) ⟨h',g,d,n,os⟩) :
  wpAny (model prog w) A (Builtin.ObjectAttr.storeInDict a (.str name u) name v) Q E ⟨h,g,d,tk,os⟩:=by
 unfold Builtin.ObjectAttr.storeInDict Builtin.ObjectAttr.newKeyGuard
 have put:wpAny (model prog w) A (nsSet a name v) (fun _ s=>∃h' n,s=⟨h',g,d,n,os⟩/\h'.Ns1 a (fun y=>if y=name then some v else none)/\Heap.SameBut a h h') E ⟨h,g,d,tk,os⟩:=wpAny_nsSet1 n2 fun h' n3 s3=>⟨h',_,rfl,n3,s3⟩
 wp_walk using thn put
 rintro _ _ ⟨h',n,rfl,n3,s3⟩
 obtain⟨o,es,ep,e1,e2,e3⟩:=n3.count (Within.cons name v Within.nil)
 have le:es.size<=sizeLine+1:=EZ e3 (by simp[HQ])
 refine δ (wpAny_lookBehind e1 (e2 ▸ pastItsLine_dict le) ?_)
 wp_walk
 exact k h' n n3 fun b o hb z=>(s3.2 b hb).trans z
def zA(X:K.In h)(q:z9 K C bmV "ValueError.__new__"=true)(hx:h.get? x=some (exN C t none))(dE:PySem.W.findIn K (.ref C) name=some none)
  (k:∀h' n,h'.get? x=some (exN C t (some h.objs.size))->h'.Ns1 h.objs.size (fun y=>if y=name then some v else none)->(∀b o,b≠x->h.get? b=some o->h'.get? b=some o)->Q (.done (.ret .none)) ⟨h',g,d,n,os⟩) :
  wpAny (model prog w) A (Builtin.«object.__setattr__» ⟨[.ref x,.str name u,v],[]⟩) Q E ⟨h,g,d,tk,os⟩:=by
 have L:=looks_findIn (M:=model prog w) X dE
 have ne:x≠h.objs.size:=fun z=>χ _ (z ▸ π hx)
 have st:∀b,wpAny (model prog w) A (Builtin.ObjectAttr.storeInOwnDict (.ref x) (.ref C) (.str name u) name v b) Q E ⟨h,g,d,tk,os⟩:=fun b=>by
  have go:=yE (prog:=prog) (w:=w) (A:=A) (E:=E) (g:=g) (d:=d) (tk:=tk) (os:=os) X q hx (Q:=fun o s=>wpAny (model prog w) A (match o with |some d=>Builtin.ObjectAttr.storeInDict d (.str name u) name v |none=>Builtin.ObjectAttr.noDictFor (.ref x) (.ref C) name b) Q E s) fun hh x2 n2 o2=>yD n2 fun h' n n3 s3=>k h' n (s3 x _ ne x2) n3 fun b o hb z=>s3 b o (fun y=>χ _ (y ▸ π z)) (o2 b o hb z)
  unfold Builtin.ObjectAttr.storeInOwnDict;exact δ (ω (δ go))
 rw[PySem.W.osa_eq]
 refine δ (Wb X q hx ?_)
 wp_walk using FH hx,E4 L,st _
def qt(X:K.In h)(q:z9 K C bmV "ValueError.__new__"=true)(ci:mroIn K C (.type "object")=some true)(pC:PySem.W.findIn K (.ref C) "__setattr__"=some (some (.builtin "object.__setattr__")))(dE:PySem.W.findIn K (.ref C) name=some none)(hx:h.get? x=some (exN C t none))
  (k:∀h' n,h'.get? x=some (exN C t (some h.objs.size))->h'.Ns1 h.objs.size (fun y=>if y=name then some v else none)->(∀b o,b≠x->h.get? b=some o->h'.get? b=some o)->Q () ⟨h',g,d,n,os⟩) :
  wpAny (model prog w) A (setAttr (.ref x) name v) Q E ⟨h,g,d,tk,os⟩:=by
 have J:PySem.W.InstAt h x (exN C t none) C none:=⟨hx,rfl,rfl,trivial⟩
 have S:=PySem.F.store_object
 have sub:Looks (model prog w) h (isInstance (.ref x) (.type "object")) true:=J.type.andThen (looks_mroIn X ci)
 refine PySem.W.set_plain (s:=⟨h,g,d,tk,os⟩) X J pC (Ic S.slot.plain S.entry ?_)
 refine PySem.W.check_slot (s:=⟨h,g,d,tk+1,os⟩) (i:="object.__setattr__") (owner:="object") (n:="__setattr__") (self:=.ref x) (rest:=[.str name tk,v]) (kw:=[]) S.kind S.split sub (S.args (.ref x) (.str name tk) v) ?_
 exact zA X q hx dE fun h' n a b c=>k h' n a b c
def yC(X:K.In h)(q:z9 K C bmV "ValueError.__new__"=true)(hx:h.get? x=some (exN C t (some dx)))(k:Q (some dx) ⟨h,g,d,tk,os⟩) :
  wpAny (model prog w) A (Builtin.ObjectAttr.ownDictForStores (.ref x)) Q E ⟨h,g,d,tk,os⟩:=by
 obtain⟨bm,N,nm,qn,bs,sn,sub,ab,col,dd,k0,k1,k2,k3,k5,hC,T⟩:=M7 X q
 wp_walk using FH hx,FH hC
 exact k
def zz(n2:h.Ns1 a fun z=>if z=f then some y else none)(k:∀h' n,h'.Ns1 a (fun z=>if z=name then some v else if z=f then some y else none)->(∀b o,b≠a->h.get? b=some o->h'.get? b=some o)->Q (.done (.ret .none)) ⟨h',g,d,n,os⟩) :
  wpAny (model prog w) A (Builtin.ObjectAttr.storeInDict a (.str name u) name v) Q E ⟨h,g,d,tk,os⟩:=by
 unfold Builtin.ObjectAttr.storeInDict Builtin.ObjectAttr.newKeyGuard
 have put:wpAny (model prog w) A (nsSet a name v) (fun _ s=>∃h' n,s=⟨h',g,d,n,os⟩/\h'.Ns1 a (fun z=>if z=name then some v else if z=f then some y else none)/\Heap.SameBut a h h') E ⟨h,g,d,tk,os⟩:=wpAny_nsSet1 n2 fun h' n3 s3=>⟨h',_,rfl,n3,s3⟩
 wp_walk using thn put
 rintro _ _ ⟨h',n,rfl,n3,s3⟩
 obtain⟨o,es,ep,e1,e2,e3⟩:=n3.count (Within.cons name v (Within.cons f y Within.nil))
 have le:es.size<=sizeLine+1:=EZ e3 (by simp[HQ])
 refine δ (wpAny_lookBehind e1 (e2 ▸ pastItsLine_dict le) ?_)
 wp_walk
 exact k h' n n3 fun b o hb z=>(s3.2 b hb).trans z
def zj6(X:K.In h)(q:z9 K C bmV "ValueError.__new__"=true)(hx:h.get? x=some (exN C t (some dx)))(dE:PySem.W.findIn K (.ref C) name=some none)(n2:h.Ns1 dx fun z=>if z=f then some y else none)
  (k:∀h' n,h'.Ns1 dx (fun z=>if z=name then some v else if z=f then some y else none)->(∀b o,b≠dx->h.get? b=some o->h'.get? b=some o)->Q (.done (.ret .none)) ⟨h',g,d,n,os⟩) :
  wpAny (model prog w) A (Builtin.«object.__setattr__» ⟨[.ref x,.str name u,v],[]⟩) Q E ⟨h,g,d,tk,os⟩:=by
 have L:=looks_findIn (M:=model prog w) X dE
 have st:∀b,wpAny (model prog w) A (Builtin.ObjectAttr.storeInOwnDict (.ref x) (.ref C) (.str name u) name v b) Q E ⟨h,g,d,tk,os⟩:=fun b=>by have go:=yC (prog:=prog) (w:=w) (A:=A) (E:=E) (g:=g) (d:=d) (tk:=tk) (os:=os) X q hx (Q:=fun o s=>wpAny (model prog w) A (match o with |some d=>Builtin.ObjectAttr.storeInDict d (.str name u) name v |none=>Builtin.ObjectAttr.noDictFor (.ref x) (.ref C) name b) Q E s) (zz n2 k);unfold Builtin.ObjectAttr.storeInOwnDict;exact δ (ω (δ go))
 rw[PySem.W.osa_eq]
 refine δ (Wb X q hx ?_)
 wp_walk using FH hx,E4 L,st _
def wH(X:K.In h)(q:z9 K C bmV "ValueError.__new__"=true)(ci:mroIn K C (.type "object")=some true)(pC:PySem.W.findIn K (.ref C) "__setattr__"=some (some (.builtin "object.__setattr__")))(dE:PySem.W.findIn K (.ref C) name=some none)(hx:h.get? x=some (exN C t (some dx)))(n2:h.Ns1 dx fun z=>if z=f then some y else none)
  (k:∀h' n,h'.Ns1 dx (fun z=>if z=name then some v else if z=f then some y else none)->(∀b o,b≠dx->h.get? b=some o->h'.get? b=some o)->Q () ⟨h',g,d,n,os⟩) :
  wpAny (model prog w) A (setAttr (.ref x) name v) Q E ⟨h,g,d,tk,os⟩:=by
 obtain⟨od,es,ep,ho,DZ,_⟩:=id n2
 have J:PySem.W.InstAt h x (exN C t (some dx)) C (some od):=⟨hx,rfl,rfl,ho⟩
 have S:=PySem.F.store_object
 have sub:Looks (model prog w) h (isInstance (.ref x) (.type "object")) true:=J.type.andThen (looks_mroIn X ci)
 refine PySem.W.set_plain (s:=⟨h,g,d,tk,os⟩) X J pC (Ic S.slot.plain S.entry ?_)
 refine PySem.W.check_slot (s:=⟨h,g,d,tk+1,os⟩) (i:="object.__setattr__") (owner:="object") (n:="__setattr__") (self:=.ref x) (rest:=[.str name tk,v]) (kw:=[]) S.kind S.split sub (S.args (.ref x) (.str name tk) v) ?_
 exact zj6 X q hx dE n2 fun h' n a b=>k h' n a b
end
end L2
namespace L2
open PySem PySem.Spec PyProof.Rows
section
open PySem.AutoSeq1 (wpAny_loadPart')
variable {prog:Program}{w:World}{A:Around}{E:Value->Shared->Prop}{h:Heap}{g:Array GenState}{d:Drawn}{tk:Nat}{os:OsState}{K:Frag}{C t:Addr}{v:Value}
def wG{rest:List Value}{fI:Addr}{Q:Fin->Shared->Prop}(X:K.In h)(q:z9 K C bmV "ValueError.__new__"=true)(hi:PySem.W.findIn K (.ref C) "__init__"=some (some (.ref fI)))(pD:typeIn K (.ref fI)=some (.type "function"))(cy:rest.length<=sizeLine)
  (k:∀h' e,Heap.MadeExcOf h h' e (.ref C) rest->wpAny (model prog w) A (call (.ref fI) (.ref e::rest)) (fun r s'=>r=.none/\Q (.done (.ret (.ref e))) s') E ⟨h',g,d,tk,os⟩) :
  wpAny (model prog w) A (Builtin.«type.__call__» ⟨.ref C::rest,[]⟩) Q E ⟨h,g,d,tk,os⟩:=by
 obtain⟨bm,N,nm,qn,bs,sn,sub,ab,col,dd,k0,k1,k2,k3,k5,hC,T⟩:=M7 X q
 have F:=FW
 obtain⟨h2,e2⟩:∃h2,h2=(h.push { cls:=.type "tuple",data:=.seq rest.toArray }).push (exN C h.objs.size none):=⟨_,rfl⟩
 have keep:∀b o,h.get? b=some o->h2.get? b=some o:=fun b o z=>by rw[e2];exact τ _ (τ _ z)
 have new:h2.get? (h.objs.size+1)=some (exN C h.objs.size none):=by have:=Ψ (h.push { cls:=.type "tuple",data:=.seq rest.toArray }) (o:=exN C h.objs.size none) rfl;rw[Heap.size_push]at this;rw[e2];exact this
 have X2:=X.keeps keep
 have L1:=looks_findIn (M:=model prog w) X2 hi
 have L2:=PySem.W.bind_fn (M:=model prog w) X2 (.ref (h.objs.size+1)) pD
 have mx:Heap.MadeExcOf h h2 (h.objs.size+1) (.ref C) rest:=⟨keep,IJ (Iz _),h.objs.size,new,IJ (ζ _),by rw[e2];exact τ _ (Ψ _ rfl)⟩
 have self:(Value.ref C::bm).contains (.ref C)=true:=by simp
 unfold Builtin.«type.__call__»
 wp_walk using FH hC,wpAny_madeBy_exc hC
 refine codeAny_call_builtin_code (Code.quiet_builtin _ F.quiet) (wpAny_check_new_subT F T hC (codeAny_exc_new_subT F T hC ?_ cy))
 have uN:∀{Q:Bool->Shared->Prop},Q true ⟨h2,g,d,tk,os⟩->wpAny (model prog w) A (isInstance (.ref (h.objs.size+1)) (.ref C)) Q E ⟨h2,g,d,tk,os⟩:=fun {Q} z=>by
  unfold isInstance
  wp_walk using FH new
  exact IR (keep _ _ hC) (by rw[self];exact z)
 have uO:∀{Q:Option Value->Shared->Prop},wpAny (model prog w) A (call (.ref fI) ([.ref (h.objs.size+1)]++rest)) (fun r=>Q (some r)) E ⟨h2,g,d,tk,os⟩->wpAny (model prog w) A (callSpecial? (.ref (h.objs.size+1)) "__init__" rest []) Q E ⟨h2,g,d,tk,os⟩:=fun {Q} z=>by
  unfold callSpecial? specialOf
  wp_walk using FH new,E4 L1,E4 L2,thn z
  exact fun _ _ y=>ω y
 unfold exN at e2
 rw[<-e2]
 refine δ (uN (δ (FA (uO (EU (k h2 _ mx) (fun r s' z=>?_) fun _ _ y=>y)))))
 obtain⟨rfl,y⟩:=z
 wp_walk
 exact y
def wF{rest:List Value}{fI:Addr}{Q:Value->Shared->Prop}(X:K.In h)(q:z9 K C bmV "ValueError.__new__"=true)(hi:PySem.W.findIn K (.ref C) "__init__"=some (some (.ref fI)))(pD:typeIn K (.ref fI)=some (.type "function"))(cy:rest.length<=sizeLine)
  (k:∀h' e,Heap.MadeExcOf h h' e (.ref C) rest->wpAny (model prog w) (A.under (.builtin "type.__call__" ⟨.ref C::rest,[]⟩)) (call (.ref fI) (.ref e::rest)) (fun r s'=>r=.none/\Q (.ref e) s') E ⟨h',g,d,tk,os⟩) :
  wpAny (model prog w) A (call (.ref C) rest) Q E ⟨h,g,d,tk,os⟩:=by
 obtain⟨bm,N,nm,qn,bs,sn,sub,ab,col,dd,k0,k1,k2,k3,k5,hC,T⟩:=M7 X q
 have t1:=tc_lookup
 have t2:=tc_bind (.ref C)
 have ty:(Shared.mk h g d tk os).TypeIs (.ref C) "type":=⟨_,hC,rfl⟩
 exact wpAny_call (codeAny_of_tree (by
  show wpAny (model prog w) _ (callAny (.ref C) ⟨rest,[]⟩) _ _ _;unfold callAny
  wp_walk using FH hC
  exact⟨rfl,codeAny_call_builtin_at (Code.quiet_builtin _ (by decide +kernel)) entry_typeCall (wpAny_check_type_call_sub hC (wG X q hi pD cy fun h' e m=>k h' e m))⟩))
def yB(q:z9 K C bmV "ValueError.__new__"=true)(hh:A.handled=none)
  (k:wpAny (model prog w) A y (fun v s=>∃e t od,v=.ref e/\K.In s.heap/\s.heap.get? e=some (exN C t od)/\E (.ref e) s) E s):wpAny (model prog w) A (raiseStmt env (some y) none) Q E s:=by
 unfold raiseStmt
 refine δ (thn k fun v s1 z=>?_)
 obtain⟨e,t,od,rfl,X,he,z⟩:=z
 obtain⟨bm,N,nm,qn,bs,sn,sub,ab,col,dd,k0,k1,k2,k3,k5,hC,T⟩:=M7 X q
 have be:(Value.ref C::bm).contains (.type "BaseException")=true:=by rw[List.contains_cons,T.hasType (X:="BaseException") (b:=true) (by decide)];rfl
 obtain⟨hp,g,d,tk,os⟩:=s1
 have uP:∀{Q:Bool->Shared->Prop},Q true ⟨hp,g,d,tk,os⟩->wpAny (model prog w) A (isSubtype (.ref C) (.type "BaseException")) Q E ⟨hp,g,d,tk,os⟩:=fun {Q} y=>IR hC (by rw[be];exact y)
 wp_walk using FH he,FH hC,uP
 exact wpAny_raiseNew_none hh z
end
end L2
namespace L2
open PySem PySem.Spec PyProof.Rows
noncomputable def w4(e C:Addr)(od:Option Addr):HO:=.ext fun h=>∃t,h.get? e=some { cls:=.ref C,dict:=od,data:=.fields #[.ref t,.none,.none,.none,.bool false,.none] }
def Ul(q:h.get? e=some { cls:=.ref C,dict:=od,data:=.fields #[.ref t,.none,.none,.none,.bool false,.none] }):ObjOk P w H h e (w4 e C od):=
 ⟨⟨t,q⟩,⟨_,q⟩,fun _ _ ⟨t,z⟩ k=>⟨t,k _ z⟩⟩
structure XI(K:Frag)(C:Addr)(f:Str):Prop where
 q:z9 K C bmV "ValueError.__new__"=true
 sa:PySem.W.findIn K (.ref C) "__setattr__"=some (some (.builtin "object.__setattr__"))
 na:PySem.W.findIn K (.ref C) f=some none
 ob:mroIn K C (.type "object")=some true
def spI(C:Addr)(fn:List Str):Sp:=fun vs H Q _=>∃e ys,vs=.ref e::ys/\ys.length=fn.length/\H e=some (w4 e C none)/\∀dx ob,H dx=none->Q .non (upd (upd H dx (.frz ob (.xd (fn.zip ys)))) e (w4 e C (some dx)))
section
variable {X:Cx}{A:Around}{E:Value->Shared->Prop}{pins:List (Addr×Obj)}{σ:St}{H:Hp}{s:Shared}{a C:Addr}{f f2:Str}{y y2:V}
def Qf(ry:RelV y u)(z:Str):RelO (List.lookup z [(f,y)]) (if z=f then some u else none):=by
 by_cases hy:z=f
 . subst hy;have hb:(z==z)=true:=HW z;simp only[List.lookup,hb,FQ];exact ry
 . have hb:(z==f)=false:=GD.mpr hy;simp only[List.lookup,hb,ψ hy];trivial
def y3l(aP:f2≠f)(ry:RelV y u)(uQ:RelV y2 u2)(z:Str):RelO (List.lookup z [(f,y),(f2,y2)]) (if z=f2 then some u2 else if z=f then some u else none):=by
 by_cases hy:z=f
 . subst hy;have hb:(z==z)=true:=HW z;simp only[List.lookup,hb,FQ,ψ (GN aP)];exact ry
 . have hb:(z==f)=false:=GD.mpr hy;by_cases pE:z=f2
   . subst pE;have iE:(z==z)=true:=HW z;simp only[List.lookup,hb,iE,FQ];exact uQ
   . have iE:(z==f2)=false:=GD.mpr pE;simp only[List.lookup,hb,iE,ψ hy,ψ pE];trivial
def zg8{u:Value}{Q:Unit->Shared->Prop}{F:Obj->HO}(hF:(∀ob,F ob=.frz ob (.xd [(f,y)]))\/∀ob,F ob=.xd [(f,y)])(I:Inv X pins σ H s)(e:H a=some (w4 a C none))(Z:XI X.K C f)(ry:RelV y u)
  (h:∀dx ob s',H dx=none->Inv X pins σ (upd (upd H dx (F ob)) a (w4 a C (some dx))) s'->Q () s'):wpAny (model X.prog X.w) A (setAttr (.ref a) f u) Q E s:=by
 obtain⟨⟨t,ho⟩,_⟩:=I.hok a _ e
 have hn:H s.heap.objs.size=none:=I.hok.fresh (ζ _)
 obtain⟨hp,g,d,tk,os⟩:=s
 refine qt I.kIn Z.q Z.ob Z.sa Z.na ho fun h' pF h1 h2 h3=>?_
 obtain⟨ob,es,ep,ci,cy⟩:=id h2
 refine h hp.objs.size ob _ hn (I.un (h':=h') (t':=pF) ⟨fun b o q n hb hx=>h3 b o (fun z=>?_) q,fun b o q n hb hx=>⟨o.slots,h3 b o (fun z=>?_) q⟩,fun b o q n hx=>?_,fun b o q hx=>?_,fun b xs q=>?_,fun b o u q=>?_,fun b ps q=>⟨#[],?_⟩⟩ fun b o q=>?_)
 . rw[z,e]at n;cases n
 . rw[z,e]at n;cases n
 . rw[d8 (fun z=>by rw[z,e]at n;cases n),d8 (ER (π q))];exact n
 . by_cases hb:b=a
   . subst hb;exact⟨_,h1⟩
   . exact⟨o,h3 b o hb q⟩
 . rw[d8 (fun z=>by rw[z,e]at q;cases q),d8 (fun z=>by rw[z,hn]at q;cases q)];exact q
 . rw[d8 (fun z=>by rw[z,e]at q;cases q),d8 (fun z=>by rw[z,hn]at q;cases q)];exact q
 . rw[d8 (fun z=>by rw[z,e]at q;cases q),d8 (fun z=>by rw[z,hn]at q;cases q)];simpa using q
 . by_cases hb:b=a
   . subst hb;rw[j9]at q;cases q;exact Ul h1
   . rw[d8 hb]at q;by_cases hd:b=hp.objs.size
     . subst hd;rw[j9]at q;cases q;rcases hF with hF |hF<;>rw[hF]
       . exact⟨ci,_,h2,Qf ry⟩
       . exact⟨_,h2,Qf ry⟩
     . rw[d8 hd]at q;refine(I.hok b o q).stay (fun c v hc z=>h3 c v (fun y=>?_) z) (fun c z=>?_) fun c xs z=>?_
       . rcases hc with rfl |hc
         . exact hb y
         . rw[y,e]at hc;cases hc
       . rw[d8 (fun y=>by rw[y,e]at z;cases z),d8 (fun y=>by rw[y,hn]at z;cases z)];exact z
       . rw[d8 (fun y=>by rw[y,e]at z;cases z),d8 (fun y=>by rw[y,hn]at z;cases z)];exact z
def zeq(I:Inv X pins σ H s)(e:H a=some (w4 a C (some dx)))(ed:H dx=some (.xd [(f,y)]))(aP:f2≠f)(Z:XI X.K C f2)(ry:RelV y2 u)
  (h:∀ob s',Inv X pins σ (upd H dx (.frz ob (.xd [(f,y),(f2,y2)]))) s'->Q () s'):wpAny (model X.prog X.w) A (setAttr (.ref a) f2 u) Q E s:=by
 obtain⟨⟨t,ho⟩,_⟩:=I.hok a _ e
 obtain⟨mA,bo,ij⟩:=I.hok dx _ ed
 obtain⟨hp,g,d,tk,os⟩:=s
 have hf:=ij f
 have hb:(f==f)=true:=HW f
 simp only[List.lookup,hb]at hf
 cases q':mA f with
 |none=>rw[q']at hf;exact hf.elim
 |some v=>
  rw[q']at hf
  have hf:RelV y v:=hf
  have em:mA=fun z=>if z=f then some v else none:=by
   funext z;by_cases hz:z=f
   . rw[hz,q',ξ rfl]
   . rw[ψ hz];have:=ij z;have hb:(z==f)=false:=GD.mpr hz;simp only[List.lookup,hb]at this;cases q2:mA z with
     |none=>rfl
     |some w=>rw[q2]at this;exact this.elim
  rw[em]at bo
  refine wH I.kIn Z.q Z.ob Z.sa Z.na ho bo fun h' pF h2 h3=>?_
  obtain⟨ob,es,ep,ci,cy⟩:=id h2
  refine h ob _ (I.un (h':=h') (t':=pF) ⟨fun b o q n hb hx=>h3 b o (fun z=>?_) q,fun b o q n hb hx=>⟨o.slots,h3 b o (fun z=>?_) q⟩,fun b o q n hx=>?_,fun b o q hx=>?_,fun b xs q=>?_,fun b o u q=>?_,fun b ps q=>⟨#[],?_⟩⟩ fun b o q=>?_)
  . rw[z,ed]at n;cases n
  . rw[z,ed]at n;cases n
  . rw[d8 (fun z=>by rw[z,ed]at n;cases n)];exact n
  . by_cases hb:b=dx
    . subst hb;exact⟨_,ci⟩
    . exact⟨o,h3 b o hb q⟩
  . rw[d8 (fun z=>by rw[z,ed]at q;cases q)];exact q
  . rw[d8 (fun z=>by rw[z,ed]at q;cases q)];exact q
  . rw[d8 (fun z=>by rw[z,ed]at q;cases q)];simpa using q
  . by_cases hb:b=dx
    . subst hb;rw[j9]at q;cases q;exact⟨ci,_,h2,y3l aP hf ry⟩
    . rw[d8 hb]at q;refine(I.hok b o q).stay (fun c v hc z=>h3 c v (fun y=>?_) z) (fun c z=>?_) fun c xs z=>?_
      . rcases hc with rfl |hc
        . exact hb y
        . rw[y,ed]at hc;cases hc
      . rw[d8 (fun y=>by rw[y,ed]at z;cases z)];exact z
      . rw[d8 (fun y=>by rw[y,ed]at z;cases z)];exact z
def y3m(C:Addr)(ta tv:TE)(f:Str)(F:V->Obj->HO):TS:=fun D σ H=>tv σ H fun y H1=>ta σ H1 fun x H2=>∃a,x=.ref a/\H2 a=some (w4 a C none)/\∀dx ob,H2 dx=none->D.nx σ (upd (upd H2 dx (F y ob)) a (w4 a C (some dx)))
def Uk(hF:(∀y ob,F y ob=.frz ob (.xd [(f,y)]))\/∀y ob,F y ob=.xd [(f,y)])(Z:XI X.K C f)(ha:PE X o ta)(hv:PE X value tv)(hs:swapsWith value (some (.Attribute o f dm)) pos.line X.env=pure false):PS X (.Assign [.Attribute o f dm] value pos) (y3m C ta tv f F):=by intro pins s σ H D I h;refine plainObj_wpAny_Assign_Attribute (thn (hv pins s σ H _ I h) fun u s1 ⟨y,H1,I1,ry,q⟩=>thn (ha pins s1 σ H1 _ I1 q) fun ov s2 ⟨x,H2,I2,rx,a,ex,ea,q2⟩=>?_) hs;subst ex;obtain rfl:ov=Value.ref a:=rx;exact zg8 (F:=F y) (hF.imp (fun z=>z y) fun z=>z y) I2 ea Z ry fun dx ob s3 hd I3=>⟨σ,_,I3,q2 dx ob hd⟩
def qr(C:Addr)(ta tv:TE)(f f2:Str):TS:=fun D σ H=>tv σ H fun y2 H1=>ta σ H1 fun x H2=>∃a dx y,x=.ref a/\H2 a=some (w4 a C (some dx))/\H2 dx=some (.xd [(f,y)])/\∀ob,D.nx σ (upd H2 dx (.frz ob (.xd [(f,y),(f2,y2)])))
def yA(aP:f2≠f)(Z:XI X.K C f2)(ha:PE X o ta)(hv:PE X value tv)(hs:swapsWith value (some (.Attribute o f2 dm)) pos.line X.env=pure false):PS X (.Assign [.Attribute o f2 dm] value pos) (qr C ta tv f f2):=by intro pins s σ H D I h;refine plainObj_wpAny_Assign_Attribute (thn (hv pins s σ H _ I h) fun u s1 ⟨y,H1,I1,ry,q⟩=>thn (ha pins s1 σ H1 _ I1 q) fun ov s2 ⟨x,H2,I2,rx,a,dx,y1,ex,ea,ed,q2⟩=>?_) hs;subst ex;obtain rfl:ov=Value.ref a:=rx;exact zeq I2 ea ed aP Z ry fun ob s3 I3=>⟨σ,_,I3,q2 ob⟩
def wE{P:Program}{w:World}{K:Frag}{mg:Str->Option Value}{base:Heap}{qual:Str}{st:Stmt}{fI:Addr}{fd:FuncData}{se p:Str}{p1 p2 p3 p4:Pos}{k:Nat}(F:Fun K "__init__" qual st fI fd)(S:FnScope [se,p] [se,p] (g0 st))(Z:XI K C f)
  (hb:C1 st=[.Assign [.Attribute (.Name se p1) f p2] (.Name p p3) p4]) (h1:Vis (g0 st) se) (h2:Vis (g0 st) p)
  (d1:(se==("__debug__":Str))=false:=by decide) (d2:(se==("__classdict__":Str))=false:=by decide) (d3:(p==("__debug__":Str))=false:=by decide) (d4:(p==("__classdict__":Str))=false:=by decide)
  (hs:∀env:Env,swapsWith (.Name p p3) (some (.Attribute (.Name se p1) f p2)) p4.line env=pure false:=by intro _;rfl):FnOk P w K mg base (CX1 P w) (k+1) fI fd [se,p] (spI C [f]):=by
 refine Fun.okX F S (fun vs H Q E ⟨e,ys,h,hl,_⟩=>by rw[h,gV,hl];rfl) fun cdv A outer s H vs Q E hr ⟨e,ys,hv,hl,he,hq⟩=>?_
 subst hv
 match ys,hl with
 | [y],_=>
  rw[hb]
  refine⟨_,Ev (Uk (F:=fun y ob=>.frz ob (.xd [(f,y)])) (.inl fun _ _=>rfl) Z (P1 (i:=0) rfl h1 d1 d2) (P1 (i:=1) rfl h2 d3 d4) (hs _)) pss_nil,?_⟩
  exact⟨_,rfl,_,rfl,e,rfl,he,fun dx ob hd=>hq dx ob hd⟩
def yz{P:Program}{w:World}{K:Frag}{mg:Str->Option Value}{base:Heap}{qual:Str}{st:Stmt}{fI:Addr}{fd:FuncData}{se p r:Str}{p1 p2 p3 p4 r1 r2 r3 r4:Pos}{k:Nat}(F:Fun K "__init__" qual st fI fd)(S:FnScope [se,p,r] [se,p,r] (g0 st))(aP:f2≠f)(Z:XI K C f)(Z2:XI K C f2)
  (hb:C1 st=[.Assign [.Attribute (.Name se p1) f p2] (.Name p p3) p4,.Assign [.Attribute (.Name se r1) f2 r2] (.Name r r3) r4]) (h1:Vis (g0 st) se) (h2:Vis (g0 st) p) (h3:Vis (g0 st) r)
  (d1:(se==("__debug__":Str))=false:=by decide) (d2:(se==("__classdict__":Str))=false:=by decide) (d3:(p==("__debug__":Str))=false:=by decide) (d4:(p==("__classdict__":Str))=false:=by decide) (d5:(r==("__debug__":Str))=false:=by decide) (d6:(r==("__classdict__":Str))=false:=by decide)
  (hs:∀env:Env,swapsWith (.Name p p3) (some (.Attribute (.Name se p1) f p2)) p4.line env=pure false:=by intro _;rfl) (uR:∀env:Env,swapsWith (.Name r r3) (some (.Attribute (.Name se r1) f2 r2)) r4.line env=pure false:=by intro _;rfl):FnOk P w K mg base (CX1 P w) (k+1) fI fd [se,p,r] (spI C [f,f2]):=by
 refine Fun.okX F S (fun vs H Q E ⟨e,ys,h,hl,_⟩=>by rw[h,gV,hl];rfl) fun cdv A outer s H vs Q E hr ⟨e,ys,hv,hl,he,hq⟩=>?_
 subst hv
 match ys,hl with
 | [y,z],_=>
  rw[hb]
  refine⟨_,Ev (Uk (F:=fun y _=>.xd [(f,y)]) (.inr fun _ _=>rfl) Z (P1 (i:=0) rfl h1 d1 d2) (P1 (i:=1) rfl h2 d3 d4) (hs _)) (Ev (yA (f:=f) aP Z2 (P1 (i:=0) rfl h1 d1 d2) (P1 (i:=2) rfl h3 d5 d6) (uR _)) pss_nil),?_⟩
  refine⟨_,rfl,_,rfl,e,rfl,he,fun dx ob hd=>⟨_,rfl,_,rfl,e,dx,y,rfl,j9,?_,fun iF=>?_⟩⟩
  . rw[d8 (fun z=>by rw[z,he]at hd;cases hd),j9]
  . have uS:dx≠e:=fun z=>by rw[z,he]at hd;cases hd
    have:=hq dx iF hd;rw[show upd (upd (upd H dx (HO.xd [(f,y)])) e (w4 e C (some dx))) dx (HO.frz iF (HO.xd [(f,y),(f2,z)]))=upd (upd H dx (HO.frz iF (HO.xd [(f,y),(f2,z)]))) e (w4 e C (some dx)) by
     funext b;by_cases h1:b=dx
     . subst h1;rw[j9,d8 uS,j9]
     . rw[d8 h1];by_cases h2:b=e
       . subst h2;rw[j9,j9]
       . rw[d8 h2,d8 h2,d8 h1,d8 h1]]
    exact this
end
def Un.drop(u:Un fs [] H H' h h')(hn:h.get? e=none)(he:H e=none):Un fs [] H (fun b=>if b=e then none else H' b) h h' where
 keep:=u.keep
 slot:=u.slot
 free:=fun b o q n hx=>by
  show(if b=e then none else H' b)=none;split
  . rfl
  . exact u.free b o q n hx
 there:=u.there
 tups:=fun b xs q=>by show(if b=e then none else H' b)=_;rw[ψ (fun z=>by rw[z,he]at q;cases q)];exact u.tups b xs q
 frzs:=fun b o v q=>by show(if b=e then none else H' b)=_;rw[ψ (fun z=>by rw[z,he]at q;cases q)];exact u.frzs b o v q
 tbls:=fun b ps q=>by obtain⟨m,z⟩:=u.tbls b ps q;refine⟨m,?_⟩;show(if b=e then none else H' b)=_;rw[ψ (fun y=>by rw[y,he]at q;cases q)];exact z
def yy(x:HOk P w H h)(he:H e=some (.ext φ)):HOk P w (fun b=>if b=e then none else H b) h:=fun b o q=>by
 have q:(if b=e then none else H b)=some o:=q;split at q
 . cases q
 . refine(x b o q).stay (fun _ _ _ z=>z) (fun c z=>?_) fun c xs z=>?_
   . show(if c=e then none else H c)=_;rw[ψ (fun y=>by rw[y,he]at z;cases z)];exact z
   . show(if c=e then none else H c)=_;rw[ψ (fun y=>by rw[y,he]at z;cases z)];exact z
def Un.addX(k:∀b u,h.get? b=some u->h'.get? b=some u)(hn:h.get? e=none)(he:H e=none):Un fs [] H (upd H e o) h h' where
 keep:=fun b o q _ _ _=>k b o q
 slot:=fun b o q _ _ _=>⟨o.slots,k b o q⟩
 free:=fun b o q n _=>by rw[d8 (fun z=>by rw[z,hn]at q;cases q)];exact n
 there:=fun b o q _=>⟨o,k b o q⟩
 tups:=fun b xs q=>by rw[d8 (fun z=>by rw[z,he]at q;cases q)];exact q
 frzs:=fun b o v q=>by rw[d8 (fun z=>by rw[z,he]at q;cases q)];exact q
 tbls:=fun b ps q=>⟨#[],by rw[d8 (fun z=>by rw[z,he]at q;cases q)];simpa using q⟩
def yx(x:HOk P w H h)(he:H e=none)(new:ObjOk P w (upd H e o) h e o):HOk P w (upd H e o) h:=fun b u q=>by
 by_cases hb:b=e
 . subst hb;rw[j9]at q;cases q;exact new
 . rw[d8 hb]at q;exact(x b u q).stay (fun _ _ _ z=>z) (fun c z=>by rw[d8 (fun y=>by rw[y,he]at z;cases z)];exact z) fun c xs z=>by rw[d8 (fun y=>by rw[y,he]at z;cases z)];exact z
structure Ini(P:Program)(w:World)(K:Frag)(mg:Str->Option Value)(base:Heap)(C:Addr)(fn:List Str)(k:Nat):Prop where
 h:∃fI fd ps,FnOk P w K mg base (CX1 P w) k fI fd ps (spI C fn)/\Binds K fd ps []/\PySem.W.findIn K (.ref C) "__init__"=some (some (.ref fI))/\typeIn K (.ref fI)=some (.type "function")/\ps.length=fn.length+1
section
variable {X:Cx}{x:Str}{C:Addr}{f:Str}{fn:List Str}{k j:Nat}{np ak pos:Pos}{e:Expr}{es:List Expr}{t:TA}{EX:XW}{fr:Bool}{fs:DE->R (List D)}
def yw(Z:XI X.K C f)(G:Ini X.prog X.w X.K X.mg X.base C fn k)(hr:Room (k+1) X.A)(I:Inv X pins σ H s)(r:Vals ys us)(eJ:ys.length=fn.length)(mT:fn.length<=9)
  (hq:∀a dx t ob H2 s',H dx=none->H2=upd H dx (.frz ob (.xd (fn.zip ys)))->s'.heap.get? a=some { cls:=.ref C,dict:=some dx,data:=.fields #[.ref t,.none,.none,.none,.bool false,.none] }->MadeX s.heap s'.heap a C (some dx)->HOk X.prog X.w H2 s'.heap->Un (frs X.stack) [] H H2 s.heap s'.heap->H2 a=none->s'.os=s.os->AllBare s'.gens->X.K.In s'.heap->Q (.ref a) s') :
  wpAny (model X.prog X.w) X.A (call (.ref C) us) Q E s:=by
 have uT:us.length=fn.length:=by rw[<-eJ];exact r.length.symm
 obtain⟨fI,fd,ps,F,B,hi,hf,hl⟩:=G.h
 obtain⟨hp,g,d,tk,os⟩:=s
 refine wF I.kIn Z.q hi hf (by rw[HQ];omega) fun h' a hm=>?_
 have cF:H a=none:=I.hok.none hm.new
 obtain⟨t,ht,_,_⟩:=hm.there
 have U1:Un (frs X.stack) [] H (upd H a (w4 a C none)) hp h':=.addX hm.keeps hm.new cF
 have K1:HOk X.prog X.w (upd H a (w4 a C none)) h':=yx (I.hok.kept hm.keeps) cF (Ul ht)
 have I1:Inv X pins σ (upd H a (w4 a C none)) ⟨h',g,d,tk,os⟩:=I.call' (s':=⟨h',g,d,tk,os⟩) (ch:=[]) rfl U1 K1 I.bare (fun _ z=>nomatch z)
 have r2:Vals (V.ref a::ys) (Value.ref a::us):=.cons rfl r
 have hb:=B ⟨h',g,d,tk,os⟩ (.ref a::us) I1.kIn (by rw[GL,gV,uT,hl])
 rw[GL]at hb
 refine wpAny_call (Iy (F.run _ X.stack _ _ ⟨.ref a::us,[]⟩ _ _ (fun v H'=>v=.non/\∃dx ob,upd H a (w4 a C none) dx=none/\H'=upd (upd (upd H a (w4 a C none)) dx (.frz ob (.xd (fn.zip ys)))) a (w4 a C (some dx))) (fun _ _ _=>False) (hr.make C us []) (I1.env0.make C us []) hb r2 ⟨a,ys,rfl,eJ,j9,fun dx ob hd=>⟨rfl,dx,ob,hd,rfl⟩⟩) fun r s' iG=>?_)
 cases r with
 |error e=>obtain⟨_,_,_,_,_,_,z⟩:=iG;exact z.elim
 |ok fl=>
  cases fl with
  |ret v=>
   obtain⟨y,H',I3,rv,ev,dx,ob,uU,uV⟩:=I1.after iG
   obtain⟨_,eW,gX,iE,U2,K2,_,D',ff,iF,ik,sJ⟩:=id iG
   clear I3 uV uU H' dx ob
   subst ev
   refine⟨rv,?_⟩
   have aP:ff≠a:=fun z=>by rw[z,j9]at ik;cases ik
   have sK:H ff=none:=by rw[d8 aP]at ik;exact ik
   have nE:eW a=some (w4 a C (some ff)):=by rw[sJ,j9]
   have U3:=(U1.trans U2).drop hm.new cF
   have K3:=yy K2 nE
   have eH:(fun b=>if b=a then none else eW b)=upd H ff (.frz iF (.xd (fn.zip ys))):=by
    funext b;rw[sJ];by_cases hb:b=a
    . rw[ξ hb,hb,d8 (GN aP)];exact cF.symm
    . rw[ψ hb,d8 hb];by_cases hd:b=ff
      . rw[hd,j9,j9]
      . rw[d8 hd,d8 hd,d8 hb]
   rw[eH]at U3 K3
   obtain⟨⟨t2,iD⟩,_⟩:=K2 a _ nE
   have eL:hp.get? ff=none:=by
    cases q:hp.get? ff with
    |none=>rfl
    |some o=>
     have:=U3.free ff o q sK (by simp)
     rw[j9]at this;cases this
   have KX:X.K.In s'.heap:=(I.call' (s':=s') (ch:=[]) gX U3 K3 iE (fun _ z=>nomatch z)).kIn
   exact hq a ff t2 iF _ s' sK rfl iD ⟨hm.new,fun dx e=>(by cases e;exact eL),_,_,_,iD,rfl,rfl,rfl,rfl,rfl⟩ K3 U3 (by rw[d8 (GN aP)];exact cF) gX iE KX
  |next=>exact False.elim iG
  |brk=>exact False.elim iG
  |cont=>exact False.elim iG
def zy(bb:X.calm=true)(hg:Gl X x)(hm:X.mg x=some (.ref C))(Z:XI X.K C f)(G:Ini X.prog X.w X.K X.mg X.base C fn k)(mT:fn.length<=9)(hr:Room j X.A)(ha:PA X (e::es) t)(EE:List V->Hp->Prop)
  (hE:∀(pins:List (Addr×Obj))(σ:St)(H H2:Hp)(s:Shared)(a dx:Addr)(ob:Obj)(s':Shared)(ys:List V),Inv X pins σ H s->H dx=none->H2=upd H dx (.frz ob (.xd (fn.zip ys)))->MadeX s.heap s'.heap a C (some dx)->HOk X.prog X.w H2 s'.heap->Un (frs X.stack) [] H H2 s.heap s'.heap->H2 a=none->s'.os=s.os->AllBare s'.gens->EE ys H->X.xe (.ref a) s')
  (cG:k+1<=j:=by omega) (aA:(x==("__debug__":Str))=false:=by decide) (he:starEach (e::es) X.env=(false,eval e X.env)::starEach es X.env:=by rfl) (ho:(backTo ak ((false,eval e X.env)::starEach es X.env)).any (fun x=>x.fst)=false:=by rfl) :
  PS X (.Raise (some (.Call (.Name x np) (e::es) [] ak)) none pos) (fun _ σ H=>t σ H fun vs H1=>vs.length=fn.length/\EE vs H1):=by
 intro pins s σ H D I h
 have hh:=I.ok.hd bb
 rw[arm_exec_Raise]
 have main:wpAny (model X.prog X.w) X.A (eval (.Call (.Name x np) (e::es) [] ak) X.env) (fun v s=>∃e t od,v=.ref e/\X.K.In s.heap/\s.heap.get? e=some (exN C t od)/\X.xe (.ref e) s) X.xe s:=by
  refine wpAny_Call_ofName (X3 I hg hm ?_ aA);have go:=ha ak pins s σ H _ I h;rw[he]at go⊢;unfold callWith;refine δ (FA (Calls.evalArgs_plain (EU go (fun us s2 ⟨vs,H1,I1,r,hl,pr⟩=>?_) fun _ _ y=>y)));obtain⟨bm,N,nm,qn,bs,sn,sub,ab,col,dd,k0,k1,k2,k3,k5,hC,T⟩:=M7 I1.kIn Z.q;refine δ (HG ?_);obtain⟨hp,g,d,tk,os⟩:=s2;refine δ (wpAny_keeperOf_exc hC ?_);have hz:((backTo ak ((false,eval e X.env)::starEach es X.env)).any (fun x=>x.fst)||(backToKw ak (keywordEach [] X.env)).any fun x=>x.fst.isNone)=false:=by rw[ho];rfl
  rw[hz];show wpAny _ _ (call (.ref C) us >>= _) _ _ _;refine δ (yw Z G (hr.mono cG) I1 r hl mT fun a dx t ob H2 s' q1 q2 q3 q4 q5 q6 q7 q8 q9 uW=>δ (FA (wpAny_point (ω ?_))));exact⟨a,t,some dx,rfl,uW,q3,hE pins σ H1 H2 _ a dx ob s' vs I1 q1 q2 q4 q5 q6 q7 q8 q9 pr⟩
 exact δ (HG (yB (K:=X.K) (C:=C) Z.q hh (δ (EU main (fun v aa dY=>δ (HG (ω dY))) fun _ _ x=>x))))
def M5(c:String)(fs:DE->R (List D)):DS->SR:=fun ρ=>(fs (see ρ)).toS fun ds=>if ds.length=(C4 c).length/\i3 ds=true/\pls ds=true then .er ⟨c,ds⟩ else .st
theorem Uj{K:Frag}{H:Hp}:∀{ds:List D}{xs:List V},RDs K H ds xs->xs.length=ds.length
 | [],_,h=>by simp only[RDs]at h;rw[h];rfl
 |d::ds,_,h=>by simp only[RDs]at h;obtain⟨x,r,rfl,_,h2⟩:=h;rw[gV,gV,Uj h2]
def yu{K:Frag}{De:Ends}{σ:St}{H:Hp}{c:String}(h:TSd K EX fr (M5 c fs) De σ H):TAd K EX fs σ H fun vs H1=>vs.length=(C4 c).length/\∃ds H0,(i3 ds=true/\pls ds=true)/\Same H0 H1/\RDs K H0 ds vs/\∀H2,Same H1 H2->EX.p ⟨c,ds⟩ H2:=by
 obtain⟨Hc,Hb,H0,ρ,sb,R,h⟩:=h;unfold M5 at h;rw[SK.toS]at h;refine⟨sb.trans R.sb,see ρ,HeOf (List.replicate ρ.length true) ρ σ H0 H,R.heH _,by rw[<-X1];exact R.re _,h.mono fun ds z vs H' ae s e r=>?_⟩;split at z
 . rename_i hc;exact⟨by rw[Uj r];exact hc.1,ds,ae,hc.2,e.2.1,r,fun H2 s2=>z H2 (((sb.trans R.sb).trans s).trans s2)⟩
 . exact z.elim
def Wa{c:String}(L:Lnd X EX)(bb:X.calm=true)(hg:Gl X (c:Str))(hm:X.mg (c:Str)=some (.ref C))(hn:C4 c=fn)(mT:fn.length<=9)(Z:XI X.K C f)(G:Ini X.prog X.w X.K X.mg X.base C fn k)(hr:Room j X.A)(ha:QA X EX (e::es) fs)
  (cG:k+1<=j:=by omega) (aA:(((c:Str))==("__debug__":Str))=false:=by decide) (he:starEach (e::es) X.env=(false,eval e X.env)::starEach es X.env:=by rfl) (ho:(backTo ak ((false,eval e X.env)::starEach es X.env)).any (fun x=>x.fst)=false:=by rfl) :
  QS X EX fr (.Raise (some (.Call (.Name (c:Str) np) (e::es) [] ak)) none pos) (M5 c fs):=
 ⟨(zy bb hg hm Z G mT hr ha.h (fun vs H1=>∃ds H0,(i3 ds=true/\pls ds=true)/\Same H0 H1/\RDs X.K H0 ds vs/\∀H2,Same H1 H2->EX.p ⟨c,ds⟩ H2) (fun pins σ H H2 s a dx ob s' ys I hd eH mx hok un cF ho hb ⟨ds,H0,uX,hs,r,hp⟩=>
  have sL:Same H H2:=by rw[eH];exact Same.upd_new hd
  L.md pins σ H H2 s a C (some dx) s' ⟨c,ds⟩ I mx hok un cF ho hb hm (hp H2 sL) (.inr ⟨dx,ys,ob,rfl,by rw[eH,j9,hn],uX,r.mono (hs.trans sL)⟩)) cG aA he ho).imp fun _ _ _ q=>by subst hn;exact yu q⟩
end
end L2
namespace L2
open PySem PySem.Spec PyProof.Rows
open PySem.Calls
open Builtin Builtin.ObjectAttr
section
open PySem.AutoSeq1 (wpAny_loadPart')
variable {prog:Program}{w:World}{A:Around}{E:Value->Shared->Prop}{h:Heap}{g:Array GenState}{d:Drawn}{t:Nat}{os:OsState}{K:Frag}{C a dx:Addr}{o:Obj}{f:Str}{v:Value}{mA:Str->Option Value}
variable {nm q:Str}{N:Addr}{bs bm:List Value}{sn:List Str}{sub:List Value}{ab:Bool}{col:Option Bool}{dd:Option Addr}{k0 k1 k2 k3 k5:Option Value}{newId:String}
def yt(X:K.In h)(hC:h.get? C=some (excClassObj nm q C N bs bm true sn sub ab col dd k0 k1 k2 k3 k5 newId))(hx:h.get? a=some o)(hc:o.cls=.ref C)(iH:o.data=.fields vs)(hd:o.dict=some dx)(bo:h.Ns1 dx mA)(hv:mA f=some v)
  (dE:PySem.W.findIn K (.ref C) f=some none) (hq:Q (.done (.ret v)) ⟨h,g,d,t,os⟩) :
  wpAny (model prog w) A (Builtin.«object.__getattribute__» ⟨[.ref a,.str f tk],[]⟩) Q E ⟨h,g,d,t,os⟩:=by
 have L:=looks_findIn (M:=model prog w) X dE
 have G:∀{Q:Option Value->Shared->Prop},Q (some v) ⟨h,g,d,t,os⟩->wpAny (model prog w) A (nsGet dx f) Q E ⟨h,g,d,t,os⟩:=fun {Q} z=>wpAny_nsGet bo.ns (by rw[hv];exact z)
 obtain⟨oc,od,uM,osl⟩:=o
 dsimp only at hc hd iH
 subst hc hd iH
 wp_walk using FH hx,E4 L,FH hC,G
 exact hq
def y3n(X:K.In h)(hC:h.get? C=some (excClassObj nm q C N bs bm true sn sub ab col dd k0 k1 k2 k3 k5 newId))(hx:h.get? a=some o)(hc:o.cls=.ref C)(iH:o.data=.fields vs)(hd:o.dict=some dx)(bo:h.Ns1 dx mA)(hv:mA f=some v)
  (dE:PySem.W.findIn K (.ref C) f=some none) (hB:mroIn K C (.type "BaseException")=some true) (gY:PySem.W.findIn K (.ref C) "__getattribute__"=some (some (.builtin "BaseException.__getattribute__"))) (gZ:PySem.W.findIn K (.ref C) "__getattr__"=some none) (hh:handedOut v=pure v) (hq:Q v ⟨h,g,d,t,os⟩) :
  wpAny (model prog w) A (getAttrBy (.ref a) (.str f tk) true ex) Q E ⟨h,g,d,t,os⟩:=by
 have L1:=looks_findIn (M:=model prog w) X gY
 have L2:=looks_findIn (M:=model prog w) X gZ
 have f3:=(Ij).ga.bind (.ref a)
 have EA:(onTheHeap (.ref C)&&(Value.builtin "BaseException.__getattribute__"==.builtin "object.__getattribute__"))=false:=(GY (onTheHeap (.ref C)&&·) (by decide +kernel)).trans (Iq _)
 repeat (any_goals (first |assumption | (with_reducible refine HC hx ?_;rw[hc]) |with_reducible refine E4 L1 ?_ |with_reducible refine E4 L2 ?_ |wp_step))
 rw[ψ (show ¬(ex&&onTheHeap (Value.builtin "BaseException.__getattribute__"))=true by cases ex<;>exact η)]
 repeat (any_goals (first |assumption |wp_step))
 refine Ic Ij.ga.plain PySem.F.entry_bexc_ga (Um X hx hc hB (yt X hC hx hc iH hd bo hv dE ?_))
 show wpAny _ _ (handedOut v) _ _ _
 rw[hh]
 exact ω hq
def qq(X:K.In h)(hC:h.get? C=some (excClassObj nm q C N bs bm true sn sub ab col dd k0 k1 k2 k3 k5 newId))(hx:h.get? a=some o)(hc:o.cls=.ref C)(iH:o.data=.fields vs)(hd:o.dict=some dx)(bo:h.Ns1 dx mA)(hv:mA f=some v)
  (dE:PySem.W.findIn K (.ref C) f=some none) (hB:mroIn K C (.type "BaseException")=some true) (gY:PySem.W.findIn K (.ref C) "__getattribute__"=some (some (.builtin "BaseException.__getattribute__"))) (gZ:PySem.W.findIn K (.ref C) "__getattr__"=some none) (hh:handedOut v=pure v) (hq:Q v ⟨h,g,d,t+1,os⟩) :
  wpAny (model prog w) A (getAttr (.ref a) f ex) Q E ⟨h,g,d,t,os⟩:=by
 unfold getAttr
 refine δ (wpAny_mkText ?_)
 exact y3n X hC hx hc iH hd bo hv dE hB gY gZ hh hq
end
def Qe(K:Frag)(ta:TE)(f:Str):TE:=fun σ H Q=>ta σ H fun x H1=>∃a C dx ob fs v,x=.ref a/\H1 a=some (C3 a C (some dx))/\H1 dx=some (.frz ob (.xd fs))/\fs.lookup f=some v/\XI K C f/\XF K C/\Q v H1
def K0(f:Str):D->Option D
 | .exc c fs=>((C4 c).zip fs).lookup f
 |_=>none
theorem Vz{K:Frag}{H:Hp}{f:Str}:∀{ns:List Str}{fs:List D}{vs:List V}{d:D},RDs K H fs vs->(ns.zip fs).lookup f=some d->f∈ns/\d∈fs/\∃v,(ns.zip vs).lookup f=some v/\RD K H d v
 | [],_,_,_,_,h=>by simp at h
 |_::_,[],_,_,_,h=>by simp at h
 |n::ns,e::fs,_,d,r,h=>by
  simp only[RDs]at r;obtain⟨x,xs,rfl,r1,r2⟩:=r;simp only[GR,List.lookup]at h⊢;by_cases hb:(f==n)=true
  . rw[hb]at h⊢;cases h;exact⟨by rw[eq_of_beq hb];simp,by simp,x,rfl,r1⟩
  . have hb:(f==n)=false:=by simpa using hb
    rw[hb]at h⊢;obtain⟨q1,q2,q3⟩:=Vz r2 h;exact⟨bI _ q1,bI _ q2,q3⟩
section
variable {X:Cx}{EX:XW}{e:Expr}{f:Str}{pos:Pos}{ta:TE}{fd:DE->R D}
def wD(he:PE X e ta)(hb:attributeBase e f X.env (eval e X.env)=eval e X.env):PE X (.Attribute e f pos) (Qe X.K ta f):=by
 intro pins s σ H Q I h;refine xE hb (thn (he pins s σ H _ I h) fun u s1 ⟨x,H1,I1,rx,a,C,dx,ob,fs,y,ex,ea,ed,lk,Z,F,q⟩=>?_);subst ex;obtain rfl:u=Value.ref a:=rx;obtain⟨⟨oe,h1,h2,⟨vs,h3⟩,h4⟩,_⟩:=I1.hok a _ ea;obtain⟨ci,mA,bo,ij⟩:=I1.hok dx _ ed;obtain⟨bm,N,nm,qn,bs,sn,sub,ab,col,dd,k0,k1,k2,k3,k5,hC,T⟩:=M7 I1.kIn Z.q;have hf:=ij f;rw[lk]at hf;cases q':mA f with
 |none=>rw[q']at hf;exact hf.elim
 |some v=>
  rw[q']at hf
  have hf:RelV y v:=hf
  obtain⟨hp,g,d,tk,os⟩:=s1
  exact qq I1.kIn hC h1 h2 h3 h4 bo q' Z.na F.be F.ga F.gt (PySem.W.handedOut_of (zT hf)) ⟨y,H1,I1.tok _,hf,q⟩
def qp{K:Frag}{σ:St}{H:Hp}{Q:VK}(Z:∀c,f∈C4 c->∃C,nsIn K mainGlobals (Str.ofString c)=some (some (.ref C))/\XI K C f/\XF K C)(h:TEd K EX false (eUn (K0 f) fd) σ H Q):Qe K (TEd K EX false fd) f σ H Q:=by
 obtain⟨sx,ρ,H0,s,e,h⟩:=h;unfold eUn at h;rw[Rk.bind]at h;refine TEd.go sx s e h fun d h v H1 ao s1 e1 r1=>?_
 obtain⟨z,hz,hk⟩:=h.of;unfold K0 at hz;split at hz
 . rename_i c fs;obtain⟨a,C,od,rfl,hn,ha,hx⟩:=r1.exc;rcases hx with hx |⟨dx,vs,ob,q1,q2,q3,q4⟩
   . have hx:fs=[]:=hx;subst hx;simp at hz
   . subst q1;obtain⟨m1,_,y,ly,ry⟩:=Vz q4 hz;obtain⟨C',z1,z2,z3⟩:=Z c m1;rw[hn]at z1;cases z1;exact⟨a,C,dx,ob,_,y,rfl,e1.2.1 _ _ ha,e1.2.1 _ _ q2,ly,z2,z3,hk y H1 (.val s1 e1 ry)⟩
 . cases hz
def Kc(ha:QE X EX false e fd)(hb:attributeBase e f X.env (eval e X.env)=eval e X.env)(Z:∀c,f∈C4 c->∃C,nsIn X.K mainGlobals (Str.ofString c)=some (some (.ref C))/\XI X.K C f/\XF X.K C) :
 QE X EX false (.Attribute e f pos) (eUn (K0 f) fd):=⟨(wD ha.h hb).imp fun _ _ _ q=>qp Z q⟩
end
noncomputable def Ui(s:Stmt):List Stmt:=match s with
 | .ClassDef _ _ _ b _ _ _ _ _ _ _=>b
 |_=>[]
end L2
namespace L2
open PySem PySem.Spec PyProof.Rows
section
variable {prog:Program}{w:World}{A:Around}{R:Result->Shared->Prop}{I:Addr}{fp wr:List Addr}{n:Nat}{P:Nat->Value->Prop}{St:Nat->Heap->Prop}
def y3o(kw:List (Str×Value))(W:Walks prog w A.in1 I fp wr n P St)(bt:Nat->Nat->Bool)(cm:CmpOf prog w A.in1 .Gt P bt)(S:Addr)(nf:S∉fp) :
  ∀(k j:Nat)(s:Shared)(vb:Value)(c:Nat),n - (j+1)=k->j+1<=n->St (j+1) s.heap->P (argBest bt j) vb->s.heap.get? S=some { cls:=.type "list",dict:=none,data:=.seq #[vb,vb] c,slots:=#[] } ->
  (∀v h' tk,P (argBest bt (n - 1)) v->(∀b o,b∉wr->b≠S->s.heap.get? b=some o->h'.get? b=some o)->R (.ok (.ret v)) { s with heap:=h',toks:=tk })->codeAny (model prog w) A (.builtin "max.loop" ⟨[.ref I,.none,.ref S],kw⟩) R s:=by
 have nw:S∉wr:=fun h=>nf (W.sub _ h)
 have nm:(toString "max"++toString ".loop":String)="max.loop":=by decide
 intro k
 induction k with
 |zero=>
  intro j s vb c ek ej st pb eS fin
  have jn:j+1=n:=by omega
  refine IN Im ?_
  rw[IM GB _]
  show wpAny _ A.in1 (seqItems? (.ref S) >>= _) _ _ _
  refine δ (wpAny_seqItems eS rfl ?_)
  show wpAny _ A.in1 (tryCatch (pyNext (.ref I)) _ >>= _) _ _ _
  refine δ (wpAny_tryCatch (W.done s _ _ (jn ▸ st) fun h' tk kp=>?_))
  have gw:=kp S _ nw eS
  show wpAny _ A.in1 (updateSeq S (fun _=>#[]) >>= _) _ _ _
  refine δ ?_
  refine wpAny_updateSeq gw rfl (δ (wpAny_letGo (ω ?_)))
  exact fin vb _ tk (by rw[<-jn];exact pb) fun b o dA fj e=>(FS _ _ (GN fj)).trans (kp b o dA e)
 |succ k ih=>
  intro j s vb c ek ej st pb eS fin
  have jl:j+1<n:=by omega
  refine IN Im ?_
  rw[IM GB _]
  show wpAny _ A.in1 (seqItems? (.ref S) >>= _) _ _ _
  refine δ (wpAny_seqItems eS rfl ?_)
  show wpAny _ A.in1 (tryCatch (pyNext (.ref I)) _ >>= _) _ _ _
  refine δ (wpAny_tryCatch (W.item (j+1) s _ _ jl st fun v h' tk pv st' kp=>?_))
  have gw:=kp S _ nw eS
  show wpAny _ A.in1 (tryCatch (holding [v,v] (richCompare .Gt v vb >>= _)) _ >>= _) _ _ _
  refine δ (wpAny_tryCatch (FA (δ (cm (j+1) (argBest bt j) v vb _ _ _ pv pb ?_))))
  refine δ (FA (HB ?_))
  refine δ (wpAny_letGo (ω ?_))
  cases hb:bt (j+1) (argBest bt j) with
  |true=>
   rw[ξ rfl]
   refine δ ?_
   refine wpAny_updateSeq gw rfl (δ (wpAny_letGo ?_))
   rw[nm]
   refine ω ⟨plainId_quiet GB _,ih (j+1) _ v _ (by omega) jl (W.frame _ _ _ st' fun b pG o e=>?_) (by simp only[argBest,hb,FQ];exact pv) (Ia _ gw rfl) fun v' gM f' hG gx=>?_⟩
   . exact(FS _ _ (fun z:S=b=>nf (by rw[z];exact pG))).trans e
   . exact fin v' gM f' hG fun b o dA fj e=>gx b o dA fj ((FS _ _ (GN fj)).trans (kp b o dA e))
  |false=>
   rw[ψ η]
   refine δ (wpAny_letGo ?_)
   rw[nm]
   exact ω ⟨plainId_quiet GB _,ih (j+1) _ vb c (by omega) jl st' (by simp only[argBest,hb,EW,FV];exact pb) gw fun v' gM f' hG gx=>fin v' gM f' hG fun b o dA fj e=>gx b o dA fj (kp b o dA e)⟩
def yr(kw:List (Str×Value))(W:Walks prog w A.in1 I fp wr n P St)(bt:Nat->Nat->Bool)(cm:CmpOf prog w A.in1 .Gt P bt)(S:Addr)(nf:S∉fp)(n0:0<n)(st:St 0 s.heap)
  (eS:s.heap.get? S=some { cls:=.type "list",dict:=none,data:=.seq #[] c,slots:=#[] }) (fin:∀v h' tk,P (argBest bt (n - 1)) v->(∀b o,b∉wr->b≠S->s.heap.get? b=some o->h'.get? b=some o)->R (.ok (.ret v)) { s with heap:=h',toks:=tk }) :
  codeAny (model prog w) A (.builtin "max.loop" ⟨[.ref I,.none,.ref S],kw⟩) R s:=by
 have nw:S∉wr:=fun h=>nf (W.sub _ h)
 have nm:(toString "max"++toString ".loop":String)="max.loop":=by decide
 refine IN Im ?_
 rw[IM GB _]
 show wpAny _ A.in1 (seqItems? (.ref S) >>= _) _ _ _
 refine δ (wpAny_seqItems eS rfl ?_)
 show wpAny _ A.in1 (tryCatch (pyNext (.ref I)) _ >>= _) _ _ _
 refine δ (wpAny_tryCatch (W.item 0 s _ _ n0 st fun v h' tk pv st' kp=>?_))
 have gw:=kp S _ nw eS
 show wpAny _ A.in1 (updateSeq S (fun _=>#[v,v]) >>= _) _ _ _
 refine δ ?_
 refine wpAny_updateSeq gw rfl ?_
 rw[nm]
 refine ω ⟨plainId_quiet GB _,y3o kw W bt cm S nf _ 0 _ v _ rfl n0 (W.frame _ _ _ st' fun b pG o e=>?_) pv (Ia _ gw rfl) fun v' gM f' hG gx=>?_⟩
 . exact(FS _ _ (fun z:S=b=>nf (by rw[z];exact pG))).trans e
 . exact fin v' gM f' hG fun b o dA fj e=>gx b o dA fj ((FS _ _ (GN fj)).trans (kp b o dA e))
def wC(q:Str)(dv:Value)(W:Walks prog w A.in1 I fp wr n P St)(S:Addr)(nf:S∉fp)(n0:n=0)(st:St 0 s.heap)
  (eS:s.heap.get? S=some { cls:=.type "list",dict:=none,data:=.seq #[] c,slots:=#[] }) (fin:∀h' tk,(∀b o,b∉wr->b≠S->s.heap.get? b=some o->h'.get? b=some o)->R (.ok (.ret dv)) { s with heap:=h',toks:=tk }) :
  codeAny (model prog w) A (.builtin "max.loop" ⟨[.ref I,.none,.ref S],[(q,dv)]⟩) R s:=by
 refine IN Im ?_
 rw[IM GB _]
 show wpAny _ A.in1 (seqItems? (.ref S) >>= _) _ _ _
 refine δ (wpAny_seqItems eS rfl ?_)
 show wpAny _ A.in1 (tryCatch (pyNext (.ref I)) _ >>= _) _ _ _
 refine δ (wpAny_tryCatch (W.done s _ _ (n0 ▸ st) fun h' tk kp=>?_))
 show wpAny _ A.in1 (rule _ >>= _) _ _ _
 exact δ (wpAny_rule (ω (fin h' tk fun b o hb _ e=>kp b o hb e)))
end
def wB(a v:Value):argsOk "max" ⟨[a],[(Str.ofString "default",v)]⟩:=by unfold argsOk;kernel_rfl
section
variable {prog:Program}{w:World}{A:Around}{E:Value->Shared->Prop}{s:Shared}
def wA
  (h:wpAny (model prog w) A.in1 (pyIter x) (fun it aK=>∃I fp wr n P St bt,it=.ref I/\Walks prog w A.in1 I fp wr n P St/\St 0 aK.heap/\(∀b∈fp,b<aK.heap.objs.size)/\CmpOf prog w A.in1 .Gt P bt /\
   ∀v h' tk,((0<n/\P (argBest bt (n - 1)) v)\/(n=0/\v=dv))->(∀b o,b∉wr->aK.heap.get? b=some o->h'.get? b=some o)->Q v { aK with heap:=h',toks:=tk }) E s) :
  wpAny (model prog w) A (call (.builtin "max") [x] [(Str.ofString "default",dv)]) Q E s:=by
 have nm:(toString "max"++toString ".loop":String)="max.loop":=by decide
 refine kmk_tree PySem.F.kind_max PySem.F.plain_max PySem.F.entry_max (wB _ _) ?_
 show wpAny _ A.in1 (Builtin.Builtins.bindParams "max" ["key","default"] 0 ⟨[],[(Str.ofString "default",dv)]⟩ >>= _) _ _ s
 refine δ (wpAny_of_eq (show Builtin.Builtins.bindParams "max" ["key","default"] 0 ⟨[],[(Str.ofString "default",dv)]⟩=pure [none,some dv] from rfl) ?_)
 refine δ (ω ?_)
 refine δ (EU h (fun it aK g=>?_) fun _ _ e=>e)
 obtain⟨I,fp,wr,n,P,St,bt,rfl,W,st,bd,cm,hQ⟩:=g
 refine δ (wpAny_newObj_type ?_)
 have nf:aK.heap.objs.size∉fp:=fun hm=>χ _ (bd _ hm)
 rw[nm]
 refine ω ⟨plainId_quiet GB _,?_⟩
 by_cases n0:0<n
 . exact yr _ W bt cm aK.heap.objs.size nf n0 (W.frame _ _ _ st fun b _ o e=>τ _ e) (Ψ _ rfl) fun v h' tk pv kp=>
    hQ v h' tk (.inl ⟨n0,pv⟩) fun b o dA e=>kp b o dA (ER (π e)) (τ _ e)
 . exact wC _ dv W aK.heap.objs.size nf (by lia) (W.frame _ _ _ st fun b _ o e=>τ _ e) (Ψ _ rfl) fun h' tk kp=>
    hQ dv h' tk (.inr ⟨by lia,rfl⟩) fun b o dA e=>kp b o dA (ER (π e)) (τ _ e)
variable {h₀:Heap}{L:Addr}{m:Str->Option Value}{dZ:List (Addr×Obj)}
def wz(hh:A.handled=none)(F:Fr h₀ L s.heap m)(N:News h₀ L s.heap dZ)(hl:s.heap.IsList l vs.toArray)(hi:IntsAre vs ns)
  (h:∀v h' tk,Fr h₀ L h' m->News h₀ L h' dZ->((ns=[]/\v=dv)\/∃M t,v=.int M t/\M∈ns/\∀a,a∈ns->a<=M)->Q v { s with heap:=h',toks:=tk }) :
  wpAny (model prog w) A (call (.builtin "max") [.ref l] [(Str.ofString "default",dv)]) Q E s:=by
 obtain⟨xs,e⟩:=hi.allInts.items
 have en:ns=xs.toList.map (·.1):=by rw[<-hi.numsOf,<-nums_intItems,<-e]
 have el:ns.length=xs.size:=by rw[en,gc,FG]
 rw[e]at hl
 refine wA (iter_intList hl fun aK e st bd lI=>?_)
 subst e
 refine⟨_,_,_,_,_,_,_,rfl,Walks.list (A:=A.in1) hh _ l lI (intItems xs),st,bd,CmpOf.ints_gt (numAt xs) (fun _ _=>intItems_at),fun v h' tk pv kp=>?_⟩
 have gx:=old_kept kp
 refine h v h' tk (F.grownK gx) (N.grown gx) ?_
 rcases pv with⟨n0,pv⟩ |⟨n0,rfl⟩
 . right;have EB:0<xs.size:=by simpa [intItems] using n0
   have hG:(intItems xs)[argBest (fun i j=>decide (numAt xs i > numAt xs j)) (xs.size - 1)]?=some v:=by simpa [intItems] using pv
   obtain⟨t,rfl⟩:=intItems_at hG;obtain⟨h1,h2⟩:=argBest_gt (numAt xs) (xs.size - 1);refine⟨_,t,rfl,?_,fun a ha=>?_⟩
   . rw[en,numAt_eq];exact J8 (by rw[gc,FG];lia)
   . rw[en]at ha;obtain⟨j,hj,rfl⟩:=mem_getD ha;rw[gc,FG]at hj;rw[<-numAt_eq];exact h2 j (by lia)
 . left;have:xs.size=0:=by simpa [intItems] using n0
   exact⟨List.length_eq_zero_iff.mp (by lia),rfl⟩
end
def mxD(d:Int):List Int->Int
 | []=>d
 |n::ns=>r9 n ns
def V2:List D->Option D
 | [.lst ds,.int d]=>(B9 ds).map fun ns=>.int (mxD d ns)
 |_=>none
def Hq:List V->Hp->VK->Prop:=fun xs H Q=>∃p ns d,xs=[.ref p,.int d]/\H p=some (.lst (ns.map V.int))/\Q (.int (mxD d ns)) H
def TEd.mono'{K:Frag}{EX:XW}{fr:Bool}{f:DE->R D}{σ:St}{H:Hp}{Q Q':VK}(h:TEd K EX fr f σ H Q)(hq:∀v H',Q v H'->Q' v H'):TEd K EX fr f σ H Q':=by obtain⟨sx,ρ,H0,s,e,h⟩:=h;exact⟨sx,ρ,H0,s,e,h.mono fun a k v H' o=>hq _ _ (k v H' o)⟩
section
variable {X:Cx}{EX:XW}{e d:Expr}{p kp pos:Pos}{x:Str}{t1 t2:TE}{f1 f2:DE->R D}
def wy(hc:X.calm=true)(hg:Gl X x)(hm:X.mg x=none)(hv:bootBuiltins x=some (.builtin "max"))(ha:PE X e t1)(hd:PE X d t2)(hn:x≠"__name__":=by decide)(aA:(x==("__debug__":Str))=false:=by decide)
  (hs:starEach [e] X.env=(false,eval e X.env)::starEach [] X.env:=by rfl) :
  PE X (.Call (.Name x p) [e] [⟨some (Str.ofString "default"),d,kp⟩] pos) (tCB Hq (F9 t1 (F9 t2 Aj))):=by
 intro pins s σ H Q I h
 refine Iu (W8 I hg hm hv ?_ hn aA)
 refine callWith_kw ?_ (by rw[hs];rfl) (by rw[hs];rfl)
 refine thn (P7 ha pa_nil hs pos pins s σ H (fun vs H1=>t2 σ H1 fun u H2=>Hq (vs++[u]) H2 Q) I h) fun us s1 ⟨vs,H1,I1,r1,q1⟩=>?_
 refine kws_cons (thn (hd pins s1 σ H1 _ I1 q1) fun u s2 ⟨y,H2,I2,r2,q2⟩=>kws_nil ?_)
 obtain⟨a,ns,i,e1,ea,q⟩:=q2
 obtain⟨rfl,rfl⟩:vs=[.ref a]/\y=.int i:=by
  cases vs with
  |nil=>cases e1
  |cons b r=>
   cases r with
   |nil=>cases e1;exact⟨rfl,rfl⟩
   |cons c r=>cases r<;>cases e1
 obtain⟨u1,rfl,ru⟩:=r6 r1
 cases ru
 obtain⟨t,rfl⟩:=r2
 obtain⟨its,rv,pl,_⟩:=I2.list (.of ea)
 obtain⟨m,pH,_⟩:=id I2.loc
 refine wz (I2.ok.hd hc) (Att.fr_all pH) (X7 (g:=Att.noObjs s2.heap) (L:=X.env.locals)) pl.isList (Fw rv) fun v h' tk F N hM=>?_
 rcases hM with⟨rfl,rfl⟩ |⟨M,t,rfl,hM,dy⟩
 . exact⟨.int i,H2,I2.frn pH F N,⟨_,rfl⟩,q⟩
 . cases ns with
   |nil=>cases hM
   |cons n ns=>
    obtain⟨a1,a2⟩:=Br ns n
    have e:M=r9 n ns:=Int.le_antisymm (a2 M hM) (dy _ a1)
    exact⟨.int M,H2,I2.frn pH F N,⟨t,rfl⟩,by rw[e];exact q⟩
def wx{K:Frag}:x5 K false V2 Hq:=by
 intro H0 H xs ds z Q s r ho k;unfold V2 at ho;split at ho<;>first |cases ho |skip
 rename_i es i;cases hq:B9 es with
 |none=>rw[hq]at ho;cases ho
 |some ns=>
  rw[hq]at ho
  cases ho
  simp only[RDs]at r
  obtain⟨x1,r1,rfl,q1,x2,r2,rfl,q2,rfl⟩:=r
  obtain⟨a,ys,rfl,ha,ra⟩:=q1.lst
  have e:=X9 hq ra
  subst e
  cases q2.int
  exact⟨a,ns,i,rfl,s _ _ ha,k _ H (.pure s (.mkInt _))⟩
def qo(hc:X.calm=true)(hg:Gl X x)(hm:X.mg x=none)(hv:bootBuiltins x=some (.builtin "max"))(ha:QE X EX false e f1)(hd:QE X EX false d f2)(hn:x≠"__name__":=by decide)(aA:(x==("__debug__":Str))=false:=by decide)
  (hs:starEach [e] X.env=(false,eval e X.env)::starEach [] X.env:=by rfl) :
  QE X EX false (.Call (.Name x p) [e] [⟨some (Str.ofString "default"),d,kp⟩] pos) (eCB V2 (a6 f1 (a6 f2 a8))):=
 ⟨(wy hc hg hm hv ha.h hd.h hn aA hs).imp fun _ _ _ q=>(Kh (Pw wx q)).mono' fun _ _ q=>(Kh q).mono' fun _ _ q=>Qm q⟩
end
noncomputable def SR.thn(r:SR)(g:DS->SR):SR:=match r with
 | .nx av=>g av
 |r=>r
noncomputable def SR.out(fr:Bool)(r:SR):R D:=match r with
 | .rt d=>.ok d
 | .nx _=>if fr=true then .st else .ok .non
 | .er x=>.er x
 |_=>.st
def xR(g1 g2:DS->SR)(ρ:DS):a9 g1 g2 ρ=(g1 ρ).thn g2:=rfl
def xQ(ρ:DS)(g:DS->SR):(SR.nx ρ).thn g=g ρ:=rfl
def zz4(d:D)(g:DS->SR):(SR.rt d).thn g=.rt d:=rfl
def zz5(x:Ex)(g:DS->SR):(SR.er x).thn g=.er x:=rfl
def zz6(g:DS->SR):(SR.st).thn g=.st:=rfl
def zua(c:Prop)[Decidable c](a b:SR)(g:DS->SR):(if c then a else b).thn g=if c then a.thn g else b.thn g:=by split<;>rfl
def R8(fr:Bool)(n k:Nat)(g:DS->SR)(ds:List D):mOf fr n k g ds=if ds.length=n then(g (ds.map .im++List.replicate k .em)).out fr else .st:=rfl
def zz7(fr:Bool)(d:D):(SR.rt d).out fr=.ok d:=rfl
def zz8(ρ:DS):(SR.nx ρ).out false=.ok .non:=rfl
def zz9(fr:Bool)(x:Ex):(SR.er x).out fr=.er x:=rfl
def zza(fr:Bool):(SR.st).out fr=.st:=rfl
def zub(fr:Bool)(c:Prop)[Decidable c](a b:SR):(if c then a else b).out fr=if c then a.out fr else b.out fr:=by split<;>rfl
def zzb(m:List Bool)(f:DE->R D)(ρ:DS):e7 m f ρ=(f (vis m ρ)).toS fun d=>.rt d:=rfl
def zzc(fr:Bool)(i:Nat)(m:List Bool)(f:DE->R D)(ρ:DS):c5 fr i m f ρ=(f (vis m ρ)).toS fun d=>.nx (K6 fr i d (t6 (keeps fr d) m ρ)):=rfl
def y3p(t:DE->R Bool)(g1 g2:DS->SR)(ρ:DS):sIf t g1 g2 ρ=(t (see ρ)).toS fun b=>if b=true then g1 ρ else g2 ρ:=rfl
def Kk(a:α)(k:α->SR):R.toS (.ok a) k=k a:=rfl
def zzd(x:Ex)(k:α->SR):R.toS (.er x:R α) k=.er x:=rfl
def zze(k:α->SR):R.toS (.st:R α) k=.st:=rfl
def zuc(c:Prop)[Decidable c](a b:R α)(k:α->SR):R.toS (if c then a else b) k=if c then R.toS a k else R.toS b k:=by split<;>rfl
def zud(x:Ex)(k:α->R β):R.bind (.er x:R α) k=.er x:=rfl
def Bm(a:α):(R.ok a).noE=.ok a:=rfl
def y3q(m:List Bool):vis m []=[]:=by cases m<;>rfl
def y3r(s:Sl)(r:DS):vis [] (s::r)=s.see false::vis [] r:=rfl
def y3s(b:Bool)(m:List Bool)(s:Sl)(r:DS):vis (b::m) (s::r)=s.see b::vis m r:=rfl
def Rb:see []=[]:=rfl
def Ra(s:Sl)(r:DS):see (s::r)=s.see true::see r:=rfl
def zzf(b:Bool):Sl.see b .em=none:=rfl
def Uh(b:Bool)(d:D):Sl.see b (.im d)=some d:=rfl
def Ws(d:D):Sl.see true (.ow d)=some d:=rfl
def zug(d:D):Sl.see false (.ow d)=none:=rfl
def zzg(m:List Bool)(ρ:DS):t6 true m ρ=ρ:=rfl
def zpb(fr:Bool)(i:Int):keeps fr (.int i)=true:=by cases fr<;>rfl
def zpc(fr:Bool):keeps fr .non=true:=by cases fr<;>rfl
def zpd(fr:Bool)(x:PySem.Str):keeps fr (.str x)=true:=by cases fr<;>rfl
def zpe(fr:Bool)(ds:List D):keeps fr (.tup ds)=i3 ds:=by cases fr<;>simp only[keeps,D.noL,D.shal,FQ,EW,FV]
def Yb(ds:List D):keeps true (.lst ds)=i3 ds:=rfl
def zzh:i3 []=true:=by simp only[i3]
def zzi(d:D)(r:List D):i3 (d::r)=(d.noL&&i3 r):=by simp only[i3]
def Wr(i:Int):(D.int i).noL=true:=by simp only[D.noL]
def zzj(i:Bool):(D.bl i).noL=true:=by simp only[D.noL]
def zuh(i:PySem.Str):(D.str i).noL=true:=by simp only[D.noL]
def zui:(D.non).noL=true:=by simp only[D.noL]
def zuj(ds:List D):(D.tup ds).noL=i3 ds:=by simp only[D.noL]
def zuk(ds:List D):(D.lst ds).noL=false:=by simp only[D.noL]
def Qz(i:Nat)(d:D)(ρ:DS):K6 false i d ρ=ρ.set i (.im d):=rfl
def y3t(i:Nat)(d:D)(ρ:DS):K6 true i d ρ=ρ.set i (.ow d):=rfl
def y3u(ρ:DE):sel [] ρ=[]:=rfl
def y3v(j:Nat)(r:List Nat)(ρ:DE):sel (j::r) ρ=(ρ[j]?).getD none::sel r ρ:=rfl
def y7b(d:D)(r:DE):a5 0 (some d::r)=.ok d:=rfl
def y7c(i:Nat)(d:Option D)(r:DE):a5 (i+1) (d::r)=a5 i r:=rfl
def y3w(g:Int->Int->D)(i j:Int):dI g (.int i) (.int j)=some (g i j):=rfl
def Dk(C:Int->Int->Prop)[∀i j,Decidable (C i j)](g:Int->Int->D)(i j:Int):dIC C g (.int i) (.int j)=if C i j then some (g i j) else none:=rfl
def y3x(b:Bool):asB (.bl b)=some b:=rfl
def zr7(b:Bool):l5 (.bl b)=some b:=rfl
def Eb(i j:Int):(i==j)=decide (i=j):=by rw[GG];simp
def zzk(i j:Int):dEq (.int i) (.int j)=some (.bl (decide (i=j))):=by unfold dEq;rw[ξ (by simp[D.pl,D.dep])];simp only[eqD,Eb]
def zzl(i j:Int):dNe (.int i) (.int j)=some (.bl (!decide (i=j))):=by unfold dNe;rw[ξ (by simp[D.pl,D.dep])];simp only[eqD,Eb]
def xP(a b c e:Int):dEq (.tup [.int a,.int b]) (.tup [.int c,.int e])=some (.bl (decide (a=c)&&decide (b=e))):=by unfold dEq;rw[ξ (by simp[D.pl,D.dep,pls,l7])];simp only[eqD,v7,Eb,Bool.and_true]
def zzm(a b c e:Int):dNe (.tup [.int a,.int b]) (.tup [.int c,.int e])=some (.bl (!(decide (a=c)&&decide (b=e)))):=by unfold dNe;rw[ξ (by simp[D.pl,D.dep,pls,l7])];simp only[eqD,v7,Eb,Bool.and_true]
def Ug(a:D)(r:List D):dIx (.tup (a::r)) (.int 0)=some a:=by simp only[dIx,dOr,y3,jY]
def xO(a b:D)(r:List D):dIx (.tup (a::b::r)) (.int 1)=some b:=by simp only[dIx,dOr,y3,jX]
def xN(a b c:D)(r:List D):dIx (.tup (a::b::c::r)) (.int 2)=some c:=by simp only[dIx,dOr,y3,show atI (a::b::c::r) 2=some c from S0 (j:=2) rfl]
def Uf(a:D)(r:List D):dIx (.lst (a::r)) (.int 0)=some a:=by simp only[dIx,dOr,y3,jY]
def zzn(a b:D)(r:List D):dIx (.lst (a::b::r)) (.int 1)=some b:=by simp only[dIx,dOr,y3,jX]
def Sd{ds:List D}{j:Nat}{d:D}(h:ds[j]?=some d):dIx (.lst ds) (.int (j:Int))=some d:=by simp only[dIx,dOr,y3,S0 h]
def ww(h0:0<=k)(h1:k<ns.length):dIx (.scr ns) (.int k)=some (.int (ns.getD k.toNat 0)):=by
 have hk:k.toNat<ns.length:=by lia
 have e:atI ns k=some (ns.getD k.toNat 0):=by have:=S0 (xs:=ns) (j:=k.toNat) (v:=ns.getD k.toNat 0) (by rw[ro,ET hk];rfl);rwa [show((k.toNat:Nat):Int)=k by lia]at this
 simp only[dIx,dOr,y3,e,FC]
def zzo(ns:List Int):k9 [.scr ns]=some (.int ns.length):=rfl
def xM(ns:List D):k9 [.lst ns]=some (.int ns.length):=rfl
def xL(ns:List D):k9 [.tup ns]=some (.int ns.length):=rfl
def y3y(b c:Bool):(if b=true then R.ok true else R.ok c)=R.ok (b||c):=by cases b<;>rfl
def zzp(b c:Bool):(if b=true then R.ok c else R.ok false)=R.ok (b&&c):=by cases b<;>rfl
def zzq(b c:Bool):(if b=true then R.ok (D.bl true) else R.ok (D.bl c))=R.ok (D.bl (b||c)):=by cases b<;>rfl
def zun(b c:Bool):(if b=true then R.ok (D.bl c) else R.ok (D.bl false))=R.ok (D.bl (b&&c)):=by cases b<;>rfl
def zzr(i:Int):m5 "int" (.int i)=some (.bl true):=by simp[m5,F7,L9,K7]
def zzs(i:Int):m5 "bool" (.int i)=some (.bl false):=by simp[m5,F7,L9,K7]
def zzt(ds:List D):m5 "tuple" (.tup ds)=some (.bl true):=by simp[m5,F7,L9,K7]
noncomputable def SR.itr(r:SR)(k:DS->SR):SR:=match r with
 | .nx aG=>k aG
 | .ct aG=>k aG
 | .bk aG=>.nx aG
 | .rt d=>.rt d
 | .er x=>.er x
 | .st=>.st
def W9(ρ:DS)(k:DS->SR):(SR.nx ρ).itr k=k ρ:=rfl
def Kb(i:Nat)(g:DS->SR)(d:D)(ds:List D)(ρ:DS):l6 (.n i) g (d::ds) ρ=(g (ρ.set i (.im d))).itr (l6 (.n i) g ds):=by simp only[l6,L5,Qz,SR.itr]<;>cases g (List.set ρ i (Sl.im d))<;>rfl
def Ue(i j:Nat)(g:DS->SR)(a b:D)(ds:List D)(ρ:DS):l6 (.t [i,j]) g (.tup [a,b]::ds) ρ=(g ((ρ.set i (.im a)).set j (.im b))).itr (l6 (.t [i,j]) g ds):=by simp only[l6,L5,Qz,items,Option.bind_some,gV,GF,FQ,Dv,SR.itr]<;>cases g ((List.set ρ i (Sl.im a)).set j (Sl.im b))<;>rfl
def zuo(bn:D->Option (List D))(t:DE->R Bool)(f:DE->R D)(cs:DE):B6 bn t f cs []=.ok []:=rfl
def zx(f:DE->R D)(cs:DE)(d:D)(ds:List D):B6 b1 k8 f cs (d::ds)=(f (some d::cs)).noE.bind fun y=>(B6 b1 k8 f cs ds).bind fun ys=>.ok (y::ys):=rfl
def S2{bn:D->Option (List D)}{f:DE->R D}{cs:DE}{α:Type}{en:α->D}{bs:α->List D}{g:α->D}(xs:List α)(hb:∀x∈xs,bn (en x)=some (bs x))(hf:∀x∈xs,f ((bs x).map some++cs)=.ok (g x)):B6 bn k8 f cs (xs.map en)=.ok (xs.map g):=by
 induction xs with
 |nil=>rfl
 |cons x xs ih=>
  simp only[ng,B6,hb x (by simp),k8,R.of_some,R.bind_ok,Bm,FQ,hf x (by simp),ih (fun y hy=>hb y (by simp[hy])) (fun y hy=>hf y (by simp[hy]))]
def Xj{bn:D->Option (List D)}{t:DE->R Bool}{f:DE->R D}{cs:DE}{α:Type}{en:α->D}{bs:α->List D}{p:α->Bool}{g:α->D}(xs:List α)(hb:∀x∈xs,bn (en x)=some (bs x))(ht:∀x∈xs,t ((bs x).map some++cs)=.ok (p x))(hf:∀x∈xs,p x=true->f ((bs x).map some++cs)=.ok (g x)):B6 bn t f cs (xs.map en)=.ok ((xs.filter p).map g):=by
 induction xs with
 |nil=>rfl
 |cons x xs ih=>
  have uY:=ih (fun y hy=>hb y (by simp[hy])) (fun y hy=>ht y (by simp[hy])) (fun y hy=>hf y (by simp[hy]))
  simp only[ng,B6,hb x (by simp),ht x (by simp),R.of_some,R.bind_ok,Bm,uY]
  cases e:p x with
  |true=>simp only[FQ,hf x (by simp) e,Bm,R.bind_ok,List.filter_cons,e,ng]
  |false=>simp only[EW,FV,List.filter_cons,e]
def yq{tg:Tg}{g:DS->SR}{α:Type}{en:α->D}(P:List α->DS->Prop)(xs:List α)(ρ:DS)(h0:P xs ρ)(hs:∀x r ρ,P (x::r) ρ->∃df aG,L5 tg (en x) ρ=some df/\(g df=.nx aG\/g df=.ct aG)/\P r aG):∃av,l6 tg g (xs.map en) ρ=.nx av/\P [] av:=by
 induction xs generalizing ρ with
 |nil=>exact⟨ρ,rfl,h0⟩
 |cons x r ih=>
  obtain⟨df,aG,e1,e2,q⟩:=hs x r ρ h0
  obtain⟨av,e',p'⟩:=ih aG q
  refine⟨av,?_,p'⟩
  rcases e2 with e2 |e2<;>simp only[ng,l6,e1,e2,e']
noncomputable def L(ns:List Int):D:=.lst (ns.map .int)
def F4(f:α->D)(xs:List α)(h:∀x∈xs,(f x).noL=true):i3 (xs.map f)=true:=by
 induction xs with
 |nil=>simp only[GK,i3]
 |cons a r ih=>simp only[ng,i3,h a (by simp),ih fun x hx=>h x (by simp[hx]),GJ]
def zzu(ns:List Int):keeps true (L ns)=true:=by unfold L;rw[Yb];exact F4 _ _ fun x _=>Wr x
def y3z(ns:List Int):k9 [L ns]=some (.int ns.length):=by unfold L;rw[xM,gc]
def zup(ns:List Int):items (L ns)=some (ns.map .int):=rfl
def jO(h0:0<=x)(h1:x.toNat<ns.length):dIx (L ns) (.int x)=some (.int (ns.getD x.toNat 0)):=by
 have e:(ns.map D.int)[x.toNat]?=some (.int (ns.getD x.toNat 0)):=by rw[FF,ET h1,ro,ET h1];rfl
 have:=Sd e;rwa [show((x.toNat:Nat):Int)=x by lia]at this
def y7d{ns:List Int}{k:Nat}(h1:k<ns.length):dIx (L ns) (.int (k:Int))=some (.int (ns.getD k 0)):=jO (x:=(k:Int)) (by lia) (by simpa using h1)
def Ho(h:ns.length<100000):F5 (L ns) [.int x]=some (L (ns++[x])):=by simp only[L,F5,gc,h,FQ,GA,ng,GK]
def zzv(ns:List Int)(lo hi:Option Int):dSl (.scr ns) lo hi=some (L (y0 ns lo hi)):=rfl
def all_map(xs:List α)(f:α->Bool):D7 [.lst (xs.map fun x=>D.bl (f x))]=some (.bl (xs.all f)):=by
 have:xs.map (fun x=>D.bl (f x))=(xs.map f).map D.bl:=by rw[Io];rfl
 rw[this];simp only[D7,Nq,FC,List.all_map];rfl
def any_map(xs:List α)(f:α->Bool):Ae [.lst (xs.map fun x=>D.bl (f x))]=some (.bl (xs.any f)):=by
 have:xs.map (fun x=>D.bl (f x))=(xs.map f).map D.bl:=by rw[Io];rfl
 rw[this];simp only[Ae,Nq,FC,List.any_map];rfl
def Vy{tg:Tg}{g:DS->SR}(n:Nat)(en:Nat->D)(P:Nat->DS->Prop)(ρ:DS)(h0:P 0 ρ)
  (hs:∀i,i<n->∀ρ,P i ρ->∃df aG,L5 tg (en i) ρ=some df/\(g df=.nx aG\/g df=.ct aG)/\P (i+1) aG) :
  ∃av,l6 tg g ((List.range n).map en) ρ=.nx av/\P n av:=by
 have key:∀k s ρ,s+k=n->P s ρ->∃av,l6 tg g ((List.range' s k).map en) ρ=.nx av/\P n av:=by
  intro k;induction k with
  |zero=>intro s ρ e h;exact⟨ρ,rfl,by rwa [<-e]⟩
  |succ k ih=>
   intro s ρ e h
   obtain⟨df,aG,e1,e2,q⟩:=hs s (by lia) ρ h
   obtain⟨av,e',p'⟩:=ih (s+1) aG (by lia) q
   refine⟨av,?_,p'⟩
   rw[List.range'_succ,ng]
   rcases e2 with e2 |e2<;>simp only[l6,e1,e2,e']
 rw[List.range_eq_range']
 exact key n 0 ρ (by lia) h0
def yp(n:Nat)(g:Nat->D):((zD 0 ((List.range n).map g).length).zip ((List.range n).map g)).map (fun p=>D.tup [p.1,p.2])=(List.range n).map fun (i:Nat)=>D.tup [.int (i:Int),g i]:=by
 simp only[zD,gc,List.length_range];have:∀(l:List Nat),((l.map fun (i:Nat)=>D.int (0+i)).zip (l.map g)).map (fun p=>D.tup [p.1,p.2])=l.map fun (i:Nat)=>D.tup [.int (i:Int),g i]:=fun l=>by
  induction l with
  |nil=>rfl
  |cons a r ih=>simp only[Int.zero_add]at ih⊢;simp only[ng,GR,ih]
 exact this _
def ql(xs:List α)(d:α):xs=(List.range xs.length).map fun i=>xs.getD i d:=by
 apply List.ext_getElem?;intro i;by_cases h:i<xs.length
 . rw[FF,List.getElem?_range h,FC,ro,ET h];rfl
 . rw[FN (by lia),FN (by simp;lia)]
def y40(ns:List Int):isT "list" (L ns)=true:=by simp only[L,isT,HW]
def zzx(m:List Bool)(ρ:DS):t6 false m ρ=frz m ρ:=rfl
def y41(ρ:DS):frz [] ρ=ρ:=by cases ρ<;>rfl
def y42(b:Bool)(m:List Bool)(s:Sl)(r:DS):frz (b::m) (s::r)=s.frz b::frz m r:=rfl
def zzy(b:Bool)(d:D):Sl.frz b (.im d)=.im d:=rfl
def zur(d:D):Sl.frz false (.ow d)=.ow d:=rfl
def zus(d:D):Sl.frz true (.ow d)=.im d:=rfl
def Hm(h:-(2 ^ 64)<i/\i<2 ^ 64):J1 (.int i) (.int j)=some (.int (i * j)):=by unfold J1;rw[Dk,ξ (show CMul i j from Or.inl h)]
def Qd(h:-(2 ^ 64)<j/\j<2 ^ 64):J1 (.int i) (.int j)=some (.int (i * j)):=by unfold J1;rw[Dk,ξ (show CMul i j from Or.inr h)]
def k7(h:0<j):j8 (.int i) (.int j)=some (.int (i % j)):=by unfold j8;rw[Dk,ξ h]
def R5(h:0<j/\j<1073741824):J0 (.int i) (.int j)=some (.int (i / j)):=by unfold J0;rw[Dk,ξ (show R0 i j from h)]
def wv(hj:-100000<=j/\j<=100000):-(2 ^ 62)<=j/\j<2 ^ 62:=by lia
def y43(j:Int)(hj:-100000<=j/\j<=100000)(h:fs ρ=.ok [.int j]):Ad fs ρ=.ok (zD 0 j.toNat):=by unfold Ad;rw[h,R.bind_ok];show R.of (if _ then _ else _)=_;rw[ξ (wv hj)];rfl
def zuv(ds:List D):items (.lst ds)=some ds:=rfl
def zuw(ds:List D):items (.tup ds)=some ds:=rfl
def zm3(ds:List D):keeps false (.lst ds)=false:=by simp only[keeps,D.noL,EW,FV]
noncomputable def T2(p:Int×Int):D:=.tup [.int p.1,.int p.2]
noncomputable def S9{α:Type}(lt:α->α->Bool)(d:α):List α->List α
 | []=>[d]
 |e::r=>if lt e d=true then e::S9 lt d r else d::e::r
def R4{α:Type}(lt:α->α->Bool):List α->List α
 | []=>[]
 |d::r=>S9 lt d (R4 lt r)
section
variable {α:Type}(f:α->D)
theorem Vx(d:α):∀l:List α,K5 (f d) (l.map f)=(S9 (fun a b=>ltT (f a) (f b)) d l).map f
 | []=>rfl
 |e::r=>by
  simp only[ng,K5,S9];split
  . rw[ng,Vx d r]
  . rfl
theorem Ml:∀l:List α,E5 (l.map f)=(R4 (fun a b=>ltT (f a) (f b)) l).map f
 | []=>rfl
 |d::r=>by simp only[ng,E5,R4,Ml r,Vx]
variable (lt:α->α->Bool)
theorem Xi(d:α):∀l:List α,(S9 lt d l).Perm (d::l)
 | []=>.refl _
 |e::r=>by
  unfold S9;split
  . exact((Xi d r).cons e).trans (.swap d e r)
  . exact .refl _
theorem Nb:∀l:List α,(R4 lt l).Perm l
 | []=>.refl _
 |d::r=>(Xi lt d (R4 lt r)).trans ((Nb r).cons d)
end
def so2(ls:List (Int×Int)):List (Int×Int):=R4 (fun a b=>ltT (T2 a) (T2 b)) ls
def wu(ls:List (Int×Int)):E5 (ls.map T2)=(so2 ls).map T2:=Ml _ _
def Lp(ls:List (Int×Int)):(so2 ls).Perm ls:=Nb _ _
def Ka(xs:List α)(f:α->D)(p:D->Bool)(h:∀x,p (f x)=true):(xs.map f).all p=true:=by rw[EV];intro d hd;obtain⟨x,_,rfl⟩:=GV.mp hd;exact h x
def Sc(xs:List α)(f:α->D)(h:∀x,(f x).oi=true):ois (xs.map f)=true:=
 ois_mem.mpr fun d hd=>by obtain⟨x,_,rfl⟩:=GV.mp hd;exact h x
def Ku(xs:List α)(f:α->D)(n:Nat)(h:∀x,(f x).dep<=n):l7 (xs.map f)<=n:=by
 induction xs with
 |nil=>simp only[GK,l7,FX]
 |cons a r ih=>simp only[ng,l7];have:=h a;lia
def Sb(xs:List α)(f:α->D)(h:∀x,(f x).pl=true):pls (xs.map f)=true:=by
 induction xs with
 |nil=>simp only[GK,pls]
 |cons a r ih=>simp only[ng,pls,h a,ih,GJ]
def y44(p:Int×Int):(T2 p).oi=true:=by simp[T2,D.oi,ois]
def Bf(p:Int×Int):(T2 p).dep<=1:=by simp[T2,D.dep,l7]
def Ap(p:Int×Int):(T2 p).pl=true:=by simp[T2,D.pl,pls]
def F3(p:Int×Int):(T2 p).noL=true:=by simp[T2,D.noL,i3]
def y00(p q:Int×Int):(i7 (T2 p) (T2 q)).isSome=true:=by simp only[T2,i7,t7];repeat (first |rfl |split)
def y45(ds:List D):isT "list" (.lst ds)=true:=by simp only[isT,HW]
def y46(b:Bool):T3 [.bl b]=some (.int (if b then 1 else 0)):=rfl
def y01(ds:List D):Cz [.lst ds]=some (.lst ds):=rfl
def zuy(ds:List D):O8 [.lst ds]=some (.tup ds):=rfl
def zph(ls:List (Int×Int)):i3 (ls.map T2)=true:=F4 _ _ fun x _=>F3 x
def Jz(h:ls.length<100000):F5 (.lst (ls.map T2)) [.tup [.int a,.int b]]=some (.lst ((ls++[(a,b)]).map T2)):=by simp only[F5,gc,h,FQ,GA,ng,GK];rfl
def Lo(hp:d.pl=true)(hd:d.dep<=20):dEq d d=some (.bl true):=by unfold dEq;rw[ξ ⟨hp,hp,hd⟩,Lz d hp]
def y47(t:Int×Int):dIx (T2 t) (.int 0)=some (.int t.1):=Ug _ _
def y48(t:Int×Int):dIx (T2 t) (.int 1)=some (.int t.2):=xO _ _ _
section
variable {K:Frag}
noncomputable def Co:D->List D->Option D
 | .lst ds,[.int i]=>if 0<=i/\i<ds.length/\i<2 ^ 63 then some (.lst (ds.eraseIdx i.toNat)) else none
 |_,_=>none
theorem RDs.erase:∀{ds:List D}{xs:List V},RDs K H ds xs->∀k,RDs K H (ds.eraseIdx k) (xs.eraseIdx k)
 |ds,xs,r,k=>by rw[HK,HK];exact(r.take _).append (r.drop _)
def y03:T9 K Co Ta:=by
 intro H0 H a d d' ds vs Q s h0 ob r hm k;unfold Co at hm;split at hm<;>first |cases hm |skip
 split at hm<;>cases hm;rename_i es i hl;simp only[OB]at ob;obtain⟨xs,hx,rx⟩:=ob;obtain⟨y,rfl,q1⟩:=r.uno;cases q1.int;obtain⟨l0,l1,l2⟩:=hl;have ax:i.toNat<xs.length:=by rw[<-rx.length];lia
 refine⟨a,xs,i,i.toNat,xs[i.toNat],rfl,rfl,hx,by lia,l2,?_,ET ax,k _ _ ?_⟩
 . unfold seqIndex?;have e:(if i<0 then i+(xs.length:Int) else i)=i:=ψ (by lia);simp only[e];rw[ξ];simp only[gq,pW]
   lia
 . simp only[OB];exact⟨_,j9,rx.erase _⟩
end
noncomputable def N3:List D->Option D
 | [.int i]=>if i.natAbs.log2<1920 then some (.str (Str.ofString (toString i))) else none
 |_=>none
def jN:List V->Hp->VK->Prop:=fun xs H Q=>∃i:Int,xs=[.int i]/\i.natAbs.log2<1920/\Q (.str (Str.ofString (toString i))) H
def Hl:CallR X (.type "str") jN:=by intro pins s σ H xs us Q I r h;obtain⟨i,rfl,hi,q⟩:=h;obtain⟨u,rfl,ru⟩:=r6 r;obtain⟨t,rfl⟩:=ru;exact PySem.P.str_of_int hi ⟨.str _,H,I.tok _,⟨_,rfl⟩,q⟩
def Jy{K:Frag}:x5 K false N3 jN:=by
 intro H0 H xs ds z Q s r ho k;unfold N3 at ho;split at ho<;>first | (cases ho;done) |skip
 split at ho<;>first | (cases ho;done) |skip
 rename_i hi;cases ho;obtain⟨x,rfl,q1⟩:=r.uno;cases q1.int;exact⟨_,rfl,hi,k _ H (.pure s (.mkStr _))⟩
noncomputable def hid(as:List Addr)(H:Hp):Hp:=fun b=>if b∈as then none else H b
def y04(h:a∈as):hid as H a=none:=ξ h
def Ud(h:a∉as):hid as H a=H a:=ψ h
def Kt{α:Type}{l:List α}{i j:Nat}{x y:α}(h:(l.set i x)[j]?=some y):(i=j/\x=y)\/(i≠j/\l[j]?=some y):=by
 by_cases e:i=j
 . subst e;by_cases hl:i<l.length
   . rw[GC hl]at h;exact .inl ⟨rfl,Option.some.inj h⟩
   . rw[FN (by rw[List.length_set];lia)]at h;cases h
 . rw[FI e]at h;exact .inr ⟨e,h⟩
section
open PySem.SeqAt
open PySem.AutoSeq1 (wpAny_loadPart')
open PySem.MeetsSeq PySem.MeetsSeq2 PySem.MeetsSeq3
end
noncomputable def TuI(ns:List Int):D:=.tup (ns.map .int)
theorem Ln:∀ns:List Int,ois (ns.map D.int)=true/\l7 (ns.map D.int)=0
 | []=>by simp[ois,l7]
 |n::ns=>by have:=Ln ns;simp only[ng,ois,l7,D.oi,D.dep,this.1,this.2,GJ,Nat.max_self,and_self]
def y05(ns:List Int):(TuI ns).oi=true:=by simp only[TuI,D.oi];exact(Ln ns).1
theorem Xh:∀a b:List Int,∃r,t7 (a.map D.int) (b.map D.int)=some r
 | [],[]=>⟨_,rfl⟩
 | [],_::_=>⟨_,rfl⟩
 |_::_,[]=>⟨_,rfl⟩
 |x::a,y::b=>by
  simp only[ng,t7];split
  . exact Xh a b
  . exact⟨_,rfl⟩
end L2
namespace L2
open PySem PySem.Spec PyProof.Rows
section
open PySem.SeqAt
open PySem.AutoSeq1 (wpAny_loadPart')
end
end L2
namespace L2
open PySem PySem.Spec PyProof.Rows
section
open PySem.SeqAt
open PySem.AutoSeq1 (wpAny_loadPart')
end
end L2
namespace L2
open PySem PySem.Spec PyProof.Rows
section
open PySem.SeqAt
open PySem.AutoSeq1 (wpAny_loadPart')
end
end L2
namespace L2
open PySem PySem.Spec PyProof.Rows
section
open PySem.SeqAt
open PySem.AutoSeq1 (wpAny_loadPart')
end
section
open PySem.SeqAt
open PySem.AutoSeq1 (wpAny_loadPart')
end
end L2
namespace L2
open PySem PySem.Spec PyProof.Rows
section
open PySem.SeqAt
open PySem.AutoSeq1 (wpAny_loadPart')
end
end L2
namespace L2
open PySem PySem.Spec PyProof.Rows
section
open HT
open PySem.SeqAt
open PySem.AutoSeq1 (wpAny_loadPart')
open PySem.MeetsSeq PySem.MeetsSeq2 PySem.MeetsSeq3
end
end L2
namespace L2
open PySem PySem.Spec PyProof.Rows
abbrev Kp(is:List Nat)(σ ag:St):Prop:=∀i∈is,ag[i]?=σ[i]?
noncomputable def qk(is:List Nat)(De:Ends)(σ:St):Ends:={ De with nx:=fun ag H'=>Kp is σ ag->De.nx ag H',bk:=fun ag H'=>Kp is σ ag->De.bk ag H',ct:=fun ag H'=>Kp is σ ag->De.ct ag H' }
def TSk(K:Frag)(EX:XW)(is:List Nat)(g:DS->SR):TS:=fun De σ H=>TSd K EX false g (qk is De σ) σ H
structure QK(X:Cx)(EX:XW)(is:List Nat)(st:Stmt)(g:DS->SR):Prop where
 h:PS X st (TSk X.K EX is g)
structure QKB(X:Cx)(EX:XW)(is:List Nat)(sts:List Stmt)(g:DS->SR):Prop where
 h:PSs X sts (TSk X.K EX is g)
section
variable {X:Cx}{EX:XW}{is:List Nat}{st:Stmt}{c:Expr}{t:DE->R Bool}{g g1 g2:DS->SR}{pos:Pos}
def y07:QKB X EX is [] sNx:=⟨pss_nil.imp fun _ _ _ q=>(jU q) fun _ _=>rfl⟩
def Dj(h:QK X EX is st g):QKB X EX is [st] g:=⟨Vh h.h⟩
def jM(hc:QT X EX c t)(ha:QKB X EX is x g1)(hb:QKB X EX is y g2):QK X EX is (.If c x y pos) (sIf t g1 g2):=⟨(Qx hc.h ha.h hb.h).imp fun _ _ _ q=>Ql q⟩
end
theorem RDs.atR{K:Frag}{H:Hp}:∀{ds:List D}{ws:List V},RDs K H ds ws->∀(i:Nat) d,ds[i]?=some d->∃w,ws[i]?=some w/\RD K H d w
 | [],_,_,i,d,q=>by simp at q
 |e::es,_,r,i,d,q=>by
  simp only[RDs]at r;obtain⟨y,ys,rfl,r1,r2⟩:=r;cases i with
  |zero=>cases q;exact⟨y,rfl,r1⟩
  |succ i=>exact RDs.atR r2 i d q
section
variable {K:Frag}{σ:St}{H:Hp}
def RS.hidden(R:RS K Hc Hb H0 ρ σ H)(q:ρ[i]?=some (.ow d))(h1:σ[i]?=some (some (.ref a)))(s':Same (hid [a] H) H')(e':Ext H0 (hid [a] H) ae H')(n':ae a=none)(ob:OB K ae H' a d'):RS K Hc Hb ae (ρ.set i (.ow d')) σ H':=by
 obtain⟨a',z1,z2,z3,z4⟩:=R.ow i d q;rw[h1]at z1;cases z1;have sM:Same Hb (hid [a] H):=fun b o hb=>by rw[Ud fun hm=>by rw[FJ.mp hm,z3]at hb;cases hb];exact R.sb b o hb
 refine⟨sM.trans s',⟨R.ext.1.trans e'.1,e'.2.1,fun b hb hc=>e'.nt (sM.ne hb) (R.ext.2.2 b hb hc)⟩,by simp[R.len],fun j e qj=>?_,fun j e qj=>?_,fun j k e1 e2 b q1 q2 s1 s2=>?_⟩
 . rcases Kt qj with⟨_,z⟩ |⟨_,qj⟩
   . cases z
   . obtain⟨v,v1,v2⟩:=R.im j e qj;exact⟨v,v1,v2.mono e'.1⟩
 . rcases Kt qj with⟨e0,z⟩ |⟨ne,qj⟩
   . subst e0;cases z;exact⟨a,h1,n',z3,ob⟩
   . obtain⟨b,b1,b2,b3,b4⟩:=R.ow j e qj;have na:b∉[a]:=fun hm=>ne (R.ap i j _ _ _ q qj h1 (by rw[b1,FJ.mp hm]))
     obtain⟨o,ho,ni⟩:=b4.some;have hh:hid [a] H b=some o:=by rw[Ud na];exact ho
     refine⟨b,b1,e'.no s' hh ni b2,b3,?_⟩;exact(b4.at (by rw[ho];exact s' b o hh)).mono e'.1 (Same.refl _)
 . have dH:∀(j:Nat) e,(ρ.set i (.ow d'))[j]?=some (.ow e)->∃e0,ρ[j]?=some (.ow e0):=fun j e qj=>by
    rcases Kt qj with⟨e0,_⟩ |⟨_,qj⟩
    . subst e0;exact⟨_,q⟩
    . exact⟨_,qj⟩
   obtain⟨x1,y1⟩:=dH j e1 q1
   obtain⟨x2,y2⟩:=dH k e2 q2
   exact R.ap j k _ _ b y1 y2 s1 s2
end
end L2
set_option maxHeartbeats 1000000
namespace L2
open PySem PySem.Spec PyProof.Rows
def Cn(K:Frag)(mU:List D->R D)(n:Nat):Sp:=fun vs H Q _=>∃(d0 d:D)(ds:List D)(v0:V)(a:Addr)(ws:List V)(H0:Hp),vs=v0::.ref a::ws/\ds.length+2=n/\Same H0 H/\H0 a=none/\OB K H0 H a d/\RD K H0 d0 v0/\RDs K H0 ds ws /\
 Rk (fun _=>False) (mU (d0::d::ds)) fun d'=>∀H' ae,Same (hid [a] H) H'->Ext H0 (hid [a] H) ae H'->ae a=none->OB K ae H' a d'->Q .non H'
noncomputable def Cw(n k:Nat)(g:DS->SR):List D->R D
 |d0::d::r=>if r.length+2=n then(match g (.im d0::.ow d::(r.map .im++List.replicate k .em)) with
  | .nx (_::.ow d'::_)=>.ok d'
  |_=>.st) else .st
 |_=>.st
def wt{K:Frag}{H0 H:Hp}{d0 d:D}{ds:List D}{v0:V}{a:Addr}{ws:List V}(s:Same H0 H)(h0:H0 a=none)(ob:OB K H0 H a d)(r0:RD K H0 d0 v0)(r:RDs K H0 ds ws)(k:Nat) :
  RS K H0 (hid [a] H) H0 (.im d0::.ow d::(ds.map .im++List.replicate k .em)) (some v0::some (.ref a)::(ws.map some++List.replicate k none)) H:=by
 have hl:=r.length
 have tail:∀(i:Nat)(s:Sl),(ds.map Sl.im++List.replicate k Sl.em)[i]?=some s->s=.em\/∃e,s=.im e/\ds[i]?=some e:=fun i s q=>by
  by_cases hi:i<ds.length
  . rw[FL (by simpa using hi),FF,ET hi]at q;exact .inr ⟨ds[i],(Option.some.inj q).symm,ET hi⟩
  . rw[FZ (by simpa using hi)]at q;exact .inl (List.mem_replicate.mp (FP q)).2
 have one:∀(i:Nat) e,(Sl.im d0::Sl.ow d::(ds.map Sl.im++List.replicate k Sl.em))[i]?=some (.ow e)->i=1/\d=e:=fun i e q=>by
  match i,q with
  | 0,q=>cases q
  | 1,q=>cases q;exact⟨rfl,rfl⟩
  |i+2,q=>rcases tail i _ q with z |⟨_,z,_⟩<;>cases z
 refine⟨fun b o h=>?_,⟨Same.refl _,s,fun a ha e=>.inl e⟩,by simp[hl],fun i e q=>?_,fun i e q=>?_,fun i j e e' b qi qj si sj=>?_⟩
 . unfold hid at h;split at h
   . cases h
   . exact h
 . match i,q with
   | 0,q=>cases q;exact⟨v0,rfl,r0⟩
   | 1,q=>cases q
   |i+2,q=>
    rcases tail i _ q with z |⟨e',z,q'⟩
    . cases z
    . cases z;obtain⟨w,hw,cE⟩:=r.atR i e q';refine⟨w,?_,cE⟩;have hi:i<ws.length:=by apply GO;intro hn;rw[FN (by omega)]at hw;cases hw
      show(ws.map some++List.replicate k none)[i]?=_;rw[FL (by simpa using hi),FF,hw];rfl
 . obtain⟨rfl,rfl⟩:=one i e q;exact⟨a,rfl,h0,y04 (FJ.mpr rfl),ob⟩
 . obtain⟨rfl,_⟩:=one i e qi;obtain⟨rfl,_⟩:=one j e' qj;rfl
def y7e{P:Program}{w:World}{K:Frag}{mg:Str->Option Value}{base:Heap}{x qual:Str}{st:Stmt}{f:Addr}{fd:FuncData}{N ps:List Str}{k n kk:Nat}{g:DS->SR}(F:Fun K x qual st f fd)(S:FnScope N ps (g0 st))(oY:ps.length=n)(hN:N.length=n+kk)
  (cY:∀(cdv:Value)(A:Around)(outer:List Env)(s:Shared)(H:Hp)(E:XK),Room k (A.deeper (envOfC qual (g0 st) s.heap.objs.size f cdv)) ->
   QKB (B5 (CX1 P w) P w K mg base N qual (g0 st) f cdv A outer s H E) F0 [1] (C1 st) g):FnOk P w K mg base (CX1 P w) (k+1) f fd ps (Cn K (Cw n kk g) n):=by
 refine F.okX S (fun vs H Q E h=>?_) (fun cdv A outer s H vs Q E hr h=>?_)
 . obtain⟨d0,d,ds,v0,a,ws,H0,rfl,hn,_,_,_,_,r,_⟩:=h;rw[gV,gV,<-r.length,oY];exact hn
 . refine⟨_,(cY cdv A outer s H E hr).h,?_⟩;obtain⟨d0,d,ds,v0,a,ws,H0,rfl,hn,s0,h0,ob,r0,r,h⟩:=h;have hl:=r.length;have e:E8 N (v0::.ref a::ws)=some v0::some (.ref a)::(ws.map some++List.replicate kk none):=by unfold E8;rw[gV,gV,hN,<-hl,show n+kk - (ds.length+1+1)=kk by omega];rfl
   rw[e];refine⟨H0,hid [a] H,H0,_,F0.same _,wt s0 h0 ob r0 r kk,?_⟩;unfold Cw at h;simp only at h;rw[ξ hn]at h;cases q:g (Sl.im d0::Sl.ow d::(ds.map Sl.im++List.replicate kk Sl.em)) with
   |nx ρ=>
    rw[q]at h
    intro ag H' ae RR kp
    match ρ,h,RR with
    |_::.ow d'::r',h,RR=>
     obtain⟨a',z1,z2,z3,z4⟩:=RR.ow 1 d' rfl
     have:=kp 1 (FJ.mpr rfl)
     rw[z1]at this
     cases this
     exact h H' ae RR.sb RR.ext z2 z4
    | [],h,_=>exact h.elim
    | [_],h,_=>exact h.elim
    |_::.im _::_,h,_=>exact h.elim
    |_::.em::_,h,_=>exact h.elim
   |rt d=>rw[q]at h;exact h.elim
   |er x=>rw[q]at h;exact h.elim
   |bk ρ=>rw[q]at h;exact h.elim
   |ct ρ=>rw[q]at h;exact h.elim
   |st=>rw[q]at h;exact h.elim
def V1(i:Nat)(m:List Bool)(mU:List D->R D)(n:Nat)(f0:DE->R D)(fs:DE->R (List D)):DS->SR:=fun ρ=>match ρ[i]? with
 |some (.ow _)=>(a6 f0 fs (vis m ρ)).toS fun uZ=>match uZ with
  |d0::ds=>(match (t6 (i3 (d0::ds)) m ρ)[i]? with
   |some (.ow d)=>if ds.length+2=n then(match mU (d0::d::ds) with
    | .ok d'=>.nx ((t6 (i3 (d0::ds)) m ρ).set i (.ow d'))
    |_=>.st) else .st
   |_=>.st)
  | []=>.st
 |_=>.st
section
variable {K:Frag}{EX:XW}{fr:Bool}{De:Ends}{σ:St}{H:Hp}{m:List Bool}
def y09(h:TSd K EX fr (V1 i m mU n f0 fs) De σ H) :
  O3 (Bk (Cn K mU n) E (F9 (TEd K EX false f0) (F9 (E0 i) (TAd K EX fs)))) De σ H:=by
 obtain⟨Hc,Hb,H0,ρ,sb,R,h⟩:=h
 unfold V1 at h
 split at h
 . rename_i dq q0;rw[SK.toS]at h;obtain⟨a,h1,h2,h3,h4⟩:=R.ow i dq q0;unfold a6 at h;rw[Rk.bind]at h;unfold O3 Bk F9 E0;refine TEd.go (sb.trans R.sb) (R.heH m) (R.re m) h fun d0 h v0 H1 ao s1 e1 r1=>?_
   rw[h1];rw[Rk.bind]at h;refine TAd.go ((sb.trans R.sb).trans s1) e1.2.1 ((R.re m).mono e1.1) h fun ds h vs H2 aY s2 e2 oO=>?_
   obtain⟨aQ,R',mM⟩:=R.outs (ds:=d0::ds) (vs:=v0::vs) (s1.trans s2) (e1.trans s1 e2) (by simp only[RDs];exact⟨_,_,rfl,r1.mono e2.1,oO⟩);simp only[RDs]at mM;obtain⟨_,_,ev,AA,AB⟩:=mM;cases ev;have h:SK K EX fr Hc Hb De (match (t6 (i3 (d0::ds)) m ρ)[i]? with
    |some (.ow d)=>if ds.length+2=n then(match mU (d0::d::ds) with
     | .ok d'=>.nx ((t6 (i3 (d0::ds)) m ρ).set i (.ow d'))
     |_=>.st) else .st
    |_=>.st):=h
   split at h
   . rename_i d q;split at h
     . rename_i hn;split at h
       . rename_i d' qm;obtain⟨a',z1,z2,z3,z4⟩:=R'.ow i d q;rw[h1]at z1;cases z1;refine⟨d0,d,ds,v0,a,vs,aQ,rfl,hn,R'.ext.2.1,z2,z4,AA,AB,?_⟩;rw[qm];exact fun H2 AC s2 e2 n2 ob=>h σ H2 AC (R'.hidden q h1 s2 e2 n2 ob)
       . exact h.elim
     . exact h.elim
   . exact h.elim
 . exact h.elim
end
section
variable {X:Cx}{EX:XW}{fr:Bool}
def y0a(G:i4 X.prog X.w X.K X.mg X.base fn ps kl (Cn X.K mU n))(hr:Room jj X.A)(hg:Gl X fn)(h0:QE X EX false e0 f0)(h1:PE X e1 (E0 i))(h2:QA X EX es fs)(cG:kl<=jj:=by omega)(aA:(fn==("__debug__":Str))=false:=by decide)
  (he0:starEach (e0::e1::es) X.env=(false,eval e0 X.env)::starEach (e1::es) X.env:=by rfl) (he:starEach (e1::es) X.env=(false,eval e1 X.env)::starEach es X.env:=by rfl) (hpl:(backTo cp (starEach (e1::es) X.env)).any (·.1)=false:=by rfl)
  (bZ:swapsWith (.Call (.Name fn fp) (e0::e1::es) [] cp) none pos.line X.env=pure false:=by rfl) :
  QS X EX fr (.Expr (.Call (.Name fn fp) (e0::e1::es) [] cp) pos) (V1 i m mU n f0 fs):=
 ⟨(Em (Kx G (T8 (X:=X)).on hr hg (P7 h0.h (P7 h1 h2.h he) he0) cG aA he0 hpl) bZ).imp fun _ _ _ q=>y09 q⟩
end
section
variable {X:Cx}{EX:XW}{is:List Nat}{e:Expr}{pos:Pos}{m:List Bool}
def qh{T id:String}{name:Str}{i:Nat}{x:Str}{xp bO ak:Pos}{es:List Expr}{fs:DE->R (List D)}{mt:D->List D->Option D}{rr:V->List V->Hp->VK->Prop}(pa:PlainAttrs T)(slot:Slot T name id)(eU:typeOf (.builtin id)=pure (.type "method_descriptor"))(hm:MtM X id rr)(od:T9 X.K mt rr)(hT:TyD X.K T)
  (ho:PE X (.Name x xp) (E0 i)) (ha:QA X EX (e::es) fs)
  (aU:attributeBase (.Name x xp) name X.env (eval (.Name x xp) X.env)=eval (.Name x xp) X.env:=by rfl)
  (dX:((backTo ak (starEach (e::es) X.env)).all (fun x=>!x.1)&&(backToKw ak (keywordEach [] X.env)).all (fun x=>x.1.isSome)
   && decide ((e::es).length+([]:List Keyword).length+(if([]:List Keyword).isEmpty then 0 else 1)<30))=true:=by rfl)
  (cZ:(bO.endLine==ak.line)=true:=by rfl) (hs:starEach (e::es) X.env=(false,eval e X.env)::starEach es X.env:=by rfl) (bY:(backTo ak (starEach es X.env)).any (·.1)=false:=by rfl)
  (bZ:swapsWith (.Call (.Attribute (.Name x xp) name bO) (e::es) [] ak) none pos.line X.env=pure false:=by rfl) :
  QK X EX is (.Expr (.Call (.Attribute (.Name x xp) name bO) (e::es) [] ak) pos) (E3 T mt i m fs):=⟨(Em (Jg pa slot eU hm ho ha.h aU dX cZ hs bY) bZ).imp fun De σ H q=>by
 have q:=Qk od hT q
 unfold O3 qk Kp at q
 unfold O3
 simp only[implies_true,true_implies]at q
 exact q⟩
end
section
variable {prog:Program}{w:World}{A:Around}{E:Value->Shared->Prop}{s:Shared}{l:Addr}{xs:Array (Int×Tok)}
def zj9(hh:A.handled=none)(hl:s.heap.IsTuple l (intItems xs))(aP:0<xs.size)
  (h:∀v h' tk,(intItems xs)[argBest (fun i j=>decide (numAt xs i > numAt xs j)) (xs.size - 1)]?=some v->(∀b o,s.heap.get? b=some o->h'.get? b=some o)->Q v { s with heap:=h',toks:=tk }) :
  wpAny (model prog w) A (call (.builtin "max") [.ref l]) Q E s:=by
 obtain⟨o,ho,_⟩:=id hl
 refine call_max_walk (wpAny_pyIter_tuple hl ?_)
 refine⟨_,[_,l],[_],_,_,_,_,rfl,Walks.tuple (A:=A.in1) hh _ l (ER (π ho)) (intItems xs),
  ⟨⟨_,Ψ _ rfl,rfl,rfl⟩,hl.push _⟩,fun c hc=>?_,by simpa [intItems] using aP,CmpOf.ints_gt (numAt xs) (fun _ _=>intItems_at),fun v h' tk hP hk=>?_⟩
 . show c<(s.heap.push _).objs.size;rw[Heap.size_push];rcases ee.mp hc with rfl |hc
   . exact Nat.lt_succ_self _
   . rw[FJ.mp hc];exact HR (π ho)
 . exact h v h' tk (by simpa [intItems] using hP) (fun b o e=>hk b o (fun hm=>by rcases ee.mp hm with e1 |hm;exact absurd (e1 ▸ π e) (χ _);cases hm) (τ _ e))
def zja(hh:A.handled=none)(hl:s.heap.IsTuple l (intItems xs))(aP:0<xs.size)
  (h:∀v h' tk,(intItems xs)[argBest (fun i j=>decide (numAt xs i<numAt xs j)) (xs.size - 1)]?=some v->(∀b o,s.heap.get? b=some o->h'.get? b=some o)->Q v { s with heap:=h',toks:=tk }) :
  wpAny (model prog w) A (call (.builtin "min") [.ref l]) Q E s:=by
 obtain⟨o,ho,_⟩:=id hl
 refine call_min_walk (wpAny_pyIter_tuple hl ?_)
 refine⟨_,[_,l],[_],_,_,_,_,rfl,Walks.tuple (A:=A.in1) hh _ l (ER (π ho)) (intItems xs),
  ⟨⟨_,Ψ _ rfl,rfl,rfl⟩,hl.push _⟩,fun c hc=>?_,by simpa [intItems] using aP,CmpOf.ints_lt (numAt xs) (fun _ _=>intItems_at),fun v h' tk hP hk=>?_⟩
 . show c<(s.heap.push _).objs.size;rw[Heap.size_push];rcases ee.mp hc with rfl |hc
   . exact Nat.lt_succ_self _
   . rw[FJ.mp hc];exact HR (π ho)
 . exact h v h' tk (by simpa [intItems] using hP) (fun b o e=>hk b o (fun hm=>by rcases ee.mp hm with e1 |hm;exact absurd (e1 ▸ π e) (χ _);cases hm) (τ _ e))
variable {h₀:Heap}{L:Addr}{m:Str->Option Value}{dZ:List (Addr×Obj)}
def zw(hh:A.handled=none)(F:Fr h₀ L s.heap m)(N:News h₀ L s.heap dZ)
  (hl:s.heap.IsTuple l vs.toArray) (hi:IntsAre vs ns) (aP:0<ns.length)
  (h:∀h' M (t:Tok) tk,Fr h₀ L h' m->News h₀ L h' dZ->M∈ns->(∀a,a∈ns->M<=a)->Q (.int M t) { s with heap:=h',toks:=tk }) :
  wpAny (model prog w) A (call (.builtin "min") [.ref l]) Q E s:=by
 obtain⟨xs,e⟩:=hi.allInts.items
 have bo:ns=xs.toList.map (·.1):=by rw[<-hi.numsOf,<-nums_intItems,<-e]
 have bB:0<xs.size:=by have h3:=aP;rw[bo,gc,FG]at h3;exact h3
 rw[e]at hl
 refine zja hh hl bB fun v h' tk hv hk=>?_
 obtain⟨t,rfl⟩:=intItems_at hv
 obtain⟨h1,h2⟩:=argBest_lt (numAt xs) (xs.size - 1)
 refine h _ _ t tk (F.grownK hk) (N.grown hk) ?_ fun a ha=>?_
 . rw[bo,numAt_eq];exact J8 (by rw[gc,FG];omega)
 . rw[bo]at ha;obtain⟨j,hj,rfl⟩:=mem_getD ha;rw[gc,FG]at hj;rw[<-numAt_eq];exact h2 j (by omega)
def zv(hh:A.handled=none)(F:Fr h₀ L s.heap m)(N:News h₀ L s.heap dZ)
  (hl:s.heap.IsTuple l vs.toArray) (hi:IntsAre vs ns) (aP:0<ns.length)
  (h:∀h' M (t:Tok) tk,Fr h₀ L h' m->News h₀ L h' dZ->M∈ns->(∀a,a∈ns->a<=M)->Q (.int M t) { s with heap:=h',toks:=tk }) :
  wpAny (model prog w) A (call (.builtin "max") [.ref l]) Q E s:=by
 obtain⟨xs,e⟩:=hi.allInts.items
 have bo:ns=xs.toList.map (·.1):=by rw[<-hi.numsOf,<-nums_intItems,<-e]
 have bB:0<xs.size:=by have h3:=aP;rw[bo,gc,FG]at h3;exact h3
 rw[e]at hl
 refine zj9 hh hl bB fun v h' tk hv hk=>?_
 obtain⟨t,rfl⟩:=intItems_at hv
 obtain⟨h1,h2⟩:=argBest_gt (numAt xs) (xs.size - 1)
 refine h _ _ t tk (F.grownK hk) (N.grown hk) ?_ fun a ha=>?_
 . rw[bo,numAt_eq];exact J8 (by rw[gc,FG];omega)
 . rw[bo]at ha;obtain⟨j,hj,rfl⟩:=mem_getD ha;rw[gc,FG]at hj;rw[<-numAt_eq];exact h2 j (by omega)
end
def R1:List D->Option D
 | [.tup ds]=>match B9 ds with
  |some (n::ns)=>some (.int (r9 n ns))
  |_=>none
 |_=>none
def V0:List D->Option D
 | [.tup ds]=>match B9 ds with
  |some (n::ns)=>some (.int (v6 n ns))
  |_=>none
 |_=>none
def qf:List V->Hp->VK->Prop:=fun xs H Q=>∃p n ns,xs=[.ref p]/\H p=some (.tup ((n::ns).map V.int))/\Q (.int (r9 n ns)) H
def qe:List V->Hp->VK->Prop:=fun xs H Q=>∃p n ns,xs=[.ref p]/\H p=some (.tup ((n::ns).map V.int))/\Q (.int (v6 n ns)) H
section
variable {X:Cx}{K:Frag}
def Jx(hc:X.calm=true):CallR X (.builtin "max") qf:=by
 intro pins s σ H xs us Q I r h;obtain⟨p,n,ns,rfl,hp,q⟩:=h;obtain⟨u,rfl,ru⟩:=r6 r;cases ru;obtain⟨its,rv,pl⟩:=I.tupA hp;obtain⟨m,hn,_⟩:=id I.loc;refine zv (I.ok.hd hc) (Att.fr_all hn) (X7 (g:=Att.noObjs s.heap) (L:=X.env.locals)) pl (Fw rv) (by simp) fun h' M t tk F N hM dy=>?_
 obtain⟨a1,a2⟩:=Br ns n;have e:M=r9 n ns:=Int.le_antisymm (a2 M hM) (dy _ a1);exact⟨.int M,H,I.frn hn F N,⟨t,rfl⟩,by rw[e];exact q⟩
def Sa(hc:X.calm=true):CallR X (.builtin "min") qe:=by
 intro pins s σ H xs us Q I r h;obtain⟨p,n,ns,rfl,hp,q⟩:=h;obtain⟨u,rfl,ru⟩:=r6 r;cases ru;obtain⟨its,rv,pl⟩:=I.tupA hp;obtain⟨m,hn,_⟩:=id I.loc;refine zw (I.ok.hd hc) (Att.fr_all hn) (X7 (g:=Att.noObjs s.heap) (L:=X.env.locals)) pl (Fw rv) (by simp) fun h' M t tk F N hM dy=>?_
 obtain⟨a1,a2⟩:=Ur ns n;have e:M=v6 n ns:=Int.le_antisymm (dy _ a1) (a2 M hM);exact⟨.int M,H,I.frn hn F N,⟨t,rfl⟩,by rw[e];exact q⟩
def Ks:x5 K false R1 qf:=by
 intro H0 H xs ds z Q s r ho k;unfold R1 at ho;split at ho<;>first |cases ho |skip
 split at ho<;>cases ho;rename_i es n ns hq;obtain⟨x,rfl,q1⟩:=r.uno;obtain⟨a,ys,rfl,ha,ra⟩:=q1.tup;have e:=X9 hq ra;subst e;exact⟨a,n,ns,rfl,s _ _ ha,k _ H (.pure s (.mkInt _))⟩
def Uc:x5 K false V0 qe:=by
 intro H0 H xs ds z Q s r ho k;unfold V0 at ho;split at ho<;>first |cases ho |skip
 split at ho<;>cases ho;rename_i es n ns hq;obtain⟨x,rfl,q1⟩:=r.uno;obtain⟨a,ys,rfl,ha,ra⟩:=q1.tup;have e:=X9 hq ra;subst e;exact⟨a,n,ns,rfl,s _ _ ha,k _ H (.pure s (.mkInt _))⟩
end
section
variable {X:Cx}{pins:List (Addr×Obj)}{σ:List (Option V)}{H1 H2:Hp}{s1 s2:Shared}{h' B:Heap}{Z:List Addr}{C a:Addr}{a0:Value}{od:Option Addr}
def zgh(I:Inv X pins σ H1 s1)(aF:X.stack=X.env::X.outer)(hex:X.ex=[])(eV:s2.os=s1.os)(dW:AllBare s2.gens)(un:Un (frs X.stack) [] H1 H2 s1.heap s2.heap)(hok:HOk X.prog X.w H2 s2.heap)
  (hZ:∀b∈Z,X.s₀.heap.get? b=none/\H2 b=none) (ha:s1.heap.get? a=none) (cF:H2 a=none) (keep:∀b o,s2.heap.get? b=some o->b∉Z->b∉frs X.stack->h'.get? b=some o)
  (bM:∀b∈frs X.stack,∀o,s2.heap.get? b=some o->∃sl,h'.get? b=some { o with slots:=sl }) (hB:∀b,B.get? b=none->b∈frs X.stack\/(X.s₀.heap.get? b=none/\H2 b=none)) (bD:Heap.FlyingW B X.outer a (.ref C) a0 h') (bE:p5 a od h') (eL:∀dx,od=some dx->s1.heap.get? dx=none) :
  XOut X.prog X.w X.outer X.H₀ X.s₀ C a od H2 { s2 with heap:=h' }:=by
 have base:Un X.fs [] X.H₀ H1 X.s₀.heap s1.heap:=hex ▸ I.base
 have F2:=I.stack2 un
 have sub:∀b∈frs X.outer,b∈frs X.stack:=fun b hb=>by
  rw[aF];unfold frs;cases q:X.env.frame with
  |none=>rw[FO,q];exact hb
  |some L=>rw[FO,q];exact bI _ hb
 have eG:∀b o,X.s₀.heap.get? b=some o->b≠X.env.locals:=fun b o e=>ER (ES (π e) I.ok.above)
 have fY:∀b o,X.s₀.heap.get? b=some o->b∉frs X.outer->b∉frs X.stack:=fun b o e hb z=>(ee.mp (I.stkSub b z)).elim (eG b o e) hb
 have aO:∀b,s1.heap.get? b=none->X.s₀.heap.get? b=none:=fun b e=>by
  cases q:X.s₀.heap.get? b with
  |none=>rfl
  |some o=>
   obtain⟨o',z⟩:=base.there b o q (by simp)
   rw[e]at z;cases z
 have lY:∀b o,X.s₀.heap.get? b=some o->b∉Z:=fun b o e hb=>by rw[(hZ b hb).1]at e;cases e
 have dj:∀b∈frs X.stack,H2 b=none:=fun b hb=>by obtain⟨_,o,ho,_⟩:=I.stack.mem hb;exact un.free b o ho (I.stkFree b hb) (by simp)
 refine⟨by show s2.os=_;rw[eV,I.os],dW,⟨fun b o e n hb _=>?_,fun b o e n hb _=>?_,fun b o e n _=>?_,fun b o e _=>?_,fun b xs e=>un.tups b xs (base.tups b xs e),fun b o u e=>un.frzs b o u (base.frzs b o u e),fun b ps e=>?_⟩,fun b o e=>?_,?_⟩
 . exact keep b o (un.keep b o (base.keep b o e n hb (by simp)) (base.free b o e n (by simp)) (fY b o e hb) (by simp)) (lY b o e) (fY b o e hb)
 . obtain⟨sl,e1⟩:=base.slot b o e n hb (by simp);obtain⟨gp,e2⟩:=un.slot b _ e1 (base.free b o e n (by simp)) (sub b hb) (by simp);obtain⟨lZ,e3⟩:=bM b (sub b hb) _ e2;exact⟨lZ,e3⟩
 . obtain⟨o1,e1⟩:=base.there b o e (by simp);exact un.free b o1 e1 (base.free b o e n (by simp)) (by simp)
 . obtain⟨o1,e1⟩:=base.there b o e (by simp);obtain⟨o2,e2⟩:=un.there b o1 e1 (by simp);by_cases hb:b∈frs X.stack
   . obtain⟨sl,e3⟩:=bM b hb _ e2;exact⟨_,e3⟩
   . exact⟨o2,keep b o2 e2 (lY b o e) hb⟩
 . obtain⟨m1,e1⟩:=base.tbls b ps e;obtain⟨m2,e2⟩:=un.tbls b _ e1;exact⟨m1++m2,by rw[e2,IL]⟩
 . refine(hok b o e).stay (fun c v hc q=>keep c v q (fun hz=>?_) fun hf=>?_) (fun _ q=>q) fun _ _ q=>q
   . have:=(hZ c hz).2;rcases hc with rfl |hc
     . rw[e]at this;cases this
     . rw[hc]at this;cases this
   . have:=dj c hf;rcases hc with rfl |hc
     . rw[e]at this;cases this
     . rw[hc]at this;cases this
 . obtain⟨_,_,_,oe,vs,T,oT,ts,he,⟨hc,h0⟩,hd,h1,eM,ck,hT,aV,h3⟩:=bD;have ma:X.s₀.heap.get? T=none/\H2 T=none:=by
    rcases hB T eM with z |z
    . obtain⟨_,o',aS,cJ⟩:=F2.mem z;obtain⟨sl,e3⟩:=bM T z o' aS;rw[hT]at e3;cases e3;exact absurd aV (cJ ts)
    . exact z
   exact⟨oe,vs,T,oT,ts,a0,he,hc,h0,hd,h1,ck,hT,aV,h3,aO a ha,ma.1,cF,ma.2,bE _ he,fun dx e=>aO dx (eL dx e)⟩
end
section
variable {M:Model}{A:Around}{E:Value->Shared->Prop}{s:Shared}{base:Heap}{l:List Env}{e L:Addr}{cls a0:Value}{od:Option Addr}
def zu(R:Heap.HeldW base l e cls a0 L s.heap)(hf:env.frame=some L)(h:Q () s):wpAny M A (noteFrame (.ref e) env) Q E s:=by obtain⟨iC,gT,hl,oe,vs,T,oT,ts,he,cM,hd,h1,eM,ck,hT,aV,h3⟩:=R;unfold noteFrame;simp only[hf];refine δ (wpAny_field he hd h1 ?_);rw[ξ (Eg T)];refine δ (wpAny_field hT aV h3 ?_);rw[ξ (by simp)];exact ω h
def zgi(R:Heap.HeldW base l e cls a0 L s.heap)(d:p5 e od s.heap)
  (h:∀h',Heap.HeldW base l e cls a0 L h'->s.heap.UpToSlots h'->p5 e od h'->(∀b,base.get? b≠none->h'.get? b=s.heap.get? b)->Q () { s with heap:=h' }):wpAny M A (setFlight (.ref e) (some L)) Q E s:=by
 obtain⟨iC,gT,hl,oe,vs,T,oT,ts,he,cM,hd,h1,eM,ck,hT,aV,h3⟩:=R
 have nF:3<ts.size:=(HF.mp h3).1
 have other:∀b,b≠T->(s.heap.update T (Obj.mapFields (·.setIfInBounds 3 ((some L).elim Value.none fun f=>rawInt f)))).get? b=s.heap.get? b:=
  fun b hb=>FS _ _ (GN hb)
 have eP:∀b o,s.heap.get? b=some o->(∀vs,o.data≠.fields vs)->b≠T:=fun b o hb gS q=>by rw[q,hT]at hb;injection hb with hb;subst hb;exact gS ts aV
 unfold setFlight
 refine δ (wpAny_field he hd h1 ?_)
 rw[ξ (Eg T)]
 refine wpAny_setField hT aV nF (h _ ⟨fun b o mf=>(other b fun q=>by rw[q,eM]at mf;cases mf).trans (iC b o mf),gT,
  hl.of_keeps fun b o hb gS=>⟨o,(other b (eP b o hb gS)).trans hb,rfl⟩,?_⟩ (fun b o hb gS=>⟨o.slots,(other b (eP b o hb gS)).trans hb⟩) (fun o ho=>d o ((other e (GN ck)).symm.trans ho)) fun b hb=>other b fun q=>hb (by rw[q];exact eM))
 exact⟨oe,vs,T,_,_,(other e (GN ck)).trans he,cM,hd,h1,eM,ck,Ia _ hT (Obj.isFreed_of_fields (Obj.data_mapFields aV _)),Obj.data_mapFields aV _,by simp[nF]⟩
def yo(R:Heap.HeldW base l e cls a0 L h)(hn:base.get? Cc=none)(hc:∃m,h.Ns Cc m)(hl:Cc∉frs l)(sb:Heap.SameBut Cc h h'):Heap.HeldW base l e cls a0 L h':=by
 obtain⟨iC,gT,bq,oe,vs,T,oT,ts,he,cM,hd,h1,eM,ck,hT,aV,h3⟩:=R;obtain⟨m,oc,es,ep,eR,bE,_⟩:=hc;have ne:∀{b o vs},h.get? b=some o->o.data=.fields vs->b≠Cc:=fun {b o vs} q1 q2 z=>by rw[z,eR]at q1;cases q1;rw[bE]at q2;cases q2
 refine⟨fun b o q=>(sb.2 b fun z=>by rw[z,hn]at q;cases q).trans (iC b o q),gT,?_,oe,vs,T,oT,ts,(sb.2 e (ne he hd)).trans he,cM,hd,h1,eM,ck,(sb.2 T (ne hT aV)).trans hT,aV,h3⟩;have all:∀k:List Env,(∀b∈frs k,b∈frs l)->h.FunFrames base k->h'.FunFrames base k:=by
  intro k;induction k with
  |nil=>intro _ _;trivial
  |cons env r ih=>
   rintro hs ⟨k1,⟨L',o,k2,k3,k4,k5⟩,k6⟩
   have m1:L'∈frs l:=hs L' (by unfold frs;rw[FO,k2];exact io)
   exact⟨k1,⟨L',o,k2,k3,(sb.2 L' fun z=>hl (z ▸ m1)).trans k4,k5⟩,ih (fun b hb=>hs b (by unfold frs;rw[FO,k2];exact bI _ hb)) k6⟩
 exact all l (fun _ hb=>hb) bq
end
section
variable {X:Cx}{pins:List (Addr×Obj)}{σ:List (Option V)}{H1 H2:Hp}{s1 s2:Shared}{C a Cc:Addr}{od:Option Addr}
def wq(I:Inv X pins σ H1 s1)(aF:X.stack=X.env::X.outer)(hex:X.ex=[])(hf:X.env.frame=some X.env.locals)(x:XOut X.prog X.w X.stack H1 s1 C a od H2 s2)
  (c0:X.s₀.heap.get? Cc=none) (cn:H1 Cc=none) (cm:∃m,s1.heap.Ns Cc m) (cf:Cc∉frs X.stack) {E E':Value->Shared->Prop} {Q:Shared->Prop} {RE:Shared->Prop}
  (h:∀s',XOut X.prog X.w X.outer X.H₀ X.s₀ C a od H2 s'->Q s')
  (hR:∀s':Shared,(∃m,s'.heap.Ns Cc m)->(∀h',Heap.SameBut Cc s'.heap h'->∀cenv:Env,cenv.frame=X.env.frame->wpAny (model X.prog X.w) X.A (PySem.passOn "comprehension.variables-let-go" (.ref a) cenv:Sem Value) (fun _ _=>False) (fun ev de=>ev=.ref a/\wpAny (model X.prog X.w) X.A (leaving X.env ev) (fun _ s3=>Q s3) E' de) { s' with heap:=h' })->RE s') :
  wpAny (model X.prog X.w) X.A (noteFrame (.ref a) X.env) (fun _ s'=>RE s') E s2:=by
 obtain⟨oe,vs,T,oT,ts,a0,he,hc,h0,hd,h1,ck,hT,aV,h3,na,nT,ha,gU,gW,eL⟩:=id x.fly
 have base:Un X.fs [] X.H₀ H1 X.s₀.heap s1.heap:=hex ▸ I.base
 have aO:∀b,s1.heap.get? b=none->X.s₀.heap.get? b=none:=fun b e=>by
  cases q:X.s₀.heap.get? b with
  |none=>rfl
  |some o=>
   obtain⟨o',z⟩:=base.there b o q (by simp)
   rw[e]at z;cases z
 have F2:=I.stack2 x.un
 obtain⟨m,oc,es,ep,eR,bE,bo⟩:=cm
 have lf:s2.heap.get? Cc=some oc:=x.un.keep Cc oc eR cn cf (by simp)
 have sN:H2 Cc=none:=x.un.free Cc oc eR cn (by simp)
 have dN:∀env∈X.stack,∀b,env.frame=some b->b∈a::T::Cc::frs X.stack:=fun env he b hb=>bI _ (bI _ (bI _ (GS.mpr ⟨env,he,hb⟩)))
 have bq:X.A.frames=some (X.env::X.outer):=by rw[<-aF];exact I.ok.frames
 have bD:Heap.FlyingW (hideAll s2.heap (a::T::Cc::frs X.stack)) (X.env::X.outer) a (.ref C) a0 s2.heap:=⟨fun b o q=>of_hideAll _ q,hideAll_none _ (.head _),aF ▸ funFrames_hide F2 dN,oe,vs,T,oT,ts,he,⟨hc,h0⟩,hd,h1,hideAll_none _ (.tail _ (.head _)),ck,hT,aV,h3⟩
 have bC:(hideAll s2.heap (a::T::Cc::frs X.stack)).get? Cc=none:=hideAll_none _ (.tail _ (.tail _ (.head _)))
 have AD:Cc∉frs (X.env::X.outer):=by rw[<-aF];exact cf
 have aC:a≠Cc:=fun z=>by rw[z,lf]at he;cases he;rw[bE]at hd;cases hd
 refine Ky (od:=od) bq hf bD (fun o ho=>by rw[he]at ho;cases ho;exact gW) fun h4 hh mq d4=>hR _ ?_ fun h5 sb cenv eN=>?_
 . obtain⟨sl,e4⟩:=mq Cc oc lf (fun vs z=>by rw[bE]at z;cases z);exact⟨m,_,es,ep,e4,bE,bo⟩
 obtain⟨EC,e4⟩:=mq Cc oc lf (fun vs z=>by rw[bE]at z;cases z)
 have sO:=yo hh bC ⟨m,_,es,ep,e4,bE,bo⟩ AD sb
 have d5:p5 a od h5:=fun o ho=>d4 o ((sb.2 a aC).symm.trans ho)
 obtain⟨_,_,_,ED,EF,T5,_,_,AE,_,lX,AF,_⟩:=id sO
 unfold PySem.passOn
 refine δ (wpAny_field (s:={ s2 with heap:=h5 }) AE lX AF ?_)
 rw[ψ (show ¬((Value.ref T5==Value.none)=true) from by simp),eN,hf]
 refine δ (zgi (s:={ s2 with heap:=h5 }) sO d5 fun h6 sP AG d6 _=>?_)
 refine wpAny_throw ⟨rfl,?_⟩
 unfold leaving
 refine δ (zu (s:={ s2 with heap:=h6 }) sP hf (Ef (s:={ s2 with heap:=h6 }) sP d6 fun h7 f AH d7=>h _ ?_))
 obtain⟨k1,k2,⟨_,_,k3⟩,k4⟩:=f
 show XOut _ _ _ _ _ _ _ _ _ { s2 with heap:=h7 }
 refine zgh (s2:=s2) (B:=hideAll s2.heap (a::T::Cc::frs X.stack)) (Z:=[a,T,Cc]) I aF hex x.os x.bare x.un x.hok (fun b hb=>?_) na ha (fun b o q hz gK=>k1 b o (hideAll_get _ q ?_)) (fun b hb o q=>?_) (fun b q=>?_) ⟨k1,k2,k3,k4⟩ d7 eL
 . simp only[ee,GI,or_false]at hb;rcases hb with rfl |rfl |rfl
   . exact⟨aO _ na,ha⟩
   . exact⟨aO _ nT,gU⟩
   . exact⟨c0,sN⟩
 . intro z;simp only[ee,GI,or_false]at hz z;rcases z with z |z |z |z
   . exact hz (.inl z)
   . exact hz (.inr (.inl z))
   . exact hz (.inr (.inr z))
   . exact gK z
 . obtain⟨_,o',aS,cJ⟩:=F2.mem hb;rw[q]at aS;cases aS;obtain⟨EG,e1⟩:=mq b o q cJ;have e2:h5.get? b=_:=(sb.2 b fun z=>cf (z ▸ hb)).trans e1;obtain⟨gp,e3⟩:=AG b _ e2 cJ;obtain⟨lZ,e5⟩:=AH b _ e3 cJ;exact⟨lZ,e5⟩
 . rcases Mo q with z |z
   . simp only[ee]at z;rcases z with rfl |rfl |rfl |z
     . exact .inr ⟨aO _ na,ha⟩
     . exact .inr ⟨aO _ nT,gU⟩
     . exact .inr ⟨c0,sN⟩
     . exact .inl z
   . refine .inr ⟨aO b ?_,x.hok.none z⟩;cases q1:s1.heap.get? b with
     |none=>rfl
     |some o=>
      obtain⟨o',e'⟩:=x.un.there b o q1 (by simp)
      rw[z]at e';cases e'
end
section
variable {M:Model}{A:Around}{E:Value->Shared->Prop}{s:Shared}{env:Env}
def qc(M:Model)(A:Around)(E:Value->Shared->Prop)(u:Value->Sem Unit)(P:Shared->Prop)(sc:Scope)(env:Env)(acc:Value)(ce:Env):Result->Shared->Prop:=fun r t=>match r with
 | .ok _=>wpAny M A (u acc) (fun _ t'=>∃m,t'.heap.Ns ce.locals m/\∀h',Heap.SameBut ce.locals t'.heap h'->P { t' with heap:=h' }) E t
 | .error x=>∃m,t.heap.Ns ce.locals m/\∀h',Heap.SameBut ce.locals t.heap h'->wpAny M A (PySem.passOn "comprehension.variables-let-go" x { ce with scope:=relabel sc env }:Sem Value) (fun _ _=>False) E { t with heap:=h' }
def zt{e:Expr}{sc:Scope}{pos:Pos}{nl first:Sem Value}{g:Comprehension}{gs:List Comprehension}{cl:List (Str×Addr)}{u:Value->Sem Unit}{P:Shared->Prop}
  (k1:clausesOf e=g::gs) (k2:∀y,foldedSetIterable g.iter env y=pure y) (k3:closureFor sc env=pure cl) (k4:sc.kind=.function) (k5:∀y∈sc.names,y.2=.local->sc.names.lookup y.1=some .local)
  (h:wpAny M A first (fun y af=>wpAny M A (pyIter y) (fun it aK=>wpAny M A nl (fun acc aa=>wpAny M A (newFunctionEnv sc env.globals cl [] env.qual none .none (some env)) (fun ce aL=>
   codeAny M A (.compStart e 0 it acc { ce with scope:=relabel sc env }) (qc M A E u P sc env acc ce) aL) E aa) E aK) E af) E s) :
  wpAny M A (comprehension e sc env pos nl false first (some u)) (fun _ t=>P t) E s:=by
 unfold comprehension
 rw[k3,k1]
 refine δ (thn h fun y af a1=>δ (HG (δ (wpAny_of_eq (k2 y) (δ (FA (thn a1 fun it aK a2=>wpAny_standIf (δ (thn a2 fun acc aa a3=>
  δ (ω (δ (thn a3 fun ce aL a4=>?_))))))))))))
 dsimp only
 have lc:∀y∈(sc.names.filter fun y=>(y.2==.local||y.2==.cell)&&y.1 != (".0":Str)).reverse,y.2=.local->Env.kindOf { ce with scope:=relabel sc env } y.1=some .local:=
  fun y hy hl=>IG (k5 y (HN.mp (List.mem_reverse.mp hy)).1 hl)
 refine FA (δ (wpAny_attempt (FA (wpAny_run (Iy a4 fun r t hr=>?_)))))
 cases r with
 |ok f=>
  refine δ (wpAny_rule (δ (FA (thn hr fun _ t' AI=>?_))))
  obtain⟨m,hn,hp⟩:=AI
  exact δ (wpAny_comp_letGo (cenv:={ ce with scope:=relabel sc env }) k4 _ t' m (fun y hy hl=>(GW.mp hy).elim (fun z=>lc y (List.mem_of_mem_drop z) hl) fun z=>lc y (List.mem_of_mem_take z) hl) hn fun h' m' _ sb=>ω (hp h' sb))
 |error x=>
  obtain⟨m,hn,hp⟩:=hr
  exact δ (FA (wpAny_comp_letGo (cenv:={ ce with scope:=relabel sc env }) k4 _ t m lc hn fun h' m' _ sb=>EU (hp h' sb) (fun _ _ f=>f.elim) fun _ _ y=>y))
end
def zjc{prog:Program}{w:World}{A:Around}{R:Result->Shared->Prop}{s:Shared}{au target iter:Expr}{aq:List Expr}{scope:Scope}{pos:Pos}{it acc:Value}{env:Env}(I:Nat->Shared->Prop)
  (turn:∀n s,I n s->wpAny (model prog w) A (pyNext it) (fun r af=>match r with
   |none=>R (.ok .next) af
   |some v=>wpAny (model prog w) A (letOwnedTupleGo target it v) (fun _ dU=>wpAny (model prog w) A (assign target env v) (fun _ aK=>
    wpAny (model prog w) A (forIn aq true fun c r=>if r=true then do let ok <-isTrue c env (eval c env);pure (ForInStep.yield ok) else pure (ForInStep.yield r)) (fun ok aa=>
     if ok=true then wpAny (model prog w) A (eval au env) (fun x aL=>
      wpAny (model prog w) A (call (.builtin "list.append") [acc,x]) (fun _ fT=>∃m,m<n/\I m fT) (fun _ _=>False) aL) (notedBy (model prog w) A env fun e s'=>R (.error e) s') aa
     else ∃m,m<n/\I m aa) (fun _ _=>False) aK) (fun _ _=>False) dU) (fun _ _=>False) af) (fun _ _=>False) s)
  (n:Nat) (h:I n s) :
  codeAny (model prog w) A (.compLoop (.ListComp au [⟨target,iter,aq,0⟩] scope pos) 0 it acc env) R s:=by
 refine codeAny_loop rfl I (fun n s hI=>?_) n h
 show wpAny _ A ((compTurn (.ListComp au [⟨target,iter,aq,0⟩] scope pos) 0 it acc env).onRaise (fun x=>do noteFrame x env;theTreesLotGoes x)) _ _ s
 refine wpAny_noted ?_
 rw[compTurn_list]
 refine δ (HG (δ (EU (turn n s hI) (fun r af bP=>?_) fun _ _ h'=>h'.elim)))
 cases r with
 |none=>exact ω bP
 |some v=>
  refine δ (EU bP (fun _ dU gF=>?_) fun _ _ h'=>h'.elim)
  refine δ (EU gF (fun _ aK iR=>δ (EU iR (fun ok aa dY=>?_) fun _ _ h'=>h'.elim)) fun _ _ h'=>h'.elim)
  cases ok with
  |false=>exact ω ⟨rfl,dY⟩
  |true=>
   exact δ (δ (EU dY (fun x aL iT=>δ (EU iT (fun _ fT iU=>ω (ω ⟨rfl,iU⟩)) fun _ _ h'=>h'.elim)) fun _ _ h'=>h'))
def jL(X:Cx)(Cc:Addr)(e:Value)(s':Shared):Prop:=(∃m,s'.heap.Ns Cc m)/\∀h',Heap.SameBut Cc s'.heap h'->∀ce:Env,ce.frame=X.env.frame->wpAny (model X.prog X.w) X.A (PySem.passOn "comprehension.variables-let-go" e ce:Sem Value) (fun _ _=>False) X.xe { s' with heap:=h' }
def P4(X:Cx)(sc:Scope)(N':List Str)(fp:List Addr)(aa:Shared)(cA:Hp):Cx:=
 { j7 X sc N' fp aa cA with xe:=notedBy (model X.prog X.w) X.A X.env (jL X aa.heap.objs.size) }
def Inv.toE(I:Inv (j7 X sc N' fp aa cA) pins σ H s):Inv (P4 X sc N' fp aa cA) pins σ H s:=
 ⟨⟨I.ok.mod,I.ok.kind,I.ok.glob,I.ok.blt,I.ok.above,I.ok.inj,I.ok.has,I.ok.cab,I.ok.hd,I.ok.frames,I.ok.stk,I.ok.exf,I.ok.bs,I.ok.bsz,I.ok.noex,I.ok.exfs,I.ok.funs,I.ok.frf⟩,I.os,I.bare,I.base,I.loc,I.cell,I.free,I.freeC,I.pin,I.hok,I.len⟩
def Inv.ofE(I:Inv (P4 X sc N' fp aa cA) pins σ H s):Inv (j7 X sc N' fp aa cA) pins σ H s:=
 ⟨⟨I.ok.mod,I.ok.kind,I.ok.glob,I.ok.blt,I.ok.above,I.ok.inj,I.ok.has,I.ok.cab,I.ok.hd,I.ok.frames,I.ok.stk,I.ok.exf,I.ok.bs,I.ok.bsz,I.ok.noex,I.ok.exfs,I.ok.funs,I.ok.frf⟩,I.os,I.bare,I.base,I.loc,I.cell,I.free,I.freeC,I.pin,I.hok,I.len⟩
section
variable {X:Cx}{sc:Scope}{tgs caps:List Str}{ix:List Nat}{pins:List (Addr×Obj)}{σ:St}{H:Hp}{s:Shared}{fp:List Addr}
variable {au tg iter:Expr}{aq:List Expr}{pos:Pos}{g:TG}{B:V->Hp->(List V->Hp->Prop)->Prop}{tt:TT}{te:TE}
def Zi(C:CompOk X sc caps ix)(hg:∀fp s H,PG (j7 X sc (tgs++caps) fp s H) tg g)
  (hB:∀(x:V)(aM cs:St)(H:Hp)(Q:St->Hp->Prop),aM.length=tgs.length->B x H (fun ah H2=>Q (ah.map some++cs) H2)->g x (aM++cs) H fun aR H2=>(∃ah:List V,ah.length=tgs.length/\aR=ah.map some++cs)/\Q aR H2)
  (ht:∀fp s H,PTs (j7 X sc (tgs++caps) fp s H) aq tt) (he:∀fp s H pins σ,Inv X pins σ H s->(∀b∈fp,o8 X pins H b)->PE (P4 X sc (tgs++caps) fp s H) au te)
  {J:It} {it:Addr} {tn:Nat->Heap->Prop} {Q:VK} {E:Value->Shared->Prop} (I2:Inv X pins σ H s) (T:Turn X.prog X.w X.K tg J fp it tn) (st:tn 0 s.heap) (hf:∀b∈fp,o8 X pins H b)
  (hw:∀D,H D=none->Jd J D B (D1 ix σ) tt te Q H) {RR:Value->Env->Result->Shared->Prop}
  (oh:∀D ce H' s' m,s'.heap.Ns ce.locals m->Inv X pins σ H' s'->o8 X pins H' ce.locals->Q (.ref D) H'->RR (.ref D) ce (.ok .next) s') (sQ:∀D ce e s',ce.frame=X.env.frame->jL X ce.locals e s'->RR (.ref D) ce (.error e) s') :
  wpAny (model X.prog X.w) X.A (newList []) (fun acc aa=>wpAny (model X.prog X.w) X.A (newFunctionEnv sc X.env.globals (t8 X.env.cells sc.names []) [] X.env.qual none .none (some X.env)) (fun cenv aL=>
   codeAny (model X.prog X.w) X.A (.compStart (.ListComp au [⟨tg,iter,aq,0⟩] sc pos) 0 (.ref it) acc { cenv with scope:=relabel sc X.env }) (RR acc cenv) aL) E aa) E s:=by
 refine wpAny_newObj_type (wpAny_newFunctionEnv C.ncell (by intro y hy;simp at hy) (fun bP dh di=>?_) C.kind)
 have I3:Inv X pins σ (upd H s.heap.objs.size (.lst [])) { s with heap:=s.heap.push { cls:=.type "list",dict:=none,data:=.seq ([]:List Value).toArray } }:=I2.lnew (t':=s.toks) (its:=[]) .nil (FX _)
 have oj:H s.heap.objs.size=none:=I2.fresh
 have lz:∀b∈fp,b<s.heap.objs.size:=fun b hb=>by obtain⟨o,e,_⟩:=T.obj _ _ st b hb;exact π e
 have ol:∀b∈fp,b≠s.heap.objs.size:=fun b hb=>ER (lz b hb)
 have iy:∀b∈fp,o8 X pins (upd H s.heap.objs.size (.lst [])) b:=fun b hb=>⟨by rw[d8 (ol b hb)];exact(hf b hb).1,(hf b hb).2⟩
 generalize om:({ s with heap:=s.heap.push { cls:=.type "list",dict:=none,data:=.seq ([]:List Value).toArray } }:Shared)=aa at I3 dh di⊢
 have fU:aa.heap=s.heap.push { cls:=.type "list",dict:=none,data:=.seq ([]:List Value).toArray }:=by rw[<-om]
 have dJ:tn 0 aa.heap:=T.keep _ _ _ st fun b _ o e=>by rw[fU];exact τ _ e
 have lA:∀b∈fp,b<aa.heap.objs.size:=fun b hb=>by rw[fU,Heap.size_push];exact HR (lz b hb)
 generalize ub:s.heap.objs.size=D at *
 have lB:∀b o,aa.heap.get? b=some o->bP.get? b=some o:=fun b o e=>di.extBut b o (ER (π e)) (τ _ e)
 have I4:=Yu (tgs:=tgs) (t':=aa.toks+([]:List (Str×Value)).length) C I3 iy lA dh lB
 have cL:tn 0 bP:=T.keep _ _ _ dJ fun b _ o e=>lB b o e
 have oo:∀b∈fp,(upd H D (.lst [])) b=none:=fun b hb=>(iy b hb).1
 generalize aX:j7 X sc (tgs++caps) fp aa (upd H D (.lst []))=Xc at I4
 have aE:Xc.prog=X.prog:=by rw[<-aX];rfl
 have bR:Xc.w=X.w:=by rw[<-aX];rfl
 have lC:Xc.K=X.K:=by rw[<-aX];rfl
 have bb:Xc.calm=true:=by rw[<-aX];exact C.calm
 have hA:Xc.A=X.A:=by rw[<-aX];rfl
 have cb:Xc.env=compEnvC sc (t8 X.env.cells sc.names []) aa.heap.objs.size X.env:=by rw[<-aX];rfl
 have gk:Xc.xe=fun _ _=>False:=by rw[<-aX];rfl
 have lD:=hg fp aa (upd H D (.lst []))
 have lE:=ht fp aa (upd H D (.lst []))
 have gl:=he fp aa (upd H D (.lst [])) pins σ I3 iy
 rw[aX]at lD lE
 obtain⟨gy,pI⟩:∃gy:Env,gy=newEnv sc aa.heap.objs.size X.env.globals (t8 X.env.cells sc.names []) X.env.qual none Value.none (some X.env) builtinsNs:=⟨_,rfl⟩
 have dO:gy.locals=aa.heap.objs.size:=by rw[pI];rfl
 have eN:gy.frame=X.env.frame:=by rw[pI];rfl
 obtain⟨W,⟨m0,w0⟩,turn⟩:=hw D oj
 have cz:∀{H':Hp},(∀b∈fp,H' b=none)->∀b∈fp,o8 Xc [] H' b:=fun {H'} hn b hb=>by
  refine⟨hn b hb,?_,?_,.inl ?_,fun x c e z=>?_,fun p hp=>?_⟩
  . rw[cb];exact ER (lA b hb)
  . rw[<-aX];intro z;obtain⟨_,h1,h2,_⟩:=hf b hb;rcases ee.mp (I3.stkSub b z) with q |q
    . exact h1 q
    . exact h2 q
  . rw[<-aX];exact hb
  . rw[cb]at e;exact(hf b hb).2.2.2.2.1 x c (C.sub I2 e) z
  . rw[<-aX]at hp;exact absurd (show p∈([]:List (Addr×Obj)) from hp) (by simp)
 have loop:∀aL:Shared,aL={ aa with heap:=bP,toks:=aa.toks+([]:List (Str×Value)).length } ->
   codeAny (model X.prog X.w) X.A (.compLoop (.ListComp au [⟨tg,iter,aq,0⟩] sc pos) 0 (.ref it) (.ref D) (compEnvC sc (t8 X.env.cells sc.names []) aa.heap.objs.size X.env)) (RR (.ref D) gy) aL:=by
  intro aL lF
  rw[<-aE,<-bR,<-hA,<-cb]
  refine zjc (fun n s'=>∃(i:Nat)(ys:List V)(aM:St)(H':Hp),aM.length=tgs.length/\Inv Xc [] (aM++D1 ix σ) H' s'/\tn i s'.heap/\(∀b∈fp,H' b=none)/\W i n ys H') ?_ m0
   ⟨0,[],List.replicate tgs.length none,upd H D (.lst []),by simp,by rw[lF];exact I4,by rw[lF];exact cL,oo,w0⟩
  rintro n s5 ⟨i,ys,aM,H5,oq,I5,eT,gJ,w5⟩
  obtain⟨uc,gG⟩:=turn i n ys H5 w5
  rcases gG with⟨stop,q⟩ |⟨go,step⟩
  . rw[aE,bR];refine thn (T.done Xc aE bR lC bb i [] s5 _ H5 _ I5 (cz gJ) eT stop) fun r s6 ⟨hr,I6⟩=>?_
    subst hr;obtain⟨m6,lG,_⟩:=I6.loc;rw[cb]at lG;have ou:∀b∈fp,(b∈X.ex\/X.s₀.heap.objs.size<=b)/\b≠X.env.locals/\(∀x c,X.env.cells.lookup x=some c->c≠b)/\∀p∈X.pn++pins,p.1≠b:=fun b hb=>⟨(hf b hb).2.2.2.1,(hf b hb).2.1,(hf b hb).2.2.2.2.1,(hf b hb).2.2.2.2.2⟩
    have eV:s6.os=aa.os:=by have:=I6.os;rw[<-aX]at this;exact this
    have ox:Un (frs X.stack) fp (upd H D (.lst [])) H5 aa.heap s6.heap:=by have:=I6.base;rw[<-aX]at this;exact this
    have iV:HOk X.prog X.w H5 s6.heap:=by have:=I6.hok;rw[aE,bR]at this;exact this
    have I7:Inv X pins σ H5 s6:=I3.call' eV ox iV I6.bare ou;refine oh D gy H5 s6 m6 (by rw[dO];exact lG) I7 ?_ q;rw[dO];have oy:H5 aa.heap.objs.size=none:=by have:=I6.free;rw[cb]at this;exact this
    exact I3.fpOk (ζ _) oy
  . rw[aE,bR];refine thn (T.item Xc aE bR lC bb i [] s5 _ H5 _ I5 (cz gJ) eT go) fun r s6 ⟨u,hr,h6⟩=>?_
    subst hr;refine thn h6 fun _ s7 ⟨x,H7,I7,r7,y7,gL,oz⟩=>?_
    have oA:=I7.pinned (cz oz) (T.obj _ _ gL);have aF:=lD _ s7 _ H7 x u _ oA r7 (hB x aM (D1 ix σ) H7 (fun aR H2=>tt aR H2 fun b H3=>if b=true then te aR H3 fun y H4=>H4 D=some (.lst ys)/\ys.length<sizeLine/\∃m',m'<n/\W (i+1) m' (ys++[y]) (upd H4 D (.lst (ys++[y]))) else ∃m',m'<n/\W (i+1) m' ys H3) oq (step x H7 y7));rw[aE,bR,gk]at aF;refine thn aF fun _ s8 ⟨oB,H8,I8,⟨ah,lH,iW⟩,q8⟩=>?_
    have again:∀{H9:Hp}{s9:Shared},Inv Xc ([]++W7 fp s7.heap) oB H9 s9->tn (i+1) s9.heap/\∀b∈fp,H9 b=none:=fun {H9 s9} I9=>
     ⟨T.keep _ _ _ gL fun b hb o e=>(I9.pin (b,o) (FD _ (FD _ (Y2 hb e)))).1,fun b hb=>by obtain⟨o,e,d⟩:=T.obj _ _ gL b hb;exact(I9.pin (b,o) (FD _ (FD _ (Y2 hb e)))).2.1⟩
    subst iW;have lJ:=lE.run I8 q8;rw[aE,bR,gk]at lJ;refine thn lJ fun ok s9 ⟨H9,I9,q9⟩=>?_
    cases ok with
    |false=>
     rw[ψ η]at q9⊢
     obtain⟨m',hm,w9⟩:=q9
     obtain⟨a1,a2⟩:=again I9
     exact⟨m',hm,i+1,ys,ah.map some,H9,by simpa using lH,I9.unpinned,a1,a2,w9⟩
    |true=>
     rw[ξ rfl]at q9⊢
     have sR:=I9
     rw[<-aX]at sR
     have mK:=gl _ s9 _ H9 _ sR.toE q9
     rw[hA,cb]
     refine EU mK (fun uy oC ⟨y,lK,iz,oE,iX,iY,m',hm,oG⟩=>?_) fun e' s' z=>?_
     rotate_left
     . exact EU z (fun _ _ y=>sQ D gy _ _ eN (by rw[dO];exact y)) fun _ _ y=>sQ D gy _ _ eN (by rw[dO];exact y)
     have iz:=iz.ofE
     rw[aX]at iz
     rw[<-hA]
     have lL:=S3 (X:=Xc) _ oC _ lK (.ref D) [y] (.ref D) [uy] (fun v lM=>v=.non/\lM=upd lK D (.lst (ys++[y]))) iz rfl (.cons oE .nil) ⟨D,ys,y,rfl,rfl,iX,iY,rfl,rfl⟩
     rw[aE,bR,gk]at lL
     refine thn lL fun _ ud ⟨v,lM,lN,_,_,oH⟩=>?_
     subst oH
     obtain⟨a1,a2⟩:=again lN
     exact⟨m',hm,i+1,ys++[y],ah.map some,_,by simpa using lH,lN.unpinned,a1,a2,oG⟩
 subst pI
 refine codeAny_compStart_list (loop _ rfl) (T.self X.A 0 _ _ _ cL (loop _ rfl))
def yn(hN:X.N.Nodup)(hk:X.N[k]?=some x)(hx:X.env.scope.names.lookup x=some .local)(C:CompOk X sc caps ix)(hi:PI X tg iter wi)(hg:∀fp s H,PG (j7 X sc (tgs++caps) fp s H) tg g)
  (hB:∀(x:V)(aM cs:St)(H:Hp)(Q:St->Hp->Prop),aM.length=tgs.length->B x H (fun ah H2=>Q (ah.map some++cs) H2)->g x (aM++cs) H fun aR H2=>(∃ah:List V,ah.length=tgs.length/\aR=ah.map some++cs)/\Q aR H2)
  (ht:∀fp s H,PTs (j7 X sc (tgs++caps) fp s H) aq tt) (he:∀fp s H pins σ,Inv X pins σ H s->(∀b∈fp,o8 X pins H b)->PE (P4 X sc (tgs++caps) fp s H) au te)
  (bZ:swapsWith (.ListComp au [⟨tg,iter,aq,0⟩] sc pos) (some (.Name x px)) aZ.line X.env=pure true:=by rfl)
  (hs:∀x,foldedSetIterable iter X.env x=pure x:=by intro _;rfl):PS X (.Assign [.Name x px] (.ListComp au [⟨tg,iter,aq,0⟩] sc pos) aZ) (J2 (F8 wi B ix tt te) (B7 k)):=by
 intro pins s σ H D0 I h
 rw[exec_Assign_Name_used _ _ _ _ bZ]
 refine δ (HG (δ ?_))
 show wpAny _ X.A (do let _ <-comprehension (.ListComp au [⟨tg,iter,aq,0⟩] sc pos) sc X.env _ (newList []) false (eval iter X.env) (some (assign (.Name x px) X.env))) _ _ s
 refine δ (EU (zt (u:=assign (.Name x px) X.env) (P:=fun s'=>SP X pins D0 .next s') rfl hs (Ge (C.free_cell I)) C.kind C.names
  (thn (hi pins s σ H _ I h) fun v s1 h1=>thn h1 fun gI s2 h2=>?_)) (fun _ s' hq=>ω (ω hq)) fun _ _ e=>e)
 obtain⟨it,fp,tn,J,H2,e,I2,T,aH,f2,hw⟩:=h2
 subst e
 refine Zi (RR:=fun acc ce=>qc (model X.prog X.w) X.A X.xe (assign (.Name x px) X.env) (fun s'=>SP X pins D0 .next s') sc X.env acc ce) C hg hB ht he I2 T aH f2 hw ?_ ?_
 . intro D ce H' s' m hn I' bc q;show wpAny _ X.A (assign (.Name x px) X.env (.ref D)) _ _ _;refine wpAny_assign_Name (Mr I' hN hk (.inl hx) (v:=.ref D) rfl (fun de oI dw=>?_) (.inr hx));obtain⟨a,sb,ha⟩:=dw;have aP:ce.locals≠a:=by
    rcases ha with z |z
    . rw[z];exact bc.2.1
    . exact fun e=>bc.2.2.2.2.1 x a z e.symm
   refine⟨m,hn.sameBut sb aP,fun h' oJ=>⟨_,H',?_,q⟩⟩;exact oI.turned (t':=de.toks) (fun b o hb e=>oJ.extBut b o hb e) bc.1 bc.2.1 bc.2.2.2.1 bc.2.2.2.2.1 bc.2.2.2.2.2
 . rintro D ce e s' eN ⟨⟨m,hm⟩,hh⟩;exact⟨m,hm,fun h' sb=>hh h' sb _ eN⟩
end
def qb{P:Program}{w:World}{K:Frag}{mg:Str->Option Value}{base:Heap}{N:List Str}{qual:Str}{mw:Scope}{f:Addr}{cdv:Value}{A:Around}{outer:List Env}{s0:Shared}{H0:Hp}{E:XK}{sc:Scope}{N':List Str}{fp:List Addr}{aa:Shared}{cA:Hp}{dP:List (Addr×Obj)}{iO:St}
  (I3:Inv (B5 (CX1 P w) P w K mg base N qual mw f cdv A outer s0 H0 E) dP iO cA aa) (hf:∀b∈fp,o8 (B5 (CX1 P w) P w K mg base N qual mw f cdv A outer s0 H0 E) dP cA b) :
  W5 (CX1 P w) (P4 (B5 (CX1 P w) P w K mg base N qual mw f cdv A outer s0 H0 E) sc N' fp aa cA) (eOf K ⟨H0,xNm K mg E⟩ mg):=by
 rintro pins σ H s e s' Ie ⟨C,a,od,H2,rfl,xo,x,⟨C',me,hE⟩,bQ,hx⟩
 have bQ:mg (x.cls:Str)=some (.ref C):=bQ
 rw[me]at bQ
 cases bQ
 have I':Inv (B5 (CX1 P w) P w K mg base N qual mw f cdv A outer s0 H0 E) dP iO H s:=I3.call' (ch:=fp) Ie.os Ie.base Ie.hok Ie.bare fun b hb=>⟨(hf b hb).2.2.2.1,(hf b hb).2.1,(hf b hb).2.2.2.2.1,(hf b hb).2.2.2.2.2⟩
 have c0:s0.heap.get? aa.heap.objs.size=none:=by
  cases q:s0.heap.get? aa.heap.objs.size with
  |none=>rfl
  |some o=>
   obtain⟨o',z⟩:=I3.base.there _ o q (by simp[B5])
   exact absurd (π z) (χ _)
 have cf:aa.heap.objs.size∉frs (B5 (CX1 P w) P w K mg base N qual mw f cdv A outer s0 H0 E).stack:=fun hb=>by obtain⟨_,o,ho,_⟩:=I3.stack.mem hb;exact absurd (π ho) (χ _)
 obtain⟨m,hn,_⟩:=Ie.loc
 exact wq (Cc:=aa.heap.objs.size) I' rfl rfl rfl xo c0 Ie.free ⟨m,hn⟩ cf (Q:=fun s3=>CX1 P w outer H0 s0 E (.ref a) s3) (E':=fun e' de=>CX1 P w outer H0 s0 E e' de) (fun de y=>⟨_,a,od,H2,rfl,y,hE od hx⟩)
  (fun de m hh=>⟨m,fun h' sb ce eN=>EU (hh h' sb ce eN) (fun _ _ z=>z) (fun ev t ⟨z1,z2⟩=>by subst z1;exact z2)⟩)
def O7(bn:D->Option (List D))(t:DE->R Bool)(f:DE->R D)(cs:DE):List D->R (List D)
 | []=>.ok []
 |d::ds=>(R.of (bn d)).bind fun bs=>(t (bs.map some++cs)).noE.bind fun b=>if b=true then(f (bs.map some++cs)).bind fun y=>(O7 bn t f cs ds).bind fun ys=>.ok (y::ys) else O7 bn t f cs ds
def J5(fi:DE->R (List D))(bn:D->Option (List D))(ix:List Nat)(t:DE->R Bool)(f:DE->R D):DE->R D:=fun ρ=>(fi ρ).bind fun ds=>if ds.length<=100000 then(O7 bn t f (sel ix ρ) ds).bind fun ys=>.ok (.lst ys) else .st
section
variable {K:Frag}{EX:XW}{σ:St}{H:Hp}
def Ub(hB:BD K bn B)(gn:∀σ H Q,TTd K F0 t σ H Q->tt σ H Q)
  (h:TEd K EX true (J5 fi bn ix t f) σ H Q):F8 (TId K EX kp fi) B ix tt (TEd K EX false f) σ H Q:=by
 obtain⟨sx,ρ,H0,s,e,h⟩:=h
 unfold J5 at h
 rw[Rk.bind]at h
 refine⟨sx,ρ,H0,s,e,h.mono fun ds h J H1 ao s1 e1 it D hD=>?_⟩
 split at h
 . rename_i bB;rw[Rk.bind]at h;have eK:Q9 K J ao ds:=by
    cases kp with
    |true=>rw[ξ rfl]at it;exact⟨fun i d q H H1 a b=>it.1 i d q H H1 (fun _ _ z=>nomatch z) b,fun H a=>it.2 H fun _ _ z=>nomatch z⟩
    |false=>rw[ψ η]at it;exact it
   have e':=e.mono e1.1;have oQ:ao D=none:=e1.2.1.none hD;refine⟨fun i mm ys H2=>mm=ds.length - i/\i<=ds.length/\ys.length<=i/\∃acc aY,Same H1 H2/\H2 D=some (.lst ys)/\Ext ao H1 aY H2/\aY D=none/\RDs K aY acc ys /\
    Rk EX.at (O7 bn t f (L2.sel ix ρ) (ds.drop i)) fun rest=>∀v H',Out K true H0 H (.lst (acc++rest)) v H'->Q v H',⟨ds.length,by simp,FX _,ζ _,[],ao,Same.upd_new hD,j9,(Ext.refl e1.2.1).grow (Same.upd_new hD),oQ,.nil,h⟩,?_⟩
   rintro i mm ys H2 ⟨rfl,hi,eJ,acc,aY,s2,dM,e2,fV,r2,h⟩;refine⟨dM,?_⟩;by_cases ay:i<ds.length
   . have hd:ds[i]?=some ds[i]:=by simp[ay]
     obtain⟨lT,hy⟩:=eK.1 i _ hd H2 aY e2.1 e2.2.1;have lU:ds.drop i=ds[i]::ds.drop (i+1):=Ib ay;rw[lU]at h;unfold O7 at h;rw[Rk.bind]at h;obtain⟨bs,oS,h⟩:=h.of;rw[Rk.bind]at h;refine .inr ⟨lT,fun x H3 y=>?_⟩;obtain⟨s3,cj,e3,r3⟩:=hy x H3 y;refine hB cj H3 x _ bs _ e3.2.1 r3 oS fun vs oU=>?_
     have en:=(e'.mono (e2.1.trans e3.1)).sel oU ix;have oV:=e2.trans s2 e3;refine gn _ _ _ ⟨F0.same _,_,cj,e3.2.1,en,(Rk.noE h).mono fun b h H4 s4=>?_⟩;have eY:=s2.trans (s3.trans s4);have gO:H4 D=some (.lst ys):=s4 _ _ (s3 _ _ dM);have fW:cj D=none:=e3.no s3 dM (fun z=>z) fV;have gP:Ext ao H1 cj H4:=oV.grow s4;cases b with
     |false=>
      rw[ψ η]at h
      dsimp only
      rw[ψ η]
      exact⟨ds.length - (i+1),by omega,rfl,ay,by omega,acc,cj,eY,gO,gP,fW,r2.mono e3.1,h⟩
     |true=>
      rw[ξ rfl]at h
      dsimp only
      rw[ξ rfl]
      rw[Rk.bind]at h
      refine⟨sx.trans (s1.trans eY),_,cj,gP.2.1,en,h.mono fun y h w H5 o5=>?_⟩
      obtain⟨s5,lW,e5,r5⟩:=o5.rd
      have lX:H5 D=some (.lst ys):=s5 _ _ gO
      have fX:lW D=none:=e5.no s5 gO (fun z=>z) fW
      have gQ:=gP.trans eY e5
      rw[Rk.bind]at h
      refine⟨lX,Fk (by omega),ds.length - (i+1),by omega,rfl,ay,by rw[θ];show ys.length+1<=i+1;omega,acc++[y],lW,(eY.trans s5).upd_at hD,j9,⟨gQ.1,gQ.2.1.upd_at fX,gQ.2.2⟩,fX,((r2.mono (e3.1.trans e5.1))).append (.one r5),?_⟩
      exact h.mono fun rest h v H' o=>h v H' (by simpa using o)
   . have ei:i=ds.length:=by omega
     subst ei;rw[List.drop_length]at h;refine .inl ⟨eK.2 H2 (e2.1.trans e2.2.1),h _ H2 ?_⟩;rw[GL];refine Out.after s1 e1 (.fresh s2 e2 hD fV ?_);simp only[OB];exact⟨ys,dM,r2⟩
 . exact h.elim
end
section
variable {X:Cx}{EX:XW}{fr:Bool}{e:Expr}{es:List Expr}{x:Str}{p pos:Pos}{fs:DE->R (List D)}
def Rz(nm:∀x H,EX.p x H->∃C,X.mg (Str.ofString (Ex.cls x))=some (.ref C))(on:W5 (CX1 X.prog X.w) X (eOf X.K EX X.mg))(G:i4 X.prog X.w X.K X.mg X.base x ps k (spD X.K X.mg fr (mOf fr n kk gg) n))(hr:Room j X.A)(hg:Gl X x)(ha:QA X EX (e::es) fs)(cG:k<=j:=by omega)(aA:(x==("__debug__":Str))=false:=by decide)
 (he:starEach (e::es) X.env=(false,eval e X.env)::starEach es X.env:=by rfl) (hpl:(backTo pos (starEach es X.env)).any (·.1)=false:=by rfl):QE X EX fr (.Call (.Name x p) (e::es) [] pos) (c9 (mOf fr n kk gg) fs):=⟨(Kx G on hr hg ha.h cG aA he hpl).imp fun _ _ _ q=>Su Eh (fun x H z=>by obtain⟨C,hC⟩:=nm x H z;exact⟨C,hC,fun od xf=>⟨x,z,hC,xf⟩⟩) q⟩
end
section
variable {X:Cx}{EX:XW}{sc:Scope}{caps:List Str}{ix:List Nat}{x:Str}{px pos:Pos}{iter au:Expr}{aq:List Expr}{kp:Bool}{fi:DE->R (List D)}{t:DE->R Bool}{f:DE->R D}
def y49{fr:Bool}{m:List Bool}{v:Str}{k:Nat}{aZ pv:Pos}(eX:X.N.Nodup)(hk:X.N[k]?=some v)(hv:X.env.scope.names.lookup v=some .local)(C:CompOk X sc caps ix)(hN:([x]++caps).Nodup)(hx:sc.names.lookup x=some .local)(hi:QI X EX kp (.Name x px) iter fi)
  (ht:PTq X sc ([x]++caps) aq t) (he:∀fp s H pins σ,Inv X pins σ H s->(∀b∈fp,o8 X pins H b)->QE (P4 X sc ([x]++caps) fp s H) EX false au f)
  (bZ:swapsWith (.ListComp au [⟨.Name x px,iter,aq,0⟩] sc pos) (some (.Name v pv)) aZ.line X.env=pure true:=by rfl) (hs:∀x,foldedSetIterable iter X.env x=pure x:=by intro _;rfl) :
  QS X EX fr (.Assign [.Name v pv] (.ListComp au [⟨.Name x px,iter,aq,0⟩] sc pos) aZ) (c5 true k m (J5 fi b1 ix t f)):=by
 obtain⟨tt,h1,h2⟩:=ht.run
 exact⟨(yn (tgs:=[x]) eX hk hv C hi.h (fun fp s H=>U0 hN rfl hx fp s H) Gv h1 (fun fp s H pins σ I hf=>(he fp s H pins σ I hf).h) bZ hs).imp fun _ _ _ q=>Mn (fun _ _ _ q=>Ub Gr h2 q) (Da q)⟩
end
def nmF{K:Frag}{mg:Str->Option Value}{E:XK}{H:Hp}:∀x H',(⟨H,xNm K mg E⟩:XW).p x H'->∃C,mg (Str.ofString (Ex.cls x))=some (.ref C):=fun x H' ⟨C,hC,_⟩=>⟨C,hC⟩
section
variable {M:Model}{A:Around}{E:Value->Shared->Prop}{s:Shared}{env:Env}
def qa(M:Model)(A:Around)(E:Value->Shared->Prop)(P:Value->Shared->Prop)(sc:Scope)(env:Env)(acc:Value)(ce:Env):Result->Shared->Prop:=fun r t=>match r with
 | .ok _=>∃m,t.heap.Ns ce.locals m/\∀h',Heap.SameBut ce.locals t.heap h'->P acc { t with heap:=h' }
 | .error x=>∃m,t.heap.Ns ce.locals m/\∀h',Heap.SameBut ce.locals t.heap h'->wpAny M A (PySem.passOn "comprehension.variables-let-go" x { ce with scope:=relabel sc env }:Sem Value) (fun _ _=>False) E { t with heap:=h' }
def ym{e:Expr}{sc:Scope}{pos:Pos}{nl first:Sem Value}{g:Comprehension}{gs:List Comprehension}{cl:List (Str×Addr)}{P:Value->Shared->Prop}
  (k1:clausesOf e=g::gs) (k2:∀y,foldedSetIterable g.iter env y=pure y) (k3:closureFor sc env=pure cl) (k4:sc.kind=.function) (k5:∀y∈sc.names,y.2=.local->sc.names.lookup y.1=some .local)
  (h:wpAny M A first (fun y af=>wpAny M A (pyIter y) (fun it aK=>wpAny M A nl (fun acc aa=>wpAny M A (newFunctionEnv sc env.globals cl [] env.qual none .none (some env)) (fun ce aL=>
   codeAny M A (.compStart e 0 it acc { ce with scope:=relabel sc env }) (qa M A E P sc env acc ce) aL) E aa) E aK) E af) E s) :
  wpAny M A (comprehension e sc env pos nl false first none) P E s:=by
 unfold comprehension
 rw[k3,k1]
 refine δ (thn h fun y af a1=>δ (HG (δ (wpAny_of_eq (k2 y) (δ (FA (thn a1 fun it aK a2=>wpAny_standIf (δ (thn a2 fun acc aa a3=>
  δ (ω (δ (thn a3 fun ce aL a4=>?_))))))))))))
 dsimp only
 have lc:∀y∈(sc.names.filter fun y=>(y.2==.local||y.2==.cell)&&y.1 != (".0":Str)).reverse,y.2=.local->Env.kindOf { ce with scope:=relabel sc env } y.1=some .local:=
  fun y hy hl=>IG (k5 y (HN.mp (List.mem_reverse.mp hy)).1 hl)
 refine FA (δ (wpAny_attempt (FA (wpAny_run (Iy a4 fun r t hr=>?_)))))
 cases r with
 |ok f=>
  obtain⟨m,hn,hp⟩:=hr
  exact δ (FA (wpAny_comp_letGo (cenv:={ ce with scope:=relabel sc env }) k4 _ t m lc hn fun h' m' _ sb=>ω (hp h' sb)))
 |error x=>
  obtain⟨m,hn,hp⟩:=hr
  exact δ (FA (wpAny_comp_letGo (cenv:={ ce with scope:=relabel sc env }) k4 _ t m lc hn fun h' m' _ sb=>EU (hp h' sb) (fun _ _ f=>f.elim) fun _ _ y=>y))
end
section
variable {X:Cx}{sc:Scope}{tgs caps:List Str}{ix:List Nat}{au tg iter:Expr}{aq:List Expr}{pos:Pos}{g:TG}{B:V->Hp->(List V->Hp->Prop)->Prop}{tt:TT}{te:TE}
def yl(C:CompOk X sc caps ix)(hi:PI X tg iter wi)(hg:∀fp s H,PG (j7 X sc (tgs++caps) fp s H) tg g)
  (hB:∀(x:V)(aM cs:St)(H:Hp)(Q:St->Hp->Prop),aM.length=tgs.length->B x H (fun ah H2=>Q (ah.map some++cs) H2)->g x (aM++cs) H fun aR H2=>(∃ah:List V,ah.length=tgs.length/\aR=ah.map some++cs)/\Q aR H2)
  (ht:∀fp s H,PTs (j7 X sc (tgs++caps) fp s H) aq tt) (he:∀fp s H pins σ,Inv X pins σ H s->(∀b∈fp,o8 X pins H b)->PE (P4 X sc (tgs++caps) fp s H) au te)
  (hs:∀x,foldedSetIterable iter X.env x=pure x:=by intro _;rfl):PE X (.ListComp au [⟨tg,iter,aq,0⟩] sc pos) (F8 wi B ix tt te):=by
 intro pins s σ H Q I h
 rw[eval_ListComp]
 refine ym (P:=EP X pins σ Q) rfl hs (Ge (C.free_cell I)) C.kind C.names (thn (hi pins s σ H _ I h) fun v s1 h1=>thn h1 fun gI s2 h2=>?_)
 obtain⟨it,fp,tn,J,H2,e,I2,T,aH,f2,hw⟩:=h2
 subst e
 refine Zi (RR:=fun acc ce=>qa (model X.prog X.w) X.A X.xe (EP X pins σ Q) sc X.env acc ce) C hg hB ht he I2 T aH f2 hw ?_ ?_
 . intro D ce H' s' m hn I' bc q;refine⟨m,hn,fun h' sb=>⟨.ref D,H',?_,rfl,q⟩⟩;exact I'.turned (t':=s'.toks) (fun b o hb e=>sb.extBut b o hb e) bc.1 bc.2.1 bc.2.2.2.1 bc.2.2.2.2.1 bc.2.2.2.2.2
 . rintro D ce e s' eN ⟨⟨m,hm⟩,hh⟩;exact⟨m,hm,fun h' sb=>hh h' sb _ eN⟩
end
section
variable {X:Cx}{EX:XW}{sc:Scope}{caps:List Str}{ix:List Nat}{x:Str}{px pos:Pos}{iter au:Expr}{aq:List Expr}{kp:Bool}{fi:DE->R (List D)}{t:DE->R Bool}{f:DE->R D}
def y4a(C:CompOk X sc caps ix)(hN:([x]++caps).Nodup)(hx:sc.names.lookup x=some .local)(hi:QI X EX kp (.Name x px) iter fi)
  (ht:PTq X sc ([x]++caps) aq t) (he:∀fp s H pins σ,Inv X pins σ H s->(∀b∈fp,o8 X pins H b)->QE (P4 X sc ([x]++caps) fp s H) EX false au f)
  (hs:∀x,foldedSetIterable iter X.env x=pure x:=by intro _;rfl):QE X EX true (.ListComp au [⟨.Name x px,iter,aq,0⟩] sc pos) (J5 fi b1 ix t f):=by
 obtain⟨tt,h1,h2⟩:=ht.run
 exact⟨(yl (tgs:=[x]) C hi.h (fun fp s H=>U0 hN rfl hx fp s H) Gv h1 (fun fp s H pins σ I hf=>(he fp s H pins σ I hf).h) hs).imp fun _ _ _ q=>Ub Gr h2 q⟩
end
section
variable {prog:Program}{w:World}{A:Around}{E:Value->Shared->Prop}{s:Shared}{κ:SortKind}{a₀:Array Keyed}{rk:Keyed->Nat}
noncomputable def tk(rk:Keyed->Nat)(xs:Array Keyed)(i:Nat):Nat:=match xs[i]? with
 |some p=>rk p
 |none=>0
def U9(prog:Program)(w:World)(A:Around)(E:Value->Shared->Prop)(s:Shared)(κ:SortKind)(a₀:Array Keyed)(rk:Keyed->Nat):Prop:=
 ∀x y,x∈a₀->y∈a₀->∀(st:SortSt)(Q:Option Bool->SortSt->Prop),kindOf st=κ->Q (some (decide (rk x<rk y))) st->wpS (model prog w) A E s (lt' x y) Q st
structure TBs(κ:SortKind)(a₀:Array Keyed)(st:SortSt):Prop where
 perm:(arrOf st).Perm a₀
 kind:kindOf st=κ
 ok:failedOf st=none
def TSo(rk:Keyed->Nat)(xs:Array Keyed)(lo hi:Nat):Prop:=∀i j,lo<=i->i<=j->j<hi->tk rk xs i<=tk rk xs j
def Cv(h:i<xs.size):tk rk xs i=rk xs[i]:=by unfold tk;rw[getElem?_pos xs i h]
def Eu(h:xs[i]?=ys[j]?):tk rk xs i=tk rk ys j:=by unfold tk;rw[h]
def TBs.size{st:SortSt}(B:TBs κ a₀ st):(arrOf st).size=a₀.size:=B.perm.size_eq
def TBs.mem{st:SortSt}(B:TBs κ a₀ st){x:Keyed}(h:x∈arrOf st):x∈a₀:=Array.mem_def.mpr ((Array.perm_iff_toList_perm.mp B.perm).mem_iff.mp (Array.mem_def.mp h))
def TBs.set{st:SortSt}(B:TBs κ a₀ st){xs:Array Keyed}(hp:xs.Perm (arrOf st)):TBs κ a₀ (setArr st xs):=⟨hp.trans B.perm,B.kind,B.ok⟩
def Ry{st:SortSt}{xs:Array Keyed}{i:Nat}{Q:Keyed->SortSt->Prop}(h:i<xs.size)(q:Q xs[i] st):wpS (model prog w) A E s (elem' xs i) Q st:=by rw[elem'_eq,getElem?_pos xs i h];exact wpS_pure q
def S8(hc:U9 prog w A E s κ a₀ rk){st:SortSt}(B:TBs κ a₀ st){i j:Nat}(hi:i<a₀.size)(hj:j<a₀.size){Q:Option Bool->SortSt->Prop}
  (h:Q (some (decide (tk rk (arrOf st) i<tk rk (arrOf st) j))) st):wpS (model prog w) A E s (ltAt' i j) Q st:=by
 rw[ltAt'_eq]
 have sS:i<(arrOf st).size:=by rw[B.size];exact hi
 have sT:j<(arrOf st).size:=by rw[B.size];exact hj
 rw[Cv sS,Cv sT]at h
 refine γ (wpS_get (γ (Ry sS (γ (Ry sT ?_)))))
 exact hc _ _ (B.mem (Array.getElem_mem _)) (B.mem (Array.getElem_mem _)) st Q B.kind h
def Mk(hj:j<=xs.size)(k:Nat):tk rk (mirror xs i j ((j - i) / 2)) k=if i<=k/\k<j then tk rk xs (i+j - 1 - k) else tk rk xs k:=by
 by_cases h:i<=k/\k<j<;>simp only[h,FQ,FV]<;>refine Eu ?_<;>rw[getElem?_mirror_all hj]
 . rw[ξ h]
 . rw[ψ h]
def zr(hs:fk<xs.size)(hd:d<=fk)(k:Nat) :
  tk rk (bubble xs fk d) k=if k=fk - d then tk rk xs fk else if fk - d<k/\k<=fk then tk rk xs (k - 1) else tk rk xs k:=by
 have e:=getElem?_bubble hs d hd k
 by_cases h1:k=fk - d
 . rw[ξ h1]at e⊢;exact Eu e
 . rw[ψ h1]at e⊢;by_cases h2:fk - d<k/\k<=fk
   . rw[ξ h2]at e⊢;exact Eu e
   . rw[ψ h2]at e⊢;exact Eu e
def Lm(hj:j<=xs.size)(ha:∀k,i<=k->k<j->tk rk xs k=tk rk xs (j - 1))(k:Nat):tk rk (mirror xs i j ((j - i) / 2)) k=tk rk xs k:=by
 rw[Mk hj];by_cases h:i<=k/\k<j
 . rw[ξ h,ha (i+j - 1 - k) (by omega) (by omega),ha k h.1 h.2]
 . rw[ψ h]
def TSo.step{xs:Array Keyed}{lo n:Nat}(h:TSo rk xs lo (lo+n))(h1:1<=n)(hn:tk rk xs (lo+n - 1)<=tk rk xs (lo+n)):TSo rk xs lo (lo+(n+1)):=fun i j h0 oN h2=>by
 by_cases hj:j=lo+n
 . subst hj;by_cases hi:i=lo+n
   . rw[hi];exact ζ _
   . exact EZ (h i (lo+n - 1) h0 (by lia) (by lia)) hn
 . exact h i j h0 oN (by lia)
def TSo.one(lo:Nat):TSo rk xs lo (lo+1):=fun i j h0 h1 h2=>by
 obtain rfl:i=j:=by lia
 exact ζ _
structure TL(st st':SortSt)(lo:Nat):Prop where
 low:∀k,k<lo->(arrOf st')[k]?=(arrOf st)[k]?
 pend:pendingOf st'=pendingOf st
def TL.refl(st:SortSt)(lo:Nat):TL st st lo:=⟨fun _ _=>rfl,rfl⟩
def TL.trans{a b c:SortSt}{lo:Nat}(h:TL a b lo)(k:TL b c lo):TL a c lo:=⟨fun i hi=>(k.low i hi).trans (h.low i hi),k.pend.trans h.pend⟩
def TL.mirror{st:SortSt}{lo i j:Nat}(hi:lo<=i)(hj:j<=(arrOf st).size):TL st (setArr st (mirror (arrOf st) i j ((j - i) / 2))) lo:=
 ⟨fun k hk=>by show(PyProof.Rows.mirror (arrOf st) i j ((j - i) / 2))[k]?=_;rw[getElem?_mirror_all hj,ψ (by lia)],rfl⟩
def Ct{st:SortSt}{i j:Nat}{Q:Unit->SortSt->Prop}(h:Q () (setArr st (mirror (arrOf st) i j ((j - i) / 2)))):wpS (model prog w) A E s (reverseSlice' i j) Q st:=by rw[reverseSlice'_eq];exact wpS_modify h
theorem TSo.ups'{xs:Array Keyed}{lo a:Nat}(h:TSo rk xs lo (lo+a))(ha:1<=a):∀{n:Nat},a<=n->(∀i,a<=i->i<n->tk rk xs (lo+i - 1)<=tk rk xs (lo+i))->TSo rk xs lo (lo+n)
 | 0,z,_=>by lia
 |n+1,z,up=>by
  by_cases e:a=n+1
  . rw[<-e];exact h
  . exact(TSo.ups' h ha (n:=n) (by lia) fun i a b=>up i a (by lia)).step (by lia) (up n (by lia) (by lia))
def TSo.ups{xs:Array Keyed}{lo n:Nat}(h:TSo rk xs lo (lo+1))(hn:1<=n)(up:∀i,1<=i->i<n->tk rk xs (lo+i - 1)<=tk rk xs (lo+i)):TSo rk xs lo (lo+n):=h.ups' (ζ _) hn up
def Rx{σ:Type}{r:String}{Q:Unit->σ->Prop}{st:σ}(h:Q () st):wpS (model prog w) A E s (liftM (rule r):StateT σ Sem Unit) Q st:=wpS_lift (wpAny_rule ⟨rfl,h⟩)
def jK(mk:Nat->β)(st:σ)(down:Nat->Bool)(bA:a<=b)
  (go:∀x n (Q:ForInStep β->σ->Prop),a<=n->n<b->Q (if down n=true then .done (mk n) else .yield (mk (n+1))) st->wpS (model prog w) A E s (f x (mk n)) Q st)
  (h:∀n,a<=n->n<=b->(∀i,a<=i->i<n->down i=false)->(n<b->down n=true)->Q (mk n) st):wpS (model prog w) A E s (forIn [a:b] (mk a) f) Q st:=by
 refine wpS_forRange (I:=fun x c u=>u=st/\c=mk x/\∀i,a<=i->i<x->down i=false) (fun x c u hx hb hI=>?_) (fun c u hI=>?_) ⟨rfl,rfl,fun i y z=>by lia⟩
 . obtain⟨rfl,rfl,up⟩:=hI;refine go x x _ hx hb ?_;cases hd:down x
   . exact⟨rfl,rfl,fun i y z=>by
      by_cases e:i=x
      . rw[e];exact hd
      . exact up i y (by lia)⟩
   . exact h x hx (HX hb) up fun _=>hd
 . obtain⟨rfl,rfl,up⟩:=hI;rw[Nat.max_eq_right bA]at up⊢;exact h b bA (ζ _) up fun z=>absurd z (χ _)
def y0h(mk:Nat->Nat->β)(st:σ)(eO:Nat->Nat->Nat)(p:Nat->Bool)(rJ:∀l r,l<r->l<=eO l r/\eO l r<r)
  (go:∀x l r (Q:ForInStep β->σ->Prop),l0<=l->l<r->r<=r0->Q (.yield (if p (eO l r)=true then mk (eO l r+1) r else mk l (eO l r))) st->wpS (model prog w) A E s (f x (mk l r)) Q st)
  (stop:∀x l (Q:ForInStep β->σ->Prop),l<=r0->Q (.done (mk l l)) st->wpS (model prog w) A E s (f x (mk l l)) Q st)
  (mono:∀i j,l0<=i->i<=j->j<r0->p j=true->p i=true) (hl:l0<=r0) (hN:r0<=l0+N)
  (h:∀k,l0<=k->k<=r0->(∀i,l0<=i->i<k->p i=true)->(∀i,k<=i->i<r0->p i=false)->Q (mk k k) st):wpS (model prog w) A E s (forIn [0:N] (mk l0 r0) f) Q st:=by
 have key:∀l r,l0<=l->l<=r->r<=r0->(∀i,l0<=i->i<l->p i=true)->(∀i,r<=i->i<r0->p i=false)->l=r->Q (mk l r) st:=fun l r a b c d e z=>by subst z;exact h l a c d e
 refine wpS_forRange (I:=fun x c u=>u=st/\∃l r,(l0<=l/\l<=r/\r<=r0/\r+x<=l+N)/\c=mk l r/\(∀i,l0<=i->i<l->p i=true)/\∀i,r<=i->i<r0->p i=false)
  (fun x c u _ hb hI=>?_) (fun c u hI=>?_) ⟨rfl,l0,r0,⟨ζ _,hl,ζ _,by lia⟩,rfl,fun i a b=>by lia,fun i a b=>by lia⟩
 . obtain⟨rfl,l,r,⟨b1,b2,b3,b4⟩,rfl,lt,gt⟩:=hI;by_cases e:l=r
   . subst e;exact stop x l _ b3 (key l l b1 b2 b3 lt gt rfl)
   . have hm:=rJ l r (by lia);refine go x l r _ b1 (by lia) b3 ?_;cases hp:p (eO l r)
     . exact⟨rfl,l,eO l r,⟨b1,hm.1,by lia,by lia⟩,rfl,lt,fun i a b=>by
        cases hi:p i
        . rfl
        . rw[mono (eO l r) i (by lia) a b hi]at hp;cases hp⟩
     . exact⟨rfl,eO l r+1,r,⟨by lia,by lia,b3,by lia⟩,rfl,fun i a b=>mono i (eO l r) a (by lia) (by lia) hp,gt⟩
 . obtain⟨rfl,l,r,⟨b1,b2,b3,b4⟩,rfl,lt,gt⟩:=hI;exact key l r b1 b2 b3 lt gt (by simp only[Nat.zero_max]at b4;lia)
def Ua{α:Type}{Q:α->SortSt->Prop}{st:SortSt}{p:Prop}[Decidable p]{t g:StateT SortSt Sem α}(R:SortSt->Prop)(hg:∀u,R u->wpS (model prog w) A E s g Q u)(ht:p->(∀u,R u->wpS (model prog w) A E s g Q u)->wpS (model prog w) A E s t Q st)(hn:¬p->R st):wpS (model prog w) A E s (if p then t else g) Q st:=by
 split
 . exact ht ‹_› hg
 . exact hg _ (hn ‹_›)
def wo(hc:U9 prog w A E s κ a₀ rk){st:SortSt}(B:TBs κ a₀ st){lo cN:Nat}(hz:lo+cN<=a₀.size)(h1:1<=cN){Q:Option Nat->SortSt->Prop}
  (h:∀n st',1<=n->n<=cN->TBs κ a₀ st'->TL st st' lo->TSo rk (arrOf st') lo (lo+n)->Q (some n) st'):wpS (model prog w) A E s (countRun' lo cN) Q st:=by
 rw[countRun'_eq]
 refine γ (jK (fun n=>(none,n)) st (fun n=>decide (tk rk (arrOf st) (lo+n)<tk rk (arrOf st) (lo+n - 1))) h1 (fun x n Q a b q=>γ (S8 hc B (by lia) (by lia) ?_)) fun n pJ mJ up dn=>?_)
 . by_cases hl:tk rk (arrOf st) (lo+n)<tk rk (arrOf st) (lo+n - 1)
   . simp only[hl,Ix,FQ]at q⊢;exact wpS_pure q
   . simp only[hl,Ik,EW,FV]at q⊢;exact wpS_pure q
 have hs:=TSo.ups (n:=n) (TSo.one (rk:=rk) (xs:=arrOf st) lo) pJ fun i a b=>by have:=up i a b;simp only[FT]at this;lia
 have hd:n<cN->tk rk (arrOf st) (lo+n)<tk rk (arrOf st) (lo+n - 1):=fun z=>by simpa using dn z
 dsimp only
 by_cases sU:n=cN
 . rw[ξ (by simp[sU])];exact wpS_pure (h n _ pJ mJ B (.refl _ _) hs)
 rw[ψ (by simp[sU])]
 have cJ:=hd (by lia)
 have flat:∀(xs:Array Keyed),TSo rk xs lo (lo+n)->¬tk rk xs lo<tk rk xs (lo+n - 1)->∀k,lo<=k->k<lo+n->tk rk xs k=tk rk xs (lo+n - 1):=fun xs hs hr k h0 h1=>by
  have a:=hs lo k (ζ _) h0 h1;have b:=hs k (lo+n - 1) h0 (by lia) (by lia)
  lia
 have pK:∀(xs:Array Keyed),(∀k,lo<=k->k<lo+n->tk rk xs k=tk rk xs (lo+n - 1))->tk rk xs (lo+n)<tk rk xs (lo+n - 1)->∀i j,lo<=i->i<=j->j<lo+(n+1)->tk rk xs j<=tk rk xs i:=fun xs fl hd i j h0 h1 h2=>by
  by_cases hj:j=lo+n
  . subst hj;by_cases hi:i=lo+n
    . rw[hi];exact ζ _
    . rw[fl i h0 (by lia)];lia
  . rw[fl i h0 (by lia),fl j (by lia) (by lia)];exact ζ _
 refine Ua (fun u=>TBs κ a₀ u/\TL st u lo/\∀i j,lo<=i->i<=j->j<lo+(n+1)->tk rk (arrOf u) j<=tk rk (arrOf u) i) (fun EH z=>?_) (fun hn J=>?_) fun hn=>⟨B,.refl _ _,pK _ (flat _ hs (by rw[show lo+n - 1=lo by lia];exact χ _)) cJ⟩
 rotate_left
 . refine γ (S8 hc B (by lia) (by lia) ?_);by_cases hr:tk rk (arrOf st) lo<tk rk (arrOf st) (lo+n - 1)
   . rw[gR hr];dsimp only;rw[ξ rfl];exact wpS_pure (h n _ pJ mJ B (.refl _ _) hs)
   rw[decide_eq_false hr];dsimp only;rw[ψ η];have sV:lo+n<=(arrOf st).size:=by rw[B.size];lia
   have fl:=flat _ hs hr;have ea:=Lm sV fl;exact γ (Ct (J _ ⟨B.set (mirror_perm _ _ _ _),.mirror (ζ _) sV,fun i j h0 h1 h2=>by show tk rk (mirror (arrOf st) _ _ _) j<=tk rk (mirror (arrOf st) _ _ _) i;rw[ea,ea];exact pK _ fl cJ i j h0 h1 h2⟩))
 clear flat pK hd cJ hs up dn
 obtain⟨B1,L1,ni⟩:=z
 refine γ (Rx ?_)
 refine γ (wpS_mono (wpS_forRange (I:=fun x c aH=>TBs κ a₀ aH/\TL st aH lo/\∃q,c=(none,x,q)/\q+1<=x/\(∀i j,lo<=i->i<=j->j<lo+x->tk rk (arrOf aH) j<=tk rk (arrOf aH) i)/\∀k,lo+x - (q+1)<=k->k<lo+x->tk rk (arrOf aH) k=tk rk (arrOf aH) (lo+x - 1))
  (Q:=fun c aH=>TBs κ a₀ aH/\TL st aH lo/\∃x q,c=(none,x,q)/\1<=x/\x<=cN/\q+1<=x/\(∀i j,lo<=i->i<=j->j<lo+x->tk rk (arrOf aH) j<=tk rk (arrOf aH) i)/\∀k,lo+x - (q+1)<=k->k<lo+x->tk rk (arrOf aH) k=tk rk (arrOf aH) (lo+x - 1)) ?step ?fin ⟨B1,L1,0,rfl,by lia,ni,fun k h0 h1=>by rw[show k=lo+(n+1) - 1 by lia]⟩) ?post)
 case fin=>
  rintro c aH ⟨B2,L2,q,rfl,hq,fm,al⟩
  rw[show max (n+1) cN=cN by lia]at *
  exact⟨B2,L2,cN,q,rfl,h1,ζ _,hq,fm,al⟩
 case post=>
  rintro c aH ⟨B2,L2,x,q,rfl,sI,iD,hq,fm,al⟩
  have my:lo+x<=(arrOf aH).size:=by rw[B2.size];lia
  dsimp only
  refine Ua (fun u=>TBs κ a₀ u/\TL st u lo/\∀i j,lo<=i->i<=j->j<lo+x->tk rk (arrOf u) j<=tk rk (arrOf u) i) (fun dJ z=>?_) (fun pL J=>?_) fun _=>⟨B2,L2,fm⟩
  rotate_left
  . have ea:=Lm my al;exact γ (Ct (J _ ⟨B2.set (mirror_perm _ _ _ _),L2.trans (.mirror (by lia) my),fun i j h0 h1 h2=>by show tk rk (mirror (arrOf aH) _ _ _) j<=tk rk (mirror (arrOf aH) _ _ _) i;rw[ea,ea];exact fm i j h0 h1 h2⟩))
  obtain⟨B3,L3,AJ⟩:=z
  have pM:lo+x<=(arrOf dJ).size:=by rw[B3.size];lia
  refine γ (Ct ?_)
  obtain⟨cL,e4⟩:∃cL,cL=setArr dJ (mirror (arrOf dJ) lo (lo+x) ((lo+x - lo) / 2)):=⟨_,rfl⟩
  have B4:TBs κ a₀ cL:=e4 ▸ B3.set (mirror_perm _ _ _ _)
  have L4:TL st cL lo:=e4 ▸ L3.trans (.mirror (ζ _) pM)
  have s0:TSo rk (arrOf cL) lo (lo+x):=fun i j h0 h1 h2=>by rw[e4];show tk rk (mirror (arrOf dJ) lo (lo+x) _) i<=tk rk (mirror (arrOf dJ) lo (lo+x) _) j;rw[Mk pM,Mk pM,ξ (by lia),ξ (by lia)];exact AJ _ _ (by lia) (by lia) (by lia)
  rw[<-e4]
  clear e4
  refine γ (jK (fun n=>(none,n)) cL (fun n=>decide (tk rk (arrOf cL) (lo+n)<tk rk (arrOf cL) (lo+n - 1))) iD (fun y m Q a b q=>γ (S8 hc B4 (by lia) (by lia) ?_)) fun m AK AL up _=>?_)
  . by_cases hl:tk rk (arrOf cL) (lo+m)<tk rk (arrOf cL) (lo+m - 1)
    . simp only[hl,Ix,FQ]at q⊢;exact wpS_pure q
    . simp only[hl,Ik,EW,FV]at q⊢;exact wpS_pure q
  . dsimp only;refine wpS_pure (h m _ (by lia) AL B4 L4 (s0.ups' sI AK fun i a b=>?_));have:=up i a b;simp only[FT]at this
    lia
 case step=>
  rintro x c aH EI EJ ⟨B2,L2,q,rfl,hq,fm,al⟩
  have my:lo+x<=(arrOf aH).size:=by rw[B2.size];lia
  dsimp only
  refine γ (S8 hc B2 (by lia) (by lia) ?_)
  have ext:∀(xs:Array Keyed),(∀i j,lo<=i->i<=j->j<lo+x->tk rk xs j<=tk rk xs i)->tk rk xs (lo+x)<=tk rk xs (lo+x - 1)->∀i j,lo<=i->i<=j->j<lo+(x+1)->tk rk xs j<=tk rk xs i:=fun xs nx hx i j h0 h1 h2=>by
   by_cases hj:j=lo+x
   . subst hj;by_cases hi:i=lo+x
     . rw[hi];exact ζ _
     . exact EZ hx (nx i (lo+x - 1) h0 (by lia) (by lia))
   . exact nx i j h0 h1 (by lia)
  by_cases hl:tk rk (arrOf aH) (lo+x)<tk rk (arrOf aH) (lo+x - 1)
  . simp only[hl,Ix,FQ];by_cases pL:q > 0
    . rw[ξ pL];have ea:=Lm my al;refine γ (Ct (wpS_pure ⟨B2.set (mirror_perm _ _ _ _),L2.trans (.mirror (by lia) my),0,rfl,by lia,ext _ (fun i j h0 h1 h2=>?_) ?_,fun k h0 h1=>by rw[show k=lo+(x+1) - 1 by lia]⟩))
      . show tk rk (mirror (arrOf aH) _ _ _) j<=tk rk (mirror (arrOf aH) _ _ _) i;rw[ea,ea];exact fm i j h0 h1 h2
      . show tk rk (mirror (arrOf aH) _ _ _) _<=tk rk (mirror (arrOf aH) _ _ _) _;rw[ea,ea];exact HX hl
    . rw[ψ pL];exact wpS_pure ⟨B2,L2,0,rfl,by lia,ext _ fm (HX hl),fun k h0 h1=>by rw[show k=lo+(x+1) - 1 by lia]⟩
  . simp only[hl,Ik,EW,FV];refine γ (S8 hc B2 (by lia) (by lia) ?_);by_cases hg:tk rk (arrOf aH) (lo+x - 1)<tk rk (arrOf aH) (lo+x)
    . simp only[hg,Ix,FQ];exact wpS_pure ⟨B2,L2,x,q,rfl,by lia,by lia,hq,fm,al⟩
    . simp only[hg,Ik,EW,FV];refine wpS_pure ⟨B2,L2,q+1,rfl,by lia,ext _ fm (by lia),fun k h0 h1=>?_⟩;rw[show lo+(x+1) - 1=lo+x by lia];by_cases hk:k=lo+x
      . rw[hk]
      . rw[al k (by lia) (by lia)];lia
def TSo.down{xs:Array Keyed}{lo k l:Nat}(hz:lo+k<xs.size)(hl:l<=k)(hs:TSo rk xs lo (lo+k))(below:∀i,i<l->tk rk xs (lo+i)<=tk rk xs (lo+k))(above:∀i,l<=i->i<k->tk rk xs (lo+k)<tk rk xs (lo+i)) :
  TSo rk (bubble xs (lo+k) (lo+k - (lo+l))) lo (lo+(k+1)):=fun i j h0 sW hj=>by
 obtain⟨i,rfl⟩:∃i',i=lo+i':=⟨i - lo,by lia⟩
 obtain⟨j,rfl⟩:∃j',j=lo+j':=⟨j - lo,by lia⟩
 have val:∀m,m<=k->tk rk (bubble xs (lo+k) (lo+k - (lo+l))) (lo+m)=if m<l then tk rk xs (lo+m) else if m=l then tk rk xs (lo+k) else tk rk xs (lo+(m - 1)):=fun m hm=>by
  rw[zr hz (by lia)];by_cases a:m<l
  . rw[ψ (by lia),ψ (by lia),ξ a]
  . by_cases b:m=l
    . rw[ξ (by lia),ψ a,ξ b]
    . rw[ψ (by lia),ξ (by lia),ψ a,ψ b,show lo+m - 1=lo+(m - 1) by lia]
 have st:∀a b,a<=b->b<k->tk rk xs (lo+a)<=tk rk xs (lo+b):=fun a b u v=>hs _ _ (by lia) (by lia) (by lia)
 rw[val i (by lia),val j (by lia)]
 by_cases a:j<l
 . rw[ξ a,ξ (by lia)];exact st i j (by lia) (by lia)
 . rw[ψ a];by_cases b:i<l
   . rw[ξ b];by_cases c:j=l
     . rw[ξ c];exact below i b
     . rw[ψ c];exact st i (j - 1) (by lia) (by lia)
   . rw[ψ b];by_cases c:i=l
     . rw[ξ c];by_cases d:j=l
       . rw[ξ d];exact ζ _
       . rw[ψ d];exact HX (above _ (by lia) (by lia))
     . rw[ψ c,ψ (by lia)];exact st _ _ (by lia) (by lia)
def y4b(hc:U9 prog w A E s κ a₀ rk){st:SortSt}(B:TBs κ a₀ st){lo n ok:Nat}(hz:lo+n<=a₀.size)(h1:1<=ok)(hok:ok<=n)(hs:TSo rk (arrOf st) lo (lo+ok)){Q:Bool->SortSt->Prop}
  (h:∀u,TBs κ a₀ u->TL st u lo->TSo rk (arrOf u) lo (lo+n)->Q true u):wpS (model prog w) A E s (binarySort' lo n ok) Q st:=by
 rw[binarySort'_eq,Nat.max_eq_left h1]
 refine γ (wpS_mono (wpS_forRange (I:=fun k c u=>c=(none,())/\TBs κ a₀ u/\TL st u lo/\TSo rk (arrOf u) lo (lo+k))
  (Q:=fun c u=>c=(none,())/\TBs κ a₀ u/\TL st u lo/\TSo rk (arrOf u) lo (lo+n)) (fun k c u ha hb hI=>?_) (fun c u hI=>by rwa [Nat.max_eq_right hok]at hI) ⟨rfl,B,.refl _ _,hs⟩) fun c u hI=>?_)
 . obtain⟨rfl,B1,L1,hs⟩:=hI;have sX:lo+k<(arrOf u).size:=by rw[B1.size];lia
   refine γ (y0h (fun l r=>(none,l,r)) u (fun l r=>(l+r) / 2) (fun i=>decide (tk rk (arrOf u) (lo+i)<=tk rk (arrOf u) (lo+k))) (fun l r _=>by lia) (fun x l r Q a b c q=>?_) (fun x l Q _ q=>?_) (fun i j _ a b c=>?_) (FX _) (by lia) fun l _ hl lt gt=>?_)
   . dsimp only;rw[ψ (by lia)];refine γ (S8 hc B1 (by lia) (by lia) ?_);by_cases z:tk rk (arrOf u) (lo+k)<tk rk (arrOf u) (lo+(l+r) / 2)
     . simp only[z,Nat.not_le.mpr z,Ix,Ik,EW,FQ,FV]at q⊢;exact wpS_pure q
     . simp only[z,Nat.not_lt.mp z,Ix,Ik,EW,FQ,FV]at q⊢;exact wpS_pure q
   . dsimp only;rw[ξ (ζ _)];exact wpS_pure q
   . simp only[pW]at c⊢;exact EZ (hs _ _ (by lia) (by lia) (by lia)) c
   . dsimp only;rw[moveDown'_eq];refine γ (wpS_modify (wpS_pure ⟨rfl,B1.set (bubble_perm _ _ _),L1.trans ⟨fun j hj=>?_,rfl⟩,?_⟩))
     . show(bubble (arrOf u) (lo+k) (lo+k - (lo+l)))[j]?=_;rw[getElem?_bubble sX _ (by lia),ψ (by lia),ψ (by lia)]
     . exact TSo.down sX hl hs (fun i a=>by simpa using lt i (FX _) a) fun i a b=>by simpa using gt i a b
 . obtain⟨rfl,B1,L1,hs⟩:=hI;exact wpS_pure (h u B1 L1 hs)
end
abbrev Asc(rk:Keyed->Nat)(l:List Keyed):Prop:=l.Pairwise fun x y=>rk x<=rk y
section
variable {rk:Keyed->Nat}
def y0i{xs:Array Keyed}(h:TSo rk xs 0 xs.size):Asc rk xs.toList:=by
 refine IP.mpr fun i j hi hj sW=>?_
 simp only[FG]at hi hj;have:=h i j (FX _) (HX sW) hj;rw[Cv hi,Cv hj]at this;simpa using this
def y0j:∀n,n<64->minRun' n n 0=n:=by decide
end
section
variable {prog:Program}{w:World}{E:Value->Shared->Prop}{s:Shared}{A:Around}{κ:SortKind}{a₀:Array Keyed}{rk:Keyed->Nat}
def wn{α:Type}{Q:α->SortSt->Prop}{C:Nat->SortSt->Prop}{p:Nat->Prop}{dp:∀n,Decidable (p n)}{t g:Nat->StateT SortSt Sem α}(R:Nat->SortSt->Prop)(hg:∀m u,R m u->wpS (model prog w) A E s (g m) Q u)(ht:∀n u,C n u->p n->(∀m u,R m u->wpS (model prog w) A E s (g m) Q u)->wpS (model prog w) A E s (t n) Q u)(hn:∀n u,C n u->¬p n->R n u):∀n u,C n u->wpS (model prog w) A E s (if p n then t n else g n) Q u:=by
 intro n u c;by_cases h:p n
 . rw[ξ h];exact ht n u c h hg
 . rw[ψ h];exact hg _ _ (hn n u c h)
def y0k(hc:U9 prog w A E s κ a₀ rk){st:SortSt}(B:TBs κ a₀ st)(h2:2<=a₀.size)(iI:a₀.size<64)(hp:pendingOf st=#[]){Q:Unit->SortSt->Prop}(h:∀u,TBs κ a₀ u->Asc rk (arrOf u).toList->Q () u):wpS (model prog w) A E s sortRuns' Q st:=by
 rw[sortRuns'_eq];refine γ (wpS_get ?_);dsimp only;rw[B.size];refine γ (wpS_mono (wpS_forRange (I:=fun x c u=>TBs κ a₀ u/\((x=0/\c=(none,0)/\pendingOf u=#[])\/(c=(none,a₀.size)/\TSo rk (arrOf u) 0 a₀.size/\(pendingOf u).size<=1)))
  (Q:=fun c u=>TBs κ a₀ u/\c=(none,a₀.size)/\TSo rk (arrOf u) 0 a₀.size/\(pendingOf u).size<=1) ?step ?fin ⟨B,.inl ⟨rfl,rfl,hp⟩⟩) ?post)
 case fin=>
  rintro c u ⟨B1,⟨q,_⟩ |q⟩
  . exact absurd q (by simp only[Nat.zero_max];lia)
  . exact⟨B1,q⟩
 case post=>
  rintro c u ⟨B1,rfl,so,z⟩
  dsimp only
  refine γ (wpS_mono (wpS_forRange (I:=fun x c v=>c=(none,())/\v=u) (Q:=fun c v=>c=(none,())/\v=u) (fun x c v _ _ hI=>?_) (fun c v hI=>hI) ⟨rfl,rfl⟩) fun c v hI=>?_)
  . obtain⟨rfl,rfl⟩:=hI;refine γ (wpS_get ?_);rw[ξ z];exact wpS_pure ⟨rfl,rfl⟩
  . obtain⟨rfl,rfl⟩:=hI;exact wpS_pure (h v B1 (y0i (by rw[B1.size];exact so)))
 case step=>
  rintro x c u _ _ ⟨B1,⟨_,rfl,hp⟩ |⟨rfl,so,z⟩⟩
  rotate_left
  . dsimp only;rw[ξ (ζ _)];exact wpS_pure ⟨B1,rfl,so,z⟩
  dsimp only
  rw[ψ (by lia),y0j _ iI]
  refine γ (wo hc B1 (by lia) (by lia) fun n u1 n1 n2 B2 L2 so=>?_)
  dsimp only
  have hh:=And.intro n1 (And.intro n2 (And.intro B2 (And.intro L2 so)))
  clear n1 n2 B2 L2 so
  revert n u1
  refine wn (fun m u2=>m=a₀.size/\TSo rk (arrOf u2) 0 m/\TBs κ a₀ u2/\TL u u2 0) (fun m u2 hR=>?_) (fun n u1 ⟨n1,n2,B2,L2,so⟩ hn k=>?_) fun n u1 ⟨n1,n2,B2,L2,so⟩ hn=>⟨by lia,by simpa using so,B2,L2⟩
  rotate_left
  . refine γ (Rx ?_);refine γ (y4b hc B2 (n:=min (a₀.size - 0) a₀.size) (by lia) n1 (by lia) so fun u2 B3 L3 so2=>?_);rw[ψ (by simp)];exact k _ _ ⟨by lia,by simpa using so2,B3,L2.trans L3⟩
  . obtain⟨rfl,so3,B3,L4⟩:=hR;refine γ (wpS_get ?_);have gj:pendingOf u2=#[]:=L4.pend.trans hp;rw[gj];show wpS (model prog w) A E s _ _ u2;refine γ (wpS_modify (wpS_pure ?_));refine⟨⟨B3.perm,B3.kind,B3.ok⟩,.inr ⟨by simp,so3,?_⟩⟩;show((pendingOf u2).push _).size<=1;rw[gj];simp
end
section
variable {prog:Program}{w:World}{E:Value->Shared->Prop}{s:Shared}{A:Around}
noncomputable def C0(h:Heap)(a:Addr)(vs:List Value):Heap:=((h.update a (Obj.mapSeq fun _=>#[])).push (seqObj "tuple" vs.toArray 0)).push (seqObj "list" #[] 0)
def Yn(ho:h.get? a=some (seqObj "list" vs.toArray n)) :
  ∃k,(h.update a (Obj.mapSeq fun _=>#[])).get? a=some (seqObj "list" #[] k)/\(C0 h a vs).get? a=some (seqObj "list" #[] k):=
 ⟨_,get?_update_seq ho fun _=>#[],τ _ (τ _ (get?_update_seq ho fun _=>#[]))⟩
def yk(ho:s.heap.get? a=some (seqObj "list" vs.toArray n))(h2:2<=vs.length)(iI:vs.length<64)(hz:vs.length<=sizeLine)
  (mz:∀(Q:SortKind->Shared->Prop),Q κ { s with heap:=C0 s.heap a vs }->wpAny (model prog w) A (keyKind' vs.toArray) Q E { s with heap:=C0 s.heap a vs })
  (hc:U9 prog w A E { s with heap:=C0 s.heap a vs } κ (pairsOf vs) rk)
  (h:∀out:Array Keyed,out.Perm (pairsOf vs)->Asc rk out.toList->P (.done (.ret .none)) { s with heap:=sortedHeap s.heap a vs (out.map (·.2)) }):wpAny (model prog w) A (Builtin.«list.sort» ⟨[.ref a],[]⟩) P E s:=by
 obtain⟨k,k1,k2⟩:=Yn ho
 have nn:¬vs.toArray.size<2:=by rw[oF];lia
 rw[list_sort_plain]
 refine δ (listItems_at ho rfl (δ (listUpdate_at ho rfl (δ (seqEpoch_at k1 rfl (δ (wpAny_newTuple (δ (wpAny_newList (FA ?_) (FX _))) hz)))) (by rw[oF];exact hz) (FX _))))
 show wpAny (model prog w) A _ P E { s with heap:=C0 s.heap a vs }
 rw[ψ nn,ψ nn]
 refine δ (mz _ (δ (EU (y0k (st:=SortSt.mk' κ (pairsOf vs) #[] 7 none) hc ⟨.refl _,rfl,rfl⟩ (by rw[pairsOf_size];exact h2) (by rw[pairsOf_size];exact iI) rfl (Q:=fun _ u=>TBs κ (pairsOf vs) u/\Asc rk (arrOf u).toList) fun u B a=>⟨B,a⟩) ?_ fun _ _ x=>x)))
 rintro⟨⟨⟩,u⟩ s' ⟨rfl,B,hA⟩
 refine δ (seqEpoch_at k2 rfl (δ (listUpdate_at k2 rfl ?_ (FX _) (by rw[Array.size_map,B.size,pairsOf_size];exact Nat.le_succ_of_le hz))))
 rw[B.ok,bne_self_eq_false]
 exact ω (h _ B.perm hA)
noncomputable def C9(h:Heap)(vs:List Value):Heap:=((h.push (seqObj "list" #[] 0)).update h.objs.size (Obj.mapSeq (·++vs.toArray))).push (seqObj "list" vs.toArray 0)
def Mj(h:Heap)(vs:List Value):(C9 h vs).get? (h.objs.size+1)=some (seqObj "list" vs.toArray 0):=by
 have e:((h.push (seqObj "list" #[] 0)).update h.objs.size (Obj.mapSeq (·++vs.toArray))).objs.size=h.objs.size+1:=(IF _ _ _).trans (size_push' _ _);unfold C9
 conv=>lhs;arg 2;rw[<-e]
 exact Ψ _ rfl
def zje(q:h.get? b=some o):(C0 (C9 h vs) (h.objs.size+1) vs).get? b=some o:=by have lt:b<h.objs.size:=π q;refine τ _ (τ _ ?_);rw[IS _ _ _ _ (ER (Nat.lt_add_right 1 lt))];refine τ _ ?_;rw[IS _ _ _ _ (ER lt)];exact τ _ q
def zjf(hl:s.heap.IsList l vs.toArray)(h2:2<=vs.length)(iI:vs.length<64)(hz:vs.length<=sizeLine)
  (mz:∀(Q:SortKind->Shared->Prop),Q κ { s with heap:=C0 (C9 s.heap vs) (s.heap.objs.size+1) vs }->wpAny (model prog w) A.in1.in1 (keyKind' vs.toArray) Q (fun _ _=>False) { s with heap:=C0 (C9 s.heap vs) (s.heap.objs.size+1) vs })
  (hc:U9 prog w A.in1.in1 (fun _ _=>False) { s with heap:=C0 (C9 s.heap vs) (s.heap.objs.size+1) vs } κ (pairsOf vs) rk)
  (h:∀out:Array Keyed,out.Perm (pairsOf vs)->Asc rk out.toList->Q (.ref (s.heap.objs.size+1)) { s with heap:=sortedAll s.heap vs (out.map (·.2)) }):wpAny (model prog w) A (call (.builtin "sorted") [.ref l]) Q E s:=by
 have e:((s.heap.push (seqObj "list" #[] 0)).update s.heap.objs.size (Obj.mapSeq (·++vs.toArray))).objs.size=s.heap.objs.size+1:=(IF _ _ _).trans (size_push' _ _)
 have b:=yk (s:={ s with heap:=C9 s.heap vs }) (E:=fun _ _=>False) (P:=fun f s'=>∃x,f=.done (.ret x)/\Q (.ref (s.heap.objs.size+1)) s') (Mj s.heap vs) h2 iI hz mz hc fun out p a=>⟨_,rfl,h out p a⟩
 apply Calls.call_function_entry kind_sorted plain_sorted entry_sorted (args_sorted1 (.ref l))
 unfold Builtin.«sorted»
 refine δ (m:=checkCount "sorted" 1 1 _) (ω (δ (collect_list hl (δ (wpAny_newList ?_ hz)) hz)))
 show wpAny _ _ _ _ _ { s with heap:=C9 s.heap vs }
 rw[e]
 refine δ (FA (wpAny_call_entry slot_list_sort ⟨_,Mj s.heap vs,rfl⟩ entry_list_sort (EU b (fun f s' q=>?_) fun _ _ x=>x.elim) (args_list_sort _)))
 obtain⟨x,rfl,q⟩:=q
 exact⟨_,rfl,ω ⟨_,rfl,q⟩⟩
end
def rkD(ds:List D)(d:D):Nat:=ds.countP fun e=>ltT e d
def Rw(h:ois ds=true)(hd:d∈ds)(he:e∈ds):decide (rkD ds d<rkD ds e)=ltT d e:=by
 have ho:∀x∈ds,x.oi=true:=fun x hx=>ois_mem.mp h x hx
 have up:∀{d e:D},d∈ds->e∈ds->ltT d e=true->rkD ds d<rkD ds e:=fun {d e} hd he q=>by
  unfold rkD;have le:∀l:List D,(∀x∈l,x∈ds)->l.countP (fun x=>ltT x d)<=l.countP (fun x=>ltT x e):=fun l hl=>
   List.countP_mono_left fun x hx AM=>Cy (ho x (hl x hx)) (ho d hd) (ho e he) AM q
  obtain⟨l1,l2,rfl⟩:=List.append_of_mem hd;have a:=le l1 fun x hx=>by simp[hx]
  have b:=le l2 fun x hx=>by simp[hx]
  simp only[List.countP_append,List.countP_cons,q,Ke (ho d hd)];simp
  lia
 cases q:ltT d e with
 |true=>simpa using up hd he q
 |false=>
  cases q':ltT e d with
  |true=>have:=up he hd q';simp;lia
  |false=>obtain rfl:=Dl (ho d hd) (ho e he) q q';simp
def Bv{d:D}(h:d.oi=true):(∃a,d=.int a)\/∃ds,d=.tup ds/\ois ds=true:=by
 cases d with
 |int a=>exact .inl ⟨a,rfl⟩
 |tup ds=>exact .inr ⟨ds,rfl,by simpa only [D.oi] using h⟩
 |_=>exact nomatch h
def wm{K:Frag}{H:Hp}{n:Nat}(ih:∀{d e:D}{x:V},d.dep<=n->d.oi=true->e.oi=true->RD K H d x->RD K H e x->d=e):∀{ds es:List D}{xs:List V},l7 ds<=n->ois ds=true->ois es=true->RDs K H ds xs->RDs K H es xs->ds=es:=by
 intro ds;induction ds with
 |nil=>
  intro es xs _ _ _ r1 r2
  have l:=r2.length
  rw[<-r1.length]at l
  exact(List.length_eq_zero_iff.mp l).symm
 |cons d ds AN=>
  intro es xs hd o1 o2 r1 r2
  cases es with
  |nil=>
   have l:=r1.length
   rw[<-r2.length]at l
   cases l
  |cons e es=>
   simp only[RDs]at r1 r2
   obtain⟨x,ys,h1,p1,q1⟩:=r1
   obtain⟨y,zs,h2,p2,q2⟩:=r2
   rw[h1]at h2;cases h2
   simp only[ois,gq]at o1 o2
   simp only[l7]at hd
   rw[ih (EZ (Nat.le_max_left _ _) hd) o1.1 o2.1 p1 p2,AN (EZ (Nat.le_max_right _ _) hd) o1.2 o2.2 q1 q2]
def y0l{K:Frag}{H:Hp}:∀(n:Nat){d e:D}{x:V},d.dep<=n->d.oi=true->e.oi=true->RD K H d x->RD K H e x->d=e:=by
 intro n;induction n with
 |zero=>
  intro d e x hd o1 o2 r1 r2
  rcases Bv o1 with⟨a,rfl⟩ |⟨ds,rfl,_⟩
  . have h1:=r1.int;rcases Bv o2 with⟨b,rfl⟩ |⟨es,rfl,_⟩
    . have h2:=r2.int;rw[h1]at h2;cases h2;rfl
    . obtain⟨_,_,h2,_⟩:=r2.tup;rw[h1]at h2;cases h2
  . simp only[D.dep]at hd;exact absurd hd (Nat.not_succ_le_zero _)
 |succ n ih=>
  intro d e x hd o1 o2 r1 r2
  rcases Bv o1 with⟨a,rfl⟩ |⟨ds,rfl,p1⟩
  . have h1:=r1.int;rcases Bv o2 with⟨b,rfl⟩ |⟨es,rfl,_⟩
    . have h2:=r2.int;rw[h1]at h2;cases h2;rfl
    . obtain⟨_,_,h2,_⟩:=r2.tup;rw[h1]at h2;cases h2
  . obtain⟨a,ys,h1,q1,w1⟩:=r1.tup;rcases Bv o2 with⟨b,rfl⟩ |⟨es,rfl,p2⟩
    . have h2:=r2.int;rw[h1]at h2;cases h2
    . obtain⟨b,zs,h2,q2,w2⟩:=r2.tup;rw[h1]at h2;cases h2;rw[q1]at q2;cases q2;simp only[D.dep]at hd;rw[wm ih (Nat.le_of_succ_le_succ hd) p1 p2 w1 w2]
def y4c{K:Frag}{H:Hp}{d e:D}{x:V}(o1:d.oi=true)(o2:e.oi=true)(r1:RD K H d x)(r2:RD K H e x):d=e:=y0l d.dep (ζ _) o1 o2 r1 r2
def zgj(p:l.Perm m):∀{xs:List α},m=xs.map f->∃ys:List α,ys.Perm xs/\l=ys.map f:=by
 induction p with
 |nil=>intro xs h;exact⟨xs,.refl _,h⟩
 |cons a p ih=>
  intro xs h
  cases xs with
  |nil=>cases h
  |cons x xs=>
   simp only[ng,List.cons.injEq]at h
   obtain⟨ys,p',e⟩:=ih h.2
   exact⟨x::ys,p'.cons x,by rw[e,h.1];rfl⟩
 |swap a b l=>
  intro xs h
  match xs,h with
  |x::y::xs,h=>
   simp only[ng,List.cons.injEq]at h
   exact⟨y::x::xs,.swap _ _ _,by rw[h.1,h.2.1,h.2.2];rfl⟩
 |trans p q AO AQ=>
  intro xs h
  obtain⟨ys,p',e⟩:=AQ h
  obtain⟨zs,q',e'⟩:=AO e
  exact⟨zs,q'.trans p',e'⟩
def Ym(l:List D):(List.range l.length).map (fun i=>l.getD i (.int 0))=l:=by
 apply List.ext_getElem?;intro i;rw[FF];by_cases hi:i<l.length
 . rw[List.getElem?_range hi];simp[hi]
 . rw[FN (by simpa using hi),FN (by simpa using hi)];rfl
noncomputable def atOf(its:List Value)(v:Value):Nat:=Classical.epsilon fun i=>i<its.length/\its.getD i Value.none=v
def Kr(h:i<its.length):atOf its (its.getD i Value.none)<its.length/\its.getD (atOf its (its.getD i Value.none)) Value.none=its.getD i Value.none:=by have hh:∃j,j<its.length/\its.getD j Value.none=its.getD i Value.none:=⟨i,h,rfl⟩;exact Classical.epsilon_spec hh
def Bq(ds:List D):Bool:=ois ds&&decide (l7 ds<=20)&&ds.all (fun d=>ds.all fun e=>(i7 d e).isSome)&&(ds.all isI||ds.all K4||ds.all Q8)&&decide (ds.length<64)
def G5:List D->Option D
 | [.lst ds]=>if Bq ds=true then some (.lst (E5 ds)) else none
 |_=>none
def Rv(K:Frag):List V->Hp->VK->Prop:=fun xs H Q=>∃p ys ds,xs=[.ref p]/\H p=some (.lst ys)/\RDs K H ds ys/\Bq ds=true/\∀(l:Addr)(is:List Nat),H l=none->(∀i∈is,i<ys.length)->E5 ds=is.map (fun i=>ds.getD i (.int 0))->Q (.ref l) (upd H l (.lst (is.map fun i=>ys.getD i .non)))
def Ll{K:Frag}:x5 K true G5 (Rv K):=by
 intro H0 H xs ds z Q s r ho k;unfold G5 at ho;split at ho<;>first |cases ho |skip
 split at ho<;>cases ho;rename_i es hok;obtain⟨x,rfl,q1⟩:=r.uno;obtain⟨p,ys,rfl,hp,ry⟩:=q1.lst;refine⟨p,ys,es,rfl,s _ _ hp,ry.mono s,hok,fun l is hl hi he=>k _ _ (.new s hl fun H' hH=>?_)⟩;simp only[OB];refine⟨_,hH,?_⟩;rw[he];exact ry.pick hi
section
variable {X:Cx}{pins:List (Addr×Obj)}{σ:St}{H:Hp}{s:Shared}
def wl(hx:(∃k,x=.int k)\/∃a,x=.ref a)(hy:(∃k,y=.int k)\/∃a,y=.ref a)(r1:RelV x v)(r2:RelV y v):x=y:=by
 rcases hx with⟨k,rfl⟩ |⟨a,rfl⟩<;>rcases hy with⟨j,rfl⟩ |⟨b,rfl⟩<;>simp only[RelV]at r1 r2
 . obtain⟨t,rfl⟩:=r1;obtain⟨u,h⟩:=r2;cases h;rfl
 . obtain⟨t,rfl⟩:=r1;cases r2
 . obtain⟨t,rfl⟩:=r2;cases r1
 . subst r1;cases r2;rfl
def jJ{K:Frag}{d:D}{x:V}(o:d.oi=true)(r:RD K H d x):(∃k,x=.int k)\/∃a,x=.ref a:=by
 cases d<;>simp only[D.oi]at o<;>first |cases o |skip
 . exact .inl ⟨_,r.int⟩
 . obtain⟨a,_,h,_⟩:=r.tup;exact .inr ⟨a,h⟩
def Zh(vs:List Value):(pairsOf vs).toList=(List.range vs.length).map fun i=>((vs.getD i Value.none,vs.getD i Value.none):Keyed):=by
 unfold pairsOf;rw[Array.toList_zip];apply List.ext_getElem
 . simp
 . intro i h1 h2;simp at h1;simp[h1]
def Xg(h:x∈pairsOf vs):∃i,i<vs.length/\x=(vs.getD i Value.none,vs.getD i Value.none):=by rw[Array.mem_def,Zh]at h;obtain⟨i,hi,e⟩:=GV.mp h;exact⟨i,IH.mp hi,e.symm⟩
theorem Yl:∀(vs:List Value),(∀i,i<vs.length->∃n t,vs.getD i Value.none=.int n t)->∃ns,IntsAre vs ns
 | [],_=>⟨[],.nil⟩
 |v::vs,h=>by
  obtain⟨n,t,e⟩:=h 0 (by simp);obtain⟨ns,r⟩:=Yl vs fun i hi=>by simpa using h (i+1) (by simpa using hi)
  have e':v=.int n t:=by simpa using e
  subst e';exact⟨n::ns,.cons n t r⟩
def wj(ia:IntsAre vs ns)(h:2<=vs.length):keyKind' vs.toArray=pure oneType':=by
 match vs,ia,h with
 |v1::v2::vs,ia,_=>exact keyKind_ints ia
def Kq(hc:X.calm=true)(hu:X.A.units+64<cLine):CallR X (.builtin "sorted") (Rv X.K):=by
 intro pins s σ H xs us Q I r h;obtain⟨p,ys,ds,rfl,hp,rd,hok,k⟩:=h;obtain⟨u,rfl,ru⟩:=r6 r;cases ru;obtain⟨its,rv,pl,hz⟩:=I.list (.of hp);obtain⟨m,hn,_⟩:=id I.loc;have F:=Att.fr_all hn;have N:=X7 (g:=Att.noObjs s.heap) (h:=s.heap) (L:=X.env.locals);unfold Bq at hok;simp only[gq,HP,pW]at hok;obtain⟨⟨⟨⟨gA,DF⟩,rK⟩,dC⟩,iI⟩:=hok;have sY:=rd.length;have rW:=rv.length;have fin:∀{mB:Array Value}{is:List Nat},(∀i∈is,i<ys.length)->E5 ds=is.map (fun i=>ds.getD i (.int 0))->mB=(is.map fun i=>its.getD i Value.none).toArray->EP X pins σ Q (.ref (s.heap.objs.size+1)) { s with heap:=sortedAll s.heap its mB }:=fun {mB is} hi he hv=>by
  have ax:(is.map fun i=>ys.getD i .non).length<=sizeLine:=by
   have e1:is.length=ds.length:=by have:=GY List.length he;rw[gc,(Ce ds).length_eq]at this;exact this.symm
   rw[gc,e1,sY];exact hz
  obtain⟨e,gl⟩:=sortedAll_at s.heap its mB;have kp:∀b o,s.heap.get? b=some o->(sortedAll s.heap its mB).get? b=some o:=fun b o q=>sortedAll_old q
  have hN:=N.kept_cons F kp (Iz _) gl;obtain⟨HD,I'⟩:=I.frnew (tk:=s.toks) (o:=.lst (is.map fun i=>ys.getD i .non)) hn (F.kept kp) hN (IJ (Iz _)) ⟨ax,_,e,rv.pick hi,by subst hv;exact(hN _ (.head _)).1⟩;exact⟨.ref _,_,I',rfl,k _ is HD hi he⟩
 by_cases h2:2<=its.length
 . have kp:∀b o,s.heap.get? b=some o->(C0 (C9 s.heap its) (s.heap.objs.size+1) its).get? b=some o:=fun b o q=>zje q
   have I':Inv X pins σ H { s with heap:=C0 (C9 s.heap its) (s.heap.objs.size+1) its }:=I.frn (tk:=s.toks) hn (F.kept kp) fun q hq=>(N.kept_cons F kp (Iz _) (Yn (Mj s.heap its)).choose_spec.2) q (.tail _ hq)
   have AR:X.A.in1.in1.units+20<cLine:=by show X.A.units+1+1+20<cLine;lia
   have main:∀κ:SortKind,(∀(Q:SortKind->Shared->Prop),Q κ { s with heap:=C0 (C9 s.heap its) (s.heap.objs.size+1) its }->wpAny (model X.prog X.w) X.A.in1.in1 (keyKind' its.toArray) Q (fun _ _=>False) { s with heap:=C0 (C9 s.heap its) (s.heap.objs.size+1) its }) ->
     (∀(E:Value->Shared->Prop)(C:Bool->Shared->Prop)(i j:Nat),i<ys.length->j<ys.length->C (ltI ds i j) { s with heap:=C0 (C9 s.heap its) (s.heap.objs.size+1) its }->wpAny (model X.prog X.w) X.A.in1.in1 (keyLt' κ (its.getD i Value.none) (its.getD j Value.none)) C E { s with heap:=C0 (C9 s.heap its) (s.heap.objs.size+1) its }) ->
     wpAny (model X.prog X.w) X.A (call (.builtin "sorted") [.ref p]) (EP X pins σ Q) X.xe s:=by
    intro κ mz ay
    refine zjf (rk:=fun q=>rkD ds (ds.getD (atOf its q.1) (.int 0))) pl.isList h2 (by lia) (by lia) mz ?_ fun out AS hA=>?_
    . intro x y hx hy st Q' hk q;obtain⟨i,hi,rfl⟩:=Xg hx;obtain⟨j,hj,rfl⟩:=Xg hy;have ai:=Kr hi;have aj:=Kr hj;dsimp only at q;rw[Rw gA (J8 (by lia)) (J8 (by lia))]at q;rw[lt'_eq];refine γ (wpS_get (γ (wpS_lift (wpAny_attempt ?_))));rw[hk];dsimp only;generalize atOf its (its.getD i Value.none)=i' at *;generalize atOf its (its.getD j Value.none)=j' at *;rw[<-ai.2,<-aj.2];exact ay _ _ i' j' (by lia) (by lia) ⟨rfl,wpS_pure q⟩
    . have e0:(pairsOf its).toList=(List.range its.length).map fun i=>((its.getD i Value.none,its.getD i Value.none):Keyed):=Zh its
      obtain⟨is,sZ,td⟩:=zgj (Array.perm_iff_toList_perm.mp AS) e0;have mC:∀i∈is,i<its.length:=fun i hi=>IH.mp (sZ.mem_iff.mp hi)
      have pm:(is.map fun i=>ds.getD i (.int 0)).Perm ds:=by refine(sZ.map _).trans ?_;rw[show its.length=ds.length by lia,Ym]
      refine fin (is:=is) (fun i hi=>by have:=mC i hi;lia) (Wf (Wg (Ce _) gA) ((Ce _).trans pm.symm) (Xn gA) ?_) ?_
      . rw[td]at hA;refine List.pairwise_map.mpr ((List.pairwise_map.mp hA).imp_of_mem fun {a b} ha hb bA=>?_);have same:∀i,i<its.length->ds.getD (atOf its (its.getD i Value.none)) (.int 0)=ds.getD i (.int 0):=fun i hi=>by have q:=Kr hi;have v1:=rv.getD (i:=atOf its (its.getD i Value.none)) (by lia);have v2:=rv.getD (i:=i) (by lia);have r1:=rd.getD (i:=atOf its (its.getD i Value.none)) (by lia);have r2:=rd.getD (i:=i) (by lia);have o1:=Kv (i:=atOf its (its.getD i Value.none)) gA;have o2:=Kv (i:=i) gA;rw[q.2]at v1;rw[wl (jJ o1 r1) (jJ o2 r2) v1 v2]at r1;exact y4c o1 o2 r1 r2
        dsimp only at bA;rw[same a (mC a ha),same b (mC b hb)]at bA;have z:=Rw gA (d:=ds.getD b (.int 0)) (e:=ds.getD a (.int 0)) (J8 (by have:=mC b hb;lia)) (J8 (by have:=mC a ha;lia));rw[<-z,FT]
        lia
      . rw[<-Iw,Array.toList_map,td,Io];rfl
   by_cases hI:ds.all isI=true
   . have lh:∀i,i<ys.length->∃n t,ds.getD i (.int 0)=.int n/\its.getD i Value.none=.int n t:=fun i hi=>by
      have r1:=rd.getD hi
      have v1:=rv.getD hi
      have m1:isI (ds.getD i (.int 0))=true:=EV.mp hI _ (J8 (by lia))
      generalize ds.getD i (.int 0)=d at *
      cases d<;>simp only[isI]at m1<;>first |cases m1 |skip
      rw[r1.int]at v1
      obtain⟨t,e⟩:=v1
      exact⟨_,t,rfl,e⟩
     refine main oneType' (fun Q' q=>?_) fun E C i j hi hj hC=>?_
     . have ia:∃ns,IntsAre its ns:=Yl its fun i hi=>by obtain⟨n,t,_,e⟩:=lh i (by lia);exact⟨n,t,e⟩
       obtain⟨ns,ia⟩:=ia;rw[wj ia h2];exact ω q
     . obtain⟨n,t,e1,e2⟩:=lh i hi;obtain⟨n',t',e3,e4⟩:=lh j hj;rw[e2,e4];refine PySem.W.kat_lt_int ?_;unfold ltI at hC;rw[e1,e3]at hC;simpa only [ltT] using hC
   . obtain⟨T,hT⟩:∃T:Bool,∀d∈ds,(if T=true then Q8 d else K4 d)=true:=by
      rcases dC with (z |z) |z
      . exact absurd z hI
      . exact⟨false,fun d hd=>by rw[ψ η];exact EV.mp z d hd⟩
      . exact⟨true,fun d hd=>by rw[ξ rfl];exact EV.mp z d hd⟩
     obtain⟨fs,t1,t2,t3⟩:=Si (M:=model X.prog X.w) I' T hT rd rv
     refine main (tuples' ((.type (if T=true then "tuple" else "int"):Value) != Value.type "tuple")) (fun Q' q=>PySem.W.kat_kind t1 (by lia) t3 (by cases T<;>rfl) q) fun E C i j hi hj hC=>?_
     have r1:=rd.getD hi
     have r2:=rd.getD hj
     have v1:=rv.getD hi
     have v2:=rv.getD hj
     have m1:ds.getD i (.int 0)∈ds:=J8 (by lia)
     have m2:ds.getD j (.int 0)∈ds:=J8 (by lia)
     have o1:=(ois_mem.mp gA) _ m1
     have o2:=(ois_mem.mp gA) _ m2
     have d1:=Ly m1
     have f1:=hT _ m1
     have f2:=hT _ m2
     obtain⟨b,hb⟩:=Option.isSome_iff_exists.mp (EV.mp (EV.mp rK _ m1) _ m2)
     have AT:b=ltI ds i j:=So hb
     rw[<-AT]at hC
     generalize ds.getD i (.int 0)=da at *
     generalize ds.getD j (.int 0)=db at *
     have tp:∀{d:L2.D},(if T=true then Q8 d else K4 d)=true->∃es,d=.tup es/\(T=false->∃k r,es=.int k::r):=fun {d} h=>by
      cases T with
      |false=>
       rw[ψ η]at h
       cases d<;>simp only[K4]at h<;>first |cases h |skip
       rename_i es
       cases es with
       |nil=>simp at h
       |cons e es=>cases e<;>simp at h;exact⟨_,rfl,fun _=>⟨_,_,rfl⟩⟩
      |true=>
       rw[ξ rfl]at h
       cases d<;>simp only[Q8]at h<;>first |cases h |skip
       exact⟨_,rfl,fun z=>nomatch z⟩
     obtain⟨ea,rfl,ka⟩:=tp f1
     obtain⟨eb,rfl,kb⟩:=tp f2
     obtain⟨a,xa,e1,ha,ra⟩:=r1.tup
     obtain⟨c,xc,e2,gf,rc⟩:=r2.tup
     rw[e1]at v1;rw[e2]at v2
     rw[show its.getD i Value.none=Value.ref a from v1,show its.getD j Value.none=Value.ref c from v2]
     obtain⟨ia,va,oa,AU,_,na,AV⟩:=I'.tupA ha
     obtain⟨ic,vc,oc,eR,_,nc,bE⟩:=I'.tupA gf
     simp only[L2.D.oi]at o1 o2
     simp only[L2.D.dep]at d1
     simp only[i7]at hb
     refine PySem.W.kat_lt AU AV eR bE (Ut I' AR hC 0 (fun AW _=>?_) o1 o2 (by lia) ra rc va vc hb (by simp))
     cases T with
     |false=>exact⟨ka rfl,kb rfl⟩
     |true=>exact absurd AW (by simp)
 . have AX:E5 ds=ds:=by
    match ds,sY,rW with
    | [],_,_=>rfl
    | [d],_,_=>rfl
    |_::_::_,a,b=>simp at a;lia
   have pz:∀l:List Value,l.length<2->(pairsOf l).map (·.2)=(List.map (fun i=>l.getD i Value.none) (List.range l.length)).toArray:=fun l hl=>by
    match l,hl with
    | [],_=>simp[pairsOf]
    | [v],_=>simp[pairsOf]
    |_::_::_,z=>simp at z;lia
   refine zem pl.isList (by lia) (fin (is:=List.range its.length) (fun i hi=>by simp at hi;lia) ?_ (pz its (by lia)))
   rw[AX,show its.length=ds.length by lia,Ym]
end
structure FnAt(K:Frag)(x:Str)(st:Stmt)(f:Addr):Prop where
 ns:nsIn K mainGlobals x=some (some (.ref f))
 fn:∃fd,Fun K x x st f fd
section
variable {P:Program}{w:World}{K:Frag}{mg:Str->Option Value}{base h:Heap}{x:Str}{st:Stmt}{f:Addr}{ps:List Str}{k:Nat}{sp:Sp}
def fat{oc:Value}{od an:Option Addr}{osl:Array (Option Value)}{kV doc pm cdv ct:Value}(a:nsIn K mainGlobals x=some (some (.ref f)))(l:K.lookup f=some ⟨oc,od,.func (PySem.W.fnOf x x (J7 st) (C1 st) (g0 st) .none kV doc pm an cdv ct),osl⟩)
 (c:codeIn K cdv x=true) (k:keepIn K (.ref f)=true):FnAt K x st f:=⟨a,_,Bl l c k⟩
def BP:List Str->(List Value->Prop)->Prop
 | [],P=>P []
 |_::r,P=>∀u,BP r fun us=>P (u::us)
def BP.all(h:BP ps Q)(us:List Value)(hl:us.length=ps.length):Q us:=by
 induction ps generalizing Q us with
 |nil=>rw[List.eq_nil_of_length_eq_zero hl];exact h
 |cons p r ih=>
  cases us with
  |nil=>cases hl
  |cons u us=>exact ih (h u) us (Nat.succ.inj hl)
def got(X:K.In h)(G:h.Ns mainGlobals mg)(A:FnAt K x st f)(ok:∀{fd},Fun K x x st f fd->FnOk P w K mg base (CX1 P w) k f fd ps sp)
  (hb:∀(kV doc pm:Value)(an:Option Addr)(cdv ct:Value),BP ps fun us=>bindArgs (PySem.W.fnOf x x (J7 st) (C1 st) (g0 st) .none kV doc pm an cdv ct) ⟨us,[]⟩=pure (ps.zip us):=by (repeat intro _);exact rfl):i4 P w K mg base x ps k sp:=by
 obtain⟨fd,F⟩:=A.fn
 exact⟨f,fd,ok F,F.binds fun kV doc pm an cdv ct=>(hb kV doc pm an cdv ct).all,IT X G A.ns,F.kp⟩
def y0m(X:K.In h)(G:h.Ns mainGlobals mg)(pN:mg x=some (.ref fa))(A:FnAt K x st f)(hb:∀(s:Shared)(v kV doc pm:Value)(an:Option Addr)(cdv ct:Value),BindsTo s (PySem.W.fnOf x x (J7 st) (C1 st) (g0 st) .none kV doc pm an cdv ct) ⟨[v],[]⟩ [(z,v)])
  (ok:∀base:Heap,K.In base->base.Ns mainGlobals mg->∀{fd},Fun K x x st f fd->FnOk P w K mg base (CX1 P w) k f fd ps sp) :
  ∃fd:FuncData,(∀(s:Shared)(v:Value),BindsTo s fd ⟨[v],[]⟩ [(z,v)])/\∀base:Heap,K.In base->base.Ns mainGlobals mg->FnOk P w K mg base (CX1 P w) k fa fd ps sp:=by
 have e:=pN.symm.trans (IT X G A.ns)
 cases e
 obtain⟨fd,F⟩:=A.fn
 have F':=F
 obtain⟨oc,od,kV,doc,pm,an,cdv,ct,osl,rfl,lk,cK⟩:=F'.ex
 exact⟨_,fun s v=>hb s v _ _ _ _ _ _,fun base kb nb=>ok base kb nb F⟩
def fsc(a:sc.kind=.function:=by rfl)(b:sc.isCoroutine=false:=by rfl)(c:sc.isGenerator=false:=by rfl)(d:N.Nodup:=by decide +kernel)(e:N.take ps.length=ps:=by rfl)
 (f:∀x∈ps,sc.names.lookup x=some .local\/sc.names.lookup x=some .cell:=by decide +kernel) (g:∀y∈sc.names,y.2≠.free:=by decide +kernel):FnScope N ps sc:=⟨a,b,c,d,e,f,g⟩
end
section
variable {X:Cx}{EX:XW}{fr dD:Bool}{a b e:Expr}{f g:DE->R D}{pos p:Pos}{m:List Bool}{j:Nat}
def qI(hr:Room j X.A)(ha:QE X EX false a f)(hb:QE X EX false b g)(hs:Le b:=by exact fun _ _=>rfl):QE X EX false (.Subscript a b pos) (eOp dIx f g):=y75 (y74 hr.units) y34 ha hb hs
def qL(hm:X.mg "len"=none)(ha:QE X EX false e f)(hg:Gl X "len":=by rfl)(he:starEach [e] X.env=(false,eval e X.env)::starEach [] X.env:=by rfl)(hpl:(backTo pos (starEach [] X.env)).any (·.1)=false:=by rfl) :
 QE X EX false (.Call (.Name "len" p) [e] [] pos) (eCB k9 (a6 f a8)):=w6 qH qG hg hm PySem.boot_len (a7 ha b6 he) (he:=he) (hpl:=hpl)
def sA(i:Nat)(hN:X.N.Nodup)(he:QE X EX dD e f)(hi:X.N[i]?=some x:=by rfl)(hx:Loc X.env.scope x:=by first |exact .inl rfl |exact .inr rfl)(hs:swapsWith e (some (.Name x dm)) pos.line X.env=pure false:=by rfl)(hf:X.fn x=true\/X.env.scope.names.lookup x=some .local:=by exact .inl rfl) :
 QS X EX fr (.Assign [.Name x dm] e pos) (c5 dD i m f):=y3b hN hi hx he hs hf
def tE(hr:Room j X.A)(ha:QE X EX false a f)(hb:QE X EX false b g)(hm:behindInMarks .Eq b=false):QT X EX (.Compare a [.Eq] [b] pos) (c8 asB (eOp dEq f g)):=n5 (z8 hr.units) z7 ha hb hm
def tN(hr:Room j X.A)(ha:QE X EX false a f)(hb:QE X EX false b g)(hm:behindInMarks .NotEq b=false):QT X EX (.Compare a [.NotEq] [b] pos) (c8 asB (eOp dNe f g)):=n5 (y2y hr.units) y2z ha hb hm
end
section
variable {X:Cx}{K:Frag}
noncomputable def kZ:R2:=fun x y H Q=>∃i j,x=.str i/\y=.str j/\i.length+j.length<=sizeLine/\Q (.str (i++j)) H
noncomputable def w8:D->D->Option D
 | .str a,.str b=>if a.length+b.length<=16777216 then some (.str (a++b)) else none
 |_,_=>none
def G4:OpR X (binaryOp .Add) kZ:=zim
def G6:OpD K false w8 kZ:=by
 intro H0 H x y d e z Q s rx ry ho k;unfold w8 at ho;split at ho<;>first | (cases ho;done) |skip
 split at ho<;>first | (cases ho;done) |skip
 rename_i hl;cases ho;cases rx.str;cases ry.str;exact⟨_,_,rfl,rfl,hl,k _ H (.pure s (.mkStr _))⟩
noncomputable def inT(a b:Str):Bool:=!(Builtin.Str.occurrences b a 0 b.length 1).isEmpty
def jI:R2:=fun x y H Q=>∃i j,x=.str i/\y=.str j/\Q (.bl (inT i j)) H
def S7:D->D->Option D
 | .str a,.str b=>some (.bl (inT a b))
 |_,_=>none
def kY:OpR X (compareOp .In) jI:=zX
def Ru:OpD K false S7 jI:=by
 intro H0 H x y d e z Q s rx ry ho k;unfold S7 at ho;split at ho<;>first | (cases ho;done) |skip
 cases ho;cases rx.str;cases ry.str;exact⟨_,_,rfl,rfl,k _ H (.pure s (.mkBl _))⟩
def kX:List V->Hp->VK->Prop:=fun xs H Q=>∃x n,xs=[.str x]/\PySem.intText? x=some n/\x.length<=640/\Q (.int n) H
noncomputable def D2:List D->Option D
 | [.str x]=>if x.length<=640 then(PySem.intText? x).map .int else none
 |_=>none
def Di:CallR X (.type "int") kX:=by intro pins s σ H xs us Q I r h;obtain⟨x,n,rfl,hn,hl,q⟩:=h;obtain⟨u,rfl,t,rfl⟩:=r6 r;exact PySem.W.KIN.call_text hn hl ⟨.int n,H,I.tok _,⟨_,rfl⟩,q⟩
def Ea:x5 K false D2 kX:=by
 intro H0 H xs ds z Q s r ho k;unfold D2 at ho;split at ho<;>first | (cases ho;done) |skip
 split at ho<;>first | (cases ho;done) |skip
 rename_i hl;obtain⟨x,rfl,q1⟩:=r.uno;cases q1.str;obtain⟨n,hn,rfl⟩:=FM.mp ho;exact⟨_,n,rfl,hn,hl,k _ H (.pure s (.mkInt _))⟩
def MtD(K:Frag)(fr:Bool)(m:Str->List D->Option D)(r:V->List V->Hp->VK->Prop):Prop:=∀(H0 H:Hp)(c:Str)(xs:List V)(ds:List D)(z:D)(Q:VK),Same H0 H->RDs K H0 ds xs->m c ds=some z->(∀v H',Out K fr H0 H z v H'->Q v H')->r (.str c) xs H Q
def eMt(m:Str->List D->Option D)(fo:DE->R D)(fs:DE->R (List D)):DE->R D:=fun ρ=>(fo ρ).bind fun d=>match d with
 | .str c=>(fs ρ).bind fun ds=>R.of (m c ds)
 |_=>.st
def y7f(hm:MtD K fr m r)(h:TEd K EX fr (eMt m fo fs) σ H Q):tBM K "str" r (TEd K EX false fo) (TAd K EX fs) σ H Q:=by
 obtain⟨sx,ρ,H0,s,e,h⟩:=h;unfold eMt at h;rw[Rk.bind]at h;refine TEd.go sx s e h fun d h v H1 ao s1 e1 r1=>?_
 split at h
 . cases r1.str;rw[Rk.bind]at h;refine⟨rfl,TAd.go (sx.trans s1) e1.2.1 (e.mono e1.1) h fun ds h vs H2 aY s2 e2 r2=>?_⟩;obtain⟨z,hz,h⟩:=h.of;exact hm aY H2 _ vs ds z Q e2.2.1 r2 hz fun w H3 o=>h w H3 (o.after (s1.trans s2) (e1.trans s1 e2))
 . exact h.elim
def Q7{EX:XW}{fr:Bool}{o e:Expr}{es:List Expr}{name:Str}{bO ak:Pos}{id:String}{m:Str->List D->Option D}{r:V->List V->Hp->VK->Prop}{fo:DE->R D}{fs:DE->R (List D)}(slot:Slot "str" name id)(eU:typeOf (.builtin id)=pure (.type "method_descriptor"))(hm:MtR X id r)(md:MtD X.K fr m r)
 (ho:QE X EX false o fo) (ha:QA X EX (e::es) fs) (aU:attributeBase o name X.env (eval o X.env)=eval o X.env:=by rfl)
 (dX:((backTo ak (starEach (e::es) X.env)).all (fun x=>!x.1)&&(backToKw ak (keywordEach [] X.env)).all (fun x=>x.1.isSome)&&decide ((e::es).length+([]:List Keyword).length+(if([]:List Keyword).isEmpty then 0 else 1)<30))=true:=by rfl)
 (cZ:(bO.endLine==ak.line)=true:=by rfl) (hs:starEach (e::es) X.env=(false,eval e X.env)::starEach es X.env:=by rfl) (bY:(backTo ak (starEach es X.env)).any (·.1)=false:=by rfl) :
 QE X EX fr (.Call (.Attribute o name bO) (e::es) [] ak) (eMt m fo fs):=⟨(Jg PySem.F.plainAttrs_str slot eU hm ho.h ha.h aU dX cZ hs bY).imp fun _ _ _ q=>y7f md q⟩
noncomputable def L8:Str->List D->Option D
 |x,[.str y]=>some (.bl (Txt.endswith x y))
 |_,_=>none
def kU:V->List V->Hp->VK->Prop:=fun v xs H Q=>∃x y,v=.str x/\xs=[.str y]/\Q (.bl (Txt.endswith x y)) H
def wg:MtR X "str.endswith" kU:=by intro pins s σ H v xs u us Q I rv r h;obtain⟨x,y,rfl,rfl,q⟩:=h;obtain⟨t,rfl⟩:=rv;obtain⟨w,rfl,t',rfl⟩:=r6 r;exact PySem.SC.endswith ⟨.bl _,H,I,rfl,q⟩
def wf:MtD K false L8 kU:=by
 intro H0 H c xs ds z Q s r ho k;unfold L8 at ho;split at ho<;>first | (cases ho;done) |skip
 cases ho;obtain⟨x,rfl,q1⟩:=r.uno;cases q1.str;exact⟨_,_,rfl,rfl,k _ H (.pure s (.mkBl _))⟩
noncomputable def W1:List D->Option (List Str)
 | []=>some []
 | .str x::r=>(W1 r).map (x::·)
 |_::_=>none
theorem Xf:∀{ds:List D}{xs:List V}{ys:List Str},W1 ds=some ys->RDs K H ds xs->xs=ys.map V.str
 | [],xs,ys,h,r=>by cases h;simp only[RDs]at r;rw[r];rfl
 |d::ds,xs,ys,h,r=>by
  simp only[RDs]at r;obtain⟨x,r',rfl,rx,rr⟩:=r;cases d<;>simp only[W1]at h<;>first | (cases h;done) |skip
  obtain⟨zs,hz,rfl⟩:=FM.mp h;cases rx.str;rw[Xf hz rr];rfl
def U8:Str->List D->Option D
 |x,[.lst ds]=>(W1 ds).bind fun ys=>if(ys.map (·.length)).sum+ys.length * x.length<=16777216 then some (.str (Txt.join x ys)) else none
 |_,_=>none
def kT(K:Frag):V->List V->Hp->VK->Prop:=fun v xs H Q=>∃(x:Str)(a:Addr)(ys:List Str),v=.str x/\xs=[.ref a]/\SqL K H a (ys.map V.str)/\(ys.map (·.length)).sum+ys.length * x.length<=16777216/\Q (.str (Txt.join x ys)) H
theorem Yk:∀{ys:List Str}{us:List Value},Vals (ys.map V.str) us->StrsAre us ys
 | [],_,h=>by cases h;exact .nil
 |y::ys,_,h=>by
  cases h with
  |cons p q=>obtain⟨t,rfl⟩:=p;exact .cons y t (Yk q)
def we:MtR X "str.join" (kT X.K):=by intro pins s σ H v xs u us Q I rv r h;obtain⟨x,a,ys,rfl,rfl,hq,hl,q⟩:=h;obtain⟨t,rfl⟩:=rv;obtain⟨w,rfl,r1⟩:=r6 r;cases r1;obtain⟨its,r2,pl,_⟩:=I.list hq;exact join_list pl.isList (Yk r2) hl fun t' k=>⟨.str _,H,I.tok _,⟨_,rfl⟩,q⟩
def wd:MtD K false U8 (kT K):=by
 intro H0 H c xs ds z Q s r ho k;unfold U8 at ho;split at ho<;>first | (cases ho;done) |skip
 obtain⟨ys,hy,ho⟩:=Option.bind_eq_some_iff.mp ho;split at ho<;>first | (cases ho;done) |skip
 rename_i hl;cases ho;obtain⟨x,rfl,q1⟩:=r.uno;obtain⟨a,zs,rfl,ha,ra⟩:=q1.lst;have e:=Xf hy ra;subst e;exact⟨_,a,ys,rfl,rfl,.of (s _ _ ha),hl,k _ H (.pure s (.mkStr _))⟩
theorem Xe:∀(k:Nat)(ys:List Str),Vals (ys.map V.str) (strsFrom k ys)
 |_,[]=>.nil
 |k,y::ys=>.cons ⟨k,rfl⟩ (Xe (k+1) ys)
noncomputable def O6:Str->List D->Option D
 |x,[.str y]=>if 1<=y.length/\x.length<=1000000 then some (.lst ((Txt.split x y).map .str)) else none
 |_,_=>none
def Rt:V->List V->Hp->VK->Prop:=fun v xs H Q=>∃x y:Str,v=.str x/\xs=[.str y]/\(1<=y.length/\x.length<=1000000)/\∀p,H p=none->Q (.ref p) (upd H p (.lst ((Txt.split x y).map V.str)))
def Lk:MtR X "str.split" Rt:=by
 intro pins s σ H v xs u us Q I rv r h;obtain⟨x,y,rfl,rfl,⟨hy,hx⟩,q⟩:=h;obtain⟨t,rfl⟩:=rv;obtain⟨w,rfl,t',rfl⟩:=r6 r;have hs:x.length<=sizeLine:=EZ hx (by decide);have n0:(y.length==0)=false:=by rw[GD];omega
 have nG:=PyProof.Rows.split_le x y;have put:∀(its:List Value)(k:Nat),Vals ((Txt.split x y).map V.str) its->EP X pins σ Q (.ref s.heap.objs.size) { s with heap:=s.heap.push { cls:=.type "list",data:=.seq its.toArray },toks:=k }:=fun its k hv=>
  ⟨.ref s.heap.objs.size,_,I.lnew hv (by rw[gc];exact EZ nG (EZ (Nat.add_le_add_right hx 2) (by decide))),rfl,q _ I.fresh⟩
 have run:∀{sp:PySem.Spec},Meets (Builtin.«str.split» ⟨[.str x t,.str y t'],[]⟩) sp->sp X.A (wants (EP X pins σ Q) X.xe) s->wpAny (model X.prog X.w) X.A (call (.builtin "str.split") [.str x t,.str y t']) (EP X pins σ Q) X.xe s:=fun m h=>
  call_meets Il (typeIs_str _ _ _) PySem.F.entry_str_split (PySem.F.args_str_split_2 _ _) m h
 cases h1:(decide (x.length<y.length)||decide (Builtin.Str.strKind x<Builtin.Str.strKind y)) with
 |true=>exact run (meets_str_split_cannot_occur x y t t' h1) (put [.str x t] s.toks (by rw[show Txt.split x y=[x] from ξ h1];exact .cons ⟨t,rfl⟩ .nil))
 |false=>
  have e1:Txt.split x y=_:=ψ (by rw[h1];exact η)
  cases h2:(Builtin.Str.occurrences x y 0 x.length (x.length+1)).isEmpty with
  |true=>exact run (meets_str_split_not_found x y t t' h1 n0 h2) (put [.str x t] s.toks (by rw[e1,ξ h2];exact .cons ⟨t,rfl⟩ .nil))
  |false=>
   have e2:Txt.split x y=_:=e1.trans (ψ (by rw[h2];exact η))
   exact run (meets_str_split_sep x y t t' h1 n0 h2 hs (by rw[<-e2];exact EZ nG (EZ (Nat.add_le_add_right hx 2) (by decide)))) (put _ _ (by rw[e2];exact Xe _ _))
theorem Vw:∀ys:List Str,RDs K H (ys.map D.str) (ys.map V.str)
 | []=>rfl
 |y::ys=>⟨_,_,rfl,.mkStr y,Vw ys⟩
def Lj:MtD K true O6 Rt:=by
 intro H0 H c xs ds z Q s r ho k;unfold O6 at ho;split at ho<;>first | (cases ho;done) |skip
 split at ho<;>first | (cases ho;done) |skip
 rename_i hl;cases ho;obtain⟨x,rfl,q1⟩:=r.uno;cases q1.str;exact⟨_,_,rfl,rfl,hl,fun p hp=>k _ _ (.new s hp fun H' hH=>by simp only[OB];exact⟨_,hH,Vw _⟩)⟩
noncomputable def l9(x:Str)(lo hi:Option Int):Str:=if(Builtin.Str.strSliceIndices lo hi 1 x.length).length=x.length then x else⟨((Builtin.Str.strSliceIndices lo hi 1 x.length).filterMap (x.cps[·]?)).toArray⟩
def jH:V->Option Int->Option Int->Hp->VK->Prop:=fun v lo hi H Q=>∃x:Str,v=.str x/\(l9 x lo hi).length<=sizeLine/\Q (.str (l9 x lo hi)) H
def o7:D->Option Int->Option Int->Option D
 | .str x,lo,hi=>if(l9 x lo hi).length<=16777216 then some (.str (l9 x lo hi)) else none
 |_,_,_=>none
def Tz(p:IsPart v o):∃l:Option (Int×Tok),v=partValue l/\l.map (·.1)=o:=by
 cases p with
 |none=>exact⟨none,rfl,rfl⟩
 |int i t=>exact⟨some (i,t),rfl,rfl⟩
def F1:SlR X jH:=by
 intro pins s σ H x v vl vu lo hi sl Q I rx hs pl pu h;obtain⟨x,rfl,hl,q⟩:=h;obtain⟨t,rfl⟩:=rx;obtain⟨l,rfl,el⟩:=Tz pl;obtain⟨u,rfl,eu⟩:=Tz pu;refine⟨"str",_,PySem.F.slot_str_getitem.lookup,typeIs_str _ _ _,wpAny_getItem_str_slice (l:=l) (u:=u) (st:=none) hs rfl ?_⟩;have e:slicePicked x l u none=Builtin.Str.strSliceIndices lo hi 1 x.length:=by unfold slicePicked;rw[el,eu];rfl
 unfold sliceMade;rw[e];unfold l9 at hl q;split
 . rename_i z;have z':(Builtin.Str.strSliceIndices lo hi 1 x.length).length=x.length:=by simpa using z
   rw[ξ z']at q;exact⟨.str x,H,I,⟨_,rfl⟩,q⟩
 . rename_i z;have z':¬(Builtin.Str.strSliceIndices lo hi 1 x.length).length=x.length:=by simpa using z
   rw[ψ z']at q hl;exact⟨hl,.str _,H,I.tok _,⟨_,rfl⟩,q⟩
def E9:SlD K false o7 jH:=by
 intro H0 H x d z lo hi Q s r ho k;unfold o7 at ho;split at ho<;>first | (cases ho;done) |skip
 split at ho<;>first | (cases ho;done) |skip
 rename_i hl;cases ho;cases r.str;exact⟨_,rfl,hl,k _ H (.pure s (.mkStr _))⟩
noncomputable def Ao(x:Str):List V:=x.cps.toList.map fun c=>.str ⟨#[c]⟩
def Its(x:Str):It:=⟨fun i _=>i<x.cps.size,fun i H v H'=>H'=H/\(Ao x)[i]?=some v,fun i _=>x.cps.size<=i⟩
def yj(x:Str)(t:Tok)(it:Addr):Turn P w K tg (Its x) [it] it (fun i h=>h.IsStrIter it "str_ascii_iterator" x t i) where
 mem:=by simp
 obj:=fun i h st b hb=>by
  have e:b=it:=by simpa using hb
  subst e;obtain⟨o,e,c,d⟩:=st;exact⟨o,e,fun v z=>by rw[d]at z;cases z⟩
 keep:=fun i h h' st k=>let ⟨o,e,r⟩:=st;⟨o,k it (by simp) o e,r⟩
 item:=by
  intro X hP hw hK hc i pins s σ H E I hf st hg;subst hP hw hK;have hi:x.cps[i]?=some x.cps[i]:=Array.getElem?_eq_getElem hg;obtain⟨f0,f1,f2,f3,f4,f5⟩:=hf it (by simp);refine wpAny_pyNext_ascii_item st hi fun h' st' sb=>?_
  obtain⟨o,e,c,d⟩:=id st';refine⟨_,rfl,Dc (s:={ s with heap:=h',toks:=s.toks+1 }) e c d (by decide) ⟨.str ⟨#[x.cps[i]]⟩,H,I.turned (fun b o hb e=>(sb.2 b hb).trans e) f0 f1 f3 f4 f5,⟨_,rfl⟩,⟨rfl,?_⟩,st',fun b hb=>(hf b hb).1⟩⟩;unfold Ao;rw[FF,Array.getElem?_toList,hi];rfl
 done:=by intro X hP hw hK hc i pins s σ H E I hf st hg;subst hP hw hK;obtain⟨f0,f1,f2,f3,f4,f5⟩:=hf it (by simp);exact wpAny_pyNext_ascii_end (I.ok.hd hc) st (Array.getElem?_eq_none hg) fun h' eb=>⟨rfl,I.turned (t':=s.toks) (fun b o hb e=>eb b o hb e) f0 f1 f3 f4 f5⟩
 self:=fun _ _ _ _ _ st h=>wpAny_pyIter_striter_ascii st h
def y7g(tl:TE):TI:=fun σ H R=>tl σ H fun v H1=>∃x:Str,v=.str x/\x.cps.all (·<128)=true/\R (ItS (fun _=>True) (Ao x)) H1
def y0s(hl:PE X l tl):PI X tg l (y7g tl):=by
 intro pins s σ H R I h;refine thn (hl pins s σ H _ I h) fun v s1 z=>?_
 obtain⟨v',H1,I1,r1,x,rfl,ha,q⟩:=z;obtain⟨t,rfl⟩:=r1;have len:(Ao x).length=x.cps.size:=by simp[Ao]
 refine wpAny_pyIter_ascii ha ?_;refine⟨s1.heap.objs.size,[s1.heap.objs.size],_,_,H1,rfl,I1.kept (t':=s1.toks) fun b o e=>τ _ e,(yj x t _).conv ?_ ?_ ?_,⟨_,Ψ _ rfl,rfl,rfl⟩,fun b hb=>?_,q⟩
 . exact fun i H' z=>Nat.lt_of_lt_of_eq z.2 len
 . exact fun i H' v eW _ z=>z
 . exact fun i H' z=>EZ (Nat.le_of_eq len.symm) z.2
 . have e:b=s1.heap.objs.size:=by simpa using hb
   subst e;exact I1.fpOk (ζ _) (I1.hok.fresh (ζ _))
noncomputable def kS(x:Str):List D:=x.cps.toList.map fun c=>.str ⟨#[c]⟩
def iS(f:DE->R D):DE->R (List D):=fun ρ=>(f ρ).bind fun d=>match d with
 | .str x=>if x.cps.all (·<128)=true then .ok (kS x) else .st
 |_=>.st
theorem Xd:∀cs:List Nat,RDs K H (cs.map fun c=>D.str ⟨#[c]⟩) (cs.map fun c=>V.str ⟨#[c]⟩)
 | []=>rfl
 |c::cs=>⟨_,_,rfl,.mkStr _,Xd cs⟩
def Rs(hl:QE X EX false l f):QI X EX false tg l (iS f):=⟨(y0s hl.h).imp fun σ H Q ⟨sx,ρ,H0,s,e,h⟩=>by
 unfold iS at h;rw[Rk.bind]at h;refine TEd.go sx s e h fun d h v H1 ao s1 e1 r1=>?_
 split at h
 . split at h
   . rename_i ha;cases r1.str;exact⟨_,rfl,ha,h _ H1 ao s1 e1 (Dn (fun _ _=>trivial) (Xd _))⟩
   . exact h.elim
 . exact h.elim⟩
end
section
variable {X:Cx}{K:Frag}
noncomputable def U7:Str->List D->Option D
 |x,[.str y]=>some (.int (Txt.find x y))
 |_,_=>none
def kR:V->List V->Hp->VK->Prop:=fun v xs H Q=>∃x y,v=.str x/\xs=[.str y]/\Q (.int (Txt.find x y)) H
def Ty:MtR X "str.find" kR:=by intro pins s σ H v xs u us Q I rv r h;obtain⟨x,y,rfl,rfl,q⟩:=h;obtain⟨t,rfl⟩:=rv;obtain⟨w,rfl,t',rfl⟩:=r6 r;exact PySem.SC.find ⟨.int _,H,I.tok _,⟨_,rfl⟩,q⟩
def Tw:MtD K false U7 kR:=by
 intro H0 H c xs ds z Q s r ho k;unfold U7 at ho;split at ho<;>first | (cases ho;done) |skip
 cases ho;obtain⟨x,rfl,q1⟩:=r.uno;cases q1.str;exact⟨_,_,rfl,rfl,k _ H (.pure s (.mkInt _))⟩
def kQ:R2:=fun x y H Q=>∃i j,x=.str i/\y=.str j/\Q (.bl (!inT i j)) H
def N9:D->D->Option D
 | .str a,.str b=>some (.bl (!inT a b))
 |_,_=>none
def y0w:OpR X (compareOp .NotIn) kQ:=zdn
def wc:OpD K false N9 kQ:=by
 intro H0 H x y d e z Q s rx ry ho k;unfold N9 at ho;split at ho<;>first | (cases ho;done) |skip
 cases ho;cases rx.str;cases ry.str;exact⟨_,_,rfl,rfl,k _ H (.pure s (.mkBl _))⟩
end
end L2
namespace Cu
abbrev P2:=Int×Int
abbrev P3:=Int×Int×Int
def sh(tf x:Int):Int:=if x > tf then x+1 else x
def sh2(c:Int)(p:P2):P2:=(sh c p.1,sh c p.2)
def outer(p:P3):P2:=(p.1,p.2.2)
def An(n c:Int):P2:=if c=n - 1 then(0,c) else(c,c+2)
structure CInv(n:Int)(ls:List P2)(T:List P3):Prop where
 n3:3<=n
 tri:∀a c b,(a,c,b)∈T->0<=a/\a<c/\c<b/\b<=n - 1/\((a,c)∈ls\/c=a+1)/\((c,b)∈ls\/b=c+1)
 lin:∀a b,(a,b)∈ls->0<=a/\a+2<=b/\b<=n - 1/\¬(a=0/\b=n - 1)
 nc:∀a b c d,(a,b)∈ls->(c,d)∈ls->¬(a<c/\c<b/\b<d)
 nd:ls.Nodup
 prm:(T.map outer).Perm ((0,n - 1)::ls)
end Cu
namespace Cu
open L2 (mxD T2)
def pk(x:Int)(p l:P2):Bool:=decide (l.1=x)&&(decide (l.2<=p.2)&&!(decide (l.1=p.1)&&decide (l.2=p.2)))
def y0x:pk x p l=true↔l.1=x/\l.2<=p.2/\¬(l.1=p.1/\l.2=p.2):=by
 simp only[pk,gq,pW,HH,Bool.and_eq_false_iff,FT];constructor
 . rintro⟨h1,h2,h3⟩;exact⟨h1,h2,fun h=>by rcases h3 with z |z<;>lia⟩
 . rintro⟨h1,h2,h3⟩;refine⟨h1,h2,?_⟩;by_cases z:l.1=p.1
   . exact .inr fun w=>h3 ⟨z,w⟩
   . exact .inl z
def ends(x:Int)(p:P2)(ls:List P2):List Int:=(ls.filter (pk x p)).map (·.2)
def mem_ends:y∈ends x p ls↔(x,y)∈ls/\y<=p.2/\¬(x=p.1/\y=p.2):=by
 simp only[ends,GV,HN,y0x];constructor
 . rintro⟨⟨a,b⟩,⟨h1,h2,h3,h4⟩,rfl⟩;simp only at h2 h3 h4⊢;subst h2;exact⟨h1,h3,h4⟩
 . rintro⟨h1,h2,h3⟩;exact⟨(x,y),⟨h1,rfl,h2,h3⟩,rfl⟩
section
variable {n:Int}{ls ls':List P2}{T:List P3}
def thr(T:List P3)(p:P2):P3:=(T.find? fun t=>decide (outer t=p)).getD (0,0,0)
def y0y(h:p∈T.map outer):thr T p∈T/\outer (thr T p)=p:=by
 obtain⟨t,ht,e⟩:=GV.mp h;unfold thr;cases hf:T.find? fun t=>decide (outer t=p) with
 |none=>
  have:=List.find?_eq_none.mp hf t ht
  simp[e]at this
 |some u=>
  have h1:=List.mem_of_find?_eq_some hf
  have h2:=List.find?_some hf
  exact⟨h1,by simpa using h2⟩
def CInv.top_in(I:CInv n ls T)(p:ls'.Perm ls)(h:q∈(0,n - 1)::ls'):thr T q∈T/\outer (thr T q)=q:=
 y0y ((((p.cons _).trans I.prm.symm).mem_iff).mp h)
end
end Cu
namespace Cu
structure Lns(n:Int)(ls:List P2):Prop where
 n3:3<=n
 lin:∀a b,(a,b)∈ls->0<=a/\a+2<=b/\b<=n - 1/\¬(a=0/\b=n - 1)
 nc:∀a b c d,(a,b)∈ls->(c,d)∈ls->¬(a<c/\c<b/\b<d)
 nd:ls.Nodup
structure Nx(t:P2)(ls:List P2)(nx:Int->Int):Prop where
 up:∀c,c<t.2->c<nx c/\nx c<=t.2
 or:∀c,c<t.2->((c,nx c)∈ls/\(c,nx c)≠t)\/nx c=c+1
 ge:∀c e,(c,e)∈ls->e<=t.2->(c,e)≠t->e<=nx c
inductive Ch (b:Int) (nx:Int->Int):Int->List Int->List P2->Prop
 |last:Ch b nx b [b] []
 |step {c:Int} {l:List Int} {es:List P2} (h:c<b) (r:Ch b nx (nx c) l es):Ch b nx c (c::l) ((c,nx c)::es)
section
variable {b:Int}{nx:Int->Int}{c:Int}{l:List Int}{es:List P2}
def Ch.ge(h:Ch b nx c l es)(hu:∀c,c<b->c<nx c/\nx c<=b):(∀x∈l,c<=x/\x<=b)/\l.Pairwise (·<·)/\c∈l/\b∈l:=by
 induction h with
 |last=>exact⟨fun x hx=>by simp at hx;lia,by simp,by simp,by simp⟩
 |step h r ih=>
  have u:=hu _ h
  refine⟨fun x hx=>?_,FY.mpr ⟨fun x hx=>?_,ih.2.1⟩,by simp,bI _ ih.2.2.2⟩
  . rcases ee.mp hx with rfl |hx
    . lia
    . have:=ih.1 x hx;lia
  . have:=ih.1 x hx;lia
def Ch.edge(h:Ch b nx c l es)(hu:∀c,c<b->c<nx c/\nx c<=b):(∀x y,(x,y)∈es↔x∈l/\x<b/\y=nx x)/\es.Nodup:=by
 induction h with
 |last=>exact⟨fun x y=>by simp;lia,List.nodup_nil⟩
 | @step c l es h r ih=>
  have g:=r.ge hu
  have u:=hu _ h
  refine⟨fun x y=>?_,IC.mpr ⟨fun hm=>?_,ih.2⟩⟩
  . rw[ee,ih.1,ee,Prod.mk.injEq];constructor
    . rintro (⟨rfl,rfl⟩ |⟨h1,h2,h3⟩)
      . exact⟨.inl rfl,h,rfl⟩
      . exact⟨.inr h1,h2,h3⟩
    . rintro⟨rfl |h1,h2,h3⟩
      . exact .inl ⟨rfl,h3⟩
      . exact .inr ⟨h1,h2,h3⟩
  . have:=(ih.1 c _).mp hm;have:=g.1 c this.1
    lia
def Ch.le(h:Ch b nx c l es)(hu:∀c,c<b->c<nx c/\nx c<=b):∀x y,x∈l->y∈l->x<y->nx x<=y:=by
 induction h with
 |last=>intro x y hx hy;simp at hx hy;lia
 | @step c l es h r ih=>
  have g:=r.ge hu
  have u:=hu _ h
  intro x y hx hy hl
  rcases ee.mp hx with e1 |kx<;>rcases ee.mp hy with e2 |ky
  . lia
  . rw[e1];exact(g.1 y ky).1
  . have:=g.1 x kx;lia
  . exact ih x y kx ky hl
def Ch.lo(h:Ch b nx c l es):∀z,c<=z->z<=b->∃p,p∈l/\p<=z/\(z=p\/(p<b/\z<nx p)):=by
 induction h with
 |last=>intro z h1 h2;exact⟨b,by simp,by lia,.inl (by lia)⟩
 | @step c l es h r ih=>
  intro z h1 h2
  by_cases q:z<nx c
  . exact⟨c,by simp,h1,.inr ⟨h,q⟩⟩
  . obtain⟨p,p1,p2,p3⟩:=ih z (by lia) h2;exact⟨p,bI _ p1,p2,p3⟩
def Ch.ends(h:Ch b nx c l es):(∃m,l=m++[b])/\∃m,l=c::m:=by
 induction h with
 |last=>exact⟨⟨[],rfl⟩,[],rfl⟩
 | @step c l es h r ih=>obtain⟨⟨m,e⟩,_⟩:=ih;exact⟨⟨c::m,by rw[e];rfl⟩,l,rfl⟩
theorem Ch.ex(hu:∀c,c<b->c<nx c/\nx c<=b):∀(k:Nat)(c:Int),c<=b->(b - c).toNat<=k->∃l es,Ch b nx c l es
 | 0,c,h,hk=>by
  have:c=b:=by lia
  subst this;exact⟨_,_,.last⟩
 |k+1,c,h,hk=>by
  by_cases q:c<b
  . have u:=hu c q;obtain⟨l,es,r⟩:=Ch.ex hu k (nx c) u.2 (by lia);exact⟨_,_,.step q r⟩
  . have:c=b:=by lia
    subst this;exact⟨_,_,.last⟩
def Ch.len(h:Ch b nx c l es)(hu:∀c,c<b->c<nx c/\nx c<=b):(l.length:Int)<=b - c+1:=by
 induction h with
 |last=>simp
 | @step c l es h r ih=>have u:=hu _ h;simp;lia
end
section
variable {n:Int}{ls:List P2}
def y4(n:Int)(ls:List P2)(t:P2):Prop:=t=(0,n - 1)\/t∈ls
def Lns.top(I:Lns n ls)(h:y4 n ls (a,b)):0<=a/\a+2<=b/\b<=n - 1:=by
 have:=I.n3;rcases h with h |h
 . cases h;lia
 . have:=I.lin a b h;lia
def Lns.tnc(I:Lns n ls)(h:y4 n ls (a,b))(h':y4 n ls (c,d)):¬(a<c/\c<b/\b<d):=by
 have t1:=I.top h;have t2:=I.top h';rcases h with h |h
 . cases h;omega
 rcases h' with h' |h'
 . cases h';omega
 exact I.nc a b c d h h'
def y7h(n:Int)(ls:List P2)(f:P2):Prop:=f∈ls\/(f.2=f.1+1/\0<=f.1/\f.2<=n - 1)
def Lns.room(I:Lns n ls)(ht:y4 n ls t)(X:Nx t ls nx)(Z:Ch t.2 nx t.1 C E) :
  3<=C.length/\(∀x∈C,0<=x/\x<=n - 1)/\t∉E/\(∀f∈E,y7h n ls f/\f.1<f.2)/\∀c e,(c,e)∈ls->c∈C->e∈C->(c,e)∈E\/(c,e)=t:=by
 obtain⟨a,b⟩:=t
 have tt:=I.top ht
 have G:=Z.ge X.up
 have Ed:=Z.edge X.up
 have ua:=X.up a (by simp only;lia)
 simp only at ua
 have na:nx a<b:=by
  rcases X.or a (by simp only;lia) with⟨o1,o2⟩ |o
  . have:nx a≠b:=fun z=>o2 (by rw[z])
    lia
  . lia
 refine⟨?_,fun x hx=>?_,fun hm=>?_,fun f hf=>?_,fun c e h hc he=>?_⟩
 . cases Z with
   |last=>lia
   |step h r=>
    rename_i l es
    generalize hx:nx a=x at *
    cases r with
    |last=>lia
    |step h2 r2=>
     obtain⟨m,e⟩:=r2.ends.2
     rw[e];simp
 . have:=G.1 x hx;simp only at this;lia
 . have:=(Ed.1 a b).mp hm;lia
 . obtain⟨c,e⟩:=f;obtain⟨h1,h2,h3⟩:=(Ed.1 c e).mp hf;have u:=X.up c h2;have:=(G.1 c h1).1;simp only at this u h2;refine⟨?_,by simp only;lia⟩;rcases X.or c h2 with⟨o1,o2⟩ |o
   . exact .inl (by rw[h3];exact o1)
   . exact .inr ⟨by simp only;lia,by simp only;lia,by simp only;lia⟩
 . by_cases q:(c,e)=(a,b)
   . exact .inr q
   . left;have l:=I.lin c e h;have h1:=G.1 e he;simp only at h1;have g:=X.ge c e h h1.2 q;have k:=Z.le X.up c e hc he (by lia);exact(Ed.1 c e).mpr ⟨hc,by simp only;lia,by lia⟩
variable {N:P2->Int->Int}(hN:∀t,y4 n ls t->Nx t ls (N t))
include hN
end
end Cu
namespace Cu
open L2 (mxD Br)
def nxt(ls:List P2)(t:P2)(c:Int):Int:=mxD (c+1) (ends c t ls)
def Jw:(mxD d ys∈ys\/(ys=[]/\mxD d ys=d))/\∀y∈ys,y<=mxD d ys:=by
 cases ys with
 |nil=>exact⟨.inr ⟨rfl,rfl⟩,fun y hy=>by cases hy⟩
 |cons n ns=>
  obtain⟨a,b⟩:=Br ns n
  exact⟨.inl a,b⟩
def kP(I:Lns n ls)(t:P2):Nx t ls (nxt ls t) where
 up:=fun c hc=>by
  unfold nxt;rcases (Jw (d:=c+1) (ys:=ends c t ls)).1 with h |⟨_,h⟩
  . obtain⟨m1,m2,m3⟩:=mem_ends.mp h;have:=I.lin _ _ m1;exact⟨by lia,m2⟩
  . rw[h];lia
 or:=fun c hc=>by
  unfold nxt;rcases (Jw (d:=c+1) (ys:=ends c t ls)).1 with h |⟨_,h⟩
  . obtain⟨m1,m2,m3⟩:=mem_ends.mp h;exact .inl ⟨m1,fun z=>m3 ⟨GY Prod.fst z,GY Prod.snd z⟩⟩
  . exact .inr h
 ge:=fun c e h1 h2 h3=>(Jw (d:=c+1) (ys:=ends c t ls)).2 e (mem_ends.mpr ⟨h1,h2,fun z=>h3 (Prod.ext z.1 z.2)⟩)
end Cu
namespace Cu
open L2 (ltT L Sc)
def under(I:CInv n ls T)(h:(a,b)=(0,n - 1)\/(a,b)∈ls):∃m,(a,m,b)∈T:=by obtain⟨t1,t2⟩:=I.top_in (ls':=ls) (.refl _) (q:=(a,b)) (ee.mpr h);generalize Cu.thr T (a,b)=u at t1 t2;obtain⟨x,m,y⟩:=u;simp only[outer,Prod.mk.injEq]at t2;obtain⟨rfl,rfl⟩:=t2;exact⟨m,t1⟩
end Cu
namespace Cu
structure Rm(n:Int)(B:List P2)(t:P2)(R:List Int):Prop where
 rise:R.Pairwise (·<·)
 h1:t.1∈R
 h2:t.2∈R
 lo:∀x∈R,t.1<=x/\x<=t.2
 top:t=(0,n - 1)\/t∈B
 rng:0<=t.1/\t.1+2<=t.2/\t.2<=n - 1
 gap:∀z,t.1<=z->z<=t.2->z∉R->∃p q,p∈R/\q∈R/\p<z/\z<q/\(p,q)∈B/\(p,q)≠t/\∀x∈R,x<=p\/q<=x
 nxt:∀p q,p∈R->q∈R->p<q->(∀x∈R,x<=p\/q<=x)->((p,q)∈B/\(p,q)≠t)\/q=p+1
 thr:∃m∈R,t.1<m/\m<t.2
 free:∀c e,(c,e)∈B->(c,e)≠t->t.1<=c->e<=t.2->∀x∈R,x<=c\/e<=x
def Rm.of(I:Lns n B)(ht:y4 n B t)(X:Nx t B nx)(Z:Ch t.2 nx t.1 C E):Rm n B t C:=by
 obtain⟨g1,g2,g3,g4⟩:=Z.ge X.up;have tt:=I.top ht;have rm:=I.room ht X Z;have Ed:=(Z.edge X.up).1;have pO:∀x∈C,x<t.2->nx x∈C:=fun x hx hb=>by
  obtain⟨p,hp,gj,mD⟩:=Z.lo (nx x) (by have:=(g1 x hx).1;have:=(X.up x hb).1;lia) (X.up x hb).2;rcases mD with e |⟨eF,ay⟩
  . rw[e];exact hp
  . by_cases c:x<p
    . have:=Z.le X.up x p hx hp c;have:p=nx x:=by lia
      rw[<-this];exact hp
    . have:p<=x:=by lia
      rcases Int.lt_or_eq_of_le this with q |q
      . have:=Z.le X.up p x hp hx q;have:=(X.up x hb).1
        lia
      . rw[q]at ay;lia
 refine⟨g2,g3,g4,g1,ht,⟨tt.1,tt.2.1,tt.2.2⟩,fun z z1 z2 hz=>?_,fun p q hp hq AY hb=>?_,?_,fun c e he aP h1 h2 x hx=>?_⟩
 . obtain⟨p,hp,gj,mD⟩:=Z.lo z z1 z2;rcases mD with e |⟨eF,ay⟩
   . exact absurd (e ▸ hp) hz
   . have aP:p≠z:=fun e=>hz (e ▸ hp)
     have u:=X.up p eF;refine⟨p,nx p,hp,pO p hp eF,by lia,ay,?_,?_,fun x hx=>?_⟩
     . rcases X.or p eF with h |h
       . exact h.1
       . lia
     . rcases X.or p eF with h |h
       . exact h.2
       . lia
     . by_cases c:p<x
       . exact .inr (Z.le X.up p x hp hx c)
       . exact .inl (by lia)
 . have eF:p<t.2:=by have:=(g1 q hq).2;lia
   have h1:=Z.le X.up p q hp hq AY;have h2:=hb (nx p) (pO p hp eF);have u:=X.up p eF;have:nx p=q:=by lia
   rcases X.or p eF with h |h
   . rw[this]at h;exact .inl h
   . rw[this]at h;exact .inr h
 . have u:=X.up t.1 (by lia);refine⟨nx t.1,pO t.1 g3 (by lia),u.1,?_⟩;rcases Int.lt_or_eq_of_le u.2 with h |h
   . exact h
   . rcases X.or t.1 (by lia) with z |z
     . exact absurd (by rw[h]) z.2
     . lia
 . have lc:=I.lin c e he;obtain⟨p,hp,gj,mD⟩:=Z.lo c h1 (by lia);have eF:p<t.2:=by lia
   have dy:e<=nx p:=by
    rcases mD with z |⟨_,z⟩
    . rw[<-z];exact X.ge c e he h2 aP
    . rcases Int.lt_or_eq_of_le gj with k |k
      . rcases X.or p eF with o |o
        . have:=I.nc p (nx p) c e o.1 he;lia
        . lia
      . rw[k];exact X.ge c e he h2 aP
   by_cases k:p<x
   . exact .inr (Int.le_trans dy (Z.le X.up p x hp hx k))
   . exact .inl (by lia)
def z6(r:Int)(p:P2):Bool:=decide (0<=p.1/\p.1<p.2/\p.2<r/\¬(p.2=p.1+1\/(p.1=0/\p.2=r - 1)))
def ln_iff:z6 r (i,j)=true↔0<=i/\i+2<=j/\j<r/\¬(i=0/\j=r - 1):=by unfold z6;rw[pW];simp only;omega
def wi(ls:List P2)(a b:Int):Nat:=(ls.filter fun p=>decide (a<=p.1)&&decide (p.2<=b)).length
section
variable {n:Int}{ls:List P2}{T:List P3}
theorem Rr(a m b:Int):∀l:List P2,(∀p∈l,(decide (a<=p.1)&&decide (p.2<=b))=true↔(p=(a,b)\/(a<=p.1/\p.2<=m)\/(m<=p.1/\p.2<=b)))->(∀p∈l,p.1<p.2)->a<m->m<b->wi l a b=l.count (a,b)+wi l a m+wi l m b
 | [],_,_,_,_=>rfl
 |p::l,h,hl,h1,h2=>by
  have ih:=Rr a m b l (fun q hq=>h q (bI _ hq)) (fun q hq=>hl q (bI _ hq)) h1 h2;have hp:=h p io;have lp:=hl p io;have e:∀x y,wi (p::l) x y=(if x<=p.1/\p.2<=y then 1 else 0)+wi l x y:=fun x y=>by
   unfold wi;by_cases k:x<=p.1/\p.2<=y
   . rw[List.filter_cons_of_pos (by simp[k.1,k.2]),gV,ξ k];lia
   . rw[List.filter_cons_of_neg (by simpa using k),ψ k];lia
  rw[e,e,e,ih,List.count_cons];obtain⟨x,y⟩:=p;simp only[gq,pW,Prod.mk.injEq]at hp lp⊢;simp only[Iv,Prod.mk.injEq];clear e ih h hl;generalize wi l a m=u;generalize wi l m b=v;generalize List.count (a,b) l=w;by_cases k:a<=x/\y<=b
  . rw[ξ k];rcases hp.mp k with z |z |z<;>clear hp k
    . rw[ξ z,ψ (fun k=>by have:=k.2;lia),ψ (fun k=>by have:=k.1;lia)];lia
    . rw[ψ (fun k=>by have:=k.2;have:=z.2;lia),ξ z,ψ (fun k=>by have:=k.1;have:=z.2;lia)];lia
    . rw[ψ (fun k=>by have:=k.1;have:=z.1;lia),ψ (fun k=>by have:=k.2;have:=z.1;lia),ξ z];lia
  . rw[ψ k,ψ fun z=>k (hp.mpr (.inl z)),ψ fun z=>k (hp.mpr (.inr (.inl z))),ψ fun z=>k (hp.mpr (.inr (.inr z)))];clear hp k;lia
def CInv.wi_tri(I:CInv n ls T)(h:(a,m,b)∈T):wi ls a b=ls.count (a,b)+wi ls a m+wi ls m b:=by
 obtain⟨g1,g2,g3,g4,g5,g6⟩:=I.tri a m b h;refine Rr a m b ls (fun p hp=>?_) (fun p hp=>by have:=I.lin p.1 p.2 hp;omega) g2 g3;obtain⟨x,y⟩:=p;have l:=I.lin x y hp;have k1:¬(a<x/\x<m/\m<y):=by
  rcases g5 with z |z
  . exact I.nc a m x y z hp
  . omega
 have k2:¬(x<m/\m<y/\y<b):=by
  rcases g6 with z |z
  . exact I.nc x y m b hp z
  . omega
 simp only[gq,pW,Prod.mk.injEq];omega
theorem CInv.wi_edge(I:CInv n ls T):∀(k:Nat)(a b:Int),(b - a).toNat<=k->0<=a->b<=n - 1->((a,b)∈ls\/b=a+1)->(wi ls a b:Int)=b - a - 1
 | 0,a,b,hk,h0,h1,h=>by
  rcases h with h |h
  . have:=I.lin a b h;lia
  . lia
 |k+1,a,b,hk,h0,h1,h=>by
  rcases h with h |h
  . obtain⟨m,hm⟩:=under I (.inr h);have g:=I.tri a m b hm;have e:=I.wi_tri hm;have e1:=CInv.wi_edge I k a m (by lia) h0 (by lia) g.2.2.2.2.1;have e2:=CInv.wi_edge I k m b (by lia) (by lia) h1 g.2.2.2.2.2;have c1:ls.count (a,b)<=1:=List.nodup_iff_count.mp I.nd _;have c2:0<ls.count (a,b):=List.count_pos_iff.mpr h
    lia
  . subst h;have:wi ls a (a+1)=0:=by
     unfold wi;rw[List.length_eq_zero_iff,List.filter_eq_nil_iff];intro p hp;have:=I.lin p.1 p.2 hp;simp only[gq,pW]
     lia
    lia
def CInv.num(I:CInv n ls T):(ls.length:Int)+3=n:=by
 have h3:=I.n3;obtain⟨m,hm⟩:=under I (a:=0) (b:=n - 1) (.inl rfl);have g:=I.tri 0 m (n - 1) hm;have e:=I.wi_tri hm;have e1:=I.wi_edge (m - 0).toNat 0 m (ζ _) (by omega) (by omega) g.2.2.2.2.1;have e2:=I.wi_edge (n - 1 - m).toNat m (n - 1) (ζ _) (by omega) (by omega) g.2.2.2.2.2;have c:ls.count (0,n - 1)=0:=List.count_eq_zero.mpr fun z=>by have:=I.lin _ _ z;omega
 have w:wi ls 0 (n - 1)=ls.length:=by unfold wi;rw[List.filter_eq_self.mpr];intro p hp;have:=I.lin p.1 p.2 hp;simp only[gq,pW];omega
 omega
end
section
variable {n:Int}{ls:List P2}{t:P2}{R:List Int}
def Rm.three(I:Lns n ls)(M:Rm n ls t R)(h:R.length<=3):∃m,R=[t.1,m,t.2]/\t.1<m/\m<t.2/\((t.1,m)∈ls\/m=t.1+1)/\((m,t.2)∈ls\/t.2=m+1):=by
 obtain⟨m,hm,m1,m2⟩:=M.thr;have rise:=M.rise;have a1:=M.h1;have a2:=M.h2;have e:R=[t.1,m,t.2]:=by
  match R,h with
  | [],_=>cases hm
  | [x],_=>simp only[FJ]at hm a1;omega
  | [x,y],_=>
   simp only[FY,ee,GI,or_false]at rise hm a1 a2
   omega
  | [x,y,z],_=>
   simp only[FY,ee,GI,or_false,forall_eq_or_imp,forall_eq]at rise hm a1 a2
   have hx:x=t.1/\y=m/\z=t.2:=by omega
   rw[hx.1,hx.2.1,hx.2.2]
 have i1:∀x∈R,x<=t.1\/m<=x:=fun x hx=>by rw[e]at hx;simp only[ee,GI,or_false]at hx;omega
 have i2:∀x∈R,x<=m\/t.2<=x:=fun x hx=>by rw[e]at hx;simp only[ee,GI,or_false]at hx;omega
 exact⟨m,e,m1,m2,(M.nxt t.1 m a1 hm m1 i1).imp (·.1) id,(M.nxt m t.2 hm a2 m2 i2).imp (·.1) id⟩
def wb(I:Lns n ls){C:P2->List Int}(hC:∀t,y4 n ls t->Rm n ls t (C t))(hl:(ls.length:Int)+3<n):∃t,y4 n ls t/\3<(C t).length:=by
 apply GO;intro AZ;have all:∀t,y4 n ls t->∃m,C t=[t.1,m,t.2]/\t.1<m/\m<t.2/\((t.1,m)∈ls\/m=t.1+1)/\((m,t.2)∈ls\/t.2=m+1):=fun t ht=>
  (hC t ht).three I (Nat.le_of_not_lt fun z=>AZ ⟨t,ht,z⟩)
 have BA:∀t,y4 n ls t->t.1<(C t).getD 1 0/\(C t).getD 1 0<t.2/\((t.1,(C t).getD 1 0)∈ls\/(C t).getD 1 0=t.1+1)/\(((C t).getD 1 0,t.2)∈ls\/t.2=(C t).getD 1 0+1):=fun t ht=>by obtain⟨m,e,h⟩:=all t ht;rw[e];exact h
 have J:CInv n ls (((0,n - 1)::ls).map fun t=>(t.1,(C t).getD 1 0,t.2)):=by
  refine⟨I.n3,fun a c b h=>?_,I.lin,I.nc,I.nd,?_⟩
  . obtain⟨t,ht,e⟩:=GV.mp h;simp only[Prod.mk.injEq]at e;obtain⟨rfl,rfl,rfl⟩:=e;have tp:y4 n ls t:=ee.mp ht;have g:=BA t tp;have r:=(hC t tp).rng;exact⟨r.1,g.1,g.2.1,r.2.2,g.2.2.1,g.2.2.2⟩
  . rw[Io];exact .of_eq (List.map_id _)
 have:=J.num;omega
def wa(I:Lns n ls)(M:Rm n ls t R)(e:R=r0::r1::r2::rest)(h:rest≠[]) :
  0<=r0/\r0+2<=r2/\r2<=n - 1/\¬(r0=0/\r2=n - 1)/\∀a b,(a,b)∈ls->¬(a=r0/\b=r2)/\¬(a<r0/\r0<b/\b<r2)/\¬(r0<a/\a<r2/\r2<b):=by
 have rise:=M.rise
 have rg:=M.rng
 rw[e]at rise
 simp only[FY,ee,forall_eq_or_imp]at rise
 have k0:=M.lo r0 (by rw[e];simp)
 have k1:r1∈R:=by rw[e];simp
 have k2:r2∈R:=by rw[e];simp
 have e0:r0=t.1:=by
  have:=M.h1;rw[e]at this;rcases ee.mp this with z |z
  . exact z.symm
  . have:r0<t.1:=by
     rcases ee.mp z with z |z
     . rw[z];exact rise.1.1
     . rcases ee.mp z with z |z
       . rw[z];exact rise.1.2.1
       . exact rise.1.2.2 _ z
    omega
 obtain⟨r3,tL,e3⟩:∃x l,rest=x::l:=by cases rest with
  |nil=>exact absurd rfl h
  |cons x l=>exact⟨x,l,rfl⟩
 have EK:r2<r3:=rise.2.2.1 r3 (by rw[e3];simp)
 have k3:=M.lo r3 (by rw[e,e3];simp)
 have EL:=rise.1.1
 have tj:=rise.2.1.1
 refine⟨by omega,by omega,by omega,by omega,fun a b bA=>?_⟩
 have la:=I.lin a b bA
 have c1:=I.tnc (a:=t.1) (b:=t.2) (c:=a) (d:=b) M.top (.inr bA)
 have c2:=I.tnc (a:=a) (b:=b) (c:=t.1) (d:=t.2) (.inr bA) M.top
 by_cases dN:t.1<=a/\b<=t.2
 . by_cases ht:(a,b)=t
   . have e1:a=t.1:=by rw[<-ht]
     have e2:b=t.2:=by rw[<-ht]
     omega
   . have f1:=M.free a b bA ht dN.1 dN.2 r1 k1;have f2:=M.free a b bA ht dN.1 dN.2 r2 k2;omega
 . omega
end
end Cu
namespace Bd
end Bd
namespace Cu
end Cu
namespace Cu
open L2 (so2 Lp)
def nr(p:P2):P2:=if p.1<p.2 then p else(p.2,p.1)
end Cu
namespace K17
open PySem PySem.Spec PyProof.Rows L2
def knX:String->Bool:=fun c=>c=="Crossed"||c=="NoFloor"||c=="NoLine"||c=="NoText"||c=="NotFull"
def tB(v0 v1 v2 v3 v4:Bool):String->Option Bool:=fun c=>if c="Crossed" then some v0 else if c="NoFloor" then some v1 else if c="NoLine" then some v2 else if c="NoText" then some v3 else if c="NotFull" then some v4 else none
def Fj:String->Option Bool:=tB false false false true false
def Fu:String->Option Bool:=tB false true false false false
def Fi:String->Option Bool:=tB false false true false false
def Fs:String->Option Bool:=tB false false false false true
def Fq:String->Option Bool:=tB true false false false false
def Gd:String->Option Bool:=tB true true true true true
def Fh:String->Option Bool:=tB false false true false false
def Fp:String->Option Bool:=tB false true false false false
def Fg:String->Option Bool:=tB false false false true false
def Gc:String->Option Bool:=tB true true true true true
def Et:String->Option Bool:=tB false false false false false
def Fz:String->Option Bool:=tB false false false false false
def Fo:String->Option Bool:=tB false false false false true
def Fn:String->Option Bool:=tB true false false false false
def Fm:String->Option Bool:=tB false false false false false
def Ff:String->Option Bool:=tB false false false false false
def Fe:String->Option Bool:=tB false false false false false
def Es:String->Option Bool:=tB false false false false false
def Fl:String->Option Bool:=tB false false false false false
def Fy:String->Option Bool:=tB false false false false false
def Gb:String->Option Bool:=tB false false false false false
def Fd:String->Option Bool:=tB false false false false false
def Fc:String->Option Bool:=tB false false false false false
def Fb:String->Option Bool:=tB false false false false false
def Na:DS->SR:=
 (e7 [true] (p9 (eUn (m5 "int") (a5 0)) (eUn (fun d=>(l5 d).map fun b=>.bl (!b)) (eUn (m5 "bool") (a5 0)))))
def P9:List D->R D:=mOf false 1 0 Na
def Rq:DS->SR:=
 (e7 [true,true] (eIf (c8 asB (eOp l4 (a5 0) (a5 1))) (i5 (a6 (a5 0) (a6 (a5 1) a8))) (i5 (a6 (a5 1) (a6 (a5 0) a8)))))
def Be:List D->R D:=mOf false 2 0 Rq
def Xb:DS->SR:=
 (a9 (c5 false 2 [false,true] (eOp dIx (a5 1) (eC (.int 0))))
  (a9 (c5 false 3 [false,true] (eOp dIx (a5 1) (eC (.int 1))))
  (a9 (sIf (bOr (c8 asB (eOp l4 (a5 2) (eC (.int 0)))) (c8 asB (eOp dGe (a5 3) (a5 0))))
   (e7 [] (eC (.bl false)))
   sNx)
  (e7 [true,false,true,true] (eOr (eOp dEq (a5 3) (eOp r8 (a5 2) (eC (.int 1)))) (p9 (eOp dEq (a5 2) (eC (.int 0))) (eOp dEq (a5 3) (eOp E1 (a5 0) (eC (.int 1))))))))))
def Bz:List D->R D:=mOf false 2 2 Xb
def Tv:DS->SR:=
 (a9 (c5 false 2 [true] (eOp dIx (a5 0) (eC (.int 0))))
  (a9 (c5 false 3 [true] (eOp dIx (a5 0) (eC (.int 1))))
  (a9 (c5 false 4 [false,true] (eOp dIx (a5 1) (eC (.int 0))))
  (a9 (c5 false 5 [false,true] (eOp dIx (a5 1) (eC (.int 1))))
  (e7 [false,false,true,true,true,true] (eOr (N8 (a5 2) (G1 l4 (a5 4) (G1 l4 (a5 3) (O5 l4 (a5 5))))) (N8 (a5 4) (G1 l4 (a5 2) (G1 l4 (a5 5) (O5 l4 (a5 3)))))))))))
def Bp:List D->R D:=mOf false 2 4 Tv
def Gj:DE->R D:=
 (eOp S7 (a5 0) (eC (.str "0123456789")))
def Zz:DS->SR:=
 (a9 (sIf (o9 (Cp (eC (.int 1)) (Dw dLe (eCB k9 (a6 (a5 0) a8)) (Dx dLe (a5 1)))))
   (e7 [] (eC (.bl false)))
   sNx)
  (a9 (sIf (L7 (c8 asB (eOp F6 (eCB k9 (a6 (a5 0) a8)) (eC (.int 1)))) (c8 asB (eOp dEq (eOp dIx (a5 0) (eC (.int 0))) (eC (.str "0")))))
   (e7 [] (eC (.bl false)))
   sNx)
  (e7 [true] (eCB D7 (a6 (o6 (iS (a5 0)) b1 [] k8 Gj) a8)))))
def Z4:List D->R D:=mOf false 2 0 Zz
def jx:DE->R Bool:=
 (L7 (c8 asB (eOp dEq (eOp dIx (a5 0) (eC (.int 0))) (a5 1))) (L7 (c8 asB (eOp dLe (eOp dIx (a5 0) (eC (.int 1))) (eOp dIx (a5 2) (eC (.int 1))))) (c8 asB (eOp dNe (a5 0) (a5 2)))))
def jw:DE->R D:=
 (eOp dIx (a5 0) (eC (.int 1)))
def jr:DS->SR:=
 (a9 (c5 true 3 [true,true,true] (o6 (iL (a5 2)) b1 [0,1] jx jw))
  (e7 [true,false,false,true] (eCB V2 (a6 (a5 3) (a6 (eOp r8 (a5 0) (eC (.int 1))) a8)))))
def Ck:List D->R D:=mOf false 3 1 jr
def Zg:DS->SR:=
 (a9 (sIf (c8 asB (eOp l4 (a5 1) (eCB k9 (a6 (a5 0) a8))))
   (e7 [true,true] (eOp dIx (a5 0) (a5 1)))
   sNx)
  (e7 [] (eC (.int 0))))
def p7:List D->R D:=mOf false 2 0 Zg
def z94:DS->SR:=
 (e7 [true] (p9 (eUn (m5 "int") (a5 0)) (eUn (fun d=>(l5 d).map fun b=>.bl (!b)) (eUn (m5 "bool") (a5 0)))))
def Z8:List D->R D:=mOf false 1 0 z94
def Gm:DS->SR:=
 (a9 (c5 false 3 [false,false,false,true,true] (eOp j8 (eOp r8 (eOp r8 (eOp J1 (a5 3) (eC (.int 48271))) (eOp J1 (a5 4) (a5 4))) (eC (.int 1))) (eC (.int 2147483647))))
  (a9 (sIf (c8 asB (eOp l4 (a5 4) (eCB k9 (a6 (a5 0) a8))))
   (c5 false 3 [true,false,false,true,true] (eOp j8 (eOp r8 (a5 3) (eOp dIx (a5 0) (a5 4))) (eC (.int 2147483647))))
   sNx)
  (E3 "list" F5 2 [false,false,false,true] (a6 (a5 3) a8))))
def jg:DS->SR:=
 (a9 (c5 true 2 [] (j4 a8))
  (a9 (c5 false 3 [] (eC (.int 7)))
  (a9 (E2 true [false,true] (Ad (a6 (a5 1) a8)) (.n 4) Gm)
  (O4 2))))
def Z5:List D->R D:=mOf true 2 3 jg
def jo:DE->R D:=
 (i5 (a6 (eOp r8 (a5 0) (eCB T3 (a6 (eOp F6 (a5 0) (a5 2)) a8))) (a6 (eOp r8 (a5 1) (eCB T3 (a6 (eOp F6 (a5 1) (a5 2)) a8))) a8)))
def Gi:DS->SR:=
 (a9 (c5 false 4 [false,true,false,true] (eOp j8 (a5 3) (a5 1)))
  (a9 (c5 true 2 [false,false,true,false,true] (o6 (iL (a5 2)) (bT 2) [4] k8 jo))
  (a9 (sIf (c8 asB (eOp dEq (a5 4) (eOp E1 (a5 1) (eC (.int 1)))))
   (E3 "list" F5 2 [false,false,false,false,true] (a6 (i5 (a6 (eC (.int 0)) (a6 (a5 4) a8))) a8))
   (E3 "list" F5 2 [false,false,false,false,true] (a6 (i5 (a6 (a5 4) (a6 (eOp r8 (a5 4) (eC (.int 2))) a8))) a8)))
  (c5 false 1 [false,true] (eOp r8 (a5 1) (eC (.int 1)))))))
def Zy:DS->SR:=
 (a9 (c5 false 1 [] (eC (.int 3)))
  (a9 (c5 true 2 [] (j4 a8))
  (a9 (E2 false [true] (iL (a5 0)) (.n 3) Gi)
  (e7 [false,true,true] (i5 (a6 (a5 1) (a6 (a5 2) a8)))))))
def Z3:List D->R D:=mOf false 1 4 Zy
def Gh:DS->SR:=
 (a9 (c5 false 5 [true,false,false,true] (eOp j8 (eOp r8 (eOp r8 (eOp J1 (eOp dIx (a5 0) (a5 3)) (eC (.int 69621))) (eOp J1 (eOp J1 (a5 3) (a5 3)) (eC (.int 16807)))) (eC (.int 11))) (eC (.int 2147483629))))
  (E3 "list" T1 2 [false,false,true,false,true,true] (a6 (eOp j8 (a5 5) (eOp r8 (eCB k9 (a6 (a5 2) a8)) (eC (.int 1)))) (a6 (eOp dIx (j4 (a6 (a5 4) (a6 (i5 (a6 (eOp dIx (a5 4) (eC (.int 1))) (a6 (eOp dIx (a5 4) (eC (.int 0))) a8))) a8))) (eOp j8 (eOp J0 (a5 5) (eC (.int 64))) (eC (.int 2)))) a8))))
def Zx:DS->SR:=
 (a9 (c5 true 2 [] (j4 a8))
  (a9 (E2 false [false,true] (iEn (a6 (a5 1) a8)) (.t [3,4]) Gh)
  (O4 2)))
def Z1:List D->R D:=mOf true 2 4 Zx
def zgm:DS->SR:=
 (a9 (c5 false 1 [] (eC (.str " !\"#$&'()*+,-./0123456789:;<=>?@ABCDEFGHIJKLMNOPQRSTUVWXYZ[\\]^_`")))
  (a9 (c5 false 1 [false,true] (eOp w8 (a5 1) (eC (.str "abcdefghijklmnopqrstuvwxyz{|}~\n\t"))))
  (a9 (sIf (c8 asB (eOp F6 (eOp j8 (a5 0) (eC (.int 3))) (eC (.int 0))))
   (c5 false 1 [] (eC (.str "0123456789 -: -")))
   sNx)
  (e7 [true,true] (eOp dIx (a5 1) (eOp j8 (eOp J0 (a5 0) (eC (.int 3))) (eCB k9 (a6 (a5 1) a8))))))))
def Cf:List D->R D:=mOf false 1 1 zgm
def zji:DS->SR:=
 (a9 (c5 true 1 [] (j4 (a6 (eC (.str "")) (a6 (eC (.str ":")) (a6 (eC (.str "3")) (a6 (eC (.str "3 :")) (a6 (eC (.str " 3:")) (a6 (eC (.str "3: ")) (a6 (eC (.str "03:")) (a6 (eC (.str "4: 0-2 ")) (a6 (eC (.str "4:0-2")) (a6 (eC (.str "4: 0 2")) (a6 (eC (.str "4: 0--2")) (a6 (eC (.str "4: -0-2")) (a6 (eC (.str "4: 0-02")) a8)))))))))))))))
  (a9 (c5 true 1 [false,true] (eOp n9 (a5 1) (j4 (a6 (eC (.str "4: 0-2-")) (a6 (eC (.str "5: 0-2  0-3")) (a6 (eC (.str "4; 0-2")) (a6 (eC (.str "4: 0-2\n")) (a6 (eC (.str "2:")) (a6 (eC (.str "61:")) (a6 (eC (.str "99:")) (a6 (eC (.str "100:")) (a6 (eC (.str "4: 2-0")) (a6 (eC (.str "4: 0-1")) a8)))))))))))))
  (a9 (c5 true 1 [false,true] (eOp n9 (a5 1) (j4 (a6 (eC (.str "4: 0-0")) (a6 (eC (.str "4: 0-4")) (a6 (eC (.str "4:")) (a6 (eC (.str "5: 0-2 2-0")) (a6 (eC (.str "5: 0-2 1-3")) (a6 (eC (.str "5: 0-2 3-0")) (a6 (eC (.str "1: 0-2 0-2")) a8))))))))))
  (a9 (c5 true 1 [false,true] (eOp n9 (a5 1) (j4 (a6 (eC (.str "4: +0-2")) (a6 (eC (.str "4: \t0-2")) (a6 (eC (.str "+4: 0-2")) (a6 (eC (.str "4: 0-2\t")) a8)))))))
  (e7 [true,true] (eOp dIx (a5 1) (eOp j8 (a5 0) (eC (.int 34)))))))))
def Y1:List D->R D:=mOf false 1 1 zji
def Zw:DS->SR:=
 (a9 (c5 true 2 [true] (j4 (a6 (eC .non) (a6 (eC (.int 7)) (a6 (eC (.bl true)) (a6 (j4 (a6 (a5 0) a8)) (a6 (i5 (a6 (a5 0) a8)) (a6 Hs (a6 (eC (.int 0)) (a6 (j4 (a6 (eC (.int 3)) (a6 (j4 (a6 (eC (.int 0)) (a6 (eC (.int 2)) a8))) a8))) a8))))))))))
  (e7 [false,true,true] (eOp dIx (a5 2) (eOp j8 (a5 1) (eC (.int 8))))))
def Z0:List D->R D:=mOf false 2 1 Zw
def Cd:DS->SR:=
 (sIf (L7 (c8 asB (eOp dEq (eOp j8 (a5 3) (eC (.int 3))) (eC (.int 0)))) (c8 asB (eOp dNe (a5 1) (j4 a8))))
  (E3 "list" Co 1 [false,true,true] (a6 (eOp j8 (a5 2) (eCB k9 (a6 (a5 1) a8))) a8))
  (sIf (c8 asB (eOp F6 (a5 0) (eC (.int 3))))
  (E3 "list" T1 1 [true,true,true,true] (a6 (eOp j8 (a5 2) (eOp r8 (eCB k9 (a6 (a5 1) a8)) (eC (.int 1)))) (a6 (i5 (a6 (eOp j8 (a5 2) (a5 0)) (a6 (eOp j8 (eOp r8 (eOp r8 (a5 2) (eC (.int 2))) (eOp j8 (eOp J0 (a5 3) (eC (.int 3))) (eOp E1 (a5 0) (eC (.int 3))))) (a5 0)) a8))) a8)))
  sNx))
def Y0:List D->R D:=Cw 4 0 Cd
def Gk:DE->R D:=
 (eOp S7 (a5 0) (eC (.str "0123456789")))
def jf:DS->SR:=
 (a9 (sIf (bOr (c8 asB (eOp dEq (eCB k9 (a6 (a5 0) a8)) (eC (.int 0)))) (bOr (c8 asB (eOp F6 (eCB k9 (a6 (a5 0) a8)) (eC (.int 2)))) (L7 (c8 asB (eOp dEq (eCB k9 (a6 (a5 0) a8)) (eC (.int 2)))) (c8 asB (eOp dEq (eOp dIx (a5 0) (eC (.int 0))) (eC (.str "0")))))))
   (e7 [] (eUn L0 (eC (.int 1))))
   sNx)
  (a9 (sIf (o9 (c8 l5 (eCB D7 (a6 (o6 (iS (a5 0)) b1 [] k8 Gk) a8))))
   (e7 [] (eUn L0 (eC (.int 1))))
   sNx)
  (e7 [true] (eCB D2 (a6 (a5 0) a8)))))
def Q4:List D->R D:=mOf false 1 0 jf
def jm:DS->SR:=
 (a9 (c5 false 2 [false,true] (eCB V0 (a6 (a5 1) a8)))
  (a9 (c5 false 3 [false,true,true] (eOp E1 (eCB R1 (a6 (a5 1) a8)) (a5 2)))
  (e7 [true,true,true,true] (p9 (eOp dLe (eC (.int 0)) (a5 2)) (p9 (eOp l4 (eCB R1 (a6 (a5 1) a8)) (a5 0)) (p9 (eOp dLe (eC (.int 2)) (a5 3)) (eOp l4 (a5 3) (eOp E1 (a5 0) (eC (.int 1))))))))))
def S6:List D->R D:=mOf false 2 2 jm
def Oq:DE->R D:=
 (eCB T3 (a6 (N8 (eOp dIx (a5 1) (eC (.int 0))) (G1 l4 (a5 0) (O5 l4 (eOp dIx (a5 1) (eC (.int 1)))))) a8))
def Zf:DS->SR:=
 (a9 (c5 false 2 [true,true] (eCB Gp (a6 (o6 (iL (a5 1)) b1 [0] k8 Oq) a8)))
  (e7 [true,true,true] (eOr (eOp dEq (a5 0) (a5 1)) (p9 (eOp dEq (a5 2) (eC (.int 1))) (p9 (eOp (dIn true) (eOp dIx (a5 0) (eC (.int 0))) (a5 1)) (eOp (dIn true) (eOp dIx (a5 0) (eC (.int 1))) (a5 1)))))))
def Y7:List D->R D:=mOf false 2 1 Zf
def Xa:DS->SR:=
 (e7 [true,true] (p9 (N8 (eC (.int 0)) (G1 dLe (eOp dIx (a5 1) (eC (.int 0))) (G1 l4 (eOp dIx (a5 1) (eC (.int 1))) (O5 l4 (a5 0))))) (eUn (fun d=>(l5 d).map fun b=>.bl (!b)) (c9 Bz (a6 (a5 0) (a6 (a5 1) a8))))))
def By:List D->R D:=mOf false 2 0 Xa
def Vv:DS->SR:=
 (e7 [true] (p9 (eUn (m5 "tuple") (a5 0)) (p9 (eOp dEq (eCB k9 (a6 (a5 0) a8)) (eC (.int 2))) (p9 (c9 P9 (a6 (eOp dIx (a5 0) (eC (.int 0))) a8)) (c9 P9 (a6 (eOp dIx (a5 0) (eC (.int 1))) a8))))))
def Bu:List D->R D:=mOf false 1 0 Vv
def Mz:DS->SR:=
 (e7 [true] (p9 (c9 P9 (a6 (a5 0) a8)) (N8 (eC (.int 3)) (G1 dLe (a5 0) (O5 dLe (eC (.int 60)))))))
def Cb:List D->R D:=mOf false 1 0 Mz
def Ga:DE->R D:=
 (c9 Z4 (a6 (a5 0) (a6 (eC (.int 2)) a8)))
def Yj:DS->SR:=
 (a9 (c5 true 1 [true] (eMt O6 (a5 0) (a6 (eC (.str "-")) a8)))
  (a9 (sIf (bOr (c8 asB (eOp dNe (eCB k9 (a6 (a5 1) a8)) (eC (.int 2)))) (o9 (c8 l5 (eCB D7 (a6 (o6 (iL (a5 1)) b1 [] k8 Ga) a8)))))
   (e7 [] (eC .non))
   sNx)
  (e7 [false,true] (i5 (a6 (eCB D2 (a6 (eOp dIx (a5 1) (eC (.int 0))) a8)) (a6 (eCB D2 (a6 (eOp dIx (a5 1) (eC (.int 1))) a8)) a8))))))
def Ca:List D->R D:=mOf false 1 1 Yj
def Gg:DE->R Bool:=
 (c8 asB (eOp l4 (eOp dIx (a5 2) (eUn L0 (eC (.int 1)))) (eOp dIx (a5 0) (eC (.int 1)))))
def Gf:DS->SR:=
 (E3 "list" F5 2 [true,true,true] (a6 (c9 Ck (a6 (eOp dIx (a5 2) (eUn L0 (eC (.int 1)))) (a6 (a5 0) (a6 (a5 1) a8)))) a8))
def Zv:DS->SR:=
 (a9 (c5 true 2 [true] (j4 (a6 (eOp dIx (a5 0) (eC (.int 0))) a8)))
  (a9 (Dr 1000 Gg Gf)
  (e7 [false,false,true] (eCB O8 (a6 (a5 2) a8)))))
def Cj:List D->R D:=mOf false 2 1 Zv
def Ow:DS->SR:=
 (a9 (sIf (bOr (o9 (c8 l5 (eMt L8 (a5 0) (a6 (eC (.str ":")) a8)))) (o9 (c8 l5 (c9 Z4 (a6 (eSl o7 (a5 0) oNo (oSo (eUn L0 (eC (.int 1))))) (a6 (eC (.int 2)) a8))))))
   (D3 "NoText" (a6 (eC (.str "no number of one or two figures with a colon behind it")) a8))
   sNx)
  (e7 [true] (eCB D2 (a6 (eSl o7 (a5 0) oNo (oSo (eUn L0 (eC (.int 1))))) a8))))
def N1:List D->R D:=mOf false 1 0 Ow
def Ze:DS->SR:=
 (a9 (c5 false 1 [true] (c9 p7 (a6 (a5 0) (a6 (eC (.int 0)) a8))))
  (a9 (sIf (c8 asB (eOp dEq (eOp j8 (a5 1) (eC (.int 4))) (eC (.int 3))))
   (e7 [false,true] (eOp j8 (eOp J0 (a5 1) (eC (.int 4))) (eC (.int 58))))
   sNx)
  (a9 (sIf (c8 asB (eOp dEq (eOp j8 (a5 1) (eC (.int 4))) (eC (.int 2))))
   (e7 [false,true] (eOp j8 (eOp J0 (a5 1) (eC (.int 4))) (eC (.int 9))))
   sNx)
  (e7 [true] (eCB Jj (a6 (eC (.int 57)) (a6 (eCB Jk (a6 (eC (.int 0)) (a6 (eOp E1 (eCB k9 (a6 (a5 0) a8)) (eC (.int 7))) a8))) a8)))))))
def Y6:List D->R D:=mOf false 1 1 Ze
def Zu:DS->SR:=
 (a9 (c5 false 3 [true,false,true] (eOp j8 (a5 2) (eOp r8 (eCB k9 (a6 (a5 0) a8)) (eC (.int 1)))))
  (a9 (c5 false 4 [false,true] (c9 Cf (a6 (eOp J0 (a5 1) (eC (.int 3))) a8)))
  (a9 (sIf (c8 asB (eOp dEq (eOp j8 (a5 1) (eC (.int 3))) (eC (.int 0))))
   (e7 [true,false,false,true,true] (eOp w8 (eOp w8 (eSl o7 (a5 0) oNo (oSo (a5 3))) (a5 4)) (eSl o7 (a5 0) (oSo (a5 3)) oNo)))
   sNx)
  (a9 (sIf (c8 asB (eOp dEq (eOp j8 (a5 1) (eC (.int 3))) (eC (.int 1))))
   (e7 [true,false,false,true] (eOp w8 (eSl o7 (a5 0) oNo (oSo (a5 3))) (eSl o7 (a5 0) (oSo (eOp r8 (a5 3) (eC (.int 1)))) oNo)))
   sNx)
  (e7 [true,false,false,true,true] (eOp w8 (eOp w8 (eSl o7 (a5 0) oNo (oSo (a5 3))) (a5 4)) (eSl o7 (a5 0) (oSo (eOp r8 (a5 3) (eC (.int 1)))) oNo)))))))
def Q1:List D->R D:=mOf false 3 2 Zu
def S5:DS->SR:=
 (a9 (c5 false 3 [false,false,true] (eMt U7 (a5 2) (a6 (eC (.str "-")) a8)))
  (a9 (sIf (c8 asB (eOp l4 (a5 3) (eC (.int 0))))
   (e7 [] (eC .non))
   sNx)
  (a9 (c5 false 4 [false,false,true,true] (c9 Q4 (a6 (eSl o7 (a5 2) oNo (oSo (a5 3))) a8)))
  (a9 (c5 false 5 [false,false,true,true] (c9 Q4 (a6 (eSl o7 (a5 2) (oSo (eOp r8 (a5 3) (eC (.int 1)))) oNo) a8)))
  (a9 (sIf (bOr (c8 asB (eOp l4 (a5 4) (eC (.int 0)))) (c8 asB (eOp l4 (a5 5) (eC (.int 0)))))
   (e7 [] (eC .non))
   sNx)
  (E3 "list" F5 1 [false,false,false,false,true,true] (a6 (i5 (a6 (a5 4) (a6 (a5 5) a8))) a8)))))))
def Zt:DS->SR:=
 (a9 (c5 true 1 [] (j4 a8))
  (a9 (E2 false [true] (iL (a5 0)) (.n 2) S5)
  (e7 [false,true] (a5 1))))
def Y9:List D->R D:=mOf false 1 5 Zt
def jk:DS->SR:=
 (a9 (sIf (bOr (o9 (c8 l5 (eUn (m5 "tuple") (a5 0)))) (c8 asB (eOp dNe (eCB k9 (a6 (a5 0) a8)) (eC (.int 2)))))
   (e7 [] (eC (.bl false)))
   sNx)
  (e7 [true] (p9 (c9 Z8 (a6 (eOp dIx (a5 0) (eC (.int 0))) a8)) (p9 (c9 Z8 (a6 (eOp dIx (a5 0) (eC (.int 1))) a8)) (eOp l4 (eOp dIx (a5 0) (eC (.int 0))) (eOp dIx (a5 0) (eC (.int 1))))))))
def Q5:List D->R D:=mOf false 1 0 jk
def Op:DS->SR:=
 (sIf (o9 (c8 l5 (c9 Cb (a6 (a5 0) a8))))
  (D3 "NoFloor" (a6 (eC (.str "a floor has 3 to 60 corners")) a8))
  sNx)
def Q3:List D->R D:=mOf false 1 0 Op
def Wz:DE->R D:=
 (c9 Cj (a6 (a5 0) (a6 (a5 1) a8)))
def Tu:DS->SR:=
 (a9 (c5 true 2 [true,true] (eOp n9 (j4 (a6 (i5 (a6 (eC (.int 0)) (a6 (eOp E1 (a5 0) (eC (.int 1))) a8))) a8)) (eCB Cz (a6 (a5 1) a8))))
  (e7 [false,true,true] (eCB G5 (a6 (o6 (iL (a5 2)) b1 [1] k8 Wz) a8))))
def Bo:List D->R D:=mOf true 2 1 Tu
def Wy:DS->SR:=
 (a9 (sIf (o9 (c8 l5 (c9 Bu (a6 (a5 1) a8))))
   (D3 "NoLine" (a6 (eC (.str "no tuple of two whole numbers")) a8))
   sNx)
  (a9 (c5 false 2 [false,true] (c9 Be (a6 (eOp dIx (a5 1) (eC (.int 0))) (a6 (eOp dIx (a5 1) (eC (.int 1))) a8))))
  (a9 (sIf (o9 (c8 l5 (c9 By (a6 (a5 0) (a6 (a5 2) a8)))))
   (D3 "NoLine" (a6 (eC (.str "no line of the floor")) a8))
   sNx)
  (e7 [false,false,true] (a5 2)))))
def X8:List D->R D:=mOf false 2 1 Wy
def Aa:DS->SR:=
 (sIf (bOr (c8 asB (eOp dEq (a5 3) (a5 2))) (c8 l5 (c9 Bp (a6 (a5 3) (a6 (a5 2) a8)))))
  (M5 "Crossed" (a6 (a5 3) (a6 (a5 2) a8)))
  sNx)
def Cl:DS->SR:=
 (E2 false [true,true] (iL (eSl dSl (a5 0) oNo (oSo (a5 1)))) (.n 3) Aa)
def ju:DS->SR:=
 (E2 false [true] (iEn (a6 (a5 0) a8)) (.t [1,2]) Cl)
def Z9:List D->R D:=mOf false 1 3 ju
def Zd:DS->SR:=
 (a9 (c5 false 1 [true] (c9 Ca (a6 (a5 0) a8)))
  (a9 (sIf (c8 asB (eOp N4 (a5 1) (eC .non)))
   (D3 "NoText" (a6 (eC (.str "no two numbers with a - between")) a8))
   sNx)
  (e7 [false,true] (a5 1))))
def Y5:List D->R D:=mOf false 1 1 Zd
def Ci:DE->R D:=
 (c9 S6 (a6 (a5 1) (a6 (a5 0) a8)))
def Cg:DE->R D:=
 (i5 (a6 (eCB V0 (a6 (a5 0) a8)) (a6 (eCB R1 (a6 (a5 0) a8)) a8)))
def Y8:DS->SR:=
 (sIf (c8 l5 (c9 Y7 (a6 (a5 7) (a6 (a5 6) a8))))
  (e7 [false,false,false,false,false,false,true,true] (i5 (a6 (eC (.str "crossed")) (a6 (a5 7) (a6 (a5 6) a8)))))
  sNx)
def S4:DS->SR:=
 (E2 false [false,false,false,false,true,true] (iL (eSl dSl (a5 4) oNo (oSo (a5 5)))) (.n 7) Y8)
def zjj:DS->SR:=
 (a9 (sIf (bOr (o9 (c8 l5 (eUn (m5 "str") (a5 0)))) (c8 asB (eOp N9 (eC (.str ":")) (a5 0))))
   (e7 [] (i5 (a6 (eC (.str "text")) a8)))
   sNx)
  (a9 (c5 false 1 [true] (eMt U7 (a5 0) (a6 (eC (.str ":")) a8)))
  (a9 (c5 false 2 [true,true] (c9 Q4 (a6 (eSl o7 (a5 0) oNo (oSo (a5 1))) a8)))
  (a9 (c5 true 3 [true,true] (eMt O6 (eSl o7 (a5 0) (oSo (eOp r8 (a5 1) (eC (.int 1)))) oNo) (a6 (eC (.str " ")) a8)))
  (a9 (c5 false 4 [false,false,false,true] (c9 Y9 (a6 (eSl dSl (a5 3) (oSo (eC (.int 1))) oNo) a8)))
  (a9 (sIf (bOr (c8 asB (eOp l4 (a5 2) (eC (.int 0)))) (bOr (c8 asB (eOp dNe (eOp dIx (a5 3) (eC (.int 0))) (eC (.str "")))) (c8 asB (eOp N4 (a5 4) (eC .non)))))
   (e7 [] (i5 (a6 (eC (.str "text")) a8)))
   sNx)
  (a9 (sIf (bOr (c8 asB (eOp l4 (a5 2) (eC (.int 3)))) (c8 asB (eOp F6 (a5 2) (eC (.int 60)))))
   (e7 [] (i5 (a6 (eC (.str "floor")) a8)))
   sNx)
  (a9 (sIf (o9 (c8 l5 (eCB D7 (a6 (o6 (iL (a5 4)) b1 [2] k8 Ci) a8))))
   (e7 [] (i5 (a6 (eC (.str "line")) a8)))
   sNx)
  (a9 (c5 true 4 [false,false,false,false,true] (o6 (iL (a5 4)) b1 [] k8 Cg))
  (a9 (E2 false [false,false,false,false,true] (iEn (a6 (a5 4) a8)) (.t [5,6]) S4)
  (a9 (sIf (c8 asB (eOp l4 (eCB k9 (a6 (a5 4) a8)) (eOp E1 (a5 2) (eC (.int 3)))))
   (e7 [false,false,true,false,true] (i5 (a6 (eC (.str "full")) (a6 (a5 4) (a6 (a5 2) a8)))))
   sNx)
  (e7 [false,false,true,false,true] (i5 (a6 (eC (.str "made")) (a6 (i5 (a6 (a5 2) (a6 (eCB O8 (a6 (eCB G5 (a6 (a5 4) a8)) a8)) a8))) a8)))))))))))))))
def D4:List D->R D:=mOf false 1 7 zjj
def Oo:DE->R D:=
 (c9 Y7 (a6 (a5 0) (a6 (a5 1) a8)))
def On:DE->R D:=
 (c9 Q5 (a6 (a5 0) a8))
def Fx:DS->SR:=
 (a9 (sIf (c8 asB (eOp dNe (eOp dIx (a5 0) (eC (.int 0))) (eOp dIx (a5 1) (eC (.int 0)))))
   (e7 [] (eC (.bl false)))
   sNx)
  (a9 (sIf (c8 asB (eOp dEq (eOp dIx (a5 1) (eC (.int 0))) (eC (.str "crossed"))))
   (e7 [true,true] (p9 (c9 Q5 (a6 (eOp dIx (a5 0) (eC (.int 1))) a8)) (p9 (c9 Q5 (a6 (eOp dIx (a5 0) (eC (.int 2))) a8)) (eOp dEq (a5 0) (a5 1)))))
   sNx)
  (a9 (sIf (c8 asB (eOp dEq (eOp dIx (a5 1) (eC (.int 0))) (eC (.str "full"))))
   (a9 (c5 false 2 [true] (eOp dIx (a5 0) (eC (.int 1))))
  (a9 (sIf (bOr (o9 (c8 l5 (c9 Q5 (a6 (a5 2) a8)))) (o9 (c8 l5 (c9 S6 (a6 (eOp dIx (a5 1) (eC (.int 2))) (a6 (a5 2) a8))))))
   (e7 [] (eC (.bl false)))
   sNx)
  (e7 [false,true,true] (eUn (fun d=>(l5 d).map fun b=>.bl (!b)) (eCB Ae (a6 (o6 (iL (eOp dIx (a5 1) (eC (.int 1)))) b1 [2] k8 Oo) a8))))))
   sNx)
  (a9 (sIf (c8 asB (eOp dEq (eOp dIx (a5 1) (eC (.int 0))) (eC (.str "made"))))
   (a9 (c5 false 3 [true] (eOp dIx (a5 0) (eC (.int 1))))
  (a9 (sIf (bOr (o9 (c8 l5 (eUn (m5 "tuple") (a5 3)))) (bOr (c8 asB (eOp dNe (eCB k9 (a6 (a5 3) a8)) (eC (.int 2)))) (o9 (c8 l5 (c9 Z8 (a6 (eOp dIx (a5 3) (eC (.int 0))) a8))))))
   (e7 [] (eC (.bl false)))
   sNx)
  (e7 [true,true,false,true] (p9 (eUn (m5 "tuple") (eOp dIx (a5 3) (eC (.int 1)))) (p9 (eCB D7 (a6 (o6 (iL (eOp dIx (a5 3) (eC (.int 1)))) b1 [] k8 On) a8)) (eOp dEq (a5 0) (a5 1)))))))
   sNx)
  (e7 [] (eC (.bl true)))))))
def I0:List D->R D:=mOf false 2 2 Fx
def Om:DE->R Bool:=
 (c8 asB (eOp F6 (eCB k9 (a6 (a5 0) a8)) (eC (.int 3))))
def Ol:DE->R D:=
 (a5 0)
def Zc:DS->SR:=
 (a9 (c5 true 2 [true,true] (o6 (iL (c9 Bo (a6 (a5 0) (a6 (a5 1) a8)))) b1 [] Om Ol))
  (e7 [false,false,true] (i5 (a6 (eOp dIx (eOp dIx (a5 2) (eC (.int 0))) (eC (.int 0))) (a6 (eOp dIx (eOp dIx (a5 2) (eC (.int 0))) (eC (.int 2))) a8)))))
def Y4:List D->R D:=mOf false 2 1 Zc
def Y3:DE->R D:=
 (c9 X8 (a6 (a5 1) (a6 (a5 0) a8)))
def Mi:DS->SR:=
 (a9 (G0 (c9 Q3 (a6 (a5 0) a8)))
  (a9 (c5 true 2 [true,true] (J5 (iL (a5 1)) b1 [0] k8 Y3))
  (a9 (G0 (c9 Z9 (a6 (a5 2) a8)))
  (a9 (sIf (c8 asB (eOp l4 (eCB k9 (a6 (a5 2) a8)) (eOp E1 (a5 0) (eC (.int 3)))))
   (M5 "NotFull" (a6 (c9 Y4 (a6 (a5 0) (a6 (a5 2) a8))) a8))
   sNx)
  (e7 [true,false,true] (i5 (a6 (a5 0) (a6 (eCB O8 (a6 (eCB G5 (a6 (a5 2) a8)) a8)) a8))))))))
def J9:List D->R D:=mOf false 2 1 Mi
def Er:DE->R D:=
 (c9 Y5 (a6 (a5 0) a8))
def Jv:DS->SR:=
 (a9 (sIf (o9 (c8 l5 (eUn (m5 "str") (a5 0))))
   (D3 "NoText" (a6 (eC (.str "no text")) a8))
   sNx)
  (a9 (c5 true 1 [true] (eMt O6 (a5 0) (a6 (eC (.str " ")) a8)))
  (e7 [false,true] (c9 J9 (a6 (c9 N1 (a6 (eOp dIx (a5 1) (eC (.int 0))) a8)) (a6 (J5 (iL (eSl dSl (a5 1) (oSo (eC (.int 1))) oNo)) b1 [] k8 Er) a8))))))
def B8:List D->R D:=mOf false 1 1 Jv
def je:DS->SR:=
 (a9 (c5 false 1 [] (i5 (a6 (eC (.str "none")) a8)))
  (a9 (V3 (c5 false 2 [true] (D6 knX B8 (a6 (a5 0) a8)))
   (hAs Fq 3 (c5 false 1 [false,false,false,true] (i5 (a6 (eC (.str "crossed")) (a6 (eUn (K0 "one") (a5 3)) (a6 (eUn (K0 "other") (a5 3)) a8))))) (hAs Fs 3 (c5 false 1 [false,false,false,true] (i5 (a6 (eC (.str "full")) (a6 (eUn (K0 "line") (a5 3)) a8)))) (hNo Fi (c5 false 1 [] (i5 (a6 (eC (.str "line")) a8))) (hNo Fu (c5 false 1 [] (i5 (a6 (eC (.str "floor")) a8))) (hNo Fj (c5 false 1 [] (i5 (a6 (eC (.str "text")) a8))) Ab)))))
   (c5 false 1 [false,false,true] (i5 (a6 (eC (.str "made")) (a6 (a5 2) a8)))))
  (e7 [false,true] (a5 1))))
def Q2:List D->R D:=mOf false 1 3 je
def Zs:DS->SR:=
 (a9 (c5 true 1 [] (j4 a8))
  (a9 (T0 (G0 (D6 knX B8 (a6 (a5 0) a8)))
   (hAs Gd 2 (a9 (c5 true 1 [false,false,true] (j4 (a6 (eUn (j6 Gc) (a5 2)) (a6 (eUn (j6 Fg) (a5 2)) (a6 (eUn (j6 Fp) (a5 2)) (a6 (eUn (j6 Fh) (a5 2)) a8))))))
  (a9 (c5 true 1 [false,true,true] (eOp n9 (a5 1) (j4 (a6 (eUn (j6 Fn) (a5 2)) (a6 (eUn (j6 Fo) (a5 2)) (a6 (eUn (j6 Fz) (a5 2)) (a6 (eUn (j6 Et) (a5 2)) a8)))))))
  (a9 (c5 true 1 [false,true,true] (eOp n9 (a5 1) (j4 (a6 (eUn (j6 Es) (a5 2)) (a6 (eUn (j6 Fe) (a5 2)) (a6 (eUn (j6 Ff) (a5 2)) (a6 (eUn (j6 Fm) (a5 2)) a8)))))))
  (a9 (c5 true 1 [false,true,true] (eOp n9 (a5 1) (j4 (a6 (eUn (j6 Gb) (a5 2)) (a6 (eUn (j6 Fy) (a5 2)) (a6 (eUn (j6 Fl) (a5 2)) a8))))))
  (c5 true 1 [false,true,true] (eOp n9 (a5 1) (j4 (a6 (eUn (j6 Fb) (a5 2)) (a6 (eUn (j6 Fc) (a5 2)) (a6 (eUn (j6 Fd) (a5 2)) a8)))))))))) Ab))
  (O4 1)))
def Q0:List D->R D:=mOf true 1 2 Zs
def Bn:DE->R D:=
 (eOp w8 (eOp w8 (eOp w8 (eC (.str " ")) (eCB N3 (a6 (a5 0) a8))) (eC (.str "-"))) (eCB N3 (a6 (a5 1) a8)))
def y4d:DS->SR:=
 (a9 (c5 true 1 [true] (c9 Z5 (a6 (eSl dSl (a5 0) (oSo (eC (.int 7))) oNo) (a6 (c9 Y6 (a6 (a5 0) a8)) a8))))
  (a9 (Ak (.t [2,3]) [false,true] (c9 Z3 (a6 (a5 1) a8)))
  (a9 (c5 true 4 [false,true,false,true] (c9 Z1 (a6 (a5 1) (a6 (a5 3) a8))))
  (a9 (c5 false 5 [true] (eOp j8 (c9 p7 (a6 (a5 0) (a6 (eC (.int 1)) a8))) (eC (.int 8))))
  (a9 (sIf (c8 asB (eOp dEq (a5 5) (eC (.int 4))))
   (V1 4 [true,false,true] Y0 4 (a5 2) (a6 (c9 p7 (a6 (a5 0) (a6 (eC (.int 2)) a8))) (a6 (eOp j8 (c9 p7 (a6 (a5 0) (a6 (eC (.int 3)) a8))) (eC (.int 2147483647))) a8)))
   sNx)
  (a9 (c5 false 6 [false,false,true,false,true] (eOp w8 (eOp w8 (eCB N3 (a6 (a5 2) a8)) (eC (.str ":"))) (eMt U8 (eC (.str "")) (a6 (o6 (iL (a5 4)) (bT 2) [] k8 Bn) a8))))
  (a9 (sIf (c8 asB (eOp l4 (a5 5) (eC (.int 4))))
   (c5 false 6 [true,false,false,false,false,false,true] (c9 Q1 (a6 (a5 6) (a6 (eOp j8 (c9 p7 (a6 (a5 0) (a6 (eC (.int 2)) a8))) (eC (.int 2147483647))) (a6 (c9 p7 (a6 (a5 0) (a6 (eC (.int 3)) a8))) a8)))))
   sNx)
  (a9 (sIf (c8 asB (eOp dEq (a5 5) (eC (.int 3))))
   (c5 false 6 [true,false,false,false,false,false,true] (c9 Q1 (a6 (a5 6) (a6 (eOp j8 (c9 p7 (a6 (a5 0) (a6 (eC (.int 4)) a8))) (eC (.int 2147483647))) (a6 (c9 p7 (a6 (a5 0) (a6 (eC (.int 5)) a8))) a8)))))
   sNx)
  (a9 (sIf (c8 asB (eOp dEq (a5 5) (eC (.int 5))))
   (c5 false 6 [true] (c9 Y1 (a6 (c9 p7 (a6 (a5 0) (a6 (eC (.int 2)) a8))) a8)))
   sNx)
  (a9 (sIf (c8 asB (eOp dEq (a5 5) (eC (.int 6))))
   (c5 false 6 [true,false,false,false,false,false,true] (c9 Z0 (a6 (a5 6) (a6 (c9 p7 (a6 (a5 0) (a6 (eC (.int 2)) a8))) a8))))
   sNx)
  (a9 (c5 false 7 [false,false,false,false,false,false,true] (c9 D4 (a6 (a5 6) a8)))
  (a9 (sIf (o9 (c8 l5 (c9 I0 (a6 (c9 Q2 (a6 (a5 6) a8)) (a6 (a5 7) a8)))))
   (e7 [] (eC (.bl false)))
   sNx)
  (a9 (c5 true 8 [false,false,false,false,false,false,true] (c9 Q0 (a6 (a5 6) a8)))
  (a9 (sIf (c8 asB (eOp dEq (eOp dIx (a5 7) (eC (.int 0))) (eC (.str "made"))))
   (e7 [false,false,false,false,false,false,false,false,true] (eOp dEq (a5 8) (j4 a8)))
   sNx)
  (a9 (c5 false 9 [false,false,false,false,false,false,false,true] (eOp dIx (a5 7) (eC (.int 0))))
  (a9 (c5 true 10 [false,false,false,false,false,false,false,false,false,true] (j4 (a6 (eC (.bl true)) (a6 (eOp dEq (a5 9) (eC (.str "text"))) (a6 (eOp dEq (a5 9) (eC (.str "floor"))) (a6 (eOp dEq (a5 9) (eC (.str "line"))) (a6 (eOp dEq (a5 9) (eC (.str "crossed"))) (a6 (eOp dEq (a5 9) (eC (.str "full"))) a8))))))))
  (e7 [false,false,false,false,false,false,false,false,true,false,true] (eOp dEq (a5 8) (eOp n9 (a5 10) (eOp T6 (j4 (a6 (eC (.bl false)) a8)) (eC (.int 12))))))))))))))))))))))
def U6:List D->R D:=mOf false 1 10 y4d
abbrev My:Stmt:=top 20
abbrev Ju:Stmt:=top 21
abbrev Mh:Stmt:=top 22
abbrev Mg:Stmt:=top 23
abbrev Ko:Stmt:=top 24
abbrev Li:Stmt:=top 26
abbrev Mx:Stmt:=top 27
abbrev Oj:Stmt:=top 28
abbrev Oe:Stmt:=top 29
abbrev Mw:Stmt:=top 30
abbrev Kn:Stmt:=top 32
abbrev Od:Stmt:=top 33
abbrev Oy:Stmt:=top 34
abbrev Mf:Stmt:=top 36
abbrev Me:Stmt:=top 37
abbrev Pb:Stmt:=top 38
abbrev Np:Stmt:=top 39
abbrev Jt:Stmt:=top 41
abbrev Ov:Stmt:=top 42
abbrev No:Stmt:=top 43
abbrev Nn:Stmt:=top 45
abbrev Pa:Stmt:=top 46
abbrev Nm:Stmt:=top 47
abbrev Oi:Stmt:=top 48
abbrev Ob:Stmt:=top 49
abbrev Oa:Stmt:=top 50
abbrev Nl:Stmt:=top 51
abbrev Nz:Stmt:=top 52
abbrev Mv:Stmt:=top 53
abbrev Ny:Stmt:=top 54
abbrev Mu:Stmt:=top 55
abbrev Oh:Stmt:=top 56
abbrev Nw:Stmt:=top 57
abbrev Ou:Stmt:=top 58
abbrev Nk:Stmt:=top 59
abbrev Mt:Stmt:=top 60
abbrev Og:Stmt:=top 61
abbrev Nv:Stmt:=top 62
abbrev Ot:Stmt:=top 63
abbrev Nj:Stmt:=top 64
abbrev Hk:Stmt:=top 65
abbrev Z7:Stmt:=(Ui (top 4)).getD 0 (.Pass ⟨0,0,0,0⟩)
def zaf:FnScope ["self","one","other"] ["self","one","other"] (g0 Z7):=fsc
abbrev Z6:Stmt:=(Ui (top 5)).getD 0 (.Pass ⟨0,0,0,0⟩)
def zag:FnScope ["self","line"] ["self","line"] (g0 Z6):=fsc
structure Txt(mg:Str->Option Value):Prop where
 ValueError:mg "ValueError"=none
 «all»:mg "all"=none
 «any»:mg "any"=none
 bool:mg "bool"=none
 enumerate:mg "enumerate"=none
 int:mg "int"=none
 isinstance:mg "isinstance"=none
 len:mg "len"=none
 list:mg "list"=none
 «max»:mg "max"=none
 «min»:mg "min"=none
 range:mg "range"=none
 sorted:mg "sorted"=none
 str:mg "str"=none
 sum:mg "sum"=none
 tuple:mg "tuple"=none
structure Exs(K:Frag)(mg:Str->Option Value)(u0 u1 u2 u3 u4 u5 u6 u7 u8 u9 u10 u11 u12 u13 u14 u15 u16 u17:Addr):Prop where
 a_Crossed:mg (Str.ofString "Crossed")=some (.ref u0)
 a_Fallen:mg (Str.ofString "Fallen")=some (.ref u1)
 a_FloorError:mg (Str.ofString "FloorError")=some (.ref u2)
 a_NoBand:mg (Str.ofString "NoBand")=some (.ref u3)
 a_NoCorner:mg (Str.ofString "NoCorner")=some (.ref u4)
 a_NoDeed:mg (Str.ofString "NoDeed")=some (.ref u5)
 a_NoEar:mg (Str.ofString "NoEar")=some (.ref u6)
 a_NoFloor:mg (Str.ofString "NoFloor")=some (.ref u7)
 a_NoLine:mg (Str.ofString "NoLine")=some (.ref u8)
 a_NoName:mg (Str.ofString "NoName")=some (.ref u9)
 a_NoPlace:mg (Str.ofString "NoPlace")=some (.ref u10)
 a_NoQuotient:mg (Str.ofString "NoQuotient")=some (.ref u11)
 a_NoRow:mg (Str.ofString "NoRow")=some (.ref u12)
 a_NoText:mg (Str.ofString "NoText")=some (.ref u13)
 a_NoTurn:mg (Str.ofString "NoTurn")=some (.ref u14)
 a_NotAlike:mg (Str.ofString "NotAlike")=some (.ref u15)
 a_NotFull:mg (Str.ofString "NotFull")=some (.ref u16)
 a_TooMany:mg (Str.ofString "TooMany")=some (.ref u17)
 n_Crossed:nsIn K mainGlobals (Str.ofString "Crossed")=some (some (.ref u0))
 n_FloorError:nsIn K mainGlobals (Str.ofString "FloorError")=some (some (.ref u2))
 n_NoFloor:nsIn K mainGlobals (Str.ofString "NoFloor")=some (some (.ref u7))
 n_NoLine:nsIn K mainGlobals (Str.ofString "NoLine")=some (some (.ref u8))
 n_NoText:nsIn K mainGlobals (Str.ofString "NoText")=some (some (.ref u13))
 n_NotFull:nsIn K mainGlobals (Str.ofString "NotFull")=some (some (.ref u16))
 q_Crossed:z9 K u0 [.type "ValueError",.type "Exception",.type "BaseException",.type "object"] "ValueError.__new__"=true
 s_Crossed:PySem.W.findIn K (.ref u0) "__setattr__"=some (some (.builtin "object.__setattr__"))
 v_Crossed:PySem.W.findIn K (.ref u0) "one"=some none
 v1_Crossed:PySem.W.findIn K (.ref u0) "other"=some none
 q_FloorError:PySem.W.excIn K u2 [.type "ValueError",.type "Exception",.type "BaseException",.type "object"] "ValueError.__new__"=true
 q_NoFloor:PySem.W.excIn K u7 [.type "ValueError",.type "Exception",.type "BaseException",.type "object"] "ValueError.__new__"=true
 q_NoLine:PySem.W.excIn K u8 [.type "ValueError",.type "Exception",.type "BaseException",.type "object"] "ValueError.__new__"=true
 q_NoText:PySem.W.excIn K u13 [.type "ValueError",.type "Exception",.type "BaseException",.type "object"] "ValueError.__new__"=true
 q_NotFull:z9 K u16 [.type "ValueError",.type "Exception",.type "BaseException",.type "object"] "ValueError.__new__"=true
 s_NotFull:PySem.W.findIn K (.ref u16) "__setattr__"=some (some (.builtin "object.__setattr__"))
 v_NotFull:PySem.W.findIn K (.ref u16) "line"=some none
 fo_Crossed:mroIn K u0 (.type "object")=some true
 fb_Crossed:mroIn K u0 (.type "BaseException")=some true
 fc_Crossed:PySem.W.findIn K (.ref u0) "__class__"=some (some (.builtin "object.__class__"))
 fg_Crossed:PySem.W.findIn K (.ref u0) "__getattribute__"=some (some (.builtin "BaseException.__getattribute__"))
 ft_Crossed:PySem.W.findIn K (.ref u0) "__getattr__"=some none
 m_Crossed_NoText:mroIn K u0 (.ref u13)=some false
 m_Crossed_NoFloor:mroIn K u0 (.ref u7)=some false
 m_Crossed_NoLine:mroIn K u0 (.ref u8)=some false
 m_Crossed_NotFull:mroIn K u0 (.ref u16)=some false
 m_Crossed_Crossed:mroIn K u0 (.ref u0)=some true
 m_Crossed_FloorError:mroIn K u0 (.ref u2)=some true
 k_Crossed_NoLine:kitOne K (.ref u0) (.ref u8)=some false
 k_Crossed_NoFloor:kitOne K (.ref u0) (.ref u7)=some false
 k_Crossed_NoText:kitOne K (.ref u0) (.ref u13)=some false
 k_Crossed_ValueError:kitOne K (.ref u0) (.type "ValueError")=some true
 k_Crossed_NoEar:kitOne K (.ref u0) (.ref u6)=some false
 k_Crossed_NoCorner:kitOne K (.ref u0) (.ref u4)=some false
 k_Crossed_NotFull:kitOne K (.ref u0) (.ref u16)=some false
 k_Crossed_Crossed:kitOne K (.ref u0) (.ref u0)=some true
 k_Crossed_TooMany:kitOne K (.ref u0) (.ref u17)=some false
 k_Crossed_NoBand:kitOne K (.ref u0) (.ref u3)=some false
 k_Crossed_Fallen:kitOne K (.ref u0) (.ref u1)=some false
 k_Crossed_NoRow:kitOne K (.ref u0) (.ref u12)=some false
 k_Crossed_NoPlace:kitOne K (.ref u0) (.ref u10)=some false
 k_Crossed_NotAlike:kitOne K (.ref u0) (.ref u15)=some false
 k_Crossed_NoQuotient:kitOne K (.ref u0) (.ref u11)=some false
 k_Crossed_NoTurn:kitOne K (.ref u0) (.ref u14)=some false
 k_Crossed_NoName:kitOne K (.ref u0) (.ref u9)=some false
 k_Crossed_NoDeed:kitOne K (.ref u0) (.ref u5)=some false
 fo_NoFloor:mroIn K u7 (.type "object")=some true
 fb_NoFloor:mroIn K u7 (.type "BaseException")=some true
 fc_NoFloor:PySem.W.findIn K (.ref u7) "__class__"=some (some (.builtin "object.__class__"))
 fg_NoFloor:PySem.W.findIn K (.ref u7) "__getattribute__"=some (some (.builtin "BaseException.__getattribute__"))
 ft_NoFloor:PySem.W.findIn K (.ref u7) "__getattr__"=some none
 m_NoFloor_NoText:mroIn K u7 (.ref u13)=some false
 m_NoFloor_NoFloor:mroIn K u7 (.ref u7)=some true
 m_NoFloor_NoLine:mroIn K u7 (.ref u8)=some false
 m_NoFloor_NotFull:mroIn K u7 (.ref u16)=some false
 m_NoFloor_Crossed:mroIn K u7 (.ref u0)=some false
 m_NoFloor_FloorError:mroIn K u7 (.ref u2)=some true
 k_NoFloor_NoLine:kitOne K (.ref u7) (.ref u8)=some false
 k_NoFloor_NoFloor:kitOne K (.ref u7) (.ref u7)=some true
 k_NoFloor_NoText:kitOne K (.ref u7) (.ref u13)=some false
 k_NoFloor_ValueError:kitOne K (.ref u7) (.type "ValueError")=some true
 k_NoFloor_NoEar:kitOne K (.ref u7) (.ref u6)=some false
 k_NoFloor_NoCorner:kitOne K (.ref u7) (.ref u4)=some false
 k_NoFloor_NotFull:kitOne K (.ref u7) (.ref u16)=some false
 k_NoFloor_Crossed:kitOne K (.ref u7) (.ref u0)=some false
 k_NoFloor_TooMany:kitOne K (.ref u7) (.ref u17)=some false
 k_NoFloor_NoBand:kitOne K (.ref u7) (.ref u3)=some false
 k_NoFloor_Fallen:kitOne K (.ref u7) (.ref u1)=some false
 k_NoFloor_NoRow:kitOne K (.ref u7) (.ref u12)=some false
 k_NoFloor_NoPlace:kitOne K (.ref u7) (.ref u10)=some false
 k_NoFloor_NotAlike:kitOne K (.ref u7) (.ref u15)=some false
 k_NoFloor_NoQuotient:kitOne K (.ref u7) (.ref u11)=some false
 k_NoFloor_NoTurn:kitOne K (.ref u7) (.ref u14)=some false
 k_NoFloor_NoName:kitOne K (.ref u7) (.ref u9)=some false
 k_NoFloor_NoDeed:kitOne K (.ref u7) (.ref u5)=some false
 fo_NoLine:mroIn K u8 (.type "object")=some true
 fb_NoLine:mroIn K u8 (.type "BaseException")=some true
 fc_NoLine:PySem.W.findIn K (.ref u8) "__class__"=some (some (.builtin "object.__class__"))
 fg_NoLine:PySem.W.findIn K (.ref u8) "__getattribute__"=some (some (.builtin "BaseException.__getattribute__"))
 ft_NoLine:PySem.W.findIn K (.ref u8) "__getattr__"=some none
 m_NoLine_NoText:mroIn K u8 (.ref u13)=some false
 m_NoLine_NoFloor:mroIn K u8 (.ref u7)=some false
 m_NoLine_NoLine:mroIn K u8 (.ref u8)=some true
 m_NoLine_NotFull:mroIn K u8 (.ref u16)=some false
 m_NoLine_Crossed:mroIn K u8 (.ref u0)=some false
 m_NoLine_FloorError:mroIn K u8 (.ref u2)=some true
 k_NoLine_NoLine:kitOne K (.ref u8) (.ref u8)=some true
 k_NoLine_NoFloor:kitOne K (.ref u8) (.ref u7)=some false
 k_NoLine_NoText:kitOne K (.ref u8) (.ref u13)=some false
 k_NoLine_ValueError:kitOne K (.ref u8) (.type "ValueError")=some true
 k_NoLine_NoEar:kitOne K (.ref u8) (.ref u6)=some false
 k_NoLine_NoCorner:kitOne K (.ref u8) (.ref u4)=some false
 k_NoLine_NotFull:kitOne K (.ref u8) (.ref u16)=some false
 k_NoLine_Crossed:kitOne K (.ref u8) (.ref u0)=some false
 k_NoLine_TooMany:kitOne K (.ref u8) (.ref u17)=some false
 k_NoLine_NoBand:kitOne K (.ref u8) (.ref u3)=some false
 k_NoLine_Fallen:kitOne K (.ref u8) (.ref u1)=some false
 k_NoLine_NoRow:kitOne K (.ref u8) (.ref u12)=some false
 k_NoLine_NoPlace:kitOne K (.ref u8) (.ref u10)=some false
 k_NoLine_NotAlike:kitOne K (.ref u8) (.ref u15)=some false
 k_NoLine_NoQuotient:kitOne K (.ref u8) (.ref u11)=some false
 k_NoLine_NoTurn:kitOne K (.ref u8) (.ref u14)=some false
 k_NoLine_NoName:kitOne K (.ref u8) (.ref u9)=some false
 k_NoLine_NoDeed:kitOne K (.ref u8) (.ref u5)=some false
 fo_NoText:mroIn K u13 (.type "object")=some true
 fb_NoText:mroIn K u13 (.type "BaseException")=some true
 fc_NoText:PySem.W.findIn K (.ref u13) "__class__"=some (some (.builtin "object.__class__"))
 fg_NoText:PySem.W.findIn K (.ref u13) "__getattribute__"=some (some (.builtin "BaseException.__getattribute__"))
 ft_NoText:PySem.W.findIn K (.ref u13) "__getattr__"=some none
 m_NoText_NoText:mroIn K u13 (.ref u13)=some true
 m_NoText_NoFloor:mroIn K u13 (.ref u7)=some false
 m_NoText_NoLine:mroIn K u13 (.ref u8)=some false
 m_NoText_NotFull:mroIn K u13 (.ref u16)=some false
 m_NoText_Crossed:mroIn K u13 (.ref u0)=some false
 m_NoText_FloorError:mroIn K u13 (.ref u2)=some true
 k_NoText_NoLine:kitOne K (.ref u13) (.ref u8)=some false
 k_NoText_NoFloor:kitOne K (.ref u13) (.ref u7)=some false
 k_NoText_NoText:kitOne K (.ref u13) (.ref u13)=some true
 k_NoText_ValueError:kitOne K (.ref u13) (.type "ValueError")=some true
 k_NoText_NoEar:kitOne K (.ref u13) (.ref u6)=some false
 k_NoText_NoCorner:kitOne K (.ref u13) (.ref u4)=some false
 k_NoText_NotFull:kitOne K (.ref u13) (.ref u16)=some false
 k_NoText_Crossed:kitOne K (.ref u13) (.ref u0)=some false
 k_NoText_TooMany:kitOne K (.ref u13) (.ref u17)=some false
 k_NoText_NoBand:kitOne K (.ref u13) (.ref u3)=some false
 k_NoText_Fallen:kitOne K (.ref u13) (.ref u1)=some false
 k_NoText_NoRow:kitOne K (.ref u13) (.ref u12)=some false
 k_NoText_NoPlace:kitOne K (.ref u13) (.ref u10)=some false
 k_NoText_NotAlike:kitOne K (.ref u13) (.ref u15)=some false
 k_NoText_NoQuotient:kitOne K (.ref u13) (.ref u11)=some false
 k_NoText_NoTurn:kitOne K (.ref u13) (.ref u14)=some false
 k_NoText_NoName:kitOne K (.ref u13) (.ref u9)=some false
 k_NoText_NoDeed:kitOne K (.ref u13) (.ref u5)=some false
 fo_NotFull:mroIn K u16 (.type "object")=some true
 fb_NotFull:mroIn K u16 (.type "BaseException")=some true
 fc_NotFull:PySem.W.findIn K (.ref u16) "__class__"=some (some (.builtin "object.__class__"))
 fg_NotFull:PySem.W.findIn K (.ref u16) "__getattribute__"=some (some (.builtin "BaseException.__getattribute__"))
 ft_NotFull:PySem.W.findIn K (.ref u16) "__getattr__"=some none
 m_NotFull_NoText:mroIn K u16 (.ref u13)=some false
 m_NotFull_NoFloor:mroIn K u16 (.ref u7)=some false
 m_NotFull_NoLine:mroIn K u16 (.ref u8)=some false
 m_NotFull_NotFull:mroIn K u16 (.ref u16)=some true
 m_NotFull_Crossed:mroIn K u16 (.ref u0)=some false
 m_NotFull_FloorError:mroIn K u16 (.ref u2)=some true
 k_NotFull_NoLine:kitOne K (.ref u16) (.ref u8)=some false
 k_NotFull_NoFloor:kitOne K (.ref u16) (.ref u7)=some false
 k_NotFull_NoText:kitOne K (.ref u16) (.ref u13)=some false
 k_NotFull_ValueError:kitOne K (.ref u16) (.type "ValueError")=some true
 k_NotFull_NoEar:kitOne K (.ref u16) (.ref u6)=some false
 k_NotFull_NoCorner:kitOne K (.ref u16) (.ref u4)=some false
 k_NotFull_NotFull:kitOne K (.ref u16) (.ref u16)=some true
 k_NotFull_Crossed:kitOne K (.ref u16) (.ref u0)=some false
 k_NotFull_TooMany:kitOne K (.ref u16) (.ref u17)=some false
 k_NotFull_NoBand:kitOne K (.ref u16) (.ref u3)=some false
 k_NotFull_Fallen:kitOne K (.ref u16) (.ref u1)=some false
 k_NotFull_NoRow:kitOne K (.ref u16) (.ref u12)=some false
 k_NotFull_NoPlace:kitOne K (.ref u16) (.ref u10)=some false
 k_NotFull_NotAlike:kitOne K (.ref u16) (.ref u15)=some false
 k_NotFull_NoQuotient:kitOne K (.ref u16) (.ref u11)=some false
 k_NotFull_NoTurn:kitOne K (.ref u16) (.ref u14)=some false
 k_NotFull_NoName:kitOne K (.ref u16) (.ref u9)=some false
 k_NotFull_NoDeed:kitOne K (.ref u16) (.ref u5)=some false
section
variable {K:Frag}{mg:Str->Option Value}{u0 u1 u2 u3 u4 u5 u6 u7 u8 u9 u10 u11 u12 u13 u14 u15 u16 u17:Addr}
def Exs.kn(Z:Exs K mg u0 u1 u2 u3 u4 u5 u6 u7 u8 u9 u10 u11 u12 u13 u14 u15 u16 u17):∀c,knX c=true->∃C,mg (Str.ofString c)=some (.ref C):=by
 intro c h;simp only[knX,HP,Iv]at h;rcases h with (((h |h) |h) |h) |h
 . subst h;exact⟨_,Z.a_Crossed⟩
 . subst h;exact⟨_,Z.a_NoFloor⟩
 . subst h;exact⟨_,Z.a_NoLine⟩
 . subst h;exact⟨_,Z.a_NoText⟩
 . subst h;exact⟨_,Z.a_NotFull⟩
abbrev BM9:List Value:=[.type "ValueError",.type "Exception",.type "BaseException",.type "object"]
def Exs.tbl(Z:Exs K mg u0 u1 u2 u3 u4 u5 u6 u7 u8 u9 u10 u11 u12 u13 u14 u15 u16 u17)(hn:nsIn K mainGlobals (Str.ofString cn)=some (some (.ref Dd)))(hq:XCl K Dd BM9 "ValueError.__new__")(m0:mroIn K u0 (.ref Dd)=some v0)(m1:mroIn K u7 (.ref Dd)=some v1)(m2:mroIn K u8 (.ref Dd)=some v2)(m3:mroIn K u13 (.ref Dd)=some v3)(m4:mroIn K u16 (.ref Dd)=some v4):Tbl K cn Dd BM9 "ValueError.__new__" (tB v0 v1 v2 v3 v4):=⟨hn,hq,by
 intro c b h;simp only[tB]at h;by_cases e:c="Crossed"
 . rw[ξ e]at h;cases h;subst e;exact⟨_,Z.n_Crossed,.inr Z.q_Crossed,m0⟩
 rw[ψ e]at h;by_cases e:c="NoFloor"
 . rw[ξ e]at h;cases h;subst e;exact⟨_,Z.n_NoFloor,.inl Z.q_NoFloor,m1⟩
 rw[ψ e]at h;by_cases e:c="NoLine"
 . rw[ξ e]at h;cases h;subst e;exact⟨_,Z.n_NoLine,.inl Z.q_NoLine,m2⟩
 rw[ψ e]at h;by_cases e:c="NoText"
 . rw[ξ e]at h;cases h;subst e;exact⟨_,Z.n_NoText,.inl Z.q_NoText,m3⟩
 rw[ψ e]at h;by_cases e:c="NotFull"
 . rw[ξ e]at h;cases h;subst e;exact⟨_,Z.n_NotFull,.inr Z.q_NotFull,m4⟩
 rw[ψ e]at h;cases h⟩
def Exs.t_NoText(Z:Exs K mg u0 u1 u2 u3 u4 u5 u6 u7 u8 u9 u10 u11 u12 u13 u14 u15 u16 u17):Tbl K "NoText" u13 BM9 "ValueError.__new__" Fj:=Z.tbl Z.n_NoText (.inl Z.q_NoText) Z.m_Crossed_NoText Z.m_NoFloor_NoText Z.m_NoLine_NoText Z.m_NoText_NoText Z.m_NotFull_NoText
def Exs.t_NoFloor(Z:Exs K mg u0 u1 u2 u3 u4 u5 u6 u7 u8 u9 u10 u11 u12 u13 u14 u15 u16 u17):Tbl K "NoFloor" u7 BM9 "ValueError.__new__" Fu:=Z.tbl Z.n_NoFloor (.inl Z.q_NoFloor) Z.m_Crossed_NoFloor Z.m_NoFloor_NoFloor Z.m_NoLine_NoFloor Z.m_NoText_NoFloor Z.m_NotFull_NoFloor
def Exs.t_NoLine(Z:Exs K mg u0 u1 u2 u3 u4 u5 u6 u7 u8 u9 u10 u11 u12 u13 u14 u15 u16 u17):Tbl K "NoLine" u8 BM9 "ValueError.__new__" Fi:=Z.tbl Z.n_NoLine (.inl Z.q_NoLine) Z.m_Crossed_NoLine Z.m_NoFloor_NoLine Z.m_NoLine_NoLine Z.m_NoText_NoLine Z.m_NotFull_NoLine
def Exs.t_NotFull(Z:Exs K mg u0 u1 u2 u3 u4 u5 u6 u7 u8 u9 u10 u11 u12 u13 u14 u15 u16 u17):Tbl K "NotFull" u16 BM9 "ValueError.__new__" Fs:=Z.tbl Z.n_NotFull (.inr Z.q_NotFull) Z.m_Crossed_NotFull Z.m_NoFloor_NotFull Z.m_NoLine_NotFull Z.m_NoText_NotFull Z.m_NotFull_NotFull
def Exs.t_Crossed(Z:Exs K mg u0 u1 u2 u3 u4 u5 u6 u7 u8 u9 u10 u11 u12 u13 u14 u15 u16 u17):Tbl K "Crossed" u0 BM9 "ValueError.__new__" Fq:=Z.tbl Z.n_Crossed (.inr Z.q_Crossed) Z.m_Crossed_Crossed Z.m_NoFloor_Crossed Z.m_NoLine_Crossed Z.m_NoText_Crossed Z.m_NotFull_Crossed
def Exs.t_FloorError(Z:Exs K mg u0 u1 u2 u3 u4 u5 u6 u7 u8 u9 u10 u11 u12 u13 u14 u15 u16 u17):Tbl K "FloorError" u2 BM9 "ValueError.__new__" Gd:=Z.tbl Z.n_FloorError (.inl Z.q_FloorError) Z.m_Crossed_FloorError Z.m_NoFloor_FloorError Z.m_NoLine_FloorError Z.m_NoText_FloorError Z.m_NotFull_FloorError
def Exs.bel(Z:Exs K mg u0 u1 u2 u3 u4 u5 u6 u7 u8 u9 u10 u11 u12 u13 u14 u15 u16 u17)(m0:kitOne K (.ref u0) y=some v0)(m1:kitOne K (.ref u7) y=some v1)(m2:kitOne K (.ref u8) y=some v2)(m3:kitOne K (.ref u13) y=some v3)(m4:kitOne K (.ref u16) y=some v4):Bel K y (tB v0 v1 v2 v3 v4):=⟨by
 intro c b h;simp only[tB]at h;by_cases e:c="Crossed"
 . rw[ξ e]at h;cases h;subst e;exact⟨_,Z.n_Crossed,⟨Z.fo_Crossed,Z.fb_Crossed,Z.fc_Crossed,Z.fg_Crossed,Z.ft_Crossed⟩,m0⟩
 rw[ψ e]at h;by_cases e:c="NoFloor"
 . rw[ξ e]at h;cases h;subst e;exact⟨_,Z.n_NoFloor,⟨Z.fo_NoFloor,Z.fb_NoFloor,Z.fc_NoFloor,Z.fg_NoFloor,Z.ft_NoFloor⟩,m1⟩
 rw[ψ e]at h;by_cases e:c="NoLine"
 . rw[ξ e]at h;cases h;subst e;exact⟨_,Z.n_NoLine,⟨Z.fo_NoLine,Z.fb_NoLine,Z.fc_NoLine,Z.fg_NoLine,Z.ft_NoLine⟩,m2⟩
 rw[ψ e]at h;by_cases e:c="NoText"
 . rw[ξ e]at h;cases h;subst e;exact⟨_,Z.n_NoText,⟨Z.fo_NoText,Z.fb_NoText,Z.fc_NoText,Z.fg_NoText,Z.ft_NoText⟩,m3⟩
 rw[ψ e]at h;by_cases e:c="NotFull"
 . rw[ξ e]at h;cases h;subst e;exact⟨_,Z.n_NotFull,⟨Z.fo_NotFull,Z.fb_NotFull,Z.fc_NotFull,Z.fg_NotFull,Z.ft_NotFull⟩,m4⟩
 rw[ψ e]at h;cases h⟩
def Exs.b_NoLine(Z:Exs K mg u0 u1 u2 u3 u4 u5 u6 u7 u8 u9 u10 u11 u12 u13 u14 u15 u16 u17):Bel K (.ref u8) Fh:=Z.bel Z.k_Crossed_NoLine Z.k_NoFloor_NoLine Z.k_NoLine_NoLine Z.k_NoText_NoLine Z.k_NotFull_NoLine
def Exs.b_NoFloor(Z:Exs K mg u0 u1 u2 u3 u4 u5 u6 u7 u8 u9 u10 u11 u12 u13 u14 u15 u16 u17):Bel K (.ref u7) Fp:=Z.bel Z.k_Crossed_NoFloor Z.k_NoFloor_NoFloor Z.k_NoLine_NoFloor Z.k_NoText_NoFloor Z.k_NotFull_NoFloor
def Exs.b_NoText(Z:Exs K mg u0 u1 u2 u3 u4 u5 u6 u7 u8 u9 u10 u11 u12 u13 u14 u15 u16 u17):Bel K (.ref u13) Fg:=Z.bel Z.k_Crossed_NoText Z.k_NoFloor_NoText Z.k_NoLine_NoText Z.k_NoText_NoText Z.k_NotFull_NoText
def Exs.b_ValueError(Z:Exs K mg u0 u1 u2 u3 u4 u5 u6 u7 u8 u9 u10 u11 u12 u13 u14 u15 u16 u17):Bel K (.type "ValueError") Gc:=Z.bel Z.k_Crossed_ValueError Z.k_NoFloor_ValueError Z.k_NoLine_ValueError Z.k_NoText_ValueError Z.k_NotFull_ValueError
def Exs.b_NoEar(Z:Exs K mg u0 u1 u2 u3 u4 u5 u6 u7 u8 u9 u10 u11 u12 u13 u14 u15 u16 u17):Bel K (.ref u6) Et:=Z.bel Z.k_Crossed_NoEar Z.k_NoFloor_NoEar Z.k_NoLine_NoEar Z.k_NoText_NoEar Z.k_NotFull_NoEar
def Exs.b_NoCorner(Z:Exs K mg u0 u1 u2 u3 u4 u5 u6 u7 u8 u9 u10 u11 u12 u13 u14 u15 u16 u17):Bel K (.ref u4) Fz:=Z.bel Z.k_Crossed_NoCorner Z.k_NoFloor_NoCorner Z.k_NoLine_NoCorner Z.k_NoText_NoCorner Z.k_NotFull_NoCorner
def Exs.b_NotFull(Z:Exs K mg u0 u1 u2 u3 u4 u5 u6 u7 u8 u9 u10 u11 u12 u13 u14 u15 u16 u17):Bel K (.ref u16) Fo:=Z.bel Z.k_Crossed_NotFull Z.k_NoFloor_NotFull Z.k_NoLine_NotFull Z.k_NoText_NotFull Z.k_NotFull_NotFull
def Exs.b_Crossed(Z:Exs K mg u0 u1 u2 u3 u4 u5 u6 u7 u8 u9 u10 u11 u12 u13 u14 u15 u16 u17):Bel K (.ref u0) Fn:=Z.bel Z.k_Crossed_Crossed Z.k_NoFloor_Crossed Z.k_NoLine_Crossed Z.k_NoText_Crossed Z.k_NotFull_Crossed
def Exs.b_TooMany(Z:Exs K mg u0 u1 u2 u3 u4 u5 u6 u7 u8 u9 u10 u11 u12 u13 u14 u15 u16 u17):Bel K (.ref u17) Fm:=Z.bel Z.k_Crossed_TooMany Z.k_NoFloor_TooMany Z.k_NoLine_TooMany Z.k_NoText_TooMany Z.k_NotFull_TooMany
def Exs.b_NoBand(Z:Exs K mg u0 u1 u2 u3 u4 u5 u6 u7 u8 u9 u10 u11 u12 u13 u14 u15 u16 u17):Bel K (.ref u3) Ff:=Z.bel Z.k_Crossed_NoBand Z.k_NoFloor_NoBand Z.k_NoLine_NoBand Z.k_NoText_NoBand Z.k_NotFull_NoBand
def Exs.b_Fallen(Z:Exs K mg u0 u1 u2 u3 u4 u5 u6 u7 u8 u9 u10 u11 u12 u13 u14 u15 u16 u17):Bel K (.ref u1) Fe:=Z.bel Z.k_Crossed_Fallen Z.k_NoFloor_Fallen Z.k_NoLine_Fallen Z.k_NoText_Fallen Z.k_NotFull_Fallen
def Exs.b_NoRow(Z:Exs K mg u0 u1 u2 u3 u4 u5 u6 u7 u8 u9 u10 u11 u12 u13 u14 u15 u16 u17):Bel K (.ref u12) Es:=Z.bel Z.k_Crossed_NoRow Z.k_NoFloor_NoRow Z.k_NoLine_NoRow Z.k_NoText_NoRow Z.k_NotFull_NoRow
def Exs.b_NoPlace(Z:Exs K mg u0 u1 u2 u3 u4 u5 u6 u7 u8 u9 u10 u11 u12 u13 u14 u15 u16 u17):Bel K (.ref u10) Fl:=Z.bel Z.k_Crossed_NoPlace Z.k_NoFloor_NoPlace Z.k_NoLine_NoPlace Z.k_NoText_NoPlace Z.k_NotFull_NoPlace
def Exs.b_NotAlike(Z:Exs K mg u0 u1 u2 u3 u4 u5 u6 u7 u8 u9 u10 u11 u12 u13 u14 u15 u16 u17):Bel K (.ref u15) Fy:=Z.bel Z.k_Crossed_NotAlike Z.k_NoFloor_NotAlike Z.k_NoLine_NotAlike Z.k_NoText_NotAlike Z.k_NotFull_NotAlike
def Exs.b_NoQuotient(Z:Exs K mg u0 u1 u2 u3 u4 u5 u6 u7 u8 u9 u10 u11 u12 u13 u14 u15 u16 u17):Bel K (.ref u11) Gb:=Z.bel Z.k_Crossed_NoQuotient Z.k_NoFloor_NoQuotient Z.k_NoLine_NoQuotient Z.k_NoText_NoQuotient Z.k_NotFull_NoQuotient
def Exs.b_NoTurn(Z:Exs K mg u0 u1 u2 u3 u4 u5 u6 u7 u8 u9 u10 u11 u12 u13 u14 u15 u16 u17):Bel K (.ref u14) Fd:=Z.bel Z.k_Crossed_NoTurn Z.k_NoFloor_NoTurn Z.k_NoLine_NoTurn Z.k_NoText_NoTurn Z.k_NotFull_NoTurn
def Exs.b_NoName(Z:Exs K mg u0 u1 u2 u3 u4 u5 u6 u7 u8 u9 u10 u11 u12 u13 u14 u15 u16 u17):Bel K (.ref u9) Fc:=Z.bel Z.k_Crossed_NoName Z.k_NoFloor_NoName Z.k_NoLine_NoName Z.k_NoText_NoName Z.k_NotFull_NoName
def Exs.b_NoDeed(Z:Exs K mg u0 u1 u2 u3 u4 u5 u6 u7 u8 u9 u10 u11 u12 u13 u14 u15 u16 u17):Bel K (.ref u5) Fb:=Z.bel Z.k_Crossed_NoDeed Z.k_NoFloor_NoDeed Z.k_NoLine_NoDeed Z.k_NoText_NoDeed Z.k_NotFull_NoDeed
def Exs.i_Crossed(Z:Exs K mg u0 u1 u2 u3 u4 u5 u6 u7 u8 u9 u10 u11 u12 u13 u14 u15 u16 u17):XI K u0 "one":=⟨Z.q_Crossed,Z.s_Crossed,Z.v_Crossed,Z.fo_Crossed⟩
def Exs.g_one(Z:Exs K mg u0 u1 u2 u3 u4 u5 u6 u7 u8 u9 u10 u11 u12 u13 u14 u15 u16 u17):∀c,("one":Str)∈C4 c->∃C,nsIn K mainGlobals (Str.ofString c)=some (some (.ref C))/\XI K C "one"/\XF K C:=by
 intro c h;by_cases e:c="Crossed"
 . subst e;exact⟨_,Z.n_Crossed,Z.i_Crossed,⟨Z.fo_Crossed,Z.fb_Crossed,Z.fc_Crossed,Z.fg_Crossed,Z.ft_Crossed⟩⟩
 unfold C4 at h;repeat (split at h;· first |contradiction |exact absurd h (by decide))
 exact absurd h (by decide)
def Exs.i1_Crossed(Z:Exs K mg u0 u1 u2 u3 u4 u5 u6 u7 u8 u9 u10 u11 u12 u13 u14 u15 u16 u17):XI K u0 "other":=⟨Z.q_Crossed,Z.s_Crossed,Z.v1_Crossed,Z.fo_Crossed⟩
def Exs.g_other(Z:Exs K mg u0 u1 u2 u3 u4 u5 u6 u7 u8 u9 u10 u11 u12 u13 u14 u15 u16 u17):∀c,("other":Str)∈C4 c->∃C,nsIn K mainGlobals (Str.ofString c)=some (some (.ref C))/\XI K C "other"/\XF K C:=by
 intro c h;by_cases e:c="Crossed"
 . subst e;exact⟨_,Z.n_Crossed,Z.i1_Crossed,⟨Z.fo_Crossed,Z.fb_Crossed,Z.fc_Crossed,Z.fg_Crossed,Z.ft_Crossed⟩⟩
 unfold C4 at h;repeat (split at h;· first |contradiction |exact absurd h (by decide))
 exact absurd h (by decide)
def Exs.i_NotFull(Z:Exs K mg u0 u1 u2 u3 u4 u5 u6 u7 u8 u9 u10 u11 u12 u13 u14 u15 u16 u17):XI K u16 "line":=⟨Z.q_NotFull,Z.s_NotFull,Z.v_NotFull,Z.fo_NotFull⟩
def Exs.g_line(Z:Exs K mg u0 u1 u2 u3 u4 u5 u6 u7 u8 u9 u10 u11 u12 u13 u14 u15 u16 u17):∀c,("line":Str)∈C4 c->∃C,nsIn K mainGlobals (Str.ofString c)=some (some (.ref C))/\XI K C "line"/\XF K C:=by
 intro c h;by_cases e:c="NotFull"
 . subst e;exact⟨_,Z.n_NotFull,Z.i_NotFull,⟨Z.fo_NotFull,Z.fb_NotFull,Z.fc_NotFull,Z.fg_NotFull,Z.ft_NotFull⟩⟩
 unfold C4 at h;repeat (split at h;· first |contradiction |exact absurd h (by decide))
 exact absurd h (by decide)
end
def zgp:FnScope ["thing"] ["thing"] (g0 My):=fsc
def vZ:FnScope ["a","b"] ["a","b"] (g0 Ju):=fsc
def sc_is_side:FnScope ["n","p","a","b"] ["n","p"] (g0 Mh):=fsc
def zjl:FnScope ["n","p"] ["n","p"] (g0 Mg):=fsc
def sc_cross:FnScope ["p","other","a","b","c","d"] ["p","other"] (g0 Ko):=fsc
def zq:FnScope ["thing"] ["thing"] (g0 Li):=fsc
def zgq:FnScope ["thing"] ["thing"] (g0 Mx):=fsc
def zay:FnScope ["thing"] ["thing"] (g0 Oj):=fsc
def zd8:FnScope ["word","most"] ["word","most"] (g0 Oe):=fsc
def sc_two_read:FnScope ["word","parts"] ["word"] (g0 Mw):=fsc
def sc_rooms:FnScope ["n","lines","tops"] ["n","lines"] (g0 Kn):=fsc
def sc_room_under:FnScope ["top","lines","room"] ["top","lines"] (g0 Od):=fsc
def sc_corner_behind:FnScope ["corner","top","lines","ends"] ["corner","top","lines"] (g0 Oy):=fsc
def sc_cutting:FnScope ["n","lines","found"] ["n","lines"] (g0 Mf):=fsc
def sc_line_of:FnScope ["n","thing","line"] ["n","thing"] (g0 Me):=fsc
def sc_check_uncrossed:FnScope ["lines","k","other","one"] ["lines"] (g0 Pb):=fsc
def sc_free_line:FnScope ["n","lines","wide"] ["n","lines"] (g0 Np):=fsc
def sc_read:FnScope ["text","words"] ["text"] (g0 Jt):=fsc
def zah:FnScope ["word"] ["word"] (g0 Ov):=fsc
def sc_line_read:FnScope ["word","two"] ["word"] (g0 No):=fsc
def zf6:FnScope ["_law_script","_law_k"] ["_law_script","_law_k"] (g0 Nn):=fsc
def z86:FnScope ["_law_found"] ["_law_found"] (g0 Pa):=fsc
def sc__law_many:FnScope ["_law_script","_law_cell"] ["_law_script"] (g0 Nm):=fsc
def sc__law_stream:FnScope ["_law_cells","_law_many_here","_law_found","_law_number_here","_law_k"] ["_law_cells","_law_many_here"] (g0 Oi):=fsc
def sc__law_grown:FnScope ["_law_stream_here","_law_n","_law_lines_here","_law_number_here","_law_at"] ["_law_stream_here"] (g0 Ob):=fsc
def sc__law_mixed:FnScope ["_law_stream_here","_law_lines_here","_law_some","_law_k","_law_line","_law_number_here"] ["_law_stream_here","_law_lines_here"] (g0 Oa):=fsc
def sc__law_sign:FnScope ["_law_number_here","_law_some"] ["_law_number_here"] (g0 Nl):=fsc
def sc__law_spoil:FnScope ["_law_text","_law_number_here","_law_cell","_law_at","_law_sign_here"] ["_law_text","_law_number_here","_law_cell"] (g0 Nz):=fsc
def sc__law_odd:FnScope ["_law_number_here","_law_some"] ["_law_number_here"] (g0 Mv):=fsc
def sc__law_thing:FnScope ["_law_text","_law_number_here","_law_some"] ["_law_text","_law_number_here"] (g0 Ny):=fsc
def zgr:FnScope ["_law_n","_law_some","_law_a","_law_number_here"] ["_law_n","_law_some","_law_a","_law_number_here"] (g0 Mu):=fsc
def zaz:FnScope ["_law_figures"] ["_law_figures"] (g0 Oh):=fsc
def sc__law_lines:FnScope ["_law_words","_law_lines_here","_law_word","_law_at","_law_a","_law_b"] ["_law_words"] (g0 Nw):=fsc
def sc__law_is_line:FnScope ["_law_n","_law_thing_here","_law_least","_law_far"] ["_law_n","_law_thing_here"] (g0 Ou):=fsc
def sc__law_meet:FnScope ["_law_one","_law_other","_law_between"] ["_law_one","_law_other"] (g0 Nk):=fsc
def sc__law_due:FnScope ["_law_text","_law_at","_law_n","_law_words","_law_lines_here","_law_k","_law_other","_law_one"] ["_law_text"] (g0 Mt):=fsc
def sc__law_answer:FnScope ["_law_text","_law_told_here","_law_found","e"] ["_law_text"] (g0 Og):=fsc
def sc__law_kinds:FnScope ["_law_text","_law_told_here","e"] ["_law_text"] (g0 Nv):=fsc
def zai:FnScope ["_law_found"] ["_law_found"] (g0 Ot):=fsc
def sc__law_told:FnScope ["_law_answer_here","_law_due_here","_law_line","_law_found"] ["_law_answer_here","_law_due_here"] (g0 Nj):=fsc
def sc_law:FnScope ["_law_script","_law_stream_here","_law_n","_law_lines_here","_law_some","_law_kind","_law_text","_law_due_here","_law_kinds_here","_law_word","_law_own"] ["_law_script"] (g0 Hk):=fsc
abbrev Ms(P:Program)(w:World)(K:Frag)(mg:Str->Option Value)(base:Heap):Prop:=i4 P w K mg base "is_whole" ["thing"] 1 (spD K mg false P9 1)
abbrev Rp(P:Program)(w:World)(K:Frag)(mg:Str->Option Value)(base:Heap):Prop:=i4 P w K mg base "pair" ["a","b"] 1 (spD K mg false Be 2)
abbrev Wx(P:Program)(w:World)(K:Frag)(mg:Str->Option Value)(base:Heap):Prop:=i4 P w K mg base "is_side" ["n","p"] 1 (spD K mg false Bz 2)
abbrev Tt(P:Program)(w:World)(K:Frag)(mg:Str->Option Value)(base:Heap):Prop:=i4 P w K mg base "cross" ["p","other"] 1 (spD K mg false Bp 2)
abbrev Nu(P:Program)(w:World)(K:Frag)(mg:Str->Option Value)(base:Heap):Prop:=i4 P w K mg base "is_figures" ["word","most"] 1 (spD K mg false Z4 2)
abbrev jq(P:Program)(w:World)(K:Frag)(mg:Str->Option Value)(base:Heap):Prop:=i4 P w K mg base "corner_behind" ["corner","top","lines"] 1 (spD K mg false Ck 3)
abbrev Ni(P:Program)(w:World)(K:Frag)(mg:Str->Option Value)(base:Heap):Prop:=i4 P w K mg base "_law_pick" ["_law_script","_law_k"] 1 (spD K mg false p7 2)
abbrev Oz(P:Program)(w:World)(K:Frag)(mg:Str->Option Value)(base:Heap):Prop:=i4 P w K mg base "_law_is_number" ["_law_found"] 1 (spD K mg false Z8 1)
abbrev jd(P:Program)(w:World)(K:Frag)(mg:Str->Option Value)(base:Heap):Prop:=i4 P w K mg base "_law_stream" ["_law_cells","_law_many_here"] 1 (spD K mg true Z5 2)
abbrev Zr(P:Program)(w:World)(K:Frag)(mg:Str->Option Value)(base:Heap):Prop:=i4 P w K mg base "_law_grown" ["_law_stream_here"] 1 (spD K mg false Z3 1)
abbrev Zq(P:Program)(w:World)(K:Frag)(mg:Str->Option Value)(base:Heap):Prop:=i4 P w K mg base "_law_mixed" ["_law_stream_here","_law_lines_here"] 1 (spD K mg true Z1 2)
abbrev Zb(P:Program)(w:World)(K:Frag)(mg:Str->Option Value)(base:Heap):Prop:=i4 P w K mg base "_law_sign" ["_law_number_here"] 1 (spD K mg false Cf 1)
abbrev Yi(P:Program)(w:World)(K:Frag)(mg:Str->Option Value)(base:Heap):Prop:=i4 P w K mg base "_law_odd" ["_law_number_here"] 1 (spD K mg false Y1 1)
abbrev Zp(P:Program)(w:World)(K:Frag)(mg:Str->Option Value)(base:Heap):Prop:=i4 P w K mg base "_law_thing" ["_law_text","_law_number_here"] 1 (spD K mg false Z0 2)
abbrev Yh(P:Program)(w:World)(K:Frag)(mg:Str->Option Value)(base:Heap):Prop:=i4 P w K mg base "_law_put" ["_law_n","_law_some","_law_a","_law_number_here"] 1 (Cn K Y0 4)
abbrev Of(P:Program)(w:World)(K:Frag)(mg:Str->Option Value)(base:Heap):Prop:=i4 P w K mg base "_law_number" ["_law_figures"] 1 (spD K mg false Q4 1)
abbrev Os(P:Program)(w:World)(K:Frag)(mg:Str->Option Value)(base:Heap):Prop:=i4 P w K mg base "_law_is_line" ["_law_n","_law_thing_here"] 1 (spD K mg false S6 2)
abbrev Nh(P:Program)(w:World)(K:Frag)(mg:Str->Option Value)(base:Heap):Prop:=i4 P w K mg base "_law_meet" ["_law_one","_law_other"] 1 (spD K mg false Y7 2)
abbrev Ww(P:Program)(w:World)(K:Frag)(mg:Str->Option Value)(base:Heap):Prop:=i4 P w K mg base "is_line" ["n","p"] 2 (spD K mg false By 2)
abbrev Vu(P:Program)(w:World)(K:Frag)(mg:Str->Option Value)(base:Heap):Prop:=i4 P w K mg base "is_two" ["thing"] 2 (spD K mg false Bu 1)
abbrev Yg(P:Program)(w:World)(K:Frag)(mg:Str->Option Value)(base:Heap):Prop:=i4 P w K mg base "is_floor" ["thing"] 2 (spD K mg false Cb 1)
abbrev Ye(P:Program)(w:World)(K:Frag)(mg:Str->Option Value)(base:Heap):Prop:=i4 P w K mg base "two_read" ["word"] 2 (spD K mg false Ca 1)
abbrev Zo(P:Program)(w:World)(K:Frag)(mg:Str->Option Value)(base:Heap):Prop:=i4 P w K mg base "room_under" ["top","lines"] 2 (spD K mg false Cj 2)
abbrev ji(P:Program)(w:World)(K:Frag)(mg:Str->Option Value)(base:Heap):Prop:=i4 P w K mg base "corners_read" ["word"] 2 (spD K mg false N1 1)
abbrev Za(P:Program)(w:World)(K:Frag)(mg:Str->Option Value)(base:Heap):Prop:=i4 P w K mg base "_law_many" ["_law_script"] 2 (spD K mg false Y6 1)
abbrev Zn(P:Program)(w:World)(K:Frag)(mg:Str->Option Value)(base:Heap):Prop:=i4 P w K mg base "_law_spoil" ["_law_text","_law_number_here","_law_cell"] 2 (spD K mg false Q1 3)
abbrev Zm(P:Program)(w:World)(K:Frag)(mg:Str->Option Value)(base:Heap):Prop:=i4 P w K mg base "_law_lines" ["_law_words"] 2 (spD K mg false Y9 1)
abbrev jh(P:Program)(w:World)(K:Frag)(mg:Str->Option Value)(base:Heap):Prop:=i4 P w K mg base "_law_is_pair" ["_law_found"] 2 (spD K mg false Q5 1)
abbrev jc(P:Program)(w:World)(K:Frag)(mg:Str->Option Value)(base:Heap):Prop:=i4 P w K mg base "check_floor" ["thing"] 3 (spD K mg false Q3 1)
abbrev Ts(P:Program)(w:World)(K:Frag)(mg:Str->Option Value)(base:Heap):Prop:=i4 P w K mg base "rooms" ["n","lines"] 3 (spD K mg true Bo 2)
abbrev Wv(P:Program)(w:World)(K:Frag)(mg:Str->Option Value)(base:Heap):Prop:=i4 P w K mg base "line_of" ["n","thing"] 3 (spD K mg false X8 2)
abbrev js(P:Program)(w:World)(K:Frag)(mg:Str->Option Value)(base:Heap):Prop:=i4 P w K mg base "check_uncrossed" ["lines"] 3 (spD K mg false Z9 1)
abbrev Yz(P:Program)(w:World)(K:Frag)(mg:Str->Option Value)(base:Heap):Prop:=i4 P w K mg base "line_read" ["word"] 3 (spD K mg false Y5 1)
abbrev Yd(P:Program)(w:World)(K:Frag)(mg:Str->Option Value)(base:Heap):Prop:=i4 P w K mg base "_law_due" ["_law_text"] 3 (spD K mg false D4 1)
abbrev Yy(P:Program)(w:World)(K:Frag)(mg:Str->Option Value)(base:Heap):Prop:=i4 P w K mg base "_law_told" ["_law_answer_here","_law_due_here"] 3 (spD K mg false I0 2)
abbrev Yx(P:Program)(w:World)(K:Frag)(mg:Str->Option Value)(base:Heap):Prop:=i4 P w K mg base "free_line" ["n","lines"] 4 (spD K mg false Y4 2)
abbrev Wu(P:Program)(w:World)(K:Frag)(mg:Str->Option Value)(base:Heap):Prop:=i4 P w K mg base "cutting" ["n","lines"] 5 (spD K mg false J9 2)
abbrev Js(P:Program)(w:World)(K:Frag)(mg:Str->Option Value)(base:Heap):Prop:=i4 P w K mg base "read" ["text"] 6 (spD K mg false B8 1)
abbrev ja(P:Program)(w:World)(K:Frag)(mg:Str->Option Value)(base:Heap):Prop:=i4 P w K mg base "_law_answer" ["_law_text"] 7 (spD K mg false Q2 1)
abbrev Zl(P:Program)(w:World)(K:Frag)(mg:Str->Option Value)(base:Heap):Prop:=i4 P w K mg base "_law_kinds" ["_law_text"] 7 (spD K mg true Q0 1)
section
variable {P:Program}{w:World}{K:Frag}{mg:Str->Option Value}{base:Heap}{f:Addr}{fd:FuncData}{u0 u1 u2 u3 u4 u5 u6 u7 u8 u9 u10 u11 u12 u13 u14 u15 u16 u17:Addr}
def zgs(F:Fun K "is_whole" "is_whole" My f fd)(T:Txt mg)(Z:Exs K mg u0 u1 u2 u3 u4 u5 u6 u7 u8 u9 u10 u11 u12 u13 u14 u15 u16 u17)  : FnOk P w K mg base (CX1 P w) 1 f fd ["thing"] (spD K mg false P9 1):=
 fnD (k:=0) F zgp rfl rfl fun cdv A outer s H E hr=>
  (c7 (g7 (v9 (J3 rfl T.isinstance EQ (qv 0) (G8 (v:=.ty "int") rfl T.int boot_int rfl)) (C8 (Dp (J3 rfl T.isinstance EQ (qv 0) (G8 (v:=.ty "bool") rfl T.bool boot_bool rfl)))))))
def vY(F:Fun K "pair" "pair" Ju f fd)(T:Txt mg)(Z:Exs K mg u0 u1 u2 u3 u4 u5 u6 u7 u8 u9 u10 u11 u12 u13 u14 u15 u16 u17)  : FnOk P w K mg base (CX1 P w) 1 f fd ["a","b"] (spD K mg false Be 2):=
 fnD (k:=0) F vZ rfl rfl fun cdv A outer s H E hr=>
  (c7 (g7 (y35 (n5 m9 n8 (qv 0) (qv 1) (e9 _)) (l8 (a7 (qv 0) (a7 (qv 1) b6))) (l8 (a7 (qv 1) (a7 (qv 0) b6))))))
def zjm(F:Fun K "is_side" "is_side" Mh f fd)(T:Txt mg)(Z:Exs K mg u0 u1 u2 u3 u4 u5 u6 u7 u8 u9 u10 u11 u12 u13 u14 u15 u16 u17)  : FnOk P w K mg base (CX1 P w) 1 f fd ["n","p"] (spD K mg false Bz 2):=
 fnD (k:=0) F sc_is_side rfl rfl fun cdv A outer s H E hr=>
  (c6 (sA 2 sc_is_side.nd (qI hr (qv 1) b7))
   (c6 (sA 3 sc_is_side.nd (qI hr (qv 1) b7))
   (c6 (i8 (QW.pt (B0 (n5 m9 n8 (qv 2) b7 (e9 _)) (E6 (n5 y6u y2w (qv 3) (qv 0) (e9 _)))))
    (c7 (g7 D8))
    i9)
   (c7 (g7 (Pq (n6 (z8 hr.units) z7 (qv 3) (d9 t9 v5 (qv 2) b7) (e9 _)) (C8 (v9 (n6 (z8 hr.units) z7 (qv 2) b7 (e9 _)) (C8 (n6 (z8 hr.units) z7 (qv 3) (d9 M1 M3 (qv 0) b7) (e9 _)))))))))))
def yi(F:Fun K "cross" "cross" Ko f fd)(T:Txt mg)(Z:Exs K mg u0 u1 u2 u3 u4 u5 u6 u7 u8 u9 u10 u11 u12 u13 u14 u15 u16 u17)  : FnOk P w K mg base (CX1 P w) 1 f fd ["p","other"] (spD K mg false Bp 2):=
 fnD (k:=0) F sc_cross rfl rfl fun cdv A outer s H E hr=>
  (c6 (sA 2 sc_cross.nd (qI hr (qv 0) b7))
   (c6 (sA 3 sc_cross.nd (qI hr (qv 0) b7))
   (c6 (sA 4 sc_cross.nd (qI hr (qv 1) b7))
   (c6 (sA 5 sc_cross.nd (qI hr (qv 1) b7))
   (c7 (g7 (Pq (Ar (qv 2) (O9 m9 n8 (qv 4) (O9 m9 n8 (qv 3) (Bi m9 n8 (qv 5))))) (C8 (Ar (qv 4) (O9 m9 n8 (qv 2) (O9 m9 n8 (qv 5) (Bi m9 n8 (qv 3)))))))))))))
def zd9(F:Fun K "is_figures" "is_figures" Oe f fd)(T:Txt mg)(Z:Exs K mg u0 u1 u2 u3 u4 u5 u6 u7 u8 u9 u10 u11 u12 u13 u14 u15 u16 u17)  : FnOk P w K mg base (CX1 P w) 1 f fd ["word","most"] (spD K mg false Z4 2):=
 fnD (k:=0) F zd8 rfl rfl fun cdv A outer s H E hr=>
  (c6 (i8 (y8 (y37 b7 (wR N7 O1 (qL T.len (qv 0)) (wS N7 O1 (qv 1)))))
    (c7 (g7 D8))
    i9)
   (c6 (i8 (QW.pt (As (n5 N6 P0 (qL T.len (qv 0)) b7 (e9 _)) (Do (tE hr (qI hr (qv 0) b7) e8 (e9 _)))))
    (c7 (g7 D8))
    i9)
   (c7 (g7 (w6 (Ax rfl) Bh rfl T.«all» boot_all (a7 (QE.wk (N5 (C2 (caps:=[]) (ix:=[]) rfl rfl) (by decide +kernel) rfl (Rs (qv 0)) .nil (fun _ _ _=>(n6 kY Ru (qv 0) e8 (by with_unfolding_all rfl))))) b6))))))
def z95(F:Fun K "corner_behind" "corner_behind" Oy f fd)(T:Txt mg)(Z:Exs K mg u0 u1 u2 u3 u4 u5 u6 u7 u8 u9 u10 u11 u12 u13 u14 u15 u16 u17)  : FnOk P w K mg base (CX1 P w) 1 f fd ["corner","top","lines"] (spD K mg false Ck 3):=
 fnD (k:=0) F sc_corner_behind rfl rfl fun cdv A outer s H E hr=>
  (c6 (Po sc_corner_behind.nd (k:=3) rfl rfl (C2 (caps:=["corner","top"]) (ix:=[0,1]) rfl rfl) (by decide +kernel) rfl (y6 (qv 2)) (.one fun _ _ _=>(QW.pt (As (tE hr (qI hr (qv 0) b7) (qv 1) (e9 _)) (As (n5 N7 O1 (qI hr (qv 0) b7) (qI hr (qv 2) b7) (e9 _)) (Do (tN hr (qv 0) (qv 2) (e9 _))))))) (fun _ _ _=>(qI hr (qv 0) b7)))
   (c7 (g7 (qo rfl rfl T.«max» boot_max (qv 3) (d9 t9 v5 (qv 0) b7)))))
def zfb(F:Fun K "_law_pick" "_law_pick" Nn f fd)(T:Txt mg)(Z:Exs K mg u0 u1 u2 u3 u4 u5 u6 u7 u8 u9 u10 u11 u12 u13 u14 u15 u16 u17)  : FnOk P w K mg base (CX1 P w) 1 f fd ["_law_script","_law_k"] (spD K mg false p7 2):=
 fnD (k:=0) F zf6 rfl rfl fun cdv A outer s H E hr=>
  (c6 (i8 (n5 m9 n8 (qv 1) (qL T.len (qv 0)) (e9 _))
    (c7 (g7 (qI hr (qv 0) (qv 1))))
    i9)
   (c7 (g7 b7)))
def z88(F:Fun K "_law_is_number" "_law_is_number" Pa f fd)(T:Txt mg)(Z:Exs K mg u0 u1 u2 u3 u4 u5 u6 u7 u8 u9 u10 u11 u12 u13 u14 u15 u16 u17)  : FnOk P w K mg base (CX1 P w) 1 f fd ["_law_found"] (spD K mg false Z8 1):=
 fnD (k:=0) F z86 rfl rfl fun cdv A outer s H E hr=>
  (c7 (g7 (v9 (J3 rfl T.isinstance EQ (qv 0) (G8 (v:=.ty "int") rfl T.int boot_int rfl)) (C8 (Dp (J3 rfl T.isinstance EQ (qv 0) (G8 (v:=.ty "bool") rfl T.bool boot_bool rfl)))))))
def zb0(F:Fun K "_law_stream" "_law_stream" Oi f fd)(T:Txt mg)(Z:Exs K mg u0 u1 u2 u3 u4 u5 u6 u7 u8 u9 u10 u11 u12 u13 u14 u15 u16 u17)  : FnOk P w K mg base (CX1 P w) 1 f fd ["_law_cells","_law_many_here"] (spD K mg true Z5 2):=
 fnD (k:=0) F sc__law_stream rfl rfl fun cdv A outer s H E hr=>
  (c6 (sA 2 sc__law_stream.nd (o4 b6))
   (c6 (sA 3 sc__law_stream.nd b7)
   (c6 (O0 GP rfl (y77 rfl T.range (a7 (qv 1) b6)) (g_n (i:=4) sc__law_stream.nd rfl (Or.inl rfl))
    (c6 (sA 3 sc__law_stream.nd (d9 m7 m8 (d9 t9 v5 (d9 t9 v5 (d9 Az Bj (qv 3) b7) (d9 Az Bj (qv 4) (qv 4))) b7) b7))
   (c6 (i8 (n5 m9 n8 (qv 4) (qL T.len (qv 0)) (e9 _))
    (c7 (sA 3 sc__law_stream.nd (d9 m7 m8 (d9 t9 v5 (qv 3) (qI hr (qv 0) (qv 4))) b7)))
    i9)
   (c7 (V5 FU HJ HI S3 Bg P5 (pw 2) (a7 (qv 3) b6))))))
   (c7 (Kf (i:=2))))))
def zda(F:Fun K "_law_grown" "_law_grown" Ob f fd)(T:Txt mg)(Z:Exs K mg u0 u1 u2 u3 u4 u5 u6 u7 u8 u9 u10 u11 u12 u13 u14 u15 u16 u17)  : FnOk P w K mg base (CX1 P w) 1 f fd ["_law_stream_here"] (spD K mg false Z3 1):=
 fnD (k:=0) F sc__law_grown rfl rfl fun cdv A outer s H E hr=>
  (c6 (sA 1 sc__law_grown.nd b7)
   (c6 (sA 2 sc__law_grown.nd (o4 b6))
   (c6 (O0 GP rfl (y6 (qv 0)) (g_n (i:=3) sc__law_grown.nd rfl (Or.inl rfl))
    (c6 (sA 4 sc__law_grown.nd (d9 m7 m8 (qv 3) (qv 1)))
   (c6 (y79 sc__law_grown.nd (k:=2) rfl rfl (C2 (caps:=["_law_at"]) (ix:=[4]) rfl rfl) (by decide +kernel) rfl rfl (y6 (qv 2)) .nil (fun _ _ _=>(l8 (a7 (d9 t9 v5 (qv 0) (C7 Hu Kg rfl T.int boot_int (a7 (n6 N6 P0 (qv 0) (qv 2) (e9 _)) b6))) (a7 (d9 t9 v5 (qv 1) (C7 Hu Kg rfl T.int boot_int (a7 (n6 N6 P0 (qv 1) (qv 2) (e9 _)) b6))) b6)))))
   (c6 (i8 (tE hr (qv 4) (d9 M1 M3 (qv 1) b7) (e9 _))
    (c7 (V5 FU HJ HI S3 Bg P5 (pw 2) (a7 (l8 (a7 b7 (a7 (qv 4) b6))) b6)))
    (c7 (V5 FU HJ HI S3 Bg P5 (pw 2) (a7 (l8 (a7 (qv 4) (a7 (d9 t9 v5 (qv 4) b7) b6))) b6))))
   (c7 (sA 1 sc__law_grown.nd (d9 t9 v5 (qv 1) b7)))))))
   (c7 (g7 (l8 (a7 (qv 1) (a7 (qv 2) b6))))))))
def zdb(F:Fun K "_law_mixed" "_law_mixed" Oa f fd)(T:Txt mg)(Z:Exs K mg u0 u1 u2 u3 u4 u5 u6 u7 u8 u9 u10 u11 u12 u13 u14 u15 u16 u17)  : FnOk P w K mg base (CX1 P w) 1 f fd ["_law_stream_here","_law_lines_here"] (spD K mg true Z1 2):=
 fnD (k:=0) F sc__law_mixed rfl rfl fun cdv A outer s H E hr=>
  (c6 (sA 2 sc__law_mixed.nd (o4 b6))
   (c6 (O0 GP rfl (Pp rfl T.enumerate (a7 (qv 1) b6)) (g_t rfl (P6 (i:=3) sc__law_mixed.nd rfl (Or.inl rfl) (P6 (i:=4) sc__law_mixed.nd rfl (Or.inl rfl) Dm)))
    (c6 (sA 5 sc__law_mixed.nd (d9 m7 m8 (d9 t9 v5 (d9 t9 v5 (d9 Az Bj (qI hr (qv 0) (qv 3)) b7) (d9 Az Bj (d9 Az Bj (qv 3) (qv 3)) b7)) b7) b7))
   (c7 (V5 FU IV PySem.F.type_list_insert Xl Sh P5 (pw 2) (a7 (d9 m7 m8 (qv 5) (d9 t9 v5 (qL T.len (qv 2)) b7)) (a7 (qI hr (QE.wk (o4 (a7 (qv 4) (a7 (l8 (a7 (qI hr (qv 4) b7) (a7 (qI hr (qv 4) b7) b6))) b6)))) (d9 m7 m8 (d9 W4 W3 (qv 5) b7) b7)) b6))))))
   (c7 (Kf (i:=2)))))
def zfc(F:Fun K "_law_sign" "_law_sign" Nl f fd)(T:Txt mg)(Z:Exs K mg u0 u1 u2 u3 u4 u5 u6 u7 u8 u9 u10 u11 u12 u13 u14 u15 u16 u17)  : FnOk P w K mg base (CX1 P w) 1 f fd ["_law_number_here"] (spD K mg false Cf 1):=
 fnD (k:=0) F sc__law_sign rfl rfl fun cdv A outer s H E hr=>
  (c6 (sA 1 sc__law_sign.nd e8)
   (c6 (sA 1 sc__law_sign.nd (d9 G4 G6 (qv 1) e8))
   (c6 (i8 (n5 N6 P0 (d9 m7 m8 (qv 0) b7) b7 (e9 _))
    (c7 (sA 1 sc__law_sign.nd e8))
    i9)
   (c7 (g7 (qI hr (qv 1) (d9 m7 m8 (d9 W4 W3 (qv 0) b7) (qL T.len (qv 1)))))))))
def zgt(F:Fun K "_law_odd" "_law_odd" Mv f fd)(T:Txt mg)(Z:Exs K mg u0 u1 u2 u3 u4 u5 u6 u7 u8 u9 u10 u11 u12 u13 u14 u15 u16 u17)  : FnOk P w K mg base (CX1 P w) 1 f fd ["_law_number_here"] (spD K mg false Y1 1):=
 fnD (k:=0) F sc__law_odd rfl rfl fun cdv A outer s H E hr=>
  (c6 (sA 1 sc__law_odd.nd (o4 (a7 e8 (a7 e8 (a7 e8 (a7 e8 (a7 e8 (a7 e8 (a7 e8 (a7 e8 (a7 e8 (a7 e8 (a7 e8 (a7 e8 (a7 e8 b6)))))))))))))))
   (c6 (sA 1 sc__law_odd.nd (d9 M4 M2 (qv 1) (QE.wk (o4 (a7 e8 (a7 e8 (a7 e8 (a7 e8 (a7 e8 (a7 e8 (a7 e8 (a7 e8 (a7 e8 (a7 e8 b6))))))))))))))
   (c6 (sA 1 sc__law_odd.nd (d9 M4 M2 (qv 1) (QE.wk (o4 (a7 e8 (a7 e8 (a7 e8 (a7 e8 (a7 e8 (a7 e8 (a7 e8 b6)))))))))))
   (c6 (sA 1 sc__law_odd.nd (d9 M4 M2 (qv 1) (QE.wk (o4 (a7 e8 (a7 e8 (a7 e8 (a7 e8 b6))))))))
   (c7 (g7 (qI hr (qv 1) (d9 m7 m8 (qv 0) b7))))))))
def zdc(F:Fun K "_law_thing" "_law_thing" Ny f fd)(T:Txt mg)(Z:Exs K mg u0 u1 u2 u3 u4 u5 u6 u7 u8 u9 u10 u11 u12 u13 u14 u15 u16 u17)  : FnOk P w K mg base (CX1 P w) 1 f fd ["_law_text","_law_number_here"] (spD K mg false Z0 2):=
 fnD (k:=0) F sc__law_thing rfl rfl fun cdv A outer s H E hr=>
  (c6 (sA 2 sc__law_thing.nd (o4 (a7 V6 (a7 b7 (a7 D8 (a7 (QE.wk (o4 (a7 (qv 0) b6))) (a7 (l8 (a7 (qv 0) b6)) (a7 (QE.wk qB) (a7 b7 (a7 (QE.wk (o4 (a7 b7 (a7 (QE.wk (o4 (a7 b7 (a7 b7 b6)))) b6)))) b6))))))))))
   (c7 (g7 (qI hr (qv 2) (d9 m7 m8 (qv 1) b7)))))
def zgu(F:Fun K "_law_put" "_law_put" Mu f fd)(T:Txt mg)(Z:Exs K mg u0 u1 u2 u3 u4 u5 u6 u7 u8 u9 u10 u11 u12 u13 u14 u15 u16 u17)  : FnOk P w K mg base (CX1 P w) 1 f fd ["_law_n","_law_some","_law_a","_law_number_here"] (Cn K Y0 4):=
 y7e (k:=0) F zgr rfl rfl fun cdv A outer s H E hr=>
  (Dj (jM (QW.pt (As (tE hr (d9 m7 m8 (qv 3) b7) b7 (e9 _)) (Do (tN hr (qv 1) (QE.wk (o4 b6)) (e9 _)))))
   (Dj (qh FU PySem.F.slot_list_pop PySem.F.type_list_pop zc y03 P5 (pw 1) (a7 (d9 m7 m8 (qv 2) (qL T.len (qv 1))) b6)))
   (Dj (jM (n5 N6 P0 (qv 0) b7 (e9 _))
   (Dj (qh FU IV PySem.F.type_list_insert Xl Sh P5 (pw 1) (a7 (d9 m7 m8 (qv 2) (d9 t9 v5 (qL T.len (qv 1)) b7)) (a7 (l8 (a7 (d9 m7 m8 (qv 2) (qv 0)) (a7 (d9 m7 m8 (d9 t9 v5 (d9 t9 v5 (qv 2) b7) (d9 m7 m8 (d9 W4 W3 (qv 3) b7) (d9 M1 M3 (qv 0) b7))) (qv 0)) b6))) b6))))
   y07))))
def zb1(F:Fun K "_law_number" "_law_number" Oh f fd)(T:Txt mg)(Z:Exs K mg u0 u1 u2 u3 u4 u5 u6 u7 u8 u9 u10 u11 u12 u13 u14 u15 u16 u17)  : FnOk P w K mg base (CX1 P w) 1 f fd ["_law_figures"] (spD K mg false Q4 1):=
 fnD (k:=0) F zaz rfl rfl fun cdv A outer s H E hr=>
  (c6 (i8 (QW.pt (B0 (tE hr (qL T.len (qv 0)) b7 (e9 _)) (B0 (n5 N6 P0 (qL T.len (qv 0)) b7 (e9 _)) (E6 (QW.pt (As (tE hr (qL T.len (qv 0)) b7 (e9 _)) (Do (tE hr (qI hr (qv 0) b7) e8 (e9 _)))))))))
    (c7 (g7 (T4 V8 W2 b7)))
    i9)
   (c6 (i8 (y8 (x4 (w6 (Ax rfl) Bh rfl T.«all» boot_all (a7 (QE.wk (N5 (C2 (caps:=[]) (ix:=[]) rfl rfl) (by decide +kernel) rfl (Rs (qv 0)) .nil (fun _ _ _=>(n6 kY Ru (qv 0) e8 (by with_unfolding_all rfl))))) b6))))
    (c7 (g7 (T4 V8 W2 b7)))
    i9)
   (c7 (g7 (C7 Di Ea rfl T.int boot_int (a7 (qv 0) b6))))))
def zao(F:Fun K "_law_is_line" "_law_is_line" Ou f fd)(T:Txt mg)(Z:Exs K mg u0 u1 u2 u3 u4 u5 u6 u7 u8 u9 u10 u11 u12 u13 u14 u15 u16 u17)  : FnOk P w K mg base (CX1 P w) 1 f fd ["_law_n","_law_thing_here"] (spD K mg false S6 2):=
 fnD (k:=0) F sc__law_is_line rfl rfl fun cdv A outer s H E hr=>
  (c6 (sA 2 sc__law_is_line.nd (w6 (Sa rfl) Uc rfl T.«min» boot_min (a7 (qv 1) b6)))
   (c6 (sA 3 sc__law_is_line.nd (d9 M1 M3 (w6 (Jx rfl) Ks rfl T.«max» boot_max (a7 (qv 1) b6)) (qv 2)))
   (c7 (g7 (v9 (n6 N7 O1 b7 (qv 2) (e9 _)) (v9 (n6 m9 n8 (w6 (Jx rfl) Ks rfl T.«max» boot_max (a7 (qv 1) b6)) (qv 0) (e9 _)) (v9 (n6 N7 O1 b7 (qv 3) (e9 _)) (C8 (n6 m9 n8 (qv 3) (d9 M1 M3 (qv 0) b7) (e9 _))))))))))
def zfd(F:Fun K "_law_meet" "_law_meet" Nk f fd)(T:Txt mg)(Z:Exs K mg u0 u1 u2 u3 u4 u5 u6 u7 u8 u9 u10 u11 u12 u13 u14 u15 u16 u17)  : FnOk P w K mg base (CX1 P w) 1 f fd ["_law_one","_law_other"] (spD K mg false Y7 2):=
 fnD (k:=0) F sc__law_meet rfl rfl fun cdv A outer s H E hr=>
  (c6 (sA 2 sc__law_meet.nd (w6 (y2f rfl) qF rfl T.sum boot_sum (a7 (QE.wk (N5 (C2 (caps:=["_law_one"]) (ix:=[0]) rfl rfl) (by decide +kernel) rfl (y6 (qv 1)) .nil (fun _ _ _=>(C7 Hu Kg rfl T.int boot_int (a7 (Ar (qI hr (qv 1) b7) (O9 m9 n8 (qv 0) (Bi m9 n8 (qI hr (qv 1) b7)))) b6))))) b6)))
   (c7 (g7 (Pq (n6 (z8 hr.units) z7 (qv 0) (qv 1) (e9 _)) (C8 (v9 (n6 (z8 hr.units) z7 (qv 2) b7 (e9 _)) (v9 (n6 (Wj hr.units) Qj (qI hr (qv 0) b7) (qv 1) (by with_unfolding_all rfl)) (C8 (n6 (Wj hr.units) Qj (qI hr (qv 0) b7) (qv 1) (by with_unfolding_all rfl))))))))))
def zjn(F:Fun K "is_line" "is_line" Mg f fd)(T:Txt mg)(Z:Exs K mg u0 u1 u2 u3 u4 u5 u6 u7 u8 u9 u10 u11 u12 u13 u14 u15 u16 u17)(cQ:Wx P w K mg base):FnOk P w K mg base (CX1 P w) 2 f fd ["n","p"] (spD K mg false By 2):=
 fnD (k:=1) F zjl rfl rfl fun cdv A outer s H E hr=>
  (c7 (g7 (v9 (Ar b7 (O9 N7 O1 (qI hr (qv 1) b7) (O9 m9 n8 (qI hr (qv 1) b7) (Bi m9 n8 (qv 0))))) (C8 (Dp (g9 g8 cQ hr rfl (a7 (qv 0) (a7 (qv 1) b6))))))))
def zp(F:Fun K "is_two" "is_two" Li f fd)(T:Txt mg)(Z:Exs K mg u0 u1 u2 u3 u4 u5 u6 u7 u8 u9 u10 u11 u12 u13 u14 u15 u16 u17)(aJ:Ms P w K mg base):FnOk P w K mg base (CX1 P w) 2 f fd ["thing"] (spD K mg false Bu 1):=
 fnD (k:=1) F zq rfl rfl fun cdv A outer s H E hr=>
  (c7 (g7 (v9 (J3 rfl T.isinstance EQ (qv 0) (G8 (v:=.ty "tuple") rfl T.tuple boot_tuple rfl)) (v9 (n6 (z8 hr.units) z7 (qL T.len (qv 0)) b7 (e9 _)) (v9 (g9 g8 aJ hr rfl (a7 (qI hr (qv 0) b7) b6)) (C8 (g9 g8 aJ hr rfl (a7 (qI hr (qv 0) b7) b6))))))))
def zgv(F:Fun K "is_floor" "is_floor" Mx f fd)(T:Txt mg)(Z:Exs K mg u0 u1 u2 u3 u4 u5 u6 u7 u8 u9 u10 u11 u12 u13 u14 u15 u16 u17)(aJ:Ms P w K mg base):FnOk P w K mg base (CX1 P w) 2 f fd ["thing"] (spD K mg false Cb 1):=
 fnD (k:=1) F zgq rfl rfl fun cdv A outer s H E hr=>
  (c7 (g7 (v9 (g9 g8 aJ hr rfl (a7 (qv 0) b6)) (C8 (Ar b7 (O9 N7 O1 (qv 0) (Bi N7 O1 b7)))))))
def zgw(F:Fun K "two_read" "two_read" Mw f fd)(T:Txt mg)(Z:Exs K mg u0 u1 u2 u3 u4 u5 u6 u7 u8 u9 u10 u11 u12 u13 u14 u15 u16 u17)(aI:Nu P w K mg base):FnOk P w K mg base (CX1 P w) 2 f fd ["word"] (spD K mg false Ca 1):=
 fnD (k:=1) F sc_two_read rfl rfl fun cdv A outer s H E hr=>
  (c6 (sA 1 sc_two_read.nd (Q7 Il PySem.F.type_str_split Lk Lj (qv 0) (a7 e8 b6)))
   (c6 (i8 (QW.pt (B0 (tN hr (qL T.len (qv 1)) b7 (e9 _)) (E6 (y8 (x4 (w6 (Ax rfl) Bh rfl T.«all» boot_all (a7 (QE.wk (N5 (C2 (caps:=[]) (ix:=[]) rfl rfl) (by decide +kernel) rfl (y6 (qv 1)) .nil (fun _ _ _=>(g9 T8 aI hr rfl (a7 (qv 0) (a7 b7 b6)))))) b6)))))))
    (c7 (g7 V6))
    i9)
   (c7 (g7 (l8 (a7 (C7 Di Ea rfl T.int boot_int (a7 (qI hr (qv 1) b7) b6)) (a7 (C7 Di Ea rfl T.int boot_int (a7 (qI hr (qv 1) b7) b6)) b6)))))))
def zdd(F:Fun K "room_under" "room_under" Od f fd)(T:Txt mg)(Z:Exs K mg u0 u1 u2 u3 u4 u5 u6 u7 u8 u9 u10 u11 u12 u13 u14 u15 u16 u17)(ba:jq P w K mg base):FnOk P w K mg base (CX1 P w) 2 f fd ["top","lines"] (spD K mg false Cj 2):=
 fnD (k:=1) F sc_room_under rfl rfl fun cdv A outer s H E hr=>
  (c6 (sA 2 sc_room_under.nd (o4 (a7 (qI hr (qv 0) b7) b6)))
   (c6 (wL (n:=1000) GP (n5 m9 n8 (qI hr (qv 2) (T4 V8 W2 b7)) (qI hr (qv 0) b7) (e9 _))
    (c7 (V5 FU HJ HI S3 Bg P5 (pw 2) (a7 (g9 g8 ba hr rfl (a7 (qI hr (qv 2) (T4 V8 W2 b7)) (a7 (qv 0) (a7 (qv 1) b6)))) b6))))
   (c7 (g7 (C7 Ls Lr rfl T.tuple boot_tuple (a7 (qv 2) b6))))))
def zap(F:Fun K "corners_read" "corners_read" Ov f fd)(T:Txt mg)(Z:Exs K mg u0 u1 u2 u3 u4 u5 u6 u7 u8 u9 u10 u11 u12 u13 u14 u15 u16 u17)(aI:Nu P w K mg base):FnOk P w K mg base (CX1 P w) 2 f fd ["word"] (spD K mg false N1 1):=
 fnD (k:=1) F zah rfl rfl fun cdv A outer s H E hr=>
  (c6 (i8 (QW.pt (B0 (y8 (x4 (Q7 PySem.F.slot_str_endswith PySem.F.type_str_endswith wg wf (qv 0) (a7 e8 b6)))) (E6 (y8 (x4 (g9 g8 aI hr rfl (a7 (x6 F1 E9 (qv 0) x9 (x8 (T4 V8 W2 b7))) (a7 b7 b6))))))))
    (c7 (X0 (c:="NoText") g8 FW rfl rfl Z.a_NoText Z.q_NoText (a7 e8 b6)))
    i9)
   (c7 (g7 (C7 Di Ea rfl T.int boot_int (a7 (x6 F1 E9 (qv 0) x9 (x8 (T4 V8 W2 b7))) b6)))))
def zfe(F:Fun K "_law_many" "_law_many" Nm f fd)(T:Txt mg)(Z:Exs K mg u0 u1 u2 u3 u4 u5 u6 u7 u8 u9 u10 u11 u12 u13 u14 u15 u16 u17)(am:Ni P w K mg base):FnOk P w K mg base (CX1 P w) 2 f fd ["_law_script"] (spD K mg false Y6 1):=
 fnD (k:=1) F sc__law_many rfl rfl fun cdv A outer s H E hr=>
  (c6 (sA 1 sc__law_many.nd (g9 g8 am hr rfl (a7 (qv 0) (a7 b7 b6))))
   (c6 (i8 (tE hr (d9 m7 m8 (qv 1) b7) b7 (e9 _))
    (c7 (g7 (d9 m7 m8 (d9 W4 W3 (qv 1) b7) b7)))
    i9)
   (c6 (i8 (tE hr (d9 m7 m8 (qv 1) b7) b7 (e9 _))
    (c7 (g7 (d9 m7 m8 (d9 W4 W3 (qv 1) b7) b7)))
    i9)
   (c7 (g7 (w6 (qX rfl) wO rfl T.«min» boot_min (a7 b7 (a7 (w6 (qY rfl) wP rfl T.«max» boot_max (a7 b7 (a7 (d9 M1 M3 (qL T.len (qv 0)) b7) b6))) b6))))))))
def zde(F:Fun K "_law_spoil" "_law_spoil" Nz f fd)(T:Txt mg)(Z:Exs K mg u0 u1 u2 u3 u4 u5 u6 u7 u8 u9 u10 u11 u12 u13 u14 u15 u16 u17)(bS:Zb P w K mg base):FnOk P w K mg base (CX1 P w) 2 f fd ["_law_text","_law_number_here","_law_cell"] (spD K mg false Q1 3):=
 fnD (k:=1) F sc__law_spoil rfl rfl fun cdv A outer s H E hr=>
  (c6 (sA 3 sc__law_spoil.nd (d9 m7 m8 (qv 2) (d9 t9 v5 (qL T.len (qv 0)) b7)))
   (c6 (sA 4 sc__law_spoil.nd (g9 g8 bS hr rfl (a7 (d9 W4 W3 (qv 1) b7) b6)))
   (c6 (i8 (tE hr (d9 m7 m8 (qv 1) b7) b7 (e9 _))
    (c7 (g7 (d9 G4 G6 (d9 G4 G6 (x6 F1 E9 (qv 0) x9 (x8 (qv 3))) (qv 4)) (x6 F1 E9 (qv 0) (x8 (qv 3)) x9))))
    i9)
   (c6 (i8 (tE hr (d9 m7 m8 (qv 1) b7) b7 (e9 _))
    (c7 (g7 (d9 G4 G6 (x6 F1 E9 (qv 0) x9 (x8 (qv 3))) (x6 F1 E9 (qv 0) (x8 (d9 t9 v5 (qv 3) b7)) x9))))
    i9)
   (c7 (g7 (d9 G4 G6 (d9 G4 G6 (x6 F1 E9 (qv 0) x9 (x8 (qv 3))) (qv 4)) (x6 F1 E9 (qv 0) (x8 (d9 t9 v5 (qv 3) b7)) x9))))))))
def zdf(F:Fun K "_law_lines" "_law_lines" Nw f fd)(T:Txt mg)(Z:Exs K mg u0 u1 u2 u3 u4 u5 u6 u7 u8 u9 u10 u11 u12 u13 u14 u15 u16 u17)(az:Of P w K mg base):FnOk P w K mg base (CX1 P w) 2 f fd ["_law_words"] (spD K mg false Y9 1):=
 fnD (k:=1) F sc__law_lines rfl rfl fun cdv A outer s H E hr=>
  (c6 (sA 1 sc__law_lines.nd (o4 b6))
   (c6 (O0 GP rfl (y6 (qv 0)) (g_n (i:=2) sc__law_lines.nd rfl (Or.inl rfl))
    (c6 (sA 3 sc__law_lines.nd (Q7 PySem.F.slot_str_find PySem.F.type_str_find Ty Tw (qv 2) (a7 e8 b6)))
   (c6 (i8 (n5 m9 n8 (qv 3) b7 (e9 _))
    (c7 (g7 V6))
    i9)
   (c6 (sA 4 sc__law_lines.nd (g9 g8 az hr rfl (a7 (x6 F1 E9 (qv 2) x9 (x8 (qv 3))) b6)))
   (c6 (sA 5 sc__law_lines.nd (g9 g8 az hr rfl (a7 (x6 F1 E9 (qv 2) (x8 (d9 t9 v5 (qv 3) b7)) x9) b6)))
   (c6 (i8 (QW.pt (B0 (n5 m9 n8 (qv 4) b7 (e9 _)) (E6 (n5 m9 n8 (qv 5) b7 (e9 _)))))
    (c7 (g7 V6))
    i9)
   (c7 (V5 FU HJ HI S3 Bg P5 (pw 1) (a7 (l8 (a7 (qv 4) (a7 (qv 5) b6))) b6)))))))))
   (c7 (g7 (qv 1)))))
def zaq(F:Fun K "_law_is_pair" "_law_is_pair" Ot f fd)(T:Txt mg)(Z:Exs K mg u0 u1 u2 u3 u4 u5 u6 u7 u8 u9 u10 u11 u12 u13 u14 u15 u16 u17)(ar:Oz P w K mg base):FnOk P w K mg base (CX1 P w) 2 f fd ["_law_found"] (spD K mg false Q5 1):=
 fnD (k:=1) F zai rfl rfl fun cdv A outer s H E hr=>
  (c6 (i8 (QW.pt (B0 (y8 (x4 (J3 rfl T.isinstance EQ (qv 0) (G8 (v:=.ty "tuple") rfl T.tuple boot_tuple rfl)))) (E6 (tN hr (qL T.len (qv 0)) b7 (e9 _)))))
    (c7 (g7 D8))
    i9)
   (c7 (g7 (v9 (g9 g8 ar hr rfl (a7 (qI hr (qv 0) b7) b6)) (v9 (g9 g8 ar hr rfl (a7 (qI hr (qv 0) b7) b6)) (C8 (n6 m9 n8 (qI hr (qv 0) b7) (qI hr (qv 0) b7) (e9 _))))))))
def zb2(F:Fun K "check_floor" "check_floor" Oj f fd)(T:Txt mg)(Z:Exs K mg u0 u1 u2 u3 u4 u5 u6 u7 u8 u9 u10 u11 u12 u13 u14 u15 u16 u17)(cq:Yg P w K mg base):FnOk P w K mg base (CX1 P w) 3 f fd ["thing"] (spD K mg false Q3 1):=
 fnD (k:=2) F zay rfl rfl fun cdv A outer s H E hr=>
  (c7 (i8 (y8 (x4 (g9 g8 cq hr rfl (a7 (qv 0) b6))))
   (c7 (X0 (c:="NoFloor") g8 FW rfl rfl Z.a_NoFloor Z.q_NoFloor (a7 e8 b6)))
   i9))
def yh(F:Fun K "rooms" "rooms" Kn f fd)(T:Txt mg)(Z:Exs K mg u0 u1 u2 u3 u4 u5 u6 u7 u8 u9 u10 u11 u12 u13 u14 u15 u16 u17)(bF:Zo P w K mg base):FnOk P w K mg base (CX1 P w) 3 f fd ["n","lines"] (spD K mg true Bo 2):=
 fnD (k:=2) F sc_rooms rfl rfl fun cdv A outer s H E hr=>
  (c6 (sA 2 sc_rooms.nd (d9 M4 M2 (QE.wk (o4 (a7 (l8 (a7 b7 (a7 (d9 M1 M3 (qv 0) b7) b6))) b6))) (QE.wk (C7 wN wM rfl T.list boot_list (a7 (qv 1) b6)))))
   (c7 (g7 (w6 (Kq rfl hr.units) Ll rfl T.sorted boot_sorted (a7 (QE.wk (N5 (C2 (caps:=["lines"]) (ix:=[1]) rfl rfl) (by decide +kernel) rfl (y6 (qv 2)) .nil (fun _ _ _=>(g9 T8 bF hr rfl (a7 (qv 0) (a7 (qv 1) b6)))))) b6)))))
def zjo(F:Fun K "line_of" "line_of" Me f fd)(T:Txt mg)(Z:Exs K mg u0 u1 u2 u3 u4 u5 u6 u7 u8 u9 u10 u11 u12 u13 u14 u15 u16 u17)(cR:Ww P w K mg base)(dB:Vu P w K mg base)(eQ:Rp P w K mg base):FnOk P w K mg base (CX1 P w) 3 f fd ["n","thing"] (spD K mg false X8 2):=
 fnD (k:=2) F sc_line_of rfl rfl fun cdv A outer s H E hr=>
  (c6 (i8 (y8 (x4 (g9 g8 dB hr rfl (a7 (qv 1) b6))))
    (c7 (X0 (c:="NoLine") g8 FW rfl rfl Z.a_NoLine Z.q_NoLine (a7 e8 b6)))
    i9)
   (c6 (sA 2 sc_line_of.nd (g9 g8 eQ hr rfl (a7 (qI hr (qv 1) b7) (a7 (qI hr (qv 1) b7) b6))))
   (c6 (i8 (y8 (x4 (g9 g8 cR hr rfl (a7 (qv 0) (a7 (qv 2) b6)))))
    (c7 (X0 (c:="NoLine") g8 FW rfl rfl Z.a_NoLine Z.q_NoLine (a7 e8 b6)))
    i9)
   (c7 (g7 (qv 2))))))
def z7k(F:Fun K "check_uncrossed" "check_uncrossed" Pb f fd)(T:Txt mg)(Z:Exs K mg u0 u1 u2 u3 u4 u5 u6 u7 u8 u9 u10 u11 u12 u13 u14 u15 u16 u17)(dQ:Tt P w K mg base)(cT:Ini P w K mg base u0 ["one","other"] 1):FnOk P w K mg base (CX1 P w) 3 f fd ["lines"] (spD K mg false Z9 1):=
 fnD (k:=2) F sc_check_uncrossed rfl rfl fun cdv A outer s H E hr=>
  (c7 (O0 GP rfl (Pp rfl T.enumerate (a7 (qv 0) b6)) (g_t rfl (P6 (i:=1) sc_check_uncrossed.nd rfl (Or.inl rfl) (P6 (i:=2) sc_check_uncrossed.nd rfl (Or.inl rfl) Dm)))
   (c7 (O0 GP rfl (y6 (QE.wk (x6 Bt Bs (qv 0) x9 (x8 (qv 1))))) (g_n (i:=3) sc_check_uncrossed.nd rfl (Or.inl rfl))
   (c7 (i8 (QW.pt (B0 (tE hr (qv 3) (qv 2) (e9 _)) (E6 (x4 (g9 g8 dQ hr rfl (a7 (qv 3) (a7 (qv 2) b6)))))))
   (c7 (Wa (c:="Crossed") g8 rfl rfl Z.a_Crossed rfl (by decide) Z.i_Crossed cT hr (a7 (qv 3) (a7 (qv 2) b6))))
   i9))))))
def zff(F:Fun K "line_read" "line_read" No f fd)(T:Txt mg)(Z:Exs K mg u0 u1 u2 u3 u4 u5 u6 u7 u8 u9 u10 u11 u12 u13 u14 u15 u16 u17)(cr:Ye P w K mg base):FnOk P w K mg base (CX1 P w) 3 f fd ["word"] (spD K mg false Y5 1):=
 fnD (k:=2) F sc_line_read rfl rfl fun cdv A outer s H E hr=>
  (c6 (sA 1 sc_line_read.nd (g9 g8 cr hr rfl (a7 (qv 0) b6)))
   (c6 (i8 (n5 Td Sg (qv 1) V6 (e9 _))
    (c7 (X0 (c:="NoText") g8 FW rfl rfl Z.a_NoText Z.q_NoText (a7 e8 b6)))
    i9)
   (c7 (g7 (qv 1)))))
def zgx(F:Fun K "_law_due" "_law_due" Mt f fd)(T:Txt mg)(Z:Exs K mg u0 u1 u2 u3 u4 u5 u6 u7 u8 u9 u10 u11 u12 u13 u14 u15 u16 u17)(aB:Os P w K mg base)(bG:Zm P w K mg base)(aN:Nh P w K mg base)(az:Of P w K mg base):FnOk P w K mg base (CX1 P w) 3 f fd ["_law_text"] (spD K mg false D4 1):=
 fnD (k:=2) F sc__law_due rfl rfl fun cdv A outer s H E hr=>
  (c6 (i8 (QW.pt (B0 (y8 (x4 (J3 rfl T.isinstance EQ (qv 0) (G8 (v:=.ty "str") rfl T.str boot_str rfl)))) (E6 (n5 y0w wc e8 (qv 0) (by with_unfolding_all rfl)))))
    (c7 (g7 (l8 (a7 e8 b6))))
    i9)
   (c6 (sA 1 sc__law_due.nd (Q7 PySem.F.slot_str_find PySem.F.type_str_find Ty Tw (qv 0) (a7 e8 b6)))
   (c6 (sA 2 sc__law_due.nd (g9 g8 az hr rfl (a7 (x6 F1 E9 (qv 0) x9 (x8 (qv 1))) b6)))
   (c6 (sA 3 sc__law_due.nd (Q7 Il PySem.F.type_str_split Lk Lj (x6 F1 E9 (qv 0) (x8 (d9 t9 v5 (qv 1) b7)) x9) (a7 e8 b6)))
   (c6 (sA 4 sc__law_due.nd (g9 g8 bG hr rfl (a7 (QE.wk (x6 Bt Bs (qv 3) (x8 b7) x9)) b6)))
   (c6 (i8 (QW.pt (B0 (n5 m9 n8 (qv 2) b7 (e9 _)) (B0 (tN hr (qI hr (qv 3) b7) e8 (e9 _)) (E6 (n5 Td Sg (qv 4) V6 (e9 _))))))
    (c7 (g7 (l8 (a7 e8 b6))))
    i9)
   (c6 (i8 (QW.pt (B0 (n5 m9 n8 (qv 2) b7 (e9 _)) (E6 (n5 N6 P0 (qv 2) b7 (e9 _)))))
    (c7 (g7 (l8 (a7 e8 b6))))
    i9)
   (c6 (i8 (y8 (x4 (w6 (Ax rfl) Bh rfl T.«all» boot_all (a7 (QE.wk (N5 (C2 (caps:=["_law_n"]) (ix:=[2]) rfl rfl) (by decide +kernel) rfl (y6 (qv 4)) .nil (fun _ _ _=>(g9 T8 aB hr rfl (a7 (qv 1) (a7 (qv 0) b6)))))) b6))))
    (c7 (g7 (l8 (a7 e8 b6))))
    i9)
   (c6 (Po sc__law_due.nd (k:=4) rfl rfl (C2 (caps:=[]) (ix:=[]) rfl rfl) (by decide +kernel) rfl (y6 (qv 4)) .nil (fun _ _ _=>(l8 (a7 (w6 (Sa rfl) Uc rfl T.«min» boot_min (a7 (qv 0) b6)) (a7 (w6 (Jx rfl) Ks rfl T.«max» boot_max (a7 (qv 0) b6)) b6)))))
   (c6 (O0 GP rfl (Pp rfl T.enumerate (a7 (qv 4) b6)) (g_t rfl (P6 (i:=5) sc__law_due.nd rfl (Or.inl rfl) (P6 (i:=6) sc__law_due.nd rfl (Or.inl rfl) Dm)))
    (c7 (O0 GP rfl (y6 (QE.wk (x6 Bt Bs (qv 4) x9 (x8 (qv 5))))) (g_n (i:=7) sc__law_due.nd rfl (Or.inl rfl))
    (c7 (i8 (x4 (g9 g8 aN hr rfl (a7 (qv 7) (a7 (qv 6) b6))))
    (c7 (g7 (l8 (a7 e8 (a7 (qv 7) (a7 (qv 6) b6))))))
    i9)))))
   (c6 (i8 (n5 m9 n8 (qL T.len (qv 4)) (d9 M1 M3 (qv 2) b7) (e9 _))
    (c7 (g7 (l8 (a7 e8 (a7 (qv 4) (a7 (qv 2) b6))))))
    i9)
   (c7 (g7 (l8 (a7 e8 (a7 (l8 (a7 (qv 2) (a7 (C7 Ls Lr rfl T.tuple boot_tuple (a7 (QE.wk (w6 (Kq rfl hr.units) Ll rfl T.sorted boot_sorted (a7 (qv 4) b6))) b6)) b6))) b6))))))))))))))))
def zfg(F:Fun K "_law_told" "_law_told" Nj f fd)(T:Txt mg)(Z:Exs K mg u0 u1 u2 u3 u4 u5 u6 u7 u8 u9 u10 u11 u12 u13 u14 u15 u16 u17)(aB:Os P w K mg base)(ar:Oz P w K mg base)(aD:jh P w K mg base)(aN:Nh P w K mg base):FnOk P w K mg base (CX1 P w) 3 f fd ["_law_answer_here","_law_due_here"] (spD K mg false I0 2):=
 fnD (k:=2) F sc__law_told rfl rfl fun cdv A outer s H E hr=>
  (c6 (i8 (tN hr (qI hr (qv 0) b7) (qI hr (qv 1) b7) (e9 _))
    (c7 (g7 D8))
    i9)
   (c6 (i8 (tE hr (qI hr (qv 1) b7) e8 (e9 _))
    (c7 (g7 (v9 (g9 g8 aD hr rfl (a7 (qI hr (qv 0) b7) b6)) (v9 (g9 g8 aD hr rfl (a7 (qI hr (qv 0) b7) b6)) (C8 (n6 (z8 hr.units) z7 (qv 0) (qv 1) (e9 _)))))))
    i9)
   (c6 (i8 (tE hr (qI hr (qv 1) b7) e8 (e9 _))
    (c6 (sA 2 sc__law_told.nd (qI hr (qv 0) b7))
   (c6 (i8 (QW.pt (B0 (y8 (x4 (g9 g8 aD hr rfl (a7 (qv 2) b6)))) (E6 (y8 (x4 (g9 g8 aB hr rfl (a7 (qI hr (qv 1) b7) (a7 (qv 2) b6))))))))
    (c7 (g7 D8))
    i9)
   (c7 (g7 (Dp (w6 (y2g rfl) qE rfl T.«any» boot_any (a7 (QE.wk (N5 (C2 (caps:=["_law_line"]) (ix:=[2]) rfl rfl) (by decide +kernel) rfl (y6 (qI hr (qv 1) b7)) .nil (fun _ _ _=>(g9 T8 aN hr rfl (a7 (qv 0) (a7 (qv 1) b6)))))) b6)))))))
    i9)
   (c6 (i8 (tE hr (qI hr (qv 1) b7) e8 (e9 _))
    (c6 (sA 3 sc__law_told.nd (qI hr (qv 0) b7))
   (c6 (i8 (QW.pt (B0 (y8 (x4 (J3 rfl T.isinstance EQ (qv 3) (G8 (v:=.ty "tuple") rfl T.tuple boot_tuple rfl)))) (B0 (tN hr (qL T.len (qv 3)) b7 (e9 _)) (E6 (y8 (x4 (g9 g8 ar hr rfl (a7 (qI hr (qv 3) b7) b6))))))))
    (c7 (g7 D8))
    i9)
   (c7 (g7 (v9 (J3 rfl T.isinstance EQ (qI hr (qv 3) b7) (G8 (v:=.ty "tuple") rfl T.tuple boot_tuple rfl)) (v9 (w6 (Ax rfl) Bh rfl T.«all» boot_all (a7 (QE.wk (N5 (C2 (caps:=[]) (ix:=[]) rfl rfl) (by decide +kernel) rfl (y6 (qI hr (qv 3) b7)) .nil (fun _ _ _=>(g9 T8 aD hr rfl (a7 (qv 0) b6))))) b6)) (C8 (n6 (z8 hr.units) z7 (qv 0) (qv 1) (e9 _)))))))))
    i9)
   (c7 (g7 D8))))))
def zfh(F:Fun K "free_line" "free_line" Np f fd)(T:Txt mg)(Z:Exs K mg u0 u1 u2 u3 u4 u5 u6 u7 u8 u9 u10 u11 u12 u13 u14 u15 u16 u17)(dR:Ts P w K mg base):FnOk P w K mg base (CX1 P w) 4 f fd ["n","lines"] (spD K mg false Y4 2):=
 fnD (k:=3) F sc_free_line rfl rfl fun cdv A outer s H E hr=>
  (c6 (Po sc_free_line.nd (k:=2) rfl rfl (C2 (caps:=[]) (ix:=[]) rfl rfl) (by decide +kernel) rfl (y6 (QE.wk (g9 g8 dR hr rfl (a7 (qv 0) (a7 (qv 1) b6))))) (.one fun _ _ _=>(n5 N6 P0 (qL T.len (qv 0)) b7 (e9 _))) (fun _ _ _=>(qv 0)))
   (c7 (g7 (l8 (a7 (qI hr (qI hr (qv 2) b7) b7) (a7 (qI hr (qI hr (qv 2) b7) b7) b6))))))
def zjp(F:Fun K "cutting" "cutting" Mf f fd)(T:Txt mg)(Z:Exs K mg u0 u1 u2 u3 u4 u5 u6 u7 u8 u9 u10 u11 u12 u13 u14 u15 u16 u17)(br:jc P w K mg base)(aT:js P w K mg base)(bU:Yx P w K mg base)(cV:Wv P w K mg base)(cW:Ini P w K mg base u16 ["line"] 1):FnOk P w K mg base (CX1 P w) 5 f fd ["n","lines"] (spD K mg false J9 2):=
 fnD (k:=4) F sc_cutting rfl rfl fun cdv A outer s H E hr=>
  (c6 (Sq (g9 g8 br hr rfl (a7 (qv 0) b6)))
   (c6 (y49 sc_cutting.nd (k:=2) rfl rfl (C2 (caps:=["n"]) (ix:=[0]) rfl rfl) (by decide +kernel) rfl (y6 (qv 1)) .nil (fun _ _ _ _ _ I hf=>(Rz nmF (qb I hf) cV hr rfl (a7 (qv 1) (a7 (qv 0) b6)))))
   (c6 (Sq (g9 g8 aT hr rfl (a7 (qv 2) b6)))
   (c6 (i8 (n5 m9 n8 (qL T.len (qv 2)) (d9 M1 M3 (qv 0) b7) (e9 _))
    (c7 (Wa (c:="NotFull") g8 rfl rfl Z.a_NotFull rfl (by decide) Z.i_NotFull cW hr (a7 (g9 g8 bU hr rfl (a7 (qv 0) (a7 (qv 2) b6))) b6)))
    i9)
   (c7 (g7 (l8 (a7 (qv 0) (a7 (C7 Ls Lr rfl T.tuple boot_tuple (a7 (QE.wk (w6 (Kq rfl hr.units) Ll rfl T.sorted boot_sorted (a7 (qv 2) b6))) b6)) b6)))))))))
def vX(F:Fun K "read" "read" Jt f fd)(T:Txt mg)(Z:Exs K mg u0 u1 u2 u3 u4 u5 u6 u7 u8 u9 u10 u11 u12 u13 u14 u15 u16 u17)(bj:ji P w K mg base)(cX:Wu P w K mg base)(bV:Yz P w K mg base):FnOk P w K mg base (CX1 P w) 6 f fd ["text"] (spD K mg false B8 1):=
 fnD (k:=5) F sc_read rfl rfl fun cdv A outer s H E hr=>
  (c6 (i8 (y8 (x4 (J3 rfl T.isinstance EQ (qv 0) (G8 (v:=.ty "str") rfl T.str boot_str rfl))))
    (c7 (X0 (c:="NoText") g8 FW rfl rfl Z.a_NoText Z.q_NoText (a7 e8 b6)))
    i9)
   (c6 (sA 1 sc_read.nd (Q7 Il PySem.F.type_str_split Lk Lj (qv 0) (a7 e8 b6)))
   (c7 (g7 (g9 g8 cX hr rfl (a7 (g9 g8 bj hr rfl (a7 (qI hr (qv 1) b7) b6)) (a7 (QE.wk (y4a (C2 (caps:=[]) (ix:=[]) rfl rfl) (by decide +kernel) rfl (y6 (QE.wk (x6 Bt Bs (qv 1) (x8 b7) x9))) .nil (fun _ _ _ _ _ I hf=>(Rz nmF (qb I hf) bV hr rfl (a7 (qv 0) b6))))) b6)))))))
def zb3(F:Fun K "_law_answer" "_law_answer" Og f fd)(T:Txt mg)(Z:Exs K mg u0 u1 u2 u3 u4 u5 u6 u7 u8 u9 u10 u11 u12 u13 u14 u15 u16 u17)(cH:Js P w K mg base):FnOk P w K mg base (CX1 P w) 7 f fd ["_law_text"] (spD K mg false Q2 1):=
 fnD (k:=6) F sc__law_answer rfl rfl fun cdv A outer s H E hr=>
  (c6 (sA 1 sc__law_answer.nd (l8 (a7 e8 b6)))
   (c6 (qy rfl rfl (y3e (k:=knX) (i:=2) Z.kn sc__law_answer.nd rfl (Or.inl rfl) cH hr rfl (a7 (qv 0) b6))
    (Pn (tb:=Fq) (i:=3) Z.t_Crossed (by decide) rfl sc__law_answer.nd rfl rfl (fun _=>(c7 (sA 1 sc__law_answer.nd (l8 (a7 e8 (a7 (Kc (f:="one") (qv 3) rfl Z.g_one) (a7 (Kc (f:="other") (qv 3) rfl Z.g_other) b6))))))) (Pn (tb:=Fs) (i:=3) Z.t_NotFull (by decide) rfl sc__law_answer.nd rfl rfl (fun _=>(c7 (sA 1 sc__law_answer.nd (l8 (a7 e8 (a7 (Kc (f:="line") (qv 3) rfl Z.g_line) b6)))))) (Pm (tb:=Fi) Z.t_NoLine (by decide) rfl (fun _=>(c7 (sA 1 sc__law_answer.nd (l8 (a7 e8 b6))))) (Pm (tb:=Fu) Z.t_NoFloor (by decide) rfl (fun _=>(c7 (sA 1 sc__law_answer.nd (l8 (a7 e8 b6))))) (Pm (tb:=Fj) Z.t_NoText (by decide) rfl (fun _=>(c7 (sA 1 sc__law_answer.nd (l8 (a7 e8 b6))))) Qg)))))
    (c7 (sA 1 sc__law_answer.nd (l8 (a7 e8 (a7 (qv 2) b6))))))
   (c7 (g7 (qv 1)))))
def zdg(F:Fun K "_law_kinds" "_law_kinds" Nv f fd)(T:Txt mg)(Z:Exs K mg u0 u1 u2 u3 u4 u5 u6 u7 u8 u9 u10 u11 u12 u13 u14 u15 u16 u17)(cH:Js P w K mg base):FnOk P w K mg base (CX1 P w) 7 f fd ["_law_text"] (spD K mg true Q0 1):=
 fnD (k:=6) F sc__law_kinds rfl rfl fun cdv A outer s H E hr=>
  (c6 (sA 1 sc__law_kinds.nd (o4 b6))
   (c6 (y3d rfl rfl (qx (k:=knX) Z.kn cH hr rfl (a7 (qv 0) b6))
    (Pn (tb:=Gd) (i:=2) Z.t_FloorError (by decide) rfl sc__law_kinds.nd rfl rfl (fun _=>(c6 (sA 1 sc__law_kinds.nd (o4 (a7 (x3 (tb:=Gc) rfl T.isinstance EQ (qv 2) (G8 (v:=.ty "ValueError") rfl T.ValueError PyProof.Rows.Boot.«ValueError» rfl) (.inr ⟨_,rfl,rfl⟩) Z.b_ValueError) (a7 (x3 (tb:=Fg) rfl T.isinstance EQ (qv 2) (y9 (v:=.ref u13) rfl Z.a_NoText rfl) (.inl ⟨_,rfl,rfl⟩) Z.b_NoText) (a7 (x3 (tb:=Fp) rfl T.isinstance EQ (qv 2) (y9 (v:=.ref u7) rfl Z.a_NoFloor rfl) (.inl ⟨_,rfl,rfl⟩) Z.b_NoFloor) (a7 (x3 (tb:=Fh) rfl T.isinstance EQ (qv 2) (y9 (v:=.ref u8) rfl Z.a_NoLine rfl) (.inl ⟨_,rfl,rfl⟩) Z.b_NoLine) b6))))))
   (c6 (sA 1 sc__law_kinds.nd (d9 M4 M2 (qv 1) (QE.wk (o4 (a7 (x3 (tb:=Fn) rfl T.isinstance EQ (qv 2) (y9 (v:=.ref u0) rfl Z.a_Crossed rfl) (.inl ⟨_,rfl,rfl⟩) Z.b_Crossed) (a7 (x3 (tb:=Fo) rfl T.isinstance EQ (qv 2) (y9 (v:=.ref u16) rfl Z.a_NotFull rfl) (.inl ⟨_,rfl,rfl⟩) Z.b_NotFull) (a7 (x3 (tb:=Fz) rfl T.isinstance EQ (qv 2) (y9 (v:=.ref u4) rfl Z.a_NoCorner rfl) (.inl ⟨_,rfl,rfl⟩) Z.b_NoCorner) (a7 (x3 (tb:=Et) rfl T.isinstance EQ (qv 2) (y9 (v:=.ref u6) rfl Z.a_NoEar rfl) (.inl ⟨_,rfl,rfl⟩) Z.b_NoEar) b6))))))))
   (c6 (sA 1 sc__law_kinds.nd (d9 M4 M2 (qv 1) (QE.wk (o4 (a7 (x3 (tb:=Es) rfl T.isinstance EQ (qv 2) (y9 (v:=.ref u12) rfl Z.a_NoRow rfl) (.inl ⟨_,rfl,rfl⟩) Z.b_NoRow) (a7 (x3 (tb:=Fe) rfl T.isinstance EQ (qv 2) (y9 (v:=.ref u1) rfl Z.a_Fallen rfl) (.inl ⟨_,rfl,rfl⟩) Z.b_Fallen) (a7 (x3 (tb:=Ff) rfl T.isinstance EQ (qv 2) (y9 (v:=.ref u3) rfl Z.a_NoBand rfl) (.inl ⟨_,rfl,rfl⟩) Z.b_NoBand) (a7 (x3 (tb:=Fm) rfl T.isinstance EQ (qv 2) (y9 (v:=.ref u17) rfl Z.a_TooMany rfl) (.inl ⟨_,rfl,rfl⟩) Z.b_TooMany) b6))))))))
   (c6 (sA 1 sc__law_kinds.nd (d9 M4 M2 (qv 1) (QE.wk (o4 (a7 (x3 (tb:=Gb) rfl T.isinstance EQ (qv 2) (y9 (v:=.ref u11) rfl Z.a_NoQuotient rfl) (.inl ⟨_,rfl,rfl⟩) Z.b_NoQuotient) (a7 (x3 (tb:=Fy) rfl T.isinstance EQ (qv 2) (y9 (v:=.ref u15) rfl Z.a_NotAlike rfl) (.inl ⟨_,rfl,rfl⟩) Z.b_NotAlike) (a7 (x3 (tb:=Fl) rfl T.isinstance EQ (qv 2) (y9 (v:=.ref u10) rfl Z.a_NoPlace rfl) (.inl ⟨_,rfl,rfl⟩) Z.b_NoPlace) b6)))))))
   (c7 (sA 1 sc__law_kinds.nd (d9 M4 M2 (qv 1) (QE.wk (o4 (a7 (x3 (tb:=Fb) rfl T.isinstance EQ (qv 2) (y9 (v:=.ref u5) rfl Z.a_NoDeed rfl) (.inl ⟨_,rfl,rfl⟩) Z.b_NoDeed) (a7 (x3 (tb:=Fc) rfl T.isinstance EQ (qv 2) (y9 (v:=.ref u9) rfl Z.a_NoName rfl) (.inl ⟨_,rfl,rfl⟩) Z.b_NoName) (a7 (x3 (tb:=Fd) rfl T.isinstance EQ (qv 2) (y9 (v:=.ref u14) rfl Z.a_NoTurn rfl) (.inl ⟨_,rfl,rfl⟩) Z.b_NoTurn) b6))))))))))))) Qg))
   (c7 (Kf (i:=1)))))
def y10(F:Fun K "law" "law" Hk f fd)(T:Txt mg)(Z:Exs K mg u0 u1 u2 u3 u4 u5 u6 u7 u8 u9 u10 u11 u12 u13 u14 u15 u16 u17)(bu:ja P w K mg base)(cu:Yd P w K mg base)(bH:Zr P w K mg base)(bJ:Zl P w K mg base)(bW:Za P w K mg base)(bK:Zq P w K mg base)(cw:Yi P w K mg base)(am:Ni P w K mg base)(cx:Yh P w K mg base)(bf:Zn P w K mg base)(bv:jd P w K mg base)(bL:Zp P w K mg base)(bX:Yy P w K mg base):FnOk P w K mg base (CX1 P w) 8 f fd ["_law_script"] (spD K mg false U6 1):=
 fnD (k:=7) F sc_law rfl rfl fun cdv A outer s H E hr=>
  (c6 (sA 1 sc_law.nd (g9 g8 bv hr rfl (a7 (QE.wk (x6 Bt Bs (qv 0) (x8 b7) x9)) (a7 (g9 g8 bW hr rfl (a7 (qv 0) b6)) b6))))
   (c6 (y3c (g9 g8 bH hr rfl (a7 (qv 1) b6)) (g_t rfl (P6 (i:=2) sc_law.nd rfl (Or.inl rfl) (P6 (i:=3) sc_law.nd rfl (Or.inl rfl) Dm))))
   (c6 (sA 4 sc_law.nd (g9 g8 bK hr rfl (a7 (qv 1) (a7 (qv 3) b6))))
   (c6 (sA 5 sc_law.nd (d9 m7 m8 (g9 g8 am hr rfl (a7 (qv 0) (a7 b7 b6))) b7))
   (c6 (i8 (tE hr (qv 5) b7 (e9 _))
    (c7 (y0a (i:=4) cx hr rfl (qv 2) (pw 4) (a7 (g9 g8 am hr rfl (a7 (qv 0) (a7 b7 b6))) (a7 (d9 m7 m8 (g9 g8 am hr rfl (a7 (qv 0) (a7 b7 b6))) b7) b6))))
    i9)
   (c6 (sA 6 sc_law.nd (d9 G4 G6 (d9 G4 G6 (C7 Hl Jy rfl T.str boot_str (a7 (qv 2) b6)) e8) (Q7 PySem.F.slot_str_join PySem.F.type_str_join we wd e8 (a7 (QE.wk (y78 (C2 (caps:=[]) (ix:=[]) rfl rfl) (by decide +kernel) rfl rfl (y6 (qv 4)) .nil (fun _ _ _=>(d9 G4 G6 (d9 G4 G6 (d9 G4 G6 e8 (C7 Hl Jy rfl T.str boot_str (a7 (qv 0) b6))) e8) (C7 Hl Jy rfl T.str boot_str (a7 (qv 1) b6)))))) b6))))
   (c6 (i8 (n5 m9 n8 (qv 5) b7 (e9 _))
    (c7 (sA 6 sc_law.nd (g9 g8 bf hr rfl (a7 (qv 6) (a7 (d9 m7 m8 (g9 g8 am hr rfl (a7 (qv 0) (a7 b7 b6))) b7) (a7 (g9 g8 am hr rfl (a7 (qv 0) (a7 b7 b6))) b6))))))
    i9)
   (c6 (i8 (tE hr (qv 5) b7 (e9 _))
    (c7 (sA 6 sc_law.nd (g9 g8 bf hr rfl (a7 (qv 6) (a7 (d9 m7 m8 (g9 g8 am hr rfl (a7 (qv 0) (a7 b7 b6))) b7) (a7 (g9 g8 am hr rfl (a7 (qv 0) (a7 b7 b6))) b6))))))
    i9)
   (c6 (i8 (tE hr (qv 5) b7 (e9 _))
    (c7 (sA 6 sc_law.nd (g9 g8 cw hr rfl (a7 (g9 g8 am hr rfl (a7 (qv 0) (a7 b7 b6))) b6))))
    i9)
   (c6 (i8 (tE hr (qv 5) b7 (e9 _))
    (c7 (sA 6 sc_law.nd (g9 g8 bL hr rfl (a7 (qv 6) (a7 (g9 g8 am hr rfl (a7 (qv 0) (a7 b7 b6))) b6)))))
    i9)
   (c6 (sA 7 sc_law.nd (g9 g8 cu hr rfl (a7 (qv 6) b6)))
   (c6 (i8 (y8 (x4 (g9 g8 bX hr rfl (a7 (g9 g8 bu hr rfl (a7 (qv 6) b6)) (a7 (qv 7) b6)))))
    (c7 (g7 D8))
    i9)
   (c6 (sA 8 sc_law.nd (g9 g8 bJ hr rfl (a7 (qv 6) b6)))
   (c6 (i8 (tE hr (qI hr (qv 7) b7) e8 (e9 _))
    (c7 (g7 (n6 (z8 hr.units) z7 (qv 8) (QE.wk (o4 b6)) (e9 _))))
    i9)
   (c6 (sA 9 sc_law.nd (qI hr (qv 7) b7))
   (c6 (sA 10 sc_law.nd (o4 (a7 D8 (a7 (n6 (z8 hr.units) z7 (qv 9) e8 (e9 _)) (a7 (n6 (z8 hr.units) z7 (qv 9) e8 (e9 _)) (a7 (n6 (z8 hr.units) z7 (qv 9) e8 (e9 _)) (a7 (n6 (z8 hr.units) z7 (qv 9) e8 (e9 _)) (a7 (n6 (z8 hr.units) z7 (qv 9) e8 (e9 _)) b6))))))))
   (c7 (g7 (n6 (z8 hr.units) z7 (qv 8) (QE.wk (d9 M4 M2 (qv 10) (QE.wk (d9 vk qM (QE.wk (o4 (a7 D8 b6))) b7)))) (e9 _))))))))))))))))))))
end
def all_mk{l:PySem.W.OpenLaw}{w:World}{K:Frag}{h:Heap}{mg:Str->Option Value}{fa:Addr}(X:K.In h)(G:h.Ns mainGlobals mg)(pN:mg "law"=some (.ref fa))
  {f0 f1 f2 f3 f4 f5 f6 f7 f8 f9 BB BC BE BF BG BH BI BJ BK BL BM BN BO BQ BR BS BU BV BW BX BY BZ B' CA CB CC CD CF CG CH CI:Addr}
  {u0 u1 u2 u3 u4 u5 u6 u7 u8 u9 u10 u11 u12 u13 u14 u15 u16 u17:Addr}
  {bg:Addr} {fq fw:Option Addr} {fx:Array (Option Value)} {fy fz fD fF dF fG:Value}
  {bh:Addr} {fH fJ:Option Addr} {fK:Array (Option Value)} {fL fM fN fP dG fQ:Value}
  (A0:FnAt K "is_whole" My f0)
  (A1:FnAt K "pair" Ju f1)
  (A2:FnAt K "is_side" Mh f2)
  (A3:FnAt K "cross" Ko f3)
  (A4:FnAt K "is_figures" Oe f4)
  (A5:FnAt K "corner_behind" Oy f5)
  (A6:FnAt K "_law_pick" Nn f6)
  (A7:FnAt K "_law_is_number" Pa f7)
  (A8:FnAt K "_law_stream" Oi f8)
  (A9:FnAt K "_law_grown" Ob f9)
  (A10:FnAt K "_law_mixed" Oa BB)
  (A11:FnAt K "_law_sign" Nl BC)
  (A12:FnAt K "_law_odd" Mv BE)
  (A13:FnAt K "_law_thing" Ny BF)
  (A14:FnAt K "_law_put" Mu BG)
  (A15:FnAt K "_law_number" Oh BH)
  (A16:FnAt K "_law_is_line" Ou BI)
  (A17:FnAt K "_law_meet" Nk BJ)
  (A18:FnAt K "is_line" Mg BK)
  (A19:FnAt K "is_two" Li BL)
  (A20:FnAt K "is_floor" Mx BM)
  (A21:FnAt K "two_read" Mw BN)
  (A22:FnAt K "room_under" Od BO)
  (A23:FnAt K "corners_read" Ov BQ)
  (A24:FnAt K "_law_many" Nm BR)
  (A25:FnAt K "_law_spoil" Nz BS)
  (A26:FnAt K "_law_lines" Nw BU)
  (A27:FnAt K "_law_is_pair" Ot BV)
  (A28:FnAt K "check_floor" Oj BW)
  (A29:FnAt K "rooms" Kn BX)
  (A30:FnAt K "line_of" Me BY)
  (A31:FnAt K "check_uncrossed" Pb BZ)
  (A32:FnAt K "line_read" No B')
  (A33:FnAt K "_law_due" Mt CA)
  (A34:FnAt K "_law_told" Nj CB)
  (A35:FnAt K "free_line" Np CC)
  (A36:FnAt K "cutting" Mf CD)
  (A37:FnAt K "read" Jt CF)
  (A38:FnAt K "_law_answer" Og CG)
  (A39:FnAt K "_law_kinds" Nv CH)
  (A40:FnAt K "law" Hk CI)
  (T:Txt mg)
  (Z:Exs K mg u0 u1 u2 u3 u4 u5 u6 u7 u8 u9 u10 u11 u12 u13 u14 u15 u16 u17)
  (ni_Crossed:PySem.W.findIn K (.ref u0) "__init__"=some (some (.ref bg))) (li_Crossed:K.lookup bg=some ⟨fy,fq,.func (PySem.W.fnOf "__init__" "Crossed.__init__" (J7 Z7) (C1 Z7) (g0 Z7) .none fz fD fF fw dF fG),fx⟩) (ci_Crossed:codeIn K dF "Crossed.__init__"=true) (ki_Crossed:keepIn K (.ref bg)=true) (ti_Crossed:typeIn K (.ref bg)=some (.type "function"))
  (ni_NotFull:PySem.W.findIn K (.ref u16) "__init__"=some (some (.ref bh))) (li_NotFull:K.lookup bh=some ⟨fL,fH,.func (PySem.W.fnOf "__init__" "NotFull.__init__" (J7 Z6) (C1 Z6) (g0 Z6) .none fM fN fP fJ dG fQ),fK⟩) (ci_NotFull:codeIn K dG "NotFull.__init__"=true) (ki_NotFull:keepIn K (.ref bh)=true) (ti_NotFull:typeIn K (.ref bh)=some (.type "function")) :
  ∃fd:FuncData,(∀(s:Shared)(v:Value),BindsTo s fd ⟨[v],[]⟩ [("_law_script",v)])/\∀base:Heap,K.In base->base.Ns mainGlobals mg->FnOk l.prog w K mg base (CX1 l.prog w) 8 fa fd ["_law_script"] (spL K false U6 1):=by
 refine y0m X G pN A40 (fun _ _ _ _ _ _ _ _=>.of_eq rfl) fun base kb nb fd F=>?_
 have cT:Ini l.prog w K mg base u0 ["one","other"] 1:=⟨bg,_,["self","one","other"],yz (k:=0) (Bl (st:=Z7) li_Crossed ci_Crossed ki_Crossed) zaf (by decide) Z.i_Crossed Z.i1_Crossed rfl (Or.inl rfl) (Or.inl rfl) (Or.inl rfl),(Bl (st:=Z7) li_Crossed ci_Crossed ki_Crossed).binds (ps:=["self","one","other"]) fun _ _ _ _ _ _ us hl=>by match us,hl with | [_,_,_],_=>rfl,ni_Crossed,ti_Crossed,rfl⟩
 have cW:Ini l.prog w K mg base u16 ["line"] 1:=⟨bh,_,["self","line"],wE (k:=0) (Bl (st:=Z6) li_NotFull ci_NotFull ki_NotFull) zag Z.i_NotFull rfl (Or.inl rfl) (Or.inl rfl),(Bl (st:=Z6) li_NotFull ci_NotFull ki_NotFull).binds (ps:=["self","line"]) fun _ _ _ _ _ _ us hl=>by match us,hl with | [_,_],_=>rfl,ni_NotFull,ti_NotFull,rfl⟩
 have aJ:Ms l.prog w K mg base:=got X G A0 fun F=>zgs F T Z 
 have eQ:Rp l.prog w K mg base:=got X G A1 fun F=>vY F T Z 
 have cQ:Wx l.prog w K mg base:=got X G A2 fun F=>zjm F T Z 
 have dQ:Tt l.prog w K mg base:=got X G A3 fun F=>yi F T Z 
 have aI:Nu l.prog w K mg base:=got X G A4 fun F=>zd9 F T Z 
 have ba:jq l.prog w K mg base:=got X G A5 fun F=>z95 F T Z 
 have am:Ni l.prog w K mg base:=got X G A6 fun F=>zfb F T Z 
 have ar:Oz l.prog w K mg base:=got X G A7 fun F=>z88 F T Z 
 have bv:jd l.prog w K mg base:=got X G A8 fun F=>zb0 F T Z 
 have bH:Zr l.prog w K mg base:=got X G A9 fun F=>zda F T Z 
 have bK:Zq l.prog w K mg base:=got X G A10 fun F=>zdb F T Z 
 have bS:Zb l.prog w K mg base:=got X G A11 fun F=>zfc F T Z 
 have cw:Yi l.prog w K mg base:=got X G A12 fun F=>zgt F T Z 
 have bL:Zp l.prog w K mg base:=got X G A13 fun F=>zdc F T Z 
 have cx:Yh l.prog w K mg base:=got X G A14 fun F=>zgu F T Z 
 have az:Of l.prog w K mg base:=got X G A15 fun F=>zb1 F T Z 
 have aB:Os l.prog w K mg base:=got X G A16 fun F=>zao F T Z 
 have aN:Nh l.prog w K mg base:=got X G A17 fun F=>zfd F T Z 
 have cR:Ww l.prog w K mg base:=got X G A18 fun F=>zjn F T Z cQ
 have dB:Vu l.prog w K mg base:=got X G A19 fun F=>zp F T Z aJ
 have cq:Yg l.prog w K mg base:=got X G A20 fun F=>zgv F T Z aJ
 have cr:Ye l.prog w K mg base:=got X G A21 fun F=>zgw F T Z aI
 have bF:Zo l.prog w K mg base:=got X G A22 fun F=>zdd F T Z ba
 have bj:ji l.prog w K mg base:=got X G A23 fun F=>zap F T Z aI
 have bW:Za l.prog w K mg base:=got X G A24 fun F=>zfe F T Z am
 have bf:Zn l.prog w K mg base:=got X G A25 fun F=>zde F T Z bS
 have bG:Zm l.prog w K mg base:=got X G A26 fun F=>zdf F T Z az
 have aD:jh l.prog w K mg base:=got X G A27 fun F=>zaq F T Z ar
 have br:jc l.prog w K mg base:=got X G A28 fun F=>zb2 F T Z cq
 have dR:Ts l.prog w K mg base:=got X G A29 fun F=>yh F T Z bF
 have cV:Wv l.prog w K mg base:=got X G A30 fun F=>zjo F T Z cR dB eQ
 have aT:js l.prog w K mg base:=got X G A31 fun F=>z7k F T Z dQ cT
 have bV:Yz l.prog w K mg base:=got X G A32 fun F=>zff F T Z cr
 have cu:Yd l.prog w K mg base:=got X G A33 fun F=>zgx F T Z aB bG aN az
 have bX:Yy l.prog w K mg base:=got X G A34 fun F=>zfg F T Z aB ar aD aN
 have bU:Yx l.prog w K mg base:=got X G A35 fun F=>zfh F T Z dR
 have cX:Wu l.prog w K mg base:=got X G A36 fun F=>zjp F T Z br aT bU cV cW
 have cH:Js l.prog w K mg base:=got X G A37 fun F=>vX F T Z bj cX bV
 have bu:ja l.prog w K mg base:=got X G A38 fun F=>zb3 F T Z cH
 have bJ:Zl l.prog w K mg base:=got X G A39 fun F=>zdg F T Z cH
 exact(y10 F T Z bu cu bH bJ bW bK cw am cx bf bv bL bX).imp fun _ _ _ _ z=>z.spD
end K17
namespace K17
open L2 Cu
local macro_rules | `(tactic|walk_at "dz")=>do
 let a:=("R8,xR,y3p,zzc,zzb,O4,sNx,Ak,E3,E2,G0,Kk,zzd,zze,zuc,xQ,zz4,zz5,zz6,zua,zz7,zz8,zz9,zza,zub,zud,Bm,y3q,y3r,y3s,Rb,Ra,zzf,Uh,Ws,zug,zzg,zzx,y41,y42,zzy,zur,zus,zpb,zpc,zpd,zpe,Yb,zzu,zm3,zzh,zzi,Wr,zzj,zuh,zui,zuj,zuk,L5,Dv,Option.bind_some,Bool.and_true,Bool.true_and,Qz,y3t,y3u,y3v,y7b,y7c,eC,eOp,eUn,a8,a6,c9,eCB,i5,j4,eIf,eSl,oSo,oNo,L7,bOr,o9,c8,p9,eOr,N8,Cp,O5,G1,Dx,Dw,o6,iL,zuv,zuw,zup,zuo,zx,L2.R.bind_ok,L2.R.of_some,r8,E1,l4,dLe,F6,dGe,y3w,L0,y3x,zr7,zzk,zzl,xP,zzm,Ug,xO,xN,Uf,zzn,zzo,xM,xL,y3z,y40,y45,y01,zuy,zph,zzv,Jj,Jk,y46,y47,y48,F3,y3y,zzp,zzq,zun,zzr,zzs,zzt,W9,List.map_cons,List.map_nil,List.length_cons,List.length_nil,List.cons_append,List.nil_append,List.replicate_succ,List.replicate_zero,List.getElem?_cons_zero,List.getElem?_cons_succ,List.set_cons_zero,List.set_cons_succ,Option.map_some,Option.getD_some,if_true,if_false,Bool.false_eq_true,Bool.not_true,Bool.not_false,Bool.and_false,Bool.false_and,Bool.or_true,Bool.true_or,Bool.or_false,Bool.false_or,Nat.reduceAdd,Nat.reduceLeDiff,Nat.reduceEqDiff,reduceCtorEq,decide_true,decide_false,Int.reduceEq".splitOn ",").toArray.map fun s=>Lean.mkIdent s.toName
 `(tactic|try simp (implicitDefEqProofs:=false) only [$[$a:term],*])
theorem Tr:∀{a b x y:List Nat},c∉a->c∉b->a++c::x=b++c::y->a=b/\x=y
 | [],[],_,_,_,_,h=>⟨rfl,(List.cons.inj h).2⟩
 | [],v::b,_,_,_,hb,h=>absurd (by rw[(List.cons.inj h).1];exact io) hb
 |u::a,[],_,_,ha,_,h=>absurd (by rw[<-(List.cons.inj h).1];exact io) ha
 |u::a,v::b,_,_,ha,hb,h=>by obtain⟨e,h⟩:=List.cons.inj h;obtain⟨e2,e3⟩:=Tr (fun z=>ha (bI _ z)) (fun z=>hb (bI _ z)) h;exact⟨by rw[e,e2],e3⟩
def P8(c:Nat)(w v:PySem.Str)(r:List PySem.Str):(PySem.Str.join ⟨#[c]⟩ (w::v::r)).cps.toList=w.cps.toList++c::(PySem.Str.join ⟨#[c]⟩ (v::r)).cps.toList:=by show(w++⟨#[c]⟩++PySem.Str.join ⟨#[c]⟩ (v::r)).cps.toList=_;rw[PySem.Str.cps_append,PySem.Str.cps_append];simp
theorem Vt:∀{ws vs:List PySem.Str},ws≠[]->vs≠[]->(∀w∈ws,c∉w.cps.toList)->(∀w∈vs,c∉w.cps.toList)->PySem.Str.join ⟨#[c]⟩ ws=PySem.Str.join ⟨#[c]⟩ vs->ws=vs
 | [],_,h,_,_,_,_=>absurd rfl h
 |_,[],_,h,_,_,_=>absurd rfl h
 | [w],[v],_,_,_,_,h=>by rw[show w=v from h]
 | [w],v::v2::r,_,_,hw,_,h=>by have e:=GY (fun x=>x.cps.toList) h;simp only[P8]at e;exact absurd (by rw[show w.cps.toList=_ from e];simp) (hw w io)
 |w::w2::r,[v],_,_,_,hv,h=>by have e:=GY (fun x=>x.cps.toList) h;simp only[P8]at e;exact absurd (by rw[show v.cps.toList=_ from e.symm];simp) (hv v io)
 |w::w2::r,v::v2::r',_,_,hw,hv,h=>by have e:=GY (fun x=>x.cps.toList) h;simp only[P8]at e;obtain⟨e1,e2⟩:=Tr (hw w io) (hv v io) e;have:=Vt (c:=c) (GU w2 r) (GU v2 r') (fun x hx=>hw x (bI _ hx)) (fun x hx=>hv x (bI _ hx)) (PySem.Str.ext' (Iw.mp e2));rw[this,PySem.Str.ext' (Iw.mp e1)]
def M6(x y:PySem.Str):PySem.Txt.split x y≠[]:=by
 unfold PySem.Txt.split;split
 . exact GU _ _
 . split
   . exact GU _ _
   . rw[PySem.StrLaws.partsBetween_eq];obtain⟨p,r,e⟩:=PySem.StrLaws.partsFrom_ne x y.length 0 (PySem.Builtin.Str.occurrences x y 0 x.length (x.length+1));rw[e];exact GU _ _
def Ng(h:ws≠[])(hf:∀w∈ws,c∉w.cps.toList):PySem.Txt.split (PySem.Str.join ⟨#[c]⟩ ws) ⟨#[c]⟩=ws:=
 Vt (M6 _ _) h (IU _ c) hf (FR _ _)
def Go:PySem.Str.ofString " "=⟨#[32]⟩:=by decide +kernel
def Cm:PySem.Str.ofString "-"=⟨#[45]⟩:=by decide +kernel
def Q6:PySem.Str.ofString ":"=⟨#[58]⟩:=by decide +kernel
def jG:PySem.Str.ofString ""=PySem.Str.empty:=by decide +kernel
abbrev cs(x:PySem.Str):List Nat:=x.cps.toList
def p6(x:PySem.Str):(cs x).length=x.length:=FG
def W0(h:cs x=cs y):x=y:=PySem.Str.ext' (Iw.mp h)
def R9(x y:PySem.Str):cs (x++y)=cs x++cs y:=by show(x++y).cps.toList=_;rw[PySem.Str.cps_append];simp
def Jr{x:PySem.Str}{lo hi:Option Int}{a b:Nat}(bA:a<=b)(hb:b<=x.length)(e:PySem.Builtin.Str.strSliceIndices lo hi 1 x.length=PySem.Builtin.Str.strSliceIndices (some (a:Int)) (some (b:Int)) 1 x.length):cs (l9 x lo hi)=((cs x).drop a).take (b - a):=by
 have s:=PySem.StrLaws.sliced_plain x bA hb;have l:(PySem.Builtin.Str.strSliceIndices (some (a:Int)) (some (b:Int)) 1 x.length).length=b - a:=by rw[PySem.StrLaws.strSliceIndices_plain bA hb,gc,List.length_range]
 unfold l9;rw[e,l];split
 . rename_i h;have h1:a=0:=by omega
   subst h1;rw[II,h,HL (by rw[p6];omega)]
 . exact s
def Md(x:PySem.Str)(h:a<=x.length):cs (l9 x none (some (a:Int)))=(cs x).take a:=by rw[Jr (a:=0) (b:=a) (FX _) h (by unfold PySem.Builtin.Str.strSliceIndices;simp only[show ¬((0:Nat):Int)<0 by omega,FV,show((1:Int) > 0)=True from by simp,FQ];congr 1),II,Nat.sub_zero]
def Ep(x:PySem.Str)(a:Nat):cs (l9 x (some (a:Int)) none)=(cs x).drop a:=by
 have l:=p6 x;rw[Jr (a:=min a x.length) (b:=x.length) (Nat.min_le_right _ _) (ζ _) (by unfold PySem.Builtin.Str.strSliceIndices;simp only[show ¬((a:Nat):Int)<0 by omega,show ¬((min a x.length:Nat):Int)<0 by omega,show ¬((x.length:Nat):Int)<0 by omega,FV,show((1:Int) > 0)=True from by simp,FQ];congr 1<;>omega),HL (by rw[HE];omega)];by_cases h:a<=x.length
 . rw[Nat.min_eq_left h]
 . rw[Nat.min_eq_right (by omega),List.drop_eq_nil_of_le (by omega),List.drop_eq_nil_of_le (by omega)]
def Vs(h:cs x=r++[c]):cs (l9 x none (some (-1)))=r:=by have l:=p6 x;rw[h,θ,GQ]at l;rw[Jr (a:=0) (b:=r.length) (FX _) (by omega) (by unfold PySem.Builtin.Str.strSliceIndices;simp only[show ¬((0:Nat):Int)<0 by omega,show ¬((r.length:Nat):Int)<0 by omega,show((-1:Int)<0)=True from by simp,FV,show((1:Int) > 0)=True from by simp,FQ];congr 1<;>omega),II,Nat.sub_zero,h,List.take_left' rfl]
def slS(h:(cs (l9 x lo hi)).length<=1000):o7 (.str x) lo hi=some (.str (l9 x lo hi)):=by simp only[o7];rw[ξ (by rw[p6]at h;omega)]
def Dh(x:PySem.Str)(c i:Nat):PySem.StrLaws.At x ⟨#[c]⟩ x.length i↔(cs x)[i]?=some c:=PySem.StrLaws.subAt_one x c i
def vW(h:c∉cs x):PySem.Txt.find x ⟨#[c]⟩=-1:=by
 unfold PySem.Txt.find;rcases PySem.StrLaws.occ_head x ⟨#[c]⟩ 1 (ζ 1) with⟨h0,_⟩ |⟨i,r,_,h1,_⟩
 . rw[h0]
 . exact absurd (FP ((Dh x c i).mp h1)) h
def Tq(hx:cs x=a++c::b)(ha:c∉a):PySem.Txt.find x ⟨#[c]⟩=(a.length:Int):=by
 have hm:(cs x)[a.length]?=some c:=by rw[hx];simp
 unfold PySem.Txt.find;rcases PySem.StrLaws.occ_head x ⟨#[c]⟩ 1 (ζ 1) with⟨_,h⟩ |⟨i,r,h0,h1,h2⟩
 . exact absurd ((Dh x c _).mpr hm) (h _)
 . rw[h0];have l1:¬a.length<i:=fun z=>h2 _ z ((Dh x c _).mpr hm)
   have l2:¬i<a.length:=fun z=>by have:=(Dh x c i).mp h1;rw[hx,FL z]at this;exact ha (FP this)
   show(i:Int)=_;omega
def Km(x:PySem.Str)(c:Nat):inT ⟨#[c]⟩ x=decide (c∈cs x):=PySem.StrLaws.found_one x c
theorem Dz:∀{l:List Nat},c∈l->∃a b,l=a++c::b/\c∉a
 |d::r,h=>by
  by_cases e:d=c
  . exact⟨[],r,by rw[e];rfl,GI⟩
  . obtain⟨a,b,h1,h2⟩:=Dz ((ee.mp h).resolve_left fun z=>e z.symm);exact⟨d::a,b,by rw[h1];rfl,fun z=>(ee.mp z).elim (fun z=>e z.symm) h2⟩
def Ro(x:PySem.Str)(c:Nat):PySem.Txt.endswith x ⟨#[c]⟩=true↔∃r,cs x=r++[c]:=by
 have l:=p6 x;unfold PySem.Txt.endswith;rw[gq,pW];constructor
 . rintro⟨h1,h2⟩;have h1:0+1<=x.length:=h1;have h3:=(PySem.StrLaws.subAt_one x c (x.length - 1)).mp ⟨by show x.length - 1+1<=_;omega,h2⟩;refine⟨(cs x).take (x.length - 1),?_⟩;have:=List.take_append_drop (x.length - 1) (cs x);rw[<-this];congr 1
   . rw[this]
   . apply List.ext_getElem?;intro i;rw[List.getElem?_drop];cases i with
     |zero=>exact h3
     |succ i=>rw[FN (by omega)];rfl
 . rintro⟨r,h⟩;rw[h,θ,GQ]at l;have:=(PySem.StrLaws.subAt_one x c (x.length - 1)).mpr (by show(cs x)[_]?=_;rw[h,<-l];simp);exact⟨by show 0+1<=x.length;omega,this.2⟩
theorem Bx:∀{ws:List PySem.Str},ws≠[]->ws.length<=(cs (PySem.Str.join ⟨#[c]⟩ ws)).count c+1
 | [],h=>absurd rfl h
 | [w],_=>by simp
 |w::v::r,_=>by have ih:_<=List.count c ((PySem.Str.join ⟨#[c]⟩ (v::r)).cps.toList)+1:=Bx (GU v r);show _<=List.count c ((PySem.Str.join ⟨#[c]⟩ (w::v::r)).cps.toList)+1;rw[P8,Ip,List.count_cons_self,gV];omega
def dg(c:Nat):Bool:=decide (48<=c)&&decide (c<=57)
def i6(l:List Nat):Bool:=decide (1<=l.length)&&(decide (l.length<=2)&&(!(decide (1<l.length)&&decide (l.head?=some 48))&&l.all dg))
def vl(l:List Nat):Int:=((PySem.NumText.digitsVal l:Nat):Int)
def y4e:cs (PySem.Str.ofString "0123456789")=List.range' 48 10:=by decide +kernel
def kN(c:Nat):S7 (.str ⟨#[c]⟩) (.str (PySem.Str.ofString "0123456789"))=some (.bl (dg c)):=by simp only[S7];rw[Km,y4e];congr 2;unfold dg;rw[GG,gq,pW,pW,pW,List.mem_range'_1];omega
def y4f:PySem.Str.ofString "0"=⟨#[48]⟩:=by decide +kernel
def Gn(h:x.length<=100000):k9 [.str x]=some (.int x.length):=ξ h
def jF(h:x.cps.toList=c::r)(hl:x.length<=100000):dIx (.str x) (.int 0)=some (.str ⟨#[c]⟩):=by have:atI (c::r) 0=some c:=S0 (xs:=c::r) (j:=0) rfl;simp only[dIx,dOr,y3,ξ hl,h,this,FC]
def Rn(c:Nat):dEq (.str ⟨#[c]⟩) (.str (PySem.Str.ofString "0"))=some (.bl (decide (c=48))):=by rw[y4f];unfold dEq;rw[ξ ⟨rfl,rfl,by simp[D.dep]⟩];simp only[eqD,Option.some.injEq,D.bl.injEq];rw[GG];simp
structure Asc(x:PySem.Str):Prop where
 a:∀c∈cs x,c<128
 l:x.length<=1000
def Asc.all(h:Asc x):x.cps.all (·<128)=true:=by rw[<-Array.all_toList,EV];intro c hc;simpa using h.a c hc
def jE(x:PySem.Str):kS x=(cs x).map fun c=>D.str ⟨#[c]⟩:=rfl
def Rl(f:DE->R D)(hf:∀c,f [some (.str ⟨#[c]⟩)]=.ok (.bl (dg c)))(l:List Nat):B6 b1 k8 f [] (l.map fun c=>D.str ⟨#[c]⟩)=.ok (l.map fun c=>D.bl (dg c)):=
 S2 (bn:=b1) (bs:=fun c=>[D.str ⟨#[c]⟩]) (g:=fun c=>D.bl (dg c)) l (fun c _=>rfl) fun c _=>hf c
def y4g(c:Nat):Gj [some (.str ⟨#[c]⟩)]=.ok (.bl (dg c)):=by unfold Gj;walk_at "dz";rw[kN];walk_at "dz"
def y4h(c:Nat):Gk [some (.str ⟨#[c]⟩)]=.ok (.bl (dg c)):=by unfold Gk;walk_at "dz";rw[kN];walk_at "dz"
def Hj(A:Asc x):Z4 [.str x,.int 2]=.ok (.bl (i6 (cs x))):=by
 have hl:=A.l;have ln:=Gn (x:=x) (by omega);have l:=p6 x;have fin:SR.out false (e7 [true] (eCB D7 (a6 (o6 (iS (a5 0)) b1 [] k8 Gj) a8)) [.im (.str x),.im (.int 2)])=.ok (.bl ((cs x).all dg)):=by
  have hi:iS (a5 0) [some (D.str x),some (D.int 2)]=.ok ((cs x).map fun c=>D.str ⟨#[c]⟩):=by unfold iS;walk_at "dz";rw[ξ A.all,jE]
  walk_at "dz";rw[hi];walk_at "dz";rw[ξ (by rw[gc];omega),Rl _ y4g];walk_at "dz";rw[all_map];walk_at "dz"
 unfold Z4 Zz;walk_at "dz";rw[ln];walk_at "dz";unfold i6;rw[l];by_cases h1:1<=x.length
 . rw[gR (show(1:Int)<=x.length by omega),gR h1];by_cases h2:x.length<=2
   . rw[gR (show(x.length:Int)<=2 by omega),gR h2];walk_at "dz";rw[ln];walk_at "dz";by_cases h3:1<x.length
     . rw[gR (show(1:Int)<x.length by omega),gR h3];walk_at "dz";obtain⟨c,r,e⟩:∃c r,cs x=c::r:=by
        cases hc:cs x with
        |nil=>rw[hc,GF]at l;omega
        |cons c r=>exact⟨c,r,rfl⟩
       rw[jF e (by omega)];walk_at "dz";rw[Rn,e,List.head?_cons,<-e];by_cases h4:c=48
       . subst h4;walk_at "dz"
       . rw[decide_eq_false h4,decide_eq_false (show ¬some c=some 48 from fun z=>h4 (Option.some.inj z))];walk_at "dz";exact fin
     . rw[decide_eq_false (show ¬(1:Int)<x.length by omega),decide_eq_false h3];walk_at "dz";exact fin
   . rw[decide_eq_false (show ¬(x.length:Int)<=2 by omega),decide_eq_false h2];walk_at "dz"
 . rw[decide_eq_false (show ¬(1:Int)<=x.length by omega),decide_eq_false h1];walk_at "dz"
def Dg(h:i6 l=true):l≠[]/\l.length<=2/\(∀c∈l,48<=c/\c<=57):=by unfold i6 at h;simp only[gq,pW,EV,dg]at h;exact⟨fun z=>by rw[z]at h;exact absurd h.1 (by decide),h.2.1,h.2.2.2⟩
def Cs(h:i6 (cs x)=true):D2 [.str x]=some (.int (vl (cs x))):=by obtain⟨h1,h2,h3⟩:=Dg h;have l:=p6 x;simp only[D2];rw[ξ (by omega),PySem.intText_digits (fun c hc=>h3 c hc) h1 (by omega)];rfl
def Pk(h:i6 l=true):0<=vl l/\vl l<=99:=by
 obtain⟨h1,h2,h3⟩:=Dg h;unfold vl
 match l,h1,h2,h3 with
 | [a],_,_,h3=>have:=h3 a (by simp);simp only[PySem.NumText.digitsVal,List.foldl];omega
 | [a,b],_,_,h3=>have:=h3 a (by simp);have:=h3 b (by simp);simp only[PySem.NumText.digitsVal,List.foldl];omega
def Hi(A:Asc x):Q4 [.str x]=.ok (.int (if i6 (cs x)=true then vl (cs x) else -1)):=by
 have hl:=A.l;have ln:=Gn (x:=x) (by omega);have l:=p6 x;have fin:SR.out false (a9 (sIf (o9 (c8 l5 (eCB D7 (a6 (o6 (iS (a5 0)) b1 [] k8 Gk) a8)))) (e7 [] (eUn L0 (eC (.int 1)))) sNx) (e7 [true] (eCB D2 (a6 (a5 0) a8))) [.im (.str x)])=if(cs x).all dg=true then(R.of (D2 [.str x])) else .ok (.int (-1)):=by
  have hi:iS (a5 0) [some (D.str x)]=.ok ((cs x).map fun c=>D.str ⟨#[c]⟩):=by unfold iS;walk_at "dz";rw[ξ A.all,jE]
  walk_at "dz";rw[hi];walk_at "dz";rw[ξ (by rw[gc];omega),Rl _ y4h];walk_at "dz";rw[all_map];walk_at "dz";cases (cs x).all dg
  . walk_at "dz"
  . walk_at "dz";cases e:D2 [.str x] with
    |none=>rfl
    |some d=>
     have:∃i,d=.int i:=by
      simp only[D2]at e;split at e
      . obtain⟨i,_,z⟩:=FM.mp e;exact⟨i,z.symm⟩
      . cases e
     obtain⟨i,rfl⟩:=this
     walk_at "dz"
 have key:∀b:Bool,i6 (cs x)=b->((cs x).all dg=b)->(if(cs x).all dg=true then(R.of (D2 [.str x])) else .ok (.int (-1)))=.ok (.int (if i6 (cs x)=true then vl (cs x) else -1)):=by
  intro b h1 h2;rw[h1,h2];cases b
  . rfl
  . rw[ξ rfl,ξ rfl,Cs h1];rfl
 unfold Q4 jf;walk_at "dz";rw[ln];walk_at "dz";by_cases h1:1<=x.length
 . rw[decide_eq_false (show ¬(x.length:Int)=0 by omega)];walk_at "dz";by_cases h2:x.length<=2
   . rw[decide_eq_false (show ¬(2:Int)<x.length by omega)];walk_at "dz";by_cases h3:x.length=2
     . rw[gR (show(x.length:Int)=2 by omega)];walk_at "dz";obtain⟨c,r,e⟩:∃c r,cs x=c::r:=by
        cases hc:cs x with
        |nil=>rw[hc,GF]at l;omega
        |cons c r=>exact⟨c,r,rfl⟩
       rw[jF e (by omega)];walk_at "dz";rw[Rn];by_cases h4:c=48
       . subst h4;walk_at "dz";have:i6 (cs x)=false:=by unfold i6;rw[l,h3,e];rfl
         rw[this];rfl
       . rw[decide_eq_false h4];walk_at "dz";refine fin.trans (key _ rfl ?_);unfold i6;rw[l,h3,e,List.head?_cons,decide_eq_false (show ¬some c=some 48 from fun z=>h4 (Option.some.inj z))];rfl
     . rw[decide_eq_false (show ¬(x.length:Int)=2 by omega)];walk_at "dz";refine fin.trans (key _ rfl ?_);unfold i6;rw[l,gR h1,gR h2,decide_eq_false (show ¬1<x.length by omega)];rfl
   . rw[gR (show(2:Int)<x.length by omega)];walk_at "dz";have:i6 (cs x)=false:=by unfold i6;rw[l,decide_eq_false h2,IK,Iq]
     rw[this];rfl
 . rw[gR (show(x.length:Int)=0 by omega)];walk_at "dz";have:i6 (cs x)=false:=by unfold i6;rw[l,decide_eq_false h1,IK]
   rw[this];rfl
theorem Vr:∀{ws:List PySem.Str}{w:PySem.Str},w∈ws->∃p q,cs (PySem.Str.join ⟨#[c]⟩ ws)=p++(cs w++q)
 | [v],w,h=>by rw[FJ]at h;subst h;exact⟨[],[],by simp[PySem.Str.join]⟩
 |v::u::r,w,h=>by
  have e:cs (PySem.Str.join ⟨#[c]⟩ (v::u::r))=_:=P8 c v u r;rcases ee.mp h with rfl |h
  . exact⟨[],_,by rw[e];rfl⟩
  . obtain⟨p,q,e2⟩:=Vr (c:=c) h;exact⟨v.cps.toList++c::p,q,by rw[e,show(PySem.Str.join ⟨#[c]⟩ (u::r)).cps.toList=_ from e2];simp⟩
def S1{x w:PySem.Str}{p q:List Nat}(A:Asc x)(h:cs x=p++(cs w++q)):Asc w:=by refine⟨fun c hc=>A.a c (by rw[h];simp[hc]),?_⟩;have:=A.l;have l:=p6 x;rw[h,θ,θ,p6]at l;omega
def Fa(A:Asc x)(h:w∈PySem.Txt.split x ⟨#[c]⟩):Asc w:=by obtain⟨p,q,e⟩:=Vr (c:=c) h;rw[FR]at e;exact S1 A e
def Ez(h:c∉cs x):PySem.Txt.split x ⟨#[c]⟩=[x]:=
 Ng (ws:=[x]) (GU _ _) (fun w hw=>by rw[FJ]at hw;subst hw;exact h)
def Ey(h:cs x=cs u++c::cs v)(hu:c∉cs u):PySem.Txt.split x ⟨#[c]⟩=u::PySem.Txt.split v ⟨#[c]⟩:=by
 have jv:=FR v ⟨#[c]⟩;obtain⟨w,r,e⟩:∃w r,PySem.Txt.split v ⟨#[c]⟩=w::r:=by
  cases q:PySem.Txt.split v ⟨#[c]⟩ with
  |nil=>exact absurd q (M6 _ _)
  |cons w r=>exact⟨w,r,rfl⟩
 have fr:=IU v c;rw[e]at jv fr⊢;have:x=PySem.Str.join ⟨#[c]⟩ (u::w::r):=W0 (by show _=(PySem.Str.join ⟨#[c]⟩ (u::w::r)).cps.toList;rw[P8,jv];exact h);rw[this];exact Ng (GU _ _) (fun y hy=>by
  rcases ee.mp hy with rfl |hy
  . exact hu
  . exact fr y hy)
def wpl:List PySem.Str->Option P2
 | [a,b]=>if(i6 (cs a)&&i6 (cs b))=true then some (vl (cs a),vl (cs b)) else none
 |_=>none
def wp(x:PySem.Str):Option P2:=wpl (PySem.Txt.split x ⟨#[45]⟩)
def oD:Option P2->D
 |some p=>T2 p
 |none=>.non
def msp(hl:x.length<=1000)(c:Nat):O6 x [.str ⟨#[c]⟩]=some (.lst ((PySem.Txt.split x ⟨#[c]⟩).map .str)):=by simp only[O6];rw[ξ ⟨ζ 1,by omega⟩]
def y7i(A:Asc w):Ga [some (.str w)]=.ok (.bl (i6 (cs w))):=by unfold Ga;walk_at "dz";rw[Hj A]
def Jq(ws:List PySem.Str):i3 (ws.map .str)=true:=F4 _ _ fun _ _=>rfl
def vV(A:Asc x):Ca [.str x]=.ok (oD (wp x)):=by
 have sp:=msp A.l 45;have as:∀w∈PySem.Txt.split x ⟨#[45]⟩,Asc w:=fun w hw=>Fa A hw
 have nl:=Jq (PySem.Txt.split x ⟨#[45]⟩);have cl:(PySem.Txt.split x ⟨#[45]⟩).length<=1001:=by have:=Bx (c:=45) (M6 x ⟨#[45]⟩);rw[FR]at this;have l1:=IA (a:=45) (l:=cs x);have:=A.l;rw[p6]at l1;omega
 unfold wp;generalize PySem.Txt.split x ⟨#[45]⟩=ws at *;have nu:∀w∈ws,Ga [some (.str w)]=.ok (.bl (i6 (cs w))):=fun w hw=>y7i (as w hw)
 unfold Ca Yj;walk_at "dz";simp only[eMt];walk_at "dz";rw[Cm,sp];by_cases h2:ws.length=2
 . obtain⟨u,v,rfl⟩:∃u v,ws=[u,v]:=by
    match ws,h2 with
    | [u,v],_=>exact⟨u,v,rfl⟩
   have n1:=nu u (by simp)
   have n2:=nu v (by simp)
   have al:=all_map [u,v] (fun w=>i6 (cs w))
   simp only[ng,GK,List.all_cons,List.all_nil,Bool.and_true]at al sp nl⊢
   walk_at "dz"
   rw[n1,n2]
   walk_at "dz"
   rw[al]
   walk_at "dz"
   have w:wpl [u,v]=if(i6 (cs u)&&i6 (cs v))=true then some (vl (cs u),vl (cs v)) else none:=rfl
   rw[w]
   cases hb:i6 (cs u)&&i6 (cs v)
   . walk_at "dz";rw[ite_self];rfl
   . rw[gq]at hb;walk_at "dz";rw[Cs hb.1,Cs hb.2];walk_at "dz";rfl
 . have hm:wpl ws=none:=by
    clear sp as nl cl nu
    match ws,h2 with
    | [],_=>rfl
    | [_],_=>rfl
    |_::_::_::_,_=>rfl
    | [_,_],h=>exact absurd rfl h
   rw[hm]
   have hl:(ws.map D.str).length=ws.length:=gc ..
   generalize ws.map D.str=X at *
   walk_at "dz"
   rw[nl]
   walk_at "dz"
   rw[hl,decide_eq_false (show ¬((ws.length:Int)=2) by omega)]
   walk_at "dz"
   rfl
def vU(A:Asc x):Y5 [.str x]=match wp x with |some p=>.ok (T2 p) |none=>.er ⟨"NoText",[]⟩:=by
 have t:=vV A;unfold Y5 Zd;cases h:wp x with
 |none=>
  rw[h]at t
  simp only[oD]at t
  walk_at "dz"
  rw[t]
  walk_at "dz"
  simp only[D3]
  walk_at "dz"
  rfl
 |some p=>
  rw[h]at t
  simp only[oD]at t
  have k:keeps false (T2 p)=true:=F3 p
  have i:N4 (T2 p) .non=some (.bl false):=rfl
  show _=R.ok (T2 p)
  generalize T2 p=P at *
  walk_at "dz"
  rw[t]
  walk_at "dz"
  rw[k]
  walk_at "dz"
  rw[i]
  walk_at "dz"
def Jp(c:Nat):U7 x [.str ⟨#[c]⟩]=some (.int (PySem.Txt.find x ⟨#[c]⟩)):=rfl
def y4j(h:45∉cs x):wp x=none:=by unfold wp;rw[Ez h];rfl
def y4k(h:cs x=cs u++45::cs v)(hu:45∉cs u):wp x=if(i6 (cs u)&&i6 (cs v))=true then some (vl (cs u),vl (cs v)) else none:=by
 unfold wp;rw[Ey h hu];by_cases hv:45∈cs v
 . have f:i6 (cs v)=false:=by
    rw[Bool.eq_false_iff]
    intro z
    have:=(Dg z).2.2 45 hv
    omega
   obtain⟨a,b,e,ha⟩:=Dz hv
   rw[Ey (u:=⟨a.toArray⟩) (v:=⟨b.toArray⟩) e ha,f,Iq,ψ (by simp)]
   cases hq:PySem.Txt.split ⟨b.toArray⟩ ⟨#[45]⟩ with
   |nil=>exact absurd hq (M6 _ _)
   |cons=>rfl
 . rw[Ez hv];rfl
def y7j(A0:Sl){x:PySem.Str}(A:Asc x)(ls:List P2)(hl:ls.length<1000)(s3 s4 s5:Sl):(wp x=none/\S5 [A0,.ow (.lst (ls.map T2)),.im (.str x),s3,s4,s5]=.rt .non)\/∃p gB pP mE,wp x=some p/\S5 [A0,.ow (.lst (ls.map T2)),.im (.str x),s3,s4,s5]=.nx [A0,.ow (.lst ((ls++[p]).map T2)),.im (.str x),gB,pP,mE]:=by
 by_cases h:45∈cs x
 . obtain⟨a,b,e,ha⟩:=Dz h;have fe:=Tq e ha;have l:=p6 x;have xl:=A.l;rw[e,θ,gV]at l;obtain⟨u,hu⟩:∃u:PySem.Str,u=l9 x none (some (a.length:Int)):=⟨_,rfl⟩;obtain⟨v,hv⟩:∃v:PySem.Str,v=l9 x (some ((a.length:Int)+1)) none:=⟨_,rfl⟩;have eu:cs u=a:=by rw[hu,Md x (by omega),e,List.take_left' rfl]
   have ev:cs v=b:=by rw[hv,show(a.length:Int)+1=((a.length+1:Nat):Int) by omega,Ep,e,<-List.drop_drop,List.drop_left' rfl];rfl
   have e':cs x=cs u++45::cs v:=by rw[eu,ev,e]
   have Au:Asc u:=S1 (p:=[]) (q:=45::b) A (by rw[eu,e];rfl);have Av:Asc v:=S1 (p:=a++[45]) (q:=[]) A (by rw[ev,e];simp);have nu:=Hi Au;have nv:=Hi Av;obtain⟨iu,mV⟩:∃i:Int,i=(if i6 (cs u)=true then vl (cs u) else -1):=⟨_,rfl⟩;obtain⟨iv,mW⟩:∃i:Int,i=(if i6 (cs v)=true then vl (cs v) else -1):=⟨_,rfl⟩;rw[<-mV]at nu;rw[<-mW]at nv;have gu:iu<0↔i6 (cs u)=false:=by
    rw[mV];cases q:i6 (cs u)
    . simp
    . have:=Pk q;simp;omega
   have gv:iv<0↔i6 (cs v)=false:=by
    rw[mW];cases q:i6 (cs v)
    . simp
    . have:=Pk q;simp;omega
   have su:o7 (.str x) none (some (a.length:Int))=some (.str u):=by rw[hu];exact slS (by rw[<-hu,eu];omega)
   have sv:o7 (.str x) (some ((a.length:Int)+1)) none=some (.str v):=by rw[hv];exact slS (by rw[<-hv,ev];omega)
   have w:=y4k e' (by rw[eu];exact ha);unfold S5;walk_at "dz";simp only[eMt];walk_at "dz";rw[Cm,Jp,fe];walk_at "dz";rw[decide_eq_false (show ¬(a.length:Int)<0 by omega)];walk_at "dz";rw[su];walk_at "dz";rw[nu];walk_at "dz";rw[sv];walk_at "dz";rw[nv];walk_at "dz";by_cases h1:iu<0
   . rw[gu.mp h1,IK,ψ (by simp)]at w;left;refine⟨w,?_⟩;rw[gR h1];walk_at "dz"
   . rw[decide_eq_false h1];walk_at "dz";by_cases h2:iv<0
     . rw[gv.mp h2,Iq,ψ (by simp)]at w;left;refine⟨w,?_⟩;rw[gR h2];walk_at "dz"
     . have fu:i6 (cs u)=true:=by rw[<-Bool.not_eq_false];exact fun z=>h1 (gu.mpr z)
       have fv:i6 (cs v)=true:=by rw[<-Bool.not_eq_false];exact fun z=>h2 (gv.mpr z)
       rw[fu,ξ rfl]at mV;rw[fv,ξ rfl]at mW;rw[fu,fv,GJ,ξ rfl,<-mV,<-mW]at w;rw[decide_eq_false h2];walk_at "dz";right;rw[Jz (by omega)];walk_at "dz";exact⟨_,_,_,_,w,rfl⟩
 . left;refine⟨y4j h,?_⟩;unfold S5;walk_at "dz";simp only[eMt];walk_at "dz";rw[Cm,Jp,vW h];walk_at "dz";rw[gR (show(-1:Int)<0 by omega)];walk_at "dz"
def wps:List PySem.Str->Option (List P2)
 | []=>some []
 |w::r=>match wp w with
  |none=>none
  |some p=>(wps r).map (p::·)
theorem Tp:∀{ws:List PySem.Str}{ls:List P2},wps ws=some ls->ls.length=ws.length
 | [],ls,h=>by cases h;rfl
 |w::r,ls,h=>by
  simp only[wps]at h;cases e:wp w with
  |none=>rw[e]at h;cases h
  |some p=>
   rw[e]at h
   obtain⟨l,hl,rfl⟩:=FM.mp h
   rw[gV,gV,Tp hl]
def oR:Option (List P2)->R (List D)
 |some ls=>.ok (ls.map T2)
 |none=>.er ⟨"NoText",[]⟩
theorem To:∀ws:List PySem.Str,(∀w∈ws,Asc w)->O7 b1 k8 Er [] (ws.map .str)=oR (wps ws)
 | [],_=>rfl
 |w::r,h=>by
  have ih:=To r fun x hx=>h x (bI _ hx)
  have e:Er [some (.str w)]=Y5 [.str w]:=by unfold Er;walk_at "dz"
  have l:=vU (h w io);show(R.of (b1 (.str w))).bind _=_;simp only[b1,R.of_some,R.bind_ok,k8,Bm,FQ,ng,GK,List.cons_append,HM];rw[e,l,ih];simp only[wps];cases wp w with
  |none=>rfl
  |some p=>
   simp only[R.bind_ok]
   cases wps r with
   |none=>rfl
   |some ls=>rfl
theorem jD(A0:Sl):∀(ws:List PySem.Str)(ls:List P2)(s2 s3 s4 s5:Sl),(∀w∈ws,Asc w)->ls.length+ws.length<=1000->(wps ws=none/\l6 (.n 2) S5 (ws.map .str) [A0,.ow (.lst (ls.map T2)),s2,s3,s4,s5]=.rt .non)\/∃ps pQ gB pP mE,wps ws=some ps/\l6 (.n 2) S5 (ws.map .str) [A0,.ow (.lst (ls.map T2)),s2,s3,s4,s5]=.nx [A0,.ow (.lst ((ls++ps).map T2)),pQ,gB,pP,mE]
 | [],ls,s2,s3,s4,s5,_,_=>.inr ⟨[],s2,s3,s4,s5,rfl,by rw[GL];rfl⟩
 |w::r,ls,s2,s3,s4,s5,h,hl=>by
  rw[gV]at hl;rw[ng,Kb];simp only[Ii,Ih];rcases y7j A0 (h w io) ls (by omega) s3 s4 s5 with⟨h1,h2⟩ |⟨p,t3,t4,t5,h1,h2⟩
  . left;rw[h2];refine⟨?_,rfl⟩;simp only[wps,h1]
  . rw[h2,W9];rcases jD A0 r (ls++[p]) _ t3 t4 t5 (fun x hx=>h x (bI _ hx)) (by rw[θ,GQ];omega) with⟨h3,h4⟩ |⟨ps,u2,u3,u4,u5,h3,h4⟩
    . left;refine⟨?_,h4⟩;simp only[wps,h1,h3,Option.map_none]
    . right;refine⟨p::ps,u2,u3,u4,u5,?_,?_⟩
      . simp only[wps,h1,h3,FC]
      . rw[h4,HU];rfl
def oL:Option (List P2)->D
 |some ls=>.lst (ls.map T2)
 |none=>.non
def y4l(h:∀w∈ws,Asc w)(hl:ws.length<=1000):Y9 [.lst (ws.map .str)]=.ok (oL (wps ws)):=by
 have z:=jD (.im (.lst (ws.map .str))) ws [] .em .em .em .em h (by rw[GF];omega);rw[GK]at z;generalize ws.map D.str=X at *;unfold Y9 Zt;walk_at "dz";rcases z with⟨h1,h2⟩ |⟨ps,s2,s3,s4,s5,h1,h2⟩
 . rw[h1,h2];walk_at "dz";rfl
 . rw[h1,h2];simp only[oL,HM];generalize ps.map T2=Y;walk_at "dz"
def y13{w f:PySem.Str}(A:Asc w)(h:cs w=cs f++[58])(hf:i6 (cs f)=true):N1 [.str w]=.ok (.int (vl (cs f))):=by
 have e:l9 w none (some (-1))=f:=W0 (Vs h);have Af:Asc f:=S1 (p:=[]) (q:=[58]) A h;have s:o7 (.str w) none (some (-1))=some (.str f):=by rw[<-e];exact slS (by rw[e,p6];exact Af.l)
 have en:L8 w [.str (PySem.Str.ofString ":")]=some (.bl true):=by rw[Q6];simp only[L8];rw[(Ro w 58).mpr ⟨_,h⟩]
 have fb:=Hj Af;rw[hf]at fb;have it:=Cs hf;unfold N1 Ow;walk_at "dz";simp only[eMt];walk_at "dz";rw[en];walk_at "dz";rw[s];walk_at "dz";rw[fb];walk_at "dz";rw[s];walk_at "dz";rw[it];walk_at "dz"
def y14{w:PySem.Str}(A:Asc w)(h:∀f:PySem.Str,cs w=cs f++[58]->i6 (cs f)=false):N1 [.str w]=.er ⟨"NoText",[]⟩:=by
 unfold N1 Ow;walk_at "dz";simp only[eMt,D3];walk_at "dz";rw[Q6];cases en:PySem.Txt.endswith w ⟨#[58]⟩
 . rw[show L8 w [.str ⟨#[58]⟩]=some (.bl false) by simp only[L8,en]];walk_at "dz"
 . rw[show L8 w [.str ⟨#[58]⟩]=some (.bl true) by simp only[L8,en]];obtain⟨r,hr⟩:=(Ro w 58).mp en;obtain⟨f,hf⟩:∃f:PySem.Str,f=l9 w none (some (-1)):=⟨_,rfl⟩;have cf:cs f=r:=by rw[hf,Vs hr]
   rw[<-cf]at hr;have Af:Asc f:=S1 (p:=[]) (q:=[58]) A hr;have s:o7 (.str w) none (some (-1))=some (.str f):=by rw[hf];exact slS (by rw[<-hf,p6];exact Af.l)
   have fb:=Hj Af;rw[h f hr]at fb;walk_at "dz";rw[s];walk_at "dz";rw[fb];walk_at "dz"
def Vq{α:Type}(ls:List α)(f:α->D)(n:Nat)(hn:n<=20)(h1:∀x,(f x).oi=true)(h2:∀x,(f x).dep<=n)(h3:∀x y,(i7 (f x) (f y)).isSome=true)(h4:((ls.map f).all isI||(ls.map f).all K4||(ls.map f).all Q8)=true)(hl:ls.length<64):G5 [.lst (ls.map f)]=some (.lst (E5 (ls.map f))):=by
 have ok:Bq (ls.map f)=true:=by unfold Bq;rw[Sc _ _ h1,gR (EZ (Ku ls f n h2) hn),Ka ls f (fun d=>(ls.map f).all fun e=>(i7 d e).isSome) (fun x=>Ka _ _ _ fun y=>h3 x y),h4,gc,gR hl];rfl
 simp only[G5,ok,FQ]
def zo(ls:List P2)(hl:ls.length<64):G5 [.lst (ls.map T2)]=some (.lst ((so2 ls).map T2)):=by rw[Vq ls T2 1 (by decide) y44 Bf y00 (by rw[Ka ls T2 K4 fun _=>rfl,Bool.or_true,Bool.true_or]) hl,wu]
def y15(d:Int)(ns:List Int):V2 [L ns,.int d]=some (.int (mxD d ns)):=by simp only[L,V2,Yo,FC]
def Vp(t:DE->R Bool)(g:DS->SR)(n:Nat)(ρ:DS):J6 t g (n+1) ρ=(t (see ρ)).toS fun b=>if b=true then(g ρ).itr (J6 t g n) else .nx ρ:=by rw[J6];congr 1
def Rj(xs:List Int)(v:Int):dIx (L (xs++[v])) (.int (-1))=some (.int v):=by
 have:(xs++[v]).map D.int=xs.map D.int++[D.int v]:=by simp
 simp only[L,dIx,dOr,y3,this,zf]
def Am(n a b:Int):Bool:=!(decide (a<0)||decide (n<=b))&&(decide (b=a+1)||(decide (a=0)&&decide (b=n - 1)))
def y16(n:Int)(p:P2):Bz [.int n,T2 p]=.ok (.bl (Am n p.1 p.2)):=by unfold Bz Xb Am;walk_at "dz";generalize (decide (p.1<0)||decide (n<=p.2))=c;cases c<;>rfl
def yg{n a b:Int}:Am n a b=true↔(0<=a/\b<n)/\(b=a+1\/(a=0/\b=n - 1)):=by simp only[Am,gq,HH,IB,HP,pW,FT];rw[Int.not_lt,Int.not_le]
def yf(r:Int)(p:P2):By [.int r,T2 p]=.ok (.bl (z6 r p)):=by
 have hs:=y16 r p;have e:z6 r p=if decide (0<=p.1)=true then(if decide (p.1<p.2)=true then(decide (p.2<r)&&!Am r p.1 p.2) else false) else false:=by
  rw[GG];unfold z6;rw[pW];by_cases c1:0<=p.1
  . by_cases c2:p.1<p.2
    . rw[ξ (gR c1),ξ (gR c2),gq,HH,pW,<-Bool.not_eq_true,yg];exact⟨fun h=>⟨h.2.2.1,fun z=>h.2.2.2 z.2⟩,fun h=>⟨c1,c2,h.1,fun z=>h.2 ⟨⟨c1,h.1⟩,z⟩⟩⟩
    . rw[ξ (gR c1),decide_eq_false c2];simp;omega
  . rw[decide_eq_false c1];simp;omega
 unfold By Xa;walk_at "dz";rw[hs];rw[e];by_cases c1:0<=p.1
 . rw[gR c1];by_cases c2:p.1<p.2
   . rw[gR c2];simp only[FQ];walk_at "dz"
   . rw[decide_eq_false c2];simp only[FQ,EW,FV];walk_at "dz"
 . rw[decide_eq_false c1];simp only[EW,FV];walk_at "dz"
def vT(c:Int)(p:P2)(ls:List P2)(hl:ls.length<=1000):Ck [.int c,T2 p,.lst (ls.map T2)]=.ok (.int (nxt ls p c)):=by
 unfold Ck jr;walk_at "dz";rw[ξ (by rw[gc];omega),Xj (en:=T2) (bs:=fun l=>[T2 l]) (p:=pk c p) (g:=fun l=>D.int l.2) ls (fun x _=>rfl) (fun l _=>by
  unfold jx;simp only[T2];walk_at "dz";rfl) (fun l _ _=>by
  unfold jw;simp only[T2];walk_at "dz")]
 simp only[R.bind_ok];rw[show D.lst ((ls.filter (pk c p)).map fun l=>D.int l.2)=L (ends c p ls) by unfold L ends;rw[Io];rfl];walk_at "dz";rw[y15];walk_at "dz";rfl
def Vo(ls:List P2)(p:P2)(xs:List Int)(v:Int):Gg [some (T2 p),some (.lst (ls.map T2)),some (L (xs++[v]))]=.ok (decide (v<p.2)):=by unfold Gg;simp only[T2];walk_at "dz";rw[Rj];walk_at "dz"
def ye(ls:List P2)(hl:ls.length<=1000)(p:P2)(xs:List Int)(v:Int)(hx:xs.length<1000):Gf [.im (T2 p),.im (.lst (ls.map T2)),.ow (L (xs++[v]))]=.nx [.im (T2 p),.im (.lst (ls.map T2)),.ow (L (xs++[v]++[nxt ls p v]))]:=by unfold Gf;walk_at "dz";rw[Rj];walk_at "dz";rw[vT _ _ _ hl];walk_at "dz";rw[Ho (by simp;omega)];walk_at "dz"
def yd(ls:List P2)(hl:ls.length<=1000)(p:P2){c:Int}{l:List Int}{es:List P2}(h:Ch p.2 (nxt ls p) c l es):∀(f:Nat)(xs:List Int),l.length<=f->xs.length+l.length<1000 ->
  J6 Gg Gf f [.im (T2 p),.im (.lst (ls.map T2)),.ow (L (xs++[c]))]=.nx [.im (T2 p),.im (.lst (ls.map T2)),.ow (L (xs++l))]:=by
 induction h with
 |last=>
  intro f xs hf hx
  obtain⟨f,rfl⟩:∃g,f=g+1:=⟨f - 1,by simp at hf;omega⟩
  rw[Vp]
  simp only[Ra,Uh,Ws,Rb]
  rw[Vo,Kk,decide_eq_false (show ¬p.2<p.2 by omega),ψ η]
 | @step c l es h r ih=>
  intro f xs hf hx
  rw[gV]at hf hx
  obtain⟨f,rfl⟩:∃g,f=g+1:=⟨f - 1,by omega⟩
  rw[Vp]
  simp only[Ra,Uh,Ws,Rb]
  rw[Vo,Kk,gR h,ξ rfl,ye ls hl p xs c (by omega),W9,ih f (xs++[c]) (by omega) (by simp;omega)]
  simp
def yc(ls:List P2)(hl:ls.length<=1000)(p:P2){l:List Int}{es:List P2}(h:Ch p.2 (nxt ls p) p.1 l es)(hn:l.length<=100):Cj [T2 p,.lst (ls.map T2)]=.ok (TuI l):=by unfold Cj Zv;walk_at "dz";have w:=yd ls hl p h 1000 [] (by omega) (by simp;omega);rw[HM,HM]at w;rw[show D.lst [D.int p.1]=L [p.1] from rfl];unfold Dr;rw[w];walk_at "dz";rfl
def yb{n:Int}{ls:List P2}(I:Lns n ls)(hn:n<=60):∃(C:P2->List Int)(E:P2->List P2),∀t,y4 n ls t->Ch t.2 (nxt ls t) t.1 (C t) (E t)/\(C t).length<=60:=by
 have ex:∀t,∃q:List Int×List P2,y4 n ls t->Ch t.2 (nxt ls t) t.1 q.1 q.2/\q.1.length<=60:=fun t=>by
  by_cases h:y4 n ls t
  . have tt:=I.top (a:=t.1) (b:=t.2) h;have X:=kP I t;obtain⟨l,es,r⟩:=Ch.ex X.up (t.2 - t.1).toNat t.1 (by omega) (ζ _);have:=r.len X.up;exact⟨(l,es),fun _=>⟨r,by simp only;omega⟩⟩
  . exact⟨([],[]),fun z=>absurd z h⟩
 exact⟨fun t=>(Classical.choose (ex t)).1,fun t=>(Classical.choose (ex t)).2,fun t ht=>Classical.choose_spec (ex t) ht⟩
def vS(l:List Int):(TuI l).dep<=1:=by simp only[TuI,D.dep,(Ln l).2];omega
def vR(a b:List Int):(i7 (TuI a) (TuI b)).isSome=true:=by obtain⟨r,h⟩:=Xh a b;simp only[TuI,i7,h,Option.isSome_some]
def soT{α:Type}(F:α->List Int)(ts:List α):List α:=R4 (fun a b=>ltT (TuI (F a)) (TuI (F b))) ts
def Vn{α:Type}(F:α->List Int)(ts:List α):(soT F ts).Perm ts:=Nb _ _
def ya{α:Type}(F:α->List Int)(ts:List α)(hF:∀t∈ts,F t≠[])(hl:ts.length<64):G5 [.lst (ts.map fun t=>TuI (F t))]=some (.lst ((soT F ts).map fun t=>TuI (F t))):=by
 rw[Vq ts (fun t=>TuI (F t)) 1 (by omega) (fun t=>y05 _) (fun t=>vS _) (fun _ _=>vR _ _) ?_ hl,Ml (f:=fun t=>TuI (F t))]
 . rfl
 . rw[HP,HP,EV,EV];refine .inl (.inr ?_);intro d hd;obtain⟨t,ht,rfl⟩:=GV.mp hd;have:=hF t ht;cases e:F t with
   |nil=>exact absurd e this
   |cons a r=>simp only[TuI,ng,K4]
def xZ{n:Int}{ls:List P2}(hl:ls.length<=57){C:P2->List Int}{E:P2->List P2}(hC:∀t,y4 n ls t->Ch t.2 (nxt ls t) t.1 (C t) (E t)/\(C t).length<=60) :
  Bo [.int n,.lst (ls.map T2)]=.ok (.lst ((soT C ((0,n - 1)::ls)).map fun t=>TuI (C t))):=by
 unfold Bo Tu
 walk_at "dz"
 rw[show n9 (D.lst [D.tup [D.int 0,D.int (n - 1)]]) (D.lst (ls.map T2))=some (.lst (((0,n - 1)::ls).map T2)) by simp only[n9];rw[ξ (by simp;omega)];rfl]
 obtain⟨bi,ht⟩:∃bi:List P2,bi=(0,n - 1)::ls:=⟨_,rfl⟩
 have ay:bi.length<=58:=by rw[ht,gV];omega
 rw[<-ht]
 have kp:keeps true (D.lst (bi.map T2))=true:=by rw[Yb];exact F4 _ _ fun x _=>F3 x
 simp only[R.of_some,Kk,kp]
 walk_at "dz"
 rw[ξ (by rw[gc];omega),S2 (en:=T2) (bs:=fun q=>[T2 q]) (g:=fun q=>TuI (C q)) bi (fun x _=>rfl) (fun q hq=>by unfold Wz;walk_at "dz";have:=hC q (by rw[ht]at hq;exact ee.mp hq);exact yc ls (by omega) q this.1 (by omega))]
 walk_at "dz"
 rw[ya C bi (fun t gn=>by have:=(hC t (by rw[ht]at gn;exact ee.mp gn)).1.ends.2;obtain⟨m,e⟩:=this;rw[e];simp) (by rw[ht,gV];omega)]
 walk_at "dz"
def Ri(a b:Int):Be [.int a,.int b]=.ok (T2 (nr (a,b))):=by
 unfold Be Rq nr;walk_at "dz";by_cases h:a<b
 . rw[gR h,ξ h];walk_at "dz";rfl
 . rw[decide_eq_false h,ψ h];walk_at "dz";rfl
def jC(c x:Int):x+(if decide (c<x)=true then 1 else 0)=sh c x:=by
 unfold sh;by_cases h:c<x
 . rw[gR h,ξ rfl,ξ h]
 . rw[decide_eq_false h,ψ η,ψ h];omega
def G3{a r:DS->SR}{ρ av:DS}(h:a ρ=.nx av):a9 a r ρ=r av:=by rw[xR,h,xQ]
def Jo{α:Type}(f:α->D)(d:α)(xs:List α):((zD 0 (xs.map f).length).zip (xs.map f)).map (fun p=>D.tup [p.1,p.2])=(List.range xs.length).map fun (i:Nat)=>D.tup [.int (i:Int),f (xs.getD i d)]:=by
 have e:xs.map f=(List.range xs.length).map fun i=>f (xs.getD i d):=by
  conv=>lhs;rw[ql xs d]
  rw[Io];rfl
 rw[e,yp]
def J4(ns:List Int)(k:Int)(hk:0<=k):p7 [.scr ns,.int k]=.ok (.int (ns.getD k.toNat 0)):=by
 unfold p7 Zg;walk_at "dz";by_cases h:k<ns.length
 . rw[ξ (by simpa using h),ww hk h];rfl
 . rw[ψ (by simpa using h)];rw[ro,FN (by omega)];rfl
def xY(cells:List Int)(m:Int)(cs:List Int)(x i:Int)(hx:0<=x/\x<2147483647)(hi:0<=i/\i<1000)(hc:cs.length<1000) :
  ∃y:Int,(0<=y/\y<2147483647)/\Gm [.im (L cells),.im (.int m),.ow (L cs),.im (.int x),.im (.int i)]=.nx [.im (L cells),.im (.int m),.ow (L (cs++[y])),.im (.int y),.im (.int i)]:=by
 unfold Gm
 walk_at "dz"
 rw[Hm (by omega),Hm (by omega)]
 walk_at "dz"
 rw[k7 (by omega)]
 walk_at "dz"
 by_cases h:i<cells.length
 . rw[gR h];walk_at "dz";rw[jO hi.1 (by omega)];walk_at "dz";rw[k7 (by omega)];walk_at "dz";rw[Ho (by omega)];walk_at "dz";exact⟨_,⟨FE _ (by decide),EY _ (by decide)⟩,rfl⟩
 . rw[decide_eq_false h];walk_at "dz";rw[Ho (by omega)];walk_at "dz";exact⟨_,⟨FE _ (by decide),EY _ (by decide)⟩,rfl⟩
def xX(cells:List Int)(m:Nat)(hm:m<=57):∃st:List Int,st.length=m/\Z5 [L cells,.int (m:Int)]=.ok (L st):=by
 unfold Z5 jg;walk_at "dz";rw[y43 (m:Int) (by omega) (by walk_at "dz")];walk_at "dz";simp only[zD];obtain⟨av,e,cs,x,s4,⟨hl,hx⟩,hr⟩:=Vy (tg:=.n 4) (g:=Gm) m (fun (i:Nat)=>D.int (0+(i:Int)))
  (fun k ρ=>∃(cs:List Int)(x:Int)(s4:Sl),(cs.length=k/\0<=x/\x<2147483647)/\ρ=[.im (L cells),.im (.int (m:Int)),.ow (L cs),.im (.int x),s4])
  [.im (L cells),.im (.int (m:Int)),.ow (L []),.im (.int 7),.em] ⟨[],7,.em,⟨rfl,by omega,by omega⟩,rfl⟩ (by rintro i hi ρ ⟨cs,x,s4,⟨hl,hx⟩,rfl⟩;obtain⟨y,hy,e⟩:=xY cells (m:Int) cs x (0+(i:Int)) hx (by omega) (by omega);exact⟨_,_,rfl,Or.inl e,⟨_,_,_,⟨by simp[hl],hy⟩,rfl⟩⟩)
 rw[show(D.lst []:D)=L [] from rfl,Int.toNat_natCast,e,hr];walk_at "dz";exact⟨cs,hl,rfl⟩
def Jn{xs:List P2}{x:Int}(y:P2)(h0:0<=x)(h1:x<=xs.length)(h:xs.length<1000):T1 (.lst (xs.map T2)) [.int x,T2 y]=some (.lst ((xs.take x.toNat++y::xs.drop x.toNat).map T2)):=by simp only[T1,gc];rw[ξ (by refine⟨by omega,by omega,by omega⟩)];congr 2;simp only[C6,Ac,gc,ψ (show ¬x<0 by omega),GA,IW,ng,List.map_drop];rw[Nat.min_eq_left (by omega)]
def Hh(h:a<b):nr (a,b)=(a,b):=by unfold nr;rw[ξ h]
def Cr(h:¬a<b):nr (a,b)=(b,a):=by unfold nr;rw[ψ h]
def vQ:z6 n (nr (a,b))=(decide (0<=v6 a [b])&&(decide (r9 a [b]<n)&&(decide (2<=r9 a [b] - v6 a [b])&&decide (r9 a [b] - v6 a [b]<n - 1)))):=by
 rw[GG];unfold z6;simp only[gq,pW];have e1:v6 a [b]=if b<a then b else a:=rfl
 have e2:r9 a [b]=if b > a then b else a:=rfl
 by_cases h:a<b
 . rw[Hh h,e1,e2,ψ (by omega),ξ h];simp only;omega
 . by_cases h2:a=b
   . rw[Cr h,e1,e2,ψ (by omega),ψ (by omega)];simp only;omega
   . rw[Cr h,e1,e2,ξ (by omega),ψ (by omega)];simp only;omega
def crs(p q:P2):Bool:=decide (p=q)||decide ((p.1<q.1/\q.1<p.2/\p.2<q.2)\/(q.1<p.1/\p.1<q.2/\q.2<p.2))
def vP(p q:P2):Bp [T2 p,T2 q]=.ok (.bl (decide ((p.1<q.1/\q.1<p.2/\p.2<q.2)\/(q.1<p.1/\p.1<q.2/\q.2<p.2)))):=by unfold Bp Tv;simp only[T2];walk_at "dz";by_cases a1:p.1<q.1<;>by_cases a2:q.1<p.2<;>by_cases a3:p.2<q.2<;>by_cases b1:q.1<p.1<;>by_cases b2:p.1<q.2<;>by_cases b3:q.2<p.2<;>simp[a1,a2,a3,b1,b2,b3]
def kM(p q:P2):dEq (T2 p) (T2 q)=some (.bl (decide (p=q))):=by simp only[T2];rw[xP];congr 2;rw[GG];simp[Prod.ext_iff]
def jB(a c e:Int):dIn true (.int a) (.tup [.int c,.int e])=some (.bl (!((c==a)||(e==a)))):=by unfold dIn dOr Gq;simp only[D.pl,pls,l7,D.dep,GJ,true_and,ξ (show max 0 (max 0 0)<=20 by decide),List.any_cons,List.any_nil,eqD,Bool.or_false,FQ]
def bt(p:P2)(x:Int):Int:=if(decide (p.1<x)&&decide (x<p.2))=true then 1 else 0
def Rh(p:P2)(x:Int):Oq [some (.int x),some (.tup [.int p.1,.int p.2])]=.ok (.int (bt p x)):=by unfold Oq bt;walk_at "dz"
def vO{p q:P2}(hp:p.1<p.2)(hq:q.1<q.2):crs p q=(decide (p=q)||(decide (bt p q.1+(bt p q.2+0)=1)&&(!((q.1==p.1)||(q.2==p.1))&&!((q.1==p.2)||(q.2==p.2))))):=by unfold crs;congr 1;rw[GG];obtain⟨a,b⟩:=p;obtain⟨c,e⟩:=q;simp only[gq,HH,IB,GD,pW,bt];simp only at hp hq;by_cases a1:a<c<;>by_cases a2:c<b<;>by_cases a3:a<e<;>by_cases a4:e<b<;>simp[a1,a2,a3,a4]<;>omega
def Rg{p q:P2}(hp:p.1<p.2)(hq:q.1<q.2):Y7 [T2 p,T2 q]=.ok (.bl (crs p q)):=by
 have ns:=jB p.1 q.1 q.2;have nt:=jB p.2 q.1 q.2;have CJ:=kM p q;simp only[T2]at CJ;unfold Y7 Zf;simp only[T2];walk_at "dz";rw[Rh,Rh];walk_at "dz";rw[show Gp [D.lst [D.int (bt p q.1),D.int (bt p q.2)]]=some (.int (bt p q.1+(bt p q.2+0))) from rfl];walk_at "dz";have ep:(decide (p.1=q.1)&&decide (p.2=q.2))=decide (p=q):=by rw[GG];simp[Prod.ext_iff]
 rw[vO hp hq,ep,ns,nt];generalize decide (p=q)=b1;generalize decide (bt p q.1+(bt p q.2+0)=1)=b2;generalize (q.1==p.1||q.2==p.1)=b3;generalize (q.1==p.2||q.2==p.2)=b4;cases b1<;>cases b2<;>cases b3<;>cases b4<;>rfl
def fc:List P2->List P2->Option (P2×P2)
 |_,[]=>none
 |pre,q::r=>match pre.find? (fun p=>crs p q) with
  |some p=>some (p,q)
  |none=>fc (pre++[q]) r
def Vm(xs:List α)(k:Nat)(h:k<=xs.length):y0 xs none (some (k:Int))=xs.take k:=by unfold y0;simp only[HT.sIx,ψ (show ¬((k:Int)<0) by omega),Int.toNat_natCast,II,Nat.sub_zero];rw[Nat.min_eq_left h]
def y4m(A0 s1:Sl)(p q:P2):Aa [A0,s1,.im (T2 q),.im (T2 p)]=if crs p q=true then .er ⟨"Crossed",[T2 p,T2 q]⟩ else .nx [A0,s1,.im (T2 q),.im (T2 p)]:=by
 unfold Aa;have e:=kM p q;have c:=vP p q;have nl:((T2 p).noL&&(T2 q).noL)=true:=by simp only[F3,GJ]
 have pl:pls [T2 p,T2 q]=true:=by simp only[pls,Ap,GJ]
 unfold crs;generalize T2 p=P at *;generalize T2 q=Q at *;walk_at "dz";rw[e];walk_at "dz";cases decide (p=q)
 . walk_at "dz";rw[c];walk_at "dz";cases decide ((p.1<q.1/\q.1<p.2/\p.2<q.2)\/(q.1<p.1/\p.1<q.2/\q.2<p.2))
   . walk_at "dz"
   . walk_at "dz";simp only[M5];walk_at "dz";rw[ξ ⟨rfl,nl,pl⟩]
 . walk_at "dz";simp only[M5];walk_at "dz";rw[ξ ⟨rfl,nl,pl⟩]
theorem kL(A0 s1:Sl)(q:P2):∀(pre:List P2)(s3:Sl),(∃p,pre.find? (fun p=>crs p q)=some p/\l6 (.n 3) Aa (pre.map T2) [A0,s1,.im (T2 q),s3]=.er ⟨"Crossed",[T2 p,T2 q]⟩)\/(pre.find? (fun p=>crs p q)=none/\∃gB,l6 (.n 3) Aa (pre.map T2) [A0,s1,.im (T2 q),s3]=.nx [A0,s1,.im (T2 q),gB])
 | [],s3=>.inr ⟨rfl,s3,rfl⟩
 |p::r,s3=>by
  rw[ng,Kb];simp only[Ii,Ih];rw[y4m,GX];cases h:crs p q
  . simp only[EW,FV,W9];exact kL A0 s1 q r _
  . exact .inl ⟨p,rfl,rfl⟩
theorem kK(ls:List P2):∀(pre r:List P2)(s1 s2 s3:Sl),pre++r=ls->ls.length<=1000 ->
  (∃p q,fc pre r=some (p,q)/\l6 (.t [1,2]) Cl ((List.range' pre.length r.length).map fun (i:Nat)=>D.tup [.int (i:Int),T2 (ls.getD i (0,0))]) [.im (.lst (ls.map T2)),s1,s2,s3]=.er ⟨"Crossed",[T2 p,T2 q]⟩) \/
  (fc pre r=none/\∃CK pQ gB,l6 (.t [1,2]) Cl ((List.range' pre.length r.length).map fun (i:Nat)=>D.tup [.int (i:Int),T2 (ls.getD i (0,0))]) [.im (.lst (ls.map T2)),s1,s2,s3]=.nx [.im (.lst (ls.map T2)),CK,pQ,gB])
 |pre,[],s1,s2,s3,_,_=>.inr ⟨rfl,s1,s2,s3,rfl⟩
 |pre,q::r,s1,s2,s3,e,hl=>by
  have hq:ls.getD pre.length (0,0)=q:=by rw[<-e];simp
  have hp:pre.length<=(ls.map T2).length:=by rw[<-e];simp
  have ht:(ls.map T2).take pre.length=pre.map T2:=by rw[<-e,GA,List.take_left' (by simp)]
  have ih:=kK ls (pre++[q]) r;rw[θ,GQ]at ih;rw[gV,List.range'_succ,ng,Ue,hq];simp only[Ii,Ih];have b:Cl [.im (.lst (ls.map T2)),.im (.int (pre.length:Int)),.im (T2 q),s3]=l6 (.n 3) Aa (pre.map T2) [.im (.lst (ls.map T2)),.im (.int (pre.length:Int)),.im (T2 q),s3]:=by unfold Cl;generalize hX:ls.map T2=X at *;walk_at "dz";rw[show dSl (.lst X) none (some (pre.length:Int))=some (.lst (X.take pre.length)) by rw[<-Vm X pre.length hp];rfl,ht];generalize T2 q=Q;generalize hY:pre.map T2=Y;walk_at "dz"
  rw[b];unfold fc;rcases kL (.im (.lst (ls.map T2))) (.im (.int (pre.length:Int))) q pre s3 with⟨p,h1,h2⟩ |⟨h1,gB,h2⟩
  . rw[h1,h2];exact .inl ⟨p,q,rfl,rfl⟩
  . rw[h1,h2,W9];exact ih _ _ _ (by rw[<-e];simp) hl
def y4n(ls:List P2)(hl:ls.length<=1000):Z9 [.lst (ls.map T2)]=match fc [] ls with |some (p,q)=>.er ⟨"Crossed",[T2 p,T2 q]⟩ |none=>.ok .non:=by
 unfold Z9 ju;have u:=kK ls [] ls .em .em .em rfl hl;rw[GF,<-List.range_eq_range']at u;have en:=Jo T2 (0,0) ls;rw[<-en]at u;generalize ls.map T2=X at *;walk_at "dz";simp only[iEn];walk_at "dz";rcases u with⟨p,q,h1,h2⟩ |⟨h1,s1,s2,s3,h2⟩
 . rw[h1,h2];walk_at "dz"
 . rw[h1,h2];walk_at "dz"
def xW(p q:P2):crs p q=crs q p:=by
 unfold crs;rw[GG];simp only[HP,pW];constructor
 . rintro (h |h |h)
   . exact .inl h.symm
   . exact .inr (.inr h)
   . exact .inr (.inl h)
 . rintro (h |h |h)
   . exact .inl h.symm
   . exact .inr (.inr h)
   . exact .inr (.inl h)
theorem Tn:∀{pre r:List P2},fc pre r=none->(∀p∈pre,∀q∈r,crs p q=false)/\r.Pairwise fun p q=>crs p q=false
 |pre,[],_=>⟨fun p _ q hq=>(by cases hq),.nil⟩
 |pre,q::r,h=>by
  unfold fc at h;split at h
  . cases h
  . rename_i hf;rw[List.find?_eq_none]at hf;obtain⟨h1,h2⟩:=Tn h;refine⟨fun p hp y hy=>?_,FY.mpr ⟨fun y hy=>h1 q (by simp) y hy,h2⟩⟩;rcases ee.mp hy with rfl |hy
    . simpa using hf p hp
    . exact h1 p (by simp[hp]) y hy
def y1a(h3:3<=n)(hl:∀p∈ls,z6 n p=true)(hf:fc [] ls=none):Lns n ls:=by
 have pw:=(Tn hf).2;have lin:∀a b,(a,b)∈ls->0<=a/\a+2<=b/\b<=n - 1/\¬(a=0/\b=n - 1):=fun a b h=>by have:=ln_iff.mp (hl _ h);omega
 have nc:∀p∈ls,∀q∈ls,p≠q->crs p q=false:=by
  intro p hp q hq aP;obtain⟨i,hi,rfl⟩:=List.mem_iff_getElem.mp hp;obtain⟨j,hj,rfl⟩:=List.mem_iff_getElem.mp hq;rcases Nat.lt_trichotomy i j with z |z |z
  . exact IP.mp pw i j hi hj z
  . subst z;exact absurd rfl aP
  . rw[xW];exact IP.mp pw j i hj hi z
 refine⟨h3,lin,fun a b c d h1 h2=>?_,?_⟩
 . by_cases e:(a,b)=(c,d)
   . cases e;omega
   . have:=nc _ h1 _ h2 e;unfold crs at this;simp only[IB,FT]at this;exact fun z=>this.2 (.inl z)
 . refine pw.imp fun {p q} h e=>?_
   subst e;unfold crs at h;simp at h
def vN(l:List Int):k9 [TuI l]=some (.int (l.length:Int)):=by unfold TuI;rw[xL,gc]
def Tm(l:List Int):(TuI l).noL=true:=by simp only[TuI,D.noL];exact F4 _ _ fun x _=>Wr x
def y1b(I:Lns n ls)(hn:n<=60)(hl:(ls.length:Int)+3<n):∃w:P2,Y4 [.int n,.lst (ls.map T2)]=.ok (T2 w)/\z6 n w=true/\∀p∈ls,crs p w=false:=by
 obtain⟨C,E,hC⟩:=yb I hn;have hR:∀t,y4 n ls t->Rm n ls t (C t):=fun t ht=>Rm.of I ht (kP I t) (hC t ht).1
 have er:=xZ (by omega) hC;obtain⟨t0,CL,CM⟩:=wb I hR hl;obtain⟨bi,mv⟩:∃bi,bi=soT C ((0,n - 1)::ls):=⟨_,rfl⟩;have mt:∀t,t∈bi↔y4 n ls t:=fun t=>by rw[mv,(Vn C _).mem_iff,ee];rfl
 have ax:bi.length<=58:=by rw[mv,(Vn C _).length_eq,gV];omega
 rw[<-mv]at er;have flt:=Xj (bn:=b1) (t:=Om) (f:=Ol) (cs:=[]) (en:=fun t:P2=>TuI (C t)) (bs:=fun t=>[TuI (C t)]) (p:=fun t=>decide (3<(C t).length)) (g:=fun t=>TuI (C t)) bi (fun t _=>rfl) (fun t _=>by
  unfold Om;generalize hX:C t=l;have:=vN l;generalize TuI l=X at *;walk_at "dz";rw[this];walk_at "dz";congr 1;rw[decide_eq_decide];omega) (fun t _ _=>by
  unfold Ol;generalize TuI (C t)=X;walk_at "dz")
 cases hF:bi.filter (fun t=>decide (3<(C t).length)) with
 |nil=>
  have:t0∈bi.filter (fun t=>decide (3<(C t).length)):=HN.mpr ⟨(mt t0).mpr CL,by simpa using CM⟩
  rw[hF]at this;cases this
 |cons t rest=>
  have hm:t∈bi.filter (fun t=>decide (3<(C t).length)):=by rw[hF];simp
  obtain⟨h1,h2⟩:=HN.mp hm
  have tp:=(mt t).mp h1
  have h2:3<(C t).length:=by simpa using h2
  obtain⟨r0,r1,r2,r3,q,eD⟩:∃r0 r1 r2 r3 q,C t=r0::r1::r2::r3::q:=by
   match C t,h2 with
   |a::b::c::d::q,_=>exact⟨a,b,c,d,q,rfl⟩
  have fo:=wa I (hR t tp) eD (by simp)
  refine⟨(r0,r2),?_,ln_iff.mpr (by omega),fun p hp=>?_⟩
  . rw[hF,ng]at flt;have k1:dIx (TuI (C t)) (.int 0)=some (.int r0):=by rw[eD];exact Ug _ _
    have k2:dIx (TuI (C t)) (.int 2)=some (.int r2):=by rw[eD];exact xN _ _ _ _
    have n1:=Tm (C t);have n2:i3 (rest.map fun t=>TuI (C t))=true:=F4 _ _ fun x _=>Tm _
    generalize TuI (C t)=W at *;generalize (rest.map fun t=>TuI (C t))=RR at *;have hL:((bi.map fun t=>TuI (C t))).length<=100000:=by rw[gc];omega
    generalize hX:(bi.map fun t=>TuI (C t))=XX at *;unfold Y4 Zc;walk_at "dz";rw[er];walk_at "dz";rw[ξ hL,flt];walk_at "dz";rw[n1,n2];walk_at "dz";rw[k1,k2];walk_at "dz";rfl
  . have:=fo.2.2.2.2 p.1 p.2 hp;unfold crs;simp only[IB,FT];refine⟨fun e=>this.1 (by rw[e];exact⟨rfl,rfl⟩),fun z=>?_⟩;rcases z with z |z
    . exact this.2.1 z
    . exact this.2.2 z
abbrev du0:DS->SR:=(sIf (bOr (o9 (c8 l5 (eUn (m5 "str") (a5 0)))) (c8 asB (eOp N9 (eC (.str ":")) (a5 0)))) (e7 [] (i5 (a6 (eC (.str "text")) a8))) sNx)
abbrev du1:DS->SR:=(c5 false 1 [true] (eMt U7 (a5 0) (a6 (eC (.str ":")) a8)))
abbrev du2:DS->SR:=(c5 false 2 [true,true] (c9 Q4 (a6 (eSl o7 (a5 0) oNo (oSo (a5 1))) a8)))
abbrev du3:DS->SR:=(c5 true 3 [true,true] (eMt O6 (eSl o7 (a5 0) (oSo (eOp r8 (a5 1) (eC (.int 1)))) oNo) (a6 (eC (.str " ")) a8)))
abbrev du4:DS->SR:=(c5 false 4 [false,false,false,true] (c9 Y9 (a6 (eSl dSl (a5 3) (oSo (eC (.int 1))) oNo) a8)))
abbrev du5:DS->SR:=(sIf (bOr (c8 asB (eOp l4 (a5 2) (eC (.int 0)))) (bOr (c8 asB (eOp dNe (eOp dIx (a5 3) (eC (.int 0))) (eC (.str "")))) (c8 asB (eOp N4 (a5 4) (eC .non))))) (e7 [] (i5 (a6 (eC (.str "text")) a8))) sNx)
abbrev du6:DS->SR:=(sIf (bOr (c8 asB (eOp l4 (a5 2) (eC (.int 3)))) (c8 asB (eOp F6 (a5 2) (eC (.int 60))))) (e7 [] (i5 (a6 (eC (.str "floor")) a8))) sNx)
abbrev du7:DS->SR:=(sIf (o9 (c8 l5 (eCB D7 (a6 (o6 (iL (a5 4)) b1 [2] k8 Ci) a8)))) (e7 [] (i5 (a6 (eC (.str "line")) a8))) sNx)
abbrev du8:DS->SR:=(c5 true 4 [false,false,false,false,true] (o6 (iL (a5 4)) b1 [] k8 Cg))
abbrev du9:DS->SR:=(E2 false [false,false,false,false,true] (iEn (a6 (a5 4) a8)) (.t [5,6]) S4)
abbrev Pj:DS->SR:=(sIf (c8 asB (eOp l4 (eCB k9 (a6 (a5 4) a8)) (eOp E1 (a5 2) (eC (.int 3))))) (e7 [false,false,true,false,true] (i5 (a6 (eC (.str "full")) (a6 (a5 4) (a6 (a5 2) a8))))) sNx)
abbrev Pi:DS->SR:=(e7 [false,false,true,false,true] (i5 (a6 (eC (.str "made")) (a6 (i5 (a6 (a5 2) (a6 (eCB O8 (a6 (eCB G5 (a6 (a5 4) a8)) a8)) a8))) a8))))
def duT:DS->SR:=a9 du6 (a9 du7 (a9 du8 (a9 du9 (a9 Pj Pi))))
def lnP(n:Int)(p:P2):Option P2:=if z6 n (nr p)=true then some (nr p) else none
def y4q(p:P2):Bu [T2 p]=.ok (.bl true):=by
 unfold Bu Vv T2;have w:∀a:Int,P9 [.int a]=.ok (.bl true):=fun a=>rfl
 walk_at "dz";rw[w,w];walk_at "dz";rfl
def xV(n:Int)(p:P2):X8 [.int n,T2 p]=match lnP n p with |some q=>.ok (T2 q) |none=>.er ⟨"NoLine",[]⟩:=by
 obtain⟨a,b⟩:=p;have e2:=y4q (a,b);have pe:=Ri a b;simp only[T2]at e2;unfold X8 Wy;simp only[T2];walk_at "dz";rw[e2];walk_at "dz";rw[Ri];walk_at "dz";rw[show keeps false (T2 (nr (a,b)))=true from F3 (nr (a,b))];walk_at "dz";rw[yf];walk_at "dz";unfold lnP;cases e:z6 n (nr (a,b))
 . simp only[D3];walk_at "dz"
 . walk_at "dz";rfl
def Wt(n:Int)(p:P2):S6 [.int n,T2 p]=.ok (.bl (lnP n p).isSome):=by obtain⟨a,b⟩:=p;unfold S6 jm;simp only[T2];walk_at "dz";rw[show V0 [.tup [.int a,.int b]]=some (.int (v6 a [b])) from rfl];walk_at "dz";have mx:R1 [.tup [.int a,.int b]]=some (.int (r9 a [b])):=rfl;rw[mx];walk_at "dz";rw[mx];walk_at "dz";unfold lnP;rw[vQ];cases decide (0<=v6 a [b])<;>cases decide (r9 a [b]<n)<;>cases decide (2<=r9 a [b] - v6 a [b])<;>cases decide (r9 a [b] - v6 a [b]<n - 1)<;>rfl
def D5(n:Int):List P2->Option (List P2)
 | []=>some []
 |t::r=>match lnP n t with
  |none=>none
  |some p=>(D5 n r).map (p::·)
theorem Vl(n:Int):∀ts:List P2,O7 b1 k8 Y3 [some (.int n)] (ts.map T2)=match D5 n ts with |some ls=>.ok (ls.map T2) |none=>.er ⟨"NoLine",[]⟩
 | []=>rfl
 |t::r=>by
  have ih:=Vl n r;have e:Y3 [some (T2 t),some (.int n)]=X8 [.int n,T2 t]:=by unfold Y3;walk_at "dz"
  have l:=xV n t;show(R.of (b1 (T2 t))).bind _=_;simp only[b1,R.of_some,R.bind_ok,k8,Bm,FQ,ng,GK,List.cons_append,HM];rw[e,l,ih];simp only[D5];cases lnP n t with
  |none=>rfl
  |some p=>
   simp only[R.bind_ok]
   cases D5 n r with
   |none=>rfl
   |some ls=>rfl
def xU(n:Int)(ts:List P2):B6 b1 k8 Ci [some (.int n)] (ts.map T2)=.ok (ts.map fun t=>D.bl (lnP n t).isSome):=
 S2 (bn:=b1) (f:=Ci) (cs:=[some (.int n)]) (en:=T2) (bs:=fun t=>[T2 t]) (g:=fun t=>D.bl (lnP n t).isSome) ts (fun t _=>rfl) (fun t ht=>by unfold Ci;walk_at "dz";exact Wt n t)
theorem Tl(n:Int):∀ts:List P2,(ts.all fun t=>(lnP n t).isSome)=(D5 n ts).isSome
 | []=>rfl
 |t::r=>by rw[List.all_cons,Tl n r];simp only[D5];cases lnP n t<;>cases D5 n r<;>rfl
theorem Vk:∀{ts:List P2}{ls:List P2},D5 n ts=some ls->ls.length=ts.length/\∀p∈ls,z6 n p=true
 | [],ls,h=>by cases h;exact⟨rfl,fun p hp=>(by cases hp)⟩
 |t::r,ls,h=>by
  simp only[D5]at h;cases e:lnP n t with
  |none=>rw[e]at h;cases h
  |some p=>
   rw[e]at h
   obtain⟨l,hl,rfl⟩:=FM.mp h
   obtain⟨h1,h2⟩:=Vk hl
   refine⟨by simp[h1],fun q hq=>?_⟩
   rcases ee.mp hq with rfl |hq
   . unfold lnP at e;split at e
     . rename_i z;cases e;exact z
     . cases e
   . exact h2 q hq
theorem Vj:∀{ts:List P2}{ls:List P2},D5 n ts=some ls->B6 b1 k8 Cg [] (ts.map T2)=.ok (ls.map T2)
 | [],ls,h=>by cases h;rfl
 |t::r,ls,h=>by
  simp only[D5]at h;cases e:lnP n t with
  |none=>rw[e]at h;cases h
  |some p=>
   rw[e]at h
   obtain⟨l,hl,rfl⟩:=FM.mp h
   have ih:=Vj hl
   rw[ng,zx,ih]
   have:Cg [some (T2 t)]=.ok (T2 p):=by
    unfold lnP at e;split at e
    . cases e;obtain⟨a,b⟩:=t;unfold Cg T2;walk_at "dz";have mn:V0 [.tup [.int a,.int b]]=some (.int (v6 a [b])):=rfl;have mx:R1 [.tup [.int a,.int b]]=some (.int (r9 a [b])):=rfl;rw[mn,mx];walk_at "dz";have e1:v6 a [b]=if b<a then b else a:=rfl
      have e2:r9 a [b]=if b > a then b else a:=rfl
      rw[e1,e2];by_cases bA:a<b
      . rw[Hh bA,ψ (by omega),ξ bA]
      . by_cases h2:b<a
        . rw[Cr bA,ξ h2,ψ (by omega)]
        . rw[Cr bA,ψ h2,ψ (by omega),show a=b by omega]
    . cases e
   rw[this]
   rfl
def cD(n:Int)(ls:List P2):D:=.tup [.int n,.tup (ls.map T2)]
def y4r(A0 A1 A2 A3 A4 s5:Sl){p q:P2}(hp:p.1<p.2)(hq:q.1<q.2):Y8 [A0,A1,A2,A3,A4,s5,.im (T2 q),.im (T2 p)]=if crs p q=true then .rt (.tup [.str "crossed",T2 p,T2 q]) else .nx [A0,A1,A2,A3,A4,s5,.im (T2 q),.im (T2 p)]:=by unfold Y8;have e:=Rg hp hq;generalize T2 p=P at *;generalize T2 q=Q at *;walk_at "dz";rw[e];walk_at "dz"
theorem kJ(A0 A1 A2 A3 A4 s5:Sl){q:P2}(hq:q.1<q.2):∀(pre:List P2)(s7:Sl),(∀p∈pre,p.1<p.2)->(∃p,pre.find? (fun p=>crs p q)=some p/\l6 (.n 7) Y8 (pre.map T2) [A0,A1,A2,A3,A4,s5,.im (T2 q),s7]=.rt (.tup [.str "crossed",T2 p,T2 q]))\/(pre.find? (fun p=>crs p q)=none/\∃mX,l6 (.n 7) Y8 (pre.map T2) [A0,A1,A2,A3,A4,s5,.im (T2 q),s7]=.nx [A0,A1,A2,A3,A4,s5,.im (T2 q),mX])
 | [],s7,_=>.inr ⟨rfl,s7,rfl⟩
 |p::r,s7,h=>by
  rw[ng,Kb];simp only[Ii,Ih];rw[y4r A0 A1 A2 A3 A4 s5 (h p (by simp)) hq,GX];cases e:crs p q
  . simp only[EW,FV,W9];exact kJ A0 A1 A2 A3 A4 s5 hq r _ fun x hx=>h x (bI _ hx)
  . exact .inl ⟨p,rfl,rfl⟩
theorem kI(a0 a1 a2 a3:D)(ls:List P2)(ay:∀p∈ls,p.1<p.2):∀(pre r:List P2)(s5 s6 s7:Sl),pre++r=ls->ls.length<=1000 ->
  (∃p q,fc pre r=some (p,q)/\p∈ls/\q∈ls/\l6 (.t [5,6]) S4 ((List.range' pre.length r.length).map fun (i:Nat)=>D.tup [.int (i:Int),T2 (ls.getD i (0,0))]) [.im a0,.im a1,.im a2,.im a3,.im (.lst (ls.map T2)),s5,s6,s7]=.rt (.tup [.str "crossed",T2 p,T2 q])) \/
  (fc pre r=none/\∃mE CN mX,l6 (.t [5,6]) S4 ((List.range' pre.length r.length).map fun (i:Nat)=>D.tup [.int (i:Int),T2 (ls.getD i (0,0))]) [.im a0,.im a1,.im a2,.im a3,.im (.lst (ls.map T2)),s5,s6,s7]=.nx [.im a0,.im a1,.im a2,.im a3,.im (.lst (ls.map T2)),mE,CN,mX])
 |pre,[],s5,s6,s7,_,_=>.inr ⟨rfl,s5,s6,s7,rfl⟩
 |pre,q::r,s5,s6,s7,e,hl=>by
  have hq:ls.getD pre.length (0,0)=q:=by rw[<-e];simp
  have hp:pre.length<=(ls.map T2).length:=by rw[<-e];simp
  have ht:(ls.map T2).take pre.length=pre.map T2:=by rw[<-e,GA,List.take_left' (by simp)]
  have tm:q∈ls:=by rw[<-e];simp
  have tu:∀p∈pre,p∈ls:=fun p hp=>by rw[<-e];simp[hp]
  have ih:=kI a0 a1 a2 a3 ls ay (pre++[q]) r;rw[θ,GQ]at ih;rw[gV,List.range'_succ,ng,Ue,hq];simp only[Ii,Ih];have b:S4 [.im a0,.im a1,.im a2,.im a3,.im (.lst (ls.map T2)),.im (.int (pre.length:Int)),.im (T2 q),s7]=l6 (.n 7) Y8 (pre.map T2) [.im a0,.im a1,.im a2,.im a3,.im (.lst (ls.map T2)),.im (.int (pre.length:Int)),.im (T2 q),s7]:=by unfold S4;generalize hX:ls.map T2=X at *;walk_at "dz";rw[show dSl (.lst X) none (some (pre.length:Int))=some (.lst (X.take pre.length)) by rw[<-Vm X pre.length hp];rfl,ht];generalize T2 q=Q;generalize hY:pre.map T2=Y;walk_at "dz"
  rw[b];unfold fc;rcases kJ (.im a0) (.im a1) (.im a2) (.im a3) (.im (.lst (ls.map T2))) (.im (.int (pre.length:Int))) (ay q tm) pre s7 (fun p hp=>ay p (tu p hp)) with⟨p,h1,h2⟩ |⟨h1,mX,h2⟩
  . rw[h1,h2];exact .inl ⟨p,q,rfl,tu p (List.mem_of_find?_eq_some h1),tm,rfl⟩
  . rw[h1,h2,W9];exact ih _ _ _ (by rw[<-e];simp) hl
def y1e(h:3<=n)(h2:n<=60):Q3 [.int n]=.ok .non:=by unfold Q3 Op Cb Mz P9 Na;walk_at "dz";rw[gR h];walk_at "dz";rw[gR h2];walk_at "dz"
def y1f(h:n<3\/60<n):Q3 [.int n]=.er ⟨"NoFloor",[]⟩:=by
 unfold Q3 Op Cb Mz P9 Na;walk_at "dz";by_cases z:n<3
 . rw[decide_eq_false (show ¬3<=n by omega)];walk_at "dz";rfl
 . rw[gR (show 3<=n by omega)];walk_at "dz";rw[decide_eq_false (show ¬n<=60 by omega)];walk_at "dz";rfl
def Tk(h:z6 n p=true):p.1<p.2:=by have:=ln_iff.mp (show z6 n (p.1,p.2)=true from h);omega
inductive Oc:D->R D->Prop
 |text:Oc (.tup [.str "text"]) (.er ⟨"NoText",[]⟩)
 |floor:Oc (.tup [.str "floor"]) (.er ⟨"NoFloor",[]⟩)
 |line:Oc (.tup [.str "line"]) (.er ⟨"NoLine",[]⟩)
 |crossed (p q:P2) (hp:p.1<p.2) (hq:q.1<q.2):Oc (.tup [.str "crossed",T2 p,T2 q]) (.er ⟨"Crossed",[T2 p,T2 q]⟩)
 |full (n:Int) (ls:List P2) (w:P2) (hl:ls.length<=60) (hw:z6 n w=true) (h:∀p∈ls,crs p w=false) (hp:∀p∈ls,p.1<p.2):Oc (.tup [.str "full",.lst (ls.map T2),.int n]) (.er ⟨"NotFull",[T2 w]⟩)
 |made (n:Int) (ls:List P2) (hl:ls.length<=60) (hp:∀p∈ls,p.1<p.2):Oc (.tup [.str "made",cD n ls]) (.ok (cD n ls))
def y7k(a0 a1 a3:D)(n:Int){ts:List P2}(hl:ts.length<=60):∃d r,SR.out false (duT [.im a0,.im a1,.im (.int n),.im a3,.im (.lst (ts.map T2)),.em,.em,.em])=.ok d/\J9 [.int n,.lst (ts.map T2)]=r/\Oc d r:=by
 have rL:(ts.map T2).length=ts.length:=gc ..;have cc:=Vl n ts;have ac:=xU n ts;have la:=Tl n ts;have al:=all_map ts (fun t=>(lnP n t).isSome);by_cases h3:n<3\/60<n
 . have fl:=y1f h3;generalize ts.map T2=TT at *;refine⟨_,_,?_,?_,.floor⟩
   . unfold duT;walk_at "dz";by_cases z:n<3
     . rw[gR z];walk_at "dz"
     . rw[decide_eq_false z,gR (show 60<n by omega)];walk_at "dz"
   . unfold J9 Mi;walk_at "dz";rw[fl];walk_at "dz"
 . have gC:n<=60:=by omega
   have h3:3<=n:=by omega
   have fl:=y1e h3 gC;have d6:∀(X:DS)(h:X=[Sl.im a0,.im a1,.im (.int n),.im a3,.im (.lst (ts.map T2)),.em,.em,.em]),du6 X=.nx X:=by intro X h;subst h;generalize ts.map T2=TT at *;walk_at "dz";rw[decide_eq_false (show ¬n<3 by omega),decide_eq_false (show ¬60<n by omega)];walk_at "dz"
   cases hL:D5 n ts with
   |none=>
    rw[hL]at cc la
    have lb:(ts.all fun t=>(lnP n t).isSome)=false:=la
    refine⟨_,_,?_,?_,.line⟩
    . unfold duT;rw[G3 (d6 _ rfl)];clear d6;generalize ts.map T2=TT at *;walk_at "dz";rw[ξ (by omega),ac];walk_at "dz";rw[al,lb];walk_at "dz"
    . clear d6;generalize ts.map T2=TT at *;unfold J9 Mi;walk_at "dz";rw[fl];walk_at "dz";simp only[J5];walk_at "dz";rw[ξ (by omega),cc];walk_at "dz"
   |some ls=>
    rw[hL]at cc la
    have lb:(ts.all fun t=>(lnP n t).isSome)=true:=la
    have cd:O7 b1 k8 Y3 [some (.int n)] (ts.map T2)=.ok (ls.map T2):=cc
    obtain⟨l1,l2⟩:=Vk hL
    have ay:∀p∈ls,p.1<p.2:=fun p hp=>Tk (l2 p hp)
    have mc:=Vj hL
    have u:=y4n ls (by omega)
    have du:=kI a0 a1 (.int n) a3 ls ay [] ls .em .em .em rfl (by omega)
    rw[GF,<-List.range_eq_range']at du
    have en:=Jo T2 (0,0) ls
    rw[<-en]at du
    have so:=zo ls (by omega)
    have nX:i3 (ls.map T2)=true:=F4 _ _ fun x _=>F3 x
    have cP:(ls.map T2).length=ls.length:=gc ..
    have pR:SR.out false (duT [.im a0,.im a1,.im (.int n),.im a3,.im (.lst (ts.map T2)),.em,.em,.em])=SR.out false ((l6 (.t [5,6]) S4 (((zD 0 (ls.map T2).length).zip (ls.map T2)).map fun p=>D.tup [p.1,p.2]) [.im a0,.im a1,.im (.int n),.im a3,.im (.lst (ls.map T2)),.em,.em,.em]).thn (a9 Pj Pi)):=by unfold duT;rw[G3 (d6 _ rfl)];clear d6 du u en so;generalize ts.map T2=TT at *;generalize ls.map T2=X at *;generalize hE:a9 Pj Pi=E;walk_at "dz";rw[ξ (by omega),ac];walk_at "dz";rw[al,lb];walk_at "dz";rw[ξ (by omega),mc];walk_at "dz";rw[nX];walk_at "dz";simp only[iEn];walk_at "dz"
    have nH:∀(A:DS->SR),(a9 (G0 (c9 Q3 (a6 (a5 0) a8))) (a9 (c5 true 2 [true,true] (J5 (iL (a5 1)) b1 [0] k8 Y3)) A)) [.im (.int n),.im (.lst (ts.map T2)),.em]=A [.im (.int n),.im (.lst (ts.map T2)),.ow (.lst (ls.map T2))]:=by intro A;clear d6 du u en so pR;generalize ts.map T2=TT at *;generalize ls.map T2=X at *;walk_at "dz";rw[fl];walk_at "dz";simp only[J5];walk_at "dz";rw[ξ (by omega),cd];walk_at "dz";rw[nX];walk_at "dz"
    have nI:J9 [.int n,.lst (ts.map T2)]=SR.out false (a9 (G0 (c9 Z9 (a6 (a5 2) a8)))
   (a9 (sIf (c8 asB (eOp l4 (eCB k9 (a6 (a5 2) a8)) (eOp E1 (a5 0) (eC (.int 3)))))
    (M5 "NotFull" (a6 (c9 Y4 (a6 (a5 0) (a6 (a5 2) a8))) a8))
    sNx)
   (e7 [true,false,true] (i5 (a6 (a5 0) (a6 (eCB O8 (a6 (eCB G5 (a6 (a5 2) a8)) a8)) a8))))) [.im (.int n),.im (.lst (ts.map T2)),.ow (.lst (ls.map T2))]):=by
     unfold J9
     rw[R8,ξ (show [D.int n,D.lst (ts.map T2)].length=2 from rfl)]
     exact GY (SR.out false) (nH _)
    rw[pR,nI]
    clear d6 pR nH nI cd lb cc ac la al fl mc rL
    cases hf:fc [] ls with
    |some pq=>
     obtain⟨p,q⟩:=pq
     rw[hf]at u
     rcases du with⟨p',q',h1,hp,hq,h2⟩ |⟨h1,_⟩
     . rw[hf]at h1;cases h1;refine⟨_,_,?_,?_,.crossed p q (ay p hp) (ay q hq)⟩
       . rw[h2];rfl
       . generalize ls.map T2=X at *;generalize ts.map T2=TT at *;walk_at "dz";rw[u];walk_at "dz"
     . rw[hf]at h1;cases h1
    |none=>
     rw[hf]at u
     rcases du with⟨p',q',h1,_,_,_⟩ |⟨_,s3,s4,s5,h2⟩
     . rw[hf]at h1;cases h1
     . rw[h2];by_cases hn:(ls.length:Int)+3<n
       . obtain⟨w,f1,f2,f3⟩:=y1b (y1a h3 l2 hf) gC hn;refine⟨_,_,?_,?_,.full n ls w (by omega) f2 f3 ay⟩
         . generalize ls.map T2=X at *;walk_at "dz";rw[cP,gR (show(ls.length:Int)<n - 3 by omega)];walk_at "dz"
         . have nl:=F3 w;have pl:pls [T2 w]=true:=by simp only[pls,Ap,GJ]
           generalize T2 w=W at *;generalize ls.map T2=X at *;generalize ts.map T2=TT at *;walk_at "dz";rw[u];walk_at "dz";rw[cP,gR (show(ls.length:Int)<n - 3 by omega)];walk_at "dz";simp only[M5];walk_at "dz";rw[f1];walk_at "dz";rw[ξ ⟨rfl,nl,pl⟩]
       . refine⟨_,_,?_,?_,.made n (so2 ls) (by rw[(Lp ls).length_eq];omega) (fun p hp=>ay p ((Lp ls).mem_iff.mp hp))⟩
         . generalize ls.map T2=X at *;walk_at "dz";rw[cP,decide_eq_false (show ¬(ls.length:Int)<n - 3 by omega)];walk_at "dz";rw[so];walk_at "dz";rfl
         . generalize ls.map T2=X at *;generalize ts.map T2=TT at *;walk_at "dz";rw[u];walk_at "dz";rw[cP,decide_eq_false (show ¬(ls.length:Int)<n - 3 by omega)];walk_at "dz";rw[so];walk_at "dz";rfl
def isS(x:PySem.Str):m5 "str" (.str x)=some (.bl true):=rfl
def Hg(x:D):D4 [x]=SR.out false (a9 du0 (a9 du1 (a9 du2 (a9 du3 (a9 du4 (a9 du5 duT))))) [.im x,.em,.em,.em,.em,.em,.em,.em]):=by unfold D4;rw[R8,ξ (show [x].length=1 from rfl)];rfl
def zn(h:m5 "str" x=some (.bl false)):D4 [x]=.ok (.tup [.str "text"]):=by rw[Hg];generalize (a9 du1 (a9 du2 (a9 du3 (a9 du4 (a9 du5 duT)))))=E;walk_at "dz";rw[h];walk_at "dz"
def y1g(h:58∉cs t):D4 [.str t]=.ok (.tup [.str "text"]):=by
 rw[Hg];generalize (a9 du1 (a9 du2 (a9 du3 (a9 du4 (a9 du5 duT)))))=E;have n:N9 (.str (PySem.Str.ofString ":")) (.str t)=some (.bl true):=by simp only[N9];rw[Q6,Km,decide_eq_false h];rfl
 walk_at "dz";rw[isS];walk_at "dz";rw[n];walk_at "dz"
def Rf{t f v w:PySem.Str}{ws:List PySem.Str}(A:Asc t)(h:cs t=cs f++58::cs v)(hf:58∉cs f)(hs:PySem.Txt.split v ⟨#[32]⟩=w::ws) :
  ∃i:Int,(i6 (cs f)=true->i=vl (cs f))/\(i6 (cs f)=false->i<0)/\((wps ws=none/\D4 [.str t]=.ok (.tup [.str "text"]))\/∃ps,wps ws=some ps/\D4 [.str t]=if i<0\/cs w≠[] then .ok (.tup [.str "text"]) else SR.out false (duT [.im (.str t),.im (.int ((cs f).length:Int)),.im (.int i),.im (.lst ((w::ws).map .str)),.im (.lst (ps.map T2)),.em,.em,.em])):=by
 have Af:Asc f:=S1 (p:=[]) (q:=58::cs v) A h
 have Av:Asc v:=S1 (p:=cs f++[58]) (q:=[]) A (by rw[h];simp)
 have fe:=Tq h hf
 have l:=p6 t
 have xl:=A.l
 rw[h,θ,gV]at l
 have ef:l9 t none (some ((cs f).length:Int))=f:=by apply W0;rw[Md t (a:=(cs f).length) (by omega),h];exact List.take_left
 have ev:l9 t (some (((cs f).length:Int)+1)) none=v:=by apply W0;rw[show((cs f).length:Int)+1=(((cs f).length+1:Nat):Int) by omega,Ep,h,<-List.drop_drop,List.drop_left];rfl
 have sf:o7 (.str t) none (some ((cs f).length:Int))=some (.str f):=by have z:=slS (x:=t) (lo:=none) (hi:=some ((cs f).length:Int)) (by rw[ef];omega);rw[ef]at z;exact z
 have sv:o7 (.str t) (some (((cs f).length:Int)+1)) none=some (.str v):=by have z:=slS (x:=t) (lo:=some (((cs f).length:Int)+1)) (hi:=none) (by rw[ev];omega);rw[ev]at z;exact z
 have nf:=Hi Af
 have sp:=msp Av.l 32
 have aw:∀y∈w::ws,Asc y:=fun y hy=>Fa Av (by rw[hs];exact hy)
 have cl:(w::ws).length<=1001:=by have:=Bx (c:=32) (M6 v ⟨#[32]⟩);rw[FR,hs]at this;have l1:=IA (a:=32) (l:=cs v);omega
 rw[gV]at cl
 have le:=y4l (fun y hy=>aw y (bI _ hy)) (show ws.length<=1000 by omega)
 obtain⟨i,hi⟩:∃i:Int,i=(if i6 (cs f)=true then vl (cs f) else -1):=⟨_,rfl⟩
 rw[<-hi]at nf
 rw[hs]at sp
 have n0:N9 (.str (PySem.Str.ofString ":")) (.str t)=some (.bl false):=by simp only[N9];rw[Q6,Km,gR (by rw[h];simp)];rfl
 refine⟨i,fun z=>by rw[hi,ξ z],fun z=>by rw[hi,z,ψ (by simp)];omega,?_⟩
 have nw:=Jq (w::ws)
 have sl:dSl (.lst ((w::ws).map .str)) (some 1) none=some (.lst (ws.map .str)):=by
  have:y0 ((w::ws).map D.str) (some 1) none=ws.map D.str:=by unfold y0;simp[HT.sIx,<-IW]
  show some (D.lst (y0 ((w::ws).map D.str) (some 1) none))=_;rw[this]
 have i0:dIx (.lst ((w::ws).map .str)) (.int 0)=some (.str w):=Uf _ _
 have ne:dNe (.str w) (.str (PySem.Str.ofString ""))=some (.bl (decide (cs w≠[]))):=by rw[jG];unfold dNe;rw[ξ ⟨rfl,rfl,by simp[D.dep]⟩];simp only[eqD,Option.some.injEq,D.bl.injEq];rw[GG];simp only[HH,GD,pW];exact⟨fun z q=>z (W0 (q.trans rfl)),fun z q=>z (by rw[q];rfl)⟩
 generalize hW:(w::ws).map D.str=W at *
 generalize hV:ws.map D.str=V at *
 have go:D4 [.str t]=SR.out false (a9 du4 (a9 du5 duT) [.im (.str t),.im (.int ((cs f).length:Int)),.im (.int i),.ow (.lst W),.em,.em,.em,.em]):=by rw[Hg];generalize a9 du4 (a9 du5 duT)=E;walk_at "dz";rw[isS];walk_at "dz";rw[n0];walk_at "dz";simp only[eMt];walk_at "dz";rw[Q6,Jp,fe];walk_at "dz";rw[sf];walk_at "dz";rw[nf];walk_at "dz";simp only[eMt];walk_at "dz";rw[sv];walk_at "dz";rw[Go,sp];walk_at "dz";rw[nw];walk_at "dz"
 rw[go]
 generalize (((cs f).length:Nat):Int)=tf
 generalize D.str t=T'
 cases hp:wps ws with
 |none=>
  left
  rw[hp]at le
  simp only[oL]at le
  refine⟨rfl,?_⟩
  have:N4 D.non D.non=some (.bl true):=rfl
  walk_at "dz"
  rw[sl]
  walk_at "dz"
  rw[le]
  walk_at "dz"
  rw[i0]
  walk_at "dz"
  rw[ne]
  walk_at "dz"
  rw[this]
  walk_at "dz"
  cases decide (i<0)<;>cases decide (cs w≠[])<;>walk_at "dz"
 |some ps=>
  right
  rw[hp]at le
  simp only[oL]at le
  refine⟨ps,rfl,?_⟩
  have k:keeps false (.lst (ps.map T2))=false:=rfl
  have:N4 (.lst (ps.map T2)) D.non=some (.bl false):=rfl
  generalize ps.map T2=P at *
  generalize duT=E
  walk_at "dz"
  rw[sl]
  walk_at "dz"
  rw[le]
  walk_at "dz"
  rw[i0]
  walk_at "dz"
  rw[ne]
  walk_at "dz"
  rw[this]
  walk_at "dz"
  by_cases h1:i<0
  . rw[gR h1];walk_at "dz";rw[ξ (Or.inl h1)]
  . rw[decide_eq_false h1];by_cases h2:cs w≠[]
    . rw[gR h2];walk_at "dz";rw[ξ (Or.inr h2)]
    . rw[decide_eq_false h2];walk_at "dz";rw[ψ (fun z:i<0\/cs w≠[]=>z.elim h1 h2)]
def zjq(h:m5 "str" x=some (.bl false)):B8 [x]=.er ⟨"NoText",[]⟩:=by unfold B8 Jv;walk_at "dz";rw[h];walk_at "dz";simp only[D3];walk_at "dz"
def vM(A:Asc t)(hs:PySem.Txt.split t ⟨#[32]⟩=w::ws) :
  B8 [.str t]=((N1 [.str w]).bind fun d=>(oR (wps ws)).bind fun ps=>J9 [d,.lst ps]).bind fun d=>.ok d:=by
 have sp:=msp A.l 32
 rw[hs]at sp
 have aw:∀y∈w::ws,Asc y:=fun y hy=>Fa A (by rw[hs];exact hy)
 have rc:=To ws (fun y hy=>aw y (bI _ hy))
 have cl:(w::ws).length<=1001:=by have:=Bx (c:=32) (M6 t ⟨#[32]⟩);rw[FR,hs]at this;have l1:=IA (a:=32) (l:=cs t);have:=A.l;rw[p6]at l1;omega
 rw[gV]at cl
 have nw:=Jq (w::ws)
 have sl:dSl (.lst ((w::ws).map .str)) (some 1) none=some (.lst (ws.map .str)):=by
  have:y0 ((w::ws).map D.str) (some 1) none=ws.map D.str:=by unfold y0;simp[HT.sIx,<-IW]
  show some (D.lst (y0 ((w::ws).map D.str) (some 1) none))=_;rw[this]
 have i0:dIx (.lst ((w::ws).map .str)) (.int 0)=some (.str w):=Uf _ _
 have lV:(ws.map D.str).length<=100000:=by rw[gc];omega
 generalize hW:(w::ws).map D.str=W at *
 generalize hV:ws.map D.str=V at *
 generalize oR (wps ws)=O at *
 unfold B8 Jv
 walk_at "dz"
 rw[isS]
 walk_at "dz"
 simp only[eMt]
 walk_at "dz"
 rw[Go,sp]
 walk_at "dz"
 rw[nw]
 walk_at "dz"
 rw[i0]
 walk_at "dz"
 simp only[J5]
 walk_at "dz"
 rw[sl]
 walk_at "dz"
 rw[ξ lV,rc]
 cases N1 [.str w] with
 |st=>rfl
 |er e=>rfl
 |ok d=>
  cases O with
  |st=>rfl
  |er e=>rfl
  |ok ps=>
   walk_at "dz"
   cases J9 [d,.lst ps]<;>rfl
structure Tx(k:Nat)(t:PySem.Str):Prop where
 a:∀c∈cs t,c<128
 l:t.length<=400+k
 n:(cs t).count 32<=57+k
def Tx.asc(h:Tx k t)(hk:k<=3):Asc t:=⟨h.a,by have:=h.l;omega⟩
def Hf(l:List Nat):cs ⟨l.toArray⟩=l:=rfl
def Vi(h:i6 (cs f)=true)(hc:c<48\/57<c):c∉cs f:=fun z=>by have:=(Dg h).2.2 c z;omega
def y4s(T:Tx k t)(hk:k<=3):∃d r,D4 [.str t]=.ok d/\B8 [.str t]=r/\Oc d r:=by
 have A:=T.asc hk;obtain⟨w0,hJ,hs⟩:∃w0 hJ,PySem.Txt.split t ⟨#[32]⟩=w0::hJ:=by
  cases q:PySem.Txt.split t ⟨#[32]⟩ with
  |nil=>exact absurd q (M6 _ _)
  |cons w r=>exact⟨w,r,rfl⟩
 have jt:=FR t ⟨#[32]⟩;have fr:=IU t 32;have rd:=vM A hs;have cn:(w0::hJ).length<=58+k:=by have:=Bx (c:=32) (M6 t ⟨#[32]⟩);rw[jt,hs]at this;have:=T.n;omega
 rw[gV]at cn;have aw:∀y∈w0::hJ,Asc y:=fun y hy=>Fa A (by rw[hs];exact hy)
 rw[hs]at jt fr;by_cases H:∃f:PySem.Str,cs w0=cs f++[58]/\i6 (cs f)=true
 . obtain⟨f,h1,h2⟩:=H;have CO:=Vi h2 (c:=58) (.inr (by omega));obtain⟨v,e1,e2⟩:∃v:PySem.Str,cs t=cs f++58::cs v/\PySem.Txt.split v ⟨#[32]⟩=PySem.Str.empty::hJ:=by
    cases hw:hJ with
    |nil=>
     refine⟨PySem.Str.empty,?_,Ez (GI)⟩
     rw[hw]at jt
     rw[<-jt]
     show cs w0=_
     rw[h1];rfl
    |cons u r=>
     rw[hw]at jt fr
     refine⟨⟨(32::cs (PySem.Str.join ⟨#[32]⟩ (u::r))).toArray⟩,?_,?_⟩
     . rw[<-jt,Hf];show(PySem.Str.join ⟨#[32]⟩ (w0::u::r)).cps.toList=_;rw[P8,show w0.cps.toList=cs f++[58] from h1,HU];rfl
     . rw[Ey (u:=PySem.Str.empty) (v:=PySem.Str.join ⟨#[32]⟩ (u::r)) rfl GI,Ng (GU _ _) fun y hy=>fr y (bI _ hy)]
   obtain⟨i,i1,_,du⟩:=Rf A e1 CO e2;have co:=y13 (aw w0 io) h1 h2;have ii:=i1 h2;have vb:=Pk h2;rw[co]at rd;rcases du with⟨d1,d2⟩ |⟨ps,d1,d2⟩
   . rw[d1]at rd;exact⟨_,_,d2,rd,.text⟩
   . rw[d1]at rd;rw[ψ (fun z=>z.elim (fun z=>absurd z (by omega)) fun z=>z rfl)]at d2;obtain⟨d,r,o1,o2,o3⟩:=y7k (.str t) (.int ((cs f).length:Int)) (.lst ((PySem.Str.empty::hJ).map .str)) i (ts:=ps) (by rw[Tp d1];omega);refine⟨d,r,d2.trans o1,?_,o3⟩;rw[rd];simp only[R.bind_ok,oR];rw[<-ii,o2];cases r<;>rfl
 . have co:=y14 (aw w0 io) (fun f hf=>by
    rw[Bool.eq_false_iff];exact fun z=>H ⟨f,hf,z⟩)
   rw[co]at rd
   refine⟨_,_,?_,rd,.text⟩
   by_cases tz:58∈cs t
   . obtain⟨a,b,e,ha⟩:=Dz tz;obtain⟨w,ws,hv⟩:∃w ws,PySem.Txt.split (⟨b.toArray⟩:PySem.Str) ⟨#[32]⟩=w::ws:=by
      cases q:PySem.Txt.split (⟨b.toArray⟩:PySem.Str) ⟨#[32]⟩ with
      |nil=>exact absurd q (M6 _ _)
      |cons w r=>exact⟨w,r,rfl⟩
     obtain⟨i,_,i2,du⟩:=Rf (f:=⟨a.toArray⟩) (v:=⟨b.toArray⟩) A e ha hv;rcases du with⟨_,d2⟩ |⟨ps,_,d2⟩
     . exact d2
     . rw[d2];apply ξ;apply GO;intro hn;have n1:¬i<0:=fun z=>hn (.inl z)
       have n2:cs w=[]:=GO fun z=>hn (.inr z)
       have fa:i6 a=true:=by rw[<-Bool.not_eq_false];exact fun z=>n1 (i2 z)
       have CP:32∉a:=Vi (f:=⟨a.toArray⟩) fa (.inl (by omega));have jb:=FR (⟨b.toArray⟩:PySem.Str) ⟨#[32]⟩;rw[hv]at jb;have tD:32∉cs (⟨(a++[58]).toArray⟩:PySem.Str):=by
        rw[Hf];intro z;rcases GW.mp z with z |z
        . exact CP z
        . rw[FJ]at z;omega
       have key:w0=⟨(a++[58]).toArray⟩:=by
        cases hw:ws with
        |nil=>
         rw[hw]at jb
         have:b=[]:=by
          have:cs w=b:=by rw[show w=(⟨b.toArray⟩:PySem.Str) from jb]
          rw[<-this,n2]
         have tt:t=⟨(a++[58]).toArray⟩:=W0 (by rw[e,this])
         have:=Ez (x:=t) (c:=32) (by rw[tt];exact tD)
         rw[hs]at this
         rw[(List.cons.inj this).1,tt]
        |cons u r=>
         rw[hw]at jb
         have eb:b=32::cs (PySem.Str.join ⟨#[32]⟩ (u::r)):=by
          have:cs (PySem.Str.join ⟨#[32]⟩ (w::u::r))=b:=by rw[jb]
          rw[<-this];show(PySem.Str.join ⟨#[32]⟩ (w::u::r)).cps.toList=_;rw[P8,show w.cps.toList=[] from n2];rfl
         have:=Ey (x:=t) (u:=⟨(a++[58]).toArray⟩) (v:=PySem.Str.join ⟨#[32]⟩ (u::r)) (c:=32) (by rw[e,eb,Hf,HU];rfl) tD
         rw[hs]at this
         exact(List.cons.inj this).1
       exact H ⟨⟨a.toArray⟩,by rw[key],fa⟩
   . exact y1g tz
abbrev tA:DS->SR:=(c5 false 2 [true] (D6 knX B8 (a6 (a5 0) a8)))
abbrev hA:=(hAs Fq 3 (c5 false 1 [false,false,false,true] (i5 (a6 (eC (.str "crossed")) (a6 (eUn (K0 "one") (a5 3)) (a6 (eUn (K0 "other") (a5 3)) a8))))) (hAs Fs 3 (c5 false 1 [false,false,false,true] (i5 (a6 (eC (.str "full")) (a6 (eUn (K0 "line") (a5 3)) a8)))) (hNo Fi (c5 false 1 [] (i5 (a6 (eC (.str "line")) a8))) (hNo Fu (c5 false 1 [] (i5 (a6 (eC (.str "floor")) a8))) (hNo Fj (c5 false 1 [] (i5 (a6 (eC (.str "text")) a8))) Ab)))))
abbrev eA:DS->SR:=(c5 false 1 [false,false,true] (i5 (a6 (eC (.str "made")) (a6 (a5 2) a8))))
abbrev tK:DS->SR:=(G0 (D6 knX B8 (a6 (a5 0) a8)))
abbrev hK:=(hAs Gd 2 (a9 (c5 true 1 [false,false,true] (j4 (a6 (eUn (j6 Gc) (a5 2)) (a6 (eUn (j6 Fg) (a5 2)) (a6 (eUn (j6 Fp) (a5 2)) (a6 (eUn (j6 Fh) (a5 2)) a8)))))) (a9 (c5 true 1 [false,true,true] (eOp n9 (a5 1) (j4 (a6 (eUn (j6 Fn) (a5 2)) (a6 (eUn (j6 Fo) (a5 2)) (a6 (eUn (j6 Fz) (a5 2)) (a6 (eUn (j6 Et) (a5 2)) a8))))))) (a9 (c5 true 1 [false,true,true] (eOp n9 (a5 1) (j4 (a6 (eUn (j6 Es) (a5 2)) (a6 (eUn (j6 Fe) (a5 2)) (a6 (eUn (j6 Ff) (a5 2)) (a6 (eUn (j6 Fm) (a5 2)) a8))))))) (a9 (c5 true 1 [false,true,true] (eOp n9 (a5 1) (j4 (a6 (eUn (j6 Gb) (a5 2)) (a6 (eUn (j6 Fy) (a5 2)) (a6 (eUn (j6 Fl) (a5 2)) a8)))))) (c5 true 1 [false,true,true] (eOp n9 (a5 1) (j4 (a6 (eUn (j6 Fb) (a5 2)) (a6 (eUn (j6 Fc) (a5 2)) (a6 (eUn (j6 Fd) (a5 2)) a8)))))))))) Ab)
def Lh(a:Int):Z8 [.int a]=.ok (.bl true):=rfl
def Bc(k:(R.er e:R D).kn knX=.er e)(hr:B8 [x]=.er e):Q2 [x]=SR.out false ((hA e [.im x,.im (.tup [.str "none"]),.em,.em]).thn (e7 [false,true] (a5 1))):=by
 have b:tA [.im x,.im (.tup [.str "none"]),.em,.em]=.er e:=by walk_at "dz";simp only[D6];walk_at "dz";rw[hr,k];rfl
 unfold Q2;rw[R8,ξ (show [x].length=1 from rfl)];show SR.out false ((V3 tA hA eA [.im x,.im (.tup [.str "none"]),.em,.em]).thn (e7 [false,true] (a5 1)))=_;unfold V3;rw[b]
def Bb(k:(R.er e:R D).kn knX=.er e)(hr:B8 [x]=.er e):Q0 [x]=SR.out true ((hK e [.im x,.ow (.lst []),.em]).thn (O4 1)):=by
 have b:tK [.im x,.ow (.lst []),.em]=.er e:=by walk_at "dz";simp only[D6];walk_at "dz";rw[hr,k];rfl
 unfold Q0;rw[R8,ξ (show [x].length=1 from rfl)];show SR.out true ((T0 tK hK [.im x,.ow (.lst []),.em]).thn (O4 1))=_;unfold T0;rw[b]
def b18(a b c d e:Bool):D:=.lst [.bl true,.bl a,.bl b,.bl c,.bl d,.bl e,.bl false,.bl false,.bl false,.bl false,.bl false,.bl false,.bl false,.bl false,.bl false,.bl false,.bl false,.bl false]
inductive Kd:D->D->Prop
 |text (r:List D):Kd (.tup (.str "text"::r)) (b18 true false false false false)
 |floor (r:List D):Kd (.tup (.str "floor"::r)) (b18 false true false false false)
 |line (r:List D):Kd (.tup (.str "line"::r)) (b18 false false true false false)
 |crossed (r:List D):Kd (.tup (.str "crossed"::r)) (b18 false false false true false)
 |full (r:List D):Kd (.tup (.str "full"::r)) (b18 false false false false true)
 |made (r:List D):Kd (.tup (.str "made"::r)) (.lst [])
def Cq(h:p.1<p.2):Q5 [T2 p]=.ok (.bl true):=by unfold Q5 jk T2;walk_at "dz";rw[Lh];walk_at "dz";rw[Lh];walk_at "dz";rw[gR h];rfl
def y4t{p q:P2}(hp:p.1<p.2)(hq:q.1<q.2):I0 [.tup [.str "crossed",T2 p,T2 q],.tup [.str "crossed",T2 p,T2 q]]=.ok (.bl true):=by have ip:=Cq hp;have iq:=Cq hq;have e:dEq (.tup [.str "crossed",T2 p,T2 q]) (.tup [.str "crossed",T2 p,T2 q])=some (.bl true):=Lo (by simp[D.pl,pls,Ap]) (by have:=Bf p;have:=Bf q;simp only[D.dep,l7];omega);have rM:dNe (.str "crossed") (.str "crossed")=some (.bl false):=rfl;have rN:dEq (.str "crossed") (.str "crossed")=some (.bl true):=rfl;generalize T2 p=P at *;generalize T2 q=Q at *;unfold I0 Fx;walk_at "dz";rw[rM];walk_at "dz";rw[rN];walk_at "dz";rw[ip];walk_at "dz";rw[iq];walk_at "dz";rw[e];rfl
def y4u{n:Int}{ls:List P2}{w:P2}(hl:ls.length<=60)(hw:z6 n w=true)(h:∀p∈ls,crs p w=false)(hp:∀p∈ls,p.1<p.2):I0 [.tup [.str "full",T2 w],.tup [.str "full",.lst (ls.map T2),.int n]]=.ok (.bl true):=by
 have lw:=Tk hw;have ip:=Cq lw;have rO:dNe (.str "full") (.str "full")=some (.bl false):=rfl;have rP:dEq (.str "full") (.str "full")=some (.bl true):=rfl;have nP:dEq (.str "full") (.str "crossed")=some (.bl false):=rfl;have il:S6 [.int n,T2 w]=.ok (.bl true):=by rw[Wt];unfold lnP;rw[Hh lw,ξ hw];rfl
 have cm:=S2 (bn:=b1) (f:=Oo) (cs:=[some (T2 w)]) (en:=T2) (bs:=fun t=>[T2 t]) (g:=fun _=>D.bl false) ls (fun t _=>rfl) (fun t ht=>by unfold Oo;have e:=Rg (hp t ht) lw;rw[h t ht]at e;generalize T2 t=P at *;generalize T2 w=W at *;walk_at "dz";exact e);have kW:keeps false (T2 w)=true:=F3 w;have an:=any_map ls (fun _=>false);have cP:(ls.map T2).length=ls.length:=gc ..;generalize T2 w=W at *;generalize ls.map T2=X at *;unfold I0 Fx;walk_at "dz";rw[rO];walk_at "dz";rw[nP];walk_at "dz";rw[rP];walk_at "dz";rw[kW];walk_at "dz";rw[ip];walk_at "dz";rw[il];walk_at "dz";rw[ξ (by omega),cm];walk_at "dz";rw[an];walk_at "dz";simp
def y4v(hl:ls.length<=60)(hp:∀p∈ls,p.1<p.2):I0 [.tup [.str "made",cD n ls],.tup [.str "made",cD n ls]]=.ok (.bl true):=by
 have e:dEq (.tup [.str "made",cD n ls]) (.tup [.str "made",cD n ls])=some (.bl true):=Lo (by simp[D.pl,pls,cD,Sb ls T2 Ap]) (by have:=Ku ls T2 1 Bf;simp only[cD,D.dep,l7];omega);have rQ:dNe (.str "made") (.str "made")=some (.bl false):=rfl;have rR:dEq (.str "made") (.str "made")=some (.bl true):=rfl;have nQ:dEq (.str "made") (.str "crossed")=some (.bl false):=rfl;have nR:dEq (.str "made") (.str "full")=some (.bl false):=rfl;have cm:=S2 (bn:=b1) (f:=On) (cs:=[]) (en:=T2) (bs:=fun t=>[T2 t]) (g:=fun _=>D.bl true) ls (fun t _=>rfl) (fun t ht=>by unfold On;have e:=Cq (hp t ht);generalize T2 t=P at *;walk_at "dz";exact e);have al:=all_map ls (fun _=>true);have nX:i3 (ls.map T2)=true:=F4 _ _ fun x _=>F3 x
 have cP:(ls.map T2).length=ls.length:=gc ..;unfold cD at *;generalize ls.map T2=X at *;unfold I0 Fx;walk_at "dz";rw[rQ];walk_at "dz";rw[nQ];walk_at "dz";rw[nR];walk_at "dz";rw[rR];walk_at "dz";rw[nX];walk_at "dz";rw[Lh];simp only[show decide (((2:Nat):Int)=2)=true from rfl];walk_at "dz";rw[ξ (by omega),cm];walk_at "dz";rw[al,EV.mpr (fun _ _=>rfl)];walk_at "dz";rw[e];rfl
def y4w(hr:B8 [x]=r)(h:Oc d r):∃a,Q2 [x]=.ok a/\I0 [a,d]=.ok (.bl true)/\∃k,Q0 [x]=.ok k/\Kd d k:=by
 cases h with
 |text=>exact⟨.tup [.str "text"],by rw[Bc rfl hr];rfl,rfl,_,by rw[Bb rfl hr];rfl,.text _⟩
 |floor=>exact⟨.tup [.str "floor"],by rw[Bc rfl hr];rfl,rfl,_,by rw[Bb rfl hr];rfl,.floor _⟩
 |line=>exact⟨.tup [.str "line"],by rw[Bc rfl hr];rfl,rfl,_,by rw[Bb rfl hr];rfl,.line _⟩
 |crossed p q hp hq=>exact⟨.tup [.str "crossed",T2 p,T2 q],by rw[Bc rfl hr];rfl,y4t hp hq,_,by rw[Bb rfl hr];rfl,.crossed _⟩
 |full n ls w hl hw h hp=>exact⟨.tup [.str "full",T2 w],by rw[Bc rfl hr];rfl,y4u hl hw h hp,_,by rw[Bb rfl hr];rfl,.full _⟩
 |made n ls hl hp=>
  refine⟨.tup [.str "made",cD n ls],?_,y4v hl hp,.lst [],?_,.made _⟩
  . have nl:(cD n ls).noL=true:=by simp only[cD,D.noL,i3,F4 _ _ fun x _=>F3 x,GJ]
    generalize cD n ls=C at *;unfold Q2 je;walk_at "dz";simp only[V3];walk_at "dz";simp only[D6];walk_at "dz";rw[hr];simp only[R.kn];walk_at "dz";rw[show keeps false C=true from nl];walk_at "dz";rw[nl];walk_at "dz"
  . generalize cD n ls=C at *;unfold Q0 Zs;walk_at "dz";simp only[T0];walk_at "dz";simp only[D6];walk_at "dz";rw[hr];simp only[R.kn];walk_at "dz"
def y1h(ns:List Int):∃m:Nat,m<=57/\Y6 [.scr ns]=.ok (.int (m:Int)):=by
 unfold Y6 Ze;walk_at "dz";rw[J4 _ _ (by omega)];walk_at "dz";generalize ns.getD (Int.toNat 0) 0=x;rw[k7 (by omega)];walk_at "dz";rw[R5 (by omega)];walk_at "dz";rw[k7 (by omega),k7 (by omega)];walk_at "dz";have a0:0<=x / 4 % 58:=FE _ (by decide);have a1:x / 4 % 58<58:=EY _ (by decide);have b0:0<=x / 4 % 9:=FE _ (by decide);have b1:x / 4 % 9<9:=EY _ (by decide);by_cases h1:x % 4=3
 . rw[gR h1];exact⟨(x / 4 % 58).toNat,by omega,by walk_at "dz";rw[show(((x / 4 % 58).toNat:Nat):Int)=x / 4 % 58 by omega]⟩
 . rw[decide_eq_false h1];by_cases h2:x % 4=2
   . rw[gR h2];exact⟨(x / 4 % 9).toNat,by omega,by walk_at "dz";rw[k7 (by omega)];walk_at "dz";rw[show(((x / 4 % 9).toNat:Nat):Int)=x / 4 % 9 by omega]⟩
   . rw[decide_eq_false h2];walk_at "dz";generalize hy:(if(ns.length:Int) - 7 > 0 then(ns.length:Int) - 7 else 0)=y;generalize hz:(if y<57 then y else 57)=z;have z0:0<=z/\z<=57:=by subst hz;subst hy;split<;>split<;>omega
     exact⟨z.toNat,by omega,by rw[show((z.toNat:Nat):Int)=z by omega]⟩
def Bd(n:Int)(p:P2):Prop:=(0<=p.1/\p.1<=n)/\0<=p.2/\p.2<=n
def y4x{n c:Int}{q:P2}(h:Bd n q):Bd (n+1) (sh2 c q):=by unfold Bd sh2 sh at *;simp only;split<;>split<;>omega
def y1i(h0:0<=c)(h1:c<n):Bd (n+1) (An n c):=by unfold Bd An;split<;>simp only<;>omega
def vL(st:List Int)(n:Int)(ls:List P2)(num:Int)(s4:Sl)(hn:3<=n)(hl:ls.length<1000) :
  ∃c:Int,(0<=c/\c<n)/\Gi [.im (L st),.im (.int n),.ow (.lst (ls.map T2)),.im (.int num),s4] =
   .nx [.im (L st),.im (.int (n+1)),.ow (.lst ((ls.map (sh2 c)++[An n c]).map T2)),.im (.int num),.im (.int c)]:=by
 refine⟨num % n,⟨FE _ (by omega),EY _ (by omega)⟩,?_⟩
 unfold Gi
 walk_at "dz"
 rw[k7 (by omega)]
 walk_at "dz"
 generalize num % n=c
 rw[ξ (by rw[gc];omega),S2 (en:=T2) (bs:=fun q=>[D.int q.1,D.int q.2]) (g:=fun q=>T2 (sh2 c q)) ls (fun x _=>rfl) (fun q _=>by unfold jo;walk_at "dz";rw[jC,jC];rfl)]
 simp only[R.bind_ok]
 rw[show ls.map (fun q=>T2 (sh2 c q))=(ls.map (sh2 c)).map T2 by rw[Io];rfl]
 generalize pS:ls.map (sh2 c)=ls'
 have sB:ls'.length<1000:=by rw[<-pS,gc];exact hl
 walk_at "dz"
 by_cases q:c=n - 1
 . rw[gR q];walk_at "dz";rw[Jz (by omega)];walk_at "dz";unfold An;rw[ξ q]
 . rw[decide_eq_false q];walk_at "dz";rw[Jz (by omega)];walk_at "dz";unfold An;rw[ψ q]
def vK(st:List Int)(hs:st.length<=57):∃ls:List P2,ls.length=st.length/\(∀p∈ls,Bd 60 p) /\
  Z3 [L st]=.ok (.tup [.int ((st.length:Int)+3),.lst (ls.map T2)]):=by
 unfold Z3 Zy
 walk_at "dz"
 obtain⟨av,e,n,ls,s4,s5,hn,h3,hl,hb,hr⟩:=yq (tg:=.n 3) (g:=Gi) (en:=D.int)
  (fun r ρ=>∃(n:Int)(ls:List P2)(s4 s5:Sl),n+r.length=st.length+3/\3<=n/\(ls.length:Int)=n - 3/\(∀p∈ls,Bd n p)/\ρ=[.im (L st),.im (.int n),.ow (.lst (ls.map T2)),s4,s5])
  st [.im (L st),.im (.int 3),.ow (.lst []),.em,.em] ⟨3,[],.em,.em,by omega,by omega,rfl,fun p hp=>(by cases hp),rfl⟩ (by
   rintro x r ρ ⟨n,ls,s4,s5,hn,h3,hl,hb,rfl⟩;simp only[gV]at hn;obtain⟨c,⟨c0,c1⟩,e⟩:=vL st n ls x s5 h3 (by omega);refine⟨_,_,rfl,Or.inl e,⟨_,_,_,_,by omega,by omega,?_,fun p hp=>?_,rfl⟩⟩
   . rw[θ,gc,GQ];omega
   . rcases GW.mp hp with hp |hp
     . obtain⟨q,hq,rfl⟩:=GV.mp hp;exact y4x (hb q hq)
     . rw[FJ.mp hp];exact y1i c0 c1)
 rw[e,hr]
 simp only[GF]at hn
 walk_at "dz"
 refine⟨ls,by omega,fun p hp=>?_,by rw[show n=(st.length:Int)+3 by omega]⟩
 have:=hb p hp
 unfold Bd at *
 omega
def Jm{n:Int}{xs:List P2}{y:P2}(j:Nat)(h:∀p∈xs,Bd n p)(hy:Bd n y):(xs.take j++y::xs.drop j).length=xs.length+1/\∀p∈xs.take j++y::xs.drop j,Bd n p:=by
 have q:(xs.take j++y::xs.drop j).Perm (y::xs):=by refine List.perm_middle.trans ?_;rw[List.take_append_drop]
 refine⟨by rw[q.length_eq];rfl,fun p hp=>?_⟩;rcases ee.mp (q.mem_iff.mp hp) with rfl |hp
 . exact hy
 . exact h p hp
def y4y(A1:Sl)(st:List Int)(xs:List P2)(i:Nat)(l:P2)(s5:Sl)(hi:i<st.length)(EM:i<1000)(hx:xs.length<1000)(hb:∀p∈xs,Bd 60 p)(hy:Bd 60 l) :
  ∃(ys:List P2)(s:Sl),(ys.length=xs.length+1/\∀p∈ys,Bd 60 p)/\Gh [.im (L st),A1,.ow (.lst (xs.map T2)),.im (.int (i:Int)),.im (T2 l),s5]=.nx [.im (L st),A1,.ow (.lst (ys.map T2)),.im (.int (i:Int)),.im (T2 l),s]:=by
 unfold Gh
 walk_at "dz"
 rw[y7d hi]
 walk_at "dz"
 rw[Qd (by omega),Hm (by omega)]
 walk_at "dz"
 rw[Qd (by omega)]
 walk_at "dz"
 rw[k7 (by omega)]
 walk_at "dz"
 have x0:0<=(st.getD i 0 * 69621+(i:Int) * i * 16807+11) % 2147483629:=FE _ (by decide)
 generalize (st.getD i 0 * 69621+(i:Int) * i * 16807+11) % 2147483629=x at x0
 rw[gc,k7 (by omega),R5 (by omega)]
 walk_at "dz"
 rw[k7 (by omega)]
 walk_at "dz"
 have j0:0<=x % ((xs.length:Int)+1):=FE _ (by omega)
 have j1:x % ((xs.length:Int)+1)<(xs.length:Int)+1:=EY _ (by omega)
 generalize x % ((xs.length:Int)+1)=j at j0 j1
 have m0:0<=x / 64 % 2:=FE _ (by decide)
 have m1:x / 64 % 2<2:=EY _ (by decide)
 generalize x / 64 % 2=m at m0 m1
 obtain rfl |rfl:m=0\/m=1:=by omega
 . walk_at "dz";rw[Jn l j0 (by omega) hx];walk_at "dz";exact⟨_,_,Jm _ hb hy,rfl⟩
 . walk_at "dz";rw[show D.tup [D.int l.2,D.int l.1]=T2 (l.2,l.1) from rfl,Jn (l.2,l.1) j0 (by omega) hx];walk_at "dz";exact⟨_,_,Jm _ hb ⟨hy.2,hy.1⟩,rfl⟩
def vJ{ls:List P2}(st:List Int)(hl:ls.length=st.length)(hs:st.length<=57)(hb:∀p∈ls,Bd 60 p):∃xs:List P2,xs.length=ls.length/\(∀p∈xs,Bd 60 p)/\Z1 [L st,.lst (ls.map T2)]=.ok (.lst (xs.map T2)):=by
 unfold Z1 Zx;walk_at "dz";simp only[iEn];walk_at "dz";rw[Jo T2 (0,0) ls];obtain⟨av,e,xs,s5,s6,s7,hp,hq,hr⟩:=Vy (tg:=.t [3,4]) (g:=Gh) ls.length (fun (i:Nat)=>D.tup [.int (i:Int),T2 (ls.getD i (0,0))])
  (fun k ρ=>∃(xs:List P2)(s5 s6 s7:Sl),xs.length=k/\(∀p∈xs,Bd 60 p)/\ρ=[.im (L st),.im (.lst (ls.map T2)),.ow (.lst (xs.map T2)),s5,s6,s7])
  [.im (L st),.im (.lst (ls.map T2)),.ow (.lst []),.em,.em,.em] ⟨[],.em,.em,.em,rfl,fun p hp=>(by cases hp),rfl⟩ (by rintro i hi ρ ⟨xs,s5,s6,s7,hp,hq,rfl⟩;obtain⟨ys,s,⟨py,pq⟩,e⟩:=y4y (.im (.lst (ls.map T2))) st xs i (ls.getD i (0,0)) s7 (by omega) (by omega) (by omega) hq (by rw[ro,ET hi];exact hb _ (List.getElem_mem hi));exact⟨_,_,rfl,Or.inl e,⟨ys,_,_,_,by omega,pq,rfl⟩⟩)
 rw[e,hr];walk_at "dz";exact⟨xs,hp,hq,rfl⟩
def y1j(xs:List P2):dNe (.lst (xs.map T2)) (.lst [])=some (.bl (decide (xs≠[]))):=by
 cases xs with
 |nil=>rfl
 |cons x r=>
  unfold dNe
  rw[ξ ⟨Sb (x::r) T2 Ap,rfl,by have:=Ku (x::r) T2 1 Bf;simp only[D.dep,l7];omega⟩]
  rfl
def xT{α:Type}{P:α->Prop}{xs:List α}(j:Nat)(h:∀p∈xs,P p):∀p∈xs.eraseIdx j,P p:=fun p hp=>h p (List.mem_of_mem_eraseIdx hp)
def y4z{n:Int}{xs:List P2}(a x:Int)(h3:3<=n)(gC:n<=60)(hl:xs.length<=57)(hb:∀p∈xs,Bd 60 p):∃ys:List P2,ys.length<=58/\(∀p∈ys,Bd 60 p)/\Y0 [.int n,.lst (xs.map T2),.int a,.int x]=.ok (.lst (ys.map T2)):=by
 have nn:=y1j xs;have cP:(xs.map T2).length=xs.length:=gc ..;obtain⟨ys,y1,y2,e⟩:∃ys:List P2,ys.length<=58/\(∀p∈ys,Bd 60 p)/\Cd [.im (.int n),.ow (.lst (xs.map T2)),.im (.int a),.im (.int x)]=.nx [.im (.int n),.ow (.lst (ys.map T2)),.im (.int a),.im (.int x)]:=by
  by_cases h1:x % 3=0/\xs≠[]
  . have h0:0<xs.length:=List.length_pos_iff.mpr h1.2;have j0:0<=a % (xs.length:Int):=FE _ (by omega);have j1:a % (xs.length:Int)<(xs.length:Int):=EY _ (by omega);refine⟨xs.eraseIdx (a % (xs.length:Int)).toNat,?_,xT _ hb,?_⟩
    . have:=List.length_eraseIdx_le xs (a % (xs.length:Int)).toNat;omega
    . have pp:Co (.lst (xs.map T2)) [.int (a % (xs.length:Int))]=some (.lst ((xs.eraseIdx (a % (xs.length:Int)).toNat).map T2)):=by
       simp only[Co]
       rw[ξ ⟨j0,by rw[cP];exact j1,by omega⟩,HK,HK,GA,IW,List.map_drop]
      unfold Cd
      generalize xs.map T2=X at *
      walk_at "dz"
      rw[k7 (by omega)]
      walk_at "dz"
      rw[gR h1.1]
      walk_at "dz"
      rw[nn,gR h1.2]
      walk_at "dz"
      rw[cP,k7 (by omega)]
      walk_at "dz"
      rw[pp]
      walk_at "dz"
  . have sk:∀(A B:DS->SR)(ρ:DS),ρ=[.im (.int n),.ow (.lst (xs.map T2)),.im (.int a),.im (.int x)]->sIf (L7 (c8 asB (eOp dEq (eOp j8 (a5 3) (eC (.int 3))) (eC (.int 0)))) (c8 asB (eOp dNe (a5 1) (j4 a8)))) A B ρ=B ρ:=by
     intro A B ρ e
     subst e
     generalize xs.map T2=X at *
     walk_at "dz"
     rw[k7 (by omega)]
     walk_at "dz"
     by_cases z:x % 3=0
     . rw[gR z];walk_at "dz";rw[nn,decide_eq_false (fun q=>h1 ⟨z,q⟩)];walk_at "dz"
     . rw[decide_eq_false z];walk_at "dz"
    by_cases h4:3<n
    . have j0:0<=a % ((xs.length:Int)+1):=FE _ (by omega);have j1:a % ((xs.length:Int)+1)<(xs.length:Int)+1:=EY _ (by omega);have p0:0<=a % n:=FE _ (by omega);have p1:a % n<n:=EY _ (by omega);have q0:0<=(a+2+x / 3 % (n - 3)) % n:=FE _ (by omega);have q1:(a+2+x / 3 % (n - 3)) % n<n:=EY _ (by omega);obtain⟨b1,b2⟩:=Jm (n:=60) (y:=(a % n,(a+2+x / 3 % (n - 3)) % n)) (a % ((xs.length:Int)+1)).toNat hb (by unfold Bd;simp only;omega);refine⟨_,by rw[b1];omega,b2,?_⟩;have ii:=Jn (xs:=xs) (a % n,(a+2+x / 3 % (n - 3)) % n) j0 (by omega) (by omega);unfold Cd;rw[sk _ _ _ rfl];clear sk;generalize xs.map T2=X at *;walk_at "dz";rw[gR h4];walk_at "dz";rw[cP,k7 (by omega),k7 (by omega),R5 (by omega)];walk_at "dz";rw[k7 (by omega)];walk_at "dz";rw[k7 (by omega)];walk_at "dz";rw[show D.tup [D.int (a % n),D.int ((a+2+x / 3 % (n - 3)) % n)]=T2 (a % n,(a+2+x / 3 % (n - 3)) % n) from rfl,ii];walk_at "dz"
    . refine⟨xs,by omega,hb,?_⟩;unfold Cd;rw[sk _ _ _ rfl];clear sk;generalize xs.map T2=X at *;walk_at "dz";rw[decide_eq_false h4];walk_at "dz"
 refine⟨ys,y1,y2,?_⟩;unfold Y0 Cw;simp only[gV,GF,ng,GK,List.replicate_zero,GL,List.cons_append,HM,Nat.reduceAdd,FQ];rw[e]
abbrev ti(i:Int):PySem.Str:=PySem.Str.ofString (toString i)
def chk(m:Nat):Bool:=decide ((ti m).length<=2)&&((cs (ti m)).all dg&&decide ((m:Int).natAbs.log2<1920))
def vI:(List.range 61).all chk=true:=by decide +kernel
structure Ft(i:Int):Prop where
 len:(ti i).length<=2
 fg:∀c∈cs (ti i),48<=c/\c<=57
 lg:i.natAbs.log2<1920
def ft(h0:0<=i)(h1:i<=60):Ft i:=by
 have h:=EV.mp vI i.toNat (IH.mpr (by omega));have e:((i.toNat:Nat):Int)=i:=by omega
 unfold chk at h;rw[e]at h;simp only[gq,pW,EV,dg]at h;exact⟨h.1,h.2.1,h.2.2⟩
def G2(h:a.length+b.length<=1000):w8 (.str a) (.str b)=some (.str (a++b)):=by simp only[w8];rw[ξ (by omega)]
def Hd(h:Ft i):N3 [.int i]=some (.str (ti i)):=by simp only[N3];rw[ξ h.lg]
structure Pc(l n:Nat)(t:PySem.Str):Prop where
 a:∀c∈cs t,c<128
 l:t.length<=l
 n:(cs t).count 32<=n
def Pc.app{l n l' n':Nat}{a b:PySem.Str}(h:Pc l n a)(g:Pc l' n' b):Pc (l+l') (n+n') (a++b):=by
 refine⟨fun c hc=>?_,?_,?_⟩
 . rw[R9]at hc;rcases GW.mp hc with hc |hc
   . exact h.a c hc
   . exact g.a c hc
 . rw[GH];have:=h.l;have:=g.l;omega
 . rw[R9,Ip];have:=h.n;have:=g.n;omega
def Ph(h:Ft i):Pc 2 0 (ti i):=⟨fun c hc=>by have:=h.fg c hc;omega,h.len,by rw[List.count_eq_zero.mpr fun z=>by have:=h.fg 32 z;omega];exact ζ 0⟩
def tw(p:P2):PySem.Str:=PySem.Str.ofString " "++ti p.1++PySem.Str.ofString "-"++ti p.2
def Ha(h:Bd 60 p):Pc 6 1 (tw p):=by
 have a:=Ph (ft h.1.1 h.1.2);have b:=Ph (ft h.2.1 h.2.2);have s:Pc 1 1 (PySem.Str.ofString " "):=by rw[Go];exact⟨by decide,by decide,by decide⟩
 have d:Pc 1 0 (PySem.Str.ofString "-"):=by rw[Cm];exact⟨by decide,by decide,by decide⟩
 exact((s.app a).app d).app b
theorem Kl:∀ws:List PySem.Str,(∀w∈ws,Pc 6 1 w)->Pc (6 * ws.length) ws.length (PySem.Str.join PySem.Str.empty ws)
 | [],_=>⟨fun c hc=>(by cases hc),ζ _,ζ _⟩
 | [w],h=>h w io
 |w::v::r,h=>by
  have ih:=Kl (v::r) fun x hx=>h x (bI _ hx)
  have z:=(h w io).app ih;rw[show PySem.Str.join PySem.Str.empty (w::v::r)=w++PySem.Str.join PySem.Str.empty (v::r) by show w++PySem.Str.empty++_=_;rw[PySem.Str.append_empty]];refine⟨z.a,?_,?_⟩
  . have:=z.l;simp only[gV]at *;omega
  . have:=z.n;simp only[gV]at *;omega
theorem Yc(f:α->PySem.Str):∀xs:List α,W1 (xs.map fun x=>D.str (f x))=some (xs.map f)
 | []=>rfl
 |x::xs=>by rw[ng,W1,Yc f xs];rfl
theorem Re(f:α->Nat)(k:Nat):∀xs:List α,(∀x∈xs,f x<=k)->(xs.map f).sum<=xs.length * k
 | [],_=>by simp
 |x::xs,h=>by
  have:=Re f k xs fun y hy=>h y (bI _ hy)
  have:=h x io;simp only[ng,List.sum_cons,gV,Nat.succ_mul];omega
def tx(n:Int)(xs:List P2):PySem.Str:=ti n++PySem.Str.ofString ":"++PySem.Str.join PySem.Str.empty (xs.map tw)
def kH(h0:3<=n)(h1:n<=60)(hl:xs.length<=58)(hb:∀p∈xs,Bd 60 p):Tx 1 (tx n xs):=by
 have c:Pc 1 0 (PySem.Str.ofString ":"):=by rw[Q6];exact⟨by decide,by decide,by decide⟩
 have j:=Kl (xs.map tw) fun w hw=>by obtain⟨p,hp,rfl⟩:=GV.mp hw;exact Ha (hb p hp)
 have z:=((Ph (ft (i:=n) (by omega) h1)).app c).app j;rw[gc]at z;refine⟨z.a,?_,?_⟩
 . have:=z.l;unfold tx;omega
 . have:=z.n;unfold tx;omega
def y51{q:P2}(h:Bd 60 q):Bn [some (.int q.1),some (.int q.2)]=.ok (.str (tw q)):=by
 have h1:=ft h.1.1 h.1.2;have h2:=ft h.2.1 h.2.2;have a:=h1.len;have b:=h2.len;have z1:(PySem.Str.ofString " ").length=1:=by rw[Go];rfl
 have z2:(PySem.Str.ofString "-").length=1:=by rw[Cm];rfl
 unfold Bn tw;walk_at "dz";rw[Hd h1];walk_at "dz";rw[G2 (by omega)];walk_at "dz";rw[G2 (by rw[GH];omega)];walk_at "dz";rw[Hd h2];walk_at "dz";rw[G2 (by rw[GH,GH];omega)];walk_at "dz"
def Jl(h:Tx k t)(bA:a<=b)(hm:m.length<=1)(hc:∀c∈m,c<128)(e:cs t'=(cs t).take a++(m++(cs t).drop b)):Tx (k+1) t':=by
 have l:=p6 t;have l':=p6 t';have s:((cs t).drop b).count 32<=((cs t).drop a).count 32:=by
  have:((cs t).drop b).Sublist ((cs t).drop a):=by rw[show b=a+(b - a) by omega,<-List.drop_drop];exact List.drop_sublist _ _
  exact this.count_le 32
 have c2:((cs t).take a).count 32+((cs t).drop a).count 32=(cs t).count 32:=by rw[<-Ip,List.take_append_drop]
 refine⟨fun c cg=>?_,?_,?_⟩
 . rw[e]at cg;rcases GW.mp cg with z |z
   . exact h.a c (List.mem_of_mem_take z)
   . rcases GW.mp z with z |z
     . exact hc c z
     . exact h.a c (List.mem_of_mem_drop z)
 . have:=h.l;rw[e,θ,θ,HZ,HE]at l';omega
 . have:=h.n;have:=IA (a:=32) (l:=m);rw[e,Ip,Ip];omega
def ixS(h0:0<=j)(h1:j<x.length)(hl:x.length<=100000):∃c,c∈cs x/\dIx (.str x) (.int j)=some (.str ⟨#[c]⟩):=by
 have l:=p6 x;have hj:j.toNat<(cs x).length:=by omega
 refine⟨(cs x)[j.toNat],List.getElem_mem hj,?_⟩;have:atI (cs x) j=some (cs x)[j.toNat]:=by have:=S0 (xs:=cs x) (j:=j.toNat) (ET hj);rwa [Int.toNat_of_nonneg h0]at this
 simp only[dIx,dOr,y3,ξ hl,this,FC]
abbrev sg1:PySem.Str:=PySem.Str.ofString " !\"#$&'()*+,-./0123456789:;<=>?@ABCDEFGHIJKLMNOPQRSTUVWXYZ[\\]^_`"
abbrev sg2:PySem.Str:=PySem.Str.ofString "abcdefghijklmnopqrstuvwxyz{|}~\n\t"
abbrev sg3:PySem.Str:=PySem.Str.ofString "0123456789 -: -"
def okS(x:PySem.Str):Bool:=(cs x).all (fun c=>decide (c<128))&&(decide (0<x.length)&&decide (x.length<=200))
def y7l:okS (sg1++sg2)=true:=by decide +kernel
def y7m:okS sg3=true:=by decide +kernel
def y7n:sg1.length+sg2.length<=1000:=by decide +kernel
def y1l(h:okS x=true)(y:Int):∃c,c<128/\dIx (.str x) (.int (y % x.length))=some (.str ⟨#[c]⟩):=by unfold okS at h;simp only[gq,pW,EV]at h;obtain⟨c,hc,e⟩:=ixS (x:=x) (j:=y % x.length) (FE _ (by omega)) (EY _ (by omega)) (by omega);exact⟨c,h.1 c hc,e⟩
def y1m(y:Int):∃c,c<128/\Cf [.int y]=.ok (.str ⟨#[c]⟩):=by
 have a:=G2 y7n;have fin:∀x:PySem.Str,okS x=true->∃c,c<128/\SR.out false (e7 [true,true] (eOp dIx (a5 1) (eOp j8 (eOp J0 (a5 0) (eC (.int 3))) (eCB k9 (a6 (a5 1) a8)))) [.im (.int y),.im (.str x)])=.ok (.str ⟨#[c]⟩):=by intro x hx;obtain⟨c,h1,h2⟩:=y1l hx (y / 3);unfold okS at hx;simp only[gq,pW,EV]at hx;refine⟨c,h1,?_⟩;walk_at "dz";rw[Gn (by omega),R5 (by omega)];walk_at "dz";rw[k7 (by omega)];walk_at "dz";rw[h2];walk_at "dz"
 have g:∀E:DS->SR,SR.out false ((a9 (c5 false 1 [] (eC (.str sg1))) (a9 (c5 false 1 [false,true] (eOp w8 (a5 1) (eC (.str sg2)))) (a9 (sIf (c8 asB (eOp F6 (eOp j8 (a5 0) (eC (.int 3))) (eC (.int 0)))) (c5 false 1 [] (eC (.str sg3))) sNx) E))) [.im (.int y),.em])=SR.out false (E [.im (.int y),.im (.str (if 0<y % 3 then sg3 else sg1++sg2))]):=by
  intro E;generalize sg1=u at a;generalize sg2=v at a;generalize sg3=w;walk_at "dz";rw[a];walk_at "dz";rw[k7 (by omega)];walk_at "dz";by_cases z:0<y % 3
  . rw[gR z,ξ z];walk_at "dz"
  . rw[decide_eq_false z,ψ z];walk_at "dz"
 obtain⟨c,h1,h2⟩:=fin (if 0<y % 3 then sg3 else sg1++sg2) (by split;exact y7m;exact y7l);refine⟨c,h1,?_⟩;unfold Cf;rw[R8,ξ (show [D.int y].length=1 from rfl)];exact(g _).trans h2
def Tj(h:Tx k t)(hk:k<=3)(x c:Int):∃t',Tx (k+1) t'/\Q1 [.str t,.int x,.int c]=.ok (.str t'):=by
 have tl:=h.l;have ln:=Gn (x:=t) (by omega);have l:=p6 t;obtain⟨s,s1,s2⟩:=y1m (x / 3);obtain⟨a,ha⟩:∃a:Nat,(a:Int)=c % ((t.length:Int)+1):=⟨(c % ((t.length:Int)+1)).toNat,Int.toNat_of_nonneg (FE _ (by omega))⟩;have a1:a<=t.length:=by have:=EY c (show(0:Int)<(t.length:Int)+1 by omega);omega
 have ep:=Md t a1;have ed:=Ep t a;have mY:=Ep t (a+1);have kp:(cs (l9 t none (some (a:Int)))).length<=1000:=by rw[ep,HZ];omega
 have kd:(cs (l9 t (some (a:Int)) none)).length<=1000:=by rw[ed,HE];omega
 have CQ:(cs (l9 t (some ((a+1:Nat):Int)) none)).length<=1000:=by rw[mY,HE];omega
 have sp:=slS kp;have sd:=slS kd;have tF:=slS CQ;have lp:(l9 t none (some (a:Int))).length<=404:=by rw[<-p6,ep,HZ];omega
 have ld:(l9 t (some (a:Int)) none).length<=404:=by rw[<-p6,ed,HE];omega
 have EN:(l9 t (some ((a+1:Nat):Int)) none).length<=404:=by rw[<-p6,mY,HE];omega
 rw[show((a+1:Nat):Int)=(a:Int)+1 by omega]at *;generalize hp:l9 t none (some (a:Int))=p at *;generalize hd:l9 t (some (a:Int)) none=d at *;generalize EO:l9 t (some ((a:Int)+1)) none=d1 at *;have z1:(⟨#[s]⟩:PySem.Str).length=1:=rfl;have m0:0<=x % 3:=FE _ (by omega);have m1:x % 3<3:=EY _ (by omega);unfold Q1 Zu;generalize hS:(⟨#[s]⟩:PySem.Str)=S at *;have cS:cs S=[s]:=by rw[<-hS]
 by_cases h0:x % 3=0
 . refine⟨p++S++d,Jl (m:=[s]) h (ζ a) (ζ _) (fun c hc=>by rw[FJ.mp hc];exact s1) (by rw[R9,R9,ep,ed,cS,HU]),?_⟩;walk_at "dz";rw[ln];walk_at "dz";rw[k7 (by omega),<-ha];walk_at "dz";rw[R5 (by omega)];walk_at "dz";rw[s2];walk_at "dz";rw[k7 (by omega)];walk_at "dz";rw[gR h0];walk_at "dz";rw[sp,sd];walk_at "dz";rw[G2 (by omega)];walk_at "dz";rw[G2 (by rw[GH];omega)];walk_at "dz"
 . by_cases h1:x % 3=1
   . refine⟨p++d1,Jl (m:=[]) h (Iz a) (FX _) (fun c hc=>by cases hc) (by rw[R9,ep,mY];rfl),?_⟩;walk_at "dz";rw[ln];walk_at "dz";rw[k7 (by omega),<-ha];walk_at "dz";rw[R5 (by omega)];walk_at "dz";rw[s2];walk_at "dz";rw[k7 (by omega)];walk_at "dz";rw[decide_eq_false h0];walk_at "dz";rw[k7 (by omega)];walk_at "dz";rw[gR h1];walk_at "dz";rw[sp,tF];walk_at "dz";rw[G2 (by omega)];walk_at "dz"
   . refine⟨p++S++d1,Jl (m:=[s]) h (Iz a) (ζ _) (fun c hc=>by rw[FJ.mp hc];exact s1) (by rw[R9,R9,ep,mY,cS,HU]),?_⟩;walk_at "dz";rw[ln];walk_at "dz";rw[k7 (by omega),<-ha];walk_at "dz";rw[R5 (by omega)];walk_at "dz";rw[s2];walk_at "dz";rw[k7 (by omega)];walk_at "dz";rw[decide_eq_false h0];walk_at "dz";rw[k7 (by omega)];walk_at "dz";rw[decide_eq_false h1];walk_at "dz";rw[sp,tF];walk_at "dz";rw[G2 (by omega)];walk_at "dz";rw[G2 (by rw[GH];omega)];walk_at "dz"
def Rc(h:ds.all P=true)(h0:0<=j)(h1:j<ds.length):∃d,dIx (.lst ds) (.int j)=some d/\P d=true:=by
 have hl:j.toNat<ds.length:=by omega
 refine⟨ds[j.toNat],?_,EV.mp h _ (List.getElem_mem hl)⟩;have:=Sd (ET hl);rwa [Int.toNat_of_nonneg h0]at this
def Gz(h:xs.length+ys.length<=100000):n9 (.lst xs) (.lst ys)=some (.lst (xs++ys)):=by simp only[n9];rw[ξ h]
def isT:D->Bool
 | .str t=>(cs t).all (fun c=>decide (c<128))&&(decide (t.length<=400)&&decide ((cs t).count 32<=57))
 |_=>false
def kG(h:isT d=true):∃t,d=.str t/\Tx 0 t:=by
 cases d<;>first | (exfalso;simp[isT]at h;done) |skip
 rename_i t;simp only[isT,gq,pW,EV]at h;exact⟨t,rfl,h.1,h.2.1,h.2.2⟩
def od1:List String:=["",":","3","3 :"," 3:","3: ","03:","4: 0-2 ","4:0-2","4: 0 2","4: 0--2","4: -0-2","4: 0-02"]
def od2:List String:=["4: 0-2-","5: 0-2  0-3","4; 0-2","4: 0-2\n","2:","61:","99:","100:","4: 2-0","4: 0-1"]
def od3:List String:=["4: 0-0","4: 0-4","4:","5: 0-2 2-0","5: 0-2 1-3","5: 0-2 3-0","1: 0-2 0-2"]
def od4:List String:=["4: +0-2","4: \t0-2","+4: 0-2","4: 0-2\t"]
def dS(s:String):D:=.str (PySem.Str.ofString s)
def y52:(((od1.map dS++od2.map dS)++od3.map dS)++od4.map dS).all isT=true:=by decide +kernel
def Dy(l:List String):i3 (l.map dS)=true:=F4 _ _ fun _ _=>rfl
def Df(l:List String)(ρ:DE):(l.foldr (fun s f=>a6 (eC (dS s)) f) a8) ρ=.ok (l.map dS):=by
 induction l with
 |nil=>rfl
 |cons s r ih=>
  show(eC (dS s) ρ).bind (fun d=>((r.foldr (fun s f=>a6 (eC (dS s)) f) a8) ρ).bind fun ds=>R.ok (d::ds))=_
  rw[ih];rfl
def y53(x:Int):∃t,Tx 0 t/\Y1 [.int x]=.ok (.str t):=by
 have g:∀A B C E:List D,(((A++B)++C)++E).all isT=true->(((A++B)++C)++E).length=34->i3 A=true->i3 (A++B)=true->i3 ((A++B)++C)=true->i3 (((A++B)++C)++E)=true->∀fA fB fC fE:DE->R (List D),(∀ρ,fA ρ=.ok A)->(∀ρ,fB ρ=.ok B)->(∀ρ,fC ρ=.ok C)->(∀ρ,fE ρ=.ok E) ->
   ∃d,isT d=true/\SR.out false ((a9 (c5 true 1 [] (j4 fA)) (a9 (c5 true 1 [false,true] (eOp n9 (a5 1) (j4 fB))) (a9 (c5 true 1 [false,true] (eOp n9 (a5 1) (j4 fC))) (a9 (c5 true 1 [false,true] (eOp n9 (a5 1) (j4 fE))) (e7 [true,true] (eOp dIx (a5 1) (eOp j8 (a5 0) (eC (.int 34))))))))) [.im (.int x),.em])=.ok d:=by
  intro A B C E h hl n1 n2 n3 n4 fA fB fC fE eA eB CS eE
  have l1:=hl
  rw[θ,θ,θ]at l1
  obtain⟨d,e,hd⟩:=Rc h (j:=x % 34) (FE _ (by omega)) (by rw[hl];exact EY _ (by omega))
  refine⟨d,hd,?_⟩
  have nd:d.noL=true:=by obtain⟨t,rfl,_⟩:=kG hd;rfl
  have a1:A.length<=1000:=by omega
  have a2:B.length<=1000:=by omega
  have a3:C.length<=1000:=by omega
  have a4:E.length<=1000:=by omega
  walk_at "dz"
  rw[eA]
  walk_at "dz"
  rw[ξ a1,n1]
  walk_at "dz"
  rw[eB]
  walk_at "dz"
  rw[ξ a2]
  walk_at "dz"
  rw[Gz (by omega)]
  walk_at "dz"
  rw[n2]
  walk_at "dz"
  rw[CS]
  walk_at "dz"
  rw[ξ a3]
  walk_at "dz"
  rw[Gz (by rw[θ];omega)]
  walk_at "dz"
  rw[n3]
  walk_at "dz"
  rw[eE]
  walk_at "dz"
  rw[ξ a4]
  walk_at "dz"
  rw[Gz (by rw[θ,θ];omega)]
  walk_at "dz"
  rw[n4]
  walk_at "dz"
  rw[k7 (by omega)]
  walk_at "dz"
  rw[e]
  walk_at "dz"
 have m2:i3 (od1.map dS++od2.map dS)=true:=by rw[<-GA];exact Dy _
 have m3:i3 ((od1.map dS++od2.map dS)++od3.map dS)=true:=by rw[<-GA,<-GA];exact Dy _
 have m4:i3 (((od1.map dS++od2.map dS)++od3.map dS)++od4.map dS)=true:=by rw[<-GA,<-GA,<-GA];exact Dy _
 obtain⟨d,hd,e⟩:=g (od1.map dS) (od2.map dS) (od3.map dS) (od4.map dS) y52 rfl (Dy _) m2 m3 m4 _ _ _ _ (Df od1) (Df od2) (Df od3) (Df od4);obtain⟨t,rfl,ht⟩:=kG hd;refine⟨t,ht,?_⟩;unfold Y1;rw[R8,ξ (show [D.int x].length=1 from rfl)];exact e
def noS(d:D):Bool:=match m5 "str" d with
 |some (.bl b)=>!b
 |_=>false
def y54(h:noS d=true):m5 "str" d=some (.bl false):=by
 unfold noS at h;split at h
 . rename_i b e;cases b
   . exact e
   . cases h
 . cases h
def vH(t:PySem.Str)(x:Int):∃d,m5 "str" d=some (.bl false)/\Z0 [.str t,.int x]=.ok d:=by obtain⟨d,e,hd⟩:=Rc (P:=noS) (ds:=[D.non,D.int 7,D.bl true,D.lst [D.str t],D.tup [D.str t],D.dk [] [],D.int 0,D.lst [D.int 3,D.lst [D.int 0,D.int 2]]]) rfl (j:=x % 8) (FE _ (by omega)) (EY _ (by decide));refine⟨d,y54 hd,?_⟩;unfold Z0 Zw;walk_at "dz";simp only[Hs];walk_at "dz";rw[k7 (by omega)];walk_at "dz";rw[e];walk_at "dz"
abbrev lw0:DS->SR:=(c5 true 1 [true] (c9 Z5 (a6 (eSl dSl (a5 0) (oSo (eC (.int 7))) oNo) (a6 (c9 Y6 (a6 (a5 0) a8)) a8))))
abbrev lw1:DS->SR:=(Ak (.t [2,3]) [false,true] (c9 Z3 (a6 (a5 1) a8)))
abbrev lw2:DS->SR:=(c5 true 4 [false,true,false,true] (c9 Z1 (a6 (a5 1) (a6 (a5 3) a8))))
abbrev lw3:DS->SR:=(c5 false 5 [true] (eOp j8 (c9 p7 (a6 (a5 0) (a6 (eC (.int 1)) a8))) (eC (.int 8))))
abbrev lw4:DS->SR:=(sIf (c8 asB (eOp dEq (a5 5) (eC (.int 4)))) (V1 4 [true,false,true] Y0 4 (a5 2) (a6 (c9 p7 (a6 (a5 0) (a6 (eC (.int 2)) a8))) (a6 (eOp j8 (c9 p7 (a6 (a5 0) (a6 (eC (.int 3)) a8))) (eC (.int 2147483647))) a8))) sNx)
abbrev lw5:DS->SR:=(c5 false 6 [false,false,true,false,true] (eOp w8 (eOp w8 (eCB N3 (a6 (a5 2) a8)) (eC (.str ":"))) (eMt U8 (eC (.str "")) (a6 (o6 (iL (a5 4)) (bT 2) [] k8 Bn) a8))))
abbrev lw6:DS->SR:=(sIf (c8 asB (eOp l4 (a5 5) (eC (.int 4)))) (c5 false 6 [true,false,false,false,false,false,true] (c9 Q1 (a6 (a5 6) (a6 (eOp j8 (c9 p7 (a6 (a5 0) (a6 (eC (.int 2)) a8))) (eC (.int 2147483647))) (a6 (c9 p7 (a6 (a5 0) (a6 (eC (.int 3)) a8))) a8))))) sNx)
abbrev lw7:DS->SR:=(sIf (c8 asB (eOp dEq (a5 5) (eC (.int 3)))) (c5 false 6 [true,false,false,false,false,false,true] (c9 Q1 (a6 (a5 6) (a6 (eOp j8 (c9 p7 (a6 (a5 0) (a6 (eC (.int 4)) a8))) (eC (.int 2147483647))) (a6 (c9 p7 (a6 (a5 0) (a6 (eC (.int 5)) a8))) a8))))) sNx)
abbrev lw8:DS->SR:=(sIf (c8 asB (eOp dEq (a5 5) (eC (.int 5)))) (c5 false 6 [true] (c9 Y1 (a6 (c9 p7 (a6 (a5 0) (a6 (eC (.int 2)) a8))) a8))) sNx)
abbrev lw9:DS->SR:=(sIf (c8 asB (eOp dEq (a5 5) (eC (.int 6)))) (c5 false 6 [true,false,false,false,false,false,true] (c9 Z0 (a6 (a5 6) (a6 (c9 p7 (a6 (a5 0) (a6 (eC (.int 2)) a8))) a8)))) sNx)
abbrev jA:DS->SR:=(c5 false 7 [false,false,false,false,false,false,true] (c9 D4 (a6 (a5 6) a8)))
abbrev jz:DS->SR:=(sIf (o9 (c8 l5 (c9 I0 (a6 (c9 Q2 (a6 (a5 6) a8)) (a6 (a5 7) a8))))) (e7 [] (eC (.bl false))) sNx)
abbrev jy:DS->SR:=(c5 true 8 [false,false,false,false,false,false,true] (c9 Q0 (a6 (a5 6) a8)))
abbrev Pg:DS->SR:=(sIf (c8 asB (eOp dEq (eOp dIx (a5 7) (eC (.int 0))) (eC (.str "made")))) (e7 [false,false,false,false,false,false,false,false,true] (eOp dEq (a5 8) (j4 a8))) sNx)
abbrev Pf:DS->SR:=(c5 false 9 [false,false,false,false,false,false,false,true] (eOp dIx (a5 7) (eC (.int 0))))
abbrev Pe:DS->SR:=(c5 true 10 [false,false,false,false,false,false,false,false,false,true] (j4 (a6 (eC (.bl true)) (a6 (eOp dEq (a5 9) (eC (.str "text"))) (a6 (eOp dEq (a5 9) (eC (.str "floor"))) (a6 (eOp dEq (a5 9) (eC (.str "line"))) (a6 (eOp dEq (a5 9) (eC (.str "crossed"))) (a6 (eOp dEq (a5 9) (eC (.str "full"))) a8))))))))
abbrev Pd:DS->SR:=(e7 [false,false,false,false,false,false,false,false,true,false,true] (eOp dEq (a5 8) (eOp n9 (a5 10) (eOp T6 (j4 (a6 (eC (.bl false)) a8)) (eC (.int 12))))))
def rr(ns st:List Int)(n:Int)(X Y:List D)(k:Int)(s6 s7 s8:Sl):DS:=[.im (.scr ns),.im (L st),.im (.int n),.im (.lst X),.ow (.lst Y),.im (.int k),s6,s7,s8,.em,.em]
def y7o(ns:List Int):∃(st:List Int)(n:Int)(X:List D)(xs:List P2)(k:Int),(3<=n/\n<=60)/\(xs.length<=57/\∀p∈xs,Bd 60 p)/\(0<=k/\k<8)/\∀E:DS->SR,a9 lw0 (a9 lw1 (a9 lw2 (a9 lw3 E))) [.im (.scr ns),.em,.em,.em,.em,.em,.em,.em,.em,.em,.em]=E (rr ns st n X (xs.map T2) k .em .em .em):=by
 obtain⟨m,hm,em⟩:=y1h ns;obtain⟨st,aF,CT⟩:=xX (y0 ns (some 7) none) m hm;obtain⟨ls,pS,hb,eg⟩:=vK st (by omega);obtain⟨xs,iA,hc,ex⟩:=vJ st pS (by omega) hb;have nX:i3 (ls.map T2)=true:=F4 _ _ fun x _=>F3 x
 have nY:i3 (xs.map T2)=true:=F4 _ _ fun x _=>F3 x
 refine⟨st,(st.length:Int)+3,ls.map T2,xs,ns.getD (Int.toNat 1) 0 % 8,⟨by omega,by omega⟩,⟨by omega,hc⟩,⟨FE _ (by omega),EY _ (by omega)⟩,fun E=>?_⟩;have pk:=J4 ns 1 (by omega);generalize ls.map T2=X at *;generalize xs.map T2=Y at *;unfold rr;walk_at "dz";rw[em];walk_at "dz";rw[CT];walk_at "dz";rw[eg];walk_at "dz";rw[ex];walk_at "dz";try rw[nX]
 try rw[nY]
 walk_at "dz";rw[pk];walk_at "dz";rw[k7 (by omega)];walk_at "dz"
def y59{ns st:List Int}{n k:Int}{X:List D}{xs:List P2}(h3:3<=n)(gC:n<=60)(hl:xs.length<=57)(hb:∀p∈xs,Bd 60 p):∃ys:List P2,(ys.length<=58/\∀p∈ys,Bd 60 p)/\lw4 (rr ns st n X (xs.map T2) k .em .em .em)=.nx (rr ns st n X (ys.map T2) k .em .em .em):=by
 by_cases hk:k=4
 . obtain⟨ys,y1,y2,e⟩:=y4z (ns.getD (Int.toNat 2) 0) (ns.getD (Int.toNat 3) 0 % 2147483647) h3 gC hl hb;refine⟨ys,⟨y1,y2⟩,?_⟩;have p2:=J4 ns 2 (by omega);have p3:=J4 ns 3 (by omega);generalize xs.map T2=Y at *;generalize ys.map T2=Y' at *;unfold rr;walk_at "dz";rw[gR hk];walk_at "dz";unfold V1;walk_at "dz";rw[p2];walk_at "dz";rw[p3];walk_at "dz";rw[k7 (by omega)];walk_at "dz";rw[e]
 . refine⟨xs,⟨by omega,hb⟩,?_⟩;generalize xs.map T2=Y at *;unfold rr;walk_at "dz";rw[decide_eq_false hk];walk_at "dz"
def y1o(h3:3<=n)(gC:n<=60)(hl:ys.length<=58)(hb:∀p∈ys,Bd 60 p):lw5 (rr ns st n X (ys.map T2) k .em .em .em)=.nx (rr ns st n X (ys.map T2) k (.im (.str (tx n ys))) .em .em):=by
 have tk:=(kH h3 gC hl hb).l;have fn:=ft (i:=n) (by omega) gC;have cm:=S2 (bn:=bT 2) (f:=Bn) (cs:=[]) (en:=T2) (bs:=fun q=>[D.int q.1,D.int q.2]) (g:=fun q=>D.str (tw q)) ys (fun x _=>rfl) (fun q hq=>y51 (hb q hq));have so:=Yc tw ys;have z2:(PySem.Str.ofString ":").length=1:=by rw[Q6];rfl
 have fl:=fn.len;have pj:=Kl (ys.map tw) fun w hw=>by obtain⟨p,hp,rfl⟩:=GV.mp hw;exact Ha (hb p hp)
 have lj:=pj.l;rw[gc]at lj;have mj:U8 (PySem.Str.ofString "") [.lst (ys.map fun q=>D.str (tw q))]=some (.str (PySem.Str.join PySem.Str.empty (ys.map tw))):=by have a:=Re (fun y:PySem.Str=>y.length) 6 (ys.map tw) (fun y hy=>by obtain⟨p,hp,rfl⟩:=GV.mp hy;exact(Ha (hb p hp)).l);rw[gc]at a;rw[jG];simp only[U8,so,Option.bind_some];rw[ξ (by rw[gc,show PySem.Str.empty.length=0 from rfl];omega)];show some (D.str (PySem.Builtin.Str.glued PySem.Str.empty (ys.map tw)))=_;rw[PySem.StrLaws.glued_eq_join]
 have DG:(ys.map T2).length=ys.length:=gc ..;unfold tx at *;generalize ys.map T2=Y at *;generalize (ys.map fun q=>D.str (tw q))=Z at *;generalize PySem.Str.join PySem.Str.empty (ys.map tw)=J at *;unfold rr;walk_at "dz";rw[Hd fn];walk_at "dz";rw[G2 (by omega)];walk_at "dz";simp only[eMt];walk_at "dz";rw[ξ (by omega),cm];walk_at "dz";rw[mj];walk_at "dz";rw[G2 (by rw[GH];omega)];walk_at "dz"
def Okd(d:D):Prop:=(∃t,d=.str t/\Tx 3 t)\/m5 "str" d=some (.bl false)
def Tx.up{k l:Nat}{t:PySem.Str}(h:Tx k t)(hk:k<=l):Tx l t:=⟨h.a,by have:=h.l;omega,by have:=h.n;omega⟩
def y5a(h:Tx 1 t):∃t',Tx 2 t'/\lw6 (rr ns st n X Y k (.im (.str t)) .em .em)=.nx (rr ns st n X Y k (.im (.str t')) .em .em):=by
 by_cases hk:k<4
 . obtain⟨t',h',e⟩:=Tj h (by omega) (ns.getD (Int.toNat 2) 0 % 2147483647) (ns.getD (Int.toNat 3) 0);have p2:=J4 ns 2 (by omega);have p3:=J4 ns 3 (by omega);refine⟨t',h',?_⟩;unfold rr;walk_at "dz";rw[gR hk];walk_at "dz";rw[p2];walk_at "dz";rw[k7 (by omega)];walk_at "dz";rw[p3];walk_at "dz";rw[e];walk_at "dz"
 . refine⟨t,h.up (by omega),?_⟩;unfold rr;walk_at "dz";rw[decide_eq_false hk];walk_at "dz"
def y5b(h:Tx 2 t):∃t',Tx 3 t'/\lw7 (rr ns st n X Y k (.im (.str t)) .em .em)=.nx (rr ns st n X Y k (.im (.str t')) .em .em):=by
 by_cases hk:k=3
 . obtain⟨t',h',e⟩:=Tj h (by omega) (ns.getD (Int.toNat 4) 0 % 2147483647) (ns.getD (Int.toNat 5) 0);have p2:=J4 ns 4 (by omega);have p3:=J4 ns 5 (by omega);refine⟨t',h',?_⟩;unfold rr;walk_at "dz";rw[gR hk];walk_at "dz";rw[p2];walk_at "dz";rw[k7 (by omega)];walk_at "dz";rw[p3];walk_at "dz";rw[e];walk_at "dz"
 . refine⟨t,h.up (by omega),?_⟩;unfold rr;walk_at "dz";rw[decide_eq_false hk];walk_at "dz"
def y5c(h:Tx 3 t):∃t',Tx 3 t'/\lw8 (rr ns st n X Y k (.im (.str t)) .em .em)=.nx (rr ns st n X Y k (.im (.str t')) .em .em):=by
 by_cases hk:k=5
 . obtain⟨t',h',e⟩:=y53 (ns.getD (Int.toNat 2) 0);have p2:=J4 ns 2 (by omega);refine⟨t',h'.up (by omega),?_⟩;unfold rr;walk_at "dz";rw[gR hk];walk_at "dz";rw[p2];walk_at "dz";rw[e];walk_at "dz"
 . refine⟨t,h,?_⟩;unfold rr;walk_at "dz";rw[decide_eq_false hk];walk_at "dz"
def vG(h:Tx 3 t):∃d,Okd d/\lw9 (rr ns st n X Y k (.im (.str t)) .em .em)=.nx (rr ns st n X Y k (.im d) .em .em):=by
 by_cases hk:k=6
 . obtain⟨d,h',e⟩:=vH t (ns.getD (Int.toNat 2) 0);have p2:=J4 ns 2 (by omega);refine⟨d,.inr h',?_⟩;unfold rr;walk_at "dz";rw[gR hk];walk_at "dz";rw[p2];walk_at "dz";rw[e];walk_at "dz";cases hq:keeps false d
   . walk_at "dz"
   . walk_at "dz"
 . refine⟨.str t,.inl ⟨t,rfl,h⟩,?_⟩;unfold rr;walk_at "dz";rw[decide_eq_false hk];walk_at "dz"
def y5d(h:Okd d):∃e r,D4 [d]=.ok e/\B8 [d]=r/\Oc e r:=by
 rcases h with⟨t,rfl,h⟩ |h
 . exact y4s h (by omega)
 . exact⟨_,_,zn h,zjq h,.text⟩
def Al{ns st:List Int}{n k:Int}{X Y:List D}{d kk:D}{w:PySem.Str}{r:List D}{b1 b2 b3 b4 b5:Bool}(h0:dEq (.str w) (.str "made")=some (.bl false))(h1:dEq (.str w) (.str "text")=some (.bl b1))(h2:dEq (.str w) (.str "floor")=some (.bl b2))(h3:dEq (.str w) (.str "line")=some (.bl b3))(h4:dEq (.str w) (.str "crossed")=some (.bl b4))(h5:dEq (.str w) (.str "full")=some (.bl b5))(hk:kk=b18 b1 b2 b3 b4 b5):SR.out false (a9 Pg (a9 Pf (a9 Pe Pd)) (rr ns st n X Y k (.im d) (.im (.tup (.str w::r))) (.ow kk)))=.ok (.bl true):=by
 have e:dEq kk (b18 b1 b2 b3 b4 b5)=some (.bl true):=by subst hk;exact Lo rfl (Nat.le_of_ble_eq_true rfl)
 have rp:T6 (.lst [.bl false]) (.int 12)=some (.lst (List.replicate 12 (.bl false))):=rfl;have ct:n9 (.lst [.bl true,.bl b1,.bl b2,.bl b3,.bl b4,.bl b5]) (.lst (List.replicate 12 (.bl false)))=some (b18 b1 b2 b3 b4 b5):=rfl;unfold rr;generalize b18 b1 b2 b3 b4 b5=K8 at *;clear hk;walk_at "dz";rw[h0];walk_at "dz";rw[h1,h2,h3,h4,h5];walk_at "dz";rw[rp];simp only[R.of_some,R.bind_ok];rw[ct];walk_at "dz";rw[e];walk_at "dz"
def y5e(h:Kd e kk):SR.out false (a9 Pg (a9 Pf (a9 Pe Pd)) (rr ns st n X Y k (.im d) (.im e) (.ow kk)))=.ok (.bl true):=by
 cases h with
 |text r=>exact Al rfl rfl rfl rfl rfl rfl rfl
 |floor r=>exact Al rfl rfl rfl rfl rfl rfl rfl
 |line r=>exact Al rfl rfl rfl rfl rfl rfl rfl
 |crossed r=>exact Al rfl rfl rfl rfl rfl rfl rfl
 |full r=>exact Al rfl rfl rfl rfl rfl rfl rfl
 |made r=>
  unfold rr
  have h:dEq (.str "made") (.str "made")=some (.bl true):=rfl
  have g:dEq (.lst []) (.lst [])=some (.bl true):=rfl
  walk_at "dz"
  rw[h]
  walk_at "dz"
  rw[g]
  walk_at "dz"
def xS(ns:List Int)(bo:ns.length<=63):U6 [.scr ns]=.ok (.bl true):=by
 obtain⟨st,n,X,xs,k,⟨n3,pT⟩,⟨x1,x2⟩,_,h0⟩:=y7o ns;obtain⟨ys,⟨y1,y2⟩,h4⟩:=y59 (ns:=ns) (st:=st) (k:=k) (X:=X) n3 pT x1 x2;have h5:=y1o (ns:=ns) (st:=st) (k:=k) (X:=X) n3 pT y1 y2;obtain⟨t1,u1,h6⟩:=y5a (ns:=ns) (st:=st) (n:=n) (k:=k) (X:=X) (Y:=ys.map T2) (kH n3 pT y1 y2);obtain⟨t2,u2,h7⟩:=y5b (ns:=ns) (st:=st) (n:=n) (k:=k) (X:=X) (Y:=ys.map T2) u1;obtain⟨t3,u3,h8⟩:=y5c (ns:=ns) (st:=st) (n:=n) (k:=k) (X:=X) (Y:=ys.map T2) u2;obtain⟨d,u4,h9⟩:=vG (ns:=ns) (st:=st) (n:=n) (k:=k) (X:=X) (Y:=ys.map T2) u3;obtain⟨e,r,e1,e2,oc⟩:=y5d u4;obtain⟨a,a1,a2,kk,k1,kd⟩:=y4w e2 oc;have CU:jA (rr ns st n X (ys.map T2) k (.im d) .em .em)=.nx (rr ns st n X (ys.map T2) k (.im d) (.im e) .em):=by
  unfold rr;walk_at "dz";rw[e1];walk_at "dz";cases keeps false e
  . walk_at "dz"
  . walk_at "dz"
 have CV:jz (rr ns st n X (ys.map T2) k (.im d) (.im e) .em)=.nx (rr ns st n X (ys.map T2) k (.im d) (.im e) .em):=by unfold rr;walk_at "dz";rw[a1];walk_at "dz";rw[a2];walk_at "dz"
 have tj:jy (rr ns st n X (ys.map T2) k (.im d) (.im e) .em)=.nx (rr ns st n X (ys.map T2) k (.im d) (.im e) (.ow kk)):=by
  have nk:keeps true kk=true:=by cases kd<;>rfl
  unfold rr;walk_at "dz";rw[k1];walk_at "dz";rw[nk];walk_at "dz"
 unfold U6;rw[R8,ξ (show [D.scr ns].length=1 from rfl)];show SR.out false (a9 lw0 (a9 lw1 (a9 lw2 (a9 lw3 (a9 lw4 (a9 lw5 (a9 lw6 (a9 lw7 (a9 lw8 (a9 lw9 (a9 jA (a9 jz (a9 jy (a9 Pg (a9 Pf (a9 Pe Pd))))))))))))))) [.im (.scr ns),.em,.em,.em,.em,.em,.em,.em,.em,.em,.em])=_;rw[h0,G3 h4,G3 h5,G3 h6,G3 h7,G3 h8,G3 h9,G3 CU,G3 CV,G3 tj];exact y5e kd
end K17
namespace K17
open PySem PySem.Spec PyProof.Rows L2
def walk{l:PySem.W.OpenLaw}{q:Program}{loose:List Str}{XP:(Str->Option Value)->Heap->Prop}{YP:World->Heap->Prop}{d:DefRec}{K:Params->Frag}(hn:l.most=some 63)(lu:d.params.defaults=[])
  (hY:∀(w:World)(h:Heap),YP w h->(K w.params).In h)
  (F:∀(w:World)(mg:Str->Option Value)(fa:Addr)(h:Heap),(K w.params).In h->h.Ns mainGlobals mg->mg d.name=some (.ref fa) ->
   ∃fd:FuncData,(∀(s:Shared)(u:Value),BindsTo s fd ⟨[u],[]⟩ [("_law_script",u)])/\∀base:Heap,(K w.params).In base->base.Ns mainGlobals mg->FnOk l.prog w (K w.params) mg base (CX1 l.prog w) 8 fa fd ["_law_script"] (spL (K w.params) false U6 1)) :
  PySem.W.WalkO q loose XP YP l.row.toRowW d [] (fun f vs=>PySem.call f vs):=
 L2.walk_of (n:=63) (k:=8) (x:="_law_script") (CX:=fun w=>CX1 l.prog w) (sp:=fun w=>(spL (K w.params) false U6 1)) hn (by decide) lu ⟨rfl,by decide,by decide⟩ hY F (fun _ _ a ns hl hO hS=>qA hO hS (xS ns hl)) fun _ _ _ _ _ ⟨_,_,_,_,_,_,z⟩=>z
end K17
open PySem PySem.W PyProof.Rows
set_option maxRecDepth 100000 in
set_option maxHeartbeats 0 in
theorem PySem.Challenge.cw_friezeyard_k17_texts_refused_holds : PySem.Challenge.rw_friezeyard_k17_texts_refused.Holds := by
 w_on;o_law
 refine holds_open (q:=K17.q) (loose:=[]) (Xt:=K17.xtH) (XP:=XL K17.q []) (Yf:=K17.hook.obs) (Ya:=K17.hook.val)
  (YP:=K17.hook.says) (N:=10468) K17.left K17.hook.of K17.hook.keeps
  (fun s e=>xl_of s (Bool.and_eq_true_iff.mp e).1) XL.keeps (by rfl) (by rfl) (by rfl)
  (fun s e=>recFacts_of (Bool.and_eq_true_iff.mp e).2) (by rfl) (by assumption) (by decide +kernel)
  ⟨rfl,rfl,rfl,rfl,rfl,by decide +kernel⟩ ?hw ?hc
 (case hw=>w_witness2)
 refine K17.walk (l:=PySem.Challenge.rw_friezeyard_k17_texts_refused) (K:=K17.K) rfl rfl (fun w h Y=>Y) ?F
 case F=>
  intro w mg fa h KX G hmg
  k_fill
  refine' K17.all_mk KX G hmg ?A0 ?A1 ?A2 ?A3 ?A4 ?A5 ?A6 ?A7 ?A8 ?A9 ?A10 ?A11 ?A12 ?A13 ?A14 ?A15 ?A16 ?A17 ?A18 ?A19 ?A20 ?A21 ?A22 ?A23 ?A24 ?A25 ?A26 ?A27 ?A28 ?A29 ?A30 ?A31 ?A32 ?A33 ?A34 ?A35 ?A36 ?A37 ?A38 ?A39 ?A40 ?T ?Z ?ni_Crossed ?li_Crossed ?ci_Crossed ?ki_Crossed ?ti_Crossed ?ni_NotFull ?li_NotFull ?ci_NotFull ?ki_NotFull ?ti_NotFull
  (case A0=>apply L2.fat;k_is;k_is;k_is;k_is)
  (case A1=>apply L2.fat;k_is;k_is;k_is;k_is)
  (case A2=>apply L2.fat;k_is;k_is;k_is;k_is)
  (case A3=>apply L2.fat;k_is;k_is;k_is;k_is)
  (case A4=>apply L2.fat;k_is;k_is;k_is;k_is)
  (case A5=>apply L2.fat;k_is;k_is;k_is;k_is)
  (case A6=>apply L2.fat;k_is;k_is;k_is;k_is)
  (case A7=>apply L2.fat;k_is;k_is;k_is;k_is)
  (case A8=>apply L2.fat;k_is;k_is;k_is;k_is)
  (case A9=>apply L2.fat;k_is;k_is;k_is;k_is)
  (case A10=>apply L2.fat;k_is;k_is;k_is;k_is)
  (case A11=>apply L2.fat;k_is;k_is;k_is;k_is)
  (case A12=>apply L2.fat;k_is;k_is;k_is;k_is)
  (case A13=>apply L2.fat;k_is;k_is;k_is;k_is)
  (case A14=>apply L2.fat;k_is;k_is;k_is;k_is)
  (case A15=>apply L2.fat;k_is;k_is;k_is;k_is)
  (case A16=>apply L2.fat;k_is;k_is;k_is;k_is)
  (case A17=>apply L2.fat;k_is;k_is;k_is;k_is)
  (case A18=>apply L2.fat;k_is;k_is;k_is;k_is)
  (case A19=>apply L2.fat;k_is;k_is;k_is;k_is)
  (case A20=>apply L2.fat;k_is;k_is;k_is;k_is)
  (case A21=>apply L2.fat;k_is;k_is;k_is;k_is)
  (case A22=>apply L2.fat;k_is;k_is;k_is;k_is)
  (case A23=>apply L2.fat;k_is;k_is;k_is;k_is)
  (case A24=>apply L2.fat;k_is;k_is;k_is;k_is)
  (case A25=>apply L2.fat;k_is;k_is;k_is;k_is)
  (case A26=>apply L2.fat;k_is;k_is;k_is;k_is)
  (case A27=>apply L2.fat;k_is;k_is;k_is;k_is)
  (case A28=>apply L2.fat;k_is;k_is;k_is;k_is)
  (case A29=>apply L2.fat;k_is;k_is;k_is;k_is)
  (case A30=>apply L2.fat;k_is;k_is;k_is;k_is)
  (case A31=>apply L2.fat;k_is;k_is;k_is;k_is)
  (case A32=>apply L2.fat;k_is;k_is;k_is;k_is)
  (case A33=>apply L2.fat;k_is;k_is;k_is;k_is)
  (case A34=>apply L2.fat;k_is;k_is;k_is;k_is)
  (case A35=>apply L2.fat;k_is;k_is;k_is;k_is)
  (case A36=>apply L2.fat;k_is;k_is;k_is;k_is)
  (case A37=>apply L2.fat;k_is;k_is;k_is;k_is)
  (case A38=>apply L2.fat;k_is;k_is;k_is;k_is)
  (case A39=>apply L2.fat;k_is;k_is;k_is;k_is)
  (case A40=>apply L2.fat;k_is;k_is;k_is;k_is)
  (case T=>constructor<;>exact mg_none_of KX G (by k_is))
  (case Z=>constructor;exact mg_of KX G (by k_is);exact mg_of KX G (by k_is);exact mg_of KX G (by k_is);exact mg_of KX G (by k_is);exact mg_of KX G (by k_is);exact mg_of KX G (by k_is);exact mg_of KX G (by k_is);exact mg_of KX G (by k_is);exact mg_of KX G (by k_is);exact mg_of KX G (by k_is);exact mg_of KX G (by k_is);exact mg_of KX G (by k_is);exact mg_of KX G (by k_is);exact mg_of KX G (by k_is);exact mg_of KX G (by k_is);exact mg_of KX G (by k_is);exact mg_of KX G (by k_is);exact mg_of KX G (by k_is);k_is;k_is;k_is;k_is;k_is;k_is;kernel_rfl;k_is;k_is;k_is;k_exc;k_exc;k_exc;k_exc;kernel_rfl;k_is;k_is;k_is;k_is;k_is;k_is;k_is;k_is;k_is;k_is;k_is;k_is;k_is;kit_is;kit_is;kit_is;kit_is;kit_is;kit_is;kit_is;kit_is;kit_is;kit_is;kit_is;kit_is;kit_is;kit_is;kit_is;kit_is;kit_is;kit_is;k_is;k_is;k_is;k_is;k_is;k_is;k_is;k_is;k_is;k_is;k_is;kit_is;kit_is;kit_is;kit_is;kit_is;kit_is;kit_is;kit_is;kit_is;kit_is;kit_is;kit_is;kit_is;kit_is;kit_is;kit_is;kit_is;kit_is;k_is;k_is;k_is;k_is;k_is;k_is;k_is;k_is;k_is;k_is;k_is;kit_is;kit_is;kit_is;kit_is;kit_is;kit_is;kit_is;kit_is;kit_is;kit_is;kit_is;kit_is;kit_is;kit_is;kit_is;kit_is;kit_is;kit_is;k_is;k_is;k_is;k_is;k_is;k_is;k_is;k_is;k_is;k_is;k_is;kit_is;kit_is;kit_is;kit_is;kit_is;kit_is;kit_is;kit_is;kit_is;kit_is;kit_is;kit_is;kit_is;kit_is;kit_is;kit_is;kit_is;kit_is;k_is;k_is;k_is;k_is;k_is;k_is;k_is;k_is;k_is;k_is;k_is;kit_is;kit_is;kit_is;kit_is;kit_is;kit_is;kit_is;kit_is;kit_is;kit_is;kit_is;kit_is;kit_is;kit_is;kit_is;kit_is;kit_is;kit_is)
  (case ni_Crossed=>k_is)
  (case li_Crossed=>k_is)
  (case ci_Crossed=>k_is)
  (case ki_Crossed=>k_is)
  (case ti_Crossed=>k_is)
  (case ni_NotFull=>k_is)
  (case li_NotFull=>k_is)
  (case ci_NotFull=>k_is)
  (case ki_NotFull=>k_is)
  (case ti_NotFull=>k_is)
