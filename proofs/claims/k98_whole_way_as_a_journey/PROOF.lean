import PyProof.Rows.All
import Wide.All
import OpenK.AllK
import Wide.FinOn
import Lean
import PyProof.EqAt
import PyProof.EqKinds
import PyProof.TupleCall
import KE.KIsAll
import KE.RegKIsAll
import PyProof.ExcArgsOwn
import PyProof.InstStoreFacts
import PyProof.Rows.MinMaxN
import PyProof.Rows.CallKwBuiltin
import KE.KMinKey
import KE.KDictOf
import PyProof.AttrMissSeq
import KE.KIntText
import PyProof.SliceStr2
import PyProof.Rows.StrJoin2
import PyProof.StrCalls
import PyProof.StrWalks
import PyProof.Rows.FStr
import KE.KSortAsk
import PyProof.Draws
import PyProof.Rows.TupDisplay
import KE.KRevIter
import PySem.Challenge.RW_friezeyard_k98_whole_way_as_a_journey
set_option compiler.extract_closed false
noncomputable section
open PySem.W (Frag codeIn emptyDict hideAll hideAll_get hideAll_none instObj isFn keepIn kia_one lookIn nsIn)
def bI:=@List.length_map
def dg:=@List.mem_cons_of_mem
def eH:=@List.mem_cons
def gq:=@List.mem_cons_self
def gD:=@List.map_cons
def gR:=@Bool.and_eq_true
def gV:=@List.mem_singleton
def io:=@List.length_cons
def ng:=@decide_eq_true_eq
def nF:=@List.size_toArray
def oF:=@List.getElem?_eq_getElem
def pp:=@List.getD_eq_getElem?_getD
def tB:=@Bool.false_eq_true
def CA:=@List.mem_filter
def CB:=@Classical.byContradiction
def CC:=@Nat.ne_of_lt
def CD:=@Nat.le_trans
def CF:=@List.mem_map
def CG:=@Nat.lt_of_lt_of_le
def CH:=@List.filter_cons_of_pos
def CI:=@List.zip_cons_cons
def CJ:=@List.getElem?_map
def CK:=@List.mem_append_right
def CL:=@List.nodup_cons
def CM:=@List.map_nil
def CN:=@List.mem_append
def CO:=@Option.map_some
def CP:=@PySem.F.plainAttrs_list
def CQ:=@decide_eq_false_iff_not
def CS:=@List.map_append
def CT:=@List.append_nil
def CU:=@List.getElem?_eq_some_iff
def CV:=@PySem.PassesOwn.leaving
def CW:=@PySem.F.type_list_append
def CY:=@PySem.F.slot_list_append
def CZ:=@List.length_singleton
def DA:=@List.length_filter_le
def DB:=@PySem.Str.length_append
def DC:=@Nat.zero_le
def DF:=@List.all_eq_true
def DG:=@if_false
def DH:=@List.getElem?_append_right
def DI:=@congrArg
def DJ:=@List.map_map
def DK:=@List.length_zip
def DL:=@PySem.Heap.get?_update_other
def DM:=@PySem.wpAny_holding
def DO:=@List.length_eq_zero_iff
def DQ:=@List.mem_of_getElem?
def DR:=@Int.lt_or_eq_of_le
def DT:=@List.nil_append
def DU:=@List.length_set
def DV:=@Bool.and_self
def DW:=@PySem.F.plain_max_loop
def DX:=@beq_eq_false_iff_ne
def DY:=@if_true
def DZ:=@Int.lt_trichotomy
def EA:=@Nat.lt_irrefl
def EB:=@Bool.or_eq_true
def EC:=@List.mem_append_left
def ED:=@List.filter_cons_of_neg
def EE:=@List.filter_cons
def EF:=@PyProof.Rows.callWith_type1
def EG:=@List.idxOf_lt_length_of_mem
def EH:=@of_decide_eq_true
def EI:=@List.perm_ext_iff_of_nodup
def EJ:=@List.mem_range
def EK:=@List.replicate_succ
def EL:=@List.getElem?_append_left
def EM:=@PySem.wpAny_mono
def EN:=@List.getElem?_eq_none
def EO:=@List.getElem?_set_ne
def EQ:=@PySem.mem_of_lookup
def ER:=@List.filterMap_cons
def ES:=@Array.length_toList
def ET:=@List.getElem?_set_self
def EU:=@Int.lt_trans
def EV:=@PySem.wpAny_truthy_bool
def EW:=@Prod.ext
def EY:=@List.pairwise_cons
def EZ:=@List.exists_mem_of_ne_nil
def FA:=@List.length_nil
def FB:=@Bool.eq_iff_iff
def FC:=@PySem.wpAny_Call_Name_kw
def FD:=@List.flatten_cons
def FE:=@beq_iff_eq
def FG:=@List.not_mem_nil
def FH:=@List.cons_ne_nil
def FI:=@PySem.Str.empty_append
def FJ:=@Option.map_eq_some_iff
def FK:=@List.mem_filterMap
def FL:=@Int.lt_of_lt_of_le
def FM:=@List.find?_cons
def FN:=@Int.le_antisymm
def FO:=@List.sum_cons
def FP:=@Ne.symm
def FQ:=@List.pairwise_map
def FR:=@Int.emod_eq_of_lt
def FS:=@Bool.not_eq_true'
def FT:=@PySem.wpAny_passesOwn
def FU:=@Int.not_lt
def FV:=@Array.getElem?_eq_some_iff
def FW:=@Nat.le_of_lt
def FX:=@List.lookup_cons
def FY:=@PySem.Heap.get?_update_self
def FZ:=@List.getElem?_zip_eq_some
def GA:=@PySem.sizeLine_eq
def GB:=@PyProof.Rows.boot_isinstance
def GC:=@List.filter_append
def GD:=@Int.lt_of_le_of_lt
def GF:=@decide_true
def GG:=@decide_false
def GH:=@PySem.F.entry_max_loop
def GI:=@List.reverse_cons
def GJ:=@List.find?_cons_of_pos
def GK:=@List.find?_cons_of_neg
def GL:=@List.append_assoc
def GN:=@Int.le_of_lt
def GO:=@List.length_replicate
def GP:=@PySem.wpAny_seqItems
def GQ:=@PySem.Str.cps_append
def GR:=@List.perm_cons_erase
def GS:=@Bool.or_eq_false_iff
def GU:=@List.forIn_cons
def GV:=@List.filter_nil
def GW:=@PyProof.Rows.boot_tuple
def GX:=@List.length_reverse
def GY:=@Int.ne_of_gt
def GZ:=@PySem.Heap.size_update
def HA:=@List.perm_append_singleton
def HB:=@List.nodup_nil
def HC:=@PySem.Around.under_plainId
def HE:=@List.drop_eq_getElem_cons
def HF:=@Nat.le_succ
def HG:=@List.zip_nil_left
def HH:=@List.nodup_append
def HI:=@Array.getElem?_replicate
set_option Elab.async false
set_option linter.all false
set_option maxRecDepth 100000
set_option maxHeartbeats 4000000
def ξ:=@if_neg
def ζ:=@if_pos
def η:=@Nat.le_refl
def θ:=@Bool.false_ne_true
def χ:=@List.length_append
namespace L2
open PySem PySem.Spec PyProof.Rows
def δ:=@wpAny_bind
def γ:=@wpS_bind
def ω:=@wpAny_pure
def τ:=@Heap.get?_push_of_some
def π:=@Heap.lt_size
def Ψ:=@Heap.get?_push_size
noncomputable def t7(s:Stmt):Arguments:=match s with
 | .FunctionDef _ a _ _ _ _ _ _ _ _=>a
 |_=>{ posonlyargs:=[],args:=[],vararg:=none,kwonlyargs:=[],kw_defaults:=[],kwarg:=none,defaults:=[] }
noncomputable def l7(s:Stmt):List Stmt:=match s with
 | .FunctionDef _ _ b _ _ _ _ _ _ _=>b
 |_=>[]
noncomputable def d7(s:Stmt):Scope:=match s with
 | .FunctionDef _ _ _ _ _ _ sc _ _ _=>sc
 |_=>{ kind:=.function,names:=[],isGenerator:=false,isCoroutine:=false }
open PySem.W in
noncomputable def Ek(tb:String->Option Builtin)(p:Program)(w:World)(m:Nat)(gC:Option Value):Nat->SharedT->Thread->Option SharedT
 | 0,_,_=>none
 |n+1,s,t=>match through t with
  |true=>some s
  |false=>match stepOk m gC t with
   |false=>none
   |true=>match stepT (denote tb) p w s t with
    |some (s',t')=>Ek tb p w m gC n s' t'
    |none=>none
open PySem.W in
theorem Zv:∀(n:Nat){s s':SharedT}{t:Thread},Ek tb p w m gC n s t=some s'->topRun tb p w m gC n s.abs t=some s'.abs
 | 0,_,_,_,h=>nomatch h
 |n+1,s,s',t,h=>by
  unfold Ek at h;unfold topRun;cases a:through t with
  |true=>rw[a]at h;cases h;rfl
  |false=>
   rw[a]at h
   cases b:stepOk m gC t with
   |false=>rw[b]at h;cases h
   |true=>
    rw[b]at h
    cases c:stepT (denote tb) p w s t with
    |none=>rw[c]at h;cases h
    |some z=>
     obtain⟨s2,t2⟩:=z
     rw[c]at h
     rw[stepT_spec c]
     exact Zv n h
open PySem.W in
noncomputable def Tj:List Obj->Nat->BT->BT
 | [],_,t=>t
 |o::l,i,t=>Tj l (i+1) (t.ins i o)
open PySem.W in
def bootS(w:World)(os:OsState):SharedT:=⟨Tj (boot_heap w.params).objs.toList 0 .nil,(boot_heap w.params).objs.size,(boot_heap w.params).life,Array.mk [],boot_drawn,boot_toks,os⟩
open PySem.W in
noncomputable def seenAt(p q:Program)(loose:List Str)(Xt:Shared->Bool){α:Type}(Yf:Shared->α)(w:World)(t:Shared):=
 (staticsOk (importedModules p.main.body) (boot_heap w.params) t.heap&&namesBound p t.heap&&gensDone t&&laidKept (boot_heap w.params) t.heap,openSeen q loose (importedModules p.main.body) Xt true t,Yf t)
open PySem.W in
def outAt(p q:Program)(loose:List Str)(Xt:Shared->Bool){α:Type}(Yf:Shared->α)(N:Nat)(w:World)(os:OsState):=
 (Ek treeTable p w (boot_heap w.params).objs.size ((boot_heap w.params).nsMap mainGlobals "__annotations__") N (bootS w os) (topStub p)).map fun s=>seenAt p q loose Xt Yf w s.abs
open PySem.W in
def znf:∀(w:World)(os:OsState),(bootS w os).abs=⟨boot_heap w.params,Array.mk [],boot_drawn,boot_toks,os⟩:=fun _ _=>by kernel_rfl
open PySem.W in
def yH:∀w:World,(boot_heap w.params).isNs mainGlobals=true:=fun _=>by kernel_rfl
open PySem.W in
def yG(e:opening p=plainProg p.main.scope.names)(hN:Nat.ble 600 N=true)
  (f:∀s,fenceModules? p s=some s) (h:∀w os,outAt p q loose Xt Yf N w os=some (true,openGood q loose,Ya w)):LeftO p q loose Xt Yf Ya N:=fun w=>by
 obtain⟨⟨hp,gs,d,k,os⟩,a,b⟩:=FJ.mp (boot_open e hN f w)
 obtain⟨rfl,rfl,rfl,rfl⟩:hp=boot_heap w.params/\gs=Array.mk []/\d=boot_drawn/\k=boot_toks:=by simpa using b
 obtain⟨s,r,c⟩:=FJ.mp (h w os)
 have r2:=Zv N r
 rw[znf]at r2
 obtain⟨l1,l2,l3⟩:_/\_/\_:=by simpa only [seenAt,Prod.mk.injEq] using c
 have t:topFrom treeTable p w N ⟨boot_heap w.params,Array.mk [],boot_drawn,boot_toks,os⟩=some s.abs:=by unfold topFrom;dsimp only;rw[yH,r2];show(match staticsOk (importedModules p.main.body) (boot_heap w.params) s.abs.heap&&namesBound p s.abs.heap&&gensDone s.abs&&laidKept (boot_heap w.params) s.abs.heap with |true=>_ |false=>_)=_;rw[l1]
 unfold openEnds
 rw[a]
 show(topFrom treeTable p w N _).map _=_
 rw[t]
 exact DI some (EW l2 l3)
abbrev b8(x:String)(t:Nat):Value:=.str (Str.ofString x) t
abbrev c8(P:Params)(x:String)(t:Nat)(v:Value):DictEntry:=⟨PyData.keyHash P (Str.ofString x),.str (Str.ofString x) t,v⟩
abbrev b9(l:List Value):Obj:={ cls:=.type "tuple",data:=.seq l.toArray }
abbrev F1(l:List DictEntry)(n:Nat):Obj:={ cls:=.type "dict",data:=.dict l.toArray n }
abbrev x9(st:Stmt)(x q:String)(dV kV doc pm:Value)(an:Option Addr)(cd ct:Value):Obj:={ cls:=.type "function",data:=.func (PySem.W.fnOf (Str.ofString x) (Str.ofString q) (t7 st) (l7 st) (d7 st) dV kV doc pm an cd ct) }
noncomputable def D9:Stmt->Nat->Stmt
 | .ClassDef _ _ _ b _ _ _ _ _ _ _,j=>b.getD j (.Pass ⟨0,0,0,0⟩)
 |s,_=>s
end L2
namespace K98
open PySem PySem.Spec PyProof.Rows L2
def top(i:Nat):Stmt:=PySem.Challenge.pw_friezeyard_k98_whole_way_as_a_journey.main.body.getD i (.Pass ⟨0,0,0,0⟩)
abbrev kO(n:String)(t1:Nat)(q:String)(t2 t3:Nat)(a b c d e:Int)(r1:Nat)(g:Int)(r2 r3 r4 r5:Nat)(k l:Int)(t4:Nat):Obj:=⟨.type "code",none,.fields [b8 n t1,b8 q t2,b8 "/claim/cut.py" t3,.int a 0,.int b 0,.int c 0,.int d 0,.int e 0,.ref r1,.bool true,.int g 0,.ref r2,.none,.ref r3,.ref r4,.ref r5,.int k 0,.int l 0,b8 "/claim/cut.py" t4].toArray,#[]⟩
abbrev kCo(n:String)(t1:Nat)(q:String)(t2 t3:Nat)(a b c d e:Int)(r1:Nat)(g:Int)(r2 r5:Nat)(k l:Int)(t4:Nat):Obj:=⟨.type "code",none,.fields [b8 n t1,b8 q t2,b8 "/claim/cut.py" t3,.int a 0,.int b 0,.int c 0,.int d 0,.int e 0,.ref r1,.bool true,.int g 0,.ref r2,.none,.none,.none,.ref r5,.int k 0,.int l 0,b8 "/claim/cut.py" t4].toArray,#[]⟩
abbrev fO(i:Nat)(n m:String)(t r:Nat):Obj:=x9 (top i) n n .none .none .none (b8 m t) none (.ref r) .none
abbrev cO(n:String)(b a ns r t1 t2:Nat):Obj:=⟨.type "type",none,.cls { name:=Str.ofString n,bases:=[.ref b],mro:=[.ref a,.ref b,.type "ValueError",.type "Exception",.type "BaseException",.type "object"],ns:=ns,qualname:=Str.ofString n,hasDict:=true,slotNames:=[],subclasses:=[],abstract:=false,collection:=none,hasDel:=false },#[some (.ref r),none,some (b8 n t1),some (b8 n t2),some (.builtin "ValueError.__new__"),some (.bool true)]⟩
def K:Params->Frag:=fun P=>
 (nat_lit 2,⟨.none,none,(.dict [].toArray 0),#[]⟩) ::
 (nat_lit 3,F1 [c8 P "__name__" 165 (b8 "law_friezeyard_k98_whole_way_as_a_journey" 746),c8 P "__doc__" 166 .none,c8 P "__package__" 167 .none,c8 P "__loader__" 168 (.builtin "__main__.__loader__#opaque"),c8 P "__spec__" 169 .none,c8 P "__annotations__" 170 (.ref 6),c8 P "__builtins__" 171 (.ref 4),c8 P "__file__" 173 (b8 "/claim/cut.py" 172),c8 P "__cached__" 174 .none,c8 P "walked" 198 (.ref 21),c8 P "home" 209 (.ref 28),c8 P "FloorError" 229 (.ref 38),c8 P "NoLine" 245 (.ref 51),c8 P "NoCorner" 261 (.ref 63),c8 P "NotAlike" 277 (.ref 75),c8 P "NoDeed" 293 (.ref 87),c8 P "is_whole" 302 (.ref 96),c8 P "pair" 310 (.ref 103),c8 P "is_side" 320 (.ref 110),c8 P "is_line" 328 (.ref 117),c8 P "is_two" 337 (.ref 124),c8 P "has_pair" 345 (.ref 131),c8 P "check_line" 353 (.ref 138),c8 P "check_pair" 361 (.ref 145),c8 P "check_corner" 369 (.ref 152),c8 P "opposite" 375 (.ref 157),c8 P "is_figures" 381 (.ref 162),c8 P "two_read" 387 (.ref 167),c8 P "two_shown" 396 (.ref 174),c8 P "rooms" 404 (.ref 179),c8 P "room_under" 413 (.ref 186),c8 P "corner_behind" 419 (.ref 191),c8 P "triangles" 426 (.ref 198),c8 P "thirds" 432 (.ref 203),c8 P "spun" 441 (.ref 209),c8 P "mirrored" 447 (.ref 214),c8 P "image" 453 (.ref 219),c8 P "turned" 461 (.ref 224),c8 P "Deed" 483 (.ref 234),c8 P "TurnLine" 531 (.ref 276),c8 P "Spin" 579 (.ref 316),c8 P "Mirror" 618 (.ref 349),c8 P "read_deed" 626 (.ref 358),c8 P "pair_read" 634 (.ref 365),c8 P "whole_read" 643 (.ref 372),c8 P "to_fan" 657 (.ref 380),c8 P "lines_facing" 663 (.ref 385),c8 P "numbers" 675 (.ref 392),c8 P "steps_to" 686 (.ref 399),c8 P "front_behind" 698 (.ref 406),c8 P "way_to" 704 (.ref 411),c8 P "way_in_room" 710 (.ref 416),c8 P "part_in" 716 (.ref 421),c8 P "shortest" 727 (.ref 428),c8 P "over_fan" 733 (.ref 433),c8 P "back_from" 745 (.ref 440),c8 P "_law_drawn" 755 (.ref 447),c8 P "_law_grown" 761 (.ref 452),c8 P "_law_cut" 772 (.ref 459),c8 P "_law_joined" 782 (.ref 466),c8 P "_law_turned" 788 (.ref 471),c8 P "_law_over" 799 (.ref 478),c8 P "law" 805 (.ref 483)] 63) ::
 (nat_lit 15,b9 []) ::
 (nat_lit 17,b9 [(b8 "cut" 192),(b8 "deeds" 193),(b8 "found" 194),(b8 "deed" 195)]) ::
 (nat_lit 18,b9 []) ::
 (nat_lit 20,(kO "walked" 189 "walked" 190 191 2 2 0 0 3 15 181 16 17 18 19 196 2 197)) ::
 (nat_lit 21,(fO 1 "walked" "friezeyard.journeys" 187 20)) ::
 (nat_lit 22,b9 []) ::
 (nat_lit 24,b9 [(b8 "cut" 202),(b8 "deeds" 203),(b8 "backs" 204),(b8 "now" 205),(b8 "deed" 206)]) ::
 (nat_lit 25,b9 []) ::
 (nat_lit 27,(kO "home" 199 "home" 200 201 7 2 0 0 3 22 181 23 24 25 26 207 7 208)) ::
 (nat_lit 28,(fO 2 "home" "friezeyard.journeys" 187 27)) ::
 (nat_lit 29,b9 [(.type "ValueError")]) ::
 (nat_lit 36,b9 []) ::
 (nat_lit 37,F1 [c8 P "__module__" 219 (b8 "friezeyard.errors" 210),c8 P "__firstlineno__" 223 (.int 15 222),c8 P "__static_attributes__" 224 (.ref 36),c8 P "__weakref__" 226 (.ref 39),c8 P "__doc__" 227 .none] 3) ::
 (nat_lit 38,⟨(.type "type"),none,(.cls { name:=Str.ofString "FloorError",bases:=[(.type "ValueError")],mro:=[(.ref 38),(.type "ValueError"),(.type "Exception"),(.type "BaseException"),(.type "object")],ns:=37,qualname:=Str.ofString "FloorError",hasDict:=true,slotNames:=[],subclasses:=[(.ref 51),(.ref 63),(.ref 75),(.ref 87)],abstract:=false,collection:=none,hasDel:=false }),#[some (.ref 29),none,some (b8 "FloorError" 212),some (b8 "FloorError" 220),some (.builtin "ValueError.__new__"),some (.bool true)]⟩) ::
 (nat_lit 39,⟨(.type "getset_descriptor"),none,(.fields [(b8 "__weakref__" 225),(.ref 38),(.builtin "ExceptionGroup.__weakref__"),.none].toArray),#[]⟩) ::
 (nat_lit 42,b9 [(.ref 38)]) ::
 (nat_lit 49,b9 []) ::
 (nat_lit 50,F1 [c8 P "__module__" 237 (b8 "friezeyard.errors" 210),c8 P "__firstlineno__" 241 (.int 17 240),c8 P "__static_attributes__" 242 (.ref 49),c8 P "__doc__" 243 .none] 2) ::
 (nat_lit 51,(cO "NoLine" 38 51 50 42 230 238)) ::
 (nat_lit 54,b9 [(.ref 38)]) ::
 (nat_lit 61,b9 []) ::
 (nat_lit 62,F1 [c8 P "__module__" 253 (b8 "friezeyard.errors" 210),c8 P "__firstlineno__" 257 (.int 19 256),c8 P "__static_attributes__" 258 (.ref 61),c8 P "__doc__" 259 .none] 2) ::
 (nat_lit 63,(cO "NoCorner" 38 63 62 54 246 254)) ::
 (nat_lit 66,b9 [(.ref 38)]) ::
 (nat_lit 73,b9 []) ::
 (nat_lit 74,F1 [c8 P "__module__" 269 (b8 "friezeyard.errors" 210),c8 P "__firstlineno__" 273 (.int 21 272),c8 P "__static_attributes__" 274 (.ref 73),c8 P "__doc__" 275 .none] 2) ::
 (nat_lit 75,(cO "NotAlike" 38 75 74 66 262 270)) ::
 (nat_lit 78,b9 [(.ref 38)]) ::
 (nat_lit 85,b9 []) ::
 (nat_lit 86,F1 [c8 P "__module__" 285 (b8 "friezeyard.errors" 210),c8 P "__firstlineno__" 289 (.int 23 288),c8 P "__static_attributes__" 290 (.ref 85),c8 P "__doc__" 291 .none] 2) ::
 (nat_lit 87,(cO "NoDeed" 38 87 86 78 278 286)) ::
 (nat_lit 90,b9 []) ::
 (nat_lit 92,b9 [(b8 "thing" 299)]) ::
 (nat_lit 93,b9 []) ::
 (nat_lit 95,(kO "is_whole" 296 "is_whole" 297 298 26 1 0 0 3 90 181 91 92 93 94 300 26 301)) ::
 (nat_lit 96,(fO 10 "is_whole" "friezeyard.pairs" 294 95)) ::
 (nat_lit 97,b9 []) ::
 (nat_lit 99,b9 [(b8 "a" 306),(b8 "b" 307)]) ::
 (nat_lit 100,b9 []) ::
 (nat_lit 102,(kO "pair" 303 "pair" 304 305 28 2 0 0 3 97 181 98 99 100 101 308 28 309)) ::
 (nat_lit 103,(fO 11 "pair" "friezeyard.pairs" 294 102)) ::
 (nat_lit 104,b9 []) ::
 (nat_lit 106,b9 [(b8 "n" 314),(b8 "p" 315),(b8 "a" 316),(b8 "b" 317)]) ::
 (nat_lit 107,b9 []) ::
 (nat_lit 109,(kO "is_side" 311 "is_side" 312 313 30 2 0 0 3 104 181 105 106 107 108 318 30 319)) ::
 (nat_lit 110,(fO 12 "is_side" "friezeyard.pairs" 294 109)) ::
 (nat_lit 111,b9 []) ::
 (nat_lit 113,b9 [(b8 "n" 324),(b8 "p" 325)]) ::
 (nat_lit 114,b9 []) ::
 (nat_lit 116,(kO "is_line" 321 "is_line" 322 323 36 2 0 0 3 111 181 112 113 114 115 326 36 327)) ::
 (nat_lit 117,(fO 13 "is_line" "friezeyard.pairs" 294 116)) ::
 (nat_lit 118,b9 []) ::
 (nat_lit 120,b9 [(b8 "thing" 334)]) ::
 (nat_lit 121,b9 []) ::
 (nat_lit 123,(kO "is_two" 331 "is_two" 332 333 39 1 0 0 3 118 181 119 120 121 122 335 39 336)) ::
 (nat_lit 124,(fO 15 "is_two" "friezeyard.common" 329 123)) ::
 (nat_lit 125,b9 []) ::
 (nat_lit 127,b9 [(b8 "cut" 341),(b8 "p" 342)]) ::
 (nat_lit 128,b9 []) ::
 (nat_lit 130,(kO "has_pair" 338 "has_pair" 339 340 41 2 0 0 3 125 181 126 127 128 129 343 41 344)) ::
 (nat_lit 131,(fO 16 "has_pair" "friezeyard.common" 329 130)) ::
 (nat_lit 132,b9 []) ::
 (nat_lit 134,b9 [(b8 "cut" 349),(b8 "p" 350)]) ::
 (nat_lit 135,b9 []) ::
 (nat_lit 137,(kO "check_line" 346 "check_line" 347 348 43 2 0 0 3 132 181 133 134 135 136 351 43 352)) ::
 (nat_lit 138,(fO 17 "check_line" "friezeyard.common" 329 137)) ::
 (nat_lit 139,b9 []) ::
 (nat_lit 141,b9 [(b8 "cut" 357),(b8 "p" 358)]) ::
 (nat_lit 142,b9 []) ::
 (nat_lit 144,(kO "check_pair" 354 "check_pair" 355 356 46 2 0 0 3 139 181 140 141 142 143 359 46 360)) ::
 (nat_lit 145,(fO 18 "check_pair" "friezeyard.common" 329 144)) ::
 (nat_lit 146,b9 []) ::
 (nat_lit 148,b9 [(b8 "n" 365),(b8 "thing" 366)]) ::
 (nat_lit 149,b9 []) ::
 (nat_lit 151,(kO "check_corner" 362 "check_corner" 363 364 49 2 0 0 3 146 181 147 148 149 150 367 49 368)) ::
 (nat_lit 152,(fO 19 "check_corner" "friezeyard.common" 329 151)) ::
 (nat_lit 153,b9 []) ::
 (nat_lit 156,(kCo "opposite" 370 "opposite" 371 372 52 2 0 0 3 153 181 154 155 373 52 374)) ::
 (nat_lit 157,(fO 20 "opposite" "friezeyard.common" 329 156)) ::
 (nat_lit 158,b9 []) ::
 (nat_lit 161,(kCo "is_figures" 376 "is_figures" 377 378 54 2 0 0 3 158 181 159 160 379 54 380)) ::
 (nat_lit 162,(fO 21 "is_figures" "friezeyard.common" 329 161)) ::
 (nat_lit 163,b9 []) ::
 (nat_lit 166,(kCo "two_read" 382 "two_read" 383 384 60 1 0 0 3 163 181 164 165 385 60 386)) ::
 (nat_lit 167,(fO 22 "two_read" "friezeyard.common" 329 166)) ::
 (nat_lit 168,b9 []) ::
 (nat_lit 170,b9 [(b8 "two" 391),(b8 "a" 392),(b8 "b" 393)]) ::
 (nat_lit 171,b9 []) ::
 (nat_lit 173,(kO "two_shown" 388 "two_shown" 389 390 65 1 0 0 3 168 181 169 170 171 172 394 65 395)) ::
 (nat_lit 174,(fO 23 "two_shown" "friezeyard.common" 329 173)) ::
 (nat_lit 175,b9 []) ::
 (nat_lit 178,(kCo "rooms" 399 "rooms" 400 401 70 2 0 0 3 175 181 176 177 402 70 403)) ::
 (nat_lit 179,(fO 25 "rooms" "friezeyard.rooms" 397 178)) ::
 (nat_lit 180,b9 []) ::
 (nat_lit 182,b9 [(b8 "top" 408),(b8 "lines" 409),(b8 "room" 410)]) ::
 (nat_lit 183,b9 []) ::
 (nat_lit 185,(kO "room_under" 405 "room_under" 406 407 73 2 0 0 3 180 181 181 182 183 184 411 73 412)) ::
 (nat_lit 186,(fO 26 "room_under" "friezeyard.rooms" 397 185)) ::
 (nat_lit 187,b9 []) ::
 (nat_lit 190,(kCo "corner_behind" 414 "corner_behind" 415 416 78 3 0 0 3 187 181 188 189 417 78 418)) ::
 (nat_lit 191,(fO 27 "corner_behind" "friezeyard.rooms" 397 190)) ::
 (nat_lit 192,b9 []) ::
 (nat_lit 194,b9 [(b8 "cut" 423)]) ::
 (nat_lit 195,b9 []) ::
 (nat_lit 197,(kO "triangles" 420 "triangles" 421 422 81 1 0 0 3 192 181 193 194 195 196 424 81 425)) ::
 (nat_lit 198,(fO 28 "triangles" "friezeyard.rooms" 397 197)) ::
 (nat_lit 199,b9 []) ::
 (nat_lit 202,(kCo "thirds" 427 "thirds" 428 429 83 2 0 0 3 199 181 200 201 430 83 431)) ::
 (nat_lit 203,(fO 29 "thirds" "friezeyard.rooms" 397 202)) ::
 (nat_lit 204,b9 [(.int 1 435)]) ::
 (nat_lit 205,b9 []) ::
 (nat_lit 208,(kCo "spun" 436 "spun" 437 438 88 2 0 0 3 205 181 206 207 439 88 440)) ::
 (nat_lit 209,x9 (top 31) "spun" "spun" (.ref 204) .none .none (b8 "friezeyard.images" 433) none (.ref 208) .none) ::
 (nat_lit 210,b9 []) ::
 (nat_lit 213,(kCo "mirrored" 442 "mirrored" 443 444 91 1 0 0 3 210 181 211 212 445 91 446)) ::
 (nat_lit 214,(fO 32 "mirrored" "friezeyard.images" 433 213)) ::
 (nat_lit 215,b9 []) ::
 (nat_lit 218,(kCo "image" 448 "image" 449 450 94 2 0 0 3 215 181 216 217 451 94 452)) ::
 (nat_lit 219,(fO 33 "image" "friezeyard.images" 433 218)) ::
 (nat_lit 220,b9 []) ::
 (nat_lit 223,(kCo "turned" 456 "turned" 457 458 97 2 0 0 3 220 181 221 222 459 97 460)) ::
 (nat_lit 224,(fO 35 "turned" "friezeyard.turns" 454 223)) ::
 (nat_lit 232,b9 []) ::
 (nat_lit 233,F1 [c8 P "__module__" 471 (b8 "friezeyard.deeds" 462),c8 P "__firstlineno__" 475 (.int 103 474),c8 P "__static_attributes__" 476 (.ref 232),c8 P "__dict__" 478 (.ref 235),c8 P "__weakref__" 480 (.ref 236),c8 P "__doc__" 481 .none] 4) ::
 (nat_lit 234,⟨(.type "type"),none,(.cls { name:=Str.ofString "Deed",bases:=[(.type "object")],mro:=[(.ref 234),(.type "object")],ns:=233,qualname:=Str.ofString "Deed",hasDict:=true,slotNames:=[],subclasses:=[(.ref 276),(.ref 316),(.ref 349)],abstract:=false,collection:=none,hasDel:=false }),#[none,none,some (b8 "Deed" 464),some (b8 "Deed" 472),some (.builtin "object.__new__"),some (.bool true)]⟩) ::
 (nat_lit 235,⟨(.type "getset_descriptor"),none,(.fields [(b8 "__dict__" 477),(.ref 234),(.builtin "function.__dict__"),(.builtin "function.__dict__#set")].toArray),#[]⟩) ::
 (nat_lit 236,⟨(.type "getset_descriptor"),none,(.fields [(b8 "__weakref__" 479),(.ref 234),(.builtin "ExceptionGroup.__weakref__"),.none].toArray),#[]⟩) ::
 (nat_lit 239,b9 [(.ref 234)]) ::
 (nat_lit 246,b9 []) ::
 (nat_lit 248,b9 [(b8 "self" 499),(b8 "line" 500)]) ::
 (nat_lit 249,b9 []) ::
 (nat_lit 251,(kO "__init__" 496 "TurnLine.__init__" 497 498 107 2 0 0 3 246 181 247 248 249 250 501 107 502)) ::
 (nat_lit 252,x9 (D9 (top 38) 0) "__init__" "TurnLine.__init__" .none .none .none (b8 "friezeyard.deeds" 462) none (.ref 251) .none) ::
 (nat_lit 253,b9 []) ::
 (nat_lit 255,b9 [(b8 "self" 507),(b8 "cut" 508)]) ::
 (nat_lit 256,b9 []) ::
 (nat_lit 258,(kO "done" 504 "TurnLine.done" 505 506 110 2 0 0 3 253 181 254 255 256 257 509 110 510)) ::
 (nat_lit 259,x9 (D9 (top 38) 1) "done" "TurnLine.done" .none .none .none (b8 "friezeyard.deeds" 462) none (.ref 258) .none) ::
 (nat_lit 260,b9 []) ::
 (nat_lit 262,b9 [(b8 "self" 515),(b8 "cut" 516)]) ::
 (nat_lit 263,b9 []) ::
 (nat_lit 265,(kO "back" 512 "TurnLine.back" 513 514 113 2 0 0 3 260 181 261 262 263 264 517 113 518)) ::
 (nat_lit 266,x9 (D9 (top 38) 2) "back" "TurnLine.back" .none .none .none (b8 "friezeyard.deeds" 462) none (.ref 265) .none) ::
 (nat_lit 267,b9 []) ::
 (nat_lit 269,b9 [(b8 "self" 523)]) ::
 (nat_lit 270,b9 []) ::
 (nat_lit 272,(kO "shown" 520 "TurnLine.shown" 521 522 116 1 0 0 3 267 181 268 269 270 271 524 116 525)) ::
 (nat_lit 273,x9 (D9 (top 38) 3) "shown" "TurnLine.shown" .none .none .none (b8 "friezeyard.deeds" 462) none (.ref 272) .none) ::
 (nat_lit 274,b9 [(b8 "line" 527)]) ::
 (nat_lit 275,F1 [c8 P "__module__" 491 (b8 "friezeyard.deeds" 462),c8 P "__firstlineno__" 495 (.int 105 494),c8 P "__init__" 503 (.ref 252),c8 P "done" 511 (.ref 259),c8 P "back" 519 (.ref 266),c8 P "shown" 526 (.ref 273),c8 P "__static_attributes__" 528 (.ref 274),c8 P "__doc__" 529 .none] 2) ::
 (nat_lit 276,⟨(.type "type"),none,(.cls { name:=Str.ofString "TurnLine",bases:=[(.ref 234)],mro:=[(.ref 276),(.ref 234),(.type "object")],ns:=275,qualname:=Str.ofString "TurnLine",hasDict:=true,slotNames:=[],subclasses:=[],abstract:=false,collection:=none,hasDel:=false }),#[some (.ref 239),none,some (b8 "TurnLine" 484),some (b8 "TurnLine" 492),some (.builtin "object.__new__"),some (.bool true)]⟩) ::
 (nat_lit 279,b9 [(.ref 234)]) ::
 (nat_lit 286,b9 []) ::
 (nat_lit 288,b9 [(b8 "self" 547),(b8 "by" 548)]) ::
 (nat_lit 289,b9 []) ::
 (nat_lit 291,(kO "__init__" 544 "Spin.__init__" 545 546 120 2 0 0 3 286 181 287 288 289 290 549 120 550)) ::
 (nat_lit 292,x9 (D9 (top 39) 0) "__init__" "Spin.__init__" .none .none .none (b8 "friezeyard.deeds" 462) none (.ref 291) .none) ::
 (nat_lit 293,b9 []) ::
 (nat_lit 295,b9 [(b8 "self" 555),(b8 "cut" 556)]) ::
 (nat_lit 296,b9 []) ::
 (nat_lit 298,(kO "done" 552 "Spin.done" 553 554 123 2 0 0 3 293 181 294 295 296 297 557 123 558)) ::
 (nat_lit 299,x9 (D9 (top 39) 1) "done" "Spin.done" .none .none .none (b8 "friezeyard.deeds" 462) none (.ref 298) .none) ::
 (nat_lit 300,b9 []) ::
 (nat_lit 302,b9 [(b8 "self" 563),(b8 "cut" 564)]) ::
 (nat_lit 303,b9 []) ::
 (nat_lit 305,(kO "back" 560 "Spin.back" 561 562 126 2 0 0 3 300 181 301 302 303 304 565 126 566)) ::
 (nat_lit 306,x9 (D9 (top 39) 2) "back" "Spin.back" .none .none .none (b8 "friezeyard.deeds" 462) none (.ref 305) .none) ::
 (nat_lit 307,b9 []) ::
 (nat_lit 309,b9 [(b8 "self" 571)]) ::
 (nat_lit 310,b9 []) ::
 (nat_lit 312,(kO "shown" 568 "Spin.shown" 569 570 129 1 0 0 3 307 181 308 309 310 311 572 129 573)) ::
 (nat_lit 313,x9 (D9 (top 39) 3) "shown" "Spin.shown" .none .none .none (b8 "friezeyard.deeds" 462) none (.ref 312) .none) ::
 (nat_lit 314,b9 [(b8 "by" 575)]) ::
 (nat_lit 315,F1 [c8 P "__module__" 539 (b8 "friezeyard.deeds" 462),c8 P "__firstlineno__" 543 (.int 118 542),c8 P "__init__" 551 (.ref 292),c8 P "done" 559 (.ref 299),c8 P "back" 567 (.ref 306),c8 P "shown" 574 (.ref 313),c8 P "__static_attributes__" 576 (.ref 314),c8 P "__doc__" 577 .none] 2) ::
 (nat_lit 316,⟨(.type "type"),none,(.cls { name:=Str.ofString "Spin",bases:=[(.ref 234)],mro:=[(.ref 316),(.ref 234),(.type "object")],ns:=315,qualname:=Str.ofString "Spin",hasDict:=true,slotNames:=[],subclasses:=[],abstract:=false,collection:=none,hasDel:=false }),#[some (.ref 279),none,some (b8 "Spin" 532),some (b8 "Spin" 540),some (.builtin "object.__new__"),some (.bool true)]⟩) ::
 (nat_lit 319,b9 [(.ref 234)]) ::
 (nat_lit 326,b9 []) ::
 (nat_lit 328,b9 [(b8 "self" 595),(b8 "cut" 596)]) ::
 (nat_lit 329,b9 []) ::
 (nat_lit 331,(kO "done" 592 "Mirror.done" 593 594 133 2 0 0 3 326 181 327 328 329 330 597 133 598)) ::
 (nat_lit 332,x9 (D9 (top 40) 0) "done" "Mirror.done" .none .none .none (b8 "friezeyard.deeds" 462) none (.ref 331) .none) ::
 (nat_lit 333,b9 []) ::
 (nat_lit 335,b9 [(b8 "self" 603),(b8 "cut" 604)]) ::
 (nat_lit 336,b9 []) ::
 (nat_lit 338,(kO "back" 600 "Mirror.back" 601 602 136 2 0 0 3 333 181 334 335 336 337 605 136 606)) ::
 (nat_lit 339,x9 (D9 (top 40) 1) "back" "Mirror.back" .none .none .none (b8 "friezeyard.deeds" 462) none (.ref 338) .none) ::
 (nat_lit 340,b9 []) ::
 (nat_lit 342,b9 [(b8 "self" 611)]) ::
 (nat_lit 343,b9 []) ::
 (nat_lit 345,(kO "shown" 608 "Mirror.shown" 609 610 139 1 0 0 3 340 181 341 342 343 344 612 139 613)) ::
 (nat_lit 346,x9 (D9 (top 40) 2) "shown" "Mirror.shown" .none .none .none (b8 "friezeyard.deeds" 462) none (.ref 345) .none) ::
 (nat_lit 347,b9 []) ::
 (nat_lit 348,F1 [c8 P "__module__" 587 (b8 "friezeyard.deeds" 462),c8 P "__firstlineno__" 591 (.int 131 590),c8 P "done" 599 (.ref 332),c8 P "back" 607 (.ref 339),c8 P "shown" 614 (.ref 346),c8 P "__static_attributes__" 615 (.ref 347),c8 P "__doc__" 616 .none] 2) ::
 (nat_lit 349,⟨(.type "type"),none,(.cls { name:=Str.ofString "Mirror",bases:=[(.ref 234)],mro:=[(.ref 349),(.ref 234),(.type "object")],ns:=348,qualname:=Str.ofString "Mirror",hasDict:=true,slotNames:=[],subclasses:=[],abstract:=false,collection:=none,hasDel:=false }),#[some (.ref 319),none,some (b8 "Mirror" 580),some (b8 "Mirror" 588),some (.builtin "object.__new__"),some (.bool true)]⟩) ::
 (nat_lit 352,b9 []) ::
 (nat_lit 354,b9 [(b8 "text" 622),(b8 "words" 623)]) ::
 (nat_lit 355,b9 []) ::
 (nat_lit 357,(kO "read_deed" 619 "read_deed" 620 621 141 1 0 0 3 352 181 353 354 355 356 624 141 625)) ::
 (nat_lit 358,(fO 41 "read_deed" "friezeyard.deeds" 462 357)) ::
 (nat_lit 359,b9 []) ::
 (nat_lit 361,b9 [(b8 "word" 630),(b8 "two" 631)]) ::
 (nat_lit 362,b9 []) ::
 (nat_lit 364,(kO "pair_read" 627 "pair_read" 628 629 152 1 0 0 3 359 181 360 361 362 363 632 152 633)) ::
 (nat_lit 365,(fO 42 "pair_read" "friezeyard.deeds" 462 364)) ::
 (nat_lit 366,b9 []) ::
 (nat_lit 368,b9 [(b8 "word" 638),(b8 "most" 639),(b8 "figures" 640)]) ::
 (nat_lit 369,b9 []) ::
 (nat_lit 371,(kO "whole_read" 635 "whole_read" 636 637 157 2 0 0 3 366 181 367 368 369 370 641 157 642)) ::
 (nat_lit 372,(fO 43 "whole_read" "friezeyard.deeds" 462 371)) ::
 (nat_lit 373,b9 [(.int 0 646)]) ::
 (nat_lit 374,b9 []) ::
 (nat_lit 376,b9 [(b8 "cut" 650),(b8 "corner" 651),(b8 "found" 652),(b8 "now" 653),(b8 "facing" 654)]) ::
 (nat_lit 377,b9 []) ::
 (nat_lit 379,(kO "to_fan" 647 "to_fan" 648 649 163 2 0 0 3 374 181 375 376 377 378 655 163 656)) ::
 (nat_lit 380,x9 (top 45) "to_fan" "to_fan" (.ref 373) .none .none (b8 "friezeyard.fans" 644) none (.ref 379) .none) ::
 (nat_lit 381,b9 []) ::
 (nat_lit 384,(kCo "lines_facing" 658 "lines_facing" 659 660 173 2 0 0 3 381 181 382 383 661 173 662)) ::
 (nat_lit 385,(fO 46 "lines_facing" "friezeyard.fans" 644 384)) ::
 (nat_lit 386,b9 []) ::
 (nat_lit 388,b9 [(b8 "cut" 669),(b8 "row" 670),(b8 "corners" 671),(b8 "corner" 672)]) ::
 (nat_lit 389,b9 []) ::
 (nat_lit 391,(kO "numbers" 666 "numbers" 667 668 177 1 0 0 3 386 181 387 388 389 390 673 177 674)) ::
 (nat_lit 392,(fO 48 "numbers" "friezeyard.numbers" 664 391)) ::
 (nat_lit 393,b9 []) ::
 (nat_lit 395,b9 [(b8 "cut" 681),(b8 "found" 682),(b8 "front" 683)]) ::
 (nat_lit 396,b9 []) ::
 (nat_lit 398,(kO "steps_to" 678 "steps_to" 679 680 184 1 0 0 3 393 181 394 395 396 397 684 184 685)) ::
 (nat_lit 399,(fO 50 "steps_to" "friezeyard.ways" 676 398)) ::
 (nat_lit 400,b9 []) ::
 (nat_lit 402,b9 [(b8 "front" 690),(b8 "found" 691),(b8 "behind" 692),(b8 "cut" 693),(b8 "line" 694),(b8 "step" 695)]) ::
 (nat_lit 403,b9 []) ::
 (nat_lit 405,(kO "front_behind" 687 "front_behind" 688 689 190 2 0 0 3 400 181 401 402 403 404 696 190 697)) ::
 (nat_lit 406,(fO 51 "front_behind" "friezeyard.ways" 676 405)) ::
 (nat_lit 407,b9 []) ::
 (nat_lit 410,(kCo "way_to" 699 "way_to" 700 701 199 2 0 0 3 407 181 408 409 702 199 703)) ::
 (nat_lit 411,(fO 52 "way_to" "friezeyard.ways" 676 410)) ::
 (nat_lit 412,b9 []) ::
 (nat_lit 415,(kCo "way_in_room" 705 "way_in_room" 706 707 207 3 0 0 3 412 181 413 414 708 207 709)) ::
 (nat_lit 416,(fO 53 "way_in_room" "friezeyard.ways" 676 415)) ::
 (nat_lit 417,b9 []) ::
 (nat_lit 420,(kCo "part_in" 711 "part_in" 712 713 212 2 0 0 3 417 181 418 419 714 212 715)) ::
 (nat_lit 421,(fO 54 "part_in" "friezeyard.ways" 676 420)) ::
 (nat_lit 422,b9 []) ::
 (nat_lit 424,b9 [(b8 "start" 720),(b8 "end" 721),(b8 "steps" 722),(b8 "way" 723),(b8 "now" 724)]) ::
 (nat_lit 425,b9 []) ::
 (nat_lit 427,(kO "shortest" 717 "shortest" 718 719 215 2 0 0 3 422 181 423 424 425 426 725 215 726)) ::
 (nat_lit 428,(fO 55 "shortest" "friezeyard.ways" 676 427)) ::
 (nat_lit 429,b9 []) ::
 (nat_lit 432,(kCo "over_fan" 728 "over_fan" 729 730 223 2 0 0 3 429 181 430 431 731 223 732)) ::
 (nat_lit 433,(fO 56 "over_fan" "friezeyard.ways" 676 432)) ::
 (nat_lit 434,b9 []) ::
 (nat_lit 436,b9 [(b8 "cut" 737),(b8 "way" 738),(b8 "came" 739),(b8 "now" 740),(b8 "line" 741),(b8 "step" 742)]) ::
 (nat_lit 437,b9 []) ::
 (nat_lit 439,(kO "back_from" 734 "back_from" 735 736 227 2 0 0 3 434 181 435 436 437 438 743 227 744)) ::
 (nat_lit 440,(fO 57 "back_from" "friezeyard.ways" 676 439)) ::
 (nat_lit 441,b9 []) ::
 (nat_lit 443,b9 [(b8 "_law_script" 751),(b8 "_law_at" 752)]) ::
 (nat_lit 444,b9 []) ::
 (nat_lit 446,(kO "_law_drawn" 748 "_law_drawn" 749 750 236 2 0 0 3 441 181 442 443 444 445 753 236 754)) ::
 (nat_lit 447,(fO 59 "_law_drawn" "law_friezeyard_k98_whole_way_as_a_journey" 746 446)) ::
 (nat_lit 448,b9 []) ::
 (nat_lit 451,(kCo "_law_grown" 756 "_law_grown" 757 758 238 3 0 0 3 448 181 449 450 759 238 760)) ::
 (nat_lit 452,(fO 60 "_law_grown" "law_friezeyard_k98_whole_way_as_a_journey" 746 451)) ::
 (nat_lit 453,b9 []) ::
 (nat_lit 455,b9 [(b8 "_law_script" 765),(b8 "_law_start" 766),(b8 "_law_many" 767),(b8 "_law_lines" 768),(b8 "_law_k" 769)]) ::
 (nat_lit 456,b9 []) ::
 (nat_lit 458,(kO "_law_cut" 762 "_law_cut" 763 764 245 3 0 0 3 453 181 454 455 456 457 770 245 771)) ::
 (nat_lit 459,(fO 61 "_law_cut" "law_friezeyard_k98_whole_way_as_a_journey" 746 458)) ::
 (nat_lit 460,b9 []) ::
 (nat_lit 462,b9 [(b8 "_law_cut_here" 776),(b8 "_law_c" 777),(b8 "_law_end" 778),(b8 "_law_p" 779)]) ::
 (nat_lit 463,b9 []) ::
 (nat_lit 465,(kO "_law_joined" 773 "_law_joined" 774 775 250 3 0 0 3 460 181 461 462 463 464 780 250 781)) ::
 (nat_lit 466,(fO 62 "_law_joined" "law_friezeyard_k98_whole_way_as_a_journey" 746 465)) ::
 (nat_lit 467,b9 []) ::
 (nat_lit 470,(kCo "_law_turned" 783 "_law_turned" 784 785 253 2 0 0 3 467 181 468 469 786 253 787)) ::
 (nat_lit 471,(fO 63 "_law_turned" "law_friezeyard_k98_whole_way_as_a_journey" 746 470)) ::
 (nat_lit 472,b9 []) ::
 (nat_lit 474,b9 [(b8 "_law_cuts" 792),(b8 "_law_one" 793),(b8 "_law_lines" 794),(b8 "_law_k" 795),(b8 "_law_line" 796)]) ::
 (nat_lit 475,b9 []) ::
 (nat_lit 477,(kO "_law_over" 789 "_law_over" 790 791 259 3 0 0 3 472 181 473 474 475 476 797 259 798)) ::
 (nat_lit 478,(fO 64 "_law_over" "law_friezeyard_k98_whole_way_as_a_journey" 746 477)) ::
 (nat_lit 479,b9 []) ::
 (nat_lit 482,(kCo "law" 800 "law" 801 802 266 1 0 0 3 479 181 480 481 803 266 804)) ::
 (nat_lit 483,(fO 65 "law" "law_friezeyard_k98_whole_way_as_a_journey" 746 482))::[]
noncomputable def places:List Addr:=[2,3,15,17,18,20,21,22,24,25,27,28,29,36,37,38,39,42,49,50,51,54,61,62,63,66,73,74,75,78,85,86,87,90,92,93,95,96,97,99,100,102,103,104,106,107,109,110,111,113,114,116,117,118,120,121,123,124,125,127,128,130,131,132,134,135,137,138,139,141,142,144,145,146,148,149,151,152,153,156,157,158,161,162,163,166,167,168,170,171,173,174,175,178,179,180,182,183,185,186,187,190,191,192,194,195,197,198,199,202,203,204,205,208,209,210,213,214,215,218,219,220,223,224,232,233,234,235,236,239,246,248,249,251,252,253,255,256,258,259,260,262,263,265,266,267,269,270,272,273,274,275,276,279,286,288,289,291,292,293,295,296,298,299,300,302,303,305,306,307,309,310,312,313,314,315,316,319,326,328,329,331,332,333,335,336,338,339,340,342,343,345,346,347,348,349,352,354,355,357,358,359,361,362,364,365,366,368,369,371,372,373,374,376,377,379,380,381,384,385,386,388,389,391,392,393,395,396,398,399,400,402,403,405,406,407,410,411,412,415,416,417,420,421,422,424,425,427,428,429,432,433,434,436,437,439,440,441,443,444,446,447,448,451,452,453,455,456,458,459,460,462,463,465,466,467,470,471,472,474,475,477,478,479,482,483]
def zng:∀P,places=(K P).map (·.1):=fun _=>by kernel_rfl
def hook:PySem.W.Hook:=PySem.W.kHook K places zng
abbrev loose:List Str:=["spun","to_fan"]
noncomputable def q:Program:=PySem.W.view PySem.Challenge.pw_friezeyard_k98_whole_way_as_a_journey [1,2,4,5,6,7,8,10,11,12,13,15,16,17,18,19,20,21,22,23,25,26,27,28,29,32,33,35,37,38,39,40,41,42,43,46,48,50,51,52,53,54,55,56,57,59,60,61,62,63,64,65]
def xtH(s:Shared):Bool:=PySem.W.xlAt q [] s&&PySem.W.recOk (PySem.W.RowW.records PySem.Challenge.rw_friezeyard_k98_whole_way_as_a_journey.row.toRowW) s
def out(w:World)(os:OsState):=outAt PySem.Challenge.pw_friezeyard_k98_whole_way_as_a_journey q K98.loose xtH (fun s=>places.map s.heap.get?) 7400 w os
def good:=PySem.W.openGood q K98.loose
example:((fun (_:Params->Obj)(_:Str)=>true) PySem.W.boot_o_0 (Str.ofString "dull"))=true:=by k_qdec
lay_quick out good
def wz:∀w os,out w os=some (true,good,(K w.params).map fun p=>some p.2):=fun w os=>(congrFun (congrFun PySem.W.Fast.te14515992515746464560 w) os).trans (by rw[PySem.W.Fast.te3366090010479906976];kernel_rfl)
theorem left:PySem.W.LeftO PySem.Challenge.pw_friezeyard_k98_whole_way_as_a_journey q K98.loose xtH (PySem.W.Hook.obs hook) (PySem.W.Hook.val hook) 7400:=yG (by kernel_rfl) (by kernel_rfl) (fun _=>by kernel_rfl) wz
end K98
namespace L2
open PySem PySem.Spec PyProof.Rows
abbrev Key:=Sum Int Str
noncomputable def T4:Key->Value->Bool
 | .inl k,v=>Value.isInt k v
 | .inr x,v=>Value.isStrOf x v
noncomputable def y7p(w:World):Key->Int
 | .inl k=>hashInt k
 | .inr x=>hashStr w x
theorem K1:∀{k:Key}{v:Value},T4 k v=true->(∃i t,k=Sum.inl i/\v=Value.int i t)\/(∃x t,k=Sum.inr x/\v=Value.str x t)
 | .inl i,v,h=>by obtain⟨t,e⟩:=Value.isInt_shape (k:=i) (v:=v) h;exact .inl ⟨i,t,rfl,e⟩
 | .inr x,v,h=>by obtain⟨t,e⟩:=Value.isStrOf_shape (x:=x) (v:=v) h;exact .inr ⟨x,t,rfl,e⟩
def zji(i:Int)(t:Tok):T4 (.inl i) (.int i t)=true:=by simp[T4,Value.isInt]
def zjj(x:Str)(t:Tok):T4 (.inr x) (.str x t)=true:=by simp[T4,Value.isStrOf]
def wy(a b:Int):decide ((Sum.inl a:Key)=Sum.inl b)=(a==b):=by
 by_cases e:a=b
 . subst e;simp
 . have h:¬(Sum.inl a:Key)=Sum.inl b:=fun q=>e (Sum.inl.inj q)
   rw[decide_eq_false h];exact(DX.mpr e).symm
def wx(a b:Str):decide ((Sum.inr a:Key)=Sum.inr b)=decide (a=b):=by
 by_cases e:a=b
 . subst e;simp
 . have h:¬(Sum.inr a:Key)=Sum.inr b:=fun q=>e (Sum.inr.inj q)
   rw[decide_eq_false h,decide_eq_false e]
def ww(a:Int)(b:Str):decide ((Sum.inl a:Key)=Sum.inr b)=false:=decide_eq_false (fun q=>nomatch q)
def wv(a:Str)(b:Int):decide ((Sum.inr a:Key)=Sum.inl b)=false:=decide_eq_false (fun q=>nomatch q)
def E2(prog:Program)(w:World):PySem.KeyKind prog w Key where
 is:=T4
 hash:=y7p w
 inj:=fun v a b ha hb=>by
  rcases K1 ha with⟨i,t,rfl,rfl⟩ |⟨x,t,rfl,rfl⟩
  . rcases K1 hb with⟨j,u,rfl,e⟩ |⟨y,u,rfl,e⟩
    . injection e with e1 _;rw[e1]
    . exact nomatch e
  . rcases K1 hb with⟨j,u,rfl,e⟩ |⟨y,u,rfl,e⟩
    . exact nomatch e
    . injection e with e1 _;rw[e1]
 byValue:=fun k v h=>by rcases K1 h with⟨i,t,rfl,rfl⟩ |⟨x,t,rfl,rfl⟩<;>rfl
 pyHash:=fun hv h=>by
  rcases K1 hv with⟨i,t,rfl,rfl⟩ |⟨x,t,rfl,rfl⟩
  . exact wpAny_pyHash_int h
  . exact wpAny_pyHash_str h
 eqBool:=fun hu hv h=>by
  rcases K1 hu with⟨i,t,rfl,rfl⟩ |⟨x,t,rfl,rfl⟩
  . rcases K1 hv with⟨j,u,rfl,rfl⟩ |⟨y,u,rfl,rfl⟩
    . rw[wy]at h;exact wpAny_eqBool_int h
    . rw[ww]at h;exact SeqAt.EqAt.int_str i t y u _ _ _ _ h
  . rcases K1 hv with⟨j,u,rfl,rfl⟩ |⟨y,u,rfl,rfl⟩
    . rw[wv]at h;exact SeqAt.EqAt.str_int x t j u _ _ _ _ h
    . rw[wx]at h;exact wpAny_eqBool_str h
 «strs»:=fun k x t v h=>by
  rcases K1 h with⟨i,u,rfl,e⟩ |⟨y,u,rfl,e⟩
  . exact nomatch e
  . injection e with e1 _;subst e1;cases v<;>rfl
def zew(prog:Program)(w:World)(i:Int)(t:Tok):(E2 prog w).is (.inl i) (.int i t)=true:=zji i t
def zex(prog:Program)(w:World)(x:Str)(t:Tok):(E2 prog w).is (.inr x) (.str x t)=true:=zjj x t
inductive V where
 |non |bl (b:Bool) |int (i:Int) |str (x:Str) |byt (b:Array UInt8) |flt (b:UInt64) |ref (a:Addr) |ty (n:String)
 deriving DecidableEq
def RelV:V->Value->Prop
 | .non,u=>u=Value.none
 | .bl b,u=>u=Value.bool b
 | .int i,u=>∃t,u=Value.int i t
 | .str x,u=>∃t,u=Value.str x t
 | .byt b,u=>∃t,u=Value.bytes b t
 | .flt b,u=>∃t,u=Value.float b t
 | .ref a,u=>u=Value.ref a
 | .ty n,u=>u=Value.type n
abbrev Vals:List V->List Value->Prop:=Paired RelV
def Vals.length(r:Vals xs us):xs.length=us.length:=Paired.length r
theorem Vals.get:∀{xs:List V}{us:List Value}{i:Nat}{x:V},Vals xs us->xs[i]?=some x->∃u,us[i]?=some u/\RelV x u
 |_,_,_,_,.nil,e=>by simp at e
 |_,_,0,_,.cons r _,e=>by simp at e;subst e;exact⟨_,rfl,r⟩
 |_,_,i+1,x,.cons _ t,e=>by obtain⟨u,h1,h2⟩:=Vals.get (i:=i) (x:=x) t (by simpa using e);exact⟨u,by simpa using h1,h2⟩
theorem Vals.set(r:RelV x u):∀{xs:List V}{us:List Value}(i:Nat),Vals xs us->Vals (xs.set i x) (us.set i u)
 |_,_,_,.nil=>.nil
 |_,_,0,.cons _ t=>.cons r t
 |_,_,i+1,.cons q t=>.cons q (Vals.set r i t)
theorem Vals.append:∀{xs ys:List V}{us ws:List Value},Vals xs us->Vals ys ws->Vals (xs++ys) (us++ws)
 |_,_,_,_,.nil,s=>s
 |_,_,_,_,.cons r t,s=>.cons r (Vals.append t s)
theorem Vals.take:∀{xs:List V}{us:List Value}(n:Nat),Vals xs us->Vals (xs.take n) (us.take n)
 |_,_,0,_=>.nil
 |_,_,_+1,.nil=>.nil
 |_,_,n+1,.cons r t=>.cons r (Vals.take n t)
theorem Vals.drop:∀{xs:List V}{us:List Value}(n:Nat),Vals xs us->Vals (xs.drop n) (us.drop n)
 |_,_,0,r=>r
 |_,_,_+1,.nil=>.nil
 |_,_,n+1,.cons _ t=>Vals.drop n t
def RelO:Option V->Option Value->Prop
 |some v,some u=>RelV v u
 |none,none=>True
 |_,_=>False
def KV{κ:Type}:List (κ×V)->List (κ×Value)->Prop:=Paired fun (p:κ×V)(q:κ×Value)=>p.1=q.1/\RelV p.2 q.2
noncomputable def kV:Key->V
 | .inl i=>.int i
 | .inr x=>.str x
def IsTp(h:Heap)(a:Addr)(its:Array Value):Prop:=∃o,h.get? a=some o/\o.cls=.type "tuple"/\(∃n,o.data=.seq its n)/\o.dict=none
def IsTp.tup(p:IsTp h a its):IsTup h a its:=by obtain⟨o,e,c,d,_⟩:=p;exact⟨o,e,c,d⟩
def IsTp.lt(p:IsTp h a its):a<h.objs.size:=by obtain⟨o,e,_⟩:=p;exact π e
def IsTp.mk'(e:h.get? a=some { cls:=.type "tuple",data:=.seq its n,slots:=sl }):IsTp h a its:=⟨_,e,rfl,⟨n,rfl⟩,rfl⟩
inductive HO where
 /-- a list -/
 |lst (xs:List V)
 /-- a tuple (never changes) -/
 |tup (xs:List V)
 /-- a dict whose keys are ints and texts;one whose keys are tuples of ints and texts (the empty one is both) -/
 |dK (kvs:List (Key×V)) |dT (kvs:List (List Key×V))
 /-- a set of ints: its members,its size -/
 |set (S:Int->Bool) (n:Nat)
 /-- an instance of the class at C,its dict at dx,its attributes -/
 |ins (C dx:Addr) (fs:List (Str×V))
 /-- the dict of the instance at x -/
 |own (x:Addr)
 /-- the dict of an exception -/
 |xd (fs:List (Str×V))
 /-- a bound method,f of x -/
 |met (f x:Addr)
 /-- a range object lo,lo+1,.. below hi -/
 |rng (lo hi:Int)
 /-- a thing that is known to the object (the script;a dict while a loop walks it): read,never written while it is so -/
 |frz (o:Obj) (u:HO)
 /-- a code object's table -/
 |tbl (ps:Array Value)
 /-- the table of a def that makes lambdas,all of the qualname q -/
 |ctb (q:Str)
 /-- any other thing,by what is true of its one object (a def of one's own: SetO a S n:=HO.ext fun h=>..) -/
 |ext (φ:Heap->Prop)
abbrev Hp:=Addr->Option HO
noncomputable def upd(H:Hp)(a:Addr)(o:HO):Hp:=fun b=>if b=a then some o else H b
def k7:upd H a o a=some o:=by unfold upd;rw[ζ rfl]
def i6(h:b≠a):upd H a o b=H b:=by unfold upd;rw[ξ h]
def t8{H:Hp}{a b:Addr}{o:HO}(h:H a=some o)(h':H b=none):a≠b:=by intro e;subst e;rw[h]at h';cases h'
section
variable (P:Program)(w:World)
def ObjOk(H:Hp)(h:Heap)(a:Addr):HO->Prop
 | .lst xs=>xs.length<=sizeLine/\∃(its:List Value)(n:Nat),Vals xs its/\h.get? a=some { cls:=.type "list",data:=.seq its.toArray n }
 | .tup xs=>xs.length<=sizeLine/\∃its:List Value,Vals xs its/\IsTp h a its.toArray
 | .dK kvs=>kvs.length<=sizeLine/\(a==sysModules)=false/\∃vs,KV kvs vs/\h.DictOf (E2 P w) a vs
 | .dT kvs=>kvs.length<=sizeLine/\(a==sysModules)=false/\∃xs:List (List Key×Addr×Value),
  Paired (fun (p:List Key×V)(q:List Key×Addr×Value)=>p.1=q.1/\H q.2.1=some (.tup (p.1.map kV))/\RelV p.2 q.2.2) kvs xs /\
  ∃o es ep,h.get? a=some o/\o.ExactDict/\o.data=.dict es ep/\es.toList=xs.map (entryOfKey (tupleKind (E2 P w)))/\(xs.map (·.1)).Nodup
 | .set S n=>h.SetOf (intKind P w) a S n
 | .ins C dx fs=>H dx=some (.own a)/\fs.length<=1000/\dx≠a/\h.get? a=some (instObj C dx) /\
  ∃mA,h.Ns1 dx mA/\(∀f,RelO (fs.lookup f) (mA f))/\PySem.Within mA (fs.map (·.1))
 | .own _=>∃o,h.get? a=some o
 | .xd fs=>∃mA,h.Ns1 a mA/\∀f,RelO (fs.lookup f) (mA f)
 | .rng lo hi=>∃t u v,h.get? a=some { cls:=.type "range",data:=.fields #[.int lo t,.int hi u,.int 1 v] }
 | .frz o u=>h.get? a=some o/\ObjOk H h a u
 | .tbl ps=>h.get? a=some { cls:=.none,data:=.fields ps }
 | .ctb q=>∃ps:Array Value,h.get? a=some { cls:=.none,data:=.fields ps }/\TriplesOk ps.toList/\∀(pos:Pos)(v:Value),codeAmong pos ps.toList=some v->∃c,v=.ref c/\H c=some (.own a)/\h.CodeRec (.ref c) q
 | .met f x=>h.get? a=some (PySem.W.methodObj (.ref f) (.ref x))
 | .ext φ=>φ h/\(∃o,h.get? a=some o)/\∀h1 h2:Heap,φ h1->(∀o,h1.get? a=some o->h2.get? a=some o)->φ h2
def HOk(H:Hp)(h:Heap):Prop:=∀a o,H a=some o->ObjOk P w H h a o
end
section
variable {P:Program}{w:World}{H H':Hp}{h h':Heap}{a:Addr}{o:HO}
def ObjOk.lt(x:ObjOk P w H h a o):a<h.objs.size:=by
 cases o with
 |lst xs=>obtain⟨_,_,_,_,e⟩:=x;exact π e
 |tup xs=>obtain⟨_,_,_,p⟩:=x;exact p.lt
 |dK kvs=>obtain⟨_,_,_,_,o,_,_,e,_⟩:=x;exact π e
 |dT kvs=>obtain⟨_,_,_,_,o,_,_,e,_⟩:=x;exact π e
 |set S n=>obtain⟨o,_,_,_,e,_⟩:=x;exact π e
 |ins C dx fs=>obtain⟨_,_,_,e,_⟩:=x;exact π e
 |own y=>obtain⟨_,e⟩:=x;exact π e
 |xd fs=>obtain⟨_,⟨_,_,_,e,_⟩,_⟩:=x;exact π e
 |rng lo hi=>obtain⟨_,_,_,e⟩:=x;exact π e
 |frz ob u=>obtain⟨e,_⟩:=x;exact π e
 |tbl ps=>exact π (show h.get? a=some _ from x)
 |ctb q=>obtain⟨_,e,_⟩:=x;exact π e
 |met f y=>exact π (show h.get? a=some _ from x)
 |ext φ=>obtain⟨_,⟨_,e⟩,_⟩:=x;exact π e
theorem Paired.mapP:∀{l₁:List α}{l₂:List β},Paired F l₁ l₂->(∀a b,F a b->G a b)->Paired G l₁ l₂
 |_,_,.nil,_=>.nil
 |_,_,.cons r t,f=>.cons (f _ _ r) (Paired.mapP t f)
def ObjOk.stay(x:ObjOk P w H h a o)(k:∀b u,(b=a\/H b=some (.own a))->h.get? b=some u->h'.get? b=some u)
  (ho:∀b,H b=some (.own a)->H' b=some (.own a)) (ht:∀b xs,H b=some (.tup xs)->H' b=some (.tup xs)):ObjOk P w H' h' a o:=by
 induction o with
 |lst xs=>obtain⟨z,its,n,r,e⟩:=x;exact⟨z,its,n,r,k _ _ (.inl rfl) e⟩
 |tup xs=>obtain⟨z,its,r,ob,e,c⟩:=x;exact⟨z,its,r,ob,k _ _ (.inl rfl) e,c⟩
 |dK kvs=>obtain⟨z,y,vs,r,ob,es,ep,e,c⟩:=x;exact⟨z,y,vs,r,ob,es,ep,k _ _ (.inl rfl) e,c⟩
 |dT kvs=>
  obtain⟨z,y,xs,r,ob,es,ep,e,c⟩:=x
  exact⟨z,y,xs,Paired.mapP r fun p q z=>⟨z.1,ht _ _ z.2.1,z.2.2⟩,ob,es,ep,k _ _ (.inl rfl) e,c⟩
 |set S n=>obtain⟨ob,es,ep,t,e,c⟩:=x;exact⟨ob,es,ep,t,k _ _ (.inl rfl) e,c⟩
 |ins C dx fs=>
  obtain⟨d,z,ne,e,mA,⟨od,es,ep,e2,c⟩,r⟩:=x
  exact⟨ho _ d,z,ne,k _ _ (.inl rfl) e,mA,⟨od,es,ep,k _ _ (.inr d) e2,c⟩,r⟩
 |own y=>obtain⟨ob,e⟩:=x;exact⟨ob,k _ _ (.inl rfl) e⟩
 |xd fs=>obtain⟨mA,⟨od,es,ep,e,c⟩,r⟩:=x;exact⟨mA,⟨od,es,ep,k _ _ (.inl rfl) e,c⟩,r⟩
 |rng lo hi=>obtain⟨t,u,v,e⟩:=x;exact⟨t,u,v,k _ _ (.inl rfl) e⟩
 |frz ob u ih=>obtain⟨e,q⟩:=x;exact⟨k _ _ (.inl rfl) e,ih q⟩
 |tbl ps=>
  have e:h.get? a=some { cls:=.none,data:=.fields ps }:=x
  show h'.get? a=some { cls:=.none,data:=.fields ps }
  exact k a _ (.inl rfl) e
 |ctb q=>
  obtain⟨ps,e,t,c⟩:=x
  refine⟨ps,k _ _ (.inl rfl) e,t,fun pos v hb=>?_⟩
  obtain⟨b,rfl,z,c2,oc,vs,tq,e1,e2,e3⟩:=c pos v hb
  cases e1
  exact⟨b,rfl,ho _ z,b,oc,vs,tq,rfl,k _ _ (.inr z) e2,e3⟩
 |met f y=>
  have e:h.get? a=some (PySem.W.methodObj (.ref f) (.ref y)):=x
  show h'.get? a=some (PySem.W.methodObj (.ref f) (.ref y))
  exact k a _ (.inl rfl) e
 |ext φ=>obtain⟨p,⟨o,e⟩,st⟩:=x;exact⟨st _ _ p fun o q=>k _ _ (.inl rfl) q,⟨o,k _ _ (.inl rfl) e⟩,st⟩
def HOk.lt(x:HOk P w H h)(e:H a=some o):a<h.objs.size:=(x a o e).lt
def HOk.fresh(x:HOk P w H h)(e:h.objs.size<=a):H a=none:=by
 cases q:H a with
 |none=>rfl
 |some u=>exact absurd (CG (x.lt q) e) (EA _)
theorem HOk.kept(x:HOk P w H h)(k:∀b u,h.get? b=some u->h'.get? b=some u):HOk P w H h':=fun a o e=>
 (x a o e).stay (fun b u _ q=>k b u q) (fun _ q=>q) fun _ _ q=>q
def HOk.laid(x:HOk P w H h)(k:∀b u,h.get? b=some u->h'.get? b=some u)(hp:h.objs.size<=a)(new:ObjOk P w (upd H a o) h' a o):HOk P w (upd H a o) h':=fun b u e=>by
 have hn:=x.fresh hp;by_cases hb:b=a
 . subst hb;rw[k7]at e;cases e;exact new
 . rw[i6 hb]at e;exact(x b u e).stay (fun c v _ q=>k c v q) (fun c q=>by rw[i6 (t8 q hn)];exact q) fun c xs q=>by rw[i6 (t8 q hn)];exact q
end
def Rd(H:Hp)(a:Addr)(u:HO):Prop:=H a=some u\/∃o,H a=some (.frz o u)
def Rd.ok(r:Rd H a u)(x:HOk P w H h):ObjOk P w H h a u:=by
 rcases r with r |⟨o,r⟩
 . exact x a u r
 . obtain⟨_,q⟩:=x a _ r;exact q
def Mut:Option HO->Prop
 |some (.lst _)=>True
 |some (.dK _)=>True
 |some (.dT _)=>True
 |some (.set _ _)=>True
 |some (.ins _ _ _)=>True
 |some (.ext _)=>True
 |_=>False
section
variable {P:Program}{w:World}{H:Hp}{h h':Heap}{x e:Addr}{o':HO}
def HOk.write(ok:HOk P w H h)(mu:Mut (H x))(he:e=x\/H e=some (.own x))(k:∀b u,b≠e->h.get? b=some u->h'.get? b=some u)(fM:∃u,h'.get? e=some u)
  (new:ObjOk P w (upd H x o') h' x o'):HOk P w (upd H x o') h':=fun b u q=>by
 have iY:∀c y,H c=some (.own y)->c≠x:=fun c y r z=>by subst z;rw[r]at mu;exact mu
 have nG:∀c xs,H c=some (.tup xs)->c≠x:=fun c xs r z=>by subst z;rw[r]at mu;exact mu
 by_cases hb:b=x
 . subst hb;rw[k7]at q;cases q;exact new
 . rw[i6 hb]at q;by_cases fj:b=e
   . have q':H b=some (.own x):=by
      rcases he with z |z
      . exact absurd (fj.trans z) hb
      . rw[fj];exact z
     rw[q]at q';cases q'
     obtain⟨v,hv⟩:=fM
     exact⟨v,by rw[fj];exact hv⟩
   . refine(ok b u q).stay (fun c v hc r=>k c v ?_ r) (fun c r=>by rw[i6 (iY c b r)];exact r) fun c xs r=>by rw[i6 (nG c xs r)];exact r
     rcases hc with rfl |hc
     . exact fj
     . rintro rfl;rcases he with z |z
       . exact iY c b hc z
       . rw[hc]at z;cases z;exact hb rfl
end
structure Un(fs ex:List Addr)(H H':Hp)(h h':Heap):Prop where
 keep:∀b o,h.get? b=some o->H b=none->b∉fs->b∉ex->h'.get? b=some o
 slot:∀b o,h.get? b=some o->H b=none->b∈fs->b∉ex->∃sl,h'.get? b=some { o with slots:=sl }
 free:∀b o,h.get? b=some o->H b=none->b∉ex->H' b=none
 there:∀b o,h.get? b=some o->b∉ex->∃o',h'.get? b=some o'
 tups:∀b xs,H b=some (.tup xs)->H' b=some (.tup xs)
 frzs:∀b o u,H b=some (.frz o u)->H' b=some (.frz o u)
 tbls:∀b ps,H b=some (.tbl ps)->∃more,H' b=some (.tbl (ps++more))
section
variable {fs ex:List Addr}{H H1:Hp}{h h1 h':Heap}{a x e:Addr}{o:HO}
def Un.any(u:Un fs ex H H1 h h1)(q:h.get? b=some ob)(n:H b=none)(hx:b∉ex):∃sl,h1.get? b=some { ob with slots:=sl }:=by
 by_cases hb:b∈fs
 . exact u.slot b ob q n hb hx
 . exact⟨ob.slots,u.keep b ob q n hb hx⟩
def Un.kept(k:∀b u,h.get? b=some u->h'.get? b=some u):Un fs ex H H h h':=
 ⟨fun b ob q _ _ _=>k b ob q,fun b ob q _ _ _=>⟨ob.slots,k b ob q⟩,fun _ _ _ n _=>n,fun b ob q _=>⟨ob,k b ob q⟩,fun _ _ q=>q,fun _ _ _ q=>q,fun _ ps q=>⟨#[],by rw[q];simp⟩⟩
def Un.refl:Un fs ex H H h h:=Un.kept fun _ _ q=>q
def Un.laid(k:∀b u,h.get? b=some u->h'.get? b=some u)(hp:h.objs.size<=a)(hn:H a=none):Un fs ex H (upd H a o) h h' where
 keep:=fun b u q _ _ _=>k b u q
 slot:=fun b u q _ _ _=>⟨u.slots,k b u q⟩
 free:=fun b u q n _=>by rw[i6 (CC (CG (π q) hp))];exact n
 there:=fun b u q _=>⟨u,k b u q⟩
 tups:=fun b xs q=>by rw[i6 (t8 q hn)];exact q
 frzs:=fun b u xs q=>by rw[i6 (t8 q hn)];exact q
 tbls:=fun b ps q=>⟨#[],by rw[i6 (t8 q hn),q];simp⟩
def Un.write(mu:Mut (H x))(he:e=x\/H e=some (.own x))(k:∀b u,b≠e->h.get? b=some u->h'.get? b=some u)(fM:∃u,h'.get? e=some u):Un fs ex H (upd H x o) h h':=by
 have hx:∀b,H b=none->b≠x:=fun b n z=>by subst z;rw[n]at mu;exact mu
 have hb:∀b,H b=none->b≠e:=fun b n z=>by
  subst z;rcases he with r |r
  . exact hx b n r
  . rw[n]at r;cases r
 have hm:∀b u,H b=some u->¬Mut (some u)->b≠x:=fun b u q nm z=>by subst z;rw[q]at mu;exact nm mu
 refine⟨fun b u q n _ _=>k b u (hb b n) q,fun b u q n _ _=>⟨u.slots,k b u (hb b n) q⟩,fun b u q n _=>by rw[i6 (hx b n)];exact n,fun b u q _=>?_,
  fun b xs q=>by rw[i6 (hm b _ q fun z=>z)];exact q,fun b u xs q=>by rw[i6 (hm b _ q fun z=>z)];exact q,fun b ps q=>⟨#[],by rw[i6 (hm b _ q fun z=>z),q];simp⟩⟩
 by_cases fj:b=e
 . subst fj;exact fM
 . exact⟨u,k b u fj q⟩
end
noncomputable def trk(h:Heap)(H:Hp):List Addr:=(List.range h.objs.size).filter fun a=>(H a).isSome
def G5(h:Heap)(H:Hp):Heap:=hideAll h (trk h H)
def zjk(h:Heap)(H:Hp):(G5 h H).objs.size=h.objs.size:=PySem.W.hideAll_size _ _
def zni(e:h.get? b=some o)(n:H b=none):(G5 h H).get? b=some o:=
 hideAll_get _ e fun hm=>by have q:(H b).isSome=true:=(CA.mp hm).2;rw[n]at q;simp at q
def yF(e:(G5 h H).get? b=some o):h.get? b=some o/\H b=none:=by
 have e':h.get? b=some o:=PySem.W.of_hideAll (trk h H) e;refine⟨e',?_⟩;cases q:H b with
 |none=>rfl
 |some x=>
  have hm:b∈trk h H:=CA.mpr ⟨EJ.mpr (π e'),by simp[q]⟩
  have z:(G5 h H).get? b=none:=hideAll_none (trk h H) hm
  rw[z]at e;cases e
noncomputable def Ej(g h:Heap)(L:Addr):List (Addr×Obj):=(List.range h.objs.size).filterMap fun a=>if a=L\/(g.get? a).isSome=true then none else(h.get? a).map fun o=>(a,o)
def zey(h1:a≠L)(h2:g.get? a=none)(h3:h.get? a=some o):(a,o)∈Ej g h L:=
 FK.mpr ⟨a,EJ.mpr (π h3),by simp[h1,h2,h3]⟩
def z9o(hp:p∈Ej g h L):p.1≠L/\g.get? p.1=none/\h.get? p.1=some p.2:=by
 obtain⟨b,_,e⟩:=FK.mp hp;split at e
 . cases e
 . rename_i hn;cases q:h.get? b with
   |none=>rw[q]at e;simp at e
   |some u=>
    rw[q]at e
    simp only[CO,Option.some.injEq]at e
    subst e
    refine⟨fun z=>hn (.inl z),?_,q⟩
    show g.get? b=none
    cases r:g.get? b with
    |none=>rfl
    |some v=>exact(hn (.inr (by simp[r]))).elim
def Ev:News g L h (Ej g h L):=fun p hp=>let ⟨a,b,c⟩:=z9o hp;⟨c,a,b⟩
structure Mod(K:Frag)(mg:Str->Option Value)(base:Heap):Prop where
 kin:K.In base
 glob:base.Ns mainGlobals mg
 blt:∃mb,base.Ns builtinsNs mb/\∀x:Str,x≠"__name__"->mb x=bootBuiltins x
 nolimit:base.NoLimit
structure Cx where
 prog:Program
 w:World
 K:Frag
 mg:Str->Option Value
 base:Heap
 A:Around
 N:List Str
 s₀:Shared
 H₀:Hp
 env:Env
 outer:List Env
 stack:List Env
 ex:List Addr
 fn:Str->Bool
 calm:Bool
 pn:List (Addr×Obj)
 xe:Value->Shared->Prop
noncomputable def frs(l:List Env):List Addr:=l.filterMap (·.frame)
abbrev Cx.fs(X:Cx):List Addr:=frs X.outer
def Vis(sc:Scope)(x:Str):Prop:=sc.names.lookup x=some .local\/sc.names.lookup x=some .cell\/sc.names.lookup x=some .free
def Loc(sc:Scope)(x:Str):Prop:=sc.names.lookup x=some .local\/sc.names.lookup x=some .cell
def y7q(env:Env)(h:Heap)(m:Str->Option Value)(x:Str)(u:Value):Prop:=
 (env.kindOf x=some .local/\m x=some u)\/((env.kindOf x=some .cell\/env.kindOf x=some .free)/\∃c,env.cells.lookup x=some c/\h.IsCell c (some u))
structure Cx.Ok(X:Cx):Prop where
 mod:Mod X.K X.mg X.base
 kind:X.env.scope.kind=.function
 glob:X.env.globals=mainGlobals
 blt:X.env.builtins=builtinsNs
 above:X.s₀.heap.objs.size<=X.env.locals
 inj:∀x y c,X.env.cells.lookup x=some c->X.env.cells.lookup y=some c->x=y
 has:∀x,(X.env.kindOf x=some .cell\/X.env.kindOf x=some .free)->∃c,X.env.cells.lookup x=some c
 cab:∀x c,X.fn x=true->X.env.cells.lookup x=some c->X.s₀.heap.objs.size<=c
 hd:X.calm=true->X.A.handled=none
 frames:X.A.frames=some X.stack
 stk:X.stack=X.outer\/(X.stack=X.env::X.outer/\X.env.frame=some X.env.locals)
 exf:∀b∈X.ex,b≠X.env.locals/\∀x c,X.env.cells.lookup x=some c->c≠b
 bs:∀b o,X.base.get? b=some o->X.s₀.heap.get? b=some o/\X.H₀ b=none
 bsz:X.base.objs.size<=X.s₀.heap.objs.size
 noex:∀b o,X.base.get? b=some o->b∉X.ex
 exfs:∀b∈X.ex,b∉X.fs
 funs:X.s₀.heap.FunFrames X.base X.outer
 frf:∀b∈X.fs,X.H₀ b=none
structure Inv(X:Cx)(pins:List (Addr×Obj))(σ:List (Option V))(H:Hp)(s:Shared):Prop where
 ok:X.Ok
 os:s.os=X.s₀.os
 bare:AllBare s.gens
 base:Un X.fs X.ex X.H₀ H X.s₀.heap s.heap
 loc:∃m,s.heap.Ns X.env.locals m/\∀(i:Nat)(x:Str)(v:V),X.N[i]?=some x->σ[i]?=some (some v)->Vis X.env.scope x->∃u,RelV v u/\y7q X.env s.heap m x u
 cell:∀x c,X.env.cells.lookup x=some c->∃v,s.heap.IsCell c v
 free:H X.env.locals=none
 freeC:∀x c,X.env.cells.lookup x=some c->H c=none
 pin:∀p∈X.pn++pins,s.heap.get? p.1=some p.2/\H p.1=none/\p.1≠X.env.locals/\p.1∉X.fs/\∀v,p.2.data≠.cell v
 hok:HOk X.prog X.w H s.heap
 len:σ.length=X.N.length
section
variable {X:Cx}{pins:List (Addr×Obj)}{σ:List (Option V)}{H H':Hp}{s:Shared}{h':Heap}
def Cx.Ok.nofr(ok:X.Ok)(e:X.base.get? b=some o):b∉X.fs:=fun hb=>by have:=(ok.funs.mem hb).1;rw[e]at this;cases this
def Inv.bs(I:Inv X pins σ H s):∀b o,X.base.get? b=some o->s.heap.get? b=some o/\H b=none:=fun b o e=>
 ⟨I.base.keep b o (I.ok.bs b o e).1 (I.ok.bs b o e).2 (I.ok.nofr e) (I.ok.noex b o e),I.base.free b o (I.ok.bs b o e).1 (I.ok.bs b o e).2 (I.ok.noex b o e)⟩
def Inv.bk(I:Inv X pins σ H s):∀b o,X.base.get? b=some o->s.heap.get? b=some o:=fun b o e=>(I.bs b o e).1
def Inv.mod(I:Inv X pins σ H s):Mod X.K X.mg X.base:=I.ok.mod
def Inv.kIn(I:Inv X pins σ H s):X.K.In s.heap:=I.ok.mod.kin.keeps I.bk
def Inv.lt(I:Inv X pins σ H s):X.env.locals<s.heap.objs.size:=let ⟨_,hn,_⟩:=I.loc;hn.lt
def Inv.sz(I:Inv X pins σ H s):X.s₀.heap.objs.size<=s.heap.objs.size:=CD I.ok.above (FW I.lt)
def Inv.nofs(I:Inv X pins σ H s)(h:s.heap.objs.size<=a):a∉X.fs:=fun hb=>by obtain⟨_,o,ho,_⟩:=I.ok.funs.mem hb;exact absurd (CG (π ho) (CD I.sz h)) (EA _)
def Inv.cne(I:Inv X pins σ H s):∀x c,X.env.cells.lookup x=some c->c≠X.env.locals:=fun x c e z=>by obtain⟨v,o,ho,hd⟩:=I.cell x c e;obtain⟨m,⟨o',es,ep,aY,cx,_⟩,_⟩:=I.loc;rw[z,aY]at ho;cases ho;rw[cx]at hd;cases hd
def Inv.funs(I:Inv X pins σ H s):s.heap.FunFrames X.base X.outer:=by
 have all:∀(l:List Env),(∀b∈frs l,b∈X.fs)->X.s₀.heap.FunFrames X.base l->s.heap.FunFrames X.base l:=by
  intro l;induction l with
  |nil=>intro _ _;trivial
  |cons env r ih=>
   intro hs hl
   obtain⟨hk,⟨L,o,hf,hn,ho,hd⟩,hr⟩:=hl
   have hL:L∈X.fs:=hs L (by unfold frs;rw[ER,hf];exact gq)
   obtain⟨sl,e⟩:=I.base.slot L o ho (I.ok.frf L hL) hL fun z=>I.ok.exfs L z hL
   exact⟨hk,⟨L,_,hf,hn,e,hd⟩,ih (fun b hb=>hs b (by unfold frs;rw[ER,hf];exact dg _ hb)) hr⟩
 exact all X.outer (fun _ hb=>hb) I.ok.funs
def Inv.stack(I:Inv X pins σ H s):s.heap.FunFrames X.base X.stack:=by
 rcases I.ok.stk with e |⟨e,hf⟩
 . rw[e];exact I.funs
 . rw[e];obtain⟨m,hn,_⟩:=I.loc;refine .cons (by rw[I.ok.kind];decide) hf hn ?_ I.funs;exact Heap.get?_none_of_le (CD I.ok.bsz I.ok.above)
def Inv.stkSub(I:Inv X pins σ H s):∀b∈frs X.stack,b∈X.env.locals::X.fs:=fun b hb=>by
 rcases I.ok.stk with e |⟨e,hf⟩
 . rw[e]at hb;exact dg _ hb
 . rw[e]at hb;unfold frs at hb;rw[ER,hf]at hb;exact hb
def Inv.stkFree(I:Inv X pins σ H s):∀b∈frs X.stack,H b=none:=fun b hb=>by
 rcases eH.mp (I.stkSub b hb) with e |hb
 . rw[e];exact I.free
 . obtain⟨_,o,ho,_⟩:=I.ok.funs.mem hb;exact I.base.free b o ho (I.ok.frf b hb) fun z=>I.ok.exfs b z hb
def Inv.step{g':Array GenState}{t':Nat}{d':Drawn}{ch:List Addr}(I:Inv X pins σ H s)
  (de:∀b∈ch,(b∈X.ex\/X.s₀.heap.objs.size<=b)/\b≠X.env.locals/\(∀x c,X.env.cells.lookup x=some c->c≠b)/\∀p∈X.pn++pins,p.1≠b)
  (keep:∀b o,b≠X.env.locals->b∉X.fs->b∉ch->s.heap.get? b=some o->H b=none->h'.get? b=some o)
  (slot:∀b o,b≠X.env.locals->b∈X.fs->b∉ch->s.heap.get? b=some o->H b=none->∃sl,h'.get? b=some { o with slots:=sl }) (free:∀b o,b∉ch->s.heap.get? b=some o->H b=none->H' b=none)
  (there:∀b o,b∉ch->s.heap.get? b=some o->∃o',h'.get? b=some o')
  (tups:∀b xs,H b=some (.tup xs)->H' b=some (.tup xs)) (frzs:∀b o u,H b=some (.frz o u)->H' b=some (.frz o u)) (tbls:∀b ps,H b=some (.tbl ps)->∃more,H' b=some (.tbl (ps++more)))
  (ns:∀m,s.heap.Ns X.env.locals m->h'.Ns X.env.locals m) (hok:HOk X.prog X.w H' h') (hg:AllBare g') :
  Inv X pins σ H' { s with heap:=h',gens:=g',drawn:=d',toks:=t' }:=by
 have ip:∀b o,X.s₀.heap.get? b=some o->b≠X.env.locals:=fun b o e=>CC (CG (π e) I.ok.above)
 have iq:∀b o,X.s₀.heap.get? b=some o->b∉X.ex->b∉ch:=fun b o e hx hb=>by
  rcases (de b hb).1 with z |z
  . exact hx z
  . exact absurd (CG (π e) z) (EA _)
 have fY:∀x c,X.env.cells.lookup x=some c->∀v,s.heap.IsCell c v->h'.IsCell c v:=fun x c e v ⟨o,ho,hd⟩=>by
  have gE:c∉ch:=fun z=>(de c z).2.2.1 x c e rfl
  by_cases hc:c∈X.fs
  . obtain⟨sl,q⟩:=slot c o (I.cne x c e) hc gE ho (I.freeC x c e);exact⟨_,q,hd⟩
  . exact⟨o,keep c o (I.cne x c e) hc gE ho (I.freeC x c e),hd⟩
 refine⟨I.ok,I.os,hg,⟨fun b o e n hb hx=>?_,fun b o e n hb hx=>?_,fun b o e n hx=>?_,fun b o e hx=>?_,fun b xs e=>tups b xs (I.base.tups b xs e),fun b o xs e=>frzs b o xs (I.base.frzs b o xs e),fun b ps e=>?_⟩,?_,fun x c e=>?_,?_,fun x c e=>?_,fun p hp=>?_,hok,I.len⟩
 . exact keep b o (ip b o e) hb (iq b o e hx) (I.base.keep b o e n hb hx) (I.base.free b o e n hx)
 . obtain⟨sl,e1⟩:=I.base.slot b o e n hb hx;obtain⟨rf,e2⟩:=slot b _ (ip b o e) hb (iq b o e hx) e1 (I.base.free b o e n hx);exact⟨rf,e2⟩
 . obtain⟨o',e1⟩:=I.base.there b o e hx;exact free b o' (iq b o e hx) e1 (I.base.free b o e n hx)
 . obtain⟨o',e1⟩:=I.base.there b o e hx;exact there b o' (iq b o e hx) e1
 . obtain⟨m1,e1⟩:=I.base.tbls b ps e;obtain⟨m2,e2⟩:=tbls b _ e1;exact⟨m1++m2,by rw[e2,Array.append_assoc]⟩
 . obtain⟨m,hn,hl⟩:=I.loc;refine⟨m,ns m hn,fun i x v e1 e2 e3=>?_⟩;obtain⟨u,r,l⟩:=hl i x v e1 e2 e3;refine⟨u,r,?_⟩;rcases l with l |⟨k,c,e,z⟩
   . exact .inl l
   . exact .inr ⟨k,c,e,fY x c e _ z⟩
 . obtain⟨v,z⟩:=I.cell x c e;exact⟨v,fY x c e v z⟩
 . obtain⟨m,⟨o,_,_,ho,_⟩,_⟩:=I.loc;exact free _ o (fun z=>(de _ z).2.1 rfl) ho I.free
 . obtain⟨v,o,ho,hd⟩:=I.cell x c e;exact free c o (fun z=>(de c z).2.2.1 x c e rfl) ho (I.freeC x c e)
 . obtain⟨e,n,ne,nf,d⟩:=I.pin p hp;have gE:p.1∉ch:=fun z=>(de p.1 z).2.2.2 p hp rfl
   exact⟨keep p.1 p.2 ne nf gE e n,free p.1 p.2 gE e n,ne,nf,d⟩
def Inv.un(I:Inv X pins σ H s)(u:Un X.fs [] H H' s.heap h')(hok:HOk X.prog X.w H' h'):Inv X pins σ H' { s with heap:=h',toks:=t' }:=by obtain⟨m,⟨o,es,ep,ho,r⟩,_⟩:=id I.loc;obtain⟨sl,hL⟩:=u.any ho I.free (by simp);exact I.step (g':=s.gens) (d':=s.drawn) (ch:=[]) (fun _ z=>nomatch z) (fun b o _ hb _ e n=>u.keep b o e n hb (by simp)) (fun b o _ hb _ e n=>u.slot b o e n hb (by simp)) (fun b o _ e n=>u.free b o e n (by simp)) (fun b o _ e=>u.there b o e (by simp)) u.tups u.frzs u.tbls (fun m' hm=>by obtain⟨o',lR,lS,aY,r'⟩:=hm;rw[ho]at aY;cases aY;exact⟨_,lR,lS,hL,r'⟩) hok I.bare
def Inv.call(I:Inv X pins σ H s)(u:Un (frs X.stack) ch H H' s.heap h')(hok:HOk X.prog X.w H' h')(hg:AllBare g')
  (de:∀b∈ch,(b∈X.ex\/X.s₀.heap.objs.size<=b)/\b≠X.env.locals/\(∀x c,X.env.cells.lookup x=some c->c≠b)/\∀p∈X.pn++pins,p.1≠b) :
  Inv X pins σ H' { s with heap:=h',gens:=g',drawn:=d',toks:=t' }:=by
 obtain⟨m,⟨o,es,ep,ho,r⟩,_⟩:=id I.loc
 obtain⟨sl,hL⟩:=u.any ho I.free fun z=>(de _ z).2.1 rfl
 exact I.step (ch:=ch) de (fun b o hL hb hc e n=>u.keep b o e n (fun z=>(eH.mp (I.stkSub b z)).elim hL hb) hc) (fun b o _ _ hc e n=>u.any e n hc) (fun b o hc e n=>u.free b o e n hc) (fun b o hc e=>u.there b o e hc) u.tups u.frzs u.tbls (fun m' hm=>by obtain⟨o',lR,lS,aY,r'⟩:=hm;rw[ho]at aY;cases aY;exact⟨_,lR,lS,hL,r'⟩) hok hg
def Inv.turned(I:Inv X pins σ H s)(k:∀b o,b≠it->s.heap.get? b=some o->h'.get? b=some o)(hn:H it=none)(hL:it≠X.env.locals)
  (h1:it∈X.ex\/X.s₀.heap.objs.size<=it) (h2:∀x c,X.env.cells.lookup x=some c->c≠it) (h3:∀p∈X.pn++pins,p.1≠it):Inv X pins σ H { s with heap:=h',toks:=t' }:=by
 have oz:∀b u,H b=some u->b≠it:=fun b u e z=>by rw[z,hn]at e;cases e
 refine I.step (g':=s.gens) (d':=s.drawn) (ch:=[it]) (fun b hb=>?_) (fun b o _ _ hc e _=>k b o (fun z=>hc (by simp[z])) e) (fun b o _ _ hc e _=>⟨o.slots,k b o (fun z=>hc (by simp[z])) e⟩) (fun _ _ _ _ n=>n)
  (fun b o hc e=>⟨o,k b o (fun z=>hc (by simp[z])) e⟩) (fun _ _ e=>e) (fun _ _ _ e=>e) (fun b ps e=>⟨#[],by rw[e];simp⟩) (fun m hm=>?_) (fun b u e=>?_) I.bare
 . have e:b=it:=by simpa using hb
   subst e;exact⟨h1,hL,h2,h3⟩
 . obtain⟨o,es,ep,ho,r⟩:=hm;exact⟨o,es,ep,k _ o (FP hL) ho,r⟩
 . refine(I.hok b u e).stay (fun c v hc q=>k c v ?_ q) (fun _ q=>q) fun _ _ q=>q
   rcases hc with z |z
   . rw[z];exact oz b u e
   . exact oz c _ z
theorem Inv.tok(I:Inv X pins σ H s)(t:Nat):Inv X pins σ H { s with toks:=t }:=I.un (h':=s.heap) (t':=t) Un.refl I.hok
def Inv.kept(I:Inv X pins σ H s)(k:∀b u,s.heap.get? b=some u->h'.get? b=some u):Inv X pins σ H { s with heap:=h',toks:=t' }:=I.un (Un.kept k) (I.hok.kept k)
def Inv.laid(I:Inv X pins σ H s)(k:∀b u,s.heap.get? b=some u->h'.get? b=some u)(hp:s.heap.objs.size<=a)(new:ObjOk X.prog X.w (upd H a o) h' a o) :
 Inv X pins σ (upd H a o) { s with heap:=h',toks:=t' }:=I.un (Un.laid k hp (I.hok.fresh hp)) (I.hok.laid k hp new)
def Inv.write(I:Inv X pins σ H s)(mu:Mut (H x))(he:e=x\/H e=some (.own x))(k:∀b u,b≠e->s.heap.get? b=some u->h'.get? b=some u)(fM:∃u,h'.get? e=some u)
 (new:ObjOk X.prog X.w (upd H x o) h' x o):Inv X pins σ (upd H x o) { s with heap:=h',toks:=t' }:=I.un (Un.write mu he k fM) (I.hok.write mu he k fM new)
def Inv.pins_of(I:Inv X pins σ H s)(h:∀p∈lL,s.heap.get? p.1=some p.2/\H p.1=none/\p.1≠X.env.locals/\p.1∉X.fs/\∀v,p.2.data≠.cell v):Inv X lL σ H s:=
 ⟨I.ok,I.os,I.bare,I.base,I.loc,I.cell,I.free,I.freeC,fun p hp=>(CN.mp hp).elim (fun z=>I.pin p (EC _ z)) (h p),I.hok,I.len⟩
def Xf{N:List Str}(hN:N.Nodup){i j:Nat}{x:Str}(a:N[i]?=some x)(b:N[j]?=some x):i=j:=by obtain⟨h1,e1⟩:=CU.mp a;obtain⟨h2,e2⟩:=CU.mp b;exact(List.getElem_inj hN).mp (e1.trans e2.symm)
theorem Ym(I:Inv X pins σ H s)(hN:X.N.Nodup)(hi:X.N[i]?=some x)(hx:Loc X.env.scope x)(r:RelV v u)
  (h:∀s',Inv X pins (σ.set i (some v)) H s'->(∃a,Heap.SameBut a s.heap s'.heap/\(a=X.env.locals\/X.env.cells.lookup x=some a))->Q () s') (hf:X.fn x=true\/X.env.scope.names.lookup x=some .local):wpAny M A (storeName X.env x u) Q E s:=by
 obtain⟨m,hn,hl⟩:=id I.loc
 have nH:(X.env.scope.kind==.class||(X.env.scope.kind==.module&&X.env.locals != X.env.globals))=false:=by rw[I.ok.kind];rfl
 have iZ:i<σ.length:=by rw[I.len];exact(CU.mp hi).1
 have cne:=I.cne
 have eE:∀{a:Addr}{h':Heap},(∃o,s.heap.get? a=some o/\H a=none)->Heap.SameBut a s.heap h'->HOk X.prog X.w H h':=fun {a h'} ha hs b ob e=>by
  obtain⟨_,_,fZ⟩:=ha;refine(I.hok b ob e).stay (fun c w' hc q=>(hs.2 c ?_).trans q) (fun _ q=>q) fun _ _ q=>q
  rintro rfl;rcases hc with rfl |hc
  . rw[fZ]at e;cases e
  . rw[fZ]at hc;cases hc
 rcases hx with hk |hk
 . refine wpAny_storeName_local hk hn (fun h' rh hs=>?_) nH;obtain⟨oL,_,_,ir,_⟩:=id hn;refine h _ ⟨I.ok,I.os,I.bare,⟨fun b o e n hb hx=>?_,fun b o e n hb hx=>?_,I.base.free,fun b o e hx=>?_,I.base.tups,I.base.frzs,I.base.tbls⟩,⟨_,rh,fun j y v' e1 e2 e3=>?_⟩,fun y c e=>?_,I.free,I.freeC,fun p hp=>?_,eE ⟨oL,ir,I.free⟩ hs,by simpa using I.len⟩ ⟨_,hs,.inl rfl⟩
   . exact(hs.2 b (CC (CG (π e) I.ok.above))).trans (I.base.keep b o e n hb hx)
   . obtain⟨sl,e1⟩:=I.base.slot b o e n hb hx;exact⟨sl,(hs.2 b (CC (CG (π e) I.ok.above))).trans e1⟩
   . obtain⟨o',e1⟩:=I.base.there b o e hx;exact⟨o',(hs.2 b (CC (CG (π e) I.ok.above))).trans e1⟩
   . by_cases hj:j=i
     . subst hj;rw[hi]at e1;cases e1;rw[ET iZ]at e2;cases e2;exact⟨u,r,.inl ⟨hk,by simp⟩⟩
     . rw[EO (FP hj)]at e2;obtain⟨u',r',q⟩:=hl j y v' e1 e2 e3;refine⟨u',r',?_⟩;rcases q with⟨k,e⟩ |⟨k,c,e,z⟩
       . refine .inl ⟨k,?_⟩;have:y≠x:=fun e=>hj (Xf hN e1 (e ▸ hi))
         simp[this,e]
       . exact .inr ⟨k,c,e,z.sameBut hs (cne y c e)⟩
   . obtain⟨w',z⟩:=I.cell y c e;exact⟨w',z.sameBut hs (cne y c e)⟩
   . obtain⟨e,n,ne,nf,d⟩:=I.pin p hp;exact⟨(hs.2 p.1 ne).trans e,n,ne,nf,d⟩
 . have gF:X.fn x=true:=by
    rcases hf with z |z
    . exact z
    . rw[z]at hk;cases hk
   obtain⟨c,hc⟩:=I.ok.has x (.inl hk)
   obtain⟨w',z⟩:=I.cell x c hc
   refine wpAny_storeName_cell I.ok.kind hk hc z (fun h' aL hs=>?_)
   obtain⟨oc,iu,nI⟩:=id z
   refine h { s with heap:=h' } ⟨I.ok,I.os,I.bare,⟨fun b o e n hb hx=>?_,fun b o e n hb hx=>?_,I.base.free,fun b o e hx=>?_,I.base.tups,I.base.frzs,I.base.tbls⟩,⟨m,hn.sameBut hs (FP (cne x c hc)),fun j y v' e1 e2 e3=>?_⟩,fun y c' e=>?_,I.free,I.freeC,fun p hp=>?_,eE ⟨oc,iu,I.freeC x c hc⟩ hs,by simpa using I.len⟩ ⟨c,hs,.inr hc⟩
   . exact(hs.2 b (CC (CG (π e) (I.ok.cab x c gF hc)))).trans (I.base.keep b o e n hb hx)
   . obtain⟨sl,e1⟩:=I.base.slot b o e n hb hx;exact⟨sl,(hs.2 b (CC (CG (π e) (I.ok.cab x c gF hc)))).trans e1⟩
   . obtain⟨o',e1⟩:=I.base.there b o e hx;exact⟨o',(hs.2 b (CC (CG (π e) (I.ok.cab x c gF hc)))).trans e1⟩
   . by_cases hj:j=i
     . subst hj;rw[hi]at e1;cases e1;rw[ET iZ]at e2;cases e2;exact⟨u,r,.inr ⟨.inl hk,c,hc,aL⟩⟩
     . rw[EO (FP hj)]at e2;obtain⟨u',r',q⟩:=hl j y v' e1 e2 e3;refine⟨u',r',?_⟩;rcases q with q |⟨k,c',e,z'⟩
       . exact .inl q
       . refine .inr ⟨k,c',e,z'.sameBut hs ?_⟩;rintro rfl;exact hj (Xf hN e1 (I.ok.inj _ _ _ e hc ▸ hi))
   . by_cases eL:c'=c
     . subst eL;exact⟨_,aL⟩
     . obtain⟨w2,z2⟩:=I.cell y c' e;exact⟨w2,z2.sameBut hs eL⟩
   . obtain⟨e,n,ne,nf,d⟩:=I.pin p hp;refine⟨(hs.2 p.1 ?_).trans e,n,ne,nf,d⟩;intro q;rw[q,iu]at e;have q':oc=p.2:=Option.some.inj e;exact d w' (by rw[<-q'];exact nI)
def Xe(I:Inv X pins σ H s)(hN:X.N.Nodup)(hi:X.N[i]?=some x)(hx:Loc X.env.scope x)(r:RelV v u)
  (h:∀s',Inv X pins (σ.set i (some v)) H s'->Q () s') (hf:X.fn x=true\/X.env.scope.names.lookup x=some .local):wpAny M A (storeName X.env x u) Q E s:=
 Ym I hN hi hx r (fun s' I' _=>h s' I') hf
theorem Inv.call'(I:Inv X pins σ H s)(ho:s'.os=s.os)(u:Un (frs X.stack) ch H H' s.heap s'.heap)(hok:HOk X.prog X.w H' s'.heap)(hg:AllBare s'.gens)
  (de:∀b∈ch,(b∈X.ex\/X.s₀.heap.objs.size<=b)/\b≠X.env.locals/\(∀x c,X.env.cells.lookup x=some c->c≠b)/\∀p∈X.pn++pins,p.1≠b):Inv X pins σ H' s':=by
 obtain⟨h',g',d',t',o'⟩:=s'
 have e:o'=s.os:=ho
 subst e
 exact I.call (g':=g') (t':=t') (d':=d') u hok hg de
end
abbrev XK:=Value->Option Addr->Hp->Prop
abbrev St:=List (Option V)
abbrev VK:=V->Hp->Prop
abbrev TE:=St->Hp->VK->Prop
abbrev TT:=St->Hp->(Bool->Hp->Prop)->Prop
abbrev TA:=St->Hp->(List V->Hp->Prop)->Prop
structure Ends where
 nx:St->Hp->Prop
 rt:VK
 bk:St->Hp->Prop:=fun _ _=>False
 ct:St->Hp->Prop:=fun _ _=>False
abbrev TS:=Ends->St->Hp->Prop
def EP(X:Cx)(pins:List (Addr×Obj))(σ:St)(Q:VK)(u:Value)(s':Shared):Prop:=∃v H',Inv X pins σ H' s'/\RelV v u/\Q v H'
def TP(X:Cx)(pins:List (Addr×Obj))(σ:St)(Q:Bool->Hp->Prop)(b:Bool)(s':Shared):Prop:=∃H',Inv X pins σ H' s'/\Q b H'
def AP(X:Cx)(pins:List (Addr×Obj))(σ:St)(Q:List V->Hp->Prop)(us:List Value)(s':Shared):Prop:=∃vs H',Inv X pins σ H' s'/\Vals vs us/\Q vs H'
def SP(X:Cx)(pins:List (Addr×Obj))(D:Ends)(f:Flow)(s':Shared):Prop:=
 match f with
 | .next=>∃ac H',Inv X pins ac H' s'/\D.nx ac H'
 | .brk=>∃ac H',Inv X pins ac H' s'/\D.bk ac H'
 | .cont=>∃ac H',Inv X pins ac H' s'/\D.ct ac H'
 | .ret u=>∃v ac H',Inv X pins ac H' s'/\RelV v u/\D.rt v H'
def PE(X:Cx)(e:Expr)(t:TE):Prop:=
 ∀(pins:List (Addr×Obj))(s:Shared)(σ:St)(H:Hp)(Q:VK),Inv X pins σ H s->t σ H Q->wpAny (model X.prog X.w) X.A (eval e X.env) (EP X pins σ Q) X.xe s
def PT(X:Cx)(e:Expr)(t:TT):Prop:=
 ∀(pins:List (Addr×Obj))(s:Shared)(σ:St)(H:Hp)(Q:Bool->Hp->Prop),Inv X pins σ H s->t σ H Q->wpAny (model X.prog X.w) X.A (isTrue e X.env (eval e X.env)) (TP X pins σ Q) X.xe s
def PW(X:Cx)(e:Expr)(t:TT):Prop:=
 ∀(whole:Sem Value)(pins:List (Addr×Obj))(s:Shared)(σ:St)(H:Hp)(Q:Bool->Hp->Prop),Inv X pins σ H s->t σ H Q->wpAny (model X.prog X.w) X.A (isTrue e X.env whole) (TP X pins σ Q) X.xe s
def PW.pt(h:PW X e t):PT X e t:=h _
def PA(X:Cx)(es:List Expr)(t:TA):Prop:=
 ∀(pos:Pos)(pins:List (Addr×Obj))(s:Shared)(σ:St)(H:Hp)(Q:List V->Hp->Prop),Inv X pins σ H s->t σ H Q->wpAny (model X.prog X.w) X.A (spliced (backTo pos (starEach es X.env))) (AP X pins σ Q) X.xe s
def PS(X:Cx)(st:Stmt)(t:TS):Prop:=
 ∀(pins:List (Addr×Obj))(s:Shared)(σ:St)(H:Hp)(D:Ends),Inv X pins σ H s->t D σ H->wpAny (model X.prog X.w) X.A (exec st X.env) (SP X pins D) X.xe s
def PSs(X:Cx)(st:List Stmt)(t:TS):Prop:=
 ∀(pins:List (Addr×Obj))(s:Shared)(σ:St)(H:Hp)(D:Ends),Inv X pins σ H s->t D σ H->wpAny (model X.prog X.w) X.A (execs st X.env) (SP X pins D) X.xe s
def thn(h:wpAny M A t Q E s)(hQ:∀a s,Q a s->Q' a s):wpAny M A t Q' E s:=EM h hQ fun _ _ x=>x
section
variable {X:Cx}
noncomputable def qE(i:Nat):TE:=fun σ H Q=>∃v,σ[i]?=some (some v)/\Q v H
noncomputable def tC(v:V):TE:=fun _ H Q=>Q v H
def Dr(hN:X.N[i]?=some x)(hv:Vis X.env.scope x)(hd:(x==("__debug__":Str))=false:=by decide)(bB:(x==("__classdict__":Str))=false:=by decide):PE X (.Name x pos) (qE i):=by
 intro pins s σ H Q I h;obtain⟨v,e,h⟩:=h;obtain⟨m,hn,hl⟩:=I.loc;obtain⟨u,r,l⟩:=hl i x v hN e hv;have fin:EP X pins σ Q u s:=⟨v,H,I,r,h⟩;rcases l with⟨hk,hm⟩ |⟨hk,c,hc,f'⟩
 . exact wpAny_Name (wpAny_loadName_local I.ok.kind hk hn hm fin) hd
 . rcases hk with hk |hk
   . exact wpAny_Name (wpAny_loadName_cell I.ok.kind hk hc f' fin) hd
   . exact wpAny_Name (wpAny_loadName_free I.ok.kind hk hc f' fin bB) hd
def pe_int:PE X (.Constant (.int i) j pos) (tC (.int i)):=fun _ _ _ H _ I h=>wpAny_Constant_int ⟨.int i,H,I.tok _,⟨_,rfl⟩,h⟩
def pe_bl:PE X (.Constant (.bool b) j pos) (tC (.bl b)):=fun _ _ _ H _ I h=>Constant_bool ⟨.bl b,H,I,rfl,h⟩
def pe_non:PE X (.Constant .none j pos) (tC .non):=fun _ _ _ H _ I h=>Constant_none ⟨.non,H,I,rfl,h⟩
def pe_str:PE X (.Constant (.str x) j pos) (tC (.str x)):=fun _ _ _ H _ I h=>Calls.Constant_str ⟨.str x,H,I.tok _,⟨_,rfl⟩,h⟩
def Gl(X:Cx)(x:Str):Prop:=X.env.kindOf x=some .globalImplicit
def Vn(I:Inv X pins σ H s)(hg:Gl X x)(hm:X.mg x=some u)(h:Q u s)
  (hd:(x==("__debug__":Str))=false:=by decide):wpAny (model X.prog X.w) X.A (eval (.Name x pos) X.env) Q E s:=
 Calls.Name_function_global I.ok.kind hg (Calls.loadGlobal_global (by rw[I.ok.glob];exact I.mod.glob.keeps I.bk) hm h) hd
def J6(I:Inv X pins σ H s)(hg:Gl X x)(hm:X.mg x=none)(hv:bootBuiltins x=some u)(h:Q u s)
  (hn:x≠"__name__":=by decide) (hd:(x==("__debug__":Str))=false:=by decide):wpAny (model X.prog X.w) X.A (eval (.Name x pos) X.env) Q E s:=by
 obtain⟨mb,h1,h2⟩:=I.mod.blt
 exact Calls.Name_function_global I.ok.kind hg (Calls.loadGlobal_builtin (by rw[I.ok.glob];exact I.mod.glob.keeps I.bk) hm (by rw[I.ok.blt];exact h1.keeps I.bk) ((h2 x hn).trans hv) h) hd
def O7(hg:Gl X x)(hm:X.mg x=none)(hv:bootBuiltins x=some u)(r:RelV v u)(hn:x≠"__name__":=by decide)(hd:(x==("__debug__":Str))=false:=by decide):PE X (.Name x pos) (tC v):=
 fun _ _ _ H _ I h=>J6 I hg hm hv ⟨v,H,I,r,h⟩ hn hd
variable {a b:Expr}{ta tb:TE}{pos:Pos}
variable {tA iw:TT}{rest:List Expr}
noncomputable def qD(t u:TT):TT:=fun σ H Q=>t σ H fun c H1=>if c=true then u σ H1 Q else Q false H1
noncomputable def tOr(t u:TT):TT:=fun σ H Q=>t σ H fun c H1=>if c=true then Q true H1 else u σ H1 Q
noncomputable def qC(t:TT):TT:=fun σ H Q=>t σ H fun c H1=>Q (!c) H1
def yE(ha:PT X a tA):PW X (.BoolOp .And [a] pos) tA:=by
 intro wh pins s σ H Q I h;refine isTrue_and (thn (ha pins s σ H Q I h) fun c s1 e=>?_);cases c with
 |true=>exact isTrue_and_nil e
 |false=>exact e
def wu(ha:PT X a tA):PW X (.BoolOp .Or [a] pos) tA:=by
 intro wh pins s σ H Q I h;refine isTrue_or (thn (ha pins s σ H Q I h) fun c s1 e=>?_);cases c with
 |false=>exact isTrue_or_nil e
 |true=>exact e
def wt(ha:PT X a tA)(hb:PW X (.BoolOp .And (b::rest) pos) iw):PW X (.BoolOp .And (a::b::rest) pos) (qD tA iw):=by
 intro wh pins s σ H Q I h;refine isTrue_and (thn (ha pins s σ H _ I h) fun c s1 ⟨H1,I1,q1⟩=>?_);cases c with
 |true=>exact hb wh pins s1 σ H1 Q I1 q1
 |false=>exact⟨H1,I1,q1⟩
def y37(ha:PT X a tA)(hb:PW X (.BoolOp .Or (b::rest) pos) iw):PW X (.BoolOp .Or (a::b::rest) pos) (tOr tA iw):=by
 intro wh pins s σ H Q I h;refine isTrue_or (thn (ha pins s σ H _ I h) fun c s1 ⟨H1,I1,q1⟩=>?_);cases c with
 |true=>exact⟨H1,I1,q1⟩
 |false=>exact hb wh pins s1 σ H1 Q I1 q1
def wq(ha:PT X a tA):PT X (.UnaryOp .Not a pos) (qC tA):=by intro pins s σ H Q I h;exact isTrue_not (ha pins s σ H (fun c H1=>Q (!c) H1) I h)
def wo(h:PE X a t):PE X (.BoolOp op [a] pos) t:=fun pins s σ H Q I hw=>BoolOp_one (h pins s σ H Q I hw)
noncomputable def tIf(t:TT)(ta tb:TE):TE:=fun σ H Q=>t σ H fun c H1=>if c=true then ta σ H1 Q else tb σ H1 Q
def zZ(hc:PT X c tA)(ha:PE X a ta)(hb:PE X b tb):PE X (.IfExp c a b pos) (tIf tA ta tb):=by
 intro pins s σ H Q I h;refine wpAny_IfExp (thn (hc pins s σ H _ I h) fun d s1 ⟨H1,I1,q1⟩=>?_);cases d with
 |true=>exact ha pins s1 σ H1 Q I1 q1
 |false=>exact hb pins s1 σ H1 Q I1 q1
end
def SqL(K:Frag)(H:Hp)(a:Addr)(xs:List V):Prop:=
 Rd H a (.lst xs) \/
  ∃(o:Obj)(its:Array Value)(n:Nat),K.lookup a=some o/\o.cls=.type "list"/\o.dict=none/\o.data=.seq its n/\its.size<=sizeLine/\Vals xs its.toList
def SqT(K:Frag)(H:Hp)(a:Addr)(xs:List V):Prop:=
 Rd H a (.tup xs) \/
  ∃(o:Obj)(its:Array Value)(n:Nat),K.lookup a=some o/\o.cls=.type "tuple"/\o.data=.seq its n/\its.size<=sizeLine/\Vals xs its.toList
noncomputable def qB:Value->Option V
 | .none=>some .non
 | .bool b=>some (.bl b)
 | .int i _=>some (.int i)
 | .str x _=>some (.str x)
 | .bytes b _=>some (.byt b)
 | .float b _=>some (.flt b)
 | .ref a=>some (.ref a)
 | .type n=>some (.ty n)
 |_=>none
def RelV.abs(r:RelV x u):qB u=some x:=by
 cases x with
 |non=>cases r;rfl
 |bl _=>cases r;rfl
 |int _=>obtain⟨t,rfl⟩:=r;rfl
 |str _=>obtain⟨t,rfl⟩:=r;rfl
 |byt _=>obtain⟨t,rfl⟩:=r;rfl
 |flt _=>obtain⟨t,rfl⟩:=r;rfl
 |ref _=>cases r;rfl
 |ty _=>cases r;rfl
def RelV.inj(r:RelV x u)(q:RelV y u):x=y:=Option.some.inj (r.abs.symm.trans q.abs)
theorem Vals.inj:∀{xs ys:List V}{us:List Value},Vals xs us->Vals ys us->xs=ys
 |_,_,_,.nil,.nil=>rfl
 |_,_,_,.cons r t,.cons r' t'=>by rw[r.inj r',Vals.inj t t']
section
variable {X:Cx}{pins:List (Addr×Obj)}{σ:St}{H:Hp}{s:Shared}{a:Addr}{xs ys:List V}
def SqL.of{K:Frag}(h:H a=some (.lst xs)):SqL K H a xs:=.inl (.inl h)
def SqT.of{K:Frag}(h:H a=some (.tup xs)):SqT K H a xs:=.inl (.inl h)
theorem Inv.list(I:Inv X pins σ H s)(h:SqL X.K H a xs):∃its:List Value,Vals xs its/\PlainL s.heap a its.toArray/\xs.length<=sizeLine:=by
 rcases h with h |⟨o,its,n,hk,hc,hd,hs,hz,r⟩
 . obtain⟨z,its,n,r,e⟩:=h.ok I.hok;exact⟨its,r,⟨_,n,e,rfl,rfl,rfl⟩,z⟩
 . refine⟨its.toList,r,⟨o,n,I.kIn a o hk,hc,hd,by simpa using hs⟩,?_⟩;have e:=r.length;simp only[ES]at e
   lia
theorem Inv.tuple(I:Inv X pins σ H s)(h:SqT X.K H a xs):∃its:List Value,Vals xs its/\IsTup s.heap a its.toArray/\xs.length<=sizeLine:=by
 rcases h with h |⟨o,its,n,hk,hc,hs,hz,r⟩
 . obtain⟨z,its,r,p⟩:=h.ok I.hok;exact⟨its,r,p.tup,z⟩
 . refine⟨its.toList,r,⟨o,I.kIn a o hk,hc,n,by simpa using hs⟩,?_⟩;have e:=r.length;simp only[ES]at e
   lia
def Inv.list_inj(I:Inv X pins σ H s)(h:SqL X.K H a xs)(h':SqL X.K H a ys):xs=ys:=by
 obtain⟨its,r,⟨o,n,e,_,_,d⟩,_⟩:=I.list h;obtain⟨its',r',⟨o',n',e',_,_,d'⟩,_⟩:=I.list h';rw[e]at e';cases e';rw[d]at d';injection d' with d1 _;have:its=its':=by simpa using DI Array.toList d1
 subst this;exact r.inj r'
def Inv.tuple_inj(I:Inv X pins σ H s)(h:SqT X.K H a xs)(h':SqT X.K H a ys):xs=ys:=by
 obtain⟨its,r,⟨o,e,_,n,d⟩,_⟩:=I.tuple h;obtain⟨its',r',⟨o',e',_,n',d'⟩,_⟩:=I.tuple h';rw[e]at e';cases e';rw[d]at d';injection d' with d1 _;have:its=its':=by simpa using DI Array.toList d1
 subst this;exact r.inj r'
end
section
variable {X:Cx}{st:Stmt}{rest:List Stmt}{t u:TS}{e:Expr}{te:TE}{pos:Pos}
noncomputable def Qg:TS:=fun D σ H=>D.nx σ H
noncomputable def Gh(t u:TS):TS:=fun D σ H=>t { D with nx:=u D } σ H
def pss_nil:PSs X [] Qg:=fun _ _ σ H _ I h=>wpAny_execs_nil ⟨σ,H,I,h⟩
def Eu(h1:PS X st t)(h2:PSs X rest u):PSs X (st::rest) (Gh t u):=by
 intro pins s σ H D I h;refine wpAny_execs_cons (thn (h1 pins s σ H { D with nx:=u D } I h) fun f s1 q=>?_);cases f with
 |next=>
  obtain⟨ac,H',I',q⟩:=q
  exact h2 pins s1 ac H' D I' q
 |ret v=>exact q
 |brk=>exact q
 |cont=>exact q
def Ko(h1:PS X st t):PSs X [st] t:=by
 intro pins s σ H D I h;refine wpAny_execs_cons (thn (h1 pins s σ H D I h) fun f s1 q=>?_);cases f with
 |next=>exact wpAny_execs_nil q
 |ret v=>exact q
 |brk=>exact q
 |cont=>exact q
def Inv.quiet(I:Inv X pins σ H s):interactive X.env=false:=by simp[interactive,I.ok.kind]
noncomputable def T1(te:TE):TS:=fun D σ H=>te σ H fun _ H1=>D.nx σ H1
def Kn(he:PE X e te)(hs:swapsWith e none pos.line X.env=pure false:=by rfl):PS X (.Expr e pos) (T1 te):=by intro pins s σ H D I h;exact wpAny_Expr_any (thn (he pins s σ H _ I h) fun v s1 ⟨x,H1,I1,r1,q1⟩=>⟨σ,H1,I1,q1⟩) I.quiet hs
noncomputable def Pc(te:TE):TS:=fun D σ H=>te σ H D.rt
def Jq(he:PE X e te):PS X (.Return (some e) pos) (Pc te):=by intro pins s σ H D I h;exact wpAny_Return_some (thn (he pins s σ H _ I h) fun v s1 ⟨x,H1,I1,r1,q1⟩=>⟨x,σ,H1,I1,r1,q1⟩)
noncomputable def qA(c:TT)(t u:TS):TS:=fun D σ H=>c σ H fun b H1=>if b=true then t D σ H1 else u D σ H1
def Qf(hc:PT X c tc)(ha:PSs X a t)(hb:PSs X b u):PS X (.If c a b pos) (qA tc t u):=by
 intro pins s σ H D I h;refine wpAny_If (thn (hc pins s σ H _ I h) fun d s1 ⟨H1,I1,q1⟩=>?_);cases d with
 |true=>exact ha pins s1 σ H1 D I1 q1
 |false=>exact hb pins s1 σ H1 D I1 q1
noncomputable def Ti:TS:=fun _ _ _=>False
def ps_never:PS X st Ti:=fun _ _ _ _ _ _ h=>h.elim
end
abbrev TG:=V->St->Hp->(St->Hp->Prop)->Prop
abbrev TGs:=List V->St->Hp->(St->Hp->Prop)->Prop
def PG(X:Cx)(target:Expr)(t:TG):Prop:=
 ∀(pins:List (Addr×Obj))(s:Shared)(σ:St)(H:Hp)(v:V)(u:Value)(Q:St->Hp->Prop),Inv X pins σ H s->RelV v u->t v σ H Q ->
  wpAny (model X.prog X.w) X.A (assign target X.env u) (fun _ s'=>∃ac H',Inv X pins ac H' s'/\Q ac H') X.xe s
def PGs(X:Cx)(ts:List Expr)(t:TGs):Prop:=
 ∀(pins:List (Addr×Obj))(s:Shared)(σ:St)(H:Hp)(vs:List V)(us:List Value)(Q:St->Hp->Prop),Inv X pins σ H s->Vals vs us->t vs σ H Q ->
  wpAny (model X.prog X.w) X.A (assignInOrder ((assignEach ts X.env).map (·.2)) us) (fun _ s'=>∃ac H',Inv X pins ac H' s'/\Q ac H') X.xe s
abbrev R6:=V->V->V->Hp->(Hp->Prop)->Prop
def Gg(X:Cx)(t:R6):Prop:=
 ∀(pins:List (Addr×Obj))(s:Shared)(σ:St)(H:Hp)(o i v:V)(ov iv u:Value)(Q:Hp->Prop),Inv X pins σ H s->RelV o ov->RelV i iv->RelV v u->t o i v H Q ->
  wpAny (model X.prog X.w) X.A (setItem ov iv u) (fun _ s'=>∃H',Inv X pins σ H' s'/\Q H') X.xe s
abbrev TIp:=V->V->Hp->VK->Prop
def PIp(X:Cx)(op:Operator)(t:TIp):Prop:=
 ∀(pins:List (Addr×Obj))(s:Shared)(σ:St)(H:Hp)(x y:V)(v u:Value)(Q:VK),Inv X pins σ H s->RelV x v->RelV y u->t x y H Q ->
  wpAny (model X.prog X.w) X.A (inplaceOp op v u) (EP X pins σ Q) X.xe s
section
variable {X:Cx}{pos:Pos}
noncomputable def u8(i:Nat):TG:=fun v σ H Q=>Q (σ.set i (some v)) H
def Ei(hN:X.N.Nodup)(hi:X.N[i]?=some x)(hx:Loc X.env.scope x)(hf:X.fn x=true\/X.env.scope.names.lookup x=some .local):PG X (.Name x pos) (u8 i):=by intro pins s σ H v u Q I r h;exact wpAny_assign_Name (Xe I hN hi hx r (fun s' I'=>⟨_,H,I',h⟩) hf)
noncomputable def Pb:TGs:=fun vs σ H Q=>vs=[]/\Q σ H
noncomputable def Y9(t:TG)(u:TGs):TGs:=fun vs σ H Q=>∃v r,vs=v::r/\t v σ H fun ac H'=>u r ac H' Q
def pgs_nil:PGs X [] Pb:=by intro pins s σ H vs us Q I r h;obtain⟨e,h⟩:=h;subst e;cases r;exact assignInOrder_nil ⟨σ,H,I,h⟩
def Lh(h1:PG X e t)(h2:PGs X es u)
  (hs:(assignEach (e::es) X.env).map (·.2)=assign e X.env::(assignEach es X.env).map (·.2):=by rfl):PGs X (e::es) (Y9 t u):=by
 intro pins s σ H vs us Q I r h
 obtain⟨v,vr,e1,h⟩:=h
 subst e1
 cases r with
 |cons r rr=>
  rw[hs]
  refine assignInOrder_cons (thn (h1 pins s σ H _ _ _ I r h) fun _ s1 ⟨cQ,H1,I1,q1⟩=>?_)
  exact h2 pins s1 cQ H1 _ _ Q I1 rr q1
def Pa(K:Frag)(n:Nat)(t:TGs):TG:=fun v σ H Q=>∃a xs,v=.ref a/\SqT K H a xs/\xs.length=n/\t xs σ H Q
def Th(hc:X.calm=true)(h:PGs X es t)
  (hn:(assignEach es X.env).length=n:=by rfl) (aU:(assignEach es X.env).findIdx? (·.1)=none:=by rfl):PG X (.Tuple es k pos) (Pa X.K n t):=by
 intro pins s σ H v u Q I r hw
 obtain⟨a,xs,e1,hq,hl,hw⟩:=hw
 subst e1
 cases r
 obtain⟨its,rv,ht,hz⟩:=I.tuple hq
 refine assign_Tuple_tuple (I.ok.hd hc) ht (by simp[hn,<-hl,rv.length]) aU fun h' hx=>?_
 have I1:Inv X pins σ H { s with heap:=h' }:=I.kept (t':=s.toks) fun b o e=>hx b o (CC (π e)) e
 exact h pins _ σ H xs _ Q I1 (by simpa using rv) hw
noncomputable def Gf(to ti:TE)(t:R6):TG:=fun v σ H Q=>to σ H fun o H1=>ti σ H1 fun i H2=>t o i v H2 fun H3=>Q σ H3
def wm(ho:PE X o to)(hi:PE X i ti)(hs:Gg X t)
  (ha:∀v,assign (.Subscript o i pos) X.env v=(do
   let ov <-holding [v] (eval o X.env)
   let iv <-holding [v,ov] (eval i X.env)
   standAt pos
   holding [v,ov,iv] (setItem ov iv v)
   release [v,ov,iv] []):=by intro _;rfl):PG X (.Subscript o i pos) (Gf to ti t):=by
 intro pins s σ H v u Q I r h
 rw[ha]
 refine δ (DM (thn (ho pins s σ H _ I h) fun ov s1 ⟨x,H1,I1,r1,q1⟩=>?_))
 refine δ (DM (thn (hi pins s1 σ H1 _ I1 q1) fun iv s2 ⟨y,H2,I2,r2,q2⟩=>?_))
 refine δ (wpAny_standAt (δ (DM (thn (hs pins s2 σ H2 x y v ov iv u _ I2 r1 r2 r q2) fun _ s3 ⟨H3,I3,q3⟩=>?_))))
 exact wpAny_release ⟨σ,H3,I3,q3⟩
noncomputable def B8(te:TE)(g:TG):TS:=fun D σ H=>te σ H fun x H1=>g x σ H1 D.nx
def wl(he:PE X e te)(hg:PG X tg g)(hs:swapsWithSole [tg] e pos.line X.env=pure false:=by rfl)(hw:swappedStores [tg] e X.env=pure none:=by rfl)
  (h1:(assignEach [tg] X.env).map (·.2)=[assign tg X.env]:=by rfl):PS X (.Assign [tg] e pos) (B8 te g):=by
 intro pins s σ H D I h
 refine wpAny_Assign_stores (thn (he pins s σ H _ I h) fun v s1 ⟨x,H1,I1,r1,q1⟩=>?_) hs hw
 rw[h1]
 exact thn (hg pins s1 σ H1 x v _ I1 r1 q1) fun _ s2 q=>q
def Jp(hN:X.N.Nodup)(hi:X.N[i]?=some x)(hx:Loc X.env.scope x)(he:PE X e te)(hs:swapsWith e (some (.Name x aF)) pos.line X.env=pure false:=by rfl)(hf:X.fn x=true\/X.env.scope.names.lookup x=some .local) :
  PS X (.Assign [.Name x aF] e pos) (B8 te (u8 i)):=by
 intro pins s σ H D I h
 refine wpAny_Assign_Name (thn (he pins s σ H _ I h) fun v s1 ⟨y,H1,I1,r1,q1⟩=>?_) hs
 exact Xe I1 hN hi hx r1 (fun s2 I2=>⟨_,H1,I2,q1⟩) hf
noncomputable def Hm(to ti te:TE)(gm:V->V->Hp->VK->Prop)(lU:TIp)(gn:R6):TS:=fun D σ H=>to σ H fun o H1=>ti σ H1 fun i H2=>gm o i H2 fun x H3=>te σ H3 fun y H4=>lU x y H4 fun z H5=>gn o i z H5 fun H6=>D.nx σ H6
def qz(X:Cx)(t:V->V->Hp->VK->Prop):Prop:=
 ∀(pins:List (Addr×Obj))(s:Shared)(σ:St)(H:Hp)(o i:V)(ov iv:Value)(Q:VK),Inv X pins σ H s->RelV o ov->RelV i iv->t o i H Q ->
  wpAny (model X.prog X.w) X.A (getItem ov iv) (EP X pins σ Q) X.xe s
def yD(ho:PE X o to)(hi:PE X i ti)(hg:qz X gm)(he:PE X e te)(hp:PIp X op lU)(hs:Gg X gn)
  (ha:∀ov iv new,augStore i ov iv new=(do holding [new,ov,iv] (setItem ov iv new);release [new,ov,iv] [];pure .next):=by intros;rfl):PS X (.AugAssign (.Subscript o i ay) op e pos) (Hm to ti te gm lU gn):=by
 intro pins s σ H D I h
 refine wpAny_AugAssign_SubscriptAny (thn (ho pins s σ H _ I h) fun ov s1 ⟨x1,H1,I1,r1,q1⟩=>?_) ha
 refine thn (hi pins s1 σ H1 _ I1 q1) fun iv s2 ⟨x2,H2,I2,r2,q2⟩=>?_
 refine thn (hg pins s2 σ H2 x1 x2 ov iv _ I2 r1 r2 q2) fun bC s3 ⟨x3,H3,I3,r3,q3⟩=>?_
 refine thn (he pins s3 σ H3 _ I3 q3) fun v s4 ⟨x4,H4,I4,r4,q4⟩=>?_
 refine thn (hp pins s4 σ H4 x3 x4 bC v _ I4 r3 r4 q4) fun new s5 ⟨x5,H5,I5,r5,q5⟩=>?_
 exact thn (hs pins s5 σ H5 x1 x2 x5 ov iv new _ I5 r1 r2 r5 q5) fun _ s6 ⟨H6,I6,q6⟩=>⟨σ,H6,I6,q6⟩
noncomputable def ipI(f:Int->Int->Int):TIp:=fun x y H Q=>∃i j,x=.int i/\y=.int j/\Q (.int (f i j)) H
def wj:PIp X .Add (ipI fun i j=>i+j):=by intro pins s σ H x y v u Q I r1 r2 h;obtain⟨i,j,e1,e2,q⟩:=h;subst e1;subst e2;obtain⟨t,rfl⟩:=r1;obtain⟨t',rfl⟩:=r2;exact iadd_int ⟨.int _,H,I.tok _,⟨_,rfl⟩,q⟩
end
section
variable {X:Cx}{pos:Pos}
noncomputable def Tf(c:TT)(tb:TS):TS:=fun D σ H=>∃W:Nat->St->Hp->Prop,(∃m,W m σ H)/\∀m σ H,W m σ H ->
 c σ H fun b H1=>if b=true then ∃N:St->Hp->Prop,(∀ac H',N ac H'->∃m',m'<m/\W m' ac H')/\tb { D with nx:=N,ct:=N,bk:=D.nx } σ H1 else D.nx σ H1
def zY(hp:PassesOwn (model X.prog X.w) X.A X.env X.xe)(hc:PT X c tc)(hb:PSs X body tb):PS X (.While c body [] pos) (Tf tc tb):=by
 intro pins s σ H D I h;obtain⟨W,⟨m0,w0⟩,turn⟩:=h;refine wpAny_While (codeAny_whileLoop (fun n s'=>∃ac H',Inv X pins ac H' s'/\W n ac H') ?_ m0 ⟨σ,H,I,w0⟩);rintro n s1 ⟨cQ,H1,I1,w1⟩;refine FT hp (thn (hc pins s1 cQ H1 _ I1 (turn n cQ H1 w1)) fun b s2 ⟨H2,I2,q2⟩=>?_);cases b with
 |true=>
  obtain⟨N,hN,q2⟩:=q2
  rw[ζ rfl]
  refine FT hp (thn (hb pins s2 cQ H2 _ I2 q2) fun f s3 q3=>?_)
  cases f with
  |next=>
   obtain⟨du,H3,I3,n3⟩:=q3
   obtain⟨m',hm,w3⟩:=hN du H3 n3
   exact⟨m',hm,du,H3,I3,w3⟩
  |cont=>
   obtain⟨du,H3,I3,n3⟩:=q3
   obtain⟨m',hm,w3⟩:=hN du H3 n3
   exact⟨m',hm,du,H3,I3,w3⟩
  |brk=>exact q3
  |ret v=>exact q3
 |false=>
  rw[ξ θ]
  exact wpAny_execs_nil ⟨cQ,H2,I2,q2⟩
end
structure It where
 go:Nat->Hp->Prop
 yld:Nat->Hp->V->Hp->Prop
 stop:Nat->Hp->Prop
def u4(X:Cx)(pins:List (Addr×Obj))(H:Hp)(b:Addr):Prop:=
 H b=none/\b≠X.env.locals/\b∉X.fs/\(b∈X.ex\/X.s₀.heap.objs.size<=b)/\(∀x c,X.env.cells.lookup x=some c->c≠b)/\∀p∈X.pn++pins,p.1≠b
def Inv.fpOk(I:Inv X pins σ H s)(hb:s.heap.objs.size<=b)(hn:H' b=none):u4 X pins H' b:=by
 refine⟨hn,Nat.ne_of_gt (CG I.lt hb),I.nofs hb,.inr (CD I.sz hb),fun x c e z=>?_,fun p hp z=>?_⟩
 . obtain⟨v,q⟩:=I.cell x c e;exact absurd (CG q.lt (by rw[z];exact hb)) (EA _)
 . exact absurd (CG (π (I.pin p hp).1) (by rw[z];exact hb)) (EA _)
structure Turn(P:Program)(w:World)(K:Frag)(tg:Expr)(J:It)(fp:List Addr)(it:Addr)(tn:Nat->Heap->Prop):Prop where
 mem:it∈fp
 obj:∀i h,tn i h->∀b∈fp,∃o,h.get? b=some o/\∀v,o.data≠.cell v
 keep:∀i h h',tn i h->(∀b∈fp,∀o,h.get? b=some o->h'.get? b=some o)->tn i h'
 item:∀(X:Cx),X.prog=P->X.w=w->X.K=K->X.calm=true->∀(i:Nat)(pins:List (Addr×Obj))(s:Shared)(σ:St)(H:Hp)(E:Value->Shared->Prop),Inv X pins σ H s->(∀b∈fp,u4 X pins H b)->tn i s.heap->J.go i H ->
  wpAny (model P w) X.A (pyNext (.ref it)) (fun r s1=>∃u,r=some u /\
   wpAny (model P w) X.A (letOwnedTupleGo tg (.ref it) u) (fun _ s2=>∃x H',Inv X pins σ H' s2/\RelV x u/\J.yld i H x H'/\tn (i+1) s2.heap/\∀b∈fp,H' b=none) E s1) E s
 done:∀(X:Cx),X.prog=P->X.w=w->X.K=K->X.calm=true->∀(i:Nat)(pins:List (Addr×Obj))(s:Shared)(σ:St)(H:Hp)(E:Value->Shared->Prop),Inv X pins σ H s->(∀b∈fp,u4 X pins H b)->tn i s.heap->J.stop i H ->
  wpAny (model P w) X.A (pyNext (.ref it)) (fun r s1=>r=none/\Inv X pins σ H s1) E s
 self:∀(A:Around)(i:Nat)(s:Shared)(Q:Value->Shared->Prop)(E:Value->Shared->Prop),tn i s.heap->Q (.ref it) s->wpAny (model P w) A (pyIter (.ref it)) Q E s
abbrev TI:=St->Hp->(It->Hp->Prop)->Prop
def PIE(X:Cx)(pins:List (Addr×Obj))(σ:St)(tg:Expr)(R:It->Hp->Prop)(gG:Value)(s2:Shared):Prop:=
 ∃(it:Addr)(fp:List Addr)(tn:Nat->Heap->Prop)(J:It)(H':Hp),gG=.ref it/\Inv X pins σ H' s2/\Turn X.prog X.w X.K tg J fp it tn/\tn 0 s2.heap/\(∀b∈fp,u4 X pins H' b)/\R J H'
def PI(X:Cx)(tg iter:Expr)(wi:TI):Prop:=
 ∀(pins:List (Addr×Obj))(s:Shared)(σ:St)(H:Hp)(R:It->Hp->Prop),Inv X pins σ H s->wi σ H R ->
  wpAny (model X.prog X.w) X.A (eval iter X.env) (fun v s1=>wpAny (model X.prog X.w) X.A (pyIter v) (PIE X pins σ tg R) X.xe s1) X.xe s
def Cv(ho:s.heap.get? it=some o)(hc:o.cls=.type n)(hd:o.data=.fields vs)
  (hn:["enumerate","zip","dict_itemiterator","dict_reverseitemiterator","odict_iterator","itertools.zip_longest","itertools.pairwise"].contains n=false) (hQ:Q () s):wpAny M A (letOwnedTupleGo tg (.ref it) u) Q E s:=by
 unfold letOwnedTupleGo
 cases tg<;>first
  |exact ω hQ
  | (cases u<;>first
   |exact ω hQ
   | (refine δ (wpAny_load ho ?_)
      rw[hc,hd]
      show wpAny M A (if(["enumerate","zip","dict_itemiterator","dict_reverseitemiterator","odict_iterator","itertools.zip_longest","itertools.pairwise"].contains n&&vs[0]?==some (rawInt _))=true then _ else _) Q E s
      rw[ξ (by intro h;rw[hn,Bool.false_and]at h;cases h)]
      exact ω hQ))
def Itl(K:Frag)(a:Addr):It:=
 ⟨fun i H=>∃xs x,SqL K H a xs/\xs[i]?=some x,fun i H x H'=>H'=H/\∀xs,SqL K H a xs->xs[i]?=some x,fun i H=>∃xs,SqL K H a xs/\xs.length<=i⟩
def Itt(K:Frag)(a:Addr):It:=
 ⟨fun i H=>∃xs x,SqT K H a xs/\xs[i]?=some x,fun i H x H'=>H'=H/\∀xs,SqT K H a xs->xs[i]?=some x,fun i H=>∃xs,SqT K H a xs/\xs.length<=i⟩
noncomputable def Itr(lo:Int)(n:Nat):It:=⟨fun i _=>i<n,fun i H x H'=>H'=H/\x=.int (lo+i),fun i _=>n<=i⟩
def zjp{P:Program}{w:World}{K:Frag}{tg:Expr}(a it:Addr):Turn P w K tg (Itl K a) [it] it (fun i h=>h.IsListIter it a i) where
 mem:=by simp
 obj:=fun i h st b hb=>by
  have e:b=it:=by simpa using hb
  subst e;obtain⟨o,e,c,d⟩:=st;exact⟨o,e,fun v z=>by rw[d]at z;cases z⟩
 keep:=fun i h h' st k=>st.at fun o e=>k it (by simp) o e
 item:=by
  intro X hP hw hK hc i pins s σ H E I hf st hg;subst hP hw hK;obtain⟨xs,x,hq,hx⟩:=hg;obtain⟨its,rv,p,hz⟩:=I.list hq;obtain⟨u,hu,ru⟩:=rv.get hx;obtain⟨f0,f1,f2,f3,f4,f5⟩:=hf it (by simp);refine wpAny_pyNext_list_item st p.isList (x:=u) (by simpa using hu) fun h' st' sb=>?_
  have I1:Inv X pins σ H { s with heap:=h' }:=I.turned (t':=s.toks) (fun b o hb e=>(sb.2 b hb).trans e) f0 f1 f3 f4 f5;obtain⟨o,e,c,d⟩:=id st';exact⟨u,rfl,Cv (s:={ s with heap:=h' }) e c d (by decide) ⟨x,H,I1,ru,⟨rfl,fun ys hy=>by rw[I.list_inj hy hq];exact hx⟩,st',fun b hb=>(hf b hb).1⟩⟩
 done:=by intro X hP hw hK hc i pins s σ H E I hf st hg;subst hP hw hK;obtain⟨xs,hq,hx⟩:=hg;obtain⟨its,rv,p,hz⟩:=I.list hq;obtain⟨f0,f1,f2,f3,f4,f5⟩:=hf it (by simp);have hl:=rv.length;exact wpAny_pyNext_list_end (I.ok.hd hc) st p.isList (by simp;lia) fun h' eb=>⟨rfl,I.turned (t':=s.toks) (fun b o hb e=>eb b o hb e) f0 f1 f3 f4 f5⟩
 self:=fun _ _ _ _ _ st h=>wpAny_pyIter_listiter st h
def zi9{P:Program}{w:World}{K:Frag}{tg:Expr}(a it:Addr):Turn P w K tg (Itt K a) [it] it (fun i h=>h.IsTupleIter it a i) where
 mem:=by simp
 obj:=fun i h st b hb=>by
  have e:b=it:=by simpa using hb
  subst e;obtain⟨o,e,c,d⟩:=st;exact⟨o,e,fun v z=>by rw[d]at z;cases z⟩
 keep:=fun i h h' st k=>st.at fun o e=>k it (by simp) o e
 item:=by
  intro X hP hw hK hc i pins s σ H E I hf st hg;subst hP hw hK;obtain⟨xs,x,hq,hx⟩:=hg;obtain⟨its,rv,p,hz⟩:=I.tuple hq;obtain⟨u,hu,ru⟩:=rv.get hx;obtain⟨f0,f1,f2,f3,f4,f5⟩:=hf it (by simp);refine wpAny_pyNext_tuple_item st (show s.heap.IsTuple a its.toArray from p) (x:=u) (by simpa using hu) fun h' st' sb=>?_
  have I1:Inv X pins σ H { s with heap:=h' }:=I.turned (t':=s.toks) (fun b o hb e=>(sb.2 b hb).trans e) f0 f1 f3 f4 f5;obtain⟨o,e,c,d⟩:=id st';exact⟨u,rfl,Cv (s:={ s with heap:=h' }) e c d (by decide) ⟨x,H,I1,ru,⟨rfl,fun ys hy=>by rw[I.tuple_inj hy hq];exact hx⟩,st',fun b hb=>(hf b hb).1⟩⟩
 done:=by intro X hP hw hK hc i pins s σ H E I hf st hg;subst hP hw hK;obtain⟨xs,hq,hx⟩:=hg;obtain⟨its,rv,p,hz⟩:=I.tuple hq;obtain⟨f0,f1,f2,f3,f4,f5⟩:=hf it (by simp);have hl:=rv.length;exact wpAny_pyNext_tuple_end (I.ok.hd hc) st (show s.heap.IsTuple a its.toArray from p) (by simp;lia) fun h' eb=>⟨rfl,I.turned (t':=s.toks) (fun b o hb e=>eb b o hb e) f0 f1 f3 f4 f5⟩
 self:=fun _ _ _ _ _ st h=>wpAny_pyIter_tupleiter st h
def zia{P:Program}{w:World}{K:Frag}{tg:Expr}(it:Addr)(lo:Int)(n:Nat):Turn P w K tg (Itr lo n) [it] it (fun i h=>IsRangeIter h it (lo+(i:Nat) * 1) ((n:Int) - (i:Nat)) 1) where
 mem:=by simp
 obj:=fun i h st b hb=>by
  have e:b=it:=by simpa using hb
  subst e;exact⟨_,st,fun v z=>by have z':Data.fields _=Data.cell v:=z;cases z'⟩
 keep:=fun i h h' st k=>k it (by simp) _ st
 item:=by
  intro X hP hw hK hc i pins s σ H E I hf st hg;subst hP hw hK;obtain⟨f0,f1,f2,f3,f4,f5⟩:=hf it (by simp);have W:=Walks.range (prog:=X.prog) (w:=X.w) (I.ok.hd hc) it lo 1 n;refine W.item i s _ _ hg st fun v h' tk hv st' kk=>?_
  obtain⟨t,rfl⟩:=hv;have I1:Inv X pins σ H { s with heap:=h',toks:=tk }:=I.turned (fun b o hb e=>kk b o (by simpa using hb) e) f0 f1 f3 f4 f5;refine⟨_,rfl,Cv (s:={ s with heap:=h',toks:=tk }) (n:="range_iterator") st' rfl rfl (by decide) ⟨.int (lo+i),H,I1,⟨t,?_⟩,⟨rfl,rfl⟩,st',fun b hb=>(hf b hb).1⟩⟩;rw[Int.mul_one]
 done:=by intro X hP hw hK hc i pins s σ H E I hf st hg;subst hP hw hK;obtain⟨f0,f1,f2,f3,f4,f5⟩:=hf it (by simp);exact wpAny_pyNext_range_end (I.ok.hd hc) st (by have:n<=i:=hg;lia) fun h' eb=>⟨rfl,I.turned (t':=s.toks) (fun b o hb e=>eb b o hb e) f0 f1 f3 f4 f5⟩
 self:=fun _ _ _ _ _ st h=>wpAny_pyIter_rangeiter st h
section
variable {X:Cx}{tg:Expr}
def zX{pins:List (Addr×Obj)}{σ:St}{H:Hp}{s:Shared}{R:It->Hp->Prop}{E:Value->Shared->Prop}{lo hi:Int}{t u v:Tok}{tk:Nat}(I:Inv X pins σ H s)(h1:-(2 ^ 62)<=lo)(h2:lo<2 ^ 62)(h3:-(2 ^ 62)<=hi)(h4:hi<2 ^ 62)
  (q:R (Itr lo (hi - lo).toNat) H):wpAny (model X.prog X.w) X.A (pyIter (.ref s.heap.objs.size)) (PIE X pins σ tg R) E { s with heap:=s.heap.push { cls:=.type "range",data:=.fields #[.int lo t,.int hi u,.int 1 v] },toks:=tk }:=by
 refine wpAny_pyIter_range (IsRange.new ..) (small_one h1 h2 h3 h4) ?_
 have I1:Inv X pins σ H { s with heap:=s.heap.push { cls:=.type "range",data:=.fields #[.int lo t,.int hi u,.int 1 v] },toks:=tk }:=I.kept fun b o e=>τ _ e
 refine⟨(s.heap.push { cls:=.type "range",data:=.fields #[.int lo t,.int hi u,.int 1 v] }).objs.size,[(s.heap.push { cls:=.type "range",data:=.fields #[.int lo t,.int hi u,.int 1 v] }).objs.size],_,_,H,rfl,
  I1.kept (t':=tk) fun b o e=>τ _ e,zia _ lo (hi - lo).toNat,?_,fun b hb=>?_,q⟩
 . have e1:lo+((0:Nat):Int) * 1=lo:=by simp
   have e2:(((hi - lo).toNat:Nat):Int) - ((0:Nat):Int)=Builtin.Range.rangeSize lo hi 1:=by rw[rangeSize_one];split<;>lia
   show IsRangeIter _ _ (lo+((0:Nat):Int) * 1) ((((hi - lo).toNat:Nat):Int) - ((0:Nat):Int)) 1;rw[e1,e2];exact Ψ _ rfl
 . have e:b=(s.heap.push { cls:=.type "range",data:=.fields #[.int lo t,.int hi u,.int 1 v] }).objs.size:=by simpa using hb
   subst e;exact I1.fpOk (η _) (I1.hok.fresh (η _))
noncomputable def y7r(wi:TI)(g:TG)(tb:TS):TS:=fun D σ H=>wi σ H fun J H1=>∃W:Nat->Nat->St->Hp->Prop,(∃m,W 0 m σ H1)/\∀i m σ H,W i m σ H ->
 (J.stop i H/\D.nx σ H)\/(J.go i H/\∃N:St->Hp->Prop,(∀ac H',N ac H'->∃m',m'<m/\W (i+1) m' ac H')/\∀x H',J.yld i H x H'->g x σ H' fun aV H2=>tb { D with nx:=N,ct:=N,bk:=D.nx } aV H2)
noncomputable def Ah(fp:List Addr)(h:Heap):List (Addr×Obj):=fp.filterMap fun b=>(h.get? b).map fun o=>(b,o)
def Fd(hb:b∈fp)(e:h.get? b=some o):(b,o)∈Ah fp h:=FK.mpr ⟨b,hb,by rw[e];rfl⟩
def zjq(hp:p∈Ah fp h):p.1∈fp/\h.get? p.1=some p.2:=by
 obtain⟨b,hb,e⟩:=FK.mp hp;cases q:h.get? b with
 |none=>rw[q]at e;cases e
 |some o=>
  rw[q]at e
  have e':(b,o)=p:=Option.some.inj e
  subst e'
  exact⟨hb,q⟩
def Inv.pinned(I:Inv X pins σ H s)(hf:∀b∈fp,u4 X pins H b)(ho:∀b∈fp,∃o,s.heap.get? b=some o/\∀v,o.data≠.cell v):Inv X (pins++Ah fp s.heap) σ H s:=
 I.pins_of fun p hp=>(CN.mp hp).elim (fun z=>I.pin p (CK _ z)) fun z=>by obtain⟨hb,e⟩:=zjq z;obtain⟨f0,f1,f2,_⟩:=hf p.1 hb;obtain⟨o,e',d⟩:=ho p.1 hb;rw[e]at e';cases e';exact⟨e,f0,f1,f2,d⟩
def Inv.unpinned(I:Inv X (pins++pl) σ H s):Inv X pins σ H s:=I.pins_of fun p hp=>I.pin p (CK _ (EC _ hp))
def wg(hp:PassesOwn (model X.prog X.w) X.A X.env X.xe)(hc:X.calm=true)(hi:PI X tg iter wi)(hg:PG X tg g)(hb:PSs X body tb)
  (hs:∀x,foldedSetIterable iter X.env x=pure x:=by intro _;rfl):PS X (.For tg iter body [] pos) (y7r wi g tb):=by
 intro pins s σ H D I h
 refine wpAny_For (thn (hi pins s σ H _ I h) fun v s1 h1=>thn h1 fun gG s2 h2=>?_) hs
 obtain⟨it,fp,tn,J,H2,e,I2,T,aB,f2,W,⟨m0,w0⟩,turn⟩:=h2
 subst e
 have dq:∀{H':Hp},(∀b∈fp,H' b=none)->∀b∈fp,u4 X pins H' b:=fun hn b hb=>⟨hn b hb,(f2 b hb).2⟩
 refine codeAny_forLoop_any (fun n s'=>∃i ac H',Inv X pins ac H' s'/\tn i s'.heap/\(∀b∈fp,H' b=none)/\W i n ac H') ?_ m0 ⟨0,σ,H2,I2,aB,fun b hb=>(f2 b hb).1,w0⟩
 rintro n s3 ⟨i,du,H3,I3,dF,fr3,w3⟩
 rcases turn i n du H3 w3 with⟨stop,qn⟩ |⟨go,N,hN,step⟩
 . refine FT hp (thn (T.done X rfl rfl rfl hc i pins s3 du H3 X.xe I3 (dq fr3) dF stop) fun r s4 ⟨hr,I4⟩=>?_);subst hr;exact wpAny_execs_nil ⟨du,H3,I4,qn⟩
 . refine FT hp (thn (T.item X rfl rfl rfl hc i pins s3 du H3 X.xe I3 (dq fr3) dF go) fun r s4 ⟨u,hr,h4⟩=>?_);subst hr;refine FT hp (thn h4 fun _ s5 ⟨x,H5,I5,r5,y5,fN,iy⟩=>?_);have rj:=I5.pinned (dq iy) (T.obj _ _ fN);refine FT hp (thn (hg _ s5 du H5 x u _ rj r5 (step x H5 y5)) fun _ s6 ⟨rn,H6,I6,q6⟩=>?_);refine FT hp (thn (hb _ s6 rn H6 _ I6 q6) fun f s7 q7=>?_);have again:∀{dw:St}{H7:Hp},Inv X (pins++Ah fp s5.heap) dw H7 s7->N dw H7->∃m,m<n/\∃i ac H',Inv X pins ac H' s7/\tn i s7.heap/\(∀b∈fp,H' b=none)/\W i m ac H':=fun {dw H7} I7 n7=>by obtain⟨m',hm,w7⟩:=hN dw H7 n7;refine⟨m',hm,i+1,dw,H7,I7.unpinned,T.keep _ _ _ fN fun b hb o e=>(I7.pin (b,o) (CK _ (CK _ (Fd hb e)))).1,fun b hb=>?_,w7⟩;obtain⟨o,e,d⟩:=T.obj _ _ fN b hb;exact(I7.pin (b,o) (CK _ (CK _ (Fd hb e)))).2.1
   cases f with
   |next=>obtain⟨dw,H7,I7,n7⟩:=q7;exact again I7 n7
   |cont=>obtain⟨dw,H7,I7,n7⟩:=q7;exact again I7 n7
   |brk=>obtain⟨dw,H7,I7,q7⟩:=q7;exact⟨dw,H7,I7.unpinned,q7⟩
   |ret v=>obtain⟨x7,dw,H7,I7,r7,q7⟩:=q7;exact⟨x7,dw,H7,I7.unpinned,r7,q7⟩
end
abbrev R2:=V->V->Hp->VK->Prop
def OpR(X:Cx)(f:Value->Value->Sem Value)(r:R2):Prop:=
 ∀(pins:List (Addr×Obj))(s:Shared)(σ:St)(H:Hp)(x y:V)(v u:Value)(Q:VK),Inv X pins σ H s->RelV x v->RelV y u->r x y H Q ->
  wpAny (model X.prog X.w) X.A (f v u) (EP X pins σ Q) X.xe s
def UnR(X:Cx)(f:Value->Sem Value)(r:V->Hp->VK->Prop):Prop:=
 ∀(pins:List (Addr×Obj))(s:Shared)(σ:St)(H:Hp)(x:V)(v:Value)(Q:VK),Inv X pins σ H s->RelV x v->r x H Q ->
  wpAny (model X.prog X.w) X.A (f v) (EP X pins σ Q) X.xe s
def CallR(X:Cx)(f:Value)(r:List V->Hp->VK->Prop):Prop:=
 ∀(pins:List (Addr×Obj))(s:Shared)(σ:St)(H:Hp)(xs:List V)(us:List Value)(Q:VK),Inv X pins σ H s->Vals xs us->r xs H Q ->
  wpAny (model X.prog X.w) X.A (call f us) (EP X pins σ Q) X.xe s
def y7s(X:Cx)(r:V->Hp->(Bool->Hp->Prop)->Prop):Prop:=
 ∀(pins:List (Addr×Obj))(s:Shared)(σ:St)(H:Hp)(x:V)(v:Value)(Q:Bool->Hp->Prop),Inv X pins σ H s->RelV x v->r x H Q ->
  wpAny (model X.prog X.w) X.A (truthy v) (TP X pins σ Q) X.xe s
noncomputable def tOp(r:R2)(ta tb:TE):TE:=fun σ H Q=>ta σ H fun x H1=>tb σ H1 fun y H2=>r x y H2 Q
noncomputable def tUn(r:V->Hp->VK->Prop)(ta:TE):TE:=fun σ H Q=>ta σ H fun x H1=>r x H1 Q
noncomputable def rI(C:Int->Int->Prop)(g:Int->Int->V):R2:=fun x y H Q=>∃i j,x=.int i/\y=.int j/\C i j/\Q (g i j) H
noncomputable def rI0(g:Int->Int->V):R2:=fun x y H Q=>∃i j,x=.int i/\y=.int j/\Q (g i j) H
def rU(g:Int->V):V->Hp->VK->Prop:=fun x H Q=>∃i,x=.int i/\Q (g i) H
section
variable {X:Cx}{a b:Expr}{ta tb:TE}{pos:Pos}
def Oz(ha:PE X a ta)(hb:PE X b tb){pins:List (Addr×Obj)}{s:Shared}{σ:St}{H:Hp}{R:V->V->Hp->Prop}(I:Inv X pins σ H s)
  (h:ta σ H fun x H1=>tb σ H1 fun y H2=>R x y H2) {Q:Value->Shared->Prop} {f:Value->Value->Sem Value}
  (hf:∀v u s2 x y H2,Inv X pins σ H2 s2->RelV x v->RelV y u->R x y H2->wpAny (model X.prog X.w) X.A (f v u) Q X.xe s2) :
  wpAny (model X.prog X.w) X.A (eval a X.env) (fun v af=>wpAny (model X.prog X.w) X.A (eval b X.env) (fun u bp=>wpAny (model X.prog X.w) X.A (f v u) Q X.xe bp) X.xe af) X.xe s:=by
 refine thn (ha pins s σ H _ I h) fun v s1 ⟨x,H1,I1,r1,q1⟩=>?_
 refine thn (hb pins s1 σ H1 _ I1 q1) fun u s2 ⟨y,H2,I2,r2,q2⟩=>?_
 exact hf v u s2 x y H2 I2 r1 r2 q2
def y3c(ho:OpR X (binaryOp op) r)(ha:PE X a ta)(hb:PE X b tb):PE X (.BinOp a op b pos) (tOp r ta tb):=by intro pins s σ H Q I h;exact wpAny_BinOp (Oz ha hb I h fun v u s2 x y H2 I2 rx ry q=>ho pins s2 σ H2 x y v u Q I2 rx ry q)
def y3d(ho:UnR X (unaryOp op) r)(ha:PE X a ta):PE X (.UnaryOp op a pos) (tUn r ta):=by intro pins s σ H Q I h;exact UnaryOp_ (thn (ha pins s σ H _ I h) fun v s1 ⟨x,H1,I1,r1,q1⟩=>ho pins s1 σ H1 x v Q I1 r1 q1)
def opI{f:Value->Value->Sem Value}{C:Int->Int->Prop}{g:Int->Int->Int}
  (rule:∀(i j:Int)(t u:Tok)(s:Shared)(Q:Value->Shared->Prop)(E:Value->Shared->Prop),C i j->Q (.int (g i j) s.toks) { s with toks:=s.toks+1 }->wpAny (model X.prog X.w) X.A (f (.int i t) (.int j u)) Q E s) :
  OpR X f (rI C fun i j=>.int (g i j)):=by
 intro pins s σ H x y v u Q I rx ry h
 obtain⟨i,j,rfl,rfl,hc,q⟩:=h
 obtain⟨t,rfl⟩:=rx
 obtain⟨t',rfl⟩:=ry
 exact rule i j t t' s _ _ hc ⟨.int (g i j),H,I.tok _,⟨_,rfl⟩,q⟩
def qy{f:Value->Value->Sem Value}{g:Int->Int->Int}
  (rule:∀(i j:Int)(t u:Tok)(s:Shared)(Q:Value->Shared->Prop)(E:Value->Shared->Prop),Q (.int (g i j) s.toks) { s with toks:=s.toks+1 }->wpAny (model X.prog X.w) X.A (f (.int i t) (.int j u)) Q E s) :
  OpR X f (rI0 fun i j=>.int (g i j)):=by
 intro pins s σ H x y v u Q I rx ry h
 obtain⟨i,j,rfl,rfl,q⟩:=h
 obtain⟨t,rfl⟩:=rx
 obtain⟨t',rfl⟩:=ry
 exact rule i j t t' s _ _ ⟨.int (g i j),H,I.tok _,⟨_,rfl⟩,q⟩
def Ge{f:Value->Value->Sem Value}{g:Int->Int->Bool}
  (rule:∀(i j:Int)(t u:Tok)(s:Shared)(Q:Value->Shared->Prop)(E:Value->Shared->Prop),Q (.bool (g i j)) s->wpAny (model X.prog X.w) X.A (f (.int i t) (.int j u)) Q E s) :
  OpR X f (rI0 fun i j=>.bl (g i j)):=by
 intro pins s σ H x y v u Q I rx ry h
 obtain⟨i,j,rfl,rfl,q⟩:=h
 obtain⟨t,rfl⟩:=rx
 obtain⟨t',rfl⟩:=ry
 exact rule i j t t' s _ _ ⟨.bl (g i j),H,I,rfl,q⟩
def op_add:OpR X (binaryOp .Add) (rI0 fun i j=>.int (i+j)):=qy fun _ _ _ _ _ _ _ q=>add_int q
def op_sub:OpR X (binaryOp .Sub) (rI0 fun i j=>.int (i - j)):=qy fun _ _ _ _ _ _ _ q=>sub_int q
theorem op_mod:OpR X (binaryOp .Mod) (rI (fun _ j=>0<j) fun i j=>.int (i % j)):=opI fun i j _ _ _ _ _ hc q=>by have h1:(0:Int)<j:=hc;exact mod_int' (by lia) (by rw[Int.fmod_eq_emod_of_nonneg i (by lia)];exact q)
def unI{f:Value->Sem Value}{g:Int->Int}
  (rule:∀(i:Int)(t:Tok)(s:Shared)(Q:Value->Shared->Prop)(E:Value->Shared->Prop),Q (.int (g i) s.toks) { s with toks:=s.toks+1 }->wpAny (model X.prog X.w) X.A (f (.int i t)) Q E s) :
  UnR X f (rU fun i=>.int (g i)):=by
 intro pins s σ H x v Q I rx h
 obtain⟨i,rfl,q⟩:=h
 obtain⟨t,rfl⟩:=rx
 exact rule i t s _ _ ⟨.int (g i),H,I.tok _,⟨_,rfl⟩,q⟩
def un_neg:UnR X (unaryOp .USub) (rU fun i=>.int (-i)):=unI fun _ _ _ _ _ q=>neg_int q
end
section
variable {X:Cx}{a b:Expr}{ta tb:TE}{pos:Pos}
def Te(I:Inv X pins σ H s)(q:Q (.bl k) H)(e:k=k'):EP X pins σ Q (.bool k') s:=by subst e;exact⟨.bl k,H,I,rfl,q⟩
def op_lt:OpR X (compareOp .Lt) (rI0 fun i j=>.bl (decide (i<j))):=Ge fun _ _ _ _ _ _ _ q=>lt_int q
def op_le:OpR X (compareOp .LtE) (rI0 fun i j=>.bl (decide (i<=j))):=Ge fun _ _ _ _ _ _ _ q=>le_int q
def op_gt:OpR X (compareOp .Gt) (rI0 fun i j=>.bl (decide (j<i))):=Ge fun _ _ _ _ _ _ _ q=>gt_int q
def op_ge:OpR X (compareOp .GtE) (rI0 fun i j=>.bl (decide (j<=i))):=Ge fun _ _ _ _ _ _ _ q=>ge_int q
def zjr:OpR X (compareOp .In) (fun x y H Q=>∃i j,x=.str i/\y=.str j/\Q (.bl (!(Builtin.Str.occurrences j i 0 j.length 1).isEmpty)) H):=by intro pins s σ H x y v u Q I rx ry h;obtain⟨i,j,rfl,rfl,q⟩:=h;obtain⟨t,rfl⟩:=rx;obtain⟨t',rfl⟩:=ry;exact in_str (Te I q rfl)
def wf:OpR X (compareOp .Is) (fun x y H Q=>y=.non/\Q (.bl (decide (x=.non))) H):=by
 intro pins s σ H x y v u Q I rx ry h;obtain⟨rfl,q⟩:=h;cases ry;refine is_none_gen (Te I q ?_);cases x<;>first
  | (cases rx;rfl)
  | (obtain⟨t,rfl⟩:=rx;rfl)
def OpR.or(h:OpR X f r)(h':OpR X f r'):OpR X f (fun x y H Q=>r x y H Q\/r' x y H Q):=by
 intro pins s σ H x y v u Q I rx ry q;rcases q with q |q
 . exact h pins s σ H x y v u Q I rx ry q
 . exact h' pins s σ H x y v u Q I rx ry q
def i9(b:Expr)(h:op≠.In:=by decide)(h2:op≠.NotIn:=by decide):behindInMarks op b=false:=by
 have e1:(op==CmpOp.In)=false:=by cases op<;>first |rfl |exact absurd rfl h
 have e2:(op==CmpOp.NotIn)=false:=by cases op<;>first |rfl |exact absurd rfl h2
 cases b<;>simp[behindInMarks,e1,e2]
def yC(ho:OpR X (compareOp op) r)(ha:PE X a ta)(hb:PE X b tb)(hm:behindInMarks op b=false):PE X (.Compare a [op] [b] pos) (tOp r ta tb):=by intro pins s σ H Q I h;exact wpAny_Compare1 (Oz ha hb I h fun v u s2 x y H2 I2 rx ry q=>ho pins s2 σ H2 x y v u Q I2 rx ry q) hm
def qx(K:Frag)(x:V)(H:Hp)(k:Bool):Prop:=
 match x with
 | .non=>k=false
 | .bl b=>k=b
 | .int i=>k=(i != 0)
 | .str y=>y.length<=sizeLine/\k=((y.length:Int) != 0)
 | .byt y=>y.size<=sizeLine/\k=((y.size:Int) != 0)
 | .ref p=>(∃xs,SqL K H p xs/\k=!xs.isEmpty)\/(∃xs,SqT K H p xs/\k=!xs.isEmpty)\/∃kvs,H p=some (.dK kvs)/\k=!kvs.isEmpty
 |_=>False
def zib(r:KV kvs vs):(!vs.isEmpty)=!kvs.isEmpty:=by cases r<;>rfl
def Zu(r:Vals xs its):(!its.toArray.isEmpty)=!xs.isEmpty:=by cases r<;>simp
def O3:(sizeLine:Nat)<2 ^ 63:=by rw[GA];decide
theorem Td:y7s X (fun x H Q=>∃k,qx X.K x H k/\Q k H):=by
 intro pins s σ H x v Q I rx h;obtain⟨k,e,q⟩:=h;have hl:=O3;have hs:sizeLine=16777216:=GA;cases x with
 |non=>
  cases rx
  have e':k=false:=e
  subst e'
  exact truthy_none ⟨H,I,q⟩
 |bl b=>
  cases rx
  have e':k=b:=e
  subst e'
  exact EV ⟨H,I,q⟩
 |int i=>
  obtain⟨t,rfl⟩:=rx
  have e':k=(i != 0):=e
  subst e'
  exact PySem.P.truthy_int ⟨H,I,q⟩
 |str y=>
  obtain⟨t,rfl⟩:=rx
  obtain⟨hy,e'⟩:y.length<=sizeLine/\k=((y.length:Int) != 0):=e
  subst e'
  exact PySem.P.truthy_str (by lia) ⟨H,I.tok _,q⟩
 |byt y=>
  obtain⟨t,rfl⟩:=rx
  obtain⟨hy,e'⟩:y.size<=sizeLine/\k=((y.size:Int) != 0):=e
  subst e'
  exact PySem.W.truthy_bytes (by lia) ⟨H,I.tok _,q⟩
 |ref p=>
  cases rx
  have e':(∃xs,SqL X.K H p xs/\k=!xs.isEmpty)\/(∃xs,SqT X.K H p xs/\k=!xs.isEmpty)\/∃kvs,H p=some (.dK kvs)/\k=!kvs.isEmpty:=e
  rcases e' with⟨xs,hx,e'⟩ |⟨xs,hx,e'⟩ |⟨kvs,hx,e'⟩
  . subst e';obtain⟨its,r,pl,hz⟩:=I.list hx;have ae:=r.length;exact wpAny_truthy_list pl.isList (by simp only[nF];lia) ⟨H,I.tok _,by rw[Zu r];exact q⟩
  . subst e';obtain⟨its,r,pl,hz⟩:=I.tuple hx;have ae:=r.length;exact truthy_tuple pl (by simp only[nF];lia) ⟨H,I.tok _,by rw[Zu r];exact q⟩
  . subst e';obtain⟨hz,hS,vs,r,m⟩:kvs.length<=sizeLine/\(p==sysModules)=false/\∃vs,KV kvs vs/\s.heap.DictOf (E2 X.prog X.w) p vs:=I.hok p _ hx;have ae:kvs.length=vs.length:=Paired.length r;exact wpAny_truthy_dict hS m (by lia) ⟨H,I.tok _,by rw[zib r];exact q⟩
 |_=>exact(show False from e).elim
def zic:OpR X (binaryOp .Add) (fun x y H Q=>∃i j,x=.str i/\y=.str j/\i.length+j.length<=sizeLine/\Q (.str (i++j)) H):=by intro pins s σ H x y v u Q I rx ry h;obtain⟨i,j,rfl,rfl,hz,q⟩:=h;obtain⟨t,rfl⟩:=rx;obtain⟨t',rfl⟩:=ry;exact add_str (fun t' tk=>⟨.str (i++j),H,I.tok _,⟨_,rfl⟩,q⟩) hz
def r8(r:Vals [x] us):∃u,us=[u]/\RelV x u:=by
 cases r with
 |cons r1 r2=>cases r2;exact⟨_,rfl,r1⟩
def Ct(r:Vals [x,y] us):∃u w',us=[u,w']/\RelV x u/\RelV y w':=by
 cases r with
 |cons r1 r2=>
  cases r2 with
  |cons r3 r4=>cases r4;exact⟨_,_,rfl,r1,r3⟩
def zjs(hc:X.calm=true):CallR X (.builtin "max") (fun xs H Q=>∃i j,xs=[.int i,.int j]/\Q (.int (if j > i then j else i)) H):=by
 intro pins s σ H xs us Q I r h;obtain⟨i,j,rfl,q⟩:=h;obtain⟨u,w',rfl,⟨t,rfl⟩,⟨t',rfl⟩⟩:=Ct r;refine max_two_ints (I.ok.hd hc) fun h' tk k=>⟨_,H,I.kept k,?_,q⟩
 by_cases hj:j > i
 . rw[ζ hj,ζ hj];exact⟨_,rfl⟩
 . rw[ξ hj,ξ hj];exact⟨_,rfl⟩
def zjt(hc:X.calm=true):CallR X (.builtin "min") (fun xs H Q=>∃i j,xs=[.int i,.int j]/\Q (.int (if j<i then j else i)) H):=by
 intro pins s σ H xs us Q I r h;obtain⟨i,j,rfl,q⟩:=h;obtain⟨u,w',rfl,⟨t,rfl⟩,⟨t',rfl⟩⟩:=Ct r;refine min_two_ints (I.ok.hd hc) fun h' tk k=>⟨_,H,I.kept k,?_,q⟩
 by_cases hj:j<i
 . rw[ζ hj,ζ hj];exact⟨_,rfl⟩
 . rw[ξ hj,ξ hj];exact⟨_,rfl⟩
def call_int1:CallR X (.type "int") (fun xs H Q=>(∃i,xs=[.int i]/\Q (.int i) H)\/∃k,xs=[.bl k]/\Q (.int (if k then 1 else 0)) H):=by
 intro pins s σ H xs us Q I r h;rcases h with⟨i,rfl,q⟩ |⟨k,rfl,q⟩
 . obtain⟨u,rfl,t,rfl⟩:=r8 r;exact call_int_int ⟨.int i,H,I,⟨_,rfl⟩,q⟩
 . obtain⟨u,rfl,r1⟩:=r8 r;cases r1;exact call_int_bool ⟨.int (if k then 1 else 0),H,I.tok _,⟨_,rfl⟩,q⟩
end
structure ObjM(h:Heap)(x dx C:Addr)(mA:Str->Option Value):Prop where
 obj:h.get? x=some (instObj C dx)
 ns:h.Ns1 dx mA
 ne:dx≠x
def zju{h:Heap}{dx:Addr}{mA:Str->Option Value}(n:h.Ns1 dx mA):∃od,h.get? dx=some od/\∀name,lookIn name od=some (mA name):=by
 obtain⟨o,es,ep,ho,hd,hk,_,hm⟩:=n;refine⟨o,ho,fun name=>?_⟩;have e:=hm name;unfold nsFind findBy at e;rw[<-Array.find?_toList]at e;unfold lookIn;rw[hd];dsimp only;split
 . rename_i y q;rw[q]at e;exact DI some e
 . rename_i q;rw[q]at e;have a:es.toList.any (·.refKey)=false:=by rw[List.any_eq_false];intro y hy;obtain⟨z,t,nJ⟩:=hk y (Array.mem_toList_iff.mp hy);simp[DictEntry.refKey,nJ]
   have a':¬es.toList.any (·.refKey)=true:=by rw[a];exact θ
   rw[ξ a'];exact DI some e
def ObjM.look(I:ObjM h x dx C mA):∃od,PySem.W.InstAt h x (instObj C dx) C (some od)/\∀name,lookIn name od=some (mA name):=
 let ⟨od,ho,hl⟩:=zju I.ns
 ⟨od,⟨I.obj,rfl,rfl,ho⟩,hl⟩
section
variable {prog:Program}{w:World}{A:Around}{E:Value->Shared->Prop}{s:Shared}{K:Frag}{x dx C f:Addr}{mA:Str->Option Value}{name:Str}{v:Value}
def yB(X:K.In s.heap)(I:ObjM s.heap x dx C mA)(hg:PySem.W.plainGet K C name=true)(hh:PySem.W.hasDictIn K C=true)
  (ha:PySem.W.findIn K (.ref C) name=some none) (hv:mA name=some v) (rq:PySem.W.handedIn v=true) (h:Q v { s with toks:=s.toks+1 }) :
  wpAny (model prog w) A (getAttr (.ref x) name AL) Q E s:=by
 obtain⟨od,J,hl⟩:=I.look
 exact PySem.W.get_value X J (PySem.W.plainGet_of hg).1 (PySem.W.findObj_own hh ha rfl (by rw[hl,hv])) rq h
def zW(X:K.In s.heap)(I:ObjM s.heap x dx C mA)(hg:PySem.W.plainGet K C name=true)
  (hf:PySem.W.findIn K (.ref C) name=some (some (.ref f))) (ht:isFn K (.ref f)=true) (hv:mA name=none) (h:Q (.ref f,[.ref x]) s) :
  wpAny (model prog w) A (getMethod (.ref x) name pl) Q E s:=by
 obtain⟨od,J,hl⟩:=I.look
 exact PySem.W.method_fn X J (PySem.W.plainGet_of hg).1 (PySem.W.plainGet_of hg).2 hf (FE.mp ht) (by show(lookIn name od).map (·.isSome)=some false;rw[hl,hv];rfl) h
theorem yA(X:K.In s.heap)(I:ObjM s.heap x dx C mA)
  (hs:PySem.W.findIn K (.ref C) "__setattr__"=some (some (.builtin "object.__setattr__"))) (hp:PySem.W.plainOver K C=true) (ht:PySem.W.takerIn K C name=some none) (hh:PySem.W.hasDictIn K C=true)
  (hw:PySem.Within mA ns) (hsz:ns.length<=sizeLine)
  (h:∀h',ObjM h' x dx C (fun y=>if y=name then some v else mA y)->Heap.SameBut dx s.heap h'->Q () { s with heap:=h',toks:=s.toks+2 }) :
  wpAny (model prog w) A (setAttr (.ref x) name v) Q E s:=by
 obtain⟨od,J,hl⟩:=I.look
 refine PySem.W.set_plain X J hs (PySem.W.osa_open (s:={ s with toks:=s.toks+1 }) (r:=none) X J hp ht fun b=>?_)
 obtain⟨cd,hc,cx⟩:=PySem.W.any_some hh
 have hx:s.heap.get? x=some ⟨.ref C,some dx,.plain,#[]⟩:=I.obj
 refine δ (ω (δ (δ (wpAny_loadPart hx (δ (PySem.W.Looks.here (s:={ s with toks:=s.toks+1 }) (PySem.W.looks_clsIn X hc) ?_))))))
 rw[cx]
 refine ω (a:=some dx) (δ (ω (δ ?_)))
 refine wpAny_nsSet1 (s:={ s with toks:=s.toks+1 }) I.ns fun h' dU fm=>?_
 obtain⟨oD,AT,AU,rz,rA,rB⟩:=dU.count (PySem.Within.cons name v hw)
 refine δ (wpAny_lookBehind rz (by rw[rA];exact pastItsLine_dict (CD rB (by rw[io];lia))) ?_)
 exact ω (h _ ⟨(fm.2 _ (FP I.ne)).trans I.obj,dU,I.ne⟩ fm)
def zV(X:K.In s.heap)(hm:PySem.W.makesIn K C=true)
  (hi:PySem.W.findIn K (.ref C) "__init__"=some (some (.ref f))) (hf:PySem.W.typeIn K (.ref f)=some (.type "function"))
  (h:codeAny (model prog w) (A.under (.builtin "type.__call__" ⟨.ref C::vs,kw⟩)) (.call (.ref f) ⟨.ref (s.heap.objs.size+1)::vs,kw⟩) (PySem.W.InitBack (s.heap.objs.size+1) R)
   { s with heap:=(s.heap.push emptyDict).push (instObj C s.heap.objs.size) }) :
  codeAny (model prog w) A (.call (.ref C) ⟨vs,kw⟩) R s:=by
 obtain⟨hh,g,d,t,os⟩:=s
 exact PySem.W.make_core (PySem.W.makes_of X hm) (PySem.W.looks_findIn X hi) (fun self=>PySem.W.bind_fn X self hf) (.inl rfl) h
end
noncomputable def t9(f:Str)(v:V):List (Str×V)->List (Str×V)
 | []=>[(f,v)]
 | (g,x)::r=>if g=f then(g,v)::r else(g,x)::t9 f v r
theorem jr(f g:Str)(v:V):∀fs:List (Str×V),(t9 f v fs).lookup g=if g=f then some v else fs.lookup g
 | []=>by
  show List.lookup g [(f,v)]=_;by_cases h:g=f
  . have hb:(g==f)=true:=FE.mpr h;simp only[List.lookup,hb,ζ h]
  . have hb:(g==f)=false:=DX.mpr h;simp only[List.lookup,hb,ξ h]
 | (k,x)::r=>by
  have ih:=jr f g v r;rw[show t9 f v ((k,x)::r)=(if k=f then(k,v)::r else(k,x)::t9 f v r) from rfl];by_cases hk:k=f
  . rw[ζ hk];by_cases h:g=k
    . have hb:(g==k)=true:=FE.mpr h;simp only[List.lookup,hb,ζ (h.trans hk)]
    . have hb:(g==k)=false:=DX.mpr h;simp only[List.lookup,hb,ξ (fun e:g=f=>h (e.trans hk.symm))]
  . rw[ξ hk];by_cases h:g=k
    . have hb:(g==k)=true:=FE.mpr h;simp only[List.lookup,hb,ξ (fun e:g=f=>hk (h.symm.trans e))]
    . have hb:(g==k)=false:=DX.mpr h;simp only[List.lookup,hb];exact ih
theorem Lu(f:Str)(v:V):∀fs:List (Str×V),f∈(t9 f v fs).map (·.1)/\∀g,g∈fs.map (·.1)->g∈(t9 f v fs).map (·.1)
 | []=>⟨by simp[t9],fun g h=>by simp at h⟩
 | (k,x)::r=>by
  obtain⟨i1,i2⟩:=Lu f v r;rw[show t9 f v ((k,x)::r)=(if k=f then(k,v)::r else(k,x)::t9 f v r) from rfl];by_cases hk:k=f
  . rw[ζ hk];subst hk;exact⟨by simp,fun g h=>by simpa using h⟩
  . rw[ξ hk];refine⟨?_,fun g h=>?_⟩
    . rw[gD];exact dg _ i1
    . rw[gD]at h⊢;rcases eH.mp h with e |e
      . exact eH.mpr (.inl e)
      . exact dg _ (i2 g e)
theorem jq(f:Str)(v:V):∀fs:List (Str×V),(t9 f v fs).length<=fs.length+1
 | []=>by simp[t9]
 | (k,x)::r=>by
  have ih:=jq f v r;rw[show t9 f v ((k,x)::r)=(if k=f then(k,v)::r else(k,x)::t9 f v r) from rfl];by_cases hk:k=f
  . rw[ζ hk,io,io];lia
  . rw[ξ hk,io,io];lia
def RelO.some_of(r:RelO (some v) o):∃u,o=some u/\RelV v u:=by
 cases o with
 |none=>exact(show False from r).elim
 |some u=>exact⟨u,rfl,r⟩
def RelO.none_of(r:RelO none o):o=none:=by
 cases o with
 |none=>rfl
 |some u=>exact(show False from r).elim
def zjv(r:RelV v u):PySem.W.handedIn u=true:=by
 cases v with
 |non=>cases (show u=Value.none from r);rfl
 |bl b=>cases (show u=Value.bool b from r);rfl
 |int i=>obtain⟨t,e⟩:=(show ∃t,u=Value.int i t from r);cases e;rfl
 |str x=>obtain⟨t,e⟩:=(show ∃t,u=Value.str x t from r);cases e;rfl
 |byt b=>obtain⟨t,e⟩:=(show ∃t,u=Value.bytes b t from r);cases e;rfl
 |flt b=>obtain⟨t,e⟩:=(show ∃t,u=Value.float b t from r);cases e;rfl
 |ref a=>cases (show u=Value.ref a from r);rfl
 |ty n=>cases (show u=Value.type n from r);rfl
section
variable {P:Program}{w:World}{H:Hp}{h:Heap}{a C dx:Addr}{fs:List (Str×V)}
def Eh(hok:HOk P w H h)(e:H a=some (.ins C dx fs)):∃mA,ObjM h a dx C mA/\(∀f,RelO (fs.lookup f) (mA f))/\PySem.Within mA (fs.map (·.1))/\fs.length<=1000/\H dx=some (.own a):=by obtain⟨d,z,ne,ob,mA,n,r,q⟩:=(show ObjOk P w H h a (.ins C dx fs) from hok a _ e);exact⟨mA,⟨ob,n,ne⟩,r,q,z,d⟩
end
structure Cls(K:Frag)(C:Addr):Prop where
 pg:PySem.W.plainGet K C Str.empty=true
 hd:PySem.W.hasDictIn K C=true
 po:PySem.W.plainOver K C=true
 sa:PySem.W.findIn K (.ref C) "__setattr__"=some (some (.builtin "object.__setattr__"))
def Cls.get{K:Frag}{C:Addr}(c:Cls K C)(f:Str):PySem.W.plainGet K C f=true:=c.pg
def NoAttr(K:Frag)(C:Addr)(f:Str):Prop:=PySem.W.findIn K (.ref C) f=some none
def NoAttr.taker{K:Frag}{C:Addr}{f:Str}(n:NoAttr K C f):PySem.W.takerIn K C f=some none:=by unfold PySem.W.takerIn;rw[show PySem.W.findIn K (.ref C) f=some none from n];rfl
structure Meth(K:Frag)(C:Addr)(m:Str)(f:Addr):Prop where
 at_:PySem.W.findIn K (.ref C) m=some (some (.ref f))
 fn:isFn K (.ref f)=true
 kp:keepIn K (.ref f)=true
section
variable {X:Cx}{pins:List (Addr×Obj)}{σ:St}{H:Hp}{s:Shared}{a C dx:Addr}{fs:List (Str×V)}{f:Str}{v:V}{A:Around}{E:Value->Shared->Prop}
def zid(I:Inv X pins σ H s)(e:H a=some (.ins C dx fs))(c:Cls X.K C)(n:NoAttr X.K C f)(l:fs.lookup f=some v)
  (h:∀u s',Inv X pins σ H s'->RelV v u->Q u s'):wpAny (model X.prog X.w) A (getAttr (.ref a) f b) Q E s:=by
 obtain⟨mA,O,r,_,_,_⟩:=Eh I.hok e
 obtain⟨u,hu,ru⟩:=RelO.some_of (v:=v) (o:=mA f) (by rw[<-l];exact r f)
 exact yB I.kIn O (c.get f) c.hd n hu (zjv ru) (h u _ (I.tok _) ru)
def Zt(I:Inv X pins σ H s)(e:H a=some (.ins C dx fs))(c:Cls X.K C)(k:Meth X.K C m g)(l:fs.lookup m=none)
  (h:Q (.ref g,[.ref a]) s):wpAny (model X.prog X.w) A (getMethod (.ref a) m pl) Q E s:=by
 obtain⟨mA,O,r,_,_,_⟩:=Eh I.hok e
 have hn:mA m=none:=RelO.none_of (by rw[<-l];exact r m)
 exact zW I.kIn O (c.get m) k.at_ k.fn hn h
theorem zie(I:Inv X pins σ H s)(e:H a=some (.ins C dx fs))(c:Cls X.K C)(n:NoAttr X.K C f)(hl:fs.length<1000)(ry:RelV y u)
  (h:∀s',Inv X pins σ (upd H a (.ins C dx (t9 f y fs))) s'->Q () s'):wpAny (model X.prog X.w) A (setAttr (.ref a) f u) Q E s:=by
 obtain⟨mA,O,r,wi,_,ho⟩:=Eh I.hok e
 have hz:(fs.map (·.1)).length<=sizeLine:=by rw[bI,GA];lia
 refine yA I.kIn O c.sa c.po n.taker c.hd wi hz fun h' O' sb=>h _ ?_
 have hd:∃o,h'.get? dx=some o:=let ⟨o,_,_,e',_⟩:=O'.ns;⟨o,e'⟩
 refine I.write (x:=a) (e:=dx) (by rw[e];exact True.intro) (.inr ho) (fun b q hb z=>(sb.2 b hb).trans z) hd ?_
 refine⟨by rw[i6 O.ne];exact ho,?_,O.ne,O'.obj,_,O'.ns,fun g=>?_,fun g hg=>?_⟩
 . have:=jq f y fs;lia
 . show RelO ((t9 f y fs).lookup g) (if g=f then some u else mA g);rw[jr];by_cases q:g=f
   . rw[ζ q,ζ q];exact ry
   . rw[ξ q,ξ q];exact r g
 . by_cases q:g=f
   . rw[q];exact(Lu f y fs).1
   . refine(Lu f y fs).2 g (wi g fun z=>hg ?_);show(if g=f then some u else mA g)=none;rw[ξ q];exact z
theorem Inv.made(I:Inv X pins σ H s):Inv X pins σ (upd (upd H s.heap.objs.size (.own (s.heap.objs.size+1))) (s.heap.objs.size+1) (.ins C s.heap.objs.size []))
  { s with heap:=(s.heap.push emptyDict).push (instObj C s.heap.objs.size) }:=by
 have e1:(s.heap.push emptyDict).get? s.heap.objs.size=some emptyDict:=Ψ s.heap rfl
 have e2:((s.heap.push emptyDict).push (instObj C s.heap.objs.size)).get? (s.heap.objs.size+1)=some (instObj C s.heap.objs.size):=by have:=Ψ (s.heap.push emptyDict) (o:=instObj C s.heap.objs.size) rfl;rwa [Heap.size_push]at this
 have e3:(s.heap.push emptyDict).Ns s.heap.objs.size (fun _=>none):=⟨emptyDict,#[],_,e1,rfl,(fun e he=>absurd he (by simp)),fun _=>rfl⟩
 have I1:=I.laid (a:=s.heap.objs.size) (o:=.own (s.heap.objs.size+1)) (h':=s.heap.push emptyDict) (t':=s.toks) (fun b u q=>τ _ q) (η _) ⟨_,e1⟩
 refine I1.laid (a:=s.heap.objs.size+1) (o:=.ins C s.heap.objs.size []) (t':=s.toks) (fun b u q=>τ _ q) (Nat.le_of_eq (Heap.size_push _ _)) ?_
 have ne:s.heap.objs.size≠s.heap.objs.size+1:=CC (Nat.lt_succ_self _)
 refine⟨by rw[i6 ne,k7],DC _,ne,e2,fun _=>none,(Heap.Ns1.of_empty e3).at fun o q=>τ _ q,fun _=>True.intro,fun y hy=>absurd rfl hy⟩
def yy(hb:attributeBase e f env (eval e env)=eval e env)
  (h:wpAny (model prog w) A (eval e env) (fun o af=>wpAny (model prog w) A (getAttr o f true) Q E af) E s):wpAny (model prog w) A (eval (.Attribute e f pos) env) Q E s:=
 Attribute_any_ h (by rw[arm_eval_Attribute,hb])
end
def qw(K:Frag)(ta:TE)(f:Str):TE:=fun σ H Q=>ta σ H fun x H1=>∃a C dx fs v,x=.ref a/\H1 a=some (.ins C dx fs)/\Cls K C/\NoAttr K C f/\fs.lookup f=some v/\Q v H1
def y7t(K:Frag)(ta tv:TE)(f:Str):TS:=fun D σ H=>tv σ H fun y H1=>ta σ H1 fun x H2=>∃a C dx fs,x=.ref a/\H2 a=some (.ins C dx fs)/\Cls K C/\NoAttr K C f/\fs.length<1000 /\
 D.nx σ (upd H2 a (.ins C dx (t9 f y fs)))
section
variable {X:Cx}{o e value:Expr}{f:Str}{pos aF:Pos}{ta tv:TE}
def we(he:PE X e ta)(hb:attributeBase e f X.env (eval e X.env)=eval e X.env):PE X (.Attribute e f pos) (qw X.K ta f):=by intro pins s σ H Q I h;refine yy hb (thn (he pins s σ H _ I h) fun u s1 ⟨x,H1,I1,rx,a,C,dx,fs,v,ex,ea,c,n,l,q⟩=>?_);subst ex;obtain rfl:u=Value.ref a:=rx;exact zid I1 ea c n l fun u' s2 I2 ru=>⟨v,H1,I2,ru,q⟩
def wa(ha:PE X o ta)(hv:PE X value tv)(hs:swapsWith value (some (.Attribute o f aF)) pos.line X.env=pure false):PS X (.Assign [.Attribute o f aF] value pos) (y7t X.K ta tv f):=by intro pins s σ H D I h;refine plainObj_wpAny_Assign_Attribute (thn (hv pins s σ H _ I h) fun u s1 ⟨y,H1,I1,ry,q⟩=>thn (ha pins s1 σ H1 _ I1 q) fun ov s2 ⟨x,H2,I2,rx,a,C,dx,fs,ex,ea,c,n,l,q2⟩=>?_) hs;subst ex;obtain rfl:ov=Value.ref a:=rx;exact zie I2 ea c n l ry fun s3 I3=>⟨σ,_,I3,q2⟩
end
section
variable {X:Cx}{pins:List (Addr×Obj)}{σ:St}{H:Hp}{s:Shared}{A:Around}{E:Value->Shared->Prop}{Q:Value->Shared->Prop}{c:Value}{b:Bool}
inductive TyOf (K:Frag) (H:Hp):V->Value->Prop where
 |non:TyOf K H .non (.type "NoneType")
 |bl (x:Bool):TyOf K H (.bl x) (.type "bool")
 |int (i:Int):TyOf K H (.int i) (.type "int")
 |str (x:Str):TyOf K H (.str x) (.type "str")
 |flt (x:UInt64):TyOf K H (.flt x) (.type "float")
 |lst {a:Addr} {xs:List V} (e:H a=some (.lst xs)):TyOf K H (.ref a) (.type "list")
 |frz {a:Addr} {o:Obj} {xs:List V} (e:H a=some (.frz o (.lst xs))):TyOf K H (.ref a) (.type "list")
 |tup {a:Addr} {xs:List V} (e:H a=some (.tup xs)):TyOf K H (.ref a) (.type "tuple")
 |dK {a:Addr} {kvs:List (Key×V)} (e:H a=some (.dK kvs)):TyOf K H (.ref a) (.type "dict")
 |dT {a:Addr} {kvs:List (List Key×V)} (e:H a=some (.dT kvs)):TyOf K H (.ref a) (.type "dict")
 |ins {a C dx:Addr} {fs:List (Str×V)} (e:H a=some (.ins C dx fs)) (cl:Cls K C) (ha:PySem.W.findIn K (.ref C) "__class__"=some (some (.builtin "object.__class__")))
  (hn:PySem.W.specialIn K (.builtin "object.__class__") "__get__"=some (some (.builtin "getset_descriptor.__get__"))) (htk:PySem.W.takesIn K (.builtin "object.__class__")=some true)
  (hm:PySem.W.mroIn K C (.type "object")=some true):TyOf K H (.ref a) (.ref C)
def K0(I:Inv X pins σ H s)(rx:RelV x u)(ty:TyOf X.K H x t)(e:PySem.W.kitOne X.K t c=some b)(h:∀tk,Q (.bool b) { s with toks:=tk }) :
  wpAny (model X.prog X.w) A (call (.builtin "isinstance") [u,c]) Q E s:=by
 cases ty with
 |non=>cases (show u=Value.none from rx);exact kia_one PySem.W.kitx_none I.kIn True.intro e (fun z=>nomatch z) h
 |bl y=>cases (show u=Value.bool y from rx);exact kia_one PySem.W.kitx_bool I.kIn True.intro e (fun z=>nomatch z) h
 |int i=>obtain⟨t,q⟩:=(show ∃t,u=Value.int i t from rx);cases q;exact kia_one PySem.W.kitx_int I.kIn True.intro e (fun z=>nomatch z) h
 |str y=>obtain⟨t,q⟩:=(show ∃t,u=Value.str y t from rx);cases q;exact kia_one PySem.W.kitx_str I.kIn True.intro e (fun z=>nomatch z) h
 |flt y=>obtain⟨t,q⟩:=(show ∃t,u=Value.float y t from rx);cases q;exact kia_one PySem.W.kitx_float I.kIn True.intro e (fun z=>nomatch z) h
 | @lst a xs ea=>
  cases (show u=Value.ref a from rx)
  obtain⟨_,_,n,_,h1⟩:=(show ObjOk X.prog X.w H s.heap a (.lst xs) from I.hok a _ ea)
  exact kia_one PySem.W.kitx_list I.kIn ⟨_,h1,rfl⟩ e (fun z=>nomatch z) h
 | @frz a ob xs ea=>
  cases (show u=Value.ref a from rx)
  obtain⟨_,_,_,n,_,h1⟩:=(show ObjOk X.prog X.w H s.heap a (.frz ob (.lst xs)) from I.hok a _ ea)
  exact kia_one PySem.W.kitx_list I.kIn ⟨_,h1,rfl⟩ e (fun z=>nomatch z) h
 | @tup a xs ea=>
  cases (show u=Value.ref a from rx)
  obtain⟨_,_,_,p⟩:=(show ObjOk X.prog X.w H s.heap a (.tup xs) from I.hok a _ ea)
  obtain⟨o,h1,h2,_⟩:=p
  exact kia_one PySem.W.kitx_tuple I.kIn ⟨o,h1,h2⟩ e (fun z=>nomatch z) h
 | @dK a kvs ea=>
  cases (show u=Value.ref a from rx)
  obtain⟨_,_,vs,_,p⟩:=(show ObjOk X.prog X.w H s.heap a (.dK kvs) from I.hok a _ ea)
  obtain⟨o,es,ep,h1,h2,_⟩:=p
  exact kia_one PySem.W.kitx_dict I.kIn ⟨o,h1,h2.1⟩ e (fun z=>nomatch z) h
 | @dT a kvs ea=>
  cases (show u=Value.ref a from rx)
  obtain⟨_,_,xs,_,o,es,ep,h1,h2,_⟩:=(show ObjOk X.prog X.w H s.heap a (.dT kvs) from I.hok a _ ea)
  exact kia_one PySem.W.kitx_dict I.kIn ⟨o,h1,h2.1⟩ e (fun z=>nomatch z) h
 | @ins a C dx fs ea cl ha hn htk hm=>
  cases (show u=Value.ref a from rx)
  obtain⟨mA,O,_⟩:=Eh I.hok ea
  obtain⟨od,J,_⟩:=O.look
  exact kia_one (PySem.W.kitx_own (cl.get _) cl.hd ha hn htk hm) I.kIn J e (fun z=>nomatch z) h
end
structure Room(k:Nat)(A:Around):Prop where
 hd:A.handled=none
 dp:A.depth+3 * k+5<recursionLimit
 un:A.units+16 * k+200<cLine
def Room.mono(r:Room k A)(h:j<=k):Room j A:=⟨r.hd,by have:=r.dp;lia,by have:=r.un;lia⟩
def Room.deeper(r:Room (k+1) A)(env:Env):Room k (A.deeper env):=
 ⟨r.hd,by have:=r.dp;show A.depth+1+3 * k+5<_;lia,by have:=r.un;show A.units+3+16 * k+200<_;lia⟩
def zif{A:Around}{C:Addr}{us:List Value}{kw:List (Str×Value)}:(A.under (.builtin "type.__call__" ⟨.ref C::us,kw⟩)).depth=A.depth+1:=by first |rfl |simp[Around.under,Code.weight,Code.isCreation,Code.isGuard,Code.isCaller,Code.frames,Code.isFrame,guardIds]
def zig{A:Around}{C:Addr}{us:List Value}{kw:List (Str×Value)}:(A.under (.builtin "type.__call__" ⟨.ref C::us,kw⟩)).units=A.units+1:=by first |rfl |simp[Around.under,Code.cUnits,Code.frames,Code.isFrame]
def Room.make(r:Room (k+1) A)(C:Addr)(us:List Value)(kw:List (Str×Value)):Room k (A.under (.builtin "type.__call__" ⟨.ref C::us,kw⟩)):=
 ⟨r.hd,by have:=r.dp;rw[zif];omega,by have:=r.un;rw[zig];omega⟩
def Room.depth(r:Room k A):A.depth<recursionLimit:=by have:=r.dp;omega
def Room.units(r:Room k A):A.units+64<cLine:=by have:=r.un;lia
noncomputable def G4:TA:=fun _ H Q=>Q [] H
noncomputable def C4(ta:TE)(tr:TA):TA:=fun σ H Q=>ta σ H fun x H1=>tr σ H1 fun xs H2=>Q (x::xs) H2
section
variable {X:Cx}{e:Expr}{es:List Expr}{te:TE}{t:TA}{pos:Pos}
def pa_nil:PA X [] G4:=fun _ _ _ _ H Q I h=>Calls.spliced_nil ⟨[],H,I,.nil,h⟩
theorem J7(ha:PE X e te)(hr:PA X es t)(hs:starEach (e::es) X.env=(false,eval e X.env)::starEach es X.env:=by rfl):PA X (e::es) (C4 te t):=by intro pos pins s σ H Q I h;rw[hs];show wpAny _ _ (spliced ((false,eval e X.env)::backTo pos (starEach es X.env))) _ _ s;refine Calls.spliced_cons (thn (ha pins s σ H _ I h) fun u s1 ⟨x,H1,I1,r1,q1⟩=>?_);exact thn (hr pos pins s1 σ H1 _ I1 q1) fun us s2 ⟨xs,H2,I2,r2,q2⟩=>⟨x::xs,H2,I2,.cons r1 r2,q2⟩
def qu(t:TA):TE:=fun σ H Q=>t σ H fun xs H1=>xs.length<=sizeLine/\∀p,H1 p=none->Q (.ref p) (upd H1 p (.tup xs))
def qt(t:TA):TE:=fun σ H Q=>t σ H fun xs H1=>xs.length<=sizeLine/\∀p,H1 p=none->Q (.ref p) (upd H1 p (.lst xs))
theorem vZ(h:PA X es t):PE X (.Tuple es x1 pos) (qu t):=by intro pins s σ H Q I hq;refine wpAny_Tuple_spliced (thn (h pos pins s σ H _ I hq) fun us s1 ⟨xs,H1,I1,r,z,q⟩=>⟨by rw[<-r.length];exact z,?_⟩);have hf:H1 s1.heap.objs.size=none:=I1.hok.fresh (η _);refine⟨.ref s1.heap.objs.size,upd H1 s1.heap.objs.size (.tup xs),I1.laid (t':=s1.toks) (fun b u e=>τ _ e) (η _) ?_,rfl,q _ hf⟩;exact⟨z,us,r,.mk' (Ψ _ rfl)⟩
theorem vY(h:PA X es t):PE X (.List es pos) (qt t):=by intro pins s σ H Q I hq;refine wpAny_List_spliced (thn (h pos pins s σ H _ I hq) fun us s1 ⟨xs,H1,I1,r,z,q⟩=>⟨by rw[<-r.length];exact z,?_⟩);have hf:H1 s1.heap.objs.size=none:=I1.hok.fresh (η _);refine⟨.ref s1.heap.objs.size,upd H1 s1.heap.objs.size (.lst xs),I1.laid (t':=s1.toks) (fun b u e=>τ _ e) (η _) ?_,rfl,q _ hf⟩;exact⟨z,us,0,r,Ψ _ rfl⟩
end
abbrev Sp:=List V->Hp->VK->XK->Prop
abbrev CXT:=List Env->Hp->Shared->XK->Value->Shared->Prop
structure Env0(P:Program)(w:World)(K:Frag)(mg:Str->Option Value)(base:Heap)(A:Around)(outer:List Env)(s:Shared)(H:Hp):Prop where
 frames:A.frames=some outer
 mod:Mod K mg base
 bs:∀b o,base.get? b=some o->s.heap.get? b=some o/\H b=none
 bsz:base.objs.size<=s.heap.objs.size
 funs:s.heap.FunFrames base outer
 frf:∀b∈frs outer,H b=none
 hok:HOk P w H s.heap
 bare:AllBare s.gens
def CE(outer:List Env)(P:Program)(w:World)(H:Hp)(s:Shared)(Q:VK)(u:Value)(s':Shared):Prop:=
 ∃v H',s'.os=s.os/\AllBare s'.gens/\Un (frs outer) [] H H' s.heap s'.heap/\HOk P w H' s'.heap/\RelV v u/\Q v H'
def CR(CX:CXT)(outer:List Env)(P:Program)(w:World)(H:Hp)(s:Shared)(Q:VK)(E:XK)(r:Result)(s':Shared):Prop:=
 match r with
 | .ok (.ret u)=>CE outer P w H s Q u s'
 | .ok _=>False
 | .error e=>CX outer H s E e s'
structure FnOk(P:Program)(w:World)(K:Frag)(mg:Str->Option Value)(base:Heap)(CX:CXT)(k:Nat)(f:Addr)(fd:FuncData)(ps:List Str)(sp:Sp):Prop where
 len:∀vs H Q E,sp vs H Q E->vs.length=ps.length
 run:∀(A:Around)(outer:List Env)(s:Shared)(H:Hp)(args:Args)(us:List Value)(vs:List V)(Q:VK)(E:XK),Room k A->Env0 P w K mg base A outer s H->BindsTo s fd args (ps.zip us)->Vals vs us->sp vs H Q E ->
  codeAny (model P w) A (.call (.ref f) args) (CR CX outer P w H s Q E) s
def FnOk.imp{P:Program}{w:World}{K:Frag}{mg:Str->Option Value}{base:Heap}{CX:CXT}{k:Nat}{f:Addr}{fd:FuncData}{ps:List Str}{sp oA:Sp}(F:FnOk P w K mg base CX k f fd ps sp)
  (h:∀vs H Q E,oA vs H Q E->sp vs H Q E):FnOk P w K mg base CX k f fd ps oA:=
 ⟨fun vs H Q E q=>F.len vs H Q E (h _ _ _ _ q),fun A outer s H args us vs Q E hr he hb hv hs=>F.run A outer s H args us vs Q E hr he hb hv (h _ _ _ _ hs)⟩
def Env0.make{P:Program}{w:World}{K:Frag}{mg:Str->Option Value}{base:Heap}{A:Around}{outer:List Env}{s:Shared}{H:Hp}(e:Env0 P w K mg base A outer s H)(C:Addr)(us:List Value)(kw:List (Str×Value)) :
 Env0 P w K mg base (A.under (.builtin "type.__call__" ⟨.ref C::us,kw⟩)) outer s H:=⟨by first |exact e.frames | (simpa [Around.under,Code.envs,Code.isFrame,pushEnvs] using e.frames),e.mod,e.bs,e.bsz,e.funs,e.frf,e.hok,e.bare⟩
section
variable {X:Cx}{pins:List (Addr×Obj)}{σ:St}{H:Hp}{s s':Shared}
def Inv.env0(I:Inv X pins σ H s):Env0 X.prog X.w X.K X.mg X.base X.A X.stack s H:=
 ⟨I.ok.frames,I.ok.mod,I.bs,CD I.ok.bsz I.sz,I.stack,I.stkFree,I.hok,I.bare⟩
def Inv.after(I:Inv X pins σ H s)(h:CE X.stack X.prog X.w H s Q u s'):EP X pins σ Q u s':=by obtain⟨v,H',os,bare,un,hok,r,q⟩:=h;obtain⟨hh,g,d,t,rC⟩:=s';obtain rfl:rC=s.os:=os;exact⟨v,H',I.call (h':=hh) (g':=g) (d':=d) (t':=t) (ch:=[]) un hok bare (fun b z=>absurd z (by simp)),r,q⟩
end
noncomputable def Qe(sp:Sp)(dvs:List V)(E:XK)(t:TA):TE:=fun σ H Q=>t σ H fun vs H1=>sp (vs++dvs) H1 Q E
def Qd(C:Addr)(sp:Sp)(dvs:List V)(E:XK)(t:TA):TE:=fun σ H Q=>t σ H fun vs H1=>∀x dx,H1 x=none->H1 dx=none->dx≠x ->
 sp (.ref x::(vs++dvs)) (upd (upd H1 dx (.own x)) x (.ins C dx [])) (fun v H2=>v=.non/\Q (.ref x) H2) E
def Binds(K:Frag)(fd:FuncData)(ps:List Str)(ds:List Value):Prop:=
 ∀(s:Shared)(us:List Value),K.In s.heap->(us++ds).length=ps.length->BindsTo s fd ⟨us,[]⟩ (ps.zip (us++ds))
def Binds.all{K:Frag}{fd:FuncData}{ps:List Str}(h:∀us:List Value,us.length=ps.length->bindArgs fd ⟨us,[]⟩=pure (ps.zip us)):Binds K fd ps []:=fun s us _ hl=>by rw[CT]at hl⊢;exact .of_eq (h us hl)
def L9(CX:CXT)(X:Cx)(E:XK):Prop:=∀(pins:List (Addr×Obj))(σ:St)(H:Hp)(s:Shared)(e:Value)(s':Shared),Inv X pins σ H s->CX X.stack H s E e s'->X.xe e s'
section
variable {X:Cx}{CX:CXT}{k:Nat}{f C:Addr}{fd:FuncData}{ps:List Str}{sp:Sp}{dvs:List V}{ds:List Value}{E:XK}{x:Str}{p pos:Pos}{e:Expr}{es:List Expr}{t:TA}
theorem Jo(F:FnOk X.prog X.w X.K X.mg X.base CX k f fd ps sp)(hr:Room k X.A)(hb:Binds X.K fd ps ds)(hd:Vals dvs ds)(hx:L9 CX X E)
  (I:Inv X pins σ H s) (r:Vals vs us) (h:sp (vs++dvs) H Q E):wpAny (model X.prog X.w) X.A (call (.ref f) us) (EP X pins σ Q) X.xe s:=by
 have r2:Vals (vs++dvs) (us++ds):=r.append hd
 have hl:(us++ds).length=ps.length:=by rw[<-r2.length];exact F.len _ _ _ _ h
 refine wpAny_call (codeAny_mono (F.run X.A X.stack s H ⟨us,[]⟩ (us++ds) (vs++dvs) Q E hr I.env0 (hb s us I.kIn hl) r2 h) fun r s' hq=>?_)
 cases r with
 |error e=>exact hx pins σ H s e s' I hq
 |ok fl=>
  cases fl with
  |ret u=>exact I.after hq
  |next=>exact False.elim hq
  |brk=>exact False.elim hq
  |cont=>exact False.elim hq
def yx(F:FnOk X.prog X.w X.K X.mg X.base CX k f fd ps sp)(hr:Room k X.A)(hg:Gl X x)(hm:X.mg x=some (.ref f))(hk:keepIn X.K (.ref f)=true)(hb:Binds X.K fd ps ds)(hd:Vals dvs ds)(hx:L9 CX X E)
  (ha:PA X (e::es) t) (aW:(x==("__debug__":Str))=false:=by decide) (he:starEach (e::es) X.env=(false,eval e X.env)::starEach es X.env:=by rfl) (hpl:(backTo pos (starEach es X.env)).any (·.1)=false:=by rfl) :
  PE X (.Call (.Name x p) (e::es) [] pos) (Qe sp dvs E t):=by
 intro pins s σ H Q I h
 refine FC (Vn I hg hm ?_ aW)
 refine PySem.W.callWith_K (h₀:=X.base) I.ok.mod.kin hk (thn (ha pos pins s σ H _ I h) fun us s1 ⟨vs,H1,I1,r,q⟩=>⟨I1.kIn,?_⟩) he hpl
 exact Jo F hr hb hd hx I1 r q
structure Mk(K:Frag)(C f:Addr):Prop where
 makes:PySem.W.makesIn K C=true
 init:PySem.W.findIn K (.ref C) "__init__"=some (some (.ref f))
 fn:isFn K (.ref f)=true
 kp:keepIn K (.ref C)=true
theorem zU(M:Mk X.K C f)(F:FnOk X.prog X.w X.K X.mg X.base CX k f fd ps sp)(hr:Room (k+1) X.A)(hb:Binds X.K fd ps ds)(hd:Vals dvs ds)
  (hx:L9 CX X E) (I:Inv X pins σ H s) (r:Vals vs us)
  (h:∀x dx,H x=none->H dx=none->dx≠x->sp (.ref x::(vs++dvs)) (upd (upd H dx (.own x)) x (.ins C dx [])) (fun v H2=>v=.non/\Q (.ref x) H2) E) :
  wpAny (model X.prog X.w) X.A (call (.ref C) us) (EP X pins σ Q) X.xe s:=by
 have hq:=h (s.heap.objs.size+1) s.heap.objs.size (I.hok.fresh (HF _)) (I.hok.fresh (η _)) (CC (Nat.lt_succ_self _))
 have I2:=Inv.made (C:=C) I
 have r2:Vals (V.ref (s.heap.objs.size+1)::(vs++dvs)) (Value.ref (s.heap.objs.size+1)::(us++ds)):=.cons rfl (r.append hd)
 have hl:(Value.ref (s.heap.objs.size+1)::us++ds).length=ps.length:=by have e:=r2.length;rw[F.len _ _ _ _ hq]at e;exact e.symm
 refine wpAny_call (zV (f:=f) I.kIn M.makes M.init (FE.mp M.fn) (codeAny_mono (F.run _ X.stack _ _ ⟨Value.ref (s.heap.objs.size+1)::us,[]⟩ (Value.ref (s.heap.objs.size+1)::(us++ds)) _ _ E (hr.make C us [])
  (I2.env0.make C us []) (hb _ (Value.ref (s.heap.objs.size+1)::us) I2.kIn hl) r2 hq) fun r s' eM=>?_))
 cases r with
 |error e=>exact hx pins σ _ _ e s' I2 eM
 |ok fl=>
  cases fl with
  |ret u=>
   obtain⟨v,H',I3,rv,ev,q3⟩:=I2.after eM
   subst ev
   exact⟨rv,⟨V.ref (s.heap.objs.size+1),H',I3,rfl,q3⟩⟩
  |next=>exact False.elim eM
  |brk=>exact False.elim eM
  |cont=>exact False.elim eM
def yw(M:Mk X.K C f)(F:FnOk X.prog X.w X.K X.mg X.base CX k f fd ps sp)(hr:Room (k+1) X.A)(hg:Gl X x)(hm:X.mg x=some (.ref C))(hb:Binds X.K fd ps ds)(hd:Vals dvs ds)(hx:L9 CX X E)
  (ha:PA X (e::es) t) (aW:(x==("__debug__":Str))=false:=by decide) (he:starEach (e::es) X.env=(false,eval e X.env)::starEach es X.env:=by rfl) (hpl:(backTo pos (starEach es X.env)).any (·.1)=false:=by rfl) :
  PE X (.Call (.Name x p) (e::es) [] pos) (Qd C sp dvs E t):=by
 intro pins s σ H Q I h
 refine FC (Vn I hg hm ?_ aW)
 refine PySem.W.callWith_K (h₀:=X.base) I.ok.mod.kin M.kp (thn (ha pos pins s σ H _ I h) fun us s1 ⟨vs,H1,I1,r,q⟩=>⟨I1.kIn,?_⟩) he hpl
 exact zU M F hr hb hd hx I1 r q
end
structure FnScope(N P:List Str)(sc:Scope):Prop where
 kind:sc.kind=.function
 co:sc.isCoroutine=false
 gen:sc.isGenerator=false
 nd:N.Nodup
 pre:N.take P.length=P
 par:∀x∈P,sc.names.lookup x=some .local\/sc.names.lookup x=some .cell
 nofree:∀y∈sc.names,y.2≠.free
theorem Yl{kindOf:Str->Option NameKind}{x:Str}:∀{binds:List (Str×Value)}{m:Str->Option Value},(∀v,(x,v)∉binds)->bindL kindOf binds m x=m x
 | [],_,_=>rfl
 | (n,v)::r,m,h=>by
  unfold bindL;rw[Yl fun w hw=>h w (dg _ hw)];split
  . have:x≠n:=by rintro rfl;exact h v gq
    simp[this]
  . rfl
theorem Yk{kindOf:Str->Option NameKind}{x:Str}:∀{binds:List (Str×Value)}{m:Str->Option Value},(∀v,(x,v)∉binds)->bindC kindOf binds m x=m x
 | [],_,_=>rfl
 | (n,v)::r,m,h=>by
  unfold bindC;rw[Yk fun w hw=>h w (dg _ hw)];split
  . rfl
  . have:x≠n:=by rintro rfl;exact h v gq
    simp[this]
theorem Yj{kindOf:Str->Option NameKind}{x:Str}{v:Value}:∀{P:List Str}{vs:List Value}{i:Nat}{m:Str->Option Value},P.Nodup->P[i]?=some x->vs[i]?=some v->kindOf x=some .local ->
  bindL kindOf (P.zip vs) m x=some v
 | [],_,_,_,_,h,_,_=>by simp at h
 |_::_,[],_,_,_,_,h,_=>by simp at h
 |p::P,w::vs,0,m,nd,h1,h2,hk=>by simp at h1 h2;subst h1;subst h2;show bindL kindOf ((p,w)::P.zip vs) m p=_;unfold bindL;rw[Yl fun v hv=>(CL.mp nd).1 (List.of_mem_zip hv).1,ζ hk];simp
 |p::P,w::vs,i+1,m,nd,h1,h2,hk=>by show bindL kindOf ((p,w)::P.zip vs) m x=_;unfold bindL;exact Yj (i:=i) (CL.mp nd).2 (by simpa using h1) (by simpa using h2) hk
theorem Yi{kindOf:Str->Option NameKind}{x:Str}{v:Value}:∀{P:List Str}{vs:List Value}{i:Nat}{m:Str->Option Value},P.Nodup->P[i]?=some x->vs[i]?=some v->kindOf x≠some .local ->
  bindC kindOf (P.zip vs) m x=some v
 | [],_,_,_,_,h,_,_=>by simp at h
 |_::_,[],_,_,_,_,h,_=>by simp at h
 |p::P,w::vs,0,m,nd,h1,h2,hk=>by simp at h1 h2;subst h1;subst h2;show bindC kindOf ((p,w)::P.zip vs) m p=_;unfold bindC;rw[Yk fun v hv=>(CL.mp nd).1 (List.of_mem_zip hv).1,ξ hk];simp
 |p::P,w::vs,i+1,m,nd,h1,h2,hk=>by show bindC kindOf ((p,w)::P.zip vs) m x=_;unfold bindC;exact Yi (i:=i) (CL.mp nd).2 (by simpa using h1) (by simpa using h2) hk
noncomputable def start(N:List Str)(vs:List V):St:=vs.map some++List.replicate (N.length - vs.length) none
def C9(CX:CXT)(P:Program)(w:World)(K:Frag)(mg:Str->Option Value)(base:Heap)(N:List Str)(qual:Str)(scope:Scope)(f:Addr)(cd:Value)(A:Around)(outer:List Env)(s:Shared)(H:Hp)(E:XK):Cx where
 prog:=P
 w:=w
 K:=K
 mg:=mg
 base:=base
 A:=A.deeper (envOfC qual scope s.heap.objs.size f cd)
 N:=N
 s₀:=s
 H₀:=H
 env:=envOfC qual scope s.heap.objs.size f cd
 outer:=outer
 stack:=envOfC qual scope s.heap.objs.size f cd::outer
 ex:=[]
 calm:=true
 fn:=fun _=>true
 pn:=[]
 xe:=fun e s'=>wpAny (model P w) (A.deeper (envOfC qual scope s.heap.objs.size f cd)) (leaving (envOfC qual scope s.heap.objs.size f cd) e) (fun _ fq=>CX outer H s E e fq) (fun e' fq=>CX outer H s E e' fq) s'
def Xd{sc:Scope}{n:Nat}{x:Str}(h:sc.names.lookup x=some .cell):∃c,(cellsFrom n sc.names []).lookup x=some c:=by have q:=PySem.W.cellsFrom_some sc.names n [] (.inl h);exact Option.isSome_iff_exists.mp q
def zjy{CX:CXT}{P:Program}{w:World}{K:Frag}{mg:Str->Option Value}{base:Heap}{N ps:List Str}{qual:Str}{scope:Scope}{f:Addr}{cd:Value}{A:Around}{outer:List Env}{s s1:Shared}{H:Hp}{E:XK}{us:List Value}{vs:List V}
  (S:FnScope N ps scope) (hd:A.handled=none) (e0:Env0 P w K mg base A outer s H) (hl:vs.length=ps.length) (r:Vals vs us)
  (x:InCallC s s.heap.objs.size (bindL (envOfC qual scope s.heap.objs.size f cd).kindOf (ps.zip us) fun _=>none) (cellsFrom (s.heap.objs.size+1) scope.names []) (bindC (envOfC qual scope s.heap.objs.size f cd).kindOf (ps.zip us) fun _=>none) s1) :
  Inv (C9 CX P w K mg base N qual scope f cd A outer s H E) [] (start N vs) H s1:=by
 have hpl:ps.length<=N.length:=by have:=DI List.length S.pre;rw[List.length_take]at this;lia
 obtain⟨h1,tk,rfl,hk⟩:=x.done
 have gH:∀b:Addr,b∉(C9 CX P w K mg base N qual scope f cd A outer s H E).ex:=fun b z=>absurd (show b∈([]:List Addr) from z) (by simp)
 refine⟨⟨e0.mod,S.kind,rfl,rfl,η _,fun y z c h1 h2=>?_,fun y hy=>?_,fun y c _ h=>?_,fun _=>hd,Around.frames_deeper e0.frames,.inr ⟨rfl,rfl⟩,fun b z=>absurd z (gH b),e0.bs,e0.bsz,fun b _ _=>gH b,fun b z=>absurd z (gH b),e0.funs,e0.frf⟩,
  rfl,e0.bare,Un.kept hk,⟨_,x.toInCall.ns,fun i y v h1 h2 h3=>?_⟩,fun y c h=>⟨_,x.cell y c h⟩,e0.hok.fresh (η _),fun y c h=>?_,fun p hp=>absurd (show p∈([]:List (Addr×Obj)) from hp) (by simp),e0.hok.kept hk,?_⟩
 . exact name_of_addr x.apart (EQ h1) (EQ h2)
 . have hy:scope.names.lookup y=some .cell\/scope.names.lookup y=some .free:=hy;rcases hy with hy |hy
   . exact Xd hy
   . exact absurd rfl (S.nofree _ (EQ hy))
 . exact FW (x.above y c (EQ h))
 . have hi:i<vs.length:=by
    unfold start at h2
    by_cases hi:i<vs.length
    . exact hi
    . rw[DH (by simpa using hi)]at h2;rw[List.getElem?_replicate]at h2;split at h2<;>cases h2
   have ha:vs[i]?=some v:=by
    unfold start at h2;rw[EL (by simpa using hi),CJ]at h2;cases e:vs[i]? with
    |none=>rw[e]at h2;cases h2
    |some a=>rw[e]at h2;cases h2;rfl
   obtain⟨u,hu,rv⟩:=r.get ha
   have hp:ps[i]?=some y:=by rw[<-S.pre,List.getElem?_take_of_lt (by lia)];exact h1
   have oB:ps.Nodup:=by rw[<-S.pre];exact S.nd.sublist (List.take_sublist _ _)
   refine⟨u,rv,?_⟩
   rcases S.par y (DQ hp) with k |k
   . exact .inl ⟨k,Yj oB hp hu k⟩
   . obtain⟨c,e⟩:=Xd (n:=s.heap.objs.size+1) k;refine .inr ⟨.inl k,c,e,?_⟩;have q:=x.cell y c e;rw[Yi oB hp hu (by show scope.names.lookup y≠_;rw[k];decide)]at q;exact q
 . exact e0.hok.fresh (FW (x.above y c (EQ h)))
 . unfold start;show _=N.length;rw[χ,bI,GO]
   lia
def Qc{CX:CXT}{P:Program}{w:World}{K:Frag}{mg:Str->Option Value}{base:Heap}{k:Nat}{f:Addr}{name qual:Str}{params:Arguments}{body:List Stmt}{scope:Scope}{dV kV doc pm cdv ct oc:Value}{an od:Option Addr}
  {osl:Array (Option Value)} {N ps:List Str} {sp:Sp} (lk:K.lookup f=some ⟨oc,od,.func (PySem.W.fnOf name qual params body scope dV kV doc pm an cdv ct),osl⟩) (bB:codeIn K cdv qual=true) (S:FnScope N ps scope)
  (len:∀vs H Q E,sp vs H Q E->vs.length=ps.length)
  (bg:∀(A:Around)(outer:List Env)(s:Shared)(H:Hp)(vs:List V)(Q:VK)(E:XK),Room k (A.deeper (envOfC qual scope s.heap.objs.size f cdv))->sp vs H Q E ->
   ∃t,PSs (C9 CX P w K mg base N qual scope f cdv A outer s H E) body t/\t { nx:=fun _ H'=>Q .non H',rt:=Q } (start N vs) H) :
  FnOk P w K mg base CX (k+1) f (PySem.W.fnOf name qual params body scope dV kV doc pm an cdv ct) ps sp:=by
 refine⟨len,fun A outer s H args us vs Q E hr e0 hb r dG=>?_⟩
 have hl:=len _ _ _ _ dG
 have KX:K.In s.heap:=e0.mod.kin.keeps fun b o e=>(e0.bs b o e).1
 have rD:s.heap.NoLimit:=e0.mod.nolimit.keeps fun b o e=>(e0.bs b o e).1
 have cP:∀y∈ps.zip us,scope.names.lookup y.1=some .local\/(scope.names.lookup y.1=some .cell/\((cellsFrom (s.heap.objs.size+1) scope.names []).lookup y.1).isSome=true):=fun⟨n,v⟩ hy=>by
  rcases S.par n (List.of_mem_zip hy).1 with q |q
  . exact .inl q
  . exact .inr ⟨q,PySem.W.cellsFrom_some _ _ _ (.inl q)⟩
 refine codeAny_call_function hr.depth (KX _ _ lk) rfl S.co S.gen rfl (PySem.W.codeRec_of KX bB) (hb _ _ _ _ ?_)
 refine wpAny_newFunctionEnv_cells S.kind cP fun env he s1 x=>?_
 subst he
 refine⟨rD.keeps x.toInCall.keep,codeAny_func ?_⟩
 obtain⟨t,ht,hq⟩:=bg A outer s H vs Q E (hr.deeper _) dG
 have I:Inv (C9 CX P w K mg base N qual scope f cdv A outer s H E) [] (start N vs) H s1:=zjy S hr.hd e0 hl r x
 refine EM (ht [] s1 (start N vs) H _ I hq) (fun fl s' hs=>?_) fun e s' hs=>hs
 have fin:∀{ac:St}{H':Hp}{v:V}{u:Value},Inv (C9 CX P w K mg base N qual scope f cdv A outer s H E) [] ac H' s'->RelV v u->Q v H'->CE outer P w H s Q u s':=
  fun {ac H' v u} J rv q=>⟨v,H',J.os,J.bare,J.base,J.hok,rv,q⟩
 cases fl with
 |ret u=>
  obtain⟨v,ac,H',J,rv,q⟩:=hs
  exact fin J rv q
 |next=>
  obtain⟨ac,H',J,q⟩:=hs
  exact fin (v:=V.non) (u:=Value.none) J rfl q
 |brk=>
  obtain⟨_,_,_,q⟩:=hs
  exact False.elim q
 |cont=>
  obtain⟨_,_,_,q⟩:=hs
  exact False.elim q
section
variable {X:Cx}{x:Str}{p pos:Pos}{e:Expr}{es:List Expr}{t:TA}{id T:String}{r:List V->Hp->VK->Prop}
noncomputable def tCB(r:List V->Hp->VK->Prop)(t:TA):TE:=fun σ H Q=>t σ H fun vs H1=>r vs H1 Q
def Xb(hc:CallR X (.builtin id) r)(hg:Gl X x)(hm:X.mg x=none)(hv:bootBuiltins x=some (.builtin id))(ha:PA X (e::es) t)(hn:x≠"__name__":=by decide)(aW:(x==("__debug__":Str))=false:=by decide)
  (he:starEach (e::es) X.env=(false,eval e X.env)::starEach es X.env:=by rfl) (hpl:(backTo pos (starEach es X.env)).any (·.1)=false:=by rfl):PE X (.Call (.Name x p) (e::es) [] pos) (tCB r t):=by
 intro pins s σ H Q I h
 refine FC (J6 I hg hm hv ?_ hn aW)
 exact PyProof.Rows.callWith_builtin1 (thn (ha pos pins s σ H _ I h) fun us s1 ⟨vs,H1,I1,r1,q1⟩=>hc pins s1 σ H1 vs us Q I1 r1 q1) he hpl
def zjz(hc:CallR X (.type T) r)(hg:Gl X x)(hm:X.mg x=none)(hv:bootBuiltins x=some (.type T))(ha:PA X (e::es) t)(hn:x≠"__name__":=by decide)(aW:(x==("__debug__":Str))=false:=by decide)
  (he:starEach (e::es) X.env=(false,eval e X.env)::starEach es X.env:=by rfl) (hpl:(backTo pos (starEach es X.env)).any (·.1)=false:=by rfl):PE X (.Call (.Name x p) (e::es) [] pos) (tCB r t):=by
 intro pins s σ H Q I h
 refine FC (J6 I hg hm hv ?_ hn aW)
 exact EF (thn (ha pos pins s σ H _ I h) fun us s1 ⟨vs,H1,I1,r1,q1⟩=>hc pins s1 σ H1 vs us Q I1 r1 q1) he hpl
end
end L2
namespace HT
open PySem PyProof.Rows
def rcLt_int(A:Around)(s:Shared)(a:Int)(t:Tok)(c:Int)(u:Tok)(prog:Program)(w:World)(E:Value->Shared->Prop)(Q:Value->Shared->Prop)(h:Q (.bool (decide (a<c))) s) :
  wpAny (model prog w) A (richCompare .Lt (.int a t) (.int c u)) Q E s:=
 (PyProof.Rows.lt_int h:wpAny (model prog w) A (compareOp .Lt (.int a t) (.int c u)) Q E s)
section
open PySem.SeqAt
open PySem.AutoSeq1 (wpAny_loadPart')
open PySem.MeetsSeq PySem.MeetsSeq2 PySem.MeetsSeq3
end
section
def sIx(n d:Nat):Option Int->Nat
 |none=>d
 |some v=>if v<0 then(v+(n:Int)).toNat else min v.toNat n
end
end HT
namespace L2
open PySem PySem.Spec PyProof.Rows
abbrev TO:=St->Hp->(Option Int->Hp->Prop)->Prop
def PO(X:Cx)(e:Option Expr)(t:TO):Prop:=
 ∀(pins:List (Addr×Obj))(s:Shared)(σ:St)(H:Hp)(Q:Option Int->Hp->Prop),Inv X pins σ H s->t σ H Q ->
  wpAny (model X.prog X.w) X.A (evalPart e X.env) (fun u s'=>∃o H',Inv X pins σ H' s'/\IsPart u o/\Q o H') X.xe s
noncomputable def y3e(t:TE):TO:=fun σ H Q=>t σ H fun x H1=>∃i,x=.int i/\Q (some i) H1
def Fc:∀{us:List Value},Vals (ns.map V.int) us->IntsAre us ns:=by
 induction ns with
 |nil=>intro us r;rw[CM]at r;cases r;exact .nil
 |cons n ns ih=>
  intro us r
  rw[gD]at r
  cases r with
  |cons r1 r2=>
   obtain⟨t,e⟩:=r1
   subst e
   exact .cons n t (ih r2)
section
variable {X:Cx}{e:Expr}{te:TE}{lo hi:Option Expr}{tl th:TO}{pos p2:Pos}
def yv(h:PE X e te):PO X (some e) (y3e te):=by
 intro pins s σ H Q I hw;rw[evalPart_some];refine thn (h pins s σ H _ I hw) fun u s1 ⟨x,H1,I1,r1,q1⟩=>?_
 obtain⟨i,rfl,q⟩:=q1;obtain⟨t,rfl⟩:=r1;exact⟨some i,H1,I1,.int i t,q⟩
def SlR(X:Cx)(r:V->Option Int->Option Int->Hp->VK->Prop):Prop:=
 ∀(pins:List (Addr×Obj))(s:Shared)(σ:St)(H:Hp)(x:V)(v vl vu:Value)(lo hi:Option Int)(sl:Addr)(Q:VK),Inv X pins σ H s->RelV x v->s.heap.IsSliceOf sl vl vu .none->IsPart vl lo->IsPart vu hi->r x lo hi H Q ->
  ∃T id,typeLookup (.type T) "__getitem__"=pure (some (.builtin id))/\s.TypeIs v T/\wpAny (model X.prog X.w) X.A (getItem v (.ref sl)) (EP X pins σ Q) X.xe s
noncomputable def tSl(r:V->Option Int->Option Int->Hp->VK->Prop)(te:TE)(tl th:TO):TE:=fun σ H Q=>te σ H fun x H1=>tl σ H1 fun l H2=>th σ H2 fun u H3=>r x l u H3 Q
def zT(hr:SlR X r)(he:PE X e te)(hl:PO X lo tl)(hu:PO X hi th):PE X (.Subscript e (.Slice lo hi none p2) pos) (tSl r te tl th):=by
 intro pins s σ H Q I h;refine Subscript_ (thn (he pins s σ H _ I h) fun v s1 ⟨x,H1,I1,r1,q1⟩=>?_);refine wpAny_Slice (thn (hl pins s1 σ H1 _ I1 q1) fun vl s2 ⟨l,H2,I2,pl,q2⟩=>thn (hu pins s2 σ H2 _ I2 q2) fun vu s3 ⟨u,H3,I3,pu,q3⟩=>?_);rw[evalPart_none];refine ω ?_;have I4:Inv X pins σ H3 { s3 with heap:=s3.heap.push { cls:=.type "slice",data:=.fields #[vl,vu,.none] } }:=I3.kept (t':=s3.toks) fun b ob q=>τ _ q
 obtain⟨T,id,hT,ht,hg⟩:=hr pins { s3 with heap:=s3.heap.push { cls:=.type "slice",data:=.fields #[vl,vu,.none] } } σ H3 x v vl vu l u s3.heap.objs.size Q I4 r1 (Heap.IsSliceOf.new ..) pl pu q3;show wpAny (model X.prog X.w) X.A (subscriptTail e (.Slice lo hi none p2) v (.ref s3.heap.objs.size)) (EP X pins σ Q) X.xe { s3 with heap:=s3.heap.push { cls:=.type "slice",data:=.fields #[vl,vu,.none] } };exact tail_any (ops:=[.ref s3.heap.objs.size,v]) ht hT hg (by with_unfolding_all rfl)
noncomputable def R5(xs:List V)(lo hi:Option Int):List V:=(xs.drop (HT.sIx xs.length 0 lo)).take (HT.sIx xs.length xs.length hi - HT.sIx xs.length 0 lo)
def zf1(xs:List V)(lo hi:Option Int):(R5 xs lo hi).length<=xs.length:=by unfold R5;rw[List.length_take,List.length_drop];omega
end
noncomputable def ixN(n:Nat)(i:Int):Option Nat:=if 0<=i then(if i<n then some i.toNat else none) else if -(n:Int)<=i then some (i+n).toNat else none
def atI{α:Type}(xs:List α)(i:Int):Option α:=(ixN xs.length i).bind fun j=>xs[j]?
def Vm(h:ixN n i=some j):seqIndex? i n=some j/\j<n/\-(n:Int)<=i/\i<n:=by
 unfold ixN at h;by_cases h0:0<=i
 . rw[ζ h0]at h;by_cases h1:i<n
   . rw[ζ h1]at h;have e:i.toNat=j:=Option.some.inj h;exact⟨by rw[seqIndex_of h0 h1,e],by lia,by lia,h1⟩
   . rw[ξ h1]at h;cases h
 . rw[ξ h0]at h;by_cases h1:-(n:Int)<=i
   . rw[ζ h1]at h;have e:(i+n).toNat=j:=Option.some.inj h;exact⟨by rw[seqIndex_neg (by lia) h1,e],by lia,h1,by lia⟩
   . rw[ξ h1]at h;cases h
def Km(h:atI xs i=some v):∃j,seqIndex? i xs.length=some j/\xs[j]?=some v/\j<xs.length/\-(xs.length:Int)<=i/\i<xs.length:=by
 unfold atI at h;cases e:ixN xs.length i with
 |none=>rw[e]at h;cases h
 |some j=>
  rw[e]at h
  obtain⟨h1,h2,h3,h4⟩:=Vm e
  exact⟨j,h1,h,h2,h3,h4⟩
def Kl{α:Type}{xs:List α}{j:Nat}{v:α}(h:xs[j]?=some v):atI xs (j:Int)=some v:=by
 have hj:j<xs.length:=(CU.mp h).1;have e:ixN xs.length (j:Int)=some j:=by unfold ixN;rw[ζ (by lia),ζ (by lia)];simp
 unfold atI;rw[e];exact h
def zS(xs:List α)(v:α):atI (xs++[v]) (-1)=some v:=by
 have hl:(xs++[v]).length=xs.length+1:=by simp
 have e:ixN (xs++[v]).length (-1)=some xs.length:=by
  unfold ixN;rw[hl,ξ (by decide),ζ (by lia)];congr 1
  lia
 unfold atI;rw[e];show(xs++[v])[xs.length]?=some v;simp
def Kk(b:Expr):Prop:=∀o i,subscripted b false o i=operate [o,i] (getItem o i)
def IxR(X:Cx)(r:R2):Prop:=
 ∀(value slice:Expr)(pins:List (Addr×Obj))(s:Shared)(σ:St)(H:Hp)(x y:V)(v u:Value)(Q:VK),Inv X pins σ H s->RelV x v->RelV y u->r x y H Q ->
  subscripted slice false v u=operate [v,u] (getItem v u)->wpAny (model X.prog X.w) X.A (subscriptTail value slice v u) (EP X pins σ Q) X.xe s
def MtR(X:Cx)(id:String)(r:V->List V->Hp->VK->Prop):Prop:=
 ∀(pins:List (Addr×Obj))(s:Shared)(σ:St)(H:Hp)(x:V)(xs:List V)(v:Value)(us:List Value)(Q:VK),Inv X pins σ H s->RelV x v->Vals xs us->r x xs H Q ->
  wpAny (model X.prog X.w) X.A (call (.builtin id) (v::us)) (EP X pins σ Q) X.xe s
section
variable {X:Cx}{a b:Expr}{ta tb:TE}{pos:Pos}
def IxR.or(h:IxR X r)(h':IxR X r'):IxR X (fun x y H Q=>r x y H Q\/r' x y H Q):=by
 intro value slice pins s σ H x y v u Q I rx ry q hs;rcases q with q |q
 . exact h value slice pins s σ H x y v u Q I rx ry q hs
 . exact h' value slice pins s σ H x y v u Q I rx ry q hs
def y3f(hr:IxR X r)(ha:PE X a ta)(hb:PE X b tb)(hs:Kk b):PE X (.Subscript a b pos) (tOp r ta tb):=by intro pins s σ H Q I h;exact Subscript_ (Oz ha hb I h fun v u s2 x y H2 I2 rx ry q=>hr a b pins s2 σ H2 x y v u Q I2 rx ry q (hs _ _))
def qr(K:Frag):R2:=fun x y H Q=>∃p xs i v,x=.ref p/\y=.int i/\SqL K H p xs/\atI xs i=some v/\Q v H
def qq(K:Frag):R2:=fun x y H Q=>∃p xs i v,x=.ref p/\y=.int i/\SqT K H p xs/\atI xs i=some v/\Q v H
def qp:R2:=fun x y H Q=>∃z i c,x=.str z/\y=.int i/\z.length<=sizeLine/\atI z.cps.toList i=some c/\Q (.str ⟨#[c]⟩) H
theorem ix_list:IxR X (qr X.K):=by
 intro value slice pins s σ H x y v u Q I rx ry h hs;obtain⟨p,xs,i,z,rfl,rfl,hq,he,q⟩:=h;cases rx;obtain⟨t,rfl⟩:=ry;obtain⟨its,r,pl,hz⟩:=I.list hq;obtain⟨j,h1,h2,h3,h4,h5⟩:=Km he;obtain⟨w,ew,bD⟩:=r.get h2;have hl:=r.length;have hn:=O3;have fin:EP X pins σ Q w s:=⟨z,H,I,bD,q⟩;by_cases h0:0<=i
 . have hj:i.toNat=j:=by
    rw[seqIndex_of h0 h5]at h1
    exact Option.some.inj h1
   exact item_listR pl.isList h0 (by lia) (by rw[hj];simpa using ew) fin hs
 . have hj:(i+(its.toArray.size:Int)).toNat=j:=by
    rw[seqIndex_neg (by lia) h4]at h1
    rw[nF,<-hl]
    exact Option.some.inj h1
   exact subscriptTail_builtinR (x:=w) pl.isList.typeIs slot_list_getitem.lookup
    (wpAny_getItem_list_neg (Q:=fun r s'=>r=w/\EP X pins σ Q r s') pl.isList (by lia) (by rw[nF]<;>lia) (by lia) (by rw[hj];simpa using ew) ⟨rfl,fin⟩) hs
theorem ix_tup:IxR X (qq X.K):=by
 intro value slice pins s σ H x y v u Q I rx ry h hs;obtain⟨p,xs,i,z,rfl,rfl,hq,he,q⟩:=h;cases rx;obtain⟨t,rfl⟩:=ry;obtain⟨its,r,pl,hz⟩:=I.tuple hq;obtain⟨j,h1,h2,h3,h4,h5⟩:=Km he;obtain⟨w,ew,bD⟩:=r.get h2;have hl:=r.length;have hn:=O3;have fin:EP X pins σ Q w s:=⟨z,H,I,bD,q⟩;exact subscriptTail_builtinR (x:=w) pl.typeIs slot_tuple_getitem.lookup
  (getItem_tuple (j:=j) (Q:=fun r s'=>r=w/\EP X pins σ Q r s') pl (by lia) (by lia) (by rw[nF,<-hl];exact h1) (by simpa using ew) ⟨rfl,fin⟩) hs
theorem vX:IxR X qp:=by
 intro value slice pins s σ H x y v u Q I rx ry h hs;obtain⟨z,i,c,rfl,rfl,hz,he,q⟩:=h;obtain⟨t,rfl⟩:=rx;obtain⟨t',rfl⟩:=ry;obtain⟨j,h1,h2,h3,h4,h5⟩:=Km he;have hl:z.cps.toList.length=z.length:=by simp[Str.length]
 rw[hl]at h1 h4 h5;have hn:=O3;exact tail_any (typeIs_str s z t) slot_str_getitem.lookup (getItem_str (c:=c) (by have e1:decide (i < -(2 ^ 63:Int))=false:=decide_eq_false (by lia);have e2:decide (i ≥ 2 ^ 63)=false:=decide_eq_false (by lia);rw[e1,e2,Bool.or_false]) (by rw[h1];simpa using h2) ⟨.str ⟨#[c]⟩,H,I.tok _,⟨_,rfl⟩,q⟩) hs
def rIx(K:Frag):R2:=fun x y H Q=>qr K x y H Q\/qq K x y H Q\/qp x y H Q
def ix_seq:IxR X (rIx X.K):=ix_list.or (ix_tup.or vX)
def zih(its:List Value)(n j:Nat)(u:Value):Obj.mapSeq (·.setIfInBounds j u) { cls:=.type "list",data:=.seq its.toArray n }={ cls:=.type "list",data:=.seq (its.set j u).toArray n }:=by simp[Obj.mapSeq]
def Inv.lst(I:Inv X pins σ H s)(h:H p=some (.lst xs)) :
  ∃(its:List Value)(n:Nat),Vals xs its/\s.heap.get? p=some { cls:=.type "list",data:=.seq its.toArray n }/\xs.length<=sizeLine:=by
 obtain⟨z,its,n,r,e⟩:=I.hok p _ h
 exact⟨its,n,r,e,z⟩
theorem Inv.lstUpd{pins:List (Addr×Obj)}{σ:St}{H:Hp}{s:Shared}{p:Addr}{xs ys:List V}{its its':List Value}{n n':Nat}{f:Obj->Obj}(I:Inv X pins σ H s)(h:H p=some (.lst xs))
  (ho:s.heap.get? p=some { cls:=.type "list",data:=.seq its.toArray n }) (hf:f { cls:=.type "list",data:=.seq its.toArray n }={ cls:=.type "list",data:=.seq its'.toArray n' }) (r:Vals ys its') (hz:ys.length<=sizeLine) (t:Nat) :
  Inv X pins σ (upd H p (.lst ys)) { s with heap:=s.heap.update p f,toks:=t }:=by
 have e:(s.heap.update p f).get? p=some { cls:=.type "list",data:=.seq its'.toArray n' }:=by rw[FY f ho (by rw[hf]<;>rfl),hf]
 refine I.write (x:=p) (e:=p) (by rw[h];trivial) (.inl rfl) (fun b u hb q=>(DL _ _ (FP hb)).trans q) ⟨_,e⟩ ?_
 exact⟨hz,its',n',r,e⟩
def Qb:V->V->V->Hp->(Hp->Prop)->Prop:=fun o i v H Q=>∃p xs k j,o=.ref p/\i=.int k/\H p=some (.lst xs)/\ixN xs.length k=some j/\Q (upd H p (.lst (xs.set j v)))
theorem zR:Gg X Qb:=by
 intro pins s σ H o i v ov iv u Q I ro ri rv h;obtain⟨p,xs,k,j,rfl,rfl,hp,hj,q⟩:=h;cases ro;obtain⟨t,rfl⟩:=ri;obtain⟨its,n,r,ho,hz⟩:=I.lst hp;obtain⟨h1,h2,h3,h4⟩:=Vm hj;have hl:=r.length;have hn:=O3;have I':Inv X pins σ (upd H p (.lst (xs.set j v))) { s with heap:=s.heap.update p (Obj.mapSeq (·.setIfInBounds j u)) }:=
  I.lstUpd hp ho (zih its n j u) (r.set rv j) (by rw[DU];exact hz) s.toks
 by_cases h0:0<=k
 . have hk:k.toNat=j:=by
    rw[seqIndex_of h0 h4]at h1
    exact Option.some.inj h1
   exact PySem.W.ki_setAt ho h0 (by lia) (by rw[nF,<-hl];exact h4) (by rw[hk];exact⟨_,I',q⟩)
 . have hk:(k+(its.toArray.size:Int)).toNat=j:=by
    rw[seqIndex_neg (by lia) h3]at h1
    rw[nF,<-hl]
    exact Option.some.inj h1
   exact PySem.W.ki_setBack ho (by lia) (by rw[nF,<-hl];exact h3) (by lia) (by rw[hk];exact⟨_,I',q⟩)
theorem zd2(lo hi:Option Int)(n:Nat):(sliceBounds lo hi none n).1=((HT.sIx n 0 lo:Nat):Int)/\(sliceBounds lo hi none n).2.1=((HT.sIx n n hi:Nat):Int)/\(sliceBounds lo hi none n).2.2=1:=by
 refine⟨?_,?_,rfl⟩
 . cases lo with
   |none=>simp[sliceBounds,HT.sIx]
   |some i=>
    simp only[sliceBounds,HT.sIx,Option.getD_none,show(1:Int) > 0 by decide,DY]
    by_cases h:i<0
    . simp only[h,DY]<;>lia
    . simp only[h,DG]<;>lia
 . cases hi with
   |none=>simp[sliceBounds,HT.sIx]
   |some i=>
    simp only[sliceBounds,HT.sIx,Option.getD_none,show(1:Int) > 0 by decide,DY]
    by_cases h:i<0
    . simp only[h,DY]<;>lia
    . simp only[h,DG]<;>lia
def zbf(its:List Value)(lo hi:Option Int):slicePick its.toArray lo hi none=((its.drop (HT.sIx its.length 0 lo)).take (HT.sIx its.length its.length hi - HT.sIx its.length 0 lo)).toArray:=by obtain⟨h1,h2,h3⟩:=zd2 lo hi its.toArray.size;unfold slicePick;rw[h1,h2,h3];simp only[sliceRange_one,pick_run,nF]<;>rfl
def qo(K:Frag):V->Option Int->Option Int->Hp->VK->Prop:=fun x lo hi H Q=>∃a xs,x=.ref a/\SqL K H a xs/\∀p,H p=none->Q (.ref p) (upd H p (.lst (R5 xs lo hi)))
theorem yu:SlR X (qo X.K):=by intro pins s σ H x v vl vu lo hi sl Q I rx hs pl pu h;obtain⟨a,xs,rfl,hx,q⟩:=h;cases rx;obtain⟨its,r,ht,hz⟩:=I.list hx;have ae:=r.length;refine⟨"list",_,slot_list_getitem.lookup,ht.isList.typeIs,?_⟩;refine wpAny_getItem_list_slice ht.isList hs pl pu .none (by simp) ?_ (by rw[nF]<;>lia);rw[zbf,<-ae];refine⟨.ref s.heap.objs.size,_,I.laid (t':=s.toks) (o:=.lst (R5 xs lo hi)) (fun b ob q=>τ _ q) (η _) ?_,rfl,q _ (I.hok.fresh (η _))⟩;exact⟨CD (zf1 xs lo hi) hz,_,0,(r.drop (HT.sIx xs.length 0 lo)).take (HT.sIx xs.length xs.length hi - HT.sIx xs.length 0 lo),Ψ _ rfl⟩
theorem call_len_seq:CallR X (.builtin "len") (fun xs H Q=>∃p ys,xs=[.ref p]/\(SqL X.K H p ys\/SqT X.K H p ys)/\Q (.int ys.length) H):=by
 intro pins s σ H xs us Q I r h;obtain⟨p,ys,rfl,hq,q⟩:=h;obtain⟨u,rfl,rx⟩:=r8 r;cases rx;have hn:=O3;rcases hq with hq |hq
 . obtain⟨its,r',pl,hz⟩:=I.list hq;have ae:=r'.length;exact Calls.call_len_list pl.isList (by simp only[nF]<;>lia) ⟨.int ys.length,H,I.tok _,⟨s.toks+1,by rw[nF,ae]⟩,q⟩
 . obtain⟨its,r',pl,hz⟩:=I.tuple hq;have ae:=r'.length;exact len_tuple pl (by simp only[nF]<;>lia) ⟨.int ys.length,H,I.tok _,⟨s.toks+1,by rw[nF,ae]⟩,q⟩
theorem zd3:CallR X (.builtin "len") (fun xs H Q=>∃z,xs=[.str z]/\z.length<=sizeLine/\Q (.int z.length) H):=by intro pins s σ H xs us Q I r h;obtain⟨z,rfl,hz,q⟩:=h;obtain⟨u,rfl,t,rfl⟩:=r8 r;have hn:=O3;exact len_str (by lia) ⟨.int z.length,H,I.tok _,⟨_,rfl⟩,q⟩
def CallR.or(h:CallR X f r)(h':CallR X f r'):CallR X f (fun xs H Q=>r xs H Q\/r' xs H Q):=by
 intro pins s σ H xs us Q I rs q;rcases q with q |q
 . exact h pins s σ H xs us Q I rs q
 . exact h' pins s σ H xs us Q I rs q
theorem zd4:CallR X (.type "list") (fun xs H Q=>∃p ys,xs=[.ref p]/\(SqL X.K H p ys\/SqT X.K H p ys)/\∀l,H l=none->Q (.ref l) (upd H l (.lst ys))):=by
 intro pins s σ H xs us Q I r h;obtain⟨p,ys,rfl,hq,q⟩:=h;obtain⟨u,rfl,rx⟩:=r8 r;cases rx;have fin:∀(its:List Value),Vals ys its->ys.length<=sizeLine->∀(h':Heap)(c':Nat),(∀b o',s.heap.get? b=some o'->h'.get? b=some o') ->
   h'.get? s.heap.objs.size=some { cls:=.type "list",dict:=none,data:=.seq its.toArray c',slots:=#[] }->EP X pins σ Q (.ref s.heap.objs.size) { s with heap:=h' }:=fun its r' hz h' c' kp e=>
  ⟨.ref s.heap.objs.size,_,I.laid (t':=s.toks) kp (η _) (show ObjOk X.prog X.w _ h' _ (.lst ys) from⟨hz,its,c',r',e⟩),rfl,q _ (I.hok.fresh (η _))⟩
 rcases hq with hq |hq
 . obtain⟨its,r',pl,hz⟩:=I.list hq;have ae:=r'.length;obtain⟨o,ho,hc,n,hd⟩:=pl.isList;exact call_list_seq p (.inl rfl) ho hc hd (fun h' c' kp e=>fin its r' hz h' c' kp e) (by simp only[nF]<;>lia)
 . obtain⟨its,r',pl,hz⟩:=I.tuple hq;have ae:=r'.length;obtain⟨o,ho,hc,n,hd⟩:=pl;exact call_list_seq p (.inr rfl) ho hc hd (fun h' c' kp e=>fin its r' hz h' c' kp e) (by simp only[nF]<;>lia)
theorem zbg:CallR X (.type "tuple") (fun xs H Q=>∃p ys,xs=[.ref p]/\((SqL X.K H p ys/\∀l,H l=none->Q (.ref l) (upd H l (.tup ys)))\/(SqT X.K H p ys/\Q (.ref p) H))):=by
 intro pins s σ H xs us Q I r h;obtain⟨p,ys,rfl,h⟩:=h;obtain⟨u,rfl,rx⟩:=r8 r;cases rx;rcases h with⟨hq,q⟩ |⟨hq,q⟩
 . obtain⟨its,r',pl,hz⟩:=I.list hq;have ae:=r'.length;refine call_tuple_list pl.isList (fun h' kp=>?_) (by simp only[nF]<;>lia);have I1:Inv X pins σ H { s with heap:=h' }:=I.kept (t':=s.toks) kp;have I2:Inv X pins σ (upd H h'.objs.size (.tup ys)) { s with heap:=h'.push { cls:=.type "tuple",data:=.seq its.toArray } }:=
    I1.laid (t':=s.toks) (fun b o e=>τ _ e) (η _) (show ObjOk X.prog X.w _ _ _ (.tup ys) from⟨hz,its,r',.mk' (Ψ _ rfl)⟩)
   exact⟨.ref h'.objs.size,_,I2,rfl,q _ (I1.hok.fresh (η _))⟩
 . obtain⟨its,r',pl,hz⟩:=I.tuple hq;exact call_tuple_same pl ⟨.ref p,H,I,rfl,q⟩
def tyV(K:Frag)(T:String)(x:V)(H:Hp):Prop:=match x with
 | .str _=>T="str"
 | .int _=>T="int"
 | .ref p=>(T="list"/\∃xs,SqL K H p xs)\/(T="tuple"/\∃o,K.lookup p=some o/\o.cls=.type "tuple"/\o.dict=none) \/
  (T="dict"/\((∃kvs,H p=some (.dK kvs))\/∃kvs,H p=some (.dT kvs)))\/(T="set"/\∃S n,H p=some (.set S n))
 |_=>False
def vW(I:Inv X pins σ H s)(r:RelV x v)(ty:tyV X.K T x H) :
  s.TypeIs v T/\∀a,v=.ref a->∃ob,s.heap.get? a=some ob/\ob.dict=none:=by
 cases x with
 |str z=>
  obtain⟨t,rfl⟩:=r
  cases (show T="str" from ty)
  exact⟨typeIs_str s z t,fun _ e=>nomatch e⟩
 |int i=>
  obtain⟨t,rfl⟩:=r
  cases (show T="int" from ty)
  exact⟨typeIs_int s i t,fun _ e=>nomatch e⟩
 |ref p=>
  cases r
  rcases ty with⟨rfl,xs,hq⟩ |⟨rfl,o,hk,hc,hd⟩ |⟨rfl,hk⟩ |⟨rfl,S,n,hk⟩
  . obtain⟨its,_,pl,_⟩:=I.list hq;refine⟨pl.isList.typeIs,fun a e=>?_⟩;cases e;obtain⟨o,n,e,c,hd,_⟩:=pl;exact⟨o,e,hd⟩
  . refine⟨⟨o,I.kIn p o hk,hc⟩,fun a e=>?_⟩;cases e;exact⟨o,I.kIn _ o hk,hd⟩
  . have z:∃o,s.heap.get? p=some o/\o.ExactDict:=by
     rcases hk with⟨kvs,hk⟩ |⟨kvs,hk⟩
     . obtain⟨_,_,_,_,o,_,_,e,ex,_⟩:=I.hok p _ hk;exact⟨o,e,ex⟩
     . obtain⟨_,_,_,_,o,_,_,e,ex,_⟩:=I.hok p _ hk;exact⟨o,e,ex⟩
    obtain⟨o,e,ex⟩:=z
    refine⟨⟨o,e,ex.1⟩,fun a e2=>?_⟩
    cases e2
    exact⟨o,e,ex.2.1⟩
  . obtain⟨o,_,_,_,e,ex,_⟩:=I.hok p _ hk;refine⟨⟨o,e,ex.1⟩,fun a e2=>?_⟩;cases e2;exact⟨o,e,ex.2.1⟩
 |_=>exact False.elim ty
def tBM(K:Frag)(T:String)(r:V->List V->Hp->VK->Prop)(to:TE)(t:TA):TE:=fun σ H Q=>to σ H fun x H1=>tyV K T x H1/\t σ H1 fun xs H2=>r x xs H2 Q
variable {o e:Expr}{es:List Expr}{to:TE}{t:TA}{name:Str}{aq ag:Pos}{T id:String}{r:V->List V->Hp->VK->Prop}
def Cs(pa:PlainAttrs T)(slot:Slot T name id)(dy:typeOf (.builtin id)=pure (.type "method_descriptor"))(hm:MtR X id r)(ho:PE X o to)(ha:PA X (e::es) t)
  (aP:attributeBase o name X.env (eval o X.env)=eval o X.env:=by rfl)
  (bK:((backTo ag (starEach (e::es) X.env)).all (fun x=>!x.1)&&(backToKw ag (keywordEach [] X.env)).all (fun x=>x.1.isSome)
   && decide ((e::es).length+([]:List Keyword).length+(if([]:List Keyword).isEmpty then 0 else 1)<30))=true:=by rfl)
  (aQ:(aq.endLine==ag.line)=true:=by rfl) (hs:starEach (e::es) X.env=(false,eval e X.env)::starEach es X.env:=by rfl) (aG:(backTo ag (starEach es X.env)).any (·.1)=false:=by rfl) :
  PE X (.Call (.Attribute o name aq) (e::es) [] ag) (tBM X.K T r to t):=by
 intro pins s σ H Q I h
 refine wpAny_Call_method_late aP bK aQ rfl (thn (ho pins s σ H _ I h) fun v s1 ⟨x,H1,I1,r1,ty,q1⟩=>?_)
 obtain⟨h1,h2⟩:=vW I1 r1 ty
 refine⟨T,id,pa,slot,dy,h1,h2,?_⟩
 have hA:=ha ag pins s1 σ H1 _ I1 q1
 rw[hs]at hA⊢
 refine Calls.callWith_builtin (by show(false||(backTo ag (starEach es X.env)).any (·.1))=false;rw[aG]<;>rfl) (Calls.evalArgs_plain ?_)
 exact thn hA fun us s2 ⟨vs,H2,I2,r2,q2⟩=>hm pins s2 σ H2 x vs v us Q I2 r1 r2 q2
end
def MtM(X:Cx)(id:String)(r:V->List V->Hp->VK->Prop):Prop:=
 ∀(pins:List (Addr×Obj))(s:Shared)(σ:St)(H:Hp)(x:V)(xs:List V)(v:Value)(us:List Value)(Q:VK),Inv X pins σ H s->RelV x v->Vals xs us->r x xs H Q ->
  wpAny (model X.prog X.w) X.A (call (.builtin id) (v::us)) (EP X pins σ Q) X.xe s
theorem Vals.one:∀{x:V}{us:List Value},Vals [x] us->∃u,us=[u]/\RelV x u
 |_,_,.cons r .nil=>⟨_,rfl,r⟩
theorem Vals.rep(h:Vals xs us):∀k:Nat,Vals (List.replicate k xs).flatten (List.replicate k us).flatten
 | 0=>.nil
 |k+1=>by rw[EK,EK,FD,FD];exact Vals.append h (Vals.rep h k)
theorem Yh(its:List Value):∀(k:Nat)(acc:List Value),
  List.foldl (fun x1 x2=>x1++x2) acc.toArray (List.replicate k its.toArray)=(acc++(List.replicate k its).flatten).toArray
 | 0,acc=>by simp
 |k+1,acc=>by
  have e:acc.toArray++its.toArray=(acc++its).toArray:=by simp
  have e2:(acc++its)++(List.replicate k its).flatten=acc++(List.replicate (k+1) its).flatten:=by rw[EK,FD,GL]
  rw[<-e2,<-Yh its k (acc++its),<-e,EK,List.foldl_cons]
section
variable {X:Cx}{pins:List (Addr×Obj)}{σ:St}{H:Hp}{s:Shared}{l:Addr}{xs ys:List V}
def Inv.lset{its its':List Value}{n:Nat}{f:Array Value->Array Value}{t':Nat}(I:Inv X pins σ H s)(hH:H l=some (.lst xs))
  (e:s.heap.get? l=some { cls:=.type "list",data:=.seq its.toArray n }) (hf:f its.toArray=its'.toArray) (hv:Vals ys its') (hz:ys.length<=sizeLine) :
  Inv X pins σ (upd H l (.lst ys)) { s with heap:=s.heap.update l (Obj.mapSeq f),toks:=t' }:=by
 have q:=PySem.IsL.update e f
 rw[hf]at q
 refine I.write (x:=l) (e:=l) (by rw[hH];exact trivial) (.inl rfl) (fun b' u hb hu=>(DL s.heap (Obj.mapSeq f) (FP hb)).trans hu) ⟨_,q⟩ ?_
 exact⟨hz,its',_,hv,q⟩
def Inv.lnew(I:Inv X pins σ H s)(hv:Vals ys its)(hz:ys.length<=sizeLine) :
  Inv X pins σ (upd H s.heap.objs.size (.lst ys)) { s with heap:=s.heap.push { cls:=.type "list",data:=.seq its.toArray },toks:=t' }:=
 I.laid (fun _ _ q=>τ _ q) (η _) ⟨hz,its,0,hv,Ψ _ rfl⟩
def Inv.fresh(I:Inv X pins σ H s):H s.heap.objs.size=none:=I.hok.fresh (η _)
def Inv.lstM(I:Inv X pins σ H s)(hH:H l=some (.lst xs)):xs.length<=sizeLine/\∃(its:List Value)(n:Nat),Vals xs its/\xs.length=its.length/\s.heap.get? l=some { cls:=.type "list",data:=.seq its.toArray n }:=by obtain⟨z,its,n,r,e⟩:=I.hok l _ hH;exact⟨z,its,n,r,r.length,e⟩
theorem Xa(h:n<=sizeLine):Builtin.List.listTooLong n=false:=by unfold Builtin.List.listTooLong;exact decide_eq_false (by lia)
end
section
variable {X:Cx}
def Vl:V->List V->Hp->VK->Prop:=fun x vs H Q=>∃l xs y,x=.ref l/\vs=[y]/\H l=some (.lst xs)/\xs.length<sizeLine/\Q .non (upd H l (.lst (xs++[y])))
def E4:MtM X "list.append" Vl:=by
 intro pins s σ H x vs v us Q I rx rv h;obtain⟨l,xs,y,rfl,rfl,hH,hz,q⟩:=h;cases rx;obtain⟨u,rfl,ru⟩:=rv.one;obtain⟨z,its,n,r,hl,e⟩:=I.lstM hH;refine call_meets F.slot_list_append ⟨_,e,rfl⟩ F.entry_list_append (F.args_list_append_2 _ _) (PySem.list_append l its.toArray n u (by rw[nF];lia)) ⟨e,?_⟩;refine⟨.non,_,I.lset (its':=its++[u]) hH e (by simp) (r.append (.cons ru .nil)) ?_,rfl,q⟩;rw[χ,CZ]
 lia
def Vk:V->List V->Hp->VK->Prop:=fun x vs H Q=>∃l b xs zs,x=.ref l/\vs=[.ref b]/\H l=some (.lst xs)/\H b=some (.lst zs)/\xs.length+zs.length<=sizeLine/\Q .non (upd H l (.lst (xs++zs)))
def zk3:MtM X "list.extend" Vk:=by
 intro pins s σ H x vs v us Q I rx rv h;obtain⟨l,b,xs,zs,rfl,rfl,hH,hB,hz,q⟩:=h;cases rx;obtain⟨u,rfl,ru⟩:=rv.one;cases ru;obtain⟨z,its,n,r,hl,e⟩:=I.lstM hH;obtain⟨z2,ar,n2,r2,gI,e2⟩:=I.lstM hB;have hsz:its.toArray.size+ar.toArray.size<=sizeLine:=by rw[nF,nF];lia
 have fc:¬(!its.toArray.isEmpty&&Builtin.List.listTooLong (its.toArray.size+ar.toArray.size))=true:=by rw[Xa hsz,Bool.and_false];exact θ
 refine call_meets F.slot_list_extend ⟨_,e,rfl⟩ F.entry_list_extend (F.args_list_extend_2 _ _)
  (AutoSeq1.list_extend_list_list_0 l its.toArray n b ar.toArray n2 fc (by rw[nF];lia) (by lia)) ⟨e,e2,?_⟩
 refine⟨.non,_,I.lset (its':=its++ar) hH e (by simp) (r.append r2) ?_,rfl,q⟩;rw[χ]
 lia
def qh:R2:=fun x y H Q=>∃l b xs zs,x=.ref l/\y=.ref b/\H l=some (.lst xs)/\H b=some (.lst zs)/\xs.length+zs.length<=sizeLine/\∀p,H p=none->Q (.ref p) (upd H p (.lst (xs++zs)))
def Dq:OpR X (binaryOp .Add) qh:=by
 intro pins s σ H x y v u Q I rx ry h;obtain⟨l,b,xs,zs,rfl,rfl,hH,hB,hz,q⟩:=h;cases rx;cases ry;obtain⟨z,its,n,r,hl,e⟩:=I.lstM hH;obtain⟨z2,ar,n2,r2,gI,e2⟩:=I.lstM hB;refine PySem.P.add_list e e2 ?_ (by rw[nF,nF];omega);have ea:its.toArray++ar.toArray=(its++ar).toArray:=by simp
 rw[ea];exact⟨.ref _,_,I.lnew (t':=s.toks) (r.append r2) (by rw[χ];omega),rfl,q _ I.fresh⟩
def qf:R2:=fun x y H Q=>∃l k xs,x=.ref l/\y=.int k/\H l=some (.lst xs)/\-(2 ^ 63)<=k/\k<2 ^ 63/\xs.length * k.toNat<=sizeLine /\
 ∀p,H p=none->Q (.ref p) (upd H p (.lst (List.replicate k.toNat xs).flatten))
def yt(xs:List α)(k:Nat):(List.replicate k xs).flatten.length=k * xs.length:=by
 induction k with
 |zero=>simp
 |succ k ih=>rw[EK,FD,χ,ih,Nat.succ_mul,Nat.add_comm]
def vV:OpR X (binaryOp .Mult) qf:=by
 intro pins s σ H x y v u Q I rx ry h;obtain⟨l,k,xs,rfl,rfl,hH,h1,h2,hz,q⟩:=h;cases rx;obtain⟨t,rfl⟩:=ry;obtain⟨z,its,n,r,hl,e⟩:=I.lstM hH;have ae:its.toArray.size * k.toNat<=sizeLine:=by rw[nF,<-hl];exact hz
 have nK:¬its.toArray.size * k.toNat > (2 ^ 63 - 1) / 8:=by
  have:(sizeLine:Nat)<=(2 ^ 63 - 1) / 8:=by decide
  lia
 have nL:¬(!Builtin.List.listFitsIndex k)=true:=by rw[fitsIndex_both h1 h2];exact θ
 have fc:¬Builtin.List.listTooLong (its.toArray.size * k.toNat)=true:=by rw[Xa ae];exact θ
 have nM:List.foldl (fun x1 x2=>x1++x2) #[] (List.replicate (if its.toArray.isEmpty=true then 0 else k.toNat) its.toArray)=(List.replicate k.toNat its).flatten.toArray:=by
  have f0:∀m:Nat,List.foldl (fun x1 x2=>x1++x2) #[] (List.replicate m its.toArray)=(List.replicate m its).flatten.toArray:=fun m=>by have:=Yh its m [];rw[DT]at this;exact this
  rw[f0];cases its with
  |nil=>simp
  |cons a r'=>rw[ξ (by simp)]
 refine wpAny_binaryOp_repeat_ref (T:="list") (U:="int") (by decide) ⟨_,e,rfl⟩ (fun s'=>typeIs_int s' k t) noFill_list_mul F.fills_int_mul F.slot_int_rmul repeat_list F.slot_int_index.lookup
  (call_meets F.slot_int_rmul (typeIs_int s k t) F.entry_int_rmul (F.args_int_rmul_2 _ _) (int___rmul___int_list k t l its.toArray n)
   ⟨e,rfl,⟨_,e,rfl⟩,call_meets F.slot_list_mul ⟨_,e,rfl⟩ F.entry_list_mul (F.args_list_mul_2 _ _) (AutoListH.list___mul___list_int_3 l its.toArray n k t nL nK fc) ⟨e,?_⟩⟩)
 rw[nM];exact⟨.ref _,_,I.lnew (t':=s.toks) (r.rep k.toNat) (by rw[yt,Nat.mul_comm];exact hz),rfl,q _ I.fresh⟩
end
section
variable {κ:Type}[DecidableEq κ]
noncomputable def x8(kvs:List (κ×V))(k:κ):Option V:=(kvs.find? fun kv=>decide (kv.1=k)).map (·.2)
def Wz{p:κ×V}{r:List (κ×V)}{k:κ}(e:p.1=k):x8 (p::r) k=some p.2:=by simp[x8,FM,e]
def Wx{p:κ×V}{r:List (κ×V)}{k:κ}(e:¬p.1=k):x8 (p::r) k=x8 r k:=by simp[x8,FM,e]
def RelO.isSome_eq(r:RelO o u):o.isSome=u.isSome:=by
 cases o with
 |none=>cases u with
  |none=>rfl
  |some _=>exact(show False from r).elim
 |some _=>cases u with
  |none=>exact(show False from r).elim
  |some _=>rfl
def KV.val(r:KV kvs vs)(k:κ):RelO (x8 kvs k) (valueAt vs k):=by
 unfold KV at r;induction r with
 |nil=>exact True.intro
 | @cons p q ps qs h t ih=>
  obtain⟨h1,h2⟩:=h
  by_cases e:p.1=k
  . have e':q.1=k:=h1.symm.trans e;have b:valueAt (q::qs) k=some q.2:=by simp[valueAt,FM,e']
    rw[Wz e,b];exact h2
  . have e':¬q.1=k:=fun z=>e (h1.trans z)
    have b:valueAt (q::qs) k=valueAt qs k:=by simp[valueAt,FM,e']
    rw[Wx e,b];exact ih
def KV.length(r:KV kvs vs):kvs.length=vs.length:=Paired.length r
end
def Cr(r:RelV (kV k) u):(E2 P w).is k u=true:=by
 cases k with
 |inl i=>obtain⟨t,e⟩:=(show ∃t,u=Value.int i t from r);subst e;exact zew P w i t
 |inr x=>obtain⟨t,e⟩:=(show ∃t,u=Value.str x t from r);subst e;exact zex P w x t
theorem Yg:∀{ks:List Key}{us:List Value},Vals (ks.map kV) us->ItemsAre (E2 P w) ks us
 | [],_,r=>by rw[CM]at r;cases r;exact .nil
 |k::ks,_,r=>by
  rw[gD]at r;cases r with
  |cons h t=>exact .cons (Cr h) (Yg t)
abbrev KT(H:Hp):List (List Key×V)->List (List Key×Addr×Value)->Prop:=Paired fun p q=>p.1=q.1/\H q.2.1=some (.tup (p.1.map kV))/\RelV p.2 q.2.2
def KT.val(r:KT H kvs xs)(k:List Key):RelO (x8 kvs k) ((atKey xs k).map (·.2)):=by
 induction r with
 |nil=>exact True.intro
 | @cons p q ps qs h t ih=>
  obtain⟨h1,_,h2⟩:=h
  by_cases e:p.1=k
  . have e':q.1=k:=h1.symm.trans e;have b:atKey (q::qs) k=some q.2:=by simp[atKey,FM,e']
    rw[Wz e,b];exact h2
  . have e':¬q.1=k:=fun z=>e (h1.trans z)
    have b:atKey (q::qs) k=atKey qs k:=by simp[atKey,FM,e']
    rw[Wx e,b];exact ih
section
variable {P:Program}{w:World}{H:Hp}{h:Heap}{a:Addr}
def Qa(ok:HOk P w H h)(e:Rd H a u):ObjOk P w H h a u:=e.ok ok
def Y8(ok:HOk P w H h)(e:Rd H a (.dK kvs)):kvs.length<=sizeLine/\(a==sysModules)=false/\∃vs,KV kvs vs/\h.DictOf (E2 P w) a vs:=
 show ObjOk P w H h a (.dK kvs) from Qa ok e
def Dp(ok:HOk P w H h)(e:H a=some (.tup (ks.map kV))):(tupleKind (E2 P w)).is h ks a:=by obtain⟨_,its,r,o,h1,h2,⟨n,h3⟩,_⟩:=(show ObjOk P w H h a (.tup (ks.map kV)) from ok a _ e);exact⟨o,its.toArray,n,h1,h2,h3,by simpa using Yg r⟩
def Cq(ok:HOk P w H h)(e:Rd H a (.dT kvs)):kvs.length<=sizeLine/\(a==sysModules)=false /\
  ∃xs,KT H kvs xs/\h.DictOfH (tupleKind (E2 P w)) a xs:=by
 obtain⟨z,y,xs,r,o,es,ep,h1,h2,h3,h4,h5⟩:=(show ObjOk P w H h a (.dT kvs) from Qa ok e)
 refine⟨z,y,xs,r,o,es,ep,h1,h2,h3,h4,fun x hx=>?_,h5⟩
 have all:∀{l:List (List Key×V)}{m:List (List Key×Addr×Value)},KT H l m->∀x∈m,(tupleKind (E2 P w)).is h x.1 x.2.1:=by
  intro l m q;induction q with
  |nil=>intro x hx;exact nomatch hx
  | @cons p q ps qs hq t ih=>
   intro x hx
   rcases eH.mp hx with e |hx
   . subst e;exact Dp ok (by rw[<-hq.1];exact hq.2.1)
   . exact ih x hx
 exact all r x hx
end
def DGet(H:Hp)(a:Addr)(y:V)(r:Option V):Prop:=
 (∃kvs k,Rd H a (.dK kvs)/\y=kV k/\r=x8 kvs k)\/∃kvs k b,Rd H a (.dT kvs)/\y=.ref b/\H b=some (.tup (k.map kV))/\r=x8 kvs k
def DGet.k{H:Hp}{a:Addr}{kvs:List (Key×V)}{k:Key}(e:H a=some (.dK kvs)):DGet H a (kV k) (x8 kvs k):=.inl ⟨kvs,k,.inl e,rfl,rfl⟩
def DGet.t{H:Hp}{a b:Addr}{kvs:List (List Key×V)}{k:List Key}(e:H a=some (.dT kvs))(eb:H b=some (.tup (k.map kV))):DGet H a (.ref b) (x8 kvs k):=.inr ⟨kvs,k,b,.inl e,rfl,eb,rfl⟩
section
variable {X:Cx}{pins:List (Addr×Obj)}{σ:St}{H:Hp}{s:Shared}{a:Addr}{y v:V}{u:Value}{o:Option V}{A:Around}{E:Value->Shared->Prop}
def Inv.big(I:Inv X pins σ H s):sysModules<s.heap.objs.size:=by have h:mainGlobals<s.heap.objs.size:=(I.mod.glob.keeps I.bk).lt;exact Nat.lt_trans (by decide) h
theorem zk5(hu:A.units+1<cLine)(I:Inv X pins σ H s)(g:DGet H a y (some v))(ry:RelV y u)(h:∀w' s',Inv X pins σ H s'->RelV v w'->Q w' s') :
  wpAny (model X.prog X.w) A (getItem (.ref a) u) Q E s:=by
 rcases g with⟨kvs,k,e,ey,l⟩ |⟨kvs,k,b,e,ey,eb,l⟩
 . subst ey;obtain⟨z,hd,vs,rel,dd⟩:=Y8 I.hok e;obtain⟨w',hw,bD⟩:=RelO.some_of (v:=v) (o:=valueAt vs k) (by rw[l];exact rel.val k);exact wpAny_getItem_of (Cr ry) dd.mapOf hw (h w' _ (I.tok _) bD)
 . subst ey;cases (show u=Value.ref b from ry);obtain⟨z,hd,xs,rel,dd⟩:=Cq I.hok e;obtain⟨w',hw,bD⟩:=RelO.some_of (v:=v) (o:=(atKey xs k).map (·.2)) (by rw[l];exact rel.val k);obtain⟨p,hp,eN⟩:=FJ.mp hw;refine wpAny_getItem_heap (tupleKind_room_in1 hu) (Dp I.hok eb) dd hp ?_;rw[eN];exact h w' _ (I.tok _) bD
def y7u(hu:A.units+1<cLine)(I:Inv X pins σ H s)(g:DGet H a y o)(ry:RelV y u)(h:∀s',Inv X pins σ H s'->Q (.bool o.isSome) s') :
  wpAny (model X.prog X.w) A (compareOp .In u (.ref a)) Q E s:=by
 rcases g with⟨kvs,k,e,ey,l⟩ |⟨kvs,k,b,e,ey,eb,l⟩
 . subst ey;obtain⟨z,hd,vs,rel,dd⟩:=Y8 I.hok e;refine wpAny_in_of (Cr ry) hd dd.mapOf ?_;rw[<-(rel.val k).isSome_eq,<-l];exact h _ (I.tok _)
 . subst ey;cases (show u=Value.ref b from ry);obtain⟨z,hd,xs,rel,dd⟩:=Cq I.hok e;refine wpAny_in_heap (tupleKind_room_in1 hu) (Dp I.hok eb) hd dd ?_;have q:=(rel.val k).isSome_eq;rw[Option.isSome_map]at q;rw[<-q,<-l];exact h _ (I.tok _)
def yr(hu:A.units+1<cLine)(I:Inv X pins σ H s)(g:DGet H a y o)(ry:RelV y u)(h:∀s',Inv X pins σ H s'->Q (.bool (!o.isSome)) s') :
  wpAny (model X.prog X.w) A (compareOp .NotIn u (.ref a)) Q E s:=by
 rcases g with⟨kvs,k,e,ey,l⟩ |⟨kvs,k,b,e,ey,eb,l⟩
 . subst ey;obtain⟨z,hd,vs,rel,dd⟩:=Y8 I.hok e;refine wpAny_notIn_of (Cr ry) hd dd.mapOf ?_;rw[<-(rel.val k).isSome_eq,<-l];exact h _ (I.tok _)
 . subst ey;cases (show u=Value.ref b from ry);obtain⟨z,hd,xs,rel,dd⟩:=Cq I.hok e;refine wpAny_notIn_heap (tupleKind_room_in1 hu) (Dp I.hok eb) hd dd ?_;have q:=(rel.val k).isSome_eq;rw[Option.isSome_map]at q;rw[<-q,<-l];exact h _ (I.tok _)
def Vj(I:Inv X pins σ H s)(mu:Mut (H a))(hs:Heap.SameBut a s.heap h')(he:∃q,h'.get? a=some q)(new:ObjOk X.prog X.w (upd H a ob) h' a ob) :
  Inv X pins σ (upd H a ob) { s with heap:=h',toks:=t' }:=
 I.write (x:=a) (e:=a) mu (.inl rfl) (fun b q hb z=>(hs.2 b hb).trans z) he new
end
section
variable {X:Cx}{pins:List (Addr×Obj)}{σ:St}{H:Hp}{s:Shared}{a:Addr}{kvs:List (Key×V)}{A:Around}{E:Value->Shared->Prop}
def y3g(I:Inv X pins σ H s)(e:Rd H a (.dK kvs))(h:∀t s',Inv X pins σ H s'->Q (.int kvs.length t) s'):wpAny (model X.prog X.w) A (call (.builtin "len") [.ref a]) Q E s:=by obtain⟨z,hd,vs,rel,dd⟩:=Y8 I.hok e;refine call_len_dict hd dd (by rw[<-rel.length];rw[GA]at z;lia) ?_;rw[<-rel.length];exact h _ _ (I.tok _)
end
def zf5(I:Inv X pins σ H s)(g:DGet H a y o):s.TypeIs (.ref a) "dict":=by
 rcases g with⟨kvs,k,e,_,_⟩ |⟨kvs,k,b,e,_,_,_⟩
 . obtain⟨_,_,vs,_,dd⟩:=Y8 I.hok e;exact dd.typeIs
 . obtain⟨_,_,xs,_,dd⟩:=Cq I.hok e;exact dd.typeIs
def Tb:List (TE×TE)->St->Hp->(List (V×V)->Hp->Prop)->Prop
 | [],_,H,Q=>Q [] H
 | (tk,tv)::r,σ,H,Q=>tk σ H fun x H1=>tv σ H1 fun y H2=>Tb r σ H2 fun ps H3=>Q ((x,y)::ps) H3
abbrev VV:List (V×V)->List (Value×Value)->Prop:=Paired fun p q=>RelV p.1 q.1/\RelV p.2 q.2
def PPs(X:Cx)(pos:Pos)(keys:List (Option Expr))(fF:List Expr)(lV:List (TE×TE)):Prop:=
 ∀(pins:List (Addr×Obj))(s:Shared)(σ:St)(H:Hp)(Q:List (V×V)->Hp->Prop),Inv X pins σ H s->Tb lV σ H Q ->
  wpAny (model X.prog X.w) X.A (evalPairs (pairTrees keys fF X.env pos)) (fun vs s'=>∃ps H',Inv X pins σ H' s'/\VV ps vs/\Q ps H') X.xe s
def yq:PPs X pos [] [] []:=fun pins s σ H Q I h=>pairTrees_nil_walk ⟨[],H,I,.nil,h⟩
def zQ(hk:PE X k tk)(hv:PE X v tv)(hr:PPs X pos ks vs lV) :
  PPs X pos (some k::ks) (v::vs) ((tk,tv)::lV):=fun pins s σ H Q I h=>
 pairTrees_cons_walk (thn (hk pins s σ H _ I h) fun u s1 ⟨x,H1,I1,rx,q1⟩=>thn (hv pins s1 σ H1 _ I1 q1) fun w2 s2 ⟨y,H2,I2,ry,q2⟩=>
  thn (hr pins s2 σ H2 _ I2 q2) fun ws s3 ⟨ps,H3,I3,rel,q3⟩=>⟨(x,y)::ps,H3,I3,.cons ⟨rx,ry⟩ rel,q3⟩)
end L2
namespace Att
open PySem PySem.W PySem.Calls PyProof.Rows
def z8c:∀(ns:List Int)(vs:List Value),WellAll P h vs (ns.map WData.int)->IntsAre vs ns:=by
 intro ns;induction ns with
 |nil=>
  intro vs w
  rw[CM]at w
  cases w
  exact .nil
 |cons n ns ih=>
  intro vs w
  rw[gD]at w
  cases w with
  |cons a b=>
   cases a
   exact .cons _ _ (ih _ b)
def zk7{l:OpenLaw}{n:Nat}(hn:l.most=some n){P:Params}{h:Heap}{args:List WData}{am:List Value}
  (fK:l.row.toRowW.claim.pre args=true) (gJ:WellAll P h am args) :
  ∃a vs ns,am=[Value.ref a]/\args=[WData.list (ns.map WData.int)]/\h.get? a=some { cls:=.type "list",data:=.seq vs.toArray }/\IntsAre vs ns/\ns.length<=n:=by
 have rE:WShape.hasAll [] args [.list .int]=true:=(pre_splitW fK).1
 have hc:l.pre.holds [] { args:=args }=true:=(pre_splitW fK).2
 obtain⟨d,r,rfl,h1,h2⟩:=hasAllW_cons rE
 obtain rfl:=hasAllW_nil h2
 obtain⟨xs,rfl,h3⟩:=hasW_list h1
 obtain⟨ns,rfl⟩:=items_int h3
 have ae:ns.length<=n:=by
  unfold OpenLaw.pre at hc;have h4:(WTm.not (.lt (.lit (.int (n:Int))) (.len (.arg 0)))).holds [] { args:=[.list (ns.map .int)] }=true:=by have h4:=(holds_andW hc).1;rw[hn]at h4;exact h4
  have h5:=condW_of h4 (w_not (w_lt w_lit (w_len_list (w_arg rfl))));rw[bI]at h5;refine Nat.le_of_not_lt fun q=>?_
  have q':(n:Int)<((ns.length:Nat):Int):=by omega
  first
   | (rw[decide_eq_true q']at h5;exact absurd h5 (by decide))
   | (simp at h5;omega)
 cases gJ with
 |cons w1 w2=>
  cases w2
  cases w1 with
  |list ho gr=>exact⟨_,_,ns,rfl,rfl,ho,z8c ns _ gr,ae⟩
def zk8(l:OpenLaw)(args:List WData):l.row.toRowW.claim.post args (.bool true) args=true:=
 postW_of (r:=l.row.toRowW) (X:=(true==true))
  (show WShape.has [] (.bool true) .bool=true by first |rfl |decide |simp[WShape.has,WShape.arms,WShape.armsAll])
  (show(WTm.eq .res (.lit (.bool true))).value [] { args:=args,res:=some (.bool true),after:=args }=some (.bool (true==true)) from w_eq_bool (w_res rfl) w_lit) rfl
def attach_call{l:OpenLaw}{n:Nat}{q:Program}{loose:List Str}{XP:(Str->Option Value)->Heap->Prop}{YP:World->Heap->Prop}{d:DefRec}
  (hn:l.most=some n) (gK:d.params.defaults=[])
  (call:∀(w:World)(s₀ af:Shared)(mg mb:Str->Option Value)(fa:Addr)(o:Obj)(pm cd doc:Value)(a:Addr)(vs:List Value)(ns:List Int),
   Ground q loose [] XP w s₀ mg mb af.heap->YP w af.heap ->
   af.heap.get? fa=some o->o.data=.func (docDef d.name d.params d.body d.scope pm cd doc)->af.heap.CodeRec cd d.name->mg d.name=some (.ref fa) ->
   af.heap.get? a=some { cls:=.type "list",data:=.seq vs.toArray }->IntsAre vs ns->ns.length<=n->af.gens=#[] ->
   codeAny (model l.prog w) callerA (.call (.ref fa) ⟨[.ref a],[]⟩) (fun r s'=>r=.ok (.ret (.bool true))/\OldK af.heap s'.heap/\s'.os=af.os/\AllBare s'.gens) af) :
  WalkO q loose XP YP l.row.toRowW d [] (fun f vs=>PySem.call f vs):=by
 intro w s₀ af mg mb G Y fa o pm cd doc dV kV ho hd bB hD cy hg args am as fK AM AV gJ AW
 obtain rfl:dV=.none:=Dflts.none hD gK
 obtain rfl:kV=.none:=Dflts.noKw hD
 obtain⟨a,vs,ns,rfl,rfl,gw,fe,ae⟩:=zk7 hn fK gJ
 refine enter_call (codeAny_mono (call w s₀ af mg mb fa o pm cd doc a vs ns G Y ho (fd_plain hd) bB cy gw fe ae hg) fun r s' hq=>?_)
 obtain⟨rfl,h2,h3,h4⟩:=hq
 exact⟨.inl ⟨.bool true,.bool true,[],rfl,fun _=>rfl,.bool true,zk8 l _,fun _=>⟨List.Pairwise.nil,fun _ hm=>(nomatch hm)⟩⟩,h2,h3,h4⟩
section
def noObjs(h:Heap):Heap:={ h with objs:=#[] }
def noObjs_get(h:Heap)(b:Addr):(noObjs h).get? b=none:=by
 cases e:(noObjs h).get? b with
 |none=>rfl
 |some o=>exact absurd (Heap.lt_size e) (Nat.not_lt_zero _)
def fr_all(n:h.Ns L m):Fr (noObjs h) L h m:=
 ⟨n,fun b o e=>(by rw[noObjs_get]at e;cases e),DC _⟩
end
end Att
namespace L2
open PySem PySem.Spec PyProof.Rows
theorem Ye:∀{vs:List Value}{ns:List Int},IntsAre vs ns->Vals (ns.map V.int) vs
 |_,_,.nil=>.nil
 |_,_,.cons n t h=>.cons ⟨t,rfl⟩ (Ye h)
def Gc(H:Hp):Prop:=∀b,H b=none\/∃o xs,H b=some (.frz o (.lst xs))
def zP{P:Program}{w:World}{K:Frag}{mg mb:Str->Option Value}{CX:CXT}{k:Nat}{fa a:Addr}{fd:FuncData}{x:Str}{sp:Sp}{af:Shared}{vs:List Value}{ns:List Int}
  (KX:K.In af.heap) (dW:af.heap.Ns mainGlobals mg) (hb:af.heap.Ns builtinsNs mb) (rF:∀x:Str,x≠"__name__"->mb x=bootBuiltins x) (nN:af.heap.NoLimit) (hg:af.gens=#[])
  (ha:af.heap.get? a=some { cls:=.type "list",data:=.seq vs.toArray }) (hi:IntsAre vs ns) (hl:ns.length<=sizeLine) (hr:Room k callerA)
  (F:∀base:Heap,K.In base->base.Ns mainGlobals mg->FnOk P w K mg base CX k fa fd [x] sp) (lM:∀(s:Shared)(u:Value),BindsTo s fd ⟨[u],[]⟩ [(x,u)])
  (dG:∀H:Hp,Gc H->SqL K H a (ns.map V.int)->sp [.ref a] H (fun v _=>v=.bl true) fun _ _ _=>False)
  (lW:∀H e s',CX [] H af (fun _ _ _=>False) e s'->False) :
  codeAny (model P w) callerA (.call (.ref fa) ⟨[.ref a],[]⟩) (fun r s'=>r=.ok (.ret (.bool true))/\OldK af.heap s'.heap/\s'.os=af.os/\AllBare s'.gens) af:=by
 have rv:=Ye hi
 have nO:=hi.length
 have lf:∀H:Hp,Gc H->SqL K H a (ns.map V.int)->HOk P w H af.heap->(∀b,H b≠none->b=a)->(H a≠none->K.lookup a=none) ->
   codeAny (model P w) callerA (.call (.ref fa) ⟨[.ref a],[]⟩) (fun r s'=>r=.ok (.ret (.bool true))/\OldK af.heap s'.heap/\s'.os=af.os/\AllBare s'.gens) af:=by
  intro H hO hS hok hA hK
  have eF:∀{b:Addr}{o:Obj},af.heap.get? b=some o->H b=none->(G5 af.heap H).get? b=some o:=fun e n=>zni e n
  have gH:∀{b:Addr}{o:Obj}{es:Array DictEntry}{ep:Nat},af.heap.get? b=some o->o.data=.dict es ep->H b=none:=fun {b o es ep} e d=>by
   cases q:H b with
   |none=>rfl
   |some u=>
    have e':b=a:=hA b (by rw[q];simp)
    subst e'
    rw[ha]at e;cases e
    have d':Data.seq vs.toArray _=Data.dict es ep:=d
    cases d'
  have iz:∀{b:Addr}{m:Str->Option Value},af.heap.Ns b m->(G5 af.heap H).Ns b m:=fun {b m} ⟨o,es,ep,e,d,r⟩=>⟨o,es,ep,eF e (gH e d),d,r⟩
  have oC:K.In (G5 af.heap H):=fun b o e=>eF (KX b o e) (by
   cases q:H b with
   |none=>rfl
   |some u=>
    have e':b=a:=hA b (by rw[q];simp)
    subst e'
    rw[hK (by rw[q];simp)]at e;cases e)
  have hM:Mod K mg (G5 af.heap H):=⟨oC,iz dW,⟨mb,iz hb,rF⟩,let ⟨mc,h1,h2⟩:=nN;⟨mc,iz h1,h2⟩⟩
  have e0:Env0 P w K mg (G5 af.heap H) callerA [] af H:=⟨rfl,hM,fun b o e=>yF e,Nat.le_of_eq (zjk _ _),trivial,fun b hb=>absurd (show b∈([]:List Addr) from hb) (by simp),hok,.of_eq hg⟩
  refine codeAny_mono ((F _ oC (iz dW)).run callerA [] af H ⟨[.ref a],[]⟩ [.ref a] [.ref a] _ _ hr e0 (lM af (.ref a)) (.cons rfl .nil) (dG H hO hS)) fun r s' h=>?_
  cases r with
  |error e=>exact(lW H e s' h).elim
  |ok fl=>
   cases fl with
   |next=>exact False.elim h
   |brk=>exact False.elim h
   |cont=>exact False.elim h
   |ret u=>
    obtain⟨v,H',os,bare,un,nP,r',q⟩:=h
    have q':v=.bl true:=q
    subst q'
    obtain rfl:u=Value.bool true:=r'
    refine⟨rfl,OldK.of_keep fun b o e=>?_,os,bare⟩
    cases q:H b with
    |none=>exact un.keep b o e q (by intro z;exact absurd (show b∈([]:List Addr) from z) (by simp)) (by simp)
    |some u=>
     rcases hO b with z |⟨ob,xs,z⟩
     . rw[q]at z;cases z
     . have z2:=un.frzs b ob _ z;obtain⟨e1,_⟩:=hok b _ z;obtain⟨e2,_⟩:=nP b _ z2;rw[e]at e1;cases e1;exact e2
 cases hk:K.lookup a with
 |some o=>
  have e:=KX a o hk
  rw[ha]at e
  cases e
  refine lf (fun _=>none) (fun _=>.inl rfl) (.inr ⟨_,vs.toArray,_,hk,rfl,rfl,rfl,by rw[nF,nO];exact hl,by simpa using rv⟩) (fun b u z=>by have z':(none:Option HO)=some u:=z;cases z') (fun b z=>absurd rfl z) fun z=>absurd rfl z
 |none=>
  refine lf (fun b=>if b=a then some (.frz { cls:=.type "list",data:=.seq vs.toArray } (.lst (ns.map V.int))) else none) (fun b=>?_) (.inl (.inr ⟨{ cls:=.type "list",data:=.seq vs.toArray },ζ rfl⟩)) (fun b u z=>?_) (fun b z=>?_) fun _=>hk
  . by_cases hb:b=a
    . exact .inr ⟨_,_,ζ hb⟩
    . exact .inl (ξ hb)
  . by_cases hb:b=a
    . have z':=(ζ hb).symm.trans z;cases z';subst hb;exact⟨ha,by rw[bI];exact hl,vs,_,rv,ha⟩
    . have z':=(ξ hb).symm.trans z;cases z'
  . by_cases hb:b=a
    . exact hb
    . exact absurd (ξ hb) z
def walk_of{l:PySem.W.OpenLaw}{n k:Nat}{q:Program}{loose:List Str}{XP:(Str->Option Value)->Heap->Prop}{YP:World->Heap->Prop}{d:DefRec}{K:Params->Frag}{CX:World->CXT}{sp:World->Sp}{x:Str}
  (hn:l.most=some n) (dU:n<=sizeLine) (gK:d.params.defaults=[]) (hr:Room k callerA)
  (hY:∀(w:World)(h:Heap),YP w h->(K w.params).In h)
  (F:∀(w:World)(mg:Str->Option Value)(fa:Addr)(h:Heap),(K w.params).In h->h.Ns mainGlobals mg->mg d.name=some (.ref fa) ->
   ∃fd:FuncData,(∀(s:Shared)(u:Value),BindsTo s fd ⟨[u],[]⟩ [(x,u)]) /\
    ∀base:Heap,(K w.params).In base->base.Ns mainGlobals mg->FnOk l.prog w (K w.params) mg base (CX w) k fa fd [x] (sp w))
  (dG:∀(w:World)(H:Hp)(a:Addr)(ns:List Int),ns.length<=n->Gc H->SqL (K w.params) H a (ns.map V.int)->sp w [.ref a] H (fun v _=>v=.bl true) fun _ _ _=>False)
  (lW:∀(w:World)(H:Hp)(s:Shared)(e:Value)(s':Shared),CX w [] H s (fun _ _ _=>False) e s'->False) :
  PySem.W.WalkO q loose XP YP l.row.toRowW d [] (fun f vs=>PySem.call f vs):=by
 refine Att.attach_call hn gK fun w s₀ af mg mb fa o pm cd doc a vs ns G Y ho hd bB cy gw fe ae hg=>?_
 have KX:=hY w _ Y
 obtain⟨fd,hb,hF⟩:=F w mg fa _ KX G.T.g cy
 exact zP KX G.T.g G.T.b G.T.builtins G.T.nolimit hg gw fe (CD ae dU) hr hF hb (fun H hO hS=>dG w H a ns ae hO hS) fun H e s'=>lW w H af e s'
structure Fun(K:Frag)(x qual:Str)(st:Stmt)(f:Addr)(fd:FuncData):Prop where
 ex:∃(oc:Value)(od:Option Addr)(kV doc pm:Value)(an:Option Addr)(cdv ct:Value)(osl:Array (Option Value)),
  fd=PySem.W.fnOf x qual (t7 st) (l7 st) (d7 st) .none kV doc pm an cdv ct/\K.lookup f=some ⟨oc,od,.func fd,osl⟩/\codeIn K cdv qual=true
 kp:keepIn K (.ref f)=true
section
variable {K:Frag}
def Fun.binds{x qual:Str}{st:Stmt}{f:Addr}{fd:FuncData}{ps:List Str}(F:Fun K x qual st f fd)
  (h:∀(kV doc pm:Value)(an:Option Addr)(cdv ct:Value)(us:List Value),us.length=ps.length->bindArgs (PySem.W.fnOf x qual (t7 st) (l7 st) (d7 st) .none kV doc pm an cdv ct) ⟨us,[]⟩=pure (ps.zip us)):Binds K fd ps []:=by
 obtain⟨oc,od,kV,doc,pm,an,cdv,ct,osl,rfl,lk,bB⟩:=F.ex
 exact .all (h kV doc pm an cdv ct)
def Ta{x qual:Str}{st:Stmt}{f:Addr}{oc:Value}{od an:Option Addr}{osl:Array (Option Value)}{kV doc pm cdv ct:Value}(l:K.lookup f=some ⟨oc,od,.func (PySem.W.fnOf x qual (t7 st) (l7 st) (d7 st) .none kV doc pm an cdv ct),osl⟩)
 (c:codeIn K cdv qual=true) (k:keepIn K (.ref f)=true):Fun K x qual st f (PySem.W.fnOf x qual (t7 st) (l7 st) (d7 st) .none kV doc pm an cdv ct):=⟨⟨oc,od,kV,doc,pm,an,cdv,ct,osl,rfl,l,c⟩,k⟩
end
section
variable {X:Cx}
def call_lenD:CallR X (.builtin "len") (fun xs H Q=>∃a kvs,xs=[V.ref a]/\H a=some (.dK kvs)/\Q (.int kvs.length) H):=by intro pins s σ H xs us Q I r h;obtain⟨a,kvs,rfl,ha,q⟩:=h;obtain⟨u,rfl,ru⟩:=r8 r;cases ru;exact y3g I (.inl ha) fun t s' I'=>⟨.int kvs.length,H,I',⟨t,rfl⟩,q⟩
end
def Same(H H':Hp):Prop:=∀b o,H b=some o->H' b=some o
def Same.refl(H:Hp):Same H H:=fun _ _ h=>h
def Same.trans(a:Same H H1)(b:Same H1 H2):Same H H2:=fun c o h=>b c o (a c o h)
noncomputable def r9(cells:List (Str×Addr)):List (Str×NameKind)->List (Str×Addr)->List (Str×Addr)
 | [],acc=>acc
 | (n,k)::r,acc=>r9 cells r (if k==.free then(n,(cells.lookup n).getD 0)::acc else acc)
theorem jR:∀{names:List (Str×NameKind)}{acc:List (Str×Addr)},
  (∀y∈names,y.2=.free->∃c,cells.lookup y.1=some c)->(∀y c,acc.lookup y=some c->cells.lookup y=some c)->(r9 cells names acc).lookup x=some c->cells.lookup x=some c
 | [],acc,_,ha,h=>ha x c h
 | (n,k)::r,acc,hf,ha,h=>by
  refine jR (names:=r) (fun y hy=>hf y (dg _ hy)) (fun y c'=>?_) h;by_cases hk:k=.free
  . subst hk;obtain⟨c0,e0⟩:=hf (n,.free) gq rfl;intro e;have e1:(if(NameKind.free==NameKind.free)=true then(n,(cells.lookup n).getD 0)::acc else acc)=(n,(cells.lookup n).getD 0)::acc:=ζ (show(NameKind.free==NameKind.free)=true from rfl);rw[e1,FX]at e;cases lX:y==n with
    |true=>
     rw[lX]at e
     have e2:y=n:=by simpa using lX
     subst e2
     have e3:=Option.some.inj e
     have rG:cells.lookup y=some c0:=e0
     rw[rG]at e3⊢
     exact DI some e3
    |false=>rw[lX]at e;exact ha y c' e
  . have e1:(if(k==NameKind.free)=true then(n,(cells.lookup n).getD 0)::acc else acc)=acc:=ξ (by simpa using hk);rw[e1];exact ha y c'
theorem My:∀{names:List (Str×NameKind)}{acc:List (Str×Addr)},
  ((∃c,acc.lookup x=some c)\/∃y∈names,y.2=.free/\y.1=x)->∃c,(r9 cells names acc).lookup x=some c
 | [],acc,h=>by
  rcases h with h |⟨y,hy,_⟩
  . exact h
  . cases hy
 | (n,k)::r,acc,h=>by
  refine My (names:=r) ?_;by_cases hk:k=.free
  . subst hk;have e1:(if(NameKind.free==NameKind.free)=true then(n,(cells.lookup n).getD 0)::acc else acc)=(n,(cells.lookup n).getD 0)::acc:=ζ (show(NameKind.free==NameKind.free)=true from rfl);rw[e1,FX];cases rH:x==n with
    |true=>exact .inl ⟨_,rfl⟩
    |false=>
     rcases h with h |⟨y,hy,hf,e⟩
     . exact .inl h
     . rcases eH.mp hy with z |z
       . subst z;have e':n=x:=e;subst e';simp at rH
       . exact .inr ⟨y,z,hf,e⟩
  . have e1:(if(k==NameKind.free)=true then(n,(cells.lookup n).getD 0)::acc else acc)=acc:=ξ (by simpa using hk);rw[e1];rcases h with h |⟨y,hy,hf,e⟩
    . exact .inl h
    . rcases eH.mp hy with z |z
      . subst z;exact absurd hf hk
      . exact .inr ⟨y,z,hf,e⟩
def jK(hf:∀y∈scope.names,y.2=.free->∃c,env.cells.lookup y.1=some c):closureFor scope env=pure (r9 env.cells scope.names []):=by
 have go:∀(names:List (Str×NameKind))(acc:List (Str×Addr)),(∀y∈names,y.2=.free->∃c,env.cells.lookup y.1=some c) ->
   (forIn names acc fun x cs=>if(x.2==NameKind.free)=true then do let a <-cellOf env x.1;pure (ForInStep.yield ((x.1,a)::cs)) else pure (ForInStep.yield cs):Sem (List (Str×Addr)))=pure (r9 env.cells names acc):=by
  intro names
  induction names with
  |nil=>intro acc _;rfl
  |cons p r ih=>
   intro acc h
   obtain⟨n,k⟩:=p
   rw[GU]
   by_cases hk:k=.free
   . subst hk;obtain⟨c,e⟩:=h (n,.free) gq rfl;have e':env.cells.lookup n=some c:=e;have e1:cellOf env n=pure c:=by unfold cellOf;rw[e']
     have e2:r9 env.cells ((n,NameKind.free)::r) acc=r9 env.cells r ((n,c)::acc):=by show r9 env.cells r (if(NameKind.free==NameKind.free)=true then(n,(env.cells.lookup n).getD 0)::acc else acc)=_;rw[ζ (show(NameKind.free==NameKind.free)=true from rfl),e'];rfl
     rw[e2,<-ih _ fun y hy=>h y (dg _ hy)];show((if(NameKind.free==NameKind.free)=true then do let a <-cellOf env n;pure (ForInStep.yield ((n,a)::acc)) else pure (ForInStep.yield acc)) >>= _:Sem _)=_;rw[ζ (show(NameKind.free==NameKind.free)=true from rfl),e1];rfl
   . have oE:(k==NameKind.free)=false:=by simpa using hk
     have e2:r9 env.cells ((n,k)::r) acc=r9 env.cells r acc:=by show r9 env.cells r (if(k==NameKind.free)=true then _ else acc)=_;rw[ξ (by rw[oE];exact θ)]
     rw[e2,<-ih _ fun y hy=>h y (dg _ hy)];show((if(k==NameKind.free)=true then do let a <-cellOf env n;pure (ForInStep.yield ((n,a)::acc)) else pure (ForInStep.yield acc)) >>= _:Sem _)=_;rw[ξ (by rw[oE];exact θ)];rfl
 have:=go scope.names [] hf;unfold closureFor;simpa using this
def zd8(I:Nat->Shared->Prop)
  (turn:∀n s,I n s->wpAny (model prog w) A (pyNext it) (fun r af=>match r with
   |none=>R (.ok .next) af
   |some v=>wpAny (model prog w) A (letOwnedTupleGo target it v) (fun _ gf=>wpAny (model prog w) A (assign target env v) (fun _ bp=>
    wpAny (model prog w) A (forIn aC true fun c r=>if r=true then do let ok <-isTrue c env (eval c env);pure (ForInStep.yield ok) else pure (ForInStep.yield r)) (fun ok az=>
     if ok=true then wpAny (model prog w) A (eval aH env) (fun x cY=>
      wpAny (model prog w) A (call (.builtin "list.append") [acc,x]) (fun _ lh=>∃m,m<n/\I m lh) (fun _ _=>False) cY) (fun _ _=>False) az
     else ∃m,m<n/\I m az) (fun _ _=>False) bp) (fun _ _=>False) gf) (fun _ _=>False) af) (fun _ _=>False) s)
  (n:Nat) (h:I n s) :
  codeAny (model prog w) A (.compLoop (.ListComp aH [⟨target,iter,aC,0⟩] scope pos) 0 it acc env) R s:=by
 refine codeAny_loop rfl I (fun n s hI=>?_) n h
 show wpAny _ A ((compTurn (.ListComp aH [⟨target,iter,aC,0⟩] scope pos) 0 it acc env).onRaise (fun x=>do noteFrame x env;theTreesLotGoes x)) _ _ s
 refine wpAny_noted ?_
 rw[compTurn_list]
 refine δ (wpAny_standAt (δ (EM (turn n s hI) (fun r af dO=>?_) fun _ _ h'=>h'.elim)))
 cases r with
 |none=>exact ω dO
 |some v=>
  refine δ (EM dO (fun _ gf lN=>?_) fun _ _ h'=>h'.elim)
  refine δ (EM lN (fun _ bp nR=>δ (EM nR (fun ok az ll=>?_) fun _ _ h'=>h'.elim)) fun _ _ h'=>h'.elim)
  cases ok with
  |false=>exact ω ⟨rfl,ll⟩
  |true=>
   exact δ (δ (EM ll (fun x cY nS=>δ (EM nS (fun _ lh nU=>ω (ω ⟨rfl,nU⟩)) fun _ _ h'=>h'.elim)) fun _ _ h'=>h'.elim))
theorem Nr{env:Env}:∀{names:List (Str×NameKind)}{x:Str},
  (names.map fun (n,k)=>if(k==NameKind.free&&env.scope.kind==.function&&env.kindOf n==some .cell) then(n,NameKind.cell) else(n,k)).lookup x =
   (names.lookup x).map fun k=>if(k==NameKind.free&&env.scope.kind==.function&&env.kindOf x==some .cell) then NameKind.cell else k
 | [],_=>rfl
 | (n,k)::r,x=>by
  have ih:=@Nr env r x;show List.lookup x ((if(k==NameKind.free&&env.scope.kind==.function&&env.kindOf n==some .cell)=true then(n,NameKind.cell) else(n,k))::_)=_;cases hx:x==n with
  |true=>
   have e:x=n:=by simpa using hx
   subst e
   by_cases hc:(k==NameKind.free&&env.scope.kind==.function&&env.kindOf x==some .cell)=true
   . rw[ζ hc];simp only[FX,hx,CO,hc,DY]
   . rw[ξ hc];simp only[FX,hx,CO,hc,DG];rfl
  |false=>
   by_cases hc:(k==NameKind.free&&env.scope.kind==.function&&env.kindOf n==some .cell)=true
   . rw[ζ hc];simp only[FX,hx];exact ih
   . rw[ξ hc];simp only[FX,hx];exact ih
def j5(X:Cx)(sc:Scope)(N':List Str)(fp:List Addr)(az:Shared)(nV:Hp):Cx:=
 { X with env:=compEnvC sc (r9 X.env.cells sc.names []) az.heap.objs.size X.env,N:=N',s₀:=az,H₀:=nV,outer:=X.stack,ex:=fp,fn:=fun _=>false,pn:=[],xe:=fun _ _=>False }
noncomputable def E9(ix:List Nat)(σ:St):St:=ix.map fun j=>(σ[j]?).getD none
structure CompOk(X:Cx)(sc:Scope)(caps:List Str)(ix:List Nat):Prop where
 calm:X.calm=true
 kind:sc.kind=.function
 ncell:∀y∈sc.names,y.2≠.cell
 free:∀y∈sc.names,y.2=.free->X.env.kindOf y.1=some .cell\/X.env.kindOf y.1=some .free
 names:∀y∈sc.names,y.2=.local->sc.names.lookup y.1=some .local
 cap:∀(j:Nat) x,caps[j]?=some x->sc.names.lookup x=some .free/\∃i,ix[j]?=some i/\X.N[i]?=some x
 len:ix.length=caps.length
noncomputable def Yd(fsc:Scope)(N:List Str)(sc:Scope)(caps:List Str)(ix:List Nat):Bool:=
 sc.kind==.function&&sc.names.all (fun y=>y.2 != .cell)&&sc.names.all (fun y=>y.2 != .free||(fsc.names.lookup y.1==some .cell||fsc.names.lookup y.1==some .free)) &&
  sc.names.all (fun y=>y.2 != .local||sc.names.lookup y.1==some .local)&&caps.all (fun x=>sc.names.lookup x==some .free)&&(ix.map fun i=>N[i]?)==caps.map some
def o7(hc:X.calm=true)(h:Yd X.env.scope X.N sc caps ix=true):CompOk X sc caps ix:=by
 unfold Yd at h;simp only[gR]at h;obtain⟨⟨⟨⟨⟨h1,h2⟩,h3⟩,h4⟩,h5⟩,h6⟩:=h;have e6:(ix.map fun i=>X.N[i]?)=caps.map some:=by simpa using h6
 have lm:ix.length=caps.length:=by simpa using DI List.length e6
 refine⟨hc,by simpa using h1,fun y hy=>?_,fun y hy hf=>?_,fun y hy hl=>?_,fun j x hj=>⟨?_,?_⟩,lm⟩
 . have:=DF.mp h2 y hy;simpa using this
 . have:=DF.mp h3 y hy;rw[hf]at this;simp only[bne_self_eq_false,Bool.false_or,EB,FE]at this;exact this
 . have:=DF.mp h4 y hy;rw[hl]at this;simpa using this
 . have:=DF.mp h5 x (DQ hj);simpa using this
 . have oG:j<ix.length:=by rw[lm];exact(CU.mp hj).1
   refine⟨ix[j],oF oG,?_⟩;have q:=DI (fun l=>l[j]?) e6;simp only[CJ,oF oG,hj,CO]at q;exact Option.some.inj q
section
variable {X:Cx}{sc:Scope}{tgs caps:List Str}{ix:List Nat}{pins:List (Addr×Obj)}{σ:St}{H:Hp}{s:Shared}{fp:List Addr}
def CompOk.free_cell(C:CompOk X sc caps ix)(I:Inv X pins σ H s):∀y∈sc.names,y.2=.free->∃c,X.env.cells.lookup y.1=some c:=fun y hy hf=>I.ok.has y.1 (C.free y hy hf)
def CompOk.sub(C:CompOk X sc caps ix)(I:Inv X pins σ H s)(h:(r9 X.env.cells sc.names []).lookup x=some c):X.env.cells.lookup x=some c:=
 jR (C.free_cell I) (fun _ _ e=>by cases e) h
def zii(C:CompOk X sc caps ix)(I:Inv X pins σ H s)(hf:∀b∈fp,u4 X pins H b)(hl:∀b∈fp,b<s.heap.objs.size)(hn:h'.Ns s.heap.objs.size m)
  (hk:∀b o,s.heap.get? b=some o->h'.get? b=some o) :
  Inv (j5 X sc (tgs++caps) fp s H) [] (List.replicate tgs.length none++E9 ix σ) H { s with heap:=h',toks:=t' }:=by
 have sub:∀{x c},(r9 X.env.cells sc.names []).lookup x=some c->X.env.cells.lookup x=some c:=fun h=>C.sub I h
 have AX:∀{x c},X.env.cells.lookup x=some c->c<s.heap.objs.size:=fun {x c} h=>by obtain⟨v,q⟩:=I.cell x c h;exact q.lt
 refine⟨⟨I.ok.mod,C.kind,I.ok.glob,I.ok.blt,η _,fun x y c h1 h2=>I.ok.inj x y c (sub h1) (sub h2),fun x hx=>?_,fun x c gF _=>?_,I.ok.hd,I.ok.frames,.inl rfl,fun b hb=>⟨?_,fun x c h z=>?_⟩,fun b o e=>I.bs b o e,CD I.ok.bsz I.sz,fun b o e hb=>?_,fun b hb eO=>?_,I.stack,I.stkFree⟩,
  rfl,I.bare,Un.kept hk,⟨m,hn,fun i x v e1 e2 e3=>?_⟩,fun x c h=>?_,I.hok.fresh (η _),fun x c h=>I.freeC x c (sub h),fun p hp=>absurd (show p∈([]:List (Addr×Obj)) from hp) (by simp),I.hok.kept hk,?_⟩
 . -- a cell or free name of the pZ has a cell
   have cR:(relabel sc X.env).names.lookup x=some .cell\/(relabel sc X.env).names.lookup x=some .free:=hx;have e:(relabel sc X.env).names.lookup x=(sc.names.lookup x).map fun k=>if(k==NameKind.free&&X.env.scope.kind==.function&&X.env.kindOf x==some .cell) then NameKind.cell else k:=Nr
   rw[e]at cR;cases q:sc.names.lookup x with
   |none=>rw[q]at cR;rcases cR with z |z<;>cases z
   |some k=>
    have hm:(x,k)∈sc.names:=EQ q
    have rJ:k=.free:=by
     rw[q]at cR;simp only[CO]at cR;by_cases dH:k=.free
     . exact dH
     . have:(k==NameKind.free)=false:=by simpa using dH
       simp only[this,Bool.false_and,tB,DG]at cR;rcases cR with z |z
       . exact absurd (Option.some.inj z) (C.ncell _ hm)
       . exact Option.some.inj z
    subst rJ
    exact My (.inr ⟨_,hm,rfl,rfl⟩)
 . exact absurd (show false=true from gF) θ
 . exact CC (hl b hb)
 . exact(hf b hb).2.2.2.2.1 x c (sub h) z
 . obtain⟨_,_,_,hx,_⟩:=hf b hb;rcases hx with z |z
   . exact I.ok.noex b o e z
   . exact absurd (CG (π e) (CD I.ok.bsz z)) (EA _)
 . obtain⟨_,h1,h2,_⟩:=hf b hb;rcases eH.mp (I.stkSub b eO) with z |z
   . exact h1 z
   . exact h2 z
 . -- the nC pX fF
   have hi:tgs.length<=i:=by
    by_cases hi:i<tgs.length
    . rw[EL (by simpa using hi),List.getElem?_replicate]at e2;split at e2<;>cases e2
    . lia
   have rK:caps[i - tgs.length]?=some x:=by have:(tgs++caps)[i]?=some x:=e1;rw[DH hi]at this;exact this
   rw[DH (by simpa using hi),GO]at e2;obtain⟨bU,j,hj,rL⟩:=C.cap _ x rK;have rM:σ[j]?=some (some v):=by
    unfold E9 at e2;rw[CJ,hj]at e2;simp only[CO]at e2;have e2:=Option.some.inj e2;cases q:σ[j]? with
    |none=>rw[q]at e2;cases e2
    |some o=>rw[q]at e2;exact DI some e2
   have fL:(x,NameKind.free)∈sc.names:=EQ bU;have cP:=C.free _ fL rfl;obtain⟨m0,AY,iA⟩:=I.loc;have nW:Vis X.env.scope x:=cP.elim (fun z=>.inr (.inl z)) fun z=>.inr (.inr z)
   obtain⟨u,r,look⟩:=iA j x v rL rM nW;refine⟨u,r,?_⟩;rcases look with⟨k,_⟩ |⟨_,c,hc,z⟩
   . rcases cP with q |q
     . rw[show X.env.kindOf x=some .cell from q]at k;cases k
     . rw[show X.env.kindOf x=some .free from q]at k;cases k
   . obtain⟨c',aL⟩:=My (cells:=X.env.cells) (names:=sc.names) (acc:=[]) (x:=x) (.inr ⟨_,fL,rfl,rfl⟩);have eL:c'=c:=by have:=sub aL;rw[hc]at this;exact(Option.some.inj this).symm
     subst eL;refine .inr ⟨?_,c',aL,?_⟩
     . have e:(relabel sc X.env).names.lookup x=(sc.names.lookup x).map fun k=>if(k==NameKind.free&&X.env.scope.kind==.function&&X.env.kindOf x==some .cell) then NameKind.cell else k:=Nr
       show(relabel sc X.env).names.lookup x=some .cell\/(relabel sc X.env).names.lookup x=some .free;rw[e,bU];simp only[CO];split
       . exact .inl rfl
       . exact .inr rfl
     . obtain⟨o,ho,hd⟩:=z;exact⟨o,hk _ o ho,hd⟩
 . obtain⟨v,o,ho,hd⟩:=I.cell x c (sub h);exact⟨v,o,hk _ o ho,hd⟩
 . show _=(tgs++caps).length;unfold E9;rw[χ,GO,bI,χ,C.len]
inductive PTs (X:Cx):List Expr->TT->Prop where
 |nil:PTs X [] (fun _ H Q=>Q true H)
 |one {c:Expr} {t:TT} (h:PT X c t):PTs X [c] t
def PTs.run(h:PTs X aC t)(I:Inv X pins σ H s)(q:t σ H Q) :
  wpAny (model X.prog X.w) X.A (forIn aC true fun c r=>if r=true then do let ok <-isTrue c X.env (eval c X.env);pure (ForInStep.yield ok) else pure (ForInStep.yield r)) (TP X pins σ Q) X.xe s:=by
 cases h with
 |nil=>exact wpAny_tests_nil ⟨H,I,q⟩
 |one h=>exact wpAny_tests_one (h pins s σ H Q I q)
def Pz(J:It)(D:Addr)(B:V->Hp->(List V->Hp->Prop)->Prop)(cs:St)(tt:TT)(te:TE)(Q:VK)(H1:Hp):Prop:=
 ∃W:Nat->Nat->List V->Hp->Prop,(∃m,W 0 m [] (upd H1 D (.lst [])))/\∀i m ys H,W i m ys H ->
  H D=some (.lst ys)/\((J.stop i H/\Q (.ref D) H)\/(J.go i H/\∀x H',J.yld i H x H'->B x H' fun am H2=>tt (am.map some++cs) H2 fun b H3=>
   if b=true then te (am.map some++cs) H3 fun y H4=>H4 D=some (.lst ys)/\ys.length<sizeLine/\∃m',m'<m/\W (i+1) m' (ys++[y]) (upd H4 D (.lst (ys++[y])))
   else ∃m',m'<m/\W (i+1) m' ys H3))
def L7(wi:TI)(B:V->Hp->(List V->Hp->Prop)->Prop)(ix:List Nat)(tt:TT)(te:TE):TE:=fun σ H Q=>wi σ H fun J H1=>∀D,H1 D=none->Pz J D B (E9 ix σ) tt te Q H1
variable {aH tg iter:Expr}{aC:List Expr}{pos:Pos}{g:TG}{B:V->Hp->(List V->Hp->Prop)->Prop}{tt:TT}{te:TE}
def Zs(C:CompOk X sc caps ix)(hg:∀fp s H,PG (j5 X sc (tgs++caps) fp s H) tg g)
  (hB:∀(x:V)(bE cs:St)(H:Hp)(Q:St->Hp->Prop),bE.length=tgs.length->B x H (fun am H2=>Q (am.map some++cs) H2)->g x (bE++cs) H fun aV H2=>(∃am:List V,am.length=tgs.length/\aV=am.map some++cs)/\Q aV H2)
  (ht:∀fp s H,PTs (j5 X sc (tgs++caps) fp s H) aC tt) (he:∀fp s H,PE (j5 X sc (tgs++caps) fp s H) aH te)
  {J:It} {it:Addr} {tn:Nat->Heap->Prop} {Q:VK} {E:Value->Shared->Prop} (I2:Inv X pins σ H s) (T:Turn X.prog X.w X.K tg J fp it tn) (st:tn 0 s.heap) (hf:∀b∈fp,u4 X pins H b)
  (hw:∀D,H D=none->Pz J D B (E9 ix σ) tt te Q H) {RR:Value->Addr->Result->Shared->Prop}
  (rN:∀D Cc H' s' m,s'.heap.Ns Cc m->Inv X pins σ H' s'->u4 X pins H' Cc->Q (.ref D) H'->RR (.ref D) Cc (.ok .next) s') :
  wpAny (model X.prog X.w) X.A (newList []) (fun acc az=>wpAny (model X.prog X.w) X.A (newFunctionEnv sc X.env.globals (r9 X.env.cells sc.names []) [] X.env.qual none .none (some X.env)) (fun ln cY=>
   codeAny (model X.prog X.w) X.A (.compStart (.ListComp aH [⟨tg,iter,aC,0⟩] sc pos) 0 (.ref it) acc { ln with scope:=relabel sc X.env }) (RR acc ln.locals) cY) E az) E s:=by
 refine wpAny_newObj_type (wpAny_newFunctionEnv C.ncell (by intro y hy;simp at hy) (fun dO fG fH=>?_) C.kind)
 have I3:Inv X pins σ (upd H s.heap.objs.size (.lst [])) { s with heap:=s.heap.push { cls:=.type "list",dict:=none,data:=.seq ([]:List Value).toArray } }:=I2.lnew (t':=s.toks) (its:=[]) .nil (DC _)
 have rO:H s.heap.objs.size=none:=I2.fresh
 have oH:∀b∈fp,b<s.heap.objs.size:=fun b hb=>by obtain⟨o,e,_⟩:=T.obj _ _ st b hb;exact π e
 have rP:∀b∈fp,b≠s.heap.objs.size:=fun b hb=>CC (oH b hb)
 have oI:∀b∈fp,u4 X pins (upd H s.heap.objs.size (.lst [])) b:=fun b hb=>⟨by rw[i6 (rP b hb)];exact(hf b hb).1,(hf b hb).2⟩
 generalize rQ:({ s with heap:=s.heap.push { cls:=.type "list",dict:=none,data:=.seq ([]:List Value).toArray } }:Shared)=az at I3 fG fH⊢
 have lr:az.heap=s.heap.push { cls:=.type "list",dict:=none,data:=.seq ([]:List Value).toArray }:=by rw[<-rQ]
 have dF:tn 0 az.heap:=T.keep _ _ _ st fun b _ o e=>by rw[lr];exact τ _ e
 have oJ:∀b∈fp,b<az.heap.objs.size:=fun b hb=>by rw[lr,Heap.size_push];exact Nat.lt_succ_of_lt (oH b hb)
 generalize AZ:s.heap.objs.size=D at *
 have oK:∀b o,az.heap.get? b=some o->dO.get? b=some o:=fun b o e=>fH.extBut b o (CC (π e)) (τ _ e)
 have I4:=zii (tgs:=tgs) (t':=az.toks+([]:List (Str×Value)).length) C I3 oI oJ fG oK
 have cS:tn 0 dO:=T.keep _ _ _ dF fun b _ o e=>oK b o e
 have rR:∀b∈fp,(upd H D (.lst [])) b=none:=fun b hb=>(oI b hb).1
 generalize cT:j5 X sc (tgs++caps) fp az (upd H D (.lst []))=Xc at I4
 have bA:Xc.prog=X.prog:=by rw[<-cT];rfl
 have dJ:Xc.w=X.w:=by rw[<-cT];rfl
 have oM:Xc.K=X.K:=by rw[<-cT];rfl
 have gh:Xc.calm=true:=by rw[<-cT];exact C.calm
 have hA:Xc.A=X.A:=by rw[<-cT];rfl
 have eG:Xc.env=compEnvC sc (r9 X.env.cells sc.names []) az.heap.objs.size X.env:=by rw[<-cT];rfl
 have iB:Xc.xe=fun _ _=>False:=by rw[<-cT];rfl
 have oN:=hg fp az (upd H D (.lst []))
 have oO:=ht fp az (upd H D (.lst []))
 have eP:=he fp az (upd H D (.lst []))
 rw[cT]at oN oO eP
 obtain⟨W,⟨m0,w0⟩,turn⟩:=hw D rO
 have dq:∀{H':Hp},(∀b∈fp,H' b=none)->∀b∈fp,u4 Xc [] H' b:=fun {H'} hn b hb=>by
  refine⟨hn b hb,?_,?_,.inl ?_,fun x c e z=>?_,fun p hp=>?_⟩
  . rw[eG];exact CC (oJ b hb)
  . rw[<-cT];intro z;obtain⟨_,h1,h2,_⟩:=hf b hb;rcases eH.mp (I3.stkSub b z) with q |q
    . exact h1 q
    . exact h2 q
  . rw[<-cT];exact hb
  . rw[eG]at e;exact(hf b hb).2.2.2.2.1 x c (C.sub I2 e) z
  . rw[<-cT]at hp;exact absurd (show p∈([]:List (Addr×Obj)) from hp) (by simp)
 have loop:∀cY:Shared,cY={ az with heap:=dO,toks:=az.toks+([]:List (Str×Value)).length } ->
   codeAny (model X.prog X.w) X.A (.compLoop (.ListComp aH [⟨tg,iter,aC,0⟩] sc pos) 0 (.ref it) (.ref D) (compEnvC sc (r9 X.env.cells sc.names []) az.heap.objs.size X.env)) (RR (.ref D) az.heap.objs.size) cY:=by
  intro cY oP
  rw[<-bA,<-dJ,<-hA,<-eG]
  refine zd8 (fun n s'=>∃(i:Nat)(ys:List V)(bE:St)(H':Hp),bE.length=tgs.length/\Inv Xc [] (bE++E9 ix σ) H' s'/\tn i s'.heap/\(∀b∈fp,H' b=none)/\W i n ys H') ?_ m0
   ⟨0,[],List.replicate tgs.length none,upd H D (.lst []),by simp,by rw[oP];exact I4,by rw[oP];exact cS,rR,w0⟩
  rintro n s5 ⟨i,ys,bE,H5,rS,I5,fN,iy,w5⟩
  obtain⟨A',lO⟩:=turn i n ys H5 w5
  rcases lO with⟨stop,q⟩ |⟨go,step⟩
  . rw[bA,dJ];refine thn (T.done Xc bA dJ oM gh i [] s5 _ H5 _ I5 (dq iy) fN stop) fun r s6 ⟨hr,I6⟩=>?_
    subst hr;obtain⟨m6,oQ,_⟩:=I6.loc;rw[eG]at oQ;have rT:∀b∈fp,(b∈X.ex\/X.s₀.heap.objs.size<=b)/\b≠X.env.locals/\(∀x c,X.env.cells.lookup x=some c->c≠b)/\∀p∈X.pn++pins,p.1≠b:=fun b hb=>⟨(hf b hb).2.2.2.1,(hf b hb).2.1,(hf b hb).2.2.2.2.1,(hf b hb).2.2.2.2.2⟩
    have gL:s6.os=az.os:=by have:=I6.os;rw[<-cT]at this;exact this
    have rV:Un (frs X.stack) fp (upd H D (.lst [])) H5 az.heap s6.heap:=by have:=I6.base;rw[<-cT]at this;exact this
    have nX:HOk X.prog X.w H5 s6.heap:=by have:=I6.hok;rw[bA,dJ]at this;exact this
    have I7:Inv X pins σ H5 s6:=I3.call' gL rV nX I6.bare rT;refine rN D _ H5 s6 m6 oQ I7 ?_ q;have rW:H5 az.heap.objs.size=none:=by have:=I6.free;rw[eG]at this;exact this
    exact I3.fpOk (η _) rW
  . rw[bA,dJ];refine thn (T.item Xc bA dJ oM gh i [] s5 _ H5 _ I5 (dq iy) fN go) fun r s6 ⟨u,hr,h6⟩=>?_
    subst hr;refine thn h6 fun _ s7 ⟨x,H7,I7,r7,y7,lY,rX⟩=>?_
    have rY:=I7.pinned (dq rX) (T.obj _ _ lY);have aU:=oN _ s7 _ H7 x u _ rY r7 (hB x bE (E9 ix σ) H7 (fun aV H2=>tt aV H2 fun b H3=>if b=true then te aV H3 fun y H4=>H4 D=some (.lst ys)/\ys.length<sizeLine/\∃m',m'<n/\W (i+1) m' (ys++[y]) (upd H4 D (.lst (ys++[y]))) else ∃m',m'<n/\W (i+1) m' ys H3) rS (step x H7 y7));rw[bA,dJ,iB]at aU;refine thn aU fun _ s8 ⟨rZ,H8,I8,⟨am,oR,nY⟩,q8⟩=>?_
    have again:∀{H9:Hp}{s9:Shared},Inv Xc ([]++Ah fp s7.heap) rZ H9 s9->tn (i+1) s9.heap/\∀b∈fp,H9 b=none:=fun {H9 s9} I9=>
     ⟨T.keep _ _ _ lY fun b hb o e=>(I9.pin (b,o) (CK _ (CK _ (Fd hb e)))).1,fun b hb=>by obtain⟨o,e,d⟩:=T.obj _ _ lY b hb;exact(I9.pin (b,o) (CK _ (CK _ (Fd hb e)))).2.1⟩
    subst nY;have ft:=oO.run I8 q8;rw[bA,dJ,iB]at ft;refine thn ft fun ok s9 ⟨H9,I9,q9⟩=>?_
    cases ok with
    |false=>
     rw[ξ θ]at q9⊢
     obtain⟨m',hm,w9⟩:=q9
     obtain⟨a1,a2⟩:=again I9
     exact⟨m',hm,i+1,ys,am.map some,H9,by simpa using oR,I9.unpinned,a1,a2,w9⟩
    |true=>
     rw[ζ rfl]at q9⊢
     have oS:=eP _ s9 _ H9 _ I9 q9
     rw[bA,dJ,iB]at oS
     refine thn oS fun uy sd ⟨y,oU,sf,sg,nZ,og,m',hm,sk⟩=>?_
     have oV:=E4 (X:=Xc) _ sd _ oU (.ref D) [y] (.ref D) [uy] (fun v oW=>v=.non/\oW=upd oU D (.lst (ys++[y]))) sf rfl (.cons sg .nil) ⟨D,ys,y,rfl,rfl,nZ,og,rfl,rfl⟩
     rw[bA,dJ,iB]at oV
     refine thn oV fun _ BA ⟨v,oW,oX,_,_,sq⟩=>?_
     subst sq
     obtain⟨a1,a2⟩:=again oX
     exact⟨m',hm,i+1,ys++[y],am.map some,_,by simpa using oR,oX.unpinned,a1,a2,sk⟩
 refine codeAny_compStart_list (loop _ rfl) (T.self X.A 0 _ _ _ cS (loop _ rfl))
theorem Vi(C:CompOk X sc caps ix)(hi:PI X tg iter wi)(hg:∀fp s H,PG (j5 X sc (tgs++caps) fp s H) tg g)
  (hB:∀(x:V)(bE cs:St)(H:Hp)(Q:St->Hp->Prop),bE.length=tgs.length->B x H (fun am H2=>Q (am.map some++cs) H2)->g x (bE++cs) H fun aV H2=>(∃am:List V,am.length=tgs.length/\aV=am.map some++cs)/\Q aV H2)
  (ht:∀fp s H,PTs (j5 X sc (tgs++caps) fp s H) aC tt) (he:∀fp s H,PE (j5 X sc (tgs++caps) fp s H) aH te)
  (hs:∀x,foldedSetIterable iter X.env x=pure x:=by intro _;rfl):PE X (.ListComp aH [⟨tg,iter,aC,0⟩] sc pos) (L7 wi B ix tt te):=by
 intro pins s σ H Q I h
 rw[eval_ListComp]
 refine wpAny_comprehension_free (use:=none) rfl hs (jK (C.free_cell I)) C.kind C.names (thn (hi pins s σ H _ I h) fun v s1 h1=>thn h1 fun gG s2 h2=>?_)
 obtain⟨it,fp,tn,J,H2,e,I2,T,aB,f2,hw⟩:=h2
 subst e
 refine Zs (RR:=fun acc Cc=>compPost (model X.prog X.w) X.A X.xe none (EP X pins σ Q) acc Cc) C hg hB ht he I2 T aB f2 hw ?_
 intro D Cc H' s' m hn I' cV q
 refine⟨m,hn,fun h' sb=>⟨.ref D,H',?_,rfl,q⟩⟩
 exact I'.turned (t':=s'.toks) (fun b o hb e=>sb.extBut b o hb e) cV.1 cV.2.1 cV.2.2.2.1 cV.2.2.2.2.1 cV.2.2.2.2.2
theorem Vh(hN:X.N.Nodup)(hk:X.N[k]?=some x)(hx:X.env.scope.names.lookup x=some .local)(C:CompOk X sc caps ix)(hi:PI X tg iter wi)(hg:∀fp s H,PG (j5 X sc (tgs++caps) fp s H) tg g)
  (hB:∀(x:V)(bE cs:St)(H:Hp)(Q:St->Hp->Prop),bE.length=tgs.length->B x H (fun am H2=>Q (am.map some++cs) H2)->g x (bE++cs) H fun aV H2=>(∃am:List V,am.length=tgs.length/\aV=am.map some++cs)/\Q aV H2)
  (ht:∀fp s H,PTs (j5 X sc (tgs++caps) fp s H) aC tt) (he:∀fp s H,PE (j5 X sc (tgs++caps) fp s H) aH te)
  (cW:swapsWith (.ListComp aH [⟨tg,iter,aC,0⟩] sc pos) (some (.Name x px)) bL.line X.env=pure true:=by rfl)
  (hs:∀x,foldedSetIterable iter X.env x=pure x:=by intro _;rfl):PS X (.Assign [.Name x px] (.ListComp aH [⟨tg,iter,aC,0⟩] sc pos) bL) (B8 (L7 wi B ix tt te) (u8 k)):=by
 intro pins s σ H D0 I h
 rw[exec_Assign_Name_used _ _ _ _ cW]
 refine δ (wpAny_standAt (δ ?_))
 show wpAny _ X.A (do let _ <-comprehension (.ListComp aH [⟨tg,iter,aC,0⟩] sc pos) sc X.env _ (newList []) false (eval iter X.env) (some (assign (.Name x px) X.env))) _ _ s
 refine δ (EM (wpAny_comprehension_free (use:=some (assign (.Name x px) X.env)) (Q:=fun _ s'=>SP X pins D0 .next s') rfl hs (jK (C.free_cell I)) C.kind C.names
  (thn (hi pins s σ H _ I h) fun v s1 h1=>thn h1 fun gG s2 h2=>?_)) (fun _ s' hq=>ω (ω hq)) fun _ _ e=>e)
 obtain⟨it,fp,tn,J,H2,e,I2,T,aB,f2,hw⟩:=h2
 subst e
 refine Zs (RR:=fun acc Cc=>compPost (model X.prog X.w) X.A X.xe (some (assign (.Name x px) X.env)) (fun _ s'=>SP X pins D0 .next s') acc Cc) C hg hB ht he I2 T aB f2 hw ?_
 intro D Cc H' s' m hn I' cV q
 show wpAny _ X.A (assign (.Name x px) X.env (.ref D)) _ _ _
 refine wpAny_assign_Name (Ym I' hN hk (.inl hx) (v:=.ref D) rfl (fun fq sr de=>?_) (.inr hx))
 obtain⟨a,sb,ha⟩:=de
 have ah:Cc≠a:=by
  rcases ha with z |z
  . rw[z];exact cV.2.1
  . exact fun e=>cV.2.2.2.2.1 x a z e.symm
 refine⟨m,hn.sameBut sb ah,fun h' ss=>⟨_,H',?_,q⟩⟩
 exact sr.turned (t':=fq.toks) (fun b o hb e=>ss.extBut b o hb e) cV.1 cV.2.1 cV.2.2.2.1 cV.2.2.2.2.1 cV.2.2.2.2.2
end
section
variable {X:Cx}
def PE.imp(h:PE X e t)(hi:∀σ H Q,t' σ H Q->t σ H Q):PE X e t':=fun pins s σ H Q I q=>h pins s σ H Q I (hi σ H Q q)
def PT.imp(h:PT X e t)(hi:∀σ H Q,t' σ H Q->t σ H Q):PT X e t':=fun pins s σ H Q I q=>h pins s σ H Q I (hi σ H Q q)
def OpR.imp(h:OpR X f r)(hi:∀x y H Q,r' x y H Q->r x y H Q):OpR X f r':=fun pins s σ H x y v u Q I rx ry q=>h pins s σ H x y v u Q I rx ry (hi x y H Q q)
def UnR.imp(h:UnR X f r)(hi:∀x H Q,r' x H Q->r x H Q):UnR X f r':=fun pins s σ H x v Q I rx q=>h pins s σ H x v Q I rx (hi x H Q q)
def CallR.imp(h:CallR X f r)(hi:∀xs H Q,r' xs H Q->r xs H Q):CallR X f r':=fun pins s σ H xs us Q I rx q=>h pins s σ H xs us Q I rx (hi xs H Q q)
end
noncomputable def n8(i:Nat):TE:=fun σ H Q=>match σ[i]? with |some (some v)=>Q v H |_=>False
def pw(i:Nat)(hN:X.N[i]?=some x:=by rfl)(hv:Vis X.env.scope x:=by first |exact .inl rfl |exact .inr (.inl rfl) |exact .inr (.inr rfl))(hd:(x==("__debug__":Str))=false:=by decide)
  (bB:(x==("__classdict__":Str))=false:=by decide):PE X (.Name x pos) (n8 i):=
 (Dr hN hv hd bB).imp fun σ H Q q=>by
  unfold n8 at q;unfold qE;split at q
  . rename_i v e;exact⟨v,e,q⟩
  . exact q.elim
noncomputable def cI(g:Int->Int->V):R2:=fun x y H Q=>match x,y with | .int i,.int j=>Q (g i j) H |_,_=>False
noncomputable def cIC(C:Int->Int->Prop)(g:Int->Int->V):R2:=fun x y H Q=>match x,y with | .int i,.int j=>C i j/\Q (g i j) H |_,_=>False
def OpR.cI(h:OpR X f (rI0 g)):OpR X f (cI g):=h.imp fun x y H Q q=>by cases x<;>cases y<;>first |exact⟨_,_,rfl,rfl,q⟩ |exact q.elim
def OpR.cIC(h:OpR X f (rI C g)):OpR X f (cIC C g):=h.imp fun x y H Q q=>by cases x<;>cases y<;>first |exact⟨_,_,rfl,rfl,q.1,q.2⟩ |exact q.elim
section
variable {X:Cx}
def y0:OpR X (binaryOp .Add) (cI fun i j=>.int (i+j)):=op_add.cI
def S9:OpR X (binaryOp .Sub) (cI fun i j=>.int (i - j)):=op_sub.cI
def Py:OpR X (binaryOp .Mod) (cIC (fun _ j=>0<j) fun i j=>.int (i % j)):=op_mod.cIC
def R4:OpR X (compareOp .Lt) (cI fun i j=>.bl (decide (i<j))):=op_lt.cI
def R3:OpR X (compareOp .LtE) (cI fun i j=>.bl (decide (i<=j))):=op_le.cI
def X9:OpR X (compareOp .Gt) (cI fun i j=>.bl (decide (j<i))):=op_gt.cI
def y7v:OpR X (compareOp .GtE) (cI fun i j=>.bl (decide (j<=i))):=op_ge.cI
def cU(g:Int->V):V->Hp->VK->Prop:=fun x H Q=>match x with | .int i=>Q (g i) H |_=>False
def Y7:UnR X (unaryOp .USub) (cU fun i=>.int (-i)):=un_neg.imp fun x H Q q=>by cases x<;>first |exact⟨_,rfl,q⟩ |exact q.elim
end
noncomputable def C3(H:Hp)(p:Addr):Option (List V):=match H p with
 |some (.lst xs)=>some xs
 |some (.tup xs)=>some xs
 |some (.frz _ (.lst xs))=>some xs
 |some (.frz _ (.tup xs))=>some xs
 |_=>none
def Ww{K:Frag}{H:Hp}{p:Addr}{xs:List V}(h:C3 H p=some xs):SqL K H p xs\/SqT K H p xs:=by
 unfold C3 at h;split at h;all_goals first | (cases h;done) |skip
 . rename_i ys e;cases h;exact .inl (.inl (.inl e))
 . rename_i ys e;cases h;exact .inr (.inl (.inl e))
 . rename_i o ys e;cases h;exact .inl (.inl (.inr ⟨_,e⟩))
 . rename_i o ys e;cases h;exact .inr (.inl (.inr ⟨_,e⟩))
def Yc(h:H p=some (.lst xs)):C3 H p=some xs:=by unfold C3;rw[h]
def Yb(h:H p=some (.tup xs)):C3 H p=some xs:=by unfold C3;rw[h]
def L6(x:V)(H:Hp)(Q:Bool->Hp->Prop):Prop:=match x with
 | .bl b=>Q b H
 | .int i=>Q (i != 0) H
 | .non=>Q false H
 | .str y=>y.length<=sizeLine/\Q ((y.length:Int) != 0) H
 | .ref p=>(match C3 H p with
  |some xs=>Q (!xs.isEmpty) H
  |none=>(match H p with |some (.dK kvs)=>Q (!kvs.isEmpty) H |_=>False))
 |_=>False
def Wv{K:Frag}{x:V}{H:Hp}{Q:Bool->Hp->Prop}(h:L6 x H Q):∃k,qx K x H k/\Q k H:=by
 cases x with
 |bl b=>exact⟨b,rfl,h⟩
 |int i=>exact⟨_,rfl,h⟩
 |non=>exact⟨_,rfl,h⟩
 |str y=>exact⟨_,⟨h.1,rfl⟩,h.2⟩
 |ref p=>
  unfold L6 at h
  dsimp only at h
  split at h
  . rename_i xs e;rcases Ww (K:=K) e with z |z
    . exact⟨_,.inl ⟨xs,z,rfl⟩,h⟩
    . exact⟨_,.inr (.inl ⟨xs,z,rfl⟩),h⟩
  . split at h
    . rename_i kvs e;exact⟨_,.inr (.inr ⟨kvs,e,rfl⟩),h⟩
    . exact h.elim
 |_=>exact h.elim
noncomputable def y7w(t:TE):TT:=fun σ H Q=>t σ H fun x H'=>L6 x H' Q
section
variable {X:Cx}{a b c:Expr}{ta tb:TE}{pos:Pos}
def vU(ha:PE X a ta)(he:∀whole,isTrue a X.env whole=(do let v <-whole;standAt a.pos;holding [v] (truthy v)):=by intro _;rfl):PT X a (y7w ta):=by intro pins s σ H Q I h;exact isTrue_plain (thn (ha pins s σ H _ I h) fun v s1 ⟨x,H1,I1,r1,q1⟩=>Td pins s1 σ H1 x v Q I1 r1 (Wv q1)) (he _)
noncomputable def Hl(t:TE):TT:=fun σ H Q=>t σ H fun x H'=>match x with | .bl k=>Q k H' |_=>False
theorem yp(ho:OpR X (compareOp op) r)(ha:PE X a ta)(hb:PE X b tb)(hm:behindInMarks op b=false):PT X (.Compare a [op] [b] pos) (Hl (tOp r ta tb)):=by
 intro pins s σ H Q I h;refine wpAny_isTrue_Compare1 (thn (ha pins s σ H _ I h) fun v s1 ⟨x,H1,I1,r1,q1⟩=>thn (hb pins s1 σ H1 _ I1 q1) fun u s2 ⟨y,H2,I2,r2,q2⟩=>
  thn (ho pins s2 σ H2 x y v u _ I2 r1 r2 q2) fun c s3 ⟨z,H3,I3,r3,q3⟩=>?_) hm
 cases z<;>first |exact q3.elim |skip
 cases r3;exact EV ⟨H3,I3,q3⟩
end
section
variable {X:Cx}{a b c:Expr}{ta tb:TE}{pos:Pos}
def PCh(X:Cx)(ops:List CmpOp)(rs:List Expr)(t:V->TE):Prop:=
 ∀(pos:Pos)(pins:List (Addr×Obj))(s:Shared)(σ:St)(H:Hp)(x:V)(v:Value)(Q:VK),Inv X pins σ H s->RelV x v->t x σ H Q->wpAny (model X.prog X.w) X.A (compareChain pos v ops (evalEach rs X.env)) (EP X pins σ Q) X.xe s
def PChT(X:Cx)(ops:List CmpOp)(rs:List Expr)(t:V->TT):Prop:=
 ∀(pos:Pos)(pins:List (Addr×Obj))(s:Shared)(σ:St)(H:Hp)(x:V)(v:Value)(Q:Bool->Hp->Prop),Inv X pins σ H s->RelV x v->t x σ H Q->wpAny (model X.prog X.w) X.A (testChain pos v ops (evalEach rs X.env)) (TP X pins σ Q) X.xe s
noncomputable def Px(r:R2)(tb:TE):V->TE:=fun x σ H Q=>tb σ H fun y H2=>r x y H2 Q
noncomputable def Pw(r:R2)(tb:TE)(t:V->TE):V->TE:=fun x σ H Q=>tb σ H fun y H2=>r x y H2 fun z H3=>match z with | .bl k=>(if k=true then t y σ H3 Q else Q (.bl false) H3) |_=>False
noncomputable def Sy(r:R2)(tb:TE):V->TT:=fun x σ H Q=>tb σ H fun y H2=>r x y H2 fun z H3=>match z with | .bl k=>Q k H3 |_=>False
noncomputable def Sx(r:R2)(tb:TE)(t:V->TT):V->TT:=fun x σ H Q=>tb σ H fun y H2=>r x y H2 fun z H3=>match z with | .bl k=>(if k=true then t y σ H3 Q else Q false H3) |_=>False
theorem zO(ho:OpR X (compareOp op) r)(hb:PE X b tb):PCh X [op] [b] (Px r tb):=by intro pos pins s σ H x v Q I rx h;exact chain_last (thn (hb pins s σ H _ I h) fun u s2 ⟨y,H2,I2,r2,q2⟩=>ho pins s2 σ H2 x y v u Q I2 rx r2 q2)
theorem zN(ho:OpR X (compareOp op) r)(hb:PE X b tb)(hr:PCh X (eQ::ops) (r'::rs) t):PCh X (op::eQ::ops) (b::r'::rs) (Pw r tb t):=by
 intro pos pins s σ H x v Q I rx h;refine chain_link (thn (hb pins s σ H _ I h) fun u s2 ⟨y,H2,I2,r2,q2⟩=>thn (ho pins s2 σ H2 x y v u _ I2 rx r2 q2) fun d s3 ⟨z,H3,I3,r3,q3⟩=>?_);cases z<;>first |exact q3.elim |skip
 rename_i k;cases r3;refine EV ?_;cases k with
 |false=>exact ite_ff ⟨.bl false,H3,I3,rfl,by simpa using q3⟩
 |true=>exact ite_tt (hr pos pins s3 σ H3 y u Q I3 r2 (by simpa using q3))
theorem zkc(ho:OpR X (compareOp op) r)(hb:PE X b tb):PChT X [op] [b] (Sy r tb):=by
 intro pos pins s σ H x v Q I rx h;refine test_last (thn (hb pins s σ H _ I h) fun u s2 ⟨y,H2,I2,r2,q2⟩=>thn (ho pins s2 σ H2 x y v u _ I2 rx r2 q2) fun d s3 ⟨z,H3,I3,r3,q3⟩=>?_);cases z<;>first |exact q3.elim |skip
 cases r3;exact EV ⟨H3,I3,q3⟩
theorem zkd(ho:OpR X (compareOp op) r)(hb:PE X b tb)(hr:PChT X (eQ::ops) (r'::rs) t):PChT X (op::eQ::ops) (b::r'::rs) (Sx r tb t):=by
 intro pos pins s σ H x v Q I rx h;refine test_link (thn (hb pins s σ H _ I h) fun u s2 ⟨y,H2,I2,r2,q2⟩=>thn (ho pins s2 σ H2 x y v u _ I2 rx r2 q2) fun d s3 ⟨z,H3,I3,r3,q3⟩=>?_);cases z<;>first |exact q3.elim |skip
 rename_i k;cases r3;refine EV ?_;cases k with
 |false=>exact ite_ff ⟨H3,I3,by simpa using q3⟩
 |true=>exact ite_tt (hr pos pins s3 σ H3 y u Q I3 r2 (by simpa using q3))
noncomputable def qe(ta:TE)(t:V->TE):TE:=fun σ H Q=>ta σ H fun x H1=>t x σ H1 Q
noncomputable def Pv(ta:TE)(t:V->TT):TT:=fun σ H Q=>ta σ H fun x H1=>t x σ H1 Q
def vT(ha:PE X a ta)(hr:PCh X (bh::bi::ops) (ce::cg::rs) t)(hm:lastMarks (bh::bi::ops) (ce::cg::rs)=false:=by with_unfolding_all rfl) :
  PE X (.Compare a (bh::bi::ops) (ce::cg::rs) pos) (qe ta t):=by
 intro pins s σ H Q I h
 exact Compare_chain (thn (ha pins s σ H _ I h) fun v s1 ⟨x,H1,I1,r1,q1⟩=>hr pos pins s1 σ H1 x v Q I1 r1 q1) hm
def vS(ha:PE X a ta)(hr:PChT X (bh::bi::ops) (ce::cg::rs) t)(hm:lastMarks (bh::bi::ops) (ce::cg::rs)=false:=by with_unfolding_all rfl) :
  PT X (.Compare a (bh::bi::ops) (ce::cg::rs) pos) (Pv ta t):=by
 intro pins s σ H Q I h
 exact isTrue_chain (thn (ha pins s σ H _ I h) fun v s1 ⟨x,H1,I1,r1,q1⟩=>hr pos pins s1 σ H1 x v Q I1 r1 q1) hm
noncomputable def Pu(ta tb:TE):TE:=fun σ H Q=>ta σ H fun x H1=>match x with | .bl c=>(if c=true then tb σ H1 Q else Q (.bl false) H1) |_=>False
noncomputable def qc(ta tb:TE):TE:=fun σ H Q=>ta σ H fun x H1=>match x with | .bl c=>(if c=true then Q (.bl true) H1 else tb σ H1 Q) |_=>False
end
section
variable {X:Cx}{a b c:Expr}{ta tb:TE}{pos:Pos}{rest:List Expr}
def yo(ha:PE X a ta)(hb:PE X (.BoolOp .And (b::rest) pos) tb):PE X (.BoolOp .And (a::b::rest) pos) (Pu ta tb):=by
 intro pins s σ H Q I h;refine BoolOp_and (thn (ha pins s σ H _ I h) fun v s1 ⟨x,H1,I1,r1,q1⟩=>?_);cases x<;>first |exact q1.elim |skip
 rename_i k;cases r1;refine EV ?_;cases k with
 |true=>exact ite_tt (hb pins s1 σ H1 Q I1 (by simpa using q1))
 |false=>exact ite_ff ⟨.bl false,H1,I1,rfl,by simpa using q1⟩
def vR(ha:PE X a ta)(hb:PE X (.BoolOp .Or (b::rest) pos) tb):PE X (.BoolOp .Or (a::b::rest) pos) (qc ta tb):=by
 intro pins s σ H Q I h;refine BoolOp_or (thn (ha pins s σ H _ I h) fun v s1 ⟨x,H1,I1,r1,q1⟩=>?_);cases x<;>first |exact q1.elim |skip
 rename_i k;cases r1;refine EV ?_;cases k with
 |true=>exact ite_tt ⟨.bl true,H1,I1,rfl,by simpa using q1⟩
 |false=>exact ite_ff (hb pins s1 σ H1 Q I1 (by simpa using q1))
noncomputable def y3h(ta:TE):TE:=fun σ H Q=>ta σ H fun x H1=>L6 x H1 fun k H2=>Q (.bl (!k)) H2
def yn(ha:PE X a ta):PE X (.UnaryOp .Not a pos) (y3h ta):=by intro pins s σ H Q I h;refine UnaryOp_ (thn (ha pins s σ H _ I h) fun v s1 ⟨x,H1,I1,r1,q1⟩=>not_of ?_);exact thn (Td pins s1 σ H1 x v _ I1 r1 (Wv q1)) fun k s2 ⟨H2,I2,q2⟩=>⟨.bl (!k),H2,I2,rfl,q2⟩
noncomputable def J2(H:Hp):V->Option String
 | .non=>some "NoneType"
 | .bl _=>some "bool"
 | .int _=>some "int"
 | .str _=>some "str"
 | .ref a=>(match H a with
  |some (.lst _)=>some "list"
  |some (.frz _ (.lst _))=>some "list"
  |some (.tup _)=>some "tuple"
  |some (.dK _)=>some "dict"
  |some (.dT _)=>some "dict"
  |_=>none)
 |_=>none
noncomputable def E8(t c:String):Bool:=t==c||(t=="bool"&&c=="int")
noncomputable def F5(c:String):Bool:=["int","bool","str","list","tuple","dict"].contains c
def J9{K:Frag}{t c:String}(ht:["NoneType","bool","int","str","list","tuple","dict"].contains t=true)(hc:F5 c=true):PySem.W.kitOne K (.type t) (.type c)=some (E8 t c):=by
 have h1:t="NoneType"\/t="bool"\/t="int"\/t="str"\/t="list"\/t="tuple"\/t="dict":=by simpa using ht
 have h2:c="int"\/c="bool"\/c="str"\/c="list"\/c="tuple"\/c="dict":=by simpa [F5] using hc
 rcases h1 with rfl |rfl |rfl |rfl |rfl |rfl |rfl<;>rcases h2 with rfl |rfl |rfl |rfl |rfl |rfl<;>first |rfl | (with_unfolding_all rfl)
theorem zM:CallR X (.builtin "isinstance") (fun xs H Q=>match xs with
  | [x,.ty c]=>F5 c=true/\(match J2 H x with |some t=>Q (.bl (E8 t c)) H |none=>False)
  |_=>False):=by
 intro pins s σ H xs us Q I r h
 split at h
 . rename_i x c;obtain⟨hc,h⟩:=h;obtain⟨u,w',rfl,ru,bD⟩:=Ct r;cases bD;split at h
   . rename_i t et;have fin:∀(tk:Nat),EP X pins σ Q (.bool (E8 t c)) { s with toks:=tk }:=fun tk=>⟨.bl _,H,I.tok _,rfl,h⟩
     cases x<;>simp only[J2]at et
     case non=>cases et;exact K0 I ru .non (J9 (by decide) hc) fin
     case bl b=>cases et;exact K0 I ru (.bl b) (J9 (by decide) hc) fin
     case int b=>cases et;exact K0 I ru (.int b) (J9 (by decide) hc) fin
     case str b=>cases et;exact K0 I ru (.str b) (J9 (by decide) hc) fin
     case ref a=>
      split at et<;>first | (cases et;done) |skip
      . rename_i ys e;cases et;exact K0 I ru (.lst e) (J9 (by decide) hc) fin
      . rename_i o ys e;cases et;exact K0 I ru (.frz e) (J9 (by decide) hc) fin
      . rename_i ys e;cases et;exact K0 I ru (.tup e) (J9 (by decide) hc) fin
      . rename_i ys e;cases et;exact K0 I ru (.dK e) (J9 (by decide) hc) fin
      . rename_i ys e;cases et;exact K0 I ru (.dT e) (J9 (by decide) hc) fin
     all_goals cases et
   . exact h.elim
 . exact h.elim
def zke(hc:X.calm=true):CallR X (.builtin "sum") (fun xs H Q=>match xs with
  | [.ref p]=>∃ns:List Int,C3 H p=some (ns.map V.int)/\Q (.int ns.sum) H
  |_=>False):=by
 intro pins s σ H xs us Q I r h
 split at h
 . rename_i p;obtain⟨ns,e,q⟩:=h;obtain⟨u,rfl,ru⟩:=r8 r;cases ru;have key:∀{its:List Value},Vals (ns.map V.int) its->∃ys:Array (Int×Tok),its.toArray=intItems ys/\preSum (numAt ys) ys.size=ns.sum:=fun {its} rv=>by
    have hi:=Fc rv;obtain⟨ys,hx⟩:=hi.allInts.items;refine⟨ys,hx,?_⟩;have e1:ns=ys.toList.map (·.1):=by rw[<-nums_intItems,<-hx];exact(show numsOf its.toArray.toList=ns from hi.numsOf).symm
    rw[preSum_eq,List.take_of_length_le (by simp),e1]
   rcases Ww (K:=X.K) e with hq |hq
   . obtain⟨its,rv,pl,_⟩:=I.list hq;obtain⟨ys,hx,es⟩:=key rv;refine sum_intListG (I.ok.hd hc) (hx ▸ pl.isList) fun h' tk t' hk=>?_
     rw[es];exact⟨.int ns.sum,H,I.kept hk,⟨_,rfl⟩,q⟩
   . obtain⟨its,rv,pl,_⟩:=I.tuple hq;obtain⟨ys,hx,es⟩:=key rv;refine PySem.W.ktm_sumG (I.ok.hd hc) (hx ▸ pl) fun h' tk t' hk=>?_
     rw[es];exact⟨.int ns.sum,H,I.kept hk,⟨_,rfl⟩,q⟩
 . exact h.elim
abbrev Hk(s:Shared)(L:Addr):List (Addr×Obj):=Ej (Att.noObjs s.heap) s.heap L
section
variable {pins:List (Addr×Obj)}{σ:St}{H:Hp}{s:Shared}{h':Heap}{m:Str->Option Value}
def Zr(N:News (Att.noObjs s.heap) L h' (Hk s L)):∀b o,b≠L->s.heap.get? b=some o->h'.get? b=some o:=fun b o hb e=>(N (b,o) (zey hb (Att.noObjs_get _ _) e)).1
theorem Inv.frn(I:Inv X pins σ H s)(hn:s.heap.Ns X.env.locals m)(F:Fr (Att.noObjs s.heap) X.env.locals h' m)(N:News (Att.noObjs s.heap) X.env.locals h' (Hk s X.env.locals)):Inv X pins σ H { s with heap:=h',toks:=tk }:=by
 have kept:=Zr N;refine I.step (g':=s.gens) (d':=s.drawn) (ch:=[]) (fun _ z=>nomatch z) (fun b o hL _ _ e _=>kept b o hL e) (fun b o hL _ _ e _=>⟨o.slots,kept b o hL e⟩) (fun _ _ _ _ n=>n) (fun b o _ e=>?_) (fun _ _ e=>e) (fun _ _ _ e=>e) (fun b ps e=>⟨#[],by rw[e];simp⟩) (fun m' hm=>?_) (fun b u e=>?_) I.bare
 . by_cases hb:b=X.env.locals
   . subst hb;obtain⟨o',_,_,aY,_⟩:=F.ns;exact⟨o',aY⟩
   . exact⟨o,kept b o hb e⟩
 . rw[hm.eq_nsMap,<-hn.eq_nsMap];exact F.ns
 . refine(I.hok b u e).stay (fun c v hc q=>kept c v ?_ q) (fun _ q=>q) fun _ _ q=>q
   intro z;rcases hc with hc |hc
   . rw[<-hc,z,I.free]at e;cases e
   . rw[z,I.free]at hc;cases hc
theorem Inv.frnew(I:Inv X pins σ H s)(hn:s.heap.Ns X.env.locals m)(F:Fr (Att.noObjs s.heap) X.env.locals h' m)(N:News (Att.noObjs s.heap) X.env.locals h' ((D,ob)::Hk s X.env.locals))
  (hD:s.heap.get? D=none) (new:ObjOk X.prog X.w (upd H D o) h' D o):H D=none/\Inv X pins σ (upd H D o) { s with heap:=h',toks:=tk }:=by
 have kept:=Zr (fun p hp=>N p (.tail _ hp))
 have BC:D≠X.env.locals:=(N (D,ob) (.head _)).2.1
 have sw:∀b o,s.heap.get? b=some o->b≠D:=fun b o e z=>by rw[z,hD]at e;cases e
 have HD:H D=none:=by
  cases q:H D with
  |none=>rfl
  |some u=>
   have:=(I.hok D u q).lt
   obtain⟨v,hv⟩:∃v,s.heap.get? D=some v:=by
    have z:=I.hok D u q;cases u with
    |lst xs=>obtain⟨_,_,_,_,e⟩:=z;exact⟨_,e⟩
    |tup xs=>obtain⟨_,_,_,o,e,_⟩:=z;exact⟨_,e⟩
    |dK kvs=>obtain⟨_,_,_,_,o,_,_,e,_⟩:=z;exact⟨_,e⟩
    |dT kvs=>obtain⟨_,_,_,_,o,_,_,e,_⟩:=z;exact⟨_,e⟩
    |set S n=>obtain⟨_,_,_,_,e,_⟩:=z;exact⟨_,e⟩
    |ins C dx fs=>obtain⟨_,_,_,e,_⟩:=z;exact⟨_,e⟩
    |own x=>exact z
    |xd fs=>obtain⟨mA,n1,_⟩:=z;obtain⟨o,_,_,e,_⟩:=n1;exact⟨o,e⟩
    |met f x=>exact⟨_,z⟩
    |rng lo hi=>obtain⟨_,_,_,e⟩:=z;exact⟨_,e⟩
    |frz o u=>exact⟨_,z.1⟩
    |tbl ps=>exact⟨_,z⟩
    |ctb q=>obtain⟨_,e,_⟩:=z;exact⟨_,e⟩
    |ext φ=>exact z.2.1
   rw[hD]at hv;cases hv
 refine⟨HD,I.step (g':=s.gens) (d':=s.drawn) (ch:=[]) (fun _ z=>nomatch z) (fun b o hL _ _ e _=>kept b o hL e) (fun b o hL _ _ e _=>⟨o.slots,kept b o hL e⟩) (fun b ob _ e n=>by rw[i6 (sw b ob e)];exact n) (fun b o _ e=>?_)
  (fun b xs e=>by rw[i6 (t8 e HD)];exact e) (fun b u xs e=>by rw[i6 (t8 e HD)];exact e) (fun b ps e=>⟨#[],by rw[i6 (t8 e HD),e];simp⟩) (fun m' hm=>?_) (fun b u e=>?_) I.bare⟩
 . by_cases hb:b=X.env.locals
   . subst hb;obtain⟨o',_,_,aY,_⟩:=F.ns;exact⟨o',aY⟩
   . exact⟨o,kept b o hb e⟩
 . rw[hm.eq_nsMap,<-hn.eq_nsMap];exact F.ns
 . by_cases hb:b=D
   . subst hb;rw[k7]at e;cases e;exact new
   . rw[i6 hb]at e;refine(I.hok b u e).stay (fun c v hc q=>kept c v ?_ q) (fun c q=>?_) fun c xs q=>?_
     . intro z;rcases hc with hc |hc
       . rw[<-hc,z,I.free]at e;cases e
       . rw[z,I.free]at hc;cases hc
     . rw[i6 (t8 q HD)];exact q
     . rw[i6 (t8 q HD)];exact q
end
theorem zf6:∀{us:List Value},Vals (bs.map V.bl) us->LSm.BoolsAre us bs:=by
 induction bs with
 |nil=>intro us r;cases r;exact .nil
 |cons b bs ih=>
  intro us r
  cases r with
  |cons r1 r2=>cases r1;exact .cons b (ih r2)
def zkf(hc:X.calm=true):CallR X (.builtin "all") (fun xs H Q=>match xs with
  | [.ref p]=>∃bs:List Bool,Rd H p (.lst (bs.map V.bl))/\Q (.bl (bs.all id)) H
  |_=>False):=by
 intro pins s σ H xs us Q I r h
 split at h
 . rename_i p;obtain⟨bs,e,q⟩:=h;obtain⟨u,rfl,ru⟩:=r8 r;cases ru;obtain⟨its,rv,pl,_⟩:=I.list (.inl e);obtain⟨m,hn,_⟩:=id I.loc;exact LSm.all_bools (Att.fr_all hn) (Ev (g:=Att.noObjs s.heap) (L:=X.env.locals)) (I.ok.hd hc) pl.isList (zf6 rv) fun h' tk F N=>⟨.bl _,H,I.frn hn F N,rfl,q⟩
 . exact h.elim
def zkg:CallR X (.type "int") (fun xs H Q=>match xs with | [.int i]=>Q (.int i) H | [.bl k]=>Q (.int (if k then 1 else 0)) H |_=>False):=call_int1.imp fun xs H Q q=>by
 split at q
 . exact .inl ⟨_,rfl,q⟩
 . exact .inr ⟨_,rfl,q⟩
 . exact q.elim
def zik(hc:X.calm=true):CallR X (.builtin "max") (fun xs H Q=>match xs with | [.int i,.int j]=>Q (.int (if j > i then j else i)) H |_=>False):=(zjs hc).imp fun xs H Q q=>by
 split at q
 . exact⟨_,_,rfl,q⟩
 . exact q.elim
def zil(hc:X.calm=true):CallR X (.builtin "min") (fun xs H Q=>match xs with | [.int i,.int j]=>Q (.int (if j<i then j else i)) H |_=>False):=(zjt hc).imp fun xs H Q q=>by
 split at q
 . exact⟨_,_,rfl,q⟩
 . exact q.elim
end
noncomputable def ItS(S:Hp->Prop)(xs:List V):It:=⟨fun i H=>S H/\i<xs.length,fun i H x H'=>H'=H/\xs[i]?=some x,fun i H=>S H/\xs.length<=i⟩
def Turn.conv{P:Program}{w:World}{K:Frag}{tg:Expr}{J J':It}{fp:List Addr}{it:Addr}{tn:Nat->Heap->Prop}(T:Turn P w K tg J fp it tn)(h1:∀i H,J'.go i H->J.go i H)(h2:∀i H x H',J'.go i H->J.yld i H x H'->J'.yld i H x H')
  (h3:∀i H,J'.stop i H->J.stop i H):Turn P w K tg J' fp it tn where
 mem:=T.mem
 obj:=T.obj
 keep:=T.keep
 item:=fun X a b c d i pins s σ H E I hf st hg=>thn (T.item X a b c d i pins s σ H E I hf st (h1 i H hg)) fun r s1 ⟨u,e,h⟩=>⟨u,e,thn h fun _ s2 ⟨x,H',I',r',y',st',cz⟩=>⟨x,H',I',r',h2 i H x H' hg y',st',cz⟩⟩
 done:=fun X a b c d i pins s σ H E I hf st hg=>T.done X a b c d i pins s σ H E I hf st (h3 i H hg)
 self:=T.self
section
variable {X:Cx}{tg:Expr}
def R1(x:V)(H1:Hp)(R:It->Hp->Prop):Prop:=match x with
 | .ref a=>(match H1 a with
  |some (.lst xs)=>R (ItS (fun H'=>Rd H' a (.lst xs)) xs) H1
  |some (.frz _ (.lst xs))=>R (ItS (fun H'=>Rd H' a (.lst xs)) xs) H1
  |some (.tup xs)=>R (ItS (fun H'=>H' a=some (.tup xs)) xs) H1
  |_=>False)
 |_=>False
def zL(h:Rd H a (.lst xs))(r:R (ItS (fun H'=>Rd H' a (.lst xs)) xs) H):R1 (.ref a) H R:=by
 unfold R1;rcases h with h |⟨o,h⟩
 . dsimp only;rw[h];exact r
 . dsimp only;rw[h];exact r
def zK(h:H a=some (.tup xs))(r:R (ItS (fun H'=>H' a=some (.tup xs)) xs) H):R1 (.ref a) H R:=by unfold R1;dsimp only;rw[h];exact r
noncomputable def y7x(K:Frag)(tl:TE):TI:=fun σ H R=>tl σ H fun x H1=>R1 x H1 R
def vQ(hl:PE X l tl):PI X tg l (y7x X.K tl):=by
 intro pins s σ H R I h;refine thn (hl pins s σ H _ I h) fun v s1 ⟨x,H1,I1,r1,q1⟩=>?_
 cases x<;>first |exact q1.elim |skip
 rename_i a;cases r1;unfold R1 at q1;dsimp only at q1;have fJ:∀xs,Rd H1 a (.lst xs)->R (ItS (fun H'=>Rd H' a (.lst xs)) xs) H1->wpAny (model X.prog X.w) X.A (pyIter (.ref a)) (PIE X pins σ tg R) X.xe s1:=fun xs hq q=>by
  obtain⟨its,rv,p,hz⟩:=I1.list (.inl hq);refine wpAny_pyIter_list p.isList ?_;refine⟨s1.heap.objs.size,[s1.heap.objs.size],_,_,H1,rfl,I1.kept (t':=s1.toks) fun b o e=>τ _ e,(zjp a _).conv ?_ ?_ ?_,⟨_,Ψ _ rfl,rfl,rfl⟩,fun b hb=>?_,q⟩
  . exact fun i H' ⟨h1,h2⟩=>⟨xs,xs[i],.inl h1,by simp[h2]⟩
  . exact fun i H' x fP ⟨h1,h2⟩ ⟨e,y⟩=>⟨e,y xs (.inl h1)⟩
  . exact fun i H' ⟨h1,h2⟩=>⟨xs,.inl h1,h2⟩
  . have e:b=s1.heap.objs.size:=by simpa using hb
    subst e;exact I1.fpOk (η _) (I1.hok.fresh (η _))
 split at q1
 . rename_i xs e;exact fJ xs (.inl e) q1
 . rename_i o xs e;exact fJ xs (.inr ⟨o,e⟩) q1
 . rename_i xs e;obtain⟨its,rv,p,hz⟩:=I1.tuple (.of e);refine wpAny_pyIter_tuple (show s1.heap.IsTuple a its.toArray from p) ?_;refine⟨s1.heap.objs.size,[s1.heap.objs.size],_,_,H1,rfl,I1.kept (t':=s1.toks) fun b o e=>τ _ e,(zi9 a _).conv ?_ ?_ ?_,⟨_,Ψ _ rfl,rfl,rfl⟩,fun b hb=>?_,q1⟩
   . exact fun i H' ⟨h1,h2⟩=>⟨xs,xs[i],.of h1,by simp[h2]⟩
   . exact fun i H' x fP ⟨h1,h2⟩ ⟨e,y⟩=>⟨e,y xs (.of h1)⟩
   . exact fun i H' ⟨h1,h2⟩=>⟨xs,.of h1,h2⟩
   . have e:b=s1.heap.objs.size:=by simpa using hb
     subst e;exact I1.fpOk (η _) (I1.hok.fresh (η _))
 . exact q1.elim
noncomputable def B7(lo:Int)(n:Nat):List V:=(List.range n).map fun (i:Nat)=>V.int (lo+i)
def Bc(lo:Int)(n:Nat):(B7 lo n).length=n:=by simp[B7]
def Vg(lo:Int)(n i:Nat)(h:i<n):(B7 lo n)[i]?=some (.int (lo+i)):=by simp[B7,h]
def iR1(ta:TA):TI:=fun σ H R=>ta σ H fun vs H1=>match vs with | [.int j]=>(-(2 ^ 62)<=j/\j<2 ^ 62)/\R (ItS (fun _=>True) (B7 0 j.toNat)) H1 |_=>False
def Mm(lo:Int)(n:Nat):(∀i (H:Hp),(ItS (fun _=>True) (B7 lo n)).go i H->(Itr lo n).go i H)/\(∀i H x H',(ItS (fun _=>True) (B7 lo n)).go i H->(Itr lo n).yld i H x H'->(ItS (fun _=>True) (B7 lo n)).yld i H x H') /\
  (∀i (H:Hp),(ItS (fun _=>True) (B7 lo n)).stop i H->(Itr lo n).stop i H):=by
 refine⟨fun i H ⟨_,h⟩=>?_,fun i H x H' ⟨_,h⟩ ⟨e,y⟩=>⟨e,?_⟩,fun i H ⟨_,h⟩=>?_⟩
 . rw[Bc]at h;exact h
 . rw[Bc]at h;rw[y];exact Vg lo n i h
 . rw[Bc]at h;exact h
end
def qb(J:It)(g:TG)(tb:TS)(D:Ends)(σ:St)(H1:Hp):Prop:=∃W:Nat->Nat->St->Hp->Prop,(∃m,W 0 m σ H1)/\∀i m σ H,W i m σ H ->
 (J.stop i H/\D.nx σ H)\/(J.go i H/\∃N:St->Hp->Prop,(∀ac H',N ac H'->∃m',m'<m/\W (i+1) m' ac H')/\∀x H',J.yld i H x H'->g x σ H' fun aV H2=>tb { D with nx:=N,ct:=N,bk:=D.nx } aV H2)
noncomputable def Pt(wi:TI)(g:TG)(tb:TS):TS:=fun D σ H=>wi σ H fun J H1=>qb J g tb D σ H1
def Vf(hp:PassesOwn (model X.prog X.w) X.A X.env X.xe)(hc:X.calm=true)(hi:PI X tg iter wi)(hg:PG X tg g)(hb:PSs X body tb)
 (hs:∀x,foldedSetIterable iter X.env x=pure x:=by intro _;rfl):PS X (.For tg iter body [] pos) (Pt wi g tb):=wg hp hc hi hg hb hs
def Same.upd_new(h:H a=none):Same H (upd H a o):=fun b u e=>by rw[i6 (t8 e h)];exact e
def Same.upd_at(s:Same H H1)(h:H a=none):Same H (upd H1 a o):=fun b u e=>by rw[i6 (t8 e h)];exact s b u e
def vP{prog:Program}{w:World}{A:Around}{E:Value->Shared->Prop}{s:Shared}{z TI TO i1 i2 l1 l2:Addr}(D:ZipApart z TI TO i1 i2 l1 l2){xs ys:Array Value}{i:Nat}{Q:Option Value->Shared->Prop}(hi:i<min xs.size ys.size)
  (hz:IsZip s.heap z TI TO .none) (cX:IsPair s.heap TI (.ref i1) (.ref i2)) (cA:∃a b,IsPair s.heap TO a b) (h1:s.heap.IsListIter i1 l1 i) (h2:s.heap.IsListIter i2 l2 i) (g1:s.heap.IsList l1 xs) (g2:s.heap.IsList l2 ys)
  (q:∀T am h' tk,(∃x y,xs[i]?=some x/\ys[i]?=some y/\am=#[x,y])->s.heap.objs.size<=T->IsTp h' T am->(IsZip h' z TI TO (rawInt T)/\IsPair h' TI (.ref i1) (.ref i2)/\(∃a b,IsPair h' TO a b)/\h'.IsListIter i1 l1 (i+1)/\h'.IsListIter i2 l2 (i+1)/\h'.IsList l1 xs/\h'.IsList l2 ys/\T≠z/\T≠TO/\T≠i1/\T≠i2) ->
   (∀c o,c∉[z,TO,i1,i2]->s.heap.get? c=some o->h'.get? c=some o)->Q (some (.ref T)) { s with heap:=h',toks:=tk }):wpAny (model prog w) A (pyNext (.ref z)) Q E s:=by
 obtain⟨a,b,cA⟩:=cA
 have bx:i<xs.size:=by omega
 have lZ:i<ys.size:=by omega
 have gt:∀{c:Addr}{o:Obj},s.heap.get? c=some o->s.heap.objs.size≠c:=fun e z=>absurd (π e) (by rw[z];exact EA _)
 have n1:s.heap.objs.size≠i1:=by obtain⟨_,e,_⟩:=h1;exact gt e
 have n2:s.heap.objs.size≠i2:=by obtain⟨_,e,_⟩:=h2;exact gt e
 refine wpAny_pyNext_zip_item D hz cX cA h1 h2 g1 g2 (x:=xs[i]) (y:=ys[i]) (by simp[bx]) (by simp[lZ]) fun h' r1 r2 r3 r4 r5 _ kp=>?_
 have kl:∀c o,c∉[z,TO,i1,i2]->s.heap.get? c=some o->h'.get? c=some o:=fun c o hc e=>by simp only[eH,FG,or_false,not_or]at hc;exact kp c o hc.1 hc.2.1 hc.2.2.1 hc.2.2.2 e
 refine q s.heap.objs.size #[xs[i],ys[i]] h' s.toks ⟨_,_,by simp[bx],by simp[lZ],rfl⟩ (η _) (.mk' r5) ⟨r1,kp _ _ D.TIz D.TITO D.TIi1 D.TIi2 cX,⟨_,_,r2⟩,r3,r4,?_,?_,gt hz,gt cA,n1,n2⟩ kl
 . exact g1.at fun o e=>kp _ o D.l1z D.l1TO D.l1i1 D.l1i2 e
 . exact g2.at fun o e=>kp _ o D.l2z D.l2TO D.l2i1 D.l2i2 e
def ym{prog:Program}{w:World}{A:Around}{E:Value->Shared->Prop}{s:Shared}{e it l:Addr}(gM:e≠it)(cF:l≠e)(gN:l≠it){items:Array Value}{i:Nat}{Q:Option Value->Shared->Prop}(hi:i<items.size)
  (he:∃bC,IsEnum s.heap e it i bC) (h1:s.heap.IsListIter it l i) (g1:s.heap.IsList l items)
  (q:∀T am h' tk,(∃t x,items[i]?=some x/\am=#[.int i t,x])->s.heap.objs.size<=T->IsTp h' T am->((∃x,IsEnumOut h' e it ((i:Int)+1) x T)/\h'.IsListIter it l (i+1)/\h'.IsList l items/\T≠e/\T≠it) ->
   (∀c o,c∉[e,it]->s.heap.get? c=some o->h'.get? c=some o)->Q (some (.ref T)) { s with heap:=h',toks:=tk }):wpAny (model prog w) A (pyNext (.ref e)) Q E s:=by
 obtain⟨bC,he⟩:=he
 have gt:∀{c:Addr}{o:Obj},s.heap.get? c=some o->s.heap.objs.size≠c:=fun e z=>absurd (π e) (by rw[z];exact EA _)
 have n1:s.heap.objs.size≠it:=by obtain⟨_,e,_⟩:=h1;exact gt e
 refine wpAny_pyNext_enum_item he h1 g1 (x:=items[i]) (by simp[hi]) gM fun h' r1 r2 r3 _ kp=>?_
 have kl:∀c o,c∉[e,it]->s.heap.get? c=some o->h'.get? c=some o:=fun c o hc e=>by simp only[eH,FG,or_false,not_or]at hc;exact kp c o hc.1 hc.2 e
 exact q s.heap.objs.size #[.int i s.toks,items[i]] h' (s.toks+1) ⟨_,_,by simp[hi],rfl⟩ (η _) (.mk' r3) ⟨⟨_,r1⟩,r2,g1.at fun o e=>kp _ o cF gN e,gt he,n1⟩ kl
section
variable {X:Cx}{pins:List (Addr×Obj)}{σ:St}{H:Hp}{s:Shared}
def Inv.turnedT{wr:List Addr}{h':Heap}{tk:Nat}{T:Addr}{xs:List V}{its:List Value}(I:Inv X pins σ H s)(hw:∀b∈wr,u4 X pins H b)(k:∀b o,b∉wr->s.heap.get? b=some o->h'.get? b=some o)
  (hT:s.heap.objs.size<=T) (ht:IsTp h' T its.toArray) (rv:Vals xs its) (hz:xs.length<=sizeLine):Inv X pins σ (upd H T (.tup xs)) { s with heap:=h',toks:=tk }:=by
 have HT:H T=none:=I.hok.fresh hT
 have nw:∀b u,H b=some u->b∉wr:=fun b u e z=>by rw[(hw b z).1]at e;cases e
 have neT:∀b o,s.heap.get? b=some o->b≠T:=fun b o e=>CC (CG (π e) hT)
 refine I.step (g':=s.gens) (d':=s.drawn) (ch:=wr) (fun b hb=>⟨(hw b hb).2.2.2.1,(hw b hb).2.1,(hw b hb).2.2.2.2.1,(hw b hb).2.2.2.2.2⟩) (fun b o _ _ hc e _=>k b o hc e) (fun b o _ _ hc e _=>⟨o.slots,k b o hc e⟩)
  (fun b o _ e n=>by rw[i6 (neT b o e)];exact n) (fun b o hc e=>⟨o,k b o hc e⟩) (fun b ys e=>by rw[i6 (t8 e HT)];exact e) (fun b u ys e=>by rw[i6 (t8 e HT)];exact e)
  (fun b ps e=>⟨#[],by rw[i6 (t8 e HT),e];simp⟩) (fun m hm=>?_) (fun b u e=>?_) I.bare
 . obtain⟨o,es,ep,ho,r⟩:=hm;exact⟨o,es,ep,k _ o (fun z=>(hw _ z).2.1 rfl) ho,r⟩
 . by_cases hb:b=T
   . subst hb;rw[k7]at e;cases e;exact⟨hz,its,rv,ht⟩
   . rw[i6 hb]at e;refine(I.hok b u e).stay (fun c v hc q=>k c v ?_ q) (fun c q=>?_) fun c ys q=>?_
     . rcases hc with z |z
       . rw[z];exact nw b u e
       . exact nw c _ z
     . rw[i6 (t8 q HT)];exact q
     . rw[i6 (t8 q HT)];exact q
end
section
variable {X:Cx}{pins:List (Addr×Obj)}{σ:St}{H:Hp}{s:Shared}
def Inv.turnedN{wr:List Addr}{h':Heap}{tk:Nat}(I:Inv X pins σ H s)(hw:∀b∈wr,u4 X pins H b)(k:∀b o,b∉wr->s.heap.get? b=some o->h'.get? b=some o):Inv X pins σ H { s with heap:=h',toks:=tk }:=by
 have nw:∀b u,H b=some u->b∉wr:=fun b u e z=>by rw[(hw b z).1]at e;cases e
 refine I.step (g':=s.gens) (d':=s.drawn) (ch:=wr) (fun b hb=>⟨(hw b hb).2.2.2.1,(hw b hb).2.1,(hw b hb).2.2.2.2.1,(hw b hb).2.2.2.2.2⟩) (fun b o _ _ hc e _=>k b o hc e) (fun b o _ _ hc e _=>⟨o.slots,k b o hc e⟩)
  (fun b o _ e n=>n) (fun b o hc e=>⟨o,k b o hc e⟩) (fun b ys e=>e) (fun b u ys e=>e) (fun b ps e=>⟨#[],by rw[e];simp⟩) (fun m hm=>?_) (fun b u e=>?_) I.bare
 . obtain⟨o,es,ep,ho,r⟩:=hm;exact⟨o,es,ep,k _ o (fun z=>(hw _ z).2.1 rfl) ho,r⟩
 . refine(I.hok b u e).stay (fun c v hc q=>k c v ?_ q) (fun c q=>q) fun c ys q=>q
   rcases hc with z |z
   . rw[z];exact nw b u e
   . exact nw c _ z
end
def ItP(S:Hp->Prop)(ps:List (V×V)):It:=⟨fun i H=>S H/\i<ps.length,fun i H x H'=>∃T a b,x=.ref T/\H T=none/\H'=upd H T (.tup [a,b])/\ps[i]?=some (a,b),fun i H=>S H/\i=ps.length⟩
def Sw:2<=sizeLine:=by rw[GA];decide
def zJ{P:Program}{w:World}{K:Frag}{bq:List Expr}{k:Nat}{pos:Pos}{z TI TO i1 i2 l1 l2:Addr}{xs ys:List V}(D:ZipApart z TI TO i1 i2 l1 l2) :
  Turn P w K (.Tuple bq k pos) (ItP (fun H=>Rd H l1 (.lst xs)/\Rd H l2 (.lst ys)) (xs.zip ys)) [z,TI,TO,i1,i2] z
   (fun i h=>IsZip h z TI TO .none/\IsPair h TI (.ref i1) (.ref i2)/\(∃a b,IsPair h TO a b)/\h.IsListIter i1 l1 i/\h.IsListIter i2 l2 i) where
 mem:=by simp
 obj:=fun i h ⟨hz,cX,⟨a,b,cA⟩,⟨o1,h1,_,d1⟩,⟨o2,h2,_,d2⟩⟩ c hc=>by
  have aL:c=z\/c=TI\/c=TO\/c=i1\/c=i2:=by simpa using hc
  rcases aL with rfl |rfl |rfl |rfl |rfl
  . exact⟨_,hz,fun v e=>by cases e⟩
  . exact⟨_,cX,fun v e=>by cases e⟩
  . exact⟨_,cA,fun v e=>by cases e⟩
  . exact⟨o1,h1,fun v e=>by rw[d1]at e;cases e⟩
  . exact⟨o2,h2,fun v e=>by rw[d2]at e;cases e⟩
 keep:=fun i h h' ⟨hz,cX,⟨a,b,cA⟩,h1,h2⟩ kp=>⟨kp z (by simp) _ hz,kp TI (by simp) _ cX,⟨a,b,kp TO (by simp) _ cA⟩,h1.at fun o e=>kp i1 (by simp) o e,h2.at fun o e=>kp i2 (by simp) o e⟩
 item:=by
  intro X hP hw hK hc i pins s σ H E I hf st hg;subst hP hw hK;obtain⟨⟨ma,mf⟩,av⟩:=hg;obtain⟨hz,cX,cA,h1,h2⟩:=st;obtain⟨cZ,r1,p1,z1⟩:=I.list (.inl ma);obtain⟨ar,r2,p2,z2⟩:=I.list (.inl mf);have W:=WalksT.zip2 (prog:=X.prog) (w:=X.w) (A:=X.A) (I.ok.hd hc) z TI TO i1 i2 l1 l2 D cZ.toArray ar.toArray;have mh:=r1.length;have le2:=r2.length;have mi:i<min cZ.toArray.size ar.toArray.size:=by rw[DK]at av;simp only[nF];lia
  refine vP D mi hz cX cA h1 h2 p1.isList p2.isList fun T am h' tk mj hT ht hM hk=>⟨.ref T,rfl,?_⟩
  refine W.go bq k pos i T _ _ _ hM fun dX cc eI=>?_
  obtain⟨x,y,hx,hy,rfl⟩:=mj;obtain⟨a,ea⟩:∃a,xs[i]?=some a:=⟨xs[i]'(by rw[DK]at av;lia),by simp⟩;obtain⟨b,eb⟩:∃b,ys[i]?=some b:=⟨ys[i]'(by rw[DK]at av;lia),by simp⟩;obtain⟨u1,q1,ml⟩:=r1.get ea;obtain⟨u2,q2,sB⟩:=r2.get eb;have cR:cZ[i]?=some x:=by simpa using hx
  have iC:ar[i]?=some y:=by simpa using hy
  rw[q1]at cR;cases cR;rw[q2]at iC;cases iC;obtain⟨oT,mn,mo,nT,cr⟩:=ht;have gx:IsTp dX T ([x,y]:List Value).toArray:=⟨oT,eI T oT (W.apart i T _ hM) mn,mo,nT,cr⟩;have sub:∀c∈[z,TO,i1,i2],u4 X pins H c:=fun c aL=>hf c (by
   have:c=z\/c=TO\/c=i1\/c=i2:=by simpa using aL
   rcases this with rfl |rfl |rfl |rfl<;>simp)
  have I2:=I.turnedT (tk:=tk) (xs:=[a,b]) (its:=[x,y]) sub (fun c o gO e=>eI c o gO (hk c o gO e)) hT gx (.cons ml (.cons sB .nil)) Sw;have HT:H T=none:=I.hok.fresh hT;refine⟨.ref T,upd H T (.tup [a,b]),I2,rfl,⟨T,a,b,rfl,HT,rfl,?_⟩,⟨cc.1,cc.2.1,cc.2.2.1,cc.2.2.2.1,cc.2.2.2.2.1⟩,fun c aL=>?_⟩
  . rw[FZ];exact⟨ea,eb⟩
  . rw[i6]
    . exact(hf c aL).1
    . intro e;have hh:∃o,s.heap.get? c=some o:=by
       have gy:c=z\/c=TI\/c=TO\/c=i1\/c=i2:=by simpa using aL
       obtain⟨a',b',oh⟩:=cA;obtain⟨o1,g1,_⟩:=h1;obtain⟨o2,g2,_⟩:=h2;rcases gy with z |z |z |z |z<;>subst z
       . exact⟨_,hz⟩
       . exact⟨_,cX⟩
       . exact⟨_,oh⟩
       . exact⟨_,g1⟩
       . exact⟨_,g2⟩
      obtain⟨o,ho⟩:=hh;exact absurd (CG (π ho) hT) (by rw[e];exact EA _)
 done:=by
  intro X hP hw hK hc i pins s σ H E I hf st hg;subst hP hw hK;obtain⟨⟨ma,mf⟩,cF⟩:=hg;obtain⟨hz,cX,cA,h1,h2⟩:=st;obtain⟨cZ,r1,p1,z1⟩:=I.list (.inl ma);obtain⟨ar,r2,p2,z2⟩:=I.list (.inl mf);have W:=WalksT.zip2 (prog:=X.prog) (w:=X.w) (A:=X.A) (I.ok.hd hc) z TI TO i1 i2 l1 l2 D cZ.toArray ar.toArray;have mh:=r1.length;have le2:=r2.length;have hi:min cZ.toArray.size ar.toArray.size=i:=by rw[DK]at cF;simp only[nF];lia
  rw[<-hi]at h1 h2;refine W.done s _ _ ⟨hz,cX,cA,h1,h2,p1.isList,p2.isList⟩ fun h' tk hk=>⟨rfl,?_⟩
  have sub:∀c∈[z,TO,i1,i2],u4 X pins H c:=fun c aL=>hf c (by
   have:c=z\/c=TO\/c=i1\/c=i2:=by simpa using aL
   rcases this with rfl |rfl |rfl |rfl<;>simp)
  exact I.turnedN sub hk
 self:=fun A i s Q E st h=>wpAny_pyIter_zip st.1 h
def zkj{P:Program}{w:World}{K:Frag}{bq:List Expr}{k:Nat}{pos:Pos}{e it l:Addr}{xs:List V}(gM:e≠it)(cF:l≠e)(gN:l≠it) :
  Turn P w K (.Tuple bq k pos) (ItP (fun H=>Rd H l (.lst xs)) ((B7 0 xs.length).zip xs)) [e,it] e (fun i h=>(∃bC,IsEnum h e it i bC)/\h.IsListIter it l i) where
 mem:=by simp
 obj:=fun i h ⟨⟨bC,he⟩,⟨o1,h1,_,d1⟩⟩ c hc=>by
  have aL:c=e\/c=it:=by simpa using hc
  rcases aL with rfl |rfl
  . exact⟨_,he,fun v z=>by cases z⟩
  . exact⟨o1,h1,fun v z=>by rw[d1]at z;cases z⟩
 keep:=fun i h h' ⟨⟨bC,he⟩,h1⟩ kp=>⟨⟨bC,kp e (by simp) _ he⟩,h1.at fun o z=>kp it (by simp) o z⟩
 item:=by
  intro X hP hw hK hc i pins s σ H E I hf st hg;subst hP hw hK;obtain⟨hS,av⟩:=hg;obtain⟨he,h1⟩:=st;obtain⟨its,r,p1,z1⟩:=I.list (.inl hS);have W:=WalksT.enumerate (prog:=X.prog) (w:=X.w) (A:=X.A) (I.ok.hd hc) e it l gM cF gN its.toArray;have mh:=r.length;have sC:i<xs.length:=by rw[DK,Bc]at av;lia
  have mi:i<its.toArray.size:=by simp only[nF];lia
  refine ym gM cF gN mi he h1 p1.isList fun T am h' tk mj hT ht hM hk=>⟨.ref T,rfl,?_⟩
  refine W.go bq k pos i T _ _ _ hM fun dX cc eI=>?_
  obtain⟨t,x,hx,rfl⟩:=mj;obtain⟨a,ea⟩:∃a,xs[i]?=some a:=⟨xs[i],by simp⟩;obtain⟨u1,q1,ml⟩:=r.get ea;have cR:its[i]?=some x:=by simpa using hx
  rw[q1]at cR;cases cR;obtain⟨oT,mn,mo,nT,cr⟩:=ht;have gx:IsTp dX T ([.int (i:Nat) t,x]:List Value).toArray:=⟨oT,eI T oT (W.apart i T _ hM) mn,mo,nT,cr⟩;have sub:∀c∈[e,it],u4 X pins H c:=fun c aL=>hf c aL
  have I2:=I.turnedT (tk:=tk) (xs:=[.int (i:Nat),a]) (its:=[.int (i:Nat) t,x]) sub (fun c o gO z=>eI c o gO (hk c o gO z)) hT gx (.cons ⟨_,rfl⟩ (.cons ml .nil)) Sw;have HT:H T=none:=I.hok.fresh hT;refine⟨.ref T,upd H T (.tup [.int (i:Nat),a]),I2,rfl,⟨T,.int (i:Nat),a,rfl,HT,rfl,?_⟩,⟨cc.1,cc.2.1⟩,fun c aL=>?_⟩
  . rw[FZ];refine⟨?_,ea⟩;rw[Vg 0 _ _ sC];simp
  . rw[i6]
    . exact(hf c aL).1
    . intro ec;have hh:∃o,s.heap.get? c=some o:=by
       have gy:c=e\/c=it:=by simpa using aL
       obtain⟨bC,eP⟩:=he;obtain⟨o1,g1,_⟩:=h1;rcases gy with z |z<;>subst z
       . exact⟨_,eP⟩
       . exact⟨_,g1⟩
      obtain⟨o,ho⟩:=hh;exact absurd (CG (π ho) hT) (by rw[ec];exact EA _)
 done:=by
  intro X hP hw hK hc i pins s σ H E I hf st hg;subst hP hw hK;obtain⟨hS,oj⟩:=hg;obtain⟨he,h1⟩:=st;obtain⟨its,r,p1,z1⟩:=I.list (.inl hS);have W:=WalksT.enumerate (prog:=X.prog) (w:=X.w) (A:=X.A) (I.ok.hd hc) e it l gM cF gN its.toArray;have mh:=r.length;have hi:its.toArray.size=i:=by rw[DK,Bc]at oj;simp only[nF];lia
  rw[<-hi]at h1 he;exact W.done s _ _ ⟨he,h1,p1.isList⟩ fun h' tk hk=>⟨rfl,I.turnedN hf hk⟩
 self:=fun A i s Q E st h=>by obtain⟨⟨bC,he⟩,_⟩:=st;exact wpAny_pyIter_enum he h
section
variable {X:Cx}{a b:Expr}{ta:TA}{p pos ay:Pos}{bq:List Expr}{k:Nat}
def y7y(ta:TA):TI:=fun σ H R=>ta σ H fun vs H1=>match vs with
 | [.ref l1,.ref l2]=>∃xs ys,Rd H1 l1 (.lst xs)/\Rd H1 l2 (.lst ys)/\R (ItP (fun H=>Rd H l1 (.lst xs)/\Rd H l2 (.lst ys)) (xs.zip ys)) H1
 |_=>False
def zkk(h1:l1<n)(h2:l2<n):ZipApart (n+4) (n+2) (n+3) n (n+1) l1 l2:=PySem.W.ktu_apart _ _ _ h1 h2
def vO(hg:Gl X "zip")(hm:X.mg "zip"=none)(ha:PA X [a,b] ta)(hs:starEach [a,b] X.env=[(false,eval a X.env),(false,eval b X.env)]:=by rfl)(fm:starEach [b] X.env=[(false,eval b X.env)]:=by rfl) :
  PI X (.Tuple bq k ay) (.Call (.Name "zip" p) [a,b] [] pos) (y7y ta):=by
 intro pins s σ H R I h
 refine Call_ (J6 I hg hm boot_zip (EF (thn (ha pos pins s σ H _ I h) fun us s1 ⟨vs,H1,I1,r1,q1⟩=>?_) (by rw[hs,fm]) (by rw[fm];rfl)))
 dsimp only at q1
 split at q1
 . rename_i l1 l2;obtain⟨xs,ys,e1,e2,q⟩:=q1;obtain⟨u,w',rfl,ru,bD⟩:=Ct r1;cases ru;cases bD;obtain⟨cZ,sD,p1,_⟩:=I1.list (.inl e1);obtain⟨ar,BE,p2,_⟩:=I1.list (.inl e2);have iD:l1<s1.heap.objs.size:=by obtain⟨o,ho,_⟩:=p1.isList;exact π ho
   have lt2:l2<s1.heap.objs.size:=by obtain⟨o,ho,_⟩:=p2.isList;exact π ho
   refine call_zip_2 p1.isList p2.isList fun h' hz cX cA sE sF hsz hk=>?_
   refine wpAny_pyIter_zip hz ⟨s1.heap.objs.size+4,[s1.heap.objs.size+4,s1.heap.objs.size+2,s1.heap.objs.size+3,s1.heap.objs.size,s1.heap.objs.size+1],_,_,H1,rfl,I1.kept (t':=s1.toks) hk,zJ (zkk iD lt2),⟨hz,cX,⟨_,_,cA⟩,sE,sF⟩,fun c hc=>?_,q⟩;have aL:s1.heap.objs.size<=c:=by
    have:c=s1.heap.objs.size+4\/c=s1.heap.objs.size+2\/c=s1.heap.objs.size+3\/c=s1.heap.objs.size\/c=s1.heap.objs.size+1:=by simpa using hc
    rcases this with z |z |z |z |z<;>rw[z]<;>first |exact Nat.le_add_right _ _ |exact η _
   exact I1.fpOk aL (I1.hok.fresh aL)
 . exact q1.elim
def y3i(ta:TA):TI:=fun σ H R=>ta σ H fun vs H1=>match vs with
 | [.ref l]=>∃xs,Rd H1 l (.lst xs)/\R (ItP (fun H=>Rd H l (.lst xs)) ((B7 0 xs.length).zip xs)) H1
 |_=>False
def yl(hg:Gl X "enumerate")(hm:X.mg "enumerate"=none)(ha:PA X [a] ta)(hs:starEach [a] X.env=[(false,eval a X.env)]:=by rfl) :
  PI X (.Tuple bq k ay) (.Call (.Name "enumerate" p) [a] [] pos) (y3i ta):=by
 intro pins s σ H R I h
 refine Call_ (J6 I hg hm boot_enumerate (EF (thn (ha pos pins s σ H _ I h) fun us s1 ⟨vs,H1,I1,r1,q1⟩=>?_) hs rfl))
 dsimp only at q1
 split at q1
 . rename_i l;obtain⟨xs,e1,q⟩:=q1;obtain⟨u,rfl,ru⟩:=r8 r1;cases ru;obtain⟨cZ,sD,p1,_⟩:=I1.list (.inl e1);have iD:l<s1.heap.objs.size:=by obtain⟨o,ho,_⟩:=p1.isList;exact π ho
   refine call_enumerate_list p1.isList fun h' he hi hsz hk=>?_
   refine wpAny_pyIter_enum he ⟨s1.heap.objs.size+1,[s1.heap.objs.size+1,s1.heap.objs.size],_,_,H1,rfl,I1.kept (t':=s1.toks) hk,zkj (Nat.succ_ne_self _) (CC (Nat.lt_succ_of_lt iD)) (CC iD),⟨⟨_,he⟩,hi⟩,fun c hc=>?_,q⟩;have aL:s1.heap.objs.size<=c:=by
    have:c=s1.heap.objs.size+1\/c=s1.heap.objs.size:=by simpa using hc
    rcases this with z |z<;>rw[z]<;>first |exact Nat.le_add_right _ _ |exact η _
   exact I1.fpOk aL (I1.hok.fresh aL)
 . exact q1.elim
end
section
variable {X:Cx}{tg:Expr}{a:Expr}{ta:TA}{p pos:Pos}
def y3j(hg:Gl X "range")(hm:X.mg "range"=none)(ha:PA X [a] ta)(hs:starEach [a] X.env=[(false,eval a X.env)]:=by rfl):PI X tg (.Call (.Name "range" p) [a] [] pos) (iR1 ta):=by
 intro pins s σ H R I h;refine Call_ (J6 I hg hm boot_range (EF (thn (ha pos pins s σ H _ I h) fun us s1 ⟨vs,H1,I1,r1,q1⟩=>?_) hs rfl));dsimp only at q1;split at q1
 . rename_i j;obtain⟨⟨h1,h2⟩,q⟩:=q1;obtain⟨u,rfl,t,rfl⟩:=r8 r1;refine call_range_1 (thn (zX (tg:=tg) (R:=fun J H1=>∃J',(∀i H,J'.go i H->J.go i H)/\(∀i H x H',J'.go i H->J.yld i H x H'->J'.yld i H x H')/\(∀i H,J'.stop i H->J.stop i H)/\R J' H1) I1 (by lia) (by lia) h1 h2 ?_) fun gG s2 h2=>?_)
   . refine⟨_,(Mm 0 (j - 0).toNat).1,(Mm 0 (j - 0).toNat).2.1,(Mm 0 (j - 0).toNat).2.2,?_⟩;simpa using q
   . obtain⟨it,fp,tn,J,H2,e,I2,T,st,hf,J',c1,c2,c3,r⟩:=h2;exact⟨it,fp,tn,J',H2,e,I2,T.conv c1 c2 c3,st,hf,r⟩
 . exact q1.elim
end
def cB1:V->Hp->(List V->Hp->Prop)->Prop:=fun x H R=>R [x] H
def cBT(n:Nat):V->Hp->(List V->Hp->Prop)->Prop:=fun x H R=>match x with
 | .ref a=>(match H a with |some (.tup xs)=>xs.length=n/\R xs H |_=>False)
 |_=>False
section
variable {X:Cx}{sc:Scope}{caps:List Str}{ix:List Nat}{aH iter:Expr}{aC:List Expr}{pos px py ay:Pos}{tt:TT}{te:TE}{wi:TI}{x y:Str}{kt:Nat}
def qa(x:V)(bE cs:St)(H:Hp)(Q:St->Hp->Prop)(hl:bE.length=1)(h:cB1 x H (fun am H2=>Q (am.map some++cs) H2)):u8 0 x (bE++cs) H fun aV H2=>(∃am:List V,am.length=1/\aV=am.map some++cs)/\Q aV H2:=by
 match bE,hl with
 | [t],_=>exact⟨⟨[x],rfl,rfl⟩,h⟩
def kZ{K:Frag}(x:V)(bE cs:St)(H:Hp)(Q:St->Hp->Prop)(hl:bE.length=2)(h:cBT 2 x H (fun am H2=>Q (am.map some++cs) H2)) :
  Pa K 2 (Y9 (u8 0) (Y9 (u8 1) Pb)) x (bE++cs) H fun aV H2=>(∃am:List V,am.length=2/\aV=am.map some++cs)/\Q aV H2:=by
 cases x<;>first |exact h.elim |skip
 rename_i a
 unfold cBT at h
 dsimp only at h
 split at h
 . rename_i xs e;obtain⟨hn,h⟩:=h
   match bE,hl,xs,hn with
   | [t,t'],_,[v,v'],_=>exact⟨a,[v,v'],rfl,.of e,rfl,v,[v'],rfl,v',[],rfl,rfl,⟨[v,v'],rfl,rfl⟩,h⟩
 . exact h.elim
def Gb(hN:(tgs++caps).Nodup)(hi:(tgs++caps)[i]?=some x)(hx:sc.names.lookup x=some .local)(fp:List Addr)(s:Shared)(H:Hp):PG (j5 X sc (tgs++caps) fp s H) (.Name x px) (u8 i):=
 Ei (X:=j5 X sc (tgs++caps) fp s H) hN hi (.inl (lookup_relabel_local hx)) (.inr (lookup_relabel_local hx))
def zI(C:CompOk X sc caps ix)(hN:([x]++caps).Nodup)(hx:sc.names.lookup x=some .local)(hi:PI X (.Name x px) iter wi)(ht:∀fp s H,PTs (j5 X sc ([x]++caps) fp s H) aC tt)(he:∀fp s H,PE (j5 X sc ([x]++caps) fp s H) aH te)
  (hs:∀x,foldedSetIterable iter X.env x=pure x:=by intro _;rfl):PE X (.ListComp aH [⟨.Name x px,iter,aC,0⟩] sc pos) (L7 wi cB1 ix tt te):=
 Vi (tgs:=[x]) C hi (fun fp s H=>Gb hN rfl hx fp s H) qa ht he hs
def zH{v:Str}{k:Nat}{bL pv:Pos}(fu:X.N.Nodup)(hk:X.N[k]?=some v)(hv:X.env.scope.names.lookup v=some .local)(C:CompOk X sc caps ix)(hN:([x]++caps).Nodup)(hx:sc.names.lookup x=some .local)(hi:PI X (.Name x px) iter wi)
  (ht:∀fp s H,PTs (j5 X sc ([x]++caps) fp s H) aC tt) (he:∀fp s H,PE (j5 X sc ([x]++caps) fp s H) aH te)
  (cW:swapsWith (.ListComp aH [⟨.Name x px,iter,aC,0⟩] sc pos) (some (.Name v pv)) bL.line X.env=pure true:=by rfl) (hs:∀x,foldedSetIterable iter X.env x=pure x:=by intro _;rfl) :
  PS X (.Assign [.Name v pv] (.ListComp aH [⟨.Name x px,iter,aC,0⟩] sc pos) bL) (B8 (L7 wi cB1 ix tt te) (u8 k)):=
 Vh (tgs:=[x]) fu hk hv C hi (fun fp s H=>Gb hN rfl hx fp s H) qa ht he cW hs
def Ps(hc:X.calm=true)(hN:([x,y]++caps).Nodup)(hx:sc.names.lookup x=some .local)(hy:sc.names.lookup y=some .local)(fp:List Addr)(s:Shared)(H:Hp) :
  PG (j5 X sc ([x,y]++caps) fp s H) (.Tuple [.Name x px,.Name y py] kt ay) (Pa X.K 2 (Y9 (u8 0) (Y9 (u8 1) Pb))):=
 Th (X:=j5 X sc ([x,y]++caps) fp s H) hc (Lh (Gb hN rfl hx fp s H) (Lh (Gb hN rfl hy fp s H) pgs_nil))
def zG(C:CompOk X sc caps ix)(hN:([x,y]++caps).Nodup)(hx:sc.names.lookup x=some .local)(hy:sc.names.lookup y=some .local)(hi:PI X (.Tuple [.Name x px,.Name y py] kt ay) iter wi)(ht:∀fp s H,PTs (j5 X sc ([x,y]++caps) fp s H) aC tt)
  (he:∀fp s H,PE (j5 X sc ([x,y]++caps) fp s H) aH te) (hs:∀x,foldedSetIterable iter X.env x=pure x:=by intro _;rfl):PE X (.ListComp aH [⟨.Tuple [.Name x px,.Name y py] kt ay,iter,aC,0⟩] sc pos) (L7 wi (cBT 2) ix tt te):=
 Vi (tgs:=[x,y]) C hi (fun fp s H=>Ps C.calm hN hx hy fp s H) kZ ht he hs
def zF{v:Str}{k:Nat}{bL pv:Pos}(fu:X.N.Nodup)(hk:X.N[k]?=some v)(hv:X.env.scope.names.lookup v=some .local)(C:CompOk X sc caps ix)(hN:([x,y]++caps).Nodup)(hx:sc.names.lookup x=some .local)(hy:sc.names.lookup y=some .local)
  (hi:PI X (.Tuple [.Name x px,.Name y py] kt ay) iter wi) (ht:∀fp s H,PTs (j5 X sc ([x,y]++caps) fp s H) aC tt) (he:∀fp s H,PE (j5 X sc ([x,y]++caps) fp s H) aH te)
  (cW:swapsWith (.ListComp aH [⟨.Tuple [.Name x px,.Name y py] kt ay,iter,aC,0⟩] sc pos) (some (.Name v pv)) bL.line X.env=pure true:=by rfl) (hs:∀x,foldedSetIterable iter X.env x=pure x:=by intro _;rfl) :
  PS X (.Assign [.Name v pv] (.ListComp aH [⟨.Tuple [.Name x px,.Name y py] kt ay,iter,aC,0⟩] sc pos) bL) (B8 (L7 wi (cBT 2) ix tt te) (u8 k)):=
 Vh (tgs:=[x,y]) fu hk hv C hi (fun fp s H=>Ps C.calm hN hx hy fp s H) kZ ht he cW hs
noncomputable def Hj(n:Nat)(t:TGs):TG:=fun v σ H Q=>match v with
 | .ref a=>(match H a with |some (.tup xs)=>xs.length=n/\t xs σ H Q |_=>False)
 |_=>False
noncomputable def Sv(t:TG)(u:TGs):TGs:=fun vs σ H Q=>match vs with |v::r=>t v σ H fun ac H'=>u r ac H' Q | []=>False
noncomputable def Pr:TGs:=fun vs σ H Q=>match vs with | []=>Q σ H |_=>False
def PGs.imp(h:PGs X es t)(hi:∀vs σ H Q,t' vs σ H Q->t vs σ H Q):PGs X es t':=fun pins s σ H vs us Q I r q=>h pins s σ H vs us Q I r (hi vs σ H Q q)
def PG.imp(h:PG X e t)(hi:∀v σ H Q,t' v σ H Q->t v σ H Q):PG X e t':=fun pins s σ H v u Q I r q=>h pins s σ H v u Q I r (hi v σ H Q q)
def zE:PGs X [] Pr:=pgs_nil.imp fun vs σ H Q q=>by
 cases vs with
 |nil=>exact⟨rfl,q⟩
 |cons _ _=>exact q.elim
def zkl(h1:PG X e t)(h2:PGs X es u)(hs:(assignEach (e::es) X.env).map (·.2)=assign e X.env::(assignEach es X.env).map (·.2):=by rfl):PGs X (e::es) (Sv t u):=(Lh h1 h2 hs).imp fun vs σ H Q q=>by
 cases vs with
 |nil=>exact q.elim
 |cons v r=>exact⟨v,r,rfl,q⟩
def yk(hc:X.calm=true)(h:PGs X es t)
  (hn:(assignEach es X.env).length=n:=by rfl) (aU:(assignEach es X.env).findIdx? (·.1)=none:=by rfl):PG X (.Tuple es k pos) (Hj n t):=(Th hc h hn aU).imp fun v σ H Q q=>by
 cases v<;>first |exact q.elim |skip
 rename_i a
 unfold Hj at q
 dsimp only at q
 split at q
 . rename_i xs e;exact⟨a,xs,rfl,.of e,q.1,q.2⟩
 . exact q.elim
end
def kY(a:α)(r:List α):atI (a::r) 0=some a:=Kl (j:=0) rfl
def kX(a b:α)(r:List α):atI (a::b::r) 1=some b:=Kl (j:=1) rfl
section
variable {prog:Program}{w:World}{A:Around}{E:Value->Shared->Prop}{s:Shared}
theorem Wu(ah:t≠it):∀(n i:Nat)(s:Shared)(Q:List Value->Shared->Prop),s.heap.IsListIter it t i->s.heap.IsList t items->i+n<=items.size ->
  (∀h',h'.IsListIter it t (i+n)->Heap.SameBut it s.heap h'->Q ((items.toList.drop i).take n) { s with heap:=h' })->wpAny (model prog w) A (draw (.ref it) n) Q E s
 | 0,i,s,Q,gP,_,_,k=>by show wpAny _ _ (pure []) Q E s;exact ω (by simpa using k s.heap gP (Heap.SameBut.refl ..))
 |n+1,i,s,Q,gP,ht,cF,k=>by
  have av:i<items.size:=by lia
  show wpAny _ _ (pyNext (.ref it) >>= _) Q E s;refine δ (wpAny_pyNext_list_item gP ht (x:=items[i]) (by simp[av]) fun g1 mq gQ=>?_);refine δ (DM (Wu ah n (i+1) _ _ mq (ht.extBut gQ.extBut ah) (by lia) fun g2 sG sH=>ω ?_));have hd:items.toList.drop i=items[i]::items.toList.drop (i+1):=by simp[HE,av]
  have z:=k g2 (by rw[show i+(n+1)=i+1+n by lia];exact sG) (gQ.trans sH);rw[hd,List.take_succ_cons]at z;exact z
def zkm(hh:A.handled=none)(ht:s.heap.IsList t items)
  (k:∀h',(∀b o,s.heap.get? b=some o->h'.get? b=some o)->Q items.toList { s with heap:=h' }):wpAny (model prog w) A (unpackItems (.ref t) items.size none) Q E s:=by
 have av:t≠s.heap.objs.size:=by obtain⟨o,ho,_⟩:=ht;exact CC (π ho)
 have bC:∀{b:Addr}{o:Obj},s.heap.get? b=some o->b≠s.heap.objs.size:=fun e=>CC (π e)
 unfold unpackItems
 refine δ ?_
 . unfold notIterableAtAll;refine δ (wpAny_specialOf ht.typeIs slot_list_iter.lookup ?_);refine ω ?_;simp only[tB,DG];refine δ (DM (wpAny_pyIter_list ht ?_));refine δ (DM (Wu av items.size 0 _ _ ⟨_,Ψ _ rfl,rfl,rfl⟩ (ht.push _) (by lia) fun g1 mq gQ=>?_));have gr:List.take items.size (List.drop 0 items.toList)=items.toList:=by rw[List.drop_zero];exact List.take_of_length_le (by simp)
   rw[gr];rw[ξ (by simp)];have iE:g1.IsList t items:=(ht.push _).extBut gQ.extBut av;refine δ (DM (wpAny_pyNext_list_end hh mq iE (by simp) fun g2 sI=>?_));simp only[Option.isSome_none,tB,DG];exact ω (k g2 fun b o e=>sI b o (bC e) (gQ.extBut b o (bC e) (τ _ e)))
def zim(hh:A.handled=none)(ht:s.heap.IsList t items)
  (hn:(assignEach bq env).length=items.size) (lP:(assignEach bq env).findIdx? (·.1)=none)
  (h:∀h',(∀b o,s.heap.get? b=some o->h'.get? b=some o)->wpAny (model prog w) A (assignInOrder ((assignEach bq env).map (·.2)) items.toList) Q E { s with heap:=h' }) :
  wpAny (model prog w) A (assign (.Tuple bq x1 pos) env (.ref t)) Q E s:=by
 rw[assign_Tuple]
 refine δ (wpAny_standAt ?_)
 unfold unpack
 rw[hn,lP]
 exact δ (DM (zkm hh ht h))
end
section
variable {X:Cx}{pos:Pos}
noncomputable def Y6(n:Nat)(t:TGs):TG:=fun v σ H Q=>match v with
 | .ref a=>(match H a with
  |some (.tup xs)=>xs.length=n/\t xs σ H Q
  |some (.lst xs)=>xs.length=n/\t xs σ H Q
  |_=>False)
 |_=>False
def yj(hc:X.calm=true)(h:PGs X es t)
  (hn:(assignEach es X.env).length=n:=by rfl) (aU:(assignEach es X.env).findIdx? (·.1)=none:=by rfl):PG X (.Tuple es k pos) (Y6 n t):=by
 intro pins s σ H v u Q I r hw
 cases v<;>first |exact hw.elim |skip
 rename_i a
 unfold Y6 at hw
 dsimp only at hw
 split at hw
 . rename_i xs e;exact yk hc h hn aU pins s σ H (.ref a) u Q I r (by unfold Hj;dsimp only;rw[e];exact hw)
 . rename_i xs e;obtain⟨hl,hw⟩:=hw;cases r;obtain⟨its,rv,ht,hz⟩:=I.list (.of e);refine zim (I.ok.hd hc) ht.isList (by simp[hn,<-hl,rv.length]) aU fun h' hx=>?_
   exact h pins _ σ H xs _ Q (I.kept (t':=s.toks) hx) (by simpa using rv) hw
 . exact hw.elim
def Ga:List V->Hp->VK->Prop:=fun xs H Q=>match xs with
 | [x,.ty c]=>F5 c=true/\(match J2 H x with |some t=>Q (.bl (E8 t c)) H |none=>False)
 |_=>False
def Hi:List V->Hp->VK->Prop:=fun xs H Q=>match xs with
 | [.ref p]=>∃ns:List Int,C3 H p=some (ns.map V.int)/\Q (.int ns.sum) H
 |_=>False
def Hh:List V->Hp->VK->Prop:=fun xs H Q=>match xs with
 | [.ref p]=>∃bs:List Bool,Rd H p (.lst (bs.map V.bl))/\Q (.bl (bs.all id)) H
 |_=>False
def Pq:List V->Hp->VK->Prop:=fun xs H Q=>match xs with | [.int i]=>Q (.int i) H | [.bl k]=>Q (.int (if k then 1 else 0)) H |_=>False
def Hg:List V->Hp->VK->Prop:=fun xs H Q=>match xs with | [.int i,.int j]=>Q (.int (if j > i then j else i)) H |_=>False
def Hf:List V->Hp->VK->Prop:=fun xs H Q=>match xs with | [.int i,.int j]=>Q (.int (if j<i then j else i)) H |_=>False
section
variable {H:Hp}{Q:VK}{p:Addr}{i j:Int}{x:V}{cs:String}
def vN:Ga [x,.ty cs] H Q=(F5 cs=true/\(match J2 H x with |some t=>Q (.bl (E8 t cs)) H |none=>False)):=rfl
def Ve:Hi [.ref p] H Q=∃ns:List Int,C3 H p=some (ns.map V.int)/\Q (.int ns.sum) H:=rfl
def yi:Hh [.ref p] H Q=∃bs:List Bool,Rd H p (.lst (bs.map V.bl))/\Q (.bl (bs.all id)) H:=rfl
def yh:Hg [.int i,.int j] H Q=Q (.int (if j > i then j else i)) H:=rfl
def yg:Hf [.int i,.int j] H Q=Q (.int (if j<i then j else i)) H:=rfl
end
def y3k:CallR X (.builtin "isinstance") Ga:=zM
def He(hc:X.calm=true):CallR X (.builtin "sum") Hi:=zke hc
def Pp(hc:X.calm=true):CallR X (.builtin "all") Hh:=zkf hc
def Po:CallR X (.type "int") Pq:=zkg
def vM(hc:X.calm=true):CallR X (.builtin "max") Hg:=zik hc
def vL(hc:X.calm=true):CallR X (.builtin "min") Hf:=zil hc
end
inductive NK where
 |i (n:Int)
 |t (ks:List NK)
noncomputable instance:DecidableEq NK:=fun a b=>Classical.propDecidable (a=b)
mutual
noncomputable def NK.dep:NK->Nat
 | .i _=>0
 | .t ks=>z9 ks+1
noncomputable def z9:List NK->Nat
 | []=>0
 |k::ks=>max k.dep (z9 ks)
end
mutual
noncomputable def NK.hs:NK->Int
 | .i n=>hashInt n
 | .t ks=>reduceHash (Builtin.Tuple.tupleHashOf (X8 ks))
noncomputable def X8:List NK->List Int
 | []=>[]
 |k::ks=>k.hs::X8 ks
end
mutual
noncomputable def NK.dr:NK->Nat
 | .i _=>1
 | .t ks=>Fz ks+1
noncomputable def Fz:List NK->Nat
 | []=>0
 |k::ks=>k.dr+Fz ks
end
mutual
def NKv(h:Heap):NK->Value->Prop
 | .i n,v=>∃t,v=.int n t
 | .t ks,v=>∃a its,v=.ref a/\h.IsTuple a its/\NKvs h ks its.toList
def NKvs(h:Heap):List NK->List Value->Prop
 | [],vs=>vs=[]
 |k::ks,vs=>∃v r,vs=v::r/\NKv h k v/\NKvs h ks r
end
theorem NKvs.len:∀{ks:List NK}{vs:List Value},NKvs h ks vs->ks.length=vs.length
 | [],_,q=>by simp only[NKvs]at q;rw[q];rfl
 |k::ks,_,q=>by simp only[NKvs]at q;obtain⟨v,r,rfl,_,q⟩:=q;simp only[io,NKvs.len q]
def zkp{h:Heap}{a:Addr}{x y:Array Value}(p:h.IsTuple a x)(q:h.IsTuple a y):x=y:=by obtain⟨o,e,c,n,d⟩:=p;obtain⟨o',e',c',n',d'⟩:=q;rw[e]at e';cases e';rw[d]at d';cases d';rfl
mutual
theorem NKv.inj:∀{k j:NK}{v:Value},NKv h k v->NKv h j v->k=j
 | .i n,.i m,v,p,q=>by simp only[NKv]at p q;obtain⟨t,rfl⟩:=p;obtain⟨t',e⟩:=q;cases e;rfl
 | .i n,.t ks,v,p,q=>by simp only[NKv]at p q;obtain⟨t,rfl⟩:=p;obtain⟨_,_,e,_⟩:=q;cases e
 | .t ks,.i m,v,p,q=>by simp only[NKv]at p q;obtain⟨t,rfl⟩:=q;obtain⟨_,_,e,_⟩:=p;cases e
 | .t ks,.t js,v,p,q=>by simp only[NKv]at p q;obtain⟨a,its,rfl,p1,p2⟩:=p;obtain⟨b,its',e,q1,q2⟩:=q;cases e;cases zkp p1 q1;rw[NKvs.inj p2 q2]
theorem NKvs.inj:∀{ks js:List NK}{vs:List Value},NKvs h ks vs->NKvs h js vs->ks=js
 | [],[],_,_,_=>rfl
 | [],j::js,_,p,q=>by simp only[NKvs]at p q;subst p;obtain⟨_,_,e,_⟩:=q;cases e
 |k::ks,[],_,p,q=>by simp only[NKvs]at p q;subst q;obtain⟨_,_,e,_⟩:=p;cases e
 |k::ks,j::js,_,p,q=>by simp only[NKvs]at p q;obtain⟨v,r,rfl,p1,p2⟩:=p;obtain⟨_,_,e,q1,q2⟩:=q;cases e;rw[NKv.inj p1 q1,NKvs.inj p2 q2]
end
mutual
theorem NKv.stay(st:∀a its,h.IsTuple a its->h'.IsTuple a its):∀{k:NK}{v:Value},NKv h k v->NKv h' k v
 | .i n,v,p=>by simp only[NKv]at p⊢;exact p
 | .t ks,v,p=>by simp only[NKv]at p⊢;obtain⟨a,its,e,p1,p2⟩:=p;exact⟨a,its,e,st _ _ p1,NKvs.stay st p2⟩
theorem NKvs.stay(st:∀a its,h.IsTuple a its->h'.IsTuple a its):∀{ks:List NK}{vs:List Value},NKvs h ks vs->NKvs h' ks vs
 | [],_,p=>by simp only[NKvs]at p⊢;exact p
 |k::ks,_,p=>by simp only[NKvs]at p⊢;obtain⟨v,r,e,p1,p2⟩:=p;exact⟨v,r,e,NKv.stay st p1,NKvs.stay st p2⟩
end
section
variable {prog:Program}{w:World}
theorem Vd:∀(m:Nat){k:NK}{v:Value}{A:Around}{E:Value->Shared->Prop}{s:Shared}{Q:Int->Shared->Prop},k.dep<=m->A.units+m<cLine->NKv s.heap k v->Q k.hs { s with toks:=s.toks+k.dr }->wpAny (model prog w) A (pyHash v) Q E s
 |m,.i n,v,A,E,s,Q,hd,hu,p,q=>by simp only[NKv]at p;obtain⟨t,rfl⟩:=p;exact wpAny_pyHash_int q
 | 0,.t ks,v,A,E,s,Q,hd,hu,p,q=>by simp only[NK.dep]at hd;lia
 |m+1,.t ks,v,A,E,s,Q,hd,hu,p,q=>by
  simp only[NKv]at p;obtain⟨a,its,rfl,⟨o,e,c,n,d⟩,p2⟩:=p;simp only[NK.dep]at hd;show wpAny (model prog w) A (pyHashByItsType (.ref a)) Q E s;refine W.pyHash_slot (T:="tuple") ⟨o,e,c⟩ F.slot_tuple_hash F.entry_tuple_hash (F.args_tuple_hash_1 _) rfl (.inr (by lia)) ?_;refine δ (wpAny_of_eq (show slotArgs "__hash__" 0 ⟨[.ref a],[]⟩=pure (.ref a,[]) from rfl) ?_);show wpAny (model prog w) A.in1 (Builtin.Tuple.tupleItemsOf (.ref a) >>= _) _ _ s;refine δ (wpAny_tupleItemsOf e d ?_);refine δ ?_;have go:∀(ks:List NK)(vs:List Value)(b:Array Int)(s':Shared)(Q':Array Int->Shared->Prop),z9 ks<=m->NKvs s'.heap ks vs->(∀b':Array Int,b'.toList=b.toList++X8 ks->Q' b' { s' with toks:=s'.toks+Fz ks }) ->
    wpAny (model prog w) A.in1 (forIn vs b fun x r=>do
     let h <-pyHash x
     pure (ForInStep.yield (r.push h))) Q' E s':=by
   intro ks
   induction ks with
   |nil=>
    intro vs b s' Q' _ p hq
    simp only[NKvs]at p;subst p
    exact ω (hq b (by simp[X8]))
   |cons k ks ih=>
    intro vs b s' Q' hd p hq
    simp only[NKvs]at p
    obtain⟨v,r,rfl,p1,p2⟩:=p
    simp only[z9]at hd
    rw[GU]
    refine δ (δ (Vd m (by lia) (by show A.units+1+m<cLine;lia) p1 ?_))
    refine ω ?_
    refine ih r (b.push k.hs) _ Q' (by lia) p2 fun b' fw=>?_
    have:=hq b' (by rw[fw];simp[X8])
    simpa only [Fz,Nat.add_assoc] using this
  rw[<-Array.forIn_toList];refine go ks its.toList #[] s _ (by lia) p2 fun b' fw=>?_
  show wpAny (model prog w) A.in1 (retInt (Builtin.Tuple.tupleHashOf b'.toList)) _ _ _;refine EM (wpAny_ret_mkInt (Q:=fun v s'=>∃n t,v=Value.int n t/\Q (reduceHash n) s') ⟨_,_,rfl,?_⟩) (fun fin s' h=>?_) fun _ _ h=>h
  . rw[fw];simpa only [NK.hs,NK.dr,Nat.add_assoc,DT] using q
  . obtain⟨v,rfl,n,t,rfl,hq⟩:=h;exact⟨n,t,rfl,hq⟩
theorem Pn:∀(m:Nat){k j:NK}{u v:Value}{A:Around},k.dep<=m->A.units+m<cLine->NKv s.heap k u->NKv s.heap j v->SeqAt.EqAt A s u v (decide (k=j))
 |m,.i n,.i n',u,v,A,hd,hu,p,q=>by
  simp only[NKv]at p q;obtain⟨t,rfl⟩:=p;obtain⟨t',rfl⟩:=q;have:decide (NK.i n=NK.i n')=(n==n'):=by
   by_cases h:n=n'
   . rw[h];simp
   . rw[decide_eq_false (fun e=>h (NK.i.inj e))];simp[h]
  rw[this];exact .int_int _ _ _ _
 |m,.i n,.t js,u,v,A,hd,hu,p,q=>by simp only[NKv]at p q;obtain⟨t,rfl⟩:=p;obtain⟨a,its,rfl,q1,_⟩:=q;rw[decide_eq_false (fun e=>by cases e)];exact .int_tuple _ _ q1 (by lia)
 |m,.t ks,.i n',u,v,A,hd,hu,p,q=>by simp only[NKv]at p q;obtain⟨t,rfl⟩:=q;obtain⟨a,its,rfl,q1,_⟩:=p;rw[decide_eq_false (fun e=>by cases e)];exact .tuple_int _ _ q1 (by lia)
 | 0,.t ks,.t js,u,v,A,hd,hu,p,q=>by simp only[NK.dep]at hd;lia
 |m+1,.t ks,.t js,u,v,A,hd,hu,p,q=>by
  have p0:=p;have q0:=q;simp only[NKv]at p q;obtain⟨a,its,rfl,p1,p2⟩:=p;obtain⟨b,ar,rfl,q1,q2⟩:=q;simp only[NK.dep]at hd;by_cases bF:a=b
  . subst bF;rw[decide_eq_true (NKv.inj p0 q0)];exact .same _
  . have l1:=p2.len;have l2:=q2.len;simp only[ES]at l1 l2;have dL:∀(ks:List NK)(vs:List Value),NKvs s.heap ks vs->∀j v,vs[j]?=some v->NKv s.heap (ks.getD j (.i 0)) v/\(ks.getD j (.i 0)).dep<=z9 ks:=by
     intro ks;induction ks with
     |nil=>intro vs p j v e;simp only[NKvs]at p;subst p;simp at e
     |cons k ks ih=>
      intro vs p j v e
      simp only[NKvs]at p
      obtain⟨v0,r,rfl,r1,r2⟩:=p
      cases j with
      |zero=>simp at e;subst e;exact⟨r1,by simp only[List.getD_cons_zero,z9];lia⟩
      |succ j=>
       simp only[List.getElem?_cons_succ]at e
       obtain⟨x1,x2⟩:=ih r r2 j v e
       exact⟨x1,by simp only[List.getD_cons_succ,z9];lia⟩
    have q:=SeqAt.RcAt.tuples (A:=A) p1 q1 (by lia) (e:=fun j=>decide (ks.getD j (.i 0)=js.getD j (.i 0))) fun j h1 h2=>by obtain⟨x1,x2⟩:=dL ks _ p2 j its[j] (by simp[h1]);obtain⟨y1,y2⟩:=dL js _ q2 j ar[j] (by simp[h2]);exact Pn m (by lia) (by show A.units+1+m<cLine;lia) x1 y1
    have eb:((List.range (min its.size ar.size)).all (fun j=>decide (ks.getD j (.i 0)=js.getD j (.i 0)))&&its.size==ar.size)=decide (NK.t ks=NK.t js):=by
     rw[FB,gR,DF,ng,FE];constructor
     . rintro⟨h1,h2⟩;congr 1;refine List.ext_getElem (by lia) fun j hj eR=>?_
       have:=h1 j (EJ.mpr (by lia));rw[ng,pp,pp,oF hj,oF eR]at this;exact this
     . intro e;cases e;exact⟨fun j _=>decide_eq_true rfl,by lia⟩
    rw[eb]at q;exact .of_refs bF q
end
section
variable {prog:Program}{w:World}
theorem Wt:∀(m:Nat){k:NK}{v:Value}{Q:Bool->Shared->Prop},k.dep<=m->NKv s.heap k v->Q true s->wpAny (model prog w) A (eqIsQuiet m v) Q E s
 |m,.i n,v,Q,hd,p,q=>by simp only[NKv]at p;obtain⟨t,rfl⟩:=p;rw[eqIsQuiet.eq_3 _ _ (fun a e=>by cases e)];exact ω q
 | 0,.t ks,v,Q,hd,p,q=>by simp only[NK.dep]at hd;lia
 |m+1,.t ks,v,Q,hd,p,q=>by
  simp only[NKv]at p;obtain⟨a,its,rfl,⟨o,e,c,n,d⟩,p2⟩:=p;simp only[NK.dep]at hd;rw[eqIsQuiet.eq_2];refine δ (wpAny_specialOf (T:="tuple") ⟨o,e,c⟩ F.slot_tuple_eq.lookup ?_);show wpAny (model prog w) A (isInstance (.ref a) (.type "tuple") >>= _) _ _ s;refine δ (wpAny_isInstance (T:="tuple") (b:=true) ⟨o,e,c⟩ (by rfl) ?_);show wpAny (model prog w) A (seqItems? (.ref a) >>= _) _ _ s;refine δ (GP e d ?_);refine δ ?_;have go:∀(ks:List NK)(vs:List Value)(Q':Option Bool×Unit->Shared->Prop),z9 ks<=m->NKvs s.heap ks vs->Q' (none,()) s ->
    wpAny (model prog w) A (forIn vs ((none,()):Option Bool×Unit) fun y __s=>do
     let __do_lift <-eqIsQuiet m y
     if(!__do_lift)=true then pure (ForInStep.done (some false,()))
      else pure (ForInStep.yield (none,()))) Q' E s:=by
   intro ks
   induction ks with
   |nil=>
    intro vs Q' _ p hq
    simp only[NKvs]at p;subst p
    exact ω hq
   |cons k ks ih=>
    intro vs Q' hd p hq
    simp only[NKvs]at p
    obtain⟨v,r,rfl,p1,p2⟩:=p
    simp only[z9]at hd
    rw[GU]
    refine δ (δ (Wt m (by lia) p1 ?_))
    refine ω ?_
    exact ih r Q' (by lia) p2 hq
  show wpAny (model prog w) A (forIn its ((none,()):Option Bool×Unit) _) _ _ s;rw[<-Array.forIn_toList];refine go ks its.toList _ (by lia) p2 ?_;exact ω q
def deepKind(prog:Program)(w:World):HeapKind prog w NK where
 is:=fun h k a=>NKv h k (.ref a)/\k.dep<=8
 hash:=NK.hs
 draws:=NK.dr
 room:=fun A=>A.units+8<cLine
 inj:=fun p q=>NKv.inj p.1 q.1
 keeps:=fun {h h' k a d o es ep} p e eo sb=>⟨NKv.stay (fun b its t=>by
  obtain⟨ob,eb,cb,n,db⟩:=t;have ah:b≠d:=fun z=>by subst z;rw[e]at eb;cases eb;rw[eo]at db;cases db
  exact⟨ob,(sb.2 b ah).trans eb,cb,n,db⟩) p.1,p.2⟩
 pyHash:=fun {A E s k a Q} hr p q=>Vd 8 p.2 hr p.1 q
 eqBool:=fun {A E s x y a b Q} hr p p' q=>Pn 8 p.2 hr p.1 p'.1 prog w E Q q
 quiet:=fun {A E s k a Q} p q=>Wt 8 p.2 p.1 q
end
def dnE(x:NK×Addr×Value):DictEntry:={ hash:=x.1.hs,key:=.ref x.2.1,val:=x.2.2 }
def dnP(a:Addr)(ks:List (NK×Addr))(xs:List V)(o:Obj)(h:Heap):Prop:=
 h.get? a=some o/\∃(vs:List Value)(es:Array DictEntry)(ep:Nat),Vals xs vs/\ks.length=vs.length/\o.ExactDict/\o.data=.dict es ep/\es.toList=((ks.zip vs).map fun q=>(q.1.1,q.1.2,q.2)).map dnE
def dnP.stay:∀h1 h2:Heap,dnP a ks xs o h1->(∀o,h1.get? a=some o->h2.get? a=some o)->dnP a ks xs o h2:=fun _ _ p k=>⟨k _ p.1,p.2⟩
def tkH(hf:Str->Int)(k:Str×NK):Int:=reduceHash (Builtin.Tuple.tupleHashOf [hf k.1,k.2.hs])
def dpE(hf:Str->Int)(x:(Str×NK)×Addr×Value):DictEntry:={ hash:=tkH hf x.1,key:=.ref x.2.1,val:=x.2.2 }
def dpP(hf:Str->Int)(a:Addr)(ks:List ((Str×NK)×Addr))(xs:List V)(o:Obj)(h:Heap):Prop:=
 h.get? a=some o/\∃(vs:List Value)(es:Array DictEntry)(ep:Nat),Vals xs vs/\ks.length=vs.length/\o.ExactDict/\o.data=.dict es ep/\es.toList=((ks.zip vs).map fun q=>(q.1.1,q.1.2,q.2)).map (dpE hf)
mutual
def NKr(H:Hp):NK->V->Prop
 | .i n,v=>v=.int n
 | .t ks,v=>∃a ys,v=.ref a/\H a=some (.tup ys)/\NKrs H ks ys
def NKrs(H:Hp):List NK->List V->Prop
 | [],vs=>vs=[]
 |k::ks,vs=>∃v r,vs=v::r/\NKr H k v/\NKrs H ks r
end
mutual
theorem NKr.mono(st:∀a ys,H a=some (.tup ys)->H' a=some (.tup ys)):∀{k:NK}{v:V},NKr H k v->NKr H' k v
 | .i n,v,p=>by simp only[NKr]at p⊢;exact p
 | .t ks,v,p=>by simp only[NKr]at p⊢;obtain⟨a,ys,e,p1,p2⟩:=p;exact⟨a,ys,e,st _ _ p1,NKrs.mono st p2⟩
theorem NKrs.mono(st:∀a ys,H a=some (.tup ys)->H' a=some (.tup ys)):∀{ks:List NK}{vs:List V},NKrs H ks vs->NKrs H' ks vs
 | [],_,p=>by simp only[NKrs]at p⊢;exact p
 |k::ks,_,p=>by simp only[NKrs]at p⊢;obtain⟨v,r,e,p1,p2⟩:=p;exact⟨v,r,e,NKr.mono st p1,NKrs.mono st p2⟩
end
section
variable {X:Cx}{pins:List (Addr×Obj)}{σ:St}{H:Hp}{s:Shared}
mutual
theorem S8(I:Inv X pins σ H s):∀{k:NK}{x:V}{u:Value},NKr H k x->RelV x u->NKv s.heap k u
 | .i n,x,u,p,r=>by simp only[NKr]at p;subst p;obtain⟨t,rfl⟩:=r;simp only[NKv];exact⟨t,rfl⟩
 | .t ks,x,u,p,r=>by simp only[NKr]at p;obtain⟨a,ys,rfl,p1,p2⟩:=p;cases r;obtain⟨its,r1,t1,_⟩:=I.tuple (.of p1);simp only[NKv];exact⟨a,its.toArray,rfl,t1,Su I p2 r1⟩
theorem Su(I:Inv X pins σ H s):∀{ks:List NK}{xs:List V}{us:List Value},NKrs H ks xs->Vals xs us->NKvs s.heap ks us
 | [],_,_,p,r=>by simp only[NKrs]at p;subst p;cases r;simp only[NKvs]
 |k::ks,_,_,p,r=>by
  simp only[NKrs]at p;obtain⟨v,q,rfl,p1,p2⟩:=p;cases r with
  |cons a1 a2=>
   simp only[NKvs]
   exact⟨_,_,rfl,S8 I p1 a1,Su I p2 a2⟩
end
end
def KL(K:Frag)(a:Addr)(xs:List V):Prop:=∃(o:Obj)(its:Array Value)(n:Nat),K.lookup a=some o/\o.cls=.type "list"/\o.dict=none/\o.data=.seq its n/\its.size<=sizeLine/\Vals xs its.toList
def XO(K:Frag)(c:String)(a:Addr)(od:Option Addr)(o:HO):Prop:=∃C:Addr,nsIn K mainGlobals (c:Str)=some (some (.ref C))/\o=.ext fun h=>∃ob,h.get? a=some ob/\ob.cls=.ref C/\(∃vs,ob.data=.fields vs)/\ob.dict=od
noncomputable def n6(c:String):List Str:=if c="Fallen" then ["corner"] else if c="Crossed" then ["one","other"] else if c="NotFull" then ["line"] else if c="TurnLine" then ["line"] else if c="Spin" then ["by"] else []
inductive D where
 |non |bl (b:Bool) |int (i:Int) |str (x:Str) |tup (ds:List D) |lst (ds:List D)
 |dk (ks:List Key) (ds:List D) |dt (ks:List (List Key)) (ds:List D) |dn (ks:List NK) (ds:List D) |scr (ns:List Int) |exc (c:String) (fs:List D)
 |obj (c:String) (fs:List D) |dp (hf:Str->Int) (n:Nat)
def DN(H:Hp)(a:Addr)(qs:List (NK×Addr)):Prop:=(qs.map (·.1)).Nodup/\(∀q∈qs,NKr H q.1 (.ref q.2)/\q.1.dep<=8)/\(a==sysModules)=false/\qs.length<=sizeLine
def DN.tk(h:DN H a qs)(st:∀a ys,H a=some (.tup ys)->H' a=some (.tup ys)):DN H' a qs:=
 ⟨h.1,fun q hq=>⟨NKr.mono st (h.2.1 q hq).1,(h.2.1 q hq).2⟩,h.2.2⟩
def TKr(H:Hp)(k:Str×NK)(v:V):Prop:=∃a y,v=.ref a/\H a=some (.tup [.str k.1,y])/\NKr H k.2 y
noncomputable def pdO(k:Str×NK):Option (String×List NK):=if k.1="turn" then some ("TurnLine",[k.2]) else if k.1="spin" then some ("Spin",[k.2]) else if k.1="mirror" then some ("Mirror",[]) else none
def PoR(K:Frag)(H:Hp)(k:Str×NK)(x:V):Prop:=∃c ns b C dx ys,pdO k=some (c,ns)/\x=.ref b/\nsIn K mainGlobals (c:Str)=some (some (.ref C))/\H b=some (.ins C dx ((n6 c).zip ys))/\ys.length=(n6 c).length/\NKrs H ns ys
def DP(K:Frag)(H:Hp)(a:Addr)(qs:List ((Str×NK)×Addr))(xs:List V):Prop:=(qs.map (·.1)).Nodup/\(∀q∈qs,TKr H q.1 (.ref q.2)/\q.1.2.dep<=7)/\(a==sysModules)=false/\qs.length=xs.length/\∀p∈qs.zip xs,PoR K H p.1.1 p.2
mutual
noncomputable def D.noL:D->Bool
 | .lst _=>false
 | .dk _ _=>false
 | .dt _ _=>false
 | .dn _ _=>false
 | .dp _ _=>false
 | .tup ds=>i5 ds
 |_=>true
noncomputable def i5:List D->Bool
 | []=>true
 |d::ds=>d.noL&&i5 ds
end
mutual
noncomputable def D.pl:D->Bool
 | .dk _ _=>false
 | .dt _ _=>false
 | .dn _ _=>false
 | .dp _ _=>false
 | .scr _=>false
 | .exc _ _=>false
 | .obj _ _=>false
 | .tup ds=>pls ds
 | .lst ds=>pls ds
 |_=>true
noncomputable def pls:List D->Bool
 | []=>true
 |d::ds=>d.pl&&pls ds
end
mutual
def RD(K:Frag)(H:Hp):D->V->Prop
 | .non,v=>v=.non
 | .bl b,v=>v=.bl b
 | .int i,v=>v=.int i
 | .str x,v=>v=.str x
 | .tup ds,v=>∃a xs,v=.ref a/\H a=some (.tup xs)/\RDs K H ds xs
 | .lst ds,v=>∃a xs,v=.ref a/\H a=some (.lst xs)/\RDs K H ds xs
 | .dk ks ds,v=>∃a xs,v=.ref a/\H a=some (.dK (ks.zip xs))/\ks.length=xs.length/\RDs K H ds xs
 | .dt ks ds,v=>∃a xs,v=.ref a/\H a=some (.dT (ks.zip xs))/\ks.length=xs.length/\RDs K H ds xs
 | .dn ks ds,v=>∃a qs xs o,v=.ref a/\H a=some (.ext (dnP a qs xs o))/\qs.map (·.1)=ks/\DN H a qs/\RDs K H ds xs
 | .scr ns,v=>∃a,v=.ref a/\((∃o,H a=some (.frz o (.lst (ns.map V.int))))\/KL K a (ns.map V.int))
 | .exc c fs,v=>∃a od o,v=.ref a/\XO K c a od o/\H a=some o/\(fs=[]\/∃(dx:Addr)(vs:List V)(ob:Obj),od=some dx/\H dx=some (.frz ob (.xd ((n6 c).zip vs)))/\(i5 fs=true/\pls fs=true)/\RDs K H fs vs)
 | .obj c fs,v=>∃a C dx vs,v=.ref a/\nsIn K mainGlobals (c:Str)=some (some (.ref C))/\H a=some (.ins C dx ((n6 c).zip vs))/\vs.length=(n6 c).length/\(i5 fs=true/\pls fs=true)/\RDs K H fs vs
 | .dp hf n,v=>∃a qs xs o,v=.ref a/\H a=some (.ext (dpP hf a qs xs o))/\DP K H a qs xs/\qs.length<=n
def RDs(K:Frag)(H:Hp):List D->List V->Prop
 | [],xs=>xs=[]
 |d::ds,xs=>∃x r,xs=x::r/\RD K H d x/\RDs K H ds r
end
def D.shal:D->Bool
 | .lst ds=>i5 ds
 | .dk _ ds=>i5 ds
 | .dt _ ds=>i5 ds
 | .dn _ ds=>i5 ds
 | .dp _ _=>true
 |d=>d.noL
def Imm:HO->Prop
 | .tup _=>True
 | .frz _ _=>True
 | .ins _ _ _=>True
 | .ext φ=>(∀a qs xs o,φ≠dnP a qs xs o)/\∀hf a qs xs o,φ≠dpP hf a qs xs o
 |_=>False
def XO.imm{K:Frag}{c:String}{a:Addr}{od:Option Addr}{o:HO}(h:XO K c a od o):Imm o:=by
 obtain⟨C,_,rfl⟩:=h
 suffices hz:∀(b:Addr)(o0:Obj)(P:Heap->Prop),((fun h:Heap=>∃ob,h.get? a=some ob/\ob.cls=.ref C/\(∃vs,ob.data=.fields vs)/\ob.dict=od)=P)->(∀h,P h->h.get? b=some o0/\∃es ep,o0.data=.dict es ep)->False from
  ⟨fun b qs xs o0 e=>hz b o0 _ e fun h p=>by obtain⟨g,vs,es,ep,_,_,_,d,_⟩:=p;exact⟨g,es,ep,d⟩,fun hf b qs xs o0 e=>hz b o0 _ e fun h p=>by obtain⟨g,vs,es,ep,_,_,_,d,_⟩:=p;exact⟨g,es,ep,d⟩⟩
 intro b o0 P e hP;obtain⟨ob,eU⟩:∃ob:Obj,ob={ cls:=.ref C,dict:=od,data:=.fields #[] }:=⟨_,rfl⟩;have hg:∀(i:Nat)(o:Obj),({ objs:=Array.replicate (a+1) ob }:Heap).get? i=some o->o=ob:=fun i o q=>by
  by_cases hi:i<a+1
  . have z:({ objs:=Array.replicate (a+1) ob }:Heap).get? i=some ob:=by
     unfold Heap.get?
     rw[HI,ζ hi,eU]
    rw[z]at q;cases q;rfl
  . unfold Heap.get? at q;rw[HI,ξ hi]at q;cases q
 have h1:(fun h:Heap=>∃ob,h.get? a=some ob/\ob.cls=.ref C/\(∃vs,ob.data=.fields vs)/\ob.dict=od) { objs:=Array.replicate (a+1) ob }:=by refine⟨ob,?_,by rw[eU],⟨#[],by rw[eU]⟩,by rw[eU]⟩;unfold Heap.get?;rw[HI,ζ (Nat.lt_succ_self a),eU]
 rw[e]at h1;obtain⟨g,es,ep,d⟩:=hP _ h1;rw[hg _ _ g,eU]at d;cases d
def TK(H H':Hp):Prop:=∀a o,Imm o->H a=some o->H' a=some o
def Same.tk(h:Same H H'):TK H H':=fun a o _ e=>h a o e
def TKr.tk(st:∀a ys,H a=some (.tup ys)->H' a=some (.tup ys))(h:TKr H k v):TKr H' k v:=by obtain⟨a,y,e,h1,h2⟩:=h;exact⟨a,y,e,st _ _ h1,NKr.mono st h2⟩
def PoR.tk{K:Frag}{H H':Hp}(st:TK H H'){k:Str×NK}{x:V}(h:PoR K H k x):PoR K H' k x:=by obtain⟨c,ns,b,C,dx,ys,h1,h2,h3,h4,h5,h6⟩:=h;exact⟨c,ns,b,C,dx,ys,h1,h2,h3,st _ _ trivial h4,h5,NKrs.mono (fun a ys q=>st _ _ trivial q) h6⟩
def DP.tk{K:Frag}{H H':Hp}{a:Addr}{qs:List ((Str×NK)×Addr)}{xs:List V}(st:TK H H')(h:DP K H a qs xs):DP K H' a qs xs:=
 ⟨h.1,fun q hq=>⟨(h.2.1 q hq).1.tk fun a ys q=>st _ _ trivial q,(h.2.1 q hq).2⟩,h.2.2.1,h.2.2.2.1,fun p hp=>(h.2.2.2.2 p hp).tk st⟩
section
variable {K:Frag}{H H':Hp}
mutual
theorem RD.tk(hs:TK H H'):∀{d:D}{v:V},d.noL=true->RD K H d v->RD K H' d v
 | .non,_,_,h=>by simp only[RD]at h⊢;exact h
 | .bl _,_,_,h=>by simp only[RD]at h⊢;exact h
 | .int _,_,_,h=>by simp only[RD]at h⊢;exact h
 | .str _,_,_,h=>by simp only[RD]at h⊢;exact h
 | .tup ds,_,n,h=>by simp only[RD]at h⊢;obtain⟨a,xs,e,h1,h2⟩:=h;exact⟨a,xs,e,hs _ _ trivial h1,RDs.tk hs (by simpa only [D.noL] using n) h2⟩
 | .lst ds,_,n,h=>by simp[D.noL]at n
 | .dk _ ds,_,n,h=>by simp[D.noL]at n
 | .dt _ ds,_,n,h=>by simp[D.noL]at n
 | .dn _ ds,_,n,h=>by simp[D.noL]at n
 | .dp _ _,_,n,h=>by simp[D.noL]at n
 | .obj c fs,_,n,h=>by simp only[RD]at h⊢;obtain⟨a,C,dx,vs,e,h1,h2,h3,h4,h5⟩:=h;exact⟨a,C,dx,vs,e,h1,hs _ _ trivial h2,h3,h4,RDs.tk hs h4.1 h5⟩
 | .exc c fs,_,n,h=>by
  simp only[RD]at h⊢;obtain⟨a,od,o,e,h1,h2,h3⟩:=h;refine⟨a,od,o,e,h1,hs _ _ h1.imm h2,?_⟩;rcases h3 with h3 |⟨dx,xs,ob,q1,q2,q3,q4⟩
  . exact .inl h3
  . exact .inr ⟨dx,xs,ob,q1,hs _ _ trivial q2,q3,RDs.tk hs q3.1 q4⟩
 | .scr ns,_,n,h=>by
  simp only[RD]at h⊢;obtain⟨a,e,h1⟩:=h;refine⟨a,e,?_⟩;rcases h1 with⟨o,h1⟩ |h1
  . exact .inl ⟨o,hs _ _ trivial h1⟩
  . exact .inr h1
theorem RDs.tk(hs:TK H H'):∀{ds:List D}{xs:List V},i5 ds=true->RDs K H ds xs->RDs K H' ds xs
 | [],_,_,h=>by simp only[RDs]at h⊢;exact h
 |d::ds,_,n,h=>by simp only[RDs]at h⊢;simp only[i5,gR]at n;obtain⟨x,r,e,h1,h2⟩:=h;exact⟨x,r,e,RD.tk hs n.1 h1,RDs.tk hs n.2 h2⟩
end
mutual
theorem RD.mono(hs:Same H H'):∀{d:D}{v:V},RD K H d v->RD K H' d v
 | .non,_,h=>by simp only[RD]at h⊢;exact h
 | .bl _,_,h=>by simp only[RD]at h⊢;exact h
 | .int _,_,h=>by simp only[RD]at h⊢;exact h
 | .str _,_,h=>by simp only[RD]at h⊢;exact h
 | .tup ds,_,h=>by simp only[RD]at h⊢;obtain⟨a,xs,e,h1,h2⟩:=h;exact⟨a,xs,e,hs _ _ h1,RDs.mono hs h2⟩
 | .lst ds,_,h=>by simp only[RD]at h⊢;obtain⟨a,xs,e,h1,h2⟩:=h;exact⟨a,xs,e,hs _ _ h1,RDs.mono hs h2⟩
 | .dk _ ds,_,h=>by simp only[RD]at h⊢;obtain⟨a,xs,e,h1,hl,h2⟩:=h;exact⟨a,xs,e,hs _ _ h1,hl,RDs.mono hs h2⟩
 | .dn _ ds,_,h=>by simp only[RD]at h⊢;obtain⟨a,qs,xs,o,e,h1,hk,hd,h2⟩:=h;exact⟨a,qs,xs,o,e,hs _ _ h1,hk,hd.tk fun b ys q=>hs _ _ q,RDs.mono hs h2⟩
 | .dt _ ds,_,h=>by simp only[RD]at h⊢;obtain⟨a,xs,e,h1,hl,h2⟩:=h;exact⟨a,xs,e,hs _ _ h1,hl,RDs.mono hs h2⟩
 | .dp _ _,_,h=>by simp only[RD]at h⊢;obtain⟨a,qs,xs,o,e,h1,h2,h3⟩:=h;exact⟨a,qs,xs,o,e,hs _ _ h1,h2.tk hs.tk,h3⟩
 | .obj c fs,_,h=>by simp only[RD]at h⊢;obtain⟨a,C,dx,vs,e,h1,h2,h3,h4,h5⟩:=h;exact⟨a,C,dx,vs,e,h1,hs _ _ h2,h3,h4,RDs.mono hs h5⟩
 | .exc c fs,_,h=>by
  simp only[RD]at h⊢;obtain⟨a,od,o,e,h1,h2,h3⟩:=h;refine⟨a,od,o,e,h1,hs _ _ h2,?_⟩;rcases h3 with h3 |⟨dx,xs,ob,q1,q2,q3,q4⟩
  . exact .inl h3
  . exact .inr ⟨dx,xs,ob,q1,hs _ _ q2,q3,RDs.mono hs q4⟩
 | .scr ns,_,h=>by
  simp only[RD]at h⊢;obtain⟨a,e,h1⟩:=h;refine⟨a,e,?_⟩;rcases h1 with⟨o,h1⟩ |h1
  . exact .inl ⟨o,hs _ _ h1⟩
  . exact .inr h1
theorem RDs.mono(hs:Same H H'):∀{ds:List D}{xs:List V},RDs K H ds xs->RDs K H' ds xs
 | [],_,h=>by simp only[RDs]at h⊢;exact h
 |d::ds,_,h=>by simp only[RDs]at h⊢;obtain⟨x,r,e,h1,h2⟩:=h;exact⟨x,r,e,RD.mono hs h1,RDs.mono hs h2⟩
end
theorem RDs.length:∀{ds:List D}{xs:List V},RDs K H ds xs->ds.length=xs.length
 | [],_,h=>by simp only[RDs]at h;subst h;rfl
 |d::ds,_,h=>by simp only[RDs]at h;obtain⟨x,r,rfl,_,h2⟩:=h;simp[RDs.length h2]
theorem RDs.get:∀{ds:List D}{xs:List V}{i:Nat}{x:V},RDs K H ds xs->xs[i]?=some x->∃d,ds[i]?=some d/\RD K H d x
 | [],_,i,x,h,e=>by simp only[RDs]at h;subst h;simp at e
 |d::ds,_,i,x,h,e=>by
  simp only[RDs]at h;obtain⟨y,r,rfl,h1,h2⟩:=h;cases i with
  |zero=>simp at e;subst e;exact⟨d,rfl,h1⟩
  |succ i=>simp at e;obtain⟨d',e1,e2⟩:=RDs.get h2 e;exact⟨d',by simpa using e1,e2⟩
theorem RDs.get':∀{ds:List D}{xs:List V}{i:Nat}{d:D},RDs K H ds xs->ds[i]?=some d->∃x,xs[i]?=some x/\RD K H d x
 | [],_,i,d,h,e=>by simp at e
 |d'::ds,_,i,d,h,e=>by
  simp only[RDs]at h;obtain⟨y,r,rfl,h1,h2⟩:=h;cases i with
  |zero=>simp at e;subst e;exact⟨y,rfl,h1⟩
  |succ i=>simp at e;obtain⟨x',e1,e2⟩:=RDs.get' h2 e;exact⟨x',by simpa using e1,e2⟩
theorem RDs.append:∀{ds es:List D}{xs ys:List V},RDs K H ds xs->RDs K H es ys->RDs K H (ds++es) (xs++ys)
 | [],_,_,_,h,h'=>by simp only[RDs]at h;subst h;exact h'
 |d::ds,es,_,ys,h,h'=>by simp only[RDs]at h;obtain⟨x,r,rfl,h1,h2⟩:=h;simp only[List.cons_append,RDs];exact⟨x,r++ys,rfl,h1,RDs.append h2 h'⟩
def RDs.nil:RDs K H [] []:=by simp only[RDs]
def RDs.cons(h:RD K H d x)(h':RDs K H ds xs):RDs K H (d::ds) (x::xs):=by simp only[RDs];exact⟨x,xs,rfl,h,h'⟩
def RDs.one(h:RD K H d x):RDs K H [d] [x]:=.cons h .nil
theorem RDs.take:∀{ds:List D}{xs:List V}(n:Nat),RDs K H ds xs->RDs K H (ds.take n) (xs.take n)
 |_,_,0,_=>by simp[RDs]
 | [],_,n+1,h=>by simp only[RDs]at h;subst h;simp[RDs]
 |d::ds,_,n+1,h=>by simp only[RDs]at h;obtain⟨x,r,rfl,h1,h2⟩:=h;simp only[List.take_succ_cons];exact .cons h1 (RDs.take n h2)
theorem RDs.drop:∀{ds:List D}{xs:List V}(n:Nat),RDs K H ds xs->RDs K H (ds.drop n) (xs.drop n)
 |_,_,0,h=>h
 | [],_,n+1,h=>by simp only[RDs]at h;subst h;simp[RDs]
 |d::ds,_,n+1,h=>by simp only[RDs]at h;obtain⟨x,r,rfl,h1,h2⟩:=h;exact RDs.drop n h2
theorem RDs.set:∀{ds:List D}{xs:List V}(n:Nat){d:D}{x:V},RDs K H ds xs->RD K H d x->RDs K H (ds.set n d) (xs.set n x)
 | [],_,n,_,_,h,_=>by simp only[RDs]at h;subst h;simp[RDs]
 |d::ds,_,0,_,_,h,h'=>by simp only[RDs]at h;obtain⟨x,r,rfl,h1,h2⟩:=h;exact .cons h' h2
 |d::ds,_,n+1,_,_,h,h'=>by simp only[RDs]at h;obtain⟨x,r,rfl,h1,h2⟩:=h;exact .cons h1 (RDs.set n h2 h')
theorem RDs.ofInts:∀(ns:List Int),RDs K H (ns.map D.int) (ns.map V.int)
 | []=>by simp only[List.map,RDs]
 |n::ns=>by simp only[List.map];exact RDs.cons (by simp only[RD]) (RDs.ofInts ns)
end
mutual
noncomputable def eqD:D->D->Bool
 | .non,.non=>true
 | .bl a,.bl b=>a==b
 | .bl a,.int j=>(if a then 1 else 0)==j
 | .int i,.bl b=>i==(if b then 1 else 0)
 | .int i,.int j=>i==j
 | .str a,.str b=>a==b
 | .tup ds,.tup es=>m9 ds es
 | .lst ds,.lst es=>m9 ds es
 |_,_=>false
noncomputable def m9:List D->List D->Bool
 | [],[]=>true
 |d::ds,e::es=>eqD d e&&m9 ds es
 |_,_=>false
end
mutual
noncomputable def D.dep:D->Nat
 | .tup ds=>j0 ds+1
 | .lst ds=>j0 ds+1
 |_=>0
noncomputable def j0:List D->Nat
 | []=>0
 |d::ds=>max d.dep (j0 ds)
end
mutual
theorem Bb:∀d:D,d.pl=true->eqD d d=true
 | .non,_=>rfl
 | .bl b,_=>by simp[eqD]
 | .int b,_=>by simp[eqD]
 | .str b,_=>by simp[eqD]
 | .tup ds,h=>by simp only[eqD];exact Ls ds (by simpa only [D.pl] using h)
 | .lst ds,h=>by simp only[eqD];exact Ls ds (by simpa only [D.pl] using h)
 | .dk _ _,h=>by simp[D.pl]at h
 | .dt _ _,h=>by simp[D.pl]at h
 | .dn _ _,h=>by simp[D.pl]at h
 | .scr _,h=>by simp[D.pl]at h
 | .exc _ _,h=>by simp[D.pl]at h
 | .obj _ _,h=>by simp[D.pl]at h
 | .dp _ _,h=>by simp[D.pl]at h
theorem Ls:∀ds:List D,pls ds=true->m9 ds ds=true
 | [],_=>rfl
 |d::ds,h=>by simp only[pls,gR]at h;simp only[m9,Bb d h.1,Ls ds h.2,DV]
end
mutual
theorem RD.inj{K:Frag}{H:Hp}:∀{d e:D}{v:V},d.pl=true->e.pl=true->RD K H d v->RD K H e v->d=e
 | .non,e,v,_,p,h,h'=>by simp only[RD]at h;subst h;cases e<;>simp only[RD]at h'<;>first | (exfalso;simp[D.pl]at p;done) |rfl | (cases h';done) | (obtain⟨a,xs,z,_⟩:=h';cases z)
 | .bl b,e,v,_,p,h,h'=>by simp only[RD]at h;subst h;cases e<;>simp only[RD]at h'<;>first | (exfalso;simp[D.pl]at p;done) | (cases h';rfl) | (cases h';done) | (obtain⟨a,xs,z,_⟩:=h';cases z)
 | .int b,e,v,_,p,h,h'=>by simp only[RD]at h;subst h;cases e<;>simp only[RD]at h'<;>first | (exfalso;simp[D.pl]at p;done) | (cases h';rfl) | (cases h';done) | (obtain⟨a,xs,z,_⟩:=h';cases z)
 | .str b,e,v,_,p,h,h'=>by simp only[RD]at h;subst h;cases e<;>simp only[RD]at h'<;>first | (exfalso;simp[D.pl]at p;done) | (cases h';rfl) | (cases h';done) | (obtain⟨a,xs,z,_⟩:=h';cases z)
 | .dk _ _,e,v,p,_,h,h'=>by simp[D.pl]at p
 | .dt _ _,e,v,p,_,h,h'=>by simp[D.pl]at p
 | .dn _ _,e,v,p,_,h,h'=>by simp[D.pl]at p
 | .scr _,e,v,p,_,h,h'=>by simp[D.pl]at p
 | .exc _ _,e,v,p,_,h,h'=>by simp[D.pl]at p
 | .obj _ _,e,v,p,_,h,h'=>by simp[D.pl]at p
 | .dp _ _,e,v,p,_,h,h'=>by simp[D.pl]at p
 | .tup ds,e,v,p,p',h,h'=>by
  simp only[RD]at h;obtain⟨a,xs,rfl,h1,h2⟩:=h;cases e<;>simp only[RD]at h'
  case tup es=>
   obtain⟨b,ys,z,h3,h4⟩:=h'
   cases z
   rw[h1]at h3;cases h3
   rw[RDs.inj (by simpa only [D.pl] using p) (by simpa only [D.pl] using p') h2 h4]
  case lst es=>
   obtain⟨b,ys,z,h3,h4⟩:=h'
   cases z
   rw[h1]at h3;cases h3
  all_goals first | (exfalso;simp[D.pl]at p';done) |cases h'
 | .lst ds,e,v,p,p',h,h'=>by
  simp only[RD]at h;obtain⟨a,xs,rfl,h1,h2⟩:=h;cases e<;>simp only[RD]at h'
  case tup es=>
   obtain⟨b,ys,z,h3,h4⟩:=h'
   cases z
   rw[h1]at h3;cases h3
  case lst es=>
   obtain⟨b,ys,z,h3,h4⟩:=h'
   cases z
   rw[h1]at h3;cases h3
   rw[RDs.inj (by simpa only [D.pl] using p) (by simpa only [D.pl] using p') h2 h4]
  all_goals first | (exfalso;simp[D.pl]at p';done) |cases h'
theorem RDs.inj{K:Frag}{H:Hp}:∀{ds es:List D}{xs:List V},pls ds=true->pls es=true->RDs K H ds xs->RDs K H es xs->ds=es
 | [],es,xs,_,_,h,h'=>by
  simp only[RDs]at h;subst h;cases es<;>simp only[RDs]at h'
  . rfl
  . obtain⟨x,r,z,_⟩:=h';cases z
 |d::ds,es,xs,p,p',h,h'=>by
  simp only[RDs]at h;obtain⟨x,r,rfl,h1,h2⟩:=h;simp only[pls,gR]at p;cases es with
  |nil=>simp only[RDs]at h';cases h'
  |cons e es=>
   simp only[RDs]at h'
   obtain⟨y,r',z,h3,h4⟩:=h'
   cases z
   simp only[pls,gR]at p'
   rw[RD.inj p.1 p'.1 h1 h3,RDs.inj p.2 p'.2 h2 h4]
end
theorem Kj:∀{ds:List D}{d:D},pls ds=true->d∈ds->d.pl=true
 |e::ds,d,h,m=>by
  simp only[pls,gR]at h;rcases eH.mp m with rfl |m
  . exact h.1
  . exact Kj h.2 m
theorem Lg:∀{ds:List D}{d:D},d∈ds->d.dep<=j0 ds
 |d'::ds,d,h=>by
  simp only[j0];rcases eH.mp h with rfl |h
  . lia
  . have:=Lg h;lia
theorem Lf:∀{ds es:List D},ds.length=es.length->m9 ds es=(List.range ds.length).all fun j=>eqD (ds.getD j .non) (es.getD j .non)
 | [],[],_=>rfl
 | [],_::_,h=>by simp at h
 |_::_,[],h=>by simp at h
 |d::ds,e::es,h=>by simp only[m9,io];rw[Lf (by simpa using h),List.range_succ_eq_map,List.all_cons,List.all_map];rfl
theorem Le:∀{ds es:List D},ds.length≠es.length->m9 ds es=false
 | [],[],h=>absurd rfl h
 | [],_::_,_=>rfl
 |_::_,[],_=>rfl
 |d::ds,e::es,h=>by simp only[m9];rw[Le (by intro z;exact h (by simp[z])),Bool.and_false]
section
variable {X:Cx}{pins:List (Addr×Obj)}{σ:St}{H:Hp}{s:Shared}
def Inv.tupA(I:Inv X pins σ H s)(h:H a=some (.tup xs)):∃its:List Value,Vals xs its/\s.heap.IsTuple a its.toArray:=by obtain⟨its,r,t,_⟩:=I.tuple (.of h);exact⟨its,r,t⟩
def Inv.lstA(I:Inv X pins σ H s)(h:H a=some (.lst xs)):∃its:List Value,Vals xs its/\s.heap.IsList a its.toArray:=by obtain⟨its,r,t,_⟩:=I.list (.of h);exact⟨its,r,t.isList⟩
inductive Shp (X:Cx) (H:Hp) (s:Shared):D->V->Value->Prop
 |non:Shp X H s .non .non .none
 |bl (b:Bool):Shp X H s (.bl b) (.bl b) (.bool b)
 |int (i:Int) (t:Tok):Shp X H s (.int i) (.int i) (.int i t)
 |str (c:Str) (t:Tok):Shp X H s (.str c) (.str c) (.str c t)
 |tup {ds:List D} {a:Addr} {xs:List V} {its:List Value} (p:pls ds=true) (h:H a=some (.tup xs)) (q:RDs X.K H ds xs) (r:Vals xs its) (t:s.heap.IsTuple a its.toArray):Shp X H s (.tup ds) (.ref a) (.ref a)
 |lst {ds:List D} {a:Addr} {xs:List V} {its:List Value} (p:pls ds=true) (h:H a=some (.lst xs)) (q:RDs X.K H ds xs) (r:Vals xs its) (t:s.heap.IsList a its.toArray):Shp X H s (.lst ds) (.ref a) (.ref a)
def shp(I:Inv X pins σ H s)(p:d.pl=true)(h:RD X.K H d x)(r:RelV x u):Shp X H s d x u:=by
 cases d<;>simp only[RD]at h<;>first | (exfalso;simp[D.pl]at p;done) |skip
 . subst h;cases r;exact .non
 . subst h;cases r;exact .bl _
 . subst h;obtain⟨t,rfl⟩:=r;exact .int _ _
 . subst h;obtain⟨t,rfl⟩:=r;exact .str _ _
 . obtain⟨a,xs,rfl,h1,h2⟩:=h;cases r;obtain⟨its,v,t⟩:=I.tupA h1;exact .tup (by simpa only [D.pl] using p) h1 h2 v t
 . obtain⟨a,xs,rfl,h1,h2⟩:=h;cases r;obtain⟨its,v,t⟩:=I.lstA h1;exact .lst (by simpa only [D.pl] using p) h1 h2 v t
def Oy(X:Cx)(H:Hp)(s:Shared)(A:Around)(n:Nat):Prop:=∀{d e:D}{x y:V}{u v:Value},d.pl=true->e.pl=true->d.dep<=n->RD X.K H d x->RD X.K H e y->RelV x u->RelV y v->SeqAt.EqAt A s u v (eqD d e)
theorem Vc(ih:Oy X H s A n)(pd:pls ds=true)(pe:pls es=true)(sJ:j0 ds<=n)(cB:RDs X.K H ds xs)(fQ:RDs X.K H es ys)(r:Vals xs its)(r2:Vals ys ar)(j:Nat)
  (h1:j<its.toArray.size) (h2:j<ar.toArray.size):SeqAt.EqAt A s its.toArray[j] ar.toArray[j] (eqD (ds.getD j .non) (es.getD j .non)):=by
 have mr:j<its.length:=by simpa using h1
 have sK:j<ar.length:=by simpa using h2
 have l1:=r.length
 have l2:=r2.length
 obtain⟨u1,e1,q1⟩:=r.get (i:=j) (x:=xs[j]'(by lia)) (by simp)
 obtain⟨u2,e2,q2⟩:=r2.get (i:=j) (x:=ys[j]'(by lia)) (by simp)
 obtain⟨d1,g1,w1⟩:=cB.get (i:=j) (x:=xs[j]'(by lia)) (by simp)
 obtain⟨d2,g2,w2⟩:=fQ.get (i:=j) (x:=ys[j]'(by lia)) (by simp)
 have ea:its.toArray[j]=u1:=by rw[oF mr]at e1;simpa using e1
 have eb:ar.toArray[j]=u2:=by rw[oF sK]at e2;simpa using e2
 have ga:ds.getD j .non=d1:=by rw[pp,g1];rfl
 have gb:es.getD j .non=d2:=by rw[pp,g2];rfl
 rw[ea,eb,ga,gb]
 exact ih (Kj pd (DQ g1)) (Kj pe (DQ g2)) (CD (Lg (DQ g1)) sJ) w1 w2 q1 q2
theorem yf(cB:RDs X.K H ds xs)(fQ:RDs X.K H es ys)(r:Vals xs its)(r2:Vals ys ar) :
  ((List.range (min its.toArray.size ar.toArray.size)).all (fun j=>eqD (ds.getD j .non) (es.getD j .non))&&its.toArray.size==ar.toArray.size)=m9 ds es:=by
 have lx:=cB.length;have ly:=fQ.length;have l1:=r.length;have l2:=r2.length
 simp only[nF]
 by_cases hl:ds.length=es.length
 . rw[Lf hl];have:its.length=ar.length:=by lia
   rw[this,Nat.min_self,show ar.length=ds.length by lia];simp
 . rw[Le hl];have:(its.length==ar.length)=false:=by simp;lia
   rw[this,Bool.and_false]
theorem ye(cB:RDs X.K H ds xs)(fQ:RDs X.K H es ys)(r:Vals xs its)(r2:Vals ys ar)(hl:ds.length=es.length) :
  ((List.range its.toArray.size).all fun j=>eqD (ds.getD j .non) (es.getD j .non))=m9 ds es:=by
 have lx:=cB.length;have ly:=fQ.length;have l1:=r.length;have l2:=r2.length
 rw[Lf hl,nF,show its.length=ds.length by lia]
theorem kW(hu:A.units<cLine)(ih:Oy X H s A.in1 n)(hn:d.dep<=n+1)(sx:Shp X H s d x u)(sy:Shp X H s e y v):SeqAt.RcAt A s u v (eqD d e)/\SeqAt.RcNeAt A s u v (!eqD d e):=by
 cases sx with
 |non=>cases sy with
  |non=>exact⟨.none_none,.none_none⟩
  |bl _=>exact⟨.none_bool _,.none_bool _⟩
  |int _ _=>exact⟨.none_int _ _,.none_int _ _⟩
  |str _ _=>exact⟨.none_str _ _,.none_str _ _⟩
  |tup p2 h2 q2 r2 t2=>exact⟨.none_tuple t2 hu,.none_tuple t2 hu⟩
  |lst p2 h2 q2 r2 t2=>exact⟨.none_list t2 hu,.none_list t2 hu⟩
 |bl _=>cases sy with
  |non=>exact⟨.bool_none _,.bool_none _⟩
  |bl _=>exact⟨.bool_bool _ _,.bool_bool _ _⟩
  |int _ _=>exact⟨.bool_int _ _ _,.bool_int _ _ _⟩
  |str _ _=>exact⟨.bool_str _ _ _,.bool_str _ _ _⟩
  |tup p2 h2 q2 r2 t2=>exact⟨.bool_tuple _ t2 hu,.bool_tuple _ t2 hu⟩
  |lst p2 h2 q2 r2 t2=>exact⟨.bool_list _ t2 hu,.bool_list _ t2 hu⟩
 |int _ _=>cases sy with
  |non=>exact⟨.int_none _ _,.int_none _ _⟩
  |bl _=>exact⟨.int_bool _ _ _,.int_bool _ _ _⟩
  |int _ _=>exact⟨.int_int _ _ _ _,.int_int _ _ _ _⟩
  |str _ _=>exact⟨.int_str _ _ _ _,.int_str _ _ _ _⟩
  |tup p2 h2 q2 r2 t2=>exact⟨.int_tuple _ _ t2 hu,.int_tuple _ _ t2 hu⟩
  |lst p2 h2 q2 r2 t2=>exact⟨.int_list _ _ t2 hu,.int_list _ _ t2 hu⟩
 |str _ _=>cases sy with
  |non=>exact⟨.str_none _ _,.str_none _ _⟩
  |bl _=>exact⟨.str_bool _ _ _,.str_bool _ _ _⟩
  |int _ _=>exact⟨.str_int _ _ _ _,.str_int _ _ _ _⟩
  |str _ _=>exact⟨.str_str _ _ _ _,.str_str _ _ _ _⟩
  |tup p2 h2 q2 r2 t2=>exact⟨.str_tuple _ _ t2 hu,.str_tuple _ _ t2 hu⟩
  |lst p2 h2 q2 r2 t2=>exact⟨.str_list _ _ t2 hu,.str_list _ _ t2 hu⟩
 |tup p h q r t=>cases sy with
  |non=>exact⟨.tuple_none t hu,.tuple_none t hu⟩
  |bl _=>exact⟨.tuple_bool _ t hu,.tuple_bool _ t hu⟩
  |int _ _=>exact⟨.tuple_int _ _ t hu,.tuple_int _ _ t hu⟩
  |str _ _=>exact⟨.tuple_str _ _ t hu,.tuple_str _ _ t hu⟩
  |tup p2 h2 q2 r2 t2 => 
   simp only[D.dep]at hn
   have z:=Vc ih p p2 (Nat.le_of_succ_le_succ hn) q q2 r r2
   simp only[eqD]
   rw[<-yf q q2 r r2]
   exact⟨.tuples t t2 hu z,.tuples t t2 hu z⟩
  |lst p2 h2 q2 r2 t2=>exact⟨.tuple_list t t2 hu,.tuple_list t t2 hu⟩
 |lst p h q r t=>cases sy with
  |non=>exact⟨.list_none t hu,.list_none t hu⟩
  |bl _=>exact⟨.list_bool _ t hu,.list_bool _ t hu⟩
  |int _ _=>exact⟨.list_int _ _ t hu,.list_int _ _ t hu⟩
  |str _ _=>exact⟨.list_str _ _ t hu,.list_str _ _ t hu⟩
  |tup p2 h2 q2 r2 t2=>exact⟨.list_tuple t t2 hu,.list_tuple t t2 hu⟩
  |lst p2 h2 q2 r2 t2 => 
   rename_i ds _ xs its es _ ys ar
   simp only[D.dep]at hn
   have z:=Vc ih p p2 (Nat.le_of_succ_le_succ hn) q q2 r r2
   have lx:=q.length;have ly:=q2.length;have l1:=r.length;have l2:=r2.length
   simp only[eqD]
   by_cases hl:ds.length=es.length
   . have hsz:its.toArray.size=ar.toArray.size:=by simp;lia
     rw[<-ye q q2 r r2 hl];exact⟨.lists t t2 hsz hu z,.lists t t2 hsz hu z⟩
   . have hsz:(its.toArray.size != ar.toArray.size)=true:=by simp;lia
     rw[Le hl];exact⟨.lists_lengths t t2 hsz hu,.lists_lengths t t2 hsz hu⟩
def Do(I:Inv X pins σ H s):∀(n:Nat){A:Around}{d e:D}{x y:V}{u v:Value},d.pl=true->e.pl=true->d.dep<=n->A.units+n<cLine->RD X.K H d x->RD X.K H e y->RelV x u->RelV y v->SeqAt.EqAt A s u v (eqD d e):=by
 have key:∀(n:Nat){A:Around}{d e:D}{x y:V}{u v:Value},A.units<cLine->(∀m,m+1=n->Oy X H s A.in1 m)->d.pl=true->e.pl=true->d.dep<=n->RD X.K H d x->RD X.K H e y->RelV x u->RelV y v->SeqAt.EqAt A s u v (eqD d e):=by
  intro n A d e x y u v hu ih iF gS hn hx hy ru rv;have sx:=shp I iF hx ru;have sy:=shp I gS hy rv;have dc:∀{a b:Addr},u=.ref a->v=.ref b->x=.ref a->y=.ref b->1<=d.dep->SeqAt.EqAt A s u v (eqD d e):=fun {a b} eu ev ex ey h1=>by
   subst eu ev ex ey;by_cases bF:a=b
   . subst bF;rw[RD.inj iF gS hx hy,Bb _ gS];exact .same _
   . exact .of_refs bF (kW (n:=n - 1) hu (ih (n - 1) (by lia)) (by lia) sx sy).1
  cases sx with
  |non=>cases sy with
   |non=>exact .same _
   |bl _=>exact .none_bool _
   |int _ _=>exact .none_int _ _
   |str _ _=>exact .none_str _ _
   |tup p2 h2 q2 r2 t2=>exact .none_tuple t2 hu
   |lst p2 h2 q2 r2 t2=>exact .none_list t2 hu
  |bl _=>cases sy with
   |non=>exact .bool_none _
   |bl _=>exact .bool_bool _ _
   |int _ _=>exact .bool_int _ _ _
   |str _ _=>exact .bool_str _ _ _
   |tup p2 h2 q2 r2 t2=>exact .bool_tuple _ t2 hu
   |lst p2 h2 q2 r2 t2=>exact .bool_list _ t2 hu
  |int _ _=>cases sy with
   |non=>exact .int_none _ _
   |bl _=>exact .int_bool _ _ _
   |int _ _=>exact .int_int _ _ _ _
   |str _ _=>exact .int_str _ _ _ _
   |tup p2 h2 q2 r2 t2=>exact .int_tuple _ _ t2 hu
   |lst p2 h2 q2 r2 t2=>exact .int_list _ _ t2 hu
  |str _ _=>cases sy with
   |non=>exact .str_none _ _
   |bl _=>exact .str_bool _ _ _
   |int _ _=>exact .str_int _ _ _ _
   |str _ _=>exact .str_str _ _ _ _
   |tup p2 h2 q2 r2 t2=>exact .str_tuple _ _ t2 hu
   |lst p2 h2 q2 r2 t2=>exact .str_list _ _ t2 hu
  |tup p h q r t=>cases sy with
   |non=>exact .tuple_none t hu
   |bl _=>exact .tuple_bool _ t hu
   |int _ _=>exact .tuple_int _ _ t hu
   |str _ _=>exact .tuple_str _ _ t hu
   |tup p2 h2 q2 r2 t2=>exact dc rfl rfl rfl rfl (by simp only[D.dep];exact Nat.succ_pos _)
   |lst p2 h2 q2 r2 t2=>exact .tuple_list t t2 hu
  |lst p h q r t=>cases sy with
   |non=>exact .list_none t hu
   |bl _=>exact .list_bool _ t hu
   |int _ _=>exact .list_int _ _ t hu
   |str _ _=>exact .list_str _ _ t hu
   |tup p2 h2 q2 r2 t2=>exact .list_tuple t t2 hu
   |lst p2 h2 q2 r2 t2=>exact dc rfl rfl rfl rfl (by simp only[D.dep];exact Nat.succ_pos _)
 intro n;induction n with
 |zero=>exact fun p q hn hu=>key 0 (by lia) (fun m z=>nomatch z) p q hn
 |succ n ih=>exact fun {A d e x y u v} p q hn hu=>key (n+1) (by lia) (fun m z=>by cases z;exact fun p q hn=>ih p q hn (by show A.units+1+n<cLine;lia)) p q hn
def Ss(I:Inv X pins σ H s)(iF:d.pl=true)(gS:e.pl=true)(hn:d.dep<=n)(hu:A.units+1+n<cLine)(hx:RD X.K H d x)(hy:RD X.K H e y)(ru:RelV x u)(rv:RelV y v):SeqAt.RcAt A s u v (eqD d e)/\SeqAt.RcNeAt A s u v (!eqD d e):=
 kW (n:=n) (by lia) (fun p q h=>Do I n p q h (by show A.units+1+n<cLine;lia)) (by lia) (shp I iF hx ru) (shp I gS hy rv)
end
section
variable {X:Cx}
open Classical in
def hitD(K:Frag)(H:Hp)(d:D)(u:Value):Bool:=match qB u with
 |some v=>decide (∃e,e.pl=true/\RD K H e v/\eqD e d=true)
 |none=>false
open Classical in
def Vb{K:Frag}{H:Hp}{d e:D}{y:V}{u:Value}(pe:e.pl=true)(r:RelV y u)(h:RD K H e y):hitD K H d u=eqD e d:=by unfold hitD;rw[r.abs];dsimp only;rw[FB];rw[decide_eq_true_iff];exact⟨fun⟨e',p',h',q⟩=>by rw[RD.inj pe p' h h'];exact q,fun q=>⟨e,pe,h,q⟩⟩
theorem Ba{K:Frag}{H:Hp}{d:D}:∀{es:List D}{xs:List V}{us:List Value},pls es=true->RDs K H es xs->Vals xs us->us.any (hitD K H d)=es.any fun e=>eqD e d
 | [],_,_,_,h,r=>by simp only[RDs]at h;subst h;cases r;rfl
 |e::es,_,_,p,h,r=>by
  simp only[RDs]at h;simp only[pls,gR]at p;obtain⟨x,xs,rfl,h1,h2⟩:=h;cases r with
  |cons r1 r2=>rw[List.any_cons,List.any_cons,Vb p.1 r1 h1,Ba p.2 h2 r2]
theorem As{A:Around}{pins:List (Addr×Obj)}{σ:St}{H:Hp}{s:Shared}(I:Inv X pins σ H s)(hu:A.units+1+20<cLine){d:D}{x:V}{v:Value}(pd:d.pl=true)(hx:RD X.K H d x)(rx:RelV x v):∀{es:List D}{xs:List V}{us:List Value},
  pls es=true->RDs X.K H es xs->Vals xs us->j0 es<=20->∀u∈us,SeqAt.EqAt A.in1 s u v (hitD X.K H d u)
 | [],_,_,_,h,r,_=>by simp only[RDs]at h;subst h;cases r;intro u hu;cases hu
 |e::es,_,_,p,h,r,hd=>by
  simp only[RDs]at h;simp only[pls,gR]at p;obtain⟨y,xs,rfl,h1,h2⟩:=h;simp only[j0]at hd;cases r with
  |cons r1 r2=>
   intro u hm
   rcases eH.mp hm with z |hm
   . subst z;rw[Vb p.1 r1 h1];exact Do I 20 p.1 pd (by lia) (by show A.units+1+20<cLine;lia) h1 hx r1 rx
   . exact As I hu pd hx rx p.2 h2 r2 (by lia) u hm
end
structure Ex where
 cls:String
 fs:List D
inductive R (α:Type) where
 |ok (a:α) |er (x:Ex) |st
noncomputable def R.bind{α β:Type}(r:R α)(f:α->R β):R β:=match r with
 | .ok a=>f a
 | .er x=>.er x
 | .st=>.st
def Rk{α:Type}(EX:Ex->Prop)(r:R α)(k:α->Prop):Prop:=match r with
 | .ok a=>k a
 | .er x=>EX x
 | .st=>False
section
variable {α β:Type}{EX:Ex->Prop}
noncomputable def R.of(o:Option α):R α:=match o with
 |some a=>.ok a
 |none=>.st
def R.of_some(a:α):R.of (some a)=R.ok a:=rfl
def Rk.of(h:Rk EX (R.of o) k):∃a,o=some a/\k a:=by
 cases o with
 |none=>exact h.elim
 |some a=>exact⟨a,rfl,h⟩
def R.bind_ok(a:α)(f:α->R β):(R.ok a).bind f=f a:=rfl
def Rk.bind:Rk EX (r.bind f) k=Rk EX r fun a=>Rk EX (f a) k:=by cases r<;>rfl
def Rk.mono(h:Rk EX r k)(hk:∀a,k a->k' a):Rk EX r k':=by
 cases r with
 |ok a=>exact hk a h
 |er x=>exact h
 |st=>exact h
end
def NoT(o:Option HO):Prop:=o=none\/∃xs,o=some (.tup xs)
def Ext(H0 H aa H':Hp):Prop:=Same H0 aa/\Same aa H'/\∀a,H a≠none->H0 a=none->NoT (aa a)
def Ext.refl(h:Same H0 H):Ext H0 H H0 H:=⟨Same.refl _,h,fun _ _ e=>.inl e⟩
def Ext.nt(e:Ext H0 H aa H')(h:H a≠none)(n:NoT (H0 a)):NoT (aa a):=by
 rcases n with n |⟨xs,n⟩
 . exact e.2.2 a h n
 . exact .inr ⟨xs,e.1 _ _ n⟩
def Ext.no(e:Ext H0 H aa H')(s:Same H H')(h:H a=some o)(ni:¬Imm o)(h0:H0 a=none):aa a=none:=by
 rcases e.2.2 a (by rw[h];exact fun z=>nomatch z) h0 with z |⟨xs,z⟩
 . exact z
 . have:=e.2.1 _ _ z;rw[s _ _ h]at this;cases this;exact absurd trivial ni
def yd(h:o=some x):o≠none:=by rw[h];exact fun z=>nomatch z
def Same.ne(h:Same H H')(n:H a≠none):H' a≠none:=by
 cases e:H a with
 |none=>exact absurd e n
 |some o=>exact yd (h a o e)
def Ext.trans(s:Same H H')(a:Ext H0 H aa H')(b:Ext aa H' om fP):Ext H0 H om fP:=
 ⟨a.1.trans b.1,b.2.1,fun c h1 h2=>b.nt (s.ne h1) (a.2.2 c h1 h2)⟩
def Ext.grow(a:Ext H0 H aa H')(s:Same H' fP):Ext H0 H aa fP:=⟨a.1,a.2.1.trans s,a.2.2⟩
def Ext.new(h:Same H0 H)(hp:H p=none):Ext H0 H (upd H0 p o) (upd H p o):=by
 have h0:H0 p=none:=by
  cases e:H0 p with
  |none=>rfl
  |some u=>rw[h p u e]at hp;cases hp
 refine⟨Same.upd_new h0,fun b u e=>?_,fun a h1 h2=>?_⟩
 . by_cases hb:b=p
   . subst hb;rw[k7]at e⊢;exact e
   . rw[i6 hb]at e⊢;exact h b u e
 . have ha:a≠p:=fun z=>h1 (by rw[z];exact hp)
   rw[i6 ha];exact .inl h2
def OB(K:Frag)(H0 H:Hp)(a:Addr):D->Prop
 | .lst ds=>∃xs,H a=some (.lst xs)/\RDs K H0 ds xs
 | .dk ks ds=>∃xs,H a=some (.dK (ks.zip xs))/\ks.length=xs.length/\RDs K H0 ds xs
 | .dt ks ds=>∃xs,H a=some (.dT (ks.zip xs))/\ks.length=xs.length/\RDs K H0 ds xs
 | .dn ks ds=>∃qs xs o,H a=some (.ext (dnP a qs xs o))/\qs.map (·.1)=ks/\DN H0 a qs/\RDs K H0 ds xs
 | .dp hf n=>∃qs xs o,H a=some (.ext (dpP hf a qs xs o))/\DP K H0 a qs xs/\qs.length<=n
 |_=>False
section
variable {K:Frag}{H0 H aa H':Hp}{a:Addr}{d:D}
def OB.some(h:OB K H0 H a d):∃o,H a=some o/\¬Imm o:=by
 cases d<;>simp only[OB]at h
 . obtain⟨xs,h,_⟩:=h;exact⟨_,h,fun z=>z⟩
 . obtain⟨xs,h,_⟩:=h;exact⟨_,h,fun z=>z⟩
 . obtain⟨xs,h,_⟩:=h;exact⟨_,h,fun z=>z⟩
 . obtain⟨qs,xs,o,h,_⟩:=h;exact⟨_,h,fun z=>z.1 _ _ _ _ rfl⟩
 . obtain⟨qs,xs,o,h,_⟩:=h;exact⟨_,h,fun z=>z.2 _ _ _ _ _ rfl⟩
def OB.mono(h:OB K H0 H a d)(s0:Same H0 aa)(s:Same H H'):OB K aa H' a d:=by
 cases d<;>simp only[OB]at h⊢
 . obtain⟨xs,h,r⟩:=h;exact⟨_,s _ _ h,r.mono s0⟩
 . obtain⟨xs,h,l,r⟩:=h;exact⟨_,s _ _ h,l,r.mono s0⟩
 . obtain⟨xs,h,l,r⟩:=h;exact⟨_,s _ _ h,l,r.mono s0⟩
 . obtain⟨qs,xs,o,h,k,n,r⟩:=h;exact⟨qs,xs,o,s _ _ h,k,n.tk fun b ys q=>s0 _ _ q,r.mono s0⟩
 . obtain⟨qs,xs,o,h,k,r⟩:=h;exact⟨qs,xs,o,s _ _ h,k.tk s0.tk,r⟩
def OB.at(h:OB K H0 H a d)(e:H' a=H a):OB K H0 H' a d:=by
 cases d<;>simp only[OB]at h⊢
 . obtain⟨xs,h,r⟩:=h;exact⟨_,e.trans h,r⟩
 . obtain⟨xs,h,l,r⟩:=h;exact⟨_,e.trans h,l,r⟩
 . obtain⟨xs,h,l,r⟩:=h;exact⟨_,e.trans h,l,r⟩
 . obtain⟨qs,xs,o,h,k,n,r⟩:=h;exact⟨qs,xs,o,e.trans h,k,n,r⟩
 . obtain⟨qs,xs,o,h,k,r⟩:=h;exact⟨qs,xs,o,e.trans h,k,r⟩
def OB.tk(h:OB K H0 H a d)(n:d.shal=true)(t:TK H0 aa):OB K aa H a d:=by
 cases d<;>simp only[OB,D.shal]at h n⊢
 . obtain⟨xs,h,r⟩:=h;exact⟨_,h,r.tk t n⟩
 . obtain⟨xs,h,l,r⟩:=h;exact⟨_,h,l,r.tk t n⟩
 . obtain⟨xs,h,l,r⟩:=h;exact⟨_,h,l,r.tk t n⟩
 . obtain⟨qs,xs,o,h,k,m,r⟩:=h;exact⟨qs,xs,o,h,k,m.tk fun b ys q=>t _ _ trivial q,r.tk t n⟩
 . obtain⟨qs,xs,o,h,k,r⟩:=h;exact⟨qs,xs,o,h,k.tk t,r⟩
def OB.rd(h:OB K H0 H a d)(s0:Same H0 aa)(e:aa a=H a):RD K aa d (.ref a):=by
 cases d<;>simp only[OB,RD]at h⊢
 . obtain⟨xs,h,r⟩:=h;exact⟨_,_,rfl,e.trans h,r.mono s0⟩
 . obtain⟨xs,h,l,r⟩:=h;exact⟨_,_,rfl,e.trans h,l,r.mono s0⟩
 . obtain⟨xs,h,l,r⟩:=h;exact⟨_,_,rfl,e.trans h,l,r.mono s0⟩
 . obtain⟨qs,xs,o,h,k,n,r⟩:=h;exact⟨_,qs,xs,o,rfl,e.trans h,k,n.tk fun b ys q=>s0 _ _ q,r.mono s0⟩
 . obtain⟨qs,xs,o,h,k,r⟩:=h;exact⟨_,qs,xs,o,rfl,e.trans h,k.tk s0.tk,r⟩
end
def Out(K:Frag)(fr:Bool)(H0 H:Hp)(d:D)(v:V)(H':Hp):Prop:=
 Same H H'/\∃aa,Ext H0 H aa H'/\(if fr=true then ∃p,v=.ref p/\H p=none/\aa p=none/\OB K aa H' p d else RD K aa d v)
section
variable {K:Frag}{fr:Bool}{H0 H aa H':Hp}{d:D}{v:V}
def Out.val(s:Same H H')(e:Ext H0 H aa H')(r:RD K aa d v):Out K false H0 H d v H':=⟨s,aa,e,by rw[ξ θ];exact r⟩
def Out.pure(s:Same H0 H)(r:RD K H0 d v):Out K false H0 H d v H:=.val (Same.refl _) (.refl s) r
def Out.fresh(s:Same H H')(e:Ext H0 H aa H')(hp:H p=none)(fR:aa p=none)(o:OB K aa H' p d):Out K true H0 H d (.ref p) H':=⟨s,aa,e,by rw[ζ rfl];exact⟨p,rfl,hp,fR,o⟩⟩
def Out.rd(o:Out K false H0 H d v H'):Same H H'/\∃aa,Ext H0 H aa H'/\RD K aa d v:=by obtain⟨s,aa,e,r⟩:=o;rw[ξ θ]at r;exact⟨s,aa,e,r⟩
theorem Out.weak(o:Out K fr H0 H d v H'):Out K false H0 H d v H':=by
 cases fr with
 |false=>exact o
 |true=>
  obtain⟨s,aa,e,r⟩:=o
  rw[ζ rfl]at r
  obtain⟨p,rfl,hp,fR,ob⟩:=r
  obtain⟨u,hu,_⟩:=ob.some
  have e2:Ext H0 H (upd aa p u) H':=by
   refine⟨e.1.trans (Same.upd_new fR),fun b w q=>?_,fun a h1 h2=>?_⟩
   . by_cases hb:b=p
     . subst hb;rw[k7]at q;cases q;exact hu
     . rw[i6 hb]at q;exact e.2.1 b w q
   . rw[i6 (fun z=>h1 (by rw[z];exact hp))];exact e.2.2 a h1 h2
  exact .val s e2 (ob.rd (Same.upd_new fR) (by rw[k7,hu]))
theorem Out.after(s:Same H H1)(e:Ext H0 H ao H1)(o:Out K fr ao H1 d v H'):Out K fr H0 H d v H':=by
 obtain⟨s',aa,e',r⟩:=o;refine⟨s.trans s',aa,e.trans s e',?_⟩;cases fr with
 |false=>exact r
 |true=>
  rw[ζ rfl]at r⊢
  obtain⟨p,rfl,hp,r⟩:=r
  refine⟨p,rfl,?_,r⟩
  cases q:H p with
  |none=>rfl
  |some u=>rw[s p u q]at hp;cases hp
end
abbrev DE:=List (Option D)
def RE(K:Frag)(H:Hp)(ρ:DE)(σ:St):Prop:=ρ.length=σ.length/\∀(i:Nat) d,ρ[i]?=some (some d)->∃v,σ[i]?=some (some v)/\RD K H d v
def RE.mono{K:Frag}{H H':Hp}{ρ:DE}{σ:St}(h:RE K H ρ σ)(s:Same H H'):RE K H' ρ σ:=⟨h.1,fun i d e=>by obtain⟨v,h1,h2⟩:=h.2 i d e;exact⟨v,h1,h2.mono s⟩⟩
structure XW where
 hb:Hp
 p:Ex->Hp->Prop
abbrev F0:XW:=⟨fun _=>none,fun _ _=>False⟩
def F0.same(H:Hp):Same F0.hb H:=fun _ _ z=>nomatch z
def XW.at(W:XW)(x:Ex):Prop:=∀H',Same W.hb H'->W.p x H'
def TEd(K:Frag)(EX:XW)(fr:Bool)(f:DE->R D):TE:=fun σ H Q=>Same EX.hb H/\∃ρ H0,Same H0 H/\RE K H0 ρ σ/\Rk EX.at (f ρ) fun d=>∀v H',Out K fr H0 H d v H'->Q v H'
def TAd(K:Frag)(EX:XW)(f:DE->R (List D)):TA:=fun σ H Q=>Same EX.hb H/\∃ρ H0,Same H0 H/\RE K H0 ρ σ/\Rk EX.at (f ρ) fun ds=>∀vs H' aa,Same H H'->Ext H0 H aa H'->RDs K aa ds vs->Q vs H'
def TTd(K:Frag)(EX:XW)(f:DE->R Bool):TT:=fun σ H Q=>Same EX.hb H/\∃ρ H0,Same H0 H/\RE K H0 ρ σ/\Rk EX.at (f ρ) fun b=>∀H',Same H H'->Q b H'
noncomputable def a7(i:Nat):DE->R D:=fun ρ=>match ρ[i]? with |some (some d)=>.ok d |_=>.st
noncomputable def eC(d:D):DE->R D:=fun _=>.ok d
def eOp(o:D->D->Option D)(fa fb:DE->R D):DE->R D:=fun ρ=>(fa ρ).bind fun x=>(fb ρ).bind fun y=>R.of (o x y)
def eUn(o:D->Option D)(fa:DE->R D):DE->R D:=fun ρ=>(fa ρ).bind fun x=>R.of (o x)
noncomputable def b7:DE->R (List D):=fun _=>.ok []
def a8(f:DE->R D)(fs:DE->R (List D)):DE->R (List D):=fun ρ=>(f ρ).bind fun d=>(fs ρ).bind fun ds=>.ok (d::ds)
def d8(m:List D->R D)(fs:DE->R (List D)):DE->R D:=fun ρ=>(fs ρ).bind m
def eCB(m:List D->Option D)(fs:DE->R (List D)):DE->R D:=fun ρ=>(fs ρ).bind fun ds=>R.of (m ds)
def l8(fs:DE->R (List D)):DE->R D:=fun ρ=>(fs ρ).bind fun ds=>if ds.length<=1000 then .ok (.tup ds) else .st
def n9(fs:DE->R (List D)):DE->R D:=fun ρ=>(fs ρ).bind fun ds=>if ds.length<=1000 then .ok (.lst ds) else .st
def eIf(t:DE->R Bool)(fa fb:DE->R D):DE->R D:=fun ρ=>(t ρ).bind fun b=>if b=true then fa ρ else fb ρ
def D3(t u:DE->R Bool):DE->R Bool:=fun ρ=>(t ρ).bind fun b=>if b=true then u ρ else .ok false
def bOr(t u:DE->R Bool):DE->R Bool:=fun ρ=>(t ρ).bind fun b=>if b=true then .ok true else u ρ
def o9(t:DE->R Bool):DE->R Bool:=fun ρ=>(t ρ).bind fun b=>.ok (!b)
noncomputable def asB:D->Option Bool
 | .bl b=>some b
 |_=>none
def e8(tr:D->Option Bool)(f:DE->R D):DE->R Bool:=fun ρ=>(f ρ).bind fun d=>R.of (tr d)
def B9(fa fb:DE->R D):DE->R D:=fun ρ=>(fa ρ).bind fun x=>(R.of (asB x)).bind fun b=>if b=true then fb ρ else .ok (.bl false)
def eOr(fa fb:DE->R D):DE->R D:=fun ρ=>(fa ρ).bind fun x=>(R.of (asB x)).bind fun b=>if b=true then .ok (.bl true) else fb ρ
def OpD(K:Frag)(fr:Bool)(o:D->D->Option D)(r:R2):Prop:=∀(H0 H:Hp)(x y:V)(d e z:D)(Q:VK),Same H0 H->RD K H0 d x->RD K H0 e y->o d e=some z->(∀v H',Out K fr H0 H z v H'->Q v H')->r x y H Q
def UnD(K:Frag)(fr:Bool)(o:D->Option D)(r:V->Hp->VK->Prop):Prop:=∀(H0 H:Hp)(x:V)(d z:D)(Q:VK),Same H0 H->RD K H0 d x->o d=some z->(∀v H',Out K fr H0 H z v H'->Q v H')->r x H Q
def v8(K:Frag)(fr:Bool)(m:List D->Option D)(r:List V->Hp->VK->Prop):Prop:=∀(H0 H:Hp)(xs:List V)(ds:List D)(z:D)(Q:VK),Same H0 H->RDs K H0 ds xs->m ds=some z->(∀v H',Out K fr H0 H z v H'->Q v H')->r xs H Q
def Ox(K:Frag)(tr:D->Option Bool)(r:V->Hp->(Bool->Hp->Prop)->Prop):Prop:=∀(H0 H:Hp)(x:V)(d:D)(b:Bool)(Q:Bool->Hp->Prop),Same H0 H->RD K H0 d x->tr d=some b->Q b H->r x H Q
section
variable {K:Frag}{EX:XW}{fr:Bool}{σ:St}{H:Hp}{Q:VK}
def TEd.go(sx:Same EX.hb H)(s:Same H0 H)(e:RE K H0 ρ σ)(h:Rk EX.at (f ρ) k)(hk:∀d,k d->∀v H' aa,Same H H'->Ext H0 H aa H'->RD K aa d v->Q v H'):TEd K EX false f σ H Q:=
 ⟨sx,ρ,H0,s,e,h.mono fun d z v H' o=>by obtain⟨s',aa,e',r⟩:=o.rd;exact hk d z v H' aa s' e' r⟩
def TAd.go{f:DE->R (List D)}{ρ:DE}{H0:Hp}{k:List D->Prop}{Q:List V->Hp->Prop}(sx:Same EX.hb H)(s:Same H0 H)(e:RE K H0 ρ σ)(h:Rk EX.at (f ρ) k)(hk:∀d,k d->∀v H' aa,Same H H'->Ext H0 H aa H'->RDs K aa d v->Q v H'):TAd K EX f σ H Q:=
 ⟨sx,ρ,H0,s,e,h.mono fun d z v H' aa s' e' r=>hk d z v H' aa s' e' r⟩
def TTd.go{f:DE->R Bool}{ρ:DE}{H0:Hp}{k:Bool->Prop}{Q:Bool->Hp->Prop}(sx:Same EX.hb H)(s:Same H0 H)(e:RE K H0 ρ σ)(h:Rk EX.at (f ρ) k)(hk:∀b,k b->∀H',Same H H'->Q b H'):TTd K EX f σ H Q:=
 ⟨sx,ρ,H0,s,e,h.mono fun b z H' s'=>hk b z H' s'⟩
def TEd.weak(h:TEd K EX false f σ H Q):TEd K EX fr f σ H Q:=by obtain⟨sx,ρ,H0,s,e,h⟩:=h;exact⟨sx,ρ,H0,s,e,h.mono fun d z v H' o=>z v H' o.weak⟩
def y3n(h:TEd K EX false (a7 i) σ H Q):∃v,σ[i]?=some (some v)/\Q v H:=by
 obtain⟨sx,ρ,H0,s,e,h⟩:=h;unfold a7 at h;split at h
 . rename_i d q;obtain⟨v,h1,h2⟩:=e.2 i d q;exact⟨v,h1,h v H (.pure s h2)⟩
 . exact h.elim
def Eg(hd:∀H0,RD K H0 d v)(h:TEd K EX false (eC d) σ H Q):tC v σ H Q:=by obtain⟨sx,ρ,H0,s,e,h⟩:=h;exact h v H (.pure s (hd _))
def Fy(ho:OpD K fr o r)(h:TEd K EX fr (eOp o fa fb) σ H Q):tOp r (TEd K EX false fa) (TEd K EX false fb) σ H Q:=by
 obtain⟨sx,ρ,H0,s,e,h⟩:=h;unfold eOp at h;rw[Rk.bind]at h;refine TEd.go sx s e h fun d h v H1 ao s1 e1 r1=>?_
 rw[Rk.bind]at h;refine TEd.go (sx.trans s1) e1.2.1 (e.mono e1.1) h fun d2 h v2 H2 aM s2 e2 r2=>?_
 obtain⟨z,hz,h⟩:=h.of;exact ho aM H2 v v2 d d2 z Q e2.2.1 (r1.mono e2.1) r2 hz fun w H3 o=>h w H3 (o.after (s1.trans s2) (e1.trans s1 e2))
def kU(ho:UnD K fr o r)(h:TEd K EX fr (eUn o fa) σ H Q):tUn r (TEd K EX false fa) σ H Q:=by
 obtain⟨sx,ρ,H0,s,e,h⟩:=h;unfold eUn at h;rw[Rk.bind]at h;refine TEd.go sx s e h fun d h v H1 ao s1 e1 r1=>?_
 obtain⟨z,hz,h⟩:=h.of;exact ho ao H1 v d z Q e1.2.1 r1 hz fun w H3 o=>h w H3 (o.after s1 e1)
def Pm{Q:List V->Hp->Prop}(h:TAd K EX b7 σ H Q):G4 σ H Q:=by obtain⟨sx,ρ,H0,s,e,h⟩:=h;exact h [] H H0 (Same.refl _) (.refl s) .nil
def Jn{Q:List V->Hp->Prop}{f:DE->R D}{fs:DE->R (List D)}(h:TAd K EX (a8 f fs) σ H Q):C4 (TEd K EX false f) (TAd K EX fs) σ H Q:=by
 obtain⟨sx,ρ,H0,s,e,h⟩:=h;unfold a8 at h;rw[Rk.bind]at h;refine TEd.go sx s e h fun d h v H1 ao s1 e1 r1=>?_
 rw[Rk.bind]at h;refine TAd.go (sx.trans s1) e1.2.1 (e.mono e1.1) h fun ds h vs H2 aM s2 e2 r2=>?_
 exact h (v::vs) H2 aM (s1.trans s2) (e1.trans s1 e2) (.cons (r1.mono e2.1) r2)
def Ow(hm:v8 K fr m r)(h:TEd K EX fr (eCB m fs) σ H Q):tCB r (TAd K EX fs) σ H Q:=by
 obtain⟨sx,ρ,H0,s,e,h⟩:=h;unfold eCB at h;rw[Rk.bind]at h;refine TAd.go sx s e h fun ds h vs H1 ao s1 e1 r1=>?_
 obtain⟨z,hz,h⟩:=h.of;exact hm ao H1 vs ds z Q e1.2.1 r1 hz fun w H3 o=>h w H3 (o.after s1 e1)
def Va(h:n<=1000):n<=sizeLine:=CD h (by decide)
def y3p(h:TEd K EX false (l8 fs) σ H Q):qu (TAd K EX fs) σ H Q:=by
 obtain⟨sx,ρ,H0,s,e,h⟩:=h;unfold l8 at h;rw[Rk.bind]at h;refine TAd.go sx s e h fun ds h vs H1 ao s1 e1 r1=>?_
 split at h
 . rename_i hl;refine⟨Va (by rw[<-r1.length];exact hl),fun p hp=>h _ _ (.val (s1.trans (Same.upd_new hp)) (e1.trans s1 (.new e1.2.1 hp)) ?_)⟩;have sL:ao p=none:=by
    cases q:ao p with
    |none=>rfl
    |some u=>rw[e1.2.1 p u q]at hp;cases hp
   simp only[RD];exact⟨p,vs,rfl,k7,r1.mono (Same.upd_new sL)⟩
 . exact h.elim
def Same.none(s:Same H H')(h:H' p=none):H p=none:=by
 cases q:H p with
 |none=>rfl
 |some u=>rw[s p u q]at h;cases h
def Out.new(s:Same H0 H)(hp:H p=none)(eU:∀H',H' p=some o->OB K H0 H' p d):Out K true H0 H d (.ref p) (upd H p o):=
 .fresh (Same.upd_new hp) ((Ext.refl s).grow (Same.upd_new hp)) hp (s.none hp) (eU _ k7)
def y3q(h:TEd K EX true (n9 fs) σ H Q):qt (TAd K EX fs) σ H Q:=by
 obtain⟨sx,ρ,H0,s,e,h⟩:=h;unfold n9 at h;rw[Rk.bind]at h;refine TAd.go sx s e h fun ds h vs H1 ao s1 e1 r1=>?_
 split at h
 . rename_i hl;refine⟨Va (by rw[<-r1.length];exact hl),fun p hp=>h _ _ (Out.after s1 e1 (.new e1.2.1 hp fun H' hH=>?_))⟩;simp only[OB];exact⟨vs,hH,r1⟩
 . exact h.elim
def y7z(h:TEd K EX fr (eIf t fa fb) σ H Q):tIf (TTd K EX t) (TEd K EX fr fa) (TEd K EX fr fb) σ H Q:=by
 obtain⟨sx,ρ,H0,s,e,h⟩:=h;unfold eIf at h;rw[Rk.bind]at h;refine TTd.go sx s e h fun b h H1 s1=>?_
 have fin:∀{f:DE->R D},Rk EX.at (f ρ) (fun d=>∀v H',Out K fr H0 H d v H'->Q v H')->TEd K EX fr f σ H1 Q:=fun {f} h=>
  ⟨sx.trans s1,ρ,H0,s.trans s1,e,h.mono fun d z v H' o=>z v H' (o.after s1 ((Ext.refl s).grow s1))⟩
 cases b with
 |true=>exact fin h
 |false=>exact fin h
def vK{t u:DE->R Bool}{Q:Bool->Hp->Prop}(h:TTd K EX (D3 t u) σ H Q):qD (TTd K EX t) (TTd K EX u) σ H Q:=by
 obtain⟨sx,ρ,H0,s,e,h⟩:=h;unfold D3 at h;rw[Rk.bind]at h;refine TTd.go sx s e h fun b h H1 s1=>?_
 cases b with
 |true=>exact TTd.go (sx.trans s1) (s.trans s1) e h fun b h H' s'=>h H' (s1.trans s')
 |false=>exact h H1 s1
def y3r{t u:DE->R Bool}{Q:Bool->Hp->Prop}(h:TTd K EX (bOr t u) σ H Q):tOr (TTd K EX t) (TTd K EX u) σ H Q:=by
 obtain⟨sx,ρ,H0,s,e,h⟩:=h;unfold bOr at h;rw[Rk.bind]at h;refine TTd.go sx s e h fun b h H1 s1=>?_
 cases b with
 |true=>exact h H1 s1
 |false=>exact TTd.go (sx.trans s1) (s.trans s1) e h fun b h H' s'=>h H' (s1.trans s')
def vJ{t:DE->R Bool}{Q:Bool->Hp->Prop}(h:TTd K EX (o9 t) σ H Q):qC (TTd K EX t) σ H Q:=by obtain⟨sx,ρ,H0,s,e,h⟩:=h;unfold o9 at h;rw[Rk.bind]at h;exact TTd.go sx s e h fun b h H1 s1=>h H1 s1
end
noncomputable def y80(r:V->Hp->(Bool->Hp->Prop)->Prop)(t:TE):TT:=fun σ H Q=>t σ H fun x H'=>r x H' Q
def X7(K:Frag)(EX:XW)(g:D->DE->R D):V->TE:=fun x σ H Q=>Same EX.hb H/\∃d ρ H0,Same H0 H/\RE K H0 ρ σ/\RD K H0 d x/\Rk EX.at (g d ρ) fun z=>∀v H',Out K false H0 H z v H'->Q v H'
def Y5(K:Frag)(EX:XW)(g:D->DE->R Bool):V->TT:=fun x σ H Q=>Same EX.hb H/\∃d ρ H0,Same H0 H/\RE K H0 ρ σ/\RD K H0 d x/\Rk EX.at (g d ρ) fun b=>∀H',Same H H'->Q b H'
def Cw(o:D->D->Option D)(fb:DE->R D):D->DE->R D:=fun d ρ=>(fb ρ).bind fun y=>R.of (o d y)
def Z2(o:D->D->Option D)(fb:DE->R D)(g:D->DE->R D):D->DE->R D:=fun d ρ=>(fb ρ).bind fun y=>(R.of (o d y)).bind fun z=>(R.of (asB z)).bind fun b=>if b=true then g y ρ else .ok (.bl false)
def Ak(o:D->D->Option D)(fb:DE->R D):D->DE->R Bool:=fun d ρ=>(fb ρ).bind fun y=>(R.of (o d y)).bind fun z=>R.of (asB z)
def Aj(o:D->D->Option D)(fb:DE->R D)(g:D->DE->R Bool):D->DE->R Bool:=fun d ρ=>(fb ρ).bind fun y=>(R.of (o d y)).bind fun z=>(R.of (asB z)).bind fun b=>if b=true then g y ρ else .ok false
def Cb(fa:DE->R D)(g:D->DE->R D):DE->R D:=fun ρ=>(fa ρ).bind fun x=>g x ρ
def Y0(fa:DE->R D)(g:D->DE->R Bool):DE->R Bool:=fun ρ=>(fa ρ).bind fun x=>g x ρ
def V2(h:asB d=some b):d=.bl b:=by cases d<;>simp[asB]at h;subst h;rfl
def RD.bl{K:Frag}{H:Hp}{b:Bool}{v:V}(h:RD K H (.bl b) v):v=.bl b:=by simpa only [RD] using h
section
variable {K:Frag}{EX:XW}{σ:St}{H:Hp}{Q:VK}{QB:Bool->Hp->Prop}
def y3s(h:TEd K EX false (B9 fa fb) σ H Q):Pu (TEd K EX false fa) (TEd K EX false fb) σ H Q:=by
 obtain⟨sx,ρ,H0,s,e,h⟩:=h;unfold B9 at h;rw[Rk.bind]at h;refine TEd.go sx s e h fun d h v H1 ao s1 e1 r1=>?_
 rw[Rk.bind]at h;obtain⟨b,hb,h⟩:=h.of;cases V2 hb;cases r1.bl;cases b with
 |true=>exact TEd.go (sx.trans s1) e1.2.1 (e.mono e1.1) h fun d h v H2 aM s2 e2 r2=>h v H2 (.val (s1.trans s2) (e1.trans s1 e2) r2)
 |false=>exact h _ H1 (.val s1 e1 (by simp only[RD]))
def y81(h:TEd K EX false (eOr fa fb) σ H Q):qc (TEd K EX false fa) (TEd K EX false fb) σ H Q:=by
 obtain⟨sx,ρ,H0,s,e,h⟩:=h;unfold eOr at h;rw[Rk.bind]at h;refine TEd.go sx s e h fun d h v H1 ao s1 e1 r1=>?_
 rw[Rk.bind]at h;obtain⟨b,hb,h⟩:=h.of;cases V2 hb;cases r1.bl;cases b with
 |true=>exact h _ H1 (.val s1 e1 (by simp only[RD]))
 |false=>exact TEd.go (sx.trans s1) e1.2.1 (e.mono e1.1) h fun d h v H2 aM s2 e2 r2=>h v H2 (.val (s1.trans s2) (e1.trans s1 e2) r2)
def y3t(ht:Ox K tr r)(h:TTd K EX (e8 tr fa) σ H QB):y80 r (TEd K EX false fa) σ H QB:=by
 obtain⟨sx,ρ,H0,s,e,h⟩:=h;unfold e8 at h;rw[Rk.bind]at h;refine TEd.go sx s e h fun d h v H1 ao s1 e1 r1=>?_
 obtain⟨b,hb,h⟩:=h.of;exact ht ao H1 v d b QB e1.2.1 r1 hb (h H1 s1)
def vI(ht:Ox K tr r)(h:TEd K EX false (eUn (fun d=>(tr d).map fun b=>.bl (!b)) fa) σ H Q) :
  (fun σ H Q=>(TEd K EX false fa) σ H fun x H1=>r x H1 fun k H2=>Q (.bl (!k)) H2) σ H Q:=by
 obtain⟨sx,ρ,H0,s,e,h⟩:=h
 unfold eUn at h
 rw[Rk.bind]at h
 refine TEd.go sx s e h fun d h v H1 ao s1 e1 r1=>?_
 obtain⟨z,hz,h⟩:=h.of
 have hz:(tr d).map (fun b=>D.bl (!b))=some z:=hz
 cases hb:tr d with
 |none=>rw[hb]at hz;cases hz
 |some b=>
  rw[hb]at hz;cases hz
  exact ht ao H1 v d b _ e1.2.1 r1 hb (h _ H1 (.val s1 e1 (by simp only[RD])))
def y3u(ho:OpD K false o r)(h:TTd K EX (e8 asB (eOp o fa fb)) σ H QB):Hl (tOp r (TEd K EX false fa) (TEd K EX false fb)) σ H QB:=by obtain⟨sx,ρ,H0,s,e,h⟩:=h;unfold e8 at h;rw[Rk.bind]at h;unfold Hl;refine Fy (EX:=EX) ho ⟨sx,ρ,H0,s,e,h.mono fun d h v H' o=>?_⟩;obtain⟨b,hb,h⟩:=h.of;obtain⟨s',aa,e',r'⟩:=o.rd;cases V2 hb;cases r'.bl;exact h H' s'
def vH(ho:OpD K false o r)(h:X7 K EX (Cw o fb) x σ H Q):Px r (TEd K EX false fb) x σ H Q:=by
 obtain⟨sx,d,ρ,H0,s,e,rx,h⟩:=h;unfold Cw at h;rw[Rk.bind]at h;refine TEd.go sx s e h fun d2 h v2 H2 aM s2 e2 r2=>?_
 obtain⟨z,hz,h⟩:=h.of;exact ho aM H2 x v2 d d2 z Q e2.2.1 (rx.mono e2.1) r2 hz fun w H3 o=>h w H3 (o.after s2 e2)
def vG(ho:OpD K false o r)(h:X7 K EX (Z2 o fb g) x σ H Q):Pw r (TEd K EX false fb) (X7 K EX g) x σ H Q:=by
 obtain⟨sx,d,ρ,H0,s,e,rx,h⟩:=h;unfold Z2 at h;rw[Rk.bind]at h;refine TEd.go sx s e h fun d2 h v2 H2 aM s2 e2 r2=>?_
 rw[Rk.bind]at h;obtain⟨z,hz,h⟩:=h.of;rw[Rk.bind]at h;obtain⟨b,hb,h9⟩:=h.of;cases V2 hb;refine ho aM H2 x v2 d d2 _ _ e2.2.1 (rx.mono e2.1) r2 hz fun w H3 o=>?_
 obtain⟨s3,dA,e3,r3⟩:=o.rd;cases r3.bl;clear h;have h:=h9;cases b with
 |true=>exact⟨(sx.trans s2).trans s3,d2,ρ,dA,e3.2.1,e.mono (e2.1.trans e3.1),r2.mono e3.1,h.mono fun z h v H' o=>h v H' (o.after (s2.trans s3) (e2.trans s2 e3))⟩
 |false=>exact h _ H3 (.val (s2.trans s3) (e2.trans s2 e3) (by simp only[RD]))
def yc(ho:OpD K false o r)(h:Y5 K EX (Ak o fb) x σ H QB):Sy r (TEd K EX false fb) x σ H QB:=by
 obtain⟨sx,d,ρ,H0,s,e,rx,h⟩:=h;unfold Ak at h;rw[Rk.bind]at h;refine TEd.go sx s e h fun d2 h v2 H2 aM s2 e2 r2=>?_
 rw[Rk.bind]at h;obtain⟨z,hz,h⟩:=h.of;obtain⟨b,hb,h⟩:=h.of;cases V2 hb;refine ho aM H2 x v2 d d2 _ _ e2.2.1 (rx.mono e2.1) r2 hz fun w H3 o=>?_
 obtain⟨s3,dA,e3,r3⟩:=o.rd;cases r3.bl;exact h H3 (s2.trans s3)
def yb(ho:OpD K false o r)(h:Y5 K EX (Aj o fb g) x σ H QB):Sx r (TEd K EX false fb) (Y5 K EX g) x σ H QB:=by
 obtain⟨sx,d,ρ,H0,s,e,rx,h⟩:=h;unfold Aj at h;rw[Rk.bind]at h;refine TEd.go sx s e h fun d2 h v2 H2 aM s2 e2 r2=>?_
 rw[Rk.bind]at h;obtain⟨z,hz,h⟩:=h.of;rw[Rk.bind]at h;obtain⟨b,hb,h9⟩:=h.of;cases V2 hb;refine ho aM H2 x v2 d d2 _ _ e2.2.1 (rx.mono e2.1) r2 hz fun w H3 o=>?_
 obtain⟨s3,dA,e3,r3⟩:=o.rd;cases r3.bl;clear h;have h:=h9;cases b with
 |true=>exact⟨(sx.trans s2).trans s3,d2,ρ,dA,e3.2.1,e.mono (e2.1.trans e3.1),r2.mono e3.1,h.mono fun z h H' s'=>h H' (s2.trans (s3.trans s'))⟩
 |false=>exact h H3 (s2.trans s3)
def y3v(h:TEd K EX false (Cb fa g) σ H Q):qe (TEd K EX false fa) (X7 K EX g) σ H Q:=by obtain⟨sx,ρ,H0,s,e,h⟩:=h;unfold Cb at h;rw[Rk.bind]at h;exact TEd.go sx s e h fun d h v H1 ao s1 e1 r1=>⟨sx.trans s1,d,ρ,ao,e1.2.1,e.mono e1.1,r1,h.mono fun z h v H' o=>h v H' (o.after s1 e1)⟩
def vF(h:TTd K EX (Y0 fa g) σ H QB):Pv (TEd K EX false fa) (Y5 K EX g) σ H QB:=by obtain⟨sx,ρ,H0,s,e,h⟩:=h;unfold Y0 at h;rw[Rk.bind]at h;exact TEd.go sx s e h fun d h v H1 ao s1 e1 r1=>⟨sx.trans s1,d,ρ,ao,e1.2.1,e.mono e1.1,r1,h.mono fun z h H' s'=>h H' (s1.trans s')⟩
end
inductive Sl where
 |em |im (d:D) |ow (d:D)
abbrev DS:=List Sl
noncomputable def Sl.see(b:Bool):Sl->Option D
 | .em=>none
 | .im d=>some d
 | .ow d=>if b=true then some d else none
noncomputable def Sl.frz(b:Bool):Sl->Sl
 | .ow d=>if b=true then .im d else .ow d
 |s=>s
def vis:List Bool->DS->DE
 |_,[]=>[]
 | [],s::r=>s.see false::vis [] r
 |b::m,s::r=>s.see b::vis m r
noncomputable def frz:List Bool->DS->DS
 |_,[]=>[]
 | [],s::r=>s::r
 |b::m,s::r=>s.frz b::frz m r
theorem Ki:∀(m:List Bool)(ρ:DS)(i:Nat),(vis m ρ)[i]?=(ρ[i]?).map (Sl.see (m.getD i false))
 | [],[],i=>by simp[vis]
 |_::_,[],i=>by simp[vis]
 | [],s::r,0=>by simp[vis]
 |b::m,s::r,0=>by simp[vis]
 | [],s::r,i+1=>by simpa [vis] using Ki [] r i
 |b::m,s::r,i+1=>by simpa [vis] using Ki m r i
theorem Ml:∀(m:List Bool)(ρ:DS),(vis m ρ).length=ρ.length
 | [],[]=>rfl
 |_::_,[]=>rfl
 | [],s::r=>by simp[vis,Ml [] r]
 |b::m,s::r=>by simp[vis,Ml m r]
def Sl.frz_false(s:Sl):s.frz false=s:=by cases s<;>simp[Sl.frz]
theorem Kh:∀(m:List Bool)(ρ:DS)(i:Nat),(L2.frz m ρ)[i]?=(ρ[i]?).map (Sl.frz (m.getD i false))
 | [],[],i=>by simp[frz]
 |_::_,[],i=>by simp[frz]
 | [],s::r,i=>by
  simp only[frz,List.getD_nil];cases h:(s::r)[i]? with
  |none=>rfl
  |some x=>simp[Sl.frz_false]
 |b::m,s::r,0=>by simp[frz]
 |b::m,s::r,i+1=>by simpa [frz] using Kh m r i
theorem Zq:∀(m:List Bool)(ρ:DS),(L2.frz m ρ).length=ρ.length
 | [],[]=>rfl
 |_::_,[]=>rfl
 | [],s::r=>rfl
 |b::m,s::r=>by simp[frz,Zq m r]
structure RS(K:Frag)(Hc Hb H0:Hp)(ρ:DS)(σ:St)(H:Hp):Prop where
 sb:Same Hb H
 ext:Ext Hc Hb H0 H
 len:ρ.length=σ.length
 im:∀(i:Nat) d,ρ[i]?=some (.im d)->∃v,σ[i]?=some (some v)/\RD K H0 d v
 ow:∀(i:Nat) d,ρ[i]?=some (.ow d)->∃a,σ[i]?=some (some (.ref a))/\H0 a=none/\Hb a=none/\OB K H0 H a d
 ap:∀(i j:Nat) d e a,ρ[i]?=some (.ow d)->ρ[j]?=some (.ow e)->σ[i]?=some (some (.ref a))->σ[j]?=some (some (.ref a))->i=j
def RS.grow{K:Frag}{Hc Hb H0 H H':Hp}{ρ:DS}{σ:St}(R:RS K Hc Hb H0 ρ σ H)(s:Same H H'):RS K Hc Hb H0 ρ σ H':=
 ⟨R.sb.trans s,R.ext.grow s,R.len,R.im,fun i d e=>by obtain⟨a,h1,h2,h3,h4⟩:=R.ow i d e;exact⟨a,h1,h2,h3,h4.mono (Same.refl _) s⟩,R.ap⟩
def Msk(m:List Bool)(ρ:DS)(σ:St)(a:Addr):Prop:=∃i d,m.getD i false=true/\ρ[i]?=some (.ow d)/\σ[i]?=some (some (.ref a))
open Classical in
noncomputable def HeOf(m:List Bool)(ρ:DS)(σ:St)(H0 H:Hp):Hp:=fun a=>if Msk m ρ σ a then H a else H0 a
open Classical in
noncomputable def HdOf(m:List Bool)(ρ:DS)(σ:St)(H0:Hp):Hp:=fun a=>if Msk m ρ σ a then none else H0 a
section
variable {K:Frag}{Hc Hb H0 H H':Hp}{ρ:DS}{σ:St}{m:List Bool}
def RS.msk(R:RS K Hc Hb H0 ρ σ H)(h:Msk m ρ σ a):H0 a=none/\Hb a=none/\∃o,H a=some o/\¬Imm o:=by obtain⟨i,d,_,h1,h2⟩:=h;obtain⟨a',q1,q2,q3,q4⟩:=R.ow i d h1;rw[h2]at q1;cases q1;exact⟨q2,q3,q4.some⟩
def Ef(h:Msk m ρ σ a):HeOf m ρ σ H0 H a=H a:=by unfold HeOf;exact ζ h
def V1(h:¬Msk m ρ σ a):HeOf m ρ σ H0 H a=H0 a:=by unfold HeOf;exact ξ h
def Ee(h:Msk m ρ σ a):HdOf m ρ σ H0 a=none:=by unfold HdOf;exact ζ h
def V0(h:¬Msk m ρ σ a):HdOf m ρ σ H0 a=H0 a:=by unfold HdOf;exact ξ h
def RS.he0(R:RS K Hc Hb H0 ρ σ H)(m:List Bool):Same H0 (HeOf m ρ σ H0 H):=fun b o e=>by
 by_cases h:Msk m ρ σ b
 . rw[(R.msk h).1]at e;cases e
 . rw[V1 h];exact e
def RS.heH(R:RS K Hc Hb H0 ρ σ H)(m:List Bool):Same (HeOf m ρ σ H0 H) H:=fun b o e=>by
 by_cases h:Msk m ρ σ b
 . rw[Ef h]at e;exact e
 . rw[V1 h]at e;exact R.ext.2.1 b o e
def RS.re(R:RS K Hc Hb H0 ρ σ H)(m:List Bool):RE K (HeOf m ρ σ H0 H) (vis m ρ) σ:=by
 refine⟨by rw[Ml];exact R.len,fun i d e=>?_⟩;rw[Ki]at e;cases q:ρ[i]? with
 |none=>rw[q]at e;cases e
 |some s=>
  rw[q]at e
  simp only[CO,Option.some.injEq]at e
  cases s with
  |em=>cases e
  |im d'=>
   cases e
   obtain⟨v,h1,h2⟩:=R.im i d q
   exact⟨v,h1,h2.mono (R.he0 m)⟩
  |ow d'=>
   simp only[Sl.see]at e
   split at e
   . rename_i hm;cases e;obtain⟨a,h1,h2,h3,h4⟩:=R.ow i d q;exact⟨_,h1,h4.rd (R.he0 m) (Ef ⟨i,d,hm,q,h1⟩)⟩
   . cases e
def j9(keep:Bool)(m:List Bool)(ρ:DS):DS:=if keep=true then ρ else frz m ρ
def keeps(fr:Bool)(d:D):Bool:=if fr=true then d.shal else d.noL
def Apt(K:Frag)(fr:Bool)(Hb H0:Hp)(ρ:DS)(σ:St)(H:Hp)(d:D)(v:V):Prop:=
 if fr=true then ∃p,v=.ref p/\H0 p=none/\Hb p=none/\OB K H0 H p d/\∀(i:Nat) e,ρ[i]?=some (.ow e)->σ[i]?≠some (some (.ref p)) else RD K H0 d v
def Ec(h:(j9 keep m ρ)[i]?=some (.ow d)):ρ[i]?=some (.ow d)/\(keep=false->m.getD i false=false):=by
 unfold j9 at h;cases keep with
 |true=>exact⟨h,fun z=>nomatch z⟩
 |false=>
  rw[ξ θ,Kh]at h
  cases q:ρ[i]? with
  |none=>rw[q]at h;cases h
  |some s=>
   rw[q]at h
   simp only[CO,Option.some.injEq]at h
   cases s with
   |em=>cases h
   |im d'=>cases h
   |ow d'=>
    simp only[Sl.frz]at h
    split at h
    . cases h
    . rename_i hm;cases h;exact⟨rfl,fun _=>by simpa using hm⟩
def RS.frame(R:RS K Hc Hb H0 ρ σ H)(s:Same H H')(e:Ext (HeOf m ρ σ H0 H) H aa H')(keep:Bool) :
  ∃aR,RS K Hc Hb aR (j9 keep m ρ) σ H'/\TK aa aR/\(keep=false->aR=aa)/\(∀p,aa p=none->aR p=none)/\Same H0 aR:=by
 have lu:∀(i:Nat) d' a,ρ[i]?=some (.ow d')->σ[i]?=some (some (.ref a))->¬Msk m ρ σ a->aa a=none:=fun i d' a h1 h2 h3=>by obtain⟨a',q1,q2,q3,q4⟩:=R.ow i d' h1;rw[h2]at q1;cases q1;obtain⟨u,hu,ni⟩:=q4.some;exact e.no s hu ni (by rw[V1 h3];exact q2)
 have oo:∀{i:Nat}{d':D}{a:Addr},ρ[i]?=some (.ow d')->σ[i]?=some (some (.ref a))->m.getD i false=false->¬Msk m ρ σ a:=fun {i d' a} h1 h2 h3 ⟨j,e',q1,q2,q3⟩=>by have:=R.ap i j d' e' a h1 q2 h2 q3;subst this;rw[h3]at q1;cases q1
 cases keep with
 |true=>
  have BF:j9 true m ρ=ρ:=rfl
  have s0:Same H0 (HdOf m ρ σ aa):=fun b u q=>by
   have hb:¬Msk m ρ σ b:=fun z=>by rw[(R.msk z).1]at q;cases q
   rw[V0 hb];exact e.1 b u (R.he0 m b u q)
  have tk:TK aa (HdOf m ρ σ aa):=fun b u hi q=>by
   have hb:¬Msk m ρ σ b:=fun z=>by obtain⟨_,_,w,hw,hn⟩:=R.msk z;have:=e.1 b w (by rw[Ef z];exact hw);rw[q]at this;cases this;exact hn hi
   rw[V0 hb];exact q
  refine⟨HdOf m ρ σ aa,⟨R.sb.trans s,⟨R.ext.1.trans s0,fun b u q=>?_,fun a h1 h2=>?_⟩,R.len,fun i d' q=>?_,fun i d' q=>?_,R.ap⟩,tk,(fun z=>nomatch z),fun p hp=>?_,s0⟩
  . by_cases hb:Msk m ρ σ b
    . rw[Ee hb]at q;cases q
    . rw[V0 hb]at q;exact e.2.1 b u q
  . by_cases hb:Msk m ρ σ a
    . exact .inl (Ee hb)
    . rw[V0 hb];exact e.nt (R.sb.ne h1) (by rw[V1 hb];exact R.ext.2.2 a h1 h2)
  . obtain⟨w,h1,h2⟩:=R.im i d' q;exact⟨w,h1,h2.mono s0⟩
  . obtain⟨a,h1,h2,h3,h4⟩:=R.ow i d' q;refine⟨a,h1,?_,h3,h4.mono s0 s⟩;by_cases hb:Msk m ρ σ a
    . exact Ee hb
    . rw[V0 hb];exact lu i d' a q h1 hb
  . by_cases hb:Msk m ρ σ p
    . exact Ee hb
    . rw[V0 hb];exact hp
 |false=>
  refine⟨aa,⟨R.sb.trans s,?_,?_,fun i d' q=>?_,fun i d' q=>?_,fun i j d1 d2 a q1 q2=>?_⟩,fun _ _ _ z=>z,fun _=>rfl,fun _ z=>z,(R.he0 m).trans e.1⟩
  . refine⟨R.ext.1.trans ((R.he0 m).trans e.1),e.2.1,fun a h1 h2=>e.nt (R.sb.ne h1) ?_⟩;have hb:¬Msk m ρ σ a:=fun z=>h1 (R.msk z).2.1
    rw[V1 hb];exact R.ext.2.2 a h1 h2
  . show(L2.frz m ρ).length=_;rw[Zq];exact R.len
  . have q':(L2.frz m ρ)[i]?=some (.im d'):=q;rw[Kh]at q';cases hs:ρ[i]? with
    |none=>rw[hs]at q';cases q'
    |some sl=>
     rw[hs]at q'
     simp only[CO,Option.some.injEq]at q'
     cases sl with
     |em=>cases q'
     |im d2=>
      cases q'
      obtain⟨w,h1,h2⟩:=R.im i d' hs
      exact⟨w,h1,h2.mono ((R.he0 m).trans e.1)⟩
     |ow d2=>
      simp only[Sl.frz]at q'
      split at q'
      . rename_i hm;cases q';obtain⟨a,h1,h2,h3,h4⟩:=R.ow i d' hs;obtain⟨u,hu,_⟩:=h4.some;refine⟨_,h1,h4.rd ((R.he0 m).trans e.1) ?_⟩;rw[hu];exact e.1 a u (by rw[Ef ⟨i,d',hm,hs,h1⟩];exact hu)
      . cases q'
  . obtain⟨q1,q2⟩:=Ec q;obtain⟨a,h1,h2,h3,h4⟩:=R.ow i d' q1;exact⟨a,h1,lu i d' a q1 h1 (oo q1 h1 (q2 rfl)),h3,h4.mono ((R.he0 m).trans e.1) s⟩
  . exact R.ap i j d1 d2 a (Ec q1).1 (Ec q2).1
def RS.out(R:RS K Hc Hb H0 ρ σ H)(o:Out K fr (HeOf m ρ σ H0 H) H d v H') :
  ∃aR,RS K Hc Hb aR (j9 (keeps fr d) m ρ) σ H'/\Apt K fr Hb aR (j9 (keeps fr d) m ρ) σ H' d v:=by
 obtain⟨s,aa,e,r⟩:=o
 obtain⟨aR,R',tk,eq,hn,_⟩:=R.frame s e (keeps fr d)
 refine⟨aR,R',?_⟩
 unfold Apt
 cases fr with
 |false=>
  rw[ξ θ]at r⊢
  cases hk:keeps false d with
  |true=>exact r.tk tk (by simpa [keeps] using hk)
  |false=>rw[eq hk];exact r
 |true=>
  rw[ζ rfl]at r⊢
  obtain⟨p,rfl,hp,fR,ob⟩:=r
  refine⟨p,rfl,hn p fR,R.sb.none hp,?_,fun i e' q z=>?_⟩
  . cases hk:keeps true d with
    |true=>exact ob.tk (by simpa [keeps] using hk) tk
    |false=>rw[eq hk];exact ob
  . obtain⟨a,h1,_,_,h4⟩:=R.ow i e' (Ec q).1;rw[z]at h1;cases h1;obtain⟨u,hu,_⟩:=h4.some;rw[hp]at hu;cases hu
def RS.outs(R:RS K Hc Hb H0 ρ σ H)(s:Same H H')(e:Ext (HeOf m ρ σ H0 H) H aa H')(r:RDs K aa ds vs) :
  ∃aR,RS K Hc Hb aR (j9 (i5 ds) m ρ) σ H'/\RDs K aR ds vs:=by
 obtain⟨aR,R',tk,eq,hn,_⟩:=R.frame s e (i5 ds)
 refine⟨aR,R',?_⟩
 cases hk:i5 ds with
 |true=>exact r.tk tk hk
 |false=>rw[eq hk];exact r
noncomputable def G3(fr:Bool)(i:Nat)(d:D)(ρ:DS):DS:=ρ.set i (if fr=true then .ow d else .im d)
def RS.put(R:RS K Hc Hb H0 ρ σ H)(a:Apt K fr Hb H0 ρ σ H d v)(i:Nat):RS K Hc Hb H0 (G3 fr i d ρ) (σ.set i (some v)) H:=by
 unfold G3;have other:∀{j:Nat}{s:Sl},j≠i->(ρ.set i s)[j]?=ρ[j]?:=fun {j s} h=>by rw[EO (FP h)]
 have bH:∀{j:Nat},j≠i->(σ.set i (some v))[j]?=σ[j]?:=fun {j} h=>by rw[EO (FP h)]
 have here:∀{s s':Sl},(ρ.set i s)[i]?=some s'->s'=s/\(σ.set i (some v))[i]?=some (some v):=fun {s s'} h=>by
  have hi:i<ρ.length:=by have:=(CU.mp h).1;simpa using this
  rw[ET hi]at h;cases h;exact⟨rfl,by rw[ET (by rw[<-R.len];exact hi)]⟩
 refine⟨R.sb,R.ext,by rw[DU,DU];exact R.len,fun j d' q=>?_,fun j d' q=>?_,fun j k d1 d2 b q1 q2 z1 z2=>?_⟩
 . by_cases hj:j=i
   . subst hj;obtain⟨h1,h2⟩:=here q;refine⟨v,h2,?_⟩;cases fr with
     |false=>
      rw[ξ θ]at h1;cases h1
      unfold Apt at a
      rw[ξ θ]at a;exact a
     |true=>rw[ζ rfl]at h1;cases h1
   . rw[other hj]at q;rw[bH hj];exact R.im j d' q
 . by_cases hj:j=i
   . subst hj;obtain⟨h1,h2⟩:=here q;cases fr with
     |false=>rw[ξ θ]at h1;cases h1
     |true=>
      rw[ζ rfl]at h1;cases h1
      unfold Apt at a
      rw[ζ rfl]at a
      obtain⟨p,rfl,a1,a2,a3,_⟩:=a
      exact⟨p,h2,a1,a2,a3⟩
   . rw[other hj]at q;rw[bH hj];exact R.ow j d' q
 . by_cases hj:j=i
   . by_cases hk:k=i
     . rw[hj,hk]
     . subst hj;obtain⟨h1,h2⟩:=here q1;rw[other hk]at q2;rw[bH hk]at z2;rw[h2]at z1;cases fr with
       |false=>rw[ξ θ]at h1;cases h1
       |true=>
        unfold Apt at a
        rw[ζ rfl]at a
        obtain⟨p,rfl,_,_,_,a4⟩:=a
        cases z1
        exact absurd z2 (a4 k d2 q2)
   . by_cases hk:k=i
     . subst hk;obtain⟨h1,h2⟩:=here q2;rw[other hj]at q1;rw[bH hj]at z1;rw[h2]at z2;cases fr with
       |false=>rw[ξ θ]at h1;cases h1
       |true=>
        unfold Apt at a
        rw[ζ rfl]at a
        obtain⟨p,rfl,_,_,_,a4⟩:=a
        cases z2
        exact absurd z1 (a4 j d1 q1)
     . rw[other hj]at q1;rw[other hk]at q2;rw[bH hj]at z1;rw[bH hk]at z2;exact R.ap j k d1 d2 b q1 q2 z1 z2
end
inductive SR where
 |nx (ρ:DS) |bk (ρ:DS) |ct (ρ:DS) |rt (d:D) |er (x:Ex) |st
def SK(K:Frag)(EX:XW)(fr:Bool)(Hc Hb:Hp)(De:Ends):SR->Prop
 | .nx ρ=>∀σ H H0,RS K Hc Hb H0 ρ σ H->De.nx σ H
 | .bk ρ=>∀σ H H0,RS K Hc Hb H0 ρ σ H->De.bk σ H
 | .ct ρ=>∀σ H H0,RS K Hc Hb H0 ρ σ H->De.ct σ H
 | .rt d=>∀v H,Out K fr Hc Hb d v H->De.rt v H
 | .er x=>EX.at x
 | .st=>False
def TSd(K:Frag)(EX:XW)(fr:Bool)(g:DS->SR):TS:=fun De σ H=>∃Hc Hb H0 ρ,Same EX.hb Hb/\RS K Hc Hb H0 ρ σ H/\SK K EX fr Hc Hb De (g ρ)
noncomputable def R.toS{α:Type}(r:R α)(k:α->SR):SR:=match r with
 | .ok a=>k a
 | .er x=>.er x
 | .st=>.st
noncomputable def sNx:DS->SR:=fun ρ=>.nx ρ
noncomputable def sNo:DS->SR:=fun _=>.st
noncomputable def c9(g1 g2:DS->SR):DS->SR:=fun ρ=>match g1 ρ with
 | .nx ax=>g2 ax
 |r=>r
noncomputable def see(ρ:DS):DE:=ρ.map (Sl.see true)
def sIf(t:DE->R Bool)(g1 g2:DS->SR):DS->SR:=fun ρ=>(t (see ρ)).toS fun b=>if b=true then g1 ρ else g2 ρ
def e7(fr:Bool)(i:Nat)(m:List Bool)(f:DE->R D):DS->SR:=fun ρ=>(f (vis m ρ)).toS fun d=>.nx (G3 fr i d (j9 (keeps fr d) m ρ))
def g8(m:List Bool)(f:DE->R D):DS->SR:=fun ρ=>(f (vis m ρ)).toS fun d=>.rt d
noncomputable def J3(i:Nat):DS->SR:=fun ρ=>match ρ[i]? with
 |some (.ow d)=>.rt d
 |_=>.st
def T5(f:DE->R D):DS->SR:=fun ρ=>(f (see ρ)).toS fun _=>.nx ρ
section
variable {K:Frag}{EX:XW}{fr:Bool}{Hc Hb H0 H H':Hp}{ρ:DS}{σ:St}{De:Ends}{m:List Bool}
def SK.toS:SK K EX fr Hc Hb De (r.toS k)=Rk EX.at r fun a=>SK K EX fr Hc Hb De (k a):=by cases r<;>rfl
theorem Kg:∀(ρ:DS),vis (List.replicate ρ.length true) ρ=see ρ
 | []=>rfl
 |s::r=>by show s.see true::vis (List.replicate r.length true) r=_;rw[Kg r];rfl
def RS.extE(R:RS K Hc Hb H0 ρ σ H)(m:List Bool):Ext Hc Hb (HeOf m ρ σ H0 H) H:=
 ⟨R.ext.1.trans (R.he0 m),R.heH m,fun a h1 h2=>by
  have hb:¬Msk m ρ σ a:=fun z=>h1 (R.msk z).2.1
  rw[V1 hb];exact R.ext.2.2 a h1 h2⟩
def RS.te(I:RS K Hc Hb H0 ρ σ H)(sb:Same EX.hb Hb)(h:Rk EX.at (f (vis m ρ)) k)
  (hk:∀d,k d->∀v H' aR,RS K Hc Hb aR (j9 (keeps cz d) m ρ) σ H'->Apt K cz Hb aR (j9 (keeps cz d) m ρ) σ H' d v->Q v H'):TEd K EX cz f σ H Q:=
 ⟨sb.trans I.sb,vis m ρ,HeOf m ρ σ H0 H,I.heH m,I.re m,h.mono fun d z v H' o=>by obtain⟨aR,R',a⟩:=I.out o;exact hk d z v H' aR R' a⟩
def RS.tt(I:RS K Hc Hb H0 ρ σ H)(sb:Same EX.hb Hb)(h:Rk EX.at (f (see ρ)) k)(hk:∀b,k b->∀H',RS K Hc Hb H0 ρ σ H'->Q b H'):TTd K EX f σ H Q:=by refine⟨sb.trans I.sb,see ρ,HeOf (List.replicate ρ.length true) ρ σ H0 H,I.heH _,?_,h.mono fun b z H' s=>hk b z H' (I.grow s)⟩;rw[<-Kg];exact I.re _
theorem Ov(h:TSd K EX fr sNx De σ H):Qg De σ H:=by obtain⟨Hc,Hb,H0,ρ,sb,R,h⟩:=h;exact h σ H H0 R
theorem y82(h:TSd K EX fr sNo De σ H):Ti De σ H:=by obtain⟨Hc,Hb,H0,ρ,sb,R,h⟩:=h;exact h
theorem Hd(h:TSd K EX fr (c9 g1 g2) De σ H):Gh (TSd K EX fr g1) (TSd K EX fr g2) De σ H:=by
 obtain⟨Hc,Hb,H0,ρ,sb,R,h⟩:=h;refine⟨Hc,Hb,H0,ρ,sb,R,?_⟩;unfold c9 at h;cases q:g1 ρ with
 |nx ax=>rw[q]at h;exact fun ac H' aa R'=>⟨Hc,Hb,aa,ax,sb,R',h⟩
 |bk ax=>rw[q]at h;exact h
 |ct ax=>rw[q]at h;exact h
 |rt d=>rw[q]at h;exact h
 |er x=>rw[q]at h;exact h
 |st=>rw[q]at h;exact h
theorem Pl(h:TSd K EX fr (sIf t g1 g2) De σ H):qA (TTd K EX t) (TSd K EX fr g1) (TSd K EX fr g2) De σ H:=by
 obtain⟨Hc,Hb,H0,ρ,sb,R,h⟩:=h;unfold sIf at h;rw[SK.toS]at h;refine R.tt sb h fun b h H' R'=>?_
 cases b with
 |true=>exact⟨Hc,Hb,H0,ρ,sb,R',h⟩
 |false=>exact⟨Hc,Hb,H0,ρ,sb,R',h⟩
theorem Cp(h:TSd K EX fr (e7 cz i m f) De σ H):B8 (TEd K EX cz f) (u8 i) De σ H:=by obtain⟨Hc,Hb,H0,ρ,sb,R,h⟩:=h;unfold e7 at h;rw[SK.toS]at h;exact R.te sb h fun d h v H' aR R' a=>h _ H' aR (R'.put a i)
theorem y3x(h:TSd K EX fr (g8 m f) De σ H):Pc (TEd K EX fr f) De σ H:=by obtain⟨Hc,Hb,H0,ρ,sb,R,h⟩:=h;unfold g8 at h;rw[SK.toS]at h;exact⟨sb.trans R.sb,vis m ρ,HeOf m ρ σ H0 H,R.heH m,R.re m,h.mono fun d z v H' o=>z v H' (o.after R.sb (R.extE m))⟩
theorem vE(h:TSd K EX true (J3 i) De σ H):Pc (n8 i) De σ H:=by
 obtain⟨Hc,Hb,H0,ρ,sb,R,h⟩:=h;unfold J3 at h;split at h
 . rename_i d q;obtain⟨a,h1,h2,h3,h4⟩:=R.ow i d q;show n8 i σ H De.rt;unfold n8;rw[h1];exact h _ H (.fresh R.sb R.ext h3 h2 h4)
 . exact h.elim
theorem vD(h:TSd K EX fr (T5 f) De σ H):T1 (TEd K EX false f) De σ H:=by obtain⟨Hc,Hb,H0,ρ,sb,R,h⟩:=h;unfold T5 at h;rw[SK.toS]at h;refine⟨sb.trans R.sb,see ρ,HeOf (List.replicate ρ.length true) ρ σ H0 H,R.heH _,by rw[<-Kg];exact R.re _,h.mono fun d z v H' o=>?_⟩;exact z σ H' H0 (R.grow o.1)
def RS.mutate(R:RS K Hc Hb H0 ρ σ H)(h:ρ[i]?=some (.ow d))(ha:σ[i]?=some (some (.ref a)))(ob:OB K H0 (upd H a o) a d'):RS K Hc Hb H0 (ρ.set i (.ow d')) σ (upd H a o):=by
 obtain⟨a',q1,q2,q3,q4⟩:=R.ow i d h;rw[ha]at q1;cases q1;have hi:i<ρ.length:=(CU.mp h).1;have other:∀{j:Nat}{s:Sl},j≠i->(ρ.set i s)[j]?=ρ[j]?:=fun {j s} h=>by rw[EO (FP h)]
 have here:(ρ.set i (.ow d'))[i]?=some (.ow d'):=by rw[ET hi]
 have sm:∀{H1:Hp},Same H1 H->H1 a=none->Same H1 (upd H a o):=fun s n=>s.upd_at n
 refine⟨sm R.sb q3,⟨R.ext.1,sm R.ext.2.1 q2,R.ext.2.2⟩,by rw[DU];exact R.len,fun j d2 q=>?_,fun j d2 q=>?_,fun j k d1 d2 b z1 z2=>?_⟩
 . have hj:j≠i:=fun z=>by subst z;rw[here]at q;cases q
   rw[other hj]at q;exact R.im j d2 q
 . by_cases hj:j=i
   . subst hj;rw[here]at q;cases q;exact⟨a,ha,q2,q3,ob⟩
   . rw[other hj]at q;obtain⟨b,h1,h2,h3,h4⟩:=R.ow j d2 q;have hb:b≠a:=fun z=>hj (R.ap j i d2 d b q h h1 (by rw[z];exact ha))
     exact⟨b,h1,h2,h3,h4.at (i6 hb)⟩
 . have dc:∀{j:Nat}{d1:D},(ρ.set i (.ow d'))[j]?=some (.ow d1)->∃d0,ρ[j]?=some (.ow d0):=fun {j d1} z=>by
    by_cases hj:j=i
    . subst hj;exact⟨d,h⟩
    . rw[other hj]at z;exact⟨_,z⟩
   obtain⟨e1,z1⟩:=dc z1
   obtain⟨e2,z2⟩:=dc z2
   exact R.ap j k e1 e2 b z1 z2
def X6(K:Frag)(mt:D->List D->Option D)(r:V->List V->Hp->VK->Prop):Prop:=∀(H0 H:Hp)(a:Addr)(d d':D)(ds:List D)(vs:List V)(Q:VK),Same H0 H->H0 a=none->OB K H0 H a d->RDs K H0 ds vs->mt d ds=some d' ->
 (∀v o,OB K H0 (upd H a o) a d'->Q v (upd H a o))->r (.ref a) vs H Q
noncomputable def isT(T:String):D->Bool
 | .lst _=>T=="list"
 | .dk _ _=>T=="dict"
 | .dt _ _=>T=="dict"
 |_=>false
def TyD(K:Frag)(T:String):Prop:=∀(H0 H:Hp)(a:Addr)(d:D),OB K H0 H a d->isT T d=true->tyV K T (.ref a) H
def v7(T:String)(mt:D->List D->Option D)(i:Nat)(m:List Bool)(fs:DE->R (List D)):DS->SR:=fun ρ=>match ρ[i]? with
 |some (.ow d0)=>if isT T d0=true then(fs (vis m ρ)).toS fun ds=>match (j9 (i5 ds) m ρ)[i]? with
  |some (.ow d)=>(R.of (mt d ds)).toS fun d'=>.nx ((j9 (i5 ds) m ρ).set i (.ow d'))
  |_=>.st
  else .st
 |_=>.st
theorem Pk{T:String}{mt:D->List D->Option D}{r:V->List V->Hp->VK->Prop}{i:Nat}{fs:DE->R (List D)}(hm:X6 K mt r)(hT:TyD K T)(h:TSd K EX fr (v7 T mt i m fs) De σ H) :
  T1 (tBM K T r (n8 i) (TAd K EX fs)) De σ H:=by
 obtain⟨Hc,Hb,H0,ρ,sb,R,h⟩:=h
 unfold v7 at h
 split at h
 . rename_i d0 q0;split at h
   . rename_i dy;rw[SK.toS]at h;obtain⟨a,h1,h2,h3,h4⟩:=R.ow i d0 q0;unfold T1 tBM n8;rw[h1];refine⟨hT H0 H a d0 h4 dy,sb.trans R.sb,vis m ρ,HeOf m ρ σ H0 H,R.heH m,R.re m,h.mono fun ds h vs H' aa s e sM=>?_⟩;obtain⟨aR,R',sN⟩:=R.outs s e sM;split at h
     . rename_i d q;rw[SK.toS]at h;obtain⟨d',cx,h⟩:=h.of;obtain⟨a',z1,z2,z3,z4⟩:=R'.ow i d q;rw[h1]at z1;cases z1;exact hm aR H' a d d' ds vs _ R'.ext.2.1 z2 z4 sN cx fun v o ob=>h σ _ aR (R'.mutate q h1 ob)
     . exact h.elim
   . exact h.elim
 . exact h.elim
def kT(K:Frag)(st:D->D->D->Option D)(r:R6):Prop:=∀(H0 H:Hp)(a:Addr)(d d' dk dv:D)(y v:V)(Q:Hp->Prop),Same H0 H->H0 a=none->OB K H0 H a d->RD K H0 dk y->RD K H0 dv v->st d dk dv=some d' ->
 (∀o,OB K H0 (upd H a o) a d'->Q (upd H a o))->r (.ref a) y v H Q
def Ca(st:D->D->D->Option D)(i:Nat)(m:List Bool)(fk fv:DE->R D):DS->SR:=fun ρ=>(fv (vis m ρ)).toS fun dv=>match (j9 (keeps false dv) m ρ)[i]? with
 |some (.ow _)=>(fk (vis m (j9 (keeps false dv) m ρ))).toS fun dk=>(match (j9 (keeps false dk) m (j9 (keeps false dv) m ρ))[i]? with
  |some (.ow d)=>(R.of (st d dk dv)).toS fun d'=>.nx ((j9 (keeps false dk) m (j9 (keeps false dv) m ρ)).set i (.ow d'))
  |_=>.st)
 |_=>.st
def Apt.rd(a:Apt K false Hb H0 ρ σ H d v):RD K H0 d v:=by unfold Apt at a;rw[ξ θ]at a;exact a
end
section
variable {K:Frag}{EX:XW}{fr:Bool}{Hc Hb H0 H H':Hp}{ρ:DS}{σ:St}{De:Ends}{m:List Bool}
theorem y3y{st:D->D->D->Option D}{r:R6}{i:Nat}{fk fv:DE->R D}(hs:kT K st r)(h:TSd K EX fr (Ca st i m fk fv) De σ H) :
  B8 (TEd K EX false fv) (Gf (n8 i) (TEd K EX false fk) r) De σ H:=by
 obtain⟨Hc,Hb,H0,ρ,sb,I,h⟩:=h
 unfold Ca at h
 rw[SK.toS]at h
 refine I.te sb h fun dv h v H1 oY I1 a1=>?_
 split at h
 . rename_i d0 q0;rw[SK.toS]at h;obtain⟨a,h1,h2,h3,h4⟩:=I1.ow i d0 q0;unfold Gf n8;rw[h1];refine⟨sb.trans I1.sb,vis m _,HeOf m _ σ oY H1,I1.heH m,I1.re m,h.mono fun dk h y H2 o2=>?_⟩;obtain⟨s2,aM,e2,r2⟩:=o2.rd;obtain⟨gT,I2,tk,eq,hn,sub⟩:=I1.frame s2 e2 (keeps false dk);have sO:RD K gT dk y:=by
    cases hk:keeps false dk with
    |true=>exact r2.tk tk (by simpa [keeps] using hk)
    |false=>rw[eq hk];exact r2
   split at h
   . rename_i d q;rw[SK.toS]at h;obtain⟨d',cx,h⟩:=h.of;obtain⟨a',z1,z2,z3,z4⟩:=I2.ow i d q;rw[h1]at z1;cases z1;exact hs gT H2 a d d' dk dv y v _ I2.ext.2.1 z2 z4 sO (a1.rd.mono sub) cx fun o ob=>h σ _ gT (I2.mutate q h1 ob)
   . exact h.elim
 . exact h.elim
inductive Tg where
 |n (i:Nat) |t (is:List Nat)
def Js:List Nat->List D->DS->DS
 |i::is,d::ds,ρ=>Js is ds (G3 false i d ρ)
 |_,_,ρ=>ρ
noncomputable def items:D->Option (List D)
 | .tup ds=>some ds
 | .lst ds=>some ds
 |_=>none
def K6:Tg->D->DS->Option DS
 | .n i,d,ρ=>some (G3 false i d ρ)
 | .t is,d,ρ=>(items d).bind fun ds=>if ds.length=is.length then some (Js is ds ρ) else none
def TGd(K:Frag)(tg:Tg):TG:=fun v σ H Q=>∃Hc Hb H0 ρ d ax,RS K Hc Hb H0 ρ σ H/\RD K H0 d v/\K6 tg d ρ=some ax/\∀ac,RS K Hc Hb H0 ax ac H->Q ac H
theorem RS.putI(I:RS K Hc Hb H0 ρ σ H)(r:RD K H0 d v)(i:Nat):RS K Hc Hb H0 (G3 false i d ρ) (σ.set i (some v)) H:=
 I.put (fr:=false) (by unfold Apt;rw[ξ θ];exact r) i
theorem kS(h:TGd K (.n i) v σ H Q):u8 i v σ H Q:=by obtain⟨Hc,Hb,H0,ρ,d,ax,I,r,e,q⟩:=h;simp only[K6,Option.some.injEq]at e;subst e;exact q _ (I.putI r i)
def Dn:List Nat->TGs
 | []=>Pr
 |i::is=>Sv (u8 i) (Dn is)
theorem Lr:∀(is:List Nat){ds:List D}{xs:List V}{ρ:DS}{σ:St}{Q:St->Hp->Prop},RS K Hc Hb H0 ρ σ H->RDs K H0 ds xs->ds.length=is.length->(∀ac,RS K Hc Hb H0 (Js is ds ρ) ac H->Q ac H)->Dn is xs σ H Q
 | [],[],_,ρ,σ,Q,I,r,_,q=>by simp only[RDs]at r;subst r;exact q σ I
 | [],_::_,_,_,_,_,_,_,hl,_=>by simp at hl
 |_::_,[],_,_,_,_,_,_,hl,_=>by simp at hl
 |i::is,d::ds,_,ρ,σ,Q,I,r,hl,q=>by simp only[RDs]at r;obtain⟨x,xs,rfl,r1,r2⟩:=r;exact Lr is (I.putI r1 i) r2 (by simpa using hl) q
theorem y83(h:TGd K (.t is) v σ H Q):Y6 is.length (Dn is) v σ H Q:=by
 obtain⟨Hc,Hb,H0,ρ,d,ax,I,r,e,q⟩:=h;simp only[K6]at e;cases d<;>simp only[items,Option.bind_none,Option.bind_some]at e<;>first |cases e |skip
 . rename_i ds;split at e
   . rename_i hl;cases e;simp only[RD]at r;obtain⟨a,xs,rfl,ha,rs⟩:=r;unfold Y6;simp only[I.ext.2.1 a _ ha];exact⟨by rw[<-rs.length];exact hl,Lr is I rs hl q⟩
   . cases e
 . rename_i ds;split at e
   . rename_i hl;cases e;simp only[RD]at r;obtain⟨a,xs,rfl,ha,rs⟩:=r;unfold Y6;simp only[I.ext.2.1 a _ ha];exact⟨by rw[<-rs.length];exact hl,Lr is I rs hl q⟩
   . cases e
noncomputable def Hno:Hp:=fun _=>none
def R0(K:Frag)(J:It)(H0:Hp)(ds:List D):Prop:=
 (∀(i:Nat) d,ds[i]?=some d->∀H H1,Same H0 H1->Same H1 H->J.go i H/\∀x H',J.yld i H x H'->Same H H'/\∃ao,Ext H1 H ao H'/\RD K ao d x)/\∀H,Same H0 H->J.stop ds.length H
def TId(K:Frag)(EX:XW)(kp:Bool)(f:DE->R (List D)):TI:=fun σ H Q=>Same EX.hb H/\∃ρ H0,Same H0 H/\RE K H0 ρ σ/\Rk EX.at (f ρ) fun ds=>∀J H' aa,Same H H'->Ext H0 H aa H'->R0 K J (if kp=true then Hno else aa) ds->Q J H'
def o6(tg:Tg)(g:DS->SR):List D->DS->SR
 | [],ρ=>.nx ρ
 |d::ds,ρ=>match K6 tg d ρ with
  |none=>.st
  |some cC=>match g cC with
   | .nx aA=>o6 tg g ds aA
   | .ct aA=>o6 tg g ds aA
   | .bk aA=>.nx aA
   | .rt d=>.rt d
   | .er x=>.er x
   | .st=>.st
def v6(kp:Bool)(m:List Bool)(f:DE->R (List D))(tg:Tg)(g:DS->SR):DS->SR:=fun ρ=>(f (vis m ρ)).toS fun ds=>o6 tg g ds (j9 kp m ρ)
def Ext.base(a:Ext Hc Hb gU H)(b:Ext gU Hb H0 H'):Ext Hc Hb H0 H':=⟨a.1.trans b.1,b.2.1,fun c h1 h2=>b.nt h1 (a.2.2 c h1 h2)⟩
def RS.base(a:Ext Hc Hb gU H1)(I:RS K gU Hb H0 ρ σ H):RS K Hc Hb H0 ρ σ H:=⟨I.sb,a.base I.ext,I.len,I.im,I.ow,I.ap⟩
def RS.self(I:RS K Hc Hb H0 ρ σ H):RS K H0 Hb H0 ρ σ H:=⟨I.sb,⟨Same.refl _,I.ext.2.1,fun _ _ z=>.inl z⟩,I.len,I.im,I.ow,I.ap⟩
def Out.base(a:Ext Hc Hb gU H)(o:Out K fr gU Hb d v H'):Out K fr Hc Hb d v H':=by obtain⟨s,aa,e,r⟩:=o;exact⟨s,aa,a.base e,r⟩
def RS.sees(I:RS K Hc Hb H0 ρ σ H)(s:Same H H')(e:Ext H0 H ao H'):RS K Hc Hb ao ρ σ H':=
 ⟨I.sb.trans s,⟨I.ext.1.trans e.1,e.2.1,fun a h1 h2=>e.nt (I.sb.ne h1) (I.ext.2.2 a h1 h2)⟩,I.len,fun i d q=>by
  obtain⟨v,h1,h2⟩:=I.im i d q;exact⟨v,h1,h2.mono e.1⟩,fun i d q=>by
  obtain⟨a,h1,h2,h3,h4⟩:=I.ow i d q;obtain⟨u,hu,ni⟩:=h4.some;exact⟨a,h1,e.no s hu ni h2,h3,h4.mono e.1 s⟩,I.ap⟩
theorem y84(sb:Same EX.hb Hb)(I1:RS K Hc Hb Hn ρ σ H1)(fx:R0 K J Hn ds)(h:SK K EX fr Hc Hb De (o6 tg g ds ρ)):qb J (TGd K tg) (TSd K EX fr g) De σ H1:=by
 have mw:Ext Hc Hb Hn H1:=I1.ext;refine⟨fun i mm σ H=>mm=ds.length - i/\i<=ds.length/\∃ρ H0,RS K Hn Hb H0 ρ σ H/\SK K EX fr Hc Hb De (o6 tg g (ds.drop i) ρ),⟨ds.length,by simp,DC _,_,Hn,I1.self,h⟩,?_⟩;rintro i mm σ H ⟨rfl,hi,ρ,H0,I2,h⟩;have sn:Same Hn H0:=I2.ext.1;by_cases av:i<ds.length
 . have hd:ds[i]?=some ds[i]:=by simp[av]
   obtain⟨my,hy⟩:=fx.1 i _ hd H H0 sn I2.ext.2.1;have mz:ds.drop i=ds[i]::ds.drop (i+1):=HE av;rw[mz]at h;refine .inr ⟨my,fun ac H'=>∃ax aa,RS K Hn Hb aa ax ac H'/\SK K EX fr Hc Hb De (o6 tg g (ds.drop (i+1)) ax),fun ac H' ⟨ax,aa,q⟩=>⟨ds.length - (i+1),by omega,rfl,av,ax,aa,q⟩,fun x H' y=>?_⟩;obtain⟨s3,H3,e3,r3⟩:=hy x H' y;have I3:=I2.sees s3 e3;unfold o6 at h;split at h
   . exact h.elim
   . rename_i cC q1;refine⟨Hn,Hb,H3,ρ,ds[i],cC,I3,r3,q1,fun ac I4=>⟨Hn,Hb,H3,cC,sb,I4,?_⟩⟩;cases qg:g cC with
     |nx aA=>rw[qg]at h;exact fun dM H5 dB I5=>⟨aA,dB,I5,h⟩
     |ct aA=>rw[qg]at h;exact fun dM H5 dB I5=>⟨aA,dB,I5,h⟩
     |bk aA=>rw[qg]at h;exact fun dM H5 dB I5=>h dM H5 dB (I5.base mw)
     |rt d=>rw[qg]at h;exact fun v H5 o=>h v H5 (o.base mw)
     |er x=>rw[qg]at h;exact h
     |st=>rw[qg]at h;exact h
 . have e:i=ds.length:=by omega
   subst e;rw[List.drop_length]at h;refine .inl ⟨fx.2 H (sn.trans I2.ext.2.1),?_⟩;exact h σ H H0 (I2.base mw)
theorem Pj(h:TSd K EX fr (v6 kp m f tg g) De σ H):Pt (TId K EX kp f) (TGd K tg) (TSd K EX fr g) De σ H:=by
 obtain⟨Hc,Hb,H0,ρ,sb,I,h⟩:=h;unfold v6 at h;rw[SK.toS]at h;refine⟨sb.trans I.sb,vis m ρ,HeOf m ρ σ H0 H,I.heH m,I.re m,h.mono fun ds h J H1 ao s1 e1 it=>?_⟩;obtain⟨Hn,I1,tk,eq,hn,sub⟩:=I.frame s1 e1 kp;have fx:R0 K J Hn ds:=by
  cases kp with
  |true=>
   rw[ζ rfl]at it
   exact⟨fun i d q H H1 a b=>it.1 i d q H H1 (fun _ _ z=>nomatch z) b,fun H a=>it.2 H fun _ _ z=>nomatch z⟩
  |false=>rw[ξ θ,<-eq rfl]at it;exact it
 exact y84 sb I1 fx h
def u9(t:DE->R Bool)(g:DS->SR):Nat->DS->SR
 | 0,_=>.st
 |n+1,ρ=>(t (see ρ)).toS fun b=>if b=true then(match g ρ with
  | .nx aA=>u9 t g n aA
  | .ct aA=>u9 t g n aA
  | .bk aA=>.nx aA
  | .rt d=>.rt d
  | .er x=>.er x
  | .st=>.st) else .nx ρ
def C5(n:Nat)(t:DE->R Bool)(g:DS->SR):DS->SR:=u9 t g n
theorem ya(h:TSd K EX fr (C5 n t g) De σ H):Tf (TTd K EX t) (TSd K EX fr g) De σ H:=by
 obtain⟨Hc,Hb,H0,ρ,sb,I,h⟩:=h;refine⟨fun mm σ H=>∃ρ H0,RS K Hc Hb H0 ρ σ H/\SK K EX fr Hc Hb De (u9 t g mm ρ),⟨n,ρ,H0,I,h⟩,?_⟩;rintro mm σ H ⟨ρ,H0,I,h⟩;cases mm with
 |zero=>exact h.elim
 |succ mm=>
  unfold u9 at h
  rw[SK.toS]at h
  refine I.tt sb h fun b h H' I'=>?_
  cases b with
  |false=>exact h σ H' H0 I'
  |true=>
   rw[ζ rfl]at h⊢
   refine⟨fun ac H'=>∃ax aa,RS K Hc Hb aa ax ac H'/\SK K EX fr Hc Hb De (u9 t g mm ax),fun ac H' q=>⟨mm,Nat.lt_succ_self _,q⟩,Hc,Hb,H0,ρ,sb,I',?_⟩
   cases qg:g ρ with
   |nx aA=>rw[qg]at h;exact fun dM H5 dB I5=>⟨aA,dB,I5,h⟩
   |ct aA=>rw[qg]at h;exact fun dM H5 dB I5=>⟨aA,dB,I5,h⟩
   |bk aA=>rw[qg]at h;exact fun dM H5 dB I5=>h dM H5 dB I5
   |rt d=>rw[qg]at h;exact fun v H5 o=>h v H5 o
   |er x=>rw[qg]at h;exact h
   |st=>rw[qg]at h;exact h
noncomputable def R.noE{α:Type}(r:R α):R α:=match r with
 | .er _=>.st
 |r=>r
def Rk.noE{α:Type}{EX sP:Ex->Prop}{r:R α}{k:α->Prop}(h:Rk EX r.noE k):Rk sP r k:=by
 cases r with
 |ok a=>exact h
 |er x=>exact h.elim
 |st=>exact h
def BD(K:Frag)(bn:D->Option (List D))(B:V->Hp->(List V->Hp->Prop)->Prop):Prop:=∀(H0 H:Hp)(x:V)(d:D)(ds:List D)(Q:List V->Hp->Prop),Same H0 H->RD K H0 d x->bn d=some ds->(∀vs,RDs K H0 ds vs->Q vs H)->B x H Q
noncomputable def b1:D->Option (List D):=fun d=>some [d]
noncomputable def bT(n:Nat):D->Option (List D)
 | .tup ds=>if ds.length=n then some ds else none
 |_=>none
theorem kR:BD K b1 cB1:=fun H0 H x d ds Q s r e q=>by simp only[b1,Option.some.injEq]at e;subst e;exact q [x] (.one r)
theorem kQ:BD K (bT n) (cBT n):=fun H0 H x d ds Q s r e q=>by
 cases d<;>simp only[bT]at e<;>first |cases e |skip
 rename_i es;split at e
 . rename_i hl;cases e;simp only[RD]at r;obtain⟨a,xs,rfl,ha,rs⟩:=r;unfold cBT;simp only[s a _ ha];exact⟨by rw[<-rs.length];exact hl,q xs rs⟩
 . cases e
noncomputable def sel(ix:List Nat)(ρ:DE):DE:=ix.map fun j=>(ρ[j]?).getD none
def z6(bn:D->Option (List D))(t:DE->R Bool)(f:DE->R D)(cs:DE):List D->R (List D)
 | []=>.ok []
 |d::ds=>(R.of (bn d)).bind fun bs=>(t (bs.map some++cs)).noE.bind fun b=>if b=true then(f (bs.map some++cs)).noE.bind fun y=>(z6 bn t f cs ds).bind fun ys=>.ok (y::ys) else z6 bn t f cs ds
def j7(fi:DE->R (List D))(bn:D->Option (List D))(ix:List Nat)(t:DE->R Bool)(f:DE->R D):DE->R D:=fun ρ=>(fi ρ).bind fun ds=>if ds.length<=100000 then(z6 bn t f (sel ix ρ) ds).bind fun ys=>.ok (.lst ys) else .st
def RE.sel{ρ:DE}{vs:List V}{ds:List D}(h:RE K H0 ρ σ)(r:RDs K H0 ds vs)(ix:List Nat):RE K H0 (ds.map some++sel ix ρ) (vs.map some++E9 ix σ):=by
 have hl:=r.length;refine⟨by simp[L2.sel,E9,hl],fun i d e=>?_⟩;by_cases hi:i<ds.length
 . rw[EL (by simpa using hi),CJ]at e;rw[EL (by simpa [<-hl] using hi),CJ];cases q:ds[i]? with
   |none=>rw[q]at e;cases e
   |some d'=>
    rw[q]at e;cases e
    obtain⟨x,h1,h2⟩:=r.get' q
    exact⟨x,by rw[h1];rfl,h2⟩
 . rw[DH (by simpa using hi)]at e;rw[DH (by simpa [<-hl] using hi)];simp only[bI]at e⊢;rw[<-hl];unfold L2.sel at e;unfold E9;rw[CJ]at e⊢;cases q:ix[i - ds.length]? with
   |none=>rw[q]at e;cases e
   |some j=>
    rw[q]at e
    simp only[CO,Option.some.injEq]at e⊢
    cases qj:ρ[j]? with
    |none=>rw[qj]at e;cases e
    |some o=>
     rw[qj]at e
     simp only[Option.getD_some]at e
     subst e
     obtain⟨v,h1,h2⟩:=h.2 j d qj
     exact⟨v,by rw[h1];rfl,h2⟩
def Ez(h:n<100000):n<sizeLine:=CG h (by decide)
theorem xZ(hW:Same W.hb EX.hb)(hB:BD K bn B)(fS:∀σ H Q,TTd K F0 t σ H Q->tt σ H Q)
  (h:TEd K EX true (j7 fi bn ix t f) σ H Q):L7 (TId K EX kp fi) B ix tt (TEd K W false f) σ H Q:=by
 obtain⟨sx,ρ,H0,s,e,h⟩:=h
 unfold j7 at h
 rw[Rk.bind]at h
 refine⟨sx,ρ,H0,s,e,h.mono fun ds h J H1 ao s1 e1 it D hD=>?_⟩
 split at h
 . rename_i hsz;rw[Rk.bind]at h;have fx:R0 K J ao ds:=by
    cases kp with
    |true=>rw[ζ rfl]at it;exact⟨fun i d q H H1 a b=>it.1 i d q H H1 (fun _ _ z=>nomatch z) b,fun H a=>it.2 H fun _ _ z=>nomatch z⟩
    |false=>rw[ξ θ]at it;exact it
   have e':=e.mono e1.1;have sQ:ao D=none:=e1.2.1.none hD;refine⟨fun i mm ys H2=>mm=ds.length - i/\i<=ds.length/\ys.length<=i/\∃acc aM,Same H1 H2/\H2 D=some (.lst ys)/\Ext ao H1 aM H2/\aM D=none/\RDs K aM acc ys /\
    Rk EX.at (z6 bn t f (L2.sel ix ρ) (ds.drop i)) fun rest=>∀v H',Out K true H0 H (.lst (acc++rest)) v H'->Q v H',⟨ds.length,by simp,DC _,η _,[],ao,Same.upd_new hD,k7,(Ext.refl e1.2.1).grow (Same.upd_new hD),sQ,.nil,h⟩,?_⟩
   rintro i mm ys H2 ⟨rfl,hi,fQ,acc,aM,s2,fy,e2,lz,r2,h⟩;refine⟨fy,?_⟩;by_cases av:i<ds.length
   . have hd:ds[i]?=some ds[i]:=by simp[av]
     obtain⟨my,hy⟩:=fx.1 i _ hd H2 aM e2.1 e2.2.1;have mz:ds.drop i=ds[i]::ds.drop (i+1):=HE av;rw[mz]at h;unfold z6 at h;rw[Rk.bind]at h;obtain⟨bs,sR,h⟩:=h.of;rw[Rk.bind]at h;refine .inr ⟨my,fun x H3 y=>?_⟩;obtain⟨s3,dA,e3,r3⟩:=hy x H3 y;refine hB dA H3 x _ bs _ e3.2.1 r3 sR fun vs sS=>?_
     have en:=(e'.mono (e2.1.trans e3.1)).sel sS ix;have sT:=e2.trans s2 e3;refine fS _ _ _ ⟨F0.same _,_,dA,e3.2.1,en,(Rk.noE h).mono fun b h H4 s4=>?_⟩;have iG:=s2.trans (s3.trans s4);have mC:H4 D=some (.lst ys):=s4 _ _ (s3 _ _ fy);have lA:dA D=none:=e3.no s3 fy (fun z=>z) lz;have mD:Ext ao H1 dA H4:=sT.grow s4;cases b with
     |false=>
      rw[ξ θ]at h
      dsimp only
      rw[ξ θ]
      exact⟨ds.length - (i+1),by lia,rfl,av,by lia,acc,dA,iG,mC,mD,lA,r2.mono e3.1,h⟩
     |true=>
      rw[ζ rfl]at h
      dsimp only
      rw[ζ rfl]
      rw[Rk.bind]at h
      refine⟨hW.trans (sx.trans (s1.trans iG)),_,dA,mD.2.1,en,(Rk.noE h).mono fun y h w H5 o5=>?_⟩
      obtain⟨s5,oZ,e5,r5⟩:=o5.rd
      have sU:H5 D=some (.lst ys):=s5 _ _ mC
      have lC:oZ D=none:=e5.no s5 mC (fun z=>z) lA
      have mE:=mD.trans iG e5
      rw[Rk.bind]at h
      refine⟨sU,Ez (by lia),ds.length - (i+1),by lia,rfl,av,by rw[χ];show ys.length+1<=i+1;lia,acc++[y],oZ,(iG.trans s5).upd_at hD,k7,⟨mE.1,mE.2.1.upd_at lC,mE.2.2⟩,lC,((r2.mono (e3.1.trans e5.1))).append (.one r5),?_⟩
      exact h.mono fun rest h v H' o=>h v H' (by simpa using o)
   . have ei:i=ds.length:=by lia
     subst ei;rw[List.drop_length]at h;refine .inl ⟨fx.2 H2 (e2.1.trans e2.2.1),h _ H2 ?_⟩;rw[CT];refine Out.after s1 e1 (.fresh s2 e2 hD lz ?_);simp only[OB];exact⟨ys,fy,r2⟩
 . exact h.elim
def Dm(hB:BD K bn B)(fS:∀σ H Q,TTd K F0 t σ H Q->tt σ H Q)
 (h:TEd K EX true (j7 fi bn ix t f) σ H Q):L7 (TId K EX kp fi) B ix tt (TEd K F0 false f) σ H Q:=xZ (F0.same _) hB fS h
noncomputable def mOf(fr:Bool)(n k:Nat)(g:DS->SR):List D->R D:=fun ds=>if ds.length=n then(match g (ds.map .im++List.replicate k .em) with
 | .rt d=>.ok d
 | .nx _=>if fr=true then .st else .ok .non
 | .er x=>.er x
 |_=>.st) else .st
def XFs(K:Frag)(x:Ex)(od:Option Addr)(H:Hp):Prop:=x.fs=[]\/∃(dx:Addr)(vs:List V)(ob:Obj),od=some dx/\H dx=some (.frz ob (.xd ((n6 x.cls).zip vs)))/\(i5 x.fs=true/\pls x.fs=true)/\RDs K H x.fs vs
def xNm(K:Frag)(mg:Str->Option Value)(E:XK)(x:Ex)(H:Hp):Prop:=∃C,mg (x.cls:Str)=some (.ref C)/\∀od,XFs K x od H->E (.ref C) od H
def spD(K:Frag)(mg:Str->Option Value)(fr:Bool)(m:List D->R D)(n:Nat):Sp:=fun vs H Q E=>∃ds H0,Same H0 H/\RDs K H0 ds vs/\ds.length=n/\Rk (XW.at ⟨H,xNm K mg E⟩) (m ds) fun d=>∀v H',Out K fr H0 H d v H'->Q v H'
noncomputable def Dl(sp:Sp)(E:XK)(t:TA):TE:=fun σ H Q=>t σ H fun vs H1=>sp vs H1 Q E
theorem vC{mg:Str->Option Value}{E:XK}{m:List D->R D}{n:Nat}{fs:DE->R (List D)}{Q:VK}(hl:∀ds,ds.length≠n->m ds=.st)(hE:∀x H,EX.p x H->xNm K mg E x H)(h:TEd K EX fr (d8 m fs) σ H Q):Dl (spD K mg fr m n) E (TAd K EX fs) σ H Q:=by
 obtain⟨sx,ρ,H0,s,e,h⟩:=h;unfold d8 at h;rw[Rk.bind]at h;refine TAd.go sx s e h fun ds h vs H1 ao s1 e1 r1=>?_
 refine⟨ds,ao,e1.2.1,r1,?_,?_⟩
 . apply CB;intro hn;rw[hl ds hn]at h;exact h
 . cases q:m ds with
   |ok d=>rw[q]at h;exact fun v H' o=>h v H' (o.after s1 e1)
   |er x=>rw[q]at h;exact fun H' s'=>hE x H' (h H' ((sx.trans s1).trans s'))
   |st=>rw[q]at h;exact h
def Uz(ds:List D)(h:ds.length≠n):mOf fr n k g ds=.st:=by unfold mOf;rw[ξ h]
def zC(s:Same H0 H)(r:RDs K H0 ds vs)(k:Nat):RS K H0 H H0 (ds.map .im++List.replicate k .em) (vs.map some++List.replicate k none) H:=by
 have hl:=r.length;have lE:∀(i:Nat) d,(ds.map Sl.im++List.replicate k Sl.em)[i]?≠some (.ow d):=fun i d q=>by
  rcases CN.mp (DQ q) with z |z
  . obtain⟨_,_,z⟩:=CF.mp z;cases z
  . have:=(List.mem_replicate.mp z).2;cases this
 refine⟨Same.refl _,.refl s,by simp[hl],fun i d q=>?_,fun i d q=>absurd q (lE i d),fun i j d e a q=>absurd q (lE i d)⟩;by_cases hi:i<ds.length
 . rw[EL (by simpa using hi),CJ]at q;rw[EL (by simpa [<-hl] using hi),CJ];cases qd:ds[i]? with
   |none=>rw[qd]at q;cases q
   |some d'=>
    rw[qd]at q
    simp only[CO,Option.some.injEq,Sl.im.injEq]at q
    subst q
    obtain⟨x,h1,h2⟩:=r.get' qd
    exact⟨x,by rw[h1];rfl,h2⟩
 . rw[DH (by simpa using hi)]at q;have:=(List.mem_replicate.mp (DQ q)).2;cases this
theorem Sr(h:spD K mg fr (mOf fr n k g) n vs H Q E) :
  TSd K ⟨H,xNm K mg E⟩ fr g { nx:=fun _ H'=>Q .non H',rt:=Q } (vs.map some++List.replicate k none) H:=by
 obtain⟨ds,H0,s,r,hn,h⟩:=h
 refine⟨H0,H,H0,_,Same.refl _,zC s r k,?_⟩
 unfold mOf at h
 rw[ζ hn]at h
 cases q:g (ds.map .im++List.replicate k .em) with
 |nx ρ=>
  rw[q]at h
  cases fr with
  |true=>exact h.elim
  |false=>exact fun σ H' aa I=>h _ H' (.val I.sb I.ext (by simp only[RD]))
 |rt d=>rw[q]at h;exact h
 |er x=>rw[q]at h;exact h
 |bk ρ=>rw[q]at h;exact h.elim
 |ct ρ=>rw[q]at h;exact h.elim
 |st=>rw[q]at h;exact h.elim
end
structure Flt{α:Type}(t:Sem α):Prop where
 go:∀{M:Model}{Γ:PySem.Ctx}{Q Q':α->Pos->Shared->Prop}{E E':Value->Pos->Shared->Prop}{p:Pos}{s:Shared},
 t.wp M Γ Q E p s->t.wp M Γ Q' E' p s->t.wp M Γ (fun a p s=>Q a p s/\Q' a p s) (fun a p s=>E a p s/\E' a p s) p s
def Flt.bind(h:Flt t)(k:∀a,Flt (f a)):Flt (t >>= f):=by refine⟨fun x y=>?_⟩;rw[Sem.wp_bind']at x y⊢;exact Sem.wp_mono _ _ _ (fun a _ _ z=>(k a).go z.1 z.2) (fun _ _ _ z=>z) _ _ (h.go x y)
def Flt.pure(a:α):Flt (Pure.pure a:Sem α):=⟨fun x y=>⟨x,y⟩⟩
def Flt.uns(w:String):Flt (unsupported w:Sem α):=⟨fun x _=>x.elim⟩
def Flt.stack:Flt PySem.stack:=⟨fun x y=>⟨x,y⟩⟩
def Flt.alloc(o:Obj):Flt (PySem.alloc o):=⟨fun x y=>⟨x,y⟩⟩
def Flt.update(a:Addr)(f:Obj->Obj):Flt (PySem.update a f):=⟨fun x y=>⟨x.1,x.2,y.2⟩⟩
def Flt.load(a:Addr):Flt (PySem.load a):=⟨fun⟨o,e,x⟩ ⟨o',e',y⟩=>by rw[e]at e';cases e';exact⟨o,e,x,y⟩⟩
def Flt.cells(v:Value):Flt (fieldsOf v):=by cases v<;>first |exact .uns _ |exact .bind (.load _) fun o=>by split<;>first |exact .pure _ |exact .uns _
def Flt.field(v:Value)(i:Nat):Flt (PySem.field v i):=.bind (.cells v) fun vs=>by split<;>first |exact .pure _ |exact .uns _
def Flt.put(v:Value)(i:Nat)(x:Value):Flt (setField v i x):=by cases v<;>first |exact .uns _ |exact .bind (.load _) fun o=>by split<;>first |exact .uns _ | (split<;>first |exact .update _ _ |exact .uns _)
def Flt.flight(e:Value)(f:Option Addr):Flt (setFlight e f):=.bind (.field e 1) fun tb=>by split<;>first |exact .put _ _ _ |exact .pure _
theorem Flt.ready:∀l:List Env,Flt (readyFrames l)
 | []=>.pure _
 |env::outer=>by
  unfold readyFrames;split<;>first |exact .uns _ |skip
  refine .bind (.load _) fun o=>?_
  split<;>first |exact .pure _ |skip
  refine .bind ?_ fun b=>.bind ?_ fun v=>.bind (.update _ _) fun _=>Flt.ready outer
  . unfold behindIsImport;split<;>first |exact .pure _ |skip
    split<;>first |exact .pure _ |exact .bind (.field _ _) fun _=>.pure _
  . unfold keptBack;split<;>first |exact .pure _ |skip
    split<;>first |exact .pure _ |exact .bind (.bind .stack fun _=>.pure _) fun _=>.pure _
def Flt.frame(env:Env):Flt (frameOf env):=.bind (.bind .stack fun _=>.pure _) fun es=>.bind (by
 unfold frameObject;split
 . exact .pure _
 . exact .bind (.ready _) fun _=>.pure _) fun f=>by split<;>first |exact .pure _ |exact .uns _
def Flt.fields(vs:List Value):Flt (newFields "traceback" vs):=by
 have h:Flt (newObjAsIs (.type "traceback") (.fields vs.toArray)):=.bind (.alloc _) fun a=>.pure _
 unfold newFields newObj;dsimp only;split
 . exact .bind (.uns _) fun _=>h
 . exact h
def Flt.entry(env:Env)(e head:Value)(L:Addr)(b:Bool):Flt (do let a <-frameOf env;let pl <-entryPlaceOf L b;let b <-EntryCells.newEntry head a .none (rawInt L) .none pl;setField e 1 b):=
 .bind (.frame env) fun _=>.bind (.bind .stack fun AN=>by split<;>exact .pure _) fun _=>.bind (.fields _) fun _=>.put _ _ _
def Flt.note(e:Value)(env:Env):Flt (noteFrame e env):=by
 unfold noteFrame;split<;>first |exact .uns _ |skip
 refine .bind (.field _ _) fun head=>?_
 split
 . refine .bind (.field _ _) fun x=>?_
   split
   . exact .pure _
   . exact .bind (.put _ _ _) fun _=>.entry _ _ _ _ _
 . exact .entry _ _ _ _ _
def Mj(f:Flt t)(h:wpAny M A t Q E s)(k:wpAny M A t Q' E' s):wpAny M A t (fun a s=>Q a s/\Q' a s) (fun a s=>E a s/\E' a s) s:=
 fun Γ p pc=>f.go (h Γ p pc) (k Γ p pc)
section
variable {M:Model}{A:Around}{E:Value->Shared->Prop}{s:Shared}{base:Heap}{env:Env}{outer:List Env}{L e:Addr}{cls a0 fl:Value}{od:Option Addr}
def r6(e:Addr)(od:Option Addr)(h:Heap):Prop:=∀o,h.get? e=some o->o.dict=od
def zB(o:Obj)(f:Array Value->Array Value):(Obj.mapFields f o).dict=o.dict:=by unfold Obj.mapFields;split<;>rfl
def Ld(d:r6 e od h)(hb:∃o,h.get? b=some o/\∃vs,o.data=.fields vs):r6 e od (h.update b (Obj.mapFields f)):=by
 intro o ho;by_cases q:b=e
 . subst q;obtain⟨ob,h1,vs,h2⟩:=hb;rw[FY _ h1 (Obj.isFreed_of_fields (Obj.data_mapFields h2 f))]at ho;cases ho;rw[zB];exact d _ h1
 . rw[DL _ _ q]at ho;exact d o ho
def Uy(T:Addr):(Value.ref T != Value.none)=true:=by simp
def vB(L:Addr):(Value.none==rawInt L)=false:=by simp[rawInt]
def zfc(ht:s.heap.TracedAtW base e cls a0 fl)(d:r6 e od s.heap):wpAny M A (setFlight (.ref e) none) (fun _ s'=>r6 e od s'.heap) E s:=by obtain⟨oe,vs,T,oT,ts,he,-,hd,h1,-,-,hT,cr,h3⟩:=ht;have mF:=(FV.mp h3).1;unfold setFlight;exact δ (wpAny_field he hd h1 (by rw[ζ (Uy T)];exact wpAny_setField hT cr mF (Ld d ⟨_,hT,_,cr⟩)))
theorem Zp(bU:A.frames=some (env::outer))(hl:s.heap.FunFrames base (env::outer))(hf:env.frame=some L)(he:s.heap.get? e=some oe)(hd:oe.data=.fields vs)(hsz:1<vs.size)(d:r6 e od s.heap) :
  wpAny M A (do let a <-frameOf env;let pl <-entryPlaceOf L nE;let b <-EntryCells.newEntry head a .none (rawInt L) .none pl;setField (.ref e) 1 b) (fun _ s'=>r6 e od s'.heap) E s:=by
 have nf:e∉(env::outer).filterMap (·.frame):=fun hm=>by obtain⟨_,o,ho,sV⟩:=hl.mem hm;rw[he]at ho;cases ho;exact sV vs hd
 refine δ (wpAny_frameOf_fun bU hl hf fun h1 hs=>δ (wpAny_entryPlaceOf fun pl hpl=>?_))
 unfold EntryCells.newEntry newFields
 refine δ (wpAny_newObj_type ?_ (hpl.sizeOk5 _ _ _ _ _))
 have mG:h1.get? e=some oe:=(hs.2.1 e nf).trans he
 have eV:=τ (h:=h1) { cls:=.type "traceback",dict:=none,data:=.fields ([head,.ref L,.none,rawInt L,.none]++(if pl.isEmpty then List.replicate 6 Value.none else pl)).toArray } mG
 refine wpAny_setField eV hd hsz (Ld (fun o ho=>?_) ⟨_,eV,_,hd⟩)
 rw[eV]at ho;cases ho
 exact d _ he
def zkz(bU:A.frames=some (env::outer))(hl:s.heap.FunFrames base (env::outer))(hf:env.frame=some L)(ht:s.heap.TracedW base e cls a0)(d:r6 e od s.heap) :
  wpAny M A (noteFrame (.ref e) env) (fun _ s'=>r6 e od s'.heap) E s:=by
 obtain⟨oe,vs,T,oT,ts,he,-,hd,h1,-,gW,hT,cr,h3⟩:=ht
 have in1:=(FV.mp h1).1
 have mF:=(FV.mp h3).1
 have pf:∀b,T≠b->(s.heap.update T (Obj.mapFields (·.setIfInBounds 3 Value.none))).get? b=s.heap.get? b:=fun b hb=>DL _ _ hb
 have fr:(s.heap.update T (Obj.mapFields (·.setIfInBounds 3 Value.none))).FunFrames base (env::outer):=hl.of_keeps fun b o hb nf=>⟨o,(pf b fun z=>by rw[<-z,hT]at hb;cases hb;exact nf ts cr).trans hb,rfl⟩
 unfold noteFrame
 simp only[hf]
 exact δ (wpAny_field he hd h1 (by rw[ζ (Uy T)];exact δ (wpAny_field hT cr h3 (by rw[ξ (by rw[vB];exact θ)];exact δ (wpAny_setField hT cr mF (Zp bU fr hf ((pf e gW).trans he) hd in1 (Ld d ⟨_,hT,_,cr⟩)))))))
end
section
variable {M:Model}{A:Around}{E:Value->Shared->Prop}{s:Shared}{base:Heap}{env:Env}{outer:List Env}{L e:Addr}{cls a0:Value}{od:Option Addr}{Q:Unit->Shared->Prop}
def Ux(hh:Heap.HeldW base (env::outer) e cls a0 L s.heap)(d:r6 e od s.heap)(hQ:∀h',Heap.FlyingW base (env::outer) e cls a0 h'->s.heap.UpToSlots h'->r6 e od h'->Q () { s with heap:=h' }):wpAny M A (setFlight (.ref e) none) Q E s:=
 EM (Mj (E:=E) (E':=E) (.flight _ _) (wpAny_landsW hh (Q:=fun _ s'=>∃h',s'={ s with heap:=h' }/\Heap.FlyingW base (env::outer) e cls a0 h'/\s.heap.UpToSlots h') fun h' f u=>⟨h',rfl,f,u⟩) (zfc hh.2.2.2 d))
  (fun _ s' ⟨⟨h',e1,f,u⟩,d'⟩=>by subst e1;exact hQ h' f u d') fun _ _ z=>z.1
def xY(bU:A.frames=some (env::outer))(hf:env.frame=some L)(cG:Heap.FlyingW base (env::outer) e cls a0 s.heap)(d:r6 e od s.heap)
  (hQ:∀h',Heap.HeldW base (env::outer) e cls a0 L h'->s.heap.UpToSlots h'->r6 e od h'->Q () { s with heap:=h' }):wpAny M A (noteFrame (.ref e) env) Q E s:=
 EM (Mj (E:=E) (E':=E) (.note _ _) (wpAny_looks_onW bU hf cG (Q:=fun _ s'=>∃h',s'={ s with heap:=h' }/\Heap.HeldW base (env::outer) e cls a0 L h'/\s.heap.UpToSlots h') fun h' f u=>⟨h',rfl,f,u⟩) (zkz bU cG.2.2.1 hf cG.2.2.2 d))
  (fun _ s' ⟨⟨h',e1,f,u⟩,d'⟩=>by subst e1;exact hQ h' f u d') fun _ _ z=>z.1
def zA(bU:A.frames=some (env::outer))(hf:env.frame=some L)(cG:Heap.FlyingW base (env::outer) e cls a0 s.heap)(d:r6 e od s.heap)
  (hQ:∀h',Heap.FlyingW base outer e cls a0 h'->s.heap.UpToSlots h'->r6 e od h'->Q () { s with heap:=h' }):wpAny M A (leaving env (.ref e)) Q E s:=by
 unfold leaving
 refine δ (xY bU hf cG d fun h1 hh u1 d1=>Ux (s:={ s with heap:=h1 }) hh d1 fun h2 f u2 d2=>hQ h2 ?_ (u1.trans u2) d2)
 obtain⟨k1,k2,⟨_,_,k3⟩,k4⟩:=f
 exact⟨k1,k2,k3,k4⟩
def xX(bU:A.frames=some (env::outer))(hl:s.heap.FunFrames base (env::outer))(hf:env.frame=some L)(he:s.heap.get? e=some oe)(sW:base.StaysIn s.heap)(ph:base.get? e=none)(hd:oe.data=.fields vs)(h1:vs[1]?=some .none)(h0:vs[0]?=some a0)(d:r6 e od s.heap)
  (hQ:∀h',Heap.FlyingW base outer e oe.cls a0 h'->s.heap.UpToSlots h'->r6 e od h'->Q () { s with heap:=h' }):wpAny M A (leaving env (.ref e)) Q E s:=by
 have hsz:=(FV.mp h1).1
 unfold leaving noteFrame
 simp only[hf]
 refine δ (δ (wpAny_field he hd h1 ?_))
 rw[ξ (by decide)]
 refine EM (Mj (E:=E) (E':=E) (.entry _ _ _ _ _) (wpAny_entryW bU hl hf he sW ph hd hsz h0 (Q:=fun _ s'=>∃h',s'={ s with heap:=h' }/\Heap.NotedW base (env::outer) e oe.cls a0 (rawInt L) s.heap h') fun h' n=>⟨h',rfl,n⟩) (Zp bU hl hf he hd hsz d)) (fun _ s' z=>?_) fun _ _ z=>z.1
 obtain⟨⟨h',e1,n1,n2,n3,n4⟩,d1⟩:=z
 subst e1
 refine Ux (s:={ s with heap:=h' }) ⟨n1,ph,n2,n3⟩ d1 fun h2 f u2 d2=>hQ h2 ?_ (Heap.UpToSlots.trans n4 u2) d2
 obtain⟨k1,k2,⟨_,_,k3⟩,k4⟩:=f
 exact⟨k1,k2,k3,k4⟩
end
def ObjOk.there(x:ObjOk P w H h a o):∃ob,h.get? a=some ob:=by
 induction o with
 |lst xs=>obtain⟨_,_,_,_,e⟩:=x;exact⟨_,e⟩
 |tup xs=>obtain⟨_,_,_,ob,e,_⟩:=x;exact⟨_,e⟩
 |dK kvs=>obtain⟨_,_,_,_,o,_,_,e,_⟩:=x;exact⟨_,e⟩
 |dT kvs=>obtain⟨_,_,_,_,o,_,_,e,_⟩:=x;exact⟨_,e⟩
 |set S n=>obtain⟨o,_,_,_,e,_⟩:=x;exact⟨_,e⟩
 |ins C dx fs=>obtain⟨_,_,_,e,_⟩:=x;exact⟨_,e⟩
 |own y=>exact x
 |xd fs=>obtain⟨_,⟨_,_,_,e,_⟩,_⟩:=x;exact⟨_,e⟩
 |rng lo hi=>obtain⟨_,_,_,e⟩:=x;exact⟨_,e⟩
 |frz ob u ih=>exact⟨_,x.1⟩
 |tbl ps=>exact⟨_,x⟩
 |ctb q=>obtain⟨_,e,_⟩:=x;exact⟨_,e⟩
 |met f y=>exact⟨_,x⟩
 |ext φ=>exact x.2.1
def HOk.none(x:HOk P w H h)(e:h.get? a=Option.none):H a=Option.none:=by
 cases q:H a with
 |none=>rfl
 |some o=>
  obtain⟨ob,z⟩:=(x a o q).there
  rw[e]at z;cases z
def Fly(h0:Heap)(H':Hp)(C a:Addr)(od:Option Addr)(h:Heap):Prop:=∃oe vs T oT ts a0,h.get? a=some oe/\oe.cls=.ref C/\vs[0]?=some a0/\oe.data=.fields vs/\vs[1]?=some (.ref T)/\T≠a/\h.get? T=some oT/\oT.data=.fields ts/\ts[3]?=some Value.none /\
 h0.get? a=none/\h0.get? T=none/\H' a=none/\H' T=none/\oe.dict=od/\∀dx,od=some dx->h0.get? dx=none
structure XOut(P:Program)(w:World)(outer:List Env)(H:Hp)(s:Shared)(C a:Addr)(od:Option Addr)(H':Hp)(s':Shared):Prop where
 os:s'.os=s.os
 bare:AllBare s'.gens
 un:Un (frs outer) [] H H' s.heap s'.heap
 hok:HOk P w H' s'.heap
 fly:Fly s.heap H' C a od s'.heap
noncomputable def CX1(P:Program)(w:World):CXT:=fun outer H s E e s'=>∃C a od H',e=.ref a/\XOut P w outer H s C a od H' s'/\E (.ref C) od H'
def Xz(e:(hideAll h l).get? b=none):b∈l\/h.get? b=none:=by
 by_cases hb:b∈l
 . exact .inl hb
 . cases q:h.get? b with
   |none=>exact .inr rfl
   |some o=>rw[hideAll_get l q hb]at e;cases e
section
variable {X:Cx}{pins:List (Addr×Obj)}{σ:List (Option V)}{H1 H2:Hp}{s1 s2:Shared}{h' B:Heap}{Z:List Addr}{C a:Addr}{a0:Value}{od:Option Addr}
def Inv.stack2(I:Inv X pins σ H1 s1)(un:Un (frs X.stack) [] H1 H2 s1.heap s2.heap):s2.heap.FunFrames X.base X.stack:=by
 have all:∀(l:List Env),(∀b∈frs l,b∈frs X.stack)->s1.heap.FunFrames X.base l->s2.heap.FunFrames X.base l:=by
  intro l;induction l with
  |nil=>intro _ _;trivial
  |cons env r ih=>
   intro hs hl
   obtain⟨hk,⟨L,o,hf,hn,ho,hd⟩,hr⟩:=hl
   have hL:L∈frs X.stack:=hs L (by unfold frs;rw[ER,hf];exact gq)
   obtain⟨sl,e⟩:=un.slot L o ho (I.stkFree L hL) hL (by simp)
   exact⟨hk,⟨L,_,hf,hn,e,hd⟩,ih (fun b hb=>hs b (by unfold frs;rw[ER,hf];exact dg _ hb)) hr⟩
 exact all X.stack (fun _ hb=>hb) I.stack
def Zo(I:Inv X pins σ H1 s1)(aU:X.stack=X.env::X.outer)(hex:X.ex=[])(gL:s2.os=s1.os)(ff:AllBare s2.gens)(un:Un (frs X.stack) [] H1 H2 s1.heap s2.heap)(hok:HOk X.prog X.w H2 s2.heap)
  (hZ:∀b∈Z,s1.heap.get? b=none/\H2 b=none) (ha:s1.heap.get? a=none) (fz:H2 a=none) (keep:∀b o,s2.heap.get? b=some o->b∉Z->b∉frs X.stack->h'.get? b=some o)
  (up:s2.heap.UpToSlots h') (hB:∀b,B.get? b=none->b∈frs X.stack\/(s1.heap.get? b=none/\H2 b=none)) (cG:Heap.FlyingW B X.outer a (.ref C) a0 h') (fA:r6 a od h') (mH:∀dx,od=some dx->s1.heap.get? dx=none) :
  XOut X.prog X.w X.outer X.H₀ X.s₀ C a od H2 { s2 with heap:=h' }:=by
 have base:Un X.fs [] X.H₀ H1 X.s₀.heap s1.heap:=hex ▸ I.base
 have F2:=I.stack2 un
 have sub:∀b∈frs X.outer,b∈frs X.stack:=fun b hb=>by
  rw[aU];unfold frs;cases q:X.env.frame with
  |none=>rw[ER,q];exact hb
  |some L=>rw[ER,q];exact dg _ hb
 have ip:∀b o,X.s₀.heap.get? b=some o->b≠X.env.locals:=fun b o e=>CC (CG (π e) I.ok.above)
 have lF:∀b o,X.s₀.heap.get? b=some o->b∉frs X.outer->b∉frs X.stack:=fun b o e hb z=>(eH.mp (I.stkSub b z)).elim (ip b o e) hb
 have dh:∀b,s1.heap.get? b=none->X.s₀.heap.get? b=none:=fun b e=>by
  cases q:X.s₀.heap.get? b with
  |none=>rfl
  |some o=>
   obtain⟨o',z⟩:=base.there b o q (by simp)
   rw[e]at z;cases z
 have pi:∀b o,X.s₀.heap.get? b=some o->b∉Z:=fun b o e hb=>by rw[dh b (hZ b hb).1]at e;cases e
 have il:∀b∈frs X.stack,H2 b=none:=fun b hb=>by obtain⟨_,o,ho,_⟩:=I.stack.mem hb;exact un.free b o ho (I.stkFree b hb) (by simp)
 have fg:∀b∈frs X.stack,∀o,s2.heap.get? b=some o->∃sl,h'.get? b=some { o with slots:=sl }:=fun b hb o e=>by obtain⟨_,o',aY,hd⟩:=F2.mem hb;rw[e]at aY;cases aY;exact up b o e hd
 refine⟨by show s2.os=_;rw[gL,I.os],ff,⟨fun b o e n hb _=>?_,fun b o e n hb _=>?_,fun b o e n _=>?_,fun b o e _=>?_,fun b xs e=>un.tups b xs (base.tups b xs e),fun b o u e=>un.frzs b o u (base.frzs b o u e),fun b ps e=>?_⟩,fun b o e=>?_,?_⟩
 . exact keep b o (un.keep b o (base.keep b o e n hb (by simp)) (base.free b o e n (by simp)) (lF b o e hb) (by simp)) (pi b o e) (lF b o e hb)
 . obtain⟨sl,e1⟩:=base.slot b o e n hb (by simp);obtain⟨iH,e2⟩:=un.slot b _ e1 (base.free b o e n (by simp)) (sub b hb) (by simp);obtain⟨sX,e3⟩:=fg b (sub b hb) _ e2;exact⟨sX,e3⟩
 . obtain⟨o1,e1⟩:=base.there b o e (by simp);exact un.free b o1 e1 (base.free b o e n (by simp)) (by simp)
 . obtain⟨o1,e1⟩:=base.there b o e (by simp);obtain⟨o2,e2⟩:=un.there b o1 e1 (by simp);by_cases hb:b∈frs X.stack
   . obtain⟨sl,e3⟩:=fg b hb _ e2;exact⟨_,e3⟩
   . exact⟨o2,keep b o2 e2 (pi b o e) hb⟩
 . obtain⟨m1,e1⟩:=base.tbls b ps e;obtain⟨m2,e2⟩:=un.tbls b _ e1;exact⟨m1++m2,by rw[e2,Array.append_assoc]⟩
 . refine(hok b o e).stay (fun c v hc q=>keep c v q (fun hz=>?_) fun hf=>?_) (fun _ q=>q) fun _ _ q=>q
   . have:=(hZ c hz).2;rcases hc with rfl |hc
     . rw[e]at this;cases this
     . rw[hc]at this;cases this
   . have:=il c hf;rcases hc with rfl |hc
     . rw[e]at this;cases this
     . rw[hc]at this;cases this
 . obtain⟨_,_,_,oe,vs,T,oT,ts,he,⟨hc,h0⟩,hd,h1,sY,gW,hT,cr,h3⟩:=cG;have pj:s1.heap.get? T=none/\H2 T=none:=by
    rcases hB T sY with z |z
    . obtain⟨_,o',aY,cx⟩:=F2.mem z;obtain⟨sl,e3⟩:=fg T z o' aY;rw[hT]at e3;cases e3;exact absurd cr (cx ts)
    . exact z
   exact⟨oe,vs,T,oT,ts,a0,he,hc,h0,hd,h1,gW,hT,cr,h3,dh a ha,dh T pj.1,fz,pj.2,fA _ he,fun dx e=>dh dx (mH dx e)⟩
theorem zz(I:Inv X pins σ H1 s1)(aU:X.stack=X.env::X.outer)(hex:X.ex=[])(hf:X.env.frame=some X.env.locals)(x:XOut X.prog X.w X.stack H1 s1 C a od H2 s2)
  (h:∀s',XOut X.prog X.w X.outer X.H₀ X.s₀ C a od H2 s'->Q () s'):wpAny (model X.prog X.w) X.A (leaving X.env (.ref a)) Q E s2:=by
 obtain⟨oe,vs,T,oT,ts,a0,he,hc,h0,hd,h1,gW,hT,cr,h3,na,nT,ha,pq,mI,mH⟩:=id x.fly
 have F2:=I.stack2 x.un
 have bG:∀env∈X.stack,∀b,env.frame=some b->b∈a::T::frs X.stack:=fun env he b hb=>dg _ (dg _ (FK.mpr ⟨env,he,hb⟩))
 have bU:X.A.frames=some (X.env::X.outer):=by rw[<-aU];exact I.ok.frames
 refine zA (od:=od) (base:=hideAll s2.heap (a::T::frs X.stack)) (cls:=.ref C) (a0:=a0) bU hf ⟨fun b o q=>PySem.W.of_hideAll _ q,hideAll_none _ (.head _),aU ▸ PySem.W.funFrames_hide F2 bG,?_⟩ (fun o ho=>by rw[he]at ho;cases ho;exact mI) fun h' cG up fA=>h _ (Zo (Z:=[a,T]) I aU hex x.os x.bare x.un x.hok (fun b hb=>?_) na ha (fun b o q hz eO=>cG.1 b o (hideAll_get _ q ?_)) up (fun b q=>?_) cG fA mH)
 . exact⟨oe,vs,T,oT,ts,he,⟨hc,h0⟩,hd,h1,hideAll_none _ (.tail _ (.head _)),gW,hT,cr,h3⟩
 . rcases eH.mp hb with rfl |hb
   . exact⟨na,ha⟩
   . have:b=T:=by simpa using hb
     subst this;exact⟨nT,pq⟩
 . intro z;rcases eH.mp z with rfl |z
   . exact hz (.head _)
   . rcases eH.mp z with rfl |z
     . exact hz (.tail _ (.head _))
     . exact eO z
 . rcases Xz q with z |z
   . rcases eH.mp z with rfl |z
     . exact .inr ⟨na,ha⟩
     . rcases eH.mp z with rfl |z
       . exact .inr ⟨nT,pq⟩
       . exact .inl z
   . refine .inr ⟨?_,x.hok.none z⟩;cases q1:s1.heap.get? b with
     |none=>rfl
     |some o=>
      obtain⟨o',e'⟩:=x.un.there b o q1 (by simp)
      rw[z]at e';cases e'
structure MadeX(h h':Heap)(e C:Addr)(od:Option Addr):Prop where
 new:h.get? e=none
 newd:∀dx,od=some dx->h.get? dx=none
 there:∃oe vs a0,h'.get? e=some oe/\oe.cls=.ref C/\oe.dict=od/\oe.data=.fields vs/\vs[0]?=some a0/\vs[1]?=some .none
theorem zir(I:Inv X pins σ H1 s1)(aU:X.stack=X.env::X.outer)(hex:X.ex=[])(hf:X.env.frame=some X.env.locals)(hx:MadeX s1.heap s2.heap a C od)(hok:HOk X.prog X.w H2 s2.heap)(un:Un (frs X.stack) [] H1 H2 s1.heap s2.heap)(fz:H2 a=none)(gL:s2.os=s1.os)(ff:AllBare s2.gens)
  (h:∀s',XOut X.prog X.w X.outer X.H₀ X.s₀ C a od H2 s'->Q () s'):wpAny (model X.prog X.w) X.A (leaving X.env (.ref a)) Q E s2:=by
 have bG:∀env∈X.stack,∀b,env.frame=some b->b∈a::frs X.stack:=fun env he b hb=>dg _ (FK.mpr ⟨env,he,hb⟩)
 have bU:X.A.frames=some (X.env::X.outer):=by rw[<-aU];exact I.ok.frames
 have F2:=I.stack2 un
 obtain⟨oe,vs,a0,he,hc,mI,hd,h0,h1⟩:=hx.there
 refine xX (od:=od) (base:=hideAll s2.heap (a::frs X.stack)) bU (aU ▸ PySem.W.funFrames_hide F2 bG) hf he (fun b o q=>PySem.W.of_hideAll _ q) (hideAll_none _ (.head _)) hd h1 h0 (fun o ho=>by rw[he]at ho;cases ho;exact mI) fun h' cG up fA=>h _ ?_
 rw[hc]at cG
 refine Zo (B:=hideAll s2.heap (a::frs X.stack)) (Z:=[a]) I aU hex gL ff un hok (fun b hb=>?_) hx.new fz (fun b o q hz eO=>cG.1 b o (hideAll_get _ q ?_)) up (fun b q=>?_) cG fA hx.newd
 . obtain rfl:b=a:=by simpa using hb
   exact⟨hx.new,fz⟩
 . intro z;rcases eH.mp z with rfl |z
   . exact hz (.head _)
   . exact eO z
 . rcases Xz q with z |z
   . rcases eH.mp z with rfl |z
     . exact .inr ⟨hx.new,fz⟩
     . exact .inl z
   . refine .inr ⟨?_,hok.none z⟩;cases q1:s1.heap.get? b with
     |none=>rfl
     |some o=>
      obtain⟨o',e'⟩:=un.there b o q1 (by simp)
      rw[z]at e';cases e'
end
def eOf(K:Frag)(EX:XW)(mg:Str->Option Value):XK:=fun cv od H=>∃x:Ex,EX.p x H/\mg (x.cls:Str)=some cv/\XFs K x od H
structure Lnd(X:Cx)(EX:XW):Prop where
 nm:∀x H,EX.p x H->∃C,X.mg (x.cls:Str)=some (.ref C)
 on:L9 (CX1 X.prog X.w) X (eOf X.K EX X.mg)
 md:∀(pins:List (Addr×Obj))(σ:St)(H H2:Hp)(s:Shared)(a C:Addr)(od:Option Addr)(s':Shared)(x:Ex),Inv X pins σ H s->MadeX s.heap s'.heap a C od->HOk X.prog X.w H2 s'.heap->Un (frs X.stack) [] H H2 s.heap s'.heap->H2 a=none->s'.os=s.os->AllBare s'.gens->X.mg (x.cls:Str)=some (.ref C)->EX.p x H2->XFs X.K x od H2->X.xe (.ref a) s'
def G2:Lnd X F0:=⟨fun _ _ z=>z.elim,fun _ _ _ _ _ _ _ ⟨_,_,_,_,_,_,_,z,_⟩=>z.elim,fun _ _ _ _ _ _ _ _ _ _ _ _ _ _ _ _ _ _ z _=>z.elim⟩
def g7{P:Program}{w:World}{K:Frag}{mg:Str->Option Value}{base:Heap}{N:List Str}{qual:Str}{sc:Scope}{f:Addr}{cdv:Value}{A:Around}{outer:List Env}{s:Shared}{H:Hp}{E:XK} :
  Lnd (C9 (CX1 P w) P w K mg base N qual sc f cdv A outer s H E) ⟨H,xNm K mg E⟩:=by
 refine⟨fun x H ⟨C,hC,_⟩=>⟨C,hC⟩,?_,?_⟩
 . rintro pins σ H1 s1 e s' I ⟨C,a,od,H',rfl,xo,x,⟨C',mJ,hE⟩,cy,hx⟩;have cy:mg (x.cls:Str)=some (.ref C):=cy;rw[mJ]at cy;cases cy;exact zz I rfl rfl rfl xo fun fq y=>⟨_,a,od,H',rfl,y,hE od hx⟩
 . rintro pins σ H1 H2 s1 a C od s' x I hx hok un fz ho hb cy ⟨C',mJ,hE⟩ hf;have cy:mg (x.cls:Str)=some (.ref C):=cy;rw[mJ]at cy;cases cy;exact zir I rfl rfl rfl hx hok un fz ho hb fun fq y=>⟨_,a,od,H2,rfl,y,hE od hf⟩
def i7(P:Program)(w:World)(K:Frag)(mg:Str->Option Value)(base:Heap)(x:Str)(ps:List Str)(k:Nat)(sp:Sp):Prop:=
 ∃f fd,FnOk P w K mg base (CX1 P w) k f fd ps sp/\Binds K fd ps []/\mg x=some (.ref f)/\keepIn K (.ref f)=true
section
variable {X:Cx}{x:Str}{p pos:Pos}{e:Expr}{es:List Expr}{t:TA}{ps:List Str}{k j:Nat}{sp:Sp}{E:XK}
def Uw(G:i7 X.prog X.w X.K X.mg X.base x ps k sp)(hx:L9 (CX1 X.prog X.w) X E)(hr:Room j X.A)(hg:Gl X x)(ha:PA X (e::es) t)(fB:k<=j:=by omega)(aW:(x==("__debug__":Str))=false:=by decide)
  (he:starEach (e::es) X.env=(false,eval e X.env)::starEach es X.env:=by rfl) (hpl:(backTo pos (starEach es X.env)).any (·.1)=false:=by rfl):PE X (.Call (.Name x p) (e::es) [] pos) (Dl sp E t):=by
 obtain⟨f,fd,F,b,m,kp⟩:=G
 refine(yx F (hr.mono fB) hg m kp b .nil hx ha aW he hpl).imp fun σ H Q q=>?_
 unfold Qe
 unfold Dl at q
 simpa only [CT] using q
end
def Fun.okX{P:Program}{w:World}{K:Frag}{mg:Str->Option Value}{base:Heap}{x qual:Str}{st:Stmt}{f:Addr}{fd:FuncData}{N ps:List Str}{k:Nat}{sp:Sp}{CX:CXT}(F:Fun K x qual st f fd)(S:FnScope N ps (d7 st))(len:∀vs H Q E,sp vs H Q E->vs.length=ps.length)
  (bg:∀(cdv:Value)(A:Around)(outer:List Env)(s:Shared)(H:Hp)(vs:List V)(Q:VK)(E:XK),Room k (A.deeper (envOfC qual (d7 st) s.heap.objs.size f cdv))->sp vs H Q E ->
   ∃t,PSs (C9 CX P w K mg base N qual (d7 st) f cdv A outer s H E) (l7 st) t/\t { nx:=fun _ H'=>Q .non H',rt:=Q } (start N vs) H):FnOk P w K mg base CX (k+1) f fd ps sp:=by
 obtain⟨oc,od,kV,doc,pm,an,cdv,ct,osl,rfl,lk,bB⟩:=F.ex
 refine Qc lk bB S len fun A outer s H vs Q E hr dG=>?_
 exact bg cdv A outer s H vs Q E hr dG
section
variable {K:Frag}{H:Hp}{v:V}
def RD.int(h:RD K H (.int i) v):v=.int i:=by simpa only [RD] using h
def RD.str(h:RD K H (.str i) v):v=.str i:=by simpa only [RD] using h
def RD.non(h:RD K H .non v):v=.non:=by simpa only [RD] using h
def RD.tup(h:RD K H (.tup ds) v):∃a xs,v=.ref a/\H a=some (.tup xs)/\RDs K H ds xs:=by simpa only [RD] using h
def RD.lst(h:RD K H (.lst ds) v):∃a xs,v=.ref a/\H a=some (.lst xs)/\RDs K H ds xs:=by simpa only [RD] using h
def RD.dk(h:RD K H (.dk ks ds) v):∃a xs,v=.ref a/\H a=some (.dK (ks.zip xs))/\ks.length=xs.length/\RDs K H ds xs:=by simpa only [RD] using h
def RD.dt(h:RD K H (.dt ks ds) v):∃a xs,v=.ref a/\H a=some (.dT (ks.zip xs))/\ks.length=xs.length/\RDs K H ds xs:=by simpa only [RD] using h
def RD.scr(h:RD K H (.scr ns) v):∃a,v=.ref a/\SqL K H a (ns.map V.int):=by
 simp only[RD]at h;obtain⟨a,e,h |h⟩:=h
 . exact⟨a,e,.inl (.inr h)⟩
 . exact⟨a,e,.inr h⟩
def RD.mkInt(i:Int):RD K H (.int i) (.int i):=by simp only[RD]
def RD.mkBl(i:Bool):RD K H (.bl i) (.bl i):=by simp only[RD]
def RD.mkNon:RD K H .non .non:=by simp only[RD]
def RD.mkStr(i:Str):RD K H (.str i) (.str i):=by simp only[RD]
def RD.mkTup(h:H a=some (.tup xs))(r:RDs K H ds xs):RD K H (.tup ds) (.ref a):=by simp only[RD];exact⟨a,xs,rfl,h,r⟩
end
noncomputable def dI(g:Int->Int->D):D->D->Option D
 | .int i,.int j=>some (g i j)
 |_,_=>none
noncomputable def dIC(C:Int->Int->Prop)[∀i j,Decidable (C i j)](g:Int->Int->D):D->D->Option D
 | .int i,.int j=>if C i j then some (g i j) else none
 |_,_=>none
noncomputable def dOr(o p:D->D->Option D):D->D->Option D:=fun d e=>match o d e with
 |some z=>some z
 |none=>p d e
section
variable {K:Frag}
def OpD.weak(h:OpD K fr o r):OpD K false o r:=fun H0 H x y d e z Q s rx ry ho k=>h H0 H x y d e z Q s rx ry ho fun v H' q=>k v H' q.weak
def OpD.or(h1:OpD K f1 o r)(h2:OpD K f2 p q):OpD K false (dOr o p) (fun x y H Q=>r x y H Q\/q x y H Q):=by
 intro H0 H x y d e z Q s rx ry ho k;unfold dOr at ho;split at ho
 . rename_i z' hz;cases ho;exact .inl (h1.weak H0 H x y d e z Q s rx ry hz k)
 . exact .inr (h2.weak H0 H x y d e z Q s rx ry ho k)
def Q9(h:∀i j H,RD K H (gd i j) (gv i j)):OpD K false (dI gd) (cI gv):=by
 intro H0 H x y d e z Q s rx ry ho k;cases d<;>simp only[dI]at ho<;>first |cases ho |skip
 cases e<;>simp only[dI]at ho<;>first |cases ho |skip
 cases rx.int;cases ry.int;exact k _ H (.pure s (h _ _ _))
def y3z[∀i j,Decidable (C i j)](h:∀i j H,RD K H (gd i j) (gv i j)):OpD K false (dIC C gd) (cIC C gv):=by
 intro H0 H x y d e z Q s rx ry ho k;cases d<;>simp only[dIC]at ho<;>first |cases ho |skip
 cases e<;>simp only[dIC]at ho<;>first |cases ho |skip
 cases rx.int;cases ry.int;split at ho
 . rename_i eL;cases ho;exact⟨eL,k _ H (.pure s (h _ _ _))⟩
 . cases ho
def v9:D->D->Option D:=dI fun i j=>.int (i+j)
def N5:D->D->Option D:=dI fun i j=>.int (i - j)
def Q8:D->D->Option D:=dIC (fun _ j=>0<j) fun i j=>.int (i % j)
def N4:D->D->Option D:=dI fun i j=>.bl (decide (i<j))
def dLe:D->D->Option D:=dI fun i j=>.bl (decide (i<=j))
def R7:D->D->Option D:=dI fun i j=>.bl (decide (j<i))
def dGe:D->D->Option D:=dI fun i j=>.bl (decide (j<=i))
def y8:OpD K false v9 (cI fun i j=>.int (i+j)):=Q9 fun _ _ _=>.mkInt _
def U2:OpD K false N5 (cI fun i j=>.int (i - j)):=Q9 fun _ _ _=>.mkInt _
def Sq:OpD K false Q8 (cIC (fun _ j=>0<j) fun i j=>.int (i % j)):=y3z fun _ _ _=>.mkInt _
def U1:OpD K false N4 (cI fun i j=>.bl (decide (i<j))):=Q9 fun _ _ _=>.mkBl _
def S7:OpD K false dLe (cI fun i j=>.bl (decide (i<=j))):=Q9 fun _ _ _=>.mkBl _
def Ag:OpD K false R7 (cI fun i j=>.bl (decide (j<i))):=Q9 fun _ _ _=>.mkBl _
def y40:OpD K false dGe (cI fun i j=>.bl (decide (j<=i))):=Q9 fun _ _ _=>.mkBl _
noncomputable def K5:D->Option D
 | .int i=>some (.int (-i))
 |_=>none
def Af:UnD K false K5 (cU fun i=>.int (-i)):=by
 intro H0 H x d z Q s rx ho k;cases d<;>simp only[K5]at ho<;>first |cases ho |skip
 cases rx.int;exact k _ H (.pure s (.mkInt _))
noncomputable def x6:D->D->Option D
 | .lst ds,.lst es=>if ds.length+es.length<=100000 then some (.lst (ds++es)) else none
 |_,_=>none
def Q7(h:n<=100000):n<=sizeLine:=CD h (by decide)
def Dk:OpD K true x6 qh:=by
 intro H0 H x y d e z Q s rx ry ho k;cases d<;>simp only[x6]at ho<;>first |cases ho |skip
 cases e<;>simp only[x6]at ho<;>first |cases ho |skip
 split at ho<;>cases ho;rename_i hl;obtain⟨a,xs,rfl,ha,ra⟩:=rx.lst;obtain⟨b,ys,rfl,hb,rb⟩:=ry.lst;refine⟨a,b,xs,ys,rfl,rfl,s _ _ ha,s _ _ hb,by rw[<-ra.length,<-rb.length];exact Q7 hl,fun p hp=>k _ _ (.new s hp fun H' hH=>?_)⟩;simp only[OB];exact⟨_,hH,ra.append rb⟩
noncomputable def Q6:D->D->Option D
 | .lst ds,.int k=>if -(2 ^ 63)<=k/\k<2 ^ 63/\ds.length * k.toNat<=100000 then some (.lst (List.replicate k.toNat ds).flatten) else none
 |_,_=>none
theorem RDs.flat(h:RDs K H ds xs):∀k:Nat,RDs K H (List.replicate k ds).flatten (List.replicate k xs).flatten
 | 0=>by simp[RDs]
 |k+1=>by rw[EK,EK,FD,FD];exact h.append (h.flat k)
def vA:OpD K true Q6 qf:=by
 intro H0 H x y d e z Q s rx ry ho k;cases d<;>simp only[Q6]at ho<;>first |cases ho |skip
 cases e<;>simp only[Q6]at ho<;>first |cases ho |skip
 split at ho<;>cases ho;rename_i hl;obtain⟨a,xs,rfl,ha,ra⟩:=rx.lst;cases ry.int;refine⟨a,_,xs,rfl,rfl,s _ _ ha,hl.1,hl.2.1,by rw[<-ra.length];exact Q7 hl.2.2,fun p hp=>k _ _ (.new s hp fun H' hH=>?_)⟩;simp only[OB];exact⟨_,hH,ra.flat _⟩
end
def dEq:D->D->Option D:=fun d e=>if d.pl=true/\e.pl=true/\d.dep<=20 then some (.bl (eqD d e)) else none
def dNe:D->D->Option D:=fun d e=>if d.pl=true/\e.pl=true/\d.dep<=20 then some (.bl (!eqD d e)) else none
def kP(K:Frag):R2:=fun x y H Q=>∃d e,RD K H d x/\RD K H e y/\d.pl=true/\e.pl=true/\d.dep<=20/\Q (.bl (eqD d e)) H
def kN(K:Frag):R2:=fun x y H Q=>∃d e,RD K H d x/\RD K H e y/\d.pl=true/\e.pl=true/\d.dep<=20/\Q (.bl (!eqD d e)) H
def N3(neg:Bool):D->D->Option D:=fun d c=>match c with
 | .lst es=>if d.pl=true/\pls es=true/\j0 es<=20 then some (.bl (if neg then !(es.any fun e=>eqD e d) else es.any fun e=>eqD e d)) else none
 | .tup es=>if d.pl=true/\pls es=true/\j0 es<=20 then some (.bl (if neg then !(es.any fun e=>eqD e d) else es.any fun e=>eqD e d)) else none
 |_=>none
def Fx(K:Frag)(neg:Bool):R2:=fun x y H Q=>∃p xs d es,y=.ref p/\(H p=some (.lst xs)\/H p=some (.tup xs))/\RD K H d x/\RDs K H es xs/\d.pl=true/\pls es=true/\j0 es<=20/\Q (.bl (if neg then !(es.any fun e=>eqD e d) else es.any fun e=>eqD e d)) H
section
variable {X:Cx}{K:Frag}
theorem J1(hu:X.A.units+64<cLine):OpR X (compareOp .Eq) (kP X.K):=by intro pins s σ H x y v u Q I rx ry h;obtain⟨d,e,h1,h2,p1,p2,h3,q⟩:=h;exact(Ss (n:=20) I p1 p2 h3 (by lia) h1 h2 rx ry).1 X.prog X.w X.xe _ ⟨.bl _,H,I,rfl,q⟩
theorem y41(hu:X.A.units+64<cLine):OpR X (compareOp .NotEq) (kN X.K):=by intro pins s σ H x y v u Q I rx ry h;obtain⟨d,e,h1,h2,p1,p2,h3,q⟩:=h;exact(Ss (n:=20) I p1 p2 h3 (by lia) h1 h2 rx ry).2 X.prog X.w X.xe _ ⟨.bl _,H,I,rfl,q⟩
def J0:OpD K false dEq (kP K):=by intro H0 H x y d e z Q s rx ry ho k;unfold dEq at ho;split at ho<;>cases ho;rename_i h;exact⟨d,e,rx.mono s,ry.mono s,h.1,h.2.1,h.2.2,k _ H (.pure s (.mkBl _))⟩
def y42:OpD K false dNe (kN K):=by intro H0 H x y d e z Q s rx ry ho k;unfold dNe at ho;split at ho<;>cases ho;rename_i h;exact⟨d,e,rx.mono s,ry.mono s,h.1,h.2.1,h.2.2,k _ H (.pure s (.mkBl _))⟩
theorem y43(hu:X.A.units+64<cLine):OpR X (compareOp .In) (Fx X.K false):=by
 intro pins s σ H x y v u Q I rx ry h;obtain⟨p,xs,d,es,rfl,hp,hx,dY,pd,pe,hd,q⟩:=h;cases ry;rcases hp with hq |hq
 . obtain⟨its,rv,pl,_⟩:=I.list (.of hq);refine SeqAt.in_listAt (hitD X.K H d) pl.isList (fun y hy=>As (A:=X.A) I (by lia) pd hx rx pe dY rv hd y (by simpa using hy)) ⟨.bl _,H,I,rfl,?_⟩;rw[show its.toArray.any (hitD X.K H d)=its.any (hitD X.K H d) by simp,Ba pe dY rv];simpa using q
 . obtain⟨its,rv,pl,_⟩:=I.tuple (.of hq);refine SeqAt.in_tupleAt (hitD X.K H d) pl (fun y hy=>As (A:=X.A) I (by lia) pd hx rx pe dY rv hd y (by simpa using hy)) ⟨.bl _,H,I,rfl,?_⟩;rw[show its.toArray.any (hitD X.K H d)=its.any (hitD X.K H d) by simp,Ba pe dY rv];simpa using q
theorem zy(hu:X.A.units+64<cLine):OpR X (compareOp .NotIn) (Fx X.K true):=by
 intro pins s σ H x y v u Q I rx ry h;obtain⟨p,xs,d,es,rfl,hp,hx,dY,pd,pe,hd,q⟩:=h;cases ry;rcases hp with hq |hq
 . obtain⟨its,rv,pl,_⟩:=I.list (.of hq);refine SeqAt.notIn_listAt (hitD X.K H d) pl.isList (fun y hy=>As (A:=X.A) I (by lia) pd hx rx pe dY rv hd y (by simpa using hy)) ⟨.bl _,H,I,rfl,?_⟩;rw[show its.toArray.any (hitD X.K H d)=its.any (hitD X.K H d) by simp,Ba pe dY rv];simpa using q
 . obtain⟨its,rv,pl,_⟩:=I.tuple (.of hq);refine SeqAt.notIn_tupleAt (hitD X.K H d) pl (fun y hy=>As (A:=X.A) I (by lia) pd hx rx pe dY rv hd y (by simpa using hy)) ⟨.bl _,H,I,rfl,?_⟩;rw[show its.toArray.any (hitD X.K H d)=its.any (hitD X.K H d) by simp,Ba pe dY rv];simpa using q
def od_inS:OpD K false (N3 neg) (Fx K neg):=by
 intro H0 H x y d e z Q s rx ry ho k;unfold N3 at ho;cases e<;>dsimp only at ho<;>first |cases ho |skip
 . split at ho<;>cases ho;rename_i es h;obtain⟨a,xs,rfl,ha,ra⟩:=ry.tup;exact⟨a,xs,d,es,rfl,.inr (s _ _ ha),rx.mono s,ra.mono s,h.1,h.2.1,h.2.2,k _ H (.pure s (.mkBl _))⟩
 . split at ho<;>cases ho;rename_i es h;obtain⟨a,xs,rfl,ha,ra⟩:=ry.lst;exact⟨a,xs,d,es,rfl,.inl (s _ _ ha),rx.mono s,ra.mono s,h.1,h.2.1,h.2.2,k _ H (.pure s (.mkBl _))⟩
end
noncomputable def X5:D->Option Key
 | .int i=>some (.inl i)
 | .str x=>some (.inr x)
 |_=>none
def S6:List D->Option (List Key)
 | []=>some []
 |d::ds=>match X5 d,S6 ds with
  |some k,some ks=>some (k::ks)
  |_,_=>none
def Uv{K:Frag}{H:Hp}{d:D}{k:Key}{v:V}(h:X5 d=some k)(r:RD K H d v):v=kV k:=by
 cases d<;>simp only[X5]at h<;>first |cases h |skip
 . cases r.int;rfl
 . cases r.str;rfl
theorem Ws{K:Frag}{H:Hp}:∀{ds:List D}{ks:List Key}{xs:List V},S6 ds=some ks->RDs K H ds xs->xs=ks.map kV
 | [],ks,xs,h,r=>by simp only[S6]at h;cases h;simp only[RDs]at r;subst r;rfl
 |d::ds,ks,xs,h,r=>by simp only[RDs]at r;obtain⟨x,xs,rfl,r1,r2⟩:=r;simp only[S6]at h;split at h<;>cases h;rename_i k ks h1 h2;rw[Uv h1 r1,Ws h2 r2];rfl
def ROp(K:Frag)(H:Hp):Option D->Option V->Prop
 |some z,w=>∃v,w=some v/\RD K H z v
 |none,w=>w=none
section
variable {κ:Type}[DecidableEq κ]
noncomputable def O2(ks:List κ)(ds:List D)(k:κ):Option D:=((ks.zip ds).find? fun kv=>decide (kv.1=k)).map (·.2)
theorem Kf{K:Frag}{H:Hp}(k:κ):∀{ks:List κ}{ds:List D}{xs:List V},ks.length=xs.length->RDs K H ds xs->ROp K H (O2 ks ds k) (x8 (ks.zip xs) k)
 | [],ds,xs,_,_=>by simp[O2,x8,ROp]
 |k'::ks,[],xs,h,r=>by simp only[RDs]at r;subst r;simp at h
 |k'::ks,d::ds,xs,h,r=>by
  simp only[RDs]at r;obtain⟨x,xs,rfl,r1,r2⟩:=r;have ih:=Kf k (by simpa using h) r2 (ks:=ks);simp only[O2,x8,CI,FM]at ih⊢;by_cases e:k'=k
  . simp only[e,GF];exact⟨x,rfl,r1⟩
  . simp only[e,GG];exact ih
noncomputable def Ha(ks:List κ)(k:κ):List κ:=if k∈ks then ks else ks++[k]
noncomputable def B6{β:Type}(ks:List κ)(ds:List β)(k:κ)(d:β):List β:=if k∈ks then List.zipWith (fun k' d'=>if k'=k then d else d') ks ds else ds++[d]
def xW{K:Frag}{H:Hp}(k:κ){d:D}{v:V}(rv:RD K H d v){ks:List κ}{ds:List D}{xs:List V}(r:RDs K H ds xs):RDs K H (B6 ks ds k d) (B6 ks xs k v):=by
 have zw:∀(ks:List κ)(ds:List D)(xs:List V),RDs K H ds xs->RDs K H (List.zipWith (fun k' d'=>if k'=k then d else d') ks ds) (List.zipWith (fun k' d'=>if k'=k then v else d') ks xs):=by
  intro ks;induction ks with
  |nil=>intro ds xs _;simp[RDs]
  |cons k' ks ih=>
   intro ds xs r
   cases ds with
   |nil=>simp only[RDs]at r;subst r;simp[RDs]
   |cons d' ds=>
    simp only[RDs]at r
    obtain⟨x,xs,rfl,r1,r2⟩:=r
    simp only[List.zipWith_cons_cons]
    refine .cons ?_ (ih ds xs r2)
    by_cases e:k'=k
    . rw[ζ e,ζ e];exact rv
    . rw[ξ e,ξ e];exact r1
 unfold B6;by_cases m:k∈ks
 . rw[ζ m,ζ m];exact zw ks ds xs r
 . rw[ξ m,ξ m];exact r.append (.one rv)
end
def O1:D->D->Option (Option D)
 | .dk ks ds,k=>(X5 k).map fun k=>O2 ks ds k
 | .dt ks ds,.tup es=>(S6 es).map fun k=>O2 ks ds k
 |_,_=>none
def Uu{K:Frag}{H:Hp}{d k:D}{x y:V}{o:Option D}(h:O1 d k=some o)(rx:RD K H d x)(ry:RD K H k y) :
  ∃a w,x=.ref a/\DGet H a y w/\ROp K H o w:=by
 cases d<;>simp only[O1]at h<;>first |cases h |skip
 . rename_i ks ds;obtain⟨a,xs,rfl,ha,hl,rs⟩:=rx.dk;cases hk:X5 k with
   |none=>rw[hk]at h;cases h
   |some k'=>
    rw[hk]at h
    have h:O2 ks ds k'=o:=by simpa using h
    subst h
    cases Uv hk ry
    exact⟨a,_,rfl,DGet.k ha,Kf k' hl rs⟩
 . rename_i ks ds;cases k<;>simp only[O1]at h<;>first |cases h |skip
   rename_i es;obtain⟨a,xs,rfl,ha,hl,rs⟩:=rx.dt;obtain⟨b,ys,rfl,hb,rb⟩:=ry.tup;cases hk:S6 es with
   |none=>rw[hk]at h;cases h
   |some k'=>
    rw[hk]at h
    have h:O2 ks ds k'=o:=by simpa using h
    subst h
    have e:=Ws hk rb
    subst e
    exact⟨a,_,rfl,DGet.t ha hb,Kf k' hl rs⟩
def Ou(neg:Bool):D->D->Option D:=fun k d=>(O1 d k).map fun o=>.bl (if neg then !o.isSome else o.isSome)
noncomputable def Fv(neg:Bool):R2:=fun y x H Q=>∃a w,x=.ref a/\DGet H a y w/\Q (.bl (if neg then !w.isSome else w.isSome)) H
def Ot:D->D->Option D:=fun d k=>(O1 d k).bind id
noncomputable def Os:R2:=fun x y H Q=>∃a w,x=.ref a/\DGet H a y (some w)/\Q w H
def v5:D->D->Option D
 | .lst ds,.int i=>atI ds i
 | .tup ds,.int i=>atI ds i
 | .scr ns,.int i=>(atI ns i).map D.int
 | .str z,.int i=>if z.length<=100000 then(atI z.cps.toList i).map fun c=>D.str ⟨#[c]⟩ else none
 |_,_=>none
def RDs.atI{K:Frag}{H:Hp}{ds:List D}{xs:List V}{i:Int}{d:D}(r:RDs K H ds xs)(h:L2.atI ds i=some d):∃v,L2.atI xs i=some v/\RD K H d v:=by
 unfold L2.atI at h⊢;rw[<-r.length];cases q:ixN ds.length i with
 |none=>rw[q]at h;cases h
 |some j=>
  rw[q]at h
  exact r.get' h
def xV(f:α->β)(xs:List α)(i:Int):atI (xs.map f) i=(atI xs i).map f:=by
 unfold atI;rw[bI];cases ixN xs.length i with
 |none=>rfl
 |some j=>simp
section
variable {X:Cx}{K:Frag}
def y47(hu:X.A.units+64<cLine):OpR X (compareOp .In) (Fv false):=by intro pins s σ H x y v u Q I rx ry h;obtain⟨a,w,rfl,g,q⟩:=h;cases ry;exact y7u (by omega) I g rx fun s' I'=>⟨.bl w.isSome,H,I',rfl,by simpa using q⟩
def zx(hu:X.A.units+64<cLine):OpR X (compareOp .NotIn) (Fv true):=by intro pins s σ H x y v u Q I rx ry h;obtain⟨a,w,rfl,g,q⟩:=h;cases ry;exact yr (by omega) I g rx fun s' I'=>⟨.bl (!w.isSome),H,I',rfl,by simpa using q⟩
def vz:OpD K false (Ou neg) (Fv neg):=by
 intro H0 H x y d e z Q s rx ry ho k;unfold Ou at ho;cases aY:O1 e d with
 |none=>rw[aY]at ho;cases ho
 |some o=>
  rw[aY]at ho;cases ho
  obtain⟨a,w,rfl,g,m⟩:=Uu aY (ry.mono s) (rx.mono s)
  refine⟨a,w,rfl,g,k _ H ?_⟩
  have e:w.isSome=o.isSome:=by
   cases o with
   |none=>rw[show w=none from m];rfl
   |some z=>obtain⟨v,e,_⟩:=m;rw[e];rfl
  rw[e]
  exact .pure s (.mkBl _)
def dIn(neg:Bool):D->D->Option D:=dOr (N3 neg) (Ou neg)
def Oq(K:Frag)(neg:Bool):R2:=fun x y H Q=>Fx K neg x y H Q\/Fv neg x y H Q
def I0(hu:X.A.units+64<cLine):OpR X (compareOp .In) (Oq X.K false):=(y43 hu).or (y47 hu)
def Wr(hu:X.A.units+64<cLine):OpR X (compareOp .NotIn) (Oq X.K true):=(zy hu).or (zx hu)
def D8:OpD K false (dIn neg) (Oq K neg):=od_inS.or vz
theorem xU(hu:X.A.units+64<cLine):IxR X Os:=by intro value slice pins s σ H x y v u Q I rx ry h hs;obtain⟨a,w,rfl,g,q⟩:=h;cases rx;exact tail_any (ops:=[.ref a,u]) (zf5 I g) PySem.F.slot_dict_getitem.lookup (zk5 (by lia) I g ry fun w' s3 I3 bD=>⟨w,H,I3,bD,q⟩) hs
def vy:OpD K false Ot Os:=by
 intro H0 H x y d e z Q s rx ry ho k;unfold Ot at ho;cases aY:O1 d e with
 |none=>rw[aY]at ho;cases ho
 |some o=>
  rw[aY]at ho
  have ho:o=some z:=ho
  subst ho
  obtain⟨a,w,e0,g,m⟩:=Uu aY rx ry
  obtain⟨v,rfl,rv⟩:=m
  subst e0
  refine⟨a,v,rfl,?_,k _ H (.pure s rv)⟩
  rcases g with⟨kvs,kk,e1,e2,e3⟩ |⟨kvs,kk,b,e1,e2,e3,e4⟩
  . refine .inl ⟨kvs,kk,?_,e2,e3⟩;rcases e1 with e1 |⟨o,e1⟩
    . exact .inl (s _ _ e1)
    . exact .inr ⟨o,s _ _ e1⟩
  . refine .inr ⟨kvs,kk,b,?_,e2,s _ _ e3,e4⟩;rcases e1 with e1 |⟨o,e1⟩
    . exact .inl (s _ _ e1)
    . exact .inr ⟨o,s _ _ e1⟩
def od_ixS:OpD K false v5 (rIx K):=by
 intro H0 H x y d e z Q s rx ry ho k;cases d<;>simp only[v5]at ho<;>first |cases ho |skip
 . -- a AO
   cases e<;>simp only[v5]at ho<;>first |cases ho |skip
   cases rx.str;cases ry.int;split at ho
   . rename_i z' i hl;cases hc:atI z'.cps.toList i with
     |none=>rw[hc]at ho;cases ho
     |some c=>
      rw[hc]at ho;cases ho
      exact .inr (.inr ⟨z',i,c,rfl,rfl,Q7 hl,hc,k _ H (.pure s (.mkStr _))⟩)
   . cases ho
 . cases e<;>simp only[v5]at ho<;>first |cases ho |skip
   obtain⟨a,xs,rfl,ha,ra⟩:=rx.tup;cases ry.int;obtain⟨v,hv,rv⟩:=ra.atI ho;exact .inr (.inl ⟨a,xs,_,v,rfl,rfl,.of (s _ _ ha),hv,k _ H (.pure s rv)⟩)
 . cases e<;>simp only[v5]at ho<;>first |cases ho |skip
   obtain⟨a,xs,rfl,ha,ra⟩:=rx.lst;cases ry.int;obtain⟨v,hv,rv⟩:=ra.atI ho;exact .inl ⟨a,xs,_,v,rfl,rfl,.of (s _ _ ha),hv,k _ H (.pure s rv)⟩
 . cases e<;>simp only[v5]at ho<;>first |cases ho |skip
   rename_i ns i;cases ry.int;obtain⟨a,rfl,ha⟩:=(rx.mono s).scr;cases hc:atI ns i with
   |none=>rw[hc]at ho;cases ho
   |some c=>
    rw[hc]at ho;cases ho
    exact .inl ⟨a,_,i,.int c,rfl,rfl,ha,by rw[xV,hc];rfl,k _ H (.pure s (.mkInt _))⟩
def dIx:D->D->Option D:=dOr v5 Ot
def kM(K:Frag):R2:=fun x y H Q=>rIx K x y H Q\/Os x y H Q
def y85(hu:X.A.units+64<cLine):IxR X (kM X.K):=ix_seq.or (xU hu)
def y49:OpD K false dIx (kM K):=od_ixS.or vy
end
structure QE(X:Cx)(EX:XW)(fr:Bool)(e:Expr)(f:DE->R D):Prop where
 h:PE X e (TEd X.K EX fr f)
structure QT(X:Cx)(EX:XW)(e:Expr)(t:DE->R Bool):Prop where
 h:PT X e (TTd X.K EX t)
structure QW(X:Cx)(EX:XW)(e:Expr)(t:DE->R Bool):Prop where
 h:PW X e (TTd X.K EX t)
structure QA(X:Cx)(EX:XW)(es:List Expr)(f:DE->R (List D)):Prop where
 h:PA X es (TAd X.K EX f)
structure QI(X:Cx)(EX:XW)(kp:Bool)(tg e:Expr)(f:DE->R (List D)):Prop where
 h:PI X tg e (TId X.K EX kp f)
structure QG(X:Cx)(tg:Expr)(t:Tg):Prop where
 h:PG X tg (TGd X.K t)
structure QGs(X:Cx)(ts:List Expr)(is:List Nat):Prop where
 h:PGs X ts (Dn is)
structure QS(X:Cx)(EX:XW)(fr:Bool)(st:Stmt)(g:DS->SR):Prop where
 h:PS X st (TSd X.K EX fr g)
structure QB(X:Cx)(EX:XW)(fr:Bool)(sts:List Stmt)(g:DS->SR):Prop where
 h:PSs X sts (TSd X.K EX fr g)
structure QC(X:Cx)(EX:XW)(ops:List CmpOp)(rs:List Expr)(g:D->DE->R D):Prop where
 h:PCh X ops rs (X7 X.K EX g)
structure QCT(X:Cx)(EX:XW)(ops:List CmpOp)(rs:List Expr)(g:D->DE->R Bool):Prop where
 h:PChT X ops rs (Y5 X.K EX g)
section
variable {X:Cx}{EX:XW}{fr:Bool}{a b c e:Expr}{es rest:List Expr}{fa fb:DE->R D}{fs:DE->R (List D)}{t u:DE->R Bool}{pos p:Pos}{x:Str}
theorem PA.imp{es:List Expr}{t t':TA}(h:PA X es t)(hi:∀σ H Q,t' σ H Q->t σ H Q):PA X es t':=fun pos pins s σ H Q I q=>h pos pins s σ H Q I (hi σ H Q q)
def PW.imp{e:Expr}{t t':TT}(h:PW X e t)(hi:∀σ H Q,t' σ H Q->t σ H Q):PW X e t':=fun wh pins s σ H Q I q=>h wh pins s σ H Q I (hi σ H Q q)
def PI.imp{tg e:Expr}{t t':TI}(h:PI X tg e t)(hi:∀σ H Q,t' σ H Q->t σ H Q):PI X tg e t':=fun pins s σ H Q I q=>h pins s σ H Q I (hi σ H Q q)
def PS.imp{st:Stmt}{t t':TS}(h:PS X st t)(hi:∀D σ H,t' D σ H->t D σ H):PS X st t':=fun pins s σ H D I q=>h pins s σ H D I (hi D σ H q)
def PSs.imp{st:List Stmt}{t t':TS}(h:PSs X st t)(hi:∀D σ H,t' D σ H->t D σ H):PSs X st t':=fun pins s σ H D I q=>h pins s σ H D I (hi D σ H q)
def QE.wk(h:QE X EX true e f):QE X EX false e f:=⟨h.h.imp fun _ _ _ q=>q.weak⟩
def qv(i:Nat)(hN:X.N[i]?=some x:=by rfl)(hv:Vis X.env.scope x:=by first |exact .inl rfl |exact .inr (.inl rfl) |exact .inr (.inr rfl))(hd:(x==("__debug__":Str))=false:=by decide)
 (bB:(x==("__classdict__":Str))=false:=by decide):QE X EX false (.Name x pos) (a7 i):=⟨(Dr hN hv hd bB).imp fun σ H Q q=>y3n q⟩
def d5:QE X EX false (.Constant (.int i) j pos) (eC (.int i)):=⟨pe_int.imp fun σ H Q q=>Eg (fun _=>.mkInt i) q⟩
def G1:QE X EX false (.Constant (.bool i) j pos) (eC (.bl i)):=⟨pe_bl.imp fun σ H Q q=>Eg (fun _=>.mkBl i) q⟩
def Gz:QE X EX false (.Constant .none j pos) (eC .non):=⟨pe_non.imp fun σ H Q q=>Eg (fun _=>.mkNon) q⟩
def L5:QE X EX false (.Constant (.str i) j pos) (eC (.str i)):=⟨pe_str.imp fun σ H Q q=>Eg (fun _=>.mkStr i) q⟩
def j6(ho:OpR X (binaryOp op) r)(od:OpD X.K fr o r)(ha:QE X EX false a fa)(hb:QE X EX false b fb):QE X EX fr (.BinOp a op b pos) (eOp o fa fb):=⟨(y3c ho ha.h hb.h).imp fun _ _ _ q=>Fy od q⟩
def X4(ho:UnR X (unaryOp op) r)(od:UnD X.K fr o r)(ha:QE X EX false a fa):QE X EX fr (.UnaryOp op a pos) (eUn o fa):=⟨(y3d ho ha.h).imp fun _ _ _ q=>kU od q⟩
def z5(ho:OpR X (compareOp op) r)(od:OpD X.K false o r)(ha:QE X EX false a fa)(hb:QE X EX false b fb)(hm:behindInMarks op b=false) :
 QE X EX false (.Compare a [op] [b] pos) (eOp o fa fb):=⟨(yC ho ha.h hb.h hm).imp fun _ _ _ q=>Fy od q⟩
def Op(ho:IxR X r)(od:OpD X.K false o r)(ha:QE X EX false a fa)(hb:QE X EX false b fb)(hs:Kk b:=by exact fun _ _=>rfl):QE X EX false (.Subscript a b pos) (eOp o fa fb):=⟨(y3f ho ha.h hb.h hs).imp fun _ _ _ q=>Fy od q⟩
def c7:QA X EX [] b7:=⟨pa_nil.imp fun _ _ _ q=>Pm q⟩
def a9(ha:QE X EX false e fa)(hr:QA X EX es fs)(hs:starEach (e::es) X.env=(false,eval e X.env)::starEach es X.env:=by rfl):QA X EX (e::es) (a8 fa fs):=⟨(J7 ha.h hr.h hs).imp fun _ _ _ q=>Jn q⟩
def p8(h:QA X EX es fs):QE X EX false (.Tuple es x1 pos) (l8 fs):=⟨(vZ h.h).imp fun _ _ _ q=>y3p q⟩
def u7(h:QA X EX es fs):QE X EX true (.List es pos) (n9 fs):=⟨(vY h.h).imp fun _ _ _ q=>y3q q⟩
def Pi(hc:QT X EX c t)(ha:QE X EX fr a fa)(hb:QE X EX fr b fb):QE X EX fr (.IfExp c a b pos) (eIf t fa fb):=⟨(zZ hc.h ha.h hb.h).imp fun _ _ _ q=>y7z q⟩
def L0(ha:QE X EX false a fa)(hb:QE X EX false (.BoolOp .And (b::rest) pos) fb):QE X EX false (.BoolOp .And (a::b::rest) pos) (B9 fa fb):=⟨(yo ha.h hb.h).imp fun _ _ _ q=>y3s q⟩
def Fu(ha:QE X EX false a fa)(hb:QE X EX false (.BoolOp .Or (b::rest) pos) fb):QE X EX false (.BoolOp .Or (a::b::rest) pos) (eOr fa fb):=⟨(vR ha.h hb.h).imp fun _ _ _ q=>y81 q⟩
def G9(h:QE X EX false a fa):QE X EX false (.BoolOp op [a] pos) fa:=⟨wo h.h⟩
noncomputable def l6:D->Option Bool
 | .bl b=>some b
 | .int i=>some (i != 0)
 | .non=>some false
 | .str z=>if z.length<=100000 then some ((z.length:Int) != 0) else none
 | .lst ds=>some (!ds.isEmpty)
 | .tup ds=>some (!ds.isEmpty)
 | .dk ks _=>some (!ks.isEmpty)
 |_=>none
def Mx{α β:Type}{xs:List α}{ys:List β}(h:xs.length=ys.length):xs.isEmpty=ys.isEmpty:=by cases xs<;>cases ys<;>first |rfl |simp at h
theorem So{K:Frag}:Ox K l6 L6:=by
 intro H0 H x d b Q s rx ht q;cases d<;>simp only[l6]at ht<;>first |cases ht |skip
 . cases rx.non;exact q
 . cases rx.bl;exact q
 . cases rx.int;exact q
 . split at ht<;>cases ht;rename_i h;cases rx.str;exact⟨Q7 h,q⟩
 . obtain⟨p,xs,rfl,hp,r⟩:=rx.tup;unfold L6;dsimp only;rw[Yb (s _ _ hp)];rw[Mx r.length]at q;exact q
 . obtain⟨p,xs,rfl,hp,r⟩:=rx.lst;unfold L6;dsimp only;rw[Yc (s _ _ hp)];rw[Mx r.length]at q;exact q
 . rename_i ks es;obtain⟨p,xs,rfl,hp,hl,r⟩:=rx.dk;unfold L6;dsimp only;have e:C3 H p=none:=by unfold C3;rw[s _ _ hp]
   rw[e];dsimp only;rw[s _ _ hp];dsimp only;rw[Mx (show ks.length=(List.zip ks xs).length by rw[DK,<-hl,Nat.min_self])]at q;exact q
def Sn(ha:QE X EX false a fa):QE X EX false (.UnaryOp .Not a pos) (eUn (fun d=>(l6 d).map fun b=>.bl (!b)) fa):=⟨(yn ha.h).imp fun _ _ _ q=>vI So q⟩
def C2(ha:QE X EX false a fa)(he:∀whole,isTrue a X.env whole=(do let v <-whole;standAt a.pos;holding [v] (truthy v)):=by intro _;rfl):QT X EX a (e8 l6 fa):=⟨(vU ha.h he).imp fun _ _ _ q=>y3t So q⟩
def m5(ho:OpR X (compareOp op) r)(od:OpD X.K false o r)(ha:QE X EX false a fa)(hb:QE X EX false b fb)(hm:behindInMarks op b=false) :
 QT X EX (.Compare a [op] [b] pos) (e8 asB (eOp o fa fb)):=⟨(yp ho ha.h hb.h hm).imp fun _ _ _ q=>y3u od q⟩
def QW.pt(h:QW X EX a t):QT X EX a t:=⟨h.h.pt⟩
def D7(ha:QT X EX a t):QT X EX (.UnaryOp .Not a pos) (o9 t):=⟨(wq ha.h).imp fun _ _ _ q=>vJ q⟩
def U0(ha:QT X EX a t):QW X EX (.BoolOp .And [a] pos) t:=⟨yE ha.h⟩
def G8(ha:QT X EX a t):QW X EX (.BoolOp .Or [a] pos) t:=⟨wu ha.h⟩
def O0(ha:QT X EX a t)(hb:QW X EX (.BoolOp .And (b::rest) pos) u):QW X EX (.BoolOp .And (a::b::rest) pos) (D3 t u):=⟨(wt ha.h hb.h).imp fun _ _ _ q=>vK q⟩
def E7(ha:QT X EX a t)(hb:QW X EX (.BoolOp .Or (b::rest) pos) u):QW X EX (.BoolOp .Or (a::b::rest) pos) (bOr t u):=⟨(y37 ha.h hb.h).imp fun _ _ _ q=>y3r q⟩
theorem PCh.imp{ops:List CmpOp}{rs:List Expr}{t t':V->TE}(h:PCh X ops rs t)(hi:∀x σ H Q,t' x σ H Q->t x σ H Q):PCh X ops rs t':=fun pos pins s σ H x v Q I r q=>h pos pins s σ H x v Q I r (hi x σ H Q q)
theorem PChT.imp{ops:List CmpOp}{rs:List Expr}{t t':V->TT}(h:PChT X ops rs t)(hi:∀x σ H Q,t' x σ H Q->t x σ H Q):PChT X ops rs t':=fun pos pins s σ H x v Q I r q=>h pos pins s σ H x v Q I r (hi x σ H Q q)
variable {g:D->DE->R D}{gt:D->DE->R Bool}{op eQ:CmpOp}{ops:List CmpOp}{r:R2}{o:D->D->Option D}{r':Expr}{rs:List Expr}
def vx(ho:OpR X (compareOp op) r)(od:OpD X.K false o r)(hb:QE X EX false b fb):QC X EX [op] [b] (Cw o fb):=⟨(zO ho hb.h).imp fun _ _ _ _ q=>vH od q⟩
def Sm(ho:OpR X (compareOp op) r)(od:OpD X.K false o r)(hb:QE X EX false b fb)(hr:QC X EX (eQ::ops) (r'::rs) g):QC X EX (op::eQ::ops) (b::r'::rs) (Z2 o fb g):=⟨(zN ho hb.h hr.h).imp fun _ _ _ _ q=>vG od q⟩
def Ut(ho:OpR X (compareOp op) r)(od:OpD X.K false o r)(hb:QE X EX false b fb):QCT X EX [op] [b] (Ak o fb):=⟨(zkc ho hb.h).imp fun _ _ _ _ q=>yc od q⟩
def Us(ho:OpR X (compareOp op) r)(od:OpD X.K false o r)(hb:QE X EX false b fb)(hr:QCT X EX (eQ::ops) (r'::rs) gt):QCT X EX (op::eQ::ops) (b::r'::rs) (Aj o fb gt):=⟨(zkd ho hb.h hr.h).imp fun _ _ _ _ q=>yb od q⟩
def y4b(ha:QE X EX false a fa)(hr:QC X EX (bh::bi::ops) (ce::cg::rs) g)(hm:lastMarks (bh::bi::ops) (ce::cg::rs)=false:=by with_unfolding_all rfl) :
 QE X EX false (.Compare a (bh::bi::ops) (ce::cg::rs) pos) (Cb fa g):=⟨(vT ha.h hr.h hm).imp fun _ _ _ q=>y3v q⟩
def Ph(ha:QE X EX false a fa)(hr:QCT X EX (bh::bi::ops) (ce::cg::rs) gt)(hm:lastMarks (bh::bi::ops) (ce::cg::rs)=false:=by with_unfolding_all rfl) :
 QT X EX (.Compare a (bh::bi::ops) (ce::cg::rs) pos) (Y0 fa gt):=⟨(vS ha.h hr.h hm).imp fun _ _ _ q=>vF q⟩
def w8{id:String}{rr:List V->Hp->VK->Prop}{m:List D->Option D}(hc:CallR X (.builtin id) rr)(od:v8 X.K fr m rr)(hg:Gl X x)(hm:X.mg x=none)(hv:bootBuiltins x=some (.builtin id))(ha:QA X EX (e::es) fs)(hn:x≠"__name__":=by decide)(aW:(x==("__debug__":Str))=false:=by decide)
 (he:starEach (e::es) X.env=(false,eval e X.env)::starEach es X.env:=by rfl) (hpl:(backTo pos (starEach es X.env)).any (·.1)=false:=by rfl):QE X EX fr (.Call (.Name x p) (e::es) [] pos) (eCB m fs):=⟨(Xb hc hg hm hv ha.h hn aW he hpl).imp fun _ _ _ q=>Ow od q⟩
def y9(hc:CallR X (.type T) rr)(od:v8 X.K fr m rr)(hg:Gl X x)(hm:X.mg x=none)(hv:bootBuiltins x=some (.type T))(ha:QA X EX (e::es) fs)(hn:x≠"__name__":=by decide)(aW:(x==("__debug__":Str))=false:=by decide)
 (he:starEach (e::es) X.env=(false,eval e X.env)::starEach es X.env:=by rfl) (hpl:(backTo pos (starEach es X.env)).any (·.1)=false:=by rfl):QE X EX fr (.Call (.Name x p) (e::es) [] pos) (eCB m fs):=⟨(zjz hc hg hm hv ha.h hn aW he hpl).imp fun _ _ _ q=>Ow od q⟩
def e9(L:Lnd X EX)(G:i7 X.prog X.w X.K X.mg X.base x ps k (spD X.K X.mg fr (mOf fr n kk gg) n))(hr:Room j X.A)(hg:Gl X x)(ha:QA X EX (e::es) fs)(fB:k<=j:=by omega)(aW:(x==("__debug__":Str))=false:=by decide)
 (he:starEach (e::es) X.env=(false,eval e X.env)::starEach es X.env:=by rfl) (hpl:(backTo pos (starEach es X.env)).any (·.1)=false:=by rfl):QE X EX fr (.Call (.Name x p) (e::es) [] pos) (d8 (mOf fr n kk gg) fs):=⟨(Uw G L.on hr hg ha.h fB aW he hpl).imp fun _ _ _ q=>vC Uz (fun x H z=>by obtain⟨C,hC⟩:=L.nm x H z;exact⟨C,hC,fun od xf=>⟨x,z,hC,xf⟩⟩) q⟩
end
noncomputable def C1:D->String
 | .non=>"NoneType"
 | .bl _=>"bool"
 | .int _=>"int"
 | .str _=>"str"
 | .tup _=>"tuple"
 | .lst _=>"list"
 | .dk _ _=>"dict"
 | .dt _ _=>"dict"
 | .dn _ _=>"?"
 | .scr _=>"?"
 | .exc _ _=>"?"
 | .obj _ _=>"?"
 | .dp _ _=>"?"
def l5(c:String):D->Option D:=fun d=>if F5 c=true/\C1 d≠"?" then some (.bl (E8 (C1 d) c)) else none
def xT{K:Frag}{H:Hp}{d:D}{v:V}(h:C1 d≠"?")(r:RD K H d v):J2 H v=some (C1 d):=by
 cases d
 . cases r.non;rfl
 . cases r.bl;rfl
 . cases r.int;rfl
 . cases r.str;rfl
 . obtain⟨a,xs,rfl,ha,_⟩:=r.tup;simp only[J2,ha,C1]
 . obtain⟨a,xs,rfl,ha,_⟩:=r.lst;simp only[J2,ha,C1]
 . obtain⟨a,xs,rfl,ha,_⟩:=r.dk;simp only[J2,ha,C1]
 . obtain⟨a,xs,rfl,ha,_⟩:=r.dt;simp only[J2,ha,C1]
 all_goals exact absurd rfl h
def y4c{K:Frag}{EX:XW}{σ:St}{H:Hp}{Q:VK}{c:String}{f:DE->R D}(h:TEd K EX false (eUn (l5 c) f) σ H Q):tCB Ga (C4 (TEd K EX false f) (C4 (tC (.ty c)) G4)) σ H Q:=by
 obtain⟨sx,ρ,H0,s,e,h⟩:=h;unfold eUn at h;rw[Rk.bind]at h;refine TEd.go sx s e h fun d h v H1 ao s1 e1 r1=>?_
 obtain⟨z,hz,h⟩:=h.of;unfold l5 at hz;split at hz<;>cases hz;rename_i hc;show Ga [v,.ty c] H1 Q;rw[vN];refine⟨hc.1,?_⟩;rw[xT hc.2 (r1.mono e1.2.1)];exact h _ H1 (.val s1 e1 (.mkBl _))
def N9(hg:Gl X x)(hm:X.mg x=none)(hv:bootBuiltins x=some (.builtin "isinstance"))(ha:QE X EX false a f)(hb:PE X b (tC (.ty c)))(hn:x≠"__name__":=by decide)(aW:(x==("__debug__":Str))=false:=by decide)
 (he:starEach [a,b] X.env=(false,eval a X.env)::starEach [b] X.env:=by rfl) (hpl:(backTo pos (starEach [b] X.env)).any (·.1)=false:=by rfl) (hs:starEach [b] X.env=(false,eval b X.env)::starEach [] X.env:=by rfl) :
 QE X EX false (.Call (.Name x p) [a,b] [] pos) (eUn (l5 c) f):=⟨(Xb y3k hg hm hv (J7 ha.h (J7 hb pa_nil hs) he) hn aW he hpl).imp fun _ _ _ q=>y4c q⟩
noncomputable def m8:List D->Option (List Int)
 | []=>some []
 | .int i::ds=>(m8 ds).map (i::·)
 |_::_=>none
noncomputable def O6:List D->Option (List Bool)
 | []=>some []
 | .bl i::ds=>(O6 ds).map (i::·)
 |_::_=>none
theorem W0:∀(ns:List Int),m8 (ns.map D.int)=some ns
 | []=>rfl
 |n::ns=>by simp[m8,W0 ns]
theorem V6{K:Frag}{H:Hp}:∀{ds:List D}{ns:List Int}{xs:List V},m8 ds=some ns->RDs K H ds xs->xs=ns.map V.int
 | [],ns,xs,h,r=>by simp only[m8]at h;cases h;simp only[RDs]at r;subst r;rfl
 |d::ds,ns,xs,h,r=>by
  simp only[RDs]at r;obtain⟨x,xs,rfl,r1,r2⟩:=r;cases d<;>simp only[m8]at h<;>first |cases h |skip
  cases q:m8 ds with
  |none=>rw[q]at h;cases h
  |some ms=>
   rw[q]at h;cases h
   cases r1.int
   rw[V6 q r2];rfl
theorem Zn{K:Frag}{H:Hp}:∀{ds:List D}{ns:List Bool}{xs:List V},O6 ds=some ns->RDs K H ds xs->xs=ns.map V.bl
 | [],ns,xs,h,r=>by simp only[O6]at h;cases h;simp only[RDs]at r;subst r;rfl
 |d::ds,ns,xs,h,r=>by
  simp only[RDs]at r;obtain⟨x,xs,rfl,r1,r2⟩:=r;cases d<;>simp only[O6]at h<;>first |cases h |skip
  cases q:O6 ds with
  |none=>rw[q]at h;cases h
  |some ms=>
   rw[q]at h;cases h
   cases r1.bl
   rw[Zn q r2];rfl
noncomputable def k9:List D->Option D
 | [.lst ds]=>some (.int ds.length)
 | [.tup ds]=>some (.int ds.length)
 | [.dk ks _]=>some (.int ks.length)
 | [.scr ns]=>some (.int ns.length)
 | [.str z]=>if z.length<=100000 then some (.int z.length) else none
 |_=>none
def C8:List D->Option D
 | [.lst ds]=>(m8 ds).map fun ns=>.int ns.sum
 | [.tup ds]=>(m8 ds).map fun ns=>.int ns.sum
 |_=>none
def X3:List D->Option D
 | [.lst ds]=>(O6 ds).map fun bs=>.bl (bs.all id)
 |_=>none
noncomputable def Hq:List D->Option D
 | [.int i,.int j]=>some (.int (if j > i then j else i))
 |_=>none
noncomputable def Ho:List D->Option D
 | [.int i,.int j]=>some (.int (if j<i then j else i))
 |_=>none
noncomputable def X2:List D->Option D
 | [.int i]=>some (.int i)
 | [.bl b]=>some (.int (if b then 1 else 0))
 |_=>none
noncomputable def Y4:List D->Option D
 | [.lst ds]=>some (.lst ds)
 | [.tup ds]=>some (.lst ds)
 | [.scr ns]=>some (.lst (ns.map .int))
 |_=>none
noncomputable def z8:List D->Option D
 | [.lst ds]=>some (.tup ds)
 | [.tup ds]=>some (.tup ds)
 |_=>none
section
variable {X:Cx}{K:Frag}
def RDs.uno(h:RDs K H [d] xs):∃x,xs=[x]/\RD K H d x:=by simp only[RDs]at h;obtain⟨x,r,rfl,h1,rfl⟩:=h;exact⟨x,rfl,h1⟩
def RDs.duo(h:RDs K H [d,e] xs):∃x y,xs=[x,y]/\RD K H d x/\RD K H e y:=by simp only[RDs]at h;obtain⟨x,r,rfl,h1,y,r',rfl,h2,rfl⟩:=h;exact⟨x,y,rfl,h1,h2⟩
def Pg(K:Frag):List V->Hp->VK->Prop:=fun xs H Q=>(∃p ys,xs=[.ref p]/\(SqL K H p ys\/SqT K H p ys)/\Q (.int ys.length) H)\/(∃a kvs,xs=[V.ref a]/\H a=some (.dK kvs)/\Q (.int kvs.length) H)\/∃z,xs=[.str z]/\z.length<=sizeLine/\Q (.int z.length) H
def vw:CallR X (.builtin "len") (Pg X.K):=call_len_seq.or (call_lenD.or zd3)
def vv:v8 K false k9 (Pg K):=by
 intro H0 H xs ds z Q s r ho k;unfold k9 at ho;split at ho<;>first |cases ho |skip
 . obtain⟨x,rfl,q1⟩:=r.uno;obtain⟨a,ys,rfl,ha,ra⟩:=q1.lst;exact .inl ⟨a,ys,rfl,.inl (.of (s _ _ ha)),by rw[<-ra.length];exact k _ H (.pure s (.mkInt _))⟩
 . obtain⟨x,rfl,q1⟩:=r.uno;obtain⟨a,ys,rfl,ha,ra⟩:=q1.tup;exact .inl ⟨a,ys,rfl,.inr (.of (s _ _ ha)),by rw[<-ra.length];exact k _ H (.pure s (.mkInt _))⟩
 . obtain⟨x,rfl,q1⟩:=r.uno;obtain⟨a,ys,rfl,ha,hl,ra⟩:=q1.dk;refine .inr (.inl ⟨a,_,rfl,s _ _ ha,?_⟩);rw[DK,<-hl,Nat.min_self];exact k _ H (.pure s (.mkInt _))
 . obtain⟨x,rfl,q1⟩:=r.uno;obtain⟨a,rfl,ha⟩:=(q1.mono s).scr;exact .inl ⟨a,_,rfl,.inl ha,by rw[bI];exact k _ H (.pure s (.mkInt _))⟩
 . split at ho<;>cases ho;rename_i h;obtain⟨x,rfl,q1⟩:=r.uno;cases q1.str;exact .inr (.inr ⟨_,rfl,Q7 h,k _ H (.pure s (.mkInt _))⟩)
def Jm:v8 K false C8 Hi:=by
 intro H0 H xs ds z Q s r ho k;unfold C8 at ho;split at ho<;>first |cases ho |skip
 . obtain⟨x,rfl,q1⟩:=r.uno;obtain⟨a,ys,rfl,ha,ra⟩:=q1.lst;rename_i es;cases q:m8 es with
   |none=>rw[q]at ho;cases ho
   |some ns=>
    rw[q]at ho;cases ho
    rw[Ve]
    exact⟨ns,by rw[<-V6 q ra];exact Yc (s _ _ ha),k _ H (.pure s (.mkInt _))⟩
 . obtain⟨x,rfl,q1⟩:=r.uno;obtain⟨a,ys,rfl,ha,ra⟩:=q1.tup;rename_i es;cases q:m8 es with
   |none=>rw[q]at ho;cases ho
   |some ns=>
    rw[q]at ho;cases ho
    rw[Ve]
    exact⟨ns,by rw[<-V6 q ra];exact Yb (s _ _ ha),k _ H (.pure s (.mkInt _))⟩
def Sk:v8 K false X3 Hh:=by
 intro H0 H xs ds z Q s r ho k;unfold X3 at ho;split at ho<;>first |cases ho |skip
 obtain⟨x,rfl,q1⟩:=r.uno;obtain⟨a,ys,rfl,ha,ra⟩:=q1.lst;rename_i es;cases q:O6 es with
 |none=>rw[q]at ho;cases ho
 |some ns=>
  rw[q]at ho;cases ho
  rw[yi]
  exact⟨ns,by rw[<-Zn q ra];exact .inl (s _ _ ha),k _ H (.pure s (.mkBl _))⟩
def xS:v8 K false Hq Hg:=by
 intro H0 H xs ds z Q s r ho k;unfold Hq at ho;split at ho<;>first |cases ho |skip
 obtain⟨x,y,rfl,r1,r2⟩:=r.duo;cases r1.int;cases r2.int;rw[yh];exact k _ H (.pure s (.mkInt _))
def xR:v8 K false Ho Hf:=by
 intro H0 H xs ds z Q s r ho k;unfold Ho at ho;split at ho<;>first |cases ho |skip
 obtain⟨x,y,rfl,r1,r2⟩:=r.duo;cases r1.int;cases r2.int;rw[yg];exact k _ H (.pure s (.mkInt _))
def Sj:v8 K false X2 Pq:=by
 intro H0 H xs ds z Q s r ho k;unfold X2 at ho;split at ho<;>first |cases ho |skip
 . obtain⟨x,rfl,q1⟩:=r.uno;cases q1.int;exact k _ H (.pure s (.mkInt _))
 . obtain⟨x,rfl,q1⟩:=r.uno;cases q1.bl;exact k _ H (.pure s (.mkInt _))
def Si(K:Frag):List V->Hp->VK->Prop:=fun xs H Q=>∃p ys,xs=[.ref p]/\(SqL K H p ys\/SqT K H p ys)/\∀l,H l=none->Q (.ref l) (upd H l (.lst ys))
def xQ:CallR X (.type "list") (Si X.K):=zd4
def xP:v8 K true Y4 (Si K):=by
 intro H0 H xs ds z Q s r ho k;have fin:∀{p:Addr}{ys:List V}{es:List D},RDs K H0 es ys->z=.lst es->H p=none->Q (.ref p) (upd H p (.lst ys)):=fun {p ys es} re e hp=>by subst e;refine k _ _ (.new s hp fun H' hH=>?_);simp only[OB];exact⟨_,hH,re⟩
 unfold Y4 at ho;split at ho<;>first |cases ho |skip
 . obtain⟨x,rfl,q1⟩:=r.uno;obtain⟨a,ys,rfl,ha,ra⟩:=q1.lst;exact⟨a,ys,rfl,.inl (.of (s _ _ ha)),fun l hl=>fin ra rfl hl⟩
 . obtain⟨x,rfl,q1⟩:=r.uno;obtain⟨a,ys,rfl,ha,ra⟩:=q1.tup;exact⟨a,ys,rfl,.inr (.of (s _ _ ha)),fun l hl=>fin ra rfl hl⟩
 . obtain⟨x,rfl,q1⟩:=r.uno;obtain⟨a,rfl,ha⟩:=(q1.mono s).scr;exact⟨a,_,rfl,.inl ha,fun l hl=>fin (RDs.ofInts _) rfl hl⟩
def Ur(K:Frag):List V->Hp->VK->Prop:=fun xs H Q=>∃p ys,xs=[.ref p]/\((SqL K H p ys/\∀l,H l=none->Q (.ref l) (upd H l (.tup ys)))\/(SqT K H p ys/\Q (.ref p) H))
def M6:CallR X (.type "tuple") (Ur X.K):=zbg
def M5:v8 K false z8 (Ur K):=by
 intro H0 H xs ds z Q s r ho k;unfold z8 at ho;split at ho<;>first |cases ho |skip
 . obtain⟨x,rfl,q1⟩:=r.uno;obtain⟨a,ys,rfl,ha,ra⟩:=q1.lst;refine⟨a,ys,rfl,.inl ⟨.of (s _ _ ha),fun l hl=>k _ _ (.val (Same.upd_new hl) (.new s hl) (.mkTup k7 (ra.mono (Same.upd_new (s.none hl)))))⟩⟩
 . obtain⟨x,rfl,q1⟩:=r.uno;obtain⟨a,ys,rfl,ha,ra⟩:=q1.tup;exact⟨a,ys,rfl,.inr ⟨.of (s _ _ ha),k _ H (.pure s (.mkTup ha ra))⟩⟩
end
noncomputable def K4{α:Type}(xs:List α)(lo hi:Option Int):List α:=(xs.drop (HT.sIx xs.length 0 lo)).take (HT.sIx xs.length xs.length hi - HT.sIx xs.length 0 lo)
def dSl:D->Option Int->Option Int->Option D
 | .lst ds,lo,hi=>some (.lst (K4 ds lo hi))
 | .scr ns,lo,hi=>some (.lst ((K4 ns lo hi).map .int))
 |_,_,_=>none
def TOd(K:Frag)(EX:XW)(f:DE->R (Option Int)):TO:=fun σ H Q=>Same EX.hb H/\∃ρ H0,Same H0 H/\RE K H0 ρ σ/\Rk EX.at (f ρ) fun o=>∀H',Same H H'->Q o H'
def oSo(f:DE->R D):DE->R (Option Int):=fun ρ=>(f ρ).bind fun d=>R.of (match d with | .int i=>some (some i) |_=>none)
def eSl(o:D->Option Int->Option Int->Option D)(f:DE->R D)(fl fh:DE->R (Option Int)):DE->R D:=fun ρ=>(f ρ).bind fun d=>(fl ρ).bind fun lo=>(fh ρ).bind fun hi=>R.of (o d lo hi)
def SlD(K:Frag)(fr:Bool)(o:D->Option Int->Option Int->Option D)(r:V->Option Int->Option Int->Hp->VK->Prop):Prop:=∀(H0 H:Hp)(x:V)(d z:D)(lo hi:Option Int)(Q:VK),Same H0 H->RD K H0 d x->o d lo hi=some z->(∀v H',Out K fr H0 H z v H'->Q v H')->r x lo hi H Q
section
variable {X:Cx}{K:Frag}{EX:XW}{fr:Bool}{σ:St}{H:Hp}{Q:VK}
structure QO(X:Cx)(EX:XW)(e:Option Expr)(f:DE->R (Option Int)):Prop where
 h:PO X e (TOd X.K EX f)
def PO.imp(h:PO X e t)(hi:∀σ H Q,t' σ H Q->t σ H Q):PO X e t':=fun pins s σ H Q I q=>h pins s σ H Q I (hi σ H Q q)
theorem kL(he:QE X EX false e f):QO X EX (some e) (oSo f):=⟨(yv he.h).imp fun σ H Q ⟨sx,ρ,H0,s,e,h⟩=>by
 unfold oSo at h;rw[Rk.bind]at h;refine TEd.go sx s e h fun d h v H1 ao s1 e1 r1=>?_
 obtain⟨o,ho,h⟩:=h.of;cases d<;>dsimp only at ho<;>first |cases ho |skip
 cases r1.int;exact⟨_,rfl,h H1 s1⟩⟩
def y86(hs:SlD K fr o r)(h:TEd K EX fr (eSl o f fl fh) σ H Q):tSl r (TEd K EX false f) (TOd K EX fl) (TOd K EX fh) σ H Q:=by
 obtain⟨sx,ρ,H0,s,e,h⟩:=h;unfold eSl at h;rw[Rk.bind]at h;refine TEd.go sx s e h fun d h v H1 ao s1 e1 r1=>?_
 rw[Rk.bind]at h;refine⟨sx.trans s1,ρ,ao,e1.2.1,e.mono e1.1,h.mono fun lo h H2 s2=>?_⟩;rw[Rk.bind]at h;refine⟨(sx.trans s1).trans s2,ρ,ao,e1.2.1.trans s2,e.mono e1.1,h.mono fun hi h H3 s3=>?_⟩;obtain⟨z,hz,h⟩:=h.of;exact hs ao H3 v d z lo hi Q (e1.2.1.trans (s2.trans s3)) r1 hz fun w H4 o=>h w H4 (o.after (s1.trans (s2.trans s3)) (e1.grow (s2.trans s3)))
def RDs.cut(r:RDs K H ds xs)(lo hi:Option Int):RDs K H (K4 ds lo hi) (R5 xs lo hi):=by unfold K4 R5;rw[<-r.length];exact(r.drop _).take _
theorem xO:SlD K true dSl (qo K):=by
 intro H0 H x d z lo hi Q s r ho k;cases d<;>simp only[dSl]at ho<;>first |cases ho |skip
 . obtain⟨a,xs,rfl,ha,ra⟩:=r.lst;refine⟨a,xs,rfl,.of (s _ _ ha),fun p hp=>k _ _ (.new s hp fun H' hH=>?_)⟩;simp only[OB];exact⟨_,hH,ra.cut lo hi⟩
 . rename_i ns;obtain⟨a,rfl,ha⟩:=(r.mono s).scr;refine⟨a,_,rfl,ha,fun p hp=>k _ _ (.new s hp fun H' hH=>?_)⟩;simp only[OB];have e:=(RDs.ofInts (K:=K) (H:=H0) ns).cut lo hi;refine⟨_,hH,?_⟩;have e2:∀ns:List Int,K4 (ns.map D.int) lo hi=(K4 ns lo hi).map D.int:=fun ns=>by unfold K4;rw[bI,List.map_take,List.map_drop]
   rw[e2]at e;exact e
def y87{o:D->Option Int->Option Int->Option D}{r:V->Option Int->Option Int->Hp->VK->Prop}{e:Expr}{lo hi:Option Expr}{pos p2:Pos}{f:DE->R D}{fl fh:DE->R (Option Int)}(hr:SlR X r)(hs:SlD X.K fr o r)(he:QE X EX false e f)(hl:QO X EX lo fl)(hu:QO X EX hi fh) :
 QE X EX fr (.Subscript e (.Slice lo hi none p2) pos) (eSl o f fl fh):=⟨(zT hr he.h hl.h hu.h).imp fun _ _ _ q=>y86 hs q⟩
end
def iL(f:DE->R D):DE->R (List D):=fun ρ=>(f ρ).bind fun d=>R.of (items d)
noncomputable def zD(lo:Int)(n:Nat):List D:=(List.range n).map fun (i:Nat)=>D.int (lo+i)
def Q5(fs:DE->R (List D)):DE->R (List D):=fun ρ=>(fs ρ).bind fun ds=>R.of (match ds with
 | [.int j]=>if -(2 ^ 62)<=j/\j<2 ^ 62 then some (zD 0 j.toNat) else none
 |_=>none)
def iEn(fs:DE->R (List D)):DE->R (List D):=fun ρ=>(fs ρ).bind fun ds=>R.of (match ds with
 | [.lst es]=>some (((zD 0 es.length).zip es).map fun p=>D.tup [p.1,p.2])
 |_=>none)
def iZp(fs:DE->R (List D)):DE->R (List D):=fun ρ=>(fs ρ).bind fun ds=>R.of (match ds with
 | [.lst es,.lst gs]=>some ((es.zip gs).map fun p=>D.tup [p.1,p.2])
 |_=>none)
section
variable {X:Cx}{K:Frag}{EX:XW}{H0:Hp}
def Dj(hS:∀H,Same H0 H->S H)(r:RDs K H0 ds xs):R0 K (ItS S xs) H0 ds:=by have hl:=r.length;refine⟨fun i d e H H1 s1 s2=>⟨⟨hS H (s1.trans s2),by rw[<-hl];exact(CU.mp e).1⟩,fun x H' ⟨e1,e2⟩=>?_⟩,fun H s=>⟨hS H s,by rw[hl];exact η _⟩⟩;subst e1;obtain⟨x',q1,q2⟩:=r.get' e;rw[q1]at e2;cases e2;exact⟨Same.refl _,H1,.refl s2,q2.mono s1⟩
def Pf(lo:Int)(n:Nat):RDs K H0 (zD lo n) (B7 lo n):=by
 have:∀l:List Nat,RDs K H0 (l.map fun (i:Nat)=>D.int (lo+i)) (l.map fun (i:Nat)=>V.int (lo+i)):=by
  intro l;induction l with
  |nil=>simp[RDs]
  |cons a l ih=>exact .cons (.mkInt _) ih
 exact this _
theorem k6(hl:QE X EX false l f):QI X EX false tg l (iL f):=⟨(vQ hl.h).imp fun σ H Q ⟨sx,ρ,H0,s,e,h⟩=>by
 unfold iL at h;rw[Rk.bind]at h;refine TEd.go sx s e h fun d h v H1 ao s1 e1 r1=>?_
 obtain⟨ds,hd,h⟩:=h.of;cases d<;>simp only[items]at hd<;>first |cases hd |skip
 . obtain⟨a,xs,rfl,ha,ra⟩:=r1.tup;exact zK (e1.2.1 _ _ ha) (h _ H1 ao s1 e1 (Dj (fun H s=>s _ _ ha) ra))
 . obtain⟨a,xs,rfl,ha,ra⟩:=r1.lst;exact zL (.inl (e1.2.1 _ _ ha)) (h _ H1 ao s1 e1 (Dj (fun H s=>.inl (s _ _ ha)) ra))⟩
theorem kK(hg:Gl X "range")(hm:X.mg "range"=none)(ha:QA X EX [a] fs)(hs:starEach [a] X.env=[(false,eval a X.env)]:=by rfl):QI X EX true tg (.Call (.Name "range" p) [a] [] pos) (Q5 fs):=⟨(y3j hg hm ha.h hs).imp fun σ H Q ⟨sx,ρ,H0,s,e,h⟩=>by
 unfold Q5 at h;rw[Rk.bind]at h;refine TAd.go sx s e h fun ds h vs H1 ao s1 e1 r1=>?_
 obtain⟨es,hd,h⟩:=h.of;split at hd<;>first |cases hd |skip
 obtain⟨x,rfl,q1⟩:=r1.uno;cases q1.int;split at hd<;>cases hd;rename_i hb;exact⟨hb,h _ H1 ao s1 e1 (Dj (fun _ _=>trivial) (Pf _ _))⟩⟩
def Sh(hS:∀H,Same H0 H->S H)(r:RDs K H0 ds xs)(r':RDs K H0 es ys):R0 K (ItP S (xs.zip ys)) H0 ((ds.zip es).map fun p=>D.tup [p.1,p.2]):=by
 have hl:=r.length;have dZ:=r'.length;have hz:((ds.zip es).map fun p=>D.tup [p.1,p.2]).length=(xs.zip ys).length:=by rw[bI,DK,DK,hl,dZ]
 refine⟨fun i d e H H1 s1 s2=>⟨⟨hS H (s1.trans s2),by rw[<-hz];exact(CU.mp e).1⟩,fun x H' y=>?_⟩,fun H s=>⟨hS H s,hz⟩⟩;obtain⟨T,a,b,rfl,hT,rfl,ep⟩:=y;obtain⟨ea,eb⟩:=FZ.mp ep;obtain⟨da,ga,ra⟩:=r.get ea;obtain⟨db,gb,rb⟩:=r'.get eb;have gz:(ds.zip es)[i]?=some (da,db):=FZ.mpr ⟨ga,gb⟩;rw[CJ,gz]at e;cases e;refine⟨Same.upd_new hT,upd H1 T (.tup [a,b]),.new s2 hT,.mkTup k7 ?_⟩;have sm:=Same.upd_new (o:=.tup [a,b]) (s2.none hT);exact .cons (ra.mono (s1.trans sm)) (.cons (rb.mono (s1.trans sm)) .nil)
theorem y88(hg:Gl X "enumerate")(hm:X.mg "enumerate"=none)(ha:QA X EX [a] fs)(hs:starEach [a] X.env=[(false,eval a X.env)]:=by rfl) :
  QI X EX false (.Tuple bq k ay) (.Call (.Name "enumerate" p) [a] [] pos) (iEn fs):=⟨(yl hg hm ha.h hs).imp fun σ H Q ⟨sx,ρ,H0,s,e,h⟩=>by
 unfold iEn at h
 rw[Rk.bind]at h
 refine TAd.go sx s e h fun ds h vs H1 ao s1 e1 r1=>?_
 obtain⟨es,hd,h⟩:=h.of
 split at hd<;>first |cases hd |skip
 obtain⟨x,rfl,q1⟩:=r1.uno
 obtain⟨l,xs,rfl,hl,rl⟩:=q1.lst
 refine⟨xs,.inl (e1.2.1 _ _ hl),h _ H1 ao s1 e1 ?_⟩
 rw[rl.length]
 exact Sh (fun H s=>.inl (s _ _ hl)) (Pf _ _) rl⟩
theorem y89(hg:Gl X "zip")(hm:X.mg "zip"=none)(ha:QA X EX [a,b] fs)(hs:starEach [a,b] X.env=[(false,eval a X.env),(false,eval b X.env)]:=by rfl)(fm:starEach [b] X.env=[(false,eval b X.env)]:=by rfl) :
  QI X EX false (.Tuple bq k ay) (.Call (.Name "zip" p) [a,b] [] pos) (iZp fs):=⟨(vO hg hm ha.h hs fm).imp fun σ H Q ⟨sx,ρ,H0,s,e,h⟩=>by
 unfold iZp at h
 rw[Rk.bind]at h
 refine TAd.go sx s e h fun ds h vs H1 ao s1 e1 r1=>?_
 obtain⟨es,hd,h⟩:=h.of
 split at hd<;>first |cases hd |skip
 obtain⟨x,y,rfl,q1,q2⟩:=r1.duo
 obtain⟨l,xs,rfl,hl,rl⟩:=q1.lst
 obtain⟨l',ys,rfl,dZ,sZ⟩:=q2.lst
 exact⟨xs,ys,.inl (e1.2.1 _ _ hl),.inl (e1.2.1 _ _ dZ),h _ H1 ao s1 e1 (Sh (fun H s=>⟨.inl (s _ _ hl),.inl (s _ _ dZ)⟩) rl sZ)⟩⟩
end
section
variable {X:Cx}{sc:Scope}{caps:List Str}{ix:List Nat}{aH iter:Expr}{aC:List Expr}{pos px py ay:Pos}{x y:Str}{kt:Nat}{kp:Bool}{EX:XW}{fi:DE->R (List D)}{t:DE->R Bool}{f:DE->R D}
noncomputable def p9:DE->R Bool:=fun _=>.ok true
inductive PTq (X:Cx) (sc:Scope) (N:List Str):List Expr->(DE->R Bool)->Prop where
 |nil:PTq X sc N [] p9
 |one {c:Expr} {t:DE->R Bool} (h:∀fp s H,QT (j5 X sc N fp s H) F0 c t):PTq X sc N [c] t
def PTq.run(h:PTq X sc N aC t):∃tt,(∀fp s H,PTs (j5 X sc N fp s H) aC tt)/\∀σ H Q,TTd X.K F0 t σ H Q->tt σ H Q:=by
 cases h with
 |nil=>exact⟨_,fun _ _ _=>.nil,fun σ H Q ⟨sx,ρ,H0,s,e,h⟩=>h H (Same.refl _)⟩
 |one h=>exact⟨_,fun fp s H=>.one (h fp s H).h,fun _ _ _ q=>q⟩
def G0(C:CompOk X sc caps ix)(hN:([x]++caps).Nodup)(hx:sc.names.lookup x=some .local)(hi:QI X EX kp (.Name x px) iter fi)(ht:PTq X sc ([x]++caps) aC t)(he:∀fp s H,QE (j5 X sc ([x]++caps) fp s H) F0 false aH f)
  (hs:∀x,foldedSetIterable iter X.env x=pure x:=by intro _;rfl):QE X EX true (.ListComp aH [⟨.Name x px,iter,aC,0⟩] sc pos) (j7 fi b1 ix t f):=by
 obtain⟨tt,h1,h2⟩:=ht.run
 refine⟨(zI C hN hx hi.h h1 (fun fp s H=>(he fp s H).h) hs).imp fun _ _ _ q=>Dm kR h2 q⟩
def y8a(C:CompOk X sc caps ix)(hN:([x,y]++caps).Nodup)(hx:sc.names.lookup x=some .local)(hy:sc.names.lookup y=some .local)(hi:QI X EX kp (.Tuple [.Name x px,.Name y py] kt ay) iter fi)(ht:PTq X sc ([x,y]++caps) aC t)
  (he:∀fp s H,QE (j5 X sc ([x,y]++caps) fp s H) F0 false aH f) (hs:∀x,foldedSetIterable iter X.env x=pure x:=by intro _;rfl):QE X EX true (.ListComp aH [⟨.Tuple [.Name x px,.Name y py] kt ay,iter,aC,0⟩] sc pos) (j7 fi (bT 2) ix t f):=by
 obtain⟨tt,h1,h2⟩:=ht.run
 refine⟨(zG C hN hx hy hi.h h1 (fun fp s H=>(he fp s H).h) hs).imp fun _ _ _ q=>Dm kQ h2 q⟩
def Xy(h:∀σ H Q,tf σ H Q->te σ H Q)(q:B8 tf g De σ H):B8 te g De σ H:=h _ _ _ q
def Q4{fr:Bool}{m:List Bool}{v:Str}{k:Nat}{bL pv:Pos}(fu:X.N.Nodup)(hk:X.N[k]?=some v)(hv:X.env.scope.names.lookup v=some .local)(C:CompOk X sc caps ix)(hN:([x]++caps).Nodup)(hx:sc.names.lookup x=some .local)(hi:QI X EX kp (.Name x px) iter fi)
  (ht:PTq X sc ([x]++caps) aC t) (he:∀fp s H,QE (j5 X sc ([x]++caps) fp s H) F0 false aH f)
  (cW:swapsWith (.ListComp aH [⟨.Name x px,iter,aC,0⟩] sc pos) (some (.Name v pv)) bL.line X.env=pure true:=by rfl) (hs:∀x,foldedSetIterable iter X.env x=pure x:=by intro _;rfl) :
  QS X EX fr (.Assign [.Name v pv] (.ListComp aH [⟨.Name x px,iter,aC,0⟩] sc pos) bL) (e7 true k m (j7 fi b1 ix t f)):=by
 obtain⟨tt,h1,h2⟩:=ht.run
 refine⟨(zH fu hk hv C hN hx hi.h h1 (fun fp s H=>(he fp s H).h) cW hs).imp fun _ _ _ q=>Xy (fun _ _ _ q=>Dm kR h2 q) (Cp q)⟩
def Oo{fr:Bool}{m:List Bool}{v:Str}{k:Nat}{bL pv:Pos}(fu:X.N.Nodup)(hk:X.N[k]?=some v)(hv:X.env.scope.names.lookup v=some .local)(C:CompOk X sc caps ix)(hN:([x,y]++caps).Nodup)(hx:sc.names.lookup x=some .local)(hy:sc.names.lookup y=some .local)
  (hi:QI X EX kp (.Tuple [.Name x px,.Name y py] kt ay) iter fi) (ht:PTq X sc ([x,y]++caps) aC t) (he:∀fp s H,QE (j5 X sc ([x,y]++caps) fp s H) F0 false aH f)
  (cW:swapsWith (.ListComp aH [⟨.Tuple [.Name x px,.Name y py] kt ay,iter,aC,0⟩] sc pos) (some (.Name v pv)) bL.line X.env=pure true:=by rfl) (hs:∀x,foldedSetIterable iter X.env x=pure x:=by intro _;rfl) :
  QS X EX fr (.Assign [.Name v pv] (.ListComp aH [⟨.Tuple [.Name x px,.Name y py] kt ay,iter,aC,0⟩] sc pos) bL) (e7 true k m (j7 fi (bT 2) ix t f)):=by
 obtain⟨tt,h1,h2⟩:=ht.run
 refine⟨(zF fu hk hv C hN hx hy hi.h h1 (fun fp s H=>(he fp s H).h) cW hs).imp fun _ _ _ q=>Xy (fun _ _ _ q=>Dm kQ h2 q) (Cp q)⟩
end
section
variable {X:Cx}{EX:XW}{fr cz:Bool}{st:Stmt}{sts:List Stmt}{a c e:Expr}{es:List Expr}{f:DE->R D}{fs:DE->R (List D)}{t:DE->R Bool}{g g1 g2:DS->SR}{pos p:Pos}{m:List Bool}
def p7:QB X EX fr [] sNx:=⟨pss_nil.imp fun _ _ _ q=>Ov q⟩
def d9(h:QS X EX fr st g):QB X EX fr [st] g:=⟨Ko h.h⟩
def d6(h1:QS X EX fr st g1)(h2:QB X EX fr sts g2):QB X EX fr (st::sts) (c9 g1 g2):=⟨(Eu h1.h h2.h).imp fun _ _ _ q=>Hd q⟩
def M1:QS X EX fr st sNo:=⟨ps_never.imp fun _ _ _ q=>y82 q⟩
def o4(hc:QT X EX c t)(ha:QB X EX fr x g1)(hb:QB X EX fr y g2):QS X EX fr (.If c x y pos) (sIf t g1 g2):=⟨(Qf hc.h ha.h hb.h).imp fun _ _ _ q=>Pl q⟩
def i8(he:QE X EX fr e f):QS X EX fr (.Return (some e) pos) (g8 m f):=⟨(Jq he.h).imp fun _ _ _ q=>y3x q⟩
def T9(hN:X.N[i]?=some x:=by rfl)(hv:Vis X.env.scope x:=by first |exact .inl rfl |exact .inr (.inl rfl) |exact .inr (.inr rfl))(hd:(x==("__debug__":Str))=false:=by decide)
 (bB:(x==("__classdict__":Str))=false:=by decide):QS X EX true (.Return (some (.Name x p)) pos) (J3 i):=⟨(Jq (pw i hN hv hd bB)).imp fun _ _ _ q=>vE q⟩
def Jl(he:QE X EX false e f)(hs:swapsWith e none pos.line X.env=pure false:=by rfl):QS X EX fr (.Expr e pos) (T5 f):=⟨(Kn he.h hs).imp fun _ _ _ q=>vD q⟩
def y4e(hN:X.N.Nodup)(hi:X.N[i]?=some x)(hx:Loc X.env.scope x)(he:QE X EX cz e f)(hs:swapsWith e (some (.Name x aF)) pos.line X.env=pure false:=by rfl)(hf:X.fn x=true\/X.env.scope.names.lookup x=some .local) :
 QS X EX fr (.Assign [.Name x aF] e pos) (e7 cz i m f):=⟨(Jp hN hi hx he.h hs hf).imp fun _ _ _ q=>Cp q⟩
def g_n(hN:X.N.Nodup)(hi:X.N[i]?=some x)(hx:Loc X.env.scope x)(hf:X.fn x=true\/X.env.scope.names.lookup x=some .local:=by exact .inl rfl):QG X (.Name x pos) (.n i):=⟨(Ei hN hi hx hf).imp fun _ _ _ _ q=>kS q⟩
def vt:QGs X [] []:=⟨zE⟩
def Uq(hN:X.N.Nodup)(hi:X.N[i]?=some x)(hx:Loc X.env.scope x)(hr:QGs X ts is)(hf:X.fn x=true\/X.env.scope.names.lookup x=some .local:=by exact .inl rfl)
 (hs:(assignEach (.Name x pos::ts) X.env).map (·.2)=assign (.Name x pos) X.env::(assignEach ts X.env).map (·.2):=by rfl):QGs X (.Name x pos::ts) (i::is):=⟨zkl (Ei hN hi hx hf) hr.h hs⟩
def g_t(hc:X.calm=true)(h:QGs X ts is)(hn:(assignEach ts X.env).length=is.length:=by rfl)(aU:(assignEach ts X.env).findIdx? (·.1)=none:=by rfl):QG X (.Tuple ts k pos) (.t is):=⟨(yj hc h.h hn aU).imp fun _ _ _ _ q=>y83 q⟩
def G7(hp:PassesOwn (model X.prog X.w) X.A X.env X.xe)(hc:X.calm=true)(hi:QI X EX kp tg iter fi)(hg:QG X tg tt)(hb:QB X EX fr body g)
 (hs:∀x,foldedSetIterable iter X.env x=pure x:=by intro _;rfl):QS X EX fr (.For tg iter body [] pos) (v6 kp m fi tt g):=⟨(Vf hp hc hi.h hg.h hb.h hs).imp fun _ _ _ q=>Pj q⟩
def Eb(hp:PassesOwn (model X.prog X.w) X.A X.env X.xe)(hc:QT X EX c t)(hb:QB X EX fr body g):QS X EX fr (.While c body [] pos) (C5 n t g):=⟨(zY hp hc.h hb.h).imp fun _ _ _ q=>ya q⟩
noncomputable def k8:D->List D->Option D
 | .lst ds,[d]=>if ds.length<100000 then some (.lst (ds++[d])) else none
 |_,_=>none
theorem E1{K:Frag}:TyD K "list":=fun H0 H a d ob h=>by cases d<;>simp[isT]at h;simp only[OB]at ob;obtain⟨xs,hx,_⟩:=ob;exact .inl ⟨rfl,xs,.of hx⟩
theorem F7{K:Frag}:X6 K k8 Vl:=by
 intro H0 H a d d' ds vs Q s h0 ob r hm k;unfold k8 at hm;split at hm<;>first |cases hm |skip
 split at hm<;>cases hm;rename_i es e hl;simp only[OB]at ob;obtain⟨xs,hx,rx⟩:=ob;obtain⟨y,rfl,q1⟩:=r.uno;refine⟨a,xs,y,rfl,rfl,hx,by rw[<-rx.length];exact Ez hl,k _ _ ?_⟩;simp only[OB];exact⟨_,k7,rx.append (.one q1)⟩
def F4{T id:String}{name:Str}{i:Nat}{x:Str}{xp aq ag:Pos}{mt:D->List D->Option D}{rr:V->List V->Hp->VK->Prop}(pa:PlainAttrs T)(slot:Slot T name id)(dy:typeOf (.builtin id)=pure (.type "method_descriptor"))(hm:MtM X id rr)(od:X6 X.K mt rr)(hT:TyD X.K T)
 (ho:PE X (.Name x xp) (n8 i)) (ha:QA X EX (e::es) fs)
 (aP:attributeBase (.Name x xp) name X.env (eval (.Name x xp) X.env)=eval (.Name x xp) X.env:=by rfl)
 (bK:((backTo ag (starEach (e::es) X.env)).all (fun x=>!x.1)&&(backToKw ag (keywordEach [] X.env)).all (fun x=>x.1.isSome)
  && decide ((e::es).length+([]:List Keyword).length+(if([]:List Keyword).isEmpty then 0 else 1)<30))=true:=by rfl)
 (aQ:(aq.endLine==ag.line)=true:=by rfl) (hs:starEach (e::es) X.env=(false,eval e X.env)::starEach es X.env:=by rfl) (aG:(backTo ag (starEach es X.env)).any (·.1)=false:=by rfl)
 (cW:swapsWith (.Call (.Attribute (.Name x xp) name aq) (e::es) [] ag) none pos.line X.env=pure false:=by rfl) :
 QS X EX fr (.Expr (.Call (.Attribute (.Name x xp) name aq) (e::es) [] ag) pos) (v7 T mt i m fs):=⟨(Kn (Cs pa slot dy hm ho ha.h aP bK aQ hs aG) cW).imp fun _ _ _ q=>Pk od hT q⟩
end
def fnD{P:Program}{w:World}{K:Frag}{mg:Str->Option Value}{base:Heap}{x qual:Str}{st:Stmt}{f:Addr}{fd:FuncData}{N ps:List Str}{k n kk:Nat}{fr:Bool}{g:DS->SR}(F:Fun K x qual st f fd)(S:FnScope N ps (d7 st))(gX:ps.length=n)(hN:N.length=n+kk)
  (bg:∀(cdv:Value)(A:Around)(outer:List Env)(s:Shared)(H:Hp)(E:XK),Room k (A.deeper (envOfC qual (d7 st) s.heap.objs.size f cdv)) ->
   QB (C9 (CX1 P w) P w K mg base N qual (d7 st) f cdv A outer s H E) ⟨H,xNm K mg E⟩ fr (l7 st) g):FnOk P w K mg base (CX1 P w) (k+1) f fd ps (spD K mg fr (mOf fr n kk g) n):=by
 have ae:∀{vs:List V}{H:Hp}{Q:VK}{E:XK},spD K mg fr (mOf fr n kk g) n vs H Q E->vs.length=n:=fun {vs H Q E} h=>by obtain⟨ds,H0,s,r,hn,_⟩:=h;rw[<-r.length];exact hn
 refine F.okX S (fun vs H Q E h=>by rw[ae h,gX]) (fun cdv A outer s H vs Q E hr h=>⟨_,(bg cdv A outer s H E hr).h,?_⟩)
 have e:start N vs=vs.map some++List.replicate kk none:=by unfold start;rw[ae h,hN,Nat.add_sub_cancel_left]
 rw[e]
 exact Sr h
def spL(K:Frag)(fr:Bool)(m:List D->R D)(n:Nat):Sp:=fun vs H Q _=>∃ds H0,Same H0 H/\RDs K H0 ds vs/\ds.length=n/\Rk (fun _=>False) (m ds) fun d=>∀v H',Out K fr H0 H d v H'->Q v H'
def spL.spD{K:Frag}{fr:Bool}{m:List D->R D}{n:Nat}{vs:List V}{H:Hp}{Q:VK}{E:XK}{mg:Str->Option Value}(h:spL K fr m n vs H Q E):L2.spD K mg fr m n vs H Q E:=by
 obtain⟨ds,H0,s,r,hn,h⟩:=h;refine⟨ds,H0,s,r,hn,?_⟩;cases q:m ds with
 |ok d=>rw[q]at h;exact h
 |er x=>rw[q]at h;exact h.elim
 |st=>rw[q]at h;exact h.elim
def vq{K:Frag}{H:Hp}{a:Addr}{ns:List Int}{m:List D->R D}{fr:Bool}(hO:Gc H)(hS:SqL K H a (ns.map V.int))(h:m [.scr ns]=.ok (.bl true)):spL K fr m 1 [.ref a] H (fun v _=>v=.bl true) fun _ _ _=>False:=by
 refine⟨[.scr ns],H,Same.refl _,.one ?_,rfl,?_⟩
 . simp only[RD];refine⟨a,rfl,?_⟩;rcases hS with (hS |hS) |hS
   . rcases hO a with z |⟨o,xs,z⟩<;>rw[z]at hS<;>cases hS
   . exact .inl hS
   . exact .inr hS
 . rw[h];exact fun v H' o=>by obtain⟨_,aa,_,r⟩:=o.weak.rd;exact r.bl
end L2
namespace L2
open PySem PySem.Spec PyProof.Rows
open PySem.W (KasT kas_sort kas_rev kas_asc kas_desc kas_tail3 kas_descPart kas_count kas_place kas_bin)
end L2
namespace L2
open PySem PySem.Spec PyProof.Rows
open PySem.W (KasT kas_sort)
mutual
noncomputable def D.oi:D->Bool
 | .int _=>true
 | .tup ds=>ois ds
 |_=>false
noncomputable def ois:List D->Bool
 | []=>true
 |d::ds=>d.oi&&ois ds
end
mutual
noncomputable def ltT:D->D->Bool
 | .int i,.int j=>decide (i<j)
 | .int _,.tup _=>true
 | .tup ds,.tup es=>ltTs ds es
 |_,_=>false
noncomputable def ltTs:List D->List D->Bool
 | [],[]=>false
 | [],_::_=>true
 |_::_,[]=>false
 |d::ds,e::es=>if eqD d e=true then ltTs ds es else ltT d e
end
mutual
noncomputable def g9:D->D->Option Bool
 | .int i,.int j=>some (decide (i<j))
 | .tup ds,.tup es=>m4 ds es
 |_,_=>none
noncomputable def m4:List D->List D->Option Bool
 | [],[]=>some false
 | [],_::_=>some true
 |_::_,[]=>some false
 |d::ds,e::es=>if eqD d e=true then m4 ds es else g9 d e
end
mutual
theorem Sg:∀{d e:D}{b:Bool},g9 d e=some b->b=ltT d e
 | .int i,.int j,b,h=>by simp only[g9,Option.some.injEq]at h;simp only[ltT];exact h.symm
 | .tup ds,.tup es,b,h=>by simp only[g9]at h;simp only[ltT];exact Up h
 | .non,e,b,h=>by simp[g9]at h
 | .bl _,e,b,h=>by simp[g9]at h
 | .str _,e,b,h=>by simp[g9]at h
 | .lst _,e,b,h=>by simp[g9]at h
 | .dk _ _,e,b,h=>by simp[g9]at h
 | .dt _ _,e,b,h=>by simp[g9]at h
 | .dn _ _,e,b,h=>by simp[g9]at h
 | .scr _,e,b,h=>by simp[g9]at h
 | .exc _ _,e,b,h=>by simp[g9]at h
 | .obj _ _,e,b,h=>by simp[g9]at h
 | .dp _ _,e,b,h=>by simp[g9]at h
 | .int _,.non,b,h=>by simp[g9]at h
 | .int _,.bl _,b,h=>by simp[g9]at h
 | .int _,.str _,b,h=>by simp[g9]at h
 | .int _,.lst _,b,h=>by simp[g9]at h
 | .int _,.tup _,b,h=>by simp[g9]at h
 | .int _,.dk _ _,b,h=>by simp[g9]at h
 | .int _,.dt _ _,b,h=>by simp[g9]at h
 | .int _,.dn _ _,b,h=>by simp[g9]at h
 | .int _,.scr _,b,h=>by simp[g9]at h
 | .int _,.exc _ _,b,h=>by simp[g9]at h
 | .int _,.obj _ _,b,h=>by simp[g9]at h
 | .int _,.dp _ _,b,h=>by simp[g9]at h
 | .tup _,.non,b,h=>by simp[g9]at h
 | .tup _,.bl _,b,h=>by simp[g9]at h
 | .tup _,.int _,b,h=>by simp[g9]at h
 | .tup _,.str _,b,h=>by simp[g9]at h
 | .tup _,.lst _,b,h=>by simp[g9]at h
 | .tup _,.dk _ _,b,h=>by simp[g9]at h
 | .tup _,.dt _ _,b,h=>by simp[g9]at h
 | .tup _,.dn _ _,b,h=>by simp[g9]at h
 | .tup _,.scr _,b,h=>by simp[g9]at h
 | .tup _,.exc _ _,b,h=>by simp[g9]at h
 | .tup _,.obj _ _,b,h=>by simp[g9]at h
 | .tup _,.dp _ _,b,h=>by simp[g9]at h
theorem Up:∀{ds es:List D}{b:Bool},m4 ds es=some b->b=ltTs ds es
 | [],[],b,h=>by simp only[m4,Option.some.injEq]at h;simp only[ltTs];exact h.symm
 | [],_::_,b,h=>by simp only[m4,Option.some.injEq]at h;simp only[ltTs];exact h.symm
 |_::_,[],b,h=>by simp only[m4,Option.some.injEq]at h;simp only[ltTs];exact h.symm
 |d::ds,e::es,b,h=>by
  simp only[m4]at h;simp only[ltTs];split at h
  . rename_i q;rw[ζ q];exact Up h
  . rename_i q;rw[ξ q];exact Sg h
end
mutual
theorem N8:∀{d e:D},d.oi=true->eqD d e=true->e.oi=true->d=e
 | .int i,.int j,_,h,_=>by simp only[eqD,FE]at h;rw[h]
 | .tup ds,.tup es,p,h,q=>by simp only[eqD]at h;simp only[D.oi]at p q;rw[Sf p h q]
 | .int i,.tup _,_,h,_=>by simp[eqD]at h
 | .tup _,.int _,_,h,_=>by simp[eqD]at h
 | .int _,.non,_,_,q=>by simp[D.oi]at q
 | .int _,.bl _,_,_,q=>by simp[D.oi]at q
 | .int _,.str _,_,_,q=>by simp[D.oi]at q
 | .int _,.lst _,_,_,q=>by simp[D.oi]at q
 | .int _,.dk _ _,_,_,q=>by simp[D.oi]at q
 | .int _,.dt _ _,_,_,q=>by simp[D.oi]at q
 | .int _,.dn _ _,_,_,q=>by simp[D.oi]at q
 | .int _,.scr _,_,_,q=>by simp[D.oi]at q
 | .int _,.exc _ _,_,_,q=>by simp[D.oi]at q
 | .int _,.obj _ _,_,_,q=>by simp[D.oi]at q
 | .int _,.dp _ _,_,_,q=>by simp[D.oi]at q
 | .tup _,.non,_,_,q=>by simp[D.oi]at q
 | .tup _,.bl _,_,_,q=>by simp[D.oi]at q
 | .tup _,.str _,_,_,q=>by simp[D.oi]at q
 | .tup _,.lst _,_,_,q=>by simp[D.oi]at q
 | .tup _,.dk _ _,_,_,q=>by simp[D.oi]at q
 | .tup _,.dt _ _,_,_,q=>by simp[D.oi]at q
 | .tup _,.dn _ _,_,_,q=>by simp[D.oi]at q
 | .tup _,.scr _,_,_,q=>by simp[D.oi]at q
 | .tup _,.exc _ _,_,_,q=>by simp[D.oi]at q
 | .tup _,.obj _ _,_,_,q=>by simp[D.oi]at q
 | .tup _,.dp _ _,_,_,q=>by simp[D.oi]at q
 | .non,_,p,_,_=>by simp[D.oi]at p
 | .bl _,_,p,_,_=>by simp[D.oi]at p
 | .str _,_,p,_,_=>by simp[D.oi]at p
 | .lst _,_,p,_,_=>by simp[D.oi]at p
 | .dk _ _,_,p,_,_=>by simp[D.oi]at p
 | .dt _ _,_,p,_,_=>by simp[D.oi]at p
 | .dn _ _,_,p,_,_=>by simp[D.oi]at p
 | .scr _,_,p,_,_=>by simp[D.oi]at p
 | .exc _ _,_,p,_,_=>by simp[D.oi]at p
 | .obj _ _,_,p,_,_=>by simp[D.oi]at p
 | .dp _ _,_,p,_,_=>by simp[D.oi]at p
theorem Sf:∀{ds es:List D},ois ds=true->m9 ds es=true->ois es=true->ds=es
 | [],[],_,_,_=>rfl
 | [],_::_,_,h,_=>by simp[m9]at h
 |_::_,[],_,h,_=>by simp[m9]at h
 |d::ds,e::es,p,h,q=>by simp only[m9,gR]at h;simp only[ois,gR]at p q;rw[N8 p.1 h.1 q.1,Sf p.2 h.2 q.2]
end
mutual
theorem Ar:∀{d:D},d.oi=true->eqD d d=true
 | .int i,_=>by simp[eqD]
 | .tup ds,p=>by simp only[eqD];exact Wq (by simpa only [D.oi] using p)
 | .non,p=>by simp[D.oi]at p
 | .bl _,p=>by simp[D.oi]at p
 | .str _,p=>by simp[D.oi]at p
 | .lst _,p=>by simp[D.oi]at p
 | .dk _ _,p=>by simp[D.oi]at p
 | .dt _ _,p=>by simp[D.oi]at p
 | .dn _ _,p=>by simp[D.oi]at p
 | .scr _,p=>by simp[D.oi]at p
 | .exc _ _,p=>by simp[D.oi]at p
 | .obj _ _,p=>by simp[D.oi]at p
 | .dp _ _,p=>by simp[D.oi]at p
theorem Wq:∀{ds:List D},ois ds=true->m9 ds ds=true
 | [],_=>rfl
 |d::ds,p=>by simp only[ois,gR]at p;simp only[m9,Ar p.1,Wq p.2,DV]
end
mutual
theorem Di:∀{d e:D},d.oi=true->e.oi=true->ltT d e=false->ltT e d=false->d=e
 | .int i,.int j,_,_,h,h'=>by
  simp only[ltT,CQ]at h h';have:i=j:=by lia
  rw[this]
 | .tup ds,.tup es,p,q,h,h'=>by simp only[ltT]at h h';simp only[D.oi]at p q;rw[Uo p q h h']
 | .int _,.tup _,_,_,h,_=>by simp[ltT]at h
 | .tup _,.int _,_,_,_,h=>by simp[ltT]at h
 | .int _,.non,_,q,_,_=>by simp[D.oi]at q
 | .int _,.bl _,_,q,_,_=>by simp[D.oi]at q
 | .int _,.str _,_,q,_,_=>by simp[D.oi]at q
 | .int _,.lst _,_,q,_,_=>by simp[D.oi]at q
 | .int _,.dk _ _,_,q,_,_=>by simp[D.oi]at q
 | .int _,.dt _ _,_,q,_,_=>by simp[D.oi]at q
 | .int _,.dn _ _,_,q,_,_=>by simp[D.oi]at q
 | .int _,.scr _,_,q,_,_=>by simp[D.oi]at q
 | .int _,.exc _ _,_,q,_,_=>by simp[D.oi]at q
 | .int _,.obj _ _,_,q,_,_=>by simp[D.oi]at q
 | .int _,.dp _ _,_,q,_,_=>by simp[D.oi]at q
 | .tup _,.non,_,q,_,_=>by simp[D.oi]at q
 | .tup _,.bl _,_,q,_,_=>by simp[D.oi]at q
 | .tup _,.str _,_,q,_,_=>by simp[D.oi]at q
 | .tup _,.lst _,_,q,_,_=>by simp[D.oi]at q
 | .tup _,.dk _ _,_,q,_,_=>by simp[D.oi]at q
 | .tup _,.dt _ _,_,q,_,_=>by simp[D.oi]at q
 | .tup _,.dn _ _,_,q,_,_=>by simp[D.oi]at q
 | .tup _,.scr _,_,q,_,_=>by simp[D.oi]at q
 | .tup _,.exc _ _,_,q,_,_=>by simp[D.oi]at q
 | .tup _,.obj _ _,_,q,_,_=>by simp[D.oi]at q
 | .tup _,.dp _ _,_,q,_,_=>by simp[D.oi]at q
 | .non,_,p,_,_,_=>by simp[D.oi]at p
 | .bl _,_,p,_,_,_=>by simp[D.oi]at p
 | .str _,_,p,_,_,_=>by simp[D.oi]at p
 | .lst _,_,p,_,_,_=>by simp[D.oi]at p
 | .dk _ _,_,p,_,_,_=>by simp[D.oi]at p
 | .dt _ _,_,p,_,_,_=>by simp[D.oi]at p
 | .dn _ _,_,p,_,_,_=>by simp[D.oi]at p
 | .scr _,_,p,_,_,_=>by simp[D.oi]at p
 | .exc _ _,_,p,_,_,_=>by simp[D.oi]at p
 | .obj _ _,_,p,_,_,_=>by simp[D.oi]at p
 | .dp _ _,_,p,_,_,_=>by simp[D.oi]at p
theorem Uo:∀{ds es:List D},ois ds=true->ois es=true->ltTs ds es=false->ltTs es ds=false->ds=es
 | [],[],_,_,_,_=>rfl
 | [],_::_,_,_,h,_=>by simp[ltTs]at h
 |_::_,[],_,_,_,h=>by simp[ltTs]at h
 |d::ds,e::es,p,q,h,h'=>by
  simp only[ois,gR]at p q;simp only[ltTs]at h h';by_cases w:eqD d e=true
  . have:=N8 p.1 w q.1;subst this;rw[ζ w]at h;rw[ζ w]at h';rw[Uo p.2 q.2 h h']
  . have w':¬eqD e d=true:=fun z=>w (by rw[N8 q.1 z p.1];exact Ar p.1)
    rw[ξ w]at h;rw[ξ w']at h';have:=Di p.1 q.1 h h';subst this;exact absurd (Ar p.1) w
end
mutual
theorem Jk:∀{d:D},d.oi=true->ltT d d=false
 | .int i,_=>by simp[ltT]
 | .tup ds,p=>by simp only[ltT];exact Um (by simpa only [D.oi] using p)
 | .non,p=>by simp[D.oi]at p
 | .bl _,p=>by simp[D.oi]at p
 | .str _,p=>by simp[D.oi]at p
 | .lst _,p=>by simp[D.oi]at p
 | .dk _ _,p=>by simp[D.oi]at p
 | .dt _ _,p=>by simp[D.oi]at p
 | .dn _ _,p=>by simp[D.oi]at p
 | .scr _,p=>by simp[D.oi]at p
 | .exc _ _,p=>by simp[D.oi]at p
 | .obj _ _,p=>by simp[D.oi]at p
 | .dp _ _,p=>by simp[D.oi]at p
theorem Um:∀{ds:List D},ois ds=true->ltTs ds ds=false
 | [],_=>rfl
 |d::ds,p=>by simp only[ois,gR]at p;simp only[ltTs];rw[ζ (Ar p.1)];exact Um p.2
end
mutual
theorem Co:∀{d e f:D},d.oi=true->e.oi=true->f.oi=true->ltT d e=true->ltT e f=true->ltT d f=true
 | .int i,.int j,.int k,_,_,_,h,h'=>by
  simp only[ltT,ng]at h h'⊢
  lia
 | .int i,.int j,.tup _,_,_,_,h,h'=>by simp only[ltT]
 | .int i,.tup _,.tup _,_,_,_,h,h'=>by simp only[ltT]
 | .tup ds,.tup es,.tup fs,p,q,r,h,h'=>by simp only[ltT]at h h'⊢;simp only[D.oi]at p q r;exact Se p q r h h'
 | .int i,.tup _,.int _,_,_,_,h,h'=>by simp[ltT]at h'
 | .tup _,.int _,_,_,_,_,h,h'=>by simp[ltT]at h
 | .tup _,.tup _,.int _,_,_,_,h,h'=>by simp[ltT]at h'
 | .non,_,_,p,_,_,_,_=>by simp[D.oi]at p
 | .bl _,_,_,p,_,_,_,_=>by simp[D.oi]at p
 | .str _,_,_,p,_,_,_,_=>by simp[D.oi]at p
 | .lst _,_,_,p,_,_,_,_=>by simp[D.oi]at p
 | .dk _ _,_,_,p,_,_,_,_=>by simp[D.oi]at p
 | .dt _ _,_,_,p,_,_,_,_=>by simp[D.oi]at p
 | .dn _ _,_,_,p,_,_,_,_=>by simp[D.oi]at p
 | .scr _,_,_,p,_,_,_,_=>by simp[D.oi]at p
 | .exc _ _,_,_,p,_,_,_,_=>by simp[D.oi]at p
 | .obj _ _,_,_,p,_,_,_,_=>by simp[D.oi]at p
 | .dp _ _,_,_,p,_,_,_,_=>by simp[D.oi]at p
 |_,.non,_,_,p,_,_,_=>by simp[D.oi]at p
 |_,.bl _,_,_,p,_,_,_=>by simp[D.oi]at p
 |_,.str _,_,_,p,_,_,_=>by simp[D.oi]at p
 |_,.lst _,_,_,p,_,_,_=>by simp[D.oi]at p
 |_,.dk _ _,_,_,p,_,_,_=>by simp[D.oi]at p
 |_,.dt _ _,_,_,p,_,_,_=>by simp[D.oi]at p
 |_,.dn _ _,_,_,p,_,_,_=>by simp[D.oi]at p
 |_,.scr _,_,_,p,_,_,_=>by simp[D.oi]at p
 |_,.exc _ _,_,_,p,_,_,_=>by simp[D.oi]at p
 |_,.obj _ _,_,_,p,_,_,_=>by simp[D.oi]at p
 |_,.dp _ _,_,_,p,_,_,_=>by simp[D.oi]at p
 |_,_,.non,_,_,p,_,_=>by simp[D.oi]at p
 |_,_,.bl _,_,_,p,_,_=>by simp[D.oi]at p
 |_,_,.str _,_,_,p,_,_=>by simp[D.oi]at p
 |_,_,.lst _,_,_,p,_,_=>by simp[D.oi]at p
 |_,_,.dk _ _,_,_,p,_,_=>by simp[D.oi]at p
 |_,_,.dt _ _,_,_,p,_,_=>by simp[D.oi]at p
 |_,_,.dn _ _,_,_,p,_,_=>by simp[D.oi]at p
 |_,_,.scr _,_,_,p,_,_=>by simp[D.oi]at p
 |_,_,.exc _ _,_,_,p,_,_=>by simp[D.oi]at p
 |_,_,.obj _ _,_,_,p,_,_=>by simp[D.oi]at p
 |_,_,.dp _ _,_,_,p,_,_=>by simp[D.oi]at p
theorem Se:∀{ds es fs:List D},ois ds=true->ois es=true->ois fs=true->ltTs ds es=true->ltTs es fs=true->ltTs ds fs=true
 | [],_,_::_,_,_,_,_,_=>by simp only[ltTs]
 |_,[],[],_,_,_,_,h=>by simp[ltTs]at h
 |_::_,[],_,_,_,_,h,_=>by simp[ltTs]at h
 |_,_::_,[],_,_,_,_,h=>by simp[ltTs]at h
 |d::ds,e::es,f::fs,p,q,r,h,h'=>by
  simp only[ois,gR]at p q r;simp only[ltTs]at h h'⊢;by_cases w:eqD d e=true
  . have:=N8 p.1 w q.1;subst this;rw[ζ w]at h;by_cases w2:eqD d f=true
    . rw[ζ w2]at h'⊢;exact Se p.2 q.2 r.2 h h'
    . rw[ξ w2]at h'⊢;exact h'
  . rw[ξ w]at h;by_cases w2:eqD e f=true
    . have:=N8 q.1 w2 r.1;subst this;rw[ξ w];exact h
    . rw[ξ w2]at h';have h3:=Co p.1 q.1 r.1 h h';by_cases w3:eqD d f=true
      . have:=N8 p.1 w3 r.1;subst this;rw[Jk p.1]at h3;cases h3
      . rw[ξ w3];exact h3
end
theorem Ke:∀{ds:List D}{i:Nat},ois ds=true->(ds.getD i (.int 0)).oi=true
 | [],i,_=>by simp[D.oi]
 |d::ds,0,h=>by simp only[ois,gR]at h;simpa using h.1
 |d::ds,i+1,h=>by simp only[ois,gR]at h;simpa using Ke (i:=i) h.2
def ltI(ds:List D)(i j:Nat):Bool:=ltT (ds.getD i (.int 0)) (ds.getD j (.int 0))
def F9(d:D):List D->List D
 | []=>[d]
 |e::r=>if ltT e d=true then e::F9 d r else d::e::r
def u6:List D->List D
 | []=>[]
 |d::r=>F9 d (u6 r)
theorem Lq(d:D):∀l:List D,(F9 d l).Perm (d::l)
 | []=>.refl _
 |e::r=>by
  unfold F9;split
  . exact((Lq d r).cons e).trans (.swap d e r)
  . exact .refl _
theorem N0:∀l:List D,(u6 l).Perm l
 | []=>.refl _
 |d::r=>(Lq d (u6 r)).trans ((N0 r).cons d)
theorem ois_mem:∀{ds:List D},ois ds=true↔∀d∈ds,d.oi=true
 | []=>by simp[ois]
 |d::ds=>by simp[ois,ois_mem (ds:=ds)]
def Srt(l:List D):Prop:=l.Pairwise fun a b=>ltT b a=false
theorem Wp:∀{l:List D},d.oi=true->ois l=true->Srt l->Srt (F9 d l)
 | [],_,_,_=>by simp[F9,Srt]
 |e::r,hd,hl,hs=>by
  simp only[ois,gR]at hl;obtain⟨h1,h2⟩:=EY.mp hs;unfold F9;split
  . rename_i av;refine EY.mpr ⟨fun x hx=>?_,Wp hd hl.2 h2⟩;rcases eH.mp ((Lq d r).mem_iff.mp hx) with rfl |hx
    . cases hq:ltT x e with
      |false=>rfl
      |true=>
       have:=Co hl.1 hd hl.1 av hq
       rw[Jk hl.1]at this;cases this
    . exact h1 x hx
  . rename_i av;have av:ltT e d=false:=by simpa using av
    refine EY.mpr ⟨fun x hx=>?_,hs⟩;rcases eH.mp hx with rfl |hx
    . exact av
    . have tj:=(ois_mem.mp hl.2) x hx;cases hq:ltT x d with
      |false=>rfl
      |true=>
       have h3:=h1 x hx
       cases hy:ltT d e with
       |true=>rw[Co tj hd hl.1 hq hy]at h3;cases h3
       |false=>
        rw[Di hd hl.1 hy av]at hq
        rw[hq]at h3;cases h3
def Et(p:l.Perm l')(h:ois l'=true):ois l=true:=ois_mem.mpr fun d hd=>(ois_mem.mp h) d (p.mem_iff.mp hd)
theorem V5:∀{l:List D},ois l=true->Srt (u6 l)
 | [],_=>.nil
 |d::r,h=>by simp only[ois,gR]at h;exact Wp h.1 (Et (N0 r) h.2) (V5 h.2)
theorem Az:∀{l l':List D},ois l=true->l.Perm l'->Srt l->Srt l'->l=l'
 | [],l',_,p,_,_=>by rw[p.nil_eq]
 |a::r,[],_,p,_,_=>by have:=p.length_eq;simp at this
 |a::r,b::r',h,p,s,s'=>by
  have h':=h;simp only[ois,gR]at h;obtain⟨h1,h2⟩:=EY.mp s;obtain⟨h3,h4⟩:=EY.mp s';have hb:b∈a::r:=p.mem_iff.mpr gq;have ha:a∈b::r':=p.mem_iff.mp gq;have iI:=(ois_mem.mp h') b hb;have e:a=b:=by
   rcases eH.mp hb with z |z
   . exact z.symm
   . rcases eH.mp ha with w |w
     . exact w
     . exact Di h.1 iI (h3 a w) (h1 b z)
  subst e;rw[Az h.2 (List.perm_cons a |>.mp p) h2 h4]
end L2
namespace L2
open PySem PySem.Spec PyProof.Rows
open PySem.W (KasT kas_sort kas_rev kas_asc kas_desc kas_tail3 kas_descPart kas_count kas_place kas_bin)
def RcLt(A:Around)(s:Shared)(x y:Value)(b:Bool):Prop:=∀(prog:Program)(w:World)(E:Value->Shared->Prop)(Q:Value->Shared->Prop),Q (.bool b) s->wpAny (model prog w) A (richCompare .Lt x y) Q E s
inductive LexR (A:Around) (s:Shared):List Value->List Value->Bool->Prop
 |nn:LexR A s [] [] false
 |nc {w ws}:LexR A s [] (w::ws) true
 |cn {v vs}:LexR A s (v::vs) [] false
 |eq {v w vs ws b} (h:SeqAt.EqAt A s v w true) (r:LexR A s vs ws b):LexR A s (v::vs) (w::ws) b
 |lt {v w vs ws b} (h:SeqAt.EqAt A s v w false) (r:RcLt A s v w b):LexR A s (v::vs) (w::ws) b
section
open PySem.SeqAt
open PySem.AutoSeq1 (wpAny_loadPart')
open PySem.MeetsSeq PySem.MeetsSeq2 PySem.MeetsSeq3
def ziu(l b:Addr)(items aX:Array Value)(n n2:Nat)(dd mK:Option Addr)(sl iH:Array (Option Value))(r:Bool) :
  Meets (Builtin.«tuple.__lt__» ⟨[.ref l,.ref b],[]⟩)
   (fun A R s=>s.heap.get? l=some { cls:=.type "tuple",dict:=dd,data:=.seq items n,slots:=sl }/\s.heap.get? b=some { cls:=.type "tuple",dict:=mK,data:=.seq aX n2,slots:=iH } /\
    LexR A.in1 s items.toList aX.toList r/\R (.ok (.ret (.bool r))) s):=
 .of_wp fun prog w A R s h=>by
  obtain⟨hp,g,d,tk,os⟩:=s;obtain⟨hl,hb,hL,h⟩:=h;have f2:=AutoSeq1.sub_tuple_tuple
  wp_walk using wpAny_loadPart' hl,wpAny_loadPart' hb,wpAny_forIn_list _ (fun rest b s'=>b.1=none/\s'=⟨hp,g,d,tk,os⟩/\∃(vs ws:List Value)(r':Bool),rest=vs.zip ws /\
   LexR A.in1 ⟨hp,g,d,tk,os⟩ vs ws r'/\vs.length+aX.size=ws.length+items.size/\R (.ok (.ret (.bool r'))) ⟨hp,g,d,tk,os⟩) _
  case turn=>
   rintro⟨y,x⟩ rest b s' ⟨fw,rfl,vs,ws,r',hz,mL,ae,hR⟩
   cases mL with
   |nn=>rw[HG]at hz;cases hz
   |nc=>rw[HG]at hz;cases hz
   |cn=>rw[List.zip_nil_right]at hz;cases hz
   |eq he hr=>
    rw[CI]at hz
    injection hz with mM gi
    injection mM with hy hx
    subst hy hx
    simp only[io]at ae
    refine δ (he prog w _ _ ?_)
    wp_walk
    exact⟨rfl,rfl,_,_,_,gi,hr,by lia,hR⟩
   |lt he hr=>
    rw[CI]at hz
    injection hz with mM gi
    injection mM with hy hx
    subst hy hx
    refine δ (he prog w _ _ ?_)
    have tm:=hr prog w
    wp_walk using tm
    exact⟨_,rfl,by simpa using hR⟩
  case fin=>
   rintro⟨b1,b2⟩ s' ⟨fw,rfl,vs,ws,r',hz,mL,ae,hR⟩
   simp only at fw
   subst fw
   have hv:r'=decide (items.size<aX.size):=by
    cases mL with
    |nn=>simp only[FA]at ae;exact(decide_eq_false (by lia)).symm
    |nc=>simp only[FA,io]at ae;exact(decide_eq_true (by lia)).symm
    |cn=>simp only[FA,io]at ae;exact(decide_eq_false (by lia)).symm
    |eq _ _=>rw[CI]at hz;cases hz
    |lt _ _=>rw[CI]at hz;cases hz
   rw[hv]at hR
   wp_walk
   exact⟨_,rfl,by simpa [Builtin.Tuple.tupleCompareSizes] using hR⟩
  case h=>exact⟨rfl,rfl,items.toList,aX.toList,r,rfl,hL,by simp;lia,h⟩
def RcLt.tuples{A:Around}{s:Shared}{l b:Addr}{items aX:Array Value}{r:Bool}(hl:s.heap.IsTuple l items)(hb:s.heap.IsTuple b aX)(hL:LexR A.in1 s items.toList aX.toList r)(hu:A.units<cLine):RcLt A s (.ref l) (.ref b) r:=fun prog w E Q h=>by
 obtain⟨⟨cls,dd,data,sl⟩,ho,hc,n,hd⟩:=id hl;obtain⟨⟨AQ,mK,data2,iH⟩,iJ,iK,n2,fy⟩:=id hb;simp only at hc hd iK fy;subst hc hd iK fy;exact richCompare_meets_room (op:=.Lt) ⟨_,ho,rfl⟩ ⟨_,iJ,rfl⟩ PySem.F.slot_tuple_lt PySem.F.entry_tuple_lt (PySem.F.args_tuple_lt_2 _ _) (ziu l b items aX n n2 dd mK sl iH r)
  ⟨ho,iJ,hL,show Value.bool r≠Value.notImplemented/\Q (.bool r) s from⟨(fun x=>nomatch x),h⟩⟩ hu
end
mutual
theorem Y3:∀{d:D},d.oi=true->d.pl=true
 | .int _,_=>rfl
 | .tup ds,h=>by simp only[D.pl];exact Sd (by simpa only [D.oi] using h)
 | .non,p=>by simp[D.oi]at p
 | .bl _,p=>by simp[D.oi]at p
 | .str _,p=>by simp[D.oi]at p
 | .lst _,p=>by simp[D.oi]at p
 | .dk _ _,p=>by simp[D.oi]at p
 | .dt _ _,p=>by simp[D.oi]at p
 | .dn _ _,p=>by simp[D.oi]at p
 | .scr _,p=>by simp[D.oi]at p
 | .exc _ _,p=>by simp[D.oi]at p
 | .obj _ _,p=>by simp[D.oi]at p
 | .dp _ _,p=>by simp[D.oi]at p
theorem Sd:∀{ds:List D},ois ds=true->pls ds=true
 | [],_=>rfl
 |d::ds,h=>by simp only[ois,gR]at h;simp only[pls,Y3 h.1,Sd h.2,DV]
end
section
variable {X:Cx}{pins:List (Addr×Obj)}{σ:St}{H:Hp}{s:Shared}
theorem Sc(I:Inv X pins σ H s)(hu:A.units+n<cLine)(lt:∀{d e:D}{x y:V}{u v:Value}{b:Bool},d.oi=true->e.oi=true->d.dep<=n->RD X.K H d x->RD X.K H e y->RelV x u->RelV y v->g9 d e=some b->RcLt A s u v b) :
  ∀{ds es:List D}{xs ys:List V}{us vs:List Value}{b:Bool},ois ds=true->ois es=true->j0 ds<=n->RDs X.K H ds xs->RDs X.K H es ys->Vals xs us->Vals ys vs->m4 ds es=some b->LexR A s us vs b
 | [],[],_,_,_,_,b,_,_,_,r1,r2,q1,q2,h=>by simp only[RDs]at r1 r2;subst r1;subst r2;cases q1;cases q2;simp only[m4,Option.some.injEq]at h;subst h;exact .nn
 | [],e::es,_,_,_,_,b,_,_,_,r1,r2,q1,q2,h=>by simp only[RDs]at r1 r2;subst r1;obtain⟨y,ys,rfl,_,_⟩:=r2;cases q1;cases q2;simp only[m4,Option.some.injEq]at h;subst h;exact .nc
 |d::ds,[],_,_,_,_,b,_,_,_,r1,r2,q1,q2,h=>by simp only[RDs]at r1 r2;subst r2;obtain⟨y,ys,rfl,_,_⟩:=r1;cases q1;cases q2;simp only[m4,Option.some.injEq]at h;subst h;exact .cn
 |d::ds,e::es,_,_,_,_,b,p1,p2,hd,r1,r2,q1,q2,h=>by
  simp only[RDs]at r1 r2;obtain⟨x,xs,rfl,rx,fC⟩:=r1;obtain⟨y,ys,rfl,ry,gY⟩:=r2;simp only[ois,gR]at p1 p2;simp only[j0]at hd;cases q1 with
  |cons a1 a2=>
   cases q2 with
   |cons b1 b2=>
    have eq:=Do (A:=A) I n (Y3 p1.1) (Y3 p2.1) (by lia) hu rx ry a1 b1
    simp only[m4]at h
    split at h
    . rename_i w;rw[w]at eq;exact .eq eq (Sc I hu lt p1.2 p2.2 (by lia) fC gY a2 b2 h)
    . rename_i w;rw[show eqD d e=false by simpa using w]at eq;exact .lt eq (lt p1.1 p2.1 (by lia) rx ry a1 b1 h)
def Xx(h:g9 d e=some b):(∃i j,d=.int i/\e=.int j/\b=decide (i<j))\/∃ds es,d=.tup ds/\e=.tup es/\m4 ds es=some b:=by
 cases d with
 |int i=>cases e with
  |int j=>exact .inl ⟨_,_,rfl,rfl,(Option.some.inj h).symm⟩
  |_=>exact nomatch h
 |tup ds=>cases e with
  |tup es=>exact .inr ⟨_,_,rfl,rfl,h⟩
  |_=>exact nomatch h
 |_=>exact nomatch h
def vp(I:Inv X pins σ H s):∀(n:Nat){A:Around}{d e:D}{x y:V}{u v:Value}{b:Bool},A.units+n<cLine->d.oi=true->e.oi=true->d.dep<=n->RD X.K H d x->RD X.K H e y->RelV x u->RelV y v->g9 d e=some b->RcLt A s u v b:=by
 intro n;induction n with
 |zero=>
  intro A d e x y u v b hu p1 p2 hd rx ry ru rv h
  rcases Xx h with⟨i,j,rfl,rfl,rfl⟩ |⟨ds,es,rfl,rfl,h⟩
  . cases rx.int;cases ry.int;obtain⟨t,rfl⟩:=ru;obtain⟨t',rfl⟩:=rv;exact fun prog w E Q q=>HT.rcLt_int A s _ _ _ _ prog w E Q q
  . simp only[D.dep]at hd;lia
 |succ n ih=>
  intro A d e x y u v b hu p1 p2 hd rx ry ru rv h
  rcases Xx h with⟨i,j,rfl,rfl,rfl⟩ |⟨ds,es,rfl,rfl,h⟩
  . cases rx.int;cases ry.int;obtain⟨t,rfl⟩:=ru;obtain⟨t',rfl⟩:=rv;exact fun prog w E Q q=>HT.rcLt_int A s _ _ _ _ prog w E Q q
  . obtain⟨a,xs,rfl,ha,ra⟩:=rx.tup;obtain⟨c,ys,rfl,hc,rc⟩:=ry.tup;cases ru;cases rv;obtain⟨its,r1,t1⟩:=I.tupA ha;obtain⟨ar,r2,t2⟩:=I.tupA hc;simp only[D.dep]at hd;simp only[D.oi]at p1 p2;have pA:A.in1.units+n<cLine:=by show A.units+1+n<cLine;lia
    exact RcLt.tuples t1 t2 (Sc I pA (fun {d e x y u v b} q1 q2 q3 q4 q5 q6 q7 q8=>ih pA q1 q2 q3 q4 q5 q6 q7 q8) p1 p2 (by lia) ra rc r1 r2 h) (by lia)
end
end L2
namespace L2
open PySem PySem.Spec PyProof.Rows
section
variable {prog:Program}{w:World}{A:Around}{E:Value->Shared->Prop}{s:Shared}
def ziv(ho:s.heap.get? a=some (seqObj "list" vs.toArray n))(hs:vs.length<2)
  (h:P (.done (.ret .none)) { s with heap:=sortedHeap s.heap a vs ((pairsOf vs).map (·.2)) }):wpAny (model prog w) A (Builtin.«list.sort» ⟨[.ref a],[]⟩) P E s:=by
 rw[list_sort_plain]
 have ha:a<s.heap.objs.size:=π ho
 refine δ (listItems_at ho rfl ?_)
 refine δ (listUpdate_at ho rfl ?_)
 obtain⟨e1,pB⟩:∃e1,(s.heap.update a (Obj.mapSeq fun _=>#[])).get? a=some (seqObj "list" #[] e1):=⟨_,get?_update_seq ho (fun _=>#[])⟩
 refine δ (seqEpoch_at pB rfl ?_)
 refine δ (wpAny_newTuple ?_)
 refine δ (wpAny_newList ?_)
 refine DM ?_
 have pC:(((s.heap.update a (Obj.mapSeq fun _=>#[])).push (seqObj "tuple" vs.toArray 0)).push (seqObj "list" #[] 0)).get? a=some (seqObj "list" #[] e1):=by rw[Heap.get?_push_ne _ _ _ (by rw[size_push',GZ];exact CC (Nat.lt_succ_of_lt ha)),Heap.get?_push_ne _ _ _ (by rw[GZ];exact CC ha)];exact pB
 show wpAny (model prog w) A _ P E { s with heap:=((s.heap.update a (Obj.mapSeq fun _=>#[])).push (seqObj "tuple" vs.toArray 0)).push (seqObj "list" #[] 0) }
 dsimp only
 have hsz:vs.toArray.size=vs.length:=by simp
 have h2:vs.toArray.size<2:=by rw[hsz];exact hs
 rw[ζ h2,ζ h2]
 refine δ (ω ?_)
 rw[StateT.run_pure]
 refine δ (ω ?_)
 dsimp only
 refine δ (seqEpoch_at pC rfl ?_)
 refine δ (listUpdate_at pC rfl ?_ (hsz2:=by rw[Array.size_map];show(pairsOf vs).size<=_;rw[pairsOf_size,GA];lia))
 simp only[bne_self_eq_false,tB,DG]
 exact ω h
def zdm(hl:s.heap.IsList l vs.toArray)(hs:vs.length<2)
  (h:Q (.ref (s.heap.objs.size+1)) { s with heap:=sortedAll s.heap vs ((pairsOf vs).map (·.2)) }):wpAny (model prog w) A (call (.builtin "sorted") [.ref l]) Q E s:=by
 refine Calls.call_function_entry kind_sorted plain_sorted entry_sorted (args_sorted1 _) ?_
 unfold Builtin.«sorted»
 refine δ (m:=checkCount "sorted" 1 1 _) (ω ?_)
 refine δ (collect_list hl ?_ (by rw[GA];omega))
 refine δ (wpAny_newList ?_ (by rw[GA];omega))
 have hsz:((s.heap.push (seqObj "list" #[] 0)).update s.heap.objs.size (Obj.mapSeq (·++vs.toArray))).objs.size=s.heap.objs.size+1:=by rw[GZ,size_push']
 have ir:(((s.heap.push (seqObj "list" #[] 0)).update s.heap.objs.size (Obj.mapSeq (·++vs.toArray))).push (seqObj "list" vs.toArray 0)).get? (s.heap.objs.size+1)=some (seqObj "list" vs.toArray 0):=by rw[<-hsz];exact Ψ _ rfl
 show wpAny _ _ _ _ _ { s with heap:=((s.heap.push (seqObj "list" #[] 0)).update s.heap.objs.size (Obj.mapSeq (·++vs.toArray))).push (seqObj "list" vs.toArray 0) }
 rw[hsz]
 refine δ (DM (wpAny_call_entry slot_list_sort ⟨_,ir,rfl⟩ entry_list_sort (ziv ir hs ⟨_,rfl,?_⟩) (args_list_sort _)))
 exact ω ⟨_,rfl,h⟩
end
noncomputable def isI:D->Bool
 | .int _=>true
 |_=>false
noncomputable def E6:D->Bool
 | .tup (.int _::_)=>true
 |_=>false
noncomputable def N2:D->Bool
 | .tup (.tup _::_)=>true
 |_=>false
theorem RDs.pick{K:Frag}{H:Hp}{ds:List D}{ys:List V}(r:RDs K H ds ys):∀{is:List Nat},(∀i∈is,i<ys.length)->RDs K H (is.map fun i=>ds.getD i (.int 0)) (is.map fun i=>ys.getD i .non)
 | [],_=>by simp[RDs]
 |i::is,h=>by
  have hi:=h i gq;have hy:ys[i]?=some ys[i]:=by simp[hi]
  obtain⟨d,h1,h2⟩:=r.get hy;simp only[gD];refine .cons ?_ (RDs.pick r fun j hj=>h j (dg _ hj));rw[pp,pp,h1,hy];exact h2
section
variable {X:Cx}{pins:List (Addr×Obj)}{σ:St}{H:Hp}{s:Shared}
theorem Vals.pick(r:Vals ys its):∀{is:List Nat},(∀i∈is,i<ys.length)->Vals (is.map fun i=>ys.getD i .non) (is.map fun i=>its.getD i Value.none)
 | [],_=>.nil
 |i::is,h=>by
  have hi:=h i gq;have hy:ys[i]?=some ys[i]:=by simp[hi]
  obtain⟨u,h1,h2⟩:=r.get hy;simp only[gD];refine .cons ?_ (Vals.pick r fun j hj=>h j (dg _ hj));rw[pp,pp,h1,hy];exact h2
theorem Ul(I:Inv X pins σ H s)(hu:A.units+20<cLine)(q:Q r s) :
  ∀{ds es:List D}{xs ys:List V}{us vs:List Value}(i:Nat),(b=true->i=0->(∃k r,ds=.int k::r)/\∃k r,es=.int k::r)->ois ds=true->ois es=true->j0 ds<=20->RDs X.K H ds xs->RDs X.K H es ys->Vals xs us->Vals ys vs->m4 ds es=some r ->
   fin=decide (us.length<vs.length)->PySem.W.KatLex X.prog X.w A b fin Q (us.zip vs) i s
 | [],[],_,_,_,_,i,_,_,_,_,r1,r2,q1,q2,h,hf=>by simp only[RDs]at r1 r2;subst r1;subst r2;cases q1;cases q2;simp only[m4,Option.some.injEq]at h;subst h;simp at hf;subst hf;exact q
 | [],e::es,_,_,_,_,i,_,_,_,_,r1,r2,q1,q2,h,hf=>by simp only[RDs]at r1 r2;subst r1;obtain⟨y,ys,rfl,_,_⟩:=r2;cases q1;cases q2;simp only[m4,Option.some.injEq]at h;subst h;simp at hf;subst hf;exact q
 |d::ds,[],_,_,_,_,i,_,_,_,_,r1,r2,q1,q2,h,hf=>by simp only[RDs]at r1 r2;subst r2;obtain⟨y,ys,rfl,_,_⟩:=r1;cases q1;cases q2;simp only[m4,Option.some.injEq]at h;subst h;simp at hf;subst hf;exact q
 |d::ds,e::es,_,_,_,_,i,hb,p1,p2,hd,r1,r2,q1,q2,h,hf=>by
  simp only[RDs]at r1 r2;obtain⟨x,xs,rfl,rx,fC⟩:=r1;obtain⟨y,ys,rfl,ry,gY⟩:=r2;simp only[ois,gR]at p1 p2;simp only[j0]at hd;cases q1 with
  |cons a1 a2=>
   cases q2 with
   |cons b1 b2=>
    have eq:=Do (A:=A) I 20 (Y3 p1.1) (Y3 p2.1) (by lia) hu rx ry a1 b1
    rw[CI]
    refine PySem.W.kat_cons (eq X.prog X.w _ _ ?_)
    simp only[m4]at h
    simp only[io,Nat.add_lt_add_iff_right]at hf
    split at h
    . rename_i w;rw[w];exact PySem.W.kat_yes (Ul I hu q (i+1) (fun _ z=>by lia) p1.2 p2.2 (by lia) fC gY a2 b2 h hf)
    . rename_i w;rw[show eqD d e=false by simpa using w];refine PySem.W.kat_no ?_;by_cases gZ:(b&&i==0)=true
      . rw[gZ];simp only[gR,FE]at gZ;obtain⟨⟨k1,s1,e1⟩,k2,s2,e2⟩:=hb gZ.1 gZ.2;cases e1;cases e2;cases rx.int;cases ry.int;obtain⟨t,rfl⟩:=a1;obtain⟨t',rfl⟩:=b1;refine oneLt_int ?_;simp only[g9,Option.some.injEq]at h;rw[h];exact q
      . rw[show(b&&i==0)=false by simpa using gZ];exact PySem.W.kat_one _ _ (vp I 20 hu p1.1 p2.1 (by lia) rx ry a1 b1 h X.prog X.w _ _ q)
theorem Sb(I:Inv X pins σ H s)(T:Bool):∀{ds:List D}{xs:List V}{us:List Value},(∀d∈ds,(if T=true then N2 d else E6 d)=true)->RDs X.K H ds xs->Vals xs us ->
  ∃fs:List Value,PySem.W.KatTups s.heap us fs/\fs.length=ds.length/\∀v∈fs,PySem.W.Looks M s.heap (typeOf v) (.type (if T=true then "tuple" else "int"))
 | [],_,_,_,r,q=>by simp only[RDs]at r;subst r;cases q;exact⟨[],trivial,rfl,fun v hv=>by cases hv⟩
 |d::ds,_,_,h,r,q=>by
  simp only[RDs]at r;obtain⟨x,xs,rfl,rx,fC⟩:=r;cases q with
  |cons q1 q2=>
   obtain⟨fs,h1,h2,h3⟩:=Sb (M:=M) I T (fun d hd=>h d (dg _ hd)) fC q2
   have hd:=h d gq
   cases T with
   |false=>
    rw[ξ θ]at hd
    cases d<;>simp only[E6]at hd<;>first |cases hd |skip
    rename_i es
    cases es with
    |nil=>simp at hd
    |cons e es=>
     cases e<;>simp at hd
     obtain⟨a,ys,rfl,ha,ra⟩:=rx.tup
     cases q1
     obtain⟨its,rv,t⟩:=I.tupA ha
     simp only[RDs]at ra
     obtain⟨y,ys,rfl,ry,gY⟩:=ra
     cases ry.int
     cases rv with
     |cons v1 v2=>
      obtain⟨tk,rfl⟩:=v1
      obtain⟨o,ho,hc,n,mN⟩:=t
      refine⟨_::fs,PySem.W.KatTups.cons ho hc mN rfl h1,by simp[h2],fun v hv=>?_⟩
      rcases eH.mp hv with rfl |hv
      . exact .now
      . exact h3 v hv
   |true=>
    rw[ζ rfl]at hd
    cases d<;>simp only[N2]at hd<;>first |cases hd |skip
    rename_i es
    cases es with
    |nil=>simp at hd
    |cons e es=>
     cases e<;>simp at hd
     obtain⟨a,ys,rfl,ha,ra⟩:=rx.tup
     cases q1
     obtain⟨its,rv,t⟩:=I.tupA ha
     simp only[RDs]at ra
     obtain⟨y,ys,rfl,ry,gY⟩:=ra
     obtain⟨a2,BG,rfl,iM,BH⟩:=ry.tup
     cases rv with
     |cons v1 v2=>
      cases v1
      obtain⟨ar,BI,o2,iJ,iK,_⟩:=I.tupA iM
      obtain⟨o,ho,hc,n,mN⟩:=t
      refine⟨_::fs,PySem.W.KatTups.cons ho hc mN rfl h1,by simp[h2],fun v hv=>?_⟩
      rcases eH.mp hv with rfl |hv
      . have lk:PySem.W.Looks M s.heap (typeOf (.ref a2)) o2.cls:=(PySem.W.Looks.ld iJ).andThen .now;rw[iK]at lk;exact lk
      . exact h3 v hv
def Vals.getD(r:Vals ys its)(h:i<ys.length):RelV (ys.getD i .non) (its.getD i Value.none):=by
 have hy:ys[i]?=some ys[i]:=by simp[h]
 obtain⟨u,h1,h2⟩:=r.get hy;rw[pp,pp,h1,hy];exact h2
def RDs.getD(r:RDs X.K H ds ys)(h:i<ys.length):RD X.K H (ds.getD i (.int 0)) (ys.getD i .non):=by
 have hy:ys[i]?=some ys[i]:=by simp[h]
 obtain⟨d,h1,h2⟩:=r.get hy;rw[pp,pp,h1,hy];exact h2
def M4{α:Type}{l:List α}{i:Nat}{d:α}(h:i<l.length):l.getD i d∈l:=by rw[pp,oF h];exact List.getElem_mem h
end
section
variable {X:Cx}{K:Frag}
noncomputable def X1:D->List D->Option D
 | .lst ds,[.lst es]=>if ds.length+es.length<=100000 then some (.lst (ds++es)) else none
 |_,_=>none
def vo:X6 K X1 Vk:=by
 intro H0 H a d d' ds vs Q s h0 ob r hm k;unfold X1 at hm;split at hm<;>first |cases hm |skip
 split at hm<;>cases hm;rename_i es gs hl;simp only[OB]at ob;obtain⟨xs,hx,rx⟩:=ob;obtain⟨y,rfl,q1⟩:=r.uno;obtain⟨b,ys,rfl,hb,rb⟩:=q1.lst;refine⟨a,b,xs,ys,rfl,rfl,hx,s _ _ hb,by rw[<-rx.length,<-rb.length];exact Q7 hl,k _ _ ?_⟩;simp only[OB];exact⟨_,k7,rx.append rb⟩
noncomputable def Ft:D->D->Option D
 | .non,.non=>some (.bl true)
 | .scr _,.non=>none
 |_,.non=>some (.bl false)
 |_,_=>none
def zli(r:RD K H d x)(h:d≠.non):x≠.non:=by intro e;subst e;cases d<;>simp only[RD]at r<;>first |exact h rfl | (cases r;done) | (obtain⟨a,z,_⟩:=r;cases z;done) | (obtain⟨a,xs,z,_⟩:=r;cases z;done) | (obtain⟨a,qs,xs,z,_⟩:=r;cases z;done) | (obtain⟨a,qs,xs,o,z,_⟩:=r;cases z)
def vn:OpD K false Ft (fun x y H Q=>y=.non/\Q (.bl (decide (x=.non))) H):=by
 intro H0 H x y d e z Q s rx ry ho k;unfold Ft at ho;split at ho<;>cases ho
 . cases rx.non;exact⟨ry.non,k _ H (.pure s (.mkBl _))⟩
 . rename_i hn hs;refine⟨ry.non,?_⟩;rw[decide_eq_false (zli rx hn)];exact k _ H (.pure s (.mkBl _))
noncomputable def o8(n:Int)(ns:List Int):Int:=ns.foldl (fun a b=>if b > a then b else a) n
theorem O5:∀(ns:List Int)(n:Int),o8 n ns∈n::ns/\∀a∈n::ns,a<=o8 n ns
 | [],n=>by simp[o8]
 |b::ns,n=>by
  have ih:=O5 ns (if b > n then b else n);show o8 (if b > n then b else n) ns∈_/\∀a∈_,a<=o8 (if b > n then b else n) ns;generalize o8 (if b > n then b else n) ns=M at ih;obtain⟨h1,h2⟩:=ih;constructor
  . rcases eH.mp h1 with z |z
    . rw[z];split<;>simp
    . simp[z]
  . intro a ha;have h3:=h2 _ gq;rcases eH.mp ha with rfl |ha
    . split at h3<;>lia
    . rcases eH.mp ha with rfl |ha
      . split at h3<;>lia
      . exact h2 a (dg _ ha)
def S5:List D->Option D
 | [.lst ds]=>match m8 ds with
  |some (n::ns)=>some (.int (o8 n ns))
  |_=>none
 |_=>none
def Pe:List V->Hp->VK->Prop:=fun xs H Q=>∃p n ns,xs=[.ref p]/\H p=some (.lst ((n::ns).map V.int))/\Q (.int (o8 n ns)) H
def vm(hc:X.calm=true):CallR X (.builtin "max") Pe:=by
 intro pins s σ H xs us Q I r h;obtain⟨p,n,ns,rfl,hp,q⟩:=h;obtain⟨u,rfl,ru⟩:=r8 r;cases ru;obtain⟨its,rv,pl,_⟩:=I.list (.of hp);obtain⟨m,hn,_⟩:=id I.loc;refine max_list_N (I.ok.hd hc) (Att.fr_all hn) (Ev (g:=Att.noObjs s.heap) (L:=X.env.locals)) pl.isList (Fc rv) (by simp) fun h' M t tk F N hM cF=>?_
 obtain⟨a1,a2⟩:=O5 ns n;have e:M=o8 n ns:=FN (a2 M hM) (cF _ a1);exact⟨.int M,H,I.frn hn F N,⟨t,rfl⟩,by rw[e];exact q⟩
def xN:v8 K false S5 Pe:=by
 intro H0 H xs ds z Q s r ho k;unfold S5 at ho;split at ho<;>first |cases ho |skip
 split at ho<;>cases ho;rename_i es n ns hq;obtain⟨x,rfl,q1⟩:=r.uno;obtain⟨a,ys,rfl,ha,ra⟩:=q1.lst;have e:=V6 hq ra;subst e;exact⟨a,n,ns,rfl,s _ _ ha,k _ H (.pure s (.mkInt _))⟩
end
end L2
namespace L2
open PySem PySem.Spec PyProof.Rows
open PySem.Calls
end L2
namespace L2
open PySem PySem.Spec PyProof.Rows
section
open PySem.AutoSeq1 (wpAny_loadPart')
end
end L2
namespace L2
open PySem PySem.Spec PyProof.Rows
section
open PySem.AutoSeq1 (wpAny_loadPart')
end
end L2
namespace L2
open PySem PySem.Spec PyProof.Rows
section
variable {x:Str}
theorem Uk{K:Frag}{H:Hp}:∀{ds:List D}{xs:List V},RDs K H ds xs->xs.length=ds.length
 | [],_,h=>by simp only[RDs]at h;rw[h];rfl
 |d::ds,_,h=>by simp only[RDs]at h;obtain⟨x,r,rfl,_,h2⟩:=h;rw[io,io,Uk h2]
end
end L2
namespace L2
open PySem PySem.Spec PyProof.Rows
open PySem.Calls
open Builtin Builtin.ObjectAttr
section
open PySem.AutoSeq1 (wpAny_loadPart')
end
theorem Wo{K:Frag}{H:Hp}{f:Str}:∀{ns:List Str}{fs:List D}{vs:List V}{d:D},RDs K H fs vs->(ns.zip fs).lookup f=some d->f∈ns/\d∈fs/\∃v,(ns.zip vs).lookup f=some v/\RD K H d v
 | [],_,_,_,_,h=>by simp at h
 |_::_,[],_,_,_,h=>by simp at h
 |n::ns,e::fs,_,d,r,h=>by
  simp only[RDs]at r;obtain⟨x,xs,rfl,r1,r2⟩:=r;simp only[CI,List.lookup]at h⊢;by_cases hb:(f==n)=true
  . rw[hb]at h⊢;cases h;exact⟨by rw[eq_of_beq hb];simp,by simp,x,rfl,r1⟩
  . have hb:(f==n)=false:=by simpa using hb
    rw[hb]at h⊢;obtain⟨q1,q2,q3⟩:=Wo r2 h;exact⟨dg _ q1,dg _ q2,q3⟩
noncomputable def Ea(s:Stmt):List Stmt:=match s with
 | .ClassDef _ _ _ b _ _ _ _ _ _ _=>b
 |_=>[]
end L2
namespace L2
open PySem PySem.Spec PyProof.Rows
section
variable {prog:Program}{w:World}{A:Around}{R:Result->Shared->Prop}{I:Addr}{fp wr:List Addr}{n:Nat}{P:Nat->Value->Prop}{St:Nat->Heap->Prop}
def y4f(kw:List (Str×Value))(W:Walks prog w A.in1 I fp wr n P St)(bt:Nat->Nat->Bool)(cm:CmpOf prog w A.in1 .Gt P bt)(S:Addr)(nf:S∉fp) :
  ∀(k j:Nat)(s:Shared)(vb:Value)(c:Nat),n - (j+1)=k->j+1<=n->St (j+1) s.heap->P (argBest bt j) vb->s.heap.get? S=some { cls:=.type "list",dict:=none,data:=.seq #[vb,vb] c,slots:=#[] } ->
  (∀v h' tk,P (argBest bt (n - 1)) v->(∀b o,b∉wr->b≠S->s.heap.get? b=some o->h'.get? b=some o)->R (.ok (.ret v)) { s with heap:=h',toks:=tk })->codeAny (model prog w) A (.builtin "max.loop" ⟨[.ref I,.none,.ref S],kw⟩) R s:=by
 have nw:S∉wr:=fun h=>nf (W.sub _ h)
 have nm:(toString "max"++toString ".loop":String)="max.loop":=by decide
 intro k
 induction k with
 |zero=>
  intro j s vb c ek ej st pb eS fin
  have jn:j+1=n:=by omega
  refine codeAny_builtin GH ?_
  rw[HC DW _]
  show wpAny _ A.in1 (seqItems? (.ref S) >>= _) _ _ _
  refine δ (GP eS rfl ?_)
  show wpAny _ A.in1 (tryCatch (pyNext (.ref I)) _ >>= _) _ _ _
  refine δ (wpAny_tryCatch (W.done s _ _ (jn ▸ st) fun h' tk kp=>?_))
  have eW:=kp S _ nw eS
  show wpAny _ A.in1 (updateSeq S (fun _=>#[]) >>= _) _ _ _
  refine δ ?_
  refine wpAny_updateSeq eW rfl (δ (wpAny_letGo (ω ?_)))
  exact fin vb _ tk (by rw[<-jn];exact pb) fun b o cH eh e=>(DL _ _ (FP eh)).trans (kp b o cH e)
 |succ k ih=>
  intro j s vb c ek ej st pb eS fin
  have jl:j+1<n:=by omega
  refine codeAny_builtin GH ?_
  rw[HC DW _]
  show wpAny _ A.in1 (seqItems? (.ref S) >>= _) _ _ _
  refine δ (GP eS rfl ?_)
  show wpAny _ A.in1 (tryCatch (pyNext (.ref I)) _ >>= _) _ _ _
  refine δ (wpAny_tryCatch (W.item (j+1) s _ _ jl st fun v h' tk pv st' kp=>?_))
  have eW:=kp S _ nw eS
  show wpAny _ A.in1 (tryCatch (holding [v,v] (richCompare .Gt v vb >>= _)) _ >>= _) _ _ _
  refine δ (wpAny_tryCatch (DM (δ (cm (j+1) (argBest bt j) v vb _ _ _ pv pb ?_))))
  refine δ (DM (EV ?_))
  refine δ (wpAny_letGo (ω ?_))
  cases hb:bt (j+1) (argBest bt j) with
  |true=>
   rw[ζ rfl]
   refine δ ?_
   refine wpAny_updateSeq eW rfl (δ (wpAny_letGo ?_))
   rw[nm]
   refine ω ⟨plainId_quiet DW _,ih (j+1) _ v _ (by omega) jl (W.frame _ _ _ st' fun b mO o e=>?_) (by simp only[argBest,hb,DY];exact pv) (FY _ eW rfl) fun v' dX eJ fD eX=>?_⟩
   . exact(DL _ _ (fun z:S=b=>nf (by rw[z];exact mO))).trans e
   . exact fin v' dX eJ fD fun b o cH eh e=>eX b o cH eh ((DL _ _ (FP eh)).trans (kp b o cH e))
  |false=>
   rw[ξ θ]
   refine δ (wpAny_letGo ?_)
   rw[nm]
   exact ω ⟨plainId_quiet DW _,ih (j+1) _ vb c (by omega) jl st' (by simp only[argBest,hb,tB,DG];exact pb) eW fun v' dX eJ fD eX=>fin v' dX eJ fD fun b o cH eh e=>eX b o cH eh (kp b o cH e)⟩
def zv(kw:List (Str×Value))(W:Walks prog w A.in1 I fp wr n P St)(bt:Nat->Nat->Bool)(cm:CmpOf prog w A.in1 .Gt P bt)(S:Addr)(nf:S∉fp)(n0:0<n)(st:St 0 s.heap)
  (eS:s.heap.get? S=some { cls:=.type "list",dict:=none,data:=.seq #[] c,slots:=#[] }) (fin:∀v h' tk,P (argBest bt (n - 1)) v->(∀b o,b∉wr->b≠S->s.heap.get? b=some o->h'.get? b=some o)->R (.ok (.ret v)) { s with heap:=h',toks:=tk }) :
  codeAny (model prog w) A (.builtin "max.loop" ⟨[.ref I,.none,.ref S],kw⟩) R s:=by
 have nw:S∉wr:=fun h=>nf (W.sub _ h)
 have nm:(toString "max"++toString ".loop":String)="max.loop":=by decide
 refine codeAny_builtin GH ?_
 rw[HC DW _]
 show wpAny _ A.in1 (seqItems? (.ref S) >>= _) _ _ _
 refine δ (GP eS rfl ?_)
 show wpAny _ A.in1 (tryCatch (pyNext (.ref I)) _ >>= _) _ _ _
 refine δ (wpAny_tryCatch (W.item 0 s _ _ n0 st fun v h' tk pv st' kp=>?_))
 have eW:=kp S _ nw eS
 show wpAny _ A.in1 (updateSeq S (fun _=>#[v,v]) >>= _) _ _ _
 refine δ ?_
 refine wpAny_updateSeq eW rfl ?_
 rw[nm]
 refine ω ⟨plainId_quiet DW _,y4f kw W bt cm S nf _ 0 _ v _ rfl n0 (W.frame _ _ _ st' fun b mO o e=>?_) pv (FY _ eW rfl) fun v' dX eJ fD eX=>?_⟩
 . exact(DL _ _ (fun z:S=b=>nf (by rw[z];exact mO))).trans e
 . exact fin v' dX eJ fD fun b o cH eh e=>eX b o cH eh ((DL _ _ (FP eh)).trans (kp b o cH e))
def xM(q:Str)(dv:Value)(W:Walks prog w A.in1 I fp wr n P St)(S:Addr)(nf:S∉fp)(n0:n=0)(st:St 0 s.heap)
  (eS:s.heap.get? S=some { cls:=.type "list",dict:=none,data:=.seq #[] c,slots:=#[] }) (fin:∀h' tk,(∀b o,b∉wr->b≠S->s.heap.get? b=some o->h'.get? b=some o)->R (.ok (.ret dv)) { s with heap:=h',toks:=tk }) :
  codeAny (model prog w) A (.builtin "max.loop" ⟨[.ref I,.none,.ref S],[(q,dv)]⟩) R s:=by
 refine codeAny_builtin GH ?_
 rw[HC DW _]
 show wpAny _ A.in1 (seqItems? (.ref S) >>= _) _ _ _
 refine δ (GP eS rfl ?_)
 show wpAny _ A.in1 (tryCatch (pyNext (.ref I)) _ >>= _) _ _ _
 refine δ (wpAny_tryCatch (W.done s _ _ (n0 ▸ st) fun h' tk kp=>?_))
 show wpAny _ A.in1 (rule _ >>= _) _ _ _
 exact δ (wpAny_rule (ω (fin h' tk fun b o hb _ e=>kp b o hb e)))
end
def xL(a v:Value):argsOk "max" ⟨[a],[(Str.ofString "default",v)]⟩:=by unfold argsOk;kernel_rfl
section
variable {prog:Program}{w:World}{A:Around}{E:Value->Shared->Prop}{s:Shared}
def xK
  (h:wpAny (model prog w) A.in1 (pyIter x) (fun it bp=>∃I fp wr n P St bt,it=.ref I/\Walks prog w A.in1 I fp wr n P St/\St 0 bp.heap/\(∀b∈fp,b<bp.heap.objs.size)/\CmpOf prog w A.in1 .Gt P bt /\
   ∀v h' tk,((0<n/\P (argBest bt (n - 1)) v)\/(n=0/\v=dv))->(∀b o,b∉wr->bp.heap.get? b=some o->h'.get? b=some o)->Q v { bp with heap:=h',toks:=tk }) E s) :
  wpAny (model prog w) A (call (.builtin "max") [x] [(Str.ofString "default",dv)]) Q E s:=by
 have nm:(toString "max"++toString ".loop":String)="max.loop":=by decide
 refine kmk_tree PySem.F.kind_max PySem.F.plain_max PySem.F.entry_max (xL _ _) ?_
 show wpAny _ A.in1 (Builtin.Builtins.bindParams "max" ["key","default"] 0 ⟨[],[(Str.ofString "default",dv)]⟩ >>= _) _ _ s
 refine δ (wpAny_of_eq (show Builtin.Builtins.bindParams "max" ["key","default"] 0 ⟨[],[(Str.ofString "default",dv)]⟩=pure [none,some dv] from rfl) ?_)
 refine δ (ω ?_)
 refine δ (EM h (fun it bp g=>?_) fun _ _ e=>e)
 obtain⟨I,fp,wr,n,P,St,bt,rfl,W,st,bd,cm,hQ⟩:=g
 refine δ (wpAny_newObj_type ?_)
 have nf:bp.heap.objs.size∉fp:=fun hm=>EA _ (bd _ hm)
 rw[nm]
 refine ω ⟨plainId_quiet DW _,?_⟩
 by_cases n0:0<n
 . exact zv _ W bt cm bp.heap.objs.size nf n0 (W.frame _ _ _ st fun b _ o e=>τ _ e) (Ψ _ rfl) fun v h' tk pv kp=>
    hQ v h' tk (.inl ⟨n0,pv⟩) fun b o cH e=>kp b o cH (CC (π e)) (τ _ e)
 . exact xM _ dv W bp.heap.objs.size nf (by lia) (W.frame _ _ _ st fun b _ o e=>τ _ e) (Ψ _ rfl) fun h' tk kp=>
    hQ dv h' tk (.inr ⟨by lia,rfl⟩) fun b o cH e=>kp b o cH (CC (π e)) (τ _ e)
variable {h₀:Heap}{L:Addr}{m:Str->Option Value}{lG:List (Addr×Obj)}
def xJ(hh:A.handled=none)(F:Fr h₀ L s.heap m)(N:News h₀ L s.heap lG)(hl:s.heap.IsList l vs.toArray)(hi:IntsAre vs ns)
  (h:∀v h' tk,Fr h₀ L h' m->News h₀ L h' lG->((ns=[]/\v=dv)\/∃M t,v=.int M t/\M∈ns/\∀a,a∈ns->a<=M)->Q v { s with heap:=h',toks:=tk }) :
  wpAny (model prog w) A (call (.builtin "max") [.ref l] [(Str.ofString "default",dv)]) Q E s:=by
 obtain⟨xs,e⟩:=hi.allInts.items
 have en:ns=xs.toList.map (·.1):=by rw[<-hi.numsOf,<-nums_intItems,<-e]
 have el:ns.length=xs.size:=by rw[en,bI,ES]
 rw[e]at hl
 refine xK (iter_intList hl fun bp e st bd lI=>?_)
 subst e
 refine⟨_,_,_,_,_,_,_,rfl,Walks.list (A:=A.in1) hh _ l lI (intItems xs),st,bd,CmpOf.ints_gt (numAt xs) (fun _ _=>intItems_at),fun v h' tk pv kp=>?_⟩
 have eX:=old_kept kp
 refine h v h' tk (F.grownK eX) (N.grown eX) ?_
 rcases pv with⟨n0,pv⟩ |⟨n0,rfl⟩
 . right;have BJ:0<xs.size:=by simpa [intItems] using n0
   have fD:(intItems xs)[argBest (fun i j=>decide (numAt xs i > numAt xs j)) (xs.size - 1)]?=some v:=by simpa [intItems] using pv
   obtain⟨t,rfl⟩:=intItems_at fD;obtain⟨h1,h2⟩:=argBest_gt (numAt xs) (xs.size - 1);refine⟨_,t,rfl,?_,fun a ha=>?_⟩
   . rw[en,numAt_eq];exact M4 (by rw[bI,ES];lia)
   . rw[en]at ha;obtain⟨j,hj,rfl⟩:=mem_getD ha;rw[bI,ES]at hj;rw[<-numAt_eq];exact h2 j (by lia)
 . left;have:xs.size=0:=by simpa [intItems] using n0
   exact⟨DO.mp (by lia),rfl⟩
end
def mxD(d:Int):List Int->Int
 | []=>d
 |n::ns=>o8 n ns
def S4:List D->Option D
 | [.lst ds,.int d]=>(m8 ds).map fun ns=>.int (mxD d ns)
 |_=>none
def Gy:List V->Hp->VK->Prop:=fun xs H Q=>∃p ns d,xs=[.ref p,.int d]/\H p=some (.lst (ns.map V.int))/\Q (.int (mxD d ns)) H
def TEd.mono'{K:Frag}{EX:XW}{fr:Bool}{f:DE->R D}{σ:St}{H:Hp}{Q Q':VK}(h:TEd K EX fr f σ H Q)(hq:∀v H',Q v H'->Q' v H'):TEd K EX fr f σ H Q':=by obtain⟨sx,ρ,H0,s,e,h⟩:=h;exact⟨sx,ρ,H0,s,e,h.mono fun a k v H' o=>hq _ _ (k v H' o)⟩
section
variable {X:Cx}{EX:XW}{e d:Expr}{p kp pos:Pos}{x:Str}{t1 t2:TE}{f1 f2:DE->R D}
def xI(hc:X.calm=true)(hg:Gl X x)(hm:X.mg x=none)(hv:bootBuiltins x=some (.builtin "max"))(ha:PE X e t1)(hd:PE X d t2)(hn:x≠"__name__":=by decide)(aW:(x==("__debug__":Str))=false:=by decide)
  (hs:starEach [e] X.env=(false,eval e X.env)::starEach [] X.env:=by rfl) :
  PE X (.Call (.Name x p) [e] [⟨some (Str.ofString "default"),d,kp⟩] pos) (tCB Gy (C4 t1 (C4 t2 G4))):=by
 intro pins s σ H Q I h
 refine FC (J6 I hg hm hv ?_ hn aW)
 refine callWith_kw ?_ (by rw[hs];rfl) (by rw[hs];rfl)
 refine thn (J7 ha pa_nil hs pos pins s σ H (fun vs H1=>t2 σ H1 fun u H2=>Gy (vs++[u]) H2 Q) I h) fun us s1 ⟨vs,H1,I1,r1,q1⟩=>?_
 refine kws_cons (thn (hd pins s1 σ H1 _ I1 q1) fun u s2 ⟨y,H2,I2,r2,q2⟩=>kws_nil ?_)
 obtain⟨a,ns,i,e1,ea,q⟩:=q2
 obtain⟨rfl,rfl⟩:vs=[.ref a]/\y=.int i:=by
  cases vs with
  |nil=>cases e1
  |cons b r=>
   cases r with
   |nil=>cases e1;exact⟨rfl,rfl⟩
   |cons c r=>cases r<;>cases e1
 obtain⟨u1,rfl,ru⟩:=r8 r1
 cases ru
 obtain⟨t,rfl⟩:=r2
 obtain⟨its,rv,pl,_⟩:=I2.list (.of ea)
 obtain⟨m,mP,_⟩:=id I2.loc
 refine xJ (I2.ok.hd hc) (Att.fr_all mP) (Ev (g:=Att.noObjs s2.heap) (L:=X.env.locals)) pl.isList (Fc rv) fun v h' tk F N hM=>?_
 rcases hM with⟨rfl,rfl⟩ |⟨M,t,rfl,hM,cF⟩
 . exact⟨.int i,H2,I2.frn mP F N,⟨_,rfl⟩,q⟩
 . cases ns with
   |nil=>cases hM
   |cons n ns=>
    obtain⟨a1,a2⟩:=O5 ns n
    have e:M=o8 n ns:=FN (a2 M hM) (cF _ a1)
    exact⟨.int M,H2,I2.frn mP F N,⟨t,rfl⟩,by rw[e];exact q⟩
theorem xH{K:Frag}:v8 K false S4 Gy:=by
 intro H0 H xs ds z Q s r ho k;unfold S4 at ho;split at ho<;>first |cases ho |skip
 rename_i es i;cases hq:m8 es with
 |none=>rw[hq]at ho;cases ho
 |some ns=>
  rw[hq]at ho
  cases ho
  simp only[RDs]at r
  obtain⟨x1,r1,rfl,q1,x2,r2,rfl,q2,rfl⟩:=r
  obtain⟨a,ys,rfl,ha,ra⟩:=q1.lst
  have e:=V6 hq ra
  subst e
  cases q2.int
  exact⟨a,ns,i,rfl,s _ _ ha,k _ H (.pure s (.mkInt _))⟩
def vk(hc:X.calm=true)(hg:Gl X x)(hm:X.mg x=none)(hv:bootBuiltins x=some (.builtin "max"))(ha:QE X EX false e f1)(hd:QE X EX false d f2)(hn:x≠"__name__":=by decide)(aW:(x==("__debug__":Str))=false:=by decide)
  (hs:starEach [e] X.env=(false,eval e X.env)::starEach [] X.env:=by rfl) :
  QE X EX false (.Call (.Name x p) [e] [⟨some (Str.ofString "default"),d,kp⟩] pos) (eCB S4 (a8 f1 (a8 f2 b7))):=
 ⟨(xI hc hg hm hv ha.h hd.h hn aW hs).imp fun _ _ _ q=>(Jn (Ow xH q)).mono' fun _ _ q=>(Jn q).mono' fun _ _ q=>Pm q⟩
end
def Pd:V->V->Hp->VK->Prop:=fun o i H Q=>∃p xs k v,o=.ref p/\i=.int k/\H p=some (.lst xs)/\0<=k/\k<2 ^ 63/\xs[k.toNat]?=some v/\Q v H
section
variable {X:Cx}
def zu:qz X Pd:=by intro pins s σ H o i ov iv Q I ro ri h;obtain⟨p,xs,k,v,rfl,rfl,hp,h0,h1,hv,q⟩:=h;cases ro;obtain⟨t,rfl⟩:=ri;obtain⟨its,r,pl,hz⟩:=I.list (.of hp);obtain⟨w,ew,bD⟩:=r.get hv;exact wpAny_getItem_list pl.isList h0 h1 (by simpa using ew) ⟨v,H,I,bD,q⟩
end
noncomputable def X0(g:Int->Int->Int):D->D->D->Option D
 | .lst ds,.int k,.int b=>if 0<=k/\k<2 ^ 63/\k.toNat<ds.length then(match ds[k.toNat]? with |some (.int a)=>some (.lst (ds.set k.toNat (.int (g a b)))) |_=>none) else none
 |_,_,_=>none
def W9(g:Int->Int->Int)(i:Nat)(m:List Bool)(fk fv:DE->R D):DS->SR:=fun ρ=>match ρ[i]? with
 |some (.ow d)=>(fk (vis m ρ)).toS fun dk=>match fv (vis m ρ) with
  | .ok dv=>(R.of (X0 g d dk dv)).toS fun d'=>.nx (ρ.set i (.ow d'))
  |_=>.st
 |_=>.st
section
variable {X:Cx}{K:Frag}{EX:XW}{fr:Bool}{m:List Bool}{De:Ends}{σ:St}{H:Hp}
def xG{g:Int->Int->Int}{d dk dv d':D}(h:X0 g d dk dv=some d'):∃ds k a b,d=.lst ds/\dk=.int k/\dv=.int b/\(0<=k/\k<2 ^ 63/\k.toNat<ds.length)/\ds[k.toNat]?=some (.int a)/\d'=.lst (ds.set k.toNat (.int (g a b))):=by
 unfold X0 at h;split at h<;>first |cases h |skip
 rename_i ds k b;split at h
 . rename_i hc;split at h
   . rename_i a ha;cases h;exact⟨ds,k,a,b,rfl,rfl,rfl,hc,ha,rfl⟩
   . cases h
 . cases h
def y4g{g:Int->Int->Int}{i:Nat}{fk fv:DE->R D}(h:TSd K EX fr (W9 g i m fk fv) De σ H) :
  Hm (n8 i) (TEd K EX false fk) (TEd K EX false fv) Pd (ipI g) Qb De σ H:=by
 obtain⟨Hc,Hb,H0,ρ,sb,I,h⟩:=h
 unfold W9 at h
 split at h
 . rename_i d q;obtain⟨a,h1,h2,h3,h4⟩:=I.ow i d q;unfold Hm n8;rw[h1];rw[SK.toS]at h;refine I.te sb h fun dk h y H1 oY I1 a1=>?_
   split at h
   . rename_i dv hf;rw[SK.toS]at h;obtain⟨d',cx,h⟩:=h.of;obtain⟨ds,k,x0,b,rfl,rfl,rfl,hc,hx,rfl⟩:=xG cx;rw[show keeps false (D.int k)=true by simp[keeps,D.noL]]at I1 a1;obtain⟨a',z1,z2,z3,z4⟩:=I1.ow i _ q;rw[h1]at z1;cases z1;cases a1.rd.int;simp only[OB]at z4;obtain⟨xs,cB,fC⟩:=z4;obtain⟨v0,e0,r0⟩:=fC.get' hx;cases r0.int;refine⟨a,xs,k,.int x0,rfl,rfl,cB,hc.1,hc.2.1,e0,?_⟩;refine I1.te (m:=m) sb (k:=fun d=>d=.int b) (by show Rk EX.at (fv (vis m ρ)) _;rw[hf];rfl) fun dv e v H2 gT I2 a2=>?_
     subst e;rw[show keeps false (D.int b)=true by simp[keeps,D.noL]]at I2 a2;cases a2.rd.int;refine⟨x0,b,rfl,rfl,?_⟩;obtain⟨a',y1,y2,y3,y4⟩:=I2.ow i _ q;rw[h1]at y1;cases y1;simp only[OB]at y4;obtain⟨tx,oq,lH⟩:=y4;refine⟨a,tx,k,k.toNat,rfl,rfl,oq,?_,?_⟩
     . unfold ixN;rw[ζ hc.1,ζ (by rw[<-lH.length];omega)]
     . refine h σ _ gT (I2.mutate q h1 ?_);simp only[OB];exact⟨_,k7,lH.set k.toNat (.mkInt _)⟩
   . exact h.elim
 . exact h.elim
def y4h{g:Int->Int->Int}{i:Nat}{o ix e:Expr}{op:Operator}{ay pos:Pos}{fk fv:DE->R D}(hp:PIp X op (ipI g))(ho:PE X o (n8 i))(hk:QE X EX false ix fk)(hv:QE X EX false e fv)
  (ha:∀ov iv new,augStore ix ov iv new=(do holding [new,ov,iv] (setItem ov iv new);release [new,ov,iv] [];pure .next):=by intros;rfl):QS X EX fr (.AugAssign (.Subscript o ix ay) op e pos) (W9 g i m fk fv):=
 ⟨(yD ho hk.h zu hv.h hp zR ha).imp fun _ _ _ q=>y4g q⟩
end
noncomputable def SR.thn(r:SR)(g:DS->SR):SR:=match r with
 | .nx ax=>g ax
 |r=>r
noncomputable def SR.out(fr:Bool)(r:SR):R D:=match r with
 | .rt d=>.ok d
 | .nx _=>if fr=true then .st else .ok .non
 | .er x=>.er x
 |_=>.st
def yL(g1 g2:DS->SR)(ρ:DS):c9 g1 g2 ρ=(g1 ρ).thn g2:=rfl
def yK(ρ:DS)(g:DS->SR):(SR.nx ρ).thn g=g ρ:=rfl
def zzf(d:D)(g:DS->SR):(SR.rt d).thn g=.rt d:=rfl
def zzg(g:DS->SR):(SR.st).thn g=.st:=rfl
def zu6(c:Prop)[Decidable c](a b:SR)(g:DS->SR):(if c then a else b).thn g=if c then a.thn g else b.thn g:=by split<;>rfl
def Qi(fr:Bool)(n k:Nat)(g:DS->SR)(ds:List D):mOf fr n k g ds=if ds.length=n then(g (ds.map .im++List.replicate k .em)).out fr else .st:=rfl
def zzh(fr:Bool)(d:D):(SR.rt d).out fr=.ok d:=rfl
def zzi(ρ:DS):(SR.nx ρ).out false=.ok .non:=rfl
def zzj(fr:Bool):(SR.st).out fr=.st:=rfl
def zu8(fr:Bool)(c:Prop)[Decidable c](a b:SR):(if c then a else b).out fr=if c then a.out fr else b.out fr:=by split<;>rfl
def zzk(m:List Bool)(f:DE->R D)(ρ:DS):g8 m f ρ=(f (vis m ρ)).toS fun d=>.rt d:=rfl
def zzl(fr:Bool)(i:Nat)(m:List Bool)(f:DE->R D)(ρ:DS):e7 fr i m f ρ=(f (vis m ρ)).toS fun d=>.nx (G3 fr i d (j9 (keeps fr d) m ρ)):=rfl
def y4i(t:DE->R Bool)(g1 g2:DS->SR)(ρ:DS):sIf t g1 g2 ρ=(t (see ρ)).toS fun b=>if b=true then g1 ρ else g2 ρ:=rfl
def w4(a:α)(k:α->SR):R.toS (.ok a) k=k a:=rfl
def zzm(k:α->SR):R.toS (.st:R α) k=.st:=rfl
def zu9(c:Prop)[Decidable c](a b:R α)(k:α->SR):R.toS (if c then a else b) k=if c then R.toS a k else R.toS b k:=by split<;>rfl
def Jr(a:α):(R.ok a).noE=.ok a:=rfl
def y4j(m:List Bool):vis m []=[]:=by cases m<;>rfl
def y4k(s:Sl)(r:DS):vis [] (s::r)=s.see false::vis [] r:=rfl
def y4l(b:Bool)(m:List Bool)(s:Sl)(r:DS):vis (b::m) (s::r)=s.see b::vis m r:=rfl
def Z1:see []=[]:=rfl
def Z0(s:Sl)(r:DS):see (s::r)=s.see true::see r:=rfl
def zzn(b:Bool):Sl.see b .em=none:=rfl
def Ai(b:Bool)(d:D):Sl.see b (.im d)=some d:=rfl
def At(d:D):Sl.see true (.ow d)=some d:=rfl
def zua(d:D):Sl.see false (.ow d)=none:=rfl
def zzo(m:List Bool)(ρ:DS):j9 true m ρ=ρ:=rfl
def zou(fr:Bool)(i:Int):keeps fr (.int i)=true:=by cases fr<;>rfl
def zov(fr:Bool)(ds:List D):keeps fr (.tup ds)=i5 ds:=by cases fr<;>simp only[keeps,D.noL,D.shal,DY,tB,DG]
def Lx(ds:List D):keeps true (.lst ds)=i5 ds:=rfl
def zzp:i5 []=true:=by simp only[i5]
def zzq(d:D)(r:List D):i5 (d::r)=(d.noL&&i5 r):=by simp only[i5]
def zlk(i:Int):(D.int i).noL=true:=by simp only[D.noL]
def zub(i:PySem.Str):(D.str i).noL=true:=by simp only[D.noL]
def zuc(ds:List D):(D.tup ds).noL=i5 ds:=by simp only[D.noL]
def zud(ds:List D):(D.lst ds).noL=false:=by simp only[D.noL]
def Qh(i:Nat)(d:D)(ρ:DS):G3 false i d ρ=ρ.set i (.im d):=rfl
def y4m(i:Nat)(d:D)(ρ:DS):G3 true i d ρ=ρ.set i (.ow d):=rfl
def y4n(ρ:DE):sel [] ρ=[]:=rfl
def y4o(j:Nat)(r:List Nat)(ρ:DE):sel (j::r) ρ=(ρ[j]?).getD none::sel r ρ:=rfl
def y8b(d:D)(r:DE):a7 0 (some d::r)=.ok d:=rfl
def y8c(i:Nat)(d:Option D)(r:DE):a7 (i+1) (d::r)=a7 i r:=rfl
def y4p(g:Int->Int->D)(i j:Int):dI g (.int i) (.int j)=some (g i j):=rfl
def vj(C:Int->Int->Prop)[∀i j,Decidable (C i j)](g:Int->Int->D)(i j:Int):dIC C g (.int i) (.int j)=if C i j then some (g i j) else none:=rfl
def y4q(b:Bool):asB (.bl b)=some b:=rfl
def zr1(b:Bool):l6 (.bl b)=some b:=rfl
def U6(i j:Int):(i==j)=decide (i=j):=by rw[FB];simp
def zzs(i j:Int):dEq (.int i) (.int j)=some (.bl (decide (i=j))):=by unfold dEq;rw[ζ (by simp[D.pl,D.dep])];simp only[eqD,U6]
def zzt(i j:Int):dNe (.int i) (.int j)=some (.bl (!decide (i=j))):=by unfold dNe;rw[ζ (by simp[D.pl,D.dep])];simp only[eqD,U6]
def zzu(a b c e:Int):dEq (.tup [.int a,.int b]) (.tup [.int c,.int e])=some (.bl (decide (a=c)&&decide (b=e))):=by unfold dEq;rw[ζ (by simp[D.pl,D.dep,pls,j0])];simp only[eqD,m9,U6,Bool.and_true]
def zzv(a b c e:Int):dNe (.tup [.int a,.int b]) (.tup [.int c,.int e])=some (.bl (!(decide (a=c)&&decide (b=e)))):=by unfold dNe;rw[ζ (by simp[D.pl,D.dep,pls,j0])];simp only[eqD,m9,U6,Bool.and_true]
def Dt(a:D)(r:List D):dIx (.tup (a::r)) (.int 0)=some a:=by simp only[dIx,dOr,v5,kY]
def Ds(a b:D)(r:List D):dIx (.tup (a::b::r)) (.int 1)=some b:=by simp only[dIx,dOr,v5,kX]
def zzw(a:D)(r:List D):dIx (.lst (a::r)) (.int 0)=some a:=by simp only[dIx,dOr,v5,kY]
def zzx(a b:D)(r:List D):dIx (.lst (a::b::r)) (.int 1)=some b:=by simp only[dIx,dOr,v5,kX]
def Dh{ds:List D}{j:Nat}{d:D}(h:ds[j]?=some d):dIx (.lst ds) (.int (j:Int))=some d:=by simp only[dIx,dOr,v5,Kl h]
def zzy(ns:List D):k9 [.lst ns]=some (.int ns.length):=rfl
def y4r(b c:Bool):(if b=true then R.ok true else R.ok c)=R.ok (b||c):=by cases b<;>rfl
def zzz(b c:Bool):(if b=true then R.ok c else R.ok false)=R.ok (b&&c):=by cases b<;>rfl
def y00(b c:Bool):(if b=true then R.ok (D.bl true) else R.ok (D.bl c))=R.ok (D.bl (b||c)):=by cases b<;>rfl
def zuf(b c:Bool):(if b=true then R.ok (D.bl c) else R.ok (D.bl false))=R.ok (D.bl (b&&c)):=by cases b<;>rfl
def y01(i:Int):l5 "int" (.int i)=some (.bl true):=by simp[l5,C1,F5,E8]
def y02(i:Int):l5 "bool" (.int i)=some (.bl false):=by simp[l5,C1,F5,E8]
def yJ(ds:List D):l5 "tuple" (.tup ds)=some (.bl true):=by simp[l5,C1,F5,E8]
def y03(ds:List D):l5 "list" (.lst ds)=some (.bl true):=by simp[l5,C1,F5,E8]
noncomputable def SR.itr(r:SR)(k:DS->SR):SR:=match r with
 | .nx aA=>k aA
 | .ct aA=>k aA
 | .bk aA=>.nx aA
 | .rt d=>.rt d
 | .er x=>.er x
 | .st=>.st
def O4(ρ:DS)(k:DS->SR):(SR.nx ρ).itr k=k ρ:=rfl
def Jj(i:Nat)(g:DS->SR)(d:D)(ds:List D)(ρ:DS):o6 (.n i) g (d::ds) ρ=(g (ρ.set i (.im d))).itr (o6 (.n i) g ds):=by simp only[o6,K6,Qh,SR.itr]<;>cases g (List.set ρ i (Sl.im d))<;>rfl
def zug(bn:D->Option (List D))(t:DE->R Bool)(f:DE->R D)(cs:DE):z6 bn t f cs []=.ok []:=rfl
def zuh(f:DE->R D)(cs:DE)(d:D)(ds:List D):z6 b1 p9 f cs (d::ds)=(f (some d::cs)).noE.bind fun y=>(z6 b1 p9 f cs ds).bind fun ys=>.ok (y::ys):=rfl
def M8{bn:D->Option (List D)}{f:DE->R D}{cs:DE}{α:Type}{en:α->D}{bs:α->List D}{g:α->D}(xs:List α)(hb:∀x∈xs,bn (en x)=some (bs x))(hf:∀x∈xs,f ((bs x).map some++cs)=.ok (g x)):z6 bn p9 f cs (xs.map en)=.ok (xs.map g):=by
 induction xs with
 |nil=>rfl
 |cons x xs ih=>
  simp only[gD,z6,hb x (by simp),p9,R.of_some,R.bind_ok,Jr,DY,hf x (by simp),ih (fun y hy=>hb y (by simp[hy])) (fun y hy=>hf y (by simp[hy]))]
def E3{bn:D->Option (List D)}{t:DE->R Bool}{f:DE->R D}{cs:DE}{α:Type}{en:α->D}{bs:α->List D}{p:α->Bool}{g:α->D}(xs:List α)(hb:∀x∈xs,bn (en x)=some (bs x))(ht:∀x∈xs,t ((bs x).map some++cs)=.ok (p x))(hf:∀x∈xs,p x=true->f ((bs x).map some++cs)=.ok (g x)):z6 bn t f cs (xs.map en)=.ok ((xs.filter p).map g):=by
 induction xs with
 |nil=>rfl
 |cons x xs ih=>
  have tz:=ih (fun y hy=>hb y (by simp[hy])) (fun y hy=>ht y (by simp[hy])) (fun y hy=>hf y (by simp[hy]))
  simp only[gD,z6,hb x (by simp),ht x (by simp),R.of_some,R.bind_ok,Jr,tz]
  cases e:p x with
  |true=>simp only[DY,hf x (by simp) e,Jr,R.bind_ok,EE,e,gD]
  |false=>simp only[tB,DG,EE,e]
def Es{tg:Tg}{g:DS->SR}{α:Type}{en:α->D}(P:List α->DS->Prop)(xs:List α)(ρ:DS)(h0:P xs ρ)(hs:∀x r ρ,P (x::r) ρ->∃cC aA,K6 tg (en x) ρ=some cC/\(g cC=.nx aA\/g cC=.ct aA)/\P r aA):∃ax,o6 tg g (xs.map en) ρ=.nx ax/\P [] ax:=by
 induction xs generalizing ρ with
 |nil=>exact⟨ρ,rfl,h0⟩
 |cons x r ih=>
  obtain⟨cC,aA,e1,e2,q⟩:=hs x r ρ h0
  obtain⟨ax,e',p'⟩:=ih aA q
  refine⟨ax,?_,p'⟩
  rcases e2 with e2 |e2<;>simp only[gD,o6,e1,e2,e']
noncomputable def L(ns:List Int):D:=.lst (ns.map .int)
def B5(f:α->D)(xs:List α)(h:∀x∈xs,(f x).noL=true):i5 (xs.map f)=true:=by
 induction xs with
 |nil=>simp only[CM,i5]
 |cons a r ih=>simp only[gD,i5,h a (by simp),ih fun x hx=>h x (by simp[hx]),DV]
def y04(ns:List Int):keeps true (L ns)=true:=by unfold L;rw[Lx];exact B5 _ _ fun x _=>zlk x
def y8d(h0:0<=x)(h1:x.toNat<ns.length):dIx (L ns) (.int x)=some (.int (ns.getD x.toNat 0)):=by
 have e:(ns.map D.int)[x.toNat]?=some (.int (ns.getD x.toNat 0)):=by rw[CJ,oF h1,pp,oF h1];rfl
 have:=Dh e;rwa [show((x.toNat:Nat):Int)=x by lia]at this
def y8e{ns:List Int}{k:Nat}(h1:k<ns.length):dIx (L ns) (.int (k:Int))=some (.int (ns.getD k 0)):=y8d (x:=(k:Int)) (by lia) (by simpa using h1)
def Gx(h:ns.length<100000):k8 (L ns) [.int x]=some (L (ns++[x])):=by simp only[L,k8,bI,h,DY,CS,gD,CM]
def map_set(f:α->β)(xs:List α)(j:Nat)(a:α):(xs.map f).set j (f a)=(xs.set j a).map f:=by rw[List.map_set]
def y05(ns:List Int)(lo hi:Option Int):dSl (.scr ns) lo hi=some (L (K4 ns lo hi)):=rfl
def y4s(ns:List Int):C8 [L ns]=some (.int ns.sum):=by simp only[L,C8,W0,CO]
def Lc{tg:Tg}{g:DS->SR}(n:Nat)(en:Nat->D)(P:Nat->DS->Prop)(ρ:DS)(h0:P 0 ρ)
  (hs:∀i,i<n->∀ρ,P i ρ->∃cC aA,K6 tg (en i) ρ=some cC/\(g cC=.nx aA\/g cC=.ct aA)/\P (i+1) aA) :
  ∃ax,o6 tg g ((List.range n).map en) ρ=.nx ax/\P n ax:=by
 have key:∀k s ρ,s+k=n->P s ρ->∃ax,o6 tg g ((List.range' s k).map en) ρ=.nx ax/\P n ax:=by
  intro k;induction k with
  |zero=>intro s ρ e h;exact⟨ρ,rfl,by rwa [<-e]⟩
  |succ k ih=>
   intro s ρ e h
   obtain⟨cC,aA,e1,e2,q⟩:=hs s (by lia) ρ h
   obtain⟨ax,e',p'⟩:=ih (s+1) aA (by lia) q
   refine⟨ax,?_,p'⟩
   rw[List.range'_succ,gD]
   rcases e2 with e2 |e2<;>simp only[o6,e1,e2,e']
 rw[List.range_eq_range']
 exact key n 0 ρ (by lia) h0
def zt(n:Nat)(g:Nat->D):((zD 0 ((List.range n).map g).length).zip ((List.range n).map g)).map (fun p=>D.tup [p.1,p.2])=(List.range n).map fun (i:Nat)=>D.tup [.int (i:Int),g i]:=by
 simp only[zD,bI,List.length_range];have:∀(l:List Nat),((l.map fun (i:Nat)=>D.int (0+i)).zip (l.map g)).map (fun p=>D.tup [p.1,p.2])=l.map fun (i:Nat)=>D.tup [.int (i:Int),g i]:=fun l=>by
  induction l with
  |nil=>rfl
  |cons a r ih=>simp only[Int.zero_add]at ih⊢;simp only[gD,CI,ih]
 exact this _
def y06(xs:List α)(d:α):xs=(List.range xs.length).map fun i=>xs.getD i d:=by
 apply List.ext_getElem?;intro i;by_cases h:i<xs.length
 . rw[CJ,List.getElem?_range h,CO,pp,oF h];rfl
 . rw[EN (by lia),EN (by simp;lia)]
def y4t(ns:List Int):isT "list" (L ns)=true:=by simp only[L,isT,beq_self_eq_true]
def y07(m:List Bool)(ρ:DS):j9 false m ρ=frz m ρ:=rfl
def y4u(ρ:DS):frz [] ρ=ρ:=by cases ρ<;>rfl
def y4v(m:List Bool):frz m []=[]:=by cases m<;>rfl
def y4w(b:Bool)(m:List Bool)(s:Sl)(r:DS):frz (b::m) (s::r)=s.frz b::frz m r:=rfl
def y08(b:Bool)(d:D):Sl.frz b (.im d)=.im d:=rfl
def zuj(d:D):Sl.frz false (.ow d)=.ow d:=rfl
def zuk(d:D):Sl.frz true (.ow d)=.im d:=rfl
def vi(h:0<j):Q8 (.int i) (.int j)=some (.int (i % j)):=by unfold Q8;rw[vj,ζ h]
def xF(hj:-100000<=j/\j<=100000):-(2 ^ 62)<=j/\j<2 ^ 62:=by lia
def vh(j:Int)(hj:-100000<=j/\j<=100000)(h:fs ρ=.ok [.int j]):Q5 fs ρ=.ok (zD 0 j.toNat):=by unfold Q5;rw[h,R.bind_ok];show R.of (if _ then _ else _)=_;rw[ζ (xF hj)];rfl
def zum(ds:List D):items (.lst ds)=some ds:=rfl
def zun(ds:List D):items (.tup ds)=some ds:=rfl
def zlm(ds:List D):keeps false (.lst ds)=false:=by simp only[keeps,D.noL,tB,DG]
noncomputable def T2(p:Int×Int):D:=.tup [.int p.1,.int p.2]
noncomputable def T3(p:Int×Int×Int):D:=.tup [.int p.1,.int p.2.1,.int p.2.2]
def Ey(h:ois l'=true)(p:l.Perm l'):u6 l=u6 l':=
 Az (Et ((N0 l).trans p) h) (((N0 l).trans p).trans (N0 l').symm) (V5 (Et p h)) (V5 h)
noncomputable def insB{α:Type}(lt:α->α->Bool)(d:α):List α->List α
 | []=>[d]
 |e::r=>if lt e d=true then e::insB lt d r else d::e::r
def sortB{α:Type}(lt:α->α->Bool):List α->List α
 | []=>[]
 |d::r=>insB lt d (sortB lt r)
section
variable {α:Type}(f:α->D)
theorem Wn(d:α):∀l:List α,F9 (f d) (l.map f)=(insB (fun a b=>ltT (f a) (f b)) d l).map f
 | []=>rfl
 |e::r=>by
  simp only[gD,F9,insB];split
  . rw[gD,Wn d r]
  . rfl
theorem Bg:∀l:List α,u6 (l.map f)=(sortB (fun a b=>ltT (f a) (f b)) l).map f
 | []=>rfl
 |d::r=>by simp only[gD,u6,sortB,Bg r,Wn]
variable (lt:α->α->Bool)
theorem Xw(d:α):∀l:List α,(insB lt d l).Perm (d::l)
 | []=>.refl _
 |e::r=>by
  unfold insB;split
  . exact((Xw d r).cons e).trans (.swap d e r)
  . exact .refl _
theorem Bl:∀l:List α,(sortB lt l).Perm l
 | []=>.refl _
 |d::r=>(Xw lt d (sortB lt r)).trans ((Bl r).cons d)
end
def so2(ls:List (Int×Int)):List (Int×Int):=sortB (fun a b=>ltT (T2 a) (T2 b)) ls
def so3(ls:List (Int×Int×Int)):List (Int×Int×Int):=sortB (fun a b=>ltT (T3 a) (T3 b)) ls
def soI(ls:List Int):List Int:=sortB (fun a b=>ltT (.int a) (.int b)) ls
def Aq(ls:List (Int×Int)):u6 (ls.map T2)=(so2 ls).map T2:=Bg _ _
def Kd(ls:List (Int×Int×Int)):u6 (ls.map T3)=(so3 ls).map T3:=Bg _ _
def Dz(ls:List Int):u6 (ls.map D.int)=(soI ls).map D.int:=Bg _ _
def j8(ls:List (Int×Int)):(so2 ls).Perm ls:=Bl _ _
def B0(ls:List (Int×Int×Int)):(so3 ls).Perm ls:=Bl _ _
def Lb(ls:List Int):(soI ls).Perm ls:=Bl _ _
def Ae(xs:List α)(f:α->D)(p:D->Bool)(h:∀x,p (f x)=true):(xs.map f).all p=true:=by rw[DF];intro d hd;obtain⟨x,_,rfl⟩:=CF.mp hd;exact h x
def J5(xs:List α)(f:α->D)(h:∀x,(f x).oi=true):ois (xs.map f)=true:=
 ois_mem.mpr fun d hd=>by obtain⟨x,_,rfl⟩:=CF.mp hd;exact h x
def U5(xs:List α)(f:α->D)(n:Nat)(h:∀x,(f x).dep<=n):j0 (xs.map f)<=n:=by
 induction xs with
 |nil=>simp only[CM,j0,DC]
 |cons a r ih=>simp only[gD,j0];have:=h a;lia
def Ad(xs:List α)(f:α->D)(h:∀x,(f x).pl=true):pls (xs.map f)=true:=by
 induction xs with
 |nil=>simp only[CM,pls]
 |cons a r ih=>simp only[gD,pls,h a,ih,DV]
def S3(p:Int×Int):(T2 p).oi=true:=by simp[T2,D.oi,ois]
def vg(p:Int×Int×Int):(T3 p).oi=true:=by simp[T3,D.oi,ois]
def On(p:Int):(D.int p).oi=true:=by simp[D.oi]
def Ac(p:Int×Int):(T2 p).dep<=1:=by simp[T2,D.dep,j0]
def y0c(p:Int×Int×Int):(T3 p).dep<=1:=by simp[T3,D.dep,j0]
def N7(p:Int×Int):(T2 p).pl=true:=by simp[T2,D.pl,pls]
def E0(p:Int×Int):(T2 p).noL=true:=by simp[T2,D.noL,i5]
def yI(p:Int×Int×Int):(T3 p).noL=true:=by simp[T3,D.noL,i5]
def y0d(p q:Int×Int):(g9 (T2 p) (T2 q)).isSome=true:=by simp only[T2,g9,m4];repeat (first |rfl |split)
def y0e(p q:Int×Int×Int):(g9 (T3 p) (T3 q)).isSome=true:=by simp only[T3,g9,m4];repeat (first |rfl |split)
def y0f(h:T3 p=T3 q):p=q:=by obtain⟨a,b,c⟩:=p;obtain⟨a',b',c'⟩:=q;simp only[T3,D.tup.injEq,List.cons.injEq,D.int.injEq,and_true]at h;simp only[Prod.mk.injEq];exact h
def Ab(h:T2 p=T2 q):p=q:=by obtain⟨a,b⟩:=p;obtain⟨a',b'⟩:=q;simp only[T2,D.tup.injEq,List.cons.injEq,D.int.injEq,and_true]at h;simp only[Prod.mk.injEq];exact h
theorem J8{α β:Type}{f:α->β}(hf:∀x y,f x=f y->x=y):∀{a b:List α},a.map f=b.map f->a=b
 | [],[],_=>rfl
 | [],_::_,h=>by simp at h
 |_::_,[],h=>by simp at h
 |x::a,y::b,h=>by simp only[gD,List.cons.injEq]at h;rw[hf _ _ h.1,J8 hf h.2]
def Wm(p:a.Perm b):so3 a=so3 b:=by have:=Ey (J5 b T3 vg) (p.map T3);rw[Kd,Kd]at this;exact J8 (fun _ _=>y0f) this
def C7(p:a.Perm b):so2 a=so2 b:=by have:=Ey (J5 b T2 S3) (p.map T2);rw[Aq,Aq]at this;exact J8 (fun _ _=>Ab) this
def Ji(h1:∀y∈ys,y<=m)(h2:m∈ys\/(ys=[]/\d=m)):mxD d ys=m:=by
 cases ys with
 |nil=>
  rcases h2 with h2 |h2
  . cases h2
  . exact h2.2
 |cons n ns=>
  rcases h2 with h2 |h2
  . obtain⟨a,b⟩:=O5 ns n;exact FN (h1 _ a) (b _ h2)
  . cases h2.1
def y4y(ds:List D):isT "list" (.lst ds)=true:=by simp only[isT,beq_self_eq_true]
def y4z(b:Bool):X2 [.bl b]=some (.int (if b then 1 else 0)):=rfl
def y0g(ds:List D):Y4 [.tup ds]=some (.lst ds):=rfl
def y0h(ds:List D):Y4 [.lst ds]=some (.lst ds):=rfl
def zuo(ds:List D):z8 [.lst ds]=some (.tup ds):=rfl
def Lw(ls:List (Int×Int)):i5 (ls.map T2)=true:=B5 _ _ fun x _=>E0 x
def zox(ls:List (Int×Int×Int)):i5 (ls.map T3)=true:=B5 _ _ fun x _=>yI x
def Aa(h:ls.length<100000):k8 (.lst (ls.map T2)) [.tup [.int a,.int b]]=some (.lst ((ls++[(a,b)]).map T2)):=by simp only[k8,bI,h,DY,CS,gD,CM];rfl
def Jh(p q:Int×Int):eqD (T2 p) (T2 q)=decide (p=q):=by obtain⟨a,b⟩:=p;obtain⟨c,d⟩:=q;simp only[T2,eqD,m9,U6,Bool.and_true,Prod.mk.injEq,Bool.decide_and]
def Z9(p:Int×Int)(ls:List (Int×Int)):dIn false (T2 p) (.tup (ls.map T2))=some (.bl (decide (p∈ls))):=by
 have h1:=U5 ls T2 1 Ac;have e:(ls.map T2).any (fun e=>eqD e (T2 p))=decide (p∈ls):=by
  rw[List.any_map,FB,List.any_eq_true,ng];constructor
  . rintro⟨x,hx,h⟩;simp only[Function.comp,Jh,ng]at h;rw[<-h];exact hx
  . intro h;exact⟨p,h,by simp only[Function.comp,Jh,GF]⟩
 unfold dIn dOr N3;simp only[N7,Ad ls T2 N7,true_and,ζ (show j0 (ls.map T2)<=20 by lia),e,tB,DG]
def Gw(x:Int)(t:Int×Int×Int):dIn false (.int x) (T3 t)=some (.bl (decide (x=t.1)||(decide (x=t.2.1)||decide (x=t.2.2)))):=by unfold dIn dOr N3;simp only[T3,D.pl,pls,j0,D.dep,DV,Nat.max_self,true_and,DC,DY,List.any_cons,List.any_nil,Bool.or_false,eqD,U6,tB,DG];simp only[show ∀a b:Int,decide (a=b)=decide (b=a) from fun a b=>by rw[FB];simp[eq_comm]]
def y0i(t:Int×Int×Int):C8 [T3 t]=some (.int (t.1+(t.2.1+(t.2.2+0)))):=by simp only[T3,C8,m8,CO,FO,List.sum_nil]
def y0j(t:Int×Int):C8 [T2 t]=some (.int (t.1+(t.2+0))):=by simp only[T2,C8,m8,CO,FO,List.sum_nil]
def y0k(t:Int×Int):l5 "tuple" (T2 t)=some (.bl true):=yJ _
def y0l(t:Int×Int):k9 [T2 t]=some (.int 2):=rfl
def y50(t:Int×Int):dIx (T2 t) (.int 0)=some (.int t.1):=Dt _ _
def y51(t:Int×Int):dIx (T2 t) (.int 1)=some (.int t.2):=Ds _ _ _
def zoy(t:Int×Int×Int):items (T3 t)=some [.int t.1,.int t.2.1,.int t.2.2]:=rfl
def Jg(a b:List (Int×Int))(h:a.length+b.length<=100000):x6 (.lst (a.map T2)) (.lst (b.map T2))=some (.lst ((a++b).map T2)):=by simp only[x6,bI,h,DY,CS]
structure FunD(K:Frag)(x qual:Str)(st:Stmt)(dV:Value)(f:Addr)(fd:FuncData):Prop where
 ex:∃(oc:Value)(od:Option Addr)(kV doc pm:Value)(an:Option Addr)(cdv ct:Value)(osl:Array (Option Value)),
  fd=PySem.W.fnOf x qual (t7 st) (l7 st) (d7 st) dV kV doc pm an cdv ct/\K.lookup f=some ⟨oc,od,.func fd,osl⟩/\codeIn K cdv qual=true
 kp:keepIn K (.ref f)=true
section
variable {P:Program}{w:World}{K:Frag}{mg:Str->Option Value}{base:Heap}
def FunD.okX{x qual:Str}{st:Stmt}{dV:Value}{f:Addr}{fd:FuncData}{N ps:List Str}{k:Nat}{sp:Sp}{CX:CXT}(F:FunD K x qual st dV f fd)(S:FnScope N ps (d7 st))(len:∀vs H Q E,sp vs H Q E->vs.length=ps.length)
  (bg:∀(cdv:Value)(A:Around)(outer:List Env)(s:Shared)(H:Hp)(vs:List V)(Q:VK)(E:XK),Room k (A.deeper (envOfC qual (d7 st) s.heap.objs.size f cdv))->sp vs H Q E ->
   ∃t,PSs (C9 CX P w K mg base N qual (d7 st) f cdv A outer s H E) (l7 st) t/\t { nx:=fun _ H'=>Q .non H',rt:=Q } (start N vs) H):FnOk P w K mg base CX (k+1) f fd ps sp:=by
 obtain⟨oc,od,kV,doc,pm,an,cdv,ct,osl,rfl,lk,bB⟩:=F.ex
 refine Qc lk bB S len fun A outer s H vs Q E hr dG=>?_
 exact bg cdv A outer s H vs Q E hr dG
def y8f{x qual:Str}{st:Stmt}{dV:Value}{f:Addr}{fd:FuncData}{N ps:List Str}{k n kk:Nat}{fr:Bool}{g:DS->SR}(F:FunD K x qual st dV f fd)(S:FnScope N ps (d7 st))(gX:ps.length=n)(hN:N.length=n+kk)
  (bg:∀(cdv:Value)(A:Around)(outer:List Env)(s:Shared)(H:Hp)(E:XK),Room k (A.deeper (envOfC qual (d7 st) s.heap.objs.size f cdv)) ->
   QB (C9 (CX1 P w) P w K mg base N qual (d7 st) f cdv A outer s H E) ⟨H,xNm K mg E⟩ fr (l7 st) g):FnOk P w K mg base (CX1 P w) (k+1) f fd ps (spD K mg fr (mOf fr n kk g) n):=by
 have ae:∀{vs:List V}{H:Hp}{Q:VK}{E:XK},spD K mg fr (mOf fr n kk g) n vs H Q E->vs.length=n:=fun {vs H Q E} h=>by obtain⟨ds,H0,s,r,hn,_⟩:=h;rw[<-r.length];exact hn
 refine F.okX S (fun vs H Q E h=>by rw[ae h,gX]) (fun cdv A outer s H vs Q E hr h=>⟨_,(bg cdv A outer s H E hr).h,?_⟩)
 have e:start N vs=vs.map some++List.replicate kk none:=by unfold start;rw[ae h,hN,Nat.add_sub_cancel_left]
 rw[e]
 exact Sr h
theorem FunD.binds{x qual:Str}{st:Stmt}{f T:Addr}{fd:FuncData}{ps:List Str}{ds:List Value}{dv:Value}{oc:Value}{od:Option Addr}{n:Nat}{sl:Array (Option Value)}(F:FunD K x qual st (.ref T) f fd)(t:K.lookup T=some ⟨oc,od,.seq #[dv] n,sl⟩)(m:Nat)(hm:m+ds.length=ps.length)
  (h:∀(kV doc pm:Value)(an:Option Addr)(cdv ct:Value)(us:List Value),us.length=m->∃k,bindArgs (PySem.W.fnOf x qual (t7 st) (l7 st) (d7 st) (.ref T) kV doc pm an cdv ct) ⟨us,[]⟩=seqItems? (.ref T) >>= k/\k (some #[dv])=pure (ps.zip (us++ds))):Binds K fd ps ds:=by
 obtain⟨BK,BL,kV,doc,pm,an,cdv,ct,osl,rfl,lk,bB⟩:=F.ex
 intro s us hK hl
 obtain⟨k,e1,e2⟩:=h kV doc pm an cdv ct us (by rw[χ]at hl;lia)
 exact PySem.W.binds_K hK rfl t rfl e1 e2
def xE{x qual:Str}{st:Stmt}{f:Addr}{oc dV:Value}{od an:Option Addr}{osl:Array (Option Value)}{kV doc pm cdv ct:Value}(l:K.lookup f=some ⟨oc,od,.func (PySem.W.fnOf x qual (t7 st) (l7 st) (d7 st) dV kV doc pm an cdv ct),osl⟩)
 (c:codeIn K cdv qual=true) (k:keepIn K (.ref f)=true):FunD K x qual st dV f (PySem.W.fnOf x qual (t7 st) (l7 st) (d7 st) dV kV doc pm an cdv ct):=⟨⟨oc,od,kV,doc,pm,an,cdv,ct,osl,rfl,l,c⟩,k⟩
end
def Z8:D->D->Option D
 | .lst ds,.int k=>match m8 ds with
  |some ns=>if k∈ns/\ns.length<=100000 then some (.int (ns.idxOf k:Int)) else none
  |none=>none
 |_,_=>none
def kJ:V->List V->Hp->VK->Prop:=fun x vs H Q=>∃(l:Addr)(ns:List Int)(k:Int),x=.ref l/\vs=[.int k]/\H l=some (.lst (ns.map V.int))/\k∈ns/\ns.length<=100000/\Q (.int (ns.idxOf k:Int)) H
noncomputable def eqK(k:Int):Value->Bool
 | .int i _=>i==k
 |_=>false
def zr:MtM X "list.index" kJ:=by
 intro pins s σ H x vs v us Q I rx rv h;obtain⟨l,ns,k,rfl,rfl,hH,hk,hn,q⟩:=h;cases rx;obtain⟨u,rfl,ru⟩:=rv.one;obtain⟨t,rfl⟩:=ru;obtain⟨z,its,n,r,hl,e⟩:=I.lstM hH;have hi:=Fc r;have ae:its.length=ns.length:=by rw[<-hl,bI]
 have dL:∀m (hm:m<its.toArray.size),∃t,its.toArray[m]=Value.int (ns.getD m 0) t:=fun m hm=>by
  have hJ:m<ns.length:=by simpa [ae] using hm
  obtain⟨w,hw,bD⟩:=r.get (i:=m) (x:=.int (ns.getD m 0)) (by rw[CJ,pp,oF hJ];rfl);obtain⟨t,rfl⟩:=bD;refine⟨t,?_⟩;have:its[m]?=some its.toArray[m]:=by simp[oF (show m<its.length by omega)]
  rw[hw]at this;exact(Option.some.inj this).symm
 have hj:ns.idxOf k<its.toArray.size:=by simpa [ae] using EG hk
 have ek:ns.getD (ns.idxOf k) 0=k:=by rw[pp,oF (EG hk)];exact List.getElem_idxOf _
 refine call_meets F.slot_list_index ⟨_,e,rfl⟩ F.entry_list_index (F.args_list_index_2 _ _)
  (SeqAt.list_indexAt l its.toArray n none #[] (.int k t) (eqK k) (ns.idxOf k) hj (by have:ns.idxOf k<=ns.length:=List.idxOf_le_length;omega) ?_ ?_) ⟨e,?_,?_⟩
 . obtain⟨t',h'⟩:=dL _ hj;rw[h',ek];simp[eqK]
 . intro m hm av;obtain⟨t',h'⟩:=dL _ hm;rw[h'];simp only[eqK,DX];intro e;have hJ:m<ns.length:=by simpa [ae] using hm
   have:=List.not_of_lt_findIdx (p:=(·==k)) (xs:=ns) av;rw[pp,oF hJ]at e;simp only[DX,ne_eq]at this;exact this (by simpa using e)
 . intro y hy;obtain⟨m,hm,rfl⟩:=Array.mem_iff_getElem.mp hy;obtain⟨t',h'⟩:=dL _ hm;rw[h'];exact SeqAt.EqAt.int_int _ _ _ _
 . exact⟨.int _,H,I.tok _,⟨_,rfl⟩,q⟩
def Bz(fa fb:DE->R D):DE->R D:=fun ρ=>(fa ρ).bind fun x=>match x with
 | .lst ds=>(fb ρ).bind fun y=>R.of (Z8 (.lst ds) y)
 |_=>.st
theorem Xv:∀{ds:List D}{ns:List Int},m8 ds=some ns->ds=ns.map D.int
 | [],ns,h=>by simp only[m8,Option.some.injEq]at h;subst h;rfl
 |d::ds,ns,h=>by
  cases d<;>simp only[m8]at h<;>first | (cases h;done) |skip
  cases hr:m8 ds with
  |none=>rw[hr]at h;cases h
  |some r=>rw[hr]at h;cases h;rw[Xv hr];rfl
section
variable {X:Cx}{EX:XW}{σ:St}{H:Hp}{Q:VK}
def xD{K:Frag}{fa fb:DE->R D}(h:TEd K EX false (Bz fa fb) σ H Q):tBM K "list" kJ (TEd K EX false fa) (C4 (TEd K EX false fb) G4) σ H Q:=by
 obtain⟨sx,ρ,H0,s,e,h⟩:=h;unfold Bz at h;rw[Rk.bind]at h;refine TEd.go sx s e h fun d h v H1 ao s1 e1 r1=>?_
 cases d<;>first | (exact h.elim) |skip
 rename_i ds;simp only at h;obtain⟨a,xs,rfl,ha,rs⟩:=r1.lst;refine⟨.inl ⟨rfl,xs,.of (e1.2.1 _ _ ha)⟩,?_⟩;rw[Rk.bind]at h;refine TEd.go (sx.trans s1) e1.2.1 (e.mono e1.1) h fun d2 h v2 H2 aM s2 e2 r2=>?_
 obtain⟨z,hz,h⟩:=h.of;unfold Z8 at hz;split at hz<;>first | (cases hz;done) |skip
 rename_i k ee;injection ee with ee;subst ee;split at hz<;>first | (cases hz;done) |skip
 rename_i ns dW;split at hz<;>first | (cases hz;done) |skip
 rename_i hc;cases hz;cases r2.int;have ex:xs=ns.map V.int:=V6 dW rs;refine⟨a,ns,_,rfl,rfl,by rw[<-ex];exact s2 _ _ (e1.2.1 _ _ ha),hc.1,hc.2,h _ H2 ?_⟩;exact .val (s1.trans s2) (e1.trans s1 e2) (.mkInt _)
variable {o e:Expr}{aq ag:Pos}{fa fb:DE->R D}
def xC(ho:QE X EX false o fa)(ha:QE X EX false e fb)(aP:attributeBase o "index" X.env (eval o X.env)=eval o X.env:=by rfl)
  (bK:((backTo ag (starEach [e] X.env)).all (fun x=>!x.1)&&(backToKw ag (keywordEach [] X.env)).all (fun x=>x.1.isSome)
   && decide ([e].length+([]:List Keyword).length+(if([]:List Keyword).isEmpty then 0 else 1)<30))=true:=by rfl)
  (aQ:(aq.endLine==ag.line)=true:=by rfl) (hs:starEach [e] X.env=(false,eval e X.env)::starEach [] X.env:=by rfl) (aG:(backTo ag (starEach [] X.env)).any (·.1)=false:=by rfl) :
  QE X EX false (.Call (.Attribute o "index" aq) [e] [] ag) (Bz fa fb):=
 ⟨(Cs CP PySem.F.slot_list_index PySem.F.type_list_index zr ho.h (J7 ha.h pa_nil hs) aP bK aQ hs aG).imp fun _ _ _ q=>xD q⟩
end
theorem Uj:∀{xs:List V}{us:List Value},xs.length=us.length->(∀(i:Nat) x u,xs[i]?=some x->us[i]?=some u->RelV x u)->Vals xs us
 | [],[],_,_=>.nil
 | [],_::_,h,_=>by simp at h
 |_::_,[],h,_=>by simp at h
 |x::xs,u::us,h,k=>.cons (k 0 x u rfl rfl) (Uj (by simpa using h) fun i y v a b=>k (i+1) y v (by simpa using a) (by simpa using b))
def y52(h:k∈ns)(hl:ns.length<=100000):Z8 (L ns) (.int k)=some (.int (ns.idxOf k:Int)):=by simp only[L,Z8,W0,h,hl,and_self,DY]
noncomputable def hid(as:List Addr)(H:Hp):Hp:=fun b=>if b∈as then none else H b
def y0n(h:a∈as):hid as H a=none:=ζ h
def Dy(h:a∉as):hid as H a=H a:=ξ h
def Dx{α:Type}{l:List α}{i j:Nat}{x y:α}(h:(l.set i x)[j]?=some y):(i=j/\x=y)\/(i≠j/\l[j]?=some y):=by
 by_cases e:i=j
 . subst e;by_cases hl:i<l.length
   . rw[ET hl]at h;exact .inl ⟨rfl,Option.some.inj h⟩
   . rw[EN (by rw[DU];lia)]at h;cases h
 . rw[EO e]at h;exact .inr ⟨e,h⟩
mutual
noncomputable def nkD:D->Option NK
 | .int n=>some (.i n)
 | .tup ds=>(F8 ds).map .t
 |_=>none
noncomputable def F8:List D->Option (List NK)
 | []=>some []
 |d::ds=>match nkD d,F8 ds with
  |some k,some ks=>some (k::ks)
  |_,_=>none
end
mutual
theorem Z7{K:Frag}{H:Hp}:∀{d:D}{k:NK}{x:V},nkD d=some k->RD K H d x->NKr H k x
 | .int n,k,x,e,r=>by simp only[nkD,Option.some.injEq]at e;subst e;cases r.int;simp only[NKr]
 | .tup ds,k,x,e,r=>by simp only[nkD,FJ]at e;obtain⟨ks,e,rfl⟩:=e;obtain⟨a,xs,rfl,ha,ra⟩:=r.tup;simp only[NKr];exact⟨a,xs,rfl,ha,Ui e ra⟩
 | .non,_,_,e,_=>by simp[nkD]at e
 | .bl _,_,_,e,_=>by simp[nkD]at e
 | .str _,_,_,e,_=>by simp[nkD]at e
 | .lst _,_,_,e,_=>by simp[nkD]at e
 | .dk _ _,_,_,e,_=>by simp[nkD]at e
 | .dt _ _,_,_,e,_=>by simp[nkD]at e
 | .dn _ _,_,_,e,_=>by simp[nkD]at e
 | .scr _,_,_,e,_=>by simp[nkD]at e
 | .exc _ _,_,_,e,_=>by simp[nkD]at e
 | .obj _ _,_,_,e,_=>by simp[nkD]at e
 | .dp _ _,_,_,e,_=>by simp[nkD]at e
theorem Ui{K:Frag}{H:Hp}:∀{ds:List D}{ks:List NK}{xs:List V},F8 ds=some ks->RDs K H ds xs->NKrs H ks xs
 | [],ks,xs,e,r=>by simp only[F8,Option.some.injEq]at e;subst e;simp only[RDs]at r;subst r;simp only[NKrs]
 |d::ds,ks,xs,e,r=>by
  simp only[RDs]at r;obtain⟨x,r,rfl,r1,r2⟩:=r;simp only[F8]at e;split at e
  . rename_i k BM e1 e2;cases e;simp only[NKrs];exact⟨x,_,rfl,Z7 e1 r1,Ui e2 r2⟩
  . cases e
end
noncomputable def putQ(qs:List (NK×Addr))(k:NK)(b:Addr):List (NK×Addr):=if k∈qs.map (·.1) then qs else qs++[(k,b)]
def z3(qs:List (NK×Addr))(vs:List Value):List (NK×Addr×Value):=(qs.zip vs).map fun q=>(q.1.1,q.1.2,q.2)
theorem Dg:∀(qs:List (NK×Addr))(vs:List Value),qs.length=vs.length->(z3 qs vs).map (·.1)=qs.map (·.1)
 | [],_,_=>rfl
 |q::qs,[],h=>by simp at h
 |q::qs,v::vs,h=>by have:=Dg qs vs (by simpa using h);simp only[z3,CI,gD]at this⊢;rw[this]
def y0o(qs:List (NK×Addr))(vs:List Value)(h:qs.length=vs.length):(z3 qs vs).length=qs.length:=by simp only[z3,bI,DK];lia
def Uh(xs:List (NK×Addr×α))(k:NK):((xs.find? fun x=>decide (x.1=k)).map (·.2)).isSome=decide (k∈xs.map (·.1)):=by
 rw[Option.isSome_map,FB,List.find?_isSome,ng,CF];constructor
 . rintro⟨x,hx,e⟩;exact⟨x,hx,by simpa using e⟩
 . rintro⟨x,hx,e⟩;exact⟨x,hx,by simpa using e⟩
def y0p(qs:List (NK×Addr))(vs:List Value)(h:qs.length=vs.length)(k:NK)(b:Addr)(u:Value):storedH (z3 qs vs) k b u=z3 (putQ qs k b) (B6 (qs.map (·.1)) vs k u)/\(putQ qs k b).length=(B6 (qs.map (·.1)) vs k u).length:=by
 unfold storedH putQ B6;have e:=Uh (z3 qs vs) k;rw[Dg qs vs h]at e;rw[show(atKey (z3 qs vs) k).isSome=decide (k∈qs.map (·.1)) from e];by_cases hk:k∈qs.map (·.1)
 . rw[ζ (decide_eq_true hk),ζ hk,ζ hk];have go:∀(qs:List (NK×Addr))(vs:List Value),qs.length=vs.length->(z3 qs vs).map (putAt k u)=z3 qs (List.zipWith (fun k' d'=>if k'=k then u else d') (qs.map (·.1)) vs)/\qs.length=(List.zipWith (fun k' d'=>if k'=k then u else d') (qs.map (·.1)) vs).length:=by
    intro qs;induction qs with
    |nil=>intro vs _;exact⟨rfl,rfl⟩
    |cons q qs ih=>
     intro vs h
     cases vs with
     |nil=>simp at h
     |cons v vs=>
      obtain⟨i1,i2⟩:=ih vs (by simpa using h)
      simp only[z3,CI,gD,List.zipWith_cons_cons,io]at i1 i2⊢
      refine⟨?_,by lia⟩
      rw[i1]
      congr 1
      unfold putAt
      by_cases z:q.1=k
      . simp only[ζ z]
      . simp only[ξ z]
   exact go qs vs h
 . rw[ξ (by simpa using hk),ξ hk,ξ hk];refine⟨?_,by simp;lia⟩;unfold z3;rw[List.zip_append h,CS];rfl
section
variable {X:Cx}{pins:List (Addr×Obj)}{σ:St}{H:Hp}{s:Shared}
def zlt{ks:List NK}{k:NK}{v:V}{u:Value}(ru:RelV v u){xs:List V}{vs:List Value}(r:Vals xs vs):Vals (B6 ks xs k v) (B6 ks vs k u):=by
 unfold B6;split
 . have go:∀(ks:List NK)(xs:List V)(vs:List Value),Vals xs vs->Vals (List.zipWith (fun k' d'=>if k'=k then v else d') ks xs) (List.zipWith (fun k' d'=>if k'=k then u else d') ks vs):=by
    intro ks
    induction ks with
    |nil=>intro xs vs _;exact .nil
    |cons k' ks ih=>
     intro xs vs r
     cases r with
     |nil=>exact .nil
     |cons a1 a2=>
      simp only[List.zipWith_cons_cons]
      refine .cons ?_ (ih _ _ a2)
      split
      . exact ru
      . exact a1
   exact go ks xs vs r
 . exact r.append (.cons ru .nil)
def Dw(I:Inv X pins σ H s)(e:H a=some (.ext (dnP a qs xs ob)))(n:DN H a qs):s.heap.get? a=some ob/\∃vs,Vals xs vs/\qs.length=vs.length/\Heap.DictOfH (deepKind X.prog X.w) s.heap a (z3 qs vs):=by obtain⟨p,_,_⟩:=(show ObjOk X.prog X.w H s.heap a (.ext (dnP a qs xs ob)) from I.hok a _ e);obtain⟨p3,vs,es,ep,p1,p2,p4,p5,p6⟩:=p;refine⟨p3,vs,p1,p2,ob,es,ep,p3,p4,p5,p6,fun x hx=>?_,by rw[Dg qs vs p2];exact n.1⟩;obtain⟨q,hq,rfl⟩:=CF.mp hx;have eM:=(List.of_mem_zip hq).1;exact⟨S8 I (n.2.1 _ eM).1 rfl,(n.2.1 _ eM).2⟩
end
def vf:R6:=fun o i v H Q=>∃(a:Addr)(qs:List (NK×Addr))(xs:List V)(k:NK)(b:Addr)(ob:Obj),o=.ref a/\i=.ref b/\H a=some (.ext (dnP a qs xs ob))/\DN H a qs/\NKr H k (.ref b)/\k.dep<=8/\qs.length<sizeLine/\∀ez,Q (upd H a (.ext (dnP a (putQ qs k b) (B6 (qs.map (·.1)) xs k v) ez)))
def y53(hu:X.A.units+64<cLine):Gg X vf:=by
 intro pins s σ H o i v ov iv u Q I ro ri rv h;obtain⟨a,qs,xs,k,b,ob,rfl,rfl,e,n,hk,hd,hl,q⟩:=h;cases ro;cases ri;obtain⟨_,vs,p1,p2,dd⟩:=Dw I e n;have hz:(z3 qs vs).length<=sizeLine:=by rw[y0o qs vs p2];lia
 refine wpAny_setItem_heap (knd:=deepKind X.prog X.w) (hsz:=hz) (by show X.A.units+1+8<cLine;lia) ⟨S8 I hk rfl,hd⟩ dd fun h' iN hs=>?_
 obtain⟨e1,e2⟩:=y0p qs vs p2 k b u;rw[e1]at iN;obtain⟨o',es,ep,d1,d2,d3,d4,_⟩:=iN;refine⟨_,?_,q o'⟩;exact Vj I (by rw[e];exact True.intro) hs ⟨o',d1⟩ ⟨⟨d1,_,es,ep,zlt rv p1,e2,d2,d3,d4⟩,⟨o',d1⟩,dnP.stay⟩
def dSetN:D->D->D->Option D
 | .dn ks ds,.tup es,v=>match nkD (.tup es) with
  |some k=>if ks.length<100000/\k.dep<=8 then some (.dn (Ha ks k) (B6 ks ds k v)) else none
  |none=>none
 |_,_,_=>none
def xB{K:Frag}:kT K dSetN vf:=by
 intro H0 H a d d' dk dv y v Q s h0 ob rk rv hm k;cases d<;>simp only[dSetN]at hm<;>first |cases hm |skip
 cases dk<;>simp only[dSetN]at hm<;>first |cases hm |skip
 rename_i ks ds es;split at hm
 . rename_i kk dH;split at hm
   . rename_i hl;cases hm;simp only[OB]at ob;obtain⟨qs,xs,tD,hx,hk,n,rx⟩:=ob;have tF:=rk;obtain⟨b,ys,rfl,hb,rb⟩:=rk.tup;have nk:=Z7 dH tF;have ae:qs.length=ks.length:=by rw[<-hk,bI]
     have mono:∀a ys,H0 a=some (.tup ys)->H a=some (.tup ys):=fun c ys q=>s _ _ q
     refine⟨a,qs,xs,kk,b,tD,rfl,rfl,hx,n.tk mono,NKr.mono mono nk,hl.2,by rw[ae];exact Ez hl.1,fun ez=>k _ ?_⟩;simp only[OB];refine⟨_,_,ez,k7,?_,?_,by rw[hk];exact xW kk rv rx⟩
     . unfold putQ Ha;rw[hk];split
       . exact hk
       . rw[CS,hk];rfl
     . obtain⟨n1,n2,n3,n4⟩:=n;unfold putQ;split
       . exact⟨n1,n2,n3,n4⟩
       . rename_i hn;refine⟨?_,fun q hq=>?_,n3,?_⟩
         . rw[CS,gD,CM];exact HH.mpr ⟨n1,by simp,fun x hx y hy e=>hn (by rw[gV.mp hy]at e;have e':x=kk:=e;rw[<-e'];exact hx)⟩
         . rcases CN.mp hq with z |z
           . exact n2 q z
           . rw[gV.mp z];exact⟨nk,hl.2⟩
         . have:=Ez hl.1;rw[χ,CZ];lia
   . cases hm
 . cases hm
section
open PySem.SeqAt
open PySem.AutoSeq1 (wpAny_loadPart')
open PySem.MeetsSeq PySem.MeetsSeq2 PySem.MeetsSeq3
end
noncomputable def TuI(ns:List Int):D:=.tup (ns.map .int)
theorem La:∀ns:List Int,ois (ns.map D.int)=true/\j0 (ns.map D.int)=0
 | []=>by simp[ois,j0]
 |n::ns=>by have:=La ns;simp only[gD,ois,j0,D.oi,D.dep,this.1,this.2,DV,Nat.max_self,and_self]
def y0r(ns:List Int):(TuI ns).oi=true:=by simp only[TuI,D.oi];exact(La ns).1
theorem Xu:∀a b:List Int,∃r,m4 (a.map D.int) (b.map D.int)=some r
 | [],[]=>⟨_,rfl⟩
 | [],_::_=>⟨_,rfl⟩
 |_::_,[]=>⟨_,rfl⟩
 |x::a,y::b=>by
  simp only[gD,m4];split
  . exact Xu a b
  . exact⟨_,rfl⟩
end L2
namespace L2
open PySem PySem.Spec PyProof.Rows
section
open PySem.SeqAt
open PySem.AutoSeq1 (wpAny_loadPart')
end
end L2
namespace L2
open PySem PySem.Spec PyProof.Rows
section
open PySem.SeqAt
open PySem.AutoSeq1 (wpAny_loadPart')
end
end L2
namespace L2
open PySem PySem.Spec PyProof.Rows
section
open PySem.SeqAt
open PySem.AutoSeq1 (wpAny_loadPart')
end
end L2
namespace L2
open PySem PySem.Spec PyProof.Rows
section
open PySem.SeqAt
open PySem.AutoSeq1 (wpAny_loadPart')
end
section
open PySem.SeqAt
open PySem.AutoSeq1 (wpAny_loadPart')
end
end L2
namespace L2
open PySem PySem.Spec PyProof.Rows
section
open PySem.SeqAt
open PySem.AutoSeq1 (wpAny_loadPart')
end
end L2
namespace L2
open PySem PySem.Spec PyProof.Rows
noncomputable def valN{α:Type}(ks:List NK)(xs:List α)(k:NK):Option α:=((ks.zip xs).find? fun p=>decide (p.1=k)).map (·.2)
section
open HT
open PySem.SeqAt
open PySem.AutoSeq1 (wpAny_loadPart')
open PySem.MeetsSeq PySem.MeetsSeq2 PySem.MeetsSeq3
end
end L2
namespace L2
open PySem PySem.Spec PyProof.Rows
end L2
set_option maxHeartbeats 1000000
namespace L2
open PySem PySem.Spec PyProof.Rows
def RD.obj{K:Frag}{H:Hp}{c:String}{fs:List D}{v:V}(r:RD K H (.obj c fs) v):∃a C dx vs,v=.ref a/\nsIn K mainGlobals (Str.ofString c)=some (some (.ref C))/\H a=some (.ins C dx ((n6 c).zip vs))/\vs.length=(n6 c).length/\(i5 fs=true/\pls fs=true)/\RDs K H fs vs:=by simp only[RD]at r;exact r
theorem Sa{ns:List Str}{f:Str}:∀{ns:List Str}{vs:List V},f∉ns->(ns.zip vs).lookup f=none
 | [],_,_=>by simp
 |_::_,[],_=>by simp
 |n::ns,v::vs,h=>by simp only[eH,not_or]at h;simp only[CI,List.lookup,DX.mpr h.1];exact Sa (ns:=ns) h.2
def Df(X:Cx)(m:Str)(E:XK)(j:Nat)(ta:TE)(t:TA):TE:=fun σ H Q=>ta σ H fun x H1=>∃a C dx fs f fd ps k sp,x=.ref a/\H1 a=some (.ins C dx fs)/\fs.lookup m=none/\Cls X.K C/\Meth X.K C m f/\FnOk X.prog X.w X.K X.mg X.base (CX1 X.prog X.w) k f fd ps sp/\k<=j/\Binds X.K fd ps []/\t σ H1 fun vs H2=>sp (x::vs) H2 Q E
section
variable {X:Cx}{j:Nat}{E:XK}{m:Str}{aq pos:Pos}{e o:Expr}{es:List Expr}{ta:TE}{t:TA}
def zq{pl:Sem Bool}(he:PE X o ta)(hr:Room j X.A)(hx:L9 (CX1 X.prog X.w) X E)(ha:PA X (e::es) t)
  (aU:starEach (e::es) X.env=(false,eval e X.env)::starEach es X.env:=by rfl) (hpl:(backTo pos (starEach es X.env)).any (·.1)=false:=by rfl)
  (ht:eval (.Call (.Attribute o m aq) (e::es) [] pos) X.env=(do
   let ov <-eval o X.env
   standAt aq.atName
   let (f,first) <-holding [ov] (getMethod ov m pl)
   callWith pos f first (backTo pos (starEach (e::es) X.env)) (backToKw pos (keywordEach [] X.env))):=by rfl) :
  PE X (.Call (.Attribute o m aq) (e::es) [] pos) (Df X m E j ta t):=by
 intro pins s σ H Q I h
 refine PySem.W.methodCall_KW (pl:=pl) (thn (he pins s σ H _ I h) fun u s1 ⟨x,H1,I1,rx,a,C,dx,fs,f,fd,ps,k,sp,ex,ea,l,c,hm,F,hk,hb,q⟩=>?_) ht
 subst ex
 obtain rfl:u=Value.ref a:=rx
 refine Zt I1 ea c hm l ?_
 refine PySem.W.callWith_K (first:=[.ref a]) (h₀:=X.base) I.ok.mod.kin hm.kp (thn (ha pos pins s1 σ H1 _ I1 q) fun us s2 ⟨vs,H2,I2,r,q2⟩=>⟨I2.kIn,?_⟩) aU hpl
 exact Jo (us:=.ref a::us) (vs:=.ref a::vs) (dvs:=[]) (ds:=[]) F (hr.mono hk) hb .nil hx I2 (.cons rfl r) (by simpa only [CT] using q2)
end
structure Mths(P:Program)(w:World)(K:Frag)(mg:Str->Option Value)(base:Heap)(m:Str)(j n:Nat)(tb:String->Option (List D->R D)):Prop where
 h:∀c g,tb c=some g->∃C f fd ps k,nsIn K mainGlobals (Str.ofString c)=some (some (.ref C))/\Cls K C/\Meth K C m f/\FnOk P w K mg base (CX1 P w) k f fd ps (spD K mg false g n)/\k<=j/\Binds K fd ps []/\m∉n6 c/\∀ds,ds.length≠n->g ds=.st
def D6(tb:String->Option (List D->R D))(fo:DE->R D)(fs:DE->R (List D)):DE->R D:=fun ρ=>(fo ρ).bind fun d=>match d with
 | .obj c zs=>(match tb c with |some g=>(fs ρ).bind fun ds=>g (.obj c zs::ds) |none=>.st)
 |_=>.st
section
variable {X:Cx}{EX:XW}{j n:Nat}{E:XK}{m:Str}{aq pos p:Pos}{e o:Expr}{es:List Expr}{tb:String->Option (List D->R D)}{fo:DE->R D}{fs:DE->R (List D)}
theorem Rz{σ:St}{H:Hp}{Q:VK}(M:Mths X.prog X.w X.K X.mg X.base m j n tb)(hE:∀x H,EX.p x H->xNm X.K X.mg E x H)(h:TEd X.K EX false (D6 tb fo fs) σ H Q):Df X m E j (TEd X.K EX false fo) (TAd X.K EX fs) σ H Q:=by
 obtain⟨sx,ρ,H0,s,e,h⟩:=h;unfold D6 at h;rw[Rk.bind]at h;refine TEd.go sx s e h fun d h v H1 ao s1 e1 r1=>?_
 cases d<;>first | (exact h.elim) |skip
 rename_i c zs;simp only at h;cases q:tb c with
 |none=>rw[q]at h;exact h.elim
 |some g=>
  obtain⟨C,f,fd,ps,k,h1,h2,h3,h4,h5,h6,h7,h8⟩:=M.h c g q
  obtain⟨a,C',dx,vs,rfl,n1,n2,n3,n4,n5⟩:=r1.obj
  rw[h1]at n1;cases n1
  refine⟨a,C,dx,_,f,fd,ps,k,_,rfl,e1.2.1 _ _ n2,Sa (ns:=[]) h7,h2,h3,h4,h5,h6,?_⟩
  rw[q]at h
  simp only at h
  rw[Rk.bind]at h
  refine TAd.go (sx.trans s1) e1.2.1 (e.mono e1.1) h fun ds h us H2 aM s2 e2 r2=>?_
  refine⟨.obj c zs::ds,aM,e2.2.1,?_,?_,?_⟩
  . simp only[RDs];exact⟨_,_,rfl,r1.mono e2.1,r2⟩
  . apply CB;intro hn;rw[h8 _ hn]at h;exact h
  . cases q':g (.obj c zs::ds) with
    |ok d=>rw[q']at h;exact fun v H' o=>h v H' (o.after (s1.trans s2) (e1.trans s1 e2))
    |er x=>rw[q']at h;exact fun H' s'=>hE x H' (h H' (((sx.trans s1).trans s2).trans s'))
    |st=>rw[q']at h;exact h
def Jf{pl:Sem Bool}{j2:Nat}(L:Lnd X EX)(M:Mths X.prog X.w X.K X.mg X.base m j n tb)(hr:Room j2 X.A)(ho:QE X EX false o fo)(ha:QA X EX (e::es) fs)(hj:j<=j2:=by omega)
 (aU:starEach (e::es) X.env=(false,eval e X.env)::starEach es X.env:=by rfl) (hpl:(backTo pos (starEach es X.env)).any (·.1)=false:=by rfl)
 (ht:eval (.Call (.Attribute o m aq) (e::es) [] pos) X.env=(do
  let ov <-eval o X.env
  standAt aq.atName
  let (f,first) <-holding [ov] (getMethod ov m pl)
  callWith pos f first (backTo pos (starEach (e::es) X.env)) (backToKw pos (keywordEach [] X.env))):=by rfl) :
 QE X EX false (.Call (.Attribute o m aq) (e::es) [] pos) (D6 tb fo fs):=⟨(zq (pl:=pl) ho.h (hr.mono hj) L.on ha.h aU hpl ht).imp fun _ _ _ q=>Rz M (fun x H z=>by obtain⟨C,hC⟩:=L.nm x H z;exact⟨C,hC,fun od xf=>⟨x,z,hC,xf⟩⟩) q⟩
end
structure Flds(K:Frag)(f:Str)(cs:List String):Prop where
 h:∀c∈cs,∃C,nsIn K mainGlobals (Str.ofString c)=some (some (.ref C))/\Cls K C/\NoAttr K C f
def K9(f:Str)(cs:List String):D->Option D
 | .obj c fs=>if c∈cs then((n6 c).zip fs).lookup f else none
 |_=>none
section
variable {X:Cx}{EX:XW}{e:Expr}{f:Str}{pos:Pos}{fd:DE->R D}{cs:List String}
theorem y0s{K:Frag}{σ:St}{H:Hp}{Q:VK}(Z:Flds K f cs)(h:TEd K EX false (eUn (K9 f cs) fd) σ H Q):qw K (TEd K EX false fd) f σ H Q:=by
 obtain⟨sx,ρ,H0,s,e,h⟩:=h;unfold eUn at h;rw[Rk.bind]at h;refine TEd.go sx s e h fun d h v H1 ao s1 e1 r1=>?_
 obtain⟨z,hz,hk⟩:=h.of;unfold K9 at hz;split at hz
 . rename_i c fs;split at hz
   . rename_i hc;obtain⟨a,C,dx,vs,rfl,n1,n2,n3,n4,n5⟩:=r1.obj;obtain⟨C',z1,z2,z3⟩:=Z.h c hc;rw[n1]at z1;cases z1;obtain⟨_,_,y,ly,ry⟩:=Wo n5 hz;exact⟨a,C,dx,_,y,rfl,e1.2.1 _ _ n2,z2,z3,ly,hk y H1 (.val s1 e1 ry)⟩
   . cases hz
 . cases hz
def Je(ha:QE X EX false e fd)(Z:Flds X.K f cs)(hb:attributeBase e f X.env (eval e X.env)=eval e X.env:=by rfl) :
 QE X EX false (.Attribute e f pos) (eUn (K9 f cs) fd):=⟨(we ha.h hb).imp fun _ _ _ q=>y0s Z q⟩
end
def Fs(C:Addr)(fn:List Str):Sp:=fun vs H Q _=>∃x dx ys,vs=.ref x::ys/\ys.length=fn.length/\H x=some (.ins C dx [])/\Q .non (upd H x (.ins C dx (fn.zip ys)))
def zp{P:Program}{w:World}{K:Frag}{mg:Str->Option Value}{base:Heap}{qual:Str}{st:Stmt}{fI C:Addr}{fd:FuncData}{se p f:Str}{p1 p2 p3 p4:Pos}{k:Nat}(F:Fun K "__init__" qual st fI fd)(S:FnScope [se,p] [se,p] (d7 st))(Z:Cls K C)(N:NoAttr K C f)
  (hb:l7 st=[.Assign [.Attribute (.Name se p1) f p2] (.Name p p3) p4]) (h1:Vis (d7 st) se) (h2:Vis (d7 st) p)
  (d1:(se==("__debug__":Str))=false:=by decide) (d2:(se==("__classdict__":Str))=false:=by decide) (d3:(p==("__debug__":Str))=false:=by decide) (d4:(p==("__classdict__":Str))=false:=by decide)
  (hs:∀env:Env,swapsWith (.Name p p3) (some (.Attribute (.Name se p1) f p2)) p4.line env=pure false:=by intro _;rfl):FnOk P w K mg base (CX1 P w) (k+1) fI fd [se,p] (Fs C [f]):=by
 refine Fun.okX F S (fun vs H Q E ⟨e,dx,ys,h,hl,_⟩=>by rw[h,io,hl];rfl) fun cdv A outer s H vs Q E hr ⟨e,dx,ys,hv,hl,he,hq⟩=>?_
 subst hv
 match ys,hl with
 | [y],_=>
  rw[hb]
  refine⟨_,Eu (wa (Dr (i:=0) rfl h1 d1 d2) (Dr (i:=1) rfl h2 d3 d4) (hs _)) pss_nil,?_⟩
  exact⟨_,rfl,_,rfl,e,C,dx,[],rfl,he,Z,N,by decide,hq⟩
structure MkO(P:Program)(w:World)(K:Frag)(mg:Str->Option Value)(base:Heap)(c:String)(C:Addr)(fn:List Str)(k:Nat):Prop where
 nm:nsIn K mainGlobals (Str.ofString c)=some (some (.ref C))
 fs:n6 c=fn
 h:∃fI fd ps,Mk K C fI/\FnOk P w K mg base (CX1 P w) k fI fd ps (Fs C fn)/\Binds K fd ps []
def G6(c:String)(fs:DE->R (List D)):DE->R D:=fun ρ=>(fs ρ).bind fun ds=>if ds.length=(n6 c).length/\i5 ds=true/\pls ds=true then .ok (.obj c ds) else .st
def xA{K:Frag}{H0 H:Hp}{c:String}{C x dx:Addr}{ds:List D}{vs:List V}(s:Same H0 H)(hx:H x=none)(hd:H dx=none)(ah:dx≠x)(hn:nsIn K mainGlobals (Str.ofString c)=some (some (.ref C)))(hl:vs.length=(n6 c).length)(hp:i5 ds=true/\pls ds=true)(r:RDs K H0 ds vs) :
  Out K false H0 H (.obj c ds) (.ref x) (upd (upd H dx (.own x)) x (.ins C dx ((n6 c).zip vs))):=by
 have e1:Ext H0 H (upd H0 dx (.own x)) (upd H dx (.own x)):=.new s hd
 have iO:upd H dx (.own x) x=none:=by rw[i6 (FP ah)];exact hx
 have e2:Ext (upd H0 dx (.own x)) (upd H dx (.own x)) (upd (upd H0 dx (.own x)) x (.ins C dx ((n6 c).zip vs))) (upd (upd H dx (.own x)) x (.ins C dx ((n6 c).zip vs))):=.new e1.2.1 iO
 have s1:Same H (upd H dx (.own x)):=Same.upd_new hd
 refine .val (s1.trans (Same.upd_new iO)) (e1.trans s1 e2) ?_
 simp only[RD]
 exact⟨x,C,dx,vs,rfl,hn,k7,hl,hp,r.mono (e1.1.trans e2.1)⟩
section
variable {X:Cx}{EX:XW}{e:Expr}{es:List Expr}{pos p:Pos}{c:String}{C:Addr}{fn:List Str}{k j:Nat}{fs:DE->R (List D)}{E:XK}
theorem y0t{σ:St}{H:Hp}{Q:VK}(M:MkO X.prog X.w X.K X.mg X.base c C fn k)(h:TEd X.K EX false (G6 c fs) σ H Q):Qd C (Fs C fn) [] E (TAd X.K EX fs) σ H Q:=by
 obtain⟨sx,ρ,H0,s,e,h⟩:=h;unfold G6 at h;rw[Rk.bind]at h;refine TAd.go sx s e h fun ds h vs H1 ao s1 e1 r1=>?_
 split at h
 . rename_i hc;intro x dx hx hd ah;have hl:vs.length=(n6 c).length:=by rw[Uk r1];exact hc.1
   have eO:=M.fs;refine⟨x,dx,vs,by rw[CT],by rw[<-eO];exact hl,k7,rfl,?_⟩;have:=h (.ref x) _ ((xA e1.2.1 hx hd ah M.nm hl hc.2 r1).after s1 e1);rw[show upd (upd (upd H1 dx (.own x)) x (.ins C dx [])) x (.ins C dx (fn.zip vs))=upd (upd H1 dx (.own x)) x (.ins C dx ((n6 c).zip vs)) by
    funext b;rw[eO];by_cases hb:b=x
    . subst hb;rw[k7,k7]
    . rw[i6 hb,i6 hb,i6 hb]]
   exact this
 . exact h.elim
theorem Jd(L:Lnd X EX)(M:MkO X.prog X.w X.K X.mg X.base c C fn k)(hr:Room j X.A)(hg:Gl X (c:Str))(hm:X.mg (c:Str)=some (.ref C))(ha:QA X EX (e::es) fs)(fB:k+1<=j:=by omega)(aW:((c:Str)==("__debug__":Str))=false:=by decide)
  (he:starEach (e::es) X.env=(false,eval e X.env)::starEach es X.env:=by rfl) (hpl:(backTo pos (starEach es X.env)).any (·.1)=false:=by rfl) :
  QE X EX false (.Call (.Name (c:Str) p) (e::es) [] pos) (G6 c fs):=by
 obtain⟨fI,fd,ps,K,F,B⟩:=M.h
 exact⟨(yw (E:=eOf X.K EX X.mg) K F (hr.mono fB) hg hm B .nil L.on ha.h aW he hpl).imp fun _ _ _ q=>y0t M q⟩
end
structure FnAt(K:Frag)(x:Str)(st:Stmt)(f:Addr):Prop where
 ns:nsIn K mainGlobals x=some (some (.ref f))
 fn:∃fd,Fun K x x st f fd
section
variable {P:Program}{w:World}{K:Frag}{mg:Str->Option Value}{base h:Heap}{x:Str}{st:Stmt}{f:Addr}{ps:List Str}{k:Nat}{sp:Sp}
def fat{oc:Value}{od an:Option Addr}{osl:Array (Option Value)}{kV doc pm cdv ct:Value}(a:nsIn K mainGlobals x=some (some (.ref f)))(l:K.lookup f=some ⟨oc,od,.func (PySem.W.fnOf x x (t7 st) (l7 st) (d7 st) .none kV doc pm an cdv ct),osl⟩)
 (c:codeIn K cdv x=true) (k:keepIn K (.ref f)=true):FnAt K x st f:=⟨a,_,Ta l c k⟩
def BP:List Str->(List Value->Prop)->Prop
 | [],P=>P []
 |_::r,P=>∀u,BP r fun us=>P (u::us)
def BP.all(h:BP ps Q)(us:List Value)(hl:us.length=ps.length):Q us:=by
 induction ps generalizing Q us with
 |nil=>rw[List.eq_nil_of_length_eq_zero hl];exact h
 |cons p r ih=>
  cases us with
  |nil=>cases hl
  |cons u us=>exact ih (h u) us (Nat.succ.inj hl)
def got(X:K.In h)(G:h.Ns mainGlobals mg)(A:FnAt K x st f)(ok:∀{fd},Fun K x x st f fd->FnOk P w K mg base (CX1 P w) k f fd ps sp)
  (hb:∀(kV doc pm:Value)(an:Option Addr)(cdv ct:Value),BP ps fun us=>bindArgs (PySem.W.fnOf x x (t7 st) (l7 st) (d7 st) .none kV doc pm an cdv ct) ⟨us,[]⟩=pure (ps.zip us):=by (repeat intro _);exact rfl):i7 P w K mg base x ps k sp:=by
 obtain⟨fd,F⟩:=A.fn
 exact⟨f,fd,ok F,F.binds fun kV doc pm an cdv ct=>(hb kV doc pm an cdv ct).all,PySem.W.mg_of X G A.ns,F.kp⟩
def y0u(X:K.In h)(G:h.Ns mainGlobals mg)(mQ:mg x=some (.ref fa))(A:FnAt K x st f)(hb:∀(s:Shared)(v kV doc pm:Value)(an:Option Addr)(cdv ct:Value),BindsTo s (PySem.W.fnOf x x (t7 st) (l7 st) (d7 st) .none kV doc pm an cdv ct) ⟨[v],[]⟩ [(z,v)])
  (ok:∀base:Heap,K.In base->base.Ns mainGlobals mg->∀{fd},Fun K x x st f fd->FnOk P w K mg base (CX1 P w) k f fd ps sp) :
  ∃fd:FuncData,(∀(s:Shared)(v:Value),BindsTo s fd ⟨[v],[]⟩ [(z,v)])/\∀base:Heap,K.In base->base.Ns mainGlobals mg->FnOk P w K mg base (CX1 P w) k fa fd ps sp:=by
 have e:=mQ.symm.trans (PySem.W.mg_of X G A.ns)
 cases e
 obtain⟨fd,F⟩:=A.fn
 have F':=F
 obtain⟨oc,od,kV,doc,pm,an,cdv,ct,osl,rfl,lk,bB⟩:=F'.ex
 exact⟨_,fun s v=>hb s v _ _ _ _ _ _,fun base kb nb=>ok base kb nb F⟩
def fsc(a:sc.kind=.function:=by rfl)(b:sc.isCoroutine=false:=by rfl)(c:sc.isGenerator=false:=by rfl)(d:N.Nodup:=by decide +kernel)(e:N.take ps.length=ps:=by rfl)
 (f:∀x∈ps,sc.names.lookup x=some .local\/sc.names.lookup x=some .cell:=by decide +kernel) (g:∀y∈sc.names,y.2≠.free:=by decide +kernel):FnScope N ps sc:=⟨a,b,c,d,e,f,g⟩
end
section
variable {X:Cx}{EX:XW}{fr cz:Bool}{a b e:Expr}{f g:DE->R D}{pos p:Pos}{m:List Bool}{j:Nat}
def qI(hr:Room j X.A)(ha:QE X EX false a f)(hb:QE X EX false b g)(hs:Kk b:=by exact fun _ _=>rfl):QE X EX false (.Subscript a b pos) (eOp dIx f g):=Op (y85 hr.units) y49 ha hb hs
def qL(hm:X.mg "len"=none)(ha:QE X EX false e f)(hg:Gl X "len":=by rfl)(he:starEach [e] X.env=(false,eval e X.env)::starEach [] X.env:=by rfl)(hpl:(backTo pos (starEach [] X.env)).any (·.1)=false:=by rfl) :
 QE X EX false (.Call (.Name "len" p) [e] [] pos) (eCB k9 (a8 f b7)):=w8 vw vv hg hm PySem.boot_len (a9 ha c7 he) (he:=he) (hpl:=hpl)
def sA(i:Nat)(hN:X.N.Nodup)(he:QE X EX cz e f)(hi:X.N[i]?=some x:=by rfl)(hx:Loc X.env.scope x:=by first |exact .inl rfl |exact .inr rfl)(hs:swapsWith e (some (.Name x aF)) pos.line X.env=pure false:=by rfl)(hf:X.fn x=true\/X.env.scope.names.lookup x=some .local:=by exact .inl rfl) :
 QS X EX fr (.Assign [.Name x aF] e pos) (e7 cz i m f):=y4e hN hi hx he hs hf
def tE(hr:Room j X.A)(ha:QE X EX false a f)(hb:QE X EX false b g)(hm:behindInMarks .Eq b=false):QT X EX (.Compare a [.Eq] [b] pos) (e8 asB (eOp dEq f g)):=m5 (J1 hr.units) J0 ha hb hm
def tN(hr:Room j X.A)(ha:QE X EX false a f)(hb:QE X EX false b g)(hm:behindInMarks .NotEq b=false):QT X EX (.Compare a [.NotEq] [b] pos) (e8 asB (eOp dNe f g)):=m5 (y41 hr.units) y42 ha hb hm
end
section
variable {X:Cx}{EX:XW}{j n:Nat}{E:XK}{m:Str}{aq pos:Pos}{e o:Expr}{ta:TE}{tb:String->Option (List D->R D)}{fo:DE->R D}{fs:DE->R (List D)}{pins:List (Addr×Obj)}{σ:St}{H:Hp}{s:Shared}{Q:VK}
theorem zo(he:PE X o ta)(hr:Room j X.A)(hx:L9 (CX1 X.prog X.w) X E)
  (ht:eval (.Call (.Attribute o m aq) [] [] pos) X.env=(do
   let ov <-eval o X.env
   standAt aq.atName
   let (f,first) <-holding [ov] (getMethod ov m pl)
   callWith pos f first (backTo pos (starEach [] X.env)) (backToKw pos (keywordEach [] X.env))):=by rfl) :
  PE X (.Call (.Attribute o m aq) [] [] pos) (Df X m E j ta G4):=by
 intro pins s σ H Q I h
 refine PySem.W.methodCall_KW (pl:=pl) (thn (he pins s σ H _ I h) fun u s1 ⟨x,H1,I1,rx,a,C,dx,fs,f,fd,ps,k,sp,ex,ea,l,c,hm,F,hk,hb,q⟩=>?_) ht
 subst ex
 obtain rfl:u=Value.ref a:=rx
 refine Zt I1 ea c hm l ?_
 refine PySem.W.callWith_K0 (first:=[.ref a]) I1.kIn hm.kp ?_
 exact Jo (us:=[.ref a]) (vs:=[.ref a]) (dvs:=[]) (ds:=[]) F (hr.mono hk) hb .nil hx I1 (.cons rfl .nil) q
theorem xx(L:Lnd X EX)(M:Mths X.prog X.w X.K X.mg X.base m j n tb)(hr:Room j2 X.A)(ho:QE X EX false o fo)(hj:j<=j2:=by omega)
  (ht:eval (.Call (.Attribute o m aq) [] [] pos) X.env=(do
   let ov <-eval o X.env
   standAt aq.atName
   let (f,first) <-holding [ov] (getMethod ov m pl)
   callWith pos f first (backTo pos (starEach [] X.env)) (backToKw pos (keywordEach [] X.env))):=by rfl) :
  QE X EX false (.Call (.Attribute o m aq) [] [] pos) (D6 tb fo b7):=⟨(zo (pl:=pl) ho.h (hr.mono hj) L.on ht).imp fun _ _ _ q=>by
 have z:=Rz (E:=eOf X.K EX X.mg) (fs:=b7) M (fun x H z=>by obtain⟨C,hC⟩:=L.nm x H z;exact⟨C,hC,fun od xf=>⟨x,z,hC,xf⟩⟩) q
 unfold Df at z⊢
 obtain⟨sx,ρ,H0,s,e,z⟩:=z
 refine⟨sx,ρ,H0,s,e,z.mono fun d z v H' o=>?_⟩
 obtain⟨a,C,dx,fs,f,fd,ps,k,sp,ex,ea,l,c,hm,F,hk,hb,sy,ax,aa,s',e',z⟩:=z v H' o
 exact⟨a,C,dx,fs,f,fd,ps,k,sp,ex,ea,l,c,hm,F,hk,hb,z [] _ _ (.refl _) (.refl s') .nil⟩⟩
end
structure MeAt(K:Frag)(C:Addr)(m q:Str)(st:Stmt)(f:Addr):Prop where
 me:Meth K C m f
 fn:∃fd,Fun K m q st f fd
structure FnAtD(K:Frag)(x:Str)(st:Stmt)(f:Addr):Prop where
 ns:nsIn K mainGlobals x=some (some (.ref f))
 fn:∃fd T oc od dv n sl,FunD K x x st (.ref T) f fd/\K.lookup T=some ⟨oc,od,.seq #[dv] n,sl⟩
def By(P:Program)(w:World)(K:Frag)(mg:Str->Option Value)(base:Heap)(C:Addr)(m:Str)(ps:List Str)(k:Nat)(sp:Sp):Prop:=∃f fd,Meth K C m f/\FnOk P w K mg base (CX1 P w) k f fd ps sp/\Binds K fd ps []
section
variable {P:Program}{w:World}{K:Frag}{mg:Str->Option Value}{base h:Heap}{x m q:Str}{st:Stmt}{f C:Addr}{ps:List Str}{k j n:Nat}{sp:Sp}{oc:Value}{od an:Option Addr}{osl:Array (Option Value)}{kV doc pm cdv ct:Value}
def mat(a:PySem.W.findIn K (.ref C) m=some (some (.ref f)))(n:isFn K (.ref f)=true)(l:K.lookup f=some ⟨oc,od,.func (PySem.W.fnOf m q (t7 st) (l7 st) (d7 st) .none kV doc pm an cdv ct),osl⟩)
 (c:codeIn K cdv q=true) (k:keepIn K (.ref f)=true):MeAt K C m q st f:=⟨⟨a,n,k⟩,_,Ta l c k⟩
def fatD(a:nsIn K mainGlobals x=some (some (.ref f)))(l:K.lookup f=some ⟨oc,od,.func (PySem.W.fnOf x x (t7 st) (l7 st) (d7 st) (.ref T) kV doc pm an cdv ct),osl⟩)
 (t:K.lookup T=some ⟨tc,td,.seq #[dv] tn,ts⟩) (c:codeIn K cdv x=true) (k:keepIn K (.ref f)=true):FnAtD K x st f:=⟨a,_,T,tc,td,dv,tn,ts,xE l c k,t⟩
def Om(A:MeAt K C m q st f)(ok:∀{fd},Fun K m q st f fd->FnOk P w K mg base (CX1 P w) k f fd ps sp)
  (hb:∀(kV doc pm:Value)(an:Option Addr)(cdv ct:Value),BP ps fun us=>bindArgs (PySem.W.fnOf m q (t7 st) (l7 st) (d7 st) .none kV doc pm an cdv ct) ⟨us,[]⟩=pure (ps.zip us):=by (repeat intro _);exact rfl):By P w K mg base C m ps k sp:=by
 obtain⟨fd,F⟩:=A.fn
 exact⟨f,fd,A.me,ok F,F.binds fun kV doc pm an cdv ct=>(hb kV doc pm an cdv ct).all⟩
theorem y8g(X:K.In h)(G:h.Ns mainGlobals mg)(A:FnAtD K x st f)(ok:∀{fd T},FunD K x x st (.ref T) f fd->FnOk P w K mg base (CX1 P w) k f fd ps sp)
  (hb:∀(T:Addr)(dv kV doc pm:Value)(an:Option Addr)(cdv ct:Value),BP ps fun us=>∃k,bindArgs (PySem.W.fnOf x x (t7 st) (l7 st) (d7 st) (.ref T) kV doc pm an cdv ct) ⟨us,[]⟩=seqItems? (.ref T) >>= k/\k (some #[dv])=pure (ps.zip us):=by (repeat intro _);exact⟨_,rfl,rfl⟩):i7 P w K mg base x ps k sp:=by
 obtain⟨fd,T,oc,od,dv,n,sl,F,t⟩:=A.fn
 exact⟨f,fd,ok F,F.binds (ds:=[]) t ps.length rfl fun kV doc pm an cdv ct us hl=>by rw[CT];exact(hb T dv kV doc pm an cdv ct).all us hl,PySem.W.mg_of X G A.ns,F.kp⟩
theorem Mths.nil:Mths P w K mg base m j n fun _=>none:=⟨fun c g h=>by cases h⟩
theorem Mths.cons(hn:nsIn K mainGlobals (Str.ofString y)=some (some (.ref C)))(hc:Cls K C)(G:By P w K mg base C m ps k (spD K mg false (mOf false n kk gg) n))(M:Mths P w K mg base m j n tb)(hk:k<=j:=by decide)(hm:m∉n6 y:=by decide) :
  Mths P w K mg base m j n fun c=>if c=y then some (mOf false n kk gg) else tb c:=⟨fun c g h=>by
 by_cases e:c=y
 . rw[ζ e]at h;cases h;subst e;obtain⟨f,fd,h1,h2,h3⟩:=G;exact⟨_,_,_,_,_,hn,hc,h1,h2,hk,h3,hm,fun ds=>Uz ds⟩
 . rw[ξ e]at h;exact M.h c g h⟩
def mko(A:MeAt K C "__init__" q st f)(hn:nsIn K mainGlobals (Str.ofString y)=some (some (.ref C)))(hm:PySem.W.makesIn K C=true)(hq:keepIn K (.ref C)=true)(hf:n6 y=fn)(ok:∀{fd},Fun K "__init__" q st f fd->FnOk P w K mg base (CX1 P w) k f fd ps (Fs C fn))
  (hb:∀(kV doc pm:Value)(an:Option Addr)(cdv ct:Value),BP ps fun us=>bindArgs (PySem.W.fnOf "__init__" q (t7 st) (l7 st) (d7 st) .none kV doc pm an cdv ct) ⟨us,[]⟩=pure (ps.zip us):=by (repeat intro _);exact rfl):MkO P w K mg base y C fn k:=by
 obtain⟨fd,F⟩:=A.fn
 exact⟨hn,hf,f,fd,ps,⟨hm,A.me.at_,A.me.fn,hq⟩,ok F,F.binds fun kV doc pm an cdv ct=>(hb kV doc pm an cdv ct).all⟩
end
section
variable {X:Cx}{K:Frag}
noncomputable def ve:R2:=fun x y H Q=>∃i j,x=.str i/\y=.str j/\i.length+j.length<=sizeLine/\Q (.str (i++j)) H
noncomputable def S1:D->D->Option D
 | .str a,.str b=>if a.length+b.length<=16777216 then some (.str (a++b)) else none
 |_,_=>none
def y0x:OpR X (binaryOp .Add) ve:=zic
def xw:OpD K false S1 ve:=by
 intro H0 H x y d e z Q s rx ry ho k;unfold S1 at ho;split at ho<;>first | (cases ho;done) |skip
 split at ho<;>first | (cases ho;done) |skip
 rename_i hl;cases ho;cases rx.str;cases ry.str;exact⟨_,_,rfl,rfl,hl,k _ H (.pure s (.mkStr _))⟩
noncomputable def inT(a b:Str):Bool:=!(Builtin.Str.occurrences b a 0 b.length 1).isEmpty
def kI:R2:=fun x y H Q=>∃i j,x=.str i/\y=.str j/\Q (.bl (inT i j)) H
def Ol:D->D->Option D
 | .str a,.str b=>some (.bl (inT a b))
 |_,_=>none
def y56:OpR X (compareOp .In) kI:=zjr
def y0y:OpD K false Ol kI:=by
 intro H0 H x y d e z Q s rx ry ho k;unfold Ol at ho;split at ho<;>first | (cases ho;done) |skip
 cases ho;cases rx.str;cases ry.str;exact⟨_,_,rfl,rfl,k _ H (.pure s (.mkBl _))⟩
def vd:List V->Hp->VK->Prop:=fun xs H Q=>∃x n,xs=[.str x]/\PySem.intText? x=some n/\x.length<=640/\Q (.int n) H
noncomputable def N6:List D->Option D
 | [.str x]=>if x.length<=640 then(PySem.intText? x).map .int else none
 |_=>none
def Ry:CallR X (.type "int") vd:=by intro pins s σ H xs us Q I r h;obtain⟨x,n,rfl,hn,hl,q⟩:=h;obtain⟨u,rfl,t,rfl⟩:=r8 r;exact PySem.W.KIN.call_text hn hl ⟨.int n,H,I.tok _,⟨_,rfl⟩,q⟩
def Ug:v8 K false N6 vd:=by
 intro H0 H xs ds z Q s r ho k;unfold N6 at ho;split at ho<;>first | (cases ho;done) |skip
 split at ho<;>first | (cases ho;done) |skip
 rename_i hl;obtain⟨x,rfl,q1⟩:=r.uno;cases q1.str;obtain⟨n,hn,rfl⟩:=FJ.mp ho;exact⟨_,n,rfl,hn,hl,k _ H (.pure s (.mkInt _))⟩
def MtD(K:Frag)(fr:Bool)(m:Str->List D->Option D)(r:V->List V->Hp->VK->Prop):Prop:=∀(H0 H:Hp)(c:Str)(xs:List V)(ds:List D)(z:D)(Q:VK),Same H0 H->RDs K H0 ds xs->m c ds=some z->(∀v H',Out K fr H0 H z v H'->Q v H')->r (.str c) xs H Q
def eMt(m:Str->List D->Option D)(fo:DE->R D)(fs:DE->R (List D)):DE->R D:=fun ρ=>(fo ρ).bind fun d=>match d with
 | .str c=>(fs ρ).bind fun ds=>R.of (m c ds)
 |_=>.st
def y8h(hm:MtD K fr m r)(h:TEd K EX fr (eMt m fo fs) σ H Q):tBM K "str" r (TEd K EX false fo) (TAd K EX fs) σ H Q:=by
 obtain⟨sx,ρ,H0,s,e,h⟩:=h;unfold eMt at h;rw[Rk.bind]at h;refine TEd.go sx s e h fun d h v H1 ao s1 e1 r1=>?_
 split at h
 . cases r1.str;rw[Rk.bind]at h;refine⟨rfl,TAd.go (sx.trans s1) e1.2.1 (e.mono e1.1) h fun ds h vs H2 aM s2 e2 r2=>?_⟩;obtain⟨z,hz,h⟩:=h.of;exact hm aM H2 _ vs ds z Q e2.2.1 r2 hz fun w H3 o=>h w H3 (o.after (s1.trans s2) (e1.trans s1 e2))
 . exact h.elim
def kH{EX:XW}{fr:Bool}{o e:Expr}{es:List Expr}{name:Str}{aq ag:Pos}{id:String}{m:Str->List D->Option D}{r:V->List V->Hp->VK->Prop}{fo:DE->R D}{fs:DE->R (List D)}(slot:Slot "str" name id)(dy:typeOf (.builtin id)=pure (.type "method_descriptor"))(hm:MtR X id r)(md:MtD X.K fr m r)
 (ho:QE X EX false o fo) (ha:QA X EX (e::es) fs) (aP:attributeBase o name X.env (eval o X.env)=eval o X.env:=by rfl)
 (bK:((backTo ag (starEach (e::es) X.env)).all (fun x=>!x.1)&&(backToKw ag (keywordEach [] X.env)).all (fun x=>x.1.isSome)&&decide ((e::es).length+([]:List Keyword).length+(if([]:List Keyword).isEmpty then 0 else 1)<30))=true:=by rfl)
 (aQ:(aq.endLine==ag.line)=true:=by rfl) (hs:starEach (e::es) X.env=(false,eval e X.env)::starEach es X.env:=by rfl) (aG:(backTo ag (starEach es X.env)).any (·.1)=false:=by rfl) :
 QE X EX fr (.Call (.Attribute o name aq) (e::es) [] ag) (eMt m fo fs):=⟨(Cs PySem.F.plainAttrs_str slot dy hm ho.h ha.h aP bK aQ hs aG).imp fun _ _ _ q=>y8h md q⟩
theorem Xs:∀(k:Nat)(ys:List Str),Vals (ys.map V.str) (strsFrom k ys)
 |_,[]=>.nil
 |k,y::ys=>.cons ⟨k,rfl⟩ (Xs (k+1) ys)
noncomputable def F6:Str->List D->Option D
 |x,[.str y]=>if 1<=y.length/\x.length<=1000000 then some (.lst ((Txt.split x y).map .str)) else none
 |_,_=>none
def Rx:V->List V->Hp->VK->Prop:=fun v xs H Q=>∃x y:Str,v=.str x/\xs=[.str y]/\(1<=y.length/\x.length<=1000000)/\∀p,H p=none->Q (.ref p) (upd H p (.lst ((Txt.split x y).map V.str)))
def Wl:MtR X "str.split" Rx:=by
 intro pins s σ H v xs u us Q I rv r h;obtain⟨x,y,rfl,rfl,⟨hy,hx⟩,q⟩:=h;obtain⟨t,rfl⟩:=rv;obtain⟨w,rfl,t',rfl⟩:=r8 r;have hs:x.length<=sizeLine:=CD hx (by decide);have n0:(y.length==0)=false:=by rw[DX];omega
 have lJ:=PyProof.Rows.split_le x y;have put:∀(its:List Value)(k:Nat),Vals ((Txt.split x y).map V.str) its->EP X pins σ Q (.ref s.heap.objs.size) { s with heap:=s.heap.push { cls:=.type "list",data:=.seq its.toArray },toks:=k }:=fun its k hv=>
  ⟨.ref s.heap.objs.size,_,I.lnew hv (by rw[bI];exact CD lJ (CD (Nat.add_le_add_right hx 2) (by decide))),rfl,q _ I.fresh⟩
 have run:∀{sp:PySem.Spec},Meets (Builtin.«str.split» ⟨[.str x t,.str y t'],[]⟩) sp->sp X.A (wants (EP X pins σ Q) X.xe) s->wpAny (model X.prog X.w) X.A (call (.builtin "str.split") [.str x t,.str y t']) (EP X pins σ Q) X.xe s:=fun m h=>
  call_meets PySem.F.slot_str_split (typeIs_str _ _ _) PySem.F.entry_str_split (PySem.F.args_str_split_2 _ _) m h
 cases h1:(decide (x.length<y.length)||decide (Builtin.Str.strKind x<Builtin.Str.strKind y)) with
 |true=>exact run (meets_str_split_cannot_occur x y t t' h1) (put [.str x t] s.toks (by rw[show Txt.split x y=[x] from ζ h1];exact .cons ⟨t,rfl⟩ .nil))
 |false=>
  have e1:Txt.split x y=_:=ξ (by rw[h1];exact θ)
  cases h2:(Builtin.Str.occurrences x y 0 x.length (x.length+1)).isEmpty with
  |true=>exact run (meets_str_split_not_found x y t t' h1 n0 h2) (put [.str x t] s.toks (by rw[e1,ζ h2];exact .cons ⟨t,rfl⟩ .nil))
  |false=>
   have e2:Txt.split x y=_:=e1.trans (ξ (by rw[h2];exact θ))
   exact run (meets_str_split_sep x y t t' h1 n0 h2 hs (by rw[<-e2];exact CD lJ (CD (Nat.add_le_add_right hx 2) (by decide)))) (put _ _ (by rw[e2];exact Xs _ _))
theorem Wk:∀ys:List Str,RDs K H (ys.map D.str) (ys.map V.str)
 | []=>rfl
 |y::ys=>⟨_,_,rfl,.mkStr y,Wk ys⟩
def Wj:MtD K true F6 Rx:=by
 intro H0 H c xs ds z Q s r ho k;unfold F6 at ho;split at ho<;>first | (cases ho;done) |skip
 split at ho<;>first | (cases ho;done) |skip
 rename_i hl;cases ho;obtain⟨x,rfl,q1⟩:=r.uno;cases q1.str;exact⟨_,_,rfl,rfl,hl,fun p hp=>k _ _ (.new s hp fun H' hH=>by simp only[OB];exact⟨_,hH,Wk _⟩)⟩
def rFv:V->Hp->VK->Prop:=fun x H Q=>∃i:Int,x=.int i/\i.natAbs.log2<1920/\Q (.str (Str.ofString (toString i))) H
noncomputable def dFv:D->Option D
 | .int i=>if i.natAbs.log2<1920 then some (.str (Str.ofString (toString i))) else none
 |_=>none
def y57(he:PE X e te):PE X (.FormattedValue e (-1) none pos) (tUn rFv te):=by intro pins s σ H Q I h;refine FormattedValue_plain (thn (he pins s σ H _ I h) fun v s1 z=>?_);obtain⟨x,H1,I1,r1,i,rfl,hi,q⟩:=z;obtain⟨t,rfl⟩:=r1;exact formatField_int_small hi ⟨.str _,H1,I1.tok _,⟨_,rfl⟩,q⟩
def y58:UnD K false dFv rFv:=by
 intro H0 H x d z Q s r ho k;unfold dFv at ho;split at ho<;>first | (cases ho;done) |skip
 split at ho<;>first | (cases ho;done) |skip
 rename_i hi;cases ho;cases r.int;exact⟨_,rfl,hi,k _ H (.pure s (.mkStr _))⟩
def kG(he:QE X EX false e f):QE X EX false (.FormattedValue e (-1) none pos) (eUn dFv f):=⟨(y57 he.h).imp fun _ _ _ q=>kU y58 q⟩
noncomputable def tJn(ts:List TE):Str->TE:=ts.foldr (fun t k o σ H Q=>t σ H fun x H1=>∃i:Str,x=.str i/\(o++i).length<=sizeLine/\k (o++i) σ H1 Q) fun o _ H Q=>o.length<=sizeLine/\Q (.str o) H
inductive PJ (X:Cx):List Expr->List TE->Prop
 |nil:PJ X [] []
 |cons {e:Expr} {es:List Expr} {t:TE} {ts:List TE} (h:PE X e t) (r:PJ X es ts) (hs:evalEach (e::es) X.env=eval e X.env::evalEach es X.env):PJ X (e::es) (t::ts)
def zn(h:PJ X es ts):∀{pins:List (Addr×Obj)}{s:Shared}{σ:St}{H:Hp}{Q:VK}(o:Str),Inv X pins σ H s->tJn ts o σ H Q->wpAny (model X.prog X.w) X.A (joinParts o (evalEach es X.env)) (EP X pins σ Q) X.xe s:=by
 induction h with
 |nil=>intro pins s σ H Q o I h;exact joinParts_nil ⟨.str o,H,I.tok _,⟨_,rfl⟩,h.2⟩ h.1
 |cons he r hs ih=>
  intro pins s σ H Q o I h
  rw[hs]
  refine joinParts_cons (thn (he pins s σ H _ I h) fun v s1 z=>?_)
  obtain⟨x,H1,I1,r1,i,rfl,hi,q⟩:=z
  obtain⟨t,rfl⟩:=r1
  exact⟨hi,ih _ I1 q⟩
def y59(h:PJ X (a::b::es) ts)(hs:evalEach (a::b::es) X.env=eval a X.env::eval b X.env::evalEach es X.env:=by rfl):PE X (.JoinedStr (a::b::es) pos) (tJn ts Str.empty):=by intro pins s σ H Q I q;refine JoinedStr_many ?_;rw[<-hs];exact zn h _ I q
def eJn:List (DE->R D)->Str->DE->R D
 | [],o,_=>if o.length<=16777216 then .ok (.str o) else .st
 |f::fs,o,ρ=>(f ρ).bind fun d=>match d with
  | .str i=>if(o++i).length<=16777216 then eJn fs (o++i) ρ else .st
  |_=>.st
theorem kF:∀{fs:List (DE->R D)}{o:Str}{H:Hp},TEd K EX false (eJn fs o) σ H Q->tJn (fs.map (TEd K EX false)) o σ H Q
 | [],o,H,h=>by
  obtain⟨sx,ρ,H0,s,e,h⟩:=h;unfold eJn at h;split at h
  . rename_i hl;exact⟨hl,h _ H (.pure s (.mkStr _))⟩
  . exact h.elim
 |f::fs,o,H,h=>by
  obtain⟨sx,ρ,H0,s,e,h⟩:=h;unfold eJn at h;rw[Rk.bind]at h;refine TEd.go sx s e h fun d h v H1 ao s1 e1 r1=>?_
  split at h
  . split at h
    . rename_i hl;cases r1.str;exact⟨_,rfl,hl,kF ⟨sx.trans s1,ρ,ao,e1.2.1,e.mono e1.1,h.mono fun d z v H' o=>z v H' (o.after s1 e1)⟩⟩
    . exact h.elim
  . exact h.elim
structure QJ(X:Cx)(EX:XW)(es:List Expr)(fs:List (DE->R D)):Prop where
 h:PJ X es (fs.map (TEd X.K EX false))
def y5a:QJ X EX [] []:=⟨.nil⟩
def Jc(he:QE X EX false e f)(hr:QJ X EX es fs)(hs:evalEach (e::es) X.env=eval e X.env::evalEach es X.env:=by rfl):QJ X EX (e::es) (f::fs):=⟨.cons he.h hr.h hs⟩
def y8i(h:QJ X EX (a::b::es) fs)(hs:evalEach (a::b::es) X.env=eval a X.env::eval b X.env::evalEach es X.env:=by rfl):QE X EX false (.JoinedStr (a::b::es) pos) (eJn fs Str.empty):=⟨(y59 h.h hs).imp fun _ _ _ q=>kF q⟩
noncomputable def Y2(x:Str):List V:=x.cps.toList.map fun c=>.str ⟨#[c]⟩
def Its(x:Str):It:=⟨fun i _=>i<x.cps.size,fun i H v H'=>H'=H/\(Y2 x)[i]?=some v,fun i _=>x.cps.size<=i⟩
theorem zm(x:Str)(t:Tok)(it:Addr):Turn P w K tg (Its x) [it] it (fun i h=>h.IsStrIter it "str_ascii_iterator" x t i) where
 mem:=by simp
 obj:=fun i h st b hb=>by
  have e:b=it:=by simpa using hb
  subst e;obtain⟨o,e,c,d⟩:=st;exact⟨o,e,fun v z=>by rw[d]at z;cases z⟩
 keep:=fun i h h' st k=>let ⟨o,e,r⟩:=st;⟨o,k it (by simp) o e,r⟩
 item:=by
  intro X hP hw hK hc i pins s σ H E I hf st hg;subst hP hw hK;have hi:x.cps[i]?=some x.cps[i]:=Array.getElem?_eq_getElem hg;obtain⟨f0,f1,f2,f3,f4,f5⟩:=hf it (by simp);refine wpAny_pyNext_ascii_item st hi fun h' st' sb=>?_
  obtain⟨o,e,c,d⟩:=id st';refine⟨_,rfl,Cv (s:={ s with heap:=h',toks:=s.toks+1 }) e c d (by decide) ⟨.str ⟨#[x.cps[i]]⟩,H,I.turned (fun b o hb e=>(sb.2 b hb).trans e) f0 f1 f3 f4 f5,⟨_,rfl⟩,⟨rfl,?_⟩,st',fun b hb=>(hf b hb).1⟩⟩;unfold Y2;rw[CJ,Array.getElem?_toList,hi];rfl
 done:=by intro X hP hw hK hc i pins s σ H E I hf st hg;subst hP hw hK;obtain⟨f0,f1,f2,f3,f4,f5⟩:=hf it (by simp);exact wpAny_pyNext_ascii_end (I.ok.hd hc) st (Array.getElem?_eq_none hg) fun h' eb=>⟨rfl,I.turned (t':=s.toks) (fun b o hb e=>eb b o hb e) f0 f1 f3 f4 f5⟩
 self:=fun _ _ _ _ _ st h=>wpAny_pyIter_striter_ascii st h
def y8j(tl:TE):TI:=fun σ H R=>tl σ H fun v H1=>∃x:Str,v=.str x/\x.cps.all (·<128)=true/\R (ItS (fun _=>True) (Y2 x)) H1
def y10(hl:PE X l tl):PI X tg l (y8j tl):=by
 intro pins s σ H R I h;refine thn (hl pins s σ H _ I h) fun v s1 z=>?_
 obtain⟨v',H1,I1,r1,x,rfl,ha,q⟩:=z;obtain⟨t,rfl⟩:=r1;have len:(Y2 x).length=x.cps.size:=by simp[Y2]
 refine wpAny_pyIter_ascii ha ?_;refine⟨s1.heap.objs.size,[s1.heap.objs.size],_,_,H1,rfl,I1.kept (t':=s1.toks) fun b o e=>τ _ e,(zm x t _).conv ?_ ?_ ?_,⟨_,Ψ _ rfl,rfl,rfl⟩,fun b hb=>?_,q⟩
 . exact fun i H' z=>Nat.lt_of_lt_of_eq z.2 len
 . exact fun i H' v fP _ z=>z
 . exact fun i H' z=>CD (Nat.le_of_eq len.symm) z.2
 . have e:b=s1.heap.objs.size:=by simpa using hb
   subst e;exact I1.fpOk (η _) (I1.hok.fresh (η _))
noncomputable def y5b(x:Str):List D:=x.cps.toList.map fun c=>.str ⟨#[c]⟩
def iS(f:DE->R D):DE->R (List D):=fun ρ=>(f ρ).bind fun d=>match d with
 | .str x=>if x.cps.all (·<128)=true then .ok (y5b x) else .st
 |_=>.st
theorem Xr:∀cs:List Nat,RDs K H (cs.map fun c=>D.str ⟨#[c]⟩) (cs.map fun c=>V.str ⟨#[c]⟩)
 | []=>rfl
 |c::cs=>⟨_,_,rfl,.mkStr _,Xr cs⟩
def y11(hl:QE X EX false l f):QI X EX false tg l (iS f):=⟨(y10 hl.h).imp fun σ H Q ⟨sx,ρ,H0,s,e,h⟩=>by
 unfold iS at h;rw[Rk.bind]at h;refine TEd.go sx s e h fun d h v H1 ao s1 e1 r1=>?_
 split at h
 . split at h
   . rename_i ha;cases r1.str;exact⟨_,rfl,ha,h _ H1 ao s1 e1 (Dj (fun _ _=>trivial) (Xr _))⟩
   . exact h.elim
 . exact h.elim⟩
end
section
variable {prog:Program}{w:World}{A:Around}{E:Value->Shared->Prop}{s:Shared}{κ:SortKind}{a₀:Array Keyed}{rk:Keyed->Nat}
noncomputable def tk(rk:Keyed->Nat)(xs:Array Keyed)(i:Nat):Nat:=match xs[i]? with
 |some p=>rk p
 |none=>0
def S0(prog:Program)(w:World)(A:Around)(E:Value->Shared->Prop)(s:Shared)(κ:SortKind)(a₀:Array Keyed)(rk:Keyed->Nat):Prop:=
 ∀x y,x∈a₀->y∈a₀->∀(st:SortSt)(Q:Option Bool->SortSt->Prop),kindOf st=κ->Q (some (decide (rk x<rk y))) st->wpS (model prog w) A E s (lt' x y) Q st
structure TBs(κ:SortKind)(a₀:Array Keyed)(st:SortSt):Prop where
 perm:(arrOf st).Perm a₀
 kind:kindOf st=κ
 ok:failedOf st=none
def TSo(rk:Keyed->Nat)(xs:Array Keyed)(lo hi:Nat):Prop:=∀i j,lo<=i->i<=j->j<hi->tk rk xs i<=tk rk xs j
def Cn(h:i<xs.size):tk rk xs i=rk xs[i]:=by unfold tk;rw[getElem?_pos xs i h]
def Er(h:xs[i]?=ys[j]?):tk rk xs i=tk rk ys j:=by unfold tk;rw[h]
def TBs.size{st:SortSt}(B:TBs κ a₀ st):(arrOf st).size=a₀.size:=B.perm.size_eq
def TBs.mem{st:SortSt}(B:TBs κ a₀ st){x:Keyed}(h:x∈arrOf st):x∈a₀:=Array.mem_def.mpr ((Array.perm_iff_toList_perm.mp B.perm).mem_iff.mp (Array.mem_def.mp h))
def TBs.set{st:SortSt}(B:TBs κ a₀ st){xs:Array Keyed}(hp:xs.Perm (arrOf st)):TBs κ a₀ (setArr st xs):=⟨hp.trans B.perm,B.kind,B.ok⟩
def Rw{st:SortSt}{xs:Array Keyed}{i:Nat}{Q:Keyed->SortSt->Prop}(h:i<xs.size)(q:Q xs[i] st):wpS (model prog w) A E s (elem' xs i) Q st:=by rw[elem'_eq,getElem?_pos xs i h];exact wpS_pure q
def Q0(hc:S0 prog w A E s κ a₀ rk){st:SortSt}(B:TBs κ a₀ st){i j:Nat}(hi:i<a₀.size)(hj:j<a₀.size){Q:Option Bool->SortSt->Prop}
  (h:Q (some (decide (tk rk (arrOf st) i<tk rk (arrOf st) j))) st):wpS (model prog w) A E s (ltAt' i j) Q st:=by
 rw[ltAt'_eq]
 have pD:i<(arrOf st).size:=by rw[B.size];exact hi
 have eR:j<(arrOf st).size:=by rw[B.size];exact hj
 rw[Cn pD,Cn eR]at h
 refine γ (wpS_get (γ (Rw pD (γ (Rw eR ?_)))))
 exact hc _ _ (B.mem (Array.getElem_mem _)) (B.mem (Array.getElem_mem _)) st Q B.kind h
def Lp(hj:j<=xs.size)(k:Nat):tk rk (mirror xs i j ((j - i) / 2)) k=if i<=k/\k<j then tk rk xs (i+j - 1 - k) else tk rk xs k:=by
 by_cases h:i<=k/\k<j<;>simp only[h,DY,DG]<;>refine Er ?_<;>rw[getElem?_mirror_all hj]
 . rw[ζ h]
 . rw[ξ h]
def zm0(hs:eA<xs.size)(hd:d<=eA)(k:Nat) :
  tk rk (bubble xs eA d) k=if k=eA - d then tk rk xs eA else if eA - d<k/\k<=eA then tk rk xs (k - 1) else tk rk xs k:=by
 have e:=getElem?_bubble hs d hd k
 by_cases h1:k=eA - d
 . rw[ζ h1]at e⊢;exact Er e
 . rw[ξ h1]at e⊢;by_cases h2:eA - d<k/\k<=eA
   . rw[ζ h2]at e⊢;exact Er e
   . rw[ξ h2]at e⊢;exact Er e
def Kz(hj:j<=xs.size)(ha:∀k,i<=k->k<j->tk rk xs k=tk rk xs (j - 1))(k:Nat):tk rk (mirror xs i j ((j - i) / 2)) k=tk rk xs k:=by
 rw[Lp hj];by_cases h:i<=k/\k<j
 . rw[ζ h,ha (i+j - 1 - k) (by omega) (by omega),ha k h.1 h.2]
 . rw[ξ h]
theorem TSo.step{xs:Array Keyed}{lo n:Nat}(h:TSo rk xs lo (lo+n))(h1:1<=n)(hn:tk rk xs (lo+n - 1)<=tk rk xs (lo+n)):TSo rk xs lo (lo+(n+1)):=fun i j h0 mr h2=>by
 by_cases hj:j=lo+n
 . subst hj;by_cases hi:i=lo+n
   . rw[hi];exact η _
   . exact CD (h i (lo+n - 1) h0 (by lia) (by lia)) hn
 . exact h i j h0 mr (by lia)
theorem TSo.one(lo:Nat):TSo rk xs lo (lo+1):=fun i j h0 h1 h2=>by
 obtain rfl:i=j:=by lia
 exact η _
structure TL(st st':SortSt)(lo:Nat):Prop where
 low:∀k,k<lo->(arrOf st')[k]?=(arrOf st)[k]?
 pend:pendingOf st'=pendingOf st
def TL.refl(st:SortSt)(lo:Nat):TL st st lo:=⟨fun _ _=>rfl,rfl⟩
def TL.trans{a b c:SortSt}{lo:Nat}(h:TL a b lo)(k:TL b c lo):TL a c lo:=⟨fun i hi=>(k.low i hi).trans (h.low i hi),k.pend.trans h.pend⟩
theorem TL.mirror{st:SortSt}{lo i j:Nat}(hi:lo<=i)(hj:j<=(arrOf st).size):TL st (setArr st (mirror (arrOf st) i j ((j - i) / 2))) lo:=
 ⟨fun k hk=>by show(PyProof.Rows.mirror (arrOf st) i j ((j - i) / 2))[k]?=_;rw[getElem?_mirror_all hj,ξ (by lia)],rfl⟩
def Cm{st:SortSt}{i j:Nat}{Q:Unit->SortSt->Prop}(h:Q () (setArr st (mirror (arrOf st) i j ((j - i) / 2)))):wpS (model prog w) A E s (reverseSlice' i j) Q st:=by rw[reverseSlice'_eq];exact wpS_modify h
theorem TSo.ups'{xs:Array Keyed}{lo a:Nat}(h:TSo rk xs lo (lo+a))(ha:1<=a):∀{n:Nat},a<=n->(∀i,a<=i->i<n->tk rk xs (lo+i - 1)<=tk rk xs (lo+i))->TSo rk xs lo (lo+n)
 | 0,z,_=>by lia
 |n+1,z,up=>by
  by_cases e:a=n+1
  . rw[<-e];exact h
  . exact(TSo.ups' h ha (n:=n) (by lia) fun i a b=>up i a (by lia)).step (by lia) (up n (by lia) (by lia))
def TSo.ups{xs:Array Keyed}{lo n:Nat}(h:TSo rk xs lo (lo+1))(hn:1<=n)(up:∀i,1<=i->i<n->tk rk xs (lo+i - 1)<=tk rk xs (lo+i)):TSo rk xs lo (lo+n):=h.ups' (η _) hn up
def Rv{σ:Type}{r:String}{Q:Unit->σ->Prop}{st:σ}(h:Q () st):wpS (model prog w) A E s (liftM (rule r):StateT σ Sem Unit) Q st:=wpS_lift (wpAny_rule ⟨rfl,h⟩)
theorem kE(mk:Nat->β)(st:σ)(down:Nat->Bool)(bF:a<=b)
  (go:∀x n (Q:ForInStep β->σ->Prop),a<=n->n<b->Q (if down n=true then .done (mk n) else .yield (mk (n+1))) st->wpS (model prog w) A E s (f x (mk n)) Q st)
  (h:∀n,a<=n->n<=b->(∀i,a<=i->i<n->down i=false)->(n<b->down n=true)->Q (mk n) st):wpS (model prog w) A E s (forIn [a:b] (mk a) f) Q st:=by
 refine wpS_forRange (I:=fun x c u=>u=st/\c=mk x/\∀i,a<=i->i<x->down i=false) (fun x c u hx hb hI=>?_) (fun c u hI=>?_) ⟨rfl,rfl,fun i y z=>by lia⟩
 . obtain⟨rfl,rfl,up⟩:=hI;refine go x x _ hx hb ?_;cases hd:down x
   . exact⟨rfl,rfl,fun i y z=>by
      by_cases e:i=x
      . rw[e];exact hd
      . exact up i y (by lia)⟩
   . exact h x hx (FW hb) up fun _=>hd
 . obtain⟨rfl,rfl,up⟩:=hI;rw[Nat.max_eq_right bF]at up⊢;exact h b bF (η _) up fun z=>absurd z (EA _)
theorem y12(mk:Nat->Nat->β)(st:σ)(dN:Nat->Nat->Nat)(p:Nat->Bool)(ot:∀l r,l<r->l<=dN l r/\dN l r<r)
  (go:∀x l r (Q:ForInStep β->σ->Prop),l0<=l->l<r->r<=r0->Q (.yield (if p (dN l r)=true then mk (dN l r+1) r else mk l (dN l r))) st->wpS (model prog w) A E s (f x (mk l r)) Q st)
  (stop:∀x l (Q:ForInStep β->σ->Prop),l<=r0->Q (.done (mk l l)) st->wpS (model prog w) A E s (f x (mk l l)) Q st)
  (mono:∀i j,l0<=i->i<=j->j<r0->p j=true->p i=true) (hl:l0<=r0) (hN:r0<=l0+N)
  (h:∀k,l0<=k->k<=r0->(∀i,l0<=i->i<k->p i=true)->(∀i,k<=i->i<r0->p i=false)->Q (mk k k) st):wpS (model prog w) A E s (forIn [0:N] (mk l0 r0) f) Q st:=by
 have key:∀l r,l0<=l->l<=r->r<=r0->(∀i,l0<=i->i<l->p i=true)->(∀i,r<=i->i<r0->p i=false)->l=r->Q (mk l r) st:=fun l r a b c d e z=>by subst z;exact h l a c d e
 refine wpS_forRange (I:=fun x c u=>u=st/\∃l r,(l0<=l/\l<=r/\r<=r0/\r+x<=l+N)/\c=mk l r/\(∀i,l0<=i->i<l->p i=true)/\∀i,r<=i->i<r0->p i=false)
  (fun x c u _ hb hI=>?_) (fun c u hI=>?_) ⟨rfl,l0,r0,⟨η _,hl,η _,by lia⟩,rfl,fun i a b=>by lia,fun i a b=>by lia⟩
 . obtain⟨rfl,l,r,⟨b1,b2,b3,b4⟩,rfl,lt,gt⟩:=hI;by_cases e:l=r
   . subst e;exact stop x l _ b3 (key l l b1 b2 b3 lt gt rfl)
   . have hm:=ot l r (by lia);refine go x l r _ b1 (by lia) b3 ?_;cases hp:p (dN l r)
     . exact⟨rfl,l,dN l r,⟨b1,hm.1,by lia,by lia⟩,rfl,lt,fun i a b=>by
        cases hi:p i
        . rfl
        . rw[mono (dN l r) i (by lia) a b hi]at hp;cases hp⟩
     . exact⟨rfl,dN l r+1,r,⟨by lia,by lia,b3,by lia⟩,rfl,fun i a b=>mono i (dN l r) a (by lia) (by lia) hp,gt⟩
 . obtain⟨rfl,l,r,⟨b1,b2,b3,b4⟩,rfl,lt,gt⟩:=hI;exact key l r b1 b2 b3 lt gt (by simp only[Nat.zero_max]at b4;lia)
def Uf{α:Type}{Q:α->SortSt->Prop}{st:SortSt}{p:Prop}[Decidable p]{t g:StateT SortSt Sem α}(R:SortSt->Prop)(hg:∀u,R u->wpS (model prog w) A E s g Q u)(ht:p->(∀u,R u->wpS (model prog w) A E s g Q u)->wpS (model prog w) A E s t Q st)(hn:¬p->R st):wpS (model prog w) A E s (if p then t else g) Q st:=by
 split
 . exact ht ‹_› hg
 . exact hg _ (hn ‹_›)
def xv(hc:S0 prog w A E s κ a₀ rk){st:SortSt}(B:TBs κ a₀ st){lo cu:Nat}(hz:lo+cu<=a₀.size)(h1:1<=cu){Q:Option Nat->SortSt->Prop}
  (h:∀n st',1<=n->n<=cu->TBs κ a₀ st'->TL st st' lo->TSo rk (arrOf st') lo (lo+n)->Q (some n) st'):wpS (model prog w) A E s (countRun' lo cu) Q st:=by
 rw[countRun'_eq]
 refine γ (kE (fun n=>(none,n)) st (fun n=>decide (tk rk (arrOf st) (lo+n)<tk rk (arrOf st) (lo+n - 1))) h1 (fun x n Q a b q=>γ (Q0 hc B (by lia) (by lia) ?_)) fun n mR dU up dn=>?_)
 . by_cases hl:tk rk (arrOf st) (lo+n)<tk rk (arrOf st) (lo+n - 1)
   . simp only[hl,GF,DY]at q⊢;exact wpS_pure q
   . simp only[hl,GG,tB,DG]at q⊢;exact wpS_pure q
 have hs:=TSo.ups (n:=n) (TSo.one (rk:=rk) (xs:=arrOf st) lo) mR fun i a b=>by have:=up i a b;simp only[CQ]at this;lia
 have hd:n<cu->tk rk (arrOf st) (lo+n)<tk rk (arrOf st) (lo+n - 1):=fun z=>by simpa using dn z
 dsimp only
 by_cases pE:n=cu
 . rw[ζ (by simp[pE])];exact wpS_pure (h n _ mR dU B (.refl _ _) hs)
 rw[ξ (by simp[pE])]
 have cx:=hd (by lia)
 have flat:∀(xs:Array Keyed),TSo rk xs lo (lo+n)->¬tk rk xs lo<tk rk xs (lo+n - 1)->∀k,lo<=k->k<lo+n->tk rk xs k=tk rk xs (lo+n - 1):=fun xs hs hr k h0 h1=>by
  have a:=hs lo k (η _) h0 h1;have b:=hs k (lo+n - 1) h0 (by lia) (by lia)
  lia
 have mS:∀(xs:Array Keyed),(∀k,lo<=k->k<lo+n->tk rk xs k=tk rk xs (lo+n - 1))->tk rk xs (lo+n)<tk rk xs (lo+n - 1)->∀i j,lo<=i->i<=j->j<lo+(n+1)->tk rk xs j<=tk rk xs i:=fun xs fl hd i j h0 h1 h2=>by
  by_cases hj:j=lo+n
  . subst hj;by_cases hi:i=lo+n
    . rw[hi];exact η _
    . rw[fl i h0 (by lia)];lia
  . rw[fl i h0 (by lia),fl j (by lia) (by lia)];exact η _
 refine Uf (fun u=>TBs κ a₀ u/\TL st u lo/\∀i j,lo<=i->i<=j->j<lo+(n+1)->tk rk (arrOf u) j<=tk rk (arrOf u) i) (fun BN z=>?_) (fun hn J=>?_) fun hn=>⟨B,.refl _ _,mS _ (flat _ hs (by rw[show lo+n - 1=lo by lia];exact EA _)) cx⟩
 rotate_left
 . refine γ (Q0 hc B (by lia) (by lia) ?_);by_cases hr:tk rk (arrOf st) lo<tk rk (arrOf st) (lo+n - 1)
   . rw[decide_eq_true hr];dsimp only;rw[ζ rfl];exact wpS_pure (h n _ mR dU B (.refl _ _) hs)
   rw[decide_eq_false hr];dsimp only;rw[ξ θ];have pF:lo+n<=(arrOf st).size:=by rw[B.size];lia
   have fl:=flat _ hs hr;have ea:=Kz pF fl;exact γ (Cm (J _ ⟨B.set (mirror_perm _ _ _ _),.mirror (η _) pF,fun i j h0 h1 h2=>by show tk rk (mirror (arrOf st) _ _ _) j<=tk rk (mirror (arrOf st) _ _ _) i;rw[ea,ea];exact mS _ fl cx i j h0 h1 h2⟩))
 clear flat mS hd cx hs up dn
 obtain⟨B1,L1,ni⟩:=z
 refine γ (Rv ?_)
 refine γ (wpS_mono (wpS_forRange (I:=fun x c aB=>TBs κ a₀ aB/\TL st aB lo/\∃q,c=(none,x,q)/\q+1<=x/\(∀i j,lo<=i->i<=j->j<lo+x->tk rk (arrOf aB) j<=tk rk (arrOf aB) i)/\∀k,lo+x - (q+1)<=k->k<lo+x->tk rk (arrOf aB) k=tk rk (arrOf aB) (lo+x - 1))
  (Q:=fun c aB=>TBs κ a₀ aB/\TL st aB lo/\∃x q,c=(none,x,q)/\1<=x/\x<=cu/\q+1<=x/\(∀i j,lo<=i->i<=j->j<lo+x->tk rk (arrOf aB) j<=tk rk (arrOf aB) i)/\∀k,lo+x - (q+1)<=k->k<lo+x->tk rk (arrOf aB) k=tk rk (arrOf aB) (lo+x - 1)) ?step ?fin ⟨B1,L1,0,rfl,by lia,ni,fun k h0 h1=>by rw[show k=lo+(n+1) - 1 by lia]⟩) ?post)
 case fin=>
  rintro c aB ⟨B2,L2,q,rfl,hq,eB,al⟩
  rw[show max (n+1) cu=cu by lia]at *
  exact⟨B2,L2,cu,q,rfl,h1,η _,hq,eB,al⟩
 case post=>
  rintro c aB ⟨B2,L2,x,q,rfl,tG,iO,hq,eB,al⟩
  have hU:lo+x<=(arrOf aB).size:=by rw[B2.size];lia
  dsimp only
  refine Uf (fun u=>TBs κ a₀ u/\TL st u lo/\∀i j,lo<=i->i<=j->j<lo+x->tk rk (arrOf u) j<=tk rk (arrOf u) i) (fun dF z=>?_) (fun mT J=>?_) fun _=>⟨B2,L2,eB⟩
  rotate_left
  . have ea:=Kz hU al;exact γ (Cm (J _ ⟨B2.set (mirror_perm _ _ _ _),L2.trans (.mirror (by lia) hU),fun i j h0 h1 h2=>by show tk rk (mirror (arrOf aB) _ _ _) j<=tk rk (mirror (arrOf aB) _ _ _) i;rw[ea,ea];exact eB i j h0 h1 h2⟩))
  obtain⟨B3,L3,tH⟩:=z
  have mU:lo+x<=(arrOf dF).size:=by rw[B3.size];lia
  refine γ (Cm ?_)
  obtain⟨cS,e4⟩:∃cS,cS=setArr dF (mirror (arrOf dF) lo (lo+x) ((lo+x - lo) / 2)):=⟨_,rfl⟩
  have B4:TBs κ a₀ cS:=e4 ▸ B3.set (mirror_perm _ _ _ _)
  have L4:TL st cS lo:=e4 ▸ L3.trans (.mirror (η _) mU)
  have s0:TSo rk (arrOf cS) lo (lo+x):=fun i j h0 h1 h2=>by rw[e4];show tk rk (mirror (arrOf dF) lo (lo+x) _) i<=tk rk (mirror (arrOf dF) lo (lo+x) _) j;rw[Lp mU,Lp mU,ζ (by lia),ζ (by lia)];exact tH _ _ (by lia) (by lia) (by lia)
  rw[<-e4]
  clear e4
  refine γ (kE (fun n=>(none,n)) cS (fun n=>decide (tk rk (arrOf cS) (lo+n)<tk rk (arrOf cS) (lo+n - 1))) iO (fun y m Q a b q=>γ (Q0 hc B4 (by lia) (by lia) ?_)) fun m tI hV up _=>?_)
  . by_cases hl:tk rk (arrOf cS) (lo+m)<tk rk (arrOf cS) (lo+m - 1)
    . simp only[hl,GF,DY]at q⊢;exact wpS_pure q
    . simp only[hl,GG,tB,DG]at q⊢;exact wpS_pure q
  . dsimp only;refine wpS_pure (h m _ (by lia) hV B4 L4 (s0.ups' tG tI fun i a b=>?_));have:=up i a b;simp only[CQ]at this
    lia
 case step=>
  rintro x c aB BO BQ ⟨B2,L2,q,rfl,hq,eB,al⟩
  have hU:lo+x<=(arrOf aB).size:=by rw[B2.size];lia
  dsimp only
  refine γ (Q0 hc B2 (by lia) (by lia) ?_)
  have ext:∀(xs:Array Keyed),(∀i j,lo<=i->i<=j->j<lo+x->tk rk xs j<=tk rk xs i)->tk rk xs (lo+x)<=tk rk xs (lo+x - 1)->∀i j,lo<=i->i<=j->j<lo+(x+1)->tk rk xs j<=tk rk xs i:=fun xs nx hx i j h0 h1 h2=>by
   by_cases hj:j=lo+x
   . subst hj;by_cases hi:i=lo+x
     . rw[hi];exact η _
     . exact CD hx (nx i (lo+x - 1) h0 (by lia) (by lia))
   . exact nx i j h0 h1 (by lia)
  by_cases hl:tk rk (arrOf aB) (lo+x)<tk rk (arrOf aB) (lo+x - 1)
  . simp only[hl,GF,DY];by_cases mT:q > 0
    . rw[ζ mT];have ea:=Kz hU al;refine γ (Cm (wpS_pure ⟨B2.set (mirror_perm _ _ _ _),L2.trans (.mirror (by lia) hU),0,rfl,by lia,ext _ (fun i j h0 h1 h2=>?_) ?_,fun k h0 h1=>by rw[show k=lo+(x+1) - 1 by lia]⟩))
      . show tk rk (mirror (arrOf aB) _ _ _) j<=tk rk (mirror (arrOf aB) _ _ _) i;rw[ea,ea];exact eB i j h0 h1 h2
      . show tk rk (mirror (arrOf aB) _ _ _) _<=tk rk (mirror (arrOf aB) _ _ _) _;rw[ea,ea];exact FW hl
    . rw[ξ mT];exact wpS_pure ⟨B2,L2,0,rfl,by lia,ext _ eB (FW hl),fun k h0 h1=>by rw[show k=lo+(x+1) - 1 by lia]⟩
  . simp only[hl,GG,tB,DG];refine γ (Q0 hc B2 (by lia) (by lia) ?_);by_cases hg:tk rk (arrOf aB) (lo+x - 1)<tk rk (arrOf aB) (lo+x)
    . simp only[hg,GF,DY];exact wpS_pure ⟨B2,L2,x,q,rfl,by lia,by lia,hq,eB,al⟩
    . simp only[hg,GG,tB,DG];refine wpS_pure ⟨B2,L2,q+1,rfl,by lia,ext _ eB (by lia),fun k h0 h1=>?_⟩;rw[show lo+(x+1) - 1=lo+x by lia];by_cases hk:k=lo+x
      . rw[hk]
      . rw[al k (by lia) (by lia)];lia
theorem TSo.down{xs:Array Keyed}{lo k l:Nat}(hz:lo+k<xs.size)(hl:l<=k)(hs:TSo rk xs lo (lo+k))(below:∀i,i<l->tk rk xs (lo+i)<=tk rk xs (lo+k))(above:∀i,l<=i->i<k->tk rk xs (lo+k)<tk rk xs (lo+i)) :
  TSo rk (bubble xs (lo+k) (lo+k - (lo+l))) lo (lo+(k+1)):=fun i j h0 pG hj=>by
 obtain⟨i,rfl⟩:∃i',i=lo+i':=⟨i - lo,by lia⟩
 obtain⟨j,rfl⟩:∃j',j=lo+j':=⟨j - lo,by lia⟩
 have val:∀m,m<=k->tk rk (bubble xs (lo+k) (lo+k - (lo+l))) (lo+m)=if m<l then tk rk xs (lo+m) else if m=l then tk rk xs (lo+k) else tk rk xs (lo+(m - 1)):=fun m hm=>by
  rw[zm0 hz (by lia)];by_cases a:m<l
  . rw[ξ (by lia),ξ (by lia),ζ a]
  . by_cases b:m=l
    . rw[ζ (by lia),ξ a,ζ b]
    . rw[ξ (by lia),ζ (by lia),ξ a,ξ b,show lo+m - 1=lo+(m - 1) by lia]
 have st:∀a b,a<=b->b<k->tk rk xs (lo+a)<=tk rk xs (lo+b):=fun a b u v=>hs _ _ (by lia) (by lia) (by lia)
 rw[val i (by lia),val j (by lia)]
 by_cases a:j<l
 . rw[ζ a,ζ (by lia)];exact st i j (by lia) (by lia)
 . rw[ξ a];by_cases b:i<l
   . rw[ζ b];by_cases c:j=l
     . rw[ζ c];exact below i b
     . rw[ξ c];exact st i (j - 1) (by lia) (by lia)
   . rw[ξ b];by_cases c:i=l
     . rw[ζ c];by_cases d:j=l
       . rw[ζ d];exact η _
       . rw[ξ d];exact FW (above _ (by lia) (by lia))
     . rw[ξ c,ξ (by lia)];exact st _ _ (by lia) (by lia)
def y5c(hc:S0 prog w A E s κ a₀ rk){st:SortSt}(B:TBs κ a₀ st){lo n ok:Nat}(hz:lo+n<=a₀.size)(h1:1<=ok)(hok:ok<=n)(hs:TSo rk (arrOf st) lo (lo+ok)){Q:Bool->SortSt->Prop}
  (h:∀u,TBs κ a₀ u->TL st u lo->TSo rk (arrOf u) lo (lo+n)->Q true u):wpS (model prog w) A E s (binarySort' lo n ok) Q st:=by
 rw[binarySort'_eq,Nat.max_eq_left h1]
 refine γ (wpS_mono (wpS_forRange (I:=fun k c u=>c=(none,())/\TBs κ a₀ u/\TL st u lo/\TSo rk (arrOf u) lo (lo+k))
  (Q:=fun c u=>c=(none,())/\TBs κ a₀ u/\TL st u lo/\TSo rk (arrOf u) lo (lo+n)) (fun k c u ha hb hI=>?_) (fun c u hI=>by rwa [Nat.max_eq_right hok]at hI) ⟨rfl,B,.refl _ _,hs⟩) fun c u hI=>?_)
 . obtain⟨rfl,B1,L1,hs⟩:=hI;have pH:lo+k<(arrOf u).size:=by rw[B1.size];lia
   refine γ (y12 (fun l r=>(none,l,r)) u (fun l r=>(l+r) / 2) (fun i=>decide (tk rk (arrOf u) (lo+i)<=tk rk (arrOf u) (lo+k))) (fun l r _=>by lia) (fun x l r Q a b c q=>?_) (fun x l Q _ q=>?_) (fun i j _ a b c=>?_) (DC _) (by lia) fun l _ hl lt gt=>?_)
   . dsimp only;rw[ξ (by lia)];refine γ (Q0 hc B1 (by lia) (by lia) ?_);by_cases z:tk rk (arrOf u) (lo+k)<tk rk (arrOf u) (lo+(l+r) / 2)
     . simp only[z,Nat.not_le.mpr z,GF,GG,tB,DY,DG]at q⊢;exact wpS_pure q
     . simp only[z,Nat.not_lt.mp z,GF,GG,tB,DY,DG]at q⊢;exact wpS_pure q
   . dsimp only;rw[ζ (η _)];exact wpS_pure q
   . simp only[ng]at c⊢;exact CD (hs _ _ (by lia) (by lia) (by lia)) c
   . dsimp only;rw[moveDown'_eq];refine γ (wpS_modify (wpS_pure ⟨rfl,B1.set (bubble_perm _ _ _),L1.trans ⟨fun j hj=>?_,rfl⟩,?_⟩))
     . show(bubble (arrOf u) (lo+k) (lo+k - (lo+l)))[j]?=_;rw[getElem?_bubble pH _ (by lia),ξ (by lia),ξ (by lia)]
     . exact TSo.down pH hl hs (fun i a=>by simpa using lt i (DC _) a) fun i a b=>by simpa using gt i a b
 . obtain⟨rfl,B1,L1,hs⟩:=hI;exact wpS_pure (h u B1 L1 hs)
end
abbrev Asc(rk:Keyed->Nat)(l:List Keyed):Prop:=l.Pairwise fun x y=>rk x<=rk y
section
variable {rk:Keyed->Nat}
def y13{xs:Array Keyed}(h:TSo rk xs 0 xs.size):Asc rk xs.toList:=by
 refine List.pairwise_iff_getElem.mpr fun i j hi hj pG=>?_
 simp only[ES]at hi hj;have:=h i j (DC _) (FW pG) hj;rw[Cn hi,Cn hj]at this;simpa using this
def y14:∀n,n<64->minRun' n n 0=n:=by decide
end
section
variable {prog:Program}{w:World}{E:Value->Shared->Prop}{s:Shared}{A:Around}{κ:SortKind}{a₀:Array Keyed}{rk:Keyed->Nat}
def xu{α:Type}{Q:α->SortSt->Prop}{C:Nat->SortSt->Prop}{p:Nat->Prop}{dp:∀n,Decidable (p n)}{t g:Nat->StateT SortSt Sem α}(R:Nat->SortSt->Prop)(hg:∀m u,R m u->wpS (model prog w) A E s (g m) Q u)(ht:∀n u,C n u->p n->(∀m u,R m u->wpS (model prog w) A E s (g m) Q u)->wpS (model prog w) A E s (t n) Q u)(hn:∀n u,C n u->¬p n->R n u):∀n u,C n u->wpS (model prog w) A E s (if p n then t n else g n) Q u:=by
 intro n u c;by_cases h:p n
 . rw[ζ h];exact ht n u c h hg
 . rw[ξ h];exact hg _ _ (hn n u c h)
def y15(hc:S0 prog w A E s κ a₀ rk){st:SortSt}(B:TBs κ a₀ st)(h2:2<=a₀.size)(fT:a₀.size<64)(hp:pendingOf st=#[]){Q:Unit->SortSt->Prop}(h:∀u,TBs κ a₀ u->Asc rk (arrOf u).toList->Q () u):wpS (model prog w) A E s sortRuns' Q st:=by
 rw[sortRuns'_eq];refine γ (wpS_get ?_);dsimp only;rw[B.size];refine γ (wpS_mono (wpS_forRange (I:=fun x c u=>TBs κ a₀ u/\((x=0/\c=(none,0)/\pendingOf u=#[])\/(c=(none,a₀.size)/\TSo rk (arrOf u) 0 a₀.size/\(pendingOf u).size<=1)))
  (Q:=fun c u=>TBs κ a₀ u/\c=(none,a₀.size)/\TSo rk (arrOf u) 0 a₀.size/\(pendingOf u).size<=1) ?step ?fin ⟨B,.inl ⟨rfl,rfl,hp⟩⟩) ?post)
 case fin=>
  rintro c u ⟨B1,⟨q,_⟩ |q⟩
  . exact absurd q (by simp only[Nat.zero_max];lia)
  . exact⟨B1,q⟩
 case post=>
  rintro c u ⟨B1,rfl,so,z⟩
  dsimp only
  refine γ (wpS_mono (wpS_forRange (I:=fun x c v=>c=(none,())/\v=u) (Q:=fun c v=>c=(none,())/\v=u) (fun x c v _ _ hI=>?_) (fun c v hI=>hI) ⟨rfl,rfl⟩) fun c v hI=>?_)
  . obtain⟨rfl,rfl⟩:=hI;refine γ (wpS_get ?_);rw[ζ z];exact wpS_pure ⟨rfl,rfl⟩
  . obtain⟨rfl,rfl⟩:=hI;exact wpS_pure (h v B1 (y13 (by rw[B1.size];exact so)))
 case step=>
  rintro x c u _ _ ⟨B1,⟨_,rfl,hp⟩ |⟨rfl,so,z⟩⟩
  rotate_left
  . dsimp only;rw[ζ (η _)];exact wpS_pure ⟨B1,rfl,so,z⟩
  dsimp only
  rw[ξ (by lia),y14 _ fT]
  refine γ (xv hc B1 (by lia) (by lia) fun n u1 n1 n2 B2 L2 so=>?_)
  dsimp only
  have hh:=And.intro n1 (And.intro n2 (And.intro B2 (And.intro L2 so)))
  clear n1 n2 B2 L2 so
  revert n u1
  refine xu (fun m u2=>m=a₀.size/\TSo rk (arrOf u2) 0 m/\TBs κ a₀ u2/\TL u u2 0) (fun m u2 hR=>?_) (fun n u1 ⟨n1,n2,B2,L2,so⟩ hn k=>?_) fun n u1 ⟨n1,n2,B2,L2,so⟩ hn=>⟨by lia,by simpa using so,B2,L2⟩
  rotate_left
  . refine γ (Rv ?_);refine γ (y5c hc B2 (n:=min (a₀.size - 0) a₀.size) (by lia) n1 (by lia) so fun u2 B3 L3 so2=>?_);rw[ξ (by simp)];exact k _ _ ⟨by lia,by simpa using so2,B3,L2.trans L3⟩
  . obtain⟨rfl,so3,B3,L4⟩:=hR;refine γ (wpS_get ?_);have eN:pendingOf u2=#[]:=L4.pend.trans hp;rw[eN];show wpS (model prog w) A E s _ _ u2;refine γ (wpS_modify (wpS_pure ?_));refine⟨⟨B3.perm,B3.kind,B3.ok⟩,.inr ⟨by simp,so3,?_⟩⟩;show((pendingOf u2).push _).size<=1;rw[eN];simp
end
section
variable {prog:Program}{w:World}{E:Value->Shared->Prop}{s:Shared}{A:Around}
noncomputable def w6(h:Heap)(a:Addr)(vs:List Value):Heap:=((h.update a (Obj.mapSeq fun _=>#[])).push (seqObj "tuple" vs.toArray 0)).push (seqObj "list" #[] 0)
def Zm(ho:h.get? a=some (seqObj "list" vs.toArray n)) :
  ∃k,(h.update a (Obj.mapSeq fun _=>#[])).get? a=some (seqObj "list" #[] k)/\(w6 h a vs).get? a=some (seqObj "list" #[] k):=
 ⟨_,get?_update_seq ho fun _=>#[],τ _ (τ _ (get?_update_seq ho fun _=>#[]))⟩
def zl(ho:s.heap.get? a=some (seqObj "list" vs.toArray n))(h2:2<=vs.length)(fT:vs.length<64)(hz:vs.length<=sizeLine)
  (hX:∀(Q:SortKind->Shared->Prop),Q κ { s with heap:=w6 s.heap a vs }->wpAny (model prog w) A (keyKind' vs.toArray) Q E { s with heap:=w6 s.heap a vs })
  (hc:S0 prog w A E { s with heap:=w6 s.heap a vs } κ (pairsOf vs) rk)
  (h:∀out:Array Keyed,out.Perm (pairsOf vs)->Asc rk out.toList->P (.done (.ret .none)) { s with heap:=sortedHeap s.heap a vs (out.map (·.2)) }):wpAny (model prog w) A (Builtin.«list.sort» ⟨[.ref a],[]⟩) P E s:=by
 obtain⟨k,k1,k2⟩:=Zm ho
 have nn:¬vs.toArray.size<2:=by rw[nF];lia
 rw[list_sort_plain]
 refine δ (listItems_at ho rfl (δ (listUpdate_at ho rfl (δ (seqEpoch_at k1 rfl (δ (wpAny_newTuple (δ (wpAny_newList (DM ?_) (DC _))) hz)))) (by rw[nF];exact hz) (DC _))))
 show wpAny (model prog w) A _ P E { s with heap:=w6 s.heap a vs }
 rw[ξ nn,ξ nn]
 refine δ (hX _ (δ (EM (y15 (st:=SortSt.mk' κ (pairsOf vs) #[] 7 none) hc ⟨.refl _,rfl,rfl⟩ (by rw[pairsOf_size];exact h2) (by rw[pairsOf_size];exact fT) rfl (Q:=fun _ u=>TBs κ (pairsOf vs) u/\Asc rk (arrOf u).toList) fun u B a=>⟨B,a⟩) ?_ fun _ _ x=>x)))
 rintro⟨⟨⟩,u⟩ s' ⟨rfl,B,hA⟩
 refine δ (seqEpoch_at k2 rfl (δ (listUpdate_at k2 rfl ?_ (DC _) (by rw[Array.size_map,B.size,pairsOf_size];exact Nat.le_succ_of_le hz))))
 rw[B.ok,bne_self_eq_false]
 exact ω (h _ B.perm hA)
noncomputable def y6(h:Heap)(vs:List Value):Heap:=((h.push (seqObj "list" #[] 0)).update h.objs.size (Obj.mapSeq (·++vs.toArray))).push (seqObj "list" vs.toArray 0)
def Lo(h:Heap)(vs:List Value):(y6 h vs).get? (h.objs.size+1)=some (seqObj "list" vs.toArray 0):=by
 have e:((h.push (seqObj "list" #[] 0)).update h.objs.size (Obj.mapSeq (·++vs.toArray))).objs.size=h.objs.size+1:=(GZ _ _ _).trans (size_push' _ _);unfold y6
 conv=>lhs;arg 2;rw[<-e]
 exact Ψ _ rfl
def zj3(q:h.get? b=some o):(w6 (y6 h vs) (h.objs.size+1) vs).get? b=some o:=by have lt:b<h.objs.size:=π q;refine τ _ (τ _ ?_);rw[Heap.get?_update_ne _ _ _ _ (CC (Nat.lt_add_right 1 lt))];refine τ _ ?_;rw[Heap.get?_update_ne _ _ _ _ (CC lt)];exact τ _ q
def zj4(hl:s.heap.IsList l vs.toArray)(h2:2<=vs.length)(fT:vs.length<64)(hz:vs.length<=sizeLine)
  (hX:∀(Q:SortKind->Shared->Prop),Q κ { s with heap:=w6 (y6 s.heap vs) (s.heap.objs.size+1) vs }->wpAny (model prog w) A.in1.in1 (keyKind' vs.toArray) Q (fun _ _=>False) { s with heap:=w6 (y6 s.heap vs) (s.heap.objs.size+1) vs })
  (hc:S0 prog w A.in1.in1 (fun _ _=>False) { s with heap:=w6 (y6 s.heap vs) (s.heap.objs.size+1) vs } κ (pairsOf vs) rk)
  (h:∀out:Array Keyed,out.Perm (pairsOf vs)->Asc rk out.toList->Q (.ref (s.heap.objs.size+1)) { s with heap:=sortedAll s.heap vs (out.map (·.2)) }):wpAny (model prog w) A (call (.builtin "sorted") [.ref l]) Q E s:=by
 have e:((s.heap.push (seqObj "list" #[] 0)).update s.heap.objs.size (Obj.mapSeq (·++vs.toArray))).objs.size=s.heap.objs.size+1:=(GZ _ _ _).trans (size_push' _ _)
 have b:=zl (s:={ s with heap:=y6 s.heap vs }) (E:=fun _ _=>False) (P:=fun f s'=>∃x,f=.done (.ret x)/\Q (.ref (s.heap.objs.size+1)) s') (Lo s.heap vs) h2 fT hz hX hc fun out p a=>⟨_,rfl,h out p a⟩
 apply Calls.call_function_entry kind_sorted plain_sorted entry_sorted (args_sorted1 (.ref l))
 unfold Builtin.«sorted»
 refine δ (m:=checkCount "sorted" 1 1 _) (ω (δ (collect_list hl (δ (wpAny_newList ?_ hz)) hz)))
 show wpAny _ _ _ _ _ { s with heap:=y6 s.heap vs }
 rw[e]
 refine δ (DM (wpAny_call_entry slot_list_sort ⟨_,Lo s.heap vs,rfl⟩ entry_list_sort (EM b (fun f s' q=>?_) fun _ _ x=>x.elim) (args_list_sort _)))
 obtain⟨x,rfl,q⟩:=q
 exact⟨_,rfl,ω ⟨_,rfl,q⟩⟩
end
def rkD(ds:List D)(d:D):Nat:=ds.countP fun e=>ltT e d
def Ru(h:ois ds=true)(hd:d∈ds)(he:e∈ds):decide (rkD ds d<rkD ds e)=ltT d e:=by
 have ho:∀x∈ds,x.oi=true:=fun x hx=>ois_mem.mp h x hx
 have up:∀{d e:D},d∈ds->e∈ds->ltT d e=true->rkD ds d<rkD ds e:=fun {d e} hd he q=>by
  unfold rkD;have le:∀l:List D,(∀x∈l,x∈ds)->l.countP (fun x=>ltT x d)<=l.countP (fun x=>ltT x e):=fun l hl=>
   List.countP_mono_left fun x hx tJ=>Co (ho x (hl x hx)) (ho d hd) (ho e he) tJ q
  obtain⟨l1,l2,rfl⟩:=List.append_of_mem hd;have a:=le l1 fun x hx=>by simp[hx]
  have b:=le l2 fun x hx=>by simp[hx]
  simp only[List.countP_append,List.countP_cons,q,Jk (ho d hd)];simp
  lia
 cases q:ltT d e with
 |true=>simpa using up hd he q
 |false=>
  cases q':ltT e d with
  |true=>have:=up he hd q';simp;lia
  |false=>obtain rfl:=Di (ho d hd) (ho e he) q q';simp
def Ay{d:D}(h:d.oi=true):(∃a,d=.int a)\/∃ds,d=.tup ds/\ois ds=true:=by
 cases d with
 |int a=>exact .inl ⟨a,rfl⟩
 |tup ds=>exact .inr ⟨ds,rfl,by simpa only [D.oi] using h⟩
 |_=>exact nomatch h
def xt{K:Frag}{H:Hp}{n:Nat}(ih:∀{d e:D}{x:V},d.dep<=n->d.oi=true->e.oi=true->RD K H d x->RD K H e x->d=e):∀{ds es:List D}{xs:List V},j0 ds<=n->ois ds=true->ois es=true->RDs K H ds xs->RDs K H es xs->ds=es:=by
 intro ds;induction ds with
 |nil=>
  intro es xs _ _ _ r1 r2
  have l:=r2.length
  rw[<-r1.length]at l
  exact(DO.mp l).symm
 |cons d ds tK=>
  intro es xs hd o1 o2 r1 r2
  cases es with
  |nil=>
   have l:=r1.length
   rw[<-r2.length]at l
   cases l
  |cons e es=>
   simp only[RDs]at r1 r2
   obtain⟨x,ys,h1,p1,q1⟩:=r1
   obtain⟨y,zs,h2,p2,q2⟩:=r2
   rw[h1]at h2;cases h2
   simp only[ois,gR]at o1 o2
   simp only[j0]at hd
   rw[ih (CD (Nat.le_max_left _ _) hd) o1.1 o2.1 p1 p2,tK (CD (Nat.le_max_right _ _) hd) o1.2 o2.2 q1 q2]
def y16{K:Frag}{H:Hp}:∀(n:Nat){d e:D}{x:V},d.dep<=n->d.oi=true->e.oi=true->RD K H d x->RD K H e x->d=e:=by
 intro n;induction n with
 |zero=>
  intro d e x hd o1 o2 r1 r2
  rcases Ay o1 with⟨a,rfl⟩ |⟨ds,rfl,_⟩
  . have h1:=r1.int;rcases Ay o2 with⟨b,rfl⟩ |⟨es,rfl,_⟩
    . have h2:=r2.int;rw[h1]at h2;cases h2;rfl
    . obtain⟨_,_,h2,_⟩:=r2.tup;rw[h1]at h2;cases h2
  . simp only[D.dep]at hd;exact absurd hd (Nat.not_succ_le_zero _)
 |succ n ih=>
  intro d e x hd o1 o2 r1 r2
  rcases Ay o1 with⟨a,rfl⟩ |⟨ds,rfl,p1⟩
  . have h1:=r1.int;rcases Ay o2 with⟨b,rfl⟩ |⟨es,rfl,_⟩
    . have h2:=r2.int;rw[h1]at h2;cases h2;rfl
    . obtain⟨_,_,h2,_⟩:=r2.tup;rw[h1]at h2;cases h2
  . obtain⟨a,ys,h1,q1,w1⟩:=r1.tup;rcases Ay o2 with⟨b,rfl⟩ |⟨es,rfl,p2⟩
    . have h2:=r2.int;rw[h1]at h2;cases h2
    . obtain⟨b,zs,h2,q2,w2⟩:=r2.tup;rw[h1]at h2;cases h2;rw[q1]at q2;cases q2;simp only[D.dep]at hd;rw[xt ih (Nat.le_of_succ_le_succ hd) p1 p2 w1 w2]
def y5d{K:Frag}{H:Hp}{d e:D}{x:V}(o1:d.oi=true)(o2:e.oi=true)(r1:RD K H d x)(r2:RD K H e x):d=e:=y16 d.dep (η _) o1 o2 r1 r2
def zfo(p:l.Perm m):∀{xs:List α},m=xs.map f->∃ys:List α,ys.Perm xs/\l=ys.map f:=by
 induction p with
 |nil=>intro xs h;exact⟨xs,.refl _,h⟩
 |cons a p ih=>
  intro xs h
  cases xs with
  |nil=>cases h
  |cons x xs=>
   simp only[gD,List.cons.injEq]at h
   obtain⟨ys,p',e⟩:=ih h.2
   exact⟨x::ys,p'.cons x,by rw[e,h.1];rfl⟩
 |swap a b l=>
  intro xs h
  match xs,h with
  |x::y::xs,h=>
   simp only[gD,List.cons.injEq]at h
   exact⟨y::x::xs,.swap _ _ _,by rw[h.1,h.2.1,h.2.2];rfl⟩
 |trans p q tL tM=>
  intro xs h
  obtain⟨ys,p',e⟩:=tM h
  obtain⟨zs,q',e'⟩:=tL e
  exact⟨zs,q'.trans p',e'⟩
def Zl(l:List D):(List.range l.length).map (fun i=>l.getD i (.int 0))=l:=by
 apply List.ext_getElem?;intro i;rw[CJ];by_cases hi:i<l.length
 . rw[List.getElem?_range hi];simp[hi]
 . rw[EN (by simpa using hi),EN (by simpa using hi)];rfl
noncomputable def atOf(its:List Value)(v:Value):Nat:=Classical.epsilon fun i=>i<its.length/\its.getD i Value.none=v
def Kc(h:i<its.length):atOf its (its.getD i Value.none)<its.length/\its.getD (atOf its (its.getD i Value.none)) Value.none=its.getD i Value.none:=by have hh:∃j,j<its.length/\its.getD j Value.none=its.getD i Value.none:=⟨i,h,rfl⟩;exact Classical.epsilon_spec hh
def Ap(ds:List D):Bool:=ois ds&&decide (j0 ds<=20)&&ds.all (fun d=>ds.all fun e=>(g9 d e).isSome)&&(ds.all isI||ds.all E6||ds.all N2)&&decide (ds.length<64)
def z7:List D->Option D
 | [.lst ds]=>if Ap ds=true then some (.lst (u6 ds)) else none
 |_=>none
def Rt(K:Frag):List V->Hp->VK->Prop:=fun xs H Q=>∃p ys ds,xs=[.ref p]/\H p=some (.lst ys)/\RDs K H ds ys/\Ap ds=true/\∀(l:Addr)(is:List Nat),H l=none->(∀i∈is,i<ys.length)->u6 ds=is.map (fun i=>ds.getD i (.int 0))->Q (.ref l) (upd H l (.lst (is.map fun i=>ys.getD i .non)))
def Ax{K:Frag}:v8 K true z7 (Rt K):=by
 intro H0 H xs ds z Q s r ho k;unfold z7 at ho;split at ho<;>first |cases ho |skip
 split at ho<;>cases ho;rename_i es hok;obtain⟨x,rfl,q1⟩:=r.uno;obtain⟨p,ys,rfl,hp,ry⟩:=q1.lst;refine⟨p,ys,es,rfl,s _ _ hp,ry.mono s,hok,fun l is hl hi he=>k _ _ (.new s hl fun H' hH=>?_)⟩;simp only[OB];refine⟨_,hH,?_⟩;rw[he];exact ry.pick hi
section
variable {X:Cx}{pins:List (Addr×Obj)}{σ:St}{H:Hp}{s:Shared}
def xr(hx:(∃k,x=.int k)\/∃a,x=.ref a)(hy:(∃k,y=.int k)\/∃a,y=.ref a)(r1:RelV x v)(r2:RelV y v):x=y:=by
 rcases hx with⟨k,rfl⟩ |⟨a,rfl⟩<;>rcases hy with⟨j,rfl⟩ |⟨b,rfl⟩<;>simp only[RelV]at r1 r2
 . obtain⟨t,rfl⟩:=r1;obtain⟨u,h⟩:=r2;cases h;rfl
 . obtain⟨t,rfl⟩:=r1;cases r2
 . obtain⟨t,rfl⟩:=r2;cases r1
 . subst r1;cases r2;rfl
def kD{K:Frag}{d:D}{x:V}(o:d.oi=true)(r:RD K H d x):(∃k,x=.int k)\/∃a,x=.ref a:=by
 cases d<;>simp only[D.oi]at o<;>first |cases o |skip
 . exact .inl ⟨_,r.int⟩
 . obtain⟨a,_,h,_⟩:=r.tup;exact .inr ⟨a,h⟩
def jp(vs:List Value):(pairsOf vs).toList=(List.range vs.length).map fun i=>((vs.getD i Value.none,vs.getD i Value.none):Keyed):=by
 unfold pairsOf;rw[Array.toList_zip];apply List.ext_getElem
 . simp
 . intro i h1 h2;simp at h1;simp[h1]
def Xq(h:x∈pairsOf vs):∃i,i<vs.length/\x=(vs.getD i Value.none,vs.getD i Value.none):=by rw[Array.mem_def,jp]at h;obtain⟨i,hi,e⟩:=CF.mp h;exact⟨i,EJ.mp hi,e.symm⟩
theorem Zk:∀(vs:List Value),(∀i,i<vs.length->∃n t,vs.getD i Value.none=.int n t)->∃ns,IntsAre vs ns
 | [],_=>⟨[],.nil⟩
 |v::vs,h=>by
  obtain⟨n,t,e⟩:=h 0 (by simp);obtain⟨ns,r⟩:=Zk vs fun i hi=>by simpa using h (i+1) (by simpa using hi)
  have e':v=.int n t:=by simpa using e
  subst e';exact⟨n::ns,.cons n t r⟩
def xq(ia:IntsAre vs ns)(h:2<=vs.length):keyKind' vs.toArray=pure oneType':=by
 match vs,ia,h with
 |v1::v2::vs,ia,_=>exact keyKind_ints ia
theorem Ao(hc:X.calm=true)(hu:X.A.units+64<cLine):CallR X (.builtin "sorted") (Rt X.K):=by
 intro pins s σ H xs us Q I r h;obtain⟨p,ys,ds,rfl,hp,rd,hok,k⟩:=h;obtain⟨u,rfl,ru⟩:=r8 r;cases ru;obtain⟨its,rv,pl,hz⟩:=I.list (.of hp);obtain⟨m,hn,_⟩:=id I.loc;have F:=Att.fr_all hn;have N:=Ev (g:=Att.noObjs s.heap) (h:=s.heap) (L:=X.env.locals);unfold Ap at hok;simp only[gR,EB,ng]at hok;obtain⟨⟨⟨⟨eY,AR⟩,ou⟩,cP⟩,fT⟩:=hok;have pI:=rd.length;have gI:=rv.length;have fin:∀{ib:Array Value}{is:List Nat},(∀i∈is,i<ys.length)->u6 ds=is.map (fun i=>ds.getD i (.int 0))->ib=(is.map fun i=>its.getD i Value.none).toArray->EP X pins σ Q (.ref (s.heap.objs.size+1)) { s with heap:=sortedAll s.heap its ib }:=fun {ib is} hi he hv=>by
  have ae:(is.map fun i=>ys.getD i .non).length<=sizeLine:=by
   have e1:is.length=ds.length:=by have:=DI List.length he;rw[bI,(N0 ds).length_eq]at this;exact this.symm
   rw[bI,e1,pI];exact hz
  obtain⟨e,eP⟩:=sortedAll_at s.heap its ib;have kp:∀b o,s.heap.get? b=some o->(sortedAll s.heap its ib).get? b=some o:=fun b o q=>sortedAll_old q
  have hN:=N.kept_cons F kp (HF _) eP;obtain⟨HD,I'⟩:=I.frnew (tk:=s.toks) (o:=.lst (is.map fun i=>ys.getD i .non)) hn (F.kept kp) hN (Heap.get?_none_of_le (HF _)) ⟨ae,_,e,rv.pick hi,by subst hv;exact(hN _ (.head _)).1⟩;exact⟨.ref _,_,I',rfl,k _ is HD hi he⟩
 by_cases h2:2<=its.length
 . have kp:∀b o,s.heap.get? b=some o->(w6 (y6 s.heap its) (s.heap.objs.size+1) its).get? b=some o:=fun b o q=>zj3 q
   have I':Inv X pins σ H { s with heap:=w6 (y6 s.heap its) (s.heap.objs.size+1) its }:=I.frn (tk:=s.toks) hn (F.kept kp) fun q hq=>(N.kept_cons F kp (HF _) (Zm (Lo s.heap its)).choose_spec.2) q (.tail _ hq)
   have tO:X.A.in1.in1.units+20<cLine:=by show X.A.units+1+1+20<cLine;lia
   have main:∀κ:SortKind,(∀(Q:SortKind->Shared->Prop),Q κ { s with heap:=w6 (y6 s.heap its) (s.heap.objs.size+1) its }->wpAny (model X.prog X.w) X.A.in1.in1 (keyKind' its.toArray) Q (fun _ _=>False) { s with heap:=w6 (y6 s.heap its) (s.heap.objs.size+1) its }) ->
     (∀(E:Value->Shared->Prop)(C:Bool->Shared->Prop)(i j:Nat),i<ys.length->j<ys.length->C (ltI ds i j) { s with heap:=w6 (y6 s.heap its) (s.heap.objs.size+1) its }->wpAny (model X.prog X.w) X.A.in1.in1 (keyLt' κ (its.getD i Value.none) (its.getD j Value.none)) C E { s with heap:=w6 (y6 s.heap its) (s.heap.objs.size+1) its }) ->
     wpAny (model X.prog X.w) X.A (call (.builtin "sorted") [.ref p]) (EP X pins σ Q) X.xe s:=by
    intro κ hX av
    refine zj4 (rk:=fun q=>rkD ds (ds.getD (atOf its q.1) (.int 0))) pl.isList h2 (by lia) (by lia) hX ?_ fun out tP hA=>?_
    . intro x y hx hy st Q' hk q;obtain⟨i,hi,rfl⟩:=Xq hx;obtain⟨j,hj,rfl⟩:=Xq hy;have ai:=Kc hi;have aj:=Kc hj;dsimp only at q;rw[Ru eY (M4 (by lia)) (M4 (by lia))]at q;rw[lt'_eq];refine γ (wpS_get (γ (wpS_lift (wpAny_attempt ?_))));rw[hk];dsimp only;generalize atOf its (its.getD i Value.none)=i' at *;generalize atOf its (its.getD j Value.none)=j' at *;rw[<-ai.2,<-aj.2];exact av _ _ i' j' (by lia) (by lia) ⟨rfl,wpS_pure q⟩
    . have e0:(pairsOf its).toList=(List.range its.length).map fun i=>((its.getD i Value.none,its.getD i Value.none):Keyed):=jp its
      obtain⟨is,pJ,pK⟩:=zfo (Array.perm_iff_toList_perm.mp tP) e0;have ie:∀i∈is,i<its.length:=fun i hi=>EJ.mp (pJ.mem_iff.mp hi)
      have pm:(is.map fun i=>ds.getD i (.int 0)).Perm ds:=by refine(pJ.map _).trans ?_;rw[show its.length=ds.length by lia,Zl]
      refine fin (is:=is) (fun i hi=>by have:=ie i hi;lia) (Az (Et (N0 _) eY) ((N0 _).trans pm.symm) (V5 eY) ?_) ?_
      . rw[pK]at hA;refine FQ.mpr ((FQ.mp hA).imp_of_mem fun {a b} ha hb bF=>?_);have same:∀i,i<its.length->ds.getD (atOf its (its.getD i Value.none)) (.int 0)=ds.getD i (.int 0):=fun i hi=>by have q:=Kc hi;have v1:=rv.getD (i:=atOf its (its.getD i Value.none)) (by lia);have v2:=rv.getD (i:=i) (by lia);have r1:=rd.getD (i:=atOf its (its.getD i Value.none)) (by lia);have r2:=rd.getD (i:=i) (by lia);have o1:=Ke (i:=atOf its (its.getD i Value.none)) eY;have o2:=Ke (i:=i) eY;rw[q.2]at v1;rw[xr (kD o1 r1) (kD o2 r2) v1 v2]at r1;exact y5d o1 o2 r1 r2
        dsimp only at bF;rw[same a (ie a ha),same b (ie b hb)]at bF;have z:=Ru eY (d:=ds.getD b (.int 0)) (e:=ds.getD a (.int 0)) (M4 (by have:=ie b hb;lia)) (M4 (by have:=ie a ha;lia));rw[<-z,CQ]
        lia
      . rw[<-Array.toList_inj,Array.toList_map,pK,DJ];rfl
   by_cases hI:ds.all isI=true
   . have gA:∀i,i<ys.length->∃n t,ds.getD i (.int 0)=.int n/\its.getD i Value.none=.int n t:=fun i hi=>by
      have r1:=rd.getD hi
      have v1:=rv.getD hi
      have m1:isI (ds.getD i (.int 0))=true:=DF.mp hI _ (M4 (by lia))
      generalize ds.getD i (.int 0)=d at *
      cases d<;>simp only[isI]at m1<;>first |cases m1 |skip
      rw[r1.int]at v1
      obtain⟨t,e⟩:=v1
      exact⟨_,t,rfl,e⟩
     refine main oneType' (fun Q' q=>?_) fun E C i j hi hj hC=>?_
     . have ia:∃ns,IntsAre its ns:=Zk its fun i hi=>by obtain⟨n,t,_,e⟩:=gA i (by lia);exact⟨n,t,e⟩
       obtain⟨ns,ia⟩:=ia;rw[xq ia h2];exact ω q
     . obtain⟨n,t,e1,e2⟩:=gA i hi;obtain⟨n',t',e3,e4⟩:=gA j hj;rw[e2,e4];refine PySem.W.kat_lt_int ?_;unfold ltI at hC;rw[e1,e3]at hC;simpa only [ltT] using hC
   . obtain⟨T,hT⟩:∃T:Bool,∀d∈ds,(if T=true then N2 d else E6 d)=true:=by
      rcases cP with (z |z) |z
      . exact absurd z hI
      . exact⟨false,fun d hd=>by rw[ξ θ];exact DF.mp z d hd⟩
      . exact⟨true,fun d hd=>by rw[ζ rfl];exact DF.mp z d hd⟩
     obtain⟨fs,t1,t2,t3⟩:=Sb (M:=model X.prog X.w) I' T hT rd rv
     refine main (tuples' ((.type (if T=true then "tuple" else "int"):Value) != Value.type "tuple")) (fun Q' q=>PySem.W.kat_kind t1 (by lia) t3 (by cases T<;>rfl) q) fun E C i j hi hj hC=>?_
     have r1:=rd.getD hi
     have r2:=rd.getD hj
     have v1:=rv.getD hi
     have v2:=rv.getD hj
     have m1:ds.getD i (.int 0)∈ds:=M4 (by lia)
     have m2:ds.getD j (.int 0)∈ds:=M4 (by lia)
     have o1:=(ois_mem.mp eY) _ m1
     have o2:=(ois_mem.mp eY) _ m2
     have d1:=Lg m1
     have f1:=hT _ m1
     have f2:=hT _ m2
     obtain⟨b,hb⟩:=Option.isSome_iff_exists.mp (DF.mp (DF.mp ou _ m1) _ m2)
     have tQ:b=ltI ds i j:=Sg hb
     rw[<-tQ]at hC
     generalize ds.getD i (.int 0)=da at *
     generalize ds.getD j (.int 0)=db at *
     have tp:∀{d:L2.D},(if T=true then N2 d else E6 d)=true->∃es,d=.tup es/\(T=false->∃k r,es=.int k::r):=fun {d} h=>by
      cases T with
      |false=>
       rw[ξ θ]at h
       cases d<;>simp only[E6]at h<;>first |cases h |skip
       rename_i es
       cases es with
       |nil=>simp at h
       |cons e es=>cases e<;>simp at h;exact⟨_,rfl,fun _=>⟨_,_,rfl⟩⟩
      |true=>
       rw[ζ rfl]at h
       cases d<;>simp only[N2]at h<;>first |cases h |skip
       exact⟨_,rfl,fun z=>nomatch z⟩
     obtain⟨ea,rfl,ka⟩:=tp f1
     obtain⟨eb,rfl,kb⟩:=tp f2
     obtain⟨a,xa,e1,ha,ra⟩:=r1.tup
     obtain⟨c,xc,e2,eL,rc⟩:=r2.tup
     rw[e1]at v1;rw[e2]at v2
     rw[show its.getD i Value.none=Value.ref a from v1,show its.getD j Value.none=Value.ref c from v2]
     obtain⟨ia,va,oa,tR,_,na,tS⟩:=I'.tupA ha
     obtain⟨ic,vc,oc,iu,_,nc,fA⟩:=I'.tupA eL
     simp only[L2.D.oi]at o1 o2
     simp only[L2.D.dep]at d1
     simp only[g9]at hb
     refine PySem.W.kat_lt tR tS iu fA (Ul I' tO hC 0 (fun tT _=>?_) o1 o2 (by lia) ra rc va vc hb (by simp))
     cases T with
     |false=>exact⟨ka rfl,kb rfl⟩
     |true=>exact absurd tT (by simp)
 . have tU:u6 ds=ds:=by
    match ds,pI,gI with
    | [],_,_=>rfl
    | [d],_,_=>rfl
    |_::_::_,a,b=>simp at a;lia
   have pz:∀l:List Value,l.length<2->(pairsOf l).map (·.2)=(List.map (fun i=>l.getD i Value.none) (List.range l.length)).toArray:=fun l hl=>by
    match l,hl with
    | [],_=>simp[pairsOf]
    | [v],_=>simp[pairsOf]
    |_::_::_,z=>simp at z;lia
   refine zdm pl.isList (by lia) (fin (is:=List.range its.length) (fun i hi=>by simp at hi;lia) ?_ (pz its (by lia)))
   rw[tU,show its.length=ds.length by lia,Zl]
end
noncomputable def tTM(r:V->List V->Hp->VK->Prop)(to:TE)(t:TA):TE:=fun σ H Q=>to σ H fun x H1=>(∃a xs,x=.ref a/\H1 a=some (.tup xs))/\t σ H1 fun xs H2=>r x xs H2 Q
def y5e{X:Cx}{o e:Expr}{es:List Expr}{to:TE}{t:TA}{name:Str}{aq ag:Pos}{id:String}{r:V->List V->Hp->VK->Prop}(slot:Slot "tuple" name id)(dy:typeOf (.builtin id)=pure (.type "method_descriptor"))(hm:MtM X id r)(ho:PE X o to)(ha:PA X (e::es) t)
  (aP:attributeBase o name X.env (eval o X.env)=eval o X.env:=by rfl)
  (bK:((backTo ag (starEach (e::es) X.env)).all (fun x=>!x.1)&&(backToKw ag (keywordEach [] X.env)).all (fun x=>x.1.isSome)
   && decide ((e::es).length+([]:List Keyword).length+(if([]:List Keyword).isEmpty then 0 else 1)<30))=true:=by rfl)
  (aQ:(aq.endLine==ag.line)=true:=by rfl) (hs:starEach (e::es) X.env=(false,eval e X.env)::starEach es X.env:=by rfl) (aG:(backTo ag (starEach es X.env)).any (·.1)=false:=by rfl) :
  PE X (.Call (.Attribute o name aq) (e::es) [] ag) (tTM r to t):=by
 intro pins s σ H Q I h
 refine wpAny_Call_method_late aP bK aQ rfl (thn (ho pins s σ H _ I h) fun v s1 ⟨x,H1,I1,r1,ty,q1⟩=>?_)
 obtain⟨a,xs,rfl,hH⟩:=ty
 cases r1
 obtain⟨_,its,_,ob,e1,hc,_,hd⟩:=(show ObjOk X.prog X.w H1 s1.heap a (.tup xs) from I1.hok a _ hH)
 refine⟨"tuple",id,PySem.F.plainAttrs_tuple,slot,dy,⟨ob,e1,hc⟩,fun b z=>by cases z;exact⟨ob,e1,hd⟩,?_⟩
 have hA:=ha ag pins s1 σ H1 _ I1 q1
 rw[hs]at hA⊢
 refine Calls.callWith_builtin (by show(false||(backTo ag (starEach es X.env)).any (·.1))=false;rw[aG]<;>rfl) (Calls.evalArgs_plain ?_)
 exact thn hA fun us s2 ⟨vs,H2,I2,r2,q2⟩=>hm pins s2 σ H2 (.ref a) vs (.ref a) us Q I2 rfl r2 q2
noncomputable def eNo:DE->R D:=fun _=>.st
def xn:QE X EX fr e eNo:=⟨fun _ _ _ _ _ _ ⟨_,_,_,_,_,z⟩=>z.elim⟩
abbrev Kp(is:List Nat)(σ ac:St):Prop:=∀i∈is,ac[i]?=σ[i]?
noncomputable def Gv(is:List Nat)(De:Ends)(σ:St):Ends:={ De with nx:=fun ac H'=>Kp is σ ac->De.nx ac H',bk:=fun ac H'=>Kp is σ ac->De.bk ac H',ct:=fun ac H'=>Kp is σ ac->De.ct ac H' }
def TSk(K:Frag)(EX:XW)(is:List Nat)(g:DS->SR):TS:=fun De σ H=>TSd K EX false g (Gv is De σ) σ H
structure QK(X:Cx)(EX:XW)(is:List Nat)(st:Stmt)(g:DS->SR):Prop where
 h:PS X st (TSk X.K EX is g)
structure QKB(X:Cx)(EX:XW)(is:List Nat)(sts:List Stmt)(g:DS->SR):Prop where
 h:PSs X sts (TSk X.K EX is g)
def TGk(K:Frag)(is:List Nat)(tt:Tg):TG:=fun v σ H Q=>TGd K tt v σ H fun ac H'=>Kp is σ ac->Q ac H'
structure QGk(X:Cx)(is:List Nat)(tg:Expr)(tt:Tg):Prop where
 h:PG X tg (TGk X.K is tt)
def SK.mon{K:Frag}{EX:XW}{fr:Bool}{Hc Hb:Hp}{D1 D2:Ends}{r:SR}(h:SK K EX fr Hc Hb D1 r)(hn:∀σ H,D1.nx σ H->D2.nx σ H)(hb:∀σ H,D1.bk σ H->D2.bk σ H)(hc:∀σ H,D1.ct σ H->D2.ct σ H)(hr:∀v H,D1.rt v H->D2.rt v H):SK K EX fr Hc Hb D2 r:=by
 cases r with
 |nx ρ=>exact fun σ H H0 R=>hn σ H (h σ H H0 R)
 |bk ρ=>exact fun σ H H0 R=>hb σ H (h σ H H0 R)
 |ct ρ=>exact fun σ H H0 R=>hc σ H (h σ H H0 R)
 |rt d=>exact fun v H o=>hr v H (h v H o)
 |er x=>exact h
 |st=>exact h
def TSd.mon{K:Frag}{EX:XW}{fr:Bool}{D1 D2:Ends}{g:DS->SR}{σ:St}{H:Hp}(h:TSd K EX fr g D1 σ H)(hn:∀σ H,D1.nx σ H->D2.nx σ H)(hb:∀σ H,D1.bk σ H->D2.bk σ H)(hc:∀σ H,D1.ct σ H->D2.ct σ H)(hr:∀v H,D1.rt v H->D2.rt v H):TSd K EX fr g D2 σ H:=by obtain⟨Hc,Hb,H0,ρ,sb,R,h⟩:=h;exact⟨Hc,Hb,H0,ρ,sb,R,h.mon hn hb hc hr⟩
def Kp.trans(h:Kp is a b)(k:Kp is b c):Kp is a c:=fun i hi=>(k i hi).trans (h i hi)
def Kp.set(h:i∉is):Kp is σ (σ.set i v):=fun j hj=>EO (fun e:i=j=>h (by rw[e];exact hj))
section
variable {X:Cx}{EX:XW}{is:List Nat}{st:Stmt}{sts:List Stmt}{c e:Expr}{f fv fk:DE->R D}{t:DE->R Bool}{g g1 g2:DS->SR}{pos:Pos}{m:List Bool}
def y17:QKB X EX is [] sNx:=⟨pss_nil.imp fun _ _ _ q=>(Ov q) fun _ _=>rfl⟩
def Jb(h:QK X EX is st g):QKB X EX is [st] g:=⟨Ko h.h⟩
def Ue(h1:QK X EX is st g1)(h2:QKB X EX is sts g2):QKB X EX is (st::sts) (c9 g1 g2):=⟨(Eu h1.h h2.h).imp fun De σ H q=>by
 have q:=Hd q;unfold Gh at q⊢;refine TSd.mon q (fun cQ H1 n k=>?_) (fun _ _ b=>b) (fun _ _ b=>b) fun _ _ b=>b
 exact TSd.mon n (fun aV H2 n2 k2=>n2 (k.trans k2)) (fun aV H2 n2 k2=>n2 (k.trans k2)) (fun aV H2 n2 k2=>n2 (k.trans k2)) fun _ _ b=>b⟩
def y8k(hc:QT X EX c t)(ha:QKB X EX is x g1)(hb:QKB X EX is y g2):QK X EX is (.If c x y pos) (sIf t g1 g2):=⟨(Qf hc.h ha.h hb.h).imp fun _ _ _ q=>Pl q⟩
def qZ(mV:i∉is)(hN:X.N.Nodup)(hi:X.N[i]?=some x)(hx:Loc X.env.scope x)(he:QE X EX cz e f)(hs:swapsWith e (some (.Name x aF)) pos.line X.env=pure false:=by rfl)(hf:X.fn x=true\/X.env.scope.names.lookup x=some .local:=by exact .inl rfl) :
  QK X EX is (.Assign [.Name x aF] e pos) (e7 cz i m f):=⟨(Jp hN hi hx he.h hs hf).imp fun De σ H q=>by
 have q:=Cp q
 unfold B8 u8 at q⊢
 exact TEd.mono' q fun v H' n=>n (Kp.set mV)⟩
def y19(hu:X.A.units+64<cLine)(ho:PE X o (n8 i))(hk:QE X EX false ix fk)(hv:QE X EX false e fv)
  (ha:∀v,assign (.Subscript o ix ay) X.env v=(do
   let ov <-holding [v] (eval o X.env)
   let iv <-holding [v,ov] (eval ix X.env)
   standAt ay
   holding [v,ov,iv] (setItem ov iv v)
   release [v,ov,iv] []):=by intro _;rfl) (hs:swapsWithSole [.Subscript o ix ay] e pos.line X.env=pure false:=by rfl) (hw:swappedStores [.Subscript o ix ay] e X.env=pure none:=by rfl)
  (h1:(assignEach [.Subscript o ix ay] X.env).map (·.2)=[assign (.Subscript o ix ay) X.env]:=by rfl):QK X EX is (.Assign [.Subscript o ix ay] e pos) (Ca dSetN i m fk fv):=⟨(wl hv.h (wm ho hk.h (y53 hu) ha) hs hw h1).imp fun De σ H q=>by
 have q:=y3y xB q
 unfold B8 Gf Gv Kp at q
 simp only[implies_true,true_implies]at q
 exact q⟩
def kB(mV:i∉is)(hN:X.N.Nodup)(hi:X.N[i]?=some x)(hx:Loc X.env.scope x)(hf:X.fn x=true\/X.env.scope.names.lookup x=some .local:=by exact .inl rfl):QGk X is (.Name x pos) (.n i):=⟨(Ei hN hi hx hf).imp fun _ σ _ _ q=>(kS q) (Kp.set mV)⟩
theorem qY(hp:PassesOwn (model X.prog X.w) X.A X.env X.xe)(hc:X.calm=true)(hi:QI X EX kp tg iter fi)(hg:QGk X is tg tt)(hb:QKB X EX is body g)
  (hs:∀x,foldedSetIterable iter X.env x=pure x:=by intro _;rfl):QK X EX is (.For tg iter body [] pos) (v6 kp m fi tt g):=⟨(Vf hp hc hi.h hg.h hb.h hs).imp fun De σ H q=>by
 obtain⟨sx,ρ,H0,s,e,h⟩:=Pj q
 refine⟨sx,ρ,H0,s,e,h.mono fun ds z J H' aa s' e' it=>?_⟩
 obtain⟨W,⟨n,w0⟩,turn⟩:=z J H' aa s' e' it
 refine⟨fun i n cQ H1=>W i n cQ H1/\Kp is σ cQ,⟨n,w0,fun _ _=>rfl⟩,fun i n cQ H1 ⟨w,k⟩=>?_⟩
 rcases turn i n cQ H1 w with⟨a,b⟩ |⟨go,N,hN,step⟩
 . exact .inl ⟨a,b k⟩
 . refine .inr ⟨go,fun ac H'=>N ac H'/\Kp is σ ac,fun ac H' ⟨a,b⟩=>?_,fun x H2 y=>?_⟩
   . obtain⟨n',hl,w'⟩:=hN ac H' a;exact⟨n',hl,w',b⟩
   . obtain⟨Hc,Hb,H3,tV,d,tW,I,r,e3,q3⟩:=step x H2 y;refine⟨Hc,Hb,H3,tV,d,tW,I,r,e3,fun ac I' k2=>?_⟩;have kk:=k.trans k2;exact TSd.mon (q3 ac I') (fun dM H5 a k5=>⟨a,kk.trans k5⟩) (fun dM H5 a k5=>a (kk.trans k5)) (fun dM H5 a k5=>⟨a,kk.trans k5⟩) fun _ _ a=>a⟩
end
section
variable {K:Frag}{σ:St}{H:Hp}
def RS.hidden(R:RS K Hc Hb H0 ρ σ H)(q:ρ[i]?=some (.ow d))(h1:σ[i]?=some (some (.ref a)))(s':Same (hid [a] H) H')(e':Ext H0 (hid [a] H) aa H')(n':aa a=none)(ob:OB K aa H' a d'):RS K Hc Hb aa (ρ.set i (.ow d')) σ H':=by
 obtain⟨a',z1,z2,z3,z4⟩:=R.ow i d q;rw[h1]at z1;cases z1;have iP:Same Hb (hid [a] H):=fun b o hb=>by rw[Dy fun hm=>by rw[gV.mp hm,z3]at hb;cases hb];exact R.sb b o hb
 refine⟨iP.trans s',⟨R.ext.1.trans e'.1,e'.2.1,fun b hb hc=>e'.nt (iP.ne hb) (R.ext.2.2 b hb hc)⟩,by simp[R.len],fun j e qj=>?_,fun j e qj=>?_,fun j k e1 e2 b q1 q2 s1 s2=>?_⟩
 . rcases Dx qj with⟨_,z⟩ |⟨_,qj⟩
   . cases z
   . obtain⟨v,v1,v2⟩:=R.im j e qj;exact⟨v,v1,v2.mono e'.1⟩
 . rcases Dx qj with⟨e0,z⟩ |⟨ne,qj⟩
   . subst e0;cases z;exact⟨a,h1,n',z3,ob⟩
   . obtain⟨b,b1,b2,b3,b4⟩:=R.ow j e qj;have na:b∉[a]:=fun hm=>ne (R.ap i j _ _ _ q qj h1 (by rw[b1,gV.mp hm]))
     obtain⟨o,ho,ni⟩:=b4.some;have hh:hid [a] H b=some o:=by rw[Dy na];exact ho
     refine⟨b,b1,e'.no s' hh ni b2,b3,?_⟩;exact(b4.at (by rw[ho];exact s' b o hh)).mono e'.1 (Same.refl _)
 . have dc:∀(j:Nat) e,(ρ.set i (.ow d'))[j]?=some (.ow e)->∃e0,ρ[j]?=some (.ow e0):=fun j e qj=>by
    rcases Dx qj with⟨e0,_⟩ |⟨_,qj⟩
    . subst e0;exact⟨_,q⟩
    . exact⟨_,qj⟩
   obtain⟨x1,y1⟩:=dc j e1 q1
   obtain⟨x2,y2⟩:=dc k e2 q2
   exact R.ap j k _ _ b y1 y2 s1 s2
end
section
variable {X:Cx}{EX:XW}{is:List Nat}{st:Stmt}{sts:List Stmt}{e:Expr}{g g1 g2:DS->SR}{pos:Pos}{m:List Bool}
def y5f{T id:String}{name:Str}{i:Nat}{x:Str}{xp aq ag:Pos}{es:List Expr}{fs:DE->R (List D)}{mt:D->List D->Option D}{rr:V->List V->Hp->VK->Prop}(pa:PlainAttrs T)(slot:Slot T name id)(dy:typeOf (.builtin id)=pure (.type "method_descriptor"))(hm:MtM X id rr)(od:X6 X.K mt rr)(hT:TyD X.K T)
  (ho:PE X (.Name x xp) (n8 i)) (ha:QA X EX (e::es) fs)
  (aP:attributeBase (.Name x xp) name X.env (eval (.Name x xp) X.env)=eval (.Name x xp) X.env:=by rfl)
  (bK:((backTo ag (starEach (e::es) X.env)).all (fun x=>!x.1)&&(backToKw ag (keywordEach [] X.env)).all (fun x=>x.1.isSome)
   && decide ((e::es).length+([]:List Keyword).length+(if([]:List Keyword).isEmpty then 0 else 1)<30))=true:=by rfl)
  (aQ:(aq.endLine==ag.line)=true:=by rfl) (hs:starEach (e::es) X.env=(false,eval e X.env)::starEach es X.env:=by rfl) (aG:(backTo ag (starEach es X.env)).any (·.1)=false:=by rfl)
  (cW:swapsWith (.Call (.Attribute (.Name x xp) name aq) (e::es) [] ag) none pos.line X.env=pure false:=by rfl) :
  QK X EX is (.Expr (.Call (.Attribute (.Name x xp) name aq) (e::es) [] ag) pos) (v7 T mt i m fs):=⟨(Kn (Cs pa slot dy hm ho ha.h aP bK aQ hs aG) cW).imp fun De σ H q=>by
 have q:=Pk od hT q
 unfold T1 Gv Kp at q
 unfold T1
 simp only[implies_true,true_implies]at q
 exact q⟩
noncomputable def y5g(is:List Nat)(i:Nat)(De:Ends)(σ:St):Ends:={ De with nx:=fun ac H'=>Kp is σ ac->∃v,ac[i]?=some (some v)/\De.rt v H',bk:=fun _ _=>False,ct:=fun _ _=>False,rt:=fun _ _=>False }
structure QKR(X:Cx)(EX:XW)(is:List Nat)(sts:List Stmt)(i:Nat)(g:DS->SR):Prop where
 h:PSs X sts (fun De σ H=>TSd X.K EX false g (y5g is i De σ) σ H)
def y5h(hN:X.N[i]?=some x:=by rfl)(hv:Vis X.env.scope x:=by first |exact .inl rfl |exact .inr (.inl rfl) |exact .inr (.inr rfl))(hd:(x==("__debug__":Str))=false:=by decide)
  (bB:(x==("__classdict__":Str))=false:=by decide):QKR X EX is [.Return (some (.Name x p)) pos] i sNx:=⟨(Ko (Jq (pw i hN hv hd bB))).imp fun De σ H q=>by
 obtain⟨v,hv,r⟩:=(Ov q) fun _ _=>rfl
 show n8 i σ H De.rt
 unfold n8
 rw[hv]
 exact r⟩
def Rs(h1:QK X EX is st g1)(h2:QKR X EX is sts i g2):QKR X EX is (st::sts) i (c9 g1 g2):=⟨(Eu h1.h h2.h).imp fun De σ H q=>by
 have q:=Hd q;unfold Gh at q⊢;refine TSd.mon q (fun cQ H1 n k=>?_) (fun _ _ b=>b.elim) (fun _ _ b=>b.elim) fun _ _ b=>b.elim
 exact TSd.mon n (fun aV H2 n2 k2=>n2 (k.trans k2)) (fun _ _ b=>b) (fun _ _ b=>b) fun _ _ b=>b⟩
end
def spW(K:Frag)(mW:List D->R (D×D)):Sp:=fun vs H Q _=>∃(d0 d1:D)(w:V)(a:Addr)(H0:Hp),vs=[w,.ref a]/\Same H0 H/\H0 a=none/\OB K H0 H a d1/\RD K H0 d0 w /\
 Rk (fun _=>False) (mW [d0,d1]) fun r=>∀H' aa p,Same (hid [a] H) H'->Ext H0 (hid [a] H) aa H'->aa a=none->OB K aa H' a r.1->p≠a->hid [a] H p=none->aa p=none->OB K aa H' p r.2->Q (.ref p) H'
noncomputable def Fq(k i:Nat)(g:DS->SR):List D->R (D×D)
 | [d0,d1]=>match g (.im d0::.ow d1::List.replicate k .em) with
  | .nx ρ=>match (ρ[1]?:Option Sl),(ρ[i]?:Option Sl) with
   |some (.ow d'),some (.ow r)=>.ok (d',r)
   |_,_=>.st
  |_=>.st
 |_=>.st
def y1b{K:Frag}{H0 H:Hp}{d0 d1:D}{w:V}{a:Addr}(s:Same H0 H)(h0:H0 a=none)(ob:OB K H0 H a d1)(r:RD K H0 d0 w)(k:Nat) :
  RS K H0 (hid [a] H) H0 (.im d0::.ow d1::List.replicate k .em) (some w::some (.ref a)::List.replicate k none) H:=by
 have em:∀(i:Nat)(s:Sl),(List.replicate k Sl.em)[i]?=some s->s=.em:=fun i s q=>(List.mem_replicate.mp (DQ q)).2
 have one:∀(i:Nat) e,(Sl.im d0::Sl.ow d1::List.replicate k Sl.em)[i]?=some (.ow e)->i=1/\d1=e:=fun i e q=>by
  match i,q with
  | 0,q=>cases q
  | 1,q=>cases q;exact⟨rfl,rfl⟩
  |i+2,q=>exact absurd (em i _ q) (fun z=>nomatch z)
 refine⟨fun b o h=>?_,⟨Same.refl _,s,fun a ha e=>.inl e⟩,by simp,fun i e q=>?_,fun i e q=>?_,fun i j e e' b qi qj si sj=>?_⟩
 . unfold hid at h;split at h
   . cases h
   . exact h
 . match i,q with
   | 0,q=>cases q;exact⟨w,rfl,r⟩
   | 1,q=>cases q
   |i+2,q=>exact absurd (em i _ q) (fun z=>nomatch z)
 . obtain⟨rfl,rfl⟩:=one i e q;exact⟨a,rfl,h0,y0n (gV.mpr rfl),ob⟩
 . obtain⟨rfl,_⟩:=one i e qi;obtain⟨rfl,_⟩:=one j e' qj;rfl
def fnW{P:Program}{w:World}{K:Frag}{mg:Str->Option Value}{base:Heap}{x qual:Str}{st:Stmt}{f:Addr}{fd:FuncData}{N ps:List Str}{k kk i:Nat}{g:DS->SR}(F:Fun K x qual st f fd)(S:FnScope N ps (d7 st))(gX:ps.length=2)(hN:N.length=2+kk)(hi:i≠1)
  (bg:∀(cdv:Value)(A:Around)(outer:List Env)(s:Shared)(H:Hp)(E:XK),Room k (A.deeper (envOfC qual (d7 st) s.heap.objs.size f cdv)) ->
   QKR (C9 (CX1 P w) P w K mg base N qual (d7 st) f cdv A outer s H E) F0 [1] (l7 st) i g):FnOk P w K mg base (CX1 P w) (k+1) f fd ps (spW K (Fq kk i g)):=by
 refine F.okX S (fun vs H Q E h=>?_) (fun cdv A outer s H vs Q E hr h=>?_)
 . obtain⟨d0,d1,w,a,H0,rfl,_⟩:=h;rw[gX];rfl
 . refine⟨_,(bg cdv A outer s H E hr).h,?_⟩;obtain⟨d0,d1,w,a,H0,rfl,s0,h0,ob,r,h⟩:=h;have e:start N [w,.ref a]=some w::some (.ref a)::List.replicate kk none:=by unfold start;rw[hN,show 2+kk - [w,V.ref a].length=kk by simp];rfl
   rw[e];refine⟨H0,hid [a] H,H0,Sl.im d0::Sl.ow d1::List.replicate kk Sl.em,F0.same _,y1b s0 h0 ob r kk,?_⟩;unfold Fq at h;simp only at h;cases q:g (Sl.im d0::Sl.ow d1::List.replicate kk Sl.em) with
   |nx ρ=>
    rw[q]at h
    intro ac H' aa RR kp
    simp only at h
    split at h
    . rename_i d' r' q1 q2;obtain⟨a',z1,z2,z3,z4⟩:=RR.ow 1 d' q1;obtain⟨p,y1,y2,y3,y4⟩:=RR.ow i r' q2;have:=kp 1 (gV.mpr rfl);rw[z1]at this;cases this;refine⟨.ref p,y1,h H' aa p RR.sb RR.ext z2 z4 (fun z=>?_) y3 y2 y4⟩;subst z;exact hi (RR.ap i 1 _ _ p q2 q1 y1 z1)
    . exact h.elim
   |rt d=>rw[q]at h;exact h.elim
   |er x=>rw[q]at h;exact h.elim
   |bk ρ=>rw[q]at h;exact h.elim
   |ct ρ=>rw[q]at h;exact h.elim
   |st=>rw[q]at h;exact h.elim
def Bx(i j:Nat)(m:List Bool)(mW:List D->R (D×D))(f0:DE->R D):DS->SR:=fun ρ=>(f0 (vis m ρ)).toS fun d0=>match (j9 (keeps false d0) m ρ)[j]? with
 |some (.ow d1)=>(match mW [d0,d1] with
  | .ok r=>.nx (((j9 (keeps false d0) m ρ).set j (.ow r.1)).set i (.ow r.2))
  |_=>.st)
 |_=>.st
section
variable {K:Frag}{EX:XW}{fr:Bool}{De:Ends}{σ:St}{H:Hp}{m:List Bool}
def y5i(h:TSd K EX fr (Bx i j m mW f0) De σ H) :
  B8 (Dl (spW K mW) E (C4 (TEd K EX false f0) (C4 (n8 j) G4))) (u8 i) De σ H:=by
 obtain⟨Hc,Hb,H0,ρ,sb,R,h⟩:=h
 unfold Bx at h
 rw[SK.toS]at h
 refine R.te sb h fun d0 h v H' aR R' ap=>?_
 have rd:=ap.rd
 split at h
 . rename_i d1 q;obtain⟨a,z1,z2,z3,z4⟩:=R'.ow j d1 q;unfold C4 n8;rw[z1];refine⟨d0,d1,v,a,aR,rfl,R'.ext.2.1,z2,z4,rd,?_⟩;split at h
   . rename_i r qm;rw[qm];intro H2 pL p s2 e2 n2 tX iQ hp n3 tY;have RR:=R'.hidden q z1 s2 e2 n2 tX;have iP:Same Hb (hid [a] H'):=fun b o hb=>by rw[Dy fun hm=>by rw[gV.mp hm,z3]at hb;cases hb];exact R'.sb b o hb
     have AP:Apt K true Hb pL ((j9 (keeps false d0) m ρ).set j (.ow r.1)) σ H2 r.2 (.ref p):=by
      unfold Apt;rw[ζ rfl];refine⟨p,rfl,n3,iP.none hp,tY,fun k e qk hk=>?_⟩;rcases Dx qk with⟨e0,_⟩ |⟨ne,qk⟩
      . subst e0;rw[z1]at hk;cases hk;exact iQ rfl
      . obtain⟨b,b1,b2,b3,b4⟩:=R'.ow k e qk;rw[hk]at b1;cases b1;obtain⟨o,ho,_⟩:=b4.some;rw[Dy fun hm=>iQ (gV.mp hm),ho]at hp;cases hp
     exact h _ H2 pL (RR.put AP i)
   . exact h.elim
 . exact h.elim
end
section
variable {X:Cx}{EX:XW}{fr:Bool}
def y5j(hN:X.N.Nodup)(hi:X.N[i]?=some x)(hx:Loc X.env.scope x)(G:i7 X.prog X.w X.K X.mg X.base fn ps kl (spW X.K mW))(hr:Room jj X.A)(hg:Gl X fn)(h0:QE X EX false e0 f0)(h1:PE X e1 (n8 j))(fB:kl<=jj:=by omega)(aW:(fn==("__debug__":Str))=false:=by decide)
  (he:starEach [e0,e1] X.env=(false,eval e0 X.env)::starEach [e1] X.env:=by rfl) (mG:starEach [e1] X.env=(false,eval e1 X.env)::starEach [] X.env:=by rfl) (hpl:(backTo cp (starEach [e1] X.env)).any (·.1)=false:=by rfl)
  (hs:swapsWith (.Call (.Name fn fp) [e0,e1] [] cp) (some (.Name x aF)) pos.line X.env=pure false:=by rfl) (hf:X.fn x=true\/X.env.scope.names.lookup x=some .local:=by first |exact .inl rfl |exact .inr rfl |assumption) :
  QS X EX fr (.Assign [.Name x aF] (.Call (.Name fn fp) [e0,e1] [] cp) pos) (Bx i j m mW f0):=
 ⟨(Jp hN hi hx (Uw G (G2 (X:=X)).on hr hg (J7 h0.h (J7 h1 pa_nil mG) he) fB aW he hpl) hs hf).imp fun _ _ _ q=>y5i q⟩
end
section
open PySem.AutoSeq1 (wpAny_loadPart')
end
end L2
namespace L2
open PySem PySem.Spec PyProof.Rows
def dInN(neg:Bool):D->D->Option D
 | .tup es,.dn ks _=>match nkD (.tup es) with
  |some k=>if k.dep<=8 then some (.bl (if neg=true then !decide (k∈ks) else decide (k∈ks))) else none
  |none=>none
 |_,_=>none
def rInN(neg:Bool):R2:=fun y x H Q=>∃(a:Addr)(qs:List (NK×Addr))(xs:List V)(ob:Obj)(k:NK)(b:Addr),x=.ref a/\y=.ref b/\H a=some (.ext (dnP a qs xs ob))/\DN H a qs/\NKr H k (.ref b)/\k.dep<=8 /\
 Q (.bl (if neg=true then !decide (k∈qs.map (·.1)) else decide (k∈qs.map (·.1)))) H
section
variable {X:Cx}{K:Frag}
def y5k(qs:List (NK×Addr))(vs:List Value)(h:qs.length=vs.length)(k:NK):(atKey (z3 qs vs) k).isSome=decide (k∈qs.map (·.1)):=by have e:=Uh (z3 qs vs) k;rw[Dg qs vs h]at e;exact e
def zk(hu:X.A.units+64<cLine):OpR X (compareOp .NotIn) (rInN true):=by intro pins s σ H x y v u Q I rx ry h;obtain⟨a,qs,xs,ob,k,b,rfl,rfl,e,n,hk,hd,q⟩:=h;cases rx;cases ry;obtain⟨_,vs,p1,p2,dd⟩:=Dw I e n;refine wpAny_notIn_heap (knd:=deepKind X.prog X.w) (by show X.A.units+1+8<cLine;omega) ⟨S8 I hk rfl,hd⟩ n.2.2.1 dd ?_;rw[y5k qs vs p2];generalize decide (k∈qs.map (·.1))=c at q⊢;exact⟨.bl (!c),H,I.tok _,rfl,q⟩
def y1d:OpD K false (dInN neg) (rInN neg):=by
 intro H0 H x y d e z Q s rx ry ho k;cases d<;>simp only[dInN]at ho<;>first | (cases ho;done) |skip
 cases e<;>simp only[dInN]at ho<;>first | (cases ho;done) |skip
 rename_i es ks ds;split at ho<;>first | (cases ho;done) |skip
 rename_i kk dH;split at ho<;>first | (cases ho;done) |skip
 rename_i hd;cases ho;have nk:=Z7 dH rx;obtain⟨b,ys,rfl,hb,rb⟩:=rx.tup;simp only[RD]at ry;obtain⟨a,qs,xs,ob,rfl,h1,hk,n,ra⟩:=ry;refine⟨a,qs,xs,ob,kk,b,rfl,rfl,s _ _ h1,n.tk fun b zs q=>s _ _ q,NKr.mono (fun b zs q=>s _ _ q) nk,hd,?_⟩;rw[hk];exact k _ H (.pure s (.mkBl _))
def dIxN:D->D->Option D
 | .dn ks ds,.tup es=>match nkD (.tup es) with
  |some k=>if k.dep<=8 then valN ks ds k else none
  |none=>none
 |_,_=>none
def rIxN:R2:=fun x y H Q=>∃(a:Addr)(qs:List (NK×Addr))(xs:List V)(ob:Obj)(k:NK)(b:Addr)(w:V),x=.ref a/\y=.ref b/\H a=some (.ext (dnP a qs xs ob))/\DN H a qs/\NKr H k (.ref b)/\k.dep<=8/\valN (qs.map (·.1)) xs k=some w/\Q w H
theorem Ud:∀{qs:List (NK×Addr)}{xs:List V}{vs:List Value}{w:V},Vals xs vs->qs.length=vs.length->valN (qs.map (·.1)) xs k=some w->∃p:Addr×Value,atKey (z3 qs vs) k=some p/\RelV w p.2
 | [],xs,vs,w,r,hl,h=>by unfold valN at h;rw[CM,HG]at h;cases h
 |q::qs,_,_,w,.nil,hl,h=>by simp at hl
 |q::qs,_,_,w,.cons (a:=x) (b:=v) (l₁:=xs) (l₂:=vs) r rr,hl,hw=>by
  by_cases h:q.1=k
  . unfold valN at hw;rw[gD,CI,GJ (by simpa using h)]at hw;cases hw;refine⟨(q.2,v),?_,r⟩;show((z3 (q::qs) (v::vs)).find? fun x=>decide (x.1=k)).map (·.2)=_;unfold z3;rw[CI,gD,GJ (by simpa using h)];rfl
  . unfold valN at hw;rw[gD,CI,GK (by simpa using h)]at hw;obtain⟨p,e,rp⟩:=Ud (qs:=qs) rr (by simpa using hl) hw;refine⟨p,?_,rp⟩;show((z3 (q::qs) (v::vs)).find? fun x=>decide (x.1=k)).map (·.2)=_;unfold z3;rw[CI,gD,GK (by simpa using h)];exact e
theorem qX(hu:X.A.units+64<cLine):IxR X rIxN:=by intro value slice pins s σ H x y v u Q I rx ry h hs;obtain⟨a,qs,xs,ob,k,b,w,rfl,rfl,e,n,hk,hd,hv,q⟩:=h;cases rx;cases ry;obtain⟨_,vs,p1,p2,dd⟩:=Dw I e n;obtain⟨p,hp,rp⟩:=Ud p1 p2 hv;exact tail_any (ops:=[.ref a,.ref b]) dd.typeIs PySem.F.slot_dict_getitem.lookup (wpAny_getItem_heap (knd:=deepKind X.prog X.w) (by show X.A.units+1+8<cLine;lia) ⟨S8 I hk rfl,hd⟩ dd hp ⟨w,H,I.tok _,rp,q⟩) hs
theorem Wi:∀{ks:List NK}{ds:List D}{xs:List V},RDs K H ds xs->valN ks ds k=some z->∃w,valN ks xs k=some w/\RD K H z w
 | [],ds,xs,r,h=>by unfold valN at h;rw[HG]at h;cases h
 |k'::ks,[],xs,r,h=>by unfold valN at h;rw[List.zip_nil_right]at h;cases h
 |k'::ks,d::ds,xs,r,hz=>by
  simp only[RDs]at r;obtain⟨x,r',rfl,r1,r2⟩:=r;by_cases h:k'=k
  . unfold valN at hz⊢;rw[CI,GJ (by simpa using h)]at hz⊢;cases hz;exact⟨x,rfl,r1⟩
  . unfold valN at hz⊢;rw[CI,GK (by simpa using h)]at hz⊢;exact Wi r2 hz
def Rr:OpD K false dIxN rIxN:=by
 intro H0 H x y d e z Q s rx ry ho k;cases d<;>simp only[dIxN]at ho<;>first | (cases ho;done) |skip
 cases e<;>simp only[dIxN]at ho<;>first | (cases ho;done) |skip
 rename_i ks ds es;split at ho<;>first | (cases ho;done) |skip
 rename_i kk dH;split at ho<;>first | (cases ho;done) |skip
 rename_i hd;have nk:=Z7 dH ry;obtain⟨b,ys,rfl,hb,rb⟩:=ry.tup;simp only[RD]at rx;obtain⟨a,qs,xs,ob,rfl,h1,hk,n,ra⟩:=rx;rw[<-hk]at ho;obtain⟨w,hw,bD⟩:=Wi ra ho;exact⟨a,qs,xs,ob,kk,b,w,rfl,rfl,s _ _ h1,n.tk fun b zs q=>s _ _ q,NKr.mono (fun b zs q=>s _ _ q) nk,hd,hw,k _ H (.pure s bD)⟩
end
def Rq(tk tv:TE):TE:=fun σ H Q=>∀(p:Addr)(ob:Obj),H p=none->(p==sysModules)=false->tk σ (upd H p (.ext (dnP p [] [] ob))) fun x H1=>tv σ H1 fun y H2=>
 ∃(k:NK)(b:Addr),x=.ref b/\H2 p=some (.ext (dnP p [] [] ob))/\NKr H2 k (.ref b)/\k.dep<=8/\∀ez,Q (.ref p) (upd H2 p (.ext (dnP p [(k,b)] [y] ez)))
def eDisp1(fk fv:DE->R D):DE->R D:=fun ρ=>(fk ρ).bind fun k=>(fv ρ).bind fun v=>R.of (match k with
 | .tup es=>match nkD (.tup es) with
  |some kk=>if kk.dep<=8 then some (.dn [kk] [v]) else none
  |none=>none
 |_=>none)
section
variable {X:Cx}{EX:XW}{σ:St}{H:Hp}{Q:VK}{k v:Expr}{pos:Pos}
theorem zj{tk tv:TE}(hu:X.A.units+64<cLine)(hk:PE X k tk)(hv:PE X v tv):PE X (.Dict [some k] [v] pos) (Rq tk tv):=by
 intro pins s σ H Q I q;have hn:=I.hok.fresh (η s.heap.objs.size);have iR:(s.heap.objs.size==sysModules)=false:=DX.mpr (FP (CC I.big));have I1:=I.laid (a:=s.heap.objs.size) (o:=.ext (dnP s.heap.objs.size [] [] { cls:=.type "dict",data:=.dict #[] })) (h':=s.heap.push { cls:=.type "dict",data:=.dict #[] }) (t':=s.toks) (fun _ _ q=>τ _ q) (η _)
  ⟨⟨Ψ _ rfl,[],#[],0,.nil,rfl,⟨rfl,rfl,rfl⟩,rfl,rfl⟩,⟨_,Ψ _ rfl⟩,dnP.stay⟩
 have hp:PPs X pos [some k] [v] [(tk,tv)]:=zQ hk hv yq;refine wpAny_Dict_any rfl rfl (by simp) (by simp) (thn (hp pins _ σ _ (fun ps H2=>match ps with
  | [(x,y)]=>∃(kk:NK)(b:Addr),x=.ref b/\H2 s.heap.objs.size=some (.ext (dnP s.heap.objs.size [] [] { cls:=.type "dict",data:=.dict #[] }))/\NKr H2 kk (.ref b)/\kk.dep<=8/\∀ez,Q (.ref s.heap.objs.size) (upd H2 s.heap.objs.size (.ext (dnP s.heap.objs.size [(kk,b)] [y] ez)))
  |_=>False) I1 (q _ { cls:=.type "dict",data:=.dict #[] } hn iR)) fun ws s2 ⟨ps,H2,I2,rel,q2⟩=>?_)
 rcases rel with _ |⟨r,_ |_⟩
 . exact False.elim q2
 rotate_left
 . exact False.elim q2
 rename_i p1 p0 _;obtain⟨x,y⟩:=p1;obtain⟨ux,uy⟩:=p0;obtain⟨kk,b,ex,e2,nk,hd,q2⟩:=q2;obtain⟨r1,r2⟩:=r;dsimp only at ex r1 r2 q2;subst ex;cases r1;obtain⟨_,vs,p1,p2,dd⟩:=Dw I2 e2 ⟨HB,fun q hq=>(by simp at hq),iR,DC _⟩;cases p1;unfold storeAll;rw[GU];refine δ (δ (wpAny_dictSet_heap (knd:=deepKind X.prog X.w) (hsz:=DC _) (by show X.A.units+8<cLine;lia) ⟨S8 I2 nk rfl,hd⟩ dd fun h' iN hs=>ω (ω ?_)));obtain⟨o',es,ep,d1,d2,d3,d4,_⟩:=iN;refine⟨.ref s.heap.objs.size,_,?_,rfl,q2 o'⟩;exact Vj I2 (by rw[e2];exact True.intro) hs ⟨o',d1⟩ ⟨⟨d1,[uy],es,ep,.cons r2 .nil,rfl,d2,d3,d4⟩,⟨o',d1⟩,dnP.stay⟩
def xm{K:Frag}{fk fv:DE->R D}(h:TEd K EX true (eDisp1 fk fv) σ H Q):Rq (TEd K EX false fk) (TEd K EX false fv) σ H Q:=by
 obtain⟨sx,ρ,H0,s,e,h⟩:=h;intro p ob hp iR;have sp:Same H (upd H p (.ext (dnP p [] [] ob))):=Same.upd_new hp;have tZ:=s.none hp;unfold eDisp1 at h;rw[Rk.bind]at h;show TEd K EX false fk σ _ _;refine TEd.go (sx.trans sp) (s.trans sp) e h fun a h v1 H1 ao s1 e1 r1=>?_
 rw[Rk.bind]at h;refine TEd.go ((sx.trans sp).trans s1) e1.2.1 (e.mono e1.1) h fun x h v2 H2 aM s2 e2 r2=>?_
 have iT:=e1.trans s1 e2;have mX:=s1.trans s2;obtain⟨z,hz,h⟩:=h.of;cases a<;>first | (cases hz;done) |skip
 rename_i es;simp only at hz;split at hz<;>first | (cases hz;done) |skip
 rename_i kk dH;split at hz<;>first | (cases hz;done) |skip
 rename_i hd;cases hz;have nk:=Z7 dH (r1.mono e2.1);obtain⟨b,ys,rfl,hb,rb⟩:=r1.tup;refine⟨kk,b,rfl,mX p _ k7,NKr.mono (fun b zs q=>e2.2.1 _ _ q) nk,hd,fun ez=>h _ _ ?_⟩;have p6:aM p=none:=iT.no mX k7 (fun z=>z.1 _ _ _ _ rfl) tZ;refine .fresh (fun c o q=>?_) ⟨iT.1,fun c o q=>?_,fun c q1 q2=>iT.2.2 c (sp.ne q1) q2⟩ hp p6 ?_
 . have hc:c≠p:=fun z=>by rw[z,hp]at q;cases q
   rw[i6 hc];exact mX c o (sp c o q)
 . have hc:c≠p:=fun z=>by rw[z,p6]at q;cases q
   rw[i6 hc];exact iT.2.1 c o q
 . simp only[OB];exact⟨[(kk,b)],[v2],ez,k7,rfl,⟨by simp,fun q hq=>by rw[gV.mp hq];exact⟨nk,hd⟩,iR,by rw[GA];simp⟩,.one r2⟩
def xl(hu:X.A.units+64<cLine)(hk:QE X EX false k fk)(hv:QE X EX false v fv):QE X EX true (.Dict [some k] [v] pos) (eDisp1 fk fv):=
 ⟨(zj hu hk.h hv.h).imp fun _ _ _ q=>xm q⟩
end
def kA(K:Frag):V->List V->Hp->VK->Prop:=fun x vs H Q=>∃(l:Addr)(ns:List Int)(k:Int),x=.ref l/\vs=[.int k]/\H l=some (.tup (ns.map V.int))/\k∈ns/\Q (.int ((ns.idxOf k:Nat):Int)) H
def y1f:MtM X "tuple.index" (kA X.K):=by
 intro pins s σ H x vs v us Q I rx rv h;obtain⟨l,ns,k,rfl,rfl,hH,hk,q⟩:=h;cases rx;obtain⟨u,rfl,ru⟩:=rv.one;obtain⟨tk,rfl⟩:=ru;obtain⟨_,its,r,o,e,hc,⟨n,lK⟩,_⟩:=(show ObjOk X.prog X.w H s.heap l (.tup (ns.map V.int)) from I.hok l _ hH);obtain⟨cls,BR,BS,sl⟩:=o;dsimp only at hc lK;subst hc lK;refine wpAny_call_entry F.slot_tuple_index ⟨_,e,rfl⟩ F.entry_tuple_index ?_ (F.args_tuple_index_2 _ _);obtain⟨hp,g,d,t0,os⟩:=s;have ub:wpAny (model X.prog X.w) X.A.in1 (Builtin.Tuple.tupleItemsOf (.ref l)) (fun xs s'=>xs=its.toArray/\s'=⟨hp,g,d,t0,os⟩) X.xe ⟨hp,g,d,t0,os⟩:=by
  unfold Builtin.Tuple.tupleItemsOf
  wp_walk using AutoSeq1.wpAny_loadPart' e
  exact⟨rfl,rfl⟩
 unfold Builtin.«tuple.index»;refine δ (ω ?_);refine δ (thn ub ?_);rintro _ _ ⟨rfl,rfl⟩;refine δ (ω ?_);refine δ (ω ?_);dsimp only;rw[Nat.min_self,Std.Legacy.Range.forIn_eq_forIn_range'];have ae:its.length=ns.length:=by have:=r.length;rw[bI]at this;omega
 have mY:=EG hk;have dL:∀m (hm:m<ns.length),∃t,its.toArray[m]?=some (Value.int ns[m] t):=fun m hm=>by obtain⟨w,hw,bD⟩:=r.get (i:=m) (x:=.int ns[m]) (by rw[CJ,oF hm];rfl);obtain⟨t,rfl⟩:=bD;exact⟨t,by simpa using hw⟩
 have lp:∀(m j:Nat),j+m=its.length->j<=ns.idxOf k->wpAny (model X.prog X.w) X.A.in1 (forIn (List.range' j m) ((none,()):Option PySem.Fin×Unit) fun (i:Nat) __s=>
   match its.toArray[i]? with
   |some y=>(do
    let __do_lift <-eqBool y (Value.int k tk)
    if __do_lift=true then do
      let __do_lift <-retInt ((i:Nat):Int)
      pure (ForInStep.done (some __do_lift,()))
     else pure (ForInStep.yield (none,())):Sem (ForInStep (Option PySem.Fin×Unit)))
   |x=>pure (ForInStep.yield (none,()))) (fun a s'=>a=(some (Fin.done (.ret (.int ((ns.idxOf k:Nat):Int) t0))),())/\s'=⟨hp,g,d,t0+1,os⟩) X.xe ⟨hp,g,d,t0,os⟩:=by
  intro m
  induction m with
  |zero=>intro j h1 h2;omega
  |succ m ih=>
   intro j h1 h2
   have hj:j<ns.length:=by omega
   obtain⟨t,et⟩:=dL j hj
   rw[List.range'_succ,GU,et]
   dsimp only
   refine δ (δ (wpAny_eqBool_int ?_))
   by_cases c:ns[j]=k
   . have ej:ns.idxOf k=j:=by
      apply Nat.le_antisymm _ h2
      apply CB
      intro z
      have:=List.not_of_lt_findIdx (p:=(·==k)) (xs:=ns) (i:=j) (by unfold List.idxOf at z;omega)
      simp[c]at this
     rw[ζ (by simpa using c)]
     unfold retInt
     refine δ (δ (wpAny_mkInt (ω (ω (ω ⟨?_,rfl⟩)))))
     rw[ej]
   . rw[ξ (by simpa using c)];refine ω (ih (j+1) (by omega) ?_);have:ns.idxOf k≠j:=fun z=>c (by have:=List.getElem_idxOf mY;simpa only [z] using this)
     omega
 have uc:[:its.toArray.size].size=its.length:=by simp[Std.Legacy.Range.size]
 have L:=lp its.length 0 (by omega) (DC _);rw[<-uc]at L;refine δ (thn L ?_);rintro _ _ ⟨rfl,rfl⟩;exact ω ⟨_,rfl,.int _,H,I.tok _,⟨_,rfl⟩,q⟩
def Ck:List D->D->Option D
 |ds,.int k=>match m8 ds with
  |some ns=>if k∈ns then some (.int ((ns.idxOf k:Nat):Int)) else none
  |none=>none
 |_,_=>none
def R9(fa fb:DE->R D):DE->R D:=fun ρ=>(fa ρ).bind fun x=>match x with
 | .tup ds=>(fb ρ).bind fun y=>R.of (Ck ds y)
 |_=>.st
theorem qW{K:Frag}{H:Hp}:∀{ns:List Int}{xs:List V},RDs K H (ns.map D.int) xs->xs=ns.map V.int
 | [],xs,r=>by simpa only [CM,RDs] using r
 |n::ns,xs,r=>by simp only[gD,RDs]at r;obtain⟨x,r',rfl,r1,r2⟩:=r;simp only[RD]at r1;rw[r1,qW r2];rfl
section
variable {X:Cx}{EX:XW}{σ:St}{H:Hp}{Q:VK}
def y5l{K:Frag}{fa fb:DE->R D}(h:TEd K EX false (R9 fa fb) σ H Q):tTM (kA K) (TEd K EX false fa) (C4 (TEd K EX false fb) G4) σ H Q:=by
 obtain⟨sx,ρ,H0,s,e,h⟩:=h;unfold R9 at h;rw[Rk.bind]at h;refine TEd.go sx s e h fun d h v H1 ao s1 e1 r1=>?_
 cases d<;>first | (exact h.elim) |skip
 rename_i ds;simp only at h;obtain⟨a,xs,rfl,ha,rs⟩:=r1.tup;refine⟨⟨a,xs,rfl,e1.2.1 _ _ ha⟩,?_⟩;rw[Rk.bind]at h;refine TEd.go (sx.trans s1) e1.2.1 (e.mono e1.1) h fun d2 h v2 H2 aM s2 e2 r2=>?_
 obtain⟨z,hz,h⟩:=h.of;unfold Ck at hz;split at hz<;>first | (cases hz;done) |skip
 rename_i k;split at hz<;>first | (cases hz;done) |skip
 rename_i ns dW;split at hz<;>first | (cases hz;done) |skip
 rename_i hk;cases hz;rw[Xv dW]at rs;have ud:=qW rs;subst ud;have ev:v2=.int k:=by simpa only [RD] using r2
 subst ev;exact⟨a,ns,k,rfl,rfl,s2 _ _ (e1.2.1 _ _ ha),hk,h _ H2 (.val (s1.trans s2) (e1.trans s1 e2) (.mkInt _))⟩
variable {o e:Expr}{aq ag:Pos}{fa fb:DE->R D}
def qV(ho:QE X EX false o fa)(ha:QE X EX false e fb)(aP:attributeBase o "index" X.env (eval o X.env)=eval o X.env:=by rfl)
  (bK:((backTo ag (starEach [e] X.env)).all (fun x=>!x.1)&&(backToKw ag (keywordEach [] X.env)).all (fun x=>x.1.isSome)
   && decide ([e].length+([]:List Keyword).length+(if([]:List Keyword).isEmpty then 0 else 1)<30))=true:=by rfl)
  (aQ:(aq.endLine==ag.line)=true:=by rfl) (hs:starEach [e] X.env=(false,eval e X.env)::starEach [] X.env:=by rfl) (aG:(backTo ag (starEach [] X.env)).any (·.1)=false:=by rfl) :
  QE X EX false (.Call (.Attribute o "index" aq) [e] [] ag) (R9 fa fb):=
 ⟨(y5e PySem.F.slot_tuple_index PySem.F.type_tuple_index y1f ho.h (J7 ha.h pa_nil hs) aP bK aQ hs aG).imp fun _ _ _ q=>y5l q⟩
end
theorem RDs.rev{K:Frag}{H:Hp}:∀{ds:List D}{xs:List V},RDs K H ds xs->RDs K H ds.reverse xs.reverse
 | [],xs,h=>by simp only[RDs]at h;subst h;simp[RDs]
 |d::ds,xs,h=>by simp only[RDs]at h;obtain⟨x,r,rfl,h1,h2⟩:=h;rw[GI,GI];exact RDs.append (RDs.rev h2) (RDs.one h1)
section
variable {prog:Program}{w:World}{A:Around}{E:Value->Shared->Prop}{s:Shared}{it l:Addr}
def xk(st:s.heap.IsRevIter it l i)(hq:Q false s):wpAny (model prog w) A (Builtin.List.listLengthHint (.ref it)) Q E s:=by obtain⟨o,e,c,d⟩:=st;have ty:s.TypeIs (.ref it) "list_reverseiterator":=⟨o,e,c⟩;have l1:typeLookup (.type "list_reverseiterator") "__len__"=pure none:=rfl;have l2:typeLookup (.type "list_reverseiterator") "__length_hint__"=pure (some (.builtin "list_reverseiterator.__length_hint__")):=rfl;unfold Builtin.List.listLengthHint;refine δ (wpAny_specialOf ty l1 ?_);dsimp only;rw[ξ (by decide),ξ (by decide)];refine δ (wpAny_specialOf ty l2 ?_);dsimp only;rw[show splitId "list_reverseiterator.__length_hint__"=some ("list_reverseiterator","__length_hint__") by decide +kernel];dsimp only;refine δ (wpAny_isInstance (T:="list_reverseiterator") (b:=true) ty (by rfl) ?_);rw[ξ (by decide),ζ (by decide +kernel),ξ (by decide +kernel)];exact ω hq
theorem zh(hh:A.handled=none)(its:Array Value)(ah:l≠it) :
  Walks prog w A it [it,l] [it] its.size (fun i v=>its[its.size - 1 - i]?=some v) (fun i h=>h.IsRevIter it l ((its.size:Int) - 1 - i)/\h.IsList l its) where
 sub:=fun b hb=>by simp at hb;simp[hb]
 frame:=fun i h h' st kp=>⟨st.1.at fun o e=>kp it (by simp) o e,by obtain⟨o,e,r⟩:=st.2;exact⟨o,kp l (by simp) o e,r⟩⟩
 item:=fun i s Q E hi st k=>by
  have ei:(its.size:Int) - 1 - i=((its.size - 1 - i:Nat):Int):=by omega
  rw[ei]at st;have hx:its[its.size - 1 - i]?=some its[its.size - 1 - i]:=by simp
  refine wpAny_pyNext_rev_item st.1 st.2 hx fun h' st' sb=>k _ h' s.toks hx ⟨?_,?_⟩ fun b o hb e=>(sb.2 b (fun z=>hb (by simp[z]))).trans e
  . rw[show(its.size:Int) - 1 - ((i+1:Nat):Int)=((its.size - 1 - i:Nat):Int) - 1 by omega];exact st'
  . obtain⟨o,e,r⟩:=st.2;exact⟨o,(sb.2 l ah).trans e,r⟩
 done:=fun s Q E st k=>by rw[show(its.size:Int) - 1 - (its.size:Int)=-1 by omega]at st;exact wpAny_pyNext_rev_end hh st.1 fun h' eb=>k h' s.toks fun b o hb e=>eb b o (fun z=>hb (by simp[z])) e
 self:=fun _ _ _ _ st k=>wpAny_pyIter_revIter st.1 k
def xj(hh:A.handled=none)(st:s.heap.IsRevIter it l ((its.size:Int) - 1))(hl:s.heap.IsList l its)(ah:l≠it)(hz:its.size<=sizeLine)
  (k:∀(h':Heap)(tk:Nat)(acc:Array Value)(c:Nat),(∀b o,b≠it->s.heap.get? b=some o->h'.get? b=some o)->h'.get? s.heap.objs.size=some { cls:=.type "list",data:=.seq acc c }->ItemsOf (fun i v=>its[its.size - 1 - i]?=some v) acc its.size->Q (.ref s.heap.objs.size) { s with heap:=h',toks:=tk }) :
  wpAny (model prog w) A (call (.type "list") [.ref it]) Q E s:=by
 obtain⟨oi,ei,ci,di⟩:=id st
 obtain⟨ol,el,rl⟩:=id hl
 have gP:it<s.heap.objs.size:=π ei
 have av:l<s.heap.objs.size:=π el
 have n1:s.heap.objs.size≠it:=Nat.ne_of_gt gP
 have ue:s.heap.objs.size≠l:=Nat.ne_of_gt av
 refine callType_codes F.called_list (F.typeCall_list_1 _) F.entry_list_init (code_list_new (Q₁:=fun v s1=>v=.ref s.heap.objs.size/\s1={ s with heap:=s.heap.push { cls:=.type "list",data:=.seq #[] } }) (.ref it) ⟨rfl,rfl⟩) ?_
 rintro obj s1 ⟨rfl,rfl⟩
 have e1:(s.heap.push { cls:=.type "list",data:=.seq #[] }).get? s.heap.objs.size=some { cls:=.type "list",data:=.seq #[] }:=Ψ _ rfl
 refine⟨⟨_,e1,rfl⟩,F.args_list_init_2 _ _,?_⟩
 unfold Builtin.«list.__init__»
 dsimp only
 rw[ξ (by decide),ξ (by simp)]
 refine δ (δ (GP e1 rfl (ω ?_)))
 refine δ (wpAny_updateSeq e1 rfl ?_ (DC _) (DC _))
 refine δ (wpAny_letGo ?_)
 dsimp only
 obtain⟨h2,mZ⟩:∃h2,h2=(s.heap.push { cls:=.type "list",data:=.seq #[] }).update s.heap.objs.size (Obj.mapSeq fun _=>#[]):=⟨_,rfl⟩
 rw[<-mZ]
 have e2:∃n,h2.get? s.heap.objs.size=some { cls:=.type "list",data:=.seq #[] n }:=by rw[mZ];exact⟨_,FY _ e1 rfl⟩
 obtain⟨n2,e2⟩:=e2
 have keep:∀b o,s.heap.get? b=some o->h2.get? b=some o:=fun b o q=>by rw[mZ,Heap.get?_update_ne _ _ _ _ (CC (π q))];exact τ _ q
 have aB:h2.IsRevIter it l ((its.size:Int) - 1):=⟨oi,keep _ _ ei,ci,di⟩
 have gI:h2.IsList l its:=⟨ol,keep _ _ el,rl⟩
 unfold Builtin.List.listExtendWith
 refine δ (wpAny_typeOf ⟨oi,keep _ _ ei,ci⟩ ?_)
 have dW:(Builtin.List.listSameRef (.ref s.heap.objs.size) (.ref it)||(Value.type "list_reverseiterator"==Value.type "list")||(Value.type "list_reverseiterator"==Value.type "tuple"))=false:=by
  have:Builtin.List.listSameRef (.ref s.heap.objs.size) (.ref it)=false:=by unfold Builtin.List.listSameRef;simp[n1]
  rw[this];decide
 rw[dW,ξ θ]
 refine δ (wpAny_pyIter_revIter aB ?_)
 refine δ (DM (xk aB ?_))
 dsimp only
 rw[ξ (by decide +kernel)]
 refine ω ⟨plainId_quiet F.plain_extend_loop _,?_⟩
 refine codeAny_extend_loopS (zh (A:=A.in1.in1) (by exact hh) its ah).toS hz s.heap.objs.size (by simp[n1,ue]) .none its.size 0 _ #[] n2 (by omega) (DC _) ⟨by simpa using aB,gI⟩ e2 ⟨rfl,fun j v q=>by simp at q⟩ fun s' acc c mv e3 iU=>?_
 rw[mv.eq_with]
 refine⟨rfl,k s'.heap s'.toks acc c (fun b o hb q=>mv.heap b o (by simp;exact⟨CC (π q),hb⟩) (keep b o q)) e3 iU⟩
end
noncomputable def D5:D->Option D
 | .lst ds=>some (.lst ds.reverse)
 |_=>none
def y8l(tl:TE):TE:=fun σ H Q=>tl σ H fun x H1=>∃a xs,[x]=[V.ref a]/\H1 a=some (.lst xs)/\∀p,H1 p=none->Q (.ref p) (upd H1 p (.lst xs.reverse))
section
variable {X:Cx}{EX:XW}{l:Expr}{p q pos aF:Pos}
def y1i(hc:X.calm=true)(hg:Gl X "list")(hm:X.mg "list"=none)(nh:Gl X "reversed")(hV:X.mg "reversed"=none)(hl:PE X l tl)(he:starEach [l] X.env=(false,eval l X.env)::starEach [] X.env:=by rfl)(hpl:(backTo aF (starEach [] X.env)).any (·.1)=false:=by rfl)
  (eV:starEach [.Call (.Name "reversed" q) [l] [] aF] X.env=(false,eval (.Call (.Name "reversed" q) [l] [] aF) X.env)::starEach [] X.env:=by rfl) (gB:(backTo pos (starEach [] X.env)).any (·.1)=false:=by rfl) :
  PE X (.Call (.Name "list" p) [.Call (.Name "reversed" q) [l] [] aF] [] pos) (y8l tl):=by
 intro pins s σ H Q I h
 refine FC (J6 I hg hm boot_list ?_ (by decide) (by decide))
 refine EF ?_ eV gB
 rw[eV]
 show wpAny _ _ (spliced ((false,eval (.Call (.Name "reversed" q) [l] [] aF) X.env)::backTo pos (starEach [] X.env))) _ _ s
 refine Calls.spliced_cons ?_
 refine FC (J6 I nh hV boot_reversed ?_ (by decide) (by decide))
 have hA:PA X [l] (C4 tl G4):=J7 hl pa_nil he
 refine EF (thn (hA aF pins s σ H (fun vs H1=>∃a xs,vs=[V.ref a]/\H1 a=some (.lst xs)/\∀p,H1 p=none->Q (.ref p) (upd H1 p (.lst xs.reverse))) I h) fun us s1 ⟨vs,H1,I1,r1,a,xs,ev,ha,hR⟩=>?_) he hpl
 subst ev
 obtain⟨u,rfl,ru⟩:=r8 r1
 cases ru
 obtain⟨z,its,n,rv,ae,e⟩:=I1.lstM ha
 have p:s1.heap.IsList a its.toArray:=⟨_,e,rfl,_,rfl⟩
 have kp:∀c o,s1.heap.get? c=some o->(s1.heap.push (revObj a ((its.toArray.size:Int) - 1))).get? c=some o:=fun c o e=>τ _ e
 refine call_reversed_list p ?_
 refine Calls.spliced_nil ?_
 have st:(s1.heap.push (revObj a ((its.toArray.size:Int) - 1))).IsRevIter s1.heap.objs.size a ((its.toArray.size:Int) - 1):=⟨_,Ψ _ rfl,rfl,rfl⟩
 have ah:a≠s1.heap.objs.size:=CC (π e)
 have hz:its.toArray.size<=sizeLine:=by rw[nF,<-ae];exact z
 refine xj (s:={ s1 with heap:=s1.heap.push (revObj a ((its.toArray.size:Int) - 1)) }) (I1.ok.hd hc) st ⟨_,kp _ _ e,rfl,_,rfl⟩ ah hz fun h' tk acc c k3 e3 iU=>?_
 rw[Heap.size_push]at e3⊢
 have kk:∀b u,s1.heap.get? b=some u->h'.get? b=some u:=fun b u q=>k3 b u (CC (π q)) (kp b u q)
 have hv:Vals xs.reverse acc.toList:=by
  have hs:acc.size=its.length:=by rw[iU.1,nF]
  refine Uj (by simp[hs,ae]) fun i x u hx hu=>?_
  have hi:i<xs.length:=by have:=(CU.mp hx).1;simpa using this
  rw[List.getElem?_reverse hi]at hx;have nj:=iU.2 i u (by simpa using hu);rw[nF,List.getElem?_toArray,<-ae]at nj;obtain⟨u',h1,h2⟩:=rv.get hx;rw[h1]at nj;cases nj;exact h2
 have I2:=I1.laid (h':=h') (t':=tk) (a:=s1.heap.objs.size+1) (o:=.lst xs.reverse) kk (HF _) ⟨by rw[GX];exact z,acc.toList,c,hv,by simpa using e3⟩
 exact⟨.ref (s1.heap.objs.size+1),_,I2,rfl,hR _ (I1.hok.fresh (HF _))⟩
def Gu(hc:X.calm=true)(hg:Gl X "list")(hm:X.mg "list"=none)(nh:Gl X "reversed")(hV:X.mg "reversed"=none)(hl:QE X EX false l f)(he:starEach [l] X.env=(false,eval l X.env)::starEach [] X.env:=by rfl)(hpl:(backTo aF (starEach [] X.env)).any (·.1)=false:=by rfl)
  (eV:starEach [.Call (.Name "reversed" q) [l] [] aF] X.env=(false,eval (.Call (.Name "reversed" q) [l] [] aF) X.env)::starEach [] X.env:=by rfl) (gB:(backTo pos (starEach [] X.env)).any (·.1)=false:=by rfl) :
  QE X EX true (.Call (.Name "list" p) [.Call (.Name "reversed" q) [l] [] aF] [] pos) (eUn D5 f):=⟨(y1i hc hg hm nh hV hl.h he hpl eV gB).imp fun σ H Q ⟨sx,ρ,H0,s,e,h⟩=>by
 unfold eUn at h
 rw[Rk.bind]at h
 refine TEd.go sx s e h fun d h v H1 ao s1 e1 r1=>?_
 obtain⟨z,hz,h⟩:=h.of
 cases d<;>first | (cases hz;done) |skip
 cases hz
 obtain⟨a,xs,rfl,ha,ra⟩:=r1.lst
 exact⟨a,xs,rfl,e1.2.1 _ _ ha,fun p hp=>h _ _ ((Out.new e1.2.1 hp fun H' hH=>by simp only[OB];exact⟨_,hH,ra.rev⟩).after s1 e1)⟩⟩
end
end L2
namespace Cu
abbrev P2:=Int×Int
abbrev P3:=Int×Int×Int
def sh(dL x:Int):Int:=if x > dL then x+1 else x
def sh2(c:Int)(p:P2):P2:=(sh c p.1,sh c p.2)
def sh3(c:Int)(p:P3):P3:=(sh c p.1,sh c p.2.1,sh c p.2.2)
def outer(p:P3):P2:=(p.1,p.2.2)
def u5(n c:Int):P2:=if c=n - 1 then(0,c) else(c,c+2)
def E5(n c:Int):P3:=if c=n - 1 then(0,c,n) else(c,c+1,c+2)
structure CInv(n:Int)(ls:List P2)(T:List P3):Prop where
 n3:3<=n
 tri:∀a c b,(a,c,b)∈T->0<=a/\a<c/\c<b/\b<=n - 1/\((a,c)∈ls\/c=a+1)/\((c,b)∈ls\/b=c+1)
 lin:∀a b,(a,b)∈ls->0<=a/\a+2<=b/\b<=n - 1/\¬(a=0/\b=n - 1)
 nc:∀a b c d,(a,b)∈ls->(c,d)∈ls->¬(a<c/\c<b/\b<d)
 nd:ls.Nodup
 prm:(T.map outer).Perm ((0,n - 1)::ls)
def y8m:CInv 3 [] [(0,1,2)] where
 n3:=by omega
 tri:=fun a c b h=>by simp only[eH,Prod.mk.injEq,FG,or_false]at h;omega
 lin:=fun a b h=>by simp at h
 nc:=fun a b c d h=>by simp at h
 nd:=HB
 prm:=.refl _
def U4{c:Int}{ls:List P2}{x y:Int}(h:(x,y)∈ls.map (sh2 c)):∃a b,(a,b)∈ls/\x=sh c a/\y=sh c b:=by obtain⟨⟨a,b⟩,hm,e⟩:=CF.mp h;simp only[sh2,Prod.mk.injEq]at e;exact⟨a,b,hm,e.1.symm,e.2.symm⟩
def Uc{c:Int}{ls:List P2}{a b:Int}(h:(a,b)∈ls):(sh c a,sh c b)∈ls.map (sh2 c):=CF.mpr ⟨(a,b),h,rfl⟩
def Rp(h:sh c x=sh c y):x=y:=by unfold sh at h;split at h<;>split at h<;>lia
def CInv.grow(I:CInv n ls T)(c:Int)(h0:0<=c)(h1:c<n):CInv (n+1) (ls.map (sh2 c)++[u5 n c]) (T.map (sh3 c)++[E5 n c]) where
 n3:=by have:=I.n3;lia
 tri:=fun x y z h=>by
  have h3:=I.n3;rcases CN.mp h with h |h
  . obtain⟨⟨a,m,b⟩,hm,e⟩:=CF.mp h;simp only[sh3,Prod.mk.injEq]at e;obtain⟨rfl,rfl,rfl⟩:=e;obtain⟨g1,g2,g3,g4,g5,g6⟩:=I.tri a m b hm;have k1:0<=sh c a:=by unfold sh;split<;>lia
    have k2:sh c a<sh c m:=by unfold sh;split<;>split<;>lia
    have k3:sh c m<sh c b:=by unfold sh;split<;>split<;>lia
    have k4:sh c b<=n+1 - 1:=by unfold sh;split<;>lia
    have eK:∀u w,u+1=w->w<=n - 1->(sh c u,sh c w)∈ls.map (sh2 c)++[u5 n c]\/sh c w=sh c u+1:=fun u w e hw=>by
     by_cases q:u=c
     . left;refine CN.mpr (.inr ?_);have e1:sh c u=c:=by unfold sh;split<;>lia
       have e2:sh c w=c+2:=by unfold sh;split<;>lia
       rw[e1,e2];unfold u5;rw[ξ (by lia)];simp
     . right;unfold sh;split<;>split<;>lia
    refine⟨k1,k2,k3,k4,?_,?_⟩
    . rcases g5 with g5 |g5
      . exact .inl (CN.mpr (.inl (Uc g5)))
      . exact eK a m (by lia) (by lia)
    . rcases g6 with g6 |g6
      . exact .inl (CN.mpr (.inl (Uc g6)))
      . exact eK m b (by lia) (by lia)
  . simp only[gV]at h;unfold E5 at h;by_cases q:c=n - 1
    . rw[ζ q]at h;simp only[Prod.mk.injEq]at h;obtain⟨rfl,rfl,rfl⟩:=h;refine⟨by lia,by lia,by lia,by lia,.inl (CN.mpr (.inr ?_)),.inr (by lia)⟩;unfold u5;rw[ζ q];simp
    . rw[ξ q]at h;simp only[Prod.mk.injEq]at h;obtain⟨rfl,rfl,rfl⟩:=h;exact⟨by lia,by lia,by lia,by lia,.inr rfl,.inr (by lia)⟩
 lin:=fun x y h=>by
  have h3:=I.n3;rcases CN.mp h with h |h
  . obtain⟨a,b,hm,rfl,rfl⟩:=U4 h;obtain⟨g1,g2,g3,g4⟩:=I.lin a b hm;unfold sh;split<;>split<;>lia
  . simp only[gV]at h;unfold u5 at h;by_cases q:c=n - 1
    . rw[ζ q]at h;simp only[Prod.mk.injEq]at h;lia
    . rw[ξ q]at h;simp only[Prod.mk.injEq]at h;lia
 nc:=fun x y z w h h'=>by
  have h3:=I.n3;rcases CN.mp h with h |h<;>rcases CN.mp h' with h' |h'
  . obtain⟨a,b,hm,rfl,rfl⟩:=U4 h;obtain⟨a',b',hJ,rfl,rfl⟩:=U4 h';have:=I.nc a b a' b' hm hJ;unfold sh;split<;>split<;>split<;>split<;>lia
  . obtain⟨a,b,hm,rfl,rfl⟩:=U4 h;simp only[gV]at h';have:=I.lin a b hm;unfold u5 at h';by_cases q:c=n - 1
    . rw[ζ q]at h';simp only[Prod.mk.injEq]at h';unfold sh;split<;>split<;>lia
    . rw[ξ q]at h';simp only[Prod.mk.injEq]at h';unfold sh;split<;>split<;>lia
  . obtain⟨a,b,hm,rfl,rfl⟩:=U4 h';simp only[gV]at h;have:=I.lin a b hm;unfold u5 at h;by_cases q:c=n - 1
    . rw[ζ q]at h;simp only[Prod.mk.injEq]at h;unfold sh;split<;>split<;>lia
    . rw[ξ q]at h;simp only[Prod.mk.injEq]at h;unfold sh;split<;>split<;>lia
  . simp only[gV]at h h';rw[<-h']at h;simp only[Prod.mk.injEq]at h;lia
 nd:=by
  have h3:=I.n3;rw[HH];refine⟨?_,by simp,fun p hp q hq=>?_⟩
  . refine(FQ.mpr (I.nd.imp fun {p q} ah e=>ah ?_));simp only[sh2,Prod.mk.injEq]at e;exact EW (Rp e.1) (Rp e.2)
  . simp only[gV]at hq;subst hq;obtain⟨x,y⟩:=p;obtain⟨a,b,hm,rfl,rfl⟩:=U4 hp;have:=I.lin a b hm;intro e;unfold u5 at e;by_cases q:c=n - 1
    . rw[ζ q]at e;simp only[Prod.mk.injEq]at e;unfold sh at e;split at e<;>split at e<;>lia
    . rw[ξ q]at e;simp only[Prod.mk.injEq]at e;unfold sh at e;split at e<;>split at e<;>lia
 prm:=by
  have h3:=I.n3;have e1:(T.map (sh3 c)++[E5 n c]).map outer=(T.map outer).map (sh2 c)++[outer (E5 n c)]:=by simp only[CS,DJ,gD,CM];rfl
  have p1:((T.map outer).map (sh2 c)++[outer (E5 n c)]).Perm (((0,n - 1)::ls).map (sh2 c)++[outer (E5 n c)]):=(I.prm.map (sh2 c)).append_right _;rw[e1];refine p1.trans ?_;have e0:sh c 0=0:=by unfold sh;split<;>lia
  rw[gD];by_cases q:c=n - 1
  . have e2:sh2 c (0,n - 1)=u5 n c:=by
     unfold u5 sh2;rw[ζ q];simp only[Prod.mk.injEq];exact⟨e0,by unfold sh;split<;>lia⟩
    have e3:outer (E5 n c)=(0,n+1 - 1):=by unfold E5 outer;rw[ζ q];simp
    rw[e2,e3]
    refine(List.perm_append_comm (l₁:=_::_) (l₂:=[_])).trans ?_
    refine List.Perm.cons _ ?_
    exact(List.perm_append_comm (l₁:=[u5 n c]) (l₂:=ls.map (sh2 c)))
  . have e2:sh2 c (0,n - 1)=(0,n+1 - 1):=by
     unfold sh2;simp only[Prod.mk.injEq];exact⟨e0,by unfold sh;split<;>lia⟩
    have e3:outer (E5 n c)=u5 n c:=by unfold E5 u5 outer;rw[ξ q,ξ q]
    rw[e2,e3];exact .refl _
end Cu
namespace Cu
open L2 (mxD Ji T2 T3 so3 Wm B0)
def pk(x:Int)(p l:P2):Bool:=decide (l.1=x)&&(decide (l.2<=p.2)&&!(decide (l.1=p.1)&&decide (l.2=p.2)))
def y1j:pk x p l=true↔l.1=x/\l.2<=p.2/\¬(l.1=p.1/\l.2=p.2):=by
 simp only[pk,gR,ng,FS,Bool.and_eq_false_iff,CQ];constructor
 . rintro⟨h1,h2,h3⟩;exact⟨h1,h2,fun h=>by rcases h3 with z |z<;>lia⟩
 . rintro⟨h1,h2,h3⟩;refine⟨h1,h2,?_⟩;by_cases z:l.1=p.1
   . exact .inr fun w=>h3 ⟨z,w⟩
   . exact .inl z
def ends(x:Int)(p:P2)(ls:List P2):List Int:=(ls.filter (pk x p)).map (·.2)
def mem_ends:y∈ends x p ls↔(x,y)∈ls/\y<=p.2/\¬(x=p.1/\y=p.2):=by
 simp only[ends,CF,CA,y1j];constructor
 . rintro⟨⟨a,b⟩,⟨h1,h2,h3,h4⟩,rfl⟩;simp only at h2 h3 h4⊢;subst h2;exact⟨h1,h3,h4⟩
 . rintro⟨h1,h2,h3⟩;exact⟨(x,y),⟨h1,rfl,h2,h3⟩,rfl⟩
section
variable {n:Int}{ls ls':List P2}{T:List P3}{a b c:Int}
def CInv.beh1(I:CInv n ls T)(p:ls'.Perm ls)(h:(a,c,b)∈T):mxD (a+1) (ends a (a,b) ls')=c:=by
 obtain⟨g1,g2,g3,g4,g5,g6⟩:=I.tri a c b h;have key:∀y∈ends a (a,b) ls',y<=c:=fun y hy=>by
  obtain⟨m1,m2,m3⟩:=mem_ends.mp hy;have m1:=p.mem_iff.mp m1;simp only at m2 m3;have:¬y=b:=fun z=>m3 (by simpa using z)
  rcases g6 with g6 |g6
  . have:=I.nc a y c b m1 g6;lia
  . lia
 refine Ji key ?_;rcases g5 with g5 |g5
 . left;exact mem_ends.mpr ⟨p.mem_iff.mpr g5,by simp only;lia,by simp only;lia⟩
 . by_cases z:ends a (a,b) ls'=[]
   . exact .inr ⟨z,by lia⟩
   . obtain⟨y,hy⟩:=EZ _ z;have:=key y hy;obtain⟨m1,m2,m3⟩:=mem_ends.mp hy;have:=I.lin a y (p.mem_iff.mp m1);lia
def CInv.beh2(I:CInv n ls T)(p:ls'.Perm ls)(h:(a,c,b)∈T):mxD (c+1) (ends c (a,b) ls')=b:=by
 obtain⟨g1,g2,g3,g4,g5,g6⟩:=I.tri a c b h;refine Ji (fun y hy=>(mem_ends.mp hy).2.1) ?_;rcases g6 with g6 |g6
 . left;exact mem_ends.mpr ⟨p.mem_iff.mpr g6,by simp only;lia,by simp only;lia⟩
 . by_cases z:ends c (a,b) ls'=[]
   . exact .inr ⟨z,by lia⟩
   . obtain⟨y,hy⟩:=EZ _ z;obtain⟨m1,m2,m3⟩:=mem_ends.mp hy;have:=I.lin c y (p.mem_iff.mp m1);simp only at m2;lia
def thr(T:List P3)(p:P2):P3:=(T.find? fun t=>decide (outer t=p)).getD (0,0,0)
def Ro(h:p∈T.map outer):thr T p∈T/\outer (thr T p)=p:=by
 obtain⟨t,ht,e⟩:=CF.mp h;unfold thr;cases hf:T.find? fun t=>decide (outer t=p) with
 |none=>
  have:=List.find?_eq_none.mp hf t ht
  simp[e]at this
 |some u=>
  have h1:=List.mem_of_find?_eq_some hf
  have h2:=List.find?_some hf
  exact⟨h1,by simpa using h2⟩
theorem CInv.thr_outer(I:CInv n ls T)(h:t∈T):thr T (outer t)=t:=by obtain⟨h1,h2⟩:=Ro (T:=T) (CF.mpr ⟨t,h,rfl⟩);obtain⟨a,c,b⟩:=t;generalize thr T (outer (a,c,b))=u at h1 h2;obtain⟨a',c',b'⟩:=u;simp only[outer,Prod.mk.injEq]at h2;obtain⟨rfl,rfl⟩:=h2;have e1:=I.beh1 (.refl _) h1;have e2:=I.beh1 (.refl _) h;rw[e1]at e2;rw[e2]
def CInv.tops(I:CInv n ls T)(p:ls'.Perm ls):(((0,n - 1)::ls').map (thr T)).Perm T:=by
 have q:((0,n - 1)::ls').Perm (T.map outer):=(p.cons _).trans I.prm.symm;refine(q.map (thr T)).trans ?_;rw[DJ];have:T.map (thr T∘outer)=T:=by
  conv=>rhs;rw[<-List.map_id T]
  exact List.map_congr_left fun t ht=>I.thr_outer ht
 rw[this]
def CInv.top_in(I:CInv n ls T)(p:ls'.Perm ls)(h:q∈(0,n - 1)::ls'):thr T q∈T/\outer (thr T q)=q:=
 Ro ((((p.cons _).trans I.prm.symm).mem_iff).mp h)
def CInv.len(I:CInv n ls T):T.length=ls.length+1:=by have:=I.prm.length_eq;simpa using this
end
def bth(x y:Int)(t:P3):Bool:=(decide (x=t.1)||(decide (x=t.2.1)||decide (x=t.2.2)))&&(decide (y=t.1)||(decide (y=t.2.1)||decide (y=t.2.2)))
def bth_iff:bth x y (a,c,b)=true↔(x=a\/x=c\/x=b)/\(y=a\/y=c\/y=b):=by simp only[bth,gR,EB,ng]
open Classical in
noncomputable def ee(n:Int)(ls:List P2)(x y:Int):Nat:=(if(x,y)∈ls then 2 else 0)+(if y=x+1/\0<=x/\y<=n - 1 then 1 else 0)+(if x=0/\y=n - 1 then 1 else 0)
def Cnt(n:Int)(ls:List P2)(T:List P3):Prop:=∀x y,x<y->(T.filter (bth x y)).length=ee n ls x y
end Cu
namespace Cu
structure Lns(n:Int)(ls:List P2):Prop where
 n3:3<=n
 lin:∀a b,(a,b)∈ls->0<=a/\a+2<=b/\b<=n - 1/\¬(a=0/\b=n - 1)
 nc:∀a b c d,(a,b)∈ls->(c,d)∈ls->¬(a<c/\c<b/\b<d)
 nd:ls.Nodup
structure Nx(t:P2)(ls:List P2)(nx:Int->Int):Prop where
 up:∀c,c<t.2->c<nx c/\nx c<=t.2
 or:∀c,c<t.2->((c,nx c)∈ls/\(c,nx c)≠t)\/nx c=c+1
 ge:∀c e,(c,e)∈ls->e<=t.2->(c,e)≠t->e<=nx c
inductive Ch (b:Int) (nx:Int->Int):Int->List Int->List P2->Prop
 |last:Ch b nx b [b] []
 |step {c:Int} {l:List Int} {es:List P2} (h:c<b) (r:Ch b nx (nx c) l es):Ch b nx c (c::l) ((c,nx c)::es)
section
variable {b:Int}{nx:Int->Int}{c:Int}{l:List Int}{es:List P2}
def Ch.ge(h:Ch b nx c l es)(hu:∀c,c<b->c<nx c/\nx c<=b):(∀x∈l,c<=x/\x<=b)/\l.Pairwise (·<·)/\c∈l/\b∈l:=by
 induction h with
 |last=>exact⟨fun x hx=>by simp at hx;lia,by simp,by simp,by simp⟩
 |step h r ih=>
  have u:=hu _ h
  refine⟨fun x hx=>?_,EY.mpr ⟨fun x hx=>?_,ih.2.1⟩,by simp,dg _ ih.2.2.2⟩
  . rcases eH.mp hx with rfl |hx
    . lia
    . have:=ih.1 x hx;lia
  . have:=ih.1 x hx;lia
def Ch.edge(h:Ch b nx c l es)(hu:∀c,c<b->c<nx c/\nx c<=b):(∀x y,(x,y)∈es↔x∈l/\x<b/\y=nx x)/\es.Nodup:=by
 induction h with
 |last=>exact⟨fun x y=>by simp;lia,HB⟩
 | @step c l es h r ih=>
  have g:=r.ge hu
  have u:=hu _ h
  refine⟨fun x y=>?_,CL.mpr ⟨fun hm=>?_,ih.2⟩⟩
  . rw[eH,ih.1,eH,Prod.mk.injEq];constructor
    . rintro (⟨rfl,rfl⟩ |⟨h1,h2,h3⟩)
      . exact⟨.inl rfl,h,rfl⟩
      . exact⟨.inr h1,h2,h3⟩
    . rintro⟨rfl |h1,h2,h3⟩
      . exact .inl ⟨rfl,h3⟩
      . exact .inr ⟨h1,h2,h3⟩
  . have:=(ih.1 c _).mp hm;have:=g.1 c this.1
    lia
def Ch.le(h:Ch b nx c l es)(hu:∀c,c<b->c<nx c/\nx c<=b):∀x y,x∈l->y∈l->x<y->nx x<=y:=by
 induction h with
 |last=>intro x y hx hy;simp at hx hy;lia
 | @step c l es h r ih=>
  have g:=r.ge hu
  have u:=hu _ h
  intro x y hx hy hl
  rcases eH.mp hx with e1 |kx<;>rcases eH.mp hy with e2 |ky
  . lia
  . rw[e1];exact(g.1 y ky).1
  . have:=g.1 x kx;lia
  . exact ih x y kx ky hl
def Ch.lo(h:Ch b nx c l es):∀z,c<=z->z<=b->∃p,p∈l/\p<=z/\(z=p\/(p<b/\z<nx p)):=by
 induction h with
 |last=>intro z h1 h2;exact⟨b,by simp,by lia,.inl (by lia)⟩
 | @step c l es h r ih=>
  intro z h1 h2
  by_cases q:z<nx c
  . exact⟨c,by simp,h1,.inr ⟨h,q⟩⟩
  . obtain⟨p,p1,p2,p3⟩:=ih z (by lia) h2;exact⟨p,dg _ p1,p2,p3⟩
def Ch.ends(h:Ch b nx c l es):(∃m,l=m++[b])/\∃m,l=c::m:=by
 induction h with
 |last=>exact⟨⟨[],rfl⟩,[],rfl⟩
 | @step c l es h r ih=>obtain⟨⟨m,e⟩,_⟩:=ih;exact⟨⟨c::m,by rw[e];rfl⟩,l,rfl⟩
theorem Ch.ex(hu:∀c,c<b->c<nx c/\nx c<=b):∀(k:Nat)(c:Int),c<=b->(b - c).toNat<=k->∃l es,Ch b nx c l es
 | 0,c,h,hk=>by
  have:c=b:=by lia
  subst this;exact⟨_,_,.last⟩
 |k+1,c,h,hk=>by
  by_cases q:c<b
  . have u:=hu c q;obtain⟨l,es,r⟩:=Ch.ex hu k (nx c) u.2 (by lia);exact⟨_,_,.step q r⟩
  . have:c=b:=by lia
    subst this;exact⟨_,_,.last⟩
def Ch.len(h:Ch b nx c l es)(hu:∀c,c<b->c<nx c/\nx c<=b):(l.length:Int)<=b - c+1:=by
 induction h with
 |last=>simp
 | @step c l es h r ih=>have u:=hu _ h;simp;lia
end
theorem Dd(f:α->Nat)(P:α->Prop)(l:List α):∀(k:Nat),(∃x∈l,P x/\f x<=k)->∃x∈l,P x/\∀y∈l,P y->f x<=f y
 | 0,⟨x,h1,h2,h3⟩=>⟨x,h1,h2,fun y _ _=>by lia⟩
 |k+1,⟨x,h1,h2,h3⟩=>by
  by_cases q:∃y∈l,P y/\f y<=k
  . exact Dd f P l k q
  . refine⟨x,h1,h2,fun y hy py=>?_⟩;by_cases z:f y<=k
    . exact absurd ⟨y,hy,py,z⟩ q
    . lia
section
variable {n:Int}{ls:List P2}
def j1(n:Int)(ls:List P2)(t:P2):Prop:=t=(0,n - 1)\/t∈ls
def Lns.top(I:Lns n ls)(h:j1 n ls (a,b)):0<=a/\a+2<=b/\b<=n - 1:=by
 have:=I.n3;rcases h with h |h
 . cases h;lia
 . have:=I.lin a b h;lia
def Lns.tnc(I:Lns n ls)(h:j1 n ls (a,b))(h':j1 n ls (c,d)):¬(a<c/\c<b/\b<d):=by
 have t1:=I.top h;have t2:=I.top h';rcases h with h |h
 . cases h;omega
 rcases h' with h' |h'
 . cases h';omega
 exact I.nc a b c d h h'
def Fp(n:Int)(ls:List P2)(f:P2):Prop:=f∈ls\/(f.2=f.1+1/\0<=f.1/\f.2<=n - 1)
def Lns.room(I:Lns n ls)(ht:j1 n ls t)(X:Nx t ls nx)(Z:Ch t.2 nx t.1 C E) :
  3<=C.length/\(∀x∈C,0<=x/\x<=n - 1)/\t∉E/\(∀f∈E,Fp n ls f/\f.1<f.2)/\∀c e,(c,e)∈ls->c∈C->e∈C->(c,e)∈E\/(c,e)=t:=by
 obtain⟨a,b⟩:=t
 have tt:=I.top ht
 have G:=Z.ge X.up
 have Ed:=Z.edge X.up
 have ua:=X.up a (by simp only;lia)
 simp only at ua
 have na:nx a<b:=by
  rcases X.or a (by simp only;lia) with⟨o1,o2⟩ |o
  . have:nx a≠b:=fun z=>o2 (by rw[z])
    lia
  . lia
 refine⟨?_,fun x hx=>?_,fun hm=>?_,fun f hf=>?_,fun c e h hc he=>?_⟩
 . cases Z with
   |last=>lia
   |step h r=>
    rename_i l es
    generalize hx:nx a=x at *
    cases r with
    |last=>lia
    |step h2 r2=>
     obtain⟨m,e⟩:=r2.ends.2
     rw[e];simp
 . have:=G.1 x hx;simp only at this;lia
 . have:=(Ed.1 a b).mp hm;lia
 . obtain⟨c,e⟩:=f;obtain⟨h1,h2,h3⟩:=(Ed.1 c e).mp hf;have u:=X.up c h2;have:=(G.1 c h1).1;simp only at this u h2;refine⟨?_,by simp only;lia⟩;rcases X.or c h2 with⟨o1,o2⟩ |o
   . exact .inl (by rw[h3];exact o1)
   . exact .inr ⟨by simp only;lia,by simp only;lia,by simp only;lia⟩
 . by_cases q:(c,e)=(a,b)
   . exact .inr q
   . left;have l:=I.lin c e h;have h1:=G.1 e he;simp only at h1;have g:=X.ge c e h h1.2 q;have k:=Z.le X.up c e hc he (by lia);exact(Ed.1 c e).mpr ⟨hc,by simp only;lia,by lia⟩
variable {N:P2->Int->Int}(hN:∀t,j1 n ls t->Nx t ls (N t))
include hN
theorem Lns.inner(I:Lns n ls)(C:P2->List Int)(E:P2->List P2)(hC:∀t,j1 n ls t->Ch t.2 (N t) t.1 (C t) (E t))(hf:Fp n ls f) :
  ∃t,j1 n ls t/\f∈E t/\∀t',j1 n ls t'->f∈E t'->t'=t:=by
 have h3:=I.n3
 obtain⟨c,e⟩:=f
 have pM:0<=c/\c<e/\e<=n - 1:=by
  rcases hf with h |h
  . have:=I.lin c e h;lia
  . simp only at h;lia
 have uf:∀p q,j1 n ls (p,q)->p<c->c<q->e<=q:=fun p q hp h1 h2=>by
  rcases hf with h |h
  . have:=I.tnc hp (.inr h);lia
  . simp only at h;lia
 have f0:((0:Int),n - 1)≠(c,e):=fun z=>by
  cases z;rcases hf with h |h
  . have:=I.lin _ _ h;lia
  . simp only at h;lia
 obtain⟨t,ht,⟨iE,pN,pO⟩,cj⟩:=Dd (fun t:P2=>(t.2 - t.1).toNat) (fun t=>t.1<=c/\e<=t.2/\t≠(c,e)) ((0,n - 1)::ls) (n - 1).toNat ⟨(0,n - 1),by simp,⟨pM.1,pM.2.2,f0⟩,by simp⟩
 obtain⟨a,b⟩:=t
 have hT:j1 n ls (a,b):=eH.mp ht
 have cj:∀p q,j1 n ls (p,q)->p<=c->e<=q->(p,q)≠(c,e)->b - a<=q - p:=fun p q hp h1 h2 h3=>by
  have t1:=I.top hT;have t2:=I.top hp;have:=cj (p,q) (eH.mpr hp) ⟨h1,h2,h3⟩;simp only at this
  lia
 simp only at iE pN
 have tt:=I.top hT
 have X:=hN _ hT
 have Z:=hC _ hT
 have G:=Z.ge X.up
 have Ed:=Z.edge X.up
 refine⟨(a,b),hT,?_,fun t' fU hm=>?_⟩
 . -- c is a pY of the room
   obtain⟨p,p1,p2,p3⟩:=Z.lo c iE (by simp only;lia);have iQ:=(G.1 p p1).1;simp only at iQ p3;have pP:c=p:=by
    rcases p3 with p3 |⟨p3,p4⟩
    . exact p3
    . by_cases q:c=p
      . exact q
      . exfalso;have u:=X.up p p3;simp only at u;rcases X.or p p3 with⟨o1,o2⟩ |o
        . have o3:j1 n ls (p,N (a,b) p):=.inr o1;have:=uf _ _ o3 (by lia) p4;have:=cj _ _ o3 (by lia) this (fun z=>by cases z;lia);exact o2 (EW (by simp only;lia) (by simp only;lia))
        . lia
   subst pP;refine(Ed.1 _ _).mpr ⟨p1,by simp only;lia,?_⟩;have u:=X.up c (by simp only;lia);simp only at u;have pQ:e<=N (a,b) c:=by
    rcases hf with h |h
    . exact X.ge c e h pN (fun z=>pO z.symm)
    . simp only at h;lia
   by_cases q:e=N (a,b) c
   . exact q
   . exfalso;rcases X.or c (by simp only;lia) with⟨o1,o2⟩ |o
     . have o3:j1 n ls (c,N (a,b) c):=.inr o1;have:=cj _ _ o3 (by lia) pQ (fun z=>by cases z;lia);exact o2 (EW (by simp only;lia) (by simp only;lia))
     . lia
 . obtain⟨a',b'⟩:=t';have X':=hN _ fU;have Z':=hC _ fU;have G':=Z'.ge X'.up;have ug:=(Z'.edge X'.up).1 c e;obtain⟨m1,m2,m3⟩:=ug.mp hm;have u':=X'.up c m2;have mc:=(G'.1 c m1).1;simp only at m2 u' mc;have BU:=I.top fU;have uh:(a',b')≠(c,e):=fun z=>by
    cases z;rcases X'.or c m2 with⟨o1,o2⟩ |o
    . exact o2 (by rw[<-m3])
    . rw[<-m3]at o;lia
   have hl:=cj a' b' fU mc (by lia) uh;have n1:=I.tnc hT fU;have n2:=I.tnc fU hT;have ha:a'<=a:=by lia
   have hb:b<=b':=by lia
   by_cases eq:(a',b')=(a,b)
   . exact eq
   exfalso;have bG:(a,b)∈ls:=by
    rcases hT with h |h
    . cases h;exact absurd (EW (by simp only;lia) (by simp only;lia)) eq
    . exact h
   have pQ:=X'.ge a b bG hb (fun z=>eq z.symm);by_cases q:a=c
   . subst q;exact pO (EW rfl (by simp only;lia))
   . obtain⟨p,p1,p2,p3⟩:=Z'.lo a ha (by simp only;lia);have pP:=Z'.le X'.up p c p1 m1 (by lia);simp only at p3;rcases p3 with p3 |⟨p3,p4⟩
     . subst p3;lia
     . by_cases q2:a=p
       . subst q2;lia
       . rcases X'.or p p3 with⟨o1,o2⟩ |o
         . have:=I.tnc (.inr o1) hT
           lia
         . lia
end
theorem Aw:∀{l:List α},(∀x∈l,φ x=0)->(l.map φ).sum=0
 | [],_=>rfl
 |a::l,h=>by rw[gD,FO,h a (by simp),Aw fun x hx=>h x (by simp[hx])]
theorem Av:∀{l:List α},l.Nodup->t∈l->(∀x∈l,x≠t->φ x=0)->(l.map φ).sum=φ t
 | [],_,h,_=>by cases h
 |a::l,nd,h,hz=>by
  rw[gD,FO];have eD:=CL.mp nd;by_cases e:a=t
  . subst e;rw[Aw fun x hx=>hz x (by simp[hx]) fun z=>eD.1 (by rw[<-z];exact hx)];lia
  . rw[hz a (by simp) e,Av eD.2 ((eH.mp h).resolve_left fun z=>e z.symm) fun x hx hn=>hz x (by simp[hx]) hn];lia
theorem Ub{α:Type}{φ ψ:α->Nat}:∀{l:List α},(l.map fun x=>φ x+ψ x).sum=(l.map φ).sum+(l.map ψ).sum
 | []=>rfl
 |a::l=>by rw[gD,gD,gD,FO,FO,FO,Ub (l:=l)];lia
section
variable {n:Int}{ls:List P2}{N:P2->Int->Int}
def Lns.tops_nd(I:Lns n ls):((0,n - 1)::ls).Nodup:=CL.mpr ⟨fun h=>by have:=I.lin _ _ h;omega,I.nd⟩
def Lns.twice(I:Lns n ls)(hN:∀t,j1 n ls t->Nx t ls (N t))(C:P2->List Int)(E:P2->List P2)(hC:∀t,j1 n ls t->Ch t.2 (N t) t.1 (C t) (E t))(hf:f=(0,n - 1)\/Fp n ls f) :
  (((0,n - 1)::ls).map fun t=>(E t++[t]).count f).sum=if f∈ls then 2 else 1:=by
 have e1:(fun t=>(E t++[t]).count f)=fun t=>(E t).count f+[t].count f:=by funext t;rw[List.count_append]
 rw[e1,Ub]
 have nd:=I.tops_nd
 have mt:∀t,t∈(0,n - 1)::ls↔j1 n ls t:=fun t=>eH
 have c1:∀t,j1 n ls t->(E t).count f=if f∈E t then 1 else 0:=fun t ht=>by rw[(((hC t ht).edge (hN t ht).up).2).count]
 have s2:∀t,[t].count f=if t=f then 1 else 0:=fun t=>by
  rw[List.count_singleton];by_cases z:t=f
  . rw[ζ z];simp[z]
  . rw[ξ z,ξ (by simpa using z)]
 by_cases h0:f∈ls
 . rw[ζ h0];obtain⟨t,ht,hm,hu⟩:=I.inner hN C E hC (.inl h0);rw[Av nd ((mt t).mpr ht) (fun x hx hn=>by rw[c1 x ((mt x).mp hx),ξ fun z=>hn (hu x ((mt x).mp hx) z)]),Av (t:=f) nd (by simp[h0]) (fun x hx hn=>by rw[s2,ξ hn]),c1 t ht,ζ hm,s2,ζ rfl]
 . rw[ξ h0];rcases hf with hf |hf
   . rw[Aw (fun x hx=>by
      rw[c1 x ((mt x).mp hx),ξ fun z=>?_];have:=((I.room ((mt x).mp hx) (hN _ ((mt x).mp hx)) (hC _ ((mt x).mp hx))).2.2.2.1 f z).1;rcases this with q |q
      . exact h0 q
      . have:=I.n3;rw[hf]at q;simp only at q;lia),Av (t:=f) nd (by simp[hf]) (fun x hx hn=>by rw[s2,ξ hn]),s2,ζ rfl]
   . obtain⟨t,ht,hm,hu⟩:=I.inner hN C E hC hf;rw[Av nd ((mt t).mpr ht) (fun x hx hn=>by
      rw[c1 x ((mt x).mp hx),ξ fun z=>hn (hu x ((mt x).mp hx) z)]),Aw (φ:=fun t=>[t].count f) (fun x hx=>by
      rw[s2,ξ fun z=>?_];rw[z]at hx;rcases eH.mp hx with q |q
      . rcases hf with hf |hf
        . exact h0 hf
        . have:=I.n3;rw[q]at hf;simp only at hf;lia
      . exact h0 q),c1 t ht,ζ hm]
end
def b1n(b:Bool):Nat:=if b=true then 1 else 0
def xi(x y a c b:Int):b1n (bth x y (a,c,b))=if((x=a\/x=c\/x=b)/\(y=a\/y=c\/y=b)) then 1 else 0:=by
 unfold b1n;by_cases h:bth x y (a,c,b)=true
 . rw[ζ h,ζ (bth_iff.mp h)]
 . rw[ξ h,ξ (fun z=>h (bth_iff.mpr z))]
def e2(x y a b:Int):Nat:=if x=a/\y=b then 1 else 0
def y5m(iV:x<y)(h1:a<c)(h2:c<b):b1n (bth x y (a,c,b))=e2 x y a c+e2 x y c b+e2 x y a b:=by
 rw[xi];unfold e2;by_cases z1:x=a/\y=c
 . rw[ζ ⟨.inl z1.1,.inr (.inl z1.2)⟩,ζ z1,ξ (fun z=>by lia),ξ (fun z=>by lia)]
 . by_cases z2:x=c/\y=b
   . rw[ζ ⟨.inr (.inl z2.1),.inr (.inr z2.2)⟩,ξ z1,ζ z2,ξ (fun z=>by clear z1;lia)]
   . by_cases z3:x=a/\y=b
     . rw[ζ ⟨.inl z3.1,.inr (.inr z3.2)⟩,ξ z1,ξ z2,ζ z3]
     . rw[ξ (fun z=>by rcases z with⟨h |h |h,k |k |k⟩<;>first |exact z1 ⟨h,k⟩ |exact z2 ⟨h,k⟩ |exact z3 ⟨h,k⟩ | (clear z1 z2 z3;lia)),ξ z1,ξ z2,ξ z3]
def CInv.top_or(I:CInv n ls T)(h:(a,c,b)∈T):(a,b)∈ls\/(a=0/\b=n - 1):=by
 have:(a,b)∈(0,n - 1)::ls:=I.prm.mem_iff.mp (CF.mpr ⟨(a,c,b),h,rfl⟩);rcases eH.mp this with z |z
 . simp only[Prod.mk.injEq]at z;exact .inr z
 . exact .inl z
structure Cut(n:Int)(ls:List P2)(T:List P3):Prop where
 inv:CInv n ls T
 cnt:Cnt n ls T
def nc2(I:CInv n ls T)(h:(a,b)∈ls\/b=a+1)(hx:(x,y)∈ls):¬(a<x/\x<b/\b<y)/\¬(x<a/\a<y/\y<b):=by
 rcases h with h |h
 . exact⟨I.nc a b x y h hx,I.nc x y a b hx h⟩
 . lia
def nc3(I:CInv n ls T)(h:(a,b)∈ls\/(a=0/\b=n - 1))(hx:(x,y)∈ls):¬(a<x/\x<b/\b<y)/\¬(x<a/\a<y/\y<b):=by
 rcases h with h |h
 . exact⟨I.nc a b x y h hx,I.nc x y a b hx h⟩
 . have:=I.lin x y hx;omega
def y8n{p m q r x y:Int}(a2:p<m)(a3:m<q)(b3:q<r)(k1:¬(p<x/\x<m/\m<y)/\¬(x<p/\p<y/\y<m))(k2:¬(m<x/\x<q/\q<y)/\¬(x<m/\m<y/\y<q))(k3:¬(q<x/\x<r/\r<y)/\¬(x<q/\q<y/\y<r))(k4:¬(p<x/\x<r/\r<y)/\¬(x<p/\p<y/\y<r))(h2:¬(x=p/\y=q))(hl:x+2<=y) :
  ¬(m<x/\x<r/\r<y)/\¬(x<m/\m<y/\y<r):=by
 refine⟨fun⟨u,v,z⟩=>k4.1 ⟨EU a2 u,v,z⟩,fun⟨u,v,z⟩=>?_⟩
 rcases DZ y q with f |f |f
 . exact k2.2 ⟨u,v,f⟩
 . subst f;rcases DZ x p with e |e |e
   . exact k4.2 ⟨e,EU a2 v,z⟩
   . exact h2 ⟨e,rfl⟩
   . exact k1.1 ⟨e,u,v⟩
 . exact k3.2 ⟨EU u a3,f,z⟩
def y8o{p m q r x y:Int}(a2:p<m)(a3:m<q)(b2:r<p)(k1:¬(p<x/\x<m/\m<y)/\¬(x<p/\p<y/\y<m))(k2:¬(m<x/\x<q/\q<y)/\¬(x<m/\m<y/\y<q))(k3:¬(r<x/\x<p/\p<y)/\¬(x<r/\r<y/\y<p))(k4:¬(r<x/\x<q/\q<y)/\¬(x<r/\r<y/\y<q))(h2:¬(x=p/\y=q))(hl:x+2<=y) :
  ¬(r<x/\x<m/\m<y)/\¬(x<r/\r<y/\y<m):=by
 refine⟨fun⟨u,v,z⟩=>?_,fun⟨u,v,z⟩=>k4.2 ⟨u,v,EU z a3⟩⟩
 rcases DZ x p with e |e |e
 . exact k3.1 ⟨u,e,EU a2 z⟩
 . subst e;rcases DZ y q with f |f |f
   . exact k2.2 ⟨v,z,f⟩
   . exact h2 ⟨rfl,f⟩
   . exact k4.1 ⟨u,EU v a3,f⟩
 . exact k1.1 ⟨e,v,z⟩
end Cu
namespace Cu
open L2 (mxD O5)
def nxt(ls:List P2)(t:P2)(c:Int):Int:=mxD (c+1) (ends c t ls)
def Ja:(mxD d ys∈ys\/(ys=[]/\mxD d ys=d))/\∀y∈ys,y<=mxD d ys:=by
 cases ys with
 |nil=>exact⟨.inr ⟨rfl,rfl⟩,fun y hy=>by cases hy⟩
 |cons n ns=>
  obtain⟨a,b⟩:=O5 ns n
  exact⟨.inl a,b⟩
def Cj(I:Lns n ls)(t:P2):Nx t ls (nxt ls t) where
 up:=fun c hc=>by
  unfold nxt;rcases (Ja (d:=c+1) (ys:=ends c t ls)).1 with h |⟨_,h⟩
  . obtain⟨m1,m2,m3⟩:=mem_ends.mp h;have:=I.lin _ _ m1;exact⟨by lia,m2⟩
  . rw[h];lia
 or:=fun c hc=>by
  unfold nxt;rcases (Ja (d:=c+1) (ys:=ends c t ls)).1 with h |⟨_,h⟩
  . obtain⟨m1,m2,m3⟩:=mem_ends.mp h;exact .inl ⟨m1,fun z=>m3 ⟨DI Prod.fst z,DI Prod.snd z⟩⟩
  . exact .inr h
 ge:=fun c e h1 h2 h3=>(Ja (d:=c+1) (ys:=ends c t ls)).2 e (mem_ends.mpr ⟨h1,h2,fun z=>h3 (EW z.1 z.2)⟩)
def CInv.lns(I:CInv n ls T)(nd:xs.Nodup)(h:∀p∈xs,p∈ls):Lns n xs:=
 ⟨I.n3,fun a b m=>I.lin a b (h _ m),fun a b c d m1 m2=>I.nc a b c d (h _ m1) (h _ m2),nd⟩
theorem Ua(p:α->Bool):∀l:List α,(l.filter p).length=(l.map fun x=>b1n (p x)).sum
 | []=>rfl
 |x::l=>by rw[gD,FO,<-Ua p l,EE];unfold b1n;cases p x<;>simp<;>lia
def y1k(I:CInv n ls T):Cnt n ls T:=by
 intro x y iV;have L:=I.lns I.nd fun _ z=>z
 have hC:∀t,j1 n ls t->Ch t.2 (nxt ls t) t.1 [(thr T t).1,(thr T t).2.1,(thr T t).2.2] [((thr T t).1,(thr T t).2.1),((thr T t).2.1,(thr T t).2.2)]:=fun t ht=>by
  obtain⟨m,o⟩:=I.top_in (.refl _) (q:=t) (by rcases ht with rfl |h;exact gq;exact dg _ h);generalize thr T t=u at m o;obtain⟨a,c,b⟩:=u;simp only[outer]at o;subst o;have g:=I.tri a c b m;have e1:nxt ls (a,b) a=c:=I.beh1 (.refl _) m;have e2:nxt ls (a,b) c=b:=I.beh2 (.refl _) m;have s2:Ch b (nxt ls (a,b)) c [c,b] [(c,b)]:=by have:=Ch.step (b:=b) (nx:=nxt ls (a,b)) (c:=c) (l:=[b]) (es:=[]) (by omega) (by rw[e2];exact .last);rwa [e2]at this
  have s1:=Ch.step (b:=b) (nx:=nxt ls (a,b)) (c:=a) (l:=[c,b]) (es:=[(c,b)]) (by omega) (by rw[e1];exact s2);rw[e1]at s1;exact s1
 have key:(T.filter (bth x y)).length=(((0,n - 1)::ls).map fun t=>([((thr T t).1,(thr T t).2.1),((thr T t).2.1,(thr T t).2.2)]++[t]).count (x,y)).sum:=by rw[<-((I.tops (.refl ls)).filter (bth x y)).length_eq,Ua,DJ];refine DI List.sum (List.map_congr_left fun t ht=>?_);obtain⟨m,o⟩:=I.top_in (.refl _) (q:=t) ht;show b1n (bth x y (thr T t))=_;generalize thr T t=u at m o;obtain⟨a,c,b⟩:=u;simp only[outer]at o;subst o;have g:=I.tri a c b m;rw[y5m iV (by omega) (by omega)];unfold e2;simp only[List.cons_append,DT,List.count_cons,List.count_nil,FE,Prod.mk.injEq];have c1:(a=x/\c=y)↔(x=a/\y=c):=⟨fun z=>⟨z.1.symm,z.2.symm⟩,fun z=>⟨z.1.symm,z.2.symm⟩⟩;have c2:(c=x/\b=y)↔(x=c/\y=b):=⟨fun z=>⟨z.1.symm,z.2.symm⟩,fun z=>⟨z.1.symm,z.2.symm⟩⟩;have c3:(a=x/\b=y)↔(x=a/\y=b):=⟨fun z=>⟨z.1.symm,z.2.symm⟩,fun z=>⟨z.1.symm,z.2.symm⟩⟩;simp only[c1,c2,c3];omega
 rw[key];by_cases hf:(x,y)=(0,n - 1)\/Fp n ls (x,y)
 . rw[L.twice (fun t _=>Cj L t) (fun t=>[(thr T t).1,(thr T t).2.1,(thr T t).2.2]) (fun t=>[((thr T t).1,(thr T t).2.1),((thr T t).2.1,(thr T t).2.2)]) hC hf];unfold ee;by_cases hm:(x,y)∈ls
   . have:=I.lin x y hm;rw[ζ hm,ζ hm,ξ (by omega),ξ (by omega)]
   . have h3:=I.n3;rw[ξ hm,ξ hm];rcases hf with hf |hf |hf
     . simp only[Prod.mk.injEq]at hf;rw[ξ (by omega),ζ hf]
     . exact absurd hf hm
     . simp only at hf;rw[ζ ⟨hf.1,hf.2.1,hf.2.2⟩,ξ (by omega)]
 . have z:∀t∈(0,n - 1)::ls,([((thr T t).1,(thr T t).2.1),((thr T t).2.1,(thr T t).2.2)]++[t]).count (x,y)=0:=fun t ht=>by
    rw[List.count_eq_zero]
    intro hm
    have tt:j1 n ls t:=eH.mp ht
    rcases CN.mp hm with hm |hm
    . have:=((L.room tt (Cj L t) (hC t tt)).2.2.2.1 (x,y) hm).1;exact hf (.inr this)
    . rw[gV]at hm;rw[hm]at hf;rcases tt with tt |tt
      . exact hf (.inl tt)
      . exact hf (.inr (.inl tt))
   rw[Aw z]
   unfold ee
   have n1:(x,y)∉ls:=fun h=>hf (.inr (.inl h))
   rw[ξ n1,ξ (fun h=>hf (.inr (.inr ⟨h.1,h.2.1,h.2.2⟩))),ξ (fun h=>hf (.inl (by rw[h.1,h.2])))]
def CInv.cut(I:CInv n ls T):Cut n ls T:=⟨I,y1k I⟩
end Cu
namespace Cu
def Cut.two(K:Cut n ls T)(hl:l∈ls):(T.filter (bth l.1 l.2)).length=2:=by have:=K.inv.lin l.1 l.2 hl;rw[K.cnt l.1 l.2 (by omega)];unfold ee;rw[ζ (show(l.1,l.2)∈ls from hl),ξ (by omega),ξ (by omega)]
def K8{ls ls0:List P2}{p q:Int}{w:P2}(pl:ls.Perm ((p,q)::ls0)){x y:Int}(h1:(x,y)∈ls)(h2:¬(x=p/\y=q)):(x,y)∈ls0++[w]:=by
 rcases eH.mp (pl.mem_iff.mp h1) with z |z
 . exact absurd (Prod.mk.inj z) h2
 . exact EC _ z
def Cut.turnG(K:Cut n ls T)(pT:T.Perm (t1::t2::T0))(pl:ls.Perm ((p,q)::ls0))(b1:bth p q t1=true)(b2:bth p q t2=true)
  (hu:∀u,u=u1\/u=u2->0<=u.1/\u.1<u.2.1/\u.2.1<u.2.2/\u.2.2<=n - 1/\((u.1,u.2.1)∈ls0++[(a,b)]\/u.2.1=u.1+1)/\((u.2.1,u.2.2)∈ls0++[(a,b)]\/u.2.2=u.2.1+1))
  (hw:0<=a/\a+2<=b/\b<=n - 1/\¬(a=0/\b=n - 1)) (new:∀x y,(x,y)∈ls->¬(x=p/\y=q)->¬(a<x/\x<b/\b<y)/\¬(x<a/\a<y/\y<b)) (wn:(a,b)∉ls)
  (hp:∀s,((outer t1)::(outer t2)::T0.map outer).Perm ((p,q)::s)->((outer u1)::(outer u2)::T0.map outer).Perm ((a,b)::s)) :
  Cut n (ls0++[(a,b)]) (u1::u2::T0):=by
 have I:=K.inv
 have fV:=CL.mp (pl.nodup_iff.mp I.nd)
 have ig:(p,q)∈ls:=pl.mem_iff.mpr gq
 have sub:∀x y,(x,y)∈ls0->(x,y)∈ls/\¬(x=p/\y=q):=fun x y h=>⟨pl.mem_iff.mpr (dg _ h),fun z=>fV.1 (by rw[<-z.1,<-z.2];exact h)⟩
 refine CInv.cut ⟨I.n3,fun x y z h=>?_,fun x y h=>?_,fun x y z w h h'=>?_,?_,?_⟩
 . rcases eH.mp h with h |h
   . exact hu _ (.inl h)
   rcases eH.mp h with h |h
   . exact hu _ (.inr h)
   . obtain⟨c1,c2,c3,c4,c5,c6⟩:=I.tri x y z (pT.mem_iff.mpr (dg _ (dg _ h)));have e:=(pT.filter (bth p q)).length_eq;rw[show(T.filter (bth p q)).length=2 from K.two ig,CH b1,CH b2]at e;have nil:T0.filter (bth p q)=[]:=DO.mp (Nat.succ.inj (Nat.succ.inj e)).symm;have nb:¬(bth p q (x,y,z)=true):=fun w=>FG (nil ▸ CA.mpr ⟨h,w⟩)
     rw[bth_iff]at nb;exact⟨c1,c2,c3,c4,c5.imp (fun h=>K8 pl h fun e=>nb ⟨.inl e.1.symm,.inr (.inl e.2.symm)⟩) id,c6.imp (fun h=>K8 pl h fun e=>nb ⟨.inr (.inl e.1.symm),.inr (.inr e.2.symm)⟩) id⟩
 . rcases CN.mp h with h |h
   . exact I.lin x y (sub x y h).1
   . obtain⟨rfl,rfl⟩:=Prod.mk.inj (gV.mp h);exact hw
 . rcases CN.mp h with k |k<;>rcases CN.mp h' with k' |k'
   . exact I.nc x y z w (sub x y k).1 (sub z w k').1
   . obtain⟨e1,e2⟩:=Prod.mk.inj (gV.mp k');rw[e1,e2];exact(new x y (sub x y k).1 (sub x y k).2).2
   . obtain⟨e1,e2⟩:=Prod.mk.inj (gV.mp k);rw[e1,e2];exact(new z w (sub z w k').1 (sub z w k').2).1
   . rw[(Prod.mk.inj (gV.mp k)).1,(Prod.mk.inj (gV.mp k')).1];exact fun e=>Int.lt_irrefl _ e.1
 . rw[HH];refine⟨fV.2,CL.mpr ⟨FG,HB⟩,fun x hx y hy e=>wn ?_⟩;rw[<-gV.mp hy,<-e];exact(sub _ _ hx).1
 . refine(hp _ (((pT.map outer).symm.trans I.prm).trans ((pl.cons _).trans (.swap _ _ _)))).trans ?_;exact(List.Perm.swap _ _ _).trans (List.Perm.cons _ (HA _ _).symm)
def Cut.turnA(K:Cut n ls T)(pT:T.Perm ((p,m,q)::(p,q,r)::T0))(pl:ls.Perm ((p,q)::ls0)) :
  Cut n (ls0++[(m,r)]) ((p,m,r)::(m,q,r)::T0):=by
 have I:=K.inv
 have m2:(p,q,r)∈T:=pT.mem_iff.mpr (dg _ gq)
 obtain⟨a1,a2,a3,a4,a5,a6⟩:=I.tri p m q (pT.mem_iff.mpr gq)
 obtain⟨b1,b2,b3,b4,b5,b6⟩:=I.tri p q r m2
 have tp:=I.top_or m2
 have ig:(p,q)∈ls:=pl.mem_iff.mpr gq
 have np:(m,r)∈ls0++[(m,r)]:=CK _ gq
 have c1:0<=m:=GN (GD a1 a2)
 refine K.turnG pT pl (bth_iff.mpr ⟨.inl rfl,.inr (.inr rfl)⟩) (bth_iff.mpr ⟨.inl rfl,.inr (.inl rfl)⟩) (fun u h=>?_) ⟨c1,by clear a5 a6 b5 b6 tp;lia,b4,fun z=>by have:=z.1;lia⟩ (fun x y h1 h2=>y8n a2 a3 b3 (nc2 I a5 h1) (nc2 I a6 h1) (nc2 I b6 h1) (nc3 I tp h1) h2 (I.lin x y h1).2.1) (fun z=>I.nc p q m r ig z ⟨a2,a3,b3⟩) (fun s h=>?_)
 . rcases h with rfl |rfl
   . exact⟨a1,a2,EU a3 b3,b4,a5.imp (fun h=>K8 pl h fun z=>Int.ne_of_lt a3 z.2) id,.inl np⟩
   . exact⟨c1,a3,b3,b4,a6.imp (fun h=>K8 pl h fun z=>GY a2 z.1) id,b6.imp (fun h=>K8 pl h fun z=>GY b3 z.2) id⟩
 . exact(List.Perm.swap _ _ _).trans (((List.perm_cons (p,q)).mp h).cons _)
def Cut.turnB(K:Cut n ls T)(pT:T.Perm ((p,m,q)::(r,p,q)::T0))(pl:ls.Perm ((p,q)::ls0)) :
  Cut n (ls0++[(r,m)]) ((r,p,m)::(r,m,q)::T0):=by
 have I:=K.inv
 have m2:(r,p,q)∈T:=pT.mem_iff.mpr (dg _ gq)
 obtain⟨a1,a2,a3,a4,a5,a6⟩:=I.tri p m q (pT.mem_iff.mpr gq)
 obtain⟨b1,b2,b3,b4,b5,b6⟩:=I.tri r p q m2
 have tp:=I.top_or m2
 have ig:(p,q)∈ls:=pl.mem_iff.mpr gq
 have np:(r,m)∈ls0++[(r,m)]:=CK _ gq
 have c1:m<=n - 1:=GN (FL a3 a4)
 refine K.turnG pT pl (bth_iff.mpr ⟨.inl rfl,.inr (.inr rfl)⟩) (bth_iff.mpr ⟨.inr (.inl rfl),.inr (.inr rfl)⟩) (fun u h=>?_) ⟨b1,by clear a5 a6 b5 b6 tp;lia,c1,fun z=>by have:=z.2;lia⟩ (fun x y h1 h2=>y8o a2 a3 b2 (nc2 I a5 h1) (nc2 I a6 h1) (nc2 I b5 h1) (nc3 I tp h1) h2 (I.lin x y h1).2.1) (fun z=>I.nc r m p q z ig ⟨b2,a2,a3⟩) (fun s h=>?_)
 . rcases h with rfl |rfl
   . exact⟨b1,b2,a2,c1,b5.imp (fun h=>K8 pl h fun z=>Int.ne_of_lt b2 z.1) id,a5.imp (fun h=>K8 pl h fun z=>Int.ne_of_lt a3 z.2) id⟩
   . exact⟨b1,EU b2 a2,a3,a4,.inl np,a6.imp (fun h=>K8 pl h fun z=>GY a2 z.1) id⟩
 . exact((List.perm_cons (p,q)).mp h).cons _
def CInv.T_nodup(I:CInv n ls T):T.Nodup:=by
 have h:((0,n - 1)::ls).Nodup:=by rw[CL];exact⟨fun z=>by have:=I.lin _ _ z;omega,I.nd⟩
 have:=I.prm.nodup_iff.mpr h;exact List.Pairwise.of_map outer (fun a b h e=>h (by rw[e])) this
open L2 (so3 B0 soI Lb ltT L Ey J5 On Dz J8)
def Wh(p:a.Perm b):soI a=soI b:=by have:=Ey (J5 b L2.D.int On) (p.map L2.D.int);rw[Dz,Dz]at this;exact J8 (fun _ _ h=>by cases h;rfl) this
def qU(h:a<b):soI [a,b]=[a,b]:=by
 have e:ltT (L2.D.int b) (L2.D.int a)=false:=by simp only[L2.ltT];exact decide_eq_false (by lia)
 simp only[soI,L2.sortB,L2.insB,e,tB,DG]
def dues(T:List P3)(p:P2):List Int:=soI (((so3 T).filter (bth p.1 p.2)).map fun t=>t.1+(t.2.1+(t.2.2+0)) - (p.1+(p.2+0)))
def Tz(h:(T.filter (bth p.1 p.2)).Perm F):dues T p=soI (F.map fun t=>t.1+(t.2.1+(t.2.2+0)) - (p.1+(p.2+0))):=
 Wh (((((B0 T).filter _).trans h)).map _)
def under(I:CInv n ls T)(h:(a,b)=(0,n - 1)\/(a,b)∈ls):∃m,(a,m,b)∈T:=by obtain⟨t1,t2⟩:=I.top_in (ls':=ls) (.refl _) (q:=(a,b)) (eH.mpr h);generalize Cu.thr T (a,b)=u at t1 t2;obtain⟨x,m,y⟩:=u;simp only[outer,Prod.mk.injEq]at t2;obtain⟨rfl,rfl⟩:=t2;exact⟨m,t1⟩
section
variable {n:Int}{ls:List P2}{T:List P3}{p m q r:Int}
def Hz{α:Type}[DecidableEq α]{l:List α}{x y:α}(hx:x∈l)(hy:y∈l)(ah:x≠y):∃s,l.Perm (x::y::s):=by have iC:y∈l.erase x:=(List.mem_erase_of_ne (FP ah)).mpr hy;exact⟨(l.erase x).erase y,(GR hx).trans ((GR iC).cons x)⟩
theorem Ty(K:Cut n ls T)(h:l∈ls)(h1:t1∈T)(h2:t2∈T)(ah:t1≠t2)(b1:bth l.1 l.2 t1=true)(b2:bth l.1 l.2 t2=true):(T.filter (bth l.1 l.2)).Perm [t1,t2]:=by
 obtain⟨T0,pT⟩:=Hz h1 h2 ah;have e:=pT.filter (bth l.1 l.2);rw[CH b1,CH b2]at e;have l0:(T0.filter (bth l.1 l.2)).length=0:=by
  have:=e.length_eq;rw[K.two h]at this;simp only[io]at this
  lia
 rwa [DO.mp l0]at e
def Dc(K:Cut n ls T)(h:(p,q)∈ls)(h1:(p,m,q)∈T)(h2:(p,q,r)∈T):dues T (p,q)=[m,r]:=by have g1:=K.inv.tri _ _ _ h1;have g2:=K.inv.tri _ _ _ h2;rw[Tz (Ty K h h1 h2 (by simp only[ne_eq,Prod.mk.injEq];omega) (bth_iff.mpr (by simp)) (bth_iff.mpr (by simp)))];simp only[gD,CM];rw[show p+(m+(q+0)) - (p+(q+0))=m by omega,show p+(q+(r+0)) - (p+(q+0))=r by omega];exact qU (by omega)
def Z6(K:Cut n ls T)(h:(p,q)∈ls)(h1:(p,m,q)∈T)(h2:(r,p,q)∈T):dues T (p,q)=[r,m]:=by have g1:=K.inv.tri _ _ _ h1;have g2:=K.inv.tri _ _ _ h2;rw[Tz (Ty K h h1 h2 (by simp only[ne_eq,Prod.mk.injEq];omega) (bth_iff.mpr (by simp)) (bth_iff.mpr (by simp)))];simp only[gD,CM];rw[show p+(m+(q+0)) - (p+(q+0))=m by omega,show r+(p+(q+0)) - (p+(q+0))=r by omega,Wh (List.Perm.swap r m [])];exact qU (by omega)
def above(K:Cut n ls T)(h:(p,q)∈ls):∃m r,(p,m,q)∈T/\((p,q,r)∈T\/(r,p,q)∈T):=by
 obtain⟨m,hm⟩:=under K.inv (.inr h);have g:=K.inv.tri _ _ _ hm;have two:=K.two h;simp only at two;obtain⟨u,hu,ah⟩:∃u,u∈T.filter (bth p q)/\u≠(p,m,q):=by
  have bG:(p,m,q)∈T.filter (bth p q):=CA.mpr ⟨hm,bth_iff.mpr (by simp)⟩;have nd:(T.filter (bth p q)).Nodup:=K.inv.T_nodup.filter _
  match hf:T.filter (bth p q),two with
  | [x,y],_=>
   rw[hf]at nd bG
   simp only[CL,gV]at nd
   by_cases e:x=(p,m,q)
   . exact⟨y,by simp,fun z=>nd.1 (by rw[e,z])⟩
   . exact⟨x,by simp,e⟩
 obtain⟨ii,hb⟩:=CA.mp hu;obtain⟨x,y,z⟩:=u;have g2:=K.inv.tri _ _ _ ii;have hb:=bth_iff.mp hb;refine⟨m,?_⟩;rcases hb with⟨c1,c2⟩;by_cases e1:p=x/\q=y
 . exact⟨z,hm,.inl (by rw[e1.1,e1.2];exact ii)⟩
 by_cases e2:p=y/\q=z
 . exact⟨x,hm,.inr (by rw[e2.1,e2.2];exact ii)⟩
 have e3:p=x/\q=z:=by
  have ga:=g.2.1;have gb:=g.2.2.1;have gc:=g2.2.1;have gd:=g2.2.2.1;clear g g2 two hu ii ah;rcases c1 with c1 |c1 |c1<;>rcases c2 with c2 |c2 |c2
  . lia
  . exact absurd ⟨c1,c2⟩ e1
  . exact⟨c1,c2⟩
  . lia
  . lia
  . exact absurd ⟨c1,c2⟩ e2
  . lia
  . lia
  . lia
 have o1:=K.inv.thr_outer hm;have o2:=K.inv.thr_outer ii;simp only[outer]at o1 o2;rw[<-e3.1,<-e3.2,o1]at o2;exact absurd (by rw[<-e3.1,<-e3.2];exact o2.symm) ah
end
def Cut.turn(K:Cut n ls T)(hl:l∈ls) :
  ∃(w:P2)(ls0:List P2)(T':List P3),ls.Perm (l::ls0)/\Cut n (ls0++[w]) T'/\dues T l=[w.1,w.2]/\dues T' w=[l.1,l.2]/\w∉ls:=by
 obtain⟨p,q⟩:=l
 have I:=K.inv
 obtain⟨m,r,h1,h2⟩:=above K hl
 have g1:=(I.tri _ _ _ h1).2
 have pl:ls.Perm ((p,q)::ls.erase (p,q)):=GR hl
 rcases h2 with h2 |h2
 . have g2:=(I.tri _ _ _ h2).2.2.1;obtain⟨T0,pT⟩:=Hz h1 h2 (fun e=>by have:=DI (fun t:P3=>t.2.1) e;simp only at this;have:=g1.2.1;omega);have K':=K.turnA pT pl;exact⟨(m,r),_,_,pl,K',Dc K hl h1 h2,Z6 K' (m:=q) (CK _ gq) (dg _ gq) gq,fun z=>I.nc p q m r hl z ⟨g1.1,g1.2.1,g2⟩⟩
 . have g2:=(I.tri _ _ _ h2).2.1;obtain⟨T0,pT⟩:=Hz h1 h2 (fun e=>by have:=DI (fun t:P3=>t.1) e;simp only at this;omega);have K':=K.turnB pT pl;exact⟨(r,m),_,_,pl,K',Z6 K hl h1 h2,Dc K' (m:=p) (CK _ gq) gq (dg _ gq),fun z=>I.nc r m p q z hl ⟨g2,g1.1,g1.2.1⟩⟩
end Cu
namespace Bd
end Bd
namespace Cu
end Cu
namespace Cu
open L2 (so2 j8 Aq ltT T2 Srt Az V5 J5 S3 J8 Ab D)
def Rn(p q:P2):ltT (T2 p) (T2 q)=decide (p.1<q.1\/(p.1=q.1/\p.2<q.2)):=by
 obtain⟨a,b⟩:=p;obtain⟨c,d⟩:=q;simp only[T2,L2.ltT,L2.ltTs,L2.eqD];by_cases h1:a<c
 . have:¬a=c:=by lia
   simp[h1,this]
 . by_cases h2:c<a
   . simp[h1,show ¬a=c by lia]
   . have:a=c:=by lia
     subst this;by_cases h3:b<d
     . simp[h3,show ¬b=d by lia]
     . by_cases h4:b=d
       . simp[h4]
       . simp[h3,h4]
def le2(a b:P2):Prop:=a.1<b.1\/(a.1=b.1/\a.2<=b.2)
def Kb(xs:List P2):Srt (xs.map T2)↔xs.Pairwise le2:=by
 unfold Srt;rw[FQ];constructor
 . exact fun h=>h.imp fun {a b} h=>(by rw[Rn,CQ]at h;unfold le2;omega)
 . exact fun h=>h.imp fun {a b} h=>(by rw[Rn,CQ];unfold le2 at h;omega)
def Rl(ls:List P2):(so2 ls).Pairwise le2:=by rw[<-Kb,<-Aq];exact V5 (J5 ls T2 S3)
def y1m(h:xs.Pairwise le2)(p:xs.Perm ls):xs=so2 ls:=by have:=Az (J5 xs T2 S3) ((p.trans (j8 ls).symm).map T2) ((Kb xs).mpr h) ((Kb _).mpr (Rl ls));exact J8 (fun _ _=>Ab) this
end Cu
namespace Cu
open L2 (so2 j8 C7)
def nr(p:P2):P2:=if p.1<p.2 then p else(p.2,p.1)
def CInv.perm(I:CInv n ls T)(p:ls'.Perm ls):CInv n ls' T where
 n3:=I.n3
 tri:=fun a c b h=>by rw[p.mem_iff,p.mem_iff];exact I.tri a c b h
 lin:=fun a b h=>I.lin a b (p.mem_iff.mp h)
 nc:=fun a b c d h h'=>I.nc a b c d (p.mem_iff.mp h) (p.mem_iff.mp h')
 nd:=p.nodup_iff.mpr I.nd
 prm:=I.prm.trans (p.symm.cons _)
def has(c:Int)(t:P3):Bool:=decide (c=t.1)||(decide (c=t.2.1)||decide (c=t.2.2))
def opp(c:Int)(t:P3):P2:=if c=t.1 then(t.2.1,t.2.2) else if c=t.2.1 then(t.1,t.2.2) else(t.1,t.2.1)
def Rj(h:t.1<t.2.1/\t.2.1<t.2.2)(hc:has c t=true):(opp c t).1≠c/\(opp c t).2≠c:=by
 simp only[has,EB,ng]at hc;unfold opp;split
 . show t.2.1≠c/\t.2.2≠c;lia
 . split
   . show t.1≠c/\t.2.2≠c;lia
   . show t.1≠c/\t.2.1≠c;lia
end Cu
namespace Cu
open L2 (so2 j8 C7 so3 B0 soI Lb)
def adj(n:Int)(ls:List P2)(x k:Int):Prop:=k=(x+1) % n\/k=(x - 1) % n\/(x,k)∈ls\/(k,x)∈ls
section
variable {n:Int}{ls:List P2}{T:List P3}
def CInv.three(I:CInv n ls T)(h1:x<y)(h2:y<z)(e1:(x,y)∈ls\/y=x+1)(e2:(y,z)∈ls\/z=y+1)(e3:(x,z)∈ls\/(x=0/\z=n - 1)):(x,y,z)∈T:=by
 obtain⟨m1,m2⟩:=I.top_in (ls':=ls) (.refl _) (q:=(x,z)) (by
  rcases e3 with e |⟨rfl,rfl⟩
  . exact dg _ e
  . exact gq)
 generalize thr T (x,z)=t at m1 m2;obtain⟨a,c,b⟩:=t;simp only[outer,Prod.mk.injEq]at m2;obtain⟨rfl,rfl⟩:=m2;have g:=I.tri _ _ _ m1;have:c=y:=by
  apply CB;intro ah;rcases Int.lt_or_gt_of_ne ah with av |BV
  . have a1:(c,b)∈ls:=by rcases g.2.2.2.2.2 with z |z;exact z;omega
    have a2:(a,y)∈ls:=by rcases e1 with z |z;exact z;omega
    exact I.nc a y c b a2 a1 (by omega)
  . have a1:(a,c)∈ls:=by rcases g.2.2.2.2.1 with z |z;exact z;omega
    have a2:(y,b)∈ls:=by rcases e2 with z |z;exact z;omega
    exact I.nc a c y b a1 a2 (by omega)
 rw[<-this];exact m1
theorem upM(u0:0<=u)(u1:u<n)(e:k=(u+1) % n):k=u+1\/(u=n - 1/\k=0):=by
 by_cases h:u=n - 1
 . rw[h,Int.sub_add_cancel,Int.emod_self]at e;exact .inr ⟨h,e⟩
 . rw[FR (by lia) (by lia)]at e;exact .inl e
theorem dnM(u0:0<=u)(u1:u<n)(e:k=(u - 1) % n):k=u - 1\/(u=0/\k=n - 1):=by
 by_cases h:u=0
 . rw[h,<-Int.add_emod_right,FR (by lia) (by lia)]at e;exact .inr ⟨h,by lia⟩
 . rw[FR (by lia) (by lia)]at e;exact .inl e
def L8(I:CInv n ls T)(h0:0<=x)(h:x<k)(hk:k<n)(ha:adj n ls x k\/adj n ls k x):(x,k)∈ls\/k=x+1\/(x=0/\k=n - 1):=by
 have hx:x<n:=EU h hk;have k0:0<=k:=GN (GD h0 h);rcases ha with ha |ha
 . rcases ha with e |e |e |e
   . rcases upM h0 hx e with e |⟨_,e⟩
     . exact .inr (.inl e)
     . omega
   . rcases dnM h0 hx e with e |e
     . omega
     . exact .inr (.inr e)
   . exact Or.inl e
   . have:=(I.lin _ _ e).2.1;omega
 . rcases ha with e |e |e |e
   . rcases upM k0 hk e with e |e
     . omega
     . exact .inr (.inr ⟨e.2,e.1⟩)
   . rcases dnM k0 hk e with e |⟨e,_⟩
     . exact .inr (.inl (by omega))
     . omega
   . have:=(I.lin _ _ e).2.1;omega
   . exact Or.inl e
def Z5(I:CInv n ls T)(h0:0<=x)(h:x<k)(hk:k<n)(he:(x,k)∈ls\/k=x+1\/(x=0/\k=n - 1)):adj n ls x k/\adj n ls k x:=by
 have n3:=I.n3;rcases he with e |e |⟨e,e'⟩
 . exact⟨Or.inr (Or.inr (Or.inl e)),Or.inr (Or.inr (Or.inr e))⟩
 . subst e;exact⟨Or.inl (by rw[FR (by lia) (by lia)]),Or.inr (Or.inl (by rw[show x+1 - 1=x by lia,FR (by lia) (by lia)]))⟩
 . subst e;subst e';exact⟨Or.inr (Or.inl (by rw[<-Int.add_emod_right,FR (by lia) (by lia)];lia)),Or.inl (by rw[show n - 1+1=n by lia,Int.emod_self])⟩
def mem_dues:k∈dues T p↔∃t∈T,bth p.1 p.2 t=true/\k=t.1+(t.2.1+(t.2.2+0)) - (p.1+(p.2+0)):=by
 unfold dues;rw[(Lb _).mem_iff,CF];constructor
 . rintro⟨t,ht,rfl⟩;obtain⟨h1,h2⟩:=CA.mp ht;exact⟨t,(B0 T).mem_iff.mp h1,h2,rfl⟩
 . rintro⟨t,h1,h2,rfl⟩;exact⟨t,CA.mpr ⟨(B0 T).mem_iff.mpr h1,h2⟩,rfl⟩
def CInv.com(I:CInv n ls T)(hl:(a,b)∈ls)(k0:0<=k)(k1:k<n)(ka:k≠a)(kb:k≠b):(adj n ls a k/\adj n ls b k)↔k∈dues T (a,b):=by
 have n3:=I.n3;have l:=I.lin a b hl;rw[mem_dues];constructor
 . rintro⟨h1,h2⟩;by_cases c1:k<a
   . have e1:=L8 I k0 c1 (by lia) (Or.inr h1);have e2:=L8 I k0 (show k<b by lia) (by lia) (Or.inr h2);have t:=I.three (x:=k) (y:=a) (z:=b) (by lia) (by lia) (by rcases e1 with z |z |z;exact .inl z;exact .inr z;lia) (.inl hl) (by rcases e2 with z |z |z;exact .inl z;lia;exact .inr z);exact⟨_,t,bth_iff.mpr (by simp),by simp only;lia⟩
   . by_cases c2:k<b
     . have e1:=L8 I l.1 (show a<k by lia) (by lia) (Or.inl h1);have e2:=L8 I k0 c2 (by lia) (Or.inr h2);have t:=I.three (x:=a) (y:=k) (z:=b) (by lia) (by lia) (by rcases e1 with z |z |z;exact .inl z;exact .inr z;lia) (by rcases e2 with z |z |z;exact .inl z;exact .inr z;lia) (.inl hl);exact⟨_,t,bth_iff.mpr (by simp),by simp only;lia⟩
     . have e1:=L8 I l.1 (show a<k by lia) (by lia) (Or.inl h1);have e2:=L8 I (show 0<=b by lia) (show b<k by lia) (by lia) (Or.inl h2);have t:=I.three (x:=a) (y:=b) (z:=k) (by lia) (by lia) (.inl hl) (by rcases e2 with z |z |z;exact .inl z;exact .inr z;lia) (by rcases e1 with z |z |z;exact .inl z;lia;exact .inr z);exact⟨_,t,bth_iff.mpr (by simp),by simp only;lia⟩
 . rintro⟨⟨x,y,z⟩,ht,hb,e⟩;have g:=I.tri _ _ _ ht;have o:=I.top_or ht;rw[bth_iff]at hb;simp only at e;have xy:adj n ls x y/\adj n ls y x:=Z5 I g.1 g.2.1 (by lia) (by rcases g.2.2.2.2.1 with z |z;exact .inl z;exact .inr (.inl z));have yz:adj n ls y z/\adj n ls z y:=Z5 I (by lia) g.2.2.1 (by lia) (by rcases g.2.2.2.2.2 with z |z;exact .inl z;exact .inr (.inl z));have xz:adj n ls x z/\adj n ls z x:=Z5 I g.1 (show x<z by lia) (by lia) (by rcases o with z |z;exact .inl z;exact .inr (.inr z));have:(a=x/\b=y/\k=z)\/(a=x/\b=z/\k=y)\/(a=y/\b=z/\k=x):=by
    have l2:=l.2.1;obtain⟨_,g2,g3,_⟩:=g;clear xy yz xz o l ka kb ht;rcases hb with⟨h1 |h1 |h1,h2 |h2 |h2⟩
    . lia
    . exact .inl ⟨h1,h2,by lia⟩
    . exact .inr (.inl ⟨h1,h2,by lia⟩)
    . lia
    . lia
    . exact .inr (.inr ⟨h1,h2,by lia⟩)
    . lia
    . lia
    . lia
   rcases this with⟨rfl,rfl,rfl⟩ |⟨rfl,rfl,rfl⟩ |⟨rfl,rfl,rfl⟩
   . exact⟨xz.1,yz.1⟩
   . exact⟨xy.1,yz.2⟩
   . exact⟨xy.2,xz.2⟩
end
end Cu
namespace Cu
structure Rm(n:Int)(B:List P2)(t:P2)(R:List Int):Prop where
 rise:R.Pairwise (·<·)
 h1:t.1∈R
 h2:t.2∈R
 lo:∀x∈R,t.1<=x/\x<=t.2
 top:t=(0,n - 1)\/t∈B
 rng:0<=t.1/\t.1+2<=t.2/\t.2<=n - 1
 gap:∀z,t.1<=z->z<=t.2->z∉R->∃p q,p∈R/\q∈R/\p<z/\z<q/\(p,q)∈B/\(p,q)≠t/\∀x∈R,x<=p\/q<=x
 nxt:∀p q,p∈R->q∈R->p<q->(∀x∈R,x<=p\/q<=x)->((p,q)∈B/\(p,q)≠t)\/q=p+1
 thr:∃m∈R,t.1<m/\m<t.2
 free:∀c e,(c,e)∈B->(c,e)≠t->t.1<=c->e<=t.2->∀x∈R,x<=c\/e<=x
def Rm.of(I:Lns n B)(ht:j1 n B t)(X:Nx t B nx)(Z:Ch t.2 nx t.1 C E):Rm n B t C:=by
 obtain⟨g1,g2,g3,g4⟩:=Z.ge X.up;have tt:=I.top ht;have rm:=I.room ht X Z;have Ed:=(Z.edge X.up).1;have nq:∀x∈C,x<t.2->nx x∈C:=fun x hx hb=>by
  obtain⟨p,hp,eN,ij⟩:=Z.lo (nx x) (by have:=(g1 x hx).1;have:=(X.up x hb).1;lia) (X.up x hb).2;rcases ij with e |⟨dD,av⟩
  . rw[e];exact hp
  . by_cases c:x<p
    . have:=Z.le X.up x p hx hp c;have:p=nx x:=by lia
      rw[<-this];exact hp
    . have:p<=x:=by lia
      rcases DR this with q |q
      . have:=Z.le X.up p x hp hx q;have:=(X.up x hb).1
        lia
      . rw[q]at av;lia
 refine⟨g2,g3,g4,g1,ht,⟨tt.1,tt.2.1,tt.2.2⟩,fun z z1 z2 hz=>?_,fun p q hp hq eZ hb=>?_,?_,fun c e he ah h1 h2 x hx=>?_⟩
 . obtain⟨p,hp,eN,ij⟩:=Z.lo z z1 z2;rcases ij with e |⟨dD,av⟩
   . exact absurd (e ▸ hp) hz
   . have ah:p≠z:=fun e=>hz (e ▸ hp)
     have u:=X.up p dD;refine⟨p,nx p,hp,nq p hp dD,by lia,av,?_,?_,fun x hx=>?_⟩
     . rcases X.or p dD with h |h
       . exact h.1
       . lia
     . rcases X.or p dD with h |h
       . exact h.2
       . lia
     . by_cases c:p<x
       . exact .inr (Z.le X.up p x hp hx c)
       . exact .inl (by lia)
 . have dD:p<t.2:=by have:=(g1 q hq).2;lia
   have h1:=Z.le X.up p q hp hq eZ;have h2:=hb (nx p) (nq p hp dD);have u:=X.up p dD;have:nx p=q:=by lia
   rcases X.or p dD with h |h
   . rw[this]at h;exact .inl h
   . rw[this]at h;exact .inr h
 . have u:=X.up t.1 (by lia);refine⟨nx t.1,nq t.1 g3 (by lia),u.1,?_⟩;rcases DR u.2 with h |h
   . exact h
   . rcases X.or t.1 (by lia) with z |z
     . exact absurd (by rw[h]) z.2
     . lia
 . have lc:=I.lin c e he;obtain⟨p,hp,eN,ij⟩:=Z.lo c h1 (by lia);have dD:p<t.2:=by lia
   have cF:e<=nx p:=by
    rcases ij with z |⟨_,z⟩
    . rw[<-z];exact X.ge c e he h2 ah
    . rcases DR eN with k |k
      . rcases X.or p dD with o |o
        . have:=I.nc p (nx p) c e o.1 he;lia
        . lia
      . rw[k];exact X.ge c e he h2 ah
   by_cases k:p<x
   . exact .inr (Int.le_trans cF (Z.le X.up p x hp hx k))
   . exact .inl (by lia)
section
variable {n:Int}{ls B:List P2}{T:List P3}{t:P2}{R:List Int}
def Far(R:List Int)(t:P2)(a b:Int):Prop:=(∃x∈R,a<x/\x<b)/\(a,b)≠t
def Rm.below(M:Rm n B t R)(I:CInv n ls T)(sub:∀p∈B,p∈ls)(h:(a,m,b)∈T)(ha:a∈R)(hb:b∈R)(hx:∃x∈R,a<x/\x<b):m∈R:=by
 obtain⟨g1,g2,g3,g4,g5,g6⟩:=I.tri a m b h;apply CB;intro hm;have la:=M.lo a ha;have lb:=M.lo b hb;obtain⟨p,q,hp,hq,h1,h2,hB,ah,fE⟩:=M.gap m (by lia) (by lia) hm;have eZ:=sub _ hB;have ea:a=p:=by
  rcases fE a ha with z |z
  . rcases DR z with z |z
    . rcases g5 with k |k
      . exact absurd ⟨z,h1,h2⟩ (I.nc a m p q k eZ)
      . lia
    . exact z
  . lia
 have eb:b=q:=by
  rcases fE b hb with z |z
  . lia
  . rcases DR z with z |z
    . rcases g6 with k |k
      . exact absurd ⟨h1,h2,z⟩ (I.nc p q m b eZ k)
      . lia
    . exact z.symm
 obtain⟨x,hx,k1,k2⟩:=hx;have:=fE x hx
 lia
def Rm.aboveA(M:Rm n B t R)(I:CInv n ls T)(sub:∀p∈B,p∈ls)(h:(a,b,r)∈T)(ha:a∈R)(hb:b∈R)(ah:(a,b)≠t):r∈R:=by
 obtain⟨g1,g2,g3,g4,g5,g6⟩:=I.tri a b r h;have tp:=I.top_or h;have la:=M.lo a ha;have lb:=M.lo b hb;apply CB;intro hr;by_cases c:r<=t.2
 . obtain⟨p,q,hp,hq,h1,h2,hB,dU,fE⟩:=M.gap r (by omega) c hr;have eZ:=sub _ hB;have:=M.lo q hq;have:=M.rng;have:b<=p:=by have:=fE b hb;omega
   rcases tp with z |z
   . exact I.nc a r p q z eZ ⟨by omega,h1,h2⟩
   . omega
 . have hn:t≠(0,n - 1):=fun z=>by rw[z]at c;simp only at c;omega
   have fW:(t.1,t.2)∈ls:=sub _ (M.top.resolve_left hn);have e1:b=t.2:=by
    rcases DR lb.2 with z |z
    . rcases g6 with k |k
      . exact absurd ⟨by omega,z,by omega⟩ (I.nc t.1 t.2 b r fW k)
      . omega
    . exact z
   have e2:a=t.1:=by
    rcases DR la.1 with z |z
    . rcases tp with k |k
      . exact absurd ⟨z,by omega,by omega⟩ (I.nc t.1 t.2 a r fW k)
      . have:=M.rng;omega
    . exact z.symm
   exact ah (by rw[e1,e2])
def Rm.aboveB(M:Rm n B t R)(I:CInv n ls T)(sub:∀p∈B,p∈ls)(h:(r,a,b)∈T)(ha:a∈R)(hb:b∈R)(ah:(a,b)≠t):r∈R:=by
 obtain⟨g1,g2,g3,g4,g5,g6⟩:=I.tri r a b h;have tp:=I.top_or h;have la:=M.lo a ha;have lb:=M.lo b hb;apply CB;intro hr;by_cases c:t.1<=r
 . obtain⟨p,q,hp,hq,h1,h2,hB,dU,fE⟩:=M.gap r c (by lia) hr;have eZ:=sub _ hB;have:=M.lo p hp;have:=M.rng;have:q<=a:=by have:=fE a ha;lia
   rcases tp with z |z
   . exact I.nc p q r b eZ z ⟨h1,h2,by lia⟩
   . lia
 . have hn:t≠(0,n - 1):=fun z=>by rw[z]at c;simp only at c;lia
   have fW:(t.1,t.2)∈ls:=sub _ (M.top.resolve_left hn);have e1:a=t.1:=by
    rcases DR la.1 with z |z
    . rcases g5 with k |k
      . exact absurd ⟨by lia,z,by lia⟩ (I.nc r a t.1 t.2 k fW)
      . lia
    . exact z.symm
   have e2:b=t.2:=by
    rcases DR lb.2 with z |z
    . rcases tp with k |k
      . exact absurd ⟨by lia,by lia,z⟩ (I.nc r b t.1 t.2 k fW)
      . have:=M.rng;lia
    . exact z
   exact ah (by rw[e1,e2])
end
def ix(R:List Int)(x:Int):Int:=((R.idxOf x:Nat):Int)
section
variable {R:List Int}{x y:Int}
def Z4(h:x∈R):R[R.idxOf x]?=some x:=by have hl:=EG h;rw[oF hl,List.getElem_idxOf hl]
theorem D4(h:x∈R):0<=ix R x/\ix R x<R.length:=by have:=EG h;unfold ix;lia
def Tx(hr:R.Pairwise (·<·)){i j:Nat}(hi:R[i]?=some x)(hj:R[j]?=some y):(i<j↔x<y)/\(i=j↔x=y):=by
 have li:i<R.length:=by apply CB;intro z;rw[EN (by lia)]at hi;cases hi
 have lj:j<R.length:=by apply CB;intro z;rw[EN (by lia)]at hj;cases hj
 rw[oF li]at hi;rw[oF lj]at hj;cases hi;cases hj;have P:=List.pairwise_iff_getElem.mp hr;rcases Nat.lt_trichotomy i j with c |c |c
 . have:=P i j li lj c;lia
 . subst c;lia
 . have:=P j i lj li c;lia
def l9(hr:R.Pairwise (·<·))(hx:x∈R)(hy:y∈R):(ix R x<ix R y↔x<y)/\(ix R x=ix R y↔x=y):=by have:=Tx hr (Z4 hx) (Z4 hy);unfold ix;lia
theorem Gs(hr:R.Pairwise (·<·)){i:Nat}(h:R[i]?=some x):ix R x=i:=by have hx:=DQ h;have:=(Tx hr (Z4 hx) h).2.mpr rfl;unfold ix;lia
def T8(hr:R.Pairwise (·<·))(hx:x∈R)(hy:y∈R):(∃z∈R,x<z/\z<y)↔ix R x+1<ix R y:=by
 constructor
 . rintro⟨z,hz,h1,h2⟩;have:=(l9 hr hx hz).1.mpr h1;have:=(l9 hr hz hy).1.mpr h2;omega
 . intro h;have lZ:=D4 hy;have hi:(ix R x).toNat+1<R.length:=by have:=D4 hx;omega
   have hz:R[(ix R x).toNat+1]?=some R[(ix R x).toNat+1]:=oF hi;have e:=Gs hr hz;have bx:=D4 hx;refine⟨R[(ix R x).toNat+1],List.getElem_mem hi,(l9 hr hx (List.getElem_mem hi)).1.mp ?_,(l9 hr (List.getElem_mem hi) hy).1.mp ?_⟩<;>omega
end
def Rm.ix0(M:Rm n B t R):ix R t.1=0/\ix R t.2=R.length - 1:=by
 have b1:=D4 M.h1;have b2:=D4 M.h2;have hl:0<R.length:=by omega
 constructor
 . have h0:R[0]?=some R[0]:=oF hl;have e:=Gs M.rise h0;have:=(l9 M.rise (List.getElem_mem hl) M.h1).1;have:=M.lo _ (List.getElem_mem hl);omega
 . have hz:R.length - 1<R.length:=by omega
   have h0:R[R.length - 1]?=some R[R.length - 1]:=oF hz;have e:=Gs M.rise h0;have:=(l9 M.rise M.h2 (List.getElem_mem hz)).1;have:=M.lo _ (List.getElem_mem hz);omega
def Rm.ixt(M:Rm n B t R)(ha:a∈R)(hb:b∈R):(a,b)=t↔ix R a=0/\ix R b=R.length - 1:=by
 have z:=M.ix0;have e1:=(l9 M.rise ha M.h1).2;have e2:=(l9 M.rise hb M.h2).2;constructor
 . intro e;rw[<-e]at z;exact z
 . rintro⟨h1,h2⟩;exact EW (e1.mp (by rw[h1,z.1])) (e2.mp (by rw[h2,z.2]))
def Rm.ge3(M:Rm n B t R):3<=R.length:=by
 have z:=M.ix0;have:=(T8 M.rise M.h1 M.h2).mp M.thr
 lia
def isLn(r:Int)(p:P2):Bool:=decide (0<=p.1/\p.1<p.2/\p.2<r/\¬(p.2=p.1+1\/(p.1=0/\p.2=r - 1)))
def ptA(R:List Int)(ls:List P2):List P2:=(ls.filter fun p=>decide (p.1∈R)&&decide (p.2∈R)).map fun p=>(ix R p.1,ix R p.2)
def ptL(R:List Int)(ls:List P2):List P2:=(ptA R ls).filter (isLn R.length)
def ptT(R:List Int)(T:List P3):List P3:=(T.filter fun t=>decide (t.1∈R)&&(decide (t.2.1∈R)&&decide (t.2.2∈R))).map fun t=>(ix R t.1,ix R t.2.1,ix R t.2.2)
section
variable {n:Int}{ls B:List P2}{T:List P3}{t:P2}{R:List Int}
def xh:(i,j)∈ptA R ls↔∃a b,(a,b)∈ls/\a∈R/\b∈R/\i=ix R a/\j=ix R b:=by
 unfold ptA;simp only[CF,CA,gR,ng,Prod.mk.injEq];constructor
 . rintro⟨⟨a,b⟩,⟨h1,h2,h3⟩,rfl,rfl⟩;exact⟨a,b,h1,h2,h3,rfl,rfl⟩
 . rintro⟨a,b,h1,h2,h3,rfl,rfl⟩;exact⟨(a,b),⟨h1,h2,h3⟩,rfl,rfl⟩
theorem Rm.mem(M:Rm n B t R):(i,j)∈ptL R ls↔∃a b,(a,b)∈ls/\a∈R/\b∈R/\Far R t a b/\i=ix R a/\j=ix R b:=by
 unfold ptL;rw[CA,xh];constructor
 . rintro⟨⟨a,b,h1,h2,h3,rfl,rfl⟩,h⟩;have h:=EH h;simp only at h;exact⟨a,b,h1,h2,h3,⟨(T8 M.rise h2 h3).mpr (by lia),fun e=>by have:=(M.ixt h2 h3).mp e;lia⟩,rfl,rfl⟩
 . rintro⟨a,b,h1,h2,h3,⟨h4,h5⟩,rfl,rfl⟩;have k1:=(T8 M.rise h2 h3).mp h4;have k2:¬(ix R a=0/\ix R b=R.length - 1):=fun z=>h5 ((M.ixt h2 h3).mpr z)
   have k3:=D4 h2;have k4:=D4 h3;refine⟨⟨a,b,h1,h2,h3,rfl,rfl⟩,decide_eq_true (show 0<=ix R a/\ix R a<ix R b/\ix R b<R.length/\¬(ix R b=ix R a+1\/(ix R a=0/\ix R b=R.length - 1)) from⟨k3.1,by lia,k4.2,fun z=>?_⟩)⟩;rcases z with z |z
   . lia
   . exact k2 z
def mem_ptT:(i,j,k)∈ptT R T↔∃a c b,(a,c,b)∈T/\a∈R/\c∈R/\b∈R/\i=ix R a/\j=ix R c/\k=ix R b:=by
 unfold ptT;simp only[CF,CA,gR,ng,Prod.mk.injEq];constructor
 . rintro⟨⟨a,c,b⟩,⟨h1,h2,h3,h4⟩,rfl,rfl,rfl⟩;exact⟨a,c,b,h1,h2,h3,h4,rfl,rfl,rfl⟩
 . rintro⟨a,c,b,h1,h2,h3,h4,rfl,rfl,rfl⟩;exact⟨(a,c,b),⟨h1,h2,h3,h4⟩,rfl,rfl,rfl⟩
theorem Hy:∀{l:List α},l.Nodup->(∀x∈l,∀y∈l,f x=f y->x=y)->(l.map f).Nodup
 | [],_,_=>HB
 |x::l,h,hi=>by rw[CL]at h;rw[gD,CL];refine⟨fun hm=>?_,Hy h.2 fun a ha b hb=>hi a (dg _ ha) b (dg _ hb)⟩;obtain⟨y,hy,e⟩:=CF.mp hm;have:=hi y (dg _ hy) x gq e;exact h.1 (this ▸ hy)
def Rm.nd(M:Rm n B t R)(h:ls.Nodup):(ptL R ls).Nodup:=by unfold ptL ptA;refine(Hy (h.filter _) fun p hp q hq e=>?_).filter _;simp only[CA,gR,ng]at hp hq;simp only[Prod.mk.injEq]at e;exact EW ((l9 M.rise hp.2.1 hq.2.1).2.mp e.1) ((l9 M.rise hp.2.2 hq.2.2).2.mp e.2)
def Rm.part(M:Rm n B t R)(I:CInv n ls T)(sub:∀p∈B,p∈ls):CInv R.length (ptL R ls) (ptT R T):=by
 have rs:=M.rise;have z0:=M.ix0;have h3:=M.ge3;have hT:(T.map outer).Nodup:=I.prm.nodup_iff.mpr (CL.mpr ⟨fun z=>by have:=I.lin _ _ z;lia,I.nd⟩);refine⟨by lia,fun i j k h=>?_,fun i j h=>?_,fun i j k l h h'=>?_,M.nd I.nd,?_⟩
 . obtain⟨a,c,b,hh,ha,hc,hb,rfl,rfl,rfl⟩:=mem_ptT.mp h;obtain⟨g1,g2,g3,g4,g5,g6⟩:=I.tri a c b hh;have la:=M.lo a ha;have lb:=M.lo b hb;have eK:∀x y,x∈R->y∈R->x<y->(x,y)≠t->((x,y)∈ls\/y=x+1)->(ix R x,ix R y)∈ptL R ls\/ix R y=ix R x+1:=fun x y hx hy iV ah hh=>by
    by_cases k:∃z∈R,x<z/\z<y
    . rcases hh with hh |hh
      . exact .inl (M.mem.mpr ⟨x,y,hh,hx,hy,⟨k,ah⟩,rfl,rfl⟩)
      . obtain⟨z,_,k1,k2⟩:=k;lia
    . have:=(not_congr (T8 rs hx hy)).mp k;have:=(l9 rs hx hy).1.mpr iV;exact .inr (by lia)
   have b1:=D4 ha;have b2:=D4 hb;refine⟨b1.1,(l9 rs ha hc).1.mpr g2,(l9 rs hc hb).1.mpr g3,by lia,eK a c ha hc g2 (fun e=>?_) g5,eK c b hc hb g3 (fun e=>?_) g6⟩
   . have:=DI Prod.snd e;simp only at this;lia
   . have:=DI Prod.fst e;simp only at this;lia
 . have:=EH (CA.mp h).2;simp only at this
   lia
 . obtain⟨a,b,h1,ha,hb,_,rfl,rfl⟩:=M.mem.mp h;obtain⟨c,d,h2,hc,hd,_,rfl,rfl⟩:=M.mem.mp h';rw[(l9 rs ha hc).1,(l9 rs hc hb).1,(l9 rs hb hd).1];exact I.nc a b c d h1 h2
 . refine(EI ?_ ?_).mpr fun p=>?_
   . have e:(ptT R T).map outer=((T.filter fun t=>decide (t.1∈R)&&(decide (t.2.1∈R)&&decide (t.2.2∈R))).map outer).map fun p=>(ix R p.1,ix R p.2):=by
      unfold ptT;rw[DJ,DJ];rfl
     rw[e]
     refine Hy (hT.sublist ((List.filter_sublist).map _)) fun p hp q hq e=>?_
     obtain⟨u,hu,rfl⟩:=CF.mp hp
     obtain⟨v,hv,rfl⟩:=CF.mp hq
     simp only[CA,gR,ng]at hu hv
     simp only[outer,Prod.mk.injEq]at e⊢
     exact⟨(l9 rs hu.2.1 hv.2.1).2.mp e.1,(l9 rs hu.2.2.2 hv.2.2.2).2.mp e.2⟩
   . rw[CL];exact⟨fun z=>(EH (CA.mp z).2).2.2.2 (.inr ⟨rfl,rfl⟩),M.nd I.nd⟩
   . obtain⟨i,k⟩:=p;rw[eH,CF];constructor
     . rintro⟨⟨i',j,k'⟩,h,e⟩;simp only[outer,Prod.mk.injEq]at e;obtain⟨rfl,rfl⟩:=e;obtain⟨a,c,b,hh,ha,hc,hb,rfl,rfl,rfl⟩:=mem_ptT.mp h;have g:=I.tri a c b hh;by_cases et:(a,b)=t
       . have:=(M.ixt ha hb).mp et;exact .inl (by rw[this.1,this.2])
       . right;rcases I.top_or hh with z |z
         . exact M.mem.mpr ⟨a,b,z,ha,hb,⟨⟨c,hc,g.2.1,g.2.2.1⟩,et⟩,rfl,rfl⟩
         . have la:=M.lo a ha;have lb:=M.lo b hb;have:=M.rng;exact absurd (EW (by simp only;lia) (by simp only;lia)) et
     . have fin:∀a b,((a,b)=(0,n - 1)\/(a,b)∈ls)->a∈R->b∈R->(∃x∈R,a<x/\x<b)->∃u,u∈ptT R T/\outer u=(ix R a,ix R b):=fun a b h ha hb hx=>by
        obtain⟨m,hm⟩:=under I h
        exact⟨_,mem_ptT.mpr ⟨a,m,b,hm,ha,M.below I sub hm ha hb hx,hb,rfl,rfl,rfl⟩,rfl⟩
       rintro (h |h)
       . obtain⟨u,hu,e⟩:=fin t.1 t.2 (M.top.imp id fun z=>sub _ z) M.h1 M.h2 M.thr;exact⟨u,hu,by rw[e,z0.1,z0.2,h]⟩
       . obtain⟨a,b,h1,ha,hb,⟨hx,_⟩,rfl,rfl⟩:=M.mem.mp h;exact fin a b (.inr h1) ha hb hx
end
section
variable {n:Int}{ls us B:List P2}{T:List P3}{t t2:P2}{R R2:List Int}
def y8p{a b c d:Int}(n1:¬(a<c/\c<b/\b<d))(n2:¬(c<a/\a<d/\d<b))(h1:c<b)(h2:a<d)(k:¬(a<=c/\d<=b)):c<=a/\b<=d:=by
 rcases DZ a c with e |e |e
 . exact absurd ⟨GN e,FU.mp fun z=>n1 ⟨e,h1,z⟩⟩ k
 . exact⟨Int.le_of_eq e.symm,FU.mp fun z=>k ⟨Int.le_of_eq e,GN z⟩⟩
 . exact⟨GN e,FU.mp fun z=>n2 ⟨e,h2,z⟩⟩
def Ri(z:t2=(0,n - 1))(r:0<=t.1/\t.1+2<=t.2/\t.2<=n - 1)(k:t.1<=t2.1/\t2.2<=t.2):t=t2:=by subst z;exact EW (FN k.1 r.1) (FN r.2.2 k.2)
def Zj(L:Lns n B)(M:Rm n B t R)(M2:Rm n B t2 R2)(ha:a∈R)(hb:b∈R)(iM:a∈R2)(pR:b∈R2)(F:Far R t a b):t=t2:=by
 apply CB;intro ah;obtain⟨⟨x,hx,x1,x2⟩,ht⟩:=F;have q1:=M.lo a ha;have q2:=M.lo b hb;have q3:=M2.lo a iM;have q4:=M2.lo b pR;have ab:=EU x1 x2;by_cases k:t.1<=t2.1/\t2.2<=t.2
 . have h2:t2∈B:=M2.top.resolve_left fun z=>ah (Ri z M.rng k)
   rcases M.free t2.1 t2.2 h2 (fun z=>ah z.symm) k.1 k.2 x hx with z |z
   . exact Int.lt_irrefl _ (FL x1 (Int.le_trans z q3.1))
   . exact Int.lt_irrefl _ (FL x2 (Int.le_trans q4.2 z))
 . have k2:=y8p (L.tnc (a:=t.1) (b:=t.2) (c:=t2.1) (d:=t2.2) M.top M2.top) (L.tnc (a:=t2.1) (b:=t2.2) (c:=t.1) (d:=t.2) M2.top M.top) (GD q3.1 (FL ab q2.2)) (GD q1.1 (FL ab q4.2)) k;have h2:t∈B:=M.top.resolve_left fun z=>ah (Ri z M2.rng k2).symm
   refine ht (EW ?_ ?_)
   . rcases M2.free t.1 t.2 h2 ah k2.1 k2.2 a iM with z |z
     . exact FN z q1.1
     . exact absurd (FL ab q2.2) (FU.mpr z)
   . rcases M2.free t.1 t.2 h2 ah k2.1 k2.2 b pR with z |z
     . exact absurd (GD q1.1 ab) (FU.mpr z)
     . exact FN q2.2 z
theorem zfr(I:CInv n ls T)(nd:B.Nodup)(sub:∀p∈B,p∈ls)(C:P2->List Int)(hC:∀t,j1 n B t->Rm n B t (C t))(hf:(a,b)∈ls)(hB:(a,b)∉B):∃t,j1 n B t/\a∈C t/\b∈C t/\Far (C t) t a b:=by
 have la:=I.lin a b hf;obtain⟨t,ht,⟨h1,h2⟩,cj⟩:=Dd (fun t:P2=>(t.2 - t.1).toNat) (fun t=>t.1<=a/\b<=t.2) ((0,n - 1)::B) (n - 1).toNat ⟨(0,n - 1),by simp,⟨by simp only;lia,by simp only;lia⟩,by simp⟩;have tt:j1 n B t:=eH.mp ht;have M:=hC t tt;have gj:∀p q,(p,q)∈B->(p,q)≠t->t.1<=p->q<=t.2->p<=a->b<=q->False:=fun p q hm ah k1 k2 k3 k4=>by have:=cj (p,q) (dg _ hm) ⟨k3,k4⟩;simp only at this;exact ah (EW (by simp only;lia) (by simp only;lia))
 have ha:a∈C t:=by apply CB;intro z;obtain⟨p,q,hp,hq,k1,k2,hm,ah,_⟩:=M.gap a h1 (by lia) z;have:=I.nc p q a b (sub _ hm) hf;exact gj p q hm ah (M.lo p hp).1 (M.lo q hq).2 (by lia) (by lia)
 have hb:b∈C t:=by apply CB;intro z;obtain⟨p,q,hp,hq,k1,k2,hm,ah,_⟩:=M.gap b (by lia) h2 z;have:=I.nc a b p q hf (sub _ hm);exact gj p q hm ah (M.lo p hp).1 (M.lo q hq).2 (by lia) (by lia)
 refine⟨t,tt,ha,hb,?_,fun e=>?_⟩
 . apply CB;intro z;have bt:∀x∈C t,x<=a\/b<=x:=fun x hx=>by
    by_cases k:x<=a
    . exact .inl k
    . exact .inr (by apply CB;intro y;exact z ⟨x,hx,by lia,by lia⟩)
   rcases M.nxt a b ha hb (by lia) bt with k |k
   . exact hB k.1
   . lia
 . rcases tt with k |k
   . rw[<-e]at k;simp only[Prod.mk.injEq]at k;lia
   . exact hB (e ▸ k)
def Xp(I:CInv n ls T)(nd:B.Nodup)(sub:∀p∈B,p∈ls)(su:∀p∈B,p∈us)(C:P2->List Int)(hC:∀t,j1 n B t->Rm n B t (C t))(h:∀t,j1 n B t->∀p∈ptL (C t) ls,p∈ptL (C t) us):∀p∈ls,p∈us:=fun p hp=>by
 by_cases hB:p∈B
 . exact su p hB
 . obtain⟨a,b⟩:=p;obtain⟨t,ht,ha,hb,F⟩:=zfr I nd sub C hC hp hB;have M:=hC t ht;have:=h t ht _ (M.mem.mpr ⟨a,b,hp,ha,hb,F,rfl,rfl⟩);obtain⟨c,d,h1,hc,hd,_,e1,e2⟩:=M.mem.mp this;have:=(l9 M.rise ha hc).2.mp e1;have:=(l9 M.rise hb hd).2.mp e2
   subst_vars
   exact h1
end
section
variable {n:Int}{ls B:List P2}{T:List P3}{t:P2}{R:List Int}{p m r:Int}
theorem Rm.dues(M:Rm n B t R)(I:CInv n ls T)(sub:∀p∈B,p∈ls)(hf:(a,b)∈ls)(ha:a∈R)(hb:b∈R)(F:Far R t a b):∃w:P2,Cu.dues T (a,b)=[w.1,w.2]/\w.1∈R/\w.2∈R/\Cu.dues (ptT R T) (ix R a,ix R b)=[ix R w.1,ix R w.2]:=by
 have K:=I.cut;have I':=M.part I sub;have K':=I'.cut;obtain⟨m,r,h1,h2⟩:=above K hf;have hm:=M.below I sub h1 ha hb F.1;have iW:(ix R a,ix R b)∈ptL R ls:=M.mem.mpr ⟨a,b,hf,ha,hb,F,rfl,rfl⟩;have t1:(ix R a,ix R m,ix R b)∈ptT R T:=mem_ptT.mpr ⟨a,m,b,h1,ha,hm,hb,rfl,rfl,rfl⟩;rcases h2 with h2 |h2
 . have hr:=M.aboveA I sub h2 ha hb F.2;exact⟨(m,r),Dc K hf h1 h2,hm,hr,Dc K' iW t1 (mem_ptT.mpr ⟨a,b,r,h2,ha,hb,hr,rfl,rfl,rfl⟩)⟩
 . have hr:=M.aboveB I sub h2 ha hb F.2;exact⟨(r,m),Z6 K hf h1 h2,hr,hm,Z6 K' iW t1 (mem_ptT.mpr ⟨r,a,b,h2,hr,ha,hb,rfl,rfl,rfl⟩)⟩
end
section
variable {n:Int}{ls B:List P2}{T:List P3}{t:P2}{R:List Int}
def Ep(R:List Int)(p:a.Perm b):(ptL R a).Perm (ptL R b):=((p.filter _).map _).filter _
def Dv(R:List Int)(a b:List P2):ptL R (a++b)=ptL R a++ptL R b:=by unfold ptL ptA;rw[GC,CS,GC]
def qT(h1:p.1∈R)(h2:p.2∈R)(h:isLn R.length (ix R p.1,ix R p.2)=true):ptL R [p]=[(ix R p.1,ix R p.2)]:=by unfold ptL ptA;rw[CH (by simp[h1,h2]),GV,gD,CM,CH h,GV]
def qS(h:¬(p.1∈R/\p.2∈R)):ptL R [p]=[]:=by unfold ptL ptA;rw[ED (by simpa using h)];rfl
theorem Rm.isLn(M:Rm n B t R)(ha:a∈R)(hb:b∈R):Cu.isLn R.length (ix R a,ix R b)=true↔Far R t a b:=by
 have k3:=D4 ha;have k4:=D4 hb;constructor
 . intro h;have h:=EH h;simp only at h;exact⟨(T8 M.rise ha hb).mpr (by lia),fun e=>by have:=(M.ixt ha hb).mp e;lia⟩
 . rintro⟨h4,h5⟩;have k1:=(T8 M.rise ha hb).mp h4;have k2:¬(ix R a=0/\ix R b=R.length - 1):=fun z=>h5 ((M.ixt ha hb).mpr z)
   refine decide_eq_true (show 0<=ix R a/\ix R a<ix R b/\ix R b<R.length/\¬(ix R b=ix R a+1\/(ix R a=0/\ix R b=R.length - 1)) from⟨k3.1,by lia,k4.2,fun z=>?_⟩);rcases z with z |z
   . lia
   . exact k2 z
def Rm.turn(L:Lns n B)(M:Rm n B t R)(I:CInv n ls T)(sub:∀p∈B,p∈ls)(hf:(a,b)∈ls)(ha:a∈R)(hb:b∈R)(F:Far R t a b)(pl:ls.Perm ((a,b)::ls0))(hw:Cu.dues T (a,b)=[w.1,w.2]) :
  w.1∈R/\w.2∈R/\Far R t w.1 w.2/\(∀p∈B,p∈ls0++[w])/\(ptL R ls).Perm ((ix R a,ix R b)::ptL R ls0)/\ptL R (ls0++[w])=ptL R ls0++[(ix R w.1,ix R w.2)]/\Cu.dues (ptT R T) (ix R a,ix R b)=[ix R w.1,ix R w.2] /\
  ∀t2 R2,Rm n B t2 R2->t2≠t->(ptL R2 (ls0++[w])).Perm (ptL R2 ls):=by
 obtain⟨w',e1,m1,m2,e2⟩:=M.dues I sub hf ha hb F
 rw[hw]at e1
 have ew:w=w':=by simp only[List.cons.injEq,and_true]at e1;exact EW e1.1 e1.2
 subst ew
 have K':=(M.part I sub).cut
 have iW:(ix R a,ix R b)∈ptL R ls:=M.mem.mpr ⟨a,b,hf,ha,hb,F,rfl,rfl⟩
 obtain⟨w2,q0,BW,p2,K2,d2,_⟩:=K'.turn iW
 rw[e2]at d2
 simp only[List.cons.injEq,and_true]at d2
 have l2:=K2.inv.lin w2.1 w2.2 (by simp)
 rw[<-d2.1,<-d2.2]at l2
 have lw:Cu.isLn R.length (ix R w.1,ix R w.2)=true:=decide_eq_true (by simp only;lia)
 have Fw:=(M.isLn m1 m2).mp lw
 have nB:(a,b)∉B:=fun hB=>by
  have la:=M.lo a ha;have lb:=M.lo b hb;obtain⟨x,hx,k1,k2⟩:=F.1;have:=M.free a b hB F.2 la.1 lb.2 x hx
  lia
 refine⟨m1,m2,Fw,fun p hp=>?_,?_,?_,e2,fun t2 R2 M2 ah=>?_⟩
 . rcases eH.mp (pl.mem_iff.mp (sub p hp)) with z |z
   . exact absurd (z ▸ hp) nB
   . exact EC _ z
 . have:=Ep R pl;rw[show(a,b)::ls0=[(a,b)]++ls0 from rfl,Dv,qT (p:=(a,b)) ha hb ((M.isLn ha hb).mpr F)]at this;exact this
 . rw[Dv,qT m1 m2 lw]
 . have n1:¬(a∈R2/\b∈R2):=fun z=>ah (Zj L M M2 ha hb z.1 z.2 F).symm
   have n2:¬(w.1∈R2/\w.2∈R2):=fun z=>ah (Zj L M M2 m1 m2 z.1 z.2 Fw).symm
   have:=Ep R2 pl;rw[show(a,b)::ls0=[(a,b)]++ls0 from rfl,Dv,qS (p:=(a,b)) n1]at this;rw[Dv,qS n2,CT];exact this.symm
end
def ln_iff:isLn r (i,j)=true↔0<=i/\i+2<=j/\j<r/\¬(i=0/\j=r - 1):=by unfold isLn;rw[ng];simp only;omega
section
variable {n:Int}{t:P2}
theorem y1p(I:CInv n ls T)(hl:isLn n (i,j)=true)(h:∀a b,(a,b)∈ls->¬(a<i/\i<b/\b<j)/\¬(i<a/\a<j/\j<b)):(i,j)∈ls:=by
 have l:=ln_iff.mp hl;obtain⟨t,ht,⟨h1,h2⟩,cj⟩:=Dd (fun t:P2=>(t.2 - t.1).toNat) (fun t=>t.1<=i/\j<=t.2) ((0,n - 1)::ls) (n - 1).toNat ⟨(0,n - 1),by simp,⟨by simp only;lia,by simp only;lia⟩,by simp⟩;obtain⟨a,b⟩:=t;simp only at h1 h2 cj;obtain⟨m,hm⟩:=under I (eH.mp ht);obtain⟨g1,g2,g3,g4,g5,g6⟩:=I.tri a m b hm;have c1:¬j<=m:=fun k=>by
  rcases g5 with z |z
  . have:=cj (a,m) (dg _ z) ⟨h1,k⟩;simp only at this;lia
  . lia
 have c2:¬m<=i:=fun k=>by
  rcases g6 with z |z
  . have:=cj (m,b) (dg _ z) ⟨k,h2⟩;simp only at this;lia
  . lia
 have c3:a=i:=by
  rcases g5 with z |z
  . have:=(h a m z).1;lia
  . lia
 have c4:b=j:=by
  rcases g6 with z |z
  . have:=(h m b z).2;lia
  . lia
 subst c3 c4;rcases eH.mp ht with z |z
 . simp only[Prod.mk.injEq]at z;lia
 . exact z
end
def wi(ls:List P2)(a b:Int):Nat:=(ls.filter fun p=>decide (a<=p.1)&&decide (p.2<=b)).length
section
variable {n:Int}{ls:List P2}{T:List P3}
theorem Rh(a m b:Int):∀l:List P2,(∀p∈l,(decide (a<=p.1)&&decide (p.2<=b))=true↔(p=(a,b)\/(a<=p.1/\p.2<=m)\/(m<=p.1/\p.2<=b)))->(∀p∈l,p.1<p.2)->a<m->m<b->wi l a b=l.count (a,b)+wi l a m+wi l m b
 | [],_,_,_,_=>rfl
 |p::l,h,hl,h1,h2=>by
  have ih:=Rh a m b l (fun q hq=>h q (dg _ hq)) (fun q hq=>hl q (dg _ hq)) h1 h2;have hp:=h p gq;have lp:=hl p gq;have e:∀x y,wi (p::l) x y=(if x<=p.1/\p.2<=y then 1 else 0)+wi l x y:=fun x y=>by
   unfold wi;by_cases k:x<=p.1/\p.2<=y
   . rw[CH (by simp[k.1,k.2]),io,ζ k];lia
   . rw[ED (by simpa using k),ξ k];lia
  rw[e,e,e,ih,List.count_cons];obtain⟨x,y⟩:=p;simp only[gR,ng,Prod.mk.injEq]at hp lp⊢;simp only[FE,Prod.mk.injEq];clear e ih h hl;generalize wi l a m=u;generalize wi l m b=v;generalize List.count (a,b) l=w;by_cases k:a<=x/\y<=b
  . rw[ζ k];rcases hp.mp k with z |z |z<;>clear hp k
    . rw[ζ z,ξ (fun k=>by have:=k.2;lia),ξ (fun k=>by have:=k.1;lia)];lia
    . rw[ξ (fun k=>by have:=k.2;have:=z.2;lia),ζ z,ξ (fun k=>by have:=k.1;have:=z.2;lia)];lia
    . rw[ξ (fun k=>by have:=k.1;have:=z.1;lia),ξ (fun k=>by have:=k.2;have:=z.1;lia),ζ z];lia
  . rw[ξ k,ξ fun z=>k (hp.mpr (.inl z)),ξ fun z=>k (hp.mpr (.inr (.inl z))),ξ fun z=>k (hp.mpr (.inr (.inr z)))];clear hp k;lia
def CInv.wi_tri(I:CInv n ls T)(h:(a,m,b)∈T):wi ls a b=ls.count (a,b)+wi ls a m+wi ls m b:=by
 obtain⟨g1,g2,g3,g4,g5,g6⟩:=I.tri a m b h;refine Rh a m b ls (fun p hp=>?_) (fun p hp=>by have:=I.lin p.1 p.2 hp;omega) g2 g3;obtain⟨x,y⟩:=p;have l:=I.lin x y hp;have k1:¬(a<x/\x<m/\m<y):=by
  rcases g5 with z |z
  . exact I.nc a m x y z hp
  . omega
 have k2:¬(x<m/\m<y/\y<b):=by
  rcases g6 with z |z
  . exact I.nc x y m b hp z
  . omega
 simp only[gR,ng,Prod.mk.injEq];omega
theorem CInv.wi_edge(I:CInv n ls T):∀(k:Nat)(a b:Int),(b - a).toNat<=k->0<=a->b<=n - 1->((a,b)∈ls\/b=a+1)->(wi ls a b:Int)=b - a - 1
 | 0,a,b,hk,h0,h1,h=>by
  rcases h with h |h
  . have:=I.lin a b h;lia
  . lia
 |k+1,a,b,hk,h0,h1,h=>by
  rcases h with h |h
  . obtain⟨m,hm⟩:=under I (.inr h);have g:=I.tri a m b hm;have e:=I.wi_tri hm;have e1:=CInv.wi_edge I k a m (by lia) h0 (by lia) g.2.2.2.2.1;have e2:=CInv.wi_edge I k m b (by lia) (by lia) h1 g.2.2.2.2.2;have c1:ls.count (a,b)<=1:=List.nodup_iff_count.mp I.nd _;have c2:0<ls.count (a,b):=List.count_pos_iff.mpr h
    lia
  . subst h;have:wi ls a (a+1)=0:=by
     unfold wi;rw[DO,List.filter_eq_nil_iff];intro p hp;have:=I.lin p.1 p.2 hp;simp only[gR,ng]
     lia
    lia
def CInv.num(I:CInv n ls T):(ls.length:Int)+3=n:=by
 have h3:=I.n3;obtain⟨m,hm⟩:=under I (a:=0) (b:=n - 1) (.inl rfl);have g:=I.tri 0 m (n - 1) hm;have e:=I.wi_tri hm;have e1:=I.wi_edge (m - 0).toNat 0 m (η _) (by omega) (by omega) g.2.2.2.2.1;have e2:=I.wi_edge (n - 1 - m).toNat m (n - 1) (η _) (by omega) (by omega) g.2.2.2.2.2;have c:ls.count (0,n - 1)=0:=List.count_eq_zero.mpr fun z=>by have:=I.lin _ _ z;omega
 have w:wi ls 0 (n - 1)=ls.length:=by unfold wi;rw[List.filter_eq_self.mpr];intro p hp;have:=I.lin p.1 p.2 hp;simp only[gR,ng];omega
 omega
end
abbrev En:=List P2×Int×Option P2
def ky(F:List En):List (List P2):=F.map (·.1)
def mem_ky:v∈ky F↔∃e∈F,e.1=v:=by unfold ky;rw[CF]
theorem Hx{α:Type}{p q:α->Bool}(h:∀x,p x=true->q x=true):∀{l:List α},(∃x∈l,q x=true/\p x=false)->(l.filter p).length<(l.filter q).length
 | [],⟨_,hx,_⟩=>by cases hx
 |a::l,⟨x,hx,h1,h2⟩=>by
  have le:∀l:List α,(l.filter p).length<=(l.filter q).length:=fun l=>by
   induction l with
   |nil=>simp
   |cons b l ih=>
    rw[EE,EE]
    cases e:p b with
    |true=>rw[h b e];simpa using ih
    |false=>
     cases q b with
     |true=>simp;lia
     |false=>simpa using ih
  rw[EE,EE];rcases eH.mp hx with rfl |hx
  . rw[h1,h2];have:=le l;simp;lia
  . have ih:=Hx h ⟨x,hx,h1,h2⟩;cases e:p a with
    |true=>rw[h a e];simpa using ih
    |false=>
     cases q a with
     |true=>simp;lia
     |false=>simpa using ih
theorem Rg{α:Type}[DecidableEq α]:∀{l U:List α},l.Nodup->(∀x∈l,x∈U)->l.length<=U.length
 | [],U,_,_=>DC _
 |a::l,U,nd,h=>by
  have eD:=CL.mp nd;have ha:=h a (by simp);have:=Rg (U:=U.erase a) eD.2 fun x hx=>(List.mem_erase_of_ne fun z=>eD.1 (by rw[<-z];exact hx)).mpr (h x (by simp[hx]))
  rw[List.length_erase_of_mem ha]at this;have:0<U.length:=List.length_pos_of_mem ha;rw[io];omega
section
variable {G:List P2->Prop}{t:List P2->P2->List P2×P2}{c0:List P2}
structure Bf(G:List P2->Prop)(t:List P2->P2->List P2×P2)(c0:List P2)(k:Int)(F:List En):Prop where
 nd:(ky F).Nodup
 gd:∀e∈F,G e.1
 z:∀e∈F,(e.2.1=0↔e.1=c0)
 le:∀e∈F,0<=e.2.1/\e.2.1<=k
 c0:c0∈ky F
 bk:∀e∈F,e.2.1≠0->∃w,e.2.2=some w/\w∈e.1/\∃e'∈F,e'.1=(t e.1 w).1/\e'.2.1=e.2.1 - 1
def Cl(t:List P2->P2->List P2×P2)(k:Int)(F:List En):Prop:=∀e∈F,e.2.1<k->∀x∈e.1,∃e'∈F,e'.1=(t e.1 x).1/\e'.2.1<=e.2.1+1
def Sz(k:Int)(F:List En):Prop:=k<=((F.filter fun e=>decide (e.2.1<k)).length:Int)
structure Lv(G:List P2->Prop)(t:List P2->P2->List P2×P2)(c0:List P2)(k:Int)(fr:List (List P2))(F:List En):Prop where
 bf:Bf G t c0 k F
 k0:0<=k
 fr:∀v,v∈fr↔∃o,(v,k,o)∈F
 cl:Cl t k F
 sz:Sz k F
structure Md(G:List P2->Prop)(t:List P2->P2->List P2×P2)(c0:List P2)(k:Int)(fr B:List (List P2))(F:List En)(dn:List P2->P2->Prop):Prop where
 bf:Bf G t c0 (k+1) F
 k0:0<=k
 fr:∀v,v∈fr↔∃o,(v,k,o)∈F
 be:∀v,v∈B↔∃o,(v,k+1,o)∈F
 cl:Cl t k F
 sz:Sz k F
 bl:B.length<=F.length
 pr:∀v x,dn v x->∃e'∈F,e'.1=(t v x).1/\e'.2.1<=k+1
def Lv.start(g0:G c0):Lv G t c0 0 [c0] [(c0,0,none)] where
 bf:=⟨by simp[ky],fun e he=>by rw[gV.mp he];exact g0,fun e he=>by rw[gV.mp he];simp,fun e he=>by rw[gV.mp he];simp,by simp[ky],fun e he h=>by rw[gV.mp he]at h;exact absurd rfl h⟩
 k0:=by lia
 fr:=fun v=>by simp
 cl:=fun e he h=>by rw[gV.mp he]at h;simp at h
 sz:=by unfold Sz;lia
def Lv.md{k:Int}{fr:List (List P2)}{F:List En}(L:Lv G t c0 k fr F):Md G t c0 k fr [] F (fun _ _=>False) where
 bf:={ L.bf with le:=fun e he=>by have:=L.bf.le e he;lia }
 k0:=L.k0
 fr:=L.fr
 be:=fun v=>by
  constructor
  . intro h;cases h
  . rintro⟨o,h⟩;have:=L.bf.le _ h;simp only at this;lia
 cl:=L.cl
 sz:=L.sz
 bl:=DC _
 pr:=fun v x h=>h.elim
def y8q(nd:(ky F).Nodup)(h:e∈F)(h':e'∈F)(q:e.1=e'.1):e=e':=by
 obtain⟨i,hi,ei⟩:=List.mem_iff_getElem.mp h;obtain⟨j,hj,ej⟩:=List.mem_iff_getElem.mp h';have z:(ky F)[i]'(by simpa [ky] using hi)=(ky F)[j]'(by simpa [ky] using hj):=by simp only[ky,List.getElem_map,ei,ej,q]
 have:=(List.getElem_inj nd).mp z;subst this;rw[<-ei,<-ej]
def Md.step{k:Int}{fr B:List (List P2)}{F:List En}{dn:List P2->P2->Prop}(M:Md G t c0 k fr B F dn)(hG:∀v x,G v->x∈v->G (t v x).1/\(t v x).2∈(t v x).1/\t (t v x).1 (t v x).2=(v,x)){v:List P2}{x:P2}(hv:v∈fr)(hx:x∈v) :
  ((t v x).1∈ky F->Md G t c0 k fr B F (fun v' x'=>dn v' x'\/(v'=v/\x'=x))) /\
  ((t v x).1∉ky F->Md G t c0 k fr (B++[(t v x).1]) (F++[((t v x).1,k+1,some (t v x).2)]) (fun v' x'=>dn v' x'\/(v'=v/\x'=x))):=by
 obtain⟨o,ho⟩:=(M.fr v).mp hv
 obtain⟨g1,g2,g3⟩:=hG v x (M.bf.gd _ ho) hx
 have k0:=M.k0
 generalize hr:t v x=r at *
 constructor
 . intro hm;refine { M with pr:=fun v' x' h=>?_ };rcases h with h |⟨rfl,rfl⟩
   . exact M.pr v' x' h
   . obtain⟨e,he,q⟩:=mem_ky.mp hm;exact⟨e,he,by rw[q,hr],(M.bf.le e he).2⟩
 . intro hm;have bC:∀e,e∈F->e∈F++[(r.1,k+1,some r.2)]:=fun e he=>EC _ he
   have cs:∀e,e∈F++[(r.1,k+1,some r.2)]->e∈F\/e=(r.1,k+1,some r.2):=fun e he=>by
    rcases CN.mp he with h |h
    . exact .inl h
    . exact .inr (gV.mp h)
   have e1:ky (F++[(r.1,k+1,some r.2)])=ky F++[r.1]:=by unfold ky;rw[CS];rfl
   refine⟨⟨?_,fun e he=>?_,fun e he=>?_,fun e he=>?_,?_,fun e he hd=>?_⟩,k0,fun u=>?_,fun u=>?_,fun e he hd y hy=>?_,?_,?_,fun v' x' h=>?_⟩
   . rw[e1,HH];exact⟨M.bf.nd,by simp,fun a ha b hb z=>hm (by rw[<-gV.mp hb,<-z];exact ha)⟩
   . rcases cs e he with h |rfl
     . exact M.bf.gd e h
     . exact g1
   . rcases cs e he with h |rfl
     . exact M.bf.z e h
     . exact⟨fun z=>by simp only at z;lia,fun z=>absurd M.bf.c0 (by rw[<-z];exact hm)⟩
   . rcases cs e he with h |rfl
     . exact M.bf.le e h
     . simp only;lia
   . rw[e1];exact EC _ M.bf.c0
   . rcases cs e he with h |rfl
     . obtain⟨w,w1,w2,e',h1,h2⟩:=M.bf.bk e h hd;exact⟨w,w1,w2,e',bC _ h1,h2⟩
     . refine⟨r.2,rfl,g2,(v,k,o),bC _ ho,by simp only;rw[g3],by simp only;lia⟩
   . rw[M.fr u];constructor
     . rintro⟨o',h⟩;exact⟨o',bC _ h⟩
     . rintro⟨o',h⟩;rcases cs _ h with h |h
       . exact⟨o',h⟩
       . have:=DI (fun e:En=>e.2.1) h;simp only at this;lia
   . rw[CN,gV,M.be u];constructor
     . rintro (⟨o',h⟩ |rfl)
       . exact⟨o',bC _ h⟩
       . exact⟨some r.2,by simp⟩
     . rintro⟨o',h⟩;rcases cs _ h with h |h
       . exact .inl ⟨o',h⟩
       . exact .inr (DI (fun e:En=>e.1) h)
   . rcases cs e he with h |rfl
     . obtain⟨e',h1,h2⟩:=M.cl e h hd y hy;exact⟨e',bC _ h1,h2⟩
     . simp only at hd;lia
   . have:=M.sz;unfold Sz at this⊢;rw[GC,χ];lia
   . have:=M.bl;rw[χ,χ];simp;exact this
   . rcases h with h |⟨rfl,rfl⟩
     . obtain⟨e',h1,h2⟩:=M.pr v' x' h;exact⟨e',bC _ h1,h2⟩
     . exact⟨(r.1,k+1,some r.2),by simp,by simp only;rw[hr],Int.le_refl _⟩
def Md.imp{k:Int}{fr B:List (List P2)}{F:List En}{dn pS:List P2->P2->Prop}(M:Md G t c0 k fr B F dn)(h:∀v x,pS v x->dn v x):Md G t c0 k fr B F pS:={ M with pr:=fun v x q=>M.pr v x (h v x q) }
def Md.fin{k:Int}{fr B:List (List P2)}{F:List En}{dn:List P2->P2->Prop}(M:Md G t c0 k fr B F dn)(ah:fr≠[])(hd:∀v∈fr,∀x∈v,dn v x):Lv G t c0 (k+1) B F where
 bf:=M.bf
 k0:=by have:=M.k0;lia
 fr:=M.be
 cl:=fun e he h x hx=>by
  by_cases q:e.2.1<k
  . exact M.cl e he q x hx
  . have ek:e.2.1=k:=by lia
    have hf:e.1∈fr:=(M.fr e.1).mpr ⟨e.2.2,by rw[<-ek];exact he⟩;obtain⟨e',h1,h2,h3⟩:=M.pr e.1 x (hd e.1 hf x hx);exact⟨e',h1,h2,by lia⟩
 sz:=by
  obtain⟨v,hv⟩:=EZ _ ah;obtain⟨o,ho⟩:=(M.fr v).mp hv;have s:=M.sz;unfold Sz at s⊢;have:=Hx (p:=fun e:En=>decide (e.2.1<k)) (q:=fun e:En=>decide (e.2.1<k+1)) (fun e h=>by simp only[ng]at h⊢;lia) (l:=F) ⟨(v,k,o),ho,by simp only[ng];lia,by simp⟩
  lia
def Lv.done(L:Lv G t c0 k [] F)(hG:∀v x,G v->x∈v->G (t v x).1/\(t v x).2∈(t v x).1/\t (t v x).1 (t v x).2=(v,x))(he:e∈F)(hx:x∈e.1) :
  ∃e'∈F,e'.1=(t e.1 x).1/\e'.2.1<=e.2.1+1/\e.2.1<=e'.2.1+1:=by
 have lt:∀e∈F,e.2.1<k:=fun e he=>by
  have:=(L.bf.le e he).2;by_cases q:e.2.1=k
  . have:e.1∈([]:List (List P2)):=(L.fr e.1).mpr ⟨e.2.2,by rw[<-q];exact he⟩;cases this
  . omega
 obtain⟨e',h1,h2,h3⟩:=L.cl e he (lt e he) x hx
 obtain⟨g1,g2,g3⟩:=hG e.1 x (L.bf.gd e he) hx
 rw[<-h2]at g2 g3
 obtain⟨e2,k1,k2,k3⟩:=L.cl e' h1 (lt e' h1) _ g2
 rw[g3]at k2
 have:=y8q L.bf.nd k1 he k2
 subst this
 exact⟨e',h1,h2,h3,k3⟩
def Lv.len{k:Int}{fr:List (List P2)}{F:List En}(L:Lv G t c0 k fr F):k<=F.length:=by
 have:=L.sz;unfold Sz at this;have:=DA (fun e:En=>decide (e.2.1<k)) F
 lia
end
def sl{α:Type}:List α->Nat->List (List α)
 |_,0=>[[]]
 | [],_+1=>[]
 |a::l,m+1=>(sl l m).map (a::·)++sl l (m+1)
def ch:Nat->Nat->Nat
 |_,0=>1
 | 0,_+1=>0
 |n+1,m+1=>ch n m+ch n (m+1)
theorem Hw:∀(l:List α)(m:Nat),(sl l m).length=ch l.length m
 | [],0=>rfl
 |_::_,0=>rfl
 | [],_+1=>rfl
 |a::l,m+1=>by rw[sl,χ,bI,Hw l m,Hw l (m+1)];rfl
theorem Hv:∀{s l:List α},s.Sublist l->s∈sl l s.length
 |_,_,.slnil=>by simp[sl]
 | [],_::_,.cons _ _=>by simp[sl]
 |b::s,a::l,.cons _ h=>by have ih:=Hv h;rw[io]at ih⊢;rw[sl];exact CK _ ih
 |_::s,a::l,.cons₂ _ h=>by rw[io,sl];exact EC _ (CF.mpr ⟨s,Hv h,rfl⟩)
end Cu
noncomputable section
namespace K98
open PySem PySem.Spec PyProof.Rows L2
def Zi:DS->SR:=
 (g8 [true] (B9 (eUn (l5 "int") (a7 0)) (eUn (fun d=>(l6 d).map fun b=>.bl (!b)) (eUn (l5 "bool") (a7 0)))))
def P0:List D->R D:=mOf false 1 0 Zi
def Rf:DS->SR:=
 (g8 [true,true] (eIf (e8 asB (eOp N4 (a7 0) (a7 1))) (l8 (a8 (a7 0) (a8 (a7 1) b7))) (l8 (a8 (a7 1) (a8 (a7 0) b7)))))
def Z3:List D->R D:=mOf false 2 0 Rf
def Xo:DS->SR:=
 (c9 (e7 false 2 [false,true] (eOp dIx (a7 1) (eC (.int 0))))
  (c9 (e7 false 3 [false,true] (eOp dIx (a7 1) (eC (.int 1))))
  (c9 (sIf (bOr (e8 asB (eOp N4 (a7 2) (eC (.int 0)))) (e8 asB (eOp dGe (a7 3) (a7 0))))
   (g8 [] (eC (.bl false)))
   sNx)
  (g8 [true,false,true,true] (eOr (eOp dEq (a7 3) (eOp v9 (a7 2) (eC (.int 1)))) (B9 (eOp dEq (a7 2) (eC (.int 0))) (eOp dEq (a7 3) (eOp N5 (a7 0) (eC (.int 1))))))))))
def V4:List D->R D:=mOf false 2 2 Xo
def jD:DE->R Bool:=
 (e8 asB (eOp dNe (a7 0) (a7 1)))
def jC:DE->R D:=
 (a7 0)
def Zh:DS->SR:=
 (g8 [true,true] (eCB z8 (a8 (j7 (iL (a7 0)) b1 [1] jD jC) b7)))
def Bk:List D->R D:=mOf false 2 0 Zh
def z9v:DE->R D:=
 (eOp Ol (a7 0) (eC (.str "0123456789")))
def zeb:DS->SR:=
 (c9 (sIf (o9 (Y0 (eC (.int 1)) (Aj dLe (eCB k9 (a8 (a7 0) b7)) (Ak dLe (a7 1)))))
   (g8 [] (eC (.bl false)))
   sNx)
  (c9 (sIf (D3 (e8 asB (eOp R7 (eCB k9 (a8 (a7 0) b7)) (eC (.int 1)))) (e8 asB (eOp dEq (eOp dIx (a7 0) (eC (.int 0))) (eC (.str "0")))))
   (g8 [] (eC (.bl false)))
   sNx)
  (g8 [true] (eCB X3 (a8 (j7 (iS (a7 0)) b1 [] p9 z9v) b7)))))
def Bt:List D->R D:=mOf false 2 0 zeb
def jo:DS->SR:=
 (c9 (e7 false 1 [true] (eOp dIx (a7 0) (eC (.int 0))))
  (c9 (e7 false 2 [true] (eOp dIx (a7 0) (eC (.int 1))))
  (g8 [false,true,true] (eJn [(eUn dFv (a7 1)),(eC (.str "-")),(eUn dFv (a7 2))] PySem.Str.empty))))
def Bn:List D->R D:=mOf false 1 2 jo
def Oe:DE->R Bool:=
 (D3 (e8 asB (eOp dEq (eOp dIx (a7 0) (eC (.int 0))) (a7 1))) (D3 (e8 asB (eOp dLe (eOp dIx (a7 0) (eC (.int 1))) (eOp dIx (a7 2) (eC (.int 1))))) (e8 asB (eOp dNe (a7 0) (a7 2)))))
def Od:DE->R D:=
 (eOp dIx (a7 0) (eC (.int 1)))
def Ob:DS->SR:=
 (c9 (e7 true 3 [true,true,true] (j7 (iL (a7 2)) b1 [0,1] Oe Od))
  (g8 [true,false,false,true] (eCB S4 (a8 (a7 3) (a8 (eOp v9 (a7 0) (eC (.int 1))) b7)))))
def P9:List D->R D:=mOf false 3 1 Ob
def jB:DS->SR:=
 (g8 [true,true] (eCB C8 (a8 (eSl dSl (a7 0) (oSo (a7 1)) (oSo (eOp v9 (a7 1) (eC (.int 1))))) b7)))
def P5:List D->R D:=mOf false 2 0 jB
def jQ:DE->R D:=
 (l8 (a8 (eOp v9 (a7 0) (eCB X2 (a8 (eOp R7 (a7 0) (a7 2)) b7))) (a8 (eOp v9 (a7 1) (eCB X2 (a8 (eOp R7 (a7 1) (a7 2)) b7))) b7)))
def jA:DS->SR:=
 (c9 (e7 true 3 [false,true,true] (j7 (iL (a7 1)) (bT 2) [2] p9 jQ))
  (c9 (sIf (e8 asB (eOp dEq (a7 2) (eOp N5 (a7 0) (eC (.int 1)))))
   (v7 "list" k8 3 [false,false,true] (a8 (l8 (a8 (eC (.int 0)) (a8 (a7 2) b7))) b7))
   (v7 "list" k8 3 [false,false,true] (a8 (l8 (a8 (a7 2) (a8 (eOp v9 (a7 2) (eC (.int 2))) b7))) b7)))
  (g8 [false,false,false,true] (eCB z7 (a8 (a7 3) b7)))))
def Bs:List D->R D:=mOf true 3 1 jA
def jJ:DS->SR:=
 (c9 (e7 false 3 [false,true,true] (l8 (a8 (eCB Ho (a8 (a7 1) (a8 (a7 2) b7))) (a8 (eCB Hq (a8 (a7 1) (a8 (a7 2) b7))) b7))))
  (g8 [true,false,false,true] (eOr (eOp (dIn false) (a7 3) (eOp dIx (a7 0) (eC (.int 1)))) (eOr (eOp dEq (eOp N5 (eOp dIx (a7 3) (eC (.int 1))) (eOp dIx (a7 3) (eC (.int 0)))) (eC (.int 1))) (eOp dEq (a7 3) (l8 (a8 (eC (.int 0)) (a8 (eOp N5 (eOp dIx (a7 0) (eC (.int 0))) (eC (.int 1))) b7))))))))
def W5:List D->R D:=mOf false 3 1 jJ
def Xn:DS->SR:=
 (g8 [true,true] (B9 (Cb (eC (.int 0)) (Z2 dLe (eOp dIx (a7 1) (eC (.int 0))) (Z2 N4 (eOp dIx (a7 1) (eC (.int 1))) (Cw N4 (a7 0))))) (eUn (fun d=>(l6 d).map fun b=>.bl (!b)) (d8 V4 (a8 (a7 0) (a8 (a7 1) b7))))))
def Be:List D->R D:=mOf false 2 0 Xn
def Wg:DS->SR:=
 (g8 [true] (B9 (eUn (l5 "tuple") (a7 0)) (B9 (eOp dEq (eCB k9 (a8 (a7 0) b7)) (eC (.int 2))) (B9 (d8 P0 (a8 (eOp dIx (a7 0) (eC (.int 0))) b7)) (d8 P0 (a8 (eOp dIx (a7 0) (eC (.int 1))) b7))))))
def U9:List D->R D:=mOf false 1 0 Wg
def jP:DS->SR:=
 (sIf (bOr (o9 (e8 l6 (d8 P0 (a8 (a7 1) b7)))) (o9 (Y0 (eC (.int 0)) (Aj dLe (a7 1) (Ak N4 (a7 0))))))
  sNo
  sNx)
def Bv:List D->R D:=mOf false 2 0 jP
def Nk:DE->R D:=
 (d8 Bt (a8 (a7 0) (a8 (eC (.int 2)) b7)))
def Zg:DS->SR:=
 (c9 (e7 true 1 [true] (eMt F6 (a7 0) (a8 (eC (.str "-")) b7)))
  (c9 (sIf (bOr (e8 asB (eOp dNe (eCB k9 (a8 (a7 1) b7)) (eC (.int 2)))) (o9 (e8 l6 (eCB X3 (a8 (j7 (iL (a7 1)) b1 [] p9 Nk) b7)))))
   (g8 [] (eC .non))
   sNx)
  (g8 [false,true] (l8 (a8 (eCB N6 (a8 (eOp dIx (a7 1) (eC (.int 0))) b7)) (a8 (eCB N6 (a8 (eOp dIx (a7 1) (eC (.int 1))) b7)) b7))))))
def Bj:List D->R D:=mOf false 1 1 Zg
def P7:DE->R Bool:=
 (e8 asB (eOp N4 (eOp dIx (a7 2) (eUn K5 (eC (.int 1)))) (eOp dIx (a7 0) (eC (.int 1)))))
def P6:DS->SR:=
 (v7 "list" k8 2 [true,true,true] (a8 (d8 P9 (a8 (eOp dIx (a7 2) (eUn K5 (eC (.int 1)))) (a8 (a7 0) (a8 (a7 1) b7)))) b7))
def Nj:DS->SR:=
 (c9 (e7 true 2 [true] (n9 (a8 (eOp dIx (a7 0) (eC (.int 0))) b7)))
  (c9 (C5 1000 P7 P6)
  (g8 [false,false,true] (eCB z8 (a8 (a7 2) b7)))))
def P4:List D->R D:=mOf false 2 1 Nj
def kc:DS->SR:=
 (g8 [true] (eOp S1 (eC (.str "turn ")) (d8 Bn (a8 (eUn (K9 "line" ["TurnLine"]) (a7 0)) b7))))
def W8:List D->R D:=mOf false 1 0 kc
def Ni:DS->SR:=
 (e7 true 3 [true,true,false,true,true] (d8 Bs (a8 (eOp v9 (eC (.int 3)) (a7 4)) (a8 (a7 3) (a8 (eOp Q8 (d8 P5 (a8 (a7 0) (a8 (eOp v9 (a7 1) (a7 4)) b7))) (eOp v9 (eC (.int 3)) (a7 4))) b7)))))
def Zf:DS->SR:=
 (c9 (e7 true 3 [] (n9 b7))
  (c9 (v6 true [false,false,true] (Q5 (a8 (a7 2) b7)) (.n 4) Ni)
  (g8 [false,false,true,true] (l8 (a8 (eOp v9 (eC (.int 3)) (a7 2)) (a8 (eCB z8 (a8 (a7 3) b7)) b7))))))
def M9:List D->R D:=mOf false 3 2 Zf
def Oa:DS->SR:=
 (sIf (D3 (e8 l6 (d8 W5 (a8 (a7 0) (a8 (a7 3) (a8 (eOp dIx (a7 1) (eC (.int 0))) b7))))) (e8 l6 (d8 W5 (a8 (a7 0) (a8 (a7 3) (a8 (eOp dIx (a7 1) (eC (.int 1))) b7))))))
  (v7 "list" k8 2 [false,false,false,true] (a8 (a7 3) b7))
  sNx)
def Nz:DE->R Bool:=
 (e8 asB (eOp dNe (a7 0) (a7 1)))
def Ny:DE->R D:=
 (a7 0)
def jI:DS->SR:=
 (c9 (e7 true 2 [] (n9 b7))
  (c9 (v6 true [true] (Q5 (a8 (eOp dIx (a7 0) (eC (.int 0))) b7)) (.n 3) Oa)
  (g8 [true,true,true] (l8 (a8 (eOp dIx (a7 0) (eC (.int 0))) (a8 (eCB z8 (a8 (eCB z7 (a8 (eOp x6 (j7 (iL (eOp dIx (a7 0) (eC (.int 1)))) b1 [1] Nz Ny) (n9 (a8 (eCB z8 (a8 (a7 2) b7)) b7))) b7)) b7)) b7))))))
def N1:List D->R D:=mOf false 2 2 jI
def Ze:DS->SR:=
 (g8 [true,true] (B9 (d8 U9 (a8 (a7 1) b7)) (eOr (d8 V4 (a8 (eOp dIx (a7 0) (eC (.int 0))) (a8 (a7 1) b7))) (eOp (dIn false) (a7 1) (eOp dIx (a7 0) (eC (.int 1)))))))
def Bi:List D->R D:=mOf false 2 0 Ze
def jz:DS->SR:=
 (sIf (bOr (o9 (e8 l6 (d8 U9 (a8 (a7 1) b7)))) (e8 asB (eOp (dIn true) (a7 1) (eOp dIx (a7 0) (eC (.int 1))))))
  sNo
  sNx)
def Br:List D->R D:=mOf false 2 0 jz
def Ln:DE->R D:=
 (d8 P4 (a8 (a7 0) (a8 (a7 1) b7)))
def Ka:DS->SR:=
 (c9 (e7 true 2 [true,true] (eOp x6 (n9 (a8 (l8 (a8 (eC (.int 0)) (a8 (eOp N5 (a7 0) (eC (.int 1))) b7))) b7)) (eCB Y4 (a8 (a7 1) b7))))
  (g8 [false,true,true] (eCB z7 (a8 (j7 (iL (a7 2)) b1 [1] p9 Ln) b7))))
def M0:List D->R D:=mOf true 2 1 Ka
def jm:DS->SR:=
 (c9 (e7 false 1 [true] (d8 Bj (a8 (a7 0) b7)))
  (c9 (sIf (bOr (e8 asB (eOp Ft (a7 1) (eC .non))) (e8 asB (eOp dEq (eOp dIx (a7 1) (eC (.int 0))) (eOp dIx (a7 1) (eC (.int 1))))))
   sNo
   sNx)
  (g8 [false,true] (d8 Z3 (a8 (eOp dIx (a7 1) (eC (.int 0))) (a8 (eOp dIx (a7 1) (eC (.int 1))) b7))))))
def W3:List D->R D:=mOf false 1 1 jm
def jk:DE->R Bool:=
 (D3 (e8 asB (eOp (dIn false) (a7 0) (a7 2))) (e8 asB (eOp (dIn false) (a7 1) (a7 2))))
def ji:DE->R D:=
 (l8 (a8 (R9 (a7 2) (a7 0)) (a8 (R9 (a7 2) (a7 1)) b7)))
def jh:DE->R Bool:=
 (e8 l6 (d8 Be (a8 (eCB k9 (a8 (a7 1) b7)) (a8 (a7 0) b7))))
def jg:DE->R D:=
 (a7 0)
def Xm:DS->SR:=
 (c9 (e7 true 2 [true,true] (j7 (iL (eOp dIx (a7 1) (eC (.int 1)))) (bT 2) [0] jk ji))
  (g8 [true,false,true] (l8 (a8 (eCB k9 (a8 (a7 0) b7)) (a8 (eCB z8 (a8 (j7 (iL (a7 2)) b1 [0] jh jg) b7)) b7)))))
def V3:List D->R D:=mOf false 2 1 Xm
def Fk:DS->SR:=
 (sIf (bOr (e8 asB (eOp (dIn true) (a7 4) (eOp dIx (eOp dIx (a7 0) (a7 3)) (eC (.int 1))))) (e8 asB (eOp dNe (eOp dIx (a7 0) (eOp v9 (a7 3) (eC (.int 1)))) (d8 N1 (a8 (eOp dIx (a7 0) (a7 3)) (a8 (a7 4) b7))))))
  (g8 [] (eC (.bl false)))
  sNx)
def jf:DS->SR:=
 (c9 (sIf (bOr (o9 (e8 l6 (eUn (l5 "list") (a7 0)))) (bOr (e8 asB (eOp dNe (eCB k9 (a8 (a7 0) b7)) (eOp v9 (eCB k9 (a8 (a7 2) b7)) (eC (.int 1))))) (e8 asB (eOp dNe (eOp dIx (a7 0) (eC (.int 0))) (a7 1)))))
   (g8 [] (eC (.bl false)))
   sNx)
  (c9 (v6 false [false,false,true] (iEn (a8 (a7 2) b7)) (.t [3,4]) Fk)
  (g8 [] (eC (.bl true)))))
def W2:List D->R D:=mOf false 3 2 jf
def jy:DS->SR:=
 (sIf (o9 (e8 l6 (d8 Bi (a8 (a7 0) (a8 (a7 1) b7)))))
  sNo
  sNx)
def Bp:List D->R D:=mOf false 2 0 jy
def jd:DS->SR:=
 (g8 [true] (d8 M0 (a8 (eOp dIx (a7 0) (eC (.int 0))) (a8 (eOp dIx (a7 0) (eC (.int 1))) b7))))
def P1:List D->R D:=mOf true 1 0 jd
def Mw:DS->SR:=
 (c9 (sIf (o9 (e8 l6 (eUn (l5 "str") (a7 0))))
   sNo
   sNx)
  (c9 (e7 true 1 [true] (eMt F6 (a7 0) (a8 (eC (.str " ")) b7)))
  (c9 (sIf (e8 asB (eOp dEq (a7 1) (n9 (a8 (eC (.str "mirror")) b7))))
   (g8 [] eNo)
   sNx)
  (c9 (sIf (D3 (e8 asB (eOp dEq (eCB k9 (a8 (a7 1) b7)) (eC (.int 2)))) (e8 asB (eOp dEq (eOp dIx (a7 1) (eC (.int 0))) (eC (.str "turn")))))
   (g8 [false,true] (G6 "TurnLine" (a8 (d8 W3 (a8 (eOp dIx (a7 1) (eC (.int 1))) b7)) b7)))
   sNx)
  (c9 sNo
  sNo)))))
def W1:List D->R D:=mOf false 1 1 Mw
def Zd:DE->R Bool:=
 (D3 (e8 asB (eOp (dIn false) (eOp dIx (a7 1) (eC (.int 0))) (a7 0))) (e8 asB (eOp (dIn false) (eOp dIx (a7 1) (eC (.int 1))) (a7 0))))
def Zc:DE->R D:=
 (a7 0)
def Zb:DE->R D:=
 (eOp N5 (eCB C8 (a8 (a7 0) b7)) (eCB C8 (a8 (a7 1) b7)))
def Wf:DS->SR:=
 (c9 (T5 (d8 Bp (a8 (a7 0) (a8 (a7 1) b7))))
  (c9 (e7 true 2 [true,true] (j7 (iL (d8 P1 (a8 (a7 0) b7))) b1 [1] Zd Zc))
  (g8 [false,true,true] (eCB z7 (a8 (j7 (iL (a7 2)) b1 [1] p9 Zb) b7)))))
def U8:List D->R D:=mOf true 2 1 Wf
def jZ:DE->R Bool:=
 (e8 asB (eOp (dIn false) (a7 1) (a7 0)))
def jY:DE->R D:=
 (d8 Bk (a8 (a7 0) (a8 (a7 1) b7)))
def jX:DE->R Bool:=
 (e8 asB (eOp (dIn false) (a7 0) (eOp dIx (a7 1) (eC (.int 1)))))
def jW:DE->R D:=
 (a7 0)
def jO:DS->SR:=
 (c9 (e7 true 2 [true,true] (j7 (iL (d8 P1 (a8 (a7 0) b7))) b1 [1] jZ jY))
  (g8 [true,false,true] (j7 (iL (a7 2)) b1 [0] jX jW)))
def W6:List D->R D:=mOf true 2 1 jO
def Mv:DS->SR:=
 (W9 (fun a b=>a+b) 1 [false,false,false,true] (a7 3) (eC (.int 1)))
def Ff:DS->SR:=
 (v6 false [false,false,true] (iL (a7 2)) (.n 3) Mv)
def Xl:DS->SR:=
 (c9 (e7 true 1 [true] (eOp Q6 (n9 (a8 (eC (.int 0)) b7)) (eOp dIx (a7 0) (eC (.int 0)))))
  (c9 (v6 false [true] (iL (d8 P1 (a8 (a7 0) b7))) (.n 2) Ff)
  (J3 1)))
def M7:List D->R D:=mOf true 1 3 Xl
def Za:DE->R Bool:=
 (e8 asB (eOp dNe (a7 0) (a7 1)))
def Yz:DE->R D:=
 (a7 0)
def We:DS->SR:=
 (c9 (T5 (d8 Br (a8 (a7 0) (a8 (a7 1) b7))))
  (c9 (e7 false 2 [true,true] (eCB z8 (a8 (d8 U8 (a8 (a7 0) (a8 (a7 1) b7))) b7)))
  (c9 (e7 true 3 [true,true] (j7 (iL (eOp dIx (a7 0) (eC (.int 1)))) b1 [1] Za Yz))
  (g8 [true,false,true,true] (l8 (a8 (l8 (a8 (eOp dIx (a7 0) (eC (.int 0))) (a8 (eCB z8 (a8 (eCB z7 (a8 (eOp x6 (a7 3) (n9 (a8 (a7 2) b7))) b7)) b7)) b7))) (a8 (a7 2) b7)))))))
def v3:List D->R D:=mOf false 2 2 We
def jV:DS->SR:=
 (g8 [true,true] (eOp dIx (d8 v3 (a8 (a7 1) (a8 (eUn (K9 "line" ["TurnLine"]) (a7 0)) b7))) (eC (.int 0))))
def P8:List D->R D:=mOf false 2 0 jV
def jU:DS->SR:=
 (g8 [true,true] (G6 "TurnLine" (a8 (eOp dIx (d8 v3 (a8 (a7 1) (a8 (eUn (K9 "line" ["TurnLine"]) (a7 0)) b7))) (eC (.int 1))) b7)))
def W7:List D->R D:=mOf false 2 0 jU
def Bh:DE->R Bool:=
 (e8 asB (eOp R7 (eCB k9 (a8 (a7 4) b7)) (eC (.int 0))))
def Fb:DS->SR:=
 (c9 (v7 "list" k8 2 [false,false,false,false,true] (a8 (eOp dIx (a7 4) (eC (.int 0))) b7))
  (c9 (e7 false 3 [false,false,false,true,true] (eOp dIx (d8 v3 (a8 (a7 3) (a8 (eOp dIx (a7 4) (eC (.int 0))) b7))) (eC (.int 0))))
  (e7 true 4 [false,true,false,true] (d8 W6 (a8 (a7 3) (a8 (a7 1) b7))))))
def Wd:DS->SR:=
 (c9 (T5 (d8 Bv (a8 (eOp dIx (a7 0) (eC (.int 0))) (a8 (a7 1) b7))))
  (c9 (e7 true 2 [] (n9 b7))
  (c9 (e7 false 3 [true] (a7 0))
  (c9 (e7 true 4 [false,true,false,true] (d8 W6 (a8 (a7 3) (a8 (a7 1) b7))))
  (c9 (C5 1000 Bh Fb)
  (J3 2))))))
def O9:List D->R D:=mOf true 2 3 Wd
def Fn:DS->SR:=
 (c9 (e7 false 5 [false,false,false,true,true] (d8 v3 (a8 (a7 3) (a8 (a7 4) b7))))
  (sIf (e8 asB (eOp (dInN true) (eOp dIx (a7 5) (eC (.int 0))) (a7 1)))
   (c9 (Ca dSetN 1 [false,true,false,true,false,true] (eOp dIx (a7 5) (eC (.int 0))) (l8 (a8 (eOp v9 (eOp dIx (eOp dIxN (a7 1) (a7 3)) (eC (.int 0))) (eC (.int 1))) (a8 (eOp dIx (a7 5) (eC (.int 1))) b7))))
  (v7 "list" k8 2 [false,false,false,false,false,true] (a8 (eOp dIx (a7 5) (eC (.int 0))) b7)))
   sNx))
def Fm:DS->SR:=
 (v6 false [false,false,false,true] (iL (eOp dIx (a7 3) (eC (.int 1)))) (.n 4) Fn)
def Fl:DS->SR:=
 (c9 (e7 true 2 [] (n9 b7))
  (c9 (v6 false [true] (iL (a7 0)) (.n 3) Fm)
  sNx))
def Bu:List D->R (D×D):=Fq 4 2 Fl
def Fj:DS->SR:=
 (c9 (e7 false 5 [false,false,false,true,true] (d8 v3 (a8 (a7 3) (a8 (a7 4) b7))))
  (c9 (v7 "list" k8 2 [false,false,false,false,false,true] (a8 (eOp dIx (a7 5) (eC (.int 1))) b7))
  (e7 false 3 [false,false,false,false,false,true] (eOp dIx (a7 5) (eC (.int 0))))))
def jc:DS->SR:=
 (c9 (e7 true 2 [] (n9 b7))
  (c9 (e7 false 3 [true] (a7 0))
  (c9 (v6 false [false,true] (iL (a7 1)) (.n 4) Fj)
  (g8 [false,false,true] (eUn D5 (a7 2))))))
def Bm:List D->R D:=mOf true 2 4 jc
def An:String->Option (List D->R D):=fun c=>if c="TurnLine" then some P8 else none
def Fa:DS->SR:=
 (v7 "list" k8 2 [false,false,true,true] (a8 (D6 An (a7 3) (a8 (eOp dIx (a7 2) (eUn K5 (eC (.int 1)))) b7)) b7))
def Wc:DS->SR:=
 (c9 (e7 true 2 [true] (n9 (a8 (a7 0) b7)))
  (c9 (v6 false [false,true] (iL (a7 1)) (.n 3) Fa)
  (J3 2)))
def C6:List D->R D:=mOf true 2 2 Wc
def Jz:String->Option (List D->R D):=fun c=>if c="TurnLine" then some W7 else none
def Eo:DS->SR:=
 (c9 (v7 "list" k8 2 [false,false,false,true,true] (a8 (D6 Jz (a7 4) (a8 (a7 3) b7)) b7))
  (e7 false 3 [false,false,false,true,true] (D6 An (a7 4) (a8 (a7 3) b7))))
def Re:DS->SR:=
 (c9 (e7 true 2 [] (n9 b7))
  (c9 (e7 false 3 [true] (a7 0))
  (c9 (v6 false [false,true] (iL (a7 1)) (.n 4) Eo)
  (g8 [false,false,true] (eUn D5 (a7 2))))))
def T7:List D->R D:=mOf true 2 3 Re
def Fi:DE->R Bool:=
 (e8 asB (eOp R7 (eCB k9 (a8 (a7 2) b7)) (eC (.int 0))))
def Fh:DS->SR:=
 (Bx 2 1 [false,false,true] Bu (a7 2))
def Yy:DS->SR:=
 (c9 (e7 true 1 [true] (eDisp1 (a7 0) (l8 (a8 (eC (.int 0)) (a8 (eC .non) b7)))))
  (c9 (e7 true 2 [true] (n9 (a8 (a7 0) b7)))
  (c9 (C5 100000 Fi Fh)
  (J3 1))))
def V9:List D->R D:=mOf true 1 2 Yy
def Nh:DE->R D:=
 (eOp v9 (a7 0) (a7 1))
def Yx:DS->SR:=
 (c9 (e7 true 2 [true,true] (j7 (iZp (a8 (d8 M7 (a8 (a7 0) b7)) (a8 (d8 M7 (a8 (a7 1) b7)) b7))) (bT 2) [] p9 Nh))
  (c9 (e7 false 3 [false,false,true] (Bz (a7 2) (eCB S5 (a8 (a7 2) b7))))
  (g8 [true,true,false,true] (eOp x6 (d8 O9 (a8 (a7 0) (a8 (a7 3) b7))) (d8 Bm (a8 (a7 1) (a8 (d8 O9 (a8 (a7 1) (a8 (a7 3) b7))) b7)))))))
def V8:List D->R D:=mOf true 2 2 Yx
def Fg:DE->R Bool:=
 (e8 asB (eOp dNe (a7 4) (a7 1)))
def Bo:DS->SR:=
 (c9 (v7 "list" k8 3 [false,false,true,false,true] (a8 (eOp dIx (eOp dIxN (a7 2) (a7 4)) (eC (.int 1))) b7))
  (e7 false 4 [false,false,false,true,true] (eOp dIx (d8 v3 (a8 (a7 4) (a8 (eOp dIx (a7 3) (eUn K5 (eC (.int 1)))) b7))) (eC (.int 0)))))
def Yw:DS->SR:=
 (c9 (e7 true 2 [false,true] (d8 V9 (a8 (a7 1) b7)))
  (c9 (e7 true 3 [] (n9 b7))
  (c9 (e7 false 4 [true] (a7 0))
  (c9 (C5 1000 Fg Bo)
  (J3 3)))))
def V7:List D->R D:=mOf true 2 3 Yw
def Nw:DE->R D:=
 (l8 (a8 (eOp dIx (a7 2) (a7 0)) (a8 (eOp dIx (a7 2) (a7 1)) b7)))
def jH:DS->SR:=
 (c9 (e7 false 3 [true,true] (d8 V3 (a8 (a7 0) (a8 (a7 1) b7))))
  (c9 (e7 false 4 [true,false,true] (d8 V3 (a8 (a7 0) (a8 (a7 2) b7))))
  (c9 (e7 false 5 [true,false,false,true,true] (eIf (e8 asB (eOp dLe (eCB k9 (a8 (a7 0) b7)) (eC (.int 8)))) (d8 V7 (a8 (a7 3) (a8 (a7 4) b7))) (d8 V8 (a8 (a7 3) (a8 (a7 4) b7)))))
  (g8 [true,false,false,false,false,true] (j7 (iL (a7 5)) (bT 2) [0] p9 Nw)))))
def W4:List D->R D:=mOf true 3 3 jH
def Yv:DE->R Bool:=
 (e8 asB (eOp (dIn false) (a7 0) (eOp dIx (a7 1) (eC (.int 1)))))
def Yu:DE->R D:=
 (a7 0)
def Mi:DS->SR:=
 (v7 "list" X1 3 [true,true,false,false,true] (a8 (d8 W4 (a8 (a7 4) (a8 (a7 0) (a8 (a7 1) b7)))) b7))
def Wb:DS->SR:=
 (c9 (sIf (e8 asB (eOp dNe (eOp dIx (a7 0) (eC (.int 0))) (eOp dIx (a7 1) (eC (.int 0)))))
   sNo
   sNx)
  (c9 (e7 true 2 [true,true] (j7 (iL (eOp dIx (a7 0) (eC (.int 1)))) b1 [1] Yv Yu))
  (c9 (e7 true 3 [] (n9 b7))
  (c9 (v6 false [true,false,true] (iL (d8 M0 (a8 (eOp dIx (a7 0) (eC (.int 0))) (a8 (a7 2) b7)))) (.n 4) Mi)
  (J3 3)))))
def U7:List D->R D:=mOf true 2 3 Wb
def Em:String->Option (List D->R D):=fun c=>if c="TurnLine" then some W8 else none
def Du:DE->R D:=
 (G6 "TurnLine" (a8 (a7 0) b7))
def Am:DE->R D:=
 (d8 W1 (a8 (D6 Em (a7 0) b7) b7))
def y5n:DS->SR:=
 (c9 (e7 false 1 [true] (eOp Q8 (d8 P5 (a8 (a7 0) (a8 (eC (.int 0)) b7))) (eC (.int 14))))
  (c9 (e7 false 2 [true,true] (d8 M9 (a8 (a7 0) (a8 (eC (.int 1)) (a8 (a7 1) b7)))))
  (c9 (e7 false 3 [true,true] (d8 M9 (a8 (a7 0) (a8 (eC (.int 14)) (a8 (a7 1) b7)))))
  (c9 (e7 true 4 [false,false,true,true] (d8 U7 (a8 (a7 2) (a8 (a7 3) b7))))
  (c9 (sIf (o9 (e8 l6 (eUn (l5 "list") (a7 4))))
   (g8 [] (eC (.bl false)))
   sNx)
  (c9 (e7 true 5 [false,false,false,false,true] (j7 (iL (a7 4)) b1 [] p9 Du))
  (c9 (e7 true 6 [false,false,true,false,false,true] (d8 C6 (a8 (a7 2) (a8 (a7 5) b7))))
  (c9 (sIf (bOr (o9 (e8 l6 (d8 W2 (a8 (a7 6) (a8 (a7 2) (a8 (a7 4) b7)))))) (e8 asB (eOp dNe (eOp dIx (a7 6) (eUn K5 (eC (.int 1)))) (a7 3))))
   (g8 [] (eC (.bl false)))
   sNx)
  (c9 (e7 true 7 [false,false,true,true,false,true] (d8 C6 (a8 (a7 3) (a8 (d8 T7 (a8 (a7 2) (a8 (a7 5) b7))) b7))))
  (c9 (sIf (bOr (o9 (e8 l6 (eUn (l5 "list") (a7 7)))) (e8 asB (eOp dNe (eUn D5 (a7 7)) (a7 6))))
   (g8 [] (eC (.bl false)))
   sNx)
  (c9 (e7 true 8 [false,false,true,false,false,true] (d8 C6 (a8 (a7 2) (a8 (j7 (iL (a7 5)) b1 [] p9 Am) b7))))
  (g8 [false,false,true,false,false,true,true,false,true] (B9 (eOp dEq (a7 8) (a7 6)) (eOp dEq (d8 C6 (a8 (a7 2) (a8 (a7 5) b7))) (a7 6)))))))))))))))
def R8:List D->R D:=mOf false 1 8 y5n
abbrev Ky:Stmt:=top 1
abbrev Hu:Stmt:=top 2
abbrev Mh:Stmt:=top 10
abbrev Ht:Stmt:=top 11
abbrev Lm:Stmt:=top 12
abbrev Ll:Stmt:=top 13
abbrev Kx:Stmt:=top 15
abbrev Mg:Stmt:=top 16
abbrev Ng:Stmt:=top 17
abbrev Nf:Stmt:=top 18
abbrev Nq:Stmt:=top 19
abbrev Mf:Stmt:=top 20
abbrev Nd:Stmt:=top 21
abbrev Me:Stmt:=top 22
abbrev Mu:Stmt:=top 23
abbrev Jy:Stmt:=top 25
abbrev Nc:Stmt:=top 26
abbrev Nv:Stmt:=top 27
abbrev Mt:Stmt:=top 28
abbrev Kw:Stmt:=top 29
abbrev Kv:Stmt:=top 35
abbrev Mr:Stmt:=top 41
abbrev Mq:Stmt:=top 42
abbrev Ku:Stmt:=top 45
abbrev Np:Stmt:=top 46
abbrev Lk:Stmt:=top 48
abbrev Mc:Stmt:=top 50
abbrev No:Stmt:=top 51
abbrev Kt:Stmt:=top 52
abbrev Nn:Stmt:=top 53
abbrev Lj:Stmt:=top 54
abbrev Mb:Stmt:=top 55
abbrev Ma:Stmt:=top 56
abbrev Mp:Stmt:=top 57
abbrev Nb:Stmt:=top 59
abbrev Na:Stmt:=top 60
abbrev Lz:Stmt:=top 61
abbrev Nm:Stmt:=top 62
abbrev Nl:Stmt:=top 63
abbrev Mo:Stmt:=top 64
abbrev Gr:Stmt:=top 65
abbrev Nu:Stmt:=(Ea (top 38)).getD 1 (.Pass ⟨0,0,0,0⟩)
abbrev Nt:Stmt:=(Ea (top 38)).getD 2 (.Pass ⟨0,0,0,0⟩)
abbrev Oc:Stmt:=(Ea (top 38)).getD 3 (.Pass ⟨0,0,0,0⟩)
abbrev jT:Stmt:=(Ea (top 38)).getD 0 (.Pass ⟨0,0,0,0⟩)
def z7o:FnScope ["self","line"] ["self","line"] (d7 jT):=fsc
structure Txt(mg:Str->Option Value):Prop where
 «all»:mg "all"=none
 bool:mg "bool"=none
 enumerate:mg "enumerate"=none
 int:mg "int"=none
 isinstance:mg "isinstance"=none
 len:mg "len"=none
 list:mg "list"=none
 «max»:mg "max"=none
 «min»:mg "min"=none
 range:mg "range"=none
 reversed:mg "reversed"=none
 sorted:mg "sorted"=none
 str:mg "str"=none
 sum:mg "sum"=none
 tuple:mg "tuple"=none
 zip:mg "zip"=none
structure Exs(K:Frag)(mg:Str->Option Value)(u0:Addr):Prop where
 a_TurnLine:mg (Str.ofString "TurnLine")=some (.ref u0)
 n_TurnLine:nsIn K mainGlobals (Str.ofString "TurnLine")=some (some (.ref u0))
 op_TurnLine:PySem.W.plainGet K u0 Str.empty=true
 oh_TurnLine:PySem.W.hasDictIn K u0=true
 oo_TurnLine:PySem.W.plainOver K u0=true
 os_TurnLine:PySem.W.findIn K (.ref u0) "__setattr__"=some (some (.builtin "object.__setattr__"))
 om_TurnLine:PySem.W.makesIn K u0=true
 oq_TurnLine:keepIn K (.ref u0)=true
 ov_TurnLine:PySem.W.findIn K (.ref u0) "line"=some none
section
variable {K:Frag}{mg:Str->Option Value}{u0:Addr}
def Exs.cl_TurnLine(Z:Exs K mg u0):Cls K u0:=⟨Z.op_TurnLine,Z.oh_TurnLine,Z.oo_TurnLine,Z.os_TurnLine⟩
def Exs.fl_line(Z:Exs K mg u0):Flds K "line" ["TurnLine"]:=⟨fun c h=>by rw[gV.mp h];exact⟨_,Z.n_TurnLine,Z.cl_TurnLine,Z.ov_TurnLine⟩⟩
end
def sc_walked:FnScope ["cut","deeds","found","deed"] ["cut","deeds"] (d7 Ky):=fsc
def sc_home:FnScope ["cut","deeds","backs","now","deed"] ["cut","deeds"] (d7 Hu):=fsc
def zfv:FnScope ["thing"] ["thing"] (d7 Mh):=fsc
def xg:FnScope ["a","b"] ["a","b"] (d7 Ht):=fsc
def sc_is_side:FnScope ["n","p","a","b"] ["n","p"] (d7 Lm):=fsc
def zj7:FnScope ["n","p"] ["n","p"] (d7 Ll):=fsc
def zmj:FnScope ["thing"] ["thing"] (d7 Kx):=fsc
def zfw:FnScope ["cut","p"] ["cut","p"] (d7 Mg):=fsc
def zci:FnScope ["cut","p"] ["cut","p"] (d7 Ng):=fsc
def zcj:FnScope ["cut","p"] ["cut","p"] (d7 Nf):=fsc
def z9c:FnScope ["n","thing"] ["n","thing"] (d7 Nq):=fsc
def zfx:FnScope ["corners","corner"] ["corners","corner"] (d7 Mf):=fsc
def zck:FnScope ["word","most"] ["word","most"] (d7 Nd):=fsc
def sc_two_read:FnScope ["word","parts"] ["word"] (d7 Me):=fsc
def sc_two_shown:FnScope ["two","a","b"] ["two"] (d7 Mu):=fsc
def sc_rooms:FnScope ["n","lines","tops"] ["n","lines"] (d7 Jy):=fsc
def sc_room_under:FnScope ["top","lines","room"] ["top","lines"] (d7 Nc):=fsc
def sc_corner_behind:FnScope ["corner","top","lines","ends"] ["corner","top","lines"] (d7 Nv):=fsc
def zef:FnScope ["cut"] ["cut"] (d7 Mt):=fsc
def sc_thirds:FnScope ["cut","p","both"] ["cut","p"] (d7 Kw):=fsc
def sc_turned:FnScope ["cut","line","new","kept"] ["cut","line"] (d7 Kv):=fsc
def sc_read_deed:FnScope ["text","words"] ["text"] (d7 Mr):=fsc
def sc_pair_read:FnScope ["word","two"] ["word"] (d7 Mq):=fsc
def sc_to_fan:FnScope ["cut","corner","found","now","facing"] ["cut","corner"] (d7 Ku):=fsc
def sc_lines_facing:FnScope ["cut","corner","facing"] ["cut","corner"] (d7 Np):=fsc
def sc_numbers:FnScope ["cut","row","corners","corner"] ["cut"] (d7 Lk):=fsc
def sc_steps_to:FnScope ["cut","found","front"] ["cut"] (d7 Mc):=fsc
def sc_front_behind:FnScope ["front","found","behind","cut","line","step"] ["front","found"] (d7 No):=fsc
def sc_way_to:FnScope ["one","other","both","way","room"] ["one","other"] (d7 Kt):=fsc
def sc_way_in_room:FnScope ["room","one","other","start","end","way"] ["room","one","other"] (d7 Nn):=fsc
def sc_part_in:FnScope ["room","cut","inside"] ["room","cut"] (d7 Lj):=fsc
def sc_shortest:FnScope ["start","end","steps","way","now"] ["start","end"] (d7 Mb):=fsc
def sc_over_fan:FnScope ["start","end","both","corner"] ["start","end"] (d7 Ma):=fsc
def sc_back_from:FnScope ["cut","way","came","now","line","step"] ["cut","way"] (d7 Mp):=fsc
def zcl:FnScope ["_law_script","_law_at"] ["_law_script","_law_at"] (d7 Nb):=fsc
def sc__law_grown:FnScope ["_law_size","_law_lines","_law_at","_law_some"] ["_law_size","_law_lines","_law_at"] (d7 Na):=fsc
def sc__law_cut:FnScope ["_law_script","_law_start","_law_many","_law_lines","_law_k"] ["_law_script","_law_start","_law_many"] (d7 Lz):=fsc
def sc__law_joined:FnScope ["_law_cut_here","_law_c","_law_end","_law_p"] ["_law_cut_here","_law_c","_law_end"] (d7 Nm):=fsc
def sc__law_turned:FnScope ["_law_cut_here","_law_line","_law_new","_law_c"] ["_law_cut_here","_law_line"] (d7 Nl):=fsc
def sc__law_over:FnScope ["_law_cuts","_law_one","_law_lines","_law_k","_law_line"] ["_law_cuts","_law_one","_law_lines"] (d7 Mo):=fsc
def sc_law:FnScope ["_law_script","_law_many","_law_one","_law_other","_law_lines","_law_deeds","_law_cuts","_law_back","_law_again"] ["_law_script"] (d7 Gr):=fsc
def z7p:FnScope ["self","cut"] ["self","cut"] (d7 Nu):=fsc
def z7q:FnScope ["self","cut"] ["self","cut"] (d7 Nt):=fsc
def z71:FnScope ["self"] ["self"] (d7 Oc):=fsc
abbrev Ly(P:Program)(w:World)(K:Frag)(mg:Str->Option Value)(base:Heap):Prop:=i7 P w K mg base "is_whole" ["thing"] 1 (spD K mg false P0 1)
abbrev Rc(P:Program)(w:World)(K:Frag)(mg:Str->Option Value)(base:Heap):Prop:=i7 P w K mg base "pair" ["a","b"] 1 (spD K mg false Z3 2)
abbrev Li(P:Program)(w:World)(K:Frag)(mg:Str->Option Value)(base:Heap):Prop:=i7 P w K mg base "is_side" ["n","p"] 1 (spD K mg false V4 2)
abbrev Yt(P:Program)(w:World)(K:Frag)(mg:Str->Option Value)(base:Heap):Prop:=i7 P w K mg base "opposite" ["corners","corner"] 1 (spD K mg false Bk 2)
abbrev jx(P:Program)(w:World)(K:Frag)(mg:Str->Option Value)(base:Heap):Prop:=i7 P w K mg base "is_figures" ["word","most"] 1 (spD K mg false Bt 2)
abbrev jb(P:Program)(w:World)(K:Frag)(mg:Str->Option Value)(base:Heap):Prop:=i7 P w K mg base "two_shown" ["two"] 1 (spD K mg false Bn 1)
abbrev jS(P:Program)(w:World)(K:Frag)(mg:Str->Option Value)(base:Heap):Prop:=i7 P w K mg base "corner_behind" ["corner","top","lines"] 1 (spD K mg false P9 3)
abbrev Mz(P:Program)(w:World)(K:Frag)(mg:Str->Option Value)(base:Heap):Prop:=i7 P w K mg base "_law_drawn" ["_law_script","_law_at"] 1 (spD K mg false P5 2)
abbrev jw(P:Program)(w:World)(K:Frag)(mg:Str->Option Value)(base:Heap):Prop:=i7 P w K mg base "_law_grown" ["_law_size","_law_lines","_law_at"] 1 (spD K mg true Bs 3)
abbrev jG(P:Program)(w:World)(K:Frag)(mg:Str->Option Value)(base:Heap):Prop:=i7 P w K mg base "_law_joined" ["_law_cut_here","_law_c","_law_end"] 1 (spD K mg false W5 3)
abbrev Xk(P:Program)(w:World)(K:Frag)(mg:Str->Option Value)(base:Heap):Prop:=i7 P w K mg base "is_line" ["n","p"] 2 (spD K mg false Be 2)
abbrev Ks(P:Program)(w:World)(K:Frag)(mg:Str->Option Value)(base:Heap):Prop:=i7 P w K mg base "is_two" ["thing"] 2 (spD K mg false U9 1)
abbrev jN(P:Program)(w:World)(K:Frag)(mg:Str->Option Value)(base:Heap):Prop:=i7 P w K mg base "check_corner" ["n","thing"] 2 (spD K mg false Bv 2)
abbrev Ys(P:Program)(w:World)(K:Frag)(mg:Str->Option Value)(base:Heap):Prop:=i7 P w K mg base "two_read" ["word"] 2 (spD K mg false Bj 1)
abbrev jv(P:Program)(w:World)(K:Frag)(mg:Str->Option Value)(base:Heap):Prop:=i7 P w K mg base "room_under" ["top","lines"] 2 (spD K mg false P4 2)
abbrev Yr(P:Program)(w:World)(K:Frag)(mg:Str->Option Value)(base:Heap):Prop:=i7 P w K mg base "_law_cut" ["_law_script","_law_start","_law_many"] 2 (spD K mg false M9 3)
abbrev jF(P:Program)(w:World)(K:Frag)(mg:Str->Option Value)(base:Heap):Prop:=i7 P w K mg base "_law_turned" ["_law_cut_here","_law_line"] 2 (spD K mg false N1 2)
abbrev Yq(P:Program)(w:World)(K:Frag)(mg:Str->Option Value)(base:Heap):Prop:=i7 P w K mg base "has_pair" ["cut","p"] 3 (spD K mg false Bi 2)
abbrev ju(P:Program)(w:World)(K:Frag)(mg:Str->Option Value)(base:Heap):Prop:=i7 P w K mg base "check_line" ["cut","p"] 3 (spD K mg false Br 2)
abbrev Jx(P:Program)(w:World)(K:Frag)(mg:Str->Option Value)(base:Heap):Prop:=i7 P w K mg base "rooms" ["n","lines"] 3 (spD K mg true M0 2)
abbrev ja(P:Program)(w:World)(K:Frag)(mg:Str->Option Value)(base:Heap):Prop:=i7 P w K mg base "pair_read" ["word"] 3 (spD K mg false W3 1)
abbrev Xj(P:Program)(w:World)(K:Frag)(mg:Str->Option Value)(base:Heap):Prop:=i7 P w K mg base "part_in" ["room","cut"] 3 (spD K mg false V3 2)
abbrev Zz(P:Program)(w:World)(K:Frag)(mg:Str->Option Value)(base:Heap):Prop:=i7 P w K mg base "_law_over" ["_law_cuts","_law_one","_law_lines"] 3 (spD K mg false W2 3)
abbrev jt(P:Program)(w:World)(K:Frag)(mg:Str->Option Value)(base:Heap):Prop:=i7 P w K mg base "check_pair" ["cut","p"] 4 (spD K mg false Bp 2)
abbrev Fe(P:Program)(w:World)(K:Frag)(mg:Str->Option Value)(base:Heap):Prop:=i7 P w K mg base "triangles" ["cut"] 4 (spD K mg true P1 1)
abbrev Zy(P:Program)(w:World)(K:Frag)(mg:Str->Option Value)(base:Heap):Prop:=i7 P w K mg base "read_deed" ["text"] 4 (spD K mg false W1 1)
abbrev Wa(P:Program)(w:World)(K:Frag)(mg:Str->Option Value)(base:Heap):Prop:=i7 P w K mg base "thirds" ["cut","p"] 5 (spD K mg true U8 2)
abbrev jM(P:Program)(w:World)(K:Frag)(mg:Str->Option Value)(base:Heap):Prop:=i7 P w K mg base "lines_facing" ["cut","corner"] 5 (spD K mg true W6 2)
abbrev Xi(P:Program)(w:World)(K:Frag)(mg:Str->Option Value)(base:Heap):Prop:=i7 P w K mg base "numbers" ["cut"] 5 (spD K mg true M7 1)
abbrev O8(P:Program)(w:World)(K:Frag)(mg:Str->Option Value)(base:Heap):Prop:=i7 P w K mg base "turned" ["cut","line"] 6 (spD K mg false v3 2)
abbrev Vz(P:Program)(w:World)(K:Frag)(mg:Str->Option Value)(base:Heap):Prop:=i7 P w K mg base "to_fan" ["cut","corner"] 7 (spD K mg true O9 2)
abbrev jL(P:Program)(w:World)(K:Frag)(mg:Str->Option Value)(base:Heap):Prop:=i7 P w K mg base "front_behind" ["front","found"] 7 (spW K Bu)
abbrev Zx(P:Program)(w:World)(K:Frag)(mg:Str->Option Value)(base:Heap):Prop:=i7 P w K mg base "back_from" ["cut","way"] 7 (spD K mg true Bm 2)
abbrev Vy(P:Program)(w:World)(K:Frag)(mg:Str->Option Value)(base:Heap):Prop:=i7 P w K mg base "walked" ["cut","deeds"] 8 (spD K mg true C6 2)
abbrev Rb(P:Program)(w:World)(K:Frag)(mg:Str->Option Value)(base:Heap):Prop:=i7 P w K mg base "home" ["cut","deeds"] 8 (spD K mg true T7 2)
abbrev Yp(P:Program)(w:World)(K:Frag)(mg:Str->Option Value)(base:Heap):Prop:=i7 P w K mg base "steps_to" ["cut"] 8 (spD K mg true V9 1)
abbrev Yo(P:Program)(w:World)(K:Frag)(mg:Str->Option Value)(base:Heap):Prop:=i7 P w K mg base "over_fan" ["start","end"] 8 (spD K mg true V8 2)
abbrev Yn(P:Program)(w:World)(K:Frag)(mg:Str->Option Value)(base:Heap):Prop:=i7 P w K mg base "shortest" ["start","end"] 9 (spD K mg true V7 2)
abbrev jE(P:Program)(w:World)(K:Frag)(mg:Str->Option Value)(base:Heap):Prop:=i7 P w K mg base "way_in_room" ["room","one","other"] 10 (spD K mg true W4 3)
abbrev Vx(P:Program)(w:World)(K:Frag)(mg:Str->Option Value)(base:Heap):Prop:=i7 P w K mg base "way_to" ["one","other"] 11 (spD K mg true U7 2)
section
variable {P:Program}{w:World}{K:Frag}{mg:Str->Option Value}{base:Heap}{f:Addr}{fd:FuncData}{u0:Addr}
def zfz(F:Fun K "is_whole" "is_whole" Mh f fd)(T:Txt mg)(Z:Exs K mg u0)  : FnOk P w K mg base (CX1 P w) 1 f fd ["thing"] (spD K mg false P0 1):=
 fnD (k:=0) F zfv rfl rfl fun cdv A outer s H E hr=>
  (d9 (i8 (L0 (N9 rfl T.isinstance GB (qv 0) (O7 (v:=.ty "int") rfl T.int boot_int rfl)) (G9 (Sn (N9 rfl T.isinstance GB (qv 0) (O7 (v:=.ty "bool") rfl T.bool boot_bool rfl)))))))
def xb(F:Fun K "pair" "pair" Ht f fd)(T:Txt mg)(Z:Exs K mg u0)  : FnOk P w K mg base (CX1 P w) 1 f fd ["a","b"] (spD K mg false Z3 2):=
 fnD (k:=0) F xg rfl rfl fun cdv A outer s H E hr=>
  (d9 (i8 (Pi (m5 R4 U1 (qv 0) (qv 1) (i9 _)) (p8 (a9 (qv 0) (a9 (qv 1) c7))) (p8 (a9 (qv 1) (a9 (qv 0) c7))))))
def zj8(F:Fun K "is_side" "is_side" Lm f fd)(T:Txt mg)(Z:Exs K mg u0)  : FnOk P w K mg base (CX1 P w) 1 f fd ["n","p"] (spD K mg false V4 2):=
 fnD (k:=0) F sc_is_side rfl rfl fun cdv A outer s H E hr=>
  (d6 (sA 2 sc_is_side.nd (qI hr (qv 1) d5))
   (d6 (sA 3 sc_is_side.nd (qI hr (qv 1) d5))
   (d6 (o4 (QW.pt (E7 (m5 R4 U1 (qv 2) d5 (i9 _)) (G8 (m5 y7v y40 (qv 3) (qv 0) (i9 _)))))
    (d9 (i8 G1))
    p7)
   (d9 (i8 (Fu (z5 (J1 hr.units) J0 (qv 3) (j6 y0 y8 (qv 2) d5) (i9 _)) (G9 (L0 (z5 (J1 hr.units) J0 (qv 2) d5 (i9 _)) (G9 (z5 (J1 hr.units) J0 (qv 3) (j6 S9 U2 (qv 0) d5) (i9 _)))))))))))
def zg0(F:Fun K "opposite" "opposite" Mf f fd)(T:Txt mg)(Z:Exs K mg u0)  : FnOk P w K mg base (CX1 P w) 1 f fd ["corners","corner"] (spD K mg false Bk 2):=
 fnD (k:=0) F zfx rfl rfl fun cdv A outer s H E hr=>
  (d9 (i8 (y9 M6 M5 rfl T.tuple GW (a9 (QE.wk (G0 (o7 (caps:=["corner"]) (ix:=[1]) rfl rfl) (by decide +kernel) rfl (k6 (qv 0)) (.one fun _ _ _=>(tN hr (qv 0) (qv 1) (i9 _))) (fun _ _ _=>(qv 0)))) c7))))
def zcn(F:Fun K "is_figures" "is_figures" Nd f fd)(T:Txt mg)(Z:Exs K mg u0)  : FnOk P w K mg base (CX1 P w) 1 f fd ["word","most"] (spD K mg false Bt 2):=
 fnD (k:=0) F zck rfl rfl fun cdv A outer s H E hr=>
  (d6 (o4 (D7 (Ph d5 (Us R3 S7 (qL T.len (qv 0)) (Ut R3 S7 (qv 1)))))
    (d9 (i8 G1))
    p7)
   (d6 (o4 (QW.pt (O0 (m5 X9 Ag (qL T.len (qv 0)) d5 (i9 _)) (U0 (tE hr (qI hr (qv 0) d5) L5 (i9 _)))))
    (d9 (i8 G1))
    p7)
   (d9 (i8 (w8 (Pp rfl) Sk rfl T.«all» boot_all (a9 (QE.wk (G0 (o7 (caps:=[]) (ix:=[]) rfl rfl) (by decide +kernel) rfl (y11 (qv 0)) .nil (fun _ _ _=>(z5 y56 y0y (qv 0) L5 (by with_unfolding_all rfl))))) c7))))))
def zej(F:Fun K "two_shown" "two_shown" Mu f fd)(T:Txt mg)(Z:Exs K mg u0)  : FnOk P w K mg base (CX1 P w) 1 f fd ["two"] (spD K mg false Bn 1):=
 fnD (k:=0) F sc_two_shown rfl rfl fun cdv A outer s H E hr=>
  (d6 (sA 1 sc_two_shown.nd (qI hr (qv 0) d5))
   (d6 (sA 2 sc_two_shown.nd (qI hr (qv 0) d5))
   (d9 (i8 (y8i (Jc (kG (qv 1)) (Jc L5 (Jc (kG (qv 2)) y5a))))))))
def z7r(F:Fun K "corner_behind" "corner_behind" Nv f fd)(T:Txt mg)(Z:Exs K mg u0)  : FnOk P w K mg base (CX1 P w) 1 f fd ["corner","top","lines"] (spD K mg false P9 3):=
 fnD (k:=0) F sc_corner_behind rfl rfl fun cdv A outer s H E hr=>
  (d6 (Q4 sc_corner_behind.nd (k:=3) rfl rfl (o7 (caps:=["corner","top"]) (ix:=[0,1]) rfl rfl) (by decide +kernel) rfl (k6 (qv 2)) (.one fun _ _ _=>(QW.pt (O0 (tE hr (qI hr (qv 0) d5) (qv 1) (i9 _)) (O0 (m5 R3 S7 (qI hr (qv 0) d5) (qI hr (qv 2) d5) (i9 _)) (U0 (tN hr (qv 0) (qv 2) (i9 _))))))) (fun _ _ _=>(qI hr (qv 0) d5)))
   (d9 (i8 (vk rfl rfl T.«max» boot_max (qv 3) (j6 y0 y8 (qv 0) d5)))))
def zco(F:Fun K "_law_drawn" "_law_drawn" Nb f fd)(T:Txt mg)(Z:Exs K mg u0)  : FnOk P w K mg base (CX1 P w) 1 f fd ["_law_script","_law_at"] (spD K mg false P5 2):=
 fnD (k:=0) F zcl rfl rfl fun cdv A outer s H E hr=>
  (d9 (i8 (w8 (He rfl) Jm rfl T.sum boot_sum (a9 (QE.wk (y87 yu xO (qv 0) (kL (qv 1)) (kL (j6 y0 y8 (qv 1) d5)))) c7))))
def zcp(F:Fun K "_law_grown" "_law_grown" Na f fd)(T:Txt mg)(Z:Exs K mg u0)  : FnOk P w K mg base (CX1 P w) 1 f fd ["_law_size","_law_lines","_law_at"] (spD K mg true Bs 3):=
 fnD (k:=0) F sc__law_grown rfl rfl fun cdv A outer s H E hr=>
  (d6 (Oo sc__law_grown.nd (k:=3) rfl rfl (o7 (caps:=["_law_at"]) (ix:=[2]) rfl rfl) (by decide +kernel) rfl rfl (k6 (qv 1)) .nil (fun _ _ _=>(p8 (a9 (j6 y0 y8 (qv 0) (y9 Po Sj rfl T.int boot_int (a9 (z5 X9 Ag (qv 0) (qv 2) (i9 _)) c7))) (a9 (j6 y0 y8 (qv 1) (y9 Po Sj rfl T.int boot_int (a9 (z5 X9 Ag (qv 1) (qv 2) (i9 _)) c7))) c7)))))
   (d6 (o4 (tE hr (qv 2) (j6 S9 U2 (qv 0) d5) (i9 _))
    (d9 (F4 CP CY CW E4 F7 E1 (pw 3) (a9 (p8 (a9 d5 (a9 (qv 2) c7))) c7)))
    (d9 (F4 CP CY CW E4 F7 E1 (pw 3) (a9 (p8 (a9 (qv 2) (a9 (j6 y0 y8 (qv 2) d5) c7))) c7))))
   (d9 (i8 (w8 (Ao rfl hr.units) Ax rfl T.sorted boot_sorted (a9 (qv 3) c7))))))
def z9w(F:Fun K "_law_joined" "_law_joined" Nm f fd)(T:Txt mg)(Z:Exs K mg u0)  : FnOk P w K mg base (CX1 P w) 1 f fd ["_law_cut_here","_law_c","_law_end"] (spD K mg false W5 3):=
 fnD (k:=0) F sc__law_joined rfl rfl fun cdv A outer s H E hr=>
  (d6 (sA 3 sc__law_joined.nd (p8 (a9 (w8 (vL rfl) xR rfl T.«min» boot_min (a9 (qv 1) (a9 (qv 2) c7))) (a9 (w8 (vM rfl) xS rfl T.«max» boot_max (a9 (qv 1) (a9 (qv 2) c7))) c7))))
   (d9 (i8 (Fu (z5 (I0 hr.units) D8 (qv 3) (qI hr (qv 0) d5) (by with_unfolding_all rfl)) (Fu (z5 (J1 hr.units) J0 (j6 S9 U2 (qI hr (qv 3) d5) (qI hr (qv 3) d5)) d5 (i9 _)) (G9 (z5 (J1 hr.units) J0 (qv 3) (p8 (a9 d5 (a9 (j6 S9 U2 (qI hr (qv 0) d5) d5) c7))) (i9 _))))))))
def zj9(F:Fun K "is_line" "is_line" Ll f fd)(T:Txt mg)(Z:Exs K mg u0)(aO:Li P w K mg base):FnOk P w K mg base (CX1 P w) 2 f fd ["n","p"] (spD K mg false Be 2):=
 fnD (k:=1) F zj7 rfl rfl fun cdv A outer s H E hr=>
  (d9 (i8 (L0 (y4b d5 (Sm R3 S7 (qI hr (qv 1) d5) (Sm R4 U1 (qI hr (qv 1) d5) (vx R4 U1 (qv 0))))) (G9 (Sn (e9 g7 aO hr rfl (a9 (qv 0) (a9 (qv 1) c7))))))))
def zmk(F:Fun K "is_two" "is_two" Kx f fd)(T:Txt mg)(Z:Exs K mg u0)(aE:Ly P w K mg base):FnOk P w K mg base (CX1 P w) 2 f fd ["thing"] (spD K mg false U9 1):=
 fnD (k:=1) F zmj rfl rfl fun cdv A outer s H E hr=>
  (d9 (i8 (L0 (N9 rfl T.isinstance GB (qv 0) (O7 (v:=.ty "tuple") rfl T.tuple GW rfl)) (L0 (z5 (J1 hr.units) J0 (qL T.len (qv 0)) d5 (i9 _)) (L0 (e9 g7 aE hr rfl (a9 (qI hr (qv 0) d5) c7)) (G9 (e9 g7 aE hr rfl (a9 (qI hr (qv 0) d5) c7))))))))
def z9j(F:Fun K "check_corner" "check_corner" Nq f fd)(T:Txt mg)(Z:Exs K mg u0)(aE:Ly P w K mg base):FnOk P w K mg base (CX1 P w) 2 f fd ["n","thing"] (spD K mg false Bv 2):=
 fnD (k:=1) F z9c rfl rfl fun cdv A outer s H E hr=>
  (d9 (o4 (QW.pt (E7 (D7 (C2 (e9 g7 aE hr rfl (a9 (qv 1) c7)))) (G8 (D7 (Ph d5 (Us R3 S7 (qv 1) (Ut R4 U1 (qv 0))))))))
   (d9 M1)
   p7))
def zg1(F:Fun K "two_read" "two_read" Me f fd)(T:Txt mg)(Z:Exs K mg u0)(br:jx P w K mg base):FnOk P w K mg base (CX1 P w) 2 f fd ["word"] (spD K mg false Bj 1):=
 fnD (k:=1) F sc_two_read rfl rfl fun cdv A outer s H E hr=>
  (d6 (sA 1 sc_two_read.nd (kH PySem.F.slot_str_split PySem.F.type_str_split Wl Wj (qv 0) (a9 L5 c7)))
   (d6 (o4 (QW.pt (E7 (tN hr (qL T.len (qv 1)) d5 (i9 _)) (G8 (D7 (C2 (w8 (Pp rfl) Sk rfl T.«all» boot_all (a9 (QE.wk (G0 (o7 (caps:=[]) (ix:=[]) rfl rfl) (by decide +kernel) rfl (k6 (qv 1)) .nil (fun _ _ _=>(e9 G2 br hr rfl (a9 (qv 0) (a9 d5 c7)))))) c7)))))))
    (d9 (i8 Gz))
    p7)
   (d9 (i8 (p8 (a9 (y9 Ry Ug rfl T.int boot_int (a9 (qI hr (qv 1) d5) c7)) (a9 (y9 Ry Ug rfl T.int boot_int (a9 (qI hr (qv 1) d5) c7)) c7)))))))
def zcq(F:Fun K "room_under" "room_under" Nc f fd)(T:Txt mg)(Z:Exs K mg u0)(aN:jS P w K mg base):FnOk P w K mg base (CX1 P w) 2 f fd ["top","lines"] (spD K mg false P4 2):=
 fnD (k:=1) F sc_room_under rfl rfl fun cdv A outer s H E hr=>
  (d6 (sA 2 sc_room_under.nd (u7 (a9 (qI hr (qv 0) d5) c7)))
   (d6 (Eb (n:=1000) CV (m5 R4 U1 (qI hr (qv 2) (X4 Y7 Af d5)) (qI hr (qv 0) d5) (i9 _))
    (d9 (F4 CP CY CW E4 F7 E1 (pw 2) (a9 (e9 g7 aN hr rfl (a9 (qI hr (qv 2) (X4 Y7 Af d5)) (a9 (qv 0) (a9 (qv 1) c7)))) c7))))
   (d9 (i8 (y9 M6 M5 rfl T.tuple GW (a9 (qv 2) c7))))))
def z73(F:Fun K "shown" "TurnLine.shown" Oc f fd)(T:Txt mg)(Z:Exs K mg u0)(bM:jb P w K mg base):FnOk P w K mg base (CX1 P w) 2 f fd ["self"] (spD K mg false W8 1):=
 fnD (k:=1) F z71 rfl rfl fun cdv A outer s H E hr=>
  (d9 (i8 (j6 y0x xw L5 (e9 g7 bM hr rfl (a9 (Je (f:="line") (qv 0) Z.fl_line) c7)))))
def zg2(F:Fun K "_law_cut" "_law_cut" Lz f fd)(T:Txt mg)(Z:Exs K mg u0)(aD:Mz P w K mg base)(bu:jw P w K mg base):FnOk P w K mg base (CX1 P w) 2 f fd ["_law_script","_law_start","_law_many"] (spD K mg false M9 3):=
 fnD (k:=1) F sc__law_cut rfl rfl fun cdv A outer s H E hr=>
  (d6 (sA 3 sc__law_cut.nd (u7 c7))
   (d6 (G7 CV rfl (kK rfl T.range (a9 (qv 2) c7)) (g_n (i:=4) sc__law_cut.nd rfl (Or.inl rfl))
    (d9 (sA 3 sc__law_cut.nd (e9 g7 bu hr rfl (a9 (j6 y0 y8 d5 (qv 4)) (a9 (qv 3) (a9 (j6 Py Sq (e9 g7 aD hr rfl (a9 (qv 0) (a9 (j6 y0 y8 (qv 1) (qv 4)) c7))) (j6 y0 y8 d5 (qv 4))) c7)))))))
   (d9 (i8 (p8 (a9 (j6 y0 y8 d5 (qv 2)) (a9 (y9 M6 M5 rfl T.tuple GW (a9 (qv 3) c7)) c7)))))))
def z9x(F:Fun K "_law_turned" "_law_turned" Nl f fd)(T:Txt mg)(Z:Exs K mg u0)(aK:jG P w K mg base):FnOk P w K mg base (CX1 P w) 2 f fd ["_law_cut_here","_law_line"] (spD K mg false N1 2):=
 fnD (k:=1) F sc__law_turned rfl rfl fun cdv A outer s H E hr=>
  (d6 (sA 2 sc__law_turned.nd (u7 c7))
   (d6 (G7 CV rfl (kK rfl T.range (a9 (qI hr (qv 0) d5) c7)) (g_n (i:=3) sc__law_turned.nd rfl (Or.inl rfl))
    (d9 (o4 (QW.pt (O0 (C2 (e9 g7 aK hr rfl (a9 (qv 0) (a9 (qv 3) (a9 (qI hr (qv 1) d5) c7))))) (U0 (C2 (e9 g7 aK hr rfl (a9 (qv 0) (a9 (qv 3) (a9 (qI hr (qv 1) d5) c7))))))))
    (d9 (F4 CP CY CW E4 F7 E1 (pw 2) (a9 (qv 3) c7)))
    p7)))
   (d9 (i8 (p8 (a9 (qI hr (qv 0) d5) (a9 (y9 M6 M5 rfl T.tuple GW (a9 (QE.wk (w8 (Ao rfl hr.units) Ax rfl T.sorted boot_sorted (a9 (QE.wk (j6 Dq Dk (QE.wk (G0 (o7 (caps:=["_law_line"]) (ix:=[1]) rfl rfl) (by decide +kernel) rfl (k6 (qI hr (qv 0) d5)) (.one fun _ _ _=>(tN hr (qv 0) (qv 1) (i9 _))) (fun _ _ _=>(qv 0)))) (QE.wk (u7 (a9 (y9 M6 M5 rfl T.tuple GW (a9 (qv 2) c7)) c7))))) c7))) c7)) c7)))))))
def zg3(F:Fun K "has_pair" "has_pair" Mg f fd)(T:Txt mg)(Z:Exs K mg u0)(aO:Li P w K mg base)(aZ:Ks P w K mg base):FnOk P w K mg base (CX1 P w) 3 f fd ["cut","p"] (spD K mg false Bi 2):=
 fnD (k:=2) F zfw rfl rfl fun cdv A outer s H E hr=>
  (d9 (i8 (L0 (e9 g7 aZ hr rfl (a9 (qv 1) c7)) (G9 (Fu (e9 g7 aO hr rfl (a9 (qI hr (qv 0) d5) (a9 (qv 1) c7))) (G9 (z5 (I0 hr.units) D8 (qv 1) (qI hr (qv 0) d5) (by with_unfolding_all rfl))))))))
def zcr(F:Fun K "check_line" "check_line" Ng f fd)(T:Txt mg)(Z:Exs K mg u0)(aZ:Ks P w K mg base):FnOk P w K mg base (CX1 P w) 3 f fd ["cut","p"] (spD K mg false Br 2):=
 fnD (k:=2) F zci rfl rfl fun cdv A outer s H E hr=>
  (d9 (o4 (QW.pt (E7 (D7 (C2 (e9 g7 aZ hr rfl (a9 (qv 1) c7)))) (G8 (m5 (Wr hr.units) D8 (qv 1) (qI hr (qv 0) d5) (by with_unfolding_all rfl)))))
   (d9 M1)
   p7))
def zg(F:Fun K "rooms" "rooms" Jy f fd)(T:Txt mg)(Z:Exs K mg u0)(bv:jv P w K mg base):FnOk P w K mg base (CX1 P w) 3 f fd ["n","lines"] (spD K mg true M0 2):=
 fnD (k:=2) F sc_rooms rfl rfl fun cdv A outer s H E hr=>
  (d6 (sA 2 sc_rooms.nd (j6 Dq Dk (QE.wk (u7 (a9 (p8 (a9 d5 (a9 (j6 S9 U2 (qv 0) d5) c7))) c7))) (QE.wk (y9 xQ xP rfl T.list boot_list (a9 (qv 1) c7)))))
   (d9 (i8 (w8 (Ao rfl hr.units) Ax rfl T.sorted boot_sorted (a9 (QE.wk (G0 (o7 (caps:=["lines"]) (ix:=[1]) rfl rfl) (by decide +kernel) rfl (k6 (qv 2)) .nil (fun _ _ _=>(e9 G2 bv hr rfl (a9 (qv 0) (a9 (qv 1) c7)))))) c7)))))
def zek(F:Fun K "pair_read" "pair_read" Mq f fd)(T:Txt mg)(Z:Exs K mg u0)(dQ:Rc P w K mg base)(bV:Ys P w K mg base):FnOk P w K mg base (CX1 P w) 3 f fd ["word"] (spD K mg false W3 1):=
 fnD (k:=2) F sc_pair_read rfl rfl fun cdv A outer s H E hr=>
  (d6 (sA 1 sc_pair_read.nd (e9 g7 bV hr rfl (a9 (qv 0) c7)))
   (d6 (o4 (QW.pt (E7 (m5 wf vn (qv 1) Gz (i9 _)) (G8 (tE hr (qI hr (qv 1) d5) (qI hr (qv 1) d5) (i9 _)))))
    (d9 M1)
    p7)
   (d9 (i8 (e9 g7 dQ hr rfl (a9 (qI hr (qv 1) d5) (a9 (qI hr (qv 1) d5) c7)))))))
def zja(F:Fun K "part_in" "part_in" Lj f fd)(T:Txt mg)(Z:Exs K mg u0)(cw:Xk P w K mg base):FnOk P w K mg base (CX1 P w) 3 f fd ["room","cut"] (spD K mg false V3 2):=
 fnD (k:=2) F sc_part_in rfl rfl fun cdv A outer s H E hr=>
  (d6 (Oo sc_part_in.nd (k:=2) rfl rfl (o7 (caps:=["room"]) (ix:=[0]) rfl rfl) (by decide +kernel) rfl rfl (k6 (qI hr (qv 1) d5)) (.one fun _ _ _=>(QW.pt (O0 (m5 (I0 hr.units) D8 (qv 0) (qv 2) (by with_unfolding_all rfl)) (U0 (m5 (I0 hr.units) D8 (qv 1) (qv 2) (by with_unfolding_all rfl)))))) (fun _ _ _=>(p8 (a9 (qV (qv 2) (qv 0)) (a9 (qV (qv 2) (qv 1)) c7)))))
   (d9 (i8 (p8 (a9 (qL T.len (qv 0)) (a9 (y9 M6 M5 rfl T.tuple GW (a9 (QE.wk (G0 (o7 (caps:=["room"]) (ix:=[0]) rfl rfl) (by decide +kernel) rfl (k6 (qv 2)) (.one fun _ _ _=>(C2 (e9 G2 cw hr rfl (a9 (qL T.len (qv 1)) (a9 (qv 0) c7))))) (fun _ _ _=>(qv 0)))) c7)) c7))))))
def zel(F:Fun K "_law_over" "_law_over" Mo f fd)(T:Txt mg)(Z:Exs K mg u0)(bb:jF P w K mg base):FnOk P w K mg base (CX1 P w) 3 f fd ["_law_cuts","_law_one","_law_lines"] (spD K mg false W2 3):=
 fnD (k:=2) F sc__law_over rfl rfl fun cdv A outer s H E hr=>
  (d6 (o4 (QW.pt (E7 (D7 (C2 (N9 rfl T.isinstance GB (qv 0) (O7 (v:=.ty "list") rfl T.list boot_list rfl)))) (E7 (tN hr (qL T.len (qv 0)) (j6 y0 y8 (qL T.len (qv 2)) d5) (i9 _)) (G8 (tN hr (qI hr (qv 0) d5) (qv 1) (i9 _))))))
    (d9 (i8 G1))
    p7)
   (d6 (G7 CV rfl (y88 rfl T.enumerate (a9 (qv 2) c7)) (g_t rfl (Uq (i:=3) sc__law_over.nd rfl (Or.inl rfl) (Uq (i:=4) sc__law_over.nd rfl (Or.inl rfl) vt)))
    (d9 (o4 (QW.pt (E7 (m5 (Wr hr.units) D8 (qv 4) (qI hr (qI hr (qv 0) (qv 3)) d5) (by with_unfolding_all rfl)) (G8 (tN hr (qI hr (qv 0) (j6 y0 y8 (qv 3) d5)) (e9 g7 bb hr rfl (a9 (qI hr (qv 0) (qv 3)) (a9 (qv 4) c7))) (i9 _)))))
    (d9 (i8 G1))
    p7)))
   (d9 (i8 G1))))
def zcs(F:Fun K "check_pair" "check_pair" Nf f fd)(T:Txt mg)(Z:Exs K mg u0)(bW:Yq P w K mg base):FnOk P w K mg base (CX1 P w) 4 f fd ["cut","p"] (spD K mg false Bp 2):=
 fnD (k:=3) F zcj rfl rfl fun cdv A outer s H E hr=>
  (d9 (o4 (D7 (C2 (e9 g7 bW hr rfl (a9 (qv 0) (a9 (qv 1) c7)))))
   (d9 M1)
   p7))
def zem(F:Fun K "triangles" "triangles" Mt f fd)(T:Txt mg)(Z:Exs K mg u0)(bJ:Jx P w K mg base):FnOk P w K mg base (CX1 P w) 4 f fd ["cut"] (spD K mg true P1 1):=
 fnD (k:=3) F zef rfl rfl fun cdv A outer s H E hr=>
  (d9 (i8 (e9 g7 bJ hr rfl (a9 (qI hr (qv 0) d5) (a9 (qI hr (qv 0) d5) c7)))))
def zen(F:Fun K "read_deed" "read_deed" Mr f fd)(T:Txt mg)(Z:Exs K mg u0)(bN:ja P w K mg base)(aw:MkO P w K mg base "TurnLine" u0 ["line"] 1):FnOk P w K mg base (CX1 P w) 4 f fd ["text"] (spD K mg false W1 1):=
 fnD (k:=3) F sc_read_deed rfl rfl fun cdv A outer s H E hr=>
  (d6 (o4 (D7 (C2 (N9 rfl T.isinstance GB (qv 0) (O7 (v:=.ty "str") rfl T.str boot_str rfl))))
    (d9 M1)
    p7)
   (d6 (sA 1 sc_read_deed.nd (kH PySem.F.slot_str_split PySem.F.type_str_split Wl Wj (qv 0) (a9 L5 c7)))
   (d6 (o4 (tE hr (qv 1) (QE.wk (u7 (a9 L5 c7))) (i9 _))
    (d9 (i8 (QE.wk xn)))
    p7)
   (d6 (o4 (QW.pt (O0 (tE hr (qL T.len (qv 1)) d5 (i9 _)) (U0 (tE hr (qI hr (qv 1) d5) L5 (i9 _)))))
    (d9 (i8 (Jd (c:="TurnLine") g7 aw hr rfl Z.a_TurnLine (a9 (e9 g7 bN hr rfl (a9 (qI hr (qv 1) d5) c7)) c7))))
    p7)
   (d6 M1
   (d9 M1))))))
def zml(F:Fun K "thirds" "thirds" Kw f fd)(T:Txt mg)(Z:Exs K mg u0)(bw:jt P w K mg base)(au:Fe P w K mg base):FnOk P w K mg base (CX1 P w) 5 f fd ["cut","p"] (spD K mg true U8 2):=
 fnD (k:=4) F sc_thirds rfl rfl fun cdv A outer s H E hr=>
  (d6 (Jl (e9 g7 bw hr rfl (a9 (qv 0) (a9 (qv 1) c7))))
   (d6 (Q4 sc_thirds.nd (k:=2) rfl rfl (o7 (caps:=["p"]) (ix:=[1]) rfl rfl) (by decide +kernel) rfl (k6 (QE.wk (e9 g7 au hr rfl (a9 (qv 0) c7)))) (.one fun _ _ _=>(QW.pt (O0 (m5 (I0 hr.units) D8 (qI hr (qv 1) d5) (qv 0) (by with_unfolding_all rfl)) (U0 (m5 (I0 hr.units) D8 (qI hr (qv 1) d5) (qv 0) (by with_unfolding_all rfl)))))) (fun _ _ _=>(qv 0)))
   (d9 (i8 (w8 (Ao rfl hr.units) Ax rfl T.sorted boot_sorted (a9 (QE.wk (G0 (o7 (caps:=["p"]) (ix:=[1]) rfl rfl) (by decide +kernel) rfl (k6 (qv 2)) .nil (fun _ _ _=>(j6 S9 U2 (w8 (He rfl) Jm rfl T.sum boot_sum (a9 (qv 0) c7)) (w8 (He rfl) Jm rfl T.sum boot_sum (a9 (qv 1) c7)))))) c7))))))
def z9k(F:Fun K "lines_facing" "lines_facing" Np f fd)(T:Txt mg)(Z:Exs K mg u0)(bX:Yt P w K mg base)(au:Fe P w K mg base):FnOk P w K mg base (CX1 P w) 5 f fd ["cut","corner"] (spD K mg true W6 2):=
 fnD (k:=4) F sc_lines_facing rfl rfl fun cdv A outer s H E hr=>
  (d6 (Q4 sc_lines_facing.nd (k:=2) rfl rfl (o7 (caps:=["corner"]) (ix:=[1]) rfl rfl) (by decide +kernel) rfl (k6 (QE.wk (e9 g7 au hr rfl (a9 (qv 0) c7)))) (.one fun _ _ _=>(m5 (I0 hr.units) D8 (qv 1) (qv 0) (by with_unfolding_all rfl))) (fun _ _ _=>(e9 G2 bX hr rfl (a9 (qv 0) (a9 (qv 1) c7)))))
   (d9 (i8 (G0 (o7 (caps:=["cut"]) (ix:=[0]) rfl rfl) (by decide +kernel) rfl (k6 (qv 2)) (.one fun _ _ _=>(m5 (I0 hr.units) D8 (qv 0) (qI hr (qv 1) d5) (by with_unfolding_all rfl))) (fun _ _ _=>(qv 0))))))
def zjb(F:Fun K "numbers" "numbers" Lk f fd)(T:Txt mg)(Z:Exs K mg u0)(au:Fe P w K mg base):FnOk P w K mg base (CX1 P w) 5 f fd ["cut"] (spD K mg true M7 1):=
 fnD (k:=4) F sc_numbers rfl rfl fun cdv A outer s H E hr=>
  (d6 (sA 1 sc_numbers.nd (j6 vV vA (QE.wk (u7 (a9 d5 c7))) (qI hr (qv 0) d5)))
   (d6 (G7 CV rfl (k6 (QE.wk (e9 g7 au hr rfl (a9 (qv 0) c7)))) (g_n (i:=2) sc_numbers.nd rfl (Or.inl rfl))
    (d9 (G7 CV rfl (k6 (qv 2)) (g_n (i:=3) sc_numbers.nd rfl (Or.inl rfl))
    (d9 (y4h (g:=fun a b=>a+b) wj (pw 1) (qv 3) d5)))))
   (d9 (T9 (i:=1)))))
def zmm(F:Fun K "turned" "turned" Kv f fd)(T:Txt mg)(Z:Exs K mg u0)(bz:ju P w K mg base)(cM:Wa P w K mg base):FnOk P w K mg base (CX1 P w) 6 f fd ["cut","line"] (spD K mg false v3 2):=
 fnD (k:=5) F sc_turned rfl rfl fun cdv A outer s H E hr=>
  (d6 (Jl (e9 g7 bz hr rfl (a9 (qv 0) (a9 (qv 1) c7))))
   (d6 (sA 2 sc_turned.nd (y9 M6 M5 rfl T.tuple GW (a9 (QE.wk (e9 g7 cM hr rfl (a9 (qv 0) (a9 (qv 1) c7)))) c7)))
   (d6 (Q4 sc_turned.nd (k:=3) rfl rfl (o7 (caps:=["line"]) (ix:=[1]) rfl rfl) (by decide +kernel) rfl (k6 (qI hr (qv 0) d5)) (.one fun _ _ _=>(tN hr (qv 0) (qv 1) (i9 _))) (fun _ _ _=>(qv 0)))
   (d9 (i8 (p8 (a9 (p8 (a9 (qI hr (qv 0) d5) (a9 (y9 M6 M5 rfl T.tuple GW (a9 (QE.wk (w8 (Ao rfl hr.units) Ax rfl T.sorted boot_sorted (a9 (QE.wk (j6 Dq Dk (qv 3) (QE.wk (u7 (a9 (qv 2) c7))))) c7))) c7)) c7))) (a9 (qv 2) c7))))))))
def z7s(F:Fun K "done" "TurnLine.done" Nu f fd)(T:Txt mg)(Z:Exs K mg u0)(ak:O8 P w K mg base):FnOk P w K mg base (CX1 P w) 7 f fd ["self","cut"] (spD K mg false P8 2):=
 fnD (k:=6) F z7p rfl rfl fun cdv A outer s H E hr=>
  (d9 (i8 (qI hr (e9 g7 ak hr rfl (a9 (qv 1) (a9 (Je (f:="line") (qv 0) Z.fl_line) c7))) d5)))
def z7t(F:Fun K "back" "TurnLine.back" Nt f fd)(T:Txt mg)(Z:Exs K mg u0)(ak:O8 P w K mg base)(aw:MkO P w K mg base "TurnLine" u0 ["line"] 1):FnOk P w K mg base (CX1 P w) 7 f fd ["self","cut"] (spD K mg false W7 2):=
 fnD (k:=6) F z7q rfl rfl fun cdv A outer s H E hr=>
  (d9 (i8 (Jd (c:="TurnLine") g7 aw hr rfl Z.a_TurnLine (a9 (qI hr (e9 g7 ak hr rfl (a9 (qv 1) (a9 (Je (f:="line") (qv 0) Z.fl_line) c7))) d5) c7))))
def zmn(F:FunD K "to_fan" "to_fan" Ku dV f fd)(T:Txt mg)(Z:Exs K mg u0)(aS:jN P w K mg base)(aJ:jM P w K mg base)(ak:O8 P w K mg base):FnOk P w K mg base (CX1 P w) 7 f fd ["cut","corner"] (spD K mg true O9 2):=
 y8f (k:=6) F sc_to_fan rfl rfl fun cdv A outer s H E hr=>
  (d6 (Jl (e9 g7 aS hr rfl (a9 (qI hr (qv 0) d5) (a9 (qv 1) c7))))
   (d6 (sA 2 sc_to_fan.nd (u7 c7))
   (d6 (sA 3 sc_to_fan.nd (qv 0))
   (d6 (sA 4 sc_to_fan.nd (e9 g7 aJ hr rfl (a9 (qv 3) (a9 (qv 1) c7))))
   (d6 (Eb (n:=1000) CV (m5 X9 Ag (qL T.len (qv 4)) d5 (i9 _))
    (d6 (F4 CP CY CW E4 F7 E1 (pw 2) (a9 (qI hr (qv 4) d5) c7))
   (d6 (sA 3 sc_to_fan.nd (qI hr (e9 g7 ak hr rfl (a9 (qv 3) (a9 (qI hr (qv 4) d5) c7))) d5))
   (d9 (sA 4 sc_to_fan.nd (e9 g7 aJ hr rfl (a9 (qv 3) (a9 (qv 1) c7))))))))
   (d9 (T9 (i:=2))))))))
def z9l(F:Fun K "front_behind" "front_behind" No f fd)(T:Txt mg)(Z:Exs K mg u0)(ak:O8 P w K mg base):FnOk P w K mg base (CX1 P w) 7 f fd ["front","found"] (spW K Bu):=
 fnW (k:=6) F sc_front_behind rfl rfl (by decide) fun cdv A outer s H E hr=>
  (Rs (qZ (i:=2) (by decide) sc_front_behind.nd rfl (Or.inl rfl) (u7 c7))
   (Rs (qY CV rfl (k6 (qv 0)) (kB (i:=3) (by decide) sc_front_behind.nd rfl (Or.inl rfl))
    (Jb (qY CV rfl (k6 (qI hr (qv 3) d5)) (kB (i:=4) (by decide) sc_front_behind.nd rfl (Or.inl rfl))
    (Ue (qZ (i:=5) (by decide) sc_front_behind.nd rfl (Or.inl rfl) (e9 G2 ak hr rfl (a9 (qv 3) (a9 (qv 4) c7))))
   (Jb (y8k (m5 (zk hr.units) y1d (qI hr (qv 5) d5) (qv 1) (by with_unfolding_all rfl))
    (Ue (y19 hr.units (pw 1) (qI hr (qv 5) d5) (p8 (a9 (j6 y0 y8 (qI hr (Op (qX hr.units) Rr (qv 1) (qv 3)) d5) d5) (a9 (qI hr (qv 5) d5) c7))))
   (Jb (y5f CP CY CW E4 F7 E1 (pw 2) (a9 (qI hr (qv 5) d5) c7))))
    y17))))))
   (y5h (i:=2))))
def zeo(F:Fun K "back_from" "back_from" Mp f fd)(T:Txt mg)(Z:Exs K mg u0)(ak:O8 P w K mg base):FnOk P w K mg base (CX1 P w) 7 f fd ["cut","way"] (spD K mg true Bm 2):=
 fnD (k:=6) F sc_back_from rfl rfl fun cdv A outer s H E hr=>
  (d6 (sA 2 sc_back_from.nd (u7 c7))
   (d6 (sA 3 sc_back_from.nd (qv 0))
   (d6 (G7 CV rfl (k6 (qv 1)) (g_n (i:=4) sc_back_from.nd rfl (Or.inl rfl))
    (d6 (sA 5 sc_back_from.nd (e9 g7 ak hr rfl (a9 (qv 3) (a9 (qv 4) c7))))
   (d6 (F4 CP CY CW E4 F7 E1 (pw 2) (a9 (qI hr (qv 5) d5) c7))
   (d9 (sA 3 sc_back_from.nd (qI hr (qv 5) d5))))))
   (d9 (i8 (Gu rfl rfl T.list rfl T.reversed (qv 2)))))))
def zmo(F:Fun K "walked" "walked" Ky f fd)(T:Txt mg)(Z:Exs K mg u0)  (cq:Mths P w K mg base "done" 7 2 An):FnOk P w K mg base (CX1 P w) 8 f fd ["cut","deeds"] (spD K mg true C6 2):=
 fnD (k:=7) F sc_walked rfl rfl fun cdv A outer s H E hr=>
  (d6 (sA 2 sc_walked.nd (u7 (a9 (qv 0) c7)))
   (d6 (G7 CV rfl (k6 (qv 1)) (g_n (i:=3) sc_walked.nd rfl (Or.inl rfl))
    (d9 (F4 CP CY CW E4 F7 E1 (pw 2) (a9 (Jf g7 cq hr (qv 3) (a9 (qI hr (qv 2) (X4 Y7 Af d5)) c7)) c7))))
   (d9 (T9 (i:=2)))))
def wZ(F:Fun K "home" "home" Hu f fd)(T:Txt mg)(Z:Exs K mg u0)  (dR:Mths P w K mg base "back" 7 2 Jz)  (cq:Mths P w K mg base "done" 7 2 An):FnOk P w K mg base (CX1 P w) 8 f fd ["cut","deeds"] (spD K mg true T7 2):=
 fnD (k:=7) F sc_home rfl rfl fun cdv A outer s H E hr=>
  (d6 (sA 2 sc_home.nd (u7 c7))
   (d6 (sA 3 sc_home.nd (qv 0))
   (d6 (G7 CV rfl (k6 (qv 1)) (g_n (i:=4) sc_home.nd rfl (Or.inl rfl))
    (d6 (F4 CP CY CW E4 F7 E1 (pw 2) (a9 (Jf g7 dR hr (qv 4) (a9 (qv 3) c7)) c7))
   (d9 (sA 3 sc_home.nd (Jf g7 cq hr (qv 4) (a9 (qv 3) c7))))))
   (d9 (i8 (Gu rfl rfl T.list rfl T.reversed (qv 2)))))))
def zg4(F:Fun K "steps_to" "steps_to" Mc f fd)(T:Txt mg)(Z:Exs K mg u0)(aT:jL P w K mg base):FnOk P w K mg base (CX1 P w) 8 f fd ["cut"] (spD K mg true V9 1):=
 fnD (k:=7) F sc_steps_to rfl rfl fun cdv A outer s H E hr=>
  (d6 (sA 1 sc_steps_to.nd (xl hr.units (qv 0) (p8 (a9 d5 (a9 Gz c7)))))
   (d6 (sA 2 sc_steps_to.nd (u7 (a9 (qv 0) c7)))
   (d6 (Eb (n:=100000) CV (m5 X9 Ag (qL T.len (qv 2)) d5 (i9 _))
    (d9 (y5j (i:=2) (j:=1) sc_steps_to.nd rfl (Or.inl rfl) aT hr rfl (qv 2) (pw 1))))
   (d9 (T9 (i:=1))))))
def zg5(F:Fun K "over_fan" "over_fan" Ma f fd)(T:Txt mg)(Z:Exs K mg u0)(bO:Zx P w K mg base)(bR:Xi P w K mg base)(ck:Vz P w K mg base):FnOk P w K mg base (CX1 P w) 8 f fd ["start","end"] (spD K mg true V8 2):=
 fnD (k:=7) F sc_over_fan rfl rfl fun cdv A outer s H E hr=>
  (d6 (Oo sc_over_fan.nd (k:=2) rfl rfl (o7 (caps:=[]) (ix:=[]) rfl rfl) (by decide +kernel) rfl rfl (y89 rfl T.zip (a9 (QE.wk (e9 g7 bR hr rfl (a9 (qv 0) c7))) (a9 (QE.wk (e9 g7 bR hr rfl (a9 (qv 1) c7))) c7))) .nil (fun _ _ _=>(j6 y0 y8 (qv 0) (qv 1))))
   (d6 (sA 3 sc_over_fan.nd (xC (qv 2) (w8 (vm rfl) xN rfl T.«max» boot_max (a9 (qv 2) c7))))
   (d9 (i8 (j6 Dq Dk (QE.wk (e9 g7 ck hr rfl (a9 (qv 0) (a9 (qv 3) c7)))) (QE.wk (e9 g7 bO hr rfl (a9 (qv 1) (a9 (QE.wk (e9 g7 ck hr rfl (a9 (qv 1) (a9 (qv 3) c7)))) c7)))))))))
def zg6(F:Fun K "shortest" "shortest" Mb f fd)(T:Txt mg)(Z:Exs K mg u0)(bY:Yp P w K mg base)(ak:O8 P w K mg base):FnOk P w K mg base (CX1 P w) 9 f fd ["start","end"] (spD K mg true V7 2):=
 fnD (k:=8) F sc_shortest rfl rfl fun cdv A outer s H E hr=>
  (d6 (sA 2 sc_shortest.nd (e9 g7 bY hr rfl (a9 (qv 1) c7)))
   (d6 (sA 3 sc_shortest.nd (u7 c7))
   (d6 (sA 4 sc_shortest.nd (qv 0))
   (d6 (Eb (n:=1000) CV (tN hr (qv 4) (qv 1) (i9 _))
    (d6 (F4 CP CY CW E4 F7 E1 (pw 3) (a9 (qI hr (Op (qX hr.units) Rr (qv 2) (qv 4)) d5) c7))
   (d9 (sA 4 sc_shortest.nd (qI hr (e9 g7 ak hr rfl (a9 (qv 4) (a9 (qI hr (qv 3) (X4 Y7 Af d5)) c7))) d5)))))
   (d9 (T9 (i:=3)))))))
def z9y(F:Fun K "way_in_room" "way_in_room" Nn f fd)(T:Txt mg)(Z:Exs K mg u0)(bZ:Yo P w K mg base)(bS:Xj P w K mg base)(ca:Yn P w K mg base):FnOk P w K mg base (CX1 P w) 10 f fd ["room","one","other"] (spD K mg true W4 3):=
 fnD (k:=9) F sc_way_in_room rfl rfl fun cdv A outer s H E hr=>
  (d6 (sA 3 sc_way_in_room.nd (e9 g7 bS hr rfl (a9 (qv 0) (a9 (qv 1) c7))))
   (d6 (sA 4 sc_way_in_room.nd (e9 g7 bS hr rfl (a9 (qv 0) (a9 (qv 2) c7))))
   (d6 (sA 5 sc_way_in_room.nd (Pi (m5 R3 S7 (qL T.len (qv 0)) d5 (i9 _)) (QE.wk (e9 g7 ca hr rfl (a9 (qv 3) (a9 (qv 4) c7)))) (QE.wk (e9 g7 bZ hr rfl (a9 (qv 3) (a9 (qv 4) c7))))))
   (d9 (i8 (y8a (o7 (caps:=["room"]) (ix:=[0]) rfl rfl) (by decide +kernel) rfl rfl (k6 (qv 5)) .nil (fun _ _ _=>(p8 (a9 (qI hr (qv 2) (qv 0)) (a9 (qI hr (qv 2) (qv 1)) c7))))))))))
def zmp(F:Fun K "way_to" "way_to" Kt f fd)(T:Txt mg)(Z:Exs K mg u0)(bJ:Jx P w K mg base)(bc:jE P w K mg base):FnOk P w K mg base (CX1 P w) 11 f fd ["one","other"] (spD K mg true U7 2):=
 fnD (k:=10) F sc_way_to rfl rfl fun cdv A outer s H E hr=>
  (d6 (o4 (tN hr (qI hr (qv 0) d5) (qI hr (qv 1) d5) (i9 _))
    (d9 M1)
    p7)
   (d6 (Q4 sc_way_to.nd (k:=2) rfl rfl (o7 (caps:=["other"]) (ix:=[1]) rfl rfl) (by decide +kernel) rfl (k6 (qI hr (qv 0) d5)) (.one fun _ _ _=>(m5 (I0 hr.units) D8 (qv 0) (qI hr (qv 1) d5) (by with_unfolding_all rfl))) (fun _ _ _=>(qv 0)))
   (d6 (sA 3 sc_way_to.nd (u7 c7))
   (d6 (G7 CV rfl (k6 (QE.wk (e9 g7 bJ hr rfl (a9 (qI hr (qv 0) d5) (a9 (qv 2) c7))))) (g_n (i:=4) sc_way_to.nd rfl (Or.inl rfl))
    (d9 (F4 CP PySem.F.slot_list_extend PySem.F.type_list_extend zk3 vo E1 (pw 3) (a9 (QE.wk (e9 g7 bc hr rfl (a9 (qv 4) (a9 (qv 0) (a9 (qv 1) c7))))) c7))))
   (d9 (T9 (i:=3)))))))
def y1q(F:Fun K "law" "law" Gr f fd)(T:Txt mg)(Z:Exs K mg u0)(bj:Yr P w K mg base)(aD:Mz P w K mg base)(bP:Zz P w K mg base)(dS:Rb P w K mg base)(bQ:Zy P w K mg base)(ba:Vy P w K mg base)(cN:Vx P w K mg base)(dj:Mths P w K mg base "shown" 2 1 Em)(aw:MkO P w K mg base "TurnLine" u0 ["line"] 1):FnOk P w K mg base (CX1 P w) 12 f fd ["_law_script"] (spD K mg false R8 1):=
 fnD (k:=11) F sc_law rfl rfl fun cdv A outer s H E hr=>
  (d6 (sA 1 sc_law.nd (j6 Py Sq (e9 g7 aD hr rfl (a9 (qv 0) (a9 d5 c7))) d5))
   (d6 (sA 2 sc_law.nd (e9 g7 bj hr rfl (a9 (qv 0) (a9 d5 (a9 (qv 1) c7)))))
   (d6 (sA 3 sc_law.nd (e9 g7 bj hr rfl (a9 (qv 0) (a9 d5 (a9 (qv 1) c7)))))
   (d6 (sA 4 sc_law.nd (e9 g7 cN hr rfl (a9 (qv 2) (a9 (qv 3) c7))))
   (d6 (o4 (D7 (C2 (N9 rfl T.isinstance GB (qv 4) (O7 (v:=.ty "list") rfl T.list boot_list rfl))))
    (d9 (i8 G1))
    p7)
   (d6 (Q4 sc_law.nd (k:=5) rfl rfl (o7 (caps:=[]) (ix:=[]) rfl rfl) (by decide +kernel) rfl (k6 (qv 4)) .nil (fun _ _ _=>(Jd (c:="TurnLine") G2 aw hr rfl Z.a_TurnLine (a9 (qv 0) c7))))
   (d6 (sA 6 sc_law.nd (e9 g7 ba hr rfl (a9 (qv 2) (a9 (qv 5) c7))))
   (d6 (o4 (QW.pt (E7 (D7 (C2 (e9 g7 bP hr rfl (a9 (qv 6) (a9 (qv 2) (a9 (qv 4) c7)))))) (G8 (tN hr (qI hr (qv 6) (X4 Y7 Af d5)) (qv 3) (i9 _)))))
    (d9 (i8 G1))
    p7)
   (d6 (sA 7 sc_law.nd (e9 g7 ba hr rfl (a9 (qv 3) (a9 (QE.wk (e9 g7 dS hr rfl (a9 (qv 2) (a9 (qv 5) c7)))) c7))))
   (d6 (o4 (QW.pt (E7 (D7 (C2 (N9 rfl T.isinstance GB (qv 7) (O7 (v:=.ty "list") rfl T.list boot_list rfl)))) (G8 (tN hr (QE.wk (Gu rfl rfl T.list rfl T.reversed (qv 7))) (qv 6) (i9 _)))))
    (d9 (i8 G1))
    p7)
   (d6 (sA 8 sc_law.nd (e9 g7 ba hr rfl (a9 (qv 2) (a9 (QE.wk (G0 (o7 (caps:=[]) (ix:=[]) rfl rfl) (by decide +kernel) rfl (k6 (qv 5)) .nil (fun _ _ _=>(e9 G2 bQ hr rfl (a9 (xx G2 dj hr (qv 0)) c7))))) c7))))
   (d9 (i8 (L0 (z5 (J1 hr.units) J0 (qv 8) (qv 6) (i9 _)) (G9 (z5 (J1 hr.units) J0 (QE.wk (e9 g7 ba hr rfl (a9 (qv 2) (a9 (qv 5) c7)))) (qv 6) (i9 _)))))))))))))))))
end
def all_mk{l:PySem.W.OpenLaw}{w:World}{K:Frag}{h:Heap}{mg:Str->Option Value}{fa:Addr}(X:K.In h)(G:h.Ns mainGlobals mg)(mQ:mg "law"=some (.ref fa))
  {f0 f1 f2 f3 f4 f5 f6 f7 f8 f9 ui uj uk ul um uo uq ur uu uv uw uz uA uB uC uD uE uF uG uH uI uJ f32 uK uL uM uN uO uP uQ uR uS uT uU:Addr}
  {u0:Addr}
  {dP:Addr}
  (A0:FnAt K "is_whole" Mh f0)
  (A1:FnAt K "pair" Ht f1)
  (A2:FnAt K "is_side" Lm f2)
  (A3:FnAt K "opposite" Mf f3)
  (A4:FnAt K "is_figures" Nd f4)
  (A5:FnAt K "two_shown" Mu f5)
  (A6:FnAt K "corner_behind" Nv f6)
  (A7:FnAt K "_law_drawn" Nb f7)
  (A8:FnAt K "_law_grown" Na f8)
  (A9:FnAt K "_law_joined" Nm f9)
  (A10:FnAt K "is_line" Ll ui)
  (A11:FnAt K "is_two" Kx uj)
  (A12:FnAt K "check_corner" Nq uk)
  (A13:FnAt K "two_read" Me ul)
  (A14:FnAt K "room_under" Nc um)
  (A15:MeAt K u0 "shown" "TurnLine.shown" Oc uo)
  (A16:FnAt K "_law_cut" Lz uq)
  (A17:FnAt K "_law_turned" Nl ur)
  (A18:FnAt K "has_pair" Mg uu)
  (A19:FnAt K "check_line" Ng uv)
  (A20:FnAt K "rooms" Jy uw)
  (A21:FnAt K "pair_read" Mq uz)
  (A22:FnAt K "part_in" Lj uA)
  (A23:FnAt K "_law_over" Mo uB)
  (A24:FnAt K "check_pair" Nf uC)
  (A25:FnAt K "triangles" Mt uD)
  (A26:FnAt K "read_deed" Mr uE)
  (A27:FnAt K "thirds" Kw uF)
  (A28:FnAt K "lines_facing" Np uG)
  (A29:FnAt K "numbers" Lk uH)
  (A30:FnAt K "turned" Kv uI)
  (A31:MeAt K u0 "done" "TurnLine.done" Nu uJ)
  (A32:MeAt K u0 "back" "TurnLine.back" Nt f32)
  (A33:FnAtD K "to_fan" Ku uK)
  (A34:FnAt K "front_behind" No uL)
  (A35:FnAt K "back_from" Mp uM)
  (A36:FnAt K "walked" Ky uN)
  (A37:FnAt K "home" Hu uO)
  (A38:FnAt K "steps_to" Mc uP)
  (A39:FnAt K "over_fan" Ma uQ)
  (A40:FnAt K "shortest" Mb uR)
  (A41:FnAt K "way_in_room" Nn uS)
  (A42:FnAt K "way_to" Kt uT)
  (A43:FnAt K "law" Gr uU)
  (T:Txt mg)
  (Z:Exs K mg u0)
  (J_TurnLine:MeAt K u0 "__init__" "TurnLine.__init__" jT dP) :
  ∃fd:FuncData,(∀(s:Shared)(v:Value),BindsTo s fd ⟨[v],[]⟩ [("_law_script",v)])/\∀base:Heap,K.In base->base.Ns mainGlobals mg->FnOk l.prog w K mg base (CX1 l.prog w) 12 fa fd ["_law_script"] (spL K false R8 1):=by
 refine y0u X G mQ A43 (fun _ _ _ _ _ _ _ _=>.of_eq rfl) fun base kb nb fd F=>?_
 have aw:MkO l.prog w K mg base "TurnLine" u0 ["line"] 1:=mko J_TurnLine Z.n_TurnLine Z.om_TurnLine Z.oq_TurnLine rfl fun F=>zp (k:=0) F z7o Z.cl_TurnLine Z.ov_TurnLine rfl (Or.inl rfl) (Or.inl rfl)
 have aE:Ly l.prog w K mg base:=got X G A0 fun F=>zfz F T Z 
 have dQ:Rc l.prog w K mg base:=got X G A1 fun F=>xb F T Z 
 have aO:Li l.prog w K mg base:=got X G A2 fun F=>zj8 F T Z 
 have bX:Yt l.prog w K mg base:=got X G A3 fun F=>zg0 F T Z 
 have br:jx l.prog w K mg base:=got X G A4 fun F=>zcn F T Z 
 have bM:jb l.prog w K mg base:=got X G A5 fun F=>zej F T Z 
 have aN:jS l.prog w K mg base:=got X G A6 fun F=>z7r F T Z 
 have aD:Mz l.prog w K mg base:=got X G A7 fun F=>zco F T Z 
 have bu:jw l.prog w K mg base:=got X G A8 fun F=>zcp F T Z 
 have aK:jG l.prog w K mg base:=got X G A9 fun F=>z9w F T Z 
 have cw:Xk l.prog w K mg base:=got X G A10 fun F=>zj9 F T Z aO
 have aZ:Ks l.prog w K mg base:=got X G A11 fun F=>zmk F T Z aE
 have aS:jN l.prog w K mg base:=got X G A12 fun F=>z9j F T Z aE
 have bV:Ys l.prog w K mg base:=got X G A13 fun F=>zg1 F T Z br
 have bv:jv l.prog w K mg base:=got X G A14 fun F=>zcq F T Z aN
 have cE:By l.prog w K mg base u0 "shown" ["self"] 2 (spD K mg false W8 1):=Om A15 fun F=>z73 F T Z bM
 have bj:Yr l.prog w K mg base:=got X G A16 fun F=>zg2 F T Z aD bu
 have bb:jF l.prog w K mg base:=got X G A17 fun F=>z9x F T Z aK
 have bW:Yq l.prog w K mg base:=got X G A18 fun F=>zg3 F T Z aO aZ
 have bz:ju l.prog w K mg base:=got X G A19 fun F=>zcr F T Z aZ
 have bJ:Jx l.prog w K mg base:=got X G A20 fun F=>zg F T Z bv
 have bN:ja l.prog w K mg base:=got X G A21 fun F=>zek F T Z dQ bV
 have bS:Xj l.prog w K mg base:=got X G A22 fun F=>zja F T Z cw
 have bP:Zz l.prog w K mg base:=got X G A23 fun F=>zel F T Z bb
 have bw:jt l.prog w K mg base:=got X G A24 fun F=>zcs F T Z bW
 have au:Fe l.prog w K mg base:=got X G A25 fun F=>zem F T Z bJ
 have bQ:Zy l.prog w K mg base:=got X G A26 fun F=>zen F T Z bN aw
 have cM:Wa l.prog w K mg base:=got X G A27 fun F=>zml F T Z bw au
 have aJ:jM l.prog w K mg base:=got X G A28 fun F=>z9k F T Z bX au
 have bR:Xi l.prog w K mg base:=got X G A29 fun F=>zjb F T Z au
 have ak:O8 l.prog w K mg base:=got X G A30 fun F=>zmm F T Z bz cM
 have cK:By l.prog w K mg base u0 "done" ["self","cut"] 7 (spD K mg false P8 2):=Om A31 fun F=>z7s F T Z ak
 have cL:By l.prog w K mg base u0 "back" ["self","cut"] 7 (spD K mg false W7 2):=Om A32 fun F=>z7t F T Z ak aw
 have ck:Vz l.prog w K mg base:=y8g X G A33 fun F=>zmn F T Z aS aJ ak
 have aT:jL l.prog w K mg base:=got X G A34 fun F=>z9l F T Z ak
 have bO:Zx l.prog w K mg base:=got X G A35 fun F=>zeo F T Z ak
 have cq:Mths l.prog w K mg base "done" 7 2 An:=.cons Z.n_TurnLine Z.cl_TurnLine cK .nil
 have ba:Vy l.prog w K mg base:=got X G A36 fun F=>zmo F T Z cq
 have dR:Mths l.prog w K mg base "back" 7 2 Jz:=.cons Z.n_TurnLine Z.cl_TurnLine cL .nil
 have dS:Rb l.prog w K mg base:=got X G A37 fun F=>wZ F T Z dR cq
 have bY:Yp l.prog w K mg base:=got X G A38 fun F=>zg4 F T Z aT
 have bZ:Yo l.prog w K mg base:=got X G A39 fun F=>zg5 F T Z bO bR ck
 have ca:Yn l.prog w K mg base:=got X G A40 fun F=>zg6 F T Z bY ak
 have bc:jE l.prog w K mg base:=got X G A41 fun F=>z9y F T Z bZ bS ca
 have cN:Vx l.prog w K mg base:=got X G A42 fun F=>zmp F T Z bJ bc
 have dj:Mths l.prog w K mg base "shown" 2 1 Em:=.cons Z.n_TurnLine Z.cl_TurnLine cE .nil
 exact(y1q F T Z bj aD bP dS bQ ba cN dj aw).imp fun _ _ _ _ z=>z.spD
end K98
namespace K98
open L2 Cu
local macro_rules | `(tactic|walk_at "dz")=>do
 let a:=("Qi,yL,y4i,zzl,zzk,J3,sNx,v7,Ca,v6,T5,w4,zzm,zu9,yK,zzf,zzg,zu6,zzh,zzi,zzj,zu8,Jr,y4j,y4k,y4l,Z1,Z0,zzn,Ai,At,zua,zzo,y07,y4u,y4v,y4w,y08,zuj,zuk,zou,zov,Lx,y04,zlm,zzp,zzq,zlk,zub,zuc,zud,K6,Js,Option.bind_some,Bool.and_true,Bool.true_and,Qh,y4m,y4n,y4o,y8b,y8c,eC,eOp,eUn,b7,a8,d8,eCB,l8,n9,eIf,eSl,oSo,D3,bOr,o9,e8,B9,eOr,Cb,Y0,Cw,Z2,Ak,Aj,j7,iL,zum,zun,zug,zuh,L2.R.bind_ok,L2.R.of_some,v9,N5,N4,dLe,R7,dGe,y4p,K5,y4q,zr1,zzs,zzt,zzu,zzv,Dt,Ds,zzw,zzx,zzy,y4t,y4y,y0g,y0h,zuo,Lw,zox,y05,y4s,Ho,Hq,y4z,y0i,y0j,y0k,y0l,y50,y51,zoy,E0,yI,y4r,zzz,y00,zuf,y01,y02,yJ,y03,O4,List.map_cons,List.map_nil,List.length_cons,List.length_nil,List.cons_append,List.nil_append,List.replicate_succ,List.replicate_zero,List.getElem?_cons_zero,List.getElem?_cons_succ,List.set_cons_zero,List.set_cons_succ,Option.map_some,Option.getD_some,if_true,if_false,Bool.false_eq_true,Bool.not_true,Bool.not_false,Bool.and_false,Bool.false_and,Bool.or_true,Bool.true_or,Bool.or_false,Bool.false_or,Nat.reduceAdd,Nat.reduceLeDiff,Nat.reduceEqDiff,reduceCtorEq,decide_true,decide_false,Int.reduceEq".splitOn ",").toArray.map fun s=>Lean.mkIdent s.toName
 `(tactic|try simp (implicitDefEqProofs:=false) only [$[$a:term],*])
def El{α:Type}(ls:List α)(f:α->D)(n:Nat)(hn:n<=20)(h1:∀x,(f x).oi=true)(h2:∀x,(f x).dep<=n)(h3:∀x y,(g9 (f x) (f y)).isSome=true)(h4:((ls.map f).all isI||(ls.map f).all E6||(ls.map f).all N2)=true)(hl:ls.length<64):z7 [.lst (ls.map f)]=some (.lst (u6 (ls.map f))):=by
 have ok:Ap (ls.map f)=true:=by unfold Ap;rw[J5 _ _ h1,decide_eq_true (CD (U5 ls f n h2) hn),Ae ls f (fun d=>(ls.map f).all fun e=>(g9 d e).isSome) (fun x=>Ae _ _ _ fun y=>h3 x y),h4,bI,decide_eq_true hl];rfl
 simp only[z7,ok,DY]
def Ew(ls:List P2)(hl:ls.length<64):z7 [.lst (ls.map T2)]=some (.lst ((so2 ls).map T2)):=by rw[El ls T2 1 (by decide) S3 Ac y0d (by rw[Ae ls T2 E6 fun _=>rfl,Bool.or_true,Bool.true_or]) hl,Aq]
def zmq(ls:List P3)(hl:ls.length<64):z7 [.lst (ls.map T3)]=some (.lst ((so3 ls).map T3)):=by rw[El ls T3 1 (by decide) vg y0c y0e (by rw[Ae ls T3 E6 fun _=>rfl,Bool.or_true,Bool.true_or]) hl,Kd]
def zf(ls:List Int)(hl:ls.length<64):z7 [L ls]=some (L (soI ls)):=by unfold L;rw[El ls D.int 0 (by decide) On (fun _=>by simp[D.dep]) (fun _ _=>rfl) (by rw[Ae ls D.int isI fun _=>rfl];rfl) hl,Dz]
def Ra(d:Int)(ns:List Int):S4 [L ns,.int d]=some (.int (mxD d ns)):=by simp only[L,S4,W0,CO]
def ze(c:Int)(p:P2)(ls:List P2)(hl:ls.length<=1000):P9 [.int c,T2 p,.tup (ls.map T2)]=.ok (.int (mxD (c+1) (ends c p ls))):=by
 unfold P9 Ob;walk_at "dz";rw[ζ (by rw[bI];omega),E3 (en:=T2) (bs:=fun l=>[T2 l]) (p:=pk c p) (g:=fun l=>D.int l.2) ls (fun x _=>rfl) (fun l _=>by
  unfold Oe;simp only[T2];walk_at "dz";rfl) (fun l _ _=>by
  unfold Od;simp only[T2];walk_at "dz")]
 simp only[R.bind_ok];rw[show D.lst ((ls.filter (pk c p)).map fun l=>D.int l.2)=L (ends c p ls) by unfold L ends;rw[DJ];rfl];walk_at "dz";rw[Ra];walk_at "dz"
def M3(t:DE->R Bool)(g:DS->SR)(n:Nat)(ρ:DS):u9 t g (n+1) ρ=(t (see ρ)).toS fun b=>if b=true then(g ρ).itr (u9 t g n) else .nx ρ:=by rw[u9];congr 1
def Db(xs:List Int)(v:Int):dIx (L (xs++[v])) (.int (-1))=some (.int v):=by
 have:(xs++[v]).map D.int=xs.map D.int++[D.int v]:=by simp
 simp only[L,dIx,dOr,v5,this,zS]
def Jw(ls:List P2)(p:P2)(xs:List Int)(v:Int):P7 [some (T2 p),some (.tup (ls.map T2)),some (L (xs++[v]))]=.ok (decide (v<p.2)):=by unfold P7;simp only[T2];walk_at "dz";rw[Db];walk_at "dz"
def Tw(ls:List P2)(hl:ls.length<=1000)(p:P2)(xs:List Int)(v:Int)(hx:xs.length<1000):P6 [.im (T2 p),.im (.tup (ls.map T2)),.ow (L (xs++[v]))]=.nx [.im (T2 p),.im (.tup (ls.map T2)),.ow (L (xs++[v]++[mxD (v+1) (ends v p ls)]))]:=by unfold P6;walk_at "dz";rw[Db];walk_at "dz";rw[ze _ _ _ hl];walk_at "dz";rw[Gx (by simp;omega)];walk_at "dz"
def wY{n:Int}{ls ls':List P2}{T:List P3}(I:CInv n ls T)(p:ls'.Perm ls)(hl:ls'.length<=1000)(a c b:Int)(h:(a,c,b)∈T) :
  P4 [T2 (a,b),.tup (ls'.map T2)]=.ok (T3 (a,c,b)):=by
 obtain⟨g1,g2,g3,g4,_⟩:=I.tri a c b h
 unfold P4 Nj
 walk_at "dz"
 have w:C5 1000 P7 P6 [.im (T2 (a,b)),.im (.tup (ls'.map T2)),.ow (L [a])]=.nx [.im (T2 (a,b)),.im (.tup (ls'.map T2)),.ow (L [a,c,b])]:=by have t1:=Jw ls' (a,b) [] a;have t2:=Jw ls' (a,b) [a] c;have t3:=Jw ls' (a,b) [a,c] b;have b1:=Tw ls' hl (a,b) [] a (by simp);have b2:=Tw ls' hl (a,b) [a] c (by simp);rw[I.beh1 p h]at b1;rw[I.beh2 p h]at b2;simp only[DT,List.cons_append]at t1 t2 t3 b1 b2;unfold C5;rw[show(1000:Nat)=997+1+1+1 from rfl,M3];simp only[Z0,Ai,At,Z1];rw[t1,w4,decide_eq_true (show a<b by omega),ζ rfl,b1,O4,M3];simp only[Z0,Ai,At,Z1];rw[t2,w4,decide_eq_true (show c<b by omega),ζ rfl,b2,O4,M3];simp only[Z0,Ai,At,Z1];rw[t3,w4,decide_eq_false (show ¬b<b by omega),ξ θ]
 rw[show D.lst [D.int a]=L [a] from rfl,w]
 walk_at "dz"
 rfl
def wX{n:Int}{ls ls':List P2}{T:List P3}(I:CInv n ls T)(p:ls'.Perm ls)(hl:ls.length<=60) :
  M0 [.int n,.tup (ls'.map T2)]=.ok (.lst ((so3 T).map T3)):=by
 have dZ:ls'.length<=60:=by rw[p.length_eq];exact hl
 unfold M0 Ka
 walk_at "dz"
 rw[show x6 (D.lst [D.tup [D.int 0,D.int (n - 1)]]) (D.lst (ls'.map T2))=some (.lst (((0,n - 1)::ls').map T2)) by simp only[x6];rw[ζ (by simp;omega)];rfl]
 obtain⟨tops,ht⟩:∃tops:List P2,tops=(0,n - 1)::ls':=⟨_,rfl⟩
 have av:tops.length<=61:=by rw[ht,io];omega
 rw[<-ht]
 have kp:keeps true (D.lst (tops.map T2))=true:=by rw[Lx];exact B5 _ _ fun x _=>E0 x
 simp only[R.of_some,w4,kp]
 walk_at "dz"
 rw[ζ (by rw[bI];omega),M8 (en:=T2) (bs:=fun q=>[T2 q]) (g:=fun q=>T3 (thr T q)) tops (fun x _=>rfl) (fun q hq=>by obtain⟨m1,m2⟩:=I.top_in p (by rw[<-ht];exact hq);unfold Ln;walk_at "dz";generalize thr T q=u at m1 m2;obtain⟨a,c,b⟩:=u;rw[<-m2];exact wY I p (by omega) a c b m1)]
 walk_at "dz"
 have e1:tops.map (fun q=>T3 (thr T q))=(tops.map (thr T)).map T3:=by rw[DJ];rfl
 have pm:(tops.map (thr T)).Perm T:=by rw[ht];exact I.tops p
 rw[e1,zmq _ (by rw[bI];omega),Wm pm]
 walk_at "dz"
def Mn{n:Int}{ls ls':List P2}{T:List P3}(I:CInv n ls T)(p:ls'.Perm ls)(hl:ls.length<=60) :
  P1 [.tup [.int n,.tup (ls'.map T2)]]=.ok (.lst ((so3 T).map T3)):=by
 unfold P1 jd
 walk_at "dz"
 rw[wX I p hl]
 walk_at "dz"
def Jv(i:Int):P0 [.int i]=.ok (.bl true):=by unfold P0 Zi;walk_at "dz"
def K7(n a b:Int):Bool:=!(decide (a<0)||decide (n<=b))&&(decide (b=a+1)||(decide (a=0)&&decide (b=n - 1)))
def Qz(n:Int)(p:P2):V4 [.int n,T2 p]=.ok (.bl (K7 n p.1 p.2)):=by unfold V4 Xo K7;walk_at "dz";generalize (decide (p.1<0)||decide (n<=p.2))=c;cases c<;>rfl
def qR(p:P2):U9 [T2 p]=.ok (.bl true):=by unfold U9 Wg;walk_at "dz";rw[Jv];walk_at "dz";rw[Jv];walk_at "dz"
def y5o(n:Int)(ls:List P2)(p:P2):Bi [.tup [.int n,.tup (ls.map T2)],T2 p]=.ok (.bl (K7 n p.1 p.2||decide (p∈ls))):=by unfold Bi Ze;walk_at "dz";rw[qR];walk_at "dz";rw[Qz];walk_at "dz";rw[Z9];walk_at "dz"
def zd{n a b:Int}:K7 n a b=true↔(0<=a/\b<n)/\(b=a+1\/(a=0/\b=n - 1)):=by simp only[K7,gR,FS,GS,EB,ng,CQ];rw[FU,Int.not_le]
def zb(n:Int)(ls:List P2)(p:P2)(h:(K7 n p.1 p.2||decide (p∈ls))=true):Bp [.tup [.int n,.tup (ls.map T2)],T2 p]=.ok .non:=by unfold Bp jy;walk_at "dz";rw[y5o,h];walk_at "dz"
def wW(T:List P3):(so3 T).length=T.length:=(B0 T).length_eq
def zms{n:Int}{ls ls':List P2}{T:List P3}(I:CInv n ls T)(pm:ls'.Perm ls)(hl:ls.length<=60)(p:P2)(h:(K7 n p.1 p.2||decide (p∈ls'))=true) :
  U8 [.tup [.int n,.tup (ls'.map T2)],T2 p]=.ok (L (dues T p)):=by
 have hT:(so3 T).length<=61:=by rw[wW,I.len];omega
 unfold U8 Wf
 walk_at "dz"
 rw[zb n ls' p h]
 walk_at "dz"
 rw[Mn I pm hl]
 walk_at "dz"
 rw[ζ (by rw[bI];omega),E3 (en:=T3) (bs:=fun t=>[T3 t]) (p:=bth p.1 p.2) (g:=fun t=>T3 t) (so3 T) (fun x _=>rfl) (fun t _=>by
  unfold Zd;walk_at "dz";rw[Gw];walk_at "dz";rw[Gw];walk_at "dz";rfl) (fun t _ _=>by
  unfold Zc;walk_at "dz")]
 simp only[R.bind_ok]
 obtain⟨F,hF⟩:∃F,F=(so3 T).filter (bth p.1 p.2):=⟨_,rfl⟩
 have BX:F.length<=61:=by rw[hF];exact CD (DA _ _) hT
 rw[<-hF]
 walk_at "dz"
 rw[ζ (by rw[bI];omega),M8 (en:=T3) (bs:=fun t=>[T3 t]) (g:=fun t=>D.int (t.1+(t.2.1+(t.2.2+0)) - (p.1+(p.2+0)))) F (fun x _=>rfl) (fun t _=>by unfold Zb;walk_at "dz")]
 simp only[R.bind_ok]
 rw[show D.lst (F.map fun t=>D.int (t.1+(t.2.1+(t.2.2+0)) - (p.1+(p.2+0))))=L (F.map fun t=>t.1+(t.2.1+(t.2.2+0)) - (p.1+(p.2+0))) by unfold L;rw[DJ];rfl]
 walk_at "dz"
 rw[zf _ (by rw[bI];omega)]
 walk_at "dz"
 rw[hF];rfl
def Tv(p:P2)(ls:List P2):dIn true (T2 p) (.tup (ls.map T2))=some (.bl (!decide (p∈ls))):=by have h:=Z9 p ls;have h1:=U5 ls T2 1 Ac;unfold dIn dOr N3 at h⊢;simp only[N7,Ad ls T2 N7,true_and,ζ (show j0 (ls.map T2)<=20 by omega),tB,DG,DY,Option.some.injEq,D.bl.injEq]at h⊢;rw[h]
def qQ(p q:P2):dNe (T2 p) (T2 q)=some (.bl (!decide (p=q))):=by unfold dNe;rw[ζ ⟨N7 p,N7 q,by have:=Ac p;omega⟩,Jh]
def wV(n:Int)(ls:List P2)(p:P2)(h:p∈ls):Br [.tup [.int n,.tup (ls.map T2)],T2 p]=.ok .non:=by unfold Br jz;walk_at "dz";rw[qR];walk_at "dz";rw[Tv,decide_eq_true h];walk_at "dz"
def Tt(ls' ls0:List P2)(l:P2)(p:ls'.Perm (l::ls0))(h:l∉ls0):(ls'.filter fun o=>!decide (o=l)).Perm ls0:=by refine(p.filter _).trans ?_;rw[ED (by simp)];rw[List.filter_eq_self.mpr fun o ho=>by simp;exact fun e=>h (by rw[<-e];exact ho)]
section
variable {n:Int}{ls ls' ls0:List P2}{T:List P3}{l w:P2}
def y1t(K:Cut n ls T)(pm:ls'.Perm ls)(hl:ls.length<=60)(h:l∈ls):U8 [.tup [.int n,.tup (ls'.map T2)],T2 l]=.ok (L (dues T l)):=
 zms K.inv pm hl l (by rw[decide_eq_true (pm.mem_iff.mpr h),Bool.or_true])
def Au(K:Cut n ls T)(pm:ls'.Perm ls)(hl:ls.length<=60)(h:l∈ls)(p0:ls.Perm (l::ls0))(hw:dues T l=[w.1,w.2]) :
  v3 [.tup [.int n,.tup (ls'.map T2)],T2 l]=.ok (.tup [.tup [.int n,.tup ((so2 (ls0++[w])).map T2)],T2 w]):=by
 have fV:l∉ls0:=by have:=p0.nodup_iff.mp K.inv.nd;rw[CL]at this;exact this.1
 have dZ:ls'.length<=60:=by rw[pm.length_eq];exact hl
 unfold v3 We
 walk_at "dz"
 rw[wV n ls' l (pm.mem_iff.mpr h)]
 walk_at "dz"
 rw[y1t K pm hl h,hw]
 walk_at "dz"
 rw[show z8 [L [w.1,w.2]]=some (T2 w) from rfl]
 simp only[R.of_some,w4]
 rw[show keeps false (T2 w)=true from E0 w]
 walk_at "dz"
 rw[ζ (by rw[bI];omega),E3 (en:=T2) (bs:=fun o=>[T2 o]) (p:=fun o=>!decide (o=l)) (g:=fun o=>T2 o) ls' (fun x _=>rfl) (fun o _=>by
  unfold Za;walk_at "dz";rw[qQ];walk_at "dz") (fun o _ _=>by
  unfold Yz;walk_at "dz")]
 simp only[R.bind_ok]
 have kn:=Tt ls' ls0 l (pm.trans p0) fV
 obtain⟨kp,ik⟩:∃kp,kp=ls'.filter fun o=>!decide (o=l):=⟨_,rfl⟩
 rw[<-ik]at kn⊢
 have mY:kp.length<=60:=by rw[ik];exact CD (DA _ _) dZ
 walk_at "dz"
 rw[show D.lst [T2 w]=D.lst ([w].map T2) from rfl,Jg _ _ (by simp;omega)]
 obtain⟨xs,cB⟩:∃xs,xs=kp++[w]:=⟨_,rfl⟩
 have hx:xs.length<=61:=by rw[cB];simp;omega
 rw[<-cB]
 walk_at "dz"
 rw[Ew _ (by omega),C7 (show xs.Perm (ls0++[w]) by rw[cB];exact kn.append_right _)]
 walk_at "dz"
end
def y1u(a b:Int):Z3 [.int a,.int b]=.ok (T2 (nr (a,b))):=by
 unfold Z3 Rf nr;walk_at "dz";by_cases h:a<b
 . rw[decide_eq_true h,ζ h];walk_at "dz";rfl
 . rw[decide_eq_false h,ξ h];walk_at "dz";rfl
def kz(c x:Int):x+(if decide (c<x)=true then 1 else 0)=sh c x:=by
 unfold sh;by_cases h:c<x
 . rw[decide_eq_true h,ζ rfl,ζ h]
 . rw[decide_eq_false h,ξ θ,ξ h];omega
def J4{a r:DS->SR}{ρ ax:DS}(h:a ρ=.nx ax):c9 a r ρ=r ax:=by rw[yL,h,yK]
def jn(n:Int)(ls:List P2)(a b:Int):Bool:=decide ((nr (a,b)).2 - (nr (a,b)).1=1)||(decide (nr (a,b)=(0,n - 1))||decide (nr (a,b)∈ls))
def Da(I:CInv n ls T)(x0:0<=x)(x1:x<n)(k0:0<=k)(k1:k<n)(ah:k≠x):jn n ls k x=true↔adj n ls x k:=by
 unfold jn;simp only[EB,ng];rcases Int.lt_or_gt_of_ne ah with h |h
 . rw[show nr (k,x)=(k,x) by unfold nr;rw[ζ h]];simp only[Prod.mk.injEq];constructor
   . intro z;exact(Z5 I k0 h x1 (by rcases z with z |z |z;exact .inr (.inl (by omega));exact .inr (.inr z);exact .inl z)).2
   . intro z;rcases L8 I k0 h x1 (.inr z) with z |z |z
     . exact .inr (.inr z)
     . exact .inl (by omega)
     . exact .inr (.inl z)
 . rw[show nr (k,x)=(x,k) by unfold nr;rw[ξ (by simp only;omega)]];simp only[Prod.mk.injEq];constructor
   . intro z;exact(Z5 I x0 h k1 (by rcases z with z |z |z;exact .inr (.inl (by omega));exact .inr (.inr z);exact .inl z)).1
   . intro z;rcases L8 I x0 h k1 (.inl z) with z |z |z
     . exact .inr (.inr z)
     . exact .inl (by omega)
     . exact .inr (.inl z)
def y8r{xs:List Nat}{u v:Int}(BY:u<v)(hs:xs.Pairwise (·<·))(hm:∀k:Nat,k∈xs↔((k:Int)=u\/(k:Int)=v))(u0:0<=u):xs.map (fun k:Nat=>(k:Int))=[u,v]:=by
 have p:xs.Perm [u.toNat,v.toNat]:=by
  refine(EI (hs.imp fun h=>CC h) (by simp;omega)).mpr fun k=>?_
  rw[hm k];simp only[eH,FG,or_false];omega
 have e:xs=[u.toNat,v.toNat]:=p.eq_of_pairwise (le:=(·<·)) (fun a b _ _ h1 h2=>absurd h1 (Nat.lt_asymm h2)) hs (by simp;omega);rw[e];simp only[gD,CM];rw[Int.toNat_of_nonneg u0,Int.toNat_of_nonneg (by omega)]
def zmv(n:Nat):(List.range n).Pairwise (·<·):=List.pairwise_lt_range
section
variable {n:Nat}{ls:List P2}{T:List P3}{l w:P2}
def wU(K:Cut (n:Int) ls T)(h:l∈ls)(hw:dues T l=[w.1,w.2])(av:w.1<w.2)(w0:0<=w.1)(wn:w.2<n)(gJ:∀k,k∈dues T l->k≠l.1/\k≠l.2) :
  (((List.range n).filter fun (k:Nat)=>!(decide ((k:Int)=l.1)||decide ((k:Int)=l.2))).filter fun (k:Nat)=>jn n ls (k:Int) l.1&&jn n ls (k:Int) l.2).map (fun k:Nat=>(k:Int))=[w.1,w.2]:=by
 have I:=K.inv
 obtain⟨a,b⟩:=l
 have li:=I.lin a b h
 refine y8r av (((zmv n).filter _).filter _) (fun k=>?_) w0
 have e:((k:Int)=w.1\/(k:Int)=w.2)↔(k:Int)∈dues T (a,b):=by rw[hw];simp
 rw[e,CA,CA,EJ]
 simp only[FS,GS,CQ,gR]
 constructor
 . rintro⟨⟨h1,h2,h3⟩,h4,h5⟩;exact(I.com h (by omega) (by omega) h2 h3).mp ⟨(Da I li.1 (by omega) (by omega) (by omega) h2).mp h4,(Da I (by omega) (by omega) (by omega) (by omega) h3).mp h5⟩
 . intro z;obtain⟨z1,z2⟩:=gJ _ z;have hk:(k:Int)<n:=by rw[hw]at z;simp at z;omega
   obtain⟨c1,c2⟩:=(I.com h (by omega) hk z1 z2).mpr z;exact⟨⟨by omega,z1,z2⟩,(Da I li.1 (by omega) (by omega) (by omega) z1).mpr c1,(Da I (by omega) (by omega) (by omega) hk z2).mpr c2⟩
def Qy(n:Nat):zD 0 ((n:Int)).toNat=(List.range n).map fun (k:Nat)=>D.int (k:Int):=by unfold zD;rw[Int.toNat_natCast];exact List.map_congr_left fun k _=>by rw[Int.zero_add]
end
def wT(I:CInv n ls T)(h:l∈ls):∀k,k∈dues T l->k≠l.1/\k≠l.2:=by intro k hk;obtain⟨⟨x,y,z⟩,ht,hb,e⟩:=mem_dues.mp hk;have g:=I.tri _ _ _ ht;have li:=I.lin l.1 l.2 h;rw[bth_iff]at hb;simp only at hb e;omega
def Ts(I:CInv n ls T)(a:Int):jn n ls a a=false:=by
 have h3:=I.n3;have:nr (a,a)=(a,a):=by unfold nr;split<;>rfl
 unfold jn;rw[this];simp only[GS,CQ,Prod.mk.injEq];refine⟨by omega,by omega,fun z=>?_⟩;have:=I.lin a a z;omega
def Vw(n:Int)(ls:List P2)(a b:Int):W5 [.tup [.int n,.tup (ls.map T2)],.int a,.int b]=.ok (.bl (jn n ls a b)):=by
 have e1:(if b<a then b else a)=(nr (a,b)).1:=by unfold nr;split<;>split<;>first |rfl | (simp only;omega)
 have e2:(if b > a then b else a)=(nr (a,b)).2:=by unfold nr;split<;>rfl
 unfold W5 jJ;walk_at "dz";rw[e1,e2];generalize hq:nr (a,b)=q;rw[show D.tup [D.int q.1,D.int q.2]=T2 q from rfl,Z9];walk_at "dz";unfold jn;rw[hq];obtain⟨x,y⟩:=q;simp only[Prod.mk.injEq];by_cases h1:y - x=1
 . simp[h1]
 . by_cases h2:x=0/\y=n - 1
   . simp[h1,h2.1,h2.2]
   . have:(decide (x=0)&&decide (y=n - 1))=false:=by simpa using h2
     simp[h1,h2,this]
def y5p(h:xs.length<1000):k8 (L xs) [.int x]=some (L (xs++[x])):=Gx (by omega)
def zmx{n:Nat}{ls ls0:List P2}{T:List P3}{l w:P2}(K:Cut (n:Int) ls T)(hl:ls.length<=60)(nv:n<=60)(h:l∈ls)(p0:ls.Perm (l::ls0))(hw:dues T l=[w.1,w.2])(av:w.1<w.2)(w0:0<=w.1)(wn:w.2<n) :
  N1 [.tup [.int n,.tup (ls.map T2)],T2 l]=.ok (.tup [.int n,.tup ((so2 (ls0++[w])).map T2)]):=by
 have I:=K.inv
 have fV:l∉ls0:=by have:=p0.nodup_iff.mp K.inv.nd;rw[CL]at this;exact this.1
 have uV:=wU K h hw av w0 wn (wT I h)
 have tp:((List.range n).filter fun (k:Nat)=>jn n ls (k:Int) l.1&&jn n ls (k:Int) l.2).map (fun k:Nat=>(k:Int))=[w.1,w.2]:=by
  rw[<-uV,List.filter_filter];congr 1;apply List.filter_congr;intro k _;by_cases e1:(k:Int)=l.1
  . rw[e1,Ts I];simp
  . by_cases e2:(k:Int)=l.2
    . rw[e2,Ts I];simp
    . rw[decide_eq_false e1,decide_eq_false e2];simp
 have je:=fun k=>Vw n ls k l.1
 have uW:=fun k=>Vw n ls k l.2
 have kn:=Tt ls ls0 l p0 fV
 have ne:=qQ (q:=l)
 have uX:items (D.tup (ls.map T2))=some (ls.map T2):=rfl
 have ae:(ls.map T2).length<=100000:=by rw[bI];omega
 have cf:=E3 (bn:=b1) (t:=Nz) (f:=Ny) (cs:=[some (T2 l)]) (en:=T2) (bs:=fun o=>[T2 o]) (p:=fun o=>!decide (o=l)) (g:=fun o=>T2 o) ls (fun x _=>rfl) (fun o _=>by
  unfold Nz;have:=ne o;walk_at "dz";rw[this];walk_at "dz") (fun o _ _=>by
  unfold Ny;walk_at "dz")
 obtain⟨kp,ik⟩:∃kp,kp=ls.filter fun o=>!decide (o=l):=⟨_,rfl⟩
 rw[<-ik]at kn cf
 have mY:kp.length<=60:=by rw[ik];exact CD (DA _ _) hl
 have l0:dIx (T2 l) (.int 0)=some (.int l.1):=Dt _ _
 have l1:dIx (T2 l) (.int 1)=some (.int l.2):=Ds _ _ _
 generalize fW:D.tup (ls.map T2)=tl at *
 generalize hT:T2 l=TL at *
 unfold N1 jI
 walk_at "dz"
 rw[vh (n:Int) (by omega) (by walk_at "dz"),Qy]
 obtain⟨ax,e,s3,hr⟩:=Lc (tg:=.n 3) (g:=Oa) n (fun (k:Nat)=>D.int (k:Int))
  (fun k ρ=>∃s3:Sl,ρ=[.im (.tup [.int (n:Int),tl]),.im TL,.ow (L (((List.range k).filter fun (k:Nat)=>jn n ls (k:Int) l.1&&jn n ls (k:Int) l.2).map fun k:Nat=>(k:Int))),s3])
  [.im (.tup [.int (n:Int),tl]),.im TL,.ow (.lst []),.em] ⟨.em,rfl⟩ (by
   rintro k hk ρ ⟨s3,rfl⟩;have hf:(((List.range k).filter fun (k:Nat)=>jn n ls (k:Int) l.1&&jn n ls (k:Int) l.2).map fun k:Nat=>(k:Int)).length<1000:=by rw[bI];have:=DA (fun (k:Nat)=>jn n ls (k:Int) l.1&&jn n ls (k:Int) l.2) (List.range k);rw[List.length_range]at this;omega
   refine⟨_,_,rfl,Or.inl ?_,.im (.int (k:Int)),rfl⟩;rw[List.range_succ,GC];generalize (List.range k).filter (fun (k:Nat)=>jn n ls (k:Int) l.1&&jn n ls (k:Int) l.2)=F at hf;rw[CS];generalize F.map (fun k:Nat=>(k:Int))=G at hf;unfold Oa;walk_at "dz";rw[l0];walk_at "dz";rw[je];walk_at "dz";cases q1:jn n ls (k:Int) l.1
   . simp only[EE,q1,Bool.false_and,tB,DG,GV,CM,CT];walk_at "dz"
   . walk_at "dz";rw[l1];walk_at "dz";rw[uW];walk_at "dz";cases q2:jn n ls (k:Int) l.2
     . simp only[EE,q1,q2,Bool.and_false,tB,DG,GV,CM,CT];walk_at "dz"
     . simp only[EE,q1,q2,DV,DY,GV,gD,CM];walk_at "dz";rw[y5p (by omega)];walk_at "dz")
 walk_at "dz"
 rw[e,hr,tp]
 walk_at "dz"
 rw[uX]
 walk_at "dz"
 rw[ζ ae,cf]
 walk_at "dz"
 rw[show z8 [L [w.1,w.2]]=some (T2 w) from rfl]
 walk_at "dz"
 rw[show D.lst [T2 w]=D.lst ([w].map T2) from rfl,show(kp.map fun o=>T2 o)=kp.map T2 from rfl,Jg _ _ (by simp;omega)]
 obtain⟨xs,cB⟩:∃xs,xs=kp++[w]:=⟨_,rfl⟩
 have hx:xs.length<=61:=by rw[cB];simp;omega
 rw[<-cB]
 walk_at "dz"
 rw[Ew _ (by omega)]
 walk_at "dz"
 rw[C7 (show xs.Perm (ls0++[w]) by rw[cB];exact kn.append_right _)]
def y8s{n:Int}{ls ls0:List P2}{T:List P3}{l w:P2}(K:Cut n ls T)(hl:ls.length<=60)(nv:n<=60)(h:l∈ls)(p0:ls.Perm (l::ls0))(hw:dues T l=[w.1,w.2])(lw:0<=w.1/\w.1+2<=w.2/\w.2<=n - 1) :
  N1 [.tup [.int n,.tup (ls.map T2)],T2 l]=.ok (.tup [.int n,.tup ((so2 (ls0++[w])).map T2)]):=by
 have n3:=K.inv.n3
 obtain⟨m,rfl⟩:∃m:Nat,n=(m:Int):=⟨n.toNat,by omega⟩
 exact zmx K hl (by omega) h p0 hw (by omega) lw.1 (by omega)
theorem Vv:∀{R:List Int}{a:Int},R.Pairwise (·<·)->(∀x∈R,a<=x/\x<=b)->a<=b+1->(R.length:Int)<=b - a+1
 | [],a,_,_,h=>by simp;omega
 |x::r,a,hp,hb,h=>by rw[EY]at hp;have hx:=hb x gq;have:=Vv (b:=b) (a:=x+1) hp.2 (fun y hy=>⟨by have:=hp.1 y hy;omega,(hb y (dg _ hy)).2⟩) (by omega);rw[io];push_cast;omega
def Vu{n:Int}{ls ls':List P2}{T:List P3}(K:Cut n ls T)(p:ls'.Perm ls):Cut n ls' T:=
 ⟨K.inv.perm p,fun x y h=>by have:=K.cnt x y h;rw[this];unfold ee;simp only[p.mem_iff]⟩
def cD(n:Int)(v:List P2):D:=.tup [.int n,.tup (v.map T2)]
def Gd(n:Int)(v:List P2):Prop:=(∃T,Cut n v T)/\so2 v=v/\(v.length:Int)+3=n/\n<=16
def zjc{a b:List P2}(h:a.map T2=b.map T2):a=b:=J8 (fun _ _=>Ab) h
def Qx{n:Int}{a b:List P2}(h:cD n a=cD n b):a=b:=by simp only[cD,D.tup.injEq,List.cons.injEq,and_true,true_and]at h;exact zjc h
def Ju(l:List P2):so2 (so2 l)=so2 l:=C7 (j8 l)
def Tr{n:Int}{v:List P2}(g:Gd n v){x:P2}(hx:x∈v):∃r:List P2×P2,v3 [cD n v,T2 x]=.ok (.tup [cD n r.1,T2 r.2])/\N1 [cD n v,T2 x]=.ok (cD n r.1)/\Gd n r.1/\r.2∈r.1/\v3 [cD n r.1,T2 r.2]=.ok (.tup [cD n v,T2 x]):=by
 obtain⟨⟨T,K⟩,hs,hl,h8⟩:=g;obtain⟨w,ls0,T',pl,K',d1,d2,_⟩:=K.turn hx;have lw:=K'.inv.lin w.1 w.2 (by simp);have l0:v.length=ls0.length+1:=by have:=pl.length_eq;rwa [io]at this
 refine⟨(so2 (ls0++[w]),w),Au K (.refl _) (by omega) hx pl d1,y8s K (by omega) (by omega) hx pl d1 ⟨lw.1,lw.2.1,lw.2.2.1⟩,⟨⟨_,Vu K' (j8 _)⟩,Ju _,?_,h8⟩,(j8 _).mem_iff.mpr (by simp),?_⟩
 . rw[(j8 _).length_eq,χ,CZ];omega
 . have e:=Au (l:=w) (w:=x) K' (j8 (ls0++[w])) (by simp;omega) (by simp) (ls0:=ls0) (HA w ls0) d2;rw[C7 (show(ls0++[x]).Perm v from(HA x ls0).trans pl.symm),hs]at e;exact e
open Classical in
def tu(n:Int)(v:List P2)(x:P2):List P2×P2:=if h:∃r:List P2×P2,v3 [cD n v,T2 x]=.ok (.tup [cD n r.1,T2 r.2]) then choose h else([],(0,0))
def Y1{n:Int}{v:List P2}{x:P2}{r:List P2×P2}(h:v3 [cD n v,T2 x]=.ok (.tup [cD n r.1,T2 r.2])):tu n v x=r:=by
 have ex:∃r:List P2×P2,v3 [cD n v,T2 x]=.ok (.tup [cD n r.1,T2 r.2]):=⟨r,h⟩;have e:=Classical.choose_spec ex;have:tu n v x=Classical.choose ex:=by unfold tu;rw[dif_pos ex]
 rw[this];have e:=h.symm.trans e;simp only[R.ok.injEq,D.tup.injEq,List.cons.injEq,and_true]at e;exact EW (Qx e.1).symm (Ab e.2).symm
def U3{n:Int}{v:List P2}(g:Gd n v){x:P2}(hx:x∈v):v3 [cD n v,T2 x]=.ok (.tup [cD n (tu n v x).1,T2 (tu n v x).2])/\N1 [cD n v,T2 x]=.ok (cD n (tu n v x).1):=by obtain⟨r,h1,h2,h3,h4,h5⟩:=Tr g hx;rw[Y1 h1];exact⟨h1,h2⟩
def v4{n:Int}(v:List P2)(x:P2)(g:Gd n v)(hx:x∈v):Gd n (tu n v x).1/\(tu n v x).2∈(tu n v x).1/\tu n (tu n v x).1 (tu n v x).2=(v,x):=by obtain⟨r,h1,h2,h3,h4,h5⟩:=Tr g hx;rw[Y1 h1];exact⟨h3,h4,Y1 h5⟩
def KY(p:P2):NK:=.t [.i p.1,.i p.2]
def y1v{p q:P2}(h:KY p=KY q):p=q:=by simp only[KY,NK.t.injEq,List.cons.injEq,NK.i.injEq,and_true]at h;exact EW h.1 h.2
theorem Qw:∀v:List P2,F8 (v.map T2)=some (v.map KY)
 | []=>by simp only[CM,F8]
 |p::v=>by simp only[gD,F8,Qw v,T2,nkD,CO,KY]
def kC(n:Int)(v:List P2):NK:=.t [.i n,.t (v.map KY)]
def Ci(n:Int)(v:List P2):nkD (.tup [.int n,.tup (v.map T2)])=some (kC n v):=by simp only[nkD,F8,Qw,CO,kC]
def Qv{n:Int}{a b:List P2}(h:kC n a=kC n b):a=b:=by simp only[kC,NK.t.injEq,List.cons.injEq,and_true,true_and]at h;exact J8 (fun _ _=>y1v) h
theorem Tq:∀v:List P2,z9 (v.map KY)<=1
 | []=>by simp[z9]
 |p::v=>by have:=Tq v;simp only[gD,z9,KY,NK.dep]at this⊢;omega
def Cz(n:Int)(v:List P2):(kC n v).dep<=8:=by have:=Tq v;simp only[kC,NK.dep,z9];omega
section
variable {β:Type}
def dnC(n:Int)(κ:β->List P2)(φ:β->D)(F:List β):D:=.dn (F.map fun e=>kC n (κ e)) (F.map φ)
variable {n:Int}{κ:β->List P2}{φ:β->D}{F:List β}
def mem_kC{v:List P2}:kC n v∈(F.map fun e=>kC n (κ e))↔v∈F.map κ:=by
 rw[CF,CF];constructor
 . rintro⟨e,he,q⟩;exact⟨e,he,Qv q⟩
 . rintro⟨e,he,q⟩;exact⟨e,he,by rw[q]⟩
open Classical in
def y1w(v:List P2):dInN true (cD n v) (dnC n κ φ F)=some (.bl (!decide (v∈F.map κ))):=by unfold dnC cD;simp only[dInN,Ci,ζ (Cz n v),DY];congr 3;exact decide_eq_decide.mpr mem_kC
theorem Tp{e:β}:∀{F:List β},(F.map κ).Nodup->e∈F->valN (F.map fun e=>kC n (κ e)) (F.map φ) (kC n (κ e))=some (φ e)
 | [],_,h=>by cases h
 |a::F,nd,h=>by
  unfold valN;rw[gD,gD,CI];rw[gD,CL]at nd;by_cases q:κ a=κ e
  . have:e=a:=by
     rcases eH.mp h with z |z
     . exact z
     . exact absurd (CF.mpr ⟨e,z,q.symm⟩) nd.1
    subst this
    rw[GJ (by simp)];rfl
  . rw[GK (by simpa using fun z=>q (Qv z))];exact Tp nd.2 ((eH.mp h).resolve_left fun z=>q (by rw[z]))
def Qu(nd:(F.map κ).Nodup){e:β}(h:e∈F):dIxN (dnC n κ φ F) (cD n (κ e))=some (φ e):=by unfold dnC cD;simp only[dIxN,Ci,ζ (Cz n _),Tp nd h]
def wS{e:β}(h:κ e∉F.map κ)(hl:F.length<100000):dSetN (dnC n κ φ F) (cD n (κ e)) (φ e)=some (dnC n κ φ (F++[e])):=by unfold dnC cD;simp only[dSetN,Ci,bI];rw[ζ ⟨hl,Cz n _⟩];unfold Ha B6;rw[ξ fun z=>h (mem_kC.mp z),ξ fun z=>h (mem_kC.mp z),CS,CS];rfl
end
def oD:Option P2->D
 |none=>.non
 |some w=>T2 w
abbrev fdD(n:Int)(F:List En):D:=dnC n (fun e:En=>e.1) (fun e=>.tup [.int e.2.1,oD e.2.2]) F
def D21:List P2:=(List.range 8).flatMap fun (a:Nat)=>(((List.range 8).filter fun b=>decide (a+2<=b)).map fun (b:Nat)=>((a:Int),(b:Int)))
def wR{a b:Int}(h0:0<=a)(h1:a+2<=b)(h2:b<=7):(a,b)∈D21:=by unfold D21;rw[List.mem_flatMap];refine⟨a.toNat,EJ.mpr (by omega),?_⟩;rw[CF];exact⟨b.toNat,CA.mpr ⟨EJ.mpr (by omega),decide_eq_true (by omega)⟩,EW (by simp only;omega) (by simp only;omega)⟩
def D21_nd:D21.Nodup:=by decide +kernel
def Kr{n:Int}{v:List P2}(h8:n<=8)(g:Gd n v):(D21.filter fun p=>decide (p∈v)).Perm v:=by obtain⟨⟨T,K⟩,hs,hl,_⟩:=g;rw[EI (D21_nd.filter _) K.inv.nd];intro p;rw[CA,ng];refine⟨fun h=>h.2,fun h=>⟨?_,h⟩⟩;have:=K.inv.lin p.1 p.2 h;exact wR this.1 this.2.1 (by omega)
def Gq{n:Int}{F:List En}(h8:n<=8)(nd:(ky F).Nodup)(hg:∀e∈F,Gd n e.1):F.length<=20349:=by
 by_cases hF:F=[]
 . subst hF;simp
 obtain⟨e0,h0⟩:=EZ _ hF;obtain⟨_,_,iA,_⟩:=hg e0 h0;have gk:∀v∈ky F,Gd n v:=fun v hv=>by obtain⟨e,he,q⟩:=mem_ky.mp hv;rw[<-q];exact hg e he
 have uY:((ky F).map fun v=>D21.filter fun p=>decide (p∈v)).Nodup:=by
  unfold List.Nodup at nd⊢;rw[FQ];refine nd.imp_of_mem fun {a b} ha hb ah e=>ah ?_
  have p:a.Perm b:=(Kr h8 (gk a ha)).symm.trans (by rw[e];exact Kr h8 (gk b hb));rw[<-(gk a ha).2.1,<-(gk b hb).2.1,C7 p]
 have:=Rg (U:=sl D21 e0.1.length) uY fun s hs=>by obtain⟨v,hv,rfl⟩:=CF.mp hs;have m:=Hv (List.filter_sublist (p:=fun p=>decide (p∈v)) (l:=D21));rw[(Kr h8 (gk v hv)).length_eq]at m;have:=(gk v hv).2.2.1;rw[show v.length=e0.1.length by omega]at m;exact m
 rw[bI,Hw,show D21.length=21 by decide +kernel]at this;have e1:(ky F).length=F.length:=bI _;have:ch 21 e0.1.length<=20349:=by
  have h5:e0.1.length<=5:=by omega
  generalize e0.1.length=m at h5;rcases (by omega:m=0\/m=1\/m=2\/m=3\/m=4\/m=5) with rfl |rfl |rfl |rfl |rfl |rfl<;>decide +kernel
 omega
def qP(s:Sl):Sl.frz false s=s:=by cases s<;>rfl
def m7(n:Int)(v:List P2):(cD n v).noL=true:=by simp only[cD,D.noL,i5,Lw,DV]
def Oj(n:Int)(v:List P2):dIx (cD n v) (.int 0)=some (.int n):=Dt _ _
def Bw(n:Int)(v:List P2):dIx (cD n v) (.int 1)=some (.tup (v.map T2)):=Ds _ _ _
def Oi(n:Int)(v:List P2)(w:P2):dIx (.tup [cD n v,T2 w]) (.int 0)=some (cD n v):=Dt _ _
def kr(n:Int)(v:List P2)(w:P2):dIx (.tup [cD n v,T2 w]) (.int 1)=some (T2 w):=Ds _ _ _
def y1z(o:Option P2):(oD o).noL=true:=by cases o with
 |none=>rfl
 |some w=>exact E0 w
def Qt{n:Int}{B:List (List P2)}{v:List P2}(h:B.length<100000):k8 (.lst (B.map (cD n))) [cD n v]=some (.lst ((B++[v]).map (cD n))):=by simp only[k8,bI];rw[ζ (by omega),CS];rfl
def Jt(n:Int)(F:List En):keeps true (fdD n F)=true:=by simp only[keeps,fdD,dnC,D.shal,DY];exact B5 _ _ fun e _=>by simp only[D.noL,i5,y1z,DV]
def fb0{n k:Int}{fr B:List (List P2)}{F:List En}{dn:List P2->P2->Prop}{c0:List P2}(h8:n<=8)(M:Md (Gd n) (tu n) c0 k fr B F dn)(A:Sl){v:List P2}{x:P2}(hv:v∈fr)(hx:x∈v)(s5:Sl) :
  ∃(B':List (List P2))(F':List En)(s:Sl),Md (Gd n) (tu n) c0 k fr B' F' (fun v' x'=>dn v' x'\/(v'=v/\x'=x)) /\
   Fn [A,.ow (fdD n F),.ow (.lst (B.map (cD n))),.im (cD n v),.im (T2 x),s5]=.nx [A,.ow (fdD n F'),.ow (.lst (B'.map (cD n))),.im (cD n v),.im (T2 x),s]:=by
 obtain⟨o,ho⟩:=(M.fr v).mp hv
 have g:=M.bf.gd _ ho
 obtain⟨e1,_⟩:=U3 g hx
 obtain⟨s1,s2⟩:=M.step (fun v x g h=>v4 v x g h) hv hx
 have fl:=Gq h8 M.bf.nd M.bf.gd
 have bl:=M.bl
 generalize hr:tu n v x=r at *
 unfold Fn
 walk_at "dz"
 rw[e1]
 have ny:keeps false (D.tup [cD n r.1,T2 r.2])=true:=by simp only[keeps,tB,DG,D.noL,i5,m7,E0,DV]
 simp only[w4,ny]
 walk_at "dz"
 rw[y1w]
 walk_at "dz"
 by_cases q:r.1∈ky F
 . rw[show(decide (r.1∈List.map (fun e:En=>e.1) F))=true from decide_eq_true q];walk_at "dz";exact⟨B,F,_,s1 q,rfl⟩
 . rw[show(decide (r.1∈List.map (fun e:En=>e.1) F))=false from decide_eq_false q];walk_at "dz";have ix:dIxN (fdD n F) (cD n v)=some (.tup [.int k,oD o]):=Qu (κ:=fun e:En=>e.1) (φ:=fun e:En=>.tup [.int e.2.1,oD e.2.2]) M.bf.nd ho;rw[ix];walk_at "dz";simp only[show keeps false (cD n r.1)=true from m7 n r.1];walk_at "dz";have nw:dSetN (fdD n F) (cD n r.1) (.tup [.int (k+1),T2 r.2])=some (fdD n (F++[(r.1,k+1,some r.2)])):=wS (κ:=fun e:En=>e.1) (φ:=fun e:En=>.tup [.int e.2.1,oD e.2.2]) (e:=(r.1,k+1,some r.2)) q (by omega);rw[nw];walk_at "dz";simp only[show(cD n r.1).noL=true from m7 n r.1];walk_at "dz";rw[Qt (by omega)];walk_at "dz";exact⟨_,_,_,s2 q,rfl⟩
def fb1{n k:Int}{fr B:List (List P2)}{F:List En}{dn:List P2->P2->Prop}{c0:List P2}(h8:n<=8)(M:Md (Gd n) (tu n) c0 k fr B F dn)(A:Sl){v:List P2}(hv:v∈fr)(s4 s5:Sl) :
  ∃(B':List (List P2))(F':List En)(cJ dE:Sl),Md (Gd n) (tu n) c0 k fr B' F' (fun v' x'=>dn v' x'\/(v'=v/\x'∈v)) /\
   Fm [A,.ow (fdD n F),.ow (.lst (B.map (cD n))),.im (cD n v),s4,s5]=.nx [A,.ow (fdD n F'),.ow (.lst (B'.map (cD n))),.im (cD n v),cJ,dE]:=by
 unfold Fm
 walk_at "dz"
 rw[Bw]
 walk_at "dz"
 simp only[qP]
 obtain⟨ax,e,d,B',F',cJ,dE,hd,M',nz⟩:=Es (tg:=.n 4) (g:=Fn) (en:=T2)
  (fun r ρ=>∃(d:List P2)(B':List (List P2))(F':List En)(cJ dE:Sl),d++r=v/\Md (Gd n) (tu n) c0 k fr B' F' (fun v' x'=>dn v' x'\/(v'=v/\x'∈d))/\ρ=[A,.ow (fdD n F'),.ow (.lst (B'.map (cD n))),.im (cD n v),cJ,dE])
  v [A,.ow (fdD n F),.ow (.lst (B.map (cD n))),.im (cD n v),s4,s5] ⟨[],B,F,_,_,rfl,M.imp fun v' x' h=>h.elim id fun z=>(by cases z.2),rfl⟩ (by
   rintro x r ρ ⟨d,B',F',cJ,dE,hd,M',rfl⟩;obtain⟨B2,F2,s,M2,e⟩:=fb0 h8 M' A hv (x:=x) (by rw[<-hd];simp) dE;refine⟨_,_,rfl,Or.inl e,d++[x],B2,F2,.im (T2 x),_,by rw[<-hd];simp,M2.imp fun v' x' h=>?_,rfl⟩;rcases h with h |⟨h1,h2⟩
   . exact .inl (.inl h)
   . rcases CN.mp h2 with h2 |h2
     . exact .inl (.inr ⟨h1,h2⟩)
     . exact .inr ⟨h1,gV.mp h2⟩)
 rw[CT]at hd
 rw[hd]at M'
 rw[e,nz]
 exact⟨B',F',cJ,dE,M',rfl⟩
def y8t{n k:Int}{fr:List (List P2)}{F:List En}{c0:List P2}(h8:n<=8)(L:Lv (Gd n) (tu n) c0 k fr F)(ah:fr≠[]) :
  ∃(B:List (List P2))(F':List En),Lv (Gd n) (tu n) c0 (k+1) B F'/\Bu [.lst (fr.map (cD n)),fdD n F]=.ok (fdD n F',.lst (B.map (cD n))):=by
 have go:∃(B:List (List P2))(F':List En)(s3 s4 s5:Sl),Lv (Gd n) (tu n) c0 (k+1) B F'/\Fl [.im (.lst (fr.map (cD n))),.ow (fdD n F),.em,.em,.em,.em]=.nx [.im (.lst (fr.map (cD n))),.ow (fdD n F'),.ow (.lst (B.map (cD n))),s3,s4,s5]:=by
  unfold Fl;walk_at "dz";obtain⟨ax,e,d,B',F',s3,s4,s5,hd,M',nz⟩:=Es (tg:=.n 3) (g:=Fm) (en:=cD n)
   (fun r ρ=>∃(d:List (List P2))(B':List (List P2))(F':List En)(s3 s4 s5:Sl),d++r=fr/\Md (Gd n) (tu n) c0 k fr B' F' (fun v' x'=>v'∈d/\x'∈v')/\ρ=[.im (.lst (fr.map (cD n))),.ow (fdD n F'),.ow (.lst (B'.map (cD n))),s3,s4,s5])
   fr [.im (.lst (fr.map (cD n))),.ow (fdD n F),.ow (.lst []),.em,.em,.em] ⟨[],[],F,_,_,_,rfl,L.md.imp fun v' x' h=>(by cases h.1),rfl⟩ (by
    rintro v r ρ ⟨d,B',F',s3,s4,s5,hd,M',rfl⟩;obtain⟨B2,F2,t4,t5,M2,e⟩:=fb1 h8 M' (.im (.lst (fr.map (cD n)))) (v:=v) (by rw[<-hd];simp) s4 s5;refine⟨_,_,rfl,Or.inl e,d++[v],B2,F2,.im (cD n v),_,_,by rw[<-hd];simp,M2.imp fun v' x' h=>?_,rfl⟩;rcases CN.mp h.1 with h1 |h1
    . exact .inl ⟨h1,h.2⟩
    . have h1:=gV.mp h1;exact .inr ⟨h1,by rw[<-h1];exact h.2⟩)
  rw[CT]at hd;subst hd;rw[e,nz];exact⟨B',F',s3,s4,s5,M'.fin ah fun v hv x hx=>⟨hv,hx⟩,rfl⟩
 obtain⟨B,F',s3,s4,s5,L',e⟩:=go
 refine⟨B,F',L',?_⟩
 unfold Bu Fq
 show(match Fl [.im (.lst (fr.map (cD n))),.ow (fdD n F),.em,.em,.em,.em] with
  | .nx ρ=>match (ρ[1]?:Option Sl),(ρ[2]?:Option Sl) with
   |some (.ow d'),some (.ow r)=>R.ok (d',r)
   |_,_=>.st
  |_=>.st)=_
 rw[e]
 rfl
def za{n:Int}{c0:List P2}(h8:n<=8)(A:Sl):∀(m:Nat)(k:Int)(fr:List (List P2))(F:List En),Lv (Gd n) (tu n) c0 k fr F->(30000 - k).toNat<=m->∀aI,m<aI ->
  ∃(k':Int)(F':List En),Lv (Gd n) (tu n) c0 k' [] F'/\u9 Fi Fh aI [A,.ow (fdD n F),.ow (.lst (fr.map (cD n)))]=.nx [A,.ow (fdD n F'),.ow (.lst [])]:=by
 intro m
 induction m with
 |zero=>
  intro k fr F L hk aI hf
  have:=L.len
  have:=Gq h8 L.bf.nd L.bf.gd
  omega
 |succ m ih=>
  intro k fr F L hk aI hf
  have l1:=L.len
  have l2:=Gq h8 L.bf.nd L.bf.gd
  obtain⟨f,rfl⟩:∃f,aI=f+1:=⟨aI - 1,by omega⟩
  rw[M3]
  have t:Fi (see [A,.ow (fdD n F),.ow (.lst (fr.map (cD n)))])=.ok (decide ((fr.length:Int) > 0)):=by unfold Fi;walk_at "dz";rw[bI]
  rw[t,w4]
  by_cases q:fr=[]
  . subst q;refine⟨k,F,L,?_⟩;rw[ξ (by simp)];rfl
  . have:0<fr.length:=List.length_pos_iff.mpr q;rw[ζ (decide_eq_true (by omega))];obtain⟨B,F',L',e⟩:=y8t h8 L q;have st:Fh [A,.ow (fdD n F),.ow (.lst (fr.map (cD n)))]=.nx [A,.ow (fdD n F'),.ow (.lst (B.map (cD n)))]:=by unfold Fh Bx;walk_at "dz";simp only[qP];rw[e];walk_at "dz"
    rw[st,O4];exact ih (k+1) B F' L' (by omega) f (by omega)
def wQ{n:Int}{c0:List P2}(h8:n<=8)(g:Gd n c0):∃(k:Int)(F:List En),Lv (Gd n) (tu n) c0 k [] F/\V9 [cD n c0]=.ok (fdD n F):=by
 obtain⟨k',F',L,e⟩:=za h8 (.im (cD n c0)) 30000 0 [c0] [(c0,0,none)] (Lv.start g) (by omega) 100000 (by omega);refine⟨k',F',L,?_⟩;unfold V9 Yy;have d1:eDisp1 (a7 0) (l8 (a8 (eC (.int 0)) (a8 (eC .non) b7))) [some (cD n c0),none,none]=.ok (fdD n [(c0,0,none)]):=by unfold eDisp1;walk_at "dz";rw[cD];simp only[Ci,ζ (Cz _ _),R.of_some];rfl
 walk_at "dz";rw[d1];simp only[w4,Jt];walk_at "dz";rw[m7];walk_at "dz";unfold C5;rw[show D.lst [cD n c0]=D.lst ([c0].map (cD n)) from rfl,e];walk_at "dz"
def Gp(n:Int)(v:List P2):(cD n v).oi=true:=by simp only[cD,D.oi,ois,J5 v T2 S3,DV]
def Qs(n:Int)(v:List P2):(cD n v).dep<=3:=by have:=U5 v T2 1 Ac;simp only[cD,D.dep,j0];omega
def Go(n:Int)(v:List P2):(cD n v).pl=true:=by simp only[cD,D.pl,pls,Ad v T2 N7,DV]
def Wy(n:Int)(c0:List P2):List P2->List P2->Prop
 |v,[]=>v=c0
 |v,x::r=>x∈v/\Wy n c0 (tu n v x).1 r
def Cg(n:Int)(a b:List P2):dNe (cD n a) (cD n b)=some (.bl (!decide (a=b))):=by
 unfold dNe;rw[ζ ⟨Go n a,Go n b,by have:=Qs n a;omega⟩];congr 3;by_cases h:a=b
 . rw[h,Ar (Gp n b),decide_eq_true rfl]
 . rw[decide_eq_false h];cases z:eqD (cD n a) (cD n b) with
   |false=>rfl
   |true=>exact absurd (Qx (N8 (Gp n a) z (Gp n b))) h
def wP(ps:List P2)(w:P2):dIx (.lst ((ps++[w]).map T2)) (.int (-1))=some (T2 w):=by
 simp only[dIx,dOr,v5,atI];have:ixN ((ps++[w]).map T2).length (-1)=some ps.length:=by unfold ixN;rw[bI,χ,CZ,ξ (by omega),ζ (by omega)];congr 1;omega
 rw[this,Option.bind_some,CS,DH (by rw[bI];omega),bI,Nat.sub_self];rfl
def F3{d:D}(h:d.noL=true):keeps false d=true:=by simp only[keeps,h,DG,tB]
def y8u{n:Int}{c0:List P2}{F:List En}(nd:(ky F).Nodup){e:En}(he:e∈F)(g:Gd n e.1){w:P2}(hw:e.2.2=some w)(hm:w∈e.1)(A0:D)(ps:List P2)(hl:ps.length<1000) :
  Bo [.im A0,.im (cD n c0),.ow (fdD n F),.ow (.lst (ps.map T2)),.im (cD n e.1)]=.nx [.im A0,.im (cD n c0),.ow (fdD n F),.ow (.lst ((ps++[w]).map T2)),.im (cD n (tu n e.1 w).1)]:=by
 have ix:dIxN (fdD n F) (cD n e.1)=some (.tup [.int e.2.1,oD e.2.2]):=Qu nd he
 rw[hw]at ix
 have ts:=(U3 g hm).1
 have la:=wP ps w
 have ap:k8 (.lst (ps.map T2)) [T2 w]=some (.lst ((ps++[w]).map T2)):=by obtain⟨a,b⟩:=w;exact Aa (by omega)
 have kf:=Jt n F
 have k1:=m7 n (tu n e.1 w).1
 have s0:=Oi n (tu n e.1 w).1 (tu n e.1 w).2
 have kl:=Lw (ps++[w])
 generalize cD n (tu n e.1 w).1=Y at *
 generalize cD n e.1=X at *
 generalize cD n c0=Z at *
 generalize fdD n F=W at *
 generalize (ps++[w]).map T2=V at *
 generalize ps.map T2=U at *
 show Bo _=_
 unfold Bo
 walk_at "dz"
 rw[ix]
 walk_at "dz"
 rw[show oD (some w)=T2 w from rfl]
 walk_at "dz"
 rw[ap]
 walk_at "dz"
 rw[la]
 walk_at "dz"
 rw[ts]
 walk_at "dz"
 rw[F3 k1]
 walk_at "dz"
def kq{n:Int}(c0 v:List P2)(A0 W U:D):Fg (see [.im A0,.im (cD n c0),.ow W,.ow U,.im (cD n v)])=.ok (!decide (v=c0)):=by have e:=Cg n v c0;generalize cD n v=X at *;generalize cD n c0=Z at *;unfold Fg;walk_at "dz";rw[e];walk_at "dz"
theorem ko{n k:Int}{c0:List P2}{F:List En}(L:Lv (Gd n) (tu n) c0 k [] F)(A0:D):∀(d:Nat)(e:En),e∈F->e.2.1=d->∀(ps:List P2)(aI:Nat),d<aI->ps.length+d<1000->∃qs:List P2,qs.length=d/\Wy n c0 e.1 qs /\
  u9 Fg Bo aI [.im A0,.im (cD n c0),.ow (fdD n F),.ow (.lst (ps.map T2)),.im (cD n e.1)]=.nx [.im A0,.im (cD n c0),.ow (fdD n F),.ow (.lst ((ps++qs).map T2)),.im (cD n c0)]
 |d,e,he,hd,ps,0,hf,_=>by omega
 | 0,e,he,hd,ps,aI+1,hf,_=>by have z:e.1=c0:=(L.bf.z e he).mp (by omega);refine⟨[],rfl,z,?_⟩;unfold u9;rw[kq,decide_eq_true z,z,CT];rfl
 |d+1,e,he,hd,ps,aI+1,hf,hl=>by
  have z:e.1≠c0:=fun q=>by have:=(L.bf.z e he).mpr q;omega
  obtain⟨w,hw,hm,e',eP,h1,h2⟩:=L.bf.bk e he (by omega);obtain⟨qs,q1,q2,q3⟩:=ko L A0 d e' eP (by omega) (ps++[w]) aI (by omega) (by rw[χ,CZ];omega);refine⟨w::qs,by rw[io,q1],⟨hm,by rw[<-h1];exact q2⟩,?_⟩;unfold u9;rw[kq,decide_eq_false z,w4,ζ (show(!false)=true from rfl),y8u L.bf.nd he (L.bf.gd e he) hw hm A0 ps (by omega),<-h1];show u9 _ _ aI _=_;rw[q3,GL];rfl
def wO{n k:Int}{c0:List P2}{F:List En}(L:Lv (Gd n) (tu n) c0 k [] F)(es:V9 [cD n c0]=.ok (fdD n F)){e:En}(he:e∈F)(h8:e.2.1<900):∃qs:List P2,(qs.length:Int)=e.2.1/\Wy n c0 e.1 qs/\V7 [cD n e.1,cD n c0]=.ok (.lst (qs.map T2)):=by have h0:=(L.bf.le e he).1;obtain⟨qs,q1,q2,q3⟩:=ko L (cD n e.1) e.2.1.toNat e he (by omega) [] 1000 (by omega) (by simp only[FA];omega);refine⟨qs,by omega,q2,?_⟩;rw[DT,CM]at q3;have kf:=Jt n F;have k1:=m7 n e.1;have k2:=Lw qs;generalize cD n e.1=X at *;generalize cD n c0=Z at *;generalize fdD n F=W at *;generalize qs.map T2=V at *;unfold V7 Yw;walk_at "dz";rw[es];simp only[w4];rw[kf];walk_at "dz";rw[F3 k1];walk_at "dz";unfold C5;rw[q3];walk_at "dz"
def Gn{n:Int}{v v0:List P2}{T:List P3}{x w:P2}(I:CInv n v T)(nv:v.length<=60)(pl:v.Perm (x::v0))(hw:dues T x=[w.1,w.2]):tu n v x=(so2 (v0++[w]),w):=
 Y1 (Au I.cut (.refl _) nv (pl.mem_iff.mpr gq) pl hw)
def y20{r:Int}{ls:List P2}{T:List P3}(I:CInv r ls T)(h8:r<=16):Gd r (so2 ls):=
 ⟨⟨T,Vu I.cut (j8 _)⟩,Ju _,by rw[(j8 ls).length_eq];exact I.num,h8⟩
def Gd.inv{n:Int}{v:List P2}(g:Gd n v):∃T,CInv n v T:=g.1.imp fun _ K=>K.inv
def Gd.len{n:Int}{v:List P2}(g:Gd n v):v.length<=13:=by have:=g.2.2.1;have:=g.2.2.2;omega
theorem qO{n k:Int}{c0:List P2}{F:List En}(L:Lv (Gd n) (tu n) c0 k [] F):∀(qs v:List P2),Gd n v->Wy n c0 v qs->∃e∈F,e.1=v/\e.2.1<=qs.length
 | [],v,g,h=>by obtain⟨e,he,h1⟩:=mem_ky.mp L.bf.c0;exact⟨e,he,h1.trans h.symm,by have:=(L.bf.z e he).mpr h1;simp;omega⟩
 |x::r,v,g,h=>by obtain⟨g1,g2,g3⟩:=v4 v x g h.1;obtain⟨e,he,h1,h2⟩:=qO L r _ g1 h.2;rw[<-h1]at g2 g3;obtain⟨e',k1,k2,k3,_⟩:=L.done v4 he g2;rw[g3]at k2;exact⟨e',k1,k2,by rw[io];push_cast;omega⟩
theorem T6{n:Int}{c0 u:List P2}:∀(qs rs v:List P2),Wy n u v qs->Wy n c0 u rs->Wy n c0 v (qs++rs)
 | [],rs,v,h,h2=>by have h:v=u:=h;rw[h];exact h2
 |x::qs,rs,v,h,h2=>⟨h.1,T6 qs rs _ h.2 h2⟩
theorem To{n:Int}{c0:List P2}:∀(qs v:List P2),Gd n v->Wy n c0 v qs->∃rs,rs.length=qs.length/\Wy n v c0 rs
 | [],v,g,h=>⟨[],rfl,(show v=c0 from h).symm⟩
 |x::qs,v,g,h=>by obtain⟨g1,g2,g3⟩:=v4 v x g h.1;obtain⟨rs,hl,hr⟩:=To qs _ g1 h.2;exact⟨rs++[(tu n v x).2],by simp[hl],T6 rs _ c0 hr ⟨g2,by rw[g3];rfl⟩⟩
def mis(n:Int)(v:List P2):List Nat:=(List.range 16).filter fun j=>decide (2<=j/\(j:Int)<=n - 2/\(0,(j:Int))∉v)
theorem km{n:Int}{v:List P2}{T:List P3}(I:CInv n v T){j:Int}(hj:(0,j)∉v)(j2:2<=j):∀(m:Nat)(b:Int),b.toNat<=m->(((0:Int),b)=(0,n - 1)\/((0:Int),b)∈v)->j<b->∃a b',(0,a,b')∈T/\a<j/\j<b'
 | 0,b,hm,h,hb=>by omega
 |m+1,b,hm,h,hb=>by
  obtain⟨c,hc⟩:=under I h;obtain⟨t1,t2,t3,t4,t5,t6⟩:=I.tri _ _ _ hc;by_cases q:c<j
  . exact⟨c,b,hc,q,hb⟩
  . have q2:c≠j:=fun e=>by
     rcases t5 with t5 |t5
     . exact hj (e ▸ t5)
     . omega
    refine km I hj j2 m c (by omega) ?_ (by omega)
    rcases t5 with t5 |t5
    . exact .inr t5
    . omega
def wN{n:Int}{v u:List P2}(g:Gd n v)(g':Gd n u)(h:mis n v=[])(h':mis n u=[]):v=u:=by
 have key:∀{v u:List P2},Gd n v->Gd n u->mis n v=[]->mis n u=[]->∀p∈v,p∈u:=by
  intro v u g g' h h' p hp;obtain⟨T,I⟩:=g.inv;have h8:=g.2.2.2;have all:∀{v:List P2},mis n v=[]->∀j:Int,2<=j->j<=n - 2->(0,j)∈v:=fun {v} h j h1 h2=>by
   apply CB;intro z;have:j.toNat∈mis n v:=by
    unfold mis;rw[CA,EJ];have e:((j.toNat:Nat):Int)=j:=by omega
    rw[e];exact⟨by omega,decide_eq_true ⟨by omega,h2,z⟩⟩
   rw[h]at this;cases this
  obtain⟨a,b⟩:=p;obtain⟨l1,l2,l3,l4⟩:=I.lin a b hp;by_cases c:a=0
  . subst c;exact all h' b (by omega) (by omega)
  . exact absurd ⟨by omega,by omega,by omega⟩ (I.nc 0 (a+1) a b (all h (a+1) (by omega) (by omega)) hp)
 obtain⟨T,I⟩:=g.inv;obtain⟨T',I'⟩:=g'.inv;have p:v.Perm u:=(EI I.nd I'.nd).mpr fun x=>⟨key g g' h h' x,key g' g h' h x⟩
 rw[<-g.2.1,<-g'.2.1,C7 p]
theorem to_fan{n:Int}:∀(m:Nat)(v:List P2),Gd n v->(mis n v).length<=m->∃u qs,Gd n u/\mis n u=[]/\Wy n u v qs/\qs.length<=m
 | 0,v,g,h=>⟨v,[],g,DO.mp (by omega),rfl,η _⟩
 |m+1,v,g,h=>by
  by_cases c:mis n v=[]
  . exact⟨v,[],g,c,rfl,DC _⟩
  obtain⟨j,hj⟩:=EZ _ c;have eR:=hj;unfold mis at eR;rw[CA]at eR;obtain⟨j2,j3,j4⟩:=EH eR.2;obtain⟨T,I⟩:=g.inv;obtain⟨a,b,ht,a1,b1⟩:=km I j4 (by omega) (n - 1).toNat (n - 1) (η _) (.inl rfl) (by omega);obtain⟨t1,t2,t3,t4,t5,t6⟩:=I.tri _ _ _ ht;have bF:(a,b)∈v:=by rcases t6 with t6 |t6;exact t6;omega
  obtain⟨d,hd⟩:=under I (.inr bF);obtain⟨s1,s2,s3,s4,s5,s6⟩:=I.tri _ _ _ hd;have hw:=Z6 I.cut bF hd ht;have pl:v.Perm ((a,b)::v.erase (a,b)):=GR bF;have et:=Gn (w:=(0,d)) I (by have:=g.len;omega) pl hw;obtain⟨g1,g2,g3⟩:=v4 v (a,b) g bF;rw[et]at g1;have mem:∀p,p∈so2 (v.erase (a,b)++[(0,d)])↔(p∈v.erase (a,b)\/p=(0,d)):=fun p=>by rw[(j8 _).mem_iff];simp
  have av:(mis n (so2 (v.erase (a,b)++[(0,d)]))).length<(mis n v).length:=by
   unfold mis;apply Hx
   . intro i hi;obtain⟨i1,i2,i3⟩:=EH hi;refine decide_eq_true ⟨i1,i2,fun z=>i3 ((mem _).mpr (.inl ((List.mem_erase_of_ne ?_).mpr z)))⟩;intro e;have:=DI Prod.fst e;simp only at this;omega
   . have ed:((d.toNat:Nat):Int)=d:=by omega
     have h8:=g.2.2.2;refine⟨d.toNat,EJ.mpr (by omega),?_,?_⟩
     . rw[ed];exact decide_eq_true ⟨by omega,by omega,fun z=>I.nc 0 d a b z bF ⟨by omega,by omega,by omega⟩⟩
     . rw[ed];exact decide_eq_false fun z=>z.2.2 ((mem _).mpr (.inr rfl))
  obtain⟨u,qs,h1,h2,h3,h4⟩:=to_fan m (so2 (v.erase (a,b)++[(0,d)])) g1 (by omega);exact⟨u,(a,b)::qs,h1,h2,⟨bF,by rw[et];exact h3⟩,by rw[io];omega⟩
def Qr(n:Int)(v:List P2):(mis n v).length<=16:=CD (DA _ _) (by rw[List.length_range];exact η _)
def y8v{n:Int}{v c0:List P2}(g:Gd n v)(g0:Gd n c0):∃qs,Wy n c0 v qs/\qs.length<=32:=by obtain⟨u,qs,h1,h2,h3,h4⟩:=to_fan 16 v g (Qr n v);obtain⟨u',uZ,k1,k2,k3,k4⟩:=to_fan 16 c0 g0 (Qr n c0);have e:=wN h1 k1 h2 k2;subst e;obtain⟨rs,hl,hr⟩:=To uZ c0 g0 k3;exact⟨_,T6 qs rs v h3 hr,by rw[χ];omega⟩
def y8w{n k:Int}{v c0:List P2}{F:List En}(g:Gd n v)(g0:Gd n c0)(L:Lv (Gd n) (tu n) c0 k [] F):∃e∈F,e.1=v/\e.2.1<=32:=by obtain⟨qs,h1,h2⟩:=y8v g g0;obtain⟨e,he,k1,k2⟩:=qO L qs v g h1;exact⟨e,he,k1,by omega⟩
theorem qN{n:Int}{c0:List P2}:∀(qs v:List P2),Gd n v->Wy n c0 v qs->∀p∈qs,0<=p.1/\p.1<n/\0<=p.2/\p.2<n
 | [],v,g,h,p,hp=>by cases hp
 |x::r,v,g,h,p,hp=>by
  rcases eH.mp hp with rfl |hp
  . obtain⟨T,I⟩:=g.inv;have:=I.lin p.1 p.2 h.1;omega
  . exact qN r _ (v4 v x g h.1).1 h.2 p hp
def Cf{R:List Int}(hr:R.Pairwise (·<·)){v:List P2}(h:so2 v=v):so2 (ptL R v)=ptL R v:=by
 have pw:v.Pairwise le2:=by rw[<-h];exact Rl v
 refine(y1m ?_ (.refl _)).symm;unfold ptL ptA;refine List.Pairwise.filter _ ?_;rw[FQ];refine((pw.filter fun p=>decide (p.1∈R)&&decide (p.2∈R))).imp_of_mem fun {a b} ha hb hl=>?_
 rw[CA,gR,ng,ng]at ha hb;have e1:=l9 hr ha.2.1 hb.2.1;have e2:=l9 hr ha.2.2 hb.2.2;unfold le2 at hl⊢;simp only;rcases hl with hl |⟨h1,h2⟩
 . exact .inl (e1.1.mpr hl)
 . refine .inr ⟨e1.2.mpr h1,?_⟩;rcases DR h2 with h2 |h2
   . exact GN (e2.1.mpr h2)
   . exact Int.le_of_eq (e2.2.mpr h2)
def Gm{n:Int}{B v:List P2}{t:P2}{R:List Int}(M:Rm n B t R)(g:Gd n v)(sub:∀p∈B,p∈v):Gd R.length (ptL R v):=by obtain⟨T,I⟩:=g.inv;have h8:=g.2.2.2;have rg:=M.rng;have:=Vv M.rise M.lo (by omega);have:=y20 (M.part I sub) (by omega);rwa [Cf M.rise g.2.1]at this
def y8x(k:Int)(xs:List Int):dIn false (.int k) (L xs)=some (.bl (decide (k∈xs))):=by
 have e:(xs.map D.int).any (fun e=>eqD e (.int k))=decide (k∈xs):=by
  rw[List.any_map,FB,List.any_eq_true,ng];constructor
  . rintro⟨x,hx,h⟩;simp only[Function.comp,eqD,FE]at h;rw[<-h];exact hx
  . intro h;exact⟨k,h,by simp[eqD]⟩
 have h1:j0 (xs.map D.int)<=0:=U5 xs D.int 0 fun x=>by simp[D.dep]
 have h2:pls (xs.map D.int)=true:=Ad xs D.int fun x=>rfl
 unfold dIn dOr N3;simp only[L,D.pl,h2,true_and,ζ (show j0 (xs.map D.int)<=20 by omega),e,tB,DG]
def yZ(r:Int)(p:P2):Be [.int r,T2 p]=.ok (.bl (isLn r p)):=by
 have hs:=Qz r p;have e:isLn r p=if decide (0<=p.1)=true then(if decide (p.1<p.2)=true then(decide (p.2<r)&&!K7 r p.1 p.2) else false) else false:=by
  rw[FB];unfold isLn;rw[ng];by_cases c1:0<=p.1
  . by_cases c2:p.1<p.2
    . rw[ζ (decide_eq_true c1),ζ (decide_eq_true c2),gR,FS,ng,<-Bool.not_eq_true,zd];exact⟨fun h=>⟨h.2.2.1,fun z=>h.2.2.2 z.2⟩,fun h=>⟨c1,c2,h.1,fun z=>h.2 ⟨⟨c1,h.1⟩,z⟩⟩⟩
    . rw[ζ (decide_eq_true c1),decide_eq_false c2];simp;omega
  . rw[decide_eq_false c1];simp;omega
 unfold Be Xn;walk_at "dz";rw[hs];rw[e];by_cases c1:0<=p.1
 . rw[decide_eq_true c1];by_cases c2:p.1<p.2
   . rw[decide_eq_true c2];simp only[DY];walk_at "dz"
   . rw[decide_eq_false c2];simp only[DY,tB,DG];walk_at "dz"
 . rw[decide_eq_false c1];simp only[tB,DG];walk_at "dz"
def wM(c:Int)(p:P2)(ls:List P2)(hl:ls.length<=1000):P9 [.int c,T2 p,.lst (ls.map T2)]=.ok (.int (nxt ls p c)):=by
 unfold P9 Ob;walk_at "dz";rw[ζ (by rw[bI];omega),E3 (en:=T2) (bs:=fun l=>[T2 l]) (p:=pk c p) (g:=fun l=>D.int l.2) ls (fun x _=>rfl) (fun l _=>by
  unfold Oe;simp only[T2];walk_at "dz";rfl) (fun l _ _=>by
  unfold Od;simp only[T2];walk_at "dz")]
 simp only[R.bind_ok];rw[show D.lst ((ls.filter (pk c p)).map fun l=>D.int l.2)=L (ends c p ls) by unfold L ends;rw[DJ];rfl];walk_at "dz";rw[Ra];walk_at "dz";rfl
def Vt(ls:List P2)(p:P2)(xs:List Int)(v:Int):P7 [some (T2 p),some (.lst (ls.map T2)),some (L (xs++[v]))]=.ok (decide (v<p.2)):=by unfold P7;simp only[T2];walk_at "dz";rw[Db];walk_at "dz"
def yY(ls:List P2)(hl:ls.length<=1000)(p:P2)(xs:List Int)(v:Int)(hx:xs.length<1000):P6 [.im (T2 p),.im (.lst (ls.map T2)),.ow (L (xs++[v]))]=.nx [.im (T2 p),.im (.lst (ls.map T2)),.ow (L (xs++[v]++[nxt ls p v]))]:=by unfold P6;walk_at "dz";rw[Db];walk_at "dz";rw[wM _ _ _ hl];walk_at "dz";rw[Gx (by simp;omega)];walk_at "dz"
def yX(ls:List P2)(hl:ls.length<=1000)(p:P2){c:Int}{l:List Int}{es:List P2}(h:Ch p.2 (nxt ls p) c l es):∀(f:Nat)(xs:List Int),l.length<=f->xs.length+l.length<1000 ->
  u9 P7 P6 f [.im (T2 p),.im (.lst (ls.map T2)),.ow (L (xs++[c]))]=.nx [.im (T2 p),.im (.lst (ls.map T2)),.ow (L (xs++l))]:=by
 induction h with
 |last=>
  intro f xs hf hx
  obtain⟨f,rfl⟩:∃g,f=g+1:=⟨f - 1,by simp at hf;omega⟩
  rw[M3]
  simp only[Z0,Ai,At,Z1]
  rw[Vt,w4,decide_eq_false (show ¬p.2<p.2 by omega),ξ θ]
 | @step c l es h r ih=>
  intro f xs hf hx
  rw[io]at hf hx
  obtain⟨f,rfl⟩:∃g,f=g+1:=⟨f - 1,by omega⟩
  rw[M3]
  simp only[Z0,Ai,At,Z1]
  rw[Vt,w4,decide_eq_true h,ζ rfl,yY ls hl p xs c (by omega),O4,ih f (xs++[c]) (by omega) (by simp;omega)]
  simp
def yW(ls:List P2)(hl:ls.length<=1000)(p:P2){l:List Int}{es:List P2}(h:Ch p.2 (nxt ls p) p.1 l es)(hn:l.length<=100):P4 [T2 p,.lst (ls.map T2)]=.ok (TuI l):=by unfold P4 Nj;walk_at "dz";have w:=yX ls hl p h 1000 [] (by omega) (by simp;omega);rw[DT,DT]at w;rw[show D.lst [D.int p.1]=L [p.1] from rfl];unfold C5;rw[w];walk_at "dz";rfl
def yV{n:Int}{ls:List P2}(I:Lns n ls)(hn:n<=60):∃(C:P2->List Int)(E:P2->List P2),∀t,j1 n ls t->Ch t.2 (nxt ls t) t.1 (C t) (E t)/\(C t).length<=60:=by
 have ex:∀t,∃q:List Int×List P2,j1 n ls t->Ch t.2 (nxt ls t) t.1 q.1 q.2/\q.1.length<=60:=fun t=>by
  by_cases h:j1 n ls t
  . have tt:=I.top (a:=t.1) (b:=t.2) h;have X:=Cj I t;obtain⟨l,es,r⟩:=Ch.ex X.up (t.2 - t.1).toNat t.1 (by omega) (η _);have:=r.len X.up;exact⟨(l,es),fun _=>⟨r,by simp only;omega⟩⟩
  . exact⟨([],[]),fun z=>absurd z h⟩
 exact⟨fun t=>(Classical.choose (ex t)).1,fun t=>(Classical.choose (ex t)).2,fun t ht=>Classical.choose_spec (ex t) ht⟩
def wL(l:List Int):(TuI l).dep<=1:=by simp only[TuI,D.dep,(La l).2];omega
def wK(a b:List Int):(g9 (TuI a) (TuI b)).isSome=true:=by obtain⟨r,h⟩:=Xu a b;simp only[TuI,g9,h,Option.isSome_some]
def soT{α:Type}(F:α->List Int)(ts:List α):List α:=sortB (fun a b=>ltT (TuI (F a)) (TuI (F b))) ts
def yU{α:Type}(F:α->List Int)(ts:List α):(soT F ts).Perm ts:=Bl _ _
def yT{α:Type}(F:α->List Int)(ts:List α)(hF:∀t∈ts,F t≠[])(hl:ts.length<64):z7 [.lst (ts.map fun t=>TuI (F t))]=some (.lst ((soT F ts).map fun t=>TuI (F t))):=by
 rw[El ts (fun t=>TuI (F t)) 1 (by omega) (fun t=>y0r _) (fun t=>wL _) (fun _ _=>wK _ _) ?_ hl,Bg (f:=fun t=>TuI (F t))]
 . rfl
 . rw[EB,EB,DF,DF];refine .inl (.inr ?_);intro d hd;obtain⟨t,ht,rfl⟩:=CF.mp hd;have:=hF t ht;cases e:F t with
   |nil=>exact absurd e this
   |cons a r=>simp only[TuI,gD,E6]
def yS{n:Int}{ls:List P2}(hl:ls.length<=57){C:P2->List Int}{E:P2->List P2}(hC:∀t,j1 n ls t->Ch t.2 (nxt ls t) t.1 (C t) (E t)/\(C t).length<=60) :
  M0 [.int n,.lst (ls.map T2)]=.ok (.lst ((soT C ((0,n - 1)::ls)).map fun t=>TuI (C t))):=by
 unfold M0 Ka
 walk_at "dz"
 rw[show x6 (D.lst [D.tup [D.int 0,D.int (n - 1)]]) (D.lst (ls.map T2))=some (.lst (((0,n - 1)::ls).map T2)) by simp only[x6];rw[ζ (by simp;omega)];rfl]
 obtain⟨tops,ht⟩:∃tops:List P2,tops=(0,n - 1)::ls:=⟨_,rfl⟩
 have av:tops.length<=58:=by rw[ht,io];omega
 rw[<-ht]
 have kp:keeps true (D.lst (tops.map T2))=true:=by rw[Lx];exact B5 _ _ fun x _=>E0 x
 simp only[R.of_some,w4,kp]
 walk_at "dz"
 rw[ζ (by rw[bI];omega),M8 (en:=T2) (bs:=fun q=>[T2 q]) (g:=fun q=>TuI (C q)) tops (fun x _=>rfl) (fun q hq=>by unfold Ln;walk_at "dz";have:=hC q (by rw[ht]at hq;exact eH.mp hq);exact yW ls (by omega) q this.1 (by omega))]
 walk_at "dz"
 rw[yT C tops (fun t fS=>by have:=(hC t (by rw[ht]at fS;exact eH.mp fS)).1.ends.2;obtain⟨m,e⟩:=this;rw[e];simp) (by rw[ht,io];omega)]
 walk_at "dz"
def bk(R:List Int)(p:P2):P2:=(R.getD p.1.toNat 0,R.getD p.2.toNat 0)
def y5s{R:List Int}{a b:Int}(ha:a∈R)(hb:b∈R):bk R (ix R a,ix R b)=(a,b):=by unfold bk ix;simp only[Int.toNat_natCast,pp,Z4 ha,Z4 hb,Option.getD_some]
theorem Vs{n:Int}{B:List P2}{t:P2}{R:List Int}(L:Lns n B)(M:Rm n B t R){ut:List P2}:∀(q c:List P2),Gd n c->(∀p∈B,p∈c)->Wy R.length ut (ptL R c) q ->
  ∃c',Gd n c'/\(∀p∈B,p∈c')/\Wy n c' c (q.map (bk R))/\ptL R c'=ut/\∀t2 R2,Rm n B t2 R2->t2≠t->ptL R2 c'=ptL R2 c
 | [],c,g,sub,h=>⟨c,g,sub,rfl,h,fun _ _ _ _=>rfl⟩
 | (i,j)::q,c,g,sub,h=>by
  obtain⟨a,b,hf,ha,hb,F,rfl,rfl⟩:=M.mem.mp h.1;obtain⟨T,I⟩:=g.inv;obtain⟨w,c0,T',pl,K',d1,d2,_⟩:=I.cut.turn hf;have et:=Gn I (by have:=g.len;omega) pl d1;obtain⟨g1,_,_⟩:=v4 c (a,b) g hf;rw[et]at g1;have g1:Gd n (so2 (c0++[w])):=g1;obtain⟨w1,w2,wF,ox,p1,p2,p3,p4⟩:=M.turn L I sub hf ha hb F pl d1;have oy:∀p∈B,p∈so2 (c0++[w]):=fun p hp=>(j8 _).mem_iff.mpr (ox p hp)
  have J:=M.part I sub;have gp:=Gm M g sub;have e1:(tu R.length (ptL R c) (ix R a,ix R b)).1=ptL R (so2 (c0++[w])):=by rw[Gn (w:=(ix R w.1,ix R w.2)) J (by have:=gp.len;omega) p1 p3,<-Cf M.rise g1.2.1,C7 (Ep R (j8 (c0++[w]))),p2]
  have h2:=h.2;rw[e1]at h2;obtain⟨c',k1,k2,k3,k4,k5⟩:=Vs L M q _ g1 oy h2;refine⟨c',k1,k2,?_,k4,fun t2 R2 M2 ah=>?_⟩
  . rw[gD,y5s ha hb];exact⟨hf,by rw[et];exact k3⟩
  . rw[k5 t2 R2 M2 ah,<-Cf M2.rise g1.2.1,C7 ((Ep R2 (j8 _)).trans (p4 t2 R2 M2 ah)),Cf M2.rise g.2.1]
theorem Xh{n:Int}{B v u:List P2}(L:Lns n B)(C:P2->List Int)(q:P2->List P2):∀(ts:List P2),ts.Nodup->(∀t∈ts,Rm n B t (C t))->(∀t∈ts,Wy (C t).length (ptL (C t) u) (ptL (C t) v) (q t))->∀c,Gd n c->(∀p∈B,p∈c)->(∀t∈ts,ptL (C t) c=ptL (C t) v) ->
  ∃c',Gd n c'/\(∀p∈B,p∈c')/\Wy n c' c (ts.flatMap fun t=>(q t).map (bk (C t)))/\(∀t∈ts,ptL (C t) c'=ptL (C t) u)/\∀t2,Rm n B t2 (C t2)->t2∉ts->ptL (C t2) c'=ptL (C t2) c
 | [],_,_,_,c,g,sub,h=>⟨c,g,sub,rfl,fun t ht=>(by cases ht),fun _ _ _=>rfl⟩
 |t::ts,nd,hC,hq,c,g,sub,h=>by
  have eD:=CL.mp nd;have M:=hC t gq;obtain⟨c1,g1,s1,w1,e1,o1⟩:=Vs L M (q t) c g sub (by rw[h t gq];exact hq t gq);obtain⟨c2,g2,s2,w2,e2,o2⟩:=Xh L C q ts eD.2 (fun s hs=>hC s (dg _ hs)) (fun s hs=>hq s (dg _ hs)) c1 g1 s1 fun s hs=>by rw[o1 s _ (hC s (dg _ hs)) fun e=>eD.1 (e ▸ hs)];exact h s (dg _ hs)
  refine⟨c2,g2,s2,?_,fun s hs=>?_,fun s Ms hs=>?_⟩
  . rw[List.flatMap_cons];exact T6 _ _ c w1 w2
  . rcases eH.mp hs with rfl |hs
    . rw[o2 s M eD.1,e1]
    . exact e2 s hs
  . rw[o2 s Ms fun z=>hs (dg _ z),o1 s _ Ms fun e=>hs (e ▸ gq)]
def wJ{n:Int}{B v u:List P2}(gv:Gd n v)(gu:Gd n u)(nB:B.Nodup)(sv:∀p∈B,p∈v)(su:∀p∈B,p∈u)(C:P2->List Int)(hC:∀t,j1 n B t->Rm n B t (C t))(q:P2->List P2)(ts:List P2)(ft:ts.Perm ((0,n - 1)::B))(nd:ts.Nodup)(hq:∀t∈ts,Wy (C t).length (ptL (C t) u) (ptL (C t) v) (q t)) :
  Wy n u v (ts.flatMap fun t=>(q t).map (bk (C t))):=by
 obtain⟨T,I⟩:=gv.inv
 have L:=I.lns nB sv
 have top:∀t,t∈ts↔j1 n B t:=fun t=>by rw[ft.mem_iff,eH];rfl
 obtain⟨c,g,s,w,e,_⟩:=Xh (u:=u) L C q ts nd (fun t ht=>hC t ((top t).mp ht)) hq v gv sv fun _ _=>rfl
 obtain⟨Tc,Ic⟩:=g.inv
 obtain⟨Tu,Iu⟩:=gu.inv
 have h1:=Xp (us:=u) Ic nB s su C hC fun t ht p hp=>by rw[<-e t ((top t).mpr ht)];exact hp
 have h2:=Xp (us:=c) Iu nB su s C hC fun t ht p hp=>by rw[e t ((top t).mpr ht)];exact hp
 have:c=u:=by rw[<-g.2.1,<-gu.2.1,C7 ((EI Ic.nd Iu.nd).mpr fun p=>⟨h1 p,h2 p⟩)]
 rw[<-this]
 exact w
def qM(k:Int)(xs:List Int):dIn false (.int k) (TuI xs)=some (.bl (decide (k∈xs))):=by have:=y8x k xs;unfold L at this;unfold TuI;exact this
def qK{R:List Int}{a:Int}(h:a∈R):Ck (R.map D.int) (.int a)=some (.int (ix R a)):=by simp only[Ck,W0,ζ h];rfl
def Qq{n:Int}(R:List Int)(v:List P2)(hv:v.length<=60):V3 [TuI R,cD n v]=.ok (cD R.length (ptL R v)):=by
 unfold V3 Xm;walk_at "dz";rw[Bw];walk_at "dz";rw[ζ (by rw[bI];omega),E3 (en:=T2) (bs:=fun l=>[.int l.1,.int l.2]) (p:=fun p=>decide (p.1∈R)&&decide (p.2∈R)) (g:=fun p=>T2 (ix R p.1,ix R p.2)) v (fun x _=>rfl) (fun l _=>by
  unfold jk;walk_at "dz";rw[qM,qM];walk_at "dz") (fun l _ h=>by
  rw[gR,ng,ng]at h;unfold ji;walk_at "dz";simp only[R9,TuI];walk_at "dz";rw[qK h.1];walk_at "dz";rw[qK h.2];walk_at "dz";rfl)]
 simp only[L2.R.bind_ok];rw[show D.lst ((v.filter fun p=>decide (p.1∈R)&&decide (p.2∈R)).map fun p=>T2 (ix R p.1,ix R p.2))=D.lst ((ptA R v).map T2) by unfold ptA;rw[DJ];rfl];have hA:(ptA R v).length<=60:=by unfold ptA;rw[bI];exact CD (DA _ _) hv
 unfold ptL;generalize ptA R v=A at hA;walk_at "dz";rw[show k9 [TuI R]=some (.int (R.length:Int)) by unfold TuI;simp[k9]];walk_at "dz";rw[ζ (by rw[bI];omega),E3 (en:=T2) (bs:=fun l=>[T2 l]) (p:=isLn R.length) (g:=T2) A (fun x _=>rfl) (fun l _=>by
  unfold jh;walk_at "dz";rw[show k9 [TuI R]=some (.int (R.length:Int)) by unfold TuI;simp[k9]];walk_at "dz";rw[yZ];walk_at "dz") (fun l _ h=>by
  unfold jg;walk_at "dz")]
 walk_at "dz";rfl
def qJ{l:List Int}{k:Int}(h0:0<=k)(h:k<l.length):dIx (TuI l) (.int k)=some (.int (l.getD k.toNat 0)):=by have e:dIx (TuI l) (.int k)=dIx (L l) (.int k):=rfl;have:=y8e (ns:=l) (k:=k.toNat) (by omega);rw[show((k.toNat:Nat):Int)=k by omega]at this;rw[e,this]
def y8y{n a b r:Int}{m:Nat}(h:(n - (b - a)).toNat<=m+1)(hr:b<r)(hb:r<=n - 1)(ha:0<=a):(n - (r - a)).toNat<=m:=by omega
def y8z{n a b r:Int}{m:Nat}(h:(n - (b - a)).toNat<=m+1)(hr:r<a)(hb:b<=n - 1)(ha:0<=r):(n - (b - r)).toNat<=m:=by omega
def y90{n a b:Int}(h:(n - (b - a)).toNat<=0)(hb:b<=n - 1)(ha:0<=a):False:=by omega
def y91{a b d:Int}{m:Nat}(h:(b - a).toNat<=m+1)(h1:a<d)(h2:d<b):(d - a).toNat<=m/\(b - d).toNat<=m:=by omega
def Ce{a c d:Int}(h1:a<c)(h2:c<d):¬d=a+1:=by omega
section
variable {n c:Int}{ls:List P2}{T:List P3}
theorem Al(I:CInv n ls T)(hf:∀t∈T,has c t=true->opp c t∉ls):∀(m:Nat)(a b:Int),(b - a).toNat<=m->(a,b)∈ls->a<c->c<b->False
 | 0,a,b,hm,h,h1,h2=>by omega
 |m+1,a,b,hm,h,h1,h2=>by
  obtain⟨d,hd⟩:=under I (.inr h);obtain⟨t1,t2,t3,t4,t5,t6⟩:=I.tri a d b hd;have ms:=y91 hm t2 t3;rcases DZ c d with e |e |e
  . exact Al I hf m a d ms.1 (t5.resolve_right (Ce h1 e)) h1 e
  . subst e;exact hf _ hd (by simp[has]) (by unfold opp;rw[ξ (GY h1),ζ rfl];exact h)
  . exact Al I hf m d b ms.2 (t6.resolve_right (Ce e h2)) e h2
theorem Hs(K:Cut n ls T)(c0:0<=c)(c1:c<=n - 1)(hf:∀t∈T,has c t=true->opp c t∉ls):∀(m:Nat)(a b:Int),(n - (b - a)).toNat<=m->(a,b)∈ls->(c<a->False)/\(b<c->False)
 | 0,a,b,hm,h=>(y90 hm (K.inv.lin a b h).2.2.1 (K.inv.lin a b h).1).elim
 |m+1,a,b,hm,h=>by
  have I:=K.inv;have a0:=(I.lin a b h).1;have b1:=(I.lin a b h).2.2.1;have out:∀u∈T,(u.1,u.2.2)=(0,n - 1)\/(u.1,u.2.2)∈ls:=fun u hu=>eH.mp (I.prm.mem_iff.mp (CF.mpr ⟨u,hu,rfl⟩))
  obtain⟨_,r,_,hr⟩:=above K h;rcases hr with hr |hr
  . obtain⟨_,t2,t3,t4,_,t6⟩:=I.tri a b r hr;have rc:(a,r)∈ls->(c<a->False)/\(r<c->False):=Hs K c0 c1 hf m a r (y8y hm t3 t4 a0);refine⟨fun z=>?_,fun z=>?_⟩
    . rcases out _ hr with o |o
      . have:a=0:=DI Prod.fst o;exact absurd z (FU.mpr (this ▸ c0))
      . exact(rc o).1 z
    . rcases DZ c r with e |e |e
      . exact Al I hf _ b r (η _) (t6.resolve_right (Ce z e)) z e
      . subst e;exact hf _ hr (by simp[has]) (by unfold opp;rw[ξ (GY (EU t2 z)),ξ (GY z)];exact h)
      . rcases out _ hr with o |o
        . have:r=n - 1:=DI Prod.snd o;exact absurd e (FU.mpr (this ▸ c1))
        . exact(rc o).2 e
  . obtain⟨t1,t2,_,_,t5,_⟩:=I.tri r a b hr;have rc:(r,b)∈ls->(c<r->False)/\(b<c->False):=Hs K c0 c1 hf m r b (y8z hm t2 b1 t1);refine⟨fun z=>?_,fun z=>?_⟩
    . rcases DZ c r with e |e |e
      . rcases out _ hr with o |o
        . have:r=0:=DI Prod.fst o;exact absurd e (FU.mpr (this ▸ c0))
        . exact(rc o).1 e
      . subst e;exact hf _ hr (by simp[has]) (by unfold opp;rw[ζ rfl];exact h)
      . exact Al I hf _ r a (η _) (t5.resolve_right (Ce e z)) e z
    . rcases out _ hr with o |o
      . have:b=n - 1:=DI Prod.snd o;exact absurd z (FU.mpr (this ▸ c1))
      . exact(rc o).2 z
def y26(K:Cut n ls T)(c0:0<=c)(c1:c<n)(hf:∀t∈T,has c t=true->opp c t∉ls)(m:Nat)(a b:Int)(hm:(n - (b - a)).toNat<=m)(h:(a,b)∈ls):a=c\/b=c:=by
 have o:=Hs K c0 (Int.le_sub_one_of_lt c1) hf m a b hm h;rcases DZ c a with e |e |e
 . exact(o.1 e).elim
 . exact .inl e.symm
 . rcases DZ c b with e2 |e2 |e2
   . exact(Al K.inv hf _ a b (η _) h e e2).elim
   . exact .inr e2.symm
   . exact(o.2 e2).elim
end
def y27{α:Type}(f:α->D)(d:α)(xs:List α):((zD 0 (xs.map f).length).zip (xs.map f)).map (fun p=>D.tup [p.1,p.2])=(List.range xs.length).map fun (i:Nat)=>D.tup [.int (i:Int),f (xs.getD i d)]:=by
 have e:xs.map f=(List.range xs.length).map fun i=>f (xs.getD i d):=by
  conv=>lhs;rw[y06 xs d]
  rw[DJ];rfl
 rw[e,zt]
def y5t(h0:0<=x)(h1:x.toNat<ns.length)(h2:x<2 ^ 63):X0 (fun a b=>a+b) (L ns) (.int x) (.int y)=some (L (ns.set x.toNat (ns.getD x.toNat 0+y))):=by
 have e:(ns.map D.int)[x.toNat]?=some (.int (ns.getD x.toNat 0)):=by rw[CJ,oF h1,pp,oF h1];rfl
 simp only[L,X0,bI];rw[ζ ⟨h0,h2,h1⟩,e];simp only[map_set]
def Gk(S2:Sl)(C:Sl)(ns:List Int)(x:Int)(h0:0<=x)(h1:x.toNat<ns.length)(h2:ns.length<=1000) :
  Mv [C,.ow (L ns),S2,.im (.int x)]=.nx [C,.ow (L (ns.set x.toNat (ns.getD x.toNat 0+1))),S2,.im (.int x)]:=by
 unfold Mv
 simp only[W9]
 walk_at "dz"
 rw[y5t h0 h1 (by omega)]
 walk_at "dz"
theorem Qp(x:D):∀k:Nat,(List.replicate k [x]).flatten=List.replicate k x
 | 0=>rfl
 |k+1=>by rw[EK,FD,Qp x k];rfl
def y5u(n:Int)(k:Nat)(h:n=k)(hk:k<=1000):Q6 (.lst [.int 0]) (.int n)=some (L (List.replicate k 0)):=by subst h;simp only[Q6];rw[ζ ⟨by omega,by omega,by simp;omega⟩,Int.toNat_natCast,Qp];simp only[L,List.map_replicate]
def zjd(c:Int)(t:P3)(h:t.1<t.2.1/\t.2.1<t.2.2)(hc:has c t=true):Bk [T3 t,.int c]=.ok (T2 (opp c t)):=by
 obtain⟨x,y,z⟩:=t;simp only[has,EB,ng]at hc;simp only at h;unfold Bk Zh;simp only[T3];walk_at "dz";rw[show [D.int x,D.int y,D.int z]=[x,y,z].map D.int from rfl,E3 (en:=D.int) (bs:=fun q=>[D.int q]) (p:=fun q=>!decide (q=c)) (g:=fun q=>D.int q) [x,y,z] (fun _ _=>rfl) (fun q _=>by
  unfold jD;walk_at "dz") (fun q _ _=>by
  unfold jC;walk_at "dz")]
 walk_at "dz";unfold opp;rcases hc with hc |hc |hc
 . rw[ζ hc,ED (by simp;omega),CH (by simp;omega),CH (by simp;omega)];rfl
 . rw[ξ (by show ¬c=x;omega),ζ hc,CH (by simp;omega),ED (by simp;omega),CH (by simp;omega)];rfl
 . rw[ξ (by show ¬c=x;omega),ξ (by show ¬c=y;omega),CH (by simp;omega),CH (by simp;omega),ED (by simp;omega)];rfl
def facing(c:Int)(T:List P3)(ls:List P2):List P2:=(((so3 T).filter (has c)).map (opp c)).filter fun p=>decide (p∈ls)
def Vr(I:CInv n ls T)(p:ls'.Perm ls)(hl:ls.length<=60)(c:Int) :
  W6 [.tup [.int n,.tup (ls'.map T2)],.int c]=.ok (.lst ((facing c T ls').map T2)):=by
 have eT:=Mn I p hl
 have hT:=I.len
 have hs:(so3 T).length<=61:=by rw[(B0 T).length_eq];omega
 have hm:∀t∈so3 T,t.1<t.2.1/\t.2.1<t.2.2:=fun t ht=>by have:=I.tri t.1 t.2.1 t.2.2 ((B0 T).mem_iff.mp ht);omega
 unfold facing
 generalize so3 T=S at eT hs hm
 unfold W6 jO
 walk_at "dz"
 rw[eT]
 walk_at "dz"
 rw[ζ (by rw[bI];omega),E3 (en:=T3) (bs:=fun t=>[T3 t]) (p:=has c) (g:=fun t=>T2 (opp c t)) S (fun _ _=>rfl) (fun t _=>by
  unfold jZ;walk_at "dz";rw[Gw];walk_at "dz";rfl) (fun t ht hc=>by
  unfold jY;walk_at "dz";exact zjd c t (hm t ht) hc)]
 simp only[R.bind_ok]
 rw[show(S.filter (has c)).map (fun t=>T2 (opp c t))=((S.filter (has c)).map (opp c)).map T2 by rw[DJ];rfl]
 have hx:((S.filter (has c)).map (opp c)).length<=61:=by rw[bI];exact CD (DA _ _) hs
 generalize (S.filter (has c)).map (opp c)=xs at hx
 walk_at "dz"
 rw[ζ (by rw[bI];omega),E3 (en:=T2) (bs:=fun t=>[T2 t]) (p:=fun q=>decide (q∈ls')) (g:=fun q=>T2 q) xs (fun _ _=>rfl) (fun t _=>by
  unfold jX;walk_at "dz";rw[Z9];walk_at "dz") (fun t _ _=>by
  unfold jW;walk_at "dz")]
 walk_at "dz"
def lk(c:Int)(p:P2):Bool:=!(decide (c=p.1)||decide (c=p.2))
def lac(c:Int)(ls:List P2):Nat:=(ls.filter (lk c)).length
def yR(p:a.Perm b):lac c a=lac c b:=(p.filter _).length_eq
def lk_iff:lk c p=true↔p.1≠c/\p.2≠c:=by simp only[lk,FS,GS,CQ];constructor<;>intro h<;>omega
inductive Way (n c:Int):List P2->List P2->Prop
 |nil {ls:List P2} (h:lac c ls=0):Way n c ls []
 |cons {ls ls0:List P2} {T:List P3} {l w:P2} {fs:List P2} (K:Cut n ls T) (hl:ls.length<=60) (h:l∈ls) (hc:lk c l=true) (p0:ls.Perm (l::ls0)) (hw:dues T l=[w.1,w.2]) (wc:lk c w=false) (r:Way n c (ls0++[w]) fs):Way n c ls (l::fs)
def Vq(p0:ls.Perm (l::ls0))(hc:lk c l=true)(wc:lk c w=false):lac c ls=lac c (ls0++[w])+1:=by rw[yR p0];unfold lac;rw[CH hc,GC,ED (by rw[wc];simp)];simp
def Way.lac(W:Way n c ls fs):K98.lac c ls=fs.length:=by
 induction W with
 |nil h=>exact h
 |cons K hl h hc p0 hw wc r ih=>rw[Vq p0 hc wc,ih];rfl
def y5v(h:ls.length<100000):k8 (.lst (ls.map T2)) [T2 p]=some (.lst ((ls++[p]).map T2)):=Aa h
def wI(n:Nat)(c:Int)(c0:0<=c)(c1:c<n)(hn:n<=60)(C0:D):∀(m:Nat)(ls:List P2)(T:List P3),Cut (n:Int) ls T->ls.length+3=n->lac c ls=m->∀(aI:Nat),m<aI->∀df:List P2,df.length+m<=1000 ->
  ∃(fs:List P2)(X Y:Sl),Way (n:Int) c ls fs/\u9 Bh Fb aI [.im C0,.im (.int c),.ow (.lst (df.map T2)),.im (.tup [.int (n:Int),.tup ((so2 ls).map T2)]),.ow (.lst ((facing c T (so2 ls)).map T2))] =
   .nx [.im C0,.im (.int c),.ow (.lst ((df++fs).map T2)),X,Y]:=by
 intro m
 induction m with
 |zero=>
  intro ls T K hl hm aI hf df h0
  have I:=K.inv
  have e:facing c T (so2 ls)=[]:=by unfold facing;rw[List.filter_eq_nil_iff];intro p hp;obtain⟨t,ht,rfl⟩:=CF.mp hp;obtain⟨ht,hc⟩:=CA.mp ht;have g:=I.tri t.1 t.2.1 t.2.2 ((B0 T).mem_iff.mp ht);have no:=Rj (t:=t) (by omega) hc;simp only[ng];intro bG;have bG:=(j8 ls).mem_iff.mp bG;have:opp c t∈ls.filter (lk c):=CA.mpr ⟨bG,lk_iff.mpr no⟩;unfold lac at hm;rw[DO.mp hm]at this;simp at this
  obtain⟨f,rfl⟩:∃f,aI=f+1:=⟨aI - 1,by omega⟩
  refine⟨[],.im (.tup [.int (n:Int),.tup ((so2 ls).map T2)]),.ow (.lst []),.nil hm,?_⟩
  rw[e,M3]
  unfold Bh
  generalize so2 ls=S
  walk_at "dz"
  rw[decide_eq_false (by decide),CT]
  walk_at "dz"
 |succ m ih=>
  intro ls T K hl hm aI hf df h0
  have I:=K.inv
  obtain⟨f,rfl⟩:∃f,aI=f+1:=⟨aI - 1,by omega⟩
  match hF:facing c T (so2 ls) with
  | []=>
   exfalso
   have all:=fun (p:P2)(hp:p∈ls)=>y26 K c0 c1 (fun t ht hc bG=>by have:opp c t∈facing c T (so2 ls):=CA.mpr ⟨CF.mpr ⟨t,CA.mpr ⟨(B0 T).mem_iff.mpr ht,hc⟩,rfl⟩,by simpa using (j8 ls).mem_iff.mpr bG⟩;rw[hF]at this;simp at this) _ p.1 p.2 (η _) hp
   have:ls.filter (lk c)=[]:=by rw[List.filter_eq_nil_iff];intro p hp hk;have:=all p hp;have:=lk_iff.mp hk;omega
   unfold lac at hm
   rw[this]at hm;simp at hm
  |l::r=>
   have iA:l∈facing c T (so2 ls):=by rw[hF];simp
   obtain⟨h1,h2⟩:=CA.mp iA
   obtain⟨t,ht,rfl⟩:=CF.mp h1
   obtain⟨ht,hc⟩:=CA.mp ht
   have pU:=(B0 T).mem_iff.mp ht
   have g:=I.tri t.1 t.2.1 t.2.2 pU
   have no:=Rj (t:=t) (by omega) hc
   have bG:opp c t∈ls:=(j8 ls).mem_iff.mp (by simpa using h2)
   obtain⟨w,ls0,T',p0,K',hw,_,_⟩:=K.turn bG
   have wc:lk c w=false:=by
    have:c∈dues T (opp c t):=by
     rw[mem_dues];refine⟨t,pU,?_,?_⟩
     . obtain⟨x,y,z⟩:=t;simp only[has,EB,ng]at hc;rw[bth_iff];unfold opp;split
       . simp
       . split<;>simp
     . obtain⟨x,y,z⟩:=t;simp only[has,EB,ng]at hc;unfold opp;simp only;split
       . rename_i e;show c=x+(y+(z+0)) - (y+(z+0));omega
       . split
         . rename_i e;show c=x+(y+(z+0)) - (x+(z+0));omega
         . show c=x+(y+(z+0)) - (x+(y+0));omega
    rw[hw]at this;simp only[eH,FG,or_false]at this;cases hk:lk c w with
    |false=>rfl
    |true=>have:=lk_iff.mp hk;omega
   have hs:=Vq p0 (lk_iff.mpr no) wc
   have ae:(ls0++[w]).length+3=n:=by have:=p0.length_eq;simp only[io,χ,FA]at this⊢;omega
   obtain⟨fs,X,Y,W,e⟩:=ih (ls0++[w]) T' K' ae (by omega) f (by omega) (df++[opp c t]) (by simp;omega)
   have et:=Au K (j8 ls) (by omega) bG p0 hw
   have ef:=Vr K'.inv (j8 (ls0++[w])) (by omega) c
   refine⟨opp c t::fs,X,Y,.cons K (by omega) bG (lk_iff.mpr no) p0 hw wc W,?_⟩
   rw[show df++opp c t::fs=(df++[opp c t])++fs by simp,<-e]
   generalize so2 (ls0++[w])=S' at et ef
   generalize facing c T' S'=FF at ef
   generalize so2 ls=S at et
   generalize opp c t=l at et
   rw[M3]
   have AA:Bh (see [.im C0,.im (.int c),.ow (.lst (df.map T2)),.im (.tup [.int (n:Int),.tup (S.map T2)]),.ow (.lst ((l::r).map T2))])=.ok true:=by unfold Bh;walk_at "dz";rw[decide_eq_true (by omega)]
   rw[AA]
   have hb:Fb [.im C0,.im (.int c),.ow (.lst (df.map T2)),.im (.tup [.int (n:Int),.tup (S.map T2)]),.ow (.lst ((l::r).map T2))] =
     .nx [.im C0,.im (.int c),.ow (.lst ((df++[l]).map T2)),.im (.tup [.int (n:Int),.tup (S'.map T2)]),.ow (.lst (FF.map T2))]:=by
    unfold Fb
    walk_at "dz"
    rw[y5v (by omega)]
    generalize df++[l]=gs
    walk_at "dz"
    rw[et]
    walk_at "dz"
    rw[ef]
    walk_at "dz"
   rw[hb]
   walk_at "dz"
def yQ(n c:Int)(h:0<=c/\c<n):Bv [.int n,.int c]=.ok .non:=by unfold Bv jP;walk_at "dz";rw[Jv];walk_at "dz";rw[decide_eq_true h.1,decide_eq_true h.2];walk_at "dz"
def wH(n:Nat)(c:Int)(c0:0<=c)(c1:c<n)(hn:n<=60)(ls:List P2)(T:List P3)(K:Cut (n:Int) ls T)(hl:ls.length+3=n) :
  ∃fs:List P2,Way (n:Int) c ls fs/\O9 [.tup [.int (n:Int),.tup ((so2 ls).map T2)],.int c]=.ok (.lst (fs.map T2)):=by
 have AS:lac c ls<=60:=CD (DA _ _) (by omega)
 obtain⟨fs,X,Y,W,e⟩:=wI n c c0 c1 hn (.tup [.int (n:Int),.tup ((so2 ls).map T2)]) (lac c ls) ls T K hl rfl 1000 (by omega) [] (by simp;omega)
 have ef:=Vr K.inv (j8 ls) (by omega) c
 refine⟨fs,W,?_⟩
 generalize so2 ls=S at e ef
 generalize facing c T S=FF at e ef
 unfold O9 Wd
 walk_at "dz"
 rw[yQ _ _ ⟨c0,c1⟩]
 walk_at "dz"
 rw[ef]
 walk_at "dz"
 unfold C5
 simp only[CM,DT]at e
 rw[e]
 walk_at "dz"
def y5w(dC:D)(s3:Sl)(ns:List Int)(t:P3)(h:(0<=t.1/\t.1<ns.length)/\(0<=t.2.1/\t.2.1<ns.length)/\(0<=t.2.2/\t.2.2<ns.length))(h2:ns.length<=1000) :
  ∃(ms:List Int)(s:Sl),ms.length=ns.length/\Ff [.im dC,.ow (L ns),.im (T3 t),s3]=.nx [.im dC,.ow (L ms),.im (T3 t),s]:=by
 obtain⟨a,c,b⟩:=t
 obtain⟨⟨a0,a1⟩,⟨c0,AB⟩,b0,b1⟩:=h
 simp only at a0 a1 c0 AB b0 b1
 unfold Ff
 walk_at "dz"
 simp only[o6,K6,Qh]
 walk_at "dz"
 rw[Gk _ _ ns a a0 (by omega) h2]
 simp only
 walk_at "dz"
 rw[Gk _ _ _ c c0 (by rw[DU];omega) (by rw[DU];exact h2)]
 simp only
 walk_at "dz"
 rw[Gk _ _ _ b b0 (by rw[DU,DU];omega) (by rw[DU,DU];exact h2)]
 exact⟨_,_,by simp only[DU],rfl⟩
def Xg(g:Gd n v):∃row:List Int,(row.length:Int)=n/\M7 [cD n v]=.ok (L row):=by
 obtain⟨T,I⟩:=g.inv;have h3:=I.n3;have fX:=g.2.2.2;have gl:=g.len;have eT:=Mn I (.refl v) (by omega);have fL:∀t∈so3 T,(0<=t.1/\t.1<n)/\(0<=t.2.1/\t.2.1<n)/\(0<=t.2.2/\t.2.2<n):=fun t ht=>by obtain⟨a1,a2,a3,a4,_⟩:=I.tri t.1 t.2.1 t.2.2 ((B0 T).mem_iff.mp ht);omega
 have k0:=Oj n v;obtain⟨ax,e,d,row,s2,s3,hd,hl,hr⟩:=Es (tg:=.n 2) (g:=Ff) (en:=T3)
  (fun r ρ=>∃(d:List P3)(row:List Int)(s2 s3:Sl),d++r=so3 T/\(row.length:Int)=n/\ρ=[.im (cD n v),.ow (L row),s2,s3])
  (so3 T) [.im (cD n v),.ow (L (List.replicate n.toNat 0)),.em,.em] ⟨[],_,.em,.em,rfl,by rw[GO];omega,rfl⟩ (by rintro t r ρ ⟨d,row,s2,s3,hd,hl,rfl⟩;have hm:=fL t (by rw[<-hd];simp);obtain⟨ms,s,BZ,e⟩:=y5w (cD n v) s3 row t (by rw[hl];exact hm) (by omega);exact⟨_,_,rfl,Or.inl e,d++[t],ms,_,_,by rw[<-hd];simp,by omega,rfl⟩)
 refine⟨row,hl,?_⟩;unfold cD at eT k0 e hr⊢;generalize D.tup (v.map T2)=Y at *;generalize so3 T=S at *;unfold M7 Xl;walk_at "dz";rw[y5u n n.toNat (by omega) (by omega)];walk_at "dz";rw[eT];walk_at "dz";rw[e,hr];walk_at "dz"
def thr(c:Int)(v:List P2):Prop:=∀p∈v,p.1=c\/p.2=c
def y28(gv:Gd n v)(gu:Gd n u)(hv:thr c v)(hu:thr c u):v=u:=by
 have key:∀{v u:List P2},Gd n v->Gd n u->thr c v->thr c u->∀p∈v,p∈u:=by
  intro v u gv gu hv hu p hp;obtain⟨T,I⟩:=gv.inv;obtain⟨T',I'⟩:=gu.inv;obtain⟨i,j⟩:=p;have li:=I.lin i j hp;have hc:=hv _ hp;refine y1p I' (ln_iff.mpr (by omega)) fun a b bF=>?_
  have la:=I'.lin a b bF;have aL:=hu _ bF;simp only at hc aL;omega
 obtain⟨T,I⟩:=gv.inv;obtain⟨T',I'⟩:=gu.inv;have p:v.Perm u:=(EI I.nd I'.nd).mpr fun x=>⟨key gv gu hv hu x,key gu gv hu hv x⟩
 rw[<-gv.2.1,<-gu.2.1,C7 p]
def y29(W:Way n c ls fs):Gd n (so2 ls)->∃u,Gd n u/\Wy n u (so2 ls) fs/\thr c u:=by
 induction W with
 |nil h=>
  intro g
  refine⟨_,g,rfl,fun p hp=>?_⟩
  have hp:=(j8 _).mem_iff.mp hp
  apply CB;intro z
  unfold lac at h
  have:p∈[]:=by rw[<-DO.mp h];exact CA.mpr ⟨hp,lk_iff.mpr (by omega)⟩
  cases this
 |cons K hl h hc p0 hw wc r ih=>
  intro g
  rename_i ls ls0 T l w fs
  have hm:l∈so2 ls:=(j8 ls).mem_iff.mpr h
  have et:tu n (so2 ls) l=(so2 (ls0++[w]),w):=Y1 (Au K (j8 ls) hl h p0 hw)
  have g1:=(v4 _ l g hm).1
  rw[et]at g1
  obtain⟨u,u1,u2,u3⟩:=ih g1
  exact⟨u,u1,⟨hm,by rw[et];exact u2⟩,u3⟩
def Tn(g:Gd n v)(c0:0<=c)(c1:c<n):∃fs u,Gd n u/\Wy n u v fs/\thr c u/\fs.length<=13/\O9 [cD n v,.int c]=.ok (.lst (fs.map T2)):=by obtain⟨⟨T,K⟩,hs,hl,fX⟩:=g;have n3:=K.inv.n3;obtain⟨m,rfl⟩:∃m:Nat,n=(m:Int):=⟨n.toNat,by omega⟩;obtain⟨fs,W,e⟩:=wH m c c0 c1 (by omega) v T K (by omega);rw[hs]at e;obtain⟨u,u1,u2,u3⟩:=y29 W (by rw[hs];exact⟨⟨T,K⟩,hs,hl,fX⟩);rw[hs]at u2;have:=W.lac;have l2:lac c v<=v.length:=DA _ _;exact⟨fs,u,u1,u2,u3,by omega,e⟩
def cm(n:Int):List P2->List P2->List P2
 |_,[]=>[]
 |v,x::r=>(tu n v x).2::cm n (tu n v x).1 r
theorem Hr(n:Int):∀(qs v:List P2),(cm n v qs).length=qs.length
 | [],_=>rfl
 |x::r,v=>by rw[cm,io,io,Hr n r]
theorem Cd:∀(qs v:List P2),Gd n v->Wy n u v qs->Wy n v u (cm n v qs).reverse
 | [],v,g,h=>(show v=u from h).symm
 |x::r,v,g,h=>by obtain⟨g1,g2,g3⟩:=v4 v x g h.1;rw[cm,GI];exact T6 _ _ u (Cd r _ g1 h.2) ⟨g2,by rw[g3];rfl⟩
def y2a(ps:List P2):D5 (.lst (ps.map T2))=some (.lst (ps.reverse.map T2)):=by simp only[D5,List.map_reverse]
def y92(g:Gd n v)(hx:x∈v)(A0 A1:D)(ps:List P2)(hl:ps.length<1000)(s4 s5:Sl) :
  ∃s,Fj [.im A0,.im A1,.ow (.lst (ps.map T2)),.im (cD n v),.im (T2 x),s5]=.nx [.im A0,.im A1,.ow (.lst ((ps++[(tu n v x).2]).map T2)),.im (cD n (tu n v x).1),.im (T2 x),s]:=by
 have ts:=(U3 g hx).1
 have k1:=m7 n (tu n v x).1
 have k2:=E0 (tu n v x).2
 have s0:=Oi n (tu n v x).1 (tu n v x).2
 have s1:=kr n (tu n v x).1 (tu n v x).2
 have ap:k8 (.lst (ps.map T2)) [T2 (tu n v x).2]=some (.lst ((ps++[(tu n v x).2]).map T2)):=Aa (by omega)
 generalize (ps++[(tu n v x).2]).map T2=V at *
 generalize T2 (tu n v x).2=W at *
 generalize cD n (tu n v x).1=Y at *
 generalize cD n v=X at *
 generalize ps.map T2=U at *
 have ny:keeps false (D.tup [Y,W])=true:=by simp only[keeps,tB,DG,D.noL,i5,k1,k2,DV]
 refine⟨.im (.tup [Y,W]),?_⟩
 unfold Fj
 walk_at "dz"
 rw[ts]
 simp only[w4,ny]
 walk_at "dz"
 rw[k2]
 walk_at "dz"
 rw[ap]
 walk_at "dz"
 rw[F3 k1]
 walk_at "dz"
theorem kj(A0 A1:D):∀(qs v ps:List P2)(s4 s5:Sl),Gd n v->Wy n u v qs->ps.length+qs.length<=1000 ->
  ∃s3 cJ dE,o6 (.n 4) Fj (qs.map T2) [.im A0,.im A1,.ow (.lst (ps.map T2)),.im (cD n v),s4,s5]=.nx [.im A0,.im A1,.ow (.lst ((ps++cm n v qs).map T2)),s3,cJ,dE]
 | [],v,ps,s4,s5,g,h,hl=>⟨_,_,_,by rw[cm,CT];rfl⟩
 |x::r,v,ps,s4,s5,g,h,hl=>by rw[io]at hl;obtain⟨s,e⟩:=y92 g h.1 A0 A1 ps (by omega) (.im (T2 x)) s5;obtain⟨g1,_,_⟩:=v4 v x g h.1;obtain⟨s3,cJ,dE,e2⟩:=kj A0 A1 r _ (ps++[(tu n v x).2]) (.im (T2 x)) s g1 h.2 (by rw[χ,CZ];omega);refine⟨s3,cJ,dE,?_⟩;rw[gD,Jj];simp only[List.set_cons_succ,List.set_cons_zero];rw[e,O4,e2,cm,GL];rfl
def y2b(g:Gd n v)(h:Wy n u v qs)(hl:qs.length<=900):Bm [cD n v,.lst (qs.map T2)]=.ok (.lst ((cm n v qs).reverse.map T2)):=by obtain⟨s3,s4,s5,e⟩:=kj (cD n v) (.lst (qs.map T2)) qs v [] .em .em g h (by rw[FA];omega);have kv:=m7 n v;have rv:=y2a (cm n v qs);rw[CM,DT]at e;generalize cD n v=X at *;generalize qs.map T2=Q at *;generalize (cm n v qs).map T2=C at *;unfold Bm jc;walk_at "dz";rw[F3 kv];walk_at "dz";rw[e];walk_at "dz";rw[rv];walk_at "dz"
def y5x(a b:List Int):z6 (bT 2) p9 Nh [] ((a.zip b).map fun p=>D.tup [.int p.1,.int p.2])=.ok ((a.zip b).map fun p=>D.int (p.1+p.2)):=
 M8 (bn:=bT 2) (bs:=fun p=>[D.int p.1,D.int p.2]) (g:=fun p=>D.int (p.1+p.2)) (a.zip b) (fun _ _=>rfl) fun p _=>by unfold Nh;walk_at "dz"
def y2c(gv:Gd n v)(gu:Gd n u):∃qs:List P2,Wy n u v qs/\qs.length<=26/\V8 [cD n v,cD n u]=.ok (.lst (qs.map T2)):=by
 obtain⟨T,I⟩:=gv.inv;have n3:=I.n3;have fX:=gv.2.2.2;obtain⟨a,ha,ea⟩:=Xg gv;obtain⟨b,hb,eb⟩:=Xg gu;obtain⟨bo,iI⟩:∃bo:List Int,bo=(a.zip b).map fun p=>p.1+p.2:=⟨_,rfl⟩
 have pV:(bo.length:Int)=n:=by rw[iI,bI,DK];omega
 obtain⟨x,xs,hx⟩:∃x xs,bo=x::xs:=by
  cases hq:bo with
  |nil=>rw[hq]at pV;simp at pV;omega
  |cons x xs=>exact⟨x,xs,rfl⟩
 have mx:S5 [L bo]=some (.int (o8 x xs)):=by rw[hx];simp only[L,S5,W0]
 have mm:o8 x xs∈bo:=by rw[hx];exact(O5 xs x).1
 have ix:=y52 (ns:=bo) (k:=o8 x xs) mm (by omega);have c1:((bo.idxOf (o8 x xs):Nat):Int)<n:=by have:=EG mm;omega
 generalize hc:((bo.idxOf (o8 x xs):Nat):Int)=c at *;have c0:0<=c:=by omega
 obtain⟨f1,u1,AC,w1,t1,l1,e1⟩:=Tn gv c0 c1;obtain⟨f2,u2,AD,w2,t2,l2,e2⟩:=Tn gu c0 c1;have eq:=y28 AC AD t1 t2;subst eq;have be:=y2b gu w2 (by omega);have lc:=Hr n f2 u;refine⟨f1++(cm n u f2).reverse,T6 _ _ _ w1 (Cd f2 u gu w2),by rw[χ,GX];omega,?_⟩;have zc:=y5x a b;rw[show(a.zip b).map (fun p=>D.int (p.1+p.2))=bo.map D.int by rw[iI,DJ];rfl]at zc;have hz:((a.zip b).map fun p=>D.tup [D.int p.1,D.int p.2]).length<=100000:=by rw[bI,DK];omega
 have zi:iZp (a8 (d8 M7 (a8 (a7 0) b7)) (a8 (d8 M7 (a8 (a7 1) b7)) b7)) [some (cD n v),some (cD n u),none,none]=.ok ((a.zip b).map fun p=>D.tup [D.int p.1,D.int p.2]):=by generalize cD n v=X at *;generalize cD n u=Y at *;unfold iZp;walk_at "dz";rw[ea];walk_at "dz";rw[eb];walk_at "dz";simp only[L];rw[R.of_some,List.zip_map,DJ];rfl
 have ct:x6 (.lst (f1.map T2)) (.lst ((cm n u f2).reverse.map T2))=some (.lst ((f1++(cm n u f2).reverse).map T2)):=Jg _ _ (by rw[GX];omega);have kb:i5 (bo.map D.int)=true:=B5 _ _ fun _ _=>rfl
 have AE:S5 [.lst (bo.map D.int)]=some (.int (o8 x xs)):=mx;have AF:Z8 (.lst (bo.map D.int)) (.int (o8 x xs))=some (.int c):=ix;generalize bo.map D.int=BB at *;generalize (a.zip b).map (fun p=>D.tup [D.int p.1,D.int p.2])=Z at *;generalize cD n v=X at *;generalize cD n u=Y at *;generalize (f1++(cm n u f2).reverse).map T2=QQ at *;generalize (cm n u f2).reverse.map T2=Q2 at *;generalize f2.map T2=Q3 at *;generalize f1.map T2=Q1 at *;unfold V8 Yx;walk_at "dz";rw[zi];walk_at "dz";rw[ζ hz,zc];walk_at "dz";rw[kb];walk_at "dz";simp only[Bz];walk_at "dz";rw[AE];walk_at "dz";rw[AF];walk_at "dz";rw[e1];walk_at "dz";rw[e2];walk_at "dz";rw[be];walk_at "dz";rw[ct];walk_at "dz"
def y2d{n:Int}{B v u:List P2}{t:P2}{R:List Int}(M:Rm n B t R)(gv:Gd n v)(gu:Gd n u)(sv:∀p∈B,p∈v)(su:∀p∈B,p∈u):∃q:List P2,Wy R.length (ptL R u) (ptL R v) q/\q.length<=32 /\
  W4 [TuI R,cD n v,cD n u]=.ok (.lst ((q.map (bk R)).map T2)):=by
 have g1:=Gm M gv sv
 have g2:=Gm M gu su
 obtain⟨q,q2,ql,q3⟩:∃q:List P2,Wy R.length (ptL R u) (ptL R v) q/\q.length<=32/\(if(R.length:Int)<=8 then V7 [cD R.length (ptL R v),cD R.length (ptL R u)] else V8 [cD R.length (ptL R v),cD R.length (ptL R u)])=.ok (.lst (q.map T2)):=by
  by_cases h8:(R.length:Int)<=8
  . obtain⟨k,F,L,es⟩:=wQ h8 g2;obtain⟨e,he,e1,e2⟩:=y8w g1 g2 L;obtain⟨q,q1,q2,q3⟩:=wO L es he (by omega);rw[e1]at q2 q3;exact⟨q,q2,by omega,by rw[ζ h8];exact q3⟩
  . obtain⟨q,q1,q2,q3⟩:=y2c g1 g2;exact⟨q,q1,by omega,by rw[ξ h8];exact q3⟩
 refine⟨q,q2,ql,?_⟩
 have bG:=qN q _ g1 q2
 have p1:=Qq (n:=n) R v (by have:=gv.len;omega)
 have p2:=Qq (n:=n) R u (by have:=gu.len;omega)
 have k1:=m7 n v
 have k2:=m7 n u
 have k3:=m7 R.length (ptL R v)
 have k4:=m7 R.length (ptL R u)
 have dl:k9 [TuI R]=some (.int (R.length:Int)):=by unfold TuI;simp[k9]
 generalize cD n v=X at *
 generalize cD n u=Y at *
 generalize cD R.length (ptL R v)=Z at *
 generalize cD R.length (ptL R u)=W at *
 unfold W4 jH
 walk_at "dz"
 rw[p1]
 walk_at "dz"
 rw[F3 k3]
 walk_at "dz"
 rw[p2]
 walk_at "dz"
 rw[F3 k4]
 walk_at "dz"
 try simp only[eIf]
 walk_at "dz"
 rw[dl]
 walk_at "dz"
 have cm:=M8 (bn:=bT 2) (f:=Nw) (cs:=[some (TuI R)]) (en:=T2) (bs:=fun l=>[.int l.1,.int l.2]) (g:=fun p=>T2 (bk R p)) q (fun x _=>rfl) (fun p hp=>by obtain⟨i1,i2,i3,i4⟩:=bG p hp;unfold Nw;walk_at "dz";rw[qJ i1 i2,qJ i3 i4];walk_at "dz";rfl)
 have lq:(q.map T2).length<=100000:=by rw[bI];omega
 have pW:D.lst (q.map fun p=>T2 (bk R p))=D.lst ((q.map (bk R)).map T2):=by rw[DJ];rfl
 by_cases h8:(R.length:Int)<=8
 . rw[ζ h8]at q3;rw[decide_eq_true h8];walk_at "dz";rw[q3];walk_at "dz";rw[ζ lq,cm];walk_at "dz";rw[pW]
 . rw[ξ h8]at q3;rw[decide_eq_false h8];walk_at "dz";rw[q3];walk_at "dz";rw[ζ lq,cm];walk_at "dz";rw[pW]
def y5y{n:Int}{v u:List P2}(gv:Gd n v)(gu:Gd n u):∃qs:List P2,Wy n u v qs/\qs.length<=448/\U7 [cD n v,cD n u]=.ok (.lst (qs.map T2)):=by
 obtain⟨T,I⟩:=gv.inv;obtain⟨B,hB⟩:∃B:List P2,B=v.filter fun p=>decide (p∈u):=⟨_,rfl⟩
 have nB:B.Nodup:=by rw[hB];exact I.nd.filter _
 have mB:∀p,p∈B↔p∈v/\p∈u:=fun p=>by rw[hB,CA,ng]
 have sv:∀p∈B,p∈v:=fun p h=>((mB p).mp h).1
 have su:∀p∈B,p∈u:=fun p h=>((mB p).mp h).2
 have lB:B.length<=13:=by rw[hB];exact CD (DA _ _) gv.len
 have J:=I.lns nB sv;obtain⟨C,E,hC⟩:=yV J (by have:=gv.2.2.2;omega);have hR:∀t,j1 n B t->Rm n B t (C t):=fun t ht=>Rm.of J ht (Cj J t) (hC t ht).1
 obtain⟨ts,ft⟩:∃ts,ts=soT C ((0,n - 1)::B):=⟨_,rfl⟩;have iX:ts.Perm ((0,n - 1)::B):=by rw[ft];exact yU _ _
 have AG:ts.Nodup:=by rw[iX.nodup_iff,CL];exact⟨fun z=>(I.lin _ _ (sv _ z)).2.2.2 ⟨rfl,rfl⟩,nB⟩
 have top:∀t∈ts,j1 n B t:=fun t ht=>eH.mp (iX.mem_iff.mp ht)
 have ex:∀t,∃q:List P2,t∈ts->Wy (C t).length (ptL (C t) u) (ptL (C t) v) q/\q.length<=32/\W4 [TuI (C t),cD n v,cD n u]=.ok (.lst ((q.map (bk (C t))).map T2)):=fun t=>by
  by_cases h:t∈ts
  . obtain⟨q,hq⟩:=y2d (hR t (top t h)) gv gu sv su;exact⟨q,fun _=>hq⟩
  . exact⟨[],fun z=>absurd z h⟩
 obtain⟨q,hq⟩:=Classical.axiomOfChoice ex;have lt:ts.length<=14:=by rw[iX.length_eq,io];omega
 have fl:∀ds:List P2,(∀t∈ds,t∈ts)->(ds.flatMap fun t=>(q t).map (bk (C t))).length<=32 * ds.length:=fun ds=>by
  induction ds with
  |nil=>intro _;simp
  |cons a ds ih=>
   intro h
   have h1:=(hq a (h a gq)).2.1
   have h2:=ih fun t ht=>h t (dg _ ht)
   rw[List.flatMap_cons,χ,bI,io];omega
 refine⟨ts.flatMap fun t=>(q t).map (bk (C t)),wJ gv gu nB sv su C hR q ts iX AG fun t ht=>(hq t ht).1,by have:=fl ts fun _ h=>h;omega,?_⟩;have rm:=yS (n:=n) (ls:=B) (by omega) hC;rw[<-ft]at rm;have kv:=m7 n v;have ku:=m7 n u;have c0:=Oj n v;have c1:=Bw n v;have d0:=Oj n u;have d1:=Bw n u;have lv:=gv.len;generalize cD n v=X at *;generalize cD n u=Y at *;unfold U7 Wb;walk_at "dz";rw[c0,d0];walk_at "dz";rw[c1];walk_at "dz";rw[ζ (by rw[bI];omega),E3 (en:=T2) (bs:=fun l=>[T2 l]) (p:=fun p=>decide (p∈u)) (g:=T2) v (fun x _=>rfl) (fun l _=>by
  unfold Yv;walk_at "dz";rw[d1];walk_at "dz";rw[Z9];walk_at "dz") (fun l _ h=>by
  unfold Yu;walk_at "dz"),<-hB]
 walk_at "dz";rw[c0];walk_at "dz";rw[rm];walk_at "dz";obtain⟨ax,w,ds,s,h1,h2⟩:=Es (tg:=Tg.n 4) (g:=Mi) (en:=fun t=>TuI (C t)) (fun r ρ=>∃ds s,ts=ds++r/\ρ=[Sl.im X,Sl.im Y,Sl.im (D.lst (B.map T2)),Sl.ow (D.lst ((ds.flatMap fun t=>(q t).map (bk (C t))).map T2)),s]) ts [Sl.im X,Sl.im Y,Sl.im (D.lst (B.map T2)),Sl.ow (D.lst []),Sl.em] ⟨[],Sl.em,rfl,rfl⟩ (fun t r ρ ⟨ds,s,h1,h2⟩=>by
  subst h2;have ht:t∈ts:=by rw[h1];simp
  have hw:=(hq t ht).2.2;have hl:=fl ds fun x hx=>by rw[h1];exact EC _ hx
  have fX:=(hq t ht).2.1;have hd:ds.length<=14:=by rw[h1,χ]at lt;omega
  refine⟨[Sl.im X,Sl.im Y,Sl.im (D.lst (B.map T2)),Sl.ow (D.lst ((ds.flatMap fun t=>(q t).map (bk (C t))).map T2)),Sl.im (TuI (C t))],_,rfl,.inl ?_,ds++[t],Sl.im (TuI (C t)),by rw[h1];simp,rfl⟩;rw[List.flatMap_append,List.flatMap_cons,List.flatMap_nil,CT];generalize (ds.flatMap fun t=>(q t).map (bk (C t)))=A at hl;have hb:((q t).map (bk (C t))).length<=32:=by rw[bI];exact fX
  generalize (q t).map (bk (C t))=Bq at hw hb;unfold Mi;walk_at "dz";rw[hw];walk_at "dz";walk_at "dz";rw[show X1 (.lst (A.map T2)) [.lst (Bq.map T2)]=some (.lst ((A++Bq).map T2)) by simp only[X1,bI];rw[ζ (by omega),CS]];walk_at "dz")
 rw[w,h2];rw[CT]at h1;rw[h1];walk_at "dz"
abbrev ti(i:Int):PySem.Str:=PySem.Str.ofString (toString i)
def okB(r:R D):Bool:=match r with | .ok (.bl true)=>true |_=>false
def okI(r:R D)(m:Int):Bool:=match r with | .ok (.int i)=>decide (i=m) |_=>false
def y5z(h:okB r=true):r=.ok (.bl true):=by
 unfold okB at h;split at h
 . rfl
 . cases h
def y60(h:okI r m=true):r=.ok (.int m):=by
 unfold okI at h;split at h
 . rw[EH h]
 . cases h
def chk(m:Nat):Bool:=okB (Bt [.str (ti m),.int 2])&&(okI (R.of (N6 [.str (ti m)])) m&&(!(ti m).cps.toList.contains 45&&(!(ti m).cps.toList.contains 32&&(decide ((ti m).length<=2)&&decide ((m:Int).natAbs.log2<1920)))))
def wG:(List.range 16).all chk=true:=by decide +kernel
structure Fit(i:Int):Prop where
 fig:Bt [.str (ti i),.int 2]=.ok (.bl true)
 int:N6 [.str (ti i)]=some (.int i)
 f45:45∉(ti i).cps.toList
 f32:32∉(ti i).cps.toList
 len:(ti i).length<=2
 lg:i.natAbs.log2<1920
def fit(h0:0<=i)(h1:i<=15):Fit i:=by
 have h:=DF.mp wG i.toNat (EJ.mpr (by omega));have e:((i.toNat:Nat):Int)=i:=by omega
 unfold chk at h;rw[e]at h;simp only[gR,FS]at h;obtain⟨a,b,d,e,f,g⟩:=h;refine⟨y5z a,?_,fun z=>?_,fun z=>?_,EH f,EH g⟩
 . have:=y60 b
   revert this
   cases N6 [.str (ti i)] with
   |none=>intro z;cases z
   |some v=>intro z;cases z;rfl
 . rw[List.contains_iff_mem.mpr z]at d;cases d
 . rw[List.contains_iff_mem.mpr z]at e;cases e
theorem Tm:∀{a b x y:List Nat},c∉a->c∉b->a++c::x=b++c::y->a=b/\x=y
 | [],[],_,_,_,_,h=>⟨rfl,(List.cons.inj h).2⟩
 | [],v::b,_,_,_,hb,h=>absurd (by rw[(List.cons.inj h).1];exact gq) hb
 |u::a,[],_,_,ha,_,h=>absurd (by rw[<-(List.cons.inj h).1];exact gq) ha
 |u::a,v::b,_,_,ha,hb,h=>by obtain⟨e,h⟩:=List.cons.inj h;obtain⟨e2,e3⟩:=Tm (fun z=>ha (dg _ z)) (fun z=>hb (dg _ z)) h;exact⟨by rw[e,e2],e3⟩
def Kq(c:Nat)(w v:PySem.Str)(r:List PySem.Str):(PySem.Str.join ⟨#[c]⟩ (w::v::r)).cps.toList=w.cps.toList++c::(PySem.Str.join ⟨#[c]⟩ (v::r)).cps.toList:=by show(w++⟨#[c]⟩++PySem.Str.join ⟨#[c]⟩ (v::r)).cps.toList=_;rw[GQ,GQ];simp
theorem Vp:∀{ws vs:List PySem.Str},ws≠[]->vs≠[]->(∀w∈ws,c∉w.cps.toList)->(∀w∈vs,c∉w.cps.toList)->PySem.Str.join ⟨#[c]⟩ ws=PySem.Str.join ⟨#[c]⟩ vs->ws=vs
 | [],_,h,_,_,_,_=>absurd rfl h
 |_,[],_,h,_,_,_=>absurd rfl h
 | [w],[v],_,_,_,_,h=>by rw[show w=v from h]
 | [w],v::v2::r,_,_,hw,_,h=>by have e:=DI (fun x=>x.cps.toList) h;simp only[Kq]at e;exact absurd (by rw[show w.cps.toList=_ from e];simp) (hw w gq)
 |w::w2::r,[v],_,_,_,hv,h=>by have e:=DI (fun x=>x.cps.toList) h;simp only[Kq]at e;exact absurd (by rw[show v.cps.toList=_ from e.symm];simp) (hv v gq)
 |w::w2::r,v::v2::r',_,_,hw,hv,h=>by have e:=DI (fun x=>x.cps.toList) h;simp only[Kq]at e;obtain⟨e1,e2⟩:=Tm (hw w gq) (hv v gq) e;have:=Vp (c:=c) (FH w2 r) (FH v2 r') (fun x hx=>hw x (dg _ hx)) (fun x hx=>hv x (dg _ hx)) (PySem.Str.ext' (Array.toList_inj.mp e2));rw[this,PySem.Str.ext' (Array.toList_inj.mp e1)]
def yP(x y:PySem.Str):PySem.Txt.split x y≠[]:=by
 unfold PySem.Txt.split;split
 . exact FH _ _
 . split
   . exact FH _ _
   . rw[PySem.StrLaws.partsBetween_eq];obtain⟨p,r,e⟩:=PySem.StrLaws.partsFrom_ne x y.length 0 (PySem.Builtin.Str.occurrences x y 0 x.length (x.length+1));rw[e];exact FH _ _
def Zw(h:ws≠[])(hf:∀w∈ws,c∉w.cps.toList):PySem.Txt.split (PySem.Str.join ⟨#[c]⟩ ws) ⟨#[c]⟩=ws:=
 Vp (yP _ _) h (PySem.StrLaws.split_free _ c) hf (PySem.StrLaws.join_split _ _)
def ki:PySem.Str.ofString " "=⟨#[32]⟩:=by decide +kernel
def Fo:PySem.Str.ofString "-"=⟨#[45]⟩:=by decide +kernel
def wd(p:P2):PySem.Str:=ti p.1++PySem.Str.ofString "-"++ti p.2
def K3(p:P2):Prop:=Fit p.1/\Fit p.2
def Cy(h:K3 p):(wd p).length<=5:=by unfold wd;rw[DB,DB,Fo];have:=h.1.len;have:=h.2.len;show _+1+_<=5;omega
def wE(h:K3 p):32∉(wd p).cps.toList:=by
 unfold wd;rw[Fo,GQ,GQ];have:=h.1.f32;have:=h.2.f32
 simp_all
def y2e(h:a.length+b.length<=1000):S1 (.str a) (.str b)=some (.str (a++b)):=by simp only[S1];rw[ζ (by omega)]
def kh(h:Fit i):dFv (.int i)=some (.str (ti i)):=by simp only[dFv];rw[ζ h.lg]
def y93(h:o.length<=1000):eJn [] o ρ=.ok (.str o):=by unfold eJn;rw[ζ (by omega)]
def Oh(e:f ρ=.ok (.str i))(h:(o++i).length<=1000):eJn (f::fs) o ρ=eJn fs (o++i) ρ:=by rw[eJn,e];simp only[R.bind_ok];rw[ζ (by omega)]
def yO(h:K3 p):Bn [T2 p]=.ok (.str (wd p)):=by
 have l:=Cy h;unfold wd at l;rw[DB,DB]at l;unfold Bn jo;walk_at "dz";rw[Oh (i:=ti p.1) (by walk_at "dz";rw[kh h.1];rfl) (by rw[FI];omega),Oh (i:=PySem.Str.ofString "-") (by walk_at "dz") (by rw[FI,DB];omega),
  Oh (i:=ti p.2) (by walk_at "dz";rw[kh h.2];rfl) (by rw[FI,DB,DB];omega),y93 (by rw[FI,DB,DB];omega),FI]
 walk_at "dz";rfl
def wD(h:K3 p):Bj [.str (wd p)]=.ok (T2 p):=by
 have l:=Cy h;have sp:PySem.Txt.split (wd p) (PySem.Str.ofString "-")=[ti p.1,ti p.2]:=by
  rw[show wd p=PySem.Str.join (PySem.Str.ofString "-") [ti p.1,ti p.2] from rfl,Fo];exact Zw (FH _ _) fun w hw=>by
   rcases eH.mp hw with rfl |hw
   . exact h.1.f45
   . rw[gV.mp hw];exact h.2.f45
 have ms:F6 (wd p) [.str (PySem.Str.ofString "-")]=some (.lst [.str (ti p.1),.str (ti p.2)]):=by simp only[F6];rw[ζ ⟨by rw[Fo];exact η _,by omega⟩,sp];rfl
 unfold Bj Zg;walk_at "dz";simp only[eMt];walk_at "dz";rw[ms];walk_at "dz";rw[show decide (((2:Nat):Int)=2)=true from rfl];walk_at "dz";have hr:∀i:Int,Fit i->Nk [some (.str (ti i))]=.ok (.bl true):=fun i hi=>by unfold Nk;walk_at "dz";exact hi.fig
 rw[hr _ h.1,hr _ h.2];walk_at "dz";rw[show X3 [D.lst [D.bl true,D.bl true]]=some (.bl true) from rfl];walk_at "dz";rw[h.1.int,h.2.int];walk_at "dz";rfl
def tw(p:P2):PySem.Str:=PySem.Str.ofString "turn "++ti p.1++PySem.Str.ofString "-"++ti p.2
def y94:PySem.Str.ofString "turn "=PySem.Str.ofString "turn"++PySem.Str.ofString " ":=by decide +kernel
def Gj(p:P2):tw p=PySem.Str.ofString "turn "++wd p:=by unfold tw wd;rw[PySem.Str.append_assoc,PySem.Str.append_assoc,PySem.Str.append_assoc]
def y62(p:P2):tw p=PySem.Str.join (PySem.Str.ofString " ") [PySem.Str.ofString "turn",wd p]:=by rw[Gj,y94];rfl
def kg:(PySem.Str.ofString "turn ").length=5:=by decide +kernel
def y95:32∉(PySem.Str.ofString "turn").cps.toList:=by decide +kernel
def y2f(h:K3 p):(tw p).length<=10:=by rw[Gj,DB,kg];have:=Cy h;omega
def y2g(hx:x=PySem.Str.join (PySem.Str.ofString " ") ws)(hw:ws≠[])(hf:∀w∈ws,32∉w.cps.toList)(hl:x.length<=1000):F6 x [.str (PySem.Str.ofString " ")]=some (.lst (ws.map .str)):=by simp only[F6];rw[ζ ⟨by rw[ki];exact η _,by omega⟩,hx,ki,Zw hw hf]
def wC(h:K3 p)(ah:p.1≠p.2):W3 [.str (wd p)]=.ok (T2 (nr p)):=by have r:=wD h;unfold W3 jm;walk_at "dz";rw[r];simp only[w4];rw[show keeps false (T2 p)=true from E0 p];walk_at "dz";rw[show Ft (T2 p) .non=some (.bl false) from rfl];walk_at "dz";rw[ξ (by simpa using ah),y1u];walk_at "dz"
def isS(x:PySem.Str):l5 "str" (.str x)=some (.bl true):=rfl
def eqS(x:PySem.Str):dEq (.str x) (.str x)=some (.bl true):=by unfold dEq;rw[ζ ⟨rfl,rfl,by simp[D.dep]⟩,Bb _ rfl]
def rdT:DS->SR:=
 (c9 (sIf (e8 asB (eOp dEq (a7 1) (n9 (a8 (eC (.str "mirror")) b7))))
   (g8 [] eNo)
   sNx)
  (c9 (sIf (D3 (e8 asB (eOp dEq (eCB k9 (a8 (a7 1) b7)) (eC (.int 2)))) (e8 asB (eOp dEq (eOp dIx (a7 1) (eC (.int 0))) (eC (.str "turn")))))
   (g8 [false,true] (G6 "TurnLine" (a8 (d8 W3 (a8 (eOp dIx (a7 1) (eC (.int 1))) b7)) b7)))
   sNx)
  sNo))
def y2h(ws:List PySem.Str):i5 (ws.map .str)=true:=B5 _ _ fun _ _=>rfl
def y63{x:PySem.Str}{ws:List PySem.Str}(ms:F6 x [.str (PySem.Str.ofString " ")]=some (.lst (ws.map .str))):W1 [.str x]=SR.out false (rdT [.im (.str x),.ow (.lst (ws.map .str))]):=by
 have nl:=y2h ws;unfold W1;rw[Qi,ζ (show [D.str x].length=1 from rfl)];show SR.out false (Mw [.im (.str x),.em])=_;unfold Mw;have a1:∀X,sIf (o9 (e8 l6 (eUn (l5 "str") (a7 0)))) X sNx [.im (.str x),.em]=.nx [.im (.str x),.em]:=by intro X;walk_at "dz";rw[isS];walk_at "dz"
 rw[J4 (a1 _)];have a2:e7 true 1 [true] (eMt F6 (a7 0) (a8 (eC (.str (PySem.Str.ofString " "))) b7)) [.im (.str x),.em]=.nx [.im (.str x),.ow (.lst (ws.map .str))]:=by generalize ws.map D.str=ds at *;walk_at "dz";simp only[eMt];walk_at "dz";rw[ms];walk_at "dz";rw[nl];walk_at "dz"
 rw[J4 a2];rfl
def d22:decide (((2:Nat):Int)=2)=true:=rfl
def Og(p:P2)(fs:DE->R (List D))(ρ:DE)(h:fs ρ=.ok [T2 p]):G6 "TurnLine" fs ρ=.ok (.obj "TurnLine" [T2 p]):=by unfold G6;rw[h,R.bind_ok,ζ ⟨rfl,by simp[i5,E0],by simp[T2,pls,D.pl]⟩]
def wB(h:K3 p)(ah:p.1≠p.2):W1 [.str (tw p)]=.ok (.obj "TurnLine" [T2 (nr p)]):=by
 have pr:=wC h ah;rw[y63 (y2g (y62 p) (FH _ _) (fun w hw=>by
  rcases eH.mp hw with rfl |hw
  . exact y95
  . rw[gV.mp hw];exact wE h) (by have:=y2f h;omega))]
 have e1:dEq (.lst [.str (PySem.Str.ofString "turn"),.str (wd p)]) (.lst [.str (PySem.Str.ofString "mirror")])=some (.bl false):=by unfold dEq;rw[ζ ⟨rfl,rfl,by simp[D.dep,j0]⟩];simp[eqD,m9]
 simp only[gD,CM];unfold rdT;walk_at "dz";rw[e1];walk_at "dz";rw[d22];walk_at "dz";rw[eqS];walk_at "dz";rw[Og (nr p) _ _ (by walk_at "dz";rw[pr];walk_at "dz")];walk_at "dz"
def Gi(p:P2):K9 "line" ["TurnLine"] (.obj "TurnLine" [T2 p])=some (T2 p):=by simp only[K9,n6];rfl
section
def Of{tb:String->Option (List D->R D)}{fo:DE->R D}{fs:DE->R (List D)}{ρ:DE}{c:String}{zs:List D}{g:List D->R D}{x:D}(h1:fo ρ=.ok (.obj c zs))(h2:fs ρ=.ok [x])(h3:tb c=some g):D6 tb fo fs ρ=g [.obj c zs,x]:=by unfold D6;rw[h1];simp only[R.bind_ok,h3];rw[h2,R.bind_ok]
end
abbrev dl(x:P2):D:=.obj "TurnLine" [T2 x]
def Qo(x:P2):(dl x).noL=true:=rfl
section
variable {n:Int}{v:List P2}{x:P2}
def Qn(g:Gd n v)(hx:x∈v):P8 [dl x,cD n v]=.ok (cD n (tu n v x).1):=by have ts:=(U3 g hx).1;have s0:=Oi n (tu n v x).1 (tu n v x).2;have fl:=Gi x;generalize cD n (tu n v x).1=Y at *;generalize cD n v=X at *;generalize T2 (tu n v x).2=W at *;unfold P8 jV;walk_at "dz";rw[fl];walk_at "dz";rw[ts];walk_at "dz"
def y2i(g:Gd n v)(hx:x∈v):W7 [dl x,cD n v]=.ok (dl (tu n v x).2):=by
 have ts:=(U3 g hx).1;have s1:=kr n (tu n v x).1 (tu n v x).2;have fl:=Gi x;have mk:=Og (tu n v x).2;generalize cD n (tu n v x).1=Y at *;generalize cD n v=X at *;unfold W7 jU;walk_at "dz";rw[mk _ _ (by
  walk_at "dz";rw[fl];walk_at "dz";rw[ts];walk_at "dz";try rw[s1]
  walk_at "dz")]
 walk_at "dz"
end
def tr(n:Int):List P2->List P2->List (List P2)
 |v,[]=>[v]
 |v,x::r=>v::tr n (tu n v x).1 r
theorem Qm(n:Int):∀(qs v:List P2),(tr n v qs).length=qs.length+1
 | [],_=>rfl
 |x::r,v=>by rw[tr,io,io,Qm n r]
theorem Ql:∀(as bs v:List P2),Wy n e v as->tr n v (as++bs)=tr n v as++(tr n e bs).tail
 | [],bs,v,h=>by have h:v=e:=h;subst h;cases bs<;>rfl
 |x::r,bs,v,h=>by rw[List.cons_append,tr,tr,Ql r bs _ h.2];rfl
theorem Qk:∀(qs v:List P2),Gd n v->Wy n u v qs->tr n u (cm n v qs).reverse=(tr n v qs).reverse
 | [],v,g,h=>by have h:v=u:=h;subst h;rfl
 |x::r,v,g,h=>by obtain⟨g1,g2,g3⟩:=v4 v x g h.1;rw[cm,GI,Ql _ _ _ (Cd r _ g1 h.2),Qk r _ g1 h.2];show(tr n (tu n v x).1 r).reverse++[(tu n (tu n v x).1 (tu n v x).2).1]=(v::tr n (tu n v x).1 r).reverse;rw[g3,GI]
def Tl(ps:List (List P2))(w:List P2):dIx (.lst ((ps++[w]).map (cD n))) (.int (-1))=some (cD n w):=by
 simp only[dIx,dOr,v5,atI];have:ixN ((ps++[w]).map (cD n)).length (-1)=some ps.length:=by unfold ixN;rw[bI,χ,CZ,ξ (by omega),ζ (by omega)];congr 1;omega
 rw[this,Option.bind_some,CS,DH (by rw[bI];omega),bI,Nat.sub_self];rfl
def y96(g:Gd n v)(hx:x∈v)(A0 A1:D)(ps:List (List P2))(hl:ps.length<900):Fa [.im A0,.im A1,.ow (.lst ((ps++[v]).map (cD n))),.im (dl x)]=.nx [.im A0,.im A1,.ow (.lst ((ps++[v]++[(tu n v x).1]).map (cD n))),.im (dl x)]:=by have dm:=Qn g hx;have la:=Tl (n:=n) ps v;have ap:=Qt (n:=n) (B:=ps++[v]) (v:=(tu n v x).1) (by rw[χ,CZ];omega);have k1:=m7 n (tu n v x).1;generalize (ps++[v]++[(tu n v x).1]).map (cD n)=V at *;generalize (ps++[v]).map (cD n)=U at *;generalize cD n (tu n v x).1=Y at *;generalize cD n v=X at *;unfold Fa;walk_at "dz";rw[Of (g:=P8) (c:="TurnLine") (zs:=[T2 x]) (x:=X) (by walk_at "dz") (by walk_at "dz";rw[la];walk_at "dz") rfl,dm];walk_at "dz";rw[k1];walk_at "dz";rw[ap];walk_at "dz"
theorem ke(A0 A1:D):∀(qs v:List P2)(ps:List (List P2))(s3:Sl),Gd n v->Wy n u v qs->ps.length+qs.length<900 ->
  ∃nA,o6 (.n 3) Fa (qs.map dl) [.im A0,.im A1,.ow (.lst ((ps++[v]).map (cD n))),s3]=.nx [.im A0,.im A1,.ow (.lst ((ps++tr n v qs).map (cD n))),nA]
 | [],v,ps,s3,g,h,hl=>⟨s3,rfl⟩
 |x::r,v,ps,s3,g,h,hl=>by rw[io]at hl;obtain⟨g1,_,_⟩:=v4 v x g h.1;obtain⟨nA,e2⟩:=ke A0 A1 r _ (ps++[v]) (.im (dl x)) g1 h.2 (by rw[χ,CZ];omega);refine⟨nA,?_⟩;rw[gD,Jj];simp only[List.set_cons_succ,List.set_cons_zero];rw[y96 g h.1 A0 A1 ps (by omega),O4,e2,tr,GL];rfl
def Vo(g:Gd n v)(h:Wy n u v qs)(hl:qs.length<=500):C6 [cD n v,.lst (qs.map dl)]=.ok (.lst ((tr n v qs).map (cD n))):=by obtain⟨s3,e⟩:=ke (cD n v) (.lst (qs.map dl)) qs v [] .em g h (by rw[FA];omega);have kv:=m7 n v;rw[DT,DT,gD,CM]at e;generalize (tr n v qs).map (cD n)=TT at *;generalize cD n v=X at *;generalize qs.map dl=Q at *;unfold C6 Wc;walk_at "dz";rw[kv];walk_at "dz";rw[e];walk_at "dz"
def y97(g:Gd n v)(hx:x∈v)(A0 A1:D)(ps:List P2)(hl:ps.length<900):Eo [.im A0,.im A1,.ow (.lst (ps.map dl)),.im (cD n v),.im (dl x)]=.nx [.im A0,.im A1,.ow (.lst ((ps++[(tu n v x).2]).map dl)),.im (cD n (tu n v x).1),.im (dl x)]:=by
 have dm:=Qn g hx;have bm:=y2i g hx;have ap:k8 (.lst (ps.map dl)) [dl (tu n v x).2]=some (.lst ((ps++[(tu n v x).2]).map dl)):=by simp only[k8,bI];rw[ζ (by omega),CS];rfl
 have k1:=m7 n (tu n v x).1;have k2:=Qo (tu n v x).2;generalize (ps++[(tu n v x).2]).map dl=V at *;generalize dl (tu n v x).2=W at *;generalize ps.map dl=U at *;generalize cD n (tu n v x).1=Y at *;generalize cD n v=X at *;unfold Eo;walk_at "dz";rw[Of (g:=W7) (c:="TurnLine") (zs:=[T2 x]) (x:=X) (by walk_at "dz") (by walk_at "dz") rfl,bm];walk_at "dz";rw[k2];walk_at "dz";rw[ap];walk_at "dz";rw[Of (g:=P8) (c:="TurnLine") (zs:=[T2 x]) (x:=X) (by walk_at "dz") (by walk_at "dz") rfl,dm];walk_at "dz";rw[F3 k1];walk_at "dz"
theorem kd(A0 A1:D):∀(qs v ps:List P2)(s4:Sl),Gd n v->Wy n u v qs->ps.length+qs.length<900 ->
  ∃s3 cJ,o6 (.n 4) Eo (qs.map dl) [.im A0,.im A1,.ow (.lst (ps.map dl)),.im (cD n v),s4]=.nx [.im A0,.im A1,.ow (.lst ((ps++cm n v qs).map dl)),s3,cJ]
 | [],v,ps,s4,g,h,hl=>⟨_,_,by rw[cm,CT];rfl⟩
 |x::r,v,ps,s4,g,h,hl=>by rw[io]at hl;obtain⟨g1,_,_⟩:=v4 v x g h.1;obtain⟨s3,cJ,e2⟩:=kd A0 A1 r _ (ps++[(tu n v x).2]) (.im (dl x)) g1 h.2 (by rw[χ,CZ];omega);refine⟨s3,cJ,?_⟩;rw[gD,Jj];simp only[List.set_cons_succ,List.set_cons_zero];rw[y97 g h.1 A0 A1 ps (by omega),O4,e2,cm,GL];rfl
def y2j(g:Gd n v)(h:Wy n u v qs)(hl:qs.length<=500):T7 [cD n v,.lst (qs.map dl)]=.ok (.lst ((cm n v qs).reverse.map dl)):=by
 obtain⟨s3,s4,e⟩:=kd (cD n v) (.lst (qs.map dl)) qs v [] .em g h (by rw[FA];omega);have kv:=m7 n v;have rv:D5 (.lst ((cm n v qs).map dl))=some (.lst ((cm n v qs).reverse.map dl)):=by simp only[D5,List.map_reverse]
 rw[CM,DT]at e;generalize (cm n v qs).reverse.map dl=CR at *;generalize (cm n v qs).map dl=C at *;generalize cD n v=X at *;generalize qs.map dl=Q at *;unfold T7 Re;walk_at "dz";rw[F3 kv];walk_at "dz";rw[e];walk_at "dz";rw[rv];walk_at "dz"
theorem Qj:∀(qs v:List P2),Wy n u v qs->∃ps,tr n v qs=ps++[u]
 | [],v,h=>⟨[],by have h:v=u:=h;subst h;rfl⟩
 |x::r,v,h=>by obtain⟨ps,e⟩:=Qj r _ h.2;exact⟨v::ps,by rw[tr,e];rfl⟩
theorem qH:∀(qs v:List P2),Gd n v->Wy n u v qs->∀k,k<qs.length->∃w,(tr n v qs)[k]?=some w/\Gd n w/\qs.getD k (0,0)∈w/\(tr n v qs)[k+1]?=some (tu n w (qs.getD k (0,0))).1
 | [],v,g,h,k,hk=>by cases hk
 |x::r,v,g,h,0,hk=>⟨v,rfl,g,h.1,by cases r<;>rfl⟩
 |x::r,v,g,h,k+1,hk=>by obtain⟨g1,_,_⟩:=v4 v x g h.1;obtain⟨w,h1,h2,h3,h4⟩:=qH r _ g1 h.2 k (by rw[io]at hk;omega);exact⟨w,h1,h2,h3,h4⟩
def y98(n:Int)(v qs:List P2):(tr n v qs)[0]?=some v:=by cases qs<;>rfl
def y99{n:Int}{w:List P2}{x:P2}{TT:List D}(g:Gd n w)(hx:x∈w)(A1 A2:D)(k:Nat)(h1:TT[k]?=some (cD n w))(h2:TT[k+1]?=some (cD n (tu n w x).1)):Fk [.im (.lst TT),.im A1,.im A2,.im (.int (k:Int)),.im (T2 x)]=.nx [.im (.lst TT),.im A1,.im A2,.im (.int (k:Int)),.im (T2 x)]:=by
 have i1:=Dh h1;have i2:=Dh h2;have lt:=(U3 g hx).2;have c1:=Bw n w;have ne:=Cg n (tu n w x).1 (tu n w x).1;have bG:dIn true (T2 x) (.tup (w.map T2))=some (.bl false):=by rw[Tv,decide_eq_true hx];rfl
 rw[show((k+1:Nat):Int)=(k:Int)+1 by omega]at i2;generalize cD n (tu n w x).1=Y at *;generalize cD n w=X at *;generalize D.tup (w.map T2)=WW at *;generalize T2 x=XX at *;unfold Fk;walk_at "dz";rw[i1];walk_at "dz";rw[c1];walk_at "dz";rw[bG];walk_at "dz";rw[i2];walk_at "dz";rw[lt];walk_at "dz";rw[ne,decide_eq_true rfl];walk_at "dz"
def y2l(g:Gd n v)(h:Wy n u v qs)(hl:qs.length<=500):W2 [.lst ((tr n v qs).map (cD n)),cD n v,.lst (qs.map T2)]=.ok (.bl true):=by
 have lT:((tr n v qs).map (cD n)).length=qs.length+1:=by rw[bI,Qm]
 have lQ:(qs.map T2).length=qs.length:=bI ..;have i0:dIx (.lst ((tr n v qs).map (cD n))) (.int 0)=some (cD n v):=Dh (j:=0) (by rw[CJ,y98];rfl);have ne:=Cg n v v;have en:=y27 T2 (0,0) qs;obtain⟨ax,e,s3,s4,hr⟩:=Lc (tg:=.t [3,4]) (g:=Fk) qs.length (fun (i:Nat)=>D.tup [.int (i:Int),T2 (qs.getD i (0,0))])
  (fun k ρ=>∃s3 s4:Sl,ρ=[.im (.lst ((tr n v qs).map (cD n))),.im (cD n v),.im (.lst (qs.map T2)),s3,s4])
  [.im (.lst ((tr n v qs).map (cD n))),.im (cD n v),.im (.lst (qs.map T2)),.em,.em] ⟨.em,.em,rfl⟩ (by rintro k hk ρ ⟨s3,s4,rfl⟩;obtain⟨w,h1,h2,h3,h4⟩:=qH qs v g h k hk;exact⟨_,_,rfl,Or.inl (y99 h2 h3 _ _ k (by rw[CJ,h1];rfl) (by rw[CJ,h4];rfl)),_,_,rfl⟩)
 generalize (tr n v qs).map (cD n)=TT at *;generalize cD n v=X at *;rw[<-en]at e;generalize qs.map T2=Q at *;unfold W2 jf;walk_at "dz";rw[lT,lQ,decide_eq_true (show((qs.length+1:Nat):Int)=(qs.length:Int)+1 by omega)];walk_at "dz";rw[i0];walk_at "dz";rw[ne,decide_eq_true rfl];walk_at "dz";simp only[iEn];walk_at "dz";rw[e,hr];walk_at "dz"
def Tk(ns:List Int)(k:Int):∃i,P5 [.scr ns,.int k]=.ok (.int i):=by unfold P5 jB;walk_at "dz";exact⟨_,rfl⟩
def wA(I:CInv n ls T)(fX:n<=16)(hl:(ls.length:Int)+3=n)(c0:0<=c)(c1:c<n):∃ls' T',CInv (n+1) ls' T'/\so2 ls'=ls'/\(ls'.length:Int)+3=n+1/\Bs [.int n,.lst (ls.map T2),.int c]=.ok (.lst (ls'.map T2)):=by
 have I':=I.grow c c0 c1;refine⟨so2 (ls.map (sh2 c)++[u5 n c]),_,I'.perm (j8 _),Ju _,?_,?_⟩
 . rw[(j8 _).length_eq,χ,bI,CZ];push_cast;omega
 unfold Bs jA;walk_at "dz";rw[ζ (by rw[bI];omega),M8 (en:=T2) (bs:=fun q=>[D.int q.1,D.int q.2]) (g:=fun q=>T2 (sh2 c q)) ls (fun x _=>rfl) (fun q _=>by unfold jQ;walk_at "dz";rw[kz,kz];rfl)];simp only[R.bind_ok];rw[show ls.map (fun q=>T2 (sh2 c q))=(ls.map (sh2 c)).map T2 by rw[DJ];rfl];generalize AH:ls.map (sh2 c)=ls';have dZ:ls'.length<=13:=by rw[<-AH,bI];omega
 walk_at "dz";by_cases q:c=n - 1
 . rw[decide_eq_true q];walk_at "dz";rw[Aa (by omega)];walk_at "dz";unfold u5;rw[ζ q,Ew _ (by simp;omega)];walk_at "dz"
 . rw[decide_eq_false q];walk_at "dz";rw[Aa (by omega)];walk_at "dz";unfold u5;rw[ξ q,Ew _ (by simp;omega)];walk_at "dz"
def qG(ns:List Int)(k m:Int)(h0:0<=m)(h1:m<=13):∃v,Gd (3+m) v/\M9 [.scr ns,.int k,.int m]=.ok (cD (3+m) v):=by
 obtain⟨mm,rfl⟩:∃mm:Nat,m=(mm:Int):=⟨m.toNat,by omega⟩;obtain⟨ax,e,ls,T,s4,I,hs,hl,hr⟩:=Lc (tg:=.n 4) (g:=Ni) mm (fun (i:Nat)=>D.int (i:Int))
  (fun j ρ=>∃(ls:List P2)(T:List P3)(s4:Sl),CInv (3+(j:Int)) ls T/\so2 ls=ls/\(ls.length:Int)+3=3+(j:Int)/\ρ=[.im (.scr ns),.im (.int k),.im (.int (mm:Int)),.ow (.lst (ls.map T2)),s4])
  [.im (.scr ns),.im (.int k),.im (.int (mm:Int)),.ow (.lst []),.em] ⟨[],[(0,1,2)],.em,by simpa using y8m,rfl,rfl,rfl⟩ (by
   rintro j hj ρ ⟨ls,T,s4,I,hs,hl,rfl⟩;obtain⟨i,ed⟩:=Tk ns (k+j);have c0:0<=i % (3+(j:Int)):=Int.emod_nonneg _ (by omega);have c1:i % (3+(j:Int))<3+(j:Int):=Int.emod_lt_of_pos _ (by omega);obtain⟨ls',T',I',AI,dZ,eg⟩:=wA I (by omega) hl c0 c1;have k1:i5 (ls'.map T2)=true:=B5 _ _ fun x _=>E0 x
   refine⟨_,_,rfl,Or.inl ?_,ls',T',.im (.int (j:Int)),by rw[show 3+((j+1:Nat):Int)=3+(j:Int)+1 by omega];exact I',AI,by omega,rfl⟩;generalize ls'.map T2=Y at *;generalize ls.map T2=X at *;unfold Ni;walk_at "dz";rw[ed];walk_at "dz";rw[vi (by omega)];walk_at "dz";rw[eg];walk_at "dz";try rw[k1]
   walk_at "dz")
 refine⟨ls,⟨⟨T,I.cut⟩,hs,hl,by omega⟩,?_⟩;unfold M9 Zf;walk_at "dz";rw[vh (mm:Int) (by omega) (by walk_at "dz"),Qy];walk_at "dz";rw[e,hr];walk_at "dz";rfl
def yN(h1:d.pl=true)(h2:d.dep<=20):dEq d d=some (.bl true)/\dNe d d=some (.bl false):=by
 constructor
 . unfold dEq;rw[ζ ⟨h1,h1,by omega⟩,Bb _ h1]
 . unfold dNe;rw[ζ ⟨h1,h1,by omega⟩,Bb _ h1];rfl
def y2n(n:Int)(TT:List (List P2)):(D.lst (TT.map (cD n))).pl=true/\(D.lst (TT.map (cD n))).dep<=20:=by
 constructor
 . exact Ad TT (cD n) (Go n)
 . have:=U5 TT (cD n) 3 (Qs n);simp only[D.dep];omega
def y2o(h0:0<=x.1)(h1:x.1<x.2)(h2:x.2<=15):Am [some (dl x)]=.ok (dl x):=by
 have f:K3 x:=⟨fit h0 (by omega),fit (by omega) h2⟩;have rt:=wB f (by omega);rw[show nr x=x by unfold nr;rw[ζ h1]]at rt;have sh:=yO f;have fl:=Gi x;have ad:S1 (.str "turn ") (.str (wd x))=some (.str (tw x)):=by rw[y2e (by rw[kg];have:=Cy f;omega),<-Gj]
 have sm:W8 [dl x]=.ok (.str (tw x)):=by unfold W8 kc;walk_at "dz";rw[fl];walk_at "dz";rw[sh];walk_at "dz";rw[ad];walk_at "dz"
 unfold Am;walk_at "dz";unfold D6;walk_at "dz";rw[show Em "TurnLine"=some W8 from rfl];walk_at "dz";rw[sm];walk_at "dz";rw[rt]
noncomputable abbrev lw0:DS->SR:=(e7 false 1 [true] (eOp Q8 (d8 P5 (a8 (a7 0) (a8 (eC (.int 0)) b7))) (eC (.int 14))))
noncomputable abbrev lw1:DS->SR:=(e7 false 2 [true,true] (d8 M9 (a8 (a7 0) (a8 (eC (.int 1)) (a8 (a7 1) b7)))))
noncomputable abbrev lw2:DS->SR:=(e7 false 3 [true,true] (d8 M9 (a8 (a7 0) (a8 (eC (.int 14)) (a8 (a7 1) b7)))))
noncomputable abbrev lw3:DS->SR:=(e7 true 4 [false,false,true,true] (d8 U7 (a8 (a7 2) (a8 (a7 3) b7))))
noncomputable abbrev lw4:DS->SR:=(sIf (o9 (e8 l6 (eUn (l5 "list") (a7 4)))) (g8 [] (eC (.bl false))) sNx)
noncomputable abbrev lw5:DS->SR:=(e7 true 5 [false,false,false,false,true] (j7 (iL (a7 4)) b1 [] p9 Du))
noncomputable abbrev lw6:DS->SR:=(e7 true 6 [false,false,true,false,false,true] (d8 C6 (a8 (a7 2) (a8 (a7 5) b7))))
noncomputable abbrev lw7:DS->SR:=(sIf (bOr (o9 (e8 l6 (d8 W2 (a8 (a7 6) (a8 (a7 2) (a8 (a7 4) b7)))))) (e8 asB (eOp dNe (eOp dIx (a7 6) (eUn K5 (eC (.int 1)))) (a7 3)))) (g8 [] (eC (.bl false))) sNx)
noncomputable abbrev lw8:DS->SR:=(e7 true 7 [false,false,true,true,false,true] (d8 C6 (a8 (a7 3) (a8 (d8 T7 (a8 (a7 2) (a8 (a7 5) b7))) b7))))
noncomputable abbrev lw9:DS->SR:=(sIf (bOr (o9 (e8 l6 (eUn (l5 "list") (a7 7)))) (e8 asB (eOp dNe (eUn D5 (a7 7)) (a7 6)))) (g8 [] (eC (.bl false))) sNx)
noncomputable abbrev lw10:DS->SR:=(e7 true 8 [false,false,true,false,false,true] (d8 C6 (a8 (a7 2) (a8 (j7 (iL (a7 5)) b1 [] p9 Am) b7))))
noncomputable abbrev lw11:DS->SR:=(g8 [false,false,true,false,false,true,true,false,true] (B9 (eOp dEq (a7 8) (a7 6)) (eOp dEq (d8 C6 (a8 (a7 2) (a8 (a7 5) b7))) (a7 6))))
def rr(ns:List Int)(m:Int)(X Y:D)(s4 s5 s6 s7 s8:Sl):DS:=[.im (.scr ns),.im (.int m),.im X,.im Y,s4,s5,s6,s7,s8]
theorem qF:∀(qs v:List P2),Gd n v->Wy n u v qs->∀x∈qs,0<=x.1/\x.1<x.2/\x.2<=15
 | [],v,g,h,x,hx=>by cases hx
 |y::r,v,g,h,x,hx=>by
  rcases eH.mp hx with rfl |hx
  . obtain⟨T,I⟩:=g.inv;have:=I.lin x.1 x.2 h.1;have:=g.2.2.2;omega
  . exact qF r _ (v4 v y g h.1).1 h.2 x hx
def yM(ns:List Int)(dW:ns.length<=63):R8 [.scr ns]=.ok (.bl true):=by
 obtain⟨i,ed⟩:=Tk ns 0;have m0:0<=i % 14:=Int.emod_nonneg _ (by decide);have m1:i % 14<14:=Int.emod_lt_of_pos _ (by decide);obtain⟨v,gv,e1⟩:=qG ns 1 (i % 14) m0 (by omega);obtain⟨u,gu,e2⟩:=qG ns 14 (i % 14) m0 (by omega);obtain⟨qs,W,hq,ew⟩:=y5y gv gu;have wk:=Vo gv W (by omega);have hm:=y2j gv W (by omega);have lc:=Hr (3+i % 14) qs v;have wb:=Vo gu (Cd qs v gv W) (by rw[GX];omega);rw[Qk qs v gv W]at wb;have ov:=y2l gv W (by omega);obtain⟨ps,te⟩:=Qj qs v W;have la:dIx (.lst ((tr (3+i % 14) v qs).map (cD (3+i % 14)))) (.int (-1))=some (cD (3+i % 14) u):=by rw[te];exact Tl ps u
 have nu:=Cg (3+i % 14) u u;have rv:D5 (.lst ((tr (3+i % 14) v qs).reverse.map (cD (3+i % 14))))=some (.lst ((tr (3+i % 14) v qs).map (cD (3+i % 14)))):=by simp only[D5];rw[<-List.map_reverse,List.reverse_reverse]
 have lt:=y2n (3+i % 14) (tr (3+i % 14) v qs);obtain⟨eqT,neT⟩:=yN lt.1 lt.2;have c0:=M8 (bn:=b1) (f:=Du) (cs:=[]) (en:=T2) (bs:=fun x=>[T2 x]) (g:=fun x=>dl x) qs (fun _ _=>rfl) (fun x _=>by unfold Du;rw[Og x _ _ (by walk_at "dz")]);have c1:=M8 (bn:=b1) (f:=Am) (cs:=[]) (en:=fun x:P2=>dl x) (bs:=fun x=>[dl x]) (g:=fun x=>dl x) qs (fun _ _=>rfl) (fun x hx=>by obtain⟨a1,a2,a3⟩:=qF qs v gv W x hx;exact y2o a1 a2 a3);have lQ:(qs.map T2).length<=1000:=by rw[bI];omega
 have lD:(qs.map fun x=>dl x).length<=1000:=by rw[bI];omega
 have nQ:i5 (qs.map T2)=true:=B5 _ _ fun x _=>E0 x
 have nD:i5 (qs.map fun x=>dl x)=true:=B5 _ _ fun x _=>Qo x
 have nT:i5 ((tr (3+i % 14) v qs).map (cD (3+i % 14)))=true:=B5 _ _ fun x _=>m7 _ x
 have nB:i5 ((tr (3+i % 14) v qs).reverse.map (cD (3+i % 14)))=true:=B5 _ _ fun x _=>m7 _ x
 have kv:=m7 (3+i % 14) v;have ku:=m7 (3+i % 14) u;generalize (tr (3+i % 14) v qs).reverse.map (cD (3+i % 14))=BT at *;generalize (tr (3+i % 14) v qs).map (cD (3+i % 14))=TT at *;generalize (cm (3+i % 14) v qs).reverse.map dl=HM at *;generalize (qs.map fun x=>dl x)=DD at *;generalize qs.map T2=Q at *;generalize cD (3+i % 14) v=X at *;generalize cD (3+i % 14) u=Y at *;generalize hi:i % 14=m at *;have h0:∀E:DS->SR,c9 lw0 (c9 lw1 (c9 lw2 (c9 lw3 E))) [.im (.scr ns),.em,.em,.em,.em,.em,.em,.em,.em]=E (rr ns m X Y (.ow (.lst Q)) .em .em .em .em):=by intro E;unfold rr;walk_at "dz";rw[ed];walk_at "dz";rw[vi (by omega),hi];walk_at "dz";rw[e1];walk_at "dz";rw[F3 kv];walk_at "dz";rw[e2];walk_at "dz";rw[F3 ku];walk_at "dz";rw[ew];walk_at "dz";rw[nQ];walk_at "dz"
 have h4:lw4 (rr ns m X Y (.ow (.lst Q)) .em .em .em .em)=.nx (rr ns m X Y (.ow (.lst Q)) .em .em .em .em):=by unfold rr;walk_at "dz"
 have h5:lw5 (rr ns m X Y (.ow (.lst Q)) .em .em .em .em)=.nx (rr ns m X Y (.ow (.lst Q)) (.ow (.lst DD)) .em .em .em):=by unfold rr;walk_at "dz";rw[ζ (by omega),c0];walk_at "dz";rw[nD];walk_at "dz"
 have h6:lw6 (rr ns m X Y (.ow (.lst Q)) (.ow (.lst DD)) .em .em .em)=.nx (rr ns m X Y (.ow (.lst Q)) (.ow (.lst DD)) (.ow (.lst TT)) .em .em):=by unfold rr;walk_at "dz";rw[wk];walk_at "dz";rw[nT];walk_at "dz"
 have h7:lw7 (rr ns m X Y (.ow (.lst Q)) (.ow (.lst DD)) (.ow (.lst TT)) .em .em)=.nx (rr ns m X Y (.ow (.lst Q)) (.ow (.lst DD)) (.ow (.lst TT)) .em .em):=by unfold rr;walk_at "dz";rw[ov];walk_at "dz";rw[la];walk_at "dz";rw[nu,decide_eq_true rfl];walk_at "dz"
 have h8:lw8 (rr ns m X Y (.ow (.lst Q)) (.ow (.lst DD)) (.ow (.lst TT)) .em .em)=.nx (rr ns m X Y (.ow (.lst Q)) (.ow (.lst DD)) (.ow (.lst TT)) (.ow (.lst BT)) .em):=by unfold rr;walk_at "dz";rw[hm];walk_at "dz";rw[wb];walk_at "dz";rw[nB];walk_at "dz"
 have h9:lw9 (rr ns m X Y (.ow (.lst Q)) (.ow (.lst DD)) (.ow (.lst TT)) (.ow (.lst BT)) .em)=.nx (rr ns m X Y (.ow (.lst Q)) (.ow (.lst DD)) (.ow (.lst TT)) (.ow (.lst BT)) .em):=by unfold rr;walk_at "dz";rw[rv];walk_at "dz";rw[neT];walk_at "dz"
 have AJ:lw10 (rr ns m X Y (.ow (.lst Q)) (.ow (.lst DD)) (.ow (.lst TT)) (.ow (.lst BT)) .em)=.nx (rr ns m X Y (.ow (.lst Q)) (.ow (.lst DD)) (.ow (.lst TT)) (.ow (.lst BT)) (.ow (.lst TT))):=by unfold rr;walk_at "dz";rw[ζ (by omega),c1];walk_at "dz";rw[wk];walk_at "dz";rw[nT];walk_at "dz"
 have AK:SR.out false (lw11 (rr ns m X Y (.ow (.lst Q)) (.ow (.lst DD)) (.ow (.lst TT)) (.ow (.lst BT)) (.ow (.lst TT))))=.ok (.bl true):=by unfold rr;walk_at "dz";rw[eqT];walk_at "dz";rw[wk];walk_at "dz";rw[eqT];walk_at "dz"
 unfold R8;rw[Qi,ζ (show [D.scr ns].length=1 from rfl)];show SR.out false (c9 lw0 (c9 lw1 (c9 lw2 (c9 lw3 (c9 lw4 (c9 lw5 (c9 lw6 (c9 lw7 (c9 lw8 (c9 lw9 (c9 lw10 lw11)))))))))) [.im (.scr ns),.em,.em,.em,.em,.em,.em,.em,.em])=_;rw[h0,J4 h4,J4 h5,J4 h6,J4 h7,J4 h8,J4 h9,J4 AJ];exact AK
end K98
namespace K98
open PySem PySem.Spec PyProof.Rows L2
def walk{l:PySem.W.OpenLaw}{q:Program}{loose:List Str}{XP:(Str->Option Value)->Heap->Prop}{YP:World->Heap->Prop}{d:DefRec}{K:Params->Frag}(hn:l.most=some 63)(gK:d.params.defaults=[])
  (hY:∀(w:World)(h:Heap),YP w h->(K w.params).In h)
  (F:∀(w:World)(mg:Str->Option Value)(fa:Addr)(h:Heap),(K w.params).In h->h.Ns mainGlobals mg->mg d.name=some (.ref fa) ->
   ∃fd:FuncData,(∀(s:Shared)(u:Value),BindsTo s fd ⟨[u],[]⟩ [("_law_script",u)])/\∀base:Heap,(K w.params).In base->base.Ns mainGlobals mg->FnOk l.prog w (K w.params) mg base (CX1 l.prog w) 12 fa fd ["_law_script"] (spL (K w.params) false R8 1)) :
  PySem.W.WalkO q loose XP YP l.row.toRowW d [] (fun f vs=>PySem.call f vs):=
 L2.walk_of (n:=63) (k:=12) (x:="_law_script") (CX:=fun w=>CX1 l.prog w) (sp:=fun w=>(spL (K w.params) false R8 1)) hn (by decide) gK ⟨rfl,by decide,by decide⟩ hY F (fun _ _ a ns hl hO hS=>vq hO hS (yM ns hl)) fun _ _ _ _ _ ⟨_,_,_,_,_,_,z⟩=>z
end K98
open PySem PySem.W PyProof.Rows
set_option maxRecDepth 100000 in
set_option maxHeartbeats 0 in
theorem PySem.Challenge.cw_friezeyard_k98_whole_way_as_a_journey_holds : PySem.Challenge.rw_friezeyard_k98_whole_way_as_a_journey.Holds := by
 w_on;o_law
 refine holds_open (q:=K98.q) (loose:=K98.loose) (Xt:=K98.xtH) (XP:=XL K98.q []) (Yf:=K98.hook.obs) (Ya:=K98.hook.val)
  (YP:=K98.hook.says) (N:=7400) K98.left K98.hook.of K98.hook.keeps
  (fun s e=>xl_of s (Bool.and_eq_true_iff.mp e).1) XL.keeps (by rfl) (by rfl) (by rfl)
  (fun s e=>recFacts_of (Bool.and_eq_true_iff.mp e).2) (by rfl) (by assumption) (by decide +kernel)
  ⟨rfl,rfl,rfl,rfl,rfl,by decide +kernel⟩ ?hw ?hc
 (case hw=>w_witness2)
 refine K98.walk (l:=PySem.Challenge.rw_friezeyard_k98_whole_way_as_a_journey) (K:=K98.K) rfl rfl (fun w h Y=>Y) ?F
 case F=>
  intro w mg fa h KX G hmg
  k_fill
  refine' K98.all_mk KX G hmg ?A0 ?A1 ?A2 ?A3 ?A4 ?A5 ?A6 ?A7 ?A8 ?A9 ?A10 ?A11 ?A12 ?A13 ?A14 ?A15 ?A16 ?A17 ?A18 ?A19 ?A20 ?A21 ?A22 ?A23 ?A24 ?A25 ?A26 ?A27 ?A28 ?A29 ?A30 ?A31 ?A32 ?A33 ?A34 ?A35 ?A36 ?A37 ?A38 ?A39 ?A40 ?A41 ?A42 ?A43 ?T ?Z ?J_TurnLine
  (case Z=>constructor;exact mg_of KX G (by k_is);k_is;kernel_rfl;kernel_rfl;kernel_rfl;k_is;kernel_rfl;kernel_rfl;k_is)
  (case A0=>apply L2.fat;k_is;k_is;k_is;k_is)
  (case A1=>apply L2.fat;k_is;k_is;k_is;k_is)
  (case A2=>apply L2.fat;k_is;k_is;k_is;k_is)
  (case A3=>apply L2.fat;k_is;k_is;k_is;k_is)
  (case A4=>apply L2.fat;k_is;k_is;k_is;k_is)
  (case A5=>apply L2.fat;k_is;k_is;k_is;k_is)
  (case A6=>apply L2.fat;k_is;k_is;k_is;k_is)
  (case A7=>apply L2.fat;k_is;k_is;k_is;k_is)
  (case A8=>apply L2.fat;k_is;k_is;k_is;k_is)
  (case A9=>apply L2.fat;k_is;k_is;k_is;k_is)
  (case A10=>apply L2.fat;k_is;k_is;k_is;k_is)
  (case A11=>apply L2.fat;k_is;k_is;k_is;k_is)
  (case A12=>apply L2.fat;k_is;k_is;k_is;k_is)
  (case A13=>apply L2.fat;k_is;k_is;k_is;k_is)
  (case A14=>apply L2.fat;k_is;k_is;k_is;k_is)
  (case A15=>apply L2.mat;k_is;k_is;k_is;k_is;k_is)
  (case A16=>apply L2.fat;k_is;k_is;k_is;k_is)
  (case A17=>apply L2.fat;k_is;k_is;k_is;k_is)
  (case A18=>apply L2.fat;k_is;k_is;k_is;k_is)
  (case A19=>apply L2.fat;k_is;k_is;k_is;k_is)
  (case A20=>apply L2.fat;k_is;k_is;k_is;k_is)
  (case A21=>apply L2.fat;k_is;k_is;k_is;k_is)
  (case A22=>apply L2.fat;k_is;k_is;k_is;k_is)
  (case A23=>apply L2.fat;k_is;k_is;k_is;k_is)
  (case A24=>apply L2.fat;k_is;k_is;k_is;k_is)
  (case A25=>apply L2.fat;k_is;k_is;k_is;k_is)
  (case A26=>apply L2.fat;k_is;k_is;k_is;k_is)
  (case A27=>apply L2.fat;k_is;k_is;k_is;k_is)
  (case A28=>apply L2.fat;k_is;k_is;k_is;k_is)
  (case A29=>apply L2.fat;k_is;k_is;k_is;k_is)
  (case A30=>apply L2.fat;k_is;k_is;k_is;k_is)
  (case A31=>apply L2.mat;k_is;k_is;k_is;k_is;k_is)
  (case A32=>apply L2.mat;k_is;k_is;k_is;k_is;k_is)
  (case A33=>apply L2.fatD;k_is;k_is;k_is;k_is;k_is)
  (case A34=>apply L2.fat;k_is;k_is;k_is;k_is)
  (case A35=>apply L2.fat;k_is;k_is;k_is;k_is)
  (case A36=>apply L2.fat;k_is;k_is;k_is;k_is)
  (case A37=>apply L2.fat;k_is;k_is;k_is;k_is)
  (case A38=>apply L2.fat;k_is;k_is;k_is;k_is)
  (case A39=>apply L2.fat;k_is;k_is;k_is;k_is)
  (case A40=>apply L2.fat;k_is;k_is;k_is;k_is)
  (case A41=>apply L2.fat;k_is;k_is;k_is;k_is)
  (case A42=>apply L2.fat;k_is;k_is;k_is;k_is)
  (case A43=>apply L2.fat;k_is;k_is;k_is;k_is)
  (case T=>constructor<;>exact mg_none_of KX G (by k_is))
  (case J_TurnLine=>apply L2.mat;k_is;k_is;k_is;k_is;k_is)
