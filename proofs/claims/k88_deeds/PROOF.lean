import PyProof.Rows.All
import Wide.All
import OpenK.AllK
import Wide.FinOn
import Lean
import PyProof.EqAt
import PyProof.EqKinds
import PyProof.TupleCall
import KE.KIsAll
import KE.RegKIsAll
import PyProof.ExcArgsOwn
import PyProof.InstStoreFacts
import PyProof.Rows.MinMaxN
import PyProof.Rows.CallKwBuiltin
import KE.KMinKey
import KE.KDictOf
import PyProof.AttrMissSeq
import KE.KIntText
import PyProof.SliceStr2
import PyProof.Rows.StrJoin2
import PyProof.StrCalls
import PyProof.StrWalks
import PyProof.Rows.FStr
import KE.KSortAsk
import PySem.Challenge.RW_friezeyard_k88_deeds
set_option compiler.extract_closed false
noncomputable section
open PySem.W (Frag Looks callWith_K codeIn emptyDict hideAll hideAll_get hideAll_none instObj isFn keepIn kia_one kitAny kitOne lookIn looks_findIn mroIn nsIn of_hideAll plainOver)
def bI:=@List.mem_cons_of_mem
def dg:=@List.mem_cons_self
def gq:=@List.mem_cons
def gV:=@List.length_map
def io:=@List.map_cons
def lO:=@List.getD_eq_getElem?_getD
def oF:=@Bool.and_eq_true
def pp:=@List.length_cons
def tB:=@List.mem_singleton
def uZ:=@Option.map_some
def AA:=@Nat.le_trans
def AB:=@List.size_toArray
def AC:=@List.mem_map
def AD:=@Nat.lt_of_lt_of_le
def AE:=@List.mem_append_right
def AF:=@Bool.false_eq_true
def AG:=@Nat.ne_of_lt
def AH:=@List.getElem?_eq_getElem
def AI:=@PySem.Str.length_append
def AJ:=@PySem.wpAny_mono
def AK:=@List.mem_filter
def AL:=@List.map_map
def AM:=@List.map_congr_left
def AN:=@List.mem_append
def AO:=@List.getElem?_map
def AQ:=@List.map_nil
def AR:=@List.nodup_cons
def AS:=@List.all_eq_true
def AT:=@List.getElem?_set_ne
def AU:=@Int.emod_eq_of_lt
def AV:=@List.getElem?_append_right
def AW:=@decide_eq_true_eq
def AX:=@List.getElem?_eq_some_iff
def AY:=@List.length_append
def AZ:=@PyProof.Rows.boot_isinstance
def BA:=@Int.emod_nonneg
def BB:=@Array.length_toList
def BC:=@decide_eq_false_iff_not
def BE:=@Int.emod_lt_of_pos
def BF:=@PySem.F.plain_max_loop
def BG:=@congrArg
def BH:=@List.getElem?_append_left
def BI:=@PySem.Heap.get?_update_other
def BJ:=@List.append_nil
def BK:=@if_false
def BL:=@List.cons_ne_nil
def BM:=@if_true
def BN:=@beq_iff_eq
def BO:=@PySem.F.excBase_ValueError
def BQ:=@Option.map_eq_some_iff
def BR:=@List.getElem?_set_self
def BS:=@List.zip_cons_cons
def BU:=@Nat.zero_le
def BV:=@List.mem_of_getElem?
def BW:=@PySem.F.plainAttrs_list
def BX:=@Ne.symm
def BY:=@PySem.wpAny_holding
def BZ:=@PySem.mem_of_lookup
def CA:=@List.filterMap_cons
def CB:=@Int.toNat_of_nonneg
def CC:=@List.cons_append
def CD:=@List.mem_filterMap
def CF:=@Classical.byContradiction
def CG:=@PySem.wpAny_Call_Name_kw
def CH:=@Nat.lt_irrefl
def CI:=@Bool.and_self
def CJ:=@beq_eq_false_iff_ne
def CK:=@PySem.wpAny_truthy_bool
def CL:=@PySem.wpAny_loadPart_at
def CM:=@List.filter_cons_of_pos
def CN:=@PyProof.Rows.boot_str
def CO:=@PySem.Str.empty_append
def CP:=@List.pairwise_cons
def CQ:=@Int.lt_trans
def CS:=@List.map_append
def CT:=@List.length_set
def CU:=@List.find?_cons
def CV:=@Bool.eq_iff_iff
def CW:=@List.sum_cons
def CY:=@List.length_filter_le
def CZ:=@List.pairwise_map
def DA:=@PySem.wpAny_passesOwn
def DB:=@List.mem_range
def DC:=@Array.getElem?_eq_some_iff
def DF:=@Nat.le_of_lt
def DG:=@List.not_mem_nil
def DH:=@List.lookup_cons
def DI:=@List.length_take
def DJ:=@PySem.F.type_list_append
def DK:=@PySem.F.slot_list_append
def DL:=@List.nil_append
def DM:=@decide_true
def DO:=@List.length_eq_zero_iff
def DQ:=@decide_false
def DR:=@PySem.F.entry_max_loop
def DT:=@PySem.wpAny_execs_nil
def DU:=@Nat.le_of_ble_eq_true
def DV:=@List.length_replicate
def DW:=@List.getElem?_eq_none
def DX:=@Nat.lt_succ_self
def DY:=@List.filter_cons
def DZ:=@PySem.W.mg_of
def EA:=@List.any_cons
def EB:=@PySem.Str.cps_append
def EC:=@List.perm_cons_erase
def ED:=@Bool.or_eq_true
def EE:=@PySem.F.typeOf_object_class
def EF:=@PySem.Heap.size_update
def EG:=@PySem.sizeLine_eq
def EH:=@List.perm_append_singleton
def EI:=@PySem.Around.under_plainId
def EJ:=@PySem.codeAny_builtin
def EK:=@List.drop_eq_getElem_cons
def EL:=@Int.toNat_natCast
def EM:=@Int.lt_trichotomy
def EN:=@Bool.not_eq_true'
def EO:=@PySem.codeAny_mono
def EQ:=@Int.emod_self
def ER:=@Array.getElem?_replicate
def ES:=@PyProof.Rows.boot_tuple
set_option Elab.async false
set_option linter.all false
set_option maxRecDepth 100000
set_option maxHeartbeats 4000000
def ξ:=@if_neg
def ζ:=@if_pos
def η:=@Nat.le_refl
def θ:=@Bool.false_ne_true
namespace L2
open PySem PySem.Spec PyProof.Rows
def χ:=@wpAny_bind
def δ:=@wpS_bind
def γ:=@wpAny_pure
def ω:=@Heap.get?_push_of_some
def τ:=@Heap.lt_size
def π:=@Heap.get?_push_size
noncomputable def B6(s:Stmt):Arguments:=match s with
 | .FunctionDef _ a _ _ _ _ _ _ _ _=>a
 |_=>{ posonlyargs:=[],args:=[],vararg:=none,kwonlyargs:=[],kw_defaults:=[],kwarg:=none,defaults:=[] }
noncomputable def t9(s:Stmt):List Stmt:=match s with
 | .FunctionDef _ _ b _ _ _ _ _ _ _=>b
 |_=>[]
noncomputable def i7(s:Stmt):Scope:=match s with
 | .FunctionDef _ _ _ _ _ _ sc _ _ _=>sc
 |_=>{ kind:=.function,names:=[],isGenerator:=false,isCoroutine:=false }
open PySem.W in
noncomputable def Ft(tb:String->Option Builtin)(p:Program)(w:World)(m:Nat)(fN:Option Value):Nat->SharedT->Thread->Option SharedT
 | 0,_,_=>none
 |n+1,s,t=>match through t with
  |true=>some s
  |false=>match stepOk m fN t with
   |false=>none
   |true=>match stepT (denote tb) p w s t with
    |some (s',t')=>Ft tb p w m fN n s' t'
    |none=>none
open PySem.W in
theorem Yy:∀(n:Nat){s s':SharedT}{t:Thread},Ft tb p w m fN n s t=some s'->topRun tb p w m fN n s.abs t=some s'.abs
 | 0,_,_,_,h=>nomatch h
 |n+1,s,s',t,h=>by
  unfold Ft at h;unfold topRun;cases a:through t with
  |true=>rw[a]at h;cases h;rfl
  |false=>
   rw[a]at h
   cases b:stepOk m fN t with
   |false=>rw[b]at h;cases h
   |true=>
    rw[b]at h
    cases c:stepT (denote tb) p w s t with
    |none=>rw[c]at h;cases h
    |some z=>
     obtain⟨s2,t2⟩:=z
     rw[c]at h
     rw[stepT_spec c]
     exact Yy n h
open PySem.W in
noncomputable def Tu:List Obj->Nat->BT->BT
 | [],_,t=>t
 |o::l,i,t=>Tu l (i+1) (t.ins i o)
open PySem.W in
def bootS(w:World)(os:OsState):SharedT:=⟨Tu (boot_heap w.params).objs.toList 0 .nil,(boot_heap w.params).objs.size,(boot_heap w.params).life,Array.mk [],boot_drawn,boot_toks,os⟩
open PySem.W in
noncomputable def seenAt(p q:Program)(loose:List Str)(Xt:Shared->Bool){α:Type}(Yf:Shared->α)(w:World)(t:Shared):=
 (staticsOk (importedModules p.main.body) (boot_heap w.params) t.heap&&namesBound p t.heap&&gensDone t&&laidKept (boot_heap w.params) t.heap,openSeen q loose (importedModules p.main.body) Xt true t,Yf t)
open PySem.W in
def outAt(p q:Program)(loose:List Str)(Xt:Shared->Bool){α:Type}(Yf:Shared->α)(N:Nat)(w:World)(os:OsState):=
 (Ft treeTable p w (boot_heap w.params).objs.size ((boot_heap w.params).nsMap mainGlobals "__annotations__") N (bootS w os) (topStub p)).map fun s=>seenAt p q loose Xt Yf w s.abs
open PySem.W in
theorem yY:∀(w:World)(os:OsState),(bootS w os).abs=⟨boot_heap w.params,Array.mk [],boot_drawn,boot_toks,os⟩:=fun _ _=>by kernel_rfl
open PySem.W in
theorem xK:∀w:World,(boot_heap w.params).isNs mainGlobals=true:=fun _=>by kernel_rfl
open PySem.W in
theorem xJ(e:opening p=plainProg p.main.scope.names)(hN:Nat.ble 600 N=true)
  (f:∀s,fenceModules? p s=some s) (h:∀w os,outAt p q loose Xt Yf N w os=some (true,openGood q loose,Ya w)):LeftO p q loose Xt Yf Ya N:=fun w=>by
 obtain⟨⟨hp,gs,d,k,os⟩,a,b⟩:=BQ.mp (boot_open e hN f w)
 obtain⟨rfl,rfl,rfl,rfl⟩:hp=boot_heap w.params/\gs=Array.mk []/\d=boot_drawn/\k=boot_toks:=by simpa using b
 obtain⟨s,r,c⟩:=BQ.mp (h w os)
 have r2:=Yy N r
 rw[yY]at r2
 obtain⟨l1,l2,l3⟩:_/\_/\_:=by simpa only [seenAt,Prod.mk.injEq] using c
 have t:topFrom treeTable p w N ⟨boot_heap w.params,Array.mk [],boot_drawn,boot_toks,os⟩=some s.abs:=by unfold topFrom;dsimp only;rw[xK,r2];show(match staticsOk (importedModules p.main.body) (boot_heap w.params) s.abs.heap&&namesBound p s.abs.heap&&gensDone s.abs&&laidKept (boot_heap w.params) s.abs.heap with |true=>_ |false=>_)=_;rw[l1]
 unfold openEnds
 rw[a]
 show(topFrom treeTable p w N _).map _=_
 rw[t]
 exact BG some (Prod.ext l2 l3)
abbrev c9(x:String)(t:Nat):Value:=.str (Str.ofString x) t
abbrev d8(P:Params)(x:String)(t:Nat)(v:Value):DictEntry:=⟨PyData.keyHash P (Str.ofString x),.str (Str.ofString x) t,v⟩
abbrev d7(l:List Value):Obj:={ cls:=.type "tuple",data:=.seq l.toArray }
abbrev t7(l:List DictEntry)(n:Nat):Obj:={ cls:=.type "dict",data:=.dict l.toArray n }
abbrev C0(st:Stmt)(x q:String)(dV kV doc pm:Value)(an:Option Addr)(cd ct:Value):Obj:={ cls:=.type "function",data:=.func (PySem.W.fnOf (Str.ofString x) (Str.ofString q) (B6 st) (t9 st) (i7 st) dV kV doc pm an cd ct) }
noncomputable def E8:Stmt->Nat->Stmt
 | .ClassDef _ _ _ b _ _ _ _ _ _ _,j=>b.getD j (.Pass ⟨0,0,0,0⟩)
 |s,_=>s
end L2
namespace K88
open PySem PySem.Spec PyProof.Rows L2
def top(i:Nat):Stmt:=PySem.Challenge.pw_friezeyard_k88_deeds.main.body.getD i (.Pass ⟨0,0,0,0⟩)
abbrev kO(n:String)(t1:Nat)(q:String)(t2 t3:Nat)(a b c d e:Int)(r1:Nat)(g:Int)(r2 r3 r4 r5:Nat)(k l:Int)(t4:Nat):Obj:=⟨.type "code",none,.fields [c9 n t1,c9 q t2,c9 "/claim/cut.py" t3,.int a 0,.int b 0,.int c 0,.int d 0,.int e 0,.ref r1,.bool true,.int g 0,.ref r2,.none,.ref r3,.ref r4,.ref r5,.int k 0,.int l 0,c9 "/claim/cut.py" t4].toArray,#[]⟩
abbrev kCo(n:String)(t1:Nat)(q:String)(t2 t3:Nat)(a b c d e:Int)(r1:Nat)(g:Int)(r2 r5:Nat)(k l:Int)(t4:Nat):Obj:=⟨.type "code",none,.fields [c9 n t1,c9 q t2,c9 "/claim/cut.py" t3,.int a 0,.int b 0,.int c 0,.int d 0,.int e 0,.ref r1,.bool true,.int g 0,.ref r2,.none,.none,.none,.ref r5,.int k 0,.int l 0,c9 "/claim/cut.py" t4].toArray,#[]⟩
abbrev fO(i:Nat)(n m:String)(t r:Nat):Obj:=C0 (top i) n n .none .none .none (c9 m t) none (.ref r) .none
abbrev cO(n:String)(b a ns r t1 t2:Nat):Obj:=⟨.type "type",none,.cls { name:=Str.ofString n,bases:=[.ref b],mro:=[.ref a,.ref b,.type "ValueError",.type "Exception",.type "BaseException",.type "object"],ns:=ns,qualname:=Str.ofString n,hasDict:=true,slotNames:=[],subclasses:=[],abstract:=false,collection:=none,hasDel:=false },#[some (.ref r),none,some (c9 n t1),some (c9 n t2),some (.builtin "ValueError.__new__"),some (.bool true)]⟩
def K:Params->Frag:=fun P=>
 (nat_lit 2,⟨.none,none,(.dict [].toArray 0),#[]⟩) ::
 (nat_lit 3,t7 [d8 P "__name__" 165 (c9 "law_friezeyard_k88_deeds" 836),d8 P "__doc__" 166 .none,d8 P "__package__" 167 .none,d8 P "__loader__" 168 (.builtin "__main__.__loader__#opaque"),d8 P "__spec__" 169 .none,d8 P "__annotations__" 170 (.ref 6),d8 P "__builtins__" 171 (.ref 4),d8 P "__file__" 173 (c9 "/claim/cut.py" 172),d8 P "__cached__" 174 .none,d8 P "FloorError" 206 (.ref 24),d8 P "NoFloor" 222 (.ref 37),d8 P "NoLine" 238 (.ref 49),d8 P "Crossed" 265 (.ref 68),d8 P "NotFull" 290 (.ref 87),d8 P "NoText" 306 (.ref 99),d8 P "NoCorner" 322 (.ref 111),d8 P "NoEar" 338 (.ref 123),d8 P "NoRow" 354 (.ref 135),d8 P "Fallen" 379 (.ref 154),d8 P "NoBand" 395 (.ref 166),d8 P "TooMany" 411 (.ref 178),d8 P "NoQuotient" 427 (.ref 190),d8 P "NotAlike" 443 (.ref 202),d8 P "NoPlace" 459 (.ref 214),d8 P "NoDeed" 475 (.ref 226),d8 P "NoName" 491 (.ref 238),d8 P "NoTurn" 507 (.ref 250),d8 P "is_whole" 516 (.ref 259),d8 P "pair" 524 (.ref 266),d8 P "is_side" 534 (.ref 273),d8 P "is_two" 543 (.ref 280),d8 P "has_pair" 551 (.ref 287),d8 P "check_line" 559 (.ref 294),d8 P "check_pair" 567 (.ref 301),d8 P "is_figures" 573 (.ref 306),d8 P "two_read" 579 (.ref 311),d8 P "two_shown" 588 (.ref 318),d8 P "rooms" 596 (.ref 323),d8 P "room_under" 605 (.ref 330),d8 P "corner_behind" 611 (.ref 335),d8 P "triangles" 618 (.ref 342),d8 P "thirds" 624 (.ref 347),d8 P "spun" 633 (.ref 353),d8 P "mirrored" 639 (.ref 358),d8 P "image" 645 (.ref 363),d8 P "turned" 653 (.ref 368),d8 P "Deed" 675 (.ref 378),d8 P "TurnLine" 723 (.ref 420),d8 P "Spin" 771 (.ref 460),d8 P "Mirror" 810 (.ref 493),d8 P "read_deed" 818 (.ref 502),d8 P "pair_read" 826 (.ref 509),d8 P "whole_read" 835 (.ref 516),d8 P "_law_pick" 845 (.ref 523),d8 P "_law_put_on" 851 (.ref 528),d8 P "_law_glued" 861 (.ref 535),d8 P "_law_image" 875 (.ref 542),d8 P "_law_joined" 886 (.ref 549),d8 P "_law_turned_line" 892 (.ref 554),d8 P "_law_turned" 898 (.ref 559),d8 P "_law_kind" 906 (.ref 566),d8 P "_law_is_deed" 918 (.ref 573),d8 P "_law_no_deed" 926 (.ref 580),d8 P "_law_refusal" 937 (.ref 587),d8 P "_law_no_line" 949 (.ref 594),d8 P "_law_refusals" 959 (.ref 601),d8 P "_law_any_pair" 971 (.ref 608),d8 P "_law_turning" 977 (.ref 613),d8 P "_law_wide" 984 (.ref 620),d8 P "_law_spinning" 996 (.ref 627),d8 P "law" 1007 (.ref 634)] 71) ::
 (nat_lit 15,d7 [(.type "ValueError")]) ::
 (nat_lit 22,d7 []) ::
 (nat_lit 23,t7 [d8 P "__module__" 196 (c9 "friezeyard.errors" 187),d8 P "__firstlineno__" 200 (.int 2 199),d8 P "__static_attributes__" 201 (.ref 22),d8 P "__weakref__" 203 (.ref 25),d8 P "__doc__" 204 .none] 3) ::
 (nat_lit 24,⟨(.type "type"),none,(.cls { name:=Str.ofString "FloorError",bases:=[(.type "ValueError")],mro:=[(.ref 24),(.type "ValueError"),(.type "Exception"),(.type "BaseException"),(.type "object")],ns:=23,qualname:=Str.ofString "FloorError",hasDict:=true,slotNames:=[],subclasses:=[(.ref 37),(.ref 49),(.ref 68),(.ref 87),(.ref 99),(.ref 111),(.ref 123),(.ref 135),(.ref 154),(.ref 166),(.ref 178),(.ref 190),(.ref 202),(.ref 214),(.ref 226),(.ref 238),(.ref 250)],abstract:=false,collection:=none,hasDel:=false }),#[some (.ref 15),none,some (c9 "FloorError" 189),some (c9 "FloorError" 197),some (.builtin "ValueError.__new__"),some (.bool true)]⟩) ::
 (nat_lit 25,⟨(.type "getset_descriptor"),none,(.fields [(c9 "__weakref__" 202),(.ref 24),(.builtin "ExceptionGroup.__weakref__"),.none].toArray),#[]⟩) ::
 (nat_lit 28,d7 [(.ref 24)]) ::
 (nat_lit 35,d7 []) ::
 (nat_lit 36,t7 [d8 P "__module__" 214 (c9 "friezeyard.errors" 187),d8 P "__firstlineno__" 218 (.int 4 217),d8 P "__static_attributes__" 219 (.ref 35),d8 P "__doc__" 220 .none] 2) ::
 (nat_lit 37,(cO "NoFloor" 24 37 36 28 207 215)) ::
 (nat_lit 40,d7 [(.ref 24)]) ::
 (nat_lit 47,d7 []) ::
 (nat_lit 48,t7 [d8 P "__module__" 230 (c9 "friezeyard.errors" 187),d8 P "__firstlineno__" 234 (.int 6 233),d8 P "__static_attributes__" 235 (.ref 47),d8 P "__doc__" 236 .none] 2) ::
 (nat_lit 49,(cO "NoLine" 24 49 48 40 223 231)) ::
 (nat_lit 52,d7 [(.ref 24)]) ::
 (nat_lit 59,d7 []) ::
 (nat_lit 61,d7 [(c9 "self" 254),(c9 "one" 255),(c9 "other" 256)]) ::
 (nat_lit 62,d7 []) ::
 (nat_lit 64,(kO "__init__" 251 "Crossed.__init__" 252 253 10 3 0 0 3 59 181 60 61 62 63 257 10 258)) ::
 (nat_lit 65,C0 (E8 (top 4) 0) "__init__" "Crossed.__init__" .none .none .none (c9 "friezeyard.errors" 187) none (.ref 64) .none) ::
 (nat_lit 66,d7 [(c9 "one" 260),(c9 "other" 261)]) ::
 (nat_lit 67,t7 [d8 P "__module__" 246 (c9 "friezeyard.errors" 187),d8 P "__firstlineno__" 250 (.int 8 249),d8 P "__init__" 259 (.ref 65),d8 P "__static_attributes__" 262 (.ref 66),d8 P "__doc__" 263 .none] 2) ::
 (nat_lit 68,(cO "Crossed" 24 68 67 52 239 247)) ::
 (nat_lit 71,d7 [(.ref 24)]) ::
 (nat_lit 78,d7 []) ::
 (nat_lit 80,d7 [(c9 "self" 281),(c9 "line" 282)]) ::
 (nat_lit 81,d7 []) ::
 (nat_lit 83,(kO "__init__" 278 "NotFull.__init__" 279 280 15 2 0 0 3 78 181 79 80 81 82 283 15 284)) ::
 (nat_lit 84,C0 (E8 (top 5) 0) "__init__" "NotFull.__init__" .none .none .none (c9 "friezeyard.errors" 187) none (.ref 83) .none) ::
 (nat_lit 85,d7 [(c9 "line" 286)]) ::
 (nat_lit 86,t7 [d8 P "__module__" 273 (c9 "friezeyard.errors" 187),d8 P "__firstlineno__" 277 (.int 13 276),d8 P "__init__" 285 (.ref 84),d8 P "__static_attributes__" 287 (.ref 85),d8 P "__doc__" 288 .none] 2) ::
 (nat_lit 87,(cO "NotFull" 24 87 86 71 266 274)) ::
 (nat_lit 90,d7 [(.ref 24)]) ::
 (nat_lit 97,d7 []) ::
 (nat_lit 98,t7 [d8 P "__module__" 298 (c9 "friezeyard.errors" 187),d8 P "__firstlineno__" 302 (.int 17 301),d8 P "__static_attributes__" 303 (.ref 97),d8 P "__doc__" 304 .none] 2) ::
 (nat_lit 99,(cO "NoText" 24 99 98 90 291 299)) ::
 (nat_lit 102,d7 [(.ref 24)]) ::
 (nat_lit 109,d7 []) ::
 (nat_lit 110,t7 [d8 P "__module__" 314 (c9 "friezeyard.errors" 187),d8 P "__firstlineno__" 318 (.int 19 317),d8 P "__static_attributes__" 319 (.ref 109),d8 P "__doc__" 320 .none] 2) ::
 (nat_lit 111,(cO "NoCorner" 24 111 110 102 307 315)) ::
 (nat_lit 114,d7 [(.ref 24)]) ::
 (nat_lit 121,d7 []) ::
 (nat_lit 122,t7 [d8 P "__module__" 330 (c9 "friezeyard.errors" 187),d8 P "__firstlineno__" 334 (.int 21 333),d8 P "__static_attributes__" 335 (.ref 121),d8 P "__doc__" 336 .none] 2) ::
 (nat_lit 123,(cO "NoEar" 24 123 122 114 323 331)) ::
 (nat_lit 126,d7 [(.ref 24)]) ::
 (nat_lit 133,d7 []) ::
 (nat_lit 134,t7 [d8 P "__module__" 346 (c9 "friezeyard.errors" 187),d8 P "__firstlineno__" 350 (.int 23 349),d8 P "__static_attributes__" 351 (.ref 133),d8 P "__doc__" 352 .none] 2) ::
 (nat_lit 135,(cO "NoRow" 24 135 134 126 339 347)) ::
 (nat_lit 138,d7 [(.ref 24)]) ::
 (nat_lit 145,d7 []) ::
 (nat_lit 147,d7 [(c9 "self" 370),(c9 "corner" 371)]) ::
 (nat_lit 148,d7 []) ::
 (nat_lit 150,(kO "__init__" 367 "Fallen.__init__" 368 369 27 2 0 0 3 145 181 146 147 148 149 372 27 373)) ::
 (nat_lit 151,C0 (E8 (top 10) 0) "__init__" "Fallen.__init__" .none .none .none (c9 "friezeyard.errors" 187) none (.ref 150) .none) ::
 (nat_lit 152,d7 [(c9 "corner" 375)]) ::
 (nat_lit 153,t7 [d8 P "__module__" 362 (c9 "friezeyard.errors" 187),d8 P "__firstlineno__" 366 (.int 25 365),d8 P "__init__" 374 (.ref 151),d8 P "__static_attributes__" 376 (.ref 152),d8 P "__doc__" 377 .none] 2) ::
 (nat_lit 154,(cO "Fallen" 24 154 153 138 355 363)) ::
 (nat_lit 157,d7 [(.ref 24)]) ::
 (nat_lit 164,d7 []) ::
 (nat_lit 165,t7 [d8 P "__module__" 387 (c9 "friezeyard.errors" 187),d8 P "__firstlineno__" 391 (.int 29 390),d8 P "__static_attributes__" 392 (.ref 164),d8 P "__doc__" 393 .none] 2) ::
 (nat_lit 166,(cO "NoBand" 24 166 165 157 380 388)) ::
 (nat_lit 169,d7 [(.ref 24)]) ::
 (nat_lit 176,d7 []) ::
 (nat_lit 177,t7 [d8 P "__module__" 403 (c9 "friezeyard.errors" 187),d8 P "__firstlineno__" 407 (.int 31 406),d8 P "__static_attributes__" 408 (.ref 176),d8 P "__doc__" 409 .none] 2) ::
 (nat_lit 178,(cO "TooMany" 24 178 177 169 396 404)) ::
 (nat_lit 181,d7 [(.ref 24)]) ::
 (nat_lit 188,d7 []) ::
 (nat_lit 189,t7 [d8 P "__module__" 419 (c9 "friezeyard.errors" 187),d8 P "__firstlineno__" 423 (.int 33 422),d8 P "__static_attributes__" 424 (.ref 188),d8 P "__doc__" 425 .none] 2) ::
 (nat_lit 190,(cO "NoQuotient" 24 190 189 181 412 420)) ::
 (nat_lit 193,d7 [(.ref 24)]) ::
 (nat_lit 200,d7 []) ::
 (nat_lit 201,t7 [d8 P "__module__" 435 (c9 "friezeyard.errors" 187),d8 P "__firstlineno__" 439 (.int 35 438),d8 P "__static_attributes__" 440 (.ref 200),d8 P "__doc__" 441 .none] 2) ::
 (nat_lit 202,(cO "NotAlike" 24 202 201 193 428 436)) ::
 (nat_lit 205,d7 [(.ref 24)]) ::
 (nat_lit 212,d7 []) ::
 (nat_lit 213,t7 [d8 P "__module__" 451 (c9 "friezeyard.errors" 187),d8 P "__firstlineno__" 455 (.int 37 454),d8 P "__static_attributes__" 456 (.ref 212),d8 P "__doc__" 457 .none] 2) ::
 (nat_lit 214,(cO "NoPlace" 24 214 213 205 444 452)) ::
 (nat_lit 217,d7 [(.ref 24)]) ::
 (nat_lit 224,d7 []) ::
 (nat_lit 225,t7 [d8 P "__module__" 467 (c9 "friezeyard.errors" 187),d8 P "__firstlineno__" 471 (.int 39 470),d8 P "__static_attributes__" 472 (.ref 224),d8 P "__doc__" 473 .none] 2) ::
 (nat_lit 226,(cO "NoDeed" 24 226 225 217 460 468)) ::
 (nat_lit 229,d7 [(.ref 24)]) ::
 (nat_lit 236,d7 []) ::
 (nat_lit 237,t7 [d8 P "__module__" 483 (c9 "friezeyard.errors" 187),d8 P "__firstlineno__" 487 (.int 41 486),d8 P "__static_attributes__" 488 (.ref 236),d8 P "__doc__" 489 .none] 2) ::
 (nat_lit 238,(cO "NoName" 24 238 237 229 476 484)) ::
 (nat_lit 241,d7 [(.ref 24)]) ::
 (nat_lit 248,d7 []) ::
 (nat_lit 249,t7 [d8 P "__module__" 499 (c9 "friezeyard.errors" 187),d8 P "__firstlineno__" 503 (.int 43 502),d8 P "__static_attributes__" 504 (.ref 248),d8 P "__doc__" 505 .none] 2) ::
 (nat_lit 250,(cO "NoTurn" 24 250 249 241 492 500)) ::
 (nat_lit 253,d7 []) ::
 (nat_lit 255,d7 [(c9 "thing" 513)]) ::
 (nat_lit 256,d7 []) ::
 (nat_lit 258,(kO "is_whole" 510 "is_whole" 511 512 46 1 0 0 3 253 181 254 255 256 257 514 46 515)) ::
 (nat_lit 259,(fO 20 "is_whole" "friezeyard.pairs" 508 258)) ::
 (nat_lit 260,d7 []) ::
 (nat_lit 262,d7 [(c9 "a" 520),(c9 "b" 521)]) ::
 (nat_lit 263,d7 []) ::
 (nat_lit 265,(kO "pair" 517 "pair" 518 519 48 2 0 0 3 260 181 261 262 263 264 522 48 523)) ::
 (nat_lit 266,(fO 21 "pair" "friezeyard.pairs" 508 265)) ::
 (nat_lit 267,d7 []) ::
 (nat_lit 269,d7 [(c9 "n" 528),(c9 "p" 529),(c9 "a" 530),(c9 "b" 531)]) ::
 (nat_lit 270,d7 []) ::
 (nat_lit 272,(kO "is_side" 525 "is_side" 526 527 50 2 0 0 3 267 181 268 269 270 271 532 50 533)) ::
 (nat_lit 273,(fO 22 "is_side" "friezeyard.pairs" 508 272)) ::
 (nat_lit 274,d7 []) ::
 (nat_lit 276,d7 [(c9 "thing" 540)]) ::
 (nat_lit 277,d7 []) ::
 (nat_lit 279,(kO "is_two" 537 "is_two" 538 539 57 1 0 0 3 274 181 275 276 277 278 541 57 542)) ::
 (nat_lit 280,(fO 24 "is_two" "friezeyard.common" 535 279)) ::
 (nat_lit 281,d7 []) ::
 (nat_lit 283,d7 [(c9 "cut" 547),(c9 "p" 548)]) ::
 (nat_lit 284,d7 []) ::
 (nat_lit 286,(kO "has_pair" 544 "has_pair" 545 546 59 2 0 0 3 281 181 282 283 284 285 549 59 550)) ::
 (nat_lit 287,(fO 25 "has_pair" "friezeyard.common" 535 286)) ::
 (nat_lit 288,d7 []) ::
 (nat_lit 290,d7 [(c9 "cut" 555),(c9 "p" 556)]) ::
 (nat_lit 291,d7 []) ::
 (nat_lit 293,(kO "check_line" 552 "check_line" 553 554 61 2 0 0 3 288 181 289 290 291 292 557 61 558)) ::
 (nat_lit 294,(fO 26 "check_line" "friezeyard.common" 535 293)) ::
 (nat_lit 295,d7 []) ::
 (nat_lit 297,d7 [(c9 "cut" 563),(c9 "p" 564)]) ::
 (nat_lit 298,d7 []) ::
 (nat_lit 300,(kO "check_pair" 560 "check_pair" 561 562 64 2 0 0 3 295 181 296 297 298 299 565 64 566)) ::
 (nat_lit 301,(fO 27 "check_pair" "friezeyard.common" 535 300)) ::
 (nat_lit 302,d7 []) ::
 (nat_lit 305,(kCo "is_figures" 568 "is_figures" 569 570 67 2 0 0 3 302 181 303 304 571 67 572)) ::
 (nat_lit 306,(fO 28 "is_figures" "friezeyard.common" 535 305)) ::
 (nat_lit 307,d7 []) ::
 (nat_lit 310,(kCo "two_read" 574 "two_read" 575 576 73 1 0 0 3 307 181 308 309 577 73 578)) ::
 (nat_lit 311,(fO 29 "two_read" "friezeyard.common" 535 310)) ::
 (nat_lit 312,d7 []) ::
 (nat_lit 314,d7 [(c9 "two" 583),(c9 "a" 584),(c9 "b" 585)]) ::
 (nat_lit 315,d7 []) ::
 (nat_lit 317,(kO "two_shown" 580 "two_shown" 581 582 78 1 0 0 3 312 181 313 314 315 316 586 78 587)) ::
 (nat_lit 318,(fO 30 "two_shown" "friezeyard.common" 535 317)) ::
 (nat_lit 319,d7 []) ::
 (nat_lit 322,(kCo "rooms" 591 "rooms" 592 593 83 2 0 0 3 319 181 320 321 594 83 595)) ::
 (nat_lit 323,(fO 32 "rooms" "friezeyard.rooms" 589 322)) ::
 (nat_lit 324,d7 []) ::
 (nat_lit 326,d7 [(c9 "top" 600),(c9 "lines" 601),(c9 "room" 602)]) ::
 (nat_lit 327,d7 []) ::
 (nat_lit 329,(kO "room_under" 597 "room_under" 598 599 86 2 0 0 3 324 181 325 326 327 328 603 86 604)) ::
 (nat_lit 330,(fO 33 "room_under" "friezeyard.rooms" 589 329)) ::
 (nat_lit 331,d7 []) ::
 (nat_lit 334,(kCo "corner_behind" 606 "corner_behind" 607 608 91 3 0 0 3 331 181 332 333 609 91 610)) ::
 (nat_lit 335,(fO 34 "corner_behind" "friezeyard.rooms" 589 334)) ::
 (nat_lit 336,d7 []) ::
 (nat_lit 338,d7 [(c9 "cut" 615)]) ::
 (nat_lit 339,d7 []) ::
 (nat_lit 341,(kO "triangles" 612 "triangles" 613 614 94 1 0 0 3 336 181 337 338 339 340 616 94 617)) ::
 (nat_lit 342,(fO 35 "triangles" "friezeyard.rooms" 589 341)) ::
 (nat_lit 343,d7 []) ::
 (nat_lit 346,(kCo "thirds" 619 "thirds" 620 621 96 2 0 0 3 343 181 344 345 622 96 623)) ::
 (nat_lit 347,(fO 36 "thirds" "friezeyard.rooms" 589 346)) ::
 (nat_lit 348,d7 [(.int 1 627)]) ::
 (nat_lit 349,d7 []) ::
 (nat_lit 352,(kCo "spun" 628 "spun" 629 630 101 2 0 0 3 349 181 350 351 631 101 632)) ::
 (nat_lit 353,C0 (top 38) "spun" "spun" (.ref 348) .none .none (c9 "friezeyard.images" 625) none (.ref 352) .none) ::
 (nat_lit 354,d7 []) ::
 (nat_lit 357,(kCo "mirrored" 634 "mirrored" 635 636 104 1 0 0 3 354 181 355 356 637 104 638)) ::
 (nat_lit 358,(fO 39 "mirrored" "friezeyard.images" 625 357)) ::
 (nat_lit 359,d7 []) ::
 (nat_lit 362,(kCo "image" 640 "image" 641 642 107 2 0 0 3 359 181 360 361 643 107 644)) ::
 (nat_lit 363,(fO 40 "image" "friezeyard.images" 625 362)) ::
 (nat_lit 364,d7 []) ::
 (nat_lit 367,(kCo "turned" 648 "turned" 649 650 110 2 0 0 3 364 181 365 366 651 110 652)) ::
 (nat_lit 368,(fO 42 "turned" "friezeyard.turns" 646 367)) ::
 (nat_lit 376,d7 []) ::
 (nat_lit 377,t7 [d8 P "__module__" 663 (c9 "friezeyard.deeds" 654),d8 P "__firstlineno__" 667 (.int 116 666),d8 P "__static_attributes__" 668 (.ref 376),d8 P "__dict__" 670 (.ref 379),d8 P "__weakref__" 672 (.ref 380),d8 P "__doc__" 673 .none] 4) ::
 (nat_lit 378,⟨(.type "type"),none,(.cls { name:=Str.ofString "Deed",bases:=[(.type "object")],mro:=[(.ref 378),(.type "object")],ns:=377,qualname:=Str.ofString "Deed",hasDict:=true,slotNames:=[],subclasses:=[(.ref 420),(.ref 460),(.ref 493)],abstract:=false,collection:=none,hasDel:=false }),#[none,none,some (c9 "Deed" 656),some (c9 "Deed" 664),some (.builtin "object.__new__"),some (.bool true)]⟩) ::
 (nat_lit 379,⟨(.type "getset_descriptor"),none,(.fields [(c9 "__dict__" 669),(.ref 378),(.builtin "function.__dict__"),(.builtin "function.__dict__#set")].toArray),#[]⟩) ::
 (nat_lit 380,⟨(.type "getset_descriptor"),none,(.fields [(c9 "__weakref__" 671),(.ref 378),(.builtin "ExceptionGroup.__weakref__"),.none].toArray),#[]⟩) ::
 (nat_lit 383,d7 [(.ref 378)]) ::
 (nat_lit 390,d7 []) ::
 (nat_lit 392,d7 [(c9 "self" 691),(c9 "line" 692)]) ::
 (nat_lit 393,d7 []) ::
 (nat_lit 395,(kO "__init__" 688 "TurnLine.__init__" 689 690 120 2 0 0 3 390 181 391 392 393 394 693 120 694)) ::
 (nat_lit 396,C0 (E8 (top 45) 0) "__init__" "TurnLine.__init__" .none .none .none (c9 "friezeyard.deeds" 654) none (.ref 395) .none) ::
 (nat_lit 397,d7 []) ::
 (nat_lit 399,d7 [(c9 "self" 699),(c9 "cut" 700)]) ::
 (nat_lit 400,d7 []) ::
 (nat_lit 402,(kO "done" 696 "TurnLine.done" 697 698 123 2 0 0 3 397 181 398 399 400 401 701 123 702)) ::
 (nat_lit 403,C0 (E8 (top 45) 1) "done" "TurnLine.done" .none .none .none (c9 "friezeyard.deeds" 654) none (.ref 402) .none) ::
 (nat_lit 404,d7 []) ::
 (nat_lit 406,d7 [(c9 "self" 707),(c9 "cut" 708)]) ::
 (nat_lit 407,d7 []) ::
 (nat_lit 409,(kO "back" 704 "TurnLine.back" 705 706 126 2 0 0 3 404 181 405 406 407 408 709 126 710)) ::
 (nat_lit 410,C0 (E8 (top 45) 2) "back" "TurnLine.back" .none .none .none (c9 "friezeyard.deeds" 654) none (.ref 409) .none) ::
 (nat_lit 411,d7 []) ::
 (nat_lit 413,d7 [(c9 "self" 715)]) ::
 (nat_lit 414,d7 []) ::
 (nat_lit 416,(kO "shown" 712 "TurnLine.shown" 713 714 129 1 0 0 3 411 181 412 413 414 415 716 129 717)) ::
 (nat_lit 417,C0 (E8 (top 45) 3) "shown" "TurnLine.shown" .none .none .none (c9 "friezeyard.deeds" 654) none (.ref 416) .none) ::
 (nat_lit 418,d7 [(c9 "line" 719)]) ::
 (nat_lit 419,t7 [d8 P "__module__" 683 (c9 "friezeyard.deeds" 654),d8 P "__firstlineno__" 687 (.int 118 686),d8 P "__init__" 695 (.ref 396),d8 P "done" 703 (.ref 403),d8 P "back" 711 (.ref 410),d8 P "shown" 718 (.ref 417),d8 P "__static_attributes__" 720 (.ref 418),d8 P "__doc__" 721 .none] 2) ::
 (nat_lit 420,⟨(.type "type"),none,(.cls { name:=Str.ofString "TurnLine",bases:=[(.ref 378)],mro:=[(.ref 420),(.ref 378),(.type "object")],ns:=419,qualname:=Str.ofString "TurnLine",hasDict:=true,slotNames:=[],subclasses:=[],abstract:=false,collection:=none,hasDel:=false }),#[some (.ref 383),none,some (c9 "TurnLine" 676),some (c9 "TurnLine" 684),some (.builtin "object.__new__"),some (.bool true)]⟩) ::
 (nat_lit 423,d7 [(.ref 378)]) ::
 (nat_lit 430,d7 []) ::
 (nat_lit 432,d7 [(c9 "self" 739),(c9 "by" 740)]) ::
 (nat_lit 433,d7 []) ::
 (nat_lit 435,(kO "__init__" 736 "Spin.__init__" 737 738 133 2 0 0 3 430 181 431 432 433 434 741 133 742)) ::
 (nat_lit 436,C0 (E8 (top 46) 0) "__init__" "Spin.__init__" .none .none .none (c9 "friezeyard.deeds" 654) none (.ref 435) .none) ::
 (nat_lit 437,d7 []) ::
 (nat_lit 439,d7 [(c9 "self" 747),(c9 "cut" 748)]) ::
 (nat_lit 440,d7 []) ::
 (nat_lit 442,(kO "done" 744 "Spin.done" 745 746 136 2 0 0 3 437 181 438 439 440 441 749 136 750)) ::
 (nat_lit 443,C0 (E8 (top 46) 1) "done" "Spin.done" .none .none .none (c9 "friezeyard.deeds" 654) none (.ref 442) .none) ::
 (nat_lit 444,d7 []) ::
 (nat_lit 446,d7 [(c9 "self" 755),(c9 "cut" 756)]) ::
 (nat_lit 447,d7 []) ::
 (nat_lit 449,(kO "back" 752 "Spin.back" 753 754 139 2 0 0 3 444 181 445 446 447 448 757 139 758)) ::
 (nat_lit 450,C0 (E8 (top 46) 2) "back" "Spin.back" .none .none .none (c9 "friezeyard.deeds" 654) none (.ref 449) .none) ::
 (nat_lit 451,d7 []) ::
 (nat_lit 453,d7 [(c9 "self" 763)]) ::
 (nat_lit 454,d7 []) ::
 (nat_lit 456,(kO "shown" 760 "Spin.shown" 761 762 142 1 0 0 3 451 181 452 453 454 455 764 142 765)) ::
 (nat_lit 457,C0 (E8 (top 46) 3) "shown" "Spin.shown" .none .none .none (c9 "friezeyard.deeds" 654) none (.ref 456) .none) ::
 (nat_lit 458,d7 [(c9 "by" 767)]) ::
 (nat_lit 459,t7 [d8 P "__module__" 731 (c9 "friezeyard.deeds" 654),d8 P "__firstlineno__" 735 (.int 131 734),d8 P "__init__" 743 (.ref 436),d8 P "done" 751 (.ref 443),d8 P "back" 759 (.ref 450),d8 P "shown" 766 (.ref 457),d8 P "__static_attributes__" 768 (.ref 458),d8 P "__doc__" 769 .none] 2) ::
 (nat_lit 460,⟨(.type "type"),none,(.cls { name:=Str.ofString "Spin",bases:=[(.ref 378)],mro:=[(.ref 460),(.ref 378),(.type "object")],ns:=459,qualname:=Str.ofString "Spin",hasDict:=true,slotNames:=[],subclasses:=[],abstract:=false,collection:=none,hasDel:=false }),#[some (.ref 423),none,some (c9 "Spin" 724),some (c9 "Spin" 732),some (.builtin "object.__new__"),some (.bool true)]⟩) ::
 (nat_lit 463,d7 [(.ref 378)]) ::
 (nat_lit 470,d7 []) ::
 (nat_lit 472,d7 [(c9 "self" 787),(c9 "cut" 788)]) ::
 (nat_lit 473,d7 []) ::
 (nat_lit 475,(kO "done" 784 "Mirror.done" 785 786 146 2 0 0 3 470 181 471 472 473 474 789 146 790)) ::
 (nat_lit 476,C0 (E8 (top 47) 0) "done" "Mirror.done" .none .none .none (c9 "friezeyard.deeds" 654) none (.ref 475) .none) ::
 (nat_lit 477,d7 []) ::
 (nat_lit 479,d7 [(c9 "self" 795),(c9 "cut" 796)]) ::
 (nat_lit 480,d7 []) ::
 (nat_lit 482,(kO "back" 792 "Mirror.back" 793 794 149 2 0 0 3 477 181 478 479 480 481 797 149 798)) ::
 (nat_lit 483,C0 (E8 (top 47) 1) "back" "Mirror.back" .none .none .none (c9 "friezeyard.deeds" 654) none (.ref 482) .none) ::
 (nat_lit 484,d7 []) ::
 (nat_lit 486,d7 [(c9 "self" 803)]) ::
 (nat_lit 487,d7 []) ::
 (nat_lit 489,(kO "shown" 800 "Mirror.shown" 801 802 152 1 0 0 3 484 181 485 486 487 488 804 152 805)) ::
 (nat_lit 490,C0 (E8 (top 47) 2) "shown" "Mirror.shown" .none .none .none (c9 "friezeyard.deeds" 654) none (.ref 489) .none) ::
 (nat_lit 491,d7 []) ::
 (nat_lit 492,t7 [d8 P "__module__" 779 (c9 "friezeyard.deeds" 654),d8 P "__firstlineno__" 783 (.int 144 782),d8 P "done" 791 (.ref 476),d8 P "back" 799 (.ref 483),d8 P "shown" 806 (.ref 490),d8 P "__static_attributes__" 807 (.ref 491),d8 P "__doc__" 808 .none] 2) ::
 (nat_lit 493,⟨(.type "type"),none,(.cls { name:=Str.ofString "Mirror",bases:=[(.ref 378)],mro:=[(.ref 493),(.ref 378),(.type "object")],ns:=492,qualname:=Str.ofString "Mirror",hasDict:=true,slotNames:=[],subclasses:=[],abstract:=false,collection:=none,hasDel:=false }),#[some (.ref 463),none,some (c9 "Mirror" 772),some (c9 "Mirror" 780),some (.builtin "object.__new__"),some (.bool true)]⟩) ::
 (nat_lit 496,d7 []) ::
 (nat_lit 498,d7 [(c9 "text" 814),(c9 "words" 815)]) ::
 (nat_lit 499,d7 []) ::
 (nat_lit 501,(kO "read_deed" 811 "read_deed" 812 813 154 1 0 0 3 496 181 497 498 499 500 816 154 817)) ::
 (nat_lit 502,(fO 48 "read_deed" "friezeyard.deeds" 654 501)) ::
 (nat_lit 503,d7 []) ::
 (nat_lit 505,d7 [(c9 "word" 822),(c9 "two" 823)]) ::
 (nat_lit 506,d7 []) ::
 (nat_lit 508,(kO "pair_read" 819 "pair_read" 820 821 165 1 0 0 3 503 181 504 505 506 507 824 165 825)) ::
 (nat_lit 509,(fO 49 "pair_read" "friezeyard.deeds" 654 508)) ::
 (nat_lit 510,d7 []) ::
 (nat_lit 512,d7 [(c9 "word" 830),(c9 "most" 831),(c9 "figures" 832)]) ::
 (nat_lit 513,d7 []) ::
 (nat_lit 515,(kO "whole_read" 827 "whole_read" 828 829 170 2 0 0 3 510 181 511 512 513 514 833 170 834)) ::
 (nat_lit 516,(fO 50 "whole_read" "friezeyard.deeds" 654 515)) ::
 (nat_lit 517,d7 []) ::
 (nat_lit 519,d7 [(c9 "_law_script" 841),(c9 "_law_k" 842)]) ::
 (nat_lit 520,d7 []) ::
 (nat_lit 522,(kO "_law_pick" 838 "_law_pick" 839 840 176 2 0 0 3 517 181 518 519 520 521 843 176 844)) ::
 (nat_lit 523,(fO 52 "_law_pick" "law_friezeyard_k88_deeds" 836 522)) ::
 (nat_lit 524,d7 []) ::
 (nat_lit 527,(kCo "_law_put_on" 846 "_law_put_on" 847 848 178 3 0 0 3 524 181 525 526 849 178 850)) ::
 (nat_lit 528,(fO 53 "_law_put_on" "law_friezeyard_k88_deeds" 836 527)) ::
 (nat_lit 529,d7 []) ::
 (nat_lit 531,d7 [(c9 "_law_cells" 855),(c9 "_law_n" 856),(c9 "_law_lines" 857),(c9 "_law_cell" 858)]) ::
 (nat_lit 532,d7 []) ::
 (nat_lit 534,(kO "_law_glued" 852 "_law_glued" 853 854 183 1 0 0 3 529 181 530 531 532 533 859 183 860)) ::
 (nat_lit 535,(fO 54 "_law_glued" "law_friezeyard_k88_deeds" 836 534)) ::
 (nat_lit 536,d7 []) ::
 (nat_lit 538,d7 [(c9 "_law_cut" 865),(c9 "_law_by" 866),(c9 "_law_sign" 867),(c9 "_law_n" 868),(c9 "_law_lines" 869),(c9 "_law_a" 870),(c9 "_law_b" 871),(c9 "_law_ends" 872)]) ::
 (nat_lit 539,d7 []) ::
 (nat_lit 541,(kO "_law_image" 862 "_law_image" 863 864 190 3 0 0 3 536 181 537 538 539 540 873 190 874)) ::
 (nat_lit 542,(fO 55 "_law_image" "law_friezeyard_k88_deeds" 836 541)) ::
 (nat_lit 543,d7 []) ::
 (nat_lit 545,d7 [(c9 "_law_cut" 879),(c9 "_law_a" 880),(c9 "_law_b" 881),(c9 "_law_low" 882),(c9 "_law_high" 883)]) ::
 (nat_lit 546,d7 []) ::
 (nat_lit 548,(kO "_law_joined" 876 "_law_joined" 877 878 197 3 0 0 3 543 181 544 545 546 547 884 197 885)) ::
 (nat_lit 549,(fO 56 "_law_joined" "law_friezeyard_k88_deeds" 836 548)) ::
 (nat_lit 550,d7 []) ::
 (nat_lit 553,(kCo "_law_turned_line" 887 "_law_turned_line" 888 889 201 2 0 0 3 550 181 551 552 890 201 891)) ::
 (nat_lit 554,(fO 57 "_law_turned_line" "law_friezeyard_k88_deeds" 836 553)) ::
 (nat_lit 555,d7 []) ::
 (nat_lit 558,(kCo "_law_turned" 893 "_law_turned" 894 895 206 2 0 0 3 555 181 556 557 896 206 897)) ::
 (nat_lit 559,(fO 58 "_law_turned" "law_friezeyard_k88_deeds" 836 558)) ::
 (nat_lit 560,d7 []) ::
 (nat_lit 562,d7 [(c9 "_law_deed" 902),(c9 "_law_some" 903)]) ::
 (nat_lit 563,d7 []) ::
 (nat_lit 565,(kO "_law_kind" 899 "_law_kind" 900 901 209 1 0 0 3 560 181 561 562 563 564 904 209 905)) ::
 (nat_lit 566,(fO 59 "_law_kind" "law_friezeyard_k88_deeds" 836 565)) ::
 (nat_lit 567,d7 []) ::
 (nat_lit 569,d7 [(c9 "_law_deed" 910),(c9 "_law_kind_here" 911),(c9 "_law_cut" 912),(c9 "_law_due" 913),(c9 "_law_written" 914),(c9 "_law_told" 915)]) ::
 (nat_lit 570,d7 []) ::
 (nat_lit 572,(kO "_law_is_deed" 907 "_law_is_deed" 908 909 216 5 0 0 3 567 181 568 569 570 571 916 216 917)) ::
 (nat_lit 573,(fO 60 "_law_is_deed" "law_friezeyard_k88_deeds" 836 572)) ::
 (nat_lit 574,d7 []) ::
 (nat_lit 576,d7 [(c9 "_law_cell" 922),(c9 "_law_some" 923)]) ::
 (nat_lit 577,d7 []) ::
 (nat_lit 579,(kO "_law_no_deed" 919 "_law_no_deed" 920 921 221 1 0 0 3 574 181 575 576 577 578 924 221 925)) ::
 (nat_lit 580,(fO 61 "_law_no_deed" "law_friezeyard_k88_deeds" 836 579)) ::
 (nat_lit 581,d7 []) ::
 (nat_lit 583,d7 [(c9 "_law_way" 930),(c9 "_law_thing" 931),(c9 "_law_cut" 932),(c9 "_law_told" 933),(c9 "e" 934)]) ::
 (nat_lit 584,d7 []) ::
 (nat_lit 586,(kO "_law_refusal" 927 "_law_refusal" 928 929 227 3 0 0 3 581 181 582 583 584 585 935 227 936)) ::
 (nat_lit 587,(fO 62 "_law_refusal" "law_friezeyard_k88_deeds" 836 586)) ::
 (nat_lit 588,d7 []) ::
 (nat_lit 590,d7 [(c9 "_law_cut" 941),(c9 "_law_cell" 942),(c9 "_law_n" 943),(c9 "_law_at" 944),(c9 "_law_some" 945),(c9 "_law_line" 946)]) ::
 (nat_lit 591,d7 []) ::
 (nat_lit 593,(kO "_law_no_line" 938 "_law_no_line" 939 940 243 2 0 0 3 588 181 589 590 591 592 947 243 948)) ::
 (nat_lit 594,(fO 63 "_law_no_line" "law_friezeyard_k88_deeds" 836 593)) ::
 (nat_lit 595,d7 []) ::
 (nat_lit 597,d7 [(c9 "_law_script" 953),(c9 "_law_cut" 954),(c9 "_law_none" 955),(c9 "_law_due" 956)]) ::
 (nat_lit 598,d7 []) ::
 (nat_lit 600,(kO "_law_refusals" 950 "_law_refusals" 951 952 251 2 0 0 3 595 181 596 597 598 599 957 251 958)) ::
 (nat_lit 601,(fO 64 "_law_refusals" "law_friezeyard_k88_deeds" 836 600)) ::
 (nat_lit 602,d7 []) ::
 (nat_lit 604,d7 [(c9 "_law_cut" 963),(c9 "_law_cell" 964),(c9 "_law_a" 965),(c9 "_law_b" 966),(c9 "_law_line" 967),(c9 "_law_deed" 968)]) ::
 (nat_lit 605,d7 []) ::
 (nat_lit 607,(kO "_law_any_pair" 960 "_law_any_pair" 961 962 259 2 0 0 3 602 181 603 604 605 606 969 259 970)) ::
 (nat_lit 608,(fO 65 "_law_any_pair" "law_friezeyard_k88_deeds" 836 607)) ::
 (nat_lit 609,d7 []) ::
 (nat_lit 612,(kCo "_law_turning" 972 "_law_turning" 973 974 270 2 0 0 3 609 181 610 611 975 270 976)) ::
 (nat_lit 613,(fO 66 "_law_turning" "law_friezeyard_k88_deeds" 836 612)) ::
 (nat_lit 614,d7 []) ::
 (nat_lit 616,d7 [(c9 "_law_cell" 981)]) ::
 (nat_lit 617,d7 []) ::
 (nat_lit 619,(kO "_law_wide" 978 "_law_wide" 979 980 291 1 0 0 3 614 181 615 616 617 618 982 291 983)) ::
 (nat_lit 620,(fO 67 "_law_wide" "law_friezeyard_k88_deeds" 836 619)) ::
 (nat_lit 621,d7 []) ::
 (nat_lit 623,d7 [(c9 "_law_cut" 988),(c9 "_law_by" 989),(c9 "_law_due" 990),(c9 "_law_deed" 991),(c9 "_law_back" 992),(c9 "_law_other" 993)]) ::
 (nat_lit 624,d7 []) ::
 (nat_lit 626,(kO "_law_spinning" 985 "_law_spinning" 986 987 295 2 0 0 3 621 181 622 623 624 625 994 295 995)) ::
 (nat_lit 627,(fO 68 "_law_spinning" "law_friezeyard_k88_deeds" 836 626)) ::
 (nat_lit 628,d7 []) ::
 (nat_lit 630,d7 [(c9 "_law_script" 1000),(c9 "_law_room" 1001),(c9 "_law_cut" 1002),(c9 "_law_cell" 1003),(c9 "_law_due" 1004)]) ::
 (nat_lit 631,d7 []) ::
 (nat_lit 633,(kO "law" 997 "law" 998 999 305 1 0 0 3 628 181 629 630 631 632 1005 305 1006)) ::
 (nat_lit 634,(fO 69 "law" "law_friezeyard_k88_deeds" 836 633))::[]
noncomputable def places:List Addr:=[2,3,15,22,23,24,25,28,35,36,37,40,47,48,49,52,59,61,62,64,65,66,67,68,71,78,80,81,83,84,85,86,87,90,97,98,99,102,109,110,111,114,121,122,123,126,133,134,135,138,145,147,148,150,151,152,153,154,157,164,165,166,169,176,177,178,181,188,189,190,193,200,201,202,205,212,213,214,217,224,225,226,229,236,237,238,241,248,249,250,253,255,256,258,259,260,262,263,265,266,267,269,270,272,273,274,276,277,279,280,281,283,284,286,287,288,290,291,293,294,295,297,298,300,301,302,305,306,307,310,311,312,314,315,317,318,319,322,323,324,326,327,329,330,331,334,335,336,338,339,341,342,343,346,347,348,349,352,353,354,357,358,359,362,363,364,367,368,376,377,378,379,380,383,390,392,393,395,396,397,399,400,402,403,404,406,407,409,410,411,413,414,416,417,418,419,420,423,430,432,433,435,436,437,439,440,442,443,444,446,447,449,450,451,453,454,456,457,458,459,460,463,470,472,473,475,476,477,479,480,482,483,484,486,487,489,490,491,492,493,496,498,499,501,502,503,505,506,508,509,510,512,513,515,516,517,519,520,522,523,524,527,528,529,531,532,534,535,536,538,539,541,542,543,545,546,548,549,550,553,554,555,558,559,560,562,563,565,566,567,569,570,572,573,574,576,577,579,580,581,583,584,586,587,588,590,591,593,594,595,597,598,600,601,602,604,605,607,608,609,612,613,614,616,617,619,620,621,623,624,626,627,628,630,631,633,634]
theorem yX:∀P,places=(K P).map (·.1):=fun _=>by kernel_rfl
def hook:PySem.W.Hook:=PySem.W.kHook K places yX
abbrev loose:List Str:=["spun"]
noncomputable def q:Program:=PySem.W.view PySem.Challenge.pw_friezeyard_k88_deeds [1,2,3,4,5,6,7,8,9,10,11,12,13,14,15,16,17,18,20,21,22,24,25,26,27,28,29,30,32,33,34,35,36,39,40,42,44,45,46,47,48,49,50,52,53,54,55,56,57,58,59,60,61,62,63,64,65,66,67,68,69]
def xtH(s:Shared):Bool:=PySem.W.xlAt q [] s&&PySem.W.recOk (PySem.W.RowW.records PySem.Challenge.rw_friezeyard_k88_deeds.row.toRowW) s
def out(w:World)(os:OsState):=outAt PySem.Challenge.pw_friezeyard_k88_deeds q K88.loose xtH (fun s=>places.map s.heap.get?) 12806 w os
def good:=PySem.W.openGood q K88.loose
example:((fun (_:Params->Obj)(_:Str)=>true) PySem.W.boot_o_0 (Str.ofString "dull"))=true:=by k_qdec
lay_quick out good
theorem vF:∀w os,out w os=some (true,good,(K w.params).map fun p=>some p.2):=fun w os=>(congrFun (congrFun PySem.W.Fast.te9013122527049281082 w) os).trans (by rw[PySem.W.Fast.te15196180109546830762];kernel_rfl)
theorem left:PySem.W.LeftO PySem.Challenge.pw_friezeyard_k88_deeds q K88.loose xtH (PySem.W.Hook.obs hook) (PySem.W.Hook.val hook) 12806:=xJ (by kernel_rfl) (by kernel_rfl) (fun _=>by kernel_rfl) vF
end K88
namespace L2
open PySem PySem.Spec PyProof.Rows
abbrev Key:=Sum Int Str
noncomputable def X8:Key->Value->Bool
 | .inl k,v=>Value.isInt k v
 | .inr x,v=>Value.isStrOf x v
noncomputable def y7i(w:World):Key->Int
 | .inl k=>hashInt k
 | .inr x=>hashStr w x
theorem O7:∀{k:Key}{v:Value},X8 k v=true->(∃i t,k=Sum.inl i/\v=Value.int i t)\/(∃x t,k=Sum.inr x/\v=Value.str x t)
 | .inl i,v,h=>by obtain⟨t,e⟩:=Value.isInt_shape (k:=i) (v:=v) h;exact .inl ⟨i,t,rfl,e⟩
 | .inr x,v,h=>by obtain⟨t,e⟩:=Value.isStrOf_shape (x:=x) (v:=v) h;exact .inr ⟨x,t,rfl,e⟩
theorem zU(i:Int)(t:Tok):X8 (.inl i) (.int i t)=true:=by simp[X8,Value.isInt]
theorem zT(x:Str)(t:Tok):X8 (.inr x) (.str x t)=true:=by simp[X8,Value.isStrOf]
theorem vE(a b:Int):decide ((Sum.inl a:Key)=Sum.inl b)=(a==b):=by
 by_cases e:a=b
 . subst e;simp
 . have h:¬(Sum.inl a:Key)=Sum.inl b:=fun q=>e (Sum.inl.inj q)
   rw[decide_eq_false h];exact(CJ.mpr e).symm
theorem vD(a b:Str):decide ((Sum.inr a:Key)=Sum.inr b)=decide (a=b):=by
 by_cases e:a=b
 . subst e;simp
 . have h:¬(Sum.inr a:Key)=Sum.inr b:=fun q=>e (Sum.inr.inj q)
   rw[decide_eq_false h,decide_eq_false e]
theorem vC(a:Int)(b:Str):decide ((Sum.inl a:Key)=Sum.inr b)=false:=decide_eq_false (fun q=>nomatch q)
theorem vB(a:Str)(b:Int):decide ((Sum.inr a:Key)=Sum.inl b)=false:=decide_eq_false (fun q=>nomatch q)
def K5(prog:Program)(w:World):PySem.KeyKind prog w Key where
 is:=X8
 hash:=y7i w
 inj:=fun v a b ha hb=>by
  rcases O7 ha with⟨i,t,rfl,rfl⟩ |⟨x,t,rfl,rfl⟩
  . rcases O7 hb with⟨j,u,rfl,e⟩ |⟨y,u,rfl,e⟩
    . injection e with e1 _;rw[e1]
    . exact nomatch e
  . rcases O7 hb with⟨j,u,rfl,e⟩ |⟨y,u,rfl,e⟩
    . exact nomatch e
    . injection e with e1 _;rw[e1]
 byValue:=fun k v h=>by rcases O7 h with⟨i,t,rfl,rfl⟩ |⟨x,t,rfl,rfl⟩<;>rfl
 pyHash:=fun hv h=>by
  rcases O7 hv with⟨i,t,rfl,rfl⟩ |⟨x,t,rfl,rfl⟩
  . exact wpAny_pyHash_int h
  . exact wpAny_pyHash_str h
 eqBool:=fun hu hv h=>by
  rcases O7 hu with⟨i,t,rfl,rfl⟩ |⟨x,t,rfl,rfl⟩
  . rcases O7 hv with⟨j,u,rfl,rfl⟩ |⟨y,u,rfl,rfl⟩
    . rw[vE]at h;exact wpAny_eqBool_int h
    . rw[vC]at h;exact SeqAt.EqAt.int_str i t y u _ _ _ _ h
  . rcases O7 hv with⟨j,u,rfl,rfl⟩ |⟨y,u,rfl,rfl⟩
    . rw[vB]at h;exact SeqAt.EqAt.str_int x t j u _ _ _ _ h
    . rw[vD]at h;exact wpAny_eqBool_str h
 «strs»:=fun k x t v h=>by
  rcases O7 h with⟨i,u,rfl,e⟩ |⟨y,u,rfl,e⟩
  . exact nomatch e
  . injection e with e1 _;subst e1;cases v<;>rfl
theorem zg1(prog:Program)(w:World)(i:Int)(t:Tok):(K5 prog w).is (.inl i) (.int i t)=true:=zU i t
theorem zg2(prog:Program)(w:World)(x:Str)(t:Tok):(K5 prog w).is (.inr x) (.str x t)=true:=zT x t
inductive V where
 |non |bl (b:Bool) |int (i:Int) |str (x:Str) |byt (b:Array UInt8) |flt (b:UInt64) |ref (a:Addr) |ty (n:String)
 deriving DecidableEq
def RelV:V->Value->Prop
 | .non,u=>u=Value.none
 | .bl b,u=>u=Value.bool b
 | .int i,u=>∃t,u=Value.int i t
 | .str x,u=>∃t,u=Value.str x t
 | .byt b,u=>∃t,u=Value.bytes b t
 | .flt b,u=>∃t,u=Value.float b t
 | .ref a,u=>u=Value.ref a
 | .ty n,u=>u=Value.type n
abbrev Vals:List V->List Value->Prop:=Paired RelV
theorem Vals.length(r:Vals xs us):xs.length=us.length:=Paired.length r
theorem Vals.get:∀{xs:List V}{us:List Value}{i:Nat}{x:V},Vals xs us->xs[i]?=some x->∃u,us[i]?=some u/\RelV x u
 |_,_,_,_,.nil,e=>by simp at e
 |_,_,0,_,.cons r _,e=>by simp at e;subst e;exact⟨_,rfl,r⟩
 |_,_,i+1,x,.cons _ t,e=>by obtain⟨u,h1,h2⟩:=Vals.get (i:=i) (x:=x) t (by simpa using e);exact⟨u,by simpa using h1,h2⟩
theorem Vals.set(r:RelV x u):∀{xs:List V}{us:List Value}(i:Nat),Vals xs us->Vals (xs.set i x) (us.set i u)
 |_,_,_,.nil=>.nil
 |_,_,0,.cons _ t=>.cons r t
 |_,_,i+1,.cons q t=>.cons q (Vals.set r i t)
theorem Vals.append:∀{xs ys:List V}{us ws:List Value},Vals xs us->Vals ys ws->Vals (xs++ys) (us++ws)
 |_,_,_,_,.nil,s=>s
 |_,_,_,_,.cons r t,s=>.cons r (Vals.append t s)
theorem Vals.take:∀{xs:List V}{us:List Value}(n:Nat),Vals xs us->Vals (xs.take n) (us.take n)
 |_,_,0,_=>.nil
 |_,_,_+1,.nil=>.nil
 |_,_,n+1,.cons r t=>.cons r (Vals.take n t)
theorem Vals.drop:∀{xs:List V}{us:List Value}(n:Nat),Vals xs us->Vals (xs.drop n) (us.drop n)
 |_,_,0,r=>r
 |_,_,_+1,.nil=>.nil
 |_,_,n+1,.cons _ t=>Vals.drop n t
def RelO:Option V->Option Value->Prop
 |some v,some u=>RelV v u
 |none,none=>True
 |_,_=>False
def KV{κ:Type}:List (κ×V)->List (κ×Value)->Prop:=Paired fun (p:κ×V)(q:κ×Value)=>p.1=q.1/\RelV p.2 q.2
noncomputable def kV:Key->V
 | .inl i=>.int i
 | .inr x=>.str x
def IsTp(h:Heap)(a:Addr)(its:Array Value):Prop:=∃o,h.get? a=some o/\o.cls=.type "tuple"/\(∃n,o.data=.seq its n)/\o.dict=none
theorem IsTp.tup(p:IsTp h a its):IsTup h a its:=by obtain⟨o,e,c,d,_⟩:=p;exact⟨o,e,c,d⟩
theorem IsTp.lt(p:IsTp h a its):a<h.objs.size:=by obtain⟨o,e,_⟩:=p;exact τ e
theorem IsTp.mk'(e:h.get? a=some { cls:=.type "tuple",data:=.seq its n,slots:=sl }):IsTp h a its:=⟨_,e,rfl,⟨n,rfl⟩,rfl⟩
inductive HO where
 /-- a list -/
 |lst (xs:List V)
 /-- a tuple (never changes) -/
 |tup (xs:List V)
 /-- a dict whose keys are ints and texts;one whose keys are tuples of ints and texts (the empty one is both) -/
 |dK (kvs:List (Key×V)) |dT (kvs:List (List Key×V))
 /-- a set of ints: its members,its size -/
 |set (S:Int->Bool) (n:Nat)
 /-- an instance of the class at C,its dict at dx,its attributes -/
 |ins (C dx:Addr) (fs:List (Str×V))
 /-- the dict of the instance at x -/
 |own (x:Addr)
 /-- the dict of an exception -/
 |xd (fs:List (Str×V))
 /-- a bound method,f of x -/
 |met (f x:Addr)
 /-- a range object lo,lo+1,.. below hi -/
 |rng (lo hi:Int)
 /-- a thing that is known to the object (the script;a dict while a loop walks it): read,never written while it is so -/
 |frz (o:Obj) (u:HO)
 /-- a code object's table -/
 |tbl (ps:Array Value)
 /-- the table of a def that makes lambdas,all of the qualname q -/
 |ctb (q:Str)
 /-- any other thing,by what is true of its one object (a def of one's own: SetO a S n:=HO.ext fun h=>..) -/
 |ext (φ:Heap->Prop)
abbrev Hp:=Addr->Option HO
noncomputable def upd(H:Hp)(a:Addr)(o:HO):Hp:=fun b=>if b=a then some o else H b
theorem w8:upd H a o a=some o:=by unfold upd;rw[ζ rfl]
theorem k8(h:b≠a):upd H a o b=H b:=by unfold upd;rw[ξ h]
theorem G8{H:Hp}{a b:Addr}{o:HO}(h:H a=some o)(h':H b=none):a≠b:=by intro e;subst e;rw[h]at h';cases h'
section
variable (P:Program)(w:World)
def ObjOk(H:Hp)(h:Heap)(a:Addr):HO->Prop
 | .lst xs=>xs.length<=sizeLine/\∃(its:List Value)(n:Nat),Vals xs its/\h.get? a=some { cls:=.type "list",data:=.seq its.toArray n }
 | .tup xs=>xs.length<=sizeLine/\∃its:List Value,Vals xs its/\IsTp h a its.toArray
 | .dK kvs=>kvs.length<=sizeLine/\(a==sysModules)=false/\∃vs,KV kvs vs/\h.DictOf (K5 P w) a vs
 | .dT kvs=>kvs.length<=sizeLine/\(a==sysModules)=false/\∃xs:List (List Key×Addr×Value),
  Paired (fun (p:List Key×V)(q:List Key×Addr×Value)=>p.1=q.1/\H q.2.1=some (.tup (p.1.map kV))/\RelV p.2 q.2.2) kvs xs /\
  ∃o es ep,h.get? a=some o/\o.ExactDict/\o.data=.dict es ep/\es.toList=xs.map (entryOfKey (tupleKind (K5 P w)))/\(xs.map (·.1)).Nodup
 | .set S n=>h.SetOf (intKind P w) a S n
 | .ins C dx fs=>H dx=some (.own a)/\fs.length<=1000/\dx≠a/\h.get? a=some (instObj C dx) /\
  ∃mA,h.Ns1 dx mA/\(∀f,RelO (fs.lookup f) (mA f))/\PySem.Within mA (fs.map (·.1))
 | .own _=>∃o,h.get? a=some o
 | .xd fs=>∃mA,h.Ns1 a mA/\∀f,RelO (fs.lookup f) (mA f)
 | .rng lo hi=>∃t u v,h.get? a=some { cls:=.type "range",data:=.fields #[.int lo t,.int hi u,.int 1 v] }
 | .frz o u=>h.get? a=some o/\ObjOk H h a u
 | .tbl ps=>h.get? a=some { cls:=.none,data:=.fields ps }
 | .ctb q=>∃ps:Array Value,h.get? a=some { cls:=.none,data:=.fields ps }/\TriplesOk ps.toList/\∀(pos:Pos)(v:Value),codeAmong pos ps.toList=some v->∃c,v=.ref c/\H c=some (.own a)/\h.CodeRec (.ref c) q
 | .met f x=>h.get? a=some (PySem.W.methodObj (.ref f) (.ref x))
 | .ext φ=>φ h/\(∃o,h.get? a=some o)/\∀h1 h2:Heap,φ h1->(∀o,h1.get? a=some o->h2.get? a=some o)->φ h2
def HOk(H:Hp)(h:Heap):Prop:=∀a o,H a=some o->ObjOk P w H h a o
end
section
variable {P:Program}{w:World}{H H':Hp}{h h':Heap}{a:Addr}{o:HO}
theorem ObjOk.lt(x:ObjOk P w H h a o):a<h.objs.size:=by
 cases o with
 |lst xs=>obtain⟨_,_,_,_,e⟩:=x;exact τ e
 |tup xs=>obtain⟨_,_,_,p⟩:=x;exact p.lt
 |dK kvs=>obtain⟨_,_,_,_,o,_,_,e,_⟩:=x;exact τ e
 |dT kvs=>obtain⟨_,_,_,_,o,_,_,e,_⟩:=x;exact τ e
 |set S n=>obtain⟨o,_,_,_,e,_⟩:=x;exact τ e
 |ins C dx fs=>obtain⟨_,_,_,e,_⟩:=x;exact τ e
 |own y=>obtain⟨_,e⟩:=x;exact τ e
 |xd fs=>obtain⟨_,⟨_,_,_,e,_⟩,_⟩:=x;exact τ e
 |rng lo hi=>obtain⟨_,_,_,e⟩:=x;exact τ e
 |frz ob u=>obtain⟨e,_⟩:=x;exact τ e
 |tbl ps=>exact τ (show h.get? a=some _ from x)
 |ctb q=>obtain⟨_,e,_⟩:=x;exact τ e
 |met f y=>exact τ (show h.get? a=some _ from x)
 |ext φ=>obtain⟨_,⟨_,e⟩,_⟩:=x;exact τ e
theorem Paired.mapP:∀{l₁:List α}{l₂:List β},Paired F l₁ l₂->(∀a b,F a b->G a b)->Paired G l₁ l₂
 |_,_,.nil,_=>.nil
 |_,_,.cons r t,f=>.cons (f _ _ r) (Paired.mapP t f)
theorem ObjOk.stay(x:ObjOk P w H h a o)(k:∀b u,(b=a\/H b=some (.own a))->h.get? b=some u->h'.get? b=some u)
  (ho:∀b,H b=some (.own a)->H' b=some (.own a)) (ht:∀b xs,H b=some (.tup xs)->H' b=some (.tup xs)):ObjOk P w H' h' a o:=by
 induction o with
 |lst xs=>obtain⟨z,its,n,r,e⟩:=x;exact⟨z,its,n,r,k _ _ (.inl rfl) e⟩
 |tup xs=>obtain⟨z,its,r,ob,e,c⟩:=x;exact⟨z,its,r,ob,k _ _ (.inl rfl) e,c⟩
 |dK kvs=>obtain⟨z,y,vs,r,ob,es,ep,e,c⟩:=x;exact⟨z,y,vs,r,ob,es,ep,k _ _ (.inl rfl) e,c⟩
 |dT kvs=>
  obtain⟨z,y,xs,r,ob,es,ep,e,c⟩:=x
  exact⟨z,y,xs,Paired.mapP r fun p q z=>⟨z.1,ht _ _ z.2.1,z.2.2⟩,ob,es,ep,k _ _ (.inl rfl) e,c⟩
 |set S n=>obtain⟨ob,es,ep,t,e,c⟩:=x;exact⟨ob,es,ep,t,k _ _ (.inl rfl) e,c⟩
 |ins C dx fs=>
  obtain⟨d,z,ne,e,mA,⟨od,es,ep,e2,c⟩,r⟩:=x
  exact⟨ho _ d,z,ne,k _ _ (.inl rfl) e,mA,⟨od,es,ep,k _ _ (.inr d) e2,c⟩,r⟩
 |own y=>obtain⟨ob,e⟩:=x;exact⟨ob,k _ _ (.inl rfl) e⟩
 |xd fs=>obtain⟨mA,⟨od,es,ep,e,c⟩,r⟩:=x;exact⟨mA,⟨od,es,ep,k _ _ (.inl rfl) e,c⟩,r⟩
 |rng lo hi=>obtain⟨t,u,v,e⟩:=x;exact⟨t,u,v,k _ _ (.inl rfl) e⟩
 |frz ob u ih=>obtain⟨e,q⟩:=x;exact⟨k _ _ (.inl rfl) e,ih q⟩
 |tbl ps=>
  have e:h.get? a=some { cls:=.none,data:=.fields ps }:=x
  show h'.get? a=some { cls:=.none,data:=.fields ps }
  exact k a _ (.inl rfl) e
 |ctb q=>
  obtain⟨ps,e,t,c⟩:=x
  refine⟨ps,k _ _ (.inl rfl) e,t,fun pos v hb=>?_⟩
  obtain⟨b,rfl,z,c2,oc,vs,tq,e1,e2,e3⟩:=c pos v hb
  cases e1
  exact⟨b,rfl,ho _ z,b,oc,vs,tq,rfl,k _ _ (.inr z) e2,e3⟩
 |met f y=>
  have e:h.get? a=some (PySem.W.methodObj (.ref f) (.ref y)):=x
  show h'.get? a=some (PySem.W.methodObj (.ref f) (.ref y))
  exact k a _ (.inl rfl) e
 |ext φ=>obtain⟨p,⟨o,e⟩,st⟩:=x;exact⟨st _ _ p fun o q=>k _ _ (.inl rfl) q,⟨o,k _ _ (.inl rfl) e⟩,st⟩
theorem HOk.lt(x:HOk P w H h)(e:H a=some o):a<h.objs.size:=(x a o e).lt
theorem HOk.fresh(x:HOk P w H h)(e:h.objs.size<=a):H a=none:=by
 cases q:H a with
 |none=>rfl
 |some u=>exact absurd (AD (x.lt q) e) (CH _)
theorem HOk.kept(x:HOk P w H h)(k:∀b u,h.get? b=some u->h'.get? b=some u):HOk P w H h':=fun a o e=>
 (x a o e).stay (fun b u _ q=>k b u q) (fun _ q=>q) fun _ _ q=>q
theorem HOk.laid(x:HOk P w H h)(k:∀b u,h.get? b=some u->h'.get? b=some u)(hp:h.objs.size<=a)(new:ObjOk P w (upd H a o) h' a o):HOk P w (upd H a o) h':=fun b u e=>by
 have hn:=x.fresh hp;by_cases hb:b=a
 . subst hb;rw[w8]at e;cases e;exact new
 . rw[k8 hb]at e;exact(x b u e).stay (fun c v _ q=>k c v q) (fun c q=>by rw[k8 (G8 q hn)];exact q) fun c xs q=>by rw[k8 (G8 q hn)];exact q
end
def Rd(H:Hp)(a:Addr)(u:HO):Prop:=H a=some u\/∃o,H a=some (.frz o u)
theorem Rd.of(h:H a=some u):Rd H a u:=.inl h
theorem Rd.ok(r:Rd H a u)(x:HOk P w H h):ObjOk P w H h a u:=by
 rcases r with r |⟨o,r⟩
 . exact x a u r
 . obtain⟨_,q⟩:=x a _ r;exact q
def Mut:Option HO->Prop
 |some (.lst _)=>True
 |some (.dK _)=>True
 |some (.dT _)=>True
 |some (.set _ _)=>True
 |some (.ins _ _ _)=>True
 |some (.ext _)=>True
 |_=>False
section
variable {P:Program}{w:World}{H:Hp}{h h':Heap}{x e:Addr}{o':HO}
theorem HOk.write(ok:HOk P w H h)(mu:Mut (H x))(he:e=x\/H e=some (.own x))(k:∀b u,b≠e->h.get? b=some u->h'.get? b=some u)(fe:∃u,h'.get? e=some u)
  (new:ObjOk P w (upd H x o') h' x o'):HOk P w (upd H x o') h':=fun b u q=>by
 have ie:∀c y,H c=some (.own y)->c≠x:=fun c y r z=>by subst z;rw[r]at mu;exact mu
 have lP:∀c xs,H c=some (.tup xs)->c≠x:=fun c xs r z=>by subst z;rw[r]at mu;exact mu
 by_cases hb:b=x
 . subst hb;rw[w8]at q;cases q;exact new
 . rw[k8 hb]at q;by_cases eI:b=e
   . have q':H b=some (.own x):=by
      rcases he with z |z
      . exact absurd (eI.trans z) hb
      . rw[eI];exact z
     rw[q]at q';cases q'
     obtain⟨v,hv⟩:=fe
     exact⟨v,by rw[eI];exact hv⟩
   . refine(ok b u q).stay (fun c v hc r=>k c v ?_ r) (fun c r=>by rw[k8 (ie c b r)];exact r) fun c xs r=>by rw[k8 (lP c xs r)];exact r
     rcases hc with rfl |hc
     . exact eI
     . rintro rfl;rcases he with z |z
       . exact ie c b hc z
       . rw[hc]at z;cases z;exact hb rfl
end
structure Un(fs ex:List Addr)(H H':Hp)(h h':Heap):Prop where
 keep:∀b o,h.get? b=some o->H b=none->b∉fs->b∉ex->h'.get? b=some o
 slot:∀b o,h.get? b=some o->H b=none->b∈fs->b∉ex->∃sl,h'.get? b=some { o with slots:=sl }
 free:∀b o,h.get? b=some o->H b=none->b∉ex->H' b=none
 there:∀b o,h.get? b=some o->b∉ex->∃o',h'.get? b=some o'
 tups:∀b xs,H b=some (.tup xs)->H' b=some (.tup xs)
 frzs:∀b o u,H b=some (.frz o u)->H' b=some (.frz o u)
 tbls:∀b ps,H b=some (.tbl ps)->∃more,H' b=some (.tbl (ps++more))
section
variable {fs ex:List Addr}{H H1 H2:Hp}{h h1 h2 h':Heap}{a x e:Addr}{o:HO}
theorem Un.any(u:Un fs ex H H1 h h1)(q:h.get? b=some ob)(n:H b=none)(hx:b∉ex):∃sl,h1.get? b=some { ob with slots:=sl }:=by
 by_cases hb:b∈fs
 . exact u.slot b ob q n hb hx
 . exact⟨ob.slots,u.keep b ob q n hb hx⟩
theorem Un.trans(a:Un fs ex H H1 h h1)(b:Un fs ex H1 H2 h1 h2):Un fs ex H H2 h h2 where
 keep:=fun c ob q n hc hx=>b.keep c ob (a.keep c ob q n hc hx) (a.free c ob q n hx) hc hx
 slot:=fun c ob q n hc hx=>by obtain⟨sl,e1⟩:=a.slot c ob q n hc hx;obtain⟨iN,e2⟩:=b.slot c _ e1 (a.free c ob q n hx) hc hx;exact⟨iN,e2⟩
 free:=fun c ob q n hx=>by obtain⟨o',e1⟩:=a.there c ob q hx;exact b.free c o' e1 (a.free c ob q n hx) hx
 there:=fun c ob q hx=>by obtain⟨o',e1⟩:=a.there c ob q hx;exact b.there c o' e1 hx
 tups:=fun c xs q=>b.tups c xs (a.tups c xs q)
 frzs:=fun c ob xs q=>b.frzs c ob xs (a.frzs c ob xs q)
 tbls:=fun c ps q=>by obtain⟨m1,e1⟩:=a.tbls c ps q;obtain⟨m2,e2⟩:=b.tbls c _ e1;exact⟨m1++m2,by rw[e2,Array.append_assoc]⟩
theorem Un.kept(k:∀b u,h.get? b=some u->h'.get? b=some u):Un fs ex H H h h':=
 ⟨fun b ob q _ _ _=>k b ob q,fun b ob q _ _ _=>⟨ob.slots,k b ob q⟩,fun _ _ _ n _=>n,fun b ob q _=>⟨ob,k b ob q⟩,fun _ _ q=>q,fun _ _ _ q=>q,fun _ ps q=>⟨#[],by rw[q];simp⟩⟩
theorem Un.refl:Un fs ex H H h h:=Un.kept fun _ _ q=>q
theorem Un.laid(k:∀b u,h.get? b=some u->h'.get? b=some u)(hp:h.objs.size<=a)(hn:H a=none):Un fs ex H (upd H a o) h h' where
 keep:=fun b u q _ _ _=>k b u q
 slot:=fun b u q _ _ _=>⟨u.slots,k b u q⟩
 free:=fun b u q n _=>by rw[k8 (AG (AD (τ q) hp))];exact n
 there:=fun b u q _=>⟨u,k b u q⟩
 tups:=fun b xs q=>by rw[k8 (G8 q hn)];exact q
 frzs:=fun b u xs q=>by rw[k8 (G8 q hn)];exact q
 tbls:=fun b ps q=>⟨#[],by rw[k8 (G8 q hn),q];simp⟩
theorem Un.write(mu:Mut (H x))(he:e=x\/H e=some (.own x))(k:∀b u,b≠e->h.get? b=some u->h'.get? b=some u)(fe:∃u,h'.get? e=some u):Un fs ex H (upd H x o) h h':=by
 have hx:∀b,H b=none->b≠x:=fun b n z=>by subst z;rw[n]at mu;exact mu
 have hb:∀b,H b=none->b≠e:=fun b n z=>by
  subst z;rcases he with r |r
  . exact hx b n r
  . rw[n]at r;cases r
 have hm:∀b u,H b=some u->¬Mut (some u)->b≠x:=fun b u q nm z=>by subst z;rw[q]at mu;exact nm mu
 refine⟨fun b u q n _ _=>k b u (hb b n) q,fun b u q n _ _=>⟨u.slots,k b u (hb b n) q⟩,fun b u q n _=>by rw[k8 (hx b n)];exact n,fun b u q _=>?_,
  fun b xs q=>by rw[k8 (hm b _ q fun z=>z)];exact q,fun b u xs q=>by rw[k8 (hm b _ q fun z=>z)];exact q,fun b ps q=>⟨#[],by rw[k8 (hm b _ q fun z=>z),q];simp⟩⟩
 by_cases eI:b=e
 . subst eI;exact fe
 . exact⟨u,k b u eI q⟩
end
noncomputable def trk(h:Heap)(H:Hp):List Addr:=(List.range h.objs.size).filter fun a=>(H a).isSome
def N3(h:Heap)(H:Hp):Heap:=hideAll h (trk h H)
theorem zS(h:Heap)(H:Hp):(N3 h H).objs.size=h.objs.size:=PySem.W.hideAll_size _ _
theorem yW(e:h.get? b=some o)(n:H b=none):(N3 h H).get? b=some o:=
 hideAll_get _ e fun hm=>by have q:(H b).isSome=true:=(AK.mp hm).2;rw[n]at q;simp at q
theorem xI(e:(N3 h H).get? b=some o):h.get? b=some o/\H b=none:=by
 have e':h.get? b=some o:=of_hideAll (trk h H) e;refine⟨e',?_⟩;cases q:H b with
 |none=>rfl
 |some x=>
  have hm:b∈trk h H:=AK.mpr ⟨DB.mpr (τ e'),by simp[q]⟩
  have z:(N3 h H).get? b=none:=hideAll_none (trk h H) hm
  rw[z]at e;cases e
noncomputable def Bz(g h:Heap)(L:Addr):List (Addr×Obj):=(List.range h.objs.size).filterMap fun a=>if a=L\/(g.get? a).isSome=true then none else(h.get? a).map fun o=>(a,o)
theorem zg3(h1:a≠L)(h2:g.get? a=none)(h3:h.get? a=some o):(a,o)∈Bz g h L:=
 CD.mpr ⟨a,DB.mpr (τ h3),by simp[h1,h2,h3]⟩
theorem zbd(hp:p∈Bz g h L):p.1≠L/\g.get? p.1=none/\h.get? p.1=some p.2:=by
 obtain⟨b,_,e⟩:=CD.mp hp;split at e
 . cases e
 . rename_i hn;cases q:h.get? b with
   |none=>rw[q]at e;simp at e
   |some u=>
    rw[q]at e
    simp only[uZ,Option.some.injEq]at e
    subst e
    refine⟨fun z=>hn (.inl z),?_,q⟩
    show g.get? b=none
    cases r:g.get? b with
    |none=>rfl
    |some v=>exact(hn (.inr (by simp[r]))).elim
def rest(g h:Heap)(L d:Addr):List (Addr×Obj):=(Bz g h L).filter fun p=>decide (p.1≠d)
theorem Cg:News g L h (Bz g h L):=fun p hp=>let ⟨a,b,c⟩:=zbd hp;⟨c,a,b⟩
structure Mod(K:Frag)(mg:Str->Option Value)(base:Heap):Prop where
 kin:K.In base
 glob:base.Ns mainGlobals mg
 blt:∃mb,base.Ns builtinsNs mb/\∀x:Str,x≠"__name__"->mb x=bootBuiltins x
 nolimit:base.NoLimit
structure Cx where
 prog:Program
 w:World
 K:Frag
 mg:Str->Option Value
 base:Heap
 A:Around
 N:List Str
 s₀:Shared
 H₀:Hp
 env:Env
 outer:List Env
 stack:List Env
 ex:List Addr
 fn:Str->Bool
 calm:Bool
 pn:List (Addr×Obj)
 xe:Value->Shared->Prop
noncomputable def frs(l:List Env):List Addr:=l.filterMap (·.frame)
abbrev Cx.fs(X:Cx):List Addr:=frs X.outer
def Vis(sc:Scope)(x:Str):Prop:=sc.names.lookup x=some .local\/sc.names.lookup x=some .cell\/sc.names.lookup x=some .free
def Loc(sc:Scope)(x:Str):Prop:=sc.names.lookup x=some .local\/sc.names.lookup x=some .cell
def y7j(env:Env)(h:Heap)(m:Str->Option Value)(x:Str)(u:Value):Prop:=
 (env.kindOf x=some .local/\m x=some u)\/((env.kindOf x=some .cell\/env.kindOf x=some .free)/\∃c,env.cells.lookup x=some c/\h.IsCell c (some u))
structure Cx.Ok(X:Cx):Prop where
 mod:Mod X.K X.mg X.base
 kind:X.env.scope.kind=.function
 glob:X.env.globals=mainGlobals
 blt:X.env.builtins=builtinsNs
 above:X.s₀.heap.objs.size<=X.env.locals
 inj:∀x y c,X.env.cells.lookup x=some c->X.env.cells.lookup y=some c->x=y
 has:∀x,(X.env.kindOf x=some .cell\/X.env.kindOf x=some .free)->∃c,X.env.cells.lookup x=some c
 cab:∀x c,X.fn x=true->X.env.cells.lookup x=some c->X.s₀.heap.objs.size<=c
 hd:X.calm=true->X.A.handled=none
 frames:X.A.frames=some X.stack
 stk:X.stack=X.outer\/(X.stack=X.env::X.outer/\X.env.frame=some X.env.locals)
 exf:∀b∈X.ex,b≠X.env.locals/\∀x c,X.env.cells.lookup x=some c->c≠b
 bs:∀b o,X.base.get? b=some o->X.s₀.heap.get? b=some o/\X.H₀ b=none
 bsz:X.base.objs.size<=X.s₀.heap.objs.size
 noex:∀b o,X.base.get? b=some o->b∉X.ex
 exfs:∀b∈X.ex,b∉X.fs
 funs:X.s₀.heap.FunFrames X.base X.outer
 frf:∀b∈X.fs,X.H₀ b=none
structure Inv(X:Cx)(pins:List (Addr×Obj))(U:List (Option V))(H:Hp)(s:Shared):Prop where
 ok:X.Ok
 os:s.os=X.s₀.os
 bare:AllBare s.gens
 base:Un X.fs X.ex X.H₀ H X.s₀.heap s.heap
 loc:∃m,s.heap.Ns X.env.locals m/\∀(i:Nat)(x:Str)(v:V),X.N[i]?=some x->U[i]?=some (some v)->Vis X.env.scope x->∃u,RelV v u/\y7j X.env s.heap m x u
 cell:∀x c,X.env.cells.lookup x=some c->∃v,s.heap.IsCell c v
 free:H X.env.locals=none
 freeC:∀x c,X.env.cells.lookup x=some c->H c=none
 pin:∀p∈X.pn++pins,s.heap.get? p.1=some p.2/\H p.1=none/\p.1≠X.env.locals/\p.1∉X.fs/\∀v,p.2.data≠.cell v
 hok:HOk X.prog X.w H s.heap
 len:U.length=X.N.length
section
variable {X:Cx}{pins:List (Addr×Obj)}{U:List (Option V)}{H H':Hp}{s:Shared}{h':Heap}
theorem Cx.Ok.nofr(ok:X.Ok)(e:X.base.get? b=some o):b∉X.fs:=fun hb=>by have:=(ok.funs.mem hb).1;rw[e]at this;cases this
theorem Inv.bs(I:Inv X pins U H s):∀b o,X.base.get? b=some o->s.heap.get? b=some o/\H b=none:=fun b o e=>
 ⟨I.base.keep b o (I.ok.bs b o e).1 (I.ok.bs b o e).2 (I.ok.nofr e) (I.ok.noex b o e),I.base.free b o (I.ok.bs b o e).1 (I.ok.bs b o e).2 (I.ok.noex b o e)⟩
theorem Inv.bk(I:Inv X pins U H s):∀b o,X.base.get? b=some o->s.heap.get? b=some o:=fun b o e=>(I.bs b o e).1
theorem Inv.mod(I:Inv X pins U H s):Mod X.K X.mg X.base:=I.ok.mod
theorem Inv.kIn(I:Inv X pins U H s):X.K.In s.heap:=I.ok.mod.kin.keeps I.bk
theorem Inv.lt(I:Inv X pins U H s):X.env.locals<s.heap.objs.size:=let ⟨_,hn,_⟩:=I.loc;hn.lt
theorem Inv.sz(I:Inv X pins U H s):X.s₀.heap.objs.size<=s.heap.objs.size:=AA I.ok.above (DF I.lt)
theorem Inv.nofs(I:Inv X pins U H s)(h:s.heap.objs.size<=a):a∉X.fs:=fun hb=>by obtain⟨_,o,ho,_⟩:=I.ok.funs.mem hb;exact absurd (AD (τ ho) (AA I.sz h)) (CH _)
theorem Inv.cne(I:Inv X pins U H s):∀x c,X.env.cells.lookup x=some c->c≠X.env.locals:=fun x c e z=>by obtain⟨v,o,ho,hd⟩:=I.cell x c e;obtain⟨m,⟨o',es,ep,aW,cG,_⟩,_⟩:=I.loc;rw[z,aW]at ho;cases ho;rw[cG]at hd;cases hd
theorem Inv.funs(I:Inv X pins U H s):s.heap.FunFrames X.base X.outer:=by
 have all:∀(l:List Env),(∀b∈frs l,b∈X.fs)->X.s₀.heap.FunFrames X.base l->s.heap.FunFrames X.base l:=by
  intro l;induction l with
  |nil=>intro _ _;trivial
  |cons env r ih=>
   intro hs hl
   obtain⟨hk,⟨L,o,hf,hn,ho,hd⟩,hr⟩:=hl
   have hL:L∈X.fs:=hs L (by unfold frs;rw[CA,hf];exact dg)
   obtain⟨sl,e⟩:=I.base.slot L o ho (I.ok.frf L hL) hL fun z=>I.ok.exfs L z hL
   exact⟨hk,⟨L,_,hf,hn,e,hd⟩,ih (fun b hb=>hs b (by unfold frs;rw[CA,hf];exact bI _ hb)) hr⟩
 exact all X.outer (fun _ hb=>hb) I.ok.funs
theorem Inv.stack(I:Inv X pins U H s):s.heap.FunFrames X.base X.stack:=by
 rcases I.ok.stk with e |⟨e,hf⟩
 . rw[e];exact I.funs
 . rw[e];obtain⟨m,hn,_⟩:=I.loc;refine .cons (by rw[I.ok.kind];decide) hf hn ?_ I.funs;exact Heap.get?_none_of_le (AA I.ok.bsz I.ok.above)
theorem Inv.stkSub(I:Inv X pins U H s):∀b∈frs X.stack,b∈X.env.locals::X.fs:=fun b hb=>by
 rcases I.ok.stk with e |⟨e,hf⟩
 . rw[e]at hb;exact bI _ hb
 . rw[e]at hb;unfold frs at hb;rw[CA,hf]at hb;exact hb
theorem Inv.stkFree(I:Inv X pins U H s):∀b∈frs X.stack,H b=none:=fun b hb=>by
 rcases gq.mp (I.stkSub b hb) with e |hb
 . rw[e];exact I.free
 . obtain⟨_,o,ho,_⟩:=I.ok.funs.mem hb;exact I.base.free b o ho (I.ok.frf b hb) fun z=>I.ok.exfs b z hb
theorem Inv.step{g':Array GenState}{t':Nat}{d':Drawn}{ch:List Addr}(I:Inv X pins U H s)
  (cH:∀b∈ch,(b∈X.ex\/X.s₀.heap.objs.size<=b)/\b≠X.env.locals/\(∀x c,X.env.cells.lookup x=some c->c≠b)/\∀p∈X.pn++pins,p.1≠b)
  (keep:∀b o,b≠X.env.locals->b∉X.fs->b∉ch->s.heap.get? b=some o->H b=none->h'.get? b=some o)
  (slot:∀b o,b≠X.env.locals->b∈X.fs->b∉ch->s.heap.get? b=some o->H b=none->∃sl,h'.get? b=some { o with slots:=sl }) (free:∀b o,b∉ch->s.heap.get? b=some o->H b=none->H' b=none)
  (there:∀b o,b∉ch->s.heap.get? b=some o->∃o',h'.get? b=some o')
  (tups:∀b xs,H b=some (.tup xs)->H' b=some (.tup xs)) (frzs:∀b o u,H b=some (.frz o u)->H' b=some (.frz o u)) (tbls:∀b ps,H b=some (.tbl ps)->∃more,H' b=some (.tbl (ps++more)))
  (ns:∀m,s.heap.Ns X.env.locals m->h'.Ns X.env.locals m) (hok:HOk X.prog X.w H' h') (hg:AllBare g') :
  Inv X pins U H' { s with heap:=h',gens:=g',drawn:=d',toks:=t' }:=by
 have ed:∀b o,X.s₀.heap.get? b=some o->b≠X.env.locals:=fun b o e=>AG (AD (τ e) I.ok.above)
 have neC:∀b o,X.s₀.heap.get? b=some o->b∉X.ex->b∉ch:=fun b o e hx hb=>by
  rcases (cH b hb).1 with z |z
  . exact hx z
  . exact absurd (AD (τ e) z) (CH _)
 have fD:∀x c,X.env.cells.lookup x=some c->∀v,s.heap.IsCell c v->h'.IsCell c v:=fun x c e v ⟨o,ho,hd⟩=>by
  have fP:c∉ch:=fun z=>(cH c z).2.2.1 x c e rfl
  by_cases hc:c∈X.fs
  . obtain⟨sl,q⟩:=slot c o (I.cne x c e) hc fP ho (I.freeC x c e);exact⟨_,q,hd⟩
  . exact⟨o,keep c o (I.cne x c e) hc fP ho (I.freeC x c e),hd⟩
 refine⟨I.ok,I.os,hg,⟨fun b o e n hb hx=>?_,fun b o e n hb hx=>?_,fun b o e n hx=>?_,fun b o e hx=>?_,fun b xs e=>tups b xs (I.base.tups b xs e),fun b o xs e=>frzs b o xs (I.base.frzs b o xs e),fun b ps e=>?_⟩,?_,fun x c e=>?_,?_,fun x c e=>?_,fun p hp=>?_,hok,I.len⟩
 . exact keep b o (ed b o e) hb (neC b o e hx) (I.base.keep b o e n hb hx) (I.base.free b o e n hx)
 . obtain⟨sl,e1⟩:=I.base.slot b o e n hb hx;obtain⟨iN,e2⟩:=slot b _ (ed b o e) hb (neC b o e hx) e1 (I.base.free b o e n hx);exact⟨iN,e2⟩
 . obtain⟨o',e1⟩:=I.base.there b o e hx;exact free b o' (neC b o e hx) e1 (I.base.free b o e n hx)
 . obtain⟨o',e1⟩:=I.base.there b o e hx;exact there b o' (neC b o e hx) e1
 . obtain⟨m1,e1⟩:=I.base.tbls b ps e;obtain⟨m2,e2⟩:=tbls b _ e1;exact⟨m1++m2,by rw[e2,Array.append_assoc]⟩
 . obtain⟨m,hn,hl⟩:=I.loc;refine⟨m,ns m hn,fun i x v e1 e2 e3=>?_⟩;obtain⟨u,r,l⟩:=hl i x v e1 e2 e3;refine⟨u,r,?_⟩;rcases l with l |⟨k,c,e,z⟩
   . exact .inl l
   . exact .inr ⟨k,c,e,fD x c e _ z⟩
 . obtain⟨v,z⟩:=I.cell x c e;exact⟨v,fD x c e v z⟩
 . obtain⟨m,⟨o,_,_,ho,_⟩,_⟩:=I.loc;exact free _ o (fun z=>(cH _ z).2.1 rfl) ho I.free
 . obtain⟨v,o,ho,hd⟩:=I.cell x c e;exact free c o (fun z=>(cH c z).2.2.1 x c e rfl) ho (I.freeC x c e)
 . obtain⟨e,n,ne,nf,d⟩:=I.pin p hp;have fP:p.1∉ch:=fun z=>(cH p.1 z).2.2.2 p hp rfl
   exact⟨keep p.1 p.2 ne nf fP e n,free p.1 p.2 fP e n,ne,nf,d⟩
theorem Inv.un(I:Inv X pins U H s)(u:Un X.fs [] H H' s.heap h')(hok:HOk X.prog X.w H' h'):Inv X pins U H' { s with heap:=h',toks:=t' }:=by obtain⟨m,⟨o,es,ep,ho,r⟩,_⟩:=id I.loc;obtain⟨sl,hL⟩:=u.any ho I.free (by simp);exact I.step (g':=s.gens) (d':=s.drawn) (ch:=[]) (fun _ z=>nomatch z) (fun b o _ hb _ e n=>u.keep b o e n hb (by simp)) (fun b o _ hb _ e n=>u.slot b o e n hb (by simp)) (fun b o _ e n=>u.free b o e n (by simp)) (fun b o _ e=>u.there b o e (by simp)) u.tups u.frzs u.tbls (fun m' hm=>by obtain⟨o',iO,iP,aW,r'⟩:=hm;rw[ho]at aW;cases aW;exact⟨_,iO,iP,hL,r'⟩) hok I.bare
theorem Inv.call(I:Inv X pins U H s)(u:Un (frs X.stack) ch H H' s.heap h')(hok:HOk X.prog X.w H' h')(hg:AllBare g')
  (cH:∀b∈ch,(b∈X.ex\/X.s₀.heap.objs.size<=b)/\b≠X.env.locals/\(∀x c,X.env.cells.lookup x=some c->c≠b)/\∀p∈X.pn++pins,p.1≠b) :
  Inv X pins U H' { s with heap:=h',gens:=g',drawn:=d',toks:=t' }:=by
 obtain⟨m,⟨o,es,ep,ho,r⟩,_⟩:=id I.loc
 obtain⟨sl,hL⟩:=u.any ho I.free fun z=>(cH _ z).2.1 rfl
 exact I.step (ch:=ch) cH (fun b o hL hb hc e n=>u.keep b o e n (fun z=>(gq.mp (I.stkSub b z)).elim hL hb) hc) (fun b o _ _ hc e n=>u.any e n hc) (fun b o hc e n=>u.free b o e n hc) (fun b o hc e=>u.there b o e hc) u.tups u.frzs u.tbls (fun m' hm=>by obtain⟨o',iO,iP,aW,r'⟩:=hm;rw[ho]at aW;cases aW;exact⟨_,iO,iP,hL,r'⟩) hok hg
theorem Inv.turned(I:Inv X pins U H s)(k:∀b o,b≠it->s.heap.get? b=some o->h'.get? b=some o)(hn:H it=none)(hL:it≠X.env.locals)
  (h1:it∈X.ex\/X.s₀.heap.objs.size<=it) (h2:∀x c,X.env.cells.lookup x=some c->c≠it) (h3:∀p∈X.pn++pins,p.1≠it):Inv X pins U H { s with heap:=h',toks:=t' }:=by
 have mz:∀b u,H b=some u->b≠it:=fun b u e z=>by rw[z,hn]at e;cases e
 refine I.step (g':=s.gens) (d':=s.drawn) (ch:=[it]) (fun b hb=>?_) (fun b o _ _ hc e _=>k b o (fun z=>hc (by simp[z])) e) (fun b o _ _ hc e _=>⟨o.slots,k b o (fun z=>hc (by simp[z])) e⟩) (fun _ _ _ _ n=>n)
  (fun b o hc e=>⟨o,k b o (fun z=>hc (by simp[z])) e⟩) (fun _ _ e=>e) (fun _ _ _ e=>e) (fun b ps e=>⟨#[],by rw[e];simp⟩) (fun m hm=>?_) (fun b u e=>?_) I.bare
 . have e:b=it:=by simpa using hb
   subst e;exact⟨h1,hL,h2,h3⟩
 . obtain⟨o,es,ep,ho,r⟩:=hm;exact⟨o,es,ep,k _ o (BX hL) ho,r⟩
 . refine(I.hok b u e).stay (fun c v hc q=>k c v ?_ q) (fun _ q=>q) fun _ _ q=>q
   rcases hc with z |z
   . rw[z];exact mz b u e
   . exact mz c _ z
theorem Inv.tok(I:Inv X pins U H s)(t:Nat):Inv X pins U H { s with toks:=t }:=I.un (h':=s.heap) (t':=t) Un.refl I.hok
theorem Inv.kept(I:Inv X pins U H s)(k:∀b u,s.heap.get? b=some u->h'.get? b=some u):Inv X pins U H { s with heap:=h',toks:=t' }:=I.un (Un.kept k) (I.hok.kept k)
theorem Inv.laid(I:Inv X pins U H s)(k:∀b u,s.heap.get? b=some u->h'.get? b=some u)(hp:s.heap.objs.size<=a)(new:ObjOk X.prog X.w (upd H a o) h' a o) :
 Inv X pins U (upd H a o) { s with heap:=h',toks:=t' }:=I.un (Un.laid k hp (I.hok.fresh hp)) (I.hok.laid k hp new)
theorem Inv.write(I:Inv X pins U H s)(mu:Mut (H x))(he:e=x\/H e=some (.own x))(k:∀b u,b≠e->s.heap.get? b=some u->h'.get? b=some u)(fe:∃u,h'.get? e=some u)
 (new:ObjOk X.prog X.w (upd H x o) h' x o):Inv X pins U (upd H x o) { s with heap:=h',toks:=t' }:=I.un (Un.write mu he k fe) (I.hok.write mu he k fe new)
theorem Inv.pins_of(I:Inv X pins U H s)(h:∀p∈iF,s.heap.get? p.1=some p.2/\H p.1=none/\p.1≠X.env.locals/\p.1∉X.fs/\∀v,p.2.data≠.cell v):Inv X iF U H s:=
 ⟨I.ok,I.os,I.bare,I.base,I.loc,I.cell,I.free,I.freeC,fun p hp=>(AN.mp hp).elim (fun z=>I.pin p (List.mem_append_left _ z)) (h p),I.hok,I.len⟩
theorem Mh{N:List Str}(hN:N.Nodup){i j:Nat}{x:Str}(a:N[i]?=some x)(b:N[j]?=some x):i=j:=by obtain⟨h1,e1⟩:=AX.mp a;obtain⟨h2,e2⟩:=AX.mp b;exact(List.getElem_inj hN).mp (e1.trans e2.symm)
theorem Xw(I:Inv X pins U H s)(hN:X.N.Nodup)(hi:X.N[i]?=some x)(hx:Loc X.env.scope x)(r:RelV v u)
  (h:∀s',Inv X pins (U.set i (some v)) H s'->(∃a,Heap.SameBut a s.heap s'.heap/\(a=X.env.locals\/X.env.cells.lookup x=some a))->Q () s') (hf:X.fn x=true\/X.env.scope.names.lookup x=some .local):wpAny M A (storeName X.env x u) Q E s:=by
 obtain⟨m,hn,hl⟩:=id I.loc
 have dP:(X.env.scope.kind==.class||(X.env.scope.kind==.module&&X.env.locals != X.env.globals))=false:=by rw[I.ok.kind];rfl
 have ig:i<U.length:=by rw[I.len];exact(AX.mp hi).1
 have cne:=I.cne
 have dN:∀{a:Addr}{h':Heap},(∃o,s.heap.get? a=some o/\H a=none)->Heap.SameBut a s.heap h'->HOk X.prog X.w H h':=fun {a h'} ha hs b ob e=>by
  obtain⟨_,_,fE⟩:=ha;refine(I.hok b ob e).stay (fun c w' hc q=>(hs.2 c ?_).trans q) (fun _ q=>q) fun _ _ q=>q
  rintro rfl;rcases hc with rfl |hc
  . rw[fE]at e;cases e
  . rw[fE]at hc;cases hc
 rcases hx with hk |hk
 . refine wpAny_storeName_local hk hn (fun h' iQ hs=>?_) dP;obtain⟨oL,_,_,fQ,_⟩:=id hn;refine h _ ⟨I.ok,I.os,I.bare,⟨fun b o e n hb hx=>?_,fun b o e n hb hx=>?_,I.base.free,fun b o e hx=>?_,I.base.tups,I.base.frzs,I.base.tbls⟩,⟨_,iQ,fun j y v' e1 e2 e3=>?_⟩,fun y c e=>?_,I.free,I.freeC,fun p hp=>?_,dN ⟨oL,fQ,I.free⟩ hs,by simpa using I.len⟩ ⟨_,hs,.inl rfl⟩
   . exact(hs.2 b (AG (AD (τ e) I.ok.above))).trans (I.base.keep b o e n hb hx)
   . obtain⟨sl,e1⟩:=I.base.slot b o e n hb hx;exact⟨sl,(hs.2 b (AG (AD (τ e) I.ok.above))).trans e1⟩
   . obtain⟨o',e1⟩:=I.base.there b o e hx;exact⟨o',(hs.2 b (AG (AD (τ e) I.ok.above))).trans e1⟩
   . by_cases hj:j=i
     . subst hj;rw[hi]at e1;cases e1;rw[BR ig]at e2;cases e2;exact⟨u,r,.inl ⟨hk,by simp⟩⟩
     . rw[AT (BX hj)]at e2;obtain⟨u',r',q⟩:=hl j y v' e1 e2 e3;refine⟨u',r',?_⟩;rcases q with⟨k,e⟩ |⟨k,c,e,z⟩
       . refine .inl ⟨k,?_⟩;have:y≠x:=fun e=>hj (Mh hN e1 (e ▸ hi))
         simp[this,e]
       . exact .inr ⟨k,c,e,z.sameBut hs (cne y c e)⟩
   . obtain⟨w',z⟩:=I.cell y c e;exact⟨w',z.sameBut hs (cne y c e)⟩
   . obtain⟨e,n,ne,nf,d⟩:=I.pin p hp;exact⟨(hs.2 p.1 ne).trans e,n,ne,nf,d⟩
 . have fR:X.fn x=true:=by
    rcases hf with z |z
    . exact z
    . rw[z]at hk;cases hk
   obtain⟨c,hc⟩:=I.ok.has x (.inl hk)
   obtain⟨w',z⟩:=I.cell x c hc
   refine wpAny_storeName_cell I.ok.kind hk hc z (fun h' fS hs=>?_)
   obtain⟨oc,gJ,lQ⟩:=id z
   refine h { s with heap:=h' } ⟨I.ok,I.os,I.bare,⟨fun b o e n hb hx=>?_,fun b o e n hb hx=>?_,I.base.free,fun b o e hx=>?_,I.base.tups,I.base.frzs,I.base.tbls⟩,⟨m,hn.sameBut hs (BX (cne x c hc)),fun j y v' e1 e2 e3=>?_⟩,fun y c' e=>?_,I.free,I.freeC,fun p hp=>?_,dN ⟨oc,gJ,I.freeC x c hc⟩ hs,by simpa using I.len⟩ ⟨c,hs,.inr hc⟩
   . exact(hs.2 b (AG (AD (τ e) (I.ok.cab x c fR hc)))).trans (I.base.keep b o e n hb hx)
   . obtain⟨sl,e1⟩:=I.base.slot b o e n hb hx;exact⟨sl,(hs.2 b (AG (AD (τ e) (I.ok.cab x c fR hc)))).trans e1⟩
   . obtain⟨o',e1⟩:=I.base.there b o e hx;exact⟨o',(hs.2 b (AG (AD (τ e) (I.ok.cab x c fR hc)))).trans e1⟩
   . by_cases hj:j=i
     . subst hj;rw[hi]at e1;cases e1;rw[BR ig]at e2;cases e2;exact⟨u,r,.inr ⟨.inl hk,c,hc,fS⟩⟩
     . rw[AT (BX hj)]at e2;obtain⟨u',r',q⟩:=hl j y v' e1 e2 e3;refine⟨u',r',?_⟩;rcases q with q |⟨k,c',e,z'⟩
       . exact .inl q
       . refine .inr ⟨k,c',e,z'.sameBut hs ?_⟩;rintro rfl;exact hj (Mh hN e1 (I.ok.inj _ _ _ e hc ▸ hi))
   . by_cases ef:c'=c
     . subst ef;exact⟨_,fS⟩
     . obtain⟨w2,z2⟩:=I.cell y c' e;exact⟨w2,z2.sameBut hs ef⟩
   . obtain⟨e,n,ne,nf,d⟩:=I.pin p hp;refine⟨(hs.2 p.1 ?_).trans e,n,ne,nf,d⟩;intro q;rw[q,gJ]at e;have q':oc=p.2:=Option.some.inj e;exact d w' (by rw[<-q'];exact lQ)
theorem Mg(I:Inv X pins U H s)(hN:X.N.Nodup)(hi:X.N[i]?=some x)(hx:Loc X.env.scope x)(r:RelV v u)
  (h:∀s',Inv X pins (U.set i (some v)) H s'->Q () s') (hf:X.fn x=true\/X.env.scope.names.lookup x=some .local):wpAny M A (storeName X.env x u) Q E s:=
 Xw I hN hi hx r (fun s' I' _=>h s' I') hf
theorem Inv.call'(I:Inv X pins U H s)(ho:s'.os=s.os)(u:Un (frs X.stack) ch H H' s.heap s'.heap)(hok:HOk X.prog X.w H' s'.heap)(hg:AllBare s'.gens)
  (cH:∀b∈ch,(b∈X.ex\/X.s₀.heap.objs.size<=b)/\b≠X.env.locals/\(∀x c,X.env.cells.lookup x=some c->c≠b)/\∀p∈X.pn++pins,p.1≠b):Inv X pins U H' s':=by
 obtain⟨h',g',d',t',o'⟩:=s'
 have e:o'=s.os:=ho
 subst e
 exact I.call (g':=g') (t':=t') (d':=d') u hok hg cH
end
abbrev XK:=Value->Option Addr->Hp->Prop
abbrev St:=List (Option V)
abbrev VK:=V->Hp->Prop
abbrev TE:=St->Hp->VK->Prop
abbrev TT:=St->Hp->(Bool->Hp->Prop)->Prop
abbrev TA:=St->Hp->(List V->Hp->Prop)->Prop
structure Ends where
 nx:St->Hp->Prop
 rt:VK
 bk:St->Hp->Prop:=fun _ _=>False
 ct:St->Hp->Prop:=fun _ _=>False
abbrev TS:=Ends->St->Hp->Prop
def EP(X:Cx)(pins:List (Addr×Obj))(U:St)(Q:VK)(u:Value)(s':Shared):Prop:=∃v H',Inv X pins U H' s'/\RelV v u/\Q v H'
def TP(X:Cx)(pins:List (Addr×Obj))(U:St)(Q:Bool->Hp->Prop)(b:Bool)(s':Shared):Prop:=∃H',Inv X pins U H' s'/\Q b H'
def AP(X:Cx)(pins:List (Addr×Obj))(U:St)(Q:List V->Hp->Prop)(us:List Value)(s':Shared):Prop:=∃vs H',Inv X pins U H' s'/\Vals vs us/\Q vs H'
def SP(X:Cx)(pins:List (Addr×Obj))(D:Ends)(f:Flow)(s':Shared):Prop:=
 match f with
 | .next=>∃ak H',Inv X pins ak H' s'/\D.nx ak H'
 | .brk=>∃ak H',Inv X pins ak H' s'/\D.bk ak H'
 | .cont=>∃ak H',Inv X pins ak H' s'/\D.ct ak H'
 | .ret u=>∃v ak H',Inv X pins ak H' s'/\RelV v u/\D.rt v H'
def PE(X:Cx)(e:Expr)(t:TE):Prop:=
 ∀(pins:List (Addr×Obj))(s:Shared)(U:St)(H:Hp)(Q:VK),Inv X pins U H s->t U H Q->wpAny (model X.prog X.w) X.A (eval e X.env) (EP X pins U Q) X.xe s
def PT(X:Cx)(e:Expr)(t:TT):Prop:=
 ∀(pins:List (Addr×Obj))(s:Shared)(U:St)(H:Hp)(Q:Bool->Hp->Prop),Inv X pins U H s->t U H Q->wpAny (model X.prog X.w) X.A (isTrue e X.env (eval e X.env)) (TP X pins U Q) X.xe s
def PW(X:Cx)(e:Expr)(t:TT):Prop:=
 ∀(whole:Sem Value)(pins:List (Addr×Obj))(s:Shared)(U:St)(H:Hp)(Q:Bool->Hp->Prop),Inv X pins U H s->t U H Q->wpAny (model X.prog X.w) X.A (isTrue e X.env whole) (TP X pins U Q) X.xe s
theorem PW.pt(h:PW X e t):PT X e t:=h _
def PA(X:Cx)(es:List Expr)(t:TA):Prop:=
 ∀(pos:Pos)(pins:List (Addr×Obj))(s:Shared)(U:St)(H:Hp)(Q:List V->Hp->Prop),Inv X pins U H s->t U H Q->wpAny (model X.prog X.w) X.A (spliced (backTo pos (starEach es X.env))) (AP X pins U Q) X.xe s
def PS(X:Cx)(st:Stmt)(t:TS):Prop:=
 ∀(pins:List (Addr×Obj))(s:Shared)(U:St)(H:Hp)(D:Ends),Inv X pins U H s->t D U H->wpAny (model X.prog X.w) X.A (exec st X.env) (SP X pins D) X.xe s
def PSs(X:Cx)(st:List Stmt)(t:TS):Prop:=
 ∀(pins:List (Addr×Obj))(s:Shared)(U:St)(H:Hp)(D:Ends),Inv X pins U H s->t D U H->wpAny (model X.prog X.w) X.A (execs st X.env) (SP X pins D) X.xe s
theorem thn(h:wpAny M A t Q E s)(hQ:∀a s,Q a s->Q' a s):wpAny M A t Q' E s:=AJ h hQ fun _ _ x=>x
section
variable {X:Cx}
noncomputable def Qp(i:Nat):TE:=fun U H Q=>∃v,U[i]?=some (some v)/\Q v H
noncomputable def tC(v:V):TE:=fun _ H Q=>Q v H
theorem Bt(hN:X.N[i]?=some x)(hv:Vis X.env.scope x)(hd:(x==("__debug__":Str))=false:=by decide)(bp:(x==("__classdict__":Str))=false:=by decide):PE X (.Name x pos) (Qp i):=by
 intro pins s U H Q I h;obtain⟨v,e,h⟩:=h;obtain⟨m,hn,hl⟩:=I.loc;obtain⟨u,r,l⟩:=hl i x v hN e hv;have fin:EP X pins U Q u s:=⟨v,H,I,r,h⟩;rcases l with⟨hk,hm⟩ |⟨hk,c,hc,fF⟩
 . exact wpAny_Name (wpAny_loadName_local I.ok.kind hk hn hm fin) hd
 . rcases hk with hk |hk
   . exact wpAny_Name (wpAny_loadName_cell I.ok.kind hk hc fF fin) hd
   . exact wpAny_Name (wpAny_loadName_free I.ok.kind hk hc fF fin bp) hd
theorem pe_int:PE X (.Constant (.int i) j pos) (tC (.int i)):=fun _ _ _ H _ I h=>wpAny_Constant_int ⟨.int i,H,I.tok _,⟨_,rfl⟩,h⟩
theorem pe_bl:PE X (.Constant (.bool b) j pos) (tC (.bl b)):=fun _ _ _ H _ I h=>Constant_bool ⟨.bl b,H,I,rfl,h⟩
theorem pe_non:PE X (.Constant .none j pos) (tC .non):=fun _ _ _ H _ I h=>Constant_none ⟨.non,H,I,rfl,h⟩
theorem pe_str:PE X (.Constant (.str x) j pos) (tC (.str x)):=fun _ _ _ H _ I h=>Calls.Constant_str ⟨.str x,H,I.tok _,⟨_,rfl⟩,h⟩
def Gl(X:Cx)(x:Str):Prop:=X.env.kindOf x=some .globalImplicit
theorem U8(I:Inv X pins U H s)(hg:Gl X x)(hm:X.mg x=some u)(h:Q u s)
  (hd:(x==("__debug__":Str))=false:=by decide):wpAny (model X.prog X.w) X.A (eval (.Name x pos) X.env) Q E s:=
 Calls.Name_function_global I.ok.kind hg (Calls.loadGlobal_global (by rw[I.ok.glob];exact I.mod.glob.keeps I.bk) hm h) hd
theorem Bs(I:Inv X pins U H s)(hg:Gl X x)(hm:X.mg x=none)(hv:bootBuiltins x=some u)(h:Q u s)
  (hn:x≠"__name__":=by decide) (hd:(x==("__debug__":Str))=false:=by decide):wpAny (model X.prog X.w) X.A (eval (.Name x pos) X.env) Q E s:=by
 obtain⟨mb,h1,h2⟩:=I.mod.blt
 exact Calls.Name_function_global I.ok.kind hg (Calls.loadGlobal_builtin (by rw[I.ok.glob];exact I.mod.glob.keeps I.bk) hm (by rw[I.ok.blt];exact h1.keeps I.bk) ((h2 x hn).trans hv) h) hd
theorem w6(hg:Gl X x)(hm:X.mg x=some u)(r:RelV v u)(hd:(x==("__debug__":Str))=false:=by decide):PE X (.Name x pos) (tC v):=
 fun _ _ _ H _ I h=>U8 I hg hm ⟨v,H,I,r,h⟩ hd
theorem Z1(hg:Gl X x)(hm:X.mg x=none)(hv:bootBuiltins x=some u)(r:RelV v u)(hn:x≠"__name__":=by decide)(hd:(x==("__debug__":Str))=false:=by decide):PE X (.Name x pos) (tC v):=
 fun _ _ _ H _ I h=>Bs I hg hm hv ⟨v,H,I,r,h⟩ hn hd
variable {a b:Expr}{ta tb:TE}{pos:Pos}
variable {tA gK:TT}{rest:List Expr}
noncomputable def kY(t u:TT):TT:=fun U H Q=>t U H fun c H1=>if c=true then u U H1 Q else Q false H1
noncomputable def tOr(t u:TT):TT:=fun U H Q=>t U H fun c H1=>if c=true then Q true H1 else u U H1 Q
noncomputable def kX(t:TT):TT:=fun U H Q=>t U H fun c H1=>Q (!c) H1
theorem xH(ha:PT X a tA):PW X (.BoolOp .And [a] pos) tA:=by
 intro wh pins s U H Q I h;refine isTrue_and (thn (ha pins s U H Q I h) fun c s1 e=>?_);cases c with
 |true=>exact isTrue_and_nil e
 |false=>exact e
theorem vA(ha:PT X a tA):PW X (.BoolOp .Or [a] pos) tA:=by
 intro wh pins s U H Q I h;refine isTrue_or (thn (ha pins s U H Q I h) fun c s1 e=>?_);cases c with
 |false=>exact isTrue_or_nil e
 |true=>exact e
theorem vz(ha:PT X a tA)(hb:PW X (.BoolOp .And (b::rest) pos) gK):PW X (.BoolOp .And (a::b::rest) pos) (kY tA gK):=by
 intro wh pins s U H Q I h;refine isTrue_and (thn (ha pins s U H _ I h) fun c s1 ⟨H1,I1,q1⟩=>?_);cases c with
 |true=>exact hb wh pins s1 U H1 Q I1 q1
 |false=>exact⟨H1,I1,q1⟩
theorem y2p(ha:PT X a tA)(hb:PW X (.BoolOp .Or (b::rest) pos) gK):PW X (.BoolOp .Or (a::b::rest) pos) (tOr tA gK):=by
 intro wh pins s U H Q I h;refine isTrue_or (thn (ha pins s U H _ I h) fun c s1 ⟨H1,I1,q1⟩=>?_);cases c with
 |true=>exact⟨H1,I1,q1⟩
 |false=>exact hb wh pins s1 U H1 Q I1 q1
theorem vy(ha:PT X a tA):PT X (.UnaryOp .Not a pos) (kX tA):=by intro pins s U H Q I h;exact isTrue_not (ha pins s U H (fun c H1=>Q (!c) H1) I h)
theorem vx(h:PE X a t):PE X (.BoolOp op [a] pos) t:=fun pins s U H Q I hw=>BoolOp_one (h pins s U H Q I hw)
noncomputable def tIf(t:TT)(ta tb:TE):TE:=fun U H Q=>t U H fun c H1=>if c=true then ta U H1 Q else tb U H1 Q
theorem yV(hc:PT X c tA)(ha:PE X a ta)(hb:PE X b tb):PE X (.IfExp c a b pos) (tIf tA ta tb):=by
 intro pins s U H Q I h;refine wpAny_IfExp (thn (hc pins s U H _ I h) fun d s1 ⟨H1,I1,q1⟩=>?_);cases d with
 |true=>exact ha pins s1 U H1 Q I1 q1
 |false=>exact hb pins s1 U H1 Q I1 q1
end
def SqL(K:Frag)(H:Hp)(a:Addr)(xs:List V):Prop:=
 Rd H a (.lst xs) \/
  ∃(o:Obj)(its:Array Value)(n:Nat),K.lookup a=some o/\o.cls=.type "list"/\o.dict=none/\o.data=.seq its n/\its.size<=sizeLine/\Vals xs its.toList
def SqT(K:Frag)(H:Hp)(a:Addr)(xs:List V):Prop:=
 Rd H a (.tup xs) \/
  ∃(o:Obj)(its:Array Value)(n:Nat),K.lookup a=some o/\o.cls=.type "tuple"/\o.data=.seq its n/\its.size<=sizeLine/\Vals xs its.toList
noncomputable def kW:Value->Option V
 | .none=>some .non
 | .bool b=>some (.bl b)
 | .int i _=>some (.int i)
 | .str x _=>some (.str x)
 | .bytes b _=>some (.byt b)
 | .float b _=>some (.flt b)
 | .ref a=>some (.ref a)
 | .type n=>some (.ty n)
 |_=>none
theorem RelV.abs(r:RelV x u):kW u=some x:=by
 cases x with
 |non=>cases r;rfl
 |bl _=>cases r;rfl
 |int _=>obtain⟨t,rfl⟩:=r;rfl
 |str _=>obtain⟨t,rfl⟩:=r;rfl
 |byt _=>obtain⟨t,rfl⟩:=r;rfl
 |flt _=>obtain⟨t,rfl⟩:=r;rfl
 |ref _=>cases r;rfl
 |ty _=>cases r;rfl
theorem RelV.inj(r:RelV x u)(q:RelV y u):x=y:=Option.some.inj (r.abs.symm.trans q.abs)
theorem Vals.inj:∀{xs ys:List V}{us:List Value},Vals xs us->Vals ys us->xs=ys
 |_,_,_,.nil,.nil=>rfl
 |_,_,_,.cons r t,.cons r' t'=>by rw[r.inj r',Vals.inj t t']
section
variable {X:Cx}{pins:List (Addr×Obj)}{U:St}{H:Hp}{s:Shared}{a:Addr}{xs ys:List V}
theorem SqL.of{K:Frag}(h:H a=some (.lst xs)):SqL K H a xs:=.inl (.inl h)
theorem SqT.of{K:Frag}(h:H a=some (.tup xs)):SqT K H a xs:=.inl (.inl h)
theorem Inv.list(I:Inv X pins U H s)(h:SqL X.K H a xs):∃its:List Value,Vals xs its/\PlainL s.heap a its.toArray/\xs.length<=sizeLine:=by
 rcases h with h |⟨o,its,n,hk,hc,hd,hs,hz,r⟩
 . obtain⟨z,its,n,r,e⟩:=h.ok I.hok;exact⟨its,r,⟨_,n,e,rfl,rfl,rfl⟩,z⟩
 . refine⟨its.toList,r,⟨o,n,I.kIn a o hk,hc,hd,by simpa using hs⟩,?_⟩;have e:=r.length;simp only[BB]at e
   lia
theorem Inv.tuple(I:Inv X pins U H s)(h:SqT X.K H a xs):∃its:List Value,Vals xs its/\IsTup s.heap a its.toArray/\xs.length<=sizeLine:=by
 rcases h with h |⟨o,its,n,hk,hc,hs,hz,r⟩
 . obtain⟨z,its,r,p⟩:=h.ok I.hok;exact⟨its,r,p.tup,z⟩
 . refine⟨its.toList,r,⟨o,I.kIn a o hk,hc,n,by simpa using hs⟩,?_⟩;have e:=r.length;simp only[BB]at e
   lia
theorem Inv.list_inj(I:Inv X pins U H s)(h:SqL X.K H a xs)(h':SqL X.K H a ys):xs=ys:=by
 obtain⟨its,r,⟨o,n,e,_,_,d⟩,_⟩:=I.list h;obtain⟨its',r',⟨o',n',e',_,_,d'⟩,_⟩:=I.list h';rw[e]at e';cases e';rw[d]at d';injection d' with d1 _;have:its=its':=by simpa using BG Array.toList d1
 subst this;exact r.inj r'
theorem Inv.tuple_inj(I:Inv X pins U H s)(h:SqT X.K H a xs)(h':SqT X.K H a ys):xs=ys:=by
 obtain⟨its,r,⟨o,e,_,n,d⟩,_⟩:=I.tuple h;obtain⟨its',r',⟨o',e',_,n',d'⟩,_⟩:=I.tuple h';rw[e]at e';cases e';rw[d]at d';injection d' with d1 _;have:its=its':=by simpa using BG Array.toList d1
 subst this;exact r.inj r'
end
abbrev Cx.wish(X:Cx)(E:Value->Shared->Prop):Cx:={ X with xe:=E }
abbrev Cx.nox(X:Cx):Cx:=X.wish fun _ _=>False
theorem Cx.Ok.wish{X:Cx}(ok:X.Ok)(E:Value->Shared->Prop):(X.wish E).Ok:=
 ⟨ok.mod,ok.kind,ok.glob,ok.blt,ok.above,ok.inj,ok.has,ok.cab,ok.hd,ok.frames,ok.stk,ok.exf,ok.bs,ok.bsz,ok.noex,ok.exfs,ok.funs,ok.frf⟩
theorem Cx.Ok.unwish{X:Cx}{E:Value->Shared->Prop}(ok:(X.wish E).Ok):X.Ok:=
 ⟨ok.mod,ok.kind,ok.glob,ok.blt,ok.above,ok.inj,ok.has,ok.cab,ok.hd,ok.frames,ok.stk,ok.exf,ok.bs,ok.bsz,ok.noex,ok.exfs,ok.funs,ok.frf⟩
section
variable {X:Cx}{pins:List (Addr×Obj)}{U:St}{H:Hp}{s:Shared}{E:Value->Shared->Prop}
theorem Inv.wish(I:Inv X pins U H s)(E:Value->Shared->Prop):Inv (X.wish E) pins U H s:=⟨I.ok.wish E,I.os,I.bare,I.base,I.loc,I.cell,I.free,I.freeC,I.pin,I.hok,I.len⟩
theorem Inv.unwish(I:Inv (X.wish E) pins U H s):Inv X pins U H s:=⟨I.ok.unwish,I.os,I.bare,I.base,I.loc,I.cell,I.free,I.freeC,I.pin,I.hok,I.len⟩
theorem SP.unwish(h:SP (X.wish E) pins D f s'):SP X pins D f s':=by
 cases f with
 |next=>obtain⟨ak,H',I,q⟩:=h;exact⟨ak,H',I.unwish,q⟩
 |brk=>obtain⟨ak,H',I,q⟩:=h;exact⟨ak,H',I.unwish,q⟩
 |cont=>obtain⟨ak,H',I,q⟩:=h;exact⟨ak,H',I.unwish,q⟩
 |ret u=>obtain⟨v,ak,H',I,r,q⟩:=h;exact⟨v,ak,H',I.unwish,r,q⟩
theorem PE.nox(h:PE X.nox e t):PE X e t:=fun pins s U H Q I hw=>
 AJ (h pins s U H Q (I.wish _) hw) (fun _ _ ⟨v,H',I',r,q⟩=>⟨v,H',I'.unwish,r,q⟩) fun _ _ z=>False.elim z
theorem PT.nox(h:PT X.nox e t):PT X e t:=fun pins s U H Q I hw=>
 AJ (h pins s U H Q (I.wish _) hw) (fun _ _ ⟨H',I',q⟩=>⟨H',I'.unwish,q⟩) fun _ _ z=>False.elim z
theorem PSs.nox{st:List Stmt}{t:TS}(h:PSs X.nox st t):PSs X st t:=fun pins s U H D I hw=>
 AJ (h pins s U H D (I.wish _) hw) (fun _ _ q=>q.unwish) fun _ _ z=>False.elim z
end
section
variable {X:Cx}{st:Stmt}{rest:List Stmt}{t u:TS}{e:Expr}{te:TE}{pos:Pos}
noncomputable def Rn:TS:=fun D U H=>D.nx U H
noncomputable def kU(t u:TS):TS:=fun D U H=>t { D with nx:=u D } U H
theorem pss_nil:PSs X [] Rn:=fun _ _ U H _ I h=>DT ⟨U,H,I,h⟩
theorem Wx(h1:PS X st t)(h2:PSs X rest u):PSs X (st::rest) (kU t u):=by
 intro pins s U H D I h;refine wpAny_execs_cons (thn (h1 pins s U H { D with nx:=u D } I h) fun f s1 q=>?_);cases f with
 |next=>
  obtain⟨ak,H',I',q⟩:=q
  exact h2 pins s1 ak H' D I' q
 |ret v=>exact q
 |brk=>exact q
 |cont=>exact q
theorem xG(h1:PS X st t):PSs X [st] t:=by
 intro pins s U H D I h;refine wpAny_execs_cons (thn (h1 pins s U H D I h) fun f s1 q=>?_);cases f with
 |next=>exact DT q
 |ret v=>exact q
 |brk=>exact q
 |cont=>exact q
theorem Inv.quiet(I:Inv X pins U H s):interactive X.env=false:=by simp[interactive,I.ok.kind]
noncomputable def Ef(te:TE):TS:=fun D U H=>te U H fun _ H1=>D.nx U H1
theorem Vt(he:PE X e te)(hs:swapsWith e none pos.line X.env=pure false:=by rfl):PS X (.Expr e pos) (Ef te):=by intro pins s U H D I h;exact wpAny_Expr_any (thn (he pins s U H _ I h) fun v s1 ⟨x,H1,I1,r1,q1⟩=>⟨U,H1,I1,q1⟩) I.quiet hs
noncomputable def Qo(te:TE):TS:=fun D U H=>te U H D.rt
theorem Tt(he:PE X e te):PS X (.Return (some e) pos) (Qo te):=by intro pins s U H D I h;exact wpAny_Return_some (thn (he pins s U H _ I h) fun v s1 ⟨x,H1,I1,r1,q1⟩=>⟨x,U,H1,I1,r1,q1⟩)
noncomputable def kT(c:TT)(t u:TS):TS:=fun D U H=>c U H fun b H1=>if b=true then t D U H1 else u D U H1
theorem y2r(hc:PT X c tc)(ha:PSs X a t)(hb:PSs X b u):PS X (.If c a b pos) (kT tc t u):=by
 intro pins s U H D I h;refine wpAny_If (thn (hc pins s U H _ I h) fun d s1 ⟨H1,I1,q1⟩=>?_);cases d with
 |true=>exact ha pins s1 U H1 D I1 q1
 |false=>exact hb pins s1 U H1 D I1 q1
end
abbrev TG:=V->St->Hp->(St->Hp->Prop)->Prop
abbrev TGs:=List V->St->Hp->(St->Hp->Prop)->Prop
def PG(X:Cx)(target:Expr)(t:TG):Prop:=
 ∀(pins:List (Addr×Obj))(s:Shared)(U:St)(H:Hp)(v:V)(u:Value)(Q:St->Hp->Prop),Inv X pins U H s->RelV v u->t v U H Q ->
  wpAny (model X.prog X.w) X.A (assign target X.env u) (fun _ s'=>∃ak H',Inv X pins ak H' s'/\Q ak H') X.xe s
def PGs(X:Cx)(ts:List Expr)(t:TGs):Prop:=
 ∀(pins:List (Addr×Obj))(s:Shared)(U:St)(H:Hp)(vs:List V)(us:List Value)(Q:St->Hp->Prop),Inv X pins U H s->Vals vs us->t vs U H Q ->
  wpAny (model X.prog X.w) X.A (assignInOrder ((assignEach ts X.env).map (·.2)) us) (fun _ s'=>∃ak H',Inv X pins ak H' s'/\Q ak H') X.xe s
section
variable {X:Cx}{pos:Pos}
noncomputable def E7(i:Nat):TG:=fun v U H Q=>Q (U.set i (some v)) H
theorem Lk(hN:X.N.Nodup)(hi:X.N[i]?=some x)(hx:Loc X.env.scope x)(hf:X.fn x=true\/X.env.scope.names.lookup x=some .local):PG X (.Name x pos) (E7 i):=by intro pins s U H v u Q I r h;exact wpAny_assign_Name (Mg I hN hi hx r (fun s' I'=>⟨_,H,I',h⟩) hf)
noncomputable def Qn:TGs:=fun vs U H Q=>vs=[]/\Q U H
noncomputable def Bk(t:TG)(u:TGs):TGs:=fun vs U H Q=>∃v r,vs=v::r/\t v U H fun ak H'=>u r ak H' Q
theorem pgs_nil:PGs X [] Qn:=by intro pins s U H vs us Q I r h;obtain⟨e,h⟩:=h;subst e;cases r;exact assignInOrder_nil ⟨U,H,I,h⟩
theorem Mf(h1:PG X e t)(h2:PGs X es u)
  (hs:(assignEach (e::es) X.env).map (·.2)=assign e X.env::(assignEach es X.env).map (·.2):=by rfl):PGs X (e::es) (Bk t u):=by
 intro pins s U H vs us Q I r h
 obtain⟨v,vr,e1,h⟩:=h
 subst e1
 cases r with
 |cons r rr=>
  rw[hs]
  refine assignInOrder_cons (thn (h1 pins s U H _ _ _ I r h) fun _ s1 ⟨ff,H1,I1,q1⟩=>?_)
  exact h2 pins s1 ff H1 _ _ Q I1 rr q1
def Qm(K:Frag)(n:Nat)(t:TGs):TG:=fun v U H Q=>∃a xs,v=.ref a/\SqT K H a xs/\xs.length=n/\t xs U H Q
theorem Ts(hc:X.calm=true)(h:PGs X es t)
  (hn:(assignEach es X.env).length=n:=by rfl) (aJ:(assignEach es X.env).findIdx? (·.1)=none:=by rfl):PG X (.Tuple es k pos) (Qm X.K n t):=by
 intro pins s U H v u Q I r hw
 obtain⟨a,xs,e1,hq,hl,hw⟩:=hw
 subst e1
 cases r
 obtain⟨its,rv,ht,hz⟩:=I.tuple hq
 refine assign_Tuple_tuple (I.ok.hd hc) ht (by simp[hn,<-hl,rv.length]) aJ fun h' hx=>?_
 have I1:Inv X pins U H { s with heap:=h' }:=I.kept (t':=s.toks) fun b o e=>hx b o (AG (τ e)) e
 exact h pins _ U H xs _ Q I1 (by simpa using rv) hw
noncomputable def T1(te:TE)(g:TG):TS:=fun D U H=>te U H fun x H1=>g x U H1 D.nx
theorem vw(hN:X.N.Nodup)(hi:X.N[i]?=some x)(hx:Loc X.env.scope x)(he:PE X e te)(hs:swapsWith e (some (.Name x cD)) pos.line X.env=pure false:=by rfl)(hf:X.fn x=true\/X.env.scope.names.lookup x=some .local) :
  PS X (.Assign [.Name x cD] e pos) (T1 te (E7 i)):=by
 intro pins s U H D I h
 refine wpAny_Assign_Name (thn (he pins s U H _ I h) fun v s1 ⟨y,H1,I1,r1,q1⟩=>?_) hs
 exact Mg I1 hN hi hx r1 (fun s2 I2=>⟨_,H1,I2,q1⟩) hf
end
section
variable {X:Cx}{pos:Pos}
noncomputable def Tr(c:TT)(tb:TS):TS:=fun D U H=>∃W:Nat->St->Hp->Prop,(∃m,W m U H)/\∀m U H,W m U H ->
 c U H fun b H1=>if b=true then ∃N:St->Hp->Prop,(∀ak H',N ak H'->∃m',m'<m/\W m' ak H')/\tb { D with nx:=N,ct:=N,bk:=D.nx } U H1 else D.nx U H1
theorem yU(hp:PassesOwn (model X.prog X.w) X.A X.env X.xe)(hc:PT X c tc)(hb:PSs X body tb):PS X (.While c body [] pos) (Tr tc tb):=by
 intro pins s U H D I h;obtain⟨W,⟨m0,w0⟩,turn⟩:=h;refine wpAny_While (codeAny_whileLoop (fun n s'=>∃ak H',Inv X pins ak H' s'/\W n ak H') ?_ m0 ⟨U,H,I,w0⟩);rintro n s1 ⟨ff,H1,I1,w1⟩;refine DA hp (thn (hc pins s1 ff H1 _ I1 (turn n ff H1 w1)) fun b s2 ⟨H2,I2,q2⟩=>?_);cases b with
 |true=>
  obtain⟨N,hN,q2⟩:=q2
  rw[ζ rfl]
  refine DA hp (thn (hb pins s2 ff H2 _ I2 q2) fun f s3 q3=>?_)
  cases f with
  |next=>
   obtain⟨cT,H3,I3,n3⟩:=q3
   obtain⟨m',hm,w3⟩:=hN cT H3 n3
   exact⟨m',hm,cT,H3,I3,w3⟩
  |cont=>
   obtain⟨cT,H3,I3,n3⟩:=q3
   obtain⟨m',hm,w3⟩:=hN cT H3 n3
   exact⟨m',hm,cT,H3,I3,w3⟩
  |brk=>exact q3
  |ret v=>exact q3
 |false=>
  rw[ξ θ]
  exact DT ⟨ff,H2,I2,q2⟩
end
structure It where
 go:Nat->Hp->Prop
 yld:Nat->Hp->V->Hp->Prop
 stop:Nat->Hp->Prop
def J6(X:Cx)(pins:List (Addr×Obj))(H:Hp)(b:Addr):Prop:=
 H b=none/\b≠X.env.locals/\b∉X.fs/\(b∈X.ex\/X.s₀.heap.objs.size<=b)/\(∀x c,X.env.cells.lookup x=some c->c≠b)/\∀p∈X.pn++pins,p.1≠b
theorem Inv.fpOk(I:Inv X pins U H s)(hb:s.heap.objs.size<=b)(hn:H' b=none):J6 X pins H' b:=by
 refine⟨hn,Nat.ne_of_gt (AD I.lt hb),I.nofs hb,.inr (AA I.sz hb),fun x c e z=>?_,fun p hp z=>?_⟩
 . obtain⟨v,q⟩:=I.cell x c e;exact absurd (AD q.lt (by rw[z];exact hb)) (CH _)
 . exact absurd (AD (τ (I.pin p hp).1) (by rw[z];exact hb)) (CH _)
structure Turn(P:Program)(w:World)(K:Frag)(tg:Expr)(J:It)(fp:List Addr)(it:Addr)(tn:Nat->Heap->Prop):Prop where
 mem:it∈fp
 obj:∀i h,tn i h->∀b∈fp,∃o,h.get? b=some o/\∀v,o.data≠.cell v
 keep:∀i h h',tn i h->(∀b∈fp,∀o,h.get? b=some o->h'.get? b=some o)->tn i h'
 item:∀(X:Cx),X.prog=P->X.w=w->X.K=K->X.calm=true->∀(i:Nat)(pins:List (Addr×Obj))(s:Shared)(U:St)(H:Hp)(E:Value->Shared->Prop),Inv X pins U H s->(∀b∈fp,J6 X pins H b)->tn i s.heap->J.go i H ->
  wpAny (model P w) X.A (pyNext (.ref it)) (fun r s1=>∃u,r=some u /\
   wpAny (model P w) X.A (letOwnedTupleGo tg (.ref it) u) (fun _ s2=>∃x H',Inv X pins U H' s2/\RelV x u/\J.yld i H x H'/\tn (i+1) s2.heap/\∀b∈fp,H' b=none) E s1) E s
 done:∀(X:Cx),X.prog=P->X.w=w->X.K=K->X.calm=true->∀(i:Nat)(pins:List (Addr×Obj))(s:Shared)(U:St)(H:Hp)(E:Value->Shared->Prop),Inv X pins U H s->(∀b∈fp,J6 X pins H b)->tn i s.heap->J.stop i H ->
  wpAny (model P w) X.A (pyNext (.ref it)) (fun r s1=>r=none/\Inv X pins U H s1) E s
 self:∀(A:Around)(i:Nat)(s:Shared)(Q:Value->Shared->Prop)(E:Value->Shared->Prop),tn i s.heap->Q (.ref it) s->wpAny (model P w) A (pyIter (.ref it)) Q E s
abbrev TI:=St->Hp->(It->Hp->Prop)->Prop
def PIE(X:Cx)(pins:List (Addr×Obj))(U:St)(tg:Expr)(R:It->Hp->Prop)(fT:Value)(s2:Shared):Prop:=
 ∃(it:Addr)(fp:List Addr)(tn:Nat->Heap->Prop)(J:It)(H':Hp),fT=.ref it/\Inv X pins U H' s2/\Turn X.prog X.w X.K tg J fp it tn/\tn 0 s2.heap/\(∀b∈fp,J6 X pins H' b)/\R J H'
def PI(X:Cx)(tg iter:Expr)(wi:TI):Prop:=
 ∀(pins:List (Addr×Obj))(s:Shared)(U:St)(H:Hp)(R:It->Hp->Prop),Inv X pins U H s->wi U H R ->
  wpAny (model X.prog X.w) X.A (eval iter X.env) (fun v s1=>wpAny (model X.prog X.w) X.A (pyIter v) (PIE X pins U tg R) X.xe s1) X.xe s
theorem Ee(ho:s.heap.get? it=some o)(hc:o.cls=.type n)(hd:o.data=.fields vs)
  (hn:["enumerate","zip","dict_itemiterator","dict_reverseitemiterator","odict_iterator","itertools.zip_longest","itertools.pairwise"].contains n=false) (hQ:Q () s):wpAny M A (letOwnedTupleGo tg (.ref it) u) Q E s:=by
 unfold letOwnedTupleGo
 cases tg<;>first
  |exact γ hQ
  | (cases u<;>first
   |exact γ hQ
   | (refine χ (wpAny_load ho ?_)
      rw[hc,hd]
      show wpAny M A (if(["enumerate","zip","dict_itemiterator","dict_reverseitemiterator","odict_iterator","itertools.zip_longest","itertools.pairwise"].contains n&&vs[0]?==some (rawInt _))=true then _ else _) Q E s
      rw[ξ (by intro h;rw[hn,Bool.false_and]at h;cases h)]
      exact γ hQ))
def Itl(K:Frag)(a:Addr):It:=
 ⟨fun i H=>∃xs x,SqL K H a xs/\xs[i]?=some x,fun i H x H'=>H'=H/\∀xs,SqL K H a xs->xs[i]?=some x,fun i H=>∃xs,SqL K H a xs/\xs.length<=i⟩
def Itt(K:Frag)(a:Addr):It:=
 ⟨fun i H=>∃xs x,SqT K H a xs/\xs[i]?=some x,fun i H x H'=>H'=H/\∀xs,SqT K H a xs->xs[i]?=some x,fun i H=>∃xs,SqT K H a xs/\xs.length<=i⟩
noncomputable def Itr(lo:Int)(n:Nat):It:=⟨fun i _=>i<n,fun i H x H'=>H'=H/\x=.int (lo+i),fun i _=>n<=i⟩
theorem zR{P:Program}{w:World}{K:Frag}{tg:Expr}(a it:Addr):Turn P w K tg (Itl K a) [it] it (fun i h=>h.IsListIter it a i) where
 mem:=by simp
 obj:=fun i h st b hb=>by
  have e:b=it:=by simpa using hb
  subst e;obtain⟨o,e,c,d⟩:=st;exact⟨o,e,fun v z=>by rw[d]at z;cases z⟩
 keep:=fun i h h' st k=>st.at fun o e=>k it (by simp) o e
 item:=by
  intro X hP hw hK hc i pins s U H E I hf st hg;subst hP hw hK;obtain⟨xs,x,hq,hx⟩:=hg;obtain⟨its,rv,p,hz⟩:=I.list hq;obtain⟨u,hu,ru⟩:=rv.get hx;obtain⟨f0,f1,f2,f3,f4,f5⟩:=hf it (by simp);refine wpAny_pyNext_list_item st p.isList (x:=u) (by simpa using hu) fun h' st' sb=>?_
  have I1:Inv X pins U H { s with heap:=h' }:=I.turned (t':=s.toks) (fun b o hb e=>(sb.2 b hb).trans e) f0 f1 f3 f4 f5;obtain⟨o,e,c,d⟩:=id st';exact⟨u,rfl,Ee (s:={ s with heap:=h' }) e c d (by decide) ⟨x,H,I1,ru,⟨rfl,fun ys hy=>by rw[I.list_inj hy hq];exact hx⟩,st',fun b hb=>(hf b hb).1⟩⟩
 done:=by intro X hP hw hK hc i pins s U H E I hf st hg;subst hP hw hK;obtain⟨xs,hq,hx⟩:=hg;obtain⟨its,rv,p,hz⟩:=I.list hq;obtain⟨f0,f1,f2,f3,f4,f5⟩:=hf it (by simp);have hl:=rv.length;exact wpAny_pyNext_list_end (I.ok.hd hc) st p.isList (by simp;lia) fun h' eb=>⟨rfl,I.turned (t':=s.toks) (fun b o hb e=>eb b o hb e) f0 f1 f3 f4 f5⟩
 self:=fun _ _ _ _ _ st h=>wpAny_pyIter_listiter st h
theorem zio{P:Program}{w:World}{K:Frag}{tg:Expr}(a it:Addr):Turn P w K tg (Itt K a) [it] it (fun i h=>h.IsTupleIter it a i) where
 mem:=by simp
 obj:=fun i h st b hb=>by
  have e:b=it:=by simpa using hb
  subst e;obtain⟨o,e,c,d⟩:=st;exact⟨o,e,fun v z=>by rw[d]at z;cases z⟩
 keep:=fun i h h' st k=>st.at fun o e=>k it (by simp) o e
 item:=by
  intro X hP hw hK hc i pins s U H E I hf st hg;subst hP hw hK;obtain⟨xs,x,hq,hx⟩:=hg;obtain⟨its,rv,p,hz⟩:=I.tuple hq;obtain⟨u,hu,ru⟩:=rv.get hx;obtain⟨f0,f1,f2,f3,f4,f5⟩:=hf it (by simp);refine wpAny_pyNext_tuple_item st (show s.heap.IsTuple a its.toArray from p) (x:=u) (by simpa using hu) fun h' st' sb=>?_
  have I1:Inv X pins U H { s with heap:=h' }:=I.turned (t':=s.toks) (fun b o hb e=>(sb.2 b hb).trans e) f0 f1 f3 f4 f5;obtain⟨o,e,c,d⟩:=id st';exact⟨u,rfl,Ee (s:={ s with heap:=h' }) e c d (by decide) ⟨x,H,I1,ru,⟨rfl,fun ys hy=>by rw[I.tuple_inj hy hq];exact hx⟩,st',fun b hb=>(hf b hb).1⟩⟩
 done:=by intro X hP hw hK hc i pins s U H E I hf st hg;subst hP hw hK;obtain⟨xs,hq,hx⟩:=hg;obtain⟨its,rv,p,hz⟩:=I.tuple hq;obtain⟨f0,f1,f2,f3,f4,f5⟩:=hf it (by simp);have hl:=rv.length;exact wpAny_pyNext_tuple_end (I.ok.hd hc) st (show s.heap.IsTuple a its.toArray from p) (by simp;lia) fun h' eb=>⟨rfl,I.turned (t':=s.toks) (fun b o hb e=>eb b o hb e) f0 f1 f3 f4 f5⟩
 self:=fun _ _ _ _ _ st h=>wpAny_pyIter_tupleiter st h
theorem ziq{P:Program}{w:World}{K:Frag}{tg:Expr}(it:Addr)(lo:Int)(n:Nat):Turn P w K tg (Itr lo n) [it] it (fun i h=>IsRangeIter h it (lo+(i:Nat) * 1) ((n:Int) - (i:Nat)) 1) where
 mem:=by simp
 obj:=fun i h st b hb=>by
  have e:b=it:=by simpa using hb
  subst e;exact⟨_,st,fun v z=>by have z':Data.fields _=Data.cell v:=z;cases z'⟩
 keep:=fun i h h' st k=>k it (by simp) _ st
 item:=by
  intro X hP hw hK hc i pins s U H E I hf st hg;subst hP hw hK;obtain⟨f0,f1,f2,f3,f4,f5⟩:=hf it (by simp);have W:=Walks.range (prog:=X.prog) (w:=X.w) (I.ok.hd hc) it lo 1 n;refine W.item i s _ _ hg st fun v h' tk hv st' kk=>?_
  obtain⟨t,rfl⟩:=hv;have I1:Inv X pins U H { s with heap:=h',toks:=tk }:=I.turned (fun b o hb e=>kk b o (by simpa using hb) e) f0 f1 f3 f4 f5;refine⟨_,rfl,Ee (s:={ s with heap:=h',toks:=tk }) (n:="range_iterator") st' rfl rfl (by decide) ⟨.int (lo+i),H,I1,⟨t,?_⟩,⟨rfl,rfl⟩,st',fun b hb=>(hf b hb).1⟩⟩;rw[Int.mul_one]
 done:=by intro X hP hw hK hc i pins s U H E I hf st hg;subst hP hw hK;obtain⟨f0,f1,f2,f3,f4,f5⟩:=hf it (by simp);exact wpAny_pyNext_range_end (I.ok.hd hc) st (by have:n<=i:=hg;lia) fun h' eb=>⟨rfl,I.turned (t':=s.toks) (fun b o hb e=>eb b o hb e) f0 f1 f3 f4 f5⟩
 self:=fun _ _ _ _ _ st h=>wpAny_pyIter_rangeiter st h
section
variable {X:Cx}{tg:Expr}
theorem yT{pins:List (Addr×Obj)}{U:St}{H:Hp}{s:Shared}{R:It->Hp->Prop}{E:Value->Shared->Prop}{lo hi:Int}{t u v:Tok}{tk:Nat}(I:Inv X pins U H s)(h1:-(2 ^ 62)<=lo)(h2:lo<2 ^ 62)(h3:-(2 ^ 62)<=hi)(h4:hi<2 ^ 62)
  (q:R (Itr lo (hi - lo).toNat) H):wpAny (model X.prog X.w) X.A (pyIter (.ref s.heap.objs.size)) (PIE X pins U tg R) E { s with heap:=s.heap.push { cls:=.type "range",data:=.fields #[.int lo t,.int hi u,.int 1 v] },toks:=tk }:=by
 refine wpAny_pyIter_range (IsRange.new ..) (small_one h1 h2 h3 h4) ?_
 have I1:Inv X pins U H { s with heap:=s.heap.push { cls:=.type "range",data:=.fields #[.int lo t,.int hi u,.int 1 v] },toks:=tk }:=I.kept fun b o e=>ω _ e
 refine⟨(s.heap.push { cls:=.type "range",data:=.fields #[.int lo t,.int hi u,.int 1 v] }).objs.size,[(s.heap.push { cls:=.type "range",data:=.fields #[.int lo t,.int hi u,.int 1 v] }).objs.size],_,_,H,rfl,
  I1.kept (t':=tk) fun b o e=>ω _ e,ziq _ lo (hi - lo).toNat,?_,fun b hb=>?_,q⟩
 . have e1:lo+((0:Nat):Int) * 1=lo:=by simp
   have e2:(((hi - lo).toNat:Nat):Int) - ((0:Nat):Int)=Builtin.Range.rangeSize lo hi 1:=by rw[rangeSize_one];split<;>lia
   show IsRangeIter _ _ (lo+((0:Nat):Int) * 1) ((((hi - lo).toNat:Nat):Int) - ((0:Nat):Int)) 1;rw[e1,e2];exact π _ rfl
 . have e:b=(s.heap.push { cls:=.type "range",data:=.fields #[.int lo t,.int hi u,.int 1 v] }).objs.size:=by simpa using hb
   subst e;exact I1.fpOk (η _) (I1.hok.fresh (η _))
noncomputable def y7k(wi:TI)(g:TG)(tb:TS):TS:=fun D U H=>wi U H fun J H1=>∃W:Nat->Nat->St->Hp->Prop,(∃m,W 0 m U H1)/\∀i m U H,W i m U H ->
 (J.stop i H/\D.nx U H)\/(J.go i H/\∃N:St->Hp->Prop,(∀ak H',N ak H'->∃m',m'<m/\W (i+1) m' ak H')/\∀x H',J.yld i H x H'->g x U H' fun bC H2=>tb { D with nx:=N,ct:=N,bk:=D.nx } bC H2)
noncomputable def Br(fp:List Addr)(h:Heap):List (Addr×Obj):=fp.filterMap fun b=>(h.get? b).map fun o=>(b,o)
theorem Gc(hb:b∈fp)(e:h.get? b=some o):(b,o)∈Br fp h:=CD.mpr ⟨b,hb,by rw[e];rfl⟩
theorem zQ(hp:p∈Br fp h):p.1∈fp/\h.get? p.1=some p.2:=by
 obtain⟨b,hb,e⟩:=CD.mp hp;cases q:h.get? b with
 |none=>rw[q]at e;cases e
 |some o=>
  rw[q]at e
  have e':(b,o)=p:=Option.some.inj e
  subst e'
  exact⟨hb,q⟩
theorem Inv.pinned(I:Inv X pins U H s)(hf:∀b∈fp,J6 X pins H b)(ho:∀b∈fp,∃o,s.heap.get? b=some o/\∀v,o.data≠.cell v):Inv X (pins++Br fp s.heap) U H s:=
 I.pins_of fun p hp=>(AN.mp hp).elim (fun z=>I.pin p (AE _ z)) fun z=>by obtain⟨hb,e⟩:=zQ z;obtain⟨f0,f1,f2,_⟩:=hf p.1 hb;obtain⟨o,e',d⟩:=ho p.1 hb;rw[e]at e';cases e';exact⟨e,f0,f1,f2,d⟩
theorem Inv.unpinned(I:Inv X (pins++pl) U H s):Inv X pins U H s:=I.pins_of fun p hp=>I.pin p (AE _ (List.mem_append_left _ hp))
theorem vv(hp:PassesOwn (model X.prog X.w) X.A X.env X.xe)(hc:X.calm=true)(hi:PI X tg iter wi)(hg:PG X tg g)(hb:PSs X body tb)
  (hs:∀x,foldedSetIterable iter X.env x=pure x:=by intro _;rfl):PS X (.For tg iter body [] pos) (y7k wi g tb):=by
 intro pins s U H D I h
 refine wpAny_For (thn (hi pins s U H _ I h) fun v s1 h1=>thn h1 fun fT s2 h2=>?_) hs
 obtain⟨it,fp,tn,J,H2,e,I2,T,aL,f2,W,⟨m0,w0⟩,turn⟩:=h2
 subst e
 have cS:∀{H':Hp},(∀b∈fp,H' b=none)->∀b∈fp,J6 X pins H' b:=fun hn b hb=>⟨hn b hb,(f2 b hb).2⟩
 refine codeAny_forLoop_any (fun n s'=>∃i ak H',Inv X pins ak H' s'/\tn i s'.heap/\(∀b∈fp,H' b=none)/\W i n ak H') ?_ m0 ⟨0,U,H2,I2,aL,fun b hb=>(f2 b hb).1,w0⟩
 rintro n s3 ⟨i,cT,H3,I3,de,fr3,w3⟩
 rcases turn i n cT H3 w3 with⟨stop,qn⟩ |⟨go,N,hN,step⟩
 . refine DA hp (thn (T.done X rfl rfl rfl hc i pins s3 cT H3 X.xe I3 (cS fr3) de stop) fun r s4 ⟨hr,I4⟩=>?_);subst hr;exact DT ⟨cT,H3,I4,qn⟩
 . refine DA hp (thn (T.item X rfl rfl rfl hc i pins s3 cT H3 X.xe I3 (cS fr3) de go) fun r s4 ⟨u,hr,h4⟩=>?_);subst hr;refine DA hp (thn h4 fun _ s5 ⟨x,H5,I5,r5,y5,fj,gL⟩=>?_);have oI:=I5.pinned (cS gL) (T.obj _ _ fj);refine DA hp (thn (hg _ s5 cT H5 x u _ oI r5 (step x H5 y5)) fun _ s6 ⟨oJ,H6,I6,q6⟩=>?_);refine DA hp (thn (hb _ s6 oJ H6 _ I6 q6) fun f s7 q7=>?_);have again:∀{cV:St}{H7:Hp},Inv X (pins++Br fp s5.heap) cV H7 s7->N cV H7->∃m,m<n/\∃i ak H',Inv X pins ak H' s7/\tn i s7.heap/\(∀b∈fp,H' b=none)/\W i m ak H':=fun {cV H7} I7 n7=>by obtain⟨m',hm,w7⟩:=hN cV H7 n7;refine⟨m',hm,i+1,cV,H7,I7.unpinned,T.keep _ _ _ fj fun b hb o e=>(I7.pin (b,o) (AE _ (AE _ (Gc hb e)))).1,fun b hb=>?_,w7⟩;obtain⟨o,e,d⟩:=T.obj _ _ fj b hb;exact(I7.pin (b,o) (AE _ (AE _ (Gc hb e)))).2.1
   cases f with
   |next=>obtain⟨cV,H7,I7,n7⟩:=q7;exact again I7 n7
   |cont=>obtain⟨cV,H7,I7,n7⟩:=q7;exact again I7 n7
   |brk=>obtain⟨cV,H7,I7,q7⟩:=q7;exact⟨cV,H7,I7.unpinned,q7⟩
   |ret v=>obtain⟨x7,cV,H7,I7,r7,q7⟩:=q7;exact⟨x7,cV,H7,I7.unpinned,r7,q7⟩
end
abbrev R2:=V->V->Hp->VK->Prop
def OpR(X:Cx)(f:Value->Value->Sem Value)(r:R2):Prop:=
 ∀(pins:List (Addr×Obj))(s:Shared)(U:St)(H:Hp)(x y:V)(v u:Value)(Q:VK),Inv X pins U H s->RelV x v->RelV y u->r x y H Q ->
  wpAny (model X.prog X.w) X.A (f v u) (EP X pins U Q) X.xe s
def UnR(X:Cx)(f:Value->Sem Value)(r:V->Hp->VK->Prop):Prop:=
 ∀(pins:List (Addr×Obj))(s:Shared)(U:St)(H:Hp)(x:V)(v:Value)(Q:VK),Inv X pins U H s->RelV x v->r x H Q ->
  wpAny (model X.prog X.w) X.A (f v) (EP X pins U Q) X.xe s
def CallR(X:Cx)(f:Value)(r:List V->Hp->VK->Prop):Prop:=
 ∀(pins:List (Addr×Obj))(s:Shared)(U:St)(H:Hp)(xs:List V)(us:List Value)(Q:VK),Inv X pins U H s->Vals xs us->r xs H Q ->
  wpAny (model X.prog X.w) X.A (call f us) (EP X pins U Q) X.xe s
def y7l(X:Cx)(r:V->Hp->(Bool->Hp->Prop)->Prop):Prop:=
 ∀(pins:List (Addr×Obj))(s:Shared)(U:St)(H:Hp)(x:V)(v:Value)(Q:Bool->Hp->Prop),Inv X pins U H s->RelV x v->r x H Q ->
  wpAny (model X.prog X.w) X.A (truthy v) (TP X pins U Q) X.xe s
noncomputable def tOp(r:R2)(ta tb:TE):TE:=fun U H Q=>ta U H fun x H1=>tb U H1 fun y H2=>r x y H2 Q
noncomputable def tUn(r:V->Hp->VK->Prop)(ta:TE):TE:=fun U H Q=>ta U H fun x H1=>r x H1 Q
noncomputable def rI(C:Int->Int->Prop)(g:Int->Int->V):R2:=fun x y H Q=>∃i j,x=.int i/\y=.int j/\C i j/\Q (g i j) H
noncomputable def rI0(g:Int->Int->V):R2:=fun x y H Q=>∃i j,x=.int i/\y=.int j/\Q (g i j) H
def rU(g:Int->V):V->Hp->VK->Prop:=fun x H Q=>∃i,x=.int i/\Q (g i) H
section
variable {X:Cx}{a b:Expr}{ta tb:TE}{pos:Pos}
theorem Ql(ha:PE X a ta)(hb:PE X b tb){pins:List (Addr×Obj)}{s:Shared}{U:St}{H:Hp}{R:V->V->Hp->Prop}(I:Inv X pins U H s)
  (h:ta U H fun x H1=>tb U H1 fun y H2=>R x y H2) {Q:Value->Shared->Prop} {f:Value->Value->Sem Value}
  (hf:∀v u s2 x y H2,Inv X pins U H2 s2->RelV x v->RelV y u->R x y H2->wpAny (model X.prog X.w) X.A (f v u) Q X.xe s2) :
  wpAny (model X.prog X.w) X.A (eval a X.env) (fun v ah=>wpAny (model X.prog X.w) X.A (eval b X.env) (fun u bu=>wpAny (model X.prog X.w) X.A (f v u) Q X.xe bu) X.xe ah) X.xe s:=by
 refine thn (ha pins s U H _ I h) fun v s1 ⟨x,H1,I1,r1,q1⟩=>?_
 refine thn (hb pins s1 U H1 _ I1 q1) fun u s2 ⟨y,H2,I2,r2,q2⟩=>?_
 exact hf v u s2 x y H2 I2 r1 r2 q2
theorem y2v(ho:OpR X (binaryOp op) r)(ha:PE X a ta)(hb:PE X b tb):PE X (.BinOp a op b pos) (tOp r ta tb):=by intro pins s U H Q I h;exact wpAny_BinOp (Ql ha hb I h fun v u s2 x y H2 I2 rx ry q=>ho pins s2 U H2 x y v u Q I2 rx ry q)
theorem y2w(ho:UnR X (unaryOp op) r)(ha:PE X a ta):PE X (.UnaryOp op a pos) (tUn r ta):=by intro pins s U H Q I h;exact UnaryOp_ (thn (ha pins s U H _ I h) fun v s1 ⟨x,H1,I1,r1,q1⟩=>ho pins s1 U H1 x v Q I1 r1 q1)
theorem opI{f:Value->Value->Sem Value}{C:Int->Int->Prop}{g:Int->Int->Int}
  (rule:∀(i j:Int)(t u:Tok)(s:Shared)(Q:Value->Shared->Prop)(E:Value->Shared->Prop),C i j->Q (.int (g i j) s.toks) { s with toks:=s.toks+1 }->wpAny (model X.prog X.w) X.A (f (.int i t) (.int j u)) Q E s) :
  OpR X f (rI C fun i j=>.int (g i j)):=by
 intro pins s U H x y v u Q I rx ry h
 obtain⟨i,j,rfl,rfl,hc,q⟩:=h
 obtain⟨t,rfl⟩:=rx
 obtain⟨t',rfl⟩:=ry
 exact rule i j t t' s _ _ hc ⟨.int (g i j),H,I.tok _,⟨_,rfl⟩,q⟩
theorem kS{f:Value->Value->Sem Value}{g:Int->Int->Int}
  (rule:∀(i j:Int)(t u:Tok)(s:Shared)(Q:Value->Shared->Prop)(E:Value->Shared->Prop),Q (.int (g i j) s.toks) { s with toks:=s.toks+1 }->wpAny (model X.prog X.w) X.A (f (.int i t) (.int j u)) Q E s) :
  OpR X f (rI0 fun i j=>.int (g i j)):=by
 intro pins s U H x y v u Q I rx ry h
 obtain⟨i,j,rfl,rfl,q⟩:=h
 obtain⟨t,rfl⟩:=rx
 obtain⟨t',rfl⟩:=ry
 exact rule i j t t' s _ _ ⟨.int (g i j),H,I.tok _,⟨_,rfl⟩,q⟩
theorem Ha{f:Value->Value->Sem Value}{g:Int->Int->Bool}
  (rule:∀(i j:Int)(t u:Tok)(s:Shared)(Q:Value->Shared->Prop)(E:Value->Shared->Prop),Q (.bool (g i j)) s->wpAny (model X.prog X.w) X.A (f (.int i t) (.int j u)) Q E s) :
  OpR X f (rI0 fun i j=>.bl (g i j)):=by
 intro pins s U H x y v u Q I rx ry h
 obtain⟨i,j,rfl,rfl,q⟩:=h
 obtain⟨t,rfl⟩:=rx
 obtain⟨t',rfl⟩:=ry
 exact rule i j t t' s _ _ ⟨.bl (g i j),H,I,rfl,q⟩
def S9(i j:Int):Prop:=0<j/\j<1073741824
def P8(i j:Int):Prop:=0<=j/\j<=1000000/\i.natAbs<2 ^ 64
def CMul(i j:Int):Prop:=(-(2 ^ 64)<i/\i<2 ^ 64)\/(-(2 ^ 64)<j/\j<2 ^ 64)
theorem CMul.ok(h:CMul i j):IntMulOk i j:=by
 rcases h with⟨h1,h2⟩ |⟨h1,h2⟩
 . exact .of_left (intBits_le_64 h1 h2)
 . exact .of_right (intBits_le_64 h1 h2)
theorem op_add:OpR X (binaryOp .Add) (rI0 fun i j=>.int (i+j)):=kS fun _ _ _ _ _ _ _ q=>add_int q
theorem op_sub:OpR X (binaryOp .Sub) (rI0 fun i j=>.int (i - j)):=kS fun _ _ _ _ _ _ _ q=>sub_int q
theorem op_mul:OpR X (binaryOp .Mult) (rI CMul fun i j=>.int (i * j)):=opI fun _ _ _ _ _ _ _ hc q=>mul_int q hc.ok
theorem op_fdiv:OpR X (binaryOp .FloorDiv) (rI S9 fun i j=>.int (i / j)):=opI fun i j _ _ _ _ _ hc q=>by have h1:(0:Int)<j:=hc.1;have h2:j<1073741824:=hc.2;exact floordiv_int (by omega) (by rw[Int.fdiv_eq_ediv_of_nonneg i (by omega)];exact q) (.inl (PyProof.noPylong_small (by omega)))
theorem op_mod:OpR X (binaryOp .Mod) (rI (fun _ j=>0<j) fun i j=>.int (i % j)):=opI fun i j _ _ _ _ _ hc q=>by have h1:(0:Int)<j:=hc;exact mod_int' (by lia) (by rw[Int.fmod_eq_emod_of_nonneg i (by lia)];exact q)
theorem op_pow:OpR X (binaryOp .Pow) (rI P8 fun i j=>.int (i ^ j.toNat)):=opI fun _ _ _ _ _ _ _ hc q=>pow_int_small hc.1 hc.2.1 hc.2.2 q
theorem unI{f:Value->Sem Value}{g:Int->Int}
  (rule:∀(i:Int)(t:Tok)(s:Shared)(Q:Value->Shared->Prop)(E:Value->Shared->Prop),Q (.int (g i) s.toks) { s with toks:=s.toks+1 }->wpAny (model X.prog X.w) X.A (f (.int i t)) Q E s) :
  UnR X f (rU fun i=>.int (g i)):=by
 intro pins s U H x v Q I rx h
 obtain⟨i,rfl,q⟩:=h
 obtain⟨t,rfl⟩:=rx
 exact rule i t s _ _ ⟨.int (g i),H,I.tok _,⟨_,rfl⟩,q⟩
theorem un_neg:UnR X (unaryOp .USub) (rU fun i=>.int (-i)):=unI fun _ _ _ _ _ q=>neg_int q
end
section
variable {X:Cx}{a b:Expr}{ta tb:TE}{pos:Pos}
theorem Tq(I:Inv X pins U H s)(q:Q (.bl k) H)(e:k=k'):EP X pins U Q (.bool k') s:=by subst e;exact⟨.bl k,H,I,rfl,q⟩
theorem op_lt:OpR X (compareOp .Lt) (rI0 fun i j=>.bl (decide (i<j))):=Ha fun _ _ _ _ _ _ _ q=>lt_int q
theorem op_le:OpR X (compareOp .LtE) (rI0 fun i j=>.bl (decide (i<=j))):=Ha fun _ _ _ _ _ _ _ q=>le_int q
theorem op_gt:OpR X (compareOp .Gt) (rI0 fun i j=>.bl (decide (j<i))):=Ha fun _ _ _ _ _ _ _ q=>gt_int q
theorem op_ge:OpR X (compareOp .GtE) (rI0 fun i j=>.bl (decide (j<=i))):=Ha fun _ _ _ _ _ _ _ q=>ge_int q
theorem zP:OpR X (compareOp .In) (fun x y H Q=>∃i j,x=.str i/\y=.str j/\Q (.bl (!(Builtin.Str.occurrences j i 0 j.length 1).isEmpty)) H):=by intro pins s U H x y v u Q I rx ry h;obtain⟨i,j,rfl,rfl,q⟩:=h;obtain⟨t,rfl⟩:=rx;obtain⟨t',rfl⟩:=ry;exact in_str (Tq I q rfl)
theorem vt:OpR X (compareOp .Is) (fun x y H Q=>y=.non/\Q (.bl (decide (x=.non))) H):=by
 intro pins s U H x y v u Q I rx ry h;obtain⟨rfl,q⟩:=h;cases ry;refine is_none_gen (Tq I q ?_);cases x<;>first
  | (cases rx;rfl)
  | (obtain⟨t,rfl⟩:=rx;rfl)
theorem OpR.or(h:OpR X f r)(h':OpR X f r'):OpR X f (fun x y H Q=>r x y H Q\/r' x y H Q):=by
 intro pins s U H x y v u Q I rx ry q;rcases q with q |q
 . exact h pins s U H x y v u Q I rx ry q
 . exact h' pins s U H x y v u Q I rx ry q
theorem j7(b:Expr)(h:op≠.In:=by decide)(h2:op≠.NotIn:=by decide):behindInMarks op b=false:=by
 have e1:(op==CmpOp.In)=false:=by cases op<;>first |rfl |exact absurd rfl h
 have e2:(op==CmpOp.NotIn)=false:=by cases op<;>first |rfl |exact absurd rfl h2
 cases b<;>simp[behindInMarks,e1,e2]
theorem xF(ho:OpR X (compareOp op) r)(ha:PE X a ta)(hb:PE X b tb)(hm:behindInMarks op b=false):PE X (.Compare a [op] [b] pos) (tOp r ta tb):=by intro pins s U H Q I h;exact wpAny_Compare1 (Ql ha hb I h fun v u s2 x y H2 I2 rx ry q=>ho pins s2 U H2 x y v u Q I2 rx ry q) hm
def kR(K:Frag)(x:V)(H:Hp)(k:Bool):Prop:=
 match x with
 | .non=>k=false
 | .bl b=>k=b
 | .int i=>k=(i != 0)
 | .str y=>y.length<=sizeLine/\k=((y.length:Int) != 0)
 | .byt y=>y.size<=sizeLine/\k=((y.size:Int) != 0)
 | .ref p=>(∃xs,SqL K H p xs/\k=!xs.isEmpty)\/(∃xs,SqT K H p xs/\k=!xs.isEmpty)\/∃kvs,H p=some (.dK kvs)/\k=!kvs.isEmpty
 |_=>False
theorem zir(r:KV kvs vs):(!vs.isEmpty)=!kvs.isEmpty:=by cases r<;>rfl
theorem Yx(r:Vals xs its):(!its.toArray.isEmpty)=!xs.isEmpty:=by cases r<;>simp
theorem Y4:(sizeLine:Nat)<2 ^ 63:=by rw[EG];decide
theorem Tp:y7l X (fun x H Q=>∃k,kR X.K x H k/\Q k H):=by
 intro pins s U H x v Q I rx h;obtain⟨k,e,q⟩:=h;have hl:=Y4;have hs:sizeLine=16777216:=EG;cases x with
 |non=>
  cases rx
  have e':k=false:=e
  subst e'
  exact truthy_none ⟨H,I,q⟩
 |bl b=>
  cases rx
  have e':k=b:=e
  subst e'
  exact CK ⟨H,I,q⟩
 |int i=>
  obtain⟨t,rfl⟩:=rx
  have e':k=(i != 0):=e
  subst e'
  exact PySem.P.truthy_int ⟨H,I,q⟩
 |str y=>
  obtain⟨t,rfl⟩:=rx
  obtain⟨hy,e'⟩:y.length<=sizeLine/\k=((y.length:Int) != 0):=e
  subst e'
  exact PySem.P.truthy_str (by lia) ⟨H,I.tok _,q⟩
 |byt y=>
  obtain⟨t,rfl⟩:=rx
  obtain⟨hy,e'⟩:y.size<=sizeLine/\k=((y.size:Int) != 0):=e
  subst e'
  exact PySem.W.truthy_bytes (by lia) ⟨H,I.tok _,q⟩
 |ref p=>
  cases rx
  have e':(∃xs,SqL X.K H p xs/\k=!xs.isEmpty)\/(∃xs,SqT X.K H p xs/\k=!xs.isEmpty)\/∃kvs,H p=some (.dK kvs)/\k=!kvs.isEmpty:=e
  rcases e' with⟨xs,hx,e'⟩ |⟨xs,hx,e'⟩ |⟨kvs,hx,e'⟩
  . subst e';obtain⟨its,r,pl,hz⟩:=I.list hx;have am:=r.length;exact wpAny_truthy_list pl.isList (by simp only[AB];lia) ⟨H,I.tok _,by rw[Yx r];exact q⟩
  . subst e';obtain⟨its,r,pl,hz⟩:=I.tuple hx;have am:=r.length;exact truthy_tuple pl (by simp only[AB];lia) ⟨H,I.tok _,by rw[Yx r];exact q⟩
  . subst e';obtain⟨hz,hS,vs,r,m⟩:kvs.length<=sizeLine/\(p==sysModules)=false/\∃vs,KV kvs vs/\s.heap.DictOf (K5 X.prog X.w) p vs:=I.hok p _ hx;have am:kvs.length=vs.length:=Paired.length r;exact wpAny_truthy_dict hS m (by lia) ⟨H,I.tok _,by rw[zir r];exact q⟩
 |_=>exact(show False from e).elim
theorem zis:OpR X (binaryOp .Add) (fun x y H Q=>∃i j,x=.str i/\y=.str j/\i.length+j.length<=sizeLine/\Q (.str (i++j)) H):=by intro pins s U H x y v u Q I rx ry h;obtain⟨i,j,rfl,rfl,hz,q⟩:=h;obtain⟨t,rfl⟩:=rx;obtain⟨t',rfl⟩:=ry;exact add_str (fun t' tk=>⟨.str (i++j),H,I.tok _,⟨_,rfl⟩,q⟩) hz
theorem z5(r:Vals [x] us):∃u,us=[u]/\RelV x u:=by
 cases r with
 |cons r1 r2=>cases r2;exact⟨_,rfl,r1⟩
theorem Jk(r:Vals [x,y] us):∃u w',us=[u,w']/\RelV x u/\RelV y w':=by
 cases r with
 |cons r1 r2=>
  cases r2 with
  |cons r3 r4=>cases r4;exact⟨_,_,rfl,r1,r3⟩
theorem zO(hc:X.calm=true):CallR X (.builtin "max") (fun xs H Q=>∃i j,xs=[.int i,.int j]/\Q (.int (if j > i then j else i)) H):=by
 intro pins s U H xs us Q I r h;obtain⟨i,j,rfl,q⟩:=h;obtain⟨u,w',rfl,⟨t,rfl⟩,⟨t',rfl⟩⟩:=Jk r;refine max_two_ints (I.ok.hd hc) fun h' tk k=>⟨_,H,I.kept k,?_,q⟩
 by_cases hj:j > i
 . rw[ζ hj,ζ hj];exact⟨_,rfl⟩
 . rw[ξ hj,ξ hj];exact⟨_,rfl⟩
theorem zN(hc:X.calm=true):CallR X (.builtin "min") (fun xs H Q=>∃i j,xs=[.int i,.int j]/\Q (.int (if j<i then j else i)) H):=by
 intro pins s U H xs us Q I r h;obtain⟨i,j,rfl,q⟩:=h;obtain⟨u,w',rfl,⟨t,rfl⟩,⟨t',rfl⟩⟩:=Jk r;refine min_two_ints (I.ok.hd hc) fun h' tk k=>⟨_,H,I.kept k,?_,q⟩
 by_cases hj:j<i
 . rw[ζ hj,ζ hj];exact⟨_,rfl⟩
 . rw[ξ hj,ξ hj];exact⟨_,rfl⟩
theorem call_int1:CallR X (.type "int") (fun xs H Q=>(∃i,xs=[.int i]/\Q (.int i) H)\/∃k,xs=[.bl k]/\Q (.int (if k then 1 else 0)) H):=by
 intro pins s U H xs us Q I r h;rcases h with⟨i,rfl,q⟩ |⟨k,rfl,q⟩
 . obtain⟨u,rfl,t,rfl⟩:=z5 r;exact call_int_int ⟨.int i,H,I,⟨_,rfl⟩,q⟩
 . obtain⟨u,rfl,r1⟩:=z5 r;cases r1;exact call_int_bool ⟨.int (if k then 1 else 0),H,I.tok _,⟨_,rfl⟩,q⟩
end
structure ObjM(h:Heap)(x dx C:Addr)(mA:Str->Option Value):Prop where
 obj:h.get? x=some (instObj C dx)
 ns:h.Ns1 dx mA
 ne:dx≠x
theorem zM{h:Heap}{dx:Addr}{mA:Str->Option Value}(n:h.Ns1 dx mA):∃od,h.get? dx=some od/\∀name,lookIn name od=some (mA name):=by
 obtain⟨o,es,ep,ho,hd,hk,_,hm⟩:=n;refine⟨o,ho,fun name=>?_⟩;have e:=hm name;unfold nsFind findBy at e;rw[<-Array.find?_toList]at e;unfold lookIn;rw[hd];dsimp only;split
 . rename_i y q;rw[q]at e;exact BG some e
 . rename_i q;rw[q]at e;have a:es.toList.any (·.refKey)=false:=by rw[List.any_eq_false];intro y hy;obtain⟨z,t,lR⟩:=hk y (Array.mem_toList_iff.mp hy);simp[DictEntry.refKey,lR]
   have a':¬es.toList.any (·.refKey)=true:=by rw[a];exact θ
   rw[ξ a'];exact BG some e
theorem ObjM.look(I:ObjM h x dx C mA):∃od,PySem.W.InstAt h x (instObj C dx) C (some od)/\∀name,lookIn name od=some (mA name):=
 let ⟨od,ho,hl⟩:=zM I.ns
 ⟨od,⟨I.obj,rfl,rfl,ho⟩,hl⟩
section
variable {prog:Program}{w:World}{A:Around}{E:Value->Shared->Prop}{s:Shared}{K:Frag}{x dx C f:Addr}{mA:Str->Option Value}{name:Str}{v:Value}
theorem xE(X:K.In s.heap)(I:ObjM s.heap x dx C mA)(hg:PySem.W.plainGet K C name=true)(hh:PySem.W.hasDictIn K C=true)
  (ha:PySem.W.findIn K (.ref C) name=some none) (hv:mA name=some v) (oK:PySem.W.handedIn v=true) (h:Q v { s with toks:=s.toks+1 }) :
  wpAny (model prog w) A (getAttr (.ref x) name uh) Q E s:=by
 obtain⟨od,J,hl⟩:=I.look
 exact PySem.W.get_value X J (PySem.W.plainGet_of hg).1 (PySem.W.findObj_own hh ha rfl (by rw[hl,hv])) oK h
theorem yS(X:K.In s.heap)(I:ObjM s.heap x dx C mA)(hg:PySem.W.plainGet K C name=true)
  (hf:PySem.W.findIn K (.ref C) name=some (some (.ref f))) (ht:isFn K (.ref f)=true) (hv:mA name=none) (h:Q (.ref f,[.ref x]) s) :
  wpAny (model prog w) A (getMethod (.ref x) name pl) Q E s:=by
 obtain⟨od,J,hl⟩:=I.look
 exact PySem.W.method_fn X J (PySem.W.plainGet_of hg).1 (PySem.W.plainGet_of hg).2 hf (BN.mp ht) (by show(lookIn name od).map (·.isSome)=some false;rw[hl,hv];rfl) h
theorem xD(X:K.In s.heap)(I:ObjM s.heap x dx C mA)
  (hs:PySem.W.findIn K (.ref C) "__setattr__"=some (some (.builtin "object.__setattr__"))) (hp:plainOver K C=true) (ht:PySem.W.takerIn K C name=some none) (hh:PySem.W.hasDictIn K C=true)
  (hw:PySem.Within mA ns) (bV:ns.length<=sizeLine)
  (h:∀h',ObjM h' x dx C (fun y=>if y=name then some v else mA y)->Heap.SameBut dx s.heap h'->Q () { s with heap:=h',toks:=s.toks+2 }) :
  wpAny (model prog w) A (setAttr (.ref x) name v) Q E s:=by
 obtain⟨od,J,hl⟩:=I.look
 refine PySem.W.set_plain X J hs (PySem.W.osa_open (s:={ s with toks:=s.toks+1 }) (r:=none) X J hp ht fun b=>?_)
 obtain⟨cd,hc,cG⟩:=PySem.W.any_some hh
 have hx:s.heap.get? x=some ⟨.ref C,some dx,.plain,#[]⟩:=I.obj
 refine χ (γ (χ (χ (wpAny_loadPart hx (χ (PySem.W.Looks.here (s:={ s with toks:=s.toks+1 }) (PySem.W.looks_clsIn X hc) ?_))))))
 rw[cG]
 refine γ (a:=some dx) (χ (γ (χ ?_)))
 refine wpAny_nsSet1 (s:={ s with toks:=s.toks+1 }) I.ns fun h' eJ mC=>?_
 obtain⟨oD,ur,ut,oM,oN,oO⟩:=eJ.count (PySem.Within.cons name v hw)
 refine χ (wpAny_lookBehind oM (by rw[oN];exact pastItsLine_dict (AA oO (by rw[pp];lia))) ?_)
 exact γ (h _ ⟨(mC.2 _ (BX I.ne)).trans I.obj,eJ,I.ne⟩ mC)
theorem yR(X:K.In s.heap)(hm:PySem.W.makesIn K C=true)
  (hi:PySem.W.findIn K (.ref C) "__init__"=some (some (.ref f))) (hf:PySem.W.typeIn K (.ref f)=some (.type "function"))
  (h:codeAny (model prog w) (A.under (.builtin "type.__call__" ⟨.ref C::vs,kw⟩)) (.call (.ref f) ⟨.ref (s.heap.objs.size+1)::vs,kw⟩) (PySem.W.InitBack (s.heap.objs.size+1) R)
   { s with heap:=(s.heap.push emptyDict).push (instObj C s.heap.objs.size) }) :
  codeAny (model prog w) A (.call (.ref C) ⟨vs,kw⟩) R s:=by
 obtain⟨hh,g,d,t,os⟩:=s
 exact PySem.W.make_core (PySem.W.makes_of X hm) (looks_findIn X hi) (fun self=>PySem.W.bind_fn X self hf) (.inl rfl) h
theorem zL(X:K.In s.heap)(hm:PySem.W.makesIn K C=true)
  (hi:PySem.W.findIn K (.ref C) "__init__"=some (some (.builtin "object.__init__")))
  (hb:∀self,Looks (model prog w) s.heap (bindSpecial (.builtin "object.__init__") self) (.builtin "object.__init__",[self]))
  (h:codeAny (model prog w) (A.under (.builtin "type.__call__" ⟨[.ref C],[]⟩)) (.call (.builtin "object.__init__") ⟨[.ref (s.heap.objs.size+1)],[]⟩) (PySem.W.InitBack (s.heap.objs.size+1) R)
   { s with heap:=(s.heap.push emptyDict).push (instObj C s.heap.objs.size) }) :
  codeAny (model prog w) A (.call (.ref C) ⟨[],[]⟩) R s:=by
 obtain⟨hh,g,d,t,os⟩:=s
 exact PySem.W.make_core (PySem.W.makes_of X hm) (looks_findIn X hi) hb (.inr ⟨rfl,rfl⟩) h
end
noncomputable def B9(f:Str)(v:V):List (Str×V)->List (Str×V)
 | []=>[(f,v)]
 | (g,x)::r=>if g=f then(g,v)::r else(g,x)::B9 f v r
theorem Zq(f g:Str)(v:V):∀fs:List (Str×V),(B9 f v fs).lookup g=if g=f then some v else fs.lookup g
 | []=>by
  show List.lookup g [(f,v)]=_;by_cases h:g=f
  . have hb:(g==f)=true:=BN.mpr h;simp only[List.lookup,hb,ζ h]
  . have hb:(g==f)=false:=CJ.mpr h;simp only[List.lookup,hb,ξ h]
 | (k,x)::r=>by
  have ih:=Zq f g v r;rw[show B9 f v ((k,x)::r)=(if k=f then(k,v)::r else(k,x)::B9 f v r) from rfl];by_cases hk:k=f
  . rw[ζ hk];by_cases h:g=k
    . have hb:(g==k)=true:=BN.mpr h;simp only[List.lookup,hb,ζ (h.trans hk)]
    . have hb:(g==k)=false:=CJ.mpr h;simp only[List.lookup,hb,ξ (fun e:g=f=>h (e.trans hk.symm))]
  . rw[ξ hk];by_cases h:g=k
    . have hb:(g==k)=true:=BN.mpr h;simp only[List.lookup,hb,ξ (fun e:g=f=>hk (h.symm.trans e))]
    . have hb:(g==k)=false:=CJ.mpr h;simp only[List.lookup,hb];exact ih
theorem Mq(f:Str)(v:V):∀fs:List (Str×V),f∈(B9 f v fs).map (·.1)/\∀g,g∈fs.map (·.1)->g∈(B9 f v fs).map (·.1)
 | []=>⟨by simp[B9],fun g h=>by simp at h⟩
 | (k,x)::r=>by
  obtain⟨i1,i2⟩:=Mq f v r;rw[show B9 f v ((k,x)::r)=(if k=f then(k,v)::r else(k,x)::B9 f v r) from rfl];by_cases hk:k=f
  . rw[ζ hk];subst hk;exact⟨by simp,fun g h=>by simpa using h⟩
  . rw[ξ hk];refine⟨?_,fun g h=>?_⟩
    . rw[io];exact bI _ i1
    . rw[io]at h⊢;rcases gq.mp h with e |e
      . exact gq.mpr (.inl e)
      . exact bI _ (i2 g e)
theorem Zp(f:Str)(v:V):∀fs:List (Str×V),(B9 f v fs).length<=fs.length+1
 | []=>by simp[B9]
 | (k,x)::r=>by
  have ih:=Zp f v r;rw[show B9 f v ((k,x)::r)=(if k=f then(k,v)::r else(k,x)::B9 f v r) from rfl];by_cases hk:k=f
  . rw[ζ hk,pp,pp];lia
  . rw[ξ hk,pp,pp];lia
theorem RelO.some_of(r:RelO (some v) o):∃u,o=some u/\RelV v u:=by
 cases o with
 |none=>exact(show False from r).elim
 |some u=>exact⟨u,rfl,r⟩
theorem RelO.none_of(r:RelO none o):o=none:=by
 cases o with
 |none=>rfl
 |some u=>exact(show False from r).elim
theorem zK(r:RelV v u):PySem.W.handedIn u=true:=by
 cases v with
 |non=>cases (show u=Value.none from r);rfl
 |bl b=>cases (show u=Value.bool b from r);rfl
 |int i=>obtain⟨t,e⟩:=(show ∃t,u=Value.int i t from r);cases e;rfl
 |str x=>obtain⟨t,e⟩:=(show ∃t,u=Value.str x t from r);cases e;rfl
 |byt b=>obtain⟨t,e⟩:=(show ∃t,u=Value.bytes b t from r);cases e;rfl
 |flt b=>obtain⟨t,e⟩:=(show ∃t,u=Value.float b t from r);cases e;rfl
 |ref a=>cases (show u=Value.ref a from r);rfl
 |ty n=>cases (show u=Value.type n from r);rfl
section
variable {P:Program}{w:World}{H:Hp}{h:Heap}{a C dx:Addr}{fs:List (Str×V)}
theorem Fs(hok:HOk P w H h)(e:H a=some (.ins C dx fs)):∃mA,ObjM h a dx C mA/\(∀f,RelO (fs.lookup f) (mA f))/\PySem.Within mA (fs.map (·.1))/\fs.length<=1000/\H dx=some (.own a):=by obtain⟨d,z,ne,ob,mA,n,r,q⟩:=(show ObjOk P w H h a (.ins C dx fs) from hok a _ e);exact⟨mA,⟨ob,n,ne⟩,r,q,z,d⟩
end
structure Cls(K:Frag)(C:Addr):Prop where
 pg:PySem.W.plainGet K C Str.empty=true
 hd:PySem.W.hasDictIn K C=true
 po:plainOver K C=true
 sa:PySem.W.findIn K (.ref C) "__setattr__"=some (some (.builtin "object.__setattr__"))
theorem Cls.get{K:Frag}{C:Addr}(c:Cls K C)(f:Str):PySem.W.plainGet K C f=true:=c.pg
def NoAttr(K:Frag)(C:Addr)(f:Str):Prop:=PySem.W.findIn K (.ref C) f=some none
theorem NoAttr.taker{K:Frag}{C:Addr}{f:Str}(n:NoAttr K C f):PySem.W.takerIn K C f=some none:=by unfold PySem.W.takerIn;rw[show PySem.W.findIn K (.ref C) f=some none from n];rfl
structure Meth(K:Frag)(C:Addr)(m:Str)(f:Addr):Prop where
 at_:PySem.W.findIn K (.ref C) m=some (some (.ref f))
 fn:isFn K (.ref f)=true
 kp:keepIn K (.ref f)=true
section
variable {X:Cx}{pins:List (Addr×Obj)}{U:St}{H:Hp}{s:Shared}{a C dx:Addr}{fs:List (Str×V)}{f:Str}{v:V}{A:Around}{E:Value->Shared->Prop}
theorem zit(I:Inv X pins U H s)(e:H a=some (.ins C dx fs))(c:Cls X.K C)(n:NoAttr X.K C f)(l:fs.lookup f=some v)
  (h:∀u s',Inv X pins U H s'->RelV v u->Q u s'):wpAny (model X.prog X.w) A (getAttr (.ref a) f b) Q E s:=by
 obtain⟨mA,O,r,_,_,_⟩:=Fs I.hok e
 obtain⟨u,hu,ru⟩:=RelO.some_of (v:=v) (o:=mA f) (by rw[<-l];exact r f)
 exact xE I.kIn O (c.get f) c.hd n hu (zK ru) (h u _ (I.tok _) ru)
theorem My(I:Inv X pins U H s)(e:H a=some (.ins C dx fs))(c:Cls X.K C)(k:Meth X.K C m g)(l:fs.lookup m=none)
  (h:Q (.ref g,[.ref a]) s):wpAny (model X.prog X.w) A (getMethod (.ref a) m pl) Q E s:=by
 obtain⟨mA,O,r,_,_,_⟩:=Fs I.hok e
 have hn:mA m=none:=RelO.none_of (by rw[<-l];exact r m)
 exact yS I.kIn O (c.get m) k.at_ k.fn hn h
theorem ziu(I:Inv X pins U H s)(e:H a=some (.ins C dx fs))(c:Cls X.K C)(n:NoAttr X.K C f)(hl:fs.length<1000)(ry:RelV y u)
  (h:∀s',Inv X pins U (upd H a (.ins C dx (B9 f y fs))) s'->Q () s'):wpAny (model X.prog X.w) A (setAttr (.ref a) f u) Q E s:=by
 obtain⟨mA,O,r,wi,_,ho⟩:=Fs I.hok e
 have hz:(fs.map (·.1)).length<=sizeLine:=by rw[gV,EG];lia
 refine xD I.kIn O c.sa c.po n.taker c.hd wi hz fun h' O' sb=>h _ ?_
 have hd:∃o,h'.get? dx=some o:=let ⟨o,_,_,e',_⟩:=O'.ns;⟨o,e'⟩
 refine I.write (x:=a) (e:=dx) (by rw[e];exact True.intro) (.inr ho) (fun b q hb z=>(sb.2 b hb).trans z) hd ?_
 refine⟨by rw[k8 O.ne];exact ho,?_,O.ne,O'.obj,_,O'.ns,fun g=>?_,fun g hg=>?_⟩
 . have:=Zp f y fs;lia
 . show RelO ((B9 f y fs).lookup g) (if g=f then some u else mA g);rw[Zq];by_cases q:g=f
   . rw[ζ q,ζ q];exact ry
   . rw[ξ q,ξ q];exact r g
 . by_cases q:g=f
   . rw[q];exact(Mq f y fs).1
   . refine(Mq f y fs).2 g (wi g fun z=>hg ?_);show(if g=f then some u else mA g)=none;rw[ξ q];exact z
theorem Inv.made(I:Inv X pins U H s):Inv X pins U (upd (upd H s.heap.objs.size (.own (s.heap.objs.size+1))) (s.heap.objs.size+1) (.ins C s.heap.objs.size []))
  { s with heap:=(s.heap.push emptyDict).push (instObj C s.heap.objs.size) }:=by
 have e1:(s.heap.push emptyDict).get? s.heap.objs.size=some emptyDict:=π s.heap rfl
 have e2:((s.heap.push emptyDict).push (instObj C s.heap.objs.size)).get? (s.heap.objs.size+1)=some (instObj C s.heap.objs.size):=by have:=π (s.heap.push emptyDict) (o:=instObj C s.heap.objs.size) rfl;rwa [Heap.size_push]at this
 have e3:(s.heap.push emptyDict).Ns s.heap.objs.size (fun _=>none):=⟨emptyDict,#[],_,e1,rfl,(fun e he=>absurd he (by simp)),fun _=>rfl⟩
 have I1:=I.laid (a:=s.heap.objs.size) (o:=.own (s.heap.objs.size+1)) (h':=s.heap.push emptyDict) (t':=s.toks) (fun b u q=>ω _ q) (η _) ⟨_,e1⟩
 refine I1.laid (a:=s.heap.objs.size+1) (o:=.ins C s.heap.objs.size []) (t':=s.toks) (fun b u q=>ω _ q) (Nat.le_of_eq (Heap.size_push _ _)) ?_
 have ne:s.heap.objs.size≠s.heap.objs.size+1:=AG (DX _)
 refine⟨by rw[k8 ne,w8],BU _,ne,e2,fun _=>none,(Heap.Ns1.of_empty e3).at fun o q=>ω _ q,fun _=>True.intro,fun y hy=>absurd rfl hy⟩
theorem xC(hb:attributeBase e f env (eval e env)=eval e env)
  (h:wpAny (model prog w) A (eval e env) (fun o ah=>wpAny (model prog w) A (getAttr o f true) Q E ah) E s):wpAny (model prog w) A (eval (.Attribute e f pos) env) Q E s:=
 Attribute_any_ h (by rw[arm_eval_Attribute,hb])
end
def kQ(K:Frag)(ta:TE)(f:Str):TE:=fun U H Q=>ta U H fun x H1=>∃a C dx fs v,x=.ref a/\H1 a=some (.ins C dx fs)/\Cls K C/\NoAttr K C f/\fs.lookup f=some v/\Q v H1
def y7m(K:Frag)(ta tv:TE)(f:Str):TS:=fun D U H=>tv U H fun y H1=>ta U H1 fun x H2=>∃a C dx fs,x=.ref a/\H2 a=some (.ins C dx fs)/\Cls K C/\NoAttr K C f/\fs.length<1000 /\
 D.nx U (upd H2 a (.ins C dx (B9 f y fs)))
section
variable {X:Cx}{o e value:Expr}{f:Str}{pos cD:Pos}{ta tv:TE}
theorem vq(he:PE X e ta)(hb:attributeBase e f X.env (eval e X.env)=eval e X.env):PE X (.Attribute e f pos) (kQ X.K ta f):=by intro pins s U H Q I h;refine xC hb (thn (he pins s U H _ I h) fun u s1 ⟨x,H1,I1,rx,a,C,dx,fs,v,ex,ea,c,n,l,q⟩=>?_);subst ex;obtain rfl:u=Value.ref a:=rx;exact zit I1 ea c n l fun u' s2 I2 ru=>⟨v,H1,I2,ru,q⟩
theorem vp(ha:PE X o ta)(hv:PE X value tv)(hs:swapsWith value (some (.Attribute o f cD)) pos.line X.env=pure false):PS X (.Assign [.Attribute o f cD] value pos) (y7m X.K ta tv f):=by intro pins s U H D I h;refine plainObj_wpAny_Assign_Attribute (thn (hv pins s U H _ I h) fun u s1 ⟨y,H1,I1,ry,q⟩=>thn (ha pins s1 U H1 _ I1 q) fun ov s2 ⟨x,H2,I2,rx,a,C,dx,fs,ex,ea,c,n,l,q2⟩=>?_) hs;subst ex;obtain rfl:ov=Value.ref a:=rx;exact ziu I2 ea c n l ry fun s3 I3=>⟨U,_,I3,q2⟩
end
section
variable {X:Cx}{pins:List (Addr×Obj)}{U:St}{H:Hp}{s:Shared}{A:Around}{E:Value->Shared->Prop}{Q:Value->Shared->Prop}{c:Value}{b:Bool}
inductive TyOf (K:Frag) (H:Hp):V->Value->Prop where
 |non:TyOf K H .non (.type "NoneType")
 |bl (x:Bool):TyOf K H (.bl x) (.type "bool")
 |int (i:Int):TyOf K H (.int i) (.type "int")
 |str (x:Str):TyOf K H (.str x) (.type "str")
 |flt (x:UInt64):TyOf K H (.flt x) (.type "float")
 |lst {a:Addr} {xs:List V} (e:H a=some (.lst xs)):TyOf K H (.ref a) (.type "list")
 |frz {a:Addr} {o:Obj} {xs:List V} (e:H a=some (.frz o (.lst xs))):TyOf K H (.ref a) (.type "list")
 |tup {a:Addr} {xs:List V} (e:H a=some (.tup xs)):TyOf K H (.ref a) (.type "tuple")
 |dK {a:Addr} {kvs:List (Key×V)} (e:H a=some (.dK kvs)):TyOf K H (.ref a) (.type "dict")
 |dT {a:Addr} {kvs:List (List Key×V)} (e:H a=some (.dT kvs)):TyOf K H (.ref a) (.type "dict")
 |ins {a C dx:Addr} {fs:List (Str×V)} (e:H a=some (.ins C dx fs)) (cl:Cls K C) (ha:PySem.W.findIn K (.ref C) "__class__"=some (some (.builtin "object.__class__")))
  (hn:PySem.W.specialIn K (.builtin "object.__class__") "__get__"=some (some (.builtin "getset_descriptor.__get__"))) (htk:PySem.W.takesIn K (.builtin "object.__class__")=some true)
  (hm:mroIn K C (.type "object")=some true):TyOf K H (.ref a) (.ref C)
theorem M5(I:Inv X pins U H s)(rx:RelV x u)(ty:TyOf X.K H x t)(e:kitOne X.K t c=some b)(h:∀tk,Q (.bool b) { s with toks:=tk }) :
  wpAny (model X.prog X.w) A (call (.builtin "isinstance") [u,c]) Q E s:=by
 cases ty with
 |non=>cases (show u=Value.none from rx);exact kia_one PySem.W.kitx_none I.kIn True.intro e (fun z=>nomatch z) h
 |bl y=>cases (show u=Value.bool y from rx);exact kia_one PySem.W.kitx_bool I.kIn True.intro e (fun z=>nomatch z) h
 |int i=>obtain⟨t,q⟩:=(show ∃t,u=Value.int i t from rx);cases q;exact kia_one PySem.W.kitx_int I.kIn True.intro e (fun z=>nomatch z) h
 |str y=>obtain⟨t,q⟩:=(show ∃t,u=Value.str y t from rx);cases q;exact kia_one PySem.W.kitx_str I.kIn True.intro e (fun z=>nomatch z) h
 |flt y=>obtain⟨t,q⟩:=(show ∃t,u=Value.float y t from rx);cases q;exact kia_one PySem.W.kitx_float I.kIn True.intro e (fun z=>nomatch z) h
 | @lst a xs ea=>
  cases (show u=Value.ref a from rx)
  obtain⟨_,_,n,_,h1⟩:=(show ObjOk X.prog X.w H s.heap a (.lst xs) from I.hok a _ ea)
  exact kia_one PySem.W.kitx_list I.kIn ⟨_,h1,rfl⟩ e (fun z=>nomatch z) h
 | @frz a ob xs ea=>
  cases (show u=Value.ref a from rx)
  obtain⟨_,_,_,n,_,h1⟩:=(show ObjOk X.prog X.w H s.heap a (.frz ob (.lst xs)) from I.hok a _ ea)
  exact kia_one PySem.W.kitx_list I.kIn ⟨_,h1,rfl⟩ e (fun z=>nomatch z) h
 | @tup a xs ea=>
  cases (show u=Value.ref a from rx)
  obtain⟨_,_,_,p⟩:=(show ObjOk X.prog X.w H s.heap a (.tup xs) from I.hok a _ ea)
  obtain⟨o,h1,h2,_⟩:=p
  exact kia_one PySem.W.kitx_tuple I.kIn ⟨o,h1,h2⟩ e (fun z=>nomatch z) h
 | @dK a kvs ea=>
  cases (show u=Value.ref a from rx)
  obtain⟨_,_,vs,_,p⟩:=(show ObjOk X.prog X.w H s.heap a (.dK kvs) from I.hok a _ ea)
  obtain⟨o,es,ep,h1,h2,_⟩:=p
  exact kia_one PySem.W.kitx_dict I.kIn ⟨o,h1,h2.1⟩ e (fun z=>nomatch z) h
 | @dT a kvs ea=>
  cases (show u=Value.ref a from rx)
  obtain⟨_,_,xs,_,o,es,ep,h1,h2,_⟩:=(show ObjOk X.prog X.w H s.heap a (.dT kvs) from I.hok a _ ea)
  exact kia_one PySem.W.kitx_dict I.kIn ⟨o,h1,h2.1⟩ e (fun z=>nomatch z) h
 | @ins a C dx fs ea cl ha hn htk hm=>
  cases (show u=Value.ref a from rx)
  obtain⟨mA,O,_⟩:=Fs I.hok ea
  obtain⟨od,J,_⟩:=O.look
  exact kia_one (PySem.W.kitx_own (cl.get _) cl.hd ha hn htk hm) I.kIn J e (fun z=>nomatch z) h
end
structure Room(k:Nat)(A:Around):Prop where
 hd:A.handled=none
 dp:A.depth+3 * k+5<recursionLimit
 un:A.units+16 * k+200<cLine
theorem Room.mono(r:Room k A)(h:j<=k):Room j A:=⟨r.hd,by have:=r.dp;lia,by have:=r.un;lia⟩
theorem Room.deeper(r:Room (k+1) A)(env:Env):Room k (A.deeper env):=
 ⟨r.hd,by have:=r.dp;show A.depth+1+3 * k+5<_;lia,by have:=r.un;show A.units+3+16 * k+200<_;lia⟩
theorem ziv{A:Around}{C:Addr}{us:List Value}{kw:List (Str×Value)}:(A.under (.builtin "type.__call__" ⟨.ref C::us,kw⟩)).depth=A.depth+1:=by first |rfl |simp[Around.under,Code.weight,Code.isCreation,Code.isGuard,Code.isCaller,Code.frames,Code.isFrame,guardIds]
theorem ziw{A:Around}{C:Addr}{us:List Value}{kw:List (Str×Value)}:(A.under (.builtin "type.__call__" ⟨.ref C::us,kw⟩)).units=A.units+1:=by first |rfl |simp[Around.under,Code.cUnits,Code.frames,Code.isFrame]
theorem Room.make(r:Room (k+1) A)(C:Addr)(us:List Value)(kw:List (Str×Value)):Room k (A.under (.builtin "type.__call__" ⟨.ref C::us,kw⟩)):=
 ⟨r.hd,by have:=r.dp;rw[ziv];omega,by have:=r.un;rw[ziw];omega⟩
theorem Room.depth(r:Room k A):A.depth<recursionLimit:=by have:=r.dp;omega
theorem Room.units(r:Room k A):A.units+64<cLine:=by have:=r.un;lia
noncomputable def L8:TA:=fun _ H Q=>Q [] H
noncomputable def E6(ta:TE)(tr:TA):TA:=fun U H Q=>ta U H fun x H1=>tr U H1 fun xs H2=>Q (x::xs) H2
section
variable {X:Cx}{e:Expr}{es:List Expr}{te:TE}{t:TA}{pos:Pos}
theorem pa_nil:PA X [] L8:=fun _ _ _ _ H Q I h=>Calls.spliced_nil ⟨[],H,I,.nil,h⟩
theorem G1(ha:PE X e te)(hr:PA X es t)(hs:starEach (e::es) X.env=(false,eval e X.env)::starEach es X.env:=by rfl):PA X (e::es) (E6 te t):=by intro pos pins s U H Q I h;rw[hs];show wpAny _ _ (spliced ((false,eval e X.env)::backTo pos (starEach es X.env))) _ _ s;refine Calls.spliced_cons (thn (ha pins s U H _ I h) fun u s1 ⟨x,H1,I1,r1,q1⟩=>?_);exact thn (hr pos pins s1 U H1 _ I1 q1) fun us s2 ⟨xs,H2,I2,r2,q2⟩=>⟨x::xs,H2,I2,.cons r1 r2,q2⟩
def Qk(t:TA):TE:=fun U H Q=>t U H fun xs H1=>xs.length<=sizeLine/\∀p,H1 p=none->Q (.ref p) (upd H1 p (.tup xs))
def kP(t:TA):TE:=fun U H Q=>t U H fun xs H1=>xs.length<=sizeLine/\∀p,H1 p=none->Q (.ref p) (upd H1 p (.lst xs))
theorem To(h:PA X es t):PE X (.Tuple es x1 pos) (Qk t):=by intro pins s U H Q I hq;refine wpAny_Tuple_spliced (thn (h pos pins s U H _ I hq) fun us s1 ⟨xs,H1,I1,r,z,q⟩=>⟨by rw[<-r.length];exact z,?_⟩);have hf:H1 s1.heap.objs.size=none:=I1.hok.fresh (η _);refine⟨.ref s1.heap.objs.size,upd H1 s1.heap.objs.size (.tup xs),I1.laid (t':=s1.toks) (fun b u e=>ω _ e) (η _) ?_,rfl,q _ hf⟩;exact⟨z,us,r,.mk' (π _ rfl)⟩
theorem vo(h:PA X es t):PE X (.List es pos) (kP t):=by intro pins s U H Q I hq;refine wpAny_List_spliced (thn (h pos pins s U H _ I hq) fun us s1 ⟨xs,H1,I1,r,z,q⟩=>⟨by rw[<-r.length];exact z,?_⟩);have hf:H1 s1.heap.objs.size=none:=I1.hok.fresh (η _);refine⟨.ref s1.heap.objs.size,upd H1 s1.heap.objs.size (.lst xs),I1.laid (t':=s1.toks) (fun b u e=>ω _ e) (η _) ?_,rfl,q _ hf⟩;exact⟨z,us,0,r,π _ rfl⟩
end
abbrev Sp:=List V->Hp->VK->XK->Prop
abbrev CXT:=List Env->Hp->Shared->XK->Value->Shared->Prop
structure Env0(P:Program)(w:World)(K:Frag)(mg:Str->Option Value)(base:Heap)(A:Around)(outer:List Env)(s:Shared)(H:Hp):Prop where
 frames:A.frames=some outer
 mod:Mod K mg base
 bs:∀b o,base.get? b=some o->s.heap.get? b=some o/\H b=none
 bsz:base.objs.size<=s.heap.objs.size
 funs:s.heap.FunFrames base outer
 frf:∀b∈frs outer,H b=none
 hok:HOk P w H s.heap
 bare:AllBare s.gens
def CE(outer:List Env)(P:Program)(w:World)(H:Hp)(s:Shared)(Q:VK)(u:Value)(s':Shared):Prop:=
 ∃v H',s'.os=s.os/\AllBare s'.gens/\Un (frs outer) [] H H' s.heap s'.heap/\HOk P w H' s'.heap/\RelV v u/\Q v H'
def CR(CX:CXT)(outer:List Env)(P:Program)(w:World)(H:Hp)(s:Shared)(Q:VK)(E:XK)(r:Result)(s':Shared):Prop:=
 match r with
 | .ok (.ret u)=>CE outer P w H s Q u s'
 | .ok _=>False
 | .error e=>CX outer H s E e s'
structure FnOk(P:Program)(w:World)(K:Frag)(mg:Str->Option Value)(base:Heap)(CX:CXT)(k:Nat)(f:Addr)(fd:FuncData)(ps:List Str)(sp:Sp):Prop where
 len:∀vs H Q E,sp vs H Q E->vs.length=ps.length
 run:∀(A:Around)(outer:List Env)(s:Shared)(H:Hp)(args:Args)(us:List Value)(vs:List V)(Q:VK)(E:XK),Room k A->Env0 P w K mg base A outer s H->BindsTo s fd args (ps.zip us)->Vals vs us->sp vs H Q E ->
  codeAny (model P w) A (.call (.ref f) args) (CR CX outer P w H s Q E) s
theorem FnOk.imp{P:Program}{w:World}{K:Frag}{mg:Str->Option Value}{base:Heap}{CX:CXT}{k:Nat}{f:Addr}{fd:FuncData}{ps:List Str}{sp mD:Sp}(F:FnOk P w K mg base CX k f fd ps sp)
  (h:∀vs H Q E,mD vs H Q E->sp vs H Q E):FnOk P w K mg base CX k f fd ps mD:=
 ⟨fun vs H Q E q=>F.len vs H Q E (h _ _ _ _ q),fun A outer s H args us vs Q E hr he hb hv hs=>F.run A outer s H args us vs Q E hr he hb hv (h _ _ _ _ hs)⟩
theorem Env0.make{P:Program}{w:World}{K:Frag}{mg:Str->Option Value}{base:Heap}{A:Around}{outer:List Env}{s:Shared}{H:Hp}(e:Env0 P w K mg base A outer s H)(C:Addr)(us:List Value)(kw:List (Str×Value)) :
 Env0 P w K mg base (A.under (.builtin "type.__call__" ⟨.ref C::us,kw⟩)) outer s H:=⟨by first |exact e.frames | (simpa [Around.under,Code.envs,Code.isFrame,pushEnvs] using e.frames),e.mod,e.bs,e.bsz,e.funs,e.frf,e.hok,e.bare⟩
section
variable {X:Cx}{pins:List (Addr×Obj)}{U:St}{H:Hp}{s s':Shared}
theorem Inv.env0(I:Inv X pins U H s):Env0 X.prog X.w X.K X.mg X.base X.A X.stack s H:=
 ⟨I.ok.frames,I.ok.mod,I.bs,AA I.ok.bsz I.sz,I.stack,I.stkFree,I.hok,I.bare⟩
theorem Inv.after(I:Inv X pins U H s)(h:CE X.stack X.prog X.w H s Q u s'):EP X pins U Q u s':=by obtain⟨v,H',os,bare,un,hok,r,q⟩:=h;obtain⟨hh,g,d,t,oP⟩:=s';obtain rfl:oP=s.os:=os;exact⟨v,H',I.call (h':=hh) (g':=g) (d':=d) (t':=t) (ch:=[]) un hok bare (fun b z=>absurd z (by simp)),r,q⟩
end
noncomputable def Rm(sp:Sp)(dvs:List V)(E:XK)(t:TA):TE:=fun U H Q=>t U H fun vs H1=>sp (vs++dvs) H1 Q E
def Rl(C:Addr)(sp:Sp)(dvs:List V)(E:XK)(t:TA):TE:=fun U H Q=>t U H fun vs H1=>∀x dx,H1 x=none->H1 dx=none->dx≠x ->
 sp (.ref x::(vs++dvs)) (upd (upd H1 dx (.own x)) x (.ins C dx [])) (fun v H2=>v=.non/\Q (.ref x) H2) E
def Binds(K:Frag)(fd:FuncData)(ps:List Str)(ds:List Value):Prop:=
 ∀(s:Shared)(us:List Value),K.In s.heap->(us++ds).length=ps.length->BindsTo s fd ⟨us,[]⟩ (ps.zip (us++ds))
theorem Binds.all{K:Frag}{fd:FuncData}{ps:List Str}(h:∀us:List Value,us.length=ps.length->bindArgs fd ⟨us,[]⟩=pure (ps.zip us)):Binds K fd ps []:=fun s us _ hl=>by rw[BJ]at hl⊢;exact .of_eq (h us hl)
def R1(CX:CXT)(X:Cx)(E:XK):Prop:=∀(pins:List (Addr×Obj))(U:St)(H:Hp)(s:Shared)(e:Value)(s':Shared),Inv X pins U H s->CX X.stack H s E e s'->X.xe e s'
section
variable {X:Cx}{CX:CXT}{k:Nat}{f C:Addr}{fd:FuncData}{ps:List Str}{sp:Sp}{dvs:List V}{ds:List Value}{E:XK}{x:Str}{p pos:Pos}{e:Expr}{es:List Expr}{t:TA}
theorem Kn(F:FnOk X.prog X.w X.K X.mg X.base CX k f fd ps sp)(hr:Room k X.A)(hb:Binds X.K fd ps ds)(hd:Vals dvs ds)(hx:R1 CX X E)
  (I:Inv X pins U H s) (r:Vals vs us) (h:sp (vs++dvs) H Q E):wpAny (model X.prog X.w) X.A (call (.ref f) us) (EP X pins U Q) X.xe s:=by
 have r2:Vals (vs++dvs) (us++ds):=r.append hd
 have hl:(us++ds).length=ps.length:=by rw[<-r2.length];exact F.len _ _ _ _ h
 refine wpAny_call (EO (F.run X.A X.stack s H ⟨us,[]⟩ (us++ds) (vs++dvs) Q E hr I.env0 (hb s us I.kIn hl) r2 h) fun r s' hq=>?_)
 cases r with
 |error e=>exact hx pins U H s e s' I hq
 |ok fl=>
  cases fl with
  |ret u=>exact I.after hq
  |next=>exact False.elim hq
  |brk=>exact False.elim hq
  |cont=>exact False.elim hq
theorem xB(F:FnOk X.prog X.w X.K X.mg X.base CX k f fd ps sp)(hr:Room k X.A)(hg:Gl X x)(hm:X.mg x=some (.ref f))(hk:keepIn X.K (.ref f)=true)(hb:Binds X.K fd ps ds)(hd:Vals dvs ds)(hx:R1 CX X E)
  (ha:PA X (e::es) t) (az:(x==("__debug__":Str))=false:=by decide) (he:starEach (e::es) X.env=(false,eval e X.env)::starEach es X.env:=by rfl) (hpl:(backTo pos (starEach es X.env)).any (·.1)=false:=by rfl) :
  PE X (.Call (.Name x p) (e::es) [] pos) (Rm sp dvs E t):=by
 intro pins s U H Q I h
 refine CG (U8 I hg hm ?_ az)
 refine callWith_K (h₀:=X.base) I.ok.mod.kin hk (thn (ha pos pins s U H _ I h) fun us s1 ⟨vs,H1,I1,r,q⟩=>⟨I1.kIn,?_⟩) he hpl
 exact Kn F hr hb hd hx I1 r q
structure Mk(K:Frag)(C f:Addr):Prop where
 makes:PySem.W.makesIn K C=true
 init:PySem.W.findIn K (.ref C) "__init__"=some (some (.ref f))
 fn:isFn K (.ref f)=true
 kp:keepIn K (.ref C)=true
theorem yQ(M:Mk X.K C f)(F:FnOk X.prog X.w X.K X.mg X.base CX k f fd ps sp)(hr:Room (k+1) X.A)(hb:Binds X.K fd ps ds)(hd:Vals dvs ds)
  (hx:R1 CX X E) (I:Inv X pins U H s) (r:Vals vs us)
  (h:∀x dx,H x=none->H dx=none->dx≠x->sp (.ref x::(vs++dvs)) (upd (upd H dx (.own x)) x (.ins C dx [])) (fun v H2=>v=.non/\Q (.ref x) H2) E) :
  wpAny (model X.prog X.w) X.A (call (.ref C) us) (EP X pins U Q) X.xe s:=by
 have hq:=h (s.heap.objs.size+1) s.heap.objs.size (I.hok.fresh (Nat.le_succ _)) (I.hok.fresh (η _)) (AG (DX _))
 have I2:=Inv.made (C:=C) I
 have r2:Vals (V.ref (s.heap.objs.size+1)::(vs++dvs)) (Value.ref (s.heap.objs.size+1)::(us++ds)):=.cons rfl (r.append hd)
 have hl:(Value.ref (s.heap.objs.size+1)::us++ds).length=ps.length:=by have e:=r2.length;rw[F.len _ _ _ _ hq]at e;exact e.symm
 refine wpAny_call (yR (f:=f) I.kIn M.makes M.init (BN.mp M.fn) (EO (F.run _ X.stack _ _ ⟨Value.ref (s.heap.objs.size+1)::us,[]⟩ (Value.ref (s.heap.objs.size+1)::(us++ds)) _ _ E (hr.make C us [])
  (I2.env0.make C us []) (hb _ (Value.ref (s.heap.objs.size+1)::us) I2.kIn hl) r2 hq) fun r s' fU=>?_))
 cases r with
 |error e=>exact hx pins U _ _ e s' I2 fU
 |ok fl=>
  cases fl with
  |ret u=>
   obtain⟨v,H',I3,rv,ev,q3⟩:=I2.after fU
   subst ev
   exact⟨rv,⟨V.ref (s.heap.objs.size+1),H',I3,rfl,q3⟩⟩
  |next=>exact False.elim fU
  |brk=>exact False.elim fU
  |cont=>exact False.elim fU
theorem xA(M:Mk X.K C f)(F:FnOk X.prog X.w X.K X.mg X.base CX k f fd ps sp)(hr:Room (k+1) X.A)(hg:Gl X x)(hm:X.mg x=some (.ref C))(hb:Binds X.K fd ps ds)(hd:Vals dvs ds)(hx:R1 CX X E)
  (ha:PA X (e::es) t) (az:(x==("__debug__":Str))=false:=by decide) (he:starEach (e::es) X.env=(false,eval e X.env)::starEach es X.env:=by rfl) (hpl:(backTo pos (starEach es X.env)).any (·.1)=false:=by rfl) :
  PE X (.Call (.Name x p) (e::es) [] pos) (Rl C sp dvs E t):=by
 intro pins s U H Q I h
 refine CG (U8 I hg hm ?_ az)
 refine callWith_K (h₀:=X.base) I.ok.mod.kin M.kp (thn (ha pos pins s U H _ I h) fun us s1 ⟨vs,H1,I1,r,q⟩=>⟨I1.kIn,?_⟩) he hpl
 exact yQ M F hr hb hd hx I1 r q
end
structure FnScope(N P:List Str)(sc:Scope):Prop where
 kind:sc.kind=.function
 co:sc.isCoroutine=false
 gen:sc.isGenerator=false
 nd:N.Nodup
 pre:N.take P.length=P
 par:∀x∈P,sc.names.lookup x=some .local\/sc.names.lookup x=some .cell
 nofree:∀y∈sc.names,y.2≠.free
theorem Xv{kindOf:Str->Option NameKind}{x:Str}:∀{binds:List (Str×Value)}{m:Str->Option Value},(∀v,(x,v)∉binds)->bindL kindOf binds m x=m x
 | [],_,_=>rfl
 | (n,v)::r,m,h=>by
  unfold bindL;rw[Xv fun w hw=>h w (bI _ hw)];split
  . have:x≠n:=by rintro rfl;exact h v dg
    simp[this]
  . rfl
theorem Xu{kindOf:Str->Option NameKind}{x:Str}:∀{binds:List (Str×Value)}{m:Str->Option Value},(∀v,(x,v)∉binds)->bindC kindOf binds m x=m x
 | [],_,_=>rfl
 | (n,v)::r,m,h=>by
  unfold bindC;rw[Xu fun w hw=>h w (bI _ hw)];split
  . rfl
  . have:x≠n:=by rintro rfl;exact h v dg
    simp[this]
theorem Xs{kindOf:Str->Option NameKind}{x:Str}{v:Value}:∀{P:List Str}{vs:List Value}{i:Nat}{m:Str->Option Value},P.Nodup->P[i]?=some x->vs[i]?=some v->kindOf x=some .local ->
  bindL kindOf (P.zip vs) m x=some v
 | [],_,_,_,_,h,_,_=>by simp at h
 |_::_,[],_,_,_,_,h,_=>by simp at h
 |p::P,w::vs,0,m,nd,h1,h2,hk=>by simp at h1 h2;subst h1;subst h2;show bindL kindOf ((p,w)::P.zip vs) m p=_;unfold bindL;rw[Xv fun v hv=>(AR.mp nd).1 (List.of_mem_zip hv).1,ζ hk];simp
 |p::P,w::vs,i+1,m,nd,h1,h2,hk=>by show bindL kindOf ((p,w)::P.zip vs) m x=_;unfold bindL;exact Xs (i:=i) (AR.mp nd).2 (by simpa using h1) (by simpa using h2) hk
theorem Xr{kindOf:Str->Option NameKind}{x:Str}{v:Value}:∀{P:List Str}{vs:List Value}{i:Nat}{m:Str->Option Value},P.Nodup->P[i]?=some x->vs[i]?=some v->kindOf x≠some .local ->
  bindC kindOf (P.zip vs) m x=some v
 | [],_,_,_,_,h,_,_=>by simp at h
 |_::_,[],_,_,_,_,h,_=>by simp at h
 |p::P,w::vs,0,m,nd,h1,h2,hk=>by simp at h1 h2;subst h1;subst h2;show bindC kindOf ((p,w)::P.zip vs) m p=_;unfold bindC;rw[Xu fun v hv=>(AR.mp nd).1 (List.of_mem_zip hv).1,ξ hk];simp
 |p::P,w::vs,i+1,m,nd,h1,h2,hk=>by show bindC kindOf ((p,w)::P.zip vs) m x=_;unfold bindC;exact Xr (i:=i) (AR.mp nd).2 (by simpa using h1) (by simpa using h2) hk
noncomputable def E5(N:List Str)(vs:List V):St:=vs.map some++List.replicate (N.length - vs.length) none
def J5(CX:CXT)(P:Program)(w:World)(K:Frag)(mg:Str->Option Value)(base:Heap)(N:List Str)(qual:Str)(scope:Scope)(f:Addr)(cd:Value)(A:Around)(outer:List Env)(s:Shared)(H:Hp)(E:XK):Cx where
 prog:=P
 w:=w
 K:=K
 mg:=mg
 base:=base
 A:=A.deeper (envOfC qual scope s.heap.objs.size f cd)
 N:=N
 s₀:=s
 H₀:=H
 env:=envOfC qual scope s.heap.objs.size f cd
 outer:=outer
 stack:=envOfC qual scope s.heap.objs.size f cd::outer
 ex:=[]
 calm:=true
 fn:=fun _=>true
 pn:=[]
 xe:=fun e s'=>wpAny (model P w) (A.deeper (envOfC qual scope s.heap.objs.size f cd)) (leaving (envOfC qual scope s.heap.objs.size f cd) e) (fun _ eK=>CX outer H s E e eK) (fun e' eK=>CX outer H s E e' eK) s'
theorem Ww{sc:Scope}{n:Nat}{x:Str}(h:sc.names.lookup x=some .cell):∃c,(cellsFrom n sc.names []).lookup x=some c:=by have q:=PySem.W.cellsFrom_some sc.names n [] (.inl h);exact Option.isSome_iff_exists.mp q
theorem zJ{CX:CXT}{P:Program}{w:World}{K:Frag}{mg:Str->Option Value}{base:Heap}{N ps:List Str}{qual:Str}{scope:Scope}{f:Addr}{cd:Value}{A:Around}{outer:List Env}{s s1:Shared}{H:Hp}{E:XK}{us:List Value}{vs:List V}
  (S:FnScope N ps scope) (hd:A.handled=none) (e0:Env0 P w K mg base A outer s H) (hl:vs.length=ps.length) (r:Vals vs us)
  (x:InCallC s s.heap.objs.size (bindL (envOfC qual scope s.heap.objs.size f cd).kindOf (ps.zip us) fun _=>none) (cellsFrom (s.heap.objs.size+1) scope.names []) (bindC (envOfC qual scope s.heap.objs.size f cd).kindOf (ps.zip us) fun _=>none) s1) :
  Inv (J5 CX P w K mg base N qual scope f cd A outer s H E) [] (E5 N vs) H s1:=by
 have hpl:ps.length<=N.length:=by have:=BG List.length S.pre;rw[DI]at this;lia
 obtain⟨h1,tk,rfl,hk⟩:=x.done
 have fV:∀b:Addr,b∉(J5 CX P w K mg base N qual scope f cd A outer s H E).ex:=fun b z=>absurd (show b∈([]:List Addr) from z) (by simp)
 refine⟨⟨e0.mod,S.kind,rfl,rfl,η _,fun y z c h1 h2=>?_,fun y hy=>?_,fun y c _ h=>?_,fun _=>hd,Around.frames_deeper e0.frames,.inr ⟨rfl,rfl⟩,fun b z=>absurd z (fV b),e0.bs,e0.bsz,fun b _ _=>fV b,fun b z=>absurd z (fV b),e0.funs,e0.frf⟩,
  rfl,e0.bare,Un.kept hk,⟨_,x.toInCall.ns,fun i y v h1 h2 h3=>?_⟩,fun y c h=>⟨_,x.cell y c h⟩,e0.hok.fresh (η _),fun y c h=>?_,fun p hp=>absurd (show p∈([]:List (Addr×Obj)) from hp) (by simp),e0.hok.kept hk,?_⟩
 . exact name_of_addr x.apart (BZ h1) (BZ h2)
 . have hy:scope.names.lookup y=some .cell\/scope.names.lookup y=some .free:=hy;rcases hy with hy |hy
   . exact Ww hy
   . exact absurd rfl (S.nofree _ (BZ hy))
 . exact DF (x.above y c (BZ h))
 . have hi:i<vs.length:=by
    unfold E5 at h2
    by_cases hi:i<vs.length
    . exact hi
    . rw[AV (by simpa using hi)]at h2;rw[List.getElem?_replicate]at h2;split at h2<;>cases h2
   have ha:vs[i]?=some v:=by
    unfold E5 at h2;rw[BH (by simpa using hi),AO]at h2;cases e:vs[i]? with
    |none=>rw[e]at h2;cases h2
    |some a=>rw[e]at h2;cases h2;rfl
   obtain⟨u,hu,rv⟩:=r.get ha
   have hp:ps[i]?=some y:=by rw[<-S.pre,List.getElem?_take_of_lt (by lia)];exact h1
   have mE:ps.Nodup:=by rw[<-S.pre];exact S.nd.sublist (List.take_sublist _ _)
   refine⟨u,rv,?_⟩
   rcases S.par y (BV hp) with k |k
   . exact .inl ⟨k,Xs mE hp hu k⟩
   . obtain⟨c,e⟩:=Ww (n:=s.heap.objs.size+1) k;refine .inr ⟨.inl k,c,e,?_⟩;have q:=x.cell y c e;rw[Xr mE hp hu (by show scope.names.lookup y≠_;rw[k];decide)]at q;exact q
 . exact e0.hok.fresh (DF (x.above y c (BZ h)))
 . unfold E5;show _=N.length;rw[AY,gV,DV]
   lia
theorem Jj{CX:CXT}{P:Program}{w:World}{K:Frag}{mg:Str->Option Value}{base:Heap}{k:Nat}{f:Addr}{name qual:Str}{params:Arguments}{body:List Stmt}{scope:Scope}{dV kV doc pm cdv ct oc:Value}{an od:Option Addr}
  {osl:Array (Option Value)} {N ps:List Str} {sp:Sp} (lk:K.lookup f=some ⟨oc,od,.func (PySem.W.fnOf name qual params body scope dV kV doc pm an cdv ct),osl⟩) (bp:codeIn K cdv qual=true) (S:FnScope N ps scope)
  (len:∀vs H Q E,sp vs H Q E->vs.length=ps.length)
  (bo:∀(A:Around)(outer:List Env)(s:Shared)(H:Hp)(vs:List V)(Q:VK)(E:XK),Room k (A.deeper (envOfC qual scope s.heap.objs.size f cdv))->sp vs H Q E ->
   ∃t,PSs (J5 CX P w K mg base N qual scope f cdv A outer s H E) body t/\t { nx:=fun _ H'=>Q .non H',rt:=Q } (E5 N vs) H) :
  FnOk P w K mg base CX (k+1) f (PySem.W.fnOf name qual params body scope dV kV doc pm an cdv ct) ps sp:=by
 refine⟨len,fun A outer s H args us vs Q E hr e0 hb r cJ=>?_⟩
 have hl:=len _ _ _ _ cJ
 have KX:K.In s.heap:=e0.mod.kin.keeps fun b o e=>(e0.bs b o e).1
 have oQ:s.heap.NoLimit:=e0.mod.nolimit.keeps fun b o e=>(e0.bs b o e).1
 have cr:∀y∈ps.zip us,scope.names.lookup y.1=some .local\/(scope.names.lookup y.1=some .cell/\((cellsFrom (s.heap.objs.size+1) scope.names []).lookup y.1).isSome=true):=fun⟨n,v⟩ hy=>by
  rcases S.par n (List.of_mem_zip hy).1 with q |q
  . exact .inl q
  . exact .inr ⟨q,PySem.W.cellsFrom_some _ _ _ (.inl q)⟩
 refine codeAny_call_function hr.depth (KX _ _ lk) rfl S.co S.gen rfl (PySem.W.codeRec_of KX bp) (hb _ _ _ _ ?_)
 refine wpAny_newFunctionEnv_cells S.kind cr fun env he s1 x=>?_
 subst he
 refine⟨oQ.keeps x.toInCall.keep,codeAny_func ?_⟩
 obtain⟨t,ht,hq⟩:=bo A outer s H vs Q E (hr.deeper _) cJ
 have I:Inv (J5 CX P w K mg base N qual scope f cdv A outer s H E) [] (E5 N vs) H s1:=zJ S hr.hd e0 hl r x
 refine AJ (ht [] s1 (E5 N vs) H _ I hq) (fun fl s' hs=>?_) fun e s' hs=>hs
 have fin:∀{ak:St}{H':Hp}{v:V}{u:Value},Inv (J5 CX P w K mg base N qual scope f cdv A outer s H E) [] ak H' s'->RelV v u->Q v H'->CE outer P w H s Q u s':=
  fun {ak H' v u} J rv q=>⟨v,H',J.os,J.bare,J.base,J.hok,rv,q⟩
 cases fl with
 |ret u=>
  obtain⟨v,ak,H',J,rv,q⟩:=hs
  exact fin J rv q
 |next=>
  obtain⟨ak,H',J,q⟩:=hs
  exact fin (v:=V.non) (u:=Value.none) J rfl q
 |brk=>
  obtain⟨_,_,_,q⟩:=hs
  exact False.elim q
 |cont=>
  obtain⟨_,_,_,q⟩:=hs
  exact False.elim q
section
variable {X:Cx}{x:Str}{p pos:Pos}{e:Expr}{es:List Expr}{t:TA}{id T:String}{r:List V->Hp->VK->Prop}
noncomputable def tCB(r:List V->Hp->VK->Prop)(t:TA):TE:=fun U H Q=>t U H fun vs H1=>r vs H1 Q
theorem Cf(hc:CallR X (.builtin id) r)(hg:Gl X x)(hm:X.mg x=none)(hv:bootBuiltins x=some (.builtin id))(ha:PA X (e::es) t)(hn:x≠"__name__":=by decide)(az:(x==("__debug__":Str))=false:=by decide)
  (he:starEach (e::es) X.env=(false,eval e X.env)::starEach es X.env:=by rfl) (hpl:(backTo pos (starEach es X.env)).any (·.1)=false:=by rfl):PE X (.Call (.Name x p) (e::es) [] pos) (tCB r t):=by
 intro pins s U H Q I h
 refine CG (Bs I hg hm hv ?_ hn az)
 exact PyProof.Rows.callWith_builtin1 (thn (ha pos pins s U H _ I h) fun us s1 ⟨vs,H1,I1,r1,q1⟩=>hc pins s1 U H1 vs us Q I1 r1 q1) he hpl
theorem zI(hc:CallR X (.type T) r)(hg:Gl X x)(hm:X.mg x=none)(hv:bootBuiltins x=some (.type T))(ha:PA X (e::es) t)(hn:x≠"__name__":=by decide)(az:(x==("__debug__":Str))=false:=by decide)
  (he:starEach (e::es) X.env=(false,eval e X.env)::starEach es X.env:=by rfl) (hpl:(backTo pos (starEach es X.env)).any (·.1)=false:=by rfl):PE X (.Call (.Name x p) (e::es) [] pos) (tCB r t):=by
 intro pins s U H Q I h
 refine CG (Bs I hg hm hv ?_ hn az)
 exact PyProof.Rows.callWith_type1 (thn (ha pos pins s U H _ I h) fun us s1 ⟨vs,H1,I1,r1,q1⟩=>hc pins s1 U H1 vs us Q I1 r1 q1) he hpl
end
end L2
namespace HT
open PySem PyProof.Rows
theorem rcLt_int(A:Around)(s:Shared)(a:Int)(t:Tok)(c:Int)(u:Tok)(prog:Program)(w:World)(E:Value->Shared->Prop)(Q:Value->Shared->Prop)(h:Q (.bool (decide (a<c))) s) :
  wpAny (model prog w) A (richCompare .Lt (.int a t) (.int c u)) Q E s:=
 (PyProof.Rows.lt_int h:wpAny (model prog w) A (compareOp .Lt (.int a t) (.int c u)) Q E s)
section
open PySem.SeqAt
open PySem.AutoSeq1 (wpAny_loadPart')
open PySem.MeetsSeq PySem.MeetsSeq2 PySem.MeetsSeq3
end
section
def sIx(n d:Nat):Option Int->Nat
 |none=>d
 |some v=>if v<0 then(v+(n:Int)).toNat else min v.toNat n
end
end HT
namespace L2
open PySem PySem.Spec PyProof.Rows
abbrev TO:=St->Hp->(Option Int->Hp->Prop)->Prop
def PO(X:Cx)(e:Option Expr)(t:TO):Prop:=
 ∀(pins:List (Addr×Obj))(s:Shared)(U:St)(H:Hp)(Q:Option Int->Hp->Prop),Inv X pins U H s->t U H Q ->
  wpAny (model X.prog X.w) X.A (evalPart e X.env) (fun u s'=>∃o H',Inv X pins U H' s'/\IsPart u o/\Q o H') X.xe s
noncomputable def xx:TO:=fun _ H Q=>Q none H
noncomputable def y2y(t:TE):TO:=fun U H Q=>t U H fun x H1=>∃i,x=.int i/\Q (some i) H1
theorem Gb:∀{us:List Value},Vals (ns.map V.int) us->IntsAre us ns:=by
 induction ns with
 |nil=>intro us r;rw[AQ]at r;cases r;exact .nil
 |cons n ns ih=>
  intro us r
  rw[io]at r
  cases r with
  |cons r1 r2=>
   obtain⟨t,e⟩:=r1
   subst e
   exact .cons n t (ih r2)
section
variable {X:Cx}{e:Expr}{te:TE}{lo hi:Option Expr}{tl th:TO}{pos p2:Pos}
theorem po_none:PO X none xx:=by intro pins s U H Q I h;rw[evalPart_none];exact γ ⟨none,H,I,.none,h⟩
theorem xw(h:PE X e te):PO X (some e) (y2y te):=by
 intro pins s U H Q I hw;rw[evalPart_some];refine thn (h pins s U H _ I hw) fun u s1 ⟨x,H1,I1,r1,q1⟩=>?_
 obtain⟨i,rfl,q⟩:=q1;obtain⟨t,rfl⟩:=r1;exact⟨some i,H1,I1,.int i t,q⟩
def SlR(X:Cx)(r:V->Option Int->Option Int->Hp->VK->Prop):Prop:=
 ∀(pins:List (Addr×Obj))(s:Shared)(U:St)(H:Hp)(x:V)(v vl vu:Value)(lo hi:Option Int)(sl:Addr)(Q:VK),Inv X pins U H s->RelV x v->s.heap.IsSliceOf sl vl vu .none->IsPart vl lo->IsPart vu hi->r x lo hi H Q ->
  ∃T id,typeLookup (.type T) "__getitem__"=pure (some (.builtin id))/\s.TypeIs v T/\wpAny (model X.prog X.w) X.A (getItem v (.ref sl)) (EP X pins U Q) X.xe s
noncomputable def tSl(r:V->Option Int->Option Int->Hp->VK->Prop)(te:TE)(tl th:TO):TE:=fun U H Q=>te U H fun x H1=>tl U H1 fun l H2=>th U H2 fun u H3=>r x l u H3 Q
theorem yP(hr:SlR X r)(he:PE X e te)(hl:PO X lo tl)(hu:PO X hi th):PE X (.Subscript e (.Slice lo hi none p2) pos) (tSl r te tl th):=by
 intro pins s U H Q I h;refine Subscript_ (thn (he pins s U H _ I h) fun v s1 ⟨x,H1,I1,r1,q1⟩=>?_);refine wpAny_Slice (thn (hl pins s1 U H1 _ I1 q1) fun vl s2 ⟨l,H2,I2,pl,q2⟩=>thn (hu pins s2 U H2 _ I2 q2) fun vu s3 ⟨u,H3,I3,pu,q3⟩=>?_);rw[evalPart_none];refine γ ?_;have I4:Inv X pins U H3 { s3 with heap:=s3.heap.push { cls:=.type "slice",data:=.fields #[vl,vu,.none] } }:=I3.kept (t':=s3.toks) fun b ob q=>ω _ q
 obtain⟨T,id,hT,ht,hg⟩:=hr pins { s3 with heap:=s3.heap.push { cls:=.type "slice",data:=.fields #[vl,vu,.none] } } U H3 x v vl vu l u s3.heap.objs.size Q I4 r1 (Heap.IsSliceOf.new ..) pl pu q3;show wpAny (model X.prog X.w) X.A (subscriptTail e (.Slice lo hi none p2) v (.ref s3.heap.objs.size)) (EP X pins U Q) X.xe { s3 with heap:=s3.heap.push { cls:=.type "slice",data:=.fields #[vl,vu,.none] } };exact tail_any (ops:=[.ref s3.heap.objs.size,v]) ht hT hg (by with_unfolding_all rfl)
noncomputable def W7(xs:List V)(lo hi:Option Int):List V:=(xs.drop (HT.sIx xs.length 0 lo)).take (HT.sIx xs.length xs.length hi - HT.sIx xs.length 0 lo)
theorem zg5(xs:List V)(lo hi:Option Int):(W7 xs lo hi).length<=xs.length:=by unfold W7;rw[DI,List.length_drop];omega
end
noncomputable def ixN(n:Nat)(i:Int):Option Nat:=if 0<=i then(if i<n then some i.toNat else none) else if -(n:Int)<=i then some (i+n).toNat else none
def atI{α:Type}(xs:List α)(i:Int):Option α:=(ixN xs.length i).bind fun j=>xs[j]?
theorem xv(h:ixN n i=some j):seqIndex? i n=some j/\j<n/\-(n:Int)<=i/\i<n:=by
 unfold ixN at h;by_cases h0:0<=i
 . rw[ζ h0]at h;by_cases h1:i<n
   . rw[ζ h1]at h;have e:i.toNat=j:=Option.some.inj h;exact⟨by rw[seqIndex_of h0 h1,e],by lia,by lia,h1⟩
   . rw[ξ h1]at h;cases h
 . rw[ξ h0]at h;by_cases h1:-(n:Int)<=i
   . rw[ζ h1]at h;have e:(i+n).toNat=j:=Option.some.inj h;exact⟨by rw[seqIndex_neg (by lia) h1,e],by lia,h1,by lia⟩
   . rw[ξ h1]at h;cases h
theorem Lj(h:atI xs i=some v):∃j,seqIndex? i xs.length=some j/\xs[j]?=some v/\j<xs.length/\-(xs.length:Int)<=i/\i<xs.length:=by
 unfold atI at h;cases e:ixN xs.length i with
 |none=>rw[e]at h;cases h
 |some j=>
  rw[e]at h
  obtain⟨h1,h2,h3,h4⟩:=xv e
  exact⟨j,h1,h,h2,h3,h4⟩
theorem Z0{α:Type}{xs:List α}{j:Nat}{v:α}(h:xs[j]?=some v):atI xs (j:Int)=some v:=by
 have hj:j<xs.length:=(AX.mp h).1;have e:ixN xs.length (j:Int)=some j:=by unfold ixN;rw[ζ (by lia),ζ (by lia)];simp
 unfold atI;rw[e];exact h
theorem yO(xs:List α)(v:α):atI (xs++[v]) (-1)=some v:=by
 have hl:(xs++[v]).length=xs.length+1:=by simp
 have e:ixN (xs++[v]).length (-1)=some xs.length:=by
  unfold ixN;rw[hl,ξ (by decide),ζ (by lia)];congr 1
  lia
 unfold atI;rw[e];show(xs++[v])[xs.length]?=some v;simp
def Li(b:Expr):Prop:=∀o i,subscripted b false o i=operate [o,i] (getItem o i)
def IxR(X:Cx)(r:R2):Prop:=
 ∀(value slice:Expr)(pins:List (Addr×Obj))(s:Shared)(U:St)(H:Hp)(x y:V)(v u:Value)(Q:VK),Inv X pins U H s->RelV x v->RelV y u->r x y H Q ->
  subscripted slice false v u=operate [v,u] (getItem v u)->wpAny (model X.prog X.w) X.A (subscriptTail value slice v u) (EP X pins U Q) X.xe s
def MtR(X:Cx)(id:String)(r:V->List V->Hp->VK->Prop):Prop:=
 ∀(pins:List (Addr×Obj))(s:Shared)(U:St)(H:Hp)(x:V)(xs:List V)(v:Value)(us:List Value)(Q:VK),Inv X pins U H s->RelV x v->Vals xs us->r x xs H Q ->
  wpAny (model X.prog X.w) X.A (call (.builtin id) (v::us)) (EP X pins U Q) X.xe s
section
variable {X:Cx}{a b:Expr}{ta tb:TE}{pos:Pos}
theorem IxR.or(h:IxR X r)(h':IxR X r'):IxR X (fun x y H Q=>r x y H Q\/r' x y H Q):=by
 intro value slice pins s U H x y v u Q I rx ry q hs;rcases q with q |q
 . exact h value slice pins s U H x y v u Q I rx ry q hs
 . exact h' value slice pins s U H x y v u Q I rx ry q hs
theorem y2z(hr:IxR X r)(ha:PE X a ta)(hb:PE X b tb)(hs:Li b):PE X (.Subscript a b pos) (tOp r ta tb):=by intro pins s U H Q I h;exact Subscript_ (Ql ha hb I h fun v u s2 x y H2 I2 rx ry q=>hr a b pins s2 U H2 x y v u Q I2 rx ry q (hs _ _))
def kN(K:Frag):R2:=fun x y H Q=>∃p xs i v,x=.ref p/\y=.int i/\SqL K H p xs/\atI xs i=some v/\Q v H
def kM(K:Frag):R2:=fun x y H Q=>∃p xs i v,x=.ref p/\y=.int i/\SqT K H p xs/\atI xs i=some v/\Q v H
def kL:R2:=fun x y H Q=>∃z i c,x=.str z/\y=.int i/\z.length<=sizeLine/\atI z.cps.toList i=some c/\Q (.str ⟨#[c]⟩) H
theorem ix_list:IxR X (kN X.K):=by
 intro value slice pins s U H x y v u Q I rx ry h hs;obtain⟨p,xs,i,z,rfl,rfl,hq,he,q⟩:=h;cases rx;obtain⟨t,rfl⟩:=ry;obtain⟨its,r,pl,hz⟩:=I.list hq;obtain⟨j,h1,h2,h3,h4,h5⟩:=Lj he;obtain⟨w,ew,cx⟩:=r.get h2;have hl:=r.length;have hn:=Y4;have fin:EP X pins U Q w s:=⟨z,H,I,cx,q⟩;by_cases h0:0<=i
 . have hj:i.toNat=j:=by
    rw[seqIndex_of h0 h5]at h1
    exact Option.some.inj h1
   exact item_listR pl.isList h0 (by lia) (by rw[hj];simpa using ew) fin hs
 . have hj:(i+(its.toArray.size:Int)).toNat=j:=by
    rw[seqIndex_neg (by lia) h4]at h1
    rw[AB,<-hl]
    exact Option.some.inj h1
   exact subscriptTail_builtinR (x:=w) pl.isList.typeIs slot_list_getitem.lookup
    (wpAny_getItem_list_neg (Q:=fun r s'=>r=w/\EP X pins U Q r s') pl.isList (by lia) (by rw[AB]<;>lia) (by lia) (by rw[hj];simpa using ew) ⟨rfl,fin⟩) hs
theorem ix_tup:IxR X (kM X.K):=by
 intro value slice pins s U H x y v u Q I rx ry h hs;obtain⟨p,xs,i,z,rfl,rfl,hq,he,q⟩:=h;cases rx;obtain⟨t,rfl⟩:=ry;obtain⟨its,r,pl,hz⟩:=I.tuple hq;obtain⟨j,h1,h2,h3,h4,h5⟩:=Lj he;obtain⟨w,ew,cx⟩:=r.get h2;have hl:=r.length;have hn:=Y4;have fin:EP X pins U Q w s:=⟨z,H,I,cx,q⟩;exact subscriptTail_builtinR (x:=w) pl.typeIs slot_tuple_getitem.lookup
  (getItem_tuple (j:=j) (Q:=fun r s'=>r=w/\EP X pins U Q r s') pl (by lia) (by lia) (by rw[AB,<-hl];exact h1) (by simpa using ew) ⟨rfl,fin⟩) hs
theorem vn:IxR X kL:=by
 intro value slice pins s U H x y v u Q I rx ry h hs;obtain⟨z,i,c,rfl,rfl,hz,he,q⟩:=h;obtain⟨t,rfl⟩:=rx;obtain⟨t',rfl⟩:=ry;obtain⟨j,h1,h2,h3,h4,h5⟩:=Lj he;have hl:z.cps.toList.length=z.length:=by simp[Str.length]
 rw[hl]at h1 h4 h5;have hn:=Y4;exact tail_any (typeIs_str s z t) slot_str_getitem.lookup (getItem_str (c:=c) (by have e1:decide (i < -(2 ^ 63:Int))=false:=decide_eq_false (by lia);have e2:decide (i ≥ 2 ^ 63)=false:=decide_eq_false (by lia);rw[e1,e2,Bool.or_false]) (by rw[h1];simpa using h2) ⟨.str ⟨#[c]⟩,H,I.tok _,⟨_,rfl⟩,q⟩) hs
def rIx(K:Frag):R2:=fun x y H Q=>kN K x y H Q\/kM K x y H Q\/kL x y H Q
theorem ix_seq:IxR X (rIx X.K):=ix_list.or (ix_tup.or vn)
theorem Inv.lst(I:Inv X pins U H s)(h:H p=some (.lst xs)) :
  ∃(its:List Value)(n:Nat),Vals xs its/\s.heap.get? p=some { cls:=.type "list",data:=.seq its.toArray n }/\xs.length<=sizeLine:=by
 obtain⟨z,its,n,r,e⟩:=I.hok p _ h
 exact⟨its,n,r,e,z⟩
theorem zee(lo hi:Option Int)(n:Nat):(sliceBounds lo hi none n).1=((HT.sIx n 0 lo:Nat):Int)/\(sliceBounds lo hi none n).2.1=((HT.sIx n n hi:Nat):Int)/\(sliceBounds lo hi none n).2.2=1:=by
 refine⟨?_,?_,rfl⟩
 . cases lo with
   |none=>simp[sliceBounds,HT.sIx]
   |some i=>
    simp only[sliceBounds,HT.sIx,Option.getD_none,show(1:Int) > 0 by decide,BM]
    by_cases h:i<0
    . simp only[h,BM]<;>lia
    . simp only[h,BK]<;>lia
 . cases hi with
   |none=>simp[sliceBounds,HT.sIx]
   |some i=>
    simp only[sliceBounds,HT.sIx,Option.getD_none,show(1:Int) > 0 by decide,BM]
    by_cases h:i<0
    . simp only[h,BM]<;>lia
    . simp only[h,BK]<;>lia
theorem zcn(its:List Value)(lo hi:Option Int):slicePick its.toArray lo hi none=((its.drop (HT.sIx its.length 0 lo)).take (HT.sIx its.length its.length hi - HT.sIx its.length 0 lo)).toArray:=by obtain⟨h1,h2,h3⟩:=zee lo hi its.toArray.size;unfold slicePick;rw[h1,h2,h3];simp only[sliceRange_one,pick_run,AB]<;>rfl
def kK(K:Frag):V->Option Int->Option Int->Hp->VK->Prop:=fun x lo hi H Q=>∃a xs,x=.ref a/\SqL K H a xs/\∀p,H p=none->Q (.ref p) (upd H p (.lst (W7 xs lo hi)))
theorem Fq:SlR X (kK X.K):=by intro pins s U H x v vl vu lo hi sl Q I rx hs pl pu h;obtain⟨a,xs,rfl,hx,q⟩:=h;cases rx;obtain⟨its,r,ht,hz⟩:=I.list hx;have am:=r.length;refine⟨"list",_,slot_list_getitem.lookup,ht.isList.typeIs,?_⟩;refine wpAny_getItem_list_slice ht.isList hs pl pu .none (by simp) ?_ (by rw[AB]<;>lia);rw[zcn,<-am];refine⟨.ref s.heap.objs.size,_,I.laid (t':=s.toks) (o:=.lst (W7 xs lo hi)) (fun b ob q=>ω _ q) (η _) ?_,rfl,q _ (I.hok.fresh (η _))⟩;exact⟨AA (zg5 xs lo hi) hz,_,0,(r.drop (HT.sIx xs.length 0 lo)).take (HT.sIx xs.length xs.length hi - HT.sIx xs.length 0 lo),π _ rfl⟩
theorem call_len_seq:CallR X (.builtin "len") (fun xs H Q=>∃p ys,xs=[.ref p]/\(SqL X.K H p ys\/SqT X.K H p ys)/\Q (.int ys.length) H):=by
 intro pins s U H xs us Q I r h;obtain⟨p,ys,rfl,hq,q⟩:=h;obtain⟨u,rfl,rx⟩:=z5 r;cases rx;have hn:=Y4;rcases hq with hq |hq
 . obtain⟨its,r',pl,hz⟩:=I.list hq;have am:=r'.length;exact Calls.call_len_list pl.isList (by simp only[AB]<;>lia) ⟨.int ys.length,H,I.tok _,⟨s.toks+1,by rw[AB,am]⟩,q⟩
 . obtain⟨its,r',pl,hz⟩:=I.tuple hq;have am:=r'.length;exact len_tuple pl (by simp only[AB]<;>lia) ⟨.int ys.length,H,I.tok _,⟨s.toks+1,by rw[AB,am]⟩,q⟩
theorem zef:CallR X (.builtin "len") (fun xs H Q=>∃z,xs=[.str z]/\z.length<=sizeLine/\Q (.int z.length) H):=by intro pins s U H xs us Q I r h;obtain⟨z,rfl,hz,q⟩:=h;obtain⟨u,rfl,t,rfl⟩:=z5 r;have hn:=Y4;exact len_str (by lia) ⟨.int z.length,H,I.tok _,⟨_,rfl⟩,q⟩
theorem CallR.or(h:CallR X f r)(h':CallR X f r'):CallR X f (fun xs H Q=>r xs H Q\/r' xs H Q):=by
 intro pins s U H xs us Q I rs q;rcases q with q |q
 . exact h pins s U H xs us Q I rs q
 . exact h' pins s U H xs us Q I rs q
theorem zeg:CallR X (.type "list") (fun xs H Q=>∃p ys,xs=[.ref p]/\(SqL X.K H p ys\/SqT X.K H p ys)/\∀l,H l=none->Q (.ref l) (upd H l (.lst ys))):=by
 intro pins s U H xs us Q I r h;obtain⟨p,ys,rfl,hq,q⟩:=h;obtain⟨u,rfl,rx⟩:=z5 r;cases rx;have fin:∀(its:List Value),Vals ys its->ys.length<=sizeLine->∀(h':Heap)(c':Nat),(∀b o',s.heap.get? b=some o'->h'.get? b=some o') ->
   h'.get? s.heap.objs.size=some { cls:=.type "list",dict:=none,data:=.seq its.toArray c',slots:=#[] }->EP X pins U Q (.ref s.heap.objs.size) { s with heap:=h' }:=fun its r' hz h' c' kp e=>
  ⟨.ref s.heap.objs.size,_,I.laid (t':=s.toks) kp (η _) (show ObjOk X.prog X.w _ h' _ (.lst ys) from⟨hz,its,c',r',e⟩),rfl,q _ (I.hok.fresh (η _))⟩
 rcases hq with hq |hq
 . obtain⟨its,r',pl,hz⟩:=I.list hq;have am:=r'.length;obtain⟨o,ho,hc,n,hd⟩:=pl.isList;exact call_list_seq p (.inl rfl) ho hc hd (fun h' c' kp e=>fin its r' hz h' c' kp e) (by simp only[AB]<;>lia)
 . obtain⟨its,r',pl,hz⟩:=I.tuple hq;have am:=r'.length;obtain⟨o,ho,hc,n,hd⟩:=pl;exact call_list_seq p (.inr rfl) ho hc hd (fun h' c' kp e=>fin its r' hz h' c' kp e) (by simp only[AB]<;>lia)
theorem zcp:CallR X (.type "tuple") (fun xs H Q=>∃p ys,xs=[.ref p]/\((SqL X.K H p ys/\∀l,H l=none->Q (.ref l) (upd H l (.tup ys)))\/(SqT X.K H p ys/\Q (.ref p) H))):=by
 intro pins s U H xs us Q I r h;obtain⟨p,ys,rfl,h⟩:=h;obtain⟨u,rfl,rx⟩:=z5 r;cases rx;rcases h with⟨hq,q⟩ |⟨hq,q⟩
 . obtain⟨its,r',pl,hz⟩:=I.list hq;have am:=r'.length;refine call_tuple_list pl.isList (fun h' kp=>?_) (by simp only[AB]<;>lia);have I1:Inv X pins U H { s with heap:=h' }:=I.kept (t':=s.toks) kp;have I2:Inv X pins U (upd H h'.objs.size (.tup ys)) { s with heap:=h'.push { cls:=.type "tuple",data:=.seq its.toArray } }:=
    I1.laid (t':=s.toks) (fun b o e=>ω _ e) (η _) (show ObjOk X.prog X.w _ _ _ (.tup ys) from⟨hz,its,r',.mk' (π _ rfl)⟩)
   exact⟨.ref h'.objs.size,_,I2,rfl,q _ (I1.hok.fresh (η _))⟩
 . obtain⟨its,r',pl,hz⟩:=I.tuple hq;exact call_tuple_same pl ⟨.ref p,H,I,rfl,q⟩
def tyV(K:Frag)(T:String)(x:V)(H:Hp):Prop:=match x with
 | .str _=>T="str"
 | .int _=>T="int"
 | .ref p=>(T="list"/\∃xs,SqL K H p xs)\/(T="tuple"/\∃o,K.lookup p=some o/\o.cls=.type "tuple"/\o.dict=none) \/
  (T="dict"/\((∃kvs,H p=some (.dK kvs))\/∃kvs,H p=some (.dT kvs)))\/(T="set"/\∃S n,H p=some (.set S n))
 |_=>False
theorem vm(I:Inv X pins U H s)(r:RelV x v)(ty:tyV X.K T x H) :
  s.TypeIs v T/\∀a,v=.ref a->∃ob,s.heap.get? a=some ob/\ob.dict=none:=by
 cases x with
 |str z=>
  obtain⟨t,rfl⟩:=r
  cases (show T="str" from ty)
  exact⟨typeIs_str s z t,fun _ e=>nomatch e⟩
 |int i=>
  obtain⟨t,rfl⟩:=r
  cases (show T="int" from ty)
  exact⟨typeIs_int s i t,fun _ e=>nomatch e⟩
 |ref p=>
  cases r
  rcases ty with⟨rfl,xs,hq⟩ |⟨rfl,o,hk,hc,hd⟩ |⟨rfl,hk⟩ |⟨rfl,S,n,hk⟩
  . obtain⟨its,_,pl,_⟩:=I.list hq;refine⟨pl.isList.typeIs,fun a e=>?_⟩;cases e;obtain⟨o,n,e,c,hd,_⟩:=pl;exact⟨o,e,hd⟩
  . refine⟨⟨o,I.kIn p o hk,hc⟩,fun a e=>?_⟩;cases e;exact⟨o,I.kIn _ o hk,hd⟩
  . have z:∃o,s.heap.get? p=some o/\o.ExactDict:=by
     rcases hk with⟨kvs,hk⟩ |⟨kvs,hk⟩
     . obtain⟨_,_,_,_,o,_,_,e,ex,_⟩:=I.hok p _ hk;exact⟨o,e,ex⟩
     . obtain⟨_,_,_,_,o,_,_,e,ex,_⟩:=I.hok p _ hk;exact⟨o,e,ex⟩
    obtain⟨o,e,ex⟩:=z
    refine⟨⟨o,e,ex.1⟩,fun a e2=>?_⟩
    cases e2
    exact⟨o,e,ex.2.1⟩
  . obtain⟨o,_,_,_,e,ex,_⟩:=I.hok p _ hk;refine⟨⟨o,e,ex.1⟩,fun a e2=>?_⟩;cases e2;exact⟨o,e,ex.2.1⟩
 |_=>exact False.elim ty
def tBM(K:Frag)(T:String)(r:V->List V->Hp->VK->Prop)(to:TE)(t:TA):TE:=fun U H Q=>to U H fun x H1=>tyV K T x H1/\t U H1 fun xs H2=>r x xs H2 Q
variable {o e:Expr}{es:List Expr}{to:TE}{t:TA}{name:Str}{aw ag:Pos}{T id:String}{r:V->List V->Hp->VK->Prop}
theorem Ec(pa:PlainAttrs T)(slot:Slot T name id)(eL:typeOf (.builtin id)=pure (.type "method_descriptor"))(hm:MtR X id r)(ho:PE X o to)(ha:PA X (e::es) t)
  (aP:attributeBase o name X.env (eval o X.env)=eval o X.env:=by rfl)
  (cf:((backTo ag (starEach (e::es) X.env)).all (fun x=>!x.1)&&(backToKw ag (keywordEach [] X.env)).all (fun x=>x.1.isSome)
   && decide ((e::es).length+([]:List Keyword).length+(if([]:List Keyword).isEmpty then 0 else 1)<30))=true:=by rfl)
  (bO:(aw.endLine==ag.line)=true:=by rfl) (hs:starEach (e::es) X.env=(false,eval e X.env)::starEach es X.env:=by rfl) (bc:(backTo ag (starEach es X.env)).any (·.1)=false:=by rfl) :
  PE X (.Call (.Attribute o name aw) (e::es) [] ag) (tBM X.K T r to t):=by
 intro pins s U H Q I h
 refine wpAny_Call_method_late aP cf bO rfl (thn (ho pins s U H _ I h) fun v s1 ⟨x,H1,I1,r1,ty,q1⟩=>?_)
 obtain⟨h1,h2⟩:=vm I1 r1 ty
 refine⟨T,id,pa,slot,eL,h1,h2,?_⟩
 have hA:=ha ag pins s1 U H1 _ I1 q1
 rw[hs]at hA⊢
 refine Calls.callWith_builtin (by show(false||(backTo ag (starEach es X.env)).any (·.1))=false;rw[bc]<;>rfl) (Calls.evalArgs_plain ?_)
 exact thn hA fun us s2 ⟨vs,H2,I2,r2,q2⟩=>hm pins s2 U H2 x vs v us Q I2 r1 r2 q2
end
def MtM(X:Cx)(id:String)(r:V->List V->Hp->VK->Prop):Prop:=
 ∀(pins:List (Addr×Obj))(s:Shared)(U:St)(H:Hp)(x:V)(xs:List V)(v:Value)(us:List Value)(Q:VK),Inv X pins U H s->RelV x v->Vals xs us->r x xs H Q ->
  wpAny (model X.prog X.w) X.A (call (.builtin id) (v::us)) (EP X pins U Q) X.xe s
theorem Vals.one:∀{x:V}{us:List Value},Vals [x] us->∃u,us=[u]/\RelV x u
 |_,_,.cons r .nil=>⟨_,rfl,r⟩
section
variable {X:Cx}{pins:List (Addr×Obj)}{U:St}{H:Hp}{s:Shared}{l:Addr}{xs ys:List V}
theorem Inv.lset{its its':List Value}{n:Nat}{f:Array Value->Array Value}{t':Nat}(I:Inv X pins U H s)(hH:H l=some (.lst xs))
  (e:s.heap.get? l=some { cls:=.type "list",data:=.seq its.toArray n }) (hf:f its.toArray=its'.toArray) (hv:Vals ys its') (hz:ys.length<=sizeLine) :
  Inv X pins U (upd H l (.lst ys)) { s with heap:=s.heap.update l (Obj.mapSeq f),toks:=t' }:=by
 have q:=PySem.IsL.update e f
 rw[hf]at q
 refine I.write (x:=l) (e:=l) (by rw[hH];exact trivial) (.inl rfl) (fun b' u hb hu=>(BI s.heap (Obj.mapSeq f) (BX hb)).trans hu) ⟨_,q⟩ ?_
 exact⟨hz,its',_,hv,q⟩
theorem Inv.lnew(I:Inv X pins U H s)(hv:Vals ys its)(hz:ys.length<=sizeLine) :
  Inv X pins U (upd H s.heap.objs.size (.lst ys)) { s with heap:=s.heap.push { cls:=.type "list",data:=.seq its.toArray },toks:=t' }:=
 I.laid (fun _ _ q=>ω _ q) (η _) ⟨hz,its,0,hv,π _ rfl⟩
theorem Inv.fresh(I:Inv X pins U H s):H s.heap.objs.size=none:=I.hok.fresh (η _)
theorem Inv.lstM(I:Inv X pins U H s)(hH:H l=some (.lst xs)):xs.length<=sizeLine/\∃(its:List Value)(n:Nat),Vals xs its/\xs.length=its.length/\s.heap.get? l=some { cls:=.type "list",data:=.seq its.toArray n }:=by obtain⟨z,its,n,r,e⟩:=I.hok l _ hH;exact⟨z,its,n,r,r.length,e⟩
end
section
variable {X:Cx}
def Vs:V->List V->Hp->VK->Prop:=fun x vs H Q=>∃l xs y,x=.ref l/\vs=[y]/\H l=some (.lst xs)/\xs.length<sizeLine/\Q .non (upd H l (.lst (xs++[y])))
theorem Ck:MtM X "list.append" Vs:=by
 intro pins s U H x vs v us Q I rx rv h;obtain⟨l,xs,y,rfl,rfl,hH,hz,q⟩:=h;cases rx;obtain⟨u,rfl,ru⟩:=rv.one;obtain⟨z,its,n,r,hl,e⟩:=I.lstM hH;refine call_meets F.slot_list_append ⟨_,e,rfl⟩ F.entry_list_append (F.args_list_append_2 _ _) (PySem.list_append l its.toArray n u (by rw[AB];lia)) ⟨e,?_⟩;refine⟨.non,_,I.lset (its':=its++[u]) hH e (by simp) (r.append (.cons ru .nil)) ?_,rfl,q⟩;rw[AY,List.length_singleton]
 lia
def kJ:R2:=fun x y H Q=>∃l b xs zs,x=.ref l/\y=.ref b/\H l=some (.lst xs)/\H b=some (.lst zs)/\xs.length+zs.length<=sizeLine/\∀p,H p=none->Q (.ref p) (upd H p (.lst (xs++zs)))
theorem M3:OpR X (binaryOp .Add) kJ:=by
 intro pins s U H x y v u Q I rx ry h;obtain⟨l,b,xs,zs,rfl,rfl,hH,hB,hz,q⟩:=h;cases rx;cases ry;obtain⟨z,its,n,r,hl,e⟩:=I.lstM hH;obtain⟨z2,aR,n2,r2,mF,e2⟩:=I.lstM hB;refine PySem.P.add_list e e2 ?_ (by rw[AB,AB];omega);have ea:its.toArray++aR.toArray=(its++aR).toArray:=by simp
 rw[ea];exact⟨.ref _,_,I.lnew (t':=s.toks) (r.append r2) (by rw[AY];omega),rfl,q _ I.fresh⟩
end
section
variable {κ:Type}[DecidableEq κ]
noncomputable def E2(kvs:List (κ×V))(k:κ):Option V:=(kvs.find? fun kv=>decide (kv.1=k)).map (·.2)
noncomputable def Qj(kvs:List (κ×V))(k:κ)(v:V):List (κ×V):=
 if(kvs.any fun kv=>decide (kv.1=k))=true then kvs.map (fun kv=>if kv.1=k then(kv.1,v) else kv) else kvs++[(k,v)]
noncomputable def Rj(kvs:List (κ×V))(k:κ):List (κ×V):=kvs.filter fun kv=>decide (kv.1≠k)
theorem Wv{p:κ×V}{r:List (κ×V)}{k:κ}(e:p.1=k):E2 (p::r) k=some p.2:=by simp[E2,CU,e]
theorem Wu{p:κ×V}{r:List (κ×V)}{k:κ}(e:¬p.1=k):E2 (p::r) k=E2 r k:=by simp[E2,CU,e]
theorem RelO.isSome_eq(r:RelO o u):o.isSome=u.isSome:=by
 cases o with
 |none=>cases u with
  |none=>rfl
  |some _=>exact(show False from r).elim
 |some _=>cases u with
  |none=>exact(show False from r).elim
  |some _=>rfl
theorem RelO.getD(r:RelO o u)(rd:RelV d d'):RelV (o.getD d) (u.getD d'):=by
 cases o with
 |none=>cases u with
  |none=>exact rd
  |some _=>exact(show False from r).elim
 |some _=>cases u with
  |none=>exact(show False from r).elim
  |some _=>exact r
theorem KV.val(r:KV kvs vs)(k:κ):RelO (E2 kvs k) (valueAt vs k):=by
 unfold KV at r;induction r with
 |nil=>exact True.intro
 | @cons p q ps qs h t ih=>
  obtain⟨h1,h2⟩:=h
  by_cases e:p.1=k
  . have e':q.1=k:=h1.symm.trans e;have b:valueAt (q::qs) k=some q.2:=by simp[valueAt,CU,e']
    rw[Wv e,b];exact h2
  . have e':¬q.1=k:=fun z=>e (h1.trans z)
    have b:valueAt (q::qs) k=valueAt qs k:=by simp[valueAt,CU,e']
    rw[Wu e,b];exact ih
theorem KV.any(r:KV kvs vs)(k:κ):(kvs.any fun kv=>decide (kv.1=k))=vs.any fun kv=>decide (kv.1=k):=by
 unfold KV at r;induction r with
 |nil=>rfl
 |cons h t ih=>rw[EA,EA,ih,h.1]
theorem KV.drop(r:KV kvs vs)(k:κ):KV (Rj kvs k) (without vs k):=by
 unfold KV at r⊢;unfold Rj without;induction r with
 |nil=>exact .nil
 | @cons p q ps qs h t ih=>
  obtain⟨h1,h2⟩:=h
  rw[DY,DY]
  by_cases e:p.1=k
  . have a:¬decide (p.1≠k)=true:=by simp[e]
    have b:¬decide (q.1≠k)=true:=by simp[h1.symm.trans e]
    rw[ξ a,ξ b];exact ih
  . have e':¬q.1=k:=fun z=>e (h1.trans z)
    have a:decide (p.1≠k)=true:=by simp[e]
    have b:decide (q.1≠k)=true:=by simp[e']
    rw[ζ a,ζ b];exact .cons ⟨h1,h2⟩ ih
theorem KV.length(r:KV kvs vs):kvs.length=vs.length:=Paired.length r
end
theorem Eb(r:RelV (kV k) u):(K5 P w).is k u=true:=by
 cases k with
 |inl i=>obtain⟨t,e⟩:=(show ∃t,u=Value.int i t from r);subst e;exact zg1 P w i t
 |inr x=>obtain⟨t,e⟩:=(show ∃t,u=Value.str x t from r);subst e;exact zg2 P w x t
theorem Xq:∀{ks:List Key}{us:List Value},Vals (ks.map kV) us->ItemsAre (K5 P w) ks us
 | [],_,r=>by rw[AQ]at r;cases r;exact .nil
 |k::ks,_,r=>by
  rw[io]at r;cases r with
  |cons h t=>exact .cons (Eb h) (Xq t)
abbrev KT(H:Hp):List (List Key×V)->List (List Key×Addr×Value)->Prop:=Paired fun p q=>p.1=q.1/\H q.2.1=some (.tup (p.1.map kV))/\RelV p.2 q.2.2
theorem KT.val(r:KT H kvs xs)(k:List Key):RelO (E2 kvs k) ((atKey xs k).map (·.2)):=by
 induction r with
 |nil=>exact True.intro
 | @cons p q ps qs h t ih=>
  obtain⟨h1,_,h2⟩:=h
  by_cases e:p.1=k
  . have e':q.1=k:=h1.symm.trans e;have b:atKey (q::qs) k=some q.2:=by simp[atKey,CU,e']
    rw[Wv e,b];exact h2
  . have e':¬q.1=k:=fun z=>e (h1.trans z)
    have b:atKey (q::qs) k=atKey qs k:=by simp[atKey,CU,e']
    rw[Wu e,b];exact ih
section
variable {P:Program}{w:World}{H:Hp}{h:Heap}{a:Addr}
theorem Ri(ok:HOk P w H h)(e:Rd H a u):ObjOk P w H h a u:=e.ok ok
theorem Bj(ok:HOk P w H h)(e:Rd H a (.dK kvs)):kvs.length<=sizeLine/\(a==sysModules)=false/\∃vs,KV kvs vs/\h.DictOf (K5 P w) a vs:=
 show ObjOk P w H h a (.dK kvs) from Ri ok e
theorem Fa(ok:HOk P w H h)(e:H a=some (.tup (ks.map kV))):(tupleKind (K5 P w)).is h ks a:=by obtain⟨_,its,r,o,h1,h2,⟨n,h3⟩,_⟩:=(show ObjOk P w H h a (.tup (ks.map kV)) from ok a _ e);exact⟨o,its.toArray,n,h1,h2,h3,by simpa using Xq r⟩
theorem Ea(ok:HOk P w H h)(e:Rd H a (.dT kvs)):kvs.length<=sizeLine/\(a==sysModules)=false /\
  ∃xs,KT H kvs xs/\h.DictOfH (tupleKind (K5 P w)) a xs:=by
 obtain⟨z,y,xs,r,o,es,ep,h1,h2,h3,h4,h5⟩:=(show ObjOk P w H h a (.dT kvs) from Ri ok e)
 refine⟨z,y,xs,r,o,es,ep,h1,h2,h3,h4,fun x hx=>?_,h5⟩
 have all:∀{l:List (List Key×V)}{m:List (List Key×Addr×Value)},KT H l m->∀x∈m,(tupleKind (K5 P w)).is h x.1 x.2.1:=by
  intro l m q;induction q with
  |nil=>intro x hx;exact nomatch hx
  | @cons p q ps qs hq t ih=>
   intro x hx
   rcases gq.mp hx with e |hx
   . subst e;exact Fa ok (by rw[<-hq.1];exact hq.2.1)
   . exact ih x hx
 exact all r x hx
end
def DGet(H:Hp)(a:Addr)(y:V)(r:Option V):Prop:=
 (∃kvs k,Rd H a (.dK kvs)/\y=kV k/\r=E2 kvs k)\/∃kvs k b,Rd H a (.dT kvs)/\y=.ref b/\H b=some (.tup (k.map kV))/\r=E2 kvs k
def DPut(H:Hp)(a:Addr)(y v:V)(H':Hp):Prop:=
 (∃kvs k,H a=some (.dK kvs)/\y=kV k/\kvs.length<sizeLine/\H'=upd H a (.dK (Qj kvs k v))) \/
 ∃kvs k b,H a=some (.dT kvs)/\y=.ref b/\H b=some (.tup (k.map kV))/\kvs.length<sizeLine/\H'=upd H a (.dT (Qj kvs k v))
theorem DGet.k{H:Hp}{a:Addr}{kvs:List (Key×V)}{k:Key}(e:H a=some (.dK kvs)):DGet H a (kV k) (E2 kvs k):=.inl ⟨kvs,k,.inl e,rfl,rfl⟩
theorem DGet.t{H:Hp}{a b:Addr}{kvs:List (List Key×V)}{k:List Key}(e:H a=some (.dT kvs))(eb:H b=some (.tup (k.map kV))):DGet H a (.ref b) (E2 kvs k):=.inr ⟨kvs,k,b,.inl e,rfl,eb,rfl⟩
theorem DPut.t{H:Hp}{a b:Addr}{kvs:List (List Key×V)}{k:List Key}{v:V}(e:H a=some (.dT kvs))(eb:H b=some (.tup (k.map kV)))(hl:kvs.length<sizeLine) :
 DPut H a (.ref b) v (upd H a (.dT (Qj kvs k v))):=.inr ⟨kvs,k,b,e,rfl,eb,hl,rfl⟩
section
variable {X:Cx}{pins:List (Addr×Obj)}{U:St}{H:Hp}{s:Shared}{a:Addr}{y v:V}{u:Value}{o:Option V}{A:Around}{E:Value->Shared->Prop}
theorem zH(hu:A.units+1<cLine)(I:Inv X pins U H s)(g:DGet H a y (some v))(ry:RelV y u)(h:∀w' s',Inv X pins U H s'->RelV v w'->Q w' s') :
  wpAny (model X.prog X.w) A (getItem (.ref a) u) Q E s:=by
 rcases g with⟨kvs,k,e,ey,l⟩ |⟨kvs,k,b,e,ey,eb,l⟩
 . subst ey;obtain⟨z,hd,vs,rel,dd⟩:=Bj I.hok e;obtain⟨w',hw,cx⟩:=RelO.some_of (v:=v) (o:=valueAt vs k) (by rw[l];exact rel.val k);exact wpAny_getItem_of (Eb ry) dd.mapOf hw (h w' _ (I.tok _) cx)
 . subst ey;cases (show u=Value.ref b from ry);obtain⟨z,hd,xs,rel,dd⟩:=Ea I.hok e;obtain⟨w',hw,cx⟩:=RelO.some_of (v:=v) (o:=(atKey xs k).map (·.2)) (by rw[l];exact rel.val k);obtain⟨p,hp,cy⟩:=BQ.mp hw;refine wpAny_getItem_heap (tupleKind_room_in1 hu) (Fa I.hok eb) dd hp ?_;rw[cy];exact h w' _ (I.tok _) cx
theorem y7n(hu:A.units+1<cLine)(I:Inv X pins U H s)(g:DGet H a y o)(ry:RelV y u)(h:∀s',Inv X pins U H s'->Q (.bool o.isSome) s') :
  wpAny (model X.prog X.w) A (compareOp .In u (.ref a)) Q E s:=by
 rcases g with⟨kvs,k,e,ey,l⟩ |⟨kvs,k,b,e,ey,eb,l⟩
 . subst ey;obtain⟨z,hd,vs,rel,dd⟩:=Bj I.hok e;refine wpAny_in_of (Eb ry) hd dd.mapOf ?_;rw[<-(rel.val k).isSome_eq,<-l];exact h _ (I.tok _)
 . subst ey;cases (show u=Value.ref b from ry);obtain⟨z,hd,xs,rel,dd⟩:=Ea I.hok e;refine wpAny_in_heap (tupleKind_room_in1 hu) (Fa I.hok eb) hd dd ?_;have q:=(rel.val k).isSome_eq;rw[Option.isSome_map]at q;rw[<-q,<-l];exact h _ (I.tok _)
theorem xu(hu:A.units+1<cLine)(I:Inv X pins U H s)(g:DGet H a y o)(ry:RelV y u)(h:∀s',Inv X pins U H s'->Q (.bool (!o.isSome)) s') :
  wpAny (model X.prog X.w) A (compareOp .NotIn u (.ref a)) Q E s:=by
 rcases g with⟨kvs,k,e,ey,l⟩ |⟨kvs,k,b,e,ey,eb,l⟩
 . subst ey;obtain⟨z,hd,vs,rel,dd⟩:=Bj I.hok e;refine wpAny_notIn_of (Eb ry) hd dd.mapOf ?_;rw[<-(rel.val k).isSome_eq,<-l];exact h _ (I.tok _)
 . subst ey;cases (show u=Value.ref b from ry);obtain⟨z,hd,xs,rel,dd⟩:=Ea I.hok e;refine wpAny_notIn_heap (tupleKind_room_in1 hu) (Fa I.hok eb) hd dd ?_;have q:=(rel.val k).isSome_eq;rw[Option.isSome_map]at q;rw[<-q,<-l];exact h _ (I.tok _)
end
section
variable {X:Cx}{pins:List (Addr×Obj)}{U:St}{H:Hp}{s:Shared}{a:Addr}{kvs:List (Key×V)}{A:Around}{E:Value->Shared->Prop}
theorem y31(I:Inv X pins U H s)(e:Rd H a (.dK kvs))(h:∀t s',Inv X pins U H s'->Q (.int kvs.length t) s'):wpAny (model X.prog X.w) A (call (.builtin "len") [.ref a]) Q E s:=by obtain⟨z,hd,vs,rel,dd⟩:=Bj I.hok e;refine call_len_dict hd dd (by rw[<-rel.length];rw[EG]at z;lia) ?_;rw[<-rel.length];exact h _ _ (I.tok _)
end
theorem zg8(I:Inv X pins U H s)(g:DGet H a y o):s.TypeIs (.ref a) "dict":=by
 rcases g with⟨kvs,k,e,_,_⟩ |⟨kvs,k,b,e,_,_,_⟩
 . obtain⟨_,_,vs,_,dd⟩:=Bj I.hok e;exact dd.typeIs
 . obtain⟨_,_,xs,_,dd⟩:=Ea I.hok e;exact dd.typeIs
end L2
namespace Att
open PySem PySem.W PySem.Calls PyProof.Rows
theorem za0:∀(ns:List Int)(vs:List Value),WellAll P h vs (ns.map WData.int)->IntsAre vs ns:=by
 intro ns;induction ns with
 |nil=>
  intro vs w
  rw[AQ]at w
  cases w
  exact .nil
 |cons n ns ih=>
  intro vs w
  rw[io]at w
  cases w with
  |cons a b=>
   cases a
   exact .cons _ _ (ih _ b)
theorem zG{l:OpenLaw}{n:Nat}(hn:l.most=some n){P:Params}{h:Heap}{args:List WData}{ay:List Value}
  (eZ:l.row.toRowW.claim.pre args=true) (dB:WellAll P h ay args) :
  ∃a vs ns,ay=[Value.ref a]/\args=[WData.list (ns.map WData.int)]/\h.get? a=some { cls:=.type "list",data:=.seq vs.toArray }/\IntsAre vs ns/\ns.length<=n:=by
 have oR:WShape.hasAll [] args [.list .int]=true:=(pre_splitW eZ).1
 have hc:l.pre.holds [] { args:=args }=true:=(pre_splitW eZ).2
 obtain⟨d,r,rfl,h1,h2⟩:=hasAllW_cons oR
 obtain rfl:=hasAllW_nil h2
 obtain⟨xs,rfl,h3⟩:=hasW_list h1
 obtain⟨ns,rfl⟩:=items_int h3
 have am:ns.length<=n:=by
  unfold OpenLaw.pre at hc;have h4:(WTm.not (.lt (.lit (.int (n:Int))) (.len (.arg 0)))).holds [] { args:=[.list (ns.map .int)] }=true:=by have h4:=(holds_andW hc).1;rw[hn]at h4;exact h4
  have h5:=condW_of h4 (w_not (w_lt w_lit (w_len_list (w_arg rfl))));rw[gV]at h5;refine Nat.le_of_not_lt fun q=>?_
  have q':(n:Int)<((ns.length:Nat):Int):=by omega
  first
   | (rw[decide_eq_true q']at h5;exact absurd h5 (by decide))
   | (simp at h5;omega)
 cases dB with
 |cons w1 w2=>
  cases w2
  cases w1 with
  |list ho dQ=>exact⟨_,_,ns,rfl,rfl,ho,za0 ns _ dQ,am⟩
theorem zF(l:OpenLaw)(args:List WData):l.row.toRowW.claim.post args (.bool true) args=true:=
 postW_of (r:=l.row.toRowW) (X:=(true==true))
  (show WShape.has [] (.bool true) .bool=true by first |rfl |decide |simp[WShape.has,WShape.arms,WShape.armsAll])
  (show(WTm.eq .res (.lit (.bool true))).value [] { args:=args,res:=some (.bool true),after:=args }=some (.bool (true==true)) from w_eq_bool (w_res rfl) w_lit) rfl
theorem attach_call{l:OpenLaw}{n:Nat}{q:Program}{loose:List Str}{XP:(Str->Option Value)->Heap->Prop}{YP:World->Heap->Prop}{d:DefRec}
  (hn:l.most=some n) (fW:d.params.defaults=[])
  (call:∀(w:World)(s₀ ah:Shared)(mg mb:Str->Option Value)(fa:Addr)(o:Obj)(pm cd doc:Value)(a:Addr)(vs:List Value)(ns:List Int),
   Ground q loose [] XP w s₀ mg mb ah.heap->YP w ah.heap ->
   ah.heap.get? fa=some o->o.data=.func (docDef d.name d.params d.body d.scope pm cd doc)->ah.heap.CodeRec cd d.name->mg d.name=some (.ref fa) ->
   ah.heap.get? a=some { cls:=.type "list",data:=.seq vs.toArray }->IntsAre vs ns->ns.length<=n->ah.gens=#[] ->
   codeAny (model l.prog w) callerA (.call (.ref fa) ⟨[.ref a],[]⟩) (fun r s'=>r=.ok (.ret (.bool true))/\OldK ah.heap s'.heap/\s'.os=ah.os/\AllBare s'.gens) ah) :
  WalkO q loose XP YP l.row.toRowW d [] (fun f vs=>PySem.call f vs):=by
 intro w s₀ ah mg mb G Y fa o pm cd doc dV kV ho hd bp hD bZ hg args ay as eZ ui uu dB uv
 obtain rfl:dV=.none:=Dflts.none hD fW
 obtain rfl:kV=.none:=Dflts.noKw hD
 obtain⟨a,vs,ns,rfl,rfl,fJ,eG,am⟩:=zG hn eZ dB
 refine enter_call (EO (call w s₀ ah mg mb fa o pm cd doc a vs ns G Y ho (fd_plain hd) bp bZ fJ eG am hg) fun r s' hq=>?_)
 obtain⟨rfl,h2,h3,h4⟩:=hq
 exact⟨.inl ⟨.bool true,.bool true,[],rfl,fun _=>rfl,.bool true,zF l _,fun _=>⟨List.Pairwise.nil,fun _ hm=>(nomatch hm)⟩⟩,h2,h3,h4⟩
section
def noObjs(h:Heap):Heap:={ h with objs:=#[] }
theorem noObjs_get(h:Heap)(b:Addr):(noObjs h).get? b=none:=by
 cases e:(noObjs h).get? b with
 |none=>rfl
 |some o=>exact absurd (Heap.lt_size e) (Nat.not_lt_zero _)
theorem fr_all(n:h.Ns L m):Fr (noObjs h) L h m:=
 ⟨n,fun b o e=>(by rw[noObjs_get]at e;cases e),BU _⟩
end
end Att
namespace L2
open PySem PySem.Spec PyProof.Rows
theorem Xp:∀{vs:List Value}{ns:List Int},IntsAre vs ns->Vals (ns.map V.int) vs
 |_,_,.nil=>.nil
 |_,_,.cons n t h=>.cons ⟨t,rfl⟩ (Xp h)
def Gz(H:Hp):Prop:=∀b,H b=none\/∃o xs,H b=some (.frz o (.lst xs))
theorem yN{P:Program}{w:World}{K:Frag}{mg mb:Str->Option Value}{CX:CXT}{k:Nat}{fa a:Addr}{fd:FuncData}{x:Str}{sp:Sp}{ah:Shared}{vs:List Value}{ns:List Int}
  (KX:K.In ah.heap) (df:ah.heap.Ns mainGlobals mg) (hb:ah.heap.Ns builtinsNs mb) (oS:∀x:Str,x≠"__name__"->mb x=bootBuiltins x) (lS:ah.heap.NoLimit) (hg:ah.gens=#[])
  (ha:ah.heap.get? a=some { cls:=.type "list",data:=.seq vs.toArray }) (hi:IntsAre vs ns) (hl:ns.length<=sizeLine) (hr:Room k callerA)
  (F:∀base:Heap,K.In base->base.Ns mainGlobals mg->FnOk P w K mg base CX k fa fd [x] sp) (iG:∀(s:Shared)(u:Value),BindsTo s fd ⟨[u],[]⟩ [(x,u)])
  (cJ:∀H:Hp,Gz H->SqL K H a (ns.map V.int)->sp [.ref a] H (fun v _=>v=.bl true) fun _ _ _=>False)
  (iR:∀H e s',CX [] H ah (fun _ _ _=>False) e s'->False) :
  codeAny (model P w) callerA (.call (.ref fa) ⟨[.ref a],[]⟩) (fun r s'=>r=.ok (.ret (.bool true))/\OldK ah.heap s'.heap/\s'.os=ah.os/\AllBare s'.gens) ah:=by
 have rv:=Xp hi
 have lT:=hi.length
 have ii:∀H:Hp,Gz H->SqL K H a (ns.map V.int)->HOk P w H ah.heap->(∀b,H b≠none->b=a)->(H a≠none->K.lookup a=none) ->
   codeAny (model P w) callerA (.call (.ref fa) ⟨[.ref a],[]⟩) (fun r s'=>r=.ok (.ret (.bool true))/\OldK ah.heap s'.heap/\s'.os=ah.os/\AllBare s'.gens) ah:=by
  intro H hO hS hok hA hK
  have dO:∀{b:Addr}{o:Obj},ah.heap.get? b=some o->H b=none->(N3 ah.heap H).get? b=some o:=fun e n=>yW e n
  have fV:∀{b:Addr}{o:Obj}{es:Array DictEntry}{ep:Nat},ah.heap.get? b=some o->o.data=.dict es ep->H b=none:=fun {b o es ep} e d=>by
   cases q:H b with
   |none=>rfl
   |some u=>
    have e':b=a:=hA b (by rw[q];simp)
    subst e'
    rw[ha]at e;cases e
    have d':Data.seq vs.toArray _=Data.dict es ep:=d
    cases d'
  have gM:∀{b:Addr}{m:Str->Option Value},ah.heap.Ns b m->(N3 ah.heap H).Ns b m:=fun {b m} ⟨o,es,ep,e,d,r⟩=>⟨o,es,ep,dO e (fV e d),d,r⟩
  have mG:K.In (N3 ah.heap H):=fun b o e=>dO (KX b o e) (by
   cases q:H b with
   |none=>rfl
   |some u=>
    have e':b=a:=hA b (by rw[q];simp)
    subst e'
    rw[hK (by rw[q];simp)]at e;cases e)
  have hM:Mod K mg (N3 ah.heap H):=⟨mG,gM df,⟨mb,gM hb,oS⟩,let ⟨mc,h1,h2⟩:=lS;⟨mc,gM h1,h2⟩⟩
  have e0:Env0 P w K mg (N3 ah.heap H) callerA [] ah H:=⟨rfl,hM,fun b o e=>xI e,Nat.le_of_eq (zS _ _),trivial,fun b hb=>absurd (show b∈([]:List Addr) from hb) (by simp),hok,.of_eq hg⟩
  refine EO ((F _ mG (gM df)).run callerA [] ah H ⟨[.ref a],[]⟩ [.ref a] [.ref a] _ _ hr e0 (iG ah (.ref a)) (.cons rfl .nil) (cJ H hO hS)) fun r s' h=>?_
  cases r with
  |error e=>exact(iR H e s' h).elim
  |ok fl=>
   cases fl with
   |next=>exact False.elim h
   |brk=>exact False.elim h
   |cont=>exact False.elim h
   |ret u=>
    obtain⟨v,H',os,bare,un,lU,r',q⟩:=h
    have q':v=.bl true:=q
    subst q'
    obtain rfl:u=Value.bool true:=r'
    refine⟨rfl,OldK.of_keep fun b o e=>?_,os,bare⟩
    cases q:H b with
    |none=>exact un.keep b o e q (by intro z;exact absurd (show b∈([]:List Addr) from z) (by simp)) (by simp)
    |some u=>
     rcases hO b with z |⟨ob,xs,z⟩
     . rw[q]at z;cases z
     . have z2:=un.frzs b ob _ z;obtain⟨e1,_⟩:=hok b _ z;obtain⟨e2,_⟩:=lU b _ z2;rw[e]at e1;cases e1;exact e2
 cases hk:K.lookup a with
 |some o=>
  have e:=KX a o hk
  rw[ha]at e
  cases e
  refine ii (fun _=>none) (fun _=>.inl rfl) (.inr ⟨_,vs.toArray,_,hk,rfl,rfl,rfl,by rw[AB,lT];exact hl,by simpa using rv⟩) (fun b u z=>by have z':(none:Option HO)=some u:=z;cases z') (fun b z=>absurd rfl z) fun z=>absurd rfl z
 |none=>
  refine ii (fun b=>if b=a then some (.frz { cls:=.type "list",data:=.seq vs.toArray } (.lst (ns.map V.int))) else none) (fun b=>?_) (.inl (.inr ⟨{ cls:=.type "list",data:=.seq vs.toArray },ζ rfl⟩)) (fun b u z=>?_) (fun b z=>?_) fun _=>hk
  . by_cases hb:b=a
    . exact .inr ⟨_,_,ζ hb⟩
    . exact .inl (ξ hb)
  . by_cases hb:b=a
    . have z':=(ζ hb).symm.trans z;cases z';subst hb;exact⟨ha,by rw[gV];exact hl,vs,_,rv,ha⟩
    . have z':=(ξ hb).symm.trans z;cases z'
  . by_cases hb:b=a
    . exact hb
    . exact absurd (ξ hb) z
theorem walk_of{l:PySem.W.OpenLaw}{n k:Nat}{q:Program}{loose:List Str}{XP:(Str->Option Value)->Heap->Prop}{YP:World->Heap->Prop}{d:DefRec}{K:Params->Frag}{CX:World->CXT}{sp:World->Sp}{x:Str}
  (hn:l.most=some n) (eJ:n<=sizeLine) (fW:d.params.defaults=[]) (hr:Room k callerA)
  (hY:∀(w:World)(h:Heap),YP w h->(K w.params).In h)
  (F:∀(w:World)(mg:Str->Option Value)(fa:Addr)(h:Heap),(K w.params).In h->h.Ns mainGlobals mg->mg d.name=some (.ref fa) ->
   ∃fd:FuncData,(∀(s:Shared)(u:Value),BindsTo s fd ⟨[u],[]⟩ [(x,u)]) /\
    ∀base:Heap,(K w.params).In base->base.Ns mainGlobals mg->FnOk l.prog w (K w.params) mg base (CX w) k fa fd [x] (sp w))
  (cJ:∀(w:World)(H:Hp)(a:Addr)(ns:List Int),ns.length<=n->Gz H->SqL (K w.params) H a (ns.map V.int)->sp w [.ref a] H (fun v _=>v=.bl true) fun _ _ _=>False)
  (iR:∀(w:World)(H:Hp)(s:Shared)(e:Value)(s':Shared),CX w [] H s (fun _ _ _=>False) e s'->False) :
  PySem.W.WalkO q loose XP YP l.row.toRowW d [] (fun f vs=>PySem.call f vs):=by
 refine Att.attach_call hn fW fun w s₀ ah mg mb fa o pm cd doc a vs ns G Y ho hd bp bZ fJ eG am hg=>?_
 have KX:=hY w _ Y
 obtain⟨fd,hb,hF⟩:=F w mg fa _ KX G.T.g bZ
 exact yN KX G.T.g G.T.b G.T.builtins G.T.nolimit hg fJ eG (AA am eJ) hr hF hb (fun H hO hS=>cJ w H a ns am hO hS) fun H e s'=>iR w H ah e s'
abbrev CX0:CXT:=fun _ _ _ _ _ _=>False
structure Fun(K:Frag)(x qual:Str)(st:Stmt)(f:Addr)(fd:FuncData):Prop where
 ex:∃(oc:Value)(od:Option Addr)(kV doc pm:Value)(an:Option Addr)(cdv ct:Value)(osl:Array (Option Value)),
  fd=PySem.W.fnOf x qual (B6 st) (t9 st) (i7 st) .none kV doc pm an cdv ct/\K.lookup f=some ⟨oc,od,.func fd,osl⟩/\codeIn K cdv qual=true
 kp:keepIn K (.ref f)=true
section
variable {P:Program}{w:World}{K:Frag}{mg:Str->Option Value}{base:Heap}
theorem Fun.ok{x qual:Str}{st:Stmt}{f:Addr}{fd:FuncData}{N ps:List Str}{k:Nat}{sp:Sp}(F:Fun K x qual st f fd)(S:FnScope N ps (i7 st))(len:∀vs H Q E,sp vs H Q E->vs.length=ps.length)
  (bo:∀(cdv:Value)(A:Around)(outer:List Env)(s:Shared)(H:Hp)(vs:List V)(Q:VK)(E:XK),Room k (A.deeper (envOfC qual (i7 st) s.heap.objs.size f cdv))->sp vs H Q E ->
   ∃t,PSs (J5 CX0 P w K mg base N qual (i7 st) f cdv A outer s H E).nox (t9 st) t/\t { nx:=fun _ H'=>Q .non H',rt:=Q } (E5 N vs) H):FnOk P w K mg base CX0 (k+1) f fd ps sp:=by
 obtain⟨oc,od,kV,doc,pm,an,cdv,ct,osl,rfl,lk,bp⟩:=F.ex
 refine Jj lk bp S len fun A outer s H vs Q E hr cJ=>?_
 obtain⟨t,h,q⟩:=bo cdv A outer s H vs Q E hr cJ
 exact⟨t,h.nox,q⟩
theorem Fun.binds{x qual:Str}{st:Stmt}{f:Addr}{fd:FuncData}{ps:List Str}(F:Fun K x qual st f fd)
  (h:∀(kV doc pm:Value)(an:Option Addr)(cdv ct:Value)(us:List Value),us.length=ps.length->bindArgs (PySem.W.fnOf x qual (B6 st) (t9 st) (i7 st) .none kV doc pm an cdv ct) ⟨us,[]⟩=pure (ps.zip us)):Binds K fd ps []:=by
 obtain⟨oc,od,kV,doc,pm,an,cdv,ct,osl,rfl,lk,bp⟩:=F.ex
 exact .all (h kV doc pm an cdv ct)
theorem Tn{x qual:Str}{st:Stmt}{f:Addr}{oc:Value}{od an:Option Addr}{osl:Array (Option Value)}{kV doc pm cdv ct:Value}(l:K.lookup f=some ⟨oc,od,.func (PySem.W.fnOf x qual (B6 st) (t9 st) (i7 st) .none kV doc pm an cdv ct),osl⟩)
 (c:codeIn K cdv qual=true) (k:keepIn K (.ref f)=true):Fun K x qual st f (PySem.W.fnOf x qual (B6 st) (t9 st) (i7 st) .none kV doc pm an cdv ct):=⟨⟨oc,od,kV,doc,pm,an,cdv,ct,osl,rfl,l,c⟩,k⟩
end
section
variable {X:Cx}
theorem pv(i:Nat)(hN:X.N[i]?=some x:=by rfl)(hv:Vis X.env.scope x:=by first |exact .inl rfl |exact .inr (.inl rfl) |exact .inr (.inr rfl))(hd:(x==("__debug__":Str))=false:=by decide)
 (bp:(x==("__classdict__":Str))=false:=by decide):PE X (.Name x pos) (Qp i):=Bt hN hv hd bp
theorem call_lenD:CallR X (.builtin "len") (fun xs H Q=>∃a kvs,xs=[V.ref a]/\H a=some (.dK kvs)/\Q (.int kvs.length) H):=by intro pins s U H xs us Q I r h;obtain⟨a,kvs,rfl,ha,q⟩:=h;obtain⟨u,rfl,ru⟩:=z5 r;cases ru;exact y31 I (.inl ha) fun t s' I'=>⟨.int kvs.length,H,I',⟨t,rfl⟩,q⟩
end
def Same(H H':Hp):Prop:=∀b o,H b=some o->H' b=some o
theorem Same.refl(H:Hp):Same H H:=fun _ _ h=>h
theorem Same.trans(a:Same H H1)(b:Same H1 H2):Same H H2:=fun c o h=>b c o (a c o h)
theorem Same.free(e:Same H H')(h:H' l=Option.none):H l=Option.none:=by
 cases q:H l with
 |none=>rfl
 |some o=>
  rw[e l o q]at h
  cases h
theorem Same.seq{K:Frag}{H H':Hp}{a:Addr}{xs:List V}(e:Same H H')(h:SqL K H a xs):SqL K H' a xs:=by
 rcases h with (h |⟨o,h⟩) |h
 . exact .inl (.inl (e _ _ h))
 . exact .inl (.inr ⟨o,e _ _ h⟩)
 . exact .inr h
noncomputable def B5(cells:List (Str×Addr)):List (Str×NameKind)->List (Str×Addr)->List (Str×Addr)
 | [],acc=>acc
 | (n,k)::r,acc=>B5 cells r (if k==.free then(n,(cells.lookup n).getD 0)::acc else acc)
theorem jv:∀{names:List (Str×NameKind)}{acc:List (Str×Addr)},
  (∀y∈names,y.2=.free->∃c,cells.lookup y.1=some c)->(∀y c,acc.lookup y=some c->cells.lookup y=some c)->(B5 cells names acc).lookup x=some c->cells.lookup x=some c
 | [],acc,_,ha,h=>ha x c h
 | (n,k)::r,acc,hf,ha,h=>by
  refine jv (names:=r) (fun y hy=>hf y (bI _ hy)) (fun y c'=>?_) h;by_cases hk:k=.free
  . subst hk;obtain⟨c0,e0⟩:=hf (n,.free) dg rfl;intro e;have e1:(if(NameKind.free==NameKind.free)=true then(n,(cells.lookup n).getD 0)::acc else acc)=(n,(cells.lookup n).getD 0)::acc:=ζ (show(NameKind.free==NameKind.free)=true from rfl);rw[e1,DH]at e;cases fX:y==n with
    |true=>
     rw[fX]at e
     have e2:y=n:=by simpa using fX
     subst e2
     have e3:=Option.some.inj e
     have oU:cells.lookup y=some c0:=e0
     rw[oU]at e3⊢
     exact BG some e3
    |false=>rw[fX]at e;exact ha y c' e
  . have e1:(if(k==NameKind.free)=true then(n,(cells.lookup n).getD 0)::acc else acc)=acc:=ξ (by simpa using hk);rw[e1];exact ha y c'
theorem Nm:∀{names:List (Str×NameKind)}{acc:List (Str×Addr)},
  ((∃c,acc.lookup x=some c)\/∃y∈names,y.2=.free/\y.1=x)->∃c,(B5 cells names acc).lookup x=some c
 | [],acc,h=>by
  rcases h with h |⟨y,hy,_⟩
  . exact h
  . cases hy
 | (n,k)::r,acc,h=>by
  refine Nm (names:=r) ?_;by_cases hk:k=.free
  . subst hk;have e1:(if(NameKind.free==NameKind.free)=true then(n,(cells.lookup n).getD 0)::acc else acc)=(n,(cells.lookup n).getD 0)::acc:=ζ (show(NameKind.free==NameKind.free)=true from rfl);rw[e1,DH];cases oV:x==n with
    |true=>exact .inl ⟨_,rfl⟩
    |false=>
     rcases h with h |⟨y,hy,hf,e⟩
     . exact .inl h
     . rcases gq.mp hy with z |z
       . subst z;have e':n=x:=e;subst e';simp at oV
       . exact .inr ⟨y,z,hf,e⟩
  . have e1:(if(k==NameKind.free)=true then(n,(cells.lookup n).getD 0)::acc else acc)=acc:=ξ (by simpa using hk);rw[e1];rcases h with h |⟨y,hy,hf,e⟩
    . exact .inl h
    . rcases gq.mp hy with z |z
      . subst z;exact absurd hf hk
      . exact .inr ⟨y,z,hf,e⟩
theorem jm(hf:∀y∈scope.names,y.2=.free->∃c,env.cells.lookup y.1=some c):closureFor scope env=pure (B5 env.cells scope.names []):=by
 have go:∀(names:List (Str×NameKind))(acc:List (Str×Addr)),(∀y∈names,y.2=.free->∃c,env.cells.lookup y.1=some c) ->
   (forIn names acc fun x cs=>if(x.2==NameKind.free)=true then do let a <-cellOf env x.1;pure (ForInStep.yield ((x.1,a)::cs)) else pure (ForInStep.yield cs):Sem (List (Str×Addr)))=pure (B5 env.cells names acc):=by
  intro names
  induction names with
  |nil=>intro acc _;rfl
  |cons p r ih=>
   intro acc h
   obtain⟨n,k⟩:=p
   rw[List.forIn_cons]
   by_cases hk:k=.free
   . subst hk;obtain⟨c,e⟩:=h (n,.free) dg rfl;have e':env.cells.lookup n=some c:=e;have e1:cellOf env n=pure c:=by unfold cellOf;rw[e']
     have e2:B5 env.cells ((n,NameKind.free)::r) acc=B5 env.cells r ((n,c)::acc):=by show B5 env.cells r (if(NameKind.free==NameKind.free)=true then(n,(env.cells.lookup n).getD 0)::acc else acc)=_;rw[ζ (show(NameKind.free==NameKind.free)=true from rfl),e'];rfl
     rw[e2,<-ih _ fun y hy=>h y (bI _ hy)];show((if(NameKind.free==NameKind.free)=true then do let a <-cellOf env n;pure (ForInStep.yield ((n,a)::acc)) else pure (ForInStep.yield acc)) >>= _:Sem _)=_;rw[ζ (show(NameKind.free==NameKind.free)=true from rfl),e1];rfl
   . have mH:(k==NameKind.free)=false:=by simpa using hk
     have e2:B5 env.cells ((n,k)::r) acc=B5 env.cells r acc:=by show B5 env.cells r (if(k==NameKind.free)=true then _ else acc)=_;rw[ξ (by rw[mH];exact θ)]
     rw[e2,<-ih _ fun y hy=>h y (bI _ hy)];show((if(k==NameKind.free)=true then do let a <-cellOf env n;pure (ForInStep.yield ((n,a)::acc)) else pure (ForInStep.yield acc)) >>= _:Sem _)=_;rw[ξ (by rw[mH];exact θ)];rfl
 have:=go scope.names [] hf;unfold closureFor;simpa using this
theorem zej(I:Nat->Shared->Prop)
  (turn:∀n s,I n s->wpAny (model prog w) A (pyNext it) (fun r ah=>match r with
   |none=>R (.ok .next) ah
   |some v=>wpAny (model prog w) A (letOwnedTupleGo target it v) (fun _ fG=>wpAny (model prog w) A (assign target env v) (fun _ bu=>
    wpAny (model prog w) A (forIn aE true fun c r=>if r=true then do let ok <-isTrue c env (eval c env);pure (ForInStep.yield ok) else pure (ForInStep.yield r)) (fun ok aC=>
     if ok=true then wpAny (model prog w) A (eval aM env) (fun x cE=>
      wpAny (model prog w) A (call (.builtin "list.append") [acc,x]) (fun _ ij=>∃m,m<n/\I m ij) (fun _ _=>False) cE) (fun _ _=>False) aC
     else ∃m,m<n/\I m aC) (fun _ _=>False) bu) (fun _ _=>False) fG) (fun _ _=>False) ah) (fun _ _=>False) s)
  (n:Nat) (h:I n s) :
  codeAny (model prog w) A (.compLoop (.ListComp aM [⟨target,iter,aE,0⟩] scope pos) 0 it acc env) R s:=by
 refine codeAny_loop rfl I (fun n s hI=>?_) n h
 show wpAny _ A ((compTurn (.ListComp aM [⟨target,iter,aE,0⟩] scope pos) 0 it acc env).onRaise (fun x=>do noteFrame x env;theTreesLotGoes x)) _ _ s
 refine wpAny_noted ?_
 rw[compTurn_list]
 refine χ (wpAny_standAt (χ (AJ (turn n s hI) (fun r ah dm=>?_) fun _ _ h'=>h'.elim)))
 cases r with
 |none=>exact γ dm
 |some v=>
  refine χ (AJ dm (fun _ fG iH=>?_) fun _ _ h'=>h'.elim)
  refine χ (AJ iH (fun _ bu lV=>χ (AJ lV (fun ok aC ik=>?_) fun _ _ h'=>h'.elim)) fun _ _ h'=>h'.elim)
  cases ok with
  |false=>exact γ ⟨rfl,ik⟩
  |true=>
   exact χ (χ (AJ ik (fun x cE lW=>χ (AJ lW (fun _ ij lX=>γ (γ ⟨rfl,lX⟩)) fun _ _ h'=>h'.elim)) fun _ _ h'=>h'.elim))
theorem Ov{env:Env}:∀{names:List (Str×NameKind)}{x:Str},
  (names.map fun (n,k)=>if(k==NameKind.free&&env.scope.kind==.function&&env.kindOf n==some .cell) then(n,NameKind.cell) else(n,k)).lookup x =
   (names.lookup x).map fun k=>if(k==NameKind.free&&env.scope.kind==.function&&env.kindOf x==some .cell) then NameKind.cell else k
 | [],_=>rfl
 | (n,k)::r,x=>by
  have ih:=@Ov env r x;show List.lookup x ((if(k==NameKind.free&&env.scope.kind==.function&&env.kindOf n==some .cell)=true then(n,NameKind.cell) else(n,k))::_)=_;cases hx:x==n with
  |true=>
   have e:x=n:=by simpa using hx
   subst e
   by_cases hc:(k==NameKind.free&&env.scope.kind==.function&&env.kindOf x==some .cell)=true
   . rw[ζ hc];simp only[DH,hx,uZ,hc,BM]
   . rw[ξ hc];simp only[DH,hx,uZ,hc,BK];rfl
  |false=>
   by_cases hc:(k==NameKind.free&&env.scope.kind==.function&&env.kindOf n==some .cell)=true
   . rw[ζ hc];simp only[DH,hx];exact ih
   . rw[ξ hc];simp only[DH,hx];exact ih
def n9(X:Cx)(sc:Scope)(N':List Str)(fp:List Addr)(aC:Shared)(lY:Hp):Cx:=
 { X with env:=compEnvC sc (B5 X.env.cells sc.names []) aC.heap.objs.size X.env,N:=N',s₀:=aC,H₀:=lY,outer:=X.stack,ex:=fp,fn:=fun _=>false,pn:=[],xe:=fun _ _=>False }
noncomputable def L7(ix:List Nat)(U:St):St:=ix.map fun j=>(U[j]?).getD none
structure CompOk(X:Cx)(sc:Scope)(caps:List Str)(ix:List Nat):Prop where
 calm:X.calm=true
 kind:sc.kind=.function
 ncell:∀y∈sc.names,y.2≠.cell
 free:∀y∈sc.names,y.2=.free->X.env.kindOf y.1=some .cell\/X.env.kindOf y.1=some .free
 names:∀y∈sc.names,y.2=.local->sc.names.lookup y.1=some .local
 cap:∀(j:Nat) x,caps[j]?=some x->sc.names.lookup x=some .free/\∃i,ix[j]?=some i/\X.N[i]?=some x
 len:ix.length=caps.length
noncomputable def Xo(fsc:Scope)(N:List Str)(sc:Scope)(caps:List Str)(ix:List Nat):Bool:=
 sc.kind==.function&&sc.names.all (fun y=>y.2 != .cell)&&sc.names.all (fun y=>y.2 != .free||(fsc.names.lookup y.1==some .cell||fsc.names.lookup y.1==some .free)) &&
  sc.names.all (fun y=>y.2 != .local||sc.names.lookup y.1==some .local)&&caps.all (fun x=>sc.names.lookup x==some .free)&&(ix.map fun i=>N[i]?)==caps.map some
theorem D7(hc:X.calm=true)(h:Xo X.env.scope X.N sc caps ix=true):CompOk X sc caps ix:=by
 unfold Xo at h;simp only[oF]at h;obtain⟨⟨⟨⟨⟨h1,h2⟩,h3⟩,h4⟩,h5⟩,h6⟩:=h;have e6:(ix.map fun i=>X.N[i]?)=caps.map some:=by simpa using h6
 have il:ix.length=caps.length:=by simpa using BG List.length e6
 refine⟨hc,by simpa using h1,fun y hy=>?_,fun y hy hf=>?_,fun y hy hl=>?_,fun j x hj=>⟨?_,?_⟩,il⟩
 . have:=AS.mp h2 y hy;simpa using this
 . have:=AS.mp h3 y hy;rw[hf]at this;simp only[bne_self_eq_false,Bool.false_or,ED,BN]at this;exact this
 . have:=AS.mp h4 y hy;rw[hl]at this;simpa using this
 . have:=AS.mp h5 x (BV hj);simpa using this
 . have mI:j<ix.length:=by rw[il];exact(AX.mp hj).1
   refine⟨ix[j],AH mI,?_⟩;have q:=BG (fun l=>l[j]?) e6;simp only[AO,AH mI,hj,uZ]at q;exact Option.some.inj q
section
variable {X:Cx}{sc:Scope}{tgs caps:List Str}{ix:List Nat}{pins:List (Addr×Obj)}{U:St}{H:Hp}{s:Shared}{fp:List Addr}
theorem CompOk.free_cell(C:CompOk X sc caps ix)(I:Inv X pins U H s):∀y∈sc.names,y.2=.free->∃c,X.env.cells.lookup y.1=some c:=fun y hy hf=>I.ok.has y.1 (C.free y hy hf)
theorem CompOk.sub(C:CompOk X sc caps ix)(I:Inv X pins U H s)(h:(B5 X.env.cells sc.names []).lookup x=some c):X.env.cells.lookup x=some c:=
 jv (C.free_cell I) (fun _ _ e=>by cases e) h
theorem zix(C:CompOk X sc caps ix)(I:Inv X pins U H s)(hf:∀b∈fp,J6 X pins H b)(hl:∀b∈fp,b<s.heap.objs.size)(hn:h'.Ns s.heap.objs.size m)
  (hk:∀b o,s.heap.get? b=some o->h'.get? b=some o) :
  Inv (n9 X sc (tgs++caps) fp s H) [] (List.replicate tgs.length none++L7 ix U) H { s with heap:=h',toks:=t' }:=by
 have sub:∀{x c},(B5 X.env.cells sc.names []).lookup x=some c->X.env.cells.lookup x=some c:=fun h=>C.sub I h
 have uw:∀{x c},X.env.cells.lookup x=some c->c<s.heap.objs.size:=fun {x c} h=>by obtain⟨v,q⟩:=I.cell x c h;exact q.lt
 refine⟨⟨I.ok.mod,C.kind,I.ok.glob,I.ok.blt,η _,fun x y c h1 h2=>I.ok.inj x y c (sub h1) (sub h2),fun x hx=>?_,fun x c fR _=>?_,I.ok.hd,I.ok.frames,.inl rfl,fun b hb=>⟨?_,fun x c h z=>?_⟩,fun b o e=>I.bs b o e,AA I.ok.bsz I.sz,fun b o e hb=>?_,fun b hb cW=>?_,I.stack,I.stkFree⟩,
  rfl,I.bare,Un.kept hk,⟨m,hn,fun i x v e1 e2 e3=>?_⟩,fun x c h=>?_,I.hok.fresh (η _),fun x c h=>I.freeC x c (sub h),fun p hp=>absurd (show p∈([]:List (Addr×Obj)) from hp) (by simp),I.hok.kept hk,?_⟩
 . -- a cell or free name of the oG has a cell
   have eM:(relabel sc X.env).names.lookup x=some .cell\/(relabel sc X.env).names.lookup x=some .free:=hx;have e:(relabel sc X.env).names.lookup x=(sc.names.lookup x).map fun k=>if(k==NameKind.free&&X.env.scope.kind==.function&&X.env.kindOf x==some .cell) then NameKind.cell else k:=Ov
   rw[e]at eM;cases q:sc.names.lookup x with
   |none=>rw[q]at eM;rcases eM with z |z<;>cases z
   |some k=>
    have hm:(x,k)∈sc.names:=BZ q
    have oW:k=.free:=by
     rw[q]at eM;simp only[uZ]at eM;by_cases mJ:k=.free
     . exact mJ
     . have:(k==NameKind.free)=false:=by simpa using mJ
       simp only[this,Bool.false_and,AF,BK]at eM;rcases eM with z |z
       . exact absurd (Option.some.inj z) (C.ncell _ hm)
       . exact Option.some.inj z
    subst oW
    exact Nm (.inr ⟨_,hm,rfl,rfl⟩)
 . exact absurd (show false=true from fR) θ
 . exact AG (hl b hb)
 . exact(hf b hb).2.2.2.2.1 x c (sub h) z
 . obtain⟨_,_,_,hx,_⟩:=hf b hb;rcases hx with z |z
   . exact I.ok.noex b o e z
   . exact absurd (AD (τ e) (AA I.ok.bsz z)) (CH _)
 . obtain⟨_,h1,h2,_⟩:=hf b hb;rcases gq.mp (I.stkSub b cW) with z |z
   . exact h1 z
   . exact h2 z
 . -- the lM oB oC
   have hi:tgs.length<=i:=by
    by_cases hi:i<tgs.length
    . rw[BH (by simpa using hi),List.getElem?_replicate]at e2;split at e2<;>cases e2
    . lia
   have oX:caps[i - tgs.length]?=some x:=by have:(tgs++caps)[i]?=some x:=e1;rw[AV hi]at this;exact this
   rw[AV (by simpa using hi),DV]at e2;obtain⟨bJ,j,hj,oY⟩:=C.cap _ x oX;have oZ:U[j]?=some (some v):=by
    unfold L7 at e2;rw[AO,hj]at e2;simp only[uZ]at e2;have e2:=Option.some.inj e2;cases q:U[j]? with
    |none=>rw[q]at e2;cases e2
    |some o=>rw[q]at e2;exact BG some e2
   have fc:(x,NameKind.free)∈sc.names:=BZ bJ;have cr:=C.free _ fc rfl;obtain⟨m0,ux,pc⟩:=I.loc;have lZ:Vis X.env.scope x:=cr.elim (fun z=>.inr (.inl z)) fun z=>.inr (.inr z)
   obtain⟨u,r,look⟩:=pc j x v oY oZ lZ;refine⟨u,r,?_⟩;rcases look with⟨k,_⟩ |⟨_,c,hc,z⟩
   . rcases cr with q |q
     . rw[show X.env.kindOf x=some .cell from q]at k;cases k
     . rw[show X.env.kindOf x=some .free from q]at k;cases k
   . obtain⟨c',fS⟩:=Nm (cells:=X.env.cells) (names:=sc.names) (acc:=[]) (x:=x) (.inr ⟨_,fc,rfl,rfl⟩);have ef:c'=c:=by have:=sub fS;rw[hc]at this;exact(Option.some.inj this).symm
     subst ef;refine .inr ⟨?_,c',fS,?_⟩
     . have e:(relabel sc X.env).names.lookup x=(sc.names.lookup x).map fun k=>if(k==NameKind.free&&X.env.scope.kind==.function&&X.env.kindOf x==some .cell) then NameKind.cell else k:=Ov
       show(relabel sc X.env).names.lookup x=some .cell\/(relabel sc X.env).names.lookup x=some .free;rw[e,bJ];simp only[uZ];split
       . exact .inl rfl
       . exact .inr rfl
     . obtain⟨o,ho,hd⟩:=z;exact⟨o,hk _ o ho,hd⟩
 . obtain⟨v,o,ho,hd⟩:=I.cell x c (sub h);exact⟨v,o,hk _ o ho,hd⟩
 . show _=(tgs++caps).length;unfold L7;rw[AY,DV,gV,AY,C.len]
inductive PTs (X:Cx):List Expr->TT->Prop where
 |nil:PTs X [] (fun _ H Q=>Q true H)
 |one {c:Expr} {t:TT} (h:PT X c t):PTs X [c] t
theorem PTs.run(h:PTs X aE t)(I:Inv X pins U H s)(q:t U H Q) :
  wpAny (model X.prog X.w) X.A (forIn aE true fun c r=>if r=true then do let ok <-isTrue c X.env (eval c X.env);pure (ForInStep.yield ok) else pure (ForInStep.yield r)) (TP X pins U Q) X.xe s:=by
 cases h with
 |nil=>exact wpAny_tests_nil ⟨H,I,q⟩
 |one h=>exact wpAny_tests_one (h pins s U H Q I q)
def Rh(J:It)(D:Addr)(B:V->Hp->(List V->Hp->Prop)->Prop)(cs:St)(tt:TT)(te:TE)(Q:VK)(H1:Hp):Prop:=
 ∃W:Nat->Nat->List V->Hp->Prop,(∃m,W 0 m [] (upd H1 D (.lst [])))/\∀i m ys H,W i m ys H ->
  H D=some (.lst ys)/\((J.stop i H/\Q (.ref D) H)\/(J.go i H/\∀x H',J.yld i H x H'->B x H' fun ay H2=>tt (ay.map some++cs) H2 fun b H3=>
   if b=true then te (ay.map some++cs) H3 fun y H4=>H4 D=some (.lst ys)/\ys.length<sizeLine/\∃m',m'<m/\W (i+1) m' (ys++[y]) (upd H4 D (.lst (ys++[y])))
   else ∃m',m'<m/\W (i+1) m' ys H3))
def Q5(wi:TI)(B:V->Hp->(List V->Hp->Prop)->Prop)(ix:List Nat)(tt:TT)(te:TE):TE:=fun U H Q=>wi U H fun J H1=>∀D,H1 D=none->Rh J D B (L7 ix U) tt te Q H1
variable {aM tg iter:Expr}{aE:List Expr}{pos:Pos}{g:TG}{B:V->Hp->(List V->Hp->Prop)->Prop}{tt:TT}{te:TE}
theorem Yw(C:CompOk X sc caps ix)(hg:∀fp s H,PG (n9 X sc (tgs++caps) fp s H) tg g)
  (hB:∀(x:V)(bD cs:St)(H:Hp)(Q:St->Hp->Prop),bD.length=tgs.length->B x H (fun ay H2=>Q (ay.map some++cs) H2)->g x (bD++cs) H fun bC H2=>(∃ay:List V,ay.length=tgs.length/\bC=ay.map some++cs)/\Q bC H2)
  (ht:∀fp s H,PTs (n9 X sc (tgs++caps) fp s H) aE tt) (he:∀fp s H,PE (n9 X sc (tgs++caps) fp s H) aM te)
  {J:It} {it:Addr} {tn:Nat->Heap->Prop} {Q:VK} {E:Value->Shared->Prop} (I2:Inv X pins U H s) (T:Turn X.prog X.w X.K tg J fp it tn) (st:tn 0 s.heap) (hf:∀b∈fp,J6 X pins H b)
  (hw:∀D,H D=none->Rh J D B (L7 ix U) tt te Q H) {RR:Value->Addr->Result->Shared->Prop}
  (pf:∀D Cc H' s' m,s'.heap.Ns Cc m->Inv X pins U H' s'->J6 X pins H' Cc->Q (.ref D) H'->RR (.ref D) Cc (.ok .next) s') :
  wpAny (model X.prog X.w) X.A (newList []) (fun acc aC=>wpAny (model X.prog X.w) X.A (newFunctionEnv sc X.env.globals (B5 X.env.cells sc.names []) [] X.env.qual none .none (some X.env)) (fun ip cE=>
   codeAny (model X.prog X.w) X.A (.compStart (.ListComp aM [⟨tg,iter,aE,0⟩] sc pos) 0 (.ref it) acc { ip with scope:=relabel sc X.env }) (RR acc ip.locals) cE) E aC) E s:=by
 refine wpAny_newObj_type (wpAny_newFunctionEnv C.ncell (by intro y hy;simp at hy) (fun dm eV eW=>?_) C.kind)
 have I3:Inv X pins U (upd H s.heap.objs.size (.lst [])) { s with heap:=s.heap.push { cls:=.type "list",dict:=none,data:=.seq ([]:List Value).toArray } }:=I2.lnew (t':=s.toks) (its:=[]) .nil (BU _)
 have ph:H s.heap.objs.size=none:=I2.fresh
 have mK:∀b∈fp,b<s.heap.objs.size:=fun b hb=>by obtain⟨o,e,_⟩:=T.obj _ _ st b hb;exact τ e
 have pi:∀b∈fp,b≠s.heap.objs.size:=fun b hb=>AG (mK b hb)
 have mL:∀b∈fp,J6 X pins (upd H s.heap.objs.size (.lst [])) b:=fun b hb=>⟨by rw[k8 (pi b hb)];exact(hf b hb).1,(hf b hb).2⟩
 generalize pj:({ s with heap:=s.heap.push { cls:=.type "list",dict:=none,data:=.seq ([]:List Value).toArray } }:Shared)=aC at I3 eV eW⊢
 have iq:aC.heap=s.heap.push { cls:=.type "list",dict:=none,data:=.seq ([]:List Value).toArray }:=by rw[<-pj]
 have de:tn 0 aC.heap:=T.keep _ _ _ st fun b _ o e=>by rw[iq];exact ω _ e
 have mM:∀b∈fp,b<aC.heap.objs.size:=fun b hb=>by rw[iq,Heap.size_push];exact Nat.lt_succ_of_lt (mK b hb)
 generalize uz:s.heap.objs.size=D at *
 have mO:∀b o,aC.heap.get? b=some o->dm.get? b=some o:=fun b o e=>eW.extBut b o (AG (τ e)) (ω _ e)
 have I4:=zix (tgs:=tgs) (t':=aC.toks+([]:List (Str×Value)).length) C I3 mL mM eV mO
 have cz:tn 0 dm:=T.keep _ _ _ de fun b _ o e=>mO b o e
 have pq:∀b∈fp,(upd H D (.lst [])) b=none:=fun b hb=>(mL b hb).1
 generalize cA:n9 X sc (tgs++caps) fp aC (upd H D (.lst []))=Xc at I4
 have bB:Xc.prog=X.prog:=by rw[<-cA];rfl
 have dh:Xc.w=X.w:=by rw[<-cA];rfl
 have mP:Xc.K=X.K:=by rw[<-cA];rfl
 have cu:Xc.calm=true:=by rw[<-cA];exact C.calm
 have hA:Xc.A=X.A:=by rw[<-cA];rfl
 have dR:Xc.env=compEnvC sc (B5 X.env.cells sc.names []) aC.heap.objs.size X.env:=by rw[<-cA];rfl
 have gN:Xc.xe=fun _ _=>False:=by rw[<-cA];rfl
 have mQ:=hg fp aC (upd H D (.lst []))
 have mR:=ht fp aC (upd H D (.lst []))
 have gO:=he fp aC (upd H D (.lst []))
 rw[cA]at mQ mR gO
 obtain⟨W,⟨m0,w0⟩,turn⟩:=hw D ph
 have cS:∀{H':Hp},(∀b∈fp,H' b=none)->∀b∈fp,J6 Xc [] H' b:=fun {H'} hn b hb=>by
  refine⟨hn b hb,?_,?_,.inl ?_,fun x c e z=>?_,fun p hp=>?_⟩
  . rw[dR];exact AG (mM b hb)
  . rw[<-cA];intro z;obtain⟨_,h1,h2,_⟩:=hf b hb;rcases gq.mp (I3.stkSub b z) with q |q
    . exact h1 q
    . exact h2 q
  . rw[<-cA];exact hb
  . rw[dR]at e;exact(hf b hb).2.2.2.2.1 x c (C.sub I2 e) z
  . rw[<-cA]at hp;exact absurd (show p∈([]:List (Addr×Obj)) from hp) (by simp)
 have loop:∀cE:Shared,cE={ aC with heap:=dm,toks:=aC.toks+([]:List (Str×Value)).length } ->
   codeAny (model X.prog X.w) X.A (.compLoop (.ListComp aM [⟨tg,iter,aE,0⟩] sc pos) 0 (.ref it) (.ref D) (compEnvC sc (B5 X.env.cells sc.names []) aC.heap.objs.size X.env)) (RR (.ref D) aC.heap.objs.size) cE:=by
  intro cE mS
  rw[<-bB,<-dh,<-hA,<-dR]
  refine zej (fun n s'=>∃(i:Nat)(ys:List V)(bD:St)(H':Hp),bD.length=tgs.length/\Inv Xc [] (bD++L7 ix U) H' s'/\tn i s'.heap/\(∀b∈fp,H' b=none)/\W i n ys H') ?_ m0
   ⟨0,[],List.replicate tgs.length none,upd H D (.lst []),by simp,by rw[mS];exact I4,by rw[mS];exact cz,pq,w0⟩
  rintro n s5 ⟨i,ys,bD,H5,pA,I5,fj,gL,w5⟩
  obtain⟨uA,iI⟩:=turn i n ys H5 w5
  rcases iI with⟨stop,q⟩ |⟨go,step⟩
  . rw[bB,dh];refine thn (T.done Xc bB dh mP cu i [] s5 _ H5 _ I5 (cS gL) fj stop) fun r s6 ⟨hr,I6⟩=>?_
    subst hr;obtain⟨m6,mT,_⟩:=I6.loc;rw[dR]at mT;have pB:∀b∈fp,(b∈X.ex\/X.s₀.heap.objs.size<=b)/\b≠X.env.locals/\(∀x c,X.env.cells.lookup x=some c->c≠b)/\∀p∈X.pn++pins,p.1≠b:=fun b hb=>⟨(hf b hb).2.2.2.1,(hf b hb).2.1,(hf b hb).2.2.2.2.1,(hf b hb).2.2.2.2.2⟩
    have eg:s6.os=aC.os:=by have:=I6.os;rw[<-cA]at this;exact this
    have pC:Un (frs X.stack) fp (upd H D (.lst [])) H5 aC.heap s6.heap:=by have:=I6.base;rw[<-cA]at this;exact this
    have ma:HOk X.prog X.w H5 s6.heap:=by have:=I6.hok;rw[bB,dh]at this;exact this
    have I7:Inv X pins U H5 s6:=I3.call' eg pC ma I6.bare pB;refine pf D _ H5 s6 m6 mT I7 ?_ q;have pD:H5 aC.heap.objs.size=none:=by have:=I6.free;rw[dR]at this;exact this
    exact I3.fpOk (η _) pD
  . rw[bB,dh];refine thn (T.item Xc bB dh mP cu i [] s5 _ H5 _ I5 (cS gL) fj go) fun r s6 ⟨u,hr,h6⟩=>?_
    subst hr;refine thn h6 fun _ s7 ⟨x,H7,I7,r7,y7,iT,pE⟩=>?_
    have pF:=I7.pinned (cS pE) (T.obj _ _ iT);have aJ:=mQ _ s7 _ H7 x u _ pF r7 (hB x bD (L7 ix U) H7 (fun bC H2=>tt bC H2 fun b H3=>if b=true then te bC H3 fun y H4=>H4 D=some (.lst ys)/\ys.length<sizeLine/\∃m',m'<n/\W (i+1) m' (ys++[y]) (upd H4 D (.lst (ys++[y]))) else ∃m',m'<n/\W (i+1) m' ys H3) pA (step x H7 y7));rw[bB,dh,gN]at aJ;refine thn aJ fun _ s8 ⟨pG,H8,I8,⟨ay,mU,mf⟩,q8⟩=>?_
    have again:∀{H9:Hp}{s9:Shared},Inv Xc ([]++Br fp s7.heap) pG H9 s9->tn (i+1) s9.heap/\∀b∈fp,H9 b=none:=fun {H9 s9} I9=>
     ⟨T.keep _ _ _ iT fun b hb o e=>(I9.pin (b,o) (AE _ (AE _ (Gc hb e)))).1,fun b hb=>by obtain⟨o,e,d⟩:=T.obj _ _ iT b hb;exact(I9.pin (b,o) (AE _ (AE _ (Gc hb e)))).2.1⟩
    subst mf;have mV:=mR.run I8 q8;rw[bB,dh,gN]at mV;refine thn mV fun ok s9 ⟨H9,I9,q9⟩=>?_
    cases ok with
    |false=>
     rw[ξ θ]at q9⊢
     obtain⟨m',hm,w9⟩:=q9
     obtain⟨a1,a2⟩:=again I9
     exact⟨m',hm,i+1,ys,ay.map some,H9,by simpa using mU,I9.unpinned,a1,a2,w9⟩
    |true=>
     rw[ζ rfl]at q9⊢
     have mW:=gO _ s9 _ H9 _ I9 q9
     rw[bB,dh,gN]at mW
     refine thn mW fun uy pH ⟨y,mX,pI,pJ,mh,mi,m',hm,pK⟩=>?_
     have mY:=Ck (X:=Xc) _ pH _ mX (.ref D) [y] (.ref D) [uy] (fun v mZ=>v=.non/\mZ=upd mX D (.lst (ys++[y]))) pI rfl (.cons pJ .nil) ⟨D,ys,y,rfl,rfl,mh,mi,rfl,rfl⟩
     rw[bB,dh,gN]at mY
     refine thn mY fun _ uB ⟨v,mZ,nh,_,_,pM⟩=>?_
     subst pM
     obtain⟨a1,a2⟩:=again nh
     exact⟨m',hm,i+1,ys++[y],ay.map some,_,by simpa using mU,nh.unpinned,a1,a2,pK⟩
 refine codeAny_compStart_list (loop _ rfl) (T.self X.A 0 _ _ _ cz (loop _ rfl))
theorem Vr(C:CompOk X sc caps ix)(hi:PI X tg iter wi)(hg:∀fp s H,PG (n9 X sc (tgs++caps) fp s H) tg g)
  (hB:∀(x:V)(bD cs:St)(H:Hp)(Q:St->Hp->Prop),bD.length=tgs.length->B x H (fun ay H2=>Q (ay.map some++cs) H2)->g x (bD++cs) H fun bC H2=>(∃ay:List V,ay.length=tgs.length/\bC=ay.map some++cs)/\Q bC H2)
  (ht:∀fp s H,PTs (n9 X sc (tgs++caps) fp s H) aE tt) (he:∀fp s H,PE (n9 X sc (tgs++caps) fp s H) aM te)
  (hs:∀x,foldedSetIterable iter X.env x=pure x:=by intro _;rfl):PE X (.ListComp aM [⟨tg,iter,aE,0⟩] sc pos) (Q5 wi B ix tt te):=by
 intro pins s U H Q I h
 rw[eval_ListComp]
 refine wpAny_comprehension_free (use:=none) rfl hs (jm (C.free_cell I)) C.kind C.names (thn (hi pins s U H _ I h) fun v s1 h1=>thn h1 fun fT s2 h2=>?_)
 obtain⟨it,fp,tn,J,H2,e,I2,T,aL,f2,hw⟩:=h2
 subst e
 refine Yw (RR:=fun acc Cc=>compPost (model X.prog X.w) X.A X.xe none (EP X pins U Q) acc Cc) C hg hB ht he I2 T aL f2 hw ?_
 intro D Cc H' s' m hn I' cB q
 refine⟨m,hn,fun h' sb=>⟨.ref D,H',?_,rfl,q⟩⟩
 exact I'.turned (t':=s'.toks) (fun b o hb e=>sb.extBut b o hb e) cB.1 cB.2.1 cB.2.2.2.1 cB.2.2.2.2.1 cB.2.2.2.2.2
theorem Vq(hN:X.N.Nodup)(hk:X.N[k]?=some x)(hx:X.env.scope.names.lookup x=some .local)(C:CompOk X sc caps ix)(hi:PI X tg iter wi)(hg:∀fp s H,PG (n9 X sc (tgs++caps) fp s H) tg g)
  (hB:∀(x:V)(bD cs:St)(H:Hp)(Q:St->Hp->Prop),bD.length=tgs.length->B x H (fun ay H2=>Q (ay.map some++cs) H2)->g x (bD++cs) H fun bC H2=>(∃ay:List V,ay.length=tgs.length/\bC=ay.map some++cs)/\Q bC H2)
  (ht:∀fp s H,PTs (n9 X sc (tgs++caps) fp s H) aE tt) (he:∀fp s H,PE (n9 X sc (tgs++caps) fp s H) aM te)
  (cX:swapsWith (.ListComp aM [⟨tg,iter,aE,0⟩] sc pos) (some (.Name x px)) bH.line X.env=pure true:=by rfl)
  (hs:∀x,foldedSetIterable iter X.env x=pure x:=by intro _;rfl):PS X (.Assign [.Name x px] (.ListComp aM [⟨tg,iter,aE,0⟩] sc pos) bH) (T1 (Q5 wi B ix tt te) (E7 k)):=by
 intro pins s U H D0 I h
 rw[exec_Assign_Name_used _ _ _ _ cX]
 refine χ (wpAny_standAt (χ ?_))
 show wpAny _ X.A (do let _ <-comprehension (.ListComp aM [⟨tg,iter,aE,0⟩] sc pos) sc X.env _ (newList []) false (eval iter X.env) (some (assign (.Name x px) X.env))) _ _ s
 refine χ (AJ (wpAny_comprehension_free (use:=some (assign (.Name x px) X.env)) (Q:=fun _ s'=>SP X pins D0 .next s') rfl hs (jm (C.free_cell I)) C.kind C.names
  (thn (hi pins s U H _ I h) fun v s1 h1=>thn h1 fun fT s2 h2=>?_)) (fun _ s' hq=>γ (γ hq)) fun _ _ e=>e)
 obtain⟨it,fp,tn,J,H2,e,I2,T,aL,f2,hw⟩:=h2
 subst e
 refine Yw (RR:=fun acc Cc=>compPost (model X.prog X.w) X.A X.xe (some (assign (.Name x px) X.env)) (fun _ s'=>SP X pins D0 .next s') acc Cc) C hg hB ht he I2 T aL f2 hw ?_
 intro D Cc H' s' m hn I' cB q
 show wpAny _ X.A (assign (.Name x px) X.env (.ref D)) _ _ _
 refine wpAny_assign_Name (Xw I' hN hk (.inl hx) (v:=.ref D) rfl (fun eK pN cH=>?_) (.inr hx))
 obtain⟨a,sb,ha⟩:=cH
 have aA:Cc≠a:=by
  rcases ha with z |z
  . rw[z];exact cB.2.1
  . exact fun e=>cB.2.2.2.2.1 x a z e.symm
 refine⟨m,hn.sameBut sb aA,fun h' pO=>⟨_,H',?_,q⟩⟩
 exact pN.turned (t':=eK.toks) (fun b o hb e=>pO.extBut b o hb e) cB.1 cB.2.1 cB.2.2.2.1 cB.2.2.2.2.1 cB.2.2.2.2.2
end
section
variable {X:Cx}
theorem PE.imp(h:PE X e t)(hi:∀U H Q,t' U H Q->t U H Q):PE X e t':=fun pins s U H Q I q=>h pins s U H Q I (hi U H Q q)
theorem PT.imp(h:PT X e t)(hi:∀U H Q,t' U H Q->t U H Q):PT X e t':=fun pins s U H Q I q=>h pins s U H Q I (hi U H Q q)
theorem OpR.imp(h:OpR X f r)(hi:∀x y H Q,r' x y H Q->r x y H Q):OpR X f r':=fun pins s U H x y v u Q I rx ry q=>h pins s U H x y v u Q I rx ry (hi x y H Q q)
theorem UnR.imp(h:UnR X f r)(hi:∀x H Q,r' x H Q->r x H Q):UnR X f r':=fun pins s U H x v Q I rx q=>h pins s U H x v Q I rx (hi x H Q q)
theorem CallR.imp(h:CallR X f r)(hi:∀xs H Q,r' xs H Q->r xs H Q):CallR X f r':=fun pins s U H xs us Q I rx q=>h pins s U H xs us Q I rx (hi xs H Q q)
end
noncomputable def P7(i:Nat):TE:=fun U H Q=>match U[i]? with |some (some v)=>Q v H |_=>False
theorem pw(i:Nat)(hN:X.N[i]?=some x:=by rfl)(hv:Vis X.env.scope x:=by first |exact .inl rfl |exact .inr (.inl rfl) |exact .inr (.inr rfl))(hd:(x==("__debug__":Str))=false:=by decide)
  (bp:(x==("__classdict__":Str))=false:=by decide):PE X (.Name x pos) (P7 i):=
 (Bt hN hv hd bp).imp fun U H Q q=>by
  unfold P7 at q;unfold Qp;split at q
  . rename_i v e;exact⟨v,e,q⟩
  . exact q.elim
noncomputable def cI(g:Int->Int->V):R2:=fun x y H Q=>match x,y with | .int i,.int j=>Q (g i j) H |_,_=>False
noncomputable def cIC(C:Int->Int->Prop)(g:Int->Int->V):R2:=fun x y H Q=>match x,y with | .int i,.int j=>C i j/\Q (g i j) H |_,_=>False
theorem OpR.cI(h:OpR X f (rI0 g)):OpR X f (cI g):=h.imp fun x y H Q q=>by cases x<;>cases y<;>first |exact⟨_,_,rfl,rfl,q⟩ |exact q.elim
theorem OpR.cIC(h:OpR X f (rI C g)):OpR X f (cIC C g):=h.imp fun x y H Q q=>by cases x<;>cases y<;>first |exact⟨_,_,rfl,rfl,q.1,q.2⟩ |exact q.elim
section
variable {X:Cx}
theorem C5:OpR X (binaryOp .Add) (cI fun i j=>.int (i+j)):=op_add.cI
theorem C4:OpR X (binaryOp .Sub) (cI fun i j=>.int (i - j)):=op_sub.cI
theorem Ji:OpR X (binaryOp .Mult) (cIC CMul fun i j=>.int (i * j)):=op_mul.cIC
theorem U1:OpR X (binaryOp .FloorDiv) (cIC S9 fun i j=>.int (i / j)):=op_fdiv.cIC
theorem v9:OpR X (binaryOp .Mod) (cIC (fun _ j=>0<j) fun i j=>.int (i % j)):=op_mod.cIC
theorem Jh:OpR X (binaryOp .Pow) (cIC P8 fun i j=>.int (i ^ j.toNat)):=op_pow.cIC
theorem Gy:OpR X (compareOp .Lt) (cI fun i j=>.bl (decide (i<j))):=op_lt.cI
theorem Qi:OpR X (compareOp .LtE) (cI fun i j=>.bl (decide (i<=j))):=op_le.cI
theorem W6:OpR X (compareOp .Gt) (cI fun i j=>.bl (decide (j<i))):=op_gt.cI
theorem kI:OpR X (compareOp .GtE) (cI fun i j=>.bl (decide (j<=i))):=op_ge.cI
def cU(g:Int->V):V->Hp->VK->Prop:=fun x H Q=>match x with | .int i=>Q (g i) H |_=>False
theorem X7:UnR X (unaryOp .USub) (cU fun i=>.int (-i)):=un_neg.imp fun x H Q q=>by cases x<;>first |exact⟨_,rfl,q⟩ |exact q.elim
end
noncomputable def G6(H:Hp)(p:Addr):Option (List V):=match H p with
 |some (.lst xs)=>some xs
 |some (.tup xs)=>some xs
 |some (.frz _ (.lst xs))=>some xs
 |some (.frz _ (.tup xs))=>some xs
 |_=>none
theorem Wt{K:Frag}{H:Hp}{p:Addr}{xs:List V}(h:G6 H p=some xs):SqL K H p xs\/SqT K H p xs:=by
 unfold G6 at h;split at h;all_goals first | (cases h;done) |skip
 . rename_i ys e;cases h;exact .inl (.inl (.inl e))
 . rename_i ys e;cases h;exact .inr (.inl (.inl e))
 . rename_i o ys e;cases h;exact .inl (.inl (.inr ⟨_,e⟩))
 . rename_i o ys e;cases h;exact .inr (.inl (.inr ⟨_,e⟩))
theorem Xn(h:H p=some (.lst xs)):G6 H p=some xs:=by unfold G6;rw[h]
theorem Xm(h:H p=some (.tup xs)):G6 H p=some xs:=by unfold G6;rw[h]
def Q4(x:V)(H:Hp)(Q:Bool->Hp->Prop):Prop:=match x with
 | .bl b=>Q b H
 | .int i=>Q (i != 0) H
 | .non=>Q false H
 | .str y=>y.length<=sizeLine/\Q ((y.length:Int) != 0) H
 | .ref p=>(match G6 H p with
  |some xs=>Q (!xs.isEmpty) H
  |none=>(match H p with |some (.dK kvs)=>Q (!kvs.isEmpty) H |_=>False))
 |_=>False
theorem Ws{K:Frag}{x:V}{H:Hp}{Q:Bool->Hp->Prop}(h:Q4 x H Q):∃k,kR K x H k/\Q k H:=by
 cases x with
 |bl b=>exact⟨b,rfl,h⟩
 |int i=>exact⟨_,rfl,h⟩
 |non=>exact⟨_,rfl,h⟩
 |str y=>exact⟨_,⟨h.1,rfl⟩,h.2⟩
 |ref p=>
  unfold Q4 at h
  dsimp only at h
  split at h
  . rename_i xs e;rcases Wt (K:=K) e with z |z
    . exact⟨_,.inl ⟨xs,z,rfl⟩,h⟩
    . exact⟨_,.inr (.inl ⟨xs,z,rfl⟩),h⟩
  . split at h
    . rename_i kvs e;exact⟨_,.inr (.inr ⟨kvs,e,rfl⟩),h⟩
    . exact h.elim
 |_=>exact h.elim
noncomputable def y7o(t:TE):TT:=fun U H Q=>t U H fun x H'=>Q4 x H' Q
section
variable {X:Cx}{a b c:Expr}{ta tb:TE}{pos:Pos}
theorem vk(ha:PE X a ta)(he:∀whole,isTrue a X.env whole=(do let v <-whole;standAt a.pos;holding [v] (truthy v)):=by intro _;rfl):PT X a (y7o ta):=by intro pins s U H Q I h;exact isTrue_plain (thn (ha pins s U H _ I h) fun v s1 ⟨x,H1,I1,r1,q1⟩=>Tp pins s1 U H1 x v Q I1 r1 (Ws q1)) (he _)
noncomputable def Jg(t:TE):TT:=fun U H Q=>t U H fun x H'=>match x with | .bl k=>Q k H' |_=>False
theorem xr(ho:OpR X (compareOp op) r)(ha:PE X a ta)(hb:PE X b tb)(hm:behindInMarks op b=false):PT X (.Compare a [op] [b] pos) (Jg (tOp r ta tb)):=by
 intro pins s U H Q I h;refine wpAny_isTrue_Compare1 (thn (ha pins s U H _ I h) fun v s1 ⟨x,H1,I1,r1,q1⟩=>thn (hb pins s1 U H1 _ I1 q1) fun u s2 ⟨y,H2,I2,r2,q2⟩=>
  thn (ho pins s2 U H2 x y v u _ I2 r1 r2 q2) fun c s3 ⟨z,H3,I3,r3,q3⟩=>?_) hm
 cases z<;>first |exact q3.elim |skip
 cases r3;exact CK ⟨H3,I3,q3⟩
end
section
variable {X:Cx}{a b c:Expr}{ta tb:TE}{pos:Pos}
def PChT(X:Cx)(ops:List CmpOp)(rs:List Expr)(t:V->TT):Prop:=
 ∀(pos:Pos)(pins:List (Addr×Obj))(s:Shared)(U:St)(H:Hp)(x:V)(v:Value)(Q:Bool->Hp->Prop),Inv X pins U H s->RelV x v->t x U H Q->wpAny (model X.prog X.w) X.A (testChain pos v ops (evalEach rs X.env)) (TP X pins U Q) X.xe s
noncomputable def Tm(r:R2)(tb:TE):V->TT:=fun x U H Q=>tb U H fun y H2=>r x y H2 fun z H3=>match z with | .bl k=>Q k H3 |_=>False
noncomputable def Tl(r:R2)(tb:TE)(t:V->TT):V->TT:=fun x U H Q=>tb U H fun y H2=>r x y H2 fun z H3=>match z with | .bl k=>(if k=true then t y U H3 Q else Q false H3) |_=>False
theorem zE(ho:OpR X (compareOp op) r)(hb:PE X b tb):PChT X [op] [b] (Tm r tb):=by
 intro pos pins s U H x v Q I rx h;refine test_last (thn (hb pins s U H _ I h) fun u s2 ⟨y,H2,I2,r2,q2⟩=>thn (ho pins s2 U H2 x y v u _ I2 rx r2 q2) fun d s3 ⟨z,H3,I3,r3,q3⟩=>?_);cases z<;>first |exact q3.elim |skip
 cases r3;exact CK ⟨H3,I3,q3⟩
theorem zC(ho:OpR X (compareOp op) r)(hb:PE X b tb)(hr:PChT X (gP::ops) (r'::rs) t):PChT X (op::gP::ops) (b::r'::rs) (Tl r tb t):=by
 intro pos pins s U H x v Q I rx h;refine test_link (thn (hb pins s U H _ I h) fun u s2 ⟨y,H2,I2,r2,q2⟩=>thn (ho pins s2 U H2 x y v u _ I2 rx r2 q2) fun d s3 ⟨z,H3,I3,r3,q3⟩=>?_);cases z<;>first |exact q3.elim |skip
 rename_i k;cases r3;refine CK ?_;cases k with
 |false=>exact ite_ff ⟨H3,I3,by simpa using q3⟩
 |true=>exact ite_tt (hr pos pins s3 U H3 y u Q I3 r2 (by simpa using q3))
noncomputable def Rg(ta:TE)(t:V->TT):TT:=fun U H Q=>ta U H fun x H1=>t x U H1 Q
theorem vj(ha:PE X a ta)(hr:PChT X (cQ::cR::ops) (dS::dU::rs) t)(hm:lastMarks (cQ::cR::ops) (dS::dU::rs)=false:=by with_unfolding_all rfl) :
  PT X (.Compare a (cQ::cR::ops) (dS::dU::rs) pos) (Rg ta t):=by
 intro pins s U H Q I h
 exact isTrue_chain (thn (ha pins s U H _ I h) fun v s1 ⟨x,H1,I1,r1,q1⟩=>hr pos pins s1 U H1 x v Q I1 r1 q1) hm
noncomputable def Rf(ta tb:TE):TE:=fun U H Q=>ta U H fun x H1=>match x with | .bl c=>(if c=true then tb U H1 Q else Q (.bl false) H1) |_=>False
noncomputable def kH(ta tb:TE):TE:=fun U H Q=>ta U H fun x H1=>match x with | .bl c=>(if c=true then Q (.bl true) H1 else tb U H1 Q) |_=>False
end
section
variable {X:Cx}{a b c:Expr}{ta tb:TE}{pos:Pos}{rest:List Expr}
theorem xq(ha:PE X a ta)(hb:PE X (.BoolOp .And (b::rest) pos) tb):PE X (.BoolOp .And (a::b::rest) pos) (Rf ta tb):=by
 intro pins s U H Q I h;refine BoolOp_and (thn (ha pins s U H _ I h) fun v s1 ⟨x,H1,I1,r1,q1⟩=>?_);cases x<;>first |exact q1.elim |skip
 rename_i k;cases r1;refine CK ?_;cases k with
 |true=>exact ite_tt (hb pins s1 U H1 Q I1 (by simpa using q1))
 |false=>exact ite_ff ⟨.bl false,H1,I1,rfl,by simpa using q1⟩
theorem vi(ha:PE X a ta)(hb:PE X (.BoolOp .Or (b::rest) pos) tb):PE X (.BoolOp .Or (a::b::rest) pos) (kH ta tb):=by
 intro pins s U H Q I h;refine BoolOp_or (thn (ha pins s U H _ I h) fun v s1 ⟨x,H1,I1,r1,q1⟩=>?_);cases x<;>first |exact q1.elim |skip
 rename_i k;cases r1;refine CK ?_;cases k with
 |true=>exact ite_tt ⟨.bl true,H1,I1,rfl,by simpa using q1⟩
 |false=>exact ite_ff (hb pins s1 U H1 Q I1 (by simpa using q1))
noncomputable def y33(ta:TE):TE:=fun U H Q=>ta U H fun x H1=>Q4 x H1 fun k H2=>Q (.bl (!k)) H2
theorem xn(ha:PE X a ta):PE X (.UnaryOp .Not a pos) (y33 ta):=by intro pins s U H Q I h;refine UnaryOp_ (thn (ha pins s U H _ I h) fun v s1 ⟨x,H1,I1,r1,q1⟩=>not_of ?_);exact thn (Tp pins s1 U H1 x v _ I1 r1 (Ws q1)) fun k s2 ⟨H2,I2,q2⟩=>⟨.bl (!k),H2,I2,rfl,q2⟩
noncomputable def N7(H:Hp):V->Option String
 | .non=>some "NoneType"
 | .bl _=>some "bool"
 | .int _=>some "int"
 | .str _=>some "str"
 | .ref a=>(match H a with
  |some (.lst _)=>some "list"
  |some (.frz _ (.lst _))=>some "list"
  |some (.tup _)=>some "tuple"
  |some (.dK _)=>some "dict"
  |some (.dT _)=>some "dict"
  |_=>none)
 |_=>none
noncomputable def J4(t c:String):Bool:=t==c||(t=="bool"&&c=="int")
noncomputable def K1(c:String):Bool:=["int","bool","str","list","tuple","dict"].contains c
theorem O6{K:Frag}{t c:String}(ht:["NoneType","bool","int","str","list","tuple","dict"].contains t=true)(hc:K1 c=true):kitOne K (.type t) (.type c)=some (J4 t c):=by
 have h1:t="NoneType"\/t="bool"\/t="int"\/t="str"\/t="list"\/t="tuple"\/t="dict":=by simpa using ht
 have h2:c="int"\/c="bool"\/c="str"\/c="list"\/c="tuple"\/c="dict":=by simpa [K1] using hc
 rcases h1 with rfl |rfl |rfl |rfl |rfl |rfl |rfl<;>rcases h2 with rfl |rfl |rfl |rfl |rfl |rfl<;>first |rfl | (with_unfolding_all rfl)
theorem yM:CallR X (.builtin "isinstance") (fun xs H Q=>match xs with
  | [x,.ty c]=>K1 c=true/\(match N7 H x with |some t=>Q (.bl (J4 t c)) H |none=>False)
  |_=>False):=by
 intro pins s U H xs us Q I r h
 split at h
 . rename_i x c;obtain⟨hc,h⟩:=h;obtain⟨u,w',rfl,ru,cx⟩:=Jk r;cases cx;split at h
   . rename_i t et;have fin:∀(tk:Nat),EP X pins U Q (.bool (J4 t c)) { s with toks:=tk }:=fun tk=>⟨.bl _,H,I.tok _,rfl,h⟩
     cases x<;>simp only[N7]at et
     case non=>cases et;exact M5 I ru .non (O6 (by decide) hc) fin
     case bl b=>cases et;exact M5 I ru (.bl b) (O6 (by decide) hc) fin
     case int b=>cases et;exact M5 I ru (.int b) (O6 (by decide) hc) fin
     case str b=>cases et;exact M5 I ru (.str b) (O6 (by decide) hc) fin
     case ref a=>
      split at et<;>first | (cases et;done) |skip
      . rename_i ys e;cases et;exact M5 I ru (.lst e) (O6 (by decide) hc) fin
      . rename_i o ys e;cases et;exact M5 I ru (.frz e) (O6 (by decide) hc) fin
      . rename_i ys e;cases et;exact M5 I ru (.tup e) (O6 (by decide) hc) fin
      . rename_i ys e;cases et;exact M5 I ru (.dK e) (O6 (by decide) hc) fin
      . rename_i ys e;cases et;exact M5 I ru (.dT e) (O6 (by decide) hc) fin
     all_goals cases et
   . exact h.elim
 . exact h.elim
theorem zB(hc:X.calm=true):CallR X (.builtin "sum") (fun xs H Q=>match xs with
  | [.ref p]=>∃ns:List Int,G6 H p=some (ns.map V.int)/\Q (.int ns.sum) H
  |_=>False):=by
 intro pins s U H xs us Q I r h
 split at h
 . rename_i p;obtain⟨ns,e,q⟩:=h;obtain⟨u,rfl,ru⟩:=z5 r;cases ru;have key:∀{its:List Value},Vals (ns.map V.int) its->∃ys:Array (Int×Tok),its.toArray=intItems ys/\preSum (numAt ys) ys.size=ns.sum:=fun {its} rv=>by
    have hi:=Gb rv;obtain⟨ys,hx⟩:=hi.allInts.items;refine⟨ys,hx,?_⟩;have e1:ns=ys.toList.map (·.1):=by rw[<-nums_intItems,<-hx];exact(show numsOf its.toArray.toList=ns from hi.numsOf).symm
    rw[preSum_eq,List.take_of_length_le (by simp),e1]
   rcases Wt (K:=X.K) e with hq |hq
   . obtain⟨its,rv,pl,_⟩:=I.list hq;obtain⟨ys,hx,es⟩:=key rv;refine sum_intListG (I.ok.hd hc) (hx ▸ pl.isList) fun h' tk t' hk=>?_
     rw[es];exact⟨.int ns.sum,H,I.kept hk,⟨_,rfl⟩,q⟩
   . obtain⟨its,rv,pl,_⟩:=I.tuple hq;obtain⟨ys,hx,es⟩:=key rv;refine PySem.W.ktm_sumG (I.ok.hd hc) (hx ▸ pl) fun h' tk t' hk=>?_
     rw[es];exact⟨.int ns.sum,H,I.kept hk,⟨_,rfl⟩,q⟩
 . exact h.elim
abbrev Jf(s:Shared)(L:Addr):List (Addr×Obj):=Bz (Att.noObjs s.heap) s.heap L
section
variable {pins:List (Addr×Obj)}{U:St}{H:Hp}{s:Shared}{h':Heap}{m:Str->Option Value}
theorem Yv(N:News (Att.noObjs s.heap) L h' (Jf s L)):∀b o,b≠L->s.heap.get? b=some o->h'.get? b=some o:=fun b o hb e=>(N (b,o) (zg3 hb (Att.noObjs_get _ _) e)).1
theorem Inv.frn(I:Inv X pins U H s)(hn:s.heap.Ns X.env.locals m)(F:Fr (Att.noObjs s.heap) X.env.locals h' m)(N:News (Att.noObjs s.heap) X.env.locals h' (Jf s X.env.locals)):Inv X pins U H { s with heap:=h',toks:=tk }:=by
 have kept:=Yv N;refine I.step (g':=s.gens) (d':=s.drawn) (ch:=[]) (fun _ z=>nomatch z) (fun b o hL _ _ e _=>kept b o hL e) (fun b o hL _ _ e _=>⟨o.slots,kept b o hL e⟩) (fun _ _ _ _ n=>n) (fun b o _ e=>?_) (fun _ _ e=>e) (fun _ _ _ e=>e) (fun b ps e=>⟨#[],by rw[e];simp⟩) (fun m' hm=>?_) (fun b u e=>?_) I.bare
 . by_cases hb:b=X.env.locals
   . subst hb;obtain⟨o',_,_,aW,_⟩:=F.ns;exact⟨o',aW⟩
   . exact⟨o,kept b o hb e⟩
 . rw[hm.eq_nsMap,<-hn.eq_nsMap];exact F.ns
 . refine(I.hok b u e).stay (fun c v hc q=>kept c v ?_ q) (fun _ q=>q) fun _ _ q=>q
   intro z;rcases hc with hc |hc
   . rw[<-hc,z,I.free]at e;cases e
   . rw[z,I.free]at hc;cases hc
theorem Inv.frnew(I:Inv X pins U H s)(hn:s.heap.Ns X.env.locals m)(F:Fr (Att.noObjs s.heap) X.env.locals h' m)(N:News (Att.noObjs s.heap) X.env.locals h' ((D,ob)::Jf s X.env.locals))
  (hD:s.heap.get? D=none) (new:ObjOk X.prog X.w (upd H D o) h' D o):H D=none/\Inv X pins U (upd H D o) { s with heap:=h',toks:=tk }:=by
 have kept:=Yv (fun p hp=>N p (.tail _ hp))
 have uC:D≠X.env.locals:=(N (D,ob) (.head _)).2.1
 have pP:∀b o,s.heap.get? b=some o->b≠D:=fun b o e z=>by rw[z,hD]at e;cases e
 have HD:H D=none:=by
  cases q:H D with
  |none=>rfl
  |some u=>
   have:=(I.hok D u q).lt
   obtain⟨v,hv⟩:∃v,s.heap.get? D=some v:=by
    have z:=I.hok D u q;cases u with
    |lst xs=>obtain⟨_,_,_,_,e⟩:=z;exact⟨_,e⟩
    |tup xs=>obtain⟨_,_,_,o,e,_⟩:=z;exact⟨_,e⟩
    |dK kvs=>obtain⟨_,_,_,_,o,_,_,e,_⟩:=z;exact⟨_,e⟩
    |dT kvs=>obtain⟨_,_,_,_,o,_,_,e,_⟩:=z;exact⟨_,e⟩
    |set S n=>obtain⟨_,_,_,_,e,_⟩:=z;exact⟨_,e⟩
    |ins C dx fs=>obtain⟨_,_,_,e,_⟩:=z;exact⟨_,e⟩
    |own x=>exact z
    |xd fs=>obtain⟨mA,n1,_⟩:=z;obtain⟨o,_,_,e,_⟩:=n1;exact⟨o,e⟩
    |met f x=>exact⟨_,z⟩
    |rng lo hi=>obtain⟨_,_,_,e⟩:=z;exact⟨_,e⟩
    |frz o u=>exact⟨_,z.1⟩
    |tbl ps=>exact⟨_,z⟩
    |ctb q=>obtain⟨_,e,_⟩:=z;exact⟨_,e⟩
    |ext φ=>exact z.2.1
   rw[hD]at hv;cases hv
 refine⟨HD,I.step (g':=s.gens) (d':=s.drawn) (ch:=[]) (fun _ z=>nomatch z) (fun b o hL _ _ e _=>kept b o hL e) (fun b o hL _ _ e _=>⟨o.slots,kept b o hL e⟩) (fun b ob _ e n=>by rw[k8 (pP b ob e)];exact n) (fun b o _ e=>?_)
  (fun b xs e=>by rw[k8 (G8 e HD)];exact e) (fun b u xs e=>by rw[k8 (G8 e HD)];exact e) (fun b ps e=>⟨#[],by rw[k8 (G8 e HD),e];simp⟩) (fun m' hm=>?_) (fun b u e=>?_) I.bare⟩
 . by_cases hb:b=X.env.locals
   . subst hb;obtain⟨o',_,_,aW,_⟩:=F.ns;exact⟨o',aW⟩
   . exact⟨o,kept b o hb e⟩
 . rw[hm.eq_nsMap,<-hn.eq_nsMap];exact F.ns
 . by_cases hb:b=D
   . subst hb;rw[w8]at e;cases e;exact new
   . rw[k8 hb]at e;refine(I.hok b u e).stay (fun c v hc q=>kept c v ?_ q) (fun c q=>?_) fun c xs q=>?_
     . intro z;rcases hc with hc |hc
       . rw[<-hc,z,I.free]at e;cases e
       . rw[z,I.free]at hc;cases hc
     . rw[k8 (G8 q HD)];exact q
     . rw[k8 (G8 q HD)];exact q
end
theorem zg9:∀{us:List Value},Vals (bs.map V.bl) us->LSm.BoolsAre us bs:=by
 induction bs with
 |nil=>intro us r;cases r;exact .nil
 |cons b bs ih=>
  intro us r
  cases r with
  |cons r1 r2=>cases r1;exact .cons b (ih r2)
theorem zA(hc:X.calm=true):CallR X (.builtin "all") (fun xs H Q=>match xs with
  | [.ref p]=>∃bs:List Bool,Rd H p (.lst (bs.map V.bl))/\Q (.bl (bs.all id)) H
  |_=>False):=by
 intro pins s U H xs us Q I r h
 split at h
 . rename_i p;obtain⟨bs,e,q⟩:=h;obtain⟨u,rfl,ru⟩:=z5 r;cases ru;obtain⟨its,rv,pl,_⟩:=I.list (.inl e);obtain⟨m,hn,_⟩:=id I.loc;exact LSm.all_bools (Att.fr_all hn) (Cg (g:=Att.noObjs s.heap) (L:=X.env.locals)) (I.ok.hd hc) pl.isList (zg9 rv) fun h' tk F N=>⟨.bl _,H,I.frn hn F N,rfl,q⟩
 . exact h.elim
theorem zz:CallR X (.type "int") (fun xs H Q=>match xs with | [.int i]=>Q (.int i) H | [.bl k]=>Q (.int (if k then 1 else 0)) H |_=>False):=call_int1.imp fun xs H Q q=>by
 split at q
 . exact .inl ⟨_,rfl,q⟩
 . exact .inr ⟨_,rfl,q⟩
 . exact q.elim
theorem ziz(hc:X.calm=true):CallR X (.builtin "max") (fun xs H Q=>match xs with | [.int i,.int j]=>Q (.int (if j > i then j else i)) H |_=>False):=(zO hc).imp fun xs H Q q=>by
 split at q
 . exact⟨_,_,rfl,q⟩
 . exact q.elim
theorem zj0(hc:X.calm=true):CallR X (.builtin "min") (fun xs H Q=>match xs with | [.int i,.int j]=>Q (.int (if j<i then j else i)) H |_=>False):=(zN hc).imp fun xs H Q q=>by
 split at q
 . exact⟨_,_,rfl,q⟩
 . exact q.elim
end
noncomputable def ItS(S:Hp->Prop)(xs:List V):It:=⟨fun i H=>S H/\i<xs.length,fun i H x H'=>H'=H/\xs[i]?=some x,fun i H=>S H/\xs.length<=i⟩
theorem Turn.conv{P:Program}{w:World}{K:Frag}{tg:Expr}{J J':It}{fp:List Addr}{it:Addr}{tn:Nat->Heap->Prop}(T:Turn P w K tg J fp it tn)(h1:∀i H,J'.go i H->J.go i H)(h2:∀i H x H',J'.go i H->J.yld i H x H'->J'.yld i H x H')
  (h3:∀i H,J'.stop i H->J.stop i H):Turn P w K tg J' fp it tn where
 mem:=T.mem
 obj:=T.obj
 keep:=T.keep
 item:=fun X a b c d i pins s U H E I hf st hg=>thn (T.item X a b c d i pins s U H E I hf st (h1 i H hg)) fun r s1 ⟨u,e,h⟩=>⟨u,e,thn h fun _ s2 ⟨x,H',I',r',y',st',cC⟩=>⟨x,H',I',r',h2 i H x H' hg y',st',cC⟩⟩
 done:=fun X a b c d i pins s U H E I hf st hg=>T.done X a b c d i pins s U H E I hf st (h3 i H hg)
 self:=T.self
section
variable {X:Cx}{tg:Expr}
def W5(x:V)(H1:Hp)(R:It->Hp->Prop):Prop:=match x with
 | .ref a=>(match H1 a with
  |some (.lst xs)=>R (ItS (fun H'=>Rd H' a (.lst xs)) xs) H1
  |some (.frz _ (.lst xs))=>R (ItS (fun H'=>Rd H' a (.lst xs)) xs) H1
  |some (.tup xs)=>R (ItS (fun H'=>H' a=some (.tup xs)) xs) H1
  |_=>False)
 |_=>False
theorem yL(h:Rd H a (.lst xs))(r:R (ItS (fun H'=>Rd H' a (.lst xs)) xs) H):W5 (.ref a) H R:=by
 unfold W5;rcases h with h |⟨o,h⟩
 . dsimp only;rw[h];exact r
 . dsimp only;rw[h];exact r
theorem yK(h:H a=some (.tup xs))(r:R (ItS (fun H'=>H' a=some (.tup xs)) xs) H):W5 (.ref a) H R:=by unfold W5;dsimp only;rw[h];exact r
noncomputable def y7p(K:Frag)(tl:TE):TI:=fun U H R=>tl U H fun x H1=>W5 x H1 R
theorem vh(hl:PE X l tl):PI X tg l (y7p X.K tl):=by
 intro pins s U H R I h;refine thn (hl pins s U H _ I h) fun v s1 ⟨x,H1,I1,r1,q1⟩=>?_
 cases x<;>first |exact q1.elim |skip
 rename_i a;cases r1;unfold W5 at q1;dsimp only at q1;have eX:∀xs,Rd H1 a (.lst xs)->R (ItS (fun H'=>Rd H' a (.lst xs)) xs) H1->wpAny (model X.prog X.w) X.A (pyIter (.ref a)) (PIE X pins U tg R) X.xe s1:=fun xs hq q=>by
  obtain⟨its,rv,p,hz⟩:=I1.list (.inl hq);refine wpAny_pyIter_list p.isList ?_;refine⟨s1.heap.objs.size,[s1.heap.objs.size],_,_,H1,rfl,I1.kept (t':=s1.toks) fun b o e=>ω _ e,(zR a _).conv ?_ ?_ ?_,⟨_,π _ rfl,rfl,rfl⟩,fun b hb=>?_,q⟩
  . exact fun i H' ⟨h1,h2⟩=>⟨xs,xs[i],.inl h1,by simp[h2]⟩
  . exact fun i H' x fm ⟨h1,h2⟩ ⟨e,y⟩=>⟨e,y xs (.inl h1)⟩
  . exact fun i H' ⟨h1,h2⟩=>⟨xs,.inl h1,h2⟩
  . have e:b=s1.heap.objs.size:=by simpa using hb
    subst e;exact I1.fpOk (η _) (I1.hok.fresh (η _))
 split at q1
 . rename_i xs e;exact eX xs (.inl e) q1
 . rename_i o xs e;exact eX xs (.inr ⟨o,e⟩) q1
 . rename_i xs e;obtain⟨its,rv,p,hz⟩:=I1.tuple (.of e);refine wpAny_pyIter_tuple (show s1.heap.IsTuple a its.toArray from p) ?_;refine⟨s1.heap.objs.size,[s1.heap.objs.size],_,_,H1,rfl,I1.kept (t':=s1.toks) fun b o e=>ω _ e,(zio a _).conv ?_ ?_ ?_,⟨_,π _ rfl,rfl,rfl⟩,fun b hb=>?_,q1⟩
   . exact fun i H' ⟨h1,h2⟩=>⟨xs,xs[i],.of h1,by simp[h2]⟩
   . exact fun i H' x fm ⟨h1,h2⟩ ⟨e,y⟩=>⟨e,y xs (.of h1)⟩
   . exact fun i H' ⟨h1,h2⟩=>⟨xs,.of h1,h2⟩
   . have e:b=s1.heap.objs.size:=by simpa using hb
     subst e;exact I1.fpOk (η _) (I1.hok.fresh (η _))
 . exact q1.elim
noncomputable def L5(lo:Int)(n:Nat):List V:=(List.range n).map fun (i:Nat)=>V.int (lo+i)
theorem Me(lo:Int)(n:Nat):(L5 lo n).length=n:=by simp[L5]
theorem xm(lo:Int)(n i:Nat)(h:i<n):(L5 lo n)[i]?=some (.int (lo+i)):=by simp[L5,h]
def iR1(ta:TA):TI:=fun U H R=>ta U H fun vs H1=>match vs with | [.int j]=>(-(2 ^ 62)<=j/\j<2 ^ 62)/\R (ItS (fun _=>True) (L5 0 j.toNat)) H1 |_=>False
theorem Mx(lo:Int)(n:Nat):(∀i (H:Hp),(ItS (fun _=>True) (L5 lo n)).go i H->(Itr lo n).go i H)/\(∀i H x H',(ItS (fun _=>True) (L5 lo n)).go i H->(Itr lo n).yld i H x H'->(ItS (fun _=>True) (L5 lo n)).yld i H x H') /\
  (∀i (H:Hp),(ItS (fun _=>True) (L5 lo n)).stop i H->(Itr lo n).stop i H):=by
 refine⟨fun i H ⟨_,h⟩=>?_,fun i H x H' ⟨_,h⟩ ⟨e,y⟩=>⟨e,?_⟩,fun i H ⟨_,h⟩=>?_⟩
 . rw[Me]at h;exact h
 . rw[Me]at h;rw[y];exact xm lo n i h
 . rw[Me]at h;exact h
end
def kG(J:It)(g:TG)(tb:TS)(D:Ends)(U:St)(H1:Hp):Prop:=∃W:Nat->Nat->St->Hp->Prop,(∃m,W 0 m U H1)/\∀i m U H,W i m U H ->
 (J.stop i H/\D.nx U H)\/(J.go i H/\∃N:St->Hp->Prop,(∀ak H',N ak H'->∃m',m'<m/\W (i+1) m' ak H')/\∀x H',J.yld i H x H'->g x U H' fun bC H2=>tb { D with nx:=N,ct:=N,bk:=D.nx } bC H2)
noncomputable def Re(wi:TI)(g:TG)(tb:TS):TS:=fun D U H=>wi U H fun J H1=>kG J g tb D U H1
theorem xl(hp:PassesOwn (model X.prog X.w) X.A X.env X.xe)(hc:X.calm=true)(hi:PI X tg iter wi)(hg:PG X tg g)(hb:PSs X body tb)
 (hs:∀x,foldedSetIterable iter X.env x=pure x:=by intro _;rfl):PS X (.For tg iter body [] pos) (Re wi g tb):=vv hp hc hi hg hb hs
def Stp(n i:Nat)(P:Prop):Prop:=∃m',m'<n - i/\m'=n - (i+1)/\i+1<=n/\P
theorem Same.upd_new(h:H a=none):Same H (upd H a o):=fun b u e=>by rw[k8 (G8 e h)];exact e
theorem Same.upd_at(s:Same H H1)(h:H a=none):Same H (upd H1 a o):=fun b u e=>by rw[k8 (G8 e h)];exact s b u e
section
variable {X:Cx}{tg:Expr}{a:Expr}{ta:TA}{p pos:Pos}
theorem y34(hg:Gl X "range")(hm:X.mg "range"=none)(ha:PA X [a] ta)(hs:starEach [a] X.env=[(false,eval a X.env)]:=by rfl):PI X tg (.Call (.Name "range" p) [a] [] pos) (iR1 ta):=by
 intro pins s U H R I h;refine Call_ (Bs I hg hm boot_range (PyProof.Rows.callWith_type1 (thn (ha pos pins s U H _ I h) fun us s1 ⟨vs,H1,I1,r1,q1⟩=>?_) hs rfl));dsimp only at q1;split at q1
 . rename_i j;obtain⟨⟨h1,h2⟩,q⟩:=q1;obtain⟨u,rfl,t,rfl⟩:=z5 r1;refine call_range_1 (thn (yT (tg:=tg) (R:=fun J H1=>∃J',(∀i H,J'.go i H->J.go i H)/\(∀i H x H',J'.go i H->J.yld i H x H'->J'.yld i H x H')/\(∀i H,J'.stop i H->J.stop i H)/\R J' H1) I1 (by lia) (by lia) h1 h2 ?_) fun fT s2 h2=>?_)
   . refine⟨_,(Mx 0 (j - 0).toNat).1,(Mx 0 (j - 0).toNat).2.1,(Mx 0 (j - 0).toNat).2.2,?_⟩;simpa using q
   . obtain⟨it,fp,tn,J,H2,e,I2,T,st,hf,J',c1,c2,c3,r⟩:=h2;exact⟨it,fp,tn,J',H2,e,I2,T.conv c1 c2 c3,st,hf,r⟩
 . exact q1.elim
end
def cB1:V->Hp->(List V->Hp->Prop)->Prop:=fun x H R=>R [x] H
def cBT(n:Nat):V->Hp->(List V->Hp->Prop)->Prop:=fun x H R=>match x with
 | .ref a=>(match H a with |some (.tup xs)=>xs.length=n/\R xs H |_=>False)
 |_=>False
section
variable {X:Cx}{sc:Scope}{caps:List Str}{ix:List Nat}{aM iter:Expr}{aE:List Expr}{pos px py aD:Pos}{tt:TT}{te:TE}{wi:TI}{x y:Str}{kt:Nat}
theorem kF(x:V)(bD cs:St)(H:Hp)(Q:St->Hp->Prop)(hl:bD.length=1)(h:cB1 x H (fun ay H2=>Q (ay.map some++cs) H2)):E7 0 x (bD++cs) H fun bC H2=>(∃ay:List V,ay.length=1/\bC=ay.map some++cs)/\Q bC H2:=by
 match bD,hl with
 | [t],_=>exact⟨⟨[x],rfl,rfl⟩,h⟩
theorem kE{K:Frag}(x:V)(bD cs:St)(H:Hp)(Q:St->Hp->Prop)(hl:bD.length=2)(h:cBT 2 x H (fun ay H2=>Q (ay.map some++cs) H2)) :
  Qm K 2 (Bk (E7 0) (Bk (E7 1) Qn)) x (bD++cs) H fun bC H2=>(∃ay:List V,ay.length=2/\bC=ay.map some++cs)/\Q bC H2:=by
 cases x<;>first |exact h.elim |skip
 rename_i a
 unfold cBT at h
 dsimp only at h
 split at h
 . rename_i xs e;obtain⟨hn,h⟩:=h
   match bD,hl,xs,hn with
   | [t,t'],_,[v,v'],_=>exact⟨a,[v,v'],rfl,.of e,rfl,v,[v'],rfl,v',[],rfl,rfl,⟨[v,v'],rfl,rfl⟩,h⟩
 . exact h.elim
theorem Gx(hN:(tgs++caps).Nodup)(hi:(tgs++caps)[i]?=some x)(hx:sc.names.lookup x=some .local)(fp:List Addr)(s:Shared)(H:Hp):PG (n9 X sc (tgs++caps) fp s H) (.Name x px) (E7 i):=
 Lk (X:=n9 X sc (tgs++caps) fp s H) hN hi (.inl (lookup_relabel_local hx)) (.inr (lookup_relabel_local hx))
theorem yJ(C:CompOk X sc caps ix)(hN:([x]++caps).Nodup)(hx:sc.names.lookup x=some .local)(hi:PI X (.Name x px) iter wi)(ht:∀fp s H,PTs (n9 X sc ([x]++caps) fp s H) aE tt)(he:∀fp s H,PE (n9 X sc ([x]++caps) fp s H) aM te)
  (hs:∀x,foldedSetIterable iter X.env x=pure x:=by intro _;rfl):PE X (.ListComp aM [⟨.Name x px,iter,aE,0⟩] sc pos) (Q5 wi cB1 ix tt te):=
 Vr (tgs:=[x]) C hi (fun fp s H=>Gx hN rfl hx fp s H) kF ht he hs
theorem yI{v:Str}{k:Nat}{bH pv:Pos}(eN:X.N.Nodup)(hk:X.N[k]?=some v)(hv:X.env.scope.names.lookup v=some .local)(C:CompOk X sc caps ix)(hN:([x]++caps).Nodup)(hx:sc.names.lookup x=some .local)(hi:PI X (.Name x px) iter wi)
  (ht:∀fp s H,PTs (n9 X sc ([x]++caps) fp s H) aE tt) (he:∀fp s H,PE (n9 X sc ([x]++caps) fp s H) aM te)
  (cX:swapsWith (.ListComp aM [⟨.Name x px,iter,aE,0⟩] sc pos) (some (.Name v pv)) bH.line X.env=pure true:=by rfl) (hs:∀x,foldedSetIterable iter X.env x=pure x:=by intro _;rfl) :
  PS X (.Assign [.Name v pv] (.ListComp aM [⟨.Name x px,iter,aE,0⟩] sc pos) bH) (T1 (Q5 wi cB1 ix tt te) (E7 k)):=
 Vq (tgs:=[x]) eN hk hv C hi (fun fp s H=>Gx hN rfl hx fp s H) kF ht he cX hs
theorem Rc(hc:X.calm=true)(hN:([x,y]++caps).Nodup)(hx:sc.names.lookup x=some .local)(hy:sc.names.lookup y=some .local)(fp:List Addr)(s:Shared)(H:Hp) :
  PG (n9 X sc ([x,y]++caps) fp s H) (.Tuple [.Name x px,.Name y py] kt aD) (Qm X.K 2 (Bk (E7 0) (Bk (E7 1) Qn))):=
 Ts (X:=n9 X sc ([x,y]++caps) fp s H) hc (Mf (Gx hN rfl hx fp s H) (Mf (Gx hN rfl hy fp s H) pgs_nil))
theorem yH(C:CompOk X sc caps ix)(hN:([x,y]++caps).Nodup)(hx:sc.names.lookup x=some .local)(hy:sc.names.lookup y=some .local)(hi:PI X (.Tuple [.Name x px,.Name y py] kt aD) iter wi)(ht:∀fp s H,PTs (n9 X sc ([x,y]++caps) fp s H) aE tt)
  (he:∀fp s H,PE (n9 X sc ([x,y]++caps) fp s H) aM te) (hs:∀x,foldedSetIterable iter X.env x=pure x:=by intro _;rfl):PE X (.ListComp aM [⟨.Tuple [.Name x px,.Name y py] kt aD,iter,aE,0⟩] sc pos) (Q5 wi (cBT 2) ix tt te):=
 Vr (tgs:=[x,y]) C hi (fun fp s H=>Rc C.calm hN hx hy fp s H) kE ht he hs
theorem yG{v:Str}{k:Nat}{bH pv:Pos}(eN:X.N.Nodup)(hk:X.N[k]?=some v)(hv:X.env.scope.names.lookup v=some .local)(C:CompOk X sc caps ix)(hN:([x,y]++caps).Nodup)(hx:sc.names.lookup x=some .local)(hy:sc.names.lookup y=some .local)
  (hi:PI X (.Tuple [.Name x px,.Name y py] kt aD) iter wi) (ht:∀fp s H,PTs (n9 X sc ([x,y]++caps) fp s H) aE tt) (he:∀fp s H,PE (n9 X sc ([x,y]++caps) fp s H) aM te)
  (cX:swapsWith (.ListComp aM [⟨.Tuple [.Name x px,.Name y py] kt aD,iter,aE,0⟩] sc pos) (some (.Name v pv)) bH.line X.env=pure true:=by rfl) (hs:∀x,foldedSetIterable iter X.env x=pure x:=by intro _;rfl) :
  PS X (.Assign [.Name v pv] (.ListComp aM [⟨.Tuple [.Name x px,.Name y py] kt aD,iter,aE,0⟩] sc pos) bH) (T1 (Q5 wi (cBT 2) ix tt te) (E7 k)):=
 Vq (tgs:=[x,y]) eN hk hv C hi (fun fp s H=>Rc C.calm hN hx hy fp s H) kE ht he cX hs
noncomputable def Je(n:Nat)(t:TGs):TG:=fun v U H Q=>match v with
 | .ref a=>(match H a with |some (.tup xs)=>xs.length=n/\t xs U H Q |_=>False)
 |_=>False
noncomputable def Tk(t:TG)(u:TGs):TGs:=fun vs U H Q=>match vs with |v::r=>t v U H fun ak H'=>u r ak H' Q | []=>False
noncomputable def Rb:TGs:=fun vs U H Q=>match vs with | []=>Q U H |_=>False
theorem PGs.imp(h:PGs X es t)(hi:∀vs U H Q,t' vs U H Q->t vs U H Q):PGs X es t':=fun pins s U H vs us Q I r q=>h pins s U H vs us Q I r (hi vs U H Q q)
theorem PG.imp(h:PG X e t)(hi:∀v U H Q,t' v U H Q->t v U H Q):PG X e t':=fun pins s U H v u Q I r q=>h pins s U H v u Q I r (hi v U H Q q)
theorem yF:PGs X [] Rb:=pgs_nil.imp fun vs U H Q q=>by
 cases vs with
 |nil=>exact⟨rfl,q⟩
 |cons _ _=>exact q.elim
theorem zy(h1:PG X e t)(h2:PGs X es u)(hs:(assignEach (e::es) X.env).map (·.2)=assign e X.env::(assignEach es X.env).map (·.2):=by rfl):PGs X (e::es) (Tk t u):=(Mf h1 h2 hs).imp fun vs U H Q q=>by
 cases vs with
 |nil=>exact q.elim
 |cons v r=>exact⟨v,r,rfl,q⟩
theorem xk(hc:X.calm=true)(h:PGs X es t)
  (hn:(assignEach es X.env).length=n:=by rfl) (aJ:(assignEach es X.env).findIdx? (·.1)=none:=by rfl):PG X (.Tuple es k pos) (Je n t):=(Ts hc h hn aJ).imp fun v U H Q q=>by
 cases v<;>first |exact q.elim |skip
 rename_i a
 unfold Je at q
 dsimp only at q
 split at q
 . rename_i xs e;exact⟨a,xs,rfl,.of e,q.1,q.2⟩
 . exact q.elim
end
theorem kD(a:α)(r:List α):atI (a::r) 0=some a:=Z0 (j:=0) rfl
theorem kC(a b:α)(r:List α):atI (a::b::r) 1=some b:=Z0 (j:=1) rfl
section
variable {prog:Program}{w:World}{A:Around}{E:Value->Shared->Prop}{s:Shared}
theorem Wr(aA:t≠it):∀(n i:Nat)(s:Shared)(Q:List Value->Shared->Prop),s.heap.IsListIter it t i->s.heap.IsList t items->i+n<=items.size ->
  (∀h',h'.IsListIter it t (i+n)->Heap.SameBut it s.heap h'->Q ((items.toList.drop i).take n) { s with heap:=h' })->wpAny (model prog w) A (draw (.ref it) n) Q E s
 | 0,i,s,Q,fY,_,_,k=>by show wpAny _ _ (pure []) Q E s;exact γ (by simpa using k s.heap fY (Heap.SameBut.refl ..))
 |n+1,i,s,Q,fY,ht,ft,k=>by
  have aH:i<items.size:=by lia
  show wpAny _ _ (pyNext (.ref it) >>= _) Q E s;refine χ (wpAny_pyNext_list_item fY ht (x:=items[i]) (by simp[aH]) fun g1 iU fZ=>?_);refine χ (BY (Wr aA n (i+1) _ _ iU (ht.extBut fZ.extBut aA) (by lia) fun g2 pQ pR=>γ ?_));have hd:items.toList.drop i=items[i]::items.toList.drop (i+1):=by simp[EK,aH]
  have z:=k g2 (by rw[show i+(n+1)=i+1+n by lia];exact pQ) (fZ.trans pR);rw[hd,List.take_succ_cons]at z;exact z
theorem zx(hh:A.handled=none)(ht:s.heap.IsList t items)
  (k:∀h',(∀b o,s.heap.get? b=some o->h'.get? b=some o)->Q items.toList { s with heap:=h' }):wpAny (model prog w) A (unpackItems (.ref t) items.size none) Q E s:=by
 have aH:t≠s.heap.objs.size:=by obtain⟨o,ho,_⟩:=ht;exact AG (τ ho)
 have nj:∀{b:Addr}{o:Obj},s.heap.get? b=some o->b≠s.heap.objs.size:=fun e=>AG (τ e)
 unfold unpackItems
 refine χ ?_
 . unfold notIterableAtAll;refine χ (wpAny_specialOf ht.typeIs slot_list_iter.lookup ?_);refine γ ?_;simp only[AF,BK];refine χ (BY (wpAny_pyIter_list ht ?_));refine χ (BY (Wr aH items.size 0 _ _ ⟨_,π _ rfl,rfl,rfl⟩ (ht.push _) (by lia) fun g1 iU fZ=>?_));have dQ:List.take items.size (List.drop 0 items.toList)=items.toList:=by rw[List.drop_zero];exact List.take_of_length_le (by simp)
   rw[dQ];rw[ξ (by simp)];have gQ:g1.IsList t items:=(ht.push _).extBut fZ.extBut aH;refine χ (BY (wpAny_pyNext_list_end hh iU gQ (by simp) fun g2 pS=>?_));simp only[Option.isSome_none,AF,BK];exact γ (k g2 fun b o e=>pS b o (nj e) (fZ.extBut b o (nj e) (ω _ e)))
theorem zj1(hh:A.handled=none)(ht:s.heap.IsList t items)
  (hn:(assignEach fK env).length=items.size) (iJ:(assignEach fK env).findIdx? (·.1)=none)
  (h:∀h',(∀b o,s.heap.get? b=some o->h'.get? b=some o)->wpAny (model prog w) A (assignInOrder ((assignEach fK env).map (·.2)) items.toList) Q E { s with heap:=h' }) :
  wpAny (model prog w) A (assign (.Tuple fK x1 pos) env (.ref t)) Q E s:=by
 rw[assign_Tuple]
 refine χ (wpAny_standAt ?_)
 unfold unpack
 rw[hn,iJ]
 exact χ (BY (zx hh ht h))
end
section
variable {X:Cx}{pos:Pos}
noncomputable def Bi(n:Nat)(t:TGs):TG:=fun v U H Q=>match v with
 | .ref a=>(match H a with
  |some (.tup xs)=>xs.length=n/\t xs U H Q
  |some (.lst xs)=>xs.length=n/\t xs U H Q
  |_=>False)
 |_=>False
theorem xj(hc:X.calm=true)(h:PGs X es t)
  (hn:(assignEach es X.env).length=n:=by rfl) (aJ:(assignEach es X.env).findIdx? (·.1)=none:=by rfl):PG X (.Tuple es k pos) (Bi n t):=by
 intro pins s U H v u Q I r hw
 cases v<;>first |exact hw.elim |skip
 rename_i a
 unfold Bi at hw
 dsimp only at hw
 split at hw
 . rename_i xs e;exact xk hc h hn aJ pins s U H (.ref a) u Q I r (by unfold Je;dsimp only;rw[e];exact hw)
 . rename_i xs e;obtain⟨hl,hw⟩:=hw;cases r;obtain⟨its,rv,ht,hz⟩:=I.list (.of e);refine zj1 (I.ok.hd hc) ht.isList (by simp[hn,<-hl,rv.length]) aJ fun h' hx=>?_
   exact h pins _ U H xs _ Q (I.kept (t':=s.toks) hx) (by simpa using rv) hw
 . exact hw.elim
def Gw:List V->Hp->VK->Prop:=fun xs H Q=>match xs with
 | [x,.ty c]=>K1 c=true/\(match N7 H x with |some t=>Q (.bl (J4 t c)) H |none=>False)
 |_=>False
def Jd:List V->Hp->VK->Prop:=fun xs H Q=>match xs with
 | [.ref p]=>∃ns:List Int,G6 H p=some (ns.map V.int)/\Q (.int ns.sum) H
 |_=>False
def Jc:List V->Hp->VK->Prop:=fun xs H Q=>match xs with
 | [.ref p]=>∃bs:List Bool,Rd H p (.lst (bs.map V.bl))/\Q (.bl (bs.all id)) H
 |_=>False
def Ra:List V->Hp->VK->Prop:=fun xs H Q=>match xs with | [.int i]=>Q (.int i) H | [.bl k]=>Q (.int (if k then 1 else 0)) H |_=>False
def Jb:List V->Hp->VK->Prop:=fun xs H Q=>match xs with | [.int i,.int j]=>Q (.int (if j > i then j else i)) H |_=>False
def Ja:List V->Hp->VK->Prop:=fun xs H Q=>match xs with | [.int i,.int j]=>Q (.int (if j<i then j else i)) H |_=>False
section
variable {H:Hp}{Q:VK}{p:Addr}{i j:Int}{x:V}{cs:String}
theorem vg:Gw [x,.ty cs] H Q=(K1 cs=true/\(match N7 H x with |some t=>Q (.bl (J4 t cs)) H |none=>False)):=rfl
theorem Vp:Jd [.ref p] H Q=∃ns:List Int,G6 H p=some (ns.map V.int)/\Q (.int ns.sum) H:=rfl
theorem xi:Jc [.ref p] H Q=∃bs:List Bool,Rd H p (.lst (bs.map V.bl))/\Q (.bl (bs.all id)) H:=rfl
theorem xh:Jb [.int i,.int j] H Q=Q (.int (if j > i then j else i)) H:=rfl
theorem xb:Ja [.int i,.int j] H Q=Q (.int (if j<i then j else i)) H:=rfl
end
theorem y35:CallR X (.builtin "isinstance") Gw:=yM
theorem Qz(hc:X.calm=true):CallR X (.builtin "sum") Jd:=zB hc
theorem Qy(hc:X.calm=true):CallR X (.builtin "all") Jc:=zA hc
theorem Hz:CallR X (.type "int") Ra:=zz
theorem Tj(hc:X.calm=true):CallR X (.builtin "max") Jb:=ziz hc
theorem Ti(hc:X.calm=true):CallR X (.builtin "min") Ja:=zj0 hc
end
inductive NK where
 |i (n:Int)
 |t (ks:List NK)
noncomputable instance:DecidableEq NK:=fun a b=>Classical.propDecidable (a=b)
mutual
noncomputable def NK.dep:NK->Nat
 | .i _=>0
 | .t ks=>Th ks+1
noncomputable def Th:List NK->Nat
 | []=>0
 |k::ks=>max k.dep (Th ks)
end
mutual
noncomputable def NK.hs:NK->Int
 | .i n=>hashInt n
 | .t ks=>reduceHash (Builtin.Tuple.tupleHashOf (kB ks))
noncomputable def kB:List NK->List Int
 | []=>[]
 |k::ks=>k.hs::kB ks
end
mutual
def NKv(h:Heap):NK->Value->Prop
 | .i n,v=>∃t,v=.int n t
 | .t ks,v=>∃a its,v=.ref a/\h.IsTuple a its/\NKvs h ks its.toList
def NKvs(h:Heap):List NK->List Value->Prop
 | [],vs=>vs=[]
 |k::ks,vs=>∃v r,vs=v::r/\NKv h k v/\NKvs h ks r
end
theorem NKvs.len:∀{ks:List NK}{vs:List Value},NKvs h ks vs->ks.length=vs.length
 | [],_,q=>by simp only[NKvs]at q;rw[q];rfl
 |k::ks,_,q=>by simp only[NKvs]at q;obtain⟨v,r,rfl,_,q⟩:=q;simp only[pp,NKvs.len q]
theorem zw{h:Heap}{a:Addr}{x y:Array Value}(p:h.IsTuple a x)(q:h.IsTuple a y):x=y:=by obtain⟨o,e,c,n,d⟩:=p;obtain⟨o',e',c',n',d'⟩:=q;rw[e]at e';cases e';rw[d]at d';cases d';rfl
mutual
theorem NKv.inj:∀{k j:NK}{v:Value},NKv h k v->NKv h j v->k=j
 | .i n,.i m,v,p,q=>by simp only[NKv]at p q;obtain⟨t,rfl⟩:=p;obtain⟨t',e⟩:=q;cases e;rfl
 | .i n,.t ks,v,p,q=>by simp only[NKv]at p q;obtain⟨t,rfl⟩:=p;obtain⟨_,_,e,_⟩:=q;cases e
 | .t ks,.i m,v,p,q=>by simp only[NKv]at p q;obtain⟨t,rfl⟩:=q;obtain⟨_,_,e,_⟩:=p;cases e
 | .t ks,.t js,v,p,q=>by simp only[NKv]at p q;obtain⟨a,its,rfl,p1,p2⟩:=p;obtain⟨b,its',e,q1,q2⟩:=q;cases e;cases zw p1 q1;rw[NKvs.inj p2 q2]
theorem NKvs.inj:∀{ks js:List NK}{vs:List Value},NKvs h ks vs->NKvs h js vs->ks=js
 | [],[],_,_,_=>rfl
 | [],j::js,_,p,q=>by simp only[NKvs]at p q;subst p;obtain⟨_,_,e,_⟩:=q;cases e
 |k::ks,[],_,p,q=>by simp only[NKvs]at p q;subst q;obtain⟨_,_,e,_⟩:=p;cases e
 |k::ks,j::js,_,p,q=>by simp only[NKvs]at p q;obtain⟨v,r,rfl,p1,p2⟩:=p;obtain⟨_,_,e,q1,q2⟩:=q;cases e;rw[NKv.inj p1 q1,NKvs.inj p2 q2]
end
def dnE(x:NK×Addr×Value):DictEntry:={ hash:=x.1.hs,key:=.ref x.2.1,val:=x.2.2 }
def dnP(a:Addr)(ks:List (NK×Addr))(xs:List V)(o:Obj)(h:Heap):Prop:=
 h.get? a=some o/\∃(vs:List Value)(es:Array DictEntry)(ep:Nat),Vals xs vs/\ks.length=vs.length/\o.ExactDict/\o.data=.dict es ep/\es.toList=((ks.zip vs).map fun q=>(q.1.1,q.1.2,q.2)).map dnE
def tkH(hf:Str->Int)(k:Str×NK):Int:=reduceHash (Builtin.Tuple.tupleHashOf [hf k.1,k.2.hs])
def dpE(hf:Str->Int)(x:(Str×NK)×Addr×Value):DictEntry:={ hash:=tkH hf x.1,key:=.ref x.2.1,val:=x.2.2 }
def dpP(hf:Str->Int)(a:Addr)(ks:List ((Str×NK)×Addr))(xs:List V)(o:Obj)(h:Heap):Prop:=
 h.get? a=some o/\∃(vs:List Value)(es:Array DictEntry)(ep:Nat),Vals xs vs/\ks.length=vs.length/\o.ExactDict/\o.data=.dict es ep/\es.toList=((ks.zip vs).map fun q=>(q.1.1,q.1.2,q.2)).map (dpE hf)
mutual
def NKr(H:Hp):NK->V->Prop
 | .i n,v=>v=.int n
 | .t ks,v=>∃a ys,v=.ref a/\H a=some (.tup ys)/\NKrs H ks ys
def NKrs(H:Hp):List NK->List V->Prop
 | [],vs=>vs=[]
 |k::ks,vs=>∃v r,vs=v::r/\NKr H k v/\NKrs H ks r
end
mutual
theorem NKr.mono(st:∀a ys,H a=some (.tup ys)->H' a=some (.tup ys)):∀{k:NK}{v:V},NKr H k v->NKr H' k v
 | .i n,v,p=>by simp only[NKr]at p⊢;exact p
 | .t ks,v,p=>by simp only[NKr]at p⊢;obtain⟨a,ys,e,p1,p2⟩:=p;exact⟨a,ys,e,st _ _ p1,NKrs.mono st p2⟩
theorem NKrs.mono(st:∀a ys,H a=some (.tup ys)->H' a=some (.tup ys)):∀{ks:List NK}{vs:List V},NKrs H ks vs->NKrs H' ks vs
 | [],_,p=>by simp only[NKrs]at p⊢;exact p
 |k::ks,_,p=>by simp only[NKrs]at p⊢;obtain⟨v,r,e,p1,p2⟩:=p;exact⟨v,r,e,NKr.mono st p1,NKrs.mono st p2⟩
end
def KL(K:Frag)(a:Addr)(xs:List V):Prop:=∃(o:Obj)(its:Array Value)(n:Nat),K.lookup a=some o/\o.cls=.type "list"/\o.dict=none/\o.data=.seq its n/\its.size<=sizeLine/\Vals xs its.toList
def XO(K:Frag)(c:String)(a:Addr)(od:Option Addr)(o:HO):Prop:=∃C:Addr,nsIn K mainGlobals (c:Str)=some (some (.ref C))/\o=.ext fun h=>∃ob,h.get? a=some ob/\ob.cls=.ref C/\(∃vs,ob.data=.fields vs)/\ob.dict=od
noncomputable def t6(c:String):List Str:=if c="Fallen" then ["corner"] else if c="Crossed" then ["one","other"] else if c="NotFull" then ["line"] else if c="TurnLine" then ["line"] else if c="Spin" then ["by"] else []
inductive D where
 |non |bl (b:Bool) |int (i:Int) |str (x:Str) |tup (ds:List D) |lst (ds:List D)
 |dk (ks:List Key) (ds:List D) |dt (ks:List (List Key)) (ds:List D) |dn (ks:List NK) (ds:List D) |scr (ns:List Int) |exc (c:String) (fs:List D)
 |obj (c:String) (fs:List D) |dp (hf:Str->Int) (n:Nat)
def DN(H:Hp)(a:Addr)(qs:List (NK×Addr)):Prop:=(qs.map (·.1)).Nodup/\(∀q∈qs,NKr H q.1 (.ref q.2)/\q.1.dep<=8)/\(a==sysModules)=false/\qs.length<=sizeLine
theorem DN.tk(h:DN H a qs)(st:∀a ys,H a=some (.tup ys)->H' a=some (.tup ys)):DN H' a qs:=
 ⟨h.1,fun q hq=>⟨NKr.mono st (h.2.1 q hq).1,(h.2.1 q hq).2⟩,h.2.2⟩
def TKr(H:Hp)(k:Str×NK)(v:V):Prop:=∃a y,v=.ref a/\H a=some (.tup [.str k.1,y])/\NKr H k.2 y
noncomputable def pdO(k:Str×NK):Option (String×List NK):=if k.1="turn" then some ("TurnLine",[k.2]) else if k.1="spin" then some ("Spin",[k.2]) else if k.1="mirror" then some ("Mirror",[]) else none
def PoR(K:Frag)(H:Hp)(k:Str×NK)(x:V):Prop:=∃c ns b C dx ys,pdO k=some (c,ns)/\x=.ref b/\nsIn K mainGlobals (c:Str)=some (some (.ref C))/\H b=some (.ins C dx ((t6 c).zip ys))/\ys.length=(t6 c).length/\NKrs H ns ys
def DP(K:Frag)(H:Hp)(a:Addr)(qs:List ((Str×NK)×Addr))(xs:List V):Prop:=(qs.map (·.1)).Nodup/\(∀q∈qs,TKr H q.1 (.ref q.2)/\q.1.2.dep<=7)/\(a==sysModules)=false/\qs.length=xs.length/\∀p∈qs.zip xs,PoR K H p.1.1 p.2
mutual
noncomputable def D.noL:D->Bool
 | .lst _=>false
 | .dk _ _=>false
 | .dt _ _=>false
 | .dn _ _=>false
 | .dp _ _=>false
 | .tup ds=>k9 ds
 |_=>true
noncomputable def k9:List D->Bool
 | []=>true
 |d::ds=>d.noL&&k9 ds
end
mutual
noncomputable def D.pl:D->Bool
 | .dk _ _=>false
 | .dt _ _=>false
 | .dn _ _=>false
 | .dp _ _=>false
 | .scr _=>false
 | .exc _ _=>false
 | .obj _ _=>false
 | .tup ds=>pls ds
 | .lst ds=>pls ds
 |_=>true
noncomputable def pls:List D->Bool
 | []=>true
 |d::ds=>d.pl&&pls ds
end
mutual
def RD(K:Frag)(H:Hp):D->V->Prop
 | .non,v=>v=.non
 | .bl b,v=>v=.bl b
 | .int i,v=>v=.int i
 | .str x,v=>v=.str x
 | .tup ds,v=>∃a xs,v=.ref a/\H a=some (.tup xs)/\RDs K H ds xs
 | .lst ds,v=>∃a xs,v=.ref a/\H a=some (.lst xs)/\RDs K H ds xs
 | .dk ks ds,v=>∃a xs,v=.ref a/\H a=some (.dK (ks.zip xs))/\ks.length=xs.length/\RDs K H ds xs
 | .dt ks ds,v=>∃a xs,v=.ref a/\H a=some (.dT (ks.zip xs))/\ks.length=xs.length/\RDs K H ds xs
 | .dn ks ds,v=>∃a qs xs o,v=.ref a/\H a=some (.ext (dnP a qs xs o))/\qs.map (·.1)=ks/\DN H a qs/\RDs K H ds xs
 | .scr ns,v=>∃a,v=.ref a/\((∃o,H a=some (.frz o (.lst (ns.map V.int))))\/KL K a (ns.map V.int))
 | .exc c fs,v=>∃a od o,v=.ref a/\XO K c a od o/\H a=some o/\(fs=[]\/∃(dx:Addr)(vs:List V)(ob:Obj),od=some dx/\H dx=some (.frz ob (.xd ((t6 c).zip vs)))/\(k9 fs=true/\pls fs=true)/\RDs K H fs vs)
 | .obj c fs,v=>∃a C dx vs,v=.ref a/\nsIn K mainGlobals (c:Str)=some (some (.ref C))/\H a=some (.ins C dx ((t6 c).zip vs))/\vs.length=(t6 c).length/\(k9 fs=true/\pls fs=true)/\RDs K H fs vs
 | .dp hf n,v=>∃a qs xs o,v=.ref a/\H a=some (.ext (dpP hf a qs xs o))/\DP K H a qs xs/\qs.length<=n
def RDs(K:Frag)(H:Hp):List D->List V->Prop
 | [],xs=>xs=[]
 |d::ds,xs=>∃x r,xs=x::r/\RD K H d x/\RDs K H ds r
end
def D.shal:D->Bool
 | .lst ds=>k9 ds
 | .dk _ ds=>k9 ds
 | .dt _ ds=>k9 ds
 | .dn _ ds=>k9 ds
 | .dp _ _=>true
 |d=>d.noL
def Imm:HO->Prop
 | .tup _=>True
 | .frz _ _=>True
 | .ins _ _ _=>True
 | .ext φ=>(∀a qs xs o,φ≠dnP a qs xs o)/\∀hf a qs xs o,φ≠dpP hf a qs xs o
 |_=>False
theorem XO.imm{K:Frag}{c:String}{a:Addr}{od:Option Addr}{o:HO}(h:XO K c a od o):Imm o:=by
 obtain⟨C,_,rfl⟩:=h
 suffices hz:∀(b:Addr)(o0:Obj)(P:Heap->Prop),((fun h:Heap=>∃ob,h.get? a=some ob/\ob.cls=.ref C/\(∃vs,ob.data=.fields vs)/\ob.dict=od)=P)->(∀h,P h->h.get? b=some o0/\∃es ep,o0.data=.dict es ep)->False from
  ⟨fun b qs xs o0 e=>hz b o0 _ e fun h p=>by obtain⟨g,vs,es,ep,_,_,_,d,_⟩:=p;exact⟨g,es,ep,d⟩,fun hf b qs xs o0 e=>hz b o0 _ e fun h p=>by obtain⟨g,vs,es,ep,_,_,_,d,_⟩:=p;exact⟨g,es,ep,d⟩⟩
 intro b o0 P e hP;obtain⟨ob,eh⟩:∃ob:Obj,ob={ cls:=.ref C,dict:=od,data:=.fields #[] }:=⟨_,rfl⟩;have hg:∀(i:Nat)(o:Obj),({ objs:=Array.replicate (a+1) ob }:Heap).get? i=some o->o=ob:=fun i o q=>by
  by_cases hi:i<a+1
  . have z:({ objs:=Array.replicate (a+1) ob }:Heap).get? i=some ob:=by
     unfold Heap.get?
     rw[ER,ζ hi,eh]
    rw[z]at q;cases q;rfl
  . unfold Heap.get? at q;rw[ER,ξ hi]at q;cases q
 have h1:(fun h:Heap=>∃ob,h.get? a=some ob/\ob.cls=.ref C/\(∃vs,ob.data=.fields vs)/\ob.dict=od) { objs:=Array.replicate (a+1) ob }:=by refine⟨ob,?_,by rw[eh],⟨#[],by rw[eh]⟩,by rw[eh]⟩;unfold Heap.get?;rw[ER,ζ (DX a),eh]
 rw[e]at h1;obtain⟨g,es,ep,d⟩:=hP _ h1;rw[hg _ _ g,eh]at d;cases d
def TK(H H':Hp):Prop:=∀a o,Imm o->H a=some o->H' a=some o
theorem Same.tk(h:Same H H'):TK H H':=fun a o _ e=>h a o e
theorem TKr.tk(st:∀a ys,H a=some (.tup ys)->H' a=some (.tup ys))(h:TKr H k v):TKr H' k v:=by obtain⟨a,y,e,h1,h2⟩:=h;exact⟨a,y,e,st _ _ h1,NKr.mono st h2⟩
theorem PoR.tk{K:Frag}{H H':Hp}(st:TK H H'){k:Str×NK}{x:V}(h:PoR K H k x):PoR K H' k x:=by obtain⟨c,ns,b,C,dx,ys,h1,h2,h3,h4,h5,h6⟩:=h;exact⟨c,ns,b,C,dx,ys,h1,h2,h3,st _ _ trivial h4,h5,NKrs.mono (fun a ys q=>st _ _ trivial q) h6⟩
theorem DP.tk{K:Frag}{H H':Hp}{a:Addr}{qs:List ((Str×NK)×Addr)}{xs:List V}(st:TK H H')(h:DP K H a qs xs):DP K H' a qs xs:=
 ⟨h.1,fun q hq=>⟨(h.2.1 q hq).1.tk fun a ys q=>st _ _ trivial q,(h.2.1 q hq).2⟩,h.2.2.1,h.2.2.2.1,fun p hp=>(h.2.2.2.2 p hp).tk st⟩
section
variable {K:Frag}{H H':Hp}
mutual
theorem RD.tk(hs:TK H H'):∀{d:D}{v:V},d.noL=true->RD K H d v->RD K H' d v
 | .non,_,_,h=>by simp only[RD]at h⊢;exact h
 | .bl _,_,_,h=>by simp only[RD]at h⊢;exact h
 | .int _,_,_,h=>by simp only[RD]at h⊢;exact h
 | .str _,_,_,h=>by simp only[RD]at h⊢;exact h
 | .tup ds,_,n,h=>by simp only[RD]at h⊢;obtain⟨a,xs,e,h1,h2⟩:=h;exact⟨a,xs,e,hs _ _ trivial h1,RDs.tk hs (by simpa only [D.noL] using n) h2⟩
 | .lst ds,_,n,h=>by simp[D.noL]at n
 | .dk _ ds,_,n,h=>by simp[D.noL]at n
 | .dt _ ds,_,n,h=>by simp[D.noL]at n
 | .dn _ ds,_,n,h=>by simp[D.noL]at n
 | .dp _ _,_,n,h=>by simp[D.noL]at n
 | .obj c fs,_,n,h=>by simp only[RD]at h⊢;obtain⟨a,C,dx,vs,e,h1,h2,h3,h4,h5⟩:=h;exact⟨a,C,dx,vs,e,h1,hs _ _ trivial h2,h3,h4,RDs.tk hs h4.1 h5⟩
 | .exc c fs,_,n,h=>by
  simp only[RD]at h⊢;obtain⟨a,od,o,e,h1,h2,h3⟩:=h;refine⟨a,od,o,e,h1,hs _ _ h1.imm h2,?_⟩;rcases h3 with h3 |⟨dx,xs,ob,q1,q2,q3,q4⟩
  . exact .inl h3
  . exact .inr ⟨dx,xs,ob,q1,hs _ _ trivial q2,q3,RDs.tk hs q3.1 q4⟩
 | .scr ns,_,n,h=>by
  simp only[RD]at h⊢;obtain⟨a,e,h1⟩:=h;refine⟨a,e,?_⟩;rcases h1 with⟨o,h1⟩ |h1
  . exact .inl ⟨o,hs _ _ trivial h1⟩
  . exact .inr h1
theorem RDs.tk(hs:TK H H'):∀{ds:List D}{xs:List V},k9 ds=true->RDs K H ds xs->RDs K H' ds xs
 | [],_,_,h=>by simp only[RDs]at h⊢;exact h
 |d::ds,_,n,h=>by simp only[RDs]at h⊢;simp only[k9,oF]at n;obtain⟨x,r,e,h1,h2⟩:=h;exact⟨x,r,e,RD.tk hs n.1 h1,RDs.tk hs n.2 h2⟩
end
mutual
theorem RD.mono(hs:Same H H'):∀{d:D}{v:V},RD K H d v->RD K H' d v
 | .non,_,h=>by simp only[RD]at h⊢;exact h
 | .bl _,_,h=>by simp only[RD]at h⊢;exact h
 | .int _,_,h=>by simp only[RD]at h⊢;exact h
 | .str _,_,h=>by simp only[RD]at h⊢;exact h
 | .tup ds,_,h=>by simp only[RD]at h⊢;obtain⟨a,xs,e,h1,h2⟩:=h;exact⟨a,xs,e,hs _ _ h1,RDs.mono hs h2⟩
 | .lst ds,_,h=>by simp only[RD]at h⊢;obtain⟨a,xs,e,h1,h2⟩:=h;exact⟨a,xs,e,hs _ _ h1,RDs.mono hs h2⟩
 | .dk _ ds,_,h=>by simp only[RD]at h⊢;obtain⟨a,xs,e,h1,hl,h2⟩:=h;exact⟨a,xs,e,hs _ _ h1,hl,RDs.mono hs h2⟩
 | .dn _ ds,_,h=>by simp only[RD]at h⊢;obtain⟨a,qs,xs,o,e,h1,hk,hd,h2⟩:=h;exact⟨a,qs,xs,o,e,hs _ _ h1,hk,hd.tk fun b ys q=>hs _ _ q,RDs.mono hs h2⟩
 | .dt _ ds,_,h=>by simp only[RD]at h⊢;obtain⟨a,xs,e,h1,hl,h2⟩:=h;exact⟨a,xs,e,hs _ _ h1,hl,RDs.mono hs h2⟩
 | .dp _ _,_,h=>by simp only[RD]at h⊢;obtain⟨a,qs,xs,o,e,h1,h2,h3⟩:=h;exact⟨a,qs,xs,o,e,hs _ _ h1,h2.tk hs.tk,h3⟩
 | .obj c fs,_,h=>by simp only[RD]at h⊢;obtain⟨a,C,dx,vs,e,h1,h2,h3,h4,h5⟩:=h;exact⟨a,C,dx,vs,e,h1,hs _ _ h2,h3,h4,RDs.mono hs h5⟩
 | .exc c fs,_,h=>by
  simp only[RD]at h⊢;obtain⟨a,od,o,e,h1,h2,h3⟩:=h;refine⟨a,od,o,e,h1,hs _ _ h2,?_⟩;rcases h3 with h3 |⟨dx,xs,ob,q1,q2,q3,q4⟩
  . exact .inl h3
  . exact .inr ⟨dx,xs,ob,q1,hs _ _ q2,q3,RDs.mono hs q4⟩
 | .scr ns,_,h=>by
  simp only[RD]at h⊢;obtain⟨a,e,h1⟩:=h;refine⟨a,e,?_⟩;rcases h1 with⟨o,h1⟩ |h1
  . exact .inl ⟨o,hs _ _ h1⟩
  . exact .inr h1
theorem RDs.mono(hs:Same H H'):∀{ds:List D}{xs:List V},RDs K H ds xs->RDs K H' ds xs
 | [],_,h=>by simp only[RDs]at h⊢;exact h
 |d::ds,_,h=>by simp only[RDs]at h⊢;obtain⟨x,r,e,h1,h2⟩:=h;exact⟨x,r,e,RD.mono hs h1,RDs.mono hs h2⟩
end
theorem RDs.length:∀{ds:List D}{xs:List V},RDs K H ds xs->ds.length=xs.length
 | [],_,h=>by simp only[RDs]at h;subst h;rfl
 |d::ds,_,h=>by simp only[RDs]at h;obtain⟨x,r,rfl,_,h2⟩:=h;simp[RDs.length h2]
theorem RDs.get:∀{ds:List D}{xs:List V}{i:Nat}{x:V},RDs K H ds xs->xs[i]?=some x->∃d,ds[i]?=some d/\RD K H d x
 | [],_,i,x,h,e=>by simp only[RDs]at h;subst h;simp at e
 |d::ds,_,i,x,h,e=>by
  simp only[RDs]at h;obtain⟨y,r,rfl,h1,h2⟩:=h;cases i with
  |zero=>simp at e;subst e;exact⟨d,rfl,h1⟩
  |succ i=>simp at e;obtain⟨d',e1,e2⟩:=RDs.get h2 e;exact⟨d',by simpa using e1,e2⟩
theorem RDs.get':∀{ds:List D}{xs:List V}{i:Nat}{d:D},RDs K H ds xs->ds[i]?=some d->∃x,xs[i]?=some x/\RD K H d x
 | [],_,i,d,h,e=>by simp at e
 |d'::ds,_,i,d,h,e=>by
  simp only[RDs]at h;obtain⟨y,r,rfl,h1,h2⟩:=h;cases i with
  |zero=>simp at e;subst e;exact⟨y,rfl,h1⟩
  |succ i=>simp at e;obtain⟨x',e1,e2⟩:=RDs.get' h2 e;exact⟨x',by simpa using e1,e2⟩
theorem RDs.append:∀{ds es:List D}{xs ys:List V},RDs K H ds xs->RDs K H es ys->RDs K H (ds++es) (xs++ys)
 | [],_,_,_,h,h'=>by simp only[RDs]at h;subst h;exact h'
 |d::ds,es,_,ys,h,h'=>by simp only[RDs]at h;obtain⟨x,r,rfl,h1,h2⟩:=h;simp only[CC,RDs];exact⟨x,r++ys,rfl,h1,RDs.append h2 h'⟩
theorem RDs.nil:RDs K H [] []:=by simp only[RDs]
theorem RDs.cons(h:RD K H d x)(h':RDs K H ds xs):RDs K H (d::ds) (x::xs):=by simp only[RDs];exact⟨x,xs,rfl,h,h'⟩
theorem RDs.one(h:RD K H d x):RDs K H [d] [x]:=.cons h .nil
theorem RDs.take:∀{ds:List D}{xs:List V}(n:Nat),RDs K H ds xs->RDs K H (ds.take n) (xs.take n)
 |_,_,0,_=>by simp[RDs]
 | [],_,n+1,h=>by simp only[RDs]at h;subst h;simp[RDs]
 |d::ds,_,n+1,h=>by simp only[RDs]at h;obtain⟨x,r,rfl,h1,h2⟩:=h;simp only[List.take_succ_cons];exact .cons h1 (RDs.take n h2)
theorem RDs.drop:∀{ds:List D}{xs:List V}(n:Nat),RDs K H ds xs->RDs K H (ds.drop n) (xs.drop n)
 |_,_,0,h=>h
 | [],_,n+1,h=>by simp only[RDs]at h;subst h;simp[RDs]
 |d::ds,_,n+1,h=>by simp only[RDs]at h;obtain⟨x,r,rfl,h1,h2⟩:=h;exact RDs.drop n h2
theorem RDs.set:∀{ds:List D}{xs:List V}(n:Nat){d:D}{x:V},RDs K H ds xs->RD K H d x->RDs K H (ds.set n d) (xs.set n x)
 | [],_,n,_,_,h,_=>by simp only[RDs]at h;subst h;simp[RDs]
 |d::ds,_,0,_,_,h,h'=>by simp only[RDs]at h;obtain⟨x,r,rfl,h1,h2⟩:=h;exact .cons h' h2
 |d::ds,_,n+1,_,_,h,h'=>by simp only[RDs]at h;obtain⟨x,r,rfl,h1,h2⟩:=h;exact .cons h1 (RDs.set n h2 h')
theorem RDs.ofInts:∀(ns:List Int),RDs K H (ns.map D.int) (ns.map V.int)
 | []=>by simp only[List.map,RDs]
 |n::ns=>by simp only[List.map];exact RDs.cons (by simp only[RD]) (RDs.ofInts ns)
end
mutual
noncomputable def eqD:D->D->Bool
 | .non,.non=>true
 | .bl a,.bl b=>a==b
 | .bl a,.int j=>(if a then 1 else 0)==j
 | .int i,.bl b=>i==(if b then 1 else 0)
 | .int i,.int j=>i==j
 | .str a,.str b=>a==b
 | .tup ds,.tup es=>o9 ds es
 | .lst ds,.lst es=>o9 ds es
 |_,_=>false
noncomputable def o9:List D->List D->Bool
 | [],[]=>true
 |d::ds,e::es=>eqD d e&&o9 ds es
 |_,_=>false
end
mutual
noncomputable def D.dep:D->Nat
 | .tup ds=>j9 ds+1
 | .lst ds=>j9 ds+1
 |_=>0
noncomputable def j9:List D->Nat
 | []=>0
 |d::ds=>max d.dep (j9 ds)
end
mutual
theorem R7:∀d:D,d.pl=true->eqD d d=true
 | .non,_=>rfl
 | .bl b,_=>by simp[eqD]
 | .int b,_=>by simp[eqD]
 | .str b,_=>by simp[eqD]
 | .tup ds,h=>by simp only[eqD];exact Mp ds (by simpa only [D.pl] using h)
 | .lst ds,h=>by simp only[eqD];exact Mp ds (by simpa only [D.pl] using h)
 | .dk _ _,h=>by simp[D.pl]at h
 | .dt _ _,h=>by simp[D.pl]at h
 | .dn _ _,h=>by simp[D.pl]at h
 | .scr _,h=>by simp[D.pl]at h
 | .exc _ _,h=>by simp[D.pl]at h
 | .obj _ _,h=>by simp[D.pl]at h
 | .dp _ _,h=>by simp[D.pl]at h
theorem Mp:∀ds:List D,pls ds=true->o9 ds ds=true
 | [],_=>rfl
 |d::ds,h=>by simp only[pls,oF]at h;simp only[o9,R7 d h.1,Mp ds h.2,CI]
end
mutual
theorem RD.inj{K:Frag}{H:Hp}:∀{d e:D}{v:V},d.pl=true->e.pl=true->RD K H d v->RD K H e v->d=e
 | .non,e,v,_,p,h,h'=>by simp only[RD]at h;subst h;cases e<;>simp only[RD]at h'<;>first | (exfalso;simp[D.pl]at p;done) |rfl | (cases h';done) | (obtain⟨a,xs,z,_⟩:=h';cases z)
 | .bl b,e,v,_,p,h,h'=>by simp only[RD]at h;subst h;cases e<;>simp only[RD]at h'<;>first | (exfalso;simp[D.pl]at p;done) | (cases h';rfl) | (cases h';done) | (obtain⟨a,xs,z,_⟩:=h';cases z)
 | .int b,e,v,_,p,h,h'=>by simp only[RD]at h;subst h;cases e<;>simp only[RD]at h'<;>first | (exfalso;simp[D.pl]at p;done) | (cases h';rfl) | (cases h';done) | (obtain⟨a,xs,z,_⟩:=h';cases z)
 | .str b,e,v,_,p,h,h'=>by simp only[RD]at h;subst h;cases e<;>simp only[RD]at h'<;>first | (exfalso;simp[D.pl]at p;done) | (cases h';rfl) | (cases h';done) | (obtain⟨a,xs,z,_⟩:=h';cases z)
 | .dk _ _,e,v,p,_,h,h'=>by simp[D.pl]at p
 | .dt _ _,e,v,p,_,h,h'=>by simp[D.pl]at p
 | .dn _ _,e,v,p,_,h,h'=>by simp[D.pl]at p
 | .scr _,e,v,p,_,h,h'=>by simp[D.pl]at p
 | .exc _ _,e,v,p,_,h,h'=>by simp[D.pl]at p
 | .obj _ _,e,v,p,_,h,h'=>by simp[D.pl]at p
 | .dp _ _,e,v,p,_,h,h'=>by simp[D.pl]at p
 | .tup ds,e,v,p,p',h,h'=>by
  simp only[RD]at h;obtain⟨a,xs,rfl,h1,h2⟩:=h;cases e<;>simp only[RD]at h'
  case tup es=>
   obtain⟨b,ys,z,h3,h4⟩:=h'
   cases z
   rw[h1]at h3;cases h3
   rw[RDs.inj (by simpa only [D.pl] using p) (by simpa only [D.pl] using p') h2 h4]
  case lst es=>
   obtain⟨b,ys,z,h3,h4⟩:=h'
   cases z
   rw[h1]at h3;cases h3
  all_goals first | (exfalso;simp[D.pl]at p';done) |cases h'
 | .lst ds,e,v,p,p',h,h'=>by
  simp only[RD]at h;obtain⟨a,xs,rfl,h1,h2⟩:=h;cases e<;>simp only[RD]at h'
  case tup es=>
   obtain⟨b,ys,z,h3,h4⟩:=h'
   cases z
   rw[h1]at h3;cases h3
  case lst es=>
   obtain⟨b,ys,z,h3,h4⟩:=h'
   cases z
   rw[h1]at h3;cases h3
   rw[RDs.inj (by simpa only [D.pl] using p) (by simpa only [D.pl] using p') h2 h4]
  all_goals first | (exfalso;simp[D.pl]at p';done) |cases h'
theorem RDs.inj{K:Frag}{H:Hp}:∀{ds es:List D}{xs:List V},pls ds=true->pls es=true->RDs K H ds xs->RDs K H es xs->ds=es
 | [],es,xs,_,_,h,h'=>by
  simp only[RDs]at h;subst h;cases es<;>simp only[RDs]at h'
  . rfl
  . obtain⟨x,r,z,_⟩:=h';cases z
 |d::ds,es,xs,p,p',h,h'=>by
  simp only[RDs]at h;obtain⟨x,r,rfl,h1,h2⟩:=h;simp only[pls,oF]at p;cases es with
  |nil=>simp only[RDs]at h';cases h'
  |cons e es=>
   simp only[RDs]at h'
   obtain⟨y,r',z,h3,h4⟩:=h'
   cases z
   simp only[pls,oF]at p'
   rw[RD.inj p.1 p'.1 h1 h3,RDs.inj p.2 p'.2 h2 h4]
end
theorem Fp:∀{ds:List D}{d:D},pls ds=true->d∈ds->d.pl=true
 |e::ds,d,h,m=>by
  simp only[pls,oF]at h;rcases gq.mp m with rfl |m
  . exact h.1
  . exact Fp h.2 m
theorem Md:∀{ds:List D}{d:D},d∈ds->d.dep<=j9 ds
 |d'::ds,d,h=>by
  simp only[j9];rcases gq.mp h with rfl |h
  . lia
  . have:=Md h;lia
theorem Mc:∀{ds es:List D},ds.length=es.length->o9 ds es=(List.range ds.length).all fun j=>eqD (ds.getD j .non) (es.getD j .non)
 | [],[],_=>rfl
 | [],_::_,h=>by simp at h
 |_::_,[],h=>by simp at h
 |d::ds,e::es,h=>by simp only[o9,pp];rw[Mc (by simpa using h),List.range_succ_eq_map,List.all_cons,List.all_map];rfl
theorem Mb:∀{ds es:List D},ds.length≠es.length->o9 ds es=false
 | [],[],h=>absurd rfl h
 | [],_::_,_=>rfl
 |_::_,[],_=>rfl
 |d::ds,e::es,h=>by simp only[o9];rw[Mb (by intro z;exact h (by simp[z])),Bool.and_false]
section
variable {X:Cx}{pins:List (Addr×Obj)}{U:St}{H:Hp}{s:Shared}
theorem Inv.tupA(I:Inv X pins U H s)(h:H a=some (.tup xs)):∃its:List Value,Vals xs its/\s.heap.IsTuple a its.toArray:=by obtain⟨its,r,t,_⟩:=I.tuple (.of h);exact⟨its,r,t⟩
theorem Inv.lstA(I:Inv X pins U H s)(h:H a=some (.lst xs)):∃its:List Value,Vals xs its/\s.heap.IsList a its.toArray:=by obtain⟨its,r,t,_⟩:=I.list (.of h);exact⟨its,r,t.isList⟩
inductive Shp (X:Cx) (H:Hp) (s:Shared):D->V->Value->Prop
 |non:Shp X H s .non .non .none
 |bl (b:Bool):Shp X H s (.bl b) (.bl b) (.bool b)
 |int (i:Int) (t:Tok):Shp X H s (.int i) (.int i) (.int i t)
 |str (c:Str) (t:Tok):Shp X H s (.str c) (.str c) (.str c t)
 |tup {ds:List D} {a:Addr} {xs:List V} {its:List Value} (p:pls ds=true) (h:H a=some (.tup xs)) (q:RDs X.K H ds xs) (r:Vals xs its) (t:s.heap.IsTuple a its.toArray):Shp X H s (.tup ds) (.ref a) (.ref a)
 |lst {ds:List D} {a:Addr} {xs:List V} {its:List Value} (p:pls ds=true) (h:H a=some (.lst xs)) (q:RDs X.K H ds xs) (r:Vals xs its) (t:s.heap.IsList a its.toArray):Shp X H s (.lst ds) (.ref a) (.ref a)
theorem shp(I:Inv X pins U H s)(p:d.pl=true)(h:RD X.K H d x)(r:RelV x u):Shp X H s d x u:=by
 cases d<;>simp only[RD]at h<;>first | (exfalso;simp[D.pl]at p;done) |skip
 . subst h;cases r;exact .non
 . subst h;cases r;exact .bl _
 . subst h;obtain⟨t,rfl⟩:=r;exact .int _ _
 . subst h;obtain⟨t,rfl⟩:=r;exact .str _ _
 . obtain⟨a,xs,rfl,h1,h2⟩:=h;cases r;obtain⟨its,v,t⟩:=I.tupA h1;exact .tup (by simpa only [D.pl] using p) h1 h2 v t
 . obtain⟨a,xs,rfl,h1,h2⟩:=h;cases r;obtain⟨its,v,t⟩:=I.lstA h1;exact .lst (by simpa only [D.pl] using p) h1 h2 v t
def Qh(X:Cx)(H:Hp)(s:Shared)(A:Around)(n:Nat):Prop:=∀{d e:D}{x y:V}{u v:Value},d.pl=true->e.pl=true->d.dep<=n->RD X.K H d x->RD X.K H e y->RelV x u->RelV y v->SeqAt.EqAt A s u v (eqD d e)
theorem Vo(ih:Qh X H s A n)(pd:pls ds=true)(pe:pls es=true)(pU:j9 ds<=n)(cb:RDs X.K H ds xs)(fu:RDs X.K H es ys)(r:Vals xs its)(r2:Vals ys aR)(j:Nat)
  (h1:j<its.toArray.size) (h2:j<aR.toArray.size):SeqAt.EqAt A s its.toArray[j] aR.toArray[j] (eqD (ds.getD j .non) (es.getD j .non)):=by
 have iV:j<its.length:=by simpa using h1
 have pV:j<aR.length:=by simpa using h2
 have l1:=r.length
 have l2:=r2.length
 obtain⟨u1,e1,q1⟩:=r.get (i:=j) (x:=xs[j]'(by lia)) (by simp)
 obtain⟨u2,e2,q2⟩:=r2.get (i:=j) (x:=ys[j]'(by lia)) (by simp)
 obtain⟨d1,g1,w1⟩:=cb.get (i:=j) (x:=xs[j]'(by lia)) (by simp)
 obtain⟨d2,g2,w2⟩:=fu.get (i:=j) (x:=ys[j]'(by lia)) (by simp)
 have ea:its.toArray[j]=u1:=by rw[AH iV]at e1;simpa using e1
 have eb:aR.toArray[j]=u2:=by rw[AH pV]at e2;simpa using e2
 have ga:ds.getD j .non=d1:=by rw[lO,g1];rfl
 have gb:es.getD j .non=d2:=by rw[lO,g2];rfl
 rw[ea,eb,ga,gb]
 exact ih (Fp pd (BV g1)) (Fp pe (BV g2)) (AA (Md (BV g1)) pU) w1 w2 q1 q2
theorem wZ(cb:RDs X.K H ds xs)(fu:RDs X.K H es ys)(r:Vals xs its)(r2:Vals ys aR) :
  ((List.range (min its.toArray.size aR.toArray.size)).all (fun j=>eqD (ds.getD j .non) (es.getD j .non))&&its.toArray.size==aR.toArray.size)=o9 ds es:=by
 have lx:=cb.length;have ly:=fu.length;have l1:=r.length;have l2:=r2.length
 simp only[AB]
 by_cases hl:ds.length=es.length
 . rw[Mc hl];have:its.length=aR.length:=by lia
   rw[this,Nat.min_self,show aR.length=ds.length by lia];simp
 . rw[Mb hl];have:(its.length==aR.length)=false:=by simp;lia
   rw[this,Bool.and_false]
theorem wY(cb:RDs X.K H ds xs)(fu:RDs X.K H es ys)(r:Vals xs its)(r2:Vals ys aR)(hl:ds.length=es.length) :
  ((List.range its.toArray.size).all fun j=>eqD (ds.getD j .non) (es.getD j .non))=o9 ds es:=by
 have lx:=cb.length;have ly:=fu.length;have l1:=r.length;have l2:=r2.length
 rw[Mc hl,AB,show its.length=ds.length by lia]
theorem kA(hu:A.units<cLine)(ih:Qh X H s A.in1 n)(hn:d.dep<=n+1)(sx:Shp X H s d x u)(sy:Shp X H s e y v):SeqAt.RcAt A s u v (eqD d e)/\SeqAt.RcNeAt A s u v (!eqD d e):=by
 cases sx with
 |non=>cases sy with
  |non=>exact⟨.none_none,.none_none⟩
  |bl _=>exact⟨.none_bool _,.none_bool _⟩
  |int _ _=>exact⟨.none_int _ _,.none_int _ _⟩
  |str _ _=>exact⟨.none_str _ _,.none_str _ _⟩
  |tup p2 h2 q2 r2 t2=>exact⟨.none_tuple t2 hu,.none_tuple t2 hu⟩
  |lst p2 h2 q2 r2 t2=>exact⟨.none_list t2 hu,.none_list t2 hu⟩
 |bl _=>cases sy with
  |non=>exact⟨.bool_none _,.bool_none _⟩
  |bl _=>exact⟨.bool_bool _ _,.bool_bool _ _⟩
  |int _ _=>exact⟨.bool_int _ _ _,.bool_int _ _ _⟩
  |str _ _=>exact⟨.bool_str _ _ _,.bool_str _ _ _⟩
  |tup p2 h2 q2 r2 t2=>exact⟨.bool_tuple _ t2 hu,.bool_tuple _ t2 hu⟩
  |lst p2 h2 q2 r2 t2=>exact⟨.bool_list _ t2 hu,.bool_list _ t2 hu⟩
 |int _ _=>cases sy with
  |non=>exact⟨.int_none _ _,.int_none _ _⟩
  |bl _=>exact⟨.int_bool _ _ _,.int_bool _ _ _⟩
  |int _ _=>exact⟨.int_int _ _ _ _,.int_int _ _ _ _⟩
  |str _ _=>exact⟨.int_str _ _ _ _,.int_str _ _ _ _⟩
  |tup p2 h2 q2 r2 t2=>exact⟨.int_tuple _ _ t2 hu,.int_tuple _ _ t2 hu⟩
  |lst p2 h2 q2 r2 t2=>exact⟨.int_list _ _ t2 hu,.int_list _ _ t2 hu⟩
 |str _ _=>cases sy with
  |non=>exact⟨.str_none _ _,.str_none _ _⟩
  |bl _=>exact⟨.str_bool _ _ _,.str_bool _ _ _⟩
  |int _ _=>exact⟨.str_int _ _ _ _,.str_int _ _ _ _⟩
  |str _ _=>exact⟨.str_str _ _ _ _,.str_str _ _ _ _⟩
  |tup p2 h2 q2 r2 t2=>exact⟨.str_tuple _ _ t2 hu,.str_tuple _ _ t2 hu⟩
  |lst p2 h2 q2 r2 t2=>exact⟨.str_list _ _ t2 hu,.str_list _ _ t2 hu⟩
 |tup p h q r t=>cases sy with
  |non=>exact⟨.tuple_none t hu,.tuple_none t hu⟩
  |bl _=>exact⟨.tuple_bool _ t hu,.tuple_bool _ t hu⟩
  |int _ _=>exact⟨.tuple_int _ _ t hu,.tuple_int _ _ t hu⟩
  |str _ _=>exact⟨.tuple_str _ _ t hu,.tuple_str _ _ t hu⟩
  |tup p2 h2 q2 r2 t2 => 
   simp only[D.dep]at hn
   have z:=Vo ih p p2 (Nat.le_of_succ_le_succ hn) q q2 r r2
   simp only[eqD]
   rw[<-wZ q q2 r r2]
   exact⟨.tuples t t2 hu z,.tuples t t2 hu z⟩
  |lst p2 h2 q2 r2 t2=>exact⟨.tuple_list t t2 hu,.tuple_list t t2 hu⟩
 |lst p h q r t=>cases sy with
  |non=>exact⟨.list_none t hu,.list_none t hu⟩
  |bl _=>exact⟨.list_bool _ t hu,.list_bool _ t hu⟩
  |int _ _=>exact⟨.list_int _ _ t hu,.list_int _ _ t hu⟩
  |str _ _=>exact⟨.list_str _ _ t hu,.list_str _ _ t hu⟩
  |tup p2 h2 q2 r2 t2=>exact⟨.list_tuple t t2 hu,.list_tuple t t2 hu⟩
  |lst p2 h2 q2 r2 t2 => 
   rename_i ds _ xs its es _ ys aR
   simp only[D.dep]at hn
   have z:=Vo ih p p2 (Nat.le_of_succ_le_succ hn) q q2 r r2
   have lx:=q.length;have ly:=q2.length;have l1:=r.length;have l2:=r2.length
   simp only[eqD]
   by_cases hl:ds.length=es.length
   . have bV:its.toArray.size=aR.toArray.size:=by simp;lia
     rw[<-wY q q2 r r2 hl];exact⟨.lists t t2 bV hu z,.lists t t2 bV hu z⟩
   . have bV:(its.toArray.size != aR.toArray.size)=true:=by simp;lia
     rw[Mb hl];exact⟨.lists_lengths t t2 bV hu,.lists_lengths t t2 bV hu⟩
theorem Ez(I:Inv X pins U H s):∀(n:Nat){A:Around}{d e:D}{x y:V}{u v:Value},d.pl=true->e.pl=true->d.dep<=n->A.units+n<cLine->RD X.K H d x->RD X.K H e y->RelV x u->RelV y v->SeqAt.EqAt A s u v (eqD d e):=by
 have key:∀(n:Nat){A:Around}{d e:D}{x y:V}{u v:Value},A.units<cLine->(∀m,m+1=n->Qh X H s A.in1 m)->d.pl=true->e.pl=true->d.dep<=n->RD X.K H d x->RD X.K H e y->RelV x u->RelV y v->SeqAt.EqAt A s u v (eqD d e):=by
  intro n A d e x y u v hu ih gS f' hn hx hy ru rv;have sx:=shp I gS hx ru;have sy:=shp I f' hy rv;have dW:∀{a b:Addr},u=.ref a->v=.ref b->x=.ref a->y=.ref b->1<=d.dep->SeqAt.EqAt A s u v (eqD d e):=fun {a b} eu ev ex ey h1=>by
   subst eu ev ex ey;by_cases eo:a=b
   . subst eo;rw[RD.inj gS f' hx hy,R7 _ f'];exact .same _
   . exact .of_refs eo (kA (n:=n - 1) hu (ih (n - 1) (by lia)) (by lia) sx sy).1
  cases sx with
  |non=>cases sy with
   |non=>exact .same _
   |bl _=>exact .none_bool _
   |int _ _=>exact .none_int _ _
   |str _ _=>exact .none_str _ _
   |tup p2 h2 q2 r2 t2=>exact .none_tuple t2 hu
   |lst p2 h2 q2 r2 t2=>exact .none_list t2 hu
  |bl _=>cases sy with
   |non=>exact .bool_none _
   |bl _=>exact .bool_bool _ _
   |int _ _=>exact .bool_int _ _ _
   |str _ _=>exact .bool_str _ _ _
   |tup p2 h2 q2 r2 t2=>exact .bool_tuple _ t2 hu
   |lst p2 h2 q2 r2 t2=>exact .bool_list _ t2 hu
  |int _ _=>cases sy with
   |non=>exact .int_none _ _
   |bl _=>exact .int_bool _ _ _
   |int _ _=>exact .int_int _ _ _ _
   |str _ _=>exact .int_str _ _ _ _
   |tup p2 h2 q2 r2 t2=>exact .int_tuple _ _ t2 hu
   |lst p2 h2 q2 r2 t2=>exact .int_list _ _ t2 hu
  |str _ _=>cases sy with
   |non=>exact .str_none _ _
   |bl _=>exact .str_bool _ _ _
   |int _ _=>exact .str_int _ _ _ _
   |str _ _=>exact .str_str _ _ _ _
   |tup p2 h2 q2 r2 t2=>exact .str_tuple _ _ t2 hu
   |lst p2 h2 q2 r2 t2=>exact .str_list _ _ t2 hu
  |tup p h q r t=>cases sy with
   |non=>exact .tuple_none t hu
   |bl _=>exact .tuple_bool _ t hu
   |int _ _=>exact .tuple_int _ _ t hu
   |str _ _=>exact .tuple_str _ _ t hu
   |tup p2 h2 q2 r2 t2=>exact dW rfl rfl rfl rfl (by simp only[D.dep];exact Nat.succ_pos _)
   |lst p2 h2 q2 r2 t2=>exact .tuple_list t t2 hu
  |lst p h q r t=>cases sy with
   |non=>exact .list_none t hu
   |bl _=>exact .list_bool _ t hu
   |int _ _=>exact .list_int _ _ t hu
   |str _ _=>exact .list_str _ _ t hu
   |tup p2 h2 q2 r2 t2=>exact .list_tuple t t2 hu
   |lst p2 h2 q2 r2 t2=>exact dW rfl rfl rfl rfl (by simp only[D.dep];exact Nat.succ_pos _)
 intro n;induction n with
 |zero=>exact fun p q hn hu=>key 0 (by lia) (fun m z=>nomatch z) p q hn
 |succ n ih=>exact fun {A d e x y u v} p q hn hu=>key (n+1) (by lia) (fun m z=>by cases z;exact fun p q hn=>ih p q hn (by show A.units+1+n<cLine;lia)) p q hn
theorem Te(I:Inv X pins U H s)(gS:d.pl=true)(f':e.pl=true)(hn:d.dep<=n)(hu:A.units+1+n<cLine)(hx:RD X.K H d x)(hy:RD X.K H e y)(ru:RelV x u)(rv:RelV y v):SeqAt.RcAt A s u v (eqD d e)/\SeqAt.RcNeAt A s u v (!eqD d e):=
 kA (n:=n) (by lia) (fun p q h=>Ez I n p q h (by show A.units+1+n<cLine;lia)) (by lia) (shp I gS hx ru) (shp I f' hy rv)
end
section
variable {X:Cx}
open Classical in
def hitD(K:Frag)(H:Hp)(d:D)(u:Value):Bool:=match kW u with
 |some v=>decide (∃e,e.pl=true/\RD K H e v/\eqD e d=true)
 |none=>false
open Classical in
theorem Fo{K:Frag}{H:Hp}{d e:D}{y:V}{u:Value}(pe:e.pl=true)(r:RelV y u)(h:RD K H e y):hitD K H d u=eqD e d:=by unfold hitD;rw[r.abs];dsimp only;rw[CV];rw[decide_eq_true_iff];exact⟨fun⟨e',p',h',q⟩=>by rw[RD.inj pe p' h h'];exact q,fun q=>⟨e,pe,h,q⟩⟩
theorem Ce{K:Frag}{H:Hp}{d:D}:∀{es:List D}{xs:List V}{us:List Value},pls es=true->RDs K H es xs->Vals xs us->us.any (hitD K H d)=es.any fun e=>eqD e d
 | [],_,_,_,h,r=>by simp only[RDs]at h;subst h;cases r;rfl
 |e::es,_,_,p,h,r=>by
  simp only[RDs]at h;simp only[pls,oF]at p;obtain⟨x,xs,rfl,h1,h2⟩:=h;cases r with
  |cons r1 r2=>rw[EA,EA,Fo p.1 r1 h1,Ce p.2 h2 r2]
theorem U7{A:Around}{pins:List (Addr×Obj)}{U:St}{H:Hp}{s:Shared}(I:Inv X pins U H s)(hu:A.units+1+20<cLine){d:D}{x:V}{v:Value}(pd:d.pl=true)(hx:RD X.K H d x)(rx:RelV x v):∀{es:List D}{xs:List V}{us:List Value},
  pls es=true->RDs X.K H es xs->Vals xs us->j9 es<=20->∀u∈us,SeqAt.EqAt A.in1 s u v (hitD X.K H d u)
 | [],_,_,_,h,r,_=>by simp only[RDs]at h;subst h;cases r;intro u hu;cases hu
 |e::es,_,_,p,h,r,hd=>by
  simp only[RDs]at h;simp only[pls,oF]at p;obtain⟨y,xs,rfl,h1,h2⟩:=h;simp only[j9]at hd;cases r with
  |cons r1 r2=>
   intro u hm
   rcases gq.mp hm with z |hm
   . subst z;rw[Fo p.1 r1 h1];exact Ez I 20 p.1 pd (by lia) (by show A.units+1+20<cLine;lia) h1 hx r1 rx
   . exact U7 I hu pd hx rx p.2 h2 r2 (by lia) u hm
end
structure Ex where
 cls:String
 fs:List D
inductive R (α:Type) where
 |ok (a:α) |er (x:Ex) |st
noncomputable def R.bind{α β:Type}(r:R α)(f:α->R β):R β:=match r with
 | .ok a=>f a
 | .er x=>.er x
 | .st=>.st
def Rk{α:Type}(EX:Ex->Prop)(r:R α)(k:α->Prop):Prop:=match r with
 | .ok a=>k a
 | .er x=>EX x
 | .st=>False
section
variable {α β:Type}{EX:Ex->Prop}
noncomputable def R.of(o:Option α):R α:=match o with
 |some a=>.ok a
 |none=>.st
theorem R.of_some(a:α):R.of (some a)=R.ok a:=rfl
theorem Rk.of(h:Rk EX (R.of o) k):∃a,o=some a/\k a:=by
 cases o with
 |none=>exact h.elim
 |some a=>exact⟨a,rfl,h⟩
theorem R.bind_ok(a:α)(f:α->R β):(R.ok a).bind f=f a:=rfl
theorem Rk.bind:Rk EX (r.bind f) k=Rk EX r fun a=>Rk EX (f a) k:=by cases r<;>rfl
theorem Rk.mono(h:Rk EX r k)(hk:∀a,k a->k' a):Rk EX r k':=by
 cases r with
 |ok a=>exact hk a h
 |er x=>exact h
 |st=>exact h
end
def NoT(o:Option HO):Prop:=o=none\/∃xs,o=some (.tup xs)
def Ext(H0 H ac H':Hp):Prop:=Same H0 ac/\Same ac H'/\∀a,H a≠none->H0 a=none->NoT (ac a)
theorem Ext.refl(h:Same H0 H):Ext H0 H H0 H:=⟨Same.refl _,h,fun _ _ e=>.inl e⟩
theorem Ext.nt(e:Ext H0 H ac H')(h:H a≠none)(n:NoT (H0 a)):NoT (ac a):=by
 rcases n with n |⟨xs,n⟩
 . exact e.2.2 a h n
 . exact .inr ⟨xs,e.1 _ _ n⟩
theorem Ext.no(e:Ext H0 H ac H')(s:Same H H')(h:H a=some o)(ni:¬Imm o)(h0:H0 a=none):ac a=none:=by
 rcases e.2.2 a (by rw[h];exact fun z=>nomatch z) h0 with z |⟨xs,z⟩
 . exact z
 . have:=e.2.1 _ _ z;rw[s _ _ h]at this;cases this;exact absurd trivial ni
theorem wX(h:o=some x):o≠none:=by rw[h];exact fun z=>nomatch z
theorem Same.ne(h:Same H H')(n:H a≠none):H' a≠none:=by
 cases e:H a with
 |none=>exact absurd e n
 |some o=>exact wX (h a o e)
theorem Ext.trans(s:Same H H')(a:Ext H0 H ac H')(b:Ext ac H' ml fm):Ext H0 H ml fm:=
 ⟨a.1.trans b.1,b.2.1,fun c h1 h2=>b.nt (s.ne h1) (a.2.2 c h1 h2)⟩
theorem Ext.grow(a:Ext H0 H ac H')(s:Same H' fm):Ext H0 H ac fm:=⟨a.1,a.2.1.trans s,a.2.2⟩
theorem Ext.new(h:Same H0 H)(hp:H p=none):Ext H0 H (upd H0 p o) (upd H p o):=by
 have h0:H0 p=none:=by
  cases e:H0 p with
  |none=>rfl
  |some u=>rw[h p u e]at hp;cases hp
 refine⟨Same.upd_new h0,fun b u e=>?_,fun a h1 h2=>?_⟩
 . by_cases hb:b=p
   . subst hb;rw[w8]at e⊢;exact e
   . rw[k8 hb]at e⊢;exact h b u e
 . have ha:a≠p:=fun z=>h1 (by rw[z];exact hp)
   rw[k8 ha];exact .inl h2
def OB(K:Frag)(H0 H:Hp)(a:Addr):D->Prop
 | .lst ds=>∃xs,H a=some (.lst xs)/\RDs K H0 ds xs
 | .dk ks ds=>∃xs,H a=some (.dK (ks.zip xs))/\ks.length=xs.length/\RDs K H0 ds xs
 | .dt ks ds=>∃xs,H a=some (.dT (ks.zip xs))/\ks.length=xs.length/\RDs K H0 ds xs
 | .dn ks ds=>∃qs xs o,H a=some (.ext (dnP a qs xs o))/\qs.map (·.1)=ks/\DN H0 a qs/\RDs K H0 ds xs
 | .dp hf n=>∃qs xs o,H a=some (.ext (dpP hf a qs xs o))/\DP K H0 a qs xs/\qs.length<=n
 |_=>False
section
variable {K:Frag}{H0 H ac H':Hp}{a:Addr}{d:D}
theorem OB.some(h:OB K H0 H a d):∃o,H a=some o/\¬Imm o:=by
 cases d<;>simp only[OB]at h
 . obtain⟨xs,h,_⟩:=h;exact⟨_,h,fun z=>z⟩
 . obtain⟨xs,h,_⟩:=h;exact⟨_,h,fun z=>z⟩
 . obtain⟨xs,h,_⟩:=h;exact⟨_,h,fun z=>z⟩
 . obtain⟨qs,xs,o,h,_⟩:=h;exact⟨_,h,fun z=>z.1 _ _ _ _ rfl⟩
 . obtain⟨qs,xs,o,h,_⟩:=h;exact⟨_,h,fun z=>z.2 _ _ _ _ _ rfl⟩
theorem OB.mono(h:OB K H0 H a d)(s0:Same H0 ac)(s:Same H H'):OB K ac H' a d:=by
 cases d<;>simp only[OB]at h⊢
 . obtain⟨xs,h,r⟩:=h;exact⟨_,s _ _ h,r.mono s0⟩
 . obtain⟨xs,h,l,r⟩:=h;exact⟨_,s _ _ h,l,r.mono s0⟩
 . obtain⟨xs,h,l,r⟩:=h;exact⟨_,s _ _ h,l,r.mono s0⟩
 . obtain⟨qs,xs,o,h,k,n,r⟩:=h;exact⟨qs,xs,o,s _ _ h,k,n.tk fun b ys q=>s0 _ _ q,r.mono s0⟩
 . obtain⟨qs,xs,o,h,k,r⟩:=h;exact⟨qs,xs,o,s _ _ h,k.tk s0.tk,r⟩
theorem OB.at(h:OB K H0 H a d)(e:H' a=H a):OB K H0 H' a d:=by
 cases d<;>simp only[OB]at h⊢
 . obtain⟨xs,h,r⟩:=h;exact⟨_,e.trans h,r⟩
 . obtain⟨xs,h,l,r⟩:=h;exact⟨_,e.trans h,l,r⟩
 . obtain⟨xs,h,l,r⟩:=h;exact⟨_,e.trans h,l,r⟩
 . obtain⟨qs,xs,o,h,k,n,r⟩:=h;exact⟨qs,xs,o,e.trans h,k,n,r⟩
 . obtain⟨qs,xs,o,h,k,r⟩:=h;exact⟨qs,xs,o,e.trans h,k,r⟩
theorem OB.tk(h:OB K H0 H a d)(n:d.shal=true)(t:TK H0 ac):OB K ac H a d:=by
 cases d<;>simp only[OB,D.shal]at h n⊢
 . obtain⟨xs,h,r⟩:=h;exact⟨_,h,r.tk t n⟩
 . obtain⟨xs,h,l,r⟩:=h;exact⟨_,h,l,r.tk t n⟩
 . obtain⟨xs,h,l,r⟩:=h;exact⟨_,h,l,r.tk t n⟩
 . obtain⟨qs,xs,o,h,k,m,r⟩:=h;exact⟨qs,xs,o,h,k,m.tk fun b ys q=>t _ _ trivial q,r.tk t n⟩
 . obtain⟨qs,xs,o,h,k,r⟩:=h;exact⟨qs,xs,o,h,k.tk t,r⟩
theorem OB.rd(h:OB K H0 H a d)(s0:Same H0 ac)(e:ac a=H a):RD K ac d (.ref a):=by
 cases d<;>simp only[OB,RD]at h⊢
 . obtain⟨xs,h,r⟩:=h;exact⟨_,_,rfl,e.trans h,r.mono s0⟩
 . obtain⟨xs,h,l,r⟩:=h;exact⟨_,_,rfl,e.trans h,l,r.mono s0⟩
 . obtain⟨xs,h,l,r⟩:=h;exact⟨_,_,rfl,e.trans h,l,r.mono s0⟩
 . obtain⟨qs,xs,o,h,k,n,r⟩:=h;exact⟨_,qs,xs,o,rfl,e.trans h,k,n.tk fun b ys q=>s0 _ _ q,r.mono s0⟩
 . obtain⟨qs,xs,o,h,k,r⟩:=h;exact⟨_,qs,xs,o,rfl,e.trans h,k.tk s0.tk,r⟩
end
def Out(K:Frag)(fr:Bool)(H0 H:Hp)(d:D)(v:V)(H':Hp):Prop:=
 Same H H'/\∃ac,Ext H0 H ac H'/\(if fr=true then ∃p,v=.ref p/\H p=none/\ac p=none/\OB K ac H' p d else RD K ac d v)
section
variable {K:Frag}{fr:Bool}{H0 H ac H':Hp}{d:D}{v:V}
theorem Out.val(s:Same H H')(e:Ext H0 H ac H')(r:RD K ac d v):Out K false H0 H d v H':=⟨s,ac,e,by rw[ξ θ];exact r⟩
theorem Out.pure(s:Same H0 H)(r:RD K H0 d v):Out K false H0 H d v H:=.val (Same.refl _) (.refl s) r
theorem Out.fresh(s:Same H H')(e:Ext H0 H ac H')(hp:H p=none)(fx:ac p=none)(o:OB K ac H' p d):Out K true H0 H d (.ref p) H':=⟨s,ac,e,by rw[ζ rfl];exact⟨p,rfl,hp,fx,o⟩⟩
theorem Out.rd(o:Out K false H0 H d v H'):Same H H'/\∃ac,Ext H0 H ac H'/\RD K ac d v:=by obtain⟨s,ac,e,r⟩:=o;rw[ξ θ]at r;exact⟨s,ac,e,r⟩
theorem Out.weak(o:Out K fr H0 H d v H'):Out K false H0 H d v H':=by
 cases fr with
 |false=>exact o
 |true=>
  obtain⟨s,ac,e,r⟩:=o
  rw[ζ rfl]at r
  obtain⟨p,rfl,hp,fx,ob⟩:=r
  obtain⟨u,hu,_⟩:=ob.some
  have e2:Ext H0 H (upd ac p u) H':=by
   refine⟨e.1.trans (Same.upd_new fx),fun b w q=>?_,fun a h1 h2=>?_⟩
   . by_cases hb:b=p
     . subst hb;rw[w8]at q;cases q;exact hu
     . rw[k8 hb]at q;exact e.2.1 b w q
   . rw[k8 (fun z=>h1 (by rw[z];exact hp))];exact e.2.2 a h1 h2
  exact .val s e2 (ob.rd (Same.upd_new fx) (by rw[w8,hu]))
theorem Out.after(s:Same H H1)(e:Ext H0 H aq H1)(o:Out K fr aq H1 d v H'):Out K fr H0 H d v H':=by
 obtain⟨s',ac,e',r⟩:=o;refine⟨s.trans s',ac,e.trans s e',?_⟩;cases fr with
 |false=>exact r
 |true=>
  rw[ζ rfl]at r⊢
  obtain⟨p,rfl,hp,r⟩:=r
  refine⟨p,rfl,?_,r⟩
  cases q:H p with
  |none=>rfl
  |some u=>rw[s p u q]at hp;cases hp
end
abbrev DE:=List (Option D)
def RE(K:Frag)(H:Hp)(ρ:DE)(U:St):Prop:=ρ.length=U.length/\∀(i:Nat) d,ρ[i]?=some (some d)->∃v,U[i]?=some (some v)/\RD K H d v
theorem RE.mono{K:Frag}{H H':Hp}{ρ:DE}{U:St}(h:RE K H ρ U)(s:Same H H'):RE K H' ρ U:=⟨h.1,fun i d e=>by obtain⟨v,h1,h2⟩:=h.2 i d e;exact⟨v,h1,h2.mono s⟩⟩
structure XW where
 hb:Hp
 p:Ex->Hp->Prop
abbrev F0:XW:=⟨fun _=>none,fun _ _=>False⟩
theorem F0.same(H:Hp):Same F0.hb H:=fun _ _ z=>nomatch z
def XW.at(W:XW)(x:Ex):Prop:=∀H',Same W.hb H'->W.p x H'
def TEd(K:Frag)(EX:XW)(fr:Bool)(f:DE->R D):TE:=fun U H Q=>Same EX.hb H/\∃ρ H0,Same H0 H/\RE K H0 ρ U/\Rk EX.at (f ρ) fun d=>∀v H',Out K fr H0 H d v H'->Q v H'
def TAd(K:Frag)(EX:XW)(f:DE->R (List D)):TA:=fun U H Q=>Same EX.hb H/\∃ρ H0,Same H0 H/\RE K H0 ρ U/\Rk EX.at (f ρ) fun ds=>∀vs H' ac,Same H H'->Ext H0 H ac H'->RDs K ac ds vs->Q vs H'
def TTd(K:Frag)(EX:XW)(f:DE->R Bool):TT:=fun U H Q=>Same EX.hb H/\∃ρ H0,Same H0 H/\RE K H0 ρ U/\Rk EX.at (f ρ) fun b=>∀H',Same H H'->Q b H'
noncomputable def b7(i:Nat):DE->R D:=fun ρ=>match ρ[i]? with |some (some d)=>.ok d |_=>.st
noncomputable def eC(d:D):DE->R D:=fun _=>.ok d
def eOp(o:D->D->Option D)(fa fb:DE->R D):DE->R D:=fun ρ=>(fa ρ).bind fun x=>(fb ρ).bind fun y=>R.of (o x y)
def eUn(o:D->Option D)(fa:DE->R D):DE->R D:=fun ρ=>(fa ρ).bind fun x=>R.of (o x)
noncomputable def c7:DE->R (List D):=fun _=>.ok []
def b8(f:DE->R D)(fs:DE->R (List D)):DE->R (List D):=fun ρ=>(f ρ).bind fun d=>(fs ρ).bind fun ds=>.ok (d::ds)
def e9(m:List D->R D)(fs:DE->R (List D)):DE->R D:=fun ρ=>(fs ρ).bind m
def eCB(m:List D->Option D)(fs:DE->R (List D)):DE->R D:=fun ρ=>(fs ρ).bind fun ds=>R.of (m ds)
def n6(fs:DE->R (List D)):DE->R D:=fun ρ=>(fs ρ).bind fun ds=>if ds.length<=1000 then .ok (.tup ds) else .st
def l8(fs:DE->R (List D)):DE->R D:=fun ρ=>(fs ρ).bind fun ds=>if ds.length<=1000 then .ok (.lst ds) else .st
def eIf(t:DE->R Bool)(fa fb:DE->R D):DE->R D:=fun ρ=>(t ρ).bind fun b=>if b=true then fa ρ else fb ρ
def D1(t u:DE->R Bool):DE->R Bool:=fun ρ=>(t ρ).bind fun b=>if b=true then u ρ else .ok false
def bOr(t u:DE->R Bool):DE->R Bool:=fun ρ=>(t ρ).bind fun b=>if b=true then .ok true else u ρ
def t8(t:DE->R Bool):DE->R Bool:=fun ρ=>(t ρ).bind fun b=>.ok (!b)
noncomputable def asB:D->Option Bool
 | .bl b=>some b
 |_=>none
def g0(tr:D->Option Bool)(f:DE->R D):DE->R Bool:=fun ρ=>(f ρ).bind fun d=>R.of (tr d)
def E3(fa fb:DE->R D):DE->R D:=fun ρ=>(fa ρ).bind fun x=>(R.of (asB x)).bind fun b=>if b=true then fb ρ else .ok (.bl false)
def eOr(fa fb:DE->R D):DE->R D:=fun ρ=>(fa ρ).bind fun x=>(R.of (asB x)).bind fun b=>if b=true then .ok (.bl true) else fb ρ
def OpD(K:Frag)(fr:Bool)(o:D->D->Option D)(r:R2):Prop:=∀(H0 H:Hp)(x y:V)(d e z:D)(Q:VK),Same H0 H->RD K H0 d x->RD K H0 e y->o d e=some z->(∀v H',Out K fr H0 H z v H'->Q v H')->r x y H Q
def UnD(K:Frag)(fr:Bool)(o:D->Option D)(r:V->Hp->VK->Prop):Prop:=∀(H0 H:Hp)(x:V)(d z:D)(Q:VK),Same H0 H->RD K H0 d x->o d=some z->(∀v H',Out K fr H0 H z v H'->Q v H')->r x H Q
def z9(K:Frag)(fr:Bool)(m:List D->Option D)(r:List V->Hp->VK->Prop):Prop:=∀(H0 H:Hp)(xs:List V)(ds:List D)(z:D)(Q:VK),Same H0 H->RDs K H0 ds xs->m ds=some z->(∀v H',Out K fr H0 H z v H'->Q v H')->r xs H Q
def Qg(K:Frag)(tr:D->Option Bool)(r:V->Hp->(Bool->Hp->Prop)->Prop):Prop:=∀(H0 H:Hp)(x:V)(d:D)(b:Bool)(Q:Bool->Hp->Prop),Same H0 H->RD K H0 d x->tr d=some b->Q b H->r x H Q
section
variable {K:Frag}{EX:XW}{fr:Bool}{U:St}{H:Hp}{Q:VK}
theorem TEd.go(sx:Same EX.hb H)(s:Same H0 H)(e:RE K H0 ρ U)(h:Rk EX.at (f ρ) k)(hk:∀d,k d->∀v H' ac,Same H H'->Ext H0 H ac H'->RD K ac d v->Q v H'):TEd K EX false f U H Q:=
 ⟨sx,ρ,H0,s,e,h.mono fun d z v H' o=>by obtain⟨s',ac,e',r⟩:=o.rd;exact hk d z v H' ac s' e' r⟩
theorem TAd.go{f:DE->R (List D)}{ρ:DE}{H0:Hp}{k:List D->Prop}{Q:List V->Hp->Prop}(sx:Same EX.hb H)(s:Same H0 H)(e:RE K H0 ρ U)(h:Rk EX.at (f ρ) k)(hk:∀d,k d->∀v H' ac,Same H H'->Ext H0 H ac H'->RDs K ac d v->Q v H'):TAd K EX f U H Q:=
 ⟨sx,ρ,H0,s,e,h.mono fun d z v H' ac s' e' r=>hk d z v H' ac s' e' r⟩
theorem TTd.go{f:DE->R Bool}{ρ:DE}{H0:Hp}{k:Bool->Prop}{Q:Bool->Hp->Prop}(sx:Same EX.hb H)(s:Same H0 H)(e:RE K H0 ρ U)(h:Rk EX.at (f ρ) k)(hk:∀b,k b->∀H',Same H H'->Q b H'):TTd K EX f U H Q:=
 ⟨sx,ρ,H0,s,e,h.mono fun b z H' s'=>hk b z H' s'⟩
theorem TEd.weak(h:TEd K EX false f U H Q):TEd K EX fr f U H Q:=by obtain⟨sx,ρ,H0,s,e,h⟩:=h;exact⟨sx,ρ,H0,s,e,h.mono fun d z v H' o=>z v H' o.weak⟩
theorem y38(h:TEd K EX false (b7 i) U H Q):∃v,U[i]?=some (some v)/\Q v H:=by
 obtain⟨sx,ρ,H0,s,e,h⟩:=h;unfold b7 at h;split at h
 . rename_i d q;obtain⟨v,h1,h2⟩:=e.2 i d q;exact⟨v,h1,h v H (.pure s h2)⟩
 . exact h.elim
theorem Fn(hd:∀H0,RD K H0 d v)(h:TEd K EX false (eC d) U H Q):tC v U H Q:=by obtain⟨sx,ρ,H0,s,e,h⟩:=h;exact h v H (.pure s (hd _))
theorem Gv(ho:OpD K fr o r)(h:TEd K EX fr (eOp o fa fb) U H Q):tOp r (TEd K EX false fa) (TEd K EX false fb) U H Q:=by
 obtain⟨sx,ρ,H0,s,e,h⟩:=h;unfold eOp at h;rw[Rk.bind]at h;refine TEd.go sx s e h fun d h v H1 aq s1 e1 r1=>?_
 rw[Rk.bind]at h;refine TEd.go (sx.trans s1) e1.2.1 (e.mono e1.1) h fun d2 h v2 H2 bq s2 e2 r2=>?_
 obtain⟨z,hz,h⟩:=h.of;exact ho bq H2 v v2 d d2 z Q e2.2.1 (r1.mono e2.1) r2 hz fun w H3 o=>h w H3 (o.after (s1.trans s2) (e1.trans s1 e2))
theorem kz(ho:UnD K fr o r)(h:TEd K EX fr (eUn o fa) U H Q):tUn r (TEd K EX false fa) U H Q:=by
 obtain⟨sx,ρ,H0,s,e,h⟩:=h;unfold eUn at h;rw[Rk.bind]at h;refine TEd.go sx s e h fun d h v H1 aq s1 e1 r1=>?_
 obtain⟨z,hz,h⟩:=h.of;exact ho aq H1 v d z Q e1.2.1 r1 hz fun w H3 o=>h w H3 (o.after s1 e1)
theorem Qx{Q:List V->Hp->Prop}(h:TAd K EX c7 U H Q):L8 U H Q:=by obtain⟨sx,ρ,H0,s,e,h⟩:=h;exact h [] H H0 (Same.refl _) (.refl s) .nil
theorem Km{Q:List V->Hp->Prop}{f:DE->R D}{fs:DE->R (List D)}(h:TAd K EX (b8 f fs) U H Q):E6 (TEd K EX false f) (TAd K EX fs) U H Q:=by
 obtain⟨sx,ρ,H0,s,e,h⟩:=h;unfold b8 at h;rw[Rk.bind]at h;refine TEd.go sx s e h fun d h v H1 aq s1 e1 r1=>?_
 rw[Rk.bind]at h;refine TAd.go (sx.trans s1) e1.2.1 (e.mono e1.1) h fun ds h vs H2 bq s2 e2 r2=>?_
 exact h (v::vs) H2 bq (s1.trans s2) (e1.trans s1 e2) (.cons (r1.mono e2.1) r2)
theorem Qf(hm:z9 K fr m r)(h:TEd K EX fr (eCB m fs) U H Q):tCB r (TAd K EX fs) U H Q:=by
 obtain⟨sx,ρ,H0,s,e,h⟩:=h;unfold eCB at h;rw[Rk.bind]at h;refine TAd.go sx s e h fun ds h vs H1 aq s1 e1 r1=>?_
 obtain⟨z,hz,h⟩:=h.of;exact hm aq H1 vs ds z Q e1.2.1 r1 hz fun w H3 o=>h w H3 (o.after s1 e1)
theorem Fm(h:n<=1000):n<=sizeLine:=AA h (by decide)
theorem y3a(h:TEd K EX false (n6 fs) U H Q):Qk (TAd K EX fs) U H Q:=by
 obtain⟨sx,ρ,H0,s,e,h⟩:=h;unfold n6 at h;rw[Rk.bind]at h;refine TAd.go sx s e h fun ds h vs H1 aq s1 e1 r1=>?_
 split at h
 . rename_i hl;refine⟨Fm (by rw[<-r1.length];exact hl),fun p hp=>h _ _ (.val (s1.trans (Same.upd_new hp)) (e1.trans s1 (.new e1.2.1 hp)) ?_)⟩;have pW:aq p=none:=by
    cases q:aq p with
    |none=>rfl
    |some u=>rw[e1.2.1 p u q]at hp;cases hp
   simp only[RD];exact⟨p,vs,rfl,w8,r1.mono (Same.upd_new pW)⟩
 . exact h.elim
theorem Same.none(s:Same H H')(h:H' p=none):H p=none:=by
 cases q:H p with
 |none=>rfl
 |some u=>rw[s p u q]at h;cases h
theorem Out.new(s:Same H0 H)(hp:H p=none)(eh:∀H',H' p=some o->OB K H0 H' p d):Out K true H0 H d (.ref p) (upd H p o):=
 .fresh (Same.upd_new hp) ((Ext.refl s).grow (Same.upd_new hp)) hp (s.none hp) (eh _ w8)
theorem y3b(h:TEd K EX true (l8 fs) U H Q):kP (TAd K EX fs) U H Q:=by
 obtain⟨sx,ρ,H0,s,e,h⟩:=h;unfold l8 at h;rw[Rk.bind]at h;refine TAd.go sx s e h fun ds h vs H1 aq s1 e1 r1=>?_
 split at h
 . rename_i hl;refine⟨Fm (by rw[<-r1.length];exact hl),fun p hp=>h _ _ (Out.after s1 e1 (.new e1.2.1 hp fun H' hH=>?_))⟩;simp only[OB];exact⟨vs,hH,r1⟩
 . exact h.elim
theorem y7q(h:TEd K EX fr (eIf t fa fb) U H Q):tIf (TTd K EX t) (TEd K EX fr fa) (TEd K EX fr fb) U H Q:=by
 obtain⟨sx,ρ,H0,s,e,h⟩:=h;unfold eIf at h;rw[Rk.bind]at h;refine TTd.go sx s e h fun b h H1 s1=>?_
 have fin:∀{f:DE->R D},Rk EX.at (f ρ) (fun d=>∀v H',Out K fr H0 H d v H'->Q v H')->TEd K EX fr f U H1 Q:=fun {f} h=>
  ⟨sx.trans s1,ρ,H0,s.trans s1,e,h.mono fun d z v H' o=>z v H' (o.after s1 ((Ext.refl s).grow s1))⟩
 cases b with
 |true=>exact fin h
 |false=>exact fin h
theorem vf{t u:DE->R Bool}{Q:Bool->Hp->Prop}(h:TTd K EX (D1 t u) U H Q):kY (TTd K EX t) (TTd K EX u) U H Q:=by
 obtain⟨sx,ρ,H0,s,e,h⟩:=h;unfold D1 at h;rw[Rk.bind]at h;refine TTd.go sx s e h fun b h H1 s1=>?_
 cases b with
 |true=>exact TTd.go (sx.trans s1) (s.trans s1) e h fun b h H' s'=>h H' (s1.trans s')
 |false=>exact h H1 s1
theorem y3c{t u:DE->R Bool}{Q:Bool->Hp->Prop}(h:TTd K EX (bOr t u) U H Q):tOr (TTd K EX t) (TTd K EX u) U H Q:=by
 obtain⟨sx,ρ,H0,s,e,h⟩:=h;unfold bOr at h;rw[Rk.bind]at h;refine TTd.go sx s e h fun b h H1 s1=>?_
 cases b with
 |true=>exact h H1 s1
 |false=>exact TTd.go (sx.trans s1) (s.trans s1) e h fun b h H' s'=>h H' (s1.trans s')
theorem ve{t:DE->R Bool}{Q:Bool->Hp->Prop}(h:TTd K EX (t8 t) U H Q):kX (TTd K EX t) U H Q:=by obtain⟨sx,ρ,H0,s,e,h⟩:=h;unfold t8 at h;rw[Rk.bind]at h;exact TTd.go sx s e h fun b h H1 s1=>h H1 s1
end
noncomputable def y7r(r:V->Hp->(Bool->Hp->Prop)->Prop)(t:TE):TT:=fun U H Q=>t U H fun x H'=>r x H' Q
def Bh(K:Frag)(EX:XW)(g:D->DE->R Bool):V->TT:=fun x U H Q=>Same EX.hb H/\∃d ρ H0,Same H0 H/\RE K H0 ρ U/\RD K H0 d x/\Rk EX.at (g d ρ) fun b=>∀H',Same H H'->Q b H'
def y3d(o:D->D->Option D)(fb:DE->R D):D->DE->R D:=fun d ρ=>(fb ρ).bind fun y=>R.of (o d y)
def y3e(o:D->D->Option D)(fb:DE->R D)(g:D->DE->R D):D->DE->R D:=fun d ρ=>(fb ρ).bind fun y=>(R.of (o d y)).bind fun z=>(R.of (asB z)).bind fun b=>if b=true then g y ρ else .ok (.bl false)
def Fc(o:D->D->Option D)(fb:DE->R D):D->DE->R Bool:=fun d ρ=>(fb ρ).bind fun y=>(R.of (o d y)).bind fun z=>R.of (asB z)
def Fb(o:D->D->Option D)(fb:DE->R D)(g:D->DE->R Bool):D->DE->R Bool:=fun d ρ=>(fb ρ).bind fun y=>(R.of (o d y)).bind fun z=>(R.of (asB z)).bind fun b=>if b=true then g y ρ else .ok false
def y7s(fa:DE->R D)(g:D->DE->R D):DE->R D:=fun ρ=>(fa ρ).bind fun x=>g x ρ
def Dn(fa:DE->R D)(g:D->DE->R Bool):DE->R Bool:=fun ρ=>(fa ρ).bind fun x=>g x ρ
theorem Cd(h:asB d=some b):d=.bl b:=by cases d<;>simp[asB]at h;subst h;rfl
theorem RD.bl{K:Frag}{H:Hp}{b:Bool}{v:V}(h:RD K H (.bl b) v):v=.bl b:=by simpa only [RD] using h
section
variable {K:Frag}{EX:XW}{U:St}{H:Hp}{Q:VK}{QB:Bool->Hp->Prop}
theorem y3f(h:TEd K EX false (E3 fa fb) U H Q):Rf (TEd K EX false fa) (TEd K EX false fb) U H Q:=by
 obtain⟨sx,ρ,H0,s,e,h⟩:=h;unfold E3 at h;rw[Rk.bind]at h;refine TEd.go sx s e h fun d h v H1 aq s1 e1 r1=>?_
 rw[Rk.bind]at h;obtain⟨b,hb,h⟩:=h.of;cases Cd hb;cases r1.bl;cases b with
 |true=>exact TEd.go (sx.trans s1) e1.2.1 (e.mono e1.1) h fun d h v H2 bq s2 e2 r2=>h v H2 (.val (s1.trans s2) (e1.trans s1 e2) r2)
 |false=>exact h _ H1 (.val s1 e1 (by simp only[RD]))
theorem y7t(h:TEd K EX false (eOr fa fb) U H Q):kH (TEd K EX false fa) (TEd K EX false fb) U H Q:=by
 obtain⟨sx,ρ,H0,s,e,h⟩:=h;unfold eOr at h;rw[Rk.bind]at h;refine TEd.go sx s e h fun d h v H1 aq s1 e1 r1=>?_
 rw[Rk.bind]at h;obtain⟨b,hb,h⟩:=h.of;cases Cd hb;cases r1.bl;cases b with
 |true=>exact h _ H1 (.val s1 e1 (by simp only[RD]))
 |false=>exact TEd.go (sx.trans s1) e1.2.1 (e.mono e1.1) h fun d h v H2 bq s2 e2 r2=>h v H2 (.val (s1.trans s2) (e1.trans s1 e2) r2)
theorem y3g(ht:Qg K tr r)(h:TTd K EX (g0 tr fa) U H QB):y7r r (TEd K EX false fa) U H QB:=by
 obtain⟨sx,ρ,H0,s,e,h⟩:=h;unfold g0 at h;rw[Rk.bind]at h;refine TEd.go sx s e h fun d h v H1 aq s1 e1 r1=>?_
 obtain⟨b,hb,h⟩:=h.of;exact ht aq H1 v d b QB e1.2.1 r1 hb (h H1 s1)
theorem vd(ht:Qg K tr r)(h:TEd K EX false (eUn (fun d=>(tr d).map fun b=>.bl (!b)) fa) U H Q) :
  (fun U H Q=>(TEd K EX false fa) U H fun x H1=>r x H1 fun k H2=>Q (.bl (!k)) H2) U H Q:=by
 obtain⟨sx,ρ,H0,s,e,h⟩:=h
 unfold eUn at h
 rw[Rk.bind]at h
 refine TEd.go sx s e h fun d h v H1 aq s1 e1 r1=>?_
 obtain⟨z,hz,h⟩:=h.of
 have hz:(tr d).map (fun b=>D.bl (!b))=some z:=hz
 cases hb:tr d with
 |none=>rw[hb]at hz;cases hz
 |some b=>
  rw[hb]at hz;cases hz
  exact ht aq H1 v d b _ e1.2.1 r1 hb (h _ H1 (.val s1 e1 (by simp only[RD])))
theorem y3h(ho:OpD K false o r)(h:TTd K EX (g0 asB (eOp o fa fb)) U H QB):Jg (tOp r (TEd K EX false fa) (TEd K EX false fb)) U H QB:=by obtain⟨sx,ρ,H0,s,e,h⟩:=h;unfold g0 at h;rw[Rk.bind]at h;unfold Jg;refine Gv (EX:=EX) ho ⟨sx,ρ,H0,s,e,h.mono fun d h v H' o=>?_⟩;obtain⟨b,hb,h⟩:=h.of;obtain⟨s',ac,e',r'⟩:=o.rd;cases Cd hb;cases r'.bl;exact h H' s'
theorem wW(ho:OpD K false o r)(h:Bh K EX (Fc o fb) x U H QB):Tm r (TEd K EX false fb) x U H QB:=by
 obtain⟨sx,d,ρ,H0,s,e,rx,h⟩:=h;unfold Fc at h;rw[Rk.bind]at h;refine TEd.go sx s e h fun d2 h v2 H2 bq s2 e2 r2=>?_
 rw[Rk.bind]at h;obtain⟨z,hz,h⟩:=h.of;obtain⟨b,hb,h⟩:=h.of;cases Cd hb;refine ho bq H2 x v2 d d2 _ _ e2.2.1 (rx.mono e2.1) r2 hz fun w H3 o=>?_
 obtain⟨s3,dC,e3,r3⟩:=o.rd;cases r3.bl;exact h H3 (s2.trans s3)
theorem wV(ho:OpD K false o r)(h:Bh K EX (Fb o fb g) x U H QB):Tl r (TEd K EX false fb) (Bh K EX g) x U H QB:=by
 obtain⟨sx,d,ρ,H0,s,e,rx,h⟩:=h;unfold Fb at h;rw[Rk.bind]at h;refine TEd.go sx s e h fun d2 h v2 H2 bq s2 e2 r2=>?_
 rw[Rk.bind]at h;obtain⟨z,hz,h⟩:=h.of;rw[Rk.bind]at h;obtain⟨b,hb,h9⟩:=h.of;cases Cd hb;refine ho bq H2 x v2 d d2 _ _ e2.2.1 (rx.mono e2.1) r2 hz fun w H3 o=>?_
 obtain⟨s3,dC,e3,r3⟩:=o.rd;cases r3.bl;clear h;have h:=h9;cases b with
 |true=>exact⟨(sx.trans s2).trans s3,d2,ρ,dC,e3.2.1,e.mono (e2.1.trans e3.1),r2.mono e3.1,h.mono fun z h H' s'=>h H' (s2.trans (s3.trans s'))⟩
 |false=>exact h H3 (s2.trans s3)
theorem qZ(h:TTd K EX (Dn fa g) U H QB):Rg (TEd K EX false fa) (Bh K EX g) U H QB:=by obtain⟨sx,ρ,H0,s,e,h⟩:=h;unfold Dn at h;rw[Rk.bind]at h;exact TEd.go sx s e h fun d h v H1 aq s1 e1 r1=>⟨sx.trans s1,d,ρ,aq,e1.2.1,e.mono e1.1,r1,h.mono fun z h H' s'=>h H' (s1.trans s')⟩
end
inductive Sl where
 |em |im (d:D) |ow (d:D)
abbrev DS:=List Sl
noncomputable def Sl.see(b:Bool):Sl->Option D
 | .em=>none
 | .im d=>some d
 | .ow d=>if b=true then some d else none
noncomputable def Sl.frz(b:Bool):Sl->Sl
 | .ow d=>if b=true then .im d else .ow d
 |s=>s
def vis:List Bool->DS->DE
 |_,[]=>[]
 | [],s::r=>s.see false::vis [] r
 |b::m,s::r=>s.see b::vis m r
noncomputable def frz:List Bool->DS->DS
 |_,[]=>[]
 | [],s::r=>s::r
 |b::m,s::r=>s.frz b::frz m r
theorem Lh:∀(m:List Bool)(ρ:DS)(i:Nat),(vis m ρ)[i]?=(ρ[i]?).map (Sl.see (m.getD i false))
 | [],[],i=>by simp[vis]
 |_::_,[],i=>by simp[vis]
 | [],s::r,0=>by simp[vis]
 |b::m,s::r,0=>by simp[vis]
 | [],s::r,i+1=>by simpa [vis] using Lh [] r i
 |b::m,s::r,i+1=>by simpa [vis] using Lh m r i
theorem Mw:∀(m:List Bool)(ρ:DS),(vis m ρ).length=ρ.length
 | [],[]=>rfl
 |_::_,[]=>rfl
 | [],s::r=>by simp[vis,Mw [] r]
 |b::m,s::r=>by simp[vis,Mw m r]
theorem Sl.frz_false(s:Sl):s.frz false=s:=by cases s<;>simp[Sl.frz]
theorem Lg:∀(m:List Bool)(ρ:DS)(i:Nat),(L2.frz m ρ)[i]?=(ρ[i]?).map (Sl.frz (m.getD i false))
 | [],[],i=>by simp[frz]
 |_::_,[],i=>by simp[frz]
 | [],s::r,i=>by
  simp only[frz,List.getD_nil];cases h:(s::r)[i]? with
  |none=>rfl
  |some x=>simp[Sl.frz_false]
 |b::m,s::r,0=>by simp[frz]
 |b::m,s::r,i+1=>by simpa [frz] using Lg m r i
theorem Yu:∀(m:List Bool)(ρ:DS),(L2.frz m ρ).length=ρ.length
 | [],[]=>rfl
 |_::_,[]=>rfl
 | [],s::r=>rfl
 |b::m,s::r=>by simp[frz,Yu m r]
structure RS(K:Frag)(Hc Hb H0:Hp)(ρ:DS)(U:St)(H:Hp):Prop where
 sb:Same Hb H
 ext:Ext Hc Hb H0 H
 len:ρ.length=U.length
 im:∀(i:Nat) d,ρ[i]?=some (.im d)->∃v,U[i]?=some (some v)/\RD K H0 d v
 ow:∀(i:Nat) d,ρ[i]?=some (.ow d)->∃a,U[i]?=some (some (.ref a))/\H0 a=none/\Hb a=none/\OB K H0 H a d
 ap:∀(i j:Nat) d e a,ρ[i]?=some (.ow d)->ρ[j]?=some (.ow e)->U[i]?=some (some (.ref a))->U[j]?=some (some (.ref a))->i=j
theorem RS.grow{K:Frag}{Hc Hb H0 H H':Hp}{ρ:DS}{U:St}(R:RS K Hc Hb H0 ρ U H)(s:Same H H'):RS K Hc Hb H0 ρ U H':=
 ⟨R.sb.trans s,R.ext.grow s,R.len,R.im,fun i d e=>by obtain⟨a,h1,h2,h3,h4⟩:=R.ow i d e;exact⟨a,h1,h2,h3,h4.mono (Same.refl _) s⟩,R.ap⟩
def Msk(m:List Bool)(ρ:DS)(U:St)(a:Addr):Prop:=∃i d,m.getD i false=true/\ρ[i]?=some (.ow d)/\U[i]?=some (some (.ref a))
open Classical in
noncomputable def HeOf(m:List Bool)(ρ:DS)(U:St)(H0 H:Hp):Hp:=fun a=>if Msk m ρ U a then H a else H0 a
open Classical in
noncomputable def HdOf(m:List Bool)(ρ:DS)(U:St)(H0:Hp):Hp:=fun a=>if Msk m ρ U a then none else H0 a
section
variable {K:Frag}{Hc Hb H0 H H':Hp}{ρ:DS}{U:St}{m:List Bool}
theorem RS.msk(R:RS K Hc Hb H0 ρ U H)(h:Msk m ρ U a):H0 a=none/\Hb a=none/\∃o,H a=some o/\¬Imm o:=by obtain⟨i,d,_,h1,h2⟩:=h;obtain⟨a',q1,q2,q3,q4⟩:=R.ow i d h1;rw[h2]at q1;cases q1;exact⟨q2,q3,q4.some⟩
theorem Fl(h:Msk m ρ U a):HeOf m ρ U H0 H a=H a:=by unfold HeOf;exact ζ h
theorem Z9(h:¬Msk m ρ U a):HeOf m ρ U H0 H a=H0 a:=by unfold HeOf;exact ξ h
theorem Fk(h:Msk m ρ U a):HdOf m ρ U H0 a=none:=by unfold HdOf;exact ζ h
theorem Z8(h:¬Msk m ρ U a):HdOf m ρ U H0 a=H0 a:=by unfold HdOf;exact ξ h
theorem RS.he0(R:RS K Hc Hb H0 ρ U H)(m:List Bool):Same H0 (HeOf m ρ U H0 H):=fun b o e=>by
 by_cases h:Msk m ρ U b
 . rw[(R.msk h).1]at e;cases e
 . rw[Z9 h];exact e
theorem RS.heH(R:RS K Hc Hb H0 ρ U H)(m:List Bool):Same (HeOf m ρ U H0 H) H:=fun b o e=>by
 by_cases h:Msk m ρ U b
 . rw[Fl h]at e;exact e
 . rw[Z9 h]at e;exact R.ext.2.1 b o e
theorem RS.re(R:RS K Hc Hb H0 ρ U H)(m:List Bool):RE K (HeOf m ρ U H0 H) (vis m ρ) U:=by
 refine⟨by rw[Mw];exact R.len,fun i d e=>?_⟩;rw[Lh]at e;cases q:ρ[i]? with
 |none=>rw[q]at e;cases e
 |some s=>
  rw[q]at e
  simp only[uZ,Option.some.injEq]at e
  cases s with
  |em=>cases e
  |im d'=>
   cases e
   obtain⟨v,h1,h2⟩:=R.im i d q
   exact⟨v,h1,h2.mono (R.he0 m)⟩
  |ow d'=>
   simp only[Sl.see]at e
   split at e
   . rename_i hm;cases e;obtain⟨a,h1,h2,h3,h4⟩:=R.ow i d q;exact⟨_,h1,h4.rd (R.he0 m) (Fl ⟨i,d,hm,q,h1⟩)⟩
   . cases e
def t5(keep:Bool)(m:List Bool)(ρ:DS):DS:=if keep=true then ρ else frz m ρ
def keeps(fr:Bool)(d:D):Bool:=if fr=true then d.shal else d.noL
def Apt(K:Frag)(fr:Bool)(Hb H0:Hp)(ρ:DS)(U:St)(H:Hp)(d:D)(v:V):Prop:=
 if fr=true then ∃p,v=.ref p/\H0 p=none/\Hb p=none/\OB K H0 H p d/\∀(i:Nat) e,ρ[i]?=some (.ow e)->U[i]?≠some (some (.ref p)) else RD K H0 d v
theorem Fj(h:(t5 keep m ρ)[i]?=some (.ow d)):ρ[i]?=some (.ow d)/\(keep=false->m.getD i false=false):=by
 unfold t5 at h;cases keep with
 |true=>exact⟨h,fun z=>nomatch z⟩
 |false=>
  rw[ξ θ,Lg]at h
  cases q:ρ[i]? with
  |none=>rw[q]at h;cases h
  |some s=>
   rw[q]at h
   simp only[uZ,Option.some.injEq]at h
   cases s with
   |em=>cases h
   |im d'=>cases h
   |ow d'=>
    simp only[Sl.frz]at h
    split at h
    . cases h
    . rename_i hm;cases h;exact⟨rfl,fun _=>by simpa using hm⟩
theorem RS.frame(R:RS K Hc Hb H0 ρ U H)(s:Same H H')(e:Ext (HeOf m ρ U H0 H) H ac H')(keep:Bool) :
  ∃aX,RS K Hc Hb aX (t5 keep m ρ) U H'/\TK ac aX/\(keep=false->aX=ac)/\(∀p,ac p=none->aX p=none)/\Same H0 aX:=by
 have ir:∀(i:Nat) d' a,ρ[i]?=some (.ow d')->U[i]?=some (some (.ref a))->¬Msk m ρ U a->ac a=none:=fun i d' a h1 h2 h3=>by obtain⟨a',q1,q2,q3,q4⟩:=R.ow i d' h1;rw[h2]at q1;cases q1;obtain⟨u,hu,ni⟩:=q4.some;exact e.no s hu ni (by rw[Z9 h3];exact q2)
 have mo:∀{i:Nat}{d':D}{a:Addr},ρ[i]?=some (.ow d')->U[i]?=some (some (.ref a))->m.getD i false=false->¬Msk m ρ U a:=fun {i d' a} h1 h2 h3 ⟨j,e',q1,q2,q3⟩=>by have:=R.ap i j d' e' a h1 q2 h2 q3;subst this;rw[h3]at q1;cases q1
 cases keep with
 |true=>
  have uD:t5 true m ρ=ρ:=rfl
  have s0:Same H0 (HdOf m ρ U ac):=fun b u q=>by
   have hb:¬Msk m ρ U b:=fun z=>by rw[(R.msk z).1]at q;cases q
   rw[Z8 hb];exact e.1 b u (R.he0 m b u q)
  have tk:TK ac (HdOf m ρ U ac):=fun b u hi q=>by
   have hb:¬Msk m ρ U b:=fun z=>by obtain⟨_,_,w,hw,hn⟩:=R.msk z;have:=e.1 b w (by rw[Fl z];exact hw);rw[q]at this;cases this;exact hn hi
   rw[Z8 hb];exact q
  refine⟨HdOf m ρ U ac,⟨R.sb.trans s,⟨R.ext.1.trans s0,fun b u q=>?_,fun a h1 h2=>?_⟩,R.len,fun i d' q=>?_,fun i d' q=>?_,R.ap⟩,tk,(fun z=>nomatch z),fun p hp=>?_,s0⟩
  . by_cases hb:Msk m ρ U b
    . rw[Fk hb]at q;cases q
    . rw[Z8 hb]at q;exact e.2.1 b u q
  . by_cases hb:Msk m ρ U a
    . exact .inl (Fk hb)
    . rw[Z8 hb];exact e.nt (R.sb.ne h1) (by rw[Z9 hb];exact R.ext.2.2 a h1 h2)
  . obtain⟨w,h1,h2⟩:=R.im i d' q;exact⟨w,h1,h2.mono s0⟩
  . obtain⟨a,h1,h2,h3,h4⟩:=R.ow i d' q;refine⟨a,h1,?_,h3,h4.mono s0 s⟩;by_cases hb:Msk m ρ U a
    . exact Fk hb
    . rw[Z8 hb];exact ir i d' a q h1 hb
  . by_cases hb:Msk m ρ U p
    . exact Fk hb
    . rw[Z8 hb];exact hp
 |false=>
  refine⟨ac,⟨R.sb.trans s,?_,?_,fun i d' q=>?_,fun i d' q=>?_,fun i j d1 d2 a q1 q2=>?_⟩,fun _ _ _ z=>z,fun _=>rfl,fun _ z=>z,(R.he0 m).trans e.1⟩
  . refine⟨R.ext.1.trans ((R.he0 m).trans e.1),e.2.1,fun a h1 h2=>e.nt (R.sb.ne h1) ?_⟩;have hb:¬Msk m ρ U a:=fun z=>h1 (R.msk z).2.1
    rw[Z9 hb];exact R.ext.2.2 a h1 h2
  . show(L2.frz m ρ).length=_;rw[Yu];exact R.len
  . have q':(L2.frz m ρ)[i]?=some (.im d'):=q;rw[Lg]at q';cases hs:ρ[i]? with
    |none=>rw[hs]at q';cases q'
    |some sl=>
     rw[hs]at q'
     simp only[uZ,Option.some.injEq]at q'
     cases sl with
     |em=>cases q'
     |im d2=>
      cases q'
      obtain⟨w,h1,h2⟩:=R.im i d' hs
      exact⟨w,h1,h2.mono ((R.he0 m).trans e.1)⟩
     |ow d2=>
      simp only[Sl.frz]at q'
      split at q'
      . rename_i hm;cases q';obtain⟨a,h1,h2,h3,h4⟩:=R.ow i d' hs;obtain⟨u,hu,_⟩:=h4.some;refine⟨_,h1,h4.rd ((R.he0 m).trans e.1) ?_⟩;rw[hu];exact e.1 a u (by rw[Fl ⟨i,d',hm,hs,h1⟩];exact hu)
      . cases q'
  . obtain⟨q1,q2⟩:=Fj q;obtain⟨a,h1,h2,h3,h4⟩:=R.ow i d' q1;exact⟨a,h1,ir i d' a q1 h1 (mo q1 h1 (q2 rfl)),h3,h4.mono ((R.he0 m).trans e.1) s⟩
  . exact R.ap i j d1 d2 a (Fj q1).1 (Fj q2).1
theorem RS.out(R:RS K Hc Hb H0 ρ U H)(o:Out K fr (HeOf m ρ U H0 H) H d v H') :
  ∃aX,RS K Hc Hb aX (t5 (keeps fr d) m ρ) U H'/\Apt K fr Hb aX (t5 (keeps fr d) m ρ) U H' d v:=by
 obtain⟨s,ac,e,r⟩:=o
 obtain⟨aX,R',tk,eq,hn,_⟩:=R.frame s e (keeps fr d)
 refine⟨aX,R',?_⟩
 unfold Apt
 cases fr with
 |false=>
  rw[ξ θ]at r⊢
  cases hk:keeps false d with
  |true=>exact r.tk tk (by simpa [keeps] using hk)
  |false=>rw[eq hk];exact r
 |true=>
  rw[ζ rfl]at r⊢
  obtain⟨p,rfl,hp,fx,ob⟩:=r
  refine⟨p,rfl,hn p fx,R.sb.none hp,?_,fun i e' q z=>?_⟩
  . cases hk:keeps true d with
    |true=>exact ob.tk (by simpa [keeps] using hk) tk
    |false=>rw[eq hk];exact ob
  . obtain⟨a,h1,_,_,h4⟩:=R.ow i e' (Fj q).1;rw[z]at h1;cases h1;obtain⟨u,hu,_⟩:=h4.some;rw[hp]at hu;cases hu
theorem RS.outs(R:RS K Hc Hb H0 ρ U H)(s:Same H H')(e:Ext (HeOf m ρ U H0 H) H ac H')(r:RDs K ac ds vs) :
  ∃aX,RS K Hc Hb aX (t5 (k9 ds) m ρ) U H'/\RDs K aX ds vs:=by
 obtain⟨aX,R',tk,eq,hn,_⟩:=R.frame s e (k9 ds)
 refine⟨aX,R',?_⟩
 cases hk:k9 ds with
 |true=>exact r.tk tk hk
 |false=>rw[eq hk];exact r
noncomputable def N1(fr:Bool)(i:Nat)(d:D)(ρ:DS):DS:=ρ.set i (if fr=true then .ow d else .im d)
theorem RS.put(R:RS K Hc Hb H0 ρ U H)(a:Apt K fr Hb H0 ρ U H d v)(i:Nat):RS K Hc Hb H0 (N1 fr i d ρ) (U.set i (some v)) H:=by
 unfold N1;have other:∀{j:Nat}{s:Sl},j≠i->(ρ.set i s)[j]?=ρ[j]?:=fun {j s} h=>by rw[AT (BX h)]
 have bE:∀{j:Nat},j≠i->(U.set i (some v))[j]?=U[j]?:=fun {j} h=>by rw[AT (BX h)]
 have here:∀{s s':Sl},(ρ.set i s)[i]?=some s'->s'=s/\(U.set i (some v))[i]?=some (some v):=fun {s s'} h=>by
  have hi:i<ρ.length:=by have:=(AX.mp h).1;simpa using this
  rw[BR hi]at h;cases h;exact⟨rfl,by rw[BR (by rw[<-R.len];exact hi)]⟩
 refine⟨R.sb,R.ext,by rw[CT,CT];exact R.len,fun j d' q=>?_,fun j d' q=>?_,fun j k d1 d2 b q1 q2 z1 z2=>?_⟩
 . by_cases hj:j=i
   . subst hj;obtain⟨h1,h2⟩:=here q;refine⟨v,h2,?_⟩;cases fr with
     |false=>
      rw[ξ θ]at h1;cases h1
      unfold Apt at a
      rw[ξ θ]at a;exact a
     |true=>rw[ζ rfl]at h1;cases h1
   . rw[other hj]at q;rw[bE hj];exact R.im j d' q
 . by_cases hj:j=i
   . subst hj;obtain⟨h1,h2⟩:=here q;cases fr with
     |false=>rw[ξ θ]at h1;cases h1
     |true=>
      rw[ζ rfl]at h1;cases h1
      unfold Apt at a
      rw[ζ rfl]at a
      obtain⟨p,rfl,a1,a2,a3,_⟩:=a
      exact⟨p,h2,a1,a2,a3⟩
   . rw[other hj]at q;rw[bE hj];exact R.ow j d' q
 . by_cases hj:j=i
   . by_cases hk:k=i
     . rw[hj,hk]
     . subst hj;obtain⟨h1,h2⟩:=here q1;rw[other hk]at q2;rw[bE hk]at z2;rw[h2]at z1;cases fr with
       |false=>rw[ξ θ]at h1;cases h1
       |true=>
        unfold Apt at a
        rw[ζ rfl]at a
        obtain⟨p,rfl,_,_,_,a4⟩:=a
        cases z1
        exact absurd z2 (a4 k d2 q2)
   . by_cases hk:k=i
     . subst hk;obtain⟨h1,h2⟩:=here q2;rw[other hj]at q1;rw[bE hj]at z1;rw[h2]at z2;cases fr with
       |false=>rw[ξ θ]at h1;cases h1
       |true=>
        unfold Apt at a
        rw[ζ rfl]at a
        obtain⟨p,rfl,_,_,_,a4⟩:=a
        cases z2
        exact absurd z1 (a4 j d1 q1)
     . rw[other hj]at q1;rw[other hk]at q2;rw[bE hj]at z1;rw[bE hk]at z2;exact R.ap j k d1 d2 b q1 q2 z1 z2
end
inductive SR where
 |nx (ρ:DS) |bk (ρ:DS) |ct (ρ:DS) |rt (d:D) |er (x:Ex) |st
def SK(K:Frag)(EX:XW)(fr:Bool)(Hc Hb:Hp)(De:Ends):SR->Prop
 | .nx ρ=>∀U H H0,RS K Hc Hb H0 ρ U H->De.nx U H
 | .bk ρ=>∀U H H0,RS K Hc Hb H0 ρ U H->De.bk U H
 | .ct ρ=>∀U H H0,RS K Hc Hb H0 ρ U H->De.ct U H
 | .rt d=>∀v H,Out K fr Hc Hb d v H->De.rt v H
 | .er x=>EX.at x
 | .st=>False
def TSd(K:Frag)(EX:XW)(fr:Bool)(g:DS->SR):TS:=fun De U H=>∃Hc Hb H0 ρ,Same EX.hb Hb/\RS K Hc Hb H0 ρ U H/\SK K EX fr Hc Hb De (g ρ)
noncomputable def R.toS{α:Type}(r:R α)(k:α->SR):SR:=match r with
 | .ok a=>k a
 | .er x=>.er x
 | .st=>.st
noncomputable def sNx:DS->SR:=fun ρ=>.nx ρ
noncomputable def e7(g1 g2:DS->SR):DS->SR:=fun ρ=>match g1 ρ with
 | .nx aI=>g2 aI
 |r=>r
noncomputable def see(ρ:DS):DE:=ρ.map (Sl.see true)
def sIf(t:DE->R Bool)(g1 g2:DS->SR):DS->SR:=fun ρ=>(t (see ρ)).toS fun b=>if b=true then g1 ρ else g2 ρ
def i4(fr:Bool)(i:Nat)(m:List Bool)(f:DE->R D):DS->SR:=fun ρ=>(f (vis m ρ)).toS fun d=>.nx (N1 fr i d (t5 (keeps fr d) m ρ))
def g9(m:List Bool)(f:DE->R D):DS->SR:=fun ρ=>(f (vis m ρ)).toS fun d=>.rt d
noncomputable def y3i:DS->SR:=fun _=>.rt .non
noncomputable def Ei(i:Nat):DS->SR:=fun ρ=>match ρ[i]? with
 |some (.ow d)=>.rt d
 |_=>.st
def B0(f:DE->R D):DS->SR:=fun ρ=>(f (see ρ)).toS fun _=>.nx ρ
section
variable {K:Frag}{EX:XW}{fr:Bool}{Hc Hb H0 H H':Hp}{ρ:DS}{U:St}{De:Ends}{m:List Bool}
theorem SK.toS:SK K EX fr Hc Hb De (r.toS k)=Rk EX.at r fun a=>SK K EX fr Hc Hb De (k a):=by cases r<;>rfl
theorem U6:∀(ρ:DS),vis (List.replicate ρ.length true) ρ=see ρ
 | []=>rfl
 |s::r=>by show s.see true::vis (List.replicate r.length true) r=_;rw[U6 r];rfl
theorem RS.extE(R:RS K Hc Hb H0 ρ U H)(m:List Bool):Ext Hc Hb (HeOf m ρ U H0 H) H:=
 ⟨R.ext.1.trans (R.he0 m),R.heH m,fun a h1 h2=>by
  have hb:¬Msk m ρ U a:=fun z=>h1 (R.msk z).2.1
  rw[Z9 hb];exact R.ext.2.2 a h1 h2⟩
theorem RS.te(I:RS K Hc Hb H0 ρ U H)(sb:Same EX.hb Hb)(h:Rk EX.at (f (vis m ρ)) k)
  (hk:∀d,k d->∀v H' aX,RS K Hc Hb aX (t5 (keeps cC d) m ρ) U H'->Apt K cC Hb aX (t5 (keeps cC d) m ρ) U H' d v->Q v H'):TEd K EX cC f U H Q:=
 ⟨sb.trans I.sb,vis m ρ,HeOf m ρ U H0 H,I.heH m,I.re m,h.mono fun d z v H' o=>by obtain⟨aX,R',a⟩:=I.out o;exact hk d z v H' aX R' a⟩
theorem RS.tt(I:RS K Hc Hb H0 ρ U H)(sb:Same EX.hb Hb)(h:Rk EX.at (f (see ρ)) k)(hk:∀b,k b->∀H',RS K Hc Hb H0 ρ U H'->Q b H'):TTd K EX f U H Q:=by refine⟨sb.trans I.sb,see ρ,HeOf (List.replicate ρ.length true) ρ U H0 H,I.heH _,?_,h.mono fun b z H' s=>hk b z H' (I.grow s)⟩;rw[<-U6];exact I.re _
theorem y7u(h:TSd K EX fr sNx De U H):Rn De U H:=by obtain⟨Hc,Hb,H0,ρ,sb,R,h⟩:=h;exact h U H H0 R
theorem y3j(h:TSd K EX fr (e7 g1 g2) De U H):kU (TSd K EX fr g1) (TSd K EX fr g2) De U H:=by
 obtain⟨Hc,Hb,H0,ρ,sb,R,h⟩:=h;refine⟨Hc,Hb,H0,ρ,sb,R,?_⟩;unfold e7 at h;cases q:g1 ρ with
 |nx aI=>rw[q]at h;exact fun ak H' ac R'=>⟨Hc,Hb,ac,aI,sb,R',h⟩
 |bk aI=>rw[q]at h;exact h
 |ct aI=>rw[q]at h;exact h
 |rt d=>rw[q]at h;exact h
 |er x=>rw[q]at h;exact h
 |st=>rw[q]at h;exact h
theorem y3k(h:TSd K EX fr (sIf t g1 g2) De U H):kT (TTd K EX t) (TSd K EX fr g1) (TSd K EX fr g2) De U H:=by
 obtain⟨Hc,Hb,H0,ρ,sb,R,h⟩:=h;unfold sIf at h;rw[SK.toS]at h;refine R.tt sb h fun b h H' R'=>?_
 cases b with
 |true=>exact⟨Hc,Hb,H0,ρ,sb,R',h⟩
 |false=>exact⟨Hc,Hb,H0,ρ,sb,R',h⟩
theorem Hy(h:TSd K EX fr (i4 cC i m f) De U H):T1 (TEd K EX cC f) (E7 i) De U H:=by obtain⟨Hc,Hb,H0,ρ,sb,R,h⟩:=h;unfold i4 at h;rw[SK.toS]at h;exact R.te sb h fun d h v H' aX R' a=>h _ H' aX (R'.put a i)
theorem y3l(h:TSd K EX fr (g9 m f) De U H):Qo (TEd K EX fr f) De U H:=by obtain⟨Hc,Hb,H0,ρ,sb,R,h⟩:=h;unfold g9 at h;rw[SK.toS]at h;exact⟨sb.trans R.sb,vis m ρ,HeOf m ρ U H0 H,R.heH m,R.re m,h.mono fun d z v H' o=>z v H' (o.after R.sb (R.extE m))⟩
theorem qY(h:TSd K EX true (Ei i) De U H):Qo (P7 i) De U H:=by
 obtain⟨Hc,Hb,H0,ρ,sb,R,h⟩:=h;unfold Ei at h;split at h
 . rename_i d q;obtain⟨a,h1,h2,h3,h4⟩:=R.ow i d q;show P7 i U H De.rt;unfold P7;rw[h1];exact h _ H (.fresh R.sb R.ext h3 h2 h4)
 . exact h.elim
theorem qX(h:TSd K EX fr (B0 f) De U H):Ef (TEd K EX false f) De U H:=by obtain⟨Hc,Hb,H0,ρ,sb,R,h⟩:=h;unfold B0 at h;rw[SK.toS]at h;refine⟨sb.trans R.sb,see ρ,HeOf (List.replicate ρ.length true) ρ U H0 H,R.heH _,by rw[<-U6];exact R.re _,h.mono fun d z v H' o=>?_⟩;exact z U H' H0 (R.grow o.1)
theorem RS.mutate(R:RS K Hc Hb H0 ρ U H)(h:ρ[i]?=some (.ow d))(ha:U[i]?=some (some (.ref a)))(ob:OB K H0 (upd H a o) a d'):RS K Hc Hb H0 (ρ.set i (.ow d')) U (upd H a o):=by
 obtain⟨a',q1,q2,q3,q4⟩:=R.ow i d h;rw[ha]at q1;cases q1;have hi:i<ρ.length:=(AX.mp h).1;have other:∀{j:Nat}{s:Sl},j≠i->(ρ.set i s)[j]?=ρ[j]?:=fun {j s} h=>by rw[AT (BX h)]
 have here:(ρ.set i (.ow d'))[i]?=some (.ow d'):=by rw[BR hi]
 have sm:∀{H1:Hp},Same H1 H->H1 a=none->Same H1 (upd H a o):=fun s n=>s.upd_at n
 refine⟨sm R.sb q3,⟨R.ext.1,sm R.ext.2.1 q2,R.ext.2.2⟩,by rw[CT];exact R.len,fun j d2 q=>?_,fun j d2 q=>?_,fun j k d1 d2 b z1 z2=>?_⟩
 . have hj:j≠i:=fun z=>by subst z;rw[here]at q;cases q
   rw[other hj]at q;exact R.im j d2 q
 . by_cases hj:j=i
   . subst hj;rw[here]at q;cases q;exact⟨a,ha,q2,q3,ob⟩
   . rw[other hj]at q;obtain⟨b,h1,h2,h3,h4⟩:=R.ow j d2 q;have hb:b≠a:=fun z=>hj (R.ap j i d2 d b q h h1 (by rw[z];exact ha))
     exact⟨b,h1,h2,h3,h4.at (k8 hb)⟩
 . have dW:∀{j:Nat}{d1:D},(ρ.set i (.ow d'))[j]?=some (.ow d1)->∃d0,ρ[j]?=some (.ow d0):=fun {j d1} z=>by
    by_cases hj:j=i
    . subst hj;exact⟨d,h⟩
    . rw[other hj]at z;exact⟨_,z⟩
   obtain⟨e1,z1⟩:=dW z1
   obtain⟨e2,z2⟩:=dW z2
   exact R.ap j k e1 e2 b z1 z2
def Qe(K:Frag)(mt:D->List D->Option D)(r:V->List V->Hp->VK->Prop):Prop:=∀(H0 H:Hp)(a:Addr)(d d':D)(ds:List D)(vs:List V)(Q:VK),Same H0 H->H0 a=none->OB K H0 H a d->RDs K H0 ds vs->mt d ds=some d' ->
 (∀v o,OB K H0 (upd H a o) a d'->Q v (upd H a o))->r (.ref a) vs H Q
noncomputable def isT(T:String):D->Bool
 | .lst _=>T=="list"
 | .dk _ _=>T=="dict"
 | .dt _ _=>T=="dict"
 |_=>false
def TyD(K:Frag)(T:String):Prop:=∀(H0 H:Hp)(a:Addr)(d:D),OB K H0 H a d->isT T d=true->tyV K T (.ref a) H
def N4(T:String)(mt:D->List D->Option D)(i:Nat)(m:List Bool)(fs:DE->R (List D)):DS->SR:=fun ρ=>match ρ[i]? with
 |some (.ow d0)=>if isT T d0=true then(fs (vis m ρ)).toS fun ds=>match (t5 (k9 ds) m ρ)[i]? with
  |some (.ow d)=>(R.of (mt d ds)).toS fun d'=>.nx ((t5 (k9 ds) m ρ).set i (.ow d'))
  |_=>.st
  else .st
 |_=>.st
theorem y3n{T:String}{mt:D->List D->Option D}{r:V->List V->Hp->VK->Prop}{i:Nat}{fs:DE->R (List D)}(hm:Qe K mt r)(hT:TyD K T)(h:TSd K EX fr (N4 T mt i m fs) De U H) :
  Ef (tBM K T r (P7 i) (TAd K EX fs)) De U H:=by
 obtain⟨Hc,Hb,H0,ρ,sb,R,h⟩:=h
 unfold N4 at h
 split at h
 . rename_i d0 q0;split at h
   . rename_i eL;rw[SK.toS]at h;obtain⟨a,h1,h2,h3,h4⟩:=R.ow i d0 q0;unfold Ef tBM P7;rw[h1];refine⟨hT H0 H a d0 h4 eL,sb.trans R.sb,vis m ρ,HeOf m ρ U H0 H,R.heH m,R.re m,h.mono fun ds h vs H' ac s e ez=>?_⟩;obtain⟨aX,R',pX⟩:=R.outs s e ez;split at h
     . rename_i d q;rw[SK.toS]at h;obtain⟨d',cG,h⟩:=h.of;obtain⟨a',z1,z2,z3,z4⟩:=R'.ow i d q;rw[h1]at z1;cases z1;exact hm aX H' a d d' ds vs _ R'.ext.2.1 z2 z4 pX cG fun v o ob=>h U _ aX (R'.mutate q h1 ob)
     . exact h.elim
   . exact h.elim
 . exact h.elim
def y3o(T:String)(mt:D->List D->Option D)(i:Nat):DS->SR:=fun ρ=>match ρ[i]? with
 |some (.ow d)=>if isT T d=true then(R.of (mt d [])).toS fun d'=>.nx (ρ.set i (.ow d')) else .st
 |_=>.st
def y7v(st:D->D->D->Option D)(i:Nat)(m:List Bool)(fk fv:DE->R D):DS->SR:=fun ρ=>(fv (vis m ρ)).toS fun dv=>match (t5 (keeps false dv) m ρ)[i]? with
 |some (.ow _)=>(fk (vis m (t5 (keeps false dv) m ρ))).toS fun dk=>(match (t5 (keeps false dk) m (t5 (keeps false dv) m ρ))[i]? with
  |some (.ow d)=>(R.of (st d dk dv)).toS fun d'=>.nx ((t5 (keeps false dk) m (t5 (keeps false dv) m ρ)).set i (.ow d'))
  |_=>.st)
 |_=>.st
end
section
variable {K:Frag}{EX:XW}{fr:Bool}{Hc Hb H0 H H':Hp}{ρ:DS}{U:St}{De:Ends}{m:List Bool}
inductive Tg where
 |n (i:Nat) |t (is:List Nat)
def Kq:List Nat->List D->DS->DS
 |i::is,d::ds,ρ=>Kq is ds (N1 false i d ρ)
 |_,_,ρ=>ρ
noncomputable def items:D->Option (List D)
 | .tup ds=>some ds
 | .lst ds=>some ds
 |_=>none
def W9:Tg->D->DS->Option DS
 | .n i,d,ρ=>some (N1 false i d ρ)
 | .t is,d,ρ=>(items d).bind fun ds=>if ds.length=is.length then some (Kq is ds ρ) else none
def TGd(K:Frag)(tg:Tg):TG:=fun v U H Q=>∃Hc Hb H0 ρ d aI,RS K Hc Hb H0 ρ U H/\RD K H0 d v/\W9 tg d ρ=some aI/\∀ak,RS K Hc Hb H0 aI ak H->Q ak H
theorem RS.putI(I:RS K Hc Hb H0 ρ U H)(r:RD K H0 d v)(i:Nat):RS K Hc Hb H0 (N1 false i d ρ) (U.set i (some v)) H:=
 I.put (fr:=false) (by unfold Apt;rw[ξ θ];exact r) i
theorem y7w(h:TGd K (.n i) v U H Q):E7 i v U H Q:=by obtain⟨Hc,Hb,H0,ρ,d,aI,I,r,e,q⟩:=h;simp only[W9,Option.some.injEq]at e;subst e;exact q _ (I.putI r i)
def Ey:List Nat->TGs
 | []=>Rb
 |i::is=>Tk (E7 i) (Ey is)
theorem Mo:∀(is:List Nat){ds:List D}{xs:List V}{ρ:DS}{U:St}{Q:St->Hp->Prop},RS K Hc Hb H0 ρ U H->RDs K H0 ds xs->ds.length=is.length->(∀ak,RS K Hc Hb H0 (Kq is ds ρ) ak H->Q ak H)->Ey is xs U H Q
 | [],[],_,ρ,U,Q,I,r,_,q=>by simp only[RDs]at r;subst r;exact q U I
 | [],_::_,_,_,_,_,_,_,hl,_=>by simp at hl
 |_::_,[],_,_,_,_,_,_,hl,_=>by simp at hl
 |i::is,d::ds,_,ρ,U,Q,I,r,hl,q=>by simp only[RDs]at r;obtain⟨x,xs,rfl,r1,r2⟩:=r;exact Mo is (I.putI r1 i) r2 (by simpa using hl) q
theorem y7x(h:TGd K (.t is) v U H Q):Bi is.length (Ey is) v U H Q:=by
 obtain⟨Hc,Hb,H0,ρ,d,aI,I,r,e,q⟩:=h;simp only[W9]at e;cases d<;>simp only[items,Option.bind_none,Option.bind_some]at e<;>first |cases e |skip
 . rename_i ds;split at e
   . rename_i hl;cases e;simp only[RD]at r;obtain⟨a,xs,rfl,ha,rs⟩:=r;unfold Bi;simp only[I.ext.2.1 a _ ha];exact⟨by rw[<-rs.length];exact hl,Mo is I rs hl q⟩
   . cases e
 . rename_i ds;split at e
   . rename_i hl;cases e;simp only[RD]at r;obtain⟨a,xs,rfl,ha,rs⟩:=r;unfold Bi;simp only[I.ext.2.1 a _ ha];exact⟨by rw[<-rs.length];exact hl,Mo is I rs hl q⟩
   . cases e
def y7y(tg:Tg)(m:List Bool)(f:DE->R D):DS->SR:=fun ρ=>(f (vis m ρ)).toS fun d=>match W9 tg d (t5 (keeps false d) m ρ) with
 |some aI=>.nx aI
 |none=>.st
noncomputable def Hno:Hp:=fun _=>none
def Aq(K:Frag)(J:It)(H0:Hp)(ds:List D):Prop:=
 (∀(i:Nat) d,ds[i]?=some d->∀H H1,Same H0 H1->Same H1 H->J.go i H/\∀x H',J.yld i H x H'->Same H H'/\∃aq,Ext H1 H aq H'/\RD K aq d x)/\∀H,Same H0 H->J.stop ds.length H
def TId(K:Frag)(EX:XW)(kp:Bool)(f:DE->R (List D)):TI:=fun U H Q=>Same EX.hb H/\∃ρ H0,Same H0 H/\RE K H0 ρ U/\Rk EX.at (f ρ) fun ds=>∀J H' ac,Same H H'->Ext H0 H ac H'->Aq K J (if kp=true then Hno else ac) ds->Q J H'
def J3(tg:Tg)(g:DS->SR):List D->DS->SR
 | [],ρ=>.nx ρ
 |d::ds,ρ=>match W9 tg d ρ with
  |none=>.st
  |some di=>match g di with
   | .nx aN=>J3 tg g ds aN
   | .ct aN=>J3 tg g ds aN
   | .bk aN=>.nx aN
   | .rt d=>.rt d
   | .er x=>.er x
   | .st=>.st
def T4(kp:Bool)(m:List Bool)(f:DE->R (List D))(tg:Tg)(g:DS->SR):DS->SR:=fun ρ=>(f (vis m ρ)).toS fun ds=>J3 tg g ds (t5 kp m ρ)
theorem Ext.base(a:Ext Hc Hb gf H)(b:Ext gf Hb H0 H'):Ext Hc Hb H0 H':=⟨a.1.trans b.1,b.2.1,fun c h1 h2=>b.nt h1 (a.2.2 c h1 h2)⟩
theorem RS.base(a:Ext Hc Hb gf H1)(I:RS K gf Hb H0 ρ U H):RS K Hc Hb H0 ρ U H:=⟨I.sb,a.base I.ext,I.len,I.im,I.ow,I.ap⟩
theorem RS.self(I:RS K Hc Hb H0 ρ U H):RS K H0 Hb H0 ρ U H:=⟨I.sb,⟨Same.refl _,I.ext.2.1,fun _ _ z=>.inl z⟩,I.len,I.im,I.ow,I.ap⟩
theorem Out.base(a:Ext Hc Hb gf H)(o:Out K fr gf Hb d v H'):Out K fr Hc Hb d v H':=by obtain⟨s,ac,e,r⟩:=o;exact⟨s,ac,a.base e,r⟩
theorem RS.sees(I:RS K Hc Hb H0 ρ U H)(s:Same H H')(e:Ext H0 H aq H'):RS K Hc Hb aq ρ U H':=
 ⟨I.sb.trans s,⟨I.ext.1.trans e.1,e.2.1,fun a h1 h2=>e.nt (I.sb.ne h1) (I.ext.2.2 a h1 h2)⟩,I.len,fun i d q=>by
  obtain⟨v,h1,h2⟩:=I.im i d q;exact⟨v,h1,h2.mono e.1⟩,fun i d q=>by
  obtain⟨a,h1,h2,h3,h4⟩:=I.ow i d q;obtain⟨u,hu,ni⟩:=h4.some;exact⟨a,h1,e.no s hu ni h2,h3,h4.mono e.1 s⟩,I.ap⟩
theorem y7z(sb:Same EX.hb Hb)(I1:RS K Hc Hb Hn ρ U H1)(eO:Aq K J Hn ds)(h:SK K EX fr Hc Hb De (J3 tg g ds ρ)):kG J (TGd K tg) (TSd K EX fr g) De U H1:=by
 have iW:Ext Hc Hb Hn H1:=I1.ext;refine⟨fun i mm U H=>mm=ds.length - i/\i<=ds.length/\∃ρ H0,RS K Hn Hb H0 ρ U H/\SK K EX fr Hc Hb De (J3 tg g (ds.drop i) ρ),⟨ds.length,by simp,BU _,_,Hn,I1.self,h⟩,?_⟩;rintro i mm U H ⟨rfl,hi,ρ,H0,I2,h⟩;have sn:Same Hn H0:=I2.ext.1;by_cases aH:i<ds.length
 . have hd:ds[i]?=some ds[i]:=by simp[aH]
   obtain⟨iX,hy⟩:=eO.1 i _ hd H H0 sn I2.ext.2.1;have iY:ds.drop i=ds[i]::ds.drop (i+1):=EK aH;rw[iY]at h;refine .inr ⟨iX,fun ak H'=>∃aI ac,RS K Hn Hb ac aI ak H'/\SK K EX fr Hc Hb De (J3 tg g (ds.drop (i+1)) aI),fun ak H' ⟨aI,ac,q⟩=>⟨ds.length - (i+1),by omega,rfl,aH,aI,ac,q⟩,fun x H' y=>?_⟩;obtain⟨s3,H3,e3,r3⟩:=hy x H' y;have I3:=I2.sees s3 e3;unfold J3 at h;split at h
   . exact h.elim
   . rename_i di q1;refine⟨Hn,Hb,H3,ρ,ds[i],di,I3,r3,q1,fun ak I4=>⟨Hn,Hb,H3,di,sb,I4,?_⟩⟩;cases qg:g di with
     |nx aN=>rw[qg]at h;exact fun eP H5 cY I5=>⟨aN,cY,I5,h⟩
     |ct aN=>rw[qg]at h;exact fun eP H5 cY I5=>⟨aN,cY,I5,h⟩
     |bk aN=>rw[qg]at h;exact fun eP H5 cY I5=>h eP H5 cY (I5.base iW)
     |rt d=>rw[qg]at h;exact fun v H5 o=>h v H5 (o.base iW)
     |er x=>rw[qg]at h;exact h
     |st=>rw[qg]at h;exact h
 . have e:i=ds.length:=by omega
   subst e;rw[List.drop_length]at h;refine .inl ⟨eO.2 H (sn.trans I2.ext.2.1),?_⟩;exact h U H H0 (I2.base iW)
theorem y3p(h:TSd K EX fr (T4 kp m f tg g) De U H):Re (TId K EX kp f) (TGd K tg) (TSd K EX fr g) De U H:=by
 obtain⟨Hc,Hb,H0,ρ,sb,I,h⟩:=h;unfold T4 at h;rw[SK.toS]at h;refine⟨sb.trans I.sb,vis m ρ,HeOf m ρ U H0 H,I.heH m,I.re m,h.mono fun ds h J H1 aq s1 e1 it=>?_⟩;obtain⟨Hn,I1,tk,eq,hn,sub⟩:=I.frame s1 e1 kp;have eO:Aq K J Hn ds:=by
  cases kp with
  |true=>
   rw[ζ rfl]at it
   exact⟨fun i d q H H1 a b=>it.1 i d q H H1 (fun _ _ z=>nomatch z) b,fun H a=>it.2 H fun _ _ z=>nomatch z⟩
  |false=>rw[ξ θ,<-eq rfl]at it;exact it
 exact y7z sb I1 eO h
def N9(t:DE->R Bool)(g:DS->SR):Nat->DS->SR
 | 0,_=>.st
 |n+1,ρ=>(t (see ρ)).toS fun b=>if b=true then(match g ρ with
  | .nx aN=>N9 t g n aN
  | .ct aN=>N9 t g n aN
  | .bk aN=>.nx aN
  | .rt d=>.rt d
  | .er x=>.er x
  | .st=>.st) else .nx ρ
def Bq(n:Nat)(t:DE->R Bool)(g:DS->SR):DS->SR:=N9 t g n
theorem wU(h:TSd K EX fr (Bq n t g) De U H):Tr (TTd K EX t) (TSd K EX fr g) De U H:=by
 obtain⟨Hc,Hb,H0,ρ,sb,I,h⟩:=h;refine⟨fun mm U H=>∃ρ H0,RS K Hc Hb H0 ρ U H/\SK K EX fr Hc Hb De (N9 t g mm ρ),⟨n,ρ,H0,I,h⟩,?_⟩;rintro mm U H ⟨ρ,H0,I,h⟩;cases mm with
 |zero=>exact h.elim
 |succ mm=>
  unfold N9 at h
  rw[SK.toS]at h
  refine I.tt sb h fun b h H' I'=>?_
  cases b with
  |false=>exact h U H' H0 I'
  |true=>
   rw[ζ rfl]at h⊢
   refine⟨fun ak H'=>∃aI ac,RS K Hc Hb ac aI ak H'/\SK K EX fr Hc Hb De (N9 t g mm aI),fun ak H' q=>⟨mm,DX _,q⟩,Hc,Hb,H0,ρ,sb,I',?_⟩
   cases qg:g ρ with
   |nx aN=>rw[qg]at h;exact fun eP H5 cY I5=>⟨aN,cY,I5,h⟩
   |ct aN=>rw[qg]at h;exact fun eP H5 cY I5=>⟨aN,cY,I5,h⟩
   |bk aN=>rw[qg]at h;exact fun eP H5 cY I5=>h eP H5 cY I5
   |rt d=>rw[qg]at h;exact fun v H5 o=>h v H5 o
   |er x=>rw[qg]at h;exact h
   |st=>rw[qg]at h;exact h
noncomputable def R.noE{α:Type}(r:R α):R α:=match r with
 | .er _=>.st
 |r=>r
theorem Rk.noE{α:Type}{EX EX':Ex->Prop}{r:R α}{k:α->Prop}(h:Rk EX r.noE k):Rk EX' r k:=by
 cases r with
 |ok a=>exact h
 |er x=>exact h.elim
 |st=>exact h
def BD(K:Frag)(bn:D->Option (List D))(B:V->Hp->(List V->Hp->Prop)->Prop):Prop:=∀(H0 H:Hp)(x:V)(d:D)(ds:List D)(Q:List V->Hp->Prop),Same H0 H->RD K H0 d x->bn d=some ds->(∀vs,RDs K H0 ds vs->Q vs H)->B x H Q
noncomputable def b1:D->Option (List D):=fun d=>some [d]
noncomputable def bT(n:Nat):D->Option (List D)
 | .tup ds=>if ds.length=n then some ds else none
 |_=>none
theorem ku:BD K b1 cB1:=fun H0 H x d ds Q s r e q=>by simp only[b1,Option.some.injEq]at e;subst e;exact q [x] (.one r)
theorem kr:BD K (bT n) (cBT n):=fun H0 H x d ds Q s r e q=>by
 cases d<;>simp only[bT]at e<;>first |cases e |skip
 rename_i es;split at e
 . rename_i hl;cases e;simp only[RD]at r;obtain⟨a,xs,rfl,ha,rs⟩:=r;unfold cBT;simp only[s a _ ha];exact⟨by rw[<-rs.length];exact hl,q xs rs⟩
 . cases e
noncomputable def sel(ix:List Nat)(ρ:DE):DE:=ix.map fun j=>(ρ[j]?).getD none
def G0(bn:D->Option (List D))(t:DE->R Bool)(f:DE->R D)(cs:DE):List D->R (List D)
 | []=>.ok []
 |d::ds=>(R.of (bn d)).bind fun bs=>(t (bs.map some++cs)).noE.bind fun b=>if b=true then(f (bs.map some++cs)).noE.bind fun y=>(G0 bn t f cs ds).bind fun ys=>.ok (y::ys) else G0 bn t f cs ds
def p9(fi:DE->R (List D))(bn:D->Option (List D))(ix:List Nat)(t:DE->R Bool)(f:DE->R D):DE->R D:=fun ρ=>(fi ρ).bind fun ds=>if ds.length<=100000 then(G0 bn t f (sel ix ρ) ds).bind fun ys=>.ok (.lst ys) else .st
theorem RE.sel{ρ:DE}{vs:List V}{ds:List D}(h:RE K H0 ρ U)(r:RDs K H0 ds vs)(ix:List Nat):RE K H0 (ds.map some++sel ix ρ) (vs.map some++L7 ix U):=by
 have hl:=r.length;refine⟨by simp[L2.sel,L7,hl],fun i d e=>?_⟩;by_cases hi:i<ds.length
 . rw[BH (by simpa using hi),AO]at e;rw[BH (by simpa [<-hl] using hi),AO];cases q:ds[i]? with
   |none=>rw[q]at e;cases e
   |some d'=>
    rw[q]at e;cases e
    obtain⟨x,h1,h2⟩:=r.get' q
    exact⟨x,by rw[h1];rfl,h2⟩
 . rw[AV (by simpa using hi)]at e;rw[AV (by simpa [<-hl] using hi)];simp only[gV]at e⊢;rw[<-hl];unfold L2.sel at e;unfold L7;rw[AO]at e⊢;cases q:ix[i - ds.length]? with
   |none=>rw[q]at e;cases e
   |some j=>
    rw[q]at e
    simp only[uZ,Option.some.injEq]at e⊢
    cases qj:ρ[j]? with
    |none=>rw[qj]at e;cases e
    |some o=>
     rw[qj]at e
     simp only[Option.getD_some]at e
     subst e
     obtain⟨v,h1,h2⟩:=h.2 j d qj
     exact⟨v,by rw[h1];rfl,h2⟩
theorem Xl(h:n<100000):n<sizeLine:=AD h (by decide)
theorem wT(hW:Same W.hb EX.hb)(hB:BD K bn B)(iZ:∀U H Q,TTd K F0 t U H Q->tt U H Q)
  (h:TEd K EX true (p9 fi bn ix t f) U H Q):Q5 (TId K EX kp fi) B ix tt (TEd K W false f) U H Q:=by
 obtain⟨sx,ρ,H0,s,e,h⟩:=h
 unfold p9 at h
 rw[Rk.bind]at h
 refine⟨sx,ρ,H0,s,e,h.mono fun ds h J H1 aq s1 e1 it D hD=>?_⟩
 split at h
 . rename_i bV;rw[Rk.bind]at h;have eO:Aq K J aq ds:=by
    cases kp with
    |true=>rw[ζ rfl]at it;exact⟨fun i d q H H1 a b=>it.1 i d q H H1 (fun _ _ z=>nomatch z) b,fun H a=>it.2 H fun _ _ z=>nomatch z⟩
    |false=>rw[ξ θ]at it;exact it
   have e':=e.mono e1.1;have pY:aq D=none:=e1.2.1.none hD;refine⟨fun i mm ys H2=>mm=ds.length - i/\i<=ds.length/\ys.length<=i/\∃acc bq,Same H1 H2/\H2 D=some (.lst ys)/\Ext aq H1 bq H2/\bq D=none/\RDs K bq acc ys /\
    Rk EX.at (G0 bn t f (L2.sel ix ρ) (ds.drop i)) fun rest=>∀v H',Out K true H0 H (.lst (acc++rest)) v H'->Q v H',⟨ds.length,by simp,BU _,η _,[],aq,Same.upd_new hD,w8,(Ext.refl e1.2.1).grow (Same.upd_new hD),pY,.nil,h⟩,?_⟩
   rintro i mm ys H2 ⟨rfl,hi,fu,acc,bq,s2,eQ,e2,iu,r2,h⟩;refine⟨eQ,?_⟩;by_cases aH:i<ds.length
   . have hd:ds[i]?=some ds[i]:=by simp[aH]
     obtain⟨iX,hy⟩:=eO.1 i _ hd H2 bq e2.1 e2.2.1;have iY:ds.drop i=ds[i]::ds.drop (i+1):=EK aH;rw[iY]at h;unfold G0 at h;rw[Rk.bind]at h;obtain⟨bs,gh,h⟩:=h.of;rw[Rk.bind]at h;refine .inr ⟨iX,fun x H3 y=>?_⟩;obtain⟨s3,dC,e3,r3⟩:=hy x H3 y;refine hB dC H3 x _ bs _ e3.2.1 r3 gh fun vs pZ=>?_
     have en:=(e'.mono (e2.1.trans e3.1)).sel pZ ix;have rg:=e2.trans s2 e3;refine iZ _ _ _ ⟨F0.same _,_,dC,e3.2.1,en,(Rk.noE h).mono fun b h H4 s4=>?_⟩;have gT:=s2.trans (s3.trans s4);have la:H4 D=some (.lst ys):=s4 _ _ (s3 _ _ eQ);have iv:dC D=none:=e3.no s3 eQ (fun z=>z) iu;have lb:Ext aq H1 dC H4:=rg.grow s4;cases b with
     |false=>
      rw[ξ θ]at h
      dsimp only
      rw[ξ θ]
      exact⟨ds.length - (i+1),by lia,rfl,aH,by lia,acc,dC,gT,la,lb,iv,r2.mono e3.1,h⟩
     |true=>
      rw[ζ rfl]at h
      dsimp only
      rw[ζ rfl]
      rw[Rk.bind]at h
      refine⟨hW.trans (sx.trans (s1.trans gT)),_,dC,lb.2.1,en,(Rk.noE h).mono fun y h w H5 o5=>?_⟩
      obtain⟨s5,nk,e5,r5⟩:=o5.rd
      have rh:H5 D=some (.lst ys):=s5 _ _ la
      have iw:nk D=none:=e5.no s5 la (fun z=>z) iv
      have lc:=lb.trans gT e5
      rw[Rk.bind]at h
      refine⟨rh,Xl (by lia),ds.length - (i+1),by lia,rfl,aH,by rw[AY];show ys.length+1<=i+1;lia,acc++[y],nk,(gT.trans s5).upd_at hD,w8,⟨lc.1,lc.2.1.upd_at iw,lc.2.2⟩,iw,((r2.mono (e3.1.trans e5.1))).append (.one r5),?_⟩
      exact h.mono fun rest h v H' o=>h v H' (by simpa using o)
   . have ei:i=ds.length:=by lia
     subst ei;rw[List.drop_length]at h;refine .inl ⟨eO.2 H2 (e2.1.trans e2.2.1),h _ H2 ?_⟩;rw[BJ];refine Out.after s1 e1 (.fresh s2 e2 hD iu ?_);simp only[OB];exact⟨ys,eQ,r2⟩
 . exact h.elim
theorem Ew(hB:BD K bn B)(iZ:∀U H Q,TTd K F0 t U H Q->tt U H Q)
 (h:TEd K EX true (p9 fi bn ix t f) U H Q):Q5 (TId K EX kp fi) B ix tt (TEd K F0 false f) U H Q:=wT (F0.same _) hB iZ h
noncomputable def mOf(fr:Bool)(n k:Nat)(g:DS->SR):List D->R D:=fun ds=>if ds.length=n then(match g (ds.map .im++List.replicate k .em) with
 | .rt d=>.ok d
 | .nx _=>if fr=true then .st else .ok .non
 | .er x=>.er x
 |_=>.st) else .st
def XFs(K:Frag)(x:Ex)(od:Option Addr)(H:Hp):Prop:=x.fs=[]\/∃(dx:Addr)(vs:List V)(ob:Obj),od=some dx/\H dx=some (.frz ob (.xd ((t6 x.cls).zip vs)))/\(k9 x.fs=true/\pls x.fs=true)/\RDs K H x.fs vs
def xNm(K:Frag)(mg:Str->Option Value)(E:XK)(x:Ex)(H:Hp):Prop:=∃C,mg (x.cls:Str)=some (.ref C)/\∀od,XFs K x od H->E (.ref C) od H
def spD(K:Frag)(mg:Str->Option Value)(fr:Bool)(m:List D->R D)(n:Nat):Sp:=fun vs H Q E=>∃ds H0,Same H0 H/\RDs K H0 ds vs/\ds.length=n/\Rk (XW.at ⟨H,xNm K mg E⟩) (m ds) fun d=>∀v H',Out K fr H0 H d v H'->Q v H'
noncomputable def Kl(sp:Sp)(E:XK)(t:TA):TE:=fun U H Q=>t U H fun vs H1=>sp vs H1 Q E
theorem qW{mg:Str->Option Value}{E:XK}{m:List D->R D}{n:Nat}{fs:DE->R (List D)}{Q:VK}(hl:∀ds,ds.length≠n->m ds=.st)(hE:∀x H,EX.p x H->xNm K mg E x H)(h:TEd K EX fr (e9 m fs) U H Q):Kl (spD K mg fr m n) E (TAd K EX fs) U H Q:=by
 obtain⟨sx,ρ,H0,s,e,h⟩:=h;unfold e9 at h;rw[Rk.bind]at h;refine TAd.go sx s e h fun ds h vs H1 aq s1 e1 r1=>?_
 refine⟨ds,aq,e1.2.1,r1,?_,?_⟩
 . apply CF;intro hn;rw[hl ds hn]at h;exact h
 . cases q:m ds with
   |ok d=>rw[q]at h;exact fun v H' o=>h v H' (o.after s1 e1)
   |er x=>rw[q]at h;exact fun H' s'=>hE x H' (h H' ((sx.trans s1).trans s'))
   |st=>rw[q]at h;exact h
theorem Lf(ds:List D)(h:ds.length≠n):mOf fr n k g ds=.st:=by unfold mOf;rw[ξ h]
theorem yE(s:Same H0 H)(r:RDs K H0 ds vs)(k:Nat):RS K H0 H H0 (ds.map .im++List.replicate k .em) (vs.map some++List.replicate k none) H:=by
 have hl:=r.length;have iy:∀(i:Nat) d,(ds.map Sl.im++List.replicate k Sl.em)[i]?≠some (.ow d):=fun i d q=>by
  rcases AN.mp (BV q) with z |z
  . obtain⟨_,_,z⟩:=AC.mp z;cases z
  . have:=(List.mem_replicate.mp z).2;cases this
 refine⟨Same.refl _,.refl s,by simp[hl],fun i d q=>?_,fun i d q=>absurd q (iy i d),fun i j d e a q=>absurd q (iy i d)⟩;by_cases hi:i<ds.length
 . rw[BH (by simpa using hi),AO]at q;rw[BH (by simpa [<-hl] using hi),AO];cases qd:ds[i]? with
   |none=>rw[qd]at q;cases q
   |some d'=>
    rw[qd]at q
    simp only[uZ,Option.some.injEq,Sl.im.injEq]at q
    subst q
    obtain⟨x,h1,h2⟩:=r.get' qd
    exact⟨x,by rw[h1];rfl,h2⟩
 . rw[AV (by simpa using hi)]at q;have:=(List.mem_replicate.mp (BV q)).2;cases this
theorem Td(h:spD K mg fr (mOf fr n k g) n vs H Q E) :
  TSd K ⟨H,xNm K mg E⟩ fr g { nx:=fun _ H'=>Q .non H',rt:=Q } (vs.map some++List.replicate k none) H:=by
 obtain⟨ds,H0,s,r,hn,h⟩:=h
 refine⟨H0,H,H0,_,Same.refl _,yE s r k,?_⟩
 unfold mOf at h
 rw[ζ hn]at h
 cases q:g (ds.map .im++List.replicate k .em) with
 |nx ρ=>
  rw[q]at h
  cases fr with
  |true=>exact h.elim
  |false=>exact fun U H' ac I=>h _ H' (.val I.sb I.ext (by simp only[RD]))
 |rt d=>rw[q]at h;exact h
 |er x=>rw[q]at h;exact h
 |bk ρ=>rw[q]at h;exact h.elim
 |ct ρ=>rw[q]at h;exact h.elim
 |st=>rw[q]at h;exact h.elim
end
structure Flt{α:Type}(t:Sem α):Prop where
 go:∀{M:Model}{Γ:PySem.Ctx}{Q Q':α->Pos->Shared->Prop}{E E':Value->Pos->Shared->Prop}{p:Pos}{s:Shared},
 t.wp M Γ Q E p s->t.wp M Γ Q' E' p s->t.wp M Γ (fun a p s=>Q a p s/\Q' a p s) (fun a p s=>E a p s/\E' a p s) p s
theorem Flt.bind(h:Flt t)(k:∀a,Flt (f a)):Flt (t >>= f):=by refine⟨fun x y=>?_⟩;rw[Sem.wp_bind']at x y⊢;exact Sem.wp_mono _ _ _ (fun a _ _ z=>(k a).go z.1 z.2) (fun _ _ _ z=>z) _ _ (h.go x y)
theorem Flt.pure(a:α):Flt (Pure.pure a:Sem α):=⟨fun x y=>⟨x,y⟩⟩
theorem Flt.uns(w:String):Flt (unsupported w:Sem α):=⟨fun x _=>x.elim⟩
theorem Flt.stack:Flt PySem.stack:=⟨fun x y=>⟨x,y⟩⟩
theorem Flt.alloc(o:Obj):Flt (PySem.alloc o):=⟨fun x y=>⟨x,y⟩⟩
theorem Flt.update(a:Addr)(f:Obj->Obj):Flt (PySem.update a f):=⟨fun x y=>⟨x.1,x.2,y.2⟩⟩
theorem Flt.load(a:Addr):Flt (PySem.load a):=⟨fun⟨o,e,x⟩ ⟨o',e',y⟩=>by rw[e]at e';cases e';exact⟨o,e,x,y⟩⟩
theorem Flt.cells(v:Value):Flt (fieldsOf v):=by cases v<;>first |exact .uns _ |exact .bind (.load _) fun o=>by split<;>first |exact .pure _ |exact .uns _
theorem Flt.field(v:Value)(i:Nat):Flt (PySem.field v i):=.bind (.cells v) fun vs=>by split<;>first |exact .pure _ |exact .uns _
theorem Flt.put(v:Value)(i:Nat)(x:Value):Flt (setField v i x):=by cases v<;>first |exact .uns _ |exact .bind (.load _) fun o=>by split<;>first |exact .uns _ | (split<;>first |exact .update _ _ |exact .uns _)
theorem Flt.flight(e:Value)(f:Option Addr):Flt (setFlight e f):=.bind (.field e 1) fun tb=>by split<;>first |exact .put _ _ _ |exact .pure _
theorem Flt.ready:∀l:List Env,Flt (readyFrames l)
 | []=>.pure _
 |env::outer=>by
  unfold readyFrames;split<;>first |exact .uns _ |skip
  refine .bind (.load _) fun o=>?_
  split<;>first |exact .pure _ |skip
  refine .bind ?_ fun b=>.bind ?_ fun v=>.bind (.update _ _) fun _=>Flt.ready outer
  . unfold behindIsImport;split<;>first |exact .pure _ |skip
    split<;>first |exact .pure _ |exact .bind (.field _ _) fun _=>.pure _
  . unfold keptBack;split<;>first |exact .pure _ |skip
    split<;>first |exact .pure _ |exact .bind (.bind .stack fun _=>.pure _) fun _=>.pure _
theorem Flt.frame(env:Env):Flt (frameOf env):=.bind (.bind .stack fun _=>.pure _) fun es=>.bind (by
 unfold frameObject;split
 . exact .pure _
 . exact .bind (.ready _) fun _=>.pure _) fun f=>by split<;>first |exact .pure _ |exact .uns _
theorem Flt.fields(vs:List Value):Flt (newFields "traceback" vs):=by
 have h:Flt (newObjAsIs (.type "traceback") (.fields vs.toArray)):=.bind (.alloc _) fun a=>.pure _
 unfold newFields newObj;dsimp only;split
 . exact .bind (.uns _) fun _=>h
 . exact h
theorem Flt.entry(env:Env)(e head:Value)(L:Addr)(b:Bool):Flt (do let a <-frameOf env;let pl <-entryPlaceOf L b;let b <-EntryCells.newEntry head a .none (rawInt L) .none pl;setField e 1 b):=
 .bind (.frame env) fun _=>.bind (.bind .stack fun uj=>by split<;>exact .pure _) fun _=>.bind (.fields _) fun _=>.put _ _ _
theorem Flt.note(e:Value)(env:Env):Flt (noteFrame e env):=by
 unfold noteFrame;split<;>first |exact .uns _ |skip
 refine .bind (.field _ _) fun head=>?_
 split
 . refine .bind (.field _ _) fun x=>?_
   split
   . exact .pure _
   . exact .bind (.put _ _ _) fun _=>.entry _ _ _ _ _
 . exact .entry _ _ _ _ _
theorem Ga(f:Flt t)(h:wpAny M A t Q E s)(k:wpAny M A t Q' E' s):wpAny M A t (fun a s=>Q a s/\Q' a s) (fun a s=>E a s/\E' a s) s:=
 fun Γ p nu=>f.go (h Γ p nu) (k Γ p nu)
section
variable {M:Model}{A:Around}{E:Value->Shared->Prop}{s:Shared}{base:Heap}{env:Env}{outer:List Env}{L e:Addr}{cls a0 fl:Value}{od:Option Addr}
def x9(e:Addr)(od:Option Addr)(h:Heap):Prop:=∀o,h.get? e=some o->o.dict=od
theorem yD(o:Obj)(f:Array Value->Array Value):(Obj.mapFields f o).dict=o.dict:=by unfold Obj.mapFields;split<;>rfl
theorem Ma(d:x9 e od h)(hb:∃o,h.get? b=some o/\∃vs,o.data=.fields vs):x9 e od (h.update b (Obj.mapFields f)):=by
 intro o ho;by_cases q:b=e
 . subst q;obtain⟨ob,h1,vs,h2⟩:=hb;rw[Heap.get?_update_self _ h1 (Obj.isFreed_of_fields (Obj.data_mapFields h2 f))]at ho;cases ho;rw[yD];exact d _ h1
 . rw[BI _ _ q]at ho;exact d o ho
theorem Vn(T:Addr):(Value.ref T != Value.none)=true:=by simp
theorem qV(L:Addr):(Value.none==rawInt L)=false:=by simp[rawInt]
theorem Zo(ht:s.heap.TracedAtW base e cls a0 fl)(d:x9 e od s.heap):wpAny M A (setFlight (.ref e) none) (fun _ s'=>x9 e od s'.heap) E s:=by obtain⟨oe,vs,T,oT,ts,he,-,hd,h1,-,-,hT,cg,h3⟩:=ht;have lf:=(DC.mp h3).1;unfold setFlight;exact χ (wpAny_field he hd h1 (by rw[ζ (Vn T)];exact wpAny_setField hT cg lf (Ma d ⟨_,hT,_,cg⟩)))
theorem Yt(bJ:A.frames=some (env::outer))(hl:s.heap.FunFrames base (env::outer))(hf:env.frame=some L)(he:s.heap.get? e=some oe)(hd:oe.data=.fields vs)(bV:1<vs.size)(d:x9 e od s.heap) :
  wpAny M A (do let a <-frameOf env;let pl <-entryPlaceOf L lN;let b <-EntryCells.newEntry head a .none (rawInt L) .none pl;setField (.ref e) 1 b) (fun _ s'=>x9 e od s'.heap) E s:=by
 have nf:e∉(env::outer).filterMap (·.frame):=fun hm=>by obtain⟨_,o,ho,ri⟩:=hl.mem hm;rw[he]at ho;cases ho;exact ri vs hd
 refine χ (wpAny_frameOf_fun bJ hl hf fun h1 hs=>χ (wpAny_entryPlaceOf fun pl hpl=>?_))
 unfold EntryCells.newEntry newFields
 refine χ (wpAny_newObj_type ?_ (hpl.sizeOk5 _ _ _ _ _))
 have rj:h1.get? e=some oe:=(hs.2.1 e nf).trans he
 have lh:=ω (h:=h1) { cls:=.type "traceback",dict:=none,data:=.fields ([head,.ref L,.none,rawInt L,.none]++(if pl.isEmpty then List.replicate 6 Value.none else pl)).toArray } rj
 refine wpAny_setField lh hd bV (Ma (fun o ho=>?_) ⟨_,lh,_,hd⟩)
 rw[lh]at ho;cases ho
 exact d _ he
theorem zv(bJ:A.frames=some (env::outer))(hl:s.heap.FunFrames base (env::outer))(hf:env.frame=some L)(ht:s.heap.TracedW base e cls a0)(d:x9 e od s.heap) :
  wpAny M A (noteFrame (.ref e) env) (fun _ s'=>x9 e od s'.heap) E s:=by
 obtain⟨oe,vs,T,oT,ts,he,-,hd,h1,-,eR,hT,cg,h3⟩:=ht
 have in1:=(DC.mp h1).1
 have lf:=(DC.mp h3).1
 have nv:∀b,T≠b->(s.heap.update T (Obj.mapFields (·.setIfInBounds 3 Value.none))).get? b=s.heap.get? b:=fun b hb=>BI _ _ hb
 have fr:(s.heap.update T (Obj.mapFields (·.setIfInBounds 3 Value.none))).FunFrames base (env::outer):=hl.of_keeps fun b o hb nf=>⟨o,(nv b fun z=>by rw[<-z,hT]at hb;cases hb;exact nf ts cg).trans hb,rfl⟩
 unfold noteFrame
 simp only[hf]
 exact χ (wpAny_field he hd h1 (by rw[ζ (Vn T)];exact χ (wpAny_field hT cg h3 (by rw[ξ (by rw[qV];exact θ)];exact χ (wpAny_setField hT cg lf (Yt bJ fr hf ((nv e eR).trans he) hd in1 (Ma d ⟨_,hT,_,cg⟩)))))))
end
section
variable {M:Model}{A:Around}{E:Value->Shared->Prop}{s:Shared}{base:Heap}{env:Env}{outer:List Env}{L e:Addr}{cls a0:Value}{od:Option Addr}{Q:Unit->Shared->Prop}
theorem Le(hh:Heap.HeldW base (env::outer) e cls a0 L s.heap)(d:x9 e od s.heap)(hQ:∀h',Heap.FlyingW base (env::outer) e cls a0 h'->s.heap.UpToSlots h'->x9 e od h'->Q () { s with heap:=h' }):wpAny M A (setFlight (.ref e) none) Q E s:=
 AJ (Ga (E:=E) (E':=E) (.flight _ _) (wpAny_landsW hh (Q:=fun _ s'=>∃h',s'={ s with heap:=h' }/\Heap.FlyingW base (env::outer) e cls a0 h'/\s.heap.UpToSlots h') fun h' f u=>⟨h',rfl,f,u⟩) (Zo hh.2.2.2 d))
  (fun _ s' ⟨⟨h',e1,f,u⟩,d'⟩=>by subst e1;exact hQ h' f u d') fun _ _ z=>z.1
theorem Vm(bJ:A.frames=some (env::outer))(hf:env.frame=some L)(bP:Heap.FlyingW base (env::outer) e cls a0 s.heap)(d:x9 e od s.heap)
  (hQ:∀h',Heap.HeldW base (env::outer) e cls a0 L h'->s.heap.UpToSlots h'->x9 e od h'->Q () { s with heap:=h' }):wpAny M A (noteFrame (.ref e) env) Q E s:=
 AJ (Ga (E:=E) (E':=E) (.note _ _) (wpAny_looks_onW bJ hf bP (Q:=fun _ s'=>∃h',s'={ s with heap:=h' }/\Heap.HeldW base (env::outer) e cls a0 L h'/\s.heap.UpToSlots h') fun h' f u=>⟨h',rfl,f,u⟩) (zv bJ bP.2.2.1 hf bP.2.2.2 d))
  (fun _ s' ⟨⟨h',e1,f,u⟩,d'⟩=>by subst e1;exact hQ h' f u d') fun _ _ z=>z.1
theorem yC(bJ:A.frames=some (env::outer))(hf:env.frame=some L)(bP:Heap.FlyingW base (env::outer) e cls a0 s.heap)(d:x9 e od s.heap)
  (hQ:∀h',Heap.FlyingW base outer e cls a0 h'->s.heap.UpToSlots h'->x9 e od h'->Q () { s with heap:=h' }):wpAny M A (leaving env (.ref e)) Q E s:=by
 unfold leaving
 refine χ (Vm bJ hf bP d fun h1 hh u1 d1=>Le (s:={ s with heap:=h1 }) hh d1 fun h2 f u2 d2=>hQ h2 ?_ (u1.trans u2) d2)
 obtain⟨k1,k2,⟨_,_,k3⟩,k4⟩:=f
 exact⟨k1,k2,k3,k4⟩
theorem wS(bJ:A.frames=some (env::outer))(hl:s.heap.FunFrames base (env::outer))(hf:env.frame=some L)(he:s.heap.get? e=some oe)(rn:base.StaysIn s.heap)(ny:base.get? e=none)(hd:oe.data=.fields vs)(h1:vs[1]?=some .none)(h0:vs[0]?=some a0)(d:x9 e od s.heap)
  (hQ:∀h',Heap.FlyingW base outer e oe.cls a0 h'->s.heap.UpToSlots h'->x9 e od h'->Q () { s with heap:=h' }):wpAny M A (leaving env (.ref e)) Q E s:=by
 have bV:=(DC.mp h1).1
 unfold leaving noteFrame
 simp only[hf]
 refine χ (χ (wpAny_field he hd h1 ?_))
 rw[ξ (by decide)]
 refine AJ (Ga (E:=E) (E':=E) (.entry _ _ _ _ _) (wpAny_entryW bJ hl hf he rn ny hd bV h0 (Q:=fun _ s'=>∃h',s'={ s with heap:=h' }/\Heap.NotedW base (env::outer) e oe.cls a0 (rawInt L) s.heap h') fun h' n=>⟨h',rfl,n⟩) (Yt bJ hl hf he hd bV d)) (fun _ s' z=>?_) fun _ _ z=>z.1
 obtain⟨⟨h',e1,n1,n2,n3,n4⟩,d1⟩:=z
 subst e1
 refine Le (s:={ s with heap:=h' }) ⟨n1,ny,n2,n3⟩ d1 fun h2 f u2 d2=>hQ h2 ?_ (Heap.UpToSlots.trans n4 u2) d2
 obtain⟨k1,k2,⟨_,_,k3⟩,k4⟩:=f
 exact⟨k1,k2,k3,k4⟩
end
theorem ObjOk.there(x:ObjOk P w H h a o):∃ob,h.get? a=some ob:=by
 induction o with
 |lst xs=>obtain⟨_,_,_,_,e⟩:=x;exact⟨_,e⟩
 |tup xs=>obtain⟨_,_,_,ob,e,_⟩:=x;exact⟨_,e⟩
 |dK kvs=>obtain⟨_,_,_,_,o,_,_,e,_⟩:=x;exact⟨_,e⟩
 |dT kvs=>obtain⟨_,_,_,_,o,_,_,e,_⟩:=x;exact⟨_,e⟩
 |set S n=>obtain⟨o,_,_,_,e,_⟩:=x;exact⟨_,e⟩
 |ins C dx fs=>obtain⟨_,_,_,e,_⟩:=x;exact⟨_,e⟩
 |own y=>exact x
 |xd fs=>obtain⟨_,⟨_,_,_,e,_⟩,_⟩:=x;exact⟨_,e⟩
 |rng lo hi=>obtain⟨_,_,_,e⟩:=x;exact⟨_,e⟩
 |frz ob u ih=>exact⟨_,x.1⟩
 |tbl ps=>exact⟨_,x⟩
 |ctb q=>obtain⟨_,e,_⟩:=x;exact⟨_,e⟩
 |met f y=>exact⟨_,x⟩
 |ext φ=>exact x.2.1
theorem HOk.none(x:HOk P w H h)(e:h.get? a=Option.none):H a=Option.none:=by
 cases q:H a with
 |none=>rfl
 |some o=>
  obtain⟨ob,z⟩:=(x a o q).there
  rw[e]at z;cases z
def Fly(h0:Heap)(H':Hp)(C a:Addr)(od:Option Addr)(h:Heap):Prop:=∃oe vs T oT ts a0,h.get? a=some oe/\oe.cls=.ref C/\vs[0]?=some a0/\oe.data=.fields vs/\vs[1]?=some (.ref T)/\T≠a/\h.get? T=some oT/\oT.data=.fields ts/\ts[3]?=some Value.none /\
 h0.get? a=none/\h0.get? T=none/\H' a=none/\H' T=none/\oe.dict=od/\∀dx,od=some dx->h0.get? dx=none
structure XOut(P:Program)(w:World)(outer:List Env)(H:Hp)(s:Shared)(C a:Addr)(od:Option Addr)(H':Hp)(s':Shared):Prop where
 os:s'.os=s.os
 bare:AllBare s'.gens
 un:Un (frs outer) [] H H' s.heap s'.heap
 hok:HOk P w H' s'.heap
 fly:Fly s.heap H' C a od s'.heap
noncomputable def CX1(P:Program)(w:World):CXT:=fun outer H s E e s'=>∃C a od H',e=.ref a/\XOut P w outer H s C a od H' s'/\E (.ref C) od H'
theorem Xk(e:(hideAll h l).get? b=none):b∈l\/h.get? b=none:=by
 by_cases hb:b∈l
 . exact .inl hb
 . cases q:h.get? b with
   |none=>exact .inr rfl
   |some o=>rw[hideAll_get l q hb]at e;cases e
section
variable {X:Cx}{pins:List (Addr×Obj)}{U:List (Option V)}{H1 H2:Hp}{s1 s2:Shared}{h' B:Heap}{Z:List Addr}{C a:Addr}{a0:Value}{od:Option Addr}
theorem Inv.stack2(I:Inv X pins U H1 s1)(un:Un (frs X.stack) [] H1 H2 s1.heap s2.heap):s2.heap.FunFrames X.base X.stack:=by
 have all:∀(l:List Env),(∀b∈frs l,b∈frs X.stack)->s1.heap.FunFrames X.base l->s2.heap.FunFrames X.base l:=by
  intro l;induction l with
  |nil=>intro _ _;trivial
  |cons env r ih=>
   intro hs hl
   obtain⟨hk,⟨L,o,hf,hn,ho,hd⟩,hr⟩:=hl
   have hL:L∈frs X.stack:=hs L (by unfold frs;rw[CA,hf];exact dg)
   obtain⟨sl,e⟩:=un.slot L o ho (I.stkFree L hL) hL (by simp)
   exact⟨hk,⟨L,_,hf,hn,e,hd⟩,ih (fun b hb=>hs b (by unfold frs;rw[CA,hf];exact bI _ hb)) hr⟩
 exact all X.stack (fun _ hb=>hb) I.stack
theorem Ys(I:Inv X pins U H1 s1)(aJ:X.stack=X.env::X.outer)(hex:X.ex=[])(eg:s2.os=s1.os)(eH:AllBare s2.gens)(un:Un (frs X.stack) [] H1 H2 s1.heap s2.heap)(hok:HOk X.prog X.w H2 s2.heap)
  (hZ:∀b∈Z,s1.heap.get? b=none/\H2 b=none) (ha:s1.heap.get? a=none) (eT:H2 a=none) (keep:∀b o,s2.heap.get? b=some o->b∉Z->b∉frs X.stack->h'.get? b=some o)
  (up:s2.heap.UpToSlots h') (hB:∀b,B.get? b=none->b∈frs X.stack\/(s1.heap.get? b=none/\H2 b=none)) (bP:Heap.FlyingW B X.outer a (.ref C) a0 h') (cK:x9 a od h') (gU:∀dx,od=some dx->s1.heap.get? dx=none) :
  XOut X.prog X.w X.outer X.H₀ X.s₀ C a od H2 { s2 with heap:=h' }:=by
 have base:Un X.fs [] X.H₀ H1 X.s₀.heap s1.heap:=hex ▸ I.base
 have F2:=I.stack2 un
 have sub:∀b∈frs X.outer,b∈frs X.stack:=fun b hb=>by
  rw[aJ];unfold frs;cases q:X.env.frame with
  |none=>rw[CA,q];exact hb
  |some L=>rw[CA,q];exact bI _ hb
 have ed:∀b o,X.s₀.heap.get? b=some o->b≠X.env.locals:=fun b o e=>AG (AD (τ e) I.ok.above)
 have iz:∀b o,X.s₀.heap.get? b=some o->b∉frs X.outer->b∉frs X.stack:=fun b o e hb z=>(gq.mp (I.stkSub b z)).elim (ed b o e) hb
 have cL:∀b,s1.heap.get? b=none->X.s₀.heap.get? b=none:=fun b e=>by
  cases q:X.s₀.heap.get? b with
  |none=>rfl
  |some o=>
   obtain⟨o',z⟩:=base.there b o q (by simp)
   rw[e]at z;cases z
 have nz:∀b o,X.s₀.heap.get? b=some o->b∉Z:=fun b o e hb=>by rw[cL b (hZ b hb).1]at e;cases e
 have dy:∀b∈frs X.stack,H2 b=none:=fun b hb=>by obtain⟨_,o,ho,_⟩:=I.stack.mem hb;exact un.free b o ho (I.stkFree b hb) (by simp)
 have cw:∀b∈frs X.stack,∀o,s2.heap.get? b=some o->∃sl,h'.get? b=some { o with slots:=sl }:=fun b hb o e=>by obtain⟨_,o',aW,hd⟩:=F2.mem hb;rw[e]at aW;cases aW;exact up b o e hd
 refine⟨by show s2.os=_;rw[eg,I.os],eH,⟨fun b o e n hb _=>?_,fun b o e n hb _=>?_,fun b o e n _=>?_,fun b o e _=>?_,fun b xs e=>un.tups b xs (base.tups b xs e),fun b o u e=>un.frzs b o u (base.frzs b o u e),fun b ps e=>?_⟩,fun b o e=>?_,?_⟩
 . exact keep b o (un.keep b o (base.keep b o e n hb (by simp)) (base.free b o e n (by simp)) (iz b o e hb) (by simp)) (nz b o e) (iz b o e hb)
 . obtain⟨sl,e1⟩:=base.slot b o e n hb (by simp);obtain⟨dD,e2⟩:=un.slot b _ e1 (base.free b o e n (by simp)) (sub b hb) (by simp);obtain⟨rp,e3⟩:=cw b (sub b hb) _ e2;exact⟨rp,e3⟩
 . obtain⟨o1,e1⟩:=base.there b o e (by simp);exact un.free b o1 e1 (base.free b o e n (by simp)) (by simp)
 . obtain⟨o1,e1⟩:=base.there b o e (by simp);obtain⟨o2,e2⟩:=un.there b o1 e1 (by simp);by_cases hb:b∈frs X.stack
   . obtain⟨sl,e3⟩:=cw b hb _ e2;exact⟨_,e3⟩
   . exact⟨o2,keep b o2 e2 (nz b o e) hb⟩
 . obtain⟨m1,e1⟩:=base.tbls b ps e;obtain⟨m2,e2⟩:=un.tbls b _ e1;exact⟨m1++m2,by rw[e2,Array.append_assoc]⟩
 . refine(hok b o e).stay (fun c v hc q=>keep c v q (fun hz=>?_) fun hf=>?_) (fun _ q=>q) fun _ _ q=>q
   . have:=(hZ c hz).2;rcases hc with rfl |hc
     . rw[e]at this;cases this
     . rw[hc]at this;cases this
   . have:=dy c hf;rcases hc with rfl |hc
     . rw[e]at this;cases this
     . rw[hc]at this;cases this
 . obtain⟨_,_,_,oe,vs,T,oT,ts,he,⟨hc,h0⟩,hd,h1,rq,eR,hT,cg,h3⟩:=bP;have nA:s1.heap.get? T=none/\H2 T=none:=by
    rcases hB T rq with z |z
    . obtain⟨_,o',aW,cG⟩:=F2.mem z;obtain⟨sl,e3⟩:=cw T z o' aW;rw[hT]at e3;cases e3;exact absurd cg (cG ts)
    . exact z
   exact⟨oe,vs,T,oT,ts,a0,he,hc,h0,hd,h1,eR,hT,cg,h3,cL a ha,cL T nA.1,eT,nA.2,cK _ he,fun dx e=>cL dx (gU dx e)⟩
theorem yB(I:Inv X pins U H1 s1)(aJ:X.stack=X.env::X.outer)(hex:X.ex=[])(hf:X.env.frame=some X.env.locals)(x:XOut X.prog X.w X.stack H1 s1 C a od H2 s2)
  (h:∀s',XOut X.prog X.w X.outer X.H₀ X.s₀ C a od H2 s'->Q () s'):wpAny (model X.prog X.w) X.A (leaving X.env (.ref a)) Q E s2:=by
 obtain⟨oe,vs,T,oT,ts,a0,he,hc,h0,hd,h1,eR,hT,cg,h3,na,nT,ha,gW,gi,gU⟩:=id x.fly
 have F2:=I.stack2 x.un
 have dE:∀env∈X.stack,∀b,env.frame=some b->b∈a::T::frs X.stack:=fun env he b hb=>bI _ (bI _ (CD.mpr ⟨env,he,hb⟩))
 have bJ:X.A.frames=some (X.env::X.outer):=by rw[<-aJ];exact I.ok.frames
 refine yC (od:=od) (base:=hideAll s2.heap (a::T::frs X.stack)) (cls:=.ref C) (a0:=a0) bJ hf ⟨fun b o q=>of_hideAll _ q,hideAll_none _ (.head _),aJ ▸ PySem.W.funFrames_hide F2 dE,?_⟩ (fun o ho=>by rw[he]at ho;cases ho;exact gi) fun h' bP up cK=>h _ (Ys (Z:=[a,T]) I aJ hex x.os x.bare x.un x.hok (fun b hb=>?_) na ha (fun b o q hz cW=>bP.1 b o (hideAll_get _ q ?_)) up (fun b q=>?_) bP cK gU)
 . exact⟨oe,vs,T,oT,ts,he,⟨hc,h0⟩,hd,h1,hideAll_none _ (.tail _ (.head _)),eR,hT,cg,h3⟩
 . rcases gq.mp hb with rfl |hb
   . exact⟨na,ha⟩
   . have:b=T:=by simpa using hb
     subst this;exact⟨nT,gW⟩
 . intro z;rcases gq.mp z with rfl |z
   . exact hz (.head _)
   . rcases gq.mp z with rfl |z
     . exact hz (.tail _ (.head _))
     . exact cW z
 . rcases Xk q with z |z
   . rcases gq.mp z with rfl |z
     . exact .inr ⟨na,ha⟩
     . rcases gq.mp z with rfl |z
       . exact .inr ⟨nT,gW⟩
       . exact .inl z
   . refine .inr ⟨?_,x.hok.none z⟩;cases q1:s1.heap.get? b with
     |none=>rfl
     |some o=>
      obtain⟨o',e'⟩:=x.un.there b o q1 (by simp)
      rw[z]at e';cases e'
structure MadeX(h h':Heap)(e C:Addr)(od:Option Addr):Prop where
 new:h.get? e=none
 newd:∀dx,od=some dx->h.get? dx=none
 there:∃oe vs a0,h'.get? e=some oe/\oe.cls=.ref C/\oe.dict=od/\oe.data=.fields vs/\vs[0]?=some a0/\vs[1]?=some .none
theorem MadeX.of(x:Heap.MadeExcOf h h' e (.ref C) args):MadeX h h' e C none:=by obtain⟨t,he,_,_⟩:=x.there;exact⟨x.new,(fun _ z=>nomatch z),_,_,_,he,rfl,rfl,rfl,rfl,rfl⟩
theorem zj2(I:Inv X pins U H1 s1)(aJ:X.stack=X.env::X.outer)(hex:X.ex=[])(hf:X.env.frame=some X.env.locals)(hx:MadeX s1.heap s2.heap a C od)(hok:HOk X.prog X.w H2 s2.heap)(un:Un (frs X.stack) [] H1 H2 s1.heap s2.heap)(eT:H2 a=none)(eg:s2.os=s1.os)(eH:AllBare s2.gens)
  (h:∀s',XOut X.prog X.w X.outer X.H₀ X.s₀ C a od H2 s'->Q () s'):wpAny (model X.prog X.w) X.A (leaving X.env (.ref a)) Q E s2:=by
 have dE:∀env∈X.stack,∀b,env.frame=some b->b∈a::frs X.stack:=fun env he b hb=>bI _ (CD.mpr ⟨env,he,hb⟩)
 have bJ:X.A.frames=some (X.env::X.outer):=by rw[<-aJ];exact I.ok.frames
 have F2:=I.stack2 un
 obtain⟨oe,vs,a0,he,hc,gi,hd,h0,h1⟩:=hx.there
 refine wS (od:=od) (base:=hideAll s2.heap (a::frs X.stack)) bJ (aJ ▸ PySem.W.funFrames_hide F2 dE) hf he (fun b o q=>of_hideAll _ q) (hideAll_none _ (.head _)) hd h1 h0 (fun o ho=>by rw[he]at ho;cases ho;exact gi) fun h' bP up cK=>h _ ?_
 rw[hc]at bP
 refine Ys (B:=hideAll s2.heap (a::frs X.stack)) (Z:=[a]) I aJ hex eg eH un hok (fun b hb=>?_) hx.new eT (fun b o q hz cW=>bP.1 b o (hideAll_get _ q ?_)) up (fun b q=>?_) bP cK hx.newd
 . obtain rfl:b=a:=by simpa using hb
   exact⟨hx.new,eT⟩
 . intro z;rcases gq.mp z with rfl |z
   . exact hz (.head _)
   . exact cW z
 . rcases Xk q with z |z
   . rcases gq.mp z with rfl |z
     . exact .inr ⟨hx.new,eT⟩
     . exact .inl z
   . refine .inr ⟨?_,hok.none z⟩;cases q1:s1.heap.get? b with
     |none=>rfl
     |some o=>
      obtain⟨o',e'⟩:=un.there b o q1 (by simp)
      rw[z]at e';cases e'
end
def eOf(K:Frag)(EX:XW)(mg:Str->Option Value):XK:=fun cv od H=>∃x:Ex,EX.p x H/\mg (x.cls:Str)=some cv/\XFs K x od H
structure Lnd(X:Cx)(EX:XW):Prop where
 nm:∀x H,EX.p x H->∃C,X.mg (x.cls:Str)=some (.ref C)
 on:R1 (CX1 X.prog X.w) X (eOf X.K EX X.mg)
 md:∀(pins:List (Addr×Obj))(U:St)(H H2:Hp)(s:Shared)(a C:Addr)(od:Option Addr)(s':Shared)(x:Ex),Inv X pins U H s->MadeX s.heap s'.heap a C od->HOk X.prog X.w H2 s'.heap->Un (frs X.stack) [] H H2 s.heap s'.heap->H2 a=none->s'.os=s.os->AllBare s'.gens->X.mg (x.cls:Str)=some (.ref C)->EX.p x H2->XFs X.K x od H2->X.xe (.ref a) s'
theorem S8:Lnd X F0:=⟨fun _ _ z=>z.elim,fun _ _ _ _ _ _ _ ⟨_,_,_,_,_,_,_,z,_⟩=>z.elim,fun _ _ _ _ _ _ _ _ _ _ _ _ _ _ _ _ _ _ z _=>z.elim⟩
theorem i3{P:Program}{w:World}{K:Frag}{mg:Str->Option Value}{base:Heap}{N:List Str}{qual:Str}{sc:Scope}{f:Addr}{cdv:Value}{A:Around}{outer:List Env}{s:Shared}{H:Hp}{E:XK} :
  Lnd (J5 (CX1 P w) P w K mg base N qual sc f cdv A outer s H E) ⟨H,xNm K mg E⟩:=by
 refine⟨fun x H ⟨C,hC,_⟩=>⟨C,hC⟩,?_,?_⟩
 . rintro pins U H1 s1 e s' I ⟨C,a,od,H',rfl,xo,x,⟨C',gX,hE⟩,bZ,hx⟩;have bZ:mg (x.cls:Str)=some (.ref C):=bZ;rw[gX]at bZ;cases bZ;exact yB I rfl rfl rfl xo fun eK y=>⟨_,a,od,H',rfl,y,hE od hx⟩
 . rintro pins U H1 H2 s1 a C od s' x I hx hok un eT ho hb bZ ⟨C',gX,hE⟩ hf;have bZ:mg (x.cls:Str)=some (.ref C):=bZ;rw[gX]at bZ;cases bZ;exact zj2 I rfl rfl rfl hx hok un eT ho hb fun eK y=>⟨_,a,od,H2,rfl,y,hE od hf⟩
def k6(P:Program)(w:World)(K:Frag)(mg:Str->Option Value)(base:Heap)(x:Str)(ps:List Str)(k:Nat)(sp:Sp):Prop:=
 ∃f fd,FnOk P w K mg base (CX1 P w) k f fd ps sp/\Binds K fd ps []/\mg x=some (.ref f)/\keepIn K (.ref f)=true
section
variable {X:Cx}{x:Str}{p pos:Pos}{e:Expr}{es:List Expr}{t:TA}{ps:List Str}{k j:Nat}{sp:Sp}{E:XK}
theorem wR(G:k6 X.prog X.w X.K X.mg X.base x ps k sp)(hx:R1 (CX1 X.prog X.w) X E)(hr:Room j X.A)(hg:Gl X x)(ha:PA X (e::es) t)(dF:k<=j:=by omega)(az:(x==("__debug__":Str))=false:=by decide)
  (he:starEach (e::es) X.env=(false,eval e X.env)::starEach es X.env:=by rfl) (hpl:(backTo pos (starEach es X.env)).any (·.1)=false:=by rfl):PE X (.Call (.Name x p) (e::es) [] pos) (Kl sp E t):=by
 obtain⟨f,fd,F,b,m,kp⟩:=G
 refine(xB F (hr.mono dF) hg m kp b .nil hx ha az he hpl).imp fun U H Q q=>?_
 unfold Rm
 unfold Kl at q
 simpa only [BJ] using q
end
theorem Fun.okX{P:Program}{w:World}{K:Frag}{mg:Str->Option Value}{base:Heap}{x qual:Str}{st:Stmt}{f:Addr}{fd:FuncData}{N ps:List Str}{k:Nat}{sp:Sp}{CX:CXT}(F:Fun K x qual st f fd)(S:FnScope N ps (i7 st))(len:∀vs H Q E,sp vs H Q E->vs.length=ps.length)
  (bo:∀(cdv:Value)(A:Around)(outer:List Env)(s:Shared)(H:Hp)(vs:List V)(Q:VK)(E:XK),Room k (A.deeper (envOfC qual (i7 st) s.heap.objs.size f cdv))->sp vs H Q E ->
   ∃t,PSs (J5 CX P w K mg base N qual (i7 st) f cdv A outer s H E) (t9 st) t/\t { nx:=fun _ H'=>Q .non H',rt:=Q } (E5 N vs) H):FnOk P w K mg base CX (k+1) f fd ps sp:=by
 obtain⟨oc,od,kV,doc,pm,an,cdv,ct,osl,rfl,lk,bp⟩:=F.ex
 refine Jj lk bp S len fun A outer s H vs Q E hr cJ=>?_
 exact bo cdv A outer s H vs Q E hr cJ
section
variable {K:Frag}{H:Hp}{v:V}
theorem RD.int(h:RD K H (.int i) v):v=.int i:=by simpa only [RD] using h
theorem RD.str(h:RD K H (.str i) v):v=.str i:=by simpa only [RD] using h
theorem RD.non(h:RD K H .non v):v=.non:=by simpa only [RD] using h
theorem RD.tup(h:RD K H (.tup ds) v):∃a xs,v=.ref a/\H a=some (.tup xs)/\RDs K H ds xs:=by simpa only [RD] using h
theorem RD.lst(h:RD K H (.lst ds) v):∃a xs,v=.ref a/\H a=some (.lst xs)/\RDs K H ds xs:=by simpa only [RD] using h
theorem RD.dk(h:RD K H (.dk ks ds) v):∃a xs,v=.ref a/\H a=some (.dK (ks.zip xs))/\ks.length=xs.length/\RDs K H ds xs:=by simpa only [RD] using h
theorem RD.dt(h:RD K H (.dt ks ds) v):∃a xs,v=.ref a/\H a=some (.dT (ks.zip xs))/\ks.length=xs.length/\RDs K H ds xs:=by simpa only [RD] using h
theorem RD.scr(h:RD K H (.scr ns) v):∃a,v=.ref a/\SqL K H a (ns.map V.int):=by
 simp only[RD]at h;obtain⟨a,e,h |h⟩:=h
 . exact⟨a,e,.inl (.inr h)⟩
 . exact⟨a,e,.inr h⟩
theorem RD.mkInt(i:Int):RD K H (.int i) (.int i):=by simp only[RD]
theorem RD.mkBl(i:Bool):RD K H (.bl i) (.bl i):=by simp only[RD]
theorem RD.mkNon:RD K H .non .non:=by simp only[RD]
theorem RD.mkStr(i:Str):RD K H (.str i) (.str i):=by simp only[RD]
theorem RD.mkTup(h:H a=some (.tup xs))(r:RDs K H ds xs):RD K H (.tup ds) (.ref a):=by simp only[RD];exact⟨a,xs,rfl,h,r⟩
end
noncomputable def dI(g:Int->Int->D):D->D->Option D
 | .int i,.int j=>some (g i j)
 |_,_=>none
noncomputable def dIC(C:Int->Int->Prop)[∀i j,Decidable (C i j)](g:Int->Int->D):D->D->Option D
 | .int i,.int j=>if C i j then some (g i j) else none
 |_,_=>none
noncomputable def dOr(o p:D->D->Option D):D->D->Option D:=fun d e=>match o d e with
 |some z=>some z
 |none=>p d e
section
variable {K:Frag}
theorem OpD.weak(h:OpD K fr o r):OpD K false o r:=fun H0 H x y d e z Q s rx ry ho k=>h H0 H x y d e z Q s rx ry ho fun v H' q=>k v H' q.weak
theorem OpD.or(h1:OpD K f1 o r)(h2:OpD K f2 p q):OpD K false (dOr o p) (fun x y H Q=>r x y H Q\/q x y H Q):=by
 intro H0 H x y d e z Q s rx ry ho k;unfold dOr at ho;split at ho
 . rename_i z' hz;cases ho;exact .inl (h1.weak H0 H x y d e z Q s rx ry hz k)
 . exact .inr (h2.weak H0 H x y d e z Q s rx ry ho k)
theorem W4(h:∀i j H,RD K H (gd i j) (gv i j)):OpD K false (dI gd) (cI gv):=by
 intro H0 H x y d e z Q s rx ry ho k;cases d<;>simp only[dI]at ho<;>first |cases ho |skip
 cases e<;>simp only[dI]at ho<;>first |cases ho |skip
 cases rx.int;cases ry.int;exact k _ H (.pure s (h _ _ _))
theorem Dz[∀i j,Decidable (C i j)](h:∀i j H,RD K H (gd i j) (gv i j)):OpD K false (dIC C gd) (cIC C gv):=by
 intro H0 H x y d e z Q s rx ry ho k;cases d<;>simp only[dIC]at ho<;>first |cases ho |skip
 cases e<;>simp only[dIC]at ho<;>first |cases ho |skip
 cases rx.int;cases ry.int;split at ho
 . rename_i ef;cases ho;exact⟨ef,k _ H (.pure s (h _ _ _))⟩
 . cases ho
instance (i j:Int):Decidable (CMul i j):=by unfold CMul;infer_instance
instance (i j:Int):Decidable (S9 i j):=by unfold S9;infer_instance
instance (i j:Int):Decidable (P8 i j):=by unfold P8;infer_instance
def z6:D->D->Option D:=dI fun i j=>.int (i+j)
def y8:D->D->Option D:=dI fun i j=>.int (i - j)
def W3:D->D->Option D:=dIC CMul fun i j=>.int (i * j)
def E1:D->D->Option D:=dIC S9 fun i j=>.int (i / j)
def l4:D->D->Option D:=dIC (fun _ j=>0<j) fun i j=>.int (i % j)
def P6:D->D->Option D:=dIC P8 fun i j=>.int (i ^ j.toNat)
def W8:D->D->Option D:=dI fun i j=>.bl (decide (i<j))
def dLe:D->D->Option D:=dI fun i j=>.bl (decide (i<=j))
def P9:D->D->Option D:=dI fun i j=>.bl (decide (j<i))
def dGe:D->D->Option D:=dI fun i j=>.bl (decide (j<=i))
theorem C7:OpD K false z6 (cI fun i j=>.int (i+j)):=W4 fun _ _ _=>.mkInt _
theorem C6:OpD K false y8 (cI fun i j=>.int (i - j)):=W4 fun _ _ _=>.mkInt _
theorem Kk:OpD K false W3 (cIC CMul fun i j=>.int (i * j)):=Dz fun _ _ _=>.mkInt _
theorem U0:OpD K false E1 (cIC S9 fun i j=>.int (i / j)):=Dz fun _ _ _=>.mkInt _
theorem w4:OpD K false l4 (cIC (fun _ j=>0<j) fun i j=>.int (i % j)):=Dz fun _ _ _=>.mkInt _
theorem Kj:OpD K false P6 (cIC P8 fun i j=>.int (i ^ j.toNat)):=Dz fun _ _ _=>.mkInt _
theorem Ev:OpD K false W8 (cI fun i j=>.bl (decide (i<j))):=W4 fun _ _ _=>.mkBl _
theorem Hx:OpD K false dLe (cI fun i j=>.bl (decide (i<=j))):=W4 fun _ _ _=>.mkBl _
theorem Y3:OpD K false P9 (cI fun i j=>.bl (decide (j<i))):=W4 fun _ _ _=>.mkBl _
theorem Qw:OpD K false dGe (cI fun i j=>.bl (decide (j<=i))):=W4 fun _ _ _=>.mkBl _
noncomputable def J7:D->Option D
 | .int i=>some (.int (-i))
 |_=>none
theorem Y2:UnD K false J7 (cU fun i=>.int (-i)):=by
 intro H0 H x d z Q s rx ho k;cases d<;>simp only[J7]at ho<;>first |cases ho |skip
 cases rx.int;exact k _ H (.pure s (.mkInt _))
noncomputable def v8:D->D->Option D
 | .lst ds,.lst es=>if ds.length+es.length<=100000 then some (.lst (ds++es)) else none
 |_,_=>none
theorem Gu(h:n<=100000):n<=sizeLine:=AA h (by decide)
theorem M2:OpD K true v8 kJ:=by
 intro H0 H x y d e z Q s rx ry ho k;cases d<;>simp only[v8]at ho<;>first |cases ho |skip
 cases e<;>simp only[v8]at ho<;>first |cases ho |skip
 split at ho<;>cases ho;rename_i hl;obtain⟨a,xs,rfl,ha,ra⟩:=rx.lst;obtain⟨b,ys,rfl,hb,rb⟩:=ry.lst;refine⟨a,b,xs,ys,rfl,rfl,s _ _ ha,s _ _ hb,by rw[<-ra.length,<-rb.length];exact Gu hl,fun p hp=>k _ _ (.new s hp fun H' hH=>?_)⟩;simp only[OB];exact⟨_,hH,ra.append rb⟩
end
def dEq:D->D->Option D:=fun d e=>if d.pl=true/\e.pl=true/\d.dep<=20 then some (.bl (eqD d e)) else none
def dNe:D->D->Option D:=fun d e=>if d.pl=true/\e.pl=true/\d.dep<=20 then some (.bl (!eqD d e)) else none
def kq(K:Frag):R2:=fun x y H Q=>∃d e,RD K H d x/\RD K H e y/\d.pl=true/\e.pl=true/\d.dep<=20/\Q (.bl (eqD d e)) H
def ko(K:Frag):R2:=fun x y H Q=>∃d e,RD K H d x/\RD K H e y/\d.pl=true/\e.pl=true/\d.dep<=20/\Q (.bl (!eqD d e)) H
def S7(neg:Bool):D->D->Option D:=fun d c=>match c with
 | .lst es=>if d.pl=true/\pls es=true/\j9 es<=20 then some (.bl (if neg then !(es.any fun e=>eqD e d) else es.any fun e=>eqD e d)) else none
 | .tup es=>if d.pl=true/\pls es=true/\j9 es<=20 then some (.bl (if neg then !(es.any fun e=>eqD e d) else es.any fun e=>eqD e d)) else none
 |_=>none
def Gs(K:Frag)(neg:Bool):R2:=fun x y H Q=>∃p xs d es,y=.ref p/\(H p=some (.lst xs)\/H p=some (.tup xs))/\RD K H d x/\RDs K H es xs/\d.pl=true/\pls es=true/\j9 es<=20/\Q (.bl (if neg then !(es.any fun e=>eqD e d) else es.any fun e=>eqD e d)) H
section
variable {X:Cx}{K:Frag}
theorem K0(hu:X.A.units+64<cLine):OpR X (compareOp .Eq) (kq X.K):=by intro pins s U H x y v u Q I rx ry h;obtain⟨d,e,h1,h2,p1,p2,h3,q⟩:=h;exact(Te (n:=20) I p1 p2 h3 (by lia) h1 h2 rx ry).1 X.prog X.w X.xe _ ⟨.bl _,H,I,rfl,q⟩
theorem y3q(hu:X.A.units+64<cLine):OpR X (compareOp .NotEq) (ko X.K):=by intro pins s U H x y v u Q I rx ry h;obtain⟨d,e,h1,h2,p1,p2,h3,q⟩:=h;exact(Te (n:=20) I p1 p2 h3 (by lia) h1 h2 rx ry).2 X.prog X.w X.xe _ ⟨.bl _,H,I,rfl,q⟩
theorem J9:OpD K false dEq (kq K):=by intro H0 H x y d e z Q s rx ry ho k;unfold dEq at ho;split at ho<;>cases ho;rename_i h;exact⟨d,e,rx.mono s,ry.mono s,h.1,h.2.1,h.2.2,k _ H (.pure s (.mkBl _))⟩
theorem y3r:OpD K false dNe (ko K):=by intro H0 H x y d e z Q s rx ry ho k;unfold dNe at ho;split at ho<;>cases ho;rename_i h;exact⟨d,e,rx.mono s,ry.mono s,h.1,h.2.1,h.2.2,k _ H (.pure s (.mkBl _))⟩
theorem y3s(hu:X.A.units+64<cLine):OpR X (compareOp .In) (Gs X.K false):=by
 intro pins s U H x y v u Q I rx ry h;obtain⟨p,xs,d,es,rfl,hp,hx,dG,pd,pe,hd,q⟩:=h;cases ry;rcases hp with hq |hq
 . obtain⟨its,rv,pl,_⟩:=I.list (.of hq);refine SeqAt.in_listAt (hitD X.K H d) pl.isList (fun y hy=>U7 (A:=X.A) I (by lia) pd hx rx pe dG rv hd y (by simpa using hy)) ⟨.bl _,H,I,rfl,?_⟩;rw[show its.toArray.any (hitD X.K H d)=its.any (hitD X.K H d) by simp,Ce pe dG rv];simpa using q
 . obtain⟨its,rv,pl,_⟩:=I.tuple (.of hq);refine SeqAt.in_tupleAt (hitD X.K H d) pl (fun y hy=>U7 (A:=X.A) I (by lia) pd hx rx pe dG rv hd y (by simpa using hy)) ⟨.bl _,H,I,rfl,?_⟩;rw[show its.toArray.any (hitD X.K H d)=its.any (hitD X.K H d) by simp,Ce pe dG rv];simpa using q
theorem yA(hu:X.A.units+64<cLine):OpR X (compareOp .NotIn) (Gs X.K true):=by
 intro pins s U H x y v u Q I rx ry h;obtain⟨p,xs,d,es,rfl,hp,hx,dG,pd,pe,hd,q⟩:=h;cases ry;rcases hp with hq |hq
 . obtain⟨its,rv,pl,_⟩:=I.list (.of hq);refine SeqAt.notIn_listAt (hitD X.K H d) pl.isList (fun y hy=>U7 (A:=X.A) I (by lia) pd hx rx pe dG rv hd y (by simpa using hy)) ⟨.bl _,H,I,rfl,?_⟩;rw[show its.toArray.any (hitD X.K H d)=its.any (hitD X.K H d) by simp,Ce pe dG rv];simpa using q
 . obtain⟨its,rv,pl,_⟩:=I.tuple (.of hq);refine SeqAt.notIn_tupleAt (hitD X.K H d) pl (fun y hy=>U7 (A:=X.A) I (by lia) pd hx rx pe dG rv hd y (by simpa using hy)) ⟨.bl _,H,I,rfl,?_⟩;rw[show its.toArray.any (hitD X.K H d)=its.any (hitD X.K H d) by simp,Ce pe dG rv];simpa using q
theorem od_inS:OpD K false (S7 neg) (Gs K neg):=by
 intro H0 H x y d e z Q s rx ry ho k;unfold S7 at ho;cases e<;>dsimp only at ho<;>first |cases ho |skip
 . split at ho<;>cases ho;rename_i es h;obtain⟨a,xs,rfl,ha,ra⟩:=ry.tup;exact⟨a,xs,d,es,rfl,.inr (s _ _ ha),rx.mono s,ra.mono s,h.1,h.2.1,h.2.2,k _ H (.pure s (.mkBl _))⟩
 . split at ho<;>cases ho;rename_i es h;obtain⟨a,xs,rfl,ha,ra⟩:=ry.lst;exact⟨a,xs,d,es,rfl,.inl (s _ _ ha),rx.mono s,ra.mono s,h.1,h.2.1,h.2.2,k _ H (.pure s (.mkBl _))⟩
end
noncomputable def Ap:D->Option Key
 | .int i=>some (.inl i)
 | .str x=>some (.inr x)
 |_=>none
def X6:List D->Option (List Key)
 | []=>some []
 |d::ds=>match Ap d,X6 ds with
  |some k,some ks=>some (k::ks)
  |_,_=>none
theorem Vl{K:Frag}{H:Hp}{d:D}{k:Key}{v:V}(h:Ap d=some k)(r:RD K H d v):v=kV k:=by
 cases d<;>simp only[Ap]at h<;>first |cases h |skip
 . cases r.int;rfl
 . cases r.str;rfl
theorem Wq{K:Frag}{H:Hp}:∀{ds:List D}{ks:List Key}{xs:List V},X6 ds=some ks->RDs K H ds xs->xs=ks.map kV
 | [],ks,xs,h,r=>by simp only[X6]at h;cases h;simp only[RDs]at r;subst r;rfl
 |d::ds,ks,xs,h,r=>by simp only[RDs]at r;obtain⟨x,xs,rfl,r1,r2⟩:=r;simp only[X6]at h;split at h<;>cases h;rename_i k ks h1 h2;rw[Vl h1 r1,Wq h2 r2];rfl
def ROp(K:Frag)(H:Hp):Option D->Option V->Prop
 |some z,w=>∃v,w=some v/\RD K H z v
 |none,w=>w=none
section
variable {κ:Type}[DecidableEq κ]
noncomputable def T8(ks:List κ)(ds:List D)(k:κ):Option D:=((ks.zip ds).find? fun kv=>decide (kv.1=k)).map (·.2)
theorem Ld{K:Frag}{H:Hp}(k:κ):∀{ks:List κ}{ds:List D}{xs:List V},ks.length=xs.length->RDs K H ds xs->ROp K H (T8 ks ds k) (E2 (ks.zip xs) k)
 | [],ds,xs,_,_=>by simp[T8,E2,ROp]
 |k'::ks,[],xs,h,r=>by simp only[RDs]at r;subst r;simp at h
 |k'::ks,d::ds,xs,h,r=>by
  simp only[RDs]at r;obtain⟨x,xs,rfl,r1,r2⟩:=r;have ih:=Ld k (by simpa using h) r2 (ks:=ks);simp only[T8,E2,BS,CU]at ih⊢;by_cases e:k'=k
  . simp only[e,DM];exact⟨x,rfl,r1⟩
  . simp only[e,DQ];exact ih
end
def T7:D->D->Option (Option D)
 | .dk ks ds,k=>(Ap k).map fun k=>T8 ks ds k
 | .dt ks ds,.tup es=>(X6 es).map fun k=>T8 ks ds k
 |_,_=>none
theorem Vk{K:Frag}{H:Hp}{d k:D}{x y:V}{o:Option D}(h:T7 d k=some o)(rx:RD K H d x)(ry:RD K H k y) :
  ∃a w,x=.ref a/\DGet H a y w/\ROp K H o w:=by
 cases d<;>simp only[T7]at h<;>first |cases h |skip
 . rename_i ks ds;obtain⟨a,xs,rfl,ha,hl,rs⟩:=rx.dk;cases hk:Ap k with
   |none=>rw[hk]at h;cases h
   |some k'=>
    rw[hk]at h
    have h:T8 ks ds k'=o:=by simpa using h
    subst h
    cases Vl hk ry
    exact⟨a,_,rfl,DGet.k ha,Ld k' hl rs⟩
 . rename_i ks ds;cases k<;>simp only[T7]at h<;>first |cases h |skip
   rename_i es;obtain⟨a,xs,rfl,ha,hl,rs⟩:=rx.dt;obtain⟨b,ys,rfl,hb,rb⟩:=ry.tup;cases hk:X6 es with
   |none=>rw[hk]at h;cases h
   |some k'=>
    rw[hk]at h
    have h:T8 ks ds k'=o:=by simpa using h
    subst h
    have e:=Wq hk rb
    subst e
    exact⟨a,_,rfl,DGet.t ha hb,Ld k' hl rs⟩
def Qd(neg:Bool):D->D->Option D:=fun k d=>(T7 d k).map fun o=>.bl (if neg then !o.isSome else o.isSome)
noncomputable def Gr(neg:Bool):R2:=fun y x H Q=>∃a w,x=.ref a/\DGet H a y w/\Q (.bl (if neg then !w.isSome else w.isSome)) H
def Qc:D->D->Option D:=fun d k=>(T7 d k).bind id
noncomputable def Qb:R2:=fun x y H Q=>∃a w,x=.ref a/\DGet H a y (some w)/\Q w H
def B8:D->D->Option D
 | .lst ds,.int i=>atI ds i
 | .tup ds,.int i=>atI ds i
 | .scr ns,.int i=>(atI ns i).map D.int
 | .str z,.int i=>if z.length<=100000 then(atI z.cps.toList i).map fun c=>D.str ⟨#[c]⟩ else none
 |_,_=>none
theorem RDs.atI{K:Frag}{H:Hp}{ds:List D}{xs:List V}{i:Int}{d:D}(r:RDs K H ds xs)(h:L2.atI ds i=some d):∃v,L2.atI xs i=some v/\RD K H d v:=by
 unfold L2.atI at h⊢;rw[<-r.length];cases q:ixN ds.length i with
 |none=>rw[q]at h;cases h
 |some j=>
  rw[q]at h
  exact r.get' h
theorem wQ(f:α->β)(xs:List α)(i:Int):atI (xs.map f) i=(atI xs i).map f:=by
 unfold atI;rw[gV];cases ixN xs.length i with
 |none=>rfl
 |some j=>simp
section
variable {X:Cx}{K:Frag}
theorem y3w(hu:X.A.units+64<cLine):OpR X (compareOp .In) (Gr false):=by intro pins s U H x y v u Q I rx ry h;obtain⟨a,w,rfl,g,q⟩:=h;cases ry;exact y7n (by omega) I g rx fun s' I'=>⟨.bl w.isSome,H,I',rfl,by simpa using q⟩
theorem yy(hu:X.A.units+64<cLine):OpR X (compareOp .NotIn) (Gr true):=by intro pins s U H x y v u Q I rx ry h;obtain⟨a,w,rfl,g,q⟩:=h;cases ry;exact xu (by omega) I g rx fun s' I'=>⟨.bl (!w.isSome),H,I',rfl,by simpa using q⟩
theorem qU:OpD K false (Qd neg) (Gr neg):=by
 intro H0 H x y d e z Q s rx ry ho k;unfold Qd at ho;cases aW:T7 e d with
 |none=>rw[aW]at ho;cases ho
 |some o=>
  rw[aW]at ho;cases ho
  obtain⟨a,w,rfl,g,m⟩:=Vk aW (ry.mono s) (rx.mono s)
  refine⟨a,w,rfl,g,k _ H ?_⟩
  have e:w.isSome=o.isSome:=by
   cases o with
   |none=>rw[show w=none from m];rfl
   |some z=>obtain⟨v,e,_⟩:=m;rw[e];rfl
  rw[e]
  exact .pure s (.mkBl _)
def dIn(neg:Bool):D->D->Option D:=dOr (S7 neg) (Qd neg)
def Qa(K:Frag)(neg:Bool):R2:=fun x y H Q=>Gs K neg x y H Q\/Gr neg x y H Q
theorem Bg(hu:X.A.units+64<cLine):OpR X (compareOp .In) (Qa X.K false):=(y3s hu).or (y3w hu)
theorem Wp(hu:X.A.units+64<cLine):OpR X (compareOp .NotIn) (Qa X.K true):=(yA hu).or (yy hu)
theorem T6:OpD K false (dIn neg) (Qa K neg):=od_inS.or qU
theorem wP(hu:X.A.units+64<cLine):IxR X Qb:=by intro value slice pins s U H x y v u Q I rx ry h hs;obtain⟨a,w,rfl,g,q⟩:=h;cases rx;exact tail_any (ops:=[.ref a,u]) (zg8 I g) PySem.F.slot_dict_getitem.lookup (zH (by lia) I g ry fun w' s3 I3 cx=>⟨w,H,I3,cx,q⟩) hs
theorem qT:OpD K false Qc Qb:=by
 intro H0 H x y d e z Q s rx ry ho k;unfold Qc at ho;cases aW:T7 d e with
 |none=>rw[aW]at ho;cases ho
 |some o=>
  rw[aW]at ho
  have ho:o=some z:=ho
  subst ho
  obtain⟨a,w,e0,g,m⟩:=Vk aW rx ry
  obtain⟨v,rfl,rv⟩:=m
  subst e0
  refine⟨a,v,rfl,?_,k _ H (.pure s rv)⟩
  rcases g with⟨kvs,kk,e1,e2,e3⟩ |⟨kvs,kk,b,e1,e2,e3,e4⟩
  . refine .inl ⟨kvs,kk,?_,e2,e3⟩;rcases e1 with e1 |⟨o,e1⟩
    . exact .inl (s _ _ e1)
    . exact .inr ⟨o,s _ _ e1⟩
  . refine .inr ⟨kvs,kk,b,?_,e2,s _ _ e3,e4⟩;rcases e1 with e1 |⟨o,e1⟩
    . exact .inl (s _ _ e1)
    . exact .inr ⟨o,s _ _ e1⟩
theorem od_ixS:OpD K false B8 (rIx K):=by
 intro H0 H x y d e z Q s rx ry ho k;cases d<;>simp only[B8]at ho<;>first |cases ho |skip
 . -- a uk
   cases e<;>simp only[B8]at ho<;>first |cases ho |skip
   cases rx.str;cases ry.int;split at ho
   . rename_i z' i hl;cases hc:atI z'.cps.toList i with
     |none=>rw[hc]at ho;cases ho
     |some c=>
      rw[hc]at ho;cases ho
      exact .inr (.inr ⟨z',i,c,rfl,rfl,Gu hl,hc,k _ H (.pure s (.mkStr _))⟩)
   . cases ho
 . cases e<;>simp only[B8]at ho<;>first |cases ho |skip
   obtain⟨a,xs,rfl,ha,ra⟩:=rx.tup;cases ry.int;obtain⟨v,hv,rv⟩:=ra.atI ho;exact .inr (.inl ⟨a,xs,_,v,rfl,rfl,.of (s _ _ ha),hv,k _ H (.pure s rv)⟩)
 . cases e<;>simp only[B8]at ho<;>first |cases ho |skip
   obtain⟨a,xs,rfl,ha,ra⟩:=rx.lst;cases ry.int;obtain⟨v,hv,rv⟩:=ra.atI ho;exact .inl ⟨a,xs,_,v,rfl,rfl,.of (s _ _ ha),hv,k _ H (.pure s rv)⟩
 . cases e<;>simp only[B8]at ho<;>first |cases ho |skip
   rename_i ns i;cases ry.int;obtain⟨a,rfl,ha⟩:=(rx.mono s).scr;cases hc:atI ns i with
   |none=>rw[hc]at ho;cases ho
   |some c=>
    rw[hc]at ho;cases ho
    exact .inl ⟨a,_,i,.int c,rfl,rfl,ha,by rw[wQ,hc];rfl,k _ H (.pure s (.mkInt _))⟩
def dIx:D->D->Option D:=dOr B8 Qc
def km(K:Frag):R2:=fun x y H Q=>rIx K x y H Q\/Qb x y H Q
theorem y80(hu:X.A.units+64<cLine):IxR X (km X.K):=ix_seq.or (wP hu)
theorem y3y:OpD K false dIx (km K):=od_ixS.or qT
end
structure QE(X:Cx)(EX:XW)(fr:Bool)(e:Expr)(f:DE->R D):Prop where
 h:PE X e (TEd X.K EX fr f)
structure QT(X:Cx)(EX:XW)(e:Expr)(t:DE->R Bool):Prop where
 h:PT X e (TTd X.K EX t)
structure QW(X:Cx)(EX:XW)(e:Expr)(t:DE->R Bool):Prop where
 h:PW X e (TTd X.K EX t)
structure QA(X:Cx)(EX:XW)(es:List Expr)(f:DE->R (List D)):Prop where
 h:PA X es (TAd X.K EX f)
structure QI(X:Cx)(EX:XW)(kp:Bool)(tg e:Expr)(f:DE->R (List D)):Prop where
 h:PI X tg e (TId X.K EX kp f)
structure QG(X:Cx)(tg:Expr)(t:Tg):Prop where
 h:PG X tg (TGd X.K t)
structure QGs(X:Cx)(ts:List Expr)(is:List Nat):Prop where
 h:PGs X ts (Ey is)
structure QS(X:Cx)(EX:XW)(fr:Bool)(st:Stmt)(g:DS->SR):Prop where
 h:PS X st (TSd X.K EX fr g)
structure QB(X:Cx)(EX:XW)(fr:Bool)(sts:List Stmt)(g:DS->SR):Prop where
 h:PSs X sts (TSd X.K EX fr g)
structure QCT(X:Cx)(EX:XW)(ops:List CmpOp)(rs:List Expr)(g:D->DE->R Bool):Prop where
 h:PChT X ops rs (Bh X.K EX g)
section
variable {X:Cx}{EX:XW}{fr:Bool}{a b c e:Expr}{es rest:List Expr}{fa fb:DE->R D}{fs:DE->R (List D)}{t u:DE->R Bool}{pos p:Pos}{x:Str}
theorem PA.imp{es:List Expr}{t t':TA}(h:PA X es t)(hi:∀U H Q,t' U H Q->t U H Q):PA X es t':=fun pos pins s U H Q I q=>h pos pins s U H Q I (hi U H Q q)
theorem PW.imp{e:Expr}{t t':TT}(h:PW X e t)(hi:∀U H Q,t' U H Q->t U H Q):PW X e t':=fun wh pins s U H Q I q=>h wh pins s U H Q I (hi U H Q q)
theorem PI.imp{tg e:Expr}{t t':TI}(h:PI X tg e t)(hi:∀U H Q,t' U H Q->t U H Q):PI X tg e t':=fun pins s U H Q I q=>h pins s U H Q I (hi U H Q q)
theorem PS.imp{st:Stmt}{t t':TS}(h:PS X st t)(hi:∀D U H,t' D U H->t D U H):PS X st t':=fun pins s U H D I q=>h pins s U H D I (hi D U H q)
theorem PSs.imp{st:List Stmt}{t t':TS}(h:PSs X st t)(hi:∀D U H,t' D U H->t D U H):PSs X st t':=fun pins s U H D I q=>h pins s U H D I (hi D U H q)
theorem QE.wk(h:QE X EX true e f):QE X EX false e f:=⟨h.h.imp fun _ _ _ q=>q.weak⟩
theorem qv(i:Nat)(hN:X.N[i]?=some x:=by rfl)(hv:Vis X.env.scope x:=by first |exact .inl rfl |exact .inr (.inl rfl) |exact .inr (.inr rfl))(hd:(x==("__debug__":Str))=false:=by decide)
 (bp:(x==("__classdict__":Str))=false:=by decide):QE X EX false (.Name x pos) (b7 i):=⟨(Bt hN hv hd bp).imp fun U H Q q=>y38 q⟩
theorem d9:QE X EX false (.Constant (.int i) j pos) (eC (.int i)):=⟨pe_int.imp fun U H Q q=>Fn (fun _=>.mkInt i) q⟩
theorem l7:QE X EX false (.Constant (.bool i) j pos) (eC (.bl i)):=⟨pe_bl.imp fun U H Q q=>Fn (fun _=>.mkBl i) q⟩
theorem Hw:QE X EX false (.Constant .none j pos) (eC .non):=⟨pe_non.imp fun U H Q q=>Fn (fun _=>.mkNon) q⟩
theorem i8:QE X EX false (.Constant (.str i) j pos) (eC (.str i)):=⟨pe_str.imp fun U H Q q=>Fn (fun _=>.mkStr i) q⟩
theorem g8(ho:OpR X (binaryOp op) r)(od:OpD X.K fr o r)(ha:QE X EX false a fa)(hb:QE X EX false b fb):QE X EX fr (.BinOp a op b pos) (eOp o fa fb):=⟨(y2v ho ha.h hb.h).imp fun _ _ _ q=>Gv od q⟩
theorem W2(ho:UnR X (unaryOp op) r)(od:UnD X.K fr o r)(ha:QE X EX false a fa):QE X EX fr (.UnaryOp op a pos) (eUn o fa):=⟨(y2w ho ha.h).imp fun _ _ _ q=>kz od q⟩
theorem C3(ho:OpR X (compareOp op) r)(od:OpD X.K false o r)(ha:QE X EX false a fa)(hb:QE X EX false b fb)(hm:behindInMarks op b=false) :
 QE X EX false (.Compare a [op] [b] pos) (eOp o fa fb):=⟨(xF ho ha.h hb.h hm).imp fun _ _ _ q=>Gv od q⟩
theorem y81(ho:IxR X r)(od:OpD X.K false o r)(ha:QE X EX false a fa)(hb:QE X EX false b fb)(hs:Li b:=by exact fun _ _=>rfl):QE X EX false (.Subscript a b pos) (eOp o fa fb):=⟨(y2z ho ha.h hb.h hs).imp fun _ _ _ q=>Gv od q⟩
theorem c8:QA X EX [] c7:=⟨pa_nil.imp fun _ _ _ q=>Qx q⟩
theorem b9(ha:QE X EX false e fa)(hr:QA X EX es fs)(hs:starEach (e::es) X.env=(false,eval e X.env)::starEach es X.env:=by rfl):QA X EX (e::es) (b8 fa fs):=⟨(G1 ha.h hr.h hs).imp fun _ _ _ q=>Km q⟩
theorem p6(h:QA X EX es fs):QE X EX false (.Tuple es x1 pos) (n6 fs):=⟨(To h.h).imp fun _ _ _ q=>y3a q⟩
theorem p5(h:QA X EX es fs):QE X EX true (.List es pos) (l8 fs):=⟨(vo h.h).imp fun _ _ _ q=>y3b q⟩
theorem Qv(hc:QT X EX c t)(ha:QE X EX fr a fa)(hb:QE X EX fr b fb):QE X EX fr (.IfExp c a b pos) (eIf t fa fb):=⟨(yV hc.h ha.h hb.h).imp fun _ _ _ q=>y7q q⟩
theorem N6(ha:QE X EX false a fa)(hb:QE X EX false (.BoolOp .And (b::rest) pos) fb):QE X EX false (.BoolOp .And (a::b::rest) pos) (E3 fa fb):=⟨(xq ha.h hb.h).imp fun _ _ _ q=>y3f q⟩
theorem Gq(ha:QE X EX false a fa)(hb:QE X EX false (.BoolOp .Or (b::rest) pos) fb):QE X EX false (.BoolOp .Or (a::b::rest) pos) (eOr fa fb):=⟨(vi ha.h hb.h).imp fun _ _ _ q=>y7t q⟩
theorem M0(h:QE X EX false a fa):QE X EX false (.BoolOp op [a] pos) fa:=⟨vx h.h⟩
noncomputable def m7:D->Option Bool
 | .bl b=>some b
 | .int i=>some (i != 0)
 | .non=>some false
 | .str z=>if z.length<=100000 then some ((z.length:Int) != 0) else none
 | .lst ds=>some (!ds.isEmpty)
 | .tup ds=>some (!ds.isEmpty)
 | .dk ks _=>some (!ks.isEmpty)
 |_=>none
theorem Nl{α β:Type}{xs:List α}{ys:List β}(h:xs.length=ys.length):xs.isEmpty=ys.isEmpty:=by cases xs<;>cases ys<;>first |rfl |simp at h
theorem Tc{K:Frag}:Qg K m7 Q4:=by
 intro H0 H x d b Q s rx ht q;cases d<;>simp only[m7]at ht<;>first |cases ht |skip
 . cases rx.non;exact q
 . cases rx.bl;exact q
 . cases rx.int;exact q
 . split at ht<;>cases ht;rename_i h;cases rx.str;exact⟨Gu h,q⟩
 . obtain⟨p,xs,rfl,hp,r⟩:=rx.tup;unfold Q4;dsimp only;rw[Xm (s _ _ hp)];rw[Nl r.length]at q;exact q
 . obtain⟨p,xs,rfl,hp,r⟩:=rx.lst;unfold Q4;dsimp only;rw[Xn (s _ _ hp)];rw[Nl r.length]at q;exact q
 . rename_i ks es;obtain⟨p,xs,rfl,hp,hl,r⟩:=rx.dk;unfold Q4;dsimp only;have e:G6 H p=none:=by unfold G6;rw[s _ _ hp]
   rw[e];dsimp only;rw[s _ _ hp];dsimp only;rw[Nl (show ks.length=(List.zip ks xs).length by rw[List.length_zip,<-hl,Nat.min_self])]at q;exact q
theorem qS(ha:QE X EX false a fa):QE X EX false (.UnaryOp .Not a pos) (eUn (fun d=>(m7 d).map fun b=>.bl (!b)) fa):=⟨(xn ha.h).imp fun _ _ _ q=>vd Tc q⟩
theorem D3(ha:QE X EX false a fa)(he:∀whole,isTrue a X.env whole=(do let v <-whole;standAt a.pos;holding [v] (truthy v)):=by intro _;rfl):QT X EX a (g0 m7 fa):=⟨(vk ha.h he).imp fun _ _ _ q=>y3g Tc q⟩
theorem z0(ho:OpR X (compareOp op) r)(od:OpD X.K false o r)(ha:QE X EX false a fa)(hb:QE X EX false b fb)(hm:behindInMarks op b=false) :
 QT X EX (.Compare a [op] [b] pos) (g0 asB (eOp o fa fb)):=⟨(xr ho ha.h hb.h hm).imp fun _ _ _ q=>y3h od q⟩
theorem QW.pt(h:QW X EX a t):QT X EX a t:=⟨h.h.pt⟩
theorem F9(ha:QT X EX a t):QT X EX (.UnaryOp .Not a pos) (t8 t):=⟨(vy ha.h).imp fun _ _ _ q=>ve q⟩
theorem Q9(ha:QT X EX a t):QW X EX (.BoolOp .And [a] pos) t:=⟨xH ha.h⟩
theorem F8(ha:QT X EX a t):QW X EX (.BoolOp .Or [a] pos) t:=⟨vA ha.h⟩
theorem N5(ha:QT X EX a t)(hb:QW X EX (.BoolOp .And (b::rest) pos) u):QW X EX (.BoolOp .And (a::b::rest) pos) (D1 t u):=⟨(vz ha.h hb.h).imp fun _ _ _ q=>vf q⟩
theorem B7(ha:QT X EX a t)(hb:QW X EX (.BoolOp .Or (b::rest) pos) u):QW X EX (.BoolOp .Or (a::b::rest) pos) (bOr t u):=⟨(y2p ha.h hb.h).imp fun _ _ _ q=>y3c q⟩
theorem PChT.imp{ops:List CmpOp}{rs:List Expr}{t t':V->TT}(h:PChT X ops rs t)(hi:∀x U H Q,t' x U H Q->t x U H Q):PChT X ops rs t':=fun pos pins s U H x v Q I r q=>h pos pins s U H x v Q I r (hi x U H Q q)
variable {gt:D->DE->R Bool}{op gP:CmpOp}{ops:List CmpOp}{r:R2}{o:D->D->Option D}{r':Expr}{rs:List Expr}
theorem wO(ho:OpR X (compareOp op) r)(od:OpD X.K false o r)(hb:QE X EX false b fb):QCT X EX [op] [b] (Fc o fb):=⟨(zE ho hb.h).imp fun _ _ _ _ q=>wW od q⟩
theorem wN(ho:OpR X (compareOp op) r)(od:OpD X.K false o r)(hb:QE X EX false b fb)(hr:QCT X EX (gP::ops) (r'::rs) gt):QCT X EX (op::gP::ops) (b::r'::rs) (Fb o fb gt):=⟨(zC ho hb.h hr.h).imp fun _ _ _ _ q=>wV od q⟩
theorem y3z(ha:QE X EX false a fa)(hr:QCT X EX (cQ::cR::ops) (dS::dU::rs) gt)(hm:lastMarks (cQ::cR::ops) (dS::dU::rs)=false:=by with_unfolding_all rfl) :
 QT X EX (.Compare a (cQ::cR::ops) (dS::dU::rs) pos) (Dn fa gt):=⟨(vj ha.h hr.h hm).imp fun _ _ _ q=>qZ q⟩
theorem y6{id:String}{rr:List V->Hp->VK->Prop}{m:List D->Option D}(hc:CallR X (.builtin id) rr)(od:z9 X.K fr m rr)(hg:Gl X x)(hm:X.mg x=none)(hv:bootBuiltins x=some (.builtin id))(ha:QA X EX (e::es) fs)(hn:x≠"__name__":=by decide)(az:(x==("__debug__":Str))=false:=by decide)
 (he:starEach (e::es) X.env=(false,eval e X.env)::starEach es X.env:=by rfl) (hpl:(backTo pos (starEach es X.env)).any (·.1)=false:=by rfl):QE X EX fr (.Call (.Name x p) (e::es) [] pos) (eCB m fs):=⟨(Cf hc hg hm hv ha.h hn az he hpl).imp fun _ _ _ q=>Qf od q⟩
theorem n8(hc:CallR X (.type T) rr)(od:z9 X.K fr m rr)(hg:Gl X x)(hm:X.mg x=none)(hv:bootBuiltins x=some (.type T))(ha:QA X EX (e::es) fs)(hn:x≠"__name__":=by decide)(az:(x==("__debug__":Str))=false:=by decide)
 (he:starEach (e::es) X.env=(false,eval e X.env)::starEach es X.env:=by rfl) (hpl:(backTo pos (starEach es X.env)).any (·.1)=false:=by rfl):QE X EX fr (.Call (.Name x p) (e::es) [] pos) (eCB m fs):=⟨(zI hc hg hm hv ha.h hn az he hpl).imp fun _ _ _ q=>Qf od q⟩
theorem i9(L:Lnd X EX)(G:k6 X.prog X.w X.K X.mg X.base x ps k (spD X.K X.mg fr (mOf fr n kk gg) n))(hr:Room j X.A)(hg:Gl X x)(ha:QA X EX (e::es) fs)(dF:k<=j:=by omega)(az:(x==("__debug__":Str))=false:=by decide)
 (he:starEach (e::es) X.env=(false,eval e X.env)::starEach es X.env:=by rfl) (hpl:(backTo pos (starEach es X.env)).any (·.1)=false:=by rfl):QE X EX fr (.Call (.Name x p) (e::es) [] pos) (e9 (mOf fr n kk gg) fs):=⟨(wR G L.on hr hg ha.h dF az he hpl).imp fun _ _ _ q=>qW Lf (fun x H z=>by obtain⟨C,hC⟩:=L.nm x H z;exact⟨C,hC,fun od xf=>⟨x,z,hC,xf⟩⟩) q⟩
end
noncomputable def F7:D->String
 | .non=>"NoneType"
 | .bl _=>"bool"
 | .int _=>"int"
 | .str _=>"str"
 | .tup _=>"tuple"
 | .lst _=>"list"
 | .dk _ _=>"dict"
 | .dt _ _=>"dict"
 | .dn _ _=>"?"
 | .scr _=>"?"
 | .exc _ _=>"?"
 | .obj _ _=>"?"
 | .dp _ _=>"?"
def r9(c:String):D->Option D:=fun d=>if K1 c=true/\F7 d≠"?" then some (.bl (J4 (F7 d) c)) else none
theorem wM{K:Frag}{H:Hp}{d:D}{v:V}(h:F7 d≠"?")(r:RD K H d v):N7 H v=some (F7 d):=by
 cases d
 . cases r.non;rfl
 . cases r.bl;rfl
 . cases r.int;rfl
 . cases r.str;rfl
 . obtain⟨a,xs,rfl,ha,_⟩:=r.tup;simp only[N7,ha,F7]
 . obtain⟨a,xs,rfl,ha,_⟩:=r.lst;simp only[N7,ha,F7]
 . obtain⟨a,xs,rfl,ha,_⟩:=r.dk;simp only[N7,ha,F7]
 . obtain⟨a,xs,rfl,ha,_⟩:=r.dt;simp only[N7,ha,F7]
 all_goals exact absurd rfl h
theorem y40{K:Frag}{EX:XW}{U:St}{H:Hp}{Q:VK}{c:String}{f:DE->R D}(h:TEd K EX false (eUn (r9 c) f) U H Q):tCB Gw (E6 (TEd K EX false f) (E6 (tC (.ty c)) L8)) U H Q:=by
 obtain⟨sx,ρ,H0,s,e,h⟩:=h;unfold eUn at h;rw[Rk.bind]at h;refine TEd.go sx s e h fun d h v H1 aq s1 e1 r1=>?_
 obtain⟨z,hz,h⟩:=h.of;unfold r9 at hz;split at hz<;>cases hz;rename_i hc;show Gw [v,.ty c] H1 Q;rw[vg];refine⟨hc.1,?_⟩;rw[wM hc.2 (r1.mono e1.2.1)];exact h _ H1 (.val s1 e1 (.mkBl _))
theorem Bf(hg:Gl X x)(hm:X.mg x=none)(hv:bootBuiltins x=some (.builtin "isinstance"))(ha:QE X EX false a f)(hb:PE X b (tC (.ty c)))(hn:x≠"__name__":=by decide)(az:(x==("__debug__":Str))=false:=by decide)
 (he:starEach [a,b] X.env=(false,eval a X.env)::starEach [b] X.env:=by rfl) (hpl:(backTo pos (starEach [b] X.env)).any (·.1)=false:=by rfl) (hs:starEach [b] X.env=(false,eval b X.env)::starEach [] X.env:=by rfl) :
 QE X EX false (.Call (.Name x p) [a,b] [] pos) (eUn (r9 c) f):=⟨(Cf y35 hg hm hv (G1 ha.h (G1 hb pa_nil hs) he) hn az he hpl).imp fun _ _ _ q=>y40 q⟩
noncomputable def y0:List D->Option (List Int)
 | []=>some []
 | .int i::ds=>(y0 ds).map (i::·)
 |_::_=>none
noncomputable def O2:List D->Option (List Bool)
 | []=>some []
 | .bl i::ds=>(O2 ds).map (i::·)
 |_::_=>none
theorem Mv:∀(ns:List Int),y0 (ns.map D.int)=some ns
 | []=>rfl
 |n::ns=>by simp[y0,Mv ns]
theorem Aa{K:Frag}{H:Hp}:∀{ds:List D}{ns:List Int}{xs:List V},y0 ds=some ns->RDs K H ds xs->xs=ns.map V.int
 | [],ns,xs,h,r=>by simp only[y0]at h;cases h;simp only[RDs]at r;subst r;rfl
 |d::ds,ns,xs,h,r=>by
  simp only[RDs]at r;obtain⟨x,xs,rfl,r1,r2⟩:=r;cases d<;>simp only[y0]at h<;>first |cases h |skip
  cases q:y0 ds with
  |none=>rw[q]at h;cases h
  |some ms=>
   rw[q]at h;cases h
   cases r1.int
   rw[Aa q r2];rfl
theorem Yr{K:Frag}{H:Hp}:∀{ds:List D}{ns:List Bool}{xs:List V},O2 ds=some ns->RDs K H ds xs->xs=ns.map V.bl
 | [],ns,xs,h,r=>by simp only[O2]at h;cases h;simp only[RDs]at r;subst r;rfl
 |d::ds,ns,xs,h,r=>by
  simp only[RDs]at r;obtain⟨x,xs,rfl,r1,r2⟩:=r;cases d<;>simp only[O2]at h<;>first |cases h |skip
  cases q:O2 ds with
  |none=>rw[q]at h;cases h
  |some ms=>
   rw[q]at h;cases h
   cases r1.bl
   rw[Yr q r2];rfl
noncomputable def z7:List D->Option D
 | [.lst ds]=>some (.int ds.length)
 | [.tup ds]=>some (.int ds.length)
 | [.dk ks _]=>some (.int ks.length)
 | [.scr ns]=>some (.int ns.length)
 | [.str z]=>if z.length<=100000 then some (.int z.length) else none
 |_=>none
def L0:List D->Option D
 | [.lst ds]=>(y0 ds).map fun ns=>.int ns.sum
 | [.tup ds]=>(y0 ds).map fun ns=>.int ns.sum
 |_=>none
def P5:List D->Option D
 | [.lst ds]=>(O2 ds).map fun bs=>.bl (bs.all id)
 |_=>none
noncomputable def Eh:List D->Option D
 | [.int i,.int j]=>some (.int (if j > i then j else i))
 |_=>none
noncomputable def Eg:List D->Option D
 | [.int i,.int j]=>some (.int (if j<i then j else i))
 |_=>none
noncomputable def S6:List D->Option D
 | [.int i]=>some (.int i)
 | [.bl b]=>some (.int (if b then 1 else 0))
 |_=>none
noncomputable def X5:List D->Option D
 | [.lst ds]=>some (.lst ds)
 | [.tup ds]=>some (.lst ds)
 | [.scr ns]=>some (.lst (ns.map .int))
 |_=>none
noncomputable def G7:List D->Option D
 | [.lst ds]=>some (.tup ds)
 | [.tup ds]=>some (.tup ds)
 |_=>none
section
variable {X:Cx}{K:Frag}
theorem RDs.uno(h:RDs K H [d] xs):∃x,xs=[x]/\RD K H d x:=by simp only[RDs]at h;obtain⟨x,r,rfl,h1,rfl⟩:=h;exact⟨x,rfl,h1⟩
theorem RDs.duo(h:RDs K H [d,e] xs):∃x y,xs=[x,y]/\RD K H d x/\RD K H e y:=by simp only[RDs]at h;obtain⟨x,r,rfl,h1,y,r',rfl,h2,rfl⟩:=h;exact⟨x,y,rfl,h1,h2⟩
def Qu(K:Frag):List V->Hp->VK->Prop:=fun xs H Q=>(∃p ys,xs=[.ref p]/\(SqL K H p ys\/SqT K H p ys)/\Q (.int ys.length) H)\/(∃a kvs,xs=[V.ref a]/\H a=some (.dK kvs)/\Q (.int kvs.length) H)\/∃z,xs=[.str z]/\z.length<=sizeLine/\Q (.int z.length) H
theorem qR:CallR X (.builtin "len") (Qu X.K):=call_len_seq.or (call_lenD.or zef)
theorem qQ:z9 K false z7 (Qu K):=by
 intro H0 H xs ds z Q s r ho k;unfold z7 at ho;split at ho<;>first |cases ho |skip
 . obtain⟨x,rfl,q1⟩:=r.uno;obtain⟨a,ys,rfl,ha,ra⟩:=q1.lst;exact .inl ⟨a,ys,rfl,.inl (.of (s _ _ ha)),by rw[<-ra.length];exact k _ H (.pure s (.mkInt _))⟩
 . obtain⟨x,rfl,q1⟩:=r.uno;obtain⟨a,ys,rfl,ha,ra⟩:=q1.tup;exact .inl ⟨a,ys,rfl,.inr (.of (s _ _ ha)),by rw[<-ra.length];exact k _ H (.pure s (.mkInt _))⟩
 . obtain⟨x,rfl,q1⟩:=r.uno;obtain⟨a,ys,rfl,ha,hl,ra⟩:=q1.dk;refine .inr (.inl ⟨a,_,rfl,s _ _ ha,?_⟩);rw[List.length_zip,<-hl,Nat.min_self];exact k _ H (.pure s (.mkInt _))
 . obtain⟨x,rfl,q1⟩:=r.uno;obtain⟨a,rfl,ha⟩:=(q1.mono s).scr;exact .inl ⟨a,_,rfl,.inl ha,by rw[gV];exact k _ H (.pure s (.mkInt _))⟩
 . split at ho<;>cases ho;rename_i h;obtain⟨x,rfl,q1⟩:=r.uno;cases q1.str;exact .inr (.inr ⟨_,rfl,Gu h,k _ H (.pure s (.mkInt _))⟩)
theorem Ta:z9 K false L0 Jd:=by
 intro H0 H xs ds z Q s r ho k;unfold L0 at ho;split at ho<;>first |cases ho |skip
 . obtain⟨x,rfl,q1⟩:=r.uno;obtain⟨a,ys,rfl,ha,ra⟩:=q1.lst;rename_i es;cases q:y0 es with
   |none=>rw[q]at ho;cases ho
   |some ns=>
    rw[q]at ho;cases ho
    rw[Vp]
    exact⟨ns,by rw[<-Aa q ra];exact Xn (s _ _ ha),k _ H (.pure s (.mkInt _))⟩
 . obtain⟨x,rfl,q1⟩:=r.uno;obtain⟨a,ys,rfl,ha,ra⟩:=q1.tup;rename_i es;cases q:y0 es with
   |none=>rw[q]at ho;cases ho
   |some ns=>
    rw[q]at ho;cases ho
    rw[Vp]
    exact⟨ns,by rw[<-Aa q ra];exact Xm (s _ _ ha),k _ H (.pure s (.mkInt _))⟩
theorem Sz:z9 K false P5 Jc:=by
 intro H0 H xs ds z Q s r ho k;unfold P5 at ho;split at ho<;>first |cases ho |skip
 obtain⟨x,rfl,q1⟩:=r.uno;obtain⟨a,ys,rfl,ha,ra⟩:=q1.lst;rename_i es;cases q:O2 es with
 |none=>rw[q]at ho;cases ho
 |some ns=>
  rw[q]at ho;cases ho
  rw[xi]
  exact⟨ns,by rw[<-Yr q ra];exact .inl (s _ _ ha),k _ H (.pure s (.mkBl _))⟩
theorem Vj:z9 K false Eh Jb:=by
 intro H0 H xs ds z Q s r ho k;unfold Eh at ho;split at ho<;>first |cases ho |skip
 obtain⟨x,y,rfl,r1,r2⟩:=r.duo;cases r1.int;cases r2.int;rw[xh];exact k _ H (.pure s (.mkInt _))
theorem Vi:z9 K false Eg Ja:=by
 intro H0 H xs ds z Q s r ho k;unfold Eg at ho;split at ho<;>first |cases ho |skip
 obtain⟨x,y,rfl,r1,r2⟩:=r.duo;cases r1.int;cases r2.int;rw[xb];exact k _ H (.pure s (.mkInt _))
theorem Ki:z9 K false S6 Ra:=by
 intro H0 H xs ds z Q s r ho k;unfold S6 at ho;split at ho<;>first |cases ho |skip
 . obtain⟨x,rfl,q1⟩:=r.uno;cases q1.int;exact k _ H (.pure s (.mkInt _))
 . obtain⟨x,rfl,q1⟩:=r.uno;cases q1.bl;exact k _ H (.pure s (.mkInt _))
def Sy(K:Frag):List V->Hp->VK->Prop:=fun xs H Q=>∃p ys,xs=[.ref p]/\(SqL K H p ys\/SqT K H p ys)/\∀l,H l=none->Q (.ref l) (upd H l (.lst ys))
theorem wL:CallR X (.type "list") (Sy X.K):=zeg
theorem wK:z9 K true X5 (Sy K):=by
 intro H0 H xs ds z Q s r ho k;have fin:∀{p:Addr}{ys:List V}{es:List D},RDs K H0 es ys->z=.lst es->H p=none->Q (.ref p) (upd H p (.lst ys)):=fun {p ys es} re e hp=>by subst e;refine k _ _ (.new s hp fun H' hH=>?_);simp only[OB];exact⟨_,hH,re⟩
 unfold X5 at ho;split at ho<;>first |cases ho |skip
 . obtain⟨x,rfl,q1⟩:=r.uno;obtain⟨a,ys,rfl,ha,ra⟩:=q1.lst;exact⟨a,ys,rfl,.inl (.of (s _ _ ha)),fun l hl=>fin ra rfl hl⟩
 . obtain⟨x,rfl,q1⟩:=r.uno;obtain⟨a,ys,rfl,ha,ra⟩:=q1.tup;exact⟨a,ys,rfl,.inr (.of (s _ _ ha)),fun l hl=>fin ra rfl hl⟩
 . obtain⟨x,rfl,q1⟩:=r.uno;obtain⟨a,rfl,ha⟩:=(q1.mono s).scr;exact⟨a,_,rfl,.inl ha,fun l hl=>fin (RDs.ofInts _) rfl hl⟩
def Vh(K:Frag):List V->Hp->VK->Prop:=fun xs H Q=>∃p ys,xs=[.ref p]/\((SqL K H p ys/\∀l,H l=none->Q (.ref l) (upd H l (.tup ys)))\/(SqT K H p ys/\Q (.ref p) H))
theorem V3:CallR X (.type "tuple") (Vh X.K):=zcp
theorem V2:z9 K false G7 (Vh K):=by
 intro H0 H xs ds z Q s r ho k;unfold G7 at ho;split at ho<;>first |cases ho |skip
 . obtain⟨x,rfl,q1⟩:=r.uno;obtain⟨a,ys,rfl,ha,ra⟩:=q1.lst;refine⟨a,ys,rfl,.inl ⟨.of (s _ _ ha),fun l hl=>k _ _ (.val (Same.upd_new hl) (.new s hl) (.mkTup w8 (ra.mono (Same.upd_new (s.none hl)))))⟩⟩
 . obtain⟨x,rfl,q1⟩:=r.uno;obtain⟨a,ys,rfl,ha,ra⟩:=q1.tup;exact⟨a,ys,rfl,.inr ⟨.of (s _ _ ha),k _ H (.pure s (.mkTup ha ra))⟩⟩
end
noncomputable def y4{α:Type}(xs:List α)(lo hi:Option Int):List α:=(xs.drop (HT.sIx xs.length 0 lo)).take (HT.sIx xs.length xs.length hi - HT.sIx xs.length 0 lo)
def dSl:D->Option Int->Option Int->Option D
 | .lst ds,lo,hi=>some (.lst (y4 ds lo hi))
 | .scr ns,lo,hi=>some (.lst ((y4 ns lo hi).map .int))
 |_,_,_=>none
def TOd(K:Frag)(EX:XW)(f:DE->R (Option Int)):TO:=fun U H Q=>Same EX.hb H/\∃ρ H0,Same H0 H/\RE K H0 ρ U/\Rk EX.at (f ρ) fun o=>∀H',Same H H'->Q o H'
noncomputable def oNo:DE->R (Option Int):=fun _=>.ok none
def oSo(f:DE->R D):DE->R (Option Int):=fun ρ=>(f ρ).bind fun d=>R.of (match d with | .int i=>some (some i) |_=>none)
def eSl(o:D->Option Int->Option Int->Option D)(f:DE->R D)(fl fh:DE->R (Option Int)):DE->R D:=fun ρ=>(f ρ).bind fun d=>(fl ρ).bind fun lo=>(fh ρ).bind fun hi=>R.of (o d lo hi)
def SlD(K:Frag)(fr:Bool)(o:D->Option Int->Option Int->Option D)(r:V->Option Int->Option Int->Hp->VK->Prop):Prop:=∀(H0 H:Hp)(x:V)(d z:D)(lo hi:Option Int)(Q:VK),Same H0 H->RD K H0 d x->o d lo hi=some z->(∀v H',Out K fr H0 H z v H'->Q v H')->r x lo hi H Q
section
variable {X:Cx}{K:Frag}{EX:XW}{fr:Bool}{U:St}{H:Hp}{Q:VK}
structure QO(X:Cx)(EX:XW)(e:Option Expr)(f:DE->R (Option Int)):Prop where
 h:PO X e (TOd X.K EX f)
theorem PO.imp(h:PO X e t)(hi:∀U H Q,t' U H Q->t U H Q):PO X e t':=fun pins s U H Q I q=>h pins s U H Q I (hi U H Q q)
theorem Pz:QO X EX none oNo:=⟨po_none.imp fun U H Q ⟨sx,ρ,H0,s,e,h⟩=>h H (Same.refl _)⟩
theorem S5(he:QE X EX false e f):QO X EX (some e) (oSo f):=⟨(xw he.h).imp fun U H Q ⟨sx,ρ,H0,s,e,h⟩=>by
 unfold oSo at h;rw[Rk.bind]at h;refine TEd.go sx s e h fun d h v H1 aq s1 e1 r1=>?_
 obtain⟨o,ho,h⟩:=h.of;cases d<;>dsimp only at ho<;>first |cases ho |skip
 cases r1.int;exact⟨_,rfl,h H1 s1⟩⟩
theorem y82(hs:SlD K fr o r)(h:TEd K EX fr (eSl o f fl fh) U H Q):tSl r (TEd K EX false f) (TOd K EX fl) (TOd K EX fh) U H Q:=by
 obtain⟨sx,ρ,H0,s,e,h⟩:=h;unfold eSl at h;rw[Rk.bind]at h;refine TEd.go sx s e h fun d h v H1 aq s1 e1 r1=>?_
 rw[Rk.bind]at h;refine⟨sx.trans s1,ρ,aq,e1.2.1,e.mono e1.1,h.mono fun lo h H2 s2=>?_⟩;rw[Rk.bind]at h;refine⟨(sx.trans s1).trans s2,ρ,aq,e1.2.1.trans s2,e.mono e1.1,h.mono fun hi h H3 s3=>?_⟩;obtain⟨z,hz,h⟩:=h.of;exact hs aq H3 v d z lo hi Q (e1.2.1.trans (s2.trans s3)) r1 hz fun w H4 o=>h w H4 (o.after (s1.trans (s2.trans s3)) (e1.grow (s2.trans s3)))
theorem RDs.cut(r:RDs K H ds xs)(lo hi:Option Int):RDs K H (y4 ds lo hi) (W7 xs lo hi):=by unfold y4 W7;rw[<-r.length];exact(r.drop _).take _
theorem Fi:SlD K true dSl (kK K):=by
 intro H0 H x d z lo hi Q s r ho k;cases d<;>simp only[dSl]at ho<;>first |cases ho |skip
 . obtain⟨a,xs,rfl,ha,ra⟩:=r.lst;refine⟨a,xs,rfl,.of (s _ _ ha),fun p hp=>k _ _ (.new s hp fun H' hH=>?_)⟩;simp only[OB];exact⟨_,hH,ra.cut lo hi⟩
 . rename_i ns;obtain⟨a,rfl,ha⟩:=(r.mono s).scr;refine⟨a,_,rfl,ha,fun p hp=>k _ _ (.new s hp fun H' hH=>?_)⟩;simp only[OB];have e:=(RDs.ofInts (K:=K) (H:=H0) ns).cut lo hi;refine⟨_,hH,?_⟩;have e2:∀ns:List Int,y4 (ns.map D.int) lo hi=(y4 ns lo hi).map D.int:=fun ns=>by unfold y4;rw[gV,List.map_take,List.map_drop]
   rw[e2]at e;exact e
theorem Ao{o:D->Option Int->Option Int->Option D}{r:V->Option Int->Option Int->Hp->VK->Prop}{e:Expr}{lo hi:Option Expr}{pos p2:Pos}{f:DE->R D}{fl fh:DE->R (Option Int)}(hr:SlR X r)(hs:SlD X.K fr o r)(he:QE X EX false e f)(hl:QO X EX lo fl)(hu:QO X EX hi fh) :
 QE X EX fr (.Subscript e (.Slice lo hi none p2) pos) (eSl o f fl fh):=⟨(yP hr he.h hl.h hu.h).imp fun _ _ _ q=>y82 hs q⟩
end
def iL(f:DE->R D):DE->R (List D):=fun ρ=>(f ρ).bind fun d=>R.of (items d)
noncomputable def zD(lo:Int)(n:Nat):List D:=(List.range n).map fun (i:Nat)=>D.int (lo+i)
def S4(fs:DE->R (List D)):DE->R (List D):=fun ρ=>(fs ρ).bind fun ds=>R.of (match ds with
 | [.int j]=>if -(2 ^ 62)<=j/\j<2 ^ 62 then some (zD 0 j.toNat) else none
 |_=>none)
section
variable {X:Cx}{K:Frag}{EX:XW}{H0:Hp}
theorem Eu(hS:∀H,Same H0 H->S H)(r:RDs K H0 ds xs):Aq K (ItS S xs) H0 ds:=by have hl:=r.length;refine⟨fun i d e H H1 s1 s2=>⟨⟨hS H (s1.trans s2),by rw[<-hl];exact(AX.mp e).1⟩,fun x H' ⟨e1,e2⟩=>?_⟩,fun H s=>⟨hS H s,by rw[hl];exact η _⟩⟩;subst e1;obtain⟨x',q1,q2⟩:=r.get' e;rw[q1]at e2;cases e2;exact⟨Same.refl _,H1,.refl s2,q2.mono s1⟩
theorem y42(lo:Int)(n:Nat):RDs K H0 (zD lo n) (L5 lo n):=by
 have:∀l:List Nat,RDs K H0 (l.map fun (i:Nat)=>D.int (lo+i)) (l.map fun (i:Nat)=>V.int (lo+i)):=by
  intro l;induction l with
  |nil=>simp[RDs]
  |cons a l ih=>exact .cons (.mkInt _) ih
 exact this _
theorem E4(hl:QE X EX false l f):QI X EX false tg l (iL f):=⟨(vh hl.h).imp fun U H Q ⟨sx,ρ,H0,s,e,h⟩=>by
 unfold iL at h;rw[Rk.bind]at h;refine TEd.go sx s e h fun d h v H1 aq s1 e1 r1=>?_
 obtain⟨ds,hd,h⟩:=h.of;cases d<;>simp only[items]at hd<;>first |cases hd |skip
 . obtain⟨a,xs,rfl,ha,ra⟩:=r1.tup;exact yK (e1.2.1 _ _ ha) (h _ H1 aq s1 e1 (Eu (fun H s=>s _ _ ha) ra))
 . obtain⟨a,xs,rfl,ha,ra⟩:=r1.lst;exact yL (.inl (e1.2.1 _ _ ha)) (h _ H1 aq s1 e1 (Eu (fun H s=>.inl (s _ _ ha)) ra))⟩
theorem Py(hg:Gl X "range")(hm:X.mg "range"=none)(ha:QA X EX [a] fs)(hs:starEach [a] X.env=[(false,eval a X.env)]:=by rfl):QI X EX true tg (.Call (.Name "range" p) [a] [] pos) (S4 fs):=⟨(y34 hg hm ha.h hs).imp fun U H Q ⟨sx,ρ,H0,s,e,h⟩=>by
 unfold S4 at h;rw[Rk.bind]at h;refine TAd.go sx s e h fun ds h vs H1 aq s1 e1 r1=>?_
 obtain⟨es,hd,h⟩:=h.of;split at hd<;>first |cases hd |skip
 obtain⟨x,rfl,q1⟩:=r1.uno;cases q1.int;split at hd<;>cases hd;rename_i hb;exact⟨hb,h _ H1 aq s1 e1 (Eu (fun _ _=>trivial) (y42 _ _))⟩⟩
end
section
variable {X:Cx}{sc:Scope}{caps:List Str}{ix:List Nat}{aM iter:Expr}{aE:List Expr}{pos px py aD:Pos}{x y:Str}{kt:Nat}{kp:Bool}{EX:XW}{fi:DE->R (List D)}{t:DE->R Bool}{f:DE->R D}
noncomputable def C9:DE->R Bool:=fun _=>.ok true
inductive PTq (X:Cx) (sc:Scope) (N:List Str):List Expr->(DE->R Bool)->Prop where
 |nil:PTq X sc N [] C9
 |one {c:Expr} {t:DE->R Bool} (h:∀fp s H,QT (n9 X sc N fp s H) F0 c t):PTq X sc N [c] t
theorem PTq.run(h:PTq X sc N aE t):∃tt,(∀fp s H,PTs (n9 X sc N fp s H) aE tt)/\∀U H Q,TTd X.K F0 t U H Q->tt U H Q:=by
 cases h with
 |nil=>exact⟨_,fun _ _ _=>.nil,fun U H Q ⟨sx,ρ,H0,s,e,h⟩=>h H (Same.refl _)⟩
 |one h=>exact⟨_,fun fp s H=>.one (h fp s H).h,fun _ _ _ q=>q⟩
theorem S3(C:CompOk X sc caps ix)(hN:([x]++caps).Nodup)(hx:sc.names.lookup x=some .local)(hi:QI X EX kp (.Name x px) iter fi)(ht:PTq X sc ([x]++caps) aE t)(he:∀fp s H,QE (n9 X sc ([x]++caps) fp s H) F0 false aM f)
  (hs:∀x,foldedSetIterable iter X.env x=pure x:=by intro _;rfl):QE X EX true (.ListComp aM [⟨.Name x px,iter,aE,0⟩] sc pos) (p9 fi b1 ix t f):=by
 obtain⟨tt,h1,h2⟩:=ht.run
 refine⟨(yJ C hN hx hi.h h1 (fun fp s H=>(he fp s H).h) hs).imp fun _ _ _ q=>Ew ku h2 q⟩
theorem y83(C:CompOk X sc caps ix)(hN:([x,y]++caps).Nodup)(hx:sc.names.lookup x=some .local)(hy:sc.names.lookup y=some .local)(hi:QI X EX kp (.Tuple [.Name x px,.Name y py] kt aD) iter fi)(ht:PTq X sc ([x,y]++caps) aE t)
  (he:∀fp s H,QE (n9 X sc ([x,y]++caps) fp s H) F0 false aM f) (hs:∀x,foldedSetIterable iter X.env x=pure x:=by intro _;rfl):QE X EX true (.ListComp aM [⟨.Tuple [.Name x px,.Name y py] kt aD,iter,aE,0⟩] sc pos) (p9 fi (bT 2) ix t f):=by
 obtain⟨tt,h1,h2⟩:=ht.run
 refine⟨(yH C hN hx hy hi.h h1 (fun fp s H=>(he fp s H).h) hs).imp fun _ _ _ q=>Ew kr h2 q⟩
theorem Xj(h:∀U H Q,rz U H Q->te U H Q)(q:T1 rz g De U H):T1 te g De U H:=h _ _ _ q
theorem W1{fr:Bool}{m:List Bool}{v:Str}{k:Nat}{bH pv:Pos}(eN:X.N.Nodup)(hk:X.N[k]?=some v)(hv:X.env.scope.names.lookup v=some .local)(C:CompOk X sc caps ix)(hN:([x]++caps).Nodup)(hx:sc.names.lookup x=some .local)(hi:QI X EX kp (.Name x px) iter fi)
  (ht:PTq X sc ([x]++caps) aE t) (he:∀fp s H,QE (n9 X sc ([x]++caps) fp s H) F0 false aM f)
  (cX:swapsWith (.ListComp aM [⟨.Name x px,iter,aE,0⟩] sc pos) (some (.Name v pv)) bH.line X.env=pure true:=by rfl) (hs:∀x,foldedSetIterable iter X.env x=pure x:=by intro _;rfl) :
  QS X EX fr (.Assign [.Name v pv] (.ListComp aM [⟨.Name x px,iter,aE,0⟩] sc pos) bH) (i4 true k m (p9 fi b1 ix t f)):=by
 obtain⟨tt,h1,h2⟩:=ht.run
 refine⟨(yI eN hk hv C hN hx hi.h h1 (fun fp s H=>(he fp s H).h) cX hs).imp fun _ _ _ q=>Xj (fun _ _ _ q=>Ew ku h2 q) (Hy q)⟩
theorem y84{fr:Bool}{m:List Bool}{v:Str}{k:Nat}{bH pv:Pos}(eN:X.N.Nodup)(hk:X.N[k]?=some v)(hv:X.env.scope.names.lookup v=some .local)(C:CompOk X sc caps ix)(hN:([x,y]++caps).Nodup)(hx:sc.names.lookup x=some .local)(hy:sc.names.lookup y=some .local)
  (hi:QI X EX kp (.Tuple [.Name x px,.Name y py] kt aD) iter fi) (ht:PTq X sc ([x,y]++caps) aE t) (he:∀fp s H,QE (n9 X sc ([x,y]++caps) fp s H) F0 false aM f)
  (cX:swapsWith (.ListComp aM [⟨.Tuple [.Name x px,.Name y py] kt aD,iter,aE,0⟩] sc pos) (some (.Name v pv)) bH.line X.env=pure true:=by rfl) (hs:∀x,foldedSetIterable iter X.env x=pure x:=by intro _;rfl) :
  QS X EX fr (.Assign [.Name v pv] (.ListComp aM [⟨.Tuple [.Name x px,.Name y py] kt aD,iter,aE,0⟩] sc pos) bH) (i4 true k m (p9 fi (bT 2) ix t f)):=by
 obtain⟨tt,h1,h2⟩:=ht.run
 refine⟨(yG eN hk hv C hN hx hy hi.h h1 (fun fp s H=>(he fp s H).h) cX hs).imp fun _ _ _ q=>Xj (fun _ _ _ q=>Ew kr h2 q) (Hy q)⟩
end
section
variable {X:Cx}{EX:XW}{fr cC:Bool}{st:Stmt}{sts:List Stmt}{a c e:Expr}{es:List Expr}{f:DE->R D}{fs:DE->R (List D)}{t:DE->R Bool}{g g1 g2:DS->SR}{pos p:Pos}{m:List Bool}
theorem l6:QB X EX fr [] sNx:=⟨pss_nil.imp fun _ _ _ q=>y7u q⟩
theorem i5(h:QS X EX fr st g):QB X EX fr [st] g:=⟨xG h.h⟩
theorem g7(h1:QS X EX fr st g1)(h2:QB X EX fr sts g2):QB X EX fr (st::sts) (e7 g1 g2):=⟨(Wx h1.h h2.h).imp fun _ _ _ q=>y3j q⟩
theorem l5(hc:QT X EX c t)(ha:QB X EX fr x g1)(hb:QB X EX fr y g2):QS X EX fr (.If c x y pos) (sIf t g1 g2):=⟨(y2r hc.h ha.h hb.h).imp fun _ _ _ q=>y3k q⟩
theorem j4(he:QE X EX fr e f):QS X EX fr (.Return (some e) pos) (g9 m f):=⟨(Tt he.h).imp fun _ _ _ q=>y3l q⟩
theorem qP(hN:X.N[i]?=some x:=by rfl)(hv:Vis X.env.scope x:=by first |exact .inl rfl |exact .inr (.inl rfl) |exact .inr (.inr rfl))(hd:(x==("__debug__":Str))=false:=by decide)
 (bp:(x==("__classdict__":Str))=false:=by decide):QS X EX true (.Return (some (.Name x p)) pos) (Ei i):=⟨(Tt (pw i hN hv hd bp)).imp fun _ _ _ q=>qY q⟩
theorem Sx(he:QE X EX false e f)(hs:swapsWith e none pos.line X.env=pure false:=by rfl):QS X EX fr (.Expr e pos) (B0 f):=⟨(Vt he.h hs).imp fun _ _ _ q=>qX q⟩
theorem y44(hN:X.N.Nodup)(hi:X.N[i]?=some x)(hx:Loc X.env.scope x)(he:QE X EX cC e f)(hs:swapsWith e (some (.Name x cD)) pos.line X.env=pure false:=by rfl)(hf:X.fn x=true\/X.env.scope.names.lookup x=some .local) :
 QS X EX fr (.Assign [.Name x cD] e pos) (i4 cC i m f):=⟨(vw hN hi hx he.h hs hf).imp fun _ _ _ q=>Hy q⟩
theorem g_n(hN:X.N.Nodup)(hi:X.N[i]?=some x)(hx:Loc X.env.scope x)(hf:X.fn x=true\/X.env.scope.names.lookup x=some .local:=by exact .inl rfl):QG X (.Name x pos) (.n i):=⟨(Lk hN hi hx hf).imp fun _ _ _ _ q=>y7w q⟩
theorem qO:QGs X [] []:=⟨yF⟩
theorem Vg(hN:X.N.Nodup)(hi:X.N[i]?=some x)(hx:Loc X.env.scope x)(hr:QGs X ts is)(hf:X.fn x=true\/X.env.scope.names.lookup x=some .local:=by exact .inl rfl)
 (hs:(assignEach (.Name x pos::ts) X.env).map (·.2)=assign (.Name x pos) X.env::(assignEach ts X.env).map (·.2):=by rfl):QGs X (.Name x pos::ts) (i::is):=⟨zy (Lk hN hi hx hf) hr.h hs⟩
theorem g_t(hc:X.calm=true)(h:QGs X ts is)(hn:(assignEach ts X.env).length=is.length:=by rfl)(aJ:(assignEach ts X.env).findIdx? (·.1)=none:=by rfl):QG X (.Tuple ts k pos) (.t is):=⟨(xj hc h.h hn aJ).imp fun _ _ _ _ q=>y7x q⟩
theorem Hv(hp:PassesOwn (model X.prog X.w) X.A X.env X.xe)(hc:X.calm=true)(hi:QI X EX kp tg iter fi)(hg:QG X tg tt)(hb:QB X EX fr body g)
 (hs:∀x,foldedSetIterable iter X.env x=pure x:=by intro _;rfl):QS X EX fr (.For tg iter body [] pos) (T4 kp m fi tt g):=⟨(xl hp hc hi.h hg.h hb.h hs).imp fun _ _ _ q=>y3p q⟩
theorem wJ(hp:PassesOwn (model X.prog X.w) X.A X.env X.xe)(hc:QT X EX c t)(hb:QB X EX fr body g):QS X EX fr (.While c body [] pos) (Bq n t g):=⟨(yU hp hc.h hb.h).imp fun _ _ _ q=>wU q⟩
noncomputable def E0:D->List D->Option D
 | .lst ds,[d]=>if ds.length<100000 then some (.lst (ds++[d])) else none
 |_,_=>none
theorem Fh{K:Frag}:TyD K "list":=fun H0 H a d ob h=>by cases d<;>simp[isT]at h;simp only[OB]at ob;obtain⟨xs,hx,_⟩:=ob;exact .inl ⟨rfl,xs,.of hx⟩
theorem Et{K:Frag}:Qe K E0 Vs:=by
 intro H0 H a d d' ds vs Q s h0 ob r hm k;unfold E0 at hm;split at hm<;>first |cases hm |skip
 split at hm<;>cases hm;rename_i es e hl;simp only[OB]at ob;obtain⟨xs,hx,rx⟩:=ob;obtain⟨y,rfl,q1⟩:=r.uno;refine⟨a,xs,y,rfl,rfl,hx,by rw[<-rx.length];exact Xl hl,k _ _ ?_⟩;simp only[OB];exact⟨_,w8,rx.append (.one q1)⟩
theorem Dy{T id:String}{name:Str}{i:Nat}{x:Str}{xp aw ag:Pos}{mt:D->List D->Option D}{rr:V->List V->Hp->VK->Prop}(pa:PlainAttrs T)(slot:Slot T name id)(eL:typeOf (.builtin id)=pure (.type "method_descriptor"))(hm:MtM X id rr)(od:Qe X.K mt rr)(hT:TyD X.K T)
 (ho:PE X (.Name x xp) (P7 i)) (ha:QA X EX (e::es) fs)
 (aP:attributeBase (.Name x xp) name X.env (eval (.Name x xp) X.env)=eval (.Name x xp) X.env:=by rfl)
 (cf:((backTo ag (starEach (e::es) X.env)).all (fun x=>!x.1)&&(backToKw ag (keywordEach [] X.env)).all (fun x=>x.1.isSome)
  && decide ((e::es).length+([]:List Keyword).length+(if([]:List Keyword).isEmpty then 0 else 1)<30))=true:=by rfl)
 (bO:(aw.endLine==ag.line)=true:=by rfl) (hs:starEach (e::es) X.env=(false,eval e X.env)::starEach es X.env:=by rfl) (bc:(backTo ag (starEach es X.env)).any (·.1)=false:=by rfl)
 (cX:swapsWith (.Call (.Attribute (.Name x xp) name aw) (e::es) [] ag) none pos.line X.env=pure false:=by rfl) :
 QS X EX fr (.Expr (.Call (.Attribute (.Name x xp) name aw) (e::es) [] ag) pos) (N4 T mt i m fs):=⟨(Vt (Ec pa slot eL hm ho ha.h aP cf bO hs bc) cX).imp fun _ _ _ q=>y3n od hT q⟩
end
theorem fnD{P:Program}{w:World}{K:Frag}{mg:Str->Option Value}{base:Heap}{x qual:Str}{st:Stmt}{f:Addr}{fd:FuncData}{N ps:List Str}{k n kk:Nat}{fr:Bool}{g:DS->SR}(F:Fun K x qual st f fd)(S:FnScope N ps (i7 st))(lj:ps.length=n)(hN:N.length=n+kk)
  (bo:∀(cdv:Value)(A:Around)(outer:List Env)(s:Shared)(H:Hp)(E:XK),Room k (A.deeper (envOfC qual (i7 st) s.heap.objs.size f cdv)) ->
   QB (J5 (CX1 P w) P w K mg base N qual (i7 st) f cdv A outer s H E) ⟨H,xNm K mg E⟩ fr (t9 st) g):FnOk P w K mg base (CX1 P w) (k+1) f fd ps (spD K mg fr (mOf fr n kk g) n):=by
 have am:∀{vs:List V}{H:Hp}{Q:VK}{E:XK},spD K mg fr (mOf fr n kk g) n vs H Q E->vs.length=n:=fun {vs H Q E} h=>by obtain⟨ds,H0,s,r,hn,_⟩:=h;rw[<-r.length];exact hn
 refine F.okX S (fun vs H Q E h=>by rw[am h,lj]) (fun cdv A outer s H vs Q E hr h=>⟨_,(bo cdv A outer s H E hr).h,?_⟩)
 have e:E5 N vs=vs.map some++List.replicate kk none:=by unfold E5;rw[am h,hN,Nat.add_sub_cancel_left]
 rw[e]
 exact Td h
def spL(K:Frag)(fr:Bool)(m:List D->R D)(n:Nat):Sp:=fun vs H Q _=>∃ds H0,Same H0 H/\RDs K H0 ds vs/\ds.length=n/\Rk (fun _=>False) (m ds) fun d=>∀v H',Out K fr H0 H d v H'->Q v H'
theorem spL.spD{K:Frag}{fr:Bool}{m:List D->R D}{n:Nat}{vs:List V}{H:Hp}{Q:VK}{E:XK}{mg:Str->Option Value}(h:spL K fr m n vs H Q E):L2.spD K mg fr m n vs H Q E:=by
 obtain⟨ds,H0,s,r,hn,h⟩:=h;refine⟨ds,H0,s,r,hn,?_⟩;cases q:m ds with
 |ok d=>rw[q]at h;exact h
 |er x=>rw[q]at h;exact h.elim
 |st=>rw[q]at h;exact h.elim
theorem qN{K:Frag}{H:Hp}{a:Addr}{ns:List Int}{m:List D->R D}{fr:Bool}(hO:Gz H)(hS:SqL K H a (ns.map V.int))(h:m [.scr ns]=.ok (.bl true)):spL K fr m 1 [.ref a] H (fun v _=>v=.bl true) fun _ _ _=>False:=by
 refine⟨[.scr ns],H,Same.refl _,.one ?_,rfl,?_⟩
 . simp only[RD];refine⟨a,rfl,?_⟩;rcases hS with (hS |hS) |hS
   . rcases hO a with z |⟨o,xs,z⟩<;>rw[z]at hS<;>cases hS
   . exact .inl hS
   . exact .inr hS
 . rw[h];exact fun v H' o=>by obtain⟨_,ac,_,r⟩:=o.weak.rd;exact r.bl
end L2
namespace L2
open PySem PySem.Spec PyProof.Rows
open PySem.W (KasT kas_sort kas_rev kas_asc kas_desc kas_tail3 kas_descPart kas_count kas_place kas_bin)
section
variable {p:Array Nat}
abbrev g(p:Array Nat)(i:Nat):Nat:=p.getD i 0
end
end L2
namespace L2
open PySem PySem.Spec PyProof.Rows
open PySem.W (KasT kas_sort)
mutual
noncomputable def D.oi:D->Bool
 | .int _=>true
 | .tup ds=>ois ds
 |_=>false
noncomputable def ois:List D->Bool
 | []=>true
 |d::ds=>d.oi&&ois ds
end
mutual
noncomputable def ltT:D->D->Bool
 | .int i,.int j=>decide (i<j)
 | .int _,.tup _=>true
 | .tup ds,.tup es=>v0 ds es
 |_,_=>false
noncomputable def v0:List D->List D->Bool
 | [],[]=>false
 | [],_::_=>true
 |_::_,[]=>false
 |d::ds,e::es=>if eqD d e=true then v0 ds es else ltT d e
end
mutual
noncomputable def j8:D->D->Option Bool
 | .int i,.int j=>some (decide (i<j))
 | .tup ds,.tup es=>x6 ds es
 |_,_=>none
noncomputable def x6:List D->List D->Option Bool
 | [],[]=>some false
 | [],_::_=>some true
 |_::_,[]=>some false
 |d::ds,e::es=>if eqD d e=true then x6 ds es else j8 d e
end
mutual
theorem Sw:∀{d e:D}{b:Bool},j8 d e=some b->b=ltT d e
 | .int i,.int j,b,h=>by simp only[j8,Option.some.injEq]at h;simp only[ltT];exact h.symm
 | .tup ds,.tup es,b,h=>by simp only[j8]at h;simp only[ltT];exact Vf h
 | .non,e,b,h=>by simp[j8]at h
 | .bl _,e,b,h=>by simp[j8]at h
 | .str _,e,b,h=>by simp[j8]at h
 | .lst _,e,b,h=>by simp[j8]at h
 | .dk _ _,e,b,h=>by simp[j8]at h
 | .dt _ _,e,b,h=>by simp[j8]at h
 | .dn _ _,e,b,h=>by simp[j8]at h
 | .scr _,e,b,h=>by simp[j8]at h
 | .exc _ _,e,b,h=>by simp[j8]at h
 | .obj _ _,e,b,h=>by simp[j8]at h
 | .dp _ _,e,b,h=>by simp[j8]at h
 | .int _,.non,b,h=>by simp[j8]at h
 | .int _,.bl _,b,h=>by simp[j8]at h
 | .int _,.str _,b,h=>by simp[j8]at h
 | .int _,.lst _,b,h=>by simp[j8]at h
 | .int _,.tup _,b,h=>by simp[j8]at h
 | .int _,.dk _ _,b,h=>by simp[j8]at h
 | .int _,.dt _ _,b,h=>by simp[j8]at h
 | .int _,.dn _ _,b,h=>by simp[j8]at h
 | .int _,.scr _,b,h=>by simp[j8]at h
 | .int _,.exc _ _,b,h=>by simp[j8]at h
 | .int _,.obj _ _,b,h=>by simp[j8]at h
 | .int _,.dp _ _,b,h=>by simp[j8]at h
 | .tup _,.non,b,h=>by simp[j8]at h
 | .tup _,.bl _,b,h=>by simp[j8]at h
 | .tup _,.int _,b,h=>by simp[j8]at h
 | .tup _,.str _,b,h=>by simp[j8]at h
 | .tup _,.lst _,b,h=>by simp[j8]at h
 | .tup _,.dk _ _,b,h=>by simp[j8]at h
 | .tup _,.dt _ _,b,h=>by simp[j8]at h
 | .tup _,.dn _ _,b,h=>by simp[j8]at h
 | .tup _,.scr _,b,h=>by simp[j8]at h
 | .tup _,.exc _ _,b,h=>by simp[j8]at h
 | .tup _,.obj _ _,b,h=>by simp[j8]at h
 | .tup _,.dp _ _,b,h=>by simp[j8]at h
theorem Vf:∀{ds es:List D}{b:Bool},x6 ds es=some b->b=v0 ds es
 | [],[],b,h=>by simp only[x6,Option.some.injEq]at h;simp only[v0];exact h.symm
 | [],_::_,b,h=>by simp only[x6,Option.some.injEq]at h;simp only[v0];exact h.symm
 |_::_,[],b,h=>by simp only[x6,Option.some.injEq]at h;simp only[v0];exact h.symm
 |d::ds,e::es,b,h=>by
  simp only[x6]at h;simp only[v0];split at h
  . rename_i q;rw[ζ q];exact Vf h
  . rename_i q;rw[ξ q];exact Sw h
end
mutual
theorem X4:∀{d e:D},d.oi=true->eqD d e=true->e.oi=true->d=e
 | .int i,.int j,_,h,_=>by simp only[eqD,BN]at h;rw[h]
 | .tup ds,.tup es,p,h,q=>by simp only[eqD]at h;simp only[D.oi]at p q;rw[Sv p h q]
 | .int i,.tup _,_,h,_=>by simp[eqD]at h
 | .tup _,.int _,_,h,_=>by simp[eqD]at h
 | .int _,.non,_,_,q=>by simp[D.oi]at q
 | .int _,.bl _,_,_,q=>by simp[D.oi]at q
 | .int _,.str _,_,_,q=>by simp[D.oi]at q
 | .int _,.lst _,_,_,q=>by simp[D.oi]at q
 | .int _,.dk _ _,_,_,q=>by simp[D.oi]at q
 | .int _,.dt _ _,_,_,q=>by simp[D.oi]at q
 | .int _,.dn _ _,_,_,q=>by simp[D.oi]at q
 | .int _,.scr _,_,_,q=>by simp[D.oi]at q
 | .int _,.exc _ _,_,_,q=>by simp[D.oi]at q
 | .int _,.obj _ _,_,_,q=>by simp[D.oi]at q
 | .int _,.dp _ _,_,_,q=>by simp[D.oi]at q
 | .tup _,.non,_,_,q=>by simp[D.oi]at q
 | .tup _,.bl _,_,_,q=>by simp[D.oi]at q
 | .tup _,.str _,_,_,q=>by simp[D.oi]at q
 | .tup _,.lst _,_,_,q=>by simp[D.oi]at q
 | .tup _,.dk _ _,_,_,q=>by simp[D.oi]at q
 | .tup _,.dt _ _,_,_,q=>by simp[D.oi]at q
 | .tup _,.dn _ _,_,_,q=>by simp[D.oi]at q
 | .tup _,.scr _,_,_,q=>by simp[D.oi]at q
 | .tup _,.exc _ _,_,_,q=>by simp[D.oi]at q
 | .tup _,.obj _ _,_,_,q=>by simp[D.oi]at q
 | .tup _,.dp _ _,_,_,q=>by simp[D.oi]at q
 | .non,_,p,_,_=>by simp[D.oi]at p
 | .bl _,_,p,_,_=>by simp[D.oi]at p
 | .str _,_,p,_,_=>by simp[D.oi]at p
 | .lst _,_,p,_,_=>by simp[D.oi]at p
 | .dk _ _,_,p,_,_=>by simp[D.oi]at p
 | .dt _ _,_,p,_,_=>by simp[D.oi]at p
 | .dn _ _,_,p,_,_=>by simp[D.oi]at p
 | .scr _,_,p,_,_=>by simp[D.oi]at p
 | .exc _ _,_,p,_,_=>by simp[D.oi]at p
 | .obj _ _,_,p,_,_=>by simp[D.oi]at p
 | .dp _ _,_,p,_,_=>by simp[D.oi]at p
theorem Sv:∀{ds es:List D},ois ds=true->o9 ds es=true->ois es=true->ds=es
 | [],[],_,_,_=>rfl
 | [],_::_,_,h,_=>by simp[o9]at h
 |_::_,[],_,h,_=>by simp[o9]at h
 |d::ds,e::es,p,h,q=>by simp only[o9,oF]at h;simp only[ois,oF]at p q;rw[X4 p.1 h.1 q.1,Sv p.2 h.2 q.2]
end
mutual
theorem Fg:∀{d:D},d.oi=true->eqD d d=true
 | .int i,_=>by simp[eqD]
 | .tup ds,p=>by simp only[eqD];exact Wo (by simpa only [D.oi] using p)
 | .non,p=>by simp[D.oi]at p
 | .bl _,p=>by simp[D.oi]at p
 | .str _,p=>by simp[D.oi]at p
 | .lst _,p=>by simp[D.oi]at p
 | .dk _ _,p=>by simp[D.oi]at p
 | .dt _ _,p=>by simp[D.oi]at p
 | .dn _ _,p=>by simp[D.oi]at p
 | .scr _,p=>by simp[D.oi]at p
 | .exc _ _,p=>by simp[D.oi]at p
 | .obj _ _,p=>by simp[D.oi]at p
 | .dp _ _,p=>by simp[D.oi]at p
theorem Wo:∀{ds:List D},ois ds=true->o9 ds ds=true
 | [],_=>rfl
 |d::ds,p=>by simp only[ois,oF]at p;simp only[o9,Fg p.1,Wo p.2,CI]
end
mutual
theorem Es:∀{d e:D},d.oi=true->e.oi=true->ltT d e=false->ltT e d=false->d=e
 | .int i,.int j,_,_,h,h'=>by
  simp only[ltT,BC]at h h';have:i=j:=by lia
  rw[this]
 | .tup ds,.tup es,p,q,h,h'=>by simp only[ltT]at h h';simp only[D.oi]at p q;rw[Ve p q h h']
 | .int _,.tup _,_,_,h,_=>by simp[ltT]at h
 | .tup _,.int _,_,_,_,h=>by simp[ltT]at h
 | .int _,.non,_,q,_,_=>by simp[D.oi]at q
 | .int _,.bl _,_,q,_,_=>by simp[D.oi]at q
 | .int _,.str _,_,q,_,_=>by simp[D.oi]at q
 | .int _,.lst _,_,q,_,_=>by simp[D.oi]at q
 | .int _,.dk _ _,_,q,_,_=>by simp[D.oi]at q
 | .int _,.dt _ _,_,q,_,_=>by simp[D.oi]at q
 | .int _,.dn _ _,_,q,_,_=>by simp[D.oi]at q
 | .int _,.scr _,_,q,_,_=>by simp[D.oi]at q
 | .int _,.exc _ _,_,q,_,_=>by simp[D.oi]at q
 | .int _,.obj _ _,_,q,_,_=>by simp[D.oi]at q
 | .int _,.dp _ _,_,q,_,_=>by simp[D.oi]at q
 | .tup _,.non,_,q,_,_=>by simp[D.oi]at q
 | .tup _,.bl _,_,q,_,_=>by simp[D.oi]at q
 | .tup _,.str _,_,q,_,_=>by simp[D.oi]at q
 | .tup _,.lst _,_,q,_,_=>by simp[D.oi]at q
 | .tup _,.dk _ _,_,q,_,_=>by simp[D.oi]at q
 | .tup _,.dt _ _,_,q,_,_=>by simp[D.oi]at q
 | .tup _,.dn _ _,_,q,_,_=>by simp[D.oi]at q
 | .tup _,.scr _,_,q,_,_=>by simp[D.oi]at q
 | .tup _,.exc _ _,_,q,_,_=>by simp[D.oi]at q
 | .tup _,.obj _ _,_,q,_,_=>by simp[D.oi]at q
 | .tup _,.dp _ _,_,q,_,_=>by simp[D.oi]at q
 | .non,_,p,_,_,_=>by simp[D.oi]at p
 | .bl _,_,p,_,_,_=>by simp[D.oi]at p
 | .str _,_,p,_,_,_=>by simp[D.oi]at p
 | .lst _,_,p,_,_,_=>by simp[D.oi]at p
 | .dk _ _,_,p,_,_,_=>by simp[D.oi]at p
 | .dt _ _,_,p,_,_,_=>by simp[D.oi]at p
 | .dn _ _,_,p,_,_,_=>by simp[D.oi]at p
 | .scr _,_,p,_,_,_=>by simp[D.oi]at p
 | .exc _ _,_,p,_,_,_=>by simp[D.oi]at p
 | .obj _ _,_,p,_,_,_=>by simp[D.oi]at p
 | .dp _ _,_,p,_,_,_=>by simp[D.oi]at p
theorem Ve:∀{ds es:List D},ois ds=true->ois es=true->v0 ds es=false->v0 es ds=false->ds=es
 | [],[],_,_,_,_=>rfl
 | [],_::_,_,_,h,_=>by simp[v0]at h
 |_::_,[],_,_,_,h=>by simp[v0]at h
 |d::ds,e::es,p,q,h,h'=>by
  simp only[ois,oF]at p q;simp only[v0]at h h';by_cases w:eqD d e=true
  . have:=X4 p.1 w q.1;subst this;rw[ζ w]at h;rw[ζ w]at h';rw[Ve p.2 q.2 h h']
  . have w':¬eqD e d=true:=fun z=>w (by rw[X4 q.1 z p.1];exact Fg p.1)
    rw[ξ w]at h;rw[ξ w']at h';have:=Es p.1 q.1 h h';subst this;exact absurd (Fg p.1) w
end
mutual
theorem Kh:∀{d:D},d.oi=true->ltT d d=false
 | .int i,_=>by simp[ltT]
 | .tup ds,p=>by simp only[ltT];exact Vd (by simpa only [D.oi] using p)
 | .non,p=>by simp[D.oi]at p
 | .bl _,p=>by simp[D.oi]at p
 | .str _,p=>by simp[D.oi]at p
 | .lst _,p=>by simp[D.oi]at p
 | .dk _ _,p=>by simp[D.oi]at p
 | .dt _ _,p=>by simp[D.oi]at p
 | .dn _ _,p=>by simp[D.oi]at p
 | .scr _,p=>by simp[D.oi]at p
 | .exc _ _,p=>by simp[D.oi]at p
 | .obj _ _,p=>by simp[D.oi]at p
 | .dp _ _,p=>by simp[D.oi]at p
theorem Vd:∀{ds:List D},ois ds=true->v0 ds ds=false
 | [],_=>rfl
 |d::ds,p=>by simp only[ois,oF]at p;simp only[v0];rw[ζ (Fg p.1)];exact Vd p.2
end
mutual
theorem Dx:∀{d e f:D},d.oi=true->e.oi=true->f.oi=true->ltT d e=true->ltT e f=true->ltT d f=true
 | .int i,.int j,.int k,_,_,_,h,h'=>by
  simp only[ltT,AW]at h h'⊢
  lia
 | .int i,.int j,.tup _,_,_,_,h,h'=>by simp only[ltT]
 | .int i,.tup _,.tup _,_,_,_,h,h'=>by simp only[ltT]
 | .tup ds,.tup es,.tup fs,p,q,r,h,h'=>by simp only[ltT]at h h'⊢;simp only[D.oi]at p q r;exact Su p q r h h'
 | .int i,.tup _,.int _,_,_,_,h,h'=>by simp[ltT]at h'
 | .tup _,.int _,_,_,_,_,h,h'=>by simp[ltT]at h
 | .tup _,.tup _,.int _,_,_,_,h,h'=>by simp[ltT]at h'
 | .non,_,_,p,_,_,_,_=>by simp[D.oi]at p
 | .bl _,_,_,p,_,_,_,_=>by simp[D.oi]at p
 | .str _,_,_,p,_,_,_,_=>by simp[D.oi]at p
 | .lst _,_,_,p,_,_,_,_=>by simp[D.oi]at p
 | .dk _ _,_,_,p,_,_,_,_=>by simp[D.oi]at p
 | .dt _ _,_,_,p,_,_,_,_=>by simp[D.oi]at p
 | .dn _ _,_,_,p,_,_,_,_=>by simp[D.oi]at p
 | .scr _,_,_,p,_,_,_,_=>by simp[D.oi]at p
 | .exc _ _,_,_,p,_,_,_,_=>by simp[D.oi]at p
 | .obj _ _,_,_,p,_,_,_,_=>by simp[D.oi]at p
 | .dp _ _,_,_,p,_,_,_,_=>by simp[D.oi]at p
 |_,.non,_,_,p,_,_,_=>by simp[D.oi]at p
 |_,.bl _,_,_,p,_,_,_=>by simp[D.oi]at p
 |_,.str _,_,_,p,_,_,_=>by simp[D.oi]at p
 |_,.lst _,_,_,p,_,_,_=>by simp[D.oi]at p
 |_,.dk _ _,_,_,p,_,_,_=>by simp[D.oi]at p
 |_,.dt _ _,_,_,p,_,_,_=>by simp[D.oi]at p
 |_,.dn _ _,_,_,p,_,_,_=>by simp[D.oi]at p
 |_,.scr _,_,_,p,_,_,_=>by simp[D.oi]at p
 |_,.exc _ _,_,_,p,_,_,_=>by simp[D.oi]at p
 |_,.obj _ _,_,_,p,_,_,_=>by simp[D.oi]at p
 |_,.dp _ _,_,_,p,_,_,_=>by simp[D.oi]at p
 |_,_,.non,_,_,p,_,_=>by simp[D.oi]at p
 |_,_,.bl _,_,_,p,_,_=>by simp[D.oi]at p
 |_,_,.str _,_,_,p,_,_=>by simp[D.oi]at p
 |_,_,.lst _,_,_,p,_,_=>by simp[D.oi]at p
 |_,_,.dk _ _,_,_,p,_,_=>by simp[D.oi]at p
 |_,_,.dt _ _,_,_,p,_,_=>by simp[D.oi]at p
 |_,_,.dn _ _,_,_,p,_,_=>by simp[D.oi]at p
 |_,_,.scr _,_,_,p,_,_=>by simp[D.oi]at p
 |_,_,.exc _ _,_,_,p,_,_=>by simp[D.oi]at p
 |_,_,.obj _ _,_,_,p,_,_=>by simp[D.oi]at p
 |_,_,.dp _ _,_,_,p,_,_=>by simp[D.oi]at p
theorem Su:∀{ds es fs:List D},ois ds=true->ois es=true->ois fs=true->v0 ds es=true->v0 es fs=true->v0 ds fs=true
 | [],_,_::_,_,_,_,_,_=>by simp only[v0]
 |_,[],[],_,_,_,_,h=>by simp[v0]at h
 |_::_,[],_,_,_,_,h,_=>by simp[v0]at h
 |_,_::_,[],_,_,_,_,h=>by simp[v0]at h
 |d::ds,e::es,f::fs,p,q,r,h,h'=>by
  simp only[ois,oF]at p q r;simp only[v0]at h h'⊢;by_cases w:eqD d e=true
  . have:=X4 p.1 w q.1;subst this;rw[ζ w]at h;by_cases w2:eqD d f=true
    . rw[ζ w2]at h'⊢;exact Su p.2 q.2 r.2 h h'
    . rw[ξ w2]at h'⊢;exact h'
  . rw[ξ w]at h;by_cases w2:eqD e f=true
    . have:=X4 q.1 w2 r.1;subst this;rw[ξ w];exact h
    . rw[ξ w2]at h';have h3:=Dx p.1 q.1 r.1 h h';by_cases w3:eqD d f=true
      . have:=X4 p.1 w3 r.1;subst this;rw[Kh p.1]at h3;cases h3
      . rw[ξ w3];exact h3
end
theorem Lc:∀{ds:List D}{i:Nat},ois ds=true->(ds.getD i (.int 0)).oi=true
 | [],i,_=>by simp[D.oi]
 |d::ds,0,h=>by simp only[ois,oF]at h;simpa using h.1
 |d::ds,i+1,h=>by simp only[ois,oF]at h;simpa using Lc (i:=i) h.2
def ltI(ds:List D)(i j:Nat):Bool:=ltT (ds.getD i (.int 0)) (ds.getD j (.int 0))
def N0(d:D):List D->List D
 | []=>[d]
 |e::r=>if ltT e d=true then e::N0 d r else d::e::r
def z8:List D->List D
 | []=>[]
 |d::r=>N0 d (z8 r)
theorem Mn(d:D):∀l:List D,(N0 d l).Perm (d::l)
 | []=>.refl _
 |e::r=>by
  unfold N0;split
  . exact((Mn d r).cons e).trans (.swap d e r)
  . exact .refl _
theorem R9:∀l:List D,(z8 l).Perm l
 | []=>.refl _
 |d::r=>(Mn d (z8 r)).trans ((R9 r).cons d)
theorem ois_mem:∀{ds:List D},ois ds=true↔∀d∈ds,d.oi=true
 | []=>by simp[ois]
 |d::ds=>by simp[ois,ois_mem (ds:=ds)]
def Srt(l:List D):Prop:=l.Pairwise fun a b=>ltT b a=false
theorem Wn:∀{l:List D},d.oi=true->ois l=true->Srt l->Srt (N0 d l)
 | [],_,_,_=>by simp[N0,Srt]
 |e::r,hd,hl,hs=>by
  simp only[ois,oF]at hl;obtain⟨h1,h2⟩:=CP.mp hs;unfold N0;split
  . rename_i aH;refine CP.mpr ⟨fun x hx=>?_,Wn hd hl.2 h2⟩;rcases gq.mp ((Mn d r).mem_iff.mp hx) with rfl |hx
    . cases hq:ltT x e with
      |false=>rfl
      |true=>
       have:=Dx hl.1 hd hl.1 aH hq
       rw[Kh hl.1]at this;cases this
    . exact h1 x hx
  . rename_i aH;have aH:ltT e d=false:=by simpa using aH
    refine CP.mpr ⟨fun x hx=>?_,hs⟩;rcases gq.mp hx with rfl |hx
    . exact aH
    . have rA:=(ois_mem.mp hl.2) x hx;cases hq:ltT x d with
      |false=>rfl
      |true=>
       have h3:=h1 x hx
       cases hy:ltT d e with
       |true=>rw[Dx rA hd hl.1 hq hy]at h3;cases h3
       |false=>
        rw[Es hd hl.1 hy aH]at hq
        rw[hq]at h3;cases h3
theorem Fw(p:l.Perm l')(h:ois l'=true):ois l=true:=ois_mem.mpr fun d hd=>(ois_mem.mp h) d (p.mem_iff.mp hd)
theorem Cj:∀{l:List D},ois l=true->Srt (z8 l)
 | [],_=>.nil
 |d::r,h=>by simp only[ois,oF]at h;exact Wn h.1 (Fw (R9 r) h.2) (Cj h.2)
theorem Fv:∀{l l':List D},ois l=true->l.Perm l'->Srt l->Srt l'->l=l'
 | [],l',_,p,_,_=>by rw[p.nil_eq]
 |a::r,[],_,p,_,_=>by have:=p.length_eq;simp at this
 |a::r,b::r',h,p,s,s'=>by
  have h':=h;simp only[ois,oF]at h;obtain⟨h1,h2⟩:=CP.mp s;obtain⟨h3,h4⟩:=CP.mp s';have hb:b∈a::r:=p.mem_iff.mpr dg;have ha:a∈b::r':=p.mem_iff.mp dg;have rB:=(ois_mem.mp h') b hb;have e:a=b:=by
   rcases gq.mp hb with z |z
   . exact z.symm
   . rcases gq.mp ha with w |w
     . exact w
     . exact Es h.1 rB (h3 a w) (h1 b z)
  subst e;rw[Fv h.2 (List.perm_cons a |>.mp p) h2 h4]
end L2
namespace L2
open PySem PySem.Spec PyProof.Rows
open PySem.W (KasT kas_sort kas_rev kas_asc kas_desc kas_tail3 kas_descPart kas_count kas_place kas_bin)
def InP{α:Type}(n:Nat)(P:α->Prop):KasT α->Prop
 | .ret a=>P a
 | .ask i j k=>i<n/\j<n/\∀b,InP n P (k b)
theorem InP.bind:∀{t:KasT α},InP n P t->(∀a,P a->InP n P' (f a))->InP n P' (t.bind f)
 | .ret a,h,hf=>hf a h
 | .ask i j k,h,hf=>⟨h.1,h.2.1,fun b=>InP.bind (h.2.2 b) hf⟩
def RcLt(A:Around)(s:Shared)(x y:Value)(b:Bool):Prop:=∀(prog:Program)(w:World)(E:Value->Shared->Prop)(Q:Value->Shared->Prop),Q (.bool b) s->wpAny (model prog w) A (richCompare .Lt x y) Q E s
inductive LexR (A:Around) (s:Shared):List Value->List Value->Bool->Prop
 |nn:LexR A s [] [] false
 |nc {w ws}:LexR A s [] (w::ws) true
 |cn {v vs}:LexR A s (v::vs) [] false
 |eq {v w vs ws b} (h:SeqAt.EqAt A s v w true) (r:LexR A s vs ws b):LexR A s (v::vs) (w::ws) b
 |lt {v w vs ws b} (h:SeqAt.EqAt A s v w false) (r:RcLt A s v w b):LexR A s (v::vs) (w::ws) b
section
open PySem.SeqAt
open PySem.AutoSeq1 (wpAny_loadPart')
open PySem.MeetsSeq PySem.MeetsSeq2 PySem.MeetsSeq3
theorem zj6(l b:Addr)(items bf:Array Value)(n n2:Nat)(dd gY:Option Addr)(sl dD:Array (Option Value))(r:Bool) :
  Meets (Builtin.«tuple.__lt__» ⟨[.ref l,.ref b],[]⟩)
   (fun A R s=>s.heap.get? l=some { cls:=.type "tuple",dict:=dd,data:=.seq items n,slots:=sl }/\s.heap.get? b=some { cls:=.type "tuple",dict:=gY,data:=.seq bf n2,slots:=dD } /\
    LexR A.in1 s items.toList bf.toList r/\R (.ok (.ret (.bool r))) s):=
 .of_wp fun prog w A R s h=>by
  obtain⟨hp,g,d,tk,os⟩:=s;obtain⟨hl,hb,hL,h⟩:=h;have f2:=AutoSeq1.sub_tuple_tuple
  wp_walk using wpAny_loadPart' hl,wpAny_loadPart' hb,wpAny_forIn_list _ (fun rest b s'=>b.1=none/\s'=⟨hp,g,d,tk,os⟩/\∃(vs ws:List Value)(r':Bool),rest=vs.zip ws /\
   LexR A.in1 ⟨hp,g,d,tk,os⟩ vs ws r'/\vs.length+bf.size=ws.length+items.size/\R (.ok (.ret (.bool r'))) ⟨hp,g,d,tk,os⟩) _
  case turn=>
   rintro⟨y,x⟩ rest b s' ⟨cc,rfl,vs,ws,r',hz,ll,am,hR⟩
   cases ll with
   |nn=>rw[List.zip_nil_left]at hz;cases hz
   |nc=>rw[List.zip_nil_left]at hz;cases hz
   |cn=>rw[List.zip_nil_right]at hz;cases hz
   |eq he hr=>
    rw[BS]at hz
    injection hz with lm fH
    injection lm with hy hx
    subst hy hx
    simp only[pp]at am
    refine χ (he prog w _ _ ?_)
    wp_walk
    exact⟨rfl,rfl,_,_,_,fH,hr,by lia,hR⟩
   |lt he hr=>
    rw[BS]at hz
    injection hz with lm fH
    injection lm with hy hx
    subst hy hx
    refine χ (he prog w _ _ ?_)
    have rC:=hr prog w
    wp_walk using rC
    exact⟨_,rfl,by simpa using hR⟩
  case fin=>
   rintro⟨b1,b2⟩ s' ⟨cc,rfl,vs,ws,r',hz,ll,am,hR⟩
   simp only at cc
   subst cc
   have hv:r'=decide (items.size<bf.size):=by
    cases ll with
    |nn=>simp only[List.length_nil]at am;exact(decide_eq_false (by lia)).symm
    |nc=>simp only[List.length_nil,pp]at am;exact(decide_eq_true (by lia)).symm
    |cn=>simp only[List.length_nil,pp]at am;exact(decide_eq_false (by lia)).symm
    |eq _ _=>rw[BS]at hz;cases hz
    |lt _ _=>rw[BS]at hz;cases hz
   rw[hv]at hR
   wp_walk
   exact⟨_,rfl,by simpa [Builtin.Tuple.tupleCompareSizes] using hR⟩
  case h=>exact⟨rfl,rfl,items.toList,bf.toList,r,rfl,hL,by simp;lia,h⟩
theorem RcLt.tuples{A:Around}{s:Shared}{l b:Addr}{items bf:Array Value}{r:Bool}(hl:s.heap.IsTuple l items)(hb:s.heap.IsTuple b bf)(hL:LexR A.in1 s items.toList bf.toList r)(hu:A.units<cLine):RcLt A s (.ref l) (.ref b) r:=fun prog w E Q h=>by
 obtain⟨⟨cls,dd,data,sl⟩,ho,hc,n,hd⟩:=id hl;obtain⟨⟨ul,gY,data2,dD⟩,gZ,hG,n2,eQ⟩:=id hb;simp only at hc hd hG eQ;subst hc hd hG eQ;exact richCompare_meets_room (op:=.Lt) ⟨_,ho,rfl⟩ ⟨_,gZ,rfl⟩ PySem.F.slot_tuple_lt PySem.F.entry_tuple_lt (PySem.F.args_tuple_lt_2 _ _) (zj6 l b items bf n n2 dd gY sl dD r)
  ⟨ho,gZ,hL,show Value.bool r≠Value.notImplemented/\Q (.bool r) s from⟨(fun x=>nomatch x),h⟩⟩ hu
end
mutual
theorem Be:∀{d:D},d.oi=true->d.pl=true
 | .int _,_=>rfl
 | .tup ds,h=>by simp only[D.pl];exact Ss (by simpa only [D.oi] using h)
 | .non,p=>by simp[D.oi]at p
 | .bl _,p=>by simp[D.oi]at p
 | .str _,p=>by simp[D.oi]at p
 | .lst _,p=>by simp[D.oi]at p
 | .dk _ _,p=>by simp[D.oi]at p
 | .dt _ _,p=>by simp[D.oi]at p
 | .dn _ _,p=>by simp[D.oi]at p
 | .scr _,p=>by simp[D.oi]at p
 | .exc _ _,p=>by simp[D.oi]at p
 | .obj _ _,p=>by simp[D.oi]at p
 | .dp _ _,p=>by simp[D.oi]at p
theorem Ss:∀{ds:List D},ois ds=true->pls ds=true
 | [],_=>rfl
 |d::ds,h=>by simp only[ois,oF]at h;simp only[pls,Be h.1,Ss h.2,CI]
end
section
variable {X:Cx}{pins:List (Addr×Obj)}{U:St}{H:Hp}{s:Shared}
theorem Sr(I:Inv X pins U H s)(hu:A.units+n<cLine)(lt:∀{d e:D}{x y:V}{u v:Value}{b:Bool},d.oi=true->e.oi=true->d.dep<=n->RD X.K H d x->RD X.K H e y->RelV x u->RelV y v->j8 d e=some b->RcLt A s u v b) :
  ∀{ds es:List D}{xs ys:List V}{us vs:List Value}{b:Bool},ois ds=true->ois es=true->j9 ds<=n->RDs X.K H ds xs->RDs X.K H es ys->Vals xs us->Vals ys vs->x6 ds es=some b->LexR A s us vs b
 | [],[],_,_,_,_,b,_,_,_,r1,r2,q1,q2,h=>by simp only[RDs]at r1 r2;subst r1;subst r2;cases q1;cases q2;simp only[x6,Option.some.injEq]at h;subst h;exact .nn
 | [],e::es,_,_,_,_,b,_,_,_,r1,r2,q1,q2,h=>by simp only[RDs]at r1 r2;subst r1;obtain⟨y,ys,rfl,_,_⟩:=r2;cases q1;cases q2;simp only[x6,Option.some.injEq]at h;subst h;exact .nc
 |d::ds,[],_,_,_,_,b,_,_,_,r1,r2,q1,q2,h=>by simp only[RDs]at r1 r2;subst r2;obtain⟨y,ys,rfl,_,_⟩:=r1;cases q1;cases q2;simp only[x6,Option.some.injEq]at h;subst h;exact .cn
 |d::ds,e::es,_,_,_,_,b,p1,p2,hd,r1,r2,q1,q2,h=>by
  simp only[RDs]at r1 r2;obtain⟨x,xs,rfl,rx,gj⟩:=r1;obtain⟨y,ys,rfl,ry,gk⟩:=r2;simp only[ois,oF]at p1 p2;simp only[j9]at hd;cases q1 with
  |cons a1 a2=>
   cases q2 with
   |cons b1 b2=>
    have eq:=Ez (A:=A) I n (Be p1.1) (Be p2.1) (by lia) hu rx ry a1 b1
    simp only[x6]at h
    split at h
    . rename_i w;rw[w]at eq;exact .eq eq (Sr I hu lt p1.2 p2.2 (by lia) gj gk a2 b2 h)
    . rename_i w;rw[show eqD d e=false by simpa using w]at eq;exact .lt eq (lt p1.1 p2.1 (by lia) rx ry a1 b1 h)
theorem Xi(h:j8 d e=some b):(∃i j,d=.int i/\e=.int j/\b=decide (i<j))\/∃ds es,d=.tup ds/\e=.tup es/\x6 ds es=some b:=by
 cases d with
 |int i=>cases e with
  |int j=>exact .inl ⟨_,_,rfl,rfl,(Option.some.inj h).symm⟩
  |_=>exact nomatch h
 |tup ds=>cases e with
  |tup es=>exact .inr ⟨_,_,rfl,rfl,h⟩
  |_=>exact nomatch h
 |_=>exact nomatch h
theorem qM(I:Inv X pins U H s):∀(n:Nat){A:Around}{d e:D}{x y:V}{u v:Value}{b:Bool},A.units+n<cLine->d.oi=true->e.oi=true->d.dep<=n->RD X.K H d x->RD X.K H e y->RelV x u->RelV y v->j8 d e=some b->RcLt A s u v b:=by
 intro n;induction n with
 |zero=>
  intro A d e x y u v b hu p1 p2 hd rx ry ru rv h
  rcases Xi h with⟨i,j,rfl,rfl,rfl⟩ |⟨ds,es,rfl,rfl,h⟩
  . cases rx.int;cases ry.int;obtain⟨t,rfl⟩:=ru;obtain⟨t',rfl⟩:=rv;exact fun prog w E Q q=>HT.rcLt_int A s _ _ _ _ prog w E Q q
  . simp only[D.dep]at hd;lia
 |succ n ih=>
  intro A d e x y u v b hu p1 p2 hd rx ry ru rv h
  rcases Xi h with⟨i,j,rfl,rfl,rfl⟩ |⟨ds,es,rfl,rfl,h⟩
  . cases rx.int;cases ry.int;obtain⟨t,rfl⟩:=ru;obtain⟨t',rfl⟩:=rv;exact fun prog w E Q q=>HT.rcLt_int A s _ _ _ _ prog w E Q q
  . obtain⟨a,xs,rfl,ha,ra⟩:=rx.tup;obtain⟨c,ys,rfl,hc,rc⟩:=ry.tup;cases ru;cases rv;obtain⟨its,r1,t1⟩:=I.tupA ha;obtain⟨aR,r2,t2⟩:=I.tupA hc;simp only[D.dep]at hd;simp only[D.oi]at p1 p2;have nB:A.in1.units+n<cLine:=by show A.units+1+n<cLine;lia
    exact RcLt.tuples t1 t2 (Sr I nB (fun {d e x y u v b} q1 q2 q3 q4 q5 q6 q7 q8=>ih nB q1 q2 q3 q4 q5 q6 q7 q8) p1 p2 (by lia) ra rc r1 r2 h) (by lia)
end
end L2
namespace L2
open PySem PySem.Spec PyProof.Rows
section
variable {prog:Program}{w:World}{A:Around}{E:Value->Shared->Prop}{s:Shared}
theorem zj7(ho:s.heap.get? a=some (seqObj "list" vs.toArray n))(hs:vs.length<2)
  (h:P (.done (.ret .none)) { s with heap:=sortedHeap s.heap a vs ((pairsOf vs).map (·.2)) }):wpAny (model prog w) A (Builtin.«list.sort» ⟨[.ref a],[]⟩) P E s:=by
 rw[list_sort_plain]
 have ha:a<s.heap.objs.size:=τ ho
 refine χ (listItems_at ho rfl ?_)
 refine χ (listUpdate_at ho rfl ?_)
 obtain⟨e1,nD⟩:∃e1,(s.heap.update a (Obj.mapSeq fun _=>#[])).get? a=some (seqObj "list" #[] e1):=⟨_,get?_update_seq ho (fun _=>#[])⟩
 refine χ (seqEpoch_at nD rfl ?_)
 refine χ (wpAny_newTuple ?_)
 refine χ (wpAny_newList ?_)
 refine BY ?_
 have nE:(((s.heap.update a (Obj.mapSeq fun _=>#[])).push (seqObj "tuple" vs.toArray 0)).push (seqObj "list" #[] 0)).get? a=some (seqObj "list" #[] e1):=by rw[Heap.get?_push_ne _ _ _ (by rw[size_push',EF];exact AG (Nat.lt_succ_of_lt ha)),Heap.get?_push_ne _ _ _ (by rw[EF];exact AG ha)];exact nD
 show wpAny (model prog w) A _ P E { s with heap:=((s.heap.update a (Obj.mapSeq fun _=>#[])).push (seqObj "tuple" vs.toArray 0)).push (seqObj "list" #[] 0) }
 dsimp only
 have bV:vs.toArray.size=vs.length:=by simp
 have h2:vs.toArray.size<2:=by rw[bV];exact hs
 rw[ζ h2,ζ h2]
 refine χ (γ ?_)
 rw[StateT.run_pure]
 refine χ (γ ?_)
 dsimp only
 refine χ (seqEpoch_at nE rfl ?_)
 refine χ (listUpdate_at nE rfl ?_ (hsz2:=by rw[Array.size_map];show(pairsOf vs).size<=_;rw[pairsOf_size,EG];lia))
 simp only[bne_self_eq_false,AF,BK]
 exact γ h
theorem zex(hl:s.heap.IsList l vs.toArray)(hs:vs.length<2)
  (h:Q (.ref (s.heap.objs.size+1)) { s with heap:=sortedAll s.heap vs ((pairsOf vs).map (·.2)) }):wpAny (model prog w) A (call (.builtin "sorted") [.ref l]) Q E s:=by
 refine Calls.call_function_entry kind_sorted plain_sorted entry_sorted (args_sorted1 _) ?_
 unfold Builtin.«sorted»
 refine χ (m:=checkCount "sorted" 1 1 _) (γ ?_)
 refine χ (collect_list hl ?_ (by rw[EG];omega))
 refine χ (wpAny_newList ?_ (by rw[EG];omega))
 have bV:((s.heap.push (seqObj "list" #[] 0)).update s.heap.objs.size (Obj.mapSeq (·++vs.toArray))).objs.size=s.heap.objs.size+1:=by rw[EF,size_push']
 have fQ:(((s.heap.push (seqObj "list" #[] 0)).update s.heap.objs.size (Obj.mapSeq (·++vs.toArray))).push (seqObj "list" vs.toArray 0)).get? (s.heap.objs.size+1)=some (seqObj "list" vs.toArray 0):=by rw[<-bV];exact π _ rfl
 show wpAny _ _ _ _ _ { s with heap:=((s.heap.push (seqObj "list" #[] 0)).update s.heap.objs.size (Obj.mapSeq (·++vs.toArray))).push (seqObj "list" vs.toArray 0) }
 rw[bV]
 refine χ (BY (wpAny_call_entry slot_list_sort ⟨_,fQ,rfl⟩ entry_list_sort (zj7 fQ hs ⟨_,rfl,?_⟩) (args_list_sort _)))
 exact γ ⟨_,rfl,h⟩
end
noncomputable def isI:D->Bool
 | .int _=>true
 |_=>false
noncomputable def G5:D->Bool
 | .tup (.int _::_)=>true
 |_=>false
noncomputable def P4:D->Bool
 | .tup (.tup _::_)=>true
 |_=>false
def T9(ds:List D):Bool:=decide (ds.length<64)&&ois ds&&decide (j9 ds<=20)&&ds.all (fun d=>ds.all fun e=>(j8 d e).isSome)&&(ds.all isI||ds.all G5||ds.all P4)
def Y9:List D->Option D
 | [.lst ds]=>if T9 ds=true then some (.lst (z8 ds)) else none
 |_=>none
theorem RDs.pick{K:Frag}{H:Hp}{ds:List D}{ys:List V}(r:RDs K H ds ys):∀{is:List Nat},(∀i∈is,i<ys.length)->RDs K H (is.map fun i=>ds.getD i (.int 0)) (is.map fun i=>ys.getD i .non)
 | [],_=>by simp[RDs]
 |i::is,h=>by
  have hi:=h i dg;have hy:ys[i]?=some ys[i]:=by simp[hi]
  obtain⟨d,h1,h2⟩:=r.get hy;simp only[io];refine .cons ?_ (RDs.pick r fun j hj=>h j (bI _ hj));rw[lO,lO,h1,hy];exact h2
section
variable {X:Cx}{pins:List (Addr×Obj)}{U:St}{H:Hp}{s:Shared}
theorem Vals.pick(r:Vals ys its):∀{is:List Nat},(∀i∈is,i<ys.length)->Vals (is.map fun i=>ys.getD i .non) (is.map fun i=>its.getD i Value.none)
 | [],_=>.nil
 |i::is,h=>by
  have hi:=h i dg;have hy:ys[i]?=some ys[i]:=by simp[hi]
  obtain⟨u,h1,h2⟩:=r.get hy;simp only[io];refine .cons ?_ (Vals.pick r fun j hj=>h j (bI _ hj));rw[lO,lO,h1,hy];exact h2
theorem Vb(I:Inv X pins U H s)(hu:A.units+20<cLine)(q:Q r s) :
  ∀{ds es:List D}{xs ys:List V}{us vs:List Value}(i:Nat),(b=true->i=0->(∃k r,ds=.int k::r)/\∃k r,es=.int k::r)->ois ds=true->ois es=true->j9 ds<=20->RDs X.K H ds xs->RDs X.K H es ys->Vals xs us->Vals ys vs->x6 ds es=some r ->
   fin=decide (us.length<vs.length)->PySem.W.KatLex X.prog X.w A b fin Q (us.zip vs) i s
 | [],[],_,_,_,_,i,_,_,_,_,r1,r2,q1,q2,h,hf=>by simp only[RDs]at r1 r2;subst r1;subst r2;cases q1;cases q2;simp only[x6,Option.some.injEq]at h;subst h;simp at hf;subst hf;exact q
 | [],e::es,_,_,_,_,i,_,_,_,_,r1,r2,q1,q2,h,hf=>by simp only[RDs]at r1 r2;subst r1;obtain⟨y,ys,rfl,_,_⟩:=r2;cases q1;cases q2;simp only[x6,Option.some.injEq]at h;subst h;simp at hf;subst hf;exact q
 |d::ds,[],_,_,_,_,i,_,_,_,_,r1,r2,q1,q2,h,hf=>by simp only[RDs]at r1 r2;subst r2;obtain⟨y,ys,rfl,_,_⟩:=r1;cases q1;cases q2;simp only[x6,Option.some.injEq]at h;subst h;simp at hf;subst hf;exact q
 |d::ds,e::es,_,_,_,_,i,hb,p1,p2,hd,r1,r2,q1,q2,h,hf=>by
  simp only[RDs]at r1 r2;obtain⟨x,xs,rfl,rx,gj⟩:=r1;obtain⟨y,ys,rfl,ry,gk⟩:=r2;simp only[ois,oF]at p1 p2;simp only[j9]at hd;cases q1 with
  |cons a1 a2=>
   cases q2 with
   |cons b1 b2=>
    have eq:=Ez (A:=A) I 20 (Be p1.1) (Be p2.1) (by lia) hu rx ry a1 b1
    rw[BS]
    refine PySem.W.kat_cons (eq X.prog X.w _ _ ?_)
    simp only[x6]at h
    simp only[pp,Nat.add_lt_add_iff_right]at hf
    split at h
    . rename_i w;rw[w];exact PySem.W.kat_yes (Vb I hu q (i+1) (fun _ z=>by lia) p1.2 p2.2 (by lia) gj gk a2 b2 h hf)
    . rename_i w;rw[show eqD d e=false by simpa using w];refine PySem.W.kat_no ?_;by_cases gl:(b&&i==0)=true
      . rw[gl];simp only[oF,BN]at gl;obtain⟨⟨k1,s1,e1⟩,k2,s2,e2⟩:=hb gl.1 gl.2;cases e1;cases e2;cases rx.int;cases ry.int;obtain⟨t,rfl⟩:=a1;obtain⟨t',rfl⟩:=b1;refine oneLt_int ?_;simp only[j8,Option.some.injEq]at h;rw[h];exact q
      . rw[show(b&&i==0)=false by simpa using gl];exact PySem.W.kat_one _ _ (qM I 20 hu p1.1 p2.1 (by lia) rx ry a1 b1 h X.prog X.w _ _ q)
theorem Sq(I:Inv X pins U H s)(T:Bool):∀{ds:List D}{xs:List V}{us:List Value},(∀d∈ds,(if T=true then P4 d else G5 d)=true)->RDs X.K H ds xs->Vals xs us ->
  ∃fs:List Value,PySem.W.KatTups s.heap us fs/\fs.length=ds.length/\∀v∈fs,Looks M s.heap (typeOf v) (.type (if T=true then "tuple" else "int"))
 | [],_,_,_,r,q=>by simp only[RDs]at r;subst r;cases q;exact⟨[],trivial,rfl,fun v hv=>by cases hv⟩
 |d::ds,_,_,h,r,q=>by
  simp only[RDs]at r;obtain⟨x,xs,rfl,rx,gj⟩:=r;cases q with
  |cons q1 q2=>
   obtain⟨fs,h1,h2,h3⟩:=Sq (M:=M) I T (fun d hd=>h d (bI _ hd)) gj q2
   have hd:=h d dg
   cases T with
   |false=>
    rw[ξ θ]at hd
    cases d<;>simp only[G5]at hd<;>first |cases hd |skip
    rename_i es
    cases es with
    |nil=>simp at hd
    |cons e es=>
     cases e<;>simp at hd
     obtain⟨a,ys,rfl,ha,ra⟩:=rx.tup
     cases q1
     obtain⟨its,rv,t⟩:=I.tupA ha
     simp only[RDs]at ra
     obtain⟨y,ys,rfl,ry,gk⟩:=ra
     cases ry.int
     cases rv with
     |cons v1 v2=>
      obtain⟨tk,rfl⟩:=v1
      obtain⟨o,ho,hc,n,ln⟩:=t
      refine⟨_::fs,PySem.W.KatTups.cons ho hc ln rfl h1,by simp[h2],fun v hv=>?_⟩
      rcases gq.mp hv with rfl |hv
      . exact .now
      . exact h3 v hv
   |true=>
    rw[ζ rfl]at hd
    cases d<;>simp only[P4]at hd<;>first |cases hd |skip
    rename_i es
    cases es with
    |nil=>simp at hd
    |cons e es=>
     cases e<;>simp at hd
     obtain⟨a,ys,rfl,ha,ra⟩:=rx.tup
     cases q1
     obtain⟨its,rv,t⟩:=I.tupA ha
     simp only[RDs]at ra
     obtain⟨y,ys,rfl,ry,gk⟩:=ra
     obtain⟨a2,uE,rfl,rD,uF⟩:=ry.tup
     cases rv with
     |cons v1 v2=>
      cases v1
      obtain⟨aR,uG,o2,gZ,hG,_⟩:=I.tupA rD
      obtain⟨o,ho,hc,n,ln⟩:=t
      refine⟨_::fs,PySem.W.KatTups.cons ho hc ln rfl h1,by simp[h2],fun v hv=>?_⟩
      rcases gq.mp hv with rfl |hv
      . have lk:Looks M s.heap (typeOf (.ref a2)) o2.cls:=(PySem.W.Looks.ld gZ).andThen .now;rw[hG]at lk;exact lk
      . exact h3 v hv
theorem Vals.getD(r:Vals ys its)(h:i<ys.length):RelV (ys.getD i .non) (its.getD i Value.none):=by
 have hy:ys[i]?=some ys[i]:=by simp[h]
 obtain⟨u,h1,h2⟩:=r.get hy;rw[lO,lO,h1,hy];exact h2
theorem RDs.getD(r:RDs X.K H ds ys)(h:i<ys.length):RD X.K H (ds.getD i (.int 0)) (ys.getD i .non):=by
 have hy:ys[i]?=some ys[i]:=by simp[h]
 obtain⟨d,h1,h2⟩:=r.get hy;rw[lO,lO,h1,hy];exact h2
theorem R6{α:Type}{l:List α}{i:Nat}{d:α}(h:i<l.length):l.getD i d∈l:=by rw[lO,AH h];exact List.getElem_mem h
end
section
variable {X:Cx}{K:Frag}
noncomputable def Gp:D->D->Option D
 | .non,.non=>some (.bl true)
 | .scr _,.non=>none
 |_,.non=>some (.bl false)
 |_,_=>none
theorem zu(r:RD K H d x)(h:d≠.non):x≠.non:=by intro e;subst e;cases d<;>simp only[RD]at r<;>first |exact h rfl | (cases r;done) | (obtain⟨a,z,_⟩:=r;cases z;done) | (obtain⟨a,xs,z,_⟩:=r;cases z;done) | (obtain⟨a,qs,xs,z,_⟩:=r;cases z;done) | (obtain⟨a,qs,xs,o,z,_⟩:=r;cases z)
theorem qK:OpD K false Gp (fun x y H Q=>y=.non/\Q (.bl (decide (x=.non))) H):=by
 intro H0 H x y d e z Q s rx ry ho k;unfold Gp at ho;split at ho<;>cases ho
 . cases rx.non;exact⟨ry.non,k _ H (.pure s (.mkBl _))⟩
 . rename_i hn hs;refine⟨ry.non,?_⟩;rw[decide_eq_false (zu rx hn)];exact k _ H (.pure s (.mkBl _))
noncomputable def F6(n:Int)(ns:List Int):Int:=ns.foldl (fun a b=>if b > a then b else a) n
noncomputable def J2(n:Int)(ns:List Int):Int:=ns.foldl (fun a b=>if b<a then b else a) n
theorem Y8:∀(ns:List Int)(n:Int),F6 n ns∈n::ns/\∀a∈n::ns,a<=F6 n ns
 | [],n=>by simp[F6]
 |b::ns,n=>by
  have ih:=Y8 ns (if b > n then b else n);show F6 (if b > n then b else n) ns∈_/\∀a∈_,a<=F6 (if b > n then b else n) ns;generalize F6 (if b > n then b else n) ns=M at ih;obtain⟨h1,h2⟩:=ih;constructor
  . rcases gq.mp h1 with z |z
    . rw[z];split<;>simp
    . simp[z]
  . intro a ha;have h3:=h2 _ dg;rcases gq.mp ha with rfl |ha
    . split at h3<;>lia
    . rcases gq.mp ha with rfl |ha
      . split at h3<;>lia
      . exact h2 a (bI _ ha)
theorem Va:∀(ns:List Int)(n:Int),J2 n ns∈n::ns/\∀a∈n::ns,J2 n ns<=a
 | [],n=>by simp[J2]
 |b::ns,n=>by
  have ih:=Va ns (if b<n then b else n);show J2 (if b<n then b else n) ns∈_/\∀a∈_,J2 (if b<n then b else n) ns<=a;generalize J2 (if b<n then b else n) ns=M at ih;obtain⟨h1,h2⟩:=ih;constructor
  . rcases gq.mp h1 with z |z
    . rw[z];split<;>simp
    . simp[z]
  . intro a ha;have h3:=h2 _ dg;rcases gq.mp ha with rfl |ha
    . split at h3<;>lia
    . rcases gq.mp ha with rfl |ha
      . split at h3<;>lia
      . exact h2 a (bI _ ha)
def Bc:List D->Option D
 | [.lst ds]=>match y0 ds with
  |some (n::ns)=>some (.int (F6 n ns))
  |_=>none
 |_=>none
def Bb:List D->Option D
 | [.lst ds]=>match y0 ds with
  |some (n::ns)=>some (.int (J2 n ns))
  |_=>none
 |_=>none
def Qt:List V->Hp->VK->Prop:=fun xs H Q=>∃p n ns,xs=[.ref p]/\H p=some (.lst ((n::ns).map V.int))/\Q (.int (F6 n ns)) H
def Qs:List V->Hp->VK->Prop:=fun xs H Q=>∃p n ns,xs=[.ref p]/\H p=some (.lst ((n::ns).map V.int))/\Q (.int (J2 n ns)) H
theorem qJ(hc:X.calm=true):CallR X (.builtin "max") Qt:=by
 intro pins s U H xs us Q I r h;obtain⟨p,n,ns,rfl,hp,q⟩:=h;obtain⟨u,rfl,ru⟩:=z5 r;cases ru;obtain⟨its,rv,pl,_⟩:=I.list (.of hp);obtain⟨m,hn,_⟩:=id I.loc;refine max_list_N (I.ok.hd hc) (Att.fr_all hn) (Cg (g:=Att.noObjs s.heap) (L:=X.env.locals)) pl.isList (Gb rv) (by simp) fun h' M t tk F N hM ft=>?_
 obtain⟨a1,a2⟩:=Y8 ns n;have e:M=F6 n ns:=Int.le_antisymm (a2 M hM) (ft _ a1);exact⟨.int M,H,I.frn hn F N,⟨t,rfl⟩,by rw[e];exact q⟩
theorem qH(hc:X.calm=true):CallR X (.builtin "min") Qs:=by
 intro pins s U H xs us Q I r h;obtain⟨p,n,ns,rfl,hp,q⟩:=h;obtain⟨u,rfl,ru⟩:=z5 r;cases ru;obtain⟨its,rv,pl,_⟩:=I.list (.of hp);obtain⟨m,hn,_⟩:=id I.loc;refine min_list_N (I.ok.hd hc) (Att.fr_all hn) (Cg (g:=Att.noObjs s.heap) (L:=X.env.locals)) pl.isList (Gb rv) (by simp) fun h' M t tk F N hM ft=>?_
 obtain⟨a1,a2⟩:=Va ns n;have e:M=J2 n ns:=Int.le_antisymm (ft _ a1) (a2 M hM);exact⟨.int M,H,I.frn hn F N,⟨t,rfl⟩,by rw[e];exact q⟩
theorem wI:z9 K false Bc Qt:=by
 intro H0 H xs ds z Q s r ho k;unfold Bc at ho;split at ho<;>first |cases ho |skip
 split at ho<;>cases ho;rename_i es n ns hq;obtain⟨x,rfl,q1⟩:=r.uno;obtain⟨a,ys,rfl,ha,ra⟩:=q1.lst;have e:=Aa hq ra;subst e;exact⟨a,n,ns,rfl,s _ _ ha,k _ H (.pure s (.mkInt _))⟩
theorem wH:z9 K false Bb Qs:=by
 intro H0 H xs ds z Q s r ho k;unfold Bb at ho;split at ho<;>first |cases ho |skip
 split at ho<;>cases ho;rename_i es n ns hq;obtain⟨x,rfl,q1⟩:=r.uno;obtain⟨a,ys,rfl,ha,ra⟩:=q1.lst;have e:=Aa hq ra;subst e;exact⟨a,n,ns,rfl,s _ _ ha,k _ H (.pure s (.mkInt _))⟩
end
theorem Uz{K:Frag}{h:Heap}{C:Addr}{bmB:List Value}{newId:String}(X:K.In h)(q:PySem.W.excIn K C bmB newId=true) :
  ∃bm N nm qn bs hdct sn sub ab col dd k0 k1 k2 k3 k5 mN,h.get? C=some (excClassObj nm qn C N bs bm hdct sn sub ab col dd k0 k1 k2 k3 k5 newId)/\h.Ns N mN/\mN "__init__"=none/\OwnTail h bmB bm:=by
 unfold PySem.W.excIn at q
 split at q<;>try cases q
 rename_i dd cd sl ho
 split at q<;>try cases q
 rename_i C' bm k0 k1 k2 k3 n k5 hm hs
 simp only[oF,BN,EN]at q
 obtain⟨⟨⟨⟨⟨e1,e2⟩,dX⟩,ht⟩,hok⟩,hJ⟩:=q
 subst e1 e2
 have ho:=X _ _ ho
 cases cd
 dsimp only at hm dX hok hJ
 subst hm dX
 have gm:sl=#[k0,k1,k2,k3,some (.builtin n),k5]:=by cases sl;simp only at hs;rw[hs]
 rw[gm]at ho
 exact⟨bm,_,_,_,_,_,_,_,_,_,dd,k0,k1,k2,k3,k5,_,ho,.of_isNs (PySem.W.isNs_of_in X hok),PySem.W.nsMap_none_of_in X hok hJ,PySem.W.tail_of_in X ht⟩
def Kg(K:Frag)(C:Addr)(bmB:List Value)(newId:String):Bool:=match K.lookup C with
 |some ⟨.type "type",_,.cls cd,sl⟩=>(match cd.mro,sl.toList with
  | .ref C'::bm,[_,_,_,_,some (.builtin n),_]=>C'==C&&n==newId&&!cd.hasDel&&PySem.W.tailIn K bmB bm&&cd.hasDict
  |_,_=>false)
 |_=>false
theorem yx{K:Frag}{h:Heap}{C:Addr}{bmB:List Value}{newId:String}(X:K.In h)(q:Kg K C bmB newId=true) :
  ∃bm N nm qn bs sn sub ab col dd k0 k1 k2 k3 k5,h.get? C=some (excClassObj nm qn C N bs bm true sn sub ab col dd k0 k1 k2 k3 k5 newId)/\OwnTail h bmB bm:=by
 unfold Kg at q
 split at q<;>try cases q
 rename_i dd cd sl ho
 split at q<;>try cases q
 rename_i C' bm k0 k1 k2 k3 n k5 hm hs
 simp only[oF,BN,EN]at q
 obtain⟨⟨⟨⟨e1,e2⟩,dX⟩,ht⟩,cK⟩:=q
 subst e1 e2
 have ho:=X _ _ ho
 cases cd
 dsimp only at hm dX cK
 subst hm dX cK
 have gm:sl=#[k0,k1,k2,k3,some (.builtin n),k5]:=by cases sl;simp only at hs;rw[hs]
 rw[gm]at ho
 exact⟨bm,_,_,_,_,_,_,_,_,dd,k0,k1,k2,k3,k5,ho,PySem.W.tail_of_in X ht⟩
def XCl(K:Frag)(C:Addr)(bmB:List Value)(newId:String):Prop:=PySem.W.excIn K C bmB newId=true\/Kg K C bmB newId=true
theorem Uy{K:Frag}{h:Heap}{C:Addr}{bmB:List Value}{newId:String}(X:K.In h)(q:XCl K C bmB newId) :
  ∃bm N nm qn bs hdct sn sub ab col dd k0 k1 k2 k3 k5,h.get? C=some (excClassObj nm qn C N bs bm hdct sn sub ab col dd k0 k1 k2 k3 k5 newId)/\OwnTail h bmB bm:=by
 rcases q with q |q
 . obtain⟨bm,N,nm,qn,bs,hdct,sn,sub,ab,col,dd,k0,k1,k2,k3,k5,mN,hC,_,_,T⟩:=Uz X q;exact⟨bm,N,nm,qn,bs,hdct,sn,sub,ab,col,dd,k0,k1,k2,k3,k5,hC,T⟩
 . obtain⟨bm,N,nm,qn,bs,sn,sub,ab,col,dd,k0,k1,k2,k3,k5,hC,T⟩:=yx X q;exact⟨bm,N,nm,qn,bs,true,sn,sub,ab,col,dd,k0,k1,k2,k3,k5,hC,T⟩
section
variable {X:Cx}{x:Str}{C:Addr}{bmB:List Value}{B newId eY:String}{np ag pos:Pos}{e:Expr}{es:List Expr}{t:TA}{EX:XW}{fr:Bool}{fs:DE->R (List D)}
theorem yw(FB:ExcBaseFacts B newId eY bmB)(cu:X.calm=true)(hg:Gl X x)(hm:X.mg x=some (.ref C))(hq:PySem.W.excIn X.K C bmB newId=true)(ha:PA X (e::es) t)(E:Hp->Prop)
  (hE:∀(pins:List (Addr×Obj))(U:St)(H:Hp)(s:Shared)(a:Addr)(s':Shared)(args:List Value),Inv X pins U H s->Heap.MadeExcOf s.heap s'.heap a (.ref C) args->s'.os=s.os->AllBare s'.gens->E H->X.xe (.ref a) s')
  (az:(x==("__debug__":Str))=false:=by decide) (he:starEach (e::es) X.env=(false,eval e X.env)::starEach es X.env:=by rfl) (hpl:(backTo ag (starEach es X.env)).any (·.1)=false:=by rfl) :
  PS X (.Raise (some (.Call (.Name x np) (e::es) [] ag)) none pos) (fun _ U H=>t U H fun vs H1=>vs.length<=sizeLine/\E H1):=by
 intro pins s U H D I h
 obtain⟨bm,N,nm,qn,bs,hdct,sn,sub,ab,col,dd,k0,k1,k2,k3,k5,mN,hC,hN,hJ,T⟩:=Uz I.ok.mod.kin hq
 refine wpAny_Raise_call_subT (C:=C) (nm:=nm) (q:=qn) (N:=N) (bs:=bs) (bm:=bm) (hdct:=hdct) (sn:=sn) (sub:=sub) (ab:=ab) (col:=col) (dd:=dd) (k0:=k0) (k1:=k1) (k2:=k2) (k3:=k3) (k5:=k5)
  FB (mN:=mN) (T.hasType FB.hasBase) (I.ok.hd cu) (by rw[he];show(false||(backTo ag (starEach es X.env)).any (·.1))=false;rw[hpl];rfl) hJ (U8 I hg hm ⟨rfl,?_⟩ az)
 have go:=ha ag pins s U H _ I h
 rw[he]at go⊢
 refine Calls.evalArgs_plain (AJ go (fun us s2 ⟨vs,H1,I1,r,hl,rE⟩=>⟨rfl,by rw[<-r.length];exact hl,I1.bk _ _ hC,hN.keeps I1.bk,T.keeps I1.bk,fun h' a hx=>?_⟩) fun _ _ y=>y)
 exact hE pins U H1 s2 a _ us I1 hx rfl I1.bare rE
def M1(c:String)(fs:DE->R (List D)):DS->SR:=fun ρ=>(fs (see ρ)).toS fun ds=>if ds.length<=1000 then .er ⟨c,[]⟩ else .st
theorem wG{K:Frag}{De:Ends}{U:St}{H:Hp}{c:String}(h:TSd K EX fr (M1 c fs) De U H):TAd K EX fs U H fun vs H1=>vs.length<=sizeLine/\EX.p ⟨c,[]⟩ H1:=by
 obtain⟨Hc,Hb,H0,ρ,sb,R,h⟩:=h;unfold M1 at h;rw[SK.toS]at h;refine⟨sb.trans R.sb,see ρ,HeOf (List.replicate ρ.length true) ρ U H0 H,R.heH _,by rw[<-U6];exact R.re _,h.mono fun ds z vs H' ac s e r=>?_⟩;split at z
 . rename_i hl;exact⟨Fm (by rw[<-r.length];exact hl),z H' ((sb.trans R.sb).trans s)⟩
 . exact z.elim
theorem Y7{c:String}(L:Lnd X EX)(FB:ExcBaseFacts B newId eY bmB)(cu:X.calm=true)(hg:Gl X (c:Str))(hm:X.mg (c:Str)=some (.ref C))(hq:PySem.W.excIn X.K C bmB newId=true)(ha:QA X EX (e::es) fs)
  (az:(((c:Str))==("__debug__":Str))=false:=by decide) (he:starEach (e::es) X.env=(false,eval e X.env)::starEach es X.env:=by rfl) (hpl:(backTo ag (starEach es X.env)).any (·.1)=false:=by rfl) :
  QS X EX fr (.Raise (some (.Call (.Name (c:Str) np) (e::es) [] ag)) none pos) (M1 c fs):=
 ⟨(yw FB cu hg hm hq ha.h (fun H=>EX.p ⟨c,[]⟩ H) (fun pins U H s a s' args I hx ho hb hp=>L.md pins U H H s a C none s' ⟨c,[]⟩ I (.of hx) (I.hok.kept hx.keeps) (Un.kept hx.keeps) (I.hok.none hx.new) ho hb hm hp (.inl rfl)) az he hpl).imp fun _ _ _ q=>wG q⟩
end
theorem zt{M:Model}{A:Around}{E:Value->Shared->Prop}{nm rF q qD:Str}{C N DD ND:Addr}{bs bm rG lq:List Value}{hdct iK:Bool}{sn rH:List Str}{sub mq:List Value}{ab rJ:Bool}{col mr:Option Bool}{dd rK:Option Addr}{k0 k1 k2 k3 k5 j0 j1 j2 j3 j5:Option Value}{newId mv:String}
  {h:Heap} {g:Array GenState} {d:Drawn} {t:Nat} {os:OsState} {e:Addr} {oe:Obj} {Q:Bool->Shared->Prop}
  (hC:h.get? C=some (excClassObj nm q C N bs bm hdct sn sub ab col dd k0 k1 k2 k3 k5 newId)) (hD:h.get? DD=some (excClassObj rF qD DD ND rG lq iK rH mq rJ mr rK j0 j1 j2 j3 j5 mv)) (he:h.get? e=some oe) (dP:oe.cls=.ref C)
  (aP:lq.contains (.type "BaseException")=true) (hq:Q ((Value.ref C::bm).contains (.ref DD)) ⟨h,g,d,t,os⟩):wpAny M A (excMatches (.ref e) (.ref DD)) Q E ⟨h,g,d,t,os⟩:=by
 have rL:(Value.ref DD::lq).contains (.type "BaseException")=true:=by rw[List.contains_cons,aP,Bool.or_true]
 have f:=tc_notTuple
 unfold excMatches
 repeat (first | (with_reducible refine CL he ?_;rw[dP]) |with_reducible refine CL hD ?_ | (with_reducible refine wpAny_isSubtype_exc hD ?_;rw[rL]) |with_reducible refine wpAny_isSubtype_exc hC ?_ |wp_step)
 cases hb:(Value.ref C::bm).contains (.ref DD)<;>(rw[hb]at hq;wp_walk;exact hq)
section
variable {X:Cx}{pins:List (Addr×Obj)}{U:List (Option V)}{H1 H2:Hp}{s1 s2:Shared}{h' B:Heap}{C a T:Addr}{a0:Value}{od:Option Addr}
noncomputable def F5(a C:Addr)(od:Option Addr):HO:=.ext fun h=>∃ob,h.get? a=some ob/\ob.cls=.ref C/\(∃vs,ob.data=.fields vs)/\ob.dict=od
theorem yu(I:Inv X pins U H1 s1)(x:XOut X.prog X.w X.stack H1 s1 C a od H2 s2)(na:s1.heap.get? a=none)(nT:s1.heap.get? T=none)(ha:H2 a=none)(hT:H2 T=none)
  (keep:∀b o,s2.heap.get? b=some o->b≠a->b≠T->b∉frs X.stack->h'.get? b=some o) (up:s2.heap.UpToSlots h') (bP:Heap.FlyingW B X.stack a (.ref C) a0 h') (cK:x9 a od h') :
  Inv X pins U (upd H2 a (F5 a C od)) { s2 with heap:=h' }/\Same H2 (upd H2 a (F5 a C od)):=by
 have F2:=I.stack2 x.un
 have cw:∀b∈frs X.stack,∀o,s2.heap.get? b=some o->∃sl,h'.get? b=some { o with slots:=sl }:=fun b hb o e=>by obtain⟨_,o',aW,hd⟩:=F2.mem hb;rw[e]at aW;cases aW;exact up b o e hd
 have ne:∀b o,s1.heap.get? b=some o->b≠a/\b≠T:=fun b o e=>⟨fun z=>(by rw[z,na]at e;cases e),fun z=>(by rw[z,nT]at e;cases e)⟩
 have gn:∀b o,H2 b=some o->b≠a/\b≠T:=fun b o e=>⟨fun z=>(by rw[z,ha]at e;cases e),fun z=>(by rw[z,hT]at e;cases e)⟩
 have dy:∀b∈frs X.stack,H2 b=none:=fun b hb=>by obtain⟨_,o,ho,_⟩:=I.stack.mem hb;exact x.un.free b o ho (I.stkFree b hb) (by simp)
 obtain⟨oe,vs,he,hc,hd,_⟩:=bP.first
 have un:Un (frs X.stack) [] H1 (upd H2 a (F5 a C od)) s1.heap h':=by
  refine⟨fun b o e n hb hx=>?_,fun b o e n hb hx=>?_,fun b o e n hx=>?_,fun b o e hx=>?_,fun b xs e=>?_,fun b o u e=>?_,fun b ps e=>?_⟩
  . exact keep b o (x.un.keep b o e n hb hx) (ne b o e).1 (ne b o e).2 hb
  . obtain⟨sl,e1⟩:=x.un.slot b o e n hb hx;obtain⟨dD,e2⟩:=cw b hb _ e1;exact⟨dD,e2⟩
  . rw[k8 (ne b o e).1];exact x.un.free b o e n hx
  . obtain⟨o1,e1⟩:=x.un.there b o e hx;by_cases hb:b∈frs X.stack
    . obtain⟨sl,e2⟩:=cw b hb _ e1;exact⟨_,e2⟩
    . exact⟨o1,keep b o1 e1 (ne b o e).1 (ne b o e).2 hb⟩
  . have:=x.un.tups b xs e;rw[k8 (gn b _ this).1];exact this
  . have:=x.un.frzs b o u e;rw[k8 (gn b _ this).1];exact this
  . obtain⟨m,this⟩:=x.un.tbls b ps e;exact⟨m,by rw[k8 (gn b _ this).1];exact this⟩
 have hok:HOk X.prog X.w (upd H2 a (F5 a C od)) h':=fun b o e=>by
  by_cases hb:b=a
  . subst hb;rw[w8]at e;cases e;exact⟨⟨oe,he,hc,⟨vs,hd⟩,cK _ he⟩,⟨oe,he⟩,fun h1 h2 ⟨ob,z1,z2⟩ k=>⟨ob,k _ z1,z2⟩⟩
  . rw[k8 hb]at e;refine(x.hok b o e).stay (fun c v hc q=>?_) (fun c q=>by rw[k8 (gn c _ q).1];exact q) fun c xs q=>by rw[k8 (gn c _ q).1];exact q
    have lr:H2 c≠none:=by
     rcases hc with rfl |hc
     . rw[e];exact fun z=>nomatch z
     . rw[hc];exact fun z=>nomatch z
    refine keep c v q (fun z=>lr (z ▸ ha)) (fun z=>lr (z ▸ hT)) fun z=>lr (dy c z)
 exact⟨I.call' (s':={ s2 with heap:=h' }) (ch:=[]) x.os un hok x.bare (fun _ z=>nomatch z),Same.upd_new ha⟩
end
section
variable {X:Cx}{pins:List (Addr×Obj)}{U:List (Option V)}{H:Hp}{s:Shared}
theorem Ff(I:Inv X pins U H s)(hN:X.N.Nodup)(hi:X.N[i]?=some n)(hk:X.env.scope.names.lookup n=some .local)
  (h:∀s',Inv X pins (U.set i none) H s'->Q () s'):wpAny M A (do bindName X.env n .none;unbindBehindTheSuite X.env n pos) Q E s:=by
 obtain⟨m,hn,hl⟩:=id I.loc
 have dP:(X.env.scope.kind==.class||(X.env.scope.kind==.module&&X.env.locals != X.env.globals))=false:=by rw[I.ok.kind];rfl
 obtain⟨oL,_,_,fQ,_⟩:=id hn
 refine wpAny_nameGoes_keeps hk hn dP fun h' v iQ hs=>h _ ?_
 have hok:HOk X.prog X.w H h':=fun b ob e=>by
  refine(I.hok b ob e).stay (fun c w' hc q=>(hs.2 c ?_).trans q) (fun _ q=>q) fun _ _ q=>q
  rintro rfl;rcases hc with rfl |hc
  . rw[I.free]at e;cases e
  . rw[I.free]at hc;cases hc
 have ed:∀b o,X.s₀.heap.get? b=some o->b≠X.env.locals:=fun b o e=>AG (AD (τ e) I.ok.above)
 refine⟨I.ok,I.os,I.bare,⟨fun b o e n hb hx=>?_,fun b o e n hb hx=>?_,I.base.free,fun b o e hx=>?_,I.base.tups,I.base.frzs,I.base.tbls⟩,⟨_,iQ,fun j y v' e1 e2 e3=>?_⟩,fun y c e=>?_,I.free,I.freeC,fun p hp=>?_,hok,by simpa using I.len⟩
 . exact(hs.2 b (ed b o e)).trans (I.base.keep b o e n hb hx)
 . obtain⟨sl,e1⟩:=I.base.slot b o e n hb hx;exact⟨sl,(hs.2 b (ed b o e)).trans e1⟩
 . obtain⟨o',e1⟩:=I.base.there b o e hx;exact⟨o',(hs.2 b (ed b o e)).trans e1⟩
 . have hj:j≠i:=fun z=>by
    subst z
    by_cases aH:j<U.length
    . rw[BR aH]at e2;cases e2
    . rw[DW (by simpa using aH)]at e2;cases e2
   rw[AT (BX hj)]at e2
   have fX:y≠n:=fun z=>by subst z;exact hj (Mh hN e1 hi)
   obtain⟨u,r,l⟩:=hl j y v' e1 e2 e3
   refine⟨u,r,?_⟩
   rcases l with⟨k,l⟩ |⟨k,c,e,ob,z,zd⟩
   . exact .inl ⟨k,(by show(if y=n then v else m y)=some u;rw[ξ fX];exact l)⟩
   . exact .inr ⟨k,c,e,ob,(hs.2 c (I.cne y c e)).trans z,zd⟩
 . obtain⟨v,ob,z,zd⟩:=I.cell y c e;exact⟨v,ob,(hs.2 c (I.cne y c e)).trans z,zd⟩
 . obtain⟨e,n,ne,nf,d⟩:=I.pin p hp;exact⟨(hs.2 p.1 ne).trans e,n,ne,nf,d⟩
abbrev Cx.held(X:Cx)(e:Value):Cx:={ X with A:=X.A.mark (some e),calm:=false,xe:=fun _ _=>False }
theorem Inv.held(I:Inv X pins U H s)(e:Value):Inv (X.held e) pins U H s:=
 ⟨⟨I.ok.mod,I.ok.kind,I.ok.glob,I.ok.blt,I.ok.above,I.ok.inj,I.ok.has,I.ok.cab,(fun z=>nomatch z),I.ok.frames,I.ok.stk,I.ok.exf,I.ok.bs,I.ok.bsz,I.ok.noex,I.ok.exfs,I.ok.funs,I.ok.frf⟩,I.os,I.bare,I.base,I.loc,I.cell,I.free,I.freeC,I.pin,I.hok,I.len⟩
theorem Inv.unheld(ok:X.Ok)(I:Inv (X.held e) pins U H s):Inv X pins U H s:=
 ⟨ok,I.os,I.bare,I.base,I.loc,I.cell,I.free,I.freeC,I.pin,I.hok,I.len⟩
theorem yt(G:k6 X.prog X.w X.K X.mg X.base x ps k sp)(hr:Room j X.A)(hg:Gl X x)(ha:PA X.nox (e::es) t)(I:Inv X pins U H s)(h:t U H fun vs H1=>Same H H1/\sp vs H1 Q E)(dF:k<=j:=by omega)(az:(x==("__debug__":Str))=false:=by decide)
  (he:starEach (e::es) X.env=(false,eval e X.env)::starEach es X.env:=by rfl) (hpl:(backTo pos (starEach es X.env)).any (·.1)=false:=by rfl) :
  wpAny (model X.prog X.w) X.A (eval (.Call (.Name x p) (e::es) [] pos) X.env) (EP X pins U Q) (fun ev s'=>∃H1 s1,Same H H1/\Inv X pins U H1 s1/\CX1 X.prog X.w X.stack H1 s1 E ev s') s:=by
 obtain⟨f,fd,F,b,m,kp⟩:=G
 refine CG (U8 I hg m ?_ az)
 have I':Inv X.nox pins U H s:=⟨⟨I.ok.mod,I.ok.kind,I.ok.glob,I.ok.blt,I.ok.above,I.ok.inj,I.ok.has,I.ok.cab,I.ok.hd,I.ok.frames,I.ok.stk,I.ok.exf,I.ok.bs,I.ok.bsz,I.ok.noex,I.ok.exfs,I.ok.funs,I.ok.frf⟩,I.os,I.bare,I.base,I.loc,I.cell,I.free,I.freeC,I.pin,I.hok,I.len⟩
 refine callWith_K (h₀:=X.base) I.ok.mod.kin kp (AJ (ha pos pins s U H _ I' h) (fun us s1 ⟨vs,H1,I1,r,sH,q⟩=>⟨I1.kIn,?_⟩) fun _ _ z=>z.elim) he hpl
 have I1:Inv X pins U H1 s1:=⟨I.ok,I1.os,I1.bare,I1.base,I1.loc,I1.cell,I1.free,I1.freeC,I1.pin,I1.hok,I1.len⟩
 have hl:us.length=ps.length:=by rw[<-r.length];exact F.len _ _ _ _ q
 have hb:=b s1 us I1.kIn (by rw[BJ];exact hl)
 rw[BJ]at hb
 refine wpAny_call (EO (F.run X.A X.stack s1 H1 ⟨us,[]⟩ us vs Q E (hr.mono dF) I1.env0 hb r q) fun r s' hq=>?_)
 cases r with
 |error e=>exact⟨H1,s1,sH,I1,hq⟩
 |ok fl=>
  cases fl with
  |ret u=>exact I1.after hq
  |next=>exact False.elim hq
  |brk=>exact False.elim hq
  |cont=>exact False.elim hq
end
structure Lnd5(X:Cx)(pins:List (Addr×Obj))(U:St)(H1:Hp)(s1:Shared)(C a:Addr)(od:Option Addr)(H2:Hp)(s2:Shared)(B:Heap)(T:Addr)(a0:Value)(h5:Heap):Prop where
 I:Inv X pins U H1 s1
 x:XOut X.prog X.w X.stack H1 s1 C a od H2 s2
 na:s1.heap.get? a=none
 nT:s1.heap.get? T=none
 ha:H2 a=none
 hT:H2 T=none
 keep:∀b o,s2.heap.get? b=some o->b≠a->b≠T->b∉frs X.stack->B.get? b=some o
 up:s2.heap.UpToSlots h5
 fl:Heap.FlyingW B X.stack a (.ref C) a0 h5
 dc:x9 a od h5
section
variable {X:Cx}{EX:XW}{fr:Bool}{pins:List (Addr×Obj)}{U:St}{H1 H2:Hp}{s1 s2:Shared}{C a T:Addr}{B h5:Heap}{a0:Value}{od:Option Addr}
theorem Lnd5.inv(L:Lnd5 X pins U H1 s1 C a od H2 s2 B T a0 h5):Inv X pins U (upd H2 a (F5 a C od)) { s2 with heap:=h5 }/\Same H2 (upd H2 a (F5 a C od)):=
 yu L.I L.x L.na L.nT L.ha L.hT (fun b o e h1 h2 h3=>L.fl.1 b o (L.keep b o e h1 h2 h3)) L.up L.fl L.dc
theorem Lnd5.again(L:Lnd5 X pins U H1 s1 C a od H2 s2 B T a0 h5)(h:∀h6,Lnd5 X pins U H1 s1 C a od H2 s2 B T a0 h6->Q () { s2 with heap:=h6 }) :
  wpAny (model X.prog X.w) A (setFlight (.ref a) none) Q E { s2 with heap:=h5 }:=
 AJ (Ga (E:=E) (E':=E) (.flight _ _) (lands_againW (Q:=fun _ s=>∃h',s={ s2 with heap:=h' }/\Heap.FlyingW B X.stack a (.ref C) a0 h'/\h5.UpToSlots h') (s:={ s2 with heap:=h5 }) L.fl fun h' fl up=>⟨h',rfl,fl,up⟩) (Zo (s:={ s2 with heap:=h5 }) L.fl.2.2.2 L.dc)) (fun _ s ⟨⟨h',e,fl,up⟩,d⟩=>by subst e;exact h h' ⟨L.I,L.x,L.na,L.nT,L.ha,L.hT,L.keep,L.up.trans up,fl,d⟩) fun _ _ z=>z.1
theorem wF(I:Inv X pins U H1 s1)(aJ:X.stack=X.env::X.outer)(hf:X.env.frame=some X.env.locals)(x:XOut X.prog X.w X.stack H1 s1 C a od H2 s2)
  (h:∀B T a0 h5,Lnd5 X pins U H1 s1 C a od H2 s2 B T a0 h5->Q () { s2 with heap:=h5 }):wpAny (model X.prog X.w) X.A (noteFrame (.ref a) X.env) (fun _ s'=>wpAny (model X.prog X.w) X.A (setFlight (.ref a) none) Q E s') E s2:=by
 obtain⟨oe,vs,T,oT,ts,a0,he,hc,h0,hd,h1,eR,hT,cg,h3,na,nT,ha,gW,gi,gU⟩:=id x.fly
 have F2:=I.stack2 x.un
 have dE:∀env∈X.stack,∀b,env.frame=some b->b∈a::T::frs X.stack:=fun env he b hb=>bI _ (bI _ (CD.mpr ⟨env,he,hb⟩))
 have bJ:X.A.frames=some (X.env::X.outer):=by rw[<-aJ];exact I.ok.frames
 have bP:Heap.FlyingW (hideAll s2.heap (a::T::frs X.stack)) (X.env::X.outer) a (.ref C) a0 s2.heap:=⟨fun b o q=>of_hideAll _ q,hideAll_none _ (.head _),aJ ▸ PySem.W.funFrames_hide F2 dE,oe,vs,T,oT,ts,he,⟨hc,h0⟩,hd,h1,hideAll_none _ (.tail _ (.head _)),eR,hT,cg,h3⟩
 refine Vm (od:=od) bJ hf bP (fun o ho=>by rw[he]at ho;cases ho;exact gi) fun h4 hh rM d4=>?_
 refine Le (s:={ s2 with heap:=h4 }) hh d4 fun h5 fl rN d5=>h (hideAll s2.heap (a::T::frs X.stack)) T a0 h5 ⟨I,x,na,nT,ha,gW,fun b o q h1 h2 h3=>hideAll_get _ q fun z=>?_,rM.trans rN,(by rw[<-aJ]at fl;exact fl),d5⟩
 rcases gq.mp z with rfl |z
 . exact h1 rfl
 . rcases gq.mp z with rfl |z
   . exact h2 rfl
   . exact h3 z
theorem Qr(s:Same H H1)(e:H1 b=none):H b=none:=by
 cases q:H b with
 |none=>rfl
 |some o=>rw[s b o q]at e;cases e
theorem _root_.L2.Fly.newd(f:Fly h0 H' C a od h):∀dx,od=some dx->h0.get? dx=none:=by obtain⟨_,_,_,_,_,_,_,_,_,_,_,_,_,_,_,_,_,_,_,_,h⟩:=f;exact h
abbrev HD:=Ex->DS->SR
structure QY(X:Cx)(fr:Bool)(sts:List Stmt)(g:DS->SR):Prop where
 h:∀(pins:List (Addr×Obj))(s:Shared)(U:St)(H:Hp)(De:Ends)(Hc Hb H0:Hp)(ρ:DS)(P:Ex->Hp->Prop),Inv X pins U H s->RS X.K Hc Hb H0 ρ U H->SK X.K ⟨H,P⟩ fr Hc Hb De (g ρ) ->
  wpAny (model X.prog X.w) X.A (execs sts X.env) (SP X pins De) (fun ev s'=>∃H1 s1 x C a od H2,ev=.ref a/\Same H H1/\Inv X pins U H1 s1/\XOut X.prog X.w X.stack H1 s1 C a od H2 s'/\X.mg (Str.ofString (Ex.cls x))=some (.ref C)/\P x H2/\XFs X.K x od H2) s
structure QH(X:Cx)(EX:XW)(fr:Bool)(hs:List ExceptHandler)(hd:HD):Prop where
 h:∀(pins:List (Addr×Obj))(U:St)(H1:Hp)(s1:Shared)(C a:Addr)(od:Option Addr)(H2:Hp)(s2:Shared)(B:Heap)(T:Addr)(a0:Value)(h5:Heap)(De:Ends)(Hc Hb H0:Hp)(ρ:DS)(x:Ex)(E:Value->Shared->Prop)(H:Hp),Same H H2->(∀dx,od=some dx->H dx=none)->XFs X.K x od H2->Lnd5 X pins U H1 s1 C a od H2 s2 B T a0 h5->X.mg (Str.ofString x.cls)=some (.ref C) ->
  RS X.K Hc Hb H0 ρ U H->SK X.K EX fr Hc Hb De (hd x ρ)->wpAny (model X.prog X.w) X.A (handleBy (.ref a) X.env hs) (SP X pins De) E { s2 with heap:=h5 }
noncomputable def An(g:DS->SR)(hd:HD):DS->SR:=fun ρ=>match g ρ with
 | .er x=>hd x ρ
 |r=>r
theorem y45{body:List Stmt}{h₀:ExceptHandler}{hs:List ExceptHandler}{g:DS->SR}{hd:HD}{pos:Pos}(aJ:X.stack=X.env::X.outer)(hf:X.env.frame=some X.env.locals)(hb:QY X fr body g)(hh:QH X EX fr (h₀::hs) hd):QS X EX fr (.Try body (h₀::hs) [] [] pos) (An g hd):=by
 refine⟨fun pins s U H De I h=>?_⟩;obtain⟨Hc,Hb,H0,ρ,sb,R,h⟩:=h;refine wpAny_Try_except (AJ (hb.h pins s U H De Hc Hb H0 ρ (fun x H'=>Same H H'/\SK X.K EX fr Hc Hb De (hd x ρ)) I R ?_) (fun f ah hq=>?_) fun ev s' ⟨H1,s1,x,C,a,od,H2,e,sH,I1,xo,hm,⟨sm,hk⟩,xf⟩=>?_)
 . unfold An at h;cases q:g ρ with
   |nx aI=>rw[q]at h;exact h
   |bk aI=>rw[q]at h;exact h
   |ct aI=>rw[q]at h;exact h
   |rt d=>rw[q]at h;exact h
   |er x=>rw[q]at h;exact fun H' s'=>⟨s',h⟩
   |st=>rw[q]at h;exact h
 . cases f with
   |next=>exact DT hq
   |brk=>exact hq
   |cont=>exact hq
   |ret u=>exact hq
 . subst e;exact wF I1 aJ hf xo fun B T a0 h5 L=>hh.h pins U H1 s1 C a od H2 s' B T a0 h5 De Hc Hb H0 ρ x X.xe H sm (fun dx e=>Qr sH (I1.hok.none (xo.fly.newd dx e))) xf L hm R hk
end
noncomputable def R.kn{α:Type}(k:String->Bool)(r:R α):R α:=match r with
 | .er x=>if k x.cls=true then .er x else .st
 |r=>r
def W0(k:String->Bool)(m:List D->R D)(fs:DE->R (List D)):DE->R D:=fun ρ=>(fs ρ).noE.bind fun ds=>(m ds).kn k
theorem SK.ex{K:Frag}{EX EX':XW}{fr:Bool}{Hc Hb:Hp}{De:Ends}{r:SR}(h:SK K EX fr Hc Hb De r)(he:∀x,EX.at x->EX'.at x):SK K EX' fr Hc Hb De r:=by
 cases r with
 |er x=>exact he x h
 |nx ρ=>exact h
 |bk ρ=>exact h
 |ct ρ=>exact h
 |rt d=>exact h
 |st=>exact h
section
variable {X:Cx}{fr gp:Bool}{k:String->Bool}{fs:DE->R (List D)}{mm:List D->R D}{n:Nat}{m:List Bool}
theorem yr{K:Frag}{mg:Str->Option Value}{Hc Hb H0 H:Hp}{ρ:DS}{U:St}{P:Ex->Hp->Prop}{kk:D->Prop}{Q:VK}(hl:∀ds,ds.length≠n->mm ds=.st)(hk:∀c,k c=true->∃C,mg (Str.ofString c)=some (.ref C))(R:RS K Hc Hb H0 ρ U H)
  (h:Rk (XW.at ⟨H,P⟩) (W0 k mm fs (vis m ρ)) kk) (hQ:∀d,kk d->∀v H',Out K gp (HeOf m ρ U H0 H) H d v H'->Q v H'):TAd K F0 fs U H fun vs H1=>Same H H1/\spD K mg gp mm n vs H1 Q (eOf K ⟨H,P⟩ mg):=by
 unfold W0 at h
 rw[Rk.bind]at h
 refine⟨F0.same _,vis m ρ,HeOf m ρ U H0 H,R.heH m,R.re m,(Rk.noE h).mono fun ds h vs H1 aq s1 e1 r1=>⟨s1,ds,aq,e1.2.1,r1,?_,?_⟩⟩
 . apply CF;intro hn;rw[hl ds hn]at h;exact h
 . cases q:mm ds with
   |ok d=>rw[q]at h;exact fun v H' o=>hQ d h v H' (o.after s1 e1)
   |st=>rw[q]at h;exact h
   |er x=>
    rw[q]at h
    unfold L2.R.kn at h
    dsimp only at h
    split at h
    . rename_i hx;obtain⟨C,hC⟩:=hk _ hx;exact fun H' s'=>⟨C,hC,fun od xf=>⟨x,h H' (s1.trans s'),hC,xf⟩⟩
    . exact h.elim
theorem Wm(h:∃H1 s1,Same H H1/\Inv X pins U H1 s1/\CX1 X.prog X.w X.stack H1 s1 (eOf X.K ⟨H,P⟩ X.mg) ev s') :
  ∃H1 s1 x C a od H2,ev=.ref a/\Same H H1/\Inv X pins U H1 s1/\XOut X.prog X.w X.stack H1 s1 C a od H2 s'/\X.mg (Str.ofString (Ex.cls x))=some (.ref C)/\P x H2/\XFs X.K x od H2:=by
 obtain⟨H1,s1,sH,I,C,a,od,H2,e,xo,x,hp,hm,xf⟩:=h
 exact⟨H1,s1,x,C,a,od,H2,e,sH,I,xo,hm,hp,xf⟩
theorem Kf{pins:List (Addr×Obj)}{De:Ends}{st:Stmt}{s:Shared}{E:Value->Shared->Prop}(h:wpAny (model X.prog X.w) X.A (exec st X.env) (SP X pins De) E s):wpAny (model X.prog X.w) X.A (execs [st] X.env) (SP X pins De) E s:=by
 refine wpAny_execs_cons (thn h fun f s1 q=>?_);cases f with
 |next=>exact DT q
 |ret v=>exact q
 |brk=>exact q
 |cont=>exact q
variable {x:Str}{p ag pos:Pos}{e:Expr}{es:List Expr}{ps:List Str}{kl j nF:Nat}{gg:DS->SR}
theorem qG(hk:∀c,k c=true->∃C,X.mg (Str.ofString c)=some (.ref C))(G:k6 X.prog X.w X.K X.mg X.base x ps kl (spD X.K X.mg gp (mOf gp n nF gg) n))(hr:Room j X.A)(hg:Gl X x)(ha:QA X.nox F0 (e::es) fs)(dF:kl<=j:=by omega)(az:(x==("__debug__":Str))=false:=by decide)
  (he:starEach (e::es) X.env=(false,eval e X.env)::starEach es X.env:=by rfl) (hpl:(backTo ag (starEach es X.env)).any (·.1)=false:=by rfl) (hs:swapsWith (.Call (.Name x p) (e::es) [] ag) none pos.line X.env=pure false:=by rfl) :
  QY X fr [.Expr (.Call (.Name x p) (e::es) [] ag) pos] (B0 (W0 k (mOf gp n nF gg) fs)):=by
 refine⟨fun pins s U H De Hc Hb H0 ρ P I R h=>?_⟩
 unfold B0 at h
 rw[SK.toS,<-U6]at h
 refine Kf (wpAny_Expr_any (AJ (yt (Q:=fun _ H'=>De.nx U H') G hr hg ha.h I (yr Lf hk R h fun d z v H' o=>z U H' H0 (R.grow o.1)) dF az he hpl) (fun v s1 ⟨y,H1,I1,r1,q1⟩=>⟨U,H1,I1,q1⟩) fun ev s' z=>Wm z) I.quiet hs)
theorem Px{c:Expr}{b1 b2:List Stmt}{t:DE->R Bool}{g1 g2:DS->SR}(hc:QT X.nox F0 c t)(h1:QY X fr b1 g1)(h2:QY X fr b2 g2):QY X fr [.If c b1 b2 pos] (sIf (fun ρ=>(t ρ).noE) g1 g2):=by
 refine⟨fun pins s U H De Hc Hb H0 ρ P I R h=>?_⟩;unfold sIf at h;rw[SK.toS]at h;have I':Inv X.nox pins U H s:=⟨⟨I.ok.mod,I.ok.kind,I.ok.glob,I.ok.blt,I.ok.above,I.ok.inj,I.ok.has,I.ok.cab,I.ok.hd,I.ok.frames,I.ok.stk,I.ok.exf,I.ok.bs,I.ok.bsz,I.ok.noex,I.ok.exfs,I.ok.funs,I.ok.frf⟩,I.os,I.bare,I.base,I.loc,I.cell,I.free,I.freeC,I.pin,I.hok,I.len⟩;refine Kf (wpAny_If (AJ (hc.h pins s U H (fun b H1=>Same H H1/\SK X.K ⟨H,P⟩ fr Hc Hb De (if b=true then g1 ρ else g2 ρ)) I' ?_) (fun b s1 ⟨H1,I1,sm,q1⟩=>?_) fun _ _ z=>z.elim))
 . refine⟨F0.same _,see ρ,HeOf (List.replicate ρ.length true) ρ U H0 H,R.heH _,by rw[<-U6];exact R.re _,(Rk.noE h).mono fun b h H' s'=>⟨s',h⟩⟩
 . have I1:Inv X pins U H1 s1:=⟨I.ok,I1.os,I1.bare,I1.base,I1.loc,I1.cell,I1.free,I1.freeC,I1.pin,I1.hok,I1.len⟩;have q2:=q1.ex (EX':=⟨H1,P⟩) fun x z H' s'=>z H' (sm.trans s')
   cases b with
   |true=>exact AJ (h1.h pins s1 U H1 De Hc Hb H0 ρ P I1 (R.grow sm) q2) (fun _ _ z=>z) fun _ _ ⟨H2,s2,x,C,a,od,H3,e,s3,z⟩=>⟨H2,s2,x,C,a,od,H3,e,sm.trans s3,z⟩
   |false=>exact AJ (h2.h pins s1 U H1 De Hc Hb H0 ρ P I1 (R.grow sm) q2) (fun _ _ z=>z) fun _ _ ⟨H2,s2,x,C,a,od,H3,e,s3,z⟩=>⟨H2,s2,x,C,a,od,H3,e,sm.trans s3,z⟩
end
noncomputable def Pw:HD:=fun _ _=>.st
noncomputable def SR.gone(i:Nat):SR->SR
 | .nx ρ=>.nx (ρ.set i .em)
 | .bk ρ=>.bk (ρ.set i .em)
 | .ct ρ=>.ct (ρ.set i .em)
 | .rt d=>.rt d
 |_=>.st
def hAs(tb:String->Option Bool)(i:Nat)(g:DS->SR)(r:HD):HD:=fun x ρ=>match tb x.cls with
 |some true=>(g (ρ.set i (.im (.exc x.cls x.fs)))).gone i
 |some false=>r x ρ
 |none=>.st
theorem RS.gone{K:Frag}{Hc Hb H0 H:Hp}{ρ:DS}{U:St}(R:RS K Hc Hb H0 ρ U H)(i:Nat):RS K Hc Hb H0 (ρ.set i .em) (U.set i none) H:=by
 have ne:∀(j:Nat)(z:Sl),(ρ.set i Sl.em)[j]?=some z->z≠.em->j≠i/\ρ[j]?=some z:=fun j z e hz=>by
  by_cases hj:j=i
  . subst hj;by_cases hl:j<ρ.length
    . rw[BR hl]at e;cases e;exact absurd rfl hz
    . rw[DW (by simpa using hl)]at e;cases e
  . rw[AT (BX hj)]at e;exact⟨hj,e⟩
 refine⟨R.sb,R.ext,by simpa using R.len,fun j d e=>?_,fun j d e=>?_,fun j k d e a h1 h2 h3 h4=>?_⟩
 . obtain⟨hj,e⟩:=ne j _ e (by simp);rw[AT (BX hj)];exact R.im j d e
 . obtain⟨hj,e⟩:=ne j _ e (by simp);rw[AT (BX hj)];exact R.ow j d e
 . obtain⟨hj,e1⟩:=ne j _ h1 (by simp);obtain⟨hk,e2⟩:=ne k _ h2 (by simp);rw[AT (BX hj)]at h3;rw[AT (BX hk)]at h4;exact R.ap j k d e a e1 e2 h3 h4
noncomputable def gD(De:Ends)(i:Nat):Ends:={ nx:=fun U H=>De.nx (U.set i none) H,rt:=De.rt,bk:=fun U H=>De.bk (U.set i none) H,ct:=fun U H=>De.ct (U.set i none) H }
theorem SK.gone{K:Frag}{EX:XW}{fr:Bool}{Hc Hb:Hp}{De:Ends}{i:Nat}{r:SR}(h:SK K EX fr Hc Hb De (r.gone i)):SK K F0 fr Hc Hb (gD De i) r:=by
 cases r with
 |nx ρ=>exact fun U H H0 R=>h _ H H0 (R.gone i)
 |bk ρ=>exact fun U H H0 R=>h _ H H0 (R.gone i)
 |ct ρ=>exact fun U H H0 R=>h _ H H0 (R.gone i)
 |rt d=>exact h
 |er x=>exact h.elim
 |st=>exact h.elim
mutual
theorem RD.tups{K:Frag}{H H':Hp}(hs:∀b xs,H b=some (.tup xs)->H' b=some (.tup xs)):∀{d:D}{v:V},d.noL=true->d.pl=true->RD K H d v->RD K H' d v
 | .non,_,_,_,h=>by simp only[RD]at h⊢;exact h
 | .bl _,_,_,_,h=>by simp only[RD]at h⊢;exact h
 | .int _,_,_,_,h=>by simp only[RD]at h⊢;exact h
 | .str _,_,_,_,h=>by simp only[RD]at h⊢;exact h
 | .tup ds,_,n,p,h=>by simp only[RD]at h⊢;obtain⟨a,xs,e,h1,h2⟩:=h;exact⟨a,xs,e,hs _ _ h1,RDs.tups hs (by simpa only [D.noL] using n) (by simpa only [D.pl] using p) h2⟩
 | .lst ds,_,n,_,h=>by simp[D.noL]at n
 | .dk _ ds,_,n,_,h=>by simp[D.noL]at n
 | .dt _ ds,_,n,_,h=>by simp[D.noL]at n
 | .dn _ ds,_,n,_,h=>by simp[D.noL]at n
 | .exc c fs,_,_,p,h=>by simp[D.pl]at p
 | .obj c fs,_,_,p,h=>by simp[D.pl]at p
 | .dp _ _,_,_,p,h=>by simp[D.pl]at p
 | .scr ns,_,_,p,h=>by simp[D.pl]at p
theorem RDs.tups{K:Frag}{H H':Hp}(hs:∀b xs,H b=some (.tup xs)->H' b=some (.tup xs)):∀{ds:List D}{xs:List V},k9 ds=true->pls ds=true->RDs K H ds xs->RDs K H' ds xs
 | [],_,_,_,h=>by simp only[RDs]at h⊢;exact h
 |d::ds,_,n,p,h=>by simp only[RDs]at h⊢;simp only[k9,oF]at n;simp only[pls,oF]at p;obtain⟨x,r,e,h1,h2⟩:=h;exact⟨x,r,e,RD.tups hs n.1 p.1 h1,RDs.tups hs n.2 p.2 h2⟩
end
open Classical in
noncomputable def seeT(He H H2:Hp):Hp:=fun b=>if He b=none/\(H b=none\/∃xs,H2 b=some (.tup xs)) then H2 b else He b
theorem yq(h0:He b=none)(h:H b=none):seeT He H H2 b=H2 b:=by unfold seeT;rw[ζ ⟨h0,.inl h⟩]
theorem yp(h0:Same He H)(s:Same H H2)(h:H2 b=some (.tup xs)):seeT He H H2 b=some (.tup xs):=by
 unfold seeT;cases q:He b with
 |none=>rw[ζ ⟨rfl,.inr ⟨xs,h⟩⟩];exact h
 |some o=>rw[ξ (fun z=>nomatch z.1),<-h,s _ _ (h0 _ _ q)]
theorem yo(h0:Same He H)(s:Same H H2):Ext He H (seeT He H H2) H2:=by
 refine⟨fun b o q=>?_,fun b o q=>?_,fun b n q=>?_⟩
 . unfold seeT;rw[ξ (fun z=>by rw[q]at z;exact nomatch z.1)];exact q
 . unfold seeT at q;split at q
   . exact q
   . exact s _ _ (h0 _ _ q)
 . unfold seeT;split
   . rename_i z;rcases z.2 with z |⟨xs,z⟩
     . exact absurd z n
     . exact .inr ⟨xs,z⟩
   . exact .inl q
theorem Out.exc{K:Frag}{He H H2:Hp}{x:Ex}{a C:Addr}{od:Option Addr}(e1:nsIn K mainGlobals (Str.ofString x.cls)=some (some (.ref C)))(h0:Same He H)(s:Same H H2)(ha:H2 a=none)(nd:∀dx,od=some dx->H dx=none)(xf:XFs K x od H2):Out K false He H (.exc x.cls x.fs) (.ref a) (upd H2 a (F5 a C od)):=by
 have sm:Same H2 (upd H2 a (F5 a C od)):=Same.upd_new ha;rcases xf with e |⟨dx,vs,ob,h1,h2,h3,h4⟩
 . have e2:Ext He H He H2:=⟨Same.refl _,h0.trans s,fun _ _ z=>.inl z⟩;exact .val (s.trans sm) (e2.trans s (.new (h0.trans s) ha)) (by simp only[RD];exact⟨a,od,_,rfl,⟨C,e1,rfl⟩,w8,.inl e⟩)
 . have hd:=nd dx h1;have e2:Ext He H (seeT He H H2) H2:=yo h0 s;have aA:dx≠a:=fun z=>by rw[z,ha]at h2;cases h2
   have tk:∀b xs,H2 b=some (.tup xs)->upd (seeT He H H2) a (F5 a C od) b=some (.tup xs):=fun b xs q=>by rw[k8 (fun z=>by rw[z,ha]at q;cases q)];exact yp h0 s q
   exact .val (s.trans sm) (e2.trans s (.new e2.2.1 ha)) (by simp only[RD];exact⟨a,od,_,rfl,⟨C,e1,rfl⟩,w8,.inr ⟨dx,vs,ob,h1,by rw[k8 aA,yq (Qr h0 hd) hd];exact h2,h3,RDs.tups tk h3.1 h3.2 h4⟩⟩)
structure Tbl(K:Frag)(cn:String)(Dd:Addr)(bmB:List Value)(newId:String)(tb:String->Option Bool):Prop where
 dn:nsIn K mainGlobals (Str.ofString cn)=some (some (.ref Dd))
 dq:XCl K Dd bmB newId
 cs:∀c b,tb c=some b->∃C,nsIn K mainGlobals (Str.ofString c)=some (some (.ref C))/\XCl K C bmB newId/\mroIn K C (.ref Dd)=some b
theorem qF{K:Frag}{h:Heap}{C:Addr}{v:Value}{b:Bool}{nm q:Str}{N:Addr}{bs bm:List Value}{hdct:Bool}{sn:List Str}{sub:List Value}{ab:Bool}{col:Option Bool}{dd:Option Addr}{k0 k1 k2 k3 k5:Option Value}{newId:String}(X:K.In h)
  (hC:h.get? C=some (excClassObj nm q C N bs bm hdct sn sub ab col dd k0 k1 k2 k3 k5 newId)) (hm:mroIn K C v=some b):(Value.ref C::bm).contains v=b:=by
 obtain⟨cd,e1,e2⟩:=Option.bind_eq_some_iff.mp hm
 unfold PySem.W.clsIn at e1
 split at e1<;>cases e1
 rename_i ho
 have:=(X _ _ ho).symm.trans hC
 unfold excClassObj at this
 cases this
 split at e2
 . cases e2
 . exact Option.some.inj e2
section
variable {X:Cx}{EX:XW}{fr:Bool}{cn:String}{Dd:Addr}{bmB:List Value}{newId:String}{tb:String->Option Bool}{cp iA:Pos}{iB:Stmt}{suite:List Stmt}{rest:List ExceptHandler}{g:DS->SR}{hd:HD}{n:Str}{i:Nat}
theorem y48:QH X EX fr [] Pw:=⟨fun _ _ _ _ _ _ _ _ _ _ _ _ _ _ _ _ _ _ _ _ _ _ _ _ _ _ _ h=>h.elim⟩
theorem qE{pins:List (Addr×Obj)}{U:St}{H1:Hp}{s1:Shared}{C a:Addr}{od:Option Addr}{H2:Hp}{s2:Shared}{B:Heap}{T:Addr}{a0:Value}{h5:Heap}{x:Ex}{b:Bool}{R:Result->Shared->Prop}(Tb:Tbl X.K cn Dd bmB newId tb)(aP:bmB.contains (.type "BaseException")=true)(hg:Gl X (Str.ofString cn))(L:Lnd5 X pins U H1 s1 C a od H2 s2 B T a0 h5)
  (gr:X.mg (Str.ofString x.cls)=some (.ref C)) (hb:tb x.cls=some b) (h:R (.ok (if b then .brk else .next)) { s2 with heap:=h5 }) (az:(Str.ofString cn==("__debug__":Str))=false) :
  codeAny (model X.prog X.w) (X.A.mark (some (.ref a))) (.handlers (.ref a) [.ExceptHandler (some (.Name (Str.ofString cn) cp)) none [] iA] X.env) R { s2 with heap:=h5 }:=by
 obtain⟨I5,sm⟩:=L.inv
 have hm:X.mg (Str.ofString cn)=some (.ref Dd):=DZ L.I.ok.mod.kin L.I.ok.mod.glob Tb.dn
 obtain⟨C',e1,e2,e3⟩:=Tb.cs _ _ hb
 have bb:=DZ L.I.ok.mod.kin L.I.ok.mod.glob e1
 rw[gr]at bb
 cases bb
 obtain⟨oe,vs,he,hc,cG,_⟩:=L.fl.first
 have KI:X.K.In h5:=I5.kIn
 obtain⟨bm,N,nm,qn,bs,hdct,sn,sub,ab,col,dd,k0,k1,k2,k3,k5,hC,TL⟩:=Uy KI e2
 obtain⟨uH,N2,uI,uJ,uK,oH,uL,um,uM,uo,gY,j0,j1,j2,j3,j5,hD,rO⟩:=Uy KI Tb.dq
 refine codeAny_handlers_test (U8 (X:=X.held (.ref a)) (I5.held _) hg hm ?_ az)
 exact zt hC hD he hc (rO.hasType aP) (by rw[qF KI hC e3];exact h)
theorem y85(Tb:Tbl X.K cn Dd bmB newId tb)(aP:bmB.contains (.type "BaseException")=true)(hg:Gl X (Str.ofString cn))(hN:X.N.Nodup)(hi:X.N[i]?=some n)(hk:X.env.scope.names.lookup n=some .local)(hs:∀e,QB (X.held e) F0 fr (iB::suite) g)(hr:QH X EX fr rest hd)(az:(Str.ofString cn==("__debug__":Str))=false:=by decide) :
  QH X EX fr (.ExceptHandler (some (.Name (Str.ofString cn) cp)) (some n) (iB::suite) iA::rest) (hAs tb i g hd):=by
 refine⟨fun pins U H1 s1 C a od H2 s2 B T a0 h5 De Hc Hb H0 ρ x E H sH nd xf L gr R h=>?_⟩
 unfold hAs at h
 refine wpAny_handleBy_cons ?_ (by intro q;cases q)
 cases hb:tb x.cls with
 |none=>rw[hb]at h;exact h.elim
 |some b=>
  rw[hb]at h
  refine qE Tb aP hg L gr hb ?_ az
  cases b with
  |false=>exact hr.h pins U H1 s1 C a od H2 s2 B T a0 h5 De Hc Hb H0 ρ x E H sH nd xf L gr R h
  |true=>
   refine codeAny_handlers_suite_as (L.again fun h6 L6=>?_)
   obtain⟨I6,sm⟩:=L6.inv
   refine Mg I6 hN hi (.inl hk) (v:=.ref a) rfl (fun s3 I3=>?_) (.inr hk)
   obtain⟨C',e1,e2,e3⟩:=Tb.cs _ _ hb
   have bb:=DZ L.I.ok.mod.kin L.I.ok.mod.glob e1
   rw[gr]at bb
   cases bb
   have o:Out X.K false (HeOf [] ρ U H0 H) H (.exc x.cls x.fs) (.ref a) (upd H2 a (F5 a C od)):=.exc e1 (R.heH []) sH L.ha nd xf
   obtain⟨aX,R',rP⟩:=R.out o
   have R3:=R'.put rP i
   refine AJ ((hs (.ref a)).h pins s3 _ _ (gD De i) (I3.held (.ref a)) ⟨Hc,Hb,aX,_,F0.same _,R3,h.gone⟩) (fun f s4 q=>?_) fun _ _ z=>z.elim
   cases f with
   |next=>obtain⟨ak,H',I',q⟩:=q;exact Ff (I'.unheld L.I.ok) hN hi hk fun s5 I5=>⟨_,H',I5,q⟩
   |brk=>obtain⟨ak,H',I',q⟩:=q;exact Ff (I'.unheld L.I.ok) hN hi hk fun s5 I5=>⟨_,H',I5,q⟩
   |cont=>obtain⟨ak,H',I',q⟩:=q;exact Ff (I'.unheld L.I.ok) hN hi hk fun s5 I5=>⟨_,H',I5,q⟩
   |ret u=>obtain⟨v,ak,H',I',rv,q⟩:=q;exact Ff (I'.unheld L.I.ok) hN hi hk fun s5 I5=>⟨v,_,H',I5,rv,q⟩
end
end L2
namespace L2
open PySem PySem.Spec PyProof.Rows
open PySem.Calls
section
variable {prog:Program}{w:World}{A:Around}{E:Value->Shared->Prop}{h:Heap}{g:Array GenState}{d:Drawn}{t:Nat}{os:OsState}{K:Frag}{C a:Addr}{o:Obj}
theorem Ba(L:Looks M h m r)(q:Q r ⟨h,g,d,t,os⟩):wpAny M A m Q E ⟨h,g,d,t,os⟩:=L A Q E _ (fun _ _ z=>z) q
theorem y49{R:Result->Shared->Prop}(X:K.In h)(hx:h.get? a=some o)(hc:o.cls=.ref C)(hm:mroIn K C (.type "object")=some true)(hq:R (.ok (.ret (.ref C))) ⟨h,g,d,t,os⟩) :
  codeAny (model prog w) A (.call (.builtin "getset_descriptor.__get__") ⟨[.builtin "object.__class__",.ref a,.ref C],[]⟩) R ⟨h,g,d,t,os⟩:=by
 have nG:(⟨h,g,d,t,os⟩:Shared).TypeIs (.builtin "object.__class__") "getset_descriptor":=EE
 have L1:Looks (model prog w) h (isSubtype (.ref C) (.type (".".intercalate ("object.__class__".cutAt '.').dropLast))) true:=by rw[PySem.F.owner_object_class];exact PySem.W.looks_mroIn X hm
 refine codeAny_call_builtin PySem.F.slot_gs_get.plain PySem.F.entry_gs_get (PySem.F.slot_gs_get.check _ _ _ _ _ _ _ _ nG (PySem.F.args_gs_get _ _ _) ?_)
 repeat (any_goals (first |assumption | (with_reducible refine CL hx ?_;rw[hc]) |with_reducible refine Ba L1 ?_ |wp_step))
 refine⟨Code.quiet_builtin _ (by decide +kernel),EJ PySem.F.entry_object_class ?_⟩
 repeat (any_goals (first |assumption | (with_reducible refine CL hx ?_;rw[hc]) |wp_step))
theorem wE(X:K.In h)(hx:h.get? a=some o)(hc:o.cls=.ref C)(hm:mroIn K C (.type "object")=some true)(eA:PySem.W.findIn K (.ref C) "__class__"=some (some (.builtin "object.__class__")))(hq:Q (.done (.ret (.ref C))) ⟨h,g,d,t,os⟩) :
  wpAny (model prog w) A (Builtin.«object.__getattribute__» ⟨[.ref a,.str "__class__" tk],[]⟩) Q E ⟨h,g,d,t,os⟩:=by
 have nG:(⟨h,g,d,t,os⟩:Shared).TypeIs (.builtin "object.__class__") "getset_descriptor":=EE
 have L2:=looks_findIn (M:=model prog w) X eA
 have f5:=EE
 have f6:=PySem.F.slot_gs_get.lookup
 have f7:=PySem.F.slot_gs_set.lookup
 repeat (any_goals (first |assumption | (with_reducible refine CL hx ?_;rw[hc]) |with_reducible refine Ba L2 ?_ |wp_step))
 refine y49 X hx hc hm ?_
 repeat (any_goals (first |assumption |wp_step))
theorem wD(X:K.In h)(hx:h.get? a=some o)(hc:o.cls=.ref C)(hB:mroIn K C (.type "BaseException")=some true)(hq:Q () ⟨h,g,d,t,os⟩):wpAny M A (checkBuiltinCall "BaseException.__getattribute__" ⟨[.ref a,iM],[]⟩) Q E ⟨h,g,d,t,os⟩:=by
 have hk:builtinKind "BaseException.__getattribute__"=some .slot:=by decide +kernel
 have gI:splitId "BaseException.__getattribute__"=some ("BaseException","__getattribute__"):=by decide +kernel
 have ha:=PySem.F.args_bexc_ga (.ref a) iM;have L1:=PySem.W.looks_mroIn (M:=M) X hB;simp only[checkBuiltinCall,hk,gI];refine χ ?_
 . unfold isInstance;repeat (first | (with_reducible refine CL hx ?_;rw[hc]) |with_reducible refine Ba L1 ?_ |wp_step)
   exact hq
theorem qC{tk:Tok}{R:Result->Shared->Prop}(X:K.In h)(hx:h.get? a=some o)(hc:o.cls=.ref C)(hm:mroIn K C (.type "object")=some true)(hB:mroIn K C (.type "BaseException")=some true)(eA:PySem.W.findIn K (.ref C) "__class__"=some (some (.builtin "object.__class__")))(hq:R (.ok (.ret (.ref C))) ⟨h,g,d,t,os⟩) :
  codeAny (model prog w) A (.call (.builtin "BaseException.__getattribute__") ⟨[.ref a,.str "__class__" tk],[]⟩) R ⟨h,g,d,t,os⟩:=
 codeAny_call_builtin PySem.F.attr_ValueError.ga.plain PySem.F.entry_bexc_ga (wD X hx hc hB (wE X hx hc hm eA hq))
theorem y86(X:K.In h)(hx:h.get? a=some o)(hc:o.cls=.ref C)(hm:mroIn K C (.type "object")=some true)(hB:mroIn K C (.type "BaseException")=some true)(eA:PySem.W.findIn K (.ref C) "__class__"=some (some (.builtin "object.__class__")))
  (lu:PySem.W.findIn K (.ref C) "__getattribute__"=some (some (.builtin "BaseException.__getattribute__"))) (hU:PySem.W.findIn K (.ref C) "__getattr__"=some none) (hq:Q (.ref C) ⟨h,g,d,t,os⟩):wpAny (model prog w) A (getAttrBy (.ref a) (.str "__class__" tk) false) Q E ⟨h,g,d,t,os⟩:=by
 have L1:=looks_findIn (M:=model prog w) X lu
 have L2:=looks_findIn (M:=model prog w) X hU
 have f3:=(PySem.F.attr_ValueError).ga.bind (.ref a)
 have fy:(Value.builtin "BaseException.__getattribute__"==Value.builtin "object.__getattribute__")=false:=by decide +kernel
 have nH:(onTheHeap (Value.ref C)&&Value.builtin "BaseException.__getattribute__"==Value.builtin "object.__getattribute__")=false:=by rw[fy];rfl
 repeat (any_goals (first |assumption | (with_reducible refine CL hx ?_;rw[hc]) |with_reducible refine Ba L1 ?_ |with_reducible refine Ba L2 ?_ |wp_step))
 refine qC X hx hc hm hB eA ?_
 repeat (any_goals (first |assumption |wp_step))
theorem wC(X:K.In h)(hx:h.get? a=some o)(hc:o.cls=.ref C)(hm:mroIn K C (.type "object")=some true)(hB:mroIn K C (.type "BaseException")=some true)(eA:PySem.W.findIn K (.ref C) "__class__"=some (some (.builtin "object.__class__")))
  (lu:PySem.W.findIn K (.ref C) "__getattribute__"=some (some (.builtin "BaseException.__getattribute__"))) (hU:PySem.W.findIn K (.ref C) "__getattr__"=some none) (hq:Q (some (.ref C)) ⟨h,g,d,t+1,os⟩):wpAny (model prog w) A (getAttr? (.ref a) "__class__") Q E ⟨h,g,d,t,os⟩:=by
 unfold getAttr? getAttrBy?
 repeat (any_goals (first |assumption |with_reducible apply y86 X hx hc hm hB eA lu hU |wp_step))
end
structure XF(K:Frag)(C:Addr):Prop where
 ob:mroIn K C (.type "object")=some true
 be:mroIn K C (.type "BaseException")=some true
 cl:PySem.W.findIn K (.ref C) "__class__"=some (some (.builtin "object.__class__"))
 ga:PySem.W.findIn K (.ref C) "__getattribute__"=some (some (.builtin "BaseException.__getattribute__"))
 gt:PySem.W.findIn K (.ref C) "__getattr__"=some none
theorem XF.cls{K:Frag}{C:Addr}(F:XF K C):∃c' d' cd sl,K.lookup C=some ⟨c',d',.cls cd,sl⟩:=by obtain⟨cd,e1,e2⟩:=Option.bind_eq_some_iff.mp F.ob;unfold PySem.W.clsIn at e1;split at e1<;>cases e1;rename_i ho;exact⟨_,_,_,_,ho⟩
theorem Lz{K:Frag}{C a:Addr}(F:XF K C):PySem.W.KitX K (.ref a) (.ref C) (fun h=>∃ob,h.get? a=some ob/\ob.cls=.ref C) where
 ty:=fun M h X ⟨o,h1,h2⟩=>h2 ▸ (PySem.W.Looks.ld h1).andThen .now
 it:=fun _ _ X _=>by obtain⟨c',d',cd,sl,ho⟩:=F.cls;intro A' Q' E' s' k q;unfold isType loadHead;exact χ (wpAny_loadPart (k _ _ (X _ _ ho)) (γ q))
 ne:=fun h tp dd its n sl X rQ=>by
  obtain⟨c',d',cd,sl,ho⟩:=F.cls;refine Bool.eq_false_iff.mpr fun q=>?_
  have e:C=tp:=Value.ref.inj (BN.mp q);subst e;have z:=(X _ _ ho).symm.trans rQ;cases z
 ca:=fun {prog w A E Q s} X ⟨o,hx,hc⟩ k=>by obtain⟨h,g,d,t,os⟩:=s;exact wC X hx hc F.ob F.be F.cl F.ga F.gt k
def Go(K:Frag):List V->Hp->VK->Prop:=fun xs H Q=>match xs with
 | [.ref a,.ref p]=>∃C od b,H a=some (F5 a C od)/\XF K C/\(kitOne K (.ref C) (.ref p)=some b\/∃Ds:List Addr,H p=some (.tup (Ds.map V.ref))/\kitAny K (.ref C) (Ds.map Value.ref)=some b)/\Q (.bl b) H
 | [.ref a,.ty T]=>∃C od b,H a=some (F5 a C od)/\XF K C/\kitOne K (.ref C) (.type T)=some b/\Q (.bl b) H
 |_=>False
theorem Xh:∀{Ds:List Addr}{us:List Value},Vals (Ds.map V.ref) us->us=Ds.map Value.ref
 | [],_,.nil=>rfl
 |_::_,_,.cons r t=>by rw[Xh t,show _=_ from r];rfl
theorem Qq:CallR X (.builtin "isinstance") (Go X.K):=by
 intro pins s U H xs us Q I r h;unfold Go at h;split at h
 . rename_i a p;obtain⟨C,od,b,ha,F,hk,q⟩:=h;cases r with
   |cons r1 r=>cases r with
    |cons r2 r=>
     cases r
     cases (show _=_ from r1)
     cases (show _=_ from r2)
     obtain⟨⟨ob,o1,o2,_⟩,_⟩:=I.hok a _ ha
     rcases hk with hk |⟨Ds,hp,hk⟩
     . exact kia_one (Lz F) I.kIn ⟨ob,o1,o2⟩ hk (fun z=>by cases z) fun tk=>⟨.bl b,H,I.tok tk,rfl,q⟩
     . obtain⟨_,its,rv,ot,n,t1,⟨t2,t3⟩,_⟩:=I.hok p _ hp;obtain⟨oc,od,uN,osl⟩:=ot;dsimp only at t1 t3;subst t1 t3;rw[Xh rv]at n;exact PySem.W.kia_tup (Lz F) I.kIn ⟨ob,o1,o2⟩ n hk (fun z=>by cases z) fun tk=>⟨.bl b,H,I.tok tk,rfl,q⟩
 . rename_i a T;obtain⟨C,od,b,ha,F,hk,q⟩:=h;cases r with
   |cons r1 r=>cases r with
    |cons r2 r=>
     cases r
     cases (show _=_ from r1)
     cases (show _=_ from r2)
     obtain⟨⟨ob,o1,o2,_⟩,_⟩:=I.hok a _ ha
     exact kia_one (Lz F) I.kIn ⟨ob,o1,o2⟩ hk (fun z=>by cases z) fun tk=>⟨.bl b,H,I.tok tk,rfl,q⟩
 . exact h.elim
noncomputable def o8(tb:String->Option Bool):D->Option D
 | .exc c _=>(tb c).map .bl
 |_=>none
structure Bel(K:Frag)(y:Value)(tb:String->Option Bool):Prop where
 h:∀c b,tb c=some b->∃C,nsIn K mainGlobals (Str.ofString c)=some (some (.ref C))/\XF K C/\kitOne K (.ref C) y=some b
structure BelT(K:Frag)(Ds:List Addr)(tb:String->Option Bool):Prop where
 h:∀c b,tb c=some b->∃C,nsIn K mainGlobals (Str.ofString c)=some (some (.ref C))/\XF K C/\kitAny K (.ref C) (Ds.map Value.ref)=some b
theorem RD.exc{K:Frag}{H:Hp}{c:String}{fs:List D}{v:V}(r:RD K H (.exc c fs) v):∃a C od,v=.ref a/\nsIn K mainGlobals (Str.ofString c)=some (some (.ref C))/\H a=some (F5 a C od)/\XFs K ⟨c,fs⟩ od H:=by simp only[RD]at r;obtain⟨a,od,o,e,⟨C,h1,h2⟩,h3,h4⟩:=r;subst h2;exact⟨a,C,od,e,h1,h3,h4⟩
section
variable {X:Cx}{EX:XW}{a b:Expr}{bs:List Expr}{pos p aD:Pos}{x:Str}{f:DE->R D}{tb:String->Option Bool}{Ds:List Addr}
theorem y4a{K:Frag}{U:St}{H:Hp}{Q:VK}{y:V}{yv:Value}(hy:(∃Dd,y=.ref Dd/\yv=.ref Dd)\/∃T,y=.ty T/\yv=.type T)(B:Bel K yv tb)(h:TEd K EX false (eUn (o8 tb) f) U H Q):tCB (Go K) (E6 (TEd K EX false f) (E6 (tC y) L8)) U H Q:=by
 obtain⟨sx,ρ,H0,s,e,h⟩:=h;unfold eUn at h;rw[Rk.bind]at h;refine TEd.go sx s e h fun d h v H1 aq s1 e1 r1=>?_
 obtain⟨z,hz,h⟩:=h.of;cases d<;>simp only[o8]at hz<;>first |cases hz |skip
 rename_i c _;obtain⟨b,hb,rfl⟩:=BQ.mp hz;obtain⟨a,C,od,rfl,hn,ha,_⟩:=r1.exc;obtain⟨C',h1,h2,h3⟩:=B.h c b hb;rw[hn]at h1;cases h1;have q:=h (.bl b) H1 (.val s1 e1 (by simp only[RD]));rcases hy with⟨Dd,rfl,rfl⟩ |⟨T,rfl,rfl⟩
 . exact⟨C,od,b,e1.2.1 _ _ ha,h2,.inl h3,q⟩
 . exact⟨C,od,b,e1.2.1 _ _ ha,h2,h3,q⟩
theorem Hu(hg:Gl X x)(hm:X.mg x=none)(hv:bootBuiltins x=some (.builtin "isinstance"))(ha:QE X EX false a f)(hb:PE X b (tC y))(hy:(∃Dd,y=.ref Dd/\yv=.ref Dd)\/∃T,y=.ty T/\yv=.type T)(B:Bel X.K yv tb)(hn:x≠"__name__":=by decide)(az:(x==("__debug__":Str))=false:=by decide)
 (he:starEach [a,b] X.env=(false,eval a X.env)::starEach [b] X.env:=by rfl) (hpl:(backTo pos (starEach [b] X.env)).any (·.1)=false:=by rfl) (hs:starEach [b] X.env=(false,eval b X.env)::starEach [] X.env:=by rfl) :
 QE X EX false (.Call (.Name x p) [a,b] [] pos) (eUn (o8 tb) f):=⟨(Cf Qq hg hm hv (G1 ha.h (G1 hb pa_nil hs) he) hn az he hpl).imp fun _ _ _ q=>y4a hy B q⟩
inductive PDs (X:Cx):List Expr->List Addr->Prop where
 |nil:PDs X [] []
 |cons {e:Expr} {es:List Expr} {Dd:Addr} {Ds:List Addr} (h:PE X e (tC (.ref Dd))) (r:PDs X es Ds) (hs:starEach (e::es) X.env=(false,eval e X.env)::starEach es X.env):PDs X (e::es) (Dd::Ds)
noncomputable def tVs(vs:List V):TA:=fun _ H Q=>Q vs H
theorem PDs.pa(h:PDs X es Ds):PA X es (tVs (Ds.map V.ref)):=by
 induction h with
 |nil=>exact pa_nil.imp fun _ _ _ q=>q
 |cons h r hs ih=>exact(G1 h ih hs).imp fun _ _ _ q=>q
theorem qB{K:Frag}{U:St}{H:Hp}{Q:VK}(hl:Ds.length<=1000)(B:BelT K Ds tb)(h:TEd K EX false (eUn (o8 tb) f) U H Q):tCB (Go K) (E6 (TEd K EX false f) (E6 (Qk (tVs (Ds.map V.ref))) L8)) U H Q:=by
 obtain⟨sx,ρ,H0,s,e,h⟩:=h;unfold eUn at h;rw[Rk.bind]at h;refine TEd.go sx s e h fun d h v H1 aq s1 e1 r1=>?_
 obtain⟨z,hz,h⟩:=h.of;cases d<;>simp only[o8]at hz<;>first |cases hz |skip
 rename_i c _;obtain⟨b,hb,rfl⟩:=BQ.mp hz;obtain⟨a,C,od,rfl,hn,ha,_⟩:=r1.exc;obtain⟨C',h1,h2,h3⟩:=B.h c b hb;rw[hn]at h1;cases h1;have rR:=e1.2.1 _ _ ha;refine⟨Fm (by rw[gV];exact hl),fun p hp=>?_⟩;have su:Same H1 (upd H1 p (.tup (Ds.map V.ref))):=Same.upd_new hp;exact⟨C,od,b,su _ _ rR,h2,.inr ⟨Ds,w8,h3⟩,h (.bl b) _ (.val (s1.trans su) (e1.grow su) (by simp only[RD]))⟩
theorem qA(hg:Gl X x)(hm:X.mg x=none)(hv:bootBuiltins x=some (.builtin "isinstance"))(ha:QE X EX false a f)(hb:PDs X bs Ds)(hl:Ds.length<=1000)(B:BelT X.K Ds tb)(hn:x≠"__name__":=by decide)(az:(x==("__debug__":Str))=false:=by decide)
 (he:starEach [a,.Tuple bs kt aD] X.env=(false,eval a X.env)::starEach [.Tuple bs kt aD] X.env:=by rfl) (hpl:(backTo pos (starEach [.Tuple bs kt aD] X.env)).any (·.1)=false:=by rfl) (hs:starEach [.Tuple bs kt aD] X.env=(false,eval (.Tuple bs kt aD) X.env)::starEach [] X.env:=by rfl) :
 QE X EX false (.Call (.Name x p) [a,.Tuple bs kt aD] [] pos) (eUn (o8 tb) f):=⟨(Cf Qq hg hm hv (G1 ha.h (G1 (To hb.pa) pa_nil hs) he) hn az he hpl).imp fun _ _ _ q=>qB hl B q⟩
end
end L2
namespace L2
open PySem PySem.Spec PyProof.Rows
section
open PySem.AutoSeq1 (wpAny_loadPart')
end
end L2
namespace L2
open PySem PySem.Spec PyProof.Rows
section
open PySem.AutoSeq1 (wpAny_loadPart')
end
end L2
namespace L2
open PySem PySem.Spec PyProof.Rows
theorem Un.drop(u:Un fs [] H H' h h')(hn:h.get? e=none)(he:H e=none):Un fs [] H (fun b=>if b=e then none else H' b) h h' where
 keep:=u.keep
 slot:=u.slot
 free:=fun b o q n hx=>by
  show(if b=e then none else H' b)=none;split
  . rfl
  . exact u.free b o q n hx
 there:=u.there
 tups:=fun b xs q=>by show(if b=e then none else H' b)=_;rw[ξ (fun z=>by rw[z,he]at q;cases q)];exact u.tups b xs q
 frzs:=fun b o v q=>by show(if b=e then none else H' b)=_;rw[ξ (fun z=>by rw[z,he]at q;cases q)];exact u.frzs b o v q
 tbls:=fun b ps q=>by obtain⟨m,z⟩:=u.tbls b ps q;refine⟨m,?_⟩;show(if b=e then none else H' b)=_;rw[ξ (fun y=>by rw[y,he]at q;cases q)];exact z
section
variable {x:Str}
theorem Ux{K:Frag}{H:Hp}:∀{ds:List D}{xs:List V},RDs K H ds xs->xs.length=ds.length
 | [],_,h=>by simp only[RDs]at h;rw[h];rfl
 |d::ds,_,h=>by simp only[RDs]at h;obtain⟨x,r,rfl,_,h2⟩:=h;rw[pp,pp,Ux h2]
end
end L2
namespace L2
open PySem PySem.Spec PyProof.Rows
open PySem.Calls
open Builtin Builtin.ObjectAttr
section
open PySem.AutoSeq1 (wpAny_loadPart')
end
theorem Wl{K:Frag}{H:Hp}{f:Str}:∀{ns:List Str}{fs:List D}{vs:List V}{d:D},RDs K H fs vs->(ns.zip fs).lookup f=some d->f∈ns/\d∈fs/\∃v,(ns.zip vs).lookup f=some v/\RD K H d v
 | [],_,_,_,_,h=>by simp at h
 |_::_,[],_,_,_,h=>by simp at h
 |n::ns,e::fs,_,d,r,h=>by
  simp only[RDs]at r;obtain⟨x,xs,rfl,r1,r2⟩:=r;simp only[BS,List.lookup]at h⊢;by_cases hb:(f==n)=true
  . rw[hb]at h⊢;cases h;exact⟨by rw[eq_of_beq hb];simp,by simp,x,rfl,r1⟩
  . have hb:(f==n)=false:=by simpa using hb
    rw[hb]at h⊢;obtain⟨q1,q2,q3⟩:=Wl r2 h;exact⟨bI _ q1,bI _ q2,q3⟩
noncomputable def K4(s:Stmt):List Stmt:=match s with
 | .ClassDef _ _ _ b _ _ _ _ _ _ _=>b
 |_=>[]
end L2
namespace L2
open PySem PySem.Spec PyProof.Rows
section
variable {prog:Program}{w:World}{A:Around}{R:Result->Shared->Prop}{I:Addr}{fp wr:List Addr}{n:Nat}{P:Nat->Value->Prop}{St:Nat->Heap->Prop}
theorem y4b(kw:List (Str×Value))(W:Walks prog w A.in1 I fp wr n P St)(bt:Nat->Nat->Bool)(cm:CmpOf prog w A.in1 .Gt P bt)(S:Addr)(nf:S∉fp) :
  ∀(k j:Nat)(s:Shared)(vb:Value)(c:Nat),n - (j+1)=k->j+1<=n->St (j+1) s.heap->P (argBest bt j) vb->s.heap.get? S=some { cls:=.type "list",dict:=none,data:=.seq #[vb,vb] c,slots:=#[] } ->
  (∀v h' tk,P (argBest bt (n - 1)) v->(∀b o,b∉wr->b≠S->s.heap.get? b=some o->h'.get? b=some o)->R (.ok (.ret v)) { s with heap:=h',toks:=tk })->codeAny (model prog w) A (.builtin "max.loop" ⟨[.ref I,.none,.ref S],kw⟩) R s:=by
 have nw:S∉wr:=fun h=>nf (W.sub _ h)
 have nm:(toString "max"++toString ".loop":String)="max.loop":=by decide
 intro k
 induction k with
 |zero=>
  intro j s vb c ek ej st pb eS fin
  have jn:j+1=n:=by omega
  refine EJ DR ?_
  rw[EI BF _]
  show wpAny _ A.in1 (seqItems? (.ref S) >>= _) _ _ _
  refine χ (wpAny_seqItems eS rfl ?_)
  show wpAny _ A.in1 (tryCatch (pyNext (.ref I)) _ >>= _) _ _ _
  refine χ (wpAny_tryCatch (W.done s _ _ (jn ▸ st) fun h' tk kp=>?_))
  have eB:=kp S _ nw eS
  show wpAny _ A.in1 (updateSeq S (fun _=>#[]) >>= _) _ _ _
  refine χ ?_
  refine wpAny_updateSeq eB rfl (χ (wpAny_letGo (γ ?_)))
  exact fin vb _ tk (by rw[<-jn];exact pb) fun b o ci dH e=>(BI _ _ (BX dH)).trans (kp b o ci e)
 |succ k ih=>
  intro j s vb c ek ej st pb eS fin
  have jl:j+1<n:=by omega
  refine EJ DR ?_
  rw[EI BF _]
  show wpAny _ A.in1 (seqItems? (.ref S) >>= _) _ _ _
  refine χ (wpAny_seqItems eS rfl ?_)
  show wpAny _ A.in1 (tryCatch (pyNext (.ref I)) _ >>= _) _ _ _
  refine χ (wpAny_tryCatch (W.item (j+1) s _ _ jl st fun v h' tk pv st' kp=>?_))
  have eB:=kp S _ nw eS
  show wpAny _ A.in1 (tryCatch (holding [v,v] (richCompare .Gt v vb >>= _)) _ >>= _) _ _ _
  refine χ (wpAny_tryCatch (BY (χ (cm (j+1) (argBest bt j) v vb _ _ _ pv pb ?_))))
  refine χ (BY (CK ?_))
  refine χ (wpAny_letGo (γ ?_))
  cases hb:bt (j+1) (argBest bt j) with
  |true=>
   rw[ζ rfl]
   refine χ ?_
   refine wpAny_updateSeq eB rfl (χ (wpAny_letGo ?_))
   rw[nm]
   refine γ ⟨plainId_quiet BF _,ih (j+1) _ v _ (by omega) jl (W.frame _ _ _ st' fun b lv o e=>?_) (by simp only[argBest,hb,BM];exact pv) (Heap.get?_update_self _ eB rfl) fun v' gu dY eU eD=>?_⟩
   . exact(BI _ _ (fun z:S=b=>nf (by rw[z];exact lv))).trans e
   . exact fin v' gu dY eU fun b o ci dH e=>eD b o ci dH ((BI _ _ (BX dH)).trans (kp b o ci e))
  |false=>
   rw[ξ θ]
   refine χ (wpAny_letGo ?_)
   rw[nm]
   exact γ ⟨plainId_quiet BF _,ih (j+1) _ vb c (by omega) jl st' (by simp only[argBest,hb,AF,BK];exact pb) eB fun v' gu dY eU eD=>fin v' gu dY eU fun b o ci dH e=>eD b o ci dH (kp b o ci e)⟩
theorem yn(kw:List (Str×Value))(W:Walks prog w A.in1 I fp wr n P St)(bt:Nat->Nat->Bool)(cm:CmpOf prog w A.in1 .Gt P bt)(S:Addr)(nf:S∉fp)(n0:0<n)(st:St 0 s.heap)
  (eS:s.heap.get? S=some { cls:=.type "list",dict:=none,data:=.seq #[] c,slots:=#[] }) (fin:∀v h' tk,P (argBest bt (n - 1)) v->(∀b o,b∉wr->b≠S->s.heap.get? b=some o->h'.get? b=some o)->R (.ok (.ret v)) { s with heap:=h',toks:=tk }) :
  codeAny (model prog w) A (.builtin "max.loop" ⟨[.ref I,.none,.ref S],kw⟩) R s:=by
 have nw:S∉wr:=fun h=>nf (W.sub _ h)
 have nm:(toString "max"++toString ".loop":String)="max.loop":=by decide
 refine EJ DR ?_
 rw[EI BF _]
 show wpAny _ A.in1 (seqItems? (.ref S) >>= _) _ _ _
 refine χ (wpAny_seqItems eS rfl ?_)
 show wpAny _ A.in1 (tryCatch (pyNext (.ref I)) _ >>= _) _ _ _
 refine χ (wpAny_tryCatch (W.item 0 s _ _ n0 st fun v h' tk pv st' kp=>?_))
 have eB:=kp S _ nw eS
 show wpAny _ A.in1 (updateSeq S (fun _=>#[v,v]) >>= _) _ _ _
 refine χ ?_
 refine wpAny_updateSeq eB rfl ?_
 rw[nm]
 refine γ ⟨plainId_quiet BF _,y4b kw W bt cm S nf _ 0 _ v _ rfl n0 (W.frame _ _ _ st' fun b lv o e=>?_) pv (Heap.get?_update_self _ eB rfl) fun v' gu dY eU eD=>?_⟩
 . exact(BI _ _ (fun z:S=b=>nf (by rw[z];exact lv))).trans e
 . exact fin v' gu dY eU fun b o ci dH e=>eD b o ci dH ((BI _ _ (BX dH)).trans (kp b o ci e))
theorem wB(q:Str)(dv:Value)(W:Walks prog w A.in1 I fp wr n P St)(S:Addr)(nf:S∉fp)(n0:n=0)(st:St 0 s.heap)
  (eS:s.heap.get? S=some { cls:=.type "list",dict:=none,data:=.seq #[] c,slots:=#[] }) (fin:∀h' tk,(∀b o,b∉wr->b≠S->s.heap.get? b=some o->h'.get? b=some o)->R (.ok (.ret dv)) { s with heap:=h',toks:=tk }) :
  codeAny (model prog w) A (.builtin "max.loop" ⟨[.ref I,.none,.ref S],[(q,dv)]⟩) R s:=by
 refine EJ DR ?_
 rw[EI BF _]
 show wpAny _ A.in1 (seqItems? (.ref S) >>= _) _ _ _
 refine χ (wpAny_seqItems eS rfl ?_)
 show wpAny _ A.in1 (tryCatch (pyNext (.ref I)) _ >>= _) _ _ _
 refine χ (wpAny_tryCatch (W.done s _ _ (n0 ▸ st) fun h' tk kp=>?_))
 show wpAny _ A.in1 (rule _ >>= _) _ _ _
 exact χ (wpAny_rule (γ (fin h' tk fun b o hb _ e=>kp b o hb e)))
end
theorem wA(a v:Value):argsOk "max" ⟨[a],[(Str.ofString "default",v)]⟩:=by unfold argsOk;kernel_rfl
section
variable {prog:Program}{w:World}{A:Around}{E:Value->Shared->Prop}{s:Shared}
theorem wz
  (h:wpAny (model prog w) A.in1 (pyIter x) (fun it bu=>∃I fp wr n P St bt,it=.ref I/\Walks prog w A.in1 I fp wr n P St/\St 0 bu.heap/\(∀b∈fp,b<bu.heap.objs.size)/\CmpOf prog w A.in1 .Gt P bt /\
   ∀v h' tk,((0<n/\P (argBest bt (n - 1)) v)\/(n=0/\v=dv))->(∀b o,b∉wr->bu.heap.get? b=some o->h'.get? b=some o)->Q v { bu with heap:=h',toks:=tk }) E s) :
  wpAny (model prog w) A (call (.builtin "max") [x] [(Str.ofString "default",dv)]) Q E s:=by
 have nm:(toString "max"++toString ".loop":String)="max.loop":=by decide
 refine kmk_tree PySem.F.kind_max PySem.F.plain_max PySem.F.entry_max (wA _ _) ?_
 show wpAny _ A.in1 (Builtin.Builtins.bindParams "max" ["key","default"] 0 ⟨[],[(Str.ofString "default",dv)]⟩ >>= _) _ _ s
 refine χ (wpAny_of_eq (show Builtin.Builtins.bindParams "max" ["key","default"] 0 ⟨[],[(Str.ofString "default",dv)]⟩=pure [none,some dv] from rfl) ?_)
 refine χ (γ ?_)
 refine χ (AJ h (fun it bu g=>?_) fun _ _ e=>e)
 obtain⟨I,fp,wr,n,P,St,bt,rfl,W,st,bd,cm,hQ⟩:=g
 refine χ (wpAny_newObj_type ?_)
 have nf:bu.heap.objs.size∉fp:=fun hm=>CH _ (bd _ hm)
 rw[nm]
 refine γ ⟨plainId_quiet BF _,?_⟩
 by_cases n0:0<n
 . exact yn _ W bt cm bu.heap.objs.size nf n0 (W.frame _ _ _ st fun b _ o e=>ω _ e) (π _ rfl) fun v h' tk pv kp=>
    hQ v h' tk (.inl ⟨n0,pv⟩) fun b o ci e=>kp b o ci (AG (τ e)) (ω _ e)
 . exact wB _ dv W bu.heap.objs.size nf (by lia) (W.frame _ _ _ st fun b _ o e=>ω _ e) (π _ rfl) fun h' tk kp=>
    hQ dv h' tk (.inr ⟨by lia,rfl⟩) fun b o ci e=>kp b o ci (AG (τ e)) (ω _ e)
variable {h₀:Heap}{L:Addr}{m:Str->Option Value}{iC:List (Addr×Obj)}
theorem wy(hh:A.handled=none)(F:Fr h₀ L s.heap m)(N:News h₀ L s.heap iC)(hl:s.heap.IsList l vs.toArray)(hi:IntsAre vs ns)
  (h:∀v h' tk,Fr h₀ L h' m->News h₀ L h' iC->((ns=[]/\v=dv)\/∃M t,v=.int M t/\M∈ns/\∀a,a∈ns->a<=M)->Q v { s with heap:=h',toks:=tk }) :
  wpAny (model prog w) A (call (.builtin "max") [.ref l] [(Str.ofString "default",dv)]) Q E s:=by
 obtain⟨xs,e⟩:=hi.allInts.items
 have en:ns=xs.toList.map (·.1):=by rw[<-hi.numsOf,<-nums_intItems,<-e]
 have el:ns.length=xs.size:=by rw[en,gV,BB]
 rw[e]at hl
 refine wz (iter_intList hl fun bu e st bd lI=>?_)
 subst e
 refine⟨_,_,_,_,_,_,_,rfl,Walks.list (A:=A.in1) hh _ l lI (intItems xs),st,bd,CmpOf.ints_gt (numAt xs) (fun _ _=>intItems_at),fun v h' tk pv kp=>?_⟩
 have eD:=old_kept kp
 refine h v h' tk (F.grownK eD) (N.grown eD) ?_
 rcases pv with⟨n0,pv⟩ |⟨n0,rfl⟩
 . right;have uO:0<xs.size:=by simpa [intItems] using n0
   have eU:(intItems xs)[argBest (fun i j=>decide (numAt xs i > numAt xs j)) (xs.size - 1)]?=some v:=by simpa [intItems] using pv
   obtain⟨t,rfl⟩:=intItems_at eU;obtain⟨h1,h2⟩:=argBest_gt (numAt xs) (xs.size - 1);refine⟨_,t,rfl,?_,fun a ha=>?_⟩
   . rw[en,numAt_eq];exact R6 (by rw[gV,BB];lia)
   . rw[en]at ha;obtain⟨j,hj,rfl⟩:=mem_getD ha;rw[gV,BB]at hj;rw[<-numAt_eq];exact h2 j (by lia)
 . left;have:xs.size=0:=by simpa [intItems] using n0
   exact⟨DO.mp (by lia),rfl⟩
end
def mxD(d:Int):List Int->Int
 | []=>d
 |n::ns=>F6 n ns
def X3:List D->Option D
 | [.lst ds,.int d]=>(y0 ds).map fun ns=>.int (mxD d ns)
 |_=>none
def Ht:List V->Hp->VK->Prop:=fun xs H Q=>∃p ns d,xs=[.ref p,.int d]/\H p=some (.lst (ns.map V.int))/\Q (.int (mxD d ns)) H
theorem TEd.mono'{K:Frag}{EX:XW}{fr:Bool}{f:DE->R D}{U:St}{H:Hp}{Q Q':VK}(h:TEd K EX fr f U H Q)(hq:∀v H',Q v H'->Q' v H'):TEd K EX fr f U H Q':=by obtain⟨sx,ρ,H0,s,e,h⟩:=h;exact⟨sx,ρ,H0,s,e,h.mono fun a k v H' o=>hq _ _ (k v H' o)⟩
section
variable {X:Cx}{EX:XW}{e d:Expr}{p kp pos:Pos}{x:Str}{t1 t2:TE}{f1 f2:DE->R D}
theorem wx(hc:X.calm=true)(hg:Gl X x)(hm:X.mg x=none)(hv:bootBuiltins x=some (.builtin "max"))(ha:PE X e t1)(hd:PE X d t2)(hn:x≠"__name__":=by decide)(az:(x==("__debug__":Str))=false:=by decide)
  (hs:starEach [e] X.env=(false,eval e X.env)::starEach [] X.env:=by rfl) :
  PE X (.Call (.Name x p) [e] [⟨some (Str.ofString "default"),d,kp⟩] pos) (tCB Ht (E6 t1 (E6 t2 L8))):=by
 intro pins s U H Q I h
 refine CG (Bs I hg hm hv ?_ hn az)
 refine callWith_kw ?_ (by rw[hs];rfl) (by rw[hs];rfl)
 refine thn (G1 ha pa_nil hs pos pins s U H (fun vs H1=>t2 U H1 fun u H2=>Ht (vs++[u]) H2 Q) I h) fun us s1 ⟨vs,H1,I1,r1,q1⟩=>?_
 refine kws_cons (thn (hd pins s1 U H1 _ I1 q1) fun u s2 ⟨y,H2,I2,r2,q2⟩=>kws_nil ?_)
 obtain⟨a,ns,i,e1,ea,q⟩:=q2
 obtain⟨rfl,rfl⟩:vs=[.ref a]/\y=.int i:=by
  cases vs with
  |nil=>cases e1
  |cons b r=>
   cases r with
   |nil=>cases e1;exact⟨rfl,rfl⟩
   |cons c r=>cases r<;>cases e1
 obtain⟨u1,rfl,ru⟩:=z5 r1
 cases ru
 obtain⟨t,rfl⟩:=r2
 obtain⟨its,rv,pl,_⟩:=I2.list (.of ea)
 obtain⟨m,lz,_⟩:=id I2.loc
 refine wy (I2.ok.hd hc) (Att.fr_all lz) (Cg (g:=Att.noObjs s2.heap) (L:=X.env.locals)) pl.isList (Gb rv) fun v h' tk F N hM=>?_
 rcases hM with⟨rfl,rfl⟩ |⟨M,t,rfl,hM,ft⟩
 . exact⟨.int i,H2,I2.frn lz F N,⟨_,rfl⟩,q⟩
 . cases ns with
   |nil=>cases hM
   |cons n ns=>
    obtain⟨a1,a2⟩:=Y8 ns n
    have e:M=F6 n ns:=Int.le_antisymm (a2 M hM) (ft _ a1)
    exact⟨.int M,H2,I2.frn lz F N,⟨t,rfl⟩,by rw[e];exact q⟩
theorem ww{K:Frag}:z9 K false X3 Ht:=by
 intro H0 H xs ds z Q s r ho k;unfold X3 at ho;split at ho<;>first |cases ho |skip
 rename_i es i;cases hq:y0 es with
 |none=>rw[hq]at ho;cases ho
 |some ns=>
  rw[hq]at ho
  cases ho
  simp only[RDs]at r
  obtain⟨x1,r1,rfl,q1,x2,r2,rfl,q2,rfl⟩:=r
  obtain⟨a,ys,rfl,ha,ra⟩:=q1.lst
  have e:=Aa hq ra
  subst e
  cases q2.int
  exact⟨a,ns,i,rfl,s _ _ ha,k _ H (.pure s (.mkInt _))⟩
theorem qz(hc:X.calm=true)(hg:Gl X x)(hm:X.mg x=none)(hv:bootBuiltins x=some (.builtin "max"))(ha:QE X EX false e f1)(hd:QE X EX false d f2)(hn:x≠"__name__":=by decide)(az:(x==("__debug__":Str))=false:=by decide)
  (hs:starEach [e] X.env=(false,eval e X.env)::starEach [] X.env:=by rfl) :
  QE X EX false (.Call (.Name x p) [e] [⟨some (Str.ofString "default"),d,kp⟩] pos) (eCB X3 (b8 f1 (b8 f2 c7))):=
 ⟨(wx hc hg hm hv ha.h hd.h hn az hs).imp fun _ _ _ q=>(Km (Qf ww q)).mono' fun _ _ q=>(Km q).mono' fun _ _ q=>Qx q⟩
end
noncomputable def SR.thn(r:SR)(g:DS->SR):SR:=match r with
 | .nx aI=>g aI
 |r=>r
noncomputable def SR.out(fr:Bool)(r:SR):R D:=match r with
 | .rt d=>.ok d
 | .nx _=>if fr=true then .st else .ok .non
 | .er x=>.er x
 |_=>.st
theorem Uw(g1 g2:DS->SR)(ρ:DS):e7 g1 g2 ρ=(g1 ρ).thn g2:=rfl
theorem xR(ρ:DS)(g:DS->SR):(SR.nx ρ).thn g=g ρ:=rfl
theorem xQ(d:D)(g:DS->SR):(SR.rt d).thn g=.rt d:=rfl
theorem zyv(x:Ex)(g:DS->SR):(SR.er x).thn g=.er x:=rfl
theorem zyw(ρ:DS)(g:DS->SR):(SR.bk ρ).thn g=.bk ρ:=rfl
theorem zyx(ρ:DS)(g:DS->SR):(SR.ct ρ).thn g=.ct ρ:=rfl
theorem zyy(g:DS->SR):(SR.st).thn g=.st:=rfl
theorem zul(c:Prop)[Decidable c](a b:SR)(g:DS->SR):(if c then a else b).thn g=if c then a.thn g else b.thn g:=by split<;>rfl
theorem X9(fr:Bool)(n k:Nat)(g:DS->SR)(ds:List D):mOf fr n k g ds=if ds.length=n then(g (ds.map .im++List.replicate k .em)).out fr else .st:=rfl
theorem zyz(fr:Bool)(d:D):(SR.rt d).out fr=.ok d:=rfl
theorem zz0(ρ:DS):(SR.nx ρ).out false=.ok .non:=rfl
theorem zz1(fr:Bool)(x:Ex):(SR.er x).out fr=.er x:=rfl
theorem zz2(fr:Bool):(SR.st).out fr=.st:=rfl
theorem zum(fr:Bool)(c:Prop)[Decidable c](a b:SR):(if c then a else b).out fr=if c then a.out fr else b.out fr:=by split<;>rfl
theorem zz3(m:List Bool)(f:DE->R D)(ρ:DS):g9 m f ρ=(f (vis m ρ)).toS fun d=>.rt d:=rfl
theorem zz4(fr:Bool)(i:Nat)(m:List Bool)(f:DE->R D)(ρ:DS):i4 fr i m f ρ=(f (vis m ρ)).toS fun d=>.nx (N1 fr i d (t5 (keeps fr d) m ρ)):=rfl
theorem y4c(t:DE->R Bool)(g1 g2:DS->SR)(ρ:DS):sIf t g1 g2 ρ=(t (see ρ)).toS fun b=>if b=true then g1 ρ else g2 ρ:=rfl
theorem U2(a:α)(k:α->SR):R.toS (.ok a) k=k a:=rfl
theorem zz5(x:Ex)(k:α->SR):R.toS (.er x:R α) k=.er x:=rfl
theorem zz6(k:α->SR):R.toS (.st:R α) k=.st:=rfl
theorem zun(c:Prop)[Decidable c](a b:R α)(k:α->SR):R.toS (if c then a else b) k=if c then R.toS a k else R.toS b k:=by split<;>rfl
theorem zuo(x:Ex)(k:α->R β):R.bind (.er x:R α) k=.er x:=rfl
theorem Kp(a:α):(R.ok a).noE=.ok a:=rfl
theorem y4d(m:List Bool):vis m []=[]:=by cases m<;>rfl
theorem y4e(s:Sl)(r:DS):vis [] (s::r)=s.see false::vis [] r:=rfl
theorem y4f(b:Bool)(m:List Bool)(s:Sl)(r:DS):vis (b::m) (s::r)=s.see b::vis m r:=rfl
theorem Jm:see []=[]:=rfl
theorem Jl(s:Sl)(r:DS):see (s::r)=s.see true::see r:=rfl
theorem zz7(b:Bool):Sl.see b .em=none:=rfl
theorem Ko(b:Bool)(d:D):Sl.see b (.im d)=some d:=rfl
theorem Ly(d:D):Sl.see true (.ow d)=some d:=rfl
theorem zup(d:D):Sl.see false (.ow d)=none:=rfl
theorem zz8(m:List Bool)(ρ:DS):t5 true m ρ=ρ:=rfl
theorem zpc(fr:Bool)(i:Int):keeps fr (.int i)=true:=by cases fr<;>rfl
theorem zuq(fr:Bool)(i:Bool):keeps fr (.bl i)=true:=by cases fr<;>rfl
theorem zpd(fr:Bool):keeps fr .non=true:=by cases fr<;>rfl
theorem zpe(fr:Bool)(x:PySem.Str):keeps fr (.str x)=true:=by cases fr<;>rfl
theorem zpf(fr:Bool)(ds:List D):keeps fr (.tup ds)=k9 ds:=by cases fr<;>simp only[keeps,D.noL,D.shal,BM,AF,BK]
theorem Xy(ds:List D):keeps true (.lst ds)=k9 ds:=rfl
theorem zz9:k9 []=true:=by simp only[k9]
theorem zza(d:D)(r:List D):k9 (d::r)=(d.noL&&k9 r):=by simp only[k9]
theorem zr(i:Int):(D.int i).noL=true:=by simp only[D.noL]
theorem zzb(i:Bool):(D.bl i).noL=true:=by simp only[D.noL]
theorem zur(i:PySem.Str):(D.str i).noL=true:=by simp only[D.noL]
theorem zus:(D.non).noL=true:=by simp only[D.noL]
theorem zut(ds:List D):(D.tup ds).noL=k9 ds:=by simp only[D.noL]
theorem zuu(ds:List D):(D.lst ds).noL=false:=by simp only[D.noL]
theorem y4g(i:Nat)(d:D)(ρ:DS):N1 false i d ρ=ρ.set i (.im d):=rfl
theorem y4h(i:Nat)(d:D)(ρ:DS):N1 true i d ρ=ρ.set i (.ow d):=rfl
theorem y4i(ρ:DE):sel [] ρ=[]:=rfl
theorem y4j(j:Nat)(r:List Nat)(ρ:DE):sel (j::r) ρ=(ρ[j]?).getD none::sel r ρ:=rfl
theorem y87(d:D)(r:DE):b7 0 (some d::r)=.ok d:=rfl
theorem y88(i:Nat)(d:Option D)(r:DE):b7 (i+1) (d::r)=b7 i r:=rfl
theorem y4k(g:Int->Int->D)(i j:Int):dI g (.int i) (.int j)=some (g i j):=rfl
theorem Bp(C:Int->Int->Prop)[∀i j,Decidable (C i j)](g:Int->Int->D)(i j:Int):dIC C g (.int i) (.int j)=if C i j then some (g i j) else none:=rfl
theorem y4l(b:Bool):asB (.bl b)=some b:=rfl
theorem zrd(b:Bool):m7 (.bl b)=some b:=rfl
theorem zzc(ds:List D):m7 (.lst ds)=some (!ds.isEmpty):=rfl
theorem zzd(i:Int):m7 (.int i)=some (i != 0):=rfl
theorem U5(i j:Int):(i==j)=decide (i=j):=by rw[CV];simp
theorem zze(i j:Int):dEq (.int i) (.int j)=some (.bl (decide (i=j))):=by unfold dEq;rw[ζ (by simp[D.pl,D.dep])];simp only[eqD,U5]
theorem zzf(i j:Int):dNe (.int i) (.int j)=some (.bl (!decide (i=j))):=by unfold dNe;rw[ζ (by simp[D.pl,D.dep])];simp only[eqD,U5]
theorem zzg(i j:Bool):dEq (.bl i) (.bl j)=some (.bl (i==j)):=by unfold dEq;rw[ζ (by simp[D.pl,D.dep])];simp only[eqD]
theorem zzh(a b c e:Int):dEq (.tup [.int a,.int b]) (.tup [.int c,.int e])=some (.bl (decide (a=c)&&decide (b=e))):=by unfold dEq;rw[ζ (by simp[D.pl,D.dep,pls,j9])];simp only[eqD,o9,U5,Bool.and_true]
theorem zzi(a b c e:Int):dNe (.tup [.int a,.int b]) (.tup [.int c,.int e])=some (.bl (!(decide (a=c)&&decide (b=e)))):=by unfold dNe;rw[ζ (by simp[D.pl,D.dep,pls,j9])];simp only[eqD,o9,U5,Bool.and_true]
theorem xP(a:D)(r:List D):dIx (.tup (a::r)) (.int 0)=some a:=by simp only[dIx,dOr,B8,kD]
theorem xO(a b:D)(r:List D):dIx (.tup (a::b::r)) (.int 1)=some b:=by simp only[dIx,dOr,B8,kC]
theorem zzj(a b c:D)(r:List D):dIx (.tup (a::b::c::r)) (.int 2)=some c:=by simp only[dIx,dOr,B8,show atI (a::b::c::r) 2=some c from Z0 (j:=2) rfl]
theorem zzk(a:D)(r:List D):dIx (.lst (a::r)) (.int 0)=some a:=by simp only[dIx,dOr,B8,kD]
theorem zzl(a b:D)(r:List D):dIx (.lst (a::b::r)) (.int 1)=some b:=by simp only[dIx,dOr,B8,kC]
theorem Er{ds:List D}{j:Nat}{d:D}(h:ds[j]?=some d):dIx (.lst ds) (.int (j:Int))=some d:=by simp only[dIx,dOr,B8,Z0 h]
theorem qy{ds:List D}{j:Nat}{d:D}(h:ds[j]?=some d):dIx (.tup ds) (.int (j:Int))=some d:=by simp only[dIx,dOr,B8,Z0 h]
theorem zzn(ns:List Int):z7 [.scr ns]=some (.int ns.length):=rfl
theorem xN(ns:List D):z7 [.lst ns]=some (.int ns.length):=rfl
theorem zzo(ns:List D):z7 [.tup ns]=some (.int ns.length):=rfl
theorem y4m(b c:Bool):(if b=true then R.ok true else R.ok c)=R.ok (b||c):=by cases b<;>rfl
theorem zzp(b c:Bool):(if b=true then R.ok c else R.ok false)=R.ok (b&&c):=by cases b<;>rfl
theorem zzq(b c:Bool):(if b=true then R.ok (D.bl true) else R.ok (D.bl c))=R.ok (D.bl (b||c)):=by cases b<;>rfl
theorem zuv(b c:Bool):(if b=true then R.ok (D.bl c) else R.ok (D.bl false))=R.ok (D.bl (b&&c)):=by cases b<;>rfl
theorem zzr(i:Int):r9 "int" (.int i)=some (.bl true):=by simp[r9,F7,K1,J4]
theorem zzs(i:Int):r9 "bool" (.int i)=some (.bl false):=by simp[r9,F7,K1,J4]
theorem zzt(i:Bool):r9 "bool" (.bl i)=some (.bl true):=by simp[r9,F7,K1,J4]
theorem Uv(ds:List D):r9 "tuple" (.tup ds)=some (.bl true):=by simp[r9,F7,K1,J4]
theorem xM(ds:List D):r9 "list" (.lst ds)=some (.bl true):=by simp[r9,F7,K1,J4]
theorem zzu(tg:Tg)(g:DS->SR)(ρ:DS):J3 tg g [] ρ=.nx ρ:=rfl
noncomputable def SR.itr(r:SR)(k:DS->SR):SR:=match r with
 | .nx aN=>k aN
 | .ct aN=>k aN
 | .bk aN=>.nx aN
 | .rt d=>.rt d
 | .er x=>.er x
 | .st=>.st
theorem Uu(ρ:DS)(k:DS->SR):(SR.nx ρ).itr k=k ρ:=rfl
theorem zzv(ρ:DS)(k:DS->SR):(SR.ct ρ).itr k=k ρ:=rfl
theorem zzw(ρ:DS)(k:DS->SR):(SR.bk ρ).itr k=.nx ρ:=rfl
theorem zzx(d:D)(k:DS->SR):(SR.rt d).itr k=.rt d:=rfl
theorem zuw(c:Prop)[Decidable c](a b:SR)(g:DS->SR):(if c then a else b).itr g=if c then a.itr g else b.itr g:=by split<;>rfl
theorem zux(bn:D->Option (List D))(t:DE->R Bool)(f:DE->R D)(cs:DE):G0 bn t f cs []=.ok []:=rfl
theorem zuy(f:DE->R D)(cs:DE)(d:D)(ds:List D):G0 b1 C9 f cs (d::ds)=(f (some d::cs)).noE.bind fun y=>(G0 b1 C9 f cs ds).bind fun ys=>.ok (y::ys):=rfl
theorem V5{bn:D->Option (List D)}{f:DE->R D}{cs:DE}{α:Type}{en:α->D}{bs:α->List D}{g:α->D}(xs:List α)(hb:∀x∈xs,bn (en x)=some (bs x))(hf:∀x∈xs,f ((bs x).map some++cs)=.ok (g x)):G0 bn C9 f cs (xs.map en)=.ok (xs.map g):=by
 induction xs with
 |nil=>rfl
 |cons x xs ih=>
  simp only[io,G0,hb x (by simp),C9,R.of_some,R.bind_ok,Kp,BM,hf x (by simp),ih (fun y hy=>hb y (by simp[hy])) (fun y hy=>hf y (by simp[hy]))]
theorem V4{bn:D->Option (List D)}{t:DE->R Bool}{f:DE->R D}{cs:DE}{α:Type}{en:α->D}{bs:α->List D}{p:α->Bool}{g:α->D}(xs:List α)(hb:∀x∈xs,bn (en x)=some (bs x))(ht:∀x∈xs,t ((bs x).map some++cs)=.ok (p x))(hf:∀x∈xs,p x=true->f ((bs x).map some++cs)=.ok (g x)):G0 bn t f cs (xs.map en)=.ok ((xs.filter p).map g):=by
 induction xs with
 |nil=>rfl
 |cons x xs ih=>
  have rS:=ih (fun y hy=>hb y (by simp[hy])) (fun y hy=>ht y (by simp[hy])) (fun y hy=>hf y (by simp[hy]))
  simp only[io,G0,hb x (by simp),ht x (by simp),R.of_some,R.bind_ok,Kp,rS]
  cases e:p x with
  |true=>simp only[BM,hf x (by simp) e,Kp,R.bind_ok,DY,e,io]
  |false=>simp only[AF,BK,DY,e]
theorem Lx{tg:Tg}{g:DS->SR}{α:Type}{en:α->D}(P:List α->DS->Prop)(xs:List α)(ρ:DS)(h0:P xs ρ)(hs:∀x r ρ,P (x::r) ρ->∃di aN,W9 tg (en x) ρ=some di/\(g di=.nx aN\/g di=.ct aN)/\P r aN):∃aI,J3 tg g (xs.map en) ρ=.nx aI/\P [] aI:=by
 induction xs generalizing ρ with
 |nil=>exact⟨ρ,rfl,h0⟩
 |cons x r ih=>
  obtain⟨di,aN,e1,e2,q⟩:=hs x r ρ h0
  obtain⟨aI,e',p'⟩:=ih aN q
  refine⟨aI,?_,p'⟩
  rcases e2 with e2 |e2<;>simp only[io,J3,e1,e2,e']
noncomputable def L(ns:List Int):D:=.lst (ns.map .int)
theorem Z7(f:α->D)(xs:List α)(h:∀x∈xs,(f x).noL=true):k9 (xs.map f)=true:=by
 induction xs with
 |nil=>simp only[AQ,k9]
 |cons a r ih=>simp only[io,k9,h a (by simp),ih fun x hx=>h x (by simp[hx]),CI]
theorem zzy(ns:List Int):keeps true (L ns)=true:=by unfold L;rw[Xy];exact Z7 _ _ fun x _=>zr x
theorem y4n(ns:List Int):z7 [L ns]=some (.int ns.length):=by unfold L;rw[xN,gV]
theorem zzz(ns:List Int):X5 [L ns]=some (L ns):=rfl
theorem y4o(ns:List Int):r9 "list" (L ns)=some (.bl true):=xM _
theorem zuz(ns:List Int):items (L ns)=some (ns.map .int):=rfl
theorem Pv(h0:0<=x)(h1:x.toNat<ns.length):dIx (L ns) (.int x)=some (.int (ns.getD x.toNat 0)):=by
 have e:(ns.map D.int)[x.toNat]?=some (.int (ns.getD x.toNat 0)):=by rw[AO,AH h1,lO,AH h1];rfl
 have:=Er e;rwa [show((x.toNat:Nat):Int)=x by lia]at this
theorem y4q(h:ns.length<100000):E0 (L ns) [.int x]=some (L (ns++[x])):=by simp only[L,E0,gV,h,BM,CS,io,AQ]
theorem y89(ns:List Int)(lo hi:Option Int):dSl (L ns) lo hi=some (L (y4 ns lo hi)):=by simp only[L,dSl,y4,gV,List.map_take,List.map_drop]
theorem y00(ns:List Int)(lo hi:Option Int):dSl (.scr ns) lo hi=some (L (y4 ns lo hi)):=rfl
theorem y4r(ns:List Int):L0 [L ns]=some (.int ns.sum):=by simp only[L,L0,Mv,uZ]
theorem X2(ns:List Int):(L ns).dep<=1/\(L ns).pl=true:=by
 have:∀ns:List Int,j9 (ns.map D.int)=0/\pls (ns.map D.int)=true:=fun ns=>by
  induction ns with
  |nil=>simp only[AQ,j9,pls,and_self]
  |cons a r ih=>simp only[io,j9,pls,D.dep,D.pl,ih.1,ih.2,CI,Nat.max_self,and_self]
 simp only[L,D.dep,D.pl,this];exact⟨by lia,trivial⟩
theorem Ke:∀(a b:List Int),o9 (a.map D.int) (b.map D.int)=decide (a=b)
 | [],[]=>by simp[o9]
 | [],_::_=>by simp[o9]
 |_::_,[]=>by simp[o9]
 |x::a,y::b=>by simp only[io,o9,eqD,Ke a b,List.cons.injEq,Bool.decide_and,U5]
theorem y8a(a b:List Int):dEq (L a) (L b)=some (.bl (decide (a=b))):=by unfold dEq;rw[ζ ⟨(X2 a).2,(X2 b).2,by have:=(X2 a).1;lia⟩];simp only[L,eqD,Ke]
theorem y8b(a b:List Int):dNe (L a) (L b)=some (.bl (!decide (a=b))):=by unfold dNe;rw[ζ ⟨(X2 a).2,(X2 b).2,by have:=(X2 a).1;lia⟩];simp only[L,eqD,Ke]
theorem y4s(ns:List Int):isT "list" (L ns)=true:=by simp only[L,isT,beq_self_eq_true]
theorem y01(m:List Bool)(ρ:DS):t5 false m ρ=frz m ρ:=rfl
theorem y4t(ρ:DS):frz [] ρ=ρ:=by cases ρ<;>rfl
theorem y4u(m:List Bool):frz m []=[]:=by cases m<;>rfl
theorem y4v(b:Bool)(m:List Bool)(s:Sl)(r:DS):frz (b::m) (s::r)=s.frz b::frz m r:=rfl
theorem y02(b:Bool)(d:D):Sl.frz b (.im d)=.im d:=rfl
theorem y03(b:Bool):Sl.frz b .em=.em:=rfl
theorem zv0(d:D):Sl.frz false (.ow d)=.ow d:=rfl
theorem zv1(d:D):Sl.frz true (.ow d)=.im d:=rfl
theorem Hs(h:-(2 ^ 64)<i/\i<2 ^ 64):W3 (.int i) (.int j)=some (.int (i * j)):=by unfold W3;rw[Bp,ζ (show CMul i j from Or.inl h)]
theorem y9(h:0<j):l4 (.int i) (.int j)=some (.int (i % j)):=by unfold l4;rw[Bp,ζ h]
theorem Az(h:0<j/\j<1073741824):E1 (.int i) (.int j)=some (.int (i / j)):=by unfold E1;rw[Bp,ζ (show S9 i j from h)]
theorem y04(i:Int):R.of (match D.int i with | .int i=>some (some i) |_=>none)=R.ok (some i):=rfl
theorem wv(hj:-100000<=j/\j<=100000):-(2 ^ 62)<=j/\j<2 ^ 62:=by lia
theorem Hr(j:Int)(hj:-100000<=j/\j<=100000)(h:fs ρ=.ok [.int j]):S4 fs ρ=.ok (zD 0 j.toNat):=by unfold S4;rw[h,R.bind_ok];show R.of (if _ then _ else _)=_;rw[ζ (wv hj)];rfl
theorem zv5(ds:List D):items (.lst ds)=some ds:=rfl
theorem zv6(ds:List D):items (.tup ds)=some ds:=rfl
theorem So(lo:Int)(n:Nat):(zD lo n).length=n:=by simp[zD]
theorem zf0(ds:List D):keeps false (.lst ds)=false:=by simp only[keeps,D.noL,AF,BK]
theorem zv7(ns:List Int):keeps false (L ns)=false:=zf0 _
noncomputable def T2(p:Int×Int):D:=.tup [.int p.1,.int p.2]
noncomputable def T3(p:Int×Int×Int):D:=.tup [.int p.1,.int p.2.1,.int p.2.2]
theorem Fy(h:ois l'=true)(p:l.Perm l'):z8 l=z8 l':=
 Fv (Fw ((R9 l).trans p) h) (((R9 l).trans p).trans (R9 l').symm) (Cj (Fw p h)) (Cj h)
noncomputable def insB{α:Type}(lt:α->α->Bool)(d:α):List α->List α
 | []=>[d]
 |e::r=>if lt e d=true then e::insB lt d r else d::e::r
def sortB{α:Type}(lt:α->α->Bool):List α->List α
 | []=>[]
 |d::r=>insB lt d (sortB lt r)
section
variable {α:Type}(f:α->D)
theorem Wk(d:α):∀l:List α,N0 (f d) (l.map f)=(insB (fun a b=>ltT (f a) (f b)) d l).map f
 | []=>rfl
 |e::r=>by
  simp only[io,N0,insB];split
  . rw[io,Wk d r]
  . rfl
theorem Fx:∀l:List α,z8 (l.map f)=(sortB (fun a b=>ltT (f a) (f b)) l).map f
 | []=>rfl
 |d::r=>by simp only[io,z8,sortB,Fx r,Wk]
variable (lt:α->α->Bool)
theorem Xg(d:α):∀l:List α,(insB lt d l).Perm (d::l)
 | []=>.refl _
 |e::r=>by
  unfold insB;split
  . exact((Xg d r).cons e).trans (.swap d e r)
  . exact .refl _
theorem Fz:∀l:List α,(sortB lt l).Perm l
 | []=>.refl _
 |d::r=>(Xg lt d (sortB lt r)).trans ((Fz r).cons d)
end
def so2(ls:List (Int×Int)):List (Int×Int):=sortB (fun a b=>ltT (T2 a) (T2 b)) ls
def so3(ls:List (Int×Int×Int)):List (Int×Int×Int):=sortB (fun a b=>ltT (T3 a) (T3 b)) ls
def soI(ls:List Int):List Int:=sortB (fun a b=>ltT (.int a) (.int b)) ls
theorem By(ls:List (Int×Int)):z8 (ls.map T2)=(so2 ls).map T2:=Fx _ _
theorem Fe(ls:List (Int×Int×Int)):z8 (ls.map T3)=(so3 ls).map T3:=Fx _ _
theorem Bx(ls:List Int):z8 (ls.map D.int)=(soI ls).map D.int:=Fx _ _
theorem G3(ls:List (Int×Int)):(so2 ls).Perm ls:=Fz _ _
theorem V1(ls:List (Int×Int×Int)):(so3 ls).Perm ls:=Fz _ _
theorem Lw(ls:List Int):(soI ls).Perm ls:=Fz _ _
theorem F4(xs:List α)(f:α->D)(p:D->Bool)(h:∀x,p (f x)=true):(xs.map f).all p=true:=by rw[AS];intro d hd;obtain⟨x,_,rfl⟩:=AC.mp hd;exact h x
theorem N8(xs:List α)(f:α->D)(h:∀x,(f x).oi=true):ois (xs.map f)=true:=
 ois_mem.mpr fun d hd=>by obtain⟨x,_,rfl⟩:=AC.mp hd;exact h x
theorem O1(xs:List α)(f:α->D)(n:Nat)(h:∀x,(f x).dep<=n):j9 (xs.map f)<=n:=by
 induction xs with
 |nil=>simp only[AQ,j9,BU]
 |cons a r ih=>simp only[io,j9];have:=h a;lia
theorem Kd(xs:List α)(f:α->D)(h:∀x,(f x).pl=true):pls (xs.map f)=true:=by
 induction xs with
 |nil=>simp only[AQ,pls]
 |cons a r ih=>simp only[io,pls,h a,ih,CI]
theorem Dw(p:Int×Int):(T2 p).oi=true:=by simp[T2,D.oi,ois]
theorem Hq(p:Int×Int×Int):(T3 p).oi=true:=by simp[T3,D.oi,ois]
theorem Gn(p:Int):(D.int p).oi=true:=by simp[D.oi]
theorem Q8(p:Int×Int):(T2 p).dep<=1:=by simp[T2,D.dep,j9]
theorem Sn(p:Int×Int×Int):(T3 p).dep<=1:=by simp[T3,D.dep,j9]
theorem T5(p:Int×Int):(T2 p).pl=true:=by simp[T2,D.pl,pls]
theorem O0(p:Int×Int):(T2 p).noL=true:=by simp[T2,D.noL,k9]
theorem xL(p:Int×Int×Int):(T3 p).noL=true:=by simp[T3,D.noL,k9]
theorem Sm(p q:Int×Int):(j8 (T2 p) (T2 q)).isSome=true:=by simp only[T2,j8,x6];repeat (first |rfl |split)
theorem Sk(p q:Int×Int×Int):(j8 (T3 p) (T3 q)).isSome=true:=by simp only[T3,j8,x6];repeat (first |rfl |split)
theorem y4w(p q:Int):(j8 (.int p) (.int q)).isSome=true:=by simp only[j8];rfl
theorem zq(ls:List (Int×Int))(h:ls.length<64):T9 (ls.map T2)=true:=by unfold T9;rw[gV,decide_eq_true h,N8 _ _ Dw,decide_eq_true (AA (O1 ls T2 1 Q8) (by decide)),F4 ls T2 (fun d=>(ls.map T2).all fun e=>(j8 d e).isSome) (fun x=>F4 _ _ _ fun y=>Sm x y),F4 ls T2 G5 (fun x=>rfl)];simp
theorem zp(ls:List (Int×Int×Int))(h:ls.length<64):T9 (ls.map T3)=true:=by unfold T9;rw[gV,decide_eq_true h,N8 _ _ Hq,decide_eq_true (AA (O1 ls T3 1 Sn) (by decide)),F4 ls T3 (fun d=>(ls.map T3).all fun e=>(j8 d e).isSome) (fun x=>F4 _ _ _ fun y=>Sk x y),F4 ls T3 G5 (fun x=>rfl)];simp
theorem ym(ls:List Int)(h:ls.length<64):T9 (ls.map D.int)=true:=by unfold T9;rw[gV,decide_eq_true h,N8 _ _ Gn,decide_eq_true (AA (O1 ls D.int 1 (fun x=>by simp[D.dep])) (by decide)),F4 ls D.int (fun d=>(ls.map D.int).all fun e=>(j8 d e).isSome) (fun x=>F4 _ _ _ fun y=>y4w x y),F4 ls D.int isI (fun x=>rfl)];simp
theorem sorted_T2(ls:List (Int×Int))(h:ls.length<64):Y9 [.lst (ls.map T2)]=some (.lst ((so2 ls).map T2)):=by simp only[Y9,zq ls h,BM,By]
theorem sorted_T3(ls:List (Int×Int×Int))(h:ls.length<64):Y9 [.lst (ls.map T3)]=some (.lst ((so3 ls).map T3)):=by simp only[Y9,zp ls h,BM,Fe]
theorem sorted_I(ls:List Int)(h:ls.length<64):Y9 [L ls]=some (L (soI ls)):=by simp only[L,Y9,ym ls h,BM,Bx]
theorem y05(h:T3 p=T3 q):p=q:=by obtain⟨a,b,c⟩:=p;obtain⟨a',b',c'⟩:=q;simp only[T3,D.tup.injEq,List.cons.injEq,D.int.injEq,and_true]at h;simp only[Prod.mk.injEq];exact h
theorem Sj(h:T2 p=T2 q):p=q:=by obtain⟨a,b⟩:=p;obtain⟨a',b'⟩:=q;simp only[T2,D.tup.injEq,List.cons.injEq,D.int.injEq,and_true]at h;simp only[Prod.mk.injEq];exact h
theorem Z6{α β:Type}{f:α->β}(hf:∀x y,f x=f y->x=y):∀{a b:List α},a.map f=b.map f->a=b
 | [],[],_=>rfl
 | [],_::_,h=>by simp at h
 |_::_,[],h=>by simp at h
 |x::a,y::b,h=>by simp only[io,List.cons.injEq]at h;rw[hf _ _ h.1,Z6 hf h.2]
theorem Wj(p:a.Perm b):so3 a=so3 b:=by have:=Fy (N8 b T3 Hq) (p.map T3);rw[Fe,Fe]at this;exact Z6 (fun _ _=>y05) this
theorem V0(p:a.Perm b):so2 a=so2 b:=by have:=Fy (N8 b T2 Dw) (p.map T2);rw[By,By]at this;exact Z6 (fun _ _=>Sj) this
theorem Kc(h1:∀y∈ys,y<=m)(h2:m∈ys\/(ys=[]/\d=m)):mxD d ys=m:=by
 cases ys with
 |nil=>
  rcases h2 with h2 |h2
  . cases h2
  . exact h2.2
 |cons n ns=>
  rcases h2 with h2 |h2
  . obtain⟨a,b⟩:=Y8 ns n;exact Int.le_antisymm (h1 _ a) (b _ h2)
  . cases h2.1
theorem y4x(ds:List D):isT "list" (.lst ds)=true:=by simp only[isT,beq_self_eq_true]
theorem y4y(b:Bool):S6 [.bl b]=some (.int (if b then 1 else 0)):=rfl
theorem y4z(i:Int):S6 [.int i]=some (.int i):=rfl
theorem y06(ds:List D):X5 [.tup ds]=some (.lst ds):=rfl
theorem y07(ds:List D):X5 [.lst ds]=some (.lst ds):=rfl
theorem zv9(ds:List D):G7 [.lst ds]=some (.tup ds):=rfl
theorem zva(ds:List D):G7 [.tup ds]=some (.tup ds):=rfl
theorem Xx(ls:List (Int×Int)):k9 (ls.map T2)=true:=Z7 _ _ fun x _=>O0 x
theorem zpi(ls:List (Int×Int×Int)):k9 (ls.map T3)=true:=Z7 _ _ fun x _=>xL x
theorem y08(h:ls.length<100000):E0 (.lst (ls.map T2)) [.tup [.int a,.int b]]=some (.lst ((ls++[(a,b)]).map T2)):=by simp only[E0,gV,h,BM,CS,io,AQ];rfl
theorem y09(ls:List (Int×Int)):(D.tup (ls.map T2)).pl=true/\(D.tup (ls.map T2)).dep<=20:=by have:=O1 ls T2 1 Q8;simp only[D.pl,D.dep,Kd ls T2 T5,true_and];lia
theorem Kb(p q:Int×Int):eqD (T2 p) (T2 q)=decide (p=q):=by obtain⟨a,b⟩:=p;obtain⟨c,d⟩:=q;simp only[T2,eqD,o9,U5,Bool.and_true,Prod.mk.injEq,Bool.decide_and]
theorem Ep(p:Int×Int)(ls:List (Int×Int)):dIn false (T2 p) (.tup (ls.map T2))=some (.bl (decide (p∈ls))):=by
 have h1:=O1 ls T2 1 Q8;have e:(ls.map T2).any (fun e=>eqD e (T2 p))=decide (p∈ls):=by
  rw[List.any_map,CV,List.any_eq_true,AW];constructor
  . rintro⟨x,hx,h⟩;simp only[Function.comp,Kb,AW]at h;rw[<-h];exact hx
  . intro h;exact⟨p,h,by simp only[Function.comp,Kb,DM]⟩
 unfold dIn dOr S7;simp only[T5,Kd ls T2 T5,true_and,ζ (show j9 (ls.map T2)<=20 by lia),e,AF,BK]
theorem qx(x:Int)(t:Int×Int×Int):dIn false (.int x) (T3 t)=some (.bl (decide (x=t.1)||(decide (x=t.2.1)||decide (x=t.2.2)))):=by unfold dIn dOr S7;simp only[T3,D.pl,pls,j9,D.dep,CI,Nat.max_self,true_and,BU,BM,EA,List.any_nil,Bool.or_false,eqD,U5,AF,BK];simp only[show ∀a b:Int,decide (a=b)=decide (b=a) from fun a b=>by rw[CV];simp[eq_comm]]
theorem y0b(t:Int×Int×Int):L0 [T3 t]=some (.int (t.1+(t.2.1+(t.2.2+0)))):=by simp only[T3,L0,y0,uZ,CW,List.sum_nil]
theorem y0c(t:Int×Int):L0 [T2 t]=some (.int (t.1+(t.2+0))):=by simp only[T2,L0,y0,uZ,CW,List.sum_nil]
theorem y0d(t:Int×Int×Int):r9 "tuple" (T3 t)=some (.bl true):=Uv _
theorem y0e(t:Int×Int):r9 "tuple" (T2 t)=some (.bl true):=Uv _
theorem y0f(t:Int×Int):z7 [T2 t]=some (.int 2):=rfl
theorem y50(t:Int×Int):dIx (T2 t) (.int 0)=some (.int t.1):=xP _ _
theorem y51(t:Int×Int):dIx (T2 t) (.int 1)=some (.int t.2):=xO _ _ _
theorem zpj(t:Int×Int×Int):items (T3 t)=some [.int t.1,.int t.2.1,.int t.2.2]:=rfl
theorem Eo(a b:List (Int×Int))(h:a.length+b.length<=100000):v8 (.lst (a.map T2)) (.lst (b.map T2))=some (.lst ((a++b).map T2)):=by simp only[v8,gV,h,BM,CS]
theorem Si(hg:Gl X x)(hm:X.mg x=none)(hv:bootBuiltins x=some (.builtin "isinstance"))(ha:QE X EX false a f)(hb:PDs X bs Ds)(hl:Ds.length<=1000)(B:BelT X.K Ds tb)(hn:x≠"__name__":=by decide)(az:(x==("__debug__":Str))=false:=by decide)
 (he:starEach [a,.Tuple bs kt aD] X.env=(false,eval a X.env)::starEach [.Tuple bs kt aD] X.env:=by rfl) (hpl:(backTo pos (starEach [.Tuple bs kt aD] X.env)).any (·.1)=false:=by rfl) (hs:starEach [.Tuple bs kt aD] X.env=(false,eval (.Tuple bs kt aD) X.env)::starEach [] X.env:=by rfl) :
 QE X EX false (.Call (.Name x p) [a,.Tuple bs kt aD] [] pos) (eUn (o8 tb) f):=qA hg hm hv ha hb hl B hn az he hpl hs
structure FunD(K:Frag)(x qual:Str)(st:Stmt)(dV:Value)(f:Addr)(fd:FuncData):Prop where
 ex:∃(oc:Value)(od:Option Addr)(kV doc pm:Value)(an:Option Addr)(cdv ct:Value)(osl:Array (Option Value)),
  fd=PySem.W.fnOf x qual (B6 st) (t9 st) (i7 st) dV kV doc pm an cdv ct/\K.lookup f=some ⟨oc,od,.func fd,osl⟩/\codeIn K cdv qual=true
 kp:keepIn K (.ref f)=true
section
variable {P:Program}{w:World}{K:Frag}{mg:Str->Option Value}{base:Heap}
theorem FunD.okX{x qual:Str}{st:Stmt}{dV:Value}{f:Addr}{fd:FuncData}{N ps:List Str}{k:Nat}{sp:Sp}{CX:CXT}(F:FunD K x qual st dV f fd)(S:FnScope N ps (i7 st))(len:∀vs H Q E,sp vs H Q E->vs.length=ps.length)
  (bo:∀(cdv:Value)(A:Around)(outer:List Env)(s:Shared)(H:Hp)(vs:List V)(Q:VK)(E:XK),Room k (A.deeper (envOfC qual (i7 st) s.heap.objs.size f cdv))->sp vs H Q E ->
   ∃t,PSs (J5 CX P w K mg base N qual (i7 st) f cdv A outer s H E) (t9 st) t/\t { nx:=fun _ H'=>Q .non H',rt:=Q } (E5 N vs) H):FnOk P w K mg base CX (k+1) f fd ps sp:=by
 obtain⟨oc,od,kV,doc,pm,an,cdv,ct,osl,rfl,lk,bp⟩:=F.ex
 refine Jj lk bp S len fun A outer s H vs Q E hr cJ=>?_
 exact bo cdv A outer s H vs Q E hr cJ
theorem y8c{x qual:Str}{st:Stmt}{dV:Value}{f:Addr}{fd:FuncData}{N ps:List Str}{k n kk:Nat}{fr:Bool}{g:DS->SR}(F:FunD K x qual st dV f fd)(S:FnScope N ps (i7 st))(lj:ps.length=n)(hN:N.length=n+kk)
  (bo:∀(cdv:Value)(A:Around)(outer:List Env)(s:Shared)(H:Hp)(E:XK),Room k (A.deeper (envOfC qual (i7 st) s.heap.objs.size f cdv)) ->
   QB (J5 (CX1 P w) P w K mg base N qual (i7 st) f cdv A outer s H E) ⟨H,xNm K mg E⟩ fr (t9 st) g):FnOk P w K mg base (CX1 P w) (k+1) f fd ps (spD K mg fr (mOf fr n kk g) n):=by
 have am:∀{vs:List V}{H:Hp}{Q:VK}{E:XK},spD K mg fr (mOf fr n kk g) n vs H Q E->vs.length=n:=fun {vs H Q E} h=>by obtain⟨ds,H0,s,r,hn,_⟩:=h;rw[<-r.length];exact hn
 refine F.okX S (fun vs H Q E h=>by rw[am h,lj]) (fun cdv A outer s H vs Q E hr h=>⟨_,(bo cdv A outer s H E hr).h,?_⟩)
 have e:E5 N vs=vs.map some++List.replicate kk none:=by unfold E5;rw[am h,hN,Nat.add_sub_cancel_left]
 rw[e]
 exact Td h
theorem FunD.binds{x qual:Str}{st:Stmt}{f T:Addr}{fd:FuncData}{ps:List Str}{ds:List Value}{dv:Value}{oc:Value}{od:Option Addr}{n:Nat}{sl:Array (Option Value)}(F:FunD K x qual st (.ref T) f fd)(t:K.lookup T=some ⟨oc,od,.seq #[dv] n,sl⟩)(m:Nat)(hm:m+ds.length=ps.length)
  (h:∀(kV doc pm:Value)(an:Option Addr)(cdv ct:Value)(us:List Value),us.length=m->∃k,bindArgs (PySem.W.fnOf x qual (B6 st) (t9 st) (i7 st) (.ref T) kV doc pm an cdv ct) ⟨us,[]⟩=seqItems? (.ref T) >>= k/\k (some #[dv])=pure (ps.zip (us++ds))):Binds K fd ps ds:=by
 obtain⟨uP,uQ,kV,doc,pm,an,cdv,ct,osl,rfl,lk,bp⟩:=F.ex
 intro s us hK hl
 obtain⟨k,e1,e2⟩:=h kV doc pm an cdv ct us (by rw[AY]at hl;lia)
 exact PySem.W.binds_K hK rfl t rfl e1 e2
theorem wu{x qual:Str}{st:Stmt}{f:Addr}{oc dV:Value}{od an:Option Addr}{osl:Array (Option Value)}{kV doc pm cdv ct:Value}(l:K.lookup f=some ⟨oc,od,.func (PySem.W.fnOf x qual (B6 st) (t9 st) (i7 st) dV kV doc pm an cdv ct),osl⟩)
 (c:codeIn K cdv qual=true) (k:keepIn K (.ref f)=true):FunD K x qual st dV f (PySem.W.fnOf x qual (B6 st) (t9 st) (i7 st) dV kV doc pm an cdv ct):=⟨⟨oc,od,kV,doc,pm,an,cdv,ct,osl,rfl,l,c⟩,k⟩
end
noncomputable def m5:List D->Option D
 | [.int i]=>if i.natAbs.log2<1920 then some (.str (Str.ofString (toString i))) else none
 |_=>none
def kj:List V->Hp->VK->Prop:=fun xs H Q=>∃i:Int,xs=[.int i]/\i.natAbs.log2<1920/\Q (.str (Str.ofString (toString i))) H
theorem D2:CallR X (.type "str") kj:=by intro pins s U H xs us Q I r h;obtain⟨i,rfl,hi,q⟩:=h;obtain⟨u,rfl,ru⟩:=z5 r;obtain⟨t,rfl⟩:=ru;exact PySem.P.str_of_int hi ⟨.str _,H,I.tok _,⟨_,rfl⟩,q⟩
theorem D4{K:Frag}:z9 K false m5 kj:=by
 intro H0 H xs ds z Q s r ho k;unfold m5 at ho;split at ho<;>first | (cases ho;done) |skip
 split at ho<;>first | (cases ho;done) |skip
 rename_i hi;cases ho;obtain⟨x,rfl,q1⟩:=r.uno;cases q1.int;exact⟨_,rfl,hi,k _ H (.pure s (.mkStr _))⟩
def qw(i j:Int):Prop:=0<j/\j<2 ^ 200
instance (i j:Int):Decidable (qw i j):=by unfold qw;infer_instance
def z3(qs:List (NK×Addr))(vs:List Value):List (NK×Addr×Value):=(qs.zip vs).map fun q=>(q.1.1,q.1.2,q.2)
def qu(i j:Int):Prop:=Builtin.Int.intBits i<=2 ^ 20/\Builtin.Int.intBits j<=2 ^ 20
instance (i j:Int):Decidable (qu i j):=by unfold qu;infer_instance
section
open PySem.SeqAt
open PySem.AutoSeq1 (wpAny_loadPart')
open PySem.MeetsSeq PySem.MeetsSeq2 PySem.MeetsSeq3
end
end L2
namespace L2
open PySem PySem.Spec PyProof.Rows
def Lb:D->D->Option D
 | .lst ds,d=>if pls ds=true/\d.pl=true/\j9 ds<=20/\ds.length<=100000/\ds.findIdx (fun e=>eqD e d)<ds.length then some (.int (ds.findIdx (fun e=>eqD e d):Int)) else none
 |_,_=>none
def qt(K:Frag):V->List V->Hp->VK->Prop:=fun x vs H Q=>∃(l:Addr)(xs:List V)(ds:List D)(y:V)(d:D),x=.ref l/\vs=[y]/\H l=some (.lst xs)/\RDs K H ds xs/\RD K H d y/\pls ds=true/\d.pl=true/\j9 ds<=20/\ds.length<=100000/\ds.findIdx (fun e=>eqD e d)<ds.length/\Q (.int (ds.findIdx (fun e=>eqD e d):Int)) H
theorem zo(hu:X.A.units+64<cLine):MtM X "list.index" (qt X.K):=by
 intro pins s U H x vs v us Q I rx rv h;obtain⟨l,xs,ds,y,d,rfl,rfl,hH,ez,rd,pl,pd,hd,hn,nI,q⟩:=h;cases rx;obtain⟨u,rfl,ru⟩:=rv.one;obtain⟨z,its,n,r,hl,e⟩:=I.lstM hH;have am:its.length=ds.length:=by rw[<-hl,<-ez.length]
 have fY:=U7 (A:=X.A) I (by lia) pd rd ru pl ez r hd;have hV:∀m (hm:m<its.toArray.size),hitD X.K H d its.toArray[m]=eqD (ds[m]'(by simpa [am] using hm)) d:=fun m hm=>by
  have bb:m<ds.length:=by simpa [am] using hm
  obtain⟨x,hx,rT⟩:=ez.get' (i:=m) (d:=ds[m]) (AH bb);obtain⟨w,hw,cx⟩:=r.get hx;have e2:its.toArray[m]=w:=by
   have:its[m]?=some its.toArray[m]:=by simp[AH (show m<its.length by lia)]
   rw[hw]at this;exact(Option.some.inj this).symm
  rw[e2];exact Fo (Fp pl (List.getElem_mem bb)) cx rT
 have hj:ds.findIdx (fun e=>eqD e d)<its.toArray.size:=by simpa [am] using nI
 refine call_meets F.slot_list_index ⟨_,e,rfl⟩ F.entry_list_index (F.args_list_index_2 _ _)
  (SeqAt.list_indexAt l its.toArray n none #[] u (hitD X.K H d) (ds.findIdx (fun e=>eqD e d)) hj (by lia) ?_ ?_) ⟨e,fun y hy=>fY y (by simpa using hy),?_⟩
 . rw[hV _ hj];exact List.findIdx_getElem (w:=nI)
 . intro m hm aH;rw[hV _ hm];have:=List.not_of_lt_findIdx aH;simpa using this
 . exact⟨.int _,H,I.tok _,⟨_,rfl⟩,q⟩
def Ay(fa fb:DE->R D):DE->R D:=fun ρ=>(fa ρ).bind fun x=>match x with
 | .lst ds=>(fb ρ).bind fun y=>R.of (Lb (.lst ds) y)
 |_=>.st
section
variable {X:Cx}{EX:XW}{U:St}{H:Hp}{Q:VK}
theorem yl{K:Frag}{fa fb:DE->R D}(h:TEd K EX false (Ay fa fb) U H Q):tBM K "list" (qt K) (TEd K EX false fa) (E6 (TEd K EX false fb) L8) U H Q:=by
 obtain⟨sx,ρ,H0,s,e,h⟩:=h;unfold Ay at h;rw[Rk.bind]at h;refine TEd.go sx s e h fun d h v H1 aq s1 e1 r1=>?_
 cases d<;>first | (exact h.elim) |skip
 rename_i ds;simp only at h;obtain⟨a,xs,rfl,ha,rs⟩:=r1.lst;refine⟨.inl ⟨rfl,xs,.of (e1.2.1 _ _ ha)⟩,?_⟩;rw[Rk.bind]at h;refine TEd.go (sx.trans s1) e1.2.1 (e.mono e1.1) h fun d2 h v2 H2 bq s2 e2 r2=>?_
 obtain⟨z,hz,h⟩:=h.of;simp only[Lb]at hz;split at hz<;>first | (cases hz;done) |skip
 rename_i hc;cases hz;refine⟨a,xs,ds,v2,d2,rfl,rfl,s2 _ _ (e1.2.1 _ _ ha),rs.mono (e2.1.trans e2.2.1),r2.mono e2.2.1,hc.1,hc.2.1,hc.2.2.1,hc.2.2.2.1,hc.2.2.2.2,h _ H2 ?_⟩;exact .val (s1.trans s2) (e1.trans s1 e2) (.mkInt _)
variable {o e:Expr}{aw ag:Pos}{fa fb:DE->R D}
theorem yk(hu:X.A.units+64<cLine)(ho:QE X EX false o fa)(ha:QE X EX false e fb)(aP:attributeBase o "index" X.env (eval o X.env)=eval o X.env:=by rfl)
  (cf:((backTo ag (starEach [e] X.env)).all (fun x=>!x.1)&&(backToKw ag (keywordEach [] X.env)).all (fun x=>x.1.isSome)
   && decide ([e].length+([]:List Keyword).length+(if([]:List Keyword).isEmpty then 0 else 1)<30))=true:=by rfl)
  (bO:(aw.endLine==ag.line)=true:=by rfl) (hs:starEach [e] X.env=(false,eval e X.env)::starEach [] X.env:=by rfl) (bc:(backTo ag (starEach [] X.env)).any (·.1)=false:=by rfl) :
  QE X EX false (.Call (.Attribute o "index" aw) [e] [] ag) (Ay fa fb):=
 ⟨(Ec BW PySem.F.slot_list_index PySem.F.type_list_index (zo hu) ho.h (G1 ha.h pa_nil hs) aP cf bO hs bc).imp fun _ _ _ q=>yl q⟩
end
section
open PySem.SeqAt
open PySem.AutoSeq1 (wpAny_loadPart')
end
end L2
namespace L2
open PySem PySem.Spec PyProof.Rows
section
open PySem.SeqAt
open PySem.AutoSeq1 (wpAny_loadPart')
end
end L2
namespace L2
open PySem PySem.Spec PyProof.Rows
section
open PySem.SeqAt
open PySem.AutoSeq1 (wpAny_loadPart')
end
end L2
namespace L2
open PySem PySem.Spec PyProof.Rows
section
open PySem.SeqAt
open PySem.AutoSeq1 (wpAny_loadPart')
end
section
open PySem.SeqAt
open PySem.AutoSeq1 (wpAny_loadPart')
end
end L2
namespace L2
open PySem PySem.Spec PyProof.Rows
def y52(i j:Int):Prop:=0<j/\j.natAbs<2 ^ 9000
noncomputable instance (i j:Int):Decidable (y52 i j):=Classical.propDecidable _
section
open PySem.SeqAt
open PySem.AutoSeq1 (wpAny_loadPart')
end
end L2
namespace L2
open PySem PySem.Spec PyProof.Rows
def Keep(h h':Heap):Prop:=∀b o,h.get? b=some o->h'.get? b=some o
theorem Keep.trans(x:Keep a b)(y:Keep b c):Keep a c:=fun q o e=>y q o (x q o e)
section
open HT
open PySem.SeqAt
open PySem.AutoSeq1 (wpAny_loadPart')
open PySem.MeetsSeq PySem.MeetsSeq2 PySem.MeetsSeq3
end
end L2
namespace L2
open PySem PySem.Spec PyProof.Rows
end L2
set_option maxHeartbeats 1000000
namespace L2
open PySem PySem.Spec PyProof.Rows
theorem RD.obj{K:Frag}{H:Hp}{c:String}{fs:List D}{v:V}(r:RD K H (.obj c fs) v):∃a C dx vs,v=.ref a/\nsIn K mainGlobals (Str.ofString c)=some (some (.ref C))/\H a=some (.ins C dx ((t6 c).zip vs))/\vs.length=(t6 c).length/\(k9 fs=true/\pls fs=true)/\RDs K H fs vs:=by simp only[RD]at r;exact r
theorem Ka{ns:List Str}{f:Str}:∀{ns:List Str}{vs:List V},f∉ns->(ns.zip vs).lookup f=none
 | [],_,_=>by simp
 |_::_,[],_=>by simp
 |n::ns,v::vs,h=>by simp only[gq,not_or]at h;simp only[BS,List.lookup,CJ.mpr h.1];exact Ka (ns:=ns) h.2
def En(X:Cx)(m:Str)(E:XK)(j:Nat)(ta:TE)(t:TA):TE:=fun U H Q=>ta U H fun x H1=>∃a C dx fs f fd ps k sp,x=.ref a/\H1 a=some (.ins C dx fs)/\fs.lookup m=none/\Cls X.K C/\Meth X.K C m f/\FnOk X.prog X.w X.K X.mg X.base (CX1 X.prog X.w) k f fd ps sp/\k<=j/\Binds X.K fd ps []/\t U H1 fun vs H2=>sp (x::vs) H2 Q E
section
variable {X:Cx}{j:Nat}{E:XK}{m:Str}{aw pos:Pos}{e o:Expr}{es:List Expr}{ta:TE}{t:TA}
theorem yj{pl:Sem Bool}(he:PE X o ta)(hr:Room j X.A)(hx:R1 (CX1 X.prog X.w) X E)(ha:PA X (e::es) t)
  (aJ:starEach (e::es) X.env=(false,eval e X.env)::starEach es X.env:=by rfl) (hpl:(backTo pos (starEach es X.env)).any (·.1)=false:=by rfl)
  (ht:eval (.Call (.Attribute o m aw) (e::es) [] pos) X.env=(do
   let ov <-eval o X.env
   standAt aw.atName
   let (f,first) <-holding [ov] (getMethod ov m pl)
   callWith pos f first (backTo pos (starEach (e::es) X.env)) (backToKw pos (keywordEach [] X.env))):=by rfl) :
  PE X (.Call (.Attribute o m aw) (e::es) [] pos) (En X m E j ta t):=by
 intro pins s U H Q I h
 refine PySem.W.methodCall_KW (pl:=pl) (thn (he pins s U H _ I h) fun u s1 ⟨x,H1,I1,rx,a,C,dx,fs,f,fd,ps,k,sp,ex,ea,l,c,hm,F,hk,hb,q⟩=>?_) ht
 subst ex
 obtain rfl:u=Value.ref a:=rx
 refine My I1 ea c hm l ?_
 refine callWith_K (first:=[.ref a]) (h₀:=X.base) I.ok.mod.kin hm.kp (thn (ha pos pins s1 U H1 _ I1 q) fun us s2 ⟨vs,H2,I2,r,q2⟩=>⟨I2.kIn,?_⟩) aJ hpl
 exact Kn (us:=.ref a::us) (vs:=.ref a::vs) (dvs:=[]) (ds:=[]) F (hr.mono hk) hb .nil hx I2 (.cons rfl r) (by simpa only [BJ] using q2)
end
structure Mths(P:Program)(w:World)(K:Frag)(mg:Str->Option Value)(base:Heap)(m:Str)(j n:Nat)(tb:String->Option (List D->R D)):Prop where
 h:∀c g,tb c=some g->∃C f fd ps k,nsIn K mainGlobals (Str.ofString c)=some (some (.ref C))/\Cls K C/\Meth K C m f/\FnOk P w K mg base (CX1 P w) k f fd ps (spD K mg false g n)/\k<=j/\Binds K fd ps []/\m∉t6 c/\∀ds,ds.length≠n->g ds=.st
def m9(tb:String->Option (List D->R D))(fo:DE->R D)(fs:DE->R (List D)):DE->R D:=fun ρ=>(fo ρ).bind fun d=>match d with
 | .obj c zs=>(match tb c with |some g=>(fs ρ).bind fun ds=>g (.obj c zs::ds) |none=>.st)
 |_=>.st
section
variable {X:Cx}{EX:XW}{j n:Nat}{E:XK}{m:Str}{aw pos p:Pos}{e o:Expr}{es:List Expr}{tb:String->Option (List D->R D)}{fo:DE->R D}{fs:DE->R (List D)}
theorem Sh{U:St}{H:Hp}{Q:VK}(M:Mths X.prog X.w X.K X.mg X.base m j n tb)(hE:∀x H,EX.p x H->xNm X.K X.mg E x H)(h:TEd X.K EX false (m9 tb fo fs) U H Q):En X m E j (TEd X.K EX false fo) (TAd X.K EX fs) U H Q:=by
 obtain⟨sx,ρ,H0,s,e,h⟩:=h;unfold m9 at h;rw[Rk.bind]at h;refine TEd.go sx s e h fun d h v H1 aq s1 e1 r1=>?_
 cases d<;>first | (exact h.elim) |skip
 rename_i c zs;simp only at h;cases q:tb c with
 |none=>rw[q]at h;exact h.elim
 |some g=>
  obtain⟨C,f,fd,ps,k,h1,h2,h3,h4,h5,h6,h7,h8⟩:=M.h c g q
  obtain⟨a,C',dx,vs,rfl,n1,n2,n3,n4,n5⟩:=r1.obj
  rw[h1]at n1;cases n1
  refine⟨a,C,dx,_,f,fd,ps,k,_,rfl,e1.2.1 _ _ n2,Ka (ns:=[]) h7,h2,h3,h4,h5,h6,?_⟩
  rw[q]at h
  simp only at h
  rw[Rk.bind]at h
  refine TAd.go (sx.trans s1) e1.2.1 (e.mono e1.1) h fun ds h us H2 bq s2 e2 r2=>?_
  refine⟨.obj c zs::ds,bq,e2.2.1,?_,?_,?_⟩
  . simp only[RDs];exact⟨_,_,rfl,r1.mono e2.1,r2⟩
  . apply CF;intro hn;rw[h8 _ hn]at h;exact h
  . cases q':g (.obj c zs::ds) with
    |ok d=>rw[q']at h;exact fun v H' o=>h v H' (o.after (s1.trans s2) (e1.trans s1 e2))
    |er x=>rw[q']at h;exact fun H' s'=>hE x H' (h H' (((sx.trans s1).trans s2).trans s'))
    |st=>rw[q']at h;exact h
theorem Y1{pl:Sem Bool}{j2:Nat}(L:Lnd X EX)(M:Mths X.prog X.w X.K X.mg X.base m j n tb)(hr:Room j2 X.A)(ho:QE X EX false o fo)(ha:QA X EX (e::es) fs)(hj:j<=j2:=by omega)
 (aJ:starEach (e::es) X.env=(false,eval e X.env)::starEach es X.env:=by rfl) (hpl:(backTo pos (starEach es X.env)).any (·.1)=false:=by rfl)
 (ht:eval (.Call (.Attribute o m aw) (e::es) [] pos) X.env=(do
  let ov <-eval o X.env
  standAt aw.atName
  let (f,first) <-holding [ov] (getMethod ov m pl)
  callWith pos f first (backTo pos (starEach (e::es) X.env)) (backToKw pos (keywordEach [] X.env))):=by rfl) :
 QE X EX false (.Call (.Attribute o m aw) (e::es) [] pos) (m9 tb fo fs):=⟨(yj (pl:=pl) ho.h (hr.mono hj) L.on ha.h aJ hpl ht).imp fun _ _ _ q=>Sh M (fun x H z=>by obtain⟨C,hC⟩:=L.nm x H z;exact⟨C,hC,fun od xf=>⟨x,z,hC,xf⟩⟩) q⟩
end
structure Flds(K:Frag)(f:Str)(cs:List String):Prop where
 h:∀c∈cs,∃C,nsIn K mainGlobals (Str.ofString c)=some (some (.ref C))/\Cls K C/\NoAttr K C f
def o7(f:Str)(cs:List String):D->Option D
 | .obj c fs=>if c∈cs then((t6 c).zip fs).lookup f else none
 |_=>none
section
variable {X:Cx}{EX:XW}{e:Expr}{f:Str}{pos:Pos}{fd:DE->R D}{cs:List String}
theorem y0j{K:Frag}{U:St}{H:Hp}{Q:VK}(Z:Flds K f cs)(h:TEd K EX false (eUn (o7 f cs) fd) U H Q):kQ K (TEd K EX false fd) f U H Q:=by
 obtain⟨sx,ρ,H0,s,e,h⟩:=h;unfold eUn at h;rw[Rk.bind]at h;refine TEd.go sx s e h fun d h v H1 aq s1 e1 r1=>?_
 obtain⟨z,hz,hk⟩:=h.of;unfold o7 at hz;split at hz
 . rename_i c fs;split at hz
   . rename_i hc;obtain⟨a,C,dx,vs,rfl,n1,n2,n3,n4,n5⟩:=r1.obj;obtain⟨C',z1,z2,z3⟩:=Z.h c hc;rw[n1]at z1;cases z1;obtain⟨_,_,y,ly,ry⟩:=Wl n5 hz;exact⟨a,C,dx,_,y,rfl,e1.2.1 _ _ n2,z2,z3,ly,hk y H1 (.val s1 e1 ry)⟩
   . cases hz
 . cases hz
theorem F3(ha:QE X EX false e fd)(Z:Flds X.K f cs)(hb:attributeBase e f X.env (eval e X.env)=eval e X.env:=by rfl) :
 QE X EX false (.Attribute e f pos) (eUn (o7 f cs) fd):=⟨(vq ha.h hb).imp fun _ _ _ q=>y0j Z q⟩
end
def Gm(C:Addr)(fn:List Str):Sp:=fun vs H Q _=>∃x dx ys,vs=.ref x::ys/\ys.length=fn.length/\H x=some (.ins C dx [])/\Q .non (upd H x (.ins C dx (fn.zip ys)))
theorem Wi{P:Program}{w:World}{K:Frag}{mg:Str->Option Value}{base:Heap}{qual:Str}{st:Stmt}{fI C:Addr}{fd:FuncData}{se p f:Str}{p1 p2 p3 p4:Pos}{k:Nat}(F:Fun K "__init__" qual st fI fd)(S:FnScope [se,p] [se,p] (i7 st))(Z:Cls K C)(N:NoAttr K C f)
  (hb:t9 st=[.Assign [.Attribute (.Name se p1) f p2] (.Name p p3) p4]) (h1:Vis (i7 st) se) (h2:Vis (i7 st) p)
  (d1:(se==("__debug__":Str))=false:=by decide) (d2:(se==("__classdict__":Str))=false:=by decide) (d3:(p==("__debug__":Str))=false:=by decide) (d4:(p==("__classdict__":Str))=false:=by decide)
  (hs:∀env:Env,swapsWith (.Name p p3) (some (.Attribute (.Name se p1) f p2)) p4.line env=pure false:=by intro _;rfl):FnOk P w K mg base (CX1 P w) (k+1) fI fd [se,p] (Gm C [f]):=by
 refine Fun.okX F S (fun vs H Q E ⟨e,dx,ys,h,hl,_⟩=>by rw[h,pp,hl];rfl) fun cdv A outer s H vs Q E hr ⟨e,dx,ys,hv,hl,he,hq⟩=>?_
 subst hv
 match ys,hl with
 | [y],_=>
  rw[hb]
  refine⟨_,Wx (vp (Bt (i:=0) rfl h1 d1 d2) (Bt (i:=1) rfl h2 d3 d4) (hs _)) pss_nil,?_⟩
  exact⟨_,rfl,_,rfl,e,C,dx,[],rfl,he,Z,N,by decide,hq⟩
structure MkO(P:Program)(w:World)(K:Frag)(mg:Str->Option Value)(base:Heap)(c:String)(C:Addr)(fn:List Str)(k:Nat):Prop where
 nm:nsIn K mainGlobals (Str.ofString c)=some (some (.ref C))
 fs:t6 c=fn
 h:∃fI fd ps,Mk K C fI/\FnOk P w K mg base (CX1 P w) k fI fd ps (Gm C fn)/\Binds K fd ps []
def p8(c:String)(fs:DE->R (List D)):DE->R D:=fun ρ=>(fs ρ).bind fun ds=>if ds.length=(t6 c).length/\k9 ds=true/\pls ds=true then .ok (.obj c ds) else .st
theorem Ut{K:Frag}{H0 H:Hp}{c:String}{C x dx:Addr}{ds:List D}{vs:List V}(s:Same H0 H)(hx:H x=none)(hd:H dx=none)(aA:dx≠x)(hn:nsIn K mainGlobals (Str.ofString c)=some (some (.ref C)))(hl:vs.length=(t6 c).length)(hp:k9 ds=true/\pls ds=true)(r:RDs K H0 ds vs) :
  Out K false H0 H (.obj c ds) (.ref x) (upd (upd H dx (.own x)) x (.ins C dx ((t6 c).zip vs))):=by
 have e1:Ext H0 H (upd H0 dx (.own x)) (upd H dx (.own x)):=.new s hd
 have fy:upd H dx (.own x) x=none:=by rw[k8 (BX aA)];exact hx
 have e2:Ext (upd H0 dx (.own x)) (upd H dx (.own x)) (upd (upd H0 dx (.own x)) x (.ins C dx ((t6 c).zip vs))) (upd (upd H dx (.own x)) x (.ins C dx ((t6 c).zip vs))):=.new e1.2.1 fy
 have s1:Same H (upd H dx (.own x)):=Same.upd_new hd
 refine .val (s1.trans (Same.upd_new fy)) (e1.trans s1 e2) ?_
 simp only[RD]
 exact⟨x,C,dx,vs,rfl,hn,w8,hl,hp,r.mono (e1.1.trans e2.1)⟩
section
variable {X:Cx}{EX:XW}{e:Expr}{es:List Expr}{pos p:Pos}{c:String}{C:Addr}{fn:List Str}{k j:Nat}{fs:DE->R (List D)}{E:XK}
theorem y0k{U:St}{H:Hp}{Q:VK}(M:MkO X.prog X.w X.K X.mg X.base c C fn k)(h:TEd X.K EX false (p8 c fs) U H Q):Rl C (Gm C fn) [] E (TAd X.K EX fs) U H Q:=by
 obtain⟨sx,ρ,H0,s,e,h⟩:=h;unfold p8 at h;rw[Rk.bind]at h;refine TAd.go sx s e h fun ds h vs H1 aq s1 e1 r1=>?_
 split at h
 . rename_i hc;intro x dx hx hd aA;have hl:vs.length=(t6 c).length:=by rw[Ux r1];exact hc.1
   have cW:=M.fs;refine⟨x,dx,vs,by rw[BJ],by rw[<-cW];exact hl,w8,rfl,?_⟩;have:=h (.ref x) _ ((Ut e1.2.1 hx hd aA M.nm hl hc.2 r1).after s1 e1);rw[show upd (upd (upd H1 dx (.own x)) x (.ins C dx [])) x (.ins C dx (fn.zip vs))=upd (upd H1 dx (.own x)) x (.ins C dx ((t6 c).zip vs)) by
    funext b;rw[cW];by_cases hb:b=x
    . subst hb;rw[w8,w8]
    . rw[k8 hb,k8 hb,k8 hb]]
   exact this
 . exact h.elim
theorem Q7(L:Lnd X EX)(M:MkO X.prog X.w X.K X.mg X.base c C fn k)(hr:Room j X.A)(hg:Gl X (c:Str))(hm:X.mg (c:Str)=some (.ref C))(ha:QA X EX (e::es) fs)(dF:k+1<=j:=by omega)(az:((c:Str)==("__debug__":Str))=false:=by decide)
  (he:starEach (e::es) X.env=(false,eval e X.env)::starEach es X.env:=by rfl) (hpl:(backTo pos (starEach es X.env)).any (·.1)=false:=by rfl) :
  QE X EX false (.Call (.Name (c:Str) p) (e::es) [] pos) (p8 c fs):=by
 obtain⟨fI,fd,ps,K,F,B⟩:=M.h
 exact⟨(xA (E:=eOf X.K EX X.mg) K F (hr.mono dF) hg hm B .nil L.on ha.h az he hpl).imp fun _ _ _ q=>y0k M q⟩
end
theorem wt{prog:Program}{w:World}{A:Around}{K:Frag}{C:Addr}{h:Heap}{g:Array GenState}{d:Drawn}{t:Nat}{os:OsState}{R:Result->Shared->Prop}(X:K.In h)(hm:PySem.W.makesIn K C=true)(z:R (.ok (.ret .none)) ⟨(h.push emptyDict).push (instObj C h.objs.size),g,d,t,os⟩) :
  codeAny (model prog w) A (.call (.builtin "object.__init__") ⟨[.ref (h.objs.size+1)],[]⟩) R ⟨(h.push emptyDict).push (instObj C h.objs.size),g,d,t,os⟩:=by
 have Y:=PySem.W.makes_of (M:=model prog w) X hm
 have e2:((h.push emptyDict).push (instObj C h.objs.size)).get? (h.objs.size+1)=some (instObj C h.objs.size):=by have:=π (h.push emptyDict) (o:=instObj C h.objs.size) rfl;rwa [Heap.size_push]at this
 have J:PySem.W.InstAt ((h.push emptyDict).push (instObj C h.objs.size)) (h.objs.size+1) (instObj C h.objs.size) C (some emptyDict):=⟨e2,rfl,rfl,ω _ (π h rfl)⟩
 have t2:Looks (model prog w) ((h.push emptyDict).push (instObj C h.objs.size)) (isInstance (.ref (h.objs.size+1)) (.type "object")) true:=PySem.W.Looks.andThen (J.type (M:=model prog w)) (Y.top.keeps fun b o e=>ω _ (ω _ e))
 refine codeAny_call_builtin PySem.W.oi_plain PySem.W.entry_oi ?_
 refine PySem.W.check_slot (s:=⟨(h.push emptyDict).push (instObj C h.objs.size),g,d,t,os⟩) (i:="object.__init__") (owner:="object") (n:="__init__") (self:=.ref (h.objs.size+1)) (rest:=[]) (kw:=[]) PySem.W.oi_kind PySem.W.oi_split t2 (PySem.W.oi_args _) ?_
 rw[PySem.W.oi_run]
 exact γ z
structure MkZ(K:Frag)(c:String)(C:Addr):Prop where
 nm:nsIn K mainGlobals (Str.ofString c)=some (some (.ref C))
 fs:t6 c=[]
 makes:PySem.W.makesIn K C=true
 init:PySem.W.findIn K (.ref C) "__init__"=some (some (.builtin "object.__init__"))
 kp:keepIn K (.ref C)=true
noncomputable def K3(c:String):DE->R D:=fun _=>.ok (.obj c [])
section
variable {X:Cx}{EX:XW}{pos p:Pos}{c:String}{C:Addr}
theorem yi(M:MkZ X.K c C)(hg:Gl X (c:Str))(hm:X.mg (c:Str)=some (.ref C))(az:((c:Str)==("__debug__":Str))=false:=by decide) :
  PE X (.Call (.Name (c:Str) p) [] [] pos) (fun _ H Q=>∀x dx,H x=none->H dx=none->dx≠x->Q (.ref x) (upd (upd H dx (.own x)) x (.ins C dx []))):=by
 intro pins s U H Q I h
 refine CG (U8 I hg hm ?_ az)
 refine PySem.W.callWith_K0 I.kIn M.kp ?_
 have hq:=h (s.heap.objs.size+1) s.heap.objs.size (I.hok.fresh (Nat.le_succ _)) (I.hok.fresh (η _)) (AG (DX _))
 have I2:=Inv.made (C:=C) I
 obtain⟨hp,g,d,t,os⟩:=s
 refine wpAny_call (zL I.kIn M.makes M.init (fun self=>.of_pure (PySem.W.oi_bind self)) (wt I.kIn M.makes ?_))
 exact⟨rfl,⟨V.ref (hp.objs.size+1),_,I2,rfl,hq⟩⟩
theorem Fd(M:MkZ X.K c C)(hg:Gl X (c:Str))(hm:X.mg (c:Str)=some (.ref C))(az:((c:Str)==("__debug__":Str))=false:=by decide) :
  QE X EX false (.Call (.Name (c:Str) p) [] [] pos) (K3 c):=⟨(yi M hg hm az).imp fun U H Q ⟨sx,ρ,H0,s,e,h⟩ x dx hx hd aA=>by
 have cW:=M.fs
 have:=h (.ref x) _ (Ut (vs:=[]) (ds:=[]) s hx hd aA M.nm (by rw[cW];rfl) ⟨rfl,rfl⟩ .nil)
 rw[cW]at this
 exact this⟩
end
def Pu(K:Frag):List V->Hp->VK->Prop:=fun xs H Q=>match xs with
 | [x,.ref p]=>∃C b,TyOf K H x (.ref C)/\kitOne K (.ref C) (.ref p)=some b/\Q (.bl b) H
 |_=>False
theorem y54{X:Cx}:CallR X (.builtin "isinstance") (Pu X.K):=by
 intro pins s U H xs us Q I r h;unfold Pu at h;split at h
 . rename_i x p;obtain⟨C,b,ty,hk,q⟩:=h;cases r with
   |cons r1 r=>cases r with
    |cons r2 r=>
     cases r
     cases (show _=_ from r2)
     exact M5 I r1 ty hk fun tk=>⟨.bl b,H,I.tok tk,rfl,q⟩
 . exact h.elim
structure BelO(K:Frag)(Dd:Addr)(tb:String->Option Bool):Prop where
 hn:PySem.W.specialIn K (.builtin "object.__class__") "__get__"=some (some (.builtin "getset_descriptor.__get__"))
 htk:PySem.W.takesIn K (.builtin "object.__class__")=some true
 h:∀c b,tb c=some b->∃C,nsIn K mainGlobals (Str.ofString c)=some (some (.ref C))/\Cls K C/\PySem.W.findIn K (.ref C) "__class__"=some (some (.builtin "object.__class__"))/\mroIn K C (.type "object")=some true/\kitOne K (.ref C) (.ref Dd)=some b
noncomputable def p7(tb:String->Option Bool):D->Option D
 | .obj c _=>(tb c).map .bl
 |_=>none
section
variable {X:Cx}{EX:XW}{a b:Expr}{pos p:Pos}{x:Str}{f:DE->R D}{tb:String->Option Bool}{Dd:Addr}
theorem y55{K:Frag}{U:St}{H:Hp}{Q:VK}(B:BelO K Dd tb)(h:TEd K EX false (eUn (p7 tb) f) U H Q):tCB (Pu K) (E6 (TEd K EX false f) (E6 (tC (.ref Dd)) L8)) U H Q:=by
 obtain⟨sx,ρ,H0,s,e,h⟩:=h;unfold eUn at h;rw[Rk.bind]at h;refine TEd.go sx s e h fun d h v H1 aq s1 e1 r1=>?_
 obtain⟨z,hz,h⟩:=h.of;cases d<;>simp only[p7]at hz<;>first |cases hz |skip
 rename_i c _;obtain⟨b,hb,rfl⟩:=BQ.mp hz;obtain⟨a,C,dx,vs,rfl,n1,n2,n3,n4,n5⟩:=r1.obj;obtain⟨C',h1,h2,h3,h4,h5⟩:=B.h c b hb;rw[n1]at h1;cases h1;exact⟨C,b,.ins (e1.2.1 _ _ n2) h2 h3 B.hn B.htk h4,h5,h (.bl b) H1 (.val s1 e1 (by simp only[RD]))⟩
theorem Dv(hg:Gl X x)(hm:X.mg x=none)(hv:bootBuiltins x=some (.builtin "isinstance"))(ha:QE X EX false a f)(hb:PE X b (tC (.ref Dd)))(B:BelO X.K Dd tb)(hn:x≠"__name__":=by decide)(az:(x==("__debug__":Str))=false:=by decide)
 (he:starEach [a,b] X.env=(false,eval a X.env)::starEach [b] X.env:=by rfl) (hpl:(backTo pos (starEach [b] X.env)).any (·.1)=false:=by rfl) (hs:starEach [b] X.env=(false,eval b X.env)::starEach [] X.env:=by rfl) :
 QE X EX false (.Call (.Name x p) [a,b] [] pos) (eUn (p7 tb) f):=⟨(Cf y54 hg hm hv (G1 ha.h (G1 hb pa_nil hs) he) hn az he hpl).imp fun _ _ _ q=>y55 B q⟩
end
structure FnAt(K:Frag)(x:Str)(st:Stmt)(f:Addr):Prop where
 ns:nsIn K mainGlobals x=some (some (.ref f))
 fn:∃fd,Fun K x x st f fd
section
variable {P:Program}{w:World}{K:Frag}{mg:Str->Option Value}{base h:Heap}{x:Str}{st:Stmt}{f:Addr}{ps:List Str}{k:Nat}{sp:Sp}
theorem fat{oc:Value}{od an:Option Addr}{osl:Array (Option Value)}{kV doc pm cdv ct:Value}(a:nsIn K mainGlobals x=some (some (.ref f)))(l:K.lookup f=some ⟨oc,od,.func (PySem.W.fnOf x x (B6 st) (t9 st) (i7 st) .none kV doc pm an cdv ct),osl⟩)
 (c:codeIn K cdv x=true) (k:keepIn K (.ref f)=true):FnAt K x st f:=⟨a,_,Tn l c k⟩
def BP:List Str->(List Value->Prop)->Prop
 | [],P=>P []
 |_::r,P=>∀u,BP r fun us=>P (u::us)
theorem BP.all(h:BP ps Q)(us:List Value)(hl:us.length=ps.length):Q us:=by
 induction ps generalizing Q us with
 |nil=>rw[List.eq_nil_of_length_eq_zero hl];exact h
 |cons p r ih=>
  cases us with
  |nil=>cases hl
  |cons u us=>exact ih (h u) us (Nat.succ.inj hl)
theorem got(X:K.In h)(G:h.Ns mainGlobals mg)(A:FnAt K x st f)(ok:∀{fd},Fun K x x st f fd->FnOk P w K mg base (CX1 P w) k f fd ps sp)
  (hb:∀(kV doc pm:Value)(an:Option Addr)(cdv ct:Value),BP ps fun us=>bindArgs (PySem.W.fnOf x x (B6 st) (t9 st) (i7 st) .none kV doc pm an cdv ct) ⟨us,[]⟩=pure (ps.zip us):=by (repeat intro _);exact rfl):k6 P w K mg base x ps k sp:=by
 obtain⟨fd,F⟩:=A.fn
 exact⟨f,fd,ok F,F.binds fun kV doc pm an cdv ct=>(hb kV doc pm an cdv ct).all,DZ X G A.ns,F.kp⟩
theorem y0l(X:K.In h)(G:h.Ns mainGlobals mg)(lA:mg x=some (.ref fa))(A:FnAt K x st f)(hb:∀(s:Shared)(v kV doc pm:Value)(an:Option Addr)(cdv ct:Value),BindsTo s (PySem.W.fnOf x x (B6 st) (t9 st) (i7 st) .none kV doc pm an cdv ct) ⟨[v],[]⟩ [(z,v)])
  (ok:∀base:Heap,K.In base->base.Ns mainGlobals mg->∀{fd},Fun K x x st f fd->FnOk P w K mg base (CX1 P w) k f fd ps sp) :
  ∃fd:FuncData,(∀(s:Shared)(v:Value),BindsTo s fd ⟨[v],[]⟩ [(z,v)])/\∀base:Heap,K.In base->base.Ns mainGlobals mg->FnOk P w K mg base (CX1 P w) k fa fd ps sp:=by
 have e:=lA.symm.trans (DZ X G A.ns)
 cases e
 obtain⟨fd,F⟩:=A.fn
 have F':=F
 obtain⟨oc,od,kV,doc,pm,an,cdv,ct,osl,rfl,lk,bp⟩:=F'.ex
 exact⟨_,fun s v=>hb s v _ _ _ _ _ _,fun base kb nb=>ok base kb nb F⟩
theorem fsc(a:sc.kind=.function:=by rfl)(b:sc.isCoroutine=false:=by rfl)(c:sc.isGenerator=false:=by rfl)(d:N.Nodup:=by decide +kernel)(e:N.take ps.length=ps:=by rfl)
 (f:∀x∈ps,sc.names.lookup x=some .local\/sc.names.lookup x=some .cell:=by decide +kernel) (g:∀y∈sc.names,y.2≠.free:=by decide +kernel):FnScope N ps sc:=⟨a,b,c,d,e,f,g⟩
end
section
variable {X:Cx}{EX:XW}{fr cC:Bool}{a b e:Expr}{f g:DE->R D}{pos p:Pos}{m:List Bool}{j:Nat}
theorem qI(hr:Room j X.A)(ha:QE X EX false a f)(hb:QE X EX false b g)(hs:Li b:=by exact fun _ _=>rfl):QE X EX false (.Subscript a b pos) (eOp dIx f g):=y81 (y80 hr.units) y3y ha hb hs
theorem qL(hm:X.mg "len"=none)(ha:QE X EX false e f)(hg:Gl X "len":=by rfl)(he:starEach [e] X.env=(false,eval e X.env)::starEach [] X.env:=by rfl)(hpl:(backTo pos (starEach [] X.env)).any (·.1)=false:=by rfl) :
 QE X EX false (.Call (.Name "len" p) [e] [] pos) (eCB z7 (b8 f c7)):=y6 qR qQ hg hm PySem.boot_len (b9 ha c8 he) (he:=he) (hpl:=hpl)
theorem sA(i:Nat)(hN:X.N.Nodup)(he:QE X EX cC e f)(hi:X.N[i]?=some x:=by rfl)(hx:Loc X.env.scope x:=by first |exact .inl rfl |exact .inr rfl)(hs:swapsWith e (some (.Name x cD)) pos.line X.env=pure false:=by rfl)(hf:X.fn x=true\/X.env.scope.names.lookup x=some .local:=by exact .inl rfl) :
 QS X EX fr (.Assign [.Name x cD] e pos) (i4 cC i m f):=y44 hN hi hx he hs hf
theorem tE(hr:Room j X.A)(ha:QE X EX false a f)(hb:QE X EX false b g)(hm:behindInMarks .Eq b=false):QT X EX (.Compare a [.Eq] [b] pos) (g0 asB (eOp dEq f g)):=z0 (K0 hr.units) J9 ha hb hm
theorem tN(hr:Room j X.A)(ha:QE X EX false a f)(hb:QE X EX false b g)(hm:behindInMarks .NotEq b=false):QT X EX (.Compare a [.NotEq] [b] pos) (g0 asB (eOp dNe f g)):=z0 (y3q hr.units) y3r ha hb hm
end
section
variable {X:Cx}{EX:XW}{fr:Bool}{j n:Nat}{E:XK}{m:Str}{aw pos ag:Pos}{e o:Expr}{es:List Expr}{ta:TE}{t:TA}{tb:String->Option (List D->R D)}{fo:DE->R D}{fs:DE->R (List D)}{pins:List (Addr×Obj)}{U:St}{H:Hp}{s:Shared}{Q:VK}
theorem yh(he:PE X o ta)(hr:Room j X.A)(hx:R1 (CX1 X.prog X.w) X E)
  (ht:eval (.Call (.Attribute o m aw) [] [] pos) X.env=(do
   let ov <-eval o X.env
   standAt aw.atName
   let (f,first) <-holding [ov] (getMethod ov m pl)
   callWith pos f first (backTo pos (starEach [] X.env)) (backToKw pos (keywordEach [] X.env))):=by rfl) :
  PE X (.Call (.Attribute o m aw) [] [] pos) (En X m E j ta L8):=by
 intro pins s U H Q I h
 refine PySem.W.methodCall_KW (pl:=pl) (thn (he pins s U H _ I h) fun u s1 ⟨x,H1,I1,rx,a,C,dx,fs,f,fd,ps,k,sp,ex,ea,l,c,hm,F,hk,hb,q⟩=>?_) ht
 subst ex
 obtain rfl:u=Value.ref a:=rx
 refine My I1 ea c hm l ?_
 refine PySem.W.callWith_K0 (first:=[.ref a]) I1.kIn hm.kp ?_
 exact Kn (us:=[.ref a]) (vs:=[.ref a]) (dvs:=[]) (ds:=[]) F (hr.mono hk) hb .nil hx I1 (.cons rfl .nil) q
theorem Us(L:Lnd X EX)(M:Mths X.prog X.w X.K X.mg X.base m j n tb)(hr:Room j2 X.A)(ho:QE X EX false o fo)(hj:j<=j2:=by omega)
  (ht:eval (.Call (.Attribute o m aw) [] [] pos) X.env=(do
   let ov <-eval o X.env
   standAt aw.atName
   let (f,first) <-holding [ov] (getMethod ov m pl)
   callWith pos f first (backTo pos (starEach [] X.env)) (backToKw pos (keywordEach [] X.env))):=by rfl) :
  QE X EX false (.Call (.Attribute o m aw) [] [] pos) (m9 tb fo c7):=⟨(yh (pl:=pl) ho.h (hr.mono hj) L.on ht).imp fun _ _ _ q=>by
 have z:=Sh (E:=eOf X.K EX X.mg) (fs:=c7) M (fun x H z=>by obtain⟨C,hC⟩:=L.nm x H z;exact⟨C,hC,fun od xf=>⟨x,z,hC,xf⟩⟩) q
 unfold En at z⊢
 obtain⟨sx,ρ,H0,s,e,z⟩:=z
 refine⟨sx,ρ,H0,s,e,z.mono fun d z v H' o=>?_⟩
 obtain⟨a,C,dx,fs,f,fd,ps,k,sp,ex,ea,l,c,hm,F,hk,hb,sy,aI,ac,s',e',z⟩:=z v H' o
 exact⟨a,C,dx,fs,f,fd,ps,k,sp,ex,ea,l,c,hm,F,hk,hb,z [] _ _ (.refl _) (.refl s') .nil⟩⟩
theorem yg(he:PE X.nox o ta)(hr:Room j X.A)(ha:PA X.nox (e::es) t)(I:Inv X pins U H s)
  (h:ta U H fun x H1=>∃a C dx fs f fd ps k sp,x=.ref a/\H1 a=some (.ins C dx fs)/\fs.lookup m=none/\Cls X.K C/\Meth X.K C m f/\FnOk X.prog X.w X.K X.mg X.base (CX1 X.prog X.w) k f fd ps sp/\k<=j/\Binds X.K fd ps []/\t U H1 fun vs H2=>Same H H2/\sp (x::vs) H2 Q E)
  (aJ:starEach (e::es) X.env=(false,eval e X.env)::starEach es X.env:=by rfl) (hpl:(backTo pos (starEach es X.env)).any (·.1)=false:=by rfl)
  (ht:eval (.Call (.Attribute o m aw) (e::es) [] pos) X.env=(do
   let ov <-eval o X.env
   standAt aw.atName
   let (f,first) <-holding [ov] (getMethod ov m pl)
   callWith pos f first (backTo pos (starEach (e::es) X.env)) (backToKw pos (keywordEach [] X.env))):=by rfl) :
  wpAny (model X.prog X.w) X.A (eval (.Call (.Attribute o m aw) (e::es) [] pos) X.env) (EP X pins U Q) (fun ev s'=>∃H1 s1,Same H H1/\Inv X pins U H1 s1/\CX1 X.prog X.w X.stack H1 s1 E ev s') s:=by
 have I':Inv X.nox pins U H s:=⟨⟨I.ok.mod,I.ok.kind,I.ok.glob,I.ok.blt,I.ok.above,I.ok.inj,I.ok.has,I.ok.cab,I.ok.hd,I.ok.frames,I.ok.stk,I.ok.exf,I.ok.bs,I.ok.bsz,I.ok.noex,I.ok.exfs,I.ok.funs,I.ok.frf⟩,I.os,I.bare,I.base,I.loc,I.cell,I.free,I.freeC,I.pin,I.hok,I.len⟩
 refine PySem.W.methodCall_KW (pl:=pl) (AJ (he pins s U H _ I' h) (fun u s1 ⟨x,H1,I1,rx,a,C,dx,fs,f,fd,ps,k,sp,ex,ea,l,c,hm,F,hk,hb,q⟩=>?_) fun _ _ z=>z.elim) ht
 subst ex
 obtain rfl:u=Value.ref a:=rx
 refine My (X:=X.nox) I1 ea c hm l ?_
 refine callWith_K (first:=[.ref a]) (h₀:=X.base) I.ok.mod.kin hm.kp (AJ (ha pos pins s1 U H1 _ I1 q) (fun us s2 ⟨vs,H2,I2,r,sH,q2⟩=>⟨I2.kIn,?_⟩) fun _ _ z=>z.elim) aJ hpl
 have I2:Inv X pins U H2 s2:=⟨I.ok,I2.os,I2.bare,I2.base,I2.loc,I2.cell,I2.free,I2.freeC,I2.pin,I2.hok,I2.len⟩
 have r':Vals (.ref a::vs) (.ref a::us):=.cons rfl r
 have hl:(Value.ref a::us).length=ps.length:=by rw[<-r'.length];exact F.len _ _ _ _ q2
 have cc:=hb s2 (.ref a::us) I2.kIn (by rw[BJ];exact hl)
 rw[BJ]at cc
 refine wpAny_call (EO (F.run X.A X.stack s2 H2 ⟨.ref a::us,[]⟩ (.ref a::us) (.ref a::vs) Q E (hr.mono hk) I2.env0 cc r' q2) fun r s' hq=>?_)
 cases r with
 |error e=>exact⟨H2,s2,sH,I2,hq⟩
 |ok fl=>
  cases fl with
  |ret u=>exact I2.after hq
  |next=>exact False.elim hq
  |brk=>exact False.elim hq
  |cont=>exact False.elim hq
def L9(k:String->Bool)(tb:String->Option (List D->R D))(fo:DE->R D)(fs:DE->R (List D)):DE->R D:=fun ρ=>(fo ρ).noE.bind fun d=>match d with
 | .obj c zs=>(match tb c with |some g=>(fs ρ).noE.bind fun ds=>(g (.obj c zs::ds)).kn k |none=>.st)
 |_=>.st
theorem Jz(hk:∀c,k c=true->∃C,X.mg (Str.ofString c)=some (.ref C))(M:Mths X.prog X.w X.K X.mg X.base m j n tb)(hr:Room j2 X.A)(ho:QE X.nox F0 false o fo)(ha:QA X.nox F0 (e::es) fs)(hj:j<=j2:=by omega)
  (aJ:starEach (e::es) X.env=(false,eval e X.env)::starEach es X.env:=by rfl) (hpl:(backTo ag (starEach es X.env)).any (·.1)=false:=by rfl)
  (ht:eval (.Call (.Attribute o m aw) (e::es) [] ag) X.env=(do
   let ov <-eval o X.env
   standAt aw.atName
   let (f,first) <-holding [ov] (getMethod ov m pl)
   callWith ag f first (backTo ag (starEach (e::es) X.env)) (backToKw ag (keywordEach [] X.env))):=by rfl)
  (hs:swapsWith (.Call (.Attribute o m aw) (e::es) [] ag) none pos.line X.env=pure false:=by rfl) :
  QY X fr [.Expr (.Call (.Attribute o m aw) (e::es) [] ag) pos] (B0 (L9 k tb fo fs)):=by
 refine⟨fun pins s U H De Hc Hb H0 ρ P I R h=>?_⟩
 unfold B0 at h
 rw[SK.toS,<-U6]at h
 refine Kf (wpAny_Expr_any (AJ (yg (pl:=pl) (Q:=fun _ H'=>De.nx U H') (E:=eOf X.K ⟨H,P⟩ X.mg) ho.h (hr.mono hj) ha.h I ?_ aJ hpl ht) (fun v s1 ⟨y,H1,I1,r1,q1⟩=>⟨U,H1,I1,q1⟩) fun ev s' z=>Wm z) I.quiet hs)
 unfold L9 at h
 rw[Rk.bind]at h
 refine TEd.go (F0.same _) (R.heH _) (R.re _) (Rk.noE h) fun d h v H1 aq s1 e1 r1=>?_
 cases d<;>first | (exact h.elim) |skip
 rename_i c zs
 simp only at h
 cases q:tb c with
 |none=>rw[q]at h;exact h.elim
 |some g=>
  obtain⟨C,f,fd,ps,k',h1,h2,h3,h4,h5,h6,h7,h8⟩:=M.h c g q
  obtain⟨a,C',dx,vs,rfl,n1,n2,n3,n4,n5⟩:=r1.obj
  rw[h1]at n1;cases n1
  refine⟨a,C,dx,_,f,fd,ps,k',_,rfl,e1.2.1 _ _ n2,Ka (ns:=[]) h7,h2,h3,h4,h5,h6,?_⟩
  rw[q]at h
  simp only at h
  rw[Rk.bind]at h
  refine TAd.go (F0.same _) e1.2.1 ((R.re _).mono e1.1) (Rk.noE h) fun ds h us H2 bq s2 e2 r2=>?_
  refine⟨s1.trans s2,.obj c zs::ds,bq,e2.2.1,?_,?_,?_⟩
  . simp only[RDs];exact⟨_,_,rfl,r1.mono e2.1,r2⟩
  . apply CF;intro hn;rw[h8 _ hn]at h;exact h
  . cases q':g (.obj c zs::ds) with
    |ok d=>rw[q']at h;exact fun v H' o=>h U H' H0 (R.grow ((s1.trans s2).trans o.1))
    |st=>rw[q']at h;exact h
    |er x=>
     rw[q']at h
     unfold L2.R.kn at h
     dsimp only at h
     split at h
     . rename_i hx;obtain⟨C,hC⟩:=hk _ hx;exact fun H' s'=>⟨C,hC,fun od xf=>⟨x,h H' ((s1.trans s2).trans s'),hC,xf⟩⟩
     . exact h.elim
end
structure MeAt(K:Frag)(C:Addr)(m q:Str)(st:Stmt)(f:Addr):Prop where
 me:Meth K C m f
 fn:∃fd,Fun K m q st f fd
structure FnAtD(K:Frag)(x:Str)(st:Stmt)(f:Addr):Prop where
 ns:nsIn K mainGlobals x=some (some (.ref f))
 fn:∃fd T oc od dv n sl,FunD K x x st (.ref T) f fd/\K.lookup T=some ⟨oc,od,.seq #[dv] n,sl⟩
def J1(P:Program)(w:World)(K:Frag)(mg:Str->Option Value)(base:Heap)(C:Addr)(m:Str)(ps:List Str)(k:Nat)(sp:Sp):Prop:=∃f fd,Meth K C m f/\FnOk P w K mg base (CX1 P w) k f fd ps sp/\Binds K fd ps []
section
variable {P:Program}{w:World}{K:Frag}{mg:Str->Option Value}{base h:Heap}{x m q:Str}{st:Stmt}{f C:Addr}{ps:List Str}{k j n:Nat}{sp:Sp}{oc:Value}{od an:Option Addr}{osl:Array (Option Value)}{kV doc pm cdv ct:Value}
theorem mat(a:PySem.W.findIn K (.ref C) m=some (some (.ref f)))(n:isFn K (.ref f)=true)(l:K.lookup f=some ⟨oc,od,.func (PySem.W.fnOf m q (B6 st) (t9 st) (i7 st) .none kV doc pm an cdv ct),osl⟩)
 (c:codeIn K cdv q=true) (k:keepIn K (.ref f)=true):MeAt K C m q st f:=⟨⟨a,n,k⟩,_,Tn l c k⟩
theorem fatD(a:nsIn K mainGlobals x=some (some (.ref f)))(l:K.lookup f=some ⟨oc,od,.func (PySem.W.fnOf x x (B6 st) (t9 st) (i7 st) (.ref T) kV doc pm an cdv ct),osl⟩)
 (t:K.lookup T=some ⟨tc,td,.seq #[dv] tn,ts⟩) (c:codeIn K cdv x=true) (k:keepIn K (.ref f)=true):FnAtD K x st f:=⟨a,_,T,tc,td,dv,tn,ts,wu l c k,t⟩
theorem M9(A:MeAt K C m q st f)(ok:∀{fd},Fun K m q st f fd->FnOk P w K mg base (CX1 P w) k f fd ps sp)
  (hb:∀(kV doc pm:Value)(an:Option Addr)(cdv ct:Value),BP ps fun us=>bindArgs (PySem.W.fnOf m q (B6 st) (t9 st) (i7 st) .none kV doc pm an cdv ct) ⟨us,[]⟩=pure (ps.zip us):=by (repeat intro _);exact rfl):J1 P w K mg base C m ps k sp:=by
 obtain⟨fd,F⟩:=A.fn
 exact⟨f,fd,A.me,ok F,F.binds fun kV doc pm an cdv ct=>(hb kV doc pm an cdv ct).all⟩
theorem y8d(X:K.In h)(G:h.Ns mainGlobals mg)(A:FnAtD K x st f)(ok:∀{fd T},FunD K x x st (.ref T) f fd->FnOk P w K mg base (CX1 P w) k f fd ps sp)
  (hb:∀(T:Addr)(dv kV doc pm:Value)(an:Option Addr)(cdv ct:Value),BP ps fun us=>∃k,bindArgs (PySem.W.fnOf x x (B6 st) (t9 st) (i7 st) (.ref T) kV doc pm an cdv ct) ⟨us,[]⟩=seqItems? (.ref T) >>= k/\k (some #[dv])=pure (ps.zip us):=by (repeat intro _);exact⟨_,rfl,rfl⟩):k6 P w K mg base x ps k sp:=by
 obtain⟨fd,T,oc,od,dv,n,sl,F,t⟩:=A.fn
 exact⟨f,fd,ok F,F.binds (ds:=[]) t ps.length rfl fun kV doc pm an cdv ct us hl=>by rw[BJ];exact(hb T dv kV doc pm an cdv ct).all us hl,DZ X G A.ns,F.kp⟩
theorem Mths.nil:Mths P w K mg base m j n fun _=>none:=⟨fun c g h=>by cases h⟩
theorem Mths.cons(hn:nsIn K mainGlobals (Str.ofString y)=some (some (.ref C)))(hc:Cls K C)(G:J1 P w K mg base C m ps k (spD K mg false (mOf false n kk gg) n))(M:Mths P w K mg base m j n tb)(hk:k<=j:=by decide)(hm:m∉t6 y:=by decide) :
  Mths P w K mg base m j n fun c=>if c=y then some (mOf false n kk gg) else tb c:=⟨fun c g h=>by
 by_cases e:c=y
 . rw[ζ e]at h;cases h;subst e;obtain⟨f,fd,h1,h2,h3⟩:=G;exact⟨_,_,_,_,_,hn,hc,h1,h2,hk,h3,hm,fun ds=>Lf ds⟩
 . rw[ξ e]at h;exact M.h c g h⟩
theorem mko(A:MeAt K C "__init__" q st f)(hn:nsIn K mainGlobals (Str.ofString y)=some (some (.ref C)))(hm:PySem.W.makesIn K C=true)(hq:keepIn K (.ref C)=true)(hf:t6 y=fn)(ok:∀{fd},Fun K "__init__" q st f fd->FnOk P w K mg base (CX1 P w) k f fd ps (Gm C fn))
  (hb:∀(kV doc pm:Value)(an:Option Addr)(cdv ct:Value),BP ps fun us=>bindArgs (PySem.W.fnOf "__init__" q (B6 st) (t9 st) (i7 st) .none kV doc pm an cdv ct) ⟨us,[]⟩=pure (ps.zip us):=by (repeat intro _);exact rfl):MkO P w K mg base y C fn k:=by
 obtain⟨fd,F⟩:=A.fn
 exact⟨hn,hf,f,fd,ps,⟨hm,A.me.at_,A.me.fn,hq⟩,ok F,F.binds fun kV doc pm an cdv ct=>(hb kV doc pm an cdv ct).all⟩
end
section
variable {X:Cx}{K:Frag}
noncomputable def qr:R2:=fun x y H Q=>∃i j,x=.str i/\y=.str j/\i.length+j.length<=sizeLine/\Q (.str (i++j)) H
noncomputable def k7:D->D->Option D
 | .str a,.str b=>if a.length+b.length<=16777216 then some (.str (a++b)) else none
 |_,_=>none
theorem v5:OpR X (binaryOp .Add) qr:=zis
theorem v6:OpD K false k7 qr:=by
 intro H0 H x y d e z Q s rx ry ho k;unfold k7 at ho;split at ho<;>first | (cases ho;done) |skip
 split at ho<;>first | (cases ho;done) |skip
 rename_i hl;cases ho;cases rx.str;cases ry.str;exact⟨_,_,rfl,rfl,hl,k _ H (.pure s (.mkStr _))⟩
noncomputable def inT(a b:Str):Bool:=!(Builtin.Str.occurrences b a 0 b.length 1).isEmpty
def ki:R2:=fun x y H Q=>∃i j,x=.str i/\y=.str j/\Q (.bl (inT i j)) H
def Dm:D->D->Option D
 | .str a,.str b=>some (.bl (inT a b))
 |_,_=>none
theorem y56:OpR X (compareOp .In) ki:=zP
theorem y0o:OpD K false Dm ki:=by
 intro H0 H x y d e z Q s rx ry ho k;unfold Dm at ho;split at ho<;>first | (cases ho;done) |skip
 cases ho;cases rx.str;cases ry.str;exact⟨_,_,rfl,rfl,k _ H (.pure s (.mkBl _))⟩
def qq:List V->Hp->VK->Prop:=fun xs H Q=>∃x n,xs=[.str x]/\PySem.intText? x=some n/\x.length<=640/\Q (.int n) H
noncomputable def J8:List D->Option D
 | [.str x]=>if x.length<=640 then(PySem.intText? x).map .int else none
 |_=>none
theorem Jy:CallR X (.type "int") qq:=by intro pins s U H xs us Q I r h;obtain⟨x,n,rfl,hn,hl,q⟩:=h;obtain⟨u,rfl,t,rfl⟩:=z5 r;exact PySem.W.KIN.call_text hn hl ⟨.int n,H,I.tok _,⟨_,rfl⟩,q⟩
theorem La:z9 K false J8 qq:=by
 intro H0 H xs ds z Q s r ho k;unfold J8 at ho;split at ho<;>first | (cases ho;done) |skip
 split at ho<;>first | (cases ho;done) |skip
 rename_i hl;obtain⟨x,rfl,q1⟩:=r.uno;cases q1.str;obtain⟨n,hn,rfl⟩:=BQ.mp ho;exact⟨_,n,rfl,hn,hl,k _ H (.pure s (.mkInt _))⟩
def MtD(K:Frag)(fr:Bool)(m:Str->List D->Option D)(r:V->List V->Hp->VK->Prop):Prop:=∀(H0 H:Hp)(c:Str)(xs:List V)(ds:List D)(z:D)(Q:VK),Same H0 H->RDs K H0 ds xs->m c ds=some z->(∀v H',Out K fr H0 H z v H'->Q v H')->r (.str c) xs H Q
def eMt(m:Str->List D->Option D)(fo:DE->R D)(fs:DE->R (List D)):DE->R D:=fun ρ=>(fo ρ).bind fun d=>match d with
 | .str c=>(fs ρ).bind fun ds=>R.of (m c ds)
 |_=>.st
theorem y8e(hm:MtD K fr m r)(h:TEd K EX fr (eMt m fo fs) U H Q):tBM K "str" r (TEd K EX false fo) (TAd K EX fs) U H Q:=by
 obtain⟨sx,ρ,H0,s,e,h⟩:=h;unfold eMt at h;rw[Rk.bind]at h;refine TEd.go sx s e h fun d h v H1 aq s1 e1 r1=>?_
 split at h
 . cases r1.str;rw[Rk.bind]at h;refine⟨rfl,TAd.go (sx.trans s1) e1.2.1 (e.mono e1.1) h fun ds h vs H2 bq s2 e2 r2=>?_⟩;obtain⟨z,hz,h⟩:=h.of;exact hm bq H2 _ vs ds z Q e2.2.1 r2 hz fun w H3 o=>h w H3 (o.after (s1.trans s2) (e1.trans s1 e2))
 . exact h.elim
theorem Pt{EX:XW}{fr:Bool}{o e:Expr}{es:List Expr}{name:Str}{aw ag:Pos}{id:String}{m:Str->List D->Option D}{r:V->List V->Hp->VK->Prop}{fo:DE->R D}{fs:DE->R (List D)}(slot:Slot "str" name id)(eL:typeOf (.builtin id)=pure (.type "method_descriptor"))(hm:MtR X id r)(md:MtD X.K fr m r)
 (ho:QE X EX false o fo) (ha:QA X EX (e::es) fs) (aP:attributeBase o name X.env (eval o X.env)=eval o X.env:=by rfl)
 (cf:((backTo ag (starEach (e::es) X.env)).all (fun x=>!x.1)&&(backToKw ag (keywordEach [] X.env)).all (fun x=>x.1.isSome)&&decide ((e::es).length+([]:List Keyword).length+(if([]:List Keyword).isEmpty then 0 else 1)<30))=true:=by rfl)
 (bO:(aw.endLine==ag.line)=true:=by rfl) (hs:starEach (e::es) X.env=(false,eval e X.env)::starEach es X.env:=by rfl) (bc:(backTo ag (starEach es X.env)).any (·.1)=false:=by rfl) :
 QE X EX fr (.Call (.Attribute o name aw) (e::es) [] ag) (eMt m fo fs):=⟨(Ec PySem.F.plainAttrs_str slot eL hm ho.h ha.h aP cf bO hs bc).imp fun _ _ _ q=>y8e md q⟩
theorem Xf:∀(k:Nat)(ys:List Str),Vals (ys.map V.str) (strsFrom k ys)
 |_,[]=>.nil
 |k,y::ys=>.cons ⟨k,rfl⟩ (Xf (k+1) ys)
noncomputable def K2:Str->List D->Option D
 |x,[.str y]=>if 1<=y.length/\x.length<=1000000 then some (.lst ((Txt.split x y).map .str)) else none
 |_,_=>none
def Sg:V->List V->Hp->VK->Prop:=fun v xs H Q=>∃x y:Str,v=.str x/\xs=[.str y]/\(1<=y.length/\x.length<=1000000)/\∀p,H p=none->Q (.ref p) (upd H p (.lst ((Txt.split x y).map V.str)))
theorem Wh:MtR X "str.split" Sg:=by
 intro pins s U H v xs u us Q I rv r h;obtain⟨x,y,rfl,rfl,⟨hy,hx⟩,q⟩:=h;obtain⟨t,rfl⟩:=rv;obtain⟨w,rfl,t',rfl⟩:=z5 r;have hs:x.length<=sizeLine:=AA hx (by decide);have n0:(y.length==0)=false:=by rw[CJ];omega
 have iD:=PyProof.Rows.split_le x y;have put:∀(its:List Value)(k:Nat),Vals ((Txt.split x y).map V.str) its->EP X pins U Q (.ref s.heap.objs.size) { s with heap:=s.heap.push { cls:=.type "list",data:=.seq its.toArray },toks:=k }:=fun its k hv=>
  ⟨.ref s.heap.objs.size,_,I.lnew hv (by rw[gV];exact AA iD (AA (Nat.add_le_add_right hx 2) (by decide))),rfl,q _ I.fresh⟩
 have run:∀{sp:PySem.Spec},Meets (Builtin.«str.split» ⟨[.str x t,.str y t'],[]⟩) sp->sp X.A (wants (EP X pins U Q) X.xe) s->wpAny (model X.prog X.w) X.A (call (.builtin "str.split") [.str x t,.str y t']) (EP X pins U Q) X.xe s:=fun m h=>
  call_meets PySem.F.slot_str_split (typeIs_str _ _ _) PySem.F.entry_str_split (PySem.F.args_str_split_2 _ _) m h
 cases h1:(decide (x.length<y.length)||decide (Builtin.Str.strKind x<Builtin.Str.strKind y)) with
 |true=>exact run (meets_str_split_cannot_occur x y t t' h1) (put [.str x t] s.toks (by rw[show Txt.split x y=[x] from ζ h1];exact .cons ⟨t,rfl⟩ .nil))
 |false=>
  have e1:Txt.split x y=_:=ξ (by rw[h1];exact θ)
  cases h2:(Builtin.Str.occurrences x y 0 x.length (x.length+1)).isEmpty with
  |true=>exact run (meets_str_split_not_found x y t t' h1 n0 h2) (put [.str x t] s.toks (by rw[e1,ζ h2];exact .cons ⟨t,rfl⟩ .nil))
  |false=>
   have e2:Txt.split x y=_:=e1.trans (ξ (by rw[h2];exact θ))
   exact run (meets_str_split_sep x y t t' h1 n0 h2 hs (by rw[<-e2];exact AA iD (AA (Nat.add_le_add_right hx 2) (by decide)))) (put _ _ (by rw[e2];exact Xf _ _))
theorem Wg:∀ys:List Str,RDs K H (ys.map D.str) (ys.map V.str)
 | []=>rfl
 |y::ys=>⟨_,_,rfl,.mkStr y,Wg ys⟩
theorem Wf:MtD K true K2 Sg:=by
 intro H0 H c xs ds z Q s r ho k;unfold K2 at ho;split at ho<;>first | (cases ho;done) |skip
 split at ho<;>first | (cases ho;done) |skip
 rename_i hl;cases ho;obtain⟨x,rfl,q1⟩:=r.uno;cases q1.str;exact⟨_,_,rfl,rfl,hl,fun p hp=>k _ _ (.new s hp fun H' hH=>by simp only[OB];exact⟨_,hH,Wg _⟩)⟩
noncomputable def G4(x:Str)(lo hi:Option Int):Str:=if(Builtin.Str.strSliceIndices lo hi 1 x.length).length=x.length then x else⟨((Builtin.Str.strSliceIndices lo hi 1 x.length).filterMap (x.cps[·]?)).toArray⟩
def kh:V->Option Int->Option Int->Hp->VK->Prop:=fun v lo hi H Q=>∃x:Str,v=.str x/\(G4 x lo hi).length<=sizeLine/\Q (.str (G4 x lo hi)) H
def Dl:D->Option Int->Option Int->Option D
 | .str x,lo,hi=>if(G4 x lo hi).length<=16777216 then some (.str (G4 x lo hi)) else none
 |_,_,_=>none
theorem Ur(p:IsPart v o):∃l:Option (Int×Tok),v=partValue l/\l.map (·.1)=o:=by
 cases p with
 |none=>exact⟨none,rfl,rfl⟩
 |int i t=>exact⟨some (i,t),rfl,rfl⟩
theorem y0r:SlR X kh:=by
 intro pins s U H x v vl vu lo hi sl Q I rx hs pl pu h;obtain⟨x,rfl,hl,q⟩:=h;obtain⟨t,rfl⟩:=rx;obtain⟨l,rfl,el⟩:=Ur pl;obtain⟨u,rfl,eu⟩:=Ur pu;refine⟨"str",_,PySem.F.slot_str_getitem.lookup,typeIs_str _ _ _,wpAny_getItem_str_slice (l:=l) (u:=u) (st:=none) hs rfl ?_⟩;have e:slicePicked x l u none=Builtin.Str.strSliceIndices lo hi 1 x.length:=by unfold slicePicked;rw[el,eu];rfl
 unfold sliceMade;rw[e];unfold G4 at hl q;split
 . rename_i z;have z':(Builtin.Str.strSliceIndices lo hi 1 x.length).length=x.length:=by simpa using z
   rw[ζ z']at q;exact⟨.str x,H,I,⟨_,rfl⟩,q⟩
 . rename_i z;have z':¬(Builtin.Str.strSliceIndices lo hi 1 x.length).length=x.length:=by simpa using z
   rw[ξ z']at q hl;exact⟨hl,.str _,H,I.tok _,⟨_,rfl⟩,q⟩
theorem y0s:SlD K false Dl kh:=by
 intro H0 H x d z lo hi Q s r ho k;unfold Dl at ho;split at ho<;>first | (cases ho;done) |skip
 split at ho<;>first | (cases ho;done) |skip
 rename_i hl;cases ho;cases r.str;exact⟨_,rfl,hl,k _ H (.pure s (.mkStr _))⟩
def rFv:V->Hp->VK->Prop:=fun x H Q=>∃i:Int,x=.int i/\i.natAbs.log2<1920/\Q (.str (Str.ofString (toString i))) H
noncomputable def dFv:D->Option D
 | .int i=>if i.natAbs.log2<1920 then some (.str (Str.ofString (toString i))) else none
 |_=>none
theorem y58(he:PE X e te):PE X (.FormattedValue e (-1) none pos) (tUn rFv te):=by intro pins s U H Q I h;refine FormattedValue_plain (thn (he pins s U H _ I h) fun v s1 z=>?_);obtain⟨x,H1,I1,r1,i,rfl,hi,q⟩:=z;obtain⟨t,rfl⟩:=r1;exact formatField_int_small hi ⟨.str _,H1,I1.tok _,⟨_,rfl⟩,q⟩
theorem y59:UnD K false dFv rFv:=by
 intro H0 H x d z Q s r ho k;unfold dFv at ho;split at ho<;>first | (cases ho;done) |skip
 split at ho<;>first | (cases ho;done) |skip
 rename_i hi;cases ho;cases r.int;exact⟨_,rfl,hi,k _ H (.pure s (.mkStr _))⟩
theorem kg(he:QE X EX false e f):QE X EX false (.FormattedValue e (-1) none pos) (eUn dFv f):=⟨(y58 he.h).imp fun _ _ _ q=>kz y59 q⟩
noncomputable def tJn(ts:List TE):Str->TE:=ts.foldr (fun t k o U H Q=>t U H fun x H1=>∃i:Str,x=.str i/\(o++i).length<=sizeLine/\k (o++i) U H1 Q) fun o _ H Q=>o.length<=sizeLine/\Q (.str o) H
inductive PJ (X:Cx):List Expr->List TE->Prop
 |nil:PJ X [] []
 |cons {e:Expr} {es:List Expr} {t:TE} {ts:List TE} (h:PE X e t) (r:PJ X es ts) (hs:evalEach (e::es) X.env=eval e X.env::evalEach es X.env):PJ X (e::es) (t::ts)
theorem yf(h:PJ X es ts):∀{pins:List (Addr×Obj)}{s:Shared}{U:St}{H:Hp}{Q:VK}(o:Str),Inv X pins U H s->tJn ts o U H Q->wpAny (model X.prog X.w) X.A (joinParts o (evalEach es X.env)) (EP X pins U Q) X.xe s:=by
 induction h with
 |nil=>intro pins s U H Q o I h;exact joinParts_nil ⟨.str o,H,I.tok _,⟨_,rfl⟩,h.2⟩ h.1
 |cons he r hs ih=>
  intro pins s U H Q o I h
  rw[hs]
  refine joinParts_cons (thn (he pins s U H _ I h) fun v s1 z=>?_)
  obtain⟨x,H1,I1,r1,i,rfl,hi,q⟩:=z
  obtain⟨t,rfl⟩:=r1
  exact⟨hi,ih _ I1 q⟩
theorem y5a(h:PJ X (a::b::es) ts)(hs:evalEach (a::b::es) X.env=eval a X.env::eval b X.env::evalEach es X.env:=by rfl):PE X (.JoinedStr (a::b::es) pos) (tJn ts Str.empty):=by intro pins s U H Q I q;refine JoinedStr_many ?_;rw[<-hs];exact yf h _ I q
def eJn:List (DE->R D)->Str->DE->R D
 | [],o,_=>if o.length<=16777216 then .ok (.str o) else .st
 |f::fs,o,ρ=>(f ρ).bind fun d=>match d with
  | .str i=>if(o++i).length<=16777216 then eJn fs (o++i) ρ else .st
  |_=>.st
theorem kf:∀{fs:List (DE->R D)}{o:Str}{H:Hp},TEd K EX false (eJn fs o) U H Q->tJn (fs.map (TEd K EX false)) o U H Q
 | [],o,H,h=>by
  obtain⟨sx,ρ,H0,s,e,h⟩:=h;unfold eJn at h;split at h
  . rename_i hl;exact⟨hl,h _ H (.pure s (.mkStr _))⟩
  . exact h.elim
 |f::fs,o,H,h=>by
  obtain⟨sx,ρ,H0,s,e,h⟩:=h;unfold eJn at h;rw[Rk.bind]at h;refine TEd.go sx s e h fun d h v H1 aq s1 e1 r1=>?_
  split at h
  . split at h
    . rename_i hl;cases r1.str;exact⟨_,rfl,hl,kf ⟨sx.trans s1,ρ,aq,e1.2.1,e.mono e1.1,h.mono fun d z v H' o=>z v H' (o.after s1 e1)⟩⟩
    . exact h.elim
  . exact h.elim
structure QJ(X:Cx)(EX:XW)(es:List Expr)(fs:List (DE->R D)):Prop where
 h:PJ X es (fs.map (TEd X.K EX false))
theorem y5b:QJ X EX [] []:=⟨.nil⟩
theorem Jx(he:QE X EX false e f)(hr:QJ X EX es fs)(hs:evalEach (e::es) X.env=eval e X.env::evalEach es X.env:=by rfl):QJ X EX (e::es) (f::fs):=⟨.cons he.h hr.h hs⟩
theorem y8f(h:QJ X EX (a::b::es) fs)(hs:evalEach (a::b::es) X.env=eval a X.env::eval b X.env::evalEach es X.env:=by rfl):QE X EX false (.JoinedStr (a::b::es) pos) (eJn fs Str.empty):=⟨(y5a h.h hs).imp fun _ _ _ q=>kf q⟩
noncomputable def Ax(x:Str):List V:=x.cps.toList.map fun c=>.str ⟨#[c]⟩
def Its(x:Str):It:=⟨fun i _=>i<x.cps.size,fun i H v H'=>H'=H/\(Ax x)[i]?=some v,fun i _=>x.cps.size<=i⟩
theorem ye(x:Str)(t:Tok)(it:Addr):Turn P w K tg (Its x) [it] it (fun i h=>h.IsStrIter it "str_ascii_iterator" x t i) where
 mem:=by simp
 obj:=fun i h st b hb=>by
  have e:b=it:=by simpa using hb
  subst e;obtain⟨o,e,c,d⟩:=st;exact⟨o,e,fun v z=>by rw[d]at z;cases z⟩
 keep:=fun i h h' st k=>let ⟨o,e,r⟩:=st;⟨o,k it (by simp) o e,r⟩
 item:=by
  intro X hP hw hK hc i pins s U H E I hf st hg;subst hP hw hK;have hi:x.cps[i]?=some x.cps[i]:=Array.getElem?_eq_getElem hg;obtain⟨f0,f1,f2,f3,f4,f5⟩:=hf it (by simp);refine wpAny_pyNext_ascii_item st hi fun h' st' sb=>?_
  obtain⟨o,e,c,d⟩:=id st';refine⟨_,rfl,Ee (s:={ s with heap:=h',toks:=s.toks+1 }) e c d (by decide) ⟨.str ⟨#[x.cps[i]]⟩,H,I.turned (fun b o hb e=>(sb.2 b hb).trans e) f0 f1 f3 f4 f5,⟨_,rfl⟩,⟨rfl,?_⟩,st',fun b hb=>(hf b hb).1⟩⟩;unfold Ax;rw[AO,Array.getElem?_toList,hi];rfl
 done:=by intro X hP hw hK hc i pins s U H E I hf st hg;subst hP hw hK;obtain⟨f0,f1,f2,f3,f4,f5⟩:=hf it (by simp);exact wpAny_pyNext_ascii_end (I.ok.hd hc) st (Array.getElem?_eq_none hg) fun h' eb=>⟨rfl,I.turned (t':=s.toks) (fun b o hb e=>eb b o hb e) f0 f1 f3 f4 f5⟩
 self:=fun _ _ _ _ _ st h=>wpAny_pyIter_striter_ascii st h
def y8g(tl:TE):TI:=fun U H R=>tl U H fun v H1=>∃x:Str,v=.str x/\x.cps.all (·<128)=true/\R (ItS (fun _=>True) (Ax x)) H1
theorem y0t(hl:PE X l tl):PI X tg l (y8g tl):=by
 intro pins s U H R I h;refine thn (hl pins s U H _ I h) fun v s1 z=>?_
 obtain⟨v',H1,I1,r1,x,rfl,ha,q⟩:=z;obtain⟨t,rfl⟩:=r1;have len:(Ax x).length=x.cps.size:=by simp[Ax]
 refine wpAny_pyIter_ascii ha ?_;refine⟨s1.heap.objs.size,[s1.heap.objs.size],_,_,H1,rfl,I1.kept (t':=s1.toks) fun b o e=>ω _ e,(ye x t _).conv ?_ ?_ ?_,⟨_,π _ rfl,rfl,rfl⟩,fun b hb=>?_,q⟩
 . exact fun i H' z=>Nat.lt_of_lt_of_eq z.2 len
 . exact fun i H' v fm _ z=>z
 . exact fun i H' z=>AA (Nat.le_of_eq len.symm) z.2
 . have e:b=s1.heap.objs.size:=by simpa using hb
   subst e;exact I1.fpOk (η _) (I1.hok.fresh (η _))
noncomputable def Ho(x:Str):List D:=x.cps.toList.map fun c=>.str ⟨#[c]⟩
def iS(f:DE->R D):DE->R (List D):=fun ρ=>(f ρ).bind fun d=>match d with
 | .str x=>if x.cps.all (·<128)=true then .ok (Ho x) else .st
 |_=>.st
theorem Xe:∀cs:List Nat,RDs K H (cs.map fun c=>D.str ⟨#[c]⟩) (cs.map fun c=>V.str ⟨#[c]⟩)
 | []=>rfl
 |c::cs=>⟨_,_,rfl,.mkStr _,Xe cs⟩
theorem y0u(hl:QE X EX false l f):QI X EX false tg l (iS f):=⟨(y0t hl.h).imp fun U H Q ⟨sx,ρ,H0,s,e,h⟩=>by
 unfold iS at h;rw[Rk.bind]at h;refine TEd.go sx s e h fun d h v H1 aq s1 e1 r1=>?_
 split at h
 . split at h
   . rename_i ha;cases r1.str;exact⟨_,rfl,ha,h _ H1 aq s1 e1 (Eu (fun _ _=>trivial) (Xe _))⟩
   . exact h.elim
 . exact h.elim⟩
end
section
variable {X:Cx}{K:Frag}
noncomputable def U4:Str->List D->Option D
 |x,[.str y]=>some (.bl (Txt.startswith x y))
 |_,_=>none
def Uq:V->List V->Hp->VK->Prop:=fun v xs H Q=>∃x y,v=.str x/\xs=[.str y]/\Q (.bl (Txt.startswith x y)) H
theorem zn:MtR X "str.startswith" Uq:=by intro pins s U H v xs u us Q I rv r h;obtain⟨x,y,rfl,rfl,q⟩:=h;obtain⟨t,rfl⟩:=rv;obtain⟨w,rfl,t',rfl⟩:=z5 r;exact PySem.SC.startswith ⟨.bl _,H,I,rfl,q⟩
theorem zm:MtD K false U4 Uq:=by
 intro H0 H c xs ds z Q s r ho k;unfold U4 at ho;split at ho<;>first | (cases ho;done) |skip
 cases ho;obtain⟨x,rfl,q1⟩:=r.uno;cases q1.str;exact⟨_,_,rfl,rfl,k _ H (.pure s (.mkBl _))⟩
noncomputable def P1(x:Str)(n:Int):Str:=⟨List.foldl (fun a b=>a++b) #[] (List.replicate n.toNat x.cps)⟩
def qp:R2:=fun x y H Q=>∃i j,x=.str i/\y=.int j/\(i.length=1/\2<=j/\j<=1000/\(P1 i j).length<=16777216)/\Q (.str (P1 i j)) H
def Aw:D->D->Option D
 | .str i,.int j=>if i.length=1/\2<=j/\j<=1000/\(P1 i j).length<=16777216 then some (.str (P1 i j)) else none
 |_,_=>none
theorem y0w:OpR X (binaryOp .Mult) qp:=by
 intro pins s U H x y u v Q I rx ry h;obtain⟨i,j,rfl,rfl,⟨h1,h2,h3,h4⟩,q⟩:=h;obtain⟨t,rfl⟩:=rx;obtain⟨t',rfl⟩:=ry;refine PySem.P.mul_str (by simp only[Bool.or_eq_false_iff,BC];omega) (fun _ _=>?_) (fun _ _=>?_) ?_
 . rw[h1];have:(1:Int)<=(2 ^ 63 - 1) / j:=by refine(Int.le_ediv_iff_mul_le (by omega)).mpr ?_;omega
   omega
 . rw[h1];unfold Builtin.Str.tooLong;have:(1000:Nat)<=sizeLine:=by decide
   simp only[BC];omega
 . rw[ξ (by omega),ξ (by simp[h1];omega)];exact⟨h4,.str (P1 i j),H,I.tok _,⟨_,rfl⟩,q⟩
theorem wq:OpD K false Aw qp:=by
 intro H0 H x y d e z Q s rx ry ho k;unfold Aw at ho;split at ho<;>first | (cases ho;done) |skip
 split at ho<;>first | (cases ho;done) |skip
 rename_i hl;cases ho;cases rx.str;cases ry.int;exact⟨_,_,rfl,rfl,hl,k _ H (.pure s (.mkStr _))⟩
end
section
variable {prog:Program}{w:World}{A:Around}{E:Value->Shared->Prop}{s:Shared}{κ:SortKind}{a₀:Array Keyed}{rk:Keyed->Nat}
noncomputable def tk(rk:Keyed->Nat)(xs:Array Keyed)(i:Nat):Nat:=match xs[i]? with
 |some p=>rk p
 |none=>0
def X1(prog:Program)(w:World)(A:Around)(E:Value->Shared->Prop)(s:Shared)(κ:SortKind)(a₀:Array Keyed)(rk:Keyed->Nat):Prop:=
 ∀x y,x∈a₀->y∈a₀->∀(st:SortSt)(Q:Option Bool->SortSt->Prop),kindOf st=κ->Q (some (decide (rk x<rk y))) st->wpS (model prog w) A E s (lt' x y) Q st
structure TBs(κ:SortKind)(a₀:Array Keyed)(st:SortSt):Prop where
 perm:(arrOf st).Perm a₀
 kind:kindOf st=κ
 ok:failedOf st=none
def TSo(rk:Keyed->Nat)(xs:Array Keyed)(lo hi:Nat):Prop:=∀i j,lo<=i->i<=j->j<hi->tk rk xs i<=tk rk xs j
theorem Du(h:i<xs.size):tk rk xs i=rk xs[i]:=by unfold tk;rw[getElem?_pos xs i h]
theorem Fu(h:xs[i]?=ys[j]?):tk rk xs i=tk rk ys j:=by unfold tk;rw[h]
theorem TBs.size{st:SortSt}(B:TBs κ a₀ st):(arrOf st).size=a₀.size:=B.perm.size_eq
theorem TBs.mem{st:SortSt}(B:TBs κ a₀ st){x:Keyed}(h:x∈arrOf st):x∈a₀:=Array.mem_def.mpr ((Array.perm_iff_toList_perm.mp B.perm).mem_iff.mp (Array.mem_def.mp h))
theorem TBs.set{st:SortSt}(B:TBs κ a₀ st){xs:Array Keyed}(hp:xs.Perm (arrOf st)):TBs κ a₀ (setArr st xs):=⟨hp.trans B.perm,B.kind,B.ok⟩
theorem Sf{st:SortSt}{xs:Array Keyed}{i:Nat}{Q:Keyed->SortSt->Prop}(h:i<xs.size)(q:Q xs[i] st):wpS (model prog w) A E s (elem' xs i) Q st:=by rw[elem'_eq,getElem?_pos xs i h];exact wpS_pure q
theorem V9(hc:X1 prog w A E s κ a₀ rk){st:SortSt}(B:TBs κ a₀ st){i j:Nat}(hi:i<a₀.size)(hj:j<a₀.size){Q:Option Bool->SortSt->Prop}
  (h:Q (some (decide (tk rk (arrOf st) i<tk rk (arrOf st) j))) st):wpS (model prog w) A E s (ltAt' i j) Q st:=by
 rw[ltAt'_eq]
 have nJ:i<(arrOf st).size:=by rw[B.size];exact hi
 have nK:j<(arrOf st).size:=by rw[B.size];exact hj
 rw[Du nJ,Du nK]at h
 refine δ (wpS_get (δ (Sf nJ (δ (Sf nK ?_)))))
 exact hc _ _ (B.mem (Array.getElem_mem _)) (B.mem (Array.getElem_mem _)) st Q B.kind h
theorem Mm(hj:j<=xs.size)(k:Nat):tk rk (mirror xs i j ((j - i) / 2)) k=if i<=k/\k<j then tk rk xs (i+j - 1 - k) else tk rk xs k:=by
 by_cases h:i<=k/\k<j<;>simp only[h,BM,BK]<;>refine Fu ?_<;>rw[getElem?_mirror_all hj]
 . rw[ζ h]
 . rw[ξ h]
theorem zl(hs:dJ<xs.size)(hd:d<=dJ)(k:Nat) :
  tk rk (bubble xs dJ d) k=if k=dJ - d then tk rk xs dJ else if dJ - d<k/\k<=dJ then tk rk xs (k - 1) else tk rk xs k:=by
 have e:=getElem?_bubble hs d hd k
 by_cases h1:k=dJ - d
 . rw[ζ h1]at e⊢;exact Fu e
 . rw[ξ h1]at e⊢;by_cases h2:dJ - d<k/\k<=dJ
   . rw[ζ h2]at e⊢;exact Fu e
   . rw[ξ h2]at e⊢;exact Fu e
theorem Lv(hj:j<=xs.size)(ha:∀k,i<=k->k<j->tk rk xs k=tk rk xs (j - 1))(k:Nat):tk rk (mirror xs i j ((j - i) / 2)) k=tk rk xs k:=by
 rw[Mm hj];by_cases h:i<=k/\k<j
 . rw[ζ h,ha (i+j - 1 - k) (by omega) (by omega),ha k h.1 h.2]
 . rw[ξ h]
theorem TSo.step{xs:Array Keyed}{lo n:Nat}(h:TSo rk xs lo (lo+n))(h1:1<=n)(hn:tk rk xs (lo+n - 1)<=tk rk xs (lo+n)):TSo rk xs lo (lo+(n+1)):=fun i j h0 iV h2=>by
 by_cases hj:j=lo+n
 . subst hj;by_cases hi:i=lo+n
   . rw[hi];exact η _
   . exact AA (h i (lo+n - 1) h0 (by lia) (by lia)) hn
 . exact h i j h0 iV (by lia)
theorem TSo.one(lo:Nat):TSo rk xs lo (lo+1):=fun i j h0 h1 h2=>by
 obtain rfl:i=j:=by lia
 exact η _
structure TL(st st':SortSt)(lo:Nat):Prop where
 low:∀k,k<lo->(arrOf st')[k]?=(arrOf st)[k]?
 pend:pendingOf st'=pendingOf st
theorem TL.refl(st:SortSt)(lo:Nat):TL st st lo:=⟨fun _ _=>rfl,rfl⟩
theorem TL.trans{a b c:SortSt}{lo:Nat}(h:TL a b lo)(k:TL b c lo):TL a c lo:=⟨fun i hi=>(k.low i hi).trans (h.low i hi),k.pend.trans h.pend⟩
theorem TL.mirror{st:SortSt}{lo i j:Nat}(hi:lo<=i)(hj:j<=(arrOf st).size):TL st (setArr st (mirror (arrOf st) i j ((j - i) / 2))) lo:=
 ⟨fun k hk=>by show(PyProof.Rows.mirror (arrOf st) i j ((j - i) / 2))[k]?=_;rw[getElem?_mirror_all hj,ξ (by lia)],rfl⟩
theorem Dt{st:SortSt}{i j:Nat}{Q:Unit->SortSt->Prop}(h:Q () (setArr st (mirror (arrOf st) i j ((j - i) / 2)))):wpS (model prog w) A E s (reverseSlice' i j) Q st:=by rw[reverseSlice'_eq];exact wpS_modify h
theorem TSo.ups'{xs:Array Keyed}{lo a:Nat}(h:TSo rk xs lo (lo+a))(ha:1<=a):∀{n:Nat},a<=n->(∀i,a<=i->i<n->tk rk xs (lo+i - 1)<=tk rk xs (lo+i))->TSo rk xs lo (lo+n)
 | 0,z,_=>by lia
 |n+1,z,up=>by
  by_cases e:a=n+1
  . rw[<-e];exact h
  . exact(TSo.ups' h ha (n:=n) (by lia) fun i a b=>up i a (by lia)).step (by lia) (up n (by lia) (by lia))
theorem TSo.ups{xs:Array Keyed}{lo n:Nat}(h:TSo rk xs lo (lo+1))(hn:1<=n)(up:∀i,1<=i->i<n->tk rk xs (lo+i - 1)<=tk rk xs (lo+i)):TSo rk xs lo (lo+n):=h.ups' (η _) hn up
theorem Se{U:Type}{r:String}{Q:Unit->U->Prop}{st:U}(h:Q () st):wpS (model prog w) A E s (liftM (rule r):StateT U Sem Unit) Q st:=wpS_lift (wpAny_rule ⟨rfl,h⟩)
theorem ke(mk:Nat->β)(st:U)(down:Nat->Bool)(eo:a<=b)
  (go:∀x n (Q:ForInStep β->U->Prop),a<=n->n<b->Q (if down n=true then .done (mk n) else .yield (mk (n+1))) st->wpS (model prog w) A E s (f x (mk n)) Q st)
  (h:∀n,a<=n->n<=b->(∀i,a<=i->i<n->down i=false)->(n<b->down n=true)->Q (mk n) st):wpS (model prog w) A E s (forIn [a:b] (mk a) f) Q st:=by
 refine wpS_forRange (I:=fun x c u=>u=st/\c=mk x/\∀i,a<=i->i<x->down i=false) (fun x c u hx hb hI=>?_) (fun c u hI=>?_) ⟨rfl,rfl,fun i y z=>by lia⟩
 . obtain⟨rfl,rfl,up⟩:=hI;refine go x x _ hx hb ?_;cases hd:down x
   . exact⟨rfl,rfl,fun i y z=>by
      by_cases e:i=x
      . rw[e];exact hd
      . exact up i y (by lia)⟩
   . exact h x hx (DF hb) up fun _=>hd
 . obtain⟨rfl,rfl,up⟩:=hI;rw[Nat.max_eq_right eo]at up⊢;exact h b eo (η _) up fun z=>absurd z (CH _)
theorem y0x(mk:Nat->Nat->β)(st:U)(dj:Nat->Nat->Nat)(p:Nat->Bool)(mw:∀l r,l<r->l<=dj l r/\dj l r<r)
  (go:∀x l r (Q:ForInStep β->U->Prop),l0<=l->l<r->r<=r0->Q (.yield (if p (dj l r)=true then mk (dj l r+1) r else mk l (dj l r))) st->wpS (model prog w) A E s (f x (mk l r)) Q st)
  (stop:∀x l (Q:ForInStep β->U->Prop),l<=r0->Q (.done (mk l l)) st->wpS (model prog w) A E s (f x (mk l l)) Q st)
  (mono:∀i j,l0<=i->i<=j->j<r0->p j=true->p i=true) (hl:l0<=r0) (hN:r0<=l0+N)
  (h:∀k,l0<=k->k<=r0->(∀i,l0<=i->i<k->p i=true)->(∀i,k<=i->i<r0->p i=false)->Q (mk k k) st):wpS (model prog w) A E s (forIn [0:N] (mk l0 r0) f) Q st:=by
 have key:∀l r,l0<=l->l<=r->r<=r0->(∀i,l0<=i->i<l->p i=true)->(∀i,r<=i->i<r0->p i=false)->l=r->Q (mk l r) st:=fun l r a b c d e z=>by subst z;exact h l a c d e
 refine wpS_forRange (I:=fun x c u=>u=st/\∃l r,(l0<=l/\l<=r/\r<=r0/\r+x<=l+N)/\c=mk l r/\(∀i,l0<=i->i<l->p i=true)/\∀i,r<=i->i<r0->p i=false)
  (fun x c u _ hb hI=>?_) (fun c u hI=>?_) ⟨rfl,l0,r0,⟨η _,hl,η _,by lia⟩,rfl,fun i a b=>by lia,fun i a b=>by lia⟩
 . obtain⟨rfl,l,r,⟨b1,b2,b3,b4⟩,rfl,lt,gt⟩:=hI;by_cases e:l=r
   . subst e;exact stop x l _ b3 (key l l b1 b2 b3 lt gt rfl)
   . have hm:=mw l r (by lia);refine go x l r _ b1 (by lia) b3 ?_;cases hp:p (dj l r)
     . exact⟨rfl,l,dj l r,⟨b1,hm.1,by lia,by lia⟩,rfl,lt,fun i a b=>by
        cases hi:p i
        . rfl
        . rw[mono (dj l r) i (by lia) a b hi]at hp;cases hp⟩
     . exact⟨rfl,dj l r+1,r,⟨by lia,by lia,b3,by lia⟩,rfl,fun i a b=>mono i (dj l r) a (by lia) (by lia) hp,gt⟩
 . obtain⟨rfl,l,r,⟨b1,b2,b3,b4⟩,rfl,lt,gt⟩:=hI;exact key l r b1 b2 b3 lt gt (by simp only[Nat.zero_max]at b4;lia)
theorem Up{α:Type}{Q:α->SortSt->Prop}{st:SortSt}{p:Prop}[Decidable p]{t g:StateT SortSt Sem α}(R:SortSt->Prop)(hg:∀u,R u->wpS (model prog w) A E s g Q u)(ht:p->(∀u,R u->wpS (model prog w) A E s g Q u)->wpS (model prog w) A E s t Q st)(hn:¬p->R st):wpS (model prog w) A E s (if p then t else g) Q st:=by
 split
 . exact ht ‹_› hg
 . exact hg _ (hn ‹_›)
theorem wo(hc:X1 prog w A E s κ a₀ rk){st:SortSt}(B:TBs κ a₀ st){lo bX:Nat}(hz:lo+bX<=a₀.size)(h1:1<=bX){Q:Option Nat->SortSt->Prop}
  (h:∀n st',1<=n->n<=bX->TBs κ a₀ st'->TL st st' lo->TSo rk (arrOf st') lo (lo+n)->Q (some n) st'):wpS (model prog w) A E s (countRun' lo bX) Q st:=by
 rw[countRun'_eq]
 refine δ (ke (fun n=>(none,n)) st (fun n=>decide (tk rk (arrOf st) (lo+n)<tk rk (arrOf st) (lo+n - 1))) h1 (fun x n Q a b q=>δ (V9 hc B (by lia) (by lia) ?_)) fun n lB eJ up dn=>?_)
 . by_cases hl:tk rk (arrOf st) (lo+n)<tk rk (arrOf st) (lo+n - 1)
   . simp only[hl,DM,BM]at q⊢;exact wpS_pure q
   . simp only[hl,DQ,AF,BK]at q⊢;exact wpS_pure q
 have hs:=TSo.ups (n:=n) (TSo.one (rk:=rk) (xs:=arrOf st) lo) lB fun i a b=>by have:=up i a b;simp only[BC]at this;lia
 have hd:n<bX->tk rk (arrOf st) (lo+n)<tk rk (arrOf st) (lo+n - 1):=fun z=>by simpa using dn z
 dsimp only
 by_cases nM:n=bX
 . rw[ζ (by simp[nM])];exact wpS_pure (h n _ lB eJ B (.refl _ _) hs)
 rw[ξ (by simp[nM])]
 have cG:=hd (by lia)
 have fL:∀(xs:Array Keyed),TSo rk xs lo (lo+n)->¬tk rk xs lo<tk rk xs (lo+n - 1)->∀k,lo<=k->k<lo+n->tk rk xs k=tk rk xs (lo+n - 1):=fun xs hs hr k h0 h1=>by
  have a:=hs lo k (η _) h0 h1;have b:=hs k (lo+n - 1) h0 (by lia) (by lia)
  lia
 have lC:∀(xs:Array Keyed),(∀k,lo<=k->k<lo+n->tk rk xs k=tk rk xs (lo+n - 1))->tk rk xs (lo+n)<tk rk xs (lo+n - 1)->∀i j,lo<=i->i<=j->j<lo+(n+1)->tk rk xs j<=tk rk xs i:=fun xs fl hd i j h0 h1 h2=>by
  by_cases hj:j=lo+n
  . subst hj;by_cases hi:i=lo+n
    . rw[hi];exact η _
    . rw[fl i h0 (by lia)];lia
  . rw[fl i h0 (by lia),fl j (by lia) (by lia)];exact η _
 refine Up (fun u=>TBs κ a₀ u/\TL st u lo/\∀i j,lo<=i->i<=j->j<lo+(n+1)->tk rk (arrOf u) j<=tk rk (arrOf u) i) (fun uR z=>?_) (fun hn J=>?_) fun hn=>⟨B,.refl _ _,lC _ (fL _ hs (by rw[show lo+n - 1=lo by lia];exact CH _)) cG⟩
 rotate_left
 . refine δ (V9 hc B (by lia) (by lia) ?_);by_cases hr:tk rk (arrOf st) lo<tk rk (arrOf st) (lo+n - 1)
   . rw[decide_eq_true hr];dsimp only;rw[ζ rfl];exact wpS_pure (h n _ lB eJ B (.refl _ _) hs)
   rw[decide_eq_false hr];dsimp only;rw[ξ θ];have nN:lo+n<=(arrOf st).size:=by rw[B.size];lia
   have fl:=fL _ hs hr;have ea:=Lv nN fl;exact δ (Dt (J _ ⟨B.set (mirror_perm _ _ _ _),.mirror (η _) nN,fun i j h0 h1 h2=>by show tk rk (mirror (arrOf st) _ _ _) j<=tk rk (mirror (arrOf st) _ _ _) i;rw[ea,ea];exact lC _ fl cG i j h0 h1 h2⟩))
 clear fL lC hd cG hs up dn
 obtain⟨B1,L1,ni⟩:=z
 refine δ (Se ?_)
 refine δ (wpS_mono (wpS_forRange (I:=fun x c aL=>TBs κ a₀ aL/\TL st aL lo/\∃q,c=(none,x,q)/\q+1<=x/\(∀i j,lo<=i->i<=j->j<lo+x->tk rk (arrOf aL) j<=tk rk (arrOf aL) i)/\∀k,lo+x - (q+1)<=k->k<lo+x->tk rk (arrOf aL) k=tk rk (arrOf aL) (lo+x - 1))
  (Q:=fun c aL=>TBs κ a₀ aL/\TL st aL lo/\∃x q,c=(none,x,q)/\1<=x/\x<=bX/\q+1<=x/\(∀i j,lo<=i->i<=j->j<lo+x->tk rk (arrOf aL) j<=tk rk (arrOf aL) i)/\∀k,lo+x - (q+1)<=k->k<lo+x->tk rk (arrOf aL) k=tk rk (arrOf aL) (lo+x - 1)) ?step ?fin ⟨B1,L1,0,rfl,by lia,ni,fun k h0 h1=>by rw[show k=lo+(n+1) - 1 by lia]⟩) ?post)
 case fin=>
  rintro c aL ⟨B2,L2,q,rfl,hq,dL,al⟩
  rw[show max (n+1) bX=bX by lia]at *
  exact⟨B2,L2,bX,q,rfl,h1,η _,hq,dL,al⟩
 case post=>
  rintro c aL ⟨B2,L2,x,q,rfl,nH,fy,hq,dL,al⟩
  have gw:lo+x<=(arrOf aL).size:=by rw[B2.size];lia
  dsimp only
  refine Up (fun u=>TBs κ a₀ u/\TL st u lo/\∀i j,lo<=i->i<=j->j<lo+x->tk rk (arrOf u) j<=tk rk (arrOf u) i) (fun de z=>?_) (fun lD J=>?_) fun _=>⟨B2,L2,dL⟩
  rotate_left
  . have ea:=Lv gw al;exact δ (Dt (J _ ⟨B2.set (mirror_perm _ _ _ _),L2.trans (.mirror (by lia) gw),fun i j h0 h1 h2=>by show tk rk (mirror (arrOf aL) _ _ _) j<=tk rk (mirror (arrOf aL) _ _ _) i;rw[ea,ea];exact dL i j h0 h1 h2⟩))
  obtain⟨B3,L3,rV⟩:=z
  have lE:lo+x<=(arrOf de).size:=by rw[B3.size];lia
  refine δ (Dt ?_)
  obtain⟨cz,e4⟩:∃cz,cz=setArr de (mirror (arrOf de) lo (lo+x) ((lo+x - lo) / 2)):=⟨_,rfl⟩
  have B4:TBs κ a₀ cz:=e4 ▸ B3.set (mirror_perm _ _ _ _)
  have L4:TL st cz lo:=e4 ▸ L3.trans (.mirror (η _) lE)
  have s0:TSo rk (arrOf cz) lo (lo+x):=fun i j h0 h1 h2=>by rw[e4];show tk rk (mirror (arrOf de) lo (lo+x) _) i<=tk rk (mirror (arrOf de) lo (lo+x) _) j;rw[Mm lE,Mm lE,ζ (by lia),ζ (by lia)];exact rV _ _ (by lia) (by lia) (by lia)
  rw[<-e4]
  clear e4
  refine δ (ke (fun n=>(none,n)) cz (fun n=>decide (tk rk (arrOf cz) (lo+n)<tk rk (arrOf cz) (lo+n - 1))) fy (fun y m Q a b q=>δ (V9 hc B4 (by lia) (by lia) ?_)) fun m rW lF up _=>?_)
  . by_cases hl:tk rk (arrOf cz) (lo+m)<tk rk (arrOf cz) (lo+m - 1)
    . simp only[hl,DM,BM]at q⊢;exact wpS_pure q
    . simp only[hl,DQ,AF,BK]at q⊢;exact wpS_pure q
  . dsimp only;refine wpS_pure (h m _ (by lia) lF B4 L4 (s0.ups' nH rW fun i a b=>?_));have:=up i a b;simp only[BC]at this
    lia
 case step=>
  rintro x c aL uS uT ⟨B2,L2,q,rfl,hq,dL,al⟩
  have gw:lo+x<=(arrOf aL).size:=by rw[B2.size];lia
  dsimp only
  refine δ (V9 hc B2 (by lia) (by lia) ?_)
  have ext:∀(xs:Array Keyed),(∀i j,lo<=i->i<=j->j<lo+x->tk rk xs j<=tk rk xs i)->tk rk xs (lo+x)<=tk rk xs (lo+x - 1)->∀i j,lo<=i->i<=j->j<lo+(x+1)->tk rk xs j<=tk rk xs i:=fun xs nx hx i j h0 h1 h2=>by
   by_cases hj:j=lo+x
   . subst hj;by_cases hi:i=lo+x
     . rw[hi];exact η _
     . exact AA hx (nx i (lo+x - 1) h0 (by lia) (by lia))
   . exact nx i j h0 h1 (by lia)
  by_cases hl:tk rk (arrOf aL) (lo+x)<tk rk (arrOf aL) (lo+x - 1)
  . simp only[hl,DM,BM];by_cases lD:q > 0
    . rw[ζ lD];have ea:=Lv gw al;refine δ (Dt (wpS_pure ⟨B2.set (mirror_perm _ _ _ _),L2.trans (.mirror (by lia) gw),0,rfl,by lia,ext _ (fun i j h0 h1 h2=>?_) ?_,fun k h0 h1=>by rw[show k=lo+(x+1) - 1 by lia]⟩))
      . show tk rk (mirror (arrOf aL) _ _ _) j<=tk rk (mirror (arrOf aL) _ _ _) i;rw[ea,ea];exact dL i j h0 h1 h2
      . show tk rk (mirror (arrOf aL) _ _ _) _<=tk rk (mirror (arrOf aL) _ _ _) _;rw[ea,ea];exact DF hl
    . rw[ξ lD];exact wpS_pure ⟨B2,L2,0,rfl,by lia,ext _ dL (DF hl),fun k h0 h1=>by rw[show k=lo+(x+1) - 1 by lia]⟩
  . simp only[hl,DQ,AF,BK];refine δ (V9 hc B2 (by lia) (by lia) ?_);by_cases hg:tk rk (arrOf aL) (lo+x - 1)<tk rk (arrOf aL) (lo+x)
    . simp only[hg,DM,BM];exact wpS_pure ⟨B2,L2,x,q,rfl,by lia,by lia,hq,dL,al⟩
    . simp only[hg,DQ,AF,BK];refine wpS_pure ⟨B2,L2,q+1,rfl,by lia,ext _ dL (by lia),fun k h0 h1=>?_⟩;rw[show lo+(x+1) - 1=lo+x by lia];by_cases hk:k=lo+x
      . rw[hk]
      . rw[al k (by lia) (by lia)];lia
theorem TSo.down{xs:Array Keyed}{lo k l:Nat}(hz:lo+k<xs.size)(hl:l<=k)(hs:TSo rk xs lo (lo+k))(below:∀i,i<l->tk rk xs (lo+i)<=tk rk xs (lo+k))(above:∀i,l<=i->i<k->tk rk xs (lo+k)<tk rk xs (lo+i)) :
  TSo rk (bubble xs (lo+k) (lo+k - (lo+l))) lo (lo+(k+1)):=fun i j h0 nO hj=>by
 obtain⟨i,rfl⟩:∃i',i=lo+i':=⟨i - lo,by lia⟩
 obtain⟨j,rfl⟩:∃j',j=lo+j':=⟨j - lo,by lia⟩
 have val:∀m,m<=k->tk rk (bubble xs (lo+k) (lo+k - (lo+l))) (lo+m)=if m<l then tk rk xs (lo+m) else if m=l then tk rk xs (lo+k) else tk rk xs (lo+(m - 1)):=fun m hm=>by
  rw[zl hz (by lia)];by_cases a:m<l
  . rw[ξ (by lia),ξ (by lia),ζ a]
  . by_cases b:m=l
    . rw[ζ (by lia),ξ a,ζ b]
    . rw[ξ (by lia),ζ (by lia),ξ a,ξ b,show lo+m - 1=lo+(m - 1) by lia]
 have st:∀a b,a<=b->b<k->tk rk xs (lo+a)<=tk rk xs (lo+b):=fun a b u v=>hs _ _ (by lia) (by lia) (by lia)
 rw[val i (by lia),val j (by lia)]
 by_cases a:j<l
 . rw[ζ a,ζ (by lia)];exact st i j (by lia) (by lia)
 . rw[ξ a];by_cases b:i<l
   . rw[ζ b];by_cases c:j=l
     . rw[ζ c];exact below i b
     . rw[ξ c];exact st i (j - 1) (by lia) (by lia)
   . rw[ξ b];by_cases c:i=l
     . rw[ζ c];by_cases d:j=l
       . rw[ζ d];exact η _
       . rw[ξ d];exact DF (above _ (by lia) (by lia))
     . rw[ξ c,ξ (by lia)];exact st _ _ (by lia) (by lia)
theorem y5c(hc:X1 prog w A E s κ a₀ rk){st:SortSt}(B:TBs κ a₀ st){lo n ok:Nat}(hz:lo+n<=a₀.size)(h1:1<=ok)(hok:ok<=n)(hs:TSo rk (arrOf st) lo (lo+ok)){Q:Bool->SortSt->Prop}
  (h:∀u,TBs κ a₀ u->TL st u lo->TSo rk (arrOf u) lo (lo+n)->Q true u):wpS (model prog w) A E s (binarySort' lo n ok) Q st:=by
 rw[binarySort'_eq,Nat.max_eq_left h1]
 refine δ (wpS_mono (wpS_forRange (I:=fun k c u=>c=(none,())/\TBs κ a₀ u/\TL st u lo/\TSo rk (arrOf u) lo (lo+k))
  (Q:=fun c u=>c=(none,())/\TBs κ a₀ u/\TL st u lo/\TSo rk (arrOf u) lo (lo+n)) (fun k c u ha hb hI=>?_) (fun c u hI=>by rwa [Nat.max_eq_right hok]at hI) ⟨rfl,B,.refl _ _,hs⟩) fun c u hI=>?_)
 . obtain⟨rfl,B1,L1,hs⟩:=hI;have nP:lo+k<(arrOf u).size:=by rw[B1.size];lia
   refine δ (y0x (fun l r=>(none,l,r)) u (fun l r=>(l+r) / 2) (fun i=>decide (tk rk (arrOf u) (lo+i)<=tk rk (arrOf u) (lo+k))) (fun l r _=>by lia) (fun x l r Q a b c q=>?_) (fun x l Q _ q=>?_) (fun i j _ a b c=>?_) (BU _) (by lia) fun l _ hl lt gt=>?_)
   . dsimp only;rw[ξ (by lia)];refine δ (V9 hc B1 (by lia) (by lia) ?_);by_cases z:tk rk (arrOf u) (lo+k)<tk rk (arrOf u) (lo+(l+r) / 2)
     . simp only[z,Nat.not_le.mpr z,DM,DQ,AF,BM,BK]at q⊢;exact wpS_pure q
     . simp only[z,Nat.not_lt.mp z,DM,DQ,AF,BM,BK]at q⊢;exact wpS_pure q
   . dsimp only;rw[ζ (η _)];exact wpS_pure q
   . simp only[AW]at c⊢;exact AA (hs _ _ (by lia) (by lia) (by lia)) c
   . dsimp only;rw[moveDown'_eq];refine δ (wpS_modify (wpS_pure ⟨rfl,B1.set (bubble_perm _ _ _),L1.trans ⟨fun j hj=>?_,rfl⟩,?_⟩))
     . show(bubble (arrOf u) (lo+k) (lo+k - (lo+l)))[j]?=_;rw[getElem?_bubble nP _ (by lia),ξ (by lia),ξ (by lia)]
     . exact TSo.down nP hl hs (fun i a=>by simpa using lt i (BU _) a) fun i a b=>by simpa using gt i a b
 . obtain⟨rfl,B1,L1,hs⟩:=hI;exact wpS_pure (h u B1 L1 hs)
end
abbrev Asc(rk:Keyed->Nat)(l:List Keyed):Prop:=l.Pairwise fun x y=>rk x<=rk y
section
variable {rk:Keyed->Nat}
theorem y0y{xs:Array Keyed}(h:TSo rk xs 0 xs.size):Asc rk xs.toList:=by
 refine List.pairwise_iff_getElem.mpr fun i j hi hj nO=>?_
 simp only[BB]at hi hj;have:=h i j (BU _) (DF nO) hj;rw[Du hi,Du hj]at this;simpa using this
theorem y0z:∀n,n<64->minRun' n n 0=n:=by decide
end
section
variable {prog:Program}{w:World}{E:Value->Shared->Prop}{s:Shared}{A:Around}{κ:SortKind}{a₀:Array Keyed}{rk:Keyed->Nat}
theorem wm{α:Type}{Q:α->SortSt->Prop}{C:Nat->SortSt->Prop}{p:Nat->Prop}{dp:∀n,Decidable (p n)}{t g:Nat->StateT SortSt Sem α}(R:Nat->SortSt->Prop)(hg:∀m u,R m u->wpS (model prog w) A E s (g m) Q u)(ht:∀n u,C n u->p n->(∀m u,R m u->wpS (model prog w) A E s (g m) Q u)->wpS (model prog w) A E s (t n) Q u)(hn:∀n u,C n u->¬p n->R n u):∀n u,C n u->wpS (model prog w) A E s (if p n then t n else g n) Q u:=by
 intro n u c;by_cases h:p n
 . rw[ζ h];exact ht n u c h hg
 . rw[ξ h];exact hg _ _ (hn n u c h)
theorem y10(hc:X1 prog w A E s κ a₀ rk){st:SortSt}(B:TBs κ a₀ st)(h2:2<=a₀.size)(fz:a₀.size<64)(hp:pendingOf st=#[]){Q:Unit->SortSt->Prop}(h:∀u,TBs κ a₀ u->Asc rk (arrOf u).toList->Q () u):wpS (model prog w) A E s sortRuns' Q st:=by
 rw[sortRuns'_eq];refine δ (wpS_get ?_);dsimp only;rw[B.size];refine δ (wpS_mono (wpS_forRange (I:=fun x c u=>TBs κ a₀ u/\((x=0/\c=(none,0)/\pendingOf u=#[])\/(c=(none,a₀.size)/\TSo rk (arrOf u) 0 a₀.size/\(pendingOf u).size<=1)))
  (Q:=fun c u=>TBs κ a₀ u/\c=(none,a₀.size)/\TSo rk (arrOf u) 0 a₀.size/\(pendingOf u).size<=1) ?step ?fin ⟨B,.inl ⟨rfl,rfl,hp⟩⟩) ?post)
 case fin=>
  rintro c u ⟨B1,⟨q,_⟩ |q⟩
  . exact absurd q (by simp only[Nat.zero_max];lia)
  . exact⟨B1,q⟩
 case post=>
  rintro c u ⟨B1,rfl,so,z⟩
  dsimp only
  refine δ (wpS_mono (wpS_forRange (I:=fun x c v=>c=(none,())/\v=u) (Q:=fun c v=>c=(none,())/\v=u) (fun x c v _ _ hI=>?_) (fun c v hI=>hI) ⟨rfl,rfl⟩) fun c v hI=>?_)
  . obtain⟨rfl,rfl⟩:=hI;refine δ (wpS_get ?_);rw[ζ z];exact wpS_pure ⟨rfl,rfl⟩
  . obtain⟨rfl,rfl⟩:=hI;exact wpS_pure (h v B1 (y0y (by rw[B1.size];exact so)))
 case step=>
  rintro x c u _ _ ⟨B1,⟨_,rfl,hp⟩ |⟨rfl,so,z⟩⟩
  rotate_left
  . dsimp only;rw[ζ (η _)];exact wpS_pure ⟨B1,rfl,so,z⟩
  dsimp only
  rw[ξ (by lia),y0z _ fz]
  refine δ (wo hc B1 (by lia) (by lia) fun n u1 n1 n2 B2 L2 so=>?_)
  dsimp only
  have hh:=And.intro n1 (And.intro n2 (And.intro B2 (And.intro L2 so)))
  clear n1 n2 B2 L2 so
  revert n u1
  refine wm (fun m u2=>m=a₀.size/\TSo rk (arrOf u2) 0 m/\TBs κ a₀ u2/\TL u u2 0) (fun m u2 hR=>?_) (fun n u1 ⟨n1,n2,B2,L2,so⟩ hn k=>?_) fun n u1 ⟨n1,n2,B2,L2,so⟩ hn=>⟨by lia,by simpa using so,B2,L2⟩
  rotate_left
  . refine δ (Se ?_);refine δ (y5c hc B2 (n:=min (a₀.size - 0) a₀.size) (by lia) n1 (by lia) so fun u2 B3 L3 so2=>?_);rw[ξ (by simp)];exact k _ _ ⟨by lia,by simpa using so2,B3,L2.trans L3⟩
  . obtain⟨rfl,so3,B3,L4⟩:=hR;refine δ (wpS_get ?_);have cy:pendingOf u2=#[]:=L4.pend.trans hp;rw[cy];show wpS (model prog w) A E s _ _ u2;refine δ (wpS_modify (wpS_pure ?_));refine⟨⟨B3.perm,B3.kind,B3.ok⟩,.inr ⟨by simp,so3,?_⟩⟩;show((pendingOf u2).push _).size<=1;rw[cy];simp
end
section
variable {prog:Program}{w:World}{E:Value->Shared->Prop}{s:Shared}{A:Around}
noncomputable def D5(h:Heap)(a:Addr)(vs:List Value):Heap:=((h.update a (Obj.mapSeq fun _=>#[])).push (seqObj "tuple" vs.toArray 0)).push (seqObj "list" #[] 0)
theorem Yq(ho:h.get? a=some (seqObj "list" vs.toArray n)) :
  ∃k,(h.update a (Obj.mapSeq fun _=>#[])).get? a=some (seqObj "list" #[] k)/\(D5 h a vs).get? a=some (seqObj "list" #[] k):=
 ⟨_,get?_update_seq ho fun _=>#[],ω _ (ω _ (get?_update_seq ho fun _=>#[]))⟩
theorem yd(ho:s.heap.get? a=some (seqObj "list" vs.toArray n))(h2:2<=vs.length)(fz:vs.length<64)(hz:vs.length<=sizeLine)
  (gx:∀(Q:SortKind->Shared->Prop),Q κ { s with heap:=D5 s.heap a vs }->wpAny (model prog w) A (keyKind' vs.toArray) Q E { s with heap:=D5 s.heap a vs })
  (hc:X1 prog w A E { s with heap:=D5 s.heap a vs } κ (pairsOf vs) rk)
  (h:∀out:Array Keyed,out.Perm (pairsOf vs)->Asc rk out.toList->P (.done (.ret .none)) { s with heap:=sortedHeap s.heap a vs (out.map (·.2)) }):wpAny (model prog w) A (Builtin.«list.sort» ⟨[.ref a],[]⟩) P E s:=by
 obtain⟨k,k1,k2⟩:=Yq ho
 have nn:¬vs.toArray.size<2:=by rw[AB];lia
 rw[list_sort_plain]
 refine χ (listItems_at ho rfl (χ (listUpdate_at ho rfl (χ (seqEpoch_at k1 rfl (χ (wpAny_newTuple (χ (wpAny_newList (BY ?_) (BU _))) hz)))) (by rw[AB];exact hz) (BU _))))
 show wpAny (model prog w) A _ P E { s with heap:=D5 s.heap a vs }
 rw[ξ nn,ξ nn]
 refine χ (gx _ (χ (AJ (y10 (st:=SortSt.mk' κ (pairsOf vs) #[] 7 none) hc ⟨.refl _,rfl,rfl⟩ (by rw[pairsOf_size];exact h2) (by rw[pairsOf_size];exact fz) rfl (Q:=fun _ u=>TBs κ (pairsOf vs) u/\Asc rk (arrOf u).toList) fun u B a=>⟨B,a⟩) ?_ fun _ _ x=>x)))
 rintro⟨⟨⟩,u⟩ s' ⟨rfl,B,hA⟩
 refine χ (seqEpoch_at k2 rfl (χ (listUpdate_at k2 rfl ?_ (BU _) (by rw[Array.size_map,B.size,pairsOf_size];exact Nat.le_succ_of_le hz))))
 rw[B.ok,bne_self_eq_false]
 exact γ (h _ B.perm hA)
noncomputable def F1(h:Heap)(vs:List Value):Heap:=((h.push (seqObj "list" #[] 0)).update h.objs.size (Obj.mapSeq (·++vs.toArray))).push (seqObj "list" vs.toArray 0)
theorem Ml(h:Heap)(vs:List Value):(F1 h vs).get? (h.objs.size+1)=some (seqObj "list" vs.toArray 0):=by
 have e:((h.push (seqObj "list" #[] 0)).update h.objs.size (Obj.mapSeq (·++vs.toArray))).objs.size=h.objs.size+1:=(EF _ _ _).trans (size_push' _ _);unfold F1
 conv=>lhs;arg 2;rw[<-e]
 exact π _ rfl
theorem zjd(q:h.get? b=some o):(D5 (F1 h vs) (h.objs.size+1) vs).get? b=some o:=by have lt:b<h.objs.size:=τ q;refine ω _ (ω _ ?_);rw[Heap.get?_update_ne _ _ _ _ (AG (Nat.lt_add_right 1 lt))];refine ω _ ?_;rw[Heap.get?_update_ne _ _ _ _ (AG lt)];exact ω _ q
theorem zZ(hl:s.heap.IsList l vs.toArray)(h2:2<=vs.length)(fz:vs.length<64)(hz:vs.length<=sizeLine)
  (gx:∀(Q:SortKind->Shared->Prop),Q κ { s with heap:=D5 (F1 s.heap vs) (s.heap.objs.size+1) vs }->wpAny (model prog w) A.in1.in1 (keyKind' vs.toArray) Q (fun _ _=>False) { s with heap:=D5 (F1 s.heap vs) (s.heap.objs.size+1) vs })
  (hc:X1 prog w A.in1.in1 (fun _ _=>False) { s with heap:=D5 (F1 s.heap vs) (s.heap.objs.size+1) vs } κ (pairsOf vs) rk)
  (h:∀out:Array Keyed,out.Perm (pairsOf vs)->Asc rk out.toList->Q (.ref (s.heap.objs.size+1)) { s with heap:=sortedAll s.heap vs (out.map (·.2)) }):wpAny (model prog w) A (call (.builtin "sorted") [.ref l]) Q E s:=by
 have e:((s.heap.push (seqObj "list" #[] 0)).update s.heap.objs.size (Obj.mapSeq (·++vs.toArray))).objs.size=s.heap.objs.size+1:=(EF _ _ _).trans (size_push' _ _)
 have b:=yd (s:={ s with heap:=F1 s.heap vs }) (E:=fun _ _=>False) (P:=fun f s'=>∃x,f=.done (.ret x)/\Q (.ref (s.heap.objs.size+1)) s') (Ml s.heap vs) h2 fz hz gx hc fun out p a=>⟨_,rfl,h out p a⟩
 apply Calls.call_function_entry kind_sorted plain_sorted entry_sorted (args_sorted1 (.ref l))
 unfold Builtin.«sorted»
 refine χ (m:=checkCount "sorted" 1 1 _) (γ (χ (collect_list hl (χ (wpAny_newList ?_ hz)) hz)))
 show wpAny _ _ _ _ _ { s with heap:=F1 s.heap vs }
 rw[e]
 refine χ (BY (wpAny_call_entry slot_list_sort ⟨_,Ml s.heap vs,rfl⟩ entry_list_sort (AJ b (fun f s' q=>?_) fun _ _ x=>x.elim) (args_list_sort _)))
 obtain⟨x,rfl,q⟩:=q
 exact⟨_,rfl,γ ⟨_,rfl,q⟩⟩
end
def rkD(ds:List D)(d:D):Nat:=ds.countP fun e=>ltT e d
theorem Sd(h:ois ds=true)(hd:d∈ds)(he:e∈ds):decide (rkD ds d<rkD ds e)=ltT d e:=by
 have ho:∀x∈ds,x.oi=true:=fun x hx=>ois_mem.mp h x hx
 have up:∀{d e:D},d∈ds->e∈ds->ltT d e=true->rkD ds d<rkD ds e:=fun {d e} hd he q=>by
  unfold rkD;have le:∀l:List D,(∀x∈l,x∈ds)->l.countP (fun x=>ltT x d)<=l.countP (fun x=>ltT x e):=fun l hl=>
   List.countP_mono_left fun x hx rX=>Dx (ho x (hl x hx)) (ho d hd) (ho e he) rX q
  obtain⟨l1,l2,rfl⟩:=List.append_of_mem hd;have a:=le l1 fun x hx=>by simp[hx]
  have b:=le l2 fun x hx=>by simp[hx]
  simp only[List.countP_append,List.countP_cons,q,Kh (ho d hd)];simp
  lia
 cases q:ltT d e with
 |true=>simpa using up hd he q
 |false=>
  cases q':ltT e d with
  |true=>have:=up he hd q';simp;lia
  |false=>obtain rfl:=Es (ho d hd) (ho e he) q q';simp
theorem oi_split{d:D}(h:d.oi=true):(∃a,d=.int a)\/∃ds,d=.tup ds/\ois ds=true:=by
 cases d with
 |int a=>exact .inl ⟨a,rfl⟩
 |tup ds=>exact .inr ⟨ds,rfl,by simpa only [D.oi] using h⟩
 |_=>exact nomatch h
theorem wl{K:Frag}{H:Hp}{n:Nat}(ih:∀{d e:D}{x:V},d.dep<=n->d.oi=true->e.oi=true->RD K H d x->RD K H e x->d=e):∀{ds es:List D}{xs:List V},j9 ds<=n->ois ds=true->ois es=true->RDs K H ds xs->RDs K H es xs->ds=es:=by
 intro ds;induction ds with
 |nil=>
  intro es xs _ _ _ r1 r2
  have l:=r2.length
  rw[<-r1.length]at l
  exact(DO.mp l).symm
 |cons d ds rY=>
  intro es xs hd o1 o2 r1 r2
  cases es with
  |nil=>
   have l:=r1.length
   rw[<-r2.length]at l
   cases l
  |cons e es=>
   simp only[RDs]at r1 r2
   obtain⟨x,ys,h1,p1,q1⟩:=r1
   obtain⟨y,zs,h2,p2,q2⟩:=r2
   rw[h1]at h2;cases h2
   simp only[ois,oF]at o1 o2
   simp only[j9]at hd
   rw[ih (AA (Nat.le_max_left _ _) hd) o1.1 o2.1 p1 p2,rY (AA (Nat.le_max_right _ _) hd) o1.2 o2.2 q1 q2]
theorem y11{K:Frag}{H:Hp}:∀(n:Nat){d e:D}{x:V},d.dep<=n->d.oi=true->e.oi=true->RD K H d x->RD K H e x->d=e:=by
 intro n;induction n with
 |zero=>
  intro d e x hd o1 o2 r1 r2
  rcases oi_split o1 with⟨a,rfl⟩ |⟨ds,rfl,_⟩
  . have h1:=r1.int;rcases oi_split o2 with⟨b,rfl⟩ |⟨es,rfl,_⟩
    . have h2:=r2.int;rw[h1]at h2;cases h2;rfl
    . obtain⟨_,_,h2,_⟩:=r2.tup;rw[h1]at h2;cases h2
  . simp only[D.dep]at hd;exact absurd hd (Nat.not_succ_le_zero _)
 |succ n ih=>
  intro d e x hd o1 o2 r1 r2
  rcases oi_split o1 with⟨a,rfl⟩ |⟨ds,rfl,p1⟩
  . have h1:=r1.int;rcases oi_split o2 with⟨b,rfl⟩ |⟨es,rfl,_⟩
    . have h2:=r2.int;rw[h1]at h2;cases h2;rfl
    . obtain⟨_,_,h2,_⟩:=r2.tup;rw[h1]at h2;cases h2
  . obtain⟨a,ys,h1,q1,w1⟩:=r1.tup;rcases oi_split o2 with⟨b,rfl⟩ |⟨es,rfl,p2⟩
    . have h2:=r2.int;rw[h1]at h2;cases h2
    . obtain⟨b,zs,h2,q2,w2⟩:=r2.tup;rw[h1]at h2;cases h2;rw[q1]at q2;cases q2;simp only[D.dep]at hd;rw[wl ih (Nat.le_of_succ_le_succ hd) p1 p2 w1 w2]
theorem y5d{K:Frag}{H:Hp}{d e:D}{x:V}(o1:d.oi=true)(o2:e.oi=true)(r1:RD K H d x)(r2:RD K H e x):d=e:=y11 d.dep (η _) o1 o2 r1 r2
theorem zgp(p:l.Perm m):∀{xs:List α},m=xs.map f->∃ys:List α,ys.Perm xs/\l=ys.map f:=by
 induction p with
 |nil=>intro xs h;exact⟨xs,.refl _,h⟩
 |cons a p ih=>
  intro xs h
  cases xs with
  |nil=>cases h
  |cons x xs=>
   simp only[io,List.cons.injEq]at h
   obtain⟨ys,p',e⟩:=ih h.2
   exact⟨x::ys,p'.cons x,by rw[e,h.1];rfl⟩
 |swap a b l=>
  intro xs h
  match xs,h with
  |x::y::xs,h=>
   simp only[io,List.cons.injEq]at h
   exact⟨y::x::xs,.swap _ _ _,by rw[h.1,h.2.1,h.2.2];rfl⟩
 |trans p q rZ sd=>
  intro xs h
  obtain⟨ys,p',e⟩:=sd h
  obtain⟨zs,q',e'⟩:=rZ e
  exact⟨zs,q'.trans p',e'⟩
theorem Yp(l:List D):(List.range l.length).map (fun i=>l.getD i (.int 0))=l:=by
 apply List.ext_getElem?;intro i;rw[AO];by_cases hi:i<l.length
 . rw[List.getElem?_range hi];simp[hi]
 . rw[DW (by simpa using hi),DW (by simpa using hi)];rfl
noncomputable def atOf(its:List Value)(v:Value):Nat:=Classical.epsilon fun i=>i<its.length/\its.getD i Value.none=v
theorem Kz(h:i<its.length):atOf its (its.getD i Value.none)<its.length/\its.getD (atOf its (its.getD i Value.none)) Value.none=its.getD i Value.none:=by have hh:∃j,j<its.length/\its.getD j Value.none=its.getD i Value.none:=⟨i,h,rfl⟩;exact Classical.epsilon_spec hh
def Bw(ds:List D):Bool:=ois ds&&decide (j9 ds<=20)&&ds.all (fun d=>ds.all fun e=>(j8 d e).isSome)&&(ds.all isI||ds.all G5||ds.all P4)&&decide (ds.length<64)
def E9:List D->Option D
 | [.lst ds]=>if Bw ds=true then some (.lst (z8 ds)) else none
 |_=>none
def Sc(K:Frag):List V->Hp->VK->Prop:=fun xs H Q=>∃p ys ds,xs=[.ref p]/\H p=some (.lst ys)/\RDs K H ds ys/\Bw ds=true/\∀(l:Addr)(is:List Nat),H l=none->(∀i∈is,i<ys.length)->z8 ds=is.map (fun i=>ds.getD i (.int 0))->Q (.ref l) (upd H l (.lst (is.map fun i=>ys.getD i .non)))
theorem U9{K:Frag}:z9 K true E9 (Sc K):=by
 intro H0 H xs ds z Q s r ho k;unfold E9 at ho;split at ho<;>first |cases ho |skip
 split at ho<;>cases ho;rename_i es hok;obtain⟨x,rfl,q1⟩:=r.uno;obtain⟨p,ys,rfl,hp,ry⟩:=q1.lst;refine⟨p,ys,es,rfl,s _ _ hp,ry.mono s,hok,fun l is hl hi he=>k _ _ (.new s hl fun H' hH=>?_)⟩;simp only[OB];refine⟨_,hH,?_⟩;rw[he];exact ry.pick hi
section
variable {X:Cx}{pins:List (Addr×Obj)}{U:St}{H:Hp}{s:Shared}
theorem wj(hx:(∃k,x=.int k)\/∃a,x=.ref a)(hy:(∃k,y=.int k)\/∃a,y=.ref a)(r1:RelV x v)(r2:RelV y v):x=y:=by
 rcases hx with⟨k,rfl⟩ |⟨a,rfl⟩<;>rcases hy with⟨j,rfl⟩ |⟨b,rfl⟩<;>simp only[RelV]at r1 r2
 . obtain⟨t,rfl⟩:=r1;obtain⟨u,h⟩:=r2;cases h;rfl
 . obtain⟨t,rfl⟩:=r1;cases r2
 . obtain⟨t,rfl⟩:=r2;cases r1
 . subst r1;cases r2;rfl
theorem kd{K:Frag}{d:D}{x:V}(o:d.oi=true)(r:RD K H d x):(∃k,x=.int k)\/∃a,x=.ref a:=by
 cases d<;>simp only[D.oi]at o<;>first |cases o |skip
 . exact .inl ⟨_,r.int⟩
 . obtain⟨a,_,h,_⟩:=r.tup;exact .inr ⟨a,h⟩
theorem Zn(vs:List Value):(pairsOf vs).toList=(List.range vs.length).map fun i=>((vs.getD i Value.none,vs.getD i Value.none):Keyed):=by
 unfold pairsOf;rw[Array.toList_zip];apply List.ext_getElem
 . simp
 . intro i h1 h2;simp at h1;simp[h1]
theorem Xd(h:x∈pairsOf vs):∃i,i<vs.length/\x=(vs.getD i Value.none,vs.getD i Value.none):=by rw[Array.mem_def,Zn]at h;obtain⟨i,hi,e⟩:=AC.mp h;exact⟨i,DB.mp hi,e.symm⟩
theorem Yo:∀(vs:List Value),(∀i,i<vs.length->∃n t,vs.getD i Value.none=.int n t)->∃ns,IntsAre vs ns
 | [],_=>⟨[],.nil⟩
 |v::vs,h=>by
  obtain⟨n,t,e⟩:=h 0 (by simp);obtain⟨ns,r⟩:=Yo vs fun i hi=>by simpa using h (i+1) (by simpa using hi)
  have e':v=.int n t:=by simpa using e
  subst e';exact⟨n::ns,.cons n t r⟩
theorem wg(ia:IntsAre vs ns)(h:2<=vs.length):keyKind' vs.toArray=pure oneType':=by
 match vs,ia,h with
 |v1::v2::vs,ia,_=>exact keyKind_ints ia
theorem U3(hc:X.calm=true)(hu:X.A.units+64<cLine):CallR X (.builtin "sorted") (Sc X.K):=by
 intro pins s U H xs us Q I r h;obtain⟨p,ys,ds,rfl,hp,rd,hok,k⟩:=h;obtain⟨u,rfl,ru⟩:=z5 r;cases ru;obtain⟨its,rv,pl,hz⟩:=I.list (.of hp);obtain⟨m,hn,_⟩:=id I.loc;have F:=Att.fr_all hn;have N:=Cg (g:=Att.noObjs s.heap) (h:=s.heap) (L:=X.env.locals);unfold Bw at hok;simp only[oF,ED,AW]at hok;obtain⟨⟨⟨⟨eE,uq⟩,mx⟩,cr⟩,fz⟩:=hok;have nQ:=rd.length;have mF:=rv.length;have fin:∀{gy:Array Value}{is:List Nat},(∀i∈is,i<ys.length)->z8 ds=is.map (fun i=>ds.getD i (.int 0))->gy=(is.map fun i=>its.getD i Value.none).toArray->EP X pins U Q (.ref (s.heap.objs.size+1)) { s with heap:=sortedAll s.heap its gy }:=fun {gy is} hi he hv=>by
  have am:(is.map fun i=>ys.getD i .non).length<=sizeLine:=by
   have e1:is.length=ds.length:=by have:=BG List.length he;rw[gV,(R9 ds).length_eq]at this;exact this.symm
   rw[gV,e1,nQ];exact hz
  obtain⟨e,gO⟩:=sortedAll_at s.heap its gy;have kp:∀b o,s.heap.get? b=some o->(sortedAll s.heap its gy).get? b=some o:=fun b o q=>sortedAll_old q
  have hN:=N.kept_cons F kp (Nat.le_succ _) gO;obtain⟨HD,I'⟩:=I.frnew (tk:=s.toks) (o:=.lst (is.map fun i=>ys.getD i .non)) hn (F.kept kp) hN (Heap.get?_none_of_le (Nat.le_succ _)) ⟨am,_,e,rv.pick hi,by subst hv;exact(hN _ (.head _)).1⟩;exact⟨.ref _,_,I',rfl,k _ is HD hi he⟩
 by_cases h2:2<=its.length
 . have kp:∀b o,s.heap.get? b=some o->(D5 (F1 s.heap its) (s.heap.objs.size+1) its).get? b=some o:=fun b o q=>zjd q
   have I':Inv X pins U H { s with heap:=D5 (F1 s.heap its) (s.heap.objs.size+1) its }:=I.frn (tk:=s.toks) hn (F.kept kp) fun q hq=>(N.kept_cons F kp (Nat.le_succ _) (Yq (Ml s.heap its)).choose_spec.2) q (.tail _ hq)
   have sf:X.A.in1.in1.units+20<cLine:=by show X.A.units+1+1+20<cLine;lia
   have main:∀κ:SortKind,(∀(Q:SortKind->Shared->Prop),Q κ { s with heap:=D5 (F1 s.heap its) (s.heap.objs.size+1) its }->wpAny (model X.prog X.w) X.A.in1.in1 (keyKind' its.toArray) Q (fun _ _=>False) { s with heap:=D5 (F1 s.heap its) (s.heap.objs.size+1) its }) ->
     (∀(E:Value->Shared->Prop)(C:Bool->Shared->Prop)(i j:Nat),i<ys.length->j<ys.length->C (ltI ds i j) { s with heap:=D5 (F1 s.heap its) (s.heap.objs.size+1) its }->wpAny (model X.prog X.w) X.A.in1.in1 (keyLt' κ (its.getD i Value.none) (its.getD j Value.none)) C E { s with heap:=D5 (F1 s.heap its) (s.heap.objs.size+1) its }) ->
     wpAny (model X.prog X.w) X.A (call (.builtin "sorted") [.ref p]) (EP X pins U Q) X.xe s:=by
    intro κ gx aH
    refine zZ (rk:=fun q=>rkD ds (ds.getD (atOf its q.1) (.int 0))) pl.isList h2 (by lia) (by lia) gx ?_ fun out sg hA=>?_
    . intro x y hx hy st Q' hk q;obtain⟨i,hi,rfl⟩:=Xd hx;obtain⟨j,hj,rfl⟩:=Xd hy;have ai:=Kz hi;have aj:=Kz hj;dsimp only at q;rw[Sd eE (R6 (by lia)) (R6 (by lia))]at q;rw[lt'_eq];refine δ (wpS_get (δ (wpS_lift (wpAny_attempt ?_))));rw[hk];dsimp only;generalize atOf its (its.getD i Value.none)=i' at *;generalize atOf its (its.getD j Value.none)=j' at *;rw[<-ai.2,<-aj.2];exact aH _ _ i' j' (by lia) (by lia) ⟨rfl,wpS_pure q⟩
    . have e0:(pairsOf its).toList=(List.range its.length).map fun i=>((its.getD i Value.none,its.getD i Value.none):Keyed):=Zn its
      obtain⟨is,nR,nS⟩:=zgp (Array.perm_iff_toList_perm.mp sg) e0;have gz:∀i∈is,i<its.length:=fun i hi=>DB.mp (nR.mem_iff.mp hi)
      have pm:(is.map fun i=>ds.getD i (.int 0)).Perm ds:=by refine(nR.map _).trans ?_;rw[show its.length=ds.length by lia,Yp]
      refine fin (is:=is) (fun i hi=>by have:=gz i hi;lia) (Fv (Fw (R9 _) eE) ((R9 _).trans pm.symm) (Cj eE) ?_) ?_
      . rw[nS]at hA;refine CZ.mpr ((CZ.mp hA).imp_of_mem fun {a b} ha hb eo=>?_);have same:∀i,i<its.length->ds.getD (atOf its (its.getD i Value.none)) (.int 0)=ds.getD i (.int 0):=fun i hi=>by have q:=Kz hi;have v1:=rv.getD (i:=atOf its (its.getD i Value.none)) (by lia);have v2:=rv.getD (i:=i) (by lia);have r1:=rd.getD (i:=atOf its (its.getD i Value.none)) (by lia);have r2:=rd.getD (i:=i) (by lia);have o1:=Lc (i:=atOf its (its.getD i Value.none)) eE;have o2:=Lc (i:=i) eE;rw[q.2]at v1;rw[wj (kd o1 r1) (kd o2 r2) v1 v2]at r1;exact y5d o1 o2 r1 r2
        dsimp only at eo;rw[same a (gz a ha),same b (gz b hb)]at eo;have z:=Sd eE (d:=ds.getD b (.int 0)) (e:=ds.getD a (.int 0)) (R6 (by have:=gz b hb;lia)) (R6 (by have:=gz a ha;lia));rw[<-z,BC]
        lia
      . rw[<-Array.toList_inj,Array.toList_map,nS,AL];rfl
   by_cases hI:ds.all isI=true
   . have fM:∀i,i<ys.length->∃n t,ds.getD i (.int 0)=.int n/\its.getD i Value.none=.int n t:=fun i hi=>by
      have r1:=rd.getD hi
      have v1:=rv.getD hi
      have m1:isI (ds.getD i (.int 0))=true:=AS.mp hI _ (R6 (by lia))
      generalize ds.getD i (.int 0)=d at *
      cases d<;>simp only[isI]at m1<;>first |cases m1 |skip
      rw[r1.int]at v1
      obtain⟨t,e⟩:=v1
      exact⟨_,t,rfl,e⟩
     refine main oneType' (fun Q' q=>?_) fun E C i j hi hj hC=>?_
     . have ia:∃ns,IntsAre its ns:=Yo its fun i hi=>by obtain⟨n,t,_,e⟩:=fM i (by lia);exact⟨n,t,e⟩
       obtain⟨ns,ia⟩:=ia;rw[wg ia h2];exact γ q
     . obtain⟨n,t,e1,e2⟩:=fM i hi;obtain⟨n',t',e3,e4⟩:=fM j hj;rw[e2,e4];refine PySem.W.kat_lt_int ?_;unfold ltI at hC;rw[e1,e3]at hC;simpa only [ltT] using hC
   . obtain⟨T,hT⟩:∃T:Bool,∀d∈ds,(if T=true then P4 d else G5 d)=true:=by
      rcases cr with (z |z) |z
      . exact absurd z hI
      . exact⟨false,fun d hd=>by rw[ξ θ];exact AS.mp z d hd⟩
      . exact⟨true,fun d hd=>by rw[ζ rfl];exact AS.mp z d hd⟩
     obtain⟨fs,t1,t2,t3⟩:=Sq (M:=model X.prog X.w) I' T hT rd rv
     refine main (tuples' ((.type (if T=true then "tuple" else "int"):Value) != Value.type "tuple")) (fun Q' q=>PySem.W.kat_kind t1 (by lia) t3 (by cases T<;>rfl) q) fun E C i j hi hj hC=>?_
     have r1:=rd.getD hi
     have r2:=rd.getD hj
     have v1:=rv.getD hi
     have v2:=rv.getD hj
     have m1:ds.getD i (.int 0)∈ds:=R6 (by lia)
     have m2:ds.getD j (.int 0)∈ds:=R6 (by lia)
     have o1:=(ois_mem.mp eE) _ m1
     have o2:=(ois_mem.mp eE) _ m2
     have d1:=Md m1
     have f1:=hT _ m1
     have f2:=hT _ m2
     obtain⟨b,hb⟩:=Option.isSome_iff_exists.mp (AS.mp (AS.mp mx _ m1) _ m2)
     have si:b=ltI ds i j:=Sw hb
     rw[<-si]at hC
     generalize ds.getD i (.int 0)=da at *
     generalize ds.getD j (.int 0)=db at *
     have tp:∀{d:L2.D},(if T=true then P4 d else G5 d)=true->∃es,d=.tup es/\(T=false->∃k r,es=.int k::r):=fun {d} h=>by
      cases T with
      |false=>
       rw[ξ θ]at h
       cases d<;>simp only[G5]at h<;>first |cases h |skip
       rename_i es
       cases es with
       |nil=>simp at h
       |cons e es=>cases e<;>simp at h;exact⟨_,rfl,fun _=>⟨_,_,rfl⟩⟩
      |true=>
       rw[ζ rfl]at h
       cases d<;>simp only[P4]at h<;>first |cases h |skip
       exact⟨_,rfl,fun z=>nomatch z⟩
     obtain⟨ea,rfl,ka⟩:=tp f1
     obtain⟨eb,rfl,kb⟩:=tp f2
     obtain⟨a,xa,e1,ha,ra⟩:=r1.tup
     obtain⟨c,xc,e2,ef,rc⟩:=r2.tup
     rw[e1]at v1;rw[e2]at v2
     rw[show its.getD i Value.none=Value.ref a from v1,show its.getD j Value.none=Value.ref c from v2]
     obtain⟨ia,va,oa,sj,_,na,sk⟩:=I'.tupA ha
     obtain⟨ic,vc,oc,gJ,_,nc,cK⟩:=I'.tupA ef
     simp only[L2.D.oi]at o1 o2
     simp only[L2.D.dep]at d1
     simp only[j8]at hb
     refine PySem.W.kat_lt sj sk gJ cK (Vb I' sf hC 0 (fun sq _=>?_) o1 o2 (by lia) ra rc va vc hb (by simp))
     cases T with
     |false=>exact⟨ka rfl,kb rfl⟩
     |true=>exact absurd sq (by simp)
 . have sr:z8 ds=ds:=by
    match ds,nQ,mF with
    | [],_,_=>rfl
    | [d],_,_=>rfl
    |_::_::_,a,b=>simp at a;lia
   have pz:∀l:List Value,l.length<2->(pairsOf l).map (·.2)=(List.map (fun i=>l.getD i Value.none) (List.range l.length)).toArray:=fun l hl=>by
    match l,hl with
    | [],_=>simp[pairsOf]
    | [v],_=>simp[pairsOf]
    |_::_::_,z=>simp at z;lia
   refine zex pl.isList (by lia) (fin (is:=List.range its.length) (fun i hi=>by simp at hi;lia) ?_ (pz its (by lia)))
   rw[sr,show its.length=ds.length by lia,Yp]
end
def Ps(ds:List D)(d:D):Option D:=if pls ds=true/\d.pl=true/\j9 ds<=20 then some (.int ((ds.countP (fun e=>eqD e d):Nat):Int)) else none
def qo(K:Frag)(tp:Bool):V->List V->Hp->VK->Prop:=fun x vs H Q=>∃(l:Addr)(xs:List V)(ds:List D)(y:V)(d:D),x=.ref l/\vs=[y]/\H l=some (if tp=true then .tup xs else .lst xs)/\RDs K H ds xs/\RD K H d y/\pls ds=true/\d.pl=true/\j9 ds<=20/\Q (.int ((ds.countP (fun e=>eqD e d):Nat):Int)) H
theorem Uo{K:Frag}{H:Hp}{d:D}:∀{ds:List D}{xs:List V}{its:List Value},pls ds=true->RDs K H ds xs->Vals xs its->its.countP (hitD K H d)=ds.countP (fun e=>eqD e d)
 | [],_,_,_,h,r=>by simp only[RDs]at h;subst h;cases r;rfl
 |e::ds,_,_,p,h,r=>by
  simp only[RDs]at h;obtain⟨x,xs,rfl,h1,h2⟩:=h;cases r with
  |cons r1 r2=>
   have pe:e.pl=true/\pls ds=true:=by simpa [pls] using p
   rw[List.countP_cons,List.countP_cons,Uo pe.2 h2 r2,Fo pe.1 r1 h1]
theorem wf(hu:X.A.units+64<cLine):MtM X "list.count" (qo X.K false):=by
 intro pins s U H x vs v us Q I rx rv h;obtain⟨l,xs,ds,y,d,rfl,rfl,hH,ez,rd,pl,pd,hd,q⟩:=h;cases rx;obtain⟨u,rfl,ru⟩:=rv.one;obtain⟨z,its,n,r,hl,e⟩:=I.lstM hH;refine call_meets F.slot_list_count ⟨_,e,rfl⟩ F.entry_list_count (F.args_list_count_2 _ _)
  (SeqAt.list_countAt l its.toArray n none #[] u (hitD X.K H d)) ⟨e,fun y hy=>U7 (A:=X.A) I (by lia) pd rd ru pl ez r hd y (by simpa using hy),?_⟩
 rw[show its.toArray.toList.countP (hitD X.K H d)=ds.countP (fun e=>eqD e d) from Uo pl ez r];exact⟨.int _,H,I.tok _,⟨_,rfl⟩,q⟩
def Av(fa fb:DE->R D):DE->R D:=fun ρ=>(fa ρ).bind fun x=>match x with
 | .lst ds=>(fb ρ).bind fun y=>R.of (Ps ds y)
 |_=>.st
section
variable {X:Cx}{EX:XW}{U:St}{H:Hp}{Q:VK}
theorem y13{K:Frag}{fa fb:DE->R D}(h:TEd K EX false (Av fa fb) U H Q):tBM K "list" (qo K false) (TEd K EX false fa) (E6 (TEd K EX false fb) L8) U H Q:=by
 obtain⟨sx,ρ,H0,s,e,h⟩:=h;unfold Av at h;rw[Rk.bind]at h;refine TEd.go sx s e h fun d h v H1 aq s1 e1 r1=>?_
 cases d<;>first | (exact h.elim) |skip
 rename_i ds;simp only at h;obtain⟨a,xs,rfl,ha,rs⟩:=r1.lst;refine⟨.inl ⟨rfl,xs,.of (e1.2.1 _ _ ha)⟩,?_⟩;rw[Rk.bind]at h;refine TEd.go (sx.trans s1) e1.2.1 (e.mono e1.1) h fun d2 h v2 H2 bq s2 e2 r2=>?_
 obtain⟨z,hz,h⟩:=h.of;simp only[Ps]at hz;split at hz<;>first | (cases hz;done) |skip
 rename_i hc;cases hz;refine⟨a,xs,ds,v2,d2,rfl,rfl,s2 _ _ (e1.2.1 _ _ ha),rs.mono (e2.1.trans e2.2.1),r2.mono e2.2.1,hc.1,hc.2.1,hc.2.2,h _ H2 ?_⟩;exact .val (s1.trans s2) (e1.trans s1 e2) (.mkInt _)
variable {o e:Expr}{aw ag:Pos}{fa fb:DE->R D}
theorem y14(hu:X.A.units+64<cLine)(ho:QE X EX false o fa)(ha:QE X EX false e fb)(aP:attributeBase o "count" X.env (eval o X.env)=eval o X.env:=by rfl)
  (cf:((backTo ag (starEach [e] X.env)).all (fun x=>!x.1)&&(backToKw ag (keywordEach [] X.env)).all (fun x=>x.1.isSome)
   && decide ([e].length+([]:List Keyword).length+(if([]:List Keyword).isEmpty then 0 else 1)<30))=true:=by rfl)
  (bO:(aw.endLine==ag.line)=true:=by rfl) (hs:starEach [e] X.env=(false,eval e X.env)::starEach [] X.env:=by rfl) (bc:(backTo ag (starEach [] X.env)).any (·.1)=false:=by rfl) :
  QE X EX false (.Call (.Attribute o "count" aw) [e] [] ag) (Av fa fb):=
 ⟨(Ec BW PySem.F.slot_list_count PySem.F.type_list_count (wf hu) ho.h (G1 ha.h pa_nil hs) aP cf bO hs bc).imp fun _ _ _ q=>y13 q⟩
end
end L2
namespace Cu
abbrev P2:=Int×Int
abbrev P3:=Int×Int×Int
def sh(hV x:Int):Int:=if x > hV then x+1 else x
def sh2(c:Int)(p:P2):P2:=(sh c p.1,sh c p.2)
def sh3(c:Int)(p:P3):P3:=(sh c p.1,sh c p.2.1,sh c p.2.2)
def outer(p:P3):P2:=(p.1,p.2.2)
def v4(n c:Int):P2:=if c=n - 1 then(0,c) else(c,c+2)
def K9(n c:Int):P3:=if c=n - 1 then(0,c,n) else(c,c+1,c+2)
structure CInv(n:Int)(ls:List P2)(T:List P3):Prop where
 n3:3<=n
 tri:∀a c b,(a,c,b)∈T->0<=a/\a<c/\c<b/\b<=n - 1/\((a,c)∈ls\/c=a+1)/\((c,b)∈ls\/b=c+1)
 lin:∀a b,(a,b)∈ls->0<=a/\a+2<=b/\b<=n - 1/\¬(a=0/\b=n - 1)
 nc:∀a b c d,(a,b)∈ls->(c,d)∈ls->¬(a<c/\c<b/\b<d)
 nd:ls.Nodup
 prm:(T.map outer).Perm ((0,n - 1)::ls)
theorem y8h:CInv 3 [] [(0,1,2)] where
 n3:=by omega
 tri:=fun a c b h=>by simp only[gq,Prod.mk.injEq,DG,or_false]at h;omega
 lin:=fun a b h=>by simp at h
 nc:=fun a b c d h=>by simp at h
 nd:=List.nodup_nil
 prm:=.refl _
theorem Y6{c:Int}{ls:List P2}{x y:Int}(h:(x,y)∈ls.map (sh2 c)):∃a b,(a,b)∈ls/\x=sh c a/\y=sh c b:=by obtain⟨⟨a,b⟩,hm,e⟩:=AC.mp h;simp only[sh2,Prod.mk.injEq]at e;exact⟨a,b,hm,e.1.symm,e.2.symm⟩
theorem Um{c:Int}{ls:List P2}{a b:Int}(h:(a,b)∈ls):(sh c a,sh c b)∈ls.map (sh2 c):=AC.mpr ⟨(a,b),h,rfl⟩
theorem Sb(h:sh c x=sh c y):x=y:=by unfold sh at h;split at h<;>split at h<;>lia
theorem CInv.grow(I:CInv n ls T)(c:Int)(h0:0<=c)(h1:c<n):CInv (n+1) (ls.map (sh2 c)++[v4 n c]) (T.map (sh3 c)++[K9 n c]) where
 n3:=by have:=I.n3;lia
 tri:=fun x y z h=>by
  have h3:=I.n3;rcases AN.mp h with h |h
  . obtain⟨⟨a,m,b⟩,hm,e⟩:=AC.mp h;simp only[sh3,Prod.mk.injEq]at e;obtain⟨rfl,rfl,rfl⟩:=e;obtain⟨g1,g2,g3,g4,g5,g6⟩:=I.tri a m b hm;have k1:0<=sh c a:=by unfold sh;split<;>lia
    have k2:sh c a<sh c m:=by unfold sh;split<;>split<;>lia
    have k3:sh c m<sh c b:=by unfold sh;split<;>split<;>lia
    have k4:sh c b<=n+1 - 1:=by unfold sh;split<;>lia
    have iE:∀u w,u+1=w->w<=n - 1->(sh c u,sh c w)∈ls.map (sh2 c)++[v4 n c]\/sh c w=sh c u+1:=fun u w e hw=>by
     by_cases q:u=c
     . left;refine AN.mpr (.inr ?_);have e1:sh c u=c:=by unfold sh;split<;>lia
       have e2:sh c w=c+2:=by unfold sh;split<;>lia
       rw[e1,e2];unfold v4;rw[ξ (by lia)];simp
     . right;unfold sh;split<;>split<;>lia
    refine⟨k1,k2,k3,k4,?_,?_⟩
    . rcases g5 with g5 |g5
      . exact .inl (AN.mpr (.inl (Um g5)))
      . exact iE a m (by lia) (by lia)
    . rcases g6 with g6 |g6
      . exact .inl (AN.mpr (.inl (Um g6)))
      . exact iE m b (by lia) (by lia)
  . simp only[tB]at h;unfold K9 at h;by_cases q:c=n - 1
    . rw[ζ q]at h;simp only[Prod.mk.injEq]at h;obtain⟨rfl,rfl,rfl⟩:=h;refine⟨by lia,by lia,by lia,by lia,.inl (AN.mpr (.inr ?_)),.inr (by lia)⟩;unfold v4;rw[ζ q];simp
    . rw[ξ q]at h;simp only[Prod.mk.injEq]at h;obtain⟨rfl,rfl,rfl⟩:=h;exact⟨by lia,by lia,by lia,by lia,.inr rfl,.inr (by lia)⟩
 lin:=fun x y h=>by
  have h3:=I.n3;rcases AN.mp h with h |h
  . obtain⟨a,b,hm,rfl,rfl⟩:=Y6 h;obtain⟨g1,g2,g3,g4⟩:=I.lin a b hm;unfold sh;split<;>split<;>lia
  . simp only[tB]at h;unfold v4 at h;by_cases q:c=n - 1
    . rw[ζ q]at h;simp only[Prod.mk.injEq]at h;lia
    . rw[ξ q]at h;simp only[Prod.mk.injEq]at h;lia
 nc:=fun x y z w h h'=>by
  have h3:=I.n3;rcases AN.mp h with h |h<;>rcases AN.mp h' with h' |h'
  . obtain⟨a,b,hm,rfl,rfl⟩:=Y6 h;obtain⟨a',b',bb,rfl,rfl⟩:=Y6 h';have:=I.nc a b a' b' hm bb;unfold sh;split<;>split<;>split<;>split<;>lia
  . obtain⟨a,b,hm,rfl,rfl⟩:=Y6 h;simp only[tB]at h';have:=I.lin a b hm;unfold v4 at h';by_cases q:c=n - 1
    . rw[ζ q]at h';simp only[Prod.mk.injEq]at h';unfold sh;split<;>split<;>lia
    . rw[ξ q]at h';simp only[Prod.mk.injEq]at h';unfold sh;split<;>split<;>lia
  . obtain⟨a,b,hm,rfl,rfl⟩:=Y6 h';simp only[tB]at h;have:=I.lin a b hm;unfold v4 at h;by_cases q:c=n - 1
    . rw[ζ q]at h;simp only[Prod.mk.injEq]at h;unfold sh;split<;>split<;>lia
    . rw[ξ q]at h;simp only[Prod.mk.injEq]at h;unfold sh;split<;>split<;>lia
  . simp only[tB]at h h';rw[<-h']at h;simp only[Prod.mk.injEq]at h;lia
 nd:=by
  have h3:=I.n3;rw[List.nodup_append];refine⟨?_,by simp,fun p hp q hq=>?_⟩
  . refine(CZ.mpr (I.nd.imp fun {p q} aA e=>aA ?_));simp only[sh2,Prod.mk.injEq]at e;exact Prod.ext (Sb e.1) (Sb e.2)
  . simp only[tB]at hq;subst hq;obtain⟨x,y⟩:=p;obtain⟨a,b,hm,rfl,rfl⟩:=Y6 hp;have:=I.lin a b hm;intro e;unfold v4 at e;by_cases q:c=n - 1
    . rw[ζ q]at e;simp only[Prod.mk.injEq]at e;unfold sh at e;split at e<;>split at e<;>lia
    . rw[ξ q]at e;simp only[Prod.mk.injEq]at e;unfold sh at e;split at e<;>split at e<;>lia
 prm:=by
  have h3:=I.n3;have e1:(T.map (sh3 c)++[K9 n c]).map outer=(T.map outer).map (sh2 c)++[outer (K9 n c)]:=by simp only[CS,AL,io,AQ];rfl
  have p1:((T.map outer).map (sh2 c)++[outer (K9 n c)]).Perm (((0,n - 1)::ls).map (sh2 c)++[outer (K9 n c)]):=(I.prm.map (sh2 c)).append_right _;rw[e1];refine p1.trans ?_;have e0:sh c 0=0:=by unfold sh;split<;>lia
  rw[io];by_cases q:c=n - 1
  . have e2:sh2 c (0,n - 1)=v4 n c:=by
     unfold v4 sh2;rw[ζ q];simp only[Prod.mk.injEq];exact⟨e0,by unfold sh;split<;>lia⟩
    have e3:outer (K9 n c)=(0,n+1 - 1):=by unfold K9 outer;rw[ζ q];simp
    rw[e2,e3]
    refine(List.perm_append_comm (l₁:=_::_) (l₂:=[_])).trans ?_
    refine List.Perm.cons _ ?_
    exact(List.perm_append_comm (l₁:=[v4 n c]) (l₂:=ls.map (sh2 c)))
  . have e2:sh2 c (0,n - 1)=(0,n+1 - 1):=by
     unfold sh2;simp only[Prod.mk.injEq];exact⟨e0,by unfold sh;split<;>lia⟩
    have e3:outer (K9 n c)=v4 n c:=by unfold K9 v4 outer;rw[ξ q,ξ q]
    rw[e2,e3];exact .refl _
end Cu
namespace Cu
open L2 (mxD Kc T2 T3 so3 Wj V1)
def pk(x:Int)(p l:P2):Bool:=decide (l.1=x)&&(decide (l.2<=p.2)&&!(decide (l.1=p.1)&&decide (l.2=p.2)))
theorem y15:pk x p l=true↔l.1=x/\l.2<=p.2/\¬(l.1=p.1/\l.2=p.2):=by
 simp only[pk,oF,AW,EN,Bool.and_eq_false_iff,BC];constructor
 . rintro⟨h1,h2,h3⟩;exact⟨h1,h2,fun h=>by rcases h3 with z |z<;>lia⟩
 . rintro⟨h1,h2,h3⟩;refine⟨h1,h2,?_⟩;by_cases z:l.1=p.1
   . exact .inr fun w=>h3 ⟨z,w⟩
   . exact .inl z
def ends(x:Int)(p:P2)(ls:List P2):List Int:=(ls.filter (pk x p)).map (·.2)
theorem mem_ends:y∈ends x p ls↔(x,y)∈ls/\y<=p.2/\¬(x=p.1/\y=p.2):=by
 simp only[ends,AC,AK,y15];constructor
 . rintro⟨⟨a,b⟩,⟨h1,h2,h3,h4⟩,rfl⟩;simp only at h2 h3 h4⊢;subst h2;exact⟨h1,h3,h4⟩
 . rintro⟨h1,h2,h3⟩;exact⟨(x,y),⟨h1,rfl,h2,h3⟩,rfl⟩
section
variable {n:Int}{ls ls':List P2}{T:List P3}{a b c:Int}
theorem CInv.beh1(I:CInv n ls T)(p:ls'.Perm ls)(h:(a,c,b)∈T):mxD (a+1) (ends a (a,b) ls')=c:=by
 obtain⟨g1,g2,g3,g4,g5,g6⟩:=I.tri a c b h;have key:∀y∈ends a (a,b) ls',y<=c:=fun y hy=>by
  obtain⟨m1,m2,m3⟩:=mem_ends.mp hy;have m1:=p.mem_iff.mp m1;simp only at m2 m3;have:¬y=b:=fun z=>m3 (by simpa using z)
  rcases g6 with g6 |g6
  . have:=I.nc a y c b m1 g6;lia
  . lia
 refine Kc key ?_;rcases g5 with g5 |g5
 . left;exact mem_ends.mpr ⟨p.mem_iff.mpr g5,by simp only;lia,by simp only;lia⟩
 . by_cases z:ends a (a,b) ls'=[]
   . exact .inr ⟨z,by lia⟩
   . obtain⟨y,hy⟩:=List.exists_mem_of_ne_nil _ z;have:=key y hy;obtain⟨m1,m2,m3⟩:=mem_ends.mp hy;have:=I.lin a y (p.mem_iff.mp m1);lia
theorem CInv.beh2(I:CInv n ls T)(p:ls'.Perm ls)(h:(a,c,b)∈T):mxD (c+1) (ends c (a,b) ls')=b:=by
 obtain⟨g1,g2,g3,g4,g5,g6⟩:=I.tri a c b h;refine Kc (fun y hy=>(mem_ends.mp hy).2.1) ?_;rcases g6 with g6 |g6
 . left;exact mem_ends.mpr ⟨p.mem_iff.mpr g6,by simp only;lia,by simp only;lia⟩
 . by_cases z:ends c (a,b) ls'=[]
   . exact .inr ⟨z,by lia⟩
   . obtain⟨y,hy⟩:=List.exists_mem_of_ne_nil _ z;obtain⟨m1,m2,m3⟩:=mem_ends.mp hy;have:=I.lin c y (p.mem_iff.mp m1);simp only at m2;lia
def thr(T:List P3)(p:P2):P3:=(T.find? fun t=>decide (outer t=p)).getD (0,0,0)
theorem Sa(h:p∈T.map outer):thr T p∈T/\outer (thr T p)=p:=by
 obtain⟨t,ht,e⟩:=AC.mp h;unfold thr;cases hf:T.find? fun t=>decide (outer t=p) with
 |none=>
  have:=List.find?_eq_none.mp hf t ht
  simp[e]at this
 |some u=>
  have h1:=List.mem_of_find?_eq_some hf
  have h2:=List.find?_some hf
  exact⟨h1,by simpa using h2⟩
theorem CInv.thr_outer(I:CInv n ls T)(h:t∈T):thr T (outer t)=t:=by obtain⟨h1,h2⟩:=Sa (T:=T) (AC.mpr ⟨t,h,rfl⟩);obtain⟨a,c,b⟩:=t;generalize thr T (outer (a,c,b))=u at h1 h2;obtain⟨a',c',b'⟩:=u;simp only[outer,Prod.mk.injEq]at h2;obtain⟨rfl,rfl⟩:=h2;have e1:=I.beh1 (.refl _) h1;have e2:=I.beh1 (.refl _) h;rw[e1]at e2;rw[e2]
theorem CInv.tops(I:CInv n ls T)(p:ls'.Perm ls):(((0,n - 1)::ls').map (thr T)).Perm T:=by
 have q:((0,n - 1)::ls').Perm (T.map outer):=(p.cons _).trans I.prm.symm;refine(q.map (thr T)).trans ?_;rw[AL];have:T.map (thr T∘outer)=T:=by
  conv=>rhs;rw[<-List.map_id T]
  exact AM fun t ht=>I.thr_outer ht
 rw[this]
theorem CInv.top_in(I:CInv n ls T)(p:ls'.Perm ls)(h:q∈(0,n - 1)::ls'):thr T q∈T/\outer (thr T q)=q:=
 Sa ((((p.cons _).trans I.prm.symm).mem_iff).mp h)
theorem CInv.len(I:CInv n ls T):T.length=ls.length+1:=by have:=I.prm.length_eq;simpa using this
end
def bth(x y:Int)(t:P3):Bool:=(decide (x=t.1)||(decide (x=t.2.1)||decide (x=t.2.2)))&&(decide (y=t.1)||(decide (y=t.2.1)||decide (y=t.2.2)))
theorem bth_iff:bth x y (a,c,b)=true↔(x=a\/x=c\/x=b)/\(y=a\/y=c\/y=b):=by simp only[bth,oF,ED,AW]
open Classical in
noncomputable def ee(n:Int)(ls:List P2)(x y:Int):Nat:=(if(x,y)∈ls then 2 else 0)+(if y=x+1/\0<=x/\y<=n - 1 then 1 else 0)+(if x=0/\y=n - 1 then 1 else 0)
def Cnt(n:Int)(ls:List P2)(T:List P3):Prop:=∀x y,x<y->(T.filter (bth x y)).length=ee n ls x y
end Cu
namespace Cu
structure Lns(n:Int)(ls:List P2):Prop where
 n3:3<=n
 lin:∀a b,(a,b)∈ls->0<=a/\a+2<=b/\b<=n - 1/\¬(a=0/\b=n - 1)
 nc:∀a b c d,(a,b)∈ls->(c,d)∈ls->¬(a<c/\c<b/\b<d)
 nd:ls.Nodup
structure Nx(t:P2)(ls:List P2)(nx:Int->Int):Prop where
 up:∀c,c<t.2->c<nx c/\nx c<=t.2
 or:∀c,c<t.2->((c,nx c)∈ls/\(c,nx c)≠t)\/nx c=c+1
 ge:∀c e,(c,e)∈ls->e<=t.2->(c,e)≠t->e<=nx c
inductive Ch (b:Int) (nx:Int->Int):Int->List Int->List P2->Prop
 |last:Ch b nx b [b] []
 |step {c:Int} {l:List Int} {es:List P2} (h:c<b) (r:Ch b nx (nx c) l es):Ch b nx c (c::l) ((c,nx c)::es)
section
variable {b:Int}{nx:Int->Int}{c:Int}{l:List Int}{es:List P2}
theorem Ch.ge(h:Ch b nx c l es)(hu:∀c,c<b->c<nx c/\nx c<=b):(∀x∈l,c<=x/\x<=b)/\l.Pairwise (·<·)/\c∈l/\b∈l:=by
 induction h with
 |last=>exact⟨fun x hx=>by simp at hx;lia,by simp,by simp,by simp⟩
 |step h r ih=>
  have u:=hu _ h
  refine⟨fun x hx=>?_,CP.mpr ⟨fun x hx=>?_,ih.2.1⟩,by simp,bI _ ih.2.2.2⟩
  . rcases gq.mp hx with rfl |hx
    . lia
    . have:=ih.1 x hx;lia
  . have:=ih.1 x hx;lia
theorem Ch.edge(h:Ch b nx c l es)(hu:∀c,c<b->c<nx c/\nx c<=b):(∀x y,(x,y)∈es↔x∈l/\x<b/\y=nx x)/\es.Nodup:=by
 induction h with
 |last=>exact⟨fun x y=>by simp;lia,List.nodup_nil⟩
 | @step c l es h r ih=>
  have g:=r.ge hu
  have u:=hu _ h
  refine⟨fun x y=>?_,AR.mpr ⟨fun hm=>?_,ih.2⟩⟩
  . rw[gq,ih.1,gq,Prod.mk.injEq];constructor
    . rintro (⟨rfl,rfl⟩ |⟨h1,h2,h3⟩)
      . exact⟨.inl rfl,h,rfl⟩
      . exact⟨.inr h1,h2,h3⟩
    . rintro⟨rfl |h1,h2,h3⟩
      . exact .inl ⟨rfl,h3⟩
      . exact .inr ⟨h1,h2,h3⟩
  . have:=(ih.1 c _).mp hm;have:=g.1 c this.1
    lia
theorem Ch.le(h:Ch b nx c l es)(hu:∀c,c<b->c<nx c/\nx c<=b):∀x y,x∈l->y∈l->x<y->nx x<=y:=by
 induction h with
 |last=>intro x y hx hy;simp at hx hy;lia
 | @step c l es h r ih=>
  have g:=r.ge hu
  have u:=hu _ h
  intro x y hx hy hl
  rcases gq.mp hx with e1 |kx<;>rcases gq.mp hy with e2 |ky
  . lia
  . rw[e1];exact(g.1 y ky).1
  . have:=g.1 x kx;lia
  . exact ih x y kx ky hl
theorem Ch.lo(h:Ch b nx c l es):∀z,c<=z->z<=b->∃p,p∈l/\p<=z/\(z=p\/(p<b/\z<nx p)):=by
 induction h with
 |last=>intro z h1 h2;exact⟨b,by simp,by lia,.inl (by lia)⟩
 | @step c l es h r ih=>
  intro z h1 h2
  by_cases q:z<nx c
  . exact⟨c,by simp,h1,.inr ⟨h,q⟩⟩
  . obtain⟨p,p1,p2,p3⟩:=ih z (by lia) h2;exact⟨p,bI _ p1,p2,p3⟩
theorem Ch.ends(h:Ch b nx c l es):(∃m,l=m++[b])/\∃m,l=c::m:=by
 induction h with
 |last=>exact⟨⟨[],rfl⟩,[],rfl⟩
 | @step c l es h r ih=>obtain⟨⟨m,e⟩,_⟩:=ih;exact⟨⟨c::m,by rw[e];rfl⟩,l,rfl⟩
theorem Ch.zip(h:Ch b nx c l es):es=l.zip l.tail:=by
 induction h with
 |last=>rfl
 | @step c l es h r ih=>
  obtain⟨m,e⟩:=r.ends.2
  rw[ih,e];rfl
theorem Ch.ex(hu:∀c,c<b->c<nx c/\nx c<=b):∀(k:Nat)(c:Int),c<=b->(b - c).toNat<=k->∃l es,Ch b nx c l es
 | 0,c,h,hk=>by
  have:c=b:=by lia
  subst this;exact⟨_,_,.last⟩
 |k+1,c,h,hk=>by
  by_cases q:c<b
  . have u:=hu c q;obtain⟨l,es,r⟩:=Ch.ex hu k (nx c) u.2 (by lia);exact⟨_,_,.step q r⟩
  . have:c=b:=by lia
    subst this;exact⟨_,_,.last⟩
theorem Ch.len(h:Ch b nx c l es)(hu:∀c,c<b->c<nx c/\nx c<=b):(l.length:Int)<=b - c+1:=by
 induction h with
 |last=>simp
 | @step c l es h r ih=>have u:=hu _ h;simp;lia
end
theorem Rz(f:α->Nat)(P:α->Prop)(l:List α):∀(k:Nat),(∃x∈l,P x/\f x<=k)->∃x∈l,P x/\∀y∈l,P y->f x<=f y
 | 0,⟨x,h1,h2,h3⟩=>⟨x,h1,h2,fun y _ _=>by lia⟩
 |k+1,⟨x,h1,h2,h3⟩=>by
  by_cases q:∃y∈l,P y/\f y<=k
  . exact Rz f P l k q
  . refine⟨x,h1,h2,fun y hy py=>?_⟩;by_cases z:f y<=k
    . exact absurd ⟨y,hy,py,z⟩ q
    . lia
section
variable {n:Int}{ls:List P2}
def x8(n:Int)(ls:List P2)(t:P2):Prop:=t=(0,n - 1)\/t∈ls
theorem Lns.top(I:Lns n ls)(h:x8 n ls (a,b)):0<=a/\a+2<=b/\b<=n - 1:=by
 have:=I.n3;rcases h with h |h
 . cases h;lia
 . have:=I.lin a b h;lia
theorem Lns.tnc(I:Lns n ls)(h:x8 n ls (a,b))(h':x8 n ls (c,d)):¬(a<c/\c<b/\b<d):=by
 have t1:=I.top h;have t2:=I.top h';rcases h with h |h
 . cases h;omega
 rcases h' with h' |h'
 . cases h';omega
 exact I.nc a b c d h h'
def Gk(n:Int)(ls:List P2)(f:P2):Prop:=f∈ls\/(f.2=f.1+1/\0<=f.1/\f.2<=n - 1)
theorem Lns.room(I:Lns n ls)(ht:x8 n ls t)(X:Nx t ls nx)(Z:Ch t.2 nx t.1 C E) :
  3<=C.length/\(∀x∈C,0<=x/\x<=n - 1)/\t∉E/\(∀f∈E,Gk n ls f/\f.1<f.2)/\∀c e,(c,e)∈ls->c∈C->e∈C->(c,e)∈E\/(c,e)=t:=by
 obtain⟨a,b⟩:=t
 have tt:=I.top ht
 have G:=Z.ge X.up
 have Ed:=Z.edge X.up
 have ua:=X.up a (by simp only;lia)
 simp only at ua
 have na:nx a<b:=by
  rcases X.or a (by simp only;lia) with⟨o1,o2⟩ |o
  . have:nx a≠b:=fun z=>o2 (by rw[z])
    lia
  . lia
 refine⟨?_,fun x hx=>?_,fun hm=>?_,fun f hf=>?_,fun c e h hc he=>?_⟩
 . cases Z with
   |last=>lia
   |step h r=>
    rename_i l es
    generalize hx:nx a=x at *
    cases r with
    |last=>lia
    |step h2 r2=>
     obtain⟨m,e⟩:=r2.ends.2
     rw[e];simp
 . have:=G.1 x hx;simp only at this;lia
 . have:=(Ed.1 a b).mp hm;lia
 . obtain⟨c,e⟩:=f;obtain⟨h1,h2,h3⟩:=(Ed.1 c e).mp hf;have u:=X.up c h2;have:=(G.1 c h1).1;simp only at this u h2;refine⟨?_,by simp only;lia⟩;rcases X.or c h2 with⟨o1,o2⟩ |o
   . exact .inl (by rw[h3];exact o1)
   . exact .inr ⟨by simp only;lia,by simp only;lia,by simp only;lia⟩
 . by_cases q:(c,e)=(a,b)
   . exact .inr q
   . left;have l:=I.lin c e h;have h1:=G.1 e he;simp only at h1;have g:=X.ge c e h h1.2 q;have k:=Z.le X.up c e hc he (by lia);exact(Ed.1 c e).mpr ⟨hc,by simp only;lia,by lia⟩
variable {N:P2->Int->Int}(hN:∀t,x8 n ls t->Nx t ls (N t))
include hN
theorem Lns.inner(I:Lns n ls)(C:P2->List Int)(E:P2->List P2)(hC:∀t,x8 n ls t->Ch t.2 (N t) t.1 (C t) (E t))(hf:Gk n ls f) :
  ∃t,x8 n ls t/\f∈E t/\∀t',x8 n ls t'->f∈E t'->t'=t:=by
 have h3:=I.n3
 obtain⟨c,e⟩:=f
 have nU:0<=c/\c<e/\e<=n - 1:=by
  rcases hf with h |h
  . have:=I.lin c e h;lia
  . simp only at h;lia
 have ss:∀p q,x8 n ls (p,q)->p<c->c<q->e<=q:=fun p q hp h1 h2=>by
  rcases hf with h |h
  . have:=I.tnc hp (.inr h);lia
  . simp only at h;lia
 have f0:((0:Int),n - 1)≠(c,e):=fun z=>by
  cases z;rcases hf with h |h
  . have:=I.lin _ _ h;lia
  . simp only at h;lia
 obtain⟨t,ht,⟨gQ,nV,nX⟩,dZ⟩:=Rz (fun t:P2=>(t.2 - t.1).toNat) (fun t=>t.1<=c/\e<=t.2/\t≠(c,e)) ((0,n - 1)::ls) (n - 1).toNat ⟨(0,n - 1),by simp,⟨nU.1,nU.2.2,f0⟩,by simp⟩
 obtain⟨a,b⟩:=t
 have hT:x8 n ls (a,b):=gq.mp ht
 have dZ:∀p q,x8 n ls (p,q)->p<=c->e<=q->(p,q)≠(c,e)->b - a<=q - p:=fun p q hp h1 h2 h3=>by
  have t1:=I.top hT;have t2:=I.top hp;have:=dZ (p,q) (gq.mpr hp) ⟨h1,h2,h3⟩;simp only at this
  lia
 simp only at gQ nV
 have tt:=I.top hT
 have X:=hN _ hT
 have Z:=hC _ hT
 have G:=Z.ge X.up
 have Ed:=Z.edge X.up
 refine⟨(a,b),hT,?_,fun t' fA hm=>?_⟩
 . -- c is a oE of the room
   obtain⟨p,p1,p2,p3⟩:=Z.lo c gQ (by simp only;lia);have sv:=(G.1 p p1).1;simp only at sv p3;have nY:c=p:=by
    rcases p3 with p3 |⟨p3,p4⟩
    . exact p3
    . by_cases q:c=p
      . exact q
      . exfalso;have u:=X.up p p3;simp only at u;rcases X.or p p3 with⟨o1,o2⟩ |o
        . have o3:x8 n ls (p,N (a,b) p):=.inr o1;have:=ss _ _ o3 (by lia) p4;have:=dZ _ _ o3 (by lia) this (fun z=>by cases z;lia);exact o2 (Prod.ext (by simp only;lia) (by simp only;lia))
        . lia
   subst nY;refine(Ed.1 _ _).mpr ⟨p1,by simp only;lia,?_⟩;have u:=X.up c (by simp only;lia);simp only at u;have nZ:e<=N (a,b) c:=by
    rcases hf with h |h
    . exact X.ge c e h nV (fun z=>nX z.symm)
    . simp only at h;lia
   by_cases q:e=N (a,b) c
   . exact q
   . exfalso;rcases X.or c (by simp only;lia) with⟨o1,o2⟩ |o
     . have o3:x8 n ls (c,N (a,b) c):=.inr o1;have:=dZ _ _ o3 (by lia) nZ (fun z=>by cases z;lia);exact o2 (Prod.ext (by simp only;lia) (by simp only;lia))
     . lia
 . obtain⟨a',b'⟩:=t';have X':=hN _ fA;have Z':=hC _ fA;have G':=Z'.ge X'.up;have sw:=(Z'.edge X'.up).1 c e;obtain⟨m1,m2,m3⟩:=sw.mp hm;have u':=X'.up c m2;have mc:=(G'.1 c m1).1;simp only at m2 u' mc;have uU:=I.top fA;have sB:(a',b')≠(c,e):=fun z=>by
    cases z;rcases X'.or c m2 with⟨o1,o2⟩ |o
    . exact o2 (by rw[<-m3])
    . rw[<-m3]at o;lia
   have hl:=dZ a' b' fA mc (by lia) sB;have n1:=I.tnc hT fA;have n2:=I.tnc fA hT;have ha:a'<=a:=by lia
   have hb:b<=b':=by lia
   by_cases eq:(a',b')=(a,b)
   . exact eq
   exfalso;have dE:(a,b)∈ls:=by
    rcases hT with h |h
    . cases h;exact absurd (Prod.ext (by simp only;lia) (by simp only;lia)) eq
    . exact h
   have nZ:=X'.ge a b dE hb (fun z=>eq z.symm);by_cases q:a=c
   . subst q;exact nX (Prod.ext rfl (by simp only;lia))
   . obtain⟨p,p1,p2,p3⟩:=Z'.lo a ha (by simp only;lia);have nY:=Z'.le X'.up p c p1 m1 (by lia);simp only at p3;rcases p3 with p3 |⟨p3,p4⟩
     . subst p3;lia
     . by_cases q2:a=p
       . subst q2;lia
       . rcases X'.or p p3 with⟨o1,o2⟩ |o
         . have:=I.tnc (.inr o1) hT
           lia
         . lia
end
theorem Cb:∀{l:List α},(∀x∈l,φ x=0)->(l.map φ).sum=0
 | [],_=>rfl
 |a::l,h=>by rw[io,CW,h a (by simp),Cb fun x hx=>h x (by simp[hx])]
theorem Ca:∀{l:List α},l.Nodup->t∈l->(∀x∈l,x≠t->φ x=0)->(l.map φ).sum=φ t
 | [],_,h,_=>by cases h
 |a::l,nd,h,hz=>by
  rw[io,CW];have og:=AR.mp nd;by_cases e:a=t
  . subst e;rw[Cb fun x hx=>hz x (by simp[hx]) fun z=>og.1 (by rw[<-z];exact hx)];lia
  . rw[hz a (by simp) e,Ca og.2 ((gq.mp h).resolve_left fun z=>e z.symm) fun x hx hn=>hz x (by simp[hx]) hn];lia
theorem Ul{α:Type}{φ ψ:α->Nat}:∀{l:List α},(l.map fun x=>φ x+ψ x).sum=(l.map φ).sum+(l.map ψ).sum
 | []=>rfl
 |a::l=>by rw[io,io,io,CW,CW,CW,Ul (l:=l)];lia
section
variable {n:Int}{ls:List P2}{N:P2->Int->Int}
theorem Lns.tops_nd(I:Lns n ls):((0,n - 1)::ls).Nodup:=AR.mpr ⟨fun h=>by have:=I.lin _ _ h;omega,I.nd⟩
theorem Lns.twice(I:Lns n ls)(hN:∀t,x8 n ls t->Nx t ls (N t))(C:P2->List Int)(E:P2->List P2)(hC:∀t,x8 n ls t->Ch t.2 (N t) t.1 (C t) (E t))(hf:f=(0,n - 1)\/Gk n ls f) :
  (((0,n - 1)::ls).map fun t=>(E t++[t]).count f).sum=if f∈ls then 2 else 1:=by
 have e1:(fun t=>(E t++[t]).count f)=fun t=>(E t).count f+[t].count f:=by funext t;rw[List.count_append]
 rw[e1,Ul]
 have nd:=I.tops_nd
 have mt:∀t,t∈(0,n - 1)::ls↔x8 n ls t:=fun t=>gq
 have c1:∀t,x8 n ls t->(E t).count f=if f∈E t then 1 else 0:=fun t ht=>by rw[(((hC t ht).edge (hN t ht).up).2).count]
 have s2:∀t,[t].count f=if t=f then 1 else 0:=fun t=>by
  rw[List.count_singleton];by_cases z:t=f
  . rw[ζ z];simp[z]
  . rw[ξ z,ξ (by simpa using z)]
 by_cases h0:f∈ls
 . rw[ζ h0];obtain⟨t,ht,hm,hu⟩:=I.inner hN C E hC (.inl h0);rw[Ca nd ((mt t).mpr ht) (fun x hx hn=>by rw[c1 x ((mt x).mp hx),ξ fun z=>hn (hu x ((mt x).mp hx) z)]),Ca (t:=f) nd (by simp[h0]) (fun x hx hn=>by rw[s2,ξ hn]),c1 t ht,ζ hm,s2,ζ rfl]
 . rw[ξ h0];rcases hf with hf |hf
   . rw[Cb (fun x hx=>by
      rw[c1 x ((mt x).mp hx),ξ fun z=>?_];have:=((I.room ((mt x).mp hx) (hN _ ((mt x).mp hx)) (hC _ ((mt x).mp hx))).2.2.2.1 f z).1;rcases this with q |q
      . exact h0 q
      . have:=I.n3;rw[hf]at q;simp only at q;lia),Ca (t:=f) nd (by simp[hf]) (fun x hx hn=>by rw[s2,ξ hn]),s2,ζ rfl]
   . obtain⟨t,ht,hm,hu⟩:=I.inner hN C E hC hf;rw[Ca nd ((mt t).mpr ht) (fun x hx hn=>by
      rw[c1 x ((mt x).mp hx),ξ fun z=>hn (hu x ((mt x).mp hx) z)]),Cb (φ:=fun t=>[t].count f) (fun x hx=>by
      rw[s2,ξ fun z=>?_];rw[z]at hx;rcases gq.mp hx with q |q
      . rcases hf with hf |hf
        . exact h0 hf
        . have:=I.n3;rw[q]at hf;simp only at hf;lia
      . exact h0 q),c1 t ht,ζ hm]
end
def b1n(b:Bool):Nat:=if b=true then 1 else 0
theorem we(x y a c b:Int):b1n (bth x y (a,c,b))=if((x=a\/x=c\/x=b)/\(y=a\/y=c\/y=b)) then 1 else 0:=by
 unfold b1n;by_cases h:bth x y (a,c,b)=true
 . rw[ζ h,ζ (bth_iff.mp h)]
 . rw[ξ h,ξ (fun z=>h (bth_iff.mpr z))]
def e2(x y a b:Int):Nat:=if x=a/\y=b then 1 else 0
theorem y5f(oh:x<y)(h1:a<c)(h2:c<b):b1n (bth x y (a,c,b))=e2 x y a c+e2 x y c b+e2 x y a b:=by
 rw[we];unfold e2;by_cases z1:x=a/\y=c
 . rw[ζ ⟨.inl z1.1,.inr (.inl z1.2)⟩,ζ z1,ξ (fun z=>by lia),ξ (fun z=>by lia)]
 . by_cases z2:x=c/\y=b
   . rw[ζ ⟨.inr (.inl z2.1),.inr (.inr z2.2)⟩,ξ z1,ζ z2,ξ (fun z=>by clear z1;lia)]
   . by_cases z3:x=a/\y=b
     . rw[ζ ⟨.inl z3.1,.inr (.inr z3.2)⟩,ξ z1,ξ z2,ζ z3]
     . rw[ξ (fun z=>by rcases z with⟨h |h |h,k |k |k⟩<;>first |exact z1 ⟨h,k⟩ |exact z2 ⟨h,k⟩ |exact z3 ⟨h,k⟩ | (clear z1 z2 z3;lia)),ξ z1,ξ z2,ξ z3]
theorem CInv.top_or(I:CInv n ls T)(h:(a,c,b)∈T):(a,b)∈ls\/(a=0/\b=n - 1):=by
 have:(a,b)∈(0,n - 1)::ls:=I.prm.mem_iff.mp (AC.mpr ⟨(a,c,b),h,rfl⟩);rcases gq.mp this with z |z
 . simp only[Prod.mk.injEq]at z;exact .inr z
 . exact .inl z
structure Cut(n:Int)(ls:List P2)(T:List P3):Prop where
 inv:CInv n ls T
 cnt:Cnt n ls T
theorem nc2(I:CInv n ls T)(h:(a,b)∈ls\/b=a+1)(hx:(x,y)∈ls):¬(a<x/\x<b/\b<y)/\¬(x<a/\a<y/\y<b):=by
 rcases h with h |h
 . exact⟨I.nc a b x y h hx,I.nc x y a b hx h⟩
 . lia
theorem nc3(I:CInv n ls T)(h:(a,b)∈ls\/(a=0/\b=n - 1))(hx:(x,y)∈ls):¬(a<x/\x<b/\b<y)/\¬(x<a/\a<y/\y<b):=by
 rcases h with h |h
 . exact⟨I.nc a b x y h hx,I.nc x y a b hx h⟩
 . have:=I.lin x y hx;omega
theorem y8i{p m q r x y:Int}(a2:p<m)(a3:m<q)(b3:q<r)(k1:¬(p<x/\x<m/\m<y)/\¬(x<p/\p<y/\y<m))(k2:¬(m<x/\x<q/\q<y)/\¬(x<m/\m<y/\y<q))(k3:¬(q<x/\x<r/\r<y)/\¬(x<q/\q<y/\y<r))(k4:¬(p<x/\x<r/\r<y)/\¬(x<p/\p<y/\y<r))(h2:¬(x=p/\y=q))(hl:x+2<=y) :
  ¬(m<x/\x<r/\r<y)/\¬(x<m/\m<y/\y<r):=by
 refine⟨fun⟨u,v,z⟩=>k4.1 ⟨CQ a2 u,v,z⟩,fun⟨u,v,z⟩=>?_⟩
 rcases EM y q with f |f |f
 . exact k2.2 ⟨u,v,f⟩
 . subst f;rcases EM x p with e |e |e
   . exact k4.2 ⟨e,CQ a2 v,z⟩
   . exact h2 ⟨e,rfl⟩
   . exact k1.1 ⟨e,u,v⟩
 . exact k3.2 ⟨CQ u a3,f,z⟩
theorem y8j{p m q r x y:Int}(a2:p<m)(a3:m<q)(b2:r<p)(k1:¬(p<x/\x<m/\m<y)/\¬(x<p/\p<y/\y<m))(k2:¬(m<x/\x<q/\q<y)/\¬(x<m/\m<y/\y<q))(k3:¬(r<x/\x<p/\p<y)/\¬(x<r/\r<y/\y<p))(k4:¬(r<x/\x<q/\q<y)/\¬(x<r/\r<y/\y<q))(h2:¬(x=p/\y=q))(hl:x+2<=y) :
  ¬(r<x/\x<m/\m<y)/\¬(x<r/\r<y/\y<m):=by
 refine⟨fun⟨u,v,z⟩=>?_,fun⟨u,v,z⟩=>k4.2 ⟨u,v,CQ z a3⟩⟩
 rcases EM x p with e |e |e
 . exact k3.1 ⟨u,e,CQ a2 z⟩
 . subst e;rcases EM y q with f |f |f
   . exact k2.2 ⟨v,z,f⟩
   . exact h2 ⟨rfl,f⟩
   . exact k4.1 ⟨u,CQ v a3,f⟩
 . exact k1.1 ⟨e,v,z⟩
end Cu
namespace Cu
open L2 (mxD Y8)
def nxt(ls:List P2)(t:P2)(c:Int):Int:=mxD (c+1) (ends c t ls)
theorem Jw:(mxD d ys∈ys\/(ys=[]/\mxD d ys=d))/\∀y∈ys,y<=mxD d ys:=by
 cases ys with
 |nil=>exact⟨.inr ⟨rfl,rfl⟩,fun y hy=>by cases hy⟩
 |cons n ns=>
  obtain⟨a,b⟩:=Y8 ns n
  exact⟨.inl a,b⟩
theorem qm(I:Lns n ls)(t:P2):Nx t ls (nxt ls t) where
 up:=fun c hc=>by
  unfold nxt;rcases (Jw (d:=c+1) (ys:=ends c t ls)).1 with h |⟨_,h⟩
  . obtain⟨m1,m2,m3⟩:=mem_ends.mp h;have:=I.lin _ _ m1;exact⟨by lia,m2⟩
  . rw[h];lia
 or:=fun c hc=>by
  unfold nxt;rcases (Jw (d:=c+1) (ys:=ends c t ls)).1 with h |⟨_,h⟩
  . obtain⟨m1,m2,m3⟩:=mem_ends.mp h;exact .inl ⟨m1,fun z=>m3 ⟨BG Prod.fst z,BG Prod.snd z⟩⟩
  . exact .inr h
 ge:=fun c e h1 h2 h3=>(Jw (d:=c+1) (ys:=ends c t ls)).2 e (mem_ends.mpr ⟨h1,h2,fun z=>h3 (Prod.ext z.1 z.2)⟩)
theorem CInv.lns(I:CInv n ls T)(nd:xs.Nodup)(h:∀p∈xs,p∈ls):Lns n xs:=
 ⟨I.n3,fun a b m=>I.lin a b (h _ m),fun a b c d m1 m2=>I.nc a b c d (h _ m1) (h _ m2),nd⟩
theorem Uk(p:α->Bool):∀l:List α,(l.filter p).length=(l.map fun x=>b1n (p x)).sum
 | []=>rfl
 |x::l=>by rw[io,CW,<-Uk p l,DY];unfold b1n;cases p x<;>simp<;>lia
theorem y17(I:CInv n ls T):Cnt n ls T:=by
 intro x y oh;have L:=I.lns I.nd fun _ z=>z
 have hC:∀t,x8 n ls t->Ch t.2 (nxt ls t) t.1 [(thr T t).1,(thr T t).2.1,(thr T t).2.2] [((thr T t).1,(thr T t).2.1),((thr T t).2.1,(thr T t).2.2)]:=fun t ht=>by
  obtain⟨m,o⟩:=I.top_in (.refl _) (q:=t) (by rcases ht with rfl |h;exact dg;exact bI _ h);generalize thr T t=u at m o;obtain⟨a,c,b⟩:=u;simp only[outer]at o;subst o;have g:=I.tri a c b m;have e1:nxt ls (a,b) a=c:=I.beh1 (.refl _) m;have e2:nxt ls (a,b) c=b:=I.beh2 (.refl _) m;have s2:Ch b (nxt ls (a,b)) c [c,b] [(c,b)]:=by have:=Ch.step (b:=b) (nx:=nxt ls (a,b)) (c:=c) (l:=[b]) (es:=[]) (by omega) (by rw[e2];exact .last);rwa [e2]at this
  have s1:=Ch.step (b:=b) (nx:=nxt ls (a,b)) (c:=a) (l:=[c,b]) (es:=[(c,b)]) (by omega) (by rw[e1];exact s2);rw[e1]at s1;exact s1
 have key:(T.filter (bth x y)).length=(((0,n - 1)::ls).map fun t=>([((thr T t).1,(thr T t).2.1),((thr T t).2.1,(thr T t).2.2)]++[t]).count (x,y)).sum:=by rw[<-((I.tops (.refl ls)).filter (bth x y)).length_eq,Uk,AL];refine BG List.sum (AM fun t ht=>?_);obtain⟨m,o⟩:=I.top_in (.refl _) (q:=t) ht;show b1n (bth x y (thr T t))=_;generalize thr T t=u at m o;obtain⟨a,c,b⟩:=u;simp only[outer]at o;subst o;have g:=I.tri a c b m;rw[y5f oh (by omega) (by omega)];unfold e2;simp only[CC,DL,List.count_cons,List.count_nil,BN,Prod.mk.injEq];have c1:(a=x/\c=y)↔(x=a/\y=c):=⟨fun z=>⟨z.1.symm,z.2.symm⟩,fun z=>⟨z.1.symm,z.2.symm⟩⟩;have c2:(c=x/\b=y)↔(x=c/\y=b):=⟨fun z=>⟨z.1.symm,z.2.symm⟩,fun z=>⟨z.1.symm,z.2.symm⟩⟩;have c3:(a=x/\b=y)↔(x=a/\y=b):=⟨fun z=>⟨z.1.symm,z.2.symm⟩,fun z=>⟨z.1.symm,z.2.symm⟩⟩;simp only[c1,c2,c3];omega
 rw[key];by_cases hf:(x,y)=(0,n - 1)\/Gk n ls (x,y)
 . rw[L.twice (fun t _=>qm L t) (fun t=>[(thr T t).1,(thr T t).2.1,(thr T t).2.2]) (fun t=>[((thr T t).1,(thr T t).2.1),((thr T t).2.1,(thr T t).2.2)]) hC hf];unfold ee;by_cases hm:(x,y)∈ls
   . have:=I.lin x y hm;rw[ζ hm,ζ hm,ξ (by omega),ξ (by omega)]
   . have h3:=I.n3;rw[ξ hm,ξ hm];rcases hf with hf |hf |hf
     . simp only[Prod.mk.injEq]at hf;rw[ξ (by omega),ζ hf]
     . exact absurd hf hm
     . simp only at hf;rw[ζ ⟨hf.1,hf.2.1,hf.2.2⟩,ξ (by omega)]
 . have z:∀t∈(0,n - 1)::ls,([((thr T t).1,(thr T t).2.1),((thr T t).2.1,(thr T t).2.2)]++[t]).count (x,y)=0:=fun t ht=>by
    rw[List.count_eq_zero]
    intro hm
    have tt:x8 n ls t:=gq.mp ht
    rcases AN.mp hm with hm |hm
    . have:=((L.room tt (qm L t) (hC t tt)).2.2.2.1 (x,y) hm).1;exact hf (.inr this)
    . rw[tB]at hm;rw[hm]at hf;rcases tt with tt |tt
      . exact hf (.inl tt)
      . exact hf (.inr (.inl tt))
   rw[Cb z]
   unfold ee
   have n1:(x,y)∉ls:=fun h=>hf (.inr (.inl h))
   rw[ξ n1,ξ (fun h=>hf (.inr (.inr ⟨h.1,h.2.1,h.2.2⟩))),ξ (fun h=>hf (.inl (by rw[h.1,h.2])))]
theorem CInv.cut(I:CInv n ls T):Cut n ls T:=⟨I,y17 I⟩
end Cu
namespace Cu
theorem Cut.two(K:Cut n ls T)(hl:l∈ls):(T.filter (bth l.1 l.2)).length=2:=by have:=K.inv.lin l.1 l.2 hl;rw[K.cnt l.1 l.2 (by omega)];unfold ee;rw[ζ (show(l.1,l.2)∈ls from hl),ξ (by omega),ξ (by omega)]
theorem Q3{ls ls0:List P2}{p q:Int}{w:P2}(pl:ls.Perm ((p,q)::ls0)){x y:Int}(h1:(x,y)∈ls)(h2:¬(x=p/\y=q)):(x,y)∈ls0++[w]:=by
 rcases gq.mp (pl.mem_iff.mp h1) with z |z
 . exact absurd (Prod.mk.inj z) h2
 . exact List.mem_append_left _ z
theorem Cut.turnG(K:Cut n ls T)(pT:T.Perm (t1::t2::T0))(pl:ls.Perm ((p,q)::ls0))(b1:bth p q t1=true)(b2:bth p q t2=true)
  (hu:∀u,u=u1\/u=u2->0<=u.1/\u.1<u.2.1/\u.2.1<u.2.2/\u.2.2<=n - 1/\((u.1,u.2.1)∈ls0++[(a,b)]\/u.2.1=u.1+1)/\((u.2.1,u.2.2)∈ls0++[(a,b)]\/u.2.2=u.2.1+1))
  (hw:0<=a/\a+2<=b/\b<=n - 1/\¬(a=0/\b=n - 1)) (new:∀x y,(x,y)∈ls->¬(x=p/\y=q)->¬(a<x/\x<b/\b<y)/\¬(x<a/\a<y/\y<b)) (wn:(a,b)∉ls)
  (hp:∀s,((outer t1)::(outer t2)::T0.map outer).Perm ((p,q)::s)->((outer u1)::(outer u2)::T0.map outer).Perm ((a,b)::s)) :
  Cut n (ls0++[(a,b)]) (u1::u2::T0):=by
 have I:=K.inv
 have fB:=AR.mp (pl.nodup_iff.mp I.nd)
 have gA:(p,q)∈ls:=pl.mem_iff.mpr dg
 have sub:∀x y,(x,y)∈ls0->(x,y)∈ls/\¬(x=p/\y=q):=fun x y h=>⟨pl.mem_iff.mpr (bI _ h),fun z=>fB.1 (by rw[<-z.1,<-z.2];exact h)⟩
 refine CInv.cut ⟨I.n3,fun x y z h=>?_,fun x y h=>?_,fun x y z w h h'=>?_,?_,?_⟩
 . rcases gq.mp h with h |h
   . exact hu _ (.inl h)
   rcases gq.mp h with h |h
   . exact hu _ (.inr h)
   . obtain⟨c1,c2,c3,c4,c5,c6⟩:=I.tri x y z (pT.mem_iff.mpr (bI _ (bI _ h)));have e:=(pT.filter (bth p q)).length_eq;rw[show(T.filter (bth p q)).length=2 from K.two gA,CM b1,CM b2]at e;have nil:T0.filter (bth p q)=[]:=DO.mp (Nat.succ.inj (Nat.succ.inj e)).symm;have nb:¬(bth p q (x,y,z)=true):=fun w=>DG (nil ▸ AK.mpr ⟨h,w⟩)
     rw[bth_iff]at nb;exact⟨c1,c2,c3,c4,c5.imp (fun h=>Q3 pl h fun e=>nb ⟨.inl e.1.symm,.inr (.inl e.2.symm)⟩) id,c6.imp (fun h=>Q3 pl h fun e=>nb ⟨.inr (.inl e.1.symm),.inr (.inr e.2.symm)⟩) id⟩
 . rcases AN.mp h with h |h
   . exact I.lin x y (sub x y h).1
   . obtain⟨rfl,rfl⟩:=Prod.mk.inj (tB.mp h);exact hw
 . rcases AN.mp h with k |k<;>rcases AN.mp h' with k' |k'
   . exact I.nc x y z w (sub x y k).1 (sub z w k').1
   . obtain⟨e1,e2⟩:=Prod.mk.inj (tB.mp k');rw[e1,e2];exact(new x y (sub x y k).1 (sub x y k).2).2
   . obtain⟨e1,e2⟩:=Prod.mk.inj (tB.mp k);rw[e1,e2];exact(new z w (sub z w k').1 (sub z w k').2).1
   . rw[(Prod.mk.inj (tB.mp k)).1,(Prod.mk.inj (tB.mp k')).1];exact fun e=>Int.lt_irrefl _ e.1
 . rw[List.nodup_append];refine⟨fB.2,AR.mpr ⟨DG,List.nodup_nil⟩,fun x hx y hy e=>wn ?_⟩;rw[<-tB.mp hy,<-e];exact(sub _ _ hx).1
 . refine(hp _ (((pT.map outer).symm.trans I.prm).trans ((pl.cons _).trans (.swap _ _ _)))).trans ?_;exact(List.Perm.swap _ _ _).trans (List.Perm.cons _ (EH _ _).symm)
theorem Cut.turnA(K:Cut n ls T)(pT:T.Perm ((p,m,q)::(p,q,r)::T0))(pl:ls.Perm ((p,q)::ls0)) :
  Cut n (ls0++[(m,r)]) ((p,m,r)::(m,q,r)::T0):=by
 have I:=K.inv
 have m2:(p,q,r)∈T:=pT.mem_iff.mpr (bI _ dg)
 obtain⟨a1,a2,a3,a4,a5,a6⟩:=I.tri p m q (pT.mem_iff.mpr dg)
 obtain⟨b1,b2,b3,b4,b5,b6⟩:=I.tri p q r m2
 have tp:=I.top_or m2
 have gA:(p,q)∈ls:=pl.mem_iff.mpr dg
 have lG:(m,r)∈ls0++[(m,r)]:=AE _ dg
 have c1:0<=m:=Int.le_of_lt (Int.lt_of_le_of_lt a1 a2)
 refine K.turnG pT pl (bth_iff.mpr ⟨.inl rfl,.inr (.inr rfl)⟩) (bth_iff.mpr ⟨.inl rfl,.inr (.inl rfl)⟩) (fun u h=>?_) ⟨c1,by clear a5 a6 b5 b6 tp;lia,b4,fun z=>by have:=z.1;lia⟩ (fun x y h1 h2=>y8i a2 a3 b3 (nc2 I a5 h1) (nc2 I a6 h1) (nc2 I b6 h1) (nc3 I tp h1) h2 (I.lin x y h1).2.1) (fun z=>I.nc p q m r gA z ⟨a2,a3,b3⟩) (fun s h=>?_)
 . rcases h with rfl |rfl
   . exact⟨a1,a2,CQ a3 b3,b4,a5.imp (fun h=>Q3 pl h fun z=>Int.ne_of_lt a3 z.2) id,.inl lG⟩
   . exact⟨c1,a3,b3,b4,a6.imp (fun h=>Q3 pl h fun z=>Int.ne_of_gt a2 z.1) id,b6.imp (fun h=>Q3 pl h fun z=>Int.ne_of_gt b3 z.2) id⟩
 . exact(List.Perm.swap _ _ _).trans (((List.perm_cons (p,q)).mp h).cons _)
theorem Cut.turnB(K:Cut n ls T)(pT:T.Perm ((p,m,q)::(r,p,q)::T0))(pl:ls.Perm ((p,q)::ls0)) :
  Cut n (ls0++[(r,m)]) ((r,p,m)::(r,m,q)::T0):=by
 have I:=K.inv
 have m2:(r,p,q)∈T:=pT.mem_iff.mpr (bI _ dg)
 obtain⟨a1,a2,a3,a4,a5,a6⟩:=I.tri p m q (pT.mem_iff.mpr dg)
 obtain⟨b1,b2,b3,b4,b5,b6⟩:=I.tri r p q m2
 have tp:=I.top_or m2
 have gA:(p,q)∈ls:=pl.mem_iff.mpr dg
 have lG:(r,m)∈ls0++[(r,m)]:=AE _ dg
 have c1:m<=n - 1:=Int.le_of_lt (Int.lt_of_lt_of_le a3 a4)
 refine K.turnG pT pl (bth_iff.mpr ⟨.inl rfl,.inr (.inr rfl)⟩) (bth_iff.mpr ⟨.inr (.inl rfl),.inr (.inr rfl)⟩) (fun u h=>?_) ⟨b1,by clear a5 a6 b5 b6 tp;lia,c1,fun z=>by have:=z.2;lia⟩ (fun x y h1 h2=>y8j a2 a3 b2 (nc2 I a5 h1) (nc2 I a6 h1) (nc2 I b5 h1) (nc3 I tp h1) h2 (I.lin x y h1).2.1) (fun z=>I.nc r m p q z gA ⟨b2,a2,a3⟩) (fun s h=>?_)
 . rcases h with rfl |rfl
   . exact⟨b1,b2,a2,c1,b5.imp (fun h=>Q3 pl h fun z=>Int.ne_of_lt b2 z.1) id,a5.imp (fun h=>Q3 pl h fun z=>Int.ne_of_lt a3 z.2) id⟩
   . exact⟨b1,CQ b2 a2,a3,a4,.inl lG,a6.imp (fun h=>Q3 pl h fun z=>Int.ne_of_gt a2 z.1) id⟩
 . exact((List.perm_cons (p,q)).mp h).cons _
theorem CInv.T_nodup(I:CInv n ls T):T.Nodup:=by
 have h:((0,n - 1)::ls).Nodup:=by rw[AR];exact⟨fun z=>by have:=I.lin _ _ z;omega,I.nd⟩
 have:=I.prm.nodup_iff.mpr h;exact List.Pairwise.of_map outer (fun a b h e=>h (by rw[e])) this
open L2 (so3 V1 soI Lw ltT L Fy N8 Gn Bx Z6)
theorem We(p:a.Perm b):soI a=soI b:=by have:=Fy (N8 b L2.D.int Gn) (p.map L2.D.int);rw[Bx,Bx]at this;exact Z6 (fun _ _ h=>by cases h;rfl) this
theorem ql(h:a<b):soI [a,b]=[a,b]:=by
 have e:ltT (L2.D.int b) (L2.D.int a)=false:=by simp only[L2.ltT];exact decide_eq_false (by lia)
 simp only[soI,L2.sortB,L2.insB,e,AF,BK]
def r8(T:List P3)(p:P2):List Int:=soI (((so3 T).filter (bth p.1 p.2)).map fun t=>t.1+(t.2.1+(t.2.2+0)) - (p.1+(p.2+0)))
theorem Uj(h:(T.filter (bth p.1 p.2)).Perm F):r8 T p=soI (F.map fun t=>t.1+(t.2.1+(t.2.2+0)) - (p.1+(p.2+0))):=
 We (((((V1 T).filter _).trans h)).map _)
theorem under(I:CInv n ls T)(h:(a,b)=(0,n - 1)\/(a,b)∈ls):∃m,(a,m,b)∈T:=by obtain⟨t1,t2⟩:=I.top_in (ls':=ls) (.refl _) (q:=(a,b)) (gq.mpr h);generalize Cu.thr T (a,b)=u at t1 t2;obtain⟨x,m,y⟩:=u;simp only[outer,Prod.mk.injEq]at t2;obtain⟨rfl,rfl⟩:=t2;exact⟨m,t1⟩
section
variable {n:Int}{ls:List P2}{T:List P3}{p m q r:Int}
theorem Jv{α:Type}[DecidableEq α]{l:List α}{x y:α}(hx:x∈l)(hy:y∈l)(aA:x≠y):∃s,l.Perm (x::y::s):=by have sC:y∈l.erase x:=(List.mem_erase_of_ne (BX aA)).mpr hy;exact⟨(l.erase x).erase y,(EC hx).trans ((EC sC).cons x)⟩
theorem Ui(K:Cut n ls T)(h:l∈ls)(h1:t1∈T)(h2:t2∈T)(aA:t1≠t2)(b1:bth l.1 l.2 t1=true)(b2:bth l.1 l.2 t2=true):(T.filter (bth l.1 l.2)).Perm [t1,t2]:=by
 obtain⟨T0,pT⟩:=Jv h1 h2 aA;have e:=pT.filter (bth l.1 l.2);rw[CM b1,CM b2]at e;have l0:(T0.filter (bth l.1 l.2)).length=0:=by
  have:=e.length_eq;rw[K.two h]at this;simp only[pp]at this
  lia
 rwa [DO.mp l0]at e
theorem Ry(K:Cut n ls T)(h:(p,q)∈ls)(h1:(p,m,q)∈T)(h2:(p,q,r)∈T):r8 T (p,q)=[m,r]:=by have g1:=K.inv.tri _ _ _ h1;have g2:=K.inv.tri _ _ _ h2;rw[Uj (Ui K h h1 h2 (by simp only[ne_eq,Prod.mk.injEq];omega) (bth_iff.mpr (by simp)) (bth_iff.mpr (by simp)))];simp only[io,AQ];rw[show p+(m+(q+0)) - (p+(q+0))=m by omega,show p+(q+(r+0)) - (p+(q+0))=r by omega];exact ql (by omega)
theorem Rx(K:Cut n ls T)(h:(p,q)∈ls)(h1:(p,m,q)∈T)(h2:(r,p,q)∈T):r8 T (p,q)=[r,m]:=by have g1:=K.inv.tri _ _ _ h1;have g2:=K.inv.tri _ _ _ h2;rw[Uj (Ui K h h1 h2 (by simp only[ne_eq,Prod.mk.injEq];omega) (bth_iff.mpr (by simp)) (bth_iff.mpr (by simp)))];simp only[io,AQ];rw[show p+(m+(q+0)) - (p+(q+0))=m by omega,show r+(p+(q+0)) - (p+(q+0))=r by omega,We (List.Perm.swap r m [])];exact ql (by omega)
theorem above(K:Cut n ls T)(h:(p,q)∈ls):∃m r,(p,m,q)∈T/\((p,q,r)∈T\/(r,p,q)∈T):=by
 obtain⟨m,hm⟩:=under K.inv (.inr h);have g:=K.inv.tri _ _ _ hm;have two:=K.two h;simp only at two;obtain⟨u,hu,aA⟩:∃u,u∈T.filter (bth p q)/\u≠(p,m,q):=by
  have dE:(p,m,q)∈T.filter (bth p q):=AK.mpr ⟨hm,bth_iff.mpr (by simp)⟩;have nd:(T.filter (bth p q)).Nodup:=K.inv.T_nodup.filter _
  match hf:T.filter (bth p q),two with
  | [x,y],_=>
   rw[hf]at nd dE
   simp only[AR,tB]at nd
   by_cases e:x=(p,m,q)
   . exact⟨y,by simp,fun z=>nd.1 (by rw[e,z])⟩
   . exact⟨x,by simp,e⟩
 obtain⟨gB,hb⟩:=AK.mp hu;obtain⟨x,y,z⟩:=u;have g2:=K.inv.tri _ _ _ gB;have hb:=bth_iff.mp hb;refine⟨m,?_⟩;rcases hb with⟨c1,c2⟩;by_cases e1:p=x/\q=y
 . exact⟨z,hm,.inl (by rw[e1.1,e1.2];exact gB)⟩
 by_cases e2:p=y/\q=z
 . exact⟨x,hm,.inr (by rw[e2.1,e2.2];exact gB)⟩
 have e3:p=x/\q=z:=by
  have ga:=g.2.1;have gb:=g.2.2.1;have gc:=g2.2.1;have gd:=g2.2.2.1;clear g g2 two hu gB aA;rcases c1 with c1 |c1 |c1<;>rcases c2 with c2 |c2 |c2
  . lia
  . exact absurd ⟨c1,c2⟩ e1
  . exact⟨c1,c2⟩
  . lia
  . lia
  . exact absurd ⟨c1,c2⟩ e2
  . lia
  . lia
  . lia
 have o1:=K.inv.thr_outer hm;have o2:=K.inv.thr_outer gB;simp only[outer]at o1 o2;rw[<-e3.1,<-e3.2,o1]at o2;exact absurd (by rw[<-e3.1,<-e3.2];exact o2.symm) aA
end
theorem Cut.turn(K:Cut n ls T)(hl:l∈ls) :
  ∃(w:P2)(ls0:List P2)(T':List P3),ls.Perm (l::ls0)/\Cut n (ls0++[w]) T'/\r8 T l=[w.1,w.2]/\r8 T' w=[l.1,l.2]/\w∉ls:=by
 obtain⟨p,q⟩:=l
 have I:=K.inv
 obtain⟨m,r,h1,h2⟩:=above K hl
 have g1:=(I.tri _ _ _ h1).2
 have pl:ls.Perm ((p,q)::ls.erase (p,q)):=EC hl
 rcases h2 with h2 |h2
 . have g2:=(I.tri _ _ _ h2).2.2.1;obtain⟨T0,pT⟩:=Jv h1 h2 (fun e=>by have:=BG (fun t:P3=>t.2.1) e;simp only at this;have:=g1.2.1;omega);have K':=K.turnA pT pl;exact⟨(m,r),_,_,pl,K',Ry K hl h1 h2,Rx K' (m:=q) (AE _ dg) (bI _ dg) dg,fun z=>I.nc p q m r hl z ⟨g1.1,g1.2.1,g2⟩⟩
 . have g2:=(I.tri _ _ _ h2).2.1;obtain⟨T0,pT⟩:=Jv h1 h2 (fun e=>by have:=BG (fun t:P3=>t.1) e;simp only at this;omega);have K':=K.turnB pT pl;exact⟨(r,m),_,_,pl,K',Rx K hl h1 h2,Ry K' (m:=p) (AE _ dg) dg (bI _ dg),fun z=>I.nc r m p q z hl ⟨g2,g1.1,g1.2.1⟩⟩
end Cu
namespace Bd
abbrev Vc:=Int×Int
def dt(u v:Vc):Int:=u.1 * v.2 - u.2 * v.1
theorem wc(a:Vc):dt a a=0:=by simp only[dt];grind
def ng(u:Vc):Vc:=(-u.1,-u.2)
theorem y5g(a c:Vc):dt c a=- dt a c:=by simp only[dt];grind
structure Fr(n:Nat)(R:Nat->Int)(v:Nat->Vc):Prop where
 per:∀k,v (k+n)=ng (v k)
 ini:dt (v 0) (v 1)=1
 rc1:∀k,(v (k+2)).1=R ((k+1) % n) * (v (k+1)).1 - (v k).1
 rc2:∀k,(v (k+2)).2=R ((k+1) % n) * (v (k+1)).2 - (v k).2
 pos:∀i j,i<j->j<i+n->0<dt (v i) (v j)
variable {n:Nat}{R:Nat->Int}{v:Nat->Vc}
theorem Fr.rc(F:Fr n R v)(u:Vc)(k:Nat) :
  dt u (v (k+2))=R ((k+1) % n) * dt u (v (k+1)) - dt u (v k):=by
 simp only[dt,F.rc1 k,F.rc2 k];grind
theorem Fr.one(F:Fr n R v):∀k,dt (v k) (v (k+1))=1
 | 0=>F.ini
 |k+1=>by have h:=F.rc (v (k+1)) k;rw[h,wc,y5g (v k),F.one k];grind
def gR(n c:Nat)(R:Nat->Int)(k:Nat):Int:=
 if k=c+1 then 1 else
 let o:=if k<=c then k else k - 1
 R o+(if o=c then 1 else 0)+(if o=(c+1) % n then 1 else 0)
theorem sm(q n:Nat):(q+1) * n=q * n+n:=Nat.succ_mul q n
def lin(x:Int)(b a:Vc):Vc:=(x * b.1 - a.1,x * b.2 - a.2)
def v3(k:Nat):Vc:=if k % 6=0 then(1,0) else if k % 6=1 then(0,1) else if k % 6=2 then(-1,1)
 else if k % 6=3 then(-1,0) else if k % 6=4 then(0,-1) else(1,-1)
theorem y8k(k:Nat):k % 6=0\/k % 6=1\/k % 6=2\/k % 6=3\/k % 6=4\/k % 6=5:=by
 have h:k % 6<6:=Nat.mod_lt _ (by decide)
 revert h
 generalize k % 6=m;intro h;rcases m with _ |_ |_ |_ |_ |_ |m
 . exact .inl rfl
 . exact .inr (.inl rfl)
 . exact .inr (.inr (.inl rfl))
 . exact .inr (.inr (.inr (.inl rfl)))
 . exact .inr (.inr (.inr (.inr (.inl rfl))))
 . exact .inr (.inr (.inr (.inr (.inr rfl))))
 . exact absurd h (Nat.not_lt_of_le (Nat.le_add_left 6 m))
theorem fr3:Fr 3 (fun _=>1) v3:=by
 have key:∀k,v3 k=v3 (k % 6):=fun k=>by simp only[v3,Nat.mod_mod]
 have ks:∀k a,v3 (k+a)=v3 ((k % 6+a) % 6):=fun k a=>by rw[key (k+a)];congr 1;lia
 have gC:=y8k;refine⟨fun k=>?_,rfl,fun k=>?_,fun k=>?_,fun i j h h2=>?_⟩
 . rw[ks k 3,key k];rcases gC k with e |e |e |e |e |e<;>rw[e]<;>rfl
 . rw[ks k 2,ks k 1,key k];rcases gC k with e |e |e |e |e |e<;>rw[e]<;>rfl
 . rw[ks k 2,ks k 1,key k];rcases gC k with e |e |e |e |e |e<;>rw[e]<;>rfl
 . obtain rfl |rfl:j=i+1\/j=i+2:=by lia
   . rw[ks i 1,key i];rcases gC i with e |e |e |e |e |e<;>rw[e]<;>decide
   . rw[ks i 2,key i];rcases gC i with e |e |e |e |e |e<;>rw[e]<;>decide
def Au(row:List Int)(c:Nat):List Int:=
 let m1:=row.set c (row.getD c 0+1)
 let m2:=m1.set ((c+1) % row.length) (m1.getD ((c+1) % row.length) 0+1)
 m2.take (c+1)++1::m2.drop (c+1)
theorem zk(row:List Int)(c:Nat)(hc:c<row.length):(Au row c).length=row.length+1:=by simp only[Au,AY,DI,CT,pp,List.length_drop];lia
theorem Mj(l:List Int)(i j:Nat)(x:Int)(hi:i<l.length):(l.set i x).getD j 0=if j=i then x else l.getD j 0:=by
 rw[lO,List.getElem?_set,lO];by_cases e:i=j
 . subst e;simp[hi]
 . rw[ξ e,ξ (BX e)]
theorem yc(row:List Int)(c k:Nat)(hc:c<row.length)(hn:2<=row.length)(hk:k<row.length+1) :
  (Au row c).getD k 0=gR row.length c (fun k=>row.getD k 0) k:=by
 have hm:(c+1) % row.length<row.length:=Nat.mod_lt _ (by lia)
 have aA:(c+1) % row.length≠c:=by
  by_cases z:c+1=row.length
  . rw[z,Nat.mod_self];lia
  . rw[Nat.mod_eq_of_lt (by lia)];lia
 have e2:∀j,((row.set c (row.getD c 0+1)).set ((c+1) % row.length) ((row.set c (row.getD c 0+1)).getD ((c+1) % row.length) 0+1)).getD j 0
   = row.getD j 0+(if j=c then 1 else 0)+(if j=(c+1) % row.length then 1 else 0):=fun j=>by
  rw[Mj _ _ _ _ (by rw[CT];exact hm),Mj _ _ _ _ hc,Mj _ _ _ _ hc,ξ aA]
  by_cases a:j=(c+1) % row.length
  . rw[ζ a,ζ a,ξ (by lia),a];lia
  . rw[ξ a,ξ a];by_cases b:j=c
    . rw[ζ b,ζ b,b];lia
    . rw[ξ b,ξ b];lia
 simp only[Au]
 generalize lF:(row.set c (row.getD c 0+1)).set ((c+1) % row.length) ((row.set c (row.getD c 0+1)).getD ((c+1) % row.length) 0+1)=m2 at e2⊢
 have hl:m2.length=row.length:=by rw[<-lF,CT,CT]
 have ht:(m2.take (c+1)).length=c+1:=by rw[DI,hl];lia
 unfold gR
 by_cases a:k=c+1
 . rw[ζ a,lO,AV (by lia),ht,a];simp
 . rw[ξ a];by_cases b:k<=c
   . rw[ζ b];show _=row.getD k 0+(if k=c then 1 else 0)+(if k=(c+1) % row.length then 1 else 0);rw[<-e2,lO,BH (by lia),List.getElem?_take,ζ (by lia),lO]
   . rw[ξ b];show _=row.getD (k-1) 0+(if k-1=c then 1 else 0)+(if k-1=(c+1) % row.length then 1 else 0);obtain⟨t,rfl⟩:∃t,k=c+1+(t+1):=⟨k - (c+2),by lia⟩;rw[<-e2,lO,AV (by lia),ht,lO,
      show c+1+(t+1) - (c+1)=t+1 by lia,List.getElem?_cons_succ,List.getElem?_drop,show c+1+(t+1) - 1=c+1+t by lia]
end Bd
namespace Cu
open Bd (gR Au yc zk)
def ind(k:Int)(t:P3):Int:=(if k=t.1 then 1 else 0)+(if k=t.2.1 then 1 else 0)+(if k=t.2.2 then 1 else 0)
def c1(k:Int):List P3->Int
 | []=>0
 |t::r=>ind k t+c1 k r
end Cu
namespace Cu
open L2 (so2 G3 By ltT T2 Srt Fv Cj N8 Dw Z6 Sj D)
def un(e x:Int):Int:=if x > e then x - 1 else x
end Cu
namespace Cu
open L2 (so2 G3 V0)
def nr(p:P2):P2:=if p.1<p.2 then p else(p.2,p.1)
theorem y5h(a b:Int):nr (a,b)=nr (b,a):=by
 unfold nr;by_cases h:a<b
 . rw[ζ h,ξ (show ¬(b,a).1<(b,a).2 by show ¬b<a;lia)]
 . by_cases h2:b<a
   . rw[ξ h,ζ h2]
   . rw[ξ h,ξ h2];simp only[Prod.mk.injEq];lia
def im(f:Int->Int)(p:P2):P2:=nr (f p.1,f p.2)
theorem Hm(f g:Int->Int)(p:P2):im f (im g p)=im (fun x=>f (g x)) p:=by
 show nr (f (nr (g p.1,g p.2)).1,f (nr (g p.1,g p.2)).2)=nr (f (g p.1),f (g p.2));generalize g p.1=a;generalize g p.2=b;by_cases h:a<b
 . rw[show nr (a,b)=(a,b) from ζ h]
 . rw[show nr (a,b)=(b,a) from ξ h,y5h]
def Inn(n:Int)(ls:List P2):Prop:=∀a b,(a,b)∈ls->0<=a/\a<b/\b<n
theorem Wd(hl:Inn n ls)(h:∀x,0<=x->x<n->f x=g x):ls.map (im f)=ls.map (im g):=
 AM fun⟨a,b⟩ hp=>by obtain⟨h1,h2,h3⟩:=hl a b hp;unfold im;rw[h a h1 (by lia),h b (by lia) h3]
theorem qk(hl:Inn n ls):ls.map (im fun x=>x)=ls:=by
 have:ls.map (im fun x=>x)=ls.map id:=AM fun⟨a,b⟩ hp=>by obtain⟨h1,h2,h3⟩:=hl a b hp;exact ζ h2
 rw[this,List.map_id]
def imL(f:Int->Int)(ls:List P2):List P2:=so2 (ls.map (im f))
theorem Uh(f g:Int->Int)(ls:List P2):imL f (imL g ls)=imL (fun x=>f (g x)) ls:=by unfold imL;rw[V0 ((G3 (ls.map (im g))).map (im f)),AL];congr 1;exact AM fun p _=>Hm f g p
theorem wa(f:Int->Int)(ls:List P2):(imL f ls).length=ls.length:=by unfold imL;rw[(G3 _).length_eq,gV]
theorem Ju(ls:List P2):so2 (so2 ls)=so2 ls:=V0 (G3 ls)
theorem zj(hl:Inn n ls)(h:∀x,0<=x->x<n->f x=g x):imL f ls=imL g ls:=by unfold imL;rw[Wd hl h]
theorem Rw(hl:Inn n ls)(h:∀x,0<=x->x<n->f x=x):imL f ls=so2 ls:=by rw[zj hl h];unfold imL;rw[qk hl]
theorem CInv.inn(I:CInv n ls T):Inn n ls:=fun a b h=>by have:=I.lin a b h;omega
theorem CInv.perm(I:CInv n ls T)(p:ls'.Perm ls):CInv n ls' T where
 n3:=I.n3
 tri:=fun a c b h=>by rw[p.mem_iff,p.mem_iff];exact I.tri a c b h
 lin:=fun a b h=>I.lin a b (p.mem_iff.mp h)
 nc:=fun a b c d h h'=>I.nc a b c d (p.mem_iff.mp h) (p.mem_iff.mp h')
 nd:=p.nodup_iff.mpr I.nd
 prm:=I.prm.trans (p.symm.cons _)
theorem Wc[BEq α][LawfulBEq α]:∀{a b:List α},a.Nodup->(∀x∈a,x∈b)->b.length<=a.length->a.Perm b
 | [],b,_,_,h=>by cases b with
  |nil=>exact .refl _
  |cons x r=>simp at h
 |x::a,b,hn,hs,hl=>by
  have hx:x∈b:=hs x (by simp);have hp:=EC hx;rw[AR]at hn;refine .trans (.cons x (Wc hn.2 (fun y hy=>?_) ?_)) hp.symm
  . exact(List.mem_erase_of_ne (fun e=>hn.1 (by rw[<-e];exact hy))).mpr (hs y (by simp[hy]))
  . rw[List.length_erase_of_mem hx];simp only[pp]at hl;omega
def ro(n x:Int):Int:=if x=n - 1 then 0 else x+1
def ro3(n:Int)(t:P3):P3:=if t.2.2=n - 1 then(0,t.1+1,t.2.1+1) else(t.1+1,t.2.1+1,t.2.2+1)
section
variable {n:Int}{ls:List P2}{T:List P3}
theorem CInv.out(I:CInv n ls T)(h:t∈T):outer t=(0,n - 1)\/outer t∈ls:=by have:=I.prm.mem_iff.mp (AC.mpr ⟨t,h,rfl⟩);simpa using this
theorem O5(h0:0<=a)(h:a<n - 1):im (ro n) (a,n - 1)=(0,a+1):=by unfold im ro;show nr ((if a=n - 1 then 0 else a+1),(if n - 1=n - 1 then 0 else n - 1+1))=_;rw[ξ (by omega),ζ rfl];exact ξ (by show ¬a+1<0;omega)
theorem K6(h0:a<b)(h:b<n - 1):im (ro n) (a,b)=(a+1,b+1):=by unfold im ro;show nr ((if a=n - 1 then 0 else a+1),(if b=n - 1 then 0 else b+1))=_;rw[ξ (by lia),ξ (by lia)];exact ζ (by show a+1<b+1;lia)
theorem CInv.low(I:CInv n ls T):((T.filter fun t=>decide (t.2.2=n - 1)).map (·.2.1)).Perm ((n - 2)::(ls.filter fun p=>decide (p.2=n - 1)).map (·.1)):=by
 have hT:T.Nodup:=by have:(T.map outer).Nodup:=I.prm.nodup_iff.mpr (AR.mpr ⟨fun h=>(I.lin _ _ h).2.2.2 ⟨rfl,rfl⟩,I.nd⟩);exact List.Pairwise.of_map outer (fun a b h e=>h (by rw[e])) this
 have am:(T.filter fun t=>decide (t.2.2=n - 1)).length=(ls.filter fun p=>decide (p.2=n - 1)).length+1:=by have:=(I.prm.filter fun p=>decide (p.2=n - 1)).length_eq;rw[List.filter_map,gV]at this;rw[show((fun p:P2=>decide (p.2=n - 1))∘outer)=fun t:P3=>decide (t.2.2=n - 1) from rfl]at this;rw[this,CM (by simp),pp]
 refine Wc ?_ ?_ ?_
 . refine CZ.mpr ((hT.filter _).imp_of_mem ?_);rintro⟨a,c,b⟩ ⟨a',c',b'⟩ h h' aA e;obtain⟨hm,hb⟩:=AK.mp h;obtain⟨bb,cc⟩:=AK.mp h';have hb:b=n - 1:=by simpa using hb
   have cc:b'=n - 1:=by simpa using cc
   have e:c=c':=e;subst hb;subst cc;subst e;have t1:=I.tri _ _ _ hm;have t2:=I.tri _ _ _ bb;have key:∀x y,(x,c,n - 1)∈T->(y,c,n - 1)∈T->¬x<y:=fun x y hx hy aH=>by
    have u1:=I.tri _ _ _ hx;have u2:=I.tri _ _ _ hy;have o:(y,n - 1)=(0,n - 1)\/(y,n - 1)∈ls:=I.out hy;rcases o with o |o
    . simp only[Prod.mk.injEq]at o;omega
    . rcases u1.2.2.2.2.1 with z |z
      . exact I.nc x c y (n - 1) z o (by omega)
      . omega
   have:=key a a' hm bb;have:=key a' a bb hm;exact aA (by rw[show a=a' by omega])
 . rintro x hx;obtain⟨⟨a,c,b⟩,h,rfl⟩:=AC.mp hx;obtain⟨hm,hb⟩:=AK.mp h;have hb:b=n - 1:=by simpa using hb
   subst hb;have t1:=I.tri _ _ _ hm;rcases t1.2.2.2.2.2 with z |z
   . exact bI _ (AC.mpr ⟨(c,n - 1),AK.mpr ⟨z,by simp⟩,rfl⟩)
   . rw[show(n - 2:Int)=c by omega];exact dg
 . simp only[pp,gV,am];omega
theorem CInv.rot(I:CInv n ls T):CInv n (ls.map (im (ro n))) (T.map (ro3 n)) where
 n3:=I.n3
 tri:=fun x y z h=>by
  obtain⟨⟨a,c,b⟩,hm,e⟩:=AC.mp h;have t:=I.tri a c b hm;have n3:=I.n3;by_cases hb:b=n - 1
  . rw[show ro3 n (a,c,b)=(0,a+1,c+1) from ζ hb]at e;simp only[Prod.mk.injEq]at e;obtain⟨rfl,rfl,rfl⟩:=e;refine⟨by lia,by lia,by lia,by lia,?_,?_⟩
    . rcases I.out hm with o |o
      . simp only[outer,Prod.mk.injEq]at o;exact Or.inr (by lia)
      . refine Or.inl (AC.mpr ⟨(a,b),o,?_⟩);rw[hb,O5 t.1 (by lia)]
    . rcases t.2.2.2.2.1 with o |o
      . exact Or.inl (AC.mpr ⟨(a,c),o,K6 (by lia) (by lia)⟩)
      . exact Or.inr (by lia)
  . rw[show ro3 n (a,c,b)=(a+1,c+1,b+1) from ξ hb]at e;simp only[Prod.mk.injEq]at e;obtain⟨rfl,rfl,rfl⟩:=e;refine⟨by lia,by lia,by lia,by lia,?_,?_⟩
    . rcases t.2.2.2.2.1 with o |o
      . exact Or.inl (AC.mpr ⟨(a,c),o,K6 (by lia) (by lia)⟩)
      . exact Or.inr (by lia)
    . rcases t.2.2.2.2.2 with o |o
      . exact Or.inl (AC.mpr ⟨(c,b),o,K6 (by lia) (by lia)⟩)
      . exact Or.inr (by lia)
 lin:=fun x y h=>by
  obtain⟨⟨a,b⟩,hm,e⟩:=AC.mp h;have t:=I.lin a b hm;by_cases hb:b=n - 1
  . rw[hb,O5 t.1 (by lia)]at e;simp only[Prod.mk.injEq]at e;lia
  . rw[K6 (by lia) (by lia)]at e;simp only[Prod.mk.injEq]at e;lia
 nc:=fun x y z w h h'=>by
  obtain⟨⟨a,b⟩,hm,e⟩:=AC.mp h;obtain⟨⟨c,d⟩,bb,e'⟩:=AC.mp h';have t:=I.lin a b hm;have t':=I.lin c d bb;have n1:=I.nc a b c d hm bb;have n2:=I.nc c d a b bb hm;by_cases hb:b=n - 1
  . rw[hb,O5 t.1 (by lia)]at e;simp only[Prod.mk.injEq]at e;by_cases hd:d=n - 1
    . rw[hd,O5 t'.1 (by lia)]at e';simp only[Prod.mk.injEq]at e';lia
    . rw[K6 (by lia) (by lia)]at e';simp only[Prod.mk.injEq]at e';lia
  . rw[K6 (by lia) (by lia)]at e;simp only[Prod.mk.injEq]at e;by_cases hd:d=n - 1
    . rw[hd,O5 t'.1 (by lia)]at e';simp only[Prod.mk.injEq]at e';lia
    . rw[K6 (by lia) (by lia)]at e';simp only[Prod.mk.injEq]at e';lia
 nd:=by
  refine CZ.mpr (List.Pairwise.imp_of_mem ?_ I.nd);rintro⟨a,b⟩ ⟨c,d⟩ hm bb aA e;have t:=I.lin a b hm;have t':=I.lin c d bb;apply aA;by_cases hb:b=n - 1
  . rw[hb,O5 t.1 (by lia)]at e;by_cases hd:d=n - 1
    . rw[hd,O5 t'.1 (by lia)]at e;simp only[Prod.mk.injEq]at e⊢;lia
    . rw[K6 (by lia) (by lia)]at e;simp only[Prod.mk.injEq]at e;lia
  . rw[K6 (by lia) (by lia)]at e;by_cases hd:d=n - 1
    . rw[hd,O5 t'.1 (by lia)]at e;simp only[Prod.mk.injEq]at e;lia
    . rw[K6 (by lia) (by lia)]at e;simp only[Prod.mk.injEq]at e⊢;lia
 prm:=by
  have pT:=(List.filter_append_perm (fun t:P3=>decide (t.2.2=n - 1)) T).symm.map (fun t=>outer (ro3 n t));have pL:=(List.filter_append_perm (fun p:P2=>decide (p.2=n - 1)) ls).map (im (ro n));rw[CS]at pT pL;rw[AL];refine .trans pT (.trans ?_ (pL.cons _));rw[<-CC];refine .append ?_ ?_
  . have e1:(T.filter fun t=>decide (t.2.2=n - 1)).map (fun t=>outer (ro3 n t))=((T.filter fun t=>decide (t.2.2=n - 1)).map (·.2.1)).map fun c=>(0,c+1):=by
     rw[AL]
     refine AM fun t ht=>?_
     have hb:t.2.2=n - 1:=by simpa using (AK.mp ht).2
     show outer (if t.2.2=n - 1 then _ else _)=_
     rw[ζ hb];rfl
    have e2:((n - 2)::(ls.filter fun p=>decide (p.2=n - 1)).map (·.1)).map (fun c:Int=>((0:Int),c+1))=(0,n - 1)::(ls.filter fun p=>decide (p.2=n - 1)).map (im (ro n)):=by
     rw[io,AL,show(n - 2+1:Int)=n - 1 by lia];congr 1;refine AM fun⟨a,b⟩ hp=>?_
     obtain⟨hm,hb⟩:=AK.mp hp;have hb:b=n - 1:=by simpa using hb
     have t:=I.lin a b hm;rw[hb,O5 t.1 (by lia)];rfl
    rw[e1,<-e2]
    exact I.low.map _
  . have q:=(I.prm.filter fun p=>!decide (p.2=n - 1)).map (im (ro n));rw[List.filter_cons_of_neg (by simp),List.filter_map,AL]at q;refine .trans (.of_eq ?_) q;refine AM fun⟨a,c,b⟩ ht=>?_
    obtain⟨hm,hb⟩:=AK.mp ht;have hb:¬b=n - 1:=by simpa using hb
    have t:=I.tri a c b hm;show outer (if b=n - 1 then _ else _)=im (ro n) (a,b);rw[ξ hb,K6 (by lia) (by lia)];rfl
def fl(n x:Int):Int:=n - 1 - x
def fl3(n:Int)(t:P3):P3:=(n - 1 - t.2.2,n - 1 - t.2.1,n - 1 - t.1)
theorem Q2(h:a<b):im (fl n) (a,b)=(n - 1 - b,n - 1 - a):=by unfold im fl;exact ξ (by show ¬n - 1 - a<n - 1 - b;lia)
theorem CInv.flip(I:CInv n ls T):CInv n (ls.map (im (fl n))) (T.map (fl3 n)) where
 n3:=I.n3
 tri:=fun x y z h=>by
  obtain⟨⟨a,c,b⟩,hm,e⟩:=AC.mp h;have t:=I.tri a c b hm;simp only[fl3,Prod.mk.injEq]at e;obtain⟨rfl,rfl,rfl⟩:=e;refine⟨by omega,by omega,by omega,by omega,?_,?_⟩
  . rcases t.2.2.2.2.2 with o |o
    . exact Or.inl (AC.mpr ⟨(c,b),o,Q2 (by omega)⟩)
    . exact Or.inr (by omega)
  . rcases t.2.2.2.2.1 with o |o
    . exact Or.inl (AC.mpr ⟨(a,c),o,Q2 (by omega)⟩)
    . exact Or.inr (by omega)
 lin:=fun x y h=>by obtain⟨⟨a,b⟩,hm,e⟩:=AC.mp h;have t:=I.lin a b hm;rw[Q2 (by omega)]at e;simp only[Prod.mk.injEq]at e;omega
 nc:=fun x y z w h h'=>by obtain⟨⟨a,b⟩,hm,e⟩:=AC.mp h;obtain⟨⟨c,d⟩,bb,e'⟩:=AC.mp h';have t:=I.lin a b hm;have t':=I.lin c d bb;have n2:=I.nc c d a b bb hm;rw[Q2 (by omega)]at e e';simp only[Prod.mk.injEq]at e e';omega
 nd:=by refine CZ.mpr (List.Pairwise.imp_of_mem ?_ I.nd);rintro⟨a,b⟩ ⟨c,d⟩ hm bb aA e;have t:=I.lin a b hm;have t':=I.lin c d bb;apply aA;rw[Q2 (by omega),Q2 (by omega)]at e;simp only[Prod.mk.injEq]at e⊢;omega
 prm:=by
  have q:=I.prm.map (im (fl n));rw[io,AL,Q2 (by have:=I.n3;omega),show(n - 1 - (n - 1):Int)=0 by omega,show(n - 1 - 0:Int)=n - 1 by omega]at q;refine .trans (.of_eq ?_) q;rw[AL];refine AM fun⟨a,c,b⟩ hm=>?_
  have t:=I.tri a c b hm;show outer (fl3 n (a,c,b))=im (fl n) (a,b);rw[Q2 (by omega)];rfl
theorem qi(I:CInv n ls T)(k:Int)(h0:0<=k)(h1:k<n):c1 (ro n k) (T.map (ro3 n))=c1 k T:=by
 have:∀S:List P3,(∀t∈S,t∈T)->c1 (ro n k) (S.map (ro3 n))=c1 k S:=fun S=>by
  induction S with
  |nil=>intro _;rfl
  |cons t S ih=>
   intro h
   have t1:=I.tri t.1 t.2.1 t.2.2 (h t (by simp))
   have e:ind (ro n k) (ro3 n t)=ind k t:=by
    unfold ind ro3 ro;by_cases hk:k=n - 1
    . by_cases hb:t.2.2=n - 1
      . simp only[ζ hk,ζ hb];rw[ζ trivial,ξ (by omega),ξ (by omega),ξ (by omega),ξ (by omega),ζ (by omega)];omega
      . simp only[ζ hk,ξ hb];rw[ξ (by omega),ξ (by omega),ξ (by omega),ξ (by omega),ξ (by omega),ξ (by omega)]
    . by_cases hb:t.2.2=n - 1
      . simp only[ξ hk,ζ hb];rw[ξ (show ¬k+1=0 by omega),ξ (show ¬k=t.2.2 by omega)];have e1:(k+1=t.1+1)↔(k=t.1):=by omega
        have e2:(k+1=t.2.1+1)↔(k=t.2.1):=by omega
        simp only[e1,e2];omega
      . simp only[ξ hk,ξ hb];have e1:(k+1=t.1+1)↔(k=t.1):=by omega
        have e2:(k+1=t.2.1+1)↔(k=t.2.1):=by omega
        have e3:(k+1=t.2.2+1)↔(k=t.2.2):=by omega
        simp only[e1,e2,e3]
   simp only[io,c1,e,ih fun u hu=>h u (by simp[hu])]
 exact this T fun _ h=>h
theorem qh(k:Int):∀T:List P3,c1 (fl n k) (T.map (fl3 n))=c1 k T
 | []=>rfl
 |t::S=>by
  have e:ind (fl n k) (fl3 n t)=ind k t:=by
   unfold ind fl3 fl;have e1:(n - 1 - k=n - 1 - t.2.2)↔(k=t.2.2):=by omega
   have e2:(n - 1 - k=n - 1 - t.2.1)↔(k=t.2.1):=by omega
   have e3:(n - 1 - k=n - 1 - t.1)↔(k=t.1):=by omega
   simp only[e1,e2,e3];omega
  simp only[io,c1,e,qh k S]
end
def Cn(n:Int)(ls:List P2)(g:Int->Int):Prop:=∃T,CInv n ls T/\∀k,0<=k->k<n->c1 k T=g k
theorem Cn.inn(h:Cn n ls g):Inn n ls:=by obtain⟨T,I,q⟩:=h;exact I.inn
theorem Cn.n3(h:Cn n ls g):3<=n:=by obtain⟨T,I,q⟩:=h;exact I.n3
theorem Cn.rot(h:Cn n ls g)(hg:∀k,0<=k->k<n->g' (ro n k)=g k):Cn n (ls.map (im (ro n))) g':=by
 obtain⟨T,I,q⟩:=h;refine⟨_,I.rot,fun k h0 h1=>?_⟩;have n3:=I.n3;by_cases hk:k=0
 . have:=qi I (n - 1) (by lia) (by lia);rw[show ro n (n - 1)=k by unfold ro;rw[ζ rfl,hk]]at this;rw[this,q _ (by lia) (by lia),<-hg _ (by lia) (by lia)];unfold ro;rw[ζ rfl,hk]
 . have:=qi I (k - 1) (by lia) (by lia);have e:ro n (k - 1)=k:=by unfold ro;rw[ξ (by lia)];lia
   rw[e]at this;rw[this,q _ (by lia) (by lia),<-hg _ (by lia) (by lia),e]
theorem Cn.flip(h:Cn n ls g)(hg:∀k,0<=k->k<n->g' (fl n k)=g k):Cn n (ls.map (im (fl n))) g':=by
 obtain⟨T,I,q⟩:=h;refine⟨_,I.flip,fun k h0 h1=>?_⟩;have:=qh (n:=n) (fl n k) T;have e:fl n (fl n k)=k:=by unfold fl;lia
 rw[e]at this;have hk:0<=fl n k/\fl n k<n:=by unfold fl;lia
 rw[this,q _ hk.1 hk.2,<-hg _ hk.1 hk.2,e]
theorem Em(h0:0<=x)(h1:x<n):ro n x=(x+1) % n:=by
 unfold ro;split
 . rename_i h;rw[show x+1=n by lia,EQ]
 . rw[AU (by lia) (by lia)]
theorem Cn.spinN(h:Cn n ls g):∀j:Nat,Cn n (ls.map (im fun x=>(x+j) % n)) (fun k=>g ((k - j) % n))
 | 0=>by have n3:=h.n3;rw[Wd h.inn (g:=fun x=>x) (fun x h0 h1=>by show(x+0) % n=x;rw[Int.add_zero,AU h0 h1]),qk h.inn];obtain⟨T,I,q⟩:=h;exact⟨T,I,fun k h0 h1=>by rw[q k h0 h1];show _=g ((k - 0) % n);rw[Int.sub_zero,AU h0 h1]⟩
 |j+1=>by
  have n3:=h.n3;have:=(h.spinN j).rot (g':=fun k=>g ((k - ((j+1:Nat):Int)) % n)) (fun k h0 h1=>by rw[Em h0 h1];show g (((k+1) % n - ((j+1:Nat):Int)) % n)=g ((k - j) % n);rw[Int.emod_sub_emod,show k+1 - ((j+1:Nat):Int)=k - j by lia]);rw[AL]at this;rw[show ls.map (im fun x=>(x+((j+1:Nat):Int)) % n)=ls.map (im (ro n)∘im fun x=>(x+(j:Int)) % n) by
   refine AM fun p hp=>?_
   show _=im (ro n) (im _ p);rw[Hm];unfold im;have e:∀x:Int,ro n ((x+j) % n)=(x+((j+1:Nat):Int)) % n:=fun x=>by rw[Em (BA _ (by lia)) (BE _ (by lia)),Int.emod_add_emod,show x+(j:Int)+1=x+((j+1:Nat):Int) by lia]
   simp only[e]]
  exact this
theorem Cn.spin(h:Cn n ls g)(j:Int):Cn n (ls.map (im fun x=>(x+j) % n)) (fun k=>g ((k - j) % n)):=by have n3:=h.n3;have:=h.spinN (j % n).toNat;have e:((j % n).toNat:Int)=j % n:=CB (BA _ (by omega));rw[e]at this;rw[show(fun x=>(x+j) % n)=fun x=>(x+j % n) % n from funext fun x=>by rw[Int.add_emod_emod],show(fun k=>g ((k - j) % n))=fun k=>g ((k - j % n) % n) from funext fun k=>by rw[Int.sub_emod_emod]];exact this
theorem Cn.mirror(h:Cn n ls g):Cn n (ls.map (im fun x=>(n - x) % n)) (fun k=>g ((n - k) % n)):=by
 have n3:=h.n3;have:=(h.flip (g':=fun k=>g (n - 1 - k)) (fun k _ _=>by unfold fl;rw[show n - 1 - (n - 1 - k)=k by lia])).rot (g':=fun k=>g ((n - k) % n)) (fun k h0 h1=>by rw[Em h0 h1,show n - 1 - k=(n - (k+1)) % n by rw[AU (by lia) (by lia)];lia];show g ((n - (k+1) % n) % n)=_;rw[Int.sub_emod_emod]);rw[AL]at this;rw[show ls.map (im fun x=>(n - x) % n)=ls.map (im (ro n)∘im (fl n)) by
  refine AM fun⟨a,b⟩ hp=>?_
  obtain⟨h1,h2,h3⟩:=h.inn a b hp;show _=im (ro n) (im _ (a,b));rw[Hm];unfold im;have e:∀x:Int,0<=x->x<n->ro n (fl n x)=(n - x) % n:=fun x h0 h1=>by rw[Em (by unfold fl;lia) (by unfold fl;lia)];unfold fl;congr 1;lia
  show nr ((n - a) % n,(n - b) % n)=nr (ro n (fl n a),ro n (fl n b));rw[e a h1 (by lia),e b (by lia) h3]]
 exact this
def has(c:Int)(t:P3):Bool:=decide (c=t.1)||(decide (c=t.2.1)||decide (c=t.2.2))
end Cu
namespace Cu
open L2 (so2 G3 V0 so3 V1 soI Lw)
def adj(n:Int)(ls:List P2)(x k:Int):Prop:=k=(x+1) % n\/k=(x - 1) % n\/(x,k)∈ls\/(k,x)∈ls
section
variable {n:Int}{ls:List P2}{T:List P3}
theorem CInv.three(I:CInv n ls T)(h1:x<y)(h2:y<z)(e1:(x,y)∈ls\/y=x+1)(e2:(y,z)∈ls\/z=y+1)(e3:(x,z)∈ls\/(x=0/\z=n - 1)):(x,y,z)∈T:=by
 obtain⟨m1,m2⟩:=I.top_in (ls':=ls) (.refl _) (q:=(x,z)) (by
  rcases e3 with e |⟨rfl,rfl⟩
  . exact bI _ e
  . exact dg)
 generalize thr T (x,z)=t at m1 m2;obtain⟨a,c,b⟩:=t;simp only[outer,Prod.mk.injEq]at m2;obtain⟨rfl,rfl⟩:=m2;have g:=I.tri _ _ _ m1;have:c=y:=by
  apply CF;intro aA;rcases Int.lt_or_gt_of_ne aA with aH |hU
  . have a1:(c,b)∈ls:=by rcases g.2.2.2.2.2 with z |z;exact z;omega
    have a2:(a,y)∈ls:=by rcases e1 with z |z;exact z;omega
    exact I.nc a y c b a2 a1 (by omega)
  . have a1:(a,c)∈ls:=by rcases g.2.2.2.2.1 with z |z;exact z;omega
    have a2:(y,b)∈ls:=by rcases e2 with z |z;exact z;omega
    exact I.nc a c y b a1 a2 (by omega)
 rw[<-this];exact m1
theorem upM(u0:0<=u)(u1:u<n)(e:k=(u+1) % n):k=u+1\/(u=n - 1/\k=0):=by
 by_cases h:u=n - 1
 . rw[h,Int.sub_add_cancel,EQ]at e;exact .inr ⟨h,e⟩
 . rw[AU (by lia) (by lia)]at e;exact .inl e
theorem dnM(u0:0<=u)(u1:u<n)(e:k=(u - 1) % n):k=u - 1\/(u=0/\k=n - 1):=by
 by_cases h:u=0
 . rw[h,<-Int.add_emod_right,AU (by lia) (by lia)]at e;exact .inr ⟨h,by lia⟩
 . rw[AU (by lia) (by lia)]at e;exact .inl e
theorem Q6(I:CInv n ls T)(h0:0<=x)(h:x<k)(hk:k<n)(ha:adj n ls x k\/adj n ls k x):(x,k)∈ls\/k=x+1\/(x=0/\k=n - 1):=by
 have hx:x<n:=CQ h hk;have k0:0<=k:=Int.le_of_lt (Int.lt_of_le_of_lt h0 h);rcases ha with ha |ha
 . rcases ha with e |e |e |e
   . rcases upM h0 hx e with e |⟨_,e⟩
     . exact .inr (.inl e)
     . omega
   . rcases dnM h0 hx e with e |e
     . omega
     . exact .inr (.inr e)
   . exact Or.inl e
   . have:=(I.lin _ _ e).2.1;omega
 . rcases ha with e |e |e |e
   . rcases upM k0 hk e with e |e
     . omega
     . exact .inr (.inr ⟨e.2,e.1⟩)
   . rcases dnM k0 hk e with e |⟨e,_⟩
     . exact .inr (.inl (by omega))
     . omega
   . have:=(I.lin _ _ e).2.1;omega
   . exact Or.inl e
theorem Bo(I:CInv n ls T)(h0:0<=x)(h:x<k)(hk:k<n)(he:(x,k)∈ls\/k=x+1\/(x=0/\k=n - 1)):adj n ls x k/\adj n ls k x:=by
 have n3:=I.n3;rcases he with e |e |⟨e,e'⟩
 . exact⟨Or.inr (Or.inr (Or.inl e)),Or.inr (Or.inr (Or.inr e))⟩
 . subst e;exact⟨Or.inl (by rw[AU (by lia) (by lia)]),Or.inr (Or.inl (by rw[show x+1 - 1=x by lia,AU (by lia) (by lia)]))⟩
 . subst e;subst e';exact⟨Or.inr (Or.inl (by rw[<-Int.add_emod_right,AU (by lia) (by lia)];lia)),Or.inl (by rw[show n - 1+1=n by lia,EQ])⟩
theorem mem_dues:k∈r8 T p↔∃t∈T,bth p.1 p.2 t=true/\k=t.1+(t.2.1+(t.2.2+0)) - (p.1+(p.2+0)):=by
 unfold r8;rw[(Lw _).mem_iff,AC];constructor
 . rintro⟨t,ht,rfl⟩;obtain⟨h1,h2⟩:=AK.mp ht;exact⟨t,(V1 T).mem_iff.mp h1,h2,rfl⟩
 . rintro⟨t,h1,h2,rfl⟩;exact⟨t,AK.mpr ⟨(V1 T).mem_iff.mpr h1,h2⟩,rfl⟩
theorem CInv.com(I:CInv n ls T)(hl:(a,b)∈ls)(k0:0<=k)(k1:k<n)(ka:k≠a)(kb:k≠b):(adj n ls a k/\adj n ls b k)↔k∈r8 T (a,b):=by
 have n3:=I.n3;have l:=I.lin a b hl;rw[mem_dues];constructor
 . rintro⟨h1,h2⟩;by_cases c1:k<a
   . have e1:=Q6 I k0 c1 (by lia) (Or.inr h1);have e2:=Q6 I k0 (show k<b by lia) (by lia) (Or.inr h2);have t:=I.three (x:=k) (y:=a) (z:=b) (by lia) (by lia) (by rcases e1 with z |z |z;exact .inl z;exact .inr z;lia) (.inl hl) (by rcases e2 with z |z |z;exact .inl z;lia;exact .inr z);exact⟨_,t,bth_iff.mpr (by simp),by simp only;lia⟩
   . by_cases c2:k<b
     . have e1:=Q6 I l.1 (show a<k by lia) (by lia) (Or.inl h1);have e2:=Q6 I k0 c2 (by lia) (Or.inr h2);have t:=I.three (x:=a) (y:=k) (z:=b) (by lia) (by lia) (by rcases e1 with z |z |z;exact .inl z;exact .inr z;lia) (by rcases e2 with z |z |z;exact .inl z;exact .inr z;lia) (.inl hl);exact⟨_,t,bth_iff.mpr (by simp),by simp only;lia⟩
     . have e1:=Q6 I l.1 (show a<k by lia) (by lia) (Or.inl h1);have e2:=Q6 I (show 0<=b by lia) (show b<k by lia) (by lia) (Or.inl h2);have t:=I.three (x:=a) (y:=b) (z:=k) (by lia) (by lia) (.inl hl) (by rcases e2 with z |z |z;exact .inl z;exact .inr z;lia) (by rcases e1 with z |z |z;exact .inl z;lia;exact .inr z);exact⟨_,t,bth_iff.mpr (by simp),by simp only;lia⟩
 . rintro⟨⟨x,y,z⟩,ht,hb,e⟩;have g:=I.tri _ _ _ ht;have o:=I.top_or ht;rw[bth_iff]at hb;simp only at e;have xy:adj n ls x y/\adj n ls y x:=Bo I g.1 g.2.1 (by lia) (by rcases g.2.2.2.2.1 with z |z;exact .inl z;exact .inr (.inl z));have yz:adj n ls y z/\adj n ls z y:=Bo I (by lia) g.2.2.1 (by lia) (by rcases g.2.2.2.2.2 with z |z;exact .inl z;exact .inr (.inl z));have xz:adj n ls x z/\adj n ls z x:=Bo I g.1 (show x<z by lia) (by lia) (by rcases o with z |z;exact .inl z;exact .inr (.inr z));have:(a=x/\b=y/\k=z)\/(a=x/\b=z/\k=y)\/(a=y/\b=z/\k=x):=by
    have l2:=l.2.1;obtain⟨_,g2,g3,_⟩:=g;clear xy yz xz o l ka kb ht;rcases hb with⟨h1 |h1 |h1,h2 |h2 |h2⟩
    . lia
    . exact .inl ⟨h1,h2,by lia⟩
    . exact .inr (.inl ⟨h1,h2,by lia⟩)
    . lia
    . lia
    . exact .inr (.inr ⟨h1,h2,by lia⟩)
    . lia
    . lia
    . lia
   rcases this with⟨rfl,rfl,rfl⟩ |⟨rfl,rfl,rfl⟩ |⟨rfl,rfl,rfl⟩
   . exact⟨xz.1,yz.1⟩
   . exact⟨xy.1,yz.2⟩
   . exact⟨xy.2,xz.2⟩
end
end Cu
namespace K88
open PySem PySem.Spec PyProof.Rows L2
def M4:String->Option Bool:=fun c=>if c="Mirror" then some true else if c="Spin" then some true else if c="TurnLine" then some true else none
def R8:String->Option Bool:=fun c=>if c="Mirror" then some true else if c="Spin" then some false else if c="TurnLine" then some false else none
def R4:String->Option Bool:=fun c=>if c="Mirror" then some false else if c="Spin" then some true else if c="TurnLine" then some false else none
def S0:String->Option Bool:=fun c=>if c="Mirror" then some false else if c="Spin" then some false else if c="TurnLine" then some true else none
def knX:String->Bool:=fun c=>c=="NoDeed"||c=="NoLine"
def S2:String->Option Bool:=fun c=>if c="NoDeed" then some true else if c="NoLine" then some true else none
def O4:String->Option Bool:=fun c=>if c="NoDeed" then some false else if c="NoLine" then some true else none
def O3:String->Option Bool:=fun c=>if c="NoDeed" then some true else if c="NoLine" then some false else none
def O9:String->Option Bool:=fun c=>if c="NoDeed" then some true else if c="NoLine" then some true else none
def M8:String->Option Bool:=fun c=>if c="NoDeed" then some false else if c="NoLine" then some false else none
def M7:String->Option Bool:=fun c=>if c="NoDeed" then some false else if c="NoLine" then some false else none
def Yn:DS->SR:=
 (g9 [true] (E3 (eUn (r9 "int") (b7 0)) (eUn (fun d=>(m7 d).map fun b=>.bl (!b)) (eUn (r9 "bool") (b7 0)))))
def Ab:List D->R D:=mOf false 1 0 Yn
def Rv:DS->SR:=
 (g9 [true,true] (eIf (g0 asB (eOp W8 (b7 0) (b7 1))) (n6 (b8 (b7 0) (b8 (b7 1) c7))) (n6 (b8 (b7 1) (b8 (b7 0) c7)))))
def Y0:List D->R D:=mOf false 2 0 Rv
def Xb:DS->SR:=
 (e7 (i4 false 2 [false,true] (eOp dIx (b7 1) (eC (.int 0))))
  (e7 (i4 false 3 [false,true] (eOp dIx (b7 1) (eC (.int 1))))
  (e7 (sIf (bOr (g0 asB (eOp W8 (b7 2) (eC (.int 0)))) (g0 asB (eOp dGe (b7 3) (b7 0))))
   (g9 [] (eC (.bl false)))
   sNx)
  (g9 [true,false,true,true] (eOr (eOp dEq (b7 3) (eOp z6 (b7 2) (eC (.int 1)))) (E3 (eOp dEq (b7 2) (eC (.int 0))) (eOp dEq (b7 3) (eOp y8 (b7 0) (eC (.int 1))))))))))
def Ci:List D->R D:=mOf false 2 2 Xb
def Gh:DE->R D:=
 (eOp Dm (b7 0) (eC (.str "0123456789")))
def jc:DS->SR:=
 (e7 (sIf (t8 (Dn (eC (.int 1)) (Fb dLe (eCB z7 (b8 (b7 0) c7)) (Fc dLe (b7 1)))))
   (g9 [] (eC (.bl false)))
   sNx)
  (e7 (sIf (D1 (g0 asB (eOp P9 (eCB z7 (b8 (b7 0) c7)) (eC (.int 1)))) (g0 asB (eOp dEq (eOp dIx (b7 0) (eC (.int 0))) (eC (.str "0")))))
   (g9 [] (eC (.bl false)))
   sNx)
  (g9 [true] (eCB P5 (b8 (p9 (iS (b7 0)) b1 [] C9 Gh) c7)))))
def O8:List D->R D:=mOf false 2 0 jc
def Zm:DS->SR:=
 (e7 (i4 false 1 [true] (eOp dIx (b7 0) (eC (.int 0))))
  (e7 (i4 false 2 [true] (eOp dIx (b7 0) (eC (.int 1))))
  (g9 [false,true,true] (eJn [(eUn dFv (b7 1)),(eC (.str "-")),(eUn dFv (b7 2))] PySem.Str.empty))))
def Cs:List D->R D:=mOf false 1 2 Zm
def jJ:DE->R Bool:=
 (D1 (g0 asB (eOp dEq (eOp dIx (b7 0) (eC (.int 0))) (b7 1))) (D1 (g0 asB (eOp dLe (eOp dIx (b7 0) (eC (.int 1))) (eOp dIx (b7 2) (eC (.int 1))))) (g0 asB (eOp dNe (b7 0) (b7 2)))))
def jI:DE->R D:=
 (eOp dIx (b7 0) (eC (.int 1)))
def jG:DS->SR:=
 (e7 (i4 true 3 [true,true,true] (p9 (iL (b7 2)) b1 [0,1] jJ jI))
  (g9 [true,false,false,true] (eCB X3 (b8 (b7 3) (b8 (eOp z6 (b7 0) (eC (.int 1))) c7)))))
def Dg:List D->R D:=mOf false 3 1 jG
def jb:DS->SR:=
 (g9 [true] (eOp k7 (eC (.str "spin ")) (eCB m5 (b8 (eUn (o7 "by" ["Spin"]) (b7 0)) c7))))
def Ag:List D->R D:=mOf false 1 0 jb
def ju:DS->SR:=
 (g9 [] (eC (.str "mirror")))
def Aj:List D->R D:=mOf false 1 0 ju
def Zl:DS->SR:=
 (g9 [true,true] (eOp dIx (eOp v8 (eSl dSl (b7 0) (oSo (b7 1)) (oSo (eOp z6 (b7 1) (eC (.int 1))))) (l8 (b8 (eC (.int 0)) c7))) (eC (.int 0))))
def D8:List D->R D:=mOf false 2 0 Zl
def jF:DE->R D:=
 (n6 (b8 (eOp z6 (b7 0) (eCB S6 (b8 (eOp P9 (b7 0) (b7 2)) c7))) (b8 (eOp z6 (b7 1) (eCB S6 (b8 (eOp P9 (b7 1) (b7 2)) c7))) c7)))
def jk:DS->SR:=
 (e7 (i4 true 3 [false,true,true] (p9 (iL (b7 1)) (bT 2) [2] C9 jF))
  (e7 (sIf (g0 asB (eOp dEq (b7 2) (eOp y8 (b7 0) (eC (.int 1)))))
   (g9 [true,false,false,true] (eOp v8 (b7 3) (l8 (b8 (n6 (b8 (eC (.int 0)) (b8 (eOp y8 (b7 0) (eC (.int 1))) c7))) c7))))
   sNx)
  (g9 [false,false,true,true] (eOp v8 (b7 3) (l8 (b8 (n6 (b8 (b7 2) (b8 (eOp z6 (b7 2) (eC (.int 2))) c7))) c7))))))
def Cz:List D->R D:=mOf true 3 1 jk
def Ou:DS->SR:=
 (e7 (i4 true 7 [false,true,true,true,false,true,true] (l8 (b8 (eOp l4 (eOp z6 (eOp W3 (b7 2) (b7 5)) (b7 1)) (b7 3)) (b8 (eOp l4 (eOp z6 (eOp W3 (b7 2) (b7 6)) (b7 1)) (b7 3)) c7))))
  (N4 "list" E0 4 [false,false,false,false,false,false,false,true] (b8 (n6 (b8 (eCB Bb (b8 (b7 7) c7)) (b8 (eCB Bc (b8 (b7 7) c7)) c7))) c7)))
def ja:DS->SR:=
 (e7 (i4 false 3 [true] (eOp dIx (b7 0) (eC (.int 0))))
  (e7 (i4 true 4 [] (l8 c7))
  (e7 (T4 false [true] (iL (eOp dIx (b7 0) (eC (.int 1)))) (.t [5,6]) Ou)
  (g9 [false,false,false,true,true] (n6 (b8 (b7 3) (b8 (eCB G7 (b8 (eCB E9 (b8 (b7 4) c7)) c7)) c7)))))))
def S1:List D->R D:=mOf false 3 5 ja
def jj:DS->SR:=
 (e7 (i4 false 3 [false,true,true] (eCB Eg (b8 (b7 1) (b8 (b7 2) c7))))
  (e7 (i4 false 4 [false,true,true] (eCB Eh (b8 (b7 1) (b8 (b7 2) c7))))
  (g9 [true,false,false,true,true] (eOr (eOp dEq (eOp y8 (b7 4) (b7 3)) (eC (.int 1))) (eOr (eOp dEq (n6 (b8 (b7 3) (b8 (b7 4) c7))) (n6 (b8 (eC (.int 0)) (b8 (eOp y8 (eOp dIx (b7 0) (eC (.int 0))) (eC (.int 1))) c7)))) (eOp (dIn false) (n6 (b8 (b7 3) (b8 (b7 4) c7))) (eOp dIx (b7 0) (eC (.int 1)))))))))
def Ah:List D->R D:=mOf false 3 2 jj
def Zk:DS->SR:=
 (e7 (sIf (t8 (g0 m7 (eUn (p7 M4) (b7 0))))
   (g9 [] (eC (.str "none")))
   sNx)
  (e7 (i4 true 1 [true] (l8 (b8 (eUn (p7 S0) (b7 0)) (b8 (eUn (p7 R4) (b7 0)) (b8 (eUn (p7 R8) (b7 0)) c7)))))
  (e7 (sIf (g0 asB (eOp dNe (Av (b7 1) (eC (.bl true))) (eC (.int 1))))
   (g9 [] (eC (.str "none")))
   sNx)
  (g9 [false,true] (eOp dIx (l8 (b8 (eC (.str "turn")) (b8 (eC (.str "spin")) (b8 (eC (.str "mirror")) c7)))) (Ay (b7 1) (eC (.bl true))))))))
def C8:List D->R D:=mOf false 1 1 Zk
def jt:DS->SR:=
 (e7 (i4 true 1 [] (l8 (b8 (eC (.str "")) (b8 (eC (.str "turn")) (b8 (eC (.str "turn ")) (b8 (eC (.str "spin")) (b8 (eC (.str "spin ")) (b8 (eC (.str "spin -0")) (b8 (eC (.str "spin 05")) (b8 (eC (.str "spin +5")) (b8 (eC (.str "spin --5")) (b8 (eC (.str "mirror ")) (b8 (eC (.str " mirror")) c7)))))))))))))
  (e7 (i4 true 1 [false,true] (eOp v8 (b7 1) (l8 (b8 (eC (.str "turn 1-1")) (b8 (eC (.str "turn 01-3")) (b8 (eC (.str "turn 100-3")) (b8 (eC (.str "turn 1 -3")) (b8 (eC (.str "turn 1-3-5")) (b8 (eC (.str "Turn 1-3")) (b8 (eC (.str "turn 1--3")) c7))))))))))
  (e7 (i4 true 1 [false,true] (eOp v8 (b7 1) (l8 (b8 (eC (.str "spin 1.5")) (b8 (eC (.str "mirror 1")) (b8 (eOp k7 (eC (.str "spin 1")) (eOp Aw (eC (.str "0")) (eC (.int 60)))) (b8 (eC (.str "spin")) (b8 (eC (.str "turn -3")) (b8 (eC (.str "turn 3-")) (b8 (eC (.str "spin 5 ")) (b8 (eC (.int 7)) c7)))))))))))
  (e7 (i4 true 1 [false,true] (eOp v8 (b7 1) (l8 (b8 (eC .non) (b8 (l8 (b8 (eC (.str "mirror")) c7)) (b8 (eC (.bl true)) c7))))))
  (g9 [true,true] (eOp dIx (b7 1) (eOp l4 (b7 0) (eC (.int 29)))))))))
def Dc:List D->R D:=mOf false 1 1 jt
def Zj:DS->SR:=
 (e7 (sIf (g0 asB (eOp dEq (eOp l4 (b7 0) (eC (.int 2))) (eC (.int 0))))
   (g9 [true] (eOp y8 (eOp l4 (eOp E1 (b7 0) (eC (.int 2))) (eC (.int 41))) (eC (.int 20))))
   sNx)
  (g9 [true] (eOp z6 (eOp y8 (eOp l4 (eOp E1 (b7 0) (eC (.int 2))) (eOp y8 (eOp W3 (eC (.int 2)) (eOp P6 (eC (.int 10)) (eC (.int 60)))) (eC (.int 1)))) (eOp P6 (eC (.int 10)) (eC (.int 60)))) (eC (.int 1)))))
def Ae:List D->R D:=mOf false 1 0 Zj
def Wb:DS->SR:=
 (g9 [true] (E3 (eUn (r9 "tuple") (b7 0)) (E3 (eOp dEq (eCB z7 (b8 (b7 0) c7)) (eC (.int 2))) (E3 (e9 Ab (b8 (eOp dIx (b7 0) (eC (.int 0))) c7)) (e9 Ab (b8 (eOp dIx (b7 0) (eC (.int 1))) c7))))))
def Z5:List D->R D:=mOf false 1 0 Wb
def Ob:DE->R D:=
 (e9 O8 (b8 (b7 0) (b8 (eC (.int 2)) c7)))
def Ym:DS->SR:=
 (e7 (i4 true 1 [true] (eMt K2 (b7 0) (b8 (eC (.str "-")) c7)))
  (e7 (sIf (bOr (g0 asB (eOp dNe (eCB z7 (b8 (b7 1) c7)) (eC (.int 2)))) (t8 (g0 m7 (eCB P5 (b8 (p9 (iL (b7 1)) b1 [] C9 Ob) c7)))))
   (g9 [] (eC .non))
   sNx)
  (g9 [false,true] (n6 (b8 (eCB J8 (b8 (eOp dIx (b7 1) (eC (.int 0))) c7)) (b8 (eCB J8 (b8 (eOp dIx (b7 1) (eC (.int 1))) c7)) c7))))))
def Co:List D->R D:=mOf false 1 1 Ym
def Gg:DE->R Bool:=
 (g0 asB (eOp W8 (eOp dIx (b7 2) (eUn J7 (eC (.int 1)))) (eOp dIx (b7 0) (eC (.int 1)))))
def Gf:DS->SR:=
 (N4 "list" E0 2 [true,true,true] (b8 (e9 Dg (b8 (eOp dIx (b7 2) (eUn J7 (eC (.int 1)))) (b8 (b7 0) (b8 (b7 1) c7)))) c7))
def Zz:DS->SR:=
 (e7 (i4 true 2 [true] (l8 (b8 (eOp dIx (b7 0) (eC (.int 0))) c7)))
  (e7 (Bq 1000 Gg Gf)
  (g9 [false,false,true] (eCB G7 (b8 (b7 2) c7)))))
def Cv:List D->R D:=mOf false 2 1 Zz
def Xa:DE->R D:=
 (e9 Y0 (b8 (eOp dIx (b7 2) (b7 0)) (b8 (eOp dIx (b7 2) (b7 1)) c7)))
def Ug:DS->SR:=
 (g9 [true,true] (n6 (b8 (eOp dIx (b7 0) (eC (.int 0))) (b8 (eCB G7 (b8 (eCB E9 (b8 (p9 (iL (eOp dIx (b7 0) (eC (.int 1)))) (bT 2) [1] C9 Xa) c7)) c7)) c7))))
def Y5:List D->R D:=mOf false 2 0 Ug
def jH:DS->SR:=
 (g9 [true] (eOp k7 (eC (.str "turn ")) (e9 Cs (b8 (eUn (o7 "line" ["TurnLine"]) (b7 0)) c7))))
def Am:List D->R D:=mOf false 1 0 jH
def Oa:DS->SR:=
 (e7 (i4 false 2 [true] (eIf (g0 m7 (eMt U4 (b7 0) (b8 (eC (.str "-")) c7))) (eSl Dl (b7 0) (oSo (eC (.int 1))) oNo) (b7 0)))
  (e7 (sIf (bOr (g0 asB (eOp dEq (b7 0) (eC (.str "-0")))) (t8 (g0 m7 (e9 O8 (b8 (b7 2) (b8 (b7 1) c7))))))
   (M1 "NoDeed" (b8 (eC (.str "no whole number, or one of too many figures")) c7))
   sNx)
  (g9 [true] (eCB J8 (b8 (b7 0) c7)))))
def V7:List D->R D:=mOf false 2 1 Oa
def Db:DS->SR:=
 (e7 (i4 true 2 [false,true,true,true] (e9 Cz (b8 (b7 1) (b8 (b7 2) (b8 (eOp l4 (b7 3) (b7 1)) c7)))))
  (i4 false 1 [false,true] (eOp z6 (b7 1) (eC (.int 1)))))
def Zy:DS->SR:=
 (e7 (i4 false 1 [] (eC (.int 3)))
  (e7 (i4 true 2 [] (l8 c7))
  (e7 (T4 false [true] (iL (b7 0)) (.n 3) Db)
  (g9 [false,true,true] (n6 (b8 (b7 1) (b8 (eCB G7 (b8 (eCB E9 (b8 (b7 2) c7)) c7)) c7)))))))
def Af:List D->R D:=mOf false 1 3 Zy
def jO:DE->R Bool:=
 (g0 asB (eOp (dIn true) (b7 0) (b7 1)))
def jN:DE->R D:=
 (b7 0)
def jM:DE->R Bool:=
 (D1 (g0 m7 (e9 Ah (b8 (b7 1) (b8 (b7 0) (b8 (eOp dIx (b7 2) (eC (.int 0))) c7))))) (g0 m7 (e9 Ah (b8 (b7 1) (b8 (b7 0) (b8 (eOp dIx (b7 2) (eC (.int 1))) c7))))))
def jL:DE->R D:=
 (b7 0)
def jK:DS->SR:=
 (e7 (i4 true 2 [false,true] (l8 (b8 (eOp dIx (b7 1) (eC (.int 0))) (b8 (eOp dIx (b7 1) (eC (.int 1))) c7))))
  (e7 (i4 true 3 [true,false,true] (p9 (S4 (b8 (eOp dIx (b7 0) (eC (.int 0))) c7)) b1 [2] jO jN))
  (e7 (i4 true 4 [true,true,false,true] (p9 (iL (b7 3)) b1 [0,1] jM jL))
  (g9 [false,false,false,false,true] (n6 (b8 (eOp dIx (b7 4) (eC (.int 0))) (b8 (eOp dIx (b7 4) (eC (.int 1))) c7)))))))
def P0:List D->R D:=mOf false 2 3 jK
def Yl:DS->SR:=
 (g9 [true,true] (E3 (e9 Z5 (b8 (b7 1) c7)) (eOr (e9 Ci (b8 (eOp dIx (b7 0) (eC (.int 0))) (b8 (b7 1) c7))) (eOp (dIn false) (b7 1) (eOp dIx (b7 0) (eC (.int 1)))))))
def Cm:List D->R D:=mOf false 2 0 Yl
def Nz:DS->SR:=
 (sIf (bOr (t8 (g0 m7 (e9 Z5 (b8 (b7 1) c7)))) (g0 asB (eOp (dIn true) (b7 1) (eOp dIx (b7 0) (eC (.int 1))))))
  (M1 "NoLine" (b8 (eC (.str "no line of the cutting")) c7))
  sNx)
def V6:List D->R D:=mOf false 2 0 Nz
def Wz:DE->R D:=
 (e9 Cv (b8 (b7 0) (b8 (b7 1) c7)))
def Uf:DS->SR:=
 (e7 (i4 true 2 [true,true] (eOp v8 (l8 (b8 (n6 (b8 (eC (.int 0)) (b8 (eOp y8 (b7 0) (eC (.int 1))) c7))) c7)) (eCB X5 (b8 (b7 1) c7))))
  (g9 [false,true,true] (eCB E9 (b8 (p9 (iL (b7 2)) b1 [1] C9 Wz) c7))))
def Bv:List D->R D:=mOf true 2 1 Uf
def Wa:DE->R D:=
 (eOp l4 (eOp z6 (b7 0) (b7 2)) (b7 1))
def Ru:DS->SR:=
 (e7 (i4 false 2 [true] (eOp dIx (b7 0) (eC (.int 0))))
  (g9 [true,true,true] (e9 Y5 (b8 (b7 0) (b8 (p9 (S4 (b8 (b7 2) c7)) b1 [2,1] C9 Wa) c7)))))
def Bn:List D->R D:=mOf false 2 1 Ru
def Zx:DE->R D:=
 (eOp l4 (eOp y8 (b7 1) (b7 0)) (b7 1))
def Yk:DS->SR:=
 (e7 (i4 false 1 [true] (eOp dIx (b7 0) (eC (.int 0))))
  (g9 [true,true] (e9 Y5 (b8 (b7 0) (b8 (p9 (S4 (b8 (b7 1) c7)) b1 [1] C9 Zx) c7)))))
def Cl:List D->R D:=mOf false 1 1 Yk
def Zi:DS->SR:=
 (g9 [true] (p8 "Spin" (b8 (eUn J7 (eUn (o7 "by" ["Spin"]) (b7 0))) c7)))
def Cr:List D->R D:=mOf false 2 0 Zi
def ji:DS->SR:=
 (g9 [] (K3 "Mirror"))
def Cy:List D->R D:=mOf false 2 0 ji
def Zh:DS->SR:=
 (e7 (i4 false 1 [true] (e9 Co (b8 (b7 0) c7)))
  (e7 (sIf (bOr (g0 asB (eOp Gp (b7 1) (eC .non))) (g0 asB (eOp dEq (eOp dIx (b7 1) (eC (.int 0))) (eOp dIx (b7 1) (eC (.int 1))))))
   (M1 "NoDeed" (b8 (eC (.str "no two unlike numbers with a - between")) c7))
   sNx)
  (g9 [false,true] (e9 Y0 (b8 (eOp dIx (b7 1) (eC (.int 0))) (b8 (eOp dIx (b7 1) (eC (.int 1))) c7))))))
def Ad:List D->R D:=mOf false 1 1 Zh
def jE:DE->R Bool:=
 (g0 asB (eOp dNe (b7 0) (b7 1)))
def jD:DE->R D:=
 (b7 0)
def jh:DS->SR:=
 (e7 (i4 true 2 [true,true] (p9 (iL (eOp dIx (b7 0) (eC (.int 1)))) b1 [1] jE jD))
  (g9 [true,true,true] (n6 (b8 (eOp dIx (b7 0) (eC (.int 0))) (b8 (eCB G7 (b8 (eCB E9 (b8 (eOp v8 (b7 2) (l8 (b8 (e9 P0 (b8 (b7 0) (b8 (b7 1) c7))) c7))) c7)) c7)) c7)))))
def G9:List D->R D:=mOf false 2 1 jh
def Ot:DS->SR:=
 (e7 (i4 false 2 [true] (eOp dIx (b7 0) (eC (.int 0))))
  (e7 (i4 false 3 [false,true,true] (eOp l4 (eOp E1 (b7 1) (eC (.int 6))) (eOp y8 (b7 2) (eC (.int 1)))))
  (e7 (i4 true 4 [false,true,true,true] (l8 (b8 (n6 (b8 (b7 3) (b8 (eOp z6 (b7 3) (eC (.int 1))) c7))) (b8 (n6 (b8 (eC (.int 0)) (b8 (eOp y8 (b7 2) (eC (.int 1))) c7))) (b8 (n6 (b8 (b7 3) (b8 (b7 3) c7))) (b8 (n6 (b8 (eC (.int 0)) (b8 (eOp z6 (b7 2) (eOp l4 (eOp E1 (b7 1) (eC (.int 6))) (eOp P6 (eC (.int 10)) (eC (.int 30))))) c7))) (b8 (n6 (b8 (eOp z6 (b7 3) (eC (.int 1))) (b8 (b7 3) c7))) (b8 (n6 (b8 (eOp y8 (b7 2) (eC (.int 1))) (b8 (eC (.int 0)) c7))) c7))))))))
  (e7 (sIf (D1 (g0 asB (eOp P9 (b7 2) (eC (.int 3)))) (g0 asB (eOp P9 (eOp l4 (b7 1) (eC (.int 6))) (eC (.int 2)))))
   (e7 (i4 false 5 [true,true,true] (eOp dIx (eOp dIx (b7 0) (eC (.int 1))) (eOp l4 (eOp E1 (b7 1) (eC (.int 6))) (eOp y8 (b7 2) (eC (.int 3))))))
  (i4 true 4 [true,false,false,false,true,true] (eOp v8 (eSl dSl (b7 4) oNo (oSo (eC (.int 4)))) (l8 (b8 (n6 (b8 (eOp dIx (b7 5) (eC (.int 1))) (b8 (eOp dIx (b7 5) (eC (.int 0))) c7))) (b8 (e9 P0 (b8 (b7 0) (b8 (b7 5) c7))) c7))))))
   sNx)
  (g9 [false,true,false,false,true] (eOp dIx (b7 4) (eOp l4 (b7 1) (eC (.int 6)))))))))
def Da:List D->R D:=mOf false 2 4 Ot
def Zw:DS->SR:=
 (sIf (t8 (g0 m7 (e9 Cm (b8 (b7 0) (b8 (b7 1) c7)))))
  (M1 "NoLine" (b8 (eC (.str "no side and no line of the cutting")) c7))
  sNx)
def Ct:List D->R D:=mOf false 2 0 Zw
def Zg:DS->SR:=
 (g9 [true] (e9 Bv (b8 (eOp dIx (b7 0) (eC (.int 0))) (b8 (eOp dIx (b7 0) (eC (.int 1))) c7))))
def Cq:List D->R D:=mOf true 1 0 Zg
def Zf:DS->SR:=
 (g9 [true,true] (e9 Bn (b8 (b7 1) (b8 (eUn (o7 "by" ["Spin"]) (b7 0)) c7))))
def Cp:List D->R D:=mOf false 2 0 Zf
def jg:DS->SR:=
 (g9 [false,true] (e9 Cl (b8 (b7 1) c7)))
def Cw:List D->R D:=mOf false 2 0 jg
def Nk:DS->SR:=
 (e7 (sIf (t8 (g0 m7 (eUn (r9 "str") (b7 0))))
   (M1 "NoDeed" (b8 (eC (.str "no text")) c7))
   sNx)
  (e7 (i4 true 1 [true] (eMt K2 (b7 0) (b8 (eC (.str " ")) c7)))
  (e7 (sIf (g0 asB (eOp dEq (b7 1) (l8 (b8 (eC (.str "mirror")) c7))))
   (g9 [] (K3 "Mirror"))
   sNx)
  (e7 (sIf (D1 (g0 asB (eOp dEq (eCB z7 (b8 (b7 1) c7)) (eC (.int 2)))) (g0 asB (eOp dEq (eOp dIx (b7 1) (eC (.int 0))) (eC (.str "turn")))))
   (g9 [false,true] (p8 "TurnLine" (b8 (e9 Ad (b8 (eOp dIx (b7 1) (eC (.int 1))) c7)) c7)))
   sNx)
  (e7 (sIf (D1 (g0 asB (eOp dEq (eCB z7 (b8 (b7 1) c7)) (eC (.int 2)))) (g0 asB (eOp dEq (eOp dIx (b7 1) (eC (.int 0))) (eC (.str "spin")))))
   (g9 [false,true] (p8 "Spin" (b8 (e9 V7 (b8 (eOp dIx (b7 1) (eC (.int 1))) (b8 (eC (.int 60)) c7))) c7)))
   sNx)
  (M1 "NoDeed" (b8 (eC (.str "no deed is written so")) c7)))))))
def v7:List D->R D:=mOf false 1 1 Nk
def Yj:DE->R Bool:=
 (D1 (g0 asB (eOp (dIn false) (eOp dIx (b7 1) (eC (.int 0))) (b7 0))) (g0 asB (eOp (dIn false) (eOp dIx (b7 1) (eC (.int 1))) (b7 0))))
def Yi:DE->R D:=
 (b7 0)
def Yh:DE->R D:=
 (eOp y8 (eCB L0 (b8 (b7 0) c7)) (eCB L0 (b8 (b7 1) c7)))
def Vz:DS->SR:=
 (e7 (B0 (e9 Ct (b8 (b7 0) (b8 (b7 1) c7))))
  (e7 (i4 true 2 [true,true] (p9 (iL (e9 Cq (b8 (b7 0) c7))) b1 [1] Yj Yi))
  (g9 [false,true,true] (eCB E9 (b8 (p9 (iL (b7 2)) b1 [1] C9 Yh) c7)))))
def Z4:List D->R D:=mOf true 2 1 Vz
def Yg:DE->R Bool:=
 (g0 asB (eOp dNe (b7 0) (b7 1)))
def Ye:DE->R D:=
 (b7 0)
def Lu:DS->SR:=
 (e7 (B0 (e9 V6 (b8 (b7 0) (b8 (b7 1) c7))))
  (e7 (i4 false 2 [true,true] (eCB G7 (b8 (e9 Z4 (b8 (b7 0) (b8 (b7 1) c7))) c7)))
  (e7 (i4 true 3 [true,true] (p9 (iL (eOp dIx (b7 0) (eC (.int 1)))) b1 [1] Yg Ye))
  (g9 [true,false,true,true] (n6 (b8 (n6 (b8 (eOp dIx (b7 0) (eC (.int 0))) (b8 (eCB G7 (b8 (eCB E9 (b8 (eOp v8 (b7 3) (l8 (b8 (b7 2) c7))) c7)) c7)) c7))) (b8 (b7 2) c7)))))))
def R5:List D->R D:=mOf false 2 2 Lu
def Pd:DS->SR:=
 (g9 [true,true] (eOp dIx (e9 R5 (b8 (b7 1) (b8 (eUn (o7 "line" ["TurnLine"]) (b7 0)) c7))) (eC (.int 0))))
def K7:List D->R D:=mOf false 2 0 Pd
def Pc:DS->SR:=
 (g9 [true,true] (p8 "TurnLine" (b8 (eOp dIx (e9 R5 (b8 (b7 1) (b8 (eUn (o7 "line" ["TurnLine"]) (b7 0)) c7))) (eC (.int 1))) c7)))
def M6:List D->R D:=mOf false 2 0 Pc
def o6:String->Option (List D->R D):=fun c=>if c="Mirror" then some Cw else if c="Spin" then some Cp else if c="TurnLine" then some K7 else none
def D6:String->Option (List D->R D):=fun c=>if c="Mirror" then some Aj else if c="Spin" then some Ag else if c="TurnLine" then some Am else none
def jr:DS->SR:=
 (e7 (sIf (bOr (g0 asB (eOp dNe (e9 C8 (b8 (b7 0) c7)) (b7 1))) (g0 asB (eOp dNe (m9 o6 (b7 0) (b8 (b7 2) c7)) (b7 3))))
   (g9 [] (eC (.bl false)))
   sNx)
  (e7 (i4 false 5 [true] (m9 D6 (b7 0) c7))
  (g9 [false,false,false,false,true,true] (E3 (eUn (r9 "str") (b7 5)) (eOp dEq (b7 5) (b7 4))))))
def r6:List D->R D:=mOf false 5 1 jr
def o4:String->Option (List D->R D):=fun c=>if c="Mirror" then some Cy else if c="Spin" then some Cr else if c="TurnLine" then some M6 else none
def Os:DS->SR:=
 (e7 (i4 true 3 [] (l8 c7))
  (e7 (An (sIf (fun ρ=>((g0 asB (eOp dEq (b7 0) (eC (.int 0)))) ρ).noE) (B0 (W0 knX v7 (b8 (b7 1) c7))) (sIf (fun ρ=>((g0 asB (eOp dEq (b7 0) (eC (.int 1)))) ρ).noE) (B0 (L9 knX o6 (p8 "TurnLine" (b8 (b7 1) c7)) (b8 (b7 2) c7))) (sIf (fun ρ=>((g0 asB (eOp dEq (b7 0) (eC (.int 2)))) ρ).noE) (B0 (L9 knX o4 (p8 "TurnLine" (b8 (b7 1) c7)) (b8 (b7 2) c7))) (B0 (L9 knX o6 (b7 1) (b8 (b7 2) c7))))))
   (hAs S2 4 (e7 (i4 true 3 [false,false,false,false,true] (l8 (b8 (eUn (o8 O9) (b7 4)) (b8 (eUn (o8 O3) (b7 4)) (b8 (eUn (o8 O4) (b7 4)) c7)))))
  (e7 (N4 "list" E0 3 [false,false,false,false,true] (b8 (eUn (o8 M8) (b7 4)) c7))
  (N4 "list" E0 3 [false,false,false,false,true] (b8 (eUn (o8 M7) (b7 4)) c7)))) Pw))
  (Ei 3)))
def J0:List D->R D:=mOf true 3 2 Os
def jC:DS->SR:=
 (e7 (i4 false 2 [false,true] (eOp l4 (b7 1) (eC (.int 100))))
  (e7 (i4 false 3 [false,true] (eOp l4 (eOp E1 (b7 1) (eC (.int 100))) (eC (.int 99))))
  (e7 (i4 false 3 [false,false,true,true] (eOp z6 (b7 3) (eCB S6 (b8 (eOp dGe (b7 3) (b7 2)) c7))))
  (e7 (i4 false 4 [false,false,true,true] (n6 (b8 (eCB Eg (b8 (b7 2) (b8 (b7 3) c7))) (b8 (eCB Eh (b8 (b7 2) (b8 (b7 3) c7))) c7))))
  (e7 (i4 false 5 [false,false,true,true] (e9 v7 (b8 (eOp k7 (eOp k7 (eOp k7 (eC (.str "turn ")) (eCB m5 (b8 (b7 2) c7))) (eC (.str "-"))) (eCB m5 (b8 (b7 3) c7))) c7)))
  (e7 (sIf (bOr (g0 asB (eOp dNe (e9 C8 (b8 (b7 5) c7)) (eC (.str "turn")))) (bOr (g0 asB (eOp dNe (eUn (o7 "line" ["TurnLine"]) (b7 5)) (b7 4))) (g0 asB (eOp dNe (m9 D6 (b7 5) c7) (eOp k7 (eOp k7 (eOp k7 (eC (.str "turn ")) (eCB m5 (b8 (eOp dIx (b7 4) (eC (.int 0))) c7))) (eC (.str "-"))) (eCB m5 (b8 (eOp dIx (b7 4) (eC (.int 1))) c7)))))))
   (g9 [] (eC (.bl false)))
   sNx)
  (e7 (sIf (g0 asB (eOp (dIn false) (b7 4) (eOp dIx (b7 0) (eC (.int 1)))))
   (g9 [true,false,false,false,true,true] (eOp dEq (m9 o6 (b7 5) (b8 (b7 0) c7)) (e9 G9 (b8 (b7 0) (b8 (b7 4) c7)))))
   sNx)
  (g9 [true,false,false,false,false,true] (eOp dEq (e9 J0 (b8 (eC (.int 3)) (b8 (b7 5) (b8 (b7 0) c7)))) (l8 (b8 (eC (.bl true)) (b8 (eC (.bl false)) (b8 (eC (.bl true)) (b8 (eC (.bl false)) (b8 (eC (.bl false)) c7)))))))))))))))
def Df:List D->R D:=mOf false 2 4 jC
def Pg:DE->R Bool:=
 (g0 asB (eOp dNe (b7 0) (b7 1)))
def Pf:DE->R D:=
 (b7 0)
def Dh:DS->SR:=
 (e7 (i4 false 7 [true,false,false,false,false,false,true] (e9 G9 (b8 (b7 0) (b8 (b7 6) c7))))
  (sIf (g0 asB (eOp dNe (m9 o6 (b7 5) (b8 (b7 7) c7)) (e9 G9 (b8 (b7 7) (b8 (b7 1) c7)))))
   (g9 [] (eC (.bl false)))
   sNx))
def zbh:DS->SR:=
 (e7 (i4 false 2 [true,true] (e9 P0 (b8 (b7 0) (b8 (b7 1) c7))))
  (e7 (i4 false 3 [true,true] (e9 G9 (b8 (b7 0) (b8 (b7 1) c7))))
  (e7 (i4 false 4 [false,true] (eOp k7 (eOp k7 (eOp k7 (eC (.str "turn ")) (eCB m5 (b8 (eOp dIx (b7 1) (eC (.int 0))) c7))) (eC (.str "-"))) (eCB m5 (b8 (eOp dIx (b7 1) (eC (.int 1))) c7))))
  (e7 (i4 false 5 [false,true] (p8 "TurnLine" (b8 (b7 1) c7)))
  (e7 (sIf (bOr (t8 (g0 m7 (e9 r6 (b8 (b7 5) (b8 (eC (.str "turn")) (b8 (b7 0) (b8 (b7 3) (b8 (b7 4) c7)))))))) (g0 asB (eOp dNe (eUn (o7 "line" ["TurnLine"]) (b7 5)) (b7 1))))
   (g9 [] (eC (.bl false)))
   sNx)
  (e7 (T4 false [true,true,false,false,false,false,true] (iL (eSl dSl (p9 (iL (eOp dIx (b7 0) (eC (.int 1)))) b1 [1] Pg Pf) oNo (oSo (eC (.int 2))))) (.n 6) Dh)
  (e7 (i4 false 8 [true,false,false,false,false,true] (m9 o4 (b7 5) (b8 (b7 0) c7)))
  (e7 (sIf (bOr (g0 asB (eOp dNe (e9 C8 (b8 (b7 8) c7)) (eC (.str "turn")))) (g0 asB (eOp dNe (eUn (o7 "line" ["TurnLine"]) (b7 8)) (b7 2))))
   (g9 [] (eC (.bl false)))
   sNx)
  (e7 (sIf (t8 (g0 m7 (e9 r6 (b8 (b7 8) (b8 (eC (.str "turn")) (b8 (b7 3) (b8 (b7 0) (b8 (eOp k7 (eOp k7 (eOp k7 (eC (.str "turn ")) (eCB m5 (b8 (eOp dIx (b7 2) (eC (.int 0))) c7))) (eC (.str "-"))) (eCB m5 (b8 (eOp dIx (b7 2) (eC (.int 1))) c7))) c7))))))))
   (g9 [] (eC (.bl false)))
   sNx)
  (e7 (i4 false 9 [false,true] (e9 v7 (b8 (eOp k7 (eOp k7 (eOp k7 (eC (.str "turn ")) (eCB m5 (b8 (eOp dIx (b7 1) (eC (.int 1))) c7))) (eC (.str "-"))) (eCB m5 (b8 (eOp dIx (b7 1) (eC (.int 0))) c7))) c7)))
  (e7 (i4 false 10 [false,false,false,false,true] (e9 v7 (b8 (b7 4) c7)))
  (e7 (sIf (bOr (g0 asB (eOp dNe (e9 C8 (b8 (b7 9) c7)) (eC (.str "turn")))) (bOr (g0 asB (eOp dNe (eUn (o7 "line" ["TurnLine"]) (b7 9)) (b7 1))) (bOr (g0 asB (eOp dNe (e9 C8 (b8 (b7 10) c7)) (eC (.str "turn")))) (g0 asB (eOp dNe (eUn (o7 "line" ["TurnLine"]) (b7 10)) (b7 1))))))
   (g9 [] (eC (.bl false)))
   sNx)
  (g9 [true,false,false,true,true,false,false,false,false,true,true] (E3 (e9 r6 (b8 (b7 9) (b8 (eC (.str "turn")) (b8 (b7 0) (b8 (b7 3) (b8 (b7 4) c7)))))) (e9 r6 (b8 (b7 10) (b8 (eC (.str "turn")) (b8 (b7 0) (b8 (b7 3) (b8 (b7 4) c7))))))))))))))))))))
def Ai:List D->R D:=mOf false 2 9 zbh
def zaw:DS->SR:=
 (e7 (i4 false 2 [true,true] (e9 S1 (b8 (b7 0) (b8 (b7 1) (b8 (eC (.int 1)) c7)))))
  (e7 (i4 false 3 [false,true] (p8 "Spin" (b8 (b7 1) c7)))
  (e7 (sIf (bOr (t8 (g0 m7 (e9 r6 (b8 (b7 3) (b8 (eC (.str "spin")) (b8 (b7 0) (b8 (b7 2) (b8 (eOp k7 (eC (.str "spin ")) (eCB m5 (b8 (b7 1) c7))) c7)))))))) (g0 asB (eOp dNe (eUn (o7 "by" ["Spin"]) (b7 3)) (b7 1))))
   (g9 [] (eC (.bl false)))
   sNx)
  (e7 (i4 false 4 [true,false,false,true] (m9 o4 (b7 3) (b8 (b7 0) c7)))
  (e7 (sIf (bOr (t8 (g0 m7 (e9 r6 (b8 (b7 4) (b8 (eC (.str "spin")) (b8 (b7 2) (b8 (b7 0) (b8 (eOp k7 (eC (.str "spin ")) (eCB m5 (b8 (eUn J7 (b7 1)) c7))) c7)))))))) (g0 asB (eOp dNe (eUn (o7 "by" ["Spin"]) (b7 4)) (eUn J7 (b7 1)))))
   (g9 [] (eC (.bl false)))
   sNx)
  (e7 (i4 false 5 [false,true] (e9 v7 (b8 (eOp k7 (eC (.str "spin ")) (eCB m5 (b8 (b7 1) c7))) c7)))
  (g9 [true,true,true,false,false,true] (E3 (e9 r6 (b8 (b7 5) (b8 (eC (.str "spin")) (b8 (b7 0) (b8 (b7 2) (b8 (eOp k7 (eC (.str "spin ")) (eCB m5 (b8 (b7 1) c7))) c7)))))) (eOp dEq (eUn (o7 "by" ["Spin"]) (b7 5)) (b7 1))))))))))
def Al:List D->R D:=mOf false 2 4 zaw
def jB:DS->SR:=
 (e7 (sIf (g0 asB (eOp dNe (e9 J0 (b8 (eC (.int 0)) (b8 (e9 Dc (b8 (e9 D8 (b8 (b7 0) (b8 (eC (.int 1)) c7))) c7)) (b8 (b7 1) c7)))) (l8 (b8 (eC (.bl true)) (b8 (eC (.bl true)) (b8 (eC (.bl false)) (b8 (eC (.bl false)) (b8 (eC (.bl false)) c7))))))))
   (g9 [] (eC (.bl false)))
   sNx)
  (e7 (i4 false 2 [true,true] (e9 Da (b8 (b7 1) (b8 (e9 D8 (b8 (b7 0) (b8 (eC (.int 2)) c7))) c7))))
  (e7 (i4 true 3 [] (l8 (b8 (eC (.bl true)) (b8 (eC (.bl false)) (b8 (eC (.bl true)) (b8 (eC (.bl false)) (b8 (eC (.bl false)) c7)))))))
  (e7 (sIf (bOr (g0 asB (eOp dNe (e9 J0 (b8 (eC (.int 1)) (b8 (b7 2) (b8 (b7 1) c7)))) (b7 3))) (g0 asB (eOp dNe (e9 J0 (b8 (eC (.int 2)) (b8 (b7 2) (b8 (b7 1) c7)))) (b7 3))))
   (g9 [] (eC (.bl false)))
   sNx)
  (g9 [true,true] (e9 Df (b8 (b7 1) (b8 (e9 D8 (b8 (b7 0) (b8 (eC (.int 3)) c7))) c7))))))))
def Ak:List D->R D:=mOf false 2 2 jB
def y5i:DS->SR:=
 (e7 (i4 false 1 [] (eC (.int 17)))
  (e7 (sIf (g0 asB (eOp dEq (eOp l4 (eOp E1 (e9 D8 (b8 (b7 0) (b8 (eC (.int 0)) c7))) (eC (.int 4))) (eC (.int 8))) (eC (.int 3))))
   (i4 false 1 [] (eC (.int 57)))
   sNx)
  (e7 (i4 false 2 [true,true] (e9 Af (b8 (eSl dSl (b7 0) (oSo (eC (.int 4))) (oSo (eOp z6 (eC (.int 4)) (b7 1)))) c7)))
  (e7 (i4 false 3 [true] (e9 D8 (b8 (b7 0) (b8 (eC (.int 0)) c7))))
  (e7 (sIf (g0 asB (eOp dEq (eOp l4 (b7 3) (eC (.int 4))) (eC (.int 3))))
   (g9 [true,false,true] (e9 Ak (b8 (b7 0) (b8 (b7 2) c7))))
   sNx)
  (e7 (sIf (D1 (g0 asB (eOp dEq (eOp l4 (b7 3) (eC (.int 4))) (eC (.int 0)))) (g0 asB (eOp P9 (eOp dIx (b7 2) (eC (.int 0))) (eC (.int 3)))))
   (g9 [true,false,true] (e9 Ai (b8 (b7 2) (b8 (eOp dIx (eOp dIx (b7 2) (eC (.int 1))) (eOp l4 (e9 D8 (b8 (b7 0) (b8 (eC (.int 1)) c7))) (eOp y8 (eOp dIx (b7 2) (eC (.int 0))) (eC (.int 3))))) c7))))
   sNx)
  (e7 (sIf (g0 asB (eOp W8 (eOp l4 (b7 3) (eC (.int 4))) (eC (.int 2))))
   (g9 [true,false,true] (e9 Al (b8 (b7 2) (b8 (e9 Ae (b8 (e9 D8 (b8 (b7 0) (b8 (eC (.int 1)) c7))) c7)) c7))))
   sNx)
  (e7 (i4 false 4 [false,false,true] (e9 S1 (b8 (b7 2) (b8 (eC (.int 0)) (b8 (eUn J7 (eC (.int 1))) c7)))))
  (e7 (sIf (t8 (g0 m7 (e9 r6 (b8 (K3 "Mirror") (b8 (eC (.str "mirror")) (b8 (b7 2) (b8 (b7 4) (b8 (eC (.str "mirror")) c7))))))))
   (g9 [] (eC (.bl false)))
   sNx)
  (e7 (sIf (t8 (g0 m7 (e9 r6 (b8 (m9 o4 (K3 "Mirror") (b8 (b7 2) c7)) (b8 (eC (.str "mirror")) (b8 (b7 4) (b8 (b7 2) (b8 (eC (.str "mirror")) c7))))))))
   (g9 [] (eC (.bl false)))
   sNx)
  (g9 [false,false,true,false,true] (e9 r6 (b8 (e9 v7 (b8 (eC (.str "mirror")) c7)) (b8 (eC (.str "mirror")) (b8 (b7 2) (b8 (b7 4) (b8 (eC (.str "mirror")) c7)))))))))))))))))
def X0:List D->R D:=mOf false 1 4 y5i
abbrev Mu:Stmt:=top 20
abbrev Jt:Stmt:=top 21
abbrev Mi:Stmt:=top 22
abbrev Ls:Stmt:=top 24
abbrev Mt:Stmt:=top 25
abbrev Ny:Stmt:=top 26
abbrev Nw:Stmt:=top 27
abbrev Nv:Stmt:=top 28
abbrev Ms:Stmt:=top 29
abbrev Nj:Stmt:=top 30
abbrev Ky:Stmt:=top 32
abbrev Nu:Stmt:=top 33
abbrev Pb:Stmt:=top 34
abbrev Ni:Stmt:=top 35
abbrev Lr:Stmt:=top 36
abbrev Js:Stmt:=top 38
abbrev Mr:Stmt:=top 39
abbrev Kx:Stmt:=top 40
abbrev Lq:Stmt:=top 42
abbrev Nh:Stmt:=top 48
abbrev Ng:Stmt:=top 49
abbrev Nt:Stmt:=top 50
abbrev Nf:Stmt:=top 52
abbrev Oh:Stmt:=top 53
abbrev Nr:Stmt:=top 54
abbrev Nq:Stmt:=top 55
abbrev Og:Stmt:=top 56
abbrev Ph:Stmt:=top 57
abbrev Of:Stmt:=top 58
abbrev Nd:Stmt:=top 59
abbrev Oq:Stmt:=top 60
abbrev Op:Stmt:=top 61
abbrev On:Stmt:=top 62
abbrev Om:Stmt:=top 63
abbrev Pa:Stmt:=top 64
abbrev Oz:Stmt:=top 65
abbrev Ol:Stmt:=top 66
abbrev Nc:Stmt:=top 67
abbrev Oy:Stmt:=top 68
abbrev Hl:Stmt:=top 69
abbrev Ox:Stmt:=(K4 (top 45)).getD 1 (.Pass ⟨0,0,0,0⟩)
abbrev Ow:Stmt:=(K4 (top 45)).getD 2 (.Pass ⟨0,0,0,0⟩)
abbrev Pe:Stmt:=(K4 (top 45)).getD 3 (.Pass ⟨0,0,0,0⟩)
abbrev Nb:Stmt:=(K4 (top 46)).getD 1 (.Pass ⟨0,0,0,0⟩)
abbrev Na:Stmt:=(K4 (top 46)).getD 2 (.Pass ⟨0,0,0,0⟩)
abbrev Np:Stmt:=(K4 (top 46)).getD 3 (.Pass ⟨0,0,0,0⟩)
abbrev Oe:Stmt:=(K4 (top 47)).getD 0 (.Pass ⟨0,0,0,0⟩)
abbrev Od:Stmt:=(K4 (top 47)).getD 1 (.Pass ⟨0,0,0,0⟩)
abbrev Oj:Stmt:=(K4 (top 47)).getD 2 (.Pass ⟨0,0,0,0⟩)
abbrev Ze:Stmt:=(K4 (top 46)).getD 0 (.Pass ⟨0,0,0,0⟩)
theorem zfc:FnScope ["self","by"] ["self","by"] (i7 Ze):=fsc
abbrev jA:Stmt:=(K4 (top 45)).getD 0 (.Pass ⟨0,0,0,0⟩)
theorem z9i:FnScope ["self","line"] ["self","line"] (i7 jA):=fsc
structure Txt(mg:Str->Option Value):Prop where
 ValueError:mg "ValueError"=none
 «all»:mg "all"=none
 bool:mg "bool"=none
 int:mg "int"=none
 isinstance:mg "isinstance"=none
 len:mg "len"=none
 list:mg "list"=none
 «max»:mg "max"=none
 «min»:mg "min"=none
 range:mg "range"=none
 sorted:mg "sorted"=none
 str:mg "str"=none
 sum:mg "sum"=none
 tuple:mg "tuple"=none
structure Exs(K:Frag)(mg:Str->Option Value)(u0 u1 u2 u3 u4 u5 u6 u7 u8 u9 u10 u11 u12 u13 u14 u15 u16 u17 u18 u19 u20 u21:Addr):Prop where
 a_Crossed:mg (Str.ofString "Crossed")=some (.ref u0)
 a_Deed:mg (Str.ofString "Deed")=some (.ref u1)
 a_Fallen:mg (Str.ofString "Fallen")=some (.ref u2)
 a_FloorError:mg (Str.ofString "FloorError")=some (.ref u3)
 a_Mirror:mg (Str.ofString "Mirror")=some (.ref u4)
 a_NoBand:mg (Str.ofString "NoBand")=some (.ref u5)
 a_NoCorner:mg (Str.ofString "NoCorner")=some (.ref u6)
 a_NoDeed:mg (Str.ofString "NoDeed")=some (.ref u7)
 a_NoEar:mg (Str.ofString "NoEar")=some (.ref u8)
 a_NoFloor:mg (Str.ofString "NoFloor")=some (.ref u9)
 a_NoLine:mg (Str.ofString "NoLine")=some (.ref u10)
 a_NoName:mg (Str.ofString "NoName")=some (.ref u11)
 a_NoPlace:mg (Str.ofString "NoPlace")=some (.ref u12)
 a_NoQuotient:mg (Str.ofString "NoQuotient")=some (.ref u13)
 a_NoRow:mg (Str.ofString "NoRow")=some (.ref u14)
 a_NoText:mg (Str.ofString "NoText")=some (.ref u15)
 a_NoTurn:mg (Str.ofString "NoTurn")=some (.ref u16)
 a_NotAlike:mg (Str.ofString "NotAlike")=some (.ref u17)
 a_NotFull:mg (Str.ofString "NotFull")=some (.ref u18)
 a_Spin:mg (Str.ofString "Spin")=some (.ref u19)
 a_TooMany:mg (Str.ofString "TooMany")=some (.ref u20)
 a_TurnLine:mg (Str.ofString "TurnLine")=some (.ref u21)
 n_FloorError:nsIn K mainGlobals (Str.ofString "FloorError")=some (some (.ref u3))
 n_Mirror:nsIn K mainGlobals (Str.ofString "Mirror")=some (some (.ref u4))
 n_NoDeed:nsIn K mainGlobals (Str.ofString "NoDeed")=some (some (.ref u7))
 n_NoLine:nsIn K mainGlobals (Str.ofString "NoLine")=some (some (.ref u10))
 n_Spin:nsIn K mainGlobals (Str.ofString "Spin")=some (some (.ref u19))
 n_TurnLine:nsIn K mainGlobals (Str.ofString "TurnLine")=some (some (.ref u21))
 q_FloorError:PySem.W.excIn K u3 [.type "ValueError",.type "Exception",.type "BaseException",.type "object"] "ValueError.__new__"=true
 q_NoDeed:PySem.W.excIn K u7 [.type "ValueError",.type "Exception",.type "BaseException",.type "object"] "ValueError.__new__"=true
 q_NoLine:PySem.W.excIn K u10 [.type "ValueError",.type "Exception",.type "BaseException",.type "object"] "ValueError.__new__"=true
 op_Mirror:PySem.W.plainGet K u4 Str.empty=true
 oh_Mirror:PySem.W.hasDictIn K u4=true
 oo_Mirror:plainOver K u4=true
 os_Mirror:PySem.W.findIn K (.ref u4) "__setattr__"=some (some (.builtin "object.__setattr__"))
 om_Mirror:PySem.W.makesIn K u4=true
 oq_Mirror:keepIn K (.ref u4)=true
 oi_Mirror:PySem.W.findIn K (.ref u4) "__init__"=some (some (.builtin "object.__init__"))
 oc_Mirror:PySem.W.findIn K (.ref u4) "__class__"=some (some (.builtin "object.__class__"))
 ob_Mirror:mroIn K u4 (.type "object")=some true
 ok_Mirror_Deed:kitOne K (.ref u4) (.ref u1)=some true
 ok_Mirror_Mirror:kitOne K (.ref u4) (.ref u4)=some true
 ok_Mirror_Spin:kitOne K (.ref u4) (.ref u19)=some false
 ok_Mirror_TurnLine:kitOne K (.ref u4) (.ref u21)=some false
 op_Spin:PySem.W.plainGet K u19 Str.empty=true
 oh_Spin:PySem.W.hasDictIn K u19=true
 oo_Spin:plainOver K u19=true
 os_Spin:PySem.W.findIn K (.ref u19) "__setattr__"=some (some (.builtin "object.__setattr__"))
 om_Spin:PySem.W.makesIn K u19=true
 oq_Spin:keepIn K (.ref u19)=true
 ov_Spin:PySem.W.findIn K (.ref u19) "by"=some none
 oc_Spin:PySem.W.findIn K (.ref u19) "__class__"=some (some (.builtin "object.__class__"))
 ob_Spin:mroIn K u19 (.type "object")=some true
 ok_Spin_Deed:kitOne K (.ref u19) (.ref u1)=some true
 ok_Spin_Mirror:kitOne K (.ref u19) (.ref u4)=some false
 ok_Spin_Spin:kitOne K (.ref u19) (.ref u19)=some true
 ok_Spin_TurnLine:kitOne K (.ref u19) (.ref u21)=some false
 op_TurnLine:PySem.W.plainGet K u21 Str.empty=true
 oh_TurnLine:PySem.W.hasDictIn K u21=true
 oo_TurnLine:plainOver K u21=true
 os_TurnLine:PySem.W.findIn K (.ref u21) "__setattr__"=some (some (.builtin "object.__setattr__"))
 om_TurnLine:PySem.W.makesIn K u21=true
 oq_TurnLine:keepIn K (.ref u21)=true
 ov_TurnLine:PySem.W.findIn K (.ref u21) "line"=some none
 oc_TurnLine:PySem.W.findIn K (.ref u21) "__class__"=some (some (.builtin "object.__class__"))
 ob_TurnLine:mroIn K u21 (.type "object")=some true
 ok_TurnLine_Deed:kitOne K (.ref u21) (.ref u1)=some true
 ok_TurnLine_Mirror:kitOne K (.ref u21) (.ref u4)=some false
 ok_TurnLine_Spin:kitOne K (.ref u21) (.ref u19)=some false
 ok_TurnLine_TurnLine:kitOne K (.ref u21) (.ref u21)=some true
 xg:PySem.W.specialIn K (.builtin "object.__class__") "__get__"=some (some (.builtin "getset_descriptor.__get__"))
 xt:PySem.W.takesIn K (.builtin "object.__class__")=some true
 fo_NoDeed:mroIn K u7 (.type "object")=some true
 fb_NoDeed:mroIn K u7 (.type "BaseException")=some true
 fc_NoDeed:PySem.W.findIn K (.ref u7) "__class__"=some (some (.builtin "object.__class__"))
 fg_NoDeed:PySem.W.findIn K (.ref u7) "__getattribute__"=some (some (.builtin "BaseException.__getattribute__"))
 ft_NoDeed:PySem.W.findIn K (.ref u7) "__getattr__"=some none
 m_NoDeed_FloorError:mroIn K u7 (.ref u3)=some true
 k_NoDeed_NoLine:kitOne K (.ref u7) (.ref u10)=some false
 k_NoDeed_NoDeed:kitOne K (.ref u7) (.ref u7)=some true
 k_NoDeed_ValueError:kitOne K (.ref u7) (.type "ValueError")=some true
 kt_NoDeed_0:kitAny K (.ref u7) [.ref u12,.ref u6,.ref u9,.ref u0,.ref u2,.ref u5,.ref u20,.ref u8]=some false
 kt_NoDeed_1:kitAny K (.ref u7) [.ref u11,.ref u13,.ref u14,.ref u15,.ref u16,.ref u17,.ref u18]=some false
 fo_NoLine:mroIn K u10 (.type "object")=some true
 fb_NoLine:mroIn K u10 (.type "BaseException")=some true
 fc_NoLine:PySem.W.findIn K (.ref u10) "__class__"=some (some (.builtin "object.__class__"))
 fg_NoLine:PySem.W.findIn K (.ref u10) "__getattribute__"=some (some (.builtin "BaseException.__getattribute__"))
 ft_NoLine:PySem.W.findIn K (.ref u10) "__getattr__"=some none
 m_NoLine_FloorError:mroIn K u10 (.ref u3)=some true
 k_NoLine_NoLine:kitOne K (.ref u10) (.ref u10)=some true
 k_NoLine_NoDeed:kitOne K (.ref u10) (.ref u7)=some false
 k_NoLine_ValueError:kitOne K (.ref u10) (.type "ValueError")=some true
 kt_NoLine_0:kitAny K (.ref u10) [.ref u12,.ref u6,.ref u9,.ref u0,.ref u2,.ref u5,.ref u20,.ref u8]=some false
 kt_NoLine_1:kitAny K (.ref u10) [.ref u11,.ref u13,.ref u14,.ref u15,.ref u16,.ref u17,.ref u18]=some false
section
variable {K:Frag}{mg:Str->Option Value}{u0 u1 u2 u3 u4 u5 u6 u7 u8 u9 u10 u11 u12 u13 u14 u15 u16 u17 u18 u19 u20 u21:Addr}
theorem Exs.kn(Z:Exs K mg u0 u1 u2 u3 u4 u5 u6 u7 u8 u9 u10 u11 u12 u13 u14 u15 u16 u17 u18 u19 u20 u21):∀c,knX c=true->∃C,mg (Str.ofString c)=some (.ref C):=by
 intro c h;simp only[knX,ED,BN]at h;rcases h with h |h
 . subst h;exact⟨_,Z.a_NoDeed⟩
 . subst h;exact⟨_,Z.a_NoLine⟩
theorem Exs.t_FloorError(Z:Exs K mg u0 u1 u2 u3 u4 u5 u6 u7 u8 u9 u10 u11 u12 u13 u14 u15 u16 u17 u18 u19 u20 u21):Tbl K "FloorError" u3 [.type "ValueError",.type "Exception",.type "BaseException",.type "object"] "ValueError.__new__" S2:=⟨Z.n_FloorError,.inl Z.q_FloorError,by
 intro c b h;simp only[S2]at h;by_cases e:c="NoDeed"
 . rw[ζ e]at h;cases h;subst e;exact⟨_,Z.n_NoDeed,.inl Z.q_NoDeed,Z.m_NoDeed_FloorError⟩
 rw[ξ e]at h;by_cases e:c="NoLine"
 . rw[ζ e]at h;cases h;subst e;exact⟨_,Z.n_NoLine,.inl Z.q_NoLine,Z.m_NoLine_FloorError⟩
 rw[ξ e]at h;cases h⟩
theorem Exs.b_NoLine(Z:Exs K mg u0 u1 u2 u3 u4 u5 u6 u7 u8 u9 u10 u11 u12 u13 u14 u15 u16 u17 u18 u19 u20 u21):Bel K (.ref u10) O4:=⟨by
 intro c b h;simp only[O4]at h;by_cases e:c="NoDeed"
 . rw[ζ e]at h;cases h;subst e;exact⟨_,Z.n_NoDeed,⟨Z.fo_NoDeed,Z.fb_NoDeed,Z.fc_NoDeed,Z.fg_NoDeed,Z.ft_NoDeed⟩,Z.k_NoDeed_NoLine⟩
 rw[ξ e]at h;by_cases e:c="NoLine"
 . rw[ζ e]at h;cases h;subst e;exact⟨_,Z.n_NoLine,⟨Z.fo_NoLine,Z.fb_NoLine,Z.fc_NoLine,Z.fg_NoLine,Z.ft_NoLine⟩,Z.k_NoLine_NoLine⟩
 rw[ξ e]at h;cases h⟩
theorem Exs.b_NoDeed(Z:Exs K mg u0 u1 u2 u3 u4 u5 u6 u7 u8 u9 u10 u11 u12 u13 u14 u15 u16 u17 u18 u19 u20 u21):Bel K (.ref u7) O3:=⟨by
 intro c b h;simp only[O3]at h;by_cases e:c="NoDeed"
 . rw[ζ e]at h;cases h;subst e;exact⟨_,Z.n_NoDeed,⟨Z.fo_NoDeed,Z.fb_NoDeed,Z.fc_NoDeed,Z.fg_NoDeed,Z.ft_NoDeed⟩,Z.k_NoDeed_NoDeed⟩
 rw[ξ e]at h;by_cases e:c="NoLine"
 . rw[ζ e]at h;cases h;subst e;exact⟨_,Z.n_NoLine,⟨Z.fo_NoLine,Z.fb_NoLine,Z.fc_NoLine,Z.fg_NoLine,Z.ft_NoLine⟩,Z.k_NoLine_NoDeed⟩
 rw[ξ e]at h;cases h⟩
theorem Exs.b_ValueError(Z:Exs K mg u0 u1 u2 u3 u4 u5 u6 u7 u8 u9 u10 u11 u12 u13 u14 u15 u16 u17 u18 u19 u20 u21):Bel K (.type "ValueError") O9:=⟨by
 intro c b h;simp only[O9]at h;by_cases e:c="NoDeed"
 . rw[ζ e]at h;cases h;subst e;exact⟨_,Z.n_NoDeed,⟨Z.fo_NoDeed,Z.fb_NoDeed,Z.fc_NoDeed,Z.fg_NoDeed,Z.ft_NoDeed⟩,Z.k_NoDeed_ValueError⟩
 rw[ξ e]at h;by_cases e:c="NoLine"
 . rw[ζ e]at h;cases h;subst e;exact⟨_,Z.n_NoLine,⟨Z.fo_NoLine,Z.fb_NoLine,Z.fc_NoLine,Z.fg_NoLine,Z.ft_NoLine⟩,Z.k_NoLine_ValueError⟩
 rw[ξ e]at h;cases h⟩
theorem Exs.bt_0(Z:Exs K mg u0 u1 u2 u3 u4 u5 u6 u7 u8 u9 u10 u11 u12 u13 u14 u15 u16 u17 u18 u19 u20 u21):BelT K [u12,u6,u9,u0,u2,u5,u20,u8] M8:=⟨by
 intro c b h;simp only[M8]at h;by_cases e:c="NoDeed"
 . rw[ζ e]at h;cases h;subst e;exact⟨_,Z.n_NoDeed,⟨Z.fo_NoDeed,Z.fb_NoDeed,Z.fc_NoDeed,Z.fg_NoDeed,Z.ft_NoDeed⟩,Z.kt_NoDeed_0⟩
 rw[ξ e]at h;by_cases e:c="NoLine"
 . rw[ζ e]at h;cases h;subst e;exact⟨_,Z.n_NoLine,⟨Z.fo_NoLine,Z.fb_NoLine,Z.fc_NoLine,Z.fg_NoLine,Z.ft_NoLine⟩,Z.kt_NoLine_0⟩
 rw[ξ e]at h;cases h⟩
theorem Exs.bt_1(Z:Exs K mg u0 u1 u2 u3 u4 u5 u6 u7 u8 u9 u10 u11 u12 u13 u14 u15 u16 u17 u18 u19 u20 u21):BelT K [u11,u13,u14,u15,u16,u17,u18] M7:=⟨by
 intro c b h;simp only[M7]at h;by_cases e:c="NoDeed"
 . rw[ζ e]at h;cases h;subst e;exact⟨_,Z.n_NoDeed,⟨Z.fo_NoDeed,Z.fb_NoDeed,Z.fc_NoDeed,Z.fg_NoDeed,Z.ft_NoDeed⟩,Z.kt_NoDeed_1⟩
 rw[ξ e]at h;by_cases e:c="NoLine"
 . rw[ζ e]at h;cases h;subst e;exact⟨_,Z.n_NoLine,⟨Z.fo_NoLine,Z.fb_NoLine,Z.fc_NoLine,Z.fg_NoLine,Z.ft_NoLine⟩,Z.kt_NoLine_1⟩
 rw[ξ e]at h;cases h⟩
theorem Exs.cl_Mirror(Z:Exs K mg u0 u1 u2 u3 u4 u5 u6 u7 u8 u9 u10 u11 u12 u13 u14 u15 u16 u17 u18 u19 u20 u21):Cls K u4:=⟨Z.op_Mirror,Z.oh_Mirror,Z.oo_Mirror,Z.os_Mirror⟩
theorem Exs.z_Mirror(Z:Exs K mg u0 u1 u2 u3 u4 u5 u6 u7 u8 u9 u10 u11 u12 u13 u14 u15 u16 u17 u18 u19 u20 u21):MkZ K "Mirror" u4:=⟨Z.n_Mirror,rfl,Z.om_Mirror,Z.oi_Mirror,Z.oq_Mirror⟩
theorem Exs.cl_Spin(Z:Exs K mg u0 u1 u2 u3 u4 u5 u6 u7 u8 u9 u10 u11 u12 u13 u14 u15 u16 u17 u18 u19 u20 u21):Cls K u19:=⟨Z.op_Spin,Z.oh_Spin,Z.oo_Spin,Z.os_Spin⟩
theorem Exs.cl_TurnLine(Z:Exs K mg u0 u1 u2 u3 u4 u5 u6 u7 u8 u9 u10 u11 u12 u13 u14 u15 u16 u17 u18 u19 u20 u21):Cls K u21:=⟨Z.op_TurnLine,Z.oh_TurnLine,Z.oo_TurnLine,Z.os_TurnLine⟩
theorem Exs.fl_by(Z:Exs K mg u0 u1 u2 u3 u4 u5 u6 u7 u8 u9 u10 u11 u12 u13 u14 u15 u16 u17 u18 u19 u20 u21):Flds K "by" ["Spin"]:=⟨fun c h=>by rw[tB.mp h];exact⟨_,Z.n_Spin,Z.cl_Spin,Z.ov_Spin⟩⟩
theorem Exs.fl_line(Z:Exs K mg u0 u1 u2 u3 u4 u5 u6 u7 u8 u9 u10 u11 u12 u13 u14 u15 u16 u17 u18 u19 u20 u21):Flds K "line" ["TurnLine"]:=⟨fun c h=>by rw[tB.mp h];exact⟨_,Z.n_TurnLine,Z.cl_TurnLine,Z.ov_TurnLine⟩⟩
theorem Exs.bo_Deed(Z:Exs K mg u0 u1 u2 u3 u4 u5 u6 u7 u8 u9 u10 u11 u12 u13 u14 u15 u16 u17 u18 u19 u20 u21):BelO K u1 M4:=⟨Z.xg,Z.xt,by
 intro c b h;simp only[M4]at h;by_cases e:c="Mirror"
 . rw[ζ e]at h;cases h;subst e;exact⟨_,Z.n_Mirror,Z.cl_Mirror,Z.oc_Mirror,Z.ob_Mirror,Z.ok_Mirror_Deed⟩
 rw[ξ e]at h;by_cases e:c="Spin"
 . rw[ζ e]at h;cases h;subst e;exact⟨_,Z.n_Spin,Z.cl_Spin,Z.oc_Spin,Z.ob_Spin,Z.ok_Spin_Deed⟩
 rw[ξ e]at h;by_cases e:c="TurnLine"
 . rw[ζ e]at h;cases h;subst e;exact⟨_,Z.n_TurnLine,Z.cl_TurnLine,Z.oc_TurnLine,Z.ob_TurnLine,Z.ok_TurnLine_Deed⟩
 rw[ξ e]at h;cases h⟩
theorem Exs.bo_Mirror(Z:Exs K mg u0 u1 u2 u3 u4 u5 u6 u7 u8 u9 u10 u11 u12 u13 u14 u15 u16 u17 u18 u19 u20 u21):BelO K u4 R8:=⟨Z.xg,Z.xt,by
 intro c b h;simp only[R8]at h;by_cases e:c="Mirror"
 . rw[ζ e]at h;cases h;subst e;exact⟨_,Z.n_Mirror,Z.cl_Mirror,Z.oc_Mirror,Z.ob_Mirror,Z.ok_Mirror_Mirror⟩
 rw[ξ e]at h;by_cases e:c="Spin"
 . rw[ζ e]at h;cases h;subst e;exact⟨_,Z.n_Spin,Z.cl_Spin,Z.oc_Spin,Z.ob_Spin,Z.ok_Spin_Mirror⟩
 rw[ξ e]at h;by_cases e:c="TurnLine"
 . rw[ζ e]at h;cases h;subst e;exact⟨_,Z.n_TurnLine,Z.cl_TurnLine,Z.oc_TurnLine,Z.ob_TurnLine,Z.ok_TurnLine_Mirror⟩
 rw[ξ e]at h;cases h⟩
theorem Exs.bo_Spin(Z:Exs K mg u0 u1 u2 u3 u4 u5 u6 u7 u8 u9 u10 u11 u12 u13 u14 u15 u16 u17 u18 u19 u20 u21):BelO K u19 R4:=⟨Z.xg,Z.xt,by
 intro c b h;simp only[R4]at h;by_cases e:c="Mirror"
 . rw[ζ e]at h;cases h;subst e;exact⟨_,Z.n_Mirror,Z.cl_Mirror,Z.oc_Mirror,Z.ob_Mirror,Z.ok_Mirror_Spin⟩
 rw[ξ e]at h;by_cases e:c="Spin"
 . rw[ζ e]at h;cases h;subst e;exact⟨_,Z.n_Spin,Z.cl_Spin,Z.oc_Spin,Z.ob_Spin,Z.ok_Spin_Spin⟩
 rw[ξ e]at h;by_cases e:c="TurnLine"
 . rw[ζ e]at h;cases h;subst e;exact⟨_,Z.n_TurnLine,Z.cl_TurnLine,Z.oc_TurnLine,Z.ob_TurnLine,Z.ok_TurnLine_Spin⟩
 rw[ξ e]at h;cases h⟩
theorem Exs.bo_TurnLine(Z:Exs K mg u0 u1 u2 u3 u4 u5 u6 u7 u8 u9 u10 u11 u12 u13 u14 u15 u16 u17 u18 u19 u20 u21):BelO K u21 S0:=⟨Z.xg,Z.xt,by
 intro c b h;simp only[S0]at h;by_cases e:c="Mirror"
 . rw[ζ e]at h;cases h;subst e;exact⟨_,Z.n_Mirror,Z.cl_Mirror,Z.oc_Mirror,Z.ob_Mirror,Z.ok_Mirror_TurnLine⟩
 rw[ξ e]at h;by_cases e:c="Spin"
 . rw[ζ e]at h;cases h;subst e;exact⟨_,Z.n_Spin,Z.cl_Spin,Z.oc_Spin,Z.ob_Spin,Z.ok_Spin_TurnLine⟩
 rw[ξ e]at h;by_cases e:c="TurnLine"
 . rw[ζ e]at h;cases h;subst e;exact⟨_,Z.n_TurnLine,Z.cl_TurnLine,Z.oc_TurnLine,Z.ob_TurnLine,Z.ok_TurnLine_TurnLine⟩
 rw[ξ e]at h;cases h⟩
end
theorem zgt:FnScope ["thing"] ["thing"] (i7 Mu):=fsc
theorem vZ:FnScope ["a","b"] ["a","b"] (i7 Jt):=fsc
theorem sc_is_side:FnScope ["n","p","a","b"] ["n","p"] (i7 Mi):=fsc
theorem zi:FnScope ["thing"] ["thing"] (i7 Ls):=fsc
theorem zgu:FnScope ["cut","p"] ["cut","p"] (i7 Mt):=fsc
theorem zdn:FnScope ["cut","p"] ["cut","p"] (i7 Ny):=fsc
theorem zdo:FnScope ["cut","p"] ["cut","p"] (i7 Nw):=fsc
theorem zdp:FnScope ["word","most"] ["word","most"] (i7 Nv):=fsc
theorem sc_two_read:FnScope ["word","parts"] ["word"] (i7 Ms):=fsc
theorem sc_two_shown:FnScope ["two","a","b"] ["two"] (i7 Nj):=fsc
theorem sc_rooms:FnScope ["n","lines","tops"] ["n","lines"] (i7 Ky):=fsc
theorem sc_room_under:FnScope ["top","lines","room"] ["top","lines"] (i7 Nu):=fsc
theorem sc_corner_behind:FnScope ["corner","top","lines","ends"] ["corner","top","lines"] (i7 Pb):=fsc
theorem zfd:FnScope ["cut"] ["cut"] (i7 Ni):=fsc
theorem sc_thirds:FnScope ["cut","p","both"] ["cut","p"] (i7 Lr):=fsc
theorem sc_spun:FnScope ["cut","by","n"] ["cut","by"] (i7 Js):=fsc
theorem sc_mirrored:FnScope ["cut","n"] ["cut"] (i7 Mr):=fsc
theorem yb:FnScope ["cut","becomes"] ["cut","becomes"] (i7 Kx):=fsc
theorem sc_turned:FnScope ["cut","line","new","kept"] ["cut","line"] (i7 Lq):=fsc
theorem sc_read_deed:FnScope ["text","words"] ["text"] (i7 Nh):=fsc
theorem sc_pair_read:FnScope ["word","two"] ["word"] (i7 Ng):=fsc
theorem sc_whole_read:FnScope ["word","most","figures"] ["word","most"] (i7 Nt):=fsc
theorem zfe:FnScope ["_law_script","_law_k"] ["_law_script","_law_k"] (i7 Nf):=fsc
theorem sc__law_put_on:FnScope ["_law_n","_law_lines","_law_at","_law_moved"] ["_law_n","_law_lines","_law_at"] (i7 Oh):=fsc
theorem sc__law_glued:FnScope ["_law_cells","_law_n","_law_lines","_law_cell"] ["_law_cells"] (i7 Nr):=fsc
theorem sc__law_image:FnScope ["_law_cut","_law_by","_law_sign","_law_n","_law_lines","_law_a","_law_b","_law_ends"] ["_law_cut","_law_by","_law_sign"] (i7 Nq):=fsc
theorem sc__law_joined:FnScope ["_law_cut","_law_a","_law_b","_law_low","_law_high"] ["_law_cut","_law_a","_law_b"] (i7 Og):=fsc
theorem sc__law_turned_line:FnScope ["_law_cut","_law_line","_law_ends","_law_others","_law_tips"] ["_law_cut","_law_line"] (i7 Ph):=fsc
theorem sc__law_turned:FnScope ["_law_cut","_law_line","_law_lines"] ["_law_cut","_law_line"] (i7 Of):=fsc
theorem sc__law_kind:FnScope ["_law_deed","_law_some"] ["_law_deed"] (i7 Nd):=fsc
theorem sc__law_is_deed:FnScope ["_law_deed","_law_kind_here","_law_cut","_law_due","_law_written","_law_told"] ["_law_deed","_law_kind_here","_law_cut","_law_due","_law_written"] (i7 Oq):=fsc
theorem sc__law_no_deed:FnScope ["_law_cell","_law_some"] ["_law_cell"] (i7 Op):=fsc
theorem sc__law_refusal:FnScope ["_law_way","_law_thing","_law_cut","_law_told","e"] ["_law_way","_law_thing","_law_cut"] (i7 On):=fsc
theorem sc__law_no_line:FnScope ["_law_cut","_law_cell","_law_n","_law_at","_law_some","_law_line"] ["_law_cut","_law_cell"] (i7 Om):=fsc
theorem sc__law_refusals:FnScope ["_law_script","_law_cut","_law_none","_law_due"] ["_law_script","_law_cut"] (i7 Pa):=fsc
theorem sc__law_any_pair:FnScope ["_law_cut","_law_cell","_law_a","_law_b","_law_line","_law_deed"] ["_law_cut","_law_cell"] (i7 Oz):=fsc
theorem sc__law_turning:FnScope ["_law_cut","_law_line","_law_new","_law_due","_law_written","_law_deed","_law_one","_law_beside","_law_back","_law_other","_law_again"] ["_law_cut","_law_line"] (i7 Ol):=fsc
theorem zff:FnScope ["_law_cell"] ["_law_cell"] (i7 Nc):=fsc
theorem sc__law_spinning:FnScope ["_law_cut","_law_by","_law_due","_law_deed","_law_back","_law_other"] ["_law_cut","_law_by"] (i7 Oy):=fsc
theorem sc_law:FnScope ["_law_script","_law_room","_law_cut","_law_cell","_law_due"] ["_law_script"] (i7 Hl):=fsc
theorem z9j:FnScope ["self","cut"] ["self","cut"] (i7 Ox):=fsc
theorem z9k:FnScope ["self","cut"] ["self","cut"] (i7 Ow):=fsc
theorem z8w:FnScope ["self"] ["self"] (i7 Pe):=fsc
theorem zfg:FnScope ["self","cut"] ["self","cut"] (i7 Nb):=fsc
theorem zfh:FnScope ["self","cut"] ["self","cut"] (i7 Na):=fsc
theorem zdq:FnScope ["self"] ["self"] (i7 Np):=fsc
theorem zbi:FnScope ["self","cut"] ["self","cut"] (i7 Oe):=fsc
theorem zbj:FnScope ["self","cut"] ["self","cut"] (i7 Od):=fsc
theorem zaz:FnScope ["self"] ["self"] (i7 Oj):=fsc
abbrev Yd(P:Program)(w:World)(K:Frag)(mg:Str->Option Value)(base:Heap):Prop:=k6 P w K mg base "is_whole" ["thing"] 1 (spD K mg false Ab 1)
abbrev Jr(P:Program)(w:World)(K:Frag)(mg:Str->Option Value)(base:Heap):Prop:=k6 P w K mg base "pair" ["a","b"] 1 (spD K mg false Y0 2)
abbrev Wy(P:Program)(w:World)(K:Frag)(mg:Str->Option Value)(base:Heap):Prop:=k6 P w K mg base "is_side" ["n","p"] 1 (spD K mg false Ci 2)
abbrev No(P:Program)(w:World)(K:Frag)(mg:Str->Option Value)(base:Heap):Prop:=k6 P w K mg base "is_figures" ["word","most"] 1 (spD K mg false O8 2)
abbrev Zd(P:Program)(w:World)(K:Frag)(mg:Str->Option Value)(base:Heap):Prop:=k6 P w K mg base "two_shown" ["two"] 1 (spD K mg false Cs 1)
abbrev jz(P:Program)(w:World)(K:Frag)(mg:Str->Option Value)(base:Heap):Prop:=k6 P w K mg base "corner_behind" ["corner","top","lines"] 1 (spD K mg false Dg 3)
abbrev Mz(P:Program)(w:World)(K:Frag)(mg:Str->Option Value)(base:Heap):Prop:=k6 P w K mg base "_law_pick" ["_law_script","_law_k"] 1 (spD K mg false D8 2)
abbrev jf(P:Program)(w:World)(K:Frag)(mg:Str->Option Value)(base:Heap):Prop:=k6 P w K mg base "_law_put_on" ["_law_n","_law_lines","_law_at"] 1 (spD K mg true Cz 3)
abbrev Nn(P:Program)(w:World)(K:Frag)(mg:Str->Option Value)(base:Heap):Prop:=k6 P w K mg base "_law_image" ["_law_cut","_law_by","_law_sign"] 1 (spD K mg false S1 3)
abbrev jd(P:Program)(w:World)(K:Frag)(mg:Str->Option Value)(base:Heap):Prop:=k6 P w K mg base "_law_joined" ["_law_cut","_law_a","_law_b"] 1 (spD K mg false Ah 3)
abbrev Gd(P:Program)(w:World)(K:Frag)(mg:Str->Option Value)(base:Heap):Prop:=k6 P w K mg base "_law_kind" ["_law_deed"] 1 (spD K mg false C8 1)
abbrev jq(P:Program)(w:World)(K:Frag)(mg:Str->Option Value)(base:Heap):Prop:=k6 P w K mg base "_law_no_deed" ["_law_cell"] 1 (spD K mg false Dc 1)
abbrev Zc(P:Program)(w:World)(K:Frag)(mg:Str->Option Value)(base:Heap):Prop:=k6 P w K mg base "_law_wide" ["_law_cell"] 1 (spD K mg false Ae 1)
abbrev Lp(P:Program)(w:World)(K:Frag)(mg:Str->Option Value)(base:Heap):Prop:=k6 P w K mg base "is_two" ["thing"] 2 (spD K mg false Z5 1)
abbrev Yc(P:Program)(w:World)(K:Frag)(mg:Str->Option Value)(base:Heap):Prop:=k6 P w K mg base "two_read" ["word"] 2 (spD K mg false Co 1)
abbrev Zv(P:Program)(w:World)(K:Frag)(mg:Str->Option Value)(base:Heap):Prop:=k6 P w K mg base "room_under" ["top","lines"] 2 (spD K mg false Cv 2)
abbrev Kw(P:Program)(w:World)(K:Frag)(mg:Str->Option Value)(base:Heap):Prop:=k6 P w K mg base "image" ["cut","becomes"] 2 (spD K mg false Y5 2)
abbrev Zu(P:Program)(w:World)(K:Frag)(mg:Str->Option Value)(base:Heap):Prop:=k6 P w K mg base "whole_read" ["word","most"] 2 (spD K mg false V7 2)
abbrev Zt(P:Program)(w:World)(K:Frag)(mg:Str->Option Value)(base:Heap):Prop:=k6 P w K mg base "_law_glued" ["_law_cells"] 2 (spD K mg false Af 1)
abbrev Gi(P:Program)(w:World)(K:Frag)(mg:Str->Option Value)(base:Heap):Prop:=k6 P w K mg base "_law_turned_line" ["_law_cut","_law_line"] 2 (spD K mg false P0 2)
abbrev Yb(P:Program)(w:World)(K:Frag)(mg:Str->Option Value)(base:Heap):Prop:=k6 P w K mg base "has_pair" ["cut","p"] 3 (spD K mg false Cm 2)
abbrev Zs(P:Program)(w:World)(K:Frag)(mg:Str->Option Value)(base:Heap):Prop:=k6 P w K mg base "check_line" ["cut","p"] 3 (spD K mg false V6 2)
abbrev Ue(P:Program)(w:World)(K:Frag)(mg:Str->Option Value)(base:Heap):Prop:=k6 P w K mg base "rooms" ["n","lines"] 3 (spD K mg true Bv 2)
abbrev Rt(P:Program)(w:World)(K:Frag)(mg:Str->Option Value)(base:Heap):Prop:=k6 P w K mg base "spun" ["cut","by"] 3 (spD K mg false Bn 2)
abbrev Xz(P:Program)(w:World)(K:Frag)(mg:Str->Option Value)(base:Heap):Prop:=k6 P w K mg base "mirrored" ["cut"] 3 (spD K mg false Cl 1)
abbrev Zb(P:Program)(w:World)(K:Frag)(mg:Str->Option Value)(base:Heap):Prop:=k6 P w K mg base "pair_read" ["word"] 3 (spD K mg false Ad 1)
abbrev Oc(P:Program)(w:World)(K:Frag)(mg:Str->Option Value)(base:Heap):Prop:=k6 P w K mg base "_law_turned" ["_law_cut","_law_line"] 3 (spD K mg false G9 2)
abbrev jp(P:Program)(w:World)(K:Frag)(mg:Str->Option Value)(base:Heap):Prop:=k6 P w K mg base "_law_no_line" ["_law_cut","_law_cell"] 3 (spD K mg false Da 2)
abbrev Zr(P:Program)(w:World)(K:Frag)(mg:Str->Option Value)(base:Heap):Prop:=k6 P w K mg base "check_pair" ["cut","p"] 4 (spD K mg false Ct 2)
abbrev Za(P:Program)(w:World)(K:Frag)(mg:Str->Option Value)(base:Heap):Prop:=k6 P w K mg base "triangles" ["cut"] 4 (spD K mg true Cq 1)
abbrev Ac(P:Program)(w:World)(K:Frag)(mg:Str->Option Value)(base:Heap):Prop:=k6 P w K mg base "read_deed" ["text"] 4 (spD K mg false v7 1)
abbrev Vy(P:Program)(w:World)(K:Frag)(mg:Str->Option Value)(base:Heap):Prop:=k6 P w K mg base "thirds" ["cut","p"] 5 (spD K mg true Z4 2)
abbrev Lo(P:Program)(w:World)(K:Frag)(mg:Str->Option Value)(base:Heap):Prop:=k6 P w K mg base "turned" ["cut","line"] 6 (spD K mg false R5 2)
abbrev Ge(P:Program)(w:World)(K:Frag)(mg:Str->Option Value)(base:Heap):Prop:=k6 P w K mg base "_law_is_deed" ["_law_deed","_law_kind_here","_law_cut","_law_due","_law_written"] 8 (spD K mg false r6 5)
abbrev Oi(P:Program)(w:World)(K:Frag)(mg:Str->Option Value)(base:Heap):Prop:=k6 P w K mg base "_law_refusal" ["_law_way","_law_thing","_law_cut"] 8 (spD K mg true J0 3)
abbrev jy(P:Program)(w:World)(K:Frag)(mg:Str->Option Value)(base:Heap):Prop:=k6 P w K mg base "_law_any_pair" ["_law_cut","_law_cell"] 9 (spD K mg false Df 2)
abbrev jo(P:Program)(w:World)(K:Frag)(mg:Str->Option Value)(base:Heap):Prop:=k6 P w K mg base "_law_turning" ["_law_cut","_law_line"] 9 (spD K mg false Ai 2)
abbrev jx(P:Program)(w:World)(K:Frag)(mg:Str->Option Value)(base:Heap):Prop:=k6 P w K mg base "_law_spinning" ["_law_cut","_law_by"] 9 (spD K mg false Al 2)
abbrev jw(P:Program)(w:World)(K:Frag)(mg:Str->Option Value)(base:Heap):Prop:=k6 P w K mg base "_law_refusals" ["_law_script","_law_cut"] 10 (spD K mg false Ak 2)
section
variable {P:Program}{w:World}{K:Frag}{mg:Str->Option Value}{base:Heap}{f:Addr}{fd:FuncData}{u0 u1 u2 u3 u4 u5 u6 u7 u8 u9 u10 u11 u12 u13 u14 u15 u16 u17 u18 u19 u20 u21:Addr}
theorem zgw(F:Fun K "is_whole" "is_whole" Mu f fd)(T:Txt mg)(Z:Exs K mg u0 u1 u2 u3 u4 u5 u6 u7 u8 u9 u10 u11 u12 u13 u14 u15 u16 u17 u18 u19 u20 u21)  : FnOk P w K mg base (CX1 P w) 1 f fd ["thing"] (spD K mg false Ab 1):=
 fnD (k:=0) F zgt rfl rfl fun cdv A outer s H E hr=>
  (i5 (j4 (N6 (Bf rfl T.isinstance AZ (qv 0) (Z1 (v:=.ty "int") rfl T.int boot_int rfl)) (M0 (qS (Bf rfl T.isinstance AZ (qv 0) (Z1 (v:=.ty "bool") rfl T.bool boot_bool rfl)))))))
theorem vY(F:Fun K "pair" "pair" Jt f fd)(T:Txt mg)(Z:Exs K mg u0 u1 u2 u3 u4 u5 u6 u7 u8 u9 u10 u11 u12 u13 u14 u15 u16 u17 u18 u19 u20 u21)  : FnOk P w K mg base (CX1 P w) 1 f fd ["a","b"] (spD K mg false Y0 2):=
 fnD (k:=0) F vZ rfl rfl fun cdv A outer s H E hr=>
  (i5 (j4 (Qv (z0 Gy Ev (qv 0) (qv 1) (j7 _)) (p6 (b9 (qv 0) (b9 (qv 1) c8))) (p6 (b9 (qv 1) (b9 (qv 0) c8))))))
theorem zY(F:Fun K "is_side" "is_side" Mi f fd)(T:Txt mg)(Z:Exs K mg u0 u1 u2 u3 u4 u5 u6 u7 u8 u9 u10 u11 u12 u13 u14 u15 u16 u17 u18 u19 u20 u21)  : FnOk P w K mg base (CX1 P w) 1 f fd ["n","p"] (spD K mg false Ci 2):=
 fnD (k:=0) F sc_is_side rfl rfl fun cdv A outer s H E hr=>
  (g7 (sA 2 sc_is_side.nd (qI hr (qv 1) d9))
   (g7 (sA 3 sc_is_side.nd (qI hr (qv 1) d9))
   (g7 (l5 (QW.pt (B7 (z0 Gy Ev (qv 2) d9 (j7 _)) (F8 (z0 kI Qw (qv 3) (qv 0) (j7 _)))))
    (i5 (j4 l7))
    l6)
   (i5 (j4 (Gq (C3 (K0 hr.units) J9 (qv 3) (g8 C5 C7 (qv 2) d9) (j7 _)) (M0 (N6 (C3 (K0 hr.units) J9 (qv 2) d9 (j7 _)) (M0 (C3 (K0 hr.units) J9 (qv 3) (g8 C4 C6 (qv 0) d9) (j7 _)))))))))))
theorem zdt(F:Fun K "is_figures" "is_figures" Nv f fd)(T:Txt mg)(Z:Exs K mg u0 u1 u2 u3 u4 u5 u6 u7 u8 u9 u10 u11 u12 u13 u14 u15 u16 u17 u18 u19 u20 u21)  : FnOk P w K mg base (CX1 P w) 1 f fd ["word","most"] (spD K mg false O8 2):=
 fnD (k:=0) F zdp rfl rfl fun cdv A outer s H E hr=>
  (g7 (l5 (F9 (y3z d9 (wN Qi Hx (qL T.len (qv 0)) (wO Qi Hx (qv 1)))))
    (i5 (j4 l7))
    l6)
   (g7 (l5 (QW.pt (N5 (z0 W6 Y3 (qL T.len (qv 0)) d9 (j7 _)) (Q9 (tE hr (qI hr (qv 0) d9) i8 (j7 _)))))
    (i5 (j4 l7))
    l6)
   (i5 (j4 (y6 (Qy rfl) Sz rfl T.«all» boot_all (b9 (QE.wk (S3 (D7 (caps:=[]) (ix:=[]) rfl rfl) (by decide +kernel) rfl (y0u (qv 0)) .nil (fun _ _ _=>(C3 y56 y0o (qv 0) i8 (by with_unfolding_all rfl))))) c8))))))
theorem zfj(F:Fun K "two_shown" "two_shown" Nj f fd)(T:Txt mg)(Z:Exs K mg u0 u1 u2 u3 u4 u5 u6 u7 u8 u9 u10 u11 u12 u13 u14 u15 u16 u17 u18 u19 u20 u21)  : FnOk P w K mg base (CX1 P w) 1 f fd ["two"] (spD K mg false Cs 1):=
 fnD (k:=0) F sc_two_shown rfl rfl fun cdv A outer s H E hr=>
  (g7 (sA 1 sc_two_shown.nd (qI hr (qv 0) d9))
   (g7 (sA 2 sc_two_shown.nd (qI hr (qv 0) d9))
   (i5 (j4 (y8f (Jx (kg (qv 1)) (Jx i8 (Jx (kg (qv 2)) y5b))))))))
theorem z9l(F:Fun K "corner_behind" "corner_behind" Pb f fd)(T:Txt mg)(Z:Exs K mg u0 u1 u2 u3 u4 u5 u6 u7 u8 u9 u10 u11 u12 u13 u14 u15 u16 u17 u18 u19 u20 u21)  : FnOk P w K mg base (CX1 P w) 1 f fd ["corner","top","lines"] (spD K mg false Dg 3):=
 fnD (k:=0) F sc_corner_behind rfl rfl fun cdv A outer s H E hr=>
  (g7 (W1 sc_corner_behind.nd (k:=3) rfl rfl (D7 (caps:=["corner","top"]) (ix:=[0,1]) rfl rfl) (by decide +kernel) rfl (E4 (qv 2)) (.one fun _ _ _=>(QW.pt (N5 (tE hr (qI hr (qv 0) d9) (qv 1) (j7 _)) (N5 (z0 Qi Hx (qI hr (qv 0) d9) (qI hr (qv 2) d9) (j7 _)) (Q9 (tN hr (qv 0) (qv 2) (j7 _))))))) (fun _ _ _=>(qI hr (qv 0) d9)))
   (i5 (j4 (qz rfl rfl T.«max» boot_max (qv 3) (g8 C5 C7 (qv 0) d9)))))
theorem zdu(F:Fun K "shown" "Spin.shown" Np f fd)(T:Txt mg)(Z:Exs K mg u0 u1 u2 u3 u4 u5 u6 u7 u8 u9 u10 u11 u12 u13 u14 u15 u16 u17 u18 u19 u20 u21)  : FnOk P w K mg base (CX1 P w) 1 f fd ["self"] (spD K mg false Ag 1):=
 fnD (k:=0) F zdq rfl rfl fun cdv A outer s H E hr=>
  (i5 (j4 (g8 v5 v6 i8 (n8 D2 D4 rfl T.str CN (b9 (F3 (f:="by") (qv 0) Z.fl_by) c8)))))
theorem zb4(F:Fun K "shown" "Mirror.shown" Oj f fd)(T:Txt mg)(Z:Exs K mg u0 u1 u2 u3 u4 u5 u6 u7 u8 u9 u10 u11 u12 u13 u14 u15 u16 u17 u18 u19 u20 u21)  : FnOk P w K mg base (CX1 P w) 1 f fd ["self"] (spD K mg false Aj 1):=
 fnD (k:=0) F zaz rfl rfl fun cdv A outer s H E hr=>
  (i5 (j4 i8))
theorem zfk(F:Fun K "_law_pick" "_law_pick" Nf f fd)(T:Txt mg)(Z:Exs K mg u0 u1 u2 u3 u4 u5 u6 u7 u8 u9 u10 u11 u12 u13 u14 u15 u16 u17 u18 u19 u20 u21)  : FnOk P w K mg base (CX1 P w) 1 f fd ["_law_script","_law_k"] (spD K mg false D8 2):=
 fnD (k:=0) F zfe rfl rfl fun cdv A outer s H E hr=>
  (i5 (j4 (qI hr (QE.wk (g8 M3 M2 (QE.wk (Ao Fq Fi (qv 0) (S5 (qv 1)) (S5 (g8 C5 C7 (qv 1) d9)))) (QE.wk (p5 (b9 d9 c8))))) d9)))
theorem zbk(F:Fun K "_law_put_on" "_law_put_on" Oh f fd)(T:Txt mg)(Z:Exs K mg u0 u1 u2 u3 u4 u5 u6 u7 u8 u9 u10 u11 u12 u13 u14 u15 u16 u17 u18 u19 u20 u21)  : FnOk P w K mg base (CX1 P w) 1 f fd ["_law_n","_law_lines","_law_at"] (spD K mg true Cz 3):=
 fnD (k:=0) F sc__law_put_on rfl rfl fun cdv A outer s H E hr=>
  (g7 (y84 sc__law_put_on.nd (k:=3) rfl rfl (D7 (caps:=["_law_at"]) (ix:=[2]) rfl rfl) (by decide +kernel) rfl rfl (E4 (qv 1)) .nil (fun _ _ _=>(p6 (b9 (g8 C5 C7 (qv 0) (n8 Hz Ki rfl T.int boot_int (b9 (C3 W6 Y3 (qv 0) (qv 2) (j7 _)) c8))) (b9 (g8 C5 C7 (qv 1) (n8 Hz Ki rfl T.int boot_int (b9 (C3 W6 Y3 (qv 1) (qv 2) (j7 _)) c8))) c8)))))
   (g7 (l5 (tE hr (qv 2) (g8 C4 C6 (qv 0) d9) (j7 _))
    (i5 (j4 (g8 M3 M2 (qv 3) (QE.wk (p5 (b9 (p6 (b9 d9 (b9 (g8 C4 C6 (qv 0) d9) c8))) c8))))))
    l6)
   (i5 (j4 (g8 M3 M2 (qv 3) (QE.wk (p5 (b9 (p6 (b9 (qv 2) (b9 (g8 C5 C7 (qv 2) d9) c8))) c8))))))))
theorem zdv(F:Fun K "_law_image" "_law_image" Nq f fd)(T:Txt mg)(Z:Exs K mg u0 u1 u2 u3 u4 u5 u6 u7 u8 u9 u10 u11 u12 u13 u14 u15 u16 u17 u18 u19 u20 u21)  : FnOk P w K mg base (CX1 P w) 1 f fd ["_law_cut","_law_by","_law_sign"] (spD K mg false S1 3):=
 fnD (k:=0) F sc__law_image rfl rfl fun cdv A outer s H E hr=>
  (g7 (sA 3 sc__law_image.nd (qI hr (qv 0) d9))
   (g7 (sA 4 sc__law_image.nd (p5 c8))
   (g7 (Hv PassesOwn.leaving rfl (E4 (qI hr (qv 0) d9)) (g_t rfl (Vg (i:=5) sc__law_image.nd rfl (Or.inl rfl) (Vg (i:=6) sc__law_image.nd rfl (Or.inl rfl) qO)))
    (g7 (sA 7 sc__law_image.nd (p5 (b9 (g8 v9 w4 (g8 C5 C7 (g8 Ji Kk (qv 2) (qv 5)) (qv 1)) (qv 3)) (b9 (g8 v9 w4 (g8 C5 C7 (g8 Ji Kk (qv 2) (qv 6)) (qv 1)) (qv 3)) c8))))
   (i5 (Dy BW DK DJ Ck Et Fh (pw 4) (b9 (p6 (b9 (y6 (qH rfl) wH rfl T.«min» boot_min (b9 (qv 7) c8)) (b9 (y6 (qJ rfl) wI rfl T.«max» boot_max (b9 (qv 7) c8)) c8))) c8)))))
   (i5 (j4 (p6 (b9 (qv 3) (b9 (n8 V3 V2 rfl T.tuple ES (b9 (QE.wk (y6 (U3 rfl hr.units) U9 rfl T.sorted boot_sorted (b9 (qv 4) c8))) c8)) c8))))))))
theorem zbl(F:Fun K "_law_joined" "_law_joined" Og f fd)(T:Txt mg)(Z:Exs K mg u0 u1 u2 u3 u4 u5 u6 u7 u8 u9 u10 u11 u12 u13 u14 u15 u16 u17 u18 u19 u20 u21)  : FnOk P w K mg base (CX1 P w) 1 f fd ["_law_cut","_law_a","_law_b"] (spD K mg false Ah 3):=
 fnD (k:=0) F sc__law_joined rfl rfl fun cdv A outer s H E hr=>
  (g7 (sA 3 sc__law_joined.nd (y6 (Ti rfl) Vi rfl T.«min» boot_min (b9 (qv 1) (b9 (qv 2) c8))))
   (g7 (sA 4 sc__law_joined.nd (y6 (Tj rfl) Vj rfl T.«max» boot_max (b9 (qv 1) (b9 (qv 2) c8))))
   (i5 (j4 (Gq (C3 (K0 hr.units) J9 (g8 C4 C6 (qv 4) (qv 3)) d9 (j7 _)) (Gq (C3 (K0 hr.units) J9 (p6 (b9 (qv 3) (b9 (qv 4) c8))) (p6 (b9 d9 (b9 (g8 C4 C6 (qI hr (qv 0) d9) d9) c8))) (j7 _)) (M0 (C3 (Bg hr.units) T6 (p6 (b9 (qv 3) (b9 (qv 4) c8))) (qI hr (qv 0) d9) (by with_unfolding_all rfl)))))))))
theorem zfl(F:Fun K "_law_kind" "_law_kind" Nd f fd)(T:Txt mg)(Z:Exs K mg u0 u1 u2 u3 u4 u5 u6 u7 u8 u9 u10 u11 u12 u13 u14 u15 u16 u17 u18 u19 u20 u21)  : FnOk P w K mg base (CX1 P w) 1 f fd ["_law_deed"] (spD K mg false C8 1):=
 fnD (k:=0) F sc__law_kind rfl rfl fun cdv A outer s H E hr=>
  (g7 (l5 (F9 (D3 (Dv (tb:=M4) rfl T.isinstance AZ (qv 0) (w6 (v:=.ref u1) rfl Z.a_Deed rfl) Z.bo_Deed)))
    (i5 (j4 i8))
    l6)
   (g7 (sA 1 sc__law_kind.nd (p5 (b9 (Dv (tb:=S0) rfl T.isinstance AZ (qv 0) (w6 (v:=.ref u21) rfl Z.a_TurnLine rfl) Z.bo_TurnLine) (b9 (Dv (tb:=R4) rfl T.isinstance AZ (qv 0) (w6 (v:=.ref u19) rfl Z.a_Spin rfl) Z.bo_Spin) (b9 (Dv (tb:=R8) rfl T.isinstance AZ (qv 0) (w6 (v:=.ref u4) rfl Z.a_Mirror rfl) Z.bo_Mirror) c8)))))
   (g7 (l5 (tN hr (y14 hr.units (qv 1) l7) d9 (j7 _))
    (i5 (j4 i8))
    l6)
   (i5 (j4 (qI hr (QE.wk (p5 (b9 i8 (b9 i8 (b9 i8 c8))))) (yk hr.units (qv 1) l7)))))))
theorem zb5(F:Fun K "_law_no_deed" "_law_no_deed" Op f fd)(T:Txt mg)(Z:Exs K mg u0 u1 u2 u3 u4 u5 u6 u7 u8 u9 u10 u11 u12 u13 u14 u15 u16 u17 u18 u19 u20 u21)  : FnOk P w K mg base (CX1 P w) 1 f fd ["_law_cell"] (spD K mg false Dc 1):=
 fnD (k:=0) F sc__law_no_deed rfl rfl fun cdv A outer s H E hr=>
  (g7 (sA 1 sc__law_no_deed.nd (p5 (b9 i8 (b9 i8 (b9 i8 (b9 i8 (b9 i8 (b9 i8 (b9 i8 (b9 i8 (b9 i8 (b9 i8 (b9 i8 c8)))))))))))))
   (g7 (sA 1 sc__law_no_deed.nd (g8 M3 M2 (qv 1) (QE.wk (p5 (b9 i8 (b9 i8 (b9 i8 (b9 i8 (b9 i8 (b9 i8 (b9 i8 c8)))))))))))
   (g7 (sA 1 sc__law_no_deed.nd (g8 M3 M2 (qv 1) (QE.wk (p5 (b9 i8 (b9 i8 (b9 (g8 v5 v6 i8 (g8 y0w wq i8 d9)) (b9 i8 (b9 i8 (b9 i8 (b9 i8 (b9 d9 c8))))))))))))
   (g7 (sA 1 sc__law_no_deed.nd (g8 M3 M2 (qv 1) (QE.wk (p5 (b9 Hw (b9 (QE.wk (p5 (b9 i8 c8))) (b9 l7 c8)))))))
   (i5 (j4 (qI hr (qv 1) (g8 v9 w4 (qv 0) d9))))))))
theorem zfm(F:Fun K "_law_wide" "_law_wide" Nc f fd)(T:Txt mg)(Z:Exs K mg u0 u1 u2 u3 u4 u5 u6 u7 u8 u9 u10 u11 u12 u13 u14 u15 u16 u17 u18 u19 u20 u21)  : FnOk P w K mg base (CX1 P w) 1 f fd ["_law_cell"] (spD K mg false Ae 1):=
 fnD (k:=0) F zff rfl rfl fun cdv A outer s H E hr=>
  (g7 (l5 (tE hr (g8 v9 w4 (qv 0) d9) d9 (j7 _))
    (i5 (j4 (g8 C4 C6 (g8 v9 w4 (g8 U1 U0 (qv 0) d9) d9) d9)))
    l6)
   (i5 (j4 (g8 C5 C7 (g8 C4 C6 (g8 v9 w4 (g8 U1 U0 (qv 0) d9) (g8 C4 C6 (g8 Ji Kk d9 (g8 Jh Kj d9 d9)) d9)) (g8 Jh Kj d9 d9)) d9))))
theorem zh(F:Fun K "is_two" "is_two" Ls f fd)(T:Txt mg)(Z:Exs K mg u0 u1 u2 u3 u4 u5 u6 u7 u8 u9 u10 u11 u12 u13 u14 u15 u16 u17 u18 u19 u20 u21)(br:Yd P w K mg base):FnOk P w K mg base (CX1 P w) 2 f fd ["thing"] (spD K mg false Z5 1):=
 fnD (k:=1) F zi rfl rfl fun cdv A outer s H E hr=>
  (i5 (j4 (N6 (Bf rfl T.isinstance AZ (qv 0) (Z1 (v:=.ty "tuple") rfl T.tuple ES rfl)) (N6 (C3 (K0 hr.units) J9 (qL T.len (qv 0)) d9 (j7 _)) (N6 (i9 i3 br hr rfl (b9 (qI hr (qv 0) d9) c8)) (M0 (i9 i3 br hr rfl (b9 (qI hr (qv 0) d9) c8))))))))
theorem zgx(F:Fun K "two_read" "two_read" Ms f fd)(T:Txt mg)(Z:Exs K mg u0 u1 u2 u3 u4 u5 u6 u7 u8 u9 u10 u11 u12 u13 u14 u15 u16 u17 u18 u19 u20 u21)(aF:No P w K mg base):FnOk P w K mg base (CX1 P w) 2 f fd ["word"] (spD K mg false Co 1):=
 fnD (k:=1) F sc_two_read rfl rfl fun cdv A outer s H E hr=>
  (g7 (sA 1 sc_two_read.nd (Pt PySem.F.slot_str_split PySem.F.type_str_split Wh Wf (qv 0) (b9 i8 c8)))
   (g7 (l5 (QW.pt (B7 (tN hr (qL T.len (qv 1)) d9 (j7 _)) (F8 (F9 (D3 (y6 (Qy rfl) Sz rfl T.«all» boot_all (b9 (QE.wk (S3 (D7 (caps:=[]) (ix:=[]) rfl rfl) (by decide +kernel) rfl (E4 (qv 1)) .nil (fun _ _ _=>(i9 S8 aF hr rfl (b9 (qv 0) (b9 d9 c8)))))) c8)))))))
    (i5 (j4 Hw))
    l6)
   (i5 (j4 (p6 (b9 (n8 Jy La rfl T.int boot_int (b9 (qI hr (qv 1) d9) c8)) (b9 (n8 Jy La rfl T.int boot_int (b9 (qI hr (qv 1) d9) c8)) c8)))))))
theorem zdw(F:Fun K "room_under" "room_under" Nu f fd)(T:Txt mg)(Z:Exs K mg u0 u1 u2 u3 u4 u5 u6 u7 u8 u9 u10 u11 u12 u13 u14 u15 u16 u17 u18 u19 u20 u21)(aS:jz P w K mg base):FnOk P w K mg base (CX1 P w) 2 f fd ["top","lines"] (spD K mg false Cv 2):=
 fnD (k:=1) F sc_room_under rfl rfl fun cdv A outer s H E hr=>
  (g7 (sA 2 sc_room_under.nd (p5 (b9 (qI hr (qv 0) d9) c8)))
   (g7 (wJ (n:=1000) PassesOwn.leaving (z0 Gy Ev (qI hr (qv 2) (W2 X7 Y2 d9)) (qI hr (qv 0) d9) (j7 _))
    (i5 (Dy BW DK DJ Ck Et Fh (pw 2) (b9 (i9 i3 aS hr rfl (b9 (qI hr (qv 2) (W2 X7 Y2 d9)) (b9 (qv 0) (b9 (qv 1) c8)))) c8))))
   (i5 (j4 (n8 V3 V2 rfl T.tuple ES (b9 (qv 2) c8))))))
theorem ya(F:Fun K "image" "image" Kx f fd)(T:Txt mg)(Z:Exs K mg u0 u1 u2 u3 u4 u5 u6 u7 u8 u9 u10 u11 u12 u13 u14 u15 u16 u17 u18 u19 u20 u21)(bW:Jr P w K mg base):FnOk P w K mg base (CX1 P w) 2 f fd ["cut","becomes"] (spD K mg false Y5 2):=
 fnD (k:=1) F yb rfl rfl fun cdv A outer s H E hr=>
  (i5 (j4 (p6 (b9 (qI hr (qv 0) d9) (b9 (n8 V3 V2 rfl T.tuple ES (b9 (QE.wk (y6 (U3 rfl hr.units) U9 rfl T.sorted boot_sorted (b9 (QE.wk (y83 (D7 (caps:=["becomes"]) (ix:=[1]) rfl rfl) (by decide +kernel) rfl rfl (E4 (qI hr (qv 0) d9)) .nil (fun _ _ _=>(i9 S8 bW hr rfl (b9 (qI hr (qv 2) (qv 0)) (b9 (qI hr (qv 2) (qv 1)) c8)))))) c8))) c8)) c8)))))
theorem z8x(F:Fun K "shown" "TurnLine.shown" Pe f fd)(T:Txt mg)(Z:Exs K mg u0 u1 u2 u3 u4 u5 u6 u7 u8 u9 u10 u11 u12 u13 u14 u15 u16 u17 u18 u19 u20 u21)(bK:Zd P w K mg base):FnOk P w K mg base (CX1 P w) 2 f fd ["self"] (spD K mg false Am 1):=
 fnD (k:=1) F z8w rfl rfl fun cdv A outer s H E hr=>
  (i5 (j4 (g8 v5 v6 i8 (i9 i3 bK hr rfl (b9 (F3 (f:="line") (qv 0) Z.fl_line) c8)))))
theorem zdx(F:Fun K "whole_read" "whole_read" Nt f fd)(T:Txt mg)(Z:Exs K mg u0 u1 u2 u3 u4 u5 u6 u7 u8 u9 u10 u11 u12 u13 u14 u15 u16 u17 u18 u19 u20 u21)(aF:No P w K mg base):FnOk P w K mg base (CX1 P w) 2 f fd ["word","most"] (spD K mg false V7 2):=
 fnD (k:=1) F sc_whole_read rfl rfl fun cdv A outer s H E hr=>
  (g7 (sA 2 sc_whole_read.nd (Qv (D3 (Pt PySem.F.slot_str_startswith PySem.F.type_str_startswith zn zm (qv 0) (b9 i8 c8))) (Ao y0r y0s (qv 0) (S5 d9) Pz) (qv 0)))
   (g7 (l5 (QW.pt (B7 (tE hr (qv 0) i8 (j7 _)) (F8 (F9 (D3 (i9 i3 aF hr rfl (b9 (qv 2) (b9 (qv 1) c8))))))))
    (i5 (Y7 (c:="NoDeed") i3 BO rfl rfl Z.a_NoDeed Z.q_NoDeed (b9 i8 c8)))
    l6)
   (i5 (j4 (n8 Jy La rfl T.int boot_int (b9 (qv 0) c8))))))
theorem zdy(F:Fun K "_law_glued" "_law_glued" Nr f fd)(T:Txt mg)(Z:Exs K mg u0 u1 u2 u3 u4 u5 u6 u7 u8 u9 u10 u11 u12 u13 u14 u15 u16 u17 u18 u19 u20 u21)(bj:jf P w K mg base):FnOk P w K mg base (CX1 P w) 2 f fd ["_law_cells"] (spD K mg false Af 1):=
 fnD (k:=1) F sc__law_glued rfl rfl fun cdv A outer s H E hr=>
  (g7 (sA 1 sc__law_glued.nd d9)
   (g7 (sA 2 sc__law_glued.nd (p5 c8))
   (g7 (Hv PassesOwn.leaving rfl (E4 (qv 0)) (g_n (i:=3) sc__law_glued.nd rfl (Or.inl rfl))
    (g7 (sA 2 sc__law_glued.nd (i9 i3 bj hr rfl (b9 (qv 1) (b9 (qv 2) (b9 (g8 v9 w4 (qv 3) (qv 1)) c8)))))
   (i5 (sA 1 sc__law_glued.nd (g8 C5 C7 (qv 1) d9)))))
   (i5 (j4 (p6 (b9 (qv 1) (b9 (n8 V3 V2 rfl T.tuple ES (b9 (QE.wk (y6 (U3 rfl hr.units) U9 rfl T.sorted boot_sorted (b9 (qv 2) c8))) c8)) c8))))))))
theorem z7l(F:Fun K "_law_turned_line" "_law_turned_line" Ph f fd)(T:Txt mg)(Z:Exs K mg u0 u1 u2 u3 u4 u5 u6 u7 u8 u9 u10 u11 u12 u13 u14 u15 u16 u17 u18 u19 u20 u21)(aQ:jd P w K mg base):FnOk P w K mg base (CX1 P w) 2 f fd ["_law_cut","_law_line"] (spD K mg false P0 2):=
 fnD (k:=1) F sc__law_turned_line rfl rfl fun cdv A outer s H E hr=>
  (g7 (sA 2 sc__law_turned_line.nd (p5 (b9 (qI hr (qv 1) d9) (b9 (qI hr (qv 1) d9) c8))))
   (g7 (W1 sc__law_turned_line.nd (k:=3) rfl rfl (D7 (caps:=["_law_ends"]) (ix:=[2]) rfl rfl) (by decide +kernel) rfl (Py rfl T.range (b9 (qI hr (qv 0) d9) c8)) (.one fun _ _ _=>(z0 (Wp hr.units) T6 (qv 0) (qv 1) (by with_unfolding_all rfl))) (fun _ _ _=>(qv 0)))
   (g7 (W1 sc__law_turned_line.nd (k:=4) rfl rfl (D7 (caps:=["_law_cut","_law_line"]) (ix:=[0,1]) rfl rfl) (by decide +kernel) rfl (E4 (qv 3)) (.one fun _ _ _=>(QW.pt (N5 (D3 (i9 S8 aQ hr rfl (b9 (qv 1) (b9 (qv 0) (b9 (qI hr (qv 2) d9) c8))))) (Q9 (D3 (i9 S8 aQ hr rfl (b9 (qv 1) (b9 (qv 0) (b9 (qI hr (qv 2) d9) c8))))))))) (fun _ _ _=>(qv 0)))
   (i5 (j4 (p6 (b9 (qI hr (qv 4) d9) (b9 (qI hr (qv 4) d9) c8))))))))
theorem zgy(F:Fun K "has_pair" "has_pair" Mt f fd)(T:Txt mg)(Z:Exs K mg u0 u1 u2 u3 u4 u5 u6 u7 u8 u9 u10 u11 u12 u13 u14 u15 u16 u17 u18 u19 u20 u21)(bY:Wy P w K mg base)(bh:Lp P w K mg base):FnOk P w K mg base (CX1 P w) 3 f fd ["cut","p"] (spD K mg false Cm 2):=
 fnD (k:=2) F zgu rfl rfl fun cdv A outer s H E hr=>
  (i5 (j4 (N6 (i9 i3 bh hr rfl (b9 (qv 1) c8)) (M0 (Gq (i9 i3 bY hr rfl (b9 (qI hr (qv 0) d9) (b9 (qv 1) c8))) (M0 (C3 (Bg hr.units) T6 (qv 1) (qI hr (qv 0) d9) (by with_unfolding_all rfl))))))))
theorem zdz(F:Fun K "check_line" "check_line" Ny f fd)(T:Txt mg)(Z:Exs K mg u0 u1 u2 u3 u4 u5 u6 u7 u8 u9 u10 u11 u12 u13 u14 u15 u16 u17 u18 u19 u20 u21)(bh:Lp P w K mg base):FnOk P w K mg base (CX1 P w) 3 f fd ["cut","p"] (spD K mg false V6 2):=
 fnD (k:=2) F zdn rfl rfl fun cdv A outer s H E hr=>
  (i5 (l5 (QW.pt (B7 (F9 (D3 (i9 i3 bh hr rfl (b9 (qv 1) c8)))) (F8 (z0 (Wp hr.units) T6 (qv 1) (qI hr (qv 0) d9) (by with_unfolding_all rfl)))))
   (i5 (Y7 (c:="NoLine") i3 BO rfl rfl Z.a_NoLine Z.q_NoLine (b9 i8 c8)))
   l6))
theorem xZ(F:Fun K "rooms" "rooms" Ky f fd)(T:Txt mg)(Z:Exs K mg u0 u1 u2 u3 u4 u5 u6 u7 u8 u9 u10 u11 u12 u13 u14 u15 u16 u17 u18 u19 u20 u21)(bv:Zv P w K mg base):FnOk P w K mg base (CX1 P w) 3 f fd ["n","lines"] (spD K mg true Bv 2):=
 fnD (k:=2) F sc_rooms rfl rfl fun cdv A outer s H E hr=>
  (g7 (sA 2 sc_rooms.nd (g8 M3 M2 (QE.wk (p5 (b9 (p6 (b9 d9 (b9 (g8 C4 C6 (qv 0) d9) c8))) c8))) (QE.wk (n8 wL wK rfl T.list boot_list (b9 (qv 1) c8)))))
   (i5 (j4 (y6 (U3 rfl hr.units) U9 rfl T.sorted boot_sorted (b9 (QE.wk (S3 (D7 (caps:=["lines"]) (ix:=[1]) rfl rfl) (by decide +kernel) rfl (E4 (qv 2)) .nil (fun _ _ _=>(i9 S8 bv hr rfl (b9 (qv 0) (b9 (qv 1) c8)))))) c8)))))
theorem vX(F:FunD K "spun" "spun" Js dV f fd)(T:Txt mg)(Z:Exs K mg u0 u1 u2 u3 u4 u5 u6 u7 u8 u9 u10 u11 u12 u13 u14 u15 u16 u17 u18 u19 u20 u21)(bF:Kw P w K mg base):FnOk P w K mg base (CX1 P w) 3 f fd ["cut","by"] (spD K mg false Bn 2):=
 y8c (k:=2) F sc_spun rfl rfl fun cdv A outer s H E hr=>
  (g7 (sA 2 sc_spun.nd (qI hr (qv 0) d9))
   (i5 (j4 (i9 i3 bF hr rfl (b9 (qv 0) (b9 (QE.wk (S3 (D7 (caps:=["n","by"]) (ix:=[2,1]) rfl rfl) (by decide +kernel) rfl (Py rfl T.range (b9 (qv 2) c8)) .nil (fun _ _ _=>(g8 v9 w4 (g8 C5 C7 (qv 0) (qv 2)) (qv 1))))) c8))))))
theorem zgz(F:Fun K "mirrored" "mirrored" Mr f fd)(T:Txt mg)(Z:Exs K mg u0 u1 u2 u3 u4 u5 u6 u7 u8 u9 u10 u11 u12 u13 u14 u15 u16 u17 u18 u19 u20 u21)(bF:Kw P w K mg base):FnOk P w K mg base (CX1 P w) 3 f fd ["cut"] (spD K mg false Cl 1):=
 fnD (k:=2) F sc_mirrored rfl rfl fun cdv A outer s H E hr=>
  (g7 (sA 1 sc_mirrored.nd (qI hr (qv 0) d9))
   (i5 (j4 (i9 i3 bF hr rfl (b9 (qv 0) (b9 (QE.wk (S3 (D7 (caps:=["n"]) (ix:=[1]) rfl rfl) (by decide +kernel) rfl (Py rfl T.range (b9 (qv 1) c8)) .nil (fun _ _ _=>(g8 v9 w4 (g8 C4 C6 (qv 1) (qv 0)) (qv 1))))) c8))))))
theorem zfn(F:Fun K "back" "Spin.back" Na f fd)(T:Txt mg)(Z:Exs K mg u0 u1 u2 u3 u4 u5 u6 u7 u8 u9 u10 u11 u12 u13 u14 u15 u16 u17 u18 u19 u20 u21)  (bg:MkO P w K mg base "Spin" u19 ["by"] 1):FnOk P w K mg base (CX1 P w) 3 f fd ["self","cut"] (spD K mg false Cr 2):=
 fnD (k:=2) F zfh rfl rfl fun cdv A outer s H E hr=>
  (i5 (j4 (Q7 (c:="Spin") i3 bg hr rfl Z.a_Spin (b9 (W2 X7 Y2 (F3 (f:="by") (qv 0) Z.fl_by)) c8))))
theorem zbm(F:Fun K "back" "Mirror.back" Od f fd)(T:Txt mg)(Z:Exs K mg u0 u1 u2 u3 u4 u5 u6 u7 u8 u9 u10 u11 u12 u13 u14 u15 u16 u17 u18 u19 u20 u21)  : FnOk P w K mg base (CX1 P w) 3 f fd ["self","cut"] (spD K mg false Cy 2):=
 fnD (k:=2) F zbj rfl rfl fun cdv A outer s H E hr=>
  (i5 (j4 (Fd (c:="Mirror") Z.z_Mirror rfl Z.a_Mirror)))
theorem zfo(F:Fun K "pair_read" "pair_read" Ng f fd)(T:Txt mg)(Z:Exs K mg u0 u1 u2 u3 u4 u5 u6 u7 u8 u9 u10 u11 u12 u13 u14 u15 u16 u17 u18 u19 u20 u21)(bW:Jr P w K mg base)(bR:Yc P w K mg base):FnOk P w K mg base (CX1 P w) 3 f fd ["word"] (spD K mg false Ad 1):=
 fnD (k:=2) F sc_pair_read rfl rfl fun cdv A outer s H E hr=>
  (g7 (sA 1 sc_pair_read.nd (i9 i3 bR hr rfl (b9 (qv 0) c8)))
   (g7 (l5 (QW.pt (B7 (z0 vt qK (qv 1) Hw (j7 _)) (F8 (tE hr (qI hr (qv 1) d9) (qI hr (qv 1) d9) (j7 _)))))
    (i5 (Y7 (c:="NoDeed") i3 BO rfl rfl Z.a_NoDeed Z.q_NoDeed (b9 i8 c8)))
    l6)
   (i5 (j4 (i9 i3 bW hr rfl (b9 (qI hr (qv 1) d9) (b9 (qI hr (qv 1) d9) c8)))))))
theorem zbn(F:Fun K "_law_turned" "_law_turned" Of f fd)(T:Txt mg)(Z:Exs K mg u0 u1 u2 u3 u4 u5 u6 u7 u8 u9 u10 u11 u12 u13 u14 u15 u16 u17 u18 u19 u20 u21)(ae:Gi P w K mg base):FnOk P w K mg base (CX1 P w) 3 f fd ["_law_cut","_law_line"] (spD K mg false G9 2):=
 fnD (k:=2) F sc__law_turned rfl rfl fun cdv A outer s H E hr=>
  (g7 (W1 sc__law_turned.nd (k:=2) rfl rfl (D7 (caps:=["_law_line"]) (ix:=[1]) rfl rfl) (by decide +kernel) rfl (E4 (qI hr (qv 0) d9)) (.one fun _ _ _=>(tN hr (qv 0) (qv 1) (j7 _))) (fun _ _ _=>(qv 0)))
   (i5 (j4 (p6 (b9 (qI hr (qv 0) d9) (b9 (n8 V3 V2 rfl T.tuple ES (b9 (QE.wk (y6 (U3 rfl hr.units) U9 rfl T.sorted boot_sorted (b9 (QE.wk (g8 M3 M2 (qv 2) (QE.wk (p5 (b9 (i9 i3 ae hr rfl (b9 (qv 0) (b9 (qv 1) c8))) c8))))) c8))) c8)) c8))))))
theorem zb6(F:Fun K "_law_no_line" "_law_no_line" Om f fd)(T:Txt mg)(Z:Exs K mg u0 u1 u2 u3 u4 u5 u6 u7 u8 u9 u10 u11 u12 u13 u14 u15 u16 u17 u18 u19 u20 u21)(ae:Gi P w K mg base):FnOk P w K mg base (CX1 P w) 3 f fd ["_law_cut","_law_cell"] (spD K mg false Da 2):=
 fnD (k:=2) F sc__law_no_line rfl rfl fun cdv A outer s H E hr=>
  (g7 (sA 2 sc__law_no_line.nd (qI hr (qv 0) d9))
   (g7 (sA 3 sc__law_no_line.nd (g8 v9 w4 (g8 U1 U0 (qv 1) d9) (g8 C4 C6 (qv 2) d9)))
   (g7 (sA 4 sc__law_no_line.nd (p5 (b9 (p6 (b9 (qv 3) (b9 (g8 C5 C7 (qv 3) d9) c8))) (b9 (p6 (b9 d9 (b9 (g8 C4 C6 (qv 2) d9) c8))) (b9 (p6 (b9 (qv 3) (b9 (qv 3) c8))) (b9 (p6 (b9 d9 (b9 (g8 C5 C7 (qv 2) (g8 v9 w4 (g8 U1 U0 (qv 1) d9) (g8 Jh Kj d9 d9))) c8))) (b9 (p6 (b9 (g8 C5 C7 (qv 3) d9) (b9 (qv 3) c8))) (b9 (p6 (b9 (g8 C4 C6 (qv 2) d9) (b9 d9 c8))) c8))))))))
   (g7 (l5 (QW.pt (N5 (z0 W6 Y3 (qv 2) d9 (j7 _)) (Q9 (z0 W6 Y3 (g8 v9 w4 (qv 1) d9) d9 (j7 _)))))
    (g7 (sA 5 sc__law_no_line.nd (qI hr (qI hr (qv 0) d9) (g8 v9 w4 (g8 U1 U0 (qv 1) d9) (g8 C4 C6 (qv 2) d9))))
   (i5 (sA 4 sc__law_no_line.nd (g8 M3 M2 (QE.wk (Ao Fq Fi (qv 4) Pz (S5 d9))) (QE.wk (p5 (b9 (p6 (b9 (qI hr (qv 5) d9) (b9 (qI hr (qv 5) d9) c8))) (b9 (i9 i3 ae hr rfl (b9 (qv 0) (b9 (qv 5) c8))) c8))))))))
    l6)
   (i5 (j4 (qI hr (qv 4) (g8 v9 w4 (qv 1) d9))))))))
theorem ze0(F:Fun K "check_pair" "check_pair" Nw f fd)(T:Txt mg)(Z:Exs K mg u0 u1 u2 u3 u4 u5 u6 u7 u8 u9 u10 u11 u12 u13 u14 u15 u16 u17 u18 u19 u20 u21)(bS:Yb P w K mg base):FnOk P w K mg base (CX1 P w) 4 f fd ["cut","p"] (spD K mg false Ct 2):=
 fnD (k:=3) F zdo rfl rfl fun cdv A outer s H E hr=>
  (i5 (l5 (F9 (D3 (i9 i3 bS hr rfl (b9 (qv 0) (b9 (qv 1) c8)))))
   (i5 (Y7 (c:="NoLine") i3 BO rfl rfl Z.a_NoLine Z.q_NoLine (b9 i8 c8)))
   l6))
theorem zfp(F:Fun K "triangles" "triangles" Ni f fd)(T:Txt mg)(Z:Exs K mg u0 u1 u2 u3 u4 u5 u6 u7 u8 u9 u10 u11 u12 u13 u14 u15 u16 u17 u18 u19 u20 u21)(cP:Ue P w K mg base):FnOk P w K mg base (CX1 P w) 4 f fd ["cut"] (spD K mg true Cq 1):=
 fnD (k:=3) F zfd rfl rfl fun cdv A outer s H E hr=>
  (i5 (j4 (i9 i3 cP hr rfl (b9 (qI hr (qv 0) d9) (b9 (qI hr (qv 0) d9) c8)))))
theorem zfq(F:Fun K "done" "Spin.done" Nb f fd)(T:Txt mg)(Z:Exs K mg u0 u1 u2 u3 u4 u5 u6 u7 u8 u9 u10 u11 u12 u13 u14 u15 u16 u17 u18 u19 u20 u21)(dA:Rt P w K mg base):FnOk P w K mg base (CX1 P w) 4 f fd ["self","cut"] (spD K mg false Cp 2):=
 fnD (k:=3) F zfg rfl rfl fun cdv A outer s H E hr=>
  (i5 (j4 (i9 i3 dA hr rfl (b9 (qv 1) (b9 (F3 (f:="by") (qv 0) Z.fl_by) c8)))))
theorem zbo(F:Fun K "done" "Mirror.done" Oe f fd)(T:Txt mg)(Z:Exs K mg u0 u1 u2 u3 u4 u5 u6 u7 u8 u9 u10 u11 u12 u13 u14 u15 u16 u17 u18 u19 u20 u21)(bU:Xz P w K mg base):FnOk P w K mg base (CX1 P w) 4 f fd ["self","cut"] (spD K mg false Cw 2):=
 fnD (k:=3) F zbi rfl rfl fun cdv A outer s H E hr=>
  (i5 (j4 (i9 i3 bU hr rfl (b9 (qv 1) c8))))
theorem zfr(F:Fun K "read_deed" "read_deed" Nh f fd)(T:Txt mg)(Z:Exs K mg u0 u1 u2 u3 u4 u5 u6 u7 u8 u9 u10 u11 u12 u13 u14 u15 u16 u17 u18 u19 u20 u21)(bL:Zb P w K mg base)(bw:Zu P w K mg base)(bg:MkO P w K mg base "Spin" u19 ["by"] 1)  (ao:MkO P w K mg base "TurnLine" u21 ["line"] 1):FnOk P w K mg base (CX1 P w) 4 f fd ["text"] (spD K mg false v7 1):=
 fnD (k:=3) F sc_read_deed rfl rfl fun cdv A outer s H E hr=>
  (g7 (l5 (F9 (D3 (Bf rfl T.isinstance AZ (qv 0) (Z1 (v:=.ty "str") rfl T.str CN rfl))))
    (i5 (Y7 (c:="NoDeed") i3 BO rfl rfl Z.a_NoDeed Z.q_NoDeed (b9 i8 c8)))
    l6)
   (g7 (sA 1 sc_read_deed.nd (Pt PySem.F.slot_str_split PySem.F.type_str_split Wh Wf (qv 0) (b9 i8 c8)))
   (g7 (l5 (tE hr (qv 1) (QE.wk (p5 (b9 i8 c8))) (j7 _))
    (i5 (j4 (Fd (c:="Mirror") Z.z_Mirror rfl Z.a_Mirror)))
    l6)
   (g7 (l5 (QW.pt (N5 (tE hr (qL T.len (qv 1)) d9 (j7 _)) (Q9 (tE hr (qI hr (qv 1) d9) i8 (j7 _)))))
    (i5 (j4 (Q7 (c:="TurnLine") i3 ao hr rfl Z.a_TurnLine (b9 (i9 i3 bL hr rfl (b9 (qI hr (qv 1) d9) c8)) c8))))
    l6)
   (g7 (l5 (QW.pt (N5 (tE hr (qL T.len (qv 1)) d9 (j7 _)) (Q9 (tE hr (qI hr (qv 1) d9) i8 (j7 _)))))
    (i5 (j4 (Q7 (c:="Spin") i3 bg hr rfl Z.a_Spin (b9 (i9 i3 bw hr rfl (b9 (qI hr (qv 1) d9) (b9 d9 c8))) c8))))
    l6)
   (i5 (Y7 (c:="NoDeed") i3 BO rfl rfl Z.a_NoDeed Z.q_NoDeed (b9 i8 c8))))))))
theorem zg(F:Fun K "thirds" "thirds" Lr f fd)(T:Txt mg)(Z:Exs K mg u0 u1 u2 u3 u4 u5 u6 u7 u8 u9 u10 u11 u12 u13 u14 u15 u16 u17 u18 u19 u20 u21)(bx:Zr P w K mg base)(bM:Za P w K mg base):FnOk P w K mg base (CX1 P w) 5 f fd ["cut","p"] (spD K mg true Z4 2):=
 fnD (k:=4) F sc_thirds rfl rfl fun cdv A outer s H E hr=>
  (g7 (Sx (i9 i3 bx hr rfl (b9 (qv 0) (b9 (qv 1) c8))))
   (g7 (W1 sc_thirds.nd (k:=2) rfl rfl (D7 (caps:=["p"]) (ix:=[1]) rfl rfl) (by decide +kernel) rfl (E4 (QE.wk (i9 i3 bM hr rfl (b9 (qv 0) c8)))) (.one fun _ _ _=>(QW.pt (N5 (z0 (Bg hr.units) T6 (qI hr (qv 1) d9) (qv 0) (by with_unfolding_all rfl)) (Q9 (z0 (Bg hr.units) T6 (qI hr (qv 1) d9) (qv 0) (by with_unfolding_all rfl)))))) (fun _ _ _=>(qv 0)))
   (i5 (j4 (y6 (U3 rfl hr.units) U9 rfl T.sorted boot_sorted (b9 (QE.wk (S3 (D7 (caps:=["p"]) (ix:=[1]) rfl rfl) (by decide +kernel) rfl (E4 (qv 2)) .nil (fun _ _ _=>(g8 C4 C6 (y6 (Qz rfl) Ta rfl T.sum boot_sum (b9 (qv 0) c8)) (y6 (Qz rfl) Ta rfl T.sum boot_sum (b9 (qv 1) c8)))))) c8))))))
theorem zf(F:Fun K "turned" "turned" Lq f fd)(T:Txt mg)(Z:Exs K mg u0 u1 u2 u3 u4 u5 u6 u7 u8 u9 u10 u11 u12 u13 u14 u15 u16 u17 u18 u19 u20 u21)(bz:Zs P w K mg base)(cq:Vy P w K mg base):FnOk P w K mg base (CX1 P w) 6 f fd ["cut","line"] (spD K mg false R5 2):=
 fnD (k:=5) F sc_turned rfl rfl fun cdv A outer s H E hr=>
  (g7 (Sx (i9 i3 bz hr rfl (b9 (qv 0) (b9 (qv 1) c8))))
   (g7 (sA 2 sc_turned.nd (n8 V3 V2 rfl T.tuple ES (b9 (QE.wk (i9 i3 cq hr rfl (b9 (qv 0) (b9 (qv 1) c8)))) c8)))
   (g7 (W1 sc_turned.nd (k:=3) rfl rfl (D7 (caps:=["line"]) (ix:=[1]) rfl rfl) (by decide +kernel) rfl (E4 (qI hr (qv 0) d9)) (.one fun _ _ _=>(tN hr (qv 0) (qv 1) (j7 _))) (fun _ _ _=>(qv 0)))
   (i5 (j4 (p6 (b9 (p6 (b9 (qI hr (qv 0) d9) (b9 (n8 V3 V2 rfl T.tuple ES (b9 (QE.wk (y6 (U3 rfl hr.units) U9 rfl T.sorted boot_sorted (b9 (QE.wk (g8 M3 M2 (qv 3) (QE.wk (p5 (b9 (qv 2) c8))))) c8))) c8)) c8))) (b9 (qv 2) c8))))))))
theorem z9m(F:Fun K "done" "TurnLine.done" Ox f fd)(T:Txt mg)(Z:Exs K mg u0 u1 u2 u3 u4 u5 u6 u7 u8 u9 u10 u11 u12 u13 u14 u15 u16 u17 u18 u19 u20 u21)(bi:Lo P w K mg base):FnOk P w K mg base (CX1 P w) 7 f fd ["self","cut"] (spD K mg false K7 2):=
 fnD (k:=6) F z9j rfl rfl fun cdv A outer s H E hr=>
  (i5 (j4 (qI hr (i9 i3 bi hr rfl (b9 (qv 1) (b9 (F3 (f:="line") (qv 0) Z.fl_line) c8))) d9)))
theorem z9n(F:Fun K "back" "TurnLine.back" Ow f fd)(T:Txt mg)(Z:Exs K mg u0 u1 u2 u3 u4 u5 u6 u7 u8 u9 u10 u11 u12 u13 u14 u15 u16 u17 u18 u19 u20 u21)(bi:Lo P w K mg base)(ao:MkO P w K mg base "TurnLine" u21 ["line"] 1):FnOk P w K mg base (CX1 P w) 7 f fd ["self","cut"] (spD K mg false M6 2):=
 fnD (k:=6) F z9k rfl rfl fun cdv A outer s H E hr=>
  (i5 (j4 (Q7 (c:="TurnLine") i3 ao hr rfl Z.a_TurnLine (b9 (qI hr (i9 i3 bi hr rfl (b9 (qv 1) (b9 (F3 (f:="line") (qv 0) Z.fl_line) c8))) d9) c8))))
theorem zb7(F:Fun K "_law_is_deed" "_law_is_deed" Oq f fd)(T:Txt mg)(Z:Exs K mg u0 u1 u2 u3 u4 u5 u6 u7 u8 u9 u10 u11 u12 u13 u14 u15 u16 u17 u18 u19 u20 u21)(ar:Gd P w K mg base)(aK:Mths P w K mg base "done" 7 2 o6)  (bG:Mths P w K mg base "shown" 2 1 D6):FnOk P w K mg base (CX1 P w) 8 f fd ["_law_deed","_law_kind_here","_law_cut","_law_due","_law_written"] (spD K mg false r6 5):=
 fnD (k:=7) F sc__law_is_deed rfl rfl fun cdv A outer s H E hr=>
  (g7 (l5 (QW.pt (B7 (tN hr (i9 i3 ar hr rfl (b9 (qv 0) c8)) (qv 1) (j7 _)) (F8 (tN hr (Y1 i3 aK hr (qv 0) (b9 (qv 2) c8)) (qv 3) (j7 _)))))
    (i5 (j4 l7))
    l6)
   (g7 (sA 5 sc__law_is_deed.nd (Us i3 bG hr (qv 0)))
   (i5 (j4 (N6 (Bf rfl T.isinstance AZ (qv 5) (Z1 (v:=.ty "str") rfl T.str CN rfl)) (M0 (C3 (K0 hr.units) J9 (qv 5) (qv 4) (j7 _))))))))
theorem zb8(F:Fun K "_law_refusal" "_law_refusal" On f fd)(T:Txt mg)(Z:Exs K mg u0 u1 u2 u3 u4 u5 u6 u7 u8 u9 u10 u11 u12 u13 u14 u15 u16 u17 u18 u19 u20 u21)(af:Ac P w K mg base)(aO:Mths P w K mg base "back" 7 2 o4)  (aK:Mths P w K mg base "done" 7 2 o6) (ao:MkO P w K mg base "TurnLine" u21 ["line"] 1):FnOk P w K mg base (CX1 P w) 8 f fd ["_law_way","_law_thing","_law_cut"] (spD K mg true J0 3):=
 fnD (k:=7) F sc__law_refusal rfl rfl fun cdv A outer s H E hr=>
  (g7 (sA 3 sc__law_refusal.nd (p5 c8))
   (g7 (y45 rfl rfl (Px (tE hr (qv 0) d9 (j7 _)) (qG (k:=knX) Z.kn af hr rfl (b9 (qv 1) c8)) (Px (tE hr (qv 0) d9 (j7 _)) (Jz (k:=knX) Z.kn aK hr (Q7 (c:="TurnLine") S8 ao hr rfl Z.a_TurnLine (b9 (qv 1) c8)) (b9 (qv 2) c8)) (Px (tE hr (qv 0) d9 (j7 _)) (Jz (k:=knX) Z.kn aO hr (Q7 (c:="TurnLine") S8 ao hr rfl Z.a_TurnLine (b9 (qv 1) c8)) (b9 (qv 2) c8)) (Jz (k:=knX) Z.kn aK hr (qv 1) (b9 (qv 2) c8)))))
    (y85 (tb:=S2) (i:=4) Z.t_FloorError (by decide) rfl sc__law_refusal.nd rfl rfl (fun _=>(g7 (sA 3 sc__law_refusal.nd (p5 (b9 (Hu (tb:=O9) rfl T.isinstance AZ (qv 4) (Z1 (v:=.ty "ValueError") rfl T.ValueError PyProof.Rows.Boot.«ValueError» rfl) (.inr ⟨_,rfl,rfl⟩) Z.b_ValueError) (b9 (Hu (tb:=O3) rfl T.isinstance AZ (qv 4) (w6 (v:=.ref u7) rfl Z.a_NoDeed rfl) (.inl ⟨_,rfl,rfl⟩) Z.b_NoDeed) (b9 (Hu (tb:=O4) rfl T.isinstance AZ (qv 4) (w6 (v:=.ref u10) rfl Z.a_NoLine rfl) (.inl ⟨_,rfl,rfl⟩) Z.b_NoLine) c8)))))
   (g7 (Dy BW DK DJ Ck Et Fh (pw 3) (b9 (Si (tb:=M8) rfl T.isinstance AZ (qv 4) (.cons (w6 (v:=.ref u12) rfl Z.a_NoPlace rfl) (.cons (w6 (v:=.ref u6) rfl Z.a_NoCorner rfl) (.cons (w6 (v:=.ref u9) rfl Z.a_NoFloor rfl) (.cons (w6 (v:=.ref u0) rfl Z.a_Crossed rfl) (.cons (w6 (v:=.ref u2) rfl Z.a_Fallen rfl) (.cons (w6 (v:=.ref u5) rfl Z.a_NoBand rfl) (.cons (w6 (v:=.ref u20) rfl Z.a_TooMany rfl) (.cons (w6 (v:=.ref u8) rfl Z.a_NoEar rfl) .nil rfl) rfl) rfl) rfl) rfl) rfl) rfl) rfl) (DU rfl) Z.bt_0) c8))
   (i5 (Dy BW DK DJ Ck Et Fh (pw 3) (b9 (Si (tb:=M7) rfl T.isinstance AZ (qv 4) (.cons (w6 (v:=.ref u11) rfl Z.a_NoName rfl) (.cons (w6 (v:=.ref u13) rfl Z.a_NoQuotient rfl) (.cons (w6 (v:=.ref u14) rfl Z.a_NoRow rfl) (.cons (w6 (v:=.ref u15) rfl Z.a_NoText rfl) (.cons (w6 (v:=.ref u16) rfl Z.a_NoTurn rfl) (.cons (w6 (v:=.ref u17) rfl Z.a_NotAlike rfl) (.cons (w6 (v:=.ref u18) rfl Z.a_NotFull rfl) .nil rfl) rfl) rfl) rfl) rfl) rfl) rfl) (DU rfl) Z.bt_1) c8)))))) y48))
   (i5 (qP (i:=3)))))
theorem z9o(F:Fun K "_law_any_pair" "_law_any_pair" Oz f fd)(T:Txt mg)(Z:Exs K mg u0 u1 u2 u3 u4 u5 u6 u7 u8 u9 u10 u11 u12 u13 u14 u15 u16 u17 u18 u19 u20 u21)(ar:Gd P w K mg base)(av:Oi P w K mg base)(ax:Oc P w K mg base)(af:Ac P w K mg base)(aK:Mths P w K mg base "done" 7 2 o6)  (bG:Mths P w K mg base "shown" 2 1 D6):FnOk P w K mg base (CX1 P w) 9 f fd ["_law_cut","_law_cell"] (spD K mg false Df 2):=
 fnD (k:=8) F sc__law_any_pair rfl rfl fun cdv A outer s H E hr=>
  (g7 (sA 2 sc__law_any_pair.nd (g8 v9 w4 (qv 1) d9))
   (g7 (sA 3 sc__law_any_pair.nd (g8 v9 w4 (g8 U1 U0 (qv 1) d9) d9))
   (g7 (sA 3 sc__law_any_pair.nd (g8 C5 C7 (qv 3) (n8 Hz Ki rfl T.int boot_int (b9 (C3 kI Qw (qv 3) (qv 2) (j7 _)) c8))))
   (g7 (sA 4 sc__law_any_pair.nd (p6 (b9 (y6 (Ti rfl) Vi rfl T.«min» boot_min (b9 (qv 2) (b9 (qv 3) c8))) (b9 (y6 (Tj rfl) Vj rfl T.«max» boot_max (b9 (qv 2) (b9 (qv 3) c8))) c8))))
   (g7 (sA 5 sc__law_any_pair.nd (i9 i3 af hr rfl (b9 (g8 v5 v6 (g8 v5 v6 (g8 v5 v6 i8 (n8 D2 D4 rfl T.str CN (b9 (qv 2) c8))) i8) (n8 D2 D4 rfl T.str CN (b9 (qv 3) c8))) c8)))
   (g7 (l5 (QW.pt (B7 (tN hr (i9 i3 ar hr rfl (b9 (qv 5) c8)) i8 (j7 _)) (B7 (tN hr (F3 (f:="line") (qv 5) Z.fl_line) (qv 4) (j7 _)) (F8 (tN hr (Us i3 bG hr (qv 5)) (g8 v5 v6 (g8 v5 v6 (g8 v5 v6 i8 (n8 D2 D4 rfl T.str CN (b9 (qI hr (qv 4) d9) c8))) i8) (n8 D2 D4 rfl T.str CN (b9 (qI hr (qv 4) d9) c8))) (j7 _))))))
    (i5 (j4 l7))
    l6)
   (g7 (l5 (z0 (Bg hr.units) T6 (qv 4) (qI hr (qv 0) d9) (by with_unfolding_all rfl))
    (i5 (j4 (C3 (K0 hr.units) J9 (Y1 i3 aK hr (qv 5) (b9 (qv 0) c8)) (i9 i3 ax hr rfl (b9 (qv 0) (b9 (qv 4) c8))) (j7 _))))
    l6)
   (i5 (j4 (C3 (K0 hr.units) J9 (QE.wk (i9 i3 av hr rfl (b9 d9 (b9 (qv 5) (b9 (qv 0) c8))))) (QE.wk (p5 (b9 l7 (b9 l7 (b9 l7 (b9 l7 (b9 l7 c8))))))) (j7 _)))))))))))
theorem zb9(F:Fun K "_law_turning" "_law_turning" Ol f fd)(T:Txt mg)(Z:Exs K mg u0 u1 u2 u3 u4 u5 u6 u7 u8 u9 u10 u11 u12 u13 u14 u15 u16 u17 u18 u19 u20 u21)(aa:Ge P w K mg base)(ar:Gd P w K mg base)(ax:Oc P w K mg base)(ae:Gi P w K mg base)(af:Ac P w K mg base)(aO:Mths P w K mg base "back" 7 2 o4)  (aK:Mths P w K mg base "done" 7 2 o6) (ao:MkO P w K mg base "TurnLine" u21 ["line"] 1):FnOk P w K mg base (CX1 P w) 9 f fd ["_law_cut","_law_line"] (spD K mg false Ai 2):=
 fnD (k:=8) F sc__law_turning rfl rfl fun cdv A outer s H E hr=>
  (g7 (sA 2 sc__law_turning.nd (i9 i3 ae hr rfl (b9 (qv 0) (b9 (qv 1) c8))))
   (g7 (sA 3 sc__law_turning.nd (i9 i3 ax hr rfl (b9 (qv 0) (b9 (qv 1) c8))))
   (g7 (sA 4 sc__law_turning.nd (g8 v5 v6 (g8 v5 v6 (g8 v5 v6 i8 (n8 D2 D4 rfl T.str CN (b9 (qI hr (qv 1) d9) c8))) i8) (n8 D2 D4 rfl T.str CN (b9 (qI hr (qv 1) d9) c8))))
   (g7 (sA 5 sc__law_turning.nd (Q7 (c:="TurnLine") i3 ao hr rfl Z.a_TurnLine (b9 (qv 1) c8)))
   (g7 (l5 (QW.pt (B7 (F9 (D3 (i9 i3 aa hr rfl (b9 (qv 5) (b9 i8 (b9 (qv 0) (b9 (qv 3) (b9 (qv 4) c8)))))))) (F8 (tN hr (F3 (f:="line") (qv 5) Z.fl_line) (qv 1) (j7 _)))))
    (i5 (j4 l7))
    l6)
   (g7 (Hv PassesOwn.leaving rfl (E4 (QE.wk (Ao Fq Fi (QE.wk (S3 (D7 (caps:=["_law_line"]) (ix:=[1]) rfl rfl) (by decide +kernel) rfl (E4 (qI hr (qv 0) d9)) (.one fun _ _ _=>(tN hr (qv 0) (qv 1) (j7 _))) (fun _ _ _=>(qv 0)))) Pz (S5 d9)))) (g_n (i:=6) sc__law_turning.nd rfl (Or.inl rfl))
    (g7 (sA 7 sc__law_turning.nd (i9 i3 ax hr rfl (b9 (qv 0) (b9 (qv 6) c8))))
   (i5 (l5 (tN hr (Y1 i3 aK hr (qv 5) (b9 (qv 7) c8)) (i9 i3 ax hr rfl (b9 (qv 7) (b9 (qv 1) c8))) (j7 _))
    (i5 (j4 l7))
    l6))))
   (g7 (sA 8 sc__law_turning.nd (Y1 i3 aO hr (qv 5) (b9 (qv 0) c8)))
   (g7 (l5 (QW.pt (B7 (tN hr (i9 i3 ar hr rfl (b9 (qv 8) c8)) i8 (j7 _)) (F8 (tN hr (F3 (f:="line") (qv 8) Z.fl_line) (qv 2) (j7 _)))))
    (i5 (j4 l7))
    l6)
   (g7 (l5 (F9 (D3 (i9 i3 aa hr rfl (b9 (qv 8) (b9 i8 (b9 (qv 3) (b9 (qv 0) (b9 (g8 v5 v6 (g8 v5 v6 (g8 v5 v6 i8 (n8 D2 D4 rfl T.str CN (b9 (qI hr (qv 2) d9) c8))) i8) (n8 D2 D4 rfl T.str CN (b9 (qI hr (qv 2) d9) c8))) c8))))))))
    (i5 (j4 l7))
    l6)
   (g7 (sA 9 sc__law_turning.nd (i9 i3 af hr rfl (b9 (g8 v5 v6 (g8 v5 v6 (g8 v5 v6 i8 (n8 D2 D4 rfl T.str CN (b9 (qI hr (qv 1) d9) c8))) i8) (n8 D2 D4 rfl T.str CN (b9 (qI hr (qv 1) d9) c8))) c8)))
   (g7 (sA 10 sc__law_turning.nd (i9 i3 af hr rfl (b9 (qv 4) c8)))
   (g7 (l5 (QW.pt (B7 (tN hr (i9 i3 ar hr rfl (b9 (qv 9) c8)) i8 (j7 _)) (B7 (tN hr (F3 (f:="line") (qv 9) Z.fl_line) (qv 1) (j7 _)) (B7 (tN hr (i9 i3 ar hr rfl (b9 (qv 10) c8)) i8 (j7 _)) (F8 (tN hr (F3 (f:="line") (qv 10) Z.fl_line) (qv 1) (j7 _)))))))
    (i5 (j4 l7))
    l6)
   (i5 (j4 (N6 (i9 i3 aa hr rfl (b9 (qv 9) (b9 i8 (b9 (qv 0) (b9 (qv 3) (b9 (qv 4) c8)))))) (M0 (i9 i3 aa hr rfl (b9 (qv 10) (b9 i8 (b9 (qv 0) (b9 (qv 3) (b9 (qv 4) c8))))))))))))))))))))))
theorem z9p(F:Fun K "_law_spinning" "_law_spinning" Oy f fd)(T:Txt mg)(Z:Exs K mg u0 u1 u2 u3 u4 u5 u6 u7 u8 u9 u10 u11 u12 u13 u14 u15 u16 u17 u18 u19 u20 u21)(aG:Nn P w K mg base)(aa:Ge P w K mg base)(af:Ac P w K mg base)(aO:Mths P w K mg base "back" 7 2 o4)(bg:MkO P w K mg base "Spin" u19 ["by"] 1):FnOk P w K mg base (CX1 P w) 9 f fd ["_law_cut","_law_by"] (spD K mg false Al 2):=
 fnD (k:=8) F sc__law_spinning rfl rfl fun cdv A outer s H E hr=>
  (g7 (sA 2 sc__law_spinning.nd (i9 i3 aG hr rfl (b9 (qv 0) (b9 (qv 1) (b9 d9 c8)))))
   (g7 (sA 3 sc__law_spinning.nd (Q7 (c:="Spin") i3 bg hr rfl Z.a_Spin (b9 (qv 1) c8)))
   (g7 (l5 (QW.pt (B7 (F9 (D3 (i9 i3 aa hr rfl (b9 (qv 3) (b9 i8 (b9 (qv 0) (b9 (qv 2) (b9 (g8 v5 v6 i8 (n8 D2 D4 rfl T.str CN (b9 (qv 1) c8))) c8)))))))) (F8 (tN hr (F3 (f:="by") (qv 3) Z.fl_by) (qv 1) (j7 _)))))
    (i5 (j4 l7))
    l6)
   (g7 (sA 4 sc__law_spinning.nd (Y1 i3 aO hr (qv 3) (b9 (qv 0) c8)))
   (g7 (l5 (QW.pt (B7 (F9 (D3 (i9 i3 aa hr rfl (b9 (qv 4) (b9 i8 (b9 (qv 2) (b9 (qv 0) (b9 (g8 v5 v6 i8 (n8 D2 D4 rfl T.str CN (b9 (W2 X7 Y2 (qv 1)) c8))) c8)))))))) (F8 (tN hr (F3 (f:="by") (qv 4) Z.fl_by) (W2 X7 Y2 (qv 1)) (j7 _)))))
    (i5 (j4 l7))
    l6)
   (g7 (sA 5 sc__law_spinning.nd (i9 i3 af hr rfl (b9 (g8 v5 v6 i8 (n8 D2 D4 rfl T.str CN (b9 (qv 1) c8))) c8)))
   (i5 (j4 (N6 (i9 i3 aa hr rfl (b9 (qv 5) (b9 i8 (b9 (qv 0) (b9 (qv 2) (b9 (g8 v5 v6 i8 (n8 D2 D4 rfl T.str CN (b9 (qv 1) c8))) c8)))))) (M0 (C3 (K0 hr.units) J9 (F3 (f:="by") (qv 5) Z.fl_by) (qv 1) (j7 _))))))))))))
theorem z9q(F:Fun K "_law_refusals" "_law_refusals" Pa f fd)(T:Txt mg)(Z:Exs K mg u0 u1 u2 u3 u4 u5 u6 u7 u8 u9 u10 u11 u12 u13 u14 u15 u16 u17 u18 u19 u20 u21)(aT:jy P w K mg base)(aY:jq P w K mg base)(aZ:jp P w K mg base)(au:Mz P w K mg base)(av:Oi P w K mg base):FnOk P w K mg base (CX1 P w) 10 f fd ["_law_script","_law_cut"] (spD K mg false Ak 2):=
 fnD (k:=9) F sc__law_refusals rfl rfl fun cdv A outer s H E hr=>
  (g7 (l5 (tN hr (QE.wk (i9 i3 av hr rfl (b9 d9 (b9 (i9 i3 aY hr rfl (b9 (i9 i3 au hr rfl (b9 (qv 0) (b9 d9 c8))) c8)) (b9 (qv 1) c8))))) (QE.wk (p5 (b9 l7 (b9 l7 (b9 l7 (b9 l7 (b9 l7 c8))))))) (j7 _))
    (i5 (j4 l7))
    l6)
   (g7 (sA 2 sc__law_refusals.nd (i9 i3 aZ hr rfl (b9 (qv 1) (b9 (i9 i3 au hr rfl (b9 (qv 0) (b9 d9 c8))) c8))))
   (g7 (sA 3 sc__law_refusals.nd (p5 (b9 l7 (b9 l7 (b9 l7 (b9 l7 (b9 l7 c8)))))))
   (g7 (l5 (QW.pt (B7 (tN hr (QE.wk (i9 i3 av hr rfl (b9 d9 (b9 (qv 2) (b9 (qv 1) c8))))) (qv 3) (j7 _)) (F8 (tN hr (QE.wk (i9 i3 av hr rfl (b9 d9 (b9 (qv 2) (b9 (qv 1) c8))))) (qv 3) (j7 _)))))
    (i5 (j4 l7))
    l6)
   (i5 (j4 (i9 i3 aT hr rfl (b9 (qv 1) (b9 (i9 i3 au hr rfl (b9 (qv 0) (b9 d9 c8))) c8)))))))))
theorem y1c(F:Fun K "law" "law" Hl f fd)(T:Txt mg)(Z:Exs K mg u0 u1 u2 u3 u4 u5 u6 u7 u8 u9 u10 u11 u12 u13 u14 u15 u16 u17 u18 u19 u20 u21)(bA:Zt P w K mg base)(aG:Nn P w K mg base)(aa:Ge P w K mg base)(au:Mz P w K mg base)(aU:jw P w K mg base)(aV:jx P w K mg base)(ba:jo P w K mg base)(bN:Zc P w K mg base)(af:Ac P w K mg base)(aO:Mths P w K mg base "back" 7 2 o4):FnOk P w K mg base (CX1 P w) 11 f fd ["_law_script"] (spD K mg false X0 1):=
 fnD (k:=10) F sc_law rfl rfl fun cdv A outer s H E hr=>
  (g7 (sA 1 sc_law.nd d9)
   (g7 (l5 (tE hr (g8 v9 w4 (g8 U1 U0 (i9 i3 au hr rfl (b9 (qv 0) (b9 d9 c8))) d9) d9) d9 (j7 _))
    (i5 (sA 1 sc_law.nd d9))
    l6)
   (g7 (sA 2 sc_law.nd (i9 i3 bA hr rfl (b9 (QE.wk (Ao Fq Fi (qv 0) (S5 d9) (S5 (g8 C5 C7 d9 (qv 1))))) c8)))
   (g7 (sA 3 sc_law.nd (i9 i3 au hr rfl (b9 (qv 0) (b9 d9 c8))))
   (g7 (l5 (tE hr (g8 v9 w4 (qv 3) d9) d9 (j7 _))
    (i5 (j4 (i9 i3 aU hr rfl (b9 (qv 0) (b9 (qv 2) c8)))))
    l6)
   (g7 (l5 (QW.pt (N5 (tE hr (g8 v9 w4 (qv 3) d9) d9 (j7 _)) (Q9 (z0 W6 Y3 (qI hr (qv 2) d9) d9 (j7 _)))))
    (i5 (j4 (i9 i3 ba hr rfl (b9 (qv 2) (b9 (qI hr (qI hr (qv 2) d9) (g8 v9 w4 (i9 i3 au hr rfl (b9 (qv 0) (b9 d9 c8))) (g8 C4 C6 (qI hr (qv 2) d9) d9))) c8)))))
    l6)
   (g7 (l5 (z0 Gy Ev (g8 v9 w4 (qv 3) d9) d9 (j7 _))
    (i5 (j4 (i9 i3 aV hr rfl (b9 (qv 2) (b9 (i9 i3 bN hr rfl (b9 (i9 i3 au hr rfl (b9 (qv 0) (b9 d9 c8))) c8)) c8)))))
    l6)
   (g7 (sA 4 sc_law.nd (i9 i3 aG hr rfl (b9 (qv 2) (b9 d9 (b9 (W2 X7 Y2 d9) c8)))))
   (g7 (l5 (F9 (D3 (i9 i3 aa hr rfl (b9 (Fd (c:="Mirror") Z.z_Mirror rfl Z.a_Mirror) (b9 i8 (b9 (qv 2) (b9 (qv 4) (b9 i8 c8))))))))
    (i5 (j4 l7))
    l6)
   (g7 (l5 (F9 (D3 (i9 i3 aa hr rfl (b9 (Y1 i3 aO hr (Fd (c:="Mirror") Z.z_Mirror rfl Z.a_Mirror) (b9 (qv 2) c8)) (b9 i8 (b9 (qv 4) (b9 (qv 2) (b9 i8 c8))))))))
    (i5 (j4 l7))
    l6)
   (i5 (j4 (i9 i3 aa hr rfl (b9 (i9 i3 af hr rfl (b9 i8 c8)) (b9 i8 (b9 (qv 2) (b9 (qv 4) (b9 i8 c8))))))))))))))))))
end
theorem all_mk{l:PySem.W.OpenLaw}{w:World}{K:Frag}{h:Heap}{mg:Str->Option Value}{fa:Addr}(X:K.In h)(G:h.Ns mainGlobals mg)(lA:mg "law"=some (.ref fa))
  {f0 f1 f2 f3 f4 f5 f6 f7 f8 f9 sD sE sF sG sI sJ sK sL sM sN sO sP sQ sR sS sT sU sV sW sX sY sZ f32 tf tj tm tx tz tD tF tG tH tI tJ tK f45 tL tM tO:Addr}
  {u0 u1 u2 u3 u4 u5 u6 u7 u8 u9 u10 u11 u12 u13 u14 u15 u16 u17 u18 u19 u20 u21:Addr}
  {fC:Addr}
  {dr:Addr}
  (A0:FnAt K "is_whole" Mu f0)
  (A1:FnAt K "pair" Jt f1)
  (A2:FnAt K "is_side" Mi f2)
  (A3:FnAt K "is_figures" Nv f3)
  (A4:FnAt K "two_shown" Nj f4)
  (A5:FnAt K "corner_behind" Pb f5)
  (A6:MeAt K u19 "shown" "Spin.shown" Np f6)
  (A7:MeAt K u4 "shown" "Mirror.shown" Oj f7)
  (A8:FnAt K "_law_pick" Nf f8)
  (A9:FnAt K "_law_put_on" Oh f9)
  (A10:FnAt K "_law_image" Nq sD)
  (A11:FnAt K "_law_joined" Og sE)
  (A12:FnAt K "_law_kind" Nd sF)
  (A13:FnAt K "_law_no_deed" Op sG)
  (A14:FnAt K "_law_wide" Nc sI)
  (A15:FnAt K "is_two" Ls sJ)
  (A16:FnAt K "two_read" Ms sK)
  (A17:FnAt K "room_under" Nu sL)
  (A18:FnAt K "image" Kx sM)
  (A19:MeAt K u21 "shown" "TurnLine.shown" Pe sN)
  (A20:FnAt K "whole_read" Nt sO)
  (A21:FnAt K "_law_glued" Nr sP)
  (A22:FnAt K "_law_turned_line" Ph sQ)
  (A23:FnAt K "has_pair" Mt sR)
  (A24:FnAt K "check_line" Ny sS)
  (A25:FnAt K "rooms" Ky sT)
  (A26:FnAtD K "spun" Js sU)
  (A27:FnAt K "mirrored" Mr sV)
  (A28:MeAt K u19 "back" "Spin.back" Na sW)
  (A29:MeAt K u4 "back" "Mirror.back" Od sX)
  (A30:FnAt K "pair_read" Ng sY)
  (A31:FnAt K "_law_turned" Of sZ)
  (A32:FnAt K "_law_no_line" Om f32)
  (A33:FnAt K "check_pair" Nw tf)
  (A34:FnAt K "triangles" Ni tj)
  (A35:MeAt K u19 "done" "Spin.done" Nb tm)
  (A36:MeAt K u4 "done" "Mirror.done" Oe tx)
  (A37:FnAt K "read_deed" Nh tz)
  (A38:FnAt K "thirds" Lr tD)
  (A39:FnAt K "turned" Lq tF)
  (A40:MeAt K u21 "done" "TurnLine.done" Ox tG)
  (A41:MeAt K u21 "back" "TurnLine.back" Ow tH)
  (A42:FnAt K "_law_is_deed" Oq tI)
  (A43:FnAt K "_law_refusal" On tJ)
  (A44:FnAt K "_law_any_pair" Oz tK)
  (A45:FnAt K "_law_turning" Ol f45)
  (A46:FnAt K "_law_spinning" Oy tL)
  (A47:FnAt K "_law_refusals" Pa tM)
  (A48:FnAt K "law" Hl tO)
  (T:Txt mg)
  (Z:Exs K mg u0 u1 u2 u3 u4 u5 u6 u7 u8 u9 u10 u11 u12 u13 u14 u15 u16 u17 u18 u19 u20 u21)
  (J_Spin:MeAt K u19 "__init__" "Spin.__init__" Ze fC)
  (J_TurnLine:MeAt K u21 "__init__" "TurnLine.__init__" jA dr) :
  ∃fd:FuncData,(∀(s:Shared)(v:Value),BindsTo s fd ⟨[v],[]⟩ [("_law_script",v)])/\∀base:Heap,K.In base->base.Ns mainGlobals mg->FnOk l.prog w K mg base (CX1 l.prog w) 11 fa fd ["_law_script"] (spL K false X0 1):=by
 refine y0l X G lA A48 (fun _ _ _ _ _ _ _ _=>.of_eq rfl) fun base kb nb fd F=>?_
 have bg:MkO l.prog w K mg base "Spin" u19 ["by"] 1:=mko J_Spin Z.n_Spin Z.om_Spin Z.oq_Spin rfl fun F=>Wi (k:=0) F zfc Z.cl_Spin Z.ov_Spin rfl (Or.inl rfl) (Or.inl rfl)
 have ao:MkO l.prog w K mg base "TurnLine" u21 ["line"] 1:=mko J_TurnLine Z.n_TurnLine Z.om_TurnLine Z.oq_TurnLine rfl fun F=>Wi (k:=0) F z9i Z.cl_TurnLine Z.ov_TurnLine rfl (Or.inl rfl) (Or.inl rfl)
 have br:Yd l.prog w K mg base:=got X G A0 fun F=>zgw F T Z 
 have bW:Jr l.prog w K mg base:=got X G A1 fun F=>vY F T Z 
 have bY:Wy l.prog w K mg base:=got X G A2 fun F=>zY F T Z 
 have aF:No l.prog w K mg base:=got X G A3 fun F=>zdt F T Z 
 have bK:Zd l.prog w K mg base:=got X G A4 fun F=>zfj F T Z 
 have aS:jz l.prog w K mg base:=got X G A5 fun F=>z9l F T Z 
 have cZ:J1 l.prog w K mg base u19 "shown" ["self"] 1 (spD K mg false Ag 1):=M9 A6 fun F=>zdu F T Z 
 have cF:J1 l.prog w K mg base u4 "shown" ["self"] 1 (spD K mg false Aj 1):=M9 A7 fun F=>zb4 F T Z 
 have au:Mz l.prog w K mg base:=got X G A8 fun F=>zfk F T Z 
 have bj:jf l.prog w K mg base:=got X G A9 fun F=>zbk F T Z 
 have aG:Nn l.prog w K mg base:=got X G A10 fun F=>zdv F T Z 
 have aQ:jd l.prog w K mg base:=got X G A11 fun F=>zbl F T Z 
 have ar:Gd l.prog w K mg base:=got X G A12 fun F=>zfl F T Z 
 have aY:jq l.prog w K mg base:=got X G A13 fun F=>zb5 F T Z 
 have bN:Zc l.prog w K mg base:=got X G A14 fun F=>zfm F T Z 
 have bh:Lp l.prog w K mg base:=got X G A15 fun F=>zh F T Z br
 have bR:Yc l.prog w K mg base:=got X G A16 fun F=>zgx F T Z aF
 have bv:Zv l.prog w K mg base:=got X G A17 fun F=>zdw F T Z aS
 have bF:Kw l.prog w K mg base:=got X G A18 fun F=>ya F T Z bW
 have ce:J1 l.prog w K mg base u21 "shown" ["self"] 2 (spD K mg false Am 1):=M9 A19 fun F=>z8x F T Z bK
 have bw:Zu l.prog w K mg base:=got X G A20 fun F=>zdx F T Z aF
 have bA:Zt l.prog w K mg base:=got X G A21 fun F=>zdy F T Z bj
 have ae:Gi l.prog w K mg base:=got X G A22 fun F=>z7l F T Z aQ
 have bS:Yb l.prog w K mg base:=got X G A23 fun F=>zgy F T Z bY bh
 have bz:Zs l.prog w K mg base:=got X G A24 fun F=>zdz F T Z bh
 have cP:Ue l.prog w K mg base:=got X G A25 fun F=>xZ F T Z bv
 have dA:Rt l.prog w K mg base:=y8d X G A26 fun F=>vX F T Z bF
 have bU:Xz l.prog w K mg base:=got X G A27 fun F=>zgz F T Z bF
 have du:J1 l.prog w K mg base u19 "back" ["self","cut"] 3 (spD K mg false Cr 2):=M9 A28 fun F=>zfn F T Z bg
 have cM:J1 l.prog w K mg base u4 "back" ["self","cut"] 3 (spD K mg false Cy 2):=M9 A29 fun F=>zbm F T Z 
 have bL:Zb l.prog w K mg base:=got X G A30 fun F=>zfo F T Z bW bR
 have ax:Oc l.prog w K mg base:=got X G A31 fun F=>zbn F T Z ae
 have aZ:jp l.prog w K mg base:=got X G A32 fun F=>zb6 F T Z ae
 have bx:Zr l.prog w K mg base:=got X G A33 fun F=>ze0 F T Z bS
 have bM:Za l.prog w K mg base:=got X G A34 fun F=>zfp F T Z cP
 have dw:J1 l.prog w K mg base u19 "done" ["self","cut"] 4 (spD K mg false Cp 2):=M9 A35 fun F=>zfq F T Z dA
 have cN:J1 l.prog w K mg base u4 "done" ["self","cut"] 4 (spD K mg false Cw 2):=M9 A36 fun F=>zbo F T Z bU
 have af:Ac l.prog w K mg base:=got X G A37 fun F=>zfr F T Z bL bw bg ao
 have cq:Vy l.prog w K mg base:=got X G A38 fun F=>zg F T Z bx bM
 have bi:Lo l.prog w K mg base:=got X G A39 fun F=>zf F T Z bz cq
 have cj:J1 l.prog w K mg base u21 "done" ["self","cut"] 7 (spD K mg false K7 2):=M9 A40 fun F=>z9m F T Z bi
 have ck:J1 l.prog w K mg base u21 "back" ["self","cut"] 7 (spD K mg false M6 2):=M9 A41 fun F=>z9n F T Z bi ao
 have aK:Mths l.prog w K mg base "done" 7 2 o6:=.cons Z.n_Mirror Z.cl_Mirror cN (.cons Z.n_Spin Z.cl_Spin dw (.cons Z.n_TurnLine Z.cl_TurnLine cj .nil))
 have bG:Mths l.prog w K mg base "shown" 2 1 D6:=.cons Z.n_Mirror Z.cl_Mirror cF (.cons Z.n_Spin Z.cl_Spin cZ (.cons Z.n_TurnLine Z.cl_TurnLine ce .nil))
 have aa:Ge l.prog w K mg base:=got X G A42 fun F=>zb7 F T Z ar aK bG
 have aO:Mths l.prog w K mg base "back" 7 2 o4:=.cons Z.n_Mirror Z.cl_Mirror cM (.cons Z.n_Spin Z.cl_Spin du (.cons Z.n_TurnLine Z.cl_TurnLine ck .nil))
 have av:Oi l.prog w K mg base:=got X G A43 fun F=>zb8 F T Z af aO aK ao
 have aT:jy l.prog w K mg base:=got X G A44 fun F=>z9o F T Z ar av ax af aK bG
 have ba:jo l.prog w K mg base:=got X G A45 fun F=>zb9 F T Z aa ar ax ae af aO aK ao
 have aV:jx l.prog w K mg base:=got X G A46 fun F=>z9p F T Z aG aa af aO bg
 have aU:jw l.prog w K mg base:=got X G A47 fun F=>z9q F T Z aT aY aZ au av
 exact(y1c F T Z bA aG aa au aU aV ba bN af aO).imp fun _ _ _ _ z=>z.spD
end K88
namespace K88
open L2 Cu
local macro_rules | `(tactic|walk_at "dz")=>do
 let a:=("X9,Uw,y4c,zz4,zz3,y3i,Ei,sNx,y7y,N4,y3o,y7v,T4,B0,U2,zz5,zz6,zun,xR,xQ,zyv,zyy,zyw,zyx,zul,zyz,zz0,zz1,zz2,zum,zuo,Kp,y4d,y4e,y4f,Jm,Jl,zz7,Ko,Ly,zup,zz8,y01,y4t,y4u,y4v,y02,y03,zv0,zv1,zpc,zuq,zpd,zpe,zpf,Xy,zzy,zf0,zv7,zz9,zza,zr,zzb,zur,zus,zut,zuu,W9,Kq,Option.bind_some,Bool.and_true,Bool.true_and,y4g,y4h,y4i,y4j,y87,y88,eC,eOp,eUn,c7,b8,e9,eCB,n6,l8,eIf,eSl,oSo,oNo,y04,D1,bOr,t8,g0,E3,eOr,y7s,Dn,y3d,y3e,Fc,Fb,p9,iL,zv5,zv6,zuz,zux,zuy,L2.R.bind_ok,L2.R.of_some,z6,y8,W8,dLe,P9,dGe,y4k,J7,y4l,zrd,zzc,zzd,zze,zzf,zzg,zzh,zzi,xP,xO,zzj,zzk,zzl,zzn,xN,zzo,y4n,zzz,y4o,y4s,y4x,y06,y07,zv9,zva,Xx,zpi,y89,y00,y4r,y8a,y8b,Eg,Eh,y4y,y4z,y0b,y0c,y0d,y0e,y0f,y50,y51,zpj,O0,xL,y4m,zzp,zzq,zuv,zzr,zzs,zzt,Uv,xM,zzu,Uu,zzv,zzw,zzx,zuw,List.map_cons,List.map_nil,List.length_cons,List.length_nil,List.cons_append,List.nil_append,List.replicate_succ,List.replicate_zero,List.getElem?_cons_zero,List.getElem?_cons_succ,List.set_cons_zero,List.set_cons_succ,Option.map_some,Option.getD_some,if_true,if_false,Bool.false_eq_true,Bool.not_true,Bool.not_false,Bool.and_false,Bool.false_and,Bool.or_true,Bool.true_or,Bool.or_false,Bool.false_or,Nat.reduceAdd,Nat.reduceLeDiff,Nat.reduceEqDiff,reduceCtorEq,decide_true,decide_false,Int.reduceEq".splitOn ",").toArray.map fun s=>Lean.mkIdent s.toName
 `(tactic|try simp (implicitDefEqProofs:=false) only [$[$a:term],*])
theorem Ln{α:Type}(ls:List α)(f:α->D)(n:Nat)(hn:n<=20)(h1:∀x,(f x).oi=true)(h2:∀x,(f x).dep<=n)(h3:∀x y,(j8 (f x) (f y)).isSome=true)(h4:((ls.map f).all isI||(ls.map f).all G5||(ls.map f).all P4)=true)(hl:ls.length<64):E9 [.lst (ls.map f)]=some (.lst (z8 (ls.map f))):=by
 have ok:Bw (ls.map f)=true:=by unfold Bw;rw[N8 _ _ h1,decide_eq_true (AA (O1 ls f n h2) hn),F4 ls f (fun d=>(ls.map f).all fun e=>(j8 d e).isSome) (fun x=>F4 _ _ _ fun y=>h3 x y),h4,gV,decide_eq_true hl];rfl
 simp only[E9,ok,BM]
theorem sorted_T2(ls:List P2)(hl:ls.length<64):E9 [.lst (ls.map T2)]=some (.lst ((so2 ls).map T2)):=by rw[Ln ls T2 1 (by decide) Dw Q8 Sm (by rw[F4 ls T2 G5 fun _=>rfl,Bool.or_true,Bool.true_or]) hl,By]
theorem sorted_T3(ls:List P3)(hl:ls.length<64):E9 [.lst (ls.map T3)]=some (.lst ((so3 ls).map T3)):=by rw[Ln ls T3 1 (by decide) Hq Sn Sk (by rw[F4 ls T3 G5 fun _=>rfl,Bool.or_true,Bool.true_or]) hl,Fe]
theorem sorted_I(ls:List Int)(hl:ls.length<64):E9 [L ls]=some (L (soI ls)):=by unfold L;rw[Ln ls D.int 0 (by decide) Gn (fun _=>by simp[D.dep]) (fun _ _=>rfl) (by rw[F4 ls D.int isI fun _=>rfl];rfl) hl,Bx]
theorem y1d(d:Int)(ns:List Int):X3 [L ns,.int d]=some (.int (mxD d ns)):=by simp only[L,X3,Mv,uZ]
theorem xY(c:Int)(p:P2)(ls:List P2)(hl:ls.length<=1000):Dg [.int c,T2 p,.tup (ls.map T2)]=.ok (.int (mxD (c+1) (ends c p ls))):=by
 unfold Dg jG;walk_at "dz";rw[ζ (by rw[gV];omega),V4 (en:=T2) (bs:=fun l=>[T2 l]) (p:=pk c p) (g:=fun l=>D.int l.2) ls (fun x _=>rfl) (fun l _=>by
  unfold jJ;simp only[T2];walk_at "dz";rfl) (fun l _ _=>by
  unfold jI;simp only[T2];walk_at "dz")]
 simp only[R.bind_ok];rw[show D.lst ((ls.filter (pk c p)).map fun l=>D.int l.2)=L (ends c p ls) by unfold L ends;rw[AL];rfl];walk_at "dz";rw[y1d];walk_at "dz"
theorem Lm(t:DE->R Bool)(g:DS->SR)(n:Nat)(ρ:DS):N9 t g (n+1) ρ=(t (see ρ)).toS fun b=>if b=true then(g ρ).itr (N9 t g n) else .nx ρ:=by rw[N9];congr 1
theorem Rs(xs:List Int)(v:Int):dIx (L (xs++[v])) (.int (-1))=some (.int v):=by
 have:(xs++[v]).map D.int=xs.map D.int++[D.int v]:=by simp
 simp only[L,dIx,dOr,B8,this,yO]
theorem Kv(ls:List P2)(p:P2)(xs:List Int)(v:Int):Gg [some (T2 p),some (.tup (ls.map T2)),some (L (xs++[v]))]=.ok (decide (v<p.2)):=by unfold Gg;simp only[T2];walk_at "dz";rw[Rs];walk_at "dz"
theorem Ud(ls:List P2)(hl:ls.length<=1000)(p:P2)(xs:List Int)(v:Int)(hx:xs.length<1000):Gf [.im (T2 p),.im (.tup (ls.map T2)),.ow (L (xs++[v]))]=.nx [.im (T2 p),.im (.tup (ls.map T2)),.ow (L (xs++[v]++[mxD (v+1) (ends v p ls)]))]:=by unfold Gf;walk_at "dz";rw[Rs];walk_at "dz";rw[xY _ _ _ hl];walk_at "dz";rw[y4q (by simp;omega)];walk_at "dz"
theorem vW{n:Int}{ls ls':List P2}{T:List P3}(I:CInv n ls T)(p:ls'.Perm ls)(hl:ls'.length<=1000)(a c b:Int)(h:(a,c,b)∈T) :
  Cv [T2 (a,b),.tup (ls'.map T2)]=.ok (T3 (a,c,b)):=by
 obtain⟨g1,g2,g3,g4,_⟩:=I.tri a c b h
 unfold Cv Zz
 walk_at "dz"
 have w:Bq 1000 Gg Gf [.im (T2 (a,b)),.im (.tup (ls'.map T2)),.ow (L [a])]=.nx [.im (T2 (a,b)),.im (.tup (ls'.map T2)),.ow (L [a,c,b])]:=by have t1:=Kv ls' (a,b) [] a;have t2:=Kv ls' (a,b) [a] c;have t3:=Kv ls' (a,b) [a,c] b;have b1:=Ud ls' hl (a,b) [] a (by simp);have b2:=Ud ls' hl (a,b) [a] c (by simp);rw[I.beh1 p h]at b1;rw[I.beh2 p h]at b2;simp only[DL,CC]at t1 t2 t3 b1 b2;unfold Bq;rw[show(1000:Nat)=997+1+1+1 from rfl,Lm];simp only[Jl,Ko,Ly,Jm];rw[t1,U2,decide_eq_true (show a<b by omega),ζ rfl,b1,Uu,Lm];simp only[Jl,Ko,Ly,Jm];rw[t2,U2,decide_eq_true (show c<b by omega),ζ rfl,b2,Uu,Lm];simp only[Jl,Ko,Ly,Jm];rw[t3,U2,decide_eq_false (show ¬b<b by omega),ξ θ]
 rw[show D.lst [D.int a]=L [a] from rfl,w]
 walk_at "dz"
 rfl
theorem vV{n:Int}{ls ls':List P2}{T:List P3}(I:CInv n ls T)(p:ls'.Perm ls)(hl:ls.length<=60) :
  Bv [.int n,.tup (ls'.map T2)]=.ok (.lst ((so3 T).map T3)):=by
 have lH:ls'.length<=60:=by rw[p.length_eq];exact hl
 unfold Bv Uf
 walk_at "dz"
 rw[show v8 (D.lst [D.tup [D.int 0,D.int (n - 1)]]) (D.lst (ls'.map T2))=some (.lst (((0,n - 1)::ls').map T2)) by simp only[v8];rw[ζ (by simp;omega)];rfl]
 obtain⟨tops,ht⟩:∃tops:List P2,tops=(0,n - 1)::ls':=⟨_,rfl⟩
 have aH:tops.length<=61:=by rw[ht,pp];omega
 rw[<-ht]
 have kp:keeps true (D.lst (tops.map T2))=true:=by rw[Xy];exact Z7 _ _ fun x _=>O0 x
 simp only[R.of_some,U2,kp]
 walk_at "dz"
 rw[ζ (by rw[gV];omega),V5 (en:=T2) (bs:=fun q=>[T2 q]) (g:=fun q=>T3 (thr T q)) tops (fun x _=>rfl) (fun q hq=>by obtain⟨m1,m2⟩:=I.top_in p (by rw[<-ht];exact hq);unfold Wz;walk_at "dz";generalize thr T q=u at m1 m2;obtain⟨a,c,b⟩:=u;rw[<-m2];exact vW I p (by omega) a c b m1)]
 walk_at "dz"
 have e1:tops.map (fun q=>T3 (thr T q))=(tops.map (thr T)).map T3:=by rw[AL];rfl
 have pm:(tops.map (thr T)).Perm T:=by rw[ht];exact I.tops p
 rw[e1,sorted_T3 _ (by rw[gV];omega),Wj pm]
 walk_at "dz"
theorem zh1{n:Int}{ls ls':List P2}{T:List P3}(I:CInv n ls T)(p:ls'.Perm ls)(hl:ls.length<=60) :
  Cq [.tup [.int n,.tup (ls'.map T2)]]=.ok (.lst ((so3 T).map T3)):=by
 unfold Cq Zg
 walk_at "dz"
 rw[vV I p hl]
 walk_at "dz"
theorem Uc(i:Int):Ab [.int i]=.ok (.bl true):=by unfold Ab Yn;walk_at "dz"
def At(n a b:Int):Bool:=!(decide (a<0)||decide (n<=b))&&(decide (b=a+1)||(decide (a=0)&&decide (b=n - 1)))
theorem y1e(n:Int)(p:P2):Ci [.int n,T2 p]=.ok (.bl (At n p.1 p.2)):=by unfold Ci Xb At;walk_at "dz";generalize (decide (p.1<0)||decide (n<=p.2))=c;cases c<;>rfl
theorem Hk(p:P2):Z5 [T2 p]=.ok (.bl true):=by unfold Z5 Wb;walk_at "dz";rw[Uc];walk_at "dz";rw[Uc];walk_at "dz"
theorem y5j(n:Int)(ls:List P2)(p:P2):Cm [.tup [.int n,.tup (ls.map T2)],T2 p]=.ok (.bl (At n p.1 p.2||decide (p∈ls))):=by unfold Cm Yl;walk_at "dz";rw[Hk];walk_at "dz";rw[y1e];walk_at "dz";rw[Ep];walk_at "dz"
theorem xX(n:Int)(ls:List P2)(p:P2)(h:(At n p.1 p.2||decide (p∈ls))=true):Ct [.tup [.int n,.tup (ls.map T2)],T2 p]=.ok .non:=by unfold Ct Zw;walk_at "dz";rw[y5j,h];walk_at "dz"
theorem vU(T:List P3):(so3 T).length=T.length:=(V1 T).length_eq
theorem ze{n:Int}{ls ls':List P2}{T:List P3}(I:CInv n ls T)(pm:ls'.Perm ls)(hl:ls.length<=60)(p:P2)(h:(At n p.1 p.2||decide (p∈ls'))=true) :
  Z4 [.tup [.int n,.tup (ls'.map T2)],T2 p]=.ok (L (r8 T p)):=by
 have hT:(so3 T).length<=61:=by rw[vU,I.len];omega
 unfold Z4 Vz
 walk_at "dz"
 rw[xX n ls' p h]
 walk_at "dz"
 rw[zh1 I pm hl]
 walk_at "dz"
 rw[ζ (by rw[gV];omega),V4 (en:=T3) (bs:=fun t=>[T3 t]) (p:=bth p.1 p.2) (g:=fun t=>T3 t) (so3 T) (fun x _=>rfl) (fun t _=>by
  unfold Yj;walk_at "dz";rw[qx];walk_at "dz";rw[qx];walk_at "dz";rfl) (fun t _ _=>by
  unfold Yi;walk_at "dz")]
 simp only[R.bind_ok]
 obtain⟨F,hF⟩:∃F,F=(so3 T).filter (bth p.1 p.2):=⟨_,rfl⟩
 have uV:F.length<=61:=by rw[hF];exact AA (CY _ _) hT
 rw[<-hF]
 walk_at "dz"
 rw[ζ (by rw[gV];omega),V5 (en:=T3) (bs:=fun t=>[T3 t]) (g:=fun t=>D.int (t.1+(t.2.1+(t.2.2+0)) - (p.1+(p.2+0)))) F (fun x _=>rfl) (fun t _=>by unfold Yh;walk_at "dz")]
 simp only[R.bind_ok]
 rw[show D.lst (F.map fun t=>D.int (t.1+(t.2.1+(t.2.2+0)) - (p.1+(p.2+0))))=L (F.map fun t=>t.1+(t.2.1+(t.2.2+0)) - (p.1+(p.2+0))) by unfold L;rw[AL];rfl]
 walk_at "dz"
 rw[sorted_I _ (by rw[gV];omega)]
 walk_at "dz"
 rw[hF];rfl
theorem Ub(p:P2)(ls:List P2):dIn true (T2 p) (.tup (ls.map T2))=some (.bl (!decide (p∈ls))):=by have h:=Ep p ls;have h1:=O1 ls T2 1 Q8;unfold dIn dOr S7 at h⊢;simp only[T5,Kd ls T2 T5,true_and,ζ (show j9 (ls.map T2)<=20 by omega),AF,BK,BM,Option.some.injEq,D.bl.injEq]at h⊢;rw[h]
theorem Dr(p q:P2):dNe (T2 p) (T2 q)=some (.bl (!decide (p=q))):=by unfold dNe;rw[ζ ⟨T5 p,T5 q,by have:=Q8 p;omega⟩,Kb]
theorem vT(n:Int)(ls:List P2)(p:P2)(h:p∈ls):V6 [.tup [.int n,.tup (ls.map T2)],T2 p]=.ok .non:=by unfold V6 Nz;walk_at "dz";rw[Hk];walk_at "dz";rw[Ub,decide_eq_true h];walk_at "dz"
theorem Ua(ls' ls0:List P2)(l:P2)(p:ls'.Perm (l::ls0))(h:l∉ls0):(ls'.filter fun o=>!decide (o=l)).Perm ls0:=by refine(p.filter _).trans ?_;rw[List.filter_cons_of_neg (by simp)];rw[List.filter_eq_self.mpr fun o ho=>by simp;exact fun e=>h (by rw[<-e];exact ho)]
section
variable {n:Int}{ls ls' ls0:List P2}{T:List P3}{l w:P2}
theorem y1f(K:Cut n ls T)(pm:ls'.Perm ls)(hl:ls.length<=60)(h:l∈ls):Z4 [.tup [.int n,.tup (ls'.map T2)],T2 l]=.ok (L (r8 T l)):=
 ze K.inv pm hl l (by rw[decide_eq_true (pm.mem_iff.mpr h),Bool.or_true])
theorem Vx(K:Cut n ls T)(pm:ls'.Perm ls)(hl:ls.length<=60)(h:l∈ls)(p0:ls.Perm (l::ls0))(hw:r8 T l=[w.1,w.2]) :
  R5 [.tup [.int n,.tup (ls'.map T2)],T2 l]=.ok (.tup [.tup [.int n,.tup ((so2 (ls0++[w])).map T2)],T2 w]):=by
 have fB:l∉ls0:=by have:=p0.nodup_iff.mp K.inv.nd;rw[AR]at this;exact this.1
 have lH:ls'.length<=60:=by rw[pm.length_eq];exact hl
 unfold R5 Lu
 walk_at "dz"
 rw[vT n ls' l (pm.mem_iff.mpr h)]
 walk_at "dz"
 rw[y1f K pm hl h,hw]
 walk_at "dz"
 rw[show G7 [L [w.1,w.2]]=some (T2 w) from rfl]
 simp only[R.of_some,U2]
 rw[show keeps false (T2 w)=true from O0 w]
 walk_at "dz"
 rw[ζ (by rw[gV];omega),V4 (en:=T2) (bs:=fun o=>[T2 o]) (p:=fun o=>!decide (o=l)) (g:=fun o=>T2 o) ls' (fun x _=>rfl) (fun o _=>by
  unfold Yg;walk_at "dz";rw[Dr];walk_at "dz") (fun o _ _=>by
  unfold Ye;walk_at "dz")]
 simp only[R.bind_ok]
 have kn:=Ua ls' ls0 l (pm.trans p0) fB
 obtain⟨kp,dM⟩:∃kp,kp=ls'.filter fun o=>!decide (o=l):=⟨_,rfl⟩
 rw[<-dM]at kn⊢
 have oj:kp.length<=60:=by rw[dM];exact AA (CY _ _) lH
 walk_at "dz"
 rw[show D.lst [T2 w]=D.lst ([w].map T2) from rfl,Eo _ _ (by simp;omega)]
 obtain⟨xs,cb⟩:∃xs,xs=kp++[w]:=⟨_,rfl⟩
 have hx:xs.length<=61:=by rw[cb];simp;omega
 rw[<-cb]
 walk_at "dz"
 rw[sorted_T2 _ (by omega),V0 (show xs.Perm (ls0++[w]) by rw[cb];exact kn.append_right _)]
 walk_at "dz"
end
theorem Rr(a b:Int):Y0 [.int a,.int b]=.ok (T2 (nr (a,b))):=by
 unfold Y0 Rv nr;walk_at "dz";by_cases h:a<b
 . rw[decide_eq_true h,ζ h];walk_at "dz";rfl
 . rw[decide_eq_false h,ξ h];walk_at "dz";rfl
theorem Tz(n:Nat)(f:Int->Int)(ls:List P2)(hl:Inn (n:Int) ls)(aB:ls.length<64) :
  Y5 [.tup [.int (n:Int),.tup (ls.map T2)],L ((List.range n).map fun (i:Nat)=>f (i:Int))]=.ok (.tup [.int (n:Int),.tup ((imL f ls).map T2)]):=by
 obtain⟨bs,gh⟩:∃bs,bs=(List.range n).map fun (i:Nat)=>f (i:Int):=⟨_,rfl⟩
 have am:bs.length=n:=by rw[gh];simp
 have ol:∀x:Int,0<=x->x<n->bs.getD x.toNat 0=f x:=fun x h0 h1=>by rw[gh,lO,AO,List.getElem?_range (by omega)];show f ((x.toNat:Nat):Int)=f x;rw[CB h0]
 rw[<-gh]
 unfold Y5 Ug
 walk_at "dz"
 rw[ζ (by rw[gV];omega),V5 (en:=T2) (bs:=fun q=>[D.int q.1,D.int q.2]) (g:=fun q=>T2 (im f q)) ls (fun x _=>rfl) (fun q hq=>by obtain⟨h0,h1,h2⟩:=hl q.1 q.2 hq;unfold Xa;walk_at "dz";rw[Pv h0 (by omega),Pv (by omega) (by omega),ol _ h0 (by omega),ol _ (by omega) h2];walk_at "dz";rw[Rr];rfl)]
 simp only[R.bind_ok]
 rw[show ls.map (fun q=>T2 (im f q))=(ls.map (im f)).map T2 by rw[AL];rfl]
 unfold imL
 have hm:(ls.map (im f)).length<64:=by rw[gV];exact aB
 generalize ls.map (im f)=xs at hm
 walk_at "dz"
 rw[sorted_T2 _ hm]
 walk_at "dz"
theorem y1g(n:Nat)(bQ:Int)(ls:List P2)(h3:3<=n)(hn:n<=1000)(hl:Inn (n:Int) ls)(aB:ls.length<64) :
  Bn [.tup [.int (n:Int),.tup (ls.map T2)],.int bQ]=.ok (.tup [.int (n:Int),.tup ((imL (fun x=>(x+bQ) % (n:Int)) ls).map T2)]):=by
 have e:=Tz n (fun x=>(x+bQ) % (n:Int)) ls hl aB
 unfold Bn Ru
 generalize (D.tup (ls.map T2))=t at e
 walk_at "dz"
 rw[Hr (n:Int) (by omega) (by walk_at "dz")]
 walk_at "dz"
 rw[ζ (by rw[So];omega)]
 simp only[zD,EL]
 rw[V5 (en:=fun (i:Nat)=>D.int (0+(i:Int))) (bs:=fun (i:Nat)=>[D.int (0+(i:Int))]) (g:=fun (i:Nat)=>D.int (((i:Int)+bQ) % (n:Int))) (List.range n) (fun x _=>rfl) (fun i hi=>by unfold Wa;walk_at "dz";rw[y9 (by omega),Int.zero_add];walk_at "dz")]
 simp only[R.bind_ok]
 rw[show D.lst ((List.range n).map fun (i:Nat)=>D.int (((i:Int)+bQ) % (n:Int)))=L ((List.range n).map fun (i:Nat)=>((i:Int)+bQ) % (n:Int)) by unfold L;rw[AL];rfl]
 generalize L ((List.range n).map fun (i:Nat)=>((i:Int)+bQ) % (n:Int))=b at e
 walk_at "dz"
 rw[e]
 walk_at "dz"
theorem zX(n:Nat)(ls:List P2)(h3:3<=n)(hn:n<=1000)(hl:Inn (n:Int) ls)(aB:ls.length<64) :
  Cl [.tup [.int (n:Int),.tup (ls.map T2)]]=.ok (.tup [.int (n:Int),.tup ((imL (fun x=>((n:Int) - x) % (n:Int)) ls).map T2)]):=by
 have e:=Tz n (fun x=>((n:Int) - x) % (n:Int)) ls hl aB
 unfold Cl Yk
 generalize (D.tup (ls.map T2))=t at e
 walk_at "dz"
 rw[Hr (n:Int) (by omega) (by walk_at "dz")]
 walk_at "dz"
 rw[ζ (by rw[So];omega)]
 simp only[zD,EL]
 rw[V5 (en:=fun (i:Nat)=>D.int (0+(i:Int))) (bs:=fun (i:Nat)=>[D.int (0+(i:Int))]) (g:=fun (i:Nat)=>D.int (((n:Int) - (i:Int)) % (n:Int))) (List.range n) (fun x _=>rfl) (fun i hi=>by unfold Zx;walk_at "dz";rw[y9 (by omega),Int.zero_add];walk_at "dz")]
 simp only[R.bind_ok]
 rw[show D.lst ((List.range n).map fun (i:Nat)=>D.int (((n:Int) - (i:Int)) % (n:Int)))=L ((List.range n).map fun (i:Nat)=>((n:Int) - (i:Int)) % (n:Int)) by unfold L;rw[AL];rfl]
 generalize L ((List.range n).map fun (i:Nat)=>((n:Int) - (i:Int)) % (n:Int))=b at e
 walk_at "dz"
 rw[e]
 walk_at "dz"
theorem y1h(a b:Int):Bb [D.lst [.int a,.int b]]=some (.int (nr (a,b)).1):=by
 have:J2 a [b]=(nr (a,b)).1:=by
  unfold J2 nr;show(if b<a then b else a)=(if a<b then(a,b) else(b,a)).1;by_cases h:a<b
  . rw[ζ h,ξ (by omega)]
  . rw[ξ h];show _=b;split<;>omega
 simp only[Bb,y0,uZ,this]
theorem y1i(a b:Int):Bc [D.lst [.int a,.int b]]=some (.int (nr (a,b)).2):=by
 have:F6 a [b]=(nr (a,b)).2:=by
  unfold F6 nr;show(if b > a then b else a)=(if a<b then(a,b) else(b,a)).2;by_cases h:a<b
  . rw[ζ h,ζ (by omega)]
  . rw[ξ h,ξ (by omega)]
 simp only[Bc,y0,uZ,this]
theorem kc(c x:Int):x+(if decide (c<x)=true then 1 else 0)=sh c x:=by
 unfold sh;by_cases h:c<x
 . rw[decide_eq_true h,ζ rfl,ζ h]
 . rw[decide_eq_false h,ξ θ,ξ h];omega
theorem l9{a r:DS->SR}{ρ aI:DS}(h:a ρ=.nx aI):e7 a r ρ=r aI:=by rw[Uw,h,xR]
def pkv(ns:List Int)(k:Int):Int:=(y4 ns (some k) (some (k+1))++[0]).getD 0 0
theorem vS(ns:List Int)(a b:Option Int):(y4 ns a b).length<=ns.length:=by unfold y4;simp only[List.length_drop,DI];omega
theorem Bm(ns:List Int)(hl:ns.length<=63)(k:Int):D8 [.scr ns,.int k]=.ok (.int (pkv ns k)):=by have h:=vS ns (some k) (some (k+1));unfold D8 Zl pkv;walk_at "dz";generalize y4 ns (some k) (some (k+1))=xs at h;rw[show v8 (L xs) (D.lst [D.int 0])=some (L (xs++[0])) by simp only[L,v8,gV,pp,List.length_nil,ζ (show xs.length+(0+1)<=100000 by omega),CS,io,AQ]];walk_at "dz";rw[Pv (by omega) (by simp)];rfl
theorem y5k(n:Int)(ls:List P2)(c:Int)(hl:ls.length<1000):Cz [.int n,.lst (ls.map T2),.int c]=.ok (.lst ((ls.map (sh2 c)++[v4 n c]).map T2)):=by
 unfold Cz jk;walk_at "dz";rw[ζ (by rw[gV];omega),V5 (en:=T2) (bs:=fun q=>[D.int q.1,D.int q.2]) (g:=fun q=>T2 (sh2 c q)) ls (fun x _=>rfl) (fun q _=>by unfold jF;walk_at "dz";rw[kc,kc];rfl)];simp only[R.bind_ok];rw[show ls.map (fun q=>T2 (sh2 c q))=(ls.map (sh2 c)).map T2 by rw[AL];rfl];generalize tP:ls.map (sh2 c)=ls';have lH:ls'.length<1000:=by rw[<-tP,gV];exact hl
 walk_at "dz";by_cases q:c=n - 1
 . rw[decide_eq_true q];walk_at "dz";rw[show D.lst [D.tup [D.int 0,D.int (n - 1)]]=D.lst ([v4 n c].map T2) by unfold v4;rw[ζ q,<-q];rfl,Eo _ _ (by simp;omega)];generalize ls'++[v4 n c]=xs;walk_at "dz"
 . rw[decide_eq_false q];walk_at "dz";rw[show D.lst [D.tup [D.int c,D.int (c+2)]]=D.lst ([v4 n c].map T2) by unfold v4;rw[ξ q];rfl,Eo _ _ (by simp;omega)];generalize ls'++[v4 n c]=xs;walk_at "dz"
theorem vR(A0:Sl)(row:List Int)(ls:List P2)(cell:Int)(h3:3<=row.length)(hn:row.length<900)(hl:ls.length<900) :
  ∃c:Nat,c<row.length/\Db [A0,.im (.int (row.length:Int)),.ow (.lst (ls.map T2)),.im (.int cell)] =
   .nx [A0,.im (.int ((row.length:Int)+1)),.ow (.lst ((ls.map (sh2 (c:Int))++[v4 (row.length:Int) (c:Int)]).map T2)),.im (.int cell)]:=by
 have m0:0<=cell % (row.length:Int):=BA _ (by omega)
 have m1:cell % (row.length:Int)<row.length:=BE _ (by omega)
 unfold Db
 walk_at "dz"
 rw[y9 (by omega)]
 walk_at "dz"
 rw[y5k _ _ _ (by omega)]
 generalize cb:(ls.map (sh2 (cell % (row.length:Int)))++[v4 (row.length:Int) (cell % (row.length:Int))])=xs
 walk_at "dz"
 refine⟨(cell % (row.length:Int)).toNat,by omega,?_⟩
 rw[CB m0,cb]
theorem Vw(n:Nat)(s bQ:Int)(hs:s=1\/s=-1)(ls:List P2)(h3:3<=n)(aB:ls.length<64) :
  S1 [.tup [.int (n:Int),.tup (ls.map T2)],.int bQ,.int s]=.ok (.tup [.int (n:Int),.tup ((imL (fun x=>(s * x+bQ) % (n:Int)) ls).map T2)]):=by
 unfold S1 ja
 walk_at "dz"
 obtain⟨aI,e,xs,s5,s6,s7,hx,hr⟩:=Lx (tg:=.t [5,6]) (g:=Ou) (en:=T2)
  (fun r ρ=>∃(xs:List P2)(s5 s6 s7:Sl),xs++r.map (im fun x=>(s * x+bQ) % (n:Int))=ls.map (im fun x=>(s * x+bQ) % (n:Int))/\ρ=[.im (.tup [.int (n:Int),.tup (ls.map T2)]),.im (.int bQ),.im (.int s),.im (.int (n:Int)),.ow (.lst (xs.map T2)),s5,s6,s7])
  ls [.im (.tup [.int (n:Int),.tup (ls.map T2)]),.im (.int bQ),.im (.int s),.im (.int (n:Int)),.ow (.lst []),.em,.em,.em] ⟨[],.em,.em,.em,rfl,rfl⟩ (by
   rintro⟨a,b⟩ r ρ ⟨xs,s5,s6,s7,hx,rfl⟩;have hl:=BG List.length hx;simp only[AY,gV,pp]at hl;refine⟨_,[.im (.tup [.int (n:Int),.tup (ls.map T2)]),.im (.int bQ),.im (.int s),.im (.int (n:Int)),.ow (.lst ((xs++[im (fun x=>(s * x+bQ) % (n:Int)) (a,b)]).map T2)),.im (.int a),.im (.int b),.ow (.lst [.int ((s * a+bQ) % (n:Int)),.int ((s * b+bQ) % (n:Int))])],rfl,Or.inl ?_,⟨_,_,_,_,?_,rfl⟩⟩
   . unfold Ou;walk_at "dz";rw[Hs (by omega),Hs (by omega)];walk_at "dz";rw[y9 (by omega),y9 (by omega)];walk_at "dz";rw[y1h,y1i];walk_at "dz";rw[y08 (by omega)];walk_at "dz";rfl
   . rw[<-hx,io,List.append_assoc];rfl)
 rw[e,hr]
 simp only[AQ,BJ]at hx
 have hl:xs.length<64:=by rw[hx,gV];exact aB
 unfold imL
 rw[<-hx]
 walk_at "dz"
 rw[sorted_T2 _ hl]
 walk_at "dz"
theorem y1j(n:Int)(ls:List P2):(D.tup [.int n,.tup (ls.map T2)]).pl=true/\(D.tup [.int n,.tup (ls.map T2)]).dep<=20:=by have h1:=y09 ls;have h2:=O1 ls T2 1 Q8;simp only[D.pl,pls,D.dep,j9]at h1⊢;exact⟨by rw[h1.1];rfl,by omega⟩
theorem y5l(xs:List α):P5 [D.lst (xs.map fun _=>D.bl true)]=some (.bl true):=by
 have:O2 (xs.map fun _=>D.bl true)=some (xs.map fun _=>true):=by
  induction xs with
  |nil=>rfl
  |cons a r ih=>simp only[io,O2,ih,uZ]
 simp only[P5,this,uZ];congr 1;congr 1;rw[AS];intro b hb;obtain⟨_,_,rfl⟩:=AC.mp hb;rfl
abbrev e8(n:Int)(ls:List P2):D:=.tup [.int n,.tup (ls.map T2)]
def jn(n:Int)(ls:List P2)(a b:Int):Bool:=decide ((nr (a,b)).2 - (nr (a,b)).1=1)||(decide (nr (a,b)=(0,n - 1))||decide (nr (a,b)∈ls))
theorem Vv(n:Int)(ls:List P2)(a b:Int):Ah [e8 n ls,.int a,.int b]=.ok (.bl (jn n ls a b)):=by
 have e1:(if b<a then b else a)=(nr (a,b)).1:=by unfold nr;split<;>split<;>first |rfl | (simp only;omega)
 have e2:(if b > a then b else a)=(nr (a,b)).2:=by unfold nr;split<;>rfl
 unfold Ah jj e8;walk_at "dz";rw[e1,e2];generalize hq:nr (a,b)=q;rw[show D.tup [D.int q.1,D.int q.2]=T2 q from rfl,Ep];walk_at "dz";unfold jn;rw[hq];obtain⟨x,y⟩:=q;simp only[Prod.mk.injEq];by_cases h1:y - x=1
 . simp[h1]
 . by_cases h2:x=0/\y=n - 1
   . simp[h1,h2.1,h2.2]
   . have:(decide (x=0)&&decide (y=n - 1))=false:=by simpa using h2
     simp[h1,h2,this]
theorem El(I:CInv n ls T)(x0:0<=x)(x1:x<n)(k0:0<=k)(k1:k<n)(aA:k≠x):jn n ls k x=true↔adj n ls x k:=by
 unfold jn;simp only[ED,AW];rcases Int.lt_or_gt_of_ne aA with h |h
 . rw[show nr (k,x)=(k,x) by unfold nr;rw[ζ h]];simp only[Prod.mk.injEq];constructor
   . intro z;exact(Bo I k0 h x1 (by rcases z with z |z |z;exact .inr (.inl (by omega));exact .inr (.inr z);exact .inl z)).2
   . intro z;rcases Q6 I k0 h x1 (.inr z) with z |z |z
     . exact .inr (.inr z)
     . exact .inl (by omega)
     . exact .inr (.inl z)
 . rw[show nr (k,x)=(x,k) by unfold nr;rw[ξ (by simp only;omega)]];simp only[Prod.mk.injEq];constructor
   . intro z;exact(Bo I x0 h k1 (by rcases z with z |z |z;exact .inr (.inl (by omega));exact .inr (.inr z);exact .inl z)).1
   . intro z;rcases Q6 I x0 h k1 (.inl z) with z |z |z
     . exact .inr (.inr z)
     . exact .inl (by omega)
     . exact .inr (.inl z)
theorem y8l{xs:List Nat}{u v:Int}(uW:u<v)(hs:xs.Pairwise (·<·))(hm:∀k:Nat,k∈xs↔((k:Int)=u\/(k:Int)=v))(u0:0<=u):xs.map (fun k:Nat=>(k:Int))=[u,v]:=by
 have p:xs.Perm [u.toNat,v.toNat]:=by
  refine(List.perm_ext_iff_of_nodup (hs.imp fun h=>AG h) (by simp;omega)).mpr fun k=>?_
  rw[hm k];simp only[gq,DG,or_false];omega
 have e:xs=[u.toNat,v.toNat]:=p.eq_of_pairwise (le:=(·<·)) (fun a b _ _ h1 h2=>absurd h1 (Nat.lt_asymm h2)) hs (by simp;omega);rw[e];simp only[io,AQ];rw[CB u0,CB (by omega)]
theorem zc(n:Nat):(List.range n).Pairwise (·<·):=List.pairwise_lt_range
section
variable {n:Nat}{ls:List P2}{T:List P3}{l w:P2}
theorem vQ(K:Cut (n:Int) ls T)(h:l∈ls)(hw:r8 T l=[w.1,w.2])(aH:w.1<w.2)(w0:0<=w.1)(wn:w.2<n)(dB:∀k,k∈r8 T l->k≠l.1/\k≠l.2) :
  (((List.range n).filter fun (k:Nat)=>!(decide ((k:Int)=l.1)||decide ((k:Int)=l.2))).filter fun (k:Nat)=>jn n ls (k:Int) l.1&&jn n ls (k:Int) l.2).map (fun k:Nat=>(k:Int))=[w.1,w.2]:=by
 have I:=K.inv
 obtain⟨a,b⟩:=l
 have li:=I.lin a b h
 refine y8l aH (((zc n).filter _).filter _) (fun k=>?_) w0
 have e:((k:Int)=w.1\/(k:Int)=w.2)↔(k:Int)∈r8 T (a,b):=by rw[hw];simp
 rw[e,AK,AK,DB]
 simp only[EN,Bool.or_eq_false_iff,BC,oF]
 constructor
 . rintro⟨⟨h1,h2,h3⟩,h4,h5⟩;exact(I.com h (by omega) (by omega) h2 h3).mp ⟨(El I li.1 (by omega) (by omega) (by omega) h2).mp h4,(El I (by omega) (by omega) (by omega) (by omega) h3).mp h5⟩
 . intro z;obtain⟨z1,z2⟩:=dB _ z;have hk:(k:Int)<n:=by rw[hw]at z;simp at z;omega
   obtain⟨c1,c2⟩:=(I.com h (by omega) hk z1 z2).mpr z;exact⟨⟨by omega,z1,z2⟩,(El I li.1 (by omega) (by omega) (by omega) z1).mpr c1,(El I (by omega) (by omega) (by omega) hk z2).mpr c2⟩
theorem y5m(k c e:Int):dIn true (.int k) (.lst [.int c,.int e])=some (.bl (!(decide (k=c)||decide (k=e)))):=by
 have h1:(c==k)=decide (k=c):=by rw[CV,BN,AW];exact⟨Eq.symm,Eq.symm⟩
 have h2:(e==k)=decide (k=e):=by rw[CV,BN,AW];exact⟨Eq.symm,Eq.symm⟩
 unfold dIn dOr S7;simp only[D.pl,pls,j9,D.dep,CI,true_and,ζ (show max 0 (max 0 0)<=20 by decide),EA,List.any_nil,eqD,Bool.or_false,BM,h1,h2]
theorem y1k(n:Nat):zD 0 ((n:Int)).toNat=(List.range n).map fun (k:Nat)=>D.int (k:Int):=by unfold zD;rw[EL];exact AM fun k _=>by rw[Int.zero_add]
end
def Okc(n:Nat)(ls:List P2):Prop:=(∃T,CInv (n:Int) ls T)/\so2 ls=ls/\ls.length+3=n
inductive Stp (n:Nat):List P2->D->List P2->Prop where
 |turn {ls ls0:List P2} {T T':List P3} {l w:P2} (K:Cut (n:Int) ls T) (h:l∈ls) (p0:ls.Perm (l::ls0)) (K':Cut (n:Int) (ls0++[w]) T') (hw:r8 T l=[w.1,w.2]) (hv:r8 T' w=[l.1,l.2]):Stp n ls (.obj "TurnLine" [T2 l]) (so2 (ls0++[w]))
 |spin (ls:List P2) (b:Int):Stp n ls (.obj "Spin" [.int b]) (imL (fun x=>(x+b) % (n:Int)) ls)
 |mir (ls:List P2):Stp n ls (.obj "Mirror" []) (imL (fun x=>((n:Int) - x) % (n:Int)) ls)
theorem Okc.im(O:Okc n ls)(h:∀T,CInv (n:Int) ls T->∃T',CInv (n:Int) (ls.map (im f)) T'):Okc n (imL f ls):=by obtain⟨⟨T,I⟩,_,hl⟩:=O;obtain⟨T',I'⟩:=h T I;exact⟨⟨T',I'.perm (G3 _)⟩,Ju _,by rw[wa];exact hl⟩
theorem Stp.ok(S:Stp n ls d ls')(O:Okc n ls):Okc n ls':=by
 cases S with
 |turn K h p0 K' hw hv=>
  refine⟨⟨_,K'.inv.perm (G3 _)⟩,Ju _,?_⟩
  have:=O.2.2
  have e:=p0.length_eq
  rw[(G3 _).length_eq,AY,List.length_singleton]
  rw[pp]at e
  omega
 |spin b=>
  refine O.im fun T I=>?_
  . obtain⟨T',I',_⟩:=Cn.spin (g:=fun k=>c1 k T) ⟨T,I,fun _ _ _=>rfl⟩ b;exact⟨T',I'⟩
 |mir=>
  refine O.im fun T I=>?_
  . obtain⟨T',I',_⟩:=Cn.mirror (g:=fun k=>c1 k T) ⟨T,I,fun _ _ _=>rfl⟩;exact⟨T',I'⟩
theorem Stp.turn'(O:Okc n ls)(h:l∈ls):∃(w:P2)(ls0:List P2)(T T':List P3),Cut (n:Int) ls T/\ls.Perm (l::ls0)/\Cut (n:Int) (ls0++[w]) T'/\r8 T l=[w.1,w.2]/\r8 T' w=[l.1,l.2]/\w∉ls:=by obtain⟨⟨T,I⟩,_,_⟩:=O;obtain⟨w,ls0,T',h1,h2,h3,h4,h5⟩:=I.cut.turn h;exact⟨w,ls0,T,T',I.cut,h1,h2,h3,h4,h5⟩
theorem Q1(p:P2):o7 "line" ["TurnLine"] (.obj "TurnLine" [T2 p])=some (T2 p):=by simp only[o7,t6];rfl
theorem As(b:Int):o7 "by" ["Spin"] (.obj "Spin" [.int b])=some (.int b):=by simp only[o7,t6];rfl
section
variable {n:Nat}{ls ls':List P2}{d:D}
theorem K8{tb:String->Option (List D->R D)}{fo:DE->R D}{fs:DE->R (List D)}{ρ:DE}{c:String}{zs:List D}{g:List D->R D}{x:D}(h1:fo ρ=.ok (.obj c zs))(h2:fs ρ=.ok [x])(h3:tb c=some g):m9 tb fo fs ρ=g [.obj c zs,x]:=by unfold m9;rw[h1];simp only[R.bind_ok,h3];rw[h2,R.bind_ok]
theorem Jq(S:Stp n ls d ls')(O:Okc n ls)(aB:n<=60)(h1:fo ρ=.ok d)(h2:fs ρ=.ok [e8 n ls]):m9 o6 fo fs ρ=.ok (e8 n ls'):=by
 have hl:ls.length<=60:=by have:=O.2.2;omega
 obtain⟨⟨T0,I0⟩,_,_⟩:=id O;have n3:3<=n:=by have:=I0.n3;omega
 cases S with
 | @turn ls0 T T' l w K h p0 K' hw hv=>
  rw[K8 h1 h2 (show o6 "TurnLine"=some K7 by simp[o6])]
  have te:=Vx K (.refl _) hl h p0 hw
  unfold K7 Pd
  generalize hq:T2 l=q at *
  unfold e8
  generalize D.tup (ls.map T2)=tl at *
  walk_at "dz"
  rw[<-hq,Q1,hq]
  walk_at "dz"
  rw[te]
  walk_at "dz"
 |spin b=>
  rw[K8 h1 h2 (show o6 "Spin"=some Cp by simp[o6])]
  have te:=y1g n b ls n3 (by omega) I0.inn (by omega)
  unfold Cp Zf e8
  generalize D.tup (ls.map T2)=tl at *
  walk_at "dz"
  rw[As]
  walk_at "dz"
  rw[te]
  walk_at "dz"
 |mir=>
  rw[K8 h1 h2 (show o6 "Mirror"=some Cw by simp[o6])]
  have te:=zX n ls n3 (by omega) I0.inn (by omega)
  unfold Cw jg e8
  generalize D.tup (ls.map T2)=tl at *
  walk_at "dz"
  rw[te]
  walk_at "dz"
end
theorem Dk(p:P2)(fs:DE->R (List D))(ρ:DE)(h:fs ρ=.ok [T2 p]):p8 "TurnLine" fs ρ=.ok (.obj "TurnLine" [T2 p]):=by unfold p8;rw[h,R.bind_ok,ζ ⟨rfl,by simp[k9,O0],by simp[T2,pls,D.pl]⟩]
theorem Pr(b:Int)(fs:DE->R (List D))(ρ:DE)(h:fs ρ=.ok [.int b]):p8 "Spin" fs ρ=.ok (.obj "Spin" [.int b]):=by unfold p8;rw[h,R.bind_ok,ζ ⟨rfl,by simp[k9,D.noL],by simp[pls,D.pl]⟩]
section
variable {n:Nat}{ls ls':List P2}{d:D}
theorem Stp.deed(S:Stp n ls d ls'):p7 M4 d=some (.bl true)/\d.noL=true:=by cases S<;>exact⟨by simp[p7,M4],rfl⟩
end
section
variable {n:Nat}{ls:List P2}
theorem vP(n:Int)(ls:List P2)(p:P2)(h:p∉ls):V6 [e8 n ls,T2 p]=.er ⟨"NoLine",[]⟩:=by unfold V6 Nz e8;have e:=Hk p;have e2:=Ub p ls;generalize T2 p=q at *;generalize D.tup (ls.map T2)=tl at *;walk_at "dz";rw[e];walk_at "dz";rw[e2,decide_eq_false h];walk_at "dz";rfl
theorem zb(n:Int)(ls:List P2)(p:P2)(h:p∉ls):R5 [e8 n ls,T2 p]=.er ⟨"NoLine",[]⟩:=by have e:=vP n ls p h;unfold R5 Lu;generalize e8 n ls=C at *;generalize T2 p=q at *;walk_at "dz";rw[e];walk_at "dz"
theorem vO(h:p∉ls)(h1:fo ρ=.ok (.obj "TurnLine" [T2 p]))(h2:fs ρ=.ok [e8 n ls]):m9 o6 fo fs ρ=.er ⟨"NoLine",[]⟩/\m9 o4 fo fs ρ=.er ⟨"NoLine",[]⟩:=by
 have te:=zb n ls p h;refine⟨?_,?_⟩
 . rw[K8 h1 h2 (show o6 "TurnLine"=some K7 by simp[o6])];unfold K7 Pd;generalize e8 n ls=C at *;walk_at "dz";rw[Q1];walk_at "dz";rw[te];walk_at "dz"
 . rw[K8 h1 h2 (show o4 "TurnLine"=some M6 by simp[o4])];unfold M6 Pc;generalize e8 n ls=C at *;walk_at "dz";simp only[p8];walk_at "dz";rw[Q1];walk_at "dz";rw[te];walk_at "dz"
end
theorem Bu(n:Int)(ls:List P2):(e8 n ls).noL=true:=by simp only[e8,D.noL,k9,Xx,CI]
theorem y1m:P6 (.int 10) (.int 60)=some (.int (10 ^ Int.toNat 60)):=by unfold P6;rw[Bp,ζ (show P8 10 60 from⟨by decide,by decide,by decide⟩)]
theorem y1n:P6 (.int 10) (.int 30)=some (.int (10 ^ Int.toNat 30)):=by unfold P6;rw[Bp,ζ (show P8 10 30 from⟨by decide,by decide,by decide⟩)]
theorem Ku(I:CInv n ls T)(h:l∈ls):∀k,k∈r8 T l->k≠l.1/\k≠l.2:=by intro k hk;obtain⟨⟨x,y,z⟩,ht,hb,e⟩:=mem_dues.mp hk;have g:=I.tri _ _ _ ht;have li:=I.lin l.1 l.2 h;rw[bth_iff]at hb;simp only at hb e;omega
section
variable {ls:List P2}
theorem Ty(hl:ls.length<=60)(j:Int)(h0:0<=j)(h1:j<ls.length):∃l∈ls,dIx (.tup (ls.map T2)) (.int j)=some (T2 l):=by
 have hj:j.toNat<ls.length:=by omega
 refine⟨ls[j.toNat],List.getElem_mem hj,?_⟩;have:=qy (ds:=ls.map T2) (j:=j.toNat) (d:=T2 ls[j.toNat]) (by rw[AO,AH hj];rfl);rwa [show((j.toNat:Nat):Int)=j by omega]at this
theorem Jp(h:a ρ=.rt d):e7 a r ρ=.rt d:=by rw[Uw,h,xQ]
end
section
variable {n:Nat}{ls:List P2}
theorem Z3(I:CInv n ls T)(a b:Int)(h:¬(0<=a/\a+2<=b/\b<=n - 1/\¬(a=0/\b=n - 1))):(a,b)∉ls:=fun z=>h (I.lin a b z)
end
theorem vN(A0:D)(cs:List Int)(hl:cs.length<=57):∃(n:Nat)(ls:List P2)(T:List P3)(s3:Sl),CInv (n:Int) ls T/\n=cs.length+3/\ls.length+3=n /\
  J3 (.n 3) Db (cs.map D.int) [.im A0,.im (.int 3),.ow (.lst []),.em]=.nx [.im A0,.im (.int (n:Int)),.ow (.lst (ls.map T2)),s3]:=by
 obtain⟨aI,e,n,ls,T,s3,I,hn,hm,hr⟩:=Lx (tg:=.n 3) (g:=Db) (en:=D.int)
  (fun r ρ=>∃(n:Nat)(ls:List P2)(T:List P3)(s3:Sl),CInv (n:Int) ls T/\n+r.length=cs.length+3/\ls.length+3=n/\ρ=[.im A0,.im (.int (n:Int)),.ow (.lst (ls.map T2)),s3])
  cs [.im A0,.im (.int 3),.ow (.lst []),.em] ⟨3,[],[(0,1,2)],.em,y8h,by omega,rfl,rfl⟩ (by rintro x r ρ ⟨n,ls,T,s3,I,hn,hm,rfl⟩;have h3:=I.n3;simp only[pp]at hn;have my:(List.replicate n (0:Int)).length=n:=DV;obtain⟨c,hc,e⟩:=vR (.im A0) (List.replicate n 0) ls x (by omega) (by omega) (by omega);rw[my]at hc e;refine⟨_,_,rfl,Or.inl e,⟨n+1,_,_,.im (.int x),I.grow (c:Int) (by omega) (by omega),by omega,by simp;omega,?_⟩⟩;simp)
 exact⟨n,ls,T,s3,I,by simpa using hn,hm,by rw[e,hr]⟩
theorem vM(cs:List Int)(hl:cs.length<=57):∃(n:Nat)(ls:List P2),Okc n ls/\n=cs.length+3/\Af [L cs]=.ok (e8 n ls):=by obtain⟨n,ls,T,s3,I,hn,hm,e⟩:=vN (L cs) cs hl;refine⟨n,so2 ls,⟨⟨T,I.perm (G3 _)⟩,Ju _,by rw[(G3 _).length_eq];exact hm⟩,hn,?_⟩;unfold Af Zy;walk_at "dz";rw[e];walk_at "dz";rw[sorted_T2 _ (by omega)];walk_at "dz"
section
variable {n:Nat}
theorem y8m(n:Int)(l:List P2):(e8 n l).pl=true/\(e8 n l).dep<=19:=by refine⟨(y1j n l).1,?_⟩;simp only[e8,D.dep,j9];have:=O1 l T2 1 (fun x=>Q8 x);omega
end
abbrev ti(i:Int):PySem.Str:=PySem.Str.ofString (toString i)
def PD(n:Nat)(cs:List Nat):Prop:=PySem.NumText.AllDigits cs/\PySem.NumText.digitsVal cs=n/\(n=0/\cs=[48]\/∃c r,cs=c::r/\49<=c/\10 ^ r.length<=n)
theorem qf(n:Nat):∃cs,PD n cs:=by
 induction n using Nat.strongRecOn with
 |ind n ih=>
  by_cases h:n<10
  . refine⟨[48+n],fun c hc=>?_,?_,?_⟩
    . rw[tB]at hc;omega
    . simp[PySem.NumText.digitsVal]
    . by_cases h0:n=0
      . exact .inl ⟨h0,by rw[h0]⟩
      . exact .inr ⟨48+n,[],rfl,by omega,by simp;omega⟩
  . obtain⟨cs,a,b,c⟩:=ih (n / 10) (by omega);obtain⟨z,_⟩ |⟨c,r,e,c1,c2⟩:=c
    . omega
    . refine⟨cs++[48+n % 10],fun x hx=>?_,?_,.inr ⟨c,r++[48+n % 10],by rw[e];rfl,c1,?_⟩⟩
      . rcases AN.mp hx with hx |hx
        . exact a x hx
        . rw[tB]at hx;omega
      . rw[PySem.NumText.digitsVal_snoc,b];omega
      . rw[AY,List.length_singleton,Nat.pow_succ];omega
theorem vL:∀c∈List.range 58,(Char.ofNat c).toNat=c:=by decide
theorem Dq(h:PD n cs):cs≠[]:=by obtain⟨_,_,⟨_,e⟩ |⟨c,r,e,_⟩⟩:=h<;>rw[e]<;>exact BL _ _
theorem Rq(h:PD n cs):(Nat.toDigits 10 n).map Char.toNat=cs:=by
 have aA:=Dq h;obtain⟨a,b,c⟩:=h;have hl:cs.length=cs.length - 1+1:=by have:=List.length_pos_iff.mpr aA;omega
 rw[<-b,PySem.NumText.toDigits_digitsVal (cs.length - 1) cs hl a (by
  obtain⟨_,e⟩ |⟨c,r,e,c1,_⟩:=c
  . exact .inl (by rw[e];rfl)
  . exact .inr ⟨c,r,e,c1⟩),AL]
 conv=>rhs;rw[<-List.map_id cs]
 exact AM fun c hc=>vL c (DB.mpr (by have:=a c hc;omega))
theorem Rp(h:PD n cs):(ti (n:Int)).cps.toList=cs:=by rw[PySem.W.KIN.signs_num,Rq h]
theorem y1p(h:PD (m+1) cs):(ti (Int.negSucc m)).cps.toList=45::cs:=by show(PySem.Str.ofString ("-"++Nat.repr (m+1))).cps.toList=_;rw[PyProof.Rows.signs_ofString,String.toList_append,CS,Nat.toList_repr,Rq h];rfl
theorem Ro(h:PD n cs)(hk:1<=k)(hn:n<10 ^ k):1<=cs.length/\cs.length<=k:=by
 have aA:=Dq h;obtain⟨_,_,⟨_,e⟩ |⟨c,r,e,_,z⟩⟩:=h
 . rw[e];exact⟨η _,hk⟩
 . rw[e,pp];have:r.length<k:=(Nat.pow_lt_pow_iff_right (by omega)).mp (Nat.lt_of_le_of_lt z hn);omega
theorem vK:((List.range 58).all fun c=>decide (c<48)||inT ⟨#[c]⟩ (PySem.Str.ofString "0123456789"))=true:=by decide +kernel
theorem y1q(h0:48<=c)(h1:c<=57):Dm (.str ⟨#[c]⟩) (.str (PySem.Str.ofString "0123456789"))=some (.bl true):=by have:=AS.mp vK c (DB.mpr (by omega));rw[decide_eq_false (by omega),Bool.false_or]at this;simp only[Dm,this]
theorem y5o:PySem.Str.ofString "0"=⟨#[48]⟩:=by decide +kernel
theorem jZ(h:x.length<=100000):z7 [.str x]=some (.int x.length):=ζ h
theorem y8n(h:x.cps.toList=c::r)(hl:x.length<=100000):dIx (.str x) (.int 0)=some (.str ⟨#[c]⟩):=by have:atI (c::r) 0=some c:=Z0 (xs:=c::r) (j:=0) rfl;simp only[dIx,dOr,B8,ζ hl,h,this,uZ]
theorem y1r(h:49<=c):dEq (.str ⟨#[c]⟩) (.str (PySem.Str.ofString "0"))=some (.bl false):=by rw[y5o];unfold dEq;rw[ζ ⟨rfl,rfl,by simp[D.dep]⟩];simp only[eqD,Option.some.injEq,D.bl.injEq];rw[Bool.eq_false_iff];intro e;simp at e;omega
theorem Hj(hx:x.cps.toList=cs)(hd:PySem.NumText.AllDigits cs)(h1:1<=cs.length)(h2:(cs.length:Int)<=m)(h3:cs.length<=640)(hz:cs.length<=1\/∃c r,cs=c::r/\49<=c):O8 [.str x,.int m]=.ok (.bl true):=by
 have om:x.length=cs.length:=by rw[<-hx];rfl
 have dQ:x.cps.all (·<128)=true:=by rw[<-Array.all_toList,hx,AS];intro c hc;have:=hd c hc;simp;omega
 have tQ:Ho x=cs.map fun c=>D.str ⟨#[c]⟩:=by unfold Ho;rw[hx]
 have tR:G0 b1 C9 Gh [] (cs.map fun c=>D.str ⟨#[c]⟩)=.ok (cs.map fun _=>D.bl true):=V5 (bn:=b1) (bs:=fun c=>[D.str ⟨#[c]⟩]) (g:=fun _=>D.bl true) cs (fun c _=>rfl) (fun c hc=>by unfold Gh;have h:=hd c hc;walk_at "dz";rw[y1q h.1 h.2];walk_at "dz");unfold O8 jc;walk_at "dz";rw[jZ (by omega),om];walk_at "dz";rw[decide_eq_true (show(1:Int)<=cs.length by omega),decide_eq_true h2];walk_at "dz";rw[jZ (by omega),om];walk_at "dz";have fin:SR.out false (g9 [true] (eCB P5 (b8 (p9 (iS (b7 0)) b1 [] C9 Gh) c7)) [.im (.str x),.im (.int m)])=.ok (.bl true):=by
  have hi:iS (b7 0) [some (D.str x),some (D.int m)]=.ok (cs.map fun c=>D.str ⟨#[c]⟩):=by unfold iS;walk_at "dz";rw[ζ dQ,tQ]
  walk_at "dz";rw[hi];walk_at "dz";rw[ζ (by rw[gV];omega),tR];walk_at "dz";rw[y5l];walk_at "dz"
 by_cases hq:cs.length<=1
 . rw[decide_eq_false (by omega)];walk_at "dz";exact fin
 . rw[decide_eq_true (by omega)];obtain⟨c,r,e,hc⟩:=hz.resolve_left hq;walk_at "dz";rw[y8n (hx.trans e) (by omega)];walk_at "dz";rw[y1r hc];walk_at "dz";exact fin
structure Fit(i:Int):Prop where
 fig:O8 [.str (ti i),.int 2]=.ok (.bl true)
 int:J8 [.str (ti i)]=some (.int i)
 f45:45∉(ti i).cps.toList
 f32:32∉(ti i).cps.toList
 len:(ti i).length<=2
 lg:i.natAbs.log2<1920
theorem Hi(h:PD n cs):cs.length<=1\/∃c r,cs=c::r/\49<=c:=by
 obtain⟨_,_,⟨_,e⟩ |⟨c,r,e,c1,_⟩⟩:=h
 . exact .inl (by rw[e];exact η _)
 . exact .inr ⟨c,r,e,c1⟩
theorem qe{i:Int}(h:i.natAbs<10 ^ 60):i.natAbs.log2<1920:=by
 by_cases h0:i.natAbs=0
 . rw[h0];decide
 . exact(Nat.log2_lt h0).mpr (AD h (DU (by decide +kernel)))
theorem fit(h0:0<=i)(h1:i<=99):Fit i:=by
 obtain⟨n,rfl⟩:=Int.eq_ofNat_of_zero_le h0;obtain⟨cs,p⟩:=qf n;have e:=Rp p;have l:=Ro p (k:=2) (by omega) (by omega);have hl:(ti (n:Int)).length=cs.length:=by rw[<-e];rfl
 refine⟨Hj e p.1 l.1 (by omega) (by omega) (Hi p),?_,?_,?_,by omega,qe (Nat.lt_trans (show(n:Int).natAbs<100 by omega) (by decide))⟩
 . simp only[J8];rw[ζ (by omega),PySem.intText_digits (by rw[e];exact p.1) (by rw[e];exact Dq p) (by omega),e,p.2.1];rfl
 . rw[e];intro z;have:=p.1 _ z;omega
 . rw[e];intro z;have:=p.1 _ z;omega
theorem Tx:∀{a b x y:List Nat},c∉a->c∉b->a++c::x=b++c::y->a=b/\x=y
 | [],[],_,_,_,_,h=>⟨rfl,(List.cons.inj h).2⟩
 | [],v::b,_,_,_,hb,h=>absurd (by rw[(List.cons.inj h).1];exact dg) hb
 |u::a,[],_,_,ha,_,h=>absurd (by rw[<-(List.cons.inj h).1];exact dg) ha
 |u::a,v::b,_,_,ha,hb,h=>by obtain⟨e,h⟩:=List.cons.inj h;obtain⟨e2,e3⟩:=Tx (fun z=>ha (bI _ z)) (fun z=>hb (bI _ z)) h;exact⟨by rw[e,e2],e3⟩
theorem Ll(c:Nat)(w v:PySem.Str)(r:List PySem.Str):(PySem.Str.join ⟨#[c]⟩ (w::v::r)).cps.toList=w.cps.toList++c::(PySem.Str.join ⟨#[c]⟩ (v::r)).cps.toList:=by show(w++⟨#[c]⟩++PySem.Str.join ⟨#[c]⟩ (v::r)).cps.toList=_;rw[EB,EB];simp
theorem Vu:∀{ws vs:List PySem.Str},ws≠[]->vs≠[]->(∀w∈ws,c∉w.cps.toList)->(∀w∈vs,c∉w.cps.toList)->PySem.Str.join ⟨#[c]⟩ ws=PySem.Str.join ⟨#[c]⟩ vs->ws=vs
 | [],_,h,_,_,_,_=>absurd rfl h
 |_,[],_,h,_,_,_=>absurd rfl h
 | [w],[v],_,_,_,_,h=>by rw[show w=v from h]
 | [w],v::v2::r,_,_,hw,_,h=>by have e:=BG (fun x=>x.cps.toList) h;simp only[Ll]at e;exact absurd (by rw[show w.cps.toList=_ from e];simp) (hw w dg)
 |w::w2::r,[v],_,_,_,hv,h=>by have e:=BG (fun x=>x.cps.toList) h;simp only[Ll]at e;exact absurd (by rw[show v.cps.toList=_ from e.symm];simp) (hv v dg)
 |w::w2::r,v::v2::r',_,_,hw,hv,h=>by have e:=BG (fun x=>x.cps.toList) h;simp only[Ll]at e;obtain⟨e1,e2⟩:=Tx (hw w dg) (hv v dg) e;have:=Vu (c:=c) (BL w2 r) (BL v2 r') (fun x hx=>hw x (bI _ hx)) (fun x hx=>hv x (bI _ hx)) (PySem.Str.ext' (Array.toList_inj.mp e2));rw[this,PySem.Str.ext' (Array.toList_inj.mp e1)]
theorem xW(x y:PySem.Str):PySem.Txt.split x y≠[]:=by
 unfold PySem.Txt.split;split
 . exact BL _ _
 . split
   . exact BL _ _
   . rw[PySem.StrLaws.partsBetween_eq];obtain⟨p,r,e⟩:=PySem.StrLaws.partsFrom_ne x y.length 0 (PySem.Builtin.Str.occurrences x y 0 x.length (x.length+1));rw[e];exact BL _ _
theorem Yz(h:ws≠[])(hf:∀w∈ws,c∉w.cps.toList):PySem.Txt.split (PySem.Str.join ⟨#[c]⟩ ws) ⟨#[c]⟩=ws:=
 Vu (xW _ _) h (PySem.StrLaws.split_free _ c) hf (PySem.StrLaws.join_split _ _)
theorem jY:PySem.Str.ofString " "=⟨#[32]⟩:=by decide +kernel
theorem Dj:PySem.Str.ofString "-"=⟨#[45]⟩:=by decide +kernel
def wd(p:P2):PySem.Str:=ti p.1++PySem.Str.ofString "-"++ti p.2
def D9(p:P2):Prop:=Fit p.1/\Fit p.2
theorem Ek(h:D9 p):(wd p).length<=5:=by unfold wd;rw[AI,AI,Dj];have:=h.1.len;have:=h.2.len;show _+1+_<=5;omega
theorem vJ(h:D9 p):32∉(wd p).cps.toList:=by
 unfold wd;rw[Dj,EB,EB];have:=h.1.f32;have:=h.2.f32
 simp_all
theorem Bl(h:a.length+b.length<=1000):k7 (.str a) (.str b)=some (.str (a++b)):=by simp only[k7];rw[ζ (by omega)]
theorem Q0(h:Fit i):m5 [.int i]=some (.str (ti i)):=by simp only[m5];rw[ζ h.lg]
theorem jX(h:Fit i):dFv (.int i)=some (.str (ti i)):=by simp only[dFv];rw[ζ h.lg]
theorem y8o(h:o.length<=1000):eJn [] o ρ=.ok (.str o):=by unfold eJn;rw[ζ (by omega)]
theorem Pq(e:f ρ=.ok (.str i))(h:(o++i).length<=1000):eJn (f::fs) o ρ=eJn fs (o++i) ρ:=by rw[eJn,e];simp only[R.bind_ok];rw[ζ (by omega)]
theorem xV(h:D9 p):Cs [T2 p]=.ok (.str (wd p)):=by
 have l:=Ek h;unfold wd at l;rw[AI,AI]at l;unfold Cs Zm;walk_at "dz";rw[Pq (i:=ti p.1) (by walk_at "dz";rw[jX h.1];rfl) (by rw[CO];omega),Pq (i:=PySem.Str.ofString "-") (by walk_at "dz") (by rw[CO,AI];omega),
  Pq (i:=ti p.2) (by walk_at "dz";rw[jX h.2];rfl) (by rw[CO,AI,AI];omega),y8o (by rw[CO,AI,AI];omega),CO]
 walk_at "dz";rfl
theorem vI(h:D9 p):Co [.str (wd p)]=.ok (T2 p):=by
 have l:=Ek h;have sp:PySem.Txt.split (wd p) (PySem.Str.ofString "-")=[ti p.1,ti p.2]:=by
  rw[show wd p=PySem.Str.join (PySem.Str.ofString "-") [ti p.1,ti p.2] from rfl,Dj];exact Yz (BL _ _) fun w hw=>by
   rcases gq.mp hw with rfl |hw
   . exact h.1.f45
   . rw[tB.mp hw];exact h.2.f45
 have ms:K2 (wd p) [.str (PySem.Str.ofString "-")]=some (.lst [.str (ti p.1),.str (ti p.2)]):=by simp only[K2];rw[ζ ⟨by rw[Dj];exact η _,by omega⟩,sp];rfl
 unfold Co Ym;walk_at "dz";simp only[eMt];walk_at "dz";rw[ms];walk_at "dz";rw[show decide (((2:Nat):Int)=2)=true from rfl];walk_at "dz";have hr:∀i:Int,Fit i->Ob [some (.str (ti i))]=.ok (.bl true):=fun i hi=>by unfold Ob;walk_at "dz";exact hi.fig
 rw[hr _ h.1,hr _ h.2];walk_at "dz";rw[show P5 [D.lst [D.bl true,D.bl true]]=some (.bl true) from rfl];walk_at "dz";rw[h.1.int,h.2.int];walk_at "dz";rfl
def tw(p:P2):PySem.Str:=PySem.Str.ofString "turn "++ti p.1++PySem.Str.ofString "-"++ti p.2
def ts(b:Int):PySem.Str:=PySem.Str.ofString "spin "++ti b
theorem y8p:PySem.Str.ofString "turn "=PySem.Str.ofString "turn"++PySem.Str.ofString " ":=by decide +kernel
theorem y8q:PySem.Str.ofString "spin "=PySem.Str.ofString "spin"++PySem.Str.ofString " ":=by decide +kernel
theorem Hh(p:P2):tw p=PySem.Str.ofString "turn "++wd p:=by unfold tw wd;rw[PySem.Str.append_assoc,PySem.Str.append_assoc,PySem.Str.append_assoc]
theorem y5q(p:P2):tw p=PySem.Str.join (PySem.Str.ofString " ") [PySem.Str.ofString "turn",wd p]:=by rw[Hh,y8p];rfl
theorem y5r(b:Int):ts b=PySem.Str.join (PySem.Str.ofString " ") [PySem.Str.ofString "spin",ti b]:=by unfold ts;rw[y8q];rfl
theorem Pp:(PySem.Str.ofString "turn ").length=5:=by decide +kernel
theorem jW:(PySem.Str.ofString "spin ").length=5:=by decide +kernel
theorem y8r:(PySem.Str.ofString "-").length=1:=by decide +kernel
theorem y8s:32∉(PySem.Str.ofString "turn").cps.toList:=by decide +kernel
theorem y8t:32∉(PySem.Str.ofString "spin").cps.toList:=by decide +kernel
theorem y1u(h:D9 p):(tw p).length<=10:=by rw[Hh,AI,Pp];have:=Ek h;omega
theorem Jo(hx:x=PySem.Str.join (PySem.Str.ofString " ") ws)(hw:ws≠[])(hf:∀w∈ws,32∉w.cps.toList)(hl:x.length<=1000):K2 x [.str (PySem.Str.ofString " ")]=some (.lst (ws.map .str)):=by simp only[K2];rw[ζ ⟨by rw[jY];exact η _,by omega⟩,hx,jY,Yz hw hf]
theorem vH(h:D9 p)(aA:p.1≠p.2):Ad [.str (wd p)]=.ok (T2 (nr p)):=by have r:=vI h;unfold Ad Zh;walk_at "dz";rw[r];simp only[U2];rw[show keeps false (T2 p)=true from O0 p];walk_at "dz";rw[show Gp (T2 p) .non=some (.bl false) from rfl];walk_at "dz";rw[ξ (by simpa using aA),Rr];walk_at "dz"
theorem isS(x:PySem.Str):r9 "str" (.str x)=some (.bl true):=rfl
theorem eqS(x:PySem.Str):dEq (.str x) (.str x)=some (.bl true):=by unfold dEq;rw[ζ ⟨rfl,rfl,by simp[D.dep]⟩,R7 _ rfl]
theorem neS(x:PySem.Str):dNe (.str x) (.str x)=some (.bl false):=by unfold dNe;rw[ζ ⟨rfl,rfl,by simp[D.dep]⟩,R7 _ rfl];rfl
theorem Po(h:x≠y):dEq (.str x) (.str y)=some (.bl false):=by unfold dEq;rw[ζ ⟨rfl,rfl,by simp[D.dep]⟩];simp[eqD,h]
def rdT:DS->SR:=
 (e7 (sIf (g0 asB (eOp dEq (b7 1) (l8 (b8 (eC (.str "mirror")) c7))))
   (g9 [] (K3 "Mirror"))
   sNx)
  (e7 (sIf (D1 (g0 asB (eOp dEq (eCB z7 (b8 (b7 1) c7)) (eC (.int 2)))) (g0 asB (eOp dEq (eOp dIx (b7 1) (eC (.int 0))) (eC (.str "turn")))))
   (g9 [false,true] (p8 "TurnLine" (b8 (e9 Ad (b8 (eOp dIx (b7 1) (eC (.int 1))) c7)) c7)))
   sNx)
  (e7 (sIf (D1 (g0 asB (eOp dEq (eCB z7 (b8 (b7 1) c7)) (eC (.int 2)))) (g0 asB (eOp dEq (eOp dIx (b7 1) (eC (.int 0))) (eC (.str "spin")))))
   (g9 [false,true] (p8 "Spin" (b8 (e9 V7 (b8 (eOp dIx (b7 1) (eC (.int 1))) (b8 (eC (.int 60)) c7))) c7)))
   sNx)
  (M1 "NoDeed" (b8 (eC (.str "no deed is written so")) c7)))))
theorem y1v(ws:List PySem.Str):k9 (ws.map .str)=true:=Z7 _ _ fun _ _=>rfl
theorem Hg{x:PySem.Str}{ws:List PySem.Str}(ms:K2 x [.str (PySem.Str.ofString " ")]=some (.lst (ws.map .str))):v7 [.str x]=SR.out false (rdT [.im (.str x),.ow (.lst (ws.map .str))]):=by
 have nl:=y1v ws;unfold v7;rw[X9,ζ (show [D.str x].length=1 from rfl)];show SR.out false (Nk [.im (.str x),.em])=_;unfold Nk;have a1:∀X,sIf (t8 (g0 m7 (eUn (r9 "str") (b7 0)))) X sNx [.im (.str x),.em]=.nx [.im (.str x),.em]:=by intro X;walk_at "dz";rw[isS];walk_at "dz"
 rw[l9 (a1 _)];have a2:i4 true 1 [true] (eMt K2 (b7 0) (b8 (eC (.str (PySem.Str.ofString " "))) c7)) [.im (.str x),.em]=.nx [.im (.str x),.ow (.lst (ws.map .str))]:=by generalize ws.map D.str=ds at *;walk_at "dz";simp only[eMt];walk_at "dz";rw[ms];walk_at "dz";rw[nl];walk_at "dz"
 rw[l9 a2];rfl
theorem d22:decide (((2:Nat):Int)=2)=true:=rfl
theorem Kt(h:D9 p)(aA:p.1≠p.2):v7 [.str (tw p)]=.ok (.obj "TurnLine" [T2 (nr p)]):=by
 have pr:=vH h aA;rw[Hg (Jo (y5q p) (BL _ _) (fun w hw=>by
  rcases gq.mp hw with rfl |hw
  . exact y8s
  . rw[tB.mp hw];exact vJ h) (by have:=y1u h;omega))]
 have e1:dEq (.lst [.str (PySem.Str.ofString "turn"),.str (wd p)]) (.lst [.str (PySem.Str.ofString "mirror")])=some (.bl false):=by unfold dEq;rw[ζ ⟨rfl,rfl,by simp[D.dep,j9]⟩];simp[eqD,o9]
 simp only[io,AQ];unfold rdT;walk_at "dz";rw[e1];walk_at "dz";rw[d22];walk_at "dz";rw[eqS];walk_at "dz";rw[Dk (nr p) _ _ (by walk_at "dz";rw[pr];walk_at "dz")];walk_at "dz"
theorem Tw(h:x.cps.toList=c::cs):PySem.Txt.startswith x (PySem.Str.ofString "-")=decide (c=45):=by
 have hl:x.length=cs.length+1:=by show x.cps.size=_;rw[<-BB,h,pp]
 unfold PySem.Txt.startswith PySem.Builtin.Str.subAt;rw[Dj];have e:x.cps.extract 0 (0+1)=#[c]:=by apply Array.toList_inj.mp;rw[Array.toList_extract,h];rfl
 show(decide (0+1<=x.length)&&(x.cps.extract 0 (0+1)==#[45]))=_;rw[e,decide_eq_true (by omega),Bool.true_and,CV,BN,AW];constructor
 . intro z;have:=BG Array.toList z;simpa using this
 . rintro rfl;rfl
theorem y8u(h:x.cps.toList=c::cs):(G4 x (some 1) none).cps.toList=cs:=by
 have hl:x.length=cs.length+1:=by show x.cps.size=_;rw[<-BB,h,pp]
 have e0:PySem.Builtin.Str.strSliceIndices (some 1) none 1 x.length=PySem.Builtin.Str.strSliceIndices (some ((1:Nat):Int)) (some (x.length:Int)) 1 x.length:=by unfold PySem.Builtin.Str.strSliceIndices;simp;congr 1;split<;>omega
 have e1:(PySem.Builtin.Str.strSliceIndices (some 1) none 1 x.length).length=cs.length:=by unfold PySem.Builtin.Str.strSliceIndices;have:=PySem.sliceRange_one 1 x.length;simp;rw[show max (0:Int) (min 1 (x.length:Int))=((1:Nat):Int) by omega,this,gV,List.length_range];omega
 unfold G4;rw[ξ (by rw[e1];omega),e0];show List.filterMap (fun i=>x.cps[i]?) _=_;rw[PySem.StrLaws.sliced_plain x (by omega) (η _),h,hl];simp
theorem Tv(hb:b.natAbs<10 ^ 60):V7 [.str (ti b),.int 60]=.ok (.int b)/\32∉(ti b).cps.toList/\(ti b).length<=61:=by
 obtain⟨cs,p⟩:=qf b.natAbs;have l:=Ro p (k:=60) (by omega) hb;have hd:=p.1;have aA:=Dq p;have hv:=p.2.1;by_cases h0:0<=b
 . obtain⟨n,rfl⟩:=Int.eq_ofNat_of_zero_le h0;have e:(ti (n:Int)).cps.toList=cs:=Rp p;obtain⟨c,r,hc⟩:=List.exists_cons_of_ne_nil aA;have c0:=hd c (by rw[hc];exact dg);have hl:(ti (n:Int)).length=cs.length:=by rw[<-e];rfl
   have fg:O8 [.str (ti (n:Int)),.int 60]=.ok (.bl true):=Hj e hd l.1 (by omega) (by omega) (Hi p);refine⟨?_,by rw[e];intro z;have:=hd _ z;omega,by omega⟩;have st:U4 (ti (n:Int)) [.str (PySem.Str.ofString "-")]=some (.bl false):=by simp only[U4];rw[Tw (e.trans hc),decide_eq_false (by omega)]
   have ne:dEq (.str (ti (n:Int))) (.str (PySem.Str.ofString "-0"))=some (.bl false):=Po fun z=>by have:=BG (fun x:PySem.Str=>x.cps.toList) z;simp only[e]at this;rw[show(PySem.Str.ofString "-0").cps.toList=[45,48] by decide +kernel,hc]at this;have:=(List.cons.inj this).1;omega
   have it:J8 [.str (ti (n:Int))]=some (.int (n:Int)):=by simp only[J8];rw[ζ (by omega),PySem.intText_digits (by rw[e];exact hd) (by rw[e];exact aA) (by omega),e,hv];rfl
   generalize ti (n:Int)=t at *;unfold V7 Oa;walk_at "dz";simp only[eMt];walk_at "dz";rw[st];walk_at "dz";rw[ne];walk_at "dz";rw[fg];walk_at "dz";rw[it];walk_at "dz"
 . obtain⟨m,rfl⟩:=Int.eq_negSucc_of_lt_zero (by omega:b<0);have e:(ti (Int.negSucc m)).cps.toList=45::cs:=y1p (m:=m) p;have hl:(ti (Int.negSucc m)).length=cs.length+1:=by show(ti (Int.negSucc m)).cps.size=_;rw[<-BB,e,pp]
   have ec:=y8u e;have eA:(G4 (ti (Int.negSucc m)) (some 1) none).length=cs.length:=by show(G4 (ti (Int.negSucc m)) (some 1) none).cps.size=_;rw[<-BB,ec]
   have fg:O8 [.str (G4 (ti (Int.negSucc m)) (some 1) none),.int 60]=.ok (.bl true):=Hj ec hd l.1 (by omega) (by omega) (Hi p);have sl:Dl (.str (ti (Int.negSucc m))) (some 1) none=some (.str (G4 (ti (Int.negSucc m)) (some 1) none)):=by simp only[Dl];rw[ζ (by omega)]
   refine⟨?_,by rw[e];intro z;rcases gq.mp z with z |z;(cases z);(have:=hd _ z;omega),by omega⟩;have st:U4 (ti (Int.negSucc m)) [.str (PySem.Str.ofString "-")]=some (.bl true):=by simp only[U4];rw[Tw e,decide_eq_true rfl]
   have ne:dEq (.str (ti (Int.negSucc m))) (.str (PySem.Str.ofString "-0"))=some (.bl false):=Po fun z=>by
    have:=BG (fun x:PySem.Str=>x.cps.toList) z;simp only[e]at this;rw[show(PySem.Str.ofString "-0").cps.toList=[45,48] by decide +kernel]at this;have:=(List.cons.inj this).2;have h:=p.2.2;obtain⟨z,_⟩ |⟨c,r,e2,c1,_⟩:=h
    . exact absurd z (by show ¬(m+1=0);omega)
    . rw[e2]at this;have:=(List.cons.inj this).1;omega
   have it:J8 [.str (ti (Int.negSucc m))]=some (.int (Int.negSucc m)):=by simp only[J8];rw[ζ (by omega),PySem.intText_neg e hd aA (by omega),hv];rfl
   generalize G4 (ti (Int.negSucc m)) (some 1) none=t2 at *;generalize ti (Int.negSucc m)=t at *;unfold V7 Oa;walk_at "dz";simp only[eMt];walk_at "dz";rw[st];walk_at "dz";rw[sl];walk_at "dz";rw[ne];walk_at "dz";rw[fg];walk_at "dz";rw[it];walk_at "dz"
theorem vG(hb:b.natAbs<10 ^ 60):v7 [.str (ts b)]=.ok (.obj "Spin" [.int b]):=by
 obtain⟨pr,hf,hl⟩:=Tv hb;rw[Hg (Jo (y5r b) (BL _ _) (fun w hw=>by
  rcases gq.mp hw with rfl |hw
  . exact y8t
  . rw[tB.mp hw];exact hf) (by unfold ts;rw[AI,jW];omega))]
 have e1:dEq (.lst [.str (PySem.Str.ofString "spin"),.str (ti b)]) (.lst [.str (PySem.Str.ofString "mirror")])=some (.bl false):=by unfold dEq;rw[ζ ⟨rfl,rfl,by simp[D.dep,j9]⟩];simp[eqD,o9]
 have e2:dEq (.str (PySem.Str.ofString "spin")) (.str (PySem.Str.ofString "turn"))=some (.bl false):=Po (by decide +kernel);simp only[io,AQ];unfold rdT;walk_at "dz";rw[e1];walk_at "dz";rw[d22];walk_at "dz";rw[e2];walk_at "dz";rw[d22];walk_at "dz";rw[eqS];walk_at "dz";rw[Pr b _ _ (by walk_at "dz";rw[pr];walk_at "dz")];walk_at "dz"
theorem y1w:v7 [.str (PySem.Str.ofString "mirror")]=.ok (.obj "Mirror" []):=by
 have ms:K2 (PySem.Str.ofString "mirror") [.str (PySem.Str.ofString " ")]=some (.lst ([PySem.Str.ofString "mirror"].map .str)):=
  Jo rfl (BL _ _) (fun w hw=>by rw[tB.mp hw];decide +kernel) (by decide +kernel)
 have e1:dEq (.lst [.str (PySem.Str.ofString "mirror")]) (.lst [.str (PySem.Str.ofString "mirror")])=some (.bl true):=by unfold dEq;rw[ζ ⟨rfl,rfl,by simp[D.dep,j9]⟩,R7 _ rfl]
 rw[Hg ms];simp only[io,AQ];unfold rdT;walk_at "dz";rw[e1];walk_at "dz";simp only[K3];walk_at "dz"
theorem Pn{tb:String->Option (List D->R D)}{fo:DE->R D}{ρ:DE}{c:String}{zs:List D}{g:List D->R D}(h1:fo ρ=.ok (.obj c zs))(h3:tb c=some g):m9 tb fo c7 ρ=g [.obj c zs]:=by unfold m9;rw[h1];simp only[R.bind_ok,h3];rfl
theorem y5v(h:D9 p):Am [.obj "TurnLine" [T2 p]]=.ok (.str (tw p)):=by have sh:=xV h;have:=Ek h;unfold Am jH;walk_at "dz";rw[Q1];walk_at "dz";rw[sh];walk_at "dz";rw[Bl (by rw[Pp];omega),<-Hh];walk_at "dz"
theorem Hf(hb:b.natAbs<10 ^ 60):m5 [.int b]=some (.str (ti b)):=by simp only[m5];rw[ζ (qe hb)]
theorem Jn(hb:b.natAbs<10 ^ 60):k7 (.str (PySem.Str.ofString "spin ")) (.str (ti b))=some (.str (ts b)):=Bl (by rw[jW];have:=(Tv hb).2.2;omega)
theorem y5w(hb:b.natAbs<10 ^ 60):Ag [.obj "Spin" [.int b]]=.ok (.str (ts b)):=by unfold Ag jb;walk_at "dz";rw[As];walk_at "dz";rw[Hf hb];walk_at "dz";rw[Jn hb];walk_at "dz"
theorem y5x:Aj [.obj "Mirror" []]=.ok (.str (PySem.Str.ofString "mirror")):=by unfold Aj ju;walk_at "dz"
theorem Ks{c:String}{zs:List D}{a b d:Bool}{i:Nat}{w:PySem.Str}(h1:p7 M4 (.obj c zs)=some (.bl true))(h2:p7 S0 (.obj c zs)=some (.bl a))(h3:p7 R4 (.obj c zs)=some (.bl b))(h4:p7 R8 (.obj c zs)=some (.bl d))
  (h5:Ps [.bl a,.bl b,.bl d] (.bl true)=some (.int 1)) (h6:Lb (.lst [.bl a,.bl b,.bl d]) (.bl true)=some (.int (i:Int))) (h7:[D.str (PySem.Str.ofString "turn"),D.str (PySem.Str.ofString "spin"),D.str (PySem.Str.ofString "mirror")][i]?=some (.str w)):C8 [.obj c zs]=.ok (.str w):=by
 unfold C8 Zk
 walk_at "dz"
 rw[h1]
 walk_at "dz"
 rw[h2,h3,h4]
 walk_at "dz"
 simp only[Av]
 walk_at "dz"
 rw[h5]
 walk_at "dz"
 simp only[Ay]
 walk_at "dz"
 rw[h6]
 walk_at "dz"
 rw[Er h7]
 walk_at "dz"
theorem Ar(zs:List D):C8 [.obj "TurnLine" zs]=.ok (.str (PySem.Str.ofString "turn")):=Ks (i:=0) (by simp[p7,M4];try rfl) (by simp[p7,S0];try rfl) (by simp[p7,R4];try rfl) (by simp[p7,R8];try rfl) rfl rfl rfl
theorem qc(zs:List D):C8 [.obj "Spin" zs]=.ok (.str (PySem.Str.ofString "spin")):=Ks (i:=1) (by simp[p7,M4];try rfl) (by simp[p7,S0];try rfl) (by simp[p7,R4];try rfl) (by simp[p7,R8];try rfl) rfl rfl rfl
theorem qb(zs:List D):C8 [.obj "Mirror" zs]=.ok (.str (PySem.Str.ofString "mirror")):=Ks (i:=2) (by simp[p7,M4];try rfl) (by simp[p7,S0];try rfl) (by simp[p7,R4];try rfl) (by simp[p7,R8];try rfl) rfl rfl rfl
section
variable {n:Nat}{ls ls':List P2}{d:D}
theorem neC(n:Int)(ls:List P2):dNe (e8 n ls) (e8 n ls)=some (.bl false)/\dEq (e8 n ls) (e8 n ls)=some (.bl true):=by have h:=y8m n ls;unfold dEq dNe;rw[ζ ⟨h.1,h.1,by omega⟩,ζ ⟨h.1,h.1,by omega⟩,R7 _ h.1];exact⟨rfl,rfl⟩
theorem Z2(S:Stp n ls d ls')(O:Okc n ls)(aB:n<=60)(hk:C8 [d]=.ok (.str k))(hs:∀(fo:DE->R D)(ρ:DE),fo ρ=.ok d->m9 D6 fo c7 ρ=.ok (.str x)) :
  r6 [d,.str k,e8 n ls,e8 n ls',.str x]=.ok (.bl true):=by
 have nd:=S.deed.2
 have dn:=Jq (fo:=b7 0) (fs:=b8 (b7 2) c7) (ρ:=[some d,some (.str k),some (e8 n ls),some (e8 n ls'),some (.str x),none]) S O aB rfl rfl
 have sh:=hs (b7 0) [some d,some (.str k),some (e8 n ls),some (e8 n ls'),some (.str x),none] rfl
 have nc:=(neC n ls').1
 unfold r6 jr
 generalize e8 n ls=C at *
 generalize e8 n ls'=C' at *
 walk_at "dz"
 rw[hk]
 walk_at "dz"
 rw[neS]
 walk_at "dz"
 rw[dn]
 walk_at "dz"
 rw[nc]
 walk_at "dz"
 rw[sh]
 walk_at "dz"
 rw[isS]
 walk_at "dz"
 rw[eqS]
 walk_at "dz"
end
section
variable {n:Nat}{ls ls0:List P2}{T:List P3}{l w:P2}
theorem Kr(K:Cut (n:Int) ls T)(hl:ls.length<=60)(aB:n<=60)(h:l∈ls)(hw:r8 T l=[w.1,w.2])(aH:w.1<w.2)(w0:0<=w.1)(wn:w.2<n)(dB:∀k,k∈r8 T l->k≠l.1/\k≠l.2) :
  P0 [e8 n ls,T2 l]=.ok (T2 w):=by
 have tp:=vQ K h hw aH w0 wn dB
 have je:=fun k=>Vv n ls k l.1
 have lJ:=fun k=>Vv n ls k l.2
 unfold P0 jK
 obtain⟨a,b⟩:=l
 simp only[T2]at je lJ⊢
 unfold e8 at *
 generalize oo:D.tup (ls.map T2)=tl at je lJ⊢
 walk_at "dz"
 rw[Hr (n:Int) (by omega) (by walk_at "dz"),y1k]
 walk_at "dz"
 rw[ζ (by rw[gV,List.length_range];omega),V4 (en:=fun (k:Nat)=>D.int (k:Int)) (bs:=fun k=>[D.int (k:Int)]) (p:=fun (k:Nat)=>!(decide ((k:Int)=a)||decide ((k:Int)=b))) (g:=fun (k:Nat)=>D.int (k:Int)) (List.range n) (fun x _=>rfl) (fun o _=>by
  unfold jO;walk_at "dz";rw[y5m];walk_at "dz") (fun o _ _=>by
  unfold jN;walk_at "dz")]
 obtain⟨os,eg⟩:∃os,os=(List.range n).filter fun (k:Nat)=>!(decide ((k:Int)=a)||decide ((k:Int)=b)):=⟨_,rfl⟩
 simp only[<-eg]at tp⊢
 have uX:os.length<=60:=by rw[eg];exact AA (CY _ _) (by rw[List.length_range];omega)
 have nL:k9 (os.map fun (k:Nat)=>D.int (k:Int))=true:=Z7 _ _ fun x _=>rfl
 walk_at "dz"
 rw[nL]
 walk_at "dz"
 rw[ζ (by rw[gV];omega),V4 (en:=fun (k:Nat)=>D.int (k:Int)) (bs:=fun k=>[D.int (k:Int)]) (p:=fun (k:Nat)=>jn n ls (k:Int) a&&jn n ls (k:Int) b) (g:=fun (k:Nat)=>D.int (k:Int)) os (fun x _=>rfl) (fun o _=>by
  unfold jM;walk_at "dz";rw[je,lJ];walk_at "dz") (fun o _ _=>by
  unfold jL;walk_at "dz")]
 have tS:((os.filter fun (k:Nat)=>jn n ls (k:Int) a&&jn n ls (k:Int) b).map fun (k:Nat)=>D.int (k:Int))=[D.int w.1,D.int w.2]:=by have:=BG (List.map D.int) tp;rw[AL]at this;exact this
 rw[tS]
 walk_at "dz"
theorem za(K:Cut (n:Int) ls T)(hl:ls.length<=60)(aB:n<=60)(h:l∈ls)(p0:ls.Perm (l::ls0))(hw:r8 T l=[w.1,w.2])(aH:w.1<w.2)(w0:0<=w.1)(wn:w.2<n)(dB:∀k,k∈r8 T l->k≠l.1/\k≠l.2) :
  G9 [e8 n ls,T2 l]=.ok (e8 n (so2 (ls0++[w]))):=by
 have fB:l∉ls0:=by have:=p0.nodup_iff.mp K.inv.nd;rw[AR]at this;exact this.1
 have tl:=Kr K hl aB h hw aH w0 wn dB
 have kn:=Ua ls ls0 l p0 fB
 have ne:=Dr (q:=l)
 unfold G9 jh
 unfold e8 at *
 have hX:items (D.tup (ls.map T2))=some (ls.map T2):=rfl
 have am:(ls.map T2).length<=100000:=by rw[gV];omega
 generalize oo:D.tup (ls.map T2)=tT at tl hX⊢
 walk_at "dz"
 rw[hX]
 walk_at "dz"
 rw[ζ am,V4 (en:=T2) (bs:=fun o=>[T2 o]) (p:=fun o=>!decide (o=l)) (g:=fun o=>T2 o) ls (fun x _=>rfl) (fun o _=>by
  unfold jE;have:=ne o;walk_at "dz";rw[this];walk_at "dz") (fun o _ _=>by
  unfold jD;walk_at "dz")]
 simp only[R.bind_ok]
 obtain⟨kp,dM⟩:∃kp,kp=ls.filter fun o=>!decide (o=l):=⟨_,rfl⟩
 rw[<-dM]at kn⊢
 have oj:kp.length<=60:=by rw[dM];exact AA (CY _ _) hl
 rw[U2,show keeps true (D.lst (kp.map fun o=>T2 o))=true from Xx kp]
 walk_at "dz"
 rw[tl]
 walk_at "dz"
 rw[show D.lst [T2 w]=D.lst ([w].map T2) from rfl,Eo _ _ (by simp;omega)]
 obtain⟨xs,cb⟩:∃xs,xs=kp++[w]:=⟨_,rfl⟩
 have hx:xs.length<=61:=by rw[cb];simp;omega
 rw[<-cb]
 walk_at "dz"
 rw[sorted_T2 _ (by omega)]
 walk_at "dz"
 rw[V0 (show xs.Perm (ls0++[w]) by rw[cb];exact kn.append_right _)]
end
abbrev V8:DS->SR:=(sIf (fun ρ=>((g0 asB (eOp dEq (b7 0) (eC (.int 0)))) ρ).noE) (B0 (W0 knX v7 (b8 (b7 1) c7))) (sIf (fun ρ=>((g0 asB (eOp dEq (b7 0) (eC (.int 1)))) ρ).noE) (B0 (L9 knX o6 (p8 "TurnLine" (b8 (b7 1) c7)) (b8 (b7 2) c7))) (sIf (fun ρ=>((g0 asB (eOp dEq (b7 0) (eC (.int 2)))) ρ).noE) (B0 (L9 knX o4 (p8 "TurnLine" (b8 (b7 1) c7)) (b8 (b7 2) c7))) (B0 (L9 knX o6 (b7 1) (b8 (b7 2) c7))))))
abbrev hdR:HD:=(hAs S2 4 (e7 (i4 true 3 [false,false,false,false,true] (l8 (b8 (eUn (o8 O9) (b7 4)) (b8 (eUn (o8 O3) (b7 4)) (b8 (eUn (o8 O4) (b7 4)) c7)))))
 (e7 (N4 "list" E0 3 [false,false,false,false,true] (b8 (eUn (o8 M8) (b7 4)) c7))
 (N4 "list" E0 3 [false,false,false,false,true] (b8 (eUn (o8 M7) (b7 4)) c7)))) Pw)
theorem jV(h0:S2 cls=some true)(h1:O9 cls=some true)(h2:O3 cls=some a)(h3:O4 cls=some b)(h4:M8 cls=some false)(h5:M7 cls=some false)(k:Int)(th C:D) :
  hdR ⟨cls,[]⟩ [.im (.int k),.im th,.im C,.ow (.lst []),.em]=.nx [.im (.int k),.im th,.im C,.ow (.lst [.bl true,.bl a,.bl b,.bl false,.bl false]),.em]:=by
 unfold hdR hAs
 simp only[h0]
 walk_at "dz"
 rw[show o8 O9 (.exc cls [])=some (.bl true) by simp only[o8,h1,uZ],show o8 O3 (.exc cls [])=some (.bl a) by simp only[o8,h2,uZ],show o8 O4 (.exc cls [])=some (.bl b) by simp only[o8,h3,uZ]]
 walk_at "dz"
 rw[show o8 M8 (.exc cls [])=some (.bl false) by simp only[o8,h4,uZ]]
 walk_at "dz"
 rw[show ∀(x y z w:D),E0 (.lst [x,y,z]) [w]=some (.lst [x,y,z,w]) from fun _ _ _ _=>rfl]
 walk_at "dz"
 rw[show o8 M7 (.exc cls [])=some (.bl false) by simp only[o8,h5,uZ]]
 walk_at "dz"
 rw[show ∀(x y z u w:D),E0 (.lst [x,y,z,u]) [w]=some (.lst [x,y,z,u,w]) from fun _ _ _ _ _=>rfl]
 walk_at "dz"
 rfl
theorem Ej(hb:V8 [.im (.int k),.im th,.im C,.ow (.lst []),.em]=.er ⟨cls,[]⟩)
  (h:∀(k:Int)(th C:D),hdR ⟨cls,[]⟩ [.im (.int k),.im th,.im C,.ow (.lst []),.em]=.nx [.im (.int k),.im th,.im C,.ow (.lst [.bl true,.bl a,.bl b,.bl false,.bl false]),.em]) :
  J0 [.int k,th,C]=.ok (.lst [.bl true,.bl a,.bl b,.bl false,.bl false]):=by
 have s1:i4 true 3 [] (l8 c7) [.im (.int k),.im th,.im C,.em,.em]=.nx [.im (.int k),.im th,.im C,.ow (.lst []),.em]:=by walk_at "dz"
 have s2:An V8 hdR [.im (.int k),.im th,.im C,.ow (.lst []),.em]=.nx [.im (.int k),.im th,.im C,.ow (.lst [.bl true,.bl a,.bl b,.bl false,.bl false]),.em]:=by unfold An;rw[hb];exact h k th C
 unfold J0
 rw[X9,ζ (show [D.int k,th,C].length=3 from rfl)]
 show SR.out true (Os [.im (.int k),.im th,.im C,.em,.em])=_
 unfold Os
 rw[l9 s1,l9 s2]
 rfl
theorem y8v:∀(k:Int)(th C:D),hdR ⟨"NoDeed",[]⟩ [.im (.int k),.im th,.im C,.ow (.lst []),.em]=.nx [.im (.int k),.im th,.im C,.ow (.lst [.bl true,.bl true,.bl false,.bl false,.bl false]),.em]:=jV (by simp[S2]) (by simp[O9]) (by simp[O3]) (by simp[O4]) (by simp[M8]) (by simp[M7])
theorem Pm:∀(k:Int)(th C:D),hdR ⟨"NoLine",[]⟩ [.im (.int k),.im th,.im C,.ow (.lst []),.em]=.nx [.im (.int k),.im th,.im C,.ow (.lst [.bl true,.bl false,.bl true,.bl false,.bl false]),.em]:=jV (by simp[S2]) (by simp[O9]) (by simp[O3]) (by simp[O4]) (by simp[M8]) (by simp[M7])
theorem y8w(h:v7 [th]=.er ⟨"NoDeed",[]⟩):J0 [.int 0,th,C]=.ok (.lst [.bl true,.bl true,.bl false,.bl false,.bl false]):=by refine Ej ?_ y8v;unfold V8;walk_at "dz";simp only[W0];walk_at "dz";rw[h];rfl
theorem Hd{tb:String->Option (List D->R D)}{fo:DE->R D}{fs:DE->R (List D)}{ρ:DE}{c:String}{zs:List D}{g:List D->R D}{x:D}(h1:fo ρ=.ok (.obj c zs))(h2:fs ρ=.ok [x])(h3:tb c=some g)(h4:g [.obj c zs,x]=.er ⟨"NoLine",[]⟩):L9 knX tb fo fs ρ=.er ⟨"NoLine",[]⟩:=by unfold L9;rw[h1];simp only[R.noE,R.bind_ok,h3];rw[h2];simp only[R.noE,R.bind_ok,h4];rfl
section
variable {n:Nat}{ls:List P2}{p:P2}
theorem dno(h:p∉ls):K7 [.obj "TurnLine" [T2 p],e8 n ls]=.er ⟨"NoLine",[]⟩/\M6 [.obj "TurnLine" [T2 p],e8 n ls]=.er ⟨"NoLine",[]⟩:=by have z:=vO (n:=n) h (fo:=fun _=>.ok (.obj "TurnLine" [T2 p])) (fs:=fun _=>.ok [e8 n ls]) (ρ:=[]) rfl rfl;rw[K8 rfl rfl (show o6 "TurnLine"=some K7 by simp[o6]),K8 rfl rfl (show o4 "TurnLine"=some M6 by simp[o4])]at z;exact z
theorem y8x(h:p∉ls):J0 [.int 1,T2 p,e8 n ls]=.ok (.lst [.bl true,.bl false,.bl true,.bl false,.bl false]):=by refine Ej ?_ Pm;have z:=Hd (fo:=p8 "TurnLine" (b8 (b7 1) c7)) (fs:=b8 (b7 2) c7) (ρ:=[some (.int 1),some (T2 p),some (e8 n ls),some (.lst []),none]) (Dk p _ _ rfl) rfl (show o6 "TurnLine"=some K7 by simp[o6]) (dno h).1;unfold V8;generalize e8 n ls=C at *;generalize T2 p=q at *;walk_at "dz";rw[z];rfl
theorem y8y(h:p∉ls):J0 [.int 2,T2 p,e8 n ls]=.ok (.lst [.bl true,.bl false,.bl true,.bl false,.bl false]):=by refine Ej ?_ Pm;have z:=Hd (fo:=p8 "TurnLine" (b8 (b7 1) c7)) (fs:=b8 (b7 2) c7) (ρ:=[some (.int 2),some (T2 p),some (e8 n ls),some (.lst []),none]) (Dk p _ _ rfl) rfl (show o4 "TurnLine"=some M6 by simp[o4]) (dno h).2;unfold V8;generalize e8 n ls=C at *;generalize T2 p=q at *;walk_at "dz";rw[z];rfl
theorem y8z(h:p∉ls):J0 [.int 3,.obj "TurnLine" [T2 p],e8 n ls]=.ok (.lst [.bl true,.bl false,.bl true,.bl false,.bl false]):=by refine Ej ?_ Pm;have z:=Hd (fo:=b7 1) (fs:=b8 (b7 2) c7) (ρ:=[some (.int 3),some (.obj "TurnLine" [T2 p]),some (e8 n ls),some (.lst []),none]) rfl rfl (show o6 "TurnLine"=some K7 by simp[o6]) (dno h).1;unfold V8;generalize e8 n ls=C at *;generalize D.obj "TurnLine" [T2 p]=q at *;walk_at "dz";rw[z];rfl
end
def Gj(r:R D):Bool:=match r with | .er x=>decide (x.cls="NoDeed")&&x.fs.isEmpty |_=>false
theorem y1z(h:Gj r=true):r=.er ⟨"NoDeed",[]⟩:=by
 unfold Gj at h;split at h
 . rename_i x;obtain⟨c,fs⟩:=x;rw[oF,AW,List.isEmpty_iff]at h;obtain⟨h1,h2⟩:=h;simp only at h1 h2;rw[h1,h2]
 . cases h
theorem Dp(h:xs.length+ys.length<=100000):v8 (.lst xs) (.lst ys)=some (.lst (xs++ys)):=by simp only[v8];rw[ζ h]
theorem y20(h:ds.all P=true)(h0:0<=j)(h1:j<ds.length):∃d,dIx (.lst ds) (.int j)=some d/\P d=true:=by
 have hl:j.toNat<ds.length:=by omega
 refine⟨ds[j.toNat],?_,AS.mp h _ (List.getElem_mem hl)⟩;have:=Er (AH hl);rwa [CB h0]at this
def jU:PySem.Str:=PySem.Str.ofString "spin 1"++P1 (PySem.Str.ofString "0") 60
theorem m60:Aw (.str (PySem.Str.ofString "0")) (.int 60)=some (.str (P1 (PySem.Str.ofString "0") 60)):=by simp only[Aw];rw[ζ (by decide +kernel)]
theorem a60:k7 (.str (PySem.Str.ofString "spin 1")) (.str (P1 (PySem.Str.ofString "0") 60))=some (.str jU):=by simp only[k7];rw[ζ (by decide +kernel)];rfl
def TH:List D:=[.str "",.str "turn",.str "turn ",.str "spin",.str "spin ",.str "spin -0",.str "spin 05",.str "spin +5",.str "spin --5",.str "mirror ",.str " mirror",.str "turn 1-1",.str "turn 01-3",.str "turn 100-3",.str "turn 1 -3",.str "turn 1-3-5",.str "Turn 1-3",.str "turn 1--3",.str "spin 1.5",.str "mirror 1",.str jU,.str "spin",.str "turn -3",.str "turn 3-",.str "spin 5 ",.int 7,.non,.lst [.str "mirror"],.bl true]
theorem y21:TH.all (fun d=>Gj (v7 [d]))=true:=by decide +kernel
theorem xU(c:Int):∃d,Dc [.int c]=.ok d/\v7 [d]=.er ⟨"NoDeed",[]⟩:=by have j0:0<=c % 29:=BA _ (by decide);have j1:c % 29<29:=BE _ (by decide);obtain⟨d,e,hd⟩:=y20 (P:=fun d=>Gj (v7 [d])) (ds:=TH) y21 j0 j1;refine⟨d,?_,y1z hd⟩;unfold Dc jt;walk_at "dz";rw[Dp (by decide)];simp only[CC,DL];walk_at "dz";rw[m60];walk_at "dz";rw[a60];walk_at "dz";rw[Dp (by decide)];simp only[CC,DL];walk_at "dz";rw[Dp (by decide)];simp only[CC,DL];walk_at "dz";rw[y9 (by omega)];walk_at "dz";unfold TH at e;rw[e];walk_at "dz"
section
variable {n:Nat}{ls:List P2}
theorem qa(L6:List P2)(hl:L6.length=6)(h0:0<=j)(h1:j<6):∃p∈L6,dIx (.lst (L6.map T2)) (.int j)=some (T2 p):=by
 have hj:j.toNat<L6.length:=by omega
 refine⟨L6[j.toNat],List.getElem_mem hj,?_⟩;have:=Er (ds:=L6.map T2) (j:=j.toNat) (d:=T2 L6[j.toNat]) (by rw[AO,AH hj];rfl);rwa [CB h0]at this
theorem xT(O:Okc n ls)(aB:n<=60)(c:Int):∃p,p∉ls/\Da [e8 n ls,.int c]=.ok (T2 p):=by
 obtain⟨⟨T0,I0⟩,hs,am⟩:=id O;have n3:3<=n:=by have:=I0.n3;omega
 have hl:ls.length<=60:=by omega
 have hB:(0:Int)<10 ^ Int.toNat 30:=Int.pow_pos (by decide);have hp:=y1n;have m6:l4 (.int c) (.int 6)=some (.int (c % 6)):=y9 (by omega);have d6:E1 (.int c) (.int 6)=some (.int (c / 6)):=Az (by omega);have i6:0<=c % 6:=BA _ (by omega);have j6:c % 6<6:=BE _ (by omega);have mn:l4 (.int (c / 6)) (.int ((n:Int) - 1))=some (.int (c / 6 % ((n:Int) - 1))):=y9 (by omega);have t0:0<=c / 6 % ((n:Int) - 1):=BA _ (by omega);have hj:3<n->l4 (.int (c / 6)) (.int ((n:Int) - 3))=some (.int (c / 6 % ((n:Int) - 3))):=fun h=>y9 (by omega)
 have j0:3<n->0<=c / 6 % ((n:Int) - 3):=fun h=>BA _ (by omega)
 have j1:3<n->c / 6 % ((n:Int) - 3)<(n:Int) - 3:=fun h=>BE _ (by omega)
 unfold Da;rw[X9,ζ (show [e8 n ls,D.int c].length=2 from rfl)];show ∃p,p∉ls/\SR.out false (Ot [.im (e8 n ls),.im (.int c),.em,.em,.em,.em])=_;unfold Ot;generalize (10:Int) ^ Int.toNat 30=B at *;have mB:l4 (.int (c / 6)) (.int B)=some (.int (c / 6 % B)):=y9 (by omega);have b0:0<=c / 6 % B:=BA _ (by omega);generalize c / 6 % B=z at *;generalize c / 6 % ((n:Int) - 1)=a at *;by_cases hA:3<n/\2<c % 6
 . specialize hj hA.1;obtain⟨l,hm,ix⟩:=Ty hl (c / 6 % ((n:Int) - 3)) (j0 hA.1) (by have:=j1 hA.1;omega);obtain⟨w,ls0,T,T',K,p0,K',hw,hv,oq⟩:=Stp.turn' O hm;have lw:=K'.inv.lin w.1 w.2 (AE _ dg);have te:=Kr K hl aB hm hw (by omega) lw.1 (by omega) (Ku K.inv hm);have li:=I0.lin l.1 l.2 hm;obtain⟨p,gE,cy⟩:=qa [(a,a+1),(0,(n:Int) - 1),(a,a),(0,(n:Int)+z),(l.2,l.1),w] rfl i6 j6;refine⟨p,?_,?_⟩
   . simp only[gq,DG,or_false]at gE;rcases gE with rfl |rfl |rfl |rfl |rfl |rfl
     . exact Z3 I0 _ _ (by omega)
     . exact Z3 I0 _ _ (by omega)
     . exact Z3 I0 _ _ (by omega)
     . exact Z3 I0 _ _ (by omega)
     . exact Z3 I0 _ _ (by omega)
     . exact oq
   . have nq:=O0 l;simp only[io,AQ]at cy;generalize hR:T2 p=R0 at *;unfold e8 at *;have i0:dIx (T2 l) (.int 0)=some (.int l.1):=rfl;have i1:dIx (T2 l) (.int 1)=some (.int l.2):=rfl;generalize hq:T2 l=q at *;generalize tU:T2 w=q2 at *;simp only[T2]at cy;generalize D.tup (ls.map T2)=tl at *;walk_at "dz";rw[d6];walk_at "dz";rw[mn];walk_at "dz";rw[d6];walk_at "dz";rw[hp];walk_at "dz";rw[mB];walk_at "dz";rw[m6];walk_at "dz";rw[decide_eq_true (show(3:Int)<n by omega),decide_eq_true hA.2];walk_at "dz";rw[d6];walk_at "dz";rw[hj];walk_at "dz";rw[ix];walk_at "dz";rw[show keeps false q=true from nq];walk_at "dz";rw[show ∀x0 x1 x2 x3 x4 x5:D,dSl (.lst [x0,x1,x2,x3,x4,x5]) none (some 4)=some (.lst [x0,x1,x2,x3]) from fun _ _ _ _ _ _=>rfl];walk_at "dz";rw[i1];walk_at "dz";rw[i0];walk_at "dz";rw[te];walk_at "dz";have tV:q2.noL=true:=by rw[<-tU];exact O0 w
     rw[Dp (by simp)];simp only[CC,DL];walk_at "dz";rw[tV];walk_at "dz";rw[m6];walk_at "dz";rw[cy];walk_at "dz"
 . obtain⟨p,gE,cy⟩:=qa [(a,a+1),(0,(n:Int) - 1),(a,a),(0,(n:Int)+z),(a+1,a),((n:Int) - 1,0)] rfl i6 j6;refine⟨p,?_,?_⟩
   . simp only[gq,DG,or_false]at gE;rcases gE with rfl |rfl |rfl |rfl |rfl |rfl<;>exact Z3 I0 _ _ (by omega)
   . simp only[io,AQ]at cy;generalize hR:T2 p=R0 at *;simp only[T2]at cy;unfold e8;generalize D.tup (ls.map T2)=tl at *;walk_at "dz";rw[d6];walk_at "dz";rw[mn];walk_at "dz";rw[d6];walk_at "dz";rw[hp];walk_at "dz";rw[mB];walk_at "dz";rw[m6];walk_at "dz";by_cases h3:(3:Int)<n
     . rw[decide_eq_true h3,decide_eq_false (fun e=>hA ⟨by omega,e⟩)];walk_at "dz";rw[m6];walk_at "dz";rw[cy];walk_at "dz"
     . rw[decide_eq_false h3];walk_at "dz";rw[cy];walk_at "dz"
end
section
variable {n:Nat}{ls:List P2}{l:P2}
structure Tf(n:Nat)(ls:List P2)(l w:P2)(ls':List P2):Prop where
 S:Stp n ls (.obj "TurnLine" [T2 l]) ls'
 S':Stp n ls' (.obj "TurnLine" [T2 w]) ls
 tu:G9 [e8 n ls,T2 l]=.ok (e8 n ls')
 tl:P0 [e8 n ls,T2 l]=.ok (T2 w)
 bk:∀(fo:DE->R D)(fs:DE->R (List D))(ρ:DE),fo ρ=.ok (.obj "TurnLine" [T2 l])->fs ρ=.ok [e8 n ls]->m9 o4 fo fs ρ=.ok (.obj "TurnLine" [T2 w])
 fl:0<=l.1/\l.1<l.2/\l.2<n
 fw:0<=w.1/\w.1<w.2/\w.2<n
 kp:∀o∈ls,o≠l->o∈ls'
theorem Do(O:Okc n ls)(aB:n<=60)(hm:l∈ls):∃w ls',Tf n ls l w ls':=by
 have hl:ls.length<=60:=by have:=O.2.2;omega
 obtain⟨⟨T0,I0⟩,hs,_⟩:=id O;obtain⟨w,ls0,T,T',K,p0,K',hw,hv,oq⟩:=Stp.turn' O hm;have lw:=K'.inv.lin w.1 w.2 (AE _ dg);have li:=I0.lin l.1 l.2 hm;have te:=Vx K (.refl _) hl hm p0 hw;have pw:(so2 (ls0++[w])).Perm (w::ls0):=(G3 _).trans (EH _ _);have pl:(ls0++[l]).Perm ls:=(EH _ _).trans p0.symm;have e:so2 (ls0++[l])=ls:=by rw[V0 pl,hs]
 have S':=Stp.turn (n:=n) (T:=T') (T':=T) (K'.inv.perm (G3 _)).cut (pw.mem_iff.mpr dg) pw (K.inv.perm pl).cut hv hw;rw[e]at S';have tu:=za K hl aB hm p0 hw (by omega) lw.1 (by omega) (Ku K.inv hm);have tl:=Kr K hl aB hm hw (by omega) lw.1 (by omega) (Ku K.inv hm);have S:=Stp.turn (n:=n) K hm p0 K' hw hv;refine⟨w,so2 (ls0++[w]),?_⟩;constructor
 . with_reducible exact S
 . with_reducible exact S'
 . with_reducible exact tu
 . with_reducible exact tl
 . intro fo fs ρ h1 h2;rw[K8 h1 h2 (show o4 "TurnLine"=some M6 by simp[o4])];unfold M6 Pc;generalize hq:T2 l=q at *;unfold e8;generalize D.tup (ls.map T2)=tT at *;walk_at "dz";rw[Dk w _ _ (by walk_at "dz";rw[<-hq,Q1,hq];walk_at "dz";rw[te];walk_at "dz")];walk_at "dz"
 . omega
 . omega
 . intro o ho aA;refine pw.mem_iff.mpr (bI _ ?_);exact(gq.mp (p0.mem_iff.mp ho)).resolve_left aA
end
theorem Di(h:D9 p):k7 (.str (PySem.Str.ofString "turn ")) (.str (ti p.1))=some (.str (PySem.Str.ofString "turn "++ti p.1))/\k7 (.str (PySem.Str.ofString "turn "++ti p.1)) (.str (PySem.Str.ofString "-"))=some (.str (PySem.Str.ofString "turn "++ti p.1++PySem.Str.ofString "-"))/\k7 (.str (PySem.Str.ofString "turn "++ti p.1++PySem.Str.ofString "-")) (.str (ti p.2))=some (.str (tw p)):=by have a:=h.1.len;have b:=h.2.len;refine⟨Bl ?_,Bl ?_,Bl ?_⟩<;>simp only[AI,Pp,y8r]<;>omega
theorem Pl(h:D9 p)(fo:DE->R D)(ρ:DE)(h1:fo ρ=.ok (.obj "TurnLine" [T2 p])):m9 D6 fo c7 ρ=.ok (.str (tw p)):=by rw[Pn h1 (show D6 "TurnLine"=some Am by simp[D6]),y5v h]
theorem Pk(p:P2):dNe (T2 p) (T2 p)=some (.bl false):=by rw[Dr];simp
section
variable {n:Nat}{ls:List P2}
theorem y24(O:Okc n ls)(aB:n<=60)(c:Int):Df [e8 n ls,.int c]=.ok (.bl true):=by
 obtain⟨⟨T0,I0⟩,hs,am⟩:=id O;have n3:3<=n:=by have:=I0.n3;omega
 have hl:ls.length<=60:=by omega
 have m1:l4 (.int c) (.int 100)=some (.int (c % 100)):=y9 (by omega);have d1:E1 (.int c) (.int 100)=some (.int (c / 100)):=Az (by omega);have m2:l4 (.int (c / 100)) (.int 99)=some (.int (c / 100 % 99)):=y9 (by omega);have a0:0<=c % 100:=BA _ (by omega);have a1:c % 100<100:=BE _ (by omega);have b0:0<=c / 100 % 99:=BA _ (by omega);have b1:c / 100 % 99<99:=BE _ (by omega);generalize c % 100=a at *;generalize c / 100 % 99=b at *;unfold Df jC;have c1:dIx (e8 n ls) (.int 1)=some (.tup (ls.map T2)):=rfl;have rf:=fun q=>y8z (n:=n) (ls:=ls) (p:=q)
 have dt:=fun (q:P2)(h:q∈ls)(fo:DE->R D)(fs:DE->R (List D))(ρ:DE)(h1:fo ρ=.ok (.obj "TurnLine" [T2 q]))(h2:fs ρ=.ok [e8 n ls])=>(show ∃d,m9 o6 fo fs ρ=.ok d/\G9 [e8 n ls,T2 q]=.ok d/\dEq d d=some (.bl true) by obtain⟨w,ls',F⟩:=Do O aB h;exact⟨_,Jq F.S O aB h1 h2,F.tu,(neC n ls').2⟩)
 generalize hC:e8 n ls=C at *;walk_at "dz";rw[m1];walk_at "dz";rw[d1];walk_at "dz";rw[m2];walk_at "dz";obtain⟨e,he⟩:∃e,e=b+if decide (a<=b)=true then 1 else 0:=⟨_,rfl⟩
 have tW:0<=e/\e<=99/\a≠e:=by
  by_cases h:a<=b
  . rw[decide_eq_true h,ζ rfl]at he;omega
  . rw[decide_eq_false h,ξ θ]at he;omega
 rw[<-he];obtain⟨e0,e1,e2⟩:=tW;have fa:D9 (a,e):=⟨fit a0 (by show a<=99;omega),fit e0 e1⟩;obtain⟨q,hq⟩:∃q,q=nr (a,e):=⟨_,rfl⟩;have ou:(q=(a,e)/\a<e)\/(q=(e,a)/\e<a):=by
  rw[hq];unfold nr;by_cases h:a<e
  . exact .inl ⟨ζ h,h⟩
  . exact .inr ⟨ξ h,by omega⟩
 have tq:D.tup [D.int (if e<a then e else a),D.int (if e > a then e else a)]=T2 q:=by
  rcases ou with⟨h,h1⟩ |⟨h,h1⟩
  . rw[h,ξ (by omega),ζ h1];rfl
  . rw[h,ζ h1,ξ (by omega)];rfl
 have fq:D9 q:=by
  rcases ou with⟨h,h1⟩ |⟨h,h1⟩
  . rw[h];exact fa
  . rw[h];exact⟨fa.2,fa.1⟩
 rw[tq];have rt:=Kt fa e2;rw[<-hq]at rt;obtain⟨x1,x2,x3⟩:=Di fa;obtain⟨y1,y2,y3⟩:=Di fq;have s1:=Q0 fa.1;have s2:=Q0 fa.2;have s3:=Q0 fq.1;have s4:=Q0 fq.2;have kt:=Ar [T2 q];have fl:=Q1 q;have nt:=Pk q;have i0:dIx (T2 q) (.int 0)=some (.int q.1):=rfl;have i1:dIx (T2 q) (.int 1)=some (.int q.2):=rfl;have sh:=Pl fq (b7 5) [some C,some (.int c),some (.int a),some (.int e),some (T2 q),some (.obj "TurnLine" [T2 q])] rfl;have inn:=Ep q ls;specialize rf q;specialize dt q;simp only at x1 x2 x3 s1 s2;generalize hT:T2 q=lK at *;rw[s1];walk_at "dz";rw[x1];walk_at "dz";rw[x2];walk_at "dz";rw[s2];walk_at "dz";rw[x3];walk_at "dz";rw[rt];walk_at "dz";rw[show keeps false (D.obj "TurnLine" [lK])=true from rfl];walk_at "dz";rw[kt];walk_at "dz";rw[neS];walk_at "dz";rw[fl];walk_at "dz";rw[nt];walk_at "dz";rw[sh];walk_at "dz";rw[i0];walk_at "dz";rw[s3];walk_at "dz";rw[y1];walk_at "dz";rw[y2];walk_at "dz";rw[i1];walk_at "dz";rw[s4];walk_at "dz";rw[y3];walk_at "dz";rw[neS];walk_at "dz";rw[c1];walk_at "dz";rw[inn];walk_at "dz";by_cases hm:q∈ls
 . rw[decide_eq_true hm];obtain⟨d,g1,g2,g3⟩:=dt hm (b7 5) (b8 (b7 0) c7) [some C,some (.int c),some (.int a),some (.int e),some lK,some (.obj "TurnLine" [lK])] rfl rfl;walk_at "dz";rw[g1];walk_at "dz";rw[g2];walk_at "dz";rw[g3];walk_at "dz"
 . rw[decide_eq_false hm];walk_at "dz";rw[rf hm];walk_at "dz";rw[show dEq (.lst [.bl true,.bl false,.bl true,.bl false,.bl false]) (.lst [.bl true,.bl false,.bl true,.bl false,.bl false])=some (.bl true) by unfold dEq;rw[ζ ⟨rfl,rfl,by simp[D.dep,j9]⟩,R7 _ rfl]];walk_at "dz"
end
abbrev tu0:DS->SR:=(i4 false 2 [true,true] (e9 P0 (b8 (b7 0) (b8 (b7 1) c7))))
abbrev tu1:DS->SR:=(i4 false 3 [true,true] (e9 G9 (b8 (b7 0) (b8 (b7 1) c7))))
abbrev tu2:DS->SR:=(i4 false 4 [false,true] (eOp k7 (eOp k7 (eOp k7 (eC (.str "turn ")) (eCB m5 (b8 (eOp dIx (b7 1) (eC (.int 0))) c7))) (eC (.str "-"))) (eCB m5 (b8 (eOp dIx (b7 1) (eC (.int 1))) c7))))
abbrev tu3:DS->SR:=(i4 false 5 [false,true] (p8 "TurnLine" (b8 (b7 1) c7)))
abbrev tu4:DS->SR:=(sIf (bOr (t8 (g0 m7 (e9 r6 (b8 (b7 5) (b8 (eC (.str "turn")) (b8 (b7 0) (b8 (b7 3) (b8 (b7 4) c7)))))))) (g0 asB (eOp dNe (eUn (o7 "line" ["TurnLine"]) (b7 5)) (b7 1)))) (g9 [] (eC (.bl false))) sNx)
abbrev tu5:DS->SR:=(T4 false [true,true,false,false,false,false,true] (iL (eSl dSl (p9 (iL (eOp dIx (b7 0) (eC (.int 1)))) b1 [1] Pg Pf) oNo (oSo (eC (.int 2))))) (.n 6) Dh)
abbrev tu6:DS->SR:=(i4 false 8 [true,false,false,false,false,true] (m9 o4 (b7 5) (b8 (b7 0) c7)))
abbrev tu7:DS->SR:=(sIf (bOr (g0 asB (eOp dNe (e9 C8 (b8 (b7 8) c7)) (eC (.str "turn")))) (g0 asB (eOp dNe (eUn (o7 "line" ["TurnLine"]) (b7 8)) (b7 2)))) (g9 [] (eC (.bl false))) sNx)
abbrev tu8:DS->SR:=(sIf (t8 (g0 m7 (e9 r6 (b8 (b7 8) (b8 (eC (.str "turn")) (b8 (b7 3) (b8 (b7 0) (b8 (eOp k7 (eOp k7 (eOp k7 (eC (.str "turn ")) (eCB m5 (b8 (eOp dIx (b7 2) (eC (.int 0))) c7))) (eC (.str "-"))) (eCB m5 (b8 (eOp dIx (b7 2) (eC (.int 1))) c7))) c7)))))))) (g9 [] (eC (.bl false))) sNx)
abbrev tu9:DS->SR:=(i4 false 9 [false,true] (e9 v7 (b8 (eOp k7 (eOp k7 (eOp k7 (eC (.str "turn ")) (eCB m5 (b8 (eOp dIx (b7 1) (eC (.int 1))) c7))) (eC (.str "-"))) (eCB m5 (b8 (eOp dIx (b7 1) (eC (.int 0))) c7))) c7)))
abbrev Pj:DS->SR:=(i4 false 10 [false,false,false,false,true] (e9 v7 (b8 (b7 4) c7)))
abbrev Pi:DS->SR:=(sIf (bOr (g0 asB (eOp dNe (e9 C8 (b8 (b7 9) c7)) (eC (.str "turn")))) (bOr (g0 asB (eOp dNe (eUn (o7 "line" ["TurnLine"]) (b7 9)) (b7 1))) (bOr (g0 asB (eOp dNe (e9 C8 (b8 (b7 10) c7)) (eC (.str "turn")))) (g0 asB (eOp dNe (eUn (o7 "line" ["TurnLine"]) (b7 10)) (b7 1)))))) (g9 [] (eC (.bl false))) sNx)
abbrev jT:DS->SR:=(g9 [true,false,false,true,true,false,false,false,false,true,true] (E3 (e9 r6 (b8 (b7 9) (b8 (eC (.str "turn")) (b8 (b7 0) (b8 (b7 3) (b8 (b7 4) c7)))))) (e9 r6 (b8 (b7 10) (b8 (eC (.str "turn")) (b8 (b7 0) (b8 (b7 3) (b8 (b7 4) c7))))))))
abbrev sp0:DS->SR:=(i4 false 2 [true,true] (e9 S1 (b8 (b7 0) (b8 (b7 1) (b8 (eC (.int 1)) c7)))))
abbrev sp1:DS->SR:=(i4 false 3 [false,true] (p8 "Spin" (b8 (b7 1) c7)))
abbrev sp2:DS->SR:=(sIf (bOr (t8 (g0 m7 (e9 r6 (b8 (b7 3) (b8 (eC (.str "spin")) (b8 (b7 0) (b8 (b7 2) (b8 (eOp k7 (eC (.str "spin ")) (eCB m5 (b8 (b7 1) c7))) c7)))))))) (g0 asB (eOp dNe (eUn (o7 "by" ["Spin"]) (b7 3)) (b7 1)))) (g9 [] (eC (.bl false))) sNx)
abbrev sp3:DS->SR:=(i4 false 4 [true,false,false,true] (m9 o4 (b7 3) (b8 (b7 0) c7)))
abbrev sp4:DS->SR:=(sIf (bOr (t8 (g0 m7 (e9 r6 (b8 (b7 4) (b8 (eC (.str "spin")) (b8 (b7 2) (b8 (b7 0) (b8 (eOp k7 (eC (.str "spin ")) (eCB m5 (b8 (eUn J7 (b7 1)) c7))) c7)))))))) (g0 asB (eOp dNe (eUn (o7 "by" ["Spin"]) (b7 4)) (eUn J7 (b7 1))))) (g9 [] (eC (.bl false))) sNx)
abbrev sp5:DS->SR:=(i4 false 5 [false,true] (e9 v7 (b8 (eOp k7 (eC (.str "spin ")) (eCB m5 (b8 (b7 1) c7))) c7)))
abbrev sp6:DS->SR:=(g9 [true,true,true,false,false,true] (E3 (e9 r6 (b8 (b7 5) (b8 (eC (.str "spin")) (b8 (b7 0) (b8 (b7 2) (b8 (eOp k7 (eC (.str "spin ")) (eCB m5 (b8 (b7 1) c7))) c7)))))) (eOp dEq (eUn (o7 "by" ["Spin"]) (b7 5)) (b7 1))))
section
variable {n:Nat}{ls:List P2}{l:P2}
theorem jS{p:P2}(h:0<=p.1/\p.1<p.2/\p.2<n)(aB:n<=60):D9 p:=⟨fit h.1 (by omega),fit (by omega) (by omega)⟩
theorem kZ(h:p.1<p.2):nr p=p/\nr (p.2,p.1)=p:=by unfold nr;exact⟨ζ h,ξ (by simp;omega)⟩
theorem y26{w:P2}{ls':List P2}(O:Okc n ls)(aB:n<=60)(hm:l∈ls)(tu:G9 [e8 n ls,T2 l]=.ok (e8 n ls'))(fl:0<=l.1/\l.1<l.2/\l.2<n):∃gF gG,tu5 [.im (e8 n ls),.im (T2 l),.im (T2 w),.im (e8 n ls'),.im (.str (tw l)),.im (.obj "TurnLine" [T2 l]),.em,.em,.em,.em,.em]=.nx [.im (e8 n ls),.im (T2 l),.im (T2 w),.im (e8 n ls'),.im (.str (tw l)),.im (.obj "TurnLine" [T2 l]),gF,gG,.em,.em,.em]:=by
 have hl:ls.length<=60:=by have:=O.2.2;omega
 have ne:=Dr (q:=l);have c1:dIx (e8 n ls) (.int 1)=some (.tup (ls.map T2)):=rfl;have hX:items (D.tup (ls.map T2))=some (ls.map T2):=rfl;obtain⟨kp,dM⟩:∃kp,kp=(ls.filter fun o=>!decide (o=l)):=⟨_,rfl⟩;have oj:kp.length<=60:=by rw[dM];exact AA (CY _ _) hl
 have gm:dSl (.lst (kp.map T2)) none (some 2)=some (.lst ((kp.take 2).map T2)):=by simp only[dSl,y4,HT.sIx];rw[ξ (by decide),Nat.sub_zero,List.drop_zero,List.map_take,show Int.toNat 2=2 from rfl,show List.take (min 2 (kp.map T2).length) (kp.map T2)=List.take 2 (kp.map T2) from List.take_eq_take_iff.mpr (by omega)]
 have fc:∀o∈kp.take 2,o∈ls/\o≠l:=fun o ho=>by have:=List.mem_of_mem_take ho;rw[dM,AK]at this;simpa using this
 have bd:∀o∈kp.take 2,∀s6 s7:Sl,∃gF gG,Dh [.im (e8 n ls),.im (T2 l),.im (T2 w),.im (e8 n ls'),.im (.str (tw l)),.im (.obj "TurnLine" [T2 l]),.im (T2 o),s7,.em,.em,.em]=.nx [.im (e8 n ls),.im (T2 l),.im (T2 w),.im (e8 n ls'),.im (.str (tw l)),.im (.obj "TurnLine" [T2 l]),gF,gG,.em,.em,.em]:=by intro o ho s6 s7;obtain⟨h1,h2⟩:=fc o ho;obtain⟨w1,lo,G⟩:=Do O aB h1;have Oo:=G.S.ok O;obtain⟨w2,ox,G2⟩:=Do Oo aB (G.kp l hm (BX h2));have t1:=G.tu;have t2:=G2.tu;have nl:=Bu n lo;have nc:=(neC n ox).1;refine⟨.im (T2 o),.im (e8 n lo),?_⟩;have dn:=Jq (fo:=b7 5) (fs:=b8 (b7 7) c7) (ρ:=[some (e8 n ls),some (T2 l),some (T2 w),some (e8 n ls'),some (.str (tw l)),some (.obj "TurnLine" [T2 l]),some (T2 o),some (e8 n lo),none,none,none]) G2.S Oo aB rfl rfl;unfold Dh;generalize e8 n ox=C2 at *;generalize e8 n lo=C1 at *;generalize e8 n ls=C at *;generalize e8 n ls'=C' at *;generalize T2 o=q1 at *;generalize T2 l=q at *;generalize T2 w=v at *;walk_at "dz";rw[t1];walk_at "dz";rw[show keeps false C1=true from nl];walk_at "dz";rw[dn];walk_at "dz";rw[t2];walk_at "dz";rw[nc];walk_at "dz"
 obtain⟨aI,e,_,s6,s7,hr⟩:=Lx (tg:=.n 6) (g:=Dh) (en:=T2)
  (fun r ρ=>(∀o∈r,o∈kp.take 2)/\∃s6 s7:Sl,ρ=[.im (e8 n ls),.im (T2 l),.im (T2 w),.im (e8 n ls'),.im (.str (tw l)),.im (.obj "TurnLine" [T2 l]),s6,s7,.em,.em,.em])
  (kp.take 2) [.im (e8 n ls),.im (T2 l),.im (T2 w),.im (e8 n ls'),.im (.str (tw l)),.im (.obj "TurnLine" [T2 l]),.em,.em,.em,.em,.em] ⟨fun _ h=>h,.em,.em,rfl⟩ (by rintro x r ρ ⟨hx,s6,s7,rfl⟩;obtain⟨gF,gG,e⟩:=bd x (hx x dg) s6 s7;exact⟨_,_,rfl,Or.inl e,fun o ho=>hx o (bI _ ho),gF,gG,rfl⟩)
 refine⟨s6,s7,?_⟩;rw[<-hr];unfold tu5;generalize e8 n ls=C at *;generalize e8 n ls'=C' at *;generalize T2 w=v at *;generalize oo:D.tup (ls.map T2)=tl at *;walk_at "dz";rw[c1];walk_at "dz";rw[hX];walk_at "dz";rw[ζ (by rw[gV];omega),V4 (en:=T2) (bs:=fun o=>[T2 o]) (p:=fun o=>!decide (o=l)) (g:=fun o=>T2 o) ls (fun x _=>rfl) (fun o _=>by
  unfold Pg;have:=ne o;walk_at "dz";rw[this];walk_at "dz") (fun o _ _=>by
  unfold Pf;walk_at "dz"),<-dM]
 walk_at "dz";rw[show(kp.map fun o=>T2 o)=kp.map T2 from rfl,gm];walk_at "dz";exact e
theorem yZ(O:Okc n ls)(aB:n<=60)(hm:l∈ls):Ai [e8 n ls,T2 l]=.ok (.bl true):=by
 obtain⟨w,ls',F⟩:=Do O aB hm;have hl:ls.length<=60:=by have:=O.2.2;omega
 have O':=F.S.ok O;have fl:=jS F.fl aB;have fw:=jS F.fw aB;have eF:=Z2 F.S O aB (Ar _) (Pl fl);have gH:=Z2 F.S' O' aB (Ar _) (Pl fw);have rl:=Kt fl (by have:=F.fl;omega);have fr:D9 (l.2,l.1):=⟨fl.2,fl.1⟩;have rr:=Kt fr (by have:=F.fl;show l.2≠l.1;omega);rw[(kZ F.fl.2.1).1]at rl;rw[(kZ F.fl.2.1).2]at rr;obtain⟨x1,x2,x3⟩:=Di fl;obtain⟨y1,y2,y3⟩:=Di fw;obtain⟨z1,z2,z3⟩:=Di fr;have oy:=Q0 fl.1;have dD:=Q0 fl.2;have tX:=Q0 fw.1;have tY:=Q0 fw.2;have tl:=F.tl;have tu:=F.tu;have bk:=F.bk;have nC:=Bu n ls';have nW:=O0 w;have nl:=Pk l;have nw:=Pk w;have f1:=Q1 l;have f2:=Q1 w;have k1:=Ar [T2 l];have k2:=Ar [T2 w];have mk:=Dk l;have oz:dIx (T2 l) (.int 0)=some (.int l.1):=rfl;have oA:dIx (T2 l) (.int 1)=some (.int l.2):=rfl;have tZ:dIx (T2 w) (.int 0)=some (.int w.1):=rfl;have ub:dIx (T2 w) (.int 1)=some (.int w.2):=rfl;have lp:=y26 (w:=w) O aB hm F.tu F.fl;unfold Ai;rw[X9,ζ (show [e8 n ls,T2 l].length=2 from rfl)];show SR.out false (e7 tu0 (e7 tu1 (e7 tu2 (e7 tu3 (e7 tu4 (e7 tu5 (e7 tu6 (e7 tu7 (e7 tu8 (e7 tu9 (e7 Pj (e7 Pi jT))))))))))) [.im (e8 n ls),.im (T2 l),.em,.em,.em,.em,.em,.em,.em,.em,.em])=_;clear O O' F fl fw fr;generalize hC:e8 n ls=C at *;generalize gX:e8 n ls'=C' at *;generalize hq:T2 l=q at *;generalize hv:T2 w=v at *;have a0:tu0 [.im C,.im q,.em,.em,.em,.em,.em,.em,.em,.em,.em]=.nx [.im C,.im q,.im v,.em,.em,.em,.em,.em,.em,.em,.em]:=by unfold tu0;walk_at "dz";rw[tl];walk_at "dz";rw[show keeps false v=true from nW];walk_at "dz"
 rw[l9 a0];have a1:tu1 [.im C,.im q,.im v,.em,.em,.em,.em,.em,.em,.em,.em]=.nx [.im C,.im q,.im v,.im C',.em,.em,.em,.em,.em,.em,.em]:=by unfold tu1;walk_at "dz";rw[tu];walk_at "dz";rw[show keeps false C'=true from nC];walk_at "dz"
 rw[l9 a1];have a2:tu2 [.im C,.im q,.im v,.im C',.em,.em,.em,.em,.em,.em,.em]=.nx [.im C,.im q,.im v,.im C',.im (.str (tw l)),.em,.em,.em,.em,.em,.em]:=by unfold tu2;walk_at "dz";rw[oz];walk_at "dz";rw[oy];walk_at "dz";rw[x1];walk_at "dz";rw[x2];walk_at "dz";rw[oA];walk_at "dz";rw[dD];walk_at "dz";rw[x3];walk_at "dz"
 rw[l9 a2];have a3:tu3 [.im C,.im q,.im v,.im C',.im (.str (tw l)),.em,.em,.em,.em,.em,.em]=.nx [.im C,.im q,.im v,.im C',.im (.str (tw l)),.im (.obj "TurnLine" [q]),.em,.em,.em,.em,.em]:=by unfold tu3;walk_at "dz";rw[mk _ _ rfl];walk_at "dz";rw[show keeps false (D.obj "TurnLine" [q])=true from rfl];walk_at "dz"
 rw[l9 a3];have a4:tu4 [.im C,.im q,.im v,.im C',.im (.str (tw l)),.im (.obj "TurnLine" [q]),.em,.em,.em,.em,.em]=.nx [.im C,.im q,.im v,.im C',.im (.str (tw l)),.im (.obj "TurnLine" [q]),.em,.em,.em,.em,.em]:=by unfold tu4;walk_at "dz";rw[eF];walk_at "dz";rw[f1];walk_at "dz";rw[nl];walk_at "dz"
 rw[l9 a4];obtain⟨s6,s7,a5⟩:=lp;rw[l9 a5];have a6:tu6 [.im C,.im q,.im v,.im C',.im (.str (tw l)),.im (.obj "TurnLine" [q]),s6,s7,.em,.em,.em]=.nx [.im C,.im q,.im v,.im C',.im (.str (tw l)),.im (.obj "TurnLine" [q]),s6,s7,.im (.obj "TurnLine" [v]),.em,.em]:=by unfold tu6;walk_at "dz";rw[bk _ _ _ rfl rfl];walk_at "dz";rw[show keeps false (D.obj "TurnLine" [v])=true from rfl];walk_at "dz"
 rw[l9 a6];have a7:tu7 [.im C,.im q,.im v,.im C',.im (.str (tw l)),.im (.obj "TurnLine" [q]),s6,s7,.im (.obj "TurnLine" [v]),.em,.em]=.nx [.im C,.im q,.im v,.im C',.im (.str (tw l)),.im (.obj "TurnLine" [q]),s6,s7,.im (.obj "TurnLine" [v]),.em,.em]:=by unfold tu7;walk_at "dz";rw[k2];walk_at "dz";rw[neS];walk_at "dz";rw[f2];walk_at "dz";rw[nw];walk_at "dz"
 rw[l9 a7];have a8:tu8 [.im C,.im q,.im v,.im C',.im (.str (tw l)),.im (.obj "TurnLine" [q]),s6,s7,.im (.obj "TurnLine" [v]),.em,.em]=.nx [.im C,.im q,.im v,.im C',.im (.str (tw l)),.im (.obj "TurnLine" [q]),s6,s7,.im (.obj "TurnLine" [v]),.em,.em]:=by unfold tu8;walk_at "dz";rw[tZ];walk_at "dz";rw[tX];walk_at "dz";rw[y1];walk_at "dz";rw[y2];walk_at "dz";rw[ub];walk_at "dz";rw[tY];walk_at "dz";rw[y3];walk_at "dz";rw[gH];walk_at "dz"
 rw[l9 a8];have a9:tu9 [.im C,.im q,.im v,.im C',.im (.str (tw l)),.im (.obj "TurnLine" [q]),s6,s7,.im (.obj "TurnLine" [v]),.em,.em]=.nx [.im C,.im q,.im v,.im C',.im (.str (tw l)),.im (.obj "TurnLine" [q]),s6,s7,.im (.obj "TurnLine" [v]),.im (.obj "TurnLine" [q]),.em]:=by unfold tu9;walk_at "dz";rw[oA];walk_at "dz";rw[dD];walk_at "dz";rw[z1];walk_at "dz";rw[z2];walk_at "dz";rw[oz];walk_at "dz";rw[oy];walk_at "dz";rw[z3];walk_at "dz";rw[rr];walk_at "dz";rw[show keeps false (D.obj "TurnLine" [q])=true from rfl];walk_at "dz"
 rw[l9 a9];have uc:Pj [.im C,.im q,.im v,.im C',.im (.str (tw l)),.im (.obj "TurnLine" [q]),s6,s7,.im (.obj "TurnLine" [v]),.im (.obj "TurnLine" [q]),.em]=.nx [.im C,.im q,.im v,.im C',.im (.str (tw l)),.im (.obj "TurnLine" [q]),s6,s7,.im (.obj "TurnLine" [v]),.im (.obj "TurnLine" [q]),.im (.obj "TurnLine" [q])]:=by unfold Pj;walk_at "dz";rw[rl];walk_at "dz";rw[show keeps false (D.obj "TurnLine" [q])=true from rfl];walk_at "dz"
 rw[l9 uc];have ud:Pi [.im C,.im q,.im v,.im C',.im (.str (tw l)),.im (.obj "TurnLine" [q]),s6,s7,.im (.obj "TurnLine" [v]),.im (.obj "TurnLine" [q]),.im (.obj "TurnLine" [q])]=.nx [.im C,.im q,.im v,.im C',.im (.str (tw l)),.im (.obj "TurnLine" [q]),s6,s7,.im (.obj "TurnLine" [v]),.im (.obj "TurnLine" [q]),.im (.obj "TurnLine" [q])]:=by unfold Pi;walk_at "dz";rw[k1];walk_at "dz";rw[neS];walk_at "dz";rw[f1];walk_at "dz";rw[nl];walk_at "dz"
 rw[l9 ud];unfold jT;walk_at "dz";rw[eF];walk_at "dz"
end
section
variable {n:Nat}{ls:List P2}
theorem y63(O:Okc n ls)(b:Int):(∀(fo:DE->R D)(fs:DE->R (List D))(ρ:DE),fo ρ=.ok (.obj "Spin" [.int b])->fs ρ=.ok [e8 n ls]->m9 o4 fo fs ρ=.ok (.obj "Spin" [.int (-b)]))/\Stp n (imL (fun x=>(x+b) % (n:Int)) ls) (.obj "Spin" [.int (-b)]) ls:=by
 obtain⟨⟨T0,I0⟩,hs,_⟩:=id O;refine⟨fun fo fs ρ h1 h2=>?_,?_⟩
 . rw[K8 h1 h2 (show o4 "Spin"=some Cr by simp[o4])];unfold Cr Zi e8;generalize D.tup (ls.map T2)=tl at *;walk_at "dz";rw[Pr (-b) _ _ (by walk_at "dz";rw[As];walk_at "dz")];walk_at "dz"
 . have:=Stp.spin (n:=n) (imL (fun x=>(x+b) % (n:Int)) ls) (-b);have e:imL (fun x=>(x+-b) % (n:Int)) (imL (fun x=>(x+b) % (n:Int)) ls)=ls:=by rw[Uh,Rw (f:=fun x=>((x+b) % (n:Int)+-b) % (n:Int)) I0.inn (fun x h0 h1=>by rw[Int.emod_add_emod,Int.add_assoc,Int.add_right_neg,Int.add_zero,AU h0 h1]),hs]
   rw[e]at this;exact this
theorem y64(O:Okc n ls):(∀(fo:DE->R D)(fs:DE->R (List D))(ρ:DE),fo ρ=.ok (.obj "Mirror" [])->fs ρ=.ok [e8 n ls]->m9 o4 fo fs ρ=.ok (.obj "Mirror" []))/\Stp n (imL (fun x=>((n:Int) - x) % (n:Int)) ls) (.obj "Mirror" []) ls:=by
 obtain⟨⟨T0,I0⟩,hs,_⟩:=id O;refine⟨fun fo fs ρ h1 h2=>?_,?_⟩
 . rw[K8 h1 h2 (show o4 "Mirror"=some Cy by simp[o4])];unfold Cy ji e8;generalize D.tup (ls.map T2)=tl at *;walk_at "dz";simp only[K3];walk_at "dz"
 . have:=Stp.mir (n:=n) (imL (fun x=>((n:Int) - x) % (n:Int)) ls);have e:imL (fun x=>((n:Int) - x) % (n:Int)) (imL (fun x=>((n:Int) - x) % (n:Int)) ls)=ls:=by
    rw[Uh,Rw (f:=fun x=>((n:Int) - ((n:Int) - x) % (n:Int)) % (n:Int)) I0.inn (fun x h0 h1=>by
     by_cases hx:x=0
     . subst hx;rw[Int.sub_zero,EQ,Int.sub_zero,EQ]
     . rw[AU (a:=(n:Int) - x) (by omega) (by omega),AU (by omega) (by omega)];omega),hs]
   rw[e]at this;exact this
theorem jR(hb:b.natAbs<10 ^ 60)(fo:DE->R D)(ρ:DE)(h1:fo ρ=.ok (.obj "Spin" [.int b])):m9 D6 fo c7 ρ=.ok (.str (ts b)):=by rw[Pn h1 (show D6 "Spin"=some Ag by simp[D6]),y5w hb]
theorem jQ(fo:DE->R D)(ρ:DE)(h1:fo ρ=.ok (.obj "Mirror" [])):m9 D6 fo c7 ρ=.ok (.str (PySem.Str.ofString "mirror")):=by rw[Pn h1 (show D6 "Mirror"=some Aj by simp[D6]),y5x]
theorem zW(O:Okc n ls)(aB:n<=60)(hb:b.natAbs<10 ^ 60):Al [e8 n ls,.int b]=.ok (.bl true):=by
 obtain⟨⟨T0,I0⟩,hs,am⟩:=id O;have n3:3<=n:=by have:=I0.n3;omega
 have cc:(-b).natAbs<10 ^ 60:=by rw[Int.natAbs_neg];exact hb
 have li:=Vw n 1 b (.inl rfl) ls n3 (by omega);rw[show(fun x:Int=>(1 * x+b) % (n:Int))=fun x=>(x+b) % (n:Int) from funext fun x=>by rw[Int.one_mul]]at li;obtain⟨bk,S'⟩:=y63 O b;have S:=Stp.spin (n:=n) ls b;have O':=S.ok O;have eF:=Z2 S O aB (qc _) (jR hb);have gH:=Z2 S' O' aB (qc _) (jR cc);have rr:=vG hb;have s1:=Hf hb;have s2:=Hf cc;have x1:=Jn hb;have x2:=Jn cc;have f1:=As b;have f2:=As (-b);have mk:=Pr b;have nC:=Bu n (imL (fun x=>(x+b) % (n:Int)) ls);unfold Al;rw[X9,ζ (show [e8 n ls,D.int b].length=2 from rfl)];show SR.out false (e7 sp0 (e7 sp1 (e7 sp2 (e7 sp3 (e7 sp4 (e7 sp5 sp6))))) [.im (e8 n ls),.im (.int b),.em,.em,.em,.em])=_;clear O O' S S' hb cc;rw[show D.tup [D.int (n:Int),D.tup (ls.map T2)]=e8 n ls from rfl,show D.tup [D.int (n:Int),D.tup ((imL (fun x=>(x+b) % (n:Int)) ls).map T2)]=e8 n (imL (fun x=>(x+b) % (n:Int)) ls) from rfl]at li;generalize e8 n (imL (fun x=>(x+b) % (n:Int)) ls)=C' at *;generalize e8 n ls=C at *;have a0:sp0 [.im C,.im (.int b),.em,.em,.em,.em]=.nx [.im C,.im (.int b),.im C',.em,.em,.em]:=by unfold sp0;walk_at "dz";rw[li];walk_at "dz";rw[show keeps false C'=true from nC];walk_at "dz"
 rw[l9 a0];have a1:sp1 [.im C,.im (.int b),.im C',.em,.em,.em]=.nx [.im C,.im (.int b),.im C',.im (.obj "Spin" [.int b]),.em,.em]:=by unfold sp1;walk_at "dz";rw[mk _ _ rfl];walk_at "dz";rw[show keeps false (D.obj "Spin" [.int b])=true from rfl];walk_at "dz"
 rw[l9 a1];have a2:sp2 [.im C,.im (.int b),.im C',.im (.obj "Spin" [.int b]),.em,.em]=.nx [.im C,.im (.int b),.im C',.im (.obj "Spin" [.int b]),.em,.em]:=by unfold sp2;walk_at "dz";rw[s1];walk_at "dz";rw[x1];walk_at "dz";rw[eF];walk_at "dz";rw[f1];walk_at "dz"
 rw[l9 a2];have a3:sp3 [.im C,.im (.int b),.im C',.im (.obj "Spin" [.int b]),.em,.em]=.nx [.im C,.im (.int b),.im C',.im (.obj "Spin" [.int b]),.im (.obj "Spin" [.int (-b)]),.em]:=by unfold sp3;walk_at "dz";rw[bk _ _ _ rfl rfl];walk_at "dz";rw[show keeps false (D.obj "Spin" [.int (-b)])=true from rfl];walk_at "dz"
 rw[l9 a3];have a4:sp4 [.im C,.im (.int b),.im C',.im (.obj "Spin" [.int b]),.im (.obj "Spin" [.int (-b)]),.em]=.nx [.im C,.im (.int b),.im C',.im (.obj "Spin" [.int b]),.im (.obj "Spin" [.int (-b)]),.em]:=by unfold sp4;walk_at "dz";rw[s2];walk_at "dz";rw[x2];walk_at "dz";rw[gH];walk_at "dz";rw[f2];walk_at "dz"
 rw[l9 a4];have a5:sp5 [.im C,.im (.int b),.im C',.im (.obj "Spin" [.int b]),.im (.obj "Spin" [.int (-b)]),.em]=.nx [.im C,.im (.int b),.im C',.im (.obj "Spin" [.int b]),.im (.obj "Spin" [.int (-b)]),.im (.obj "Spin" [.int b])]:=by unfold sp5;walk_at "dz";rw[s1];walk_at "dz";rw[x1];walk_at "dz";rw[rr];walk_at "dz";rw[show keeps false (D.obj "Spin" [.int b])=true from rfl];walk_at "dz"
 rw[l9 a5];unfold sp6;walk_at "dz";rw[s1];walk_at "dz";rw[x1];walk_at "dz";rw[eF];walk_at "dz";rw[f1];walk_at "dz"
end
theorem y27(c:Int):∃w,Ae [.int c]=.ok (.int w)/\w.natAbs<10 ^ 60:=by
 have hB:(10:Int) ^ Int.toNat 60=((10 ^ 60:Nat):Int):=by rw[Int.natCast_pow];rfl
 have uY:21<=10 ^ 60:=DU (by decide +kernel);unfold Ae Zj;have hp:=y1m;rw[hB]at hp;generalize 10 ^ 60=N at *;walk_at "dz";rw[y9 (by omega)];walk_at "dz";by_cases h:c % 2=0
 . rw[decide_eq_true h];walk_at "dz";rw[Az (by omega)];walk_at "dz";rw[y9 (by omega)];walk_at "dz";refine⟨_,rfl,?_⟩;have:=BA (c / 2) (show(41:Int)≠0 by omega);have:=BE (c / 2) (show(0:Int)<41 by omega);omega
 . rw[decide_eq_false h];walk_at "dz";rw[Az (by omega),hp];walk_at "dz";rw[Hs (by omega)];walk_at "dz";rw[y9 (by omega)];walk_at "dz";refine⟨_,rfl,?_⟩;have:=BA (c / 2) (show(2 * (N:Int) - 1)≠0 by omega);have:=BE (c / 2) (show(0:Int)<2 * (N:Int) - 1 by omega);omega
theorem neB(h:pls ds=true)(h2:j9 ds<=19):dNe (.lst ds) (.lst ds)=some (.bl false):=by
 have h1:(D.lst ds).pl=true:=by simp only[D.pl];exact h
 unfold dNe;rw[ζ ⟨h1,h1,by simp only[D.dep];omega⟩,R7 _ h1];rfl
section
variable {n:Nat}{ls:List P2}
theorem zV(ns:List Int)(df:ns.length<=63)(O:Okc n ls)(aB:n<=60):Ak [.scr ns,e8 n ls]=.ok (.bl true):=by have ib:=Bm ns df 1;have ue:=Bm ns df 2;have uf:=Bm ns df 3;generalize pkv ns 1=p1 at *;generalize pkv ns 2=p2 at *;generalize pkv ns 3=p3 at *;obtain⟨d,nd,rd⟩:=xU p1;have r0:=y8w (C:=e8 n ls) rd;obtain⟨p,hp,nl⟩:=xT O aB p2;have r1:=y8x (n:=n) hp;have r2:=y8y (n:=n) hp;have ap:=y24 O aB p3;have nq:=O0 p;have q1:=neB (ds:=[.bl true,.bl true,.bl false,.bl false,.bl false]) rfl (by simp[j9,D.dep]);have q2:=neB (ds:=[.bl true,.bl false,.bl true,.bl false,.bl false]) rfl (by simp[j9,D.dep]);unfold Ak jB;generalize e8 n ls=C at *;generalize T2 p=q at *;walk_at "dz";rw[ib];walk_at "dz";rw[nd];walk_at "dz";rw[r0];walk_at "dz";rw[q1];walk_at "dz";rw[ue];walk_at "dz";rw[nl];walk_at "dz";rw[show keeps false q=true from nq];walk_at "dz";rw[r1];walk_at "dz";rw[q2];walk_at "dz";rw[r2];walk_at "dz";rw[q2];walk_at "dz";rw[uf];walk_at "dz";rw[ap];walk_at "dz"
end
abbrev lw0:DS->SR:=(i4 false 1 [] (eC (.int 17)))
abbrev lw1:DS->SR:=(sIf (g0 asB (eOp dEq (eOp l4 (eOp E1 (e9 D8 (b8 (b7 0) (b8 (eC (.int 0)) c7))) (eC (.int 4))) (eC (.int 8))) (eC (.int 3)))) (i4 false 1 [] (eC (.int 57))) sNx)
abbrev lw2:DS->SR:=(i4 false 2 [true,true] (e9 Af (b8 (eSl dSl (b7 0) (oSo (eC (.int 4))) (oSo (eOp z6 (eC (.int 4)) (b7 1)))) c7)))
abbrev lw3:DS->SR:=(i4 false 3 [true] (e9 D8 (b8 (b7 0) (b8 (eC (.int 0)) c7))))
abbrev lw4:DS->SR:=(sIf (g0 asB (eOp dEq (eOp l4 (b7 3) (eC (.int 4))) (eC (.int 3)))) (g9 [true,false,true] (e9 Ak (b8 (b7 0) (b8 (b7 2) c7)))) sNx)
abbrev lw5:DS->SR:=(sIf (D1 (g0 asB (eOp dEq (eOp l4 (b7 3) (eC (.int 4))) (eC (.int 0)))) (g0 asB (eOp P9 (eOp dIx (b7 2) (eC (.int 0))) (eC (.int 3))))) (g9 [true,false,true] (e9 Ai (b8 (b7 2) (b8 (eOp dIx (eOp dIx (b7 2) (eC (.int 1))) (eOp l4 (e9 D8 (b8 (b7 0) (b8 (eC (.int 1)) c7))) (eOp y8 (eOp dIx (b7 2) (eC (.int 0))) (eC (.int 3))))) c7)))) sNx)
abbrev lw6:DS->SR:=(sIf (g0 asB (eOp W8 (eOp l4 (b7 3) (eC (.int 4))) (eC (.int 2)))) (g9 [true,false,true] (e9 Al (b8 (b7 2) (b8 (e9 Ae (b8 (e9 D8 (b8 (b7 0) (b8 (eC (.int 1)) c7))) c7)) c7)))) sNx)
abbrev lw7:DS->SR:=(i4 false 4 [false,false,true] (e9 S1 (b8 (b7 2) (b8 (eC (.int 0)) (b8 (eUn J7 (eC (.int 1))) c7)))))
abbrev lw8:DS->SR:=(sIf (t8 (g0 m7 (e9 r6 (b8 (K3 "Mirror") (b8 (eC (.str "mirror")) (b8 (b7 2) (b8 (b7 4) (b8 (eC (.str "mirror")) c7)))))))) (g9 [] (eC (.bl false))) sNx)
abbrev lw9:DS->SR:=(sIf (t8 (g0 m7 (e9 r6 (b8 (m9 o4 (K3 "Mirror") (b8 (b7 2) c7)) (b8 (eC (.str "mirror")) (b8 (b7 4) (b8 (b7 2) (b8 (eC (.str "mirror")) c7)))))))) (g9 [] (eC (.bl false))) sNx)
abbrev jP:DS->SR:=(g9 [false,false,true,false,true] (e9 r6 (b8 (e9 v7 (b8 (eC (.str "mirror")) c7)) (b8 (eC (.str "mirror")) (b8 (b7 2) (b8 (b7 4) (b8 (eC (.str "mirror")) c7)))))))
theorem y65(ns:List Int)(r:Nat):(y4 ns (some 4) (some (4+(r:Int)))).length<=r:=by rw[show(some (4:Int))=some ((4:Nat):Int) from rfl,show(4+(r:Int))=((4+r:Nat):Int) by omega];unfold y4;simp only[HT.sIx,ξ (show ¬(((4:Nat):Int)<0) by omega),ξ (show ¬(((4+r:Nat):Int)<0) by omega),EL,DI,List.length_drop];omega
theorem xS(ns:List Int)(df:ns.length<=63):X0 [.scr ns]=.ok (.bl true):=by
 have lL:=Bm ns df 0;have ib:=Bm ns df 1;generalize pkv ns 0=p0 at *;generalize pkv ns 1=p1 at *;have d4:E1 (.int p0) (.int 4)=some (.int (p0 / 4)):=Az (by omega);have m8:l4 (.int (p0 / 4)) (.int 8)=some (.int (p0 / 4 % 8)):=y9 (by omega);have m4:l4 (.int p0) (.int 4)=some (.int (p0 % 4)):=y9 (by omega);obtain⟨r,hr,a1⟩:∃r:Nat,r<=57/\lw1 [.im (.scr ns),.im (.int 17),.em,.em,.em]=.nx [.im (.scr ns),.im (.int (r:Int)),.em,.em,.em]:=by
  by_cases h:p0 / 4 % 8=3
  . refine⟨57,η _,?_⟩;unfold lw1;walk_at "dz";rw[lL];walk_at "dz";rw[d4];walk_at "dz";rw[m8];walk_at "dz";rw[decide_eq_true h];walk_at "dz";rfl
  . refine⟨17,by omega,?_⟩;unfold lw1;walk_at "dz";rw[lL];walk_at "dz";rw[d4];walk_at "dz";rw[m8];walk_at "dz";rw[decide_eq_false h];walk_at "dz";rfl
 have cl:=y65 ns r;obtain⟨n,ls,O,hn,ge⟩:=vM (y4 ns (some 4) (some (4+(r:Int)))) (by omega);have aB:n<=60:=by omega
 obtain⟨⟨T0,I0⟩,hs,am⟩:=id O;have n3:3<=n:=by have:=I0.n3;omega
 have nl:=Bu n ls;have re:=zV ns df O aB;have te:=fun l (h:l∈ls)=>yZ O aB h
 have ug:=fun j h0 h1=>Ty (ls:=ls) (by omega) j h0 h1
 obtain⟨b,wb,hb⟩:=y27 p1;have se:=zW O aB hb;have li:=Vw n (-1) 0 (.inr rfl) ls n3 (by omega);rw[show(fun x:Int=>(-1 * x+0) % (n:Int))=fun x=>((n:Int) - x) % (n:Int) from funext fun x=>by rw[show(n:Int) - x=-1 * x+0+(n:Int) by omega,Int.add_emod_right]]at li;obtain⟨bk,S'⟩:=y64 O;have S:=Stp.mir (n:=n) ls;have eF:=Z2 S O aB (qb _) jQ;have gH:=Z2 S' (S.ok O) aB (qb _) jQ;have rm:=y1w;have nC:=Bu n (imL (fun x=>((n:Int) - x) % (n:Int)) ls);rw[show D.tup [D.int (n:Int),D.tup (ls.map T2)]=e8 n ls from rfl,show D.tup [D.int (n:Int),D.tup ((imL (fun x=>((n:Int) - x) % (n:Int)) ls).map T2)]=e8 n (imL (fun x=>((n:Int) - x) % (n:Int)) ls) from rfl]at li;have c0:dIx (e8 n ls) (.int 0)=some (.int (n:Int)):=rfl;have c1:dIx (e8 n ls) (.int 1)=some (.tup (ls.map T2)):=rfl;unfold X0;rw[X9,ζ (show [D.scr ns].length=1 from rfl)];show SR.out false (e7 lw0 (e7 lw1 (e7 lw2 (e7 lw3 (e7 lw4 (e7 lw5 (e7 lw6 (e7 lw7 (e7 lw8 (e7 lw9 jP))))))))) [.im (.scr ns),.em,.em,.em,.em])=_;have a0:lw0 [.im (.scr ns),.em,.em,.em,.em]=.nx [.im (.scr ns),.im (.int 17),.em,.em,.em]:=by unfold lw0;walk_at "dz"
 rw[l9 a0,l9 a1];clear O S S' a0 a1;generalize e8 n (imL (fun x=>((n:Int) - x) % (n:Int)) ls)=C' at *;generalize e8 n ls=C at *;have a2:lw2 [.im (.scr ns),.im (.int (r:Int)),.em,.em,.em]=.nx [.im (.scr ns),.im (.int (r:Int)),.im C,.em,.em]:=by unfold lw2;walk_at "dz";rw[ge];walk_at "dz";rw[show keeps false C=true from nl];walk_at "dz"
 have a3:lw3 [.im (.scr ns),.im (.int (r:Int)),.im C,.em,.em]=.nx [.im (.scr ns),.im (.int (r:Int)),.im C,.im (.int p0),.em]:=by unfold lw3;walk_at "dz";rw[lL];walk_at "dz"
 rw[l9 a2,l9 a3];by_cases h3:p0 % 4=3
 . have a4:lw4 [.im (.scr ns),.im (.int (r:Int)),.im C,.im (.int p0),.em]=.rt (.bl true):=by
    unfold lw4
    walk_at "dz"
    rw[m4]
    walk_at "dz"
    rw[decide_eq_true h3]
    walk_at "dz"
    rw[re]
    walk_at "dz"
   rw[Jp a4]
   rfl
 have a4:lw4 [.im (.scr ns),.im (.int (r:Int)),.im C,.im (.int p0),.em]=.nx [.im (.scr ns),.im (.int (r:Int)),.im C,.im (.int p0),.em]:=by unfold lw4;walk_at "dz";rw[m4];walk_at "dz";rw[decide_eq_false h3];walk_at "dz"
 rw[l9 a4];by_cases h5:p0 % 4=0/\3<n
 . have mj:l4 (.int p1) (.int ((n:Int) - 3))=some (.int (p1 % ((n:Int) - 3))):=y9 (by omega);obtain⟨l,hm,ix⟩:=ug (p1 % ((n:Int) - 3)) (BA _ (by omega)) (by have:=BE p1 (show(0:Int)<(n:Int) - 3 by omega);omega);have te:=te l hm;have a5:lw5 [.im (.scr ns),.im (.int (r:Int)),.im C,.im (.int p0),.em]=.rt (.bl true):=by unfold lw5;walk_at "dz";rw[m4];walk_at "dz";rw[decide_eq_true h5.1];walk_at "dz";rw[c0];walk_at "dz";rw[decide_eq_true (show(3:Int)<n by omega)];walk_at "dz";rw[c1];walk_at "dz";rw[ib];walk_at "dz";rw[mj];walk_at "dz";rw[ix];walk_at "dz";rw[te];walk_at "dz"
   rw[Jp a5];rfl
 have a5:lw5 [.im (.scr ns),.im (.int (r:Int)),.im C,.im (.int p0),.em]=.nx [.im (.scr ns),.im (.int (r:Int)),.im C,.im (.int p0),.em]:=by
  unfold lw5;walk_at "dz";rw[m4];walk_at "dz";by_cases h:p0 % 4=0
  . rw[decide_eq_true h];walk_at "dz";rw[c0];walk_at "dz";rw[decide_eq_false (show ¬(3:Int)<n from fun z=>h5 ⟨h,by omega⟩)];walk_at "dz"
  . rw[decide_eq_false h];walk_at "dz"
 rw[l9 a5];by_cases h6:p0 % 4<2
 . have a6:lw6 [.im (.scr ns),.im (.int (r:Int)),.im C,.im (.int p0),.em]=.rt (.bl true):=by
    unfold lw6
    walk_at "dz"
    rw[m4]
    walk_at "dz"
    rw[decide_eq_true h6]
    walk_at "dz"
    rw[ib]
    walk_at "dz"
    rw[wb]
    walk_at "dz"
    rw[se]
    walk_at "dz"
   rw[Jp a6]
   rfl
 have a6:lw6 [.im (.scr ns),.im (.int (r:Int)),.im C,.im (.int p0),.em]=.nx [.im (.scr ns),.im (.int (r:Int)),.im C,.im (.int p0),.em]:=by unfold lw6;walk_at "dz";rw[m4];walk_at "dz";rw[decide_eq_false h6];walk_at "dz"
 have a7:lw7 [.im (.scr ns),.im (.int (r:Int)),.im C,.im (.int p0),.em]=.nx [.im (.scr ns),.im (.int (r:Int)),.im C,.im (.int p0),.im C']:=by unfold lw7;walk_at "dz";rw[li];walk_at "dz";rw[show keeps false C'=true from nC];walk_at "dz"
 have a8:lw8 [.im (.scr ns),.im (.int (r:Int)),.im C,.im (.int p0),.im C']=.nx [.im (.scr ns),.im (.int (r:Int)),.im C,.im (.int p0),.im C']:=by unfold lw8;walk_at "dz";simp only[K3];walk_at "dz";rw[eF];walk_at "dz"
 have a9:lw9 [.im (.scr ns),.im (.int (r:Int)),.im C,.im (.int p0),.im C']=.nx [.im (.scr ns),.im (.int (r:Int)),.im C,.im (.int p0),.im C']:=by unfold lw9;walk_at "dz";rw[bk _ _ _ rfl rfl];walk_at "dz";rw[gH];walk_at "dz"
 rw[l9 a6,l9 a7,l9 a8,l9 a9];unfold jP;walk_at "dz";rw[rm];walk_at "dz";rw[eF];walk_at "dz"
end K88
namespace K88
open PySem PySem.Spec PyProof.Rows L2
theorem walk{l:PySem.W.OpenLaw}{q:Program}{loose:List Str}{XP:(Str->Option Value)->Heap->Prop}{YP:World->Heap->Prop}{d:DefRec}{K:Params->Frag}(hn:l.most=some 63)(fW:d.params.defaults=[])
  (hY:∀(w:World)(h:Heap),YP w h->(K w.params).In h)
  (F:∀(w:World)(mg:Str->Option Value)(fa:Addr)(h:Heap),(K w.params).In h->h.Ns mainGlobals mg->mg d.name=some (.ref fa) ->
   ∃fd:FuncData,(∀(s:Shared)(u:Value),BindsTo s fd ⟨[u],[]⟩ [("_law_script",u)])/\∀base:Heap,(K w.params).In base->base.Ns mainGlobals mg->FnOk l.prog w (K w.params) mg base (CX1 l.prog w) 11 fa fd ["_law_script"] (spL (K w.params) false X0 1)) :
  PySem.W.WalkO q loose XP YP l.row.toRowW d [] (fun f vs=>PySem.call f vs):=
 L2.walk_of (n:=63) (k:=11) (x:="_law_script") (CX:=fun w=>CX1 l.prog w) (sp:=fun w=>(spL (K w.params) false X0 1)) hn (by decide) fW ⟨rfl,by decide,by decide⟩ hY F (fun _ _ a ns hl hO hS=>qN hO hS (xS ns hl)) fun _ _ _ _ _ ⟨_,_,_,_,_,_,z⟩=>z
end K88
open PySem PySem.W PyProof.Rows
set_option maxRecDepth 100000 in
set_option maxHeartbeats 0 in
theorem PySem.Challenge.cw_friezeyard_k88_deeds_holds : PySem.Challenge.rw_friezeyard_k88_deeds.Holds := by
 w_on;o_law
 refine holds_open (q:=K88.q) (loose:=K88.loose) (Xt:=K88.xtH) (XP:=XL K88.q []) (Yf:=K88.hook.obs) (Ya:=K88.hook.val)
  (YP:=K88.hook.says) (N:=12806) K88.left K88.hook.of K88.hook.keeps
  (fun s e=>xl_of s (Bool.and_eq_true_iff.mp e).1) XL.keeps (by rfl) (by rfl) (by rfl)
  (fun s e=>recFacts_of (Bool.and_eq_true_iff.mp e).2) (by rfl) (by assumption) (by decide +kernel)
  ⟨rfl,rfl,rfl,rfl,rfl,by decide +kernel⟩ ?hw ?hc
 (case hw=>w_witness2)
 refine K88.walk (l:=PySem.Challenge.rw_friezeyard_k88_deeds) (K:=K88.K) rfl rfl (fun w h Y=>Y) ?F
 case F=>
  intro w mg fa h KX G hmg
  k_fill
  refine' K88.all_mk KX G hmg ?A0 ?A1 ?A2 ?A3 ?A4 ?A5 ?A6 ?A7 ?A8 ?A9 ?A10 ?A11 ?A12 ?A13 ?A14 ?A15 ?A16 ?A17 ?A18 ?A19 ?A20 ?A21 ?A22 ?A23 ?A24 ?A25 ?A26 ?A27 ?A28 ?A29 ?A30 ?A31 ?A32 ?A33 ?A34 ?A35 ?A36 ?A37 ?A38 ?A39 ?A40 ?A41 ?A42 ?A43 ?A44 ?A45 ?A46 ?A47 ?A48 ?T ?Z ?J_Spin ?J_TurnLine
  (case Z=>constructor;exact mg_of KX G (by k_is);exact mg_of KX G (by k_is);exact mg_of KX G (by k_is);exact mg_of KX G (by k_is);exact mg_of KX G (by k_is);exact mg_of KX G (by k_is);exact mg_of KX G (by k_is);exact mg_of KX G (by k_is);exact mg_of KX G (by k_is);exact mg_of KX G (by k_is);exact mg_of KX G (by k_is);exact mg_of KX G (by k_is);exact mg_of KX G (by k_is);exact mg_of KX G (by k_is);exact mg_of KX G (by k_is);exact mg_of KX G (by k_is);exact mg_of KX G (by k_is);exact mg_of KX G (by k_is);exact mg_of KX G (by k_is);exact mg_of KX G (by k_is);exact mg_of KX G (by k_is);exact mg_of KX G (by k_is);k_is;k_is;k_is;k_is;k_is;k_is;k_exc;k_exc;k_exc;kernel_rfl;kernel_rfl;kernel_rfl;k_is;kernel_rfl;kernel_rfl;k_is;k_is;k_is;kit_is;kit_is;kit_is;kit_is;kernel_rfl;kernel_rfl;kernel_rfl;k_is;kernel_rfl;kernel_rfl;k_is;k_is;k_is;kit_is;kit_is;kit_is;kit_is;kernel_rfl;kernel_rfl;kernel_rfl;k_is;kernel_rfl;kernel_rfl;k_is;k_is;k_is;kit_is;kit_is;kit_is;kit_is;k_is;k_is;k_is;k_is;k_is;k_is;k_is;k_is;kit_is;kit_is;kit_is;kit_is;kit_is;k_is;k_is;k_is;k_is;k_is;k_is;kit_is;kit_is;kit_is;kit_is;kit_is)
  (case A0=>apply L2.fat;k_is;k_is;k_is;k_is)
  (case A1=>apply L2.fat;k_is;k_is;k_is;k_is)
  (case A2=>apply L2.fat;k_is;k_is;k_is;k_is)
  (case A3=>apply L2.fat;k_is;k_is;k_is;k_is)
  (case A4=>apply L2.fat;k_is;k_is;k_is;k_is)
  (case A5=>apply L2.fat;k_is;k_is;k_is;k_is)
  (case A6=>apply L2.mat;k_is;k_is;k_is;k_is;k_is)
  (case A7=>apply L2.mat;k_is;k_is;k_is;k_is;k_is)
  (case A8=>apply L2.fat;k_is;k_is;k_is;k_is)
  (case A9=>apply L2.fat;k_is;k_is;k_is;k_is)
  (case A10=>apply L2.fat;k_is;k_is;k_is;k_is)
  (case A11=>apply L2.fat;k_is;k_is;k_is;k_is)
  (case A12=>apply L2.fat;k_is;k_is;k_is;k_is)
  (case A13=>apply L2.fat;k_is;k_is;k_is;k_is)
  (case A14=>apply L2.fat;k_is;k_is;k_is;k_is)
  (case A15=>apply L2.fat;k_is;k_is;k_is;k_is)
  (case A16=>apply L2.fat;k_is;k_is;k_is;k_is)
  (case A17=>apply L2.fat;k_is;k_is;k_is;k_is)
  (case A18=>apply L2.fat;k_is;k_is;k_is;k_is)
  (case A19=>apply L2.mat;k_is;k_is;k_is;k_is;k_is)
  (case A20=>apply L2.fat;k_is;k_is;k_is;k_is)
  (case A21=>apply L2.fat;k_is;k_is;k_is;k_is)
  (case A22=>apply L2.fat;k_is;k_is;k_is;k_is)
  (case A23=>apply L2.fat;k_is;k_is;k_is;k_is)
  (case A24=>apply L2.fat;k_is;k_is;k_is;k_is)
  (case A25=>apply L2.fat;k_is;k_is;k_is;k_is)
  (case A26=>apply L2.fatD;k_is;k_is;k_is;k_is;k_is)
  (case A27=>apply L2.fat;k_is;k_is;k_is;k_is)
  (case A28=>apply L2.mat;k_is;k_is;k_is;k_is;k_is)
  (case A29=>apply L2.mat;k_is;k_is;k_is;k_is;k_is)
  (case A30=>apply L2.fat;k_is;k_is;k_is;k_is)
  (case A31=>apply L2.fat;k_is;k_is;k_is;k_is)
  (case A32=>apply L2.fat;k_is;k_is;k_is;k_is)
  (case A33=>apply L2.fat;k_is;k_is;k_is;k_is)
  (case A34=>apply L2.fat;k_is;k_is;k_is;k_is)
  (case A35=>apply L2.mat;k_is;k_is;k_is;k_is;k_is)
  (case A36=>apply L2.mat;k_is;k_is;k_is;k_is;k_is)
  (case A37=>apply L2.fat;k_is;k_is;k_is;k_is)
  (case A38=>apply L2.fat;k_is;k_is;k_is;k_is)
  (case A39=>apply L2.fat;k_is;k_is;k_is;k_is)
  (case A40=>apply L2.mat;k_is;k_is;k_is;k_is;k_is)
  (case A41=>apply L2.mat;k_is;k_is;k_is;k_is;k_is)
  (case A42=>apply L2.fat;k_is;k_is;k_is;k_is)
  (case A43=>apply L2.fat;k_is;k_is;k_is;k_is)
  (case A44=>apply L2.fat;k_is;k_is;k_is;k_is)
  (case A45=>apply L2.fat;k_is;k_is;k_is;k_is)
  (case A46=>apply L2.fat;k_is;k_is;k_is;k_is)
  (case A47=>apply L2.fat;k_is;k_is;k_is;k_is)
  (case A48=>apply L2.fat;k_is;k_is;k_is;k_is)
  (case T=>constructor<;>exact mg_none_of KX G (by k_is))
  (case J_Spin=>apply L2.mat;k_is;k_is;k_is;k_is;k_is)
  (case J_TurnLine=>apply L2.mat;k_is;k_is;k_is;k_is;k_is)
