import PyProof.Rows.All
import Wide.All
import OpenK.AllK
import Wide.FinOn
import PyProof.EqAt
import PyProof.EqKinds
import PyProof.TupleCall
import Lean
import PySem.SetOps
import PyProof.SetKind
import PyProof.DictKinds
import PyProof.CompMap
import PyProof.WalksS
import PyProof.Walks
import PyProof.CollectWalk
import PyProof.FactsAll.set_1
import PyProof.SetNew
import PyProof.Rows.SetFrom
import PyProof.ZipIter
import PyProof.Rows.SortShell
import PyProof.Rows.SortWalk
import PyProof.NeKinds
import PyProof.SumWalkG
import PyProof.RangeIter
import PyProof.StationsW
import PyProof.ExcClass3
import PyProof.ExcBaseAll.ValueError
import PyProof.ExcAttrAll.ValueError
import PyProof.Rows.CatchOwn
import KE.KIsAll
import PyProof.NsDelKeeps
import KE.KNestM
import PyProof.EnumMake
import KE.KDictOf
import PyProof.AttrMiss
import PyProof.IsiH_list
import PyProof.FactsAll.tuple_3
import PyProof.TupleOfStr
import PyProof.ListRange
import KE.KLam
import PyProof.Rows.SortRuns
import PyProof.Rows.SortRev
import PyProof.Rows.RuleM_int
import KE.KSortTup
import PySem.Challenge.RW_eachonce_k85_mays_made_musts
set_option Elab.async false
set_option linter.all false
set_option maxRecDepth 100000
def aa:=@PySem.wpAny_bind
def ae:=@PySem.Heap.get?_push_of_some
def af:=@List.length_map
def ag:=@PySem.wpAny_pure
def ah:=@if_neg
def ai:=@Bool.false_ne_true
def aj:=@if_pos
def ak:=@Nat.le_refl
def am:=@PySem.Heap.get?_push_size
def ao:=@List.size_toArray
def aq:=@List.mem_singleton
def ar:=@List.getElem?_eq_some_iff
def aw:=@decide_eq_true
def ay:=@PySem.Heap.lt_size
def az:=@List.mem_cons_self
def aA:=@PyProof.Rows.wpS_bind
def aB:=@List.getElem?_eq_getElem
def aC:=@List.length_append
def aE:=@List.getD_eq_getElem?_getD
def aF:=@List.mem_cons
def aG:=@PyProof.Rows.wpS_pure
def aI:=@List.mem_of_getElem?
def aJ:=@List.mem_append_right
def aK:=@of_decide_eq_true
def aL:=@PySem.sizeLine_eq
def aM:=@List.mem_cons_of_mem
def aN:=@List.mem_append
def aO:=@Array.length_toList
def aP:=@decide_eq_false
def aQ:=@List.length_cons
def aR:=@Nat.ne_of_lt
def aS:=@List.map_append
def aU:=@List.append_assoc
def aV:=@List.append_nil
def aW:=@List.mem_map
def aX:=@Nat.lt_of_lt_of_le
def aY:=@List.mem_append_left
def aZ:=@PySem.W.mg_none_of
def ba:=@List.getElem?_append_right
def bb:=@List.getElem?_map
def be:=@Array.toList_append
def bf:=@Nat.le_trans
def bg:=@List.map_cons
def bh:=@Option.some.inj
def bi:=@List.take_append_drop
def bo:=@Nat.zero_le
def bq:=@List.take_add_one
def br:=@decide_eq_true_iff
def bu:=@List.lookup_cons
def bv:=@List.getElem?_of_mem
def bw:=@PySem.wpAny_mono
def bz:=@List.mem_filter
def bA:=@PySem.Heap.get?_update_other
def bB:=@PySem.wpAny_holding
def bC:=@Array.getElem?_toList
def bD:=@List.length_take
def bE:=@Int.toNat_natCast
def bF:=@List.pairwise_map
def bG:=@Nat.testBit_or
def bH:=@List.getElem?_append_left
def bI:=@List.take_length
def bJ:=@PySem.wpAny_newObj_type
def bK:=@PyProof.Rows.wpS_forRange
def bL:=@PySem.Heap.get?_update_self
def bM:=@PySem.wpAny_field
def bN:=@List.length_take_le
def bO:=@List.mem_range
def bP:=@congrArg
def bQ:=@List.not_mem_nil
def bR:=@PySem.wpAny_call_entry
def bS:=@List.pairwise_append
def bU:=@List.mem_of_mem_take
def bV:=@List.take_of_length_le
def bW:=@List.filter_append
def bX:=@PySem.W.kia_one
def bY:=@List.getElem?_take_of_lt
def bZ:=@PySem.wpAny_callSpecial?_slot
def cb:=@Nat.add_sub_cancel_left
def cc:=@Bool.eq_iff_iff
def ce:=@PySem.wpAny_loadPart'
def cf:=@List.length_nil
def cg:=@PySem.codeAny_builtin
def cj:=@Int.le_of_lt
def ck:=@List.filter_cons
def cm:=@PySem.mem_of_lookup
def cn:=@Nat.testBit_two_pow
def cq:=@List.mem_map_of_mem
def cr:=@Nat.lt_succ_of_lt
def cw:=@List.length_filter_le
def cx:=@PySem.Heap.size_push
def cy:=@List.nodup_cons
def cz:=@PySem.wpAny_Call_Name_kw
def cA:=@List.pairwise_cons
def cB:=@PySem.wpAny_setField_rec
def cC:=@List.all_eq_true
def cD:=@List.mem_of_mem_drop
def cF:=@PySem.Around.under_plainId
def cG:=@Nat.pow_le_pow_right
def cH:=@Nat.testBit_two_pow_sub_one
def cI:=@Nat.lt_irrefl
def cJ:=@Nat.le_of_lt
def cK:=@Int.le_trans
def cL:=@Array.perm_iff_toList_perm
def cM:=@Nat.mod_two_eq_zero_or_one
def cN:=@List.map_congr_left
def cP:=@List.pairwise_iff_getElem
def cQ:=@Classical.byContradiction
def cR:=@List.Perm.append_left
def cS:=@List.getElem?_eq_none
def cU:=@PySem.wpAny_rule
def cV:=@List.getElem_mem
def cW:=@List.countP_cons
def cX:=@Nat.zero_testBit
def cY:=@Ne.symm
def cZ:=@List.map_map
def da:=@Bool.and_false
def db:=@PyProof.Rows.wpS_mono
def dc:=@Int.le_refl
def de:=@Array.toList_reverse
def df:=@List.take_sublist
def dh:=@PySem.wpAny_setState_of
def di:=@List.length_range
def dj:=@Bool.eq_false_iff
def dk:=@List.of_mem_zip
def dn:=@Nat.two_pow_pos
def dr:=@PySem.PassesOwn.never
def dv:=@beq_eq_false_iff_ne
def dw:=@PyProof.Rows.callWith_type1
def dy:=@PySem.codeAny_mono
def dz:=@PySem.wpAny_attempt
def dA:=@List.perm_append_comm
def dB:=@List.extract_eq_take_drop
def dC:=@PySem.wpAny_passesOwn
def dD:=@Nat.testBit_and
def dE:=@PySem.wpAny_truthy_bool
def dF:=@Nat.ne_of_gt
def dG:=@PySem.wpAny_pyIter_list
def dH:=@Array.toList_push
def dI:=@Array.toArray_toList
def dJ:=@Bool.or_true
def dL:=@Nat.eq_of_testBit_eq
def dM:=@Option.isSome_iff_exists
def dN:=@List.filterMap_cons
def dO:=@List.getElem_of_mem
def dP:=@PySem.F.plain_list_iadd
def dQ:=@PySem.Around.in1_units
def dR:=@decide_eq_false_iff_not
def dS:=@PySem.F.plainAttrs_list
def dU:=@PySem.W.cellsFrom_some
def dW:=@List.zip_cons_cons
def dX:=@PyProof.Rows.wpS_modify
def dY:=@List.find?_cons
def dZ:=@PySem.wpAny_standAt
def d0:=@List.sum_cons
def d9:=@List.length_replicate
def eg:=@PySem.sizeLine_eq
def eh:=@PySem.wpAny_newFunctionEnv_cells
def eB:=@Array.toList_extract
def eC:=@Array.getElem?_eq_some_iff
def eD:=@or_false
def eE:=@PySem.wpAny_setField
def eF:=@List.exists_cons_of_ne_nil
def eG:=@List.perm_ext_iff_of_nodup
def eI:=@List.map_nil
def eJ:=@Bool.and_eq_true
def eL:=@PySem.wpAny_askSetting
def eM:=@PySem.Heap.size_update
def eN:=@Nat.testBit_zero
def eO:=@PySem.Calls.call_function_entry
def eQ:=@List.reverse_append
def eR:=@PySem.F.args_tuple_add_2
def eS:=@PySem.wpAny_newList
def eT:=@PySem.wpAny_execs_nil
def eU:=@Nat.not_lt_zero
def eV:=@PySem.wpAny_load
def eW:=@Int.natCast_nonneg
def eX:=@PySem.wpAny_call
def eY:=@PySem.W.callWith_K
def eZ:=@of_decide_eq_false
def e9:=@PySem.F.entry_tuple_add
def fb:=@List.length_eq_zero_iff
def fe:=@Nat.le_succ
def ff:=@List.pairwise_singleton
def fg:=@List.getElem?_set_self
def fh:=@PySem.F.slot_tuple_add
def fj:=@PySem.wpAny_runValue
def fk:=@List.getElem?_inj
def fm:=@Bool.not_eq_true'
def fo:=@List.Perm.append_right
def fq:=@Nat.lt_or_ge
def fw:=@Int.zero_add
def fz:=@List.flatMap_singleton
def fD:=@Array.getElem?_setIfInBounds_ne
def fE:=@PySem.codeAny_call_function
def fH:=@PySem.F.slot_tuple_lt
def fJ:=@PySem.builtinLookup_eq_fast
def fK:=@List.length_drop
def fN:=@Nat.lt_succ_self
def fQ:=@PySem.wpAny_isInstance
def fY:=@List.any_eq_true
def fZ:=@beq_iff_eq
def gb:=@PySem.Paired.length
def gc:=@if_true
def gd:=@List.all_cons
def gf:=@List.any_cons
def gh:=@PySem.W.mg_of
def gj:=@PySem.plainId_quiet
def gk:=@PyProof.Rows.wpS_get
def gm:=@List.getElem?_set_ne
def gn:=@PySem.Around.frames_deeper
def gq:=@PySem.Calls.evalArgs_plain
def gt:=@PySem.wpAny_newFunctionEnv
def gu:=@Nat.pow_lt_pow_right
def gw:=@List.eq_nil_of_length_eq_zero
def gx:=@Bool.and_eq_true_iff
def gy:=@Bool.or_eq_false_iff
def gz:=@List.length_set
def gA:=@PyProof.Rows.entry_list_sort
def gB:=@List.range_succ
def gC:=@PySem.wpAny_Tuple_spliced
def gE:=@PySem.Heap.SameBut.update
def gF:=@PySem.W.codeHd_of_K
def gG:=@Nat.lt_trans
def gH:=@PySem.F.plain_proto_collect
def gI:=@PySem.Calls.Name_function_global
def gJ:=@Bool.false_and
def gK:=@Int.fdiv_eq_ediv_of_nonneg
def gL:=@PySem.W.codeRec_of
def gM:=@PySem.SeqAt.EqAt.int_int
def gN:=@PyProof.Rows.slot_list_sort
def gO:=@PySem.F.excBase_ValueError
def gP:=@PySem.tupleKind_room_in1
def gQ:=@List.drop_drop
def gR:=@List.getElem?_drop
def gS:=@PyProof.Rows.wpS_lift
def gU:=@Array.toList_setIfInBounds
def gW:=@List.drop_sublist
def gX:=@Option.some.injEq
def gY:=@PySem.wpAny_of_eq
def gZ:=@List.nodup_append
def g4:=@Nat.or_lt_two_pow
def g5:=@PySem.wpAny_comprehension_free
def g6:=@PyProof.Rows.listUpdate_at
def g7:=@List.Pairwise.imp_of_mem
def g8:=@PySem.F.slot_list_append
def g9:=@PySem.F.type_list_append
def hG:=@PySem.wpAny_execs_cons
def hV:=@List.getElem?_replicate
def h8:=@PySem.F.args_tuple_lt_2
def h9:=@PySem.noFill_tuple_add
def ic:=@Nat.le_of_not_lt
def ie:=@List.cons_append
def ig:=@PySem.F.attr_ValueError
def ik:=@PySem.F.entry_tuple_lt
def im:=@List.drop_eq_nil_of_le
def io:=@Nat.sub_self
def iq:=@Nat.testBit_lt_two_pow
def ir:=@List.pairwise_lt_range
def iu:=@PySem.typeLookup_type
def iw:=@List.Perm.of_eq
def ix:=@and_congr_right
def iy:=@List.length_singleton
def iA:=@PySem.F.slot_set_iter
def iB:=@List.set_append_right
def iC:=@List.Pairwise.and_mem
def iE:=@Sum.inl.inj
def iF:=@List.nodup_nil
def iG:=@PySem.isSubtype_type
def iH:=@PySem.isSubtype_stop
def iI:=@PySem.W.looks_findIn
def iJ:=@List.drop_zero
def iK:=@List.reverse_reverse
def iL:=@List.take_zero
def iM:=@Array.getElem_toList
def iN:=@List.replicate_succ'
def iO:=@List.Pairwise.filter
def iP:=@Nat.mul_le_mul_left
def iQ:=@List.filter_sublist
def iR:=@Bool.not_true
def iS:=@Bool.false_or
def iT:=@List.map_take
def iU:=@Array.append_assoc
def iV:=@List.mem_filterMap
def iW:=@PySem.call_meets
def iX:=@Nat.lt_of_le_of_lt
def iY:=@PySem.Walks.list
def iZ:=@List.contains_cons
def i4:=@Array.empty_append
def i5:=@Int.emod_lt_of_pos
def i6:=@List.mem_replicate
def i7:=@Nat.add_comm
def i8:=@Nat.add_zero
def i9:=@getElem?_pos
def ja:=@List.map_id
def jc:=@if_false
open PySem.W (clsIn codeHdIn envX findIn findObj fnMade instObj keepIn kitOne kitx_dict kitx_list kla_obj lookIn methodObj mg_of mroIn plainGet specialIn tabObj takesIn)
open List (all_map replicate)
open Nat (strongRecOn)
open Option (bind_some getD_none isSome_map)
section
namespace L2
open PySem PySem.Spec PyProof.Rows
def jJ (s:Stmt):Arguments:=match s with
 | .FunctionDef _ a _ _ _ _ _ _ _ _=>a
 | _=> { posonlyargs:=[],args:=[],vararg:=none,kwonlyargs:=[],kw_defaults:=[],kwarg:=none,defaults:=[]}
def jD (s:Stmt):List Stmt:=match s with
 | .FunctionDef _ _ b _ _ _ _ _ _ _=>b
 | _=> []
def j7 (s:Stmt):Scope:=match s with
 | .FunctionDef _ _ _ _ _ _ sc _ _ _=>sc
 | _=> { kind:= .function,names:=[],isGenerator:=false,isCoroutine:=false}
end L2
end
section
namespace Eo
open PySem L2
def top (i:Nat):Stmt:=PySem.Challenge.pw_eachonce_k85_mays_made_musts.main.body.getD i (.Pass ⟨0,0,0,0⟩)
abbrev sMask:Stmt:=top 1
abbrev qL:Stmt:=top 16
abbrev kU:Stmt:=top 18
abbrev sFull:Stmt:=top 19
abbrev sAt:Stmt:=top 20
abbrev sMet:Stmt:=top 21
abbrev qC:Stmt:=top 22
abbrev yV:Stmt:=top 23
abbrev sMany:Stmt:=top 24
abbrev y9:Stmt:=top 26
abbrev sCell:Stmt:=top 28
abbrev sPot:Stmt:=top 29
abbrev sTake:Stmt:=top 30
abbrev sLot:Stmt:=top 31
abbrev sBox:Stmt:=top 32
abbrev jBZ:Stmt:=top 33
abbrev yK:Stmt:=top 34
abbrev qD:Stmt:=top 35
abbrev qK:Stmt:=top 36
abbrev yL:Stmt:=top 37
abbrev yW:Stmt:=top 38
abbrev qJ:Stmt:=top 39
abbrev sLaw:Stmt:=top 40
def kC (x:Str)(t:Nat)(l n:Int)(a:Nat)(X Y:Value)(z:Nat)(u:Int)(v:Nat):Obj:=⟨.type "code",none, .fields #[.str x t, .str x (t+1), .str "/claim/cut.py" (t+2), .int l 0, .int n 0, .int 0 0, .int 0 0, .int 3 0, .ref a, .bool true, .int 181 0, .ref (a+1), .none,X,Y, .ref z, .int u 0, .int l 0, .str "/claim/cut.py" v],#[]⟩
def kF (x:Str)(s:Stmt)(m:Str)(t c:Nat):Obj:=⟨.type "function",none, .func (PySem.W.fnOf x x (jJ s) (jD s) (j7 s) .none .none .none (.str m t) none (.ref c) .none),#[]⟩
def kE (P:Params)(x:Str)(t:Nat)(v:Value):DictEntry:=⟨PyData.keyHash P x, .str x t,v⟩
def kM (P:Params):Obj:=
 let e (x:Str) (t:Nat) (v:Value):DictEntry:=⟨PyData.keyHash P x, .str x t,v⟩
 ⟨.type "dict",none, .dict #[e "__name__" 165 (.str "law_eachonce_k85_mays_made_musts" 460),e "__doc__" 166 (.none),e "__package__" 167 (.none),e "__loader__" 168 (.builtin "__main__.__loader__#opaque"),e "__spec__" 169 (.none),e "__annotations__" 170 (.ref 6),e "__builtins__" 171 (.ref 4),e "__file__" 173 (.str "/claim/cut.py" 172),e "__cached__" 174 (.none),e "mask_of" 194 (.ref 19),e "MOST_PIECES" 196 (.int 32 195),e "OnceError" 216 (.ref 29),e "NoText" 241 (.ref 49),e "NoCovering" 257 (.ref 61),e "TooMany" 273 (.ref 73),e "NoThing" 289 (.ref 85),e "NoPiece" 305 (.ref 97),e "NoWeight" 321 (.ref 109),e "NoOrder" 337 (.ref 121),e "Held" 353 (.ref 133),e "NoDeed" 369 (.ref 145),e "NoRow" 385 (.ref 157),e "all_musts" 393 (.ref 164),e "choices_of" 401 (.ref 169),e "full_mask" 408 (.ref 176),e "choices_at" 414 (.ref 181),e "masks_met" 427 (.ref 188),e "gathered" 433 (.ref 193),e "ways_of" 440 (.ref 200),e "many" 447 (.ref 207),e "lightest" 459 (.ref 214),e "_law_cell_at" 469 (.ref 221),e "_law_pot" 479 (.ref 228),e "_law_take" 488 (.ref 235),e "_law_lot" 494 (.ref 240),e "_law_box" 500 (.ref 245),e "_law_whole" 507 (.ref 252),e "_law_wholes" 513 (.ref 257),e "_law_from" 519 (.ref 262),e "_law_coverings" 525 (.ref 267),e "_law_others" 531 (.ref 272),e "_law_is_box" 537 (.ref 277),e "_law_told" 545 (.ref 284),e "law" 551 (.ref 289)] 44,#[]⟩
def kK (P:Params):W.Frag:=(nat_lit 3,kM P)::(nat_lit 4,⟨.type "module",some 0, .plain,#[]⟩)::(nat_lit 18,kC "mask_of" 189 2 1 15 (.none) (.none) 17 192 193)::(nat_lit 19,kF "mask_of" sMask "eachonce.kinds" 187 18)::(nat_lit 28,⟨.type "dict",none, .dict #[kE P "__module__" 206 (.str "eachonce.errors" 197),kE P "__firstlineno__" 210 (.int 6 209),kE P "__static_attributes__" 211 (.ref 27),kE P "__weakref__" 213 (.ref 30),kE P "__doc__" 214 (.none)] 3,#[]⟩)::(nat_lit 29,⟨.type "type",none, .cls { name:= "OnceError",bases:=[.type "ValueError"],mro:=[.ref 29, .type "ValueError", .type "Exception", .type "BaseException", .type "object"],ns:=28,qualname:= "OnceError",subclasses:=[.ref 49, .ref 61, .ref 73, .ref 85, .ref 97, .ref 109, .ref 121, .ref 133, .ref 145, .ref 157]},#[some (.ref 20),none,some (.str "OnceError" 199),some (.str "OnceError" 207),some (.builtin "ValueError.__new__"),some (.bool true)]⟩)::(nat_lit 49,⟨.type "type",none, .cls { name:= "NoText",bases:=[.ref 29],mro:=[.ref 49, .ref 29, .type "ValueError", .type "Exception", .type "BaseException", .type "object"],ns:=48,qualname:= "NoText",subclasses:=[]},#[some (.ref 33),none,some (.str "NoText" 217),some (.str "NoText" 225),some (.builtin "ValueError.__new__"),some (.bool true)]⟩)::(nat_lit 61,⟨.type "type",none, .cls { name:= "NoCovering",bases:=[.ref 29],mro:=[.ref 61, .ref 29, .type "ValueError", .type "Exception", .type "BaseException", .type "object"],ns:=60,qualname:= "NoCovering",subclasses:=[]},#[some (.ref 52),none,some (.str "NoCovering" 242),some (.str "NoCovering" 250),some (.builtin "ValueError.__new__"),some (.bool true)]⟩)::(nat_lit 72,⟨.type "dict",none, .dict #[kE P "__module__" 265 (.str "eachonce.errors" 197),kE P "__firstlineno__" 269 (.int 15 268),kE P "__static_attributes__" 270 (.ref 71),kE P "__doc__" 271 (.none)] 2,#[]⟩)::(nat_lit 73,⟨.type "type",none, .cls { name:= "TooMany",bases:=[.ref 29],mro:=[.ref 73, .ref 29, .type "ValueError", .type "Exception", .type "BaseException", .type "object"],ns:=72,qualname:= "TooMany",subclasses:=[]},#[some (.ref 64),none,some (.str "TooMany" 258),some (.str "TooMany" 266),some (.builtin "ValueError.__new__"),some (.bool true)]⟩)::(nat_lit 85,⟨.type "type",none, .cls { name:= "NoThing",bases:=[.ref 29],mro:=[.ref 85, .ref 29, .type "ValueError", .type "Exception", .type "BaseException", .type "object"],ns:=84,qualname:= "NoThing",subclasses:=[]},#[some (.ref 76),none,some (.str "NoThing" 274),some (.str "NoThing" 282),some (.builtin "ValueError.__new__"),some (.bool true)]⟩)::(nat_lit 97,⟨.type "type",none, .cls { name:= "NoPiece",bases:=[.ref 29],mro:=[.ref 97, .ref 29, .type "ValueError", .type "Exception", .type "BaseException", .type "object"],ns:=96,qualname:= "NoPiece",subclasses:=[]},#[some (.ref 88),none,some (.str "NoPiece" 290),some (.str "NoPiece" 298),some (.builtin "ValueError.__new__"),some (.bool true)]⟩)::(nat_lit 109,⟨.type "type",none, .cls { name:= "NoWeight",bases:=[.ref 29],mro:=[.ref 109, .ref 29, .type "ValueError", .type "Exception", .type "BaseException", .type "object"],ns:=108,qualname:= "NoWeight",subclasses:=[]},#[some (.ref 100),none,some (.str "NoWeight" 306),some (.str "NoWeight" 314),some (.builtin "ValueError.__new__"),some (.bool true)]⟩)::(nat_lit 121,⟨.type "type",none, .cls { name:= "NoOrder",bases:=[.ref 29],mro:=[.ref 121, .ref 29, .type "ValueError", .type "Exception", .type "BaseException", .type "object"],ns:=120,qualname:= "NoOrder",subclasses:=[]},#[some (.ref 112),none,some (.str "NoOrder" 322),some (.str "NoOrder" 330),some (.builtin "ValueError.__new__"),some (.bool true)]⟩)::(nat_lit 133,⟨.type "type",none, .cls { name:= "Held",bases:=[.ref 29],mro:=[.ref 133, .ref 29, .type "ValueError", .type "Exception", .type "BaseException", .type "object"],ns:=132,qualname:= "Held",subclasses:=[]},#[some (.ref 124),none,some (.str "Held" 338),some (.str "Held" 346),some (.builtin "ValueError.__new__"),some (.bool true)]⟩)::(nat_lit 145,⟨.type "type",none, .cls { name:= "NoDeed",bases:=[.ref 29],mro:=[.ref 145, .ref 29, .type "ValueError", .type "Exception", .type "BaseException", .type "object"],ns:=144,qualname:= "NoDeed",subclasses:=[]},#[some (.ref 136),none,some (.str "NoDeed" 354),some (.str "NoDeed" 362),some (.builtin "ValueError.__new__"),some (.bool true)]⟩)::(nat_lit 157,⟨.type "type",none, .cls { name:= "NoRow",bases:=[.ref 29],mro:=[.ref 157, .ref 29, .type "ValueError", .type "Exception", .type "BaseException", .type "object"],ns:=156,qualname:= "NoRow",subclasses:=[]},#[some (.ref 148),none,some (.str "NoRow" 370),some (.str "NoRow" 378),some (.builtin "ValueError.__new__"),some (.bool true)]⟩)::(nat_lit 163,kC "all_musts" 388 32 1 160 (.none) (.none) 162 391 392)::(nat_lit 164,kF "all_musts" qL "eachonce.changes" 386 163)::(nat_lit 168,kC "choices_of" 396 38 1 165 (.none) (.none) 167 399 400)::(nat_lit 169,kF "choices_of" kU "eachonce.coverings" 394 168)::(nat_lit 175,kC "full_mask" 402 43 1 170 (.ref 172) (.ref 173) 174 406 407)::(nat_lit 176,kF "full_mask" sFull "eachonce.coverings" 394 175)::(nat_lit 180,kC "choices_at" 409 45 2 177 (.none) (.none) 179 412 413)::(nat_lit 181,kF "choices_at" sAt "eachonce.coverings" 394 180)::(nat_lit 187,kC "masks_met" 415 48 1 182 (.ref 184) (.ref 185) 186 425 426)::(nat_lit 188,kF "masks_met" sMet "eachonce.coverings" 394 187)::(nat_lit 192,kC "gathered" 428 60 3 189 (.none) (.none) 191 431 432)::(nat_lit 193,kF "gathered" qC "eachonce.coverings" 394 192)::(nat_lit 199,kC "ways_of" 434 69 1 194 (.ref 196) (.ref 197) 198 438 439)::(nat_lit 200,kF "ways_of" yV "eachonce.coverings" 394 199)::(nat_lit 206,kC "many" 441 71 1 201 (.ref 203) (.ref 204) 205 445 446)::(nat_lit 207,kF "many" sMany "eachonce.coverings" 394 206)::(nat_lit 213,kC "lightest" 450 74 1 208 (.ref 210) (.ref 211) 212 457 458)::(nat_lit 214,kF "lightest" y9 "eachonce.lightest" 448 213)::(nat_lit 220,kC "_law_cell_at" 462 89 2 215 (.ref 217) (.ref 218) 219 467 468)::(nat_lit 221,kF "_law_cell_at" sCell "law_eachonce_k85_mays_made_musts" 460 220)::(nat_lit 227,kC "_law_pot" 470 93 1 222 (.ref 224) (.ref 225) 226 477 478)::(nat_lit 228,kF "_law_pot" sPot "law_eachonce_k85_mays_made_musts" 460 227)::(nat_lit 234,kC "_law_take" 480 102 2 229 (.ref 231) (.ref 232) 233 486 487)::(nat_lit 235,kF "_law_take" sTake "law_eachonce_k85_mays_made_musts" 460 234)::(nat_lit 239,kC "_law_lot" 489 106 2 236 (.none) (.none) 238 492 493)::(nat_lit 240,kF "_law_lot" sLot "law_eachonce_k85_mays_made_musts" 460 239)::(nat_lit 244,kC "_law_box" 495 115 3 241 (.none) (.none) 243 498 499)::(nat_lit 245,kF "_law_box" sBox "law_eachonce_k85_mays_made_musts" 460 244)::(nat_lit 251,kC "_law_whole" 501 133 1 246 (.ref 248) (.ref 249) 250 505 506)::(nat_lit 252,kF "_law_whole" jBZ "law_eachonce_k85_mays_made_musts" 460 251)::(nat_lit 256,kC "_law_wholes" 508 135 1 253 (.none) (.none) 255 511 512)::(nat_lit 257,kF "_law_wholes" yK "law_eachonce_k85_mays_made_musts" 460 256)::(nat_lit 261,kC "_law_from" 514 137 3 258 (.none) (.none) 260 517 518)::(nat_lit 262,kF "_law_from" qD "law_eachonce_k85_mays_made_musts" 460 261)::(nat_lit 266,kC "_law_coverings" 520 150 1 263 (.none) (.none) 265 523 524)::(nat_lit 267,kF "_law_coverings" qK "law_eachonce_k85_mays_made_musts" 460 266)::(nat_lit 271,kC "_law_others" 526 152 2 268 (.none) (.none) 270 529 530)::(nat_lit 272,kF "_law_others" yL "law_eachonce_k85_mays_made_musts" 460 271)::(nat_lit 276,kC "_law_is_box" 532 157 2 273 (.none) (.none) 275 535 536)::(nat_lit 277,kF "_law_is_box" yW "law_eachonce_k85_mays_made_musts" 460 276)::(nat_lit 283,kC "_law_told" 538 161 1 278 (.ref 280) (.ref 281) 282 543 544)::(nat_lit 284,kF "_law_told" qJ "law_eachonce_k85_mays_made_musts" 460 283)::(nat_lit 288,kC "law" 546 166 1 285 (.none) (.none) 287 549 550)::(nat_lit 289,kF "law" sLaw "law_eachonce_k85_mays_made_musts" 460 288)::[]
def kA:List Addr:=[3,4,18,19,28,29,49,61,72,73,85,97,109,121,133,145,157,163,164,168,169,175,176,180,181,187,188,192,193,199,200,206,207,213,214,220,221,227,228,234,235,239,240,244,245,251,252,256,257,261,262,266,267,271,272,276,277,283,284,288,289]
def vw:Program:= { PySem.Challenge.pw_eachonce_k85_mays_made_musts with main:= { PySem.Challenge.pw_eachonce_k85_mays_made_musts.main with body:=[top 1,top 2,top 4,top 5,top 6,top 7,top 8,top 9,top 10,top 11,top 12,top 13,top 14,top 16,top 18,top 19,top 20,top 21,top 22,top 23,top 24,top 26,top 28,top 29,top 30,top 31,top 32,top 33,top 34,top 35,top 36,top 37,top 38,top 39,top 40]}}
theorem kA_eq:∀ P,kA=(kK P).map (·.1):=fun _=>by kernel_rfl
abbrev kH:PySem.W.Hook:=PySem.W.kmHook kK kA kA_eq [195,209]
set_option maxHeartbeats 0 in
theorem left:PySem.W.LeftO PySem.Challenge.rw_eachonce_k85_mays_made_musts.prog vw [] (fun s=>PySem.W.xlAt vw [] s&&PySem.W.recOk (PySem.W.RowW.records (PySem.W.OpenRow.toRowW PySem.Challenge.rw_eachonce_k85_mays_made_musts.row)) s) (PySem.W.Hook.obs kH) (PySem.W.Hook.val kH) 7100:=fun w=>by kernel_rfl
end Eo
end
section
namespace L2
open PySem PySem.Spec PyProof.Rows
abbrev Key:=Sum Int Str
def keyIs:Key->Value->Bool
 | .inl k,v=>Value.isInt k v
 | .inr x,v=>Value.isStrOf x v
def keyH (w:World):Key->Int
 | .inl k=>hashInt k
 | .inr x=>hashStr w x
theorem jA2:∀ {k:Key}{v:Value},keyIs k v=true->(∃ i t,k=Sum.inl i/\v=Value.int i t)\/(∃ x t,k=Sum.inr x/\v=Value.str x t)
 | .inl i,v,h=>by
  obtain⟨t,e⟩:=Value.isInt_shape (k:=i) (v:=v) h
  exact .inl ⟨i,t,rfl,e⟩
 | .inr x,v,h=>by
  obtain⟨t,e⟩:=Value.isStrOf_shape (x:=x) (v:=v) h
  exact .inr ⟨x,t,rfl,e⟩
theorem jLL (i:Int)(t:Tok):keyIs (.inl i) (.int i t)=true:=by simp [keyIs,Value.isInt]
theorem jLK (x:Str)(t:Tok):keyIs (.inr x) (.str x t)=true:=by simp [keyIs,Value.isStrOf]
theorem jSJ (a b:Int):decide ((Sum.inl a:Key)=Sum.inl b)=(a==b):=by
 by_cases e:a=b
 ·subst e; simp
 ·have h:¬ (Sum.inl a:Key)=Sum.inl b:=fun q=>e (iE q)
  rw[aP h]
  exact(dv.mpr e).symm
theorem jSG (a b:Str):decide ((Sum.inr a:Key)=Sum.inr b)=decide (a=b):=by
 by_cases e:a=b
 ·subst e; simp
 ·have h:¬ (Sum.inr a:Key)=Sum.inr b:=fun q=>e (Sum.inr.inj q)
  rw[aP h,aP e]
theorem jSI (a:Int)(b:Str):decide ((Sum.inl a:Key)=Sum.inr b)=false:=aP (fun q=>nomatch q)
theorem jSH (a:Str)(b:Int):decide ((Sum.inr a:Key)=Sum.inl b)=false:=aP (fun q=>nomatch q)
def kW (prog:Program)(w:World):PySem.KeyKind prog w Key where
 is:=keyIs
 hash:=keyH w
 inj:=fun v a b ha hb=>by
  rcases jA2 ha with ⟨i,t,rfl,rfl⟩ | ⟨x,t,rfl,rfl⟩
  ·rcases jA2 hb with ⟨j,u,rfl,e⟩ | ⟨y,u,rfl,e⟩
   ·injection e with e1 _; rw[e1]
   ·exact nomatch e
  ·rcases jA2 hb with ⟨j,u,rfl,e⟩ | ⟨y,u,rfl,e⟩
   ·exact nomatch e
   ·injection e with e1 _; rw[e1]
 byValue:=fun k v h=>by
  rcases jA2 h with ⟨i,t,rfl,rfl⟩ | ⟨x,t,rfl,rfl⟩ <;> rfl
 pyHash:=fun hv h=>by
  rcases jA2 hv with ⟨i,t,rfl,rfl⟩ | ⟨x,t,rfl,rfl⟩
  ·exact wpAny_pyHash_int h
  ·exact wpAny_pyHash_str h
 eqBool:=fun hu hv h=>by
  rcases jA2 hu with ⟨i,t,rfl,rfl⟩ | ⟨x,t,rfl,rfl⟩
  ·rcases jA2 hv with ⟨j,u,rfl,rfl⟩ | ⟨y,u,rfl,rfl⟩
   ·rw[jSJ] at h; exact wpAny_eqBool_int h
   ·rw[jSI] at h; exact SeqAt.EqAt.int_str i t y u _ _ _ _ h
  ·rcases jA2 hv with ⟨j,u,rfl,rfl⟩ | ⟨y,u,rfl,rfl⟩
   ·rw[jSH] at h; exact SeqAt.EqAt.str_int x t j u _ _ _ _ h
   ·rw[jSG] at h; exact wpAny_eqBool_str h
 «strs»:=fun k x t v h=>by
  rcases jA2 h with ⟨i,u,rfl,e⟩ | ⟨y,u,rfl,e⟩
  ·exact nomatch e
  ·injection e with e1 _
   subst e1
   cases v <;> rfl
theorem jHC (prog:Program)(w:World)(i:Int)(t:Tok):(kW prog w).is (.inl i) (.int i t)=true:=jLL i t
theorem jHB (prog:Program)(w:World)(x:Str)(t:Tok):(kW prog w).is (.inr x) (.str x t)=true:=jLK x t
end L2
namespace L2
open PySem PySem.Spec PyProof.Rows
inductive V where
 | non | bl (b:Bool) | int (i:Int) | str (x:Str) | byt (b:Array UInt8) | flt (b:UInt64) | ref (a:Addr) | ty (n:String)
 deriving DecidableEq
def RelV:V->Value->Prop
 | .non,u=>u=Value.none
 | .bl b,u=>u=Value.bool b
 | .int i,u=>∃ t,u=Value.int i t
 | .str x,u=>∃ t,u=Value.str x t
 | .byt b,u=>∃ t,u=Value.bytes b t
 | .flt b,u=>∃ t,u=Value.float b t
 | .ref a,u=>u=Value.ref a
 | .ty n,u=>u=Value.type n
abbrev Vals:List V->List Value->Prop:=Paired RelV
theorem Vals.length {xs:List V}{us:List Value}(r:Vals xs us):xs.length=us.length:=gb r
theorem Vals.get:∀ {xs:List V}{us:List Value}{i:Nat}{x:V},Vals xs us->xs[i]?=some x->∃ u,us[i]?=some u/\RelV x u
 | _,_,_,_, .nil,e=>by simp at e
 | _,_,0,_, .cons r _,e=>by simp at e; subst e; exact⟨_,rfl,r⟩
 | _,_,i+1,x, .cons _ t,e=>by
  obtain⟨u,h1,h2⟩:=Vals.get (i:=i) (x:=x) t (by simpa using e)
  exact⟨u,by simpa using h1,h2⟩
theorem Vals.set {x:V}{u:Value}(r:RelV x u):∀ {xs:List V}{us:List Value}(i:Nat),Vals xs us->Vals (xs.set i x) (us.set i u)
 | _,_,_, .nil=> .nil
 | _,_,0, .cons _ t=> .cons r t
 | _,_,i+1, .cons q t=> .cons q (Vals.set r i t)
theorem Vals.append:∀ {xs ys:List V}{us ws:List Value},Vals xs us->Vals ys ws->Vals (xs++ys) (us++ws)
 | _,_,_,_, .nil,s=>s
 | _,_,_,_, .cons r t,s=> .cons r (Vals.append t s)
theorem Vals.take:∀ {xs:List V}{us:List Value}(n:Nat),Vals xs us->Vals (xs.take n) (us.take n)
 | _,_,0,_=> .nil
 | _,_,_+1, .nil=> .nil
 | _,_,n+1, .cons r t=> .cons r (Vals.take n t)
theorem Vals.drop:∀ {xs:List V}{us:List Value}(n:Nat),Vals xs us->Vals (xs.drop n) (us.drop n)
 | _,_,0,r=>r
 | _,_,_+1, .nil=> .nil
 | _,_,n+1, .cons _ t=>Vals.drop n t
def RelO:Option V->Option Value->Prop
 | some v,some u=>RelV v u
 | none,none=>True
 | _,_=>False
def KV {κ:Type} :List (κ×V)->List (κ×Value)->Prop:=Paired fun (p:κ×V) (q:κ×Value)=>p.1=q.1/\RelV p.2 q.2
def kV:Key->V
 | .inl i=> .int i
 | .inr x=> .str x
def TupO (h:Heap)(a:Addr)(items:Array Value):Prop:=∃ n,h.get? a=some { cls:= .type "tuple",data:= .seq items n}
theorem TupO.isTup {h:Heap}{a:Addr}{items:Array Value}(x:TupO h a items):IsTup h a items:=let ⟨n,e⟩:=x; ⟨_,e,rfl,n,rfl⟩
theorem TupO.new (h:Heap)(items:Array Value):TupO (h.push { cls:= .type "tuple",data:= .seq items}) h.objs.size items:=⟨0,am _ rfl⟩
inductive HO where
  | lst (xs:List V)
  | tup (xs:List V)
  | dK (kvs:List (Key×V)) | dT (kvs:List (List Key×V))
  | set (S:Int->Bool) (n:Nat)
  | ins (C dx:Addr) (fs:List (Str×V))
  | own (x:Addr)
  | xd (fs:List (Str×V))
  | met (f x:Addr)
  | rng (lo hi:Int)
  | frz (o:Obj) (u:HO)
  | tbl (ps:Array Value)
  | ext (φ:Heap->Prop)
abbrev Hp:=Addr->Option HO
def upd (H:Hp)(a:Addr)(o:HO):Hp:=fun b=>if b=a then some o else H b
theorem j8 {H:Hp}{a:Addr}{o:HO} :upd H a o a=some o:=by unfold upd; rw[aj rfl]
theorem jA {H:Hp}{a b:Addr}{o:HO}(h:b≠a):upd H a o b=H b:=by unfold upd; rw[ah h]
theorem ne_of {H:Hp}{a b:Addr}{o u:HO}(h:H a=some o)(h':H b=some u)(d:o≠u):a≠b:=by
 intro e; subst e; rw[h] at h'; exact d (bh h')
theorem jB {H:Hp}{a b:Addr}{o:HO}(h:H a=some o)(h':H b=none):a≠b:=by
 intro e; subst e; rw[h] at h'; cases h'
section
variable (P:Program)(w:World)
def ObjOk (H:Hp)(h:Heap)(a:Addr):HO->Prop
 | .lst xs=>xs.length<=sizeLine/\∃ (its:List Value) (n:Nat),Vals xs its/\h.get? a=some { cls:= .type "list",data:= .seq its.toArray n}
 | .tup xs=>xs.length<=sizeLine/\∃ its:List Value,Vals xs its/\TupO h a its.toArray
 | .dK kvs=>kvs.length<=sizeLine/\(a==sysModules)=false/\∃ vs,KV kvs vs/\h.DictOf (kW P w) a vs
 | .dT kvs=>kvs.length<=sizeLine/\(a==sysModules)=false/\∃ xs:List (List Key×Addr×Value),
   Paired (fun (p:List Key×V) (q:List Key×Addr×Value)=>p.1=q.1/\H q.2.1=some (.tup (p.1.map kV))/\RelV p.2 q.2.2) kvs xs/\
   ∃ o es ep,h.get? a=some o/\o.ExactDict/\o.data= .dict es ep/\es.toList=xs.map (entryOfKey (tupleKind (kW P w)))/\(xs.map (·.1)).Nodup
 | .set S n=>h.SetOf (intKind P w) a S n
 | .ins C dx fs=>H dx=some (.own a)/\fs.length<=1000/\dx≠a/\h.get? a=some (instObj C dx)/\
   ∃ mA,h.Ns1 dx mA/\(∀ f,RelO (fs.lookup f) (mA f))/\PySem.Within mA (fs.map (·.1))
 | .own _=>∃ o,h.get? a=some o
 | .xd fs=>∃ mA,h.Ns1 a mA/\∀ f,RelO (fs.lookup f) (mA f)
 | .rng lo hi=>∃ t u v,h.get? a=some { cls:= .type "range",data:= .fields #[.int lo t, .int hi u, .int 1 v]}
 | .frz o u=>h.get? a=some o/\ObjOk H h a u
 | .tbl ps=>h.get? a=some { cls:= .none,data:= .fields ps}
 | .met f x=>h.get? a=some (methodObj (.ref f) (.ref x))
 | .ext φ=>φ h/\(∃ o,h.get? a=some o)/\∀ h1 h2:Heap,φ h1->(∀ o,h1.get? a=some o->h2.get? a=some o)->φ h2
def HOk (H:Hp)(h:Heap):Prop:=∀ a o,H a=some o->ObjOk P w H h a o
end
section
variable {P:Program}{w:World}{H H':Hp}{h h':Heap}{a:Addr}{o:HO}
theorem ObjOk.lt (x:ObjOk P w H h a o):a<h.objs.size:=by
 cases o with
 | lst xs=>obtain⟨_,_,_,_,e⟩:=x; exact ay e
 | tup xs=>obtain⟨_,_,_,_,e⟩:=x; exact ay e
 | dK kvs=>obtain⟨_,_,_,_,o,_,_,e,_⟩:=x; exact ay e
 | dT kvs=>obtain⟨_,_,_,_,o,_,_,e,_⟩:=x; exact ay e
 | set S n=>obtain⟨o,_,_,_,e,_⟩:=x; exact ay e
 | ins C dx fs=>obtain⟨_,_,_,e,_⟩:=x; exact ay e
 | own y=>obtain⟨_,e⟩:=x; exact ay e
 | xd fs=>obtain⟨_,⟨_,_,_,e,_⟩,_⟩:=x; exact ay e
 | rng lo hi=>obtain⟨_,_,_,e⟩:=x; exact ay e
 | frz ob u=>obtain⟨e,_⟩:=x; exact ay e
 | tbl ps=>exact ay (show h.get? a=some _ from x)
 | met f y=>exact ay (show h.get? a=some _ from x)
 | ext φ=>obtain⟨_,⟨_,e⟩,_⟩:=x; exact ay e
theorem Paired.mapP {α β:Type}{F G:α->β->Prop} :∀ {l₁:List α}{l₂:List β},Paired F l₁ l₂->(∀ a b,F a b->G a b)->Paired G l₁ l₂
 | _,_, .nil,_=> .nil
 | _,_, .cons r t,f=> .cons (f _ _ r) (Paired.mapP t f)
theorem ObjOk.stay (x:ObjOk P w H h a o)(k:∀ b u,(b=a\/H b=some (.own a))->h.get? b=some u->h'.get? b=some u)
  (ho:∀ b,H b=some (.own a)->H' b=some (.own a)) (ht:∀ b xs,H b=some (.tup xs)->H' b=some (.tup xs)):ObjOk P w H' h' a o:=by
 induction o with
 | lst xs=>obtain⟨z,its,n,r,e⟩:=x; exact⟨z,its,n,r,k _ _ (.inl rfl) e⟩
 | tup xs=>obtain⟨z,its,r,n,e⟩:=x; exact⟨z,its,r,n,k _ _ (.inl rfl) e⟩
 | dK kvs=>obtain⟨z,y,vs,r,ob,es,ep,e,c⟩:=x; exact⟨z,y,vs,r,ob,es,ep,k _ _ (.inl rfl) e,c⟩
 | dT kvs=>
  obtain⟨z,y,xs,r,ob,es,ep,e,c⟩:=x
  exact⟨z,y,xs,Paired.mapP r fun p q z=>⟨z.1,ht _ _ z.2.1,z.2.2⟩,ob,es,ep,k _ _ (.inl rfl) e,c⟩
 | set S n=>obtain⟨ob,es,ep,t,e,c⟩:=x; exact⟨ob,es,ep,t,k _ _ (.inl rfl) e,c⟩
 | ins C dx fs=>
  obtain⟨d,z,ne,e,mA,⟨od,es,ep,e2,c⟩,r⟩:=x
  exact⟨ho _ d,z,ne,k _ _ (.inl rfl) e,mA,⟨od,es,ep,k _ _ (.inr d) e2,c⟩,r⟩
 | own y=>obtain⟨ob,e⟩:=x; exact⟨ob,k _ _ (.inl rfl) e⟩
 | xd fs=>obtain⟨mA,⟨od,es,ep,e,c⟩,r⟩:=x; exact⟨mA,⟨od,es,ep,k _ _ (.inl rfl) e,c⟩,r⟩
 | rng lo hi=>obtain⟨t,u,v,e⟩:=x; exact⟨t,u,v,k _ _ (.inl rfl) e⟩
 | frz ob u ih=>obtain⟨e,q⟩:=x; exact⟨k _ _ (.inl rfl) e,ih q⟩
 | tbl ps=>
  have e:h.get? a=some { cls:= .none,data:= .fields ps} :=x
  show h'.get? a=some { cls:= .none,data:= .fields ps}
  exact k a _ (.inl rfl) e
 | met f y=>
  have e:h.get? a=some (methodObj (.ref f) (.ref y)):=x
  show h'.get? a=some (methodObj (.ref f) (.ref y))
  exact k a _ (.inl rfl) e
 | ext φ=>obtain⟨p,⟨o,e⟩,st⟩:=x; exact⟨st _ _ p fun o q=>k _ _ (.inl rfl) q,⟨o,k _ _ (.inl rfl) e⟩,st⟩
theorem HOk.lt (x:HOk P w H h)(e:H a=some o):a<h.objs.size:=(x a o e).lt
theorem HOk.fresh (x:HOk P w H h)(e:h.objs.size<=a):H a=none:=by
 cases q:H a with
 | none=>rfl
 | some u=>exact absurd (aX (x.lt q) e) (cI _)
theorem HOk.kept (x:HOk P w H h)(k:∀ b u,h.get? b=some u->h'.get? b=some u):HOk P w H h':=fun a o e=>
 (x a o e).stay (fun b u _ q=>k b u q) (fun _ q=>q) fun _ _ q=>q
theorem HOk.laid (x:HOk P w H h)(k:∀ b u,h.get? b=some u->h'.get? b=some u)(hp:h.objs.size<=a)(new:ObjOk P w (upd H a o) h' a o):HOk P w (upd H a o) h':=fun b u e=>by
 have hn:=x.fresh hp
 by_cases hb:b=a
 ·subst hb; rw[j8] at e; cases e; exact new
 ·rw[jA hb] at e
  exact(x b u e).stay (fun c v _ q=>k c v q) (fun c q=>by rw[jA (jB q hn)]; exact q) fun c xs q=>by rw[jA (jB q hn)]; exact q
end
def Rd (H:Hp)(a:Addr)(u:HO):Prop:=H a=some u\/∃ o,H a=some (.frz o u)
theorem Rd.ok {P:Program}{w:World}{H:Hp}{h:Heap}{a:Addr}{u:HO}(r:Rd H a u)(x:HOk P w H h):ObjOk P w H h a u:=by
 rcases r with r | ⟨o,r⟩
 ·exact x a u r
 ·obtain⟨_,q⟩:=x a _ r
  exact q
def Mut:Option HO->Prop
 | some (.lst _)=>True
 | some (.dK _)=>True
 | some (.dT _)=>True
 | some (.set _ _)=>True
 | some (.ins _ _ _)=>True
 | some (.ext _)=>True
 | _=>False
section
variable {P:Program}{w:World}{H:Hp}{h h':Heap}{x e:Addr}{o':HO}
theorem HOk.write (ok:HOk P w H h)(mu:Mut (H x))(he:e=x\/H e=some (.own x))(k:∀ b u,b≠e->h.get? b=some u->h'.get? b=some u)(heo:∃ u,h'.get? e=some u)
  (new:ObjOk P w (upd H x o') h' x o'):HOk P w (upd H x o') h':=fun b u q=>by
 have nown:∀ c y,H c=some (.own y)->c≠x:=fun c y r z=>by subst z; rw[r] at mu; exact mu
 have ntup:∀ c xs,H c=some (.tup xs)->c≠x:=fun c xs r z=>by subst z; rw[r] at mu; exact mu
 by_cases hb:b=x
 ·subst hb; rw[j8] at q; cases q; exact new
 ·rw[jA hb] at q
  by_cases hbe:b=e
  ·have q':H b=some (.own x):=by
    rcases he with z | z
    ·exact absurd (hbe.trans z) hb
    ·rw[hbe]; exact z
   rw[q] at q'; cases q'
   obtain⟨v,hv⟩:=heo
   exact⟨v,by rw[hbe]; exact hv⟩
  ·refine(ok b u q).stay (fun c v hc r=>k c v ?_ r) (fun c r=>by rw[jA (nown c b r)]; exact r) fun c xs r=>by rw[jA (ntup c xs r)]; exact r
   rcases hc with rfl | hc
   ·exact hbe
   ·rintro rfl
    rcases he with z | z
    ·exact nown c b hc z
    ·rw[hc] at z; cases z; exact hb rfl
end
structure Un (fs ex:List Addr)(H H':Hp)(h h':Heap):Prop where
 keep:∀ b o,h.get? b=some o->H b=none->b∉fs->b∉ex->h'.get? b=some o
 slot:∀ b o,h.get? b=some o->H b=none->b∈fs->b∉ex->∃ sl,h'.get? b=some { o with slots:=sl}
 free:∀ b o,h.get? b=some o->H b=none->b∉ex->H' b=none
 there:∀ b o,h.get? b=some o->b∉ex->∃ o',h'.get? b=some o'
 tups:∀ b xs,H b=some (.tup xs)->H' b=some (.tup xs)
 frzs:∀ b o u,H b=some (.frz o u)->H' b=some (.frz o u)
 tbls:∀ b ps,H b=some (.tbl ps)->∃ more,H' b=some (.tbl (ps++more))
section
variable {fs fs' ex ex':List Addr}{H H1 H2:Hp}{h h1 h2 h':Heap}{a x e:Addr}{o:HO}
theorem Un.any (u:Un fs ex H H1 h h1){b:Addr}{ob:Obj}(q:h.get? b=some ob)(n:H b=none)(hx:b∉ex):∃ sl,h1.get? b=some { ob with slots:=sl} :=by
 by_cases hb:b∈fs
 ·exact u.slot b ob q n hb hx
 ·exact⟨ob.slots,u.keep b ob q n hb hx⟩
theorem Un.kept (k:∀ b u,h.get? b=some u->h'.get? b=some u):Un fs ex H H h h':=
 ⟨fun b ob q _ _ _=>k b ob q,fun b ob q _ _ _=>⟨ob.slots,k b ob q⟩,fun _ _ _ n _=>n,fun b ob q _=>⟨ob,k b ob q⟩,fun _ _ q=>q,fun _ _ _ q=>q,fun _ ps q=>⟨#[],by rw[q]; simp⟩⟩
theorem Un.refl:Un fs ex H H h h:=Un.kept fun _ _ q=>q
theorem Un.laid (k:∀ b u,h.get? b=some u->h'.get? b=some u)(hp:h.objs.size<=a)(hn:H a=none):Un fs ex H (upd H a o) h h' where
 keep:=fun b u q _ _ _=>k b u q
 slot:=fun b u q _ _ _=>⟨u.slots,k b u q⟩
 free:=fun b u q n _=>by rw[jA (aR (aX (ay q) hp))]; exact n
 there:=fun b u q _=>⟨u,k b u q⟩
 tups:=fun b xs q=>by rw[jA (jB q hn)]; exact q
 frzs:=fun b u xs q=>by rw[jA (jB q hn)]; exact q
 tbls:=fun b ps q=>⟨#[],by rw[jA (jB q hn),q]; simp⟩
theorem Un.write (mu:Mut (H x))(he:e=x\/H e=some (.own x))(k:∀ b u,b≠e->h.get? b=some u->h'.get? b=some u)(heo:∃ u,h'.get? e=some u):Un fs ex H (upd H x o) h h':=by
 have hx:∀ b,H b=none->b≠x:=fun b n z=>by subst z; rw[n] at mu; exact mu
 have hb:∀ b,H b=none->b≠e:=fun b n z=>by
  subst z
  rcases he with r | r
  ·exact hx b n r
  ·rw[n] at r; cases r
 have hm:∀ b u,H b=some u->¬ Mut (some u)->b≠x:=fun b u q nm z=>by subst z; rw[q] at mu; exact nm mu
 refine⟨fun b u q n _ _=>k b u (hb b n) q,fun b u q n _ _=>⟨u.slots,k b u (hb b n) q⟩,fun b u q n _=>by rw[jA (hx b n)]; exact n,fun b u q _=>?_,
  fun b xs q=>by rw[jA (hm b _ q fun z=>z)]; exact q,fun b u xs q=>by rw[jA (hm b _ q fun z=>z)]; exact q,fun b ps q=>⟨#[],by rw[jA (hm b _ q fun z=>z),q]; simp⟩⟩
 by_cases hbe:b=e
 ·subst hbe; exact heo
 ·exact⟨u,k b u hbe q⟩
end
def trk (h:Heap)(H:Hp):List Addr:=(List.range h.objs.size).filter fun a=>(H a).isSome
def hidT (h:Heap)(H:Hp):Heap:=PySem.W.hideAll h (trk h H)
theorem jM2 (h:Heap)(H:Hp):(hidT h H).objs.size=h.objs.size:=PySem.W.hideAll_size _ _
theorem jNV {h:Heap}{H:Hp}{b:Addr}{o:Obj}(e:h.get? b=some o)(n:H b=none):(hidT h H).get? b=some o:=
 PySem.W.hideAll_get _ e fun hm=>by
  have q:(H b).isSome=true:=(bz.mp hm).2
  rw[n] at q; simp at q
theorem jQB {h:Heap}{H:Hp}{b:Addr}{o:Obj}(e:(hidT h H).get? b=some o):h.get? b=some o/\H b=none:=by
 have e':h.get? b=some o:=PySem.W.of_hideAll (trk h H) e
 refine⟨e',?_⟩
 cases q:H b with
 | none=>rfl
 | some x=>
  have hm:b∈trk h H:=bz.mpr ⟨bO.mpr (ay e'),by simp [q]⟩
  have z:(hidT h H).get? b=none:=PySem.W.hideAll_none (trk h H) hm
  rw[z] at e; cases e
end L2
namespace L2
open PySem PySem.Spec PyProof.Rows
structure Mod (K:W.Frag)(mg:Str->Option Value)(base:Heap):Prop where
 kin:K.In base
 glob:base.Ns mainGlobals mg
 blt:∃ mb,base.Ns builtinsNs mb/\∀ x:Str,x≠ "__name__" ->mb x=bootBuiltins x
 nolimit:base.NoLimit
structure Cx where
 prog:Program
 w:World
 K:W.Frag
 mg:Str->Option Value
 base:Heap
 A:Around
 N:List Str
 s₀:Shared
 H₀:Hp
 env:Env
 outer:List Env
 stack:List Env
 ex:List Addr
 fn:Str->Bool
 calm:Bool
 pn:List (Addr×Obj)
 xe:Value->Shared->Prop
def frs (l:List Env):List Addr:=l.filterMap (·.frame)
abbrev Cx.fs (X:Cx):List Addr:=frs X.outer
def Vis (sc:Scope)(x:Str):Prop:=sc.names.lookup x=some .local\/sc.names.lookup x=some .cell\/sc.names.lookup x=some .free
def Loc (sc:Scope)(x:Str):Prop:=sc.names.lookup x=some .local\/sc.names.lookup x=some .cell
def Look (env:Env)(h:Heap)(m:Str->Option Value)(x:Str)(u:Value):Prop:=
 (env.kindOf x=some .local/\m x=some u)\/((env.kindOf x=some .cell\/env.kindOf x=some .free)/\∃ c,env.cells.lookup x=some c/\h.IsCell c (some u))
structure Cx.Ok (X:Cx):Prop where
 mod:Mod X.K X.mg X.base
 kind:X.env.scope.kind= .function
 glob:X.env.globals=mainGlobals
 blt:X.env.builtins=builtinsNs
 above:X.s₀.heap.objs.size<=X.env.locals
 inj:∀ x y c,X.env.cells.lookup x=some c->X.env.cells.lookup y=some c->x=y
 has:∀ x,(X.env.kindOf x=some .cell\/X.env.kindOf x=some .free)->∃ c,X.env.cells.lookup x=some c
 cab:∀ x c,X.fn x=true->X.env.cells.lookup x=some c->X.s₀.heap.objs.size<=c
 hd:X.calm=true->X.A.handled=none
 frames:X.A.frames=some X.stack
 stk:X.stack=X.outer\/(X.stack=X.env::X.outer/\X.env.frame=some X.env.locals)
 exf:∀ b∈X.ex,b≠X.env.locals/\∀ x c,X.env.cells.lookup x=some c->c≠b
 bs:∀ b o,X.base.get? b=some o->X.s₀.heap.get? b=some o/\X.H₀ b=none
 bsz:X.base.objs.size<=X.s₀.heap.objs.size
 noex:∀ b o,X.base.get? b=some o->b∉X.ex
 exfs:∀ b∈X.ex,b∉X.fs
 funs:X.s₀.heap.FunFrames X.base X.outer
 frf:∀ b∈X.fs,X.H₀ b=none
structure Inv (X:Cx)(pins:List (Addr×Obj))(σ:List (Option V))(H:Hp)(s:Shared):Prop where
 ok:X.Ok
 os:s.os=X.s₀.os
 bare:AllBare s.gens
 base:Un X.fs X.ex X.H₀ H X.s₀.heap s.heap
 loc:∃ m,s.heap.Ns X.env.locals m/\∀ (i:Nat) (x:Str) (v:V),X.N[i]?=some x->σ[i]?=some (some v)->Vis X.env.scope x->∃ u,RelV v u/\Look X.env s.heap m x u
 cell:∀ x c,X.env.cells.lookup x=some c->∃ v,s.heap.IsCell c v
 free:H X.env.locals=none
 freeC:∀ x c,X.env.cells.lookup x=some c->H c=none
 pin:∀ p∈X.pn++pins,s.heap.get? p.1=some p.2/\H p.1=none/\p.1≠X.env.locals/\p.1∉X.fs/\∀ v,p.2.data≠ .cell v
 hok:HOk X.prog X.w H s.heap
 len:σ.length=X.N.length
section
variable {X:Cx}{pins:List (Addr×Obj)}{σ:List (Option V)}{H H':Hp}{s:Shared}{h':Heap}
theorem Cx.Ok.nofr (ok:X.Ok){b:Addr}{o:Obj}(e:X.base.get? b=some o):b∉X.fs:=fun hb=>by
 have:=(ok.funs.mem hb).1
 rw[e] at this; cases this
theorem Inv.bs (I:Inv X pins σ H s):∀ b o,X.base.get? b=some o->s.heap.get? b=some o/\H b=none:=fun b o e=>
 ⟨I.base.keep b o (I.ok.bs b o e).1 (I.ok.bs b o e).2 (I.ok.nofr e) (I.ok.noex b o e),I.base.free b o (I.ok.bs b o e).1 (I.ok.bs b o e).2 (I.ok.noex b o e)⟩
theorem Inv.bk (I:Inv X pins σ H s):∀ b o,X.base.get? b=some o->s.heap.get? b=some o:=fun b o e=>(I.bs b o e).1
theorem Inv.mod (I:Inv X pins σ H s):Mod X.K X.mg X.base:=I.ok.mod
theorem Inv.kIn (I:Inv X pins σ H s):X.K.In s.heap:=I.ok.mod.kin.keeps I.bk
theorem Inv.lt (I:Inv X pins σ H s):X.env.locals<s.heap.objs.size:=let ⟨_,hn,_⟩:=I.loc; hn.lt
theorem Inv.sz (I:Inv X pins σ H s):X.s₀.heap.objs.size<=s.heap.objs.size:=bf I.ok.above (cJ I.lt)
theorem Inv.nofs (I:Inv X pins σ H s){a:Addr}(h:s.heap.objs.size<=a):a∉X.fs:=fun hb=>by
 obtain⟨_,o,ho,_⟩:=I.ok.funs.mem hb
 exact absurd (aX (ay ho) (bf I.sz h)) (cI _)
theorem Inv.cne (I:Inv X pins σ H s):∀ x c,X.env.cells.lookup x=some c->c≠X.env.locals:=fun x c e z=>by
 obtain⟨v,o,ho,hd⟩:=I.cell x c e
 obtain⟨m,⟨o',es,ep,ho',hd',_⟩,_⟩:=I.loc
 rw[z,ho'] at ho; cases ho; rw[hd'] at hd; cases hd
theorem Inv.funs (I:Inv X pins σ H s):s.heap.FunFrames X.base X.outer:=by
 have all:∀ (l:List Env),(∀ b∈frs l,b∈X.fs)->X.s₀.heap.FunFrames X.base l->s.heap.FunFrames X.base l:=by
  intro l
  induction l with
  | nil=>intro _ _; trivial
  | cons env r ih=>
   intro hs hl
   obtain⟨hk,⟨L,o,hf,hn,ho,hd⟩,hr⟩:=hl
   have hL:L∈X.fs:=hs L (by unfold frs; rw[dN,hf]; exact az)
   obtain⟨sl,e⟩:=I.base.slot L o ho (I.ok.frf L hL) hL fun z=>I.ok.exfs L z hL
   exact⟨hk,⟨L,_,hf,hn,e,hd⟩,ih (fun b hb=>hs b (by unfold frs; rw[dN,hf]; exact aM _ hb)) hr⟩
 exact all X.outer (fun _ hb=>hb) I.ok.funs
theorem Inv.stack (I:Inv X pins σ H s):s.heap.FunFrames X.base X.stack:=by
 rcases I.ok.stk with e | ⟨e,hf⟩
 ·rw[e]; exact I.funs
 ·rw[e]
  obtain⟨m,hn,_⟩:=I.loc
  refine .cons (by rw[I.ok.kind]; decide) hf hn ?_ I.funs
  exact Heap.get?_none_of_le (bf I.ok.bsz I.ok.above)
theorem Inv.stkSub (I:Inv X pins σ H s):∀ b∈frs X.stack,b∈X.env.locals::X.fs:=fun b hb=>by
 rcases I.ok.stk with e | ⟨e,hf⟩
 ·rw[e] at hb; exact aM _ hb
 ·rw[e] at hb
  unfold frs at hb
  rw[dN,hf] at hb
  exact hb
theorem Inv.stkFree (I:Inv X pins σ H s):∀ b∈frs X.stack,H b=none:=fun b hb=>by
 rcases aF.mp (I.stkSub b hb) with e | hb
 ·rw[e]; exact I.free
 ·obtain⟨_,o,ho,_⟩:=I.ok.funs.mem hb
  exact I.base.free b o ho (I.ok.frf b hb) fun z=>I.ok.exfs b z hb
theorem Inv.step {g':Array GenState}{t':Nat}{d':Drawn}{ch:List Addr}(I:Inv X pins σ H s)
  (hch:∀ b∈ch,(b∈X.ex\/X.s₀.heap.objs.size<=b)/\b≠X.env.locals/\(∀ x c,X.env.cells.lookup x=some c->c≠b)/\∀ p∈X.pn++pins,p.1≠b)
  (keep:∀ b o,b≠X.env.locals->b∉X.fs->b∉ch->s.heap.get? b=some o->H b=none->h'.get? b=some o)
  (slot:∀ b o,b≠X.env.locals->b∈X.fs->b∉ch->s.heap.get? b=some o->H b=none->∃ sl,h'.get? b=some { o with slots:=sl}) (free:∀ b o,b∉ch->s.heap.get? b=some o->H b=none->H' b=none)
  (there:∀ b o,b∉ch->s.heap.get? b=some o->∃ o',h'.get? b=some o')
  (tups:∀ b xs,H b=some (.tup xs)->H' b=some (.tup xs)) (frzs:∀ b o u,H b=some (.frz o u)->H' b=some (.frz o u)) (tbls:∀ b ps,H b=some (.tbl ps)->∃ more,H' b=some (.tbl (ps++more)))
  (ns:∀ m,s.heap.Ns X.env.locals m->h'.Ns X.env.locals m) (hok:HOk X.prog X.w H' h') (hg:AllBare g'):
  Inv X pins σ H' { s with heap:=h',gens:=g',drawn:=d',toks:=t'} :=by
 have neL:∀ b o,X.s₀.heap.get? b=some o->b≠X.env.locals:=fun b o e=>aR (aX (ay e) I.ok.above)
 have neC:∀ b o,X.s₀.heap.get? b=some o->b∉X.ex->b∉ch:=fun b o e hx hb=>by
  rcases (hch b hb).1 with z | z
  ·exact hx z
  ·exact absurd (aX (ay e) z) (cI _)
 have cellK:∀ x c,X.env.cells.lookup x=some c->∀ v,s.heap.IsCell c v->h'.IsCell c v:=fun x c e v ⟨o,ho,hd⟩=>by
  have nch:c∉ch:=fun z=>(hch c z).2.2.1 x c e rfl
  by_cases hc:c∈X.fs
  ·obtain⟨sl,q⟩:=slot c o (I.cne x c e) hc nch ho (I.freeC x c e)
   exact⟨_,q,hd⟩
  ·exact⟨o,keep c o (I.cne x c e) hc nch ho (I.freeC x c e),hd⟩
 refine⟨I.ok,I.os,hg,⟨fun b o e n hb hx=>?_,fun b o e n hb hx=>?_,fun b o e n hx=>?_,fun b o e hx=>?_,fun b xs e=>tups b xs (I.base.tups b xs e),fun b o xs e=>frzs b o xs (I.base.frzs b o xs e),fun b ps e=>?_⟩,?_,fun x c e=>?_,?_,fun x c e=>?_,fun p hp=>?_,hok,I.len⟩
 ·exact keep b o (neL b o e) hb (neC b o e hx) (I.base.keep b o e n hb hx) (I.base.free b o e n hx)
 ·obtain⟨sl,e1⟩:=I.base.slot b o e n hb hx
  obtain⟨sl',e2⟩:=slot b _ (neL b o e) hb (neC b o e hx) e1 (I.base.free b o e n hx)
  exact⟨sl',e2⟩
 ·obtain⟨o',e1⟩:=I.base.there b o e hx
  exact free b o' (neC b o e hx) e1 (I.base.free b o e n hx)
 ·obtain⟨o',e1⟩:=I.base.there b o e hx
  exact there b o' (neC b o e hx) e1
 ·obtain⟨m1,e1⟩:=I.base.tbls b ps e
  obtain⟨m2,e2⟩:=tbls b _ e1
  exact⟨m1++m2,by rw[e2,iU]⟩
 ·obtain⟨m,hn,hl⟩:=I.loc
  refine⟨m,ns m hn,fun i x v e1 e2 e3=>?_⟩
  obtain⟨u,r,l⟩:=hl i x v e1 e2 e3
  refine⟨u,r,?_⟩
  rcases l with l | ⟨k,c,e,z⟩
  ·exact .inl l
  ·exact .inr ⟨k,c,e,cellK x c e _ z⟩
 ·obtain⟨v,z⟩:=I.cell x c e
  exact⟨v,cellK x c e v z⟩
 ·obtain⟨m,⟨o,_,_,ho,_⟩,_⟩:=I.loc
  exact free _ o (fun z=>(hch _ z).2.1 rfl) ho I.free
 ·obtain⟨v,o,ho,hd⟩:=I.cell x c e
  exact free c o (fun z=>(hch c z).2.2.1 x c e rfl) ho (I.freeC x c e)
 ·obtain⟨e,n,ne,nf,d⟩:=I.pin p hp
  have nch:p.1∉ch:=fun z=>(hch p.1 z).2.2.2 p hp rfl
  exact⟨keep p.1 p.2 ne nf nch e n,free p.1 p.2 nch e n,ne,nf,d⟩
theorem Inv.un {t':Nat}(I:Inv X pins σ H s)(u:Un X.fs [] H H' s.heap h')(hok:HOk X.prog X.w H' h'):Inv X pins σ H' { s with heap:=h',toks:=t'} :=by
 obtain⟨m,⟨o,es,ep,ho,r⟩,_⟩:=id I.loc
 obtain⟨sl,hL⟩:=u.any ho I.free (by simp)
 exact I.step (g':=s.gens) (d':=s.drawn) (ch:=[]) (fun _ z=>nomatch z) (fun b o _ hb _ e n=>u.keep b o e n hb (by simp)) (fun b o _ hb _ e n=>u.slot b o e n hb (by simp)) (fun b o _ e n=>u.free b o e n (by simp)) (fun b o _ e=>u.there b o e (by simp)) u.tups u.frzs u.tbls (fun m' hm=>by
  obtain⟨o',es',ep',ho',r'⟩:=hm
  rw[ho] at ho'; cases ho'
  exact⟨_,es',ep',hL,r'⟩) hok I.bare
theorem Inv.call {g':Array GenState}{t':Nat}{d':Drawn}{ch:List Addr}(I:Inv X pins σ H s)(u:Un (frs X.stack) ch H H' s.heap h')(hok:HOk X.prog X.w H' h')(hg:AllBare g')
  (hch:∀ b∈ch,(b∈X.ex\/X.s₀.heap.objs.size<=b)/\b≠X.env.locals/\(∀ x c,X.env.cells.lookup x=some c->c≠b)/\∀ p∈X.pn++pins,p.1≠b):
  Inv X pins σ H' { s with heap:=h',gens:=g',drawn:=d',toks:=t'} :=by
 obtain⟨m,⟨o,es,ep,ho,r⟩,_⟩:=id I.loc
 obtain⟨sl,hL⟩:=u.any ho I.free fun z=>(hch _ z).2.1 rfl
 exact I.step (ch:=ch) hch (fun b o hL hb hc e n=>u.keep b o e n (fun z=>(aF.mp (I.stkSub b z)).elim hL hb) hc) (fun b o _ _ hc e n=>u.any e n hc) (fun b o hc e n=>u.free b o e n hc) (fun b o hc e=>u.there b o e hc) u.tups u.frzs u.tbls (fun m' hm=>by
  obtain⟨o',es',ep',ho',r'⟩:=hm
  rw[ho] at ho'; cases ho'
  exact⟨_,es',ep',hL,r'⟩) hok hg
theorem Inv.turned {t':Nat}{it:Addr}(I:Inv X pins σ H s)(k:∀ b o,b≠it->s.heap.get? b=some o->h'.get? b=some o)(hn:H it=none)(hL:it≠X.env.locals)
  (h1:it∈X.ex\/X.s₀.heap.objs.size<=it) (h2:∀ x c,X.env.cells.lookup x=some c->c≠it) (h3:∀ p∈X.pn++pins,p.1≠it):Inv X pins σ H { s with heap:=h',toks:=t'} :=by
 have nit:∀ b u,H b=some u->b≠it:=fun b u e z=>by rw[z,hn] at e; cases e
 refine I.step (g':=s.gens) (d':=s.drawn) (ch:=[it]) (fun b hb=>?_) (fun b o _ _ hc e _=>k b o (fun z=>hc (by simp [z])) e) (fun b o _ _ hc e _=>⟨o.slots,k b o (fun z=>hc (by simp [z])) e⟩) (fun _ _ _ _ n=>n)
  (fun b o hc e=>⟨o,k b o (fun z=>hc (by simp [z])) e⟩) (fun _ _ e=>e) (fun _ _ _ e=>e) (fun b ps e=>⟨#[],by rw[e]; simp⟩) (fun m hm=>?_) (fun b u e=>?_) I.bare
 ·have e:b=it:=by simpa using hb
  subst e
  exact⟨h1,hL,h2,h3⟩
 ·obtain⟨o,es,ep,ho,r⟩:=hm
  exact⟨o,es,ep,k _ o (cY hL) ho,r⟩
 ·refine(I.hok b u e).stay (fun c v hc q=>k c v ?_ q) (fun _ q=>q) fun _ _ q=>q
  rcases hc with z | z
  ·rw[z]; exact nit b u e
  ·exact nit c _ z
theorem Inv.tok (I:Inv X pins σ H s)(t:Nat):Inv X pins σ H { s with toks:=t} :=I.un (h':=s.heap) (t':=t) Un.refl I.hok
theorem Inv.kept {t':Nat}(I:Inv X pins σ H s)(k:∀ b u,s.heap.get? b=some u->h'.get? b=some u):Inv X pins σ H { s with heap:=h',toks:=t'} :=I.un (Un.kept k) (I.hok.kept k)
theorem Inv.laid {a:Addr}{o:HO}{t':Nat}(I:Inv X pins σ H s)(k:∀ b u,s.heap.get? b=some u->h'.get? b=some u)(hp:s.heap.objs.size<=a)(new:ObjOk X.prog X.w (upd H a o) h' a o):
  Inv X pins σ (upd H a o) { s with heap:=h',toks:=t'} :=I.un (Un.laid k hp (I.hok.fresh hp)) (I.hok.laid k hp new)
theorem Inv.write {x e:Addr}{o:HO}{t':Nat}(I:Inv X pins σ H s)(mu:Mut (H x))(he:e=x\/H e=some (.own x))(k:∀ b u,b≠e->s.heap.get? b=some u->h'.get? b=some u)(heo:∃ u,h'.get? e=some u)
  (new:ObjOk X.prog X.w (upd H x o) h' x o):Inv X pins σ (upd H x o) { s with heap:=h',toks:=t'} :=I.un (Un.write mu he k heo) (I.hok.write mu he k heo new)
theorem Inv.pins_of {pins':List (Addr×Obj)}(I:Inv X pins σ H s)(h:∀ p∈pins',s.heap.get? p.1=some p.2/\H p.1=none/\p.1≠X.env.locals/\p.1∉X.fs/\∀ v,p.2.data≠ .cell v):Inv X pins' σ H s:=
 ⟨I.ok,I.os,I.bare,I.base,I.loc,I.cell,I.free,I.freeC,fun p hp=>(aN.mp hp).elim (fun z=>I.pin p (aY _ z)) (h p),I.hok,I.len⟩
theorem jIK {N:List Str}(hN:N.Nodup){i j:Nat}{x:Str}(a:N[i]?=some x)(b:N[j]?=some x):i=j:=by
 obtain⟨h1,e1⟩:=ar.mp a
 obtain⟨h2,e2⟩:=ar.mp b
 exact(List.getElem_inj hN).mp (e1.trans e2.symm)
theorem jFT {M:Model}{A:Around}{E:Value->Shared->Prop}{i:Nat}{x:Str}{v:V}{u:Value}{Q:Unit->Shared->Prop}(I:Inv X pins σ H s)(hN:X.N.Nodup)(hi:X.N[i]?=some x)(hx:Loc X.env.scope x)(r:RelV v u)
  (h:∀ s',Inv X pins (σ.set i (some v)) H s'->(∃ a,Heap.SameBut a s.heap s'.heap/\(a=X.env.locals\/X.env.cells.lookup x=some a))->Q () s') (hf:X.fn x=true\/X.env.scope.names.lookup x=some .local:=by first | exact .inl rfl | exact .inr rfl | assumption):wpAny M A (storeName X.env x u) Q E s:=by
 obtain⟨m,hn,hl⟩:=id I.loc
 have hcls:(X.env.scope.kind== .class || (X.env.scope.kind== .module&&X.env.locals != X.env.globals))=false:=by rw[I.ok.kind]; rfl
 have hiσ:i<σ.length:=by rw[I.len]; exact(ar.mp hi).1
 have cne:=I.cne
 have tracked:∀ {a:Addr}{h':Heap},(∃ o,s.heap.get? a=some o/\H a=none)->Heap.SameBut a s.heap h'->HOk X.prog X.w H h':=fun {a h'} ha hs b ob e=>by
  obtain⟨_,_,hfree⟩:=ha
  refine(I.hok b ob e).stay (fun c w' hc q=>(hs.2 c ?_).trans q) (fun _ q=>q) fun _ _ q=>q
  rintro rfl
  rcases hc with rfl | hc
  ·rw[hfree] at e; cases e
  ·rw[hfree] at hc; cases hc
 rcases hx with hk | hk
 ·refine wpAny_storeName_local hk hn (fun h' hn' hs=>?_) hcls
  obtain⟨oL,_,_,hoL,_⟩:=id hn
  refine h _ ⟨I.ok,I.os,I.bare,⟨fun b o e n hb hx=>?_,fun b o e n hb hx=>?_,I.base.free,fun b o e hx=>?_,I.base.tups,I.base.frzs,I.base.tbls⟩,⟨_,hn',fun j y v' e1 e2 e3=>?_⟩,fun y c e=>?_,I.free,I.freeC,fun p hp=>?_,tracked ⟨oL,hoL,I.free⟩ hs,by simpa using I.len⟩ ⟨_,hs, .inl rfl⟩
  ·exact(hs.2 b (aR (aX (ay e) I.ok.above))).trans (I.base.keep b o e n hb hx)
  ·obtain⟨sl,e1⟩:=I.base.slot b o e n hb hx
   exact⟨sl,(hs.2 b (aR (aX (ay e) I.ok.above))).trans e1⟩
  ·obtain⟨o',e1⟩:=I.base.there b o e hx
   exact⟨o',(hs.2 b (aR (aX (ay e) I.ok.above))).trans e1⟩
  ·by_cases hj:j=i
   ·subst hj
    rw[hi] at e1; cases e1
    rw[fg hiσ] at e2
    cases e2
    exact⟨u,r, .inl ⟨hk,by simp⟩⟩
   ·rw[gm (cY hj)] at e2
    obtain⟨u',r',q⟩:=hl j y v' e1 e2 e3
    refine⟨u',r',?_⟩
    rcases q with ⟨k,e⟩ | ⟨k,c,e,z⟩
    ·refine .inl ⟨k,?_⟩
     have:y≠x:=fun e=>hj (jIK hN e1 (e ▸ hi))
     simp [this,e]
    ·exact .inr ⟨k,c,e,z.sameBut hs (cne y c e)⟩
  ·obtain⟨w',z⟩:=I.cell y c e
   exact⟨w',z.sameBut hs (cne y c e)⟩
  ·obtain⟨e,n,ne,nf,d⟩:=I.pin p hp
   exact⟨(hs.2 p.1 ne).trans e,n,ne,nf,d⟩
 ·have hfn:X.fn x=true:=by
   rcases hf with z | z
   ·exact z
   ·rw[z] at hk; cases hk
  obtain⟨c,hc⟩:=I.ok.has x (.inl hk)
  obtain⟨w',z⟩:=I.cell x c hc
  refine wpAny_storeName_cell I.ok.kind hk hc z (fun h' hc' hs=>?_)
  obtain⟨oc,hoc,hocd⟩:=id z
  refine h { s with heap:=h'} ⟨I.ok,I.os,I.bare,⟨fun b o e n hb hx=>?_,fun b o e n hb hx=>?_,I.base.free,fun b o e hx=>?_,I.base.tups,I.base.frzs,I.base.tbls⟩,⟨m,hn.sameBut hs (cY (cne x c hc)),fun j y v' e1 e2 e3=>?_⟩,fun y c' e=>?_,I.free,I.freeC,fun p hp=>?_,tracked ⟨oc,hoc,I.freeC x c hc⟩ hs,by simpa using I.len⟩ ⟨c,hs, .inr hc⟩
  ·exact(hs.2 b (aR (aX (ay e) (I.ok.cab x c hfn hc)))).trans (I.base.keep b o e n hb hx)
  ·obtain⟨sl,e1⟩:=I.base.slot b o e n hb hx
   exact⟨sl,(hs.2 b (aR (aX (ay e) (I.ok.cab x c hfn hc)))).trans e1⟩
  ·obtain⟨o',e1⟩:=I.base.there b o e hx
   exact⟨o',(hs.2 b (aR (aX (ay e) (I.ok.cab x c hfn hc)))).trans e1⟩
  ·by_cases hj:j=i
   ·subst hj
    rw[hi] at e1; cases e1
    rw[fg hiσ] at e2
    cases e2
    exact⟨u,r, .inr ⟨.inl hk,c,hc,hc'⟩⟩
   ·rw[gm (cY hj)] at e2
    obtain⟨u',r',q⟩:=hl j y v' e1 e2 e3
    refine⟨u',r',?_⟩
    rcases q with q | ⟨k,c',e,z'⟩
    ·exact .inl q
    ·refine .inr ⟨k,c',e,z'.sameBut hs ?_⟩
     rintro rfl
     exact hj (jIK hN e1 (I.ok.inj _ _ _ e hc ▸ hi))
  ·by_cases hcc:c'=c
   ·subst hcc; exact⟨_,hc'⟩
   ·obtain⟨w2,z2⟩:=I.cell y c' e
    exact⟨w2,z2.sameBut hs hcc⟩
  ·obtain⟨e,n,ne,nf,d⟩:=I.pin p hp
   refine⟨(hs.2 p.1 ?_).trans e,n,ne,nf,d⟩
   intro q
   rw[q,hoc] at e
   have q':oc=p.2:=bh e
   exact d w' (by rw[<- q']; exact hocd)
theorem jBW {M:Model}{A:Around}{E:Value->Shared->Prop}{i:Nat}{x:Str}{v:V}{u:Value}{Q:Unit->Shared->Prop}(I:Inv X pins σ H s)(hN:X.N.Nodup)(hi:X.N[i]?=some x)(hx:Loc X.env.scope x)(r:RelV v u)
  (h:∀ s',Inv X pins (σ.set i (some v)) H s'->Q () s') (hf:X.fn x=true\/X.env.scope.names.lookup x=some .local:=by first | exact .inl rfl | exact .inr rfl | assumption):wpAny M A (storeName X.env x u) Q E s:=
 jFT I hN hi hx r (fun s' I' _=>h s' I') hf
theorem Inv.call' {s':Shared}{ch:List Addr}(I:Inv X pins σ H s)(ho:s'.os=s.os)(u:Un (frs X.stack) ch H H' s.heap s'.heap)(hok:HOk X.prog X.w H' s'.heap)(hg:AllBare s'.gens)
  (hch:∀ b∈ch,(b∈X.ex\/X.s₀.heap.objs.size<=b)/\b≠X.env.locals/\(∀ x c,X.env.cells.lookup x=some c->c≠b)/\∀ p∈X.pn++pins,p.1≠b):Inv X pins σ H' s':=by
 obtain⟨h',g',d',t',o'⟩:=s'
 have e:o'=s.os:=ho
 subst e
 exact I.call (g':=g') (t':=t') (d':=d') u hok hg hch
end
abbrev XK:=Value->Option Addr->Hp->Prop
abbrev St:=List (Option V)
abbrev VK:=V->Hp->Prop
abbrev TE:=St->Hp->VK->Prop
abbrev TT:=St->Hp->(Bool->Hp->Prop)->Prop
abbrev TA:=St->Hp->(List V->Hp->Prop)->Prop
structure Ends where
 nx:St->Hp->Prop
 rt:VK
 bk:St->Hp->Prop:=fun _ _=>False
 ct:St->Hp->Prop:=fun _ _=>False
abbrev TS:=Ends->St->Hp->Prop
def EP (X:Cx)(pins:List (Addr×Obj))(σ:St)(Q:VK)(u:Value)(s':Shared):Prop:=∃ v H',Inv X pins σ H' s'/\RelV v u/\Q v H'
def TP (X:Cx)(pins:List (Addr×Obj))(σ:St)(Q:Bool->Hp->Prop)(b:Bool)(s':Shared):Prop:=∃ H',Inv X pins σ H' s'/\Q b H'
def AP (X:Cx)(pins:List (Addr×Obj))(σ:St)(Q:List V->Hp->Prop)(us:List Value)(s':Shared):Prop:=∃ vs H',Inv X pins σ H' s'/\Vals vs us/\Q vs H'
def SP (X:Cx)(pins:List (Addr×Obj))(D:Ends)(f:Flow)(s':Shared):Prop:=
 match f with
 | .next=>∃ σ' H',Inv X pins σ' H' s'/\D.nx σ' H'
 | .brk=>∃ σ' H',Inv X pins σ' H' s'/\D.bk σ' H'
 | .cont=>∃ σ' H',Inv X pins σ' H' s'/\D.ct σ' H'
 | .ret u=>∃ v σ' H',Inv X pins σ' H' s'/\RelV v u/\D.rt v H'
def PE (X:Cx)(e:Expr)(t:TE):Prop:=
 ∀ (pins:List (Addr×Obj)) (s:Shared) (σ:St) (H:Hp) (Q:VK),Inv X pins σ H s->t σ H Q->wpAny (model X.prog X.w) X.A (eval e X.env) (EP X pins σ Q) X.xe s
def PT (X:Cx)(e:Expr)(t:TT):Prop:=
 ∀ (pins:List (Addr×Obj)) (s:Shared) (σ:St) (H:Hp) (Q:Bool->Hp->Prop),Inv X pins σ H s->t σ H Q->wpAny (model X.prog X.w) X.A (isTrue e X.env (eval e X.env)) (TP X pins σ Q) X.xe s
def PW (X:Cx)(e:Expr)(t:TT):Prop:=
 ∀ (whole:Sem Value) (pins:List (Addr×Obj)) (s:Shared) (σ:St) (H:Hp) (Q:Bool->Hp->Prop),Inv X pins σ H s->t σ H Q->wpAny (model X.prog X.w) X.A (isTrue e X.env whole) (TP X pins σ Q) X.xe s
theorem PW.pt {X:Cx}{e:Expr}{t:TT}(h:PW X e t):PT X e t:=h _
def PA (X:Cx)(es:List Expr)(t:TA):Prop:=
 ∀ (pos:Pos) (pins:List (Addr×Obj)) (s:Shared) (σ:St) (H:Hp) (Q:List V->Hp->Prop),Inv X pins σ H s->t σ H Q->wpAny (model X.prog X.w) X.A (spliced (backTo pos (starEach es X.env))) (AP X pins σ Q) X.xe s
def PS (X:Cx)(st:Stmt)(t:TS):Prop:=
 ∀ (pins:List (Addr×Obj)) (s:Shared) (σ:St) (H:Hp) (D:Ends),Inv X pins σ H s->t D σ H->wpAny (model X.prog X.w) X.A (exec st X.env) (SP X pins D) X.xe s
def PSs (X:Cx)(st:List Stmt)(t:TS):Prop:=
 ∀ (pins:List (Addr×Obj)) (s:Shared) (σ:St) (H:Hp) (D:Ends),Inv X pins σ H s->t D σ H->wpAny (model X.prog X.w) X.A (execs st X.env) (SP X pins D) X.xe s
theorem thn {α:Type}{t:Sem α}{Q Q':α->Shared->Prop}{M:Model}{A:Around}{E:Value->Shared->Prop}{s:Shared}(h:wpAny M A t Q E s)(hQ:∀ a s,Q a s->Q' a s):wpAny M A t Q' E s:=bw h hQ fun _ _ x=>x
end L2
namespace L2
open PySem PySem.Spec PyProof.Rows
section
variable {X:Cx}
def tVar (i:Nat):TE:=fun σ H Q=>∃ v,σ[i]?=some (some v)/\Q v H
def tC (v:V):TE:=fun _ H Q=>Q v H
theorem jKW {i:Nat}{x:Str}{pos:Pos}(hN:X.N[i]?=some x)(hv:Vis X.env.scope x)(hd:(x==("__debug__" :Str))=false:=by decide)(hcd:(x==("__classdict__" :Str))=false:=by decide):PE X (.Name x pos) (tVar i):=by
 intro pins s σ H Q I h
 obtain⟨v,e,h⟩:=h
 obtain⟨m,hn,hl⟩:=I.loc
 obtain⟨u,r,l⟩:=hl i x v hN e hv
 have fin:EP X pins σ Q u s:=⟨v,H,I,r,h⟩
 rcases l with ⟨hk,hm⟩ | ⟨hk,c,hc,hcell⟩
 ·exact wpAny_Name (wpAny_loadName_local I.ok.kind hk hn hm fin) hd
 ·rcases hk with hk | hk
  ·exact wpAny_Name (wpAny_loadName_cell I.ok.kind hk hc hcell fin) hd
  ·exact wpAny_Name (wpAny_loadName_free I.ok.kind hk hc hcell fin hcd) hd
theorem jM {i j pos} :PE X (.Constant (.int i) j pos) (tC (.int i)):=fun _ _ _ H _ I h=>wpAny_Constant_int ⟨.int i,H,I.tok _,⟨_,rfl⟩,h⟩
theorem pe_bl {b j pos} :PE X (.Constant (.bool b) j pos) (tC (.bl b)):=fun _ _ _ H _ I h=>Constant_bool ⟨.bl b,H,I,rfl,h⟩
theorem jS0 {j pos} :PE X (.Constant .none j pos) (tC .non):=fun _ _ _ H _ I h=>Constant_none ⟨.non,H,I,rfl,h⟩
theorem jRX {x j pos} :PE X (.Constant (.str x) j pos) (tC (.str x)):=fun _ _ _ H _ I h=>Calls.Constant_str ⟨.str x,H,I.tok _,⟨_,rfl⟩,h⟩
def Gl (X:Cx)(x:Str):Prop:=X.env.kindOf x=some .globalImplicit
theorem jBP {E:Value->Shared->Prop}{pins:List (Addr×Obj)}{s:Shared}{σ:St}{H:Hp}{x:Str}{u:Value}{pos:Pos}{Q:Value->Shared->Prop}(I:Inv X pins σ H s)(hg:Gl X x)(hm:X.mg x=some u)(h:Q u s)
  (hd:(x==("__debug__" :Str))=false:=by decide):wpAny (model X.prog X.w) X.A (eval (.Name x pos) X.env) Q E s:=
 gI I.ok.kind hg (Calls.loadGlobal_global (by rw[I.ok.glob]; exact I.mod.glob.keeps I.bk) hm h) hd
theorem jDP {E:Value->Shared->Prop}{pins:List (Addr×Obj)}{s:Shared}{σ:St}{H:Hp}{x:Str}{u:Value}{pos:Pos}{Q:Value->Shared->Prop}(I:Inv X pins σ H s)(hg:Gl X x)(hm:X.mg x=none)(hv:bootBuiltins x=some u)(h:Q u s)
  (hn:x≠ "__name__" :=by decide) (hd:(x==("__debug__" :Str))=false:=by decide):wpAny (model X.prog X.w) X.A (eval (.Name x pos) X.env) Q E s:=by
 obtain⟨mb,h1,h2⟩:=I.mod.blt
 exact gI I.ok.kind hg (Calls.loadGlobal_builtin (by rw[I.ok.glob]; exact I.mod.glob.keeps I.bk) hm (by rw[I.ok.blt]; exact h1.keeps I.bk) ((h2 x hn).trans hv) h) hd
theorem jPO {x:Str}{v:V}{u:Value}{pos:Pos}(hg:Gl X x)(hm:X.mg x=some u)(r:RelV v u)(hd:(x==("__debug__" :Str))=false:=by decide):PE X (.Name x pos) (tC v):=
 fun _ _ _ H _ I h=>jBP I hg hm ⟨v,H,I,r,h⟩ hd
theorem jPW {x:Str}{v:V}{u:Value}{pos:Pos}(hg:Gl X x)(hm:X.mg x=none)(hv:bootBuiltins x=some u)(r:RelV v u)(hn:x≠ "__name__" :=by decide)(hd:(x==("__debug__" :Str))=false:=by decide):PE X (.Name x pos) (tC v):=
 fun _ _ _ H _ I h=>jDP I hg hm hv ⟨v,H,I,r,h⟩ hn hd
variable {a b:Expr}{ta tb:TE}{pos:Pos}
def PC (X:Cx)(op:CmpOp)(a b:Expr)(t:TE):Prop:=
 ∀ (pins:List (Addr×Obj)) (s:Shared) (σ:St) (H:Hp) (Q:VK),Inv X pins σ H s->t σ H Q->
  wpAny (model X.prog X.w) X.A (eval a X.env) (fun v s₁=>wpAny (model X.prog X.w) X.A (eval b X.env) (fun u s₂=>wpAny (model X.prog X.w) X.A (compareOp op v u) (EP X pins σ Q) X.xe s₂) X.xe s₁) X.xe s
def tB (t:TE):TT:=fun σ H Q=>t σ H fun x H1=>∃ c,x= .bl c/\Q c H1
theorem jRQ {op:CmpOp}{t:TE}(h:PC X op a b t)(h1:behindInMarks op b=false:=by first | exact nobehind _ (by decide) (by decide) | rfl):PT X (.Compare a [op] [b] pos) (tB t):=by
 intro pins s σ H Q I hw
 refine wpAny_isTrue_Compare1 (thn (h pins s σ H _ I hw) fun v s1 h1=>thn h1 fun u s2 h2=>thn h2 fun c s3 ⟨x,H1,I1,r1,q1⟩=>?_) h1
 obtain⟨d,rfl,q⟩:=q1
 cases r1
 exact dE ⟨H1,I1,q⟩
theorem jRO {e:Expr}{t:TE}(h:PE X e t)(he:∀ whole,isTrue e X.env whole=(do let v <- whole; standAt e.pos; holding [v] (truthy v)):=by intro _; rfl):PT X e (tB t):=by
 intro pins s σ H Q I hw
 refine isTrue_plain (thn (h pins s σ H _ I hw) fun v s1 ⟨x,H1,I1,r1,q1⟩=>?_) (he _)
 obtain⟨d,rfl,q⟩:=q1
 cases r1
 exact dE ⟨H1,I1,q⟩
variable {tA tB':TT}{rest:List Expr}
def tAnd (t u:TT):TT:=fun σ H Q=>t σ H fun c H1=>if c=true then u σ H1 Q else Q false H1
def tOr (t u:TT):TT:=fun σ H Q=>t σ H fun c H1=>if c=true then Q true H1 else u σ H1 Q
def tNot (t:TT):TT:=fun σ H Q=>t σ H fun c H1=>Q (!c) H1
theorem jPA (ha:PT X a tA):PW X (.BoolOp .And [a] pos) tA:=by
 intro wh pins s σ H Q I h
 refine isTrue_and (thn (ha pins s σ H Q I h) fun c s1 e=>?_)
 cases c with
 | true=>exact isTrue_and_nil e
 | false=>exact e
theorem jRM (ha:PT X a tA):PW X (.BoolOp .Or [a] pos) tA:=by
 intro wh pins s σ H Q I h
 refine isTrue_or (thn (ha pins s σ H Q I h) fun c s1 e=>?_)
 cases c with
 | false=>exact isTrue_or_nil e
 | true=>exact e
theorem jRN (ha:PT X a tA)(hb:PW X (.BoolOp .And (b::rest) pos) tB'):PW X (.BoolOp .And (a::b::rest) pos) (tAnd tA tB'):=by
 intro wh pins s σ H Q I h
 refine isTrue_and (thn (ha pins s σ H _ I h) fun c s1 ⟨H1,I1,q1⟩=>?_)
 cases c with
 | true=>exact hb wh pins s1 σ H1 Q I1 q1
 | false=>exact⟨H1,I1,q1⟩
theorem pw_or (ha:PT X a tA)(hb:PW X (.BoolOp .Or (b::rest) pos) tB'):PW X (.BoolOp .Or (a::b::rest) pos) (tOr tA tB'):=by
 intro wh pins s σ H Q I h
 refine isTrue_or (thn (ha pins s σ H _ I h) fun c s1 ⟨H1,I1,q1⟩=>?_)
 cases c with
 | true=>exact⟨H1,I1,q1⟩
 | false=>exact hb wh pins s1 σ H1 Q I1 q1
theorem jRP (ha:PT X a tA):PT X (.UnaryOp .Not a pos) (tNot tA):=by
 intro pins s σ H Q I h
 exact isTrue_not (ha pins s σ H (fun c H1=>Q (!c) H1) I h)
def tAndV (ta tb:TE):TE:=fun σ H Q=>ta σ H fun x H1=>∃ c,x= .bl c/\if c=true then tb σ H1 Q else Q (.bl false) H1
def tNotV (ta:TE):TE:=fun σ H Q=>ta σ H fun x H1=>∃ c,x= .bl c/\Q (.bl (!c)) H1
theorem jRY {op}{t:TE}(h:PE X a t):PE X (.BoolOp op [a] pos) t:=fun pins s σ H Q I hw=>BoolOp_one (h pins s σ H Q I hw)
theorem jS3 (ha:PE X a ta)(hb:PE X (.BoolOp .And (b::rest) pos) tb):PE X (.BoolOp .And (a::b::rest) pos) (tAndV ta tb):=by
 intro pins s σ H Q I h
 refine BoolOp_and (thn (ha pins s σ H _ I h) fun v s1 ⟨x,H1,I1,r1,q1⟩=>?_)
 obtain⟨c,rfl,q1⟩:=q1
 cases r1
 refine dE ?_
 cases c with
 | true=>exact hb pins s1 σ H1 Q I1 q1
 | false=>exact⟨.bl false,H1,I1,rfl,q1⟩
theorem jRZ (ha:PE X a ta):PE X (.UnaryOp .Not a pos) (tNotV ta):=by
 intro pins s σ H Q I h
 refine UnaryOp_ (thn (ha pins s σ H _ I h) fun v s1 ⟨x,H1,I1,r1,q1⟩=>?_)
 obtain⟨c,rfl,q1⟩:=q1
 cases r1
 exact not_of (dE ⟨.bl (!c),H1,I1,rfl,q1⟩)
def tIf (t:TT)(ta tb:TE):TE:=fun σ H Q=>t σ H fun c H1=>if c=true then ta σ H1 Q else tb σ H1 Q
theorem jN7 {c:Expr}(hc:PT X c tA)(ha:PE X a ta)(hb:PE X b tb):PE X (.IfExp c a b pos) (tIf tA ta tb):=by
 intro pins s σ H Q I h
 refine wpAny_IfExp (thn (hc pins s σ H _ I h) fun d s1 ⟨H1,I1,q1⟩=>?_)
 cases d with
 | true=>exact ha pins s1 σ H1 Q I1 q1
 | false=>exact hb pins s1 σ H1 Q I1 q1
end
end L2
namespace L2
open PySem PySem.Spec PyProof.Rows
def SqL (K:W.Frag)(H:Hp)(a:Addr)(xs:List V):Prop:=
 Rd H a (.lst xs)\/
  ∃ (o:Obj) (its:Array Value) (n:Nat),K.lookup a=some o/\o.cls= .type "list" /\o.dict=none/\o.data= .seq its n/\its.size<=sizeLine/\Vals xs its.toList
def SqT (K:W.Frag)(H:Hp)(a:Addr)(xs:List V):Prop:=
 Rd H a (.tup xs)\/
  ∃ (o:Obj) (its:Array Value) (n:Nat),K.lookup a=some o/\o.cls= .type "tuple" /\o.data= .seq its n/\its.size<=sizeLine/\Vals xs its.toList
def absV:Value->Option V
 | .none=>some .non
 | .bool b=>some (.bl b)
 | .int i _=>some (.int i)
 | .str x _=>some (.str x)
 | .bytes b _=>some (.byt b)
 | .float b _=>some (.flt b)
 | .ref a=>some (.ref a)
 | .type n=>some (.ty n)
 | _=>none
theorem RelV.abs {x:V}{u:Value}(r:RelV x u):absV u=some x:=by
 cases x with
 | non=>cases r; rfl
 | bl _=>cases r; rfl
 | int _=>obtain⟨t,rfl⟩:=r; rfl
 | str _=>obtain⟨t,rfl⟩:=r; rfl
 | byt _=>obtain⟨t,rfl⟩:=r; rfl
 | flt _=>obtain⟨t,rfl⟩:=r; rfl
 | ref _=>cases r; rfl
 | ty _=>cases r; rfl
theorem RelV.inj {x y:V}{u:Value}(r:RelV x u)(q:RelV y u):x=y:=bh (r.abs.symm.trans q.abs)
theorem Vals.inj:∀ {xs ys:List V}{us:List Value},Vals xs us->Vals ys us->xs=ys
 | _,_,_, .nil, .nil=>rfl
 | _,_,_, .cons r t, .cons r' t'=>by rw[r.inj r',Vals.inj t t']
section
variable {X:Cx}{pins:List (Addr×Obj)}{σ:St}{H:Hp}{s:Shared}{a:Addr}{xs ys:List V}
theorem SqL.of {K:W.Frag}(h:H a=some (.lst xs)):SqL K H a xs:= .inl (.inl h)
theorem SqT.of {K:W.Frag}(h:H a=some (.tup xs)):SqT K H a xs:= .inl (.inl h)
theorem Inv.list (I:Inv X pins σ H s)(h:SqL X.K H a xs):∃ its:List Value,Vals xs its/\PlainL s.heap a its.toArray/\xs.length<=sizeLine:=by
 rcases h with h | ⟨o,its,n,hk,hc,hd,hs,hz,r⟩
 ·obtain⟨z,its,n,r,e⟩:=h.ok I.hok
  exact⟨its,r,⟨_,n,e,rfl,rfl,rfl⟩,z⟩
 ·refine⟨its.toList,r,⟨o,n,I.kIn a o hk,hc,hd,by simpa using hs⟩,?_⟩
  have e:=r.length
  simp only [aO] at e
  omega
theorem Inv.tuple (I:Inv X pins σ H s)(h:SqT X.K H a xs):∃ its:List Value,Vals xs its/\IsTup s.heap a its.toArray/\xs.length<=sizeLine:=by
 rcases h with h | ⟨o,its,n,hk,hc,hs,hz,r⟩
 ·obtain⟨z,its,r,p⟩:=h.ok I.hok
  exact⟨its,r,p.isTup,z⟩
 ·refine⟨its.toList,r,⟨o,I.kIn a o hk,hc,n,by simpa using hs⟩,?_⟩
  have e:=r.length
  simp only [aO] at e
  omega
theorem Inv.list_inj (I:Inv X pins σ H s)(h:SqL X.K H a xs)(h':SqL X.K H a ys):xs=ys:=by
 obtain⟨its,r,⟨o,n,e,_,_,d⟩,_⟩:=I.list h
 obtain⟨its',r',⟨o',n',e',_,_,d'⟩,_⟩:=I.list h'
 rw[e] at e'; cases e'
 rw[d] at d'
 injection d' with d1 _
 have:its=its':=by simpa using bP Array.toList d1
 subst this
 exact r.inj r'
theorem Inv.tuple_inj (I:Inv X pins σ H s)(h:SqT X.K H a xs)(h':SqT X.K H a ys):xs=ys:=by
 obtain⟨its,r,⟨o,e,_,n,d⟩,_⟩:=I.tuple h
 obtain⟨its',r',⟨o',e',_,n',d'⟩,_⟩:=I.tuple h'
 rw[e] at e'; cases e'
 rw[d] at d'
 injection d' with d1 _
 have:its=its':=by simpa using bP Array.toList d1
 subst this
 exact r.inj r'
end
abbrev Cx.wish (X:Cx)(E:Value->Shared->Prop):Cx:= { X with xe:=E}
abbrev Cx.nox (X:Cx):Cx:=X.wish fun _ _=>False
theorem Cx.Ok.wish {X:Cx}(ok:X.Ok)(E:Value->Shared->Prop):(X.wish E).Ok:=
 ⟨ok.mod,ok.kind,ok.glob,ok.blt,ok.above,ok.inj,ok.has,ok.cab,ok.hd,ok.frames,ok.stk,ok.exf,ok.bs,ok.bsz,ok.noex,ok.exfs,ok.funs,ok.frf⟩
theorem Cx.Ok.unwish {X:Cx}{E:Value->Shared->Prop}(ok:(X.wish E).Ok):X.Ok:=
 ⟨ok.mod,ok.kind,ok.glob,ok.blt,ok.above,ok.inj,ok.has,ok.cab,ok.hd,ok.frames,ok.stk,ok.exf,ok.bs,ok.bsz,ok.noex,ok.exfs,ok.funs,ok.frf⟩
section
variable {X:Cx}{pins:List (Addr×Obj)}{σ:St}{H:Hp}{s:Shared}{E:Value->Shared->Prop}
theorem Inv.wish (I:Inv X pins σ H s)(E:Value->Shared->Prop):Inv (X.wish E) pins σ H s:=⟨I.ok.wish E,I.os,I.bare,I.base,I.loc,I.cell,I.free,I.freeC,I.pin,I.hok,I.len⟩
theorem Inv.unwish (I:Inv (X.wish E) pins σ H s):Inv X pins σ H s:=⟨I.ok.unwish,I.os,I.bare,I.base,I.loc,I.cell,I.free,I.freeC,I.pin,I.hok,I.len⟩
theorem SP.unwish {D:Ends}{f:Flow}{s':Shared}(h:SP (X.wish E) pins D f s'):SP X pins D f s':=by
 cases f with
 | next=>obtain⟨σ',H',I,q⟩:=h; exact⟨σ',H',I.unwish,q⟩
 | brk=>obtain⟨σ',H',I,q⟩:=h; exact⟨σ',H',I.unwish,q⟩
 | cont=>obtain⟨σ',H',I,q⟩:=h; exact⟨σ',H',I.unwish,q⟩
 | ret u=>obtain⟨v,σ',H',I,r,q⟩:=h; exact⟨v,σ',H',I.unwish,r,q⟩
theorem PT.nox {e:Expr}{t:TT}(h:PT X.nox e t):PT X e t:=fun pins s σ H Q I hw=>
 bw (h pins s σ H Q (I.wish _) hw) (fun _ _ ⟨H',I',q⟩=>⟨H',I'.unwish,q⟩) fun _ _ z=>False.elim z
theorem PSs.nox {st:List Stmt}{t:TS}(h:PSs X.nox st t):PSs X st t:=fun pins s σ H D I hw=>
 bw (h pins s σ H D (I.wish _) hw) (fun _ _ q=>q.unwish) fun _ _ z=>False.elim z
end
section
variable {X:Cx}{st:Stmt}{rest:List Stmt}{t u:TS}{e:Expr}{te:TE}{pos:Pos}
def tNext:TS:=fun D σ H=>D.nx σ H
def tSeq (t u:TS):TS:=fun D σ H=>t { D with nx:=u D} σ H
theorem jEZ:PSs X [] tNext:=fun _ _ σ H _ I h=>eT ⟨σ,H,I,h⟩
theorem kQ (h1:PS X st t)(h2:PSs X rest u):PSs X (st::rest) (tSeq t u):=by
 intro pins s σ H D I h
 refine hG (thn (h1 pins s σ H { D with nx:=u D} I h) fun f s1 q=>?_)
 cases f with
 | next=>
  obtain⟨σ',H',I',q⟩:=q
  exact h2 pins s1 σ' H' D I' q
 | ret v=>exact q
 | brk=>exact q
 | cont=>exact q
theorem jAS (h1:PS X st t):PSs X [st] t:=by
 intro pins s σ H D I h
 refine hG (thn (h1 pins s σ H D I h) fun f s1 q=>?_)
 cases f with
 | next=>exact eT q
 | ret v=>exact q
 | brk=>exact q
 | cont=>exact q
theorem Inv.quiet {pins:List (Addr×Obj)}{σ:St}{H:Hp}{s:Shared}(I:Inv X pins σ H s):interactive X.env=false:=by simp [interactive,I.ok.kind]
def tDrop (te:TE):TS:=fun D σ H=>te σ H fun _ H1=>D.nx σ H1
theorem jPD (he:PE X e te)(hs:swapsWith e none pos.line X.env=pure false:=by rfl):PS X (.Expr e pos) (tDrop te):=by
 intro pins s σ H D I h
 exact wpAny_Expr_any (thn (he pins s σ H _ I h) fun v s1 ⟨x,H1,I1,r1,q1⟩=>⟨σ,H1,I1,q1⟩) I.quiet hs
def tRet (te:TE):TS:=fun D σ H=>te σ H D.rt
theorem jCT (he:PE X e te):PS X (.Return (some e) pos) (tRet te):=by
 intro pins s σ H D I h
 exact wpAny_Return_some (thn (he pins s σ H _ I h) fun v s1 ⟨x,H1,I1,r1,q1⟩=>⟨x,σ,H1,I1,r1,q1⟩)
def tIfS (c:TT)(t u:TS):TS:=fun D σ H=>c σ H fun b H1=>if b=true then t D σ H1 else u D σ H1
theorem ps_if {c:Expr}{a b:List Stmt}{tc:TT}(hc:PT X c tc)(ha:PSs X a t)(hb:PSs X b u):PS X (.If c a b pos) (tIfS tc t u):=by
 intro pins s σ H D I h
 refine wpAny_If (thn (hc pins s σ H _ I h) fun d s1 ⟨H1,I1,q1⟩=>?_)
 cases d with
 | true=>exact ha pins s1 σ H1 D I1 q1
 | false=>exact hb pins s1 σ H1 D I1 q1
end
abbrev TG:=V->St->Hp->(St->Hp->Prop)->Prop
abbrev TGs:=List V->St->Hp->(St->Hp->Prop)->Prop
def PG (X:Cx)(target:Expr)(t:TG):Prop:=
 ∀ (pins:List (Addr×Obj)) (s:Shared) (σ:St) (H:Hp) (v:V) (u:Value) (Q:St->Hp->Prop),Inv X pins σ H s->RelV v u->t v σ H Q->
  wpAny (model X.prog X.w) X.A (assign target X.env u) (fun _ s'=>∃ σ' H',Inv X pins σ' H' s'/\Q σ' H') X.xe s
def PGs (X:Cx)(ts:List Expr)(t:TGs):Prop:=
 ∀ (pins:List (Addr×Obj)) (s:Shared) (σ:St) (H:Hp) (vs:List V) (us:List Value) (Q:St->Hp->Prop),Inv X pins σ H s->Vals vs us->t vs σ H Q->
  wpAny (model X.prog X.w) X.A (assignInOrder ((assignEach ts X.env).map (·.2)) us) (fun _ s'=>∃ σ' H',Inv X pins σ' H' s'/\Q σ' H') X.xe s
abbrev TSet:=V->V->V->Hp->(Hp->Prop)->Prop
def PSet (X:Cx)(t:TSet):Prop:=
 ∀ (pins:List (Addr×Obj)) (s:Shared) (σ:St) (H:Hp) (o i v:V) (ov iv u:Value) (Q:Hp->Prop),Inv X pins σ H s->RelV o ov->RelV i iv->RelV v u->t o i v H Q->
  wpAny (model X.prog X.w) X.A (setItem ov iv u) (fun _ s'=>∃ H',Inv X pins σ H' s'/\Q H') X.xe s
section
variable {X:Cx}{pos:Pos}
def kZ (i:Nat):TG:=fun v σ H Q=>Q (σ.set i (some v)) H
theorem jF0 {i:Nat}{x:Str}(hN:X.N.Nodup)(hi:X.N[i]?=some x)(hx:Loc X.env.scope x)(hf:X.fn x=true\/X.env.scope.names.lookup x=some .local:=by first | exact .inl rfl | exact .inr rfl | assumption):PG X (.Name x pos) (kZ i):=by
 intro pins s σ H v u Q I r h
 exact wpAny_assign_Name (jBW I hN hi hx r (fun s' I'=>⟨_,H,I',h⟩) hf)
def gNil:TGs:=fun vs σ H Q=>vs=[]/\Q σ H
def gCons (t:TG)(u:TGs):TGs:=fun vs σ H Q=>∃ v r,vs=v::r/\t v σ H fun σ' H'=>u r σ' H' Q
theorem jPN:PGs X [] gNil:=by
 intro pins s σ H vs us Q I r h
 obtain⟨e,h⟩:=h
 subst e
 cases r
 exact assignInOrder_nil ⟨σ,H,I,h⟩
theorem jN4 {e:Expr}{es:List Expr}{t:TG}{u:TGs}(h1:PG X e t)(h2:PGs X es u)
  (hs:(assignEach (e::es) X.env).map (·.2)=assign e X.env::(assignEach es X.env).map (·.2):=by rfl):PGs X (e::es) (gCons t u):=by
 intro pins s σ H vs us Q I r h
 obtain⟨v,vr,e1,h⟩:=h
 subst e1
 cases r with
 | cons r rr=>
  rw[hs]
  refine assignInOrder_cons (thn (h1 pins s σ H _ _ _ I r h) fun _ s1 ⟨σ1,H1,I1,q1⟩=>?_)
  exact h2 pins s1 σ1 H1 _ _ Q I1 rr q1
def gTup (K:W.Frag)(n:Nat)(t:TGs):TG:=fun v σ H Q=>∃ a xs,v= .ref a/\SqT K H a xs/\xs.length=n/\t xs σ H Q
theorem jRU {es:List Expr}{k:Nat}{t:TGs}{n:Nat}(hc:X.calm=true)(h:PGs X es t)
  (hn:(assignEach es X.env).length=n:=by rfl) (hst:(assignEach es X.env).findIdx? (·.1)=none:=by rfl):PG X (.Tuple es k pos) (gTup X.K n t):=by
 intro pins s σ H v u Q I r hw
 obtain⟨a,xs,e1,hq,hl,hw⟩:=hw
 subst e1
 cases r
 obtain⟨its,rv,ht,hz⟩:=I.tuple hq
 refine assign_Tuple_tuple (I.ok.hd hc) ht (by simp [hn,<- hl,rv.length]) hst fun h' hx=>?_
 have I1:Inv X pins σ H { s with heap:=h'} :=I.kept (t':=s.toks) fun b o e=>hx b o (aR (ay e)) e
 exact h pins _ σ H xs _ Q I1 (by simpa using rv) hw
def gSub (to ti:TE)(t:TSet):TG:=fun v σ H Q=>to σ H fun o H1=>ti σ H1 fun i H2=>t o i v H2 fun H3=>Q σ H3
theorem jRV {o i:Expr}{to ti:TE}{t:TSet}(ho:PE X o to)(hi:PE X i ti)(hs:PSet X t)
  (ha:∀ v,assign (.Subscript o i pos) X.env v=(do
   let ov <- holding [v] (eval o X.env)
   let iv <- holding [v,ov] (eval i X.env)
   standAt pos
   holding [v,ov,iv] (setItem ov iv v)
   release [v,ov,iv] []):=by intro _; rfl):PG X (.Subscript o i pos) (gSub to ti t):=by
 intro pins s σ H v u Q I r h
 rw[ha]
 refine aa (bB (thn (ho pins s σ H _ I h) fun ov s1 ⟨x,H1,I1,r1,q1⟩=>?_))
 refine aa (bB (thn (hi pins s1 σ H1 _ I1 q1) fun iv s2 ⟨y,H2,I2,r2,q2⟩=>?_))
 refine aa (dZ (aa (bB (thn (hs pins s2 σ H2 x y v ov iv u _ I2 r1 r2 r q2) fun _ s3 ⟨H3,I3,q3⟩=>?_))))
 exact wpAny_release ⟨σ,H3,I3,q3⟩
def tAsg (te:TE)(g:TG):TS:=fun D σ H=>te σ H fun x H1=>g x σ H1 D.nx
theorem jOF {tg e:Expr}{te:TE}{g:TG}(he:PE X e te)(hg:PG X tg g)(hs:swapsWithSole [tg] e pos.line X.env=pure false:=by rfl)(hw:swappedStores [tg] e X.env=pure none:=by rfl)
  (h1:(assignEach [tg] X.env).map (·.2)=[assign tg X.env]:=by rfl):PS X (.Assign [tg] e pos) (tAsg te g):=by
 intro pins s σ H D I h
 refine wpAny_Assign_stores (thn (he pins s σ H _ I h) fun v s1 ⟨x,H1,I1,r1,q1⟩=>?_) hs hw
 rw[h1]
 exact thn (hg pins s1 σ H1 x v _ I1 r1 q1) fun _ s2 q=>q
theorem yX {i:Nat}{x:Str}{e:Expr}{te:TE}{pos':Pos}(hN:X.N.Nodup)(hi:X.N[i]?=some x)(hx:Loc X.env.scope x)(he:PE X e te)(hs:swapsWith e (some (.Name x pos')) pos.line X.env=pure false:=by rfl)(hf:X.fn x=true\/X.env.scope.names.lookup x=some .local:=by first | exact .inl rfl | exact .inr rfl | assumption):
  PS X (.Assign [.Name x pos'] e pos) (tAsg te (kZ i)):=by
 intro pins s σ H D I h
 refine wpAny_Assign_Name (thn (he pins s σ H _ I h) fun v s1 ⟨y,H1,I1,r1,q1⟩=>?_) hs
 exact jBW I1 hN hi hx r1 (fun s2 I2=>⟨_,H1,I2,q1⟩) hf
end
section
variable {X:Cx}{pos:Pos}
def jOB (c:TT)(tb:TS):TS:=fun D σ H=>∃ W:Nat->St->Hp->Prop,(∃ m,W m σ H)/\∀ m σ H,W m σ H->
 c σ H fun b H1=>if b=true then ∃ N:St->Hp->Prop,(∀ σ' H',N σ' H'->∃ m',m'<m/\W m' σ' H')/\tb { D with nx:=N,ct:=N,bk:=D.nx} σ H1 else D.nx σ H1
theorem jN1 {c:Expr}{body:List Stmt}{tc:TT}{tb:TS}(hp:PassesOwn (model X.prog X.w) X.A X.env X.xe)(hc:PT X c tc)(hb:PSs X body tb):PS X (.While c body [] pos) (jOB tc tb):=by
 intro pins s σ H D I h
 obtain⟨W,⟨m0,w0⟩,turn⟩:=h
 refine wpAny_While (codeAny_whileLoop (fun n s'=>∃ σ' H',Inv X pins σ' H' s'/\W n σ' H') ?_ m0 ⟨σ,H,I,w0⟩)
 rintro n s1 ⟨σ1,H1,I1,w1⟩
 refine dC hp (thn (hc pins s1 σ1 H1 _ I1 (turn n σ1 H1 w1)) fun b s2 ⟨H2,I2,q2⟩=>?_)
 cases b with
 | true=>
  obtain⟨N,hN,q2⟩:=q2
  rw[aj rfl]
  refine dC hp (thn (hb pins s2 σ1 H2 _ I2 q2) fun f s3 q3=>?_)
  cases f with
  | next=>
   obtain⟨σ3,H3,I3,n3⟩:=q3
   obtain⟨m',hm,w3⟩:=hN σ3 H3 n3
   exact⟨m',hm,σ3,H3,I3,w3⟩
  | cont=>
   obtain⟨σ3,H3,I3,n3⟩:=q3
   obtain⟨m',hm,w3⟩:=hN σ3 H3 n3
   exact⟨m',hm,σ3,H3,I3,w3⟩
  | brk=>exact q3
  | ret v=>exact q3
 | false=>
  rw[ah ai]
  exact eT ⟨σ1,H2,I2,q2⟩
end
structure It where
 go:Nat->Hp->Prop
 yld:Nat->Hp->V->Hp->Prop
 stop:Nat->Hp->Prop
def FpOk (X:Cx)(pins:List (Addr×Obj))(H:Hp)(b:Addr):Prop:=
 H b=none/\b≠X.env.locals/\b∉X.fs/\(b∈X.ex\/X.s₀.heap.objs.size<=b)/\(∀ x c,X.env.cells.lookup x=some c->c≠b)/\∀ p∈X.pn++pins,p.1≠b
theorem Inv.fpOk {X:Cx}{pins:List (Addr×Obj)}{σ:St}{H H':Hp}{s:Shared}{b:Addr}(I:Inv X pins σ H s)(hb:s.heap.objs.size<=b)(hn:H' b=none):FpOk X pins H' b:=by
 refine⟨hn,dF (aX I.lt hb),I.nofs hb, .inr (bf I.sz hb),fun x c e z=>?_,fun p hp z=>?_⟩
 ·obtain⟨v,q⟩:=I.cell x c e
  exact absurd (aX q.lt (by rw[z]; exact hb)) (cI _)
 ·exact absurd (aX (ay (I.pin p hp).1) (by rw[z]; exact hb)) (cI _)
structure Turn (P:Program)(w:World)(K:W.Frag)(tg:Expr)(J:It)(fp:List Addr)(it:Addr)(tn:Nat->Heap->Prop):Prop where
 mem:it∈fp
 obj:∀ i h,tn i h->∀ b∈fp,∃ o,h.get? b=some o/\∀ v,o.data≠ .cell v
 keep:∀ i h h',tn i h->(∀ b∈fp,∀ o,h.get? b=some o->h'.get? b=some o)->tn i h'
 item:∀ (X:Cx),X.prog=P->X.w=w->X.K=K->X.calm=true->∀ (i:Nat) (pins:List (Addr×Obj)) (s:Shared) (σ:St) (H:Hp) (E:Value->Shared->Prop),Inv X pins σ H s->(∀ b∈fp,FpOk X pins H b)->tn i s.heap->J.go i H->
  wpAny (model P w) X.A (pyNext (.ref it)) (fun r s1=>∃ u,r=some u/\
   wpAny (model P w) X.A (letOwnedTupleGo tg (.ref it) u) (fun _ s2=>∃ x H',Inv X pins σ H' s2/\RelV x u/\J.yld i H x H'/\tn (i+1) s2.heap/\∀ b∈fp,H' b=none) E s1) E s
 done:∀ (X:Cx),X.prog=P->X.w=w->X.K=K->X.calm=true->∀ (i:Nat) (pins:List (Addr×Obj)) (s:Shared) (σ:St) (H:Hp) (E:Value->Shared->Prop),Inv X pins σ H s->(∀ b∈fp,FpOk X pins H b)->tn i s.heap->J.stop i H->
  wpAny (model P w) X.A (pyNext (.ref it)) (fun r s1=>r=none/\Inv X pins σ H s1) E s
 self:∀ (A:Around) (i:Nat) (s:Shared) (Q:Value->Shared->Prop) (E:Value->Shared->Prop),tn i s.heap->Q (.ref it) s->wpAny (model P w) A (pyIter (.ref it)) Q E s
abbrev TI:=St->Hp->(It->Hp->Prop)->Prop
def PIE (X:Cx)(pins:List (Addr×Obj))(σ:St)(tg:Expr)(R:It->Hp->Prop)(itv:Value)(s2:Shared):Prop:=
 ∃ (it:Addr) (fp:List Addr) (tn:Nat->Heap->Prop) (J:It) (H':Hp),itv= .ref it/\Inv X pins σ H' s2/\Turn X.prog X.w X.K tg J fp it tn/\tn 0 s2.heap/\(∀ b∈fp,FpOk X pins H' b)/\R J H'
def PI (X:Cx)(tg iter:Expr)(wi:TI):Prop:=
 ∀ (pins:List (Addr×Obj)) (s:Shared) (σ:St) (H:Hp) (R:It->Hp->Prop),Inv X pins σ H s->wi σ H R->
  wpAny (model X.prog X.w) X.A (eval iter X.env) (fun v s1=>wpAny (model X.prog X.w) X.A (pyIter v) (PIE X pins σ tg R) X.xe s1) X.xe s
theorem go_of {M:Model}{A:Around}{E:Value->Shared->Prop}{s:Shared}{tg:Expr}{it:Addr}{u:Value}{o:Obj}{n:String}{vs:Array Value}{Q:Unit->Shared->Prop}(ho:s.heap.get? it=some o)(hc:o.cls= .type n)(hd:o.data= .fields vs)
  (hn: ["enumerate","zip","dict_itemiterator","dict_reverseitemiterator","odict_iterator","itertools.zip_longest","itertools.pairwise"].contains n=false) (hQ:Q () s):wpAny M A (letOwnedTupleGo tg (.ref it) u) Q E s:=by
 unfold letOwnedTupleGo
 cases tg <;> first
  | exact ag hQ
  | (cases u <;> first
    | exact ag hQ
    | (refine aa (eV ho ?_)
       rw [hc, hd]
       show wpAny M A (if (["enumerate", "zip", "dict_itemiterator", "dict_reverseitemiterator", "odict_iterator", "itertools.zip_longest", "itertools.pairwise"].contains n && vs[0]? == some (rawInt _)) = true then _ else _) Q E s
       rw [ah (by intro h; rw [hn, gJ] at h; cases h)]
       exact ag hQ))
def Itl (K:W.Frag)(a:Addr):It:=
 ⟨fun i H=>∃ xs x,SqL K H a xs/\xs[i]?=some x,fun i H x H'=>H'=H/\∀ xs,SqL K H a xs->xs[i]?=some x,fun i H=>∃ xs,SqL K H a xs/\xs.length<=i⟩
def Itt (K:W.Frag)(a:Addr):It:=
 ⟨fun i H=>∃ xs x,SqT K H a xs/\xs[i]?=some x,fun i H x H'=>H'=H/\∀ xs,SqT K H a xs->xs[i]?=some x,fun i H=>∃ xs,SqT K H a xs/\xs.length<=i⟩
def Itr (lo:Int)(n:Nat):It:=⟨fun i _=>i<n,fun i H x H'=>H'=H/\x= .int (lo+i),fun i _=>n<=i⟩
theorem jK5 {P:Program}{w:World}{K:W.Frag}{tg:Expr}(a it:Addr):Turn P w K tg (Itl K a) [it] it (fun i h=>h.IsListIter it a i) where
 mem:=by simp
 obj:=fun i h st b hb=>by
  have e:b=it:=by simpa using hb
  subst e
  obtain⟨o,e,c,d⟩:=st
  exact⟨o,e,fun v z=>by rw[d] at z; cases z⟩
 keep:=fun i h h' st k=>st.at fun o e=>k it (by simp) o e
 item:=by
  intro X hP hw hK hc i pins s σ H E I hf st hg
  subst hP hw hK
  obtain⟨xs,x,hq,hx⟩:=hg
  obtain⟨its,rv,p,hz⟩:=I.list hq
  obtain⟨u,hu,ru⟩:=rv.get hx
  obtain⟨f0,f1,f2,f3,f4,f5⟩:=hf it (by simp)
  refine wpAny_pyNext_list_item st p.isList (x:=u) (by simpa using hu) fun h' st' sb=>?_
  have I1:Inv X pins σ H { s with heap:=h'} :=I.turned (t':=s.toks) (fun b o hb e=>(sb.2 b hb).trans e) f0 f1 f3 f4 f5
  obtain⟨o,e,c,d⟩:=id st'
  exact⟨u,rfl,go_of (s:= { s with heap:=h'}) e c d (by decide) ⟨x,H,I1,ru,⟨rfl,fun ys hy=>by rw[I.list_inj hy hq]; exact hx⟩,st',fun b hb=>(hf b hb).1⟩⟩
 done:=by
  intro X hP hw hK hc i pins s σ H E I hf st hg
  subst hP hw hK
  obtain⟨xs,hq,hx⟩:=hg
  obtain⟨its,rv,p,hz⟩:=I.list hq
  obtain⟨f0,f1,f2,f3,f4,f5⟩:=hf it (by simp)
  have hl:=rv.length
  exact wpAny_pyNext_list_end (I.ok.hd hc) st p.isList (by simp; omega) fun h' eb=>⟨rfl,I.turned (t':=s.toks) (fun b o hb e=>eb b o hb e) f0 f1 f3 f4 f5⟩
 self:=fun _ _ _ _ _ st h=>wpAny_pyIter_listiter st h
theorem jJC {P:Program}{w:World}{K:W.Frag}{tg:Expr}(a it:Addr):Turn P w K tg (Itt K a) [it] it (fun i h=>h.IsTupleIter it a i) where
 mem:=by simp
 obj:=fun i h st b hb=>by
  have e:b=it:=by simpa using hb
  subst e
  obtain⟨o,e,c,d⟩:=st
  exact⟨o,e,fun v z=>by rw[d] at z; cases z⟩
 keep:=fun i h h' st k=>st.at fun o e=>k it (by simp) o e
 item:=by
  intro X hP hw hK hc i pins s σ H E I hf st hg
  subst hP hw hK
  obtain⟨xs,x,hq,hx⟩:=hg
  obtain⟨its,rv,p,hz⟩:=I.tuple hq
  obtain⟨u,hu,ru⟩:=rv.get hx
  obtain⟨f0,f1,f2,f3,f4,f5⟩:=hf it (by simp)
  refine wpAny_pyNext_tuple_item st (show s.heap.IsTuple a its.toArray from p) (x:=u) (by simpa using hu) fun h' st' sb=>?_
  have I1:Inv X pins σ H { s with heap:=h'} :=I.turned (t':=s.toks) (fun b o hb e=>(sb.2 b hb).trans e) f0 f1 f3 f4 f5
  obtain⟨o,e,c,d⟩:=id st'
  exact⟨u,rfl,go_of (s:= { s with heap:=h'}) e c d (by decide) ⟨x,H,I1,ru,⟨rfl,fun ys hy=>by rw[I.tuple_inj hy hq]; exact hx⟩,st',fun b hb=>(hf b hb).1⟩⟩
 done:=by
  intro X hP hw hK hc i pins s σ H E I hf st hg
  subst hP hw hK
  obtain⟨xs,hq,hx⟩:=hg
  obtain⟨its,rv,p,hz⟩:=I.tuple hq
  obtain⟨f0,f1,f2,f3,f4,f5⟩:=hf it (by simp)
  have hl:=rv.length
  exact wpAny_pyNext_tuple_end (I.ok.hd hc) st (show s.heap.IsTuple a its.toArray from p) (by simp; omega) fun h' eb=>⟨rfl,I.turned (t':=s.toks) (fun b o hb e=>eb b o hb e) f0 f1 f3 f4 f5⟩
 self:=fun _ _ _ _ _ st h=>wpAny_pyIter_tupleiter st h
theorem jJD {P:Program}{w:World}{K:W.Frag}{tg:Expr}(it:Addr)(lo:Int)(n:Nat):Turn P w K tg (Itr lo n) [it] it (fun i h=>IsRangeIter h it (lo+(i:Nat)*1) ((n:Int) - (i:Nat)) 1) where
 mem:=by simp
 obj:=fun i h st b hb=>by
  have e:b=it:=by simpa using hb
  subst e
  exact⟨_,st,fun v z=>by
   have z':Data.fields _=Data.cell v:=z
   cases z'⟩
 keep:=fun i h h' st k=>k it (by simp) _ st
 item:=by
  intro X hP hw hK hc i pins s σ H E I hf st hg
  subst hP hw hK
  obtain⟨f0,f1,f2,f3,f4,f5⟩:=hf it (by simp)
  have W:=Walks.range (prog:=X.prog) (w:=X.w) (I.ok.hd hc) it lo 1 n
  refine W.item i s _ _ hg st fun v h' tk hv st' kk=>?_
  obtain⟨t,rfl⟩:=hv
  have I1:Inv X pins σ H { s with heap:=h',toks:=tk} :=I.turned (fun b o hb e=>kk b o (by simpa using hb) e) f0 f1 f3 f4 f5
  refine⟨_,rfl,go_of (s:= { s with heap:=h',toks:=tk}) (n:= "range_iterator") st' rfl rfl (by decide) ⟨.int (lo+i),H,I1,⟨t,?_⟩,⟨rfl,rfl⟩,st',fun b hb=>(hf b hb).1⟩⟩
  rw[Int.mul_one]
 done:=by
  intro X hP hw hK hc i pins s σ H E I hf st hg
  subst hP hw hK
  obtain⟨f0,f1,f2,f3,f4,f5⟩:=hf it (by simp)
  exact wpAny_pyNext_range_end (I.ok.hd hc) st (by have:n<=i:=hg; omega) fun h' eb=>⟨rfl,I.turned (t':=s.toks) (fun b o hb e=>eb b o hb e) f0 f1 f3 f4 f5⟩
 self:=fun _ _ _ _ _ st h=>wpAny_pyIter_rangeiter st h
end L2
namespace L2
open PySem PySem.Spec PyProof.Rows
section
variable {X:Cx}{tg:Expr}
def iList (K:W.Frag)(tl:TE):TI:=fun σ H R=>tl σ H fun x H1=>∃ a,x= .ref a/\(∃ xs,SqL K H1 a xs)/\R (Itl K a) H1
def iTup (K:W.Frag)(tl:TE):TI:=fun σ H R=>tl σ H fun x H1=>∃ a,x= .ref a/\(∃ xs,SqT K H1 a xs)/\R (Itt K a) H1
theorem jPK {l:Expr}{tl:TE}(hl:PE X l tl):PI X tg l (iList X.K tl):=by
 intro pins s σ H R I h
 refine thn (hl pins s σ H _ I h) fun v s1 ⟨x,H1,I1,r1,q1⟩=>?_
 obtain⟨a,e,⟨xs,hq⟩,q⟩:=q1
 subst e
 cases r1
 obtain⟨its,rv,p,hz⟩:=I1.list hq
 refine dG p.isList ?_
 refine⟨s1.heap.objs.size,[s1.heap.objs.size],_,_,H1,rfl,I1.kept (t':=s1.toks) fun b o e=>ae _ e,jK5 a _,⟨_,am _ rfl,rfl,rfl⟩,fun b hb=>?_,q⟩
 have e:b=s1.heap.objs.size:=by simpa using hb
 subst e
 exact I1.fpOk (ak _) (I1.hok.fresh (ak _))
theorem jRT {l:Expr}{tl:TE}(hl:PE X l tl):PI X tg l (iTup X.K tl):=by
 intro pins s σ H R I h
 refine thn (hl pins s σ H _ I h) fun v s1 ⟨x,H1,I1,r1,q1⟩=>?_
 obtain⟨a,e,⟨xs,hq⟩,q⟩:=q1
 subst e
 cases r1
 obtain⟨its,rv,p,hz⟩:=I1.tuple hq
 refine wpAny_pyIter_tuple (show s1.heap.IsTuple a its.toArray from p) ?_
 refine⟨s1.heap.objs.size,[s1.heap.objs.size],_,_,H1,rfl,I1.kept (t':=s1.toks) fun b o e=>ae _ e,jJC a _,⟨_,am _ rfl,rfl,rfl⟩,fun b hb=>?_,q⟩
 have e:b=s1.heap.objs.size:=by simpa using hb
 subst e
 exact I1.fpOk (ak _) (I1.hok.fresh (ak _))
theorem jN0 {pins:List (Addr×Obj)}{σ:St}{H:Hp}{s:Shared}{R:It->Hp->Prop}{E:Value->Shared->Prop}{lo hi:Int}{t u v:Tok}{tk:Nat}(I:Inv X pins σ H s)(h1: -(2 ^ 62)<=lo)(h2:lo<2 ^ 62)(h3: -(2 ^ 62)<=hi)(h4:hi<2 ^ 62)
  (q:R (Itr lo (hi - lo).toNat) H):wpAny (model X.prog X.w) X.A (pyIter (.ref s.heap.objs.size)) (PIE X pins σ tg R) E { s with heap:=s.heap.push { cls:= .type "range",data:= .fields #[.int lo t, .int hi u, .int 1 v]},toks:=tk} :=by
 refine wpAny_pyIter_range (IsRange.new ..) (small_one h1 h2 h3 h4) ?_
 have I1:Inv X pins σ H { s with heap:=s.heap.push { cls:= .type "range",data:= .fields #[.int lo t, .int hi u, .int 1 v]},toks:=tk} :=I.kept fun b o e=>ae _ e
 refine⟨(s.heap.push { cls:= .type "range",data:= .fields #[.int lo t, .int hi u, .int 1 v]}).objs.size,[(s.heap.push { cls:= .type "range",data:= .fields #[.int lo t, .int hi u, .int 1 v]}).objs.size],_,_,H,rfl,
  I1.kept (t':=tk) fun b o e=>ae _ e,jJD _ lo (hi - lo).toNat,?_,fun b hb=>?_,q⟩
 ·have e1:lo+((0:Nat):Int)*1=lo:=by simp
  have e2:(((hi - lo).toNat:Nat):Int) - ((0:Nat):Int)=Builtin.Range.rangeSize lo hi 1:=by rw[rangeSize_one]; split <;> omega
  show IsRangeIter _ _ (lo+((0:Nat):Int)*1) ((((hi - lo).toNat:Nat):Int) - ((0:Nat):Int)) 1
  rw[e1,e2]
  exact am _ rfl
 ·have e:b=(s.heap.push { cls:= .type "range",data:= .fields #[.int lo t, .int hi u, .int 1 v]}).objs.size:=by simpa using hb
  subst e
  exact I1.fpOk (ak _) (I1.hok.fresh (ak _))
def iRng1 (ta:TA):TI:=fun σ H R=>ta σ H fun vs H1=>∃ j:Int,vs=[.int j]/\ -(2 ^ 62)<=j/\j<2 ^ 62/\R (Itr 0 j.toNat) H1
theorem jC0 {a:Expr}{ta:TA}{p pos:Pos}(hg:Gl X "range")(hm:X.mg "range" =none)(ha:PA X [a] ta)(hs:starEach [a] X.env=[(false,eval a X.env)]:=by rfl):PI X tg (.Call (.Name "range" p) [a] [] pos) (iRng1 ta):=by
 intro pins s σ H R I h
 refine Call_ (jDP I hg hm boot_range (dw (thn (ha pos pins s σ H _ I h) fun us s1 ⟨vs,H1,I1,r1,q1⟩=>?_) hs rfl))
 obtain⟨j,e,q1,q2,q⟩:=q1
 subst e
 cases r1 with
 | cons r rr=>
  cases rr
  obtain⟨t,rfl⟩:=r
  exact call_range_1 (jN0 I1 (by omega) (by omega) q1 q2 (by simpa using q))
def tFor (wi:TI)(g:TG)(tb:TS):TS:=fun D σ H=>wi σ H fun J H1=>∃ W:Nat->Nat->St->Hp->Prop,(∃ m,W 0 m σ H1)/\∀ i m σ H,W i m σ H->
 (J.stop i H/\D.nx σ H)\/(J.go i H/\∃ N:St->Hp->Prop,(∀ σ' H',N σ' H'->∃ m',m'<m/\W (i+1) m' σ' H')/\∀ x H',J.yld i H x H'->g x σ H' fun σ2 H2=>tb { D with nx:=N,ct:=N,bk:=D.nx} σ2 H2)
def jEC (fp:List Addr)(h:Heap):List (Addr×Obj):=fp.filterMap fun b=>(h.get? b).map fun o=>(b,o)
theorem jA8 {fp:List Addr}{h:Heap}{b:Addr}{o:Obj}(hb:b∈fp)(e:h.get? b=some o):(b,o)∈jEC fp h:=iV.mpr ⟨b,hb,by rw[e]; rfl⟩
theorem jL7 {fp:List Addr}{h:Heap}{p:Addr×Obj}(hp:p∈jEC fp h):p.1∈fp/\h.get? p.1=some p.2:=by
 obtain⟨b,hb,e⟩:=iV.mp hp
 cases q:h.get? b with
 | none=>rw[q] at e; cases e
 | some o=>
  rw[q] at e
  have e':(b,o)=p:=bh e
  subst e'
  exact⟨hb,q⟩
theorem Inv.pinned {pins:List (Addr×Obj)}{σ:St}{H:Hp}{s:Shared}{fp:List Addr}(I:Inv X pins σ H s)(hf:∀ b∈fp,FpOk X pins H b)(ho:∀ b∈fp,∃ o,s.heap.get? b=some o/\∀ v,o.data≠ .cell v):Inv X (pins++jEC fp s.heap) σ H s:=
 I.pins_of fun p hp=>(aN.mp hp).elim (fun z=>I.pin p (aJ _ z)) fun z=>by
  obtain⟨hb,e⟩:=jL7 z
  obtain⟨f0,f1,f2,_⟩:=hf p.1 hb
  obtain⟨o,e',d⟩:=ho p.1 hb
  rw[e] at e'; cases e'
  exact⟨e,f0,f1,f2,d⟩
theorem Inv.unpinned {pins pl:List (Addr×Obj)}{σ:St}{H:Hp}{s:Shared}(I:Inv X (pins++pl) σ H s):Inv X pins σ H s:=I.pins_of fun p hp=>I.pin p (aJ _ (aY _ hp))
theorem jOE {iter:Expr}{body:List Stmt}{wi:TI}{g:TG}{tb:TS}{pos:Pos}(hp:PassesOwn (model X.prog X.w) X.A X.env X.xe)(hc:X.calm=true)(hi:PI X tg iter wi)(hg:PG X tg g)(hb:PSs X body tb)
  (hs:∀ x,foldedSetIterable iter X.env x=pure x:=by intro _; rfl):PS X (.For tg iter body [] pos) (tFor wi g tb):=by
 intro pins s σ H D I h
 refine wpAny_For (thn (hi pins s σ H _ I h) fun v s1 h1=>thn h1 fun itv s2 h2=>?_) hs
 obtain⟨it,fp,tn,J,H2,e,I2,T,st2,f2,W,⟨m0,w0⟩,turn⟩:=h2
 subst e
 have stat:∀ {H':Hp},(∀ b∈fp,H' b=none)->∀ b∈fp,FpOk X pins H' b:=fun hn b hb=>⟨hn b hb,(f2 b hb).2⟩
 refine codeAny_forLoop_any (fun n s'=>∃ i σ' H',Inv X pins σ' H' s'/\tn i s'.heap/\(∀ b∈fp,H' b=none)/\W i n σ' H') ?_ m0 ⟨0,σ,H2,I2,st2,fun b hb=>(f2 b hb).1,w0⟩
 rintro n s3 ⟨i,σ3,H3,I3,st3,fr3,w3⟩
 rcases turn i n σ3 H3 w3 with ⟨stop,qn⟩ | ⟨go,N,hN,step⟩
 ·refine dC hp (thn (T.done X rfl rfl rfl hc i pins s3 σ3 H3 X.xe I3 (stat fr3) st3 stop) fun r s4 ⟨hr,I4⟩=>?_)
  subst hr
  exact eT ⟨σ3,H3,I4,qn⟩
 ·refine dC hp (thn (T.item X rfl rfl rfl hc i pins s3 σ3 H3 X.xe I3 (stat fr3) st3 go) fun r s4 ⟨u,hr,h4⟩=>?_)
  subst hr
  refine dC hp (thn h4 fun _ s5 ⟨x,H5,I5,r5,y5,st5,fr5⟩=>?_)
  have I5':=I5.pinned (stat fr5) (T.obj _ _ st5)
  refine dC hp (thn (hg _ s5 σ3 H5 x u _ I5' r5 (step x H5 y5)) fun _ s6 ⟨σ6,H6,I6,q6⟩=>?_)
  refine dC hp (thn (hb _ s6 σ6 H6 _ I6 q6) fun f s7 q7=>?_)
  have again:∀ {σ7:St}{H7:Hp},Inv X (pins++jEC fp s5.heap) σ7 H7 s7->N σ7 H7->∃ m,m<n/\∃ i σ' H',Inv X pins σ' H' s7/\tn i s7.heap/\(∀ b∈fp,H' b=none)/\W i m σ' H':=fun {σ7 H7} I7 n7=>by
   obtain⟨m',hm,w7⟩:=hN σ7 H7 n7
   refine⟨m',hm,i+1,σ7,H7,I7.unpinned,T.keep _ _ _ st5 fun b hb o e=>(I7.pin (b,o) (aJ _ (aJ _ (jA8 hb e)))).1,fun b hb=>?_,w7⟩
   obtain⟨o,e,d⟩:=T.obj _ _ st5 b hb
   exact(I7.pin (b,o) (aJ _ (aJ _ (jA8 hb e)))).2.1
  cases f with
  | next=>obtain⟨σ7,H7,I7,n7⟩:=q7; exact again I7 n7
  | cont=>obtain⟨σ7,H7,I7,n7⟩:=q7; exact again I7 n7
  | brk=>obtain⟨σ7,H7,I7,q7⟩:=q7; exact⟨σ7,H7,I7.unpinned,q7⟩
  | ret v=>obtain⟨x7,σ7,H7,I7,r7,q7⟩:=q7; exact⟨x7,σ7,H7,I7.unpinned,r7,q7⟩
end
theorem jFG {K:W.Frag}{a:Addr}{xs:List V}{g:TG}{tb:TS}{D:Ends}{σ:St}{H:Hp}(Pv:Nat->St->Hp->Prop)(h0:Pv 0 σ H)(hl:∀ i σ H,i<=xs.length->Pv i σ H->SqL K H a xs)
  (hs:∀ i x σ H,xs[i]?=some x->Pv i σ H->g x σ H fun σ2 H2=>tb { D with nx:=Pv (i+1),ct:=Pv (i+1),bk:=D.nx} σ2 H2) (hd:∀ σ H,Pv xs.length σ H->D.nx σ H):
  ∃ W:Nat->Nat->St->Hp->Prop,(∃ m,W 0 m σ H)/\∀ i m σ H,W i m σ H->
   ((Itl K a).stop i H/\D.nx σ H)\/((Itl K a).go i H/\∃ N:St->Hp->Prop,(∀ σ' H',N σ' H'->∃ m',m'<m/\W (i+1) m' σ' H')/\∀ x H',(Itl K a).yld i H x H'->g x σ H' fun σ2 H2=>tb { D with nx:=N,ct:=N,bk:=D.nx} σ2 H2):=by
 refine⟨fun i m σ H=>m=xs.length - i/\i<=xs.length/\Pv i σ H,⟨xs.length,by simp,bo _,h0⟩,?_⟩
 rintro i m σ H ⟨rfl,hi,p⟩
 have q:=hl i σ H hi p
 by_cases hlt:i<xs.length
 ·refine .inr ⟨⟨xs,xs[i],q,by simp [hlt]⟩,Pv (i+1),fun σ' H' p'=>⟨xs.length - (i+1),by omega,rfl,hlt,p'⟩,fun x H' y=>?_⟩
  obtain⟨e,y⟩:=y
  subst e
  exact hs i x σ _ (y xs q) p
 ·have e:i=xs.length:=by omega
  subst e
  exact .inl ⟨⟨xs,q,ak _⟩,hd σ H p⟩
theorem jDW {lo:Int}{n:Nat}{g:TG}{tb:TS}{D:Ends}{σ:St}{H:Hp}(Pv:Nat->St->Hp->Prop)(h0:Pv 0 σ H)
  (hs:∀ i σ H,i<n->Pv i σ H->g (.int (lo+i)) σ H fun σ2 H2=>tb { D with nx:=Pv (i+1),ct:=Pv (i+1),bk:=D.nx} σ2 H2) (hd:∀ σ H,Pv n σ H->D.nx σ H):
  ∃ W:Nat->Nat->St->Hp->Prop,(∃ m,W 0 m σ H)/\∀ i m σ H,W i m σ H->
   ((Itr lo n).stop i H/\D.nx σ H)\/((Itr lo n).go i H/\∃ N:St->Hp->Prop,(∀ σ' H',N σ' H'->∃ m',m'<m/\W (i+1) m' σ' H')/\∀ x H',(Itr lo n).yld i H x H'->g x σ H' fun σ2 H2=>tb { D with nx:=N,ct:=N,bk:=D.nx} σ2 H2):=by
 refine⟨fun i m σ H=>m=n - i/\i<=n/\Pv i σ H,⟨n,by simp,bo _,h0⟩,?_⟩
 rintro i m σ H ⟨rfl,hi,p⟩
 by_cases hlt:i<n
 ·refine .inr ⟨hlt,Pv (i+1),fun σ' H' p'=>⟨n - (i+1),by omega,rfl,hlt,p'⟩,fun x H' y=>?_⟩
  obtain⟨e,y⟩:=y
  subst e y
  exact hs i σ _ hlt p
 ·have e:i=n:=by omega
  subst e
  exact .inl ⟨ak _,hd σ H p⟩
end L2
namespace L2
open PySem PySem.Spec PyProof.Rows
abbrev R2:=V->V->Hp->VK->Prop
def OpR (X:Cx)(f:Value->Value->Sem Value)(r:R2):Prop:=
 ∀ (pins:List (Addr×Obj)) (s:Shared) (σ:St) (H:Hp) (x y:V) (v u:Value) (Q:VK),Inv X pins σ H s->RelV x v->RelV y u->r x y H Q->
  wpAny (model X.prog X.w) X.A (f v u) (EP X pins σ Q) X.xe s
def UnR (X:Cx)(f:Value->Sem Value)(r:V->Hp->VK->Prop):Prop:=
 ∀ (pins:List (Addr×Obj)) (s:Shared) (σ:St) (H:Hp) (x:V) (v:Value) (Q:VK),Inv X pins σ H s->RelV x v->r x H Q->
  wpAny (model X.prog X.w) X.A (f v) (EP X pins σ Q) X.xe s
def yO (X:Cx)(f:Value)(r:List V->Hp->VK->Prop):Prop:=
 ∀ (pins:List (Addr×Obj)) (s:Shared) (σ:St) (H:Hp) (xs:List V) (us:List Value) (Q:VK),Inv X pins σ H s->Vals xs us->r xs H Q->
  wpAny (model X.prog X.w) X.A (call f us) (EP X pins σ Q) X.xe s
def tOp (r:R2)(ta tb:TE):TE:=fun σ H Q=>ta σ H fun x H1=>tb σ H1 fun y H2=>r x y H2 Q
def tUn (r:V->Hp->VK->Prop)(ta:TE):TE:=fun σ H Q=>ta σ H fun x H1=>r x H1 Q
def rI (C:Int->Int->Prop)(g:Int->Int->V):R2:=fun x y H Q=>∃ i j,x= .int i/\y= .int j/\C i j/\Q (g i j) H
def rI0 (g:Int->Int->V):R2:=fun x y H Q=>∃ i j,x= .int i/\y= .int j/\Q (g i j) H
def rU (g:Int->V):V->Hp->VK->Prop:=fun x H Q=>∃ i,x= .int i/\Q (g i) H
section
variable {X:Cx}{a b c:Expr}{ta tb tc:TE}{pos:Pos}
theorem binT (ha:PE X a ta)(hb:PE X b tb){pins:List (Addr×Obj)}{s:Shared}{σ:St}{H:Hp}{R:V->V->Hp->Prop}(I:Inv X pins σ H s)
  (h:ta σ H fun x H1=>tb σ H1 fun y H2=>R x y H2) {Q:Value->Shared->Prop}{f:Value->Value->Sem Value}
  (hf:∀ v u s2 x y H2,Inv X pins σ H2 s2->RelV x v->RelV y u->R x y H2->wpAny (model X.prog X.w) X.A (f v u) Q X.xe s2):
  wpAny (model X.prog X.w) X.A (eval a X.env) (fun v s₁=>wpAny (model X.prog X.w) X.A (eval b X.env) (fun u s₂=>wpAny (model X.prog X.w) X.A (f v u) Q X.xe s₂) X.xe s₁) X.xe s:=by
 refine thn (ha pins s σ H _ I h) fun v s1 ⟨x,H1,I1,r1,q1⟩=>?_
 refine thn (hb pins s1 σ H1 _ I1 q1) fun u s2 ⟨y,H2,I2,r2,q2⟩=>?_
 exact hf v u s2 x y H2 I2 r1 r2 q2
theorem kG {op:Operator}{r:R2}(ho:OpR X (binaryOp op) r)(ha:PE X a ta)(hb:PE X b tb):PE X (.BinOp a op b pos) (tOp r ta tb):=by
 intro pins s σ H Q I h
 exact wpAny_BinOp (binT ha hb I h fun v u s2 x y H2 I2 rx ry q=>ho pins s2 σ H2 x y v u Q I2 rx ry q)
theorem pe_un {op:UnaryOp}{r:V->Hp->VK->Prop}(ho:UnR X (unaryOp op) r)(ha:PE X a ta):PE X (.UnaryOp op a pos) (tUn r ta):=by
 intro pins s σ H Q I h
 exact UnaryOp_ (thn (ha pins s σ H _ I h) fun v s1 ⟨x,H1,I1,r1,q1⟩=>ho pins s1 σ H1 x v Q I1 r1 q1)
theorem opI {f:Value->Value->Sem Value}{C:Int->Int->Prop}{g:Int->Int->Int}
  (rule:∀ (i j:Int) (t u:Tok) (s:Shared) (Q:Value->Shared->Prop) (E:Value->Shared->Prop),C i j->Q (.int (g i j) s.toks) { s with toks:=s.toks+1} ->wpAny (model X.prog X.w) X.A (f (.int i t) (.int j u)) Q E s):
  OpR X f (rI C fun i j=> .int (g i j)):=by
 intro pins s σ H x y v u Q I rx ry h
 obtain⟨i,j,rfl,rfl,hc,q⟩:=h
 obtain⟨t,rfl⟩:=rx
 obtain⟨t',rfl⟩:=ry
 exact rule i j t t' s _ _ hc ⟨.int (g i j),H,I.tok _,⟨_,rfl⟩,q⟩
theorem opI0 {f:Value->Value->Sem Value}{g:Int->Int->Int}
  (rule:∀ (i j:Int) (t u:Tok) (s:Shared) (Q:Value->Shared->Prop) (E:Value->Shared->Prop),Q (.int (g i j) s.toks) { s with toks:=s.toks+1} ->wpAny (model X.prog X.w) X.A (f (.int i t) (.int j u)) Q E s):
  OpR X f (rI0 fun i j=> .int (g i j)):=by
 intro pins s σ H x y v u Q I rx ry h
 obtain⟨i,j,rfl,rfl,q⟩:=h
 obtain⟨t,rfl⟩:=rx
 obtain⟨t',rfl⟩:=ry
 exact rule i j t t' s _ _ ⟨.int (g i j),H,I.tok _,⟨_,rfl⟩,q⟩
theorem opB0 {f:Value->Value->Sem Value}{g:Int->Int->Bool}
  (rule:∀ (i j:Int) (t u:Tok) (s:Shared) (Q:Value->Shared->Prop) (E:Value->Shared->Prop),Q (.bool (g i j)) s->wpAny (model X.prog X.w) X.A (f (.int i t) (.int j u)) Q E s):
  OpR X f (rI0 fun i j=> .bl (g i j)):=by
 intro pins s σ H x y v u Q I rx ry h
 obtain⟨i,j,rfl,rfl,q⟩:=h
 obtain⟨t,rfl⟩:=rx
 obtain⟨t',rfl⟩:=ry
 exact rule i j t t' s _ _ ⟨.bl (g i j),H,I,rfl,q⟩
def CPow (i j:Int):Prop:=0<=j/\j<=1000000/\i.natAbs<2 ^ 64
def CMul (i j:Int):Prop:=(-(2 ^ 64)<i/\i<2 ^ 64)\/(-(2 ^ 64)<j/\j<2 ^ 64)
theorem CMul.ok {i j:Int}(h:CMul i j):IntMulOk i j:=by
 rcases h with ⟨h1,h2⟩ | ⟨h1,h2⟩
 ·exact .of_left (intBits_le_64 h1 h2)
 ·exact .of_right (intBits_le_64 h1 h2)
theorem jJB (k:Nat):(0:Int)<=2 ^ k:=by
 rw[two_pow_cast]
 exact eW _
theorem kY:OpR X (binaryOp .Add) (rI0 fun i j=> .int (i+j)):=opI0 fun _ _ _ _ _ _ _ q=>add_int q
theorem jEG:OpR X (binaryOp .Sub) (rI0 fun i j=> .int (i - j)):=opI0 fun _ _ _ _ _ _ _ q=>sub_int q
theorem jCV:OpR X (binaryOp .Mult) (rI CMul fun i j=> .int (i*j)):=opI fun _ _ _ _ _ _ _ hc q=>mul_int q hc.ok
theorem jG5:OpR X (binaryOp .Mod) (rI (fun _ j=>0<j) fun i j=> .int (i % j)):=opI fun i j _ _ _ _ _ hc q=>by
 have h1:(0:Int)<j:=hc
 exact mod_int' (by omega) (by rw[Int.fmod_eq_emod_of_nonneg i (by omega)]; exact q)
theorem jKY:OpR X (binaryOp .Pow) (rI CPow fun i j=> .int (i ^ j.toNat)):=opI fun _ _ _ _ _ _ _ hc q=>pow_int_small hc.1 hc.2.1 hc.2.2 q
theorem jIH:OpR X (binaryOp .LShift) (rI CPow fun i j=> .int (i*2 ^ j.toNat)):=opI fun _ _ _ _ _ _ _ hc q=>lshift_int_small hc.1 hc.2.1 hc.2.2 q
theorem jS4:OpR X (binaryOp .RShift) (rI (fun _ j=>0<=j) fun i j=> .int (i / 2 ^ j.toNat)):=opI fun i j _ _ _ _ _ hc q=>
 rshift_int hc (by rw[gK i (jJB _)]; exact q)
theorem jL2:OpR X (binaryOp .BitAnd) (rI0 fun i j=> .int (Builtin.bitAnd i j)):=opI0 fun _ _ _ _ _ _ _ q=>and_int q
theorem op_or:OpR X (binaryOp .BitOr) (rI0 fun i j=> .int (Builtin.bitOr i j)):=opI0 fun _ _ _ _ _ _ _ q=>or_int q
theorem unI {f:Value->Sem Value}{g:Int->Int}
  (rule:∀ (i:Int) (t:Tok) (s:Shared) (Q:Value->Shared->Prop) (E:Value->Shared->Prop),Q (.int (g i) s.toks) { s with toks:=s.toks+1} ->wpAny (model X.prog X.w) X.A (f (.int i t)) Q E s):
  UnR X f (rU fun i=> .int (g i)):=by
 intro pins s σ H x v Q I rx h
 obtain⟨i,rfl,q⟩:=h
 obtain⟨t,rfl⟩:=rx
 exact rule i t s _ _ ⟨.int (g i),H,I.tok _,⟨_,rfl⟩,q⟩
theorem jR5:UnR X (unaryOp .USub) (rU fun i=> .int (-i)):=unI fun _ _ _ _ _ q=>neg_int q
theorem jR6:UnR X (unaryOp .Invert) (rU fun i=> .int (Builtin.bitNot i)):=unI fun _ _ _ _ _ q=>invert_int q
end
def scal:V->V->Bool
 | .non, .non=>true | .non, .int _=>true | .int _, .non=>true | .non, .bl _=>true | .bl _, .non=>true | .non, .str _=>true | .str _, .non=>true
 | .int _, .int _=>true | .bl _, .bl _=>true | .str _, .str _=>true | .byt _, .byt _=>true
 | .int _, .str _=>true | .str _, .int _=>true | .bl _, .str _=>true | .str _, .bl _=>true
 | _,_=>false
def rEq:R2:=fun x y H Q=>scal x y=true/\Q (.bl (decide (x=y))) H
def rNe:R2:=fun x y H Q=>scal x y=true/\Q (.bl (!decide (x=y))) H
theorem jDZ {i j:Int} :decide (V.int i=V.int j)=(i==j):=by
 rw[cc]
 simp
theorem jOX {i j:Bool} :decide (V.bl i=V.bl j)=(i==j):=by
 rw[cc]
 simp
theorem jMA {i j:Str} :decide (V.str i=V.str j)=(i==j):=by
 rw[cc]
 simp
theorem jMB {i j:Array UInt8} :decide (V.byt i=V.byt j)=(i.toList==j.toList):=by
 rw[cc]
 cases i
 cases j
 simp
section
variable {X:Cx}{a b c:Expr}{ta tb tc:TE}{pos:Pos}
theorem jT {pins:List (Addr×Obj)}{σ:St}{H:Hp}{s:Shared}{Q:VK}{k k':Bool}(I:Inv X pins σ H s)(q:Q (.bl k) H)(e:k=k'):EP X pins σ Q (.bool k') s:=by
 subst e
 exact⟨.bl k,H,I,rfl,q⟩
theorem qI:OpR X (compareOp .Eq) rEq:=by
 intro pins s σ H x y v u Q I rx ry h
 obtain⟨hs,q⟩:=h
 cases x with
 | non=>
  cases rx
  cases y with
  | non=>cases ry; exact PySem.EqNone.eq_none_none (jT I q (by simp))
  | bl j=>cases ry; exact PySem.EqNone.eq_none_bool (jT I q (by simp))
  | int j=>obtain⟨t',rfl⟩:=ry; exact PySem.EqNone.eq_none_int (jT I q (by simp))
  | str j=>obtain⟨t',rfl⟩:=ry; exact PySem.EqNone.eq_none_str (jT I q (by simp))
  | _=>exact absurd (show false=true from hs) ai
 | bl i=>
  cases rx
  cases y with
  | non=>cases ry; exact PySem.EqNone.eq_bool_none (jT I q (by simp))
  | bl j=>cases ry; exact eq_bool (jT I q jOX)
  | str j=>obtain⟨t',rfl⟩:=ry; exact PySem.EqMixed.eq_bool_str (jT I q (by simp))
  | _=>exact absurd (show false=true from hs) ai
 | int i=>
  obtain⟨t,rfl⟩:=rx
  cases y with
  | non=>cases ry; exact PySem.EqNone.eq_int_none (jT I q (by simp))
  | int j=>obtain⟨t',rfl⟩:=ry; exact eq_int (jT I q jDZ)
  | str j=>obtain⟨t',rfl⟩:=ry; exact PySem.EqMixed.eq_int_str (jT I q (by simp))
  | _=>exact absurd (show false=true from hs) ai
 | str i=>
  obtain⟨t,rfl⟩:=rx
  cases y with
  | non=>cases ry; exact PySem.EqNone.eq_str_none (jT I q (by simp))
  | bl j=>cases ry; exact PySem.EqMixed.eq_str_bool (jT I q (by simp))
  | int j=>obtain⟨t',rfl⟩:=ry; exact PySem.EqMixed.eq_str_int (jT I q (by simp))
  | str j=>obtain⟨t',rfl⟩:=ry; exact eq_str (jT I q jMA)
  | _=>exact absurd (show false=true from hs) ai
 | byt i=>
  obtain⟨t,rfl⟩:=rx
  cases y with
  | byt j=>obtain⟨t',rfl⟩:=ry; exact PySem.W.eq_bytes (jT I q jMB)
  | _=>exact absurd (show false=true from hs) ai
 | _=>cases y <;> exact absurd (show false=true from hs) ai
theorem op_ne:OpR X (compareOp .NotEq) rNe:=by
 intro pins s σ H x y v u Q I rx ry h
 obtain⟨hs,q⟩:=h
 cases x with
 | non=>
  cases rx
  cases y with
  | non=>cases ry; exact PySem.EqNone.ne_none_none (jT I q (by simp))
  | bl j=>cases ry; exact PySem.EqNone.ne_none_bool (jT I q (by simp))
  | int j=>obtain⟨t',rfl⟩:=ry; exact PySem.EqNone.ne_none_int (jT I q (by simp))
  | str j=>obtain⟨t',rfl⟩:=ry; exact PySem.EqNone.ne_none_str (jT I q (by simp))
  | _=>exact absurd (show false=true from hs) ai
 | bl i=>
  cases rx
  cases y with
  | non=>cases ry; exact PySem.EqNone.ne_bool_none (jT I q (by simp))
  | bl j=>cases ry; exact ne_bool (jT I q (bP not jOX))
  | str j=>obtain⟨t',rfl⟩:=ry; exact PySem.EqMixed.ne_bool_str (jT I q (by simp))
  | _=>exact absurd (show false=true from hs) ai
 | int i=>
  obtain⟨t,rfl⟩:=rx
  cases y with
  | non=>cases ry; exact PySem.EqNone.ne_int_none (jT I q (by simp))
  | int j=>obtain⟨t',rfl⟩:=ry; exact ne_int (jT I q (bP not jDZ))
  | str j=>obtain⟨t',rfl⟩:=ry; exact PySem.EqMixed.ne_int_str (jT I q (by simp))
  | _=>exact absurd (show false=true from hs) ai
 | str i=>
  obtain⟨t,rfl⟩:=rx
  cases y with
  | non=>cases ry; exact PySem.EqNone.ne_str_none (jT I q (by simp))
  | bl j=>cases ry; exact PySem.EqMixed.ne_str_bool (jT I q (by simp))
  | int j=>obtain⟨t',rfl⟩:=ry; exact PySem.EqMixed.ne_str_int (jT I q (by simp))
  | str j=>obtain⟨t',rfl⟩:=ry; exact ne_str (jT I q (bP not jMA))
  | _=>exact absurd (show false=true from hs) ai
 | byt i=>
  obtain⟨t,rfl⟩:=rx
  cases y with
  | byt j=>obtain⟨t',rfl⟩:=ry; exact PySem.W.ne_bytes (jT I q (bP not jMB))
  | _=>exact absurd (show false=true from hs) ai
 | _=>cases y <;> exact absurd (show false=true from hs) ai
theorem op_lt:OpR X (compareOp .Lt) (rI0 fun i j=> .bl (decide (i<j))):=opB0 fun _ _ _ _ _ _ _ q=>lt_int q
theorem op_gt:OpR X (compareOp .Gt) (rI0 fun i j=> .bl (decide (j<i))):=opB0 fun _ _ _ _ _ _ _ q=>gt_int q
theorem op_ge:OpR X (compareOp .GtE) (rI0 fun i j=> .bl (decide (j<=i))):=opB0 fun _ _ _ _ _ _ _ q=>ge_int q
theorem jEH:OpR X (compareOp .Is) (fun x y H Q=>y= .non/\Q (.bl (decide (x= .non))) H):=by
 intro pins s σ H x y v u Q I rx ry h
 obtain⟨rfl,q⟩:=h
 cases ry
 refine is_none_gen (jT I q ?_)
 cases x <;> first
  | (cases rx; rfl)
  | (obtain⟨t,rfl⟩:=rx; rfl)
theorem jKZ:OpR X (compareOp .IsNot) (fun x y H Q=>y= .non/\Q (.bl (!decide (x= .non))) H):=by
 intro pins s σ H x y v u Q I rx ry h
 obtain⟨rfl,q⟩:=h
 cases ry
 refine isnot_none_gen (jT I q ?_)
 cases x <;> first
  | (cases rx; rfl)
  | (obtain⟨t,rfl⟩:=rx; rfl)
theorem jN (b:Expr){op:CmpOp}(h:op≠ .In:=by decide)(h2:op≠ .NotIn:=by decide):behindInMarks op b=false:=by
 have e1:(op==CmpOp.In)=false:=by cases op <;> first | rfl | exact absurd rfl h
 have e2:(op==CmpOp.NotIn)=false:=by cases op <;> first | rfl | exact absurd rfl h2
 cases b <;> simp [behindInMarks,e1,e2]
theorem jPT {op:CmpOp}{r:R2}(ho:OpR X (compareOp op) r)(ha:PE X a ta)(hb:PE X b tb)(hm:behindInMarks op b=false):PE X (.Compare a [op] [b] pos) (tOp r ta tb):=by
 intro pins s σ H Q I h
 exact wpAny_Compare1 (binT ha hb I h fun v u s2 x y H2 I2 rx ry q=>ho pins s2 σ H2 x y v u Q I2 rx ry q) hm
def tTest (t:TE):TT:=fun σ H Q=>t σ H fun x H'=>∃ k,x= .bl k/\Q k H'
theorem jDE {op:CmpOp}{r:R2}(ho:OpR X (compareOp op) r)(ha:PE X a ta)(hb:PE X b tb)(hm:behindInMarks op b=false):PT X (.Compare a [op] [b] pos) (tTest (tOp r ta tb)):=by
 intro pins s σ H Q I h
 refine wpAny_isTrue_Compare1 (thn (ha pins s σ H _ I h) fun v s1 ⟨x,H1,I1,r1,q1⟩=>thn (hb pins s1 σ H1 _ I1 q1) fun u s2 ⟨y,H2,I2,r2,q2⟩=>
  thn (ho pins s2 σ H2 x y v u _ I2 r1 r2 q2) fun c s3 ⟨z,H3,I3,r3,k,e,q3⟩=>?_) hm
 subst e
 cases r3
 exact dE ⟨H3,I3,q3⟩
theorem jG9:(sizeLine:Nat)<2 ^ 63:=by rw[eg]; decide
theorem vals1 {x:V}{us:List Value}(r:Vals [x] us):∃ u,us=[u]/\RelV x u:=by
 cases r with
 | cons r1 r2=>cases r2; exact⟨_,rfl,r1⟩
theorem jE1:yO X (.type "int") (fun xs H Q=>(∃ i,xs=[.int i]/\Q (.int i) H)\/∃ k,xs=[.bl k]/\Q (.int (if k then 1 else 0)) H):=by
 intro pins s σ H xs us Q I r h
 rcases h with ⟨i,rfl,q⟩ | ⟨k,rfl,q⟩
 ·obtain⟨u,rfl,t,rfl⟩:=vals1 r
  exact call_int_int ⟨.int i,H,I,⟨_,rfl⟩,q⟩
 ·obtain⟨u,rfl,r1⟩:=vals1 r
  cases r1
  exact call_int_bool ⟨.int (if k then 1 else 0),H,I.tok _,⟨_,rfl⟩,q⟩
end
end L2
namespace L2
open PySem PySem.Spec PyProof.Rows
structure ObjM (h:Heap)(x dx C:Addr)(mA:Str->Option Value):Prop where
 obj:h.get? x=some (instObj C dx)
 ns:h.Ns1 dx mA
 ne:dx≠x
theorem jLF {h:Heap}{dx:Addr}{mA:Str->Option Value}(n:h.Ns1 dx mA):∃ od,h.get? dx=some od/\∀ name,lookIn name od=some (mA name):=by
 obtain⟨o,es,ep,ho,hd,hk,_,hm⟩:=n
 refine⟨o,ho,fun name=>?_⟩
 have e:=hm name
 unfold nsFind findBy at e
 rw[<- Array.find?_toList] at e
 unfold lookIn
 rw[hd]
 dsimp only
 split
 ·rename_i y q
  rw[q] at e
  exact bP some e
 ·rename_i q
  rw[q] at e
  have a:es.toList.any (·.refKey)=false:=by
   rw[List.any_eq_false]
   intro y hy
   obtain⟨z,t,hkey⟩:=hk y (Array.mem_toList_iff.mp hy)
   simp [DictEntry.refKey,hkey]
  have a':¬ es.toList.any (·.refKey)=true:=by rw[a]; exact ai
  rw[ah a']
  exact bP some e
theorem ObjM.look {h:Heap}{x dx C:Addr}{mA:Str->Option Value}(I:ObjM h x dx C mA):∃ od,PySem.W.InstAt h x (instObj C dx) C (some od)/\∀ name,lookIn name od=some (mA name):=
 let ⟨od,ho,hl⟩:=jLF I.ns
 ⟨od,⟨I.obj,rfl,rfl,ho⟩,hl⟩
section
variable {prog:Program}{w:World}{A:Around}{E:Value->Shared->Prop}{s:Shared}{K:W.Frag}{x dx C f:Addr}{mA:Str->Option Value}{name:Str}{v:Value}
end
theorem RelO.some_of {v:V}{o:Option Value}(r:RelO (some v) o):∃ u,o=some u/\RelV v u:=by
 cases o with
 | none=>exact(show False from r).elim
 | some u=>exact⟨u,rfl,r⟩
section
variable {P:Program}{w:World}{H H':Hp}{h h':Heap}{a C dx:Addr}{fs fs':List (Str×V)}
theorem jQN (hok:HOk P w H h)(e:H a=some (.ins C dx fs)):∃ mA,ObjM h a dx C mA/\(∀ f,RelO (fs.lookup f) (mA f))/\PySem.Within mA (fs.map (·.1))/\fs.length<=1000/\H dx=some (.own a):=by
 obtain⟨d,z,ne,ob,mA,n,r,q⟩:=(show ObjOk P w H h a (.ins C dx fs) from hok a _ e)
 exact⟨mA,⟨ob,n,ne⟩,r,q,z,d⟩
end
structure Cls (K:W.Frag)(C:Addr):Prop where
 pg:plainGet K C Str.empty=true
 hd:PySem.W.hasDictIn K C=true
 po:PySem.W.plainOver K C=true
 sa:findIn K (.ref C) "__setattr__" =some (some (.builtin "object.__setattr__"))
theorem Cls.get {K:W.Frag}{C:Addr}(c:Cls K C)(f:Str):plainGet K C f=true:=c.pg
section
variable {X:Cx}{pins:List (Addr×Obj)}{σ:St}{H:Hp}{s:Shared}{a C dx:Addr}{fs:List (Str×V)}{f:Str}{v:V}{A:Around}{E:Value->Shared->Prop}
end
section
variable {X:Cx}{o e value:Expr}{f:Str}{pos pos' tpos:Pos}{ta tv:TE}
end
section
variable {X:Cx}{pins:List (Addr×Obj)}{σ:St}{H:Hp}{s:Shared}{A:Around}{E:Value->Shared->Prop}{Q:Value->Shared->Prop}{c:Value}{b:Bool}
inductive TyOf (K:W.Frag) (H:Hp):V->Value->Prop where
 | non:TyOf K H .non (.type "NoneType")
 | bl (x:Bool):TyOf K H (.bl x) (.type "bool")
 | int (i:Int):TyOf K H (.int i) (.type "int")
 | str (x:Str):TyOf K H (.str x) (.type "str")
 | flt (x:UInt64):TyOf K H (.flt x) (.type "float")
 | lst {a:Addr}{xs:List V}(e:H a=some (.lst xs)):TyOf K H (.ref a) (.type "list")
 | frz {a:Addr}{o:Obj}{xs:List V}(e:H a=some (.frz o (.lst xs))):TyOf K H (.ref a) (.type "list")
 | tup {a:Addr}{xs:List V}(e:H a=some (.tup xs)):TyOf K H (.ref a) (.type "tuple")
 | dK {a:Addr}{kvs:List (Key×V)}(e:H a=some (.dK kvs)):TyOf K H (.ref a) (.type "dict")
 | dT {a:Addr}{kvs:List (List Key×V)}(e:H a=some (.dT kvs)):TyOf K H (.ref a) (.type "dict")
 | ins {a C dx:Addr}{fs:List (Str×V)}(e:H a=some (.ins C dx fs)) (cl:Cls K C) (ha:findIn K (.ref C) "__class__" =some (some (.builtin "object.__class__")))
   (hn:specialIn K (.builtin "object.__class__") "__get__" =some (some (.builtin "getset_descriptor.__get__"))) (htk:takesIn K (.builtin "object.__class__")=some true)
   (hm:mroIn K C (.type "object")=some true):TyOf K H (.ref a) (.ref C)
theorem jLZ {x:V}{u t:Value}(I:Inv X pins σ H s)(rx:RelV x u)(ty:TyOf X.K H x t)(e:kitOne X.K t c=some b)(h:∀ tk,Q (.bool b) { s with toks:=tk}):
  wpAny (model X.prog X.w) A (call (.builtin "isinstance") [u,c]) Q E s:=by
 cases ty with
 | non=>cases (show u=Value.none from rx); exact bX PySem.W.kitx_none I.kIn True.intro e (fun z=>nomatch z) h
 | bl y=>cases (show u=Value.bool y from rx); exact bX PySem.W.kitx_bool I.kIn True.intro e (fun z=>nomatch z) h
 | int i=>obtain⟨t,q⟩:=(show ∃ t,u=Value.int i t from rx); cases q; exact bX PySem.W.kitx_int I.kIn True.intro e (fun z=>nomatch z) h
 | str y=>obtain⟨t,q⟩:=(show ∃ t,u=Value.str y t from rx); cases q; exact bX PySem.W.kitx_str I.kIn True.intro e (fun z=>nomatch z) h
 | flt y=>obtain⟨t,q⟩:=(show ∃ t,u=Value.float y t from rx); cases q; exact bX PySem.W.kitx_float I.kIn True.intro e (fun z=>nomatch z) h
 | @lst a xs ea=>
  cases (show u=Value.ref a from rx)
  obtain⟨_,_,n,_,h1⟩:=(show ObjOk X.prog X.w H s.heap a (.lst xs) from I.hok a _ ea)
  exact bX kitx_list I.kIn ⟨_,h1,rfl⟩ e (fun z=>nomatch z) h
 | @frz a ob xs ea=>
  cases (show u=Value.ref a from rx)
  obtain⟨_,_,_,n,_,h1⟩:=(show ObjOk X.prog X.w H s.heap a (.frz ob (.lst xs)) from I.hok a _ ea)
  exact bX kitx_list I.kIn ⟨_,h1,rfl⟩ e (fun z=>nomatch z) h
 | @tup a xs ea=>
  cases (show u=Value.ref a from rx)
  obtain⟨_,_,_,p⟩:=(show ObjOk X.prog X.w H s.heap a (.tup xs) from I.hok a _ ea)
  obtain⟨o,h1,h2,_⟩:=p.isTup
  exact bX PySem.W.kitx_tuple I.kIn ⟨o,h1,h2⟩ e (fun z=>nomatch z) h
 | @dK a kvs ea=>
  cases (show u=Value.ref a from rx)
  obtain⟨_,_,vs,_,p⟩:=(show ObjOk X.prog X.w H s.heap a (.dK kvs) from I.hok a _ ea)
  obtain⟨o,es,ep,h1,h2,_⟩:=p
  exact bX kitx_dict I.kIn ⟨o,h1,h2.1⟩ e (fun z=>nomatch z) h
 | @dT a kvs ea=>
  cases (show u=Value.ref a from rx)
  obtain⟨_,_,xs,_,o,es,ep,h1,h2,_⟩:=(show ObjOk X.prog X.w H s.heap a (.dT kvs) from I.hok a _ ea)
  exact bX kitx_dict I.kIn ⟨o,h1,h2.1⟩ e (fun z=>nomatch z) h
 | @ins a C dx fs ea cl ha hn htk hm=>
  cases (show u=Value.ref a from rx)
  obtain⟨mA,O,_⟩:=jQN I.hok ea
  obtain⟨od,J,_⟩:=O.look
  exact bX (PySem.W.kitx_own (cl.get _) cl.hd ha hn htk hm) I.kIn J e (fun z=>nomatch z) h
end
end L2
namespace L2
open PySem PySem.Spec PyProof.Rows
structure Room (k:Nat)(A:Around):Prop where
 hd:A.handled=none
 dp:A.depth+3*k+5<recursionLimit
 un:A.units+16*k+200<cLine
theorem Room.mono {j k:Nat}{A:Around}(r:Room k A)(h:j<=k):Room j A:=⟨r.hd,by have:=r.dp; omega,by have:=r.un; omega⟩
theorem Room.deeper {k:Nat}{A:Around}(r:Room (k+1) A)(env:Env):Room k (A.deeper env):=
 ⟨r.hd,by have:=r.dp; show A.depth+1+3*k+5<_; omega,by have:=r.un; show A.units+3+16*k+200<_; omega⟩
theorem Room.depth {k:Nat}{A:Around}(r:Room k A):A.depth<recursionLimit:=by have:=r.dp; omega
theorem Room.units {k:Nat}{A:Around}(r:Room k A):A.units+64<cLine:=by have:=r.un; omega
theorem Room.units0 {k:Nat}{A:Around}(r:Room k A):A.units<cLine:=by have:=r.un; omega
def tNil:TA:=fun _ H Q=>Q [] H
def tCons (ta:TE)(tr:TA):TA:=fun σ H Q=>ta σ H fun x H1=>tr σ H1 fun xs H2=>Q (x::xs) H2
section
variable {X:Cx}{e:Expr}{es:List Expr}{te:TE}{t:TA}{pos:Pos}
theorem yA:PA X [] tNil:=fun _ _ _ _ H Q I h=>Calls.spliced_nil ⟨[],H,I, .nil,h⟩
theorem jV (ha:PE X e te)(hr:PA X es t)(hs:starEach (e::es) X.env=(false,eval e X.env)::starEach es X.env:=by rfl):PA X (e::es) (tCons te t):=by
 intro pos pins s σ H Q I h
 rw[hs]
 show wpAny _ _ (spliced ((false,eval e X.env)::backTo pos (starEach es X.env))) _ _ s
 refine Calls.spliced_cons (thn (ha pins s σ H _ I h) fun u s1 ⟨x,H1,I1,r1,q1⟩=>?_)
 exact thn (hr pos pins s1 σ H1 _ I1 q1) fun us s2 ⟨xs,H2,I2,r2,q2⟩=>⟨x::xs,H2,I2, .cons r1 r2,q2⟩
def tTup (t:TA):TE:=fun σ H Q=>t σ H fun xs H1=>xs.length<=sizeLine/\∀ p,H1 p=none->Q (.ref p) (upd H1 p (.tup xs))
def tLst (t:TA):TE:=fun σ H Q=>t σ H fun xs H1=>xs.length<=sizeLine/\∀ p,H1 p=none->Q (.ref p) (upd H1 p (.lst xs))
theorem jRW {x1}(h:PA X es t):PE X (.Tuple es x1 pos) (tTup t):=by
 intro pins s σ H Q I hq
 refine gC (thn (h pos pins s σ H _ I hq) fun us s1 ⟨xs,H1,I1,r,z,q⟩=>⟨by rw[<- r.length]; exact z,?_⟩)
 have hf:H1 s1.heap.objs.size=none:=I1.hok.fresh (ak _)
 refine⟨.ref s1.heap.objs.size,upd H1 s1.heap.objs.size (.tup xs),I1.laid (t':=s1.toks) (fun b u e=>ae _ e) (ak _) ?_,rfl,q _ hf⟩
 exact⟨z,us,r,TupO.new _ _⟩
theorem jIG (h:PA X es t):PE X (.List es pos) (tLst t):=by
 intro pins s σ H Q I hq
 refine wpAny_List_spliced (thn (h pos pins s σ H _ I hq) fun us s1 ⟨xs,H1,I1,r,z,q⟩=>⟨by rw[<- r.length]; exact z,?_⟩)
 have hf:H1 s1.heap.objs.size=none:=I1.hok.fresh (ak _)
 refine⟨.ref s1.heap.objs.size,upd H1 s1.heap.objs.size (.lst xs),I1.laid (t':=s1.toks) (fun b u e=>ae _ e) (ak _) ?_,rfl,q _ hf⟩
 exact⟨z,us,0,r,am _ rfl⟩
end
abbrev Sp:=List V->Hp->VK->XK->Prop
abbrev CXT:=List Env->Hp->Shared->XK->Value->Shared->Prop
structure Env0 (P:Program)(w:World)(K:W.Frag)(mg:Str->Option Value)(base:Heap)(A:Around)(outer:List Env)(s:Shared)(H:Hp):Prop where
 frames:A.frames=some outer
 mod:Mod K mg base
 bs:∀ b o,base.get? b=some o->s.heap.get? b=some o/\H b=none
 bsz:base.objs.size<=s.heap.objs.size
 funs:s.heap.FunFrames base outer
 frf:∀ b∈frs outer,H b=none
 hok:HOk P w H s.heap
 bare:AllBare s.gens
def CE (outer:List Env)(P:Program)(w:World)(H:Hp)(s:Shared)(Q:VK)(u:Value)(s':Shared):Prop:=
 ∃ v H',s'.os=s.os/\AllBare s'.gens/\Un (frs outer) [] H H' s.heap s'.heap/\HOk P w H' s'.heap/\RelV v u/\Q v H'
def CR (CX:CXT)(outer:List Env)(P:Program)(w:World)(H:Hp)(s:Shared)(Q:VK)(E:XK)(r:Result)(s':Shared):Prop:=
 match r with
 | .ok (.ret u)=>CE outer P w H s Q u s'
 | .ok _=>False
 | .error e=>CX outer H s E e s'
structure FnOk (P:Program)(w:World)(K:W.Frag)(mg:Str->Option Value)(base:Heap)(CX:CXT)(k:Nat)(f:Addr)(fd:FuncData)(ps:List Str)(sp:Sp):Prop where
 len:∀ vs H Q E,sp vs H Q E->vs.length=ps.length
 run:∀ (A:Around) (outer:List Env) (s:Shared) (H:Hp) (args:Args) (us:List Value) (vs:List V) (Q:VK) (E:XK),Room k A->Env0 P w K mg base A outer s H->BindsTo s fd args (ps.zip us)->Vals vs us->sp vs H Q E->
  codeAny (model P w) A (.call (.ref f) args) (CR CX outer P w H s Q E) s
section
variable {X:Cx}{pins:List (Addr×Obj)}{σ:St}{H:Hp}{s s':Shared}
theorem Inv.env0 (I:Inv X pins σ H s):Env0 X.prog X.w X.K X.mg X.base X.A X.stack s H:=
 ⟨I.ok.frames,I.ok.mod,I.bs,bf I.ok.bsz I.sz,I.stack,I.stkFree,I.hok,I.bare⟩
theorem Inv.after {Q:VK}{u:Value}(I:Inv X pins σ H s)(h:CE X.stack X.prog X.w H s Q u s'):EP X pins σ Q u s':=by
 obtain⟨v,H',os,bare,un,hok,r,q⟩:=h
 obtain⟨hh,g,d,t,os'⟩:=s'
 obtain rfl:os'=s.os:=os
 exact⟨v,H',I.call (h':=hh) (g':=g) (d':=d) (t':=t) (ch:=[]) un hok bare (fun b z=>absurd z (by simp)),r,q⟩
end
def tCall (sp:Sp)(dvs:List V)(E:XK)(t:TA):TE:=fun σ H Q=>t σ H fun vs H1=>sp (vs++dvs) H1 Q E
def Binds (K:W.Frag)(fd:FuncData)(ps:List Str)(ds:List Value):Prop:=
 ∀ (s:Shared) (us:List Value),K.In s.heap->(us++ds).length=ps.length->BindsTo s fd ⟨us,[]⟩ (ps.zip (us++ds))
theorem Binds.all {K:W.Frag}{fd:FuncData}{ps:List Str}(h:∀ us:List Value,us.length=ps.length->bindArgs fd ⟨us,[]⟩=pure (ps.zip us)):Binds K fd ps []:=fun s us _ hl=>by
 rw[aV] at hl ⊢
 exact .of_eq (h us hl)
def jMR (CX:CXT)(X:Cx)(E:XK):Prop:=∀ (pins:List (Addr×Obj)) (σ:St) (H:Hp) (s:Shared) (e:Value) (s':Shared),Inv X pins σ H s->CX X.stack H s E e s'->X.xe e s'
section
variable {X:Cx}{CX:CXT}{k:Nat}{f C:Addr}{fd:FuncData}{ps:List Str}{sp:Sp}{dvs:List V}{ds:List Value}{E:XK}{x m:Str}{p pos apos:Pos}{e o:Expr}{es:List Expr}{ta:TE}{t:TA}
theorem jRJ {pins:List (Addr×Obj)}{σ:St}{H:Hp}{s:Shared}{Q:VK}{us:List Value}{vs:List V}(F:FnOk X.prog X.w X.K X.mg X.base CX k f fd ps sp)(hr:Room k X.A)(hb:Binds X.K fd ps ds)(hd:Vals dvs ds)(hx:jMR CX X E)
  (I:Inv X pins σ H s) (r:Vals vs us) (h:sp (vs++dvs) H Q E):wpAny (model X.prog X.w) X.A (call (.ref f) us) (EP X pins σ Q) X.xe s:=by
 have r2:Vals (vs++dvs) (us++ds):=r.append hd
 have hl:(us++ds).length=ps.length:=by rw[<- r2.length]; exact F.len _ _ _ _ h
 refine eX (dy (F.run X.A X.stack s H ⟨us,[]⟩ (us++ds) (vs++dvs) Q E hr I.env0 (hb s us I.kIn hl) r2 h) fun r s' hq=>?_)
 cases r with
 | error e=>exact hx pins σ H s e s' I hq
 | ok fl=>
  cases fl with
  | ret u=>exact I.after hq
  | next=>exact False.elim hq
  | brk=>exact False.elim hq
  | cont=>exact False.elim hq
theorem jPU (F:FnOk X.prog X.w X.K X.mg X.base CX k f fd ps sp)(hr:Room k X.A)(hg:Gl X x)(hm:X.mg x=some (.ref f))(hk:keepIn X.K (.ref f)=true)(hb:Binds X.K fd ps ds)(hd:Vals dvs ds)(hx:jMR CX X E)
  (ha:PA X (e::es) t) (hdb:(x==("__debug__" :Str))=false:=by decide) (he:starEach (e::es) X.env=(false,eval e X.env)::starEach es X.env:=by rfl) (hpl:(backTo pos (starEach es X.env)).any (·.1)=false:=by rfl):
  PE X (.Call (.Name x p) (e::es) [] pos) (tCall sp dvs E t):=by
 intro pins s σ H Q I h
 refine cz (jBP I hg hm ?_ hdb)
 refine eY (h₀:=X.base) I.ok.mod.kin hk (thn (ha pos pins s σ H _ I h) fun us s1 ⟨vs,H1,I1,r,q⟩=>⟨I1.kIn,?_⟩) he hpl
 exact jRJ F hr hb hd hx I1 r q
end
def PK (X:Cx)(kws:List Keyword)(t:TA):Prop:=
 ∀ (pos:Pos) (pins:List (Addr×Obj)) (s:Shared) (σ:St) (H:Hp) (Q:List V->Hp->Prop),Inv X pins σ H s->t σ H Q->wpAny (model X.prog X.w) X.A (evalAll ((backToKw pos (keywordEach kws X.env)).map (·.2))) (AP X pins σ Q) X.xe s
section
variable {X:Cx}{CX:CXT}{k:Nat}{f C:Addr}{fd:FuncData}{ps ks:List Str}{sp:Sp}{E:XK}{x m:Str}{p pos apos kpos:Pos}{e o:Expr}{es:List Expr}{kws:List Keyword}{te ta:TE}{t tk:TA}{nm:Option Str}
theorem jRS:PK X [] tNil:=fun _ _ _ _ H Q I h=>wpAny_evalAll_nil ⟨[],H,I, .nil,h⟩
theorem jPI (ha:PE X e te)(hr:PK X kws t):PK X (⟨nm,e,kpos⟩::kws) (tCons te t):=by
 intro pos pins s σ H Q I h
 show wpAny _ _ (evalAll ((do let v <- eval e X.env; standAt pos; pure v)::(backToKw pos (keywordEach kws X.env)).map (·.2))) _ _ s
 refine wpAny_evalAll_cons (aa (thn (ha pins s σ H _ I h) fun u s1 ⟨x,H1,I1,r1,q1⟩=>aa (dZ (ag ?_))))
 exact thn (hr pos pins s1 σ H1 _ I1 q1) fun us s2 ⟨xs,H2,I2,r2,q2⟩=>⟨x::xs,H2,I2, .cons r1 r2,q2⟩
variable {g:List Value->List Value->List Value}{gV:List V->List V->List V}
end
structure FnScope (N P:List Str)(sc:Scope):Prop where
 kind:sc.kind= .function
 co:sc.isCoroutine=false
 gen:sc.isGenerator=false
 nd:N.Nodup
 pre:N.take P.length=P
 par:∀ x∈P,sc.names.lookup x=some .local\/sc.names.lookup x=some .cell
 nofree:∀ y∈sc.names,y.2≠ .free
theorem jGQ {kindOf:Str->Option NameKind}{x:Str} :∀ {binds:List (Str×Value)}{m:Str->Option Value},(∀ v,(x,v)∉binds)->bindL kindOf binds m x=m x
 | [],_,_=>rfl
 | (n,v)::r,m,h=>by
  unfold bindL
  rw[jGQ fun w hw=>h w (aM _ hw)]
  split
  ·have:x≠n:=by rintro rfl; exact h v az
   simp [this]
  ·rfl
theorem jGS {kindOf:Str->Option NameKind}{x:Str} :∀ {binds:List (Str×Value)}{m:Str->Option Value},(∀ v,(x,v)∉binds)->bindC kindOf binds m x=m x
 | [],_,_=>rfl
 | (n,v)::r,m,h=>by
  unfold bindC
  rw[jGS fun w hw=>h w (aM _ hw)]
  split
  ·rfl
  ·have:x≠n:=by rintro rfl; exact h v az
   simp [this]
theorem jGR {kindOf:Str->Option NameKind}{x:Str}{v:Value} :∀ {P:List Str}{vs:List Value}{i:Nat}{m:Str->Option Value},P.Nodup->P[i]?=some x->vs[i]?=some v->kindOf x=some .local->
  bindL kindOf (P.zip vs) m x=some v
 | [],_,_,_,_,h,_,_=>by simp at h
 | _::_,[],_,_,_,_,h,_=>by simp at h
 | p::P,w::vs,0,m,nd,h1,h2,hk=>by
  simp at h1 h2; subst h1; subst h2
  show bindL kindOf ((p,w)::P.zip vs) m p=_
  unfold bindL
  rw[jGQ fun v hv=>(cy.mp nd).1 (dk hv).1,aj hk]
  simp
 | p::P,w::vs,i+1,m,nd,h1,h2,hk=>by
  show bindL kindOf ((p,w)::P.zip vs) m x=_
  unfold bindL
  exact jGR (i:=i) (cy.mp nd).2 (by simpa using h1) (by simpa using h2) hk
theorem jGT {kindOf:Str->Option NameKind}{x:Str}{v:Value} :∀ {P:List Str}{vs:List Value}{i:Nat}{m:Str->Option Value},P.Nodup->P[i]?=some x->vs[i]?=some v->kindOf x≠some .local->
  bindC kindOf (P.zip vs) m x=some v
 | [],_,_,_,_,h,_,_=>by simp at h
 | _::_,[],_,_,_,_,h,_=>by simp at h
 | p::P,w::vs,0,m,nd,h1,h2,hk=>by
  simp at h1 h2; subst h1; subst h2
  show bindC kindOf ((p,w)::P.zip vs) m p=_
  unfold bindC
  rw[jGS fun v hv=>(cy.mp nd).1 (dk hv).1,ah hk]
  simp
 | p::P,w::vs,i+1,m,nd,h1,h2,hk=>by
  show bindC kindOf ((p,w)::P.zip vs) m x=_
  unfold bindC
  exact jGT (i:=i) (cy.mp nd).2 (by simpa using h1) (by simpa using h2) hk
def kP (N:List Str)(vs:List V):St:=vs.map some++replicate (N.length - vs.length) none
def cxOf (CX:CXT)(P:Program)(w:World)(K:W.Frag)(mg:Str->Option Value)(base:Heap)(N:List Str)(qual:Str)(scope:Scope)(f:Addr)(cd:Value)(A:Around)(outer:List Env)(s:Shared)(H:Hp)(E:XK):Cx where
 prog:=P
 w:=w
 K:=K
 mg:=mg
 base:=base
 A:=A.deeper (envOfC qual scope s.heap.objs.size f cd)
 N:=N
 s₀:=s
 H₀:=H
 env:=envOfC qual scope s.heap.objs.size f cd
 outer:=outer
 stack:=envOfC qual scope s.heap.objs.size f cd::outer
 ex:=[]
 calm:=true
 fn:=fun _=>true
 pn:=[]
 xe:=fun e s'=>wpAny (model P w) (A.deeper (envOfC qual scope s.heap.objs.size f cd)) (leaving (envOfC qual scope s.heap.objs.size f cd) e) (fun _ s''=>CX outer H s E e s'') (fun e' s''=>CX outer H s E e' s'') s'
theorem jJ8 {sc:Scope}{n:Nat}{x:Str}(h:sc.names.lookup x=some .cell):∃ c,(cellsFrom n sc.names []).lookup x=some c:=by
 have q:=dU sc.names n [] (.inl h)
 exact dM.mp q
theorem jDT {CX:CXT}{P:Program}{w:World}{K:W.Frag}{mg:Str->Option Value}{base:Heap}{N ps:List Str}{qual:Str}{scope:Scope}{f:Addr}{cd:Value}{A:Around}{outer:List Env}{s s1:Shared}{H:Hp}{E:XK}{us:List Value}{vs:List V}
  (S:FnScope N ps scope) (hd:A.handled=none) (e0:Env0 P w K mg base A outer s H) (hl:vs.length=ps.length) (r:Vals vs us)
  (x:InCallC s s.heap.objs.size (bindL (envOfC qual scope s.heap.objs.size f cd).kindOf (ps.zip us) fun _=>none) (cellsFrom (s.heap.objs.size+1) scope.names []) (bindC (envOfC qual scope s.heap.objs.size f cd).kindOf (ps.zip us) fun _=>none) s1):
  Inv (cxOf CX P w K mg base N qual scope f cd A outer s H E) [] (kP N vs) H s1:=by
 have hpl:ps.length<=N.length:=by have:=bP List.length S.pre; rw[bD] at this; omega
 obtain⟨h1,tk,rfl,hk⟩:=x.done
 have noA:∀ b:Addr,b∉(cxOf CX P w K mg base N qual scope f cd A outer s H E).ex:=fun b z=>absurd (show b∈([]:List Addr) from z) (by simp)
 refine⟨⟨e0.mod,S.kind,rfl,rfl,ak _,fun y z c h1 h2=>?_,fun y hy=>?_,fun y c _ h=>?_,fun _=>hd,gn e0.frames, .inr ⟨rfl,rfl⟩,fun b z=>absurd z (noA b),e0.bs,e0.bsz,fun b _ _=>noA b,fun b z=>absurd z (noA b),e0.funs,e0.frf⟩,
  rfl,e0.bare,Un.kept hk,⟨_,x.toInCall.ns,fun i y v h1 h2 h3=>?_⟩,fun y c h=>⟨_,x.cell y c h⟩,e0.hok.fresh (ak _),fun y c h=>?_,fun p hp=>absurd (show p∈([]:List (Addr×Obj)) from hp) (by simp),e0.hok.kept hk,?_⟩
 ·exact name_of_addr x.apart (cm h1) (cm h2)
 ·have hy:scope.names.lookup y=some .cell\/scope.names.lookup y=some .free:=hy
  rcases hy with hy | hy
  ·exact jJ8 hy
  ·exact absurd rfl (S.nofree _ (cm hy))
 ·exact cJ (x.above y c (cm h))
 ·have hi:i<vs.length:=by
   unfold kP at h2
   by_cases hi:i<vs.length
   ·exact hi
   ·rw[ba (by simpa using hi)] at h2
    rw[hV] at h2
    split at h2 <;> cases h2
  have ha:vs[i]?=some v:=by
   unfold kP at h2
   rw[bH (by simpa using hi),bb] at h2
   cases e:vs[i]? with
   | none=>rw[e] at h2; cases h2
   | some a=>rw[e] at h2; cases h2; rfl
  obtain⟨u,hu,rv⟩:=r.get ha
  have hp:ps[i]?=some y:=by
   rw[<- S.pre,bY (by omega)]; exact h1
  have ndP:ps.Nodup:=by rw[<- S.pre]; exact S.nd.sublist (df _ _)
  refine⟨u,rv,?_⟩
  rcases S.par y (aI hp) with k | k
  ·exact .inl ⟨k,jGR ndP hp hu k⟩
  ·obtain⟨c,e⟩:=jJ8 (n:=s.heap.objs.size+1) k
   refine .inr ⟨.inl k,c,e,?_⟩
   have q:=x.cell y c e
   rw[jGT ndP hp hu (by show scope.names.lookup y≠_; rw[k]; decide)] at q
   exact q
 ·exact e0.hok.fresh (cJ (x.above y c (cm h)))
 ·unfold kP
  show _=N.length
  rw[aC,af,d9]
  omega
theorem fn_of {CX:CXT}{P:Program}{w:World}{K:W.Frag}{mg:Str->Option Value}{base:Heap}{k:Nat}{f:Addr}{name qual:Str}{params:Arguments}{body:List Stmt}{scope:Scope}{dV kV doc pm cdv ct oc:Value}{an od:Option Addr}
  {osl:Array (Option Value)}{N ps:List Str}{sp:Sp}(lk:K.lookup f=some ⟨oc,od, .func (PySem.W.fnOf name qual params body scope dV kV doc pm an cdv ct),osl⟩) (hcd:PySem.W.codeIn K cdv qual=true) (S:FnScope N ps scope)
  (len:∀ vs H Q E,sp vs H Q E->vs.length=ps.length)
  (hbody:∀ (A:Around) (outer:List Env) (s:Shared) (H:Hp) (vs:List V) (Q:VK) (E:XK),Room k (A.deeper (envOfC qual scope s.heap.objs.size f cdv))->sp vs H Q E->
   ∃ t,PSs (cxOf CX P w K mg base N qual scope f cdv A outer s H E) body t/\t { nx:=fun _ H'=>Q .non H',rt:=Q} (kP N vs) H):
  FnOk P w K mg base CX (k+1) f (PySem.W.fnOf name qual params body scope dV kV doc pm an cdv ct) ps sp:=by
 refine⟨len,fun A outer s H args us vs Q E hr e0 hb r hsp=>?_⟩
 have hl:=len _ _ _ _ hsp
 have KX:K.In s.heap:=e0.mod.kin.keeps fun b o e=>(e0.bs b o e).1
 have lim:s.heap.NoLimit:=e0.mod.nolimit.keeps fun b o e=>(e0.bs b o e).1
 have hkind:∀ y∈ps.zip us,scope.names.lookup y.1=some .local\/(scope.names.lookup y.1=some .cell/\((cellsFrom (s.heap.objs.size+1) scope.names []).lookup y.1).isSome=true):=fun ⟨n,v⟩ hy=>by
  rcases S.par n (dk hy).1 with q | q
  ·exact .inl q
  ·exact .inr ⟨q,dU _ _ _ (.inl q)⟩
 refine fE hr.depth (KX _ _ lk) rfl S.co S.gen rfl (gL KX hcd) (hb _ _ _ _ ?_)
 refine eh S.kind hkind fun env he s1 x=>?_
 subst he
 refine⟨lim.keeps x.toInCall.keep,codeAny_func ?_⟩
 obtain⟨t,ht,hq⟩:=hbody A outer s H vs Q E (hr.deeper _) hsp
 have I:Inv (cxOf CX P w K mg base N qual scope f cdv A outer s H E) [] (kP N vs) H s1:=jDT S hr.hd e0 hl r x
 refine bw (ht [] s1 (kP N vs) H _ I hq) (fun fl s' hs=>?_) fun e s' hs=>hs
 have fin:∀ {σ':St}{H':Hp}{v:V}{u:Value},Inv (cxOf CX P w K mg base N qual scope f cdv A outer s H E) [] σ' H' s'->RelV v u->Q v H'->CE outer P w H s Q u s':=
  fun {σ' H' v u} J rv q=>⟨v,H',J.os,J.bare,J.base,J.hok,rv,q⟩
 cases fl with
 | ret u=>
  obtain⟨v,σ',H',J,rv,q⟩:=hs
  exact fin J rv q
 | next=>
  obtain⟨σ',H',J,q⟩:=hs
  exact fin (v:=V.non) (u:=Value.none) J rfl q
 | brk=>
  obtain⟨_,_,_,q⟩:=hs
  exact False.elim q
 | cont=>
  obtain⟨_,_,_,q⟩:=hs
  exact False.elim q
end L2
namespace L2
open PySem PySem.Spec PyProof.Rows
section
variable {X:Cx}{x:Str}{p pos:Pos}{e:Expr}{es:List Expr}{t:TA}{id T:String}{r:List V->Hp->VK->Prop}
def tCB (r:List V->Hp->VK->Prop)(t:TA):TE:=fun σ H Q=>t σ H fun vs H1=>r vs H1 Q
theorem jF1 (hc:yO X (.builtin id) r)(hg:Gl X x)(hm:X.mg x=none)(hv:bootBuiltins x=some (.builtin id))(ha:PA X (e::es) t)(hn:x≠ "__name__" :=by decide)(hdb:(x==("__debug__" :Str))=false:=by decide)
  (he:starEach (e::es) X.env=(false,eval e X.env)::starEach es X.env:=by rfl) (hpl:(backTo pos (starEach es X.env)).any (·.1)=false:=by rfl):PE X (.Call (.Name x p) (e::es) [] pos) (tCB r t):=by
 intro pins s σ H Q I h
 refine cz (jDP I hg hm hv ?_ hn hdb)
 exact PyProof.Rows.callWith_builtin1 (thn (ha pos pins s σ H _ I h) fun us s1 ⟨vs,H1,I1,r1,q1⟩=>hc pins s1 σ H1 vs us Q I1 r1 q1) he hpl
theorem jC1 (hc:yO X (.type T) r)(hg:Gl X x)(hm:X.mg x=none)(hv:bootBuiltins x=some (.type T))(ha:PA X (e::es) t)(hn:x≠ "__name__" :=by decide)(hdb:(x==("__debug__" :Str))=false:=by decide)
  (he:starEach (e::es) X.env=(false,eval e X.env)::starEach es X.env:=by rfl) (hpl:(backTo pos (starEach es X.env)).any (·.1)=false:=by rfl):PE X (.Call (.Name x p) (e::es) [] pos) (tCB r t):=by
 intro pins s σ H Q I h
 refine cz (jDP I hg hm hv ?_ hn hdb)
 exact dw (thn (ha pos pins s σ H _ I h) fun us s1 ⟨vs,H1,I1,r1,q1⟩=>hc pins s1 σ H1 vs us Q I1 r1 q1) he hpl
end
end L2
namespace HT
open PySem PyProof.Rows
def lexLt:List Int->List Int->Bool
 | [],[]=>false
 | [],_::_=>true
 | _::_,[]=>false
 | x::xs,y::ys=>if x=y then lexLt xs ys else decide (x<y)
theorem jA9 (x y:Int)(xs ys:List Int):lexLt (x::xs) (y::ys)=if x=y then lexLt xs ys else decide (x<y):=rfl
theorem jFA:lexLt [] []=false:=rfl
theorem jE2 (y:Int)(ys:List Int):lexLt [] (y::ys)=true:=rfl
theorem jE3 (x:Int)(xs:List Int):lexLt (x::xs) []=false:=rfl
theorem jNZ (A:Around)(s:Shared)(a:Int)(t:Tok)(c:Int)(u:Tok):∃ e,SeqAt.EqAt A s (.int a t) (.int c u) e/\(e=true↔a=c):=
 ⟨(a==c),gM a t c u,by simp⟩
theorem rcLt_int (A:Around)(s:Shared)(a:Int)(t:Tok)(c:Int)(u:Tok)(prog:Program)(w:World)(E:Value->Shared->Prop)(Q:Value->Shared->Prop)(h:Q (.bool (decide (a<c))) s):
  wpAny (model prog w) A (richCompare .Lt (.int a t) (.int c u)) Q E s:=
 (PyProof.Rows.lt_int h:wpAny (model prog w) A (compareOp .Lt (.int a t) (.int c u)) Q E s)
section
open PySem.SeqAt
open PySem.AutoSeq1 (wpAny_loadPart')
open PySem.MeetsSeq PySem.MeetsSeq2 PySem.MeetsSeq3
theorem tuple_lt_ints (l b:Addr)(items items2:Array Value)(n n2:Nat)(dd dd2:Option Addr)(sl sl2:Array (Option Value))(ns ms:List Int)(hi:IntsAre items.toList ns)(hj:IntsAre items2.toList ms):
  Meets (Builtin.«tuple.__lt__» ⟨[.ref l, .ref b],[]⟩)
   (fun _ R s=>s.heap.get? l=some { cls:= .type "tuple",dict:=dd,data:= .seq items n,slots:=sl} /\s.heap.get? b=some { cls:= .type "tuple",dict:=dd2,data:= .seq items2 n2,slots:=sl2} /\
    R (.ok (.ret (.bool (lexLt ns ms)))) s):=
 .of_wp fun prog w A R s h=>by
  obtain⟨hp,g,d,tk,os⟩:=s; obtain⟨hl,hb,h⟩:=h
  have f2:=AutoSeq1.sub_tuple_tuple
  have z1:items.size=ns.length:=by rw[<- hi.length]; simp
  have z2:items2.size=ms.length:=by rw[<- hj.length]; simp
  wp_walk using ce hl,ce hb,wpAny_forIn_list _ (fun rest b s'=>b.1=none/\s'=⟨hp,g,d,tk,os⟩/\∃ (vs ws:List Value) (ns' ms':List Int),rest=vs.zip ws/\
   IntsAre vs ns'/\IntsAre ws ms'/\ns'.length+items2.size=ms'.length+items.size/\R (.ok (.ret (.bool (lexLt ns' ms')))) ⟨hp,g,d,tk,os⟩) _
  case turn=>
   rintro ⟨y,x⟩ rest b s' ⟨hb',rfl,vs,ws,ns',ms',hz,hvi,hwi,hlen,hR⟩
   cases hvi with
   | nil=>rw[List.zip_nil_left] at hz; cases hz
   | cons a t hvi'=>
    cases hwi with
    | nil=>rw[List.zip_nil_right] at hz; cases hz
    | cons c u hwi'=>
     rw[dW] at hz
     injection hz with hyx hrest
     injection hyx with hy hx
     subst hy hx
     rw[jA9] at hR
     simp only [aQ] at hlen
     obtain⟨e,he,hiff⟩:=jNZ A.in1 ⟨hp,g,d,tk,os⟩ a t c u
     refine aa (he prog w _ _ ?_)
     cases e with
     | true=>
      rw[aj (hiff.mp rfl)] at hR
      wp_walk
      exact⟨rfl,rfl,_,_,_,_,hrest,hvi',hwi',by omega,hR⟩
     | false=>
      rw[ah (fun q=>absurd (hiff.mpr q) ai)] at hR
      have hri:=rcLt_int A.in1 ⟨hp,g,d,tk,os⟩ a t c u prog w
      wp_walk using hri
      exact⟨_,rfl,by simpa using hR⟩
  case fin=>
   rintro ⟨b1,b2⟩ s' ⟨hb',rfl,vs,ws,ns',ms',hz,hvi,hwi,hlen,hR⟩
   simp only at hb'
   subst hb'
   have hv:lexLt ns' ms'=decide (items.size<items2.size):=by
    cases hvi with
    | nil=>
     cases hwi with
     | nil=>
      simp only [cf] at hlen
      rw[jFA]
      exact(aP (by omega)).symm
     | cons c u hw=>
      simp only [cf,aQ] at hlen
      rw[jE2]
      exact(aw (by omega)).symm
    | cons a t hv=>
     cases hwi with
     | nil=>
      simp only [cf,aQ] at hlen
      rw[jE3]
      exact(aP (by omega)).symm
     | cons c u hw=>
      rw[dW] at hz
      cases hz
   rw[hv] at hR
   wp_walk
   exact⟨_,rfl,by simpa [Builtin.Tuple.tupleCompareSizes] using hR⟩
  case h=>
   exact⟨rfl,rfl,items.toList,items2.toList,ns,ms,rfl,hi,hj,by omega,h⟩
end
section
variable {prog:Program}{w:World}{A:Around}{E:Value->Shared->Prop}{s:Shared}
theorem lt_tupInts {l b:Addr}{items items2:Array Value}{ns ms:List Int}{Q:Value->Shared->Prop}(hl:IsTup s.heap l items)(hb:IsTup s.heap b items2)(hi:IntsAre items.toList ns)(hj:IntsAre items2.toList ms)
  (hu:A.units<cLine) (h:Q (.bool (lexLt ns ms)) s):wpAny (model prog w) A (compareOp .Lt (.ref l) (.ref b)) Q E s:=by
 obtain⟨⟨cls,dd,data,sl⟩,ho,hc,n,hd⟩:=id hl
 obtain⟨⟨cls2,dd2,data2,sl2⟩,ho2,hc2,n2,hd2⟩:=id hb
 simp only at hc hd hc2 hd2
 subst hc hd hc2 hd2
 exact richCompare_meets_room (op:= .Lt) ⟨_,ho,rfl⟩ ⟨_,ho2,rfl⟩ fH ik (h8 _ _) (tuple_lt_ints l b items items2 n n2 dd dd2 sl sl2 ns ms hi hj)
  ⟨ho,ho2,show Value.bool (lexLt ns ms)≠Value.notImplemented/\Q (.bool (lexLt ns ms)) s from ⟨(fun x=>nomatch x),h⟩⟩ hu
theorem cat_tup {t b:Addr}{vs ws:List Value}{Q:Value->Shared->Prop}(ht:IsTup s.heap t vs.toArray)(hb:IsTup s.heap b ws.toArray)(hv:vs≠ [])
  (h1:ws=[]->Q (.ref t) s) (h2:ws≠ []->Q (.ref s.heap.objs.size) { s with heap:=s.heap.push { cls:= .type "tuple",data:= .seq (vs++ws).toArray}})
  (hsz:vs.length+ws.length<=sizeLine):wpAny (model prog w) A (binaryOp .Add (.ref t) (.ref b)) Q E s:=by
 obtain⟨⟨cls,dd,data,sl⟩,ho,hc,n,hd⟩:=id ht
 obtain⟨⟨cls2,dd2,data2,sl2⟩,ho2,hc2,n2,hd2⟩:=id hb
 simp only at hc hd hc2 hd2
 subst hc hd hc2 hd2
 have e:vs.toArray++ws.toArray=(vs++ws).toArray:=by simp
 by_cases hw:ws=[]
 ·exact concat_meets ⟨_,ho,rfl⟩ ⟨_,ho2,rfl⟩ h9 seq_tuple_add fh e9 (eR _ _)
   (tuple_addW1 t b vs.toArray ws.toArray n n2 dd dd2 sl sl2 (by simpa using hv) (by simp [hw])) ⟨ho,ho2,h1 hw⟩
 ·refine concat_meets ⟨_,ho,rfl⟩ ⟨_,ho2,rfl⟩ h9 seq_tuple_add fh e9 (eR _ _)
   (tuple_addW2 t b vs.toArray ws.toArray n n2 dd dd2 sl sl2 (by simpa using hv) (by simpa using hw) (by rw[ao,ao]; exact hsz)) ⟨ho,ho2,?_⟩
  rw[e]
  exact h2 hw
def sIx (n d:Nat):Option Int->Nat
 | none=>d
 | some v=>if v<0 then (v+(n:Int)).toNat else min v.toNat n
end
end HT
namespace L2
open PySem PySem.Spec PyProof.Rows
abbrev TO:=St->Hp->(Option Int->Hp->Prop)->Prop
def PO (X:Cx)(e:Option Expr)(t:TO):Prop:=
 ∀ (pins:List (Addr×Obj)) (s:Shared) (σ:St) (H:Hp) (Q:Option Int->Hp->Prop),Inv X pins σ H s->t σ H Q->
  wpAny (model X.prog X.w) X.A (evalPart e X.env) (fun u s'=>∃ o H',Inv X pins σ H' s'/\IsPart u o/\Q o H') X.xe s
def jKC:TO:=fun _ H Q=>Q none H
def tPart (t:TE):TO:=fun σ H Q=>t σ H fun x H1=>∃ i,x= .int i/\Q (some i) H1
theorem jJV {ns:List Int} :∀ {us:List Value},Vals (ns.map V.int) us->IntsAre us ns:=by
 induction ns with
 | nil=>intro us r; rw[eI] at r; cases r; exact .nil
 | cons n ns ih=>
  intro us r
  rw[bg] at r
  cases r with
  | cons r1 r2=>
   obtain⟨t,e⟩:=r1
   subst e
   exact .cons n t (ih r2)
section
variable {X:Cx}{e:Expr}{te:TE}{lo hi:Option Expr}{tl th:TO}{pos p2:Pos}
theorem jPH:PO X none jKC:=by
 intro pins s σ H Q I h
 rw[evalPart_none]
 exact ag ⟨none,H,I, .none,h⟩
theorem jPG (h:PE X e te):PO X (some e) (tPart te):=by
 intro pins s σ H Q I hw
 rw[evalPart_some]
 refine thn (h pins s σ H _ I hw) fun u s1 ⟨x,H1,I1,r1,q1⟩=>?_
 obtain⟨i,rfl,q⟩:=q1
 obtain⟨t,rfl⟩:=r1
 exact⟨some i,H1,I1, .int i t,q⟩
def SlR (X:Cx)(r:V->Option Int->Option Int->Hp->VK->Prop):Prop:=
 ∀ (pins:List (Addr×Obj)) (s:Shared) (σ:St) (H:Hp) (x:V) (v vl vu:Value) (lo hi:Option Int) (sl:Addr) (Q:VK),Inv X pins σ H s->RelV x v->s.heap.IsSliceOf sl vl vu .none->IsPart vl lo->IsPart vu hi->r x lo hi H Q->
  ∃ T id,typeLookup (.type T) "__getitem__" =pure (some (.builtin id))/\s.TypeIs v T/\wpAny (model X.prog X.w) X.A (getItem v (.ref sl)) (EP X pins σ Q) X.xe s
def tSl (r:V->Option Int->Option Int->Hp->VK->Prop)(te:TE)(tl th:TO):TE:=fun σ H Q=>te σ H fun x H1=>tl σ H1 fun l H2=>th σ H2 fun u H3=>r x l u H3 Q
theorem jN6 {r:V->Option Int->Option Int->Hp->VK->Prop}(hr:SlR X r)(he:PE X e te)(hl:PO X lo tl)(hu:PO X hi th):PE X (.Subscript e (.Slice lo hi none p2) pos) (tSl r te tl th):=by
 intro pins s σ H Q I h
 refine Subscript_ (thn (he pins s σ H _ I h) fun v s1 ⟨x,H1,I1,r1,q1⟩=>?_)
 refine wpAny_Slice (thn (hl pins s1 σ H1 _ I1 q1) fun vl s2 ⟨l,H2,I2,pl,q2⟩=>thn (hu pins s2 σ H2 _ I2 q2) fun vu s3 ⟨u,H3,I3,pu,q3⟩=>?_)
 rw[evalPart_none]
 refine ag ?_
 have I4:Inv X pins σ H3 { s3 with heap:=s3.heap.push { cls:= .type "slice",data:= .fields #[vl,vu, .none]}} :=I3.kept (t':=s3.toks) fun b ob q=>ae _ q
 obtain⟨T,id,hT,ht,hg⟩:=hr pins { s3 with heap:=s3.heap.push { cls:= .type "slice",data:= .fields #[vl,vu, .none]}} σ H3 x v vl vu l u s3.heap.objs.size Q I4 r1 (Heap.IsSliceOf.new ..) pl pu q3
 show wpAny (model X.prog X.w) X.A (subscriptTail e (.Slice lo hi none p2) v (.ref s3.heap.objs.size)) (EP X pins σ Q) X.xe { s3 with heap:=s3.heap.push { cls:= .type "slice",data:= .fields #[vl,vu, .none]}}
 exact tail_any (ops:=[.ref s3.heap.objs.size,v]) ht hT hg (by with_unfolding_all rfl)
def cutV (xs:List V)(lo hi:Option Int):List V:=(xs.drop (HT.sIx xs.length 0 lo)).take (HT.sIx xs.length xs.length hi - HT.sIx xs.length 0 lo)
theorem jHT (xs:List V)(lo hi:Option Int):(cutV xs lo hi).length<=xs.length:=by
 unfold cutV
 rw[bD,fK]
 omega
def rCatT (K:W.Frag):R2:=fun x y H Q=>∃ a b xs ys,x= .ref a/\y= .ref b/\SqT K H a xs/\SqT K H b ys/\xs≠ []/\xs.length+ys.length<=sizeLine/\
 (ys=[]->Q (.ref a) H)/\(ys≠ []->∀ p,H p=none->Q (.ref p) (upd H p (.tup (xs++ys))))
theorem Vals.nil_iff {xs:List V}{us:List Value}(r:Vals xs us):us=[]↔xs=[]:=by
 cases r with
 | nil=>simp
 | cons _ _=>simp
theorem jPZ:OpR X (binaryOp .Add) (rCatT X.K):=by
 intro pins s σ H x y v u Q I rx ry h
 obtain⟨a,b,xs,ys,rfl,rfl,ha,hb,hx,hz,q1,q2⟩:=h
 cases rx
 cases ry
 obtain⟨its,r1,p1,_⟩:=I.tuple ha
 obtain⟨its2,r2,p2,_⟩:=I.tuple hb
 refine HT.cat_tup p1 p2 (fun z=>hx (r1.nil_iff.mp z)) (fun z=>⟨.ref a,H,I,rfl,q1 (r2.nil_iff.mp z)⟩) (fun z=>?_) (by rw[<- r1.length,<- r2.length]; exact hz)
 refine⟨.ref s.heap.objs.size,_,I.laid (t':=s.toks) (o:= .tup (xs++ys)) (fun b ob q=>ae _ q) (ak _) ?_,rfl,q2 (fun w=>z (r2.nil_iff.mpr w)) _ (I.hok.fresh (ak _))⟩
 exact⟨by rw[aC]; exact hz,_,r1.append r2,TupO.new _ _⟩
end
end L2
namespace L2
open PySem PySem.Spec PyProof.Rows
def ixN (n:Nat)(i:Int):Option Nat:=if 0<=i then (if i<n then some i.toNat else none) else if -(n:Int)<=i then some (i+n).toNat else none
def atI {α:Type}(xs:List α)(i:Int):Option α:=(ixN xs.length i).bind fun j=>xs[j]?
theorem jLX {n:Nat}{i:Int}{j:Nat}(h:ixN n i=some j):seqIndex? i n=some j/\j<n/\ -(n:Int)<=i/\i<n:=by
 unfold ixN at h
 by_cases h0:0<=i
 ·rw[aj h0] at h
  by_cases h1:i<n
  ·rw[aj h1] at h
   have e:i.toNat=j:=bh h
   exact⟨by rw[seqIndex_of h0 h1,e],by omega,by omega,h1⟩
  ·rw[ah h1] at h; cases h
 ·rw[ah h0] at h
  by_cases h1: -(n:Int)<=i
  ·rw[aj h1] at h
   have e:(i+n).toNat=j:=bh h
   exact⟨by rw[seqIndex_neg (by omega) h1,e],by omega,h1,by omega⟩
  ·rw[ah h1] at h; cases h
theorem jMP {α:Type}{xs:List α}{i:Int}{v:α}(h:atI xs i=some v):∃ j,seqIndex? i xs.length=some j/\xs[j]?=some v/\j<xs.length/\ -(xs.length:Int)<=i/\i<xs.length:=by
 unfold atI at h
 cases e:ixN xs.length i with
 | none=>rw[e] at h; cases h
 | some j=>
  rw[e] at h
  obtain⟨h1,h2,h3,h4⟩:=jLX e
  exact⟨j,h1,h,h2,h3,h4⟩
theorem jBR {α:Type}{xs:List α}{j:Nat}{v:α}(h:xs[j]?=some v):atI xs (j:Int)=some v:=by
 have hj:j<xs.length:=(ar.mp h).1
 have e:ixN xs.length (j:Int)=some j:=by
  unfold ixN
  rw[aj (by omega),aj (by omega)]; simp
 unfold atI; rw[e]; exact h
def jB4 (b:Expr):Prop:=∀ o i,subscripted b false o i=operate [o,i] (getItem o i)
def IxR (X:Cx)(r:R2):Prop:=
 ∀ (value slice:Expr) (pins:List (Addr×Obj)) (s:Shared) (σ:St) (H:Hp) (x y:V) (v u:Value) (Q:VK),Inv X pins σ H s->RelV x v->RelV y u->r x y H Q->
  subscripted slice false v u=operate [v,u] (getItem v u)->wpAny (model X.prog X.w) X.A (subscriptTail value slice v u) (EP X pins σ Q) X.xe s
def MtR (X:Cx)(id:String)(r:V->List V->Hp->VK->Prop):Prop:=
 ∀ (pins:List (Addr×Obj)) (s:Shared) (σ:St) (H:Hp) (x:V) (xs:List V) (v:Value) (us:List Value) (Q:VK),Inv X pins σ H s->RelV x v->Vals xs us->r x xs H Q->
  wpAny (model X.prog X.w) X.A (call (.builtin id) (v::us)) (EP X pins σ Q) X.xe s
section
variable {X:Cx}{a b:Expr}{ta tb:TE}{pos:Pos}
theorem pe_ix {r:R2}(hr:IxR X r)(ha:PE X a ta)(hb:PE X b tb)(hs:jB4 b):PE X (.Subscript a b pos) (tOp r ta tb):=by
 intro pins s σ H Q I h
 exact Subscript_ (binT ha hb I h fun v u s2 x y H2 I2 rx ry q=>hr a b pins s2 σ H2 x y v u Q I2 rx ry q (hs _ _))
def rIxL (K:W.Frag):R2:=fun x y H Q=>∃ p xs i v,x= .ref p/\y= .int i/\SqL K H p xs/\atI xs i=some v/\Q v H
def rIxT (K:W.Frag):R2:=fun x y H Q=>∃ p xs i v,x= .ref p/\y= .int i/\SqT K H p xs/\atI xs i=some v/\Q v H
theorem jAW:IxR X (rIxL X.K):=by
 intro value slice pins s σ H x y v u Q I rx ry h hs
 obtain⟨p,xs,i,z,rfl,rfl,hq,he,q⟩:=h
 cases rx
 obtain⟨t,rfl⟩:=ry
 obtain⟨its,r,pl,hz⟩:=I.list hq
 obtain⟨j,h1,h2,h3,h4,h5⟩:=jMP he
 obtain⟨w,ew,rw'⟩:=r.get h2
 have hl:=r.length
 have hn:=jG9
 have fin:EP X pins σ Q w s:=⟨z,H,I,rw',q⟩
 by_cases h0:0<=i
 ·have hj:i.toNat=j:=by
   rw[seqIndex_of h0 h5] at h1
   exact bh h1
  exact item_listR pl.isList h0 (by omega) (by rw[hj]; simpa using ew) fin hs
 ·have hj:(i+(its.toArray.size:Int)).toNat=j:=by
   rw[seqIndex_neg (by omega) h4] at h1
   rw[ao,<- hl]
   exact bh h1
  exact subscriptTail_builtinR (x:=w) pl.isList.typeIs slot_list_getitem.lookup
   (wpAny_getItem_list_neg (Q:=fun r s'=>r=w/\EP X pins σ Q r s') pl.isList (by omega) (by rw[ao] <;> omega) (by omega) (by rw[hj]; simpa using ew) ⟨rfl,fin⟩) hs
theorem jR:IxR X (rIxT X.K):=by
 intro value slice pins s σ H x y v u Q I rx ry h hs
 obtain⟨p,xs,i,z,rfl,rfl,hq,he,q⟩:=h
 cases rx
 obtain⟨t,rfl⟩:=ry
 obtain⟨its,r,pl,hz⟩:=I.tuple hq
 obtain⟨j,h1,h2,h3,h4,h5⟩:=jMP he
 obtain⟨w,ew,rw'⟩:=r.get h2
 have hl:=r.length
 have hn:=jG9
 have fin:EP X pins σ Q w s:=⟨z,H,I,rw',q⟩
 exact subscriptTail_builtinR (x:=w) pl.typeIs slot_tuple_getitem.lookup
  (getItem_tuple (j:=j) (Q:=fun r s'=>r=w/\EP X pins σ Q r s') pl (by omega) (by omega) (by rw[ao,<- hl]; exact h1) (by simpa using ew) ⟨rfl,fin⟩) hs
theorem jJO (its:List Value)(n j:Nat)(u:Value):Obj.mapSeq (·.setIfInBounds j u) { cls:= .type "list",data:= .seq its.toArray n} = { cls:= .type "list",data:= .seq (its.set j u).toArray n} :=by
 simp [Obj.mapSeq]
theorem Inv.lst {pins:List (Addr×Obj)}{σ:St}{H:Hp}{s:Shared}{p:Addr}{xs:List V}(I:Inv X pins σ H s)(h:H p=some (.lst xs)):
  ∃ (its:List Value) (n:Nat),Vals xs its/\s.heap.get? p=some { cls:= .type "list",data:= .seq its.toArray n} /\xs.length<=sizeLine:=by
 obtain⟨z,its,n,r,e⟩:=I.hok p _ h
 exact⟨its,n,r,e,z⟩
theorem Inv.lstUpd {pins:List (Addr×Obj)}{σ:St}{H:Hp}{s:Shared}{p:Addr}{xs ys:List V}{its its':List Value}{n n':Nat}{f:Obj->Obj}(I:Inv X pins σ H s)(h:H p=some (.lst xs))
  (ho:s.heap.get? p=some { cls:= .type "list",data:= .seq its.toArray n}) (hf:f { cls:= .type "list",data:= .seq its.toArray n} = { cls:= .type "list",data:= .seq its'.toArray n'}) (r:Vals ys its') (hz:ys.length<=sizeLine) (t:Nat):
  Inv X pins σ (upd H p (.lst ys)) { s with heap:=s.heap.update p f,toks:=t} :=by
 have e:(s.heap.update p f).get? p=some { cls:= .type "list",data:= .seq its'.toArray n'} :=by
  rw[bL f ho (by rw[hf] <;> rfl),hf]
 refine I.write (x:=p) (e:=p) (by rw[h]; trivial) (.inl rfl) (fun b u hb q=>(bA _ _ (cY hb)).trans q) ⟨_,e⟩ ?_
 exact⟨hz,its',n',r,e⟩
def rSetL:V->V->V->Hp->(Hp->Prop)->Prop:=fun o i v H Q=>∃ p xs k j,o= .ref p/\i= .int k/\H p=some (.lst xs)/\ixN xs.length k=some j/\Q (upd H p (.lst (xs.set j v)))
theorem jMY:PSet X rSetL:=by
 intro pins s σ H o i v ov iv u Q I ro ri rv h
 obtain⟨p,xs,k,j,rfl,rfl,hp,hj,q⟩:=h
 cases ro
 obtain⟨t,rfl⟩:=ri
 obtain⟨its,n,r,ho,hz⟩:=I.lst hp
 obtain⟨h1,h2,h3,h4⟩:=jLX hj
 have hl:=r.length
 have hn:=jG9
 have I':Inv X pins σ (upd H p (.lst (xs.set j v))) { s with heap:=s.heap.update p (Obj.mapSeq (·.setIfInBounds j u))} :=
  I.lstUpd hp ho (jJO its n j u) (r.set rv j) (by rw[gz]; exact hz) s.toks
 by_cases h0:0<=k
 ·have hk:k.toNat=j:=by
   rw[seqIndex_of h0 h4] at h1
   exact bh h1
  exact PySem.W.ki_setAt ho h0 (by omega) (by rw[ao,<- hl]; exact h4) (by rw[hk]; exact⟨_,I',q⟩)
 ·have hk:(k+(its.toArray.size:Int)).toNat=j:=by
   rw[seqIndex_neg (by omega) h3] at h1
   rw[ao,<- hl]
   exact bh h1
  exact PySem.W.ki_setBack ho (by omega) (by rw[ao,<- hl]; exact h3) (by omega) (by rw[hk]; exact⟨_,I',q⟩)
theorem jFZ (lo hi:Option Int)(n:Nat):(sliceBounds lo hi none n).1=((HT.sIx n 0 lo:Nat):Int)/\(sliceBounds lo hi none n).2.1=((HT.sIx n n hi:Nat):Int)/\(sliceBounds lo hi none n).2.2=1:=by
 refine⟨?_,?_,rfl⟩
 ·cases lo with
  | none=>simp [sliceBounds,HT.sIx]
  | some i=>
   simp only [sliceBounds,HT.sIx,getD_none,show (1:Int)>0 by decide,gc]
   by_cases h:i<0
   ·simp only [h,gc] <;> omega
   ·simp only [h,jc] <;> omega
 ·cases hi with
  | none=>simp [sliceBounds,HT.sIx]
  | some i=>
   simp only [sliceBounds,HT.sIx,getD_none,show (1:Int)>0 by decide,gc]
   by_cases h:i<0
   ·simp only [h,gc] <;> omega
   ·simp only [h,jc] <;> omega
theorem jEW (its:List Value)(lo hi:Option Int):slicePick its.toArray lo hi none=((its.drop (HT.sIx its.length 0 lo)).take (HT.sIx its.length its.length hi - HT.sIx its.length 0 lo)).toArray:=by
 obtain⟨h1,h2,h3⟩:=jFZ lo hi its.toArray.size
 unfold slicePick
 rw[h1,h2,h3]
 simp only [sliceRange_one,pick_run,ao] <;> rfl
def rSlL (K:W.Frag):V->Option Int->Option Int->Hp->VK->Prop:=fun x lo hi H Q=>∃ a xs,x= .ref a/\SqL K H a xs/\∀ p,H p=none->Q (.ref p) (upd H p (.lst (cutV xs lo hi)))
theorem jKI:SlR X (rSlL X.K):=by
 intro pins s σ H x v vl vu lo hi sl Q I rx hs pl pu h
 obtain⟨a,xs,rfl,hx,q⟩:=h
 cases rx
 obtain⟨its,r,ht,hz⟩:=I.list hx
 have hlen:=r.length
 refine⟨"list",_,slot_list_getitem.lookup,ht.isList.typeIs,?_⟩
 refine wpAny_getItem_list_slice ht.isList hs pl pu .none (by simp) ?_ (by rw[ao] <;> omega)
 rw[jEW,<- hlen]
 refine⟨.ref s.heap.objs.size,_,I.laid (t':=s.toks) (o:= .lst (cutV xs lo hi)) (fun b ob q=>ae _ q) (ak _) ?_,rfl,q _ (I.hok.fresh (ak _))⟩
 exact⟨bf (jHT xs lo hi) hz,_,0,(r.drop (HT.sIx xs.length 0 lo)).take (HT.sIx xs.length xs.length hi - HT.sIx xs.length 0 lo),am _ rfl⟩
def flatV:V->Bool
 | .non=>true
 | .bl _=>true
 | .int _=>true
 | .str _=>true
 | _=>false
def eqV:V->V->Bool
 | .non, .non=>true
 | .bl a, .bl b=>a==b
 | .bl a, .int b=>(if a then 1 else 0)==b
 | .int a, .bl b=>a==(if b then 1 else 0)
 | .int a, .int b=>a==b
 | .str a, .str b=>a==b
 | _,_=>false
theorem jOV {A:Around}{s:Shared}{y x:V}{u v:Value}(ry:RelV y u)(rx:RelV x v)(fy:flatV y=true)(fx:flatV x=true):SeqAt.EqAt A s u v (eqV y x):=by
 cases y with
 | non=>
  cases ry
  cases x with
  | non=>cases rx; exact SeqAt.EqAt.same _
  | bl b=>cases rx; exact SeqAt.EqAt.none_bool b
  | int b=>obtain⟨t,rfl⟩:=rx; exact SeqAt.EqAt.none_int b t
  | str b=>obtain⟨t,rfl⟩:=rx; exact SeqAt.EqAt.none_str b t
  | _=>exact absurd (show false=true from fx) ai
 | bl a=>
  cases ry
  cases x with
  | non=>cases rx; exact SeqAt.EqAt.bool_none a
  | bl b=>cases rx; exact SeqAt.EqAt.bool_bool a b
  | int b=>obtain⟨t,rfl⟩:=rx; exact SeqAt.EqAt.bool_int a b t
  | str b=>obtain⟨t,rfl⟩:=rx; exact SeqAt.EqAt.bool_str a b t
  | _=>exact absurd (show false=true from fx) ai
 | int a=>
  obtain⟨t',rfl⟩:=ry
  cases x with
  | non=>cases rx; exact SeqAt.EqAt.int_none a t'
  | bl b=>cases rx; exact SeqAt.EqAt.int_bool a t' b
  | int b=>obtain⟨t,rfl⟩:=rx; exact gM a t' b t
  | str b=>obtain⟨t,rfl⟩:=rx; exact SeqAt.EqAt.int_str a t' b t
  | _=>exact absurd (show false=true from fx) ai
 | str a=>
  obtain⟨t',rfl⟩:=ry
  cases x with
  | non=>cases rx; exact SeqAt.EqAt.str_none a t'
  | bl b=>cases rx; exact SeqAt.EqAt.str_bool a t' b
  | int b=>obtain⟨t,rfl⟩:=rx; exact SeqAt.EqAt.str_int a t' b t
  | str b=>obtain⟨t,rfl⟩:=rx; exact SeqAt.EqAt.str_str a t' b t
  | _=>exact absurd (show false=true from fx) ai
 | _=>exact absurd (show false=true from fy) ai
def eqU (x:V)(u:Value):Bool:=match u with
 | .none=>eqV .non x
 | .bool b=>eqV (.bl b) x
 | .int i _=>eqV (.int i) x
 | .str z _=>eqV (.str z) x
 | _=>false
theorem jOU {x y:V}{u:Value}(r:RelV y u)(f:flatV y=true):eqU x u=eqV y x:=by
 cases y with
 | non=>cases r; rfl
 | bl b=>cases r; rfl
 | int i=>obtain⟨t,rfl⟩:=r; rfl
 | str z=>obtain⟨t,rfl⟩:=r; rfl
 | _=>exact absurd (show false=true from f) ai
theorem jHY {x:V} :∀ {xs:List V}{us:List Value},Vals xs us->xs.all flatV=true->us.any (eqU x)=xs.any fun y=>eqV y x
 | _,_, .nil,_=>rfl
 | y::xs,u::us, .cons r t,f=>by
  rw[gd,eJ] at f
  rw[gf,gf,jOU r f.1,jHY t f.2]
theorem jF7 {A:Around}{s:Shared}{x:V}{v:Value}(rx:RelV x v)(fx:flatV x=true):∀ {xs:List V}{us:List Value},Vals xs us->xs.all flatV=true->∀ u∈us,SeqAt.EqAt A s u v (eqU x u)
 | _,_, .nil,_=>fun u hu=>by cases hu
 | y::xs,u::us, .cons r t,f=>fun u' hu=>by
  rw[gd,eJ] at f
  rcases aF.mp hu with rfl | hu
  ·rw[jOU r f.1]; exact jOV r rx f.1 fx
  ·exact jF7 rx fx t f.2 u' hu
def inV (x:V)(xs:List V):Bool:=xs.any fun y=>eqV y x
def rIn (K:W.Frag)(neg:Bool):R2:=fun x y H Q=>∃ p xs,y= .ref p/\(SqL K H p xs\/SqT K H p xs)/\flatV x=true/\xs.all flatV=true/\Q (.bl (if neg then !inV x xs else inV x xs)) H
theorem jDH:OpR X (compareOp .In) (rIn X.K false):=by
 intro pins s σ H x y v u Q I rx ry h
 obtain⟨p,xs,rfl,hq,fx,fs,q⟩:=h
 cases ry
 rcases hq with hq | hq
 ·obtain⟨its,r,pl,hz⟩:=I.list hq
  refine SeqAt.in_listAt (eqU x) pl.isList (fun w hw=>jF7 rx fx r fs w (by simpa using hw)) ⟨.bl _,H,I,rfl,?_⟩
  rw[show its.toArray.any (eqU x)=its.any (eqU x) by simp,jHY r fs]
  exact q
 ·obtain⟨its,r,pl,hz⟩:=I.tuple hq
  refine SeqAt.in_tupleAt (eqU x) pl (fun w hw=>jF7 rx fx r fs w (by simpa using hw)) ⟨.bl _,H,I,rfl,?_⟩
  rw[show its.toArray.any (eqU x)=its.any (eqU x) by simp,jHY r fs]
  exact q
theorem jA1:yO X (.builtin "len") (fun xs H Q=>∃ p ys,xs=[.ref p]/\(SqL X.K H p ys\/SqT X.K H p ys)/\Q (.int ys.length) H):=by
 intro pins s σ H xs us Q I r h
 obtain⟨p,ys,rfl,hq,q⟩:=h
 obtain⟨u,rfl,rx⟩:=vals1 r
 cases rx
 have hn:=jG9
 rcases hq with hq | hq
 ·obtain⟨its,r',pl,hz⟩:=I.list hq
  have hlen:=r'.length
  exact Calls.call_len_list pl.isList (by simp only [ao] <;> omega) ⟨.int ys.length,H,I.tok _,⟨s.toks+1,by rw[ao,hlen]⟩,q⟩
 ·obtain⟨its,r',pl,hz⟩:=I.tuple hq
  have hlen:=r'.length
  exact len_tuple pl (by simp only [ao] <;> omega) ⟨.int ys.length,H,I.tok _,⟨s.toks+1,by rw[ao,hlen]⟩,q⟩
theorem jA0:yO X (.type "tuple") (fun xs H Q=>∃ p ys,xs=[.ref p]/\((SqL X.K H p ys/\∀ l,H l=none->Q (.ref l) (upd H l (.tup ys)))\/(SqT X.K H p ys/\Q (.ref p) H))):=by
 intro pins s σ H xs us Q I r h
 obtain⟨p,ys,rfl,h⟩:=h
 obtain⟨u,rfl,rx⟩:=vals1 r
 cases rx
 rcases h with ⟨hq,q⟩ | ⟨hq,q⟩
 ·obtain⟨its,r',pl,hz⟩:=I.list hq
  have hlen:=r'.length
  refine call_tuple_list pl.isList (fun h' kp=>?_) (by simp only [ao] <;> omega)
  have I1:Inv X pins σ H { s with heap:=h'} :=I.kept (t':=s.toks) kp
  have I2:Inv X pins σ (upd H h'.objs.size (.tup ys)) { s with heap:=h'.push { cls:= .type "tuple",data:= .seq its.toArray}} :=
   I1.laid (t':=s.toks) (fun b o e=>ae _ e) (ak _) (show ObjOk X.prog X.w _ _ _ (.tup ys) from ⟨hz,its,r',TupO.new _ _⟩)
  exact⟨.ref h'.objs.size,_,I2,rfl,q _ (I1.hok.fresh (ak _))⟩
 ·obtain⟨its,r',pl,hz⟩:=I.tuple hq
  exact call_tuple_same pl ⟨.ref p,H,I,rfl,q⟩
def tyV (K:W.Frag)(T:String)(x:V)(H:Hp):Prop:=match x with
 | .str _=>T= "str"
 | .int _=>T= "int"
 | .ref p=>(T= "list" /\∃ xs,SqL K H p xs)\/(T= "tuple" /\∃ o,K.lookup p=some o/\o.cls= .type "tuple" /\o.dict=none)\/
   (T= "dict" /\((∃ kvs,H p=some (.dK kvs))\/∃ kvs,H p=some (.dT kvs)))\/(T= "set" /\∃ S n,H p=some (.set S n))
 | _=>False
theorem jO8 {pins:List (Addr×Obj)}{σ:St}{H:Hp}{s:Shared}{T:String}{x:V}{v:Value}(I:Inv X pins σ H s)(r:RelV x v)(ty:tyV X.K T x H):
  s.TypeIs v T/\∀ a,v= .ref a->∃ ob,s.heap.get? a=some ob/\ob.dict=none:=by
 cases x with
 | str z=>
  obtain⟨t,rfl⟩:=r
  cases (show T= "str" from ty)
  exact⟨typeIs_str s z t,fun _ e=>nomatch e⟩
 | int i=>
  obtain⟨t,rfl⟩:=r
  cases (show T= "int" from ty)
  exact⟨typeIs_int s i t,fun _ e=>nomatch e⟩
 | ref p=>
  cases r
  rcases ty with ⟨rfl,xs,hq⟩ | ⟨rfl,o,hk,hc,hd⟩ | ⟨rfl,hk⟩ | ⟨rfl,S,n,hk⟩
  ·obtain⟨its,_,pl,_⟩:=I.list hq
   refine⟨pl.isList.typeIs,fun a e=>?_⟩
   cases e
   obtain⟨o,n,e,c,hd,_⟩:=pl
   exact⟨o,e,hd⟩
  ·refine⟨⟨o,I.kIn p o hk,hc⟩,fun a e=>?_⟩
   cases e
   exact⟨o,I.kIn _ o hk,hd⟩
  ·have z:∃ o,s.heap.get? p=some o/\o.ExactDict:=by
    rcases hk with ⟨kvs,hk⟩ | ⟨kvs,hk⟩
    ·obtain⟨_,_,_,_,o,_,_,e,ex,_⟩:=I.hok p _ hk
     exact⟨o,e,ex⟩
    ·obtain⟨_,_,_,_,o,_,_,e,ex,_⟩:=I.hok p _ hk
     exact⟨o,e,ex⟩
   obtain⟨o,e,ex⟩:=z
   refine⟨⟨o,e,ex.1⟩,fun a e2=>?_⟩
   cases e2
   exact⟨o,e,ex.2.1⟩
  ·obtain⟨o,_,_,_,e,ex,_⟩:=I.hok p _ hk
   refine⟨⟨o,e,ex.1⟩,fun a e2=>?_⟩
   cases e2
   exact⟨o,e,ex.2.1⟩
 | _=>exact False.elim ty
def tBM0 (K:W.Frag)(T:String)(r:V->List V->Hp->VK->Prop)(to:TE):TE:=fun σ H Q=>to σ H fun x H1=>tyV K T x H1/\r x [] H1 Q
def tBM (K:W.Frag)(T:String)(r:V->List V->Hp->VK->Prop)(to:TE)(t:TA):TE:=fun σ H Q=>to σ H fun x H1=>tyV K T x H1/\t σ H1 fun xs H2=>r x xs H2 Q
variable {o e:Expr}{es:List Expr}{to:TE}{t:TA}{name:Str}{apos cpos:Pos}{T id:String}{r:V->List V->Hp->VK->Prop}
theorem jS1 (pa:PlainAttrs T)(slot:Slot T name id)(hty:typeOf (.builtin id)=pure (.type "method_descriptor"))(hm:MtR X id r)(ho:PE X o to)
  (hbase:attributeBase o name X.env (eval o X.env)=eval o X.env:=by rfl) (hline:(apos.endLine==cpos.line)=true:=by rfl):PE X (.Call (.Attribute o name apos) [] [] cpos) (tBM0 X.K T r to):=by
 intro pins s σ H Q I h
 refine wpAny_Call_method0_late hbase hline (thn (ho pins s σ H _ I h) fun v s1 ⟨x,H1,I1,r1,ty,q1⟩=>?_)
 obtain⟨h1,h2⟩:=jO8 I1 r1 ty
 exact⟨T,id,pa,slot,hty,h1,h2,Calls.callWith_builtin rfl (PySem.evalArgs_none (hm pins s1 σ H1 x [] v [] Q I1 r1 .nil q1))⟩
theorem pe_bm (pa:PlainAttrs T)(slot:Slot T name id)(hty:typeOf (.builtin id)=pure (.type "method_descriptor"))(hm:MtR X id r)(ho:PE X o to)(ha:PA X (e::es) t)
  (hbase:attributeBase o name X.env (eval o X.env)=eval o X.env:=by rfl)
  (hfew:((backTo cpos (starEach (e::es) X.env)).all (fun x=>!x.1)&&(backToKw cpos (keywordEach [] X.env)).all (fun x=>x.1.isSome)
   &&decide ((e::es).length+([]:List Keyword).length+(if ([]:List Keyword).isEmpty then 0 else 1)<30))=true:=by rfl)
  (hline:(apos.endLine==cpos.line)=true:=by rfl) (hs:starEach (e::es) X.env=(false,eval e X.env)::starEach es X.env:=by rfl) (hplain:(backTo cpos (starEach es X.env)).any (·.1)=false:=by rfl):
  PE X (.Call (.Attribute o name apos) (e::es) [] cpos) (tBM X.K T r to t):=by
 intro pins s σ H Q I h
 refine wpAny_Call_method_late hbase hfew hline rfl (thn (ho pins s σ H _ I h) fun v s1 ⟨x,H1,I1,r1,ty,q1⟩=>?_)
 obtain⟨h1,h2⟩:=jO8 I1 r1 ty
 refine⟨T,id,pa,slot,hty,h1,h2,?_⟩
 have hA:=ha cpos pins s1 σ H1 _ I1 q1
 rw[hs] at hA ⊢
 refine Calls.callWith_builtin (by show (false || (backTo cpos (starEach es X.env)).any (·.1))=false; rw[hplain] <;> rfl) (gq ?_)
 exact thn hA fun us s2 ⟨vs,H2,I2,r2,q2⟩=>hm pins s2 σ H2 x vs v us Q I2 r1 r2 q2
/- xs.append(e),list.index on a module's tuple .. are MtR facts of 06m -/
end
end L2
namespace L2
open PySem PySem.Spec PyProof.Rows
def MtM (X:Cx)(id:String)(r:V->List V->Hp->VK->Prop):Prop:=
 ∀ (pins:List (Addr×Obj)) (s:Shared) (σ:St) (H:Hp) (x:V) (xs:List V) (v:Value) (us:List Value) (Q:VK),Inv X pins σ H s->RelV x v->Vals xs us->r x xs H Q->
  wpAny (model X.prog X.w) X.A (call (.builtin id) (v::us)) (EP X pins σ Q) X.xe s
theorem Vals.one:∀ {x:V}{us:List Value},Vals [x] us->∃ u,us=[u]/\RelV x u
 | _,_, .cons r .nil=>⟨_,rfl,r⟩
theorem Vals.two:∀ {x y:V}{us:List Value},Vals [x,y] us->∃ u v,us=[u,v]/\RelV x u/\RelV y v
 | _,_,_, .cons r (.cons q .nil)=>⟨_,_,rfl,r,q⟩
theorem Vals.zero:∀ {us:List Value},Vals [] us->us=[]
 | _, .nil=>rfl
theorem Vals.dropLast {xs:List V}{us:List Value}(h:Vals xs us):Vals xs.dropLast us.dropLast:=by
 induction h with
 | nil=>exact .nil
 | cons r t ih=>
  cases t with
  | nil=>exact .nil
  | cons q t'=>exact .cons r ih
theorem jJZ {α:Type}(l:List α):l.eraseIdx (l.length - 1)=l.dropLast:=by
 induction l with
 | nil=>rfl
 | cons a r ih=>
  cases r with
  | nil=>rfl
  | cons b r=>
   have e:(a::b::r).length - 1=((b::r).length - 1)+1:=by
    have h1:(a::b::r).length=r.length+2:=rfl
    have h2:(b::r).length=r.length+1:=rfl
    omega
   rw[e,List.eraseIdx_cons_succ,ih]
   all_goals rfl
section
variable {X:Cx}{pins:List (Addr×Obj)}{σ:St}{H:Hp}{s:Shared}{l b:Addr}{xs ys zs:List V}
theorem Inv.lset {its its':List Value}{n:Nat}{f:Array Value->Array Value}{t':Nat}(I:Inv X pins σ H s)(hH:H l=some (.lst xs))
  (e:s.heap.get? l=some { cls:= .type "list",data:= .seq its.toArray n}) (hf:f its.toArray=its'.toArray) (hv:Vals ys its') (hz:ys.length<=sizeLine):
  Inv X pins σ (upd H l (.lst ys)) { s with heap:=s.heap.update l (Obj.mapSeq f),toks:=t'} :=by
 have q:=PySem.IsL.update e f
 rw[hf] at q
 refine I.write (x:=l) (e:=l) (by rw[hH]; exact trivial) (.inl rfl) (fun b' u hb hu=>(bA s.heap (Obj.mapSeq f) (cY hb)).trans hu) ⟨_,q⟩ ?_
 exact⟨hz,its',_,hv,q⟩
theorem Inv.lnew {its:List Value}{t':Nat}(I:Inv X pins σ H s)(hv:Vals ys its)(hz:ys.length<=sizeLine):
  Inv X pins σ (upd H s.heap.objs.size (.lst ys)) { s with heap:=s.heap.push { cls:= .type "list",data:= .seq its.toArray},toks:=t'} :=
 I.laid (fun _ _ q=>ae _ q) (ak _) ⟨hz,its,0,hv,am _ rfl⟩
theorem Inv.fresh (I:Inv X pins σ H s):H s.heap.objs.size=none:=I.hok.fresh (ak _)
theorem Inv.lstM (I:Inv X pins σ H s)(hH:H l=some (.lst xs)):xs.length<=sizeLine/\∃ (its:List Value) (n:Nat),Vals xs its/\xs.length=its.length/\s.heap.get? l=some { cls:= .type "list",data:= .seq its.toArray n} :=by
 obtain⟨z,its,n,r,e⟩:=I.hok l _ hH
 exact⟨z,its,n,r,r.length,e⟩
end
section
variable {X:Cx}
def jP9:V->List V->Hp->VK->Prop:=fun x vs H Q=>∃ l xs y,x= .ref l/\vs=[y]/\H l=some (.lst xs)/\xs.length<sizeLine/\Q .non (upd H l (.lst (xs++[y])))
theorem jC2:MtM X "list.append" jP9:=by
 intro pins s σ H x vs v us Q I rx rv h
 obtain⟨l,xs,y,rfl,rfl,hH,hz,q⟩:=h
 cases rx
 obtain⟨u,rfl,ru⟩:=rv.one
 obtain⟨z,its,n,r,hl,e⟩:=I.lstM hH
 refine iW F.slot_list_append ⟨_,e,rfl⟩ F.entry_list_append (F.args_list_append_2 _ _) (PySem.list_append l its.toArray n u (by rw[ao]; omega)) ⟨e,?_⟩
 refine⟨.non,_,I.lset (its':=its++[u]) hH e (by simp) (r.append (.cons ru .nil)) ?_,rfl,q⟩
 rw[aC,iy]
 omega
def rPop:V->List V->Hp->VK->Prop:=fun x vs H Q=>∃ l xs y,x= .ref l/\vs=[]/\H l=some (.lst xs)/\xs[xs.length - 1]?=some y/\Q y (upd H l (.lst xs.dropLast))
theorem jSD:MtM X "list.pop" rPop:=by
 intro pins s σ H x vs v us Q I rx rv h
 obtain⟨l,xs,y,rfl,rfl,hH,hy,q⟩:=h
 cases rx
 have hus:=rv.zero
 subst hus
 obtain⟨z,its,n,r,hl,e⟩:=I.lstM hH
 obtain⟨u,hu,ru⟩:=r.get hy
 have hy':its.toArray[its.toArray.size - 1]?=some u:=by
  show its.toArray[its.length - 1]?=some u
  rw[<- bC,<- hl]
  exact hu
 refine iW F.slot_list_pop ⟨_,e,rfl⟩ F.entry_list_pop (F.args_list_pop_1 _) (MeetsSeq.list_pop_last l its.toArray n u hy' (by rw[ao]; omega)) ⟨e,?_⟩
 refine⟨y,_,I.lset (its':=its.dropLast) hH e ?_ r.dropLast ?_,ru,q⟩
 ·show its.toArray.eraseIdxIfInBounds (its.toArray.size - 1)=its.dropLast.toArray
  rw[ao,List.eraseIdxIfInBounds_toArray,jJZ]
 ·rw[List.length_dropLast]
  omega
def rCat:R2:=fun x y H Q=>∃ l b xs zs,x= .ref l/\y= .ref b/\H l=some (.lst xs)/\H b=some (.lst zs)/\xs.length+zs.length<=sizeLine/\∀ p,H p=none->Q (.ref p) (upd H p (.lst (xs++zs)))
theorem jS6:OpR X (binaryOp .Add) rCat:=by
 intro pins s σ H x y v u Q I rx ry h
 obtain⟨l,b,xs,zs,rfl,rfl,hH,hB,hz,q⟩:=h
 cases rx
 cases ry
 obtain⟨z,its,n,r,hl,e⟩:=I.lstM hH
 obtain⟨z2,its2,n2,r2,hl2,e2⟩:=I.lstM hB
 refine PySem.P.add_list e e2 ?_ (by rw[ao,ao]; omega)
 have ea:its.toArray++its2.toArray=(its++its2).toArray:=by simp
 rw[ea]
 exact⟨.ref _,_,I.lnew (t':=s.toks) (r.append r2) (by rw[aC]; omega),rfl,q _ I.fresh⟩
end
section
variable {prog:Program}{w:World}{A:Around}{E:Value->Shared->Prop}{s:Shared}
set_option maxRecDepth 100000 in
end
section
variable {X:Cx}
end
end L2
namespace Att
open PySem PySem.W PySem.Calls PyProof.Rows
theorem jDU {P:Params}{h:Heap} :∀ (ns:List Int) (vs:List Value),WellAll P h vs (ns.map WData.int)->IntsAre vs ns:=by
 intro ns
 induction ns with
 | nil=>
  intro vs w
  rw[eI] at w
  cases w
  exact .nil
 | cons n ns ih=>
  intro vs w
  rw[bg] at w
  cases w with
  | cons a b=>
   cases a
   exact .cons _ _ (ih _ b)
theorem jKK {l:OpenLaw}{n:Nat}(hn:l.most=some n){P:Params}{h:Heap}{args:List WData}{vals:List Value}
  (hpre:l.row.toRowW.claim.pre args=true) (hwl:WellAll P h vals args):
  ∃ a vs ns,vals=[Value.ref a]/\args=[WData.list (ns.map WData.int)]/\h.get? a=some { cls:= .type "list",data:= .seq vs.toArray} /\IntsAre vs ns/\ns.length<=n:=by
 have hsh:WShape.hasAll [] args [.list .int]=true:=(pre_splitW hpre).1
 have hc:l.pre.holds [] { args:=args} =true:=(pre_splitW hpre).2
 obtain⟨d,r,rfl,h1,h2⟩:=hasAllW_cons hsh
 obtain rfl:=hasAllW_nil h2
 obtain⟨xs,rfl,h3⟩:=hasW_list h1
 obtain⟨ns,rfl⟩:=items_int h3
 have hlen:ns.length<=n:=by
  unfold OpenLaw.pre at hc
  have h4:(WTm.not (.lt (.lit (.int (n:Int))) (.len (.arg 0)))).holds [] { args:=[.list (ns.map .int)]} =true:=by
   have h4:=(holds_andW hc).1
   rw[hn] at h4
   exact h4
  have h5:=condW_of h4 (w_not (w_lt w_lit (w_len_list (w_arg rfl))))
  rw[af] at h5
  refine ic fun q=>?_
  have q':(n:Int)<((ns.length:Nat):Int):=by omega
  first
   | (rw[aw q'] at h5; exact absurd h5 (by decide))
   | (simp at h5; omega)
 cases hwl with
 | cons w1 w2=>
  cases w2
  cases w1 with
  | list ho hall=>exact⟨_,_,ns,rfl,rfl,ho,jDU ns _ hall,hlen⟩
theorem jKT (l:OpenLaw)(args:List WData):l.row.toRowW.claim.post args (.bool true) args=true:=
 postW_of (r:=l.row.toRowW) (X:=(true==true))
  (show WShape.has [] (.bool true) .bool=true by first | rfl | decide | simp [WShape.has,WShape.arms,WShape.armsAll])
  (show (WTm.eq .res (.lit (.bool true))).value [] { args:=args,res:=some (.bool true),after:=args} =some (.bool (true==true)) from w_eq_bool (w_res rfl) w_lit) rfl
theorem attach_call {l:OpenLaw}{n:Nat}{q:Program}{loose:List Str}{XP:(Str->Option Value)->Heap->Prop}{YP:World->Heap->Prop}{d:DefRec}
  (hn:l.most=some n) (hdf:d.params.defaults=[])
  (call:∀ (w:World) (s₀ s₁:Shared) (mg mb:Str->Option Value) (fa:Addr) (o:Obj) (pm cd doc:Value) (a:Addr) (vs:List Value) (ns:List Int),
   Ground q loose [] XP w s₀ mg mb s₁.heap->YP w s₁.heap->
   s₁.heap.get? fa=some o->o.data= .func (docDef d.name d.params d.body d.scope pm cd doc)->s₁.heap.CodeRec cd d.name->mg d.name=some (.ref fa)->
   s₁.heap.get? a=some { cls:= .type "list",data:= .seq vs.toArray} ->IntsAre vs ns->ns.length<=n->s₁.gens=#[]->
   codeAny (model l.prog w) callerA (.call (.ref fa) ⟨[.ref a],[]⟩) (fun r s'=>r= .ok (.ret (.bool true))/\OldK s₁.heap s'.heap/\s'.os=s₁.os/\AllBare s'.gens) s₁):
  WalkO q loose XP YP l.row.toRowW d [] (fun f vs=>PySem.call f vs):=by
 intro w s₀ s₁ mg mb G Y fa o pm cd doc dV kV ho hd hcd hD hmg hg args vals as hpre hlay hrd hwl hlo
 obtain rfl:dV= .none:=Dflts.none hD hdf
 obtain rfl:kV= .none:=Dflts.noKw hD
 obtain⟨a,vs,ns,rfl,rfl,hobj,hints,hlen⟩:=jKK hn hpre hwl
 refine enter_call (dy (call w s₀ s₁ mg mb fa o pm cd doc a vs ns G Y ho (fd_plain hd) hcd hmg hobj hints hlen hg) fun r s' hq=>?_)
 obtain⟨rfl,h2,h3,h4⟩:=hq
 exact⟨.inl ⟨.bool true, .bool true,[],rfl,fun _=>rfl, .bool true,jKT l _,fun _=>⟨List.Pairwise.nil,fun _ hm=>(nomatch hm)⟩⟩,h2,h3,h4⟩
section
variable {prog:Program}{w:World}{A:Around}{E:Value->Shared->Prop}{s:Shared}{K:Frag}
end
end Att
namespace L2
open PySem PySem.Spec PyProof.Rows
theorem jFR:∀ {vs:List Value}{ns:List Int},IntsAre vs ns->Vals (ns.map V.int) vs
 | _,_, .nil=> .nil
 | _,_, .cons n t h=> .cons ⟨t,rfl⟩ (jFR h)
end L2
namespace L2
open PySem PySem.Spec PyProof.Rows
end L2
/- THE LAST THEOREM (shape; LID,My.* are yours):
  My.Adr:a structure of the addresses that your layer names (classes,functions); My.Txt K t:a structure (Prop) of the equations over K;
  My.txt_mk: {K} {implicit addresses ..} (e1:nsIn K mainGlobals "law" =some (some (.ref f))) (e2:K.lookup f=some ⟨oc,od, .func (fnOf "law" "law" params body scope dV kV doc pm an cdv ct),sl⟩) (e3:codeIn K cdv "law" =true) .. :∃ t,My.Txt K t
set_option maxRecDepth 100000 in
set_option maxHeartbeats 0 in
theorem PySem.Challenge.cw_LID_holds : PySem.Challenge.rw_LID.Holds := by
 w_on; o_law; k_head; (case hw=>w_witness2)
 k_fill
 refine L2.walk_of (l:=PySem.Challenge.rw_LID) (n:=63) (k:=40) (x:= "script") (CX:=fun w=> ..) (sp:=fun _=>My.sp_law) rfl (by decide) rfl ⟨rfl,by decide,by decide⟩ (fun w h Y=>PySem.W.kIn_of Y) ?F ?S ?C
 case F=>
  intro w mg fa h KX G hmg
  have T:∃ t,My.Txt (L2.KOf KX) t:=by
   dsimp only [L2.KOf] -- K must stand as «<heap const>w.params» for k_is
   refine' My.txt_mk ?e1 ?e2 ?e3 ..
   (case e1=>PySem.W.k_is) -- in the order:a name->its address->its object->its parts
   (case e2=>PySem.W.k_is)
   ..
  obtain⟨t,T⟩:=T
  have e0:=hmg.symm.trans (gh KX G T.law)
  cases e0 -- fa is the law's own address
  exact⟨_,fun s u=> .of_eq rfl,fun base kb nb=>My.law_fn T kb nb⟩ -- if «.of_eq rfl» comes too early:refine' ⟨_,?b,fun base kb nb=>My.law_fn T kb nb⟩; exact fun s u=> .of_eq rfl
 case S=>exact fun w H a ns hl hO hS=> ..
 case C=>exact ..
(the tactic k_is has no namespace:write k_is) -/
namespace L2
open PySem PySem.Spec PyProof.Rows
abbrev CX0:CXT:=fun _ _ _ _ _ _=>False
abbrev E0:XK:=fun _ _ _=>False
theorem pass0 {X:Cx} :jMR CX0 X E0:=fun _ _ _ _ _ _ _ h=>h.elim
structure Fun (K:W.Frag)(x qual:Str)(st:Stmt)(f:Addr)(fd:FuncData):Prop where
 ex:∃ (oc:Value) (od:Option Addr) (kV doc pm:Value) (an:Option Addr) (cdv ct:Value) (osl:Array (Option Value)),
  fd=PySem.W.fnOf x qual (jJ st) (jD st) (j7 st) .none kV doc pm an cdv ct/\K.lookup f=some ⟨oc,od, .func fd,osl⟩/\PySem.W.codeIn K cdv qual=true
 kp:keepIn K (.ref f)=true
section
variable {P:Program}{w:World}{K:W.Frag}{mg:Str->Option Value}{base:Heap}
theorem Fun.ok {x qual:Str}{st:Stmt}{f:Addr}{fd:FuncData}{N ps:List Str}{k:Nat}{sp:Sp}(F:Fun K x qual st f fd)(S:FnScope N ps (j7 st))(len:∀ vs H Q E,sp vs H Q E->vs.length=ps.length)
  (hbody:∀ (cdv:Value) (A:Around) (outer:List Env) (s:Shared) (H:Hp) (vs:List V) (Q:VK) (E:XK),Room k (A.deeper (envOfC qual (j7 st) s.heap.objs.size f cdv))->sp vs H Q E->
   ∃ t,PSs (cxOf CX0 P w K mg base N qual (j7 st) f cdv A outer s H E).nox (jD st) t/\t { nx:=fun _ H'=>Q .non H',rt:=Q} (kP N vs) H):FnOk P w K mg base CX0 (k+1) f fd ps sp:=by
 obtain⟨oc,od,kV,doc,pm,an,cdv,ct,osl,rfl,lk,hcd⟩:=F.ex
 refine fn_of lk hcd S len fun A outer s H vs Q E hr hsp=>?_
 obtain⟨t,h,q⟩:=hbody cdv A outer s H vs Q E hr hsp
 exact⟨t,h.nox,q⟩
theorem Fun.binds {x qual:Str}{st:Stmt}{f:Addr}{fd:FuncData}{ps:List Str}(F:Fun K x qual st f fd)
  (h:∀ (kV doc pm:Value) (an:Option Addr) (cdv ct:Value) (us:List Value),us.length=ps.length->bindArgs (PySem.W.fnOf x qual (jJ st) (jD st) (j7 st) .none kV doc pm an cdv ct) ⟨us,[]⟩=pure (ps.zip us)):Binds K fd ps []:=by
 obtain⟨oc,od,kV,doc,pm,an,cdv,ct,osl,rfl,lk,hcd⟩:=F.ex
 exact .all (h kV doc pm an cdv ct)
theorem kR {x qual:Str}{st:Stmt}{f:Addr}{oc:Value}{od an:Option Addr}{osl:Array (Option Value)}{kV doc pm cdv ct:Value}(l:K.lookup f=some ⟨oc,od, .func (PySem.W.fnOf x qual (jJ st) (jD st) (j7 st) .none kV doc pm an cdv ct),osl⟩)
  (c:PySem.W.codeIn K cdv qual=true) (k:keepIn K (.ref f)=true):Fun K x qual st f (PySem.W.fnOf x qual (jJ st) (jD st) (j7 st) .none kV doc pm an cdv ct):=⟨⟨oc,od,kV,doc,pm,an,cdv,ct,osl,rfl,l,c⟩,k⟩
end
theorem hu_of {A:Around}{k:Nat}(hr:Room k A):A.units+1<cLine:=iX (Nat.add_le_add_left (by decide:1<=64) _) hr.units
section
variable {X:Cx}
theorem pv (i:Nat){x:Str}{pos:Pos}(hN:X.N[i]?=some x:=by rfl)(hv:Vis X.env.scope x:=by first | exact Or.inl rfl | exact Or.inr (Or.inl rfl) | exact Or.inr (Or.inr rfl))(hd:(x==("__debug__" :Str))=false:=by decide)
  (hcd:(x==("__classdict__" :Str))=false:=by decide):PE X (.Name x pos) (tVar i):=jKW hN hv hd hcd
end
theorem iteF {A B:Prop}(h:B):if false=true then A else B:=by
 rw[ah ai]
 exact h
theorem iteT {A B:Prop}(h:A):if true=true then A else B:=by
 rw[aj rfl]
 exact h
theorem ite2 {c A B:Prop} [Decidable c](h1:c->A)(h2:¬ c->B):if c then A else B:=by
 by_cases h:c
 ·rw[aj h]
  exact h1 h
 ·rw[ah h]
  exact h2 h
def jK (cells:List (Str×Addr)):List (Str×NameKind)->List (Str×Addr)->List (Str×Addr)
 | [],acc=>acc
 | (n,k)::r,acc=>if k= .free then jK cells r ((n,(cells.lookup n).getD 0)::acc) else jK cells r acc
theorem jCO {env:Env} :∀ (l:List (Str×NameKind)) (acc:List (Str×Addr)),(∀ y∈l,y.2= .free->∃ c,env.cells.lookup y.1=some c)->
  (forIn l acc fun (x:Str×NameKind) (cs:List (Str×Addr))=>(if (x.2==NameKind.free)=true then (do let a <- cellOf env x.1; pure (ForInStep.yield ((x.1,a)::cs))) else pure (ForInStep.yield cs):Sem (ForInStep (List (Str×Addr)))))=pure (jK env.cells l acc)
 | [],acc,_=>rfl
 | (n,k)::r,acc,h=>by
  have hr:∀ y∈r,y.2= .free->∃ c,env.cells.lookup y.1=some c:=fun y hy=>h y (aM _ hy)
  rw[List.forIn_cons]
  by_cases hk:k= .free
  ·subst hk
   obtain⟨c,hc⟩:=h (n, .free) az rfl
   have e:cellOf env n=pure c:=by unfold cellOf; rw[hc]
   have e2:jK env.cells ((n,NameKind.free)::r) acc=jK env.cells r ((n,c)::acc):=by
    show (if NameKind.free=NameKind.free then jK env.cells r ((n,(env.cells.lookup n).getD 0)::acc) else _)=_
    rw[aj rfl,hc]; rfl
   rw[e2,<- jCO r ((n,c)::acc) hr]
   show ((do let a <- cellOf env n; pure (ForInStep.yield ((n,a)::acc))) >>= _)=_
   rw[e]; rfl
  ·have hb:(k==NameKind.free)=false:=by cases k <;> first | rfl | exact absurd rfl hk
   have e2:jK env.cells ((n,k)::r) acc=jK env.cells r acc:=by
    show (if k=NameKind.free then _ else jK env.cells r acc)=_
    rw[ah hk]
   rw[e2,<- jCO r acc hr]
   show ((if (k==NameKind.free)=true then _ else pure (ForInStep.yield acc)) >>= _)=_
   rw[hb]; rfl
theorem jFK {env:Env}{sc:Scope}(h:∀ y∈sc.names,y.2= .free->∃ c,env.cells.lookup y.1=some c):closureFor sc env=pure (jK env.cells sc.names []):=by
 unfold closureFor
 show (forIn sc.names [] _ >>= fun cs=>pure cs)=_
 rw[show (forIn sc.names ([]:List (Str×Addr)) _:Sem _)=_ from jCO sc.names [] h]
 rfl
theorem jAM {cells:List (Str×Addr)} :∀ (l:List (Str×NameKind)) (acc:List (Str×Addr)),(∀ y∈l,y.2= .free->∃ c,cells.lookup y.1=some c)->
  (∀ x c,acc.lookup x=some c->cells.lookup x=some c)->∀ x c,(jK cells l acc).lookup x=some c->cells.lookup x=some c
 | [],acc,_,ha=>ha
 | (n,k)::r,acc,h,ha=>by
  have hr:∀ y∈r,y.2= .free->∃ c,cells.lookup y.1=some c:=fun y hy=>h y (aM _ hy)
  unfold jK
  by_cases hk:k= .free
  ·rw[aj hk]
   obtain⟨c0,hc⟩:=h (n,k) az hk
   refine jAM r _ hr fun x c e=>?_
   rw[bu] at e
   cases hx:x==n with
   | true=>
    rw[hx] at e
    have exn:x=n:=eq_of_beq hx
    subst exn
    have hc':cells.lookup x=some c0:=hc
    rw[hc'] at e ⊢
    exact e
   | false=>rw[hx] at e; exact ha x c e
  ·rw[ah hk]; exact jAM r acc hr ha
theorem jAN {cells:List (Str×Addr)}{x:Str} :∀ (l:List (Str×NameKind)) (acc:List (Str×Addr)),((x,NameKind.free)∈l\/∃ c,acc.lookup x=some c)->∃ c,(jK cells l acc).lookup x=some c
 | [],acc,h=>by
  rcases h with h | h
  ·cases h
  ·exact h
 | (n,k)::r,acc,h=>by
  unfold jK
  by_cases hk:k= .free
  ·rw[aj hk]
   refine jAN r _ ?_
   by_cases e:x=n
   ·subst e
    exact .inr ⟨_,by rw[bu,beq_self_eq_true]⟩
   ·rcases h with h | ⟨c,h⟩
    ·rcases aF.mp h with q | q
     ·cases q; exact absurd rfl e
     ·exact .inl q
    ·refine .inr ⟨c,?_⟩
     rw[bu,dv.mpr e]
     exact h
  ·rw[ah hk]
   refine jAN r _ ?_
   rcases h with h | h
   ·rcases aF.mp h with q | q
    ·cases q; exact absurd rfl hk
    ·exact .inl q
   ·exact .inr h
theorem jAK {x:Str}{k:NameKind} :∀ {l:List (Str×NameKind)},l.lookup x=some k->(x,k)∈l
 | [],h=>by cases h
 | (n,k')::r,h=>by
  rw[bu] at h
  cases hx:x==n with
  | true=>rw[hx] at h; cases h; rw[eq_of_beq hx]; exact az
  | false=>rw[hx] at h; exact aM _ (jAK h)
theorem jCJ {env:Env}{x:Str}{k:NameKind}(hk:k= .cell\/k= .free):∀ {l:List (Str×NameKind)},(∀ y∈l,y.2≠ .cell)->
  (l.map fun (n,k)=>if (k==NameKind.free&&env.scope.kind== .function&&env.kindOf n==some .cell) then (n,NameKind.cell) else (n,k)).lookup x=some k->l.lookup x=some .free
 | [],_,h=>by simp at h
 | (n,k')::r,hc,h=>by
  have ih:= @jCJ env x k hk r (fun y hy=>hc y (aM _ hy))
  have hc0:k'≠ .cell:=hc (n,k') az
  rw[bu]
  rw[bg] at h
  dsimp only at h
  by_cases hb:(k'==NameKind.free&&env.scope.kind== .function&&env.kindOf n==some .cell)=true
  ·rw[aj hb,bu] at h
   cases hx:x==n with
   | true=>
    have:k'= .free:=by
     simp only [eJ] at hb
     exact eq_of_beq hb.1.1
    rw[this]
   | false=>rw[hx] at h; exact ih h
  ·rw[ah hb,bu] at h
   cases hx:x==n with
   | true=>
    rw[hx] at h
    have e:k'=k:=bh h
    rcases hk with q | q
    ·exact absurd (e.trans q) hc0
    ·rw[e,q]
   | false=>rw[hx] at h; exact ih h
theorem jBB {env:Env}{x:Str} :∀ {l:List (Str×NameKind)},l.lookup x=some .free->
  (l.map fun (n,k)=>if (k==NameKind.free&&env.scope.kind== .function&&env.kindOf n==some .cell) then (n,NameKind.cell) else (n,k)).lookup x=some .cell\/
  (l.map fun (n,k)=>if (k==NameKind.free&&env.scope.kind== .function&&env.kindOf n==some .cell) then (n,NameKind.cell) else (n,k)).lookup x=some .free
 | [],h=>by cases h
 | (n,k')::r,h=>by
  have ih:= @jBB env x r
  rw[bu] at h
  rw[bg]
  dsimp only
  by_cases hb:(k'==NameKind.free&&env.scope.kind== .function&&env.kindOf n==some .cell)=true
  ·rw[aj hb,bu]
   cases hx:x==n with
   | true=>exact .inl rfl
   | false=>rw[hx] at h; exact ih h
  ·rw[ah hb,bu]
   cases hx:x==n with
   | true=>rw[hx] at h; exact .inr h
   | false=>rw[hx] at h; exact ih h
section
variable {prog:Program}{w:World}{A:Around}{R:Result->Shared->Prop}{s:Shared}
abbrev jK9 (ifs:List Expr)(env:Env):Sem Bool:=forIn ifs true fun c r=>if r=true then do let ok <- isTrue c env (eval c env); pure (ForInStep.yield ok) else pure (ForInStep.yield r)
theorem jEN {elt tg iter:Expr}{ifs:List Expr}{sc:Scope}{pos:Pos}{it acc:Value}{env:Env}(J:Nat->Shared->Prop)
  (turn:∀ n z,J n z->wpAny (model prog w) A (pyNext it) (fun r z1=>match r with
   | none=>R (.ok .next) z1
   | some v=>wpAny (model prog w) A (letOwnedTupleGo tg it v) (fun _ z2=>wpAny (model prog w) A (assign tg env v) (fun _ z3=>wpAny (model prog w) A (jK9 ifs env) (fun ok z4=>
     if ok=true then wpAny (model prog w) A (eval elt env) (fun x z5=>wpAny (model prog w) A (call (.builtin "list.append") [acc,x]) (fun _ z6=>∃ k,k<n/\J k z6) (fun _ _=>False) z5) (fun _ _=>False) z4
     else ∃ k,k<n/\J k z4) (fun _ _=>False) z3) (fun _ _=>False) z2) (fun _ _=>False) z1) (fun _ _=>False) z)
  (n:Nat) (h:J n s):codeAny (model prog w) A (.compLoop (.ListComp elt [⟨tg,iter,ifs,0⟩] sc pos) 0 it acc env) R s:=by
 refine codeAny_loop rfl J (fun k z hJ=>?_) n h
 have noE:∀ {α:Type}{t:Sem α}{Q:α->Shared->Prop}{E:Value->Shared->Prop}{z:Shared},wpAny (model prog w) A t Q (fun _ _=>False) z->wpAny (model prog w) A t Q E z:=
  fun q=>bw q (fun _ _ a=>a) fun _ _ f=>f.elim
 show wpAny _ A ((compTurn (.ListComp elt [⟨tg,iter,ifs,0⟩] sc pos) 0 it acc env).onRaise (fun x=>do noteFrame x env; theTreesLotGoes x)) _ _ z
 refine wpAny_noted ?_
 rw[compTurn_list]
 refine aa (dZ (aa (bw (turn k z hJ) (fun r z1 q1=>?_) fun _ _ f=>f.elim)))
 cases r with
 | none=>exact ag q1
 | some v=>
  refine aa (bw q1 (fun _ z2 q2=>?_) fun _ _ f=>f.elim)
  refine aa (bw q2 (fun _ z3 q3=>?_) fun _ _ f=>f.elim)
  refine aa (bw q3 (fun ok z4 q4=>?_) fun _ _ f=>f.elim)
  cases ok with
  | false=>exact ag ⟨rfl,q4⟩
  | true=>
   refine aa (aa (bw q4 (fun x z5 q5=>?_) fun _ _ f=>f.elim))
   exact aa (bw q5 (fun _ z6 q6=>ag (ag ⟨rfl,q6⟩)) fun _ _ f=>f.elim)
end
def blk (X:Cx)(sc:Scope)(cl:List (Str×Addr))(C:Addr)(Nc:List Str)(fp:List Addr)(s:Shared)(H:Hp):Cx where
 prog:=X.prog
 w:=X.w
 K:=X.K
 mg:=X.mg
 base:=X.base
 A:=X.A
 N:=Nc
 s₀:=s
 H₀:=H
 env:=compEnvC sc cl C X.env
 outer:=X.stack
 stack:=X.stack
 ex:=fp
 fn:=fun _=>false
 calm:=X.calm
 pn:=[]
 xe:=fun _ _=>False
def blkσ (m:List (Option Nat))(σ:St):St:=m.map fun o=>match o with
 | none=>none
 | some i=>(σ[i]?).getD none
def PTs (X:Cx)(ifs:List Expr)(t:TT):Prop:=
 ∀ (pins:List (Addr×Obj)) (s:Shared) (σ:St) (H:Hp) (Q:Bool->Hp->Prop),Inv X pins σ H s->t σ H Q->wpAny (model X.prog X.w) X.A (jK9 ifs X.env) (TP X pins σ Q) X.xe s
def yR:TT:=fun _ H Q=>Q true H
theorem jKN {X:Cx} :PTs X [] yR:=fun _ _ _ H _ I h=>wpAny_tests_nil ⟨H,I,h⟩
theorem jKM {X:Cx}{c:Expr}{t:TT}(h:PT X c t):PTs X [c] t:=fun pins s σ H Q I q=>wpAny_tests_one (h pins s σ H Q I q)
def CompW (m:List (Option Nat))(g:TG)(tt:TT)(te:TE)(σ:St)(Q:VK)(J:It)(H1:Hp):Prop:=∀ D,H1 D=none->∃ W:Nat->Nat->St->Hp->List V->Prop,
  (∃ n,W 0 n (blkσ m σ) (upd H1 D (.lst [])) [])/\∀ i n σ' H' ys,W i n σ' H' ys->H' D=some (.lst ys)/\ys.length<sizeLine/\
   ((J.stop i H'/\Q (.ref D) H')\/(J.go i H'/\∃ N:St->Hp->List V->Prop,(∀ σ2 H2 zs,N σ2 H2 zs->∃ n',n'<n/\W (i+1) n' σ2 H2 zs)/\∀ x H'',J.yld i H' x H''->g x σ' H'' fun σ2 H2=>tt σ2 H2 fun b H3=>
    if b=true then te σ2 H3 fun v H4=>H4 D=some (.lst ys)/\N σ2 (upd H4 D (.lst (ys++[v]))) (ys++[v])
    else N σ2 H3 ys))
def tComp (m:List (Option Nat))(wi:TI)(g:TG)(tt:TT)(te:TE):TE:=fun σ H Q=>wi σ H (CompW m g tt te σ Q)
theorem Un.sameBut {fs ex:List Addr}{H H':Hp}{h h1 h2:Heap}{C:Addr}(u:Un fs ex H H' h h1)(sb:Heap.SameBut C h1 h2)(hC:h.objs.size<=C):Un fs ex H H' h h2:=by
 have ne:∀ {b:Addr}{o:Obj},h.get? b=some o->b≠C:=fun e=>aR (aX (ay e) hC)
 refine⟨fun b o e n hf hx=>(sb.2 b (ne e)).trans (u.keep b o e n hf hx),fun b o e n hf hx=>?_,u.free,fun b o e hx=>?_,u.tups,u.frzs,u.tbls⟩
 ·obtain⟨sl,q⟩:=u.slot b o e n hf hx
  exact⟨sl,(sb.2 b (ne e)).trans q⟩
 ·obtain⟨o',q⟩:=u.there b o e hx
  exact⟨o',(sb.2 b (ne e)).trans q⟩
theorem HOk.sameBut {P:Program}{w:World}{H:Hp}{h1 h2:Heap}{C:Addr}(x:HOk P w H h1)(sb:Heap.SameBut C h1 h2)(hC:H C=none):HOk P w H h2:=fun a o e=>
 (x a o e).stay (fun b u hb q=>(sb.2 b (by
  rintro rfl
  rcases hb with rfl | hb
  ·rw[hC] at e; cases e
  ·rw[hC] at hb; cases hb)).trans q) (fun _ q=>q) fun _ _ q=>q
section
variable {X:Cx}{tg iter elt:Expr}{ifs:List Expr}{sc:Scope}{pos:Pos}{wi:TI}{g:TG}{tt:TT}{te:TE}{m:List (Option Nat)}{Nc:List Str}
def jBL (X:Cx)(sc:Scope)(Nc:List Str)(m:List (Option Nat)):Prop:=
 m.length=Nc.length/\∀ (k i:Nat),m[k]?=some (some i)->∃ x,Nc[k]?=some x/\X.N[i]?=some x/\sc.names.lookup x=some .free
theorem jGO {pins:List (Addr×Obj)}{s:Shared}{σ:St}{H:Hp}{fp:List Addr}(I:Inv X pins σ H s)(hkind:sc.kind= .function)(hcell:∀ y∈sc.names,y.2≠ .cell)
  (hfree:∀ y∈sc.names,y.2= .free->X.env.scope.names.lookup y.1=some .cell\/X.env.scope.names.lookup y.1=some .free) (hm:jBL X sc Nc m) (hfp:∀ b∈fp,FpOk X pins H b) (hlt:∀ b∈fp,b<s.heap.objs.size)
  {h1:Heap}{tk:Nat}{md:Str->Option Value}(hns:h1.Ns s.heap.objs.size md) (old:∀ b o,s.heap.get? b=some o->h1.get? b=some o):
  Inv (blk X sc (jK X.env.cells sc.names []) s.heap.objs.size Nc fp s H) [] (blkσ m σ) H { s with heap:=h1,toks:=tk} :=by
 have hcl:∀ y∈sc.names,y.2= .free->∃ c,X.env.cells.lookup y.1=some c:=fun y hy hf=>I.ok.has y.1 (hfree y hy hf)
 have sub:∀ x c,(jK X.env.cells sc.names []).lookup x=some c->X.env.cells.lookup x=some c:=jAM sc.names [] hcl (fun x c e=>by cases e)
 have isfree:∀ x,(compEnvC sc (jK X.env.cells sc.names []) s.heap.objs.size X.env).kindOf x=some .cell\/(compEnvC sc (jK X.env.cells sc.names []) s.heap.objs.size X.env).kindOf x=some .free->sc.names.lookup x=some .free:=fun x h=>by
  rcases h with h | h
  ·exact jCJ (.inl rfl) hcell h
  ·exact jCJ (.inr rfl) hcell h
 refine⟨⟨I.ok.mod,hkind,I.ok.glob,I.ok.blt,ak _,fun x y c h1 h2=>I.ok.inj x y c (sub x c h1) (sub y c h2),fun x hx=>?_,fun x c hf _=>?_,I.ok.hd,I.ok.frames, .inl rfl,fun b hb=>?_,I.bs,bf I.ok.bsz I.sz,fun b o e hb=>?_,fun b hb hz=>?_,I.stack,I.stkFree⟩,
  rfl,I.bare,Un.kept old,⟨md,hns,fun k x v e1 e2 e3=>?_⟩,fun x c e=>?_,I.hok.fresh (ak _),fun x c e=>I.freeC x c (sub x c e),fun p hp=>absurd (show p∈([]:List (Addr×Obj)) from hp) (by simp),I.hok.kept old,?_⟩
 ·exact jAN sc.names [] (.inl (jAK (isfree x hx)))
 ·exact absurd (show false=true from hf) ai
 ·obtain⟨f0,f1,f2,f3,f4,f5⟩:=hfp b hb
  exact⟨aR (hlt b hb),fun x c e=>f4 x c (sub x c e)⟩
 ·obtain⟨f0,f1,f2,f3,f4,f5⟩:=hfp b hb
  rcases f3 with q | q
  ·exact I.ok.noex b o e q
  ·exact absurd (aX (ay (I.ok.bs b o e).1) q) (cI _)
 ·obtain⟨f0,f1,f2,f3,f4,f5⟩:=hfp b hb
  rcases aF.mp (I.stkSub b hz) with q | q
  ·exact f1 q
  ·exact f2 q
 ·have e2':∃ i,m[k]?=some (some i)/\σ[i]?=some (some v):=by
   unfold blkσ at e2
   rw[bb] at e2
   cases q:m[k]? with
   | none=>rw[q] at e2; cases e2
   | some o=>
    rw[q] at e2
    cases o with
    | none=>cases e2
    | some i=>
     refine⟨i,rfl,?_⟩
     have e2:(σ[i]?).getD none=some v:=bh e2
     cases r:σ[i]? with
     | none=>rw[r] at e2; cases e2
     | some z=>rw[r] at e2; exact bP some e2
  obtain⟨i,q1,q2⟩:=e2'
  obtain⟨x',a1,a2,a3⟩:=hm.2 k i q1
  have e1':Nc[k]?=some x:=e1
  rw[e1'] at a1
  cases a1
  have vis:=hfree (x, .free) (jAK a3) rfl
  obtain⟨m0,hn0,hl0⟩:=I.loc
  obtain⟨u,r,l⟩:=hl0 i x v a2 q2 (.inr vis)
  refine⟨u,r, .inr ⟨jBB a3,?_⟩⟩
  obtain⟨c,hc⟩:=jAN (cells:=X.env.cells) (x:=x) sc.names [] (.inl (jAK a3))
  rcases l with ⟨lk,_⟩ | ⟨_,c',hc',o,ho,hd⟩
  ·have lk':X.env.scope.names.lookup x=some .local:=lk
   rcases vis with z | z
   ·rw[lk'] at z; cases z
   ·rw[lk'] at z; cases z
  ·have:=sub x c hc
   rw[hc'] at this
   cases this
   exact⟨c,hc,o,old _ _ ho,hd⟩
 ·obtain⟨v,o,ho,hd⟩:=I.cell x c (sub x c e)
  exact⟨v,o,old _ _ ho,hd⟩
 ·show (blkσ m σ).length=Nc.length
  unfold blkσ
  rw[af]
  exact hm.1
theorem jJ7 {tf:St->TE}(hc:X.calm=true)(hi:PI X tg iter wi)(hkind:sc.kind= .function)(hcell:∀ y∈sc.names,y.2≠ .cell)(hnames:∀ y∈sc.names,y.2= .local->sc.names.lookup y.1=some .local)
  (hfree:∀ y∈sc.names,y.2= .free->X.env.scope.names.lookup y.1=some .cell\/X.env.scope.names.lookup y.1=some .free) (hm:jBL X sc Nc m)
  (hg:∀ cl C fp s H,PG (blk X sc cl C Nc fp s H) tg g) (ht:∀ cl C fp s H,PTs (blk X sc cl C Nc fp s H) ifs tt) (he:∀ cl C fp s H pins σ,Inv X pins σ H s->(∀ b∈fp,FpOk X pins H b)->PE (blk X sc cl C Nc fp s H) elt (tf σ))
  (hs:∀ x,foldedSetIterable iter X.env x=pure x) {fpos:Pos}{use:Option (Value->Sem Unit)}{R:Value->Shared->Prop}{pins:List (Addr×Obj)}{s:Shared}{σ:St}{H:Hp}{Q:VK}(I:Inv X pins σ H s) (h:tComp m wi g tt (tf σ) σ H Q)
  (fin:∀ (D C:Addr) (H5:Hp) (z1:Shared) (r:Flow),(∃ mm,z1.heap.Ns C mm)->FpOk X pins H5 C->(∀ h',Heap.SameBut C z1.heap h'->Inv X pins σ H5 { z1 with heap:=h'})->Q (.ref D) H5->compPost (model X.prog X.w) X.A X.xe use R (.ref D) C (.ok r) z1):
  wpAny (model X.prog X.w) X.A (comprehension (.ListComp elt [⟨tg,iter,ifs,0⟩] sc pos) sc X.env fpos (newList []) false (eval iter X.env) use) R X.xe s:=by
 have hcl:∀ y∈sc.names,y.2= .free->∃ c,X.env.cells.lookup y.1=some c:=fun y hy hf=>I.ok.has y.1 (hfree y hy hf)
 refine g5 (use:=use) rfl hs (jFK hcl) hkind hnames (thn (hi pins s σ H _ I h) fun v s1 h1=>thn h1 fun itv s2 h2=>?_)
 obtain⟨it,fp,tn,J,H2,e,I2,T,st2,f2,hQ⟩:=h2
 subst e
 have hlt:∀ b∈fp,b<s2.heap.objs.size:=fun b hb=>by
  obtain⟨o,e,_⟩:=T.obj 0 _ st2 b hb
  exact ay e
 refine bJ (gt hcell (by intro y hy; simp at hy) (fun h₁ hns₁ hsb₁=>?_) hkind)
 have I3:Inv X pins σ (upd H2 s2.heap.objs.size (.lst [])) { s2 with heap:=s2.heap.push { cls:= .type "list",data:= .seq ([]:List Value).toArray}} :=I2.lnew (t':=s2.toks) .nil (bo _)
 obtain⟨W,⟨n0,w0⟩,turn⟩:=hQ s2.heap.objs.size I2.fresh
 have hD3:∀ b∈fp,b≠s2.heap.objs.size:=fun b hb=>aR (hlt b hb)
 have f3:∀ b∈fp,FpOk X pins (upd H2 s2.heap.objs.size (.lst [])) b:=fun b hb=>by
  obtain⟨a0,a1⟩:=f2 b hb
  exact⟨by rw[jA (hD3 b hb)]; exact a0,a1⟩
 generalize hE:({ s2 with heap:=s2.heap.push { cls:= .type "list",data:= .seq ([]:List Value).toArray}} :Shared)=s3 at I3 hns₁ hsb₁ ⊢
 generalize hH3:upd H2 s2.heap.objs.size (.lst [])=H3 at I3 f3 w0
 have hsz3:s3.heap.objs.size=s2.heap.objs.size+1:=by rw[<- hE]; exact cx _ _
 have old:∀ b o,s3.heap.get? b=some o->h₁.get? b=some o:=fun b o e=>hsb₁.extBut b o (aR (ay e)) (ae _ e)
 have old2:∀ b o,s2.heap.get? b=some o->h₁.get? b=some o:=fun b o e=>old b o (by rw[<- hE]; exact ae _ e)
 have I4:=jGO (fp:=fp) (tk:=s3.toks+([]:List (Str×Value)).length) I3 hkind hcell hfree hm f3 (fun b hb=>show b<s3.heap.objs.size by rw[hsz3]; exact cr (hlt b hb)) hns₁ old
 have st4:tn 0 h₁:=T.keep _ _ _ st2 fun b hb o e=>old2 b o e
 have loop:codeAny (model X.prog X.w) X.A (.compLoop (.ListComp elt [⟨tg,iter,ifs,0⟩] sc pos) 0 (.ref it) (.ref s2.heap.objs.size) (compEnvC sc (jK X.env.cells sc.names []) s3.heap.objs.size X.env))
   (compPost (model X.prog X.w) X.A X.xe use R (.ref s2.heap.objs.size) s3.heap.objs.size) { s3 with heap:=h₁,toks:=s3.toks+([]:List (Str×Value)).length} :=by
  generalize hX:blk X sc (jK X.env.cells sc.names []) s3.heap.objs.size Nc fp s3 H3=Xb at I4
  have eP:Xb.prog=X.prog:=by rw[<- hX]; rfl
  have ew:Xb.w=X.w:=by rw[<- hX]; rfl
  have eK:Xb.K=X.K:=by rw[<- hX]; rfl
  have eA:Xb.A=X.A:=by rw[<- hX]; rfl
  have ec:Xb.calm=true:=by rw[<- hX]; exact hc
  have ee:Xb.env=compEnvC sc (jK X.env.cells sc.names []) s3.heap.objs.size X.env:=by rw[<- hX]; rfl
  have ex:Xb.xe=fun _ _=>False:=by rw[<- hX]; rfl
  have hgb:PG Xb tg g:=by rw[<- hX]; exact hg _ _ _ _ _
  have htb:PTs Xb ifs tt:=by rw[<- hX]; exact ht _ _ _ _ _
  have heb:PE Xb elt (tf σ):=by rw[<- hX]; exact he _ _ _ _ _ _ _ I3 f3
  have stat:∀ {H':Hp},(∀ b∈fp,H' b=none)->∀ b∈fp,FpOk Xb [] H' b:=fun {H'} hn b hb=>by
   obtain⟨o,eo,_⟩:=T.obj _ _ st4 b hb
   have q:=I4.ok.exf b (by rw[<- hX]; exact hb)
   exact⟨hn b hb,q.1,I4.ok.exfs b (by rw[<- hX]; exact hb), .inl (by rw[<- hX]; exact hb),q.2,fun p hp=>absurd hp (by rw[<- hX]; simp [blk])⟩
  have fr4:∀ b∈fp,H3 b=none:=fun b hb=>(f3 b hb).1
  unfold PG at hgb
  unfold PTs at htb
  unfold PE at heb
  rw[eP,ew,eA,ee,ex] at hgb htb heb
  refine jEN (fun n z=>∃ i σ' H' ys,Inv Xb [] σ' H' z/\tn i z.heap/\(∀ b∈fp,H' b=none)/\W i n σ' H' ys) ?_ n0 ⟨0,_,H3,[],I4,st4,fr4,w0⟩
  rintro n z ⟨i,σ5,H5,ys,I5,st5,fr5,w5⟩
  obtain⟨hD,hlen,way⟩:=turn i n σ5 H5 ys w5
  rcases way with ⟨stop,q⟩ | ⟨go,N,hN,step⟩
  ·have RR:=T.done Xb eP ew eK ec i [] z σ5 H5 (fun _ _=>False) I5 (stat fr5) st5 stop
   rw[eA] at RR
   refine thn RR fun r z1 ⟨hr,I6⟩=>?_
   subst hr
   obtain⟨mm,hn6,_⟩:=I6.loc
   rw[ee] at hn6
   have u6:Un (frs X.stack) fp H3 H5 s3.heap z1.heap:=by
    have:=I6.base
    rw[<- hX] at this
    exact this
   have fC:H5 s3.heap.objs.size=none:=by
    have:=I6.free
    rw[ee] at this
    exact this
   have hok6:HOk X.prog X.w H5 z1.heap:=by
    have:=I6.hok
    rw[eP,ew] at this
    exact this
   have os6:z1.os=s3.os:=by
    have:=I6.os
    rw[<- hX] at this
    exact this
   refine fin s2.heap.objs.size s3.heap.objs.size H5 z1 .next ⟨mm,hn6⟩ (I3.fpOk (ak _) fC) (fun h' sb=>?_) q
   refine I3.call' (s':= { z1 with heap:=h'}) (ch:=fp) os6 (u6.sameBut sb (ak _)) (hok6.sameBut sb fC) I6.bare (fun b hb=>?_)
   obtain⟨a0,a1,a2,a3,a4,a5⟩:=f3 b hb
   exact⟨a3,a1,a4,a5⟩
  ·have RR:=T.item Xb eP ew eK ec i [] z σ5 H5 (fun _ _=>False) I5 (stat fr5) st5 go
   rw[eA] at RR
   refine thn RR fun r z1 ⟨u,hr,h6⟩=>?_
   subst hr
   refine thn h6 fun _ z2 ⟨x,H7,I7,r7,y7,st7,fr7⟩=>?_
   have I7':=I7.pinned (stat fr7) (T.obj _ _ st7)
   refine thn (hgb _ z2 σ5 H7 x u _ I7' r7 (step x H7 y7)) fun _ z3 ⟨σ8,H8,I8,q8⟩=>?_
   refine thn (htb _ z3 σ8 H8 _ I8 q8) fun ok z4 ⟨H9,I9,q9⟩=>?_
   have again:∀ {σ7:St}{Hz:Hp}{zz:Shared}{yy:List V}{n':Nat},Inv Xb ([]++jEC fp z2.heap) σ7 Hz zz->n'<n->W (i+1) n' σ7 Hz yy->∃ k,k<n/\∃ i σ' H' ys,Inv Xb [] σ' H' zz/\tn i zz.heap/\(∀ b∈fp,H' b=none)/\W i k σ' H' ys:=fun {σ7 Hz zz yy n'} Iz hn wz=>by
    refine⟨n',hn,i+1,σ7,Hz,yy,Iz.unpinned,T.keep _ _ _ st7 fun b hb o e=>(Iz.pin (b,o) (aJ _ (aJ _ (jA8 hb e)))).1,fun b hb=>?_,wz⟩
    obtain⟨o,e,d⟩:=T.obj _ _ st7 b hb
    exact(Iz.pin (b,o) (aJ _ (aJ _ (jA8 hb e)))).2.1
   cases ok with
   | false=>
    obtain⟨n',hn,w9⟩:=hN _ _ _ (show N σ8 H9 ys from q9)
    exact again I9 hn w9
   | true=>
    refine thn (heb _ z4 σ8 H9 _ I9 q9) fun xv z5 ⟨vv,H10,I10,r10,hD10,n10⟩=>?_
    obtain⟨n',hn,w10⟩:=hN _ _ _ n10
    have RR:=jC2 (X:=Xb) _ z5 σ8 H10 (.ref s2.heap.objs.size) [vv] (.ref s2.heap.objs.size) [xv] (fun _ H'=>H'=upd H10 s2.heap.objs.size (.lst (ys++[vv]))) I10 rfl (.cons r10 .nil) ⟨_,ys,vv,rfl,rfl,hD10,hlen,rfl⟩
    rw[eP,ew,eA,ex] at RR
    refine thn RR fun _ z6 ⟨_,H11,I11,_,e11⟩=>?_
    subst e11
    exact again I11 hn w10
 exact codeAny_compStart_list loop (T.self _ 0 _ _ _ st4 loop)
theorem jH8 (hc:X.calm=true)(hi:PI X tg iter wi)(hkind:sc.kind= .function)(hcell:∀ y∈sc.names,y.2≠ .cell)(hnames:∀ y∈sc.names,y.2= .local->sc.names.lookup y.1=some .local)
  (hfree:∀ y∈sc.names,y.2= .free->X.env.scope.names.lookup y.1=some .cell\/X.env.scope.names.lookup y.1=some .free) (hm:jBL X sc Nc m)
  (hg:∀ cl C fp s H,PG (blk X sc cl C Nc fp s H) tg g) (ht:∀ cl C fp s H,PTs (blk X sc cl C Nc fp s H) ifs tt) (he:∀ cl C fp s H,PE (blk X sc cl C Nc fp s H) elt te)
  (hs:∀ x,foldedSetIterable iter X.env x=pure x:=by intro _; rfl):PE X (.ListComp elt [⟨tg,iter,ifs,0⟩] sc pos) (tComp m wi g tt te):=by
 intro pins s σ H Q I h
 rw[eval_ListComp]
 exact jJ7 (tf:=fun _=>te) (use:=none) hc hi hkind hcell hnames hfree hm hg ht (fun cl C fp s H _ _ _ _=>he cl C fp s H) hs I h (fun D C H5 z1 r ⟨mm,hn⟩ fC sb q=>⟨mm,hn,fun h' s2=>⟨.ref D,H5,sb h' s2,rfl,q⟩⟩)
end
theorem kL {X:Cx}{sc psc:Scope}(h:(sc.names.all fun y=>decide (y.2= .free->psc.names.lookup y.1=some .cell\/psc.names.lookup y.1=some .free))=true)(e:X.env.scope=psc:=by rfl):
  ∀ y∈sc.names,y.2= .free->X.env.scope.names.lookup y.1=some .cell\/X.env.scope.names.lookup y.1=some .free:=by
 rw[e]
 intro y hy
 exact aK (cC.mp h y hy)
def jM6 (sc:Scope)(N Nc:List Str)(m:List (Option Nat))(k:Nat):Bool:=match m[k]? with
 | some (some i)=>match Nc[k]? with
  | some x=>decide (N[i]?=some x)&&decide (sc.names.lookup x=some .free)
  | none=>false
 | _=>true
theorem jS {X:Cx}{sc:Scope}{N Nc:List Str}{m:List (Option Nat)}(e:X.N=N)(hl:m.length=Nc.length)(h:((List.range m.length).all (jM6 sc N Nc m))=true):jBL X sc Nc m:=by
 refine⟨hl,fun k i hk=>?_⟩
 have hlt:k<m.length:=(ar.mp hk).1
 have q:=cC.mp h k (bO.mpr hlt)
 unfold jM6 at q
 rw[hk] at q
 cases e2:Nc[k]? with
 | none=>rw[e2] at q; cases q
 | some x=>
  rw[e2] at q
  have q:(decide (N[i]?=some x)&&decide (sc.names.lookup x=some .free))=true:=q
  rw[eJ] at q
  exact⟨x,rfl,by rw[e]; exact aK q.1,aK q.2⟩
section
variable {m:List (Option Nat)}{g:TG}{tt:TT}{te:TE}{σ:St}{H1:Hp}{Q:VK}
theorem jCC {lo:Int}{n:Nat}(hn:n<sizeLine)(Pv:Addr->Nat->St->Hp->List V->Prop)(h0:∀ D,H1 D=none->Pv D 0 (blkσ m σ) (upd H1 D (.lst [])) [])
  (hD:∀ D i σ' H' ys,H1 D=none->i<=n->Pv D i σ' H' ys->H' D=some (.lst ys)/\ys.length<=i)
  (hs:∀ D i σ' H' ys,H1 D=none->i<n->Pv D i σ' H' ys->g (.int (lo+i)) σ' H' fun σ2 H2=>tt σ2 H2 fun b H3=>if b=true then te σ2 H3 fun v H4=>H4 D=some (.lst ys)/\Pv D (i+1) σ2 (upd H4 D (.lst (ys++[v]))) (ys++[v]) else Pv D (i+1) σ2 H3 ys)
  (hd:∀ D σ' H' ys,H1 D=none->Pv D n σ' H' ys->Q (.ref D) H'):CompW m g tt te σ Q (Itr lo n) H1:=by
 intro D hDn
 refine⟨fun i k σ' H' ys=>k=n - i/\i<=n/\Pv D i σ' H' ys,⟨n,rfl,bo _,h0 D hDn⟩,?_⟩
 rintro i k σ' H' ys ⟨rfl,hi,p⟩
 obtain⟨q1,q2⟩:=hD D i σ' H' ys hDn hi p
 refine⟨q1,by omega,?_⟩
 by_cases hlt:i<n
 ·refine .inr ⟨hlt,Pv D (i+1),fun σ2 H2 zs z=>⟨n - (i+1),by omega,rfl,hlt,z⟩,fun x H'' y=>?_⟩
  obtain⟨e1,e2⟩:=y
  subst e1 e2
  exact hs D i σ' _ ys hDn hlt p
 ·have e:i=n:=by omega
  subst e
  exact .inl ⟨ak _,hd D σ' H' ys hDn p⟩
end
end L2
end
section
namespace SS
open PySem PySem.SetTable
abbrev Ris (xs:Array Nat):Prop:=xs.toList.Pairwise (· < ·)
theorem jCI {xs:Array Nat}(h:Ris xs){a b:Nat}(hab:a<b)(hb:b<xs.size):xs.getD a 0<xs.getD b 0:=by
 have h1:a<xs.size:=gG hab hb
 have:=cP.mp h a b (by simpa using h1) (by simpa using hb) hab
 simpa [Array.getD,h1,hb] using this
theorem jQR {xs:Array Nat}{j:Nat}(hr:Ris xs):∀ (fuel lo hi:Nat),hi - lo<=fuel->lo<=hi->hi<=xs.size->(∀ a,a<lo->xs.getD a 0<j)->(∀ a,hi<=a->a<xs.size->j<=xs.getD a 0)->
  (below.go xs j fuel lo hi<=xs.size/\(∀ a,a<below.go xs j fuel lo hi->xs.getD a 0<j)/\(∀ a,below.go xs j fuel lo hi<=a->a<xs.size->j<=xs.getD a 0)):=by
 intro fuel
 induction fuel with
 | zero=>
  intro lo hi h1 h2 h3 h4 h5
  have e:lo=hi:=by omega
  subst e
  exact⟨h3,h4,h5⟩
 | succ fuel ih=>
  intro lo hi h1 h2 h3 h4 h5
  unfold below.go
  by_cases hlt:lo<hi
  ·rw[aj hlt]
   have hm:(lo+hi) / 2<xs.size:=by omega
   have e:xs.getD ((lo+hi) / 2) j=xs.getD ((lo+hi) / 2) 0:=by simp [Array.getD,hm]
   dsimp only
   rw[e]
   by_cases hc:xs.getD ((lo+hi) / 2) 0<j
   ·rw[aj hc]
    refine ih _ _ (by omega) (by omega) h3 (fun a ha=>?_) h5
    by_cases e2:a=(lo+hi) / 2
    ·rw[e2]; exact hc
    ·exact gG (jCI hr (by omega) hm) hc
   ·rw[ah hc]
    refine ih _ _ (by omega) (by omega) (by omega) h4 (fun a ha hs=>?_)
    by_cases e2:a=(lo+hi) / 2
    ·rw[e2]; omega
    ·have:=jCI hr (show (lo+hi) / 2<a by omega) hs
     omega
  ·rw[ah hlt]
   have e:lo=hi:=by omega
   subst e
   exact⟨h3,h4,h5⟩
theorem jEP {xs:Array Nat}(hr:Ris xs)(j:Nat):below xs j<=xs.size/\(∀ a,a<below xs j->xs.getD a 0<j)/\(∀ a,below xs j<=a->a<xs.size->j<=xs.getD a 0):=
 jQR hr xs.size 0 xs.size (by omega) (bo _) (ak _) (fun a h=>absurd h (eU _)) (fun a h1 h2=>absurd h2 (by omega))
theorem jFM {xs:Array Nat}(hr:Ris xs){j i:Nat}(hi:i<=xs.size)(h1:∀ a,a<i->xs.getD a 0<j)(h2:∀ a,i<=a->a<xs.size->j<=xs.getD a 0):below xs j=i:=by
 obtain⟨b1,b2,b3⟩:=jEP hr j
 rcases Nat.lt_trichotomy (below xs j) i with h | h | h
 ·have q1:=h1 _ h
  have q2:=b3 _ (ak _) (by omega)
  omega
 ·exact h
 ·have q1:=b2 _ h
  have q2:=h2 _ (ak _) (by omega)
  omega
theorem jAB {α:Type}(xs:Array α)(p:Nat)(x:α):(insertAt xs p x).toList=xs.toList.take p++x::xs.toList.drop p:=by
 unfold insertAt
 simp [eB,List.extract]
 rw[bV (by simp)]
theorem jBX {α:Type}(xs:Array α)(p:Nat)(x:α):(insertAt xs p x).size=xs.size+1:=by
 rw[<- aO,jAB]
 simp
 omega
theorem jJH {xs:Array Nat}{j:Nat}(hr:Ris xs)(hj:j∉xs.toList):Ris (insertAt xs (below xs j) j):=by
 obtain⟨b1,b2,b3⟩:=jEP hr j
 show (insertAt xs (below xs j) j).toList.Pairwise (· < ·)
 rw[jAB,bS,cA]
 have hl:∀ a∈xs.toList.take (below xs j),a<j:=by
  intro a ha
  obtain⟨i,hi,e⟩:=List.mem_take_iff_getElem.mp ha
  have:=b2 i (by omega)
  have hs:i<xs.size:=by simp at hi; omega
  simp [Array.getD,hs] at this
  simp at e
  omega
 have hg:∀ a∈xs.toList.drop (below xs j),j<a:=by
  intro a ha
  obtain⟨i,hi,e⟩:=List.mem_drop_iff_getElem.mp ha
  have hs:i+below xs j<xs.size:=by simpa [i7] using hi
  have:=b3 (i+below xs j) (by omega) hs
  simp [Array.getD,hs] at this
  have e':xs[i+below xs j]=a:=by simpa [i7] using e
  have hne:a≠j:=by
   intro z
   apply hj
   rw[<- z]
   exact cD ha
  omega
 refine⟨hr.sublist (df _ _),⟨hg,hr.sublist (gW _ _)⟩,?_⟩
 intro a ha b hb
 rcases aF.mp hb with rfl | hb
 ·exact hl a ha
 ·exact gG (hl a ha) (hg b hb)
theorem jDJ {t:SetTable}{j:Nat}(hr:Ris t.place)(h:t.slot j= .empty):j∉t.place.toList:=by
 intro hm
 obtain⟨i,hi,e⟩:=dO hm
 have hs:i<t.place.size:=by simpa using hi
 have e0:t.place[i]=j:=by simpa using e
 have eb:below t.place j=i:=by
  refine jFM hr (cJ hs) (fun a ha=>?_) (fun a h1 h2=>?_)
  ·have:=jCI hr ha hs
   simp only [Array.getD,hs] at this ⊢
   simp [e0] at this ⊢
   exact this
  ·by_cases e2:a=i
   ·subst e2
    simp [Array.getD,hs,e0]
   ·have:=jCI hr (show i<a by omega) h2
    simp only [Array.getD,hs] at this
    simp [e0] at this
    simp [Array.getD]
    omega
 unfold SetTable.slot at h
 dsimp only at h
 rw[eb] at h
 rw[aj (by simp [hs,e0])] at h
 cases h
theorem jHK (j:Nat):has #[] j=false:=by
 unfold has
 simp
theorem jIF {t:SetTable}(hd:t.dummies=#[]){f:Nat->Int}{h:Int} :∀ (fuel:Nat) (p:Probe) (m:Met),p.dummy=none->probe.go t f h fuel p=some m->
  (∃ j,m= .empty j none/\t.slot j= .empty)\/(∃ j i n,m= .candidate j i n):=by
 intro fuel
 induction fuel with
 | zero=>intro p m _ e; simp [probe.go] at e
 | succ fuel ih=>
  intro p m hp e
  unfold probe.go at e
  cases hs:t.slot p.j with
  | empty=>
   rw[hs] at e
   simp only [gX] at e
   subst e
   exact .inl ⟨p.j,by rw[hp],hs⟩
  | dummy=>
   unfold SetTable.slot at hs
   dsimp only at hs
   rw[hd,jHK] at hs
   split at hs
   ·cases hs
   ·simp at hs
  | live i=>
   rw[hs] at e
   dsimp only at e
   split at e
   ·simp only [gX] at e
    subst e
    exact .inr ⟨_,_,_,rfl⟩
   ·refine ih _ _ ?_ e
    unfold advance
    split
    ·exact hp
    ·exact hp
theorem jFF {t:SetTable}(hr:Ris t.place)(hd:t.dummies=#[]){h:Int}{slot:Nat}{d:Bool}(e:t.freeSlot h=some (slot,d)):slot∉t.place.toList:=by
 unfold SetTable.freeSlot at e
 split at e
 ·rename_i j dummy hp
  simp only [gX,Prod.mk.injEq] at e
  have hp':probe.go t (fun _=>h+1) h (10*turns t.mask) (t.probeStart h)=some (.empty j dummy):=hp
  rcases jIF hd _ _ _ (by unfold probeStart; rfl) hp' with ⟨j',em,hs⟩ | ⟨_,_,_,em⟩
  ·cases em
   have:slot=j:=by rw[<- e.1]; rfl
   rw[this]
   exact jDJ hr hs
  ·cases em
 ·cases e
theorem jJG {t:SetTable}{j:Nat}(hd:t.dummies=#[])(h:t.slot j≠ .empty):(∃ i,t.slot j= .live i)/\j∈t.place.toList:=by
 unfold SetTable.slot at h ⊢
 dsimp only at h ⊢
 by_cases q:(t.place[below t.place j]?==some j)=true
 ·rw[aj q]
  refine⟨⟨_,rfl⟩,?_⟩
  have e:t.place[below t.place j]?=some j:=eq_of_beq q
  obtain⟨hi,e⟩:=eC.mp e
  rw[<- e]
  exact Array.getElem_mem_toList hi
 ·rw[ah q,hd,jHK] at h
  exact absurd rfl h
theorem run7 (i:Nat):runEnd 7 i=i:=by unfold runEnd; rw[ah (by omega)]
theorem jKR {t:SetTable}(hm:t.mask=7)(hd:t.dummies=#[]){h:Int} :∀ (k fuel:Nat) (p:Probe),p.j=p.i->p.more=0->p.i<8->p.perturb<32->k<=fuel->
  probe.go t (fun _=>h+1) h fuel p=none->∀ r,r<k->Nat.repeat (fun i=>(i*5+1) % 8) r p.i∈t.place.toList:=by
 intro k
 induction k with
 | zero=>intro fuel p _ _ _ _ _ _ r hr; omega
 | succ k ih=>
  intro fuel p h1 h2 h3 h4 h5 h6 r hr
  obtain⟨f,rfl⟩:∃ f,fuel=f+1:=⟨fuel - 1,by omega⟩
  unfold probe.go at h6
  by_cases he:t.slot p.j= .empty
  ·rw[he] at h6; cases h6
  ·obtain⟨⟨i,hl⟩,hmem⟩:=jJG hd he
   rw[hl] at h6
   dsimp only at h6
   rw[ah (by simp; omega)] at h6
   have hz:p.perturb / 32=0:=by omega
   have ea:t.advance p= { p with j:=(p.i*5+1) % 8,more:=0,i:=(p.i*5+1) % 8,perturb:=0} :=by
    unfold advance leap
    rw[ah (by omega),hm,hz]
    simp [run7]
   rw[ea] at h6
   cases r with
   | zero=>show p.i∈_; rw[<- h1]; exact hmem
   | succ r=>
    have q:=ih f _ (by rfl) (by rfl) (by show (p.i*5+1) % 8<8; omega) (by show 0<32; omega) (by omega) h6 r (by omega)
    have e:∀ (r i:Nat),Nat.repeat (fun i=>(i*5+1) % 8) (r+1) i=Nat.repeat (fun i=>(i*5+1) % 8) r ((i*5+1) % 8):=by
     intro r
     induction r with
     | zero=>intro i; rfl
     | succ r ihr=>
      intro i
      show ((Nat.repeat _ (r+1) i)*5+1) % 8=((Nat.repeat _ r ((i*5+1) % 8))*5+1) % 8
      rw[ihr]
    rw[e]
    exact q
theorem jMQ:∀ i,i<8->∀ j,j<8->∃ r,r<8/\Nat.repeat (fun i=>(i*5+1) % 8) r i=j:=by decide+kernel
theorem jFE {t:SetTable}(hm:t.mask=7)(hd:t.dummies=#[])(hz:t.place.size<8){h:Int}(h0:0<=h)(h1:h<32):∃ q,t.freeSlot h=some q:=by
 unfold SetTable.freeSlot
 have hb:bits h<32:=by unfold bits; omega
 have hps:t.probeStart h= { j:=bits h % 8,more:=0,i:=bits h % 8,perturb:=bits h,dummy:=none} :=by
  unfold probeStart
  rw[hm]
  simp [run7]
 cases e:t.probe (fun _=>h+1) h (t.probeStart h) with
 | none=>
  exfalso
  have e':probe.go t (fun _=>h+1) h (10*turns t.mask) (t.probeStart h)=none:=e
  rw[hps] at e'
  have q:=jKR hm hd 8 _ _ (by rfl) (by rfl) (by show bits h % 8<8; omega) (by exact hb) (by rw[hm]; decide) e'
  have sub:List.range 8 ⊆ t.place.toList:=by
   intro j hj
   obtain⟨r,hr,er⟩:=jMQ (bits h % 8) (by omega) j (bO.mp hj)
   rw[<- er]
   exact q r hr
  have:=List.Nodup.length_le_of_subset (List.nodup_range (n:=8)) sub
  simp at this
  omega
 | some m=>
  rcases jIF hd _ _ _ (by rw[hps]) (show probe.go t (fun _=>h+1) h (10*turns t.mask) (t.probeStart h)=some m from e) with ⟨j,rfl,_⟩ | ⟨j,i,n,rfl⟩
  ·exact⟨_,rfl⟩
  ·exfalso
   have nc:∀ (fuel:Nat) (p:Probe) (j i:Nat) (n:Probe),probe.go t (fun _=>h+1) h fuel p≠some (.candidate j i n):=by
    intro fuel
    induction fuel with
    | zero=>intro p j i n; simp [probe.go]
    | succ f ih=>
     intro p j i n
     unfold probe.go
     cases t.slot p.j with
     | empty=>simp
     | dummy=>exact ih _ _ _ _
     | live i'=>
      dsimp only
      rw[ah (by simp; omega)]
      exact ih _ _ _ _
   exact nc _ _ _ _ _ e
structure Tab (t:SetTable)(n:Nat)(led:Bool):Prop where
 ris:Ris t.place
 sz:t.place.size=n
 dm:t.dummies=#[]
 msk:t.mask=7
 pl:t.plain=true
 ld:t.led=led
theorem Tab.fits {t:SetTable}{n:Nat}{led:Bool}(T:Tab t n led)(hn:n<=4):t.fits n=true:=by
 unfold SetTable.fits fill
 simp [T.sz,T.dm,T.msk]
 omega
theorem Tab.full {t:SetTable}{n:Nat}{led:Bool}(T:Tab t n led)(hn:n<=4):t.tooFull=false:=by
 unfold tooFull fill
 simp [T.sz,T.dm,T.msk]
 omega
theorem jKA (led:Bool):Tab (fresh 0 0 led) 0 led:=⟨List.Pairwise.nil,rfl,rfl,rfl,rfl,rfl⟩
theorem jJS {t:SetTable}{n:Nat}{led:Bool}(T:Tab t n led)(hn:n+1<=4)(es:Array (Int×Value))(he:es.size=n){h:Int}(h0:0<=h)(h1:h<32)(x:Value):
  Tab (layNew t es h x).2.1 (n+1) led/\∃ p,(layNew t es h x).1.toList=es.toList.take p++(h,x)::es.toList.drop p:=by
 obtain⟨⟨slot,d⟩,hf⟩:=jFE T.msk T.dm (by rw[T.sz]; omega) h0 h1
 unfold layNew
 rw[hf]
 dsimp only [SetTable.put]
 have hnm:=jFF T.ris T.dm hf
 have T2:Tab { t with place:=insertAt t.place (below t.place slot) slot,dummies:=if has t.dummies slot then eraseAt t.dummies (below t.dummies slot) else t.dummies} (n+1) led:=by
  refine⟨jJH T.ris hnm,by rw[jBX,T.sz],?_,T.msk,T.pl,T.ld⟩
  rw[T.dm,jHK]
  rfl
 refine⟨?_,_,jAB _ _ _⟩
 unfold SetTable.orStandIn
 rw[jBX,he,T2.fits hn]
 exact T2
def jIC (xs:Array Nat):Nat->Nat
 | 0=>0
 | i+1=>xs.getD i 0+1
theorem jGU {xs:Array Nat}(hr:Ris xs){i:Nat}(hi:i<=xs.size):below xs (jIC xs i)=i:=by
 cases i with
 | zero=>exact jFM hr (bo _) (fun a h=>absurd h (eU _)) (fun a _ _=>bo _)
 | succ i=>
  refine jFM hr hi (fun a ha=>?_) (fun a h1 h2=>?_)
  ·show _<xs.getD i 0+1
   by_cases e:a=i
   ·rw[e]; omega
   ·have:=jCI hr (show a<i by omega) (show i<xs.size by omega)
    omega
  ·show xs.getD i 0+1<=_
   exact jCI hr (show i<a by omega) h2
theorem jJY {α:Type}{l:List α}{i:Nat}(h:i<l.length):(l[i]::l.eraseIdx i).Perm l:=by
 rw[List.eraseIdx_eq_take_drop_succ]
 have e:l=l.take i++l[i]::l.drop (i+1):=by rw[<- List.drop_eq_getElem_cons h,bi]
 conv=>rhs; rw[e]
 exact List.perm_middle.symm
theorem jPJ {α:Type}(next:Nat->Nat):∀ (fuel k:Nat) (left:List α) (out:Array α),fuel=left.length->(pickOrder.go next fuel k left out).toList.Perm (out.toList++left):=by
 intro fuel
 induction fuel with
 | zero=>
  intro k left out h
  have:left=[]:=fb.mp h.symm
  subst this
  simp [pickOrder.go]
 | succ f ih=>
  intro k left out h
  have hl:next k % left.length<left.length:=Nat.mod_lt _ (by omega)
  unfold pickOrder.go
  rw[aB hl]
  dsimp only
  refine(ih _ _ _ (by rw[List.length_eraseIdx_of_lt hl]; omega)).trans ?_
  rw[dH,aU]
  exact cR _ (jJY hl)
theorem jG3 {α:Type}(next:Nat->Nat)(xs:Array α):(pickOrder next xs).toList.Perm xs.toList:=by
 unfold pickOrder
 have:=jPJ next xs.size 0 xs.toList #[] (by simp)
 simpa using this
end SS
end
section
namespace SS
open PySem
abbrev ledW (w:World):Bool:=!(w.params.followText "set-order")
def El (e:Int×Value)(k:Int):Prop:=e.1=hashInt k/\∃ t,e.2= .int k t
theorem jBM {α β:Type}{F:α->β->Prop} :∀ {l:List α}{r:List β},Paired F l r->∀ a∈l,∃ b∈r,F a b
 | _,_, .nil=>fun a h=>by cases h
 | _,_, .cons f t=>fun a h=>by
  rcases aF.mp h with rfl | h
  ·exact⟨_,az,f⟩
  ·obtain⟨b,hb,q⟩:=jBM t a h
   exact⟨b,aM _ hb,q⟩
theorem jCU {α β:Type}{F:α->β->Prop} :∀ {l:List α}{r:List β},Paired F l r->∀ b∈r,∃ a∈l,F a b
 | _,_, .nil=>fun a h=>by cases h
 | _,_, .cons f t=>fun b h=>by
  rcases aF.mp h with rfl | h
  ·exact⟨_,az,f⟩
  ·obtain⟨a,ha,q⟩:=jCU t b h
   exact⟨a,aM _ ha,q⟩
theorem jEE {α β:Type}{F:α->β->Prop}{a:α}{b:β}(f:F a b):∀ {l:List α}{r:List β}(p:Nat),Paired F l r->Paired F (l.take p++a::l.drop p) (r.take p++b::r.drop p)
 | _,_,0,q=>by simpa using Paired.cons f q
 | _,_,p+1, .nil=>by simpa using Paired.cons f .nil
 | _,_,p+1, .cons g t=>by
  simp only [List.take_succ_cons,List.drop_succ_cons,ie]
  exact .cons g (jEE f p t)
theorem jPB {α:Type}(l:List α)(p:Nat)(x z:α):z∈l.take p++x::l.drop p↔z=x\/z∈l:=by
 conv=>rhs; rw[<- bi p l]
 simp only [aN,aF]
 constructor
 ·rintro (h | h | h)
  ·exact .inr (.inl h)
  ·exact .inl h
  ·exact .inr (.inr h)
 ·rintro (h | h | h)
  ·exact .inr (.inl h)
  ·exact .inl h
  ·exact .inr (.inr h)
theorem jEY {α:Type}(l:List α)(p:Nat)(x:α):(l.take p++x::l.drop p).Perm (x::l):=by
 have h:(l.take p++x::l.drop p).Perm (x::(l.take p++l.drop p)):=List.perm_middle
 rw[bi] at h
 exact h
structure SetG (w:World)(h:Heap)(a:Addr)(ks:List Int):Prop where
 ex:∃ o es ep t,h.get? a=some o/\o.ExactSet/\o.data= .set es ep t/\Paired El es.toList ks/\Tab t es.size (ledW w)
 nd:ks.Nodup
 len:ks.length<=4
section
variable {prog:Program}{w:World}{A:Around}{E:Value->Shared->Prop}{s:Shared}{a:Addr}{ks:List Int}{k:Int}{tk:Tok}
theorem elems {es:List (Int×Value)}(h:Paired El es ks):ElemsOf (intKind prog w) es:=fun e he=>by
 obtain⟨k,_,h1,t,h2⟩:=jBM h e he
 rw[h2]
 exact⟨⟨k,by show Value.isInt k (.int k t)=true; simp [Value.isInt],h1⟩,rfl⟩
theorem SetG.at {h h':Heap}(S:SetG w h a ks)(e:∀ o,h.get? a=some o->h'.get? a=some o):SetG w h' a ks:=by
 obtain⟨⟨o,es,ep,t,ho,r⟩,nd,len⟩:=S
 exact⟨⟨o,es,ep,t,e _ ho,r⟩,nd,len⟩
theorem jC8 (k0:0<=k)(k1:k<32):hashInt k=k:=by
 obtain⟨n,rfl⟩:=Int.eq_ofNat_of_zero_le k0
 have e:∀ n:Nat,n<32->hashInt (n:Int)=(n:Int):=by decide+kernel
 exact e n (by omega)
theorem jT2 {Q:Bool->Shared->Prop}(S:SetG w s.heap a ks)(hl:ks.length+1<=4)(k0:0<=k)(k1:k<32)
  (h:∀ b h' ks',Heap.SameBut a s.heap h'->SetG w h' a ks'->(∀ z,z∈ks'↔z=k\/z∈ks)->ks'.length<=ks.length+1->Q b { s with heap:=h'}):
  wpAny (model prog w) A (setAddHashed a (.int k tk) (hashInt k)) Q E s:=by
 obtain⟨o,es,ep,t,ho,hex,hd,hp,T⟩:=id S.ex
 have hn:es.size=ks.length:=by rw[<- aO]; exact gb hp
 have hf:=T.fits (by omega)
 have hel:ElemsOf (intKind prog w) es.toList:=elems hp
 have hb:es.size<scanBound:=by unfold scanBound; omega
 have hi:∀ (j:Int) (t:Tok),Value.isInt k (.int j t)=true->j=k:=fun j t e=>by simpa [Value.isInt] using e
 unfold setAddHashed setAddHashedIn
 refine bB (aa (dh ho hd hf ?_))
 dsimp only
 rw[byScan_of (knd:=intKind prog w) rfl hb hel,aj rfl]
 unfold setAddByScan
 refine aa (aa (cU (aa ?_)))
 refine wpAny_setScan_of (knd:=intKind prog w) (k:=k) (by show Value.isInt k (.int k tk)=true; simp [Value.isInt]) ho hd hf hel ?_
 have es0:s= { s with heap:=s.heap} :=by cases s; rfl
 cases hr:List.findIdx? (fun e=>(intKind prog w).is k e.2) es.toList with
 | some j=>
  obtain⟨hj,hpj,_⟩:=List.findIdx?_eq_some_iff_getElem.mp hr
  obtain⟨k',hk',_,t',e'⟩:=jBM hp _ (cV hj)
  have hkk:k'=k:=hi k' t' (by rw[<- e']; exact hpj)
  subst hkk
  refine ag (ag ?_)
  rw[es0]
  exact h false s.heap ks (Heap.SameBut.refl a s.heap) S (fun z=>⟨.inr,fun q=>q.elim (fun e=>e ▸ hk') id⟩) (by omega)
 | none=>
  have hnk:k∉ks:=fun hm=>by
   obtain⟨e,he,_,t',e'⟩:=jCU hp k hm
   have q:=List.findIdx?_eq_none_iff.mp hr e he
   rw[e'] at q
   have q':Value.isInt k (.int k t')=false:=q
   simp [Value.isInt] at q'
  obtain⟨T1,p,hp1⟩:=jJS T (by omega) es rfl (h:=hashInt k) (by rw[jC8 k0 k1]; exact k0) (by rw[jC8 k0 k1]; exact k1) (.int k tk)
  dsimp only
  show wpAny _ A (match layNew t es (hashInt k) (Value.int k tk) with | (es,t,wasDummy,gave)=>_) _ E s
  generalize layNew t es (hashInt k) (Value.int k tk)=L at T1 hp1 ⊢
  obtain⟨es1,t1,wd,gv⟩:=L
  dsimp only at T1 hp1 ⊢
  have hp2:Paired El es1.toList (ks.take p++k::ks.drop p):=by
   rw[hp1]
   exact jEE ⟨rfl,tk,rfl⟩ p hp
  have hz1:es1.size=es.size+1:=by
   rw[<- aO,hp1,(jEY es.toList p (hashInt k,Value.int k tk)).length_eq]
   simp
  have hlen:(ks.take p++k::ks.drop p).length=ks.length+1:=(jEY ks p k).length_eq
  have T1':Tab t1 es1.size (ledW w):=by rw[hz1]; exact T1
  have hg:(s.heap.update a (Obj.putSet es1 t1)).get? a=some { o with data:= .set es1 (ep+1) t1} :=by
   have q:=bL (Obj.putSet es1 t1) ho (by rw[putSet_of es1 t1 hd]; rfl)
   rw[putSet_of es1 t1 hd] at q
   exact q
  have fin:Q true { s with heap:=s.heap.update a (Obj.putSet es1 t1)} :=
   h true _ _ (gE ..) ⟨⟨_,es1,ep+1,t1,hg,hex,rfl,hp2,T1'⟩,(jEY ks p k).nodup_iff.mpr (cy.mpr ⟨hnk,S.nd⟩),by omega⟩ (fun z=>jPB ks p k z) (by omega)
  have hfull:t1.tooFull=false:=T1'.full (by omega)
  refine aa (show wpAny _ A (match gv with | true=>rule "set.scan.the-table-gave-way" | false=>pure ()) _ E s from ?_)
  have hzl:es1.size<=sizeLine:=by rw[hz1,show sizeLine=2 ^ 24 from rfl]; omega
  cases gv with
  | true=>
   refine cU ?_
   split
   all_goals
    refine aa (show wpAny _ A (pure true:Sem Bool) _ E s from ag ?_)
    simp only [gc]
    refine aa (wpAny_storeSet_of ho hd ?_ hzl)
    rw[hfull,da,ah ai]
    exact ag (ag fin)
  | false=>
   refine ag ?_
   split
   all_goals
    refine aa (show wpAny _ A (pure true:Sem Bool) _ E s from ag ?_)
    simp only [gc]
    refine aa (wpAny_storeSet_of ho hd ?_ hzl)
    rw[hfull,da,ah ai]
    exact ag (ag fin)
end
theorem jBK:entryFor table "set.update.loop" =some Builtin.«set.update.loop»:=entryFor_of_fast (by kernel_rfl)
theorem jAF:plainId "set.update.loop" =true:=by decide+kernel
section
variable {prog:Program}{w:World}{A:Around}{R:Result->Shared->Prop}{I:Addr}{fp wr:List Addr}{n:Nat}{P:Nat->Value->Prop}{St:Nat->Shared->Prop}
theorem jMW (W:WalksS prog w A.in1 I fp wr (fun a b=>b=a) n P St)(S:Addr)(hSf:S∉fp)(val:Nat->Int)(hval:∀ i v,P i v->∃ t,v= .int (val i) t)(hv:∀ i,i<n->0<=val i/\val i<32)(hn:n<=4):
  ∀ (k i:Nat) (s:Shared) (ks:List Int),n - i=k->i<=n->St i s->SetG w s.heap S ks->ks.length<=i->(∀ z,z∈ks↔∃ j,j<i/\val j=z)->
   (∀ s' ks',Moved (S::wr) (fun a b=>b=a) s s'->SetG w s'.heap S ks'->(∀ z,z∈ks'↔∃ j,j<n/\val j=z)->R (.ok (.ret .none)) s')->
   codeAny (model prog w) A (.builtin "set.update.loop" ⟨[.ref S, .ref I],[]⟩) R s:=by
 have hSw:S∉wr:=fun h=>hSf (W.sub _ h)
 have sub1:∀ b∈wr,b∈S::wr:=fun b hb=>aM _ hb
 intro k
 induction k with
 | zero=>
  intro i s ks hk hi hst hS hl hm hR
  obtain rfl:i=n:=by omega
  refine cg jBK ?_
  rw[cF jAF _]
  show wpAny _ A.in1 (pyNext (.ref I) >>= _) _ _ s
  refine aa (W.done s _ _ hst fun s' mv=>?_)
  show wpAny _ A.in1 (ret Value.none) _ _ s'
  exact ag (hR s' ks (mv.mono sub1) (hS.at fun o e=>mv.heap S o hSw e) hm)
 | succ k ih=>
  intro i s ks hk hi hst hS hl hm hR
  have hlt:i<n:=by omega
  refine cg jBK ?_
  rw[cF jAF _]
  show wpAny _ A.in1 (pyNext (.ref I) >>= _) _ _ s
  refine aa (W.item i s _ _ hlt hst fun v s' hP hst' mv=>?_)
  obtain⟨t,rfl⟩:=hval i v hP
  have hS':=hS.at (h':=s'.heap) fun o e=>mv.heap S o hSw e
  show wpAny _ A.in1 (holding [Value.int (val i) t] (setAdd S (.int (val i) t)) >>= _) _ _ s'
  refine aa (bB ?_)
  unfold setAdd
  refine bB (aa (wpAny_pyHash_int ?_))
  refine jT2 (s:= { s' with toks:=s'.toks+1}) hS' (by omega) (hv i hlt).1 (hv i hlt).2 fun b h' ks' sb hS2 hm2 hl2=>?_
  refine ag ⟨gj jAF _,ih (i+1) _ ks' (by omega) hlt (W.frame _ s' _ _ hst' (fe _) fun b hb o e=>?_) hS2 (by omega) (fun z=>?_) fun s'' ks'' mv2 hS3 hm3=>?_⟩
  ·rw[sb.2 b (fun h:b=S=>hSf (by rw[<- h]; exact hb))]
   exact e
  ·rw[hm2,hm]
   constructor
   ·rintro (h | ⟨j,hj,e⟩)
    ·exact⟨i,by omega,h.symm⟩
    ·exact⟨j,by omega,e⟩
   ·rintro ⟨j,hj,e⟩
    by_cases hji:j=i
    ·exact .inl (by rw[<- e,hji])
    ·exact .inr ⟨j,by omega,e⟩
  ·refine hR s'' ks'' (Moved.trans W.gtrans ((mv.mono sub1).then_heap (fe _) fun b o hb e=>?_) mv2) hS3 hm3
   rw[sb.2 b (fun h:b=S=>hb (by rw[h]; exact az))]
   exact e
end
section
variable {prog:Program}{w:World}{A:Around}{E:Value->Shared->Prop}{s:Shared}
theorem jQC (a:Value){Q:Value->Shared->Prop}
  (h:Q (.ref s.heap.objs.size) { s with heap:=s.heap.push { cls:= .type "set",dict:=none,data:= .set #[] 0 (.fresh 0 0 (ledW w))}}):
  codeAny (model prog w) A (.call (.builtin "set.__new__") ⟨[.type "set",a],[]⟩) (wants Q E) s:=by
 refine codeAny_of_tree (show wpAny _ A.in1 (do checkBuiltinCall "set.__new__" ⟨[.type "set",a],[]⟩; again (.builtin "set.__new__" ⟨[.type "set",a],[]⟩)) _ _ s from ?_)
 refine aa (gY (F.newCall_set_1 a) (ag ⟨gj F.plain_set_new _,cg F.entry_set_new ?_⟩))
 rw[cF F.plain_set_new _]
 unfold Builtin.«set.__new__» Builtin.Frozenset.newClass
 have q:=sub_set_self
 obtain⟨hp,g,d,tk,os⟩:=s
 dsimp only
 wp_walk
 refine eL (ag ?_)
 dsimp only
 simp only [newObj]
 exact aa (wpAny_alloc (ag (ag h)))
set_option maxHeartbeats 3200000 in
theorem set_of_list {l:Addr}{items:Array Value}{ns:List Int}{Q:Value->Shared->Prop}(hh:A.handled=none)(hl:s.heap.IsList l items)(hi:PyProof.Rows.IntsAre items.toList ns)
  (hn:items.size<=4) (hv:∀ z∈ns,0<=z/\z<32)
  (h:∀ (h':Heap) (tk:Nat) (ks:List Int),SetG w h' s.heap.objs.size ks->(∀ z,z∈ks↔z∈ns)->(∀ b o,s.heap.get? b=some o->h'.get? b=some o)->Q (.ref s.heap.objs.size) { s with heap:=h',toks:=tk}):
  wpAny (model prog w) A (call (.type "set") [.ref l]) Q E s:=by
 obtain⟨c,tl,hmro⟩:=F.called_set.mro
 have hmade:=F.called_set.made
 have hsub:=F.called_set.sub
 have g1:=F.called_set.notType
 have g2:=F.called_set.canCreate
 have g3:=F.typeCall_set_1 (.ref l)
 refine eX (codeAny_of_tree (show wpAny _ _ (callAny (.type "set") _) _ _ _ from ?_))
 refine ag ⟨Code.quiet_builtin _ (by decide+kernel),cg F.entry_type_call ?_⟩
 rw[Around.under_plain (weight_type_call_type "set" [.ref l] []) rfl]
 repeat (any_goals (first | assumption | wp_step))
 have hlen:items.size=ns.length:=by rw[<- aO]; exact hi.length
 refine dy (jQC (.ref l) (E:=E) (Q:=fun obj z=>obj= .ref s.heap.objs.size/\z= { s with heap:=s.heap.push { cls:= .type "set",dict:=none,data:= .set #[] 0 (.fresh 0 0 (ledW w))}}) ⟨rfl,rfl⟩) fun r z hr=>?_
 cases r with
 | error e=>exact hr
 | ok fl=>
  cases fl with
  | ret obj=>
   obtain⟨rfl,rfl⟩:=hr
   generalize hO:({ cls:= .type "set",dict:=none,data:= .set #[] 0 (.fresh 0 0 (ledW w))} :Obj)=oS
   have hS:(s.heap.push oS).get? s.heap.objs.size=some oS:=am _ (by rw[<- hO]; rfl)
   have hT:Shared.TypeIs { s with heap:=s.heap.push oS} (.ref s.heap.objs.size) "set" :=⟨_,hS,by rw[<- hO]⟩
   have hli:=F.called_set.init.lookup
   have hbi:=F.called_set.init.bind (.ref s.heap.objs.size)
   repeat (any_goals (first | assumption | wp_step))
   refine dy (codeAny_call_builtin (R:=wants (fun r z2=>r= .none/\∃ h' tk ks,z2= { s with heap:=h',toks:=tk} /\SetG w h' s.heap.objs.size ks/\(∀ z,z∈ks↔z∈ns)/\(∀ b o,s.heap.get? b=some o->h'.get? b=some o)) E)
    F.called_set.init.plain F.entry_set_init (check_set_init_1 hT ?_)) fun r2 z2 hr2=>?_
   ·obtain⟨ol,hol,hcl,nl,hdl⟩:=hl
    obtain⟨ocls,odict,odata,oslots⟩:=ol
    simp only at hcl hdl
    subst hcl; subst hdl
    have hol':(s.heap.push oS).get? l=some { cls:= .type "list",dict:=odict,data:= .seq items nl,slots:=oslots} :=ae _ hol
    have y1:=F.sub_list_set
    have y2:=F.sub_list_frozenset
    have y3:(Value.type "list" ==Value.type "dict")=false:=by decide
    have hl1:(s.heap.push oS).IsList l items:=⟨_,hol',rfl,nl,rfl⟩
    subst hO
    unfold Builtin.«set.__init__» noKeywords Builtin.Frozenset.updateFrom
    generalize hPI:pyIter=PI
    wp_walk
    subst hPI
    refine dG hl1 (aa (fj ?_))
    have hlS:l<s.heap.objs.size:=ay hol
    have hz1:(s.heap.push { cls:= .type "set",dict:=none,data:= .set #[] 0 (.fresh 0 0 (ledW w))}).objs.size=s.heap.objs.size+1:=cx _ _
    have nI:l≠(s.heap.push { cls:= .type "set",dict:=none,data:= .set #[] 0 (.fresh 0 0 (ledW w))}).objs.size:=by
     rw[hz1]
     exact aR (cr hlS)
    have nS:s.heap.objs.size∉ [(s.heap.push { cls:= .type "set",dict:=none,data:= .set #[] 0 (.fresh 0 0 (ledW w))}).objs.size,l]:=by
     rw[hz1]
     simp only [aF,bQ,eD,not_or]
     exact⟨aR (fN _),dF hlS⟩
    have hget:((s.heap.push { cls:= .type "set",dict:=none,data:= .set #[] 0 (.fresh 0 0 (ledW w))}).push { cls:= .type "list_iterator",data:= .fields #[.ref l, .int 0 0]}).get? s.heap.objs.size
      =some { cls:= .type "set",dict:=none,data:= .set #[] 0 (.fresh 0 0 (ledW w))} :=ae _ hS
    refine jMW ((iY (by simp [hh]) _ l nI items).toS) s.heap.objs.size nS (fun i=>ns.getD i 0) (fun i v q=>PyProof.Rows.IntsAre.int_at hi i v (by rw[bC]; exact q))
     (fun i q=>hv _ ?_) hn (items.size - 0) 0 _ [] rfl (bo _) ⟨⟨_,am _ rfl,rfl,rfl⟩,hl1.push _⟩ ⟨⟨_,#[],0,_,hget,⟨rfl,rfl,rfl⟩,rfl, .nil,jKA _⟩,iF,bo _⟩ (ak _) (fun z=>⟨fun q=>by(cases q),fun ⟨j,q,_⟩=>absurd q (eU _)⟩) ?_
    ·have q':i<ns.length:=by rw[<- hlen]; exact q
     simp [List.getD,q']
    ·intro s' ks mv S' hm
     obtain⟨h',g',d',tk',os'⟩:=s'
     have e1:g'=s.gens:=mv.gens
     have e2:d'=s.drawn:=mv.drawn
     have e3:os'=s.os:=mv.os
     subst e1; subst e2; subst e3
     refine ag (ag ⟨rfl,h',tk',ks,rfl,S',fun z=>?_,fun b o e=>?_⟩)
     ·rw[hm]
      constructor
      ·rintro ⟨j,hj,e⟩
       have hj':j<ns.length:=by rw[<- hlen]; exact hj
       rw[<- e]
       simp [List.getD,hj']
      ·intro hz
       obtain⟨j,hj,e⟩:=dO hz
       exact⟨j,by rw[hlen]; exact hj,by simp [List.getD,hj,e]⟩
     ·have hb:=ay e
      refine mv.heap b o ?_ (ae _ (ae _ e))
      rw[hz1]
      simp only [aF,bQ,eD,not_or]
      exact⟨aR hb,aR (cr hb)⟩
   ·cases r2 with
    | error e=>exact hr2
    | ok fl2=>
     cases fl2 with
     | ret r=>
      obtain⟨rfl,h',tk,ks,rfl,hS',hm,hk⟩:=hr2
      repeat (any_goals (first | assumption | wp_step))
      exact h _ _ _ hS' hm hk
     | _=>exact hr2.elim
  | _=>exact hr.elim
end
theorem slot_si_next:Slot "set_iterator" "__next__" "set_iterator.__next__" :=
 .of (owner:= "set_iterator") (n:= "__next__") (by
   rw[iu,fJ]
   kernel_rfl) (by decide+kernel) (by decide+kernel)
  (by decide+kernel)
  (by first
   | exact .inl (by decide+kernel)
   | exact .inr (by decide+kernel))
  (by
   rw[iG]
   kernel_rfl)
theorem jCS:Slot "set_iterator" "__iter__" "set_iterator.__iter__" :=
 .of (owner:= "set_iterator") (n:= "__iter__") (by
   rw[iu,fJ]
   kernel_rfl) (by decide+kernel) (by decide+kernel)
  (by decide+kernel)
  (by first
   | exact .inl (by decide+kernel)
   | exact .inr (by decide+kernel))
  (by
   rw[iG]
   kernel_rfl)
theorem jCA:entryFor table "set_iterator.__next__" =some Builtin.«set_iterator.__next__»:=entryFor_of_tree (by kernel_rfl)
theorem jE4:entryFor table "set.__iter__" =some Builtin.«frozenset.__iter__»:=
 entryFor_alias (id':= "frozenset.__iter__") (by kernel_rfl) rfl (by decide+kernel) (by kernel_rfl)
theorem jFI:entryFor table "set_iterator.__iter__" =some Builtin.«dict_keyiterator.__iter__»:=
 entryFor_alias (id':= "dict_keyiterator.__iter__") (by kernel_rfl) (by first | rfl | decide+kernel | (unfold String.splitOn; simp+decide [String.splitOnAux])) (by decide+kernel)
  (by kernel_rfl)
theorem jCX (a:Value):argsOk "set_iterator.__next__" ⟨[a],[]⟩:=by unfold argsOk; kernel_rfl
theorem jGV (a:Value):argsOk "set_iterator.__iter__" ⟨[a],[]⟩:=by unfold argsOk; kernel_rfl
theorem jFN (a:Value):argsOk "set.__iter__" ⟨[a],[]⟩:=by unfold argsOk; kernel_rfl
abbrev byTxt (w:World):Bool:=w.params.followText "set-order"
abbrev IsSI (h:Heap)(I:Addr)(slot i:Nat)(a:Addr)(n ep:Nat):Prop:=
 h.get? I=some { cls:= .type "set_iterator",dict:=none,data:= .fields #[rawInt slot,rawInt i, .ref a,rawInt n,rawInt ep],slots:=#[]}
def yS (w:World)(t:SetTable)(i:Nat):Nat:=if byTxt w=true then 0 else jIC t.place i
def told (w:World)(a:Addr)(ep:Nat)(es:Array (Int×Value)):List Value:=(if byTxt w=true then (pickOrder (w.params.setOrder a ep) es).toList else es.toList).map (·.2)
theorem jAP (w:World)(a:Addr)(ep:Nat)(es:Array (Int×Value)):(told w a ep es).length=es.size:=by
 unfold told
 rw[af]
 split
 ·rw[(jG3 _ es).length_eq]; simp
 ·simp
theorem jK8 (w:World)(a:Addr)(ep:Nat)(es:Array (Int×Value)):(told w a ep es).Perm (es.toList.map (·.2)):=by
 unfold told
 split
 ·exact(jG3 _ es).map _
 ·exact .refl _
section
variable {prog:Program}{w:World}{A:Around}{E:Value->Shared->Prop}{s:Shared}{a I:Addr}{o:Obj}{es:Array (Int×Value)}{ep:Nat}{t:SetTable}
theorem jLA {i:Nat}{Q:Option (Value×Nat)->Shared->Prop}(ho:s.heap.get? a=some o)(hd:o.data= .set es ep t)(T:Tab t es.size (ledW w))(hn:es.size<=4)(hi:i<=es.size)
  (h:Q ((told w a ep es)[i]?.map fun v=>(v,yS w t (i+1))) s):wpAny (model prog w) A (setNext a (yS w t i) i ep) Q E s:=by
 unfold setNext
 refine aa (dh ho hd (T.fits hn) ?_)
 dsimp only
 unfold setsByText
 refine aa (aa (eL (ag ?_)))
 show wpAny _ A (if byTxt w=true then _ else _) Q E s
 have hl:=jAP w a ep es
 by_cases hb:byTxt w=true
 ·rw[aj hb,ah (by simp)]
  unfold setWalk
  refine aa (aa (dh ho hd (T.fits hn) ?_))
  dsimp only
  unfold setsByText
  refine aa (aa (eL (ag ?_)))
  show wpAny _ A (if byTxt w=true then _ else _) _ E s
  rw[aj hb]
  refine aa (eL (ag (ag ?_)))
  have e:(told w a ep es)[i]?.map (fun v=>(v,yS w t (i+1)))=(pickOrder (w.params.setOrder a ep) es)[i]?.map (fun e=>(e.snd,yS w t i)):=by
   unfold told yS
   rw[aj hb,aj hb,aj hb,bb,bC,Option.map_map]
   rfl
  rw[e] at h
  exact h
 ·rw[ah hb]
  have hb':byTxt w=false:=by simpa using hb
  have hld:t.led=true:=by rw[T.ld]; show (!byTxt w)=true; rw[hb']; rfl
  show wpAny _ A (if (!t.plain&&decide (es.size>1))=true then _ else _) Q E s
  rw[T.pl,iR,gJ,ah ai]
  refine aa ?_
  show wpAny _ A (if (!t.led&&!es.isEmpty)=true then _ else pure ()) _ E s
  rw[hld,iR,gJ,ah ai]
  refine ag (ag ?_)
  have eb:SetTable.below t.place (yS w t i)=i:=by
   unfold yS
   rw[ah hb]
   exact jGU T.ris (by rw[T.sz]; exact hi)
  rw[eb]
  have et:(told w a ep es)[i]?=es[i]?.map (·.2):=by
   unfold told
   rw[ah hb,bb,bC]
  rw[et] at h
  by_cases hlt:i<es.size
  ·have h1:es[i]?=some es[i]:=by simp [hlt]
   have hlt2:i<t.place.size:=by rw[T.sz]; exact hlt
   have h2:t.place[i]?=some t.place[i]:=by simp [hlt2]
   have h3:yS w t (i+1)=t.place[i]+1:=by
    unfold yS jIC
    rw[ah hb]
    simp [Array.getD,hlt2]
   rw[h1,h3] at h
   rw[h1,h2]
   exact h
  ·have h1:es[i]?=none:=by simp; omega
   rw[h1] at h
   rw[h1]
   exact h
theorem jG0 {i:Nat}{v:Value}{Q:Option Value->Shared->Prop}(ho:s.heap.get? a=some o)(hd:o.data= .set es ep t)(T:Tab t es.size (ledW w))(hn:es.size<=4)
  (hit:IsSI s.heap I (yS w t i) i a es.size ep) (hv:(told w a ep es)[i]?=some v)
  (hQ:∀ h',IsSI h' I (yS w t (i+1)) (i+1) a es.size ep->Heap.SameBut I s.heap h'->Q (some v) { s with heap:=h'}):wpAny (model prog w) A (pyNext (.ref I)) Q E s:=by
 have hT:s.TypeIs (.ref I) "set_iterator" :=⟨_,hit,rfl⟩
 have hi:i<es.size:=by
  rw[<- jAP w a ep es]
  exact(ar.mp hv).1
 unfold pyNext
 refine aa (dz (bZ (name:=Str.ofString "__next__") hT slot_si_next (bR slot_si_next hT jCA ?_ (jCX _))))
 unfold Builtin.«set_iterator.__next__»
 refine aa (m:=slotArgs "__next__" 0 _) (ag ?_)
 dsimp only
 unfold fieldsOf
 refine aa (aa (eV hit ?_))
 refine ag ?_
 dsimp only [rawInt]
 unfold setEntries
 refine aa (aa (dh ho hd (T.fits hn) (ag ?_)))
 rw[ah (by simp)]
 simp only [bE]
 refine aa (jLA ho hd T hn (cJ hi) ?_)
 rw[hv]
 dsimp only [Option.map]
 refine aa (cB hit (by simp) fun h1 hit1 sb1=>?_)
 refine aa (cB hit1 (by simp) fun h2 hit2 sb2=>?_)
 refine ag ⟨v,rfl,ag (hQ h2 ?_ (sb1.trans sb2))⟩
 show h2.get? I=_
 rw[hit2]
 simp [rawInt]
theorem jH4 {Q:Option Value->Shared->Prop}(hh:A.handled=none)(ho:s.heap.get? a=some o)(hd:o.data= .set es ep t)(T:Tab t es.size (ledW w))(hn:es.size<=4)
  (hit:IsSI s.heap I (yS w t es.size) es.size a es.size ep)
  (hQ:∀ h',Heap.ExtBut I s.heap h'->Q none { s with heap:=h'}):wpAny (model prog w) A (pyNext (.ref I)) Q E s:=by
 have hT:s.TypeIs (.ref I) "set_iterator" :=⟨_,hit,rfl⟩
 unfold pyNext
 refine aa (dz (bZ (name:=Str.ofString "__next__") hT slot_si_next (bR slot_si_next hT jCA ?_ (jCX _))))
 unfold Builtin.«set_iterator.__next__»
 refine aa (m:=slotArgs "__next__" 0 _) (ag ?_)
 dsimp only
 unfold fieldsOf
 refine aa (aa (eV hit ?_))
 refine ag ?_
 dsimp only [rawInt]
 unfold setEntries
 refine aa (aa (dh ho hd (T.fits hn) (ag ?_)))
 rw[ah (by simp)]
 simp only [bE]
 refine aa (jLA ho hd T hn (ak _) ?_)
 rw[cS (by rw[jAP]; exact ak _)]
 dsimp only [Option.map]
 refine aa (cB hit (by simp) fun h1 hit1 sb1=>?_)
 refine aa ?_
 simp only [newExc,newTuple]
 refine aa (bJ ?_ (by size_fits))
 refine aa (m:=firstArgMember _ _) (gY (a:=Value.none) (by first | rfl | (simp only [firstArgMember]; rfl)) ?_)
 refine bJ ?_ (by size_fits)
 simp only [raiseNew]
 refine aa (wpAny_handled ?_)
 rw[show A.in1.handled=none from hh]
 refine aa (ag (wpAny_throw ?_))
 refine aa (fQ (T:= "StopIteration") (b:=true) ⟨_,am _ rfl,rfl⟩ iH ?_)
 exact ag (hQ _ ((sb1.extBut.push _).push _))
theorem jP6 {i:Nat}{slot n:Nat}{Q:Value->Shared->Prop}(hit:IsSI s.heap I slot i a n ep)(h:Q (.ref I) s):wpAny (model prog w) A (pyIter (.ref I)) Q E s:=by
 have hT:s.TypeIs (.ref I) "set_iterator" :=⟨_,hit,rfl⟩
 refine wpAny_pyIter_slot hT jCS (bR jCS hT jFI ?_ (jGV _))
 show wpAny _ _ (ret (.ref I)) _ _ s
 exact ag ⟨_,rfl,"set_iterator",_,hT,slot_si_next.lookup,h⟩
theorem jMZ {Q:Value->Shared->Prop}(hx:o.ExactSet)(ho:s.heap.get? a=some o)(hd:o.data= .set es ep t)(T:Tab t es.size (ledW w))(hn:es.size<=4)
  (hQ:∀ h',h'.get? s.heap.objs.size=some { cls:= .type "set_iterator",dict:=none,data:= .fields #[rawInt (yS w t 0),rawInt 0, .ref a,rawInt es.size,rawInt ep],slots:=#[]} ->(∀ b u,s.heap.get? b=some u->h'.get? b=some u)->
   h'.objs.size=s.heap.objs.size+1->Q (.ref s.heap.objs.size) { s with heap:=h'}):wpAny (model prog w) A (pyIter (.ref a)) Q E s:=by
 have hT:s.TypeIs (.ref a) "set" :=⟨o,ho,hx.1⟩
 refine wpAny_pyIter_slot hT iA (bR iA hT jE4 ?_ (jFN _))
 unfold Builtin.«frozenset.__iter__»
 refine aa (show wpAny _ _ (pure a:Sem Addr) _ _ s from ag ?_)
 unfold Builtin.Frozenset.sizeOf setEntries
 refine aa (aa (aa (dh ho hd (T.fits hn) (ag (ag ?_)))))
 dsimp only
 unfold setDrawn
 refine aa (aa (dh ho hd (T.fits hn) ?_))
 dsimp only
 unfold setsByText
 refine aa (aa (eL (ag (ag ?_))))
 show wpAny _ _ (if (!byTxt w&&(!t.plain&&decide (es.size>1)))=true then _ else _) _ _ s
 rw[T.pl,iR,gJ,da,ah ai]
 refine aa (ag ?_)
 refine aa (wpAny_setEpoch_of ho hd (T.fits hn) ?_)
 refine aa (bJ (ag ⟨_,rfl,"set_iterator",_,⟨_,am _ rfl,rfl⟩,slot_si_next.lookup,hQ _ ?_ (fun b u e=>ae _ e) (cx _ _)⟩) (by size_fits))
 have e0:yS w t 0=0:=by unfold yS jIC; split <;> rfl
 rw[e0]
 exact am _ rfl
theorem jK4 (hh:A.handled=none)(hne:a≠I)(hd:o.data= .set es ep t)(T:Tab t es.size (ledW w))(hn:es.size<=4):
  Walks prog w A I [I,a] [I] es.size (fun i v=>(told w a ep es)[i]?=some v) (fun i h=>IsSI h I (yS w t i) i a es.size ep/\h.get? a=some o) where
 sub:=fun b hb=>by simp at hb; simp [hb]
 frame:=fun _ _ _ st hk=>⟨hk I (by simp) _ st.1,hk a (by simp) _ st.2⟩
 item:=fun i s Q E hi st hQ=>by
  obtain⟨v,hv⟩:∃ v,(told w a ep es)[i]?=some v:=⟨_,aB (by rw[jAP]; exact hi)⟩
  exact jG0 st.2 hd T hn st.1 hv fun h' hit' sb=>hQ v h' s.toks hv ⟨hit',(sb.2 a hne).trans st.2⟩ fun b o hb e=>(sb.2 b (fun z=>hb (by simp [z]))).trans e
 done:=fun s Q E st hQ=>jH4 hh st.2 hd T hn st.1 fun h' eb=>hQ h' s.toks fun b o hb e=>eb b o (fun z=>hb (by simp [z])) e
 self:=fun _ _ _ _ st hQ=>jP6 st.1 hQ
end
theorem jFY:typeLookup (.type "set") "__len__" =pure (some (.builtin "set.__len__")):=by rw[iu,fJ]; kernel_rfl
section
variable {prog:Program}{w:World}{A:Around}{E:Value->Shared->Prop}{s:Shared}{a:Addr}{o:Obj}{es:Array (Int×Value)}{ep:Nat}{t:SetTable}
theorem jNU {Q:Bool->Shared->Prop}(hT:s.TypeIs (.ref a) "set")(h:Q false s):wpAny (model prog w) A (Builtin.List.listLengthHint (.ref a)) Q E s:=by
 unfold Builtin.List.listLengthHint
 refine aa (wpAny_specialOf hT jFY ?_)
 generalize hid:("set.__len__" :String)=id0
 wp_delta
 rw[show splitId id0=some ("set","__len__") from by subst hid; decide+kernel]
 subst hid
 refine aa (fQ (b:=true) hT (by rw[iG]; kernel_rfl) ?_)
 refine wpAny_ite_split (fun q=>absurd q (by decide)) (fun _=>?_)
 refine wpAny_ite_split (fun _=>?_) (fun q=>absurd (by decide+kernel) q)
 exact aa (wpAny_typeOf hT (ag h))
theorem jHW {Q:List Value->Shared->Prop}(hh:A.handled=none)(hx:o.ExactSet)(ho:s.heap.get? a=some o)(hd:o.data= .set es ep t)(T:Tab t es.size (ledW w))(hn:es.size<=4)
  (hQ:∀ s',(∀ b u,s.heap.get? b=some u->s'.heap.get? b=some u)->s'.gens=s.gens->s'.drawn=s.drawn->s'.os=s.os->s.heap.objs.size<s'.heap.objs.size->Q (told w a ep es) s'):wpAny (model prog w) A (collect (.ref a)) Q E s:=by
 have ha:a<s.heap.objs.size:=ay ho
 have hSa:s.heap.objs.size≠a:=dF ha
 unfold collect
 refine aa (fj (cg PySem.F.entry_proto_collect ?_))
 rw[cF gH _]
 show wpAny _ A.in1 (newList [] >>= fun l=>again (.builtin "list.__iadd__" ⟨[l, .ref a],[]⟩)) _ _ s
 refine aa (bJ (ag ⟨gj dP _,cg PySem.F.entry_list_iadd ?_⟩))
 rw[cF dP _]
 generalize hE:({ s with heap:=s.heap.push { cls:= .type "list",dict:=none,data:= .seq ([]:List Value).toArray}} :Shared)=s1
 have ho1:s1.heap.get? a=some o:=by rw[<- hE]; exact ae _ ho
 have hL1:s1.heap.get? s.heap.objs.size=some { cls:= .type "list",dict:=none,data:= .seq ([]:List Value).toArray} :=by rw[<- hE]; exact am _ rfl
 have hz1:s1.heap.objs.size=s.heap.objs.size+1:=by rw[<- hE]; exact cx _ _
 have hT1:s1.TypeIs (.ref a) "set" :=⟨o,ho1,hx.1⟩
 show wpAny _ A.in1 (Builtin.List.listExtendWith (.ref s.heap.objs.size) (.ref a) (.ref s.heap.objs.size)) _ _ _
 unfold Builtin.List.listExtendWith
 refine aa (wpAny_typeOf hT1 ?_)
 have q1:Builtin.List.listSameRef (.ref s.heap.objs.size) (.ref a)=false:=by simp [Builtin.List.listSameRef,hSa]
 rw[ah (by rw[q1]; decide)]
 refine aa (jMZ hx ho1 hd T hn fun h2 hI2 k2 z2=>?_)
 refine aa (bB ?_)
 have ho2:h2.get? a=some o:=k2 _ _ ho1
 have hT2:Shared.TypeIs { s1 with heap:=h2} (.ref a) "set" :=⟨o,ho2,hx.1⟩
 have hL2:=k2 _ _ hL1
 refine jNU hT2 ?_
 rw[aj (by decide+kernel)]
 refine aa (cU ?_)
 have hne:s.heap.objs.size≠s1.heap.objs.size:=by omega
 refine aa ?_
 show wpAny _ A.in1 (updateSeq s.heap.objs.size (·.push .none) >>= fun _=>updateSeq s.heap.objs.size (·.pop)) _ _ _
 refine aa (wpAny_updateSeq hL2 rfl ?_)
 have hL3:=bL (Obj.mapSeq (·.push Value.none)) hL2 rfl
 refine wpAny_updateSeq hL3 rfl ?_
 have hL4:=bL (Obj.mapSeq (·.pop)) hL3 rfl
 have oth:∀ b u,b≠s.heap.objs.size->h2.get? b=some u->((h2.update s.heap.objs.size (Obj.mapSeq (·.push Value.none))).update s.heap.objs.size (Obj.mapSeq (·.pop))).get? b=some u:=
  fun b u hb e=>(bA _ _ (cY hb)).trans ((bA _ _ (cY hb)).trans e)
 have W:=(jK4 (prog:=prog) (A:=A.in1) (a:=a) (I:=s1.heap.objs.size) hh (aR (show a<s1.heap.objs.size by rw[hz1]; exact cr ha)) hd T hn).toS
 have z24:es.size<=sizeLine:=by rw[show sizeLine=2 ^ 24 from rfl]; omega
 refine ag ⟨gj PySem.F.plain_extend_loop _,codeAny_extend_loopS W z24 s.heap.objs.size (by simp [hne,hSa]) _ es.size 0 _ _ _ rfl (bo _) ⟨oth _ _ (cY hne) hI2,oth _ _ (cY hSa) ho2⟩ hL4 (ItemsOf.nil _) fun s' acc' c' hm hS' hacc=>?_⟩
 show wpAny _ A (load s.heap.objs.size >>= _) _ _ s'
 refine aa (eV hS' ?_)
 have eacc:acc'.toList=told w a ep es:=by
  apply List.ext_getElem?
  intro i
  by_cases hi:i<es.size
  ·have hi':i<acc'.size:=by rw[hacc.1]; exact hi
   have:=hacc.2 i acc'[i] (by simp [hi'])
   rw[this]
   simp [hi']
  ·rw[cS (by rw[aO,hacc.1]; omega),cS (by rw[jAP]; omega)]
 refine ag ?_
 rw[eacc]
 refine hQ s' (fun b u e=>?_) ?_ ?_ ?_ (ay hS')
 ·have hb:b≠s.heap.objs.size:=aR (ay e)
  have hb1:b≠s1.heap.objs.size:=aR (show b<s1.heap.objs.size by rw[hz1]; exact cr (ay e))
  exact hm.heap b u (by simp [hb,hb1]) (oth b u hb (k2 b u (by rw[<- hE]; exact ae _ e)))
 ·have:=hm.gens; rw[<- hE] at this; exact this
 ·have:=hm.drawn; rw[<- hE] at this; exact this
 ·have:=hm.os; rw[<- hE] at this; exact this
end
end SS
end
section
namespace SS
open PySem PyProof.Rows
section
variable {prog:Program}{w:World}{A:Around}{E:Value->Shared->Prop}{s:Shared}{a:Addr}{ks:List Int}
theorem jM0:∀ {vs:List Value}{ks:List Int},Paired (fun v k=>∃ t,v=Value.int k t) vs ks->IntsAre vs ks
 | _,_, .nil=> .nil
 | _,_, .cons ⟨t,e⟩ r=>by subst e; exact .cons _ t (jM0 r)
theorem jEF {es:List (Int×Value)} :∀ {ks:List Int},Paired El es ks->Paired (fun v k=>∃ t,v=Value.int k t) (es.map (·.2)) ks
 | _, .nil=> .nil
 | _, .cons ⟨_,q⟩ r=> .cons q (jEF r)
theorem jH9 {α β:Type}{F:α->β->Prop}{l l':List α}(p:l'.Perm l):∀ {r:List β},Paired F l r->∃ r',Paired F l' r'/\r'.Perm r:=by
 induction p with
 | nil=>intro r h; cases h; exact⟨[], .nil, .nil⟩
 | cons x _ ih=>
  intro r h
  cases h with
  | cons f t=>
   obtain⟨r',h1,h2⟩:=ih t
   exact⟨_::r', .cons f h1,h2.cons _⟩
 | swap x y l=>
  intro r h
  cases h with
  | cons f t=>
   cases t with
   | cons g t=>exact⟨_, .cons g (.cons f t), .swap _ _ _⟩
 | trans _ _ ih1 ih2=>
  intro r h
  obtain⟨r1,h1,h2⟩:=ih2 h
  obtain⟨r2,h3,h4⟩:=ih1 h1
  exact⟨r2,h3,h4.trans h2⟩
theorem sorted_set {Q:Value->Shared->Prop}(hh:A.handled=none)(S:SetG w s.heap a ks)
  (h:∀ (s':Shared) (l:Addr) (vs:List Value) (ns:List Int) (e:Nat),s.heap.objs.size<=l->(∀ b u,s.heap.get? b=some u->s'.heap.get? b=some u)->s'.gens=s.gens->s'.drawn=s.drawn->s'.os=s.os->
   s'.heap.get? l=some { cls:= .type "list",data:= .seq vs.toArray e} ->IntsAre vs ns->ns.Perm ks->ns.Pairwise (· <= ·)->Q (.ref l) s'):
  wpAny (model prog w) A (call (.builtin "sorted") [.ref a]) Q E s:=by
 obtain⟨o,es,ep,t,ho,hex,hd,hp,T⟩:=S.ex
 have hn:es.size<=4:=by
  have:=gb hp
  rw[aO] at this
  have:=S.len
  omega
 refine eO kind_sorted plain_sorted entry_sorted (args_sorted1 _) ?_
 unfold Builtin.«sorted»
 refine aa (m:=checkCount "sorted" 1 1 _) (ag ?_)
 refine aa (jHW (A:=A.in1) hh hex ho hd T hn fun s1 k1 g1 d1 o1 z1=>?_)
 refine aa (eS ?_ (by rw[jAP,show sizeLine=2 ^ 24 from rfl]; omega))
 obtain⟨ks1,hp1,pm1⟩:=jH9 (jK8 w a ep es) (jEF hp)
 have hI:=jM0 hp1
 have hl:(told w a ep es).length<64:=by rw[jAP]; omega
 have hL:(s1.heap.push (seqObj "list" (told w a ep es).toArray 0)).get? s1.heap.objs.size=some (seqObj "list" (told w a ep es).toArray 0):=am _ rfl
 show wpAny _ _ _ _ _ { s1 with heap:=s1.heap.push (seqObj "list" (told w a ep es).toArray 0)}
 refine aa (bB (bR gN ⟨_,hL,rfl⟩ gA (list_sort_tree hL hI hl fun out ns' a1 a2 a3=>⟨_,rfl,?_⟩) (args_list_sort _)))
 obtain⟨e,he⟩:=sortedHeap_at (out:=out) hL
 have kept:∀ b u,s.heap.get? b=some u->(sortedHeap (s1.heap.push (seqObj "list" (told w a ep es).toArray 0)) s1.heap.objs.size (told w a ep es) out).get? b=some u:=fun b u q=>by
  have q1:=k1 b u q
  have hb:b<s1.heap.objs.size:=ay q1
  rw[sortedHeap_old (aR hb) (by rw[size_push']; exact cr hb)]
  exact ae _ q1
 generalize sortedHeap (s1.heap.push (seqObj "list" (told w a ep es).toArray 0)) s1.heap.objs.size (told w a ep es) out=hf at he kept ⊢
 exact ag ⟨_,rfl,h { s1 with heap:=hf} s1.heap.objs.size out.toList ns' e (cJ z1) kept g1 d1 o1 (by rw[dI]; exact he) a1 (a2.trans pm1) a3⟩
end
end SS
end
section
namespace L2
open PySem PySem.Spec PyProof.Rows
section
variable {es:List Expr}{env:Env}{a b:Expr}{pos:Pos}{xs ys:List Expr}
theorem yH {op:Operator} :starEach (.BinOp a op b pos::es) env=(false,eval (.BinOp a op b pos) env)::starEach es env:=rfl
theorem se_un {op:UnaryOp} :starEach (.UnaryOp op a pos::es) env=(false,eval (.UnaryOp op a pos) env)::starEach es env:=rfl
theorem jOD {ops:List CmpOp} :starEach (.Compare a ops xs pos::es) env=(false,eval (.Compare a ops xs pos) env)::starEach es env:=rfl
theorem jI {kw:List Keyword} :starEach (.Call a xs kw pos::es) env=(false,eval (.Call a xs kw pos) env)::starEach es env:=rfl
theorem jZ:starEach (.Subscript a b pos::es) env=(false,eval (.Subscript a b pos) env)::starEach es env:=rfl
theorem kB {gs sc} :starEach (.ListComp a gs sc pos::es) env=(false,eval (.ListComp a gs sc pos) env)::starEach es env:=rfl
theorem yP {x1} :starEach (.Tuple xs x1 pos::es) env=(false,eval (.Tuple xs x1 pos) env)::starEach es env:=rfl
theorem jL {c k} :starEach (.Constant c k pos::es) env=(false,eval (.Constant c k pos) env)::starEach es env:=rfl
theorem j6 {x:Str} :starEach (.Name x pos::es) env=(false,eval (.Name x pos) env)::starEach es env:=rfl
end
section
variable {X:Cx}
def CDivL (i j:Int):Prop:=0<j/\j<2 ^ 64
theorem jII:OpR X (binaryOp .FloorDiv) (rI CDivL fun i j=> .int (i / j)):=opI fun i j _ _ _ _ _ hc q=>by
 have h1:(0:Int)<j:=hc.1
 have h2:j<2 ^ 64:=hc.2
 refine floordiv_int (by omega) (by rw[gK i (by omega)]; exact q) (.inl (PyProof.noPylong_of_log2 ?_))
 have h3:j.natAbs<2 ^ 64:=by omega
 have h4:j.natAbs≠0:=by omega
 have:=(Nat.log2_lt h4).mpr h3
 omega
theorem jAX:yO X (.builtin "isinstance") (fun xs H Q=>∃ x T t b,xs=[x, .ty T]/\TyOf X.K H x t/\kitOne X.K t (.type T)=some b/\Q (.bl b) H):=by
 intro pins s σ H xs us Q I r h
 obtain⟨x,T,t,b,rfl,ty,e,q⟩:=h
 obtain⟨u,v,rfl,ru,rv⟩:=r.two
 cases rv
 exact jLZ I ru ty e fun tk=>⟨.bl b,H,I.tok tk,rfl,q⟩
def jP8:V->List V->Hp->VK->Prop:=fun x vs H Q=>∃ l xs i y,x= .ref l/\vs=[.int i,y]/\H l=some (.lst xs)/\0<=i/\i<=xs.length/\xs.length<sizeLine/\Q .non (upd H l (.lst (xs.take i.toNat++y::xs.drop i.toNat)))
theorem Vals.put {y:V}{v:Value}(r:RelV y v){xs:List V}{us:List Value}(h:Vals xs us)(k:Nat):Vals (xs.take k++y::xs.drop k) (us.take k++v::us.drop k):=(h.take k).append (.cons r (h.drop k))
theorem jLB:MtM X "list.insert" jP8:=by
 intro pins s σ H x vs v us Q I rx rv h
 obtain⟨l,xs,i,y,rfl,rfl,hH,h0,h1,hz,q⟩:=h
 cases rx
 obtain⟨a,b,rfl,ra,rb⟩:=rv.two
 obtain⟨t,rfl⟩:=ra
 obtain⟨z,its,n,r,hl,e⟩:=I.lstM hH
 have line:=jG9
 have hf:Builtin.List.listFitsIndex i=true:=fitsIndex_both (by omega) (by omega)
 refine iW F.slot_list_insert ⟨_,e,rfl⟩ F.entry_list_insert (F.args_list_insert_3 _ _ _) (AutoSeq1.list_insert_list_int_val_1 l its.toArray n i t b (by simp [hf]) (by rw[ao]; omega)) ⟨e,?_⟩
 refine⟨.non,_,I.lset (its':=its.take i.toNat++b::its.drop i.toNat) hH e ?_ (Vals.put rb r i.toNat) ?_,rfl,q⟩
 ·have hk:(if i<0 then (i+(its.toArray.size:Int)).toNat else min i.toNat its.toArray.size)=i.toNat:=by
   rw[ah (by omega),ao]
   omega
  show (its.toArray.extract 0 (if i<0 then (i+(its.toArray.size:Int)).toNat else min i.toNat its.toArray.size)).push b++its.toArray.extract (if i<0 then (i+(its.toArray.size:Int)).toNat else min i.toNat its.toArray.size)=_
  rw[hk]
  apply Array.ext'
  simp [dB,bV]
 ·rw[aC,aQ,bD,fK]
  omega
def rEqE (K:W.Frag):R2:=fun x y H Q=>∃ p q xs,x= .ref p/\y= .ref q/\SqT K H p xs/\SqT K H q []/\Q (.bl (decide (xs=[]))) H
theorem jS5 (hu:X.A.units<cLine):OpR X (compareOp .Eq) (rEqE X.K):=by
 intro pins s σ H x y v u Q I rx ry h
 obtain⟨p,q,xs,rfl,rfl,hp,hq,k⟩:=h
 cases rx
 cases ry
 obtain⟨its,r,t1,_⟩:=I.tuple hp
 obtain⟨its2,r2,t2,_⟩:=I.tuple hq
 have e2:its2=[]:=r2.zero
 subst e2
 refine SeqAt.eq_tupleAt (e:=fun _=>true) (show s.heap.IsTuple p its.toArray from t1) (show s.heap.IsTuple q ([]:List Value).toArray from t2) hu (fun j h1 h2=>absurd h2 (by simp)) ⟨.bl _,H,I,rfl,?_⟩
 have hl:=r.length
 have e:((List.range (min its.toArray.size ([]:List Value).toArray.size)).all (fun _=>true)&&its.toArray.size==([]:List Value).toArray.size)=decide (xs=[]):=by
  cases xs with
  | nil=>
   have:its=[]:=by simpa using hl.symm
   subst this
   rfl
  | cons a b=>
   have:its.length≠0:=by rw[<- hl]; simp
   simp [this]
 rw[e]
 exact k
theorem jGK (hc:X.calm=true):yO X (.builtin "all") (fun xs H Q=>∃ (p:Addr) (bs:List Bool),xs=[.ref p]/\SqL X.K H p (bs.map V.bl)/\Q (.bl (bs.all id)) H):=by
 intro pins s σ H xs us Q I r h
 obtain⟨p,bs,rfl,hq,q⟩:=h
 obtain⟨u,rfl,rx⟩:=r.one
 cases rx
 obtain⟨its,r',pl,hz⟩:=I.list hq
 have hlen:=r'.length
 rw[af] at hlen
 refine call_all_walk (dG pl.isList ?_)
 have hne:p≠s.heap.objs.size:=by
  obtain⟨o,ho,_⟩:=pl.isList
  exact aR (ay ho)
 refine⟨s.heap.objs.size,_,_,_,_,_,fun i=>bs.getD i true,rfl,iY (by simpa using I.ok.hd hc) _ p hne its.toArray,⟨⟨_,am _ rfl,rfl,rfl⟩,pl.isList.push _⟩,fun i v z Q' E' hP hQ'=>?_,fun h' tk hk=>?_⟩
 ·have hi:its[i]?=some v:=by simpa using hP
  have hb:i<bs.length:=by
   rw[hlen]
   exact(ar.mp hi).1
  obtain⟨u,hu,ru⟩:=r'.get (i:=i) (x:= .bl (bs[i])) (by simp [hb])
  rw[hi] at hu
  cases hu
  cases ru
  have e:bs.getD i true=bs[i]:=by simp [List.getD,hb]
  have hQ2:Q' (bs.getD i true) z:=hQ'
  rw[e] at hQ2
  exact ag hQ2
 ·have e:(List.range its.toArray.size).all (fun i=>bs.getD i true)=bs.all id:=by
   rw[ao,<- hlen]
   rw[cc,cC,cC]
   constructor
   ·intro a b hb
    obtain⟨i,hi,rfl⟩:=dO hb
    have:=a i (bO.mpr hi)
    simpa [List.getD,hi] using this
   ·intro a i hi
    have hi:=bO.mp hi
    have:=a bs[i] (cV hi)
    simpa [List.getD,hi] using this
  rw[e]
  exact⟨.bl _,H,I.kept (t':=tk) fun b o e=>hk b o (by
   intro z
   have z:b=s.heap.objs.size:=by simpa using z
   exact absurd (ay e) (by rw[z]; exact cI _)) (ae _ e),rfl,q⟩
def jDV (n:Nat):List V:=(List.range n).map fun (i:Nat)=>V.int (i:Int)
theorem jJA {n:Nat}{acc:Array Value}(h:ItemsOf (fun i v=>∃ t,v=Value.int (0+(i:Int)*1) t) acc n):Vals (jDV n) acc.toList:=by
 have key:∀ (l:List Value) (k:Nat),(∀ j v,l[j]?=some v->∃ t,v=Value.int ((k+j:Nat):Int) t)->Vals ((List.range' k l.length).map fun (i:Nat)=>V.int (i:Int)) l:=by
  intro l
  induction l with
  | nil=>intro k _; exact .nil
  | cons v l ih=>
   intro k hk
   rw[aQ,List.range'_succ,bg]
   refine .cons ?_ (ih (k+1) fun j u hj=>?_)
   ·obtain⟨t,e⟩:=hk 0 v rfl
    exact⟨t,by simpa using e⟩
   ·obtain⟨t,e⟩:=hk (j+1) u (by simpa using hj)
    exact⟨t,by rw[e]; congr 1; omega⟩
 have:=key acc.toList 0 fun j v hj=>by
  obtain⟨t,e⟩:=h.2 j v (by simpa using hj)
  exact⟨t,by rw[e]; congr 1; omega⟩
 rw[aO,h.1] at this
 unfold jDV
 rw[List.range_eq_range']
 exact this
theorem jHX:yO X (.type "range") (fun xs H Q=>∃ j:Int,xs=[.int j]/\∀ p,H p=none->Q (.ref p) (upd H p (.rng 0 j))):=by
 intro pins s σ H xs us Q I r h
 obtain⟨j,rfl,q⟩:=h
 obtain⟨u,rfl,t,rfl⟩:=r.one
 refine call_range_1 ⟨.ref s.heap.objs.size,_,I.laid (o:= .rng 0 j) (fun b o e=>ae _ e) (ak _) ?_,rfl,q _ I.fresh⟩
 exact⟨_,_,_,am _ rfl⟩
theorem jGJ (hc:X.calm=true):yO X (.type "list") (fun xs H Q=>∃ p j,xs=[.ref p]/\H p=some (.rng 0 j)/\0<=j/\j<=1000/\∀ l,H l=none->Q (.ref l) (upd H l (.lst (jDV j.toNat)))):=by
 intro pins s σ H xs us Q I r h
 obtain⟨p,j,rfl,hp,h0,h1,q⟩:=h
 obtain⟨u,rfl,rx⟩:=r.one
 cases rx
 obtain⟨t,u,v,e⟩:=I.hok p _ hp
 have en:Builtin.Range.rangeSize 0 j 1=(j.toNat:Int):=by
  rw[rangeSize_one]
  split <;> omega
 refine call_list_range (I.ok.hd hc) (show IsRange s.heap p 0 j 1 t u v from e) (small_one (by omega) (by omega) (by omega) (by omega)) en (by omega) fun h' tk acc' c' kp hS hacc=>?_
 refine⟨.ref s.heap.objs.size,_,I.laid (t':=tk) (o:= .lst (jDV j.toNat)) kp (ak _) ?_,rfl,q _ I.fresh⟩
 refine⟨?_,acc'.toList,c',jJA hacc,by rw[dI]; exact hS⟩
 unfold jDV
 rw[af,di,eg]
 omega
def SetO (w:World)(a:Addr)(ks:List Int):HO:= .ext fun h=>SS.SetG w h a ks
theorem jCR {ns:List Int} :∀ {us:List Value},Vals (ns.map V.int) us->IntsAre us ns:=by
 induction ns with
 | nil=>intro us h; cases h; exact .nil
 | cons n ns ih=>
  intro us h
  cases h with
  | cons r t=>
   obtain⟨k,rfl⟩:=r
   exact .cons n k (ih t)
theorem jAC:∀ {us:List Value}{ns:List Int},IntsAre us ns->Vals (ns.map V.int) us
 | _,_, .nil=> .nil
 | _,_, .cons n t r=> .cons ⟨t,rfl⟩ (jAC r)
theorem jMJ (hc:X.calm=true):yO X (.type "set") (fun xs H Q=>∃ (p:Addr) (ns:List Int),xs=[.ref p]/\SqL X.K H p (ns.map V.int)/\ns.length<=4/\(∀ z∈ns,0<=z/\z<32)/\
  ∀ (l:Addr) (ks:List Int),H l=none->(∀ z,z∈ks↔z∈ns)->Q (.ref l) (upd H l (SetO X.w l ks))):=by
 intro pins s σ H xs us Q I r h
 obtain⟨p,ns,rfl,hq,hl,hv,q⟩:=h
 obtain⟨u,rfl,rx⟩:=r.one
 cases rx
 obtain⟨its,r',pl,hz⟩:=I.list hq
 have hlen:=r'.length
 rw[af] at hlen
 refine SS.set_of_list (I.ok.hd hc) pl.isList (jCR r') (by rw[ao]; omega) hv fun h' tk ks S hm kp=>?_
 have hg:∃ o,h'.get? s.heap.objs.size=some o:=let ⟨o,_,_,_,e,_⟩:=S.ex; ⟨o,e⟩
 exact⟨.ref s.heap.objs.size,_,I.laid (t':=tk) (o:=SetO X.w s.heap.objs.size ks) kp (ak _) ⟨S,hg,fun h1 h2 a b=>a.at b⟩,rfl,q _ ks I.fresh hm⟩
theorem jE5 (hc:X.calm=true):yO X (.builtin "sorted") (fun xs H Q=>∃ (p:Addr) (ks:List Int),xs=[.ref p]/\H p=some (SetO X.w p ks)/\
  ∀ (l:Addr) (ns:List Int),H l=none->ns.Pairwise (· < ·)->(∀ z,z∈ns↔z∈ks)->Q (.ref l) (upd H l (.lst (ns.map V.int)))):=by
 intro pins s σ H xs us Q I r h
 obtain⟨p,ks,rfl,hp,q⟩:=h
 obtain⟨u,rfl,rx⟩:=r.one
 cases rx
 obtain⟨S,_,_⟩:=I.hok p _ hp
 refine SS.sorted_set (I.ok.hd hc) S fun s' l vs ns e hl kp g d o he hi pm srt=>?_
 obtain⟨h',g',d',t',o'⟩:=s'
 have g:g'=s.gens:=g
 have o:o'=s.os:=o
 have d:d'=s.drawn:=d
 subst g; subst o; subst d
 have nd:ns.Nodup:=pm.nodup_iff.mpr S.nd
 have lt:ns.Pairwise (· < ·):=by
  have:=List.Pairwise.and srt nd
  exact this.imp fun {a b} ⟨x,y⟩=>by omega
 have hz:(ns.map V.int).length<=sizeLine:=by
  rw[af,pm.length_eq,eg]
  have:=S.len
  omega
 have I2:Inv X pins σ (upd H l (.lst (ns.map V.int))) { s with heap:=h',toks:=t'} :=I.laid (t':=t') kp hl ⟨hz,vs,e,jAC hi,he⟩
 exact⟨.ref l,_,I2,rfl,q l ns (I.hok.fresh hl) lt fun z=>pm.mem_iff⟩
end
section
variable {X:Cx}{p1 p2 p3 p4 p5 p6 p7:Pos}{k1 k2 k3 k4:Nat}
theorem jPR {i j r:Int}(hj:0<=j)(hj2:j<=1000000)(hi:i.natAbs<2 ^ 64)(e:i ^ j.toNat=r):PE X (.BinOp (.Constant (.int i) k2 p2) .Pow (.Constant (.int j) k3 p3) p4) (tC (.int r)):=fun pins s σ H Q I h=>
 (kG (X:=X) jKY jM jM) pins s σ H Q I ⟨_,_,rfl,rfl,⟨hj,hj2,hi⟩,by subst e; exact h⟩
theorem jPS {a b:Expr}{i j r:Int}(ha:PE X a (tC (.int i)))(hb:PE X b (tC (.int j)))(hc:CMul i j)(e:i*j=r):PE X (.BinOp a .Mult b p1) (tC (.int r)):=fun pins s σ H Q I h=>
 (kG (X:=X) jCV ha hb) pins s σ H Q I ⟨_,_,rfl,rfl,hc,by subst e; exact h⟩
theorem jPV {a b:Expr}{i j r:Int}(ha:PE X a (tC (.int i)))(hb:PE X b (tC (.int j)))(e:i+j=r):PE X (.BinOp a .Add b p1) (tC (.int r)):=fun pins s σ H Q I h=>
 (kG (X:=X) kY ha hb) pins s σ H Q I ⟨_,_,rfl,rfl,by subst e; exact h⟩
theorem jS2:PE X (.BinOp (.BinOp (.Constant (.int 2) k1 p1) .Mult (.BinOp (.Constant (.int 10) k2 p2) .Pow (.Constant (.int 12) k3 p3) p4) p5) .Add (.Constant (.int 1) k4 p6) p7) (tC (.int 2000000000001)):=
 jPV (i:=2000000000000) (jPS (j:=1000000000000) jM (jPR (by decide) (by decide) (by decide) (by decide)) (.inl ⟨by decide,by decide⟩) (by decide)) jM (by decide)
end
def ItAt (tp:Bool)(h:Heap)(it a:Addr)(i:Nat):Prop:=match tp with
 | false=>h.IsListIter it a i
 | true=>h.IsTupleIter it a i
def ObAt (tp:Bool)(h:Heap)(a:Addr)(xs:Array Value):Prop:=match tp with
 | false=>h.IsList a xs
 | true=>h.IsTuple a xs
theorem ItAt.but {tp:Bool}{h h':Heap}{it a b:Addr}{i:Nat}(x:ItAt tp h it a i)(e:Heap.ExtBut b h h')(n:it≠b):ItAt tp h' it a i:=by
 cases tp with
 | false=>exact Heap.IsListIter.extBut x e n
 | true=>exact Heap.IsTupleIter.extBut x e n
theorem ItAt.at {tp:Bool}{h h':Heap}{it a:Addr}{i:Nat}(x:ItAt tp h it a i)(e:∀ o,h.get? it=some o->h'.get? it=some o):ItAt tp h' it a i:=by
 cases tp with
 | false=>exact Heap.IsListIter.at x e
 | true=>exact Heap.IsTupleIter.at x e
theorem ItAt.obj {tp:Bool}{h:Heap}{it a:Addr}{i:Nat}(x:ItAt tp h it a i):∃ o,h.get? it=some o/\∀ v,o.data≠ .cell v:=by
 cases tp with
 | false=>obtain⟨o,e,_,d⟩:=x; exact⟨o,e,fun v q=>by rw[d] at q; cases q⟩
 | true=>obtain⟨o,e,_,d⟩:=x; exact⟨o,e,fun v q=>by rw[d] at q; cases q⟩
section
variable {prog:Program}{w:World}{A:Around}{E:Value->Shared->Prop}{s:Shared}
theorem next1 {tp:Bool}{it a:Addr}{i:Nat}{xs:Array Value}{x:Value}{Q:Value->Shared->Prop}(hi:ItAt tp s.heap it a i)(ha:ObAt tp s.heap a xs)(hx:xs[i]?=some x)
  (k:∀ h',ItAt tp h' it a (i+1)->Heap.SameBut it s.heap h'->Q x { s with heap:=h'}):wpAny (model prog w) A (Builtin.SmallTypes.nextOf (.ref it)) Q E s:=by
 cases tp with
 | false=>exact wpAny_nextOf_list_item hi ha hx k
 | true=>
  obtain⟨o,e,c,d⟩:=id (show s.heap.IsTupleIter it a i from hi)
  obtain⟨u,eu,_,n,du⟩:=(show s.heap.IsTuple a xs from ha)
  have ty:=Heap.IsTupleIter.typeIs (show s.heap.IsTupleIter it a i from hi)
  unfold Builtin.SmallTypes.nextOf
  refine aa (bZ (name:=Str.ofString "__next__") ty F.slot_tuple_iterator_next (bR F.slot_tuple_iterator_next ty F.entry_tuple_iterator_next (?_:wpAny (model prog w) _ (field (.ref it) 0 >>= _) _ _ s) (F.args_tuple_iterator_next_1 _)))
  refine aa (bM e d (x:= .ref a) rfl (?_:wpAny (model prog w) _ (if (Value.ref a==Value.none)=true then _ else _) _ _ s))
  rw[ah (by exact ai)]
  show wpAny (model prog w) _ (field (.ref it) 1 >>= _) _ _ s
  refine aa (bM e d (x:= .int i 0) rfl ?_)
  show wpAny (model prog w) _ (seqItems? (.ref a) >>= _) _ _ s
  refine aa (wpAny_seqItems eu du ?_)
  simp only [bE,hx]
  refine aa (eE e d (by simp) (ag ⟨x,rfl,ag (k _ ⟨_,bL _ e (Obj.isFreed_of_fields (Obj.data_mapFields d _)),(Obj.cls_mapFields ..).trans c,?_⟩ (gE ..))⟩))
  rw[Obj.data_mapFields d]
  simp [rawInt]
theorem next0 {tp:Bool}{it a:Addr}{i:Nat}{xs:Array Value}{Q:Value->Shared->Prop}(hh:A.handled=none)(hi:ItAt tp s.heap it a i)(ha:ObAt tp s.heap a xs)(hx:xs[i]?=none)
  (k:∀ h' e,Heap.ExtBut it s.heap h'->(∃ o,h'.get? e=some o/\o.cls= .type "StopIteration")->E (.ref e) { s with heap:=h'}):wpAny (model prog w) A (Builtin.SmallTypes.nextOf (.ref it)) Q E s:=by
 cases tp with
 | false=>exact wpAny_nextOf_list_end hh hi ha hx k
 | true=>
  obtain⟨o,e,c,d⟩:=id (show s.heap.IsTupleIter it a i from hi)
  obtain⟨u,eu,_,n,du⟩:=(show s.heap.IsTuple a xs from ha)
  have ty:=Heap.IsTupleIter.typeIs (show s.heap.IsTupleIter it a i from hi)
  unfold Builtin.SmallTypes.nextOf
  refine aa (bZ (name:=Str.ofString "__next__") ty F.slot_tuple_iterator_next (bR F.slot_tuple_iterator_next ty F.entry_tuple_iterator_next (?_:wpAny (model prog w) _ (field (.ref it) 0 >>= _) _ _ s) (F.args_tuple_iterator_next_1 _)))
  refine aa (bM e d (x:= .ref a) rfl (?_:wpAny (model prog w) _ (if (Value.ref a==Value.none)=true then _ else _) _ _ s))
  rw[ah (by exact ai)]
  show wpAny (model prog w) _ (field (.ref it) 1 >>= _) _ _ s
  refine aa (bM e d (x:= .int i 0) rfl ?_)
  show wpAny (model prog w) _ (seqItems? (.ref a) >>= _) _ _ s
  refine aa (wpAny_seqItems eu du ?_)
  simp only [bE,hx]
  refine aa (cU (aa (eE e d (by simp) (?_:wpAny (model prog w) _ (newExc (.type "StopIteration") [] >>= _) _ _ _))))
  refine aa (by
   simp only [newExc,newTuple]
   refine aa (bJ (aa (m:=firstArgMember _ _) (gY (a:=Value.none) (by first | rfl | (simp only [firstArgMember]; rfl)) (bJ ?_ (by size_fits)))) (by size_fits))
   simp only [raiseNew]
   refine aa (wpAny_handled ?_)
   first | rw[show A.in1.handled=none from hh] | rw[hh]
   exact aa (ag (wpAny_throw (k _ _ (((gE ..).extBut.push _).push _) ⟨_,am _ rfl,rfl⟩))))
end
def iterO (tp:Bool)(a:Addr):Obj:=match tp with
 | false=> { cls:= .type "list_iterator",data:= .fields #[.ref a, .int 0 0]}
 | true=> { cls:= .type "tuple_iterator",data:= .fields #[.ref a, .int 0 0]}
theorem jJU (tp:Bool)(a:Addr):(iterO tp a).isFreed=false:=by cases tp <;> rfl
theorem jEX {prog:Program}{w:World}{A:Around}{E:Value->Shared->Prop}{s:Shared}{tp:Bool}{a:Addr}{xs:Array Value}{Q:Value->Shared->Prop}(h:ObAt tp s.heap a xs)(q:Q (.ref s.heap.objs.size) { s with heap:=s.heap.push (iterO tp a)}):
  wpAny (model prog w) A (pyIter (.ref a)) Q E s:=by
 cases tp with
 | false=>exact dG h q
 | true=>exact wpAny_pyIter_tuple h q
theorem ItAt.new (tp:Bool){h:Heap}{it a:Addr}(e:h.get? it=some (iterO tp a)):ItAt tp h it a 0:=by
 cases tp with
 | false=>exact⟨_,e,rfl,rfl⟩
 | true=>exact⟨_,e,rfl,rfl⟩
section
variable {X:Cx}
def Sq (tp:Bool)(K:W.Frag)(H:Hp)(a:Addr)(xs:List V):Prop:=match tp with
 | false=>SqL K H a xs
 | true=>SqT K H a xs
theorem Inv.sq {X:Cx}{pins:List (Addr×Obj)}{σ:St}{H:Hp}{s:Shared}{tp:Bool}{a:Addr}{xs:List V}(I:Inv X pins σ H s)(h:Sq tp X.K H a xs):∃ its:List Value,Vals xs its/\ObAt tp s.heap a its.toArray/\xs.length<=sizeLine:=by
 cases tp with
 | false=>
  obtain⟨its,r,p,z⟩:=I.list h
  exact⟨its,r,p.isList,z⟩
 | true=>exact I.tuple h
theorem Inv.sq_inj {X:Cx}{pins:List (Addr×Obj)}{σ:St}{H:Hp}{s:Shared}{tp:Bool}{a:Addr}{xs ys:List V}(I:Inv X pins σ H s)(h:Sq tp X.K H a xs)(h':Sq tp X.K H a ys):xs=ys:=by
 cases tp with
 | false=>exact I.list_inj h h'
 | true=>exact I.tuple_inj h h'
end
structure JE (X:Cx)(e:Expr)(t:TE):Prop where
 h:PE X e t
structure JA (X:Cx)(es:List Expr)(t:TA):Prop where
 h:PA X es t
structure JT (X:Cx)(e:Expr)(t:TT):Prop where
 h:PT X e t
structure JTs (X:Cx)(e:List Expr)(t:TT):Prop where
 h:PTs X e t
structure JS (X:Cx)(e:Stmt)(t:TS):Prop where
 h:PS X e t
structure JSs (X:Cx)(e:List Stmt)(t:TS):Prop where
 h:PSs X e t
structure JG (X:Cx)(e:Expr)(t:TG):Prop where
 h:PG X e t
structure JGs (X:Cx)(e:List Expr)(t:TGs):Prop where
 h:PGs X e t
structure JI (X:Cx)(tg e:Expr)(t:TI):Prop where
 h:PI X tg e t
structure JO (X:Cx)(e:Option Expr)(t:TO):Prop where
 h:PO X e t
structure Loc1 (X:Cx)(x:Str):Prop where
 a:Loc X.env.scope x
 b:X.fn x=true\/X.env.scope.names.lookup x=some .local
structure Vis1 (X:Cx)(x:Str):Prop where
 a:Vis X.env.scope x
structure Gl1 (X:Cx)(x:Str):Prop where
 a:Gl X x
section
variable {a b:Expr}{pos:Pos}{xs:List Expr}{o:Option Expr}{l:Nat}{env:Env}
structure SwOk (e:Expr)(o:Option Expr):Prop where
 h:∀ l env,swapsWith e o l env=pure false
theorem jDD {op:Operator} :SwOk (.BinOp a op b pos) o:=⟨fun _ _=>rfl⟩
theorem jRE {ops:List CmpOp} :SwOk (.Compare a ops xs pos) o:=⟨fun _ _=>rfl⟩
theorem kS {kw:List Keyword} :SwOk (.Call a xs kw pos) o:=⟨fun _ _=>rfl⟩
theorem jI6:SwOk (.Subscript a b pos) o:=⟨fun _ _=>rfl⟩
theorem jKE {x1} :SwOk (.Tuple xs x1 pos) o:=⟨fun _ _=>rfl⟩
theorem jFS:SwOk (.List xs pos) o:=⟨fun _ _=>rfl⟩
theorem jI7 {c k} :SwOk (.Constant c k pos) o:=⟨fun _ _=>rfl⟩
theorem jRL {op:Operator} :jB4 (.BinOp a op b pos):=fun _ _=>rfl
theorem jH7 {kw:List Keyword} :jB4 (.Call a xs kw pos):=fun _ _=>rfl
theorem jG {i:Int}{k} :jB4 (.Constant (.int i) k pos):=fun _ _=>rfl
theorem jH6 {x:Str} :jB4 (.Name x pos):=fun _ _=>rfl
theorem jRK:jB4 (.Subscript a b pos):=fun _ _=>rfl
structure FoOk (iter:Expr):Prop where
 h:∀ env x,foldedSetIterable iter env x=pure x
theorem yG {kw:List Keyword} :FoOk (.Call a xs kw pos):=⟨fun _ _=>rfl⟩
theorem jCL {x:Str} :FoOk (.Name x pos):=⟨fun _ _=>rfl⟩
theorem jJ2:FoOk (.Subscript a b pos):=⟨fun _ _=>rfl⟩
structure TvOk (e:Expr):Prop where
 h:∀ env whole,isTrue e env whole=(do let v <- whole; standAt e.pos; holding [v] (truthy v))
theorem jDC {kw:List Keyword} :TvOk (.Call a xs kw pos):=⟨fun _ _=>rfl⟩
theorem jP3 {x:Str} :TvOk (.Name x pos):=⟨fun _ _=>rfl⟩
end
section
variable {X:Cx}{a b e o:Expr}{ta tb te to:TE}{es:List Expr}{t:TA}{pos p p2 cpos apos:Pos}{x:Str}{T:String}{id:String}
theorem jv (i:Nat)(hN:X.N[i]?=some x)(hv:Vis1 X x)(hd:(x==("__debug__" :Str))=false:=by decide)(hcd:(x==("__classdict__" :Str))=false:=by decide):JE X (.Name x pos) (tVar i):=⟨jKW hN hv.a hd hcd⟩
theorem je_int {i j} :JE X (.Constant (.int i) j pos) (tC (.int i)):=⟨jM⟩
theorem je_bl {i j} :JE X (.Constant (.bool i) j pos) (tC (.bl i)):=⟨pe_bl⟩
theorem yZ {j} :JE X (.Constant .none j pos) (tC .non):=⟨jS0⟩
theorem jSP {i j} :JE X (.Constant (.str i) j pos) (tC (.str i)):=⟨jRX⟩
theorem jDS {v:V}{u:Value}(hg:Gl1 X x)(hm:X.mg x=none)(hv:bootBuiltins x=some u)(r:RelV v u)(hn:x≠ "__name__" :=by decide)(hd:(x==("__debug__" :Str))=false:=by decide):JE X (.Name x pos) (tC v):=⟨jPW hg.a hm hv r hn hd⟩
theorem kN {op:Operator}{r:R2}(ho:OpR X (binaryOp op) r)(ha:JE X a ta)(hb:JE X b tb):JE X (.BinOp a op b pos) (tOp r ta tb):=⟨kG ho ha.h hb.h⟩
theorem je_un {op:UnaryOp}{r:V->Hp->VK->Prop}(ho:UnR X (unaryOp op) r)(ha:JE X a ta):JE X (.UnaryOp op a pos) (tUn r ta):=⟨pe_un ho ha.h⟩
theorem jOR (ha:JE X a ta):JE X (.UnaryOp .Not a pos) (tNotV ta):=⟨jRZ ha.h⟩
theorem jAH {op:CmpOp}{r:R2}(ho:OpR X (compareOp op) r)(ha:JE X a ta)(hb:JE X b tb)(hm:behindInMarks op b=false):JE X (.Compare a [op] [b] pos) (tOp r ta tb):=⟨jPT ho ha.h hb.h hm⟩
theorem jGC {rest:List Expr}(ha:JE X a ta)(hb:JE X (.BoolOp .And (b::rest) pos) tb):JE X (.BoolOp .And (a::b::rest) pos) (tAndV ta tb):=⟨jS3 ha.h hb.h⟩
theorem jGB {op}(ha:JE X a ta):JE X (.BoolOp op [a] pos) ta:=⟨jRY ha.h⟩
theorem jLT (h:JA X es t):JE X (.List es pos) (tLst t):=⟨jIG h.h⟩
theorem jIW {x1}(h:JA X es t):JE X (.Tuple es x1 pos) (tTup t):=⟨jRW h.h⟩
theorem jIX {lo hi:Option Expr}{tl th:TO}{r:V->Option Int->Option Int->Hp->VK->Prop}(hr:SlR X r)(he:JE X e te)(hl:JO X lo tl)(hu:JO X hi th):JE X (.Subscript e (.Slice lo hi none p2) pos) (tSl r te tl th):=⟨jN6 hr he.h hl.h hu.h⟩
theorem jU {r:R2}(hr:IxR X r)(ha:JE X a ta)(hb:JE X b tb)(hs:jB4 b):JE X (.Subscript a b pos) (tOp r ta tb):=⟨pe_ix hr ha.h hb.h hs⟩
theorem kO {T}{r:List V->Hp->VK->Prop}(hc:yO X (.type T) r)(hg:Gl1 X x)(hm:X.mg x=none)(hv:bootBuiltins x=some (.type T))(ha:JA X (e::es) t)(he:starEach (e::es) X.env=(false,eval e X.env)::starEach es X.env)(hn:x≠ "__name__" :=by decide)(hdb:(x==("__debug__" :Str))=false:=by decide)
  (hpl:(backTo pos (starEach es X.env)).any (·.1)=false:=by rfl):JE X (.Call (.Name x p) (e::es) [] pos) (tCB r t):=⟨jC1 hc hg.a hm hv ha.h hn hdb he hpl⟩
theorem jH {id}{r:List V->Hp->VK->Prop}(hc:yO X (.builtin id) r)(hg:Gl1 X x)(hm:X.mg x=none)(hv:bootBuiltins x=some (.builtin id))(ha:JA X (e::es) t)(he:starEach (e::es) X.env=(false,eval e X.env)::starEach es X.env)(hn:x≠ "__name__" :=by decide)(hdb:(x==("__debug__" :Str))=false:=by decide)
  (hpl:(backTo pos (starEach es X.env)).any (·.1)=false:=by rfl):JE X (.Call (.Name x p) (e::es) [] pos) (tCB r t):=⟨jF1 hc hg.a hm hv ha.h hn hdb he hpl⟩
theorem j9:JA X [] tNil:=⟨yA⟩
theorem j4 (ha:JE X e te)(hr:JA X es t)(hs:starEach (e::es) X.env=(false,eval e X.env)::starEach es X.env):JA X (e::es) (tCons te t):=⟨jV ha.h hr.h hs⟩
theorem jP {op:CmpOp}{r:R2}(ho:OpR X (compareOp op) r)(ha:JE X a ta)(hb:JE X b tb)(hm:behindInMarks op b=false):JT X (.Compare a [op] [b] pos) (tTest (tOp r ta tb)):=⟨jDE ho ha.h hb.h hm⟩
theorem jEI (h:JE X e te)(he:TvOk e):JT X e (tB te):=⟨jRO h.h (he.h _)⟩
theorem jGA {tA:TT}(ha:JT X a tA):JT X (.UnaryOp .Not a pos) (tNot tA):=⟨jRP ha.h⟩
theorem yB:JTs X [] yR:=⟨jKN⟩
theorem jHE {t:TT}(h:JT X e t):JTs X [e] t:=⟨jKM h.h⟩
theorem jY {i:Nat}(hN:X.N.Nodup)(hi:X.N[i]?=some x)(hx:Loc1 X x):JG X (.Name x pos) (kZ i):=⟨jF0 hN hi hx.a hx.b⟩
theorem jC7 {tg:Expr}(hg:Gl1 X "range")(hm:X.mg "range" =none)(ha:JA X [a] t)(hs:starEach [a] X.env=(false,eval a X.env)::starEach [] X.env):JI X tg (.Call (.Name "range" p) [a] [] pos) (iRng1 t):=⟨jC0 hg.a hm ha.h hs⟩
theorem jAV {tg:Expr}(hl:JE X a ta):JI X tg a (iList X.K ta):=⟨jPK hl.h⟩
theorem jDQ {tg:Expr}(hl:JE X a ta):JI X tg a (iTup X.K ta):=⟨jRT hl.h⟩
theorem jLQ:JO X none jKC:=⟨jPH⟩
theorem jLP (h:JE X e te):JO X (some e) (tPart te):=⟨jPG h.h⟩
theorem jO {i:Nat}{pos':Pos}(hN:X.N.Nodup)(hi:X.N[i]?=some x)(hx:Loc1 X x)(he:JE X e te)(hs:SwOk e (some (.Name x pos'))):JS X (.Assign [.Name x pos'] e pos) (tAsg te (kZ i)):=⟨yX hN hi hx.a he.h (hs.h _ _) hx.b⟩
theorem jW (he:JE X e te):JS X (.Return (some e) pos) (tRet te):=⟨jCT he.h⟩
theorem jHF (he:JE X e te)(hs:SwOk e none):JS X (.Expr e pos) (tDrop te):=⟨jPD he.h (hs.h _ _)⟩
theorem kJ:JSs X [] tNext:=⟨jEZ⟩
theorem jF {st:Stmt}{t:TS}(h1:JS X st t):JSs X [st] t:=⟨jAS h1.h⟩
theorem jE {st:Stmt}{rest:List Stmt}{t u:TS}(h1:JS X st t)(h2:JSs X rest u):JSs X (st::rest) (tSeq t u):=⟨kQ h1.h h2.h⟩
theorem yI {c:Expr}{a b:List Stmt}{tc:TT}{t u:TS}(hc:JT X c tc)(ha:JSs X a t)(hb:JSs X b u):JS X (.If c a b pos) (tIfS tc t u):=⟨ps_if hc.h ha.h hb.h⟩
theorem jEJ {tg iter:Expr}{body:List Stmt}{wi:TI}{g:TG}{tb:TS}(hp:PassesOwn (model X.prog X.w) X.A X.env X.xe)(hc:X.calm=true)(hi:JI X tg iter wi)(hg:JG X tg g)(hb:JSs X body tb)(hs:FoOk iter):JS X (.For tg iter body [] pos) (tFor wi g tb):=⟨jOE hp hc hi.h hg.h hb.h (hs.h _)⟩
theorem je_bm {T:String}{name:Str}{r}(pa:PlainAttrs T)(slot:Slot T name id)(hty:typeOf (.builtin id)=pure (.type "method_descriptor"))(hm:MtR X id r)(ho:JE X o to)(ha:JA X (e::es) t)
  (hs:starEach (e::es) X.env=(false,eval e X.env)::starEach es X.env)
  (hbase:attributeBase o name X.env (eval o X.env)=eval o X.env:=by rfl)
  (hfew:((backTo cpos (starEach (e::es) X.env)).all (fun x=>!x.1)&&(backToKw cpos (keywordEach [] X.env)).all (fun x=>x.1.isSome)
   &&decide ((e::es).length+([]:List Keyword).length+(if ([]:List Keyword).isEmpty then 0 else 1)<30))=true:=by rfl)
  (hline:(apos.endLine==cpos.line)=true:=by rfl) (hplain:(backTo cpos (starEach es X.env)).any (·.1)=false:=by rfl):
  JE X (.Call (.Attribute o name apos) (e::es) [] cpos) (tBM X.K T r to t):=⟨pe_bm pa slot hty hm ho.h ha.h hbase hfew hline hs hplain⟩
theorem yC {tg iter elt:Expr}{ifs:List Expr}{sc:Scope}{wi:TI}{g:TG}{tt:TT}{m:List (Option Nat)}{Nc:List Str}(hc:X.calm=true)(hi:JI X tg iter wi)(hkind:sc.kind= .function)(hcell:∀ y∈sc.names,y.2≠ .cell)(hnames:∀ y∈sc.names,y.2= .local->sc.names.lookup y.1=some .local)
  (hfree:∀ y∈sc.names,y.2= .free->X.env.scope.names.lookup y.1=some .cell\/X.env.scope.names.lookup y.1=some .free) (hm:jBL X sc Nc m)
  (hg:∀ cl C fp s H,JG (blk X sc cl C Nc fp s H) tg g) (ht:∀ cl C fp s H,JTs (blk X sc cl C Nc fp s H) ifs tt) (he:∀ cl C fp s H,JE (blk X sc cl C Nc fp s H) elt te)
  (hs:FoOk iter):JE X (.ListComp elt [⟨tg,iter,ifs,0⟩] sc pos) (tComp m wi g tt te):=⟨jH8 hc hi.h hkind hcell hnames hfree hm (fun cl C fp s H=>(hg cl C fp s H).h) (fun cl C fp s H=>(ht cl C fp s H).h) (fun cl C fp s H=>(he cl C fp s H).h) (hs.h _)⟩
theorem jSR {p1 p2 p3 p4 p5 p6 p7:Pos}{k1 k2 k3 k4:Nat} :JE X (.BinOp (.BinOp (.Constant (.int 2) k1 p1) .Mult (.BinOp (.Constant (.int 10) k2 p2) .Pow (.Constant (.int 12) k3 p3) p4) p5) .Add (.Constant (.int 1) k4 p6) p7) (tC (.int 2000000000001)):=⟨jS2⟩
end
section
variable {P:Program}{w:World}{K:W.Frag}{mg:Str->Option Value}{base:Heap}{N:List Str}{qual:Str}{sc:Scope}{f:Addr}{cdv:Value}{A:Around}{outer:List Env}{s:Shared}{H:Hp}{E:XK}{x:Str}
theorem gl_d (h:sc.names.lookup x=some .globalImplicit):Gl1 (cxOf CX0 P w K mg base N qual sc f cdv A outer s H E).nox x:=⟨h⟩
theorem gD (h:sc.names.lookup x=some .globalImplicit:=by decide+kernel):Gl1 (cxOf CX0 P w K mg base N qual sc f cdv A outer s H E).nox x:=gl_d h
theorem vis_l (h:sc.names.lookup x=some .local):Vis1 (cxOf CX0 P w K mg base N qual sc f cdv A outer s H E).nox x:=⟨.inl h⟩
theorem vL (h:sc.names.lookup x=some .local:=by decide+kernel):Vis1 (cxOf CX0 P w K mg base N qual sc f cdv A outer s H E).nox x:=vis_l h
theorem vis_c (h:sc.names.lookup x=some .cell):Vis1 (cxOf CX0 P w K mg base N qual sc f cdv A outer s H E).nox x:=⟨.inr (.inl h)⟩
theorem vC (h:sc.names.lookup x=some .cell:=by decide+kernel):Vis1 (cxOf CX0 P w K mg base N qual sc f cdv A outer s H E).nox x:=vis_c h
end
theorem jAA {env:Env}{x:Str}{k:NameKind}(hk:k≠ .free):∀ {l:List (Str×NameKind)},l.lookup x=some k->
  (l.map fun (n,k)=>if (k==NameKind.free&&env.scope.kind== .function&&env.kindOf n==some .cell) then (n,NameKind.cell) else (n,k)).lookup x=some k
 | [],h=>by cases h
 | (n,k')::r,h=>by
  have ih:= @jAA env x k hk r
  rw[bu] at h
  rw[bg]
  dsimp only
  by_cases hb:(k'==NameKind.free&&env.scope.kind== .function&&env.kindOf n==some .cell)=true
  ·rw[aj hb,bu]
   cases hx:x==n with
   | true=>
    rw[hx] at h
    have e:k'=k:=bh h
    simp only [eJ] at hb
    exact absurd (e.symm.trans (eq_of_beq hb.1.1)) hk
   | false=>rw[hx] at h; exact ih h
  ·rw[ah hb,bu]
   cases hx:x==n with
   | true=>rw[hx] at h; exact h
   | false=>rw[hx] at h; exact ih h
section
variable {X:Cx}{sc:Scope}{cl:List (Str×Addr)}{C:Addr}{Nc:List Str}{fp:List Addr}{s:Shared}{H:Hp}{x:Str}
theorem gl_b (h:sc.names.lookup x=some .globalImplicit):Gl1 (blk X sc cl C Nc fp s H) x:=⟨jAA (by decide) h⟩
theorem kX (h:sc.names.lookup x=some .local):Vis1 (blk X sc cl C Nc fp s H) x:=⟨.inl (jAA (by decide) h)⟩
theorem jBT (h:sc.names.lookup x=some .free):Vis1 (blk X sc cl C Nc fp s H) x:=⟨.inr (jBB h)⟩
theorem yY (h:sc.names.lookup x=some .local):Loc1 (blk X sc cl C Nc fp s H) x:=⟨.inl (jAA (by decide) h), .inr (jAA (by decide) h)⟩
end
section
variable {P:Program}{w:World}{K:W.Frag}{mg:Str->Option Value}{base:Heap}{N:List Str}{qual:Str}{sc:Scope}{f:Addr}{cdv:Value}{A:Around}{outer:List Env}{s:Shared}{H:Hp}{E:XK}{x:Str}
theorem loc_l (h:sc.names.lookup x=some .local):Loc1 (cxOf CX0 P w K mg base N qual sc f cdv A outer s H E).nox x:=⟨.inl h, .inl rfl⟩
theorem lL (h:sc.names.lookup x=some .local:=by decide+kernel):Loc1 (cxOf CX0 P w K mg base N qual sc f cdv A outer s H E).nox x:=loc_l h
theorem loc_c (h:sc.names.lookup x=some .cell):Loc1 (cxOf CX0 P w K mg base N qual sc f cdv A outer s H E).nox x:=⟨.inr h, .inl rfl⟩
end
structure JW (X:Cx)(e:Expr)(t:TT):Prop where
 h:PW X e t
section
variable {X:Cx}{a b:Expr}{rest:List Expr}{pos:Pos}{tA tB':TT}
theorem jLM (ha:JT X a tA):JW X (.BoolOp .And [a] pos) tA:=⟨jPA ha.h⟩
theorem jIV (ha:JT X a tA):JW X (.BoolOp .Or [a] pos) tA:=⟨jRM ha.h⟩
theorem jOQ (ha:JT X a tA)(hb:JW X (.BoolOp .And (b::rest) pos) tB'):JW X (.BoolOp .And (a::b::rest) pos) (tAnd tA tB'):=⟨jRN ha.h hb.h⟩
theorem jw_or (ha:JT X a tA)(hb:JW X (.BoolOp .Or (b::rest) pos) tB'):JW X (.BoolOp .Or (a::b::rest) pos) (tOr tA tB'):=⟨pw_or ha.h hb.h⟩
theorem jt_w (h:JW X a tA):JT X a tA:=⟨h.h.pt⟩
theorem jHI:JGs X [] gNil:=⟨jPN⟩
structure AsOk (e:Expr):Prop where
 h:∀ es env,assignEach (e::es) env=(false,assign e env)::assignEach es env
theorem jCQ {x:Str} :AsOk (.Name x pos):=⟨fun _ _=>rfl⟩
theorem jBA {e:Expr}{es:List Expr}{t:TG}{u:TGs}(h1:JG X e t)(h2:JGs X es u)(hs:AsOk e):JGs X (e::es) (gCons t u):=⟨jN4 h1.h h2.h (by rw[hs.h]; rfl)⟩
theorem jLS {es:List Expr}{k:Nat}{t:TGs}{n:Nat}(hc:X.calm=true)(h:JGs X es t)(hn:(assignEach es X.env).length=n:=by rfl)(hst:(assignEach es X.env).findIdx? (·.1)=none:=by rfl):JG X (.Tuple es k pos) (gTup X.K n t):=⟨jRU hc h.h hn hst⟩
theorem jL9 {op:CmpOp}{x:Str} :behindInMarks op (.Name x pos)=false:=by cases op <;> rfl
end
theorem jDR {X:Cx}{sc:Scope}{cl:List (Str×Addr)}{C:Addr}{Nc:List Str}{fp:List Addr}{s:Shared}{H:Hp}{x y:Str}{p1 p2 pos:Pos}{k:Nat}{i j:Nat}(hc:X.calm=true)(hN:Nc.Nodup)(hi:Nc[i]?=some x)(hj:Nc[j]?=some y)(hx:sc.names.lookup x=some .local)(hy:sc.names.lookup y=some .local):
  JG (blk X sc cl C Nc fp s H) (.Tuple [.Name x p1, .Name y p2] k pos) (gTup X.K 2 (gCons (kZ i) (gCons (kZ j) gNil))):=
 jLS (X:=blk X sc cl C Nc fp s H) hc (jBA (jY hN hi (yY hx)) (jBA (jY hN hj (yY hy)) jHI jCQ) jCQ)
section
variable {K:W.Frag}{m:List (Option Nat)}{g:TG}{tt:TT}{te:TE}{σ:St}{H1:Hp}{Q:VK}
end
section
variable {X:Cx}{sc:Scope}{cl:List (Str×Addr)}{C:Addr}{Nc:List Str}{fp:List Addr}{s:Shared}{H:Hp}
theorem jL0:OpR (blk X sc cl C Nc fp s H) (compareOp .In) (rIn X.K false):=jDH
theorem jIY:IxR (blk X sc cl C Nc fp s H) (rIxT X.K):=jR
end
def Ext (H H':Hp):Prop:=∀ b o,H b=some o->H' b=some o
theorem Ext.refl (H:Hp):Ext H H:=fun _ _ h=>h
theorem Ext.trans {H H1 H2:Hp}(a:Ext H H1)(b:Ext H1 H2):Ext H H2:=fun c o h=>b c o (a c o h)
theorem Ext.new {H H1:Hp}{l:Addr}(a:Ext H H1)(hl:H1 l=none)(o:HO):Ext H (upd H1 l o):=fun c u h=>by
 have:=a c u h
 rw[jA (jB this hl)]
 exact this
theorem Ext.updNew {H H1:Hp}{l:Addr}(a:Ext H H1)(hl:H l=none)(o:HO):Ext H (upd H1 l o):=fun c u h=>by
 rw[jA (jB h hl)]
 exact a c u h
def TupR (H:Hp)(xs:List V)(Q:VK):Prop:=∀ r H',H' r=some (.tup xs)->Ext H H'->Q (.ref r) H'
theorem TupR.new {H:Hp}{xs:List V}{Q:VK}(q:TupR H xs Q){p:Addr}(hp:H p=none):Q (.ref p) (upd H p (.tup xs)):=q p _ j8 ((Ext.refl H).new hp _)
theorem TupR.old {H:Hp}{xs:List V}{Q:VK}(q:TupR H xs Q){p:Addr}(hp:H p=some (.tup xs)):Q (.ref p) H:=q p H hp (Ext.refl H)
section
variable {X:Cx}
def rCatU:R2:=fun x y H Q=>∃ a b xs ys,x= .ref a/\y= .ref b/\H a=some (.tup xs)/\H b=some (.tup ys)/\xs.length+ys.length<=sizeLine/\TupR H (xs++ys) Q
theorem jDI:OpR X (binaryOp .Add) rCatU:=by
 intro pins s σ H x y v u Q I rx ry h
 obtain⟨a,b,xs,ys,rfl,rfl,ha,hb,hz,q⟩:=h
 by_cases hx:xs=[]
 ·subst hx
  cases rx
  cases ry
  obtain⟨_,its,r1,n1,e1⟩:=I.hok a _ ha
  obtain⟨_,its2,r2,n2,e2⟩:=I.hok b _ hb
  cases r1
  exact concat_meets ⟨_,e1,rfl⟩ ⟨_,e2,rfl⟩ h9 seq_tuple_add fh e9 (eR _ _) (AutoSeq1.tuple___add___tuple_tuple_0 a _ n1 b its2.toArray n2 (by simp)) ⟨e1,e2, .ref b,H,I,rfl,q.old hb⟩
 ·refine jPZ pins s σ H _ _ v u Q I rx ry ⟨a,b,xs,ys,rfl,rfl,SqT.of ha,SqT.of hb,hx,hz,fun e=>?_,fun _ p hp=>q.new hp⟩
  subst e
  rw[aV] at q
  exact q.old ha
section
variable (l:Addr)(items:Array Value)(n:Nat)(x:Int)(u:Tok)(h1:¬ (decide (x< -(2 ^ 63)) || decide (x ≥ 2 ^ 63))=true)
include h1
end
theorem Inv.big' {pins:List (Addr×Obj)}{σ:St}{H:Hp}{s:Shared}(I:Inv X pins σ H s):sysModules<s.heap.objs.size:=gG (by decide) (I.mod.glob.keeps I.bk).lt
def jRA:TE:=fun _ H Q=>∀ p,H p=none->Q (.ref p) (upd H p (.dK []))
theorem jNP {pos:Pos} :JE X (.Dict [] [] pos) jRA:=⟨fun pins s σ H Q I h=>
 wpAny_Dict_empty ⟨.ref s.heap.objs.size,_,I.laid (a:=s.heap.objs.size) (o:= .dK []) (t':=s.toks) (fun _ _ q=>ae _ q) (ak _)
  ⟨bo _,dv.mpr (cY (aR I.big')),[], .nil,Heap.DictOf.new s.heap⟩,rfl,h _ (I.hok.fresh (ak _))⟩⟩
theorem yM {x:Str}{v:V}{u:Value}{pos:Pos}(hg:Gl1 X x)(hm:X.mg x=some u)(r:RelV v u)(hd:(x==("__debug__" :Str))=false:=by decide):JE X (.Name x pos) (tC v):=⟨jPO hg.a hm r hd⟩
theorem jSN {tg e:Expr}{te:TE}{g:TG}{pos:Pos}(he:JE X e te)(hg:JG X tg g)(hs:swapsWithSole [tg] e pos.line X.env=pure false:=by rfl)(hw:swappedStores [tg] e X.env=pure none:=by rfl)
  (h1:(assignEach [tg] X.env).map (·.2)=[assign tg X.env]:=by rfl):JS X (.Assign [tg] e pos) (tAsg te g):=⟨jOF he.h hg.h hs hw h1⟩
end
section
variable {K:W.Frag}{m:List (Option Nat)}{g:TG}{tt:TT}{te:TE}{σ:St}{H1:Hp}{Q:VK}
theorem jD5 {a:Addr}{xs:List V}(hn:xs.length<sizeLine)(Pv:Addr->Nat->St->Hp->List V->Prop)(h0:∀ D,H1 D=none->Pv D 0 (blkσ m σ) (upd H1 D (.lst [])) [])
  (hD:∀ D i σ' H' zs,H1 D=none->Pv D i σ' H' zs->H' a=some (.tup xs)/\H' D=some (.lst zs)/\zs.length<=i)
  (hs:∀ D i σ' H' zs x,H1 D=none->xs[i]?=some x->Pv D i σ' H' zs->g x σ' H' fun σ2 H2=>tt σ2 H2 fun b H3=>if b=true then te σ2 H3 fun v H4=>H4 D=some (.lst zs)/\Pv D (i+1) σ2 (upd H4 D (.lst (zs++[v]))) (zs++[v]) else Pv D (i+1) σ2 H3 zs)
  (hd:∀ D σ' H' zs,H1 D=none->Pv D xs.length σ' H' zs->Q (.ref D) H'):CompW m g tt te σ Q (Itt K a) H1:=by
 intro D hDn
 refine⟨fun i k σ' H' zs=>k=xs.length - i/\i<=xs.length/\Pv D i σ' H' zs,⟨_,rfl,bo _,h0 D hDn⟩,?_⟩
 rintro i k σ' H' zs ⟨rfl,hi,p⟩
 obtain⟨s1,q1,q2⟩:=hD D i σ' H' zs hDn p
 refine⟨q1,by omega,?_⟩
 by_cases hlt:i<xs.length
 ·refine .inr ⟨⟨xs,xs[i],SqT.of s1,by simp [hlt]⟩,Pv D (i+1),fun σ2 H2 zs z=>⟨xs.length - (i+1),by omega,rfl,hlt,z⟩,fun v H'' y=>?_⟩
  obtain⟨e1,e2⟩:=y
  subst e1
  exact hs D i σ' _ zs v hDn (e2 xs (SqT.of s1)) p
 ·have e:i=xs.length:=by omega
  subst e
  exact .inl ⟨⟨xs,SqT.of s1,ak _⟩,hd D σ' H' zs hDn p⟩
end
inductive Tr where
 | non
 | bl (b:Bool)
 | int (i:Int)
 | str (x:Str)
 | lst (ts:List Tr)
 | tup (ts:List Tr)
mutual
def TAt (H:Hp):Tr->V->Prop
 | .non,v=>v= .non
 | .bl b,v=>v= .bl b
 | .int i,v=>v= .int i
 | .str x,v=>v= .str x
 | .lst ts,v=>∃ a vs,v= .ref a/\H a=some (.lst vs)/\TsAt H ts vs
 | .tup ts,v=>∃ a vs,v= .ref a/\H a=some (.tup vs)/\TsAt H ts vs
def TsAt (H:Hp):List Tr->List V->Prop
 | [],vs=>vs=[]
 | t::ts,vs=>∃ v r,vs=v::r/\TAt H t v/\TsAt H ts r
end
mutual
def dep:Tr->Nat
 | .lst ts=>deps ts+1
 | .tup ts=>deps ts+1
 | _=>0
def deps:List Tr->Nat
 | []=>0
 | t::ts=>max (dep t) (deps ts)
end
mutual
def eqT:Tr->Tr->Bool
 | .non, .non=>true
 | .bl a, .bl b=>a==b
 | .bl a, .int b=>(if a then 1 else 0)==b
 | .int a, .bl b=>a==(if b then 1 else 0)
 | .int a, .int b=>a==b
 | .str a, .str b=>a==b
 | .lst a, .lst b=>eqTs a b
 | .tup a, .tup b=>eqTs a b
 | _,_=>false
def eqTs:List Tr->List Tr->Bool
 | [],[]=>true
 | a::as,b::bs=>eqT a b&&eqTs as bs
 | _,_=>false
end
mutual
theorem jFH:∀ t:Tr,eqT t t=true
 | .non=>by simp [eqT]
 | .bl b=>by simp [eqT]
 | .int i=>by simp [eqT]
 | .str x=>by simp [eqT]
 | .lst ts=>by rw[eqT]; exact jB2 ts
 | .tup ts=>by rw[eqT]; exact jB2 ts
theorem jB2:∀ ts:List Tr,eqTs ts ts=true
 | []=>by simp [eqTs]
 | t::ts=>by rw[eqTs,jFH t,jB2 ts]; rfl
end
mutual
theorem TAt.ext {H H':Hp}(e:Ext H H'):∀ {t:Tr}{v:V},TAt H t v->TAt H' t v
 | .non,_,h=>h
 | .bl _,_,h=>h
 | .int _,_,h=>h
 | .str _,_,h=>h
 | .lst ts,_,⟨a,vs,q,h,r⟩=>⟨a,vs,q,e _ _ h,TsAt.ext e r⟩
 | .tup ts,_,⟨a,vs,q,h,r⟩=>⟨a,vs,q,e _ _ h,TsAt.ext e r⟩
theorem TsAt.ext {H H':Hp}(e:Ext H H'):∀ {ts:List Tr}{vs:List V},TsAt H ts vs->TsAt H' ts vs
 | [],_,h=>h
 | t::ts,_,⟨v,r,q,h,s⟩=>⟨v,r,q,TAt.ext e h,TsAt.ext e s⟩
end
mutual
theorem TAt.inj {H:Hp} :∀ {t u:Tr}{v:V},TAt H t v->TAt H u v->t=u
 | .non,u,_,h,h'=>by
  cases (show _=V.non from h)
  cases u with
  | non=>rfl
  | bl b=>cases (show V.non=_ from h')
  | int b=>cases (show V.non=_ from h')
  | str b=>cases (show V.non=_ from h')
  | lst ts=>obtain⟨_,_,q,_⟩:=h'; cases q
  | tup ts=>obtain⟨_,_,q,_⟩:=h'; cases q
 | .bl b,u,_,h,h'=>by
  cases (show _=V.bl b from h)
  cases u with
  | non=>cases (show V.bl b=_ from h')
  | bl b=>cases (show V.bl _=V.bl b from h'); rfl
  | int i=>cases (show V.bl b=V.int i from h')
  | str i=>cases (show V.bl b=V.str i from h')
  | lst ts=>obtain⟨_,_,q,_⟩:=h'; cases q
  | tup ts=>obtain⟨_,_,q,_⟩:=h'; cases q
 | .int b,u,_,h,h'=>by
  cases (show _=V.int b from h)
  cases u with
  | non=>cases (show V.int b=_ from h')
  | bl i=>cases (show V.int b=V.bl i from h')
  | int b=>cases (show V.int _=V.int b from h'); rfl
  | str i=>cases (show V.int b=V.str i from h')
  | lst ts=>obtain⟨_,_,q,_⟩:=h'; cases q
  | tup ts=>obtain⟨_,_,q,_⟩:=h'; cases q
 | .str b,u,_,h,h'=>by
  cases (show _=V.str b from h)
  cases u with
  | non=>cases (show V.str b=_ from h')
  | bl i=>cases (show V.str b=V.bl i from h')
  | int i=>cases (show V.str b=V.int i from h')
  | str b=>cases (show V.str _=V.str b from h'); rfl
  | lst ts=>obtain⟨_,_,q,_⟩:=h'; cases q
  | tup ts=>obtain⟨_,_,q,_⟩:=h'; cases q
 | .lst ts,u,_,⟨a,vs,q,h,r⟩,h'=>by
  subst q
  cases u with
  | non=>cases (show V.ref a=_ from h')
  | bl i=>cases (show V.ref a=V.bl i from h')
  | int i=>cases (show V.ref a=V.int i from h')
  | str i=>cases (show V.ref a=V.str i from h')
  | lst us=>
   obtain⟨a',vs',q',h2,r'⟩:=h'
   cases q'
   rw[h] at h2
   cases h2
   rw[TsAt.inj r r']
  | tup us=>
   obtain⟨a',vs',q',h2,r'⟩:=h'
   cases q'
   rw[h] at h2
   cases h2
 | .tup ts,u,_,⟨a,vs,q,h,r⟩,h'=>by
  subst q
  cases u with
  | non=>cases (show V.ref a=_ from h')
  | bl i=>cases (show V.ref a=V.bl i from h')
  | int i=>cases (show V.ref a=V.int i from h')
  | str i=>cases (show V.ref a=V.str i from h')
  | lst us=>
   obtain⟨a',vs',q',h2,r'⟩:=h'
   cases q'
   rw[h] at h2
   cases h2
  | tup us=>
   obtain⟨a',vs',q',h2,r'⟩:=h'
   cases q'
   rw[h] at h2
   cases h2
   rw[TsAt.inj r r']
theorem TsAt.inj {H:Hp} :∀ {ts us:List Tr}{vs:List V},TsAt H ts vs->TsAt H us vs->ts=us
 | [],us,_,h,h'=>by
  cases (show _=[] from h)
  cases us with
  | nil=>rfl
  | cons u us=>obtain⟨_,_,q,_⟩:=h'; cases q
 | t::ts,us,_,⟨v,r,q,h,s⟩,h'=>by
  subst q
  cases us with
  | nil=>cases (show v::r=[] from h')
  | cons u us=>
   obtain⟨v',r',q,h2,s2⟩:=h'
   cases q
   rw[TAt.inj h h2,TsAt.inj s s2]
end
theorem TsAt.len {H:Hp} :∀ {ts:List Tr}{vs:List V},TsAt H ts vs->vs.length=ts.length
 | [],_,h=>by cases (show _=[] from h); rfl
 | t::ts,_,⟨v,r,q,_,s⟩=>by rw[q,aQ,aQ,TsAt.len s]
theorem TsAt.get {H:Hp} :∀ {ts:List Tr}{vs:List V},TsAt H ts vs->∀ {i:Nat}{v:V},vs[i]?=some v->∃ t,ts[i]?=some t/\TAt H t v
 | [],_,h,i,v,e=>by cases (show _=[] from h); cases e
 | t::ts,_,⟨v,r,q,h,s⟩,0,v',e=>by subst q; cases e; exact⟨t,rfl,h⟩
 | t::ts,_,⟨v,r,q,h,s⟩,i+1,v',e=>by subst q; exact TsAt.get s (i:=i) e
theorem jDY:∀ ts us:List Tr,eqTs ts us=((List.range (min ts.length us.length)).all (fun j=>eqT (ts.getD j .non) (us.getD j .non))&&ts.length==us.length)
 | [],[]=>by simp [eqTs]
 | [],u::us=>by simp [eqTs]
 | t::ts,[]=>by simp [eqTs]
 | t::ts,u::us=>by
  rw[eqTs,jDY ts us,aQ,aQ,show min (ts.length+1) (us.length+1)=min ts.length us.length+1 by omega,List.range_succ_eq_map,gd,all_map]
  have e:(ts.length+1==us.length+1)=(ts.length==us.length):=by
   rw[cc]
   simp
  rw[e,Bool.and_assoc]
  rfl
theorem jHQ {ts:List Tr}{t:Tr}(h:t∈ts):dep t<=deps ts:=by
 induction ts with
 | nil=>cases h
 | cons a r ih=>
  rw[deps]
  rcases aF.mp h with q | q
  ·subst q; omega
  ·have:=ih q; omega
def flatT:Tr->Bool
 | .lst _=>false
 | .tup _=>false
 | _=>true
theorem jM7 {H:Hp}{t:Tr}{x:V}(h:TAt H t x)(f:flatT t=true):flatV x=true:=by
 cases t with
 | non=>cases (show x=_ from h); rfl
 | bl b=>cases (show x=V.bl b from h); rfl
 | int b=>cases (show x=V.int b from h); rfl
 | str b=>cases (show x=V.str b from h); rfl
 | lst ts=>cases f
 | tup ts=>cases f
theorem jQU {H:Hp}{t u:Tr}{x y:V}(h:TAt H t x)(h':TAt H u y)(f:flatT t=true)(f':flatT u=true):eqV x y=eqT t u:=by
 cases t with
 | non=>
  cases (show x=_ from h)
  cases u with
  | non=>cases (show y=_ from h'); simp [eqV,eqT]
  | bl b=>cases (show y=V.bl b from h'); simp [eqV,eqT]
  | int b=>cases (show y=V.int b from h'); simp [eqV,eqT]
  | str b=>cases (show y=V.str b from h'); simp [eqV,eqT]
  | lst ts=>cases f'
  | tup ts=>cases f'
 | bl c=>
  cases (show x=V.bl c from h)
  cases u with
  | non=>cases (show y=_ from h'); simp [eqV,eqT]
  | bl b=>cases (show y=V.bl b from h'); simp [eqV,eqT]
  | int b=>cases (show y=V.int b from h'); simp [eqV,eqT]
  | str b=>cases (show y=V.str b from h'); simp [eqV,eqT]
  | lst ts=>cases f'
  | tup ts=>cases f'
 | int c=>
  cases (show x=V.int c from h)
  cases u with
  | non=>cases (show y=_ from h'); simp [eqV,eqT]
  | bl b=>cases (show y=V.bl b from h'); simp [eqV,eqT]
  | int b=>cases (show y=V.int b from h'); simp [eqV,eqT]
  | str b=>cases (show y=V.str b from h'); simp [eqV,eqT]
  | lst ts=>cases f'
  | tup ts=>cases f'
 | str c=>
  cases (show x=V.str c from h)
  cases u with
  | non=>cases (show y=_ from h'); simp [eqV,eqT]
  | bl b=>cases (show y=V.bl b from h'); simp [eqV,eqT]
  | int b=>cases (show y=V.int b from h'); simp [eqV,eqT]
  | str b=>cases (show y=V.str b from h'); simp [eqV,eqT]
  | lst ts=>cases f'
  | tup ts=>cases f'
 | lst ts=>cases f
 | tup ts=>cases f
section
variable {X:Cx}{pins:List (Addr×Obj)}{σ:St}{H:Hp}{s:Shared}
theorem TsAt.both {ts us:List Tr}{vs ws:List V}{its its2:List Value}(h1:TsAt H ts vs)(h2:TsAt H us ws)(r1:Vals vs its)(r2:Vals ws its2){j:Nat}(a1:j<its.toArray.size)(a2:j<its2.toArray.size):
  ∃ t u x y,ts.getD j .non=t/\us.getD j .non=u/\t∈ts/\TAt H t x/\TAt H u y/\RelV x its.toArray[j]/\RelV y its2.toArray[j]:=by
 have l1:=r1.length
 have l2:=r2.length
 rw[ao] at a1 a2
 obtain⟨x,hx⟩:∃ x,vs[j]?=some x:=⟨vs[j]'(by omega),by simp [show j<vs.length by omega]⟩
 obtain⟨y,hy⟩:∃ y,ws[j]?=some y:=⟨ws[j]'(by omega),by simp [show j<ws.length by omega]⟩
 obtain⟨t,ht,hxt⟩:=h1.get hx
 obtain⟨u,hu,hyu⟩:=h2.get hy
 obtain⟨v,hv,rv⟩:=r1.get hx
 obtain⟨w,hw,rw'⟩:=r2.get hy
 have e1:its.toArray[j]=v:=by
  have:its[j]?=some its[j]:=by simp [a1]
  rw[hv] at this
  simpa using (bh this).symm
 have e2:its2.toArray[j]=w:=by
  have:its2[j]?=some its2[j]:=by simp [a2]
  rw[hw] at this
  simpa using (bh this).symm
 refine⟨t,u,x,y,by rw[aE,ht]; rfl,by rw[aE,hu]; rfl,aI ht,hxt,hyu,by rw[e1]; exact rv,by rw[e2]; exact rw'⟩
theorem jSZ (I:Inv X pins σ H s):∀ (n:Nat) (t u:Tr) (x y:V) (vx vy:Value) (A:Around),dep t=n->TAt H t x->TAt H u y->RelV x vx->RelV y vy->A.units+n<cLine->SeqAt.EqAt A s vx vy (eqT t u):=by
 intro n
 induction n using strongRecOn with
 | ind n ih=>
  intro t u x y vx vy A hn ht hu rx ry hc
  have hcu:A.units<cLine:=by omega
  cases ft:flatT t with
  | true=>
   cases fu:flatT u with
   | true=>
    rw[<- jQU ht hu ft fu]
    exact jOV rx ry (jM7 ht ft) (jM7 hu fu)
   | false=>
    cases u with
    | lst us=>
     obtain⟨b,ws,rfl,hb,_⟩:=hu
     cases ry
     obtain⟨its,_,pl,_⟩:=I.list (SqL.of hb)
     cases t with
     | non=>cases (show x=_ from ht); cases rx; rw[show eqT .non (.lst us)=false by simp [eqT]]; exact .none_list pl.isList hcu
     | bl c=>cases (show x=V.bl c from ht); cases rx; rw[show eqT (.bl c) (.lst us)=false by simp [eqT]]; exact .bool_list c pl.isList hcu
     | int c=>cases (show x=V.int c from ht); obtain⟨k,rfl⟩:=rx; rw[show eqT (.int c) (.lst us)=false by simp [eqT]]; exact .int_list c k pl.isList hcu
     | str c=>cases (show x=V.str c from ht); obtain⟨k,rfl⟩:=rx; rw[show eqT (.str c) (.lst us)=false by simp [eqT]]; exact .str_list c k pl.isList hcu
     | lst ts=>cases ft
     | tup ts=>cases ft
    | tup us=>
     obtain⟨b,ws,rfl,hb,_⟩:=hu
     cases ry
     obtain⟨its,_,pl,_⟩:=I.tuple (SqT.of hb)
     cases t with
     | non=>cases (show x=_ from ht); cases rx; rw[show eqT .non (.tup us)=false by simp [eqT]]; exact .none_tuple pl hcu
     | bl c=>cases (show x=V.bl c from ht); cases rx; rw[show eqT (.bl c) (.tup us)=false by simp [eqT]]; exact .bool_tuple c pl hcu
     | int c=>cases (show x=V.int c from ht); obtain⟨k,rfl⟩:=rx; rw[show eqT (.int c) (.tup us)=false by simp [eqT]]; exact .int_tuple c k pl hcu
     | str c=>cases (show x=V.str c from ht); obtain⟨k,rfl⟩:=rx; rw[show eqT (.str c) (.tup us)=false by simp [eqT]]; exact .str_tuple c k pl hcu
     | lst ts=>cases ft
     | tup ts=>cases ft
    | non=>cases fu
    | bl c=>cases fu
    | int c=>cases fu
    | str c=>cases fu
  | false=>
   cases t with
   | non=>cases ft
   | bl c=>cases ft
   | int c=>cases ft
   | str c=>cases ft
   | lst ts=>
    have ht0:=ht
    obtain⟨a,vs,rfl,ha,hts⟩:=ht
    cases rx
    obtain⟨its,r1,pl,_⟩:=I.list (SqL.of ha)
    cases u with
    | non=>cases (show y=_ from hu); cases ry; rw[show eqT (.lst ts) .non=false by simp [eqT]]; exact .list_none pl.isList hcu
    | bl c=>cases (show y=V.bl c from hu); cases ry; rw[show eqT (.lst ts) (.bl c)=false by simp [eqT]]; exact .list_bool c pl.isList hcu
    | int c=>cases (show y=V.int c from hu); obtain⟨k,rfl⟩:=ry; rw[show eqT (.lst ts) (.int c)=false by simp [eqT]]; exact .list_int c k pl.isList hcu
    | str c=>cases (show y=V.str c from hu); obtain⟨k,rfl⟩:=ry; rw[show eqT (.lst ts) (.str c)=false by simp [eqT]]; exact .list_str c k pl.isList hcu
    | tup us=>
     obtain⟨b,ws,rfl,hb,_⟩:=hu
     cases ry
     obtain⟨its2,_,pl2,_⟩:=I.tuple (SqT.of hb)
     rw[show eqT (.lst ts) (.tup us)=false by simp [eqT]]
     exact .list_tuple pl.isList pl2 hcu
    | lst us=>
     have hu0:=hu
     obtain⟨b,ws,rfl,hb,hus⟩:=hu
     cases ry
     by_cases e:a=b
     ·subst e
      rw[<- TAt.inj ht0 hu0,jFH]
      exact .same _
     ·obtain⟨its2,r2,pl2,_⟩:=I.list (SqL.of hb)
      refine .of_refs e ?_
      have l1:=r1.length
      have l2:=r2.length
      have m1:=hts.len
      have m2:=hus.len
      rw[eqT,jDY]
      by_cases hl:ts.length=us.length
      ·have key:=SeqAt.RcAt.lists (e:=fun j=>eqT (ts.getD j .non) (us.getD j .non)) pl.isList pl2.isList (by rw[ao,ao]; omega) hcu fun j a1 a2=>by
        obtain⟨t',u',x',y',e1,e2,hm,q1,q2,q3,q4⟩:=TsAt.both hts hus r1 r2 a1 a2
        rw[e1,e2]
        have hd:=jHQ hm
        have hn':deps ts+1=n:=by rw[<- hn,dep]
        exact ih (dep t') (by omega) t' u' x' y' _ _ _ rfl q1 q2 q3 q4 (by rw[dQ]; omega)
       have ez:its.toArray.size=min ts.length us.length:=by rw[ao]; omega
       rw[ez] at key
       rw[show (ts.length==us.length)=true by simp [hl],Bool.and_true]
       exact key
      ·rw[show (ts.length==us.length)=false by simp [hl],da]
       refine SeqAt.RcAt.lists_lengths pl.isList pl2.isList ?_ hcu
       rw[ao,ao]
       simp
       omega
   | tup ts=>
    have ht0:=ht
    obtain⟨a,vs,rfl,ha,hts⟩:=ht
    cases rx
    obtain⟨its,r1,pl,_⟩:=I.tuple (SqT.of ha)
    cases u with
    | non=>cases (show y=_ from hu); cases ry; rw[show eqT (.tup ts) .non=false by simp [eqT]]; exact .tuple_none pl hcu
    | bl c=>cases (show y=V.bl c from hu); cases ry; rw[show eqT (.tup ts) (.bl c)=false by simp [eqT]]; exact .tuple_bool c pl hcu
    | int c=>cases (show y=V.int c from hu); obtain⟨k,rfl⟩:=ry; rw[show eqT (.tup ts) (.int c)=false by simp [eqT]]; exact .tuple_int c k pl hcu
    | str c=>cases (show y=V.str c from hu); obtain⟨k,rfl⟩:=ry; rw[show eqT (.tup ts) (.str c)=false by simp [eqT]]; exact .tuple_str c k pl hcu
    | lst us=>
     obtain⟨b,ws,rfl,hb,_⟩:=hu
     cases ry
     obtain⟨its2,_,pl2,_⟩:=I.list (SqL.of hb)
     rw[show eqT (.tup ts) (.lst us)=false by simp [eqT]]
     exact .tuple_list pl pl2.isList hcu
    | tup us=>
     have hu0:=hu
     obtain⟨b,ws,rfl,hb,hus⟩:=hu
     cases ry
     by_cases e:a=b
     ·subst e
      rw[<- TAt.inj ht0 hu0,jFH]
      exact .same _
     ·obtain⟨its2,r2,pl2,_⟩:=I.tuple (SqT.of hb)
      refine .of_refs e ?_
      have l1:=r1.length
      have l2:=r2.length
      have m1:=hts.len
      have m2:=hus.len
      rw[eqT,jDY]
      have key:=SeqAt.RcAt.tuples (e:=fun j=>eqT (ts.getD j .non) (us.getD j .non)) pl pl2 hcu fun j a1 a2=>by
       obtain⟨t',u',x',y',e1,e2,hm,q1,q2,q3,q4⟩:=TsAt.both hts hus r1 r2 a1 a2
       rw[e1,e2]
       have hd:=jHQ hm
       have hn':deps ts+1=n:=by rw[<- hn,dep]
       exact ih (dep t') (by omega) t' u' x' y' _ _ _ rfl q1 q2 q3 q4 (by rw[dQ]; omega)
      have z1:its.toArray.size=ts.length:=by rw[ao]; omega
      have z2:its2.toArray.size=us.length:=by rw[ao]; omega
      rw[z1,z2] at key
      exact key
theorem jLY (I:Inv X pins σ H s){ts us:List Tr}{vs ws:List V}{its its2:List Value}(h1:TsAt H ts vs)(h2:TsAt H us ws)(r1:Vals vs its)(r2:Vals ws its2){A:Around}(hc:A.units+deps ts<cLine):
  ∀ j (a1:j<its.toArray.size) (a2:j<its2.toArray.size),SeqAt.EqAt A s its.toArray[j] its2.toArray[j] (eqT (ts.getD j .non) (us.getD j .non)):=fun j a1 a2=>by
 obtain⟨t',u',x',y',e1,e2,hm,q1,q2,q3,q4⟩:=TsAt.both h1 h2 r1 r2 a1 a2
 rw[e1,e2]
 have hd:=jHQ hm
 exact jSZ I (dep t') t' u' x' y' _ _ _ rfl q1 q2 q3 q4 (by omega)
theorem jPY (hu:X.A.units+101<cLine):OpR X (compareOp .NotEq) (fun x y H Q=>∃ ts us,TAt H (.tup ts) x/\TAt H (.tup us) y/\deps ts<=100/\Q (.bl (!eqTs ts us)) H):=by
 intro pins s σ H x y v u Q I rx ry h
 obtain⟨ts,us,⟨a,vs,rfl,ha,hts⟩,⟨b,ws,rfl,hb,hus⟩,hd,q⟩:=h
 cases rx
 cases ry
 obtain⟨its,r1,p1,_⟩:=I.tuple (SqT.of ha)
 obtain⟨its2,r2,p2,_⟩:=I.tuple (SqT.of hb)
 have l1:=r1.length
 have l2:=r2.length
 have m1:=hts.len
 have m2:=hus.len
 refine SeqAt.RcNeAt.tuples (e:=fun j=>eqT (ts.getD j .non) (us.getD j .non)) p1 p2 (by omega) (jLY I hts hus r1 r2 (by rw[dQ]; omega)) _ _ _ _ ⟨.bl _,H,I,rfl,?_⟩
 have z1:its.toArray.size=ts.length:=by rw[ao]; omega
 have z2:its2.toArray.size=us.length:=by rw[ao]; omega
 rw[z1,z2,<- jDY]
 exact q
theorem jL1 (hu:X.A.units+101<cLine):OpR X (compareOp .Eq) (fun x y H Q=>∃ ts us,TAt H (.lst ts) x/\TAt H (.lst us) y/\deps ts<=100/\Q (.bl (eqTs ts us)) H):=by
 intro pins s σ H x y v u Q I rx ry h
 obtain⟨ts,us,⟨a,vs,rfl,ha,hts⟩,⟨b,ws,rfl,hb,hus⟩,hd,q⟩:=h
 cases rx
 cases ry
 obtain⟨its,r1,p1,_⟩:=I.list (SqL.of ha)
 obtain⟨its2,r2,p2,_⟩:=I.list (SqL.of hb)
 have l1:=r1.length
 have l2:=r2.length
 have m1:=hts.len
 have m2:=hus.len
 rw[jDY] at q
 by_cases hl:ts.length=us.length
 ·refine SeqAt.eq_listAt (e:=fun j=>eqT (ts.getD j .non) (us.getD j .non)) p1.isList p2.isList (by rw[ao,ao]; omega) (by omega) (jLY I hts hus r1 r2 (by rw[dQ]; omega)) ⟨.bl _,H,I,rfl,?_⟩
  have ez:its.toArray.size=min ts.length us.length:=by rw[ao]; omega
  rw[ez]
  rw[show (ts.length==us.length)=true by simp [hl],Bool.and_true] at q
  exact q
 ·rw[show (ts.length==us.length)=false by simp [hl],da] at q
  refine SeqAt.eq_list_lengthsAt p1.isList p2.isList ?_ (by omega) ⟨.bl _,H,I,rfl,q⟩
  rw[ao,ao]
  simp
  omega
theorem Room.units101 {k:Nat}{A:Around}(r:Room k A):A.units+101<cLine:=by have:=r.un; omega
end
section
variable {X:Cx}{tg iter elt:Expr}{ifs:List Expr}{sc:Scope}{pos:Pos}{wi:TI}{g:TG}{tt:TT}{te:TE}{m:List (Option Nat)}{Nc:List Str}
end
section
variable {X:Cx}{sc:Scope}{cl:List (Str×Addr)}{C:Addr}{Nc:List Str}{fp:List Addr}{s:Shared}{H:Hp}{x:Str}
variable {sc2:Scope}{cl2:List (Str×Addr)}{C2:Addr}{Nc2:List Str}{fp2:List Addr}{s2:Shared}{H2:Hp}
end
section
variable {X:Cx}
def rAny (K:W.Frag):List V->Hp->VK->Prop:=fun xs H Q=>∃ (p:Addr) (bs:List Bool),xs=[.ref p]/\SqL K H p (bs.map V.bl)/\Q (.bl (bs.any id)) H
theorem jMK (hc:X.calm=true):yO X (.builtin "any") (rAny X.K):=by
 intro pins s σ H xs us Q I r h
 obtain⟨p,bs,rfl,hq,q⟩:=h
 obtain⟨u,rfl,rx⟩:=r.one
 cases rx
 obtain⟨its,r',pl,hz⟩:=I.list hq
 have hlen:=r'.length
 rw[af] at hlen
 refine call_any_walk (dG pl.isList ?_)
 have hne:p≠s.heap.objs.size:=by
  obtain⟨o,ho,_⟩:=pl.isList
  exact aR (ay ho)
 refine⟨s.heap.objs.size,_,_,_,_,_,fun i=>bs.getD i true,rfl,iY (by simpa using I.ok.hd hc) _ p hne its.toArray,⟨⟨_,am _ rfl,rfl,rfl⟩,pl.isList.push _⟩,fun i v z Q' E' hP hQ'=>?_,fun h' tk hk=>?_⟩
 ·have hi:its[i]?=some v:=by simpa using hP
  have hb:i<bs.length:=by
   rw[hlen]
   exact(ar.mp hi).1
  obtain⟨u,hu,ru⟩:=r'.get (i:=i) (x:= .bl (bs[i])) (by simp [hb])
  rw[hi] at hu
  cases hu
  cases ru
  have e:bs.getD i true=bs[i]:=by simp [List.getD,hb]
  have hQ2:Q' (bs.getD i true) z:=hQ'
  rw[e] at hQ2
  exact ag hQ2
 ·have e:(List.range its.toArray.size).any (fun i=>bs.getD i true)=bs.any id:=by
   rw[ao,<- hlen]
   rw[cc,fY,fY]
   constructor
   ·rintro ⟨i,hi,hb⟩
    have hi:=bO.mp hi
    exact⟨bs[i],cV hi,by simpa [List.getD,hi] using hb⟩
   ·rintro ⟨b,hb,hq⟩
    obtain⟨i,hi,rfl⟩:=dO hb
    exact⟨i,bO.mpr hi,by simpa [List.getD,hi] using hq⟩
  rw[e]
  exact⟨.bl _,H,I.kept (t':=tk) fun b o e=>hk b o (by
   intro z
   have z:b=s.heap.objs.size:=by simpa using z
   exact absurd (ay e) (by rw[z]; exact cI _)) (ae _ e),rfl,q⟩
theorem jNL {c:Expr}{body:List Stmt}{tc:TT}{tb:TS}{pos:Pos}(hp:PassesOwn (model X.prog X.w) X.A X.env X.xe)(hc:JT X c tc)(hb:JSs X body tb):JS X (.While c body [] pos) (jOB tc tb):=⟨jN1 hp hc.h hb.h⟩
theorem jOI {op:CmpOp}{a b:Expr}{pos:Pos} :behindInMarks op (.Subscript a b pos)=false:=by cases op <;> rfl
end
section
variable {X:Cx}{sc:Scope}{cl:List (Str×Addr)}{C:Addr}{Nc:List Str}{fp:List Addr}{s:Shared}{H:Hp}
end
end L2
end
section
namespace L2
open PySem
def LstR (H:Hp)(xs:List V)(Q:VK):Prop:=∀ r H',H' r=some (.lst xs)->Ext H H'->H r=none->Q (.ref r) H'
theorem LstR.new {H:Hp}{xs:List V}{Q:VK}(q:LstR H xs Q){p:Addr}(hp:H p=none):Q (.ref p) (upd H p (.lst xs)):=q p _ j8 ((Ext.refl H).new hp _) hp
def tTupU (t:TA):TE:=fun σ H Q=>t σ H fun xs H1=>xs.length<=sizeLine/\TupR H1 xs Q
def tLstU (t:TA):TE:=fun σ H Q=>t σ H fun xs H1=>xs.length<=sizeLine/\LstR H1 xs Q
section
variable {X:Cx}{es:List Expr}{t:TA}{pos:Pos}
theorem kD {x1}(h:JA X es t):JE X (.Tuple es x1 pos) (tTupU t):=⟨fun pins s σ H Q I hq=>by
 refine gC (thn (h.h pos pins s σ H _ I hq) fun us s1 ⟨xs,H1,I1,r,z,q⟩=>⟨by rw[<- r.length]; exact z,?_⟩)
 have hf:H1 s1.heap.objs.size=none:=I1.hok.fresh (ak _)
 exact⟨.ref s1.heap.objs.size,upd H1 s1.heap.objs.size (.tup xs),I1.laid (t':=s1.toks) (fun b u e=>ae _ e) (ak _) ⟨z,us,r,TupO.new _ _⟩,rfl,q.new hf⟩⟩
theorem jAG (h:JA X es t):JE X (.List es pos) (tLstU t):=⟨fun pins s σ H Q I hq=>by
 refine wpAny_List_spliced (thn (h.h pos pins s σ H _ I hq) fun us s1 ⟨xs,H1,I1,r,z,q⟩=>⟨by rw[<- r.length]; exact z,?_⟩)
 have hf:H1 s1.heap.objs.size=none:=I1.hok.fresh (ak _)
 exact⟨.ref s1.heap.objs.size,upd H1 s1.heap.objs.size (.lst xs),I1.laid (t':=s1.toks) (fun b u e=>ae _ e) (ak _) ⟨z,us,0,r,am _ rfl⟩,rfl,q.new hf⟩⟩
theorem jF2:OpR X (binaryOp .Add) (fun x y H Q=>∃ l b xs zs,x= .ref l/\y= .ref b/\H l=some (.lst xs)/\H b=some (.lst zs)/\xs.length+zs.length<=sizeLine/\LstR H (xs++zs) Q):=by
 intro pins s σ H x y v u Q I rx ry h
 obtain⟨l,b,xs,zs,rfl,rfl,h1,h2,h3,q⟩:=h
 exact jS6 pins s σ H _ _ v u Q I rx ry ⟨l,b,xs,zs,rfl,rfl,h1,h2,h3,fun p hp=>q.new hp⟩
end
end L2
end
section
namespace L2
open PySem PySem.Spec PyProof.Rows
section
variable {X:Cx}
theorem jHU {prog:Program}{w:World}{A:Around}{E:Value->Shared->Prop}{s:Shared}{l:Addr}{vs:List Value}{n:Nat}{Q:List Value->Shared->Prop}(ho:s.heap.get? l=some { cls:= .type "tuple",data:= .seq vs.toArray n})
  (h:Q vs { s with heap:=(s.heap.push (seqObj "list" #[] 0)).update s.heap.objs.size (Obj.mapSeq (· ++vs.toArray))}) (hsz:vs.length<=sizeLine):
  wpAny (model prog w) A (collect (.ref l)) Q E s:=by
 unfold collect
 refine aa (fj (cg entry_proto_collect' ?_))
 show wpAny _ _ (do again (.builtin "list.__iadd__" ⟨[<- newList [], .ref l],[]⟩)) _ _ s
 refine aa (eS (ag ⟨Code.quiet_builtin _ (by decide+kernel),cg entry_list_iadd' ?_⟩))
 show wpAny _ _ (Builtin.List.listExtendWith (.ref s.heap.objs.size) (.ref l) (.ref s.heap.objs.size)) _ _ { s with heap:=s.heap.push (seqObj "list" #[] 0)}
 unfold Builtin.List.listExtendWith
 have ho':(s.heap.push (seqObj "list" #[] 0)).get? l=some { cls:= .type "tuple",data:= .seq vs.toArray n} :=ae _ ho
 refine aa (wpAny_typeOf (T:= "tuple") ⟨_,ho',rfl⟩ ?_)
 have ht:(Value.type "tuple" ==Value.type "tuple")=true:=by rfl
 rw[aj (by rw[ht,dJ])]
 refine aa (listItems_at ho' rfl ?_)
 refine aa (listItems_at (xs:=#[]) (n:=0) (am _ rfl) rfl ?_)
 rw[ah (by simp)]
 refine aa (g6 (xs:=#[]) (n:=0) (am _ rfl) rfl ?_ (bo _) (by show (#[]++vs.toArray).size<=sizeLine+1; simp only [Array.size_append,ao,cf]; omega))
 refine ag ?_
 show wpAny (model prog w) A (do
   let o <- load s.heap.objs.size
   match o.data with
   | .seq xs _=>pure xs.toList
   | _=>unsupported "internal:collect") Q E { s with heap:=(s.heap.push (seqObj "list" #[] 0)).update s.heap.objs.size (Obj.mapSeq (· ++vs.toArray))}
 refine aa (eV (get?_update_seq (am _ rfl) _) ?_)
 show wpAny _ _ (pure ((#[]:Array Value)++vs.toArray).toList) Q E _
 rw[show ((#[]:Array Value)++vs.toArray).toList=vs by simp]
 exact ag h
theorem jJF {prog:Program}{w:World}{A:Around}{E:Value->Shared->Prop}{s:Shared}{l:Addr}{vs:List Value}{ns:List Int}{n:Nat}{Q:Value->Shared->Prop}(ho:s.heap.get? l=some { cls:= .type "tuple",data:= .seq vs.toArray n})(hI:IntsAre vs ns)(h64:vs.length<64)
  (h:∀ (out:Array Value) (ns':List Int),IntsAre out.toList ns'->ns'.Perm ns->ns'.Pairwise (· <= ·)->Q (.ref (s.heap.objs.size+1)) { s with heap:=sortedAll s.heap vs out}):
  wpAny (model prog w) A (call (.builtin "sorted") [.ref l]) Q E s:=by
 refine eO kind_sorted plain_sorted entry_sorted (args_sorted1 _) ?_
 unfold Builtin.«sorted»
 refine aa (m:=checkCount "sorted" 1 1 _) (ag ?_)
 refine aa (jHU ho ?_ (by rw[eg]; omega))
 refine aa (eS ?_ (by rw[eg]; omega))
 have hsz:((s.heap.push (seqObj "list" #[] 0)).update s.heap.objs.size (Obj.mapSeq (· ++vs.toArray))).objs.size=s.heap.objs.size+1:=by
  rw[eM,size_push']
 have hoL:(((s.heap.push (seqObj "list" #[] 0)).update s.heap.objs.size (Obj.mapSeq (· ++vs.toArray))).push (seqObj "list" vs.toArray 0)).get? (s.heap.objs.size+1)=some (seqObj "list" vs.toArray 0):=by
  rw[<- hsz]; exact am _ rfl
 show wpAny _ _ _ _ _ { s with heap:=((s.heap.push (seqObj "list" #[] 0)).update s.heap.objs.size (Obj.mapSeq (· ++vs.toArray))).push (seqObj "list" vs.toArray 0)}
 rw[hsz]
 refine aa (bB (bR gN ⟨_,hoL,rfl⟩ gA (list_sort_tree hoL hI h64 fun out ns' a1 a2 a3=>⟨_,rfl,?_⟩) (args_list_sort _)))
 exact ag ⟨_,rfl,h out ns' a1 a2 a3⟩
theorem jCW:yO X (.builtin "sorted") (fun xs H Q=>∃ (p:Addr) (ks:List Int),xs=[.ref p]/\H p=some (.tup (ks.map V.int))/\ks.length<64/\
  ∀ (l:Addr) (ns:List Int),H l=none->ns.Pairwise (· <= ·)->ns.Perm ks->Q (.ref l) (upd H l (.lst (ns.map V.int)))):=by
 intro pins s σ H xs us Q I r h
 obtain⟨p,ks,rfl,hp,hn,q⟩:=h
 obtain⟨u,rfl,rx⟩:=r.one
 cases rx
 obtain⟨_,its,r',n,e0⟩:=I.hok p _ hp
 have hlen:=r'.length
 rw[af] at hlen
 refine jJF e0 (jCR r') (by omega) fun out ns' a1 a2 a3=>?_
 obtain⟨e,he⟩:=sortedAll_at s.heap its out
 have hz:(ns'.map V.int).length<=sizeLine:=by
  rw[af,a2.length_eq,eg]
  omega
 have I2:Inv X pins σ (upd H (s.heap.objs.size+1) (.lst (ns'.map V.int))) { s with heap:=sortedAll s.heap its out} :=I.laid (t':=s.toks) (fun b o e=>sortedAll_old e) (fe _) ⟨hz,out.toList,e,jAC a1,by rw[dI]; exact he⟩
 exact⟨.ref _,_,I2,rfl,q _ ns' (I.hok.fresh (fe _)) a3 a2⟩
end
theorem jDF (ns:List Int):∀ j,preSum (fun i=>ns.getD i 0) j=(ns.take j).sum
 | 0=>rfl
 | j+1=>by
  rw[preSum,jDF ns j,bq,List.sum_append]
  congr 1
  rw[aE]
  cases ns[j]? with
  | none=>rfl
  | some z=>simp
section
variable {X:Cx}
def rSum (K:W.Frag):List V->Hp->VK->Prop:=fun xs H Q=>∃ (p:Addr) (ns:List Int),xs=[.ref p]/\(SqL K H p (ns.map V.int))/\Q (.int ns.sum) H
theorem jGI (hc:X.calm=true):yO X (.builtin "sum") (rSum X.K):=by
 intro pins s σ H xs us Q I r h
 obtain⟨p,ns,rfl,hq,q⟩:=h
 obtain⟨u,rfl,rx⟩:=r.one
 cases rx
 obtain⟨its,r',pl,hz⟩:=I.list hq
 have hlen:=r'.length
 rw[af] at hlen
 refine call_sum_walkG (dG pl.isList ?_)
 have hne:p≠s.heap.objs.size:=by
  obtain⟨o,ho,_⟩:=pl.isList
  exact aR (ay ho)
 refine⟨s.heap.objs.size,_,_,_,_,_,fun i=>ns.getD i 0,rfl,iY (by simpa using I.ok.hd hc) _ p hne its.toArray,⟨⟨_,am _ rfl,rfl,rfl⟩,pl.isList.push _⟩,(fun b hb=>?_),(fun i v hP=>?_),fun h' tk t' hk=>?_⟩
 ·show b<(s.heap.push _).objs.size
  rw[cx]
  obtain⟨o,ho,_⟩:=pl.isList
  have:=ay ho
  rcases aF.mp hb with rfl | hb
  ·exact fN _
  ·rcases aF.mp hb with rfl | hb
   ·exact cr this
   ·cases hb
 ·have hi:its[i]?=some v:=by simpa using hP
  have hb:i<ns.length:=by
   rw[hlen]
   exact(ar.mp hi).1
  obtain⟨u,hu,ru⟩:=r'.get (i:=i) (x:= .int (ns[i])) (by simp [hb])
  rw[hi] at hu
  cases hu
  obtain⟨t,rfl⟩:=ru
  exact⟨t,by simp [List.getD,hb]⟩
 ·have e:preSum (fun i=>ns.getD i 0) its.toArray.size=ns.sum:=by
   rw[jDF,ao,<- hlen,bI]
  rw[e]
  exact⟨.int _,H,I.kept (t':=tk) fun b o e=>hk b o (by
   intro z
   have z:b=s.heap.objs.size:=by simpa using z
   exact absurd (ay e) (by rw[z]; exact cI _)) (ae _ e),⟨_,rfl⟩,q⟩
variable {sc:Scope}{cl:List (Str×Addr)}{C:Addr}{Nc:List Str}{fp:List Addr}{s:Shared}{H:Hp}
end
theorem jK1 (a b:Nat):Builtin.bitAnd (a:Int) (b:Int)=((a&&&b:Nat):Int):=by
 unfold Builtin.bitAnd
 rw[aw (eW a),aw (eW b)]
 rfl
theorem jCE (a b:Nat):Builtin.bitOr (a:Int) (b:Int)=((a|||b:Nat):Int):=by
 unfold Builtin.bitOr
 have ha:Builtin.bitNot (a:Int)= -(a:Int) - 1:=by unfold Builtin.bitNot; omega
 have hb:Builtin.bitNot (b:Int)= -(b:Int) - 1:=by unfold Builtin.bitNot; omega
 have na:¬ (0<=Builtin.bitNot (a:Int)):=by rw[ha]; omega
 have nb:¬ (0<=Builtin.bitNot (b:Int)):=by rw[hb]; omega
 unfold Builtin.bitAnd
 rw[aP na,aP nb]
 have ea:Builtin.bitNot (Builtin.bitNot (a:Int))=(a:Int):=by rw[ha]; unfold Builtin.bitNot; omega
 have eb:Builtin.bitNot (Builtin.bitNot (b:Int))=(b:Int):=by rw[hb]; unfold Builtin.bitNot; omega
 show Builtin.bitNot (Builtin.bitNot _)=_
 rw[ea,eb]
 unfold Builtin.bitNot
 simp
 omega
def maskN (ts:List Int):Nat:=(ts.map fun t=>2 ^ t.toNat).sum
theorem jIQ:∀ (ts:List Int) (lo:Nat),ts.Pairwise (· < ·)->(∀ t∈ts,(lo:Int)<=t)->maskN ts % 2 ^ lo=0
 | [],_,_,_=>by simp [maskN]
 | t::r,lo,hp,hl=>by
  have ih:=jIQ r lo (cA.mp hp).2 fun x hx=>hl x (aM _ hx)
  have h0:=hl t (az ..)
  have e:maskN (t::r)=2 ^ t.toNat+maskN r:=by simp [maskN]
  have d:2 ^ t.toNat % 2 ^ lo=0:=Nat.mod_eq_zero_of_dvd (Nat.pow_dvd_pow 2 (by omega))
  rw[e,Nat.add_mod,ih,d]
  simp
theorem jA6:∀ (ts:List Int) (n:Nat),ts.Pairwise (· < ·)->(∀ t∈ts,0<=t)->(maskN ts).testBit n=decide ((n:Int)∈ts)
 | [],n,_,_=>by simp [maskN]
 | t::r,n,hp,h0=>by
  obtain⟨h1,h2⟩:=cA.mp hp
  have ih:=jA6 r n h2 fun x hx=>h0 x (aM _ hx)
  have ht:=h0 t (az ..)
  obtain⟨k,rfl⟩:∃ k:Nat,t=(k:Int):=⟨t.toNat,by omega⟩
  have e:maskN ((k:Int)::r)=2 ^ k+maskN r:=by simp [maskN]
  have m0:maskN r % 2 ^ (k+1)=0:=jIQ r (k+1) h2 fun x hx=>by have:=h1 x hx; omega
  obtain⟨c,hc⟩:∃ c,maskN r=2 ^ (k+1)*c:=(Nat.dvd_of_mod_eq_zero m0)
  have hor:2 ^ k+maskN r=maskN r|||2 ^ k:=by
   rw[hc,Nat.mul_comm,<- Nat.shiftLeft_eq,Nat.shiftLeft_add_eq_or_of_lt (b:=2 ^ k) (i:=k+1) (gu (by decide) (by omega)) c |>.symm,i7]
  rw[e,hor,bG,ih,cn]
  by_cases hk:k=n
  ·subst hk
   simp
  ·have:¬ ((n:Int)=(k:Int)):=by omega
   simp [hk,this]
end L2
end
section
namespace L2
open PySem
section
variable {X:Cx}{tg iter elt:Expr}{ifs:List Expr}{sc:Scope}{pos:Pos}{wi:TI}{g:TG}{tt:TT}{te:TE}{m:List (Option Nat)}{Nc:List Str}
theorem jO2 (hc:X.calm=true)(hi:PI X tg iter wi)(hkind:sc.kind= .function)(hcell:∀ y∈sc.names,y.2≠ .cell)(hnames:∀ y∈sc.names,y.2= .local->sc.names.lookup y.1=some .local)
  (hfree:∀ y∈sc.names,y.2= .free->X.env.scope.names.lookup y.1=some .cell\/X.env.scope.names.lookup y.1=some .free) (hm:jBL X sc Nc m)
  (hg:∀ cl C fp s H,PG (blk X sc cl C Nc fp s H) tg g) (ht:∀ cl C fp s H,PTs (blk X sc cl C Nc fp s H) ifs tt) (he:∀ cl C fp s H,PE (blk X sc cl C Nc fp s H) elt te)
  (hs:∀ x,foldedSetIterable iter X.env x=pure x) {fpos:Pos}{use:Option (Value->Sem Unit)}{R:Value->Shared->Prop}{pins:List (Addr×Obj)}{s:Shared}{σ:St}{H:Hp}{Q:VK}(I:Inv X pins σ H s) (h:tComp m wi g tt te σ H Q)
  (fin:∀ (D C:Addr) (H5:Hp) (z1:Shared) (r:Flow),(∃ mm,z1.heap.Ns C mm)->FpOk X pins H5 C->(∀ h',Heap.SameBut C z1.heap h'->Inv X pins σ H5 { z1 with heap:=h'})->Q (.ref D) H5->compPost (model X.prog X.w) X.A X.xe use R (.ref D) C (.ok r) z1):
  wpAny (model X.prog X.w) X.A (comprehension (.ListComp elt [⟨tg,iter,ifs,0⟩] sc pos) sc X.env fpos (newList []) false (eval iter X.env) use) R X.xe s:=
 jJ7 (tf:=fun _=>te) hc hi hkind hcell hnames hfree hm hg ht (fun cl C fp s H _ _ _ _=>he cl C fp s H) hs I h fin
theorem jPC {i:Nat}{x:Str}{pos' spos:Pos}(hN:X.N.Nodup)(hi':X.N[i]?=some x)(hx:Loc X.env.scope x)(hf:X.fn x=true\/X.env.scope.names.lookup x=some .local)(hsw:swapsWith (.ListComp elt [⟨tg,iter,ifs,0⟩] sc pos) (some (.Name x pos')) spos.line X.env=pure true)
  (hc:X.calm=true) (hi:PI X tg iter wi) (hkind:sc.kind= .function) (hcell:∀ y∈sc.names,y.2≠ .cell) (hnames:∀ y∈sc.names,y.2= .local->sc.names.lookup y.1=some .local)
  (hfree:∀ y∈sc.names,y.2= .free->X.env.scope.names.lookup y.1=some .cell\/X.env.scope.names.lookup y.1=some .free) (hm:jBL X sc Nc m)
  (hg:∀ cl C fp s H,PG (blk X sc cl C Nc fp s H) tg g) (ht:∀ cl C fp s H,PTs (blk X sc cl C Nc fp s H) ifs tt) (he:∀ cl C fp s H,PE (blk X sc cl C Nc fp s H) elt te)
  (hs:∀ x,foldedSetIterable iter X.env x=pure x):PS X (.Assign [.Name x pos'] (.ListComp elt [⟨tg,iter,ifs,0⟩] sc pos) spos) (tAsg (tComp m wi g tt te) (kZ i)):=by
 intro pins s σ H D I h
 rw[exec_Assign_Name_used _ _ _ _ hsw]
 refine aa (dZ (aa ?_))
 show wpAny _ _ (do let _ <- comprehension (.ListComp elt [⟨tg,iter,ifs,0⟩] sc pos) sc X.env _ (newList []) false (eval iter X.env) (some (assign (.Name x pos') X.env))) _ _ _
 refine aa (bw (jO2 (R:=fun _ s'=>SP X pins D .next s') hc hi hkind hcell hnames hfree hm hg ht he hs ⟨I.ok,I.os,I.bare,I.base,I.loc,I.cell,I.free,I.freeC,I.pin,I.hok,I.len⟩ h ?_) (fun _ s' hq=>ag (ag hq)) fun _ _ e=>e)
 intro D' C H5 z1 r ⟨mm,hn⟩ fC sb q
 have I1:=sb _ (Heap.SameBut.refl C z1.heap)
 refine wpAny_assign_Name (jFT (v:= .ref D') I1 hN hi' hx rfl (fun s2 I2 ⟨a,sa,ha⟩=>?_) hf)
 obtain⟨f0,f1,f2,f3,f4,f5⟩:=fC
 have hCa:C≠a:=by
  rcases ha with rfl | ha
  ·exact f1
  ·exact(f4 _ _ ha).symm
 refine⟨mm,hn.sameBut sa hCa,fun h' sb2=>⟨_,H5,?_,q⟩⟩
 refine I2.call' (s':= { s2 with heap:=h'}) (ch:=[C]) rfl ?_ (I2.hok.sameBut sb2 f0) I2.bare (fun b hb=>?_)
 ·have ne:∀ {b:Addr},b∉ [C]->b≠C:=fun h e=>h (by rw[e]; exact aq.mpr rfl)
  refine⟨fun b o e n hf hx=>(sb2.2 b (ne hx)).trans e,fun b o e n hf hx=>⟨o.slots,(sb2.2 b (ne hx)).trans e⟩,fun b o e n hx=>n,fun b o e hx=>⟨o,(sb2.2 b (ne hx)).trans e⟩,fun b xs e=>e,fun b o u e=>e,fun b ps e=>⟨#[],by rw[Array.append_empty]; exact e⟩⟩
 ·cases aq.mp hb
  exact⟨f3,f1,f4,f5⟩
end
section
variable {X:Cx}
structure SwC (e:Expr)(x:Str)(pos' spos:Pos)(X:Cx):Prop where
 h:swapsWith e (some (.Name x pos')) spos.line X.env=pure true
theorem jLN {i:Nat}{x:Str}{pos' spos pos:Pos}{tg iter elt:Expr}{ifs:List Expr}{sc:Scope}{wi:TI}{g:TG}{tt:TT}{te:TE}{m:List (Option Nat)}{Nc:List Str}(hN:X.N.Nodup)(hi':X.N[i]?=some x)(hx:Loc1 X x)(hsw:SwC (.ListComp elt [⟨tg,iter,ifs,0⟩] sc pos) x pos' spos X)
  (hc:X.calm=true) (hi:JI X tg iter wi) (hkind:sc.kind= .function) (hcell:∀ y∈sc.names,y.2≠ .cell) (hnames:∀ y∈sc.names,y.2= .local->sc.names.lookup y.1=some .local)
  (hfree:∀ y∈sc.names,y.2= .free->X.env.scope.names.lookup y.1=some .cell\/X.env.scope.names.lookup y.1=some .free) (hm:jBL X sc Nc m)
  (hg:∀ cl C fp s H,JG (blk X sc cl C Nc fp s H) tg g) (ht:∀ cl C fp s H,JTs (blk X sc cl C Nc fp s H) ifs tt) (he:∀ cl C fp s H,JE (blk X sc cl C Nc fp s H) elt te)
  (hs:FoOk iter):JS X (.Assign [.Name x pos'] (.ListComp elt [⟨tg,iter,ifs,0⟩] sc pos) spos) (tAsg (tComp m wi g tt te) (kZ i)):=
 ⟨jPC hN hi' hx.a hx.b hsw.h hc hi.h hkind hcell hnames hfree hm (fun cl C fp s H=>(hg cl C fp s H).h) (fun cl C fp s H=>(ht cl C fp s H).h) (fun cl C fp s H=>(he cl C fp s H).h) (hs.h _)⟩
end
end L2
end
section
namespace L2
open PySem PySem.Spec PyProof.Rows
section
variable {prog:Program}{w:World}{A:Around}{E:Value->Shared->Prop}
end
section
variable {X:Cx}
end
theorem jHO:entryFor table "proto.unchain" =some Builtin.«proto.unchain»:=entryFor_of_fast (by kernel_rfl)
def Hnd (h:Heap)(x:Addr):Prop:=∃ o vs,h.get? x=some o/\o.data= .fields vs/\vs[2]?=some .none
section
variable {prog:Program}{w:World}{A:Around}{E:Value->Shared->Prop}{s:Shared}
theorem jH5 {α:Type}{e x:Addr}{oe:Obj}{es:Array Value}{Q:α->Shared->Prop}(hh:A.handled=some (.ref x))(ne:x≠e)(hx:Hnd s.heap x)(he:s.heap.get? e=some oe)(hd:oe.data= .fields es)(hz:2<es.size)
  (h:E (.ref e) { s with heap:=s.heap.update e (Obj.mapFields (·.setIfInBounds 2 (.ref x)))}):wpAny (model prog w) A (raiseNew (.ref e):Sem α) Q E s:=by
 obtain⟨ox,vs,hox,hdx,h2⟩:=hx
 unfold raiseNew
 refine aa (wpAny_handled ?_)
 rw[hh]
 have hne:(Value.ref x != Value.ref e)=true:=by simp [ne]
 dsimp only
 rw[aj hne]
 refine aa (bB (fj (cg jHO ?_)))
 show wpAny _ _ (bind (field (.ref x) 2) _) _ _ _
 refine aa (bM hox hdx h2 ?_)
 rw[aj (by rfl)]
 refine ag ?_
 obtain⟨c,d,dt,sl⟩:=oe
 simp only at hd
 subst hd
 simp only [updateField]
 refine aa (aa (eV he ?_))
 dsimp only
 rw[aj hz]
 exact wpAny_update he (wpAny_throw h)
structure NoteX (fs R:List Addr)(h h':Heap):Prop where
 keep:∀ b o,h.get? b=some o->b∉fs->b∉R->h'.get? b=some o
 slot:∀ b o,h.get? b=some o->b∉R->∃ sl,h'.get? b=some { o with slots:=sl}
 size:h.objs.size<=h'.objs.size
def ExcX (h:Heap)(x C T:Addr):Prop:=∃ vs oT ts,h.get? x=some { cls:= .ref C,data:= .fields vs} /\vs.size=6/\vs[1]?=some (.ref T)/\vs[2]?=some .none/\T≠x/\h.get? T=some oT/\oT.data= .fields ts/\ts[3]?=some .none
theorem jJ4 {env:Env}{outer:List Env}{L x C:Addr}{base:Heap}{vs:Array Value}{head:Value}{had:Bool}{Q:Unit->Shared->Prop}(hfr:A.frames=some (env::outer))(hl:s.heap.FunFrames base (env::outer))(hf:env.frame=some L)
  (hx:s.heap.get? x=some { cls:= .ref C,data:= .fields vs}) (v6:vs.size=6) (v2:vs[2]?=some .none)
  (h:∀ h' T,NoteX (frs (env::outer)) [x] s.heap h'->ExcX h' x C T->s.heap.objs.size<=T->Q () { s with heap:=h'}):
  wpAny (model prog w) A (do let a <- frameOf env; let pl <- entryPlaceOf L had; let b <- EntryCells.newEntry head a .none (rawInt L) .none pl; setField (.ref x) 1 b) (fun _ s'=>wpAny (model prog w) A (setFlight (.ref x) none) Q E s') E s:=by
 have xf:x∉frs (env::outer):=fun hm=>by
  obtain⟨_,o,ho,hn⟩:=hl.mem hm
  rw[hx] at ho
  cases ho
  exact hn _ rfl
 refine aa (wpAny_frameOf_fun hfr hl hf fun h1 so=>aa (wpAny_entryPlaceOf fun pl hpl=>?_))
 have hx1:=(so.2.1 x xf).trans hx
 unfold EntryCells.newEntry newFields
 refine aa (bJ ?_ (hpl.sizeOk5 _ _ _ _ _))
 generalize hts:([head, .ref L, .none,rawInt L, .none]++(if pl.isEmpty then replicate 6 Value.none else pl)).toArray=ts
 have ts3:3<ts.size:=by
  rw[<- hts]
  simp
 have h2x:=ae (h:=h1) { cls:= .type "traceback",data:= .fields ts} hx1
 have h2T:(h1.push { cls:= .type "traceback",data:= .fields ts}).get? h1.objs.size=some { cls:= .type "traceback",data:= .fields ts} :=am h1 rfl
 have sz2:(h1.push { cls:= .type "traceback",data:= .fields ts}).objs.size=h1.objs.size+1:=cx ..
 have nTx:h1.objs.size≠x:=dF (ay hx1)
 have k2:∀ b o,h1.get? b=some o->(h1.push { cls:= .type "traceback",data:= .fields ts}).get? b=some o:=fun b o e=>ae _ e
 generalize h1.push { cls:= .type "traceback",data:= .fields ts} =h2 at h2x h2T sz2 k2 ⊢
 refine eE h2x rfl (by omega) ?_
 have h3x:=bL (Obj.mapFields (·.setIfInBounds 1 (Value.ref h1.objs.size))) h2x rfl
 have h3o:∀ b,b≠x->(h2.update x (Obj.mapFields (·.setIfInBounds 1 (Value.ref h1.objs.size)))).get? b=h2.get? b:=fun b n=>bA _ _ (cY n)
 have h3T:=(h3o _ nTx).trans h2T
 have sz3:(h2.update x (Obj.mapFields (·.setIfInBounds 1 (Value.ref h1.objs.size)))).objs.size=h2.objs.size:=eM ..
 generalize h2.update x (Obj.mapFields (·.setIfInBounds 1 (Value.ref h1.objs.size)))=h3 at h3x h3o h3T sz3 ⊢
 have w1:(vs.setIfInBounds 1 (Value.ref h1.objs.size))[1]?=some (.ref h1.objs.size):=by simp [v6]
 have w2:(vs.setIfInBounds 1 (Value.ref h1.objs.size))[2]?=some .none:=by rw[fD (by decide)]; exact v2
 unfold setFlight
 refine aa (bM (x:= .ref h1.objs.size) h3x rfl w1 ?_)
 rw[aj (show (Value.ref h1.objs.size != Value.none)=true by rfl)]
 refine eE h3T rfl ts3 ?_
 have h4T:=bL (Obj.mapFields (·.setIfInBounds 3 Value.none)) h3T rfl
 have h4o:∀ b,b≠h1.objs.size->(h3.update h1.objs.size (Obj.mapFields (·.setIfInBounds 3 Value.none))).get? b=h3.get? b:=fun b n=>bA _ _ (cY n)
 have sz4:(h3.update h1.objs.size (Obj.mapFields (·.setIfInBounds 3 Value.none))).objs.size=h3.objs.size:=eM ..
 have sz1:=so.1
 refine h (h3.update h1.objs.size (Obj.mapFields (·.setIfInBounds 3 Value.none))) h1.objs.size ⟨fun b o hb n1 n2=>?_,fun b o hb n2=>?_,by omega⟩ ⟨_,_,_,(h4o x (cY nTx)).trans h3x,by simp [v6],w1,w2,nTx,h4T,rfl,?_⟩ (by omega)
 ·have hb1:=(so.2.1 b n1).trans hb
  have nx:b≠x:=fun z=>n2 (by rw[z]; exact aq.mpr rfl)
  rw[h4o b (aR (ay hb1)),h3o b nx]
  exact k2 b o hb1
 ·obtain⟨sl,hb1⟩:=so.2.2 b o hb
  have nx:b≠x:=fun z=>n2 (by rw[z]; exact aq.mpr rfl)
  refine⟨sl,?_⟩
  rw[h4o b (aR (ay hb1)),h3o b nx]
  exact k2 b _ hb1
 ·simp [ts3]
theorem jLI {env:Env}{outer:List Env}{L x C t:Addr}{base:Heap}{Q:Unit->Shared->Prop}(hfr:A.frames=some (env::outer))(hl:s.heap.FunFrames base (env::outer))(hf:env.frame=some L)
  (hx:s.heap.get? x=some { cls:= .ref C,data:= .fields #[.ref t, .none, .none, .none, .bool false, .none]})
  (h:∀ h' T,NoteX (frs (env::outer)) [x] s.heap h'->ExcX h' x C T->s.heap.objs.size<=T->Q () { s with heap:=h'}):wpAny (model prog w) A (leaving env (.ref x)) Q E s:=by
 unfold leaving noteFrame
 simp only [hf]
 refine aa (aa (bM (x:=Value.none) hx rfl rfl ?_))
 rw[ah (by decide)]
 exact jJ4 hfr hl hf hx rfl rfl h
theorem jNC {env:Env}{outer:List Env}{L x C T:Addr}{base:Heap}{Q:Unit->Shared->Prop}(hfr:A.frames=some (env::outer))(hl:s.heap.FunFrames base (env::outer))(hf:env.frame=some L)(hx:ExcX s.heap x C T)
  (h:∀ h' T',NoteX (frs (env::outer)) [x,T] s.heap h'->ExcX h' x C T'->s.heap.objs.size<=T'->Q () { s with heap:=h'}):
  wpAny (model prog w) A (noteFrame (.ref x) env) (fun _ s'=>wpAny (model prog w) A (setFlight (.ref x) none) Q E s') E s:=by
 obtain⟨vs,oT,ts,hx,v6,v1,v2,nTx,hT,hd,t3⟩:=hx
 have t3s:3<ts.size:=(eC.mp t3).1
 unfold noteFrame
 simp only [hf]
 refine aa (bM hx rfl v1 ?_)
 rw[aj (show (Value.ref T != Value.none)=true by rfl)]
 refine aa (bM hT hd t3 ?_)
 rw[ah (show ¬ ((Value.none==rawInt L)=true) by simp [rawInt])]
 refine aa (eE hT hd t3s ?_)
 have uo:∀ b,b≠T->(s.heap.update T (Obj.mapFields (·.setIfInBounds 3 Value.none))).get? b=s.heap.get? b:=fun b n=>bA _ _ (cY n)
 have us:(s.heap.update T (Obj.mapFields (·.setIfInBounds 3 Value.none))).objs.size=s.heap.objs.size:=eM ..
 have nT:∀ b o,s.heap.get? b=some o->(∀ vs,o.data≠ .fields vs)->b≠T:=fun b o hb hn z=>by
  rw[z,hT] at hb
  cases hb
  exact hn _ hd
 generalize s.heap.update T (Obj.mapFields (·.setIfInBounds 3 Value.none))=h1 at uo us ⊢
 refine jJ4 (s:= { s with heap:=h1}) (C:=C) hfr (hl.of_keeps fun b o hb hn=>⟨o,(uo b (nT b o hb hn)).trans hb,rfl⟩) hf ((uo x (cY nTx)).trans hx) v6 v2 fun h' T' n e z=>h h' T' ⟨fun b o hb m1 m2=>?_,fun b o hb m2=>?_,by have:=n.size; show s.heap.objs.size<=_; rw[<- us]; exact this⟩ e (by rw[<- us]; exact z)
 ·have b1:b≠T:=fun z=>m2 (by rw[z]; simp)
  have b2:b≠x:=fun z=>m2 (by rw[z]; simp)
  exact n.keep b o ((uo b b1).trans hb) m1 (by simpa using b2)
 ·have b1:b≠T:=fun z=>m2 (by rw[z]; simp)
  have b2:b≠x:=fun z=>m2 (by rw[z]; simp)
  exact n.slot b o ((uo b b1).trans hb) (by simpa using b2)
end
end L2
namespace L2
open PySem PySem.Spec PyProof.Rows
abbrev bmVE:List Value:=[.type "ValueError", .type "Exception", .type "BaseException", .type "object"]
def ExcK (K:W.Frag)(C:Addr):Prop:=∃ (nm q:Str) (N:Addr) (bs bm:List Value) (hdct:Bool) (sn:List Str) (sub:List Value) (ab:Bool) (col:Option Bool) (dd:Option Addr) (k0 k1 k2 k3 k5:Option Value) (mN:Str->Option Value),
 mN "__init__" =none/\bm.contains (.type "BaseException")=true/\∀ h:Heap,K.In h->h.get? C=some (excClassObj nm q C N bs bm hdct sn sub ab col dd k0 k1 k2 k3 k5 "ValueError.__new__")/\h.Ns N mN/\OwnTail h bmVE bm
section
variable {X:Cx}{x:Str}{C:Addr}{W:Hp->Prop}{e:Expr}{t:TA}{np cpos pos:Pos}
theorem jKQ (hc:X.calm=true)(ek:ExcK X.K C)(hg:Gl X x)(hm:X.mg x=some (.ref C))(ha:PA X [e] t)
  (hx:∀ pins σ H s h' a us,Inv X pins σ H s->Heap.MadeExcOf s.heap h' a (.ref C) us->W H->X.xe (.ref a) { s with heap:=h'})
  (hd:(x==("__debug__" :Str))=false:=by decide) (he:starEach [e] X.env=(false,eval e X.env)::starEach [] X.env:=by rfl) (hpl:(backTo cpos (starEach [e] X.env)).any (·.1)=false:=by rfl):
  PS X (.Raise (some (.Call (.Name x np) [e] [] cpos)) none pos) (fun _ σ H=>t σ H fun vs H1=>vs.length<=sizeLine/\W H1):=by
 intro pins s σ H D I h
 obtain⟨nm,q,N,bs,bm,hdct,sn,sub,ab,col,dd,k0,k1,k2,k3,k5,mN,hni,hb,hK⟩:=ek
 refine wpAny_Raise_call_subU (C:=C) (N:=N) (bs:=bs) (bm:=bm) (hdct:=hdct) (sn:=sn) (sub:=sub) (ab:=ab) (col:=col) (dd:=dd) (k0:=k0) (k1:=k1) (k2:=k2) (k3:=k3) (k5:=k5) (nm:=nm) (q:=q) gO (by decide) gO hb (I.ok.hd hc) hpl hni (jBP I hg hm ⟨rfl,?_⟩ hd)
 obtain⟨y,r,hy⟩:∃ y r,backTo cpos (starEach [e] X.env)=(false,y)::r:=by
  rw[he]
  exact⟨_,_,rfl⟩
 have h2:=ha cpos pins s σ H _ I h
 rw[hy] at h2 ⊢
 refine gq (thn h2 fun us s1 ⟨vs,H1,I1,r1,z,w1⟩=>?_)
 obtain⟨c1,c2,c3⟩:=hK s1.heap I1.kIn
 exact⟨rfl,by rw[<- r1.length]; exact z,c1,c2,c3,fun h' a m=>hx pins σ H1 s1 h' a us I1 m w1⟩
end
end L2
namespace L2
open PySem PySem.Spec PyProof.Rows
theorem HOk.note {P:Program}{w:World}{H:Hp}{h h':Heap}{fs R:List Addr}(x:HOk P w H h)(n:NoteX fs R h h')(hf:∀ b∈fs,H b=none)(hR:∀ b∈R,H b=none):HOk P w H h':=fun a o e=>
 (x a o e).stay (fun b u hb q=>n.keep b u q (fun z=>by
   have:=hf b z
   rcases hb with rfl | hb
   ·rw[e] at this; cases this
   ·rw[hb] at this; cases this) (fun z=>by
   have:=hR b z
   rcases hb with rfl | hb
   ·rw[e] at this; cases this
   ·rw[hb] at this; cases this)) (fun _ q=>q) fun _ _ q=>q
theorem ObjOk.is {P:Program}{w:World}{H:Hp}{h:Heap}{a:Addr}{o:HO}(x:ObjOk P w H h a o):∃ u,h.get? a=some u:=by
 cases o with
 | lst xs=>obtain⟨_,_,_,_,e⟩:=x; exact⟨_,e⟩
 | tup xs=>obtain⟨_,_,_,_,e⟩:=x; exact⟨_,e⟩
 | dK kvs=>obtain⟨_,_,_,_,o,_,_,e,_⟩:=x; exact⟨_,e⟩
 | dT kvs=>obtain⟨_,_,_,_,o,_,_,e,_⟩:=x; exact⟨_,e⟩
 | set S n=>obtain⟨o,_,_,_,e,_⟩:=x; exact⟨_,e⟩
 | ins C dx fs=>obtain⟨_,_,_,e,_⟩:=x; exact⟨_,e⟩
 | own y=>exact x
 | xd fs=>obtain⟨_,⟨_,_,_,e,_⟩,_⟩:=x; exact⟨_,e⟩
 | rng lo hi=>obtain⟨_,_,_,e⟩:=x; exact⟨_,e⟩
 | frz ob u=>obtain⟨e,_⟩:=x; exact⟨_,e⟩
 | tbl ps=>exact⟨_,x⟩
 | met f y=>exact⟨_,x⟩
 | ext φ=>obtain⟨_,q,_⟩:=x; exact q
def CXX (P:Program)(w:World)(C:Addr):CXT:=fun outer H s E e s'=>∃ x T H',e= .ref x/\s'.os=s.os/\AllBare s'.gens/\Un (frs outer) [] H H' s.heap s'.heap/\HOk P w H' s'.heap/\s.heap.get? x=none/\s.heap.objs.size<=T/\H' x=none/\H' T=none/\ExcX s'.heap x C T/\E e (some x) H'
theorem xe_cx {P:Program}{w:World}{K:W.Frag}{mg:Str->Option Value}{base:Heap}{N:List Str}{qual:Str}{sc:Scope}{f:Addr}{cdv:Value}{A:Around}{outer:List Env}{s:Shared}{H:Hp}{E:XK}{C:Addr}
  {pins:List (Addr×Obj)}{σ:St}{H1:Hp}{s1:Shared}{h':Heap}{a:Addr}{us:List Value}(I:Inv (cxOf (CXX P w C) P w K mg base N qual sc f cdv A outer s H E) pins σ H1 s1) (m:Heap.MadeExcOf s1.heap h' a (.ref C) us) (w1:∀ a,E (.ref a) (some a) H1):
  (cxOf (CXX P w C) P w K mg base N qual sc f cdv A outer s H E).xe (.ref a) { s1 with heap:=h'} :=by
 obtain⟨t,ha,ht,_⟩:=m.there
 have fr:=I.ok.frames
 have st:s1.heap.FunFrames base (PyProof.Rows.envOfC qual sc s.heap.objs.size f cdv::outer):=I.stack
 have an:=m.new
 have sz:s.heap.objs.size<=s1.heap.objs.size:=I.sz
 have aH:H1 a=none:=by
  cases q:H1 a with
  | none=>rfl
  | some o=>
   obtain⟨u,hu⟩:=(I.hok a o q).is
   rw[an] at hu
   cases hu
 have hs:s.heap.objs.size<h'.objs.size:=by
  obtain⟨mm,⟨o,es,ep,hL,_⟩,_⟩:=I.loc
  exact ay (m.keeps _ _ hL)
 refine jLI (s:= { s1 with heap:=h'}) (base:=base) fr (st.of_keeps fun b o hb _=>⟨o,m.keeps b o hb,rfl⟩) rfl ha fun h2 T n e z=>?_
 have z:h'.objs.size<=T:=z
 have un:Un (frs outer) [] H H1 s.heap s1.heap:=I.base
 have nl:∀ b o,s.heap.get? b=some o->b∉frs outer->b∉frs (PyProof.Rows.envOfC qual sc s.heap.objs.size f cdv::outer):=fun b o hb n1 hm=>by
  rcases aF.mp (show b∈s.heap.objs.size::frs outer from hm) with q | q
  ·exact absurd (ay hb) (by rw[q]; exact cI _)
  ·exact n1 q
 have na:∀ b o,s.heap.get? b=some o->b∉ [a]:=fun b o hb hm=>by
  obtain⟨o',q⟩:=un.there b o hb (by simp)
  rw[aq.mp hm,an] at q
  cases q
 refine⟨a,T,H1,rfl,I.os,I.bare,⟨fun b o hb n1 n2 n3=>?_,fun b o hb n1 n2 n3=>?_,un.free,fun b o hb n3=>?_,un.tups,un.frzs,un.tbls⟩,?_,?_,by omega,aH,(I.hok.kept m.keeps).fresh z,e,w1 a⟩
 ·exact n.keep b o (m.keeps _ _ (un.keep b o hb n1 n2 n3)) (nl b o hb n2) (na b o hb)
 ·obtain⟨sl,q⟩:=un.slot b o hb n1 n2 n3
  obtain⟨sl2,q2⟩:=n.slot b _ (m.keeps _ _ q) (na b o hb)
  exact⟨sl2,q2⟩
 ·obtain⟨o',q⟩:=un.there b o hb n3
  obtain⟨sl2,q2⟩:=n.slot b _ (m.keeps _ _ q) (na b o hb)
  exact⟨_,q2⟩
 ·refine(I.hok.kept m.keeps).note n (fun b hb=>I.stkFree b hb) fun b hb=>?_
  rw[aq.mp hb]
  exact aH
 ·cases q:s.heap.get? a with
  | none=>rfl
  | some o=>exact absurd (aq.mpr rfl) (na a o q)
end L2
namespace L2
open PySem PySem.Spec PyProof.Rows
section
variable {M:Model}{A:Around}{E:Value->Shared->Prop}{h:Heap}{g:Array GenState}{d:Drawn}{tk:Nat}{os:OsState}
theorem jNG {nm q nm' q':Str}{C N B N' x:Addr}{bs bm bs' bm':List Value}{hdct hdct':Bool}{sn sn':List Str}{sub sub':List Value}{ab ab':Bool}{col col':Option Bool}{dd dd':Option Addr}{k0 k1 k2 k3 k5 j0 j1 j2 j3 j5:Option Value}{ni ni':String}{ox:Obj}{Q:Bool->Shared->Prop}
  (hC:h.get? C=some (excClassObj nm q C N bs bm hdct sn sub ab col dd k0 k1 k2 k3 k5 ni)) (hB:h.get? B=some (excClassObj nm' q' B N' bs' bm' hdct' sn' sub' ab' col' dd' j0 j1 j2 j3 j5 ni')) (hx:h.get? x=some ox) (hc:ox.cls= .ref C)
  (hb:bm'.contains (.type "BaseException")=true) (hin:bm.contains (.ref B)=true) (z:Q true ⟨h,g,d,tk,os⟩):wpAny M A (excMatches (.ref x) (.ref B)) Q E ⟨h,g,d,tk,os⟩:=by
 have b1:(Value.ref B::bm').contains (.type "BaseException")=true:=by rw[iZ,hb,dJ]
 have b2:(Value.ref C::bm).contains (.ref B)=true:=by rw[iZ,hin,dJ]
 have f0:=tc_notTuple
 unfold excMatches
 repeat (first | (with_reducible refine wpAny_loadPart_at hx ?_; rw[hc]) | with_reducible refine wpAny_loadPart_at hB ?_ | (with_reducible refine wpAny_isSubtype_exc hB ?_; rw[b1]) | (with_reducible refine wpAny_isSubtype_exc hC ?_; rw[b2]) | wp_step)
 exact z
end
end L2
namespace L2
open PySem PySem.Spec PyProof.Rows
structure ExcIs (K:W.Frag)(C:Addr):Prop where
 ga:findIn K (.ref C) "__getattribute__" =some (some (.builtin "BaseException.__getattribute__"))
 gr:findIn K (.ref C) "__getattr__" =some none
 hc:(clsIn K C).isSome=true
 ha:findIn K (.ref C) "__class__" =some (some (.builtin "object.__class__"))
 hn:specialIn K (.builtin "object.__class__") "__get__" =some (some (.builtin "getset_descriptor.__get__"))
 tk:takesIn K (.builtin "object.__class__")=some true
 hm:mroIn K C (.type "object")=some true
 hb:mroIn K C (.type "BaseException")=some true
def excP (x C:Addr):Heap->Prop:=fun h=>∃ vs,h.get? x=some { cls:= .ref C,data:= .fields vs} /\vs[2]?=some .none
theorem excP.inst {x C:Addr}{h:Heap}(p:excP x C h):∃ ox,PySem.W.InstAt h x ox C none:=by
 obtain⟨vs,e,_⟩:=p
 exact⟨_,e,rfl,rfl,True.intro⟩
theorem jM9 {K:W.Frag}{x C:Addr}{ox:Obj}{prog:Program}{w:World}{A:Around}{E:Value->Shared->Prop}{Q:Option Value->Shared->Prop}{s:Shared}(c:ExcIs K C)(X:K.In s.heap)(I:PySem.W.InstAt s.heap x ox C none)(k:Q (some (.ref C)) { s with toks:=s.toks+1}):wpAny (model prog w) A (getAttr? (.ref x) "__class__") Q E s:=by
 have hf:findObj K C none "__class__" =some (.bind (.builtin "getset_descriptor.__get__") (.builtin "object.__class__")):=by
  obtain⟨cd,hcd⟩:=dM.mp c.hc
  unfold findObj
  rw[hcd,bind_some,c.ha,bind_some]
  simp [c.hn,c.tk]
 obtain⟨hh,g,d,t,os⟩:=s
 have L0:=I.type (M:=model prog w)
 have L1:=iI (M:=model prog w) X c.ga
 have L2:=iI (M:=model prog w) X c.gr
 have L3:=PySem.W.looks_find (M:=model prog w) X I hf
 have L4:PySem.W.Looks (model prog w) hh (isInstance (.ref x) (.type "BaseException")) true:=L0.andThen (PySem.W.looks_mroIn (M:=model prog w) X c.hb)
 have e1:(onTheHeap (.ref C)&&(Value.builtin "BaseException.__getattribute__" == .builtin "object.__getattribute__"))=false:=by
  have z:(Value.builtin "BaseException.__getattribute__" == .builtin "object.__getattribute__")=false:=by decide+kernel
  rw[z,da]
 unfold getAttr? getAttrBy? getAttrBy
 refine aa (wpAny_mkText (aa (dz (bB (aa (L0.at (aa (L1.at ?_))))))))
 dsimp only
 rw[e1,ah (by decide)]
 unfold getAttrByItsOwn hookBefore
 rw[aj (by rfl)]
 refine aa (L2.at (aa (dz (bB ?_))))
 unfold callGetattribute boundAndCalled
 rw[ah (by decide),ig.ga.bind]
 refine aa (ag (eX (codeAny_call_builtin ig.ga.plain PySem.F.entry_bexc_ga ?_)))
 have hk:builtinKind "BaseException.__getattribute__" =some .slot/\splitId "BaseException.__getattribute__" =some ("BaseException","__getattribute__"):=by decide+kernel
 have ha:=PySem.F.args_bexc_ga (.ref x) (.str "__class__" t)
 simp only [checkBuiltinCall,hk.1,hk.2]
 refine aa (L4.at ?_)
 rw[ah (by decide)]
 refine gY (a:=()) ha (aa (ag (aa (ag (aa (L0.at (aa (L3.at ?_))))))))
 refine(show wpAny _ _ (holding [.builtin "object.__class__"] (call (.builtin "getset_descriptor.__get__") [.builtin "object.__class__", .ref x, .ref C]) >>= ret) _ _ _ from aa (bB (eX ?_)))
 exact PySem.W.class_get (s:=⟨hh,g,d,t+1,os⟩) (ox:=ox) (od:=none) X I c.hm (ag (PySem.W.handed_on rfl (ag k)))
theorem jNK {K:W.Frag}{x C:Addr}(c:ExcIs K C):PySem.W.KitX K (.ref x) (.ref C) (excP x C) where
 ty:=fun _ _ _ p=>by
  obtain⟨ox,I⟩:=p.inst
  exact I.type
 it:=fun _ _ X _=>by
  obtain⟨cd,hcd⟩:=dM.mp c.hc
  unfold clsIn at hcd
  split at hcd
  ·rename_i c' d' cd' sl' ho
   intro A' Q' E' s' k q
   unfold isType loadHead
   exact aa (wpAny_loadPart (k _ _ (X _ _ ho)) (ag q))
  ·cases hcd
 ne:=fun h tp dd its n sl X htp=>by
  obtain⟨cd,hcd⟩:=dM.mp c.hc
  refine dj.mpr fun q=>?_
  have e:C=tp:=Value.ref.inj (fZ.mp q)
  subst e
  unfold clsIn at hcd
  split at hcd
  ·rename_i c' d' cd' sl' ho
   have z:=(X _ _ ho).symm.trans htp
   cases z
  ·cases hcd
 ca:=fun {prog w A E Q s} X p k=>by
  obtain⟨ox,I⟩:=p.inst
  exact jM9 c X I k
theorem jX {X:Cx}{C:Addr}(ci:ExcIs X.K C):yO X (.builtin "isinstance") (fun xs H Q=>∃ x c u b,xs=[.ref x,c]/\H x=some (.ext (excP x C))/\(∀ v,RelV c v->v=u)/\kitOne X.K (.ref C) u=some b/\Q (.bl b) H):=by
 intro pins s σ H xs us Q I r h
 obtain⟨x,c,u,b,rfl,hx,hu,e,q⟩:=h
 obtain⟨v,y,rfl,rv,ry⟩:=r.two
 cases (show v=Value.ref x from rv)
 cases hu y ry
 obtain⟨p,_,_⟩:=(show ObjOk X.prog X.w H s.heap x (.ext (excP x C)) from I.hok x _ hx)
 exact bX (jNK ci) I.kIn p e (fun z=>nomatch z) fun tk=>⟨.bl b,H,I.tok tk,rfl,q⟩
end L2
namespace L2
open PySem PySem.Spec PyProof.Rows
section
variable {X:Cx}{pins:List (Addr×Obj)}{σ:List (Option V)}{H H':Hp}{s:Shared}{h':Heap}
theorem Inv.stepX {g':Array GenState}{t':Nat}{d':Drawn}{ch:List Addr}(I:Inv X pins σ H s)
  (hch:∀ b∈ch,X.s₀.heap.get? b=none/\b≠X.env.locals/\(∀ x c,X.env.cells.lookup x=some c->c≠b)/\∀ p∈X.pn++pins,p.1≠b)
  (keep:∀ b o,b≠X.env.locals->b∉X.fs->b∉ch->s.heap.get? b=some o->H b=none->h'.get? b=some o)
  (slot:∀ b o,b≠X.env.locals->b∈X.fs->b∉ch->s.heap.get? b=some o->H b=none->∃ sl,h'.get? b=some { o with slots:=sl}) (free:∀ b o,b∉ch->s.heap.get? b=some o->H b=none->H' b=none)
  (there:∀ b o,b∉ch->s.heap.get? b=some o->∃ o',h'.get? b=some o')
  (tups:∀ b xs,H b=some (.tup xs)->H' b=some (.tup xs)) (frzs:∀ b o u,H b=some (.frz o u)->H' b=some (.frz o u)) (tbls:∀ b ps,H b=some (.tbl ps)->∃ more,H' b=some (.tbl (ps++more)))
  (ns:∀ m,s.heap.Ns X.env.locals m->h'.Ns X.env.locals m) (hok:HOk X.prog X.w H' h') (hg:AllBare g'):
  Inv X pins σ H' { s with heap:=h',gens:=g',drawn:=d',toks:=t'} :=by
 have neL:∀ b o,X.s₀.heap.get? b=some o->b≠X.env.locals:=fun b o e=>aR (aX (ay e) I.ok.above)
 have neC:∀ b o,X.s₀.heap.get? b=some o->b∉X.ex->b∉ch:=fun b o e hx hb=>by
  have z:=(hch b hb).1
  rw[e] at z
  cases z
 have cellK:∀ x c,X.env.cells.lookup x=some c->∀ v,s.heap.IsCell c v->h'.IsCell c v:=fun x c e v ⟨o,ho,hd⟩=>by
  have nch:c∉ch:=fun z=>(hch c z).2.2.1 x c e rfl
  by_cases hc:c∈X.fs
  ·obtain⟨sl,q⟩:=slot c o (I.cne x c e) hc nch ho (I.freeC x c e)
   exact⟨_,q,hd⟩
  ·exact⟨o,keep c o (I.cne x c e) hc nch ho (I.freeC x c e),hd⟩
 refine⟨I.ok,I.os,hg,⟨fun b o e n hb hx=>?_,fun b o e n hb hx=>?_,fun b o e n hx=>?_,fun b o e hx=>?_,fun b xs e=>tups b xs (I.base.tups b xs e),fun b o xs e=>frzs b o xs (I.base.frzs b o xs e),fun b ps e=>?_⟩,?_,fun x c e=>?_,?_,fun x c e=>?_,fun p hp=>?_,hok,I.len⟩
 ·exact keep b o (neL b o e) hb (neC b o e hx) (I.base.keep b o e n hb hx) (I.base.free b o e n hx)
 ·obtain⟨sl,e1⟩:=I.base.slot b o e n hb hx
  obtain⟨sl',e2⟩:=slot b _ (neL b o e) hb (neC b o e hx) e1 (I.base.free b o e n hx)
  exact⟨sl',e2⟩
 ·obtain⟨o',e1⟩:=I.base.there b o e hx
  exact free b o' (neC b o e hx) e1 (I.base.free b o e n hx)
 ·obtain⟨o',e1⟩:=I.base.there b o e hx
  exact there b o' (neC b o e hx) e1
 ·obtain⟨m1,e1⟩:=I.base.tbls b ps e
  obtain⟨m2,e2⟩:=tbls b _ e1
  exact⟨m1++m2,by rw[e2,iU]⟩
 ·obtain⟨m,hn,hl⟩:=I.loc
  refine⟨m,ns m hn,fun i x v e1 e2 e3=>?_⟩
  obtain⟨u,r,l⟩:=hl i x v e1 e2 e3
  refine⟨u,r,?_⟩
  rcases l with l | ⟨k,c,e,z⟩
  ·exact .inl l
  ·exact .inr ⟨k,c,e,cellK x c e _ z⟩
 ·obtain⟨v,z⟩:=I.cell x c e
  exact⟨v,cellK x c e v z⟩
 ·obtain⟨m,⟨o,_,_,ho,_⟩,_⟩:=I.loc
  exact free _ o (fun z=>(hch _ z).2.1 rfl) ho I.free
 ·obtain⟨v,o,ho,hd⟩:=I.cell x c e
  exact free c o (fun z=>(hch c z).2.2.1 x c e rfl) ho (I.freeC x c e)
 ·obtain⟨e,n,ne,nf,d⟩:=I.pin p hp
  have nch:p.1∉ch:=fun z=>(hch p.1 z).2.2.2 p hp rfl
  exact⟨keep p.1 p.2 ne nf nch e n,free p.1 p.2 nch e n,ne,nf,d⟩
theorem Inv.callX {g':Array GenState}{t':Nat}{d':Drawn}{ch:List Addr}(I:Inv X pins σ H s)(u:Un (frs X.stack) ch H H' s.heap h')(hok:HOk X.prog X.w H' h')(hg:AllBare g')
  (hch:∀ b∈ch,X.s₀.heap.get? b=none/\b≠X.env.locals/\(∀ x c,X.env.cells.lookup x=some c->c≠b)/\∀ p∈X.pn++pins,p.1≠b):
  Inv X pins σ H' { s with heap:=h',gens:=g',drawn:=d',toks:=t'} :=by
 obtain⟨m,⟨o,es,ep,ho,r⟩,_⟩:=id I.loc
 obtain⟨sl,hL⟩:=u.any ho I.free fun z=>(hch _ z).2.1 rfl
 exact I.stepX (ch:=ch) hch (fun b o hL hb hc e n=>u.keep b o e n (fun z=>(aF.mp (I.stkSub b z)).elim hL hb) hc) (fun b o _ _ hc e n=>u.any e n hc) (fun b o hc e n=>u.free b o e n hc) (fun b o hc e=>u.there b o e hc) u.tups u.frzs u.tbls (fun m' hm=>by
  obtain⟨o',es',ep',ho',r'⟩:=hm
  rw[ho] at ho'; cases ho'
  exact⟨_,es',ep',hL,r'⟩) hok hg
end
end L2
namespace L2
open PySem PySem.Spec PyProof.Rows
theorem excP.of {h:Heap}{x C T:Addr}(e:ExcX h x C T):excP x C h:=by
 obtain⟨vs,_,_,h1,_,_,h2,_⟩:=e
 exact⟨vs,h1,h2⟩
theorem excP.stay {x C:Addr}(h1 h2:Heap)(p:excP x C h1)(k:∀ o,h1.get? x=some o->h2.get? x=some o):excP x C h2:=by
 obtain⟨vs,e,c⟩:=p
 exact⟨vs,k _ e,c⟩
section
variable {X:Cx}{pins:List (Addr×Obj)}{σ:St}{H H':Hp}{s:Shared}{h2:Heap}{x C T T':Addr}
theorem Inv.apart (I:Inv X pins σ H s)(hex:X.ex=[]){b:Addr}(hb:s.heap.get? b=none):X.s₀.heap.get? b=none/\b≠X.env.locals/\(∀ y c,X.env.cells.lookup y=some c->c≠b)/\∀ p∈X.pn++pins,p.1≠b:=by
 refine⟨?_,fun z=>?_,fun y c e z=>?_,fun p hp z=>?_⟩
 ·cases q:X.s₀.heap.get? b with
  | none=>rfl
  | some o=>
   obtain⟨o',e⟩:=I.base.there b o q (by rw[hex]; simp)
   rw[hb] at e
   cases e
 ·obtain⟨m,⟨o,es,ep,hL,_⟩,_⟩:=I.loc
  rw[<- z,hb] at hL
  cases hL
 ·obtain⟨v,o,ho,_⟩:=I.cell y c e
  rw[z,hb] at ho
  cases ho
 ·have:=(I.pin p hp).1
  rw[z,hb] at this
  cases this
theorem Inv.held (I:Inv X pins σ H' s)(n:NoteX (frs X.stack) [x,T] s.heap h2)(e:ExcX h2 x C T')(hx:H' x=none)(hT:H' T=none)
  (ax:X.s₀.heap.get? x=none/\x≠X.env.locals/\(∀ y c,X.env.cells.lookup y=some c->c≠x)/\∀ p∈X.pn++pins,p.1≠x)
  (aT:X.s₀.heap.get? T=none/\T≠X.env.locals/\(∀ y c,X.env.cells.lookup y=some c->c≠T)/\∀ p∈X.pn++pins,p.1≠T):
  Inv X pins σ (upd H' x (.ext (excP x C))) { s with heap:=h2} :=by
 have nx:∀ {b:Addr}{o:HO},H' b=some o->b≠x:=fun {b o} q z=>by
  rw[z,hx] at q
  cases q
 refine I.callX (g':=s.gens) (d':=s.drawn) (t':=s.toks) (ch:=[x,T]) ⟨fun b o q z n1 n2=>n.keep b o q n1 n2,fun b o q z n1 n2=>n.slot b o q n2,fun b o q z n2=>?_,fun b o q n2=>?_,fun b xs q=>by rw[jA (nx q)]; exact q,fun b o u q=>by rw[jA (nx q)]; exact q,fun b ps q=>⟨#[],by rw[jA (nx q),q]; simp⟩⟩ (fun a o q=>?_) I.bare (fun b hb=>?_)
 ·rw[jA (fun z=>n2 (by rw[z]; simp))]
  exact z
 ·obtain⟨sl,w⟩:=n.slot b o q n2
  exact⟨_,w⟩
 ·by_cases ha:a=x
  ·subst ha
   rw[j8] at q
   cases q
   obtain⟨vs,_,_,w,_⟩:=id e
   exact⟨.of e,⟨_,w⟩,excP.stay⟩
  ·rw[jA ha] at q
   have hk:=I.hok.note n I.stkFree fun b hb=>by
    rcases aF.mp hb with z | z
    ·rw[z]; exact hx
    ·rw[aq.mp z]; exact hT
   exact(hk a o q).stay (fun _ _ _ w=>w) (fun b w=>by rw[jA (nx w)]; exact w) fun b xs w=>by rw[jA (nx w)]; exact w
 ·rcases aF.mp hb with z | z
  ·rw[z]; exact ax
  ·rw[aq.mp z]; exact aT
end
def jAQ (X:Cx)(x:Addr):Cx:= { X with A:=X.A.mark (some (.ref x)),calm:=false,xe:=fun _ _=>False}
section
variable {X:Cx}{pins:List (Addr×Obj)}{σ:St}{H:Hp}{s:Shared}{x:Addr}
theorem Cx.Ok.suite (ok:X.Ok)(x:Addr):(jAQ X x).Ok:=
 ⟨ok.mod,ok.kind,ok.glob,ok.blt,ok.above,ok.inj,ok.has,ok.cab,fun z=>(nomatch z),ok.frames,ok.stk,ok.exf,ok.bs,ok.bsz,ok.noex,ok.exfs,ok.funs,ok.frf⟩
theorem Inv.suite (I:Inv X pins σ H s)(x:Addr):Inv (jAQ X x) pins σ H s:=⟨I.ok.suite x,I.os,I.bare,I.base,I.loc,I.cell,I.free,I.freeC,I.pin,I.hok,I.len⟩
theorem Inv.unsuite (ok:X.Ok)(I:Inv (jAQ X x) pins σ H s):Inv X pins σ H s:=⟨ok,I.os,I.bare,I.base,I.loc,I.cell,I.free,I.freeC,I.pin,I.hok,I.len⟩
end
section
variable {M:Model}{A:Around}{E:Value->Shared->Prop}{s:Shared}{x C T:Addr}{Q:Unit->Shared->Prop}
theorem jHN (e:ExcX s.heap x C T)(h:∀ h',(∀ b o,s.heap.get? b=some o->h'.get? b=some o)->Q () { s with heap:=h'}):wpAny M A (setFlight (.ref x) none) Q E s:=by
 obtain⟨vs,oT,ts,hx,v6,v1,v2,nTx,hT,hd,t3⟩:=e
 have t3s:3<ts.size:=(eC.mp t3).1
 unfold setFlight
 refine aa (bM (x:= .ref T) hx rfl v1 ?_)
 rw[aj (show (Value.ref T != Value.none)=true by rfl)]
 refine eE hT hd t3s (h _ fun b o hb=>?_)
 by_cases hbT:b=T
 ·subst hbT
  rw[hT] at hb
  cases hb
  obtain⟨c,d,dt,sl⟩:=oT
  simp only at hd
  subst hd
  refine(bL (Obj.mapFields (·.setIfInBounds 3 Value.none)) hT rfl).trans ?_
  have e3:ts.setIfInBounds 3 Value.none=ts:=by
   apply Array.ext_getElem?
   intro i
   by_cases hi:i=3
   ·subst hi
    rw[t3]
    simp [t3s]
   ·rw[fD (cY hi)]
  show some ({ cls:=c,dict:=d,data:= .fields (ts.setIfInBounds 3 Value.none),slots:=sl} :Obj)=_
  rw[e3]
 ·exact(bA _ _ (cY hbT)).trans hb
end
def Above (K:W.Frag)(C B:Addr):Prop:=∃ (nm q nm' q':Str) (N N':Addr) (bs bm bs' bm':List Value) (hdct hdct':Bool) (sn sn':List Str) (sub sub':List Value) (ab ab':Bool) (col col':Option Bool) (dd dd':Option Addr) (k0 k1 k2 k3 k5 j0 j1 j2 j3 j5:Option Value) (ni ni':String),
 bm'.contains (.type "BaseException")=true/\bm.contains (.ref B)=true/\∀ h:Heap,K.In h->h.get? C=some (excClassObj nm q C N bs bm hdct sn sub ab col dd k0 k1 k2 k3 k5 ni)/\h.get? B=some (excClassObj nm' q' B N' bs' bm' hdct' sn' sub' ab' col' dd' j0 j1 j2 j3 j5 ni')
section
variable {X:Cx}{y n g c:Str}{i j k:Nat}{f B C:Addr}{fd:FuncData}{ps:List Str}{sp:Sp}{e r:Expr}{es:List Expr}{t:TA}{te:Addr->TE}{yp gp cp ap np rp hp tp:Pos}
end
theorem Hnd.kept {h h':Heap}{x:Addr}(n:Hnd h x)(k:∀ b o,h.get? b=some o->h'.get? b=some o):Hnd h' x:=by
 obtain⟨o,vs,e,d,z⟩:=n
 exact⟨o,vs,k _ _ e,d,z⟩
theorem excP.hnd {h:Heap}{x C:Addr}(p:excP x C h):Hnd h x:=by
 obtain⟨vs,e,z⟩:=p
 exact⟨_,vs,e,rfl,z⟩
section
variable {prog:Program}{w:World}{A:Around}{E:Value->Shared->Prop}{s:Shared}
theorem jG2 {it x:Addr}{lo left step:Int}{Q:Option Value->Shared->Prop}(hh:A.handled=some (.ref x))(hx:Hnd s.heap x)(hit:IsRangeIter s.heap it lo left step)(hl:left<=0)
  (hQ:∀ h',(∀ b o,s.heap.get? b=some o->h'.get? b=some o)->Q none { s with heap:=h'}):wpAny (model prog w) A (pyNext (.ref it)) Q E s:=by
 have ty:s.TypeIs (.ref it) "range_iterator" :=⟨_,hit,rfl⟩
 unfold pyNext
 refine aa (dz (bZ (name:=Str.ofString "__next__") ty F.slot_range_iterator_next (bR F.slot_range_iterator_next ty F.entry_range_iterator_next ?_ (F.args_range_iterator_next_1 _))))
 refine(show wpAny _ _ (field (.ref it) 0 >>= _) _ _ s from aa (bM hit rfl (x:=rawInt lo) rfl ?_))
 refine(show wpAny _ _ (field (.ref it) 1 >>= _) _ _ s from aa (bM hit rfl (x:=rawInt left) rfl ?_))
 refine(show wpAny _ _ (field (.ref it) 2 >>= _) _ _ s from aa (bM hit rfl (x:=rawInt step) rfl ?_))
 refine(show wpAny _ _ (if left<=0 then _ else _) _ _ s from ?_)
 rw[aj hl]
 refine aa (cU (aa ?_))
 refine(show wpAny _ _ (newExc (.type "StopIteration") [] >>= _) _ _ _ from aa ?_)
 simp only [newExc,newTuple]
 refine aa (bJ (aa (m:=firstArgMember _ _) (gY (a:=Value.none) (by first | rfl | (simp only [firstArgMember]; rfl)) (bJ ?_ (by size_fits)))) (by size_fits))
 have xl:x<s.heap.objs.size:=by
  obtain⟨o,_,e,_⟩:=hx
  exact ay e
 refine jH5 hh (aR (aX xl ?_)) (hx.kept fun b o e=>ae _ (ae _ e)) (am _ rfl) rfl (by simp only [Array.size_append,ao,aQ,cf]; omega) ?_
 ·exact cJ (by rw[cx]; exact fN _)
 ·refine aa (fQ (T:= "StopIteration") (b:=true) ⟨_,bL _ (am _ rfl) rfl,rfl⟩ iH (ag (hQ _ fun b o e=>?_)))
  rw[bA _ _ (cY (aR (aX (ay e) (cJ (by rw[cx]; exact fN _)))))]
  exact ae _ (ae _ e)
end
def ItrS (x:Addr)(lo:Int)(n:Nat):It:=⟨fun i _=>i<n,fun i H y H'=>H'=H/\y= .int (lo+i),fun i H=>n<=i/\∃ C,H x=some (.ext (excP x C))⟩
def iRngS (x:Addr)(ta:TA):TI:=fun σ H R=>ta σ H fun vs H1=>∃ j:Int,vs=[.int j]/\ -(2 ^ 62)<=j/\j<2 ^ 62/\R (ItrS x 0 j.toNat) H1
structure TurnS (x:Addr)(P:Program)(w:World)(K:W.Frag)(tg:Expr)(J:It)(fp:List Addr)(it:Addr)(tn:Nat->Heap->Prop):Prop where
 mem:it∈fp
 obj:∀ i h,tn i h->∀ b∈fp,∃ o,h.get? b=some o/\∀ v,o.data≠ .cell v
 keep:∀ i h h',tn i h->(∀ b∈fp,∀ o,h.get? b=some o->h'.get? b=some o)->tn i h'
 item:∀ (X:Cx),X.prog=P->X.w=w->X.K=K->X.A.handled=some (.ref x)->∀ (i:Nat) (pins:List (Addr×Obj)) (s:Shared) (σ:St) (H:Hp) (E:Value->Shared->Prop),Inv X pins σ H s->(∀ b∈fp,FpOk X pins H b)->tn i s.heap->J.go i H->
  wpAny (model P w) X.A (pyNext (.ref it)) (fun r s1=>∃ u,r=some u/\
   wpAny (model P w) X.A (letOwnedTupleGo tg (.ref it) u) (fun _ s2=>∃ x H',Inv X pins σ H' s2/\RelV x u/\J.yld i H x H'/\tn (i+1) s2.heap/\∀ b∈fp,H' b=none) E s1) E s
 done:∀ (X:Cx),X.prog=P->X.w=w->X.K=K->X.A.handled=some (.ref x)->∀ (i:Nat) (pins:List (Addr×Obj)) (s:Shared) (σ:St) (H:Hp) (E:Value->Shared->Prop),Inv X pins σ H s->(∀ b∈fp,FpOk X pins H b)->tn i s.heap->J.stop i H->
  wpAny (model P w) X.A (pyNext (.ref it)) (fun r s1=>r=none/\Inv X pins σ H s1) E s
 self:∀ (A:Around) (i:Nat) (s:Shared) (Q:Value->Shared->Prop) (E:Value->Shared->Prop),tn i s.heap->Q (.ref it) s->wpAny (model P w) A (pyIter (.ref it)) Q E s
def PISE (x:Addr)(X:Cx)(pins:List (Addr×Obj))(σ:St)(tg:Expr)(R:It->Hp->Prop)(itv:Value)(s2:Shared):Prop:=
 ∃ (it:Addr) (fp:List Addr) (tn:Nat->Heap->Prop) (J:It) (H':Hp),itv= .ref it/\Inv X pins σ H' s2/\TurnS x X.prog X.w X.K tg J fp it tn/\tn 0 s2.heap/\(∀ b∈fp,FpOk X pins H' b)/\R J H'
def PIS (x:Addr)(X:Cx)(tg iter:Expr)(wi:TI):Prop:=
 ∀ (pins:List (Addr×Obj)) (s:Shared) (σ:St) (H:Hp) (R:It->Hp->Prop),Inv X pins σ H s->wi σ H R->
  wpAny (model X.prog X.w) X.A (eval iter X.env) (fun v s1=>wpAny (model X.prog X.w) X.A (pyIter v) (PISE x X pins σ tg R) X.xe s1) X.xe s
theorem jH2 {x:Addr}{P:Program}{w:World}{K:W.Frag}{tg:Expr}(it:Addr)(lo:Int)(n:Nat):TurnS x P w K tg (ItrS x lo n) [it] it (fun i h=>IsRangeIter h it (lo+(i:Nat)*1) ((n:Int) - (i:Nat)) 1) where
 mem:=by simp
 obj:=fun i h st b hb=>by
  have e:b=it:=by simpa using hb
  subst e
  exact⟨_,st,fun v z=>by
   have z':Data.fields _=Data.cell v:=z
   cases z'⟩
 keep:=fun i h h' st k=>k it (by simp) _ st
 item:=by
  intro X hP hw hK hc i pins s σ H E I hf st hg
  subst hP hw hK
  obtain⟨f0,f1,f2,f3,f4,f5⟩:=hf it (by simp)
  refine wpAny_pyNext_range_item st (by have:i<n:=hg; omega) fun h' st' sb=>?_
  replace st':IsRangeIter h' it (lo+((i+1:Nat):Int)*1) ((n:Int) - ((i+1:Nat):Int)) 1:=by
   have e1:lo+((i+1:Nat):Int)*1=lo+(i:Int)*1+1:=by omega
   have e2:(n:Int) - ((i+1:Nat):Int)=(n:Int) - (i:Int) - 1:=by omega
   rw[e1,e2]
   exact st'
  have kk:∀ b o,b≠it->s.heap.get? b=some o->h'.get? b=some o:=fun b o hb e=>sb.extBut b o hb e
  have I1:Inv X pins σ H { s with heap:=h',toks:=s.toks+1} :=I.turned kk f0 f1 f3 f4 f5
  refine⟨_,rfl,go_of (s:= { s with heap:=h',toks:=s.toks+1}) (n:= "range_iterator") st' rfl rfl (by decide) ⟨.int (lo+i),H,I1,⟨s.toks,?_⟩,⟨rfl,rfl⟩,st',fun b hb=>(hf b hb).1⟩⟩
  rw[Int.mul_one]
 done:=by
  intro X hP hw hK hc i pins s σ H E I hf st hg
  subst hP hw hK
  obtain⟨f0,f1,f2,f3,f4,f5⟩:=hf it (by simp)
  obtain⟨hg,C,hC⟩:=hg
  obtain⟨p,_,_⟩:=(show ObjOk X.prog X.w H s.heap x (.ext (excP x C)) from I.hok x _ hC)
  exact jG2 hc p.hnd st (by omega) fun h' eb=>⟨rfl,I.kept (t':=s.toks) eb⟩
 self:=fun _ _ _ _ _ st h=>wpAny_pyIter_rangeiter st h
section
variable {X:Cx}{tg:Expr}
theorem jKL {x:Addr}{pins:List (Addr×Obj)}{σ:St}{H:Hp}{s:Shared}{R:It->Hp->Prop}{E:Value->Shared->Prop}{lo hi:Int}{t u v:Tok}{tk:Nat}(I:Inv X pins σ H s)(h1: -(2 ^ 62)<=lo)(h2:lo<2 ^ 62)(h3: -(2 ^ 62)<=hi)(h4:hi<2 ^ 62)
  (q:R (ItrS x lo (hi - lo).toNat) H):wpAny (model X.prog X.w) X.A (pyIter (.ref s.heap.objs.size)) (PISE x X pins σ tg R) E { s with heap:=s.heap.push { cls:= .type "range",data:= .fields #[.int lo t, .int hi u, .int 1 v]},toks:=tk} :=by
 refine wpAny_pyIter_range (IsRange.new ..) (small_one h1 h2 h3 h4) ?_
 have I1:Inv X pins σ H { s with heap:=s.heap.push { cls:= .type "range",data:= .fields #[.int lo t, .int hi u, .int 1 v]},toks:=tk} :=I.kept fun b o e=>ae _ e
 refine⟨(s.heap.push { cls:= .type "range",data:= .fields #[.int lo t, .int hi u, .int 1 v]}).objs.size,[(s.heap.push { cls:= .type "range",data:= .fields #[.int lo t, .int hi u, .int 1 v]}).objs.size],_,_,H,rfl,
  I1.kept (t':=tk) fun b o e=>ae _ e,jH2 _ lo (hi - lo).toNat,?_,fun b hb=>?_,q⟩
 ·have e1:lo+((0:Nat):Int)*1=lo:=by simp
  have e2:(((hi - lo).toNat:Nat):Int) - ((0:Nat):Int)=Builtin.Range.rangeSize lo hi 1:=by rw[rangeSize_one]; split <;> omega
  show IsRangeIter _ _ (lo+((0:Nat):Int)*1) ((((hi - lo).toNat:Nat):Int) - ((0:Nat):Int)) 1
  rw[e1,e2]
  exact am _ rfl
 ·have e:b=(s.heap.push { cls:= .type "range",data:= .fields #[.int lo t, .int hi u, .int 1 v]}).objs.size:=by simpa using hb
  subst e
  exact I1.fpOk (ak _) (I1.hok.fresh (ak _))
theorem jJK {x:Addr}{a:Expr}{ta:TA}{p pos:Pos}(hg:Gl X "range")(hm:X.mg "range" =none)(ha:PA X [a] ta)(hs:starEach [a] X.env=[(false,eval a X.env)]:=by rfl):PIS x X tg (.Call (.Name "range" p) [a] [] pos) (iRngS x ta):=by
 intro pins s σ H R I h
 refine Call_ (jDP I hg hm boot_range (dw (thn (ha pos pins s σ H _ I h) fun us s1 ⟨vs,H1,I1,r1,q1⟩=>?_) hs rfl))
 obtain⟨j,e,q1,q2,q⟩:=q1
 subst e
 cases r1 with
 | cons r rr=>
  cases rr
  obtain⟨t,rfl⟩:=r
  exact call_range_1 (jKL I1 (by omega) (by omega) q1 q2 (by simpa using q))
end
section
variable {X:Cx}{tg iter elt:Expr}{ifs:List Expr}{sc:Scope}{pos:Pos}{wi:TI}{g:TG}{tt:TT}{te:TE}{m:List (Option Nat)}{Nc:List Str}
theorem jN8 {x:Addr}(hc:X.A.handled=some (.ref x))(hi:PIS x X tg iter wi)(hkind:sc.kind= .function)(hcell:∀ y∈sc.names,y.2≠ .cell)(hnames:∀ y∈sc.names,y.2= .local->sc.names.lookup y.1=some .local)
  (hfree:∀ y∈sc.names,y.2= .free->X.env.scope.names.lookup y.1=some .cell\/X.env.scope.names.lookup y.1=some .free) (hm:jBL X sc Nc m)
  (hg:∀ cl C fp s H,PG (blk X sc cl C Nc fp s H) tg g) (ht:∀ cl C fp s H,PTs (blk X sc cl C Nc fp s H) ifs tt) (he:∀ cl C fp s H,PE (blk X sc cl C Nc fp s H) elt te)
  (hs:∀ x,foldedSetIterable iter X.env x=pure x:=by intro _; rfl):PE X (.ListComp elt [⟨tg,iter,ifs,0⟩] sc pos) (tComp m wi g tt te):=by
 intro pins s σ H Q I h
 rw[eval_ListComp]
 have hcl:∀ y∈sc.names,y.2= .free->∃ c,X.env.cells.lookup y.1=some c:=fun y hy hf=>I.ok.has y.1 (hfree y hy hf)
 refine g5 (use:=none) rfl hs (jFK hcl) hkind hnames (thn (hi pins s σ H _ I h) fun v s1 h1=>thn h1 fun itv s2 h2=>?_)
 obtain⟨it,fp,tn,J,H2,e,I2,T,st2,f2,hQ⟩:=h2
 subst e
 have hlt:∀ b∈fp,b<s2.heap.objs.size:=fun b hb=>by
  obtain⟨o,e,_⟩:=T.obj 0 _ st2 b hb
  exact ay e
 refine bJ (gt hcell (by intro y hy; simp at hy) (fun h₁ hns₁ hsb₁=>?_) hkind)
 have I3:Inv X pins σ (upd H2 s2.heap.objs.size (.lst [])) { s2 with heap:=s2.heap.push { cls:= .type "list",data:= .seq ([]:List Value).toArray}} :=I2.lnew (t':=s2.toks) .nil (bo _)
 obtain⟨W,⟨n0,w0⟩,turn⟩:=hQ s2.heap.objs.size I2.fresh
 have hD3:∀ b∈fp,b≠s2.heap.objs.size:=fun b hb=>aR (hlt b hb)
 have f3:∀ b∈fp,FpOk X pins (upd H2 s2.heap.objs.size (.lst [])) b:=fun b hb=>by
  obtain⟨a0,a1⟩:=f2 b hb
  exact⟨by rw[jA (hD3 b hb)]; exact a0,a1⟩
 generalize hE:({ s2 with heap:=s2.heap.push { cls:= .type "list",data:= .seq ([]:List Value).toArray}} :Shared)=s3 at I3 hns₁ hsb₁ ⊢
 generalize hH3:upd H2 s2.heap.objs.size (.lst [])=H3 at I3 f3 w0
 have hsz3:s3.heap.objs.size=s2.heap.objs.size+1:=by rw[<- hE]; exact cx _ _
 have old:∀ b o,s3.heap.get? b=some o->h₁.get? b=some o:=fun b o e=>hsb₁.extBut b o (aR (ay e)) (ae _ e)
 have old2:∀ b o,s2.heap.get? b=some o->h₁.get? b=some o:=fun b o e=>old b o (by rw[<- hE]; exact ae _ e)
 have I4:=jGO (fp:=fp) (tk:=s3.toks+([]:List (Str×Value)).length) I3 hkind hcell hfree hm f3 (fun b hb=>show b<s3.heap.objs.size by rw[hsz3]; exact cr (hlt b hb)) hns₁ old
 have st4:tn 0 h₁:=T.keep _ _ _ st2 fun b hb o e=>old2 b o e
 have loop:codeAny (model X.prog X.w) X.A (.compLoop (.ListComp elt [⟨tg,iter,ifs,0⟩] sc pos) 0 (.ref it) (.ref s2.heap.objs.size) (compEnvC sc (jK X.env.cells sc.names []) s3.heap.objs.size X.env))
   (compPost (model X.prog X.w) X.A X.xe none (EP X pins σ Q) (.ref s2.heap.objs.size) s3.heap.objs.size) { s3 with heap:=h₁,toks:=s3.toks+([]:List (Str×Value)).length} :=by
  generalize hX:blk X sc (jK X.env.cells sc.names []) s3.heap.objs.size Nc fp s3 H3=Xb at I4
  have eP:Xb.prog=X.prog:=by rw[<- hX]; rfl
  have ew:Xb.w=X.w:=by rw[<- hX]; rfl
  have eK:Xb.K=X.K:=by rw[<- hX]; rfl
  have eA:Xb.A=X.A:=by rw[<- hX]; rfl
  have ec:Xb.A.handled=some (.ref x):=by rw[<- hX]; exact hc
  have ee:Xb.env=compEnvC sc (jK X.env.cells sc.names []) s3.heap.objs.size X.env:=by rw[<- hX]; rfl
  have ex:Xb.xe=fun _ _=>False:=by rw[<- hX]; rfl
  have hgb:PG Xb tg g:=by rw[<- hX]; exact hg _ _ _ _ _
  have htb:PTs Xb ifs tt:=by rw[<- hX]; exact ht _ _ _ _ _
  have heb:PE Xb elt te:=by rw[<- hX]; exact he _ _ _ _ _
  have stat:∀ {H':Hp},(∀ b∈fp,H' b=none)->∀ b∈fp,FpOk Xb [] H' b:=fun {H'} hn b hb=>by
   obtain⟨o,eo,_⟩:=T.obj _ _ st4 b hb
   have q:=I4.ok.exf b (by rw[<- hX]; exact hb)
   exact⟨hn b hb,q.1,I4.ok.exfs b (by rw[<- hX]; exact hb), .inl (by rw[<- hX]; exact hb),q.2,fun p hp=>absurd hp (by rw[<- hX]; simp [blk])⟩
  have fr4:∀ b∈fp,H3 b=none:=fun b hb=>(f3 b hb).1
  unfold PG at hgb
  unfold PTs at htb
  unfold PE at heb
  rw[eP,ew,eA,ee,ex] at hgb htb heb
  refine jEN (fun n z=>∃ i σ' H' ys,Inv Xb [] σ' H' z/\tn i z.heap/\(∀ b∈fp,H' b=none)/\W i n σ' H' ys) ?_ n0 ⟨0,_,H3,[],I4,st4,fr4,w0⟩
  rintro n z ⟨i,σ5,H5,ys,I5,st5,fr5,w5⟩
  obtain⟨hD,hlen,way⟩:=turn i n σ5 H5 ys w5
  rcases way with ⟨stop,q⟩ | ⟨go,N,hN,step⟩
  ·have R:=T.done Xb eP ew eK ec i [] z σ5 H5 (fun _ _=>False) I5 (stat fr5) st5 stop
   rw[eA] at R
   refine thn R fun r z1 ⟨hr,I6⟩=>?_
   subst hr
   obtain⟨mm,hn6,_⟩:=I6.loc
   rw[ee] at hn6
   refine⟨mm,hn6,fun h' sb=>?_⟩
   have u6:Un (frs X.stack) fp H3 H5 s3.heap z1.heap:=by
    have:=I6.base
    rw[<- hX] at this
    exact this
   have fC:H5 s3.heap.objs.size=none:=by
    have:=I6.free
    rw[ee] at this
    exact this
   have hok6:HOk X.prog X.w H5 z1.heap:=by
    have:=I6.hok
    rw[eP,ew] at this
    exact this
   have os6:z1.os=s3.os:=by
    have:=I6.os
    rw[<- hX] at this
    exact this
   refine⟨.ref s2.heap.objs.size,H5,I3.call' (s':= { z1 with heap:=h'}) (ch:=fp) os6 (u6.sameBut sb (ak _)) (hok6.sameBut sb fC) I6.bare (fun b hb=>?_),rfl,q⟩
   obtain⟨a0,a1,a2,a3,a4,a5⟩:=f3 b hb
   exact⟨a3,a1,a4,a5⟩
  ·have R:=T.item Xb eP ew eK ec i [] z σ5 H5 (fun _ _=>False) I5 (stat fr5) st5 go
   rw[eA] at R
   refine thn R fun r z1 ⟨u,hr,h6⟩=>?_
   subst hr
   refine thn h6 fun _ z2 ⟨y,H7,I7,r7,y7,st7,fr7⟩=>?_
   have I7':=I7.pinned (stat fr7) (T.obj _ _ st7)
   refine thn (hgb _ z2 σ5 H7 y u _ I7' r7 (step y H7 y7)) fun _ z3 ⟨σ8,H8,I8,q8⟩=>?_
   refine thn (htb _ z3 σ8 H8 _ I8 q8) fun ok z4 ⟨H9,I9,q9⟩=>?_
   have again:∀ {σ7:St}{Hz:Hp}{zz:Shared}{yy:List V}{n':Nat},Inv Xb ([]++jEC fp z2.heap) σ7 Hz zz->n'<n->W (i+1) n' σ7 Hz yy->∃ k,k<n/\∃ i σ' H' ys,Inv Xb [] σ' H' zz/\tn i zz.heap/\(∀ b∈fp,H' b=none)/\W i k σ' H' ys:=fun {σ7 Hz zz yy n'} Iz hn wz=>by
    refine⟨n',hn,i+1,σ7,Hz,yy,Iz.unpinned,T.keep _ _ _ st7 fun b hb o e=>(Iz.pin (b,o) (aJ _ (aJ _ (jA8 hb e)))).1,fun b hb=>?_,wz⟩
    obtain⟨o,e,d⟩:=T.obj _ _ st7 b hb
    exact(Iz.pin (b,o) (aJ _ (aJ _ (jA8 hb e)))).2.1
   cases ok with
   | false=>
    obtain⟨n',hn,w9⟩:=hN _ _ _ (show N σ8 H9 ys from q9)
    exact again I9 hn w9
   | true=>
    refine thn (heb _ z4 σ8 H9 _ I9 q9) fun xv z5 ⟨vv,H10,I10,r10,hD10,n10⟩=>?_
    obtain⟨n',hn,w10⟩:=hN _ _ _ n10
    have R:=jC2 (X:=Xb) _ z5 σ8 H10 (.ref s2.heap.objs.size) [vv] (.ref s2.heap.objs.size) [xv] (fun _ H'=>H'=upd H10 s2.heap.objs.size (.lst (ys++[vv]))) I10 rfl (.cons r10 .nil) ⟨_,ys,vv,rfl,rfl,hD10,hlen,rfl⟩
    rw[eP,ew,eA,ex] at R
    refine thn R fun _ z6 ⟨_,H11,I11,_,e11⟩=>?_
    subst e11
    exact again I11 hn w10
 exact codeAny_compStart_list loop (T.self _ 0 _ _ _ st4 loop)
end
structure RoomS (k:Nat)(A:Around)(x:Addr):Prop where
 hd:A.handled=some (.ref x)
 dp:A.depth+3*k+5<recursionLimit
 un:A.units+16*k+200<cLine
theorem Room.suite {k:Nat}{A:Around}(r:Room k A)(x:Addr):RoomS k (A.mark (some (.ref x))) x:=⟨rfl,r.dp,r.un⟩
theorem RoomS.deeper {k:Nat}{A:Around}{x:Addr}(r:RoomS (k+1) A x)(env:Env):RoomS k (A.deeper env) x:=
 ⟨r.hd,by have:=r.dp; show A.depth+1+3*k+5<_; omega,by have:=r.un; show A.units+3+16*k+200<_; omega⟩
structure FnS (P:Program)(w:World)(K:W.Frag)(mg:Str->Option Value)(base:Heap)(k:Nat)(f:Addr)(fd:FuncData)(ps:List Str)(sp:Addr->Sp):Prop where
 len:∀ x vs H Q E,sp x vs H Q E->vs.length=ps.length
 run:∀ (A:Around) (outer:List Env) (s:Shared) (H:Hp) (args:Args) (us:List Value) (vs:List V) (Q:VK) (E:XK) (x:Addr),RoomS k A x->Env0 P w K mg base A outer s H->BindsTo s fd args (ps.zip us)->Vals vs us->sp x vs H Q E->
  codeAny (model P w) A (.call (.ref f) args) (CR CX0 outer P w H s Q E) s
def cxS (P:Program)(w:World)(K:W.Frag)(mg:Str->Option Value)(base:Heap)(N:List Str)(qual:Str)(scope:Scope)(f:Addr)(cd:Value)(A:Around)(outer:List Env)(s:Shared)(H:Hp)(E:XK):Cx:= { (cxOf CX0 P w K mg base N qual scope f cd A outer s H E).nox with calm:=false}
theorem jSW {P:Program}{w:World}{K:W.Frag}{mg:Str->Option Value}{base:Heap}{k:Nat}{x qual:Str}{st:Stmt}{f:Addr}{fd:FuncData}{N ps:List Str}{sp:Addr->Sp}(F:Fun K x qual st f fd)(S:FnScope N ps (j7 st))(len:∀ x vs H Q E,sp x vs H Q E->vs.length=ps.length)
  (hbody:∀ (cdv:Value) (A:Around) (outer:List Env) (s:Shared) (H:Hp) (vs:List V) (Q:VK) (E:XK) (x:Addr),RoomS k (A.deeper (envOfC qual (j7 st) s.heap.objs.size f cdv)) x->sp x vs H Q E->
   ∃ t,PSs (cxS P w K mg base N qual (j7 st) f cdv A outer s H E) (jD st) t/\t { nx:=fun _ H'=>Q .non H',rt:=Q} (kP N vs) H):
  FnS P w K mg base (k+1) f fd ps sp:=by
 obtain⟨oc,od,kV,doc,pm,an,cdv,ct,osl,rfl,lk,hcd⟩:=F.ex
 refine⟨len,fun A outer s H args us vs Q E x hr e0 hb r hsp=>?_⟩
 have hl:=len _ _ _ _ _ hsp
 have KX:K.In s.heap:=e0.mod.kin.keeps fun b o e=>(e0.bs b o e).1
 have lim:s.heap.NoLimit:=e0.mod.nolimit.keeps fun b o e=>(e0.bs b o e).1
 have hkind:∀ y∈ps.zip us,(j7 st).names.lookup y.1=some .local\/((j7 st).names.lookup y.1=some .cell/\((cellsFrom (s.heap.objs.size+1) (j7 st).names []).lookup y.1).isSome=true):=fun ⟨n,v⟩ hy=>by
  rcases S.par n (dk hy).1 with q | q
  ·exact .inl q
  ·exact .inr ⟨q,dU _ _ _ (.inl q)⟩
 refine fE (by have:=hr.dp; omega) (KX _ _ lk) rfl S.co S.gen rfl (gL KX hcd) (hb _ _ _ _ ?_)
 refine eh S.kind hkind fun env he s1 z=>?_
 subst he
 refine⟨lim.keeps z.toInCall.keep,codeAny_func ?_⟩
 obtain⟨t,ht,hq⟩:=hbody cdv A outer s H vs Q E x (hr.deeper _) hsp
 have J:Inv (cxOf CX0 P w K mg base N qual (j7 st) f cdv { A with handled:=none} outer s H E) [] (kP N vs) H s1:=jDT S rfl ⟨e0.frames,e0.mod,e0.bs,e0.bsz,e0.funs,e0.frf,e0.hok,e0.bare⟩ hl r z
 have ok:=J.ok
 have I:Inv (cxS P w K mg base N qual (j7 st) f cdv A outer s H E) [] (kP N vs) H s1:=
  ⟨⟨ok.mod,ok.kind,ok.glob,ok.blt,ok.above,ok.inj,ok.has,ok.cab,fun z=>(nomatch z),gn e0.frames,ok.stk,ok.exf,ok.bs,ok.bsz,ok.noex,ok.exfs,ok.funs,ok.frf⟩,J.os,J.bare,J.base,J.loc,J.cell,J.free,J.freeC,J.pin,J.hok,J.len⟩
 refine bw (ht [] s1 (kP N vs) H _ I hq) (fun fl s' hs=>?_) fun e s' hs=>False.elim hs
 have fin:∀ {σ':St}{H':Hp}{v:V}{u:Value},Inv (cxS P w K mg base N qual (j7 st) f cdv A outer s H E) [] σ' H' s'->RelV v u->Q v H'->CE outer P w H s Q u s':=
  fun {σ' H' v u} J rv q=>⟨v,H',J.os,J.bare,J.base,J.hok,rv,q⟩
 cases fl with
 | ret u=>
  obtain⟨v,σ',H',J,rv,q⟩:=hs
  exact fin J rv q
 | next=>
  obtain⟨σ',H',J,q⟩:=hs
  exact fin (v:=V.non) (u:=Value.none) J rfl q
 | brk=>
  obtain⟨_,_,_,q⟩:=hs
  exact False.elim q
 | cont=>
  obtain⟨_,_,_,q⟩:=hs
  exact False.elim q
section
variable {X:Cx}{k:Nat}{f a:Addr}{fd:FuncData}{ps:List Str}{sp:Addr->Sp}{x:Str}{p pos:Pos}{e:Expr}{es:List Expr}{t:TA}
theorem jNT (F:FnS X.prog X.w X.K X.mg X.base k f fd ps sp)(hr:RoomS k X.A a)(hg:Gl1 X x)(hm:X.mg x=some (.ref f))(hk:keepIn X.K (.ref f)=true)(hb:Binds X.K fd ps [])
  (ha:JA X (e::es) t) (he:starEach (e::es) X.env=(false,eval e X.env)::starEach es X.env) (hdb:(x==("__debug__" :Str))=false:=by decide) (hpl:(backTo pos (starEach es X.env)).any (·.1)=false:=by rfl):
  JE X (.Call (.Name x p) (e::es) [] pos) (tCall (sp a) [] E0 t):=by
 refine⟨fun pins s σ H Q I h=>?_⟩
 refine cz (jBP I hg.a hm ?_ hdb)
 refine eY (h₀:=X.base) I.ok.mod.kin hk (thn (ha.h pos pins s σ H _ I h) fun us s1 ⟨vs,H1,I1,r,q⟩=>⟨I1.kIn,?_⟩) he hpl
 replace q:sp a (vs++[]) H1 Q E0:=q
 rw[aV] at q
 have hl:us.length=ps.length:=by rw[<- r.length]; exact F.len _ _ _ _ _ q
 have hbb:=hb s1 us I1.kIn (by rw[aV]; exact hl)
 rw[aV] at hbb
 refine eX (dy (F.run X.A X.stack s1 H1 ⟨us,[]⟩ us vs Q E0 a hr I1.env0 hbb r q) fun r s' hq=>?_)
 cases r with
 | error e=>exact hq.elim
 | ok fl=>
  cases fl with
  | ret u=>exact I1.after hq
  | next=>exact False.elim hq
  | brk=>exact False.elim hq
  | cont=>exact False.elim hq
end
section
variable {CX:CXT}{P:Program}{w:World}{K:W.Frag}{mg:Str->Option Value}{base:Heap}{N:List Str}{qual:Str}{sc:Scope}{f:Addr}{cdv:Value}{A:Around}{outer:List Env}{s:Shared}{H:Hp}{E:XK}{x:Str}
theorem gl_x (h:sc.names.lookup x=some .globalImplicit):Gl1 (cxOf CX P w K mg base N qual sc f cdv A outer s H E).nox x:=⟨h⟩
theorem vis_x (h:sc.names.lookup x=some .local):Vis1 (cxOf CX P w K mg base N qual sc f cdv A outer s H E).nox x:=⟨.inl h⟩
theorem loc_x (h:sc.names.lookup x=some .local):Loc1 (cxOf CX P w K mg base N qual sc f cdv A outer s H E).nox x:=⟨.inl h, .inl rfl⟩
theorem gl_s (h:sc.names.lookup x=some .globalImplicit):Gl1 (cxS P w K mg base N qual sc f cdv A outer s H E) x:=⟨h⟩
theorem qB (h:sc.names.lookup x=some .local):Vis1 (cxS P w K mg base N qual sc f cdv A outer s H E) x:=⟨.inl h⟩
theorem loc_s (h:sc.names.lookup x=some .local):Loc1 (cxS P w K mg base N qual sc f cdv A outer s H E) x:=⟨.inl h, .inl rfl⟩
theorem gl_u {X:Cx}{a:Addr}(h:Gl1 X x):Gl1 (jAQ X a) x:=⟨h.a⟩
theorem vis_u {X:Cx}{a:Addr}(h:Vis1 X x):Vis1 (jAQ X a) x:=⟨h.a⟩
end
section
variable {X:Cx}{e:Expr}{es:List Expr}{t:TA}{a:Addr}{p pos:Pos}
structure JIS (x:Addr)(X:Cx)(tg e:Expr)(t:TI):Prop where
 h:PIS x X tg e t
theorem jLR {tg:Expr}(hg:Gl1 X "range")(hm:X.mg "range" =none)(ha:JA X [e] t)(hs:starEach [e] X.env=[(false,eval e X.env)]):JIS a X tg (.Call (.Name "range" p) [e] [] pos) (iRngS a t):=⟨jJK hg.a hm ha.h hs⟩
theorem jNQ {tg iter elt:Expr}{ifs:List Expr}{sc:Scope}{wi:TI}{g:TG}{tt:TT}{te:TE}{m:List (Option Nat)}{Nc:List Str}(hc:X.A.handled=some (.ref a))(hi:JIS a X tg iter wi)(hkind:sc.kind= .function)(hcell:∀ y∈sc.names,y.2≠ .cell)(hnames:∀ y∈sc.names,y.2= .local->sc.names.lookup y.1=some .local)
  (hfree:∀ y∈sc.names,y.2= .free->X.env.scope.names.lookup y.1=some .cell\/X.env.scope.names.lookup y.1=some .free) (hm:jBL X sc Nc m)
  (hg:∀ cl C fp s H,JG (blk X sc cl C Nc fp s H) tg g) (ht:∀ cl C fp s H,JTs (blk X sc cl C Nc fp s H) ifs tt) (he:∀ cl C fp s H,JE (blk X sc cl C Nc fp s H) elt te)
  (hs:FoOk iter):JE X (.ListComp elt [⟨tg,iter,ifs,0⟩] sc pos) (tComp m wi g tt te):=⟨jN8 hc hi.h hkind hcell hnames hfree hm (fun cl C fp s H=>(hg cl C fp s H).h) (fun cl C fp s H=>(ht cl C fp s H).h) (fun cl C fp s H=>(he cl C fp s H).h) (hs.h _)⟩
end
abbrev WX:=Addr->Addr->St->Hp->Prop
def RZ (X:Cx)(pins:List (Addr×Obj))(W:WX):Value->Shared->Prop:=fun ev s2=>∃ x T C σ2 H2,ev= .ref x/\Inv X pins σ2 H2 s2/\H2 x=none/\H2 T=none/\ExcX s2.heap x C T/\
 (X.s₀.heap.get? x=none/\x≠X.env.locals/\(∀ y c,X.env.cells.lookup y=some c->c≠x)/\∀ p∈X.pn++pins,p.1≠x)/\(X.s₀.heap.get? T=none/\T≠X.env.locals/\(∀ y c,X.env.cells.lookup y=some c->c≠T)/\∀ p∈X.pn++pins,p.1≠T)/\W x C σ2 H2
abbrev TEX:=St->Hp->VK->(Addr->Addr->Hp->Prop)->Prop
abbrev TBX:=Ends->WX->St->Hp->Prop
structure JX (X:Cx)(e:Expr)(t:TEX):Prop where
 h:∀ (pins:List (Addr×Obj)) (s:Shared) (σ:St) (H:Hp) (Q:VK) (W:Addr->Addr->Hp->Prop),Inv X pins σ H s->t σ H Q W->wpAny (model X.prog X.w) X.A (eval e X.env) (EP X pins σ Q) (RZ X pins fun x C σ2 H2=>σ2=σ/\W x C H2) s
structure JB (X:Cx)(body:List Stmt)(t:TBX):Prop where
 h:∀ (pins:List (Addr×Obj)) (s:Shared) (σ:St) (H:Hp) (D:Ends) (W:WX),Inv X pins σ H s->t D W σ H->wpAny (model X.prog X.w) X.A (execs body X.env) (SP X pins D) (RZ X pins W) s
def jRC (C:Addr)(t:TA)(sp:Sp):TEX:=fun σ H Q W=>t σ H fun vs H1=>sp vs H1 Q fun e ox H2=>∀ x,e= .ref x->ox=some x->H2 x=none->W x C H2
def tTupX (t1:TEX)(t:TA):TEX:=fun σ H Q W=>t1 σ H (fun v H1=>t σ H1 fun vs H2=>(v::vs).length<=sizeLine/\∀ p,H2 p=none->Q (.ref p) (upd H2 p (.tup (v::vs)))) W
def bRet (t:TEX):TBX:=fun D W σ H=>t σ H D.rt fun x C H2=>W x C σ H2
def Dh (D:Ends)(j:Nat):Ends:= { nx:=fun σ H=>D.nx (σ.set j none) H,rt:=D.rt,bk:=fun σ H=>D.bk (σ.set j none) H,ct:=fun σ H=>D.ct (σ.set j none) H}
def tTryB (K:W.Frag)(B:Addr)(j:Nat)(tb:TBX)(ts:Addr->TS):TS:=fun D σ H=>tb D (fun x C σ2 H2=>Above K C B/\ts x (Dh D j) (σ2.set j (some (.ref x))) (upd H2 x (.ext (excP x C)))) σ H
section
variable {X:Cx}{y n g c:Str}{i j k:Nat}{f B C:Addr}{fd:FuncData}{ps:List Str}{sp:Sp}{e:Expr}{es:List Expr}{t:TA}{te t1:TEX}{yp gp cp ap np rp hp tp pos:Pos}
theorem jOH (h:X.xe=fun _ _=>False):X=X.nox:=by
 cases X
 cases h
 rfl
theorem jQK (F:FnOk X.prog X.w X.K X.mg X.base (CXX X.prog X.w C) k f fd ps sp)(hr:Room k X.A)(hg:Gl1 X g)(hm:X.mg g=some (.ref f))(hk:keepIn X.K (.ref f)=true)(hb:Binds X.K fd ps [])(ha0:JA X (e::es) t)(hex:X.ex=[])
  (he:starEach (e::es) X.env=(false,eval e X.env)::starEach es X.env) (hdb:(g==("__debug__" :Str))=false:=by decide) (hpl:(backTo cp (starEach es X.env)).any (·.1)=false:=by rfl) (hxe:X.xe=fun _ _=>False:=by rfl):
  JX X (.Call (.Name g gp) (e::es) [] cp) (jRC C t sp):=by
 have ha:JA X.nox (e::es) t:=jOH hxe ▸ ha0
 refine⟨fun pins s σ H Q W I h=>cz (jBP I hg.a hm ?_ hdb)⟩
 refine eY (h₀:=X.base) I.ok.mod.kin hk (bw (ha.h cp pins s σ H _ (I.wish _) h) (fun us s1 ⟨vs,H1,I1,r1,q⟩=>⟨I1.unwish.kIn,?_⟩) fun _ _ z=>False.elim z) he hpl
 have I1:=I1.unwish
 have hl:us.length=ps.length:=by rw[<- r1.length]; exact F.len _ _ _ _ q
 have hbb:=hb s1 us I1.kIn (by rw[aV]; exact hl)
 rw[aV] at hbb
 refine eX (dy (F.run X.A X.stack s1 H1 ⟨us,[]⟩ us vs _ _ hr I1.env0 hbb r1 q) fun res s2 hq=>?_)
 cases res with
 | ok fl=>
  cases fl with
  | ret u=>exact I1.after hq
  | next=>exact False.elim hq
  | brk=>exact False.elim hq
  | cont=>exact False.elim hq
 | error ev=>
  obtain⟨x,T,H2,rfl,os2,bare2,un2,hok2,fx,fT,hx,hT,ex2,q2⟩:=hq
  have I2:Inv X pins σ H2 s2:=I1.call' os2 un2 hok2 bare2 fun b z=>absurd z (by simp)
  have hT1:s1.heap.get? T=none:=by
   cases z:s1.heap.get? T with
   | none=>rfl
   | some o=>exact absurd (ay z) (Nat.not_lt.mpr fT)
  exact⟨x,T,C,σ,H2,rfl,I2,hx,hT,ex2,I1.apart hex fx,I1.apart hex hT1,rfl,q2 x rfl rfl hx⟩
theorem jSK {x1}(h1:JX X e t1)(h0:JA X es t)(hs:starEach (e::es) X.env=(false,eval e X.env)::starEach es X.env)(hxe:X.xe=fun _ _=>False:=by rfl):JX X (.Tuple (e::es) x1 pos) (tTupX t1 t):=by
 have h:JA X.nox es t:=jOH hxe ▸ h0
 refine⟨fun pins s σ H Q W I hq=>gC ?_⟩
 rw[hs]
 refine Calls.spliced_cons (bw (h1.h pins s σ H _ W I hq) (fun u s1 ⟨x,H1,I1,r1,q1⟩=>?_) fun _ _ z=>z)
 refine bw (h.h pos pins s1 σ H1 _ (I1.wish _) q1) (fun us s2 ⟨xs,H2,I2,r2,z,q2⟩=>?_) fun _ _ z=>False.elim z
 have I2:=I2.unwish
 have r:Vals (x::xs) (u::us):= .cons r1 r2
 refine⟨by rw[<- r.length]; exact z,?_⟩
 have hf:H2 s2.heap.objs.size=none:=I2.hok.fresh (ak _)
 exact⟨.ref s2.heap.objs.size,upd H2 s2.heap.objs.size (.tup (x::xs)),I2.laid (t':=s2.toks) (fun b u e=>ae _ e) (ak _) ⟨z,_,r,TupO.new _ _⟩,rfl,q2 _ hf⟩
theorem RZ.out {pins:List (Addr×Obj)}{σ:St}{W':Addr->Addr->Hp->Prop}{W:WX}{ev:Value}{s:Shared}(h:RZ X pins (fun x C σ2 H2=>σ2=σ/\W' x C H2) ev s)(k:∀ x C H2,W' x C H2->W x C σ H2):RZ X pins W ev s:=by
 obtain⟨x,T,C,σ2,H2,e1,I2,a1,a2,a3,a4,a5,rfl,a6⟩:=h
 exact⟨x,T,C,_,H2,e1,I2,a1,a2,a3,a4,a5,k _ _ _ a6⟩
theorem jSS (h:JX X e te):JB X [.Return (some e) rp] (bRet te):=by
 refine⟨fun pins s σ H D W I hq=>hG (wpAny_Return_some (bw (h.h pins s σ H _ _ I hq) (fun u s1 ⟨x,H1,I1,r1,q1⟩=>?_) fun ev s1 z=>z.out fun _ _ _ q=>q))⟩
 exact⟨x,σ,H1,I1,r1,q1⟩
theorem Inv.lost {pins:List (Addr×Obj)}{σ:St}{H:Hp}{s:Shared}{h':Heap}{t':Nat}{v:Option Value}{m:Str->Option Value}(I:Inv X pins σ H s)(hN:X.N.Nodup)(hj:X.N[j]?=some n)(ln:X.env.scope.names.lookup n=some .local)(hm:s.heap.Ns X.env.locals m)(hl:∀ (i:Nat) (y:Str) (v:V),X.N[i]?=some y->σ[i]?=some (some v)->Vis X.env.scope y->∃ u,RelV v u/\Look X.env s.heap m y u)
  (hn:h'.Ns X.env.locals (fun x=>if x=n then v else m x)) (sb:Heap.SameBut X.env.locals s.heap h'):Inv X pins (σ.set j none) H { s with heap:=h',toks:=t'} :=by
 refine⟨I.ok,I.os,I.bare,I.base.sameBut sb I.ok.above,⟨_,hn,fun i y v e1 e2 e3=>?_⟩,fun y c e=>?_,I.free,I.freeC,fun p hp=>?_,I.hok.sameBut sb I.free,by rw[gz]; exact I.len⟩
 ·have nij:i≠j:=fun z=>by
   subst z
   by_cases hlt:i<σ.length
   ·rw[fg hlt] at e2
    cases e2
   ·rw[cS (by rw[gz]; omega)] at e2
    cases e2
  rw[gm (cY nij)] at e2
  have yn:y≠n:=fun z=>by
   subst z
   exact nij ((fk (ar.mp e1).1 hN).mp (e1.trans hj.symm))
  obtain⟨u,r,l⟩:=hl i y v e1 e2 e3
  refine⟨u,r,?_⟩
  rcases l with ⟨lk,l⟩ | ⟨lk,c,hc,o,ho,hd⟩
  ·exact .inl ⟨lk,(ah yn).trans l⟩
  ·exact .inr ⟨lk,c,hc,o,(sb.2 c (I.cne y c hc)).trans ho,hd⟩
 ·obtain⟨v,o,ho,hd⟩:=I.cell y c e
  exact⟨v,o,(sb.2 c (I.cne y c e)).trans ho,hd⟩
 ·obtain⟨e,n,ne,nf,d⟩:=I.pin p hp
  exact⟨(sb.2 _ ne).trans e,n,ne,nf,d⟩
theorem jSL {body:List Stmt}{s0:Stmt}{suite:List Stmt}{tb:TBX}{ts:Addr->TS}(hN:X.N.Nodup)(hn:X.N[j]?=some n)(ln:X.env.scope.names.lookup n=some .local)(hb:JB X body tb)
  (hc:Gl1 X c) (hmc:X.mg c=some (.ref B)) (hst:X.stack=X.env::X.outer) (hfr:X.env.frame=some X.env.locals) (hs:∀ x,JSs (jAQ X x) (s0::suite) (ts x)) (hdc:(c==("__debug__" :Str))=false:=by decide):
  JS X (.Try body [.ExceptHandler (some (.Name c np)) (some n) (s0::suite) hp] [] [] tp) (tTryB X.K B j tb ts):=by
 refine⟨fun pins s σ H D I h=>wpAny_Try_except (bw (hb.h pins s σ H D _ I h) (fun fl s1 q=>?_) fun ev s2 hz=>?_)⟩
 ·cases fl with
  | next=>exact eT q
  | brk=>exact q
  | cont=>exact q
  | ret u=>exact q
 ·obtain⟨x,T,C,σ2,H2,rfl,I2,hx,hT,ex2,ax,aT,ab,q3⟩:=hz
  have fr:=I.ok.frames
  have st2:=I2.stack
  rw[hst] at fr st2
  refine jNC (base:=X.base) fr st2 hfr ex2 fun h3 T3 n3 e3 z3=>?_
  have I3:Inv X pins σ2 (upd H2 x (.ext (excP x C))) { s2 with heap:=h3} :=I2.held (by rw[hst]; exact n3) e3 hx hT ax aT
  refine wpAny_handleBy_cons (codeAny_handlers_test (jBP (X:=jAQ X x) (I3.suite x) hc.a hmc ?_ hdc)) (by intro q; cases q)
  obtain⟨nm,q,nm',q',N,N',bs,bm,bs',bm',hdct,hdct',sn,sn',sub,sub',ab,ab',col,col',dd,dd',k0,k1,k2,k3,k5,j0,j1,j2,j3,j5,ni,ni',b1,b2,hK⟩:=ab
  obtain⟨c1,c2⟩:=hK h3 I3.kIn
  obtain⟨vs3,_,_,hx3,_⟩:=id e3
  refine jNG c1 c2 hx3 rfl b1 b2 ?_
  refine codeAny_handlers_suite_as (jHN (s:= { s2 with heap:=h3}) e3 fun h4 k4=>?_)
  have I4:Inv X pins σ2 (upd H2 x (.ext (excP x C))) { s2 with heap:=h4} :=I3.kept (h':=h4) (t':=s2.toks) k4
  refine jBW (X:=jAQ X x) (v:= .ref x) (I4.suite x) hN hn (.inl ln) rfl (fun s5 I5=>?_) (.inr ln)
  refine bw ((hs x).h pins s5 _ _ (Dh D j) I5 q3) (fun fl s6 q6=>?_) fun _ _ z=>False.elim z
  have go:∀ {σ6:St}{H6:Hp}{Q:Shared->Prop},Inv (jAQ X x) pins σ6 H6 s6->(∀ s7,Inv X pins (σ6.set j none) H6 s7->Q s7)->wpAny (model X.prog X.w) X.A (do bindName X.env n .none; unbindBehindTheSuite X.env n hp) (fun _ s7=>Q s7) X.xe s6:=fun {σ6 H6 Q} I6 k=>by
   have I6:=I6.unsuite I.ok
   obtain⟨m6,hn6,hl6⟩:=id I6.loc
   exact wpAny_nameGoes_keeps ln hn6 (by rw[I.ok.kind]; rfl) fun h7 v hn7 sb7=>k _ (I6.lost hN hn ln hn6 hl6 hn7 sb7)
  cases fl with
  | next=>
   obtain⟨σ6,H6,I6,d6⟩:=q6
   exact go I6 fun s7 I7=>⟨_,H6,I7,d6⟩
  | brk=>
   obtain⟨σ6,H6,I6,d6⟩:=q6
   exact go I6 fun s7 I7=>⟨_,H6,I7,d6⟩
  | cont=>
   obtain⟨σ6,H6,I6,d6⟩:=q6
   exact go I6 fun s7 I7=>⟨_,H6,I7,d6⟩
  | ret u=>
   obtain⟨v,σ6,H6,I6,r6,d6⟩:=q6
   exact go I6 fun s7 I7=>⟨v,_,H6,I7,r6,d6⟩
end
def nfP (x q:Str)(args:Arguments)(body:List Stmt)(scope:Scope)(cl:List (Str×Addr))(a c:Addr):Heap->Prop:=fun h=>∃ doc pm ctv,h.get? a=some (fnMade x q args body scope cl doc pm c ctv)
def ncP (q:Str)(c:Addr):Heap->Prop:=fun h=>h.CodeRec (.ref c) q
abbrev onePs (pos:Pos)(c:Addr):Array Value:=#[rawInt pos.line,rawInt pos.col, .ref c]
def TabOk (H:Hp)(T:Addr)(pos:Pos)(q:Str):Prop:=H T=some (.tbl #[])\/∃ c,H T=some (.tbl (onePs pos c))/\H c=some (.ext (ncP q c))
def ExtT (T:Addr)(H H':Hp):Prop:=∀ b o,H b=some o->b≠T->H' b=some o
def BltAt (base:Heap)(mg:Str->Option Value):Prop:=∃ bm o,mg "__builtins__" =some (.ref bm)/\bm≠builtinsNs/\bm≠mainGlobals/\base.get? bm=some o/\o.cls= .type "module" /\o.dict=some builtinsNs/\o.data= .plain
theorem nfP.stay {x q:Str}{args:Arguments}{body:List Stmt}{scope:Scope}{cl:List (Str×Addr)}{a c:Addr}(h1 h2:Heap)(p:nfP x q args body scope cl a c h1)(k:∀ o,h1.get? a=some o->h2.get? a=some o):nfP x q args body scope cl a c h2:=by
 obtain⟨d,m,t,e⟩:=p
 exact⟨d,m,t,k _ e⟩
theorem ncP.stay {q:Str}{c:Addr}(h1 h2:Heap)(p:ncP q c h1)(k:∀ o,h1.get? c=some o->h2.get? c=some o):ncP q c h2:=by
 obtain⟨c',o,vs,t,e,g,r⟩:=p
 cases e
 exact⟨c,o,vs,t,rfl,k _ g,r⟩
theorem ncP.is {q:Str}{c:Addr}{h:Heap}(p:ncP q c h):∃ o,h.get? c=some o:=by
 obtain⟨c',o,vs,t,e,g,r⟩:=p
 cases e
 exact⟨o,g⟩
def tDef (x q:Str)(args:Arguments)(body:List Stmt)(scope:Scope)(cl:List (Str×Addr))(T:Addr)(pos:Pos)(j:Nat):TS:=fun D σ H=>TabOk H T pos q/\∀ a c H',H' a=some (.ext (nfP x q args body scope cl a c))->H' c=some (.ext (ncP q c))->H' T=some (.tbl (onePs pos c))->ExtT T H H'->H a=none->D.nx (σ.set j (some (.ref a))) H'
section
variable {X:Cx}{pins:List (Addr×Obj)}{σ:St}{H:Hp}{s:Shared}
theorem Inv.laidX {h':Heap}{t':Nat}{φ:Heap->Prop}{a:Addr}(I:Inv X pins σ H s)(k:∀ b u,s.heap.get? b=some u->h'.get? b=some u)(hp:s.heap.objs.size<=a)(p:φ h')(ho:∃ o,h'.get? a=some o)(st:∀ h1 h2:Heap,φ h1->(∀ o,h1.get? a=some o->h2.get? a=some o)->φ h2):Inv X pins σ (upd H a (.ext φ)) { s with heap:=h',toks:=t'} :=
 I.laid k hp ⟨p,ho,st⟩
theorem Inv.grown {h':Heap}{t':Nat}{T c:Addr}{ps more:Array Value}{φ:Heap->Prop}(I:Inv X pins σ H s)(hT:H T=some (.tbl ps))(k:Heap.ExtBut T s.heap h')(e:h'.get? T=some { cls:= .none,data:= .fields (ps++more)})
  (hc:s.heap.objs.size<=c) (p:φ h') (ho:∃ o,h'.get? c=some o) (st:∀ h1 h2:Heap,φ h1->(∀ o,h1.get? c=some o->h2.get? c=some o)->φ h2):Inv X pins σ (upd (upd H T (.tbl (ps++more))) c (.ext φ)) { s with heap:=h',toks:=t'} :=by
 have hcn:H c=none:=I.hok.fresh hc
 have nT:∀ {b:Addr},H b=none->b≠T:=fun n z=>by rw[z,hT] at n; cases n
 have cT:T≠c:=fun z=>by rw[z,hcn] at hT; cases hT
 have nc:∀ {b:Addr}{o:Obj},s.heap.get? b=some o->b≠c:=fun q z=>absurd (ay q) (by rw[z]; exact Nat.not_lt.mpr hc)
 have mc:∀ {b:Addr}{o:HO},H b=some o->b≠c:=fun q=>jB q hcn
 refine I.un ⟨fun b o q n _ _=>k b o (nT n) q,fun b o q n _ _=>⟨o.slots,k b o (nT n) q⟩,fun b o q n _=>by rw[jA (nc q),jA (nT n)]; exact n,fun b o q _=>?_,fun b xs q=>?_,fun b o u q=>?_,fun b qs q=>?_⟩ fun b o q=>?_
 ·by_cases hb:b=T
  ·rw[hb]; exact⟨_,e⟩
  ·exact⟨o,k b o hb q⟩
 ·rw[jA (mc q),jA (fun z=>by rw[z,hT] at q; cases q)]; exact q
 ·rw[jA (mc q),jA (fun z=>by rw[z,hT] at q; cases q)]; exact q
 ·by_cases hb:b=T
  ·subst hb
   rw[hT] at q
   cases q
   exact⟨more,by rw[jA cT,j8]⟩
  ·exact⟨#[],by rw[jA (mc q),jA hb,q]; simp⟩
 ·by_cases hb1:b=c
  ·subst hb1
   rw[j8] at q
   cases q
   exact⟨p,ho,st⟩
  rw[jA hb1] at q
  by_cases hb:b=T
  ·subst hb
   rw[j8] at q
   cases q
   exact e
  ·rw[jA hb] at q
   refine(I.hok b o q).stay (fun d u hd z=>k d u ?_ z) (fun d z=>?_) fun d xs z=>?_
   ·rcases hd with rfl | hd
    ·exact hb
    ·exact fun y=>by rw[y,hT] at hd; cases hd
   ·rw[jA (mc z),jA (fun y=>by rw[y,hT] at z; cases z)]; exact z
   ·rw[jA (mc z),jA (fun y=>by rw[y,hT] at z; cases z)]; exact z
theorem jRR {x:Str}{args:Arguments}{body:List Stmt}{scope:Scope}{pos:Pos}{c0 T:Addr}{j:Nat}(hN:X.N.Nodup)(hj:X.N[j]?=some x)(lx:Loc X.env.scope x)(hcode:X.env.code= .ref c0)(CH:PySem.W.CodeHd X.base c0 T)(hbm:BltAt X.base X.mg)
  (hfree:∀ y∈scope.names,y.2= .free->X.env.scope.names.lookup y.1=some .cell\/X.env.scope.names.lookup y.1=some .free) (hdf:defaultsOf args X.env=([],[])) (han:annTrees args none X.env=[])
  (hf:X.fn x=true\/X.env.scope.names.lookup x=some .local:=by first | exact .inl rfl | exact .inr rfl | assumption):
  PS X (.FunctionDef x args body [] none [] scope none x pos) (tDef x (qualnameIn X.env x x) args body scope (jK X.env.cells scope.names []) T pos j):=by
 intro pins s σ H D I h
 obtain⟨tab,h⟩:=h
 rw[exec_def,hdf,han]
 refine aa (dZ (aa (bB ?_)))
 refine aa (ag (aa (bB (ag (bB (aa (ag ?_)))))))
 have hcl:closureFor scope X.env=pure (jK X.env.cells scope.names []):=jFK fun y hy hz=>I.ok.has y.1 (hfree y hy hz)
 have hg:s.heap.Ns mainGlobals X.mg:=I.mod.glob.keeps I.bk
 have C:=CH.keeps I.bk
 have gT:∀ {ps:Array Value},H T=some (.tbl ps)->mainGlobals≠T:=fun hT z=>by
  obtain⟨o,es,ep,e,_⟩:=I.mod.glob
  have:=(I.bs _ _ e).2
  rw[z,hT] at this
  cases this
 have bT:∀ {ps:Array Value},H T=some (.tbl ps)->s.heap.BuiltinsAt X.mg T:=fun hT=>by
  obtain⟨bm,o,h1,h2,h3,h4,h5,h6,h7⟩:=hbm
  refine⟨bm,o,h1,h2,h3,fun z=>?_,(I.bs _ _ h4).1,h5,h6,h7⟩
  have:=(I.bs _ _ h4).2
  rw[z,hT] at this
  cases this
 rcases tab with hT | ⟨c,hT,hc⟩
 ·refine PySem.W.makeFunction_K hcl I.ok.glob hg hcode C (I.hok T _ hT) trivial rfl (gT hT) (bT hT) fun c ctv doc h' tk k1 k2 k3 k4 k5=>?_
  obtain⟨oc,hoc⟩:=ncP.is (q:=qualnameIn X.env x x) k4
  have I1:Inv X pins σ (upd (upd H T (.tbl (#[]++onePs pos c))) c (.ext (ncP (qualnameIn X.env x x) c))) { s with heap:=h',toks:=tk} :=I.grown hT k1 k5 k2 k4 ⟨oc,hoc⟩ ncP.stay
  have I2:=I1.laidX (t':=tk) (a:=h'.objs.size) (φ:=nfP x (qualnameIn X.env x x) args body scope (jK X.env.cells scope.names []) h'.objs.size c) (h':=h'.push (fnMade x (qualnameIn X.env x x) args body scope (jK X.env.cells scope.names []) doc ((X.mg "__name__").getD .none) c ctv)) (fun b u q=>ae _ q) (ak _) ⟨doc,_,ctv,am _ rfl⟩ ⟨_,am _ rfl⟩ nfP.stay
  have hcn:H c=none:=I.hok.fresh k2
  have han:H h'.objs.size=none:=I.hok.fresh (bf k2 (cJ k3))
  have ca:c≠h'.objs.size:=aR k3
  have Tc:T≠c:=fun z=>by rw[z,hcn] at hT; cases hT
  have Ta:T≠h'.objs.size:=fun z=>by rw[z,han] at hT; cases hT
  refine aa (dZ (aa (wpAny_bindName (jBW (v:= .ref h'.objs.size) I2 hN hj lx rfl (fun s' I'=>ag ⟨_,_,I',?_⟩) hf))))
  refine h _ c _ j8 (by rw[jA ca,j8]) (by rw[jA Ta,jA Tc,j8,i4]) (fun b o e n=>?_) han
  rw[jA (jB e han),jA (jB e hcn),jA n]
  exact e
 ·refine PySem.W.makeFunction_hit (cv:= .ref c) hcl I.ok.glob hg hcode C (I.hok T _ hT) (by exact trivial) (by simp [codeAmong,rawInt]) (bT hT) fun ctv doc h' tk k1 k2=>?_
  have I2:=I.laidX (t':=tk) (a:=h'.objs.size) (φ:=nfP x (qualnameIn X.env x x) args body scope (jK X.env.cells scope.names []) h'.objs.size c) (h':=h'.push (fnMade x (qualnameIn X.env x x) args body scope (jK X.env.cells scope.names []) doc ((X.mg "__name__").getD .none) c ctv)) (fun b u q=>ae _ (k1 b u q)) k2 ⟨doc,_,ctv,am _ rfl⟩ ⟨_,am _ rfl⟩ nfP.stay
  have han:H h'.objs.size=none:=I.hok.fresh k2
  refine aa (dZ (aa (wpAny_bindName (jBW (v:= .ref h'.objs.size) I2 hN hj lx rfl (fun s' I'=>ag ⟨_,_,I',?_⟩) hf))))
  refine h _ c _ j8 (by rw[jA (jB hc han)]; exact hc) (by rw[jA (jB hT han)]; exact hT) (fun b o e n=>?_) han
  rw[jA (jB e han)]
  exact e
end
theorem jG8 {β:Type}{x:Str} :∀ {l:List (Str×β)},(∀ v,(x,v)∉l)->l.lookup x=none
 | [],_=>rfl
 | (y,v)::r,h=>by
  rw[bu,dv.mpr (fun e=>h v (by rw[e]; exact az))]
  exact jG8 fun w hw=>h w (aM _ hw)
theorem jCK {β:Type}{x:Str} :∀ {l m:List (Str×β)},(l++m).lookup x=(l.lookup x).or (m.lookup x)
 | [],_=>rfl
 | (y,v)::r,m=>by
  rw[ie,bu,bu,jCK]
  cases x==y <;> rfl
theorem jEB:∀ {ps:List Str}{us:List Value}{i:Nat}{x:Str}{u:Value},ps.Nodup->ps[i]?=some x->us[i]?=some u->(ps.zip us).reverse.lookup x=some u
 | [],_,_,_,_,_,h,_=>by simp at h
 | _::_,[],_,_,_,_,_,h=>by simp at h
 | p::ps,w::us,0,x,u,nd,h1,h2=>by
  simp at h1 h2
  subst h1 h2
  rw[dW,List.reverse_cons,jCK,jG8 fun v hv=>(cy.mp nd).1 (dk (List.mem_reverse.mp hv)).1,bu,beq_self_eq_true]
  rfl
 | p::ps,w::us,i+1,x,u,nd,h1,h2=>by
  rw[dW,List.reverse_cons,jCK,jEB (i:=i) (cy.mp nd).2 (by simpa using h1) (by simpa using h2)]
  rfl
def cxN (P:Program)(w:World)(K:W.Frag)(mg:Str->Option Value)(base:Heap)(N:List Str)(qual:Str)(scope:Scope)(f:Addr)(cd:Value)(cl:List (Str×Addr))(A:Around)(outer:List Env)(s:Shared)(H:Hp):Cx where
 prog:=P
 w:=w
 K:=K
 mg:=mg
 base:=base
 A:=A.deeper (envX qual scope s.heap.objs.size f cd cl)
 N:=N
 s₀:=s
 H₀:=H
 env:=envX qual scope s.heap.objs.size f cd cl
 outer:=outer
 stack:=envX qual scope s.heap.objs.size f cd cl::outer
 ex:=[]
 calm:=true
 fn:=fun _=>false
 pn:=[]
 xe:=fun _ _=>False
structure ClOk (cl:List (Str×Addr))(s:Shared)(H:Hp):Prop where
 inj:∀ x y c,cl.lookup x=some c->cl.lookup y=some c->x=y
 cell:∀ x c,cl.lookup x=some c->(∃ v,s.heap.IsCell c v)/\H c=none
def FvOk (fs:List Str)(fv:List V)(cl:List (Str×Addr))(s:Shared):Prop:=fv.length=fs.length/\∀ (i:Nat) (x:Str) (v:V),fs[i]?=some x->fv[i]?=some v->∃ c u,cl.lookup x=some c/\RelV v u/\s.heap.IsCell c (some u)
structure NScope (N ps fs:List Str)(sc:Scope):Prop where
 kind:sc.kind= .function
 co:sc.isCoroutine=false
 gen:sc.isGenerator=false
 nd:N.Nodup
 pre:N.take (ps.length+fs.length)=ps++fs
 par:∀ x∈ps,sc.names.lookup x=some .local
 fre:∀ x∈fs,sc.names.lookup x=some .free
 all:∀ x,sc.names.lookup x=some .free->x∈fs
 nocell:∀ y∈sc.names,y.2≠ .cell
def jBF (N:List Str)(vs fv:List V):St:=kP N (vs++fv)
section
variable {P:Program}{w:World}{K:W.Frag}{mg:Str->Option Value}{base:Heap}{N ps fs:List Str}{qual:Str}{scope:Scope}{f:Addr}{cd:Value}{cl:List (Str×Addr)}{A:Around}{outer:List Env}{s:Shared}{H:Hp}{us:List Value}{vs fv:List V}
theorem jEK {h1:Heap}{tk:Nat}(S:NScope N ps fs scope)(hd:A.handled=none)(e0:Env0 P w K mg base A outer s H)(hl:us.length=ps.length)(r:Vals vs us)(C:ClOk cl s H)(Fv:FvOk fs fv cl s)
  (ns:h1.Ns s.heap.objs.size fun x=>(ps.zip us).reverse.lookup x) (hk:∀ b o,s.heap.get? b=some o->h1.get? b=some o):
  Inv (cxN P w K mg base N qual scope f cd cl A outer s H) [] (jBF N vs fv) H { s with heap:=h1,toks:=tk} :=by
 have hpl:ps.length+fs.length<=N.length:=by have:=bP List.length S.pre; rw[bD,aC] at this; omega
 have noA:∀ b:Addr,b∉(cxN P w K mg base N qual scope f cd cl A outer s H).ex:=fun b z=>absurd (show b∈([]:List Addr) from z) (by simp)
 have vl:vs.length=ps.length:=r.length.trans hl
 refine⟨⟨e0.mod,S.kind,rfl,rfl,ak _,C.inj,fun y hy=>?_,fun y c z=>(nomatch z),fun _=>hd,gn e0.frames, .inr ⟨rfl,rfl⟩,fun b z=>absurd z (noA b),e0.bs,e0.bsz,fun b _ _=>noA b,fun b z=>absurd z (noA b),e0.funs,e0.frf⟩,
  rfl,e0.bare,Un.kept hk,⟨_,ns,fun i y v h1' h2 h3=>?_⟩,fun y c h=>?_,e0.hok.fresh (ak _),fun y c h=>(C.cell y c h).2,fun p hp=>absurd (show p∈([]:List (Addr×Obj)) from hp) (by simp),e0.hok.kept hk,?_⟩
 ·have hy:scope.names.lookup y=some .cell\/scope.names.lookup y=some .free:=hy
  rcases hy with hy | hy
  ·exact absurd rfl (S.nocell _ (cm hy))
  ·have m:=S.all y hy
   obtain⟨i,hi⟩:=bv m
   have hi2:i<fv.length:=by rw[Fv.1]; exact(ar.mp hi).1
   obtain⟨c,u,e,_⟩:=Fv.2 i y fv[i] hi (by simp [hi2])
   exact⟨c,e⟩
 ·have h1':N[i]?=some y:=h1'
  have hlen:(vs++fv).length=ps.length+fs.length:=by rw[aC,vl,Fv.1]
  have hi:i<(vs++fv).length:=by
   unfold jBF kP at h2
   by_cases hi:i<(vs++fv).length
   ·exact hi
   ·rw[ba (by simpa using hi)] at h2
    rw[hV] at h2
    split at h2 <;> cases h2
  have hv:(vs++fv)[i]?=some v:=by
   unfold jBF kP at h2
   rw[bH (by simpa using hi),bb] at h2
   cases e:(vs++fv)[i]? with
   | none=>rw[e] at h2; cases h2
   | some a=>rw[e] at h2; cases h2; rfl
  have hy:(ps++fs)[i]?=some y:=by
   rw[<- S.pre,bY (by omega)]
   exact h1'
  by_cases hi1:i<ps.length
  ·rw[bH hi1] at hy
   rw[bH (by omega)] at hv
   obtain⟨u,hu,rv⟩:=r.get hv
   have ndP:ps.Nodup:=by
    have:(ps++fs).Nodup:=by rw[<- S.pre]; exact S.nd.sublist (df _ _)
    exact(gZ.mp this).1
   exact⟨u,rv, .inl ⟨S.par y (aI hy),jEB ndP hy hu⟩⟩
  ·rw[ba (by omega)] at hy
   rw[ba (by omega),vl] at hv
   obtain⟨c,u,e,rv,o,ho,hd⟩:=Fv.2 _ y v hy hv
   exact⟨u,rv, .inr ⟨.inr (S.fre y (aI hy)),c,e,o,hk _ _ ho,hd⟩⟩
 ·obtain⟨⟨v,o,ho,hd⟩,_⟩:=C.cell y c h
  exact⟨v,o,hk _ _ ho,hd⟩
 ·unfold jBF kP
  show _=N.length
  rw[aC,af,d9,aC,vl,Fv.1]
  omega
end
structure FnN (P:Program)(w:World)(K:W.Frag)(mg:Str->Option Value)(base:Heap)(k:Nat)(x q:Str)(args:Arguments)(body:List Stmt)(scope:Scope)(ps fs:List Str)(sp:List V->Sp):Prop where
 len:∀ fv vs H Q E,sp fv vs H Q E->vs.length=ps.length
 run:∀ (A:Around) (outer:List Env) (s:Shared) (H:Hp) (a c:Addr) (cl:List (Str×Addr)) (us:List Value) (vs fv:List V) (Q:VK) (E:XK),Room k A->Env0 P w K mg base A outer s H->nfP x q args body scope cl a c s.heap->ncP q c s.heap->ClOk cl s H->FvOk fs fv cl s->Vals vs us->sp fv vs H Q E->
  codeAny (model P w) A (.call (.ref a) ⟨us,[]⟩) (CR CX0 outer P w H s Q E) s
theorem jSX {P:Program}{w:World}{K:W.Frag}{mg:Str->Option Value}{base:Heap}{k:Nat}{x q:Str}{args:Arguments}{body:List Stmt}{scope:Scope}{N ps fs:List Str}{sp:List V->Sp}(S:NScope N ps fs scope)(len:∀ fv vs H Q E,sp fv vs H Q E->vs.length=ps.length)
  (hb:∀ cl doc pm c ctv (us:List Value),us.length=ps.length->bindArgs (PySem.W.fnX x q args body scope cl .none .none doc pm none (.ref c) ctv) ⟨us,[]⟩=pure (ps.zip us))
  (hbody:∀ (A:Around) (outer:List Env) (s:Shared) (H:Hp) (a c:Addr) (cl:List (Str×Addr)) (vs fv:List V) (Q:VK) (E:XK),Room k (A.deeper (envX q scope s.heap.objs.size a (.ref c) cl))->sp fv vs H Q E->
   ∃ t,PSs (cxN P w K mg base N q scope a (.ref c) cl A outer s H) body t/\t { nx:=fun _ H'=>Q .non H',rt:=Q} (jBF N vs fv) H):
  FnN P w K mg base (k+1) x q args body scope ps fs sp:=by
 refine⟨len,fun A outer s H a c cl us vs fv Q E hr e0 hf hc C Fv r hsp=>?_⟩
 have hl:us.length=ps.length:=r.length.symm.trans (len _ _ _ _ _ hsp)
 obtain⟨doc,pm,ctv,ho⟩:=hf
 have lim:s.heap.NoLimit:=e0.mod.nolimit.keeps fun b o e=>(e0.bs b o e).1
 refine codeAny_call_def (body:=body) (binds:=ps.zip us) hr.depth ho rfl lim hc rfl (.of_eq (hb cl doc pm c ctv us hl)) S.nocell (fun y hy=>S.par y.1 (dk hy).1) (fun h1 ns hk=>?_) S.co S.gen S.kind
 obtain⟨t,ht,hq⟩:=hbody A outer s H a c cl vs fv Q E (hr.deeper _) hsp
 have I:Inv (cxN P w K mg base N q scope a (.ref c) cl A outer s H) [] (jBF N vs fv) H { s with heap:=h1,toks:=s.toks+(ps.zip us).length} :=jEK S hr.hd e0 hl r C Fv ns hk
 refine bw (ht [] _ (jBF N vs fv) H _ I hq) (fun fl s' hs=>?_) fun e s' hs=>False.elim hs
 have fin:∀ {σ':St}{H':Hp}{v:V}{u:Value},Inv (cxN P w K mg base N q scope a (.ref c) cl A outer s H) [] σ' H' s'->RelV v u->Q v H'->CE outer P w H s Q u s':=
  fun {σ' H' v u} J rv q=>⟨v,H',J.os,J.bare,J.base,J.hok,rv,q⟩
 cases fl with
 | ret u=>
  obtain⟨v,σ',H',J,rv,q⟩:=hs
  exact fin J rv q
 | next=>
  obtain⟨σ',H',J,q⟩:=hs
  exact fin (v:=V.non) (u:=Value.none) J rfl q
 | brk=>
  obtain⟨_,_,_,q⟩:=hs
  exact False.elim q
 | cont=>
  obtain⟨_,_,_,q⟩:=hs
  exact False.elim q
def jIB (σ:St)(is:List Nat)(fv:List V):Prop:=is.map (fun i=>(σ[i]?).getD none)=fv.map some
section
variable {X:Cx}{pins:List (Addr×Obj)}{σ:St}{H:Hp}{s:Shared}{fs:List Str}{fv:List V}{is:List Nat}{scope:Scope}
def FsAt (X:Cx)(fs:List Str)(is:List Nat):Prop:=is.length=fs.length/\∀ (k:Nat) (x:Str),fs[k]?=some x->∃ i,is[k]?=some i/\X.N[i]?=some x/\(X.env.scope.names.lookup x=some .cell\/X.env.scope.names.lookup x=some .free)
theorem Inv.clOk (I:Inv X pins σ H s)(hfree:∀ y∈scope.names,y.2= .free->X.env.scope.names.lookup y.1=some .cell\/X.env.scope.names.lookup y.1=some .free):ClOk (jK X.env.cells scope.names []) s H:=by
 have sub:∀ x c,(jK X.env.cells scope.names []).lookup x=some c->X.env.cells.lookup x=some c:=jAM scope.names [] (fun y hy hf=>I.ok.has y.1 (hfree y hy hf)) (fun x c e=>by cases e)
 exact⟨fun x y c h1 h2=>I.ok.inj x y c (sub x c h1) (sub y c h2),fun x c h=>⟨I.cell x c (sub x c h),I.freeC x c (sub x c h)⟩⟩
theorem Inv.fvOk (I:Inv X pins σ H s)(hfree:∀ y∈scope.names,y.2= .free->X.env.scope.names.lookup y.1=some .cell\/X.env.scope.names.lookup y.1=some .free)(hfs:∀ x∈fs,scope.names.lookup x=some .free)(ha:FsAt X fs is)(hs:jIB σ is fv):FvOk fs fv (jK X.env.cells scope.names []) s:=by
 have hl:fv.length=fs.length:=by
  have:=bP List.length hs
  rw[af,af] at this
  rw[<- this,ha.1]
 refine⟨hl,fun k x v h1 h2=>?_⟩
 obtain⟨i,hi,hN,hk⟩:=ha.2 k x h1
 have e:(σ[i]?).getD none=some v:=by
  have:=bP (fun l=>l[k]?) hs
  simp only [bb,hi,h2,Option.map_some] at this
  exact bh this
 have e2:σ[i]?=some (some v):=by
  cases q:σ[i]? with
  | none=>rw[q] at e; cases e
  | some z=>rw[q] at e; exact bP some e
 obtain⟨m,hn,hl⟩:=I.loc
 obtain⟨u,r,l⟩:=hl i x v hN e2 (.inr hk)
 obtain⟨c,hc⟩:=jAN (cells:=X.env.cells) (x:=x) scope.names [] (.inl (jAK (hfs x (aI h1))))
 have sub:=jAM (cells:=X.env.cells) scope.names [] (fun y hy hf=>I.ok.has y.1 (hfree y hy hf)) (fun x c e=>by cases e) x c hc
 rcases l with ⟨lk,_⟩ | ⟨_,c',hc',z⟩
 ·have lk':X.env.scope.names.lookup x=some .local:=lk
  rcases hk with z | z <;> rw[lk'] at z <;> cases z
 ·rw[sub] at hc'
  cases hc'
  exact⟨c,u,hc,r,z⟩
end
section
variable {X:Cx}{k:Nat}{x q:Str}{args:Arguments}{body:List Stmt}{scope:Scope}{ps fs:List Str}{is:List Nat}{sp:List V->Sp}{p pos:Pos}{e:Expr}{es:List Expr}{t:TA}{j:Nat}
end
section
variable {X:Cx}{tg iter elt:Expr}{ifs:List Expr}{sc:Scope}{pos:Pos}{wi:TI}{g:TG}{tt:TT}{te:St->TE}{m:List (Option Nat)}{Nc:List Str}
end
def jT3 (Ts:List Addr)(H:Hp):Prop:=∀ b,H b=none\/(∃ o xs,H b=some (.frz o (.lst xs)))\/b∈Ts
theorem jJT {cts:List (Addr×Addr)}{P:Program}{w:World}{K:W.Frag}{mg mb:Str->Option Value}{CX:CXT}{k:Nat}{fa a:Addr}{fd:FuncData}{x:Str}{sp:Sp}{s₁:Shared}{vs:List Value}{ns:List Int}
  (KX:K.In s₁.heap) (hns:s₁.heap.Ns mainGlobals mg) (hb:s₁.heap.Ns builtinsNs mb) (hbb:∀ x:Str,x≠ "__name__" ->mb x=bootBuiltins x) (hlim:s₁.heap.NoLimit) (hg:s₁.gens=#[])
  (ha:s₁.heap.get? a=some { cls:= .type "list",data:= .seq vs.toArray}) (hi:IntsAre vs ns) (hl:ns.length<=sizeLine) (hr:Room k callerA) (hT:∀ T∈cts.map (·.2),s₁.heap.get? T=some (tabObj #[])) (CH:∀ p∈cts,PySem.W.CodeHd s₁.heap p.1 p.2) (hKT:∀ T∈cts.map (·.2),K.lookup T=none)
  (F:∀ base:Heap,K.In base->base.Ns mainGlobals mg->FnOk P w K mg base CX k fa fd [x] sp) (hbind:∀ (s:Shared) (u:Value),BindsTo s fd ⟨[u],[]⟩ [(x,u)])
  (hsp:∀ H:Hp,(∀ T∈cts.map (·.2),H T=some (.tbl #[]))->SqL K H a (ns.map V.int)->sp [.ref a] H (fun v _=>v= .bl true) fun _ _ _=>False)
  (hCX:∀ H e s',CX [] H s₁ (fun _ _ _=>False) e s'->False):
  codeAny (model P w) callerA (.call (.ref fa) ⟨[.ref a],[]⟩) (fun r s'=>r= .ok (.ret (.bool true))/\OldK s₁.heap s'.heap/\s'.os=s₁.os/\AllBare s'.gens) s₁:=by
 have rv:=jFR hi
 have lenV:=hi.length
 have core:∀ H:Hp,jT3 (cts.map (·.2)) H->(∀ T∈cts.map (·.2),H T=some (.tbl #[]))->SqL K H a (ns.map V.int)->HOk P w H s₁.heap->(∀ b,H b≠none->b=a\/b∈cts.map (·.2))->(H a≠none->K.lookup a=none)->
   codeAny (model P w) callerA (.call (.ref fa) ⟨[.ref a],[]⟩) (fun r s'=>r= .ok (.ret (.bool true))/\OldK s₁.heap s'.heap/\s'.os=s₁.os/\AllBare s'.gens) s₁:=by
  intro H hO hHT hS hok hA hK
  have base_of:∀ {b:Addr}{o:Obj},s₁.heap.get? b=some o->H b=none->(hidT s₁.heap H).get? b=some o:=fun e n=>jNV e n
  have noA:∀ {b:Addr}{o:Obj}{es:Array DictEntry}{ep:Nat},s₁.heap.get? b=some o->o.data= .dict es ep->H b=none:=fun {b o es ep} e d=>by
   cases q:H b with
   | none=>rfl
   | some u=>
    rcases hA b (by rw[q]; simp) with e' | e'
    ·subst e'
     rw[ha] at e; cases e
     have d':Data.seq vs.toArray _=Data.dict es ep:=d
     cases d'
    ·rw[hT b e'] at e; cases e
     have d':Data.fields _=Data.dict es ep:=d
     cases d'
  have nsK:∀ {b:Addr}{m:Str->Option Value},s₁.heap.Ns b m->(hidT s₁.heap H).Ns b m:=fun {b m} ⟨o,es,ep,e,d,r⟩=>⟨o,es,ep,base_of e (noA e d),d,r⟩
  have hKb:K.In (hidT s₁.heap H):=fun b o e=>base_of (KX b o e) (by
   cases q:H b with
   | none=>rfl
   | some u=>
    rcases hA b (by rw[q]; simp) with e' | e'
    ·subst e'
     rw[hK (by rw[q]; simp)] at e; cases e
    ·rw[hKT b e'] at e; cases e)
  have hM:Mod K mg (hidT s₁.heap H):=⟨hKb,nsK hns,⟨mb,nsK hb,hbb⟩,let ⟨mc,h1,h2⟩:=hlim; ⟨mc,nsK h1,h2⟩⟩
  have e0:Env0 P w K mg (hidT s₁.heap H) callerA [] s₁ H:=⟨rfl,hM,fun b o e=>jQB e,Nat.le_of_eq (jM2 _ _),trivial,fun b hb=>absurd (show b∈([]:List Addr) from hb) (by simp),hok, .of_eq hg⟩
  refine dy ((F _ hKb (nsK hns)).run callerA [] s₁ H ⟨[.ref a],[]⟩ [.ref a] [.ref a] _ _ hr e0 (hbind s₁ (.ref a)) (.cons rfl .nil) (hsp H hHT hS)) fun r s' h=>?_
  cases r with
  | error e=>exact(hCX H e s' h).elim
  | ok fl=>
   cases fl with
   | next=>exact False.elim h
   | brk=>exact False.elim h
   | cont=>exact False.elim h
   | ret u=>
    obtain⟨v,H',os,bare,un,hok',r',q⟩:=h
    have q':v= .bl true:=q
    subst q'
    obtain rfl:u=Value.bool true:=r'
    have gr:∀ T∈cts.map (·.2),∃ more,s'.heap.get? T=some (tabObj (#[]++more)):=fun T hTm=>by
     obtain⟨more,z⟩:=un.tbls T _ (hHT T hTm)
     exact⟨more,hok' T _ z⟩
    have kp:∀ b o,b∉cts.map (·.2)->s₁.heap.get? b=some o->s'.heap.get? b=some o:=fun b o hbT e=>?_
    ·refine⟨rfl,⟨fun b o e=>?_,fun b o e=>?_⟩,os,bare⟩
     ·by_cases hb:b∈cts.map (·.2)
      ·obtain⟨p,hp,rfl⟩:=aW.mp hb
       have q:=hT _ hb
       rw[q] at e
       cases e
       obtain⟨more,z⟩:=gr _ hb
       exact .inr (.inl ⟨((CH p hp).tab q).isCodeTable,rfl,#[],more,rfl,z⟩)
      ·exact .inl (kp b o hb e)
     ·by_cases hb:b∈cts.map (·.2)
      ·obtain⟨more,z⟩:=gr _ hb
       exact⟨_,z⟩
      ·exact⟨o,kp b o hb e⟩
    cases q:H b with
    | none=>exact un.keep b o e q (by intro z; exact absurd (show b∈([]:List Addr) from z) (by simp)) (by simp)
    | some u=>
     rcases hO b with z | ⟨ob,xs,z⟩ | z
     ·rw[q] at z; cases z
     ·have z2:=un.frzs b ob _ z
      obtain⟨e1,_⟩:=hok b _ z
      obtain⟨e2,_⟩:=hok' b _ z2
      rw[e] at e1; cases e1
      exact e2
     ·exact absurd z hbT
 have aT:a∉cts.map (·.2):=fun z=>by rw[hT a z] at ha; cases ha
 cases hk:K.lookup a with
 | some o=>
  have e:=KX a o hk
  rw[ha] at e
  cases e
  refine core (fun b=>if b∈cts.map (·.2) then some (.tbl #[]) else none) (fun b=>?_) (fun T hm=>aj hm) (.inr ⟨_,vs.toArray,_,hk,rfl,rfl,rfl,by rw[ao,lenV]; exact hl,by simpa using rv⟩) (fun b u z=>?_) (fun b z=>?_) fun z=>absurd (ah aT) z
  ·by_cases hb:b∈cts.map (·.2)
   ·exact .inr (.inr hb)
   ·exact .inl (ah hb)
  ·by_cases hb:b∈cts.map (·.2)
   ·have z':=(aj hb).symm.trans z
    cases z'
    exact hT b hb
   ·have z':=(ah hb).symm.trans z
    cases z'
  ·by_cases hb:b∈cts.map (·.2)
   ·exact .inr hb
   ·exact absurd (ah hb) z
 | none=>
  refine core (fun b=>if b∈cts.map (·.2) then some (.tbl #[]) else if b=a then some (.frz { cls:= .type "list",data:= .seq vs.toArray} (.lst (ns.map V.int))) else none) (fun b=>?_) (fun T hm=>aj hm) (.inl (.inr ⟨{ cls:= .type "list",data:= .seq vs.toArray},by dsimp only; rw[ah aT,aj rfl]⟩)) (fun b u z=>?_) (fun b z=>?_) fun _=>hk
  ·by_cases hT':b∈cts.map (·.2)
   ·exact .inr (.inr hT')
   ·by_cases hb:b=a
    ·exact .inr (.inl ⟨_,_,by dsimp only; rw[ah hT',aj hb]⟩)
    ·exact .inl (by dsimp only; rw[ah hT',ah hb])
  ·dsimp only at z
   by_cases hT':b∈cts.map (·.2)
   ·rw[aj hT'] at z
    cases z
    exact hT b hT'
   ·rw[ah hT'] at z
    by_cases hb:b=a
    ·rw[aj hb] at z
     cases z
     subst hb
     exact⟨ha,by rw[af]; exact hl,vs,_,rv,ha⟩
    ·rw[ah hb] at z
     cases z
  ·replace z:(if b∈cts.map (·.2) then some (HO.tbl #[]) else if b=a then some (HO.frz { cls:= .type "list",data:= .seq vs.toArray} (.lst (ns.map V.int))) else none)≠none:=z
   by_cases hT':b∈cts.map (·.2)
   ·exact .inr hT'
   ·by_cases hb:b=a
    ·exact .inl hb
    ·rw[ah hT',ah hb] at z
     exact absurd rfl z
theorem walk_ofTs {cts:List (Addr×Addr)}{l:PySem.W.OpenLaw}{n k:Nat}{q:Program}{loose:List Str}{XP:(Str->Option Value)->Heap->Prop}{YP:World->Heap->Prop}{d:DefRec}{K:Params->W.Frag}{CX:World->CXT}{sp:World->Sp}{x:Str}
  (hn:l.most=some n) (hn2:n<=sizeLine) (hdf:d.params.defaults=[]) (hr:Room k callerA)
  (hY:∀ (w:World) (h:Heap),YP w h->(K w.params).In h/\∀ T∈cts.map (·.2),h.get? T=some (tabObj #[])) (hcd:∀ w:World,∀ p∈cts,codeHdIn (K w.params) p.1 p.2=true) (hKT:∀ w:World,∀ T∈cts.map (·.2),(K w.params).lookup T=none)
  (F:∀ (w:World) (mg:Str->Option Value) (fa:Addr) (h:Heap),(K w.params).In h->h.Ns mainGlobals mg->mg d.name=some (.ref fa)->
   ∃ fd:FuncData,(∀ (s:Shared) (u:Value),BindsTo s fd ⟨[u],[]⟩ [(x,u)])/\
    ∀ base:Heap,(K w.params).In base->base.Ns mainGlobals mg->FnOk l.prog w (K w.params) mg base (CX w) k fa fd [x] (sp w))
  (hsp:∀ (w:World) (H:Hp) (a:Addr) (ns:List Int),ns.length<=n->(∀ T∈cts.map (·.2),H T=some (.tbl #[]))->SqL (K w.params) H a (ns.map V.int)->sp w [.ref a] H (fun v _=>v= .bl true) fun _ _ _=>False)
  (hCX:∀ (w:World) (H:Hp) (s:Shared) (e:Value) (s':Shared),CX w [] H s (fun _ _ _=>False) e s'->False):
  PySem.W.WalkO q loose XP YP l.row.toRowW d [] (fun f vs=>PySem.call f vs):=by
 refine Att.attach_call hn hdf fun w s₀ s₁ mg mb fa o pm cd doc a vs ns G Y ho hd _ hmg hobj hints hlen hg=>?_
 obtain⟨KX,hT⟩:=hY w _ Y
 obtain⟨fd,hb,hF⟩:=F w mg fa _ KX G.T.g hmg
 exact jJT KX G.T.g G.T.b G.T.builtins G.T.nolimit hg hobj hints (bf hlen hn2) hr hT (fun p hp=>gF KX (hcd w p hp)) (hKT w) hF hb (fun H hO hS=>hsp w H a ns hlen hO hS) fun H e s'=>hCX w H s₁ e s'
open PySem.AutoSeq1 (wpAny_loadPart')
section
variable {prog:Program}{w:World}{A:Around}{E:Value->Shared->Prop}{s:Shared}
theorem jO0 {tp:Bool}{e it l:Addr}{i:Nat}{xs:Array Value}{x old:Value}{Q:Value->Shared->Prop}(ee:IsEnum s.heap e it i old)(g1:ItAt tp s.heap it l i)(o1:ObAt tp s.heap l xs)(hx:xs[i]?=some x)(ne:e≠it)
  (k:∀ h',IsEnumOut h' e it ((i:Int)+1) x s.heap.objs.size->ItAt tp h' it l (i+1)->h'.get? s.heap.objs.size=some { cls:= .type "tuple",data:= .seq #[.int i s.toks,x]} ->h'.objs.size=s.heap.objs.size+1->
   (∀ c o,c≠e->c≠it->s.heap.get? c=some o->h'.get? c=some o)->Q (.ref s.heap.objs.size) { s with heap:=h',toks:=s.toks+1}):
  wpAny (model prog w) A (Builtin.«enumerate.__next__» ⟨[.ref e],[]⟩) (fun fin s'=>∃ v,fin= .done (.ret v)/\Q v s') E s:=by
 obtain⟨hp,g,d,tk,os⟩:=s
 show wpAny (model prog w) A (field (.ref e) 2 >>= _) _ _ _
 refine aa (bM ee rfl (x:= .ref it) rfl (aa (next1 g1 o1 hx fun p1 r1 q1=>?_)))
 have q1:Heap.SameBut it hp p1:=q1
 have e1:IsEnum p1 e it i old:=(q1.2 e ne).trans ee
 show wpAny (model prog w) A (field (.ref e) 3 >>= _) _ _ ⟨p1,g,d,tk,os⟩
 refine aa (bM e1 rfl (x:=rawInt i) rfl (?_:wpAny (model prog w) A (field (.ref e) 4 >>= _) _ _ ⟨p1,g,d,tk,os⟩))
 refine aa (bM e1 rfl (x:= .none) rfl (?_:wpAny (model prog w) A (mkInt i >>= _) _ _ ⟨p1,g,d,tk,os⟩))
 refine aa (wpAny_mkInt (?_:wpAny (model prog w) A (setField (.ref e) 3 (rawInt ((i:Int)+1)) >>= _) _ _ ⟨p1,g,d,tk+1,os⟩))
 refine aa (cB e1 (by simp) fun p2 e2 q2=>?_)
 have q2:Heap.SameBut e p1 p2:=q2
 have e2:IsEnum p2 e it ((i:Int)+1) old:=e2
 show wpAny (model prog w) A (setField (.ref e) 4 .none >>= _) _ _ ⟨p2,g,d,tk+1,os⟩
 refine aa (cB e2 (by simp) fun p3 e3 q3=>?_)
 have q3:Heap.SameBut e p2 p3:=q3
 have e3:IsEnum p3 e it ((i:Int)+1) old:=e3
 show wpAny (model prog w) A (newTuple [.int i tk,x] >>= _) _ _ ⟨p3,g,d,tk+1,os⟩
 refine aa (wpAny_newTuple ?_)
 have e4:IsEnum (p3.push { cls:= .type "tuple",data:= .seq #[.int i tk,x]}) e it ((i:Int)+1) old:=ae _ e3
 have sz:p3.objs.size=hp.objs.size:=by rw[q3.1,q2.1,q1.1]
 have lt:e<hp.objs.size:=ay ee
 have t4:(p3.push { cls:= .type "tuple",data:= .seq #[.int i tk,x]}).get? hp.objs.size=some { cls:= .type "tuple",data:= .seq #[.int i tk,x]} :=by rw[<- sz]; exact am _ rfl
 have z4:(p3.push { cls:= .type "tuple",data:= .seq #[.int i tk,x]}).objs.size=hp.objs.size+1:=by rw[cx,sz]
 have k4:∀ c o,c≠e->c≠it->hp.get? c=some o->(p3.push { cls:= .type "tuple",data:= .seq #[.int i tk,x]}).get? c=some o:=fun c o n1 n2 v=>ae _ (q3.extBut c o n1 (q2.extBut c o n1 (q1.extBut c o n2 v)))
 have r4:ItAt tp (p3.push { cls:= .type "tuple",data:= .seq #[.int i tk,x]}) it l (i+1):=((r1.but q2.extBut ne.symm).but q3.extBut ne.symm).at fun o v=>ae _ v
 generalize p3.push { cls:= .type "tuple",data:= .seq #[.int i tk,x]} =p4 at e4 t4 z4 k4 r4 ⊢
 show wpAny (model prog w) A (Builtin.SmallTypes.ownedTupleIsFree (.ref e) >>= _) _ _ ⟨p4,g,d,tk+1,os⟩
 rw[sz]
 refine aa (by
  unfold Builtin.SmallTypes.ownedTupleIsFree
  refine aa (bM e4 rfl (x:= .none) rfl (ag ?_))
  simp only [gc]
  refine aa (cU (aa (bM e4 rfl (x:=old) rfl (aa (cB e4 (by simp) fun p5 e5 q5=>?_)))))
  have q5:Heap.SameBut e p4 p5:=q5
  have e5:IsEnum p5 e it ((i:Int)+1) x:=e5
  refine aa (m:=Builtin.SmallTypes.ownedTupleHandOut (.ref e) (.ref hp.objs.size)) ?_
  unfold Builtin.SmallTypes.ownedTupleHandOut
  refine aa (cB e5 (by simp) fun p6 e6 q6=>?_)
  have q6:Heap.SameBut e p5 p6:=q6
  have e6:IsEnumOut p6 e it ((i:Int)+1) x hp.objs.size:=e6
  refine cB e6 (by simp) fun p7 e7 q7=>?_
  have q7:Heap.SameBut e p6 p7:=q7
  have e7:IsEnumOut p7 e it ((i:Int)+1) x hp.objs.size:=e7
  have up:∀ c o,c≠e->p4.get? c=some o->p7.get? c=some o:=fun c o n v=>q7.extBut _ _ n (q6.extBut _ _ n (q5.extBut _ _ n v))
  exact aa (wpAny_letGo (ag ⟨_,rfl,k p7 e7 (r4.at fun o v=>up _ o ne.symm v) (up _ _ (dF lt) t4) (by rw[q7.1,q6.1,q5.1,z4]) fun c o n1 n2 v=>up c o n1 (k4 c o n1 n2 v)⟩)))
theorem jJI {tp:Bool}{e it l:Addr}{i:Nat}{xs:Array Value}{x old:Value}{Q:Option Value->Shared->Prop}(ee:IsEnum s.heap e it i old)(g1:ItAt tp s.heap it l i)(o1:ObAt tp s.heap l xs)(hx:xs[i]?=some x)(ne:e≠it)
  (k:∀ h',IsEnumOut h' e it ((i:Int)+1) x s.heap.objs.size->ItAt tp h' it l (i+1)->h'.get? s.heap.objs.size=some { cls:= .type "tuple",data:= .seq #[.int i s.toks,x]} ->h'.objs.size=s.heap.objs.size+1->
   (∀ c o,c≠e->c≠it->s.heap.get? c=some o->h'.get? c=some o)->Q (some (.ref s.heap.objs.size)) { s with heap:=h',toks:=s.toks+1}):
  wpAny (model prog w) A (pyNext (.ref e)) Q E s:=by
 have ty:s.TypeIs (.ref e) "enumerate" :=⟨_,ee,rfl⟩
 unfold pyNext
 exact aa (dz (bZ (name:=Str.ofString "__next__") ty F.slot_enumerate_next (bR F.slot_enumerate_next ty F.entry_enumerate_next (jO0 ee g1 o1 hx ne fun h' b1 b2 b3 b4 b5=>ag (k h' b1 b2 b3 b4 b5)) (F.args_enumerate_next_1 _))))
theorem jJJ {tp:Bool}{e it l:Addr}{i:Nat}{xs:Array Value}{old:Value}{Q:Option Value->Shared->Prop}(hh:A.handled=none)(ee:IsEnum s.heap e it i old)(g1:ItAt tp s.heap it l i)(o1:ObAt tp s.heap l xs)(hx:xs[i]?=none)
  (k:∀ h',(∀ c o,c≠e->c≠it->s.heap.get? c=some o->h'.get? c=some o)->Q none { s with heap:=h'}):wpAny (model prog w) A (pyNext (.ref e)) Q E s:=by
 have ty:s.TypeIs (.ref e) "enumerate" :=⟨_,ee,rfl⟩
 unfold pyNext
 refine aa (dz (bZ (name:=Str.ofString "__next__") ty F.slot_enumerate_next (bR F.slot_enumerate_next ty F.entry_enumerate_next (?_:wpAny (model prog w) _ (field (.ref e) 2 >>= _) _ _ _) (F.args_enumerate_next_1 _))))
 refine aa (bM ee rfl (x:= .ref it) rfl (aa (next0 hh g1 o1 hx fun h' x kp ⟨u,eu,cu⟩=>?_)))
 exact aa (fQ (T:= "StopIteration") (b:=true) ⟨u,eu,cu⟩ iH (ag (k _ fun c o _ n v=>kp c o n v)))
end
set_option maxHeartbeats 2000000 in
theorem jLC (tp:Bool)(l:Addr)(xs:Array Value)(u:Obj):
  Meets (Builtin.«enumerate.__new__» ⟨[.type "enumerate", .ref l],[]⟩) (fun _ R s=>s.heap.get? l=some u/\ObAt tp s.heap l xs/\
   R (.ok (.ret (.ref (s.heap.push (iterO tp l)).objs.size))) { s with heap:=(s.heap.push (iterO tp l)).push { cls:= .type "enumerate",data:= .fields #[.none, .bool false, .ref s.heap.objs.size,rawInt 0, .none, .none]}}):=
 .of_wp fun prog w A R s h=>by
  obtain⟨hp,g,d,tk,os⟩:=s
  obtain⟨a0,a1,q⟩:=h
  have sub:=sub_enumerate
  have e1:ObAt tp (Shared.heap ⟨hp,g,d,tk,os⟩) l xs:=a1
  obtain⟨c,dct,dt,sl⟩:=u
  obtain⟨n,hc,hd⟩:∃ n,c=(if tp then .type "tuple" else .type "list")/\dt= .seq xs n:=by
   cases tp with
   | false=>obtain⟨o,e,hc,n,hd⟩:=a1; cases (a0.symm.trans e); exact⟨n,hc,hd⟩
   | true=>obtain⟨o,e,hc,n,hd⟩:=a1; cases (a0.symm.trans e); exact⟨n,hc,hd⟩
  subst hd
  cases tp with
  | false=>
   subst hc
   wp_walk using ce a0
   refine wpAny_stack_any fun _=>ag ?_
   split
   ·rename_i c _ _ _ _ _
    cases hcc:(c==Value.type "enumerate")
    all_goals (wp_walk using ce a0,jEX e1; exact⟨_,rfl,q⟩)
   ·wp_walk using ce a0,jEX e1
    exact⟨_,rfl,q⟩
  | true=>
   subst hc
   wp_walk using ce a0
   refine wpAny_stack_any fun _=>ag ?_
   split
   ·rename_i c _ _ _ _ _
    cases hcc:(c==Value.type "enumerate")
    all_goals (wp_walk using ce a0,jEX e1; exact⟨_,rfl,q⟩)
   ·wp_walk using ce a0,jEX e1
    exact⟨_,rfl,q⟩
theorem jO5 {prog:Program}{w:World}{A:Around}{E:Value->Shared->Prop}{s:Shared}{tp:Bool}{l:Addr}{xs:Array Value}{Q:Value->Shared->Prop}(a1:ObAt tp s.heap l xs)
  (k:∀ h',IsEnum h' (s.heap.objs.size+1) s.heap.objs.size 0 .none->ItAt tp h' s.heap.objs.size l 0->(∀ c o,s.heap.get? c=some o->h'.get? c=some o)->Q (.ref (s.heap.objs.size+1)) { s with heap:=h'}):
  wpAny (model prog w) A (call (.type "enumerate") [.ref l]) Q E s:=by
 obtain⟨u,eu⟩:∃ u,s.heap.get? l=some u:=by
  cases tp with
  | false=>obtain⟨o,e,_⟩:=a1; exact⟨o,e⟩
  | true=>obtain⟨o,e,_⟩:=a1; exact⟨o,e⟩
 refine callType_new F.called_enumerate (by decide) (F.typeCall_enumerate_1 _) (F.newCall_enumerate_1 _) (fun obj=>F.args_object_init_2 obj _) F.entry_enumerate_new (jLC tp l xs u) ⟨eu,a1,?_⟩
 have z1:(s.heap.push (iterO tp l)).objs.size=s.heap.objs.size+1:=cx ..
 have y2:IsEnum ((s.heap.push (iterO tp l)).push { cls:= .type "enumerate",data:= .fields #[.none, .bool false, .ref s.heap.objs.size,rawInt 0, .none, .none]}) (s.heap.push (iterO tp l)).objs.size s.heap.objs.size 0 .none:=am _ rfl
 have y1:((s.heap.push (iterO tp l)).push { cls:= .type "enumerate",data:= .fields #[.none, .bool false, .ref s.heap.objs.size,rawInt 0, .none, .none]}).get? s.heap.objs.size=some (iterO tp l):=ae _ (am _ (jJU _ _))
 show _/\_
 rw[z1] at y2 ⊢
 exact⟨⟨_,y2,rfl⟩,k _ y2 (.new tp y1) fun c o e=>ae _ (ae _ e)⟩
section
variable {X:Cx}
def Ite (tp:Bool)(K:W.Frag)(l:Addr):It:=
 ⟨fun i H=>∃ xs x,Sq tp K H l xs/\xs[i]?=some x,
  fun i H v H'=>∃ T x,H T=none/\v= .ref T/\H'=upd H T (.tup [.int (i:Int),x])/\∀ xs,Sq tp K H l xs->xs[i]?=some x,
  fun i H=>∃ xs,Sq tp K H l xs/\xs.length<=i⟩
theorem jK6 {P:Program}{w:World}{K:W.Frag}{elts:List Expr}{x1:Nat}{tps:Pos}(tp:Bool)(l e it:Addr)(ne:e≠it):
  Turn P w K (.Tuple elts x1 tps) (Ite tp K l) [e,it] e (fun i h=>(∃ old,IsEnum h e it ((i:Nat):Int) old)/\ItAt tp h it l i) where
 mem:=by simp
 obj:=fun i h st b hb=>by
  obtain⟨⟨old,he⟩,y1⟩:=st
  simp only [aF,bQ,eD] at hb
  rcases hb with rfl | rfl
  ·exact⟨_,he,fun v q=>by cases q⟩
  ·exact y1.obj
 keep:=fun i h h' st k=>by
  obtain⟨⟨old,he⟩,h1⟩:=st
  exact⟨⟨old,k e (by simp) _ he⟩,h1.at fun o z=>k it (by simp) o z⟩
 item:=by
  intro X hP hw hK hc i pins s σ H E I hf st hg
  subst hP hw hK
  obtain⟨xs,x,hq1,hx⟩:=hg
  obtain⟨⟨old,he⟩,h1⟩:=st
  obtain⟨its1,r1,p1,_⟩:=I.sq hq1
  obtain⟨u,hu,ru⟩:=r1.get hx
  refine jJI he h1 p1 (x:=u) (by simpa using hu) ne fun h' a1 a2 a3 a4 a5=>?_
  refine⟨_,rfl,wpAny_letOwnedTupleGo_enum (s:= { s with heap:=h',toks:=s.toks+1}) a1 fun h'' b1 sb=>?_⟩
  have fresh:H s.heap.objs.size=none:=I.fresh
  have ntr:∀ b o,H b=some o->b∉([e,it]:List Addr):=fun b o z hb=>by
   have:=(hf b hb).1
   rw[z] at this; cases this
  have kp:∀ b o,b∉([e,it]:List Addr)->s.heap.get? b=some o->h''.get? b=some o:=fun b o hb z=>by
   simp only [aF,bQ,eD,not_or] at hb
   exact(sb.2 b hb.1).trans (a5 b o hb.1 hb.2 z)
  have nz:s.heap.objs.size≠e:=dF (ay he)
  have hT2:h''.get? s.heap.objs.size=some { cls:= .type "tuple",data:= .seq #[.int i s.toks,u]} :=(sb.2 _ nz).trans a3
  have I2:Inv X pins σ (upd H s.heap.objs.size (.tup [.int (i:Int),x])) { s with heap:=h'',toks:=s.toks+1} :=by
   refine I.step (g':=s.gens) (d':=s.drawn) (t':=s.toks+1) (ch:=[e,it]) (fun b hb=>?_) (fun b o _ _ hb z _=>kp b o hb z) (fun b o _ _ hb z _=>⟨o.slots,kp b o hb z⟩)
    (fun b o _ z n=>by rw[jA (aR (ay z))]; exact n) (fun b o hb z=>⟨o,kp b o hb z⟩) (fun b ws z=>by rw[jA (jB z fresh)]; exact z) (fun b o ws z=>by rw[jA (jB z fresh)]; exact z)
    (fun b ps z=>⟨#[],by rw[jA (jB z fresh),z]; simp⟩) (fun m hm=>?_) (fun b o z=>?_) I.bare
   ·obtain⟨f0,f1,f2,f3,f4,f5⟩:=hf b hb
    exact⟨f3,f1,f4,f5⟩
   ·obtain⟨o,es,ep,ho,r⟩:=hm
    exact⟨o,es,ep,kp _ o (fun hb=>(hf _ hb).2.1 rfl) ho,r⟩
   ·by_cases hb:b=s.heap.objs.size
    ·subst hb
     rw[j8] at z
     cases z
     exact⟨by rw[eg]; show 2<=_; decide,[.int i s.toks,u], .cons ⟨_,rfl⟩ (.cons ru .nil),0,hT2⟩
    ·rw[jA hb] at z
     refine(I.hok b o z).stay (fun c w hc q=>kp c w ?_ q) (fun c q=>by rw[jA (jB q fresh)]; exact q) (fun c ws q=>by rw[jA (jB q fresh)]; exact q)
     rcases hc with rfl | hc
     ·exact ntr _ _ z
     ·exact ntr _ _ hc
  refine⟨.ref s.heap.objs.size,_,I2,rfl,⟨_,x,fresh,rfl,rfl,fun xs' q1=>by rw[I.sq_inj q1 hq1]; exact hx⟩,⟨⟨_,b1⟩,?_⟩,fun b hb=>?_⟩
  ·exact a2.at fun o z=>(sb.2 it ne.symm).trans z
  ·rw[jA (fun q=>by
    obtain⟨o,eo⟩:∃ o,s.heap.get? b=some o:=by
     simp only [aF,bQ,eD] at hb
     rcases hb with rfl | rfl
     ·exact⟨_,he⟩
     ·obtain⟨o,z,_⟩:=h1.obj; exact⟨o,z⟩
    exact absurd (ay eo) (by rw[q]; exact cI _))]
   exact(hf b hb).1
 done:=by
  intro X hP hw hK hc i pins s σ H E I hf st hg
  subst hP hw hK
  obtain⟨xs,hq1,hend⟩:=hg
  obtain⟨⟨old,he⟩,h1⟩:=st
  obtain⟨its1,r1,p1,_⟩:=I.sq hq1
  have e1:=r1.length
  refine jJJ (I.ok.hd hc) he h1 p1 (by simp; omega) fun h' kp=>⟨rfl,?_⟩
  have kp2:∀ b o,b∉([e,it]:List Addr)->s.heap.get? b=some o->h'.get? b=some o:=fun b o hb z=>by
   simp only [aF,bQ,eD,not_or] at hb
   exact kp b o hb.1 hb.2 z
  have ntr:∀ b o,H b=some o->b∉([e,it]:List Addr):=fun b o z hb=>by
   have:=(hf b hb).1
   rw[z] at this; cases this
  refine I.step (g':=s.gens) (d':=s.drawn) (t':=s.toks) (ch:=[e,it]) (fun b hb=>?_) (fun b o _ _ hb z _=>kp2 b o hb z) (fun b o _ _ hb z _=>⟨o.slots,kp2 b o hb z⟩)
   (fun b o _ z n=>n) (fun b o hb z=>⟨o,kp2 b o hb z⟩) (fun b ws z=>z) (fun b o ws z=>z) (fun b ps z=>⟨#[],by rw[z]; simp⟩) (fun m hm=>?_) (fun b o z=>?_) I.bare
  ·obtain⟨f0,f1,f2,f3,f4,f5⟩:=hf b hb
   exact⟨f3,f1,f4,f5⟩
  ·obtain⟨o,es,ep,ho,r⟩:=hm
   exact⟨o,es,ep,kp2 _ o (fun hb=>(hf _ hb).2.1 rfl) ho,r⟩
  ·refine(I.hok b o z).stay (fun c w hc q=>kp2 c w ?_ q) (fun _ q=>q) fun _ _ q=>q
   rcases hc with rfl | hc
   ·exact ntr _ _ z
   ·exact ntr _ _ hc
 self:=fun _ _ _ _ _ st h=>wpAny_pyIter_enum st.1.choose_spec h
def iEnum (K:W.Frag)(ta:TA):TI:=fun σ H R=>ta σ H fun vs H1=>∃ tp l,vs=[.ref l]/\(∃ xs,Sq tp K H1 l xs)/\R (Ite tp K l) H1
theorem jPL {a:Expr}{ta:TA}{p pos:Pos}{elts:List Expr}{x1:Nat}{tp:Pos}(hg:Gl X "enumerate")(hm:X.mg "enumerate" =none)(ha:PA X [a] ta)(hv:bootBuiltins "enumerate" =some (.type "enumerate"):=by decide+kernel)
  (he:starEach [a] X.env=(false,eval a X.env)::starEach [] X.env:=by rfl) (hpl:(backTo pos (starEach [] X.env)).any (·.1)=false:=by rfl):
  PI X (.Tuple elts x1 tp) (.Call (.Name "enumerate" p) [a] [] pos) (iEnum X.K ta):=by
 intro pins s σ H R I h
 refine Call_ (jDP I hg hm hv (dw (thn (ha pos pins s σ H _ I h) fun us s1 ⟨vs,H1,I1,r1,q1⟩=>?_) he hpl))
 obtain⟨t1,l1,rfl,⟨xs,hq1⟩,q⟩:=q1
 obtain⟨u,rfl,ru⟩:=r1.one
 cases ru
 obtain⟨its1,_,p1,_⟩:=I1.sq hq1
 refine jO5 p1 fun h' a1 a2 kp=>?_
 have I2:Inv X pins σ H1 { s1 with heap:=h'} :=I1.kept (t':=s1.toks) kp
 refine wpAny_pyIter_enum a1 ⟨s1.heap.objs.size+1,[s1.heap.objs.size+1,s1.heap.objs.size],_,Ite t1 X.K l1,H1,rfl,I2,jK6 t1 l1 _ _ (Nat.succ_ne_self _),⟨⟨_,a1⟩,a2⟩,fun b hb=>?_,q⟩
 have hge:s1.heap.objs.size<=b:=by
  simp only [aF,bQ,eD] at hb
  rcases hb with rfl | rfl
  ·exact Nat.le_add_right _ 1
  ·exact ak _
 exact I1.fpOk hge (I1.hok.fresh hge)
theorem jQM {a:Expr}{t:TA}{p pos:Pos}{elts:List Expr}{x1:Nat}{tp:Pos}(hg:Gl1 X "enumerate")(hm:X.mg "enumerate" =none)(ha:JA X [a] t)(he:starEach [a] X.env=(false,eval a X.env)::starEach [] X.env)(hv:bootBuiltins "enumerate" =some (.type "enumerate"):=by decide+kernel)
  (hpl:(backTo pos (starEach [] X.env)).any (·.1)=false:=by rfl):JI X (.Tuple elts x1 tp) (.Call (.Name "enumerate" p) [a] [] pos) (iEnum X.K t):=⟨jPL hg.a hm ha.h hv he hpl⟩
end
section
variable {K:W.Frag}{m:List (Option Nat)}{g:TG}{tt:TT}{te:TE}{σ:St}{H1:Hp}{Q:VK}
end
section
variable {κ:Type} [DecidableEq κ]
def valV (kvs:List (κ×V))(k:κ):Option V:=(kvs.find? fun kv=>decide (kv.1=k)).map (·.2)
def putK (kvs:List (κ×V))(k:κ)(v:V):List (κ×V):=
 if (kvs.any fun kv=>decide (kv.1=k))=true then kvs.map (fun kv=>if kv.1=k then (kv.1,v) else kv) else kvs++[(k,v)]
theorem jBU {p:κ×V}{r:List (κ×V)}{k:κ}(e:p.1=k):valV (p::r) k=some p.2:=by simp [valV,dY,e]
theorem jB6 {p:κ×V}{r:List (κ×V)}{k:κ}(e:¬ p.1=k):valV (p::r) k=valV r k:=by simp [valV,dY,e]
theorem jEU (k:κ):∀ kvs:List (κ×V),(kvs.any fun kv=>decide (kv.1=k))=(valV kvs k).isSome
 | []=>rfl
 | p::r=>by
  rw[gf]
  by_cases e:p.1=k
  ·simp only [jBU e,aw e,Bool.true_or,Option.isSome_some]
  ·rw[jB6 e,aP e,iS]; exact jEU k r
theorem jBO (kvs:List (κ×V))(k:κ)(v:V):(putK kvs k v).length<=kvs.length+1:=by
 unfold putK
 split
 ·rw[af]; omega
 ·rw[aC,aQ,cf]; omega
theorem jIE {kvs:List (κ×V)}{k:κ}(v:V)(h:valV kvs k=none):putK kvs k v=kvs++[(k,v)]:=by
 unfold putK
 rw[jEU,h]
 exact ah (by decide)
theorem RelO.isSome_eq {o:Option V}{u:Option Value}(r:RelO o u):o.isSome=u.isSome:=by
 cases o with
 | none=>cases u with
  | none=>rfl
  | some _=>exact(show False from r).elim
 | some _=>cases u with
  | none=>exact(show False from r).elim
  | some _=>rfl
theorem KV.val {kvs:List (κ×V)}{vs:List (κ×Value)}(r:KV kvs vs)(k:κ):RelO (valV kvs k) (valueAt vs k):=by
 unfold KV at r
 induction r with
 | nil=>exact True.intro
 | @cons p q ps qs h t ih=>
  obtain⟨h1,h2⟩:=h
  by_cases e:p.1=k
  ·have e':q.1=k:=h1.symm.trans e
   have b:valueAt (q::qs) k=some q.2:=by simp [valueAt,dY,e']
   rw[jBU e,b]; exact h2
  ·have e':¬ q.1=k:=fun z=>e (h1.trans z)
   have b:valueAt (q::qs) k=valueAt qs k:=by simp [valueAt,dY,e']
   rw[jB6 e,b]; exact ih
theorem KV.any {kvs:List (κ×V)}{vs:List (κ×Value)}(r:KV kvs vs)(k:κ):(kvs.any fun kv=>decide (kv.1=k))=vs.any fun kv=>decide (kv.1=k):=by
 unfold KV at r
 induction r with
 | nil=>rfl
 | cons h t ih=>rw[gf,gf,ih,h.1]
theorem KV.repl {kvs:List (κ×V)}{vs:List (κ×Value)}(r:KV kvs vs)(k:κ){y:V}{u:Value}(ry:RelV y u):
  KV (kvs.map fun kv=>if kv.1=k then (kv.1,y) else kv) (vs.map fun kv=>if kv.1=k then (kv.1,u) else kv):=by
 unfold KV at r ⊢
 induction r with
 | nil=>exact .nil
 | @cons p q ps qs h t ih=>
  rw[bg,bg]
  refine .cons ?_ ih
  obtain⟨h1,h2⟩:=h
  by_cases e:p.1=k
  ·rw[aj e,aj (h1.symm.trans e)]; exact⟨h1,ry⟩
  ·rw[ah e,ah (fun z=>e (h1.trans z))]; exact⟨h1,h2⟩
theorem KV.put {kvs:List (κ×V)}{vs:List (κ×Value)}(r:KV kvs vs)(k:κ){y:V}{u:Value}(ry:RelV y u):KV (putK kvs k y) (stored vs k u):=by
 unfold putK stored
 rw[r.any k]
 by_cases e:(vs.any fun kv=>decide (kv.1=k))=true
 ·rw[aj e,aj e]; exact r.repl k ry
 ·rw[ah e,ah e]; exact Paired.snoc r ⟨rfl,ry⟩
theorem KV.keys {kvs:List (κ×V)}{vs:List (κ×Value)}(r:KV kvs vs):kvs.map (·.1)=vs.map (·.1):=by
 unfold KV at r
 induction r with
 | nil=>rfl
 | cons h t ih=>rw[bg,bg,ih,h.1]
theorem KV.length {kvs:List (κ×V)}{vs:List (κ×Value)}(r:KV kvs vs):kvs.length=vs.length:=gb r
end
theorem kV_is {P:Program}{w:World}{k:Key}{u:Value}(r:RelV (kV k) u):(kW P w).is k u=true:=by
 cases k with
 | inl i=>obtain⟨t,e⟩:=(show ∃ t,u=Value.int i t from r); subst e; exact jHC P w i t
 | inr x=>obtain⟨t,e⟩:=(show ∃ t,u=Value.str x t from r); subst e; exact jHB P w x t
theorem jGD {P:Program}{w:World} :∀ {ks:List Key}{us:List Value},Vals (ks.map kV) us->ItemsAre (kW P w) ks us
 | [],_,r=>by rw[eI] at r; cases r; exact .nil
 | k::ks,_,r=>by
  rw[bg] at r
  cases r with
  | cons h t=>exact .cons (kV_is h) (jGD t)
abbrev KT (H:Hp):List (List Key×V)->List (List Key×Addr×Value)->Prop:=Paired fun p q=>p.1=q.1/\H q.2.1=some (.tup (p.1.map kV))/\RelV p.2 q.2.2
theorem KT.val {H:Hp}{kvs:List (List Key×V)}{xs:List (List Key×Addr×Value)}(r:KT H kvs xs)(k:List Key):RelO (valV kvs k) ((atKey xs k).map (·.2)):=by
 induction r with
 | nil=>exact True.intro
 | @cons p q ps qs h t ih=>
  obtain⟨h1,_,h2⟩:=h
  by_cases e:p.1=k
  ·have e':q.1=k:=h1.symm.trans e
   have b:atKey (q::qs) k=some q.2:=by simp [atKey,dY,e']
   rw[jBU e,b]; exact h2
  ·have e':¬ q.1=k:=fun z=>e (h1.trans z)
   have b:atKey (q::qs) k=atKey qs k:=by simp [atKey,dY,e']
   rw[jB6 e,b]; exact ih
theorem KT.repl {H:Hp}{kvs:List (List Key×V)}{xs:List (List Key×Addr×Value)}(r:KT H kvs xs)(k:List Key){y:V}{u:Value}(ry:RelV y u):
  KT H (kvs.map fun kv=>if kv.1=k then (kv.1,y) else kv) (xs.map (putAt k u)):=by
 induction r with
 | nil=>exact .nil
 | @cons p q ps qs h t ih=>
  rw[bg,bg]
  refine .cons ?_ ih
  obtain⟨h1,h2,h3⟩:=h
  unfold putAt
  by_cases e:p.1=k
  ·rw[aj e,aj (h1.symm.trans e)]; exact⟨h1,h2,ry⟩
  ·rw[ah e,ah (fun z=>e (h1.trans z))]; exact⟨h1,h2,h3⟩
theorem KT.put {H:Hp}{kvs:List (List Key×V)}{xs:List (List Key×Addr×Value)}(r:KT H kvs xs)(k:List Key){b:Addr}{y:V}{u:Value}(hb:H b=some (.tup (k.map kV)))(ry:RelV y u):
  KT H (putK kvs k y) (storedH xs k b u):=by
 have e:(kvs.any fun kv=>decide (kv.1=k))=(atKey xs k).isSome:=by
  rw[jEU,(r.val k).isSome_eq,isSome_map]
 unfold putK storedH
 rw[e]
 by_cases q:(atKey xs k).isSome=true
 ·rw[aj q,aj q]; exact r.repl k ry
 ·rw[ah q,ah q]; exact Paired.snoc r ⟨rfl,hb,ry⟩
theorem KT.keeps {H H':Hp}{kvs:List (List Key×V)}{xs:List (List Key×Addr×Value)}(r:KT H kvs xs)(ht:∀ b ys,H b=some (.tup ys)->H' b=some (.tup ys)):KT H' kvs xs:=
 Paired.mapP r fun _ _ z=>⟨z.1,ht _ _ z.2.1,z.2.2⟩
section
variable {P:Program}{w:World}{H:Hp}{h:Heap}{a:Addr}
theorem rd_of {u:HO}(ok:HOk P w H h)(e:Rd H a u):ObjOk P w H h a u:=e.ok ok
theorem dk_rd {kvs:List (Key×V)}(ok:HOk P w H h)(e:Rd H a (.dK kvs)):kvs.length<=sizeLine/\(a==sysModules)=false/\∃ vs,KV kvs vs/\h.DictOf (kW P w) a vs:=
 show ObjOk P w H h a (.dK kvs) from rd_of ok e
theorem dk_of {kvs:List (Key×V)}(ok:HOk P w H h)(e:H a=some (.dK kvs)):kvs.length<=sizeLine/\(a==sysModules)=false/\∃ vs,KV kvs vs/\h.DictOf (kW P w) a vs:=dk_rd ok (.inl e)
theorem jIU {ks:List Key}(ok:HOk P w H h)(e:H a=some (.tup (ks.map kV))):(tupleKind (kW P w)).is h ks a:=by
 obtain⟨_,its,r,p⟩:=(show ObjOk P w H h a (.tup (ks.map kV)) from ok a _ e)
 obtain⟨o,h1,h2,n,h3⟩:=p.isTup
 exact⟨o,its.toArray,n,h1,h2,h3,by simpa using jGD r⟩
theorem dt_rd {kvs:List (List Key×V)}(ok:HOk P w H h)(e:Rd H a (.dT kvs)):kvs.length<=sizeLine/\(a==sysModules)=false/\
  ∃ xs,KT H kvs xs/\h.DictOfH (tupleKind (kW P w)) a xs:=by
 obtain⟨z,y,xs,r,o,es,ep,h1,h2,h3,h4,h5⟩:=(show ObjOk P w H h a (.dT kvs) from rd_of ok e)
 refine⟨z,y,xs,r,o,es,ep,h1,h2,h3,h4,fun x hx=>?_,h5⟩
 have all:∀ {l:List (List Key×V)}{m:List (List Key×Addr×Value)},KT H l m->∀ x∈m,(tupleKind (kW P w)).is h x.1 x.2.1:=by
  intro l m q
  induction q with
  | nil=>intro x hx; exact nomatch hx
  | @cons p q ps qs hq t ih=>
   intro x hx
   rcases aF.mp hx with e | hx
   ·subst e
    exact jIU ok (by rw[<- hq.1]; exact hq.2.1)
   ·exact ih x hx
 exact all r x hx
theorem dt_of {kvs:List (List Key×V)}(ok:HOk P w H h)(e:H a=some (.dT kvs)):kvs.length<=sizeLine/\(a==sysModules)=false/\
  ∃ xs,KT H kvs xs/\h.DictOfH (tupleKind (kW P w)) a xs:=dt_rd ok (.inl e)
end
def DGet (H:Hp)(a:Addr)(y:V)(r:Option V):Prop:=
 (∃ kvs k,Rd H a (.dK kvs)/\y=kV k/\r=valV kvs k)\/∃ kvs k b,Rd H a (.dT kvs)/\y= .ref b/\H b=some (.tup (k.map kV))/\r=valV kvs k
def DPut (H:Hp)(a:Addr)(y v:V)(H':Hp):Prop:=
 (∃ kvs k,H a=some (.dK kvs)/\y=kV k/\kvs.length<sizeLine/\H'=upd H a (.dK (putK kvs k v)))\/
 ∃ kvs k b,H a=some (.dT kvs)/\y= .ref b/\H b=some (.tup (k.map kV))/\kvs.length<sizeLine/\H'=upd H a (.dT (putK kvs k v))
theorem DGet.k {H:Hp}{a:Addr}{kvs:List (Key×V)}{k:Key}(e:H a=some (.dK kvs)):DGet H a (kV k) (valV kvs k):= .inl ⟨kvs,k, .inl e,rfl,rfl⟩
theorem DPut.k {H:Hp}{a:Addr}{kvs:List (Key×V)}{k:Key}{v:V}(e:H a=some (.dK kvs))(hl:kvs.length<sizeLine):DPut H a (kV k) v (upd H a (.dK (putK kvs k v))):= .inl ⟨kvs,k,e,rfl,hl,rfl⟩
section
variable {X:Cx}{pins:List (Addr×Obj)}{σ:St}{H:Hp}{s:Shared}{a:Addr}{y v:V}{u r:Value}{o:Option V}{A:Around}{E:Value->Shared->Prop}
theorem Inv.big (I:Inv X pins σ H s):sysModules<s.heap.objs.size:=by
 have h:mainGlobals<s.heap.objs.size:=(I.mod.glob.keeps I.bk).lt
 exact gG (by decide) h
theorem jMD {Q:Value->Shared->Prop}(hu:A.units+1<cLine)(I:Inv X pins σ H s)(g:DGet H a y (some v))(ry:RelV y u)(h:∀ w' s',Inv X pins σ H s'->RelV v w'->Q w' s'):
  wpAny (model X.prog X.w) A (getItem (.ref a) u) Q E s:=by
 rcases g with ⟨kvs,k,e,ey,l⟩ | ⟨kvs,k,b,e,ey,eb,l⟩
 ·subst ey
  obtain⟨z,hd,vs,rel,dd⟩:=dk_rd I.hok e
  obtain⟨w',hw,rw'⟩:=RelO.some_of (v:=v) (o:=valueAt vs k) (by rw[l]; exact rel.val k)
  exact wpAny_getItem_of (kV_is ry) dd.mapOf hw (h w' _ (I.tok _) rw')
 ·subst ey
  cases (show u=Value.ref b from ry)
  obtain⟨z,hd,xs,rel,dd⟩:=dt_rd I.hok e
  obtain⟨w',hw,rw'⟩:=RelO.some_of (v:=v) (o:=(atKey xs k).map (·.2)) (by rw[l]; exact rel.val k)
  obtain⟨p,hp,hp2⟩:=Option.map_eq_some_iff.mp hw
  refine wpAny_getItem_heap (gP hu) (jIU I.hok eb) dd hp ?_
  rw[hp2]
  exact h w' _ (I.tok _) rw'
theorem jQX {Q:Value->Shared->Prop}(hu:A.units+1<cLine)(I:Inv X pins σ H s)(g:DGet H a y o)(ry:RelV y u)(h:∀ s',Inv X pins σ H s'->Q (.bool (!o.isSome)) s'):
  wpAny (model X.prog X.w) A (compareOp .NotIn u (.ref a)) Q E s:=by
 rcases g with ⟨kvs,k,e,ey,l⟩ | ⟨kvs,k,b,e,ey,eb,l⟩
 ·subst ey
  obtain⟨z,hd,vs,rel,dd⟩:=dk_rd I.hok e
  refine wpAny_notIn_of (kV_is ry) hd dd.mapOf ?_
  rw[<- (rel.val k).isSome_eq,<- l]
  exact h _ (I.tok _)
 ·subst ey
  cases (show u=Value.ref b from ry)
  obtain⟨z,hd,xs,rel,dd⟩:=dt_rd I.hok e
  refine wpAny_notIn_heap (gP hu) (jIU I.hok eb) hd dd ?_
  have q:=(rel.val k).isSome_eq
  rw[isSome_map] at q
  rw[<- q,<- l]
  exact h _ (I.tok _)
theorem jHR {h':Heap}{t':Nat}{ob:HO}(I:Inv X pins σ H s)(mu:Mut (H a))(hs:Heap.SameBut a s.heap h')(he:∃ q,h'.get? a=some q)(new:ObjOk X.prog X.w (upd H a ob) h' a ob):
  Inv X pins σ (upd H a ob) { s with heap:=h',toks:=t'} :=
 I.write (x:=a) (e:=a) mu (.inl rfl) (fun b q hb z=>(hs.2 b hb).trans z) he new
theorem jOW {P:Program}{w:World}{H':Hp}{h':Heap}{kvs:List (Key×V)}{vs:List (Key×Value)}(z:kvs.length<=sizeLine)(hd:(a==sysModules)=false)(rel:KV kvs vs)(dd:h'.DictOf (kW P w) a vs):
  ObjOk P w H' h' a (.dK kvs):=⟨z,hd,vs,rel,dd⟩
theorem jMC {H':Hp}{Q:Unit->Shared->Prop}(hu:A.units+1<cLine)(I:Inv X pins σ H s)(g:DPut H a y v H')(ry:RelV y u)(rv:RelV v r)(h:∀ s',Inv X pins σ H' s'->Q () s'):
  wpAny (model X.prog X.w) A (setItem (.ref a) u r) Q E s:=by
 rcases g with ⟨kvs,k,e,ey,l,eH⟩ | ⟨kvs,k,b,e,ey,eb,l,eH⟩
 ·subst ey eH
  obtain⟨z,hd,vs,rel,dd⟩:=dk_of I.hok e
  have hz:vs.length<=sizeLine:=by rw[<- rel.length]; exact z
  have hl:(putK kvs k v).length<=sizeLine:=by have:=jBO kvs k v; omega
  refine wpAny_setItem_pairs (hsz:=hz) (kV_is ry) dd fun h' dd' hs=>h _ ?_
  have he:∃ q,h'.get? a=some q:=let ⟨q,_,_,hq,_⟩:=dd'; ⟨q,hq⟩
  exact jHR I (by rw[e]; exact True.intro) hs he (jOW hl hd (rel.put k rv) dd')
 ·subst ey eH
  cases (show u=Value.ref b from ry)
  obtain⟨z,hd,xs,rel,dd⟩:=dt_of I.hok e
  have hz:xs.length<=sizeLine:=by rw[<- gb rel]; exact z
  have hl:(putK kvs k v).length<=sizeLine:=by have:=jBO kvs k v; omega
  refine wpAny_setItem_heap (hsz:=hz) (gP hu) (jIU I.hok eb) dd fun h' dd' hs=>h _ ?_
  obtain⟨q,es,ep,hq,h2,h3,h4,_,h5⟩:=dd'
  refine jHR I (by rw[e]; exact True.intro) hs ⟨q,hq⟩ ⟨hl,hd,_,(rel.put k eb rv).keeps fun c ys ec=>?_,q,es,ep,hq,h2,h3,h4,h5⟩
  rw[jA (ne_of ec e (fun z=>nomatch z))]
  exact ec
end
section
variable {X:Cx}{pins:List (Addr×Obj)}{σ:St}{H:Hp}{s:Shared}{a:Addr}{kvs:List (Key×V)}{k:Key}{u:Value}{A:Around}{E:Value->Shared->Prop}
end
def NoSl (i:Expr):Prop:=∀ ov iv,subscripted i false ov iv=operate [ov,iv] (getItem ov iv)
theorem jP5 {prog:Program}{w:World}{A:Around}{E:Value->Shared->Prop}{s:Shared}{env:Env}{value slice:Expr}{pos:Pos}{T id:String}{Q:Value->Shared->Prop}
  (hl:typeLookup (.type T) "__getitem__" =pure (some (.builtin id))) (hs:NoSl slice)
  (h:wpAny (model prog w) A (eval value env) (fun o s₁=>wpAny (model prog w) A (eval slice env) (fun i s₂=>s₂.TypeIs o T/\wpAny (model prog w) A (getItem o i) Q E s₂) E s₁) E s):
  wpAny (model prog w) A (eval (.Subscript value slice pos) env) Q E s:=by
 refine Subscript_ (bw h (fun o s₁ h₁=>bw h₁ (fun i s₂ h₂=>?_) fun _ _ x=>x) fun _ _ x=>x)
 obtain⟨hT,h₂⟩:=h₂
 unfold subscriptTail
 refine aa ?_
 rw[getitemInPython_of_ne hT.not_modules]
 refine aa (wpAny_specialOf hT hl ?_)
 have fin:wpAny (model prog w) A (subscripted slice false o i) (fun r s₃=>wpAny (model prog w) A (letTemporaryGo value o r >>= fun _=>pure r) Q E s₃) E s₂:=by
  rw[hs o i]
  exact wpAny_operating (bw h₂ (fun r s₃ h₃=>aa (wpAny_letTemporaryGo (ag h₃))) fun _ _ x=>x)
 first
  | exact ag (aa fin)
  | exact aa (ag (aa fin))
  | exact aa fin
theorem jHP {X:Cx}{pins:List (Addr×Obj)}{σ:St}{H:Hp}{s:Shared}{a:Addr}{y:V}{o:Option V}(I:Inv X pins σ H s)(g:DGet H a y o):s.TypeIs (.ref a) "dict" :=by
 rcases g with ⟨kvs,k,e,_,_⟩ | ⟨kvs,k,b,e,_,_,_⟩
 ·obtain⟨_,_,vs,_,dd⟩:=dk_rd I.hok e
  exact dd.typeIs
 ·obtain⟨_,_,xs,_,dd⟩:=dt_rd I.hok e
  exact dd.typeIs
def tDGet (td ty:TE):TE:=fun σ H Q=>td σ H fun x H1=>ty σ H1 fun y H2=>∃ a v,x= .ref a/\DGet H2 a y (some v)/\Q v H2
def jKD (ty td:TE):TE:=fun σ H Q=>ty σ H fun y H1=>td σ H1 fun x H2=>∃ a o,x= .ref a/\DGet H2 a y o/\Q (.bl (!o.isSome)) H2
def sDPut (td ty tv:TE):TS:=fun D σ H=>tv σ H fun v H1=>td σ H1 fun x H2=>ty σ H2 fun y H3=>∃ a H4,x= .ref a/\DPut H3 a y v H4/\D.nx σ H4
section
variable {X:Cx}{o i e value:Expr}{pos pos' tpos:Pos}{td ty tv:TE}
theorem jPQ (hu:X.A.units+1<cLine)(ho:PE X o td)(hi:PE X i ty)(hs:NoSl i):PE X (.Subscript o i pos) (tDGet td ty):=by
 intro pins s σ H Q I h
 refine jP5 PySem.F.slot_dict_getitem.lookup hs (thn (ho pins s σ H _ I h) fun u s1 ⟨x,H1,I1,rx,q1⟩=>thn (hi pins s1 σ H1 _ I1 q1) fun iv s2 ⟨y,H2,I2,ry,a,v,ex,g,q2⟩=>?_)
 subst ex
 obtain rfl:u=Value.ref a:=rx
 exact⟨jHP I2 g,jMD hu I2 g ry fun w' s3 I3 rw'=>⟨v,H2,I3,rw',q2⟩⟩
theorem jKX (hu:X.A.units+1<cLine)(hi:PE X i ty)(ho:PE X o td):PC X .NotIn i o (jKD ty td):=by
 intro pins s σ H Q I h
 refine thn (hi pins s σ H _ I h) fun iv s1 ⟨y,H1,I1,ry,q1⟩=>thn (ho pins s1 σ H1 _ I1 q1) fun u s2 ⟨x,H2,I2,rx,a,ov,ex,g,q2⟩=>?_
 subst ex
 obtain rfl:u=Value.ref a:=rx
 exact jQX hu I2 g ry fun s3 I3=>⟨.bl (!ov.isSome),H2,I3,rfl,q2⟩
theorem jPE (hu:X.A.units+1<cLine)(ho:PE X o td)(hi:PE X i ty)(hv:PE X value tv)(hs:swapsWith value (some (.Subscript o i pos')) pos.line X.env=pure false):
  PS X (.Assign [.Subscript o i pos'] value pos) (sDPut td ty tv):=by
 intro pins s σ H D I h
 refine wpAny_Assign_Subscript (thn (hv pins s σ H _ I h) fun r s1 ⟨v,H1,I1,rv,q1⟩=>thn (ho pins s1 σ H1 _ I1 q1) fun u s2 ⟨x,H2,I2,rx,q2⟩=>thn (hi pins s2 σ H2 _ I2 q2) fun iv s3 ⟨y,H3,I3,ry,a,H4,ex,g,q3⟩=>?_) hs
 subst ex
 obtain rfl:u=Value.ref a:=rx
 exact jMC hu I3 g ry rv fun s4 I4=>⟨σ,H4,I4,q3⟩
end
theorem jO1 {P:Program}{w:World}{H:Hp}(h:Heap)(hb:sysModules<h.objs.size):ObjOk P w H (h.push { cls:= .type "dict",data:= .dict #[]}) h.objs.size (.dK []):=
 ⟨bo _,dv.mpr (cY (aR hb)),[], .nil,Heap.DictOf.new h⟩
section
variable {X:Cx}{pos:Pos}
end
def jKB:List (TE×TE)->St->Hp->(List (V×V)->Hp->Prop)->Prop
 | [],_,H,Q=>Q [] H
 | (tk,tv)::r,σ,H,Q=>tk σ H fun x H1=>tv σ H1 fun y H2=>jKB r σ H2 fun ps H3=>Q ((x,y)::ps) H3
abbrev VV:List (V×V)->List (Value×Value)->Prop:=Paired fun p q=>RelV p.1 q.1/\RelV p.2 q.2
def PPs (X:Cx)(pos:Pos)(keys:List (Option Expr))(values:List Expr)(trs:List (TE×TE)):Prop:=
 ∀ (pins:List (Addr×Obj)) (s:Shared) (σ:St) (H:Hp) (Q:List (V×V)->Hp->Prop),Inv X pins σ H s->jKB trs σ H Q->
  wpAny (model X.prog X.w) X.A (evalPairs (pairTrees keys values X.env pos)) (fun vs s'=>∃ ps H',Inv X pins σ H' s'/\VV ps vs/\Q ps H') X.xe s
theorem jPF {X:Cx}{pos:Pos} :PPs X pos [] [] []:=fun pins s σ H Q I h=>pairTrees_nil_walk ⟨[],H,I, .nil,h⟩
theorem jN3 {X:Cx}{pos:Pos}{k v:Expr}{ks:List (Option Expr)}{vs:List Expr}{tk tv:TE}{trs:List (TE×TE)}(hk:PE X k tk)(hv:PE X v tv)(hr:PPs X pos ks vs trs):
  PPs X pos (some k::ks) (v::vs) ((tk,tv)::trs):=fun pins s σ H Q I h=>
 pairTrees_cons_walk (thn (hk pins s σ H _ I h) fun u s1 ⟨x,H1,I1,rx,q1⟩=>thn (hv pins s1 σ H1 _ I1 q1) fun w2 s2 ⟨y,H2,I2,ry,q2⟩=>
  thn (hr pins s2 σ H2 _ I2 q2) fun ws s3 ⟨ps,H3,I3,rel,q3⟩=>⟨(x,y)::ps,H3,I3, .cons ⟨rx,ry⟩ rel,q3⟩)
def jG6 (kvs more:List (Key×V)):List (Key×V):=more.foldl (fun acc kv=>putK acc kv.1 kv.2) kvs
theorem KV.merge:∀ {more:List (Key×V)}{rs:List (Key×Value)}{kvs:List (Key×V)}{vs:List (Key×Value)},KV more rs->KV kvs vs->KV (jG6 kvs more) (merged vs rs):=by
 intro more rs kvs vs r
 unfold KV at r
 induction r generalizing kvs vs with
 | nil=>intro q; exact q
 | @cons p q ps qs h t ih=>
  intro r0
  have e:KV (putK kvs p.1 p.2) (stored vs q.1 q.2):=by
   have:=r0.put p.1 h.2
   rw[<- h.1]; exact this
  exact ih e
theorem jC5:∀ (more kvs:List (Key×V)),(jG6 kvs more).length<=kvs.length+more.length
 | [],kvs=>by show kvs.length<=kvs.length+0; omega
 | p::r,kvs=>by
  have h1:=jC5 r (putK kvs p.1 p.2)
  have h2:=jBO kvs p.1 p.2
  show (jG6 (putK kvs p.1 p.2) r).length<=_
  rw[aQ]; omega
theorem jEO {P:Program}{w:World} :∀ {kvs:List (Key×V)}{ws:List (Value×Value)},VV (kvs.map fun kv=>(kV kv.1,kv.2)) ws->∃ rs,Carries (kW P w) ws rs/\KV kvs rs
 | [],_,r=>by rw[eI] at r; cases r; exact⟨[],True.intro, .nil⟩
 | p::kvs,_,r=>by
  rw[bg] at r
  cases r with
  | @cons a b as bs h t=>
   obtain⟨rs,c,q⟩:=jEO (P:=P) (w:=w) t
   obtain⟨b1,b2⟩:=b
   exact⟨(p.1,b2)::rs,⟨kV_is h.1,rfl,c⟩, .cons ⟨rfl,h.2⟩ q⟩
def tDisp (trs:List (TE×TE)):TE:=fun σ H Q=>∀ p,H p=none->jKB trs σ (upd H p (.dK [])) fun ps H2=>H2 p=some (.dK [])/\∃ kvs:List (Key×V),ps=kvs.map (fun kv=>(kV kv.1,kv.2))/\kvs.length<=15/\Q (.ref p) (upd H2 p (.dK (jG6 [] kvs)))
theorem jPP {X:Cx}{pos:Pos}{keys:List (Option Expr)}{values:List Expr}{trs:List (TE×TE)}(h:PPs X pos keys values trs)(hall:keys.all (·.isSome)=true)(hl:keys.length=values.length)(h0:keys≠ [])
  (h15:keys.length<=15):PE X (.Dict keys values pos) (tDisp trs):=by
 intro pins s σ H Q I q
 have hn:=I.hok.fresh (ak s.heap.objs.size)
 have I1:=I.laid (a:=s.heap.objs.size) (o:= .dK []) (h':=s.heap.push { cls:= .type "dict",data:= .dict #[]}) (t':=s.toks) (fun _ _ q=>ae _ q) (ak _) (jO1 s.heap I.big)
 refine wpAny_Dict_walk (knd:=kW X.prog X.w) hall hl h0 h15 (thn (h pins _ σ _ _ I1 (q _ hn)) fun ws s2 ⟨ps,H2,I2,rel,e,kvs,ep,lk,q2⟩=>?_)
 subst ep
 obtain⟨rs,c,rk⟩:=jEO (P:=X.prog) (w:=X.w) rel
 obtain⟨z,hd,vs0,r0,dd⟩:=dk_of I2.hok e
 cases r0
 refine⟨rs,c,dd,fun h' dd' hs=>⟨.ref s.heap.objs.size,_,?_,rfl,q2⟩⟩
 have hz:(jG6 [] kvs).length<=sizeLine:=by
  have h1:=jC5 kvs []
  rw[cf] at h1
  rw[eg]; omega
 have he:∃ q,h'.get? s.heap.objs.size=some q:=let ⟨q,_,_,hq,_⟩:=dd'; ⟨q,hq⟩
 exact jHR I2 (by rw[e]; exact True.intro) hs he (jOW hz hd (rk.merge .nil) dd')
section
variable {X:Cx}{pins:List (Addr×Obj)}{σ:St}{H:Hp}{s:Shared}{a:Addr}{y d:V}{u r:Value}{o:Option V}{A:Around}{E:Value->Shared->Prop}
end
section
variable {X:Cx}{o e f:Expr}{apos cpos:Pos}{td ty tx:TE}
end
section
variable {X:Cx}{pins:List (Addr×Obj)}{σ:St}{H:Hp}{s:Shared}{a:Addr}{kvs:List (Key×V)}{A:Around}{E:Value->Shared->Prop}
end
section
variable {X:Cx}{pins:List (Addr×Obj)}{σ:St}{H:Hp}{s:Shared}{a:Addr}{y:V}{u:Value}{A:Around}{E:Value->Shared->Prop}
end
section
variable {κ:Type} [DecidableEq κ]
end
section
variable {prog:Program}{w:World}{A:Around}{E:Value->Shared->Prop}{s:Shared}{d:Addr}{kvs:List (Key×Value)}
theorem jHV {T:String}{r d:Addr}{n:Nat}{P:Nat->Value->Prop}{OK:Heap->Prop}{R:List Value->Shared->Prop}(K:PySem.W.KdlSrc prog w T r d n P OK)(hh:A.handled=none)(hok:OK s.heap)(hn:n<=sizeLine)
  (h:∀ (h':Heap) (tk:Nat) (acc:Array Value),(∀ b o,s.heap.get? b=some o->h'.get? b=some o)->s.heap.objs.size<h'.objs.size->ItemsOf P acc n->R acc.toList { s with heap:=h',toks:=tk}):
  wpAny (model prog w) A (collect (.ref r)) R E s:=by
 have hlt:=K.there _ hok
 unfold collect
 refine aa (fj (cg entry_proto_collect' ?_))
 rw[cF gH _]
 show wpAny _ A.in1 (newList [] >>= fun l=>again (.builtin "list.__iadd__" ⟨[l, .ref r],[]⟩)) _ _ s
 refine aa (bJ ?_)
 refine ag ⟨gj dP _,cg entry_list_iadd' ?_⟩
 rw[cF dP _]
 have hS:(s.heap.push { cls:= .type "list",data:= .seq ([]:List Value).toArray}).get? s.heap.objs.size=some { cls:= .type "list",data:= .seq #[]} :=am _ rfl
 show wpAny _ A.in1 (Builtin.List.listExtendWith (.ref s.heap.objs.size) (.ref r) (.ref s.heap.objs.size)) _ _ _
 refine bw (PySem.W.kdl_extend (A:=A) (s:= { s with heap:=s.heap.push { cls:= .type "list",data:= .seq ([]:List Value).toArray}})
  (R:=fun (q:Result) (s':Shared)=>∃ (h':Heap) (tk:Nat) (acc:Array Value) (c:Nat),q= .ok (.ret (.ref s.heap.objs.size))/\s'= { s with heap:=h',toks:=tk} /\
   (∀ b o,s.heap.get? b=some o->h'.get? b=some o)/\h'.get? s.heap.objs.size=some { cls:= .type "list",dict:=none,data:= .seq acc c,slots:=#[]} /\ItemsOf P acc n)
  K hh (K.keep _ _ hok fun b _ o e=>ae _ e) s.heap.objs.size (dF hlt.1) (dF hlt.2) (.ref s.heap.objs.size) 0 hS
  (fun h' tk acc c hk hS' hacc=>⟨h',tk,acc,c,rfl,rfl,fun b o e=>hk b o (aR (ay e)) (ae _ e),hS',hacc⟩) hn) (fun fin s' x=>?_) fun e s' x=>?_
 ·cases fin with
  | done f=>
   obtain⟨h',tk,acc,c,e,rfl,hk,hS',hacc⟩:=x
   cases e
   show wpAny _ A (load s.heap.objs.size >>= _) _ _ _
   exact aa (eV hS' (ag (h h' tk acc hk (ay hS') hacc)))
  | again c1=>
   refine⟨x.1,dy x.2 fun q s2 y=>?_⟩
   obtain⟨h',tk,acc,c,rfl,rfl,hk,hS',hacc⟩:=y
   show wpAny _ A (load s.heap.objs.size >>= _) _ _ _
   exact aa (eV hS' (ag (h h' tk acc hk (ay hS') hacc)))
 ·obtain⟨_,_,_,_,e',_⟩:=x
  cases e'
end
section
variable {X:Cx}{o i e f value:Expr}{td ty tv tx:TE}{pos pos' apos cpos:Pos}
theorem jHJ (hu:X.A.units+1<cLine)(ho:JE X o td)(hi:JE X i ty)(hs:jB4 i):JE X (.Subscript o i pos) (tDGet td ty):=⟨jPQ hu ho.h hi.h hs⟩
theorem jHG (hu:X.A.units+1<cLine)(ho:JE X o td)(hi:JE X i ty)(hv:JE X value tv)(hs:SwOk value (some (.Subscript o i pos'))):JS X (.Assign [.Subscript o i pos'] value pos) (sDPut td ty tv):=⟨jPE hu ho.h hi.h hv.h (hs.h _ _)⟩
end
section
variable {prog:Program}{w:World}{A:Around}{E:Value->Shared->Prop}{s:Shared}
end
section
variable {prog:Program}{w:World}{K:Type} [DecidableEq K]{knd:KeyKind prog w K}{A:Around}{R:Result->Shared->Prop}{I:Addr}{fp wr:List Addr}{n:Nat}{P:Nat->Value->Prop}{St:Nat->Shared->Prop}
end
section
variable {prog:Program}{w:World}{K:Type} [DecidableEq K]{knd:KeyKind prog w K}{A:Around}{E:Value->Shared->Prop}{s:Shared}
end
section
variable {X:Cx}
end
section
variable {X:Cx}
end
section
variable {P:Program}{w:World}{K:W.Frag}{mg:Str->Option Value}{base:Heap}{N:List Str}{qual:Str}{sc:Scope}{f:Addr}{cd:Value}{cl:List (Str×Addr)}{A:Around}{outer:List Env}{s:Shared}{H:Hp}{x:Str}
theorem gl_n (h:sc.names.lookup x=some .globalImplicit):Gl1 (cxN P w K mg base N qual sc f cd cl A outer s H) x:=⟨h⟩
theorem yU (h:sc.names.lookup x=some .local):Vis1 (cxN P w K mg base N qual sc f cd cl A outer s H) x:=⟨.inl h⟩
theorem jR4 (h:sc.names.lookup x=some .free):Vis1 (cxN P w K mg base N qual sc f cd cl A outer s H) x:=⟨.inr (.inr h)⟩
theorem loc_n (h:sc.names.lookup x=some .local):Loc1 (cxN P w K mg base N qual sc f cd cl A outer s H) x:=⟨.inl h, .inr h⟩
end
section
variable {X:Cx}
theorem jSM {x:Str}{args:Arguments}{body:List Stmt}{scope:Scope}{pos:Pos}{c0 T:Addr}{j:Nat}(hN:X.N.Nodup)(hj:X.N[j]?=some x)(lx:Loc1 X x)(hcode:X.env.code= .ref c0)(CH:PySem.W.CodeHd X.base c0 T)(hbm:BltAt X.base X.mg)
  (hfree:∀ y∈scope.names,y.2= .free->X.env.scope.names.lookup y.1=some .cell\/X.env.scope.names.lookup y.1=some .free) (hdf:defaultsOf args X.env=([],[])) (han:annTrees args none X.env=[]):
  JS X (.FunctionDef x args body [] none [] scope none x pos) (tDef x (qualnameIn X.env x x) args body scope (jK X.env.cells scope.names []) T pos j):=⟨jRR hN hj lx.a hcode CH hbm hfree hdf han lx.b⟩
def AtS (tp:Bool)(H:Hp)(a:Addr)(xs:List V):Prop:=match tp with
 | false=>H a=some (.lst xs)
 | true=>H a=some (.tup xs)
end
section
variable {K:W.Frag}{m:List (Option Nat)}{g:TG}{tt:TT}{te:TE}{σ:St}{H1:Hp}{Q:VK}
theorem jMG {a:Addr}{xs:List V}(hn:xs.length<sizeLine)(Pv:Addr->Nat->St->Hp->List V->Prop)(h0:∀ D,H1 D=none->Pv D 0 (blkσ m σ) (upd H1 D (.lst [])) [])
  (hD:∀ D i σ' H' zs,H1 D=none->Pv D i σ' H' zs->H' a=some (.lst xs)/\H' D=some (.lst zs)/\zs.length<=i)
  (hs:∀ D i σ' H' zs x,H1 D=none->xs[i]?=some x->Pv D i σ' H' zs->g x σ' H' fun σ2 H2=>tt σ2 H2 fun b H3=>if b=true then te σ2 H3 fun v H4=>H4 D=some (.lst zs)/\Pv D (i+1) σ2 (upd H4 D (.lst (zs++[v]))) (zs++[v]) else Pv D (i+1) σ2 H3 zs)
  (hd:∀ D σ' H' zs,H1 D=none->Pv D xs.length σ' H' zs->Q (.ref D) H'):CompW m g tt te σ Q (Itl K a) H1:=by
 intro D hDn
 refine⟨fun i k σ' H' zs=>k=xs.length - i/\i<=xs.length/\Pv D i σ' H' zs,⟨_,rfl,bo _,h0 D hDn⟩,?_⟩
 rintro i k σ' H' zs ⟨rfl,hi,p⟩
 obtain⟨s1,q1,q2⟩:=hD D i σ' H' zs hDn p
 refine⟨q1,by omega,?_⟩
 by_cases hlt:i<xs.length
 ·refine .inr ⟨⟨xs,xs[i],SqL.of s1,by simp [hlt]⟩,Pv D (i+1),fun σ2 H2 zs z=>⟨xs.length - (i+1),by omega,rfl,hlt,z⟩,fun v H'' y=>?_⟩
  obtain⟨e1,e2⟩:=y
  subst e1
  exact hs D i σ' _ zs v hDn (e2 xs (SqL.of s1)) p
 ·have e:i=xs.length:=by omega
  subst e
  exact .inl ⟨⟨xs,SqL.of s1,ak _⟩,hd D σ' H' zs hDn p⟩
end
theorem ExtT.of {T:Addr}{H H':Hp}(e:Ext H H'):ExtT T H H':=fun b o h _=>e b o h
theorem ExtT.trans {T:Addr}{H H' H'':Hp}(a:ExtT T H H')(b:ExtT T H' H''):ExtT T H H'':=fun c o h n=>b c o (a c o h n) n
theorem TabOk.is {H:Hp}{T:Addr}{pos:Pos}{q:Str}(t:TabOk H T pos q):∃ ps,H T=some (.tbl ps):=by
 rcases t with h | ⟨c,h,_⟩
 ·exact⟨_,h⟩
 ·exact⟨_,h⟩
theorem TabOk.ne {H:Hp}{T:Addr}{pos:Pos}{q:Str}(t:TabOk H T pos q){b:Addr}{o:HO}(h:H b=some o)(ho:∀ ps,o≠ .tbl ps):b≠T:=fun e=>by
 obtain⟨ps,z⟩:=t.is
 rw[e,z] at h
 cases h
 exact ho ps rfl
theorem TabOk.ext {H H':Hp}{T:Addr}{pos:Pos}{q:Str}(t:TabOk H T pos q)(e:Ext H H'):TabOk H' T pos q:=by
 rcases t with h | ⟨c,h,h2⟩
 ·exact .inl (e _ _ h)
 ·exact .inr ⟨c,e _ _ h,e _ _ h2⟩
theorem ExtT.at {T:Addr}{H H':Hp}(e:ExtT T H H'){pos:Pos}{q:Str}(t:TabOk H T pos q){b:Addr}{o:HO}(h:H b=some o)(ho:∀ ps,o≠ .tbl ps:=by intro _ z; cases z):H' b=some o:=e b o h (t.ne h ho)
structure FunC (K:W.Frag)(x qual:Str)(st:Stmt)(f:Addr)(fd:FuncData)(c0:Addr):Prop where
 ex:∃ (oc:Value) (od:Option Addr) (kV doc pm:Value) (an:Option Addr) (ct:Value) (osl:Array (Option Value)),fd=PySem.W.fnOf x qual (jJ st) (jD st) (j7 st) .none kV doc pm an (.ref c0) ct/\K.lookup f=some ⟨oc,od, .func fd,osl⟩/\PySem.W.codeIn K (.ref c0) qual=true
theorem FunC.ok {P:Program}{w:World}{K:W.Frag}{mg:Str->Option Value}{base:Heap}{x qual:Str}{st:Stmt}{f c0:Addr}{fd:FuncData}{N ps:List Str}{k:Nat}{sp:Sp}(F:FunC K x qual st f fd c0)(S:FnScope N ps (j7 st))(len:∀ vs H Q E,sp vs H Q E->vs.length=ps.length)
  (hbody:∀ (A:Around) (outer:List Env) (s:Shared) (H:Hp) (vs:List V) (Q:VK) (E:XK),Room k (A.deeper (envOfC qual (j7 st) s.heap.objs.size f (.ref c0)))->sp vs H Q E->
   ∃ t,PSs (cxOf CX0 P w K mg base N qual (j7 st) f (.ref c0) A outer s H E).nox (jD st) t/\t { nx:=fun _ H'=>Q .non H',rt:=Q} (kP N vs) H):FnOk P w K mg base CX0 (k+1) f fd ps sp:=by
 obtain⟨oc,od,kV,doc,pm,an,ct,osl,rfl,lk,hcd⟩:=F.ex
 refine fn_of lk hcd S len fun A outer s H vs Q E hr hsp=>?_
 obtain⟨t,ht,hq⟩:=hbody A outer s H vs Q E hr hsp
 exact⟨t,ht.nox,hq⟩
section
variable {X:Cx}{sc:Scope}{cl:List (Str×Addr)}{C:Addr}{Nc:List Str}{fp:List Addr}{s:Shared}{H:Hp}
theorem jNX {sc2:Scope}(h:(sc2.names.all fun y=>decide (y.2= .free->sc.names.lookup y.1=some .cell\/sc.names.lookup y.1=some .free))=true):
  ∀ y∈sc2.names,y.2= .free->(blk X sc cl C Nc fp s H).env.scope.names.lookup y.1=some .cell\/(blk X sc cl C Nc fp s H).env.scope.names.lookup y.1=some .free:=fun y hy hf=>by
 rcases aK (cC.mp h y hy) hf with q | q
 ·exact .inl (jAA (by decide) q)
 ·exact jBB q
theorem jNM {tg a:Expr}{ta:TE}(hl:JE (blk X sc cl C Nc fp s H) a ta):JI (blk X sc cl C Nc fp s H) tg a (iTup X.K ta):=jDQ hl
variable {sc2:Scope}{cl2:List (Str×Addr)}{C2:Addr}{Nc2:List Str}{fp2:List Addr}{s2:Shared}{H2:Hp}
theorem jE0:yO (blk X sc cl C Nc fp s H) (.type "tuple") (fun xs H Q=>∃ p ys,xs=[.ref p]/\((SqL X.K H p ys/\∀ l,H l=none->Q (.ref l) (upd H l (.tup ys)))\/(SqT X.K H p ys/\Q (.ref p) H))):=jA0
end
section
variable {K:W.Frag}{m:List (Option Nat)}{g:TG}{tt:TT}{te:TE}{σ:St}{H:Hp}{Q:VK}
abbrev TupsK (H H':Hp):Prop:=∀ b xs,H b=some (.tup xs)->H' b=some (.tup xs)
structure ZOk (Z:Hp->List V->Nat->Prop):Prop where
 z0:∀ H,Z H [] 0
 mono:∀ H H' zs j,TupsK H H'->Z H zs j->Z H' zs j
 len:∀ H zs j,Z H zs j->zs.length<=j
theorem jK7 {H:Hp}{D:Addr}{zs:List V}(h:H D=some (.lst zs))(o:HO):TupsK H (upd H D o):=fun b xs hb=>by
 rw[jA (fun e=>by rw[e,h] at hb; cases hb)]
 exact hb
def TurnZ (g:TG)(tt:TT)(te:TE)(σP:St->Prop)(Z:Hp->List V->Nat->Prop)(x:V)(j:Nat)(σ':St)(H':Hp)(zs:List V):Prop:=
 ∀ (R:St->V->Hp->Prop) (S:St->Hp->Prop),(∀ σ2 v H2,σP σ2->Ext H' H2->Z H2 (zs++[v]) (j+1)->R σ2 v H2)->(∀ σ2 H2,σP σ2->Ext H' H2->Z H2 zs (j+1)->S σ2 H2)->
  g x σ' H' fun σ2 H2=>tt σ2 H2 fun b H3=>if b=true then te σ2 H3 (R σ2) else S σ2 H3
theorem jMH {tp:Bool}{a:Addr}{xs:List V}(σP:St->Prop)(Z:Hp->List V->Nat->Prop)(zo:ZOk Z)(ha:AtS tp H a xs)(hn:xs.length<sizeLine)(h0:σP (blkσ m σ))
  (step:∀ j x σ' H' zs,xs[j]?=some x->σP σ'->Ext H H'->Z H' zs j->TurnZ g tt te σP Z x j σ' H' zs)
  (hd:∀ D H' zs,H' D=some (.lst zs)->Ext H H'->H D=none->Z H' zs xs.length->Q (.ref D) H'):CompW m g tt te σ Q (match tp with | false=>Itl K a | true=>Itt K a) H:=by
 have turn:∀ D j σ' H' zs x,H D=none->xs[j]?=some x->(σP σ'/\Ext H H'/\H' D=some (.lst zs)/\H D=none/\Z H' zs j)->g x σ' H' fun σ2 H2=>tt σ2 H2 fun b H3=>if b=true then te σ2 H3 fun v H4=>H4 D=some (.lst zs)/\(σP σ2/\Ext H (upd H4 D (.lst (zs++[v])))/\(upd H4 D (.lst (zs++[v]))) D=some (.lst (zs++[v]))/\H D=none/\Z (upd H4 D (.lst (zs++[v]))) (zs++[v]) (j+1)) else (σP σ2/\Ext H H3/\H3 D=some (.lst zs)/\H D=none/\Z H3 zs (j+1)):=by
  rintro D j σ' H' zs x hD hx ⟨p,e,h2,hn,hz⟩
  exact step j x σ' H' zs hx p e hz _ _ (fun σ2 v H2 p2 e2 z2=>⟨e2 _ _ h2,p2,(e.trans e2).updNew hn _,j8,hn,zo.mono _ _ _ _ (jK7 (e2 _ _ h2) _) z2⟩) fun σ2 H2 p2 e2 z2=>⟨p2,e.trans e2,e2 _ _ h2,hn,z2⟩
 cases tp with
 | false=>exact jMG (xs:=xs) hn (fun D j σ' H' zs=>σP σ'/\Ext H H'/\H' D=some (.lst zs)/\H D=none/\Z H' zs j) (fun D hD=>⟨h0,(Ext.refl _).new hD _,j8,hD,zo.z0 _⟩) (fun D j σ' H' zs hD ⟨_,e,h2,_,hz⟩=>⟨e _ _ ha,h2,zo.len _ _ _ hz⟩) turn fun D σ' H' zs hD ⟨_,e,h2,hn,hz⟩=>hd D H' zs h2 e hn hz
 | true=>exact jD5 (xs:=xs) hn (fun D j σ' H' zs=>σP σ'/\Ext H H'/\H' D=some (.lst zs)/\H D=none/\Z H' zs j) (fun D hD=>⟨h0,(Ext.refl _).new hD _,j8,hD,zo.z0 _⟩) (fun D j σ' H' zs hD ⟨_,e,h2,_,hz⟩=>⟨e _ _ ha,h2,zo.len _ _ _ hz⟩) turn fun D σ' H' zs hD ⟨_,e,h2,hn,hz⟩=>hd D H' zs h2 e hn hz
theorem jD6 {a:Addr}{xs:List V}(σP:St->Prop)(Z:Hp->List V->Nat->Prop)(zo:ZOk Z)(ha:H a=some (.tup xs))(hn:xs.length<sizeLine)(h0:σP (blkσ m σ))
  (step:∀ j x σ' H' zs,xs[j]?=some x->σP σ'->Ext H H'->Z H' zs j->TurnZ g tt te σP Z x j σ' H' zs)
  (hd:∀ D H' zs,H' D=some (.lst zs)->Ext H H'->H D=none->Z H' zs xs.length->Q (.ref D) H'):CompW m g tt te σ Q (Itt K a) H:=jMH (tp:=true) σP Z zo ha hn h0 step hd
theorem jBD {a:Addr}{xs:List V}(σP:St->Prop)(Z:Hp->List V->Nat->Prop)(zo:ZOk Z)(ha:H a=some (.lst xs))(hn:xs.length<sizeLine)(h0:σP (blkσ m σ))
  (step:∀ j x σ' H' zs,xs[j]?=some x->σP σ'->Ext H H'->Z H' zs j->TurnZ g tt te σP Z x j σ' H' zs)
  (hd:∀ D H' zs,H' D=some (.lst zs)->Ext H H'->H D=none->Z H' zs xs.length->Q (.ref D) H'):CompW m g tt te σ Q (Itl K a) H:=jMH (tp:=false) σP Z zo ha hn h0 step hd
end
def outZ {α:Type}(l:List α)(p:α->Bool)(f:α->V):Hp->List V->Nat->Prop:=fun _ zs j=>zs=((l.take j).filter p).map f
theorem outZ.ok {α:Type}(l:List α)(p:α->Bool)(f:α->V):ZOk (outZ l p f):=⟨fun _=>rfl,fun _ _ _ _ _ h=>h,fun _ zs j h=>by
 rw[show zs=_ from h,af]
 exact bf (cw _ _) (bN _ _)⟩
theorem outZ.yes {α:Type}{l:List α}{p:α->Bool}{f:α->V}{H H':Hp}{zs:List V}{j:Nat}{x:α}(h:outZ l p f H zs j)(hx:l[j]?=some x)(hp:p x=true):outZ l p f H' (zs++[f x]) (j+1):=by
 show _=_
 rw[bq,hx,bW,aS,<- show zs=_ from h]
 simp [hp]
theorem outZ.no {α:Type}{l:List α}{p:α->Bool}{f:α->V}{H H':Hp}{zs:List V}{j:Nat}{x:α}(h:outZ l p f H zs j)(hx:l[j]?=some x)(hp:p x=false):outZ l p f H' zs (j+1):=by
 show _=_
 rw[bq,hx,bW,aS,<- show zs=_ from h]
 simp [hp]
theorem outZ.all {α:Type}{l:List α}{p:α->Bool}{f:α->V}{H:Hp}{zs:List V}{n:Nat}(h:outZ l p f H zs n)(hn:l.length<=n):zs=(l.filter p).map f:=by
 rw[show zs=_ from h,bV hn]
def mapZ {α:Type}(l:List α)(f:α->V):Hp->List V->Nat->Prop:=fun _ zs j=>zs=(l.take j).map f
theorem mapZ.ok {α:Type}(l:List α)(f:α->V):ZOk (mapZ l f):=⟨fun _=>rfl,fun _ _ _ _ _ h=>h,fun _ zs j h=>by
 rw[show zs=_ from h,af]
 exact bN _ _⟩
theorem mapZ.yes {α:Type}{l:List α}{f:α->V}{H H':Hp}{zs:List V}{j:Nat}{x:α}(h:mapZ l f H zs j)(hx:l[j]?=some x):mapZ l f H' (zs++[f x]) (j+1):=by
 show _=_
 rw[bq,hx,aS,<- show zs=_ from h]
 rfl
theorem mapZ.all {α:Type}{l:List α}{f:α->V}{H:Hp}{zs:List V}{n:Nat}(h:mapZ l f H zs n)(hn:l.length<=n):zs=l.map f:=by
 rw[show zs=_ from h,bV hn]
theorem int_at {l:List Int}{j:Nat}{x:V}(h:(l.map V.int)[j]?=some x):∃ z:Int,l[j]?=some z/\x=V.int z:=by
 rw[bb] at h
 cases hq:l[j]? with
 | none=>rw[hq] at h; cases h
 | some z=>rw[hq] at h; cases h; exact⟨z,rfl,rfl⟩
section
variable {X:Cx}{sc:Scope}{cl:List (Str×Addr)}{C:Addr}{Nc:List Str}{fp:List Addr}{s:Shared}{H:Hp}
end
section
variable {X:Cx}{st:Stmt}{sts:List Stmt}{t:TS}{e:Expr}{tt:TT}
theorem JS.nox (h:JS X.nox st t):JS X st t:=⟨fun pins s σ H D I hw=>bw (h.h pins s σ H D (I.wish _) hw) (fun _ _ q=>q.unwish) fun _ _ z=>False.elim z⟩
theorem JT.nox (h:JT X.nox e tt):JT X e tt:=⟨h.h.nox⟩
theorem JSs.nox (h:JSs X.nox sts t):JSs X sts t:=⟨h.h.nox⟩
end
def jR8 (E:XK)(t:TA):TS:=fun _ σ H=>t σ H fun vs H1=>vs.length<=sizeLine/\∀ a,E (.ref a) (some a) H1
theorem jLO {P:Program}{w:World}{K:W.Frag}{mg:Str->Option Value}{base:Heap}{N:List Str}{qual:Str}{sc:Scope}{f:Addr}{cdv:Value}{A:Around}{outer:List Env}{s:Shared}{H:Hp}{E:XK}{x:Str}{C:Addr}{c:Const}{k:Nat}{t:TA}{np cpos pos p:Pos}
  (hc:(cxOf (CXX P w C) P w K mg base N qual sc f cdv A outer s H E).calm=true) (ek:ExcK K C) (hg:Gl1 (cxOf (CXX P w C) P w K mg base N qual sc f cdv A outer s H E).nox x) (hm:mg x=some (.ref C)) (ha:JA (cxOf (CXX P w C) P w K mg base N qual sc f cdv A outer s H E) [.Constant c k p] t) (hd:(x==("__debug__" :Str))=false:=by decide):
  JS (cxOf (CXX P w C) P w K mg base N qual sc f cdv A outer s H E) (.Raise (some (.Call (.Name x np) [.Constant c k p] [] cpos)) none pos) (jR8 E t):=
 ⟨jKQ hc ek hg.a hm ha.h (fun _ _ _ _ _ _ _ I m w1=>xe_cx I m w1) hd rfl rfl⟩
end L2
namespace L2
open PySem PySem.Spec PyProof.Rows
theorem Fun.okX {P:Program}{w:World}{K:W.Frag}{mg:Str->Option Value}{base:Heap}{C:Addr}{x qual:Str}{st:Stmt}{f:Addr}{fd:FuncData}{N ps:List Str}{k:Nat}{sp:Sp}(F:Fun K x qual st f fd)(S:FnScope N ps (j7 st))(len:∀ vs H Q E,sp vs H Q E->vs.length=ps.length)
  (hbody:∀ (cdv:Value) (A:Around) (outer:List Env) (s:Shared) (H:Hp) (vs:List V) (Q:VK) (E:XK),Room k (A.deeper (envOfC qual (j7 st) s.heap.objs.size f cdv))->sp vs H Q E->
   ∃ t,PSs (cxOf (CXX P w C) P w K mg base N qual (j7 st) f cdv A outer s H E) (jD st) t/\t { nx:=fun _ H'=>Q .non H',rt:=Q} (kP N vs) H):FnOk P w K mg base (CXX P w C) (k+1) f fd ps sp:=by
 obtain⟨oc,od,kV,doc,pm,an,cdv,ct,osl,rfl,lk,hcd⟩:=F.ex
 exact fn_of lk hcd S len fun A outer s H vs Q E hr hsp=>hbody cdv A outer s H vs Q E hr hsp
end L2
namespace L2
open PySem
structure CanS (P:Program)(w:World)(K:W.Frag)(mg:Str->Option Value)(base:Heap)(x:Str)(k:Nat)(f:Addr)(fd:FuncData)(ps:List Str)(sp:Addr->Sp):Prop where
 G:FnS P w K mg base k f fd ps sp
 m:mg x=some (.ref f)
 kp:keepIn K (.ref f)=true
 b:Binds K fd ps []
structure CanX (C:Addr)(P:Program)(w:World)(K:W.Frag)(mg:Str->Option Value)(base:Heap)(x:Str)(k:Nat)(f:Addr)(fd:FuncData)(ps:List Str)(sp:Sp):Prop where
 G:FnOk P w K mg base (CXX P w C) k f fd ps sp
 m:mg x=some (.ref f)
 kp:keepIn K (.ref f)=true
 b:Binds K fd ps []
end L2
namespace L2
open PySem PySem.Spec PyProof.Rows
theorem RoomS.units101 {k:Nat}{A:Around}{x:Addr}(r:RoomS k A x):A.units+101<cLine:=by have:=r.un; omega
section
variable {m:List (Option Nat)}{g:TG}{tt:TT}{te:TE}{σ:St}{H1:Hp}{Q:VK}
theorem jMF {x:Addr}{n:Nat}(hn:n<sizeLine)(Pv:Addr->Nat->St->Hp->List V->Prop)(h0:∀ D,H1 D=none->Pv D 0 (blkσ m σ) (upd H1 D (.lst [])) [])
  (hD:∀ D i σ' H' ys,H1 D=none->i<=n->Pv D i σ' H' ys->(∃ C,H' x=some (.ext (excP x C)))/\H' D=some (.lst ys)/\ys.length<=i)
  (hs:∀ D i σ' H' ys,H1 D=none->i<n->Pv D i σ' H' ys->g (.int (0+i)) σ' H' fun σ2 H2=>tt σ2 H2 fun b H3=>if b=true then te σ2 H3 fun v H4=>H4 D=some (.lst ys)/\Pv D (i+1) σ2 (upd H4 D (.lst (ys++[v]))) (ys++[v]) else Pv D (i+1) σ2 H3 ys)
  (hd:∀ D σ' H' ys,H1 D=none->Pv D n σ' H' ys->Q (.ref D) H'):CompW m g tt te σ Q (ItrS x 0 n) H1:=by
 intro D hDn
 obtain⟨W,w0,k⟩:=jCC (lo:=0) (m:=m) (g:=g) (tt:=tt) (te:=te) (σ:=σ) (Q:=fun v H'=>(∃ C,H' x=some (.ext (excP x C)))/\Q v H') hn Pv h0 (fun D i σ' H' ys a b c=>(hD D i σ' H' ys a b c).2) hs (fun D σ' H' ys a c=>⟨(hD D n σ' H' ys a (ak _) c).1,hd D σ' H' ys a c⟩) D hDn
 refine⟨W,w0,fun i n σ' H' ys w=>?_⟩
 obtain⟨a,b,c⟩:=k i n σ' H' ys w
 refine⟨a,b,?_⟩
 rcases c with ⟨c1,c2,c3⟩ | c
 ·exact .inl ⟨⟨c1,c2⟩,c3⟩
 ·exact .inr c
end
open PySem.AutoSeq1 (wpAny_loadPart')
section
variable {prog:Program}{w:World}{A:Around}{E:Value->Shared->Prop}{s:Shared}
end
section
variable {X:Cx}
variable {sc:Scope}{cl:List (Str×Addr)}{C:Addr}{Nc:List Str}{fp:List Addr}{s:Shared}{H:Hp}
end
structure FnZ (P:Program)(w:World)(K:W.Frag)(mg:Str->Option Value)(base:Heap)(CX:CXT)(Z:Shared->Hp->Prop)(k:Nat)(f:Addr)(fd:FuncData)(ps:List Str)(sp:Sp):Prop where
 len:∀ vs H Q E,sp vs H Q E->vs.length=ps.length
 run:∀ (A:Around) (outer:List Env) (s:Shared) (H:Hp) (args:Args) (us:List Value) (vs:List V) (Q:VK) (E:XK),Room k A->Env0 P w K mg base A outer s H->BindsTo s fd args (ps.zip us)->Vals vs us->Z s H->sp vs H Q E->
  codeAny (model P w) A (.call (.ref f) args) (CR CX outer P w H s Q E) s
theorem jSV {Z:Shared->Hp->Prop}{CX:CXT}{P:Program}{w:World}{K:W.Frag}{mg:Str->Option Value}{base:Heap}{k:Nat}{f:Addr}{name qual:Str}{params:Arguments}{body:List Stmt}{scope:Scope}{dV kV doc pm cdv ct oc:Value}{an od:Option Addr}
  {osl:Array (Option Value)}{N ps:List Str}{sp:Sp}(lk:K.lookup f=some ⟨oc,od, .func (PySem.W.fnOf name qual params body scope dV kV doc pm an cdv ct),osl⟩) (hcd:PySem.W.codeIn K cdv qual=true) (S:FnScope N ps scope)
  (len:∀ vs H Q E,sp vs H Q E->vs.length=ps.length)
  (hbody:∀ (A:Around) (outer:List Env) (s:Shared) (H:Hp) (vs:List V) (Q:VK) (E:XK),Room k (A.deeper (envOfC qual scope s.heap.objs.size f cdv))->Z s H->sp vs H Q E->
   ∃ t,PSs (cxOf CX P w K mg base N qual scope f cdv A outer s H E) body t/\t { nx:=fun _ H'=>Q .non H',rt:=Q} (kP N vs) H):
  FnZ P w K mg base CX Z (k+1) f (PySem.W.fnOf name qual params body scope dV kV doc pm an cdv ct) ps sp:=by
 refine⟨len,fun A outer s H args us vs Q E hr e0 hb r hz hsp=>?_⟩
 have hl:=len _ _ _ _ hsp
 have KX:K.In s.heap:=e0.mod.kin.keeps fun b o e=>(e0.bs b o e).1
 have lim:s.heap.NoLimit:=e0.mod.nolimit.keeps fun b o e=>(e0.bs b o e).1
 have hkind:∀ y∈ps.zip us,scope.names.lookup y.1=some .local\/(scope.names.lookup y.1=some .cell/\((cellsFrom (s.heap.objs.size+1) scope.names []).lookup y.1).isSome=true):=fun ⟨n,v⟩ hy=>by
  rcases S.par n (dk hy).1 with q | q
  ·exact .inl q
  ·exact .inr ⟨q,dU _ _ _ (.inl q)⟩
 refine fE hr.depth (KX _ _ lk) rfl S.co S.gen rfl (gL KX hcd) (hb _ _ _ _ ?_)
 refine eh S.kind hkind fun env he s1 x=>?_
 subst he
 refine⟨lim.keeps x.toInCall.keep,codeAny_func ?_⟩
 obtain⟨t,ht,hq⟩:=hbody A outer s H vs Q E (hr.deeper _) hz hsp
 have I:Inv (cxOf CX P w K mg base N qual scope f cdv A outer s H E) [] (kP N vs) H s1:=jDT S hr.hd e0 hl r x
 refine bw (ht [] s1 (kP N vs) H _ I hq) (fun fl s' hs=>?_) fun e s' hs=>hs
 have fin:∀ {σ':St}{H':Hp}{v:V}{u:Value},Inv (cxOf CX P w K mg base N qual scope f cdv A outer s H E) [] σ' H' s'->RelV v u->Q v H'->CE outer P w H s Q u s':=
  fun {σ' H' v u} J rv q=>⟨v,H',J.os,J.bare,J.base,J.hok,rv,q⟩
 cases fl with
 | ret u=>
  obtain⟨v,σ',H',J,rv,q⟩:=hs
  exact fin J rv q
 | next=>
  obtain⟨σ',H',J,q⟩:=hs
  exact fin (v:=V.non) (u:=Value.none) J rfl q
 | brk=>
  obtain⟨_,_,_,q⟩:=hs
  exact False.elim q
 | cont=>
  obtain⟨_,_,_,q⟩:=hs
  exact False.elim q
def ZSt (Z:Shared->Hp->Prop):Prop:=∀ (fs:List Addr) (s s':Shared) (H H':Hp),Un fs [] H H' s.heap s'.heap->Z s H->Z s' H'
abbrev ZT:Shared->Hp->Prop:=fun _ _=>True
theorem ZT.st:ZSt ZT:=fun _ _ _ _ _ _ _=>trivial
theorem FnZ.ok {P:Program}{w:World}{K:W.Frag}{mg:Str->Option Value}{base:Heap}{CX:CXT}{k:Nat}{f:Addr}{fd:FuncData}{ps:List Str}{sp:Sp}(F:FnZ P w K mg base CX ZT k f fd ps sp):FnOk P w K mg base CX k f fd ps sp:=
 ⟨F.len,fun A outer s H args us vs Q E hr he hb hv hs=>F.run A outer s H args us vs Q E hr he hb hv trivial hs⟩
section
variable {P:Program}{w:World}{K:W.Frag}{mg:Str->Option Value}{base:Heap}
theorem Fun.okZ {Z:Shared->Hp->Prop}{x qual:Str}{st:Stmt}{f:Addr}{fd:FuncData}{N ps:List Str}{k:Nat}{sp:Sp}(F:Fun K x qual st f fd)(S:FnScope N ps (j7 st))(len:∀ vs H Q E,sp vs H Q E->vs.length=ps.length)
  (hbody:∀ (cdv:Value) (A:Around) (outer:List Env) (s:Shared) (H:Hp) (vs:List V) (Q:VK) (E:XK),Room k (A.deeper (envOfC qual (j7 st) s.heap.objs.size f cdv))->Z s H->sp vs H Q E->
   ∃ t,PSs (cxOf CX0 P w K mg base N qual (j7 st) f cdv A outer s H E).nox (jD st) t/\t { nx:=fun _ H'=>Q .non H',rt:=Q} (kP N vs) H):FnZ P w K mg base CX0 Z (k+1) f fd ps sp:=by
 obtain⟨_,_,_,_,_,_,cdv,_,_,rfl,lk,hcd⟩:=F.ex
 refine jSV lk hcd S len fun A outer s H vs Q E hr hz hsp=>?_
 obtain⟨t,h,q⟩:=hbody cdv A outer s H vs Q E hr hz hsp
 exact⟨t,h.nox,q⟩
end
structure Callee (P:Program)(w:World)(K:W.Frag)(mg:Str->Option Value)(base:Heap)(Z:Shared->Hp->Prop)(zh:Hp->Prop)(k:Nat)(a:Addr)(sp:Sp):Prop where
 fn:∀ (A:Around) (outer:List Env) (s:Shared) (H:Hp),Env0 P w K mg base A outer s H->zh H->PySem.W.FnAt a s.heap
 run:∀ (A:Around) (outer:List Env) (s:Shared) (H:Hp) (us:List Value) (vs:List V) (Q:VK) (E:XK),Room k A->Env0 P w K mg base A outer s H->Z s H->zh H->Vals vs us->sp vs H Q E->codeAny (model P w) A (.call (.ref a) ⟨us,[]⟩) (CR CX0 outer P w H s Q E) s
def jRD (a:Addr)(zh:Hp->Prop)(sp:Sp)(j:Nat)(t:TA):TE:=fun σ H Q=>σ[j]?=some (some (.ref a))/\t σ H fun vs H1=>zh H1/\sp vs H1 Q E0
section
variable {X:Cx}{Z:Shared->Hp->Prop}{zh:Hp->Prop}{k:Nat}{a:Addr}{sp:Sp}{x:Str}{p pos:Pos}{e:Expr}{es:List Expr}{t:TA}{j:Nat}
theorem jNS (F:Callee X.prog X.w X.K X.mg X.base Z zh k a sp)(hr:Room k X.A)(st:ZSt Z)(hz:Z X.s₀ X.H₀)(hex:X.ex=[])(hN:X.N[j]?=some x)(hv:Vis1 X x)
  (ha:JA X (e::es) t) (he:starEach (e::es) X.env=(false,eval e X.env)::starEach es X.env) (hdb:(x==("__debug__" :Str))=false:=by decide) (hcd:(x==("__classdict__" :Str))=false:=by decide) (hpl:(backTo pos (starEach es X.env)).any (·.1)=false:=by rfl):
  JE X (.Call (.Name x p) (e::es) [] pos) (jRD a zh sp j t):=by
 refine⟨fun pins s σ H Q I h=>?_⟩
 obtain⟨hj,h⟩:=h
 refine cz (thn (jKW (pos:=p) hN hv.a hdb hcd pins s σ H (fun v H'=>v= .ref a/\H'=H) I ⟨_,hj,rfl,rfl⟩) fun v s1 ⟨v',H1,I1,r1,q1,q2⟩=>?_)
 subst q1 q2
 cases (show v=Value.ref a from r1)
 have hX:=thn (ha.h pos pins s1 σ H1 _ I1 h) fun us s2 (z:AP X pins σ _ us s2)=>show PySem.W.FnAt a s2.heap/\wpAny (model X.prog X.w) X.A (call (.ref a) ([]++us)) (EP X pins σ Q) X.xe s2 from by
  obtain⟨vs,H2,I2,r,h1,h2⟩:=z
  have un:=I2.base
  rw[hex] at un
  refine⟨F.fn _ _ _ _ I2.env0 h1,eX (dy (F.run X.A X.stack s2 H2 us vs Q E0 hr I2.env0 (st _ _ _ _ _ un hz) h1 r h2) fun r s' hq=>?_)⟩
  cases r with
  | error e=>exact hq.elim
  | ok fl=>
   cases fl with
   | ret u=>exact I2.after hq
   | next=>exact False.elim hq
   | brk=>exact False.elim hq
   | cont=>exact False.elim hq
 rw[he] at hX ⊢
 exact PySem.W.callWith_of (by show ((false || (backTo pos (starEach es X.env)).any (·.1)) || false)=false; rw[hpl]; rfl) PySem.W.keeps_F (gq hX)
end
def nlP (q:Str)(args:Arguments)(body:Expr)(scope:Scope)(cl:List (Str×Addr))(a c:Addr):Heap->Prop:=fun h=>∃ pm ctv,h.get? a=some (kla_obj "<lambda>" q args body scope cl pm c ctv)
theorem nlP.stay {q:Str}{args:Arguments}{body:Expr}{scope:Scope}{cl:List (Str×Addr)}{a c:Addr}(h1 h2:Heap)(p:nlP q args body scope cl a c h1)(k:∀ o,h1.get? a=some o->h2.get? a=some o):nlP q args body scope cl a c h2:=by
 obtain⟨m,t,e⟩:=p
 exact⟨m,t,k _ e⟩
def tLam (q:Str)(args:Arguments)(body:Expr)(scope:Scope)(cl:List (Str×Addr))(T:Addr)(pos:Pos):TE:=fun _ H Q=>TabOk H T pos q/\∀ a c H',H' a=some (.ext (nlP q args body scope cl a c))->H' c=some (.ext (ncP q c))->H' T=some (.tbl (onePs pos c))->ExtT T H H'->H a=none->Q (.ref a) H'
theorem jSQ {X:Cx}{args:Arguments}{body:Expr}{scope:Scope}{pos:Pos}{c0 T:Addr}(hcode:X.env.code= .ref c0)(CH:PySem.W.CodeHd X.base c0 T)(hbm:BltAt X.base X.mg)
  (hfree:∀ y∈scope.names,y.2= .free->X.env.scope.names.lookup y.1=some .cell\/X.env.scope.names.lookup y.1=some .free) (hdf:defaultsOf args X.env=([],[])):
  JE X (.Lambda args body scope pos) (tLam (X.env.qual++ "<lambda>") args body scope (jK X.env.cells scope.names []) T pos):=by
 refine⟨fun pins s σ H Q I h=>?_⟩
 obtain⟨tab,h⟩:=h
 refine PySem.W.kla_eval hdf ?_
 have hcl:closureFor scope X.env=pure (jK X.env.cells scope.names []):=jFK fun y hy hz=>I.ok.has y.1 (hfree y hy hz)
 have hg:s.heap.Ns mainGlobals X.mg:=I.mod.glob.keeps I.bk
 have C:=CH.keeps I.bk
 have gT:∀ {ps:Array Value},H T=some (.tbl ps)->mainGlobals≠T:=fun hT z=>by
  obtain⟨o,es,ep,e,_⟩:=I.mod.glob
  have:=(I.bs _ _ e).2
  rw[z,hT] at this
  cases this
 have bT:∀ {ps:Array Value},H T=some (.tbl ps)->s.heap.BuiltinsAt X.mg T:=fun hT=>by
  obtain⟨bm,o,h1,h2,h3,h4,h5,h6,h7⟩:=hbm
  refine⟨bm,o,h1,h2,h3,fun z=>?_,(I.bs _ _ h4).1,h5,h6,h7⟩
  have:=(I.bs _ _ h4).2
  rw[z,hT] at this
  cases this
 rcases tab with hT | ⟨c,hT,hc⟩
 ·refine PySem.W.kla_makeFunction hcl I.ok.glob hg hcode C (I.hok T _ hT) trivial rfl (gT hT) (bT hT) fun c ctv h' tk k1 k2 k3 k4 k5=>?_
  obtain⟨oc,hoc⟩:=ncP.is (q:=X.env.qual++ "<lambda>") k4
  have I1:Inv X pins σ (upd (upd H T (.tbl (#[]++onePs pos c))) c (.ext (ncP (X.env.qual++ "<lambda>") c))) { s with heap:=h',toks:=tk} :=I.grown hT k1 k5 k2 k4 ⟨oc,hoc⟩ ncP.stay
  have I2:=I1.laidX (t':=tk) (a:=h'.objs.size) (φ:=nlP (X.env.qual++ "<lambda>") args body scope (jK X.env.cells scope.names []) h'.objs.size c) (h':=h'.push (kla_obj "<lambda>" (X.env.qual++ "<lambda>") args body scope (jK X.env.cells scope.names []) ((X.mg "__name__").getD .none) c ctv)) (fun b u q=>ae _ q) (ak _) ⟨_,ctv,am _ rfl⟩ ⟨_,am _ rfl⟩ nlP.stay
  have hcn:H c=none:=I.hok.fresh k2
  have han:H h'.objs.size=none:=I.hok.fresh (bf k2 (cJ k3))
  have ca:c≠h'.objs.size:=aR k3
  have Tc:T≠c:=fun z=>by rw[z,hcn] at hT; cases hT
  have Ta:T≠h'.objs.size:=fun z=>by rw[z,han] at hT; cases hT
  refine⟨.ref _,_,I2,rfl,h _ c _ j8 (by rw[jA ca,j8]) (by rw[jA Ta,jA Tc,j8,i4]) (fun b o e n=>?_) han⟩
  rw[jA (jB e han),jA (jB e hcn),jA n]
  exact e
 ·refine PySem.W.kla_makeFunctionHit (cv:= .ref c) hcl I.ok.glob hg hcode C (I.hok T _ hT) (by exact trivial) (by simp [codeAmong,rawInt]) (bT hT) fun ctv h' tk k1 k2=>?_
  have I2:=I.laidX (t':=tk) (a:=h'.objs.size) (φ:=nlP (X.env.qual++ "<lambda>") args body scope (jK X.env.cells scope.names []) h'.objs.size c) (h':=h'.push (kla_obj "<lambda>" (X.env.qual++ "<lambda>") args body scope (jK X.env.cells scope.names []) ((X.mg "__name__").getD .none) c ctv)) (fun b u q=>ae _ (k1 b u q)) k2 ⟨_,ctv,am _ rfl⟩ ⟨_,am _ rfl⟩ nlP.stay
  have han:H h'.objs.size=none:=I.hok.fresh k2
  refine⟨.ref _,_,I2,rfl,h _ c _ j8 (by rw[jA (jB hc han)]; exact hc) (by rw[jA (jB hT han)]; exact hT) (fun b o e n=>?_) han⟩
  rw[jA (jB e han)]
  exact e
theorem jSY {P:Program}{w:World}{K:W.Frag}{mg:Str->Option Value}{base:Heap}{k:Nat}{q:Str}{args:Arguments}{body:Expr}{scope:Scope}{N ps fs:List Str}{sp:Sp}{cl:List (Str×Addr)}{fv:List V}{a c:Addr}(S:NScope N ps fs scope)(len:∀ vs H Q E,sp vs H Q E->vs.length=ps.length)
  (hb:∀ pm ctv (us:List Value),us.length=ps.length->bindArgs (PySem.W.kla_fn "<lambda>" q args body scope cl pm (.ref c) ctv) ⟨us,[]⟩=pure (ps.zip us))
  (hbody:∀ (A:Around) (outer:List Env) (s:Shared) (H:Hp) (vs:List V) (Q:VK) (E:XK),Room k (A.deeper (envX q scope s.heap.objs.size a (.ref c) cl))->sp vs H Q E->
   ∃ t,PE (cxN P w K mg base N q scope a (.ref c) cl A outer s H) body t/\t (jBF N vs fv) H Q):
  Callee P w K mg base (fun s H=>ClOk cl s H/\FvOk fs fv cl s) (fun H=>H a=some (.ext (nlP q args body scope cl a c))/\H c=some (.ext (ncP q c))) (k+1) a sp:=by
 refine⟨fun A outer s H e z=>?_,fun A outer s H us vs Q E hr e0 hz zh r hsp=>?_⟩
 ·obtain⟨⟨m,t,g⟩,_,_⟩:=(show ObjOk P w H s.heap a (.ext _) from e.hok a _ z.1)
  exact⟨_,_,_,_,g⟩
 obtain⟨C,Fv⟩:=hz
 obtain⟨⟨pm,ctv,ho⟩,_,_⟩:=(show ObjOk P w H s.heap a (.ext _) from e0.hok a _ zh.1)
 obtain⟨hc,_,_⟩:=(show ObjOk P w H s.heap c (.ext _) from e0.hok c _ zh.2)
 have hl:us.length=ps.length:=r.length.symm.trans (len _ _ _ _ hsp)
 have lim:s.heap.NoLimit:=e0.mod.nolimit.keeps fun b o e=>(e0.bs b o e).1
 refine PySem.W.kla_callFunE hr.depth ho rfl S.co S.gen rfl hc ?_
 rw[hb pm ctv us hl]
 refine ag (gt S.nocell (fun y hy=>S.par y.1 (dk hy).1) (fun h₁ hns hsb=>⟨lim.fresh _ hsb,?_⟩) S.kind)
 show codeAny _ _ (.expr body (envX q scope s.heap.objs.size a (.ref c) cl)) _ _
 have hk:∀ b o,s.heap.get? b=some o->h₁.get? b=some o:=fun b o e=>hsb.extBut b o (aR (ay e)) (ae _ e)
 obtain⟨t,ht,hq⟩:=hbody A outer s H vs Q E (hr.deeper _) hsp
 have I:Inv (cxN P w K mg base N q scope a (.ref c) cl A outer s H) [] (jBF N vs fv) H { s with heap:=h₁,toks:=s.toks+(ps.zip us).length} :=jEK S hr.hd e0 hl r C Fv hns hk
 refine PySem.W.kla_codeExpr (bw (ht [] _ (jBF N vs fv) H _ I hq) (fun u s' hs=>?_) fun e s' hs=>False.elim hs)
 obtain⟨v,H',J,rv,q⟩:=hs
 exact⟨v,H',J.os,J.bare,J.base,J.hok,rv,q⟩
end L2
end
section
namespace TM
open PySem PyProof.Rows
class Od where
 kd:SortKind
 ky:Keyed->Int
 is:Keyed->Prop
abbrev key [Od]:Keyed->Int:=Od.ky
abbrev IsI [Od]:Keyed->Prop:=Od.is
class LtOk (prog:Program) (w:World) (A:Around) (s:Shared) [Od]:Prop where
 lt:∀ {E:Value->Shared->Prop}{st:SortSt}{x y:Keyed}{Q:Option Bool->SortSt->Prop},kindOf st=Od.kd->IsI x->IsI y->Q (some (decide (key x<key y))) st->wpS (model prog w) A E s (lt' x y) Q st
variable [Od]
abbrev AllI (l:List Keyed):Prop:=∀ p∈l,IsI p
abbrev LE (x y:Keyed):Prop:=key x<=key y
def jBQ:Bool->Keyed->Array Keyed->Nat->Nat->Nat->StateT SortSt Sem (Option Nat):=sortPriv% PySem.Builtin.gallop
def gallopB: { g:Bool->Keyed->Array Keyed->Nat->Nat->Nat->StateT SortSt Sem (Option Nat) // jBQ=g} :=⟨fun _ _ _ _ _ _=>bind _ _,rfl⟩
theorem elP:(sortPriv% PySem.Builtin.elem)=elem':=rfl
theorem ltP:(sortPriv% PySem.Builtin.lt)=lt':=rfl
theorem ltAtP:(sortPriv% PySem.Builtin.ltAt)=ltAt':=rfl
theorem jHL:(sortPriv% PySem.Builtin.gallop)=jBQ:=rfl
section
variable {prog:Program}{w:World}{A:Around}{E:Value->Shared->Prop}{s:Shared}
theorem jFP [LtOk prog w A s]{st:SortSt}{x y:Keyed}{Q:Option Bool->SortSt->Prop}(hk:kindOf st=Od.kd)(hx:IsI x)(hy:IsI y)(h:Q (some (decide (key x<key y))) st):wpS (model prog w) A E s (lt' x y) Q st:=LtOk.lt hk hx hy h
theorem jQ {st:SortSt}{arr:Array Keyed}{i:Nat}{p:Keyed}{Q:Keyed->SortSt->Prop}(hi:arr[i]?=some p)(h:Q p st):wpS (model prog w) A E s (elem' arr i) Q st:=by
 rw[elem'_eq,hi]
 exact aG h
end
section
variable {prog:Program}{w:World}{A:Around}{E:Value->Shared->Prop}{s:Shared} [LtOk prog w A s]
theorem jB5 {left:Bool}{ky:Keyed}{arr:Array Keyed}{base n hint:Nat}{st:SortSt}{Q:Option Nat->SortSt->Prop}(hk:kindOf st=Od.kd)(hky:IsI ky)(hI:∀ i,i<n->∃ p,arr[base+i]?=some p/\IsI p)(hh:hint<n)(B:Nat->Bool)
  (hB:∀ i p,i<n->arr[base+i]?=some p->B i=(if left=true then decide (key p<key ky) else !decide (key ky<key p))) (mono:∀ i j,i<=j->j<n->B j=true->B i=true)
  (h:∀ k,k<=n->(∀ i,i<k->B i=true)->(∀ i,k<=i->i<n->B i=false)->Q (some k) st):wpS (model prog w) A E s (jBQ left ky arr base n hint) Q st:=by
 rw[gallopB.2]
 delta gallopB
 dsimp only
 simp only [elP,ltP]
 have bey:∀ i (R:Option Bool->SortSt->Prop),i<n->R (some (B i)) st->wpS (model prog w) A E s (do
   let x <- elem' arr (base+i)
   if left=true then lt' x ky else do
    let r <- lt' ky x
    pure (r.map (!·))) R st:=fun i R hi hR=>by
  obtain⟨p,hp,ip⟩:=hI i hi
  refine aA (jQ hp ?_)
  have e:=hB i p hi hp
  cases left with
  | true=>
   rw[aj rfl] at e ⊢
   rw[e] at hR
   exact jFP hk ip hky hR
  | false=>
   rw[ah ai] at e ⊢
   rw[e] at hR
   exact aA (jFP hk hky ip (aG hR))
 have down:∀ i j,i<=j->j<n->B i=false->B j=false:=fun i j hij hj hi=>by
  cases hb:B j with
  | false=>rfl
  | true=>rw[mono i j hij hj hb] at hi; cases hi
 refine aA (bey hint _ hh ?_)
 dsimp only
 cases hb:B hint with
 | true=>
  rw[aj rfl]
  refine aA (db (bK (I:=fun x c st'=>st'=st/\∃ l o,c=(none,l,o)/\l<o/\x+1<=o/\hint+l<n/\B (hint+l)=true)
   (Q:=fun c st'=>st'=st/\∃ l o,c=(none,l,o)/\l<o/\hint+l<n/\B (hint+l)=true/\(n - hint<=o\/(hint+o<n/\B (hint+o)=false))) ?step ?fin ⟨rfl,0,1,rfl,by omega,by omega,by omega,by rw[i8]; exact hb⟩) ?post)
  case post=>
   rintro c st' ⟨rfl,l,o,rfl,a1,a2,a3,a4⟩
   dsimp only
   have p3:∀ i,i<hint+l+1->B i=true:=fun i hi=>mono i (hint+l) (by omega) a2 a3
   have p4:∀ i,hint+min o (n - hint)<=i->i<n->B i=false:=fun i h1 h2=>by
    rcases a4 with a4 | ⟨a4,a5⟩
    ·omega
    ·exact down (hint+o) i (by omega) h2 a5
   refine aA (db (bK (I:=fun x c st''=>st''=st'/\∃ lo hi,c=(none,lo,hi)/\lo<=hi/\hi<=n/\hi - lo<=n - x/\(∀ i,i<lo->B i=true)/\(∀ i,hi<=i->i<n->B i=false))
    (Q:=fun c st''=>st''=st'/\∃ k,c=(none,k,k)/\k<=n/\(∀ i,i<k->B i=true)/\(∀ i,k<=i->i<n->B i=false)) ?step2 ?fin2 ⟨rfl,hint+l+1,hint+min o (n - hint),rfl,by omega,by omega,by omega,p3,p4⟩) ?post2)
   case post2=>
    rintro c st'' ⟨rfl,k,rfl,k1,k2,k3⟩
    exact aG (h k k1 k2 k3)
   case fin2=>
    rintro c st'' ⟨rfl,lo,hi,rfl,a1,a2,a3,a4,a5⟩
    have:lo=hi:=by omega
    subst this
    exact⟨rfl,lo,rfl,a2,a4,a5⟩
   case step2=>
    rintro x c st'' _ hx ⟨rfl,lo,hi,rfl,a1,a2,a3,a4,a5⟩
    dsimp only
    by_cases hge:lo ≥ hi
    ·rw[aj hge]
     have:lo=hi:=by omega
     subst this
     exact aG ⟨rfl,lo,rfl,a2,a4,a5⟩
    ·rw[ah hge]
     refine aA (bey _ _ (by omega) ?_)
     dsimp only
     cases hb:B (lo+(hi - lo) / 2) with
     | true=>
      rw[aj rfl]
      exact aG ⟨rfl,lo+(hi - lo) / 2+1,hi,rfl,by omega,a2,by omega,fun i hi'=>mono i _ (by omega) (by omega) hb,a5⟩
     | false=>
      rw[ah ai]
      exact aG ⟨rfl,lo,lo+(hi - lo) / 2,rfl,by omega,by omega,by omega,a4,fun i h1 h2=>down _ i h1 h2 hb⟩
  case fin=>
   rintro c st' ⟨rfl,l,o,rfl,a1,a2,a3,a4⟩
   exact⟨rfl,l,o,rfl,a1,a3,a4, .inl (by omega)⟩
  case step=>
   rintro x c st' _ hx ⟨rfl,l,o,rfl,a1,a2,a3,a4⟩
   dsimp only
   by_cases hge:o ≥ n - hint
   ·rw[aj hge]
    exact aG ⟨rfl,l,o,rfl,a1,a3,a4, .inl hge⟩
   ·rw[ah hge]
    refine aA (bey _ _ (by omega) ?_)
    dsimp only
    cases hb2:B (hint+o) with
    | true=>
     rw[ah (by decide)]
     exact aG ⟨rfl,o,2*o+1,rfl,by omega,by omega,by omega,hb2⟩
    | false=>
     rw[aj (by decide)]
     exact aG ⟨rfl,l,o,rfl,a1,a3,a4, .inr ⟨by omega,hb2⟩⟩
 | false=>
  rw[ah ai]
  refine aA (db (bK (I:=fun x c st'=>st'=st/\∃ l o,c=(none,l,o)/\l<o/\x+1<=o/\l<=hint/\B (hint - l)=false)
   (Q:=fun c st'=>st'=st/\∃ l o,c=(none,l,o)/\l<o/\l<=hint/\B (hint - l)=false/\(hint+1<=o\/(o<=hint/\B (hint - o)=true))) ?step ?fin ⟨rfl,0,1,rfl,by omega,by omega,by omega,by rw[Nat.sub_zero]; exact hb⟩) ?post)
  case post=>
   rintro c st' ⟨rfl,l,o,rfl,a1,a2,a3,a4⟩
   dsimp only
   have p3:∀ i,i<hint+1 - min o (hint+1)->B i=true:=fun i hi=>by
    rcases a4 with a4 | ⟨a4,a5⟩
    ·omega
    ·exact mono i (hint - o) (by omega) (by omega) a5
   have p4:∀ i,hint - l<=i->i<n->B i=false:=fun i h1 h2=>down (hint - l) i (by omega) h2 a3
   refine aA (db (bK (I:=fun x c st''=>st''=st'/\∃ lo hi,c=(none,lo,hi)/\lo<=hi/\hi<=n/\hi - lo<=n - x/\(∀ i,i<lo->B i=true)/\(∀ i,hi<=i->i<n->B i=false))
    (Q:=fun c st''=>st''=st'/\∃ k,c=(none,k,k)/\k<=n/\(∀ i,i<k->B i=true)/\(∀ i,k<=i->i<n->B i=false)) ?step2 ?fin2 ⟨rfl,hint+1 - min o (hint+1),hint - l,rfl,by omega,by omega,by omega,p3,p4⟩) ?post2)
   case post2=>
    rintro c st'' ⟨rfl,k,rfl,k1,k2,k3⟩
    exact aG (h k k1 k2 k3)
   case fin2=>
    rintro c st'' ⟨rfl,lo,hi,rfl,a1,a2,a3,a4,a5⟩
    have:lo=hi:=by omega
    subst this
    exact⟨rfl,lo,rfl,a2,a4,a5⟩
   case step2=>
    rintro x c st'' _ hx ⟨rfl,lo,hi,rfl,a1,a2,a3,a4,a5⟩
    dsimp only
    by_cases hge:lo ≥ hi
    ·rw[aj hge]
     have:lo=hi:=by omega
     subst this
     exact aG ⟨rfl,lo,rfl,a2,a4,a5⟩
    ·rw[ah hge]
     refine aA (bey _ _ (by omega) ?_)
     dsimp only
     cases hb:B (lo+(hi - lo) / 2) with
     | true=>
      rw[aj rfl]
      exact aG ⟨rfl,lo+(hi - lo) / 2+1,hi,rfl,by omega,a2,by omega,fun i hi'=>mono i _ (by omega) (by omega) hb,a5⟩
     | false=>
      rw[ah ai]
      exact aG ⟨rfl,lo,lo+(hi - lo) / 2,rfl,by omega,by omega,by omega,a4,fun i h1 h2=>down _ i h1 h2 hb⟩
  case fin=>
   rintro c st' ⟨rfl,l,o,rfl,a1,a2,a3,a4⟩
   exact⟨rfl,l,o,rfl,a1,a3,a4, .inl (by omega)⟩
  case step=>
   rintro x c st' _ hx ⟨rfl,l,o,rfl,a1,a2,a3,a4⟩
   dsimp only
   by_cases hge:o ≥ hint+1
   ·rw[aj hge]
    exact aG ⟨rfl,l,o,rfl,a1,a3,a4, .inl hge⟩
   ·rw[ah hge]
    refine aA (bey _ _ (by omega) ?_)
    dsimp only
    cases hb2:B (hint - o) with
    | true=>
     rw[aj rfl]
     exact aG ⟨rfl,l,o,rfl,a1,a3,a4, .inr ⟨by omega,hb2⟩⟩
    | false=>
     rw[ah ai]
     exact aG ⟨rfl,o,2*o+1,rfl,by omega,by omega,by omega,hb2⟩
end
abbrev jG1 (st:SortSt)(g:Nat):SortSt:=SortSt.mk' (kindOf st) (arrOf st) (pendingOf st) g (failedOf st)
def jBY:Nat->StateT SortSt Sem Unit:=sortPriv% PySem.Builtin.setMinGallop
theorem jKJ:(sortPriv% PySem.Builtin.setMinGallop)=jBY:=rfl
theorem jA4 (g:Nat):jBY g=modify fun s=>jG1 s g:=rfl
def jF5:Array Keyed->Array Keyed->StateT SortSt Sem (Array Keyed):=sortPriv% PySem.Builtin.mergeLo
def mergeLoB: { g:Array Keyed->Array Keyed->StateT SortSt Sem (Array Keyed) // jF5=g} :=⟨fun _ _=>bind _ _,rfl⟩
theorem jNE:(sortPriv% PySem.Builtin.mergeLo)=jF5:=rfl
def jF6:Array Keyed->Array Keyed->StateT SortSt Sem (Array Keyed):=sortPriv% PySem.Builtin.mergeHi
def mergeHiB: { g:Array Keyed->Array Keyed->StateT SortSt Sem (Array Keyed) // jF6=g} :=⟨fun _ _=>bind _ _,rfl⟩
theorem jNF:(sortPriv% PySem.Builtin.mergeHi)=jF6:=rfl
abbrev Srt (l:List Keyed):Prop:=l.Pairwise LE
structure ML (a b out:List Keyed)(ia ib:Nat):Prop where
 perm:(out++(a.drop ia++b.drop ib)).Perm (a++b)
 srt:Srt out
 le:∀ x∈out,∀ y∈a.drop ia++b.drop ib,LE x y
theorem Srt.drop {l:List Keyed}(h:Srt l)(i:Nat):Srt (l.drop i):=h.sublist (gW _ _)
theorem Srt.take {l:List Keyed}(h:Srt l)(i:Nat):Srt (l.take i):=h.sublist (df _ _)
theorem yJ {l m:List Keyed}(h1:Srt l)(h2:Srt m)(h:∀ x∈l,∀ y∈m,LE x y):Srt (l++m):=bS.mpr ⟨h1,h2,h⟩
theorem ML.takeA {a b out:List Keyed}{ia ib:Nat}(h:ML a b out ia ib)(sa:Srt a)(k:Nat)(hc:∀ x∈(a.drop ia).take k,∀ y∈b.drop ib,LE x y):ML a b (out++(a.drop ia).take k) (ia+k) ib:=by
 have e:a.drop (ia+k)=(a.drop ia).drop k:=by rw[gQ]
 refine⟨?_,yJ h.srt ((sa.drop ia).take k) fun x hx y hy=>h.le x hx y (aY _ (bU hy)),fun x hx y hy=>?_⟩
 ·refine List.Perm.trans ?_ h.perm
  rw[e]
  refine iw ?_
  rw[aU,<- aU ((a.drop ia).take k),bi]
 ·rcases aN.mp hx with q | q
  ·refine h.le x q y ?_
   rcases aN.mp hy with z | z
   ·rw[e] at z
    exact aY _ (cD z)
   ·exact aJ _ z
  ·rcases aN.mp hy with z | z
   ·rw[e] at z
    have s:=sa.drop ia
    rw[<- bi k (a.drop ia)] at s
    exact(bS.mp s).2.2 x q y z
   ·exact hc x q y z
theorem ML.takeB {a b out:List Keyed}{ia ib:Nat}(h:ML a b out ia ib)(sb:Srt b)(k:Nat)(hc:∀ x∈(b.drop ib).take k,∀ y∈a.drop ia,LE x y):ML a b (out++(b.drop ib).take k) ia (ib+k):=by
 have e:b.drop (ib+k)=(b.drop ib).drop k:=by rw[gQ]
 refine⟨?_,yJ h.srt ((sb.drop ib).take k) fun x hx y hy=>h.le x hx y (aJ _ (bU hy)),fun x hx y hy=>?_⟩
 ·refine List.Perm.trans ?_ h.perm
  rw[e,aU]
  refine cR out ?_
  refine dA.trans ?_
  rw[aU]
  refine cR _ ?_
  refine dA.trans ?_
  rw[bi]
 ·rcases aN.mp hx with q | q
  ·refine h.le x q y ?_
   rcases aN.mp hy with z | z
   ·exact aY _ z
   ·rw[e] at z
    exact aJ _ (cD z)
  ·rcases aN.mp hy with z | z
   ·exact hc x q y z
   ·rw[e] at z
    have s:=sb.drop ib
    rw[<- bi k (b.drop ib)] at s
    exact(bS.mp s).2.2 x q y z
theorem ML.outA {a b out:List Keyed}{ia ib:Nat}(h:ML a b out ia ib)(sa:Srt a)(hb:b.length<=ib):(out++a.drop ia++b.drop ib).Perm (a++b)/\Srt (out++a.drop ia++b.drop ib):=by
 refine⟨by rw[aU]; exact h.perm,?_⟩
 rw[im hb,aV]
 exact yJ h.srt (sa.drop ia) fun x hx y hy=>h.le x hx y (aY _ hy)
theorem ML.outB {a b out:List Keyed}{ia ib:Nat}(h:ML a b out ia ib)(sb:Srt b)(ha:a.length<=ia):(out++a.drop ia++b.drop ib).Perm (a++b)/\Srt (out++a.drop ia++b.drop ib):=by
 refine⟨by rw[aU]; exact h.perm,?_⟩
 rw[im ha,aV]
 exact yJ h.srt (sb.drop ib) fun x hx y hy=>h.le x hx y (aJ _ hy)
theorem ML.last {a b out:List Keyed}{ia ib:Nat}(h:ML a b out ia ib)(sa:Srt a)(sb:Srt b)(ha:∀ x∈b,∀ y∈a.drop ia,LE x y):(out++b.drop ib++a.drop ia).Perm (a++b)/\Srt (out++b.drop ib++a.drop ia):=by
 refine⟨?_,?_⟩
 ·rw[aU]
  exact(cR out dA).trans h.perm
 ·refine yJ (yJ h.srt (sb.drop ib) fun x hx y hy=>h.le x hx y (aJ _ hy)) (sa.drop ia) fun x hx y hy=>?_
  rcases aN.mp hx with q | q
  ·exact h.le x q y (aY _ hy)
  ·exact ha x (cD q) y hy
theorem jA7 {l:List Keyed}{i:Nat}{p:Keyed}(h:l[i]?=some p):(l.drop i).take 1=[p]:=by
 obtain⟨hi,e⟩:=ar.mp h
 rw[<- List.getElem_cons_drop (h:=hi),e]
 rfl
theorem jE7 {l:List Keyed}(h:Srt l){i j:Nat}{x y:Keyed}(hx:l[i]?=some x)(hy:l[j]?=some y)(hij:i<=j):LE x y:=by
 obtain⟨h1,rfl⟩:=ar.mp hx
 obtain⟨h2,rfl⟩:=ar.mp hy
 by_cases e:i=j
 ·subst e; exact dc _
 ·exact cP.mp h i j h1 h2 (by omega)
theorem jD3 {l:List Keyed}{i:Nat}{y:Keyed}(h:y∈l.drop i):∃ j,i<=j/\l[j]?=some y:=by
 obtain⟨k,hk⟩:=bv h
 rw[gR] at hk
 exact⟨i+k,by omega,hk⟩
theorem jA5 {l:List Keyed}{i k:Nat}{y:Keyed}(h:y∈(l.drop i).take k):∃ j,i<=j/\j<i+k/\l[j]?=some y:=by
 obtain⟨n,hn⟩:=bv h
 have hlt:n<k:=by
  have:=(ar.mp hn).1
  rw[bD] at this
  omega
 rw[bY hlt,gR] at hn
 exact⟨i+n,by omega,by omega,hn⟩
theorem jCN {a:Array Keyed}{i:Nat} :(a.extract i a.size).toList=a.toList.drop i:=by
 rw[eB,dB]
 exact bV (by rw[fK,aO]; exact ak _)
theorem ext_k {a:Array Keyed}{i k:Nat} :(a.extract i (i+k)).toList=(a.toList.drop i).take k:=by
 rw[eB,dB,cb]
structure Two (a b:Array Keyed):Prop where
 ia:AllI a.toList
 ib:AllI b.toList
 sa:Srt a.toList
 sb:Srt b.toList
 na:0<a.size
 nb:0<b.size
 last:∀ x∈b.toList,∀ y,a.toList[a.size - 1]?=some y->key x<key y
 first:∀ y∈a.toList,∀ p,b.toList[0]?=some p->key p<key y
def yE (a b r:Array Keyed):Prop:=r.toList.Perm (a.toList++b.toList)/\Srt r.toList
structure SG (st st':SortSt):Prop where
 k:kindOf st'=kindOf st
 a:arrOf st'=arrOf st
 p:pendingOf st'=pendingOf st
 f:failedOf st'=failedOf st
theorem SG.refl (st:SortSt):SG st st:=⟨rfl,rfl,rfl,rfl⟩
theorem SG.gal {st st':SortSt}(h:SG st st')(g:Nat):SG st (jG1 st' g):=⟨h.k,h.a,h.p,h.f⟩
abbrev MA (a b out:Array Keyed)(ia ib:Nat):Prop:=ML a.toList b.toList out.toList ia ib
section
variable {a b out:Array Keyed}{i j k:Nat}
theorem at_list {p:Keyed} :a[i]?=some p↔a.toList[i]?=some p:=by rw[bC]
theorem qA (h:i<a.size):∃ p,a[i]?=some p/\a.toList[i]?=some p:=⟨a[i],by simp [h],by simp [h]⟩
theorem MA.doneA (T:Two a b)(h:MA a b out i j)(hj:b.size<=j):yE a b (out++a.extract i a.size++b.extract j b.size):=by
 unfold yE
 rw[be,be,jCN,jCN]
 exact ML.outA h T.sa (by rw[aO]; exact hj)
theorem MA.doneB (T:Two a b)(h:MA a b out i j)(hi:a.size<=i):yE a b (out++a.extract i a.size++b.extract j b.size):=by
 unfold yE
 rw[be,be,jCN,jCN]
 exact ML.outB h T.sb (by rw[aO]; exact hi)
theorem MA.doneL (T:Two a b)(h:MA a b out i j)(hi:i+1=a.size):yE a b (out++b.extract j b.size++a.extract i a.size):=by
 unfold yE
 rw[be,be,jCN,jCN]
 refine ML.last h T.sa T.sb fun x hx y hy=>?_
 obtain⟨n,h1,h2⟩:=jD3 hy
 have:n=a.size - 1:=by
  have:=(ar.mp h2).1
  rw[aO] at this
  omega
 subst this
 exact cj (T.last x hx y h2)
theorem MA.pushB (T:Two a b)(h:MA a b out i j){p q:Keyed}(hp:b[j]?=some p)(hc:∀ y∈a.toList.drop i,LE p y):MA a b (out.push p) i (j+1):=by
 have:=ML.takeB h T.sb 1 (by
  rw[jA7 (at_list.mp hp)]
  intro x hx
  rw[aq.mp hx]
  exact hc)
 rw[jA7 (at_list.mp hp)] at this
 unfold MA
 rw[dH]
 exact this
theorem MA.pushA (T:Two a b)(h:MA a b out i j){p q:Keyed}(hp:a[i]?=some p)(hc:∀ y∈b.toList.drop j,LE p y):MA a b (out.push p) (i+1) j:=by
 have:=ML.takeA h T.sa 1 (by
  rw[jA7 (at_list.mp hp)]
  intro x hx
  rw[aq.mp hx]
  exact hc)
 rw[jA7 (at_list.mp hp)] at this
 unfold MA
 rw[dH]
 exact this
theorem MA.appA (T:Two a b)(h:MA a b out i j)(k:Nat)(hc:∀ n x,i<=n->n<i+k->a.toList[n]?=some x->∀ y∈b.toList.drop j,LE x y):MA a b (out++a.extract i (i+k)) (i+k) j:=by
 unfold MA
 rw[be,ext_k]
 exact ML.takeA h T.sa k fun x hx y hy=>by
  obtain⟨n,h1,h2,h3⟩:=jA5 hx
  exact hc n x h1 h2 h3 y hy
theorem MA.appB (T:Two a b)(h:MA a b out i j)(k:Nat)(hc:∀ n x,j<=n->n<j+k->b.toList[n]?=some x->∀ y∈a.toList.drop i,LE x y):MA a b (out++b.extract j (j+k)) i (j+k):=by
 unfold MA
 rw[be,ext_k]
 exact ML.takeB h T.sb k fun x hx y hy=>by
  obtain⟨n,h1,h2,h3⟩:=jA5 hx
  exact hc n x h1 h2 h3 y hy
theorem Two.atA (T:Two a b)(h:i<a.size):∃ p,a[i]?=some p/\IsI p:=by
 obtain⟨p,h1,h2⟩:=qA h
 exact⟨p,h1,T.ia p (aI h2)⟩
theorem Two.atB (T:Two a b)(h:i<b.size):∃ p,b[i]?=some p/\IsI p:=by
 obtain⟨p,h1,h2⟩:=qA h
 exact⟨p,h1,T.ib p (aI h2)⟩
theorem jFB (s:Srt a.toList){p q:Keyed}(hp:a[i]?=some p)(h:LE q p):∀ y∈a.toList.drop i,LE q y:=fun y hy=>by
 obtain⟨n,h1,h2⟩:=jD3 hy
 exact cK h (jE7 s (at_list.mp hp) h2 h1)
end
section
variable {prog:Program}{w:World}{A:Around}{E:Value->Shared->Prop}{s:Shared} [LtOk prog w A s]
theorem jQS {st:SortSt}{a:Array Keyed}{i:Nat}{p:Keyed}{Q:Option Nat->SortSt->Prop}(hk:kindOf st=Od.kd)(hp:IsI p)(ha:AllI a.toList)(sa:Srt a.toList)(hi:i<a.size)
  (h:∀ k,i+k<=a.size->(∀ n x,i<=n->n<i+k->a.toList[n]?=some x->LE x p)->(∀ n x,i+k<=n->a.toList[n]?=some x->key p<key x)->Q (some k) st):
  wpS (model prog w) A E s (jBQ false p a i (a.size - i) 0) Q st:=by
 refine jB5 hk hp (fun n hn=>?_) (by omega) (fun n=>match a[i+n]? with | some x=>!decide (key p<key x) | none=>false) (fun n x hn hx=>?_) (fun n m hnm hm hb=>?_) fun k hk1 hk2 hk3=>h k (by omega) (fun n x h1 h2 h3=>?_) fun n x h1 h2=>?_
 ·obtain⟨q,q1,q2⟩:=qA (a:=a) (i:=i+n) (by omega)
  exact⟨q,q1,ha q (aI q2)⟩
 ·rw[hx,ah ai]
 ·obtain⟨x,x1,x2⟩:=qA (a:=a) (i:=i+n) (by omega)
  obtain⟨y,y1,y2⟩:=qA (a:=a) (i:=i+m) (by omega)
  rw[y1] at hb
  rw[x1]
  have:=jE7 sa x2 y2 (by omega)
  have hb:¬ key p<key y:=by simpa using hb
  show (!decide (key p<key x))=true
  rw[fm,dR]
  have:key x<=key y:=this
  omega
 ·have:=hk2 (n - i) (by omega)
  rw[show i+(n - i)=n by omega,at_list.mpr h3] at this
  have this:¬ key p<key x:=by simpa using this
  show key x<=key p
  omega
 ·have hn:=(ar.mp h2).1
  rw[aO] at hn
  have:=hk3 (n - i) (by omega) (by omega)
  rw[show i+(n - i)=n by omega,at_list.mpr h2] at this
  simpa using this
theorem jQT {st:SortSt}{a:Array Keyed}{i:Nat}{p:Keyed}{Q:Option Nat->SortSt->Prop}(hk:kindOf st=Od.kd)(hp:IsI p)(ha:AllI a.toList)(sa:Srt a.toList)(hi:i<a.size)
  (h:∀ k,i+k<=a.size->(∀ n x,i<=n->n<i+k->a.toList[n]?=some x->key x<key p)->(∀ n x,i+k<=n->a.toList[n]?=some x->LE p x)->Q (some k) st):
  wpS (model prog w) A E s (jBQ true p a i (a.size - i) 0) Q st:=by
 refine jB5 hk hp (fun n hn=>?_) (by omega) (fun n=>match a[i+n]? with | some x=>decide (key x<key p) | none=>false) (fun n x hn hx=>?_) (fun n m hnm hm hb=>?_) fun k hk1 hk2 hk3=>h k (by omega) (fun n x h1 h2 h3=>?_) fun n x h1 h2=>?_
 ·obtain⟨q,q1,q2⟩:=qA (a:=a) (i:=i+n) (by omega)
  exact⟨q,q1,ha q (aI q2)⟩
 ·rw[hx,aj rfl]
 ·obtain⟨x,x1,x2⟩:=qA (a:=a) (i:=i+n) (by omega)
  obtain⟨y,y1,y2⟩:=qA (a:=a) (i:=i+m) (by omega)
  rw[y1] at hb
  rw[x1]
  have:=jE7 sa x2 y2 (by omega)
  have hb:key y<key p:=aK hb
  show decide (key x<key p)=true
  rw[br]
  have:key x<=key y:=this
  omega
 ·have:=hk2 (n - i) (by omega)
  rw[show i+(n - i)=n by omega,at_list.mpr h3] at this
  exact aK this
 ·have hn:=(ar.mp h2).1
  rw[aO] at hn
  have:=hk3 (n - i) (by omega) (by omega)
  rw[show i+(n - i)=n by omega,at_list.mpr h2] at this
  have this:¬ key x<key p:=eZ this
  show key p<=key x
  omega
end
section
variable {prog:Program}{w:World}{A:Around}{E:Value->Shared->Prop}{s:Shared} [LtOk prog w A s]
theorem bp {a b:Nat}(h:a=b):(a==b)=true:=fZ.mpr h
theorem bn {a b:Nat}(h:¬ a=b):¬ (a==b)=true:=fun z=>h (fZ.mp z)
structure LoI (a b:Array Keyed)(st:SortSt)(out:Array Keyed)(ia ib:Nat)(st':SortSt):Prop where
 m:MA a b out ia ib
 i:ia+1<a.size
 j:ib<b.size
 s:SG st st'
theorem jGW {a b:Array Keyed}{st:SortSt}{Q:Array Keyed->SortSt->Prop}(hk:kindOf st=Od.kd)(T:Two a b)(h:∀ r st',yE a b r->SG st st'->Q r st'):wpS (model prog w) A E s (jF5 a b) Q st:=by
 rw[mergeLoB.2]
 delta mergeLoB
 dsimp only
 simp only [elP,ltP,jHL,jKJ]
 have na:=T.na
 have nb:=T.nb
 refine aA (gS (cU ⟨rfl,?_⟩))
 obtain⟨p0,hp0,ip0⟩:=T.atB nb
 refine aA (jQ hp0 ?_)
 have M0:MA a b #[p0] 0 1:=by
  have z:MA a b #[] 0 0:=⟨by show (([]:List Keyed)++(a.toList.drop 0++b.toList.drop 0)).Perm _; rw[List.nil_append,iJ,iJ],List.Pairwise.nil,fun x hx=>by cases hx⟩
  have:=MA.pushB (q:=p0) T z hp0 fun y hy=>cj (T.first y (cD hy) p0 (at_list.mp hp0))
  exact this
 by_cases e1:1=b.size
 ·rw[aj (bp e1)]
  exact aG (h _ _ (MA.doneA T M0 (by omega)) (SG.refl _))
 rw[ah (bn e1)]
 by_cases e2:0+1=a.size
 ·rw[aj (bp e2)]
  exact aG (h _ _ (MA.doneL T M0 e2) (SG.refl _))
 rw[ah (bn e2)]
 refine aA (gk ?_)
 refine aA (db (bK (I:=fun x c st'=>∃ out ia ib mg,c=(none,out,ia,ib,mg)/\LoI a b st out ia ib st'/\x+1<=ia+ib)
  (Q:=fun c st'=>∃ r,c.1=some r/\yE a b r/\SG st st') ?step ?fin ⟨_,0,1,_,rfl,⟨M0,by omega,by omega,SG.refl _⟩,by omega⟩) ?post)
 case post=>
  rintro ⟨r0,c⟩ st' ⟨r,hr,d,g⟩
  have hr:r0=some r:=hr
  subst hr
  exact aG (h r st' d g)
 case fin=>
  rintro c st' ⟨out,ia,ib,mg,rfl,I0,hx⟩
  have:=I0.i
  have:=I0.j
  omega
 case step=>
  rintro x c st1 _ hx ⟨out,ia,ib,mg,rfl,I0,hxx⟩
  dsimp only
  refine aA (db (bK (I:=fun y c st'=>∃ out' ia' ib' ac bc,c=(none,out',ia',ib',ac,bc)/\LoI a b st out' ia' ib' st'/\ia+ib<=ia'+ib'/\(y=0\/ia+ib<ia'+ib'))
   (Q:=fun c st'=>(∃ r,c.1=some r/\yE a b r/\SG st st')\/∃ out' ia' ib' ac bc,c=(none,out',ia',ib',ac,bc)/\LoI a b st out' ia' ib' st'/\ia+ib<ia'+ib') ?step1 ?fin1 ⟨_,_,_,_,_,rfl,I0,by omega, .inl rfl⟩) ?post1)
  case fin1=>
   rintro c st' ⟨out',ia',ib',ac,bc,rfl,I1,h1,h2⟩
   exact .inr ⟨_,_,_,_,_,rfl,I1,by omega⟩
  case step1=>
   rintro y c st2 _ hy ⟨out',ia',ib',ac,bc,rfl,I1,h1,h2⟩
   dsimp only
   obtain⟨pb,hpb,ipb⟩:=T.atB I1.j
   obtain⟨pa,hpa,ipa⟩:=T.atA (i:=ia') (by have:=I1.i; omega)
   have ii:=I1.i
   have jj:=I1.j
   refine aA (jQ hpb (aA (jQ hpa (aA (jFP (I1.s.k.trans hk) ipb ipa ?_)))))
   dsimp only
   by_cases hlt:key pb<key pa
   ·rw[aw hlt,aj rfl]
    refine aA (jQ hpb ?_)
    have M2:=MA.pushB (q:=pb) T I1.m hpb (jFB T.sa hpa (cj hlt))
    by_cases f1:ib'+1=b.size
    ·rw[aj (bp f1)]
     exact aG (.inl ⟨_,rfl,MA.doneA T M2 (by omega),I1.s⟩)
    rw[ah (bn f1)]
    split
    ·exact aG (.inr ⟨_,_,_,_,_,rfl,⟨M2,ii,by omega,I1.s⟩,by omega⟩)
    ·exact aG ⟨_,_,_,_,_,rfl,⟨M2,ii,by omega,I1.s⟩,by omega, .inr (by omega)⟩
   ·rw[aP hlt,ah ai]
    refine aA (jQ hpa ?_)
    have M2:=MA.pushA (q:=pa) T I1.m hpa (jFB T.sb hpb (by show key pa<=key pb; omega))
    by_cases f1:ia'+1+1=a.size
    ·rw[aj (bp f1)]
     exact aG (.inl ⟨_,rfl,MA.doneL T M2 f1,I1.s⟩)
    rw[ah (bn f1)]
    split
    ·exact aG (.inr ⟨_,_,_,_,_,rfl,⟨M2,by omega,jj,I1.s⟩,by omega⟩)
    ·exact aG ⟨_,_,_,_,_,rfl,⟨M2,by omega,jj,I1.s⟩,by omega, .inr (by omega)⟩
  case post1=>
   rintro c st2 (⟨r,hr,d,g⟩ | ⟨out1,ia1,ib1,ac,bc,rfl,I1,h1⟩)
   ·obtain⟨r0,c⟩:=c
    have hr:r0=some r:=hr
    subst hr
    exact aG ⟨r,rfl,d,g⟩
   dsimp only
   refine aA (gS (cU ⟨rfl,?_⟩))
   refine aA (db (bK (I:=fun y c st'=>∃ out' ia' ib' mg' ac bc,c=(none,out',ia',ib',mg',ac,bc)/\LoI a b st out' ia' ib' st'/\ia+ib<ia'+ib')
    (Q:=fun c st'=>(∃ r,c.1=some r/\yE a b r/\SG st st')\/∃ out' ia' ib' mg' ac bc,c=(none,out',ia',ib',mg',ac,bc)/\LoI a b st out' ia' ib' st'/\ia+ib<ia'+ib') ?step2 ?fin2 ⟨_,_,_,_,_,_,rfl,I1,h1⟩) ?post2)
   case fin2=>
    rintro c st' ⟨out',ia',ib',mg',ac,bc,rfl,I2,h2⟩
    exact .inr ⟨_,_,_,_,_,_,rfl,I2,h2⟩
   case post2=>
    rintro c st3 (⟨r,hr,d,g⟩ | ⟨out2,ia2,ib2,mg2,ac,bc,rfl,I2,h2⟩)
    ·obtain⟨r0,c⟩:=c
     have hr:r0=some r:=hr
     subst hr
     exact aG ⟨r,rfl,d,g⟩
    dsimp only
    rw[jA4]
    exact aA (dX (aG ⟨_,_,_,_,rfl,⟨I2.m,I2.i,I2.j,I2.s.gal _⟩,by omega⟩))
   case step2=>
    clear I0 I1
    rintro y c st2 _ hy ⟨out,ia,ib,mg',ac,bc,rfl,I0,h2⟩
    dsimp only
    obtain⟨pb,hpb,ipb⟩:=T.atB I0.j
    by_cases hg:mg'>1
    case' pos=>
     rw[aj hg]
     generalize hgg:mg' - 1=gg
    case' neg=>
     rw[ah hg]
     generalize hgg:mg'=gg
    all_goals
     rw[jA4]
     refine aA (dX ?_)
     have G1:=I0.s.gal gg
     refine aA (jQ hpb ?_)
     refine aA (jQS (G1.k.trans hk) ipb T.ia T.sa (by have:=I0.i; omega) fun k1 g1 g2 g3=>?_)
     dsimp only
     have M1:=MA.appA T I0.m k1 (fun n x h1 h2 h3=>jFB T.sb hpb (g2 n x h1 h2 h3))
     have hgt:∀ y∈a.toList.drop (ia+k1),LE pb y:=fun y hy=>by
      obtain⟨n,h1,h2⟩:=jD3 hy
      exact cj (g3 n y h1 h2)
     have jb:=I0.j
     by_cases e0:k1>0
     case' pos=>
      rw[aj e0]
      by_cases f1:ia+k1+1=a.size
      ·rw[aj (bp f1)]
       exact aG (.inl ⟨_,rfl,MA.doneL T M1 f1,G1⟩)
      rw[ah (bn f1)]
      by_cases f2:ia+k1=a.size
      ·rw[aj (bp f2)]
       exact aG (.inl ⟨_,rfl,MA.doneB T M1 (by omega),G1⟩)
      rw[ah (bn f2)]
      obtain⟨pa,hpa,ipa⟩:=T.atA (i:=ia+k1) (by omega)
      have hz:ia+k1<a.size:=by omega
      generalize hiz:ia+k1=iz at*
     case' neg=>
      rw[ah e0]
      have e0':k1=0:=by omega
      subst e0'
      have M1:=I0.m
      obtain⟨pa,hpa,ipa⟩:=T.atA (i:=ia) (by have:=I0.i; omega)
      have hz:ia<a.size:=by have:=I0.i; omega
      rw[i8] at hgt
      have hia:=I0.i
      generalize hiz:ia=iz at*
     all_goals
      refine aA (jQ hpb ?_)
      have M2:=MA.pushB (q:=pb) T M1 hpb hgt
      by_cases e1:ib+1=b.size
      ·rw[aj (bp e1)]
       exact aG (.inl ⟨_,rfl,MA.doneA T M2 (by omega),G1⟩)
      rw[ah (bn e1)]
      refine aA (jQ hpa ?_)
      refine aA (jQT (G1.k.trans hk) ipa T.ib T.sb (by omega) fun k2 l1 l2 l3=>?_)
      dsimp only
      have M3:=MA.appB T M2 k2 (fun n x h1 h2 h3=>jFB T.sa hpa (cj (l2 n x h1 h2 h3)))
      have fin3:∀ y∈b.toList.drop (ib+1+k2),LE pa y:=fun y hy=>by
       obtain⟨n,h1,h2⟩:=jD3 hy
       exact l3 n y h1 h2
      by_cases e2:k2>0
      ·rw[aj e2]
       by_cases e3:ib+1+k2=b.size
       ·rw[aj (bp e3)]
        exact aG (.inl ⟨_,rfl,MA.doneA T M3 (by omega),G1⟩)
       rw[ah (bn e3)]
       refine aA (jQ hpa ?_)
       have M4:=MA.pushA (q:=pa) T M3 hpa fin3
       by_cases e4:iz+1+1=a.size
       ·rw[aj (bp e4)]
        exact aG (.inl ⟨_,rfl,MA.doneL T M4 e4,G1⟩)
       rw[ah (bn e4)]
       split
       ·exact aG (.inr ⟨_,_,_,_,_,_,rfl,⟨M4,by omega,by omega,G1⟩,by omega⟩)
       ·exact aG ⟨_,_,_,_,_,_,rfl,⟨M4,by omega,by omega,G1⟩,by omega⟩
      ·rw[ah e2]
       have e0:k2=0:=by omega
       subst e0
       refine aA (jQ hpa ?_)
       have M4:=MA.pushA (q:=pa) T M2 hpa fin3
       by_cases e4:iz+1+1=a.size
       ·rw[aj (bp e4)]
        exact aG (.inl ⟨_,rfl,MA.doneL T M4 e4,G1⟩)
       rw[ah (bn e4)]
       split
       ·exact aG (.inr ⟨_,_,_,_,_,_,rfl,⟨M4,by omega,by omega,G1⟩,by omega⟩)
       ·exact aG ⟨_,_,_,_,_,_,rfl,⟨M4,by omega,by omega,G1⟩,by omega⟩
end
structure MHL (tot xa xb o:List Keyed):Prop where
 perm:(xa++xb++o).Perm tot
 srt:Srt o
 le:∀ x∈o,∀ y∈xa++xb,LE y x
theorem MHL.takeA {tot u v xb o:List Keyed}(h:MHL tot (u++v) xb o)(s:Srt (u++v))(hc:∀ x∈v,∀ y∈xb,LE y x):MHL tot u xb (v++o):=by
 have sp:=bS.mp s
 refine⟨?_,yJ sp.2.1 h.srt fun x hx y hy=>h.le y hy x (aY _ (aJ _ hx)),fun x hx y hy=>?_⟩
 ·refine List.Perm.trans ?_ h.perm
  rw[aU,aU,aU]
  refine cR u ?_
  rw[<- aU,<- aU]
  exact fo o dA
 ·rcases aN.mp hx with q | q
  ·rcases aN.mp hy with z | z
   ·exact sp.2.2 y z x q
   ·exact hc x q y z
  ·refine h.le x q y ?_
   rcases aN.mp hy with z | z
   ·exact aY _ (aY _ z)
   ·exact aJ _ z
theorem MHL.takeB {tot u v xa o:List Keyed}(h:MHL tot xa (u++v) o)(s:Srt (u++v))(hc:∀ x∈v,∀ y∈xa,LE y x):MHL tot xa u (v++o):=by
 have sp:=bS.mp s
 refine⟨?_,yJ sp.2.1 h.srt fun x hx y hy=>h.le y hy x (aJ _ (aJ _ hx)),fun x hx y hy=>?_⟩
 ·refine List.Perm.trans (iw ?_) h.perm
  simp only [aU]
 ·rcases aN.mp hx with q | q
  ·rcases aN.mp hy with z | z
   ·exact hc x q y z
   ·exact sp.2.2 y z x q
  ·refine h.le x q y ?_
   rcases aN.mp hy with z | z
   ·exact aY _ z
   ·exact aJ _ (aY _ z)
theorem MHL.out {tot xa xb o:List Keyed}(h:MHL tot xa xb o)(s:Srt (xa++xb)):(xa++xb++o).Perm tot/\Srt (xa++xb++o):=
 ⟨h.perm,yJ s h.srt fun x hx y hy=>h.le y hy x hx⟩
theorem MHL.outF {tot xa xb o:List Keyed}(h:MHL tot xa xb o)(s:Srt (xb++xa)):(xb++xa++o).Perm tot/\Srt (xb++xa++o):=
 ⟨(fo o dA).trans h.perm,yJ s h.srt fun x hx y hy=>h.le y hy x (by
  rcases aN.mp hx with z | z
  ·exact aJ _ z
  ·exact aY _ z)⟩
theorem jI5 {l:List Keyed}{n:Nat}{p:Keyed}(hn:0<n)(h:l[n - 1]?=some p):l.take n=l.take (n - 1)++[p]:=by
 obtain⟨m,rfl⟩:∃ m,n=m+1:=⟨n - 1,by omega⟩
 rw[Nat.add_sub_cancel] at h ⊢
 rw[List.take_succ,h]
 rfl
theorem jI4 {l:List Keyed}{k n:Nat}(hk:k<=n):l.take n=l.take k++(l.drop k).take (n - k):=by
 obtain⟨m,rfl⟩:∃ m,n=k+m:=⟨n - k,by omega⟩
 rw[cb,List.take_add]
theorem jAI {a:Array Keyed}{k n:Nat} :(a.extract k n).toList=(a.toList.drop k).take (n - k):=by
 rw[eB,dB]
theorem jBC {a:Array Keyed}{n:Nat} :(a.extract 0 n).toList=a.toList.take n:=by
 rw[jAI,iJ,Nat.sub_zero]
abbrev MH (a b out:Array Keyed)(na nb:Nat):Prop:=MHL (a.toList++b.toList) (a.toList.take na) (b.toList.take nb) out.toList.reverse
theorem jD2 {l:List Keyed}{n:Nat}{y:Keyed}(h:y∈l.take n):∃ j,j<n/\l[j]?=some y:=by
 obtain⟨k,hk⟩:=bv h
 have hlt:k<n:=by
  have:=(ar.mp hk).1
  rw[bD] at this
  omega
 rw[bY hlt] at hk
 exact⟨k,hlt,hk⟩
section
variable {a b out:Array Keyed}{i j k:Nat}
theorem jD0 (s:Srt a.toList){p q:Keyed}(hp:a[i - 1]?=some p)(h:LE p q):∀ y∈a.toList.take i,LE y q:=fun y hy=>by
 obtain⟨n,h1,h2⟩:=jD2 hy
 exact cK (jE7 s h2 (at_list.mp hp) (by omega)) h
theorem MH.pushA (T:Two a b)(h:MH a b out i j){p:Keyed}(hi:0<i)(hp:a[i - 1]?=some p)(hc:∀ y∈b.toList.take j,LE y p):MH a b (out.push p) (i - 1) j:=by
 have e:=jI5 hi (at_list.mp hp)
 have s:=T.sa.take i
 unfold MH at h ⊢
 rw[e] at h s
 rw[dH,eQ]
 exact h.takeA s fun x hx=>by rw[aq.mp hx]; exact hc
theorem MH.pushB (T:Two a b)(h:MH a b out i j){p:Keyed}(hj:0<j)(hp:b[j - 1]?=some p)(hc:∀ y∈a.toList.take i,LE y p):MH a b (out.push p) i (j - 1):=by
 have e:=jI5 hj (at_list.mp hp)
 have s:=T.sb.take j
 unfold MH at h ⊢
 rw[e] at h s
 rw[dH,eQ]
 exact h.takeB s fun x hx=>by rw[aq.mp hx]; exact hc
theorem MH.appA (T:Two a b)(h:MH a b out i j)(hk:k<=i)(hc:∀ n x,k<=n->n<i->a.toList[n]?=some x->∀ y∈b.toList.take j,LE y x):MH a b (out++(a.extract k i).reverse) k j:=by
 have e:=jI4 (l:=a.toList) hk
 have s:=T.sa.take i
 unfold MH at h ⊢
 rw[e] at h s
 rw[be,de,eQ,iK,jAI]
 exact h.takeA s fun x hx y hy=>by
  obtain⟨n,h1,h2,h3⟩:=jA5 hx
  exact hc n x h1 (by omega) h3 y hy
theorem MH.appB (T:Two a b)(h:MH a b out i j)(hk:k<=j)(hc:∀ n x,k<=n->n<j->b.toList[n]?=some x->∀ y∈a.toList.take i,LE y x):MH a b (out++(b.extract k j).reverse) i k:=by
 have e:=jI4 (l:=b.toList) hk
 have s:=T.sb.take j
 unfold MH at h ⊢
 rw[e] at h s
 rw[be,de,eQ,iK,jAI]
 exact h.takeB s fun x hx y hy=>by
  obtain⟨n,h1,h2,h3⟩:=jA5 hx
  exact hc n x h1 (by omega) h3 y hy
theorem MH.doneA (T:Two a b)(h:MH a b out 0 j):yE a b (a.extract 0 0++b.extract 0 j++out.reverse):=by
 unfold yE
 rw[be,be,jBC,jBC,de]
 exact h.out (by rw[iL]; exact T.sb.take j)
theorem MH.doneB (T:Two a b)(h:MH a b out i 0):yE a b (a.extract 0 i++b.extract 0 0++out.reverse):=by
 unfold yE
 rw[be,be,jBC,jBC,de]
 exact h.out (by rw[iL,aV]; exact T.sa.take i)
theorem MH.doneF (T:Two a b)(h:MH a b out i 1):yE a b (b.extract 0 1++a.extract 0 i++out.reverse):=by
 unfold yE
 rw[be,be,jBC,jBC,de]
 refine h.outF (yJ (T.sb.take 1) (T.sa.take i) fun x hx y hy=>?_)
 obtain⟨n,h1,h2⟩:=jD2 hx
 have:n=0:=by omega
 subst this
 exact cj (T.first y (bU hy) x h2)
end
section
variable {prog:Program}{w:World}{A:Around}{E:Value->Shared->Prop}{s:Shared} [LtOk prog w A s]
theorem jJ0 {st:SortSt}{a:Array Keyed}{i len hint:Nat}{p:Keyed}{Q:Option Nat->SortSt->Prop}(hk:kindOf st=Od.kd)(hp:IsI p)(ha:AllI a.toList)
  (sa:∀ n m x y,i<=n->n<=m->m<i+len->a[n]?=some x->a[m]?=some y->LE x y) (hh:hint<len) (hl:i+len<=a.size)
  (h:∀ k,k<=len->(∀ n x,i<=n->n<i+k->a[n]?=some x->LE x p)->(∀ n x,i+k<=n->n<i+len->a[n]?=some x->key p<key x)->Q (some k) st):
  wpS (model prog w) A E s (jBQ false p a i len hint) Q st:=by
 refine jB5 hk hp (fun n hn=>?_) hh (fun n=>match a[i+n]? with | some x=>!decide (key p<key x) | none=>false) (fun n x hn hx=>?_) (fun n m hnm hm hb=>?_) fun k hk1 hk2 hk3=>h k (by omega) (fun n x h1 h2 h3=>?_) fun n x h1 h2 h3=>?_
 ·obtain⟨q,q1,q2⟩:=qA (a:=a) (i:=i+n) (by omega)
  exact⟨q,q1,ha q (aI q2)⟩
 ·rw[hx,ah ai]
 ·obtain⟨x,x1,x2⟩:=qA (a:=a) (i:=i+n) (by omega)
  obtain⟨y,y1,y2⟩:=qA (a:=a) (i:=i+m) (by omega)
  rw[y1] at hb
  rw[x1]
  have:=sa (i+n) (i+m) x y (by omega) (by omega) (by omega) x1 y1
  have hb:¬ key p<key y:=by simpa using hb
  show (!decide (key p<key x))=true
  rw[fm,dR]
  have:key x<=key y:=this
  omega
 ·have:=hk2 (n - i) (by omega)
  rw[show i+(n - i)=n by omega,h3] at this
  have this:¬ key p<key x:=by simpa using this
  show key x<=key p
  omega
 ·have:=hk3 (n - i) (by omega) (by omega)
  rw[show i+(n - i)=n by omega,h3] at this
  simpa using this
theorem jJ1 {st:SortSt}{a:Array Keyed}{i len hint:Nat}{p:Keyed}{Q:Option Nat->SortSt->Prop}(hk:kindOf st=Od.kd)(hp:IsI p)(ha:AllI a.toList)
  (sa:∀ n m x y,i<=n->n<=m->m<i+len->a[n]?=some x->a[m]?=some y->LE x y) (hh:hint<len) (hl:i+len<=a.size)
  (h:∀ k,k<=len->(∀ n x,i<=n->n<i+k->a[n]?=some x->key x<key p)->(∀ n x,i+k<=n->n<i+len->a[n]?=some x->LE p x)->Q (some k) st):
  wpS (model prog w) A E s (jBQ true p a i len hint) Q st:=by
 refine jB5 hk hp (fun n hn=>?_) hh (fun n=>match a[i+n]? with | some x=>decide (key x<key p) | none=>false) (fun n x hn hx=>?_) (fun n m hnm hm hb=>?_) fun k hk1 hk2 hk3=>h k (by omega) (fun n x h1 h2 h3=>?_) fun n x h1 h2 h3=>?_
 ·obtain⟨q,q1,q2⟩:=qA (a:=a) (i:=i+n) (by omega)
  exact⟨q,q1,ha q (aI q2)⟩
 ·rw[hx,aj rfl]
 ·obtain⟨x,x1,x2⟩:=qA (a:=a) (i:=i+n) (by omega)
  obtain⟨y,y1,y2⟩:=qA (a:=a) (i:=i+m) (by omega)
  rw[y1] at hb
  rw[x1]
  have:=sa (i+n) (i+m) x y (by omega) (by omega) (by omega) x1 y1
  have hb:key y<key p:=aK hb
  show decide (key x<key p)=true
  rw[br]
  have:key x<=key y:=this
  omega
 ·have:=hk2 (n - i) (by omega)
  rw[show i+(n - i)=n by omega,h3] at this
  exact aK this
 ·have:=hk3 (n - i) (by omega) (by omega)
  rw[show i+(n - i)=n by omega,h3] at this
  have this:¬ key x<key p:=eZ this
  show key p<=key x
  omega
end
section
variable {prog:Program}{w:World}{A:Around}{E:Value->Shared->Prop}{s:Shared} [LtOk prog w A s]
structure HiI (a b:Array Keyed)(st:SortSt)(out:Array Keyed)(na nb:Nat)(st':SortSt):Prop where
 m:MH a b out na nb
 i:0<na
 ia:na<=a.size
 j:1<nb
 jb:nb<=b.size
 s:SG st st'
theorem whole {a:Array Keyed}(s:Srt a.toList){len:Nat} :∀ n m x y,0<=n->n<=m->m<0+len->a[n]?=some x->a[m]?=some y->LE x y:=fun n m x y _ h _ hx hy=>jE7 s (at_list.mp hx) (at_list.mp hy) h
theorem jGX {a b:Array Keyed}{st:SortSt}{Q:Array Keyed->SortSt->Prop}(hk:kindOf st=Od.kd)(T:Two a b)(h:∀ r st',yE a b r->SG st st'->Q r st'):wpS (model prog w) A E s (jF6 a b) Q st:=by
 rw[mergeHiB.2]
 delta mergeHiB
 dsimp only
 simp only [elP,ltP,jHL,jKJ]
 have na:=T.na
 have nb:=T.nb
 refine aA (gS (cU ⟨rfl,?_⟩))
 obtain⟨p0,hp0,ip0⟩:=T.atA (i:=a.size - 1) (by omega)
 refine aA (jQ hp0 ?_)
 have M0:MH a b #[p0] (a.size - 1) b.size:=by
  have z:MH a b #[] a.size b.size:=⟨by
   rw[show a.toList.take a.size=a.toList from bV (by simp),show b.toList.take b.size=b.toList from bV (by simp)]
   show ((a.toList++b.toList)++([]:List Keyed)).Perm _
   rw[aV],List.Pairwise.nil,fun x hx=>by cases hx⟩
  have:=MH.pushA T z (by omega) hp0 fun y hy=>cj (T.last y (bU hy) p0 (at_list.mp hp0))
  exact this
 by_cases e1:a.size - 1=0
 ·rw[aj (bp e1)]
  rw[e1] at M0 ⊢
  exact aG (h _ _ (MH.doneA T M0) (SG.refl _))
 rw[ah (bn e1)]
 by_cases e2:b.size=1
 ·rw[aj (bp e2)]
  rw[e2] at M0 ⊢
  exact aG (h _ _ (MH.doneF T M0) (SG.refl _))
 rw[ah (bn e2)]
 refine aA (gk ?_)
 refine aA (db (bK (I:=fun x c st'=>∃ out na nb mg,c=(none,na,nb,out,mg)/\HiI a b st out na nb st'/\x+1<=a.size - na+(b.size - nb))
  (Q:=fun c st'=>∃ r,c.1=some r/\yE a b r/\SG st st') ?step ?fin ⟨_,_,_,_,rfl,⟨M0,by omega,by omega,by omega,by omega,SG.refl _⟩,by omega⟩) ?post)
 case post=>
  rintro ⟨r0,c⟩ st' ⟨r,hr,d,g⟩
  have hr:r0=some r:=hr
  subst hr
  exact aG (h r st' d g)
 case fin=>
  rintro c st' ⟨out,na,nb,mg,rfl,I0,hx⟩
  have:=I0.i
  have:=I0.j
  omega
 case step=>
  rintro x c st1 _ hx ⟨out,na,nb,mg,rfl,I0,hxx⟩
  dsimp only
  refine aA (db (bK (I:=fun y c st'=>∃ out' na' nb' ac bc,c=(none,na',nb',out',ac,bc)/\HiI a b st out' na' nb' st'/\na'+nb'<=na+nb/\(y=0\/na'+nb'<na+nb))
   (Q:=fun c st'=>(∃ r,c.1=some r/\yE a b r/\SG st st')\/∃ out' na' nb' ac bc,c=(none,na',nb',out',ac,bc)/\HiI a b st out' na' nb' st'/\na'+nb'<na+nb) ?step1 ?fin1 ⟨_,_,_,_,_,rfl,I0,by omega, .inl rfl⟩) ?post1)
  case fin1=>
   rintro c st' ⟨out',na',nb',ac,bc,rfl,I1,h1,h2⟩
   exact .inr ⟨_,_,_,_,_,rfl,I1,by omega⟩
  case step1=>
   rintro y c st2 _ hy ⟨out',na',nb',ac,bc,rfl,I1,h1,h2⟩
   dsimp only
   have i0:=I1.i
   have i1:=I1.ia
   have j0:=I1.j
   have j1:=I1.jb
   obtain⟨pb,hpb,ipb⟩:=T.atB (i:=nb' - 1) (by omega)
   obtain⟨pa,hpa,ipa⟩:=T.atA (i:=na' - 1) (by omega)
   refine aA (jQ hpb (aA (jQ hpa (aA (jFP (I1.s.k.trans hk) ipb ipa ?_)))))
   dsimp only
   by_cases hlt:key pb<key pa
   ·rw[aw hlt,aj rfl]
    refine aA (jQ hpa ?_)
    have M2:=MH.pushA T I1.m i0 hpa (jD0 T.sb hpb (cj hlt))
    by_cases f1:na' - 1=0
    ·rw[aj (bp f1)]
     rw[f1] at M2 ⊢
     exact aG (.inl ⟨_,rfl,MH.doneA T M2,I1.s⟩)
    rw[ah (bn f1)]
    split
    ·exact aG (.inr ⟨_,_,_,_,_,rfl,⟨M2,by omega,by omega,j0,j1,I1.s⟩,by omega⟩)
    ·exact aG ⟨_,_,_,_,_,rfl,⟨M2,by omega,by omega,j0,j1,I1.s⟩,by omega, .inr (by omega)⟩
   ·rw[aP hlt,ah ai]
    refine aA (jQ hpb ?_)
    have M2:=MH.pushB T I1.m (by omega) hpb (jD0 T.sa hpa (by show key pa<=key pb; omega))
    by_cases f1:nb' - 1=1
    ·rw[aj (bp f1)]
     rw[f1] at M2 ⊢
     exact aG (.inl ⟨_,rfl,MH.doneF T M2,I1.s⟩)
    rw[ah (bn f1)]
    split
    ·exact aG (.inr ⟨_,_,_,_,_,rfl,⟨M2,i0,i1,by omega,by omega,I1.s⟩,by omega⟩)
    ·exact aG ⟨_,_,_,_,_,rfl,⟨M2,i0,i1,by omega,by omega,I1.s⟩,by omega, .inr (by omega)⟩
  case post1=>
   rintro c st2 (⟨r,hr,d,g⟩ | ⟨out1,na1,nb1,ac,bc,rfl,I1,h1⟩)
   ·obtain⟨r0,c⟩:=c
    have hr:r0=some r:=hr
    subst hr
    exact aG ⟨r,rfl,d,g⟩
   dsimp only
   refine aA (gS (cU ⟨rfl,?_⟩))
   refine aA (db (bK (I:=fun y c st'=>∃ out' na' nb' mg' ac bc,c=(none,na',nb',out',mg',ac,bc)/\HiI a b st out' na' nb' st'/\na'+nb'<na+nb)
    (Q:=fun c st'=>(∃ r,c.1=some r/\yE a b r/\SG st st')\/∃ out' na' nb' mg' ac bc,c=(none,na',nb',out',mg',ac,bc)/\HiI a b st out' na' nb' st'/\na'+nb'<na+nb) ?step2 ?fin2 ⟨_,_,_,_,_,_,rfl,I1,h1⟩) ?post2)
   case fin2=>
    rintro c st' ⟨out',na',nb',mg',ac,bc,rfl,I2,h2⟩
    exact .inr ⟨_,_,_,_,_,_,rfl,I2,h2⟩
   case post2=>
    have q1:=I0.ia
    have q2:=I0.jb
    rintro c st3 (⟨r,hr,d,g⟩ | ⟨out2,na2,nb2,mg2,ac,bc,rfl,I2,h2⟩)
    ·obtain⟨r0,c⟩:=c
     have hr:r0=some r:=hr
     subst hr
     exact aG ⟨r,rfl,d,g⟩
    dsimp only
    rw[jA4]
    have q3:=I2.ia
    have q4:=I2.jb
    exact aA (dX (aG ⟨_,_,_,_,rfl,⟨I2.m,I2.i,I2.ia,I2.j,I2.jb,I2.s.gal _⟩,by omega⟩))
   case step2=>
    clear I0 I1
    rename_i na00 nb00
    generalize hbd:na+nb=bd
    clear hxx h1
    rintro y c st2 _ hy ⟨out,na,nb,mg',ac,bc,rfl,I0,h2⟩
    dsimp only
    obtain⟨pb,hpb,ipb⟩:=T.atB (i:=nb - 1) (by have:=I0.j; have:=I0.jb; omega)
    by_cases hg:mg'>1
    case' pos=>
     rw[aj hg]
     generalize hgg:mg' - 1=gg
    case' neg=>
     rw[ah hg]
     generalize hgg:mg'=gg
    all_goals
     rw[jA4]
     refine aA (dX ?_)
     have G1:=I0.s.gal gg
     have na0:=I0.i
     have na1:=I0.ia
     have nb0:=I0.j
     have nb1:=I0.jb
     refine aA (jQ hpb ?_)
     refine aA (jJ0 (G1.k.trans hk) ipb T.ia (whole T.sa) (by omega) (by omega) fun k1 g1 g2 g3=>?_)
     dsimp only
     have M1:=MH.appA T I0.m g1 (fun n x h1 h2 h3=>jD0 T.sb hpb (cj (g3 n x (by omega) (by omega) (at_list.mpr h3))))
     have hle:∀ y∈a.toList.take k1,LE y pb:=fun y hy=>by
      obtain⟨n,h1,h2⟩:=jD2 hy
      exact g2 n y (by omega) (by omega) (at_list.mpr h2)
     by_cases e0:na - k1>0
     case' pos=>
      rw[aj e0]
      by_cases f1:k1=0
      ·rw[aj (bp f1)]
       rw[f1] at M1 ⊢
       exact aG (.inl ⟨_,rfl,MH.doneA T M1,G1⟩)
      rw[ah (bn f1)]
      obtain⟨pa,hpa,ipa⟩:=T.atA (i:=k1 - 1) (by omega)
      have hz:0<k1:=by omega
      generalize hiz:k1=iz at*
     case' neg=>
      rw[ah e0]
      have e0':k1=na:=by omega
      subst e0'
      have M1:=I0.m
      obtain⟨pa,hpa,ipa⟩:=T.atA (i:=k1 - 1) (by omega)
      have hz:0<k1:=by omega
      generalize hiz:k1=iz at*
     all_goals
      refine aA (jQ hpb ?_)
      have M2:=MH.pushB T M1 (by omega) hpb hle
      by_cases e1:nb - 1=1
      ·rw[aj (bp e1)]
       rw[e1] at M2 ⊢
       exact aG (.inl ⟨_,rfl,MH.doneF T M2,G1⟩)
      rw[ah (bn e1)]
      refine aA (jQ hpa ?_)
      refine aA (jJ1 (G1.k.trans hk) ipa T.ib (whole T.sb) (by omega) (by omega) fun k2 l1 l2 l3=>?_)
      dsimp only
      have M3:=MH.appB T M2 l1 (fun n x h1 h2 h3=>jD0 T.sa hpa (l3 n x (by omega) (by omega) (at_list.mpr h3)))
      have fin3:∀ y∈b.toList.take k2,LE y pa:=fun y hy=>by
       obtain⟨n,h1,h2⟩:=jD2 hy
       exact cj (l2 n y (by omega) (by omega) (at_list.mpr h2))
      by_cases e2:nb - 1 - k2>0
      ·rw[aj e2]
       by_cases e3:k2=1
       ·rw[aj (bp e3)]
        rw[e3] at M3 ⊢
        exact aG (.inl ⟨_,rfl,MH.doneF T M3,G1⟩)
       rw[ah (bn e3)]
       by_cases e5:k2=0
       ·rw[aj (bp e5)]
        rw[e5] at M3 ⊢
        exact aG (.inl ⟨_,rfl,MH.doneB T M3,G1⟩)
       rw[ah (bn e5)]
       refine aA (jQ hpa ?_)
       have M4:=MH.pushA T M3 hz hpa fin3
       by_cases e4:iz - 1=0
       ·rw[aj (bp e4)]
        rw[e4] at M4 ⊢
        exact aG (.inl ⟨_,rfl,MH.doneA T M4,G1⟩)
       rw[ah (bn e4)]
       split
       ·exact aG (.inr ⟨_,_,_,_,_,_,rfl,⟨M4,by omega,by omega,by omega,by omega,G1⟩,by omega⟩)
       ·exact aG ⟨_,_,_,_,_,_,rfl,⟨M4,by omega,by omega,by omega,by omega,G1⟩,by omega⟩
      ·rw[ah e2]
       have e0:k2=nb - 1:=by omega
       subst e0
       refine aA (jQ hpa ?_)
       have M4:=MH.pushA T M2 hz hpa fin3
       by_cases e4:iz - 1=0
       ·rw[aj (bp e4)]
        rw[e4] at M4 ⊢
        exact aG (.inl ⟨_,rfl,MH.doneA T M4,G1⟩)
       rw[ah (bn e4)]
       split
       ·exact aG (.inr ⟨_,_,_,_,_,_,rfl,⟨M4,by omega,by omega,by omega,by omega,G1⟩,by omega⟩)
       ·exact aG ⟨_,_,_,_,_,_,rfl,⟨M4,by omega,by omega,by omega,by omega,G1⟩,by omega⟩
end
def KI (xs:Array Keyed)(i:Nat):Int:=match xs[i]? with
 | some p=>key p
 | none=>0
def STo (xs:Array Keyed)(k:Nat):Prop:=∀ i j,i<=j->j<k->KI xs i<=KI xs j
structure SB (a₀:Array Keyed)(st:SortSt):Prop where
 perm:(arrOf st).Perm a₀
 kind:kindOf st=Od.kd
 failed:failedOf st=none
 pend:pendingOf st=#[]
theorem SB.size {a₀:Array Keyed}{st:SortSt}(h:SB a₀ st):(arrOf st).size=a₀.size:=h.perm.size_eq
theorem jBE {xs ys:Array Keyed}{i j:Nat}(h:xs[i]?=ys[j]?):KI xs i=KI ys j:=by unfold KI; rw[h]
theorem jMS {xs:Array Keyed}{src d:Nat}(hs:src<xs.size)(hd:d<=src)(k:Nat):
  KI (bubble xs src d) k=if k=src - d then KI xs src else if src - d<k/\k<=src then KI xs (k - 1) else KI xs k:=by
 have e:=getElem?_bubble hs d hd k
 by_cases h1:k=src - d
 ·rw[aj h1] at e ⊢; exact jBE e
 ·rw[ah h1] at e ⊢
  by_cases h2:src - d<k/\k<=src
  ·rw[aj h2] at e ⊢; exact jBE e
  ·rw[ah h2] at e ⊢; exact jBE e
theorem jCF {xs:Array Keyed}{i j:Nat}(hj:j<=xs.size)(k:Nat):
  KI (mirror xs i j ((j - i) / 2)) k=if i<=k/\k<j then KI xs (i+j - 1 - k) else KI xs k:=by
 have e:=getElem?_mirror_all (i:=i) hj k
 by_cases h1:i<=k/\k<j
 ·rw[aj h1] at e
  rw[aj h1]
  exact jBE e
 ·rw[ah h1] at e
  rw[ah h1]
  exact jBE e
theorem jA3 {xs:Array Keyed}{i j:Nat}(hj:j<=xs.size)(heq:∀ k,i<=k->k<j->KI xs k=KI xs (j - 1))(k:Nat):
  KI (mirror xs i j ((j - i) / 2)) k=KI xs k:=by
 rw[jCF hj]
 split
 ·rename_i h
  rw[heq _ (by omega) (by omega),heq k h.1 h.2]
 ·rfl
def Up (xs:Array Keyed)(lo n:Nat):Prop:=∀ i j,lo<=i->i<=j->j<lo+n->KI xs i<=KI xs j
def Dn (xs:Array Keyed)(lo n:Nat):Prop:=∀ i j,lo<=i->i<=j->j<lo+n->KI xs j<=KI xs i
structure BB (a₀:Array Keyed)(p:Array (Nat×Nat×Nat))(F:Nat->Int)(lo:Nat)(st:SortSt):Prop where
 perm:(arrOf st).Perm a₀
 kind:kindOf st=Od.kd
 failed:failedOf st=none
 pend:pendingOf st=p
 low:∀ k,k<lo->KI (arrOf st) k=F k
theorem jOO {a₀ xs:Array Keyed}(hp:xs.Perm a₀)(h0:AllI a₀.toList){i:Nat}(hi:i<a₀.size):∃ q,xs[i]?=some q/\IsI q/\key q=KI xs i:=by
 have hi':i<xs.size:=by rw[hp.size_eq]; exact hi
 have hm:xs[i]∈a₀.toList:=(cL.mp hp).mem_iff.mp (by simp)
 have e:xs[i]?=some xs[i]:=i9 _ i hi'
 exact⟨xs[i],e,h0 _ hm,by unfold KI; rw[e]⟩
section
variable {prog:Program}{w:World}{A:Around}{E:Value->Shared->Prop}{s:Shared} [LtOk prog w A s]{a₀:Array Keyed}{p:Array (Nat×Nat×Nat)}{F:Nat->Int}{lo:Nat}
theorem BB.sz {st:SortSt}(h:BB a₀ p F lo st):(arrOf st).size=a₀.size:=h.perm.size_eq
theorem BB.arr {st:SortSt}(h:BB a₀ p F lo st){xs:Array Keyed}(hp:xs.Perm (arrOf st))(hl:∀ k,k<lo->KI xs k=KI (arrOf st) k):BB a₀ p F lo (setArr st xs):=
 ⟨hp.trans h.perm,h.kind,h.failed,h.pend,fun k hk=>(hl k hk).trans (h.low k hk)⟩
theorem jCG {st:SortSt}{i j:Nat}{Q:Option Bool->SortSt->Prop}(hB:BB a₀ p F lo st)(h0:AllI a₀.toList)(hi:i<a₀.size)(hj:j<a₀.size)
  (h:Q (some (decide (KI (arrOf st) i<KI (arrOf st) j))) st):wpS (model prog w) A E s (ltAt' i j) Q st:=by
 obtain⟨x,e1,i1,k1⟩:=jOO hB.perm h0 hi
 obtain⟨y,e2,i2,k2⟩:=jOO hB.perm h0 hj
 rw[ltAt'_eq]
 refine aA (gk ?_)
 show wpS _ _ _ _ (do let x <- elem' (arrOf st) i; let y <- elem' (arrOf st) j; lt' x y) Q st
 rw[elem'_eq,elem'_eq,e1,e2]
 refine aA (aG (aA (aG (jFP hB.kind i1 i2 ?_))))
 rw[k1,k2]
 exact h
theorem Up.one {xs:Array Keyed} :Up xs lo 1:=fun i j h1 h2 h3=>by
 have:i=j:=by omega
 rw[this]
 exact dc _
theorem Dn.one {xs:Array Keyed} :Dn xs lo 1:=fun i j h1 h2 h3=>by
 have:i=j:=by omega
 rw[this]
 exact dc _
theorem Up.more {xs:Array Keyed}{n:Nat}(h:Up xs lo n)(hn:0<n)(hc:KI xs (lo+n - 1)<=KI xs (lo+n)):Up xs lo (n+1):=fun i j h1 h2 h3=>by
 by_cases e:j<lo+n
 ·exact h i j h1 h2 e
 ·have ej:j=lo+n:=by omega
  subst ej
  by_cases ei:i=lo+n
  ·rw[ei]
   exact dc _
  ·exact cK (h i (lo+n - 1) h1 (by omega) (by omega)) hc
theorem Dn.more {xs:Array Keyed}{n:Nat}(h:Dn xs lo n)(hn:0<n)(hc:KI xs (lo+n)<=KI xs (lo+n - 1)):Dn xs lo (n+1):=fun i j h1 h2 h3=>by
 by_cases e:j<lo+n
 ·exact h i j h1 h2 e
 ·have ej:j=lo+n:=by omega
  subst ej
  by_cases ei:i=lo+n
  ·rw[ei]
   exact dc _
  ·exact cK hc (h i (lo+n - 1) h1 (by omega) (by omega))
theorem Dn.congr {xs ys:Array Keyed}{n:Nat}(h:Dn xs lo n)(e:∀ k,KI ys k=KI xs k):Dn ys lo n:=fun i j h1 h2 h3=>by
 rw[e i,e j]
 exact h i j h1 h2 h3
theorem jER {st:SortSt}{nrem:Nat}{Q:Option Nat->SortSt->Prop}(h0:AllI a₀.toList)(hn:lo+nrem<=a₀.size)(hn1:1<=nrem)(hB:BB a₀ p F lo st)
  (h:∀ m st',BB a₀ p F lo st'->1<=m->m<=nrem->Up (arrOf st') lo m->Q (some m) st'):wpS (model prog w) A E s (countRun' lo nrem) Q st:=by
 rw[countRun'_eq]
 dsimp only
 refine aA (db (bK (I:=fun x c st'=>st'=st/\c=(none,x)/\Up (arrOf st) lo x)
  (Q:=fun c st'=>st'=st/\∃ n,c=(none,n)/\1<=n/\n<=nrem/\Up (arrOf st) lo n/\(n=nrem\/KI (arrOf st) (lo+n)<KI (arrOf st) (lo+n - 1))) ?step ?fin ⟨rfl,rfl,Up.one⟩) ?post)
 case fin=>
  rintro c st' ⟨rfl,rfl,hu⟩
  rw[show max 1 nrem=nrem by omega] at hu ⊢
  exact⟨rfl,nrem,rfl,hn1,ak _,hu, .inl rfl⟩
 case step=>
  rintro x c st' h1 h2 ⟨rfl,rfl,hu⟩
  dsimp only
  refine aA (jCG hB h0 (by omega) (by omega) ?_)
  dsimp only
  by_cases hl:KI (arrOf st') (lo+x)<KI (arrOf st') (lo+x - 1)
  ·rw[aw hl,aj rfl]
   exact aG ⟨rfl,x,rfl,by omega,by omega,hu, .inr hl⟩
  ·rw[aP hl,ah ai]
   exact aG ⟨rfl,rfl,hu.more (by omega) (by omega)⟩
 case post=>
  rintro c st' ⟨rfl,n,rfl,n1,n2,hu,hor⟩
  dsimp only
  by_cases hnn:n=nrem
  ·rw[aj (bp hnn)]
   exact aG (h n st' hB n1 n2 hu)
  rw[ah (bn hnn)]
  have hlt:=hor.resolve_left hnn
  have hz:lo+n<=(arrOf st').size:=by rw[hB.sz]; omega
  by_cases hgt:n>1
  case' pos=>
   rw[aj hgt]
   refine aA (jCG hB h0 (by omega) (by omega) ?_)
   dsimp only
   by_cases hr:KI (arrOf st') lo<KI (arrOf st') (lo+n - 1)
   ·rw[aw hr,aj rfl]
    exact aG (h n st' hB n1 n2 hu)
   rw[aP hr,ah ai]
   have hall:∀ k,lo<=k->k<lo+n->KI (arrOf st') k=KI (arrOf st') (lo+n - 1):=fun k h1 h2=>by
    have a1:=hu lo k (by omega) h1 h2
    have a2:=hu k (lo+n - 1) h1 (by omega) (by omega)
    omega
   refine aA (wpS_reverse ?_)
   have hB1:=hB.arr (xs:=mirror (arrOf st') lo (lo+n) ((lo+n - lo) / 2)) (mirror_perm _ _ _ _) fun k _=>jA3 hz hall k
   have hs0:Dn (arrOf st') lo n:=fun i j h1 h2 h3=>by
    rw[hall i h1 (by omega),hall j (by omega) h3]
    exact dc _
   have hs1:Dn (arrOf (setArr st' (mirror (arrOf st') lo (lo+n) ((lo+n - lo) / 2)))) lo (n+1):=(hs0.more (by omega) (cj hlt)).congr (jA3 hz hall)
   generalize setArr st' (mirror (arrOf st') lo (lo+n) ((lo+n - lo) / 2))=st1 at*
  case' neg=>
   rw[ah hgt]
   have en:n=1:=by omega
   have hB1:=hB
   have hs1:Dn (arrOf st') lo (n+1):=by
    rw[en] at hlt ⊢
    exact Dn.one.more (by omega) (cj hlt)
  all_goals
   refine aA (gS (cU ⟨rfl,?_⟩))
   refine aA (db (bK (I:=fun x c st'=>∃ q,c=(none,x,q)/\BB a₀ p F lo st'/\Dn (arrOf st') lo x/\q+1<=x/\∀ i,lo+x - (q+1)<=i->i<lo+x->KI (arrOf st') i=KI (arrOf st') (lo+x - 1))
    (Q:=fun c st'=>∃ m q,c=(none,m,q)/\1<=m/\m<=nrem/\BB a₀ p F lo st'/\Dn (arrOf st') lo m/\q+1<=m/\∀ i,lo+m - (q+1)<=i->i<lo+m->KI (arrOf st') i=KI (arrOf st') (lo+m - 1)) ?dstep ?dfin ⟨0,rfl,hB1,hs1,by omega,fun i h1 h2=>by congr 1; omega⟩) ?dpost)
   case dfin=>
    rintro c st' ⟨q,rfl,hb,hd,hq,he⟩
    rw[show max (n+1) nrem=nrem by omega] at hd hq he ⊢
    exact⟨nrem,q,rfl,by omega,by omega,hb,hd,hq,he⟩
   case dstep=>
    rintro x c st' h1 h2 ⟨q,rfl,hb,hd,hq,he⟩
    dsimp only
    have hz:lo+x<=(arrOf st').size:=by rw[hb.sz]; omega
    refine aA (jCG hb h0 (by omega) (by omega) ?_)
    dsimp only
    by_cases hl:KI (arrOf st') (lo+x)<KI (arrOf st') (lo+x - 1)
    ·rw[aw hl,aj rfl]
     have d1:=hd.more (by omega) (cj hl)
     by_cases hq0:q>0
     ·rw[aj hq0]
      refine aA (wpS_reverse (aG ⟨0,rfl,hb.arr (mirror_perm _ _ _ _) fun k _=>jA3 hz he k,d1.congr (jA3 hz he),by omega,fun i h1 h2=>by congr 1; omega⟩))
     ·rw[ah hq0]
      exact aG ⟨0,rfl,hb,d1,by omega,fun i h1 h2=>by congr 1; omega⟩
    ·rw[aP hl,ah ai]
     refine aA (jCG hb h0 (by omega) (by omega) ?_)
     dsimp only
     by_cases hg:KI (arrOf st') (lo+x - 1)<KI (arrOf st') (lo+x)
     ·rw[aw hg,aj rfl]
      exact aG ⟨x,q,rfl,by omega,by omega,hb,hd,hq,he⟩
     ·rw[aP hg,ah ai]
      have ex:KI (arrOf st') (lo+x)=KI (arrOf st') (lo+x - 1):=by omega
      refine aG ⟨q+1,rfl,hb,hd.more (by omega) (by omega),by omega,fun i h1 h2=>?_⟩
      rw[show lo+(x+1) - 1=lo+x by omega]
      by_cases hix:i=lo+x
      ·rw[hix]
      ·rw[ex]
       exact he i (by omega) (by omega)
   case dpost=>
    rintro c st2 ⟨m,q,rfl,m1,m2,hB2,hs2,hq,he⟩
    dsimp only
    have hz2:lo+m<=(arrOf st2).size:=by rw[hB2.sz]; omega
    by_cases hq0:q>0
    case' pos=>
     rw[aj hq0]
     refine aA (wpS_reverse ?_)
     have hB3:=hB2.arr (xs:=mirror (arrOf st2) (lo+m - (q+1)) (lo+m) ((lo+m - (lo+m - (q+1))) / 2)) (mirror_perm _ _ _ _) fun k _=>jA3 hz2 he k
     have hs3:Dn (arrOf (setArr st2 (mirror (arrOf st2) (lo+m - (q+1)) (lo+m) ((lo+m - (lo+m - (q+1))) / 2)))) lo m:=hs2.congr (jA3 hz2 he)
     generalize setArr st2 (mirror (arrOf st2) (lo+m - (q+1)) (lo+m) ((lo+m - (lo+m - (q+1))) / 2))=st3 at*
    case' neg=>
     rw[ah hq0]
     have hB3:=hB2
     have hs3:=hs2
     generalize st2=st3 at*
    all_goals
     have hz3:lo+m<=(arrOf st3).size:=by rw[hB3.sz]; omega
     refine aA (wpS_reverse ?_)
     have hB4:=hB3.arr (xs:=mirror (arrOf st3) lo (lo+m) ((lo+m - lo) / 2)) (mirror_perm _ _ _ _) fun k hk=>by
      rw[jCF hz3,ah (by omega)]
     have hU:Up (mirror (arrOf st3) lo (lo+m) ((lo+m - lo) / 2)) lo m:=fun i j h1 h2 h3=>by
      rw[jCF hz3,jCF hz3,aj ⟨h1,by omega⟩,aj ⟨by omega,h3⟩]
      exact hs3 _ _ (by omega) (by omega) (by omega)
     generalize mirror (arrOf st3) lo (lo+m) ((lo+m - lo) / 2)=xs4 at*
     refine aA (db (bK (I:=fun x c st'=>st'=setArr st3 xs4/\c=(none,x)/\Up xs4 lo x)
      (Q:=fun c st'=>st'=setArr st3 xs4/\∃ n,c=(none,n)/\1<=n/\n<=nrem/\Up xs4 lo n) ?tstep ?tfin ⟨rfl,rfl,hU⟩) ?tpost)
     case tfin=>
      rintro c st' ⟨rfl,rfl,hu⟩
      rw[show max m nrem=nrem by omega] at hu ⊢
      exact⟨rfl,nrem,rfl,by omega,by omega,hu⟩
     case tstep=>
      rintro x c st' h1 h2 ⟨rfl,rfl,hu⟩
      dsimp only
      refine aA (jCG hB4 h0 (by omega) (by omega) ?_)
      dsimp only
      by_cases hl:KI xs4 (lo+x)<KI xs4 (lo+x - 1)
      ·rw[aw hl,aj rfl]
       exact aG ⟨rfl,x,rfl,by omega,by omega,hu⟩
      ·rw[aP hl,ah ai]
       exact aG ⟨rfl,rfl,hu.more (by omega) (by omega)⟩
     case tpost=>
      rintro c st' ⟨rfl,n,rfl,n1,n2,hu⟩
      exact aG (h n _ hB4 n1 n2 hu)
theorem jD9 {st:SortSt}{n ok:Nat}{Q:Bool->SortSt->Prop}(h0:AllI a₀.toList)(hn:lo+n<=a₀.size)(hok:ok<=n)(hB:BB a₀ p F lo st)(hs:Up (arrOf st) lo ok)
  (h:∀ st',BB a₀ p F lo st'->Up (arrOf st') lo n->Q true st'):wpS (model prog w) A E s (binarySort' lo n ok) Q st:=by
 rw[binarySort'_eq]
 dsimp only
 refine aA (db (bK (I:=fun k c st'=>c=(none,())/\BB a₀ p F lo st'/\Up (arrOf st') lo (min k n))
  (Q:=fun c st'=>c=(none,())/\BB a₀ p F lo st'/\Up (arrOf st') lo n) ?step ?fin ⟨rfl,hB,?init⟩) ?post)
 case post=>
  rintro c st' ⟨rfl,hb,hu⟩
  exact aG (h st' hb hu)
 case init=>
  by_cases e:ok=0
  ·intro i j h1 h2 h3
   have:i=j:=by omega
   rw[this]
   exact dc _
  ·exact fun i j h1 h2 h3=>hs i j h1 h2 (by omega)
 case fin=>
  rintro c st' ⟨hc,hb,hu⟩
  rw[show min (max (max ok 1) n) n=n by omega] at hu
  exact⟨hc,hb,hu⟩
 case step=>
  rintro k c st1 hk1 hk2 ⟨rfl,hb,hu⟩
  rw[show min k n=k by omega] at hu
  refine aA (db (bK (I:=fun x c st'=>st'=st1/\∃ l r,c=(none,l,r)/\l<=r/\r<=k/\r - l<=k - x/\
    (∀ i,i<l->KI (arrOf st1) (lo+i)<=KI (arrOf st1) (lo+k))/\∀ i,r<=i->i<k->KI (arrOf st1) (lo+k)<KI (arrOf st1) (lo+i))
   (Q:=fun c st'=>st'=st1/\∃ l r,c=(none,l,r)/\l<=k/\
    (∀ i,i<l->KI (arrOf st1) (lo+i)<=KI (arrOf st1) (lo+k))/\∀ i,l<=i->i<k->KI (arrOf st1) (lo+k)<KI (arrOf st1) (lo+i)) ?step1 ?fin1 ⟨rfl,0,k,rfl,by omega,by omega,by omega,fun i hi=>by omega,fun i h1 h2=>by omega⟩) ?post1)
  case fin1=>
   rintro c st' ⟨rfl,l,r,rfl,b1,b2,b3,b4,b5⟩
   have:l=r:=by omega
   subst this
   exact⟨rfl,l,l,rfl,b2,b4,b5⟩
  case step1=>
   rintro x c st' _ hx ⟨rfl,l,r,rfl,b1,b2,b3,b4,b5⟩
   dsimp only
   by_cases hge:l ≥ r
   ·rw[aj hge]
    have:l=r:=by omega
    subst this
    exact aG ⟨rfl,l,l,rfl,b2,b4,b5⟩
   rw[ah hge]
   refine aA (jCG hb h0 (by omega) (by omega) ?_)
   dsimp only
   by_cases hl:KI (arrOf st') (lo+k)<KI (arrOf st') (lo+(l+r) / 2)
   ·rw[aw hl,aj rfl]
    exact aG ⟨rfl,l,(l+r) / 2,rfl,by omega,by omega,by omega,b4,fun i h1 h2=>Int.lt_of_lt_of_le hl (hu _ _ (by omega) (by omega) (by omega))⟩
   ·rw[aP hl,ah ai]
    exact aG ⟨rfl,(l+r) / 2+1,r,rfl,by omega,by omega,by omega,fun i h1=>cK (hu (lo+i) (lo+(l+r) / 2) (by omega) (by omega) (by omega)) (Int.not_lt.mp hl),b5⟩
  case post1=>
   rintro c st' ⟨rfl,l,r,rfl,hlk,b4,b5⟩
   dsimp only
   rw[moveDown'_eq]
   have hks:lo+k<(arrOf st').size:=by rw[hb.sz]; omega
   have kb:∀ x,KI (bubble (arrOf st') (lo+k) (lo+k - (lo+l))) x=if x=lo+l then KI (arrOf st') (lo+k) else if lo+l<x/\x<=lo+k then KI (arrOf st') (x - 1) else KI (arrOf st') x:=fun x=>by
    have:=jMS hks (d:=lo+k - (lo+l)) (by omega) x
    rw[show lo+k - (lo+k - (lo+l))=lo+l by omega] at this
    exact this
   refine aA (dX (aG ⟨rfl,hb.arr (bubble_perm _ _ _) fun x hx=>?_,?_⟩))
   ·rw[kb,ah (by omega),ah (by omega)]
   rw[show min (k+1) n=k+1 by omega]
   intro i j h1 h2 h3
   show KI (bubble _ _ _) i<=KI (bubble _ _ _) j
   rw[kb,kb]
   have lo1:∀ i,lo<=i->i<lo+l->KI (arrOf st') i<=KI (arrOf st') (lo+k):=fun i h1 h2=>by
    have:=b4 (i - lo) (by omega)
    rw[show lo+(i - lo)=i by omega] at this
    exact this
   have hi1:∀ i,lo+l<=i->i<lo+k->KI (arrOf st') (lo+k)<=KI (arrOf st') i:=fun i h1 h2=>by
    have:=b5 (i - lo) (by omega) (by omega)
    rw[show lo+(i - lo)=i by omega] at this
    exact cj this
   repeat' split
   all_goals first
    | (exfalso; omega)
    | exact dc _
    | exact lo1 _ (by omega) (by omega)
    | exact hi1 _ (by omega) (by omega)
    | exact hu _ _ (by omega) (by omega) (by omega)
end
def mergeAtB: { g:Nat->StateT SortSt Sem Bool // mergeAt'=g} :=⟨fun _=>bind _ _,rfl⟩
theorem yD {xs:Array Keyed}{i:Nat}{p:Keyed}(h:xs[i]?=some p):KI xs i=key p:=by
 unfold KI
 rw[h]
theorem jID (s1:Nat):∀ (l:List Keyed) (j0:Nat) (a:Array Keyed) (P M S:List Keyed),P.length=s1+j0->M.length=l.length->a.toList=P++(M++S)->
  ((l.zipIdx j0).foldl (fun (a:Array Keyed) (x:Keyed×Nat)=>a.setIfInBounds (s1+x.2) x.1) a).toList=P++(l++S)
 | [],j0,a,P,M,S,h1,h2,h3=>by
  rw[gw h2] at h3
  exact h3
 | q::l,j0,a,P,[],S,h1,h2,h3=>by cases h2
 | q::l,j0,a,P,m::M,S,h1,h2,h3=>by
  rw[List.zipIdx_cons,List.foldl_cons]
  have:=jID s1 l (j0+1) (a.setIfInBounds (s1+j0) q) (P++[q]) M S (by rw[aC,h1]; rfl) (Nat.succ.inj h2) (by
   rw[gU,h3,<- h1,iB _ _ (ak _),io,aU]
   rfl)
  rw[this,aU]
  rfl
theorem jQF {P m1 m2 S:List Keyed}(e:m1.length=m2.length){k:Nat}(h:k<P.length\/P.length+m1.length<=k):(P++(m1++S))[k]?=(P++(m2++S))[k]?:=by
 rcases h with h | h
 ·rw[bH h,bH h]
 ·rw[ba (by omega),ba (by omega),ba (by omega),ba (by omega),e]
theorem jSE {P m S:List Keyed}{k:Nat}(h1:P.length<=k)(h2:k<P.length+m.length):(P++(m++S))[k]?=m[k - P.length]?:=by
 rw[ba h1,bH (by omega)]
theorem jJ3 {xs:Array Keyed}{i j t:Nat}(h:t<j - i):(xs.extract i j).toList[t]?=xs[i+t]?:=by
 rw[jAI,bY h,gR,bC]
theorem jCM {xs:Array Keyed}{i j:Nat}{p:Keyed}(h:p∈(xs.extract i j).toList):∃ t,i<=t/\t<j/\xs[t]?=some p:=by
 rw[jAI] at h
 obtain⟨t,h1,h2,h3⟩:=jA5 h
 exact⟨t,h1,by omega,at_list.mpr h3⟩
theorem jDX {xs:Array Keyed}{i j:Nat}(h:j<=xs.size):(xs.extract i j).size=j - i:=by
 rw[Array.size_extract]
 omega
theorem jM8 {xs:Array Keyed}{i j:Nat}(h:∀ n m x y,i<=n->n<=m->m<j->xs[n]?=some x->xs[m]?=some y->LE x y):Srt (xs.extract i j).toList:=by
 refine cP.mpr fun a b ha hb hab=>?_
 have hl:(xs.extract i j).toList.length<=j - i:=by rw[jAI,bD]; omega
 have e1:=jJ3 (xs:=xs) (i:=i) (j:=j) (t:=a) (by omega)
 have e2:=jJ3 (xs:=xs) (i:=i) (j:=j) (t:=b) (by omega)
 rw[aB ha] at e1
 rw[aB hb] at e2
 exact h (i+a) (i+b) _ _ (by omega) (by omega) (by omega) e1.symm e2.symm
theorem KI_at {xs ys:Array Keyed}{i j:Nat}(h:xs.toList[i]?=ys.toList[j]?):KI xs i=KI ys j:=jBE (by rw[<- bC,<- bC]; exact h)
theorem jJM {xs r R:Array Keyed}{sa na sb nb k1 k2:Nat}(hsb:sb=sa+na)(hk1:k1<na)(hk2:0<k2)(hk2':k2<=nb)(hz:sb+nb<=xs.size)
  (u1:Up xs sa na) (u2:Up xs sb nb) (g2:∀ t,sa<=t->t<sa+k1->KI xs t<=KI xs sb) (l3:∀ t,sb+k2<=t->t<sb+nb->KI xs (sb - 1)<=KI xs t)
  (D:yE (xs.extract (sa+k1) sb) (xs.extract sb (sb+k2)) r)
  (hR:R.toList=xs.toList.take (sa+k1)++(r.toList++xs.toList.drop (sb+k2))):
  R.Perm xs/\(∀ k,k<sa\/sa+(na+nb)<=k->KI R k=KI xs k)/\Up R sa (na+nb):=by
 have lr:r.toList.length=sb+k2 - (sa+k1):=by
  rw[D.1.length_eq,aC,aO,aO,jDX (by omega),jDX (by omega)]
  omega
 have lP:(xs.toList.take (sa+k1)).length=sa+k1:=by rw[bD,aO]; omega
 have hX:xs.toList=xs.toList.take (sa+k1)++(((xs.extract (sa+k1) sb).toList++(xs.extract sb (sb+k2)).toList)++xs.toList.drop (sb+k2)):=by
  have a1:=bi (sa+k1) xs.toList
  have a2:=bi (sb - (sa+k1)) (xs.toList.drop (sa+k1))
  have a3:=bi k2 (xs.toList.drop sb)
  rw[gQ] at a2 a3
  rw[show sa+k1+(sb - (sa+k1))=sb by omega] at a2
  rw[jAI,jAI,cb,aU,a3,a2,a1]
 have lm:((xs.extract (sa+k1) sb).toList++(xs.extract sb (sb+k2)).toList).length=r.toList.length:=D.1.length_eq.symm
 have out:∀ k,k<sa+k1\/sb+k2<=k->KI R k=KI xs k:=fun k hk=>KI_at (by
  have:=jQF (P:=xs.toList.take (sa+k1)) (S:=xs.toList.drop (sb+k2)) lm.symm (k:=k) (by rw[lP,lr]; omega)
  exact(bP (·[k]?) hR).trans (this.trans (bP (·[k]?) hX).symm))
 have inn:∀ k,sa+k1<=k->k<sb+k2->R.toList[k]?=r.toList[k - (sa+k1)]?:=fun k h1 h2=>by
  rw[hR,jSE (by rw[lP]; exact h1) (by rw[lP,lr]; omega),lP]
 have mem:∀ k,sa+k1<=k->k<sb+k2->∃ t,sa+k1<=t/\t<sb+k2/\KI R k=KI xs t:=fun k h1 h2=>by
  have hk:k - (sa+k1)<r.toList.length:=by omega
  have e:=inn k h1 h2
  rw[aB hk] at e
  have hm:=D.1.mem_iff.mp (cV hk)
  rcases aN.mp hm with q | q
  ·obtain⟨t,t1,t2,t3⟩:=jCM q
   exact⟨t,t1,by omega,(yD (at_list.mpr e)).trans (yD t3).symm⟩
  ·obtain⟨t,t1,t2,t3⟩:=jCM q
   exact⟨t,by omega,t2,(yD (at_list.mpr e)).trans (yD t3).symm⟩
 have srt:∀ i j,sa+k1<=i->i<=j->j<sb+k2->KI R i<=KI R j:=fun i j h1 h2 h3=>by
  have hi:i - (sa+k1)<r.toList.length:=by omega
  have hj:j - (sa+k1)<r.toList.length:=by omega
  have e1:=inn i h1 (by omega)
  have e2:=inn j (by omega) h3
  rw[aB hi] at e1
  rw[aB hj] at e2
  rw[yD (at_list.mpr e1),yD (at_list.mpr e2)]
  exact jE7 D.2 (aB hi) (aB hj) (by omega)
 have low:∀ t u,sa<=t->t<sa+k1->t<=u->u<sb+nb->KI xs t<=KI xs u:=fun t u h1 h2 h3 h4=>by
  by_cases e:u<sb
  ·exact u1 t u h1 h3 (by omega)
  ·exact cK (g2 t h1 h2) (u2 sb u (ak _) (by omega) h4)
 have high:∀ t u,sa<=t->t<=u->sb+k2<=u->u<sb+nb->KI xs t<=KI xs u:=fun t u h1 h2 h3 h4=>by
  by_cases e:t<sb
  ·exact cK (u1 t (sb - 1) h1 (by omega) (by omega)) (l3 u h3 h4)
  ·exact u2 t u (by omega) h2 h4
 refine⟨?_,fun k hk=>out k (by omega),fun i j h1 h2 h3=>?_⟩
 ·refine cL.mpr ?_
  rw[hR]
  refine List.Perm.trans ?_ (iw hX.symm)
  exact cR _ (fo _ D.1)
 ·have h3:j<sb+nb:=by omega
  by_cases i1:i<sa+k1
  ·rw[out i (.inl i1)]
   by_cases j1:j<sa+k1
   ·rw[out j (.inl j1)]
    exact low i j h1 i1 h2 h3
   by_cases j2:j<sb+k2
   ·obtain⟨t,t1,t2,t3⟩:=mem j (by omega) j2
    rw[t3]
    exact low i t h1 i1 (by omega) (by omega)
   ·rw[out j (.inr (by omega))]
    exact low i j h1 i1 h2 h3
  by_cases i2:i<sb+k2
  ·by_cases j2:j<sb+k2
   ·exact srt i j (by omega) h2 j2
   ·obtain⟨t,t1,t2,t3⟩:=mem i (by omega) i2
    rw[t3,out j (.inr (by omega))]
    exact high t j (by omega) (by omega) (by omega) h3
  ·rw[out i (.inr (by omega)),out j (.inr (by omega))]
   exact high i j h1 h2 (by omega) h3
section
variable {prog:Program}{w:World}{A:Around}{E:Value->Shared->Prop}{s:Shared} [LtOk prog w A s]
theorem jOZ {st st':SortSt}{Q:PUnit->SortSt->Prop}(h:Q ⟨⟩ st'):wpS (model prog w) A E s (set st':StateT SortSt Sem PUnit) Q st:=dX (f:=fun _=>st') h
theorem jK2 {α:Type}{a b:α}{Q:α->SortSt->Prop}{st:SortSt}(e:a=b)(h:Q b st):wpS (model prog w) A E s (pure a:StateT SortSt Sem α) Q st:=aG (e ▸ h)
structure Merged (st st':SortSt)(i sa na sb nb pw:Nat):Prop where
 perm:(arrOf st').Perm (arrOf st)
 kind:kindOf st'=Od.kd
 failed:failedOf st'=none
 pend:pendingOf st'=((pendingOf st).setIfInBounds i (sa,na+nb,pw)).eraseIdxIfInBounds (i+1)
 out:∀ k,k<sa\/sa+(na+nb)<=k->KI (arrOf st') k=KI (arrOf st) k
 up:Up (arrOf st') sa (na+nb)
theorem jGY {st:SortSt}{i sa na pw sb nb w2:Nat}{Q:Bool->SortSt->Prop}(hk:kindOf st=Od.kd)(hf:failedOf st=none)(hI:AllI (arrOf st).toList)
  (h1:(pendingOf st)[i]?=some (sa,na,pw)) (h2:(pendingOf st)[i+1]?=some (sb,nb,w2)) (hsb:sb=sa+na) (hna:0<na) (hnb:0<nb) (hz:sb+nb<=(arrOf st).size)
  (u1:Up (arrOf st) sa na) (u2:Up (arrOf st) sb nb) (h:∀ st',Merged st st' i sa na sb nb pw->Q true st'):wpS (model prog w) A E s (mergeAt' i) Q st:=by
 rw[mergeAtB.2]
 delta mergeAtB
 dsimp only
 simp only [elP,ltP,ltAtP,jHL,jNE,jNF]
 refine aA (gk ?_)
 rw[h1,h2]
 dsimp only
 refine aA (jOZ ?_)
 generalize hpp:((pendingOf st).setIfInBounds i (sa,na+nb,pw)).eraseIdxIfInBounds (i+1)=pp
 show wpS _ _ _ _ _ _ (SortSt.mk' (kindOf st) (arrOf st) pp (gallopOf st) (failedOf st))
 generalize hst1:SortSt.mk' (kindOf st) (arrOf st) pp (gallopOf st) (failedOf st)=st1
 have G1:kindOf st1=kindOf st/\arrOf st1=arrOf st/\pendingOf st1=pp/\failedOf st1=failedOf st:=by rw[<- hst1]; exact⟨rfl,rfl,rfl,rfl⟩
 have at_:∀ t,t<(arrOf st).size->∃ q,(arrOf st)[t]?=some q/\IsI q:=fun t ht=>by
  obtain⟨q,q1,q2⟩:=qA ht
  exact⟨q,q1,hI q (aI q2)⟩
 have m1:∀ n m x y,sa<=n->n<=m->m<sa+na->(arrOf st)[n]?=some x->(arrOf st)[m]?=some y->LE x y:=fun n m x y a1 a2 a3 hx hy=>by
  have:=u1 n m a1 a2 a3
  rw[yD hx,yD hy] at this
  exact this
 have m2:∀ n m x y,sb<=n->n<=m->m<sb+nb->(arrOf st)[n]?=some x->(arrOf st)[m]?=some y->LE x y:=fun n m x y a1 a2 a3 hx hy=>by
  have:=u2 n m a1 a2 a3
  rw[yD hx,yD hy] at this
  exact this
 obtain⟨pb,hpb,ipb⟩:=at_ sb (by omega)
 refine aA (jQ hpb ?_)
 refine aA (jJ0 (G1.1.trans hk) ipb hI m1 hna (show sa+na<=(arrOf st).size by omega) fun k1 g1 g2 g3=>?_)
 dsimp only
 have g2:∀ t,sa<=t->t<sa+k1->KI (arrOf st) t<=KI (arrOf st) sb:=fun t t1 t2=>by
  obtain⟨q,hq,_⟩:=at_ t (by omega)
  rw[yD hq,yD hpb]
  exact g2 t q t1 t2 hq
 by_cases e1:na - k1=0
 ·rw[aj (bp e1)]
  refine aG (h _ ⟨?_,G1.1.trans hk,G1.2.2.2.trans hf,G1.2.2.1.trans hpp.symm,fun k _=>?_,?_⟩)
  ·rw[G1.2.1]
  ·rw[G1.2.1]
  ·rw[G1.2.1]
   intro i j i1 i2 i3
   by_cases a:i<sb
   ·by_cases b:j<sb
    ·exact u1 i j i1 i2 (by omega)
    ·exact cK (g2 i i1 (by omega)) (u2 sb j (ak _) (by omega) (by omega))
   ·exact u2 i j (by omega) i2 (by omega)
 rw[ah (bn e1)]
 obtain⟨pa,hpa,ipa⟩:=at_ (sa+k1+(na - k1) - 1) (by omega)
 refine aA (jQ hpa ?_)
 refine aA (jJ1 (G1.1.trans hk) ipa hI m2 (by omega) (show sb+nb<=(arrOf st).size by omega) fun k2 l1 l2 l3=>?_)
 dsimp only
 have epa:sa+k1+(na - k1) - 1=sb - 1:=by omega
 rw[epa] at hpa
 have l3':∀ t,sb+k2<=t->t<sb+nb->KI (arrOf st) (sb - 1)<=KI (arrOf st) t:=fun t t1 t2=>by
  obtain⟨q,hq,_⟩:=at_ t (by omega)
  rw[yD hq,yD hpa]
  exact l3 t q t1 t2 hq
 by_cases e2:k2=0
 ·rw[aj (bp e2)]
  refine aG (h _ ⟨?_,G1.1.trans hk,G1.2.2.2.trans hf,G1.2.2.1.trans hpp.symm,fun k _=>?_,?_⟩)
  ·rw[G1.2.1]
  ·rw[G1.2.1]
  ·rw[G1.2.1]
   intro i j i1 i2 i3
   by_cases a:i<sb
   ·by_cases b:j<sb
    ·exact u1 i j i1 i2 (by omega)
    ·exact cK (u1 i (sb - 1) i1 (by omega) (by omega)) (l3' j (by omega) (by omega))
   ·exact u2 i j (by omega) i2 (by omega)
 rw[ah (bn e2)]
 have T:Two ((arrOf st).extract (sa+k1) sb) ((arrOf st).extract sb (sb+k2)):=by
  refine⟨fun q hq=>?_,fun q hq=>?_,jM8 fun n m x y a1 a2 a3=>m1 n m x y (by omega) a2 (by omega),jM8 fun n m x y a1 a2 a3=>m2 n m x y (by omega) a2 (by omega),?_,?_,fun x hx y hy=>?_,fun y hy q hq=>?_⟩
  ·obtain⟨t,_,_,t3⟩:=jCM hq
   exact hI q (aI (at_list.mp t3))
  ·obtain⟨t,_,_,t3⟩:=jCM hq
   exact hI q (aI (at_list.mp t3))
  ·rw[jDX (by omega)]; omega
  ·rw[jDX (by omega)]; omega
  ·obtain⟨t,t1,t2,t3⟩:=jCM hx
   rw[jDX (by omega),jJ3 (by omega),show sa+k1+(sb - (sa+k1) - 1)=sb - 1 by omega,hpa] at hy
   cases hy
   exact l2 t x t1 t2 t3
  ·obtain⟨t,t1,t2,t3⟩:=jCM hy
   rw[jJ3 (by omega),i8,hpb] at hq
   cases hq
   exact g3 t y t1 (by omega) t3
 by_cases e3:na - k1<=k2
 case' pos=>
  rw[aj e3]
  refine aA (jGW (G1.1.trans hk) T fun r st2 D G0=>?_)
  have G:SG (SortSt.mk' (kindOf st) (arrOf st) pp (gallopOf st) (failedOf st)) st2:=by rw[hst1]; exact G0
  subst hpp
 case' neg=>
  rw[ah e3]
  refine aA (jGX (G1.1.trans hk) T fun r st2 D G0=>?_)
  have G:SG (SortSt.mk' (kindOf st) (arrOf st) pp (gallopOf st) (failedOf st)) st2:=by rw[hst1]; exact G0
  subst hpp
 all_goals
  refine aA (dX (aA (gk ?_)))
  have ea:arrOf st2=arrOf st:=G.a
  have W:=jJM (R:=((r.toList.zipIdx 0).foldl (fun (a:Array Keyed) (x:Keyed×Nat)=>a.setIfInBounds (sa+k1+x.2) x.1) (arrOf st))) hsb (by omega) (by omega) l1 hz u1 u2 g2 l3' D (jID (sa+k1) r.toList 0 (arrOf st) ((arrOf st).toList.take (sa+k1)) (((arrOf st).extract (sa+k1) sb).toList++((arrOf st).extract sb (sb+k2)).toList) ((arrOf st).toList.drop (sb+k2)) (by rw[bD,aO]; omega) D.1.length_eq.symm (by
   have a1:=bi (sa+k1) (arrOf st).toList
   have a2:=bi (sb - (sa+k1)) ((arrOf st).toList.drop (sa+k1))
   have a3:=bi k2 ((arrOf st).toList.drop sb)
   rw[gQ] at a2 a3
   rw[show sa+k1+(sb - (sa+k1))=sb by omega] at a2
   rw[jAI,jAI,cb,aU,a3,a2,a1]))
  rw[<- ea] at W
  refine jK2 (by show (failedOf st2).isNone=true; rw[G.f]; show (failedOf st).isNone=true; rw[hf]; rfl) (h _ ⟨?_,G.k.trans hk,G.f.trans hf,G.p,?_,?_⟩)
  ·rw[<- ea]
   exact W.1
  ·rw[<- ea]
   exact W.2.1
  ·exact W.2.2
end
def Runs (xs:Array Keyed):List (Nat×Nat×Nat)->Nat->Nat->Prop
 | [],a,b=>a=b
 | (s,n,_)::t,a,b=>s=a/\0<n/\Up xs s n/\Runs xs t (a+n) b
section
variable {xs ys:Array Keyed}
theorem Runs.le:∀ {l:List (Nat×Nat×Nat)}{a b:Nat},Runs xs l a b->a+l.length<=b
 | [],a,b,h=>by have:a=b:=h; rw[cf]; omega
 | (s,n,_)::t,a,b,⟨_,h2,_,h4⟩=>by
  have:=Runs.le h4
  rw[aQ]
  omega
theorem Runs.app:∀ {l m:List (Nat×Nat×Nat)}{a b:Nat},Runs xs (l++m) a b->∃ c,Runs xs l a c/\Runs xs m c b
 | [],m,a,b,h=>⟨a,rfl,h⟩
 | (s,n,_)::t,m,a,b,⟨h1,h2,h3,h4⟩=>by
  obtain⟨c,c1,c2⟩:=Runs.app h4
  exact⟨c,⟨h1,h2,h3,c1⟩,c2⟩
theorem Runs.put:∀ {l m:List (Nat×Nat×Nat)}{a b c:Nat},Runs xs l a c->Runs xs m c b->Runs xs (l++m) a b
 | [],m,a,b,c,h,g=>by have:a=c:=h; subst this; exact g
 | (s,n,_)::t,m,a,b,c,⟨h1,h2,h3,h4⟩,g=>⟨h1,h2,h3,Runs.put h4 g⟩
theorem Up.same {lo n:Nat}(h:Up xs lo n)(e:∀ k,lo<=k->k<lo+n->KI ys k=KI xs k):Up ys lo n:=fun i j h1 h2 h3=>by
 rw[e i h1 (by omega),e j (by omega) h3]
 exact h i j h1 h2 h3
theorem Runs.same:∀ {l:List (Nat×Nat×Nat)}{a b:Nat},Runs xs l a b->(∀ k,a<=k->k<b->KI ys k=KI xs k)->Runs ys l a b
 | [],a,b,h,_=>h
 | (s,n,_)::t,a,b,⟨h1,h2,h3,h4⟩,e=>by
  have:=Runs.le h4
  exact⟨h1,h2,h3.same fun k k1 k2=>e k (by omega) (by omega),Runs.same h4 fun k k1 k2=>e k (by omega) k2⟩
theorem Runs.mod {f:Nat×Nat×Nat->Nat×Nat×Nat}(hf:∀ x,(f x).1=x.1/\(f x).2.1=x.2.1):∀ {l:List (Nat×Nat×Nat)}{i a b:Nat},Runs xs l a b->Runs xs (l.modify i f) a b
 | [],i,a,b,h=>by rw[List.modify_nil]; exact h
 | (s,n,w)::t,0,a,b,⟨h1,h2,h3,h4⟩=>by
  rw[List.modify_zero_cons]
  obtain⟨e1,e2⟩:=hf (s,n,w)
  generalize f (s,n,w)=v at e1 e2 ⊢
  obtain⟨s',n',w'⟩:=v
  have e1:s'=s:=e1
  have e2:n'=n:=e2
  subst e1 e2
  exact⟨h1,h2,h3,h4⟩
 | (s,n,w)::t,i+1,a,b,⟨h1,h2,h3,h4⟩=>by
  rw[List.modify_succ_cons]
  exact⟨h1,h2,h3,Runs.mod hf h4⟩
end
structure RI (a₀:Array Keyed)(lo:Nat)(st:SortSt):Prop where
 perm:(arrOf st).Perm a₀
 kind:kindOf st=Od.kd
 failed:failedOf st=none
 runs:Runs (arrOf st) (pendingOf st).toList 0 lo
theorem jFV:∀ (l:List (Nat×Nat×Nat)) (i:Nat),i+1<l.length->∃ u x y t,l=u++x::y::t/\u.length=i
 | [],i,h=>absurd h (eU _)
 | [x],i,h=>by rw[iy] at h; omega
 | x::y::t,0,h=>⟨[],x,y,t,rfl,rfl⟩
 | x::y::t,i+1,h=>by
  obtain⟨u,x',y',t',e,hu⟩:=jFV (y::t) i (by rw[aQ] at h; omega)
  exact⟨x::u,x',y',t',by rw[e]; rfl,by rw[aQ,hu]⟩
theorem jR1 {a₀ xs:Array Keyed}(h0:AllI a₀.toList)(hp:xs.Perm a₀):AllI xs.toList:=fun p hp'=>h0 p ((cL.mp hp).mem_iff.mp hp')
section
variable {prog:Program}{w:World}{A:Around}{E:Value->Shared->Prop}{s:Shared} [LtOk prog w A s]{a₀:Array Keyed}
theorem jD8 {st:SortSt}{i lo:Nat}{Q:Bool->SortSt->Prop}(h0:AllI a₀.toList)(R:RI a₀ lo st)(hlo:lo<=a₀.size)(hi:i+1<(pendingOf st).size)
  (h:∀ st',RI a₀ lo st'->(pendingOf st').size+1=(pendingOf st).size->(∀ k,lo<=k->KI (arrOf st') k=KI (arrOf st) k)->Q true st'):wpS (model prog w) A E s (mergeAt' i) Q st:=by
 obtain⟨u,⟨sa,na,pw⟩,⟨sb,nb,w2⟩,t,e,hu⟩:=jFV (pendingOf st).toList i (by rw[aO]; exact hi)
 have rr:=R.runs
 rw[e] at rr
 obtain⟨c,r1,a1,a2,a3,a4,a5,a6,a7⟩:=Runs.app rr
 have r2:=Runs.le a7
 have r3:=Runs.le r1
 subst a1
 have e1:(pendingOf st)[i]?=some (sa,na,pw):=by
  rw[<- bC,e,ba (by omega),hu,io]
  rfl
 have e2:(pendingOf st)[i+1]?=some (sb,nb,w2):=by
  rw[<- bC,e,ba (by omega),hu,cb]
  rfl
 have z:=R.perm.size_eq
 refine jGY R.kind R.failed (jR1 h0 R.perm) e1 e2 a4 a2 a5 (by omega) a3 a6 fun st' M=>?_
 have ep:(pendingOf st').toList=u++(sa,na+nb,pw)::t:=by
  rw[M.pend,Array.toList_eraseIdxIfInBounds,gU,e,iB _ _ (by omega),hu,io,List.set_cons_zero,List.eraseIdx_append_of_length_le (by omega),hu,cb]
  rfl
 refine h st' ⟨M.perm.trans R.perm,M.kind,M.failed,?_⟩ ?_ fun k hk=>M.out k (by omega)
 ·rw[ep]
  refine Runs.put (Runs.same r1 fun k k1 k2=>M.out k (by omega)) ⟨rfl,by omega,M.up,?_⟩
  have:=Runs.same (ys:=arrOf st') a7 fun k k1 k2=>M.out k (by omega)
  rw[Nat.add_assoc] at this
  exact this
 ·have q1:=bP List.length ep
  have q2:=bP List.length e
  rw[aO,aC,aQ] at q1
  rw[aO,aC,aQ,aQ] at q2
  omega
theorem RI.of {st:SortSt}{F:Nat->Int}{lo:Nat}{p:Array (Nat×Nat×Nat)}{xs:Array Keyed}(h:BB a₀ p F lo st)(hr:Runs xs p.toList 0 lo)(hF:∀ k,F k=KI xs k):RI a₀ lo st:=
 ⟨h.perm,h.kind,h.failed,by rw[h.pend]; exact hr.same fun k _ hk=>(h.low k hk).trans (hF k)⟩
theorem jD7 {st:SortSt}{Q:Unit->SortSt->Prop}(h0:AllI a₀.toList)(hB:SB a₀ st)(h1:1<=a₀.size)
  (h:∀ st',(arrOf st').Perm a₀->failedOf st'=none->STo (arrOf st') a₀.size->Q () st'):wpS (model prog w) A E s sortRuns' Q st:=by
 rw[sortRuns'_eq]
 refine aA (gk ?_)
 try dsimp only
 have hz:=hB.size
 rw[hz]
 generalize minRun' a₀.size a₀.size 0=mr
 refine aA (db (bK (I:=fun x c st'=>∃ lo,c=(none,lo)/\x<=lo/\lo<=a₀.size/\RI a₀ lo st')
  (Q:=fun c st'=>c=(none,a₀.size)/\RI a₀ a₀.size st') ?step ?fin ⟨0,rfl,ak _,bo _,hB.perm,hB.kind,hB.failed,by rw[hB.pend]; rfl⟩) ?post)
 case fin=>
  rintro c st' ⟨lo,rfl,l1,l2,R⟩
  have:lo=a₀.size:=by omega
  subst this
  exact⟨rfl,R⟩
 case step=>
  rintro x c st1 _ hx ⟨lo,rfl,l1,l2,R1⟩
  try dsimp only
  by_cases hl:lo ≥ a₀.size
  ·rw[aj hl]
   have:lo=a₀.size:=by omega
   subst this
   exact aG ⟨rfl,R1⟩
  rw[ah hl]
  refine aA (jER (F:=fun k=>KI (arrOf st1) k) (p:=pendingOf st1) h0 (by omega) (by omega) ⟨R1.perm,R1.kind,R1.failed,rfl,fun _ _=>rfl⟩ fun m st2 B2 m1 m2 U2=>?_)
  try dsimp only
  by_cases hm:m<mr
  case' pos=>
   rw[aj hm]
   refine aA (gS (cU ⟨rfl,?_⟩))
   refine aA (jD9 h0 (by omega) (by omega) B2 U2 fun st4 B4 U4=>?_)
   have R4:=RI.of B4 R1.runs fun _=>rfl
   have n0:0<min (a₀.size - lo) mr:=by omega
   have n9:min (a₀.size - lo) mr<=a₀.size - lo:=by omega
   generalize min (a₀.size - lo) mr=n at*
  case' neg=>
   rw[ah hm]
   have R4:=RI.of B2 R1.runs fun _=>rfl
   have U4:=U2
   generalize st2=st4 at*
   generalize m=n at*
  all_goals
   refine aA (gk ?_)
   have last:∀ st5:SortSt,RI a₀ lo st5->Up (arrOf st5) lo n->∃ lo',(none,lo+n)=((none:Option PUnit),lo')/\x+1<=lo'/\lo'<=a₀.size/\RI a₀ lo' (setPending st5 ((pendingOf st5).push (lo,n,0))):=fun st5 R5 U5=>
    ⟨lo+n,rfl,by omega,by omega,R5.perm,R5.kind,R5.failed,by
     show Runs (arrOf st5) ((pendingOf st5).push (lo,n,0)).toList 0 (lo+n)
     rw[dH]
     exact R5.runs.put ⟨rfl,by omega,U5,rfl⟩⟩
   cases hb:(pendingOf st4).back? with
   | none=>
    try dsimp only
    exact aA (dX (aG (last st4 R4 U4)))
   | some v=>
    obtain⟨s1,n1,w1⟩:=v
    try dsimp only
    refine aA (db (bK (I:=fun _ c st'=>c=(none,())/\RI a₀ lo st'/\Up (arrOf st') lo n) (Q:=fun c st'=>c=(none,())/\RI a₀ lo st'/\Up (arrOf st') lo n) ?mstep (fun _ _ z=>z) ⟨rfl,R4,U4⟩) ?mpost)
    case mstep=>
     rintro y c st5 _ _ ⟨rfl,R5,U5⟩
     try dsimp only
     refine aA (gk ?_)
     by_cases hs:(pendingOf st5).size>1
     ·rw[aj hs]
      obtain⟨v,hv⟩:∃ v,(pendingOf st5)[(pendingOf st5).size - 2]?=some v:=⟨_,Array.getElem?_eq_getElem (by omega)⟩
      rw[hv]
      obtain⟨v1,v2,older⟩:=v
      try dsimp only
      by_cases ho:older<=power' a₀.size (2*s1+n1) (2*s1+n1+n1+n) a₀.size
      ·rw[aj ho]
       exact aG ⟨rfl,R5,U5⟩
      rw[ah ho]
      refine aA (jD8 h0 R5 (by omega) (by omega) fun st6 R6 _ E6=>?_)
      exact aG ⟨rfl,R6,U5.same fun k k1 _=>E6 k k1⟩
     ·rw[ah hs]
      exact aG ⟨rfl,R5,U5⟩
    case mpost=>
     rintro c st5 ⟨rfl,R5,U5⟩
     try dsimp only
     refine aA (dX (aA (dX (aG (last (setPending st5 ((pendingOf st5).modify ((pendingOf st5).size - 1) fun x=>(x.1,x.2.1,power' a₀.size (2*s1+n1) (2*s1+n1+n1+n) a₀.size))) ⟨R5.perm,R5.kind,R5.failed,?_⟩ U5)))))
     show Runs (arrOf st5) (Array.modify _ _ _).toList 0 lo
     rw[Array.toList_modify]
     exact Runs.mod (f:=fun x=>(x.1,x.2.1,power' a₀.size (2*s1+n1) (2*s1+n1+n1+n) a₀.size)) (fun _=>⟨rfl,rfl⟩) R5.runs
 case post=>
  rintro c st1 ⟨rfl,R1⟩
  try dsimp only
  refine aA (db (bK (I:=fun x c st'=>c=(none,())/\RI a₀ a₀.size st'/\1<=(pendingOf st').size/\(pendingOf st').size+x<=a₀.size)
   (Q:=fun c st'=>c=(none,())/\RI a₀ a₀.size st'/\(pendingOf st').size=1) ?step2 ?fin2 ⟨rfl,R1,?a1,?a2⟩) ?post2)
  case a1=>
   have:=R1.runs
   cases hp:(pendingOf st1).toList with
   | nil=>
    rw[hp] at this
    have:0=a₀.size:=this
    omega
   | cons v t=>
    have:=bP List.length hp
    rw[aO,aQ] at this
    omega
  case a2=>
   have:=R1.runs.le
   rw[aO] at this
   omega
  case fin2=>
   rintro c st2 ⟨_,_,h2,h3⟩
   omega
  case post2=>
   rintro c st2 ⟨rfl,R2,h2⟩
   try dsimp only
   refine aG (h st2 R2.perm R2.failed ?_)
   have rr:=R2.runs
   cases hp:(pendingOf st2).toList with
   | nil=>
    rw[<- aO,hp] at h2
    cases h2
   | cons v t=>
    have:=bP List.length hp
    rw[aO,h2,aQ] at this
    have:t=[]:=gw (by omega)
    subst this
    rw[hp] at rr
    obtain⟨v1,v2,v3⟩:=v
    obtain⟨q1,q2,q3,q4⟩:=rr
    have q4:0+v2=a₀.size:=q4
    subst q1
    exact fun i j hij hj=>q3 i j (bo _) hij (by omega)
  case step2=>
   rintro x c st2 _ hx ⟨rfl,R2,h2,h3⟩
   try dsimp only
   refine aA (gk ?_)
   by_cases hs:(pendingOf st2).size<=1
   ·rw[aj hs]
    exact aG ⟨rfl,R2,by omega⟩
   rw[ah hs]
   refine aA (jD8 h0 R2 (ak _) ?_ fun st3 R3 e3 _=>?_)
   ·have ite_le:∀ (c:Prop) [Decidable c] (a b:Nat),(if c then a else b)<=max a b:=fun c _ a b=>by
     by_cases z:c
     ·rw[aj z]; omega
     ·rw[ah z]; omega
    refine iX (Nat.add_le_add_right (ite_le _ _ _) 1) ?_
    omega
   ·exact aG ⟨rfl,R3,by omega,by omega⟩
end
end TM
end
section
namespace TM
open PySem PySem.Spec PyProof.Rows
section
variable {prog:Program}{w:World}{A:Around}{E:Value->Shared->Prop}{s:Shared}
abbrev turned (b:Bool)(xs:Array Value):Array Value:=if b then xs.reverse else xs
theorem jH1 {b:Bool}{xs:Array Value} :(turned b xs).size=xs.size:=by
 cases b
 ·rfl
 ·exact Array.size_reverse
theorem jCH (b:Bool)(vs:List Value):(if b=true then (vs.toArray.zip vs.toArray).reverse else vs.toArray.zip vs.toArray).Perm (pairsOf vs):=by
 cases b with
 | false=>exact Array.Perm.refl _
 | true=>exact cL.mpr (by show ((vs.toArray.zip vs.toArray).reverse).toList.Perm _; rw[de]; exact List.reverse_perm _)
def AskOk [Od](prog:Program)(w:World)(A:Around)(s:Shared)(a:Addr)(vs:List Value):Prop:=
 ∀ h6:Heap,(∀ c o,s.heap.get? c=some o->c≠a->h6.get? c=some o)->
  (∀ (Q:SortKind->Shared->Prop) (E:Value->Shared->Prop),Q Od.kd { s with heap:=h6} ->wpAny (model prog w) A (keyKind' vs.toArray) Q E { s with heap:=h6})/\LtOk prog w A { s with heap:=h6}
theorem jIA [Od]{a:Addr}{vs:List Value}{n:Nat}{b:Bool}{P:Fin->Shared->Prop}(ho:s.heap.get? a=some (seqObj "list" vs.toArray n))(hz:vs.length<=sizeLine)(hI:AllI (pairsOf vs).toList)(hk:2<=vs.length->AskOk prog w A s a vs)
  (h:∀ xs:Array Keyed,xs.Perm (pairsOf vs)->STo xs (pairsOf vs).size->P (.done (.ret .none)) { s with heap:=sortedHeap s.heap a vs (turned b (xs.map (·.2)))}):
  wpAny (model prog w) A (Builtin.«list.sort» ⟨[.ref a],[(Str.ofString "reverse", .bool b)]⟩) P E s:=by
 rw[list_sort_rev]
 have ha:=ay ho
 have hz':vs.toArray.size<=sizeLine:=by rw[ao]; exact hz
 refine aa (listItems_at ho rfl (aa (g6 ho rfl ?_ hz' (bo _))))
 obtain⟨e1,ho1⟩:∃ e1,(s.heap.update a (Obj.mapSeq fun _=>#[])).get? a=some (seqObj "list" #[] e1):=⟨_,get?_update_seq ho _⟩
 refine aa (seqEpoch_at ho1 rfl (aa (wpAny_newTuple ?_ hz)))
 refine aa (eS (bB ?_))
 generalize hh6:((s.heap.update a (Obj.mapSeq fun _=>#[])).push (seqObj "tuple" vs.toArray 0)).push (seqObj "list" #[] 0)=h6
 have ho6:h6.get? a=some (seqObj "list" #[] e1):=by
  rw[<- hh6]
  exact ae _ (ae _ ho1)
 have k6:∀ c o,s.heap.get? c=some o->c≠a->h6.get? c=some o:=fun c o q ne=>by
  rw[<- hh6]
  exact ae _ (ae _ ((bA _ _ (cY ne)).trans q))
 have sh:∀ out,sortedHeap s.heap a vs out=h6.update a (Obj.mapSeq fun _=>out):=fun out=>by rw[<- hh6]; rfl
 have go:∀ X:Sem Fin,wpAny (model prog w) A X P E { s with heap:=h6} ->wpAny (model prog w) A (if b=true then (do let _ <- rule "list.sort.reverse"; X) else X) P E { s with heap:=h6} :=fun X hX=>by
  cases b with
  | false=>exact hX
  | true=>exact aa (cU hX)
 have hend:∀ st':SortSt,(arrOf st').Perm (pairsOf vs)->STo (arrOf st') (pairsOf vs).size->P (.done (.ret .none)) { s with heap:=h6.update a (Obj.mapSeq fun _=>turned b ((arrOf st').map (·.2)))} :=fun st' p1 p2=>by
  rw[<- sh]
  exact h _ p1 p2
 have hfit:∀ st':SortSt,(arrOf st').Perm (pairsOf vs)->(turned b ((arrOf st').map (·.2))).size<=sizeLine+1:=fun st' p1=>by
  rw[jH1,Array.size_map,p1.size_eq,pairsOf_size]
  omega
 dsimp only
 refine go _ ?_
 by_cases few:vs.toArray.size<2
 ·rw[aj few,aj few]
  refine aa (ag ?_)
  rw[StateT.run_pure]
  refine aa (ag ?_)
  dsimp only
  refine aa (seqEpoch_at ho6 rfl (aa (g6 ho6 rfl ?_ (bo _) (hfit (SortSt.mk' general' _ #[] 7 none) (jCH b vs)))))
  rw[bne_self_eq_false,ah ai]
  refine ag (hend (SortSt.mk' general' _ #[] 7 none) (jCH b vs) fun i j hij hj=>?_)
  have:i=j:=by
   rw[pairsOf_size] at hj
   rw[ao] at few
   omega
  rw[this]
  exact dc _
 ·rw[ah few,ah few]
  rw[ao] at few
  obtain⟨kk,ll⟩:=hk (by omega) h6 k6
  refine aa (kk _ _ (aa (bw (jD7 (a₀:=pairsOf vs) (st:=SortSt.mk' Od.kd _ #[] 7 none)
   (Q:=fun _ st'=>(arrOf st').Perm (pairsOf vs)/\failedOf st'=none/\STo (arrOf st') (pairsOf vs).size)
   hI ⟨jCH b _,rfl,rfl,rfl⟩ (by rw[pairsOf_size]; omega) fun st' a1 a2 a3=>⟨a1,a2,a3⟩) ?_ fun _ _ e=>e)))
  rintro ⟨⟨⟩,st'⟩ s' ⟨rfl,p1,p2,p3⟩
  dsimp only
  refine aa (seqEpoch_at ho6 rfl (aa (g6 ho6 rfl ?_ (bo _) (hfit st' p1))))
  rw[p2]
  dsimp only
  rw[bne_self_eq_false,ah ai]
  exact ag (hend st' p1 p3)
theorem jKU (a:Addr):Builtin.«list.sort» ⟨[.ref a],[]⟩=Builtin.«list.sort» ⟨[.ref a],[(Str.ofString "reverse", .bool false)]⟩:=by
 rw[list_sort_plain,list_sort_rev]
 rfl
abbrev odI:Od:=⟨oneType',fun p=>numOf p.1,fun p=>∃ n t,p.1=Value.int n t⟩
theorem ltI: @LtOk prog w A s odI:= @LtOk.mk prog w A s odI fun {E st x y Q} hk hx hy h=>by
 obtain⟨a,t,ha⟩:=hx
 obtain⟨b,u,hb⟩:=hy
 have e1: @key odI x=a:=by show numOf x.1=a; rw[ha]; rfl
 have e2: @key odI y=b:=by show numOf y.1=b; rw[hb]; rfl
 rw[e1,e2] at h
 rw[lt'_eq]
 refine aA (gk ?_)
 rw[show kindOf st=oneType' from hk,keyLt'_oneType,ha,hb]
 exact aA (gS (dz (oneLt_int ⟨rfl,aG h⟩)))
theorem stoI {xs:Array Keyed}{k:Nat}(h: @STo odI xs k):SortedTo xs k:=h
theorem askI {a:Addr}{vs:List Value}{ns:List Int}(hI:IntsAre vs ns)(h2:2<=vs.length): @AskOk odI prog w A s a vs:=fun h6 _=>⟨fun Q E h=>by
 obtain⟨u,v,r,rfl⟩:∃ u v r,vs=u::v::r:=by
  match vs,h2 with
  | [_],few=>exact absurd few (show ¬ 2<=1 by decide)
  | u::v::r,_=>exact⟨u,v,r,rfl⟩
 rw[keyKind_ints hI]
 exact ag h,ltI⟩
theorem sort_rev_any {a:Addr}{vs:List Value}{ns:List Int}{n:Nat}{b:Bool}{P:Fin->Shared->Prop}(ho:s.heap.get? a=some (seqObj "list" vs.toArray n))(hI:IntsAre vs ns)(hz:vs.length<=sizeLine)
  (h:∀ (out:Array Value) (ns':List Int),IntsAre out.toList ns'->ns'.Perm ns->Ordered b ns'->P (.done (.ret .none)) { s with heap:=sortedHeap s.heap a vs out}):
  wpAny (model prog w) A (Builtin.«list.sort» ⟨[.ref a],[(Str.ofString "reverse", .bool b)]⟩) P E s:=
 @jIA prog w A E s odI a vs n b P ho hz hI.intKeys (fun h2=>askI hI h2) fun xs p1 p2=>by
  obtain⟨ns',q1,q2,q3⟩:=sorted_out_rev hI p1 (stoI p2) b
  exact h _ ns' q1 q2 q3
end
end TM
end
section
namespace L2
open PySem PySem.Spec PyProof.Rows
section
variable {prog:Program}{w:World}{A:Around}{E:Value->Shared->Prop}{s:Shared}{d:Addr}{kvs:List (Key×Value)}
theorem jEL:∀ {vs:List Value}{ks:List Int},vs.length=ks.length->(∀ (j:Nat) (v:Value),vs[j]?=some v->∃ i t,ks[j]?=some i/\v=Value.int i t)->IntsAre vs ks
 | [],[],_,_=> .nil
 | [],_::_,h,_=>by cases h
 | _::_,[],h,_=>by cases h
 | v::vs,a::r,h,hat=>by
  obtain⟨i,t,e1,rfl⟩:=hat 0 v rfl
  cases e1
  exact .cons _ t (jEL (Nat.succ.inj h) fun j v e=>hat (j+1) v e)
theorem jFX {Q:Value->Shared->Prop}{ks:List Int}{b:Bool}(hh:A.handled=none)(lo:(d==sysModules)=false)(D:s.heap.DictOf (kW prog w) d kvs)(hk:kvs.map (·.1)=ks.map Sum.inl)(hz:ks.length<=sizeLine)
  (h:∀ (hf:Heap) (tk:Nat) (l:Addr) (vs:List Value) (ns:List Int) (e:Nat),s.heap.objs.size<=l->(∀ b u,s.heap.get? b=some u->hf.get? b=some u)->
   hf.get? l=some { cls:= .type "list",data:= .seq vs.toArray e} ->IntsAre vs ns->ns.Perm ks->Ordered b ns->Q (.ref l) { s with heap:=hf,toks:=tk}):
  wpAny (model prog w) A (call (.builtin "sorted") [.ref d] [(Str.ofString "reverse", .bool b)]) Q E s:=by
 obtain⟨ep,hat⟩:=D.dictAt
 have hlen:kvs.length=ks.length:=by
  have:=bP List.length hk
  rwa [af,af] at this
 refine call_function_entry_kw kind_sorted plain_sorted entry_sorted (args_sorted_rev _ _) ?_
 unfold Builtin.«sorted»
 refine aa (m:=checkCount "sorted" 1 1 _) (ag ?_)
 refine aa (jHV (A:=A.in1) (PySem.W.kdl_dict (knd:=kW prog w) (kvs:=kvs) (ep:=ep) lo) hh hat (by omega) fun h1 tk acc hk1 hlt1 hacc=>?_)
 have hal:acc.toList.length=ks.length:=by rw[aO,hacc.1,hlen]
 have hI:IntsAre acc.toList ks:=jEL hal fun j v e=>by
  obtain⟨k,x,hx,hv⟩:=hacc.2 j v (by rw[<- bC]; exact e)
  have e2:(kvs.map (·.1))[j]?=some k:=by rw[bb,hx]; rfl
  rw[hk,bb] at e2
  cases hq:ks[j]? with
  | none=>rw[hq] at e2; cases e2
  | some i=>
   rw[hq] at e2
   cases e2
   rcases jA2 (show keyIs (Sum.inl i) v=true from hv) with ⟨i',t,q1,q2⟩ | ⟨x,t,q1,q2⟩
   ·cases q1
    exact⟨i,t,rfl,q2⟩
   ·cases q1
 refine aa (eS ?_ (by omega))
 have hL:(h1.push (seqObj "list" acc.toList.toArray 0)).get? h1.objs.size=some (seqObj "list" acc.toList.toArray 0):=am _ rfl
 show wpAny _ _ _ _ _ { s with heap:=h1.push (seqObj "list" acc.toList.toArray 0),toks:=tk}
 refine aa (bB (wpAny_call_entry_kw gN ⟨_,hL,rfl⟩ gA (TM.sort_rev_any hL hI (by omega) fun out ns' a1 a2 a3=>⟨_,rfl,?_⟩) (args_list_sort_rev _ _)))
 obtain⟨e,he⟩:=sortedHeap_at (out:=out) hL
 have kept:∀ b u,s.heap.get? b=some u->(sortedHeap (h1.push (seqObj "list" acc.toList.toArray 0)) h1.objs.size acc.toList out).get? b=some u:=fun b u q=>by
  have q1:=hk1 b u q
  have hb:b<h1.objs.size:=ay q1
  rw[sortedHeap_old (aR hb) (by rw[size_push']; exact cr hb)]
  exact ae _ q1
 generalize sortedHeap (h1.push (seqObj "list" acc.toList.toArray 0)) h1.objs.size acc.toList out=hf at he kept ⊢
 exact ag ⟨_,rfl,h hf tk h1.objs.size out.toList ns' e (cJ hlt1) kept (by rw[dI]; exact he) a1 a2 a3⟩
end
def jOY (X:Cx)(f:Value)(ks:List Str)(r:List V->List V->Hp->VK->Prop):Prop:=
 ∀ (pins:List (Addr×Obj)) (s:Shared) (σ:St) (H:Hp) (xs zs:List V) (us ws:List Value) (Q:VK),Inv X pins σ H s->Vals xs us->Vals zs ws->r xs zs H Q->
  wpAny (model X.prog X.w) X.A (call f us (ks.zip ws)) (EP X pins σ Q) X.xe s
def tCBK (r:List V->List V->Hp->VK->Prop)(t tk:TA):TE:=fun σ H Q=>t σ H fun vs H1=>tk σ H1 fun zs H2=>r vs zs H2 Q
structure JK (X:Cx)(kws:List Keyword)(t:TA):Prop where
 h:PK X kws t
section
variable {X:Cx}{x:Str}{p pos kpos:Pos}{e:Expr}{es:List Expr}{kws:List Keyword}{t tk:TA}{te:TE}{nm:Option Str}{ks:List Str}{id:String}{r:List V->List V->Hp->VK->Prop}
theorem jSO:JK X [] tNil:=⟨jRS⟩
theorem jQL (ha:JE X e te)(hr:JK X kws t):JK X (⟨nm,e,kpos⟩::kws) (tCons te t):=⟨jPI ha.h hr.h⟩
theorem jLW (hc:jOY X (.builtin id) ks r)(hg:Gl1 X x)(hm:X.mg x=none)(hv:bootBuiltins x=some (.builtin id))(ha:JA X (e::es) t)(hkw:JK X kws tk)(he:starEach (e::es) X.env=(false,eval e X.env)::starEach es X.env)
  (hn:x≠ "__name__" :=by decide) (hdb:(x==("__debug__" :Str))=false:=by decide) (hall:(backToKw pos (keywordEach kws X.env)).all (·.1.isSome)=true:=by rfl) (hks:(backToKw pos (keywordEach kws X.env)).filterMap (·.1)=ks:=by rfl)
  (hpl:(backTo pos (starEach es X.env)).any (·.1)=false:=by rfl) (hkn:(backToKw pos (keywordEach kws X.env)).any (·.1.isNone)=false:=by rfl):JE X (.Call (.Name x p) (e::es) kws pos) (tCBK r t tk):=by
 refine⟨fun pins s σ H Q I h=>?_⟩
 refine cz (jDP I hg.a hm hv ?_ hn hdb)
 refine callWith_kw (thn (ha.h pos pins s σ H _ I h) fun us s1 ⟨vs,H1,I1,r1,q1⟩=>thn (hkw.h pos pins s1 σ H1 _ I1 q1) fun ws s2 ⟨zs,H2,I2,rz,q2⟩=>?_) (by rw[he]; rfl) (by rw[he]; exact hpl) hall hkn
 rw[hks]
 exact hc pins s2 σ H2 vs zs us ws Q I2 r1 rz q2
theorem jFL (hc:X.calm=true):jOY X (.builtin "sorted") [Str.ofString "reverse"] (fun xs zs H Q=>∃ (p:Addr) (kvs:List (Key×V)) (ks:List Int) (b:Bool),xs=[.ref p]/\zs=[.bl b]/\H p=some (.dK kvs)/\kvs.map (·.1)=ks.map Sum.inl/\ks.length<=sizeLine/\
  ∀ (l:Addr) (ns:List Int),H l=none->Ordered b ns->ns.Perm ks->Q (.ref l) (upd H l (.lst (ns.map V.int)))):=by
 intro pins s σ H xs zs us ws Q I r rz h
 obtain⟨p,kvs,ks,b,rfl,rfl,hp,hk,hn,q⟩:=h
 obtain⟨u,rfl,rx⟩:=r.one
 obtain⟨v,rfl,ry⟩:=rz.one
 cases rx
 cases ry
 obtain⟨z,lo,vs,rel,dd⟩:=dk_of I.hok hp
 refine jFX (I.ok.hd hc) lo dd (by rw[<- rel.keys]; exact hk) hn fun hf tk l vs ns e hl kp he hi pm srt=>?_
 have hz:(ns.map V.int).length<=sizeLine:=by rw[af,pm.length_eq]; exact hn
 have I2:Inv X pins σ (upd H l (.lst (ns.map V.int))) { s with heap:=hf,toks:=tk} :=I.laid (t':=tk) kp hl ⟨hz,vs,e,jAC hi,he⟩
 exact⟨.ref l,_,I2,rfl,q l ns (I.hok.fresh hl) srt pm⟩
end
section
variable {X:Cx}
theorem jOS {o:Expr}{to:TE}{name:Str}{apos cpos:Pos}{T id:String}{r:V->List V->Hp->VK->Prop}(pa:PlainAttrs T)(slot:Slot T name id)(hty:typeOf (.builtin id)=pure (.type "method_descriptor"))(hm:MtR X id r)(ho:JE X o to)
  (hbase:attributeBase o name X.env (eval o X.env)=eval o X.env:=by rfl) (hline:(apos.endLine==cpos.line)=true:=by rfl):JE X (.Call (.Attribute o name apos) [] [] cpos) (tBM0 X.K T r to):=⟨jS1 pa slot hty hm ho.h hbase hline⟩
def rBits:V->List V->Hp->VK->Prop:=fun x vs H Q=>∃ i,x= .int i/\vs=[]/\Q (.int (Builtin.Int.intBits i)) H
theorem jQD:MtR X "int.bit_length" rBits:=by
 intro pins s σ H x vs v us Q I rx rv h
 obtain⟨i,rfl,rfl,q⟩:=h
 obtain⟨t,rfl⟩:=rx
 have hus:=rv.zero
 subst hus
 exact call_int_bit_length ⟨.int _,H,I.tok _,⟨_,rfl⟩,q⟩
theorem jLV {i o:Expr}{ty td:TE}{pos:Pos}(hu:X.A.units+1<cLine)(hi:JE X i ty)(ho:JE X o td)(h1:behindInMarks .NotIn o=false):JT X (.Compare i [.NotIn] [o] pos) (tB (jKD ty td)):=⟨jRQ (jKX hu hi.h ho.h) h1⟩
def jR9 (i:Int)(b:Bool):TE:=fun _ H Q=>∀ p H',H' p=some (.dK [(.inl i, .bl b)])->Ext H H'->H p=none->Q (.ref p) H'
theorem jNO {i:Int}{b:Bool}{k1 k2:Nat}{p1 p2 pos:Pos} :JE X (.Dict [some (.Constant (.int i) k1 p1)] [.Constant (.bool b) k2 p2] pos) (jR9 i b):=
 ⟨fun pins s σ H Q I h=>jPP (jN3 je_int.h je_bl.h jPF) rfl rfl (by intro z; cases z) (by show 1<=15; decide) pins s σ H Q I fun p hp=>⟨j8,[(.inl i, .bl b)],rfl,by show 1<=15; decide,h p _ j8 (((Ext.refl H).new hp _).updNew hp _) hp⟩⟩
theorem jNY {K:W.Frag}{tp:Bool}{l:Addr}{xs:List V}{g:TG}{tb:TS}{D:Ends}{σ:St}{H:Hp}(Pv:Nat->St->Hp->Prop)(h0:Pv 0 σ H)(hl:∀ i σ H,Pv i σ H->Sq tp K H l xs)
  (hs:∀ i x T σ H,xs[i]?=some x->H T=none->Pv i σ H->g (.ref T) σ (upd H T (.tup [.int (i:Int),x])) fun σ2 H2=>tb { D with nx:=Pv (i+1),ct:=Pv (i+1),bk:=D.nx} σ2 H2) (hd:∀ σ H,Pv xs.length σ H->D.nx σ H):
  ∃ W:Nat->Nat->St->Hp->Prop,(∃ m,W 0 m σ H)/\∀ i m σ H,W i m σ H->
   ((Ite tp K l).stop i H/\D.nx σ H)\/((Ite tp K l).go i H/\∃ N:St->Hp->Prop,(∀ σ' H',N σ' H'->∃ m',m'<m/\W (i+1) m' σ' H')/\∀ x H',(Ite tp K l).yld i H x H'->g x σ H' fun σ2 H2=>tb { D with nx:=N,ct:=N,bk:=D.nx} σ2 H2):=by
 refine⟨fun i m σ H=>m=xs.length - i/\i<=xs.length/\Pv i σ H,⟨_,rfl,bo _,h0⟩,?_⟩
 rintro i m σ H ⟨rfl,hi,p⟩
 have s1:=hl i σ H p
 by_cases hlt:i<xs.length
 ·refine .inr ⟨⟨xs,xs[i],s1,by simp [hlt]⟩,Pv (i+1),fun σ' H' p'=>⟨xs.length - (i+1),by omega,rfl,hlt,p'⟩,fun v H'' y=>?_⟩
  obtain⟨T,x,e1,e2,e3,e4⟩:=y
  subst e2 e3
  exact hs i x T σ _ (e4 xs s1) e1 p
 ·have e:i=xs.length:=by omega
  subst e
  exact .inl ⟨⟨xs,s1,ak _⟩,hd σ H p⟩
end
def All2 {α β:Type}(R:α->β->Prop):List α->List β->Prop
 | [],[]=>True
 | a::as,b::bs=>R a b/\All2 R as bs
 | _,_=>False
section
variable {α β:Type}{R S:α->β->Prop}
theorem All2.len:∀ {as:List α}{bs:List β},All2 R as bs->as.length=bs.length
 | [],[],_=>rfl
 | _::_,_::_,h=>bP (· +1) (All2.len h.2)
theorem All2.imp (f:∀ a b,R a b->S a b):∀ {as:List α}{bs:List β},All2 R as bs->All2 S as bs
 | [],[],_=>trivial
 | _::_,_::_,h=>⟨f _ _ h.1,All2.imp f h.2⟩
theorem All2.snoc {a:α}{b:β} :∀ {as:List α}{bs:List β},All2 R as bs->R a b->All2 R (as++[a]) (bs++[b])
 | [],[],_,h=>⟨h,trivial⟩
 | _::_,_::_,h,k=>⟨h.1,All2.snoc h.2 k⟩
theorem All2.get:∀ {as:List α}{bs:List β}{i:Nat}{b:β},All2 R as bs->bs[i]?=some b->∃ a,as[i]?=some a/\R a b
 | [],[],i,b,_,h=>by simp at h
 | a::_,_::_,0,b,h,e=>by
  simp at e
  subst e
  exact⟨a,rfl,h.1⟩
 | _::_,_::_,i+1,b,h,e=>by
  obtain⟨a,h1,h2⟩:=All2.get h.2 (i:=i) (b:=b) (by simpa using e)
  exact⟨a,by simpa using h1,h2⟩
theorem All2.get':∀ {as:List α}{bs:List β}{i:Nat}{a:α},All2 R as bs->as[i]?=some a->∃ b,bs[i]?=some b/\R a b
 | [],[],i,b,_,h=>by simp at h
 | a::_,b::_,0,x,h,e=>by
  simp at e
  subst e
  exact⟨b,rfl,h.1⟩
 | _::_,_::_,i+1,x,h,e=>by
  obtain⟨b,h1,h2⟩:=All2.get' h.2 (i:=i) (a:=x) (by simpa using e)
  exact⟨b,by simpa using h1,h2⟩
theorem All2.append:∀ {as as':List α}{bs bs':List β},All2 R as bs->All2 R as' bs'->All2 R (as++as') (bs++bs')
 | [],_,[],_,_,h=>h
 | _::_,_,_::_,_,h,k=>⟨h.1,All2.append h.2 k⟩
theorem All2.of_get {as:List α}{bs:List β}(hl:as.length=bs.length)(h:∀ (i:Nat) a b,as[i]?=some a->bs[i]?=some b->R a b):All2 R as bs:=by
 induction as generalizing bs with
 | nil=>cases bs with
  | nil=>trivial
  | cons b bs=>cases hl
 | cons a as ih=>cases bs with
  | nil=>cases hl
  | cons b bs=>exact⟨h 0 a b rfl rfl,ih (by simpa using hl) fun i a b h1 h2=>h (i+1) a b (by simpa using h1) (by simpa using h2)⟩
end
def lowN (m:Nat):Nat:=if m % 2=1 then lowN (m / 2)+1 else 0
theorem jDN {m:Nat}(h:m % 2=0):lowN m=0:=by
 unfold lowN
 rw[ah (by omega)]
theorem jF9 {m:Nat}(h:m % 2=1):lowN m=lowN (m / 2)+1:=by
 rw[lowN,aj h]
theorem jR0 (a b:Nat):a&&&b=2*((a / 2)&&&(b / 2))+(a % 2)*(b % 2):=by
 have h1:(a&&&b) / 2=(a / 2)&&&(b / 2):=Nat.and_div_two
 have h2:(a&&&b) % 2=(a % 2)*(b % 2):=by
  have t:=dD a b 0
  rw[eN,eN,eN] at t
  have t':((a&&&b) % 2=1)↔(a % 2=1/\b % 2=1):=by
   rw[<- gx.trans (and_congr br br),<- t,br]
  rcases cM a with ha | ha <;> rcases cM b with hb | hb <;> rw[ha,hb] at t' ⊢ <;> omega
 omega
theorem jQG (m:Nat):(m+1) - ((m+1)&&&m)=2 ^ lowN m:=by
 induction m using strongRecOn with
 | _ m ih=>
  rw[jR0]
  rcases cM m with h | h
  ·rw[jDN h,show (m+1) / 2=m / 2 by omega,Nat.and_self,h]
   omega
  ·have:=ih (m / 2) (by omega)
   rw[jF9 h,Nat.pow_succ,show (m+1) / 2=m / 2+1 by omega,show (m+1) % 2=0 by omega]
   omega
theorem jNH (m:Nat):Builtin.Int.intBits (Builtin.bitAnd (Builtin.bitNot (m:Int)) ((m:Int)+1))=lowN m+1:=by
 have e:Builtin.bitAnd (Builtin.bitNot (m:Int)) ((m:Int)+1)=((2 ^ lowN m:Nat):Int):=by
  unfold Builtin.bitAnd
  have h1:¬ (0<=Builtin.bitNot (m:Int)):=by unfold Builtin.bitNot; omega
  have h2:(0:Int)<=(m:Int)+1:=by omega
  have h3:(Builtin.bitNot (Builtin.bitNot (m:Int))).toNat=m:=by unfold Builtin.bitNot; omega
  rw[aP h1,aw h2]
  show ((m:Int)+1) - ((((m:Int)+1).toNat&&&(Builtin.bitNot (Builtin.bitNot (m:Int))).toNat:Nat):Int)=_
  rw[h3,show ((m:Int)+1).toNat=m+1 by omega,<- jQG m]
  have:(m+1)&&&m<=m+1:=Nat.and_le_left
  omega
 rw[e]
 unfold Builtin.Int.intBits
 have hp:0<2 ^ lowN m:=dn _
 have h0:((((2 ^ lowN m:Nat):Int))==0)=false:=by
  rw[dv]
  omega
 rw[h0]
 simp [Nat.log2_two_pow]
theorem jDM (m:Nat):m.testBit (lowN m)=false:=by
 induction m using strongRecOn with
 | _ m ih=>
  rcases cM m with h | h
  ·rw[jDN h,eN,h]
   rfl
  ·rw[jF9 h,Nat.testBit_succ]
   exact ih _ (by omega)
theorem jF8 (m:Nat):∀ j,j<lowN m->m.testBit j=true:=by
 induction m using strongRecOn with
 | _ m ih=>
  intro j hj
  rcases cM m with h | h
  ·rw[jDN h] at hj
   omega
  ·rw[jF9 h] at hj
   cases j with
   | zero=>rw[eN,h]; rfl
   | succ j=>
    rw[Nat.testBit_succ]
    exact ih _ (by omega) j (by omega)
theorem jOM {m t:Nat}(h1:m.testBit t=false)(h2:∀ j,j<t->m.testBit j=true):lowN m=t:=by
 rcases Nat.lt_trichotomy (lowN m) t with h | h | h
 ·have:=h2 _ h
  rw[jDM] at this
  cases this
 ·exact h
 ·have:=jF8 m t h
  rw[h1] at this
  cases this
theorem jM4 {m w:Nat}(h:m<2 ^ w)(a:∀ j,j<w->m.testBit j=true):m=2 ^ w - 1:=by
 apply dL
 intro i
 rw[cH]
 by_cases hi:i<w
 ·rw[a i hi,aw hi]
 ·rw[aP hi]
  exact iq (aX h (cG (by decide) (by omega)))
theorem jC4 {m w:Nat}(h:m<2 ^ w)(hn:m≠2 ^ w - 1):lowN m<w:=by
 refine cQ fun z=>hn (jM4 h fun j hj=>jF8 m j (by omega))
abbrev Ch:=List (List (Int×Nat))
def fullN (ch:Ch):Nat:=2 ^ ch.length - 1
def chAt (ch:Ch)(m:Nat):List (Int×Nat):=(ch.getD (lowN m) []).filter fun c=>c.2&&&m==0
structure ChOk (ch:Ch):Prop where
 w:ch.length<=16
 len:∀ (t:Nat) (cs:List (Int×Nat)),ch[t]?=some cs->cs.length<=33
 it:∀ (t:Nat) (cs:List (Int×Nat)),ch[t]?=some cs->∀ c∈cs,c.2.testBit t=true/\c.2<2 ^ ch.length/\ -1<=c.1/\c.1<32
theorem ChOk.mem {ch:Ch}{m:Nat}{c:Int×Nat}(o:ChOk ch)(h:m<2 ^ ch.length)(hn:m≠fullN ch)(hc:c∈chAt ch m):c.2.testBit (lowN m)=true/\c.2<2 ^ ch.length/\c.2&&&m=0/\ -1<=c.1/\c.1<32:=by
 obtain⟨h1,h2⟩:=bz.mp hc
 have hl:=jC4 h hn
 rw[aE,aB hl] at h1
 obtain⟨a,b,c1,c2⟩:=o.it _ _ (aB hl) c h1
 exact⟨a,b,by simpa using h2,c1,c2⟩
theorem ChOk.up {ch:Ch}{m:Nat}{c:Int×Nat}(o:ChOk ch)(h:m<2 ^ ch.length)(hn:m≠fullN ch)(hc:c∈chAt ch m):m<m|||c.2/\m|||c.2<2 ^ ch.length:=by
 obtain⟨a,b,z,_⟩:=o.mem h hn hc
 refine⟨?_,g4 h b⟩
 refine Nat.lt_of_le_of_ne Nat.left_le_or fun e=>?_
 have t:m.testBit (lowN m)=(m|||c.2).testBit (lowN m):=bP (fun z=>z.testBit (lowN m)) e
 rw[bG,a,dJ,jDM] at t
 cases t
def gvN {α:Type}(ch:Ch)(e:α)(J:List (Int×α)->α):Nat->Nat->α
 | 0,_=>e
 | n+1,m=>if m=fullN ch then e else J ((chAt ch m).map fun c=>(c.1,gvN ch e J n (m|||c.2)))
def gv {α:Type}(ch:Ch)(e:α)(J:List (Int×α)->α)(m:Nat):α:=gvN ch e J (fullN ch - m) m
theorem jQQ {α:Type}{ch:Ch}{e:α}{J:List (Int×α)->α}(o:ChOk ch):∀ (k n m:Nat),fullN ch - m<=k->fullN ch - m<=n->m<2 ^ ch.length->gvN ch e J n m=gvN ch e J k m:=by
 intro k
 induction k with
 | zero=>
  intro n m h1 h2 h3
  have:m=fullN ch:=by
   unfold fullN at h1 ⊢
   omega
  subst this
  cases n with
  | zero=>rfl
  | succ n=>show gvN ch e J (n+1) (fullN ch)=e; rw[gvN,aj rfl]
 | succ k ih=>
  intro n m h1 h2 h3
  by_cases hm:m=fullN ch
  ·subst hm
   cases n with
   | zero=>show e=gvN ch e J (k+1) (fullN ch); rw[gvN,aj rfl]
   | succ n=>
    have q:∀ i,gvN ch e J (i+1) (fullN ch)=e:=fun i=>by rw[gvN,aj rfl]
    rw[q,q]
  ·have hlt:m<fullN ch:=by
    unfold fullN at hm ⊢
    omega
   cases n with
   | zero=>omega
   | succ n=>
    rw[gvN,ah hm,gvN,ah hm]
    congr 1
    refine cN fun c hc=>?_
    obtain⟨u1,u2⟩:=o.up h3 hm hc
    rw[ih n (m|||c.2) (by omega) (by omega) u2]
theorem jQP {α:Type}{ch:Ch}{e:α}{J:List (Int×α)->α} :gv ch e J (fullN ch)=e:=by
 unfold gv
 rw[io,gvN]
theorem jQO {α:Type}{ch:Ch}{e:α}{J:List (Int×α)->α}{m:Nat}(o:ChOk ch)(h:m<2 ^ ch.length)(hn:m≠fullN ch):gv ch e J m=J ((chAt ch m).map fun c=>(c.1,gv ch e J (m|||c.2))):=by
 have hlt:m<fullN ch:=by
  unfold fullN at hn ⊢
  omega
 have:gv ch e J m=gvN ch e J ((fullN ch - m - 1)+1) m:=by
  unfold gv
  rw[show fullN ch - m - 1+1=fullN ch - m by omega]
 rw[this,gvN,ah hn]
 congr 1
 refine cN fun c hc=>?_
 obtain⟨u1,u2⟩:=o.up h hn hc
 unfold gv
 rw[jQQ o (fullN ch - (m|||c.2)) _ _ (ak _) (by omega) u2]
end L2
end
section
namespace L2
open PySem
section
variable {X:Cx}{tg iter elt:Expr}{ifs:List Expr}{sc:Scope}{pos:Pos}{wi:TI}{g:TG}{tt:TT}{te:TE}{m:List (Option Nat)}{Nc:List Str}
end
section
variable {X:Cx}
end
end L2
end
section
namespace L2
open PySem PySem.Spec PyProof.Rows
def ZC (cl:List (Str×Addr))(fs:List Str)(fv:List V):Shared->Hp->Prop:=fun s H=>ClOk cl s H/\FvOk fs fv cl s
theorem ZC.st (cl:List (Str×Addr))(fs:List Str)(fv:List V):ZSt (ZC cl fs fv):=by
 rintro fr s s' H H' u ⟨C,F1,F2⟩
 have kc:∀ {x c v},cl.lookup x=some c->s.heap.IsCell c v->s'.heap.IsCell c v:=fun {x c v} hc ⟨o,ho,hd⟩=>by
  obtain⟨sl,e⟩:=u.any ho (C.cell x c hc).2 (by simp)
  exact⟨_,e,hd⟩
 refine⟨⟨C.inj,fun x c hc=>?_⟩,F1,fun i x v h1 h2=>?_⟩
 ·obtain⟨⟨v,o,ho,hd⟩,n⟩:=C.cell x c hc
  exact⟨⟨v,kc hc ⟨o,ho,hd⟩⟩,u.free c o ho n (by simp)⟩
 ·obtain⟨c,w,a1,a2,a3⟩:=F2 i x v h1 h2
  exact⟨c,w,a1,a2,kc a1 a3⟩
theorem Callee.ofN {P:Program}{w:World}{K:W.Frag}{mg:Str->Option Value}{base:Heap}{k:Nat}{x q:Str}{args:Arguments}{body:List Stmt}{scope:Scope}{ps fs:List Str}{sp:List V->Sp}{cl:List (Str×Addr)}{fv:List V}{a c:Addr}(F:FnN P w K mg base k x q args body scope ps fs sp):
  Callee P w K mg base (ZC cl fs fv) (fun H=>H a=some (.ext (nfP x q args body scope cl a c))/\H c=some (.ext (ncP q c))) k a (sp fv):=by
 refine⟨fun A outer s H e z=>?_,fun A outer s H us vs Q E hr e0 hz zh r hsp=>?_⟩
 ·obtain⟨⟨d,m,t,g⟩,_,_⟩:=(show ObjOk P w H s.heap a (.ext _) from e.hok a _ z.1)
  exact⟨_,_,_,_,g⟩
 ·obtain⟨p1,_,_⟩:=(show ObjOk P w H s.heap a (.ext _) from e0.hok a _ zh.1)
  obtain⟨p2,_,_⟩:=(show ObjOk P w H s.heap c (.ext _) from e0.hok c _ zh.2)
  exact F.run A outer s H a c cl us vs fv Q E hr e0 p1 p2 hz.1 hz.2 r hsp
def jRB {ι:Type}(G:ι->St->Prop)(sp:ι->Sp)(t:TA):TE:=fun σ H Q=>t σ H fun vs H1=>∃ i,G i σ/\sp i vs H1 Q E0
theorem jNR {ι:Type}{X:Cx}{Z:ι->Shared->Hp->Prop}{G:ι->St->Prop}{k:Nat}{f:Addr}{fd:FuncData}{ps:List Str}{sp:ι->Sp}{x:Str}{p pos:Pos}{e:Expr}{es:List Expr}{t:TA}(F:∀ i,FnZ X.prog X.w X.K X.mg X.base CX0 (Z i) k f fd ps (sp i))(hr:Room k X.A)(hg:Gl1 X x)(hm:X.mg x=some (.ref f))(hk:keepIn X.K (.ref f)=true)(hb:Binds X.K fd ps [])
  (hZ:∀ i pins s σ H,Inv X pins σ H s->G i σ->Z i s H) (ha:JA X (e::es) t) (he:starEach (e::es) X.env=(false,eval e X.env)::starEach es X.env) (hdb:(x==("__debug__" :Str))=false:=by decide) (hpl:(backTo pos (starEach es X.env)).any (·.1)=false:=by rfl):
  JE X (.Call (.Name x p) (e::es) [] pos) (jRB G sp t):=by
 refine⟨fun pins s σ H Q I h=>?_⟩
 refine cz (jBP I hg.a hm ?_ hdb)
 refine eY (h₀:=X.base) I.ok.mod.kin hk (thn (ha.h pos pins s σ H _ I h) fun us s1 ⟨vs,H1,I1,r,i,gi,q⟩=>⟨I1.kIn,?_⟩) he hpl
 have hl:(us++[]).length=ps.length:=by rw[aV,<- r.length]; exact(F i).len _ _ _ _ q
 have b:=hb s1 us I1.kIn hl
 rw[aV] at b
 refine eX (dy ((F i).run X.A X.stack s1 H1 ⟨us,[]⟩ us vs Q E0 hr I1.env0 b r (hZ i _ _ _ _ I1 gi) q) fun r s' hq=>?_)
 cases r with
 | error e=>exact hq.elim
 | ok fl=>
  cases fl with
  | ret u=>exact I1.after hq
  | next=>exact False.elim hq
  | brk=>exact False.elim hq
  | cont=>exact False.elim hq
theorem jNN {P:Program}{w:World}{K:W.Frag}{mg:Str->Option Value}{base:Heap}{N:List Str}{qual:Str}{sc:Scope}{f:Addr}{cd:Value}{cl:List (Str×Addr)}{A:Around}{outer:List Env}{s:Shared}{H:Hp}{x y:Str}{p1 p2 pos:Pos}{k i j:Nat}(hN:N.Nodup)(hi:N[i]?=some x)(hj:N[j]?=some y)(hx:sc.names.lookup x=some .local)(hy:sc.names.lookup y=some .local):
  JG (cxN P w K mg base N qual sc f cd cl A outer s H) (.Tuple [.Name x p1, .Name y p2] k pos) (gTup K 2 (gCons (kZ i) (gCons (kZ j) gNil))):=
 jLS (X:=cxN P w K mg base N qual sc f cd cl A outer s H) rfl (jBA (jY hN hi (loc_n hx)) (jBA (jY hN hj (loc_n hy)) jHI jCQ) jCQ)
end L2
end
section
namespace TM
open PySem PySem.Spec PyProof.Rows PySem.W
open HT (lexLt jA9)
open L2 (All2)
theorem lex_irr:∀ x:List Int,lexLt x x=false
 | []=>rfl
 | a::x=>by rw[jA9,aj rfl]; exact lex_irr x
theorem jLG:∀ {x y z:List Int},lexLt x y=true->lexLt y z=true->lexLt x z=true
 | [],[],_,h,_=>by cases h
 | [],_::_,[],_,h=>by cases h
 | [],_::_,_::_,_,_=>rfl
 | _::_,[],_,h,_=>by cases h
 | _::_,_::_,[],_,h=>by cases h
 | a::x,b::y,c::z,h,k=>by
  rw[jA9] at h k ⊢
  by_cases e1:a=b
  ·rw[aj e1] at h
   by_cases e2:b=c
   ·rw[aj e2] at k
    rw[aj (e1.trans e2)]
    exact jLG h k
   ·rw[ah e2] at k
    rw[ah (e1 ▸ e2),e1]
    exact k
  ·rw[ah e1] at h
   have h:=aK h
   by_cases e2:b=c
   ·rw[ah (e2 ▸ e1),<- e2]
    exact aw h
   ·rw[ah e2] at k
    have k:=aK k
    rw[ah (by omega)]
    exact aw (by omega)
theorem lex_tot:∀ {x y:List Int},lexLt x y=false->lexLt y x=false->x=y
 | [],[],_,_=>rfl
 | [],_::_,h,_=>by cases h
 | _::_,[],_,h=>by cases h
 | a::x,b::y,h,k=>by
  rw[jA9] at h k
  by_cases e:a=b
  ·rw[aj e] at h
   rw[aj e.symm] at k
   rw[e,lex_tot h k]
  ·rw[ah e] at h
   rw[ah (fun z=>e z.symm)] at k
   have:=eZ h
   have:=eZ k
   omega
def rk (ws:List (List Int))(x:List Int):Int:=((ws.countP fun z=>lexLt z x:Nat):Int)
theorem jFJ {p q:List Int->Bool}(h:∀ z,p z=true->q z=true):∀ ws:List (List Int),ws.countP p<=ws.countP q
 | []=>ak _
 | a::ws=>by
  have:=jFJ h ws
  rw[cW,cW]
  have:=h a
  cases hp:p a <;> cases hq:q a <;> simp_all <;> omega
theorem jJ6 {p q:List Int->Bool}(h:∀ z,p z=true->q z=true){x:List Int}(hp:p x=false)(hq:q x=true):∀ {ws:List (List Int)},x∈ws->ws.countP p<ws.countP q
 | a::ws,hx=>by
  rw[cW,cW]
  rcases aF.mp hx with e | hx
  ·have:=jFJ h ws
   rw[<- e,hp,hq]
   simp
   omega
  ·have:=jJ6 h hp hq hx
   have:=h a
   cases hpa:p a <;> cases hqa:q a <;> simp_all <;> omega
theorem rk_lt {ws:List (List Int)}{x y:List Int}(hx:x∈ws):decide (rk ws x<rk ws y)=lexLt x y:=by
 unfold rk
 cases h:lexLt x y with
 | true=>
  have:=jJ6 (p:=fun z=>lexLt z x) (q:=fun z=>lexLt z y) (fun z hz=>jLG hz h) (lex_irr x) h hx
  exact aw (by omega)
 | false=>
  refine aP ?_
  by_cases k:lexLt y x=true
  ·have:=jFJ (p:=fun z=>lexLt z y) (q:=fun z=>lexLt z x) (fun z hz=>jLG hz k) ws
   omega
  ·have:=lex_tot h (dj.mpr k)
   rw[this]
   omega
section
variable {prog:Program}{w:World}{A:Around}{E:Value->Shared->Prop}{s:Shared}{kd:SortKind}{f:Value->List Int}
abbrev odL (kd:SortKind)(f:Value->List Int)(ks:List Value):Od:=⟨kd,fun p=>rk (ks.map f) (f p.1),fun p=>p.1∈ks⟩
theorem ltL {ks:List Value}(hlt:∀ u∈ks,∀ v∈ks,∀ (Q:Bool->Shared->Prop) (E:Value->Shared->Prop),Q (lexLt (f u) (f v)) s->wpAny (model prog w) A (keyLt' kd u v) Q E s): @LtOk prog w A s (odL kd f ks):= @LtOk.mk prog w A s (odL kd f ks) fun {E st x y Q} hk hx hy h=>by
 have e:decide (@key (odL kd f ks) x< @key (odL kd f ks) y)=lexLt (f x.1) (f y.1):=rk_lt (cq hx)
 rw[e] at h
 rw[lt'_eq]
 refine aA (gk ?_)
 rw[show kindOf st=kd from hk]
 exact aA (gS (dz (hlt x.1 hx y.1 hy _ _ ⟨rfl,aG h⟩)))
theorem jG4 {vs:List Value}{p:Keyed}(h:p∈(pairsOf vs).toList):p.1=p.2/\p.1∈vs:=by
 rw[pairsOf_toList] at h
 exact mem_zip_self h
theorem allL {vs:List Value} : @AllI (odL kd f vs) (pairsOf vs).toList:=fun p hp=>(jG4 hp).2
theorem sto_out {vs:List Value}{xs:Array Keyed}(p:xs.Perm (pairsOf vs))(h: @STo (odL kd f vs) xs (pairsOf vs).size):(xs.map (·.2)).toList.Perm vs/\(xs.map (·.2)).toList.Pairwise fun u v=>lexLt (f v) (f u)=false:=by
 have pl:=cL.mp p
 have me:∀ q∈xs.toList,q.1=q.2/\q.1∈vs:=fun q hq=>jG4 (pl.mem_iff.mp hq)
 have sz:xs.size=(pairsOf vs).size:=p.size_eq
 rw[Array.toList_map]
 constructor
 ·have:=pl.map Prod.snd
  rw[pairsOf_toList,List.map_snd_zip (ak _)] at this
  exact this
 ·rw[bF,cP]
  intro i j hi hj hij
  rw[aO] at hi hj
  have k:=h i j (cJ hij) (by omega)
  have ei:xs[i]?=some xs[i]:=i9 _ i hi
  have ej:xs[j]?=some xs[j]:=i9 _ j hj
  have m1:=me xs[i] (by simp)
  have m2:=me xs[j] (by simp)
  rw[@yD (odL kd f vs) _ _ _ ei,@yD (odL kd f vs) _ _ _ ej] at k
  have e:decide (@key (odL kd f vs) xs[j]< @key (odL kd f vs) xs[i])=lexLt (f xs[j].1) (f xs[i].1):=rk_lt (cq m2.2)
  rw[iM,iM,<- m1.1,<- m2.1,<- e]
  exact aP (by omega)
end
def TupI (h:Heap)(v:Value)(l:List Int):Prop:=∃ a n its,v= .ref a/\h.get? a=some { cls:= .type "tuple",data:= .seq its n} /\IntsAre its.toList l
def decV (h:Heap):Value->List Int
 | .ref a=>match h.get? a with
  | some o=>match o.data with
   | .seq xs _=>xs.toList.map numOf
   | _=> []
  | none=> []
 | _=> []
theorem TupI.dec {h:Heap}{v:Value}{l:List Int}(t:TupI h v l):decV h v=l:=by
 obtain⟨a,n,its,rfl,ho,hi⟩:=t
 dsimp only [decV]
 rw[ho]
 exact hi.nums
section
variable {prog:Program}{w:World}{A:Around}{E:Value->Shared->Prop}{s:Shared}
theorem jQ0 {b:Bool}{x y:Int}{t u:Tok}{Q:Bool->Shared->Prop}(h:Q (decide (x<y)) s):wpAny (model prog w) A (oneLt' b (.int x t) (.int y u)) Q E s:=by
 cases b with
 | true=>exact oneLt_int h
 | false=>exact kat_one _ _ (HT.rcLt_int A s x t y u prog w E _ h)
theorem jOP {b fin:Bool}{Q:Bool->Shared->Prop} :∀ {us:List Value}{x:List Int}{vs:List Value}{y:List Int}(i:Nat),IntsAre us x->IntsAre vs y->fin=decide (us.length<vs.length)->Q (lexLt x y) s->KatLex prog w A b fin Q (us.zip vs) i s
 | _,_,_,_,i, .nil, .nil,hf,h=>by rw[hf]; exact h
 | _,_,_,_,i, .nil, .cons _ _ _,hf,h=>by rw[hf]; exact h
 | _,_,_,_,i, .cons _ _ _, .nil,hf,h=>by rw[hf]; exact h
 | _,_,_,_,i, .cons (ns:=ns) a t h1, .cons (ns:=ms) c u h2,hf,h=>by
  rw[dW]
  refine kat_cons (gM a t c u prog w _ _ ?_)
  rw[jA9] at h
  by_cases e:a=c
  ·rw[aj e] at h
   rw[show (a==c)=true by simp [e]]
   refine kat_yes (jOP (i+1) h1 h2 ?_ h)
   rw[hf,aQ,aQ]
   exact decide_eq_decide.mpr (by omega)
  ·rw[ah e] at h
   rw[show (a==c)=false by simp [e]]
   exact kat_no (jQ0 h)
theorem jLD {b:Bool}{u v:Value}{x y:List Int}{Q:Bool->Shared->Prop}(hu:TupI s.heap u x)(hv:TupI s.heap v y)(h:Q (lexLt x y) s):wpAny (model prog w) A (keyLt' (tuples' b) u v) Q E s:=by
 obtain⟨a,n,its,rfl,ho,hi⟩:=hu
 obtain⟨a2,n2,its2,rfl,ho2,hi2⟩:=hv
 exact kat_lt ho rfl ho2 rfl (jOP 0 hi hi2 rfl h)
theorem jJX (x y:Value):keyLt' general' x y=oneLt' false x y:=rfl
theorem jJQ {u v:Value}{x y:List Int}{Q:Bool->Shared->Prop}(hu:TupI s.heap u x)(hv:TupI s.heap v y)(room:A.units<cLine)(h:Q (lexLt x y) s):wpAny (model prog w) A (keyLt' general' u v) Q E s:=by
 obtain⟨a,n,its,rfl,ho,hi⟩:=hu
 obtain⟨a2,n2,its2,rfl,ho2,hi2⟩:=hv
 rw[jJX]
 exact kat_one _ _ (HT.lt_tupInts (items:=its) (items2:=its2) ⟨_,ho,rfl,n,rfl⟩ ⟨_,ho2,rfl,n2,rfl⟩ hi hi2 room h)
theorem jJP {u v:Value}{x y:List Int}{Q:Bool->Shared->Prop}(hu:TupI s.heap u x)(hv:TupI s.heap v y)(room:A.units<cLine)(h:Q (lexLt x y) s):wpAny (model prog w) A (keyLt' oneType' u v) Q E s:=by
 obtain⟨a,n,its,rfl,ho,hi⟩:=hu
 obtain⟨a2,n2,its2,rfl,ho2,hi2⟩:=hv
 rw[keyLt'_oneType,oneLt'_eq]
 simp only [gc]
 refine aa (wpAny_cRoomFor room ?_)
 have hT:s.TypeIs (.ref a) "tuple" :=⟨_,ho,rfl⟩
 refine aa (wpAny_callSpecialIfBound?_slot hT fH (iW fH hT ik (h8 _ _) (HT.tuple_lt_ints a a2 its its2 n n2 _ _ _ _ x y hi hi2) ⟨ho,ho2,?_⟩))
 exact dE h
def FsOf:List (Option Value)->List (List Int)->Prop:=All2 fun o l=>(o=none/\l=[])\/∃ n t r,o=some (Value.int n t)/\l=n::r
theorem jOT:∀ {vs:List Value}{ws:List (List Int)},All2 (TupI s.heap) vs ws->∃ fs,FsOf fs ws/\∀ (Q:List (Option Value)->Shared->Prop) (E:Value->Shared->Prop),Q fs s->wpAny (model prog w) A (vs.mapM firstOfTuple') Q E s
 | [],[],_=>⟨[],trivial,fun Q E h=>by rw[List.mapM_nil]; exact ag h⟩
 | v::vs,l::ws,⟨⟨a,n,its,e,ho,hi⟩,r⟩=>by
  obtain⟨fs,h1,h2⟩:=jOT r
  refine⟨its[0]?::fs,⟨?_,h1⟩,fun Q E h=>?_⟩
  ·obtain⟨li⟩:=its
   cases hi with
   | nil=>exact .inl ⟨rfl,rfl⟩
   | cons c t _=>exact .inr ⟨c,t,_,rfl,rfl⟩
  ·rw[List.mapM_cons,e]
   refine aa ?_
   rw[kas_first_eq]
   refine aa (Looks.here (show Looks (model prog w) s.heap (typeOf (.ref a)) (.type "tuple") from(Looks.ld ho).andThen .now) ?_)
   rw[ah (by first | decide | simp)]
   refine aa (listItems_at ho rfl (ag ?_))
   exact aa (h2 _ _ (ag h))
theorem jM5:∀ {fs:List (Option Value)}{ws:List (List Int)},FsOf fs ws->fs.all (·.isSome)=ws.all fun x=>!x.isEmpty
 | [],[],_=>rfl
 | o::fs,l::ws,⟨h,r⟩=>by
  rw[gd,gd,jM5 r]
  rcases h with ⟨rfl,rfl⟩ | ⟨n,t,r,rfl,rfl⟩ <;> rfl
theorem jHM:∀ {fs:List (Option Value)}{ws:List (List Int)},FsOf fs ws->∀ v∈fs.filterMap id,∃ n t,v=Value.int n t
 | [],[],_,v,h=>by cases h
 | o::fs,l::ws,⟨h,r⟩,v,hv=>by
  rcases h with ⟨rfl,rfl⟩ | ⟨n,t,r',rfl,rfl⟩
  ·exact jHM r v (by simpa using hv)
  ·rw[dN] at hv
   rcases aF.mp hv with e | hv
   ·exact⟨n,t,e⟩
   ·exact jHM r v hv
def kdOf (ws:List (List Int)):SortKind:=if (ws.all fun x=>!x.isEmpty)=true then tuples' true else if (ws.headD []).isEmpty=true then oneType' else general'
theorem jIJ {T:Value}{vs:List Value}(ne:vs≠ [])(hT:∀ v∈vs,Looks (model prog w) s.heap (typeOf v) T)(hT2:(T==T)=true){Q:Option Value->Shared->Prop}(h:Q (some T) s):wpAny (model prog w) A (oneTypeOnly' vs.toArray) Q E s:=by
 obtain⟨v,r,rfl⟩:=eF ne
 rw[oneTypeOnly'_eq,List.mapM_toArray,map_eq_pure_bind]
 refine aa (aa (kas_mapM (r:=T) _ (fun v hv Q' hq=>(hT v hv).here hq) (ag ?_)))
 have hall2:((List.map (fun _=>T) (v::r)).toArray.all fun x=>x==T)=true:=by
  simp only [List.all_toArray,all_map,cC]
  intro _ _
  exact hT2
 have h0:(List.map (fun _=>T) (v::r)).toArray[0]?=some T:=by simp
 rw[h0]
 simp only [hall2,gc]
 exact ag h
theorem jMX {v:Value}{l:List Int}(h:TupI s.heap v l):Looks (model prog w) s.heap (typeOf v) (.type "tuple"):=by
 obtain⟨a,n,its,rfl,ho,_⟩:=h
 exact(Looks.ld ho).andThen .now
theorem jQJ {vs:List Value}{ws:List (List Int)}{Q:SortKind->Shared->Prop}(t:All2 (TupI s.heap) vs ws)(h2:vs≠ [])(h:Q (kdOf ws) s):wpAny (model prog w) A (keyKind' vs.toArray) Q E s:=by
 obtain⟨fs,f1,f2⟩:=jOT (prog:=prog) (w:=w) (A:=A) t
 rw[kat_kind_eq,List.mapM_toArray,map_eq_pure_bind]
 refine aa (aa (f2 _ _ (ag ?_)))
 have e:=jM5 f1
 have ha:(fs.toArray.all fun x=>x.isSome)=fs.all (·.isSome):=by simp
 unfold kdOf at h
 rw[ha,e]
 cases hc:(ws.all fun x=>!x.isEmpty) with
 | true=>
  rw[hc,aj rfl] at h
  rw[aj rfl]
  refine aa (cU ?_)
  have hf:(fs.toArray.filterMap id)=(fs.filterMap id).toArray:=by simp
  rw[hf]
  have ne:fs.filterMap id≠ []:=by
   intro z
   obtain⟨v,vs',rfl⟩:=eF h2
   cases ws with
   | nil=>exact t.elim
   | cons l ws=>
    cases fs with
    | nil=>exact f1.elim
    | cons o fs=>
     rcases f1.1 with ⟨_,q⟩ | ⟨n,t',r,q,_⟩
     ·rw[q] at hc; simp at hc
     ·rw[q,dN] at z; cases z
  refine aa (jIJ (T:= .type "int") ne (fun v hv=>?_) rfl (ag ?_))
  ·obtain⟨n,t',e⟩:=jHM f1 v hv
   rw[e]
   exact .now
  ·exact h
 | false=>
  rw[hc,ah ai] at h
  rw[ah ai]
  obtain⟨v,vs',rfl⟩:=eF h2
  cases ws with
  | nil=>exact t.elim
  | cons l ws=>
   cases fs with
   | nil=>exact f1.elim
   | cons o fs=>
    have h0:(o::fs).toArray[0]?=some o:=by simp
    rw[h0]
    rcases f1.1 with ⟨q,q2⟩ | ⟨n,t',r,q,q2⟩
    ·rw[q2] at h
     rw[q,ah (by simp)]
     refine aa (jIJ (T:= .type "tuple") h2 (fun u hu=>?_) rfl (ag h))
     obtain⟨i,hi⟩:=bv hu
     obtain⟨l',_,hl⟩:=t.get' hi
     exact jMX hl
    ·rw[q2] at h
     rw[q,aj (by simp)]
     exact ag h
theorem lt_kd {ws:List (List Int)}{u v:Value}{x y:List Int}{Q:Bool->Shared->Prop}(hu:TupI s.heap u x)(hv:TupI s.heap v y)(room:A.units<cLine)(h:Q (lexLt x y) s):wpAny (model prog w) A (keyLt' (kdOf ws) u v) Q E s:=by
 unfold kdOf
 split
 ·exact jLD hu hv h
 ·split
  ·exact jJP hu hv room h
  ·exact jJQ hu hv room h
theorem askT {f:Value->List Int}{a:Addr}{vs:List Value}{ws:List (List Int)}(t:All2 (TupI s.heap) vs ws)(hf:∀ v l,v∈vs->TupI s.heap v l->f v=l)(na:∀ v∈vs,v≠ .ref a)(room:A.units<cLine)(h2:2<=vs.length): @AskOk (odL (kdOf ws) f vs) prog w A s a vs:=fun h6 k6=>by
 have keep:∀ v l,v∈vs->TupI s.heap v l->TupI h6 v l:=fun v l hv ⟨c,n,its,e,ho,hi⟩=>⟨c,n,its,e,k6 _ _ ho fun z=>na v hv (by rw[e,z]),hi⟩
 have t6:All2 (TupI h6) vs ws:=by
  have go:∀ {us:List Value}{ls:List (List Int)},(∀ v∈us,v∈vs)->All2 (TupI s.heap) us ls->All2 (TupI h6) us ls:=by
   intro us
   induction us with
   | nil=>intro ls _ h; cases ls with
    | nil=>trivial
    | cons _ _=>exact h.elim
   | cons u us ih=>intro ls hm h; cases ls with
    | nil=>exact h.elim
    | cons l ls=>exact⟨keep u l (hm u (az ..)) h.1,ih (fun v hv=>hm v (aM _ hv)) h.2⟩
  exact go (fun v hv=>hv) t
 have ne:vs≠ []:=fun z=>by rw[z] at h2; exact absurd h2 (by decide)
 refine⟨fun Q E h=>jQJ (s:= { s with heap:=h6}) t6 ne h,ltL fun u hu v hv Q E h=>?_⟩
 obtain⟨i,hi⟩:=bv hu
 obtain⟨j,hj⟩:=bv hv
 obtain⟨x,_,hx⟩:=t.get' hi
 obtain⟨y,_,hy⟩:=t.get' hj
 rw[hf u x hu hx,hf v y hv hy] at h
 exact lt_kd (s:= { s with heap:=h6}) (keep _ _ hu hx) (keep _ _ hv hy) room h
theorem sorted_gen [Od]{l:Addr}{vs:List Value}{Q:Value->Shared->Prop}(hl:s.heap.IsList l vs.toArray)(hz:vs.length<=sizeLine)(hI:AllI (pairsOf vs).toList)
  (hk:2<=vs.length->∀ (h5:Heap) (a:Addr),(∀ c o,s.heap.get? c=some o->h5.get? c=some o)->s.heap.objs.size<=a->AskOk prog w A.in1.in1 { s with heap:=h5} a vs)
  (h:∀ xs:Array Keyed,xs.Perm (pairsOf vs)->STo xs (pairsOf vs).size->Q (.ref (s.heap.objs.size+1)) { s with heap:=sortedAll s.heap vs (xs.map (·.2))}):
  wpAny (model prog w) A (call (.builtin "sorted") [.ref l]) Q E s:=by
 refine eO kind_sorted plain_sorted entry_sorted (args_sorted1 _) ?_
 unfold Builtin.«sorted»
 refine aa (m:=checkCount "sorted" 1 1 _) (ag ?_)
 refine aa (collect_list hl ?_ hz)
 refine aa (eS ?_ hz)
 have hsz:((s.heap.push (seqObj "list" #[] 0)).update s.heap.objs.size (Obj.mapSeq (· ++vs.toArray))).objs.size=s.heap.objs.size+1:=by
  rw[eM,size_push']
 have hoL:(((s.heap.push (seqObj "list" #[] 0)).update s.heap.objs.size (Obj.mapSeq (· ++vs.toArray))).push (seqObj "list" vs.toArray 0)).get? (s.heap.objs.size+1)=some (seqObj "list" vs.toArray 0):=by
  rw[<- hsz]; exact am _ rfl
 have k5:∀ c o,s.heap.get? c=some o->(((s.heap.push (seqObj "list" #[] 0)).update s.heap.objs.size (Obj.mapSeq (· ++vs.toArray))).push (seqObj "list" vs.toArray 0)).get? c=some o:=fun c o q=>by
  refine ae _ ?_
  rw[bA _ _ (dF (ay q))]
  exact ae _ q
 show wpAny _ _ _ _ _ { s with heap:=((s.heap.push (seqObj "list" #[] 0)).update s.heap.objs.size (Obj.mapSeq (· ++vs.toArray))).push (seqObj "list" vs.toArray 0)}
 rw[hsz]
 refine aa (bB (bR gN ⟨_,hoL,rfl⟩ gA (by
  rw[jKU]
  exact jIA hoL hz hI (fun h2=>hk h2 _ _ k5 (fe _)) fun xs p1 p2=>⟨_,rfl,ag ⟨_,rfl,h xs p1 p2⟩⟩) (args_list_sort _)))
end
end TM
namespace L2
open PySem PySem.Spec PyProof.Rows
section
variable {X:Cx}
def TsOf (H:Hp)(us:List V)(ws:List (List Int)):Prop:=All2 (fun v x=>∃ a,v=V.ref a/\H a=some (.tup (x.map V.int))) us ws
theorem TsOf.tups {pins:List (Addr×Obj)}{σ:St}{H:Hp}{s:Shared}(I:Inv X pins σ H s):∀ {us:List V}{its:List Value}{ws:List (List Int)},Vals us its->TsOf H us ws->All2 (TM.TupI s.heap) its ws
 | [],_,[], .nil,_=>trivial
 | _::_,_,_::_, .cons r rs,⟨⟨a,e,h⟩,t⟩=>by
  subst e
  cases r
  obtain⟨_,its,r2,n,ho⟩:=(show ObjOk X.prog X.w H s.heap a (.tup _) from I.hok a _ h)
  exact⟨⟨a,n,its.toArray,rfl,ho,jJV r2⟩,TsOf.tups I rs t⟩
def refV:Value->V
 | .ref a=> .ref a
 | _=> .non
theorem jI3 {h:Heap} :∀ {its:List Value}{ws:List (List Int)},All2 (TM.TupI h) its ws->its.map (TM.decV h)=ws
 | [],[],_=>rfl
 | _::_,_::_,⟨t,r⟩=>by rw[bg,t.dec,jI3 r]
theorem ts_at {H:Hp}{us:List V}{its:List Value}{ws:List (List Int)}{h:Heap}(r:Vals us its)(t:TsOf H us ws)(d:All2 (TM.TupI h) its ws){v:Value}(hv:v∈its):∃ a,v= .ref a/\H a=some (.tup ((TM.decV h v).map V.int)):=by
 induction r generalizing ws with
 | nil=>cases hv
 | cons q rs ih=>
  cases ws with
  | nil=>exact t.elim
  | cons l ws=>
   obtain⟨⟨a,e,ha⟩,t⟩:=t
   rcases aF.mp hv with z | hv
   ·subst e
    cases q
    rw[z,d.1.dec]
    exact⟨a,rfl,ha⟩
   ·exact ih t d.2 hv
theorem jR7 {H:Hp}{h:Heap}{out:List Value} :(∀ v∈out,∃ a,v= .ref a/\H a=some (.tup ((TM.decV h v).map V.int)))->Vals (out.map refV) out/\TsOf H (out.map refV) (out.map (TM.decV h)):=by
 induction out with
 | nil=>exact fun _=>⟨.nil,trivial⟩
 | cons v out ih=>
  intro k
  obtain⟨a,rfl,ha⟩:=k v (az ..)
  obtain⟨i1,i2⟩:=ih fun u hu=>k u (aM _ hu)
  exact⟨.cons rfl i1,⟨a,rfl,ha⟩,i2⟩
theorem jCD (hu:X.A.units+101<cLine):yO X (.builtin "sorted") (fun xs H Q=>∃ (p:Addr) (us:List V) (ws:List (List Int)),xs=[.ref p]/\SqL X.K H p us/\TsOf H us ws/\
  ∀ (l:Addr) (us':List V) (ws':List (List Int)),H l=none->TsOf H us' ws'->ws'.Perm ws->ws'.Pairwise (fun x y=>HT.lexLt y x=false)->Q (.ref l) (upd H l (.lst us'))):=by
 intro pins s σ H xs us Q I r h
 obtain⟨p,us,ws,rfl,hp,ht,q⟩:=h
 obtain⟨u,rfl,rx⟩:=r.one
 cases rx
 obtain⟨its,r',pl,hz⟩:=I.list hp
 have hlen:=r'.length
 have d:=TsOf.tups I r' ht
 have hat:=fun v (hv:v∈its)=>ts_at r' ht d hv
 refine @TM.sorted_gen _ _ _ _ _ (TM.odL (TM.kdOf ws) (TM.decV s.heap) its) _ _ _ pl.isList (by omega) TM.allL (fun h2 h5 a k5 ha=>?_) fun out p1 p2=>?_
 ·have keep:∀ {vs:List Value}{ls:List (List Int)},All2 (TM.TupI s.heap) vs ls->All2 (TM.TupI h5) vs ls:=fun h=>All2.imp (fun v l ⟨c,n,its,e,ho,hi⟩=>⟨c,n,its,e,k5 _ _ ho,hi⟩) h
  refine TM.askT (s:= { s with heap:=h5}) (keep d) (fun v l hv t=>?_) (fun v hv e=>?_) (by rw[dQ,dQ]; omega) h2
  ·obtain⟨i,hi⟩:=bv hv
   obtain⟨l',hl',t'⟩:=d.get' hi
   obtain⟨l2,hl2,t2⟩:=(keep d).get' hi
   rw[hl'] at hl2
   cases hl2
   rw[t'.dec,<- t2.dec]
   exact t.dec
  ·obtain⟨c,e2,hc⟩:=hat v hv
   obtain⟨_,its2,_,n,ho⟩:=(show ObjOk X.prog X.w H s.heap c (.tup _) from I.hok c _ hc)
   rw[e2] at e
   cases e
   exact absurd (ay ho) (Nat.not_lt.mpr ha)
 ·obtain⟨o1,o2⟩:=TM.sto_out p1 p2
  obtain⟨v1,v2⟩:=jR7 (H:=H) (h:=s.heap) (out:=(out.map (·.2)).toList) fun v hv=>hat v (o1.mem_iff.mp hv)
  obtain⟨e,he⟩:=sortedAll_at s.heap its (out.map (·.2))
  have hz2:((out.map (·.2)).toList.map refV).length<=sizeLine:=by
   rw[af,o1.length_eq]
   omega
  have I2:Inv X pins σ (upd H (s.heap.objs.size+1) (.lst ((out.map (·.2)).toList.map refV))) { s with heap:=sortedAll s.heap its (out.map (·.2))} :=I.laid (t':=s.toks) (fun b o e=>sortedAll_old e) (fe _) ⟨hz2,(out.map (·.2)).toList,e,v1,by rw[dI]; exact he⟩
  refine⟨.ref _,_,I2,rfl,q _ _ ((out.map (·.2)).toList.map (TM.decV s.heap)) (I.hok.fresh (fe _)) v2 ?_ ?_⟩
  ·rw[<- jI3 d]
   exact o1.map _
  ·exact bF.mpr o2
theorem jIS:∀ {x y:List (List Int)},x.Perm y->x.Pairwise (fun a b=>HT.lexLt b a=false)->y.Pairwise (fun a b=>HT.lexLt b a=false)->x=y
 | [],y,p,_,_=>(List.nil_perm.mp p).symm
 | a::x,[],p,_,_=>absurd (List.perm_nil.mp p) (by simp)
 | a::x,b::y,p,h,k=>by
  obtain⟨h1,h2⟩:=cA.mp h
  obtain⟨k1,k2⟩:=cA.mp k
  have e:a=b:=by
   refine TM.lex_tot ?_ ?_
   ·rcases aF.mp (p.mem_iff.mp (az ..)) with z | z
    ·rw[z]; exact TM.lex_irr b
    ·exact k1 a z
   ·rcases aF.mp (p.mem_iff.mpr (az ..)) with z | z
    ·rw[z]; exact TM.lex_irr a
    ·exact h1 b z
  subst e
  rw[jIS (List.perm_cons a |>.mp p) h2 k2]
end
end L2
end
section
end
section
namespace Eo
open PySem L2
def Keep (H H':Hp)(p:Addr):Prop:=∀ b o,H b=some o->b≠p->H' b=some o
structure Txt (mg:Str->Option Value):Prop where
 len:mg "len" =none
 range:mg "range" =none
 tuple:mg "tuple" =none
 sorted:mg "sorted" =none
 set:mg "set" =none
 list:mg "list" =none
 int:mg "int" =none
 isinstance:mg "isinstance" =none
 bool:mg "bool" =none
 str:mg "str" =none
 all:mg "all" =none
 zip:mg "zip" =none
 max:mg "max" =none
 min:mg "min" =none
 any:mg "any" =none
 abs:mg "abs" =none
 sum:mg "sum" =none
 enumerate:mg "enumerate" =none
 dict:mg "dict" =none
 ValueError:mg "ValueError" =none
structure Can (P:Program)(w:World)(K:W.Frag)(mg:Str->Option Value)(base:Heap)(x:Str)(k:Nat)(f:Addr)(fd:FuncData)(ps:List Str)(sp:Sp):Prop where
 G:FnOk P w K mg base CX0 k f fd ps sp
 m:mg x=some (.ref f)
 kp:keepIn K (.ref f)=true
 b:Binds K fd ps []
theorem Can.pe {X:Cx}{x:Str}{k:Nat}{f:Addr}{fd:FuncData}{ps:List Str}{sp:Sp}{e:Expr}{es:List Expr}{t:TA}{p pos:Pos}(C:Can X.prog X.w X.K X.mg X.base x k f fd ps sp)(hr:Room k X.A)(hg:Gl X x)(ha:PA X (e::es) t)(hdb:(x==("__debug__" :Str))=false:=by decide)
  (he:starEach (e::es) X.env=(false,eval e X.env)::starEach es X.env:=by rfl) (hpl:(backTo pos (starEach es X.env)).any (·.1)=false:=by rfl):PE X (.Call (.Name x p) (e::es) [] pos) (tCall sp [] E0 t):=
 jPU C.G hr hg C.m C.kp C.b .nil pass0 ha hdb he hpl
theorem Can.je {X:Cx}{x:Str}{k:Nat}{f:Addr}{fd:FuncData}{ps:List Str}{sp:Sp}{e:Expr}{es:List Expr}{t:TA}{p pos:Pos}(C:Can X.prog X.w X.K X.mg X.base x k f fd ps sp)(hr:Room k X.A)(hg:Gl1 X x)(ha:JA X (e::es) t)(he:starEach (e::es) X.env=(false,eval e X.env)::starEach es X.env)
  (hdb:(x==("__debug__" :Str))=false:=by decide) (hpl:(backTo pos (starEach es X.env)).any (·.1)=false:=by rfl):JE X (.Call (.Name x p) (e::es) [] pos) (tCall sp [] E0 t):=
 ⟨C.pe hr hg.a ha.h hdb he hpl⟩
section
variable {P:Program}{w:World}{K:W.Frag}{mg:Str->Option Value}{base:Heap}
def jBJ (K:W.Frag):Sp:=fun vs H Q _=>∃ (a:Addr) (ns:List Int) (k:Int),vs=[.ref a, .int k]/\SqL K H a (ns.map V.int)/\0<=k/\∀ c:Int,Q (.int c) H
theorem jRI:FnScope ["script","k"] ["script","k"] (j7 sCell):=⟨rfl,rfl,rfl,by decide+kernel,rfl,by decide+kernel,by decide+kernel⟩
theorem jQ9 {f:Addr}{fd:FuncData}(F:Fun K "_law_cell_at" "_law_cell_at" sCell f fd)(T:Txt mg):FnOk P w K mg base CX0 1 f fd ["script","k"] (jBJ K):=by
 refine F.ok jRI (fun vs H Q E h=>?_) (fun cdv A outer s H vs Q E hr h=>?_)
 ·obtain⟨a,ns,k,rfl,_⟩:=h
  rfl
 ·obtain⟨a,ns,k,rfl,hS,h0,q⟩:=h
  refine⟨_,kQ (ps_if (jDE op_lt (pv 1) (jF1 jA1 (by rfl) T.len PySem.boot_len (jV (pv 0) yA)) (jN _)) (jAS (jCT (pe_ix jAW (pv 0) (pv 1) (fun _ _=>rfl)))) jEZ) (jAS (jCT jM)),?_⟩
  refine⟨_,rfl,_,rfl,a,_,rfl, .inl hS,_,_,rfl,rfl,_,rfl,?_⟩
  refine ite2 (fun hlt=>?_) (fun _=>?_)
  ·have hlt:k<((ns.map V.int).length:Int):=aK hlt
   have hk:k.toNat<ns.length:=by rw[af] at hlt; omega
   refine⟨_,rfl,_,rfl,a,_,k, .int (ns[k.toNat]),rfl,rfl,hS,?_,q _⟩
   have e:(k.toNat:Int)=k:=by omega
   have q2:=jBR (xs:=ns.map V.int) (j:=k.toNat) (v:=V.int ns[k.toNat]) (by simp [hk])
   rw[e] at q2
   exact q2
  ·exact q 0
def kT:Sp:=fun vs H Q _=>∃ (p:Addr) (N w:Int),vs=[.ref p, .int w]/\H p=some (.lst [.int N])/\0<=N/\0<w/\w<2 ^ 64/\∀ N' r:Int,0<=N'->0<=r->r<w->Q (.int r) (upd H p (.lst [.int N']))
theorem scTake:FnScope ["pot","wide","found"] ["pot","wide"] (j7 sTake):=⟨rfl,rfl,rfl,by decide+kernel,rfl,by decide+kernel,by decide+kernel⟩
theorem jQ3 {f:Addr}{fd:FuncData}(F:Fun K "_law_take" "_law_take" sTake f fd):FnOk P w K mg base CX0 1 f fd ["pot","wide"] kT:=by
 refine F.ok scTake (fun vs H Q E h=>?_) (fun cdv A outer s H vs Q E hr h=>?_)
 ·obtain⟨a,ns,k,rfl,_⟩:=h
  rfl
 ·obtain⟨p,N,w,rfl,hp,h0,h1,h2,q⟩:=h
  refine⟨_,kQ (yX (i:=2) scTake.nd rfl (Or.inl rfl) (kG jG5 (pe_ix jAW (pv 0) jM (fun _ _=>rfl)) (pv 1)))
   (kQ (jOF (kG jII (pe_ix jAW (pv 0) jM (fun _ _=>rfl)) (pv 1)) (jRV (pv 0) jM jMY))
   (jAS (jCT (pv 2)))),?_⟩
  refine⟨_,rfl,p,_,0, .int N,rfl,rfl,SqL.of hp,rfl,_,rfl,_,_,rfl,rfl,h1,?_⟩
  refine⟨_,rfl,p,_,0, .int N,rfl,rfl,SqL.of hp,rfl,_,rfl,_,_,rfl,rfl,⟨h1,h2⟩,?_⟩
  refine⟨_,rfl,p,_,0,0,rfl,rfl,hp,rfl,_,rfl,?_⟩
  exact q _ _ (Int.ediv_nonneg h0 (by omega)) (Int.emod_nonneg _ (by omega)) (i5 _ h1)
def spPot:Sp:=fun vs H Q _=>∃ c:Int,vs=[.int c]/\∀ (p:Addr) (N:Int),H p=none->0<=N->Q (.ref p) (upd H p (.lst [.int N]))
theorem scPot:FnScope ["cell","number","j","more"] ["cell"] (j7 sPot):=⟨rfl,rfl,rfl,by decide+kernel,rfl,by decide+kernel,by decide+kernel⟩
theorem jS7 {f:Addr}{fd:FuncData}(F:Fun K "_law_pot" "_law_pot" sPot f fd)(T:Txt mg):FnOk P w K mg base CX0 1 f fd ["cell"] spPot:=by
 refine F.ok scPot (fun vs H Q E h=>?_) (fun cdv A outer s H vs Q E hr h=>?_)
 ·obtain⟨c,rfl,_⟩:=h
  rfl
 ·obtain⟨c,rfl,q⟩:=h
  have one: [V.int 0].length<=sizeLine:=by show 1<=sizeLine; decide
  refine⟨_,kQ (ps_if (jDE op_ge (pv 0) (kG jKY jM jM) (jN _)) (jAS (jCT (jIG (jV (kG jEG (pv 0) (kG jKY jM jM)) yA)))) jEZ)
   (kQ (yX (i:=1) scPot.nd rfl (Or.inl rfl) jM)
   (kQ (jOE dr rfl (jC0 rfl T.range (jV jM yA)) (jF0 (i:=2) scPot.nd rfl (Or.inl rfl))
    (kQ (yX (i:=3) scPot.nd rfl (Or.inl rfl) (kG jG5 (kG jCV (kG kY (kG kY (kG jG5 (pv 0) jM) (kG jCV jM (pv 2))) jM) jM) jM))
    (kQ (yX (i:=3) scPot.nd rfl (Or.inl rfl) (kG jG5 (kG kY (kG kY (kG jCV (pv 3) (pv 3)) (kG jCV jM (pv 2))) jM) jM))
    (jAS (yX (i:=1) scPot.nd rfl (Or.inl rfl) (kG kY (kG jCV (pv 1) jM) (pv 3)))))))
   (jAS (jCT (jIG (jV (pv 1) yA)))))),?_⟩
  refine⟨_,rfl,_,_,rfl,rfl,⟨by decide,by decide,by decide⟩,_,_,rfl,rfl,_,rfl,?_⟩
  refine ite2 (fun hge=>?_) (fun _=>?_)
  ·refine⟨_,rfl,_,_,rfl,rfl,⟨by decide,by decide,by decide⟩,_,_,rfl,rfl,one,fun p hp=>q p _ hp ?_⟩
   exact Int.sub_nonneg_of_le (aK hge)
  ·refine⟨64,rfl,by decide,by decide,jDW (n:=64) (fun i σ H2=>∃ (num:Int) (v1 v2:Option V),σ=[some (.int c),some (.int num),v1,v2]/\0<=num/\H2=H) ⟨0,none,none,rfl,dc _,rfl⟩ ?_ ?_⟩
   ·rintro i σ H2 hi ⟨num,v1,v2,rfl,hn,rfl⟩
    refine⟨_,rfl,_,_,rfl,rfl,(by show (0:Int)<2147483629; decide),_,rfl,_,_,rfl,rfl, .inl ⟨by decide,by decide⟩,_,_,rfl,rfl,_,_,rfl,rfl,_,_,rfl,rfl, .inr ⟨by decide,by decide⟩,_,_,rfl,rfl,(by show (0:Int)<2147483647; decide),?_⟩
    refine⟨_,rfl,_,rfl,_,_,rfl,rfl, .inl ⟨?_,?_⟩,_,rfl,_,_,rfl,rfl, .inl ⟨by decide,by decide⟩,_,_,rfl,rfl,_,_,rfl,rfl,_,_,rfl,rfl,(by show (0:Int)<2147483587; decide),?_⟩
    ·omega
    ·omega
    ·refine⟨_,rfl,_,_,rfl,rfl, .inr ⟨by decide,by decide⟩,_,rfl,_,_,rfl,rfl,?_⟩
     refine⟨_,_,_,rfl,?_,rfl⟩
     omega
   ·rintro σ H2 ⟨num,v1,v2,rfl,hn,rfl⟩
    exact⟨_,rfl,one,fun p hp=>q p num hp hn⟩
end
theorem jDB {H:Hp}{a:Addr}{o o':HO} :upd (upd H a o) a o'=upd H a o':=by
 funext b
 unfold upd
 by_cases h:b=a
 ·rw[aj h,aj h]
 ·rw[ah h,ah h,ah h]
theorem y6 {H:Hp}{a b:Addr}{o:HO}(h:upd H a o b=none):b≠a/\H b=none:=by
 have h1:b≠a:=fun e=>by rw[e,j8] at h; cases h
 exact⟨h1,by rw[jA h1] at h; exact h⟩
theorem Keep.refl (H:Hp)(p:Addr):Keep H H p:=fun _ _ h _=>h
theorem Keep.trans {H H1 H2:Hp}{p:Addr}(a:Keep H H1 p)(b:Keep H1 H2 p):Keep H H2 p:=fun c o h n=>b c o (a c o h n) n
theorem Keep.upd {H H1:Hp}{p:Addr}(a:Keep H H1 p)(o:HO):Keep H (upd H1 p o) p:=fun c u h n=>by rw[jA n]; exact a c u h n
theorem Keep.new {H H1:Hp}{p l:Addr}(a:Keep H H1 p)(hl:H1 l=none)(o:HO):Keep H (L2.upd H1 l o) p:=fun c u h n=>by
 have:=a c u h n
 rw[jA (jB this hl)]
 exact this
theorem pw {w:Int}(h1:1<=w)(h2:w<=16):(2:Int)<=2 ^ w.toNat/\(2:Int) ^ w.toNat<=65536:=by
 have e:∀ n:Nat,n<17->1<=n->(2:Int)<=2 ^ n/\(2:Int) ^ n<=65536:=by decide+kernel
 exact e w.toNat (by omega) (by omega)
structure Lot (w:Int)(ts:List Int):Prop where
 ris:ts.Pairwise (· < ·)
 bnd:∀ z∈ts,0<=z/\z<w
 ne:ts≠ []
def bits (n:Int)(k:Nat):List Int:=((List.range k).filter fun t=>decide (Builtin.bitAnd (n / 2 ^ t) 1=1)).map fun (t:Nat)=>(t:Int)
theorem jGP (n:Int)(k:Nat):bits n (k+1)=bits n k++(if decide (Builtin.bitAnd (n / 2 ^ k) 1=1)=true then [(k:Int)] else []):=by
 unfold bits
 rw[gB,bW,aS]
 congr 1
 rw[ck]
 split <;> rfl
theorem jO6 {n w:Int}(h1:1<=n)(hw:0<=w)(h2:n<2 ^ w.toNat):Lot w (bits n w.toNat):=by
 refine⟨?_,fun z hz=>?_,?_⟩
 ·unfold bits
  rw[bF]
  have:=(ir (n:=w.toNat)).filter (fun t=>decide (Builtin.bitAnd (n / 2 ^ t) 1=1))
  exact this.imp fun h=>by omega
 ·unfold bits at hz
  obtain⟨t,ht,rfl⟩:=aW.mp hz
  have:=bO.mp (bz.mp ht).1
  omega
 ·obtain⟨m,rfl⟩:∃ m:Nat,n=(m:Int):=⟨n.toNat,by omega⟩
  have hm:m≠0:=by omega
  have hlt:m<2 ^ w.toNat:=by
   have:((m:Nat):Int)<((2 ^ w.toNat:Nat):Int):=by rw[Int.natCast_pow]; exact h2
   omega
  obtain⟨i,hi⟩:=Nat.exists_testBit_of_ne_zero hm
  have hiw:i<w.toNat:=by
   rcases fq i w.toNat with h | h
   ·exact h
   ·rw[iq (aX hlt (cG (by omega) h))] at hi
    cases hi
  have hb:Builtin.bitAnd ((m:Int) / 2 ^ i) 1=1:=by
   have e:((m:Int) / 2 ^ i)=((m / 2 ^ i:Nat):Int):=by rw[Int.natCast_ediv,Int.natCast_pow]; rfl
   rw[e,PyProof.Rows.bitAnd_pp (eW _) (by decide)]
   have e2:(((m / 2 ^ i:Nat):Int).toNat&&&(1:Int).toNat)=1:=by
    rw[bE]
    show (m / 2 ^ i)&&&1=1
    rw[Nat.and_one_is_mod]
    have:=hi
    rw[Nat.testBit_eq_decide_div_mod_eq] at this
    exact aK this
   rw[e2]
   rfl
  intro z
  have hmem:(i:Int)∈bits (m:Int) w.toNat:=by
   unfold bits
   exact aW.mpr ⟨i,bz.mpr ⟨bO.mpr hiw,aw hb⟩,rfl⟩
  rw[z] at hmem
  cases hmem
section
variable {P:Program}{w:World}{K:W.Frag}{mg:Str->Option Value}{base:Heap}
def qG:Sp:=fun vs H Q _=>∃ (p:Addr) (N w:Int),vs=[.ref p, .int w]/\H p=some (.lst [.int N])/\0<=N/\1<=w/\w<=16/\
 ∀ (q:Addr) (N':Int) (ts:List Int) (H':Hp),0<=N'->Lot w ts->H' q=some (.tup (ts.map V.int))->H' p=some (.lst [.int N'])->Keep H H' p->Q (.ref q) H'
theorem scLot:FnScope ["pot","wide","way","number","start","step","size"] ["pot","wide"] (j7 sLot):=⟨rfl,rfl,rfl,by decide+kernel,rfl,by decide+kernel,by decide+kernel⟩
theorem jS9 {f fT:Addr}{fd fdT:FuncData}(F:Fun K "_law_lot" "_law_lot" sLot f fd)(T:Txt mg)(CT:Can P w K mg base "_law_take" 1 fT fdT ["pot","wide"] kT):FnOk P w K mg base CX0 2 f fd ["pot","wide"] qG:=by
 refine F.ok scLot (fun vs H Q E h=>?_) (fun cdv A outer s H vs Q E hr h=>?_)
 ·obtain⟨a,ns,k,rfl,_⟩:=h
  rfl
 ·obtain⟨p,N,w,rfl,hp,hN,h1,h2,q⟩:=h
  have hpw:=pw h1 h2
  have nd:=scLot.nd
  refine⟨_,kQ (yX (i:=2) nd rfl (Or.inl rfl) (CT.pe hr rfl (jV (pv 0) (jV jM yA))))
   (kQ (ps_if (jDE qI (pv 2) jM (jN _))
    (kQ (yX (i:=3) nd rfl (Or.inr rfl) (kG kY jM (CT.pe hr rfl (jV (pv 0) (jV (kG jEG (kG jIH jM (pv 1)) jM) yA)))))
    (jAS (jCT (jC1 jA0 rfl T.tuple (by decide+kernel) (jV
     (jH8 (m:=[none,some 3]) (Nc:=["t","number"]) rfl (jC0 rfl T.range (jV (pv 1) yA)) rfl (by decide+kernel) (by decide+kernel) (kL (psc:=j7 sLot) (by decide+kernel))
      (jS (N:=["pot","wide","way","number","start","step","size"]) rfl rfl (by decide+kernel))
      (fun cl C fp s H=>jF0 (i:=0) (show (["t","number"]:List Str).Nodup by decide+kernel) rfl (Or.inl rfl))
      (fun cl C fp s H=>jKM (jDE qI (kG jL2 (kG jS4 (pv 1) (pv 0)) jM) jM (jN _)))
      (fun cl C fp s H=>pv 0)) yA)))))
    jEZ)
   (kQ (yX (i:=4) nd rfl (Or.inr rfl) (CT.pe hr rfl (jV (pv 0) (jV (pv 1) yA))))
   (kQ (yX (i:=5) nd rfl (Or.inr rfl) (kG kY jM (CT.pe hr rfl (jV (pv 0) (jV jM yA)))))
   (kQ (yX (i:=6) nd rfl (Or.inl rfl) (kG kY jM (CT.pe hr rfl (jV (pv 0) (jV (pe_ix jAW (jIG (jV jM (jV jM (jV jM yA)))) (kG jEG (pv 2) jM) (fun _ _=>rfl)) yA)))))
   (jAS (jCT (jC1 jA0 rfl T.tuple (by decide+kernel) (jV (jF1 (jE5 rfl) rfl T.sorted (by decide+kernel) (jV (jC1 (jMJ rfl) rfl T.set (by decide+kernel) (jV
     (jH8 (m:=[none,some 4,some 5,some 1]) (Nc:=["j","start","step","wide"]) rfl (jC0 rfl T.range (jV (pv 6) yA)) rfl (by decide+kernel) (by decide+kernel) (kL (psc:=j7 sLot) (by decide+kernel))
      (jS (N:=["pot","wide","way","number","start","step","size"]) rfl rfl (by decide+kernel))
      (fun cl C fp s H=>jF0 (i:=0) (show (["j","start","step","wide"]:List Str).Nodup by decide+kernel) rfl (Or.inl rfl))
      (fun cl C fp s H=>jKN)
      (fun cl C fp s H=>kG jG5 (kG kY (pv 1) (kG jCV (pv 2) (pv 0))) (pv 3))) yA)) yA)) yA)))))))),?_⟩
  refine⟨_,rfl,p,N,4,rfl,hp,hN,by decide,by decide,fun N1 way b1 b2 b3=>?_⟩
  have hp1:∀ M,(upd H p (.lst [.int M])) p=some (.lst [.int M]):=fun _=>j8
  refine⟨_,rfl,rfl,_,rfl,?_⟩
  refine ite2 (fun _=>?_) (fun hw0=>?_)
  ·refine⟨_,rfl,_,rfl,_,_,rfl,rfl,⟨by omega,by omega,by decide⟩,_,_,rfl,rfl,p,N1,_,rfl,hp1 _,b1,by omega,by omega,fun N2 r2 c1 c2 c3=>⟨_,_,rfl,rfl,?_⟩⟩
   have hnum:1+r2<2 ^ w.toNat:=by omega
   refine⟨_,rfl,w,rfl,by omega,by omega,jCC (n:=w.toNat) (by rw[aL]; omega) (fun D i σ' H' ys=>(∃ v,σ'=[v,some (.int (1+r2))])/\ys=(bits (1+r2) i).map V.int/\H'=upd (upd (upd H p (.lst [.int N1])) p (.lst [.int N2])) D (.lst ys)) ?_ ?_ ?_ ?_⟩
   ·intro D hD
    exact⟨⟨_,rfl⟩,rfl,rfl⟩
   ·rintro D i σ' H' ys hD hi ⟨_,e1,e2⟩
    refine⟨by rw[e2]; exact j8,?_⟩
    rw[e1,af]
    unfold bits
    rw[af]
    exact bf (cw _ _) (by rw[di]; exact ak _)
   ·rintro D i σ' H' ys hD hi ⟨⟨v,rfl⟩,rfl,rfl⟩
    refine⟨_,rfl,_,rfl,_,_,rfl,rfl,(by show (0:Int)<=0+(i:Int); omega),_,_,rfl,rfl,rfl,_,rfl,?_⟩
    have ei:(0+(i:Int)).toNat=i:=by omega
    refine ite2 (fun hb=>?_) (fun hb=>?_)
    ·have hb:Builtin.bitAnd ((1+r2) / 2 ^ i) 1=1:=by
      have:=aK hb
      rw[ei] at this
      exact V.int.inj this
     refine⟨_,rfl,j8,⟨_,rfl⟩,?_,jDB⟩
     rw[jGP,aj (aw hb),aS]
     congr 1
     show [V.int (0+(i:Int))]=[V.int (i:Int)]
     rw[fw]
    ·have hb:¬ Builtin.bitAnd ((1+r2) / 2 ^ i) 1=1:=fun e=>hb (aw (by rw[ei]; exact bP V.int e))
     refine⟨⟨_,rfl⟩,?_,rfl⟩
     rw[jGP,ah (by simpa using hb),aV]
   ·rintro D σ' H' ys hD ⟨_,rfl,rfl⟩
    refine⟨D,_,rfl, .inl ⟨SqL.of j8,fun qq hqq=>?_⟩⟩
    obtain⟨n1,n2⟩:=y6 hqq
    have pD:p≠D:=jB j8 hD
    have pq:p≠qq:=jB j8 n2
    exact q qq N2 (bits (1+r2) w.toNat) _ c1 (jO6 (by omega) (by omega) hnum) j8 (by rw[jA pq,jA pD,j8]) (((((Keep.refl H p).upd _).upd _).new hD _).new hqq _)
  ·have hway:1<=way:=by
    have:¬ way=0:=fun e=>hw0 (aw (by rw[e]))
    omega
   refine⟨_,rfl,_,rfl,p,N1,w,rfl,hp1 _,b1,by omega,by omega,fun N2 kP c1 c2 c3=>?_⟩
   rw[jDB]
   refine⟨_,rfl,p,N2,3,rfl,hp1 _,c1,by decide,by decide,fun N3 st d1 d2 d3=>⟨_,_,rfl,rfl,?_⟩⟩
   rw[jDB]
   refine⟨_,rfl,(by show 3<=sizeLine; decide),fun l hl=>?_⟩
   have pl:p≠l:=jB (hp1 _) hl
   obtain⟨wd,hwd,e1,e2⟩:∃ wd:Int,atI [V.int 1,V.int 2,V.int 4] (way - 1)=some (.int wd)/\1<=wd/\wd<=4:=by
    rcases (show way=1\/way=2\/way=3 by omega) with e | e | e
    ·subst e; exact⟨1,rfl,by decide,by decide⟩
    ·subst e; exact⟨2,rfl,by decide,by decide⟩
    ·subst e; exact⟨4,rfl,by decide,by decide⟩
   refine⟨_,rfl,_,_,rfl,rfl,l,_,_,_,rfl,rfl,SqL.of j8,hwd,p,N3,wd,rfl,by rw[jA pl]; exact hp1 _,d1,by omega,by omega,fun N4 r4 g1 g2 g3=>⟨_,_,rfl,rfl,?_⟩⟩
   have kp:Keep H (upd (upd (upd H p (.lst [.int N3])) l (.lst [V.int 1,V.int 2,V.int 4])) p (.lst [.int N4])) p:=(((Keep.refl H p).upd _).new hl _).upd _
   have hp4:(upd (upd (upd H p (.lst [.int N3])) l (.lst [V.int 1,V.int 2,V.int 4])) p (.lst [.int N4])) p=some (.lst [.int N4]):=j8
   generalize (upd (upd (upd H p (.lst [.int N3])) l (.lst [V.int 1,V.int 2,V.int 4])) p (.lst [.int N4]))=H4 at kp hp4 ⊢
   refine⟨_,rfl,1+r4,rfl,by omega,by omega,jCC (n:=(1+r4).toNat) (by rw[aL]; omega) (fun D i σ' H' ys=>(∃ v,σ'=[v,some (.int kP),some (.int (1+st)),some (.int w)])/\(∃ ns:List Int,ys=ns.map V.int/\ns.length=i/\∀ z∈ns,0<=z/\z<w)/\H'=upd H4 D (.lst ys)) ?_ ?_ ?_ ?_⟩
   ·intro D hD
    exact⟨⟨_,rfl⟩,⟨[],rfl,rfl,fun z hz=>by cases hz⟩,rfl⟩
   ·rintro D i σ' H' ys hD hi ⟨_,⟨ns,rfl,e,_⟩,rfl⟩
    exact⟨j8,by rw[af,e]; exact ak _⟩
   ·rintro D i σ' H' ys hD hi ⟨⟨v,rfl⟩,⟨ns,rfl,e,hb⟩,rfl⟩
    dsimp only [kZ,yR]
    rw[aj rfl]
    refine⟨_,rfl,_,rfl,_,rfl,_,_,rfl,rfl, .inl ⟨by omega,by omega⟩,_,_,rfl,rfl,_,rfl,_,_,rfl,rfl,(by show 0<w; omega),j8,⟨_,rfl⟩,⟨ns++[(kP+(1+st)*(0+(i:Int))) % w],by simp,by simp [e],fun z hz=>?_⟩,jDB⟩
    rcases aN.mp hz with hz | hz
    ·exact hb z hz
    ·have:z=(kP+(1+st)*(0+(i:Int))) % w:=by simpa using hz
     rw[this]
     exact⟨Int.emod_nonneg _ (by omega),i5 _ (by omega)⟩
   ·rintro D σ' H' ys hD ⟨_,⟨ns,rfl,e,hb⟩,rfl⟩
    refine⟨D,ns,rfl,SqL.of j8,by omega,fun z hz=>⟨(hb z hz).1,by have:=(hb z hz).2; omega⟩,fun l1 ks h11 hm1=>?_⟩
    refine⟨l1,ks,rfl,j8,fun l2 ms h12 srt hm2=>?_⟩
    refine⟨l2,_,rfl, .inl ⟨SqL.of j8,fun qq hqq=>?_⟩⟩
    have pD:p≠D:=jB hp4 hD
    have p1:p≠l1:=jB hp4 (y6 h11).2
    have p2:p≠l2:=jB hp4 (y6 (y6 h12).2).2
    have pq:p≠qq:=jB hp4 (y6 (y6 (y6 hqq).2).2).2
    refine q qq N4 ms _ g1 ⟨srt,fun z hz=>hb z ((hm1 z).mp ((hm2 z).mp hz)),fun z=>?_⟩ j8 (by rw[jA pq,jA p2,jA p1,jA pD]; exact hp4) ((((kp.new hD _).new h11 _).new h12 _).new hqq _)
    subst z
    cases ns with
    | nil=>simp at e; omega
    | cons x r=>
     have:=(hm2 x).mpr ((hm1 x).mpr az)
     cases this
end
structure Ris (w:Int)(ts:List Int):Prop where
 ris:ts.Pairwise (· < ·)
 bnd:∀ z∈ts,0<=z/\z<w
theorem Ris.nil (w:Int):Ris w []:=⟨.nil,fun z hz=>by cases hz⟩
theorem Ris.take {w:Int}{ts:List Int}(h:Ris w ts)(k:Nat):Ris w (ts.take k):=⟨h.ris.sublist (df _ _),fun z hz=>h.bnd z (bU hz)⟩
theorem Ris.drop {w:Int}{ts:List Int}(h:Ris w ts)(k:Nat):Ris w (ts.drop k):=⟨h.ris.sublist (gW _ _),fun z hz=>h.bnd z (cD hz)⟩
theorem Ris.snoc {i:Nat}{ts:List Int}(h:Ris i ts):Ris (i+1:Nat) (ts++[(i:Int)]):=by
 refine⟨bS.mpr ⟨h.ris,ff _ _,fun a ha b hb=>?_⟩,fun z hz=>?_⟩
 ·have:=(h.bnd a ha).2
  have e:b=i:=by simpa using hb
  omega
 ·rcases aN.mp hz with q | q
  ·have:=h.bnd z q
   omega
  ·have e:z=i:=by simpa using q
   omega
theorem Ris.step {i:Nat}{ts:List Int}(h:Ris i ts):Ris (i+1:Nat) ts:=⟨h.ris,fun z hz=>by have:=h.bnd z hz; omega⟩
def upto (n:Nat):List Int:=(List.range n).map fun (i:Nat)=>(i:Int)
theorem jM1 (n:Nat):jDV n=(upto n).map V.int:=by
 unfold jDV upto
 rw[cZ]
 rfl
theorem jAO (n:Nat):Ris n (upto n):=by
 refine⟨?_,fun z hz=>?_⟩
 ·unfold upto
  rw[bF]
  exact ir.imp fun h=>by omega
 ·unfold upto at hz
  obtain⟨t,ht,rfl⟩:=aW.mp hz
  have:=bO.mp ht
  omega
def Tups (H H':Hp):Prop:=∀ b xs,H b=some (.tup xs)->H' b=some (.tup xs)
theorem Tups.trans {H H1 H2:Hp}(a:Tups H H1)(b:Tups H1 H2):Tups H H2:=fun c o h=>b c o (a c o h)
theorem Keep.tups {H H':Hp}{p:Addr}{xs:List V}(k:Keep H H' p)(hp:H p=some (.lst xs)):Tups H H':=fun b ys hb=>k b _ hb fun e=>by
 subst e
 rw[hb] at hp
 cases hp
theorem Tups.upd {H:Hp}{p:Addr}{xs:List V}(hp:H p=some (.lst xs))(o:HO):Tups H (upd H p o):=fun b ys hb=>by
 rw[jA (fun e=>by subst e; rw[hb] at hp; cases hp)]
 exact hb
theorem Tups.new {H:Hp}{p:Addr}(hp:H p=none)(o:HO):Tups H (L2.upd H p o):=fun b ys hb=>by
 rw[jA (jB hb hp)]
 exact hb
def PcAt (H:Hp)(v:V)(pc:List Int×Int):Prop:=∃ a q,v= .ref a/\H a=some (.tup [.ref q, .int pc.2])/\H q=some (.tup (pc.1.map V.int))
def PcsAt (H:Hp):List V->List (List Int×Int)->Prop
 | [],[]=>True
 | v::vs,p::ps=>PcAt H v p/\PcsAt H vs ps
 | _,_=>False
theorem PcAt.mono {H H':Hp}{v:V}{pc:List Int×Int}(h:PcAt H v pc)(t:Tups H H'):PcAt H' v pc:=by
 obtain⟨a,q,rfl,h1,h2⟩:=h
 exact⟨a,q,rfl,t _ _ h1,t _ _ h2⟩
theorem PcsAt.mono {H H':Hp}(t:Tups H H'):∀ {vs:List V}{ps:List (List Int×Int)},PcsAt H vs ps->PcsAt H' vs ps
 | [],[],_=>trivial
 | _::_,_::_,h=>⟨h.1.mono t,PcsAt.mono t h.2⟩
 | [],_::_,h=>h.elim
 | _::_,[],h=>h.elim
theorem PcsAt.len {H:Hp} :∀ {vs:List V}{ps:List (List Int×Int)},PcsAt H vs ps->vs.length=ps.length
 | [],[],_=>rfl
 | _::_,_::_,h=>bP (· +1) (PcsAt.len h.2)
 | [],_::_,h=>h.elim
 | _::_,[],h=>h.elim
theorem PcsAt.put {H:Hp}{v:V}{p:List Int×Int}(hv:PcAt H v p):∀ (k:Nat) {vs:List V}{ps:List (List Int×Int)},PcsAt H vs ps->PcsAt H (vs.take k++v::vs.drop k) (ps.take k++p::ps.drop k)
 | 0,_,_,h=>⟨hv,h⟩
 | _+1,[],[],_=>⟨hv,trivial⟩
 | k+1,_::_,_::_,h=>⟨h.1,PcsAt.put hv k h.2⟩
 | _+1,[],_::_,h=>h.elim
 | _+1,_::_,[],h=>h.elim
structure GoodPc (w:Int)(pc:List Int×Int):Prop where
 lot:Lot w pc.1
 lo: -1000000000000<=pc.2
 hi:pc.2<=1000000000000
structure BoxAt (H:Hp)(b:Addr)(w:Int)(mays:List Int)(pcs:List (List Int×Int)):Prop where
 ex:∃ qm qp vs,H b=some (.tup [.int w, .ref qm, .ref qp])/\H qm=some (.tup (mays.map V.int))/\H qp=some (.tup vs)/\PcsAt H vs pcs
theorem BoxAt.mono {H H':Hp}{b:Addr}{w:Int}{mays:List Int}{pcs:List (List Int×Int)}(h:BoxAt H b w mays pcs)(t:Tups H H'):BoxAt H' b w mays pcs:=by
 obtain⟨qm,qp,vs,h1,h2,h3,h4⟩:=h.ex
 exact⟨qm,qp,vs,t _ _ h1,t _ _ h2,t _ _ h3,h4.mono t⟩
structure Good (mt mp:Int)(w:Int)(mays:List Int)(pcs:List (List Int×Int)):Prop where
 w0:0<=w
 w1:w<=mt
 mr:Ris w mays
 pl:(pcs.length:Int)<=mp
 pg:∀ pc∈pcs,GoodPc w pc
theorem Keep.updNew {H H1:Hp}{p l:Addr}(a:Keep H H1 p)(hl:H l=none)(o:HO):Keep H (L2.upd H1 l o) p:=fun c u h n=>by
 rw[jA (jB h hl)]
 exact a c u h n
section
variable {P:Program}{w:World}{K:W.Frag}{mg:Str->Option Value}{base:Heap}
def spBox:Sp:=fun vs H Q _=>∃ (p:Addr) (N mt mp:Int),vs=[.ref p, .int mt, .int mp]/\H p=some (.lst [.int N])/\0<=N/\0<=mt/\mt<=16/\0<=mp/\mp<=32/\
 ∀ (b:Addr) (N' w:Int) (mays:List Int) (pcs:List (List Int×Int)) (H':Hp),0<=N'->H' p=some (.lst [.int N'])->BoxAt H' b w mays pcs->Good mt mp w mays pcs->Keep H H' p->Q (.ref b) H'
abbrev nBox:List Str:=["pot","most_things","most_pieces","wide","mays","left","far","pieces","k","size","things"]
theorem scBox:FnScope nBox ["pot","most_things","most_pieces"] (j7 sBox):=⟨rfl,rfl,rfl,by decide+kernel,rfl,by decide+kernel,by decide+kernel⟩
end
section
variable {P:Program}{w:World}{K:W.Frag}{mg:Str->Option Value}{base:Heap}
abbrev XBox (P:Program)(w:World)(K:W.Frag)(mg:Str->Option Value)(base:Heap)(f:Addr)(cdv:Value)(A:Around)(outer:List Env)(s:Shared)(H:Hp)(E:XK):Cx:=(cxOf CX0 P w K mg base nBox "_law_box" (j7 sBox) f cdv A outer s H E).nox
def jDO:Stmt->List Stmt
 | .For _ _ b _ _=>b
 | _=> []
def boxI {f fT fL:Addr}{fdT fdL:FuncData}{cdv:Value}{A:Around}{outer:List Env}{s:Shared}{H:Hp}{E:XK}(T:Txt mg)(CT:Can P w K mg base "_law_take" 1 fT fdT ["pot","wide"] kT)(CL:Can P w K mg base "_law_lot" 2 fL fdL ["pot","wide"] qG)(hr:Room 2 (XBox P w K mg base f cdv A outer s H E).A): { t:TS // JSs (XBox P w K mg base f cdv A outer s H E) ((jDO ((jD sBox).getD 7 (.Pass ⟨0,0,0,0⟩))).drop 4) t} :=
 have nd:=scBox.nd
 ⟨_,(jF (jHF (je_bm dS PySem.F.slot_list_insert PySem.F.type_list_insert jLB (jv 7 rfl vL) (j4 (CT.je (hr.mono (by decide)) gD (j4 (jv 0 rfl vC) (j4 (kN kY (jH jA1 gD T.len (by decide+kernel) (j4 (jv 7 rfl vL) j9 j6) j6) (je_int)) j9 yH) j6) j6) (j4 (jIW (j4 (jv 10 rfl vL) (j4 (kN jEG (CT.je (hr.mono (by decide)) gD (j4 (jv 0 rfl vC) (j4 (jv 6 rfl vL) j9 j6) j6) j6) (kN jII (jv 6 rfl vL) (je_int))) j9 yH) j6)) j9 yP) jI) jI) kS))⟩
def boxL {f fT fL:Addr}{fdT fdL:FuncData}{cdv:Value}{A:Around}{outer:List Env}{s:Shared}{H:Hp}{E:XK}(T:Txt mg)(CT:Can P w K mg base "_law_take" 1 fT fdT ["pot","wide"] kT)(CL:Can P w K mg base "_law_lot" 2 fL fdL ["pot","wide"] qG)(hr:Room 2 (XBox P w K mg base f cdv A outer s H E).A): { t:TS // JSs (XBox P w K mg base f cdv A outer s H E) (jDO ((jD sBox).getD 7 (.Pass ⟨0,0,0,0⟩))) t} :=
 have nd:=scBox.nd
 ⟨_,(jE (jO (i:=9) nd rfl lL (kN kY (je_int) (CT.je (hr.mono (by decide)) gD (j4 (jv 0 rfl vC) (j4 (je_int) j9 jL) j6) j6)) jDD)
   (jE (jO (i:=10) nd rfl lL (kO jA0 gD T.tuple (by decide+kernel) (j4 (jIX jKI (jv 5 rfl vL) jLQ (jLP (jv 9 rfl vL))) j9 jZ) jZ) kS)
   (jE (jO (i:=5) nd rfl lL (jIX jKI (jv 5 rfl vL) (jLP (jv 9 rfl vL)) jLQ) jI6)
   (jE (yI (jP (jS5 hr.units0) (jv 10 rfl vL) (jIW j9) (jN _)) (jF (jO (i:=10) nd rfl lL (CL.je hr gD (j4 (jv 0 rfl vC) (j4 (jv 3 rfl vL) j9 j6) j6) j6) kS)) kJ)
   (boxI T CT CL hr).2))))⟩
def boxC {f fT fL:Addr}{fdT fdL:FuncData}{cdv:Value}{A:Around}{outer:List Env}{s:Shared}{H:Hp}{E:XK}(T:Txt mg)(CT:Can P w K mg base "_law_take" 1 fT fdT ["pot","wide"] kT)(CL:Can P w K mg base "_law_lot" 2 fL fdL ["pot","wide"] qG)(hr:Room 2 (XBox P w K mg base f cdv A outer s H E).A): { t:TS // JSs (XBox P w K mg base f cdv A outer s H E) ((jD sBox).drop 5) t} :=
 have nd:=scBox.nd
 ⟨_,(jE (jO (i:=6) nd rfl lL (jU jAW (jLT (j4 (je_int) (j4 (je_int) (j4 (jSR) j9 yH) jL) jL)) (CT.je (hr.mono (by decide)) gD (j4 (jv 0 rfl vC) (j4 (je_int) j9 jL) j6) j6) jH7) jI6)
   (jE (jO (i:=7) nd rfl lL (jLT j9) jFS)
   (jE (jEJ dr rfl (jC7 gD T.range (j4 (kN jCV (CT.je (hr.mono (by decide)) gD (j4 (jv 0 rfl vC) (j4 (kN kY (jv 2 rfl vL) (je_int)) j9 yH) j6) j6) (kO jE1 gD T.int (by decide+kernel) (j4 (jAH op_gt (jv 3 rfl vL) (je_int) (jN _)) j9 jOD) jOD)) j9 yH) yH) (jY (i:=8) nd rfl lL) (boxL T CT CL hr).2 yG)
   (jF (jW (jIW (j4 (jv 3 rfl vL) (j4 (jv 4 rfl vL) (j4 (kO jA0 gD T.tuple (by decide+kernel) (j4 (jv 7 rfl vL) j9 j6) j6) j9 jI) j6) j6)))))))⟩
def boxB {f fT fL:Addr}{fdT fdL:FuncData}{cdv:Value}{A:Around}{outer:List Env}{s:Shared}{H:Hp}{E:XK}(T:Txt mg)(CT:Can P w K mg base "_law_take" 1 fT fdT ["pot","wide"] kT)(CL:Can P w K mg base "_law_lot" 2 fL fdL ["pot","wide"] qG)(hr:Room 2 (XBox P w K mg base f cdv A outer s H E).A): { t:TS // JSs (XBox P w K mg base f cdv A outer s H E) ((jD sBox).drop 3) t} :=
 have nd:=scBox.nd
 ⟨_,(jE (jO (i:=5) nd rfl lL (kO (jGJ rfl) gD T.list (by decide+kernel) (j4 (kO jHX gD T.range (by decide+kernel) (j4 (jv 3 rfl vL) j9 j6) j6) j9 jI) jI) kS)
   (jE (yI (jP qI (CT.je (hr.mono (by decide)) gD (j4 (jv 0 rfl vC) (j4 (je_int) j9 jL) j6) j6) (je_int) (jN _)) (jF (jO (i:=5) nd rfl lL (jLT j9) jFS)) kJ)
   (boxC T CT CL hr).2))⟩
def boxA {f fT fL:Addr}{fdT fdL:FuncData}{cdv:Value}{A:Around}{outer:List Env}{s:Shared}{H:Hp}{E:XK}(T:Txt mg)(CT:Can P w K mg base "_law_take" 1 fT fdT ["pot","wide"] kT)(CL:Can P w K mg base "_law_lot" 2 fL fdL ["pot","wide"] qG)(hr:Room 2 (XBox P w K mg base f cdv A outer s H E).A): { t:TS // JSs (XBox P w K mg base f cdv A outer s H E) (jD sBox) t} :=
 have nd:=scBox.nd
 ⟨_,(jE (jO (i:=3) nd rfl lL (CT.je (hr.mono (by decide)) gD (j4 (jv 0 rfl vC) (j4 (kN kY (jv 1 rfl vL) (je_int)) j9 yH) j6) j6) kS)
   (jE (jO (i:=4) nd rfl lL (jIW j9) jKE)
   (jE (yI (jP qI (CT.je (hr.mono (by decide)) gD (j4 (jv 0 rfl vC) (j4 (je_int) j9 jL) j6) j6) (je_int) (jN _)) (jF (jO (i:=4) nd rfl lL (kO jA0 gD T.tuple (by decide+kernel) (j4 (yC (m:=[none,some 0]) (Nc:=["t","pot"]) rfl (jC7 gD T.range (j4 (jv 3 rfl vL) j9 j6) j6) rfl (by decide+kernel) (by decide+kernel) (kL (psc:=j7 sBox) (by decide+kernel)) (jS (N:=nBox) rfl rfl (by decide+kernel)) (fun cl C fp s H=>jY (i:=0) (show (["t","pot"]:List Str).Nodup by decide+kernel) rfl (yY (by decide+kernel))) (fun cl C fp s H=>jHE (jP qI (CT.je (hr.mono (by decide)) (gl_b (by decide+kernel)) (j4 (jv 1 rfl (jBT (by decide+kernel))) (j4 (je_int) j9 jL) j6) j6) (je_int) (jN _))) (fun cl C fp s H=>(jv 0 rfl (kX (by decide+kernel)))) yG) j9 kB) kB) kS)) kJ)
   (boxB T CT CL hr).2)))⟩
end
structure St0 (H H2:Hp)(p:Addr)(w:Int)(qm ql:Addr)(mays lf:List Int)(N:Int):Prop where
 hp:H2 p=some (.lst [.int N])
 hN:0<=N
 hm:H2 qm=some (.tup (mays.map V.int))
 rm:Ris w mays
 hl:H2 ql=some (.lst (lf.map V.int))
 rl:Ris w lf
 ne:ql≠p
 kp:Keep H H2 p
theorem St0.step {H H2 H3:Hp}{p:Addr}{w:Int}{qm ql:Addr}{mays lf:List Int}{N N':Int}(S:St0 H H2 p w qm ql mays lf N)(k:Keep H2 H3 p)(hp:H3 p=some (.lst [.int N']))(hN:0<=N'):St0 H H3 p w qm ql mays lf N':=
 ⟨hp,hN,k qm _ S.hm (ne_of S.hm S.hp (by intro z; cases z)),S.rm,k ql _ S.hl S.ne,S.rl,S.ne,S.kp.trans k⟩
theorem jME {w:Int}{lf:List Int}(h:Ris w lf)(lo hi:Option Int):∃ l',cutV (lf.map V.int) lo hi=l'.map V.int/\Ris w l':=by
 refine⟨(lf.drop (HT.sIx lf.length 0 lo)).take (HT.sIx lf.length lf.length hi - HT.sIx lf.length 0 lo),?_,(h.drop _).take _⟩
 unfold cutV
 rw[af,iT,List.map_drop]
section
variable {P:Program}{w:World}{K:W.Frag}{mg:Str->Option Value}{base:Heap}
variable {f fT fL:Addr}{fdT fdL:FuncData}{cdv:Value}{A:Around}{outer:List Env}{s:Shared}{H0:Hp}{E:XK}
theorem jGL (T:Txt mg)(CT:Can P w K mg base "_law_take" 1 fT fdT ["pot","wide"] kT)(CL:Can P w K mg base "_law_lot" 2 fL fdL ["pot","wide"] qG)(hr:Room 2 (XBox P w K mg base f cdv A outer s H0 E).A)
  {D:Ends}{H H5:Hp}{p qm ql qp qt:Addr}{mt mp w N far:Int}{mays lf ts:List Int}{vs:List V}{pcs:List (List Int×Int)}{v8 v9:Option V}
  (S:St0 H H5 p w qm ql mays lf N) (hqp:H5 qp=some (.lst vs)) (hv:PcsAt H5 vs pcs) (hg:∀ pc∈pcs,GoodPc w pc) (hqt:H5 qt=some (.tup (ts.map V.int))) (lt:Lot w ts) (hf:far=1\/far=10\/far=2000000000001) (hn:pcs.length<=100) (hH:H qp=none) (hne:ql≠qp) (hpp:p≠qp)
  (nx:∀ H6 N' vs' pcs',St0 H H6 p w qm ql mays lf N'->H6 qp=some (.lst vs')->PcsAt H6 vs' pcs'->(∀ pc∈pcs',GoodPc w pc)->pcs'.length=pcs.length+1->D.nx [some (.ref p),some (.int mt),some (.int mp),some (.int w),some (.ref qm),some (.ref ql),some (.int far),some (.ref qp),v8,v9,some (.ref qt)] H6):
  (boxI T CT CL hr).1 D [some (.ref p),some (.int mt),some (.int mp),some (.int w),some (.ref qm),some (.ref ql),some (.int far),some (.ref qp),v8,v9,some (.ref qt)] H5:=by
 have hlen:=hv.len
 have h64:(0:Int)<far/\far<2 ^ 64:=by rcases hf with e | e | e <;> subst e <;> decide
 refine⟨_,rfl, .inl ⟨rfl,_,SqL.of hqp⟩,_,rfl,_,rfl,qp,vs,rfl, .inl (SqL.of hqp),_,_,rfl,rfl,p,N,_,rfl,S.hp,S.hN,by omega,by omega,fun N1 i a1 a2 a3=>?_⟩
 refine⟨_,rfl,_,rfl,_,rfl,p,N1,far,rfl,j8,a1,h64.1,h64.2,fun N2 r b1 b2 b3=>?_⟩
 rw[jDB]
 refine⟨_,rfl,_,_,rfl,rfl,⟨by decide,by decide⟩,_,_,rfl,rfl,(by show 2<=sizeLine; decide),fun tq htq=>?_⟩
 obtain⟨t1,t2⟩:=y6 htq
 have ht:tq≠qp:=fun e=>by subst e; rw[hqp] at t2; cases t2
 refine⟨qp,vs,i,_,rfl,rfl,by rw[jA ht.symm,jA hpp.symm]; exact hqp,a2,by omega,by rw[aL]; omega,?_⟩
 have T1:Tups H5 (upd (upd H5 p (.lst [.int N2])) tq (.tup [.ref qt, .int (r - far / 2)])):=(Tups.upd S.hp _).trans (Tups.new htq _)
 have k1:Keep H5 (upd (upd H5 p (.lst [.int N2])) tq (.tup [.ref qt, .int (r - far / 2)])) p:=((Keep.refl _ _).upd _).new htq _
 have S1:=S.step k1 (by rw[jA t1.symm]; exact j8) b1
 have hq1:(upd (upd H5 p (.lst [.int N2])) tq (.tup [.ref qt, .int (r - far / 2)])) qp=some (.lst vs):=by rw[jA ht.symm,jA hpp.symm]; exact hqp
 have T2:=T1.trans (Tups.upd hq1 (.lst (vs.take i.toNat++V.ref tq::vs.drop i.toNat)))
 have pc:PcAt (upd (upd H5 p (.lst [.int N2])) tq (.tup [.ref qt, .int (r - far / 2)])) (.ref tq) (ts,r - far / 2):=⟨tq,qt,rfl,j8,T1 _ _ hqt⟩
 refine nx _ N2 _ (pcs.take i.toNat++(ts,r - far / 2)::pcs.drop i.toNat) ⟨?_,b1,?_,S.rm,?_,S.rl,S.ne,S1.kp.updNew hH _⟩ j8 ?_ ?_ ?_
 ·rw[jA hpp]; exact S1.hp
 ·exact(Tups.upd hq1 _) _ _ S1.hm
 ·rw[jA hne]; exact S1.hl
 ·exact PcsAt.put (pc.mono (Tups.upd hq1 _)) _ (hv.mono T2)
 ·intro c hc
  rcases aN.mp hc with h | h
  ·exact hg c (bU h)
  ·rcases aF.mp h with h | h
   ·subst h
    refine⟨lt,?_,?_⟩
    ·show -1000000000000<=r - far / 2
     rcases hf with e | e | e <;> subst e <;> omega
    ·show r - far / 2<=1000000000000
     rcases hf with e | e | e <;> subst e <;> omega
   ·exact hg c (cD h)
 ·rw[aC,aQ,bD,fK]
  omega
end
section
variable {P:Program}{w:World}{K:W.Frag}{mg:Str->Option Value}{base:Heap}
variable {f fT fL:Addr}{fdT fdL:FuncData}{cdv:Value}{A:Around}{outer:List Env}{s:Shared}{H0:Hp}{E:XK}
theorem jML (T:Txt mg)(CT:Can P w K mg base "_law_take" 1 fT fdT ["pot","wide"] kT)(CL:Can P w K mg base "_law_lot" 2 fL fdL ["pot","wide"] qG)(hr:Room 2 (XBox P w K mg base f cdv A outer s H0 E).A)
  {D:Ends}{H H5:Hp}{p qm ql qp:Addr}{mt mp w N far:Int}{mays lf:List Int}{vs:List V}{pcs:List (List Int×Int)}{v8 v9 v10:Option V}
  (S:St0 H H5 p w qm ql mays lf N) (hqp:H5 qp=some (.lst vs)) (hv:PcsAt H5 vs pcs) (hg:∀ pc∈pcs,GoodPc w pc) (hf:far=1\/far=10\/far=2000000000001) (hn:pcs.length<=100) (hH:H qp=none) (hpp:p≠qp) (w1:1<=w) (w2:w<=16)
  (nx:∀ H6 N' vs' pcs' ql' lf' v9' v10',St0 H H6 p w qm ql' mays lf' N'->ql'≠qp->H6 qp=some (.lst vs')->PcsAt H6 vs' pcs'->(∀ pc∈pcs',GoodPc w pc)->pcs'.length=pcs.length+1->D.nx [some (.ref p),some (.int mt),some (.int mp),some (.int w),some (.ref qm),some (.ref ql'),some (.int far),some (.ref qp),v8,v9',v10'] H6):
  (boxL T CT CL hr).1 D [some (.ref p),some (.int mt),some (.int mp),some (.int w),some (.ref qm),some (.ref ql),some (.int far),some (.ref qp),v8,v9,v10] H5:=by
 refine⟨_,rfl,p,N,3,rfl,S.hp,S.hN,by decide,by decide,fun N1 r1 a1 a2 a3=>⟨_,_,rfl,rfl,?_⟩⟩
 have S1:=S.step ((Keep.refl _ _).upd (.lst [.int N1])) j8 a1
 have hq1:(upd H5 p (.lst [.int N1])) qp=some (.lst vs):=by rw[jA hpp.symm]; exact hqp
 have hv1:=hv.mono (Tups.upd S.hp (.lst [.int N1]))
 generalize upd H5 p (.lst [.int N1])=H6 at S1 hq1 hv1 ⊢
 clear S hqp hv
 obtain⟨l1,e1,g1⟩:=jME S1.rl none (some (1+r1))
 obtain⟨l2,e2,g2⟩:=jME S1.rl (some (1+r1)) none
 refine⟨_,rfl,_,rfl,1+r1,rfl,ql,_,rfl,SqL.of S1.hl,fun x hx=>⟨x,_,rfl, .inl ⟨SqL.of j8,fun qt hqt=>?_⟩⟩⟩
 rw[e1] at hqt ⊢
 have k1:Keep H6 (upd (upd H6 x (.lst (l1.map V.int))) qt (.tup (l1.map V.int))) p:=((Keep.refl _ _).new hx _).new hqt _
 obtain⟨t1,t2⟩:=y6 hqt
 have px:p≠x:=jB S1.hp hx
 have pt:p≠qt:=jB S1.hp t2
 have qx:qp≠x:=jB hq1 hx
 have qq:qp≠qt:=jB hq1 t2
 have S2:=S1.step k1 (by rw[jA pt,jA px]; exact S1.hp) S1.hN
 have hq2:(upd (upd H6 x (.lst (l1.map V.int))) qt (.tup (l1.map V.int))) qp=some (.lst vs):=by rw[jA qq,jA qx]; exact hq1
 have hv2:=hv1.mono (k1.tups S1.hp)
 have ht2:(upd (upd H6 x (.lst (l1.map V.int))) qt (.tup (l1.map V.int))) qt=some (.tup (l1.map V.int)):=j8
 generalize upd (upd H6 x (.lst (l1.map V.int))) qt (.tup (l1.map V.int))=H7 at S2 hq2 hv2 ht2 ⊢
 clear k1 hqt t2 hx S1 hq1 hv1
 refine⟨_,rfl,_,rfl,1+r1,rfl,ql,_,rfl,SqL.of S2.hl,fun ql' hql=>?_⟩
 rw[e2]
 have pl:p≠ql':=jB S2.hp hql
 have k2:Keep H7 (upd H7 ql' (.lst (l2.map V.int))) p:=(Keep.refl _ _).new hql _
 have S3':=S2.step k2 (by rw[jA pl]; exact S2.hp) S2.hN
 have S3:St0 H (upd H7 ql' (.lst (l2.map V.int))) p w qm ql' mays l2 N1:=⟨S3'.hp,S3'.hN,S3'.hm,S3'.rm,j8,g2,pl.symm,S3'.kp⟩
 have hne:qp≠ql':=jB hq2 hql
 have hq3:(upd H7 ql' (.lst (l2.map V.int))) qp=some (.lst vs):=by rw[jA hne]; exact hq2
 have hv3:=hv2.mono (k2.tups S2.hp)
 have ht3:=k2.tups S2.hp _ _ ht2
 generalize upd H7 ql' (.lst (l2.map V.int))=H8 at S3 hq3 hv3 ht3 ⊢
 clear k2 S3' S2 hq2 hv2 ht2 hql
 refine⟨_,rfl,(by show 0<=sizeLine; exact bo _),fun z hz=>⟨qt,z,l1.map V.int,rfl,rfl,SqT.of ?_,SqT.of j8,_,rfl,?_⟩⟩
 ·rw[jA (jB ht3 hz)]; exact ht3
 have pz:p≠z:=jB S3.hp hz
 have qz:qp≠z:=jB hq3 hz
 have k3:Keep H8 (upd H8 z (.tup [])) p:=(Keep.refl _ _).new hz _
 have S4:=S3.step k3 (by rw[jA pz]; exact S3.hp) S3.hN
 have hq4:(upd H8 z (.tup [])) qp=some (.lst vs):=by rw[jA qz]; exact hq3
 have hv4:=hv3.mono (k3.tups S3.hp)
 have ht4:=k3.tups S3.hp _ _ ht3
 generalize upd H8 z (.tup [])=H9 at S4 hq4 hv4 ht4 ⊢
 clear k3 S3 hq3 hv3 ht3 hz pz qz
 refine ite2 (fun hy=>?_) (fun hy=>?_)
 ·refine⟨_,rfl,_,rfl,p,N1,w,rfl,S4.hp,S4.hN,w1,w2,fun q N2 ts H' b1 lt b2 b3 b4=>?_⟩
  exact jGL T CT CL hr (S4.step b4 b3 b1) (b4 _ _ hq4 hpp.symm) (hv4.mono (b4.tups S4.hp)) hg b2 lt hf hn hH hne.symm hpp fun H6 N' vs' pcs' z1 z2 z3 z4 z5=>nx H6 N' vs' pcs' ql' l2 _ _ z1 hne.symm z2 z3 z4 z5
 ·have nl:l1≠ []:=fun e=>hy (aw (by rw[e]; rfl))
  exact jGL T CT CL hr S4 hq4 hv4 hg ht4 ⟨g1.ris,g1.bnd,nl⟩ hf hn hH hne.symm hpp fun H6 N' vs' pcs' z1 z2 z3 z4 z5=>nx H6 N' vs' pcs' ql' l2 _ _ z1 hne.symm z2 z3 z4 z5
end
section
variable {P:Program}{w:World}{K:W.Frag}{mg:Str->Option Value}{base:Heap}
variable {f fT fL:Addr}{fdT fdL:FuncData}{cdv:Value}{A:Around}{outer:List Env}{s:Shared}{H0:Hp}{E:XK}
def Told (H:Hp)(p:Addr)(mt mp:Int)(R:VK):Prop:=∀ (b:Addr) (N' w:Int) (mays:List Int) (pcs:List (List Int×Int)) (H':Hp),0<=N'->H' p=some (.lst [.int N'])->BoxAt H' b w mays pcs->Good mt mp w mays pcs->Keep H H' p->R (.ref b) H'
theorem jGM (T:Txt mg)(CT:Can P w K mg base "_law_take" 1 fT fdT ["pot","wide"] kT)(CL:Can P w K mg base "_law_lot" 2 fL fdL ["pot","wide"] qG)(hr:Room 2 (XBox P w K mg base f cdv A outer s H0 E).A)
  {D:Ends}{H H5:Hp}{p qm ql:Addr}{mt mp w N:Int}{mays lf:List Int}{v6 v7 v8 v9 v10:Option V}
  (S:St0 H H5 p w qm ql mays lf N) (hpH:∃ o,H p=some o) (w0:0<=w) (w1:w<=mt) (w2:mt<=16) (n0:0<=mp) (n1:mp<=32) (q:Told H p mt mp D.rt):
  (boxC T CT CL hr).1 D [some (.ref p),some (.int mt),some (.int mp),some (.int w),some (.ref qm),some (.ref ql),v6,v7,v8,v9,v10] H5:=by
 refine⟨(by show 3<=sizeLine; decide),fun l hl=>?_⟩
 have pl:p≠l:=jB S.hp hl
 refine⟨_,rfl,p,N,3,rfl,by rw[jA pl]; exact S.hp,S.hN,by decide,by decide,fun N1 r a1 a2 a3=>?_⟩
 obtain⟨far,hfar,hf⟩:∃ far:Int,atI [V.int 1,V.int 10,V.int 2000000000001] r=some (.int far)/\(far=1\/far=10\/far=2000000000001):=by
  rcases (show r=0\/r=1\/r=2 by omega) with e | e | e
  ·subst e; exact⟨_,rfl, .inl rfl⟩
  ·subst e; exact⟨_,rfl, .inr (.inl rfl)⟩
  ·subst e; exact⟨_,rfl, .inr (.inr rfl)⟩
 refine⟨l,_,r,_,rfl,rfl,SqL.of (by rw[jA pl.symm]; exact j8),hfar,?_⟩
 have S1:=S.step ((((Keep.refl _ _).new hl (.lst [V.int 1,V.int 10,V.int 2000000000001])).upd (.lst [.int N1]))) j8 a1
 generalize upd (upd H5 l (.lst [V.int 1,V.int 10,V.int 2000000000001])) p (.lst [.int N1])=H6 at S1 ⊢
 clear hl S
 refine⟨(by show 0<=sizeLine; exact bo _),fun qp hqp=>?_⟩
 have pq:p≠qp:=jB S1.hp hqp
 have hHq:H qp=none:=by
  cases e:H qp with
  | none=>rfl
  | some o=>
   have:=S1.kp _ _ e pq.symm
   rw[hqp] at this
   cases this
 have lq:ql≠qp:=jB S1.hl hqp
 have S2:=S1.step ((Keep.refl _ _).new hqp (.lst [])) (by rw[jA pq]; exact S1.hp) S1.hN
 have hq2:(upd H6 qp (.lst [])) qp=some (.lst []):=j8
 generalize upd H6 qp (.lst [])=H7 at S2 hq2 ⊢
 clear hqp S1
 refine⟨_,rfl,_,rfl,_,_,rfl,rfl,p,N1,_,rfl,S2.hp,S2.hN,by omega,by omega,fun N2 n b1 b2 b3=>?_⟩
 refine⟨_,rfl,_,_,rfl,rfl, .inr ⟨_,rfl,_,_,rfl,rfl, .inl ⟨by omega,by omega⟩,_,rfl,?_⟩⟩
 have S3:=S2.step ((Keep.refl _ _).upd (.lst [.int N2])) j8 b1
 have hq3:(upd H7 p (.lst [.int N2])) qp=some (.lst []):=by rw[jA pq.symm]; exact hq2
 generalize upd H7 p (.lst [.int N2])=H8 at S3 hq3 ⊢
 clear S2 hq2
 obtain⟨m,em,hm,hw⟩:∃ m:Int,n*(if decide (0<w)=true then 1 else 0)=m/\(0<=m/\m<=mp)/\(0<m->1<=w):=by
  by_cases h:0<w
  ·exact⟨n,by simp [h],⟨b2,by omega⟩,fun _=>h⟩
  ·exact⟨0,by simp [h],⟨by omega,n0⟩,fun z=>by omega⟩
 show _/\_/\_
 rw[show (n*(if decide (0<w)=true then 1 else 0))=m from em]
 refine⟨by omega,by omega,jDW (n:=m.toNat) (fun i σ H5=>∃ ql' lf' N' vs pcs v8 v9 v10,σ=[some (.ref p),some (.int mt),some (.int mp),some (.int w),some (.ref qm),some (.ref ql'),some (.int far),some (.ref qp),v8,v9,v10]/\St0 H H5 p w qm ql' mays lf' N'/\ql'≠qp/\H5 qp=some (.lst vs)/\PcsAt H5 vs pcs/\(∀ pc∈pcs,GoodPc w pc)/\pcs.length=i) ?_ ?_ ?_⟩
 ·exact⟨ql,lf,N2,[],[],_,_,_,rfl,S3,lq,hq3,trivial,(fun _ h=>by cases h),rfl⟩
 ·rintro i σ H9 hi ⟨ql',lf',N',vs,pcs,x8,x9,x10,rfl,S4,l4,hq4,hv4,hg4,e4⟩
  exact jML T CT CL hr S4 hq4 hv4 hg4 hf (by omega) hHq pq (hw (by omega)) (by omega) fun H6 N' vs' pcs' ql' lf' v9' v10' z1 z2 z3 z4 z5 z6=>⟨ql',lf',N',vs',pcs',_,_,_,rfl,z1,z2,z3,z4,z5,by omega⟩
 ·rintro σ H9 ⟨ql',lf',N',vs,pcs,x8,x9,x10,rfl,S4,l4,hq4,hv4,hg4,e4⟩
  refine⟨_,rfl,_,rfl,_,rfl,qp,vs,rfl, .inl ⟨SqL.of hq4,fun tq htq=>⟨(by show 3<=sizeLine; decide),fun b hb=>?_⟩⟩⟩
  have k1:Keep H9 (upd H9 tq (.tup vs)) p:=(Keep.refl _ _).new htq _
  have k2:Keep H9 (upd (upd H9 tq (.tup vs)) b (.tup [.int w, .ref qm, .ref tq])) p:=k1.new hb _
  have tb:=jB j8 hb
  have S5:=S4.step k2 (by rw[jA (y6 hb |>.2 |> fun h=>jB S4.hp h),jA (jB S4.hp htq)]; exact S4.hp) S4.hN
  exact q b N' w mays pcs _ S4.hN S5.hp ⟨qm,tq,vs,j8,S5.hm,by rw[jA tb]; exact j8,hv4.mono (k2.tups S4.hp)⟩ ⟨w0,w1,S4.rm,by omega,hg4⟩ S5.kp
end
section
variable {P:Program}{w:World}{K:W.Frag}{mg:Str->Option Value}{base:Heap}
section
variable {f fT fL:Addr}{fdT fdL:FuncData}{cdv:Value}{A:Around}{outer:List Env}{s:Shared}{H0:Hp}{E:XK}
theorem jGN (T:Txt mg)(CT:Can P w K mg base "_law_take" 1 fT fdT ["pot","wide"] kT)(CL:Can P w K mg base "_law_lot" 2 fL fdL ["pot","wide"] qG)(hr:Room 2 (XBox P w K mg base f cdv A outer s H0 E).A)
  {D:Ends}{H H5:Hp}{p qm:Addr}{mt mp w N:Int}{mays:List Int}{v5 v6 v7 v8 v9 v10:Option V}
  (hp:H5 p=some (.lst [.int N])) (hN:0<=N) (hm:H5 qm=some (.tup (mays.map V.int))) (rm:Ris w mays) (kp:Keep H H5 p) (hpH:∃ o,H p=some o) (w0:0<=w) (w1:w<=mt) (w2:mt<=16) (n0:0<=mp) (n1:mp<=32) (q:Told H p mt mp D.rt):
  (boxB T CT CL hr).1 D [some (.ref p),some (.int mt),some (.int mp),some (.int w),some (.ref qm),v5,v6,v7,v8,v9,v10] H5:=by
 refine⟨_,rfl,w,rfl,fun x hx=>⟨x,w,rfl,j8,w0,by omega,fun ql hql=>?_⟩⟩
 rw[jM1]
 have px:p≠x:=jB hp hx
 have pl:p≠ql:=jB hp (y6 hql).2
 have k1:Keep H5 (upd (upd H5 x (.rng 0 w)) ql (.lst ((upto w.toNat).map V.int))) p:=((Keep.refl _ _).new hx _).new hql _
 have e:((w.toNat:Nat):Int)=w:=by omega
 have rl:Ris w (upto w.toNat):=by
  have:=jAO w.toNat
  rw[e] at this
  exact this
 have S:St0 H (upd (upd H5 x (.rng 0 w)) ql (.lst ((upto w.toNat).map V.int))) p w qm ql mays (upto w.toNat) N:=
  ⟨by rw[jA pl,jA px]; exact hp,hN,k1 qm _ hm (ne_of hm hp (by intro z; cases z)),rm,j8,rl,pl.symm,kp.trans k1⟩
 generalize upd (upd H5 x (.rng 0 w)) ql (.lst ((upto w.toNat).map V.int))=H6 at S ⊢
 clear k1 hql hx hp hm kp
 refine⟨_,rfl,p,N,3,rfl,S.hp,S.hN,by decide,by decide,fun N1 r a1 a2 a3=>⟨rfl,_,rfl,?_⟩⟩
 have S1:=S.step ((Keep.refl _ _).upd (.lst [.int N1])) j8 a1
 generalize upd H6 p (.lst [.int N1])=H7 at S1 ⊢
 clear S
 refine ite2 (fun hy=>?_) (fun hy=>?_)
 ·refine⟨(by show 0<=sizeLine; exact bo _),fun l hl=>?_⟩
  have pl2:p≠l:=jB S1.hp hl
  have S2:=S1.step ((Keep.refl _ _).new hl (.lst [])) (by rw[jA pl2]; exact S1.hp) S1.hN
  have S3:St0 H (upd H7 l (.lst [])) p w qm l mays [] N1:=⟨S2.hp,S2.hN,S2.hm,S2.rm,j8,Ris.nil w,pl2.symm,S2.kp⟩
  exact jGM T CT CL hr S3 hpH w0 w1 w2 n0 n1 q
 ·exact jGM T CT CL hr S1 hpH w0 w1 w2 n0 n1 q
theorem jMM (T:Txt mg)(CT:Can P w K mg base "_law_take" 1 fT fdT ["pot","wide"] kT)(CL:Can P w K mg base "_law_lot" 2 fL fdL ["pot","wide"] qG)(hr:Room 2 (XBox P w K mg base f cdv A outer s H0 E).A)
  {D:Ends}{H:Hp}{p:Addr}{mt mp N:Int}
  (hp:H p=some (.lst [.int N])) (hN:0<=N) (w0:0<=mt) (w2:mt<=16) (n0:0<=mp) (n1:mp<=32) (q:Told H p mt mp D.rt):
  (boxA T CT CL hr).1 D [some (.ref p),some (.int mt),some (.int mp),none,none,none,none,none,none,none,none] H:=by
 refine⟨_,rfl,_,rfl,_,_,rfl,rfl,p,N,_,rfl,hp,hN,by omega,by omega,fun N1 w a1 a2 a3=>?_⟩
 refine⟨(by show 0<=sizeLine; exact bo _),fun t ht=>?_⟩
 have pt:p≠t:=(y6 ht).1.symm
 refine⟨_,rfl,p,N1,3,rfl,by rw[jA pt]; exact j8,a1,by decide,by decide,fun N2 r b1 b2 b3=>⟨rfl,_,rfl,?_⟩⟩
 have k1:Keep H (upd (upd (upd H p (.lst [.int N1])) t (.tup [])) p (.lst [.int N2])) p:=(((Keep.refl _ _).upd _).new ht _).upd _
 have hp1:(upd (upd (upd H p (.lst [.int N1])) t (.tup [])) p (.lst [.int N2])) p=some (.lst [.int N2]):=j8
 have ht1:(upd (upd (upd H p (.lst [.int N1])) t (.tup [])) p (.lst [.int N2])) t=some (.tup []):=by rw[jA pt.symm]; exact j8
 generalize upd (upd (upd H p (.lst [.int N1])) t (.tup [])) p (.lst [.int N2])=H1 at k1 hp1 ht1 ⊢
 clear ht
 refine ite2 (fun hy=>?_) (fun hy=>?_)
 ·refine⟨_,rfl,w,rfl,by omega,by omega,jCC (n:=w.toNat) (by rw[aL]; omega) (fun D i σ' H' ys=>(∃ v,σ'=[v,some (.ref p)])/\(∃ (ms:List Int) (N':Int),ys=ms.map V.int/\ms.length<=i/\Ris i ms/\0<=N'/\H' p=some (.lst [.int N']))/\Keep H1 H' p/\H' D=some (.lst ys)/\D≠p/\H1 D=none) ?_ ?_ ?_ ?_⟩
  ·intro D hD
   have:p≠D:=jB hp1 hD
   exact⟨⟨_,rfl⟩,⟨[],N2,rfl,ak _,Ris.nil _,b1,by rw[jA this]; exact hp1⟩,(Keep.refl _ _).new hD _,j8,this.symm,hD⟩
  ·rintro D i σ' H' ys hD hi ⟨_,⟨ms,N',rfl,e,_⟩,_,e2,_⟩
   exact⟨e2,by rw[af]; exact e⟩
  ·rintro D i σ' H' ys hD hi ⟨⟨v,rfl⟩,⟨ms,N',rfl,e,rs,n',hp'⟩,kk,e2,dp,hn⟩
   refine⟨_,rfl,p,N',3,rfl,hp',n',by decide,by decide,fun N3 r3 c1 c2 c3=>⟨rfl,_,rfl,?_⟩⟩
   have k2:Keep H1 (upd H' p (.lst [.int N3])) p:=kk.upd _
   have e3:(upd H' p (.lst [.int N3])) D=some (.lst (ms.map V.int)):=by rw[jA dp]; exact e2
   have hp3:(upd H' p (.lst [.int N3])) p=some (.lst [.int N3]):=j8
   generalize upd H' p (.lst [.int N3])=H'' at k2 e3 hp3 ⊢
   refine ite2 (fun hz=>?_) (fun hz=>?_)
   ·refine⟨_,rfl,e3,⟨_,rfl⟩,⟨ms++[(i:Int)],N3,?_,?_,rs.snoc,c1,by rw[jA dp.symm]; exact hp3⟩,k2.updNew hn _,j8,dp,hn⟩
    ·rw[aS]
     show _++[V.int (0+(i:Int))]=_++[V.int (i:Int)]
     rw[fw]
    ·rw[aC]
     show ms.length+1<=i+1
     omega
   ·exact⟨⟨_,rfl⟩,⟨ms,N3,rfl,by omega,rs.step,c1,hp3⟩,k2,e3,dp,hn⟩
  ·rintro D σ' H' ys hD ⟨_,⟨ms,N',rfl,e,rs,n',hp'⟩,kk,e2,dp,hn⟩
   refine⟨D,_,rfl, .inl ⟨SqL.of e2,fun qm hqm=>?_⟩⟩
   have pm:p≠qm:=jB hp' hqm
   have e':((w.toNat:Nat):Int)=w:=by omega
   rw[e'] at rs
   exact jGN T CT CL hr (by rw[jA pm]; exact hp') n' j8 rs ((k1.trans kk).new hqm _) ⟨_,hp⟩ a2 (by omega) w2 n0 n1 q
 ·exact jGN T CT CL hr hp1 b1 (mays:=[]) ht1 (Ris.nil w) k1 ⟨_,hp⟩ a2 (by omega) w2 n0 n1 q
end
theorem jSC {f fT fL:Addr}{fd fdT fdL:FuncData}(F:Fun K "_law_box" "_law_box" sBox f fd)(T:Txt mg)(CT:Can P w K mg base "_law_take" 1 fT fdT ["pot","wide"] kT)(CL:Can P w K mg base "_law_lot" 2 fL fdL ["pot","wide"] qG):
  FnOk P w K mg base CX0 3 f fd ["pot","most_things","most_pieces"] spBox:=by
 refine F.ok scBox (fun vs H Q E h=>?_) (fun cdv A outer s H vs Q E hr h=>?_)
 ·obtain⟨_,_,_,_,rfl,_⟩:=h
  rfl
 ·obtain⟨p,N,mt,mp,rfl,hp,hN,m0,m1,n0,n1,q⟩:=h
  exact⟨_,(boxA T CT CL hr).2.h,jMM T CT CL hr hp hN m0 m1 n0 n1 q⟩
end
inductive Ob where
 | int (i:Int)
 | oth
 | tup (os:List Ob)
def OthAt (H:Hp)(v:V):Prop:=v= .non\/(∃ b,v= .bl b)\/(∃ x,v= .str x)\/∃ a,v= .ref a/\((∃ xs,H a=some (.lst xs))\/∃ kvs,H a=some (.dK kvs))
mutual
def At (H:Hp):Ob->V->Prop
 | .int i,v=>v= .int i
 | .oth,v=>OthAt H v
 | .tup os,v=>∃ a vs,v= .ref a/\H a=some (.tup vs)/\vs.length<=100/\Ats H os vs
def Ats (H:Hp):List Ob->List V->Prop
 | [],vs=>vs=[]
 | o::os,vs=>∃ v r,vs=v::r/\At H o v/\Ats H os r
end
structure Kp (H H':Hp):Prop where
 t:Tups H H'
 l:∀ a xs,H a=some (.lst xs)->∃ ys,H' a=some (.lst ys)
 d:∀ a xs,H a=some (.dK xs)->∃ ys,H' a=some (.dK ys)
theorem OthAt.mono {H H':Hp}(k:Kp H H'){v:V}(h:OthAt H v):OthAt H' v:=by
 rcases h with h | h | h | ⟨a,rfl,⟨xs,h⟩ | ⟨xs,h⟩⟩
 ·exact .inl h
 ·exact .inr (.inl h)
 ·exact .inr (.inr (.inl h))
 ·exact .inr (.inr (.inr ⟨a,rfl, .inl (k.l _ _ h)⟩))
 ·exact .inr (.inr (.inr ⟨a,rfl, .inr (k.d _ _ h)⟩))
mutual
theorem At.mono {H H':Hp}(k:Kp H H'):∀ (o:Ob) (v:V),At H o v->At H' o v
 | .int _,_,h=>h
 | .oth,_,h=>OthAt.mono k h
 | .tup os,_,⟨a,vs,e,h,n,r⟩=>⟨a,vs,e,k.t _ _ h,n,Ats.mono k os vs r⟩
theorem Ats.mono {H H':Hp}(k:Kp H H'):∀ (os:List Ob) (vs:List V),Ats H os vs->Ats H' os vs
 | [],_,h=>h
 | o::os,_,⟨v,r,e,h,t⟩=>⟨v,r,e,At.mono k o v h,Ats.mono k os r t⟩
end
def isInt:Ob->Bool
 | .int _=>true
 | _=>false
def isTup:Ob->Bool
 | .tup _=>true
 | _=>false
theorem At.ty (K:W.Frag){H:Hp}{o:Ob}{v:V}(h:At H o v):∃ t,TyOf K H v t/\kitOne K t (.type "tuple")=some (isTup o)/\∃ b1 b2,kitOne K t (.type "int")=some b1/\kitOne K t (.type "bool")=some b2/\(b1&&!b2)=isInt o:=by
 cases o with
 | int i=>
  cases (show v= .int i from h)
  exact⟨_, .int i,rfl,true,false,rfl,rfl,rfl⟩
 | oth=>
  rcases (show OthAt H v from h) with rfl | ⟨b,rfl⟩ | ⟨x,rfl⟩ | ⟨a,rfl,⟨xs,e⟩ | ⟨xs,e⟩⟩
  ·exact⟨_, .non,rfl,false,false,rfl,rfl,rfl⟩
  ·exact⟨_, .bl b,rfl,true,true,rfl,rfl,rfl⟩
  ·exact⟨_, .str x,rfl,false,false,rfl,rfl,rfl⟩
  ·exact⟨_, .lst e,rfl,false,false,rfl,rfl,rfl⟩
  ·exact⟨_, .dK e,rfl,false,false,rfl,rfl,rfl⟩
 | tup os=>
  obtain⟨a,vs,rfl,e,_⟩:=h
  exact⟨_, .tup e,rfl,false,false,rfl,rfl,rfl⟩
section
variable {P:Program}{w:World}{K:W.Frag}{mg:Str->Option Value}{base:Heap}
abbrev XOf (N:List Str)(q:Str)(st:Stmt)(P:Program)(w:World)(K:W.Frag)(mg:Str->Option Value)(base:Heap)(f:Addr)(cdv:Value)(A:Around)(outer:List Env)(s:Shared)(H:Hp)(E:XK):Cx:=(cxOf CX0 P w K mg base N q (j7 st) f cdv A outer s H E).nox
variable {f fW fR:Addr}{fdW fdR:FuncData}{cdv:Value}{A:Around}{outer:List Env}{s:Shared}{H0:Hp}{E:XK}
def spWh:Sp:=fun vs H Q _=>∃ v o,vs=[v]/\At H o v/\Q (.bl (isInt o)) H
end
end Eo
end
section
namespace L2
open PySem
end L2
namespace Eo
open PySem L2
section
variable {P:Program}{w:World}{K:W.Frag}{mg:Str->Option Value}{base:Heap}
variable {f fW fR fL fG fI fPs:Addr}{fdW fdR fdL fdG fdI fdPs:FuncData}{cdv:Value}{A:Around}{outer:List Env}{s:Shared}{H0:Hp}{E:XK}
end
end Eo
end
section
namespace L2
open PySem
section
variable {P:Program}{w:World}{K:W.Frag}{mg:Str->Option Value}{base:Heap}{N:List Str}{qual:Str}{sc:Scope}{f:Addr}{cdv:Value}{A:Around}{outer:List Env}{s:Shared}{H:Hp}{E:XK}{x y z:Str}{p1 p2 p3 pos:Pos}{k i j l:Nat}
theorem jFC (hN:N.Nodup)(hi:N[i]?=some x)(hj:N[j]?=some y)(hx:sc.names.lookup x=some .local)(hy:sc.names.lookup y=some .local):
  JG (cxOf CX0 P w K mg base N qual sc f cdv A outer s H E).nox (.Tuple [.Name x p1, .Name y p2] k pos) (gTup K 2 (gCons (kZ i) (gCons (kZ j) gNil))):=
 jLS (X:=(cxOf CX0 P w K mg base N qual sc f cdv A outer s H E).nox) rfl (jBA (jY hN hi (loc_l hx)) (jBA (jY hN hj (loc_l hy)) jHI jCQ) jCQ)
end
end L2
namespace L2
open PySem
section
variable {K:W.Frag}{m:List (Option Nat)}{g:TG}{tt:TT}{te:TE}{σ:St}{H1:Hp}{Q:VK}
end
end L2
namespace Eo
open PySem L2
theorem jC9 (l:List Int):(l.map V.int).all flatV=true:=by
 rw[cC]
 intro x hx
 obtain⟨i,_,rfl⟩:=aW.mp hx
 rfl
theorem jD4 (i:Int)(l:List Int):inV (.int i) (l.map V.int)=decide (i∈l):=by
 unfold inV
 rw[cc,fY,br]
 constructor
 ·rintro ⟨x,hx,e⟩
  obtain⟨j,hj,rfl⟩:=aW.mp hx
  have:j=i:=eq_of_beq e
  rw[<- this]
  exact hj
 ·intro h
  exact⟨.int i,aW.mpr ⟨i,h,rfl⟩,by simp [eqV]⟩
theorem jAR:∀ (ts:List Int) (lo w:Int),ts.Pairwise (· < ·)->(∀ z∈ts,lo<=z/\z<w)->(ts.length:Int)<=max (w - lo) 0
 | [],lo,w,_,_=>by show (0:Int)<=_; omega
 | a::r,lo,w,hp,hb=>by
  have h1:=hb a az
  have hp':=cA.mp hp
  have:=jAR r (a+1) w hp'.2 fun z hz=>⟨by have:=hp'.1 z hz; omega,(hb z (aM _ hz)).2⟩
  rw[aQ]
  omega
def jC (pcs:List (List Int×Int))(k:Int):List Int:=(pcs.getD k.toNat ([],0)).1
theorem PcsAt.get {H:Hp} :∀ {vs:List V}{ps:List (List Int×Int)},PcsAt H vs ps->∀ {k:Nat},k<ps.length->∃ v,vs[k]?=some v/\PcAt H v (ps.getD k ([],0))
 | v::vs,p::ps,h,0,_=>⟨v,rfl,h.1⟩
 | v::vs,p::ps,h,k+1,hk=>PcsAt.get h.2 (k:=k) (by simpa using hk)
 | [],[],_,k,hk=>absurd hk (eU _)
 | [],_::_,h,_,_=>h.elim
 | _::_,[],h,_,_=>h.elim
theorem Good.at {mt mp w:Int}{ms:List Int}{pcs:List (List Int×Int)}(g:Good mt mp w ms pcs){k:Nat}(hk:k<pcs.length):GoodPc w (pcs.getD k ([],0)):=by
 have e:pcs.getD k ([],0)=pcs[k]:=by simp [List.getD,hk]
 rw[e]
 exact g.pg _ (cV hk)
theorem jDA {n i:Nat}(h:i<n):(upto n).take (i+1)=(upto n).take i++[(i:Int)]:=by
 unfold upto
 rw[<- iT,<- iT,List.take_range,List.take_range,show min (i+1) n=i+1 by omega,show min i n=i by omega,gB,aS]
 rfl
theorem jI2 (n:Nat):(upto n).length=n:=by
 unfold upto
 rw[af,di]
theorem jMO (H:Hp)(i:Int):At H (.int i) (.int i):=rfl
section
variable {P:Program}{w:World}{K:W.Frag}{mg:Str->Option Value}{base:Heap}
variable {f fW fR fU:Addr}{fdW fdR fdU:FuncData}{cdv:Value}{A:Around}{outer:List Env}{s:Shared}{H0:Hp}{E:XK}
abbrev jOJ:List Str:=["found"]
theorem scWhole:FnScope jOJ ["found"] (j7 jBZ):=⟨rfl,rfl,rfl,by decide+kernel,rfl,by decide+kernel,by decide+kernel⟩
def jR2 (T:Txt mg): { t:TS // JSs (XOf jOJ "_law_whole" jBZ P w K mg base f cdv A outer s H0 E) (jD jBZ) t} :=
 have nd:=scWhole.nd
 ⟨_,(jF (jW ((jGC (jH jAX gD T.isinstance (by decide+kernel) (j4 (jv 0 rfl vL) (j4 (jDS (v:= .ty "int") gD T.int (by decide+kernel) rfl) j9 j6) j6) j6) (jGB (jOR (jH jAX gD T.isinstance (by decide+kernel) (j4 (jv 0 rfl vL) (j4 (jDS (v:= .ty "bool") gD T.bool (by decide+kernel) rfl) j9 j6) j6) j6)))))))⟩
theorem jN9 {fd:FuncData}(F:Fun K "_law_whole" "_law_whole" jBZ f fd)(T:Txt mg):FnOk P w K mg base CX0 1 f fd ["found"] spWh:=by
 refine F.ok scWhole (fun vs H Q E h=>?_) (fun cdv A outer s H vs Q E hr h=>?_)
 ·obtain⟨_,_,rfl,_⟩:=h
  rfl
 ·obtain⟨v,o,rfl,hA,q⟩:=h
  obtain⟨t,ty,_,b1,b2,k1,k2,e⟩:=hA.ty K
  refine⟨_,(jR2 T).2.h,?_⟩
  refine⟨_,rfl,_,_,_,b1,rfl,ty,k1,b1,rfl,?_⟩
  rw[<- e] at q
  cases b1 with
  | true=>exact iteT ⟨_,rfl,_,_,_,b2,rfl,ty,k2,b2,rfl,q⟩
  | false=>exact iteF q
end
theorem _root_.L2.Ext.tups {H H':Hp}(e:Ext H H'):Tups H H':=fun b xs h=>e b _ h
theorem PcsAt.at {H:Hp} :∀ {vs:List V}{ps:List (List Int×Int)},PcsAt H vs ps->∀ {i:Nat}{v:V},vs[i]?=some v->∃ pc,ps[i]?=some pc/\PcAt H v pc
 | [],[],_,i,v,e=>by cases e
 | x::vs,p::ps,h,0,v,e=>by cases e; exact⟨p,rfl,h.1⟩
 | x::vs,p::ps,h,i+1,v,e=>PcsAt.at h.2 (i:=i) e
 | [],_::_,h,_,_,_=>h.elim
 | _::_,[],h,_,_,_=>h.elim
theorem PcsAt.snoc {H:Hp}{v:V}{p:List Int×Int}(hv:PcAt H v p):∀ {vs:List V}{ps:List (List Int×Int)},PcsAt H vs ps->PcsAt H (vs++[v]) (ps++[p])
 | [],[],_=>⟨hv,trivial⟩
 | x::vs,q::ps,h=>⟨h.1,PcsAt.snoc hv h.2⟩
 | [],_::_,h=>h.elim
 | _::_,[],h=>h.elim
theorem Good.wide {mt mp w mt' mp':Int}{ms:List Int}{pcs:List (List Int×Int)}(g:Good mt mp w ms pcs)(h1:mt<=mt')(h2:mp<=mp'):Good mt' mp' w ms pcs:=⟨g.w0,cK g.w1 h1,g.mr,cK g.pl h2,g.pg⟩
theorem jL8 (n:Nat):∀ (ds:List Int),ds.Nodup->(∀ t∈ds,0<=t/\t<(n:Int))->ds.length<=n:=by
 intro ds h1 h2
 have h3:(ds.map Int.toNat).Nodup:=by
  rw[List.Nodup,bF]
  refine g7 (R:=(· ≠ ·)) (fun {a b} ha hb hne e=>hne ?_) h1
  have:=h2 a ha
  have:=h2 b hb
  omega
 have h4:(ds.map Int.toNat).length<=(List.range n).length:=h3.length_le_of_subset fun x hx=>by
  obtain⟨t,ht,rfl⟩:=aW.mp hx
  have:=h2 t ht
  exact bO.mpr (by omega)
 rw[af,di] at h4
 exact h4
section
variable {P:Program}{w:World}{K:W.Frag}{mg:Str->Option Value}{base:Heap}
variable {f fC fP fT fB fW:Addr}{fdC fdP fdT fdB fdW:FuncData}{cdv:Value}{A:Around}{outer:List Env}{s:Shared}{H0:Hp}{E:XK}
abbrev jF3:List Str:=["found"]
theorem scWholes:FnScope jF3 ["found"] (j7 yK):=⟨rfl,rfl,rfl,by decide+kernel,rfl,by decide+kernel,by decide+kernel⟩
def jCY:Sp:=fun vs H Q _=>∃ (a:Addr) (ks:List Int),vs=[.ref a]/\H a=some (.tup (ks.map V.int))/\ks.length<=100/\∀ H',Ext H H'->Q (.bl true) H'
def jP1 (T:Txt mg)(CW:Can P w K mg base "_law_whole" 1 fW fdW ["found"] spWh)(hr:Room 1 (XOf jF3 "_law_wholes" yK P w K mg base f cdv A outer s H0 E).A): { t:TS // JSs (XOf jF3 "_law_wholes" yK P w K mg base f cdv A outer s H0 E) (jD yK) t} :=
 have nd:=scWholes.nd
 ⟨_,(jF (jW ((jGC (jH jAX gD T.isinstance (by decide+kernel) (j4 (jv 0 rfl vL) (j4 (jDS (v:= .ty "tuple") gD T.tuple (by decide+kernel) rfl) j9 j6) j6) j6) (jGB (jH (jGK rfl) gD T.all (by decide+kernel) (j4 (yC (m:=[none]) (Nc:=["one"]) rfl (jDQ (jv 0 rfl vL)) rfl (by decide+kernel) (by decide+kernel) (kL (psc:=j7 yK) (by decide+kernel)) (jS (N:=jF3) rfl rfl (by decide+kernel)) (fun cl C fp s H=>jY (i:=0) (show (["one"]:List Str).Nodup by decide+kernel) rfl (yY (by decide+kernel))) (fun cl C fp s H=>yB) (fun cl C fp s H=>(CW.je hr (gl_b (by decide+kernel)) (j4 (jv 0 rfl (kX (by decide+kernel))) j9 j6) j6)) jCL) j9 kB) kB))))))⟩
theorem jL3 {fd:FuncData}(F:Fun K "_law_wholes" "_law_wholes" yK f fd)(T:Txt mg)(CW:Can P w K mg base "_law_whole" 1 fW fdW ["found"] spWh):FnOk P w K mg base CX0 2 f fd ["found"] jCY:=by
 refine F.ok scWholes (fun vs H Q E h=>?_) (fun cdv A outer s H vs Q E hr h=>?_)
 ·obtain⟨_,_,rfl,_⟩:=h
  rfl
 ·obtain⟨a,ks,rfl,ha,hl,k⟩:=h
  refine⟨_,(jP1 T CW hr).2.h,?_⟩
  refine⟨_,rfl,_,_,_,true,rfl, .tup ha,rfl,_,rfl,iteT ?_⟩
  refine⟨_,rfl,a,rfl,⟨_,SqT.of ha⟩,jD5 (xs:=ks.map V.int) (by rw[af,aL]; omega) (fun D j σ' H' zs=>(∃ v,σ'=[v])/\Ext H H'/\H' D=some (.lst zs)/\H D=none/\zs=(replicate j true).map V.bl) ?_ ?_ ?_ ?_⟩
  ·intro D hD
   exact⟨⟨_,rfl⟩,(Ext.refl _).new hD _,j8,hD,rfl⟩
  ·rintro D j σ' H' zs hD ⟨_,e,h2,_,rfl⟩
   refine⟨e _ _ ha,h2,?_⟩
   rw[af,d9]
   exact ak _
  ·rintro D j σ' H' zs x hD hx ⟨⟨v,rfl⟩,e,h2,hn,rfl⟩
   obtain⟨z,hz,rfl⟩:∃ z:Int,ks[j]?=some z/\V.int z=x:=by
    rw[bb] at hx
    cases hq:ks[j]? with
    | none=>rw[hq] at hx; cases hx
    | some z=>rw[hq] at hx; cases hx; exact⟨z,rfl,rfl⟩
   dsimp only [kZ,yR]
   rw[aj rfl]
   refine⟨_,rfl,_, .int z,rfl,jMO _ _,h2,⟨_,rfl⟩,e.updNew hn _,j8,hn,?_⟩
   rw[iN,aS]
   rfl
  ·rintro D σ' H' zs hD ⟨_,e,h2,hn,rfl⟩
   refine⟨D,_,rfl,SqL.of h2,?_⟩
   have:(replicate (ks.map V.int).length true).all id=true:=by rw[cC]; intro x hx; exact(i6.mp hx).2
   rw[this]
   exact k H' e
end
def pcT (pc:List Int×Int):Tr:= .tup [.tup (pc.1.map Tr.int), .int pc.2]
def boxT (w:Int)(ms:List Int)(pcs:List (List Int×Int)):Tr:= .tup [.int w, .tup (ms.map Tr.int), .tup (pcs.map pcT)]
theorem jIZ {H:Hp} :∀ l:List Int,TsAt H (l.map Tr.int) (l.map V.int)
 | []=>rfl
 | i::r=>⟨.int i,_,rfl,rfl,jIZ r⟩
theorem pcs_T {H:Hp} :∀ {vs:List V}{pcs:List (List Int×Int)},PcsAt H vs pcs->TsAt H (pcs.map pcT) vs
 | [],[],_=>rfl
 | v::vs,p::ps,h=>by
  obtain⟨a,q,e,h1,h2⟩:=h.1
  exact⟨v,vs,rfl,⟨a,_,e,h1, .ref q,_,rfl,⟨q,_,rfl,h2,jIZ _⟩, .int p.2,[],rfl,rfl,rfl⟩,pcs_T h.2⟩
 | [],_::_,h=>h.elim
 | _::_,[],h=>h.elim
theorem box_T {H:Hp}{b:Addr}{w:Int}{ms:List Int}{pcs:List (List Int×Int)}(h:BoxAt H b w ms pcs):TAt H (boxT w ms pcs) (.ref b):=by
 obtain⟨qm,qp,ps,b1,b2,b3,b4⟩:=h.ex
 exact⟨b,_,rfl,b1, .int w,_,rfl,rfl, .ref qm,_,rfl,⟨qm,_,rfl,b2,jIZ _⟩, .ref qp,[],rfl,⟨qp,_,rfl,b3,pcs_T b4⟩,rfl⟩
theorem jCB:∀ l:List Int,deps (l.map Tr.int)=0
 | []=>by simp [deps]
 | i::r=>by simp [deps,dep,jCB r]
theorem jJ5:∀ l:List (List Int×Int),deps (l.map pcT)<=2
 | []=>by simp [deps]
 | p::r=>by
  have:=jJ5 r
  simp only [bg,deps,pcT,dep,jCB]
  omega
theorem jQZ (w:Int)(ms:List Int)(pcs:List (List Int×Int)):dep (boxT w ms pcs)<=4:=by
 have:=jJ5 pcs
 simp only [boxT,dep,deps,jCB]
 omega
theorem iteN {A B:Prop}{c:Bool}(hc:c=false)(h:B):if c=true then A else B:=by
 rw[hc]
 exact iteF h
section
variable {P:Program}{w:World}{K:W.Frag}{mg:Str->Option Value}{base:Heap}
variable {f fW fS:Addr}{fdW fdS:FuncData}{cdv:Value}{A:Around}{outer:List Env}{s:Shared}{H0:Hp}{E:XK}
abbrev jIM:List Str:=["found","due"]
theorem scIsBox:FnScope jIM ["found","due"] (j7 yW):=⟨rfl,rfl,rfl,by decide+kernel,rfl,by decide+kernel,by decide+kernel⟩
def jAE:Sp:=fun vs H Q _=>∃ (a b:Addr) (w:Int) (ms:List Int) (pcs:List (List Int×Int)),vs=[.ref a, .ref b]/\BoxAt H a w ms pcs/\BoxAt H b w ms pcs/\ms.length<=100/\pcs.length<=100/\(∀ p∈pcs,p.1.length<=100)/\∀ H',Ext H H'->Q (.bl true) H'
def jST (T:Txt mg)(CW:Can P w K mg base "_law_whole" 1 fW fdW ["found"] spWh)(CWs:Can P w K mg base "_law_wholes" 2 fS fdS ["found"] jCY)(hr:Room 2 (XOf jIM "_law_is_box" yW P w K mg base f cdv A outer s H0 E).A): { t:TS // JSs (XOf jIM "_law_is_box" yW P w K mg base f cdv A outer s H0 E) (jD yW) t} :=
 have nd:=scIsBox.nd
 ⟨_,(jE (yI (jt_w (jw_or (jGA (jEI (jH jAX gD T.isinstance (by decide+kernel) (j4 (jv 0 rfl vL) (j4 (jDS (v:= .ty "tuple") gD T.tuple (by decide+kernel) rfl) j9 j6) j6) j6) jDC)) (jw_or (jP (jPY hr.units101) (jv 0 rfl vL) (jv 1 rfl vL) (jN _)) (jw_or (jGA (jEI (CW.je (hr.mono (by decide)) gD (j4 (jU jR (jv 0 rfl vL) (je_int) jG) j9 jZ) jZ) jDC)) (jIV (jGA (jEI (CWs.je hr gD (j4 (jU jR (jv 0 rfl vL) (je_int) jG) j9 jZ) jZ) jDC))))))) (jF (jW (je_bl))) kJ)
   (jF (jW (jH (jGK rfl) gD T.all (by decide+kernel) (j4 (yC (m:=[none,none]) (Nc:=["things","weight"]) rfl (jDQ (jU jR (jv 0 rfl vL) (je_int) jG)) rfl (by decide+kernel) (by decide+kernel) (kL (psc:=j7 yW) (by decide+kernel)) (jS (N:=jIM) rfl rfl (by decide+kernel)) (fun cl C fp s H=>jDR (i:=0) (j:=1) rfl (show (["things","weight"]:List Str).Nodup by decide+kernel) rfl rfl (by decide+kernel) (by decide+kernel)) (fun cl C fp s H=>yB) (fun cl C fp s H=>((jGC (CWs.je hr (gl_b (by decide+kernel)) (j4 (jv 0 rfl (kX (by decide+kernel))) j9 j6) j6) (jGB (CW.je (hr.mono (by decide)) (gl_b (by decide+kernel)) (j4 (jv 1 rfl (kX (by decide+kernel))) j9 j6) j6))))) jJ2) j9 kB) kB))))⟩
theorem jNB {fd:FuncData}(F:Fun K "_law_is_box" "_law_is_box" yW f fd)(T:Txt mg)(CW:Can P w K mg base "_law_whole" 1 fW fdW ["found"] spWh)(CWs:Can P w K mg base "_law_wholes" 2 fS fdS ["found"] jCY):FnOk P w K mg base CX0 3 f fd ["found","due"] jAE:=by
 refine F.ok scIsBox (fun vs H Q E h=>?_) (fun cdv A outer s H vs Q E hr h=>?_)
 ·obtain⟨_,_,_,_,_,rfl,_⟩:=h
  rfl
 ·obtain⟨a,b,w,ms,pcs,rfl,B1,B2,lm,lp,lt,q⟩:=h
  refine⟨_,(jST T CW CWs hr).2.h,?_⟩
  obtain⟨qm,qp,vs,a1,a2,a3,a4⟩:=id B1.ex
  refine⟨_,rfl,_,_,_,true,rfl, .tup a1,rfl,_,rfl,iteF ?_⟩
  have T1:=box_T B1
  have T2:=box_T B2
  refine⟨_,rfl,_,rfl,_,_,T1,T2,?_,_,rfl,iteN (by rw[jB2]; rfl) ?_⟩
  ·have h:=jQZ w ms pcs
   unfold boxT at h
   rw[dep] at h
   omega
  refine⟨_,rfl,_,_,0,_,rfl,rfl,SqT.of a1,rfl,_, .int w,rfl,jMO _ _,_,rfl,iteF ?_⟩
  refine⟨_,rfl,_,_,1,_,rfl,rfl,SqT.of a1,rfl,qm,ms,rfl,a2,lm,fun H1 e1=>⟨_,rfl,iteF ?_⟩⟩
  refine⟨_,rfl,_,_,2,_,rfl,rfl,SqT.of (e1 _ _ a1),rfl,qp,rfl,⟨_,SqT.of (e1 _ _ a3)⟩,jD5 (xs:=vs) (by rw[a4.len,aL]; omega) (fun D j σ' H' zs=>(∃ v v',σ'=[v,v'])/\Ext H1 H'/\H' D=some (.lst zs)/\H1 D=none/\zs=(replicate j true).map V.bl) ?_ ?_ ?_ ?_⟩
  ·intro D hD
   exact⟨⟨_,_,rfl⟩,(Ext.refl _).new hD _,j8,hD,rfl⟩
  ·rintro D j σ' H' zs hD ⟨_,e,h2,_,rfl⟩
   refine⟨e _ _ (e1 _ _ a3),h2,?_⟩
   rw[af,d9]
   exact ak _
  ·rintro D j σ' H' zs x hD hx ⟨⟨v,v',rfl⟩,e,h2,hn,rfl⟩
   have hj:j<pcs.length:=by
    rw[<- a4.len]
    exact(ar.mp hx).1
   obtain⟨x',hx',ax,qx,rfl,c1,c2⟩:=a4.get hj
   rw[hx] at hx'
   cases hx'
   have lj:(pcs.getD j ([],0)).1.length<=100:=by
    have ee:pcs.getD j ([],0)=pcs[j]:=by simp [List.getD,hj]
    rw[ee]
    exact lt _ (cV hj)
   generalize pcs.getD j ([],0)=pc at c1 c2 lj
   refine⟨ax,_,rfl,SqT.of (e _ _ (e1 _ _ c1)),rfl,_,_,rfl,_,_,rfl,rfl,?_⟩
   dsimp only [kZ,yR]
   rw[aj rfl]
   refine⟨_,rfl,qx,pc.1,rfl,e _ _ (e1 _ _ c2),lj,fun H2 e2=>⟨_,rfl,iteT ?_⟩⟩
   refine⟨_,rfl,_, .int pc.2,rfl,jMO _ _,e2 _ _ h2,⟨_,_,rfl⟩,(e.trans e2).updNew hn _,j8,hn,?_⟩
   rw[iN,aS]
   rfl
  ·rintro D σ' H' zs hD ⟨_,e,h2,hn,rfl⟩
   refine⟨D,_,rfl,SqL.of h2,?_⟩
   have:(replicate vs.length true).all id=true:=by rw[cC]; intro x hx; exact(i6.mp hx).2
   rw[this]
   exact q H' (e1.trans e)
end
abbrev leI:Int->Int->Bool:=fun a b=>decide (a<=b)
def srt (l:List Int):List Int:=l.mergeSort leI
theorem jB7 (l:List Int):(srt l).Perm l:=List.mergeSort_perm _ _
theorem jOC (l:List Int):(srt l).Pairwise (· <= ·):=by
 have:=List.pairwise_mergeSort (le:=leI) (fun a b c h1 h2=>aw (cK (aK h1) (aK h2))) (fun a b=>by
  rw[Bool.or_eq_true]
  rcases Int.le_total a b with h | h
  ·exact .inl (aw h)
  ·exact .inr (aw h)) l
 exact this.imp fun h=>aK h
theorem jFU {l m:List Int}(h1:m.Pairwise (· <= ·))(h2:m.Perm l):m=srt l:=
 List.Perm.eq_of_pairwise (fun a b _ _ h1 h2=>Int.le_antisymm h1 h2) h1 (jOC l) (h2.trans (jB7 l).symm)
theorem jRF {l:List Int}(h:l.Pairwise (· <= ·)):srt l=l:=(jFU h (.refl _)).symm
theorem jP7 {a b:List Int}(ra:a.Pairwise (· < ·))(rb:b.Pairwise (· < ·))(h:∀ x,x∈a↔x∈b):a=b:=by
 have na:a.Nodup:=ra.imp fun {a b} h=>by omega
 have nb:b.Nodup:=rb.imp fun {a b} h=>by omega
 have pm:a.Perm b:=(eG na nb).mpr h
 rw[jFU (ra.imp fun {a b} h=>by omega) pm,jRF (rb.imp fun {a b} h=>by omega)]
section
variable {P:Program}{w:World}{K:W.Frag}{mg:Str->Option Value}{base:Heap}
variable {f fM:Addr}{fdM:FuncData}{cdv:Value}{A:Around}{outer:List Env}{s:Shared}{H0:Hp}{E:XK}
abbrev nMask:List Str:=["lot"]
theorem scMask:FnScope nMask ["lot"] (j7 sMask):=⟨rfl,rfl,rfl,by decide+kernel,rfl,by decide+kernel,by decide+kernel⟩
def jFW:Sp:=fun vs H Q _=>∃ (q:Addr) (ts:List Int),vs=[.ref q]/\H q=some (.tup (ts.map V.int))/\(∀ t∈ts,0<=t/\t<64)/\ts.length<=64/\∀ H',Ext H H'->Q (.int ((maskN ts:Nat):Int)) H'
def maskA (T:Txt mg): { t:TS // JSs (XOf nMask "mask_of" sMask P w K mg base f cdv A outer s H0 E) (jD sMask) t} :=
 have nd:=scMask.nd
 ⟨_,(jF (jW (jH (jGI rfl) gD T.sum (by decide+kernel) (j4 (yC (m:=[none]) (Nc:=["thing"]) rfl (jDQ (jv 0 rfl vL)) rfl (by decide+kernel) (by decide+kernel) (kL (psc:=j7 sMask) (by decide+kernel)) (jS (N:=nMask) rfl rfl (by decide+kernel)) (fun cl C fp s H=>jY (i:=0) (show (["thing"]:List Str).Nodup by decide+kernel) rfl (yY (by decide+kernel))) (fun cl C fp s H=>yB) (fun cl C fp s H=>(kN jIH (je_int) (jv 0 rfl (kX (by decide+kernel))))) jCL) j9 kB) kB)))⟩
theorem jJN (ts:List Int)(h:∀ t∈ts,0<=t):(ts.map fun t=>(1:Int)*2 ^ t.toNat).sum=((maskN ts:Nat):Int):=by
 induction ts with
 | nil=>rfl
 | cons t r ih=>
  have e:maskN (t::r)=2 ^ t.toNat+maskN r:=by simp [maskN]
  rw[bg,d0,ih fun x hx=>h x (aM _ hx),e]
  push_cast
  omega
theorem jQ4 {fd:FuncData}(F:Fun K "mask_of" "mask_of" sMask f fd)(T:Txt mg):FnOk P w K mg base CX0 1 f fd ["lot"] jFW:=by
 refine F.ok scMask (fun vs H Q E h=>?_) (fun cdv A outer s H vs Q E hr h=>?_)
 ·obtain⟨_,_,rfl,_⟩:=h
  rfl
 ·obtain⟨q,ts,rfl,hq,hb,hl,k⟩:=h
  refine⟨_,(maskA T).2.h,?_⟩
  refine⟨_,rfl,q,rfl,⟨_,SqT.of hq⟩,jD5 (xs:=ts.map V.int) (by rw[af,aL]; omega) (fun D i σ' H' zs=>(∃ v,σ'=[v])/\Ext H H'/\H' D=some (.lst zs)/\H D=none/\zs=((ts.take i).map fun t=>(1:Int)*2 ^ t.toNat).map V.int) ?_ ?_ ?_ ?_⟩
  ·intro D hD
   exact⟨⟨_,rfl⟩,(Ext.refl _).new hD _,j8,hD,rfl⟩
  ·rintro D i σ' H' zs hD ⟨_,e,h2,_,rfl⟩
   refine⟨e _ _ hq,h2,?_⟩
   rw[af,af,bD]
   omega
  ·rintro D i σ' H' zs x hD hx ⟨⟨v,rfl⟩,e,h2,hn,rfl⟩
   obtain⟨z,hz,rfl⟩:∃ z:Int,ts[i]?=some z/\V.int z=x:=by
    rw[bb] at hx
    cases hq:ts[i]? with
    | none=>rw[hq] at hx; cases hx
    | some z=>rw[hq] at hx; cases hx; exact⟨z,rfl,rfl⟩
   have hzb:=hb z (aI hz)
   dsimp only [kZ,yR]
   rw[aj rfl]
   refine⟨_,rfl,_,_,rfl,rfl,⟨?_,?_,?_⟩,h2,⟨_,rfl⟩,e.updNew hn _,j8,hn,?_⟩
   ·first | omega | decide
   ·first | omega | decide
   ·first | omega | decide
   ·have:ts.take (i+1)=ts.take i++[z]:=by
     rw[bq,hz]
     rfl
    rw[this,aS,aS]
    rfl
  ·rintro D σ' H' zs hD ⟨_,e,h2,hn,rfl⟩
   refine⟨D,_,rfl,SqL.of h2,?_⟩
   rw[af,bI,jJN ts fun t ht=>(hb t ht).1]
   exact k H' e
end
end Eo
end
section
namespace L2
open PySem
theorem jLU {X:Cx}{a b c:Expr}{pos:Pos}{ta tb:TE}{tc:TT}(hc:JT X c tc)(ha:JE X a ta)(hb:JE X b tb):JE X (.IfExp c a b pos) (tIf tc ta tb):=⟨jN7 hc.h ha.h hb.h⟩
theorem jRH {a b c:Expr}{pos:Pos}{es:List Expr}{env:Env} :starEach (.IfExp c a b pos::es) env=(false,eval (.IfExp c a b pos) env)::starEach es env:=rfl
end L2
namespace Eo
open PySem L2
def PrAt (H:Hp)(v:V)(c:Int×Nat):Prop:=∃ q,v= .ref q/\H q=some (.tup [.int c.1, .int ((c.2:Nat):Int)])
theorem PrAt.mono {H H':Hp}(t:Tups H H'){v:V}{c:Int×Nat}(h:PrAt H v c):PrAt H' v c:=let ⟨q,e,z⟩:=h; ⟨q,e,t _ _ z⟩
def RowAt (H:Hp)(l:Addr)(cs:List (Int×Nat)):Prop:=∃ vs,H l=some (.lst vs)/\All2 (PrAt H) vs cs
structure ChAt (H:Hp)(L:Addr)(ch:Ch):Prop where
 ex:∃ ls:List Addr,H L=some (.lst (ls.map V.ref))/\ls.Nodup/\All2 (RowAt H) ls ch
theorem RowAt.keep {H H':Hp}{l:Addr}{cs:List (Int×Nat)}(h:RowAt H l cs)(k:∀ xs,H l=some (.lst xs)->H' l=some (.lst xs))(t:Tups H H'):RowAt H' l cs:=let ⟨vs,a,b⟩:=h; ⟨vs,k _ a,b.imp fun _ _=>PrAt.mono t⟩
theorem ChAt.keep {H H':Hp}{L:Addr}{ch:Ch}(h:ChAt H L ch)(k:∀ b xs,H b=some (.lst xs)->H' b=some (.lst xs))(t:Tups H H'):ChAt H' L ch:=by
 obtain⟨ls,a,b,c⟩:=h.ex
 exact⟨ls,k _ _ a,b,c.imp fun l cs r=>r.keep (k l) t⟩
theorem ChAt.ext {H H':Hp}{L:Addr}{ch:Ch}(h:ChAt H L ch)(e:Ext H H'):ChAt H' L ch:=h.keep (fun b xs z=>e _ _ z) e.tups
theorem ChAt.len {H:Hp}{L:Addr}{ch:Ch}(h:ChAt H L ch):∃ ls:List Addr,H L=some (.lst (ls.map V.ref))/\ls.length=ch.length:=by
 obtain⟨ls,a,b,c⟩:=h.ex
 exact⟨ls,a,c.len⟩
def y4 (ms:List Int)(pcs:List (List Int×Int))(n t:Nat):List (Int×Nat):=
 (if (t:Int)∈ms then [(-1,2 ^ t)] else [])++(((upto pcs.length).take n).filter fun k=>decide ((jC pcs k).headD 0=(t:Int))).map fun k=>(k,maskN (jC pcs k))
def chsN (w:Nat)(ms:List Int)(pcs:List (List Int×Int))(n:Nat):Ch:=(List.range w).map (y4 ms pcs n)
def chs (w:Nat)(ms:List Int)(pcs:List (List Int×Int)):Ch:=chsN w ms pcs pcs.length
theorem kI (w:Nat)(ms:List Int)(pcs:List (List Int×Int))(n:Nat):(chsN w ms pcs n).length=w:=by
 unfold chsN
 rw[af,di]
theorem y8 {w:Nat}{ms:List Int}{pcs:List (List Int×Int)}{n t:Nat}(h:t<w):(chsN w ms pcs n)[t]?=some (y4 ms pcs n t):=by
 unfold chsN
 rw[bb,List.getElem?_range h]
 rfl
theorem jG7 {ts:List Int}{t:Nat}(hp:ts.Pairwise (· < ·))(h0:∀ x∈ts,0<=x)(h:(t:Int)∈ts):(maskN ts).testBit t=true:=by
 rw[jA6 ts t hp h0,aw h]
theorem jDL {ts:List Int}{w:Nat}(hp:ts.Pairwise (· < ·))(h0:∀ x∈ts,0<=x/\x<(w:Int)):maskN ts<2 ^ w:=by
 refine Nat.lt_pow_two_of_testBit _ fun i hi=>?_
 rw[jA6 ts i hp fun x hx=>(h0 x hx).1,aP]
 intro z
 have:=(h0 _ z).2
 omega
theorem jFD {l:List Int}(h:l≠ []):l.headD 0∈l:=by
 cases l with
 | nil=>exact absurd rfl h
 | cons a r=>exact az ..
theorem yQ {w:Int}{ms:List Int}{pcs:List (List Int×Int)}{n:Nat}(g:Good 16 32 w ms pcs):ChOk (chsN w.toNat ms pcs n):=by
 have w0:=g.w0
 have w1:=g.w1
 have gpl:=g.pl
 refine⟨by rw[kI]; omega,fun t cs h=>?_,fun t cs h c hc=>?_⟩
 ·have ht:t<w.toNat:=by
   have:=(ar.mp h).1
   rwa [kI] at this
  rw[y8 ht] at h
  cases h
  unfold y4
  rw[aC,af]
  have:=cw (fun k=>decide ((jC pcs k).headD 0=(t:Int))) ((upto pcs.length).take n)
  have:=bN n (upto pcs.length)
  have:=jI2 pcs.length
  have:((upto pcs.length).take n).length<=(upto pcs.length).length:=by rw[bD]; omega
  split <;> simp only [aQ,cf] <;> omega
 ·have ht:t<w.toNat:=by
   have:=(ar.mp h).1
   rwa [kI] at this
  rw[y8 ht] at h
  cases h
  unfold y4 at hc
  rw[kI]
  rcases aN.mp hc with hc | hc
  ·split at hc
   ·rw[aq] at hc
    subst hc
    exact⟨by simp [cn],gu (by decide) ht,by show (-1:Int)<= -1; decide,by show (-1:Int)<32; decide⟩
   ·cases hc
  ·obtain⟨k,hk,rfl⟩:=aW.mp hc
   obtain⟨hk1,hk2⟩:=bz.mp hk
   have kb:=(jAO pcs.length).bnd k (bU hk1)
   have gp:=g.at (k:=k.toNat) (by omega)
   have hk2:=aK hk2
   have hne:jC pcs k≠ []:=gp.lot.ne
   have hm:(t:Int)∈jC pcs k:=by
    rw[<- hk2]
    exact jFD hne
   exact⟨jG7 gp.lot.ris (fun x hx=>(gp.lot.bnd x hx).1) hm,jDL gp.lot.ris fun x hx=>⟨(gp.lot.bnd x hx).1,by have:=(gp.lot.bnd x hx).2; omega⟩,by omega,by omega⟩
section
variable {P:Program}{w:World}{K:W.Frag}{mg:Str->Option Value}{base:Heap}
variable {f fM:Addr}{fdM:FuncData}{cdv:Value}{A:Around}{outer:List Env}{s:Shared}{H0:Hp}{E:XK}
abbrev jB8:List Str:=["box","choices","number","piece"]
theorem scChoices:FnScope jB8 ["box"] (j7 kU):=⟨rfl,rfl,rfl,by decide+kernel,rfl,by decide+kernel,by decide+kernel⟩
def jAJ:Sp:=fun vs H Q _=>∃ (b:Addr) (w:Int) (ms:List Int) (pcs:List (List Int×Int)),vs=[.ref b]/\BoxAt H b w ms pcs/\Good 16 32 w ms pcs/\∀ r H',ChAt H' r (chs w.toNat ms pcs)->Ext H H'->Q (.ref r) H'
def jQY (T:Txt mg)(CM:Can P w K mg base "mask_of" 1 fM fdM ["lot"] jFW)(hr:Room 1 (XOf jB8 "choices_of" kU P w K mg base f cdv A outer s H0 E).A): { t:TS // JSs (XOf jB8 "choices_of" kU P w K mg base f cdv A outer s H0 E) (jDO ((jD kU).getD 1 (.Pass ⟨0,0,0,0⟩))) t} :=
 have nd:=scChoices.nd
 ⟨_,(jF (jHF (je_bm dS g8 g9 jC2 (jU jAW (jv 1 rfl vL) (jU jR (jU jR (jv 3 rfl vL) (je_int) jG) (je_int) jG) jRK) (j4 (kD (j4 (jv 2 rfl vL) (j4 (CM.je hr gD (j4 (jU jR (jv 3 rfl vL) (je_int) jG) j9 jZ) jZ) j9 jI) j6)) j9 yP) yP) kS))⟩
def jO4 (T:Txt mg)(CM:Can P w K mg base "mask_of" 1 fM fdM ["lot"] jFW)(hr:Room 1 (XOf jB8 "choices_of" kU P w K mg base f cdv A outer s H0 E).A): { t:TS // JSs (XOf jB8 "choices_of" kU P w K mg base f cdv A outer s H0 E) (jD kU) t} :=
 have nd:=scChoices.nd
 ⟨_,(jE (jLN (i:=1) nd rfl lL ⟨by rfl⟩ (m:=[none,some 0]) (Nc:=["thing","box"]) rfl (jC7 gD T.range (j4 (jU jR (jv 0 rfl vC) (je_int) jG) j9 jZ) jZ) rfl (by decide+kernel) (by decide+kernel) (kL (psc:=j7 kU) (by decide+kernel)) (jS (N:=jB8) rfl rfl (by decide+kernel)) (fun cl C fp s H=>jY (i:=0) (show (["thing","box"]:List Str).Nodup by decide+kernel) rfl (yY (by decide+kernel))) (fun cl C fp s H=>yB) (fun cl C fp s H=>(jLU (jP jL0 (jv 0 rfl (kX (by decide+kernel))) (jU jIY (jv 1 rfl (jBT (by decide+kernel))) (je_int) jG) jOI) (jAG (j4 (kD (j4 (je_un jR5 (je_int)) (j4 (kN jIH (je_int) (jv 0 rfl (kX (by decide+kernel)))) j9 yH) se_un)) j9 yP)) (jAG j9))) yG) (jE (jEJ dr rfl (jQM gD T.enumerate (j4 (jU jR (jv 0 rfl vC) (je_int) jG) j9 jZ) jZ) (jFC (i:=2) (j:=3) nd rfl rfl (by decide+kernel) (by decide+kernel)) (jQY T CM hr).2 yG) (jF (jW (jv 1 rfl vL)))))⟩
abbrev nFull:List Str:=["choices"]
theorem scFull:FnScope nFull ["choices"] (j7 sFull):=⟨rfl,rfl,rfl,by decide+kernel,rfl,by decide+kernel,by decide+kernel⟩
def jE9:Sp:=fun vs H Q _=>∃ (L:Addr) (ch:Ch),vs=[.ref L]/\ChAt H L ch/\ch.length<=16/\Q (.int ((fullN ch:Nat):Int)) H
def fullA (T:Txt mg): { t:TS // JSs (XOf nFull "full_mask" sFull P w K mg base f cdv A outer s H0 E) (jD sFull) t} :=
 have nd:=scFull.nd
 ⟨_,(jF (jW (kN jEG (kN jIH (je_int) (jH jA1 gD T.len (by decide+kernel) (j4 (jv 0 rfl vL) j9 j6) j6)) (je_int))))⟩
abbrev nAt:List Str:=["choices","mask","least_lacked"]
theorem scAt:FnScope nAt ["choices","mask"] (j7 sAt):=⟨rfl,rfl,rfl,by decide+kernel,rfl,by decide+kernel,by decide+kernel⟩
def spAt:Sp:=fun vs H Q _=>∃ (L:Addr) (ch:Ch) (m:Nat),vs=[.ref L, .int (m:Int)]/\ChAt H L ch/\ChOk ch/\m<2 ^ ch.length/\m≠fullN ch/\∀ r H',RowAt H' r (chAt ch m)->Ext H H'->H r=none->Q (.ref r) H'
def atA (T:Txt mg): { t:TS // JSs (XOf nAt "choices_at" sAt P w K mg base f cdv A outer s H0 E) (jD sAt) t} :=
 have nd:=scAt.nd
 ⟨_,(jE (jO (i:=2) nd rfl lL (kN jEG (jOS PySem.F.plainAttrs_int PySem.F.slot_int_bit_length PySem.F.type_int_bit_length jQD (kN jL2 (je_un jR6 (jv 1 rfl vC)) (kN kY (jv 1 rfl vC) (je_int)))) (je_int)) jDD)
   (jF (jW (yC (m:=[none,some 1]) (Nc:=["choice","mask"]) rfl (jAV (jU jAW (jv 0 rfl vL) (jv 2 rfl vL) jH6)) rfl (by decide+kernel) (by decide+kernel) (kL (psc:=j7 sAt) (by decide+kernel)) (jS (N:=nAt) rfl rfl (by decide+kernel)) (fun cl C fp s H=>jY (i:=0) (show (["choice","mask"]:List Str).Nodup by decide+kernel) rfl (yY (by decide+kernel))) (fun cl C fp s H=>jHE (jP qI (kN jL2 (jU jIY (jv 0 rfl (kX (by decide+kernel))) (je_int) jG) (jv 1 rfl (jBT (by decide+kernel)))) (je_int) (jN _))) (fun cl C fp s H=>(jv 0 rfl (kX (by decide+kernel)))) jJ2))))⟩
theorem jCP (ms:List Int)(pcs:List (List Int×Int))(t:Nat):y4 ms pcs 0 t=if (t:Int)∈ms then [(-1,2 ^ t)] else []:=by
 unfold y4
 rw[iL]
 simp
theorem jMI {w n:Nat}{ms:List Int}{pcs:List (List Int×Int)}(hn:n<pcs.length)(t:Nat)(ht:(jC pcs (n:Int)).headD 0=(t:Int)):chsN w ms pcs (n+1)=(chsN w ms pcs n).set t (y4 ms pcs n t++[((n:Int),maskN (jC pcs n))]):=by
 have key:∀ u,y4 ms pcs (n+1) u=y4 ms pcs n u++if u=t then [((n:Int),maskN (jC pcs n))] else []:=fun u=>by
  unfold y4
  rw[jDA hn,bW,aS,aU]
  congr 2
  rw[ck,ht]
  by_cases hu:u=t
  ·subst hu
   rw[aj (aw rfl),aj rfl]
   rfl
  ·rw[ah (by rw[br]; omega),ah hu]
   rfl
 refine List.ext_getElem? fun i=>?_
 rw[List.getElem?_set,kI]
 by_cases hi:i<w
 ·rw[y8 hi,y8 hi,key]
  by_cases h:t=i
  ·subst h
   rw[aj rfl,aj rfl,aj hi]
  ·rw[ah h,ah (fun z=>h z.symm),aV]
 ·rw[cS (by rw[kI]; omega),cS (by rw[kI]; omega)]
  split
  ·rw[ah (by omega)]
  ·rfl
theorem ChAt.app {H:Hp}{L:Addr}{ch:Ch}{t:Nat}{l:Addr}{ls:List Addr}{vs:List V}{cs:List (Int×Nat)}{v:V}{c:Int×Nat}(hL:H L=some (.lst (ls.map V.ref)))(nd:ls.Nodup)(al:All2 (RowAt H) ls ch)(hl:ls[t]?=some l)(hc:ch[t]?=some cs)(hv:H l=some (.lst vs))(av:All2 (PrAt H) vs cs)(pv:PrAt H v c)(ne:l≠L):
  (L2.upd H l (.lst (vs++[v]))) L=some (.lst (ls.map V.ref))/\All2 (RowAt (L2.upd H l (.lst (vs++[v])))) ls (ch.set t (cs++[c])):=by
 have tu:Tups H (L2.upd H l (.lst (vs++[v]))):=Tups.upd hv _
 refine⟨by rw[jA ne.symm]; exact hL,?_⟩
 refine All2.of_get (by rw[gz]; exact al.len) fun i a b h1 h2=>?_
 rw[List.getElem?_set] at h2
 by_cases hi:t=i
 ·subst hi
  rw[aj rfl,aj (ar.mp hc).1] at h2
  cases h2
  rw[hl] at h1
  cases h1
  exact⟨_,j8,(av.imp fun _ _=>PrAt.mono tu).snoc (pv.mono tu)⟩
 ·rw[ah hi] at h2
  obtain⟨b',hb',r⟩:=al.get' h1
  rw[h2] at hb'
  cases hb'
  refine r.keep (fun xs hx=>?_) tu
  rw[jA fun z=>hi ?_]
  ·exact hx
  ·exact(fk (ar.mp hl).1 nd).mp (by rw[hl,h1,z])
theorem jJL {fd:FuncData}(F:Fun K "choices_of" "choices_of" kU f fd)(T:Txt mg)(CM:Can P w K mg base "mask_of" 1 fM fdM ["lot"] jFW):FnOk P w K mg base CX0 2 f fd ["box"] jAJ:=by
 refine F.ok scChoices (fun vs H Q E h=>?_) (fun cdv A outer s H vs Q E hr h=>?_)
 ·obtain⟨_,_,_,_,rfl,_⟩:=h
  rfl
 ·obtain⟨b,w,ms,pcs,rfl,hB,g,q⟩:=h
  refine⟨_,(jO4 T CM hr).2.h,?_⟩
  obtain⟨qm,qp,ps,b1,b2,b3,b4⟩:=id hB.ex
  have pl:=b4.len
  have w0:=g.w0
  have w1:=g.w1
  have gpl:=g.pl
  refine⟨_,rfl,b,_,0,_,rfl,rfl,SqT.of b1,rfl,w,rfl,by omega,by omega,jCC (n:=w.toNat) (by rw[aL]; omega) (fun D i σ' H' zs=>(∃ v,σ'=[v,some (.ref b)])/\Ext H H'/\H' D=some (.lst zs)/\H D=none/\∃ ls:List Addr,zs=ls.map V.ref/\ls.Nodup/\D∉ls/\(∀ a∈ls,H a=none)/\All2 (RowAt H') ls ((List.range i).map (y4 ms pcs 0))) ?_ ?_ ?_ ?_⟩
  ·intro D hD
   exact⟨⟨_,rfl⟩,(Ext.refl _).new hD _,j8,hD,[],rfl,iF,by simp,by simp,trivial⟩
  ·rintro D i σ' H' zs hD hi ⟨_,e,h2,_,ls,rfl,_,_,_,al⟩
   refine⟨h2,?_⟩
   rw[af,al.len,af,di]
   omega
  ·rintro D i σ' H' zs hD hi ⟨⟨v,rfl⟩,e,h2,hn,ls,rfl,nd,hDl,nol,al⟩
   dsimp only [kZ,yR]
   rw[aj rfl]
   have e0:(0+(i:Int))=(i:Int):=by omega
   have key:∀ (l:Addr) (H2:Hp),Ext H' H2->H' l=none->RowAt H2 l (y4 ms pcs 0 i)->H2 D=some (.lst (ls.map V.ref))/\((∃ v,[some (V.int (i:Int)),some (.ref b)]=[v,some (.ref b)])/\Ext H (L2.upd H2 D (.lst (ls.map V.ref++[.ref l])))/\(L2.upd H2 D (.lst (ls.map V.ref++[.ref l]))) D=some (.lst (ls.map V.ref++[.ref l]))/\H D=none/\∃ ls':List Addr,ls.map V.ref++[.ref l]=ls'.map V.ref/\ls'.Nodup/\D∉ls'/\(∀ a∈ls',H a=none)/\All2 (RowAt (L2.upd H2 D (.lst (ls.map V.ref++[.ref l])))) ls' ((List.range (i+1)).map (y4 ms pcs 0))):=fun l H2 e2 nl rl=>by
    have hD2:=e2 _ _ h2
    have lD:l≠D:=fun z=>by rw[z,h2] at nl; cases nl
    have tu:Tups H2 (L2.upd H2 D (.lst (ls.map V.ref++[.ref l]))):=Tups.upd hD2 _
    have kp:∀ a xs,a≠D->H2 a=some (.lst xs)->(L2.upd H2 D (.lst (ls.map V.ref++[.ref l]))) a=some (.lst xs):=fun a xs ha h=>by rw[jA ha]; exact h
    refine⟨hD2,⟨_,rfl⟩,(e.trans e2).updNew hn _,j8,hn,ls++[l],by rw[aS]; rfl,?_,?_,?_,?_⟩
    ·rw[gZ]
     refine⟨nd,by simp,fun a ha b hb z=>?_⟩
     rw[aq] at hb
     subst hb z
     obtain⟨j,hj⟩:=bv ha
     obtain⟨cs,_,vs,r,_⟩:=al.get' hj
     rw[nl] at r
     cases r
    ·rw[aN,aq]
     rintro (z | z)
     ·exact hDl z
     ·exact lD z.symm
    ·intro a ha
     rcases aN.mp ha with z | z
     ·exact nol a z
     ·rw[aq] at z
      subst z
      cases y:H a with
      | none=>rfl
      | some o=>rw[e _ _ y] at nl; cases nl
    ·rw[gB,aS]
     refine(All2.of_get al.len fun j a c h1 h2'=>?_).snoc (rl.keep (fun xs=>kp l xs lD) tu)
     obtain⟨c',hc',r⟩:=al.get' h1
     rw[h2'] at hc'
     cases hc'
     have aD:a≠D:=fun z=>hDl (z ▸ aI h1)
     exact r.keep (fun xs hx=>kp a xs aD (e2 _ _ hx)) (e2.tups.trans tu)
   refine⟨_,rfl,_,rfl,b,_,1,_,rfl,rfl,SqT.of (e _ _ b1),rfl,qm,_,rfl, .inr (SqT.of (e _ _ b2)),rfl,jC9 ms,_,rfl,?_⟩
   rw[e0,jD4]
   refine ite2 (fun hz=>?_) (fun hz=>?_)
   ·have hz:=aK hz
    refine⟨_,rfl,_,rfl,_,_,rfl,rfl,⟨by omega,by omega,by decide⟩,by show (2:Nat)<=_; decide,fun r H2 d2 e2=>⟨by show (1:Nat)<=_; decide,fun l H3 d3 e3 n3=>?_⟩⟩
    have nl:H' l=none:=by
     cases z:H' l with
     | none=>rfl
     | some o=>rw[e2 _ _ z] at n3; cases n3
    refine key l H3 (e2.trans e3) nl ⟨_,d3,?_⟩
    rw[jCP,aj hz]
    refine⟨⟨r,rfl,?_⟩,trivial⟩
    have:(1:Int)*2 ^ (i:Int).toNat=((2 ^ i:Nat):Int):=by
     rw[bE]
     push_cast
     omega
    rw[e3 _ _ d2]
    show some (HO.tup [V.int (-1),V.int ((1:Int)*2 ^ (i:Int).toNat)])=_
    rw[this]
   ·refine⟨by show (0:Nat)<=_; decide,fun l H3 d3 e3 n3=>?_⟩
    refine key l H3 e3 n3 ⟨_,d3,?_⟩
    rw[jCP,ah (fun z=>hz (aw z))]
    trivial
  ·rintro D σ' H1 zs hD ⟨_,e1,h2,hn,ls,rfl,nd,hDl,nol,al⟩
   refine⟨_,rfl,b,_,2,_,rfl,rfl,SqT.of (e1 _ _ b1),rfl,true,qp,rfl,⟨_,SqT.of (e1 _ _ b3)⟩,jNY (tp:=true) (xs:=ps) (fun i σ H'=>(∃ v2 v3,σ=[some (.ref b),some (.ref D),v2,v3])/\Ext H H'/\H' D=some (.lst (ls.map V.ref))/\All2 (RowAt H') ls (chsN w.toNat ms pcs i)) ⟨⟨_,_,rfl⟩,e1,h2,al⟩ (fun i σ H' ⟨_,e,_⟩=>SqT.of (e _ _ b3)) ?_ ?_⟩
   ·rintro i x t σ H' hx ht ⟨⟨v2,v3,rfl⟩,e,h3,al3⟩
    obtain⟨pc,hpc,hPc⟩:=b4.at hx
    obtain⟨pa,pq,rfl,c1,c2⟩:=id hPc
    have hi:i<pcs.length:=(ar.mp hpc).1
    have gp:=g.pg pc (aI hpc)
    have et:jC pcs (i:Int)=pc.1:=by
     unfold jC
     rw[bE,aE,hpc]
     rfl
    have lt:=jAR _ 0 w gp.lot.ris gp.lot.bnd
    have e':=e.new ht (.tup [.int (i:Int), .ref pa])
    have k':Ext H' (L2.upd H' t (.tup [.int (i:Int), .ref pa])):=(Ext.refl _).new ht _
    refine⟨t,_,rfl,SqT.of j8,rfl,_,_,rfl,_,_,rfl,rfl,?_⟩
    have h5:=k' _ _ h3
    have al5:=al3.imp fun l cs r=>r.keep (fun xs z=>k' _ _ z) k'.tups
    generalize L2.upd H' t (.tup [.int (i:Int), .ref pa])=H5 at e' h5 al5 ⊢
    obtain⟨hd,tl,hp1⟩:∃ hd tl,pc.1=hd::tl:=by
     cases z:pc.1 with
     | nil=>exact absurd z gp.lot.ne
     | cons a r=>exact⟨a,r,rfl⟩
    have hb:=gp.lot.bnd hd (by rw[hp1]; exact az ..)
    have hdl:(jC pcs (i:Int)).headD 0=((hd.toNat:Nat):Int):=by
     rw[et,hp1]
     show hd=_
     omega
    have hw:hd.toNat<w.toNat:=by omega
    obtain⟨l,hl,vs,hv,av⟩:=al5.get (y8 hw)
    have lne:l≠D:=fun z=>hDl (z ▸ aI hl)
    have iD:atI (ls.map V.ref) hd=some (.ref l):=by
     have:=jBR (xs:=ls.map V.ref) (j:=hd.toNat) (v:= .ref l) (by rw[bb,hl]; rfl)
     rwa [show ((hd.toNat:Nat):Int)=hd by omega] at this
    have c2':H5 pq=some (.tup (pc.1.map V.int)):=e' _ _ c2
    refine⟨_,rfl,_,rfl,pa,_,0,_,rfl,rfl,SqT.of (e' _ _ c1),rfl,pq,_,0, .int hd,rfl,rfl,SqT.of c2',by rw[hp1]; exact jBR (j:=0) rfl,D,_,_,_,rfl,rfl,SqL.of h5,iD, .inl ⟨rfl,_,SqL.of hv⟩,_,rfl,_,rfl,pa,_,0,_,rfl,rfl,SqT.of (e' _ _ c1),rfl,pq,pc.1,rfl,c2',fun x hx=>?_,by omega,fun H6 e6=>?_⟩
    ·have:=gp.lot.bnd x hx
     omega
    refine⟨by show (2:Nat)<=_; decide,fun r H7 d7 e7=>?_⟩
    have E7:=e6.trans e7
    have hv7:=E7 _ _ hv
    have vl:vs.length<=33:=by
     rw[av.len]
     exact(yQ g).len _ _ (y8 hw)
    have ap:=ChAt.app (v:= .ref r) (c:=((i:Int),maskN (jC pcs (i:Int)))) (E7 _ _ h5) nd (al5.imp fun l cs r=>r.keep (fun xs z=>E7 _ _ z) E7.tups) hl (y8 hw) hv7 (av.imp fun _ _=>PrAt.mono E7.tups) ⟨r,rfl,by rw[et]; exact d7⟩ lne
    have nH:H l=none:=by
     cases z:H l with
     | none=>rfl
     | some o=>
      exfalso
      rw[nol l (aI hl)] at z
      cases z
    refine⟨l,_,_,rfl,rfl,hv7,by rw[aL]; omega,⟨_,_,rfl⟩,?_,ap.1,?_⟩
    ·exact(e'.trans E7).updNew nH _
    ·rw[jMI hi hd.toNat hdl]
     exact ap.2
   ·rintro σ H' ⟨⟨v2,v3,rfl⟩,e,h3,al3⟩
    refine⟨_,rfl,q D H' ⟨ls,h3,nd,?_⟩ e⟩
    rw[pl] at al3
    exact al3
theorem jQ7 {fd:FuncData}(F:Fun K "full_mask" "full_mask" sFull f fd)(T:Txt mg):FnOk P w K mg base CX0 1 f fd ["choices"] jE9:=by
 refine F.ok scFull (fun vs H Q E h=>?_) (fun cdv A outer s H vs Q E hr h=>?_)
 ·obtain⟨_,_,rfl,_⟩:=h
  rfl
 ·obtain⟨L,ch,rfl,hL,hw,q⟩:=h
  refine⟨_,(fullA T).2.h,?_⟩
  obtain⟨ls,h1,h2⟩:=hL.len
  refine⟨_,rfl,L,_,rfl, .inl (SqL.of h1),_,_,rfl,rfl,⟨?_,?_,?_⟩,_,_,rfl,rfl,?_⟩
  ·first | omega | decide
  ·rw[af]; omega
  ·first | omega | decide
  ·have e:(1:Int)*2 ^ (((ls.map V.ref).length:Nat):Int).toNat - 1=((fullN ch:Nat):Int):=by
    rw[af,h2,bE]
    unfold fullN
    have:=dn ch.length
    have e2:((2 ^ ch.length:Nat):Int)=(2:Int) ^ ch.length:=by push_cast; rfl
    omega
   show Q (V.int ((1:Int)*2 ^ (((ls.map V.ref).length:Nat):Int).toNat - 1)) H
   rw[e]
   exact q
theorem ok_at {fd:FuncData}(F:Fun K "choices_at" "choices_at" sAt f fd)(T:Txt mg):FnOk P w K mg base CX0 1 f fd ["choices","mask"] spAt:=by
 refine F.ok scAt (fun vs H Q E h=>?_) (fun cdv A outer s H vs Q E hr h=>?_)
 ·obtain⟨_,_,_,rfl,_⟩:=h
  rfl
 ·obtain⟨L,ch,m,rfl,hL,ok,hm,hf,q⟩:=h
  refine⟨_,(atA T).2.h,?_⟩
  obtain⟨ls,h1,nd,al⟩:=hL.ex
  have hlow:=jC4 hm hf
  have w16:=ok.w
  refine⟨_,rfl,_,rfl,_,rfl,_,_,rfl,rfl,_,_,rfl,rfl,rfl,_,rfl,rfl,_,_,rfl,rfl,?_⟩
  have el:(Builtin.Int.intBits (Builtin.bitAnd (Builtin.bitNot (m:Int)) ((m:Int)+1)):Int) - 1=((lowN m:Nat):Int):=by
   rw[jNH]
   omega
  show kZ 2 (V.int ((Builtin.Int.intBits (Builtin.bitAnd (Builtin.bitNot (m:Int)) ((m:Int)+1)):Int) - 1)) _ _ _
  rw[el]
  obtain⟨l,hl,vs,hv,av⟩:=al.get (aB hlow)
  have vl:vs.length<=33:=by
   rw[av.len]
   exact ok.len _ _ (aB hlow)
  have er:ch.getD (lowN m) []=ch[lowN m]:=by
   rw[aE,aB hlow]
   rfl
  refine⟨_,rfl,_,rfl,L,_,_,_,rfl,rfl,SqL.of h1,jBR (by rw[bb,hl]; rfl),l,rfl,⟨_,SqL.of hv⟩,jBD (xs:=vs) (fun σ=>∃ v,σ=[v,some (.int (m:Int))]) (fun H' zs j=>All2 (PrAt H') zs (((ch[lowN m]).take j).filter fun c=>c.2&&&m==0)) ⟨fun H=>trivial,fun H H' zs j t h=>h.imp fun _ _=>PrAt.mono t,fun H zs j h=>?_⟩ hv (by rw[aL]; omega) ⟨_,rfl⟩ ?_ ?_⟩
  ·rw[h.len]
   exact bf (cw _ _) (bN _ _)
  ·rintro j x σ' H' zs hx ⟨v,rfl⟩ e hz R S yes no
   obtain⟨c,hc,qa,rfl,hq⟩:=av.get' hx
   have hq':=e _ _ hq
   have et:(ch[lowN m]).take (j+1)=(ch[lowN m]).take j++[c]:=by
    rw[bq,hc]
    rfl
   refine⟨_,rfl,qa,_,1,_,rfl,rfl,SqT.of hq',rfl,_,rfl,_,_,rfl,rfl,rfl,_,rfl,?_⟩
   have ez:decide (V.int (Builtin.bitAnd ((c.2:Nat):Int) (m:Int))=V.int 0)=(c.2&&&m==0):=by
    rw[jK1,cc,br,fZ]
    exact⟨fun h=>by have:=V.int.inj h; omega,fun h=>by rw[h]; rfl⟩
   show if decide (V.int (Builtin.bitAnd ((c.2:Nat):Int) (m:Int))=V.int 0)=true then _ else _
   rw[ez]
   refine ite2 (fun h=>?_) (fun h=>?_)
   ·refine⟨_,rfl,yes _ _ _ ⟨_,rfl⟩ (Ext.refl _) ?_⟩
    show All2 _ _ (((ch[lowN m]).take (j+1)).filter _)
    rw[et,bW,ck,aj h]
    exact hz.snoc ⟨qa,rfl,hq'⟩
   ·refine no _ _ ⟨_,rfl⟩ (Ext.refl _) ?_
    show All2 _ _ (((ch[lowN m]).take (j+1)).filter _)
    rw[et,bW,ck,ah h,List.filter_nil,aV]
    exact hz
  ·rintro D H' zs hD e hn hz
   rw[av.len,bI] at hz
   refine q D H' ⟨zs,hD,?_⟩ e hn
   unfold chAt
   rw[er]
   exact hz
end
end Eo
end
section
namespace L2
open PySem
theorem jKF {ks:List (Option Expr)}{vs:List Expr}{pos:Pos}{o:Option Expr} :SwOk (.Dict ks vs pos) o:=⟨fun _ _=>rfl⟩
end L2
namespace Eo
open PySem L2
abbrev natV (n:Nat):V:= .int (n:Int)
structure MetOk (ch:Ch)(ns:List Nat):Prop where
 zero:0∈ns
 bnd:∀ m∈ns,m<2 ^ ch.length
 up:∀ m∈ns,m≠fullN ch->∀ c∈chAt ch m,(m|||c.2)∈ns
def trK (ks:List Nat):List (Key×V):=ks.map fun (k:Nat)=>(Sum.inl (k:Int),V.bl true)
def jP2:Stmt->List Stmt
 | .While _ b _ _=>b
 | _=> []
theorem jH0 (n:Nat):∀ ks:List Nat,valV (trK ks) (.inl (n:Int))=if n∈ks then some (.bl true) else none
 | []=>rfl
 | k::ks=>by
  show valV ((Sum.inl (k:Int),V.bl true)::trK ks) _=_
  by_cases h:k=n
  ·subst h
   rw[jBU rfl,aj (az ..)]
  ·rw[jB6 (by intro z; have:=iE z; omega),jH0 n ks]
   by_cases h2:n∈ks
   ·rw[aj h2,aj (aM _ h2)]
   ·rw[ah h2,ah]
    intro z
    rcases aF.mp z with z | z
    ·exact h z.symm
    ·exact h2 z
theorem jQW {H:Hp}{M:Addr}{ks:List Nat}{m c:Nat}(h:H M=some (.dK (trK ks))):DGet H M (.int (Builtin.bitOr (m:Int) (c:Int))) (if (m|||c)∈ks then some (.bl true) else none):=by
 rw[jCE,<- jH0]
 exact DGet.k (k:=Sum.inl (((m|||c:Nat):Nat):Int)) h
theorem jQV {H:Hp}{M:Addr}{ks:List Nat}{m c:Nat}(h:H M=some (.dK (trK ks)))(hn:¬ (m|||c)∈ks)(hl:(trK ks).length<sizeLine):DPut H M (.int (Builtin.bitOr (m:Int) (c:Int))) (.bl true) (L2.upd H M (.dK (trK (ks++[m|||c])))):=by
 rw[jCE]
 have:=DPut.k (k:=Sum.inl (((m|||c:Nat):Nat):Int)) (v:= .bl true) h hl
 rw[jIE _ (by rw[jH0,ah hn])] at this
 unfold trK
 rw[aS]
 exact this
theorem jAU {n:Nat}{ks:List Nat}(nd:ks.Nodup)(hb:∀ k∈ks,k<n):ks.length<=n:=by
 have:(ks.map fun k:Nat=>(k:Int)).length<=n:=jL8 n _ (bF.mpr (nd.imp fun h=>by omega)) fun t ht=>by
  obtain⟨k,hk,rfl⟩:=aW.mp ht
  have:=hb k hk
  omega
 rwa [af] at this
section
variable {P:Program}{w:World}{K:W.Frag}{mg:Str->Option Value}{base:Heap}
variable {f fF fA:Addr}{fdF fdA:FuncData}{cdv:Value}{A:Around}{outer:List Env}{s:Shared}{H0:Hp}{E:XK}
abbrev nMet:List Str:=["choices","full","met","waiting","mask","number","more"]
theorem scMet:FnScope nMet ["choices"] (j7 sMet):=⟨rfl,rfl,rfl,by decide+kernel,rfl,by decide+kernel,by decide+kernel⟩
def spMet:Sp:=fun vs H Q _=>∃ (L:Addr) (ch:Ch),vs=[.ref L]/\ChAt H L ch/\ChOk ch/\∀ (r:Addr) (ns:List Nat) (H':Hp),H' r=some (.lst (ns.map natV))->ns.Pairwise (· > ·)->MetOk ch ns->Ext H H'->H r=none->Q (.ref r) H'
def jIP (T:Txt mg)(CA:Can P w K mg base "choices_at" 1 fA fdA ["choices","mask"] spAt)(hr:Room 1 (XOf nMet "masks_met" sMet P w K mg base f cdv A outer s H0 E).A): { t:TS // JSs (XOf nMet "masks_met" sMet P w K mg base f cdv A outer s H0 E) (jP2 ((jD sMet).getD 3 (.Pass ⟨0,0,0,0⟩))) t} :=
 have nd:=scMet.nd
 ⟨_,(jE (jO (i:=4) nd rfl lL (jOS dS PySem.F.slot_list_pop PySem.F.type_list_pop jSD (jv 3 rfl vL)) kS)
   (jF (yI (jP op_ne (jv 4 rfl vL) (jv 1 rfl vL) (jN _)) (jF (jEJ dr rfl (jAV (CA.je hr gD (j4 (jv 0 rfl vL) (j4 (jv 4 rfl vL) j9 j6) j6) j6)) (jFC (i:=5) (j:=6) nd rfl rfl (by decide+kernel) (by decide+kernel)) (jF (yI (jLV (hu_of hr) (kN op_or (jv 4 rfl vL) (jv 6 rfl vL)) (jv 2 rfl vL) rfl) (jE (jHG (hu_of hr) (jv 2 rfl vL) (kN op_or (jv 4 rfl vL) (jv 6 rfl vL)) (je_bl) jI7)
   (jF (jHF (je_bm dS g8 g9 jC2 (jv 3 rfl vL) (j4 (kN op_or (jv 4 rfl vL) (jv 6 rfl vL)) j9 yH) yH) kS))) kJ)) yG)) kJ)))⟩
def metA (T:Txt mg)(CF:Can P w K mg base "full_mask" 1 fF fdF ["choices"] jE9)(CA:Can P w K mg base "choices_at" 1 fA fdA ["choices","mask"] spAt)(hr:Room 1 (XOf nMet "masks_met" sMet P w K mg base f cdv A outer s H0 E).A): { t:TS // JSs (XOf nMet "masks_met" sMet P w K mg base f cdv A outer s H0 E) (jD sMet) t} :=
 have nd:=scMet.nd
 ⟨_,(jE (jO (i:=1) nd rfl lL (CF.je (hr.mono (by decide)) gD (j4 (jv 0 rfl vL) j9 j6) j6) kS) (jE (jO (i:=2) nd rfl lL (jNO) jKF) (jE (jO (i:=3) nd rfl lL (jAG (j4 (je_int) j9 jL)) jFS) (jE (jNL dr (jP op_gt (jH jA1 gD T.len (by decide+kernel) (j4 (jv 3 rfl vL) j9 j6) j6) (je_int) (jN _)) (jIP T CA hr).2) (jF (jW (jLW (jFL rfl) gD T.sorted (by decide+kernel) (j4 (jv 2 rfl vL) j9 j6) (jQL je_bl jSO) j6)))))))⟩
theorem jND (T:Txt mg)(CA:Can P w K mg base "choices_at" 1 fA fdA ["choices","mask"] spAt)(hr:Room 1 (XOf nMet "masks_met" sMet P w K mg base f cdv A outer s H0 E).A)
  {D:Ends}{H:Hp}{L M W:Addr}{ch:Ch}{ks ws:List Nat}{m:Nat}{v4 v5 v6:Option V}(hL:ChAt H L ch) (ok:ChOk ch) (hM:H M=some (.dK (trK ks))) (hW:H W=some (.lst ((ws++[m]).map natV))) (nd:ks.Nodup) (hb:∀ k∈ks,k<2 ^ ch.length) (hm:m∈ks) (wln:ws.length<=ks.length)
  (nx:∀ (H':Hp) (new:List Nat) (v4 v5 v6:Option V),(∀ b o,H b=some o->b≠M->b≠W->H' b=some o)->H' M=some (.dK (trK (ks++new)))->H' W=some (.lst ((ws++new).map natV))->(ks++new).Nodup->(∀ k∈ks++new,k<2 ^ ch.length)->(m≠fullN ch->∀ c∈chAt ch m,(m|||c.2)∈ks++new)->D.nx [some (.ref L),some (natV (fullN ch)),some (.ref M),some (.ref W),v4,v5,v6] H'):
  (jIP T CA hr).1 D [some (.ref L),some (natV (fullN ch)),some (.ref M),some (.ref W),v4,v5,v6] H:=by
 have MW:M≠W:=fun z=>by rw[z,hW] at hM; cases hM
 have LW:∀ ls:List Addr,H L=some (.lst (ls.map V.ref))->L≠W:=fun ls h z=>by
  rw[z,hW] at h
  have h:=HO.lst.inj (bh h)
  have h2:natV m∈ls.map V.ref:=by rw[<- h]; simp
  obtain⟨a,_,ha⟩:=aW.mp h2
  cases ha
 have rw':∀ l cs,RowAt H l cs->l≠W:=fun l cs ⟨vs,h1,h2⟩ z=>by
  rw[z,hW] at h1
  have h1:=HO.lst.inj (bh h1)
  have h3:vs[ws.length]?=some (natV m):=by rw[<- h1]; simp
  obtain⟨_,_,q,e,_⟩:=h2.get' h3
  cases e
 have w16:=ok.w
 have hm2:=hb m hm
 have wl:((ws++[m]).map natV)[((ws++[m]).map natV).length - 1]?=some (natV m):=by
  rw[af,aC,bb,ba (by simp)]
  simp
 have dl:((ws++[m]).map natV).dropLast=ws.map natV:=by
  rw[aS]
  simp
 refine⟨_,rfl, .inl ⟨rfl,_,SqL.of hW⟩,W,_,_,rfl,rfl,hW,wl,?_⟩
 rw[dl]
 have hM1:(L2.upd H W (.lst (ws.map natV))) M=some (.dK (trK ks)):=by rw[jA MW]; exact hM
 have hW1:(L2.upd H W (.lst (ws.map natV))) W=some (.lst (ws.map natV)):=j8
 have k1:∀ b o,H b=some o->b≠W->(L2.upd H W (.lst (ws.map natV))) b=some o:=fun b o h n=>by rw[jA n]; exact h
 have hL1:ChAt (L2.upd H W (.lst (ws.map natV))) L ch:=by
  obtain⟨ls,a1,a2,a3⟩:=hL.ex
  exact⟨ls,k1 _ _ a1 (LW _ a1),a2,a3.imp fun l cs r=>r.keep (fun xs z=>k1 _ _ z (rw' _ _ r)) (Tups.upd hW _)⟩
 generalize L2.upd H W (.lst (ws.map natV))=H1 at hM1 hW1 k1 hL1
 refine⟨_,rfl,_,rfl,rfl,_,rfl,?_⟩
 have nf:(!decide (natV m=natV (fullN ch)))=true↔m≠fullN ch:=by
  rw[fm,dR]
  refine not_congr ⟨fun h=>?_,fun h=>by rw[h]⟩
  have:=V.int.inj h
  omega
 refine ite2 (fun h=>?_) (fun h=>?_)
 ·have h:=nf.mp h
  refine⟨_,rfl,_,rfl,L,ch,m,rfl,hL1,ok,hm2,h,fun r H2 ⟨vs,hr2,av⟩ e2 nr=>?_⟩
  have hM2:=e2 _ _ hM1
  have hW2:=e2 _ _ hW1
  have rW:r≠W:=fun z=>by rw[z,hW1] at nr; cases nr
  have rM:r≠M:=fun z=>by rw[z,hM1] at nr; cases nr
  refine⟨r,rfl,⟨_,SqL.of hr2⟩,jFG (xs:=vs) (fun i σ H'=>(∃ v5 v6,σ=[some (.ref L),some (natV (fullN ch)),some (.ref M),some (.ref W),some (natV m),v5,v6])/\(∀ b o,H2 b=some o->b≠M->b≠W->H' b=some o)/\∃ new:List Nat,H' M=some (.dK (trK (ks++new)))/\H' W=some (.lst ((ws++new).map natV))/\(ks++new).Nodup/\(∀ k∈ks++new,k<2 ^ ch.length)/\∀ c∈(chAt ch m).take i,(m|||c.2)∈ks++new) ⟨⟨_,_,rfl⟩,fun b o h _ _=>h,[],by rw[aV]; exact hM2,by rw[aV]; exact hW2,by rw[aV]; exact nd,by rw[aV]; exact hb,fun c hc=>by cases hc⟩ (fun i σ H' _ ⟨_,k,_⟩=>SqL.of (k _ _ hr2 rM rW)) ?_ ?_⟩
  ·rintro i x σ H' hx ⟨⟨v5,v6,rfl⟩,k,new,hM',hW',nd',hb',cl⟩
   obtain⟨c,hc,q,rfl,hq⟩:=av.get' hx
   have qM:q≠M:=fun z=>by rw[z,hM2] at hq; cases hq
   have qW:q≠W:=fun z=>by rw[z,hW2] at hq; cases hq
   have hcm:=aI hc
   obtain⟨u1,u2⟩:=ok.up hm2 h hcm
   have tk:(chAt ch m).take (i+1)=(chAt ch m).take i++[c]:=by rw[bq,hc]; rfl
   refine⟨q,_,rfl,SqT.of (k _ _ hq qM qW),rfl,_,_,rfl,_,_,rfl,rfl,?_⟩
   refine⟨_,rfl,_,rfl,_,_,rfl,rfl,_,rfl,M,_,rfl,jQW hM',_,rfl,?_⟩
   by_cases hin:(m|||c.2)∈ks++new
   ·rw[aj hin]
    refine iteF ⟨⟨_,_,rfl⟩,k,new,hM',hW',nd',hb',fun c' hc'=>?_⟩
    rw[tk] at hc'
    rcases aN.mp hc' with z | z
    ·exact cl c' z
    ·rw[aq] at z
     rw[z]
     exact hin
   ·rw[ah hin]
    have ndn:(ks++(new++[m|||c.2])).Nodup:=by
     rw[<- aU,gZ]
     refine⟨nd',by simp,fun a ha b hb z=>?_⟩
     rw[aq] at hb
     exact hin (hb ▸ z ▸ ha)
    have bdn:∀ k∈ks++(new++[m|||c.2]),k<2 ^ ch.length:=fun k hk=>by
     rw[<- aU] at hk
     rcases aN.mp hk with z | z
     ·exact hb' k z
     ·rw[aq] at z
      rw[z]
      exact u2
    have sz:(ks++(new++[m|||c.2])).length<=2 ^ 16:=bf (jAU ndn bdn) (cG (by decide) w16)
    rw[aC,aC] at sz
    have kl:(trK (ks++new)).length<sizeLine:=by
     unfold trK
     rw[af,aC,aL]
     simp at sz
     omega
    refine iteT ⟨_,rfl,_,rfl,_,rfl,_,_,rfl,rfl,M,_,rfl,jQV hM' hin kl,?_⟩
    have hW3:(L2.upd H' M (.dK (trK (ks++new++[m|||c.2])))) W=some (.lst ((ws++new).map natV)):=by rw[jA MW.symm]; exact hW'
    have hM3:(L2.upd H' M (.dK (trK (ks++new++[m|||c.2])))) M=some (.dK (trK (ks++(new++[m|||c.2])))):=by rw[j8,aU]
    have k3:∀ b o,H2 b=some o->b≠M->b≠W->(L2.upd H' M (.dK (trK (ks++new++[m|||c.2])))) b=some o:=fun b o hbo n1 n2=>by rw[jA n1]; exact k b o hbo n1 n2
    generalize L2.upd H' M (.dK (trK (ks++new++[m|||c.2])))=H3 at hW3 hM3 k3
    refine⟨_,rfl, .inl ⟨rfl,_,SqL.of hW3⟩,_,rfl,_,rfl,_,_,rfl,rfl,W,_,_,rfl,rfl,hW3,?_,⟨_,_,rfl⟩,fun b o hbo n1 n2=>by rw[jA n2]; exact k3 b o hbo n1 n2,new++[m|||c.2],by rw[jA MW]; exact hM3,?_,ndn,bdn,fun c' hc'=>?_⟩
    ·skip
     rw[af,aC,aL]
     simp at sz
     omega
    ·rw[j8]
     show some (HO.lst ((ws++new).map natV++[V.int (Builtin.bitOr (m:Int) (c.2:Int))]))=_
     rw[jCE,<- aU]
     exact bP (fun z=>some (HO.lst z)) (aS (f:=natV) (l₁:=ws++new) (l₂:=[m|||c.2])).symm
    ·rw[<- aU,aN]
     rw[tk] at hc'
     rcases aN.mp hc' with z | z
     ·exact .inl (cl c' z)
     ·rw[aq] at z
      rw[z]
      exact .inr (aq.mpr rfl)
  ·rintro σ H' ⟨⟨v5,v6,rfl⟩,k,new,hM',hW',nd',hb',cl⟩
   have:(chAt ch m).take vs.length=chAt ch m:=by rw[av.len,bI]
   rw[this] at cl
   exact nx H' new _ _ _ (fun b o hbo n1 n2=>k _ _ (e2 _ _ (k1 _ _ hbo n2)) n1 n2) hM' hW' nd' hb' fun _=>cl
 ·have h:m=fullN ch:=cQ fun z=>h (nf.mpr z)
  exact nx H1 [] _ _ _ (fun b o hbo n1 n2=>k1 _ _ hbo n2) (by rw[aV]; exact hM1) (by rw[aV]; exact hW1) (by rw[aV]; exact nd) (by rw[aV]; exact hb) fun z=>absurd h z
theorem jS8 {fd:FuncData}(F:Fun K "masks_met" "masks_met" sMet f fd)(T:Txt mg)(CF:Can P w K mg base "full_mask" 1 fF fdF ["choices"] jE9)(CA:Can P w K mg base "choices_at" 1 fA fdA ["choices","mask"] spAt):FnOk P w K mg base CX0 2 f fd ["choices"] spMet:=by
 refine F.ok scMet (fun vs H Q E h=>?_) (fun cdv A outer s H vs Q E hr h=>?_)
 ·obtain⟨_,_,rfl,_⟩:=h
  rfl
 ·obtain⟨L,ch,rfl,hL,ok,q⟩:=h
  refine⟨_,(metA T CF CA hr).2.h,?_⟩
  have w16:=ok.w
  refine⟨_,rfl,L,ch,rfl,hL,w16,?_⟩
  refine fun M H1 hM1 e1 nM=>?_
  refine⟨by show (1:Nat)<=_; decide,fun W H2 hW2 e2 nW=>?_⟩
  have hM2:=e2 _ _ hM1
  have nW0:H W=none:=by
   cases z:H W with
   | none=>rfl
   | some o=>rw[e1 _ _ z] at nW; cases nW
  have E2:=e1.trans e2
  have pz:(0:Nat)<2 ^ ch.length:=dn _
  refine⟨fun n σ H'=>(∃ v4 v5 v6,σ=[some (.ref L),some (natV (fullN ch)),some (.ref M),some (.ref W),v4,v5,v6])/\Ext H H'/\∃ ks ws:List Nat,n=2*(2 ^ ch.length - ks.length)+ws.length/\H' M=some (.dK (trK ks))/\H' W=some (.lst (ws.map natV))/\ks.Nodup/\(∀ k∈ks,k<2 ^ ch.length)/\(∀ k∈ws,k∈ks)/\ws.length<=ks.length/\0∈ks/\∀ k∈ks,k∉ws->k≠fullN ch->∀ c∈chAt ch k,(k|||c.2)∈ks,⟨_,⟨_,_,_,rfl⟩,E2,[0],[0],rfl,hM2,hW2,by simp,fun k hk=>by rw[aq] at hk; omega,fun k hk=>hk,ak _,by simp,fun k h1 h2=>absurd h1 h2⟩,?_⟩
  rintro n σ H' ⟨⟨v4,v5,v6,rfl⟩,e,ks,ws,rfl,hM',hW',nd,hb,sub,wl,z0,cl⟩
  refine⟨_,rfl,W,_,rfl, .inl (SqL.of hW'),_,_,rfl,rfl,_,rfl,?_⟩
  rcases List.eq_nil_or_concat ws with hws | ⟨ws',m,hws⟩
  ·subst hws
   refine iteF ?_
   have ksl:=jAU nd hb
   have p16:2 ^ ch.length<=2 ^ 16:=cG (by decide) w16
   refine⟨_,rfl,M,trK ks,ks.map fun k:Nat=>(k:Int),true,rfl,rfl,hM',by unfold trK; rw[cZ,cZ]; rfl,by rw[af,aL]; omega,fun l ns hl ord pm=>?_⟩
   obtain⟨js,rfl⟩:∃ js:List Nat,ns=js.map fun k:Nat=>(k:Int):=by
    refine⟨ns.map Int.toNat,?_⟩
    rw[cZ]
    refine(ja ns).symm.trans (cN fun x hx=>?_)
    obtain⟨k,_,rfl⟩:=aW.mp (pm.mem_iff.mp hx)
    show ((k:Nat):Int)=(((k:Nat):Int).toNat:Int)
    omega
   have pm':js.Perm ks:=by
    have:=pm.map Int.toNat
    rw[cZ,cZ] at this
    have e:∀ l:List Nat,l.map (Int.toNat ∘ fun k:Nat=>(k:Int))=l:=fun l=>(cN fun x _=>by show ((x:Nat):Int).toNat=x; omega).trans (ja l)
    rwa [e,e] at this
   refine q l js _ ?_ ?_ ⟨pm'.mem_iff.mpr z0,fun m hm=>hb m (pm'.mem_iff.mp hm),fun m hm hf c hc=>pm'.mem_iff.mpr (cl m (pm'.mem_iff.mp hm) (by simp) hf c hc)⟩ ((Ext.refl _).trans (e.new hl _)) ?_
   ·rw[j8,cZ]
    rfl
   ·have nj:js.Nodup:=pm'.nodup_iff.mpr nd
    have:js.Pairwise (fun (a b:Nat)=>(b:Int)<=(a:Int)):=bF.mp ord
    exact(this.and nj).imp fun {a b} h=>by omega
   ·cases z:H l with
    | none=>rfl
    | some o=>rw[e _ _ z] at hl; cases hl
  ·have hws:ws=ws'++[m]:=by rw[hws,List.concat_eq_append]
   subst hws
   have lp:decide ((0:Int)<(((ws'++[m]).map natV).length:Int))=true:=by
    rw[br,af,aC]
    show (0:Int)<((ws'.length+1:Nat):Int)
    omega
   show if decide ((0:Int)<(((ws'++[m]).map natV).length:Int))=true then _ else _
   rw[aj lp]
   rw[aC] at wl
   refine⟨fun σ' H''=>(∃ v4 v5 v6,σ'=[some (.ref L),some (natV (fullN ch)),some (.ref M),some (.ref W),v4,v5,v6])/\Ext H H''/\∃ new:List Nat,H'' M=some (.dK (trK (ks++new)))/\H'' W=some (.lst ((ws'++new).map natV))/\(ks++new).Nodup/\(∀ k∈ks++new,k<2 ^ ch.length)/\(m≠fullN ch->∀ c∈chAt ch m,(m|||c.2)∈ks++new),?_,jND T CA hr (ks:=ks) (ws:=ws') (m:=m) (hL.ext e) ok hM' hW' nd hb (sub m (by simp)) (by omega) ?_⟩
   ·rintro σ' H'' ⟨hσ,e',new,a1,a2,a3,a4,a5⟩
    have sl:=jAU a3 a4
    rw[aC] at sl
    refine⟨_,?_,hσ,e',ks++new,ws'++new,rfl,a1,a2,a3,a4,fun k hk=>?_,?_,aY _ z0,fun k hk hkw hf c hc=>?_⟩
    ·rw[aC,aC,aC]
     simp only [aQ,cf]
     omega
    ·rcases aN.mp hk with z | z
     ·exact aY _ (sub k (aY _ z))
     ·exact aJ _ z
    ·rw[aC,aC]
     omega
    ·by_cases hkm:k=m
     ·subst hkm
      exact a5 hf c hc
     ·rcases aN.mp hk with z | z
      ·refine aY _ (cl k z (fun y=>?_) hf c hc)
       rcases aN.mp y with y | y
       ·exact hkw (aY _ y)
       ·exact hkm (aq.mp y)
      ·exact absurd (aJ _ z) hkw
   ·intro H'' new v4 v5 v6 kp a1 a2 a3 a4 a5
    refine⟨⟨_,_,_,rfl⟩,fun b o hbo=>?_,new,a1,a2,a3,a4,a5⟩
    refine kp b o (e b o hbo) (fun z=>?_) fun z=>?_
    ·rw[z,nM] at hbo; cases hbo
    ·rw[z,nW0] at hbo; cases hbo
end
end Eo
end
section
namespace L2
open PySem
theorem jP4 {x:Str}{pos:Pos}{o:Option Expr} :SwOk (.Name x pos) o:=⟨fun _ _=>rfl⟩
end L2
namespace Eo
open PySem L2
structure HpOk (φ:Hp->Prop):Prop where
 keep:∀ (H H':Hp) (D:Addr) (kvs:List (Key×V)),H D=some (.dK kvs)->(∀ b o,H b=some o->b≠D->H' b=some o)->φ H->φ H'
 ext:∀ H H',Ext H H'->φ H->φ H'
abbrev RepT:=Nat->Hp->V->Prop
def RepOk (R:RepT):Prop:=∀ m v,HpOk fun H=>R m H v
def ItAt (R:RepT)(m:Nat)(H:Hp)(v:V)(c:Int×Nat):Prop:=∃ q u,v= .ref q/\H q=some (.tup [.int c.1,u])/\R (m|||c.2) H u
def jE8 (ch:Ch)(R:RepT):Sp:=fun vs H Q _=>∃ (l:Addr) (us:List V) (m:Nat),vs=[.ref l]/\H l=some (.lst us)/\m<2 ^ ch.length/\m≠fullN ch/\All2 (ItAt R m H) us (chAt ch m)/\∀ r H',R m H' r->Ext H H'->Q r H'
def gvs (ns:List Nat)(us:List V):List (Key×V):=(ns.zip us).map fun p:Nat×V=>(Sum.inl (p.1:Int),p.2)
structure GotAt (H:Hp)(r:Addr)(ch:Ch)(R:RepT)(ns:List Nat):Prop where
 ex:∃ us,H r=some (.dK (gvs ns us))/\All2 (fun n u=>R n H u) ns us
theorem jET {R:Nat->V->Prop} :∀ {ns:List Nat}{us:List V}{n:Nat},All2 R ns us->ns.Nodup->n∈ns->∃ u,valV (gvs ns us) (.inl (n:Int))=some u/\R n u
 | [],_,_,_,_,h=>by cases h
 | k::ns,[],_,h,_,_=>h.elim
 | k::ns,u::us,n,h,nd,hm=>by
  show ∃ x,valV ((Sum.inl (k:Int),u)::gvs ns us) _=_/\_
  by_cases hk:k=n
  ·subst hk
   exact⟨u,jBU rfl,h.1⟩
  ·rw[jB6 (by intro z; have:=iE z; omega)]
   rcases aF.mp hm with z | z
   ·exact absurd z.symm hk
   ·exact jET h.2 (cy.mp nd).2 z
theorem jBV:∀ {ns:List Nat}{us:List V}{n:Nat},n∉ns->valV (gvs ns us) (.inl (n:Int))=none
 | [],_,_,_=>by
  unfold gvs
  rw[List.zip_nil_left]
  rfl
 | k::ns,[],_,_=>rfl
 | k::ns,u::us,n,h=>by
  show valV ((Sum.inl (k:Int),u)::gvs ns us) _=_
  rw[jB6 (by intro z; have:=iE z; exact h (by rw[show n=k by omega]; exact az ..))]
  exact jBV fun z=>h (aM _ z)
theorem jNW {ns:List Nat}{us:List V}{n:Nat}{u:V}(h:ns.length=us.length):gvs (ns++[n]) (us++[u])=gvs ns us++[(Sum.inl (n:Int),u)]:=by
 unfold gvs
 rw[List.zip_append h,aS]
 rfl
section
variable {P:Program}{w:World}{K:W.Frag}{mg:Str->Option Value}{base:Heap}
variable {f fF fA fM j:Addr}{fdF fdA fdM:FuncData}{cdv:Value}{A:Around}{outer:List Env}{s:Shared}{H0:Hp}{E:XK}{Z:Shared->Hp->Prop}{zh:Hp->Prop}{ch:Ch}{R:RepT}
abbrev nGath:List Str:=["choices","at_end","join","full","values","mask"]
theorem scGath:FnScope nGath ["choices","at_end","join"] (j7 qC):=⟨rfl,rfl,rfl,by decide+kernel,rfl,by decide+kernel,by decide+kernel⟩
def jKH (j:Addr)(zh:Hp->Prop)(ch:Ch)(R:RepT):Sp:=fun vs H Q _=>∃ (L:Addr) (ve:V),vs=[.ref L,ve, .ref j]/\ChAt H L ch/\R (fullN ch) H ve/\zh H/\∀ (r:Addr) (ns:List Nat) (H':Hp),GotAt H' r ch R ns->ns.Pairwise (· > ·)->MetOk ch ns->Ext H H'->H r=none->Q (.ref r) H'
def jM3 (T:Txt mg)(CA:Can P w K mg base "choices_at" 1 fA fdA ["choices","mask"] spAt)(CJ:Callee P w K mg base Z zh 3 j (jE8 ch R))(zs:ZSt Z)(hz:Z s H0)(hr:Room 3 (XOf nGath "gathered" qC P w K mg base f cdv A outer s H0 E).A): { t:TS // JSs (XOf nGath "gathered" qC P w K mg base f cdv A outer s H0 E) (jDO ((jD qC).getD 2 (.Pass ⟨0,0,0,0⟩))) t} :=
 have nd:=scGath.nd
 ⟨_,(jF (yI (jP qI (jv 5 rfl vC) (jv 3 rfl vL) (jN _)) (jF (jHG (hu_of hr) (jv 4 rfl vC) (jv 5 rfl vC) (jv 1 rfl vL) jP4)) (jF (jHG (hu_of hr) (jv 4 rfl vC) (jv 5 rfl vC) (jNS (j:=2) CJ (hr.mono (by decide)) zs hz rfl rfl vL (j4 (yC (m:=[none,none,some 4,some 5]) (Nc:=["number","more","values","mask"]) rfl (jAV (CA.je (hr.mono (by decide)) gD (j4 (jv 0 rfl vL) (j4 (jv 5 rfl vC) j9 j6) j6) j6)) rfl (by decide+kernel) (by decide+kernel) (kL (psc:=j7 qC) (by decide+kernel)) (jS (N:=nGath) rfl rfl (by decide+kernel)) (fun cl C fp s H=>jDR (i:=0) (j:=1) rfl (show (["number","more","values","mask"]:List Str).Nodup by decide+kernel) rfl rfl (by decide+kernel) (by decide+kernel)) (fun cl C fp s H=>yB) (fun cl C fp s H=>(kD (j4 (jv 0 rfl (kX (by decide+kernel))) (j4 (jHJ (hu_of hr) (jv 2 rfl (jBT (by decide+kernel))) (kN op_or (jv 3 rfl (jBT (by decide+kernel))) (jv 1 rfl (kX (by decide+kernel)))) jRL) j9 jZ) j6))) yG) j9 kB) kB) kS))))⟩
def gathA (T:Txt mg)(CF:Can P w K mg base "full_mask" 1 fF fdF ["choices"] jE9)(CM:Can P w K mg base "masks_met" 2 fM fdM ["choices"] spMet)(CA:Can P w K mg base "choices_at" 1 fA fdA ["choices","mask"] spAt)(CJ:Callee P w K mg base Z zh 3 j (jE8 ch R))(zs:ZSt Z)(hz:Z s H0)(hr:Room 3 (XOf nGath "gathered" qC P w K mg base f cdv A outer s H0 E).A): { t:TS // JSs (XOf nGath "gathered" qC P w K mg base f cdv A outer s H0 E) (jD qC) t} :=
 have nd:=scGath.nd
 ⟨_,(jE (jO (i:=3) nd rfl lL (CF.je (hr.mono (by decide)) gD (j4 (jv 0 rfl vL) j9 j6) j6) kS) (jE (jO (i:=4) nd rfl (loc_c (by decide+kernel)) (jNP) jKF) (jE (jEJ dr rfl (jAV (CM.je (hr.mono (by decide)) gD (j4 (jv 0 rfl vL) j9 j6) j6)) (jY (i:=5) nd rfl (loc_c (by decide+kernel))) (jM3 T CA CJ zs hz hr).2 yG) (jF (jW (jv 4 rfl vC))))))⟩
theorem jL5 {fd:FuncData}(F:Fun K "gathered" "gathered" qC f fd)(T:Txt mg)(CF:Can P w K mg base "full_mask" 1 fF fdF ["choices"] jE9)(CM:Can P w K mg base "masks_met" 2 fM fdM ["choices"] spMet)(CA:Can P w K mg base "choices_at" 1 fA fdA ["choices","mask"] spAt)(CJ:Callee P w K mg base Z zh 3 j (jE8 ch R))(zs:ZSt Z)(zo:HpOk zh)(ro:RepOk R)(ok:ChOk ch):FnZ P w K mg base CX0 Z 4 f fd ["choices","at_end","join"] (jKH j zh ch R):=by
 refine F.okZ scGath (fun vs H Q E h=>?_) (fun cdv A outer s H vs Q E hr hz h=>?_)
 ·obtain⟨_,_,rfl,_⟩:=h
  rfl
 ·obtain⟨L,ve,rfl,hL,he,hzh,q⟩:=h
  refine⟨_,(gathA T CF CM CA CJ zs hz hr).2.h,?_⟩
  have w16:=ok.w
  have p16:2 ^ ch.length<=2 ^ 16:=cG (by decide) w16
  refine⟨_,rfl,L,ch,rfl,hL,w16,?_⟩
  refine fun D nD=>?_
  have e1:Ext H (L2.upd H D (.dK [])):=(Ext.refl _).new nD _
  have hD1:(L2.upd H D (.dK [])) D=some (.dK []):=j8
  generalize L2.upd H D (.dK [])=H1 at e1 hD1
  refine⟨_,rfl,L,ch,rfl,hL.ext e1,ok,fun r ns H2 hr2 srt mt e2 nr=>?_⟩
  have hD2:=e2 _ _ hD1
  have rD:r≠D:=fun z=>by rw[z,hD1] at nr; cases nr
  have E2:=e1.trans e2
  have nsn:ns.Nodup:=srt.imp fun {a b} h=>by omega
  have nsl:=jAU nsn mt.bnd
  refine⟨r,rfl,⟨_,SqL.of hr2⟩,jFG (xs:=ns.map natV) (fun i σ H'=>(∃ v5,σ=[some (.ref L),some ve,some (.ref j),some (natV (fullN ch)),some (.ref D),v5])/\(∀ b o,H2 b=some o->b≠D->H' b=some o)/\GotAt H' D ch R (ns.take i)) ⟨⟨_,rfl⟩,fun b o h _=>h,[],hD2,trivial⟩ (fun i σ H' _ ⟨_,k,_⟩=>SqL.of (k _ _ hr2 rD)) ?_ ?_⟩
  ·rintro i x σ H' hx ⟨⟨v5,rfl⟩,k,us,hD',au⟩
   obtain⟨m,hm,rfl⟩:∃ m,ns[i]?=some m/\natV m=x:=by
    rw[bb] at hx
    cases hq:ns[i]? with
    | none=>rw[hq] at hx; cases hx
    | some z=>rw[hq] at hx; cases hx; exact⟨z,rfl,rfl⟩
   have hmn:=aI hm
   have hm2:=mt.bnd m hmn
   have il:i<ns.length:=(ar.mp hm).1
   have tk:ns.take (i+1)=ns.take i++[m]:=by rw[bq,hm]; rfl
   have kl:(gvs (ns.take i) us).length<sizeLine:=by
    unfold gvs
    rw[af,List.length_zip,bD,aL]
    omega
   have kH:∀ b o,H b=some o->H' b=some o:=fun b o h=>k _ _ (E2 _ _ h) fun z=>by rw[z,nD] at h; cases h
   have mi:m∉ns.take i:=fun z=>by
    obtain⟨a,ha⟩:=bv z
    have al:a<i:=by have:=(ar.mp ha).1; rw[bD] at this; omega
    rw[bY al] at ha
    have:=(fk (by omega) nsn).mp (ha.trans hm.symm)
    omega
   have fin:∀ (u:V) (H3:Hp),(∀ b o,H' b=some o->H3 b=some o)->R m H3 u->DPut H3 D (natV m) u (L2.upd H3 D (.dK (gvs (ns.take (i+1)) (us++[u]))))/\((∃ v5,[some (V.ref L),some ve,some (.ref j),some (natV (fullN ch)),some (.ref D),some (natV m)]=[some (V.ref L),some ve,some (.ref j),some (natV (fullN ch)),some (.ref D),v5])/\(∀ b o,H2 b=some o->b≠D->(L2.upd H3 D (.dK (gvs (ns.take (i+1)) (us++[u])))) b=some o)/\GotAt (L2.upd H3 D (.dK (gvs (ns.take (i+1)) (us++[u])))) D ch R (ns.take (i+1))):=fun u H3 e3 ru=>by
    have hD3:=e3 _ _ hD'
    have up:∀ b o,H3 b=some o->b≠D->(L2.upd H3 D (.dK (gvs (ns.take (i+1)) (us++[u])))) b=some o:=fun b o h n=>by rw[jA n]; exact h
    refine⟨?_,⟨_,rfl⟩,fun b o h n=>up b o (e3 _ _ (k b o h n)) n,us++[u],j8,?_⟩
    ·have:=DPut.k (k:=Sum.inl ((m:Nat):Int)) (v:=u) hD3 kl
     rw[jIE _ (jBV mi),<- jNW au.len,<- tk] at this
     exact this
    ·rw[tk]
     refine All2.snoc ?_ ((ro m u).keep _ _ D _ hD3 (by rw[<- tk]; exact up) ru)
     rw[<- tk]
     exact au.imp fun n u h=>(ro n u).keep _ _ D _ hD3 up ((ro n u).ext _ _ e3 h)
   refine⟨_,rfl,_,rfl,rfl,_,rfl,?_⟩
   have ef:decide (natV m=natV (fullN ch))=true↔m=fullN ch:=by
    rw[br]
    exact⟨fun h=>by have:=V.int.inj h; omega,fun h=>by rw[h]⟩
   refine ite2 (fun h=>?_) (fun h=>?_)
   ·have h:=ef.mp h
    obtain⟨f1,f2⟩:=fin ve H' (fun b o h=>h) (by rw[h]; exact(ro _ _).ext _ _ kH he)
    exact⟨_,rfl,_,rfl,_,rfl,D,_,rfl,f1,f2⟩
   ·have h:m≠fullN ch:=fun z=>h (ef.mpr z)
    refine⟨rfl,_,rfl,_,rfl,L,ch,m,rfl,hL.ext kH,ok,hm2,h,fun r4 H4 ⟨vs4,hr4,av4⟩ e4 n4=>?_⟩
    have hD4:=e4 _ _ hD'
    have vl4:vs4.length<=33:=by
     rw[av4.len]
     have hlow:=jC4 hm2 h
     refine bf (cw _ _) ?_
     rw[aE,aB hlow]
     exact ok.len _ _ (aB hlow)
    refine⟨r4,rfl,⟨_,SqL.of hr4⟩,jBD (xs:=vs4) (fun σ=>∃ v1 v2,σ=[v1,v2,some (.ref D),some (natV m)]) (fun H' zs t=>All2 (fun v c=>∃ q u,v= .ref q/\H' q=some (.tup [.int c.1,u])/\R (m|||c.2) H4 u) zs ((chAt ch m).take t)) ⟨fun H=>trivial,fun H H' zs t tu hz=>hz.imp fun v c ⟨q,u,a1,a2,a3⟩=>⟨q,u,a1,tu _ _ a2,a3⟩,fun H zs t hz=>?_⟩ hr4 (by rw[aL]; omega) ⟨_,_,rfl⟩ ?_ ?_⟩
    ·rw[hz.len]
     exact bN _ _
    ·rintro t x σ' H5 zs hx ⟨v1,v2,rfl⟩ e5 hz5 S1 S2 yes no
     obtain⟨c,hc,qa,rfl,hq⟩:=av4.get' hx
     have hcm:=aI hc
     obtain⟨u1,u2⟩:=ok.up hm2 h hcm
     have ut:=mt.up m hmn h c hcm
     have up:(m|||c.2)∈ns.take i:=by
      obtain⟨a,ha⟩:=bv ut
      have al:a<i:=by
       refine cQ fun z=>?_
       have a1:=(ar.mp ha)
       have m1:=(ar.mp hm)
       rcases fq i a with y | y
       ·have:=cP.mp srt i a il a1.1 y
        rw[a1.2,m1.2] at this
        omega
       ·have:a=i:=by omega
        subst this
        rw[hm] at ha
        have:=bh ha
        omega
      exact aI (i:=a) (by rw[bY al]; exact ha)
     obtain⟨u,hu,ru⟩:=jET au (nsn.sublist (df _ _)) up
     have et:(chAt ch m).take (t+1)=(chAt ch m).take t++[c]:=by rw[bq,hc]; rfl
     have dg:DGet H5 D (.int (Builtin.bitOr (m:Int) (c.2:Int))) (some u):=by
      rw[jCE,<- hu]
      exact DGet.k (k:=Sum.inl (((m|||c.2:Nat):Nat):Int)) (e5 _ _ hD4)
     refine⟨qa,_,rfl,SqT.of (e5 _ _ hq),rfl,_,_,rfl,_,_,rfl,rfl,?_⟩
     dsimp only [yR]
     rw[aj rfl]
     refine⟨_,rfl,_,rfl,_,rfl,_,rfl,_,_,rfl,rfl,D,u,rfl,dg,by show (2:Nat)<=_; decide,fun r6 H6 d6 e6=>yes _ _ _ ⟨_,_,rfl⟩ e6 ?_⟩
     show All2 _ _ ((chAt ch m).take (t+1))
     rw[et]
     exact(hz5.imp fun v c ⟨q,u,a1,a2,a3⟩=>⟨q,u,a1,e6 _ _ a2,a3⟩).snoc ⟨r6,u,rfl,d6,(ro _ _).ext _ _ e4 ru⟩
    ·rintro D7 H7 zs hD7 e7 n7 hz7
     rw[av4.len,bI] at hz7
     refine⟨zo.ext _ _ (fun b o h=>e7 _ _ (e4 _ _ (kH b o h))) hzh,D7,zs,m,rfl,hD7,hm2,h,hz7.imp fun v c ⟨q,u,a1,a2,a3⟩=>⟨q,u,a1,a2,(ro _ _).ext _ _ e7 a3⟩,fun rr H8 r8 e8=>?_⟩
     obtain⟨f1,f2⟩:=fin rr H8 (fun b o h=>e8 _ _ (e7 _ _ (e4 _ _ h))) r8
     exact⟨_,rfl,_,rfl,D,_,rfl,f1,f2⟩
  ·rintro σ H' ⟨⟨v5,rfl⟩,k,got⟩
   rw[af,bI] at got
   exact⟨_,rfl,q D ns H' got srt mt (fun b o h=>k _ _ (E2 _ _ h) fun z=>by rw[z,nD] at h; cases h) nD⟩
end
end Eo
end
section
namespace L2
open PySem
def spEx {α:Type}(p:α->Prop)(sp:α->Sp):Sp:=fun vs H Q E=>∃ a,p a/\sp a vs H Q E
theorem FnOk.ex {α:Type}{p:α->Prop}{sp:α->Sp}{P:Program}{w:World}{K:W.Frag}{mg:Str->Option Value}{base:Heap}{CX:CXT}{k:Nat}{f:Addr}{fd:FuncData}{ps:List Str}(h:∀ a,p a->FnOk P w K mg base CX k f fd ps (sp a)):FnOk P w K mg base CX k f fd ps (spEx p sp):=
 ⟨fun vs H Q E ⟨a,pa,q⟩=>(h a pa).len vs H Q E q,fun A outer s H args us vs Q E hr he hb hv ⟨a,pa,q⟩=>(h a pa).run A outer s H args us vs Q E hr he hb hv q⟩
theorem Callee.mono {P:Program}{w:World}{K:W.Frag}{mg:Str->Option Value}{base:Heap}{Z:Shared->Hp->Prop}{zh:Hp->Prop}{i k:Nat}{a:Addr}{sp:Sp}(C:Callee P w K mg base Z zh i a sp)(h:i<=k):Callee P w K mg base Z zh k a sp:=
 ⟨C.fn,fun A outer s H us vs Q E hr=>C.run A outer s H us vs Q E (hr.mono h)⟩
theorem Callee.imp {P:Program}{w:World}{K:W.Frag}{mg:Str->Option Value}{base:Heap}{Z Z':Shared->Hp->Prop}{zh:Hp->Prop}{k:Nat}{a:Addr}{sp:Sp}(C:Callee P w K mg base Z zh k a sp)(h:∀ s H,Z' s H->Z s H):Callee P w K mg base Z' zh k a sp:=
 ⟨C.fn,fun A outer s H us vs Q E hr he hz=>C.run A outer s H us vs Q E hr he (h _ _ hz)⟩
theorem jRG {a:Arguments}{b:Expr}{sc:Scope}{pos:Pos}{es:List Expr}{env:Env} :starEach (.Lambda a b sc pos::es) env=(false,eval (.Lambda a b sc pos) env)::starEach es env:=rfl
end L2
namespace Eo
open PySem L2
theorem got0 {H:Hp}{r:Addr}{ch:Ch}{R:RepT}{ns:List Nat}(g:GotAt H r ch R ns)(nd:ns.Pairwise (· > ·))(m:MetOk ch ns):∃ u,DGet H r (.int 0) (some u)/\R 0 H u:=by
 obtain⟨us,h1,h2⟩:=g.ex
 obtain⟨u,hu,ru⟩:=jET h2 (nd.imp fun {a b} h=>by omega) m.zero
 refine⟨u,?_,ru⟩
 have:=DGet.k (k:=Sum.inl (0:Int)) h1
 rw[show valV (gvs ns us) (Sum.inl (0:Int))=some u from hu] at this
 exact this
end Eo
end
section
namespace L2
open PySem PySem.Spec PyProof.Rows
end L2
end
section
namespace Eo
open PySem L2
def yF (pc:List Int×Int):Int:=pc.1.getD 0 0
def cntF (pcs:List (List Int×Int))(t:Int):Nat:=pcs.countP fun pc=>decide (t<=yF pc)
def lead (pcs:List (List Int×Int))(t:Int)(i:Nat):Nat:=(pcs.take i).countP fun pc=>decide (yF pc=t)
theorem jGH (t:Int):∀ pcs:List (List Int×Int),cntF pcs t=cntF pcs (t+1)+pcs.countP fun pc=>decide (yF pc=t)
 | []=>rfl
 | p::r=>by
  have ih:=jGH t r
  unfold cntF at ih ⊢
  rw[cW,cW,cW,ih]
  by_cases h1:yF p=t
  ·have h2:t<=yF p:=by omega
   have h3:¬ t+1<=yF p:=by omega
   have h4:¬ t+1<=t:=by omega
   simp [h1,h4]
   try omega
  ·by_cases h2:t<=yF p
   ·have h3:t+1<=yF p:=by omega
    simp [h1,h2,h3]
    omega
   ·have h3:¬ t+1<=yF p:=by omega
    simp [h1,h2,h3]
theorem jT0 (pcs:List (List Int×Int))(t:Int):cntF pcs t<=pcs.length:=List.countP_le_length
theorem jNI (pcs:List (List Int×Int))(t:Int):2 ^ cntF pcs (t+1)*(1+lead pcs t pcs.length)<=2 ^ cntF pcs t:=by
 unfold lead
 rw[bI,jGH t pcs,Nat.pow_add]
 refine iP _ ?_
 have:=Nat.lt_two_pow_self (n:=pcs.countP fun pc=>decide (yF pc=t))
 omega
theorem jLJ {pcs:List (List Int×Int)}{t:Int}{i:Nat}{pc:List Int×Int}(h:pcs[i]?=some pc):lead pcs t (i+1)=lead pcs t i+if yF pc=t then 1 else 0:=by
 unfold lead
 rw[bq,h]
 show ((pcs.take i)++[pc]).countP _=_
 rw[List.countP_append,cW,List.countP_nil]
 simp
def wJ (l:List (Int×List (List Int))):List (List Int):=l.flatMap fun p=>p.2.map fun x=>if p.1<0 then x else p.1::x
def wk (ch:Ch)(m:Nat):List (List Int):=gv ch [[]] wJ m
theorem jFQ (a b:List (Int×List (List Int))):wJ (a++b)=wJ a++wJ b:=List.flatMap_append
theorem jB0 (ch:Ch):wk ch (fullN ch)=[[]]:=jQP
theorem jAZ {ch:Ch}{m:Nat}(o:ChOk ch)(h:m<2 ^ ch.length)(hn:m≠fullN ch):wk ch m=wJ ((chAt ch m).map fun c=>(c.1,wk ch (m|||c.2))):=jQO o h hn
theorem jIR (w:Nat):lowN (2 ^ w - 1)=w:=by
 refine jOM ?_ fun j hj=>?_
 ·rw[cH,aP (by omega)]
 ·rw[cH,aw hj]
theorem jOL {m c:Nat}(h:c.testBit (lowN m)=true):lowN m<lowN (m|||c):=by
 refine cQ fun z=>?_
 have n1:=jDM (m|||c)
 rw[bG] at n1
 rcases fq (lowN (m|||c)) (lowN m) with y | y
 ·rw[jF8 m _ y] at n1
  cases n1
 ·rw[show lowN (m|||c)=lowN m by omega,h,dJ] at n1
  cases n1
theorem jBS {ch:Ch}(o:ChOk ch){P:Nat->Prop}(h0:P (fullN ch))(hs:∀ m,m<2 ^ ch.length->m≠fullN ch->(∀ c∈chAt ch m,P (m|||c.2))->P m):∀ m,m<2 ^ ch.length->P m:=by
 intro m hm
 generalize hk:fullN ch - m=k
 induction k using strongRecOn generalizing m with
 | _ k ih=>
  by_cases hf:m=fullN ch
  ·rw[hf]
   exact h0
  ·have hlt:m<fullN ch:=by
    unfold fullN at hf ⊢
    omega
   refine hs m hm hf fun c hc=>?_
   obtain⟨u1,u2⟩:=o.up hm hf hc
   exact ih (fullN ch - (m|||c.2)) (by omega) _ u2 rfl
theorem mem_wJ {l:List (Int×List (List Int))}{x:List Int} :x∈wJ l↔∃ p∈l,∃ y∈p.2,x=if p.1<0 then y else p.1::y:=by
 unfold wJ
 rw[List.mem_flatMap]
 refine exists_congr fun p=>ix fun _=>?_
 rw[aW]
 exact exists_congr fun y=>ix fun _=>eq_comm
theorem jI0 {ch:Ch}(o:ChOk ch):∀ m,m<2 ^ ch.length->∀ x∈wk ch m,(∀ k∈x,0<=k/\k<32)/\x.length+lowN m<=ch.length:=by
 refine jBS o ?_ ?_
 ·intro x hx
  rw[jB0,aq] at hx
  subst hx
  refine⟨fun k hk=>(by cases hk),?_⟩
  unfold fullN
  rw[jIR]
  simp
 ·intro m hm hf ih x hx
  rw[jAZ o hm hf] at hx
  obtain⟨p,hp,y,hy,rfl⟩:=mem_wJ.mp hx
  obtain⟨c,hc,rfl⟩:=aW.mp hp
  obtain⟨i1,i2⟩:=ih c hc y hy
  obtain⟨m1,m2,m3,m4,m5⟩:=o.mem hm hf hc
  have lo:=jOL m1
  dsimp only
  split
  ·exact⟨i1,by omega⟩
  ·refine⟨fun k hk=>?_,by rw[aQ]; omega⟩
   rcases aF.mp hk with z | z
   ·subst z
    omega
   ·exact i1 k z
theorem jJW (l:List Int):l.getD 0 0=l.headD 0:=by cases l <;> rfl
theorem jJR (pcs:List (List Int×Int))(t:Nat)(i:Nat)(hi:i<=pcs.length):(((upto pcs.length).take i).filter fun k=>decide ((jC pcs k).headD 0=(t:Int))).length=lead pcs t i:=by
 induction i with
 | zero=>rfl
 | succ i ih=>
  have hil:i<pcs.length:=by omega
  rw[jDA hil,bW,aC,ih (by omega),jLJ (aB hil)]
  congr 1
  rw[ck,List.filter_nil]
  have e:jC pcs (i:Int)=pcs[i].1:=by
   unfold jC
   rw[bE,aE,aB hil]
   rfl
  unfold yF
  rw[e,jJW]
  by_cases h:pcs[i].1.headD 0=(t:Int)
  ·rw[aj (aw h),aj h]
   rfl
  ·rw[ah (fun z=>h (aK z)),ah h]
   rfl
theorem jO3 (pcs:List (List Int×Int)){s t:Int}(h:s<=t):cntF pcs t<=cntF pcs s:=by
 unfold cntF
 refine List.countP_mono_left fun x _ hx=>?_
 have:=aK hx
 exact aw (by omega)
theorem jGF {α β:Type}(f:α->List β)(B:Nat):∀ (l:List α),(∀ a∈l,(f a).length<=B)->(l.flatMap f).length<=l.length*B
 | [],_=>by simp
 | a::l,h=>by
  rw[List.flatMap_cons,aC,aQ,Nat.succ_mul]
  have h1:=h a (az ..)
  have h2:=jGF f B l fun x hx=>h x (aM _ hx)
  omega
theorem jK3 {w:Int}{ms:List Int}{pcs:List (List Int×Int)}(g:Good 16 32 w ms pcs):∀ m,m<2 ^ (chs w.toNat ms pcs).length->(wk (chs w.toNat ms pcs) m).length<=2 ^ cntF pcs (lowN m:Nat):=by
 have o:ChOk (chs w.toNat ms pcs):=yQ g
 refine jBS o ?_ ?_
 ·rw[jB0]
  exact Nat.one_le_two_pow
 ·intro m hm hf ih
  have hl:lowN m<w.toNat:=by
   have:=jC4 hm hf
   unfold chs at this
   rwa [kI] at this
  rw[jAZ o hm hf]
  unfold wJ
  refine bf (jGF _ (2 ^ cntF pcs ((lowN m:Nat)+1:Int)) _ fun p hp=>?_) ?_
  ·obtain⟨c,hc,rfl⟩:=aW.mp hp
   rw[af]
   have lo:=jOL (o.mem hm hf hc).1
   exact bf (ih c hc) (cG (by decide) (jO3 pcs (by omega)))
  ·rw[af,Nat.mul_comm]
   refine bf (iP _ ?_) (jNI pcs (lowN m:Nat))
   unfold chAt
   refine bf (cw _ _) ?_
   unfold chs
   rw[aE,y8 hl]
   show (y4 ms pcs pcs.length (lowN m)).length<=_
   unfold y4
   rw[aC,af,jJR pcs _ _ (ak _)]
   split <;> simp only [aQ,cf] <;> omega
theorem jDZ (a b:Int):decide (V.int a=V.int b)=decide (a=b):=by
 rw[cc,br,br]
 exact⟨fun h=>V.int.inj h,fun h=>by rw[h]⟩
def LsAt (H:Hp)(us:List V)(ws:List (List Int)):Prop:=All2 (fun v x=>∃ a,v=V.ref a/\H a=some (.tup (x.map V.int))) us ws
theorem LsAt.mono {H H':Hp}{us:List V}{ws:List (List Int)}(t:Tups H H')(h:LsAt H us ws):LsAt H' us ws:=All2.imp (fun v x ⟨a,e,q⟩=>⟨a,e,t _ _ q⟩) h
def cvs (w:Int)(ms:List Int)(pcs:List (List Int×Int)):List (List Int):=(wk (chs w.toNat ms pcs) 0).map srt
theorem jDG {pcs:List (List Int×Int)}{t:Int}(h:pcs.length<=17):2 ^ cntF pcs t<=131072:=by
 have:=bf (jT0 pcs t) h
 exact bf (cG (by decide) this) (by decide)
structure MkOk (w:Nat)(t:Nat)(hs:List Int)(m:Nat):Prop where
 lt:m<2 ^ w
 lo:∀ j,j<t->m.testBit j=true
 hi:∀ j,t<=j->j<w->(m.testBit j=true↔(j:Int)∈hs)
theorem MkOk.full {w:Nat}{hs:List Int}{m:Nat}(h:MkOk w w hs m):m=2 ^ w - 1:=jM4 h.lt h.lo
theorem MkOk.held {w t:Nat}{hs:List Int}{m:Nat}(h:MkOk w t hs m)(ht:t<w)(hm:(t:Int)∈hs):MkOk w (t+1) hs m:=by
 refine⟨h.lt,fun j hj=>?_,fun j h1 h2=>h.hi j (by omega) h2⟩
 rcases fq j t with y | y
 ·exact h.lo j y
 ·rw[show j=t by omega]
  exact(h.hi t (ak _) ht).mpr hm
theorem MkOk.low {w t:Nat}{hs:List Int}{m:Nat}(h:MkOk w t hs m)(ht:t<w)(hm:¬ (t:Int)∈hs):lowN m=t:=
 jOM (dj.mpr fun z=>hm ((h.hi t (ak _) ht).mp z)) h.lo
theorem MkOk.ne {w t:Nat}{hs:List Int}{m:Nat}(h:MkOk w t hs m)(ht:t<w)(hm:¬ (t:Int)∈hs):m≠2 ^ w - 1:=fun z=>by
 have:=h.low ht hm
 rw[z,jIR] at this
 omega
theorem MkOk.may {w t:Nat}{hs:List Int}{m:Nat}(h:MkOk w t hs m)(ht:t<w):MkOk w (t+1) hs (m|||2 ^ t):=by
 refine⟨g4 h.lt (gu (by decide) ht),fun j hj=>?_,fun j h1 h2=>?_⟩
 ·rw[bG,cn]
  rcases fq j t with y | y
  ·rw[h.lo j y]
   rfl
  ·rw[show j=t by omega,aw rfl,dJ]
 ·rw[bG,cn,aP (by omega),Bool.or_false]
  exact h.hi j (by omega) h2
theorem MkOk.piece {w t:Nat}{hs:List Int}{m:Nat}{own:List Int}(h:MkOk w t hs m)(ht:t<w)(l:Lot (w:Int) own)(hd:(t:Int)∈own):MkOk w (t+1) (hs++own) (m|||maskN own):=by
 have b0:∀ x∈own,0<=x:=fun x hx=>(l.bnd x hx).1
 refine⟨g4 h.lt (jDL l.ris l.bnd),fun j hj=>?_,fun j h1 h2=>?_⟩
 ·rw[bG,jA6 own j l.ris b0]
  rcases fq j t with y | y
  ·rw[h.lo j y]
   rfl
  ·rw[show j=t by omega,aw hd,dJ]
 ·rw[bG,jA6 own j l.ris b0,Bool.or_eq_true,br,aN]
  exact or_congr (h.hi j (by omega) h2) Iff.rfl
theorem MkOk.fits {w t:Nat}{hs:List Int}{m:Nat}{own:List Int}(h:MkOk w t hs m)(l:Lot (w:Int) own)(hd:own.headD 0=(t:Int)):(maskN own&&&m==0)=!(own.any fun x=>decide (x∈hs)):=by
 have b0:∀ x∈own,0<=x:=fun x hx=>(l.bnd x hx).1
 have ge:∀ x∈own,(t:Int)<=x:=fun x hx=>by
  cases ho:own with
  | nil=>rw[ho] at hx; cases hx
  | cons a r=>
   rw[ho] at hd hx
   have hd:a=t:=hd
   have lr:=l.ris
   rw[ho] at lr
   rcases aF.mp hx with z | z
   ·omega
   ·have:=(cA.mp lr).1 x z
    omega
 rw[cc,fZ,fm,List.any_eq_false]
 constructor
 ·intro z x hx hh
  have hh:=aK hh
  have bx:=l.bnd x hx
  have t1:=(h.hi x.toNat (by have:=ge x hx; omega) (by omega)).mpr (by rw[show ((x.toNat:Nat):Int)=x by omega]; exact hh)
  have t2:(maskN own).testBit x.toNat=true:=by
   rw[jA6 own _ l.ris b0,br,show ((x.toNat:Nat):Int)=x by omega]
   exact hx
  have t3:=bP (fun y=>y.testBit x.toNat) z
  simp only [dD,t1,t2,cX] at t3
  cases t3
 ·intro z
  apply dL
  intro i
  rw[dD,cX,jA6 own i l.ris b0]
  by_cases hi:(i:Int)∈own
  ·have bx:=l.bnd _ hi
   have gi:=ge _ hi
   rw[aw hi,Bool.true_and]
   refine dj.mpr fun y=>?_
   exact z _ hi (aw ((h.hi i (by omega) (by omega)).mp y))
  ·rw[aP hi]
   rfl
def wkI (ch:Ch)(ms:List Int)(pcs:List (List Int×Int))(m t i:Nat):List (List Int):=wJ (((y4 ms pcs i t).filter fun c=>c.2&&&m==0).map fun c=>(c.1,wk ch (m|||c.2)))
theorem jK0 {n:Nat}{ms:List Int}{pcs:List (List Int×Int)}(hn:n<pcs.length)(u:Nat):y4 ms pcs (n+1) u=y4 ms pcs n u++if (jC pcs (n:Int)).headD 0=(u:Int) then [((n:Int),maskN (jC pcs n))] else []:=by
 unfold y4
 rw[jDA hn,bW,aS,aU]
 congr 2
 rw[ck]
 by_cases hu:(jC pcs (n:Int)).headD 0=(u:Int)
 ·rw[aj (aw hu),aj hu]
  rfl
 ·rw[ah (fun z=>hu (aK z)),ah hu]
  rfl
theorem jMU {ch:Ch}{ms:List Int}{pcs:List (List Int×Int)}{m t:Nat}(hb:m.testBit t=false):wkI ch ms pcs m t 0=if (t:Int)∈ms then wk ch (m|||2 ^ t) else []:=by
 unfold wkI
 rw[jCP]
 by_cases h:(t:Int)∈ms
 ·have e:(2 ^ t&&&m==0)=true:=by
   rw[fZ]
   apply dL
   intro i
   rw[dD,cX,cn]
   by_cases hi:t=i
   ·subst hi
    rw[hb,da]
   ·rw[aP hi]
    rfl
  rw[aj h,aj h,ck,aj e]
  show wJ [(-1,wk ch (m|||2 ^ t))]=_
  unfold wJ
  rw[fz]
  exact(cN fun x _=>aj (show (-1:Int)<0 by decide)).trans (ja _)
 ·rw[ah h,ah h]
  rfl
theorem jI1 {ch:Ch}{ms:List Int}{pcs:List (List Int×Int)}{m t i:Nat}(hi:i<pcs.length):wkI ch ms pcs m t (i+1)=wkI ch ms pcs m t i++if (jC pcs (i:Int)).headD 0=(t:Int)/\(maskN (jC pcs (i:Int))&&&m==0)=true then (wk ch (m|||maskN (jC pcs (i:Int)))).map ((i:Int):: ·) else []:=by
 unfold wkI
 rw[jK0 hi,bW,aS,jFQ]
 congr 1
 by_cases h1:(jC pcs (i:Int)).headD 0=(t:Int)
 ·rw[aj h1,ck]
  by_cases h2:(maskN (jC pcs (i:Int))&&&m==0)=true
  ·rw[aj h2,aj ⟨h1,h2⟩]
   show wJ [((i:Int),wk ch (m|||maskN (jC pcs (i:Int))))]=_
   unfold wJ
   rw[fz]
   exact cN fun x _=>ah (by omega)
  ·rw[ah h2,ah (fun z=>h2 z.2)]
   rfl
 ·rw[ah h1,ah (fun z=>h1 z.1)]
  rfl
theorem jP0 {w:Int}{ms:List Int}{pcs:List (List Int×Int)}{m t:Nat}(g:Good 16 32 w ms pcs)(hm:m<2 ^ w.toNat)(hf:m≠2 ^ w.toNat - 1)(hl:lowN m=t)(ht:t<w.toNat):wkI (chs w.toNat ms pcs) ms pcs m t pcs.length=wk (chs w.toNat ms pcs) m:=by
 have o:ChOk (chs w.toNat ms pcs):=yQ g
 have el:(chs w.toNat ms pcs).length=w.toNat:=kI _ _ _ _
 rw[jAZ o (by rw[el]; exact hm) (by unfold fullN; rw[el]; exact hf)]
 unfold wkI chAt
 have:(chs w.toNat ms pcs).getD (lowN m) []=y4 ms pcs pcs.length t:=by
  rw[hl,aE]
  unfold chs
  rw[y8 ht]
  rfl
 rw[this]
theorem jMV {ch:Ch}{ms:List Int}{pcs:List (List Int×Int)}{m t i:Nat}(hi:i<=pcs.length):(wkI ch ms pcs m t i).length<=(wkI ch ms pcs m t pcs.length).length:=by
 have key:∀ d i,i+d=pcs.length->(wkI ch ms pcs m t i).length<=(wkI ch ms pcs m t pcs.length).length:=by
  intro d
  induction d with
  | zero=>intro i h; rw[show i=pcs.length by omega]; exact ak _
  | succ d ih=>
   intro i h
   refine bf ?_ (ih (i+1) (by omega))
   rw[jI1 (by omega),aC]
   omega
 exact key (pcs.length - i) i (by omega)
def jEA (d:Nat):Sp:=fun vs H Q _=>∃ (b h:Addr) (w:Int) (t:Nat) (ms:List Int) (pcs:List (List Int×Int)) (hs:List Int) (m:Nat),vs=[.ref b, .int (t:Int), .ref h]/\BoxAt H b w ms pcs/\Good 16 17 w ms pcs/\(t:Int)<=w/\w - t<=d/\H h=some (.tup (hs.map V.int))/\hs.length<=16*t/\MkOk w.toNat t hs m/\
 ∀ l us H',H' l=some (.lst us)->LsAt H' us (wk (chs w.toNat ms pcs) m)->Ext H H'->Q (.ref l) H'
def spNo:Sp:=fun _ _ _ _=>False
def jEV:Nat->Sp
 | 0=>spNo
 | d+1=>jEA d
section
variable {P:Program}{w:World}{K:W.Frag}{mg:Str->Option Value}{base:Heap}
variable {f fF fC fP fT fB:Addr}{fdF fdC fdP fdT fdB:FuncData}{cdv:Value}{A:Around}{outer:List Env}{s:Shared}{H0:Hp}{E:XK}
theorem ok_no {k:Nat}{f:Addr}{fd:FuncData}{ps:List Str} :FnOk P w K mg base CX0 k f fd ps spNo:=⟨fun _ _ _ _ h=>h.elim,fun _ _ _ _ _ _ _ _ _ _ _ _ _ h=>h.elim⟩
abbrev nFrom:List Str:=["box","thing","held","found","k","own"]
theorem scFrom:FnScope nFrom ["box","thing","held"] (j7 qD):=⟨rfl,rfl,rfl,by decide+kernel,rfl,by decide+kernel,by decide+kernel⟩
abbrev XFrom (P:Program)(w:World)(K:W.Frag)(mg:Str->Option Value)(base:Heap)(f:Addr)(cdv:Value)(A:Around)(outer:List Env)(s:Shared)(H:Hp)(E:XK):Cx:=XOf nFrom "_law_from" qD P w K mg base f cdv A outer s H E
def fromL {d:Nat}{sp:Sp}(T:Txt mg)(CF:Can P w K mg base "_law_from" (d+1) fF fdF ["box","thing","held"] sp)(hr:Room (d+1) (XFrom P w K mg base f cdv A outer s H0 E).A): { t:TS // JSs (XFrom P w K mg base f cdv A outer s H0 E) (jDO ((jD qD).getD 4 (.Pass ⟨0,0,0,0⟩))) t} :=
 have nd:=scFrom.nd
 ⟨_,(jE (jO (i:=5) nd rfl lL (jU jR (jU jR (jU jR (jv 0 rfl vL) (je_int) jG) (jv 4 rfl vC) jH6) (je_int) jG) jI6)
   (jF (yI (jt_w (jOQ (jP qI (jU jR (jv 5 rfl vL) (je_int) jG) (jv 1 rfl vL) (jN _)) (jLM (jGA (jEI (jH (jMK rfl) gD T.any (by decide+kernel) (j4 (yC (m:=[none,some 2]) (Nc:=["t","held"]) rfl (jDQ (jv 5 rfl vL)) rfl (by decide+kernel) (by decide+kernel) (kL (psc:=j7 qD) (by decide+kernel)) (jS (N:=nFrom) rfl rfl (by decide+kernel)) (fun cl C fp s H=>jY (i:=0) (show (["t","held"]:List Str).Nodup by decide+kernel) rfl (yY (by decide+kernel))) (fun cl C fp s H=>yB) (fun cl C fp s H=>(jAH jL0 (jv 0 rfl (kX (by decide+kernel))) (jv 1 rfl (jBT (by decide+kernel))) jL9)) jCL) j9 kB) kB) jDC))))) (jF (jO (i:=3) nd rfl lL (kN jF2 (jv 3 rfl vL) (yC (m:=[none,some 4]) (Nc:=["rest","k"]) rfl (jAV (CF.je hr gD (j4 (jv 0 rfl vL) (j4 (kN kY (jv 1 rfl vL) (je_int)) (j4 (kN jDI (jv 2 rfl vC) (jv 5 rfl vL)) j9 yH) yH) j6) j6)) rfl (by decide+kernel) (by decide+kernel) (kL (psc:=j7 qD) (by decide+kernel)) (jS (N:=nFrom) rfl rfl (by decide+kernel)) (fun cl C fp s H=>jY (i:=0) (show (["rest","k"]:List Str).Nodup by decide+kernel) rfl (yY (by decide+kernel))) (fun cl C fp s H=>yB) (fun cl C fp s H=>(kN jDI (kD (j4 (jv 1 rfl (jBT (by decide+kernel))) j9 j6)) (jv 0 rfl (kX (by decide+kernel))))) yG)) jDD)) kJ)))⟩
def fromB {d:Nat}{sp:Sp}(T:Txt mg)(CF:Can P w K mg base "_law_from" (d+1) fF fdF ["box","thing","held"] sp)(hr:Room (d+1) (XFrom P w K mg base f cdv A outer s H0 E).A): { t:TS // JSs (XFrom P w K mg base f cdv A outer s H0 E) ((jD qD).drop 4) t} :=
 have nd:=scFrom.nd
 ⟨_,(jE (jEJ dr rfl (jC7 gD T.range (j4 (jH jA1 gD T.len (by decide+kernel) (j4 (jU jR (jv 0 rfl vL) (je_int) jG) j9 jZ) jZ) j9 jI) jI) (jY (i:=4) nd rfl (loc_c (by decide+kernel))) (fromL T CF hr).2 yG) (jF (jW (jv 3 rfl vL))))⟩
def fromA {d:Nat}{sp:Sp}(T:Txt mg)(CF:Can P w K mg base "_law_from" (d+1) fF fdF ["box","thing","held"] sp)(hr:Room (d+1) (XFrom P w K mg base f cdv A outer s H0 E).A): { t:TS // JSs (XFrom P w K mg base f cdv A outer s H0 E) (jD qD) t} :=
 have nd:=scFrom.nd
 ⟨_,(jE (yI (jP qI (jv 1 rfl vL) (jU jR (jv 0 rfl vL) (je_int) jG) (jN _)) (jF (jW (jAG (j4 (kD j9) j9 yP)))) kJ) (jE (yI (jP jDH (jv 1 rfl vL) (jv 2 rfl vC) jL9) (jF (jW (CF.je hr gD (j4 (jv 0 rfl vL) (j4 (kN kY (jv 1 rfl vL) (je_int)) (j4 (jv 2 rfl vC) j9 j6) yH) j6) j6))) kJ) (jE (jO (i:=3) nd rfl lL (jAG j9) jFS) (jE (yI (jP jDH (jv 1 rfl vL) (jU jR (jv 0 rfl vL) (je_int) jG) jOI) (jF (jO (i:=3) nd rfl lL (CF.je hr gD (j4 (jv 0 rfl vL) (j4 (kN kY (jv 1 rfl vL) (je_int)) (j4 (jv 2 rfl vC) j9 j6) yH) j6) j6) kS)) kJ) (fromB T CF hr).2))))⟩
theorem jEM {d:Nat}(T:Txt mg)(CF:Can P w K mg base "_law_from" (d+1) fF fdF ["box","thing","held"] (jEV d))(hr:Room (d+1) (XFrom P w K mg base f cdv A outer s H0 E).A)
  {H H1:Hp}{b h l:Addr}{wi:Int}{t m:Nat}{ms:List Int}{pcs:List (List Int×Int)}{hs:List Int}{us:List V}{v4 v5:Option V}{D:Ends}(hB:BoxAt H b wi ms pcs) (g:Good 16 17 wi ms pcs) (t1:(t:Int)<wi) (hd:wi - t<=d) (hh:H h=some (.tup (hs.map V.int))) (hl:hs.length<=16*t) (mk:MkOk wi.toNat t hs m) (hnt:¬ (t:Int)∈hs)
  (e1:Ext H H1) (hf:H1 l=some (.lst us)) (fc:LsAt H1 us (wkI (chs wi.toNat ms pcs) ms pcs m t 0))
  (q:∀ l us H',H' l=some (.lst us)->LsAt H' us (wk (chs wi.toNat ms pcs) m)->Ext H H'->D.rt (.ref l) H'):
  (fromB T CF hr).1 D [some (.ref b),some (.int (t:Int)),some (.ref h),some (.ref l),v4,v5] H1:=by
 obtain⟨qm,qp,ps,b1,b2,b3,b4⟩:=hB.ex
 have pl:=b4.len
 have gl:=g.pl
 have w0:=g.w0
 have w1:=g.w1
 have g32:Good 16 32 wi ms pcs:=g.wide (by omega) (by omega)
 have tw:t<wi.toNat:=by omega
 have o:ChOk (chs wi.toNat ms pcs):=yQ g32
 have el:(chs wi.toNat ms pcs).length=wi.toNat:=kI _ _ _ _
 have all:=jP0 (pcs:=pcs) (ms:=ms) g32 mk.lt (mk.ne tw hnt) (mk.low tw hnt) tw
 have wlen:(wk (chs wi.toNat ms pcs) m).length<=131072:=bf (jK3 g32 m (by rw[el]; exact mk.lt)) (jDG (by omega))
 refine⟨_,rfl,b,_,2,_,rfl,rfl,SqT.of (e1 _ _ b1),rfl,qp,_,rfl, .inr (SqT.of (e1 _ _ b3)),_,rfl,by omega,by omega,jDW (fun i σ H'=>(∃ l us v4 v5,σ=[some (.ref b),some (.int (t:Int)),some (.ref h),some (.ref l),v4,v5]/\H' l=some (.lst us)/\LsAt H' us (wkI (chs wi.toNat ms pcs) ms pcs m t i))/\Ext H H') ⟨⟨_,_,_,_,rfl,hf,fc⟩,e1⟩ ?_ ?_⟩
 ·rintro i σ H2 hi ⟨⟨l2,us2,v4,v5,rfl,g1,g3⟩,e2⟩
  have hil:i<ps.length:=by omega
  have hip:i<pcs.length:=by omega
  have hy1:ps[i]?=some ps[i]:=aB hil
  obtain⟨pc,hpc,pa,pq,hpe,c1,c2⟩:=b4.at hy1
  have hlot:=(g.pg pc (aI hpc)).lot
  have et:jC pcs (i:Int)=pc.1:=by
   unfold jC
   rw[bE,aE,hpc]
   rfl
  have lt2:pc.1.length<=16:=by
   have:=jAR _ 0 wi hlot.ris hlot.bnd
   omega
  have lt0:atI (pc.1.map V.int) 0=some (.int (pc.1.headD 0)):=by
   cases z:pc.1 with
   | nil=>exact absurd z hlot.ne
   | cons a r=>exact jBR (j:=0) rfl
  have at1:atI ps (0+(i:Int))=some (.ref pa):=by rw[fw]; exact jBR (by rw[hy1,hpe])
  have hsu:=jI1 (ch:=chs wi.toNat ms pcs) (ms:=ms) (m:=m) (t:=t) hip
  rw[et] at hsu
  have ul:us2.length<=131072:=by
   rw[g3.len]
   exact bf (jMV (by omega)) (by rw[all]; exact wlen)
  have keep:∀ (v4 v5:Option V) (H3:Hp),Ext H2 H3->wkI (chs wi.toNat ms pcs) ms pcs m t (i+1)=wkI (chs wi.toNat ms pcs) ms pcs m t i->(∃ l us v4' v5',([some (.ref b),some (.int (t:Int)),some (.ref h),some (.ref l2),v4,v5]:St)=[some (.ref b),some (.int (t:Int)),some (.ref h),some (.ref l),v4',v5']/\H3 l=some (.lst us)/\LsAt H3 us (wkI (chs wi.toNat ms pcs) ms pcs m t (i+1)))/\Ext H H3:=fun v4 v5 H3 e3 ez=>⟨⟨l2,us2,v4,v5,rfl,e3 _ _ g1,by rw[ez]; exact g3.mono e3.tups⟩,e2.trans e3⟩
  refine⟨_,rfl,b,_,2,_,rfl,rfl,SqT.of (e2 _ _ b1),rfl,_,rfl,qp,_,_,_,rfl,rfl,SqT.of (e2 _ _ b3),at1,pa,_,0,_,rfl,rfl,SqT.of (e2 _ _ c1),rfl,?_⟩
  refine⟨_,rfl,pq,_,0,_,rfl,rfl,SqT.of (e2 _ _ c2),lt0,_,rfl,rfl,_,rfl,?_⟩
  rw[jDZ]
  refine ite2 (fun h1=>?_) (fun h1=>?_)
  ·have h1:pc.1.headD 0=(t:Int):=aK h1
   have fi:=mk.fits (own:=pc.1) (by rw[show ((wi.toNat:Nat):Int)=wi by omega]; exact hlot) h1
   refine⟨_,rfl,pq,rfl,⟨_,SqT.of (e2 _ _ c2)⟩,jD6 (xs:=pc.1.map V.int) (fun σ=>∃ v,σ=[v,some (.ref h)]) (mapZ pc.1 fun x=>V.bl (decide (x∈hs))) (mapZ.ok _ _) (e2 _ _ c2) (by rw[af,aL]; omega) ⟨_,rfl⟩ ?_ ?_⟩
   ·rintro j x σ' H' zs hx ⟨v,rfl⟩ e hz S1 S2 yes no
    obtain⟨z,hz',rfl⟩:=int_at hx
    dsimp only [kZ,yR]
    rw[aj rfl]
    refine⟨_,rfl,_,rfl,h,_,rfl, .inr (SqT.of (e _ _ (e2 _ _ hh))),rfl,jC9 _,?_⟩
    rw[jD4]
    exact yes _ _ _ ⟨_,rfl⟩ (Ext.refl _) (hz.yes hz')
   ·rintro D' H3 zs h2 e3 hn hz
    have hz:=hz.all (by rw[af]; exact ak _)
    have hz2:zs=(pc.1.map fun x=>decide (x∈hs)).map V.bl:=by rw[hz,cZ]; rfl
    rw[hz2] at h2
    refine⟨D',_,rfl,SqL.of h2,_,rfl,?_⟩
    have ea:((pc.1.map fun x=>decide (x∈hs)).any id)=pc.1.any fun x=>decide (x∈hs):=by rw[List.any_map]; rfl
    rw[ea]
    have E3:=e2.trans e3
    refine ite2 (fun h3=>?_) (fun h3=>keep _ _ H3 e3 ?_)
    ·have h3:(maskN pc.1&&&m==0)=true:=by rw[fi]; exact h3
     rw[aj ⟨h1,h3⟩] at hsu
     cases d with
     | zero=>omega
     | succ d=>
     have htm:(t:Int)∈pc.1:=by rw[<- h1]; exact jFD hlot.ne
     refine⟨_,rfl,_,rfl,_,rfl,_,_,rfl,rfl,_,rfl,_,rfl,h,pq,_,_,rfl,rfl,E3 _ _ hh,E3 _ _ c2,by rw[af,af,aL]; omega,fun r H4 hr4 e4=>?_⟩
     have E4:=E3.trans e4
     refine⟨b,r,wi,t+1,ms,pcs,hs++pc.1,m|||maskN pc.1,rfl,hB.mono E4.tups,g,by omega,by omega,by rw[aS]; exact hr4,by rw[aC]; omega,mk.piece tw (by rw[show ((wi.toNat:Nat):Int)=wi by omega]; exact hlot) htm,fun l5 us5 H5 hl5 hc5 e5=>?_⟩
     have E5:=E4.trans e5
     have mlt:m|||maskN pc.1<2 ^ (chs wi.toNat ms pcs).length:=by
      rw[el]
      exact(mk.piece tw (by rw[show ((wi.toNat:Nat):Int)=wi by omega]; exact hlot) htm).lt
     have u5:us5.length<=131072:=by
      rw[hc5.len]
      exact bf (jK3 g32 _ mlt) (jDG (by omega))
     refine⟨l5,rfl,⟨_,SqL.of hl5⟩,jBD (xs:=us5) (fun σ=>∃ v,σ=[v,some (.int (0+(i:Int)))]) (fun H' zs j=>LsAt H' zs (((wk (chs wi.toNat ms pcs) (m|||maskN pc.1)).take j).map ((i:Int):: ·))) ⟨fun H=>trivial,fun H H' zs j tt h=>h.mono tt,fun H zs j h=>?_⟩ hl5 (by rw[aL]; omega) ⟨_,rfl⟩ ?_ ?_⟩
     ·rw[h.len,af]
      exact bN _ _
     ·rintro j x σ' H' zs hx ⟨v,rfl⟩ e hz S1 S2 yes no
      obtain⟨ks,hks,a,rfl,ha⟩:=hc5.get' hx
      have kl:=(jI0 o _ mlt ks (aI hks)).2
      dsimp only [kZ,yR]
      rw[aj rfl]
      refine⟨_,rfl,by rw[aL]; show 1<=_; omega,fun r6 H6 hr6 e6=>⟨_,rfl,r6,a,_,_,rfl,rfl,hr6,e6 _ _ (e _ _ ha),by rw[af,aL]; show 1+_<=_; omega,fun r7 H7 hr7 e7=>?_⟩⟩
      have e67:=e6.trans e7
      refine yes _ _ _ ⟨_,rfl⟩ e67 ?_
      show LsAt H7 _ (((wk (chs wi.toNat ms pcs) (m|||maskN pc.1)).take (j+1)).map ((i:Int):: ·))
      rw[bq,hks,aS]
      refine All2.snoc (LsAt.mono e67.tups hz) ⟨r7,rfl,?_⟩
      rw[hr7,fw]
      rfl
     ·rintro D6 H6 zs h26 e6 hn6 hz6
      rw[hc5.len,bI] at hz6
      have zl:zs.length<=131072:=by
       rw[hz6.len,af,<- hc5.len]
       exact u5
      refine⟨l2,D6,_,_,rfl,rfl,e6 _ _ (e5 _ _ (e4 _ _ (e3 _ _ g1))),h26,by rw[aL]; omega,fun r7 H7 hr7 e7 hn7=>?_⟩
      have E37:=((e3.trans e4).trans e5).trans (e6.trans e7)
      refine⟨⟨r7,_,_,_,rfl,hr7,?_⟩,e2.trans E37⟩
      rw[hsu]
      exact All2.append (LsAt.mono E37.tups g3) (LsAt.mono e7.tups hz6)
    ·rw[hsu,ah,aV]
     rintro ⟨_,z⟩
     rw[fi] at z
     exact h3 z
  ·refine iteF (keep _ _ H2 (Ext.refl _) ?_)
   rw[hsu,ah,aV]
   rintro ⟨z,_⟩
   exact h1 (aw z)
 ·rintro σ H2 ⟨⟨l2,us2,v4,v5,rfl,g1,g3⟩,e2⟩
  have em:((ps.length:Int)).toNat=pcs.length:=by omega
  rw[em,all] at g3
  exact⟨_,rfl,q l2 us2 H2 g1 g3 e2⟩
theorem jGE {fd:FuncData}(d:Nat)(F:Fun K "_law_from" "_law_from" qD f fd)(T:Txt mg)(CF:Can P w K mg base "_law_from" (d+1) f fd ["box","thing","held"] (jEV d)):
  FnOk P w K mg base CX0 (d+2) f fd ["box","thing","held"] (jEA d):=by
 refine F.ok scFrom (fun vs H Q E h=>?_) (fun cdv A outer s H vs Q E hr h=>?_)
 ·obtain⟨_,_,_,_,_,_,_,_,rfl,_⟩:=h
  rfl
 ·obtain⟨b,h,wi,t,ms,pcs,hs,m,rfl,hB,g,t1,hd,hh,hl,mk,q⟩:=h
  obtain⟨qm,qp,ps,b1,b2,b3,b4⟩:=hB.ex
  have gl:=g.pl
  have w0:=g.w0
  have w1:=g.w1
  have el:(chs wi.toNat ms pcs).length=wi.toNat:=kI _ _ _ _
  refine⟨_,(fromA T CF hr).2.h,?_⟩
  refine⟨_,rfl,_,rfl,b,_,0,_,rfl,rfl,SqT.of b1,rfl,rfl,_,rfl,?_⟩
  rw[jDZ]
  refine ite2 (fun h1=>?_) (fun h1=>?_)
  ·have h1:(t:Int)=wi:=aK h1
   have tw:t=wi.toNat:=by omega
   subst tw
   have mf:m=fullN (chs wi.toNat ms pcs):=by
    unfold fullN
    rw[el]
    exact mk.full
   rw[mf,jB0] at q
   refine⟨by rw[aL]; show 0<=_; omega,fun r1 H1 hr1 e1=>⟨by rw[aL]; show 1<=_; omega,fun r2 H2 hr2 e2 _=>?_⟩⟩
   exact q r2 _ H2 hr2 ⟨⟨r1,rfl,e2 _ _ hr1⟩,trivial⟩ (e1.trans e2)
  ·have h1:¬ (t:Int)=wi:=fun h=>h1 (aw h)
   have tw:t<wi.toNat:=by omega
   refine⟨_,rfl,_,rfl,h,_,rfl, .inr (SqT.of hh),rfl,jC9 _,_,rfl,?_⟩
   have hd1:∃ d',d=d'+1:=⟨d - 1,by omega⟩
   obtain⟨d',rfl⟩:=hd1
   have call:∀ (m':Nat) (H1:Hp) (Q':VK),MkOk wi.toNat (t+1) hs m'->Ext H H1->(∀ l us H',H' l=some (.lst us)->LsAt H' us (wk (chs wi.toNat ms pcs) m')->Ext H H'->Q' (.ref l) H')->jEV (d'+1) [.ref b, .int ((t:Int)+1), .ref h] H1 Q' E0:=fun m' H1 Q' mk' e1 k=>by
    exact⟨b,h,wi,t+1,ms,pcs,hs,m',rfl,hB.mono e1.tups,g,by omega,by omega,e1 _ _ hh,by omega,mk',fun l us H' a1 a2 a3=>k l us H' a1 a2 (e1.trans a3)⟩
   rw[jD4]
   refine ite2 (fun h2=>?_) (fun h2=>?_)
   ·have h2:(t:Int)∈hs:=aK h2
    refine⟨_,rfl,_,rfl,_,_,rfl,rfl,_,rfl,call m H _ (mk.held tw h2) (Ext.refl _) fun l us H' a1 a2 a3=>?_⟩
    exact q l us H' a1 a2 a3
   ·have h2:¬ (t:Int)∈hs:=fun z=>h2 (aw z)
    have hb:m.testBit t=false:=dj.mpr fun z=>h2 ((mk.hi t (ak _) tw).mp z)
    refine⟨by rw[aL]; show 0<=_; omega,fun l1 H1 hl1 e1 _=>?_⟩
    refine⟨_,rfl,_,rfl,b,_,1,_,rfl,rfl,SqT.of (e1 _ _ b1),rfl,qm,_,rfl, .inr (SqT.of (e1 _ _ b2)),rfl,jC9 _,_,rfl,?_⟩
    rw[jD4]
    have hz:=jMU (ch:=chs wi.toNat ms pcs) (ms:=ms) (pcs:=pcs) hb
    refine ite2 (fun h3=>?_) (fun h3=>?_)
    ·rw[aj (aK h3)] at hz
     refine⟨_,rfl,_,rfl,_,_,rfl,rfl,_,rfl,(show jEV (d'+1) [.ref b, .int ((t:Int)+1), .ref h] H1 (fun x H2=>(fromB T CF hr).1 { nx:=fun x H'=>Q V.non H',rt:=Q} [some (.ref b),some (.int (t:Int)),some (.ref h),some x,none,none] H2) E0 from call (m|||2 ^ t) H1 _ (mk.may tw) e1 fun l us H' a1 a2 a3=>?_)⟩
     exact jEM T CF hr hB g (by omega) hd hh hl mk h2 a3 a1 (by rw[hz]; exact a2) q
    ·rw[ah (fun z=>h3 (aw z))] at hz
     exact jEM T CF hr hB g (by omega) hd hh hl mk h2 e1 hl1 (by rw[hz]; trivial) q
theorem jL6 {fd:FuncData}(F:Fun K "_law_from" "_law_from" qD f fd)(T:Txt mg)(hm:mg "_law_from" =some (.ref f))(kp:keepIn K (.ref f)=true)(hb:Binds K fd ["box","thing","held"] []):
  ∀ d:Nat,FnOk P w K mg base CX0 (d+2) f fd ["box","thing","held"] (jEA d)
 | 0=>jGE 0 F T ⟨ok_no,hm,kp,hb⟩
 | d+1=>jGE (d+1) F T ⟨jL6 F T hm kp hb d,hm,kp,hb⟩
def jBI:Sp:=fun vs H Q _=>∃ (b:Addr) (w:Int) (ms:List Int) (pcs:List (List Int×Int)),vs=[.ref b]/\BoxAt H b w ms pcs/\Good 16 17 w ms pcs/\
 ∀ l us H',H' l=some (.lst us)->LsAt H' us (cvs w ms pcs)->us.length<=131072->Ext H H'->Q (.ref l) H'
abbrev nCovs:List Str:=["box"]
theorem scCovs:FnScope nCovs ["box"] (j7 qK):=⟨rfl,rfl,rfl,by decide+kernel,rfl,by decide+kernel,by decide+kernel⟩
def covsA (T:Txt mg)(CF:Can P w K mg base "_law_from" 18 fF fdF ["box","thing","held"] (jEA 16))(hr:Room 18 (XOf nCovs "_law_coverings" qK P w K mg base f cdv A outer s H0 E).A): { t:TS // JSs (XOf nCovs "_law_coverings" qK P w K mg base f cdv A outer s H0 E) (jD qK) t} :=
 have nd:=scCovs.nd
 ⟨_,(jF (jW (yC (m:=[none]) (Nc:=["some"]) rfl (jAV (CF.je hr gD (j4 (jv 0 rfl vL) (j4 (je_int) (j4 (kD j9) j9 yP) jL) j6) j6)) rfl (by decide+kernel) (by decide+kernel) (kL (psc:=j7 qK) (by decide+kernel)) (jS (N:=nCovs) rfl rfl (by decide+kernel)) (fun cl C fp s H=>jY (i:=0) (show (["some"]:List Str).Nodup by decide+kernel) rfl (yY (by decide+kernel))) (fun cl C fp s H=>yB) (fun cl C fp s H=>(kO jE0 (gl_b (by decide+kernel)) T.tuple (by decide+kernel) (j4 (jH jCW (gl_b (by decide+kernel)) T.sorted (by decide+kernel) (j4 (jv 0 rfl (kX (by decide+kernel))) j9 j6) j6) j9 jI) jI)) yG)))⟩
theorem jQE (w:Nat):MkOk w 0 [] 0:=⟨dn _,fun j hj=>by omega,fun j _ _=>by simp⟩
theorem jQ8 {fd:FuncData}(F:Fun K "_law_coverings" "_law_coverings" qK f fd)(T:Txt mg)(CF:Can P w K mg base "_law_from" 18 fF fdF ["box","thing","held"] (jEA 16)):FnOk P w K mg base CX0 19 f fd ["box"] jBI:=by
 refine F.ok scCovs (fun vs H Q E h=>?_) (fun cdv A outer s H vs Q E hr h=>?_)
 ·obtain⟨_,_,_,_,rfl,_⟩:=h
  rfl
 ·obtain⟨b,wi,ms,pcs,rfl,hB,g,q⟩:=h
  have gl:=g.pl
  have w0:=g.w0
  have w1:=g.w1
  have g32:Good 16 32 wi ms pcs:=g.wide (by omega) (by omega)
  have o:ChOk (chs wi.toNat ms pcs):=yQ g32
  have el:(chs wi.toNat ms pcs).length=wi.toNat:=kI _ _ _ _
  have z0:0<2 ^ (chs wi.toNat ms pcs).length:=dn _
  refine⟨_,(covsA T CF hr).2.h,?_⟩
  refine⟨_,rfl,by rw[aL]; show 0<=_; omega,fun r1 H1 hr1 e1=>⟨b,r1,wi,0,ms,pcs,[],0,rfl,hB.mono e1.tups,g,by omega,by omega,hr1,by show 0<=_; omega,jQE _,fun l us H2 a1 a3 a4=>?_⟩⟩
  have ul:us.length<=131072:=by
   rw[a3.len]
   exact bf (jK3 g32 _ z0) (jDG (by omega))
  refine⟨l,rfl,⟨_,SqL.of a1⟩,jBD (xs:=us) (fun σ=>∃ v,σ=[v]) (fun H' zs j=>LsAt H' zs (((wk (chs wi.toNat ms pcs) 0).take j).map srt)) ⟨fun H=>trivial,fun H H' zs j tt h=>h.mono tt,fun H zs j h=>?_⟩ a1 (by rw[aL]; omega) ⟨_,rfl⟩ ?_ ?_⟩
  ·rw[h.len,af]
   exact bN _ _
  ·rintro j x σ' H' zs hx ⟨v,rfl⟩ e hz S1 S2 yes no
   obtain⟨ks,hks,a,rfl,ha⟩:=a3.get' hx
   have kl:=(jI0 o _ z0 ks (aI hks)).2
   dsimp only [kZ,yR]
   rw[aj rfl]
   refine⟨_,rfl,a,ks,rfl,e _ _ ha,by omega,fun l6 ns hl6 sr pm=>⟨l6,_,rfl, .inl ⟨SqL.of j8,fun l7 hl7=>?_⟩⟩⟩
   have e6:Ext H' (L2.upd H' l6 (.lst (ns.map V.int))):=(Ext.refl _).new hl6 _
   have e7:Ext H' (L2.upd (L2.upd H' l6 (.lst (ns.map V.int))) l7 (.tup (ns.map V.int))):=e6.new hl7 _
   refine yes _ _ _ ⟨_,rfl⟩ e7 ?_
   show LsAt _ _ (((wk (chs wi.toNat ms pcs) 0).take (j+1)).map srt)
   rw[bq,hks,aS]
   refine All2.snoc (LsAt.mono e7.tups hz) ⟨l7,rfl,?_⟩
   rw[j8,jFU sr pm]
  ·rintro D6 H6 zs h26 e6 hn6 hz6
   rw[a3.len,bI] at hz6
   exact q D6 zs H6 h26 hz6 (by rw[hz6.len,af,<- a3.len]; exact ul) ((e1.trans a4).trans e6)
end
theorem jB9 {w:Int}{ms:List Int}{pcs:List (List Int×Int)}{m:Nat}{c:Int×Nat}(hl:lowN m<w.toNat):c∈chAt (chs w.toNat ms pcs) m↔c.2&&&m=0/\((c=(-1,2 ^ lowN m)/\(lowN m:Int)∈ms)\/∃ k:Int,c=(k,maskN (jC pcs k))/\0<=k/\k<pcs.length/\(jC pcs k).headD 0=(lowN m:Int)):=by
 unfold chAt
 rw[bz,fZ,and_comm]
 refine ix fun _=>?_
 unfold chs
 rw[aE,y8 hl]
 show c∈y4 ms pcs pcs.length (lowN m)↔_
 unfold y4
 rw[aN]
 refine or_congr ?_ ?_
 ·by_cases h:(lowN m:Int)∈ms
  ·rw[aj h,aq]
   exact⟨fun z=>⟨z,h⟩,fun z=>z.1⟩
  ·rw[ah h]
   exact⟨fun z=>(by cases z),fun z=>absurd z.2 h⟩
 ·rw[bV (by rw[jI2]; exact ak _),aW]
  constructor
  ·rintro ⟨k,hk,rfl⟩
   obtain⟨h1,h2⟩:=bz.mp hk
   have b:=(jAO pcs.length).bnd k h1
   exact⟨k,rfl,b.1,b.2,aK h2⟩
  ·rintro ⟨k,rfl,h1,h2,h3⟩
   refine⟨k,bz.mpr ⟨?_,aw h3⟩,rfl⟩
   unfold upto
   exact aW.mpr ⟨k.toNat,bO.mpr (by omega),by omega⟩
structure CovM (w:Int)(ms:List Int)(pcs:List (List Int×Int))(m:Nat)(x:List Int):Prop where
 nd:x.Nodup
 bnd:∀ k∈x,0<=k/\k<pcs.length
 off:∀ k∈x,∀ t∈jC pcs k,m.testBit t.toNat=false
 dis:∀ k∈x,∀ k'∈x,k≠k'->∀ t∈jC pcs k,t∉jC pcs k'
 cov:∀ t:Nat,t<w.toNat->m.testBit t=false->(t:Int)∉ms->∃ k∈x,(t:Int)∈jC pcs k
section
variable {w:Int}{ms:List Int}{pcs:List (List Int×Int)}(g:Good 16 32 w ms pcs)
include g
theorem jAT {k:Int}(h0:0<=k)(h1:k<pcs.length):Lot w (jC pcs k):=(g.at (k:=k.toNat) (by omega)).lot
theorem jED {k:Int}(h0:0<=k)(h1:k<pcs.length)(t:Nat):(maskN (jC pcs k)).testBit t=decide ((t:Int)∈jC pcs k):=jA6 _ t (jAT g h0 h1).ris fun x hx=>((jAT g h0 h1).bnd x hx).1
theorem jOG {k:Int}(h0:0<=k)(h1:k<pcs.length){m:Nat} :maskN (jC pcs k)&&&m=0↔∀ t∈jC pcs k,m.testBit t.toNat=false:=by
 have l:=jAT g h0 h1
 constructor
 ·intro h t ht
  have bt:=l.bnd t ht
  have q:=bP (fun z=>z.testBit t.toNat) h
  simp only [dD,cX,jED g h0 h1] at q
  rw[show ((t.toNat:Nat):Int)=t by omega,aw ht,Bool.true_and] at q
  exact q
 ·intro h
  apply dL
  intro i
  rw[dD,cX,jED g h0 h1]
  by_cases hi:(i:Int)∈jC pcs k
  ·have:=h _ hi
   rw[bE] at this
   rw[this,da]
  ·rw[aP hi]
   rfl
theorem jAL {k:Int}(h0:0<=k)(h1:k<pcs.length):(jC pcs k).headD 0∈jC pcs k/\∀ t∈jC pcs k,(jC pcs k).headD 0<=t:=by
 have l:=jAT g h0 h1
 refine⟨jFD l.ne,fun t ht=>?_⟩
 have r:=l.ris
 cases z:jC pcs k with
 | nil=>rw[z] at ht; cases ht
 | cons a q=>
  rw[z] at ht r
  show a<=t
  rcases aF.mp ht with y | y
  ·omega
  ·have:=(cA.mp r).1 t y
   omega
theorem jES:∀ m,m<2 ^ (chs w.toNat ms pcs).length->∀ x∈wk (chs w.toNat ms pcs) m,CovM w ms pcs m x:=by
 have o:ChOk (chs w.toNat ms pcs):=yQ g
 have el:(chs w.toNat ms pcs).length=w.toNat:=kI _ _ _ _
 refine jBS o ?_ ?_
 ·intro x hx
  rw[jB0,aq] at hx
  subst hx
  refine⟨iF,fun k hk=>(by cases hk),fun k hk=>(by cases hk),fun k hk=>(by cases hk),fun t ht hb _=>?_⟩
  unfold fullN at hb
  rw[el,cH,aw ht] at hb
  cases hb
 ·intro m hm hf ih x hx
  have hl:lowN m<w.toNat:=by have:=jC4 hm hf; rwa [el] at this
  rw[jAZ o hm hf] at hx
  obtain⟨p,hp,y,hy,rfl⟩:=mem_wJ.mp hx
  obtain⟨c,hc,rfl⟩:=aW.mp hp
  have I:=ih c hc y hy
  have offm:∀ k∈y,∀ t∈jC pcs k,m.testBit t.toNat=false:=fun k hk t ht=>by
   have:=I.off k hk t ht
   rw[bG,gy] at this
   exact this.1
  obtain⟨hz,hcase⟩:=(jB9 hl).mp hc
  rcases hcase with ⟨rfl,hms⟩ | ⟨k,rfl,k0,k1,hd⟩
  ·dsimp only
   rw[aj (show (-1:Int)<0 by decide)]
   refine⟨I.nd,I.bnd,offm,I.dis,fun t ht hb hn=>?_⟩
   refine I.cov t ht ?_ hn
   rw[bG,hb,iS,cn,aP]
   intro z
   subst z
   exact hn hms
  ·dsimp only at I hz ⊢
   rw[ah (by omega)]
   have ky:∀ t∈jC pcs k,∀ k'∈y,t∉jC pcs k':=fun t ht k' hk' ht'=>by
    have:=I.off k' hk' t ht'
    have bt:=(jAT g k0 k1).bnd t ht
    rw[bG,jED g k0 k1,show ((t.toNat:Nat):Int)=t by omega,aw ht,dJ] at this
    cases this
   have hhd:=(jAL g k0 k1).1
   refine⟨cy.mpr ⟨fun z=>ky _ hhd k z hhd,I.nd⟩,fun k' hk'=>?_,fun k' hk' t ht=>?_,fun k1' h1' k2' h2' ne t ht=>?_,fun t ht hb hn=>?_⟩
   ·rcases aF.mp hk' with z | z
    ·rw[z]; exact⟨k0,k1⟩
    ·exact I.bnd k' z
   ·rcases aF.mp hk' with z | z
    ·rw[z] at ht
     exact(jOG g k0 k1).mp hz t ht
    ·exact offm k' z t ht
   ·rcases aF.mp h1' with z | z <;> rcases aF.mp h2' with u | u
    ·exact absurd (z.trans u.symm) ne
    ·rw[z] at ht
     exact ky t ht _ u
    ·rw[u]
     intro q
     exact ky t q _ z ht
    ·exact I.dis _ z _ u ne t ht
   ·by_cases hk:(t:Int)∈jC pcs k
    ·exact⟨k,az .., hk⟩
    ·obtain⟨k',h1,h2⟩:=I.cov t ht (by rw[bG,hb,jED g k0 k1,aP hk]; rfl) hn
     exact⟨k',aM _ h1,h2⟩
theorem jGZ:∀ m,m<2 ^ (chs w.toNat ms pcs).length->∀ x,CovM w ms pcs m x->∃ y∈wk (chs w.toNat ms pcs) m,∀ k,k∈y↔k∈x:=by
 have o:ChOk (chs w.toNat ms pcs):=yQ g
 have el:(chs w.toNat ms pcs).length=w.toNat:=kI _ _ _ _
 have w0:=g.w0
 refine jBS o ?_ ?_
 ·intro x C
  refine⟨[],by rw[jB0]; exact aq.mpr rfl,fun k=>⟨fun z=>(by cases z),fun hk=>?_⟩⟩
  exfalso
  have b:=C.bnd k hk
  have hh:=(jAL g b.1 b.2).1
  have hb:=(jAT g b.1 b.2).bnd _ hh
  have:=C.off k hk _ hh
  unfold fullN at this
  rw[el,cH,aw (by omega)] at this
  cases this
 ·intro m hm hf ih x C
  have hl:lowN m<w.toNat:=by have:=jC4 hm hf; rwa [el] at this
  have hstep:=jAZ o hm hf
  by_cases hx:∃ k∈x,(lowN m:Int)∈jC pcs k
  ·obtain⟨k,hk,ht⟩:=hx
   have b:=C.bnd k hk
   have hd:(jC pcs k).headD 0=(lowN m:Int):=by
    obtain⟨h1,h2⟩:=jAL g b.1 b.2
    have h3:=h2 _ ht
    have hb:=(jAT g b.1 b.2).bnd _ h1
    have h4:=C.off k hk _ h1
    rcases Int.lt_or_eq_of_le h3 with z | z
    ·have:=jF8 m ((jC pcs k).headD 0).toNat (by omega)
     rw[this] at h4
     cases h4
    ·exact z
   have fit:maskN (jC pcs k)&&&m=0:=(jOG g b.1 b.2).mpr (C.off k hk)
   have hc:((k,maskN (jC pcs k)):Int×Nat)∈chAt (chs w.toNat ms pcs) m:=(jB9 hl).mpr ⟨fit, .inr ⟨k,rfl,b.1,b.2,hd⟩⟩
   have memE:∀ j,j∈x.erase k↔j≠k/\j∈x:=fun j=>C.nd.mem_erase_iff
   obtain⟨y,hy,hye⟩:=ih _ hc (x.erase k) ⟨C.nd.erase k,fun j hj=>C.bnd j ((memE j).mp hj).2,fun j hj t ht'=>by
     obtain⟨n1,n2⟩:=(memE j).mp hj
     have bj:=C.bnd j n2
     have bt:=(jAT g bj.1 bj.2).bnd t ht'
     have:=C.dis j n2 k hk n1 t ht'
     rw[bG,C.off j n2 t ht',jED g b.1 b.2,show ((t.toNat:Nat):Int)=t by omega,aP this]
     rfl,fun j1 h1 j2 h2=>C.dis j1 ((memE j1).mp h1).2 j2 ((memE j2).mp h2).2,fun t ht' hb hn=>by
     rw[bG,gy,jED g b.1 b.2,dR] at hb
     obtain⟨j,hj,hjt⟩:=C.cov t ht' hb.1 hn
     exact⟨j,(memE j).mpr ⟨fun z=>hb.2 (z ▸ hjt),hj⟩,hjt⟩⟩
   refine⟨k::y,?_,fun j=>?_⟩
   ·rw[hstep,mem_wJ]
    exact⟨_,cq hc,y,hy,by dsimp only; rw[ah (by omega)]⟩
   ·rw[aF,hye,memE]
    constructor
    ·rintro (z | z)
     ·rw[z]; exact hk
     ·exact z.2
    ·intro z
     by_cases hj:j=k
     ·exact .inl hj
     ·exact .inr ⟨hj,z⟩
  ·have hms:(lowN m:Int)∈ms:=cQ fun z=>hx (C.cov (lowN m) hl (jDM m) z)
   have fit:2 ^ lowN m&&&m=0:=by
    apply dL
    intro i
    rw[dD,cX,cn]
    by_cases hi:lowN m=i
    ·rw[<- hi,jDM,da]
    ·rw[aP hi]
     rfl
   have hc:((-1,2 ^ lowN m):Int×Nat)∈chAt (chs w.toNat ms pcs) m:=(jB9 hl).mpr ⟨fit, .inl ⟨rfl,hms⟩⟩
   obtain⟨y,hy,hye⟩:=ih _ hc x ⟨C.nd,C.bnd,fun j hj t ht'=>by
     have bj:=C.bnd j hj
     have bt:=(jAT g bj.1 bj.2).bnd t ht'
     rw[bG,C.off j hj t ht',iS,cn,aP]
     intro z
     refine hx ⟨j,hj,?_⟩
     rw[z,show ((t.toNat:Nat):Int)=t by omega]
     exact ht',C.dis,fun t ht' hb hn=>by
     rw[bG,gy] at hb
     exact C.cov t ht' hb.1 hn⟩
   refine⟨y,?_,hye⟩
   rw[hstep,mem_wJ]
   exact⟨_,cq hc,y,hy,by dsimp only; rw[aj (by decide)]⟩
theorem jMT:∀ m,m<2 ^ (chs w.toNat ms pcs).length->(wk (chs w.toNat ms pcs) m).Pairwise fun y z=>¬ ∀ k,k∈y↔k∈z:=by
 have o:ChOk (chs w.toNat ms pcs):=yQ g
 have el:(chs w.toNat ms pcs).length=w.toNat:=kI _ _ _ _
 refine jBS o ?_ ?_
 ·rw[jB0]
  exact ff _ _
 ·intro m hm hf ih
  have hl:lowN m<w.toNat:=by have:=jC4 hm hf; rwa [el] at this
  rw[jAZ o hm hf]
  unfold wJ
  rw[List.pairwise_flatMap]
  have at0:∀ c∈chAt (chs w.toNat ms pcs) m,∀ y∈wk (chs w.toNat ms pcs) (m|||c.2),∀ k∈y,(lowN m:Int)∉jC pcs k:=fun c hc y hy k hk ht=>by
   have C:=jES g _ (o.up hm hf hc).2 y hy
   have:=C.off k hk _ ht
   rw[bE,bG,(o.mem hm hf hc).1,dJ] at this
   cases this
  constructor
  ·intro p hp
   obtain⟨c,hc,rfl⟩:=aW.mp hp
   rw[bF]
   refine(iC.mp (ih c hc)).imp fun {y z} h=>?_
   obtain⟨hy,hz,h⟩:=h
   dsimp only
   obtain⟨_,hcase⟩:=(jB9 hl).mp hc
   rcases hcase with ⟨rfl,hms⟩ | ⟨k,rfl,k0,k1,hd⟩
   ·rw[aj (show (-1:Int)<0 by decide),aj (show (-1:Int)<0 by decide)]
    exact h
   ·rw[ah (by omega),ah (by omega)]
    intro q
    refine h fun j=>?_
    have kt:(lowN m:Int)∈jC pcs k:=by rw[<- hd]; exact(jAL g k0 k1).1
    have ny:k∉y:=fun u=>at0 _ hc y hy k u kt
    have nz:k∉z:=fun u=>at0 _ hc z hz k u kt
    have qj:=q j
    rw[aF,aF] at qj
    constructor
    ·intro u
     rcases qj.mp (.inr u) with v | v
     ·rw[v] at u; exact absurd u ny
     ·exact v
    ·intro u
     rcases qj.mpr (.inr u) with v | v
     ·rw[v] at u; exact absurd u nz
     ·exact v
  ·rw[bF]
   have pw:(chAt (chs w.toNat ms pcs) m).Pairwise fun a b=>a.1≠b.1:=by
    unfold chAt chs
    rw[aE,y8 hl]
    show ((y4 ms pcs pcs.length (lowN m)).filter _).Pairwise _
    refine iO _ ?_
    unfold y4
    rw[bS]
    refine⟨by split <;> simp,?_,fun a ha b hb=>?_⟩
    ·rw[bF]
     refine iO _ (List.Pairwise.sublist (df _ _) ?_)
     exact(jAO pcs.length).ris.imp fun {a b} h=>by
      show a≠b
      omega
    ·obtain⟨k,hk,rfl⟩:=aW.mp hb
     have bk:=(jAO pcs.length).bnd k (bU (bz.mp hk).1)
     split at ha
     ·rw[aq] at ha
      rw[ha]
      show (-1:Int)≠k
      omega
     ·cases ha
   refine(iC.mp pw).imp fun {c d} h=>?_
   obtain⟨hc,hd',ne⟩:=h
   intro x hx y hy q
   obtain⟨u,hu,rfl⟩:=aW.mp hx
   obtain⟨v,hv,rfl⟩:=aW.mp hy
   dsimp only at hu hv q
   obtain⟨_,h1⟩:=(jB9 hl).mp hc
   obtain⟨_,h2⟩:=(jB9 hl).mp hd'
   have one:∀ (k:Int) (z:List Int),0<=k->k<pcs.length->(jC pcs k).headD 0=(lowN m:Int)->(lowN m:Int)∈jC pcs k:=fun k z k0 k1 e=>by rw[<- e]; exact(jAL g k0 k1).1
   rcases h1 with ⟨rfl,_⟩ | ⟨k,rfl,k0,k1,hk⟩ <;> rcases h2 with ⟨rfl,_⟩ | ⟨j,rfl,j0,j1,hj⟩
   ·exact ne rfl
   ·rw[aj (show (-1:Int)<0 by decide),ah (by omega)] at q
    exact at0 _ hc u hu j ((q j).mpr (az ..)) (one j v j0 j1 hj)
   ·rw[ah (by omega),aj (show (-1:Int)<0 by decide)] at q
    exact at0 _ hd' v hv k ((q k).mp (az ..)) (one k v k0 k1 hk)
   ·rw[ah (by omega),ah (by omega)] at q
    rcases aF.mp ((q k).mp (az ..)) with z | z
    ·exact ne z
    ·exact at0 _ hd' v hv k z (one k v k0 k1 hk)
end
structure IsCov (w:Int)(ms:List Int)(pcs:List (List Int×Int))(c:List Int):Prop where
 ris:Ris pcs.length c
 dis:∀ k∈c,∀ k'∈c,k≠k'->∀ t∈jC pcs k,t∉jC pcs k'
 cov:∀ t:Int,0<=t->t<w->t∉ms->∃ k∈c,t∈jC pcs k
section
variable {w:Int}{ms:List Int}{pcs:List (List Int×Int)}(g:Good 16 32 w ms pcs)
include g
theorem jBN {c:List Int} :c∈cvs w ms pcs↔IsCov w ms pcs c:=by
 have z0:0<2 ^ (chs w.toNat ms pcs).length:=dn _
 have w0:=g.w0
 unfold cvs
 rw[aW]
 constructor
 ·rintro ⟨x,hx,rfl⟩
  have C:=jES g 0 z0 x hx
  have me:∀ k,k∈srt x↔k∈x:=fun k=>(jB7 x).mem_iff
  refine⟨⟨?_,fun k hk=>C.bnd k ((me k).mp hk)⟩,fun k hk k' hk'=>C.dis k ((me k).mp hk) k' ((me k').mp hk'),fun t t0 t1 hn=>?_⟩
  ·exact(List.Pairwise.and (jOC x) ((jB7 x).nodup_iff.mpr C.nd)).imp fun {a b} h=>by omega
  ·obtain⟨k,hk,hkt⟩:=C.cov t.toNat (by omega) (cX _) (by rw[show ((t.toNat:Nat):Int)=t by omega]; exact hn)
   exact⟨k,(me k).mpr hk,by rwa [show ((t.toNat:Nat):Int)=t by omega] at hkt⟩
 ·intro C
  obtain⟨y,hy,hye⟩:=jGZ g 0 z0 c ⟨C.ris.ris.imp fun {a b} h=>by omega,C.ris.bnd,fun k hk t ht=>cX _,C.dis,fun t ht _ hn=>C.cov t (by omega) (by omega) hn⟩
  refine⟨y,hy,?_⟩
  have ny:=(jES g 0 z0 y hy).nd
  have nc:c.Nodup:=C.ris.ris.imp fun {a b} h=>by omega
  have pm:c.Perm y:=(eG nc ny).mpr fun k=>(hye k).symm
  exact(jFU (C.ris.ris.imp fun {a b} h=>by omega) pm).symm
theorem jGG:(cvs w ms pcs).Nodup:=by
 have z0:0<2 ^ (chs w.toNat ms pcs).length:=dn _
 unfold cvs
 refine bF.mpr ((jMT g 0 z0).imp fun {y z} h e=>h fun k=>?_)
 rw[<- (jB7 y).mem_iff,e,(jB7 z).mem_iff]
end
theorem jHS (w:Int)(ms:List Int)(pcs:List (List Int×Int)):(cvs w ms pcs).length=(wk (chs w.toNat ms pcs) 0).length:=af ..
def lamOf (s:Stmt):Arguments×Expr×Scope×Pos:=match jD s with
 | [.Return (some (.Call _ [_,_, .Lambda a b sc p] _ _)) _]=>(a,b,sc,p)
 | _=>(jJ s, .Constant .none 0 ⟨0,0,0,0⟩,j7 s,⟨0,0,0,0⟩)
abbrev lamA:Arguments:=(lamOf yV).1
abbrev lamB:Expr:=(lamOf yV).2.1
abbrev lamS:Scope:=(lamOf yV).2.2.1
abbrev lamP:Pos:=(lamOf yV).2.2.2
abbrev nLam:List Str:=["behind"]
theorem scLam:NScope nLam ["behind"] [] lamS:=⟨rfl,rfl,rfl,by decide+kernel,rfl,by decide+kernel,by decide+kernel,fun x h=>by
  have hl:∀ y∈lamS.names,y.2≠ .free:=by decide+kernel
  exact absurd rfl (hl _ (cm h)),by decide+kernel⟩
def RWay (ch:Ch):RepT:=fun m _ v=>v=natV (wk ch m).length
theorem RWay.ok (ch:Ch):RepOk (RWay ch):=fun _ _=>⟨fun _ _ _ _ _ _ h=>h,fun _ _ _ h=>h⟩
theorem jR3 (l:List (Int×List (List Int))):(wJ l).length=(l.map fun p=>p.2.length).sum:=by
 unfold wJ
 rw[List.length_flatMap]
 congr 1
 refine cN fun p _=>?_
 rw[af]
section
variable {P:Program}{w:World}{K:W.Frag}{mg:Str->Option Value}{base:Heap}
variable {f fG fW fC a c c0 tb:Addr}{fdG fdW fdC:FuncData}{cdv:Value}{cl:List (Str×Addr)}{A:Around}{outer:List Env}{s:Shared}{H0:Hp}{E:XK}
abbrev qLam:Str:= "ways_of.<locals>.<lambda>"
def jNJ (T:Txt mg): { t:TE // JE (cxN P w K mg base nLam qLam lamS a (.ref c) cl A outer s H0) lamB t} :=⟨_,(jH (jGI rfl) (gl_n (by decide+kernel)) T.sum (by decide+kernel) (j4 (yC (m:=[none,none]) (Nc:=["number","ways"]) rfl (jAV (jv 0 rfl (yU (by decide+kernel)))) rfl (by decide+kernel) (by decide+kernel) (fun y hy hf=>absurd hf (by revert y; decide+kernel)) (jS (N:=nLam) rfl rfl (by decide+kernel)) (fun cl C fp s H=>jDR (i:=0) (j:=1) rfl (show (["number","ways"]:List Str).Nodup by decide+kernel) rfl rfl (by decide+kernel) (by decide+kernel)) (fun cl C fp s H=>yB) (fun cl C fp s H=>(jv 1 rfl (kX (by decide+kernel)))) jCL) j9 kB) kB)⟩
def zhW (a c:Addr):Hp->Prop:=fun H=>H a=some (.ext (nlP qLam lamA lamB lamS [] a c))/\H c=some (.ext (ncP qLam c))
theorem zhW.ok (a c:Addr):HpOk (zhW a c):=⟨fun H H' D kvs hD k h=>⟨k _ _ h.1 fun z=>(by rw[<- z,h.1] at hD; cases hD),k _ _ h.2 fun z=>(by rw[<- z,h.2] at hD; cases hD)⟩,fun H H' e h=>⟨e _ _ h.1,e _ _ h.2⟩⟩
theorem jSB {ch:Ch}(o:ChOk ch)(T:Txt mg):Callee P w K mg base ZT (zhW a c) 1 a (jE8 ch (RWay ch)):=by
 refine Callee.imp (jSY (fv:=[]) scLam (fun vs H Q E h=>?_) (fun pm ctv us hl=>?_) fun A outer s H vs Q E hr h=>?_) fun s H _=>⟨⟨fun x y c h=>(by cases h),fun x c h=>(by cases h)⟩,rfl,fun i x v h=>(by cases h)⟩
 ·obtain⟨_,_,_,rfl,_⟩:=h
  rfl
 ·match us,hl with
  | [_],_=>rfl
 ·obtain⟨l,us,m,rfl,hl,hm,hf,av,q⟩:=h
  refine⟨_,(jNJ T).2.h,?_⟩
  have vl:us.length<=33:=by
   rw[av.len]
   have hlow:=jC4 hm hf
   refine bf (cw _ _) ?_
   rw[aE,aB hlow]
   exact o.len _ _ (aB hlow)
  refine⟨_,rfl,l,rfl,⟨_,SqL.of hl⟩,jBD (xs:=us) (fun σ=>∃ v1 v2,σ=[v1,v2]) (mapZ (chAt ch m) fun c=>natV (wk ch (m|||c.2)).length) (mapZ.ok _ _) hl (by rw[aL]; omega) ⟨_,_,rfl⟩ ?_ ?_⟩
  ·rintro j x σ' H' zs hx ⟨v1,v2,rfl⟩ e hz S1 S2 yes no
   obtain⟨c,hc,p,u,rfl,hp,hR⟩:=av.get' hx
   have hR:u=natV (wk ch (m|||c.2)).length:=hR
   subst hR
   refine⟨p,_,rfl,SqT.of (e _ _ hp),rfl,_,_,rfl,_,_,rfl,rfl,?_⟩
   dsimp only [yR]
   rw[aj rfl]
   exact⟨_,rfl,yes _ _ _ ⟨_,_,rfl⟩ (Ext.refl _) (hz.yes hc)⟩
  ·rintro D H' zs hD e nD hz
   have hz:=hz.all (by rw[av.len]; exact ak _)
   have hz2:zs=((chAt ch m).map fun c=>((wk ch (m|||c.2)).length:Int)).map V.int:=by rw[hz,cZ]; rfl
   rw[hz2] at hD
   refine⟨D,_,rfl,SqL.of hD,q _ _ ?_ e⟩
   show V.int _=natV _
   rw[jAZ o hm hf,jR3,cZ]
   congr 1
   generalize chAt ch m=cs
   induction cs with
   | nil=>rfl
   | cons a r ih=>
    rw[bg,d0,bg,d0,ih]
    push_cast
    rfl
abbrev nWays:List Str:=["choices"]
theorem scWays:FnScope nWays ["choices"] (j7 yV):=⟨rfl,rfl,rfl,by decide+kernel,rfl,by decide+kernel,by decide+kernel⟩
abbrev TabW (H:Hp)(tb:Addr):Prop:=TabOk H tb lamP qLam
def jH3:Sp:=spEx (fun x:Addr×Addr×Ch=>ChOk x.2.2) fun x=>jKH x.1 (zhW x.1 x.2.1) x.2.2 (RWay x.2.2)
def jI8 (tb:Addr):Sp:=fun vs H Q _=>∃ (L:Addr) (ch:Ch),vs=[.ref L]/\ChAt H L ch/\ChOk ch/\TabW H tb/\∀ (r:Addr) (ns:List Nat) (H':Hp),GotAt H' r ch (RWay ch) ns->ns.Pairwise (· > ·)->MetOk ch ns->ExtT tb H H'->TabW H' tb->H r=none->Q (.ref r) H'
def waysA (T:Txt mg)(CH:PySem.W.CodeHd base c0 tb)(BM:BltAt base mg)(CG:Can P w K mg base "gathered" 4 fG fdG ["choices","at_end","join"] jH3)(hr:Room 4 (XOf nWays "ways_of" yV P w K mg base f (.ref c0) A outer s H0 E).A): { t:TS // JSs (XOf nWays "ways_of" yV P w K mg base f (.ref c0) A outer s H0 E) (jD yV) t} :=
 have nd:=scWays.nd
 ⟨_,(jF (jW (CG.je hr gD (j4 (jv 0 rfl vL) (j4 je_int (j4 (jSQ rfl CH BM (fun y hy hf=>absurd hf (by revert y; decide+kernel)) rfl) j9 jRG) jL) j6) j6)))⟩
theorem jQ1 {fd:FuncData}(F:FunC K "ways_of" "ways_of" yV f fd c0)(T:Txt mg)(CH:PySem.W.CodeHd base c0 tb)(BM:BltAt base mg)(CG:Can P w K mg base "gathered" 4 fG fdG ["choices","at_end","join"] jH3):FnOk P w K mg base CX0 5 f fd ["choices"] (jI8 tb):=by
 refine F.ok scWays (fun vs H Q E h=>?_) (fun A outer s H vs Q E hr h=>?_)
 ·obtain⟨_,_,rfl,_⟩:=h
  rfl
 ·obtain⟨L,ch,rfl,hL,o,tab,q⟩:=h
  refine⟨_,(waysA T CH BM CG hr).2.h,?_⟩
  refine⟨_,rfl,tab,fun a c H1 k1 k2 k3 e1 na=>?_⟩
  have hL1:ChAt H1 L ch:=hL.keep (fun b xs h=>e1.at tab h) fun b xs h=>e1.at tab h
  refine⟨(a,c,ch),o,L,_,rfl,hL1,?_,⟨k1,k2⟩,fun r ns H2 got srt mt e2 n2=>?_⟩
  ·show V.int 1=natV _
   rw[jB0]
   rfl
  ·refine q r ns H2 got srt mt (fun b o hb hn=>e2 _ _ (e1 b o hb hn)) (.inr ⟨c,e2 _ _ k3,e2 _ _ k2⟩) ?_
   cases z:H r with
   | none=>rfl
   | some o=>
    by_cases hr:r=tb
    ·rw[hr,k3] at n2
     cases n2
    ·rw[e1 _ _ z hr] at n2
     cases n2
abbrev nMany:List Str:=["box"]
theorem scMany:FnScope nMany ["box"] (j7 sMany):=⟨rfl,rfl,rfl,by decide+kernel,rfl,by decide+kernel,by decide+kernel⟩
def jBH (tb:Addr):Sp:=fun vs H Q _=>∃ (b:Addr) (w:Int) (ms:List Int) (pcs:List (List Int×Int)),vs=[.ref b]/\BoxAt H b w ms pcs/\Good 16 32 w ms pcs/\TabW H tb/\∀ H',ExtT tb H H'->TabW H' tb->Q (natV (wk (chs w.toNat ms pcs) 0).length) H'
def manyA (T:Txt mg)(CC:Can P w K mg base "choices_of" 2 fC fdC ["box"] jAJ)(CW:Can P w K mg base "ways_of" 5 fW fdW ["choices"] (jI8 tb))(hr:Room 5 (XOf nMany "many" sMany P w K mg base f cdv A outer s H0 E).A): { t:TS // JSs (XOf nMany "many" sMany P w K mg base f cdv A outer s H0 E) (jD sMany) t} :=
 have nd:=scMany.nd
 ⟨_,(jF (jW (jHJ (hu_of hr) (CW.je hr gD (j4 (CC.je (hr.mono (by decide)) gD (j4 (jv 0 rfl vL) j9 j6) j6) j9 jI) jI) je_int jG)))⟩
theorem jQ5 {fd:FuncData}(F:Fun K "many" "many" sMany f fd)(T:Txt mg)(CC:Can P w K mg base "choices_of" 2 fC fdC ["box"] jAJ)(CW:Can P w K mg base "ways_of" 5 fW fdW ["choices"] (jI8 tb)):FnOk P w K mg base CX0 6 f fd ["box"] (jBH tb):=by
 refine F.ok scMany (fun vs H Q E h=>?_) (fun cdv A outer s H vs Q E hr h=>?_)
 ·obtain⟨_,_,_,_,rfl,_⟩:=h
  rfl
 ·obtain⟨b,wi,ms,pcs,rfl,hB,g,tab,q⟩:=h
  refine⟨_,(manyA T CC CW hr).2.h,?_⟩
  refine⟨_,rfl,b,wi,ms,pcs,rfl,hB,g,fun L H1 hL1 e1=>?_⟩
  refine⟨L,_,rfl,hL1,yQ g,tab.ext e1,fun r ns H2 got srt mt e2 t2 n2=>?_⟩
  obtain⟨u,dg,ru⟩:=got0 got srt mt
  have ru:u=natV _:=ru
  subst ru
  exact⟨r,_,rfl,dg,q H2 ((ExtT.of e1).trans e2) t2⟩
end
theorem jT1 {w:Int}{ms:List Int}{pcs:List (List Int×Int)}{m:Nat}{c:Int×Nat}(hm:m<2 ^ (chs w.toNat ms pcs).length)(hf:m≠fullN (chs w.toNat ms pcs))(hc:c∈chAt (chs w.toNat ms pcs) m):c.1<pcs.length:=by
 have hl:lowN m<w.toNat:=by
  have:=jC4 hm hf
  unfold chs at this
  rwa [kI] at this
 obtain⟨h1,_⟩:=bz.mp hc
 unfold chs at h1
 rw[aE,y8 hl] at h1
 have h1:c∈y4 ms pcs pcs.length (lowN m):=h1
 unfold y4 at h1
 rcases aN.mp h1 with z | z
 ·split at z
  ·rw[aq] at z
   rw[z]
   show (-1:Int)<_
   omega
  ·cases z
 ·obtain⟨k,hk,rfl⟩:=aW.mp z
  exact((jAO pcs.length).bnd k (bU (bz.mp hk).1)).2
end Eo
end
section
namespace L2
open PySem
theorem Callee.imp2 {P:Program}{w:World}{K:W.Frag}{mg:Str->Option Value}{base:Heap}{Z:Shared->Hp->Prop}{zh zh':Hp->Prop}{k:Nat}{a:Addr}{sp sp':Sp}(C:Callee P w K mg base Z zh k a sp)(h1:∀ H,zh' H->zh H)(h2:∀ vs H Q E,zh' H->sp' vs H Q E->sp vs H Q E):Callee P w K mg base Z zh' k a sp':=
 ⟨fun A outer s H e z=>C.fn A outer s H e (h1 H z),fun A outer s H us vs Q E hr he hz zh r q=>C.run A outer s H us vs Q E hr he hz (h1 H zh) r (h2 _ _ _ _ zh q)⟩
end L2
namespace Eo
open PySem L2
def wgt (pcs:List (List Int×Int))(k:Int):Int:=(pcs.getD k.toNat ([],0)).2
def wt (pcs:List (List Int×Int))(x:List Int):Int:=(x.map (wgt pcs)).sum
def minW (pcs:List (List Int×Int)):List (List Int)->Option (List Int)
 | []=>none
 | x::r=>match minW pcs r with
  | none=>some x
  | some y=>if wt pcs y<wt pcs x then some y else some x
def qF (pcs:List (List Int×Int)):Option (List Int)->Option (List Int)->Option (List Int)
 | none,b=>b
 | some x,none=>some x
 | some x,some y=>if wt pcs y<wt pcs x then some y else some x
theorem minW_none {pcs:List (List Int×Int)}{l:List (List Int)} :minW pcs l=none↔l=[]:=by
 cases l with
 | nil=>exact⟨fun _=>rfl,fun _=>rfl⟩
 | cons x r=>
  refine⟨fun h=>?_,fun h=>(by cases h)⟩
  unfold minW at h
  split at h
  ·cases h
  ·split at h <;> cases h
theorem jHH (pcs:List (List Int×Int))(a b c:Option (List Int)):qF pcs (qF pcs a b) c=qF pcs a (qF pcs b c):=by
 cases a with
 | none=>rfl
 | some x=>cases b with
  | none=>rfl
  | some y=>cases c with
   | none=>
    show qF pcs (if wt pcs y<wt pcs x then some y else some x) none=if wt pcs y<wt pcs x then some y else some x
    split <;> rfl
   | some z=>
    show qF pcs (if wt pcs y<wt pcs x then some y else some x) (some z)=qF pcs (some x) (if wt pcs z<wt pcs y then some z else some y)
    by_cases h1:wt pcs y<wt pcs x <;> by_cases h2:wt pcs z<wt pcs y <;> by_cases h3:wt pcs z<wt pcs x <;> simp only [h1,h2,h3,gc,jc,qF] <;> first | rfl | omega
theorem jB1 (pcs:List (List Int×Int))(x:List Int)(r:List (List Int)):minW pcs (x::r)=qF pcs (some x) (minW pcs r):=by
 rw[minW]
 cases minW pcs r <;> rfl
theorem jDK (pcs:List (List Int×Int)):∀ (a b:List (List Int)),minW pcs (a++b)=qF pcs (minW pcs a) (minW pcs b)
 | [],b=>rfl
 | x::r,b=>by rw[ie,jB1,jDK pcs r b,jB1,jHH]
theorem jEQ (pcs:List (List Int×Int))(c:Int)(x:List Int):wt pcs (c::x)=wgt pcs c+wt pcs x:=by
 unfold wt
 rw[bg,d0]
theorem jIN (pcs:List (List Int×Int))(c:Int):∀ (l:List (List Int)),minW pcs (l.map fun x=>if c<0 then x else c::x)=(minW pcs l).map fun x=>if c<0 then x else c::x
 | []=>rfl
 | x::r=>by
  rw[bg,jB1,jB1,jIN pcs c r]
  cases minW pcs r with
  | none=>rfl
  | some y=>
   show (if wt pcs (if c<0 then y else c::y)<wt pcs (if c<0 then x else c::x) then _ else _)=Option.map _ (if wt pcs y<wt pcs x then some y else some x)
   by_cases hc:c<0
   ·simp only [hc,gc]
    split <;> rfl
   ·simp only [hc,jc,jEQ]
    by_cases h:wt pcs y<wt pcs x
    ·rw[aj (by omega),aj h]
     rfl
    ·rw[ah (by omega),ah h]
     rfl
theorem jC3 {pcs:List (List Int×Int)}{x:List Int} :∀ {l:List (List Int)},minW pcs l=some x->x∈l/\∀ y∈l,wt pcs x<=wt pcs y
 | [],h=>by cases h
 | z::r,h=>by
  rw[jB1] at h
  cases hr:minW pcs r with
  | none=>
   rw[hr] at h
   have h:some z=some x:=h
   cases h
   rw[minW_none.mp hr]
   exact⟨az .., fun y hy=>by rw[aq] at hy; rw[hy]; exact dc _⟩
  | some y=>
   rw[hr] at h
   obtain⟨i1,i2⟩:=jC3 hr
   have h:(if wt pcs y<wt pcs z then some y else some z)=some x:=h
   split at h
   ·cases h
    refine⟨aM _ i1,fun u hu=>?_⟩
    rcases aF.mp hu with q | q
    ·rw[q]; omega
    ·exact i2 u q
   ·cases h
    refine⟨az .., fun u hu=>?_⟩
    rcases aF.mp hu with q | q
    ·rw[q]; exact dc _
    ·have:=i2 u q
     omega
def LtAt (pcs:List (List Int×Int))(H:Hp)(v:V)(o:Option (List Int)):Prop:=match o with
 | none=>v= .non
 | some x=>∃ q r,v= .ref q/\H q=some (.tup [.int (wt pcs x), .ref r])/\H r=some (.tup (x.map V.int))
theorem LtAt.mono {pcs:List (List Int×Int)}{H H':Hp}{v:V}{o:Option (List Int)}(t:Tups H H')(h:LtAt pcs H v o):LtAt pcs H' v o:=by
 cases o with
 | none=>exact h
 | some x=>obtain⟨q,r,e,h1,h2⟩:=h; exact⟨q,r,e,t _ _ h1,t _ _ h2⟩
def RLt (pcs:List (List Int×Int))(ch:Ch):RepT:=fun m H v=>LtAt pcs H v (minW pcs (wk ch m))
theorem RLt.ok (pcs:List (List Int×Int))(ch:Ch):RepOk (RLt pcs ch):=fun m v=>⟨fun H H' D kvs hD k h=>h.mono fun q xs hq=>k _ _ hq fun z=>(by rw[z,hD] at hq; cases hq),fun H H' e h=>h.mono e.tups⟩
def preW (ch:Ch)(m i:Nat):List (List Int):=wJ (((chAt ch m).take i).map fun c=>(c.1,wk ch (m|||c.2)))
theorem jKS {ch:Ch}{m i:Nat}{c:Int×Nat}(h:(chAt ch m)[i]?=some c):preW ch m (i+1)=preW ch m i++(wk ch (m|||c.2)).map fun x=>if c.1<0 then x else c.1::x:=by
 unfold preW
 rw[bq,h,aS,jFQ]
 congr 1
 unfold wJ
 exact fz _ _
theorem jN2 {ch:Ch}{m:Nat}(o:ChOk ch)(h:m<2 ^ ch.length)(hn:m≠fullN ch):preW ch m (chAt ch m).length=wk ch m:=by
 unfold preW
 rw[bI,jAZ o h hn]
def ifOf:Stmt->List Stmt
 | .If _ b _ _=>b
 | _=> []
structure LI where
 a:Addr
 c:Addr
 b:Addr
 w:Int
 ms:List Int
 pcs:List (List Int×Int)
 g:Good 16 32 w ms pcs
abbrev LI.ch (i:LI):Ch:=chs i.w.toNat i.ms i.pcs
abbrev yT:Stmt:=(jD y9).getD 0 (.Pass ⟨0,0,0,0⟩)
abbrev pLBeh:Pos:=match yT with
 | .FunctionDef _ _ _ _ _ _ _ _ _ p=>p
 | _=>⟨0,0,0,0⟩
abbrev qLB:Str:= "lightest.<locals>.lightest_behind"
abbrev nLBeh:List Str:=["behind","box","best","number","found","weight"]
theorem scLBeh:NScope nLBeh ["behind"] ["box"] (j7 yT):=⟨rfl,rfl,rfl,by decide+kernel,rfl,by decide+kernel,by decide+kernel,fun x h=>by
  have hl:∀ y∈(j7 yT).names,y.2= .free->y.1= "box" :=by decide+kernel
  rw[aq]
  exact hl _ (cm h) rfl,by decide+kernel⟩
def spLB:List V->Sp:=fun fv vs H Q E=>∃ i:LI,fv=[.ref i.b]/\BoxAt H i.b i.w i.ms i.pcs/\jE8 i.ch (RLt i.pcs i.ch) vs H Q E
section
variable {P:Program}{w:World}{K:W.Frag}{mg:Str->Option Value}{base:Heap}
variable {f fG fC a c c0 tb:Addr}{fdG fdC:FuncData}{cd:Value}{cl:List (Str×Addr)}{A:Around}{outer:List Env}{s:Shared}{H0:Hp}{E:XK}
def lbInA (T:Txt mg): { t:TS // JSs (cxN P w K mg base nLBeh qLB (j7 yT) f cd cl A outer s H0) ((ifOf ((jDO ((jD yT).getD 1 (.Pass ⟨0,0,0,0⟩))).getD 0 (.Pass ⟨0,0,0,0⟩))).drop 1) t} :=
 have nd:=scLBeh.nd
 ⟨_,(jF (yI (jt_w (jw_or (jP jEH (jv 2 rfl (yU (by decide+kernel))) (yZ) (jN _)) (jIV (jP op_lt (jv 5 rfl (yU (by decide+kernel))) (jU jR (jv 2 rfl (yU (by decide+kernel))) (je_int) jG) (jN _))))) (jF (jO (i:=2) nd rfl (loc_n (by decide+kernel)) (kD (j4 (jv 5 rfl (yU (by decide+kernel))) (j4 (jLU (jP op_ge (jv 3 rfl (yU (by decide+kernel))) (je_int) (jN _)) (kN jDI (kD (j4 (jv 3 rfl (yU (by decide+kernel))) j9 j6)) (jU jR (jv 4 rfl (yU (by decide+kernel))) (je_int) jG)) (jU jR (jv 4 rfl (yU (by decide+kernel))) (je_int) jG)) j9 jRH) j6)) jKE)) kJ))⟩
def jQI (T:Txt mg): { t:TS // JSs (cxN P w K mg base nLBeh qLB (j7 yT) f cd cl A outer s H0) (jDO ((jD yT).getD 1 (.Pass ⟨0,0,0,0⟩))) t} :=
 have nd:=scLBeh.nd
 ⟨_,(jF (yI (jP jKZ (jv 4 rfl (yU (by decide+kernel))) (yZ) (jN _)) (jE (jO (i:=5) nd rfl (loc_n (by decide+kernel)) (kN kY (jU jR (jv 4 rfl (yU (by decide+kernel))) (je_int) jG) (jLU (jP op_ge (jv 3 rfl (yU (by decide+kernel))) (je_int) (jN _)) (jU jR (jU jR (jU jR (jv 1 rfl (jR4 (by decide+kernel))) (je_int) jG) (jv 3 rfl (yU (by decide+kernel))) jH6) (je_int) jG) (je_int))) jDD) (lbInA T).2) kJ))⟩
def lbehA (T:Txt mg): { t:TS // JSs (cxN P w K mg base nLBeh qLB (j7 yT) f cd cl A outer s H0) (jD yT) t} :=
 have nd:=scLBeh.nd
 ⟨_,(jE (jO (i:=2) nd rfl (loc_n (by decide+kernel)) (yZ) jI7) (jE (jEJ dr rfl (jAV (jv 0 rfl (yU (by decide+kernel)))) (jNN (i:=3) (j:=4) nd rfl rfl (by decide+kernel) (by decide+kernel)) (jQI T).2 jCL) (jF (jW (jv 2 rfl (yU (by decide+kernel)))))))⟩
theorem lb_in (T:Txt mg){D:Ends}{H:Hp}{l b pq pr:Addr}{ve:V}{c:Int}{pcs:List (List Int×Int)}{y:List Int}{ob:Option (List Int)}(hpq:H pq=some (.tup [.int (wt pcs y), .ref pr]))(hpr:H pr=some (.tup (y.map V.int)))(yl:y.length<=16)(hve:LtAt pcs H ve ob)
  (nx:∀ H' ve',Ext H H'->LtAt pcs H' ve' (qF pcs ob (some (if c<0 then y else c::y)))->D.nx [some (.ref l),some (.ref b),some ve',some (.int c),some (.ref pq),some (.int (wt pcs (if c<0 then y else c::y)))] H'):
  (lbInA (P:=P) (w:=w) (K:=K) (mg:=mg) (base:=base) (f:=f) (cd:=cd) (cl:=cl) (A:=A) (outer:=outer) (s:=s) (H0:=H0) T).1 D [some (.ref l),some (.ref b),some ve,some (.int c),some (.ref pq),some (.int (wt pcs (if c<0 then y else c::y)))] H:=by
 refine⟨_,rfl,rfl,_,rfl,?_⟩
 rcases ob with _ | z
 case' none=>
  have hve:ve= .non:=hve
  subst hve
  have ej:qF pcs none (some (if c<0 then y else c::y))=some (if c<0 then y else c::y):=rfl
  refine iteT (iteT ?_)
 case' some=>
  obtain⟨zq,zr,rfl,hz1,hz2⟩:=hve
  refine iteF ⟨_,rfl,_,rfl,zq,_,0,_,rfl,rfl,SqT.of hz1,rfl,_,_,rfl,rfl,_,rfl,?_⟩
  by_cases hlt:wt pcs (if c<0 then y else c::y)<wt pcs z
  case' neg=>
   rw[aP hlt]
   exact iteF (nx H (.ref zq) (Ext.refl _) (by
    show LtAt pcs H (.ref zq) (if _ then _ else _)
    rw[ah hlt]
    exact⟨zq,zr,rfl,hz1,hz2⟩))
  rw[aw hlt]
  have ej:qF pcs (some z) (some (if c<0 then y else c::y))=some (if c<0 then y else c::y):=aj hlt
  refine iteT ?_
 all_goals
  rw[ej] at nx
  refine⟨_,rfl,_,rfl,_,_,rfl,rfl,_,rfl,?_⟩
  by_cases hc:c<0
  ·have h0:decide ((0:Int)<=c)=false:=aP (by omega)
   rw[h0]
   refine iteF ⟨_,rfl,pq,_,1,_,rfl,rfl,SqT.of hpq,rfl,by show (2:Nat)<=_; decide,fun r4 H4 d4 e4=>nx H4 (.ref r4) e4 ⟨r4,pr,rfl,d4,?_⟩⟩
   rw[aj hc]
   exact e4 _ _ hpr
  ·have h0:decide ((0:Int)<=c)=true:=aw (by omega)
   rw[h0]
   refine iteT ⟨_,rfl,by show (1:Nat)<=_; decide,fun r2 H2 d2 e2=>⟨_,rfl,pq,_,1,_,rfl,rfl,SqT.of (e2 _ _ hpq),rfl,r2,pr,_,_,rfl,rfl,d2,e2 _ _ hpr,by rw[af,aL]; show 1+_<=_; omega,fun r3 H3 d3 e3=>⟨by show (2:Nat)<=_; decide,fun r4 H4 d4 e4=>nx H4 (.ref r4) ((e2.trans e3).trans e4) ⟨r4,r3,rfl,d4,?_⟩⟩⟩⟩
   rw[ah hc]
   exact e4 _ _ d3
theorem jQ6 (T:Txt mg):FnN P w K mg base 1 "lightest_behind" qLB (jJ yT) (jD yT) (j7 yT) ["behind"] ["box"] spLB:=by
 refine jSX scLBeh (fun fv vs H Q E h=>?_) (fun cl doc pm c ctv us hl=>?_) fun A outer s H a c cl vs fv Q E hr h=>?_
 ·obtain⟨i,rfl,_,_,_,_,rfl,_⟩:=h
  rfl
 ·match us,hl with
  | [_],_=>rfl
 ·obtain⟨⟨_,_,b,w,ms,pcs,g⟩,rfl,hB,l,us,m,rfl,hl,hm,hf,av,q⟩:=h
  refine⟨_,(lbehA T).2.h,?_⟩
  have o:ChOk (chs w.toNat ms pcs):=yQ g
  obtain⟨qm,qp,ps,b1,b2,b3,b4⟩:=id hB.ex
  have gpl:=g.pl
  refine⟨_,rfl,l,rfl,⟨_,SqL.of hl⟩,jFG (xs:=us) (fun i σ H'=>Ext H H'/\∃ ve:V,(∃ v3 v4 v5,σ=[some (.ref l),some (.ref b),some ve,v3,v4,v5])/\LtAt pcs H' ve (minW pcs (preW (chs w.toNat ms pcs) m i))) ⟨Ext.refl _, .non,⟨_,_,_,rfl⟩,rfl⟩ (fun i σ H' _ ⟨e,_⟩=>SqL.of (e _ _ hl)) ?_ ?_⟩
  ·rintro i x σ H' hx ⟨e,ve,⟨v3,v4,v5,rfl⟩,hve⟩
   obtain⟨c,hc,p,u,rfl,hp,hR⟩:=av.get' hx
   obtain⟨m1,m2,m3,m4,m5⟩:=o.mem hm hf (aI hc)
   have hsu:=jKS hc
   have hR:LtAt pcs H' u (minW pcs (wk (chs w.toNat ms pcs) (m|||c.2))):=LtAt.mono e.tups hR
   have mup:=(o.up hm hf (aI hc)).2
   have hmin:minW pcs (preW (chs w.toNat ms pcs) m (i+1))=qF pcs (minW pcs (preW (chs w.toNat ms pcs) m i)) ((minW pcs (wk (chs w.toNat ms pcs) (m|||c.2))).map fun x=>if c.1<0 then x else c.1::x):=by
    rw[hsu,jDK,jIN]
   refine⟨p,_,rfl,SqT.of (e _ _ hp),rfl,_,_,rfl,_,_,rfl,rfl,?_⟩
   refine⟨_,rfl,rfl,_,rfl,?_⟩
   cases hW:minW pcs (wk (chs w.toNat ms pcs) (m|||c.2)) with
   | none=>
    rw[hW] at hR hmin
    have hR:u= .non:=hR
    subst hR
    refine iteF ⟨e,ve,⟨_,_,_,rfl⟩,?_⟩
    rw[hmin]
    revert hve
    cases minW pcs (preW (chs w.toNat ms pcs) m i) with
    | none=>exact id
    | some z=>exact id
   | some y=>
    rw[hW] at hR hmin
    obtain⟨pq,pr,rfl,hpq,hpr⟩:=hR
    obtain⟨yb,yl⟩:=jI0 o _ mup y (jC3 hW).1
    have w16:=o.w
    refine iteT ⟨_,rfl,pq,_,0,_,rfl,rfl,SqT.of hpq,rfl,_,rfl,_,_,rfl,rfl,_,rfl,?_⟩
    have y16:y.length<=16:=by omega
    refine ite2 (fun h0=>?_) (fun h0=>?_)
    ·have h0:0<=c.1:=aK h0
     have hlt:=jT1 hm hf (aI hc)
     obtain⟨pv,hpv,pa,pw,rfl,ha1,ha2⟩:=b4.get (k:=c.1.toNat) (by omega)
     have at1:atI ps c.1=some (.ref pa):=by
      have:=jBR hpv
      rwa [show ((c.1.toNat:Nat):Int)=c.1 by omega] at this
     refine⟨_,rfl,b,_,2,_,rfl,rfl,SqT.of (e _ _ b1),rfl,_,rfl,qp,_,c.1,_,rfl,rfl,SqT.of (e _ _ b3),at1,pa,_,1,_,rfl,rfl,SqT.of (e _ _ ha1),rfl,_,_,rfl,rfl,?_⟩
     have ew:wt pcs y+(pcs.getD c.1.toNat ([],0)).2=wt pcs (if c.1<0 then y else c.1::y):=by
      rw[ah (by omega),jEQ]
      unfold wgt
      omega
     show kZ 5 (V.int (wt pcs y+(pcs.getD c.1.toNat ([],0)).2)) _ _ _
     rw[ew]
     exact lb_in T hpq hpr y16 hve fun H2 ve' e2 h2=>⟨e.trans e2,ve',⟨_,_,_,rfl⟩,by rw[hmin]; exact h2⟩
    ·have h0:c.1<0:=Int.not_le.mp fun z=>h0 (aw z)
     refine⟨_,_,rfl,rfl,?_⟩
     have ew:wt pcs y+0=wt pcs (if c.1<0 then y else c.1::y):=by
      rw[aj h0]
      omega
     show kZ 5 (V.int (wt pcs y+0)) _ _ _
     rw[ew]
     exact lb_in T hpq hpr y16 hve fun H2 ve' e2 h2=>⟨e.trans e2,ve',⟨_,_,_,rfl⟩,by rw[hmin]; exact h2⟩
  ·rintro σ H' ⟨e,ve,⟨v3,v4,v5,rfl⟩,hve⟩
   rw[av.len,jN2 o hm hf] at hve
   exact⟨_,rfl,q ve H' hve e⟩
def zhL (cl:List (Str×Addr))(i:LI):Hp->Prop:=fun H=>(H i.a=some (.ext (nfP "lightest_behind" qLB (jJ yT) (jD yT) (j7 yT) cl i.a i.c))/\H i.c=some (.ext (ncP qLB i.c)))/\BoxAt H i.b i.w i.ms i.pcs
theorem zhL.ok (cl:List (Str×Addr))(i:LI):HpOk (zhL cl i):=⟨fun H H' D kvs hD k h=>⟨⟨k _ _ h.1.1 fun z=>(by rw[<- z,h.1.1] at hD; cases hD),k _ _ h.1.2 fun z=>(by rw[<- z,h.1.2] at hD; cases hD)⟩,h.2.mono fun b xs hb=>k _ _ hb fun z=>(by rw[z,hD] at hb; cases hb)⟩,fun H H' e h=>⟨⟨e _ _ h.1.1,e _ _ h.1.2⟩,h.2.mono e.tups⟩⟩
theorem jHA (T:Txt mg)(cl:List (Str×Addr))(i:LI):Callee P w K mg base (ZC cl ["box"] [.ref i.b]) (zhL cl i) 1 i.a (jE8 i.ch (RLt i.pcs i.ch)):=
 Callee.imp2 (Callee.ofN (jQ6 T)) (fun H h=>h.1) fun vs H Q E zh q=>⟨i,rfl,zh.2,q⟩
abbrev jIL:List Str:=["box","lightest_behind","told"]
theorem scLight:FnScope jIL ["box"] (j7 y9):=⟨rfl,rfl,rfl,by decide+kernel,rfl,by decide+kernel,by decide+kernel⟩
abbrev TabL (H:Hp)(tb:Addr):Prop:=TabOk H tb pLBeh qLB
def jKG (cl:List (Str×Addr))(i:LI):Sp:=jKH i.a (zhL cl i) i.ch (RLt i.pcs i.ch)
theorem fsLB:∀ x∈(["box"]:List Str),(j7 yT).names.lookup x=some .free:=by decide+kernel
theorem jSU:FsAt (XOf jIL "lightest" y9 P w K mg base f (.ref c0) A outer s H0 E) ["box"] [0]:=⟨rfl,fun k x h=>by
 match k,h with
 | 0,h=>
  cases h
  exact⟨0,rfl,rfl, .inl (show (j7 y9).names.lookup (("box" :String):Str)=some .cell by decide+kernel)⟩
 | k+1,h=>cases h⟩
def jAD (tb:Addr):Sp:=fun vs H Q _=>∃ (b:Addr) (w:Int) (ms:List Int) (pcs:List (List Int×Int)),vs=[.ref b]/\BoxAt H b w ms pcs/\Good 16 32 w ms pcs/\TabL H tb/\
 (minW pcs (wk (chs w.toNat ms pcs) 0)=none->∀ H',ExtT tb H H'->TabL H' tb->Q .non H')/\∀ x,minW pcs (wk (chs w.toNat ms pcs) 0)=some x->∀ r q H',H' r=some (.tup [.int (wt pcs x), .ref q])->H' q=some (.tup ((srt x).map V.int))->ExtT tb H H'->TabL H' tb->Q (.ref r) H'
def jSF (T:Txt mg)(CH:PySem.W.CodeHd base c0 tb)(BM:BltAt base mg)(CC:Can P w K mg base "choices_of" 2 fC fdC ["box"] jAJ)(FG:∀ cl i,FnZ P w K mg base CX0 (ZC cl ["box"] [.ref i.b]) 4 fG fdG ["choices","at_end","join"] (jKG cl i))(MG:mg "gathered" =some (.ref fG))(KG:keepIn K (.ref fG)=true)(BG:Binds K fdG ["choices","at_end","join"] [])(hr:Room 4 (XOf jIL "lightest" y9 P w K mg base f (.ref c0) A outer s H0 E).A): { t:TS // JSs (XOf jIL "lightest" y9 P w K mg base f (.ref c0) A outer s H0 E) (jD y9) t} :=
 have nd:=scLight.nd
 ⟨_,(jE (jSM (j:=1) nd rfl lL rfl CH BM (kL (psc:=j7 y9) (by decide+kernel)) rfl rfl) (jE (jO (i:=2) nd rfl lL (jHJ (hu_of hr) (jNR (G:=fun (i:LI) σ=>jIB σ [0] [.ref i.b]) (FG _) hr gD MG KG BG (fun i pins s σ H I q=>⟨I.clOk (kL (psc:=j7 y9) (by decide+kernel)),I.fvOk (kL (psc:=j7 y9) (by decide+kernel)) fsLB jSU q⟩) (j4 (CC.je (hr.mono (by decide)) gD (j4 (jv 0 rfl vC) j9 j6) j6) (j4 (kD (j4 (je_int) (j4 (kD j9) j9 yP) jL)) (j4 (jv 1 rfl vL) j9 j6) yP) jI) jI) je_int jG) jI6) (jE (yI (jP jEH (jv 2 rfl vL) (yZ) (jN _)) (jF (jW (yZ))) kJ) (jF (jW (kD (j4 (jU jR (jv 2 rfl vL) (je_int) jG) (j4 (kO jA0 gD T.tuple (by decide+kernel) (j4 (jH jCW gD T.sorted (by decide+kernel) (j4 (jU jR (jv 2 rfl vL) (je_int) jG) j9 jZ) jZ) j9 jI) jI) j9 jI) jZ)))))))⟩
set_option maxHeartbeats 4000000 in
theorem jNA {fd:FuncData}(F:FunC K "lightest" "lightest" y9 f fd c0)(T:Txt mg)(CH:PySem.W.CodeHd base c0 tb)(BM:BltAt base mg)(CC:Can P w K mg base "choices_of" 2 fC fdC ["box"] jAJ)(FG:∀ cl i,FnZ P w K mg base CX0 (ZC cl ["box"] [.ref i.b]) 4 fG fdG ["choices","at_end","join"] (jKG cl i))(MG:mg "gathered" =some (.ref fG))(KG:keepIn K (.ref fG)=true)(BG:Binds K fdG ["choices","at_end","join"] []):FnOk P w K mg base CX0 5 f fd ["box"] (jAD tb):=by
 refine F.ok scLight (fun vs H Q E h=>?_) (fun A outer s H vs Q E hr h=>?_)
 ·obtain⟨_,_,_,_,rfl,_⟩:=h
  rfl
 ·obtain⟨b,wi,ms,pcs,rfl,hB,g,tab,q0,q1⟩:=h
  refine⟨_,(jSF T CH BM CC FG MG KG BG hr).2.h,?_⟩
  refine⟨tab,fun a c H1 k1 k2 k3 e1 na=>?_⟩
  have tu1:Tups H H1:=fun b xs h=>e1.at tab h
  have hB1:=hB.mono tu1
  have tab1:TabL H1 tb:= .inr ⟨c,k3,k2⟩
  refine⟨_,rfl,b,wi,ms,pcs,rfl,hB1,g,fun L H2 hL2 e2=>?_⟩
  refine⟨by show (0:Nat)<=_; decide,fun t0 H3 d3 e3=>⟨by show (2:Nat)<=_; decide,fun t1 H4 d4 e4=>?_⟩⟩
  have E24:=(e2.trans e3).trans e4
  refine⟨_,rfl,⟨a,c,b,wi,ms,pcs,g⟩,rfl,L, .ref t1,rfl,hL2.ext (e3.trans e4),?_,⟨⟨E24 _ _ k1,E24 _ _ k2⟩,hB1.mono E24.tups⟩,fun r ns H5 got srt' mt e5 n5=>?_⟩
  ·show LtAt pcs H4 (.ref t1) (minW pcs (wk _ (fullN _)))
   rw[jB0]
   exact⟨t1,t0,rfl,d4,e4 _ _ d3⟩
  obtain⟨u,dg,ru⟩:=got0 got srt' mt
  refine⟨r,u,rfl,dg,?_⟩
  have E25:=E24.trans e5
  have x5:ExtT tb H H5:=fun b o hb hn=>E25 _ _ (e1 b o hb hn)
  have tab5:TabL H5 tb:=tab1.ext E25
  refine⟨_,rfl,rfl,_,rfl,?_⟩
  have ru:LtAt pcs H5 u (minW pcs (wk (chs wi.toNat ms pcs) 0)):=ru
  cases hW:minW pcs (wk (chs wi.toNat ms pcs) 0) with
  | none=>
   rw[hW] at ru
   have ru:u= .non:=ru
   subst ru
   exact iteT (q0 hW H5 x5 tab5)
  | some x=>
   rw[hW] at ru
   obtain⟨p,pr,rfl,hp,hpr⟩:=ru
   have o:ChOk (chs wi.toNat ms pcs):=yQ g
   have xl:=(jI0 o 0 (dn _) x (jC3 hW).1).2
   have w16:=o.w
   refine iteF ⟨_,rfl,p,_,0,_,rfl,rfl,SqT.of hp,rfl,_,rfl,p,_,1,_,rfl,rfl,SqT.of hp,rfl,pr,x,rfl,hpr,by omega,fun l6 ns6 hl6 sr pm=>⟨l6,_,rfl, .inl ⟨SqL.of j8,fun l7 hl7=>?_⟩⟩⟩
   have e6:Ext H5 (L2.upd H5 l6 (.lst (ns6.map V.int))):=(Ext.refl _).new hl6 _
   have e7:Ext H5 (L2.upd (L2.upd H5 l6 (.lst (ns6.map V.int))) l7 (.tup (ns6.map V.int))):=e6.new hl7 _
   have d7:(L2.upd (L2.upd H5 l6 (.lst (ns6.map V.int))) l7 (.tup (ns6.map V.int))) l7=some (.tup (ns6.map V.int)):=j8
   generalize L2.upd (L2.upd H5 l6 (.lst (ns6.map V.int))) l7 (.tup (ns6.map V.int))=H7 at e7 d7
   refine⟨by show (2:Nat)<=_; decide,fun r8 H8 d8 e8=>q1 x hW r8 l7 H8 d8 (by rw[e8 _ _ d7,jFU sr pm]) (fun b o hb hn=>e8 _ _ (e7 _ _ (x5 b o hb hn))) ((tab5.ext e7).ext e8)⟩
end
theorem jHD {H:Hp} :∀ {us:List V}{ws:List (List Int)},LsAt H us ws->TsAt H (ws.map fun x=>Tr.tup (x.map Tr.int)) us
 | [],[],_=>rfl
 | v::us,x::ws,⟨⟨a,e,h⟩,r⟩=>⟨v,us,rfl,⟨a,_,e,h,jIZ x⟩,jHD r⟩
theorem jLE:∀ (ws:List (List Int)),deps (ws.map fun x=>Tr.tup (x.map Tr.int))<=100
 | []=>by show (0:Nat)<=100; decide
 | x::ws=>by
  refine Nat.max_le.mpr ⟨?_,jLE ws⟩
  show deps (x.map Tr.int)+1<=100
  rw[jCB]
  decide
structure TT where
 a:Addr
 p:Pos
 q:Str
def ads (L:List TT):List Addr:=L.map TT.a
structure TbS (L:List TT)(H:Hp):Prop where
 nd:(ads L).Nodup
 ok:∀ t∈L,TabOk H t.a t.p t.q
def ExS (S:List Addr)(H H':Hp):Prop:=∀ b o,H b=some o->b∉S->H' b=some o
section
variable {S S':List Addr}{L:List TT}{H H' H'':Hp}
theorem ExS.trans (a:ExS S H H')(b:ExS S H' H''):ExS S H H'':=fun c o h n=>b c o (a c o h n) n
theorem ExS.ofT {T:Addr}(e:ExtT T H H')(h:T∈S):ExS S H H':=fun b o z n=>e b o z fun y=>n (y ▸ h)
theorem TbS.ext (t:TbS L H)(e:Ext H H'):TbS L H':=⟨t.nd,fun x hx=>(t.ok x hx).ext e⟩
theorem TbS.off (t:TbS L H){b:Addr}{o:HO}(h:H b=some o)(ho:∀ ps,o≠ .tbl ps:=by intro _ z; cases z):b∉ads L:=fun z=>by
 obtain⟨x,hx,e⟩:=aW.mp z
 exact(t.ok x hx).ne h ho e.symm
theorem TbS.at (t:TbS L H)(e:ExS (ads L) H H'){b:Addr}{o:HO}(h:H b=some o)(ho:∀ ps,o≠ .tbl ps:=by intro _ z; cases z):H' b=some o:=e b o h (t.off h ho)
theorem TbS.tups (t:TbS L H)(e:ExS (ads L) H H'):Tups H H':=fun b xs h=>t.at e h
theorem TbS.set (t:TbS L H)(hs:∀ s∈S,s∈ads L)(e:ExS S H H')(k:∀ x∈L,x.a∈S->TabOk H' x.a x.p x.q):TbS L H':=⟨t.nd,fun x hx=>by
 by_cases z:x.a∈S
 ·exact k x hx z
 ·rcases t.ok x hx with h | ⟨c,h,h2⟩
  ·exact .inl (e _ _ h z)
  ·exact .inr ⟨c,e _ _ h z,e _ _ h2 fun y=>t.off h2 (by intro _ z; cases z) (hs c y)⟩⟩
theorem TbS.setT (t:TbS L H){x:TT}(hx:x∈L)(e:ExtT x.a H H')(k:TabOk H' x.a x.p x.q):TbS L H':=t.set (S:=[x.a]) (fun s hs=>by rw[aq.mp hs]; exact cq hx) (ExS.ofT e (aq.mpr rfl)) fun y hy hm=>by
 have e1:=aq.mp hm
 have:y=x:=by
  have nd:=t.nd
  obtain⟨i,hi⟩:=bv hy
  obtain⟨j,hj⟩:=bv hx
  have hi':(ads L)[i]?=some x.a:=by unfold ads; rw[bb,hi,<- e1]; rfl
  have hj':(ads L)[j]?=some x.a:=by unfold ads; rw[bb,hj]; rfl
  have li:i<(ads L).length:=(ar.mp hi').1
  have ij:=(fk li nd).mp (hi'.trans hj'.symm)
  rw[ij,hj] at hi
  exact(bh hi).symm
 rw[this]
 exact k
end
section
variable {P:Program}{w:World}{K:W.Frag}{mg:Str->Option Value}{base:Heap}
variable {f fW:Addr}{fdW:FuncData}{cdv:Value}{A:Around}{outer:List Env}{s:Shared}{H0:Hp}{E:XK}
abbrev jF4:List Str:=["e","own","kinds"]
theorem scOthers:FnScope jF4 ["e","own"] (j7 yL):=⟨rfl,rfl,rfl,by decide+kernel,rfl,by decide+kernel,by decide+kernel⟩
abbrev jD1:List Str:=["Held","NoCovering","NoDeed","NoOrder","NoPiece","NoRow","NoText","NoThing","NoWeight","TooMany"]
structure Kinds (K:W.Frag)(mg:Str->Option Value)(C:Addr)(cl:Nat->Addr)(ks:Nat->Bool):Prop where
 ei:ExcIs K C
 ml:∀ i x,jD1[i]?=some x->mg x=some (.ref (cl i))
 is_:∀ i,i<10->kitOne K (.ref C) (.ref (cl i))=some (ks i)
 ve:kitOne K (.ref C) (.type "ValueError")=some true
def oneOf (own:Int)(n:Nat):List Tr:=(List.range n).map fun (i:Nat)=>Tr.bl (decide ((i:Int)=own))
def jCZ (C:Addr)(ks:Nat->Bool):Addr->Sp:=fun x vs H Q _=>∃ own:Int,vs=[.ref x, .int own]/\H x=some (.ext (excP x C))/\∀ H',Ext H H'->Q (.bl (eqTs [.bl (ks 0), .bl (ks 1), .bl (ks 2), .bl (ks 3), .bl (ks 4), .bl (ks 5), .bl (ks 6), .bl (ks 7), .bl (ks 8), .bl (ks 9), .bl false] (oneOf own 11))) H'
def jPX {C x:Addr}{cl:Nat->Addr}(T:Txt mg)(EI:ExcIs K C)(ML:∀ i x,jD1[i]?=some x->mg x=some (.ref (cl i)))(hr:RoomS 0 (cxS P w K mg base jF4 "_law_others" (j7 yL) f cdv A outer s H0 E).A x): { t:TS // JSs (cxS P w K mg base jF4 "_law_others" (j7 yL) f cdv A outer s H0 E) (jD yL) t} :=
 have nd:=scOthers.nd
 ⟨_,(jE (jO (i:=2) nd rfl (loc_s (by decide+kernel)) (jAG (j4 (jH (jX EI) (gl_s (by decide+kernel)) T.isinstance (by decide+kernel) (j4 (jv 0 rfl (qB (by decide+kernel))) (j4 (yM (v:= .ref (cl 0)) (gl_s (by decide+kernel)) (ML 0 _ rfl) rfl) j9 j6) j6) j6) (j4 (jH (jX EI) (gl_s (by decide+kernel)) T.isinstance (by decide+kernel) (j4 (jv 0 rfl (qB (by decide+kernel))) (j4 (yM (v:= .ref (cl 1)) (gl_s (by decide+kernel)) (ML 1 _ rfl) rfl) j9 j6) j6) j6) (j4 (jH (jX EI) (gl_s (by decide+kernel)) T.isinstance (by decide+kernel) (j4 (jv 0 rfl (qB (by decide+kernel))) (j4 (yM (v:= .ref (cl 2)) (gl_s (by decide+kernel)) (ML 2 _ rfl) rfl) j9 j6) j6) j6) (j4 (jH (jX EI) (gl_s (by decide+kernel)) T.isinstance (by decide+kernel) (j4 (jv 0 rfl (qB (by decide+kernel))) (j4 (yM (v:= .ref (cl 3)) (gl_s (by decide+kernel)) (ML 3 _ rfl) rfl) j9 j6) j6) j6) j9 jI) jI) jI) jI)) jFS)
   (jE (jO (i:=2) nd rfl (loc_s (by decide+kernel)) (kN jF2 (jv 2 rfl (qB (by decide+kernel))) (jAG (j4 (jH (jX EI) (gl_s (by decide+kernel)) T.isinstance (by decide+kernel) (j4 (jv 0 rfl (qB (by decide+kernel))) (j4 (yM (v:= .ref (cl 4)) (gl_s (by decide+kernel)) (ML 4 _ rfl) rfl) j9 j6) j6) j6) (j4 (jH (jX EI) (gl_s (by decide+kernel)) T.isinstance (by decide+kernel) (j4 (jv 0 rfl (qB (by decide+kernel))) (j4 (yM (v:= .ref (cl 5)) (gl_s (by decide+kernel)) (ML 5 _ rfl) rfl) j9 j6) j6) j6) (j4 (jH (jX EI) (gl_s (by decide+kernel)) T.isinstance (by decide+kernel) (j4 (jv 0 rfl (qB (by decide+kernel))) (j4 (yM (v:= .ref (cl 6)) (gl_s (by decide+kernel)) (ML 6 _ rfl) rfl) j9 j6) j6) j6) (j4 (jH (jX EI) (gl_s (by decide+kernel)) T.isinstance (by decide+kernel) (j4 (jv 0 rfl (qB (by decide+kernel))) (j4 (yM (v:= .ref (cl 7)) (gl_s (by decide+kernel)) (ML 7 _ rfl) rfl) j9 j6) j6) j6) j9 jI) jI) jI) jI))) jDD)
   (jE (jO (i:=2) nd rfl (loc_s (by decide+kernel)) (kN jF2 (jv 2 rfl (qB (by decide+kernel))) (jAG (j4 (jH (jX EI) (gl_s (by decide+kernel)) T.isinstance (by decide+kernel) (j4 (jv 0 rfl (qB (by decide+kernel))) (j4 (yM (v:= .ref (cl 8)) (gl_s (by decide+kernel)) (ML 8 _ rfl) rfl) j9 j6) j6) j6) (j4 (jH (jX EI) (gl_s (by decide+kernel)) T.isinstance (by decide+kernel) (j4 (jv 0 rfl (qB (by decide+kernel))) (j4 (yM (v:= .ref (cl 9)) (gl_s (by decide+kernel)) (ML 9 _ rfl) rfl) j9 j6) j6) j6) (j4 (jOR (jH (jX EI) (gl_s (by decide+kernel)) T.isinstance (by decide+kernel) (j4 (jv 0 rfl (qB (by decide+kernel))) (j4 (jDS (v:= .ty "ValueError") (gl_s (by decide+kernel)) T.ValueError (by decide+kernel) rfl) j9 j6) j6) j6)) j9 se_un) jI) jI))) jDD)
   (jF (jW (jAH (jL1 hr.units101) (jv 2 rfl (qB (by decide+kernel))) (jNQ (m:=[none,some 1]) (Nc:=["place","own"]) hr.hd (jLR (gl_s (by decide+kernel)) T.range (j4 (je_int) j9 jL) jL) rfl (by decide+kernel) (by decide+kernel) (kL (psc:=j7 yL) (by decide+kernel)) (jS (N:=jF4) rfl rfl (by decide+kernel)) (fun cl C fp s H=>jY (i:=0) (show (["place","own"]:List Str).Nodup by decide+kernel) rfl (yY (by decide+kernel))) (fun cl C fp s H=>yB) (fun cl C fp s H=>(jAH qI (jv 0 rfl (kX (by decide+kernel))) (jv 1 rfl (jBT (by decide+kernel))) (jN _))) yG) (jN _)))))))⟩
end
end Eo
namespace Eo
open PySem L2
theorem jMN {H:Hp} :∀ bs:List Bool,TsAt H (bs.map Tr.bl) (bs.map V.bl)
 | []=>by rw[eI,eI,TsAt]
 | b::r=>by
  rw[bg,bg,TsAt]
  exact⟨_,_,rfl,by rw[TAt],jMN r⟩
theorem jJ9:∀ bs:List Bool,deps (bs.map Tr.bl)=0
 | []=>by rw[eI,deps]
 | b::r=>by
  rw[bg,deps,jJ9 r,dep]
  ·rfl
  ·intro _ z; cases z
  ·intro _ z; cases z
section
variable {P:Program}{w:World}{K:W.Frag}{mg:Str->Option Value}{base:Heap}
variable {f C:Addr}{cl:Nat->Addr}{ks:Nat->Bool}
theorem jL4 {fd:FuncData}(F:Fun K "_law_others" "_law_others" yL f fd)(T:Txt mg)(k:Kinds K mg C cl ks):FnS P w K mg base 1 f fd ["e","own"] (jCZ C ks):=by
 refine jSW F scOthers (fun x vs H Q E h=>?_) (fun cdv A outer s H vs Q E x hr h=>?_)
 ·obtain⟨_,rfl,_⟩:=h
  rfl
 ·obtain⟨own,rfl,hx,q⟩:=h
  refine⟨_,(jPX T k.ei k.ml hr).2.h,?_⟩
  have ki:=k.is_
  have rr:∀ {a:Addr}(v:Value),RelV (.ref a) v->v= .ref a:=fun v h=>h
  refine⟨_,rfl,x,_,_,_,rfl,hx,rr,ki 0 (by decide),_,rfl,x,_,_,_,rfl,hx,rr,ki 1 (by decide),_,rfl,x,_,_,_,rfl,hx,rr,ki 2 (by decide),_,rfl,x,_,_,_,rfl,hx,rr,ki 3 (by decide),by show (4:Nat)<=_; decide,fun l1 H1 d1 e1 _=>?_⟩
  have hx:=e1 _ _ hx
  refine⟨_,rfl,_,rfl,x,_,_,_,rfl,hx,rr,ki 4 (by decide),_,rfl,x,_,_,_,rfl,hx,rr,ki 5 (by decide),_,rfl,x,_,_,_,rfl,hx,rr,ki 6 (by decide),_,rfl,x,_,_,_,rfl,hx,rr,ki 7 (by decide),by show (4:Nat)<=_; decide,fun l2 H2 d2 e2 _=>?_⟩
  refine⟨l1,l2,_,_,rfl,rfl,e2 _ _ d1,d2,by show (8:Nat)<=_; decide,fun l3 H3 d3 e3 _=>?_⟩
  have hx:=e3 _ _ (e2 _ _ hx)
  refine⟨_,rfl,_,rfl,x,_,_,_,rfl,hx,rr,ki 8 (by decide),_,rfl,x,_,_,_,rfl,hx,rr,ki 9 (by decide),_,rfl,x,_,_,_,rfl,hx,(fun _ h=>h),k.ve,_,rfl,by show (3:Nat)<=_; decide,fun l4 H4 d4 e4 _=>?_⟩
  refine⟨l3,l4,_,_,rfl,rfl,e4 _ _ d3,d4,by show (11:Nat)<=_; decide,fun l5 H5 d5 e5 _=>?_⟩
  have hx:=e5 _ _ (e4 _ _ hx)
  have e05:Ext H H5:=(((e1.trans e2).trans e3).trans e4).trans e5
  refine⟨_,rfl,11,rfl,by decide,by decide,jMF (n:=11) (by decide) (fun D j σ' H' zs=>(∃ v,σ'=[v,some (.int own)])/\Ext H5 H'/\H' D=some (.lst zs)/\H5 D=none/\zs=((List.range j).map fun (i:Nat)=>decide ((i:Int)=own)).map V.bl) ?_ ?_ ?_ ?_⟩
  ·intro D hD
   exact⟨⟨_,rfl⟩,(Ext.refl _).new hD _,j8,hD,rfl⟩
  ·rintro D j σ' H' zs hD hj ⟨_,e,h2,_,rfl⟩
   refine⟨⟨C,e _ _ hx⟩,h2,?_⟩
   rw[af,af,di]
   exact ak _
  ·rintro D j σ' H' zs hD hj ⟨⟨v,rfl⟩,e,h2,hn,rfl⟩
   dsimp only [kZ,yR]
   rw[aj rfl]
   refine⟨_,rfl,_,rfl,rfl,h2,⟨_,rfl⟩,e.updNew hn _,j8,hn,?_⟩
   have ed:decide (V.int (0+(j:Int))=V.int own)=decide ((j:Int)=own):=by
    rw[fw]
    exact decide_eq_decide.mpr ⟨fun z=>V.int.inj z,fun z=>by rw[z]⟩
   rw[ed,gB,aS,aS]
   rfl
  ·rintro D σ' H' zs hD ⟨_,e,h2,hn,rfl⟩
   refine⟨_,oneOf own 11,⟨l5,_,rfl,e _ _ d5,jMN [ks 0,ks 1,ks 2,ks 3,ks 4,ks 5,ks 6,ks 7,ks 8,ks 9,false]⟩,⟨D,_,rfl,h2,?_⟩,?_,q H' (e05.trans e)⟩
   ·have:=jMN (H:=H') ((List.range 11).map fun (i:Nat)=>decide ((i:Int)=own))
    rw[cZ] at this
    exact this
   ·rw[jJ9]
    exact bo _
end
def mayP (ms:List Int):List (List Int×Int):=ms.map fun t=>([t],0)
section
variable {P:Program}{w:World}{K:W.Frag}{mg:Str->Option Value}{base:Heap}
variable {f cE:Addr}{cdv:Value}{A:Around}{outer:List Env}{s:Shared}{H0:Hp}{E:XK}{u2:Tok}
abbrev XOfX (C:Addr)(N:List Str)(q:Str)(st:Stmt)(P:Program)(w:World)(K:W.Frag)(mg:Str->Option Value)(base:Heap)(f:Addr)(cdv:Value)(A:Around)(outer:List Env)(s:Shared)(H:Hp)(E:XK):Cx:=cxOf (CXX P w C) P w K mg base N q (j7 st) f cdv A outer s H E
abbrev nAllM:List Str:=["box","pieces"]
theorem scAllM:FnScope nAllM ["box"] (j7 qL):=⟨rfl,rfl,rfl,by decide+kernel,rfl,by decide+kernel,by decide+kernel⟩
def jI9:Sp:=fun vs H Q E=>∃ (b:Addr) (w:Int) (ms:List Int) (pcs:List (List Int×Int)),vs=[.ref b]/\BoxAt H b w ms pcs/\Good 16 32 w ms pcs/\
 (pcs.length+ms.length<=32->∀ r H',BoxAt H' r w [] (pcs++mayP ms)->Ext H H'->Q (.ref r) H')/\(32<pcs.length+ms.length->∀ a H',Ext H H'->E (.ref a) (some a) H')
def allmA (T:Txt mg)(G2:mg "MOST_PIECES" =some (.int 32 u2))(EK:ExcK K cE)(MX:mg "TooMany" =some (.ref cE))(hr:Room 1 (XOfX cE nAllM "all_musts" qL P w K mg base f cdv A outer s H0 E).nox.A): { t:TS // JSs (XOfX cE nAllM "all_musts" qL P w K mg base f cdv A outer s H0 E) (jD qL) t} :=
 have nd:=scAllM.nd
 ⟨_,(jE (JS.nox (jO (i:=1) nd rfl (loc_x (by decide+kernel)) (kN jDI (jU jR (jv 0 rfl (vis_x (by decide+kernel))) (je_int) jG) (kO jA0 (gl_x (by decide+kernel)) T.tuple (by decide+kernel) (j4 (yC (m:=[none]) (Nc:=["may"]) rfl (jDQ (jU jR (jv 0 rfl (vis_x (by decide+kernel))) (je_int) jG)) rfl (by decide+kernel) (by decide+kernel) (kL (psc:=j7 qL) (by decide+kernel)) (jS (N:=nAllM) rfl rfl (by decide+kernel)) (fun cl C fp s H=>jY (i:=0) (show (["may"]:List Str).Nodup by decide+kernel) rfl (yY (by decide+kernel))) (fun cl C fp s H=>yB) (fun cl C fp s H=>(kD (j4 (kD (j4 (jv 0 rfl (kX (by decide+kernel))) j9 j6)) (j4 (je_int) j9 jL) yP))) jJ2) j9 kB) kB)) jDD)) (jE (yI (JT.nox (jP op_gt (jH jA1 (gl_x (by decide+kernel)) T.len (by decide+kernel) (j4 (jv 1 rfl (vis_x (by decide+kernel))) j9 j6) j6) (yM (v:= .int 32) (gl_x (by decide+kernel)) G2 ⟨_,rfl⟩) (jN _))) (jF (jLO rfl EK (gl_x (by decide+kernel)) MX (j4 jSP j9 jL))) kJ) (JSs.nox (jF (jW (kD (j4 (jU jR (jv 0 rfl (vis_x (by decide+kernel))) (je_int) jG) (j4 (kD j9) (j4 (jv 1 rfl (vis_x (by decide+kernel))) j9 j6) yP) jZ)))))))⟩
theorem PcsAt.append {H:Hp} :∀ {vs us:List V}{ps qs:List (List Int×Int)},PcsAt H vs ps->PcsAt H us qs->PcsAt H (vs++us) (ps++qs)
 | [],_,[],_,_,h=>h
 | _::_,_,_::_,_,h,k=>⟨h.1,PcsAt.append h.2 k⟩
 | [],_,_::_,_,h,_=>h.elim
 | _::_,_,[],_,h,_=>h.elim
theorem jQA {fd:FuncData}(F:Fun K "all_musts" "all_musts" qL f fd)(T:Txt mg)(G2:mg "MOST_PIECES" =some (.int 32 u2))(EK:ExcK K cE)(MX:mg "TooMany" =some (.ref cE)):FnOk P w K mg base (CXX P w cE) 2 f fd ["box"] jI9:=by
 refine F.okX scAllM (fun vs H Q E h=>?_) (fun cdv A outer s H vs Q E hr h=>?_)
 ·obtain⟨_,_,_,_,rfl,_⟩:=h
  rfl
 ·obtain⟨b,w,ms,pcs,rfl,hB,g,q,qE⟩:=h
  refine⟨_,(allmA T G2 EK MX hr).2.h,?_⟩
  obtain⟨qm,qp,ps,b1,b2,b3,b4⟩:=id hB.ex
  have pl:=b4.len
  have w1:=g.w1
  have gpl:=g.pl
  have ml:=jAR ms 0 w g.mr.ris g.mr.bnd
  refine⟨_,rfl,b,_,2,_,rfl,rfl,SqT.of b1,rfl,_,rfl,b,_,1,_,rfl,rfl,SqT.of b1,rfl,qm,rfl,⟨_,SqT.of b2⟩,jD6 (xs:=ms.map V.int) (fun σ=>∃ v,σ=[v]) (fun H' zs j=>PcsAt H' zs (mayP (ms.take j))) ⟨fun H=>trivial,fun H H' zs j tt h=>h.mono tt,fun H zs j h=>?_⟩ b2 (by rw[af,aL]; omega) ⟨_,rfl⟩ ?_ ?_⟩
  ·rw[h.len]
   unfold mayP
   rw[af]
   exact bN _ _
  ·rintro j x σ' H' zs hx ⟨v,rfl⟩ e hz S1 S2 yes no
   obtain⟨z,hz',rfl⟩:=int_at hx
   dsimp only [kZ,yR]
   rw[aj rfl]
   refine⟨_,rfl,by show (1:Nat)<=_; decide,fun r1 H1 d1 e1=>⟨by show (2:Nat)<=_; decide,fun r2 H2 d2 e2=>?_⟩⟩
   refine yes _ _ _ ⟨_,rfl⟩ (e1.trans e2) ?_
   have et:mayP (ms.take (j+1))=mayP (ms.take j)++[([z],0)]:=by
    unfold mayP
    rw[bq,hz',aS]
    rfl
   show PcsAt H2 _ (mayP (ms.take (j+1)))
   rw[et]
   exact PcsAt.snoc (p:=([z],0)) ⟨r2,r1,rfl,d2,e2 _ _ d1⟩ (hz.mono (e1.trans e2).tups)
  ·rintro D H1 zs h1 e1 n1 hz
   rw[af,bI] at hz
   have zl:=hz.len
   have mpl:(mayP ms).length=ms.length:=af ..
   refine⟨D,_,rfl, .inl ⟨SqL.of h1,fun t ht=>?_⟩⟩
   have e2:Ext H1 (L2.upd H1 t (.tup zs)):=(Ext.refl _).new ht _
   have d2:(L2.upd H1 t (.tup zs)) t=some (.tup zs):=j8
   generalize L2.upd H1 t (.tup zs)=H2 at e2 d2
   have E2:=e1.trans e2
   refine⟨qp,t,_,_,rfl,rfl,E2 _ _ b3,d2,by rw[aL]; omega,fun t3 H3 d3 e3=>?_⟩
   have E3:=E2.trans e3
   refine⟨_,rfl,t3,_,rfl, .inr (SqT.of d3),_,_,rfl,rfl,_,rfl,?_⟩
   have al:(ps++zs).length=pcs.length+ms.length:=by rw[aC]; omega
   rw[al]
   refine ite2 (fun h=>?_) (fun h=>?_)
   ·exact⟨by show (1:Nat)<=_; decide,fun a=>qE (by have:=aK h; omega) a H3 E3⟩
   ·refine⟨_,rfl,b,_,0,_,rfl,rfl,SqT.of (E3 _ _ b1),rfl,by show (0:Nat)<=_; decide,fun t4 H4 d4 e4=>?_⟩
    refine⟨_,rfl,by show (3:Nat)<=_; decide,fun t5 H5 d5 e5=>?_⟩
    have e45:=e4.trans e5
    refine q (ic fun z=>h (aw (by show ((pcs.length+ms.length:Nat):Int)>32; omega))) t5 H5 ⟨t4,t3,ps++zs,d5,e5 _ _ d4,e45 _ _ d3,?_⟩ (E3.trans e45)
    exact PcsAt.append (b4.mono (E3.trans e45).tups) (hz.mono ((e2.trans e3).trans e45).tups)
end
section
variable {P:Program}{w:World}{K:W.Frag}{mg:Str->Option Value}{base:Heap}
variable {f fB fO cE cO:Addr}{fdB fdO:FuncData}{cdv:Value}{A:Around}{outer:List Env}{s:Shared}{H0:Hp}{E:XK}{ks:Nat->Bool}
abbrev nTold:List Str:=["box","e"]
theorem scTold:FnScope nTold ["box"] (j7 qJ):=⟨rfl,rfl,rfl,by decide+kernel,rfl,by decide+kernel,by decide+kernel⟩
def jBG:Sp:=fun vs H Q _=>∃ (b:Addr) (w:Int) (ms:List Int) (pcs:List (List Int×Int)),vs=[.ref b]/\BoxAt H b w ms pcs/\Good 16 32 w ms pcs/\
 (pcs.length+ms.length<=32->∀ r rb H',H' r=some (.tup [.ref rb, .bl true])->BoxAt H' rb w [] (pcs++mayP ms)->Ext H H'->Q (.ref r) H')/\(32<pcs.length+ms.length->∀ r H',H' r=some (.tup [.non, .bl true])->Ext H H'->Q (.ref r) H')
def toldA (T:Txt mg)(FB:CanX cE P w K mg base "all_musts" 2 fB fdB ["box"] jI9)(FO:CanS P w K mg base "_law_others" 1 fO fdO ["e","own"] (jCZ cE ks))(MO:mg "OnceError" =some (.ref cO))(hr:Room 2 (XOf nTold "_law_told" qJ P w K mg base f cdv A outer s H0 E).A): { t:TS // JSs (XOf nTold "_law_told" qJ P w K mg base f cdv A outer s H0 E) (jD qJ) t} :=
 have nd:=scTold.nd
 ⟨_,(jF (jSL (j:=1) nd rfl (show (j7 qJ).names.lookup (("e" :String):Str)=some NameKind.local by decide+kernel) (jSS (jSK (jQK FB.G (hr.mono (by decide)) gD FB.m FB.kp FB.b (j4 (jv 0 rfl vL) j9 j6) rfl j6) (j4 je_bl j9 jL) jI)) gD MO rfl rfl (fun x=>(jF (jW (kD (j4 yZ (j4 (jNT FO.G (Room.suite (hr.mono (by decide)) x) (gl_u gD) FO.m FO.kp FO.b (j4 (jv 1 rfl (vis_u vL)) (j4 (je_int) j9 jL) j6) j6) j9 jI) jL)))))))⟩
theorem jQ2 {fd:FuncData}(F:Fun K "_law_told" "_law_told" qJ f fd)(T:Txt mg)(FB:CanX cE P w K mg base "all_musts" 2 fB fdB ["box"] jI9)(FO:CanS P w K mg base "_law_others" 1 fO fdO ["e","own"] (jCZ cE fun i=>decide (i=9)))(MO:mg "OnceError" =some (.ref cO))(AB:Above K cE cO):FnOk P w K mg base CX0 3 f fd ["box"] jBG:=by
 refine F.ok scTold (fun vs H Q E h=>?_) (fun cdv A outer s H vs Q E hr h=>?_)
 ·obtain⟨_,_,_,_,rfl,_⟩:=h
  rfl
 ·obtain⟨b,w,ms,pcs,rfl,hB,g,qy,qn⟩:=h
  refine⟨_,(toldA T FB FO MO hr).2.h,?_⟩
  refine⟨_,rfl,b,w,ms,pcs,rfl,hB,g,fun hy rb H1 R1 e1=>?_,fun hn a H1 e1=>?_⟩
  ·refine⟨by show (2:Nat)<=_; decide,fun r hr'=>?_⟩
   have e2:Ext H1 (L2.upd H1 r (.tup [.ref rb, .bl true])):=(Ext.refl _).new hr' _
   exact qy hy r rb _ j8 (R1.mono e2.tups) (e1.trans e2)
  ·rintro x hx1 hx2 hx
   refine⟨AB,?_⟩
   have e2:Ext H1 (L2.upd H1 x (.ext (excP x cE))):=(Ext.refl _).new hx _
   have d2:(L2.upd H1 x (.ext (excP x cE))) x=some (.ext (excP x cE)):=j8
   generalize L2.upd H1 x (.ext (excP x cE))=H2 at e2 d2
   refine⟨_,rfl,9,rfl,d2,fun H3 e3=>?_⟩
   have ek:eqTs [.bl (decide (0=9)), .bl (decide (1=9)), .bl (decide (2=9)), .bl (decide (3=9)), .bl (decide (4=9)), .bl (decide (5=9)), .bl (decide (6=9)), .bl (decide (7=9)), .bl (decide (8=9)), .bl (decide (9=9)), .bl false] (oneOf 9 11)=true:=by decide+kernel
   rw[ek]
   refine⟨by show (2:Nat)<=_; decide,fun r H4 d4 e4=>?_⟩
   exact qn hn r H4 d4 (((e1.trans e2).trans e3).trans e4)
end
theorem jN5 {a b:List Int}(h:a.Perm b):a.sum=b.sum:=by
 induction h with
 | nil=>rfl
 | cons x _ ih=>rw[d0,d0,ih]
 | swap x y l=>simp only [d0]; omega
 | trans _ _ h1 h2=>rw[h1,h2]
theorem jHZ (pcs:List (List Int×Int))(x:List Int):wt pcs (srt x)=wt pcs x:=jN5 ((jB7 x).map _)
theorem mem_upto {n:Nat}{x:Int} :x∈upto n↔0<=x/\x<n:=by
 unfold upto
 rw[aW]
 constructor
 ·rintro ⟨i,hi,rfl⟩
  have:=bO.mp hi
  omega
 ·rintro ⟨h0,h1⟩
  exact⟨x.toNat,bO.mpr (by omega),by omega⟩
abbrev addM (ms:List Int)(pcs:List (List Int×Int)):List (List Int×Int):=pcs++mayP ms
def phiM (n:Nat)(c:List Int):List Int:=c.filter fun k=>decide (k<n)
def heldB (pcs:List (List Int×Int))(c:List Int)(t:Int):Bool:=c.any fun k=>decide (t∈jC pcs k)
def psiM (ms:List Int)(pcs:List (List Int×Int))(c:List Int):List Int:=c++((upto ms.length).filter fun i=>!heldB pcs c (ms.getD i.toNat 0)).map fun i=>(pcs.length:Int)+i
theorem held_iff {pcs:List (List Int×Int)}{c:List Int}{t:Int} :heldB pcs c t=true↔∃ k∈c,t∈jC pcs k:=by
 unfold heldB
 rw[fY]
 exact⟨fun ⟨k,h1,h2⟩=>⟨k,h1,aK h2⟩,fun ⟨k,h1,h2⟩=>⟨k,h1,aw h2⟩⟩
section
variable {w:Int}{ms:List Int}{pcs:List (List Int×Int)}
theorem jB3:(addM ms pcs).length=pcs.length+ms.length:=by
 unfold addM mayP
 rw[aC,af]
theorem yN {k:Int}(h0:0<=k)(h1:k<pcs.length):jC (addM ms pcs) k=jC pcs k/\wgt (addM ms pcs) k=wgt pcs k:=by
 unfold jC wgt addM
 rw[aE,bH (by omega),<- aE]
 exact⟨rfl,rfl⟩
theorem jAY {i:Int}(h0:0<=i)(h1:i<ms.length):jC (addM ms pcs) ((pcs.length:Int)+i)=[ms.getD i.toNat 0]/\wgt (addM ms pcs) ((pcs.length:Int)+i)=0:=by
 have hi:i.toNat<ms.length:=by omega
 have e:(addM ms pcs).getD ((pcs.length:Int)+i).toNat ([],0)=([ms.getD i.toNat 0],0):=by
  unfold addM mayP
  rw[show ((pcs.length:Int)+i).toNat=pcs.length+i.toNat by omega,aE,ba (by omega),bb,cb,aE,aB hi]
  rfl
 unfold jC wgt
 rw[e]
 exact⟨rfl,rfl⟩
theorem jOK (r:ms.Pairwise (· < ·)){i j:Int}(i0:0<=i)(i1:i<ms.length)(j0:0<=j)(j1:j<ms.length)(h:ms.getD i.toNat 0=ms.getD j.toNat 0):i=j:=by
 have nd:ms.Nodup:=r.imp fun {a b} h=>by omega
 have hi:i.toNat<ms.length:=by omega
 have hj:j.toNat<ms.length:=by omega
 rw[aE,aE,aB hi,aB hj] at h
 have:=(List.getElem_inj (h₀:=hi) (h₁:=hj) nd).mp h
 omega
theorem ms_at {t:Int}(h:t∈ms):∃ i:Int,0<=i/\i<ms.length/\ms.getD i.toNat 0=t:=by
 obtain⟨i,hi,e⟩:=dO h
 refine⟨(i:Int),by omega,by omega,?_⟩
 rw[bE,aE,aB hi]
 exact e
theorem mem_psi {c:List Int}{k:Int} :k∈psiM ms pcs c↔k∈c\/∃ i:Int,0<=i/\i<ms.length/\heldB pcs c (ms.getD i.toNat 0)=false/\k=(pcs.length:Int)+i:=by
 unfold psiM
 rw[aN,aW]
 refine or_congr Iff.rfl ⟨?_,?_⟩
 ·rintro ⟨i,hi,rfl⟩
  obtain⟨h1,h2⟩:=bz.mp hi
  have:=mem_upto.mp h1
  exact⟨i,this.1,this.2,by simpa using h2,rfl⟩
 ·rintro ⟨i,h0,h1,h2,rfl⟩
  exact⟨i,bz.mpr ⟨mem_upto.mpr ⟨h0,h1⟩,by rw[h2]; rfl⟩,rfl⟩
theorem mem_phi {n:Nat}{c:List Int}{k:Int} :k∈phiM n c↔k∈c/\k<n:=by
 unfold phiM
 rw[bz,br]
theorem jKV {c:List Int}(C:IsCov w [] (addM ms pcs) c):IsCov w ms pcs (phiM pcs.length c):=by
 have b0:∀ k∈phiM pcs.length c,0<=k/\k<pcs.length:=fun k hk=>⟨(C.ris.bnd k (mem_phi.mp hk).1).1,(mem_phi.mp hk).2⟩
 refine⟨⟨C.ris.ris.sublist iQ,b0⟩,fun k hk k' hk' ne t ht hn=>?_,fun t t0 t1 tm=>?_⟩
 ·obtain⟨z0,z1⟩:=b0 k hk
  obtain⟨y0,y1⟩:=b0 k' hk'
  exact C.dis k (mem_phi.mp hk).1 k' (mem_phi.mp hk').1 ne t (by rw[(yN z0 z1).1]; exact ht) (by rw[(yN y0 y1).1]; exact hn)
 ·obtain⟨k,hk,hkt⟩:=C.cov t t0 t1 (by simp)
  have kb:=C.ris.bnd k hk
  rw[jB3] at kb
  by_cases h:k<pcs.length
  ·exact⟨k,mem_phi.mpr ⟨hk,h⟩,by rw[(yN kb.1 h).1] at hkt; exact hkt⟩
  ·exfalso
   have e:k=(pcs.length:Int)+(k - pcs.length):=by omega
   rw[e,(jAY (by omega) (by omega)).1,aq] at hkt
   refine tm ?_
   rw[hkt,aE,aB (show (k - pcs.length).toNat<ms.length by omega)]
   exact cV _
theorem jKP (mr:ms.Pairwise (· < ·)){c:List Int}(C:IsCov w ms pcs c):IsCov w [] (addM ms pcs) (psiM ms pcs c):=by
 refine⟨⟨?_,fun k hk=>?_⟩,fun k hk k' hk' ne t ht hn=>?_,fun t t0 t1 _=>?_⟩
 ·unfold psiM
  refine bS.mpr ⟨C.ris.ris,bF.mpr (((jAO ms.length).ris.sublist iQ).imp fun {a b} h=>by omega),fun a ha b hb=>?_⟩
  obtain⟨i,hi,rfl⟩:=aW.mp hb
  have:=mem_upto.mp (bz.mp hi).1
  have:=C.ris.bnd a ha
  omega
 ·rw[jB3]
  rcases mem_psi.mp hk with h | ⟨i,h0,h1,h2,rfl⟩
  ·have:=C.ris.bnd k h
   omega
  ·omega
 ·rcases mem_psi.mp hk with h | ⟨i,h0,h1,h2,rfl⟩ <;> rcases mem_psi.mp hk' with h' | ⟨i',h0',h1',h2',rfl⟩
  ·have z:=C.ris.bnd k h
   have y:=C.ris.bnd k' h'
   rw[(yN z.1 z.2).1] at ht
   rw[(yN y.1 y.2).1] at hn
   exact C.dis k h k' h' ne t ht hn
  ·have z:=C.ris.bnd k h
   rw[(yN z.1 z.2).1] at ht
   rw[(jAY h0' h1').1,aq] at hn
   rw[hn] at ht
   rw[held_iff.mpr ⟨k,h,ht⟩] at h2'
   cases h2'
  ·have y:=C.ris.bnd k' h'
   rw[(yN y.1 y.2).1] at hn
   rw[(jAY h0 h1).1,aq] at ht
   rw[ht] at hn
   rw[held_iff.mpr ⟨k',h',hn⟩] at h2
   cases h2
  ·rw[(jAY h0 h1).1,aq] at ht
   rw[(jAY h0' h1').1,aq] at hn
   exact ne (by rw[jOK mr h0 h1 h0' h1' (ht.symm.trans hn)])
 ·have old:(∃ k∈c,t∈jC pcs k)->∃ k∈psiM ms pcs c,t∈jC (addM ms pcs) k:=fun ⟨k,h1,h2⟩=>by
   have z:=C.ris.bnd k h1
   exact⟨k,mem_psi.mpr (.inl h1),by rw[(yN z.1 z.2).1]; exact h2⟩
  by_cases hm:t∈ms
  ·cases hh:heldB pcs c t with
   | true=>exact old (held_iff.mp hh)
   | false=>
    obtain⟨i,i0,i1,e⟩:=ms_at hm
    exact⟨(pcs.length:Int)+i,mem_psi.mpr (.inr ⟨i,i0,i1,by rw[e]; exact hh,rfl⟩),by rw[(jAY i0 i1).1,e]; exact aq.mpr rfl⟩
  ·exact old (C.cov t t0 t1 hm)
theorem jPM {c:List Int}(C:IsCov w ms pcs c):phiM pcs.length (psiM ms pcs c)=c:=by
 unfold phiM psiM
 rw[bW,List.filter_eq_self.mpr fun k hk=>aw (C.ris.bnd k hk).2,List.filter_eq_nil_iff.mpr,aV]
 intro k hk z
 obtain⟨i,hi,rfl⟩:=aW.mp hk
 have:=mem_upto.mp (bz.mp hi).1
 have:=aK z
 omega
theorem jKO (mr:Ris w ms){c:List Int}(C:IsCov w [] (addM ms pcs) c):psiM ms pcs (phiM pcs.length c)=c:=by
 have C1:=jKV C
 refine jP7 (jKP mr.ris C1).ris.ris C.ris.ris fun k=>?_
 rw[mem_psi,mem_phi]
 constructor
 ·rintro (h | ⟨i,h0,h1,h2,rfl⟩)
  ·exact h.1
  ·have hm:ms.getD i.toNat 0∈ms:=by
    rw[aE,aB (show i.toNat<ms.length by omega)]
    exact cV _
   have b:=mr.bnd _ hm
   obtain⟨k,hk,hkt⟩:=C.cov (ms.getD i.toNat 0) b.1 b.2 (by simp)
   have kb:=C.ris.bnd k hk
   rw[jB3] at kb
   by_cases h:k<pcs.length
   ·rw[(yN kb.1 h).1] at hkt
    rw[held_iff.mpr ⟨k,mem_phi.mpr ⟨hk,h⟩,hkt⟩] at h2
    cases h2
   ·have e:k=(pcs.length:Int)+(k - pcs.length):=by omega
    rw[e,(jAY (by omega) (by omega)).1,aq] at hkt
    rw[jOK mr.ris h0 h1 (by omega) (by omega) hkt,<- e]
    exact hk
 ·intro hk
  have kb:=C.ris.bnd k hk
  rw[jB3] at kb
  by_cases h:k<pcs.length
  ·exact .inl ⟨hk,h⟩
  ·have e:k=(pcs.length:Int)+(k - pcs.length):=by omega
   refine .inr ⟨k - pcs.length,by omega,by omega,dj.mpr fun z=>?_,e⟩
   obtain⟨j,hj,hjt⟩:=held_iff.mp z
   obtain⟨j1,j2⟩:=mem_phi.mp hj
   have jb:=C.ris.bnd j j1
   exact C.dis k hk j j1 (by omega) (ms.getD (k - pcs.length).toNat 0) (by rw[e,(jAY (by omega) (by omega)).1,<- e]; exact aq.mpr rfl) (by rw[(yN jb.1 j2).1]; exact hjt)
theorem jO7:∀ {c:List Int},(∀ k∈c,0<=k/\k<(addM ms pcs).length)->wt pcs (phiM pcs.length c)=wt (addM ms pcs) c
 | [],_=>rfl
 | k::c,h=>by
  have ih:=jO7 (c:=c) fun j hj=>h j (aM _ hj)
  have kb:=h k (az ..)
  rw[jB3] at kb
  rw[jEQ (addM ms pcs),<- ih]
  unfold phiM
  by_cases q:k<pcs.length
  ·rw[ck,aj (aw q),jEQ,(yN kb.1 q).2]
  ·rw[ck,ah (fun z=>q (aK z))]
   have e:k=(pcs.length:Int)+(k - pcs.length):=by omega
   rw[e,(jAY (by omega) (by omega)).2,fw]
theorem jFO (g:Good 16 32 w ms pcs){m:Int}(h:((pcs.length+ms.length:Nat):Int)<=m):Good 16 m w [] (addM ms pcs):=by
 refine⟨g.w0,g.w1,⟨List.Pairwise.nil,fun z hz=>by cases hz⟩,by rw[jB3]; exact h,fun pc hpc=>?_⟩
 rcases aN.mp hpc with z | z
 ·exact g.pg pc z
 ·obtain⟨t,ht,rfl⟩:=aW.mp z
  have b:=g.mr.bnd t ht
  exact⟨⟨ff _ _,fun z hz=>by rw[aq.mp hz]; exact b,by simp⟩,by show -1000000000000<=(0:Int); decide,by show (0:Int)<=1000000000000; decide⟩
section
variable (g:Good 16 32 w ms pcs)(g':Good 16 32 w [] (addM ms pcs))
include g g'
theorem jC6:((cvs w [] (addM ms pcs)).map (phiM pcs.length)).Perm (cvs w ms pcs):=by
 refine(eG ?_ (jGG g)).mpr fun c=>?_
 ·refine bF.mpr (g7 (fun {a b} ha hb ne e=>ne ?_) (jGG g'))
  rw[<- jKO g.mr ((jBN g').mp ha),<- jKO g.mr ((jBN g').mp hb),e]
 ·rw[aW,jBN g]
  constructor
  ·rintro ⟨c',h,rfl⟩
   exact jKV ((jBN g').mp h)
  ·intro C
   exact⟨_,(jBN g').mpr (jKP g.mr.ris C),jPM C⟩
theorem jLH:(wk (chs w.toNat [] (addM ms pcs)) 0).length=(wk (chs w.toNat ms pcs) 0).length:=by
 have:=(jC6 g g').length_eq
 rw[af,jHS,jHS] at this
 exact this
theorem jON {c:List Int}(h:c∈cvs w [] (addM ms pcs)):wt pcs (phiM pcs.length c)=wt (addM ms pcs) c:=jO7 ((jBN g').mp h).ris.bnd
theorem jIT:minW (addM ms pcs) (wk (chs w.toNat [] (addM ms pcs)) 0)=none↔minW pcs (wk (chs w.toNat ms pcs) 0)=none:=by
 have:=jLH g g'
 rw[minW_none,minW_none,<- fb,this,fb]
theorem jQH {x y:List Int}(hx:minW pcs (wk (chs w.toNat ms pcs) 0)=some x)(hy:minW (addM ms pcs) (wk (chs w.toNat [] (addM ms pcs)) 0)=some y):wt pcs x=wt (addM ms pcs) y:=by
 obtain⟨x1,x2⟩:=jC3 hx
 obtain⟨y1,y2⟩:=jC3 hy
 have a:wt pcs x<=wt (addM ms pcs) y:=by
  have hm:srt y∈cvs w [] (addM ms pcs):=cq y1
  have e:=jON g g' hm
  have hp:phiM pcs.length (srt y)∈cvs w ms pcs:=(jC6 g g').mem_iff.mp (cq hm)
  obtain⟨z,hz,ez⟩:=aW.mp hp
  have:=x2 z hz
  rw[<- ez,jHZ,jHZ] at e
  omega
 have b:wt (addM ms pcs) y<=wt pcs x:=by
  have hm:srt x∈cvs w ms pcs:=cq x1
  obtain⟨c',hc,ec⟩:=aW.mp ((jC6 g g').mem_iff.mpr hm)
  obtain⟨z,hz,rfl⟩:=aW.mp hc
  have:=y2 z hz
  have e:=jON g g' hc
  rw[ec,jHZ,jHZ] at e
  omega
 omega
end
end
section
variable {P:Program}{w:World}{K:W.Frag}{mg:Str->Option Value}{base:Heap}
variable {f fC fP fT fX fO fI fM fL fV tb1 tb2:Addr}{fdC fdP fdT fdX fdO fdI fdM fdL fdV:FuncData}{cdv:Value}{A:Around}{outer:List Env}{s:Shared}{H0:Hp}{E:XK}
abbrev nLaw:List Str:=["script","pot","great","box","many_pieces","found","right","due","light","other","led"]
theorem scLaw:FnScope nLaw ["script"] (j7 sLaw):=⟨rfl,rfl,rfl,by decide+kernel,rfl,by decide+kernel,by decide+kernel⟩
abbrev XLaw (P:Program)(w:World)(K:W.Frag)(mg:Str->Option Value)(base:Heap)(f:Addr)(cdv:Value)(A:Around)(outer:List Env)(s:Shared)(H:Hp)(E:XK):Cx:=XOf nLaw "law" sLaw P w K mg base f cdv A outer s H E
def jO9 (T:Txt mg)(CC:Can P w K mg base "_law_cell_at" 1 fC fdC ["script","k"] (jBJ K))(CP:Can P w K mg base "_law_pot" 1 fP fdP ["cell"] spPot)(CT:Can P w K mg base "_law_take" 1 fT fdT ["pot","wide"] kT)(CX:Can P w K mg base "_law_box" 3 fX fdX ["pot","most_things","most_pieces"] spBox)(CO:Can P w K mg base "_law_told" 3 fO fdO ["box"] jBG)(CI:Can P w K mg base "_law_is_box" 3 fI fdI ["found","due"] jAE)(CM:Can P w K mg base "many" 6 fM fdM ["box"] (jBH tb1))(CL:Can P w K mg base "lightest" 5 fL fdL ["box"] (jAD tb2))(CV:Can P w K mg base "_law_coverings" 19 fV fdV ["box"] jBI)(hr:Room 19 (XLaw P w K mg base f cdv A outer s H0 E).A): { t:TS // JSs (XLaw P w K mg base f cdv A outer s H0 E) ((jD sLaw).drop 13) t} :=
 have nd:=scLaw.nd
 ⟨_,(jE (jLN (i:=10) nd rfl lL ⟨by rfl⟩ (m:=[none,some 4]) (Nc:=["some","many_pieces"]) rfl (jAV (CV.je hr gD (j4 (jv 7 rfl vL) j9 j6) j6)) rfl (by decide+kernel) (by decide+kernel) (kL (psc:=j7 sLaw) (by decide+kernel)) (jS (N:=nLaw) rfl rfl (by decide+kernel)) (fun cl C fp s H=>jY (i:=0) (show (["some","many_pieces"]:List Str).Nodup by decide+kernel) rfl (yY (by decide+kernel))) (fun cl C fp s H=>yB) (fun cl C fp s H=>(kO jE0 (gl_b (by decide+kernel)) T.tuple (by decide+kernel) (j4 (yC (m:=[none,some 1]) (Nc:=["k","many_pieces"]) rfl (jNM (jv 0 rfl (kX (by decide+kernel)))) rfl (by decide+kernel) (by decide+kernel) (jNX (by decide+kernel)) (jS (N:=["some","many_pieces"]) rfl rfl (by decide+kernel)) (fun cl C fp s H=>jY (i:=0) (show (["k","many_pieces"]:List Str).Nodup by decide+kernel) rfl (yY (by decide+kernel))) (fun cl C fp s H=>jHE (jP op_lt (jv 0 rfl (kX (by decide+kernel))) (jv 1 rfl (jBT (by decide+kernel))) (jN _))) (fun cl C fp s H=>(jv 0 rfl (kX (by decide+kernel)))) jCL) j9 kB) kB)) yG)
   (jF (jW ((jGC (jAH (jL1 hr.units101) (jH (jCD hr.units101) gD T.sorted (by decide+kernel) (j4 (jv 10 rfl vL) j9 j6) j6) (jH (jCD hr.units101) gD T.sorted (by decide+kernel) (j4 (CV.je hr gD (j4 (jv 3 rfl vL) j9 j6) j6) j9 jI) jI) (jN _)) (jGB (jAH qI (jH jA1 gD T.len (by decide+kernel) (j4 (jv 10 rfl vL) j9 j6) j6) (CM.je (hr.mono (by decide)) gD (j4 (jv 3 rfl vL) j9 j6) j6) (jN _))))))))⟩
def jOA (T:Txt mg)(CC:Can P w K mg base "_law_cell_at" 1 fC fdC ["script","k"] (jBJ K))(CP:Can P w K mg base "_law_pot" 1 fP fdP ["cell"] spPot)(CT:Can P w K mg base "_law_take" 1 fT fdT ["pot","wide"] kT)(CX:Can P w K mg base "_law_box" 3 fX fdX ["pot","most_things","most_pieces"] spBox)(CO:Can P w K mg base "_law_told" 3 fO fdO ["box"] jBG)(CI:Can P w K mg base "_law_is_box" 3 fI fdI ["found","due"] jAE)(CM:Can P w K mg base "many" 6 fM fdM ["box"] (jBH tb1))(CL:Can P w K mg base "lightest" 5 fL fdL ["box"] (jAD tb2))(CV:Can P w K mg base "_law_coverings" 19 fV fdV ["box"] jBI)(hr:Room 19 (XLaw P w K mg base f cdv A outer s H0 E).A): { t:TS // JSs (XLaw P w K mg base f cdv A outer s H0 E) ((jD sLaw).drop 9) t} :=
 have nd:=scLaw.nd
 ⟨_,(jE (yI (jP op_ne (CM.je (hr.mono (by decide)) gD (j4 (jv 5 rfl vL) j9 j6) j6) (CM.je (hr.mono (by decide)) gD (j4 (jv 3 rfl vL) j9 j6) j6) (jN _)) (jF (jW (je_bl))) kJ) (jE (jO (i:=8) nd rfl lL (CL.je (hr.mono (by decide)) gD (j4 (jv 3 rfl vL) j9 j6) j6) kS) (jE (jO (i:=9) nd rfl lL (CL.je (hr.mono (by decide)) gD (j4 (jv 5 rfl vL) j9 j6) j6) kS) (jE (yI (jt_w (jw_or (jP op_ne (jAH jEH (jv 8 rfl vL) (yZ) (jN _)) (jAH jEH (jv 9 rfl vL) (yZ) (jN _)) (jN _)) (jIV (jt_w (jOQ (jP jKZ (jv 8 rfl vL) (yZ) (jN _)) (jLM (jP op_ne (jU jR (jv 8 rfl vL) (je_int) jG) (jU jR (jv 9 rfl vL) (je_int) jG) (jN _)))))))) (jF (jW (je_bl))) kJ) (jO9 T CC CP CT CX CO CI CM CL CV hr).2))))⟩
def midA (T:Txt mg)(CC:Can P w K mg base "_law_cell_at" 1 fC fdC ["script","k"] (jBJ K))(CP:Can P w K mg base "_law_pot" 1 fP fdP ["cell"] spPot)(CT:Can P w K mg base "_law_take" 1 fT fdT ["pot","wide"] kT)(CX:Can P w K mg base "_law_box" 3 fX fdX ["pot","most_things","most_pieces"] spBox)(CO:Can P w K mg base "_law_told" 3 fO fdO ["box"] jBG)(CI:Can P w K mg base "_law_is_box" 3 fI fdI ["found","due"] jAE)(CM:Can P w K mg base "many" 6 fM fdM ["box"] (jBH tb1))(CL:Can P w K mg base "lightest" 5 fL fdL ["box"] (jAD tb2))(CV:Can P w K mg base "_law_coverings" 19 fV fdV ["box"] jBI)(hr:Room 19 (XLaw P w K mg base f cdv A outer s H0 E).A): { t:TS // JSs (XLaw P w K mg base f cdv A outer s H0 E) ((jD sLaw).drop 5) t} :=
 have nd:=scLaw.nd
 ⟨_,(jE (yI (jP op_gt (kN kY (jv 4 rfl vC) (jH jA1 gD T.len (by decide+kernel) (j4 (jU jR (jv 3 rfl vL) (je_int) jG) j9 jZ) jZ)) (je_int) (jN _)) (jF (jW ((jGC (jAH jEH (jv 5 rfl vL) (yZ) (jN _)) (jGB (jv 6 rfl vL)))))) kJ) (jE (jO (i:=7) nd rfl lL (kD (j4 (jU jR (jv 3 rfl vL) (je_int) jG) (j4 (kD j9) (j4 (kN jDI (jU jR (jv 3 rfl vL) (je_int) jG) (kO jA0 gD T.tuple (by decide+kernel) (j4 (yC (m:=[none]) (Nc:=["t"]) rfl (jDQ (jU jR (jv 3 rfl vL) (je_int) jG)) rfl (by decide+kernel) (by decide+kernel) (kL (psc:=j7 sLaw) (by decide+kernel)) (jS (N:=nLaw) rfl rfl (by decide+kernel)) (fun cl C fp s H=>jY (i:=0) (show (["t"]:List Str).Nodup by decide+kernel) rfl (yY (by decide+kernel))) (fun cl C fp s H=>yB) (fun cl C fp s H=>(kD (j4 (kD (j4 (jv 0 rfl (kX (by decide+kernel))) j9 j6)) (j4 (je_int) j9 jL) yP))) jJ2) j9 kB) kB)) j9 yH) yP) jZ)) jKE) (jE (yI (jt_w (jw_or (jP jEH (jv 5 rfl vL) (yZ) (jN _)) (jIV (jGA (jEI (CI.je (hr.mono (by decide)) gD (j4 (jv 5 rfl vL) (j4 (jv 7 rfl vL) j9 j6) j6) j6) jDC))))) (jF (jW (je_bl))) kJ) (jE (yI (jEI (jv 2 rfl vL) jP3) (jF (jW (je_bl))) kJ) (jOA T CC CP CT CX CO CI CM CL CV hr).2))))⟩
def lawA (T:Txt mg)(CC:Can P w K mg base "_law_cell_at" 1 fC fdC ["script","k"] (jBJ K))(CP:Can P w K mg base "_law_pot" 1 fP fdP ["cell"] spPot)(CT:Can P w K mg base "_law_take" 1 fT fdT ["pot","wide"] kT)(CX:Can P w K mg base "_law_box" 3 fX fdX ["pot","most_things","most_pieces"] spBox)(CO:Can P w K mg base "_law_told" 3 fO fdO ["box"] jBG)(CI:Can P w K mg base "_law_is_box" 3 fI fdI ["found","due"] jAE)(CM:Can P w K mg base "many" 6 fM fdM ["box"] (jBH tb1))(CL:Can P w K mg base "lightest" 5 fL fdL ["box"] (jAD tb2))(CV:Can P w K mg base "_law_coverings" 19 fV fdV ["box"] jBI)(hr:Room 19 (XLaw P w K mg base f cdv A outer s H0 E).A): { t:TS // JSs (XLaw P w K mg base f cdv A outer s H0 E) (jD sLaw) t} :=
 have nd:=scLaw.nd
 ⟨_,(jE (jO (i:=1) nd rfl lL (CP.je (hr.mono (by decide)) gD (j4 (CC.je (hr.mono (by decide)) gD (j4 (jv 0 rfl vL) (j4 (je_int) j9 jL) j6) j6) j9 jI) jI) kS) (jE (jO (i:=2) nd rfl lL (jAH qI (CT.je (hr.mono (by decide)) gD (j4 (jv 1 rfl vL) (j4 (je_int) j9 jL) j6) j6) (je_int) (jN _)) jRE) (jE (jO (i:=3) nd rfl lL (CX.je (hr.mono (by decide)) gD (j4 (jv 1 rfl vL) (j4 (jU jAW (jAG (j4 (je_int) (j4 (je_int) j9 jL) jL)) (kO jE1 gD T.int (by decide+kernel) (j4 (jv 2 rfl vL) j9 j6) j6) jH7) (j4 (jU jAW (jAG (j4 (je_int) (j4 (je_int) j9 jL) jL)) (kO jE1 gD T.int (by decide+kernel) (j4 (jv 2 rfl vL) j9 j6) j6) jH7) j9 jZ) jZ) j6) j6) kS) (jE (jO (i:=4) nd rfl (loc_c (by decide+kernel)) (jH jA1 gD T.len (by decide+kernel) (j4 (jU jR (jv 3 rfl vL) (je_int) jG) j9 jZ) jZ) kS) (jE (jSN (CO.je (hr.mono (by decide)) gD (j4 (jv 3 rfl vL) j9 j6) j6) (jFC (i:=5) (j:=6) nd rfl rfl (by decide+kernel) (by decide+kernel))) (midA T CC CP CT CX CO CI CM CL CV hr).2)))))⟩
abbrev LT (tb1 tb2:Addr):List TT:=[⟨tb1,lamP,qLam⟩,⟨tb2,pLBeh,qLB⟩]
theorem LT.ww {H:Hp}(t:TbS (LT tb1 tb2) H):TabW H tb1:=t.ok _ (az ..)
theorem LT.ll {H:Hp}(t:TbS (LT tb1 tb2) H):TabL H tb2:=t.ok _ (aM _ (az ..))
theorem LT.toW {H H':Hp}(t:TbS (LT tb1 tb2) H)(e:ExtT tb1 H H')(k:TabW H' tb1):TbS (LT tb1 tb2) H':=t.setT (x:=⟨tb1,lamP,qLam⟩) (az ..) e k
theorem LT.toL {H H':Hp}(t:TbS (LT tb1 tb2) H)(e:ExtT tb2 H H')(k:TabL H' tb2):TbS (LT tb1 tb2) H':=t.setT (x:=⟨tb2,pLBeh,qLB⟩) (aM _ (az ..)) e k
theorem LT.exW {H H':Hp}(e:ExtT tb1 H H'):ExS (ads (LT tb1 tb2)) H H':=ExS.ofT e (az ..)
theorem LT.exL {H H':Hp}(e:ExtT tb2 H H'):ExS (ads (LT tb1 tb2)) H H':=ExS.ofT e (aM _ (az ..))
theorem jE6 (T:Txt mg)(CC:Can P w K mg base "_law_cell_at" 1 fC fdC ["script","k"] (jBJ K))(CP:Can P w K mg base "_law_pot" 1 fP fdP ["cell"] spPot)(CT:Can P w K mg base "_law_take" 1 fT fdT ["pot","wide"] kT)(CX:Can P w K mg base "_law_box" 3 fX fdX ["pot","most_things","most_pieces"] spBox)(CO:Can P w K mg base "_law_told" 3 fO fdO ["box"] jBG)(CI:Can P w K mg base "_law_is_box" 3 fI fdI ["found","due"] jAE)(CM:Can P w K mg base "many" 6 fM fdM ["box"] (jBH tb1))(CL:Can P w K mg base "lightest" 5 fL fdL ["box"] (jAD tb2))(CV:Can P w K mg base "_law_coverings" 19 fV fdV ["box"] jBI)(hr:Room 19 (XLaw P w K mg base f cdv A outer s H0 E).A)
  {D:Ends}{H:Hp}{b dq:Addr}{wi:Int}{ms:List Int}{pcs:List (List Int×Int)}{v0 v1 v2 v5 v6 v8 v9 v10:Option V}(hB:BoxAt H b wi ms pcs) (hD:BoxAt H dq wi [] (addM ms pcs)) (g:Good 8 9 wi ms pcs) (tab:TbS (LT tb1 tb2) H) (q:∀ H',D.rt (.bl true) H'):
  (jO9 T CC CP CT CX CO CI CM CL CV hr).1 D [v0,v1,v2,some (.ref b),some (.int (pcs.length:Int)),v5,v6,some (.ref dq),v8,v9,v10] H:=by
 have g32:Good 16 32 wi ms pcs:=g.wide (by decide) (by decide)
 have g17:Good 16 17 wi ms pcs:=g.wide (by decide) (by decide)
 have ml:=jAR ms 0 wi g.mr.ris g.mr.bnd
 have w8:=g.w1
 have pl:=g.pl
 have d17:Good 16 17 wi [] (addM ms pcs):=jFO g32 (by omega)
 have d32:Good 16 32 wi [] (addM ms pcs):=jFO g32 (by omega)
 refine⟨_,rfl,dq,wi,[],addM ms pcs,rfl,hD,d17,fun l us H1 h1 hu ul e1=>?_⟩
 have hl:=All2.len hu
 refine⟨l,rfl,⟨_,SqL.of h1⟩,jBD (xs:=us) (fun σ=>∃ v,σ=[v,some (.int (pcs.length:Int))]) (fun H' zs j=>LsAt H' zs (((cvs wi [] (addM ms pcs)).take j).map (phiM pcs.length))) ⟨fun H=>trivial,fun H H' zs j tt h=>LsAt.mono tt h,fun H zs j h=>?_⟩ h1 (by rw[aL]; omega) ⟨_,rfl⟩ ?_ ?_⟩
 ·rw[All2.len h,af]
  exact bN _ _
 ·rintro j x σ' H' zs hx ⟨v,rfl⟩ e hz S1 S2 yes no
  obtain⟨ks,hks,ad,rfl,had⟩:=All2.get' hu hx
  have C:=(jBN d32).mp (aI hks)
  have kl:=jAR ks 0 _ C.ris.ris C.ris.bnd
  rw[jB3] at kl
  dsimp only [kZ,yR]
  rw[aj rfl]
  have had':=e _ _ had
  refine⟨_,rfl,ad,rfl,⟨_,SqT.of had'⟩,jD6 (xs:=ks.map V.int) (fun σ=>∃ v,σ=[v,some (.int (pcs.length:Int))]) (outZ ks (fun k=>decide (k<pcs.length)) V.int) (outZ.ok _ _ _) had' (by rw[af,aL]; omega) ⟨_,rfl⟩ ?_ ?_⟩
  ·rintro i x σ2 H2 zs2 hx2 ⟨v2,rfl⟩ e2 hz2 S3 S4 yes2 no2
   obtain⟨z,hz',rfl⟩:=int_at hx2
   refine⟨_,rfl,_,rfl,_,_,rfl,rfl,_,rfl,?_⟩
   refine ite2 (fun h=>?_) (fun h=>?_)
   ·exact⟨_,rfl,yes2 _ _ _ ⟨_,rfl⟩ (Ext.refl _) (hz2.yes hz' h)⟩
   ·exact no2 _ _ ⟨_,rfl⟩ (Ext.refl _) (hz2.no hz' (dj.mpr h))
  ·rintro D2 H2 zs2 h2 e2 n2 hz2
   have hz2:=hz2.all (by rw[af]; exact ak _)
   rw[hz2] at h2
   refine⟨D2,_,rfl, .inl ⟨SqL.of h2,fun r hr'=>?_⟩⟩
   have e3:Ext H2 (L2.upd H2 r (.tup ((phiM pcs.length ks).map V.int))):=(Ext.refl _).new hr' _
   have d3:(L2.upd H2 r (.tup ((phiM pcs.length ks).map V.int))) r=some (.tup ((phiM pcs.length ks).map V.int)):=j8
   refine yes _ _ _ ⟨_,rfl⟩ (e2.trans e3) ?_
   have et:((cvs wi [] (addM ms pcs)).take (j+1)).map (phiM pcs.length)=((cvs wi [] (addM ms pcs)).take j).map (phiM pcs.length)++[phiM pcs.length ks]:=by
    rw[bq,hks,aS]
    rfl
   show LsAt _ _ (((cvs wi [] (addM ms pcs)).take (j+1)).map (phiM pcs.length))
   rw[et]
   exact All2.snoc (LsAt.mono (e2.trans e3).tups hz) ⟨r,rfl,d3⟩
 ·rintro led H2 zs h2 e2 n2 hz
  rw[hl,bI] at hz
  have E2:=e1.trans e2
  refine⟨_,rfl,led,zs,_,rfl,SqL.of h2,hz,fun l3 us3 ws3 n3 ts3 pm3 so3=>?_⟩
  have e3:Ext H2 (L2.upd H2 l3 (.lst us3)):=(Ext.refl _).new n3 _
  have d3:(L2.upd H2 l3 (.lst us3)) l3=some (.lst us3):=j8
  generalize L2.upd H2 l3 (.lst us3)=H3 at e3 d3
  have E3:=E2.trans e3
  refine⟨_,rfl,b,wi,ms,pcs,rfl,hB.mono E3.tups,g17,fun l4 us4 H4 h4 hu4 ul4 e4=>?_⟩
  refine⟨l4,us4,_,rfl,SqL.of h4,hu4,fun l5 us5 ws5 n5 ts5 pm5 so5=>?_⟩
  have e5:Ext H4 (L2.upd H4 l5 (.lst us5)):=(Ext.refl _).new n5 _
  have d5:(L2.upd H4 l5 (.lst us5)) l5=some (.lst us5):=j8
  show ∃ ts us,_
  generalize L2.upd H4 l5 (.lst us5)=H5 at e5 d5
  have e35:=e4.trans e5
  have ew:ws3=ws5:=jIS ((pm3.trans (jC6 g32 d32)).trans pm5.symm) so3 so5
  refine⟨_,_,⟨l3,_,rfl,e35 _ _ d3,jHD (LsAt.mono (e3.trans e35).tups ts3)⟩,⟨l5,_,rfl,d5,jHD (LsAt.mono e5.tups ts5)⟩,jLE _,?_⟩
  rw[ew,jB2]
  have E5:=E3.trans e35
  refine⟨_,rfl,?_⟩
  have zl:zs.length=(wk (chs wi.toNat ms pcs) 0).length:=by
   rw[All2.len hz,(jC6 g32 d32).length_eq,jHS]
  refine⟨_,rfl,led,_,rfl, .inl (SqL.of ((e3.trans e35) _ _ h2)),_,rfl,b,wi,ms,pcs,rfl,hB.mono E5.tups,g32,LT.ww (tab.ext E5),fun H6 e6 t6=>⟨rfl,?_⟩⟩
  rw[zl,aw (show V.int (((wk (chs wi.toNat ms pcs) 0).length:Nat):Int)=natV (wk (chs wi.toNat ms pcs) 0).length from rfl)]
  exact q H6
theorem jJE (T:Txt mg)(CC:Can P w K mg base "_law_cell_at" 1 fC fdC ["script","k"] (jBJ K))(CP:Can P w K mg base "_law_pot" 1 fP fdP ["cell"] spPot)(CT:Can P w K mg base "_law_take" 1 fT fdT ["pot","wide"] kT)(CX:Can P w K mg base "_law_box" 3 fX fdX ["pot","most_things","most_pieces"] spBox)(CO:Can P w K mg base "_law_told" 3 fO fdO ["box"] jBG)(CI:Can P w K mg base "_law_is_box" 3 fI fdI ["found","due"] jAE)(CM:Can P w K mg base "many" 6 fM fdM ["box"] (jBH tb1))(CL:Can P w K mg base "lightest" 5 fL fdL ["box"] (jAD tb2))(CV:Can P w K mg base "_law_coverings" 19 fV fdV ["box"] jBI)(hr:Room 19 (XLaw P w K mg base f cdv A outer s H0 E).A)
  {D:Ends}{H:Hp}{b dq rb:Addr}{wi:Int}{ms:List Int}{pcs:List (List Int×Int)}{v0 v1 v2 v6 v8 v9 v10:Option V}(hB:BoxAt H b wi ms pcs) (hR:BoxAt H rb wi [] (addM ms pcs)) (hD:BoxAt H dq wi [] (addM ms pcs)) (g:Good 8 9 wi ms pcs) (tab:TbS (LT tb1 tb2) H) (q:∀ H',D.rt (.bl true) H'):
  (jOA T CC CP CT CX CO CI CM CL CV hr).1 D [v0,v1,v2,some (.ref b),some (.int (pcs.length:Int)),some (.ref rb),v6,some (.ref dq),v8,v9,v10] H:=by
 have g32:Good 16 32 wi ms pcs:=g.wide (by decide) (by decide)
 have ml:=jAR ms 0 wi g.mr.ris g.mr.bnd
 have w8:=g.w1
 have pl:=g.pl
 have d32:Good 16 32 wi [] (addM ms pcs):=jFO g32 (by omega)
 refine⟨_,rfl,rb,wi,[],addM ms pcs,rfl,hR,d32,LT.ww tab,fun H1 e1 t1=>?_⟩
 have T1:=LT.toW tab e1 t1
 have x1:ExS (ads (LT tb1 tb2)) H H1:=LT.exW e1
 refine⟨_,rfl,b,wi,ms,pcs,rfl,hB.mono (tab.tups x1),g32,LT.ww T1,fun H2 e2 t2=>?_⟩
 have T2:=LT.toW T1 e2 t2
 have x2:ExS (ads (LT tb1 tb2)) H H2:=x1.trans (LT.exW e2)
 refine⟨rfl,_,rfl,?_⟩
 rw[jLH g32 d32,aw rfl]
 refine iteF ?_
 have B2:=hB.mono (tab.tups x2)
 have R2:=hR.mono (tab.tups x2)
 have D2:=hD.mono (tab.tups x2)
 refine⟨_,rfl,b,wi,ms,pcs,rfl,B2,g32,LT.ll T2,fun hn H3 e3 t3=>?_,fun x hx r3 q3 H3 c3 d3 e3 t3=>?_⟩
 ·have T3:=LT.toL T2 e3 t3
  have tu:=T2.tups (LT.exL e3)
  refine⟨_,rfl,rb,wi,[],addM ms pcs,rfl,R2.mono tu,d32,LT.ll T3,fun _ H4 e4 t4=>?_,fun y hy=>?_⟩
  ·have T4:=LT.toL T3 e4 t4
   have tu2:=tu.trans (T3.tups (LT.exL e4))
   refine⟨_,rfl,rfl,_,rfl,rfl,rfl,_,rfl,iteF ⟨_,rfl,rfl,_,rfl,iteF (iteF ?_)⟩⟩
   exact jE6 T CC CP CT CX CO CI CM CL CV hr (B2.mono tu2) (D2.mono tu2) g T4 q
  ·rw[(jIT g32 d32).mpr hn] at hy
   cases hy
 ·have T3:=LT.toL T2 e3 t3
  have tu:=T2.tups (LT.exL e3)
  refine⟨_,rfl,rb,wi,[],addM ms pcs,rfl,R2.mono tu,d32,LT.ll T3,fun hn=>?_,fun y hy r4 q4 H4 c4 d4 e4 t4=>?_⟩
  ·rw[(jIT g32 d32).mp hn] at hx
   cases hx
  ·have T4:=LT.toL T3 e4 t4
   have c34:=T3.at (LT.exL e4) c3
   have tu2:=tu.trans (T3.tups (LT.exL e4))
   refine⟨_,rfl,rfl,_,rfl,rfl,rfl,_,rfl,iteF ⟨_,rfl,rfl,_,rfl,iteT ⟨_,rfl,r3,_,0,_,rfl,rfl,SqT.of c34,rfl,_,rfl,r4,_,0,_,rfl,rfl,SqT.of c4,rfl,rfl,_,rfl,?_⟩⟩⟩
   rw[jQH g32 d32 hx hy,aw rfl]
   exact iteF (jE6 T CC CP CT CX CO CI CM CL CV hr (B2.mono tu2) (D2.mono tu2) g T4 q)
theorem jIO (T:Txt mg)(CC:Can P w K mg base "_law_cell_at" 1 fC fdC ["script","k"] (jBJ K))(CP:Can P w K mg base "_law_pot" 1 fP fdP ["cell"] spPot)(CT:Can P w K mg base "_law_take" 1 fT fdT ["pot","wide"] kT)(CX:Can P w K mg base "_law_box" 3 fX fdX ["pot","most_things","most_pieces"] spBox)(CO:Can P w K mg base "_law_told" 3 fO fdO ["box"] jBG)(CI:Can P w K mg base "_law_is_box" 3 fI fdI ["found","due"] jAE)(CM:Can P w K mg base "many" 6 fM fdM ["box"] (jBH tb1))(CL:Can P w K mg base "lightest" 5 fL fdL ["box"] (jAD tb2))(CV:Can P w K mg base "_law_coverings" 19 fV fdV ["box"] jBI)(hr:Room 19 (XLaw P w K mg base f cdv A outer s H0 E).A)
  {D:Ends}{H:Hp}{b:Addr}{wi:Int}{ms:List Int}{pcs:List (List Int×Int)}{v0 v1 v7 v8 v9 v10:Option V}{gr:Bool}{vf:V}(hB:BoxAt H b wi ms pcs) (g:Good 16 32 wi ms pcs) (sm:gr=false->Good 8 9 wi ms pcs) (hf:(pcs.length+ms.length<=32->∃ rb,vf= .ref rb/\BoxAt H rb wi [] (addM ms pcs))/\(32<pcs.length+ms.length->vf= .non)) (tab:TbS (LT tb1 tb2) H) (q:∀ H',D.rt (.bl true) H'):
  (midA T CC CP CT CX CO CI CM CL CV hr).1 D [v0,v1,some (.bl gr),some (.ref b),some (.int (pcs.length:Int)),some vf,some (.bl true),v7,v8,v9,v10] H:=by
 obtain⟨qm,qp,ps,b1,b2,b3,b4⟩:=id hB.ex
 have pl:=b4.len
 have w1:=g.w1
 have gpl:=g.pl
 have ml:=jAR ms 0 wi g.mr.ris g.mr.bnd
 refine⟨_,rfl,_,rfl,b,_,1,_,rfl,rfl,SqT.of b1,rfl,qm,_,rfl, .inr (SqT.of b2),_,_,rfl,rfl,_,_,rfl,rfl,_,rfl,?_⟩
 rw[af]
 refine ite2 (fun h=>?_) (fun h=>?_)
 ·have h:=aK h
  rw[hf.2 (by omega)]
  exact⟨_,rfl,rfl,_,rfl,iteT ⟨_,rfl,q H⟩⟩
 ·have hle:pcs.length+ms.length<=32:=ic fun z=>h (aw (by show (pcs.length:Int)+(ms.length:Int)>32; omega))
  obtain⟨rb,rfl,hR⟩:=hf.1 hle
  refine⟨_,rfl,b,_,0,_,rfl,rfl,SqT.of b1,rfl,by show (0:Nat)<=_; decide,fun t0 H1 d1 e1=>?_⟩
  refine⟨_,rfl,b,_,2,_,rfl,rfl,SqT.of (e1 _ _ b1),rfl,_,rfl,b,_,1,_,rfl,rfl,SqT.of (e1 _ _ b1),rfl,qm,rfl,⟨_,SqT.of (e1 _ _ b2)⟩,jD6 (xs:=ms.map V.int) (fun σ=>∃ v,σ=[v]) (fun H' zs j=>PcsAt H' zs (mayP (ms.take j))) ⟨fun H=>trivial,fun H H' zs j tt h=>h.mono tt,fun H zs j h=>?_⟩ (e1 _ _ b2) (by rw[af,aL]; omega) ⟨_,rfl⟩ ?_ ?_⟩
  ·rw[h.len]
   unfold mayP
   rw[af]
   exact bN _ _
  ·rintro j x σ' H' zs hx ⟨v,rfl⟩ e hz S1 S2 yes no
   obtain⟨z,hz',rfl⟩:=int_at hx
   dsimp only [kZ,yR]
   rw[aj rfl]
   refine⟨_,rfl,by show (1:Nat)<=_; decide,fun r1 H1 d1 e1=>⟨by show (2:Nat)<=_; decide,fun r2 H2 d2 e2=>?_⟩⟩
   refine yes _ _ _ ⟨_,rfl⟩ (e1.trans e2) ?_
   have et:mayP (ms.take (j+1))=mayP (ms.take j)++[([z],0)]:=by
    unfold mayP
    rw[bq,hz',aS]
    rfl
   show PcsAt H2 _ (mayP (ms.take (j+1)))
   rw[et]
   exact PcsAt.snoc (p:=([z],0)) ⟨r2,r1,rfl,d2,e2 _ _ d1⟩ (hz.mono (e1.trans e2).tups)
  ·rintro DD H2 zs h2 e2 n2 hz
   rw[af,bI] at hz
   have zl:=hz.len
   have mpl:(mayP ms).length=ms.length:=af ..
   refine⟨DD,_,rfl, .inl ⟨SqL.of h2,fun t ht=>?_⟩⟩
   have e3:Ext H2 (L2.upd H2 t (.tup zs)):=(Ext.refl _).new ht _
   have d3:(L2.upd H2 t (.tup zs)) t=some (.tup zs):=j8
   generalize L2.upd H2 t (.tup zs)=H3 at e3 d3
   have E3:=(e1.trans e2).trans e3
   refine⟨qp,t,_,_,rfl,rfl,E3 _ _ b3,d3,by rw[aL]; omega,fun t4 H4 d4 e4=>?_⟩
   have E4:=E3.trans e4
   refine⟨by show (3:Nat)<=_; decide,fun dq H5 d5 e5=>?_⟩
   have E5:=E4.trans e5
   have D5:BoxAt H5 dq wi [] (addM ms pcs):=⟨t0,t4,ps++zs,d5,(((e2.trans e3).trans e4).trans e5) _ _ d1,e5 _ _ d4,PcsAt.append (b4.mono E5.tups) (hz.mono ((e3.trans e4).trans e5).tups)⟩
   have R5:=hR.mono E5.tups
   refine⟨_,rfl,rfl,_,rfl,iteF ⟨_,rfl,_,rfl,rb,dq,wi,[],addM ms pcs,rfl,R5,D5,by decide,by rw[jB3]; omega,fun pc hpc=>?_,fun H6 e6=>⟨_,rfl,iteF ?_⟩⟩⟩
   ·rcases aN.mp hpc with z | z
    ·have gp:=g.pg pc z
     have:=jAR pc.1 0 wi gp.lot.ris gp.lot.bnd
     omega
    ·obtain⟨u,_,rfl⟩:=aW.mp z
     show (1:Nat)<=100
     decide
   have E6:=E5.trans e6
   refine⟨_,rfl,?_⟩
   cases gr with
   | true=>exact⟨_,rfl,iteT (q H6)⟩
   | false=>exact⟨_,rfl,iteF (jJE T CC CP CT CX CO CI CM CL CV hr (hB.mono E6.tups) (R5.mono e6.tups) (D5.mono e6.tups) (sm rfl) (tab.ext E6) q)⟩
def spLaw (K:W.Frag)(tb1 tb2:Addr):Sp:=fun vs H Q _=>∃ (a:Addr) (ns:List Int),vs=[.ref a]/\SqL K H a (ns.map V.int)/\ns.length<=63/\TabW H tb1/\TabL H tb2/\tb1≠tb2/\∀ H',Q (.bl true) H'
theorem jSA {fd:FuncData}(F:Fun K "law" "law" sLaw f fd)(T:Txt mg)(CC:Can P w K mg base "_law_cell_at" 1 fC fdC ["script","k"] (jBJ K))(CP:Can P w K mg base "_law_pot" 1 fP fdP ["cell"] spPot)(CT:Can P w K mg base "_law_take" 1 fT fdT ["pot","wide"] kT)(CX:Can P w K mg base "_law_box" 3 fX fdX ["pot","most_things","most_pieces"] spBox)(CO:Can P w K mg base "_law_told" 3 fO fdO ["box"] jBG)(CI:Can P w K mg base "_law_is_box" 3 fI fdI ["found","due"] jAE)(CM:Can P w K mg base "many" 6 fM fdM ["box"] (jBH tb1))(CL:Can P w K mg base "lightest" 5 fL fdL ["box"] (jAD tb2))(CV:Can P w K mg base "_law_coverings" 19 fV fdV ["box"] jBI):FnOk P w K mg base CX0 20 f fd ["script"] (spLaw K tb1 tb2):=by
 refine F.ok scLaw (fun vs H Q E h=>?_) (fun cdv A outer s H vs Q E hr h=>?_)
 ·obtain⟨_,_,rfl,_⟩:=h
  rfl
 ·obtain⟨a,ns,rfl,hS,hn,tw,tl,ne,q⟩:=h
  have tab:TbS (LT tb1 tb2) H:=⟨by unfold ads LT; simp [ne],fun x hx=>by
   simp only [aF,bQ,eD] at hx
   rcases hx with rfl | rfl
   ·exact tw
   ·exact tl⟩
  refine⟨_,(lawA T CC CP CT CX CO CI CM CL CV hr).2.h,?_⟩
  refine⟨_,rfl,a,ns,0,rfl,hS,by decide,fun c=>⟨c,rfl,fun p N hp hN=>?_⟩⟩
  have e1:Ext H (L2.upd H p (.lst [.int N])):=(Ext.refl _).new hp _
  have d1:(L2.upd H p (.lst [.int N])) p=some (.lst [.int N]):=j8
  generalize L2.upd H p (.lst [.int N])=H1 at e1 d1
  refine⟨_,rfl,p,N,4,rfl,d1,hN,by decide,by decide,fun N2 r a1 a2 a3=>?_⟩
  have k2:Ext H (L2.upd H1 p (.lst [.int N2])):=fun c o h=>by rw[jA (jB h hp)]; exact e1 _ _ h
  have d2:(L2.upd H1 p (.lst [.int N2])) p=some (.lst [.int N2]):=j8
  generalize L2.upd H1 p (.lst [.int N2])=H2 at k2 d2
  refine⟨rfl,?_⟩
  generalize hg:decide (V.int r=V.int 1)=gr
  refine⟨_,rfl,by show (2:Nat)<=_; decide,fun l3 H3 d3 e3 n3=>?_⟩
  refine⟨_,rfl, .inr ⟨gr,rfl,l3,_,(if gr then 1 else 0), .int (if gr then 16 else 8),rfl,by cases gr <;> rfl,SqL.of d3,by cases gr <;> rfl,?_⟩⟩
  refine⟨by show (2:Nat)<=_; decide,fun l4 H4 d4 e4 n4=>?_⟩
  refine⟨_,rfl, .inr ⟨gr,rfl,l4,_,(if gr then 1 else 0), .int (if gr then 32 else 9),rfl,by cases gr <;> rfl,SqL.of d4,by cases gr <;> rfl,?_⟩⟩
  have E4:=(k2.trans e3).trans e4
  have p4:=(e3.trans e4) _ _ d2
  refine⟨p,N2,(if gr then 16 else 8),(if gr then 32 else 9),rfl,p4,a1,by cases gr <;> decide,by cases gr <;> decide,by cases gr <;> decide,by cases gr <;> decide,fun b N5 wi ms pcs H5 hN5 d5 hB g0 kp=>?_⟩
  have E5:Ext H H5:=fun c o h=>kp _ _ (E4 _ _ h) (jB h hp)
  have g:Good 16 32 wi ms pcs:=g0.wide (by cases gr <;> decide) (by cases gr <;> decide)
  have sm:gr=false->Good 8 9 wi ms pcs:=fun z=>by rw[z] at g0; exact g0
  obtain⟨qm,qp,ps,b1,b2,b3,b4⟩:=id hB.ex
  have pl:=b4.len
  refine⟨_,rfl,b,_,2,_,rfl,rfl,SqT.of b1,rfl,qp,_,rfl, .inr (SqT.of b3),?_⟩
  rw[pl]
  refine⟨_,rfl,b,wi,ms,pcs,rfl,hB,g,fun hle r6 rb H6 d6 R6 e6=>?_,fun hgt r6 H6 d6 e6=>?_⟩
  ·refine⟨r6,_,rfl,SqT.of d6,rfl,_,_,rfl,_,_,rfl,rfl,?_⟩
   exact jIO T CC CP CT CX CO CI CM CL CV hr (hB.mono e6.tups) g sm ⟨fun _=>⟨rb,rfl,R6⟩,fun z=>absurd z (by omega)⟩ ((tab.ext E5).ext e6) q
  ·refine⟨r6,_,rfl,SqT.of d6,rfl,_,_,rfl,_,_,rfl,rfl,?_⟩
   exact jIO T CC CP CT CX CO CI CM CL CV hr (hB.mono e6.tups) g sm ⟨fun z=>absurd z (by omega),fun _=>rfl⟩ ((tab.ext E5).ext e6) q
end
theorem qH {P:List Value->Prop} :∀ {us:List Value},us.length=1->(∀ a,P [a])->P us
 | [a],_,h=>h a
theorem lenU2 {P:List Value->Prop} :∀ {us:List Value},us.length=2->(∀ a b,P [a,b])->P us
 | [a,b],_,h=>h a b
theorem lenU3 {P:List Value->Prop} :∀ {us:List Value},us.length=3->(∀ a b c,P [a,b,c])->P us
 | [a,b,c],_,h=>h a b c
set_option maxHeartbeats 8000000 in
theorem all_mk {l:PySem.W.OpenLaw}{w:World}{K:W.Frag}{h:Heap}{mg:Str->Option Value}{fa f1 f2 f3 f4 f5 f6 f7 f8 f9 f10 f11 f12 f13 f14 f15 f16 f17 f18 f19 f20 f21 f22 f23:Addr}(X:K.In h)(G:h.Ns mainGlobals mg)(hfa:mg "law" =some (.ref fa))
  {od1 an1 od2 an2 od3 an3 od4 an4 od5 an5 od6 an6 od7 an7 od8 an8 od9 an9 od10 an10 od11 an11 od12 an12 od13 an13 od14 an14 od15 an15 od16 an16 od17 an17 od18 an18 od19 an19 od20 an20 od21 an21 od22 an22 od23 an23:Option Addr}{sl1 sl2 sl3 sl4 sl5 sl6 sl7 sl8 sl9 sl10 sl11 sl12 sl13 sl14 sl15 sl16 sl17 sl18 sl19 sl20 sl21 sl22 sl23:Array (Option Value)}{oc1 kV1 dc1 pm1 cd1 ct1 oc2 kV2 dc2 pm2 cd2 ct2 oc3 kV3 dc3 pm3 cd3 ct3 oc4 kV4 dc4 pm4 cd4 ct4 oc5 kV5 dc5 pm5 cd5 ct5 oc6 kV6 dc6 pm6 cd6 ct6 oc7 kV7 dc7 pm7 cd7 ct7 oc8 kV8 dc8 pm8 cd8 ct8 oc9 kV9 dc9 pm9 cd9 ct9 oc10 kV10 dc10 pm10 cd10 ct10 oc11 kV11 dc11 pm11 cd11 ct11 oc12 kV12 dc12 pm12 cd12 ct12 oc13 kV13 dc13 pm13 cd13 ct13 oc14 kV14 dc14 pm14 cd14 ct14 oc15 kV15 dc15 pm15 cd15 ct15 oc16 kV16 dc16 pm16 cd16 ct16 oc17 kV17 dc17 pm17 cd17 ct17 oc18 kV18 dc18 pm18 cd18 ct18 oc19 kV19 dc19 pm19 cd19 ct19 oc20 kV20 dc20 pm20 cd20 ct20 oc21 kV21 dc21 pm21 cd21 ct21 oc22 kV22 dc22 pm22 cd22 ct22 oc23 kV23 dc23 pm23 cd23 ct23:Value}{u1:Tok}
  (a1:PySem.W.nsIn K mainGlobals "mask_of" =some (some (.ref f1))) (l1:K.lookup f1=some ⟨oc1,od1, .func (PySem.W.fnOf "mask_of" "mask_of" (jJ sMask) (jD sMask) (j7 sMask) .none kV1 dc1 pm1 an1 cd1 ct1),sl1⟩) (c1:PySem.W.codeIn K cd1 "mask_of" =true) (k1:keepIn K (.ref f1)=true)
  (a2:PySem.W.nsIn K mainGlobals "all_musts" =some (some (.ref f2))) (l2:K.lookup f2=some ⟨oc2,od2, .func (PySem.W.fnOf "all_musts" "all_musts" (jJ qL) (jD qL) (j7 qL) .none kV2 dc2 pm2 an2 cd2 ct2),sl2⟩) (c2:PySem.W.codeIn K cd2 "all_musts" =true) (k2:keepIn K (.ref f2)=true)
  (a3:PySem.W.nsIn K mainGlobals "choices_of" =some (some (.ref f3))) (l3:K.lookup f3=some ⟨oc3,od3, .func (PySem.W.fnOf "choices_of" "choices_of" (jJ kU) (jD kU) (j7 kU) .none kV3 dc3 pm3 an3 cd3 ct3),sl3⟩) (c3:PySem.W.codeIn K cd3 "choices_of" =true) (k3:keepIn K (.ref f3)=true)
  (a4:PySem.W.nsIn K mainGlobals "full_mask" =some (some (.ref f4))) (l4:K.lookup f4=some ⟨oc4,od4, .func (PySem.W.fnOf "full_mask" "full_mask" (jJ sFull) (jD sFull) (j7 sFull) .none kV4 dc4 pm4 an4 cd4 ct4),sl4⟩) (c4:PySem.W.codeIn K cd4 "full_mask" =true) (k4:keepIn K (.ref f4)=true)
  (a5:PySem.W.nsIn K mainGlobals "choices_at" =some (some (.ref f5))) (l5:K.lookup f5=some ⟨oc5,od5, .func (PySem.W.fnOf "choices_at" "choices_at" (jJ sAt) (jD sAt) (j7 sAt) .none kV5 dc5 pm5 an5 cd5 ct5),sl5⟩) (c5:PySem.W.codeIn K cd5 "choices_at" =true) (k5:keepIn K (.ref f5)=true)
  (a6:PySem.W.nsIn K mainGlobals "masks_met" =some (some (.ref f6))) (l6:K.lookup f6=some ⟨oc6,od6, .func (PySem.W.fnOf "masks_met" "masks_met" (jJ sMet) (jD sMet) (j7 sMet) .none kV6 dc6 pm6 an6 cd6 ct6),sl6⟩) (c6:PySem.W.codeIn K cd6 "masks_met" =true) (k6:keepIn K (.ref f6)=true)
  (a7:PySem.W.nsIn K mainGlobals "gathered" =some (some (.ref f7))) (l7:K.lookup f7=some ⟨oc7,od7, .func (PySem.W.fnOf "gathered" "gathered" (jJ qC) (jD qC) (j7 qC) .none kV7 dc7 pm7 an7 cd7 ct7),sl7⟩) (c7:PySem.W.codeIn K cd7 "gathered" =true) (k7:keepIn K (.ref f7)=true)
  (a8:PySem.W.nsIn K mainGlobals "ways_of" =some (some (.ref f8))) (l8:K.lookup f8=some ⟨oc8,od8, .func (PySem.W.fnOf "ways_of" "ways_of" (jJ yV) (jD yV) (j7 yV) .none kV8 dc8 pm8 an8 cd8 ct8),sl8⟩) (c8:PySem.W.codeIn K cd8 "ways_of" =true) (k8:keepIn K (.ref f8)=true)
  (a9:PySem.W.nsIn K mainGlobals "many" =some (some (.ref f9))) (l9:K.lookup f9=some ⟨oc9,od9, .func (PySem.W.fnOf "many" "many" (jJ sMany) (jD sMany) (j7 sMany) .none kV9 dc9 pm9 an9 cd9 ct9),sl9⟩) (c9:PySem.W.codeIn K cd9 "many" =true) (k9:keepIn K (.ref f9)=true)
  (a10:PySem.W.nsIn K mainGlobals "lightest" =some (some (.ref f10))) (l10:K.lookup f10=some ⟨oc10,od10, .func (PySem.W.fnOf "lightest" "lightest" (jJ y9) (jD y9) (j7 y9) .none kV10 dc10 pm10 an10 cd10 ct10),sl10⟩) (c10:PySem.W.codeIn K cd10 "lightest" =true) (k10:keepIn K (.ref f10)=true)
  (a11:PySem.W.nsIn K mainGlobals "_law_cell_at" =some (some (.ref f11))) (l11:K.lookup f11=some ⟨oc11,od11, .func (PySem.W.fnOf "_law_cell_at" "_law_cell_at" (jJ sCell) (jD sCell) (j7 sCell) .none kV11 dc11 pm11 an11 cd11 ct11),sl11⟩) (c11:PySem.W.codeIn K cd11 "_law_cell_at" =true) (k11:keepIn K (.ref f11)=true)
  (a12:PySem.W.nsIn K mainGlobals "_law_pot" =some (some (.ref f12))) (l12:K.lookup f12=some ⟨oc12,od12, .func (PySem.W.fnOf "_law_pot" "_law_pot" (jJ sPot) (jD sPot) (j7 sPot) .none kV12 dc12 pm12 an12 cd12 ct12),sl12⟩) (c12:PySem.W.codeIn K cd12 "_law_pot" =true) (k12:keepIn K (.ref f12)=true)
  (a13:PySem.W.nsIn K mainGlobals "_law_take" =some (some (.ref f13))) (l13:K.lookup f13=some ⟨oc13,od13, .func (PySem.W.fnOf "_law_take" "_law_take" (jJ sTake) (jD sTake) (j7 sTake) .none kV13 dc13 pm13 an13 cd13 ct13),sl13⟩) (c13:PySem.W.codeIn K cd13 "_law_take" =true) (k13:keepIn K (.ref f13)=true)
  (a14:PySem.W.nsIn K mainGlobals "_law_lot" =some (some (.ref f14))) (l14:K.lookup f14=some ⟨oc14,od14, .func (PySem.W.fnOf "_law_lot" "_law_lot" (jJ sLot) (jD sLot) (j7 sLot) .none kV14 dc14 pm14 an14 cd14 ct14),sl14⟩) (c14:PySem.W.codeIn K cd14 "_law_lot" =true) (k14:keepIn K (.ref f14)=true)
  (a15:PySem.W.nsIn K mainGlobals "_law_box" =some (some (.ref f15))) (l15:K.lookup f15=some ⟨oc15,od15, .func (PySem.W.fnOf "_law_box" "_law_box" (jJ sBox) (jD sBox) (j7 sBox) .none kV15 dc15 pm15 an15 cd15 ct15),sl15⟩) (c15:PySem.W.codeIn K cd15 "_law_box" =true) (k15:keepIn K (.ref f15)=true)
  (a16:PySem.W.nsIn K mainGlobals "_law_whole" =some (some (.ref f16))) (l16:K.lookup f16=some ⟨oc16,od16, .func (PySem.W.fnOf "_law_whole" "_law_whole" (jJ jBZ) (jD jBZ) (j7 jBZ) .none kV16 dc16 pm16 an16 cd16 ct16),sl16⟩) (c16:PySem.W.codeIn K cd16 "_law_whole" =true) (k16:keepIn K (.ref f16)=true)
  (a17:PySem.W.nsIn K mainGlobals "_law_wholes" =some (some (.ref f17))) (l17:K.lookup f17=some ⟨oc17,od17, .func (PySem.W.fnOf "_law_wholes" "_law_wholes" (jJ yK) (jD yK) (j7 yK) .none kV17 dc17 pm17 an17 cd17 ct17),sl17⟩) (c17:PySem.W.codeIn K cd17 "_law_wholes" =true) (k17:keepIn K (.ref f17)=true)
  (a18:PySem.W.nsIn K mainGlobals "_law_from" =some (some (.ref f18))) (l18:K.lookup f18=some ⟨oc18,od18, .func (PySem.W.fnOf "_law_from" "_law_from" (jJ qD) (jD qD) (j7 qD) .none kV18 dc18 pm18 an18 cd18 ct18),sl18⟩) (c18:PySem.W.codeIn K cd18 "_law_from" =true) (k18:keepIn K (.ref f18)=true)
  (a19:PySem.W.nsIn K mainGlobals "_law_coverings" =some (some (.ref f19))) (l19:K.lookup f19=some ⟨oc19,od19, .func (PySem.W.fnOf "_law_coverings" "_law_coverings" (jJ qK) (jD qK) (j7 qK) .none kV19 dc19 pm19 an19 cd19 ct19),sl19⟩) (c19:PySem.W.codeIn K cd19 "_law_coverings" =true) (k19:keepIn K (.ref f19)=true)
  (a20:PySem.W.nsIn K mainGlobals "_law_others" =some (some (.ref f20))) (l20:K.lookup f20=some ⟨oc20,od20, .func (PySem.W.fnOf "_law_others" "_law_others" (jJ yL) (jD yL) (j7 yL) .none kV20 dc20 pm20 an20 cd20 ct20),sl20⟩) (c20:PySem.W.codeIn K cd20 "_law_others" =true) (k20:keepIn K (.ref f20)=true)
  (a21:PySem.W.nsIn K mainGlobals "_law_is_box" =some (some (.ref f21))) (l21:K.lookup f21=some ⟨oc21,od21, .func (PySem.W.fnOf "_law_is_box" "_law_is_box" (jJ yW) (jD yW) (j7 yW) .none kV21 dc21 pm21 an21 cd21 ct21),sl21⟩) (c21:PySem.W.codeIn K cd21 "_law_is_box" =true) (k21:keepIn K (.ref f21)=true)
  (a22:PySem.W.nsIn K mainGlobals "_law_told" =some (some (.ref f22))) (l22:K.lookup f22=some ⟨oc22,od22, .func (PySem.W.fnOf "_law_told" "_law_told" (jJ qJ) (jD qJ) (j7 qJ) .none kV22 dc22 pm22 an22 cd22 ct22),sl22⟩) (c22:PySem.W.codeIn K cd22 "_law_told" =true) (k22:keepIn K (.ref f22)=true)
  (a23:PySem.W.nsIn K mainGlobals "law" =some (some (.ref f23))) (l23:K.lookup f23=some ⟨oc23,od23, .func (PySem.W.fnOf "law" "law" (jJ sLaw) (jD sLaw) (j7 sLaw) .none kV23 dc23 pm23 an23 cd23 ct23),sl23⟩) (c23:PySem.W.codeIn K cd23 "law" =true) (k23:keepIn K (.ref f23)=true)
  (g1:PySem.W.nsIn K mainGlobals "MOST_PIECES" =some (some (.int 32 u1))) (z1:PySem.W.nsIn K mainGlobals "len" =some none) (z2:PySem.W.nsIn K mainGlobals "range" =some none) (z3:PySem.W.nsIn K mainGlobals "tuple" =some none) (z4:PySem.W.nsIn K mainGlobals "sorted" =some none) (z5:PySem.W.nsIn K mainGlobals "set" =some none) (z6:PySem.W.nsIn K mainGlobals "list" =some none) (z7:PySem.W.nsIn K mainGlobals "int" =some none) (z8:PySem.W.nsIn K mainGlobals "isinstance" =some none) (z9:PySem.W.nsIn K mainGlobals "bool" =some none) (z10:PySem.W.nsIn K mainGlobals "str" =some none) (z11:PySem.W.nsIn K mainGlobals "all" =some none) (z12:PySem.W.nsIn K mainGlobals "zip" =some none) (z13:PySem.W.nsIn K mainGlobals "max" =some none) (z14:PySem.W.nsIn K mainGlobals "min" =some none) (z15:PySem.W.nsIn K mainGlobals "any" =some none) (z16:PySem.W.nsIn K mainGlobals "abs" =some none) (z17:PySem.W.nsIn K mainGlobals "sum" =some none) (z18:PySem.W.nsIn K mainGlobals "enumerate" =some none) (z19:PySem.W.nsIn K mainGlobals "dict" =some none) (z20:PySem.W.nsIn K mainGlobals "ValueError" =some none)
  {cT cO:Addr}{cl:Nat->Addr}(x0:PySem.W.nsIn K mainGlobals "OnceError" =some (some (.ref cO))) (x1:PySem.W.nsIn K mainGlobals "TooMany" =some (some (.ref cT))) (x2:ExcK K cT) (x3:Above K cT cO) (x4:ExcIs K cT) (x5:∀ i x,jD1[i]?=some x->PySem.W.nsIn K mainGlobals x=some (some (.ref (cl i)))) (x6:∀ i,i<10->kitOne K (.ref cT) (.ref (cl i))=some (decide (i=9))) (x7:kitOne K (.ref cT) (.type "ValueError")=some true) {tb1 cc1:Addr}(cde1:cd8= .ref cc1) (hcd1:codeHdIn K cc1 tb1=true) {tb2 cc2:Addr}(cde2:cd10= .ref cc2) (hcd2:codeHdIn K cc2 tb2=true) {bmA:Addr}(xb1:PySem.W.nsIn K mainGlobals "__builtins__" =some (some (.ref bmA))) (xb2:K.lookup bmA=some ⟨.type "module",some builtinsNs, .plain,#[]⟩) (xb3:bmA≠builtinsNs) (xb4:bmA≠mainGlobals):
  ∃ fd:FuncData,(∀ (s:Shared) (v:Value),BindsTo s fd ⟨[v],[]⟩ [("script",v)])/\∀ base:Heap,K.In base->base.Ns mainGlobals mg->FnOk l.prog w K mg base CX0 20 fa fd ["script"] (spLaw K tb1 tb2):=by
 have e:=hfa.symm.trans (gh X G a23)
 cases e
 have T:Txt mg:=⟨aZ X G z1,aZ X G z2,aZ X G z3,aZ X G z4,aZ X G z5,aZ X G z6,aZ X G z7,aZ X G z8,aZ X G z9,aZ X G z10,aZ X G z11,aZ X G z12,aZ X G z13,aZ X G z14,aZ X G z15,aZ X G z16,aZ X G z17,aZ X G z18,aZ X G z19,aZ X G z20⟩
 have F1:=kR (st:=sMask) l1 c1 k1
 have b1:=F1.binds (ps:=["lot"]) fun _ _ _ _ _ _ us hl=>qH (P:=fun us=>bindArgs _ ⟨us,[]⟩=pure (List.zip _ us)) hl fun _=>rfl
 have F2:=kR (st:=qL) l2 c2 k2
 have b2:=F2.binds (ps:=["box"]) fun _ _ _ _ _ _ us hl=>qH (P:=fun us=>bindArgs _ ⟨us,[]⟩=pure (List.zip _ us)) hl fun _=>rfl
 have F3:=kR (st:=kU) l3 c3 k3
 have b3:=F3.binds (ps:=["box"]) fun _ _ _ _ _ _ us hl=>qH (P:=fun us=>bindArgs _ ⟨us,[]⟩=pure (List.zip _ us)) hl fun _=>rfl
 have F4:=kR (st:=sFull) l4 c4 k4
 have b4:=F4.binds (ps:=["choices"]) fun _ _ _ _ _ _ us hl=>qH (P:=fun us=>bindArgs _ ⟨us,[]⟩=pure (List.zip _ us)) hl fun _=>rfl
 have F5:=kR (st:=sAt) l5 c5 k5
 have b5:=F5.binds (ps:=["choices","mask"]) fun _ _ _ _ _ _ us hl=>lenU2 (P:=fun us=>bindArgs _ ⟨us,[]⟩=pure (List.zip _ us)) hl fun _ _=>rfl
 have F6:=kR (st:=sMet) l6 c6 k6
 have b6:=F6.binds (ps:=["choices"]) fun _ _ _ _ _ _ us hl=>qH (P:=fun us=>bindArgs _ ⟨us,[]⟩=pure (List.zip _ us)) hl fun _=>rfl
 have F7:=kR (st:=qC) l7 c7 k7
 have b7:=F7.binds (ps:=["choices","at_end","join"]) fun _ _ _ _ _ _ us hl=>lenU3 (P:=fun us=>bindArgs _ ⟨us,[]⟩=pure (List.zip _ us)) hl fun _ _ _=>rfl
 have F8:=kR (st:=yV) l8 c8 k8
 have b8:=F8.binds (ps:=["choices"]) fun _ _ _ _ _ _ us hl=>qH (P:=fun us=>bindArgs _ ⟨us,[]⟩=pure (List.zip _ us)) hl fun _=>rfl
 have F9:=kR (st:=sMany) l9 c9 k9
 have b9:=F9.binds (ps:=["box"]) fun _ _ _ _ _ _ us hl=>qH (P:=fun us=>bindArgs _ ⟨us,[]⟩=pure (List.zip _ us)) hl fun _=>rfl
 have F10:=kR (st:=y9) l10 c10 k10
 have b10:=F10.binds (ps:=["box"]) fun _ _ _ _ _ _ us hl=>qH (P:=fun us=>bindArgs _ ⟨us,[]⟩=pure (List.zip _ us)) hl fun _=>rfl
 have F11:=kR (st:=sCell) l11 c11 k11
 have b11:=F11.binds (ps:=["script","k"]) fun _ _ _ _ _ _ us hl=>lenU2 (P:=fun us=>bindArgs _ ⟨us,[]⟩=pure (List.zip _ us)) hl fun _ _=>rfl
 have F12:=kR (st:=sPot) l12 c12 k12
 have b12:=F12.binds (ps:=["cell"]) fun _ _ _ _ _ _ us hl=>qH (P:=fun us=>bindArgs _ ⟨us,[]⟩=pure (List.zip _ us)) hl fun _=>rfl
 have F13:=kR (st:=sTake) l13 c13 k13
 have b13:=F13.binds (ps:=["pot","wide"]) fun _ _ _ _ _ _ us hl=>lenU2 (P:=fun us=>bindArgs _ ⟨us,[]⟩=pure (List.zip _ us)) hl fun _ _=>rfl
 have F14:=kR (st:=sLot) l14 c14 k14
 have b14:=F14.binds (ps:=["pot","wide"]) fun _ _ _ _ _ _ us hl=>lenU2 (P:=fun us=>bindArgs _ ⟨us,[]⟩=pure (List.zip _ us)) hl fun _ _=>rfl
 have F15:=kR (st:=sBox) l15 c15 k15
 have b15:=F15.binds (ps:=["pot","most_things","most_pieces"]) fun _ _ _ _ _ _ us hl=>lenU3 (P:=fun us=>bindArgs _ ⟨us,[]⟩=pure (List.zip _ us)) hl fun _ _ _=>rfl
 have F16:=kR (st:=jBZ) l16 c16 k16
 have b16:=F16.binds (ps:=["found"]) fun _ _ _ _ _ _ us hl=>qH (P:=fun us=>bindArgs _ ⟨us,[]⟩=pure (List.zip _ us)) hl fun _=>rfl
 have F17:=kR (st:=yK) l17 c17 k17
 have b17:=F17.binds (ps:=["found"]) fun _ _ _ _ _ _ us hl=>qH (P:=fun us=>bindArgs _ ⟨us,[]⟩=pure (List.zip _ us)) hl fun _=>rfl
 have F18:=kR (st:=qD) l18 c18 k18
 have b18:=F18.binds (ps:=["box","thing","held"]) fun _ _ _ _ _ _ us hl=>lenU3 (P:=fun us=>bindArgs _ ⟨us,[]⟩=pure (List.zip _ us)) hl fun _ _ _=>rfl
 have F19:=kR (st:=qK) l19 c19 k19
 have b19:=F19.binds (ps:=["box"]) fun _ _ _ _ _ _ us hl=>qH (P:=fun us=>bindArgs _ ⟨us,[]⟩=pure (List.zip _ us)) hl fun _=>rfl
 have F20:=kR (st:=yL) l20 c20 k20
 have b20:=F20.binds (ps:=["e","own"]) fun _ _ _ _ _ _ us hl=>lenU2 (P:=fun us=>bindArgs _ ⟨us,[]⟩=pure (List.zip _ us)) hl fun _ _=>rfl
 have F21:=kR (st:=yW) l21 c21 k21
 have b21:=F21.binds (ps:=["found","due"]) fun _ _ _ _ _ _ us hl=>lenU2 (P:=fun us=>bindArgs _ ⟨us,[]⟩=pure (List.zip _ us)) hl fun _ _=>rfl
 have F22:=kR (st:=qJ) l22 c22 k22
 have b22:=F22.binds (ps:=["box"]) fun _ _ _ _ _ _ us hl=>qH (P:=fun us=>bindArgs _ ⟨us,[]⟩=pure (List.zip _ us)) hl fun _=>rfl
 have F23:=kR (st:=sLaw) l23 c23 k23
 refine⟨PySem.W.fnOf "law" "law" (jJ sLaw) (jD sLaw) (j7 sLaw) .none kV23 dc23 pm23 an23 cd23 ct23,fun s v=> .of_eq rfl,fun base KB _=>?_⟩
 have M:=fun {x:Str}{f:Addr}(a:PySem.W.nsIn K mainGlobals x=some (some (.ref f)))=>gh X G a
 have M':=fun {x:Str}{v:Value}(a:PySem.W.nsIn K mainGlobals x=some (some v))=>gh X G a
 have CD1:PySem.W.CodeHd base cc1 tb1:=gF KB hcd1
 have FC1:FunC K "ways_of" "ways_of" yV f8 _ cc1:=⟨_,_,_,_,_,_,_,_,rfl,cde1 ▸ l8,cde1 ▸ c8⟩
 have CD2:PySem.W.CodeHd base cc2 tb2:=gF KB hcd2
 have FC2:FunC K "lightest" "lightest" y9 f10 _ cc2:=⟨_,_,_,_,_,_,_,_,rfl,cde2 ▸ l10,cde2 ▸ c10⟩
 have BM:BltAt base mg:=⟨bmA,_,gh X G xb1,xb3,xb4,KB _ _ xb2,rfl,rfl,rfl⟩
 have KD:Kinds K mg cT cl (fun i=>decide (i=9)):=⟨x4,fun i x h=>M (x5 i x h),x6,x7⟩
 have C1:Can l.prog w K mg base "mask_of" 1 f1 _ ["lot"] jFW:=⟨jQ4 F1 T,M a1,k1,b1⟩
 have C2:CanX cT l.prog w K mg base "all_musts" 2 f2 _ ["box"] jI9:=⟨jQA F2 T (M' g1) x2 (M x1),M a2,k2,b2⟩
 have C3:Can l.prog w K mg base "choices_of" 2 f3 _ ["box"] jAJ:=⟨jJL F3 T C1,M a3,k3,b3⟩
 have C4:Can l.prog w K mg base "full_mask" 1 f4 _ ["choices"] jE9:=⟨jQ7 F4 T,M a4,k4,b4⟩
 have C5:Can l.prog w K mg base "choices_at" 1 f5 _ ["choices","mask"] spAt:=⟨ok_at F5 T,M a5,k5,b5⟩
 have C6:Can l.prog w K mg base "masks_met" 2 f6 _ ["choices"] spMet:=⟨jS8 F6 T C4 C5,M a6,k6,b6⟩
 have C7:Can l.prog w K mg base "gathered" 4 f7 _ ["choices","at_end","join"] jH3:=⟨FnOk.ex fun x o=>(jL5 F7 T C4 C6 C5 ((jSB o T).mono (by decide)) ZT.st (zhW.ok _ _) (RWay.ok _) o).ok,M a7,k7,b7⟩
 have C8:Can l.prog w K mg base "ways_of" 5 f8 _ ["choices"] (jI8 tb1):=⟨jQ1 FC1 T CD1 BM C7,M a8,k8,b8⟩
 have C9:Can l.prog w K mg base "many" 6 f9 _ ["box"] (jBH tb1):=⟨jQ5 F9 T C3 C8,M a9,k9,b9⟩
 have C10:Can l.prog w K mg base "lightest" 5 f10 _ ["box"] (jAD tb2):=⟨jNA FC2 T CD2 BM C3 (fun cl i=>jL5 F7 T C4 C6 C5 ((jHA T cl i).mono (by decide)) (ZC.st _ _ _) (zhL.ok cl i) (RLt.ok _ _) (yQ i.g)) (M a7) k7 b7,M a10,k10,b10⟩
 have C11:Can l.prog w K mg base "_law_cell_at" 1 f11 _ ["script","k"] (jBJ K):=⟨jQ9 F11 T,M a11,k11,b11⟩
 have C12:Can l.prog w K mg base "_law_pot" 1 f12 _ ["cell"] spPot:=⟨jS7 F12 T,M a12,k12,b12⟩
 have C13:Can l.prog w K mg base "_law_take" 1 f13 _ ["pot","wide"] kT:=⟨jQ3 F13,M a13,k13,b13⟩
 have C14:Can l.prog w K mg base "_law_lot" 2 f14 _ ["pot","wide"] qG:=⟨jS9 F14 T C13,M a14,k14,b14⟩
 have C15:Can l.prog w K mg base "_law_box" 3 f15 _ ["pot","most_things","most_pieces"] spBox:=⟨jSC F15 T C13 C14,M a15,k15,b15⟩
 have C16:Can l.prog w K mg base "_law_whole" 1 f16 _ ["found"] spWh:=⟨jN9 F16 T,M a16,k16,b16⟩
 have C17:Can l.prog w K mg base "_law_wholes" 2 f17 _ ["found"] jCY:=⟨jL3 F17 T C16,M a17,k17,b17⟩
 have C18:Can l.prog w K mg base "_law_from" 18 f18 _ ["box","thing","held"] (jEA 16):=⟨jL6 F18 T (M a18) k18 b18 16,M a18,k18,b18⟩
 have C19:Can l.prog w K mg base "_law_coverings" 19 f19 _ ["box"] jBI:=⟨jQ8 F19 T C18,M a19,k19,b19⟩
 have C20:CanS l.prog w K mg base "_law_others" 1 f20 _ ["e","own"] (jCZ cT fun i=>decide (i=9)):=⟨jL4 F20 T KD,M a20,k20,b20⟩
 have C21:Can l.prog w K mg base "_law_is_box" 3 f21 _ ["found","due"] jAE:=⟨jNB F21 T C16 C17,M a21,k21,b21⟩
 have C22:Can l.prog w K mg base "_law_told" 3 f22 _ ["box"] jBG:=⟨jQ2 F22 T C2 C20 (M x0) x3,M a22,k22,b22⟩
 exact jSA F23 T C11 C12 C13 C15 C22 C21 C9 C10 C19
def kcl (i:Nat):Addr:=[133,61,145,121,97,157,49,85,109,73].getD i 0
theorem kcC (P:Params){h:Heap}(X:(kK P).In h):h.get? 73=some (excClassObj "TooMany" "TooMany" 73 72 [.ref 29] [.ref 29, .type "ValueError", .type "Exception", .type "BaseException", .type "object"] true [] [] false none none (some (.ref 64)) (none) (some (.str "TooMany" 258)) (some (.str "TooMany" 266)) (some (.bool true)) "ValueError.__new__"):=X 73 _ (by kernel_rfl)
def kesC (P:Params):Array DictEntry:=#[kE P "__module__" 265 (.str "eachonce.errors" 197),kE P "__firstlineno__" 269 (.int 15 268),kE P "__static_attributes__" 270 (.ref 71),kE P "__doc__" 271 (.none)]
theorem kNC (P:Params){h:Heap}(X:(kK P).In h):h.Ns 72 (nsFind (kesC P)):=⟨⟨.type "dict",none, .dict (kesC P) 2,#[]⟩,_,_,X 72 _ (by kernel_rfl),rfl,fun e he=>by
  unfold kesC at he
  simp only [List.mem_toArray,aF,bQ,eD] at he
  rcases he with rfl | rfl | rfl | rfl <;> exact⟨_,_,rfl⟩,fun _=>rfl⟩
theorem kcB (P:Params){h:Heap}(X:(kK P).In h):h.get? 29=some (excClassObj "OnceError" "OnceError" 29 28 [.type "ValueError"] [.type "ValueError", .type "Exception", .type "BaseException", .type "object"] true [] [.ref 49, .ref 61, .ref 73, .ref 85, .ref 97, .ref 109, .ref 121, .ref 133, .ref 145, .ref 157] false none none (some (.ref 20)) (none) (some (.str "OnceError" 199)) (some (.str "OnceError" 207)) (some (.bool true)) "ValueError.__new__"):=X 29 _ (by kernel_rfl)
def kesB (P:Params):Array DictEntry:=#[kE P "__module__" 206 (.str "eachonce.errors" 197),kE P "__firstlineno__" 210 (.int 6 209),kE P "__static_attributes__" 211 (.ref 27),kE P "__weakref__" 213 (.ref 30),kE P "__doc__" 214 (.none)]
theorem kNB (P:Params){h:Heap}(X:(kK P).In h):h.Ns 28 (nsFind (kesB P)):=⟨⟨.type "dict",none, .dict (kesB P) 3,#[]⟩,_,_,X 28 _ (by kernel_rfl),rfl,fun e he=>by
  unfold kesB at he
  simp only [List.mem_toArray,aF,bQ,eD] at he
  rcases he with rfl | rfl | rfl | rfl | rfl <;> exact⟨_,_,rfl⟩,fun _=>rfl⟩
theorem kx2 (P:Params):ExcK (kK P) 73:=⟨"TooMany","TooMany",72,[.ref 29],[.ref 29, .type "ValueError", .type "Exception", .type "BaseException", .type "object"],true,[],[],false,none,none,some (.ref 64),none,some (.str "TooMany" 258),some (.str "TooMany" 266),some (.bool true),nsFind (kesC P),by kernel_rfl,by kernel_rfl,fun h X=>⟨kcC P X,kNC P X, .own (kcB P X) (kNB P X) (by kernel_rfl) .base⟩⟩
theorem kx3 (P:Params):Above (kK P) 73 29:=⟨"TooMany","TooMany","OnceError","OnceError",72,28,[.ref 29],[.ref 29, .type "ValueError", .type "Exception", .type "BaseException", .type "object"],[.type "ValueError"],[.type "ValueError", .type "Exception", .type "BaseException", .type "object"],true,true,[],[],[],[.ref 49, .ref 61, .ref 73, .ref 85, .ref 97, .ref 109, .ref 121, .ref 133, .ref 145, .ref 157],false,false,none,none,none,none,some (.ref 64),none,some (.str "TooMany" 258),some (.str "TooMany" 266),some (.bool true),some (.ref 20),none,some (.str "OnceError" 199),some (.str "OnceError" 207),some (.bool true),"ValueError.__new__","ValueError.__new__",by kernel_rfl,by kernel_rfl,fun h X=>⟨kcC P X,kcB P X⟩⟩
theorem kx4 (P:Params):ExcIs (kK P) 73:=⟨by kernel_rfl,by kernel_rfl,by kernel_rfl,by kernel_rfl,by kernel_rfl,by kernel_rfl,by kernel_rfl,by kernel_rfl⟩
theorem kx5 (P:Params):∀ i x,jD1[i]?=some x->PySem.W.nsIn (kK P) mainGlobals x=some (some (.ref (kcl i)))
 | 0,_,rfl | 1,_,rfl | 2,_,rfl | 3,_,rfl | 4,_,rfl | 5,_,rfl | 6,_,rfl | 7,_,rfl | 8,_,rfl | 9,_,rfl=>by kernel_rfl
 | _+10,_,h=>by cases h
theorem kx6 (P:Params):∀ i,i<10->kitOne (kK P) (.ref 73) (.ref (kcl i))=some (decide (i=9))
 | 0,_ | 1,_ | 2,_ | 3,_ | 4,_ | 5,_ | 6,_ | 7,_ | 8,_ | 9,_=>by kernel_rfl
 | _+10,h=>by omega
theorem kx7 (P:Params):kitOne (kK P) (.ref 73) (.type "ValueError")=some true:=by kernel_rfl
theorem walk {l:PySem.W.OpenLaw}{q:Program}{loose:List Str}{XP:(Str->Option Value)->Heap->Prop}{YP:World->Heap->Prop}{d:DefRec}{K:Params->W.Frag}(hn:l.most=some 63)(hdf:d.params.defaults=[]){tb1 tb2:Addr}{cc1 cc2:Addr}
  (hY:∀ (w:World) (h:Heap),YP w h->(K w.params).In h/\∀ T∈[tb1,tb2],h.get? T=some (tabObj #[])) (hcd:∀ w:World,codeHdIn (K w.params) cc1 tb1=true/\codeHdIn (K w.params) cc2 tb2=true) (hKT:∀ w:World,∀ T∈[tb1,tb2],(K w.params).lookup T=none) (hnd:([tb1,tb2]:List Addr).Nodup)
  (F:∀ (w:World) (mg:Str->Option Value) (fa:Addr) (h:Heap),(K w.params).In h->h.Ns mainGlobals mg->mg d.name=some (.ref fa)->
   ∃ fd:FuncData,(∀ (s:Shared) (u:Value),BindsTo s fd ⟨[u],[]⟩ [("script",u)])/\∀ base:Heap,(K w.params).In base->base.Ns mainGlobals mg->FnOk l.prog w (K w.params) mg base CX0 20 fa fd ["script"] (spLaw (K w.params) tb1 tb2)):
  PySem.W.WalkO q loose XP YP l.row.toRowW d [] (fun f vs=>PySem.call f vs):=
 L2.walk_ofTs (cts:=[(cc1,tb1),(cc2,tb2)]) (n:=63) (k:=20) (x:= "script") (CX:=fun _=>CX0) (sp:=fun w=>spLaw (K w.params) tb1 tb2) hn (by decide) hdf ⟨rfl,by decide,by decide⟩ hY (fun w p hp=>by
  obtain⟨_h0,_h1⟩:=hcd w
  simp only [aF,bQ,eD] at hp
  rcases hp with rfl | rfl <;> assumption) hKT F (fun _ H a ns hl hT hS=>⟨a,ns,rfl,hS,hl, .inl (hT _ az), .inl (hT _ (aM _ az)),(fun z=>(cy.mp hnd).1 (by rw[z]; exact az ..)),fun _=>rfl⟩) fun _ _ _ _ _ z=>z
end Eo
open PySem PySem.W PyProof.Rows
set_option maxRecDepth 100000 in
set_option maxHeartbeats 0 in
theorem PySem.Challenge.cw_eachonce_k85_mays_made_musts_holds : PySem.Challenge.rw_eachonce_k85_mays_made_musts.Holds := by
 w_on
 refine holds_law (by decide+kernel) fun said=>?_
 refine holds_open (q:=Eo.vw) (loose:=[]) (Xt:=fun s=>xlAt Eo.vw [] s&&recOk (RowW.records (OpenRow.toRowW PySem.Challenge.rw_eachonce_k85_mays_made_musts.row)) s) (XP:=XL Eo.vw []) (Yf:=Hook.obs Eo.kH) (Ya:=Hook.val Eo.kH) (YP:=Hook.says Eo.kH) (N:=7100) Eo.left (Hook.of Eo.kH) (Hook.keeps Eo.kH) (fun s e=>xl_of s (gx.mp e).1) XL.keeps (by rfl) (by rfl) (by rfl) (fun s e=>recFacts_of (gx.mp e).2) rfl said (by decide+kernel) ⟨rfl,rfl,rfl,rfl,rfl,by decide+kernel⟩ ?hw ?hc
 case hw=>w_witness2
 refine Eo.walk (l:=PySem.Challenge.rw_eachonce_k85_mays_made_musts) (K:=Eo.kK) rfl rfl (tb1:=195) (cc1:=199) (tb2:=209) (cc2:=213) (fun w h Y=>⟨PySem.W.km_in_of Y,PySem.W.km_tabs_of Y⟩) (fun w=>⟨by kernel_rfl,by kernel_rfl⟩) (fun w T hm=>by
   simp only [aF,bQ,eD] at hm
   rcases hm with rfl | rfl <;> kernel_rfl) (by decide) ?F
 case F=>
  intro w mg fa h KX G hmg
  k_fill
  refine' Eo.all_mk KX G hmg _ _ _ _ _ _ _ _ _ _ _ _ _ _ _ _ _ _ _ _ _ _ _ _ _ _ _ _ _ _ _ _ _ _ _ _ _ _ _ _ _ _ _ _ _ _ _ _ _ _ _ _ _ _ _ _ _ _ _ _ _ _ _ _ _ _ _ _ _ _ _ _ _ _ _ _ _ _ _ _ _ _ _ _ _ _ _ _ _ _ _ _ _ _ _ _ _ _ _ _ _ _ _ _ _ _ _ _ _ _ _ _ _ _ _ (Eo.kx2 _) (Eo.kx3 _) (Eo.kx4 _) (Eo.kx5 _) (Eo.kx6 _) (Eo.kx7 _) (tb1:=195) rfl (by kernel_rfl) (tb2:=209) rfl (by kernel_rfl) (bmA:=4) (by kernel_rfl) (by kernel_rfl) (by decide) (by decide)
  all_goals try k_is
end
