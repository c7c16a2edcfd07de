import PyProof.Rows.All
import Wide.All
import OpenK.AllK
import Wide.FinOn
import PyProof.EqAt
import PyProof.EqKinds
import PyProof.TupleCall
import Lean
import PySem.SetOps
import PyProof.SetKind
import PyProof.DictKinds
import PyProof.CompMap
import PyProof.WalksS
import PyProof.Walks
import PyProof.CollectWalk
import PyProof.FactsAll.set_1
import PyProof.SetNew
import PyProof.Rows.SetFrom
import PyProof.ZipIter
import PyProof.Rows.SortShell
import PyProof.Rows.SortWalk
import PyProof.NeKinds
import PyProof.SumWalkG
import PyProof.RangeIter
import PyProof.StationsW
import PyProof.ExcClass3
import PyProof.ExcBaseAll.ValueError
import PyProof.ExcAttrAll.ValueError
import PyProof.Rows.CatchOwn
import KE.KIsAll
import PyProof.NsDelKeeps
import KE.KNestM
import PyProof.EnumMake
import KE.KDictOf
import PyProof.AttrMiss
import PyProof.IsiH_list
import PyProof.FactsAll.tuple_3
import PyProof.TupleOfStr
import PyProof.ListRange
import KE.KLam
import PyProof.Rows.SortRuns
import PyProof.Rows.SortRev
import PyProof.Rows.RuleM_int
import KE.KSortTup
import KE.KSortKey
import PySem.Challenge.RW_eachonce_k65_least_mends
set_option Elab.async false
set_option linter.all false
set_option maxRecDepth 100000
def ae:=@PySem.wpAny_bind
def af:=@List.length_map
def ag:=@PySem.Heap.get?_push_of_some
def ah:=@List.mem_cons_of_mem
def ai:=@List.mem_cons_self
def aj:=@List.getElem?_eq_some_iff
def ak:=@PySem.wpAny_pure
def am:=@Nat.le_refl
def ao:=@if_neg
def aq:=@Bool.false_ne_true
def ar:=@if_pos
def aw:=@PySem.sizeLine_eq
def ax:=@List.size_toArray
def ay:=@List.getElem?_eq_getElem
def az:=@decide_eq_true
def aA:=@PySem.Heap.get?_push_size
def aB:=@List.mem_append_right
def aC:=@List.getD_eq_getElem?_getD
def aE:=@PySem.Heap.lt_size
def aF:=@List.mem_cons
def aG:=@of_decide_eq_true
def aH:=@List.length_append
def aI:=@PyProof.Rows.wpS_bind
def aJ:=@List.mem_of_getElem?
def aK:=@List.mem_singleton
def aL:=@Array.length_toList
def aM:=@List.mem_append
def aN:=@PyProof.Rows.wpS_pure
def aO:=@Nat.lt_of_lt_of_le
def aP:=@decide_eq_false
def aQ:=@Nat.ne_of_lt
def aR:=@List.getElem?_map
def aS:=@List.map_append
def aU:=@List.length_cons
def aV:=@Int.toNat_natCast
def aW:=@List.mem_map
def aX:=@List.mem_append_left
def aY:=@List.append_assoc
def aZ:=@List.append_nil
def ba:=@List.mem_filter
def be:=@List.lookup_cons
def bf:=@Nat.le_trans
def bg:=@List.take_add_one
def bh:=@List.getElem?_append_right
def bi:=@Nat.zero_le
def bo:=@PySem.W.mg_none_of
def bq:=@Option.some.inj
def br:=@List.map_cons
def bu:=@List.length_take_le
def bv:=@PySem.Heap.get?_update_other
def bw:=@List.take_length
def bz:=@Array.toList_append
def bA:=@decide_eq_true_iff
def bB:=@List.getElem?_of_mem
def bC:=@List.not_mem_nil
def bD:=@List.length_filter_le
def bE:=@List.filter_append
def bF:=@PySem.mem_of_lookup
def bG:=@List.mem_range
def bH:=@List.take_append_drop
def bI:=@Bool.and_eq_true
def bJ:=@List.all_eq_true
def bK:=@PySem.F.plainAttrs_list
def bL:=@List.map_map
def bM:=@List.pairwise_map
def bN:=@List.length_take
def bO:=@beq_eq_false_iff_ne
def bP:=@List.take_of_length_le
def bQ:=@Nat.pow_le_pow_right
def bR:=@List.length_range
def bS:=@PySem.wpAny_holding
def bU:=@Array.getElem?_toList
def bV:=@Bool.eq_iff_iff
def bW:=@PySem.F.slot_list_append
def bX:=@PySem.F.type_list_append
def bY:=@Bool.eq_false_iff
def bZ:=@congrArg
def b7:=@PySem.wpAny_mono
def b8:=@List.getElem?_append_left
def b9:=@List.pairwise_iff_getElem
def ce:=@Classical.byContradiction
def cf:=@PySem.PassesOwn.never
def cg:=@List.filter_cons
def ci:=@Nat.testBit_or
def cj:=@PyProof.Rows.wpS_forRange
def ck:=@Bool.not_eq_true'
def cm:=@List.idxOf_lt_length_iff
def cn:=@List.mem_map_of_mem
def cq:=@Array.perm_iff_toList_perm
def cr:=@PySem.Around.under_plainId
def cw:=@List.mem_of_mem_take
def cx:=@PySem.wpAny_loadPart'
def cy:=@List.length_nil
def cz:=@PySem.codeAny_builtin
def cA:=@List.getElem?_take_of_lt
def cB:=@PySem.wpAny_call_entry
def cC:=@Nat.lt_succ_of_lt
def cD:=@PySem.W.kia_one
def cE:=@List.nodup_cons
def cF:=@Int.le_of_lt
def cG:=@Nat.testBit_two_pow
def cH:=@List.map_congr_left
def cI:=@List.getElem?_range
def cJ:=@Nat.lt_irrefl
def cK:=@Nat.ne_of_gt
def cL:=@PySem.wpAny_Call_Name_kw
def cM:=@List.pairwise_cons
def cN:=@PySem.wpAny_setField_rec
def cO:=@List.pairwise_append
def cP:=@List.mem_of_mem_drop
def cQ:=@List.getElem_mem
def cR:=@PySem.wpAny_callSpecial?_slot
def cS:=@Array.toArray_toList
def cU:=@List.any_eq_true
def cV:=@Nat.add_sub_cancel_left
def cW:=@decide_eq_false_iff_not
def cX:=@Nat.testBit_two_pow_sub_one
def cY:=@Nat.le_of_lt
def cZ:=@PySem.wpAny_newObj_type
def da:=@PySem.Heap.size_push
def db:=@Int.le_trans
def de:=@Nat.mod_two_eq_zero_or_one
def df:=@List.Perm.append_left
def dh:=@or_false
def di:=@List.getElem?_eq_none
def dj:=@PySem.wpAny_rule
def dq:=@PySem.Around.in1_units
def dr:=@List.countP_cons
def dv:=@Nat.zero_testBit
def dw:=@Bool.and_false
def dy:=@Nat.le_succ
def dz:=@PyProof.Rows.wpS_mono
def dA:=@Int.le_refl
def dE:=@Array.toList_reverse
def dF:=@List.eq_nil_of_length_eq_zero
def dG:=@PySem.wpAny_pyIter_list
def dH:=@PySem.wpAny_setState_of
def dI:=@List.of_mem_zip
def dJ:=@Nat.two_pow_pos
def dL:=@PySem.W.codeHd_of_K
def dM:=@PyProof.Rows.callWith_type1
def dN:=@PySem.codeAny_mono
def dO:=@PySem.Heap.get?_update_self
def dP:=@List.perm_append_comm
def dQ:=@List.extract_eq_take_drop
def dR:=@PySem.wpAny_passesOwn
def dS:=@List.find?_cons
def dU:=@Nat.testBit_and
def dW:=@Ne.symm
def dX:=@PySem.wpAny_truthy_bool
def dY:=@List.take_sublist
def dZ:=@PySem.Calls.evalArgs_plain
def d0:=@Array.toList_push
def d8:=@PySem.wpAny_field
def d9:=@Nat.eq_of_testBit_eq
def eg:=@Array.getElem_toList
def eh:=@PySem.wpAny_attempt
def ev:=@PySem.wpAny_newList
def eE:=@PyProof.Rows.listUpdate_at
def eF:=@List.getElem_of_mem
def eG:=@Int.toNat_of_nonneg
def eI:=@PySem.F.plain_list_iadd
def eJ:=@PySem.sizeLine_eq
def eL:=@List.zip_cons_cons
def eM:=@Nat.lt_trans
def eO:=@PyProof.Rows.wpS_modify
def eQ:=@Nat.not_lt_zero
def eR:=@PySem.wpAny_standAt
def eS:=@PySem.plainId_quiet
def eT:=@List.getElem?_inj
def eU:=@Array.toList_extract
def eV:=@PySem.wpAny_askSetting
def eW:=@Nat.testBit_zero
def eX:=@Nat.lt_or_ge
def eY:=@PySem.Calls.call_function_entry
def eZ:=@List.getLastD_eq_getLast?
def fb:=@List.getLast?_eq_getElem?
def fe:=@List.reverse_append
def ff:=@List.filter_sublist
def fg:=@PySem.Paired.length
def fh:=@PySem.F.args_tuple_add_2
def fj:=@PyProof.Rows.entry_list_sort
def fm:=@PyProof.Rows.get?_update_seq
def fo:=@List.range_succ
def fq:=@List.filter_nil
def fw:=@Int.natCast_nonneg
def fz:=@PySem.SeqAt.EqAt.int_int
def fJ:=@PySem.tupleKind_room_in1
def fQ:=@of_decide_eq_false
def fS:=@Bool.false_eq_true
def fY:=@List.getElem_idxOf
def fZ:=@PySem.F.entry_tuple_add
def ga:=@Bool.false_and
def gb:=@PySem.W.cellsFrom_some
def gc:=@PySem.F.slot_tuple_add
def gd:=@PySem.Calls.callWith_builtin
def gf:=@Option.some.injEq
def gh:=@PyProof.Rows.slot_list_sort
def gj:=@Bool.or_true
def gm:=@List.nodup_append
def gq:=@PyProof.Rows.wpS_get
def gt:=@List.Perm.append_right
def gu:=@Nat.sub_self
def gw:=@Nat.testBit_lt_two_pow
def gx:=@List.pairwise_lt_range
def gy:=@Nat.testBit_eq_decide_div_mod_eq
def gz:=@List.length_replicate
def gA:=@List.length_singleton
def gB:=@PySem.builtinLookup_eq_fast
def gC:=@PySem.wpAny_load
def gE:=@List.length_drop
def gF:=@beq_self_eq_true
def gG:=@Nat.lt_succ_self
def gH:=@PyProof.Rows.size_push'
def gI:=@PySem.Heap.size_update
def gJ:=@beq_iff_eq
def gL:=@List.any_cons
def gM:=@PySem.W.mg_of
def gN:=@Sum.inl.inj
def gO:=@PySem.Around.frames_deeper
def gP:=@Nat.pow_lt_pow_right
def gQ:=@PyProof.Rows.wpS_lift
def gR:=@Bool.and_eq_true_iff
def gS:=@Bool.or_eq_false_iff
def gU:=@PySem.wpAny_execs_nil
def gW:=@List.foldl_cons
def gX:=@Bool.or_eq_true
def gY:=@List.filterMap_cons
def gZ:=@PySem.Heap.SameBut.update
def g5:=@PySem.W.callWith_of
def g6:=@Nat.mul_le_mul_left
def g7:=@List.map_nil
def g8:=@PySem.F.plain_proto_collect
def g9:=@PyProof.Rows.plain_sorted
def hG:=@PyProof.Rows.entry_sorted
def hV:=@PyProof.Rows.listItems_at
def h9:=@getElem?_pos
def ic:=@List.any_map
def ie:=@PySem.F.slot_int_bit_length
def ig:=@PySem.F.type_int_bit_length
def ik:=@PySem.Calls.Name_function_global
def im:=@Int.fdiv_eq_ediv_of_nonneg
def io:=@PySem.wpAny_call
def iq:=@PySem.wpAny_newFunctionEnv_cells
def ir:=@PySem.wpAny_runValue
def iu:=@List.drop_drop
def iw:=@List.getElem?_drop
def ix:=@List.take_zero
def iy:=@Array.toList_setIfInBounds
def iA:=@List.perm_ext_iff_of_nodup
def iB:=@Nat.lt_trichotomy
def iC:=@List.drop_sublist
def iE:=@PyProof.Rows.kind_sorted
def iF:=@Option.isSome_map
def iG:=@PyProof.Rows.seqEpoch_at
def iH:=@bne_self_eq_false
def iI:=@Nat.or_lt_two_pow
def iJ:=@decide_eq_true_eq
def iK:=@List.map_id
def iM:=@List.all_cons
def iN:=@Bool.false_or
def iP:=@Bool.true_and
def iQ:=@List.Pairwise.imp_of_mem
def iR:=@PySem.F.slot_tuple_index
def iS:=@PySem.F.type_tuple_index
def iT:=@List.getElem?_replicate
def iU:=@PySem.noFill_tuple_add
def iV:=@List.length_eq_zero_iff
def iW:=@PySem.wpAny_isInstance
def iX:=@Array.toList_map
def iY:=@List.pairwise_singleton
def iZ:=@List.pairwise_mergeSort
def i4:=@List.getElem?_set_self
def i5:=@PySem.call_meets
def i6:=@PySem.Walks.list
def i7:=@PySem.wpAny_typeOf
def i8:=@List.all_map
def i9:=@List.drop_eq_nil_of_le
def ja:=@Int.zero_add
def jc:=@PySem.F.plainAttrs_int
def jd:=@List.flatMap_singleton
def jf:=@List.forIn_cons
def jg:=@PySem.typeLookup_type
def jh:=@PySem.Heap.DictOf.new
def ji:=@PySem.W.keeps_F
def jk:=@List.Perm.of_eq
def jl:=@Array.Perm.refl
def jm:=@List.length_zip
def jn:=@and_congr_right
def jo:=@PySem.F.slot_set_iter
def jp:=@List.set_append_right
def jq:=@List.getElem?_set_ne
def jr:=@if_false
def jt:=@List.nodup_nil
def ju:=@PySem.isSubtype_type
def jw:=@PySem.wpAny_newTuple
def jx:=@PySem.W.kla_callFunE
def jy:=@PySem.W.kla_codeExpr
def jz:=@List.drop_zero
def ka:=@List.reverse_reverse
def kf:=@if_true
def kg:=@List.mergeSort_perm
def kh:=@List.map_eq_nil_iff
def ki:=@List.filter_eq_self
def kj:=@Bool.not_true
def km:=@List.map_take
def kn:=@List.sum_cons
def ko:=@Array.append_assoc
def kq:=@List.mem_filterMap
def ku:=@PySem.W.callWith_K
def kx:=@PySem.W.codeRec_of
def kz:=@Nat.lt_of_le_of_lt
def la:=@not_or
def lb:=@Array.empty_append
def lc:=@Int.emod_lt_of_pos
def lg:=@Nat.and_one_is_mod
def lh:=@Int.natAbs_natCast
def lj:=@Nat.add_comm
def ln:=@Nat.add_zero
open PySem.W (codeHdIn envX findIn fnMade instObj keepIn kitOne kitx_dict kitx_list kla_fn kla_obj lookIn methodObj mg_of mroIn plainGet tabObj)
open List (range' replicate)
open Nat (strongRecOn)
open Array (size_map)
open Option (getD_none map_some)
namespace L2
open PySem PySem.Spec PyProof.Rows
def y8 (s:Stmt):Arguments:=match s with
 | .FunctionDef _ a _ _ _ _ _ _ _ _=>a
 | _=> { posonlyargs:=[],args:=[],vararg:=none,kwonlyargs:=[],kw_defaults:=[],kwarg:=none,defaults:=[]}
def jC (s:Stmt):List Stmt:=match s with
 | .FunctionDef _ _ b _ _ _ _ _ _ _=>b
 | _=> []
def j6 (s:Stmt):Scope:=match s with
 | .FunctionDef _ _ _ _ _ _ sc _ _ _=>sc
 | _=> { kind:= .function,names:=[],isGenerator:=false,isCoroutine:=false}
end L2
namespace Eo
open PySem L2
def top (i:Nat):Stmt:=PySem.Challenge.pw_eachonce_k65_least_mends.main.body.getD i (.Pass ⟨0,0,0,0⟩)
abbrev jC0:Stmt:=top 1
abbrev jAK:Stmt:=top 2
abbrev jDB:Stmt:=top 3
abbrev sMask:Stmt:=top 4
abbrev jD9:Stmt:=top 5
abbrev kX:Stmt:=top 7
abbrev yF:Stmt:=top 13
abbrev sFull:Stmt:=top 14
abbrev sAt:Stmt:=top 15
abbrev sMet:Stmt:=top 16
abbrev qO:Stmt:=top 17
abbrev qL:Stmt:=top 18
abbrev sMany:Stmt:=top 19
abbrev jBB:Stmt:=top 22
abbrev jAZ:Stmt:=top 23
abbrev sBar:Stmt:=top 24
abbrev jB9:Stmt:=top 25
abbrev yT:Stmt:=top 26
abbrev yH:Stmt:=top 27
abbrev yG:Stmt:=top 28
abbrev sCell:Stmt:=top 30
abbrev sPot:Stmt:=top 31
abbrev sTake:Stmt:=top 32
abbrev sLot:Stmt:=top 33
abbrev sBox:Stmt:=top 34
abbrev jE2:Stmt:=top 35
abbrev jAX:Stmt:=top 36
abbrev qP:Stmt:=top 37
abbrev sCovs:Stmt:=top 38
abbrev jA8:Stmt:=top 39
abbrev sWBar:Stmt:=top 40
abbrev q0:Stmt:=top 41
abbrev jDA:Stmt:=top 42
abbrev jAY:Stmt:=top 43
abbrev jB0:Stmt:=top 44
abbrev sWDue:Stmt:=top 45
abbrev sLaw:Stmt:=top 46
def kC (x:Str)(t:Nat)(l n:Int)(a:Nat)(X Y:Value)(z:Nat)(u:Int)(v:Nat):Obj:=⟨.type "code",none, .fields #[.str x t, .str x (t+1), .str "/claim/cut.py" (t+2), .int l 0, .int n 0, .int 0 0, .int 0 0, .int 3 0, .ref a, .bool true, .int 181 0, .ref (a+1), .none,X,Y, .ref z, .int u 0, .int l 0, .str "/claim/cut.py" v],#[]⟩
def kF (x:Str)(s:Stmt)(m:Str)(t c:Nat):Obj:=⟨.type "function",none, .func (PySem.W.fnOf x x (y8 s) (jC s) (j6 s) .none .none .none (.str m t) none (.ref c) .none),#[]⟩
def kM (P:Params):Obj:=
 let e (x:Str) (t:Nat) (v:Value):DictEntry:=⟨PyData.keyHash P x, .str x t,v⟩
 ⟨.type "dict",none, .dict #[e "__name__" 165 (.str "law_eachonce_k65_least_mends" 388),e "__doc__" 166 (.none),e "__package__" 167 (.none),e "__loader__" 168 (.builtin "__main__.__loader__#opaque"),e "__spec__" 169 (.none),e "__annotations__" 170 (.ref 6),e "__builtins__" 171 (.ref 4),e "__file__" 173 (.str "/claim/cut.py" 172),e "__cached__" 174 (.none),e "is_whole" 195 (.ref 21),e "is_rising" 201 (.ref 26),e "is_lot" 209 (.ref 33),e "mask_of" 215 (.ref 38),e "lot_of" 221 (.ref 43),e "picked" 229 (.ref 48),e "OnceError" 249 (.ref 58),e "TooMany" 265 (.ref 71),e "NoThing" 281 (.ref 83),e "choices_of" 289 (.ref 90),e "full_mask" 296 (.ref 97),e "choices_at" 302 (.ref 102),e "masks_met" 315 (.ref 109),e "gathered" 321 (.ref 114),e "ways_of" 328 (.ref 121),e "many" 335 (.ref 128),e "MOST_THINGS_WITH_BARS" 339 (.int 9 338),e "have_common" 345 (.ref 133),e "narrowed" 351 (.ref 138),e "is_bar" 359 (.ref 145),e "is_within" 365 (.ref 150),e "least_lots" 371 (.ref 155),e "least_bars" 379 (.ref 162),e "least_mends" 387 (.ref 169),e "_law_cell_at" 397 (.ref 176),e "_law_pot" 407 (.ref 183),e "_law_take" 416 (.ref 190),e "_law_lot" 422 (.ref 195),e "_law_box" 428 (.ref 200),e "_law_whole" 435 (.ref 207),e "_law_wholes" 441 (.ref 212),e "_law_from" 447 (.ref 217),e "_law_coverings" 453 (.ref 222),e "_law_narrowed" 459 (.ref 227),e "_law_is_bar" 467 (.ref 234),e "_law_lots" 473 (.ref 239),e "_law_in" 479 (.ref 244),e "_law_least" 485 (.ref 249),e "_law_is_lots" 491 (.ref 254),e "_law_due" 497 (.ref 259),e "law" 509 (.ref 266)] 50,#[]⟩
def kK (P:Params):W.Frag:=(nat_lit 3,kM P)::(nat_lit 4,⟨.type "module",some 0, .plain,#[]⟩)::(nat_lit 20,kC "is_whole" 189 2 1 15 (.ref 17) (.ref 18) 19 193 194)::(nat_lit 21,kF "is_whole" jC0 "eachonce.kinds" 187 20)::(nat_lit 25,kC "is_rising" 196 4 1 22 (.none) (.none) 24 199 200)::(nat_lit 26,kF "is_rising" jAK "eachonce.kinds" 187 25)::(nat_lit 32,kC "is_lot" 202 10 2 27 (.ref 29) (.ref 30) 31 207 208)::(nat_lit 33,kF "is_lot" jDB "eachonce.kinds" 187 32)::(nat_lit 37,kC "mask_of" 210 14 1 34 (.none) (.none) 36 213 214)::(nat_lit 38,kF "mask_of" sMask "eachonce.kinds" 187 37)::(nat_lit 42,kC "lot_of" 216 16 1 39 (.none) (.none) 41 219 220)::(nat_lit 43,kF "lot_of" jD9 "eachonce.kinds" 187 42)::(nat_lit 47,kC "picked" 224 19 3 44 (.none) (.none) 46 227 228)::(nat_lit 48,kF "picked" kX "eachonce.boxes" 222 47)::(nat_lit 89,kC "choices_of" 284 33 1 86 (.none) (.none) 88 287 288)::(nat_lit 90,kF "choices_of" yF "eachonce.coverings" 282 89)::(nat_lit 96,kC "full_mask" 290 38 1 91 (.ref 93) (.ref 94) 95 294 295)::(nat_lit 97,kF "full_mask" sFull "eachonce.coverings" 282 96)::(nat_lit 101,kC "choices_at" 297 40 2 98 (.none) (.none) 100 300 301)::(nat_lit 102,kF "choices_at" sAt "eachonce.coverings" 282 101)::(nat_lit 108,kC "masks_met" 303 43 1 103 (.ref 105) (.ref 106) 107 313 314)::(nat_lit 109,kF "masks_met" sMet "eachonce.coverings" 282 108)::(nat_lit 113,kC "gathered" 316 55 3 110 (.none) (.none) 112 319 320)::(nat_lit 114,kF "gathered" qO "eachonce.coverings" 282 113)::(nat_lit 120,kC "ways_of" 322 64 1 115 (.ref 117) (.ref 118) 119 326 327)::(nat_lit 121,kF "ways_of" qL "eachonce.coverings" 282 120)::(nat_lit 127,kC "many" 329 66 1 122 (.ref 124) (.ref 125) 126 333 334)::(nat_lit 128,kF "many" sMany "eachonce.coverings" 282 127)::(nat_lit 132,kC "have_common" 340 70 2 129 (.none) (.none) 131 343 344)::(nat_lit 133,kF "have_common" jBB "eachonce.bars" 336 132)::(nat_lit 137,kC "narrowed" 346 72 2 134 (.none) (.none) 136 349 350)::(nat_lit 138,kF "narrowed" jAZ "eachonce.bars" 336 137)::(nat_lit 144,kC "is_bar" 352 76 2 139 (.ref 141) (.ref 142) 143 357 358)::(nat_lit 145,kF "is_bar" sBar "eachonce.bars" 336 144)::(nat_lit 149,kC "is_within" 360 78 2 146 (.none) (.none) 148 363 364)::(nat_lit 150,kF "is_within" jB9 "eachonce.bars" 336 149)::(nat_lit 154,kC "least_lots" 366 80 2 151 (.none) (.none) 153 369 370)::(nat_lit 155,kF "least_lots" yT "eachonce.bars" 336 154)::(nat_lit 161,kC "least_bars" 372 86 1 156 (.ref 158) (.ref 159) 160 377 378)::(nat_lit 162,kF "least_bars" yH "eachonce.bars" 336 161)::(nat_lit 168,kC "least_mends" 380 90 1 163 (.ref 165) (.ref 166) 167 385 386)::(nat_lit 169,kF "least_mends" yG "eachonce.bars" 336 168)::(nat_lit 175,kC "_law_cell_at" 390 94 2 170 (.ref 172) (.ref 173) 174 395 396)::(nat_lit 176,kF "_law_cell_at" sCell "law_eachonce_k65_least_mends" 388 175)::(nat_lit 182,kC "_law_pot" 398 98 1 177 (.ref 179) (.ref 180) 181 405 406)::(nat_lit 183,kF "_law_pot" sPot "law_eachonce_k65_least_mends" 388 182)::(nat_lit 189,kC "_law_take" 408 107 2 184 (.ref 186) (.ref 187) 188 414 415)::(nat_lit 190,kF "_law_take" sTake "law_eachonce_k65_least_mends" 388 189)::(nat_lit 194,kC "_law_lot" 417 111 2 191 (.none) (.none) 193 420 421)::(nat_lit 195,kF "_law_lot" sLot "law_eachonce_k65_least_mends" 388 194)::(nat_lit 199,kC "_law_box" 423 120 3 196 (.none) (.none) 198 426 427)::(nat_lit 200,kF "_law_box" sBox "law_eachonce_k65_least_mends" 388 199)::(nat_lit 206,kC "_law_whole" 429 138 1 201 (.ref 203) (.ref 204) 205 433 434)::(nat_lit 207,kF "_law_whole" jE2 "law_eachonce_k65_least_mends" 388 206)::(nat_lit 211,kC "_law_wholes" 436 140 1 208 (.none) (.none) 210 439 440)::(nat_lit 212,kF "_law_wholes" jAX "law_eachonce_k65_least_mends" 388 211)::(nat_lit 216,kC "_law_from" 442 142 3 213 (.none) (.none) 215 445 446)::(nat_lit 217,kF "_law_from" qP "law_eachonce_k65_least_mends" 388 216)::(nat_lit 221,kC "_law_coverings" 448 155 1 218 (.none) (.none) 220 451 452)::(nat_lit 222,kF "_law_coverings" sCovs "law_eachonce_k65_least_mends" 388 221)::(nat_lit 226,kC "_law_narrowed" 454 157 2 223 (.none) (.none) 225 457 458)::(nat_lit 227,kF "_law_narrowed" jA8 "law_eachonce_k65_least_mends" 388 226)::(nat_lit 233,kC "_law_is_bar" 460 164 2 228 (.ref 230) (.ref 231) 232 465 466)::(nat_lit 234,kF "_law_is_bar" sWBar "law_eachonce_k65_least_mends" 388 233)::(nat_lit 238,kC "_law_lots" 468 166 1 235 (.none) (.none) 237 471 472)::(nat_lit 239,kF "_law_lots" q0 "law_eachonce_k65_least_mends" 388 238)::(nat_lit 243,kC "_law_in" 474 172 2 240 (.none) (.none) 242 477 478)::(nat_lit 244,kF "_law_in" jDA "law_eachonce_k65_least_mends" 388 243)::(nat_lit 248,kC "_law_least" 480 174 1 245 (.none) (.none) 247 483 484)::(nat_lit 249,kF "_law_least" jAY "law_eachonce_k65_least_mends" 388 248)::(nat_lit 253,kC "_law_is_lots" 486 180 2 250 (.none) (.none) 252 489 490)::(nat_lit 254,kF "_law_is_lots" jB0 "law_eachonce_k65_least_mends" 388 253)::(nat_lit 258,kC "_law_due" 492 182 1 255 (.none) (.none) 257 495 496)::(nat_lit 259,kF "_law_due" sWDue "law_eachonce_k65_least_mends" 388 258)::(nat_lit 265,kC "law" 498 188 1 260 (.ref 262) (.ref 263) 264 507 508)::(nat_lit 266,kF "law" sLaw "law_eachonce_k65_least_mends" 388 265)::[]
def kA:List Addr:=[3,4,20,21,25,26,32,33,37,38,42,43,47,48,89,90,96,97,101,102,108,109,113,114,120,121,127,128,132,133,137,138,144,145,149,150,154,155,161,162,168,169,175,176,182,183,189,190,194,195,199,200,206,207,211,212,216,217,221,222,226,227,233,234,238,239,243,244,248,249,253,254,258,259,265,266]
def vw:Program:= { PySem.Challenge.pw_eachonce_k65_least_mends with main:= { PySem.Challenge.pw_eachonce_k65_least_mends.main with body:=[top 1,top 2,top 3,top 4,top 5,top 7,top 9,top 10,top 11,top 13,top 14,top 15,top 16,top 17,top 18,top 19,top 21,top 22,top 23,top 24,top 25,top 26,top 27,top 28,top 30,top 31,top 32,top 33,top 34,top 35,top 36,top 37,top 38,top 39,top 40,top 41,top 42,top 43,top 44,top 45,top 46]}}
theorem kA_eq:∀ P,kA=(kK P).map (·.1):=fun _=>by kernel_rfl
abbrev kH:PySem.W.Hook:=PySem.W.kmHook kK kA kA_eq [45,116,152,157,164]
set_option maxHeartbeats 0 in
theorem left:PySem.W.LeftO PySem.Challenge.rw_eachonce_k65_least_mends.prog vw [] (fun s=>PySem.W.xlAt vw [] s&&PySem.W.recOk (PySem.W.RowW.records (PySem.W.OpenRow.toRowW PySem.Challenge.rw_eachonce_k65_least_mends.row)) s) (PySem.W.Hook.obs kH) (PySem.W.Hook.val kH) 3100:=fun w=>by kernel_rfl
end Eo
section
namespace L2
open PySem PySem.Spec PyProof.Rows
abbrev Key:=Sum Int Str
def keyIs:Key->Value->Bool
 | .inl k,v=>Value.isInt k v
 | .inr x,v=>Value.isStrOf x v
def keyH (w:World):Key->Int
 | .inl k=>hashInt k
 | .inr x=>hashStr w x
theorem jA0:∀ {k:Key}{v:Value},keyIs k v=true->(∃ i t,k=Sum.inl i/\v=Value.int i t)\/(∃ x t,k=Sum.inr x/\v=Value.str x t)
 | .inl i,v,h=>by
  obtain⟨t,e⟩:=Value.isInt_shape (k:=i) (v:=v) h
  exact .inl ⟨i,t,rfl,e⟩
 | .inr x,v,h=>by
  obtain⟨t,e⟩:=Value.isStrOf_shape (x:=x) (v:=v) h
  exact .inr ⟨x,t,rfl,e⟩
theorem jNO (i:Int)(t:Tok):keyIs (.inl i) (.int i t)=true:=by simp [keyIs,Value.isInt]
theorem jNN (x:Str)(t:Tok):keyIs (.inr x) (.str x t)=true:=by simp [keyIs,Value.isStrOf]
theorem jVP (a b:Int):decide ((Sum.inl a:Key)=Sum.inl b)=(a==b):=by
 by_cases e:a=b
 ·subst e; simp
 ·have h:¬ (Sum.inl a:Key)=Sum.inl b:=fun q=>e (gN q)
  rw[aP h]
  exact(bO.mpr e).symm
theorem jVM (a b:Str):decide ((Sum.inr a:Key)=Sum.inr b)=decide (a=b):=by
 by_cases e:a=b
 ·subst e; simp
 ·have h:¬ (Sum.inr a:Key)=Sum.inr b:=fun q=>e (Sum.inr.inj q)
  rw[aP h,aP e]
theorem jVO (a:Int)(b:Str):decide ((Sum.inl a:Key)=Sum.inr b)=false:=aP (fun q=>nomatch q)
theorem jVN (a:Str)(b:Int):decide ((Sum.inr a:Key)=Sum.inl b)=false:=aP (fun q=>nomatch q)
def kT (prog:Program)(w:World):PySem.KeyKind prog w Key where
 is:=keyIs
 hash:=keyH w
 inj:=fun v a b ha hb=>by
  rcases jA0 ha with ⟨i,t,rfl,rfl⟩ | ⟨x,t,rfl,rfl⟩
  ·rcases jA0 hb with ⟨j,u,rfl,e⟩ | ⟨y,u,rfl,e⟩
   ·injection e with e1 _; rw[e1]
   ·exact nomatch e
  ·rcases jA0 hb with ⟨j,u,rfl,e⟩ | ⟨y,u,rfl,e⟩
   ·exact nomatch e
   ·injection e with e1 _; rw[e1]
 byValue:=fun k v h=>by
  rcases jA0 h with ⟨i,t,rfl,rfl⟩ | ⟨x,t,rfl,rfl⟩ <;> rfl
 pyHash:=fun hv h=>by
  rcases jA0 hv with ⟨i,t,rfl,rfl⟩ | ⟨x,t,rfl,rfl⟩
  ·exact wpAny_pyHash_int h
  ·exact wpAny_pyHash_str h
 eqBool:=fun hu hv h=>by
  rcases jA0 hu with ⟨i,t,rfl,rfl⟩ | ⟨x,t,rfl,rfl⟩
  ·rcases jA0 hv with ⟨j,u,rfl,rfl⟩ | ⟨y,u,rfl,rfl⟩
   ·rw[jVP] at h; exact wpAny_eqBool_int h
   ·rw[jVO] at h; exact SeqAt.EqAt.int_str i t y u _ _ _ _ h
  ·rcases jA0 hv with ⟨j,u,rfl,rfl⟩ | ⟨y,u,rfl,rfl⟩
   ·rw[jVN] at h; exact SeqAt.EqAt.str_int x t j u _ _ _ _ h
   ·rw[jVM] at h; exact wpAny_eqBool_str h
 «strs»:=fun k x t v h=>by
  rcases jA0 h with ⟨i,u,rfl,e⟩ | ⟨y,u,rfl,e⟩
  ·exact nomatch e
  ·injection e with e1 _
   subst e1
   cases v <;> rfl
theorem jIR (prog:Program)(w:World)(i:Int)(t:Tok):(kT prog w).is (.inl i) (.int i t)=true:=jNO i t
theorem jIQ (prog:Program)(w:World)(x:Str)(t:Tok):(kT prog w).is (.inr x) (.str x t)=true:=jNN x t
inductive V where
 | non | bl (b:Bool) | int (i:Int) | str (x:Str) | byt (b:Array UInt8) | flt (b:UInt64) | ref (a:Addr) | ty (n:String)
 deriving DecidableEq
def RelV:V->Value->Prop
 | .non,u=>u=Value.none
 | .bl b,u=>u=Value.bool b
 | .int i,u=>∃ t,u=Value.int i t
 | .str x,u=>∃ t,u=Value.str x t
 | .byt b,u=>∃ t,u=Value.bytes b t
 | .flt b,u=>∃ t,u=Value.float b t
 | .ref a,u=>u=Value.ref a
 | .ty n,u=>u=Value.type n
abbrev Vals:List V->List Value->Prop:=Paired RelV
theorem Vals.length {xs:List V}{us:List Value}(r:Vals xs us):xs.length=us.length:=fg r
theorem Vals.get:∀ {xs:List V}{us:List Value}{i:Nat}{x:V},Vals xs us->xs[i]?=some x->∃ u,us[i]?=some u/\RelV x u
 | _,_,_,_, .nil,e=>by simp at e
 | _,_,0,_, .cons r _,e=>by simp at e; subst e; exact⟨_,rfl,r⟩
 | _,_,i+1,x, .cons _ t,e=>by
  obtain⟨u,h1,h2⟩:=Vals.get (i:=i) (x:=x) t (by simpa using e)
  exact⟨u,by simpa using h1,h2⟩
theorem Vals.set {x:V}{u:Value}(r:RelV x u):∀ {xs:List V}{us:List Value}(i:Nat),Vals xs us->Vals (xs.set i x) (us.set i u)
 | _,_,_, .nil=> .nil
 | _,_,0, .cons _ t=> .cons r t
 | _,_,i+1, .cons q t=> .cons q (Vals.set r i t)
theorem Vals.append:∀ {xs ys:List V}{us ws:List Value},Vals xs us->Vals ys ws->Vals (xs++ys) (us++ws)
 | _,_,_,_, .nil,s=>s
 | _,_,_,_, .cons r t,s=> .cons r (Vals.append t s)
theorem Vals.take:∀ {xs:List V}{us:List Value}(n:Nat),Vals xs us->Vals (xs.take n) (us.take n)
 | _,_,0,_=> .nil
 | _,_,_+1, .nil=> .nil
 | _,_,n+1, .cons r t=> .cons r (Vals.take n t)
theorem Vals.drop:∀ {xs:List V}{us:List Value}(n:Nat),Vals xs us->Vals (xs.drop n) (us.drop n)
 | _,_,0,r=>r
 | _,_,_+1, .nil=> .nil
 | _,_,n+1, .cons _ t=>Vals.drop n t
def RelO:Option V->Option Value->Prop
 | some v,some u=>RelV v u
 | none,none=>True
 | _,_=>False
def KV {κ:Type} :List (κ×V)->List (κ×Value)->Prop:=Paired fun (p:κ×V) (q:κ×Value)=>p.1=q.1/\RelV p.2 q.2
def kV:Key->V
 | .inl i=> .int i
 | .inr x=> .str x
def TupO (h:Heap)(a:Addr)(items:Array Value):Prop:=∃ n,h.get? a=some { cls:= .type "tuple",data:= .seq items n}
theorem TupO.isTup {h:Heap}{a:Addr}{items:Array Value}(x:TupO h a items):IsTup h a items:=let ⟨n,e⟩:=x; ⟨_,e,rfl,n,rfl⟩
theorem TupO.new (h:Heap)(items:Array Value):TupO (h.push { cls:= .type "tuple",data:= .seq items}) h.objs.size items:=⟨0,aA _ rfl⟩
inductive HO where
  | lst (xs:List V)
  | tup (xs:List V)
  | dK (kvs:List (Key×V)) | dT (kvs:List (List Key×V))
  | set (S:Int->Bool) (n:Nat)
  | ins (C dx:Addr) (fs:List (Str×V))
  | own (x:Addr)
  | xd (fs:List (Str×V))
  | met (f x:Addr)
  | rng (lo hi:Int)
  | frz (o:Obj) (u:HO)
  | tbl (ps:Array Value)
  | ext (φ:Heap->Prop)
abbrev Hp:=Addr->Option HO
def upd (H:Hp)(a:Addr)(o:HO):Hp:=fun b=>if b=a then some o else H b
theorem j5 {H:Hp}{a:Addr}{o:HO} :upd H a o a=some o:=by unfold upd; rw[ar rfl]
theorem j8 {H:Hp}{a b:Addr}{o:HO}(h:b≠a):upd H a o b=H b:=by unfold upd; rw[ao h]
theorem ne_of {H:Hp}{a b:Addr}{o u:HO}(h:H a=some o)(h':H b=some u)(d:o≠u):a≠b:=by
 intro e; subst e; rw[h] at h'; exact d (bq h')
theorem jA {H:Hp}{a b:Addr}{o:HO}(h:H a=some o)(h':H b=none):a≠b:=by
 intro e; subst e; rw[h] at h'; cases h'
section
variable (P:Program)(w:World)
def ObjOk (H:Hp)(h:Heap)(a:Addr):HO->Prop
 | .lst xs=>xs.length<=sizeLine/\∃ (its:List Value) (n:Nat),Vals xs its/\h.get? a=some { cls:= .type "list",data:= .seq its.toArray n}
 | .tup xs=>xs.length<=sizeLine/\∃ its:List Value,Vals xs its/\TupO h a its.toArray
 | .dK kvs=>kvs.length<=sizeLine/\(a==sysModules)=false/\∃ vs,KV kvs vs/\h.DictOf (kT P w) a vs
 | .dT kvs=>kvs.length<=sizeLine/\(a==sysModules)=false/\∃ xs:List (List Key×Addr×Value),
   Paired (fun (p:List Key×V) (q:List Key×Addr×Value)=>p.1=q.1/\H q.2.1=some (.tup (p.1.map kV))/\RelV p.2 q.2.2) kvs xs/\
   ∃ o es ep,h.get? a=some o/\o.ExactDict/\o.data= .dict es ep/\es.toList=xs.map (entryOfKey (tupleKind (kT P w)))/\(xs.map (·.1)).Nodup
 | .set S n=>h.SetOf (intKind P w) a S n
 | .ins C dx fs=>H dx=some (.own a)/\fs.length<=1000/\dx≠a/\h.get? a=some (instObj C dx)/\
   ∃ mA,h.Ns1 dx mA/\(∀ f,RelO (fs.lookup f) (mA f))/\PySem.Within mA (fs.map (·.1))
 | .own _=>∃ o,h.get? a=some o
 | .xd fs=>∃ mA,h.Ns1 a mA/\∀ f,RelO (fs.lookup f) (mA f)
 | .rng lo hi=>∃ t u v,h.get? a=some { cls:= .type "range",data:= .fields #[.int lo t, .int hi u, .int 1 v]}
 | .frz o u=>h.get? a=some o/\ObjOk H h a u
 | .tbl ps=>h.get? a=some { cls:= .none,data:= .fields ps}
 | .met f x=>h.get? a=some (methodObj (.ref f) (.ref x))
 | .ext φ=>φ h/\(∃ o,h.get? a=some o)/\∀ h1 h2:Heap,φ h1->(∀ o,h1.get? a=some o->h2.get? a=some o)->φ h2
def HOk (H:Hp)(h:Heap):Prop:=∀ a o,H a=some o->ObjOk P w H h a o
end
variable {P:Program}{w:World}{H H':Hp}{h h':Heap}{a:Addr}
section
variable {o:HO}
theorem ObjOk.lt (x:ObjOk P w H h a o):a<h.objs.size:=by
 cases o with
 | lst xs=>obtain⟨_,_,_,_,e⟩:=x; exact aE e
 | tup xs=>obtain⟨_,_,_,_,e⟩:=x; exact aE e
 | dK kvs=>obtain⟨_,_,_,_,o,_,_,e,_⟩:=x; exact aE e
 | dT kvs=>obtain⟨_,_,_,_,o,_,_,e,_⟩:=x; exact aE e
 | set S n=>obtain⟨o,_,_,_,e,_⟩:=x; exact aE e
 | ins C dx fs=>obtain⟨_,_,_,e,_⟩:=x; exact aE e
 | own y=>obtain⟨_,e⟩:=x; exact aE e
 | xd fs=>obtain⟨_,⟨_,_,_,e,_⟩,_⟩:=x; exact aE e
 | rng lo hi=>obtain⟨_,_,_,e⟩:=x; exact aE e
 | frz ob u=>obtain⟨e,_⟩:=x; exact aE e
 | tbl ps=>exact aE (show h.get? a=some _ from x)
 | met f y=>exact aE (show h.get? a=some _ from x)
 | ext φ=>obtain⟨_,⟨_,e⟩,_⟩:=x; exact aE e
theorem Paired.mapP {α β:Type}{F G:α->β->Prop} :∀ {l₁:List α}{l₂:List β},Paired F l₁ l₂->(∀ a b,F a b->G a b)->Paired G l₁ l₂
 | _,_, .nil,_=> .nil
 | _,_, .cons r t,f=> .cons (f _ _ r) (Paired.mapP t f)
theorem ObjOk.stay (x:ObjOk P w H h a o)(k:∀ b u,(b=a\/H b=some (.own a))->h.get? b=some u->h'.get? b=some u)
  (ho:∀ b,H b=some (.own a)->H' b=some (.own a)) (ht:∀ b xs,H b=some (.tup xs)->H' b=some (.tup xs)):ObjOk P w H' h' a o:=by
 induction o with
 | lst xs=>obtain⟨z,its,n,r,e⟩:=x; exact⟨z,its,n,r,k _ _ (.inl rfl) e⟩
 | tup xs=>obtain⟨z,its,r,n,e⟩:=x; exact⟨z,its,r,n,k _ _ (.inl rfl) e⟩
 | dK kvs=>obtain⟨z,y,vs,r,ob,es,ep,e,c⟩:=x; exact⟨z,y,vs,r,ob,es,ep,k _ _ (.inl rfl) e,c⟩
 | dT kvs=>
  obtain⟨z,y,xs,r,ob,es,ep,e,c⟩:=x
  exact⟨z,y,xs,Paired.mapP r fun p q z=>⟨z.1,ht _ _ z.2.1,z.2.2⟩,ob,es,ep,k _ _ (.inl rfl) e,c⟩
 | set S n=>obtain⟨ob,es,ep,t,e,c⟩:=x; exact⟨ob,es,ep,t,k _ _ (.inl rfl) e,c⟩
 | ins C dx fs=>
  obtain⟨d,z,ne,e,mA,⟨od,es,ep,e2,c⟩,r⟩:=x
  exact⟨ho _ d,z,ne,k _ _ (.inl rfl) e,mA,⟨od,es,ep,k _ _ (.inr d) e2,c⟩,r⟩
 | own y=>obtain⟨ob,e⟩:=x; exact⟨ob,k _ _ (.inl rfl) e⟩
 | xd fs=>obtain⟨mA,⟨od,es,ep,e,c⟩,r⟩:=x; exact⟨mA,⟨od,es,ep,k _ _ (.inl rfl) e,c⟩,r⟩
 | rng lo hi=>obtain⟨t,u,v,e⟩:=x; exact⟨t,u,v,k _ _ (.inl rfl) e⟩
 | frz ob u ih=>obtain⟨e,q⟩:=x; exact⟨k _ _ (.inl rfl) e,ih q⟩
 | tbl ps=>
  have e:h.get? a=some { cls:= .none,data:= .fields ps} :=x
  show h'.get? a=some { cls:= .none,data:= .fields ps}
  exact k a _ (.inl rfl) e
 | met f y=>
  have e:h.get? a=some (methodObj (.ref f) (.ref y)):=x
  show h'.get? a=some (methodObj (.ref f) (.ref y))
  exact k a _ (.inl rfl) e
 | ext φ=>obtain⟨p,⟨o,e⟩,st⟩:=x; exact⟨st _ _ p fun o q=>k _ _ (.inl rfl) q,⟨o,k _ _ (.inl rfl) e⟩,st⟩
theorem HOk.lt (x:HOk P w H h)(e:H a=some o):a<h.objs.size:=(x a o e).lt
theorem HOk.fresh (x:HOk P w H h)(e:h.objs.size<=a):H a=none:=by
 cases q:H a with
 | none=>rfl
 | some u=>exact absurd (aO (x.lt q) e) (cJ _)
theorem HOk.kept (x:HOk P w H h)(k:∀ b u,h.get? b=some u->h'.get? b=some u):HOk P w H h':=fun a o e=>
 (x a o e).stay (fun b u _ q=>k b u q) (fun _ q=>q) fun _ _ q=>q
theorem HOk.laid (x:HOk P w H h)(k:∀ b u,h.get? b=some u->h'.get? b=some u)(hp:h.objs.size<=a)(new:ObjOk P w (upd H a o) h' a o):HOk P w (upd H a o) h':=fun b u e=>by
 have hn:=x.fresh hp
 by_cases hb:b=a
 ·subst hb; rw[j5] at e; cases e; exact new
 ·rw[j8 hb] at e
  exact(x b u e).stay (fun c v _ q=>k c v q) (fun c q=>by rw[j8 (jA q hn)]; exact q) fun c xs q=>by rw[j8 (jA q hn)]; exact q
end
def Rd (H:Hp)(a:Addr)(u:HO):Prop:=H a=some u\/∃ o,H a=some (.frz o u)
theorem Rd.ok {P:Program}{w:World}{H:Hp}{h:Heap}{a:Addr}{u:HO}(r:Rd H a u)(x:HOk P w H h):ObjOk P w H h a u:=by
 rcases r with r | ⟨o,r⟩
 ·exact x a u r
 ·obtain⟨_,q⟩:=x a _ r
  exact q
def Mut:Option HO->Prop
 | some (.lst _)=>True
 | some (.dK _)=>True
 | some (.dT _)=>True
 | some (.set _ _)=>True
 | some (.ins _ _ _)=>True
 | some (.ext _)=>True
 | _=>False
variable {x:Addr}
section
variable {e:Addr}{o':HO}
theorem HOk.write (ok:HOk P w H h)(mu:Mut (H x))(he:e=x\/H e=some (.own x))(k:∀ b u,b≠e->h.get? b=some u->h'.get? b=some u)(heo:∃ u,h'.get? e=some u)
  (new:ObjOk P w (upd H x o') h' x o'):HOk P w (upd H x o') h':=fun b u q=>by
 have nown:∀ c y,H c=some (.own y)->c≠x:=fun c y r z=>by subst z; rw[r] at mu; exact mu
 have ntup:∀ c xs,H c=some (.tup xs)->c≠x:=fun c xs r z=>by subst z; rw[r] at mu; exact mu
 by_cases hb:b=x
 ·subst hb; rw[j5] at q; cases q; exact new
 ·rw[j8 hb] at q
  by_cases hbe:b=e
  ·have q':H b=some (.own x):=by
    rcases he with z | z
    ·exact absurd (hbe.trans z) hb
    ·rw[hbe]; exact z
   rw[q] at q'; cases q'
   obtain⟨v,hv⟩:=heo
   exact⟨v,by rw[hbe]; exact hv⟩
  ·refine(ok b u q).stay (fun c v hc r=>k c v ?_ r) (fun c r=>by rw[j8 (nown c b r)]; exact r) fun c xs r=>by rw[j8 (ntup c xs r)]; exact r
   rcases hc with rfl | hc
   ·exact hbe
   ·rintro rfl
    rcases he with z | z
    ·exact nown c b hc z
    ·rw[hc] at z; cases z; exact hb rfl
end
structure Un (fs ex:List Addr)(H H':Hp)(h h':Heap):Prop where
 keep:∀ b o,h.get? b=some o->H b=none->b∉fs->b∉ex->h'.get? b=some o
 slot:∀ b o,h.get? b=some o->H b=none->b∈fs->b∉ex->∃ sl,h'.get? b=some { o with slots:=sl}
 free:∀ b o,h.get? b=some o->H b=none->b∉ex->H' b=none
 there:∀ b o,h.get? b=some o->b∉ex->∃ o',h'.get? b=some o'
 tups:∀ b xs,H b=some (.tup xs)->H' b=some (.tup xs)
 frzs:∀ b o u,H b=some (.frz o u)->H' b=some (.frz o u)
 tbls:∀ b ps,H b=some (.tbl ps)->∃ more,H' b=some (.tbl (ps++more))
section
variable {fs fs' ex ex':List Addr}{H1 H2:Hp}{h1 h2:Heap}{e:Addr}{o:HO}
theorem Un.any (u:Un fs ex H H1 h h1){b:Addr}{ob:Obj}(q:h.get? b=some ob)(n:H b=none)(hx:b∉ex):∃ sl,h1.get? b=some { ob with slots:=sl} :=by
 by_cases hb:b∈fs
 ·exact u.slot b ob q n hb hx
 ·exact⟨ob.slots,u.keep b ob q n hb hx⟩
theorem Un.trans (a:Un fs ex H H1 h h1)(b:Un fs ex H1 H2 h1 h2):Un fs ex H H2 h h2 where
 keep:=fun c ob q n hc hx=>b.keep c ob (a.keep c ob q n hc hx) (a.free c ob q n hx) hc hx
 slot:=fun c ob q n hc hx=>by
  obtain⟨sl,e1⟩:=a.slot c ob q n hc hx
  obtain⟨sl',e2⟩:=b.slot c _ e1 (a.free c ob q n hx) hc hx
  exact⟨sl',e2⟩
 free:=fun c ob q n hx=>by
  obtain⟨o',e1⟩:=a.there c ob q hx
  exact b.free c o' e1 (a.free c ob q n hx) hx
 there:=fun c ob q hx=>by
  obtain⟨o',e1⟩:=a.there c ob q hx
  exact b.there c o' e1 hx
 tups:=fun c xs q=>b.tups c xs (a.tups c xs q)
 frzs:=fun c ob xs q=>b.frzs c ob xs (a.frzs c ob xs q)
 tbls:=fun c ps q=>by
  obtain⟨m1,e1⟩:=a.tbls c ps q
  obtain⟨m2,e2⟩:=b.tbls c _ e1
  exact⟨m1++m2,by rw[e2,ko]⟩
theorem Un.kept (k:∀ b u,h.get? b=some u->h'.get? b=some u):Un fs ex H H h h':=
 ⟨fun b ob q _ _ _=>k b ob q,fun b ob q _ _ _=>⟨ob.slots,k b ob q⟩,fun _ _ _ n _=>n,fun b ob q _=>⟨ob,k b ob q⟩,fun _ _ q=>q,fun _ _ _ q=>q,fun _ ps q=>⟨#[],by rw[q]; simp⟩⟩
theorem Un.refl:Un fs ex H H h h:=Un.kept fun _ _ q=>q
theorem Un.laid (k:∀ b u,h.get? b=some u->h'.get? b=some u)(hp:h.objs.size<=a)(hn:H a=none):Un fs ex H (upd H a o) h h' where
 keep:=fun b u q _ _ _=>k b u q
 slot:=fun b u q _ _ _=>⟨u.slots,k b u q⟩
 free:=fun b u q n _=>by rw[j8 (aQ (aO (aE q) hp))]; exact n
 there:=fun b u q _=>⟨u,k b u q⟩
 tups:=fun b xs q=>by rw[j8 (jA q hn)]; exact q
 frzs:=fun b u xs q=>by rw[j8 (jA q hn)]; exact q
 tbls:=fun b ps q=>⟨#[],by rw[j8 (jA q hn),q]; simp⟩
theorem Un.write (mu:Mut (H x))(he:e=x\/H e=some (.own x))(k:∀ b u,b≠e->h.get? b=some u->h'.get? b=some u)(heo:∃ u,h'.get? e=some u):Un fs ex H (upd H x o) h h':=by
 have hx:∀ b,H b=none->b≠x:=fun b n z=>by subst z; rw[n] at mu; exact mu
 have hb:∀ b,H b=none->b≠e:=fun b n z=>by
  subst z
  rcases he with r | r
  ·exact hx b n r
  ·rw[n] at r; cases r
 have hm:∀ b u,H b=some u->¬ Mut (some u)->b≠x:=fun b u q nm z=>by subst z; rw[q] at mu; exact nm mu
 refine⟨fun b u q n _ _=>k b u (hb b n) q,fun b u q n _ _=>⟨u.slots,k b u (hb b n) q⟩,fun b u q n _=>by rw[j8 (hx b n)]; exact n,fun b u q _=>?_,
  fun b xs q=>by rw[j8 (hm b _ q fun z=>z)]; exact q,fun b u xs q=>by rw[j8 (hm b _ q fun z=>z)]; exact q,fun b ps q=>⟨#[],by rw[j8 (hm b _ q fun z=>z),q]; simp⟩⟩
 by_cases hbe:b=e
 ·subst hbe; exact heo
 ·exact⟨u,k b u hbe q⟩
end
def trk (h:Heap)(H:Hp):List Addr:=(List.range h.objs.size).filter fun a=>(H a).isSome
def hidT (h:Heap)(H:Hp):Heap:=PySem.W.hideAll h (trk h H)
theorem jO6 (h:Heap)(H:Hp):(hidT h H).objs.size=h.objs.size:=PySem.W.hideAll_size _ _
theorem jQD {h:Heap}{H:Hp}{b:Addr}{o:Obj}(e:h.get? b=some o)(n:H b=none):(hidT h H).get? b=some o:=
 PySem.W.hideAll_get _ e fun hm=>by
  have q:(H b).isSome=true:=(ba.mp hm).2
  rw[n] at q; simp at q
theorem jTA {h:Heap}{H:Hp}{b:Addr}{o:Obj}(e:(hidT h H).get? b=some o):h.get? b=some o/\H b=none:=by
 have e':h.get? b=some o:=PySem.W.of_hideAll (trk h H) e
 refine⟨e',?_⟩
 cases q:H b with
 | none=>rfl
 | some x=>
  have hm:b∈trk h H:=ba.mpr ⟨bG.mpr (aE e'),by simp [q]⟩
  have z:(hidT h H).get? b=none:=PySem.W.hideAll_none (trk h H) hm
  rw[z] at e; cases e
structure Mod (K:W.Frag)(mg:Str->Option Value)(lv:Heap):Prop where
 kin:K.In lv
 glob:lv.Ns mainGlobals mg
 blt:∃ mb,lv.Ns builtinsNs mb/\∀ x:Str,x≠ "__name__" ->mb x=bootBuiltins x
 nolimit:lv.NoLimit
structure Cx where
 prog:Program
 w:World
 K:W.Frag
 mg:Str->Option Value
 lv:Heap
 A:Around
 N:List Str
 s₀:Shared
 H₀:Hp
 env:Env
 lu:List Env
 stack:List Env
 ex:List Addr
 fn:Str->Bool
 calm:Bool
 pn:List (Addr×Obj)
 xe:Value->Shared->Prop
def frs (l:List Env):List Addr:=l.filterMap (·.frame)
abbrev Cx.fs (X:Cx):List Addr:=frs X.lu
def Vis (sc:Scope)(x:Str):Prop:=sc.names.lookup x=some .local\/sc.names.lookup x=some .cell\/sc.names.lookup x=some .free
def Loc (sc:Scope)(x:Str):Prop:=sc.names.lookup x=some .local\/sc.names.lookup x=some .cell
def Look (env:Env)(h:Heap)(m:Str->Option Value)(x:Str)(u:Value):Prop:=
 (env.kindOf x=some .local/\m x=some u)\/((env.kindOf x=some .cell\/env.kindOf x=some .free)/\∃ c,env.cells.lookup x=some c/\h.IsCell c (some u))
structure Cx.Ok (X:Cx):Prop where
 mod:Mod X.K X.mg X.lv
 kind:X.env.scope.kind= .function
 glob:X.env.globals=mainGlobals
 blt:X.env.builtins=builtinsNs
 above:X.s₀.heap.objs.size<=X.env.locals
 inj:∀ x y c,X.env.cells.lookup x=some c->X.env.cells.lookup y=some c->x=y
 has:∀ x,(X.env.kindOf x=some .cell\/X.env.kindOf x=some .free)->∃ c,X.env.cells.lookup x=some c
 cab:∀ x c,X.fn x=true->X.env.cells.lookup x=some c->X.s₀.heap.objs.size<=c
 hd:X.calm=true->X.A.handled=none
 frames:X.A.frames=some X.stack
 stk:X.stack=X.lu\/(X.stack=X.env::X.lu/\X.env.frame=some X.env.locals)
 exf:∀ b∈X.ex,b≠X.env.locals/\∀ x c,X.env.cells.lookup x=some c->c≠b
 bs:∀ b o,X.lv.get? b=some o->X.s₀.heap.get? b=some o/\X.H₀ b=none
 bsz:X.lv.objs.size<=X.s₀.heap.objs.size
 noex:∀ b o,X.lv.get? b=some o->b∉X.ex
 exfs:∀ b∈X.ex,b∉X.fs
 funs:X.s₀.heap.FunFrames X.lv X.lu
 frf:∀ b∈X.fs,X.H₀ b=none
structure Inv (X:Cx)(ad:List (Addr×Obj))(σ:List (Option V))(H:Hp)(s:Shared):Prop where
 ok:X.Ok
 os:s.os=X.s₀.os
 bare:AllBare s.gens
 lv:Un X.fs X.ex X.H₀ H X.s₀.heap s.heap
 loc:∃ m,s.heap.Ns X.env.locals m/\∀ (i:Nat) (x:Str) (v:V),X.N[i]?=some x->σ[i]?=some (some v)->Vis X.env.scope x->∃ u,RelV v u/\Look X.env s.heap m x u
 cell:∀ x c,X.env.cells.lookup x=some c->∃ v,s.heap.IsCell c v
 free:H X.env.locals=none
 freeC:∀ x c,X.env.cells.lookup x=some c->H c=none
 pin:∀ p∈X.pn++ad,s.heap.get? p.1=some p.2/\H p.1=none/\p.1≠X.env.locals/\p.1∉X.fs/\∀ v,p.2.data≠ .cell v
 hok:HOk X.prog X.w H s.heap
 len:σ.length=X.N.length
variable {X:Cx}{ad:List (Addr×Obj)}{s:Shared}
section
variable {σ:List (Option V)}
theorem Cx.Ok.nofr (ok:X.Ok){b:Addr}{o:Obj}(e:X.lv.get? b=some o):b∉X.fs:=fun hb=>by
 have:=(ok.funs.mem hb).1
 rw[e] at this; cases this
theorem Inv.bs (I:Inv X ad σ H s):∀ b o,X.lv.get? b=some o->s.heap.get? b=some o/\H b=none:=fun b o e=>
 ⟨I.lv.keep b o (I.ok.bs b o e).1 (I.ok.bs b o e).2 (I.ok.nofr e) (I.ok.noex b o e),I.lv.free b o (I.ok.bs b o e).1 (I.ok.bs b o e).2 (I.ok.noex b o e)⟩
theorem Inv.bk (I:Inv X ad σ H s):∀ b o,X.lv.get? b=some o->s.heap.get? b=some o:=fun b o e=>(I.bs b o e).1
theorem Inv.mod (I:Inv X ad σ H s):Mod X.K X.mg X.lv:=I.ok.mod
theorem Inv.kIn (I:Inv X ad σ H s):X.K.In s.heap:=I.ok.mod.kin.keeps I.bk
theorem Inv.lt (I:Inv X ad σ H s):X.env.locals<s.heap.objs.size:=let ⟨_,hn,_⟩:=I.loc; hn.lt
theorem Inv.sz (I:Inv X ad σ H s):X.s₀.heap.objs.size<=s.heap.objs.size:=bf I.ok.above (cY I.lt)
theorem Inv.nofs (I:Inv X ad σ H s){a:Addr}(h:s.heap.objs.size<=a):a∉X.fs:=fun hb=>by
 obtain⟨_,o,ho,_⟩:=I.ok.funs.mem hb
 exact absurd (aO (aE ho) (bf I.sz h)) (cJ _)
theorem Inv.cne (I:Inv X ad σ H s):∀ x c,X.env.cells.lookup x=some c->c≠X.env.locals:=fun x c e z=>by
 obtain⟨v,o,ho,hd⟩:=I.cell x c e
 obtain⟨m,⟨o',es,ep,ho',hd',_⟩,_⟩:=I.loc
 rw[z,ho'] at ho; cases ho; rw[hd'] at hd; cases hd
theorem Inv.funs (I:Inv X ad σ H s):s.heap.FunFrames X.lv X.lu:=by
 have all:∀ (l:List Env),(∀ b∈frs l,b∈X.fs)->X.s₀.heap.FunFrames X.lv l->s.heap.FunFrames X.lv l:=by
  intro l
  induction l with
  | nil=>intro _ _; trivial
  | cons env r ih=>
   intro hs hl
   obtain⟨hk,⟨L,o,hf,hn,ho,hd⟩,hr⟩:=hl
   have hL:L∈X.fs:=hs L (by unfold frs; rw[gY,hf]; exact ai)
   obtain⟨sl,e⟩:=I.lv.slot L o ho (I.ok.frf L hL) hL fun z=>I.ok.exfs L z hL
   exact⟨hk,⟨L,_,hf,hn,e,hd⟩,ih (fun b hb=>hs b (by unfold frs; rw[gY,hf]; exact ah _ hb)) hr⟩
 exact all X.lu (fun _ hb=>hb) I.ok.funs
theorem Inv.stack (I:Inv X ad σ H s):s.heap.FunFrames X.lv X.stack:=by
 rcases I.ok.stk with e | ⟨e,hf⟩
 ·rw[e]; exact I.funs
 ·rw[e]
  obtain⟨m,hn,_⟩:=I.loc
  refine .cons (by rw[I.ok.kind]; decide) hf hn ?_ I.funs
  exact Heap.get?_none_of_le (bf I.ok.bsz I.ok.above)
theorem Inv.stkSub (I:Inv X ad σ H s):∀ b∈frs X.stack,b∈X.env.locals::X.fs:=fun b hb=>by
 rcases I.ok.stk with e | ⟨e,hf⟩
 ·rw[e] at hb; exact ah _ hb
 ·rw[e] at hb
  unfold frs at hb
  rw[gY,hf] at hb
  exact hb
theorem Inv.stkFree (I:Inv X ad σ H s):∀ b∈frs X.stack,H b=none:=fun b hb=>by
 rcases aF.mp (I.stkSub b hb) with e | hb
 ·rw[e]; exact I.free
 ·obtain⟨_,o,ho,_⟩:=I.ok.funs.mem hb
  exact I.lv.free b o ho (I.ok.frf b hb) fun z=>I.ok.exfs b z hb
theorem Inv.step {g':Array GenState}{t':Nat}{d':Drawn}{ch:List Addr}(I:Inv X ad σ H s)
  (hch:∀ b∈ch,(b∈X.ex\/X.s₀.heap.objs.size<=b)/\b≠X.env.locals/\(∀ x c,X.env.cells.lookup x=some c->c≠b)/\∀ p∈X.pn++ad,p.1≠b)
  (keep:∀ b o,b≠X.env.locals->b∉X.fs->b∉ch->s.heap.get? b=some o->H b=none->h'.get? b=some o)
  (slot:∀ b o,b≠X.env.locals->b∈X.fs->b∉ch->s.heap.get? b=some o->H b=none->∃ sl,h'.get? b=some { o with slots:=sl}) (free:∀ b o,b∉ch->s.heap.get? b=some o->H b=none->H' b=none)
  (there:∀ b o,b∉ch->s.heap.get? b=some o->∃ o',h'.get? b=some o')
  (tups:∀ b xs,H b=some (.tup xs)->H' b=some (.tup xs)) (frzs:∀ b o u,H b=some (.frz o u)->H' b=some (.frz o u)) (tbls:∀ b ps,H b=some (.tbl ps)->∃ more,H' b=some (.tbl (ps++more)))
  (ns:∀ m,s.heap.Ns X.env.locals m->h'.Ns X.env.locals m) (hok:HOk X.prog X.w H' h') (hg:AllBare g'):
  Inv X ad σ H' { s with heap:=h',gens:=g',drawn:=d',toks:=t'} :=by
 have neL:∀ b o,X.s₀.heap.get? b=some o->b≠X.env.locals:=fun b o e=>aQ (aO (aE e) I.ok.above)
 have neC:∀ b o,X.s₀.heap.get? b=some o->b∉X.ex->b∉ch:=fun b o e hx hb=>by
  rcases (hch b hb).1 with z | z
  ·exact hx z
  ·exact absurd (aO (aE e) z) (cJ _)
 have cellK:∀ x c,X.env.cells.lookup x=some c->∀ v,s.heap.IsCell c v->h'.IsCell c v:=fun x c e v ⟨o,ho,hd⟩=>by
  have nch:c∉ch:=fun z=>(hch c z).2.2.1 x c e rfl
  by_cases hc:c∈X.fs
  ·obtain⟨sl,q⟩:=slot c o (I.cne x c e) hc nch ho (I.freeC x c e)
   exact⟨_,q,hd⟩
  ·exact⟨o,keep c o (I.cne x c e) hc nch ho (I.freeC x c e),hd⟩
 refine⟨I.ok,I.os,hg,⟨fun b o e n hb hx=>?_,fun b o e n hb hx=>?_,fun b o e n hx=>?_,fun b o e hx=>?_,fun b xs e=>tups b xs (I.lv.tups b xs e),fun b o xs e=>frzs b o xs (I.lv.frzs b o xs e),fun b ps e=>?_⟩,?_,fun x c e=>?_,?_,fun x c e=>?_,fun p hp=>?_,hok,I.len⟩
 ·exact keep b o (neL b o e) hb (neC b o e hx) (I.lv.keep b o e n hb hx) (I.lv.free b o e n hx)
 ·obtain⟨sl,e1⟩:=I.lv.slot b o e n hb hx
  obtain⟨sl',e2⟩:=slot b _ (neL b o e) hb (neC b o e hx) e1 (I.lv.free b o e n hx)
  exact⟨sl',e2⟩
 ·obtain⟨o',e1⟩:=I.lv.there b o e hx
  exact free b o' (neC b o e hx) e1 (I.lv.free b o e n hx)
 ·obtain⟨o',e1⟩:=I.lv.there b o e hx
  exact there b o' (neC b o e hx) e1
 ·obtain⟨m1,e1⟩:=I.lv.tbls b ps e
  obtain⟨m2,e2⟩:=tbls b _ e1
  exact⟨m1++m2,by rw[e2,ko]⟩
 ·obtain⟨m,hn,hl⟩:=I.loc
  refine⟨m,ns m hn,fun i x v e1 e2 e3=>?_⟩
  obtain⟨u,r,l⟩:=hl i x v e1 e2 e3
  refine⟨u,r,?_⟩
  rcases l with l | ⟨k,c,e,z⟩
  ·exact .inl l
  ·exact .inr ⟨k,c,e,cellK x c e _ z⟩
 ·obtain⟨v,z⟩:=I.cell x c e
  exact⟨v,cellK x c e v z⟩
 ·obtain⟨m,⟨o,_,_,ho,_⟩,_⟩:=I.loc
  exact free _ o (fun z=>(hch _ z).2.1 rfl) ho I.free
 ·obtain⟨v,o,ho,hd⟩:=I.cell x c e
  exact free c o (fun z=>(hch c z).2.2.1 x c e rfl) ho (I.freeC x c e)
 ·obtain⟨e,n,ne,nf,d⟩:=I.pin p hp
  have nch:p.1∉ch:=fun z=>(hch p.1 z).2.2.2 p hp rfl
  exact⟨keep p.1 p.2 ne nf nch e n,free p.1 p.2 nch e n,ne,nf,d⟩
theorem Inv.un {t':Nat}(I:Inv X ad σ H s)(u:Un X.fs [] H H' s.heap h')(hok:HOk X.prog X.w H' h'):Inv X ad σ H' { s with heap:=h',toks:=t'} :=by
 obtain⟨m,⟨o,es,ep,ho,r⟩,_⟩:=id I.loc
 obtain⟨sl,hL⟩:=u.any ho I.free (by simp)
 exact I.step (g':=s.gens) (d':=s.drawn) (ch:=[]) (fun _ z=>nomatch z) (fun b o _ hb _ e n=>u.keep b o e n hb (by simp)) (fun b o _ hb _ e n=>u.slot b o e n hb (by simp)) (fun b o _ e n=>u.free b o e n (by simp)) (fun b o _ e=>u.there b o e (by simp)) u.tups u.frzs u.tbls (fun m' hm=>by
  obtain⟨o',es',ep',ho',r'⟩:=hm
  rw[ho] at ho'; cases ho'
  exact⟨_,es',ep',hL,r'⟩) hok I.bare
theorem Inv.call {g':Array GenState}{t':Nat}{d':Drawn}{ch:List Addr}(I:Inv X ad σ H s)(u:Un (frs X.stack) ch H H' s.heap h')(hok:HOk X.prog X.w H' h')(hg:AllBare g')
  (hch:∀ b∈ch,(b∈X.ex\/X.s₀.heap.objs.size<=b)/\b≠X.env.locals/\(∀ x c,X.env.cells.lookup x=some c->c≠b)/\∀ p∈X.pn++ad,p.1≠b):
  Inv X ad σ H' { s with heap:=h',gens:=g',drawn:=d',toks:=t'} :=by
 obtain⟨m,⟨o,es,ep,ho,r⟩,_⟩:=id I.loc
 obtain⟨sl,hL⟩:=u.any ho I.free fun z=>(hch _ z).2.1 rfl
 exact I.step (ch:=ch) hch (fun b o hL hb hc e n=>u.keep b o e n (fun z=>(aF.mp (I.stkSub b z)).elim hL hb) hc) (fun b o _ _ hc e n=>u.any e n hc) (fun b o hc e n=>u.free b o e n hc) (fun b o hc e=>u.there b o e hc) u.tups u.frzs u.tbls (fun m' hm=>by
  obtain⟨o',es',ep',ho',r'⟩:=hm
  rw[ho] at ho'; cases ho'
  exact⟨_,es',ep',hL,r'⟩) hok hg
theorem Inv.turned {t':Nat}{it:Addr}(I:Inv X ad σ H s)(k:∀ b o,b≠it->s.heap.get? b=some o->h'.get? b=some o)(hn:H it=none)(hL:it≠X.env.locals)
  (h1:it∈X.ex\/X.s₀.heap.objs.size<=it) (h2:∀ x c,X.env.cells.lookup x=some c->c≠it) (h3:∀ p∈X.pn++ad,p.1≠it):Inv X ad σ H { s with heap:=h',toks:=t'} :=by
 have nit:∀ b u,H b=some u->b≠it:=fun b u e z=>by rw[z,hn] at e; cases e
 refine I.step (g':=s.gens) (d':=s.drawn) (ch:=[it]) (fun b hb=>?_) (fun b o _ _ hc e _=>k b o (fun z=>hc (by simp [z])) e) (fun b o _ _ hc e _=>⟨o.slots,k b o (fun z=>hc (by simp [z])) e⟩) (fun _ _ _ _ n=>n)
  (fun b o hc e=>⟨o,k b o (fun z=>hc (by simp [z])) e⟩) (fun _ _ e=>e) (fun _ _ _ e=>e) (fun b ps e=>⟨#[],by rw[e]; simp⟩) (fun m hm=>?_) (fun b u e=>?_) I.bare
 ·have e:b=it:=by simpa using hb
  subst e
  exact⟨h1,hL,h2,h3⟩
 ·obtain⟨o,es,ep,ho,r⟩:=hm
  exact⟨o,es,ep,k _ o (dW hL) ho,r⟩
 ·refine(I.hok b u e).stay (fun c v hc q=>k c v ?_ q) (fun _ q=>q) fun _ _ q=>q
  rcases hc with z | z
  ·rw[z]; exact nit b u e
  ·exact nit c _ z
theorem Inv.tok (I:Inv X ad σ H s)(t:Nat):Inv X ad σ H { s with toks:=t} :=I.un (h':=s.heap) (t':=t) Un.refl I.hok
theorem Inv.kept {t':Nat}(I:Inv X ad σ H s)(k:∀ b u,s.heap.get? b=some u->h'.get? b=some u):Inv X ad σ H { s with heap:=h',toks:=t'} :=I.un (Un.kept k) (I.hok.kept k)
theorem Inv.laid {a:Addr}{o:HO}{t':Nat}(I:Inv X ad σ H s)(k:∀ b u,s.heap.get? b=some u->h'.get? b=some u)(hp:s.heap.objs.size<=a)(new:ObjOk X.prog X.w (upd H a o) h' a o):
  Inv X ad σ (upd H a o) { s with heap:=h',toks:=t'} :=I.un (Un.laid k hp (I.hok.fresh hp)) (I.hok.laid k hp new)
theorem Inv.write {x e:Addr}{o:HO}{t':Nat}(I:Inv X ad σ H s)(mu:Mut (H x))(he:e=x\/H e=some (.own x))(k:∀ b u,b≠e->s.heap.get? b=some u->h'.get? b=some u)(heo:∃ u,h'.get? e=some u)
  (new:ObjOk X.prog X.w (upd H x o) h' x o):Inv X ad σ (upd H x o) { s with heap:=h',toks:=t'} :=I.un (Un.write mu he k heo) (I.hok.write mu he k heo new)
theorem Inv.pins_of {ad':List (Addr×Obj)}(I:Inv X ad σ H s)(h:∀ p∈ad',s.heap.get? p.1=some p.2/\H p.1=none/\p.1≠X.env.locals/\p.1∉X.fs/\∀ v,p.2.data≠ .cell v):Inv X ad' σ H s:=
 ⟨I.ok,I.os,I.bare,I.lv,I.loc,I.cell,I.free,I.freeC,fun p hp=>(aM.mp hp).elim (fun z=>I.pin p (aX _ z)) (h p),I.hok,I.len⟩
theorem jK2 {N:List Str}(hN:N.Nodup){i j:Nat}{x:Str}(a:N[i]?=some x)(b:N[j]?=some x):i=j:=by
 obtain⟨h1,e1⟩:=aj.mp a
 obtain⟨h2,e2⟩:=aj.mp b
 exact(List.getElem_inj hN).mp (e1.trans e2.symm)
theorem jGX {M:Model}{A:Around}{E:Value->Shared->Prop}{i:Nat}{x:Str}{v:V}{u:Value}{Q:Unit->Shared->Prop}(I:Inv X ad σ H s)(hN:X.N.Nodup)(hi:X.N[i]?=some x)(hx:Loc X.env.scope x)(r:RelV v u)
  (h:∀ s',Inv X ad (σ.set i (some v)) H s'->(∃ a,Heap.SameBut a s.heap s'.heap/\(a=X.env.locals\/X.env.cells.lookup x=some a))->Q () s') (hf:X.fn x=true\/X.env.scope.names.lookup x=some .local:=by first | exact .inl rfl | exact .inr rfl | assumption):wpAny M A (storeName X.env x u) Q E s:=by
 obtain⟨m,hn,hl⟩:=id I.loc
 have hcls:(X.env.scope.kind== .class || (X.env.scope.kind== .module&&X.env.locals != X.env.globals))=false:=by rw[I.ok.kind]; rfl
 have hiσ:i<σ.length:=by rw[I.len]; exact(aj.mp hi).1
 have cne:=I.cne
 have tracked:∀ {a:Addr}{h':Heap},(∃ o,s.heap.get? a=some o/\H a=none)->Heap.SameBut a s.heap h'->HOk X.prog X.w H h':=fun {a h'} ha hs b ob e=>by
  obtain⟨_,_,hfree⟩:=ha
  refine(I.hok b ob e).stay (fun c w' hc q=>(hs.2 c ?_).trans q) (fun _ q=>q) fun _ _ q=>q
  rintro rfl
  rcases hc with rfl | hc
  ·rw[hfree] at e; cases e
  ·rw[hfree] at hc; cases hc
 rcases hx with hk | hk
 ·refine wpAny_storeName_local hk hn (fun h' hn' hs=>?_) hcls
  obtain⟨oL,_,_,hoL,_⟩:=id hn
  refine h _ ⟨I.ok,I.os,I.bare,⟨fun b o e n hb hx=>?_,fun b o e n hb hx=>?_,I.lv.free,fun b o e hx=>?_,I.lv.tups,I.lv.frzs,I.lv.tbls⟩,⟨_,hn',fun j y v' e1 e2 e3=>?_⟩,fun y c e=>?_,I.free,I.freeC,fun p hp=>?_,tracked ⟨oL,hoL,I.free⟩ hs,by simpa using I.len⟩ ⟨_,hs, .inl rfl⟩
  ·exact(hs.2 b (aQ (aO (aE e) I.ok.above))).trans (I.lv.keep b o e n hb hx)
  ·obtain⟨sl,e1⟩:=I.lv.slot b o e n hb hx
   exact⟨sl,(hs.2 b (aQ (aO (aE e) I.ok.above))).trans e1⟩
  ·obtain⟨o',e1⟩:=I.lv.there b o e hx
   exact⟨o',(hs.2 b (aQ (aO (aE e) I.ok.above))).trans e1⟩
  ·by_cases hj:j=i
   ·subst hj
    rw[hi] at e1; cases e1
    rw[i4 hiσ] at e2
    cases e2
    exact⟨u,r, .inl ⟨hk,by simp⟩⟩
   ·rw[jq (dW hj)] at e2
    obtain⟨u',r',q⟩:=hl j y v' e1 e2 e3
    refine⟨u',r',?_⟩
    rcases q with ⟨k,e⟩ | ⟨k,c,e,z⟩
    ·refine .inl ⟨k,?_⟩
     have:y≠x:=fun e=>hj (jK2 hN e1 (e ▸ hi))
     simp [this,e]
    ·exact .inr ⟨k,c,e,z.sameBut hs (cne y c e)⟩
  ·obtain⟨w',z⟩:=I.cell y c e
   exact⟨w',z.sameBut hs (cne y c e)⟩
  ·obtain⟨e,n,ne,nf,d⟩:=I.pin p hp
   exact⟨(hs.2 p.1 ne).trans e,n,ne,nf,d⟩
 ·have hfn:X.fn x=true:=by
   rcases hf with z | z
   ·exact z
   ·rw[z] at hk; cases hk
  obtain⟨c,hc⟩:=I.ok.has x (.inl hk)
  obtain⟨w',z⟩:=I.cell x c hc
  refine wpAny_storeName_cell I.ok.kind hk hc z (fun h' hc' hs=>?_)
  obtain⟨oc,hoc,hocd⟩:=id z
  refine h { s with heap:=h'} ⟨I.ok,I.os,I.bare,⟨fun b o e n hb hx=>?_,fun b o e n hb hx=>?_,I.lv.free,fun b o e hx=>?_,I.lv.tups,I.lv.frzs,I.lv.tbls⟩,⟨m,hn.sameBut hs (dW (cne x c hc)),fun j y v' e1 e2 e3=>?_⟩,fun y c' e=>?_,I.free,I.freeC,fun p hp=>?_,tracked ⟨oc,hoc,I.freeC x c hc⟩ hs,by simpa using I.len⟩ ⟨c,hs, .inr hc⟩
  ·exact(hs.2 b (aQ (aO (aE e) (I.ok.cab x c hfn hc)))).trans (I.lv.keep b o e n hb hx)
  ·obtain⟨sl,e1⟩:=I.lv.slot b o e n hb hx
   exact⟨sl,(hs.2 b (aQ (aO (aE e) (I.ok.cab x c hfn hc)))).trans e1⟩
  ·obtain⟨o',e1⟩:=I.lv.there b o e hx
   exact⟨o',(hs.2 b (aQ (aO (aE e) (I.ok.cab x c hfn hc)))).trans e1⟩
  ·by_cases hj:j=i
   ·subst hj
    rw[hi] at e1; cases e1
    rw[i4 hiσ] at e2
    cases e2
    exact⟨u,r, .inr ⟨.inl hk,c,hc,hc'⟩⟩
   ·rw[jq (dW hj)] at e2
    obtain⟨u',r',q⟩:=hl j y v' e1 e2 e3
    refine⟨u',r',?_⟩
    rcases q with q | ⟨k,c',e,z'⟩
    ·exact .inl q
    ·refine .inr ⟨k,c',e,z'.sameBut hs ?_⟩
     rintro rfl
     exact hj (jK2 hN e1 (I.ok.inj _ _ _ e hc ▸ hi))
  ·by_cases hcc:c'=c
   ·subst hcc; exact⟨_,hc'⟩
   ·obtain⟨w2,z2⟩:=I.cell y c' e
    exact⟨w2,z2.sameBut hs hcc⟩
  ·obtain⟨e,n,ne,nf,d⟩:=I.pin p hp
   refine⟨(hs.2 p.1 ?_).trans e,n,ne,nf,d⟩
   intro q
   rw[q,hoc] at e
   have q':oc=p.2:=bq e
   exact d w' (by rw[<- q']; exact hocd)
theorem jDM {M:Model}{A:Around}{E:Value->Shared->Prop}{i:Nat}{x:Str}{v:V}{u:Value}{Q:Unit->Shared->Prop}(I:Inv X ad σ H s)(hN:X.N.Nodup)(hi:X.N[i]?=some x)(hx:Loc X.env.scope x)(r:RelV v u)
  (h:∀ s',Inv X ad (σ.set i (some v)) H s'->Q () s') (hf:X.fn x=true\/X.env.scope.names.lookup x=some .local:=by first | exact .inl rfl | exact .inr rfl | assumption):wpAny M A (storeName X.env x u) Q E s:=
 jGX I hN hi hx r (fun s' I' _=>h s' I') hf
theorem Inv.call' {s':Shared}{ch:List Addr}(I:Inv X ad σ H s)(ho:s'.os=s.os)(u:Un (frs X.stack) ch H H' s.heap s'.heap)(hok:HOk X.prog X.w H' s'.heap)(hg:AllBare s'.gens)
  (hch:∀ b∈ch,(b∈X.ex\/X.s₀.heap.objs.size<=b)/\b≠X.env.locals/\(∀ x c,X.env.cells.lookup x=some c->c≠b)/\∀ p∈X.pn++ad,p.1≠b):Inv X ad σ H' s':=by
 obtain⟨h',g',d',t',o'⟩:=s'
 have e:o'=s.os:=ho
 subst e
 exact I.call (g':=g') (t':=t') (d':=d') u hok hg hch
end
abbrev XK:=Value->Option Addr->Hp->Prop
abbrev St:=List (Option V)
abbrev VK:=V->Hp->Prop
abbrev TE:=St->Hp->VK->Prop
abbrev TT:=St->Hp->(Bool->Hp->Prop)->Prop
abbrev TA:=St->Hp->(List V->Hp->Prop)->Prop
structure Ends where
 nx:St->Hp->Prop
 rt:VK
 bk:St->Hp->Prop:=fun _ _=>False
 ct:St->Hp->Prop:=fun _ _=>False
abbrev TS:=Ends->St->Hp->Prop
def EP (X:Cx)(ad:List (Addr×Obj))(σ:St)(Q:VK)(u:Value)(s':Shared):Prop:=∃ v H',Inv X ad σ H' s'/\RelV v u/\Q v H'
def TP (X:Cx)(ad:List (Addr×Obj))(σ:St)(Q:Bool->Hp->Prop)(b:Bool)(s':Shared):Prop:=∃ H',Inv X ad σ H' s'/\Q b H'
def AP (X:Cx)(ad:List (Addr×Obj))(σ:St)(Q:List V->Hp->Prop)(us:List Value)(s':Shared):Prop:=∃ vs H',Inv X ad σ H' s'/\Vals vs us/\Q vs H'
def SP (X:Cx)(ad:List (Addr×Obj))(D:Ends)(f:Flow)(s':Shared):Prop:=
 match f with
 | .next=>∃ σ' H',Inv X ad σ' H' s'/\D.nx σ' H'
 | .brk=>∃ σ' H',Inv X ad σ' H' s'/\D.bk σ' H'
 | .cont=>∃ σ' H',Inv X ad σ' H' s'/\D.ct σ' H'
 | .ret u=>∃ v σ' H',Inv X ad σ' H' s'/\RelV v u/\D.rt v H'
def PE (X:Cx)(e:Expr)(t:TE):Prop:=
 ∀ (ad:List (Addr×Obj)) (s:Shared) (σ:St) (H:Hp) (Q:VK),Inv X ad σ H s->t σ H Q->wpAny (model X.prog X.w) X.A (eval e X.env) (EP X ad σ Q) X.xe s
def PT (X:Cx)(e:Expr)(t:TT):Prop:=
 ∀ (ad:List (Addr×Obj)) (s:Shared) (σ:St) (H:Hp) (Q:Bool->Hp->Prop),Inv X ad σ H s->t σ H Q->wpAny (model X.prog X.w) X.A (isTrue e X.env (eval e X.env)) (TP X ad σ Q) X.xe s
def PW (X:Cx)(e:Expr)(t:TT):Prop:=
 ∀ (whole:Sem Value) (ad:List (Addr×Obj)) (s:Shared) (σ:St) (H:Hp) (Q:Bool->Hp->Prop),Inv X ad σ H s->t σ H Q->wpAny (model X.prog X.w) X.A (isTrue e X.env whole) (TP X ad σ Q) X.xe s
theorem PW.pt {X:Cx}{e:Expr}{t:TT}(h:PW X e t):PT X e t:=h _
def PA (X:Cx)(es:List Expr)(t:TA):Prop:=
 ∀ (pos:Pos) (ad:List (Addr×Obj)) (s:Shared) (σ:St) (H:Hp) (Q:List V->Hp->Prop),Inv X ad σ H s->t σ H Q->wpAny (model X.prog X.w) X.A (spliced (backTo pos (starEach es X.env))) (AP X ad σ Q) X.xe s
def PS (X:Cx)(st:Stmt)(t:TS):Prop:=
 ∀ (ad:List (Addr×Obj)) (s:Shared) (σ:St) (H:Hp) (D:Ends),Inv X ad σ H s->t D σ H->wpAny (model X.prog X.w) X.A (exec st X.env) (SP X ad D) X.xe s
def PSs (X:Cx)(st:List Stmt)(t:TS):Prop:=
 ∀ (ad:List (Addr×Obj)) (s:Shared) (σ:St) (H:Hp) (D:Ends),Inv X ad σ H s->t D σ H->wpAny (model X.prog X.w) X.A (execs st X.env) (SP X ad D) X.xe s
theorem ly {α:Type}{t:Sem α}{Q Q':α->Shared->Prop}{M:Model}{A:Around}{E:Value->Shared->Prop}{s:Shared}(h:wpAny M A t Q E s)(hQ:∀ a s,Q a s->Q' a s):wpAny M A t Q' E s:=b7 h hQ fun _ _ x=>x
variable {b:Expr}{ta tb:TE}{pos:Pos}
section
def tVar (i:Nat):TE:=fun σ H Q=>∃ v,σ[i]?=some (some v)/\Q v H
def tC (v:V):TE:=fun _ H Q=>Q v H
theorem jH9 {i:Nat}{x:Str}{pos:Pos}(hN:X.N[i]?=some x)(hv:Vis X.env.scope x)(hd:(x==("__debug__" :Str))=false:=by decide)(hcd:(x==("__classdict__" :Str))=false:=by decide):PE X (.Name x pos) (tVar i):=by
 intro ad s σ H Q I h
 obtain⟨v,e,h⟩:=h
 obtain⟨m,hn,hl⟩:=I.loc
 obtain⟨u,r,l⟩:=hl i x v hN e hv
 have fin:EP X ad σ Q u s:=⟨v,H,I,r,h⟩
 rcases l with ⟨hk,hm⟩ | ⟨hk,c,hc,hcell⟩
 ·exact wpAny_Name (wpAny_loadName_local I.ok.kind hk hn hm fin) hd
 ·rcases hk with hk | hk
  ·exact wpAny_Name (wpAny_loadName_cell I.ok.kind hk hc hcell fin) hd
  ·exact wpAny_Name (wpAny_loadName_free I.ok.kind hk hc hcell fin hcd) hd
theorem jP {i j pos} :PE X (.Constant (.int i) j pos) (tC (.int i)):=fun _ _ _ H _ I h=>wpAny_Constant_int ⟨.int i,H,I.tok _,⟨_,rfl⟩,h⟩
theorem pe_bl {b j pos} :PE X (.Constant (.bool b) j pos) (tC (.bl b)):=fun _ _ _ H _ I h=>Constant_bool ⟨.bl b,H,I,rfl,h⟩
def Gl (X:Cx)(x:Str):Prop:=X.env.kindOf x=some .globalImplicit
theorem jIV {E:Value->Shared->Prop}{ad:List (Addr×Obj)}{s:Shared}{σ:St}{H:Hp}{x:Str}{u:Value}{pos:Pos}{Q:Value->Shared->Prop}(I:Inv X ad σ H s)(hg:Gl X x)(hm:X.mg x=some u)(h:Q u s)
  (hd:(x==("__debug__" :Str))=false:=by decide):wpAny (model X.prog X.w) X.A (eval (.Name x pos) X.env) Q E s:=
 ik I.ok.kind hg (Calls.loadGlobal_global (by rw[I.ok.glob]; exact I.mod.glob.keeps I.bk) hm h) hd
theorem jEJ {E:Value->Shared->Prop}{ad:List (Addr×Obj)}{s:Shared}{σ:St}{H:Hp}{x:Str}{u:Value}{pos:Pos}{Q:Value->Shared->Prop}(I:Inv X ad σ H s)(hg:Gl X x)(hm:X.mg x=none)(hv:bootBuiltins x=some u)(h:Q u s)
  (hn:x≠ "__name__" :=by decide) (hd:(x==("__debug__" :Str))=false:=by decide):wpAny (model X.prog X.w) X.A (eval (.Name x pos) X.env) Q E s:=by
 obtain⟨mb,h1,h2⟩:=I.mod.blt
 exact ik I.ok.kind hg (Calls.loadGlobal_builtin (by rw[I.ok.glob]; exact I.mod.glob.keeps I.bk) hm (by rw[I.ok.blt]; exact h1.keeps I.bk) ((h2 x hn).trans hv) h) hd
theorem jSN {x:Str}{v:V}{u:Value}{pos:Pos}(hg:Gl X x)(hm:X.mg x=some u)(r:RelV v u)(hd:(x==("__debug__" :Str))=false:=by decide):PE X (.Name x pos) (tC v):=
 fun _ _ _ H _ I h=>jIV I hg hm ⟨v,H,I,r,h⟩ hd
theorem jSV {x:Str}{v:V}{u:Value}{pos:Pos}(hg:Gl X x)(hm:X.mg x=none)(hv:bootBuiltins x=some u)(r:RelV v u)(hn:x≠ "__name__" :=by decide)(hd:(x==("__debug__" :Str))=false:=by decide):PE X (.Name x pos) (tC v):=
 fun _ _ _ H _ I h=>jEJ I hg hm hv ⟨v,H,I,r,h⟩ hn hd
variable {a:Expr}
def PC (X:Cx)(op:CmpOp)(a b:Expr)(t:TE):Prop:=
 ∀ (ad:List (Addr×Obj)) (s:Shared) (σ:St) (H:Hp) (Q:VK),Inv X ad σ H s->t σ H Q->
  wpAny (model X.prog X.w) X.A (eval a X.env) (fun v s₁=>wpAny (model X.prog X.w) X.A (eval b X.env) (fun u s₂=>wpAny (model X.prog X.w) X.A (compareOp op v u) (EP X ad σ Q) X.xe s₂) X.xe s₁) X.xe s
def tB (t:TE):TT:=fun σ H Q=>t σ H fun x H1=>∃ c,x= .bl c/\Q c H1
theorem jR8 {op:CmpOp}{t:TE}(h:PC X op a b t)(h1:behindInMarks op b=false:=by first | exact nobehind _ (by decide) (by decide) | rfl):PT X (.Compare a [op] [b] pos) (tB t):=by
 intro ad s σ H Q I hw
 refine wpAny_isTrue_Compare1 (ly (h ad s σ H _ I hw) fun v s1 h1=>ly h1 fun u s2 h2=>ly h2 fun c s3 ⟨x,H1,I1,r1,q1⟩=>?_) h1
 obtain⟨d,rfl,q⟩:=q1
 cases r1
 exact dX ⟨H1,I1,q⟩
theorem jUM {e:Expr}{t:TE}(h:PE X e t)(he:∀ whole,isTrue e X.env whole=(do let v <- whole; standAt e.pos; holding [v] (truthy v)):=by intro _; rfl):PT X e (tB t):=by
 intro ad s σ H Q I hw
 refine isTrue_plain (ly (h ad s σ H _ I hw) fun v s1 ⟨x,H1,I1,r1,q1⟩=>?_) (he _)
 obtain⟨d,rfl,q⟩:=q1
 cases r1
 exact dX ⟨H1,I1,q⟩
variable {tA tB':TT}{rest:List Expr}
def tAnd (t u:TT):TT:=fun σ H Q=>t σ H fun c H1=>if c=true then u σ H1 Q else Q false H1
def tNot (t:TT):TT:=fun σ H Q=>t σ H fun c H1=>Q (!c) H1
theorem jS9 (ha:PT X a tA):PW X (.BoolOp .And [a] pos) tA:=by
 intro wh ad s σ H Q I h
 refine isTrue_and (ly (ha ad s σ H Q I h) fun c s1 e=>?_)
 cases c with
 | true=>exact isTrue_and_nil e
 | false=>exact e
theorem jUL (ha:PT X a tA)(hb:PW X (.BoolOp .And (b::rest) pos) tB'):PW X (.BoolOp .And (a::b::rest) pos) (tAnd tA tB'):=by
 intro wh ad s σ H Q I h
 refine isTrue_and (ly (ha ad s σ H _ I h) fun c s1 ⟨H1,I1,q1⟩=>?_)
 cases c with
 | true=>exact hb wh ad s1 σ H1 Q I1 q1
 | false=>exact⟨H1,I1,q1⟩
theorem jUN (ha:PT X a tA):PT X (.UnaryOp .Not a pos) (tNot tA):=by
 intro ad s σ H Q I h
 exact isTrue_not (ha ad s σ H (fun c H1=>Q (!c) H1) I h)
def tAndV (ta tb:TE):TE:=fun σ H Q=>ta σ H fun x H1=>∃ c,x= .bl c/\if c=true then tb σ H1 Q else Q (.bl false) H1
def tOrV (ta tb:TE):TE:=fun σ H Q=>ta σ H fun x H1=>∃ c,x= .bl c/\if c=true then Q (.bl true) H1 else tb σ H1 Q
def tNotV (ta:TE):TE:=fun σ H Q=>ta σ H fun x H1=>∃ c,x= .bl c/\Q (.bl (!c)) H1
theorem jUV {op}{t:TE}(h:PE X a t):PE X (.BoolOp op [a] pos) t:=fun ad s σ H Q I hw=>BoolOp_one (h ad s σ H Q I hw)
theorem jV0 (ha:PE X a ta)(hb:PE X (.BoolOp .And (b::rest) pos) tb):PE X (.BoolOp .And (a::b::rest) pos) (tAndV ta tb):=by
 intro ad s σ H Q I h
 refine BoolOp_and (ly (ha ad s σ H _ I h) fun v s1 ⟨x,H1,I1,r1,q1⟩=>?_)
 obtain⟨c,rfl,q1⟩:=q1
 cases r1
 refine dX ?_
 cases c with
 | true=>exact hb ad s1 σ H1 Q I1 q1
 | false=>exact⟨.bl false,H1,I1,rfl,q1⟩
theorem pe_or (ha:PE X a ta)(hb:PE X (.BoolOp .Or (b::rest) pos) tb):PE X (.BoolOp .Or (a::b::rest) pos) (tOrV ta tb):=by
 intro ad s σ H Q I h
 refine BoolOp_or (ly (ha ad s σ H _ I h) fun v s1 ⟨x,H1,I1,r1,q1⟩=>?_)
 obtain⟨c,rfl,q1⟩:=q1
 cases r1
 refine dX ?_
 cases c with
 | false=>exact hb ad s1 σ H1 Q I1 q1
 | true=>exact⟨.bl true,H1,I1,rfl,q1⟩
theorem jUW (ha:PE X a ta):PE X (.UnaryOp .Not a pos) (tNotV ta):=by
 intro ad s σ H Q I h
 refine UnaryOp_ (ly (ha ad s σ H _ I h) fun v s1 ⟨x,H1,I1,r1,q1⟩=>?_)
 obtain⟨c,rfl,q1⟩:=q1
 cases r1
 exact not_of (dX ⟨.bl (!c),H1,I1,rfl,q1⟩)
def tIf (t:TT)(ta tb:TE):TE:=fun σ H Q=>t σ H fun c H1=>if c=true then ta σ H1 Q else tb σ H1 Q
theorem jPL {c:Expr}(hc:PT X c tA)(ha:PE X a ta)(hb:PE X b tb):PE X (.IfExp c a b pos) (tIf tA ta tb):=by
 intro ad s σ H Q I h
 refine wpAny_IfExp (ly (hc ad s σ H _ I h) fun d s1 ⟨H1,I1,q1⟩=>?_)
 cases d with
 | true=>exact ha ad s1 σ H1 Q I1 q1
 | false=>exact hb ad s1 σ H1 Q I1 q1
end
def SqL (K:W.Frag)(H:Hp)(a:Addr)(xs:List V):Prop:=
 Rd H a (.lst xs)\/
  ∃ (o:Obj) (its:Array Value) (n:Nat),K.lookup a=some o/\o.cls= .type "list" /\o.dict=none/\o.data= .seq its n/\its.size<=sizeLine/\Vals xs its.toList
def SqT (K:W.Frag)(H:Hp)(a:Addr)(xs:List V):Prop:=
 Rd H a (.tup xs)\/
  ∃ (o:Obj) (its:Array Value) (n:Nat),K.lookup a=some o/\o.cls= .type "tuple" /\o.data= .seq its n/\its.size<=sizeLine/\Vals xs its.toList
def absV:Value->Option V
 | .none=>some .non
 | .bool b=>some (.bl b)
 | .int i _=>some (.int i)
 | .str x _=>some (.str x)
 | .bytes b _=>some (.byt b)
 | .float b _=>some (.flt b)
 | .ref a=>some (.ref a)
 | .type n=>some (.ty n)
 | _=>none
theorem RelV.abs {x:V}{u:Value}(r:RelV x u):absV u=some x:=by
 cases x with
 | non=>cases r; rfl
 | bl _=>cases r; rfl
 | int _=>obtain⟨t,rfl⟩:=r; rfl
 | str _=>obtain⟨t,rfl⟩:=r; rfl
 | byt _=>obtain⟨t,rfl⟩:=r; rfl
 | flt _=>obtain⟨t,rfl⟩:=r; rfl
 | ref _=>cases r; rfl
 | ty _=>cases r; rfl
theorem RelV.inj {x y:V}{u:Value}(r:RelV x u)(q:RelV y u):x=y:=bq (r.abs.symm.trans q.abs)
theorem Vals.inj:∀ {xs ys:List V}{us:List Value},Vals xs us->Vals ys us->xs=ys
 | _,_,_, .nil, .nil=>rfl
 | _,_,_, .cons r t, .cons r' t'=>by rw[r.inj r',Vals.inj t t']
section
variable {σ:St}{xs ys:List V}
theorem SqL.of {K:W.Frag}(h:H a=some (.lst xs)):SqL K H a xs:= .inl (.inl h)
theorem SqT.of {K:W.Frag}(h:H a=some (.tup xs)):SqT K H a xs:= .inl (.inl h)
theorem Inv.list (I:Inv X ad σ H s)(h:SqL X.K H a xs):∃ its:List Value,Vals xs its/\PlainL s.heap a its.toArray/\xs.length<=sizeLine:=by
 rcases h with h | ⟨o,its,n,hk,hc,hd,hs,hz,r⟩
 ·obtain⟨z,its,n,r,e⟩:=h.ok I.hok
  exact⟨its,r,⟨_,n,e,rfl,rfl,rfl⟩,z⟩
 ·refine⟨its.toList,r,⟨o,n,I.kIn a o hk,hc,hd,by simpa using hs⟩,?_⟩
  have e:=r.length
  simp only [aL] at e
  lia
theorem Inv.tuple (I:Inv X ad σ H s)(h:SqT X.K H a xs):∃ its:List Value,Vals xs its/\IsTup s.heap a its.toArray/\xs.length<=sizeLine:=by
 rcases h with h | ⟨o,its,n,hk,hc,hs,hz,r⟩
 ·obtain⟨z,its,r,p⟩:=h.ok I.hok
  exact⟨its,r,p.isTup,z⟩
 ·refine⟨its.toList,r,⟨o,I.kIn a o hk,hc,n,by simpa using hs⟩,?_⟩
  have e:=r.length
  simp only [aL] at e
  lia
theorem Inv.list_inj (I:Inv X ad σ H s)(h:SqL X.K H a xs)(h':SqL X.K H a ys):xs=ys:=by
 obtain⟨its,r,⟨o,n,e,_,_,d⟩,_⟩:=I.list h
 obtain⟨its',r',⟨o',n',e',_,_,d'⟩,_⟩:=I.list h'
 rw[e] at e'; cases e'
 rw[d] at d'
 injection d' with d1 _
 have:its=its':=by simpa using bZ Array.toList d1
 subst this
 exact r.inj r'
theorem Inv.tuple_inj (I:Inv X ad σ H s)(h:SqT X.K H a xs)(h':SqT X.K H a ys):xs=ys:=by
 obtain⟨its,r,⟨o,e,_,n,d⟩,_⟩:=I.tuple h
 obtain⟨its',r',⟨o',e',_,n',d'⟩,_⟩:=I.tuple h'
 rw[e] at e'; cases e'
 rw[d] at d'
 injection d' with d1 _
 have:its=its':=by simpa using bZ Array.toList d1
 subst this
 exact r.inj r'
end
abbrev Cx.wish (X:Cx)(E:Value->Shared->Prop):Cx:= { X with xe:=E}
abbrev Cx.nox (X:Cx):Cx:=X.wish fun _ _=>False
theorem Cx.Ok.wish {X:Cx}(ok:X.Ok)(E:Value->Shared->Prop):(X.wish E).Ok:=
 ⟨ok.mod,ok.kind,ok.glob,ok.blt,ok.above,ok.inj,ok.has,ok.cab,ok.hd,ok.frames,ok.stk,ok.exf,ok.bs,ok.bsz,ok.noex,ok.exfs,ok.funs,ok.frf⟩
theorem Cx.Ok.unwish {X:Cx}{E:Value->Shared->Prop}(ok:(X.wish E).Ok):X.Ok:=
 ⟨ok.mod,ok.kind,ok.glob,ok.blt,ok.above,ok.inj,ok.has,ok.cab,ok.hd,ok.frames,ok.stk,ok.exf,ok.bs,ok.bsz,ok.noex,ok.exfs,ok.funs,ok.frf⟩
variable {E:Value->Shared->Prop}
section
variable {σ:St}
theorem Inv.wish (I:Inv X ad σ H s)(E:Value->Shared->Prop):Inv (X.wish E) ad σ H s:=⟨I.ok.wish E,I.os,I.bare,I.lv,I.loc,I.cell,I.free,I.freeC,I.pin,I.hok,I.len⟩
theorem Inv.unwish (I:Inv (X.wish E) ad σ H s):Inv X ad σ H s:=⟨I.ok.unwish,I.os,I.bare,I.lv,I.loc,I.cell,I.free,I.freeC,I.pin,I.hok,I.len⟩
theorem SP.unwish {D:Ends}{f:Flow}{s':Shared}(h:SP (X.wish E) ad D f s'):SP X ad D f s':=by
 cases f with
 | next=>obtain⟨σ',H',I,q⟩:=h; exact⟨σ',H',I.unwish,q⟩
 | brk=>obtain⟨σ',H',I,q⟩:=h; exact⟨σ',H',I.unwish,q⟩
 | cont=>obtain⟨σ',H',I,q⟩:=h; exact⟨σ',H',I.unwish,q⟩
 | ret u=>obtain⟨v,σ',H',I,r,q⟩:=h; exact⟨v,σ',H',I.unwish,r,q⟩
theorem PSs.nox {st:List Stmt}{t:TS}(h:PSs X.nox st t):PSs X st t:=fun ad s σ H D I hw=>
 b7 (h ad s σ H D (I.wish _) hw) (fun _ _ q=>q.unwish) fun _ _ z=>False.elim z
end
variable {e:Expr}{te:TE}
section
variable {st:Stmt}{rest:List Stmt}{t u:TS}
def tNext:TS:=fun D σ H=>D.nx σ H
def tSeq (t u:TS):TS:=fun D σ H=>t { D with nx:=u D} σ H
theorem jG0:PSs X [] tNext:=fun _ _ σ H _ I h=>gU ⟨σ,H,I,h⟩
theorem kW (h1:PS X st t)(h2:PSs X rest u):PSs X (st::rest) (tSeq t u):=by
 intro ad s σ H D I h
 refine wpAny_execs_cons (ly (h1 ad s σ H { D with nx:=u D} I h) fun f s1 q=>?_)
 cases f with
 | next=>
  obtain⟨σ',H',I',q⟩:=q
  exact h2 ad s1 σ' H' D I' q
 | ret v=>exact q
 | brk=>exact q
 | cont=>exact q
theorem jB1 (h1:PS X st t):PSs X [st] t:=by
 intro ad s σ H D I h
 refine wpAny_execs_cons (ly (h1 ad s σ H D I h) fun f s1 q=>?_)
 cases f with
 | next=>exact gU q
 | ret v=>exact q
 | brk=>exact q
 | cont=>exact q
theorem Inv.quiet {ad:List (Addr×Obj)}{σ:St}{H:Hp}{s:Shared}(I:Inv X ad σ H s):interactive X.env=false:=by simp [interactive,I.ok.kind]
def tDrop (te:TE):TS:=fun D σ H=>te σ H fun _ H1=>D.nx σ H1
theorem jSC (he:PE X e te)(hs:swapsWith e none pos.line X.env=pure false:=by rfl):PS X (.Expr e pos) (tDrop te):=by
 intro ad s σ H D I h
 exact wpAny_Expr_any (ly (he ad s σ H _ I h) fun v s1 ⟨x,H1,I1,r1,q1⟩=>⟨σ,H1,I1,q1⟩) I.quiet hs
def tRet (te:TE):TS:=fun D σ H=>te σ H D.rt
theorem jDC (he:PE X e te):PS X (.Return (some e) pos) (tRet te):=by
 intro ad s σ H D I h
 exact wpAny_Return_some (ly (he ad s σ H _ I h) fun v s1 ⟨x,H1,I1,r1,q1⟩=>⟨x,σ,H1,I1,r1,q1⟩)
def tIfS (c:TT)(t u:TS):TS:=fun D σ H=>c σ H fun b H1=>if b=true then t D σ H1 else u D σ H1
theorem ps_if {c:Expr}{a b:List Stmt}{tc:TT}(hc:PT X c tc)(ha:PSs X a t)(hb:PSs X b u):PS X (.If c a b pos) (tIfS tc t u):=by
 intro ad s σ H D I h
 refine wpAny_If (ly (hc ad s σ H _ I h) fun d s1 ⟨H1,I1,q1⟩=>?_)
 cases d with
 | true=>exact ha ad s1 σ H1 D I1 q1
 | false=>exact hb ad s1 σ H1 D I1 q1
end
abbrev TG:=V->St->Hp->(St->Hp->Prop)->Prop
abbrev TGs:=List V->St->Hp->(St->Hp->Prop)->Prop
def PG (X:Cx)(target:Expr)(t:TG):Prop:=
 ∀ (ad:List (Addr×Obj)) (s:Shared) (σ:St) (H:Hp) (v:V) (u:Value) (Q:St->Hp->Prop),Inv X ad σ H s->RelV v u->t v σ H Q->
  wpAny (model X.prog X.w) X.A (assign target X.env u) (fun _ s'=>∃ σ' H',Inv X ad σ' H' s'/\Q σ' H') X.xe s
def PGs (X:Cx)(ts:List Expr)(t:TGs):Prop:=
 ∀ (ad:List (Addr×Obj)) (s:Shared) (σ:St) (H:Hp) (vs:List V) (us:List Value) (Q:St->Hp->Prop),Inv X ad σ H s->Vals vs us->t vs σ H Q->
  wpAny (model X.prog X.w) X.A (assignInOrder ((assignEach ts X.env).map (·.2)) us) (fun _ s'=>∃ σ' H',Inv X ad σ' H' s'/\Q σ' H') X.xe s
abbrev TSet:=V->V->V->Hp->(Hp->Prop)->Prop
def PSet (X:Cx)(t:TSet):Prop:=
 ∀ (ad:List (Addr×Obj)) (s:Shared) (σ:St) (H:Hp) (o i v:V) (ov iv u:Value) (Q:Hp->Prop),Inv X ad σ H s->RelV o ov->RelV i iv->RelV v u->t o i v H Q->
  wpAny (model X.prog X.w) X.A (setItem ov iv u) (fun _ s'=>∃ H',Inv X ad σ H' s'/\Q H') X.xe s
def kO (i:Nat):TG:=fun v σ H Q=>Q (σ.set i (some v)) H
theorem jG2 {i:Nat}{x:Str}(hN:X.N.Nodup)(hi:X.N[i]?=some x)(hx:Loc X.env.scope x)(hf:X.fn x=true\/X.env.scope.names.lookup x=some .local:=by first | exact .inl rfl | exact .inr rfl | assumption):PG X (.Name x pos) (kO i):=by
 intro ad s σ H v u Q I r h
 exact wpAny_assign_Name (jDM I hN hi hx r (fun s' I'=>⟨_,H,I',h⟩) hf)
def gNil:TGs:=fun vs σ H Q=>vs=[]/\Q σ H
def gCons (t:TG)(u:TGs):TGs:=fun vs σ H Q=>∃ v r,vs=v::r/\t v σ H fun σ' H'=>u r σ' H' Q
theorem jSM:PGs X [] gNil:=by
 intro ad s σ H vs us Q I r h
 obtain⟨e,h⟩:=h
 subst e
 cases r
 exact assignInOrder_nil ⟨σ,H,I,h⟩
theorem jPJ {e:Expr}{es:List Expr}{t:TG}{u:TGs}(h1:PG X e t)(h2:PGs X es u)
  (hs:(assignEach (e::es) X.env).map (·.2)=assign e X.env::(assignEach es X.env).map (·.2):=by rfl):PGs X (e::es) (gCons t u):=by
 intro ad s σ H vs us Q I r h
 obtain⟨v,vr,e1,h⟩:=h
 subst e1
 cases r with
 | cons r rr=>
  rw[hs]
  refine assignInOrder_cons (ly (h1 ad s σ H _ _ _ I r h) fun _ s1 ⟨σ1,H1,I1,q1⟩=>?_)
  exact h2 ad s1 σ1 H1 _ _ Q I1 rr q1
def gTup (K:W.Frag)(n:Nat)(t:TGs):TG:=fun v σ H Q=>∃ a xs,v= .ref a/\SqT K H a xs/\xs.length=n/\t xs σ H Q
theorem jUS {es:List Expr}{k:Nat}{t:TGs}{n:Nat}(hc:X.calm=true)(h:PGs X es t)
  (hn:(assignEach es X.env).length=n:=by rfl) (hst:(assignEach es X.env).findIdx? (·.1)=none:=by rfl):PG X (.Tuple es k pos) (gTup X.K n t):=by
 intro ad s σ H v u Q I r hw
 obtain⟨a,xs,e1,hq,hl,hw⟩:=hw
 subst e1
 cases r
 obtain⟨its,rv,ht,hz⟩:=I.tuple hq
 refine assign_Tuple_tuple (I.ok.hd hc) ht (by simp [hn,<- hl,rv.length]) hst fun h' hx=>?_
 have I1:Inv X ad σ H { s with heap:=h'} :=I.kept (t':=s.toks) fun b o e=>hx b o (aQ (aE e)) e
 exact h ad _ σ H xs _ Q I1 (by simpa using rv) hw
def gSub (to ti:TE)(t:TSet):TG:=fun v σ H Q=>to σ H fun o H1=>ti σ H1 fun i H2=>t o i v H2 fun H3=>Q σ H3
theorem jUT {o i:Expr}{to ti:TE}{t:TSet}(ho:PE X o to)(hi:PE X i ti)(hs:PSet X t)
  (ha:∀ v,assign (.Subscript o i pos) X.env v=(do
   let ov <- holding [v] (eval o X.env)
   let iv <- holding [v,ov] (eval i X.env)
   standAt pos
   holding [v,ov,iv] (setItem ov iv v)
   release [v,ov,iv] []):=by intro _; rfl):PG X (.Subscript o i pos) (gSub to ti t):=by
 intro ad s σ H v u Q I r h
 rw[ha]
 refine ae (bS (ly (ho ad s σ H _ I h) fun ov s1 ⟨x,H1,I1,r1,q1⟩=>?_))
 refine ae (bS (ly (hi ad s1 σ H1 _ I1 q1) fun iv s2 ⟨y,H2,I2,r2,q2⟩=>?_))
 refine ae (eR (ae (bS (ly (hs ad s2 σ H2 x y v ov iv u _ I2 r1 r2 r q2) fun _ s3 ⟨H3,I3,q3⟩=>?_))))
 exact wpAny_release ⟨σ,H3,I3,q3⟩
def tAsg (te:TE)(g:TG):TS:=fun D σ H=>te σ H fun x H1=>g x σ H1 D.nx
theorem jUP {tg e:Expr}{te:TE}{g:TG}(he:PE X e te)(hg:PG X tg g)(hs:swapsWithSole [tg] e pos.line X.env=pure false:=by rfl)(hw:swappedStores [tg] e X.env=pure none:=by rfl)
  (h1:(assignEach [tg] X.env).map (·.2)=[assign tg X.env]:=by rfl):PS X (.Assign [tg] e pos) (tAsg te g):=by
 intro ad s σ H D I h
 refine wpAny_Assign_stores (ly (he ad s σ H _ I h) fun v s1 ⟨x,H1,I1,r1,q1⟩=>?_) hs hw
 rw[h1]
 exact ly (hg ad s1 σ H1 x v _ I1 r1 q1) fun _ s2 q=>q
theorem qE {i:Nat}{x:Str}{e:Expr}{te:TE}{pos':Pos}(hN:X.N.Nodup)(hi:X.N[i]?=some x)(hx:Loc X.env.scope x)(he:PE X e te)(hs:swapsWith e (some (.Name x pos')) pos.line X.env=pure false:=by rfl)(hf:X.fn x=true\/X.env.scope.names.lookup x=some .local:=by first | exact .inl rfl | exact .inr rfl | assumption):
  PS X (.Assign [.Name x pos'] e pos) (tAsg te (kO i)):=by
 intro ad s σ H D I h
 refine wpAny_Assign_Name (ly (he ad s σ H _ I h) fun v s1 ⟨y,H1,I1,r1,q1⟩=>?_) hs
 exact jDM I1 hN hi hx r1 (fun s2 I2=>⟨_,H1,I2,q1⟩) hf
def jR1 (c:TT)(tb:TS):TS:=fun D σ H=>∃ W:Nat->St->Hp->Prop,(∃ m,W m σ H)/\∀ m σ H,W m σ H->
 c σ H fun b H1=>if b=true then ∃ N:St->Hp->Prop,(∀ σ' H',N σ' H'->∃ m',m'<m/\W m' σ' H')/\tb { D with nx:=N,ct:=N,bk:=D.nx} σ H1 else D.nx σ H1
theorem jPD {c:Expr}{body:List Stmt}{tc:TT}{tb:TS}(hp:PassesOwn (model X.prog X.w) X.A X.env X.xe)(hc:PT X c tc)(hb:PSs X body tb):PS X (.While c body [] pos) (jR1 tc tb):=by
 intro ad s σ H D I h
 obtain⟨W,⟨m0,w0⟩,turn⟩:=h
 refine wpAny_While (codeAny_whileLoop (fun n s'=>∃ σ' H',Inv X ad σ' H' s'/\W n σ' H') ?_ m0 ⟨σ,H,I,w0⟩)
 rintro n s1 ⟨σ1,H1,I1,w1⟩
 refine dR hp (ly (hc ad s1 σ1 H1 _ I1 (turn n σ1 H1 w1)) fun b s2 ⟨H2,I2,q2⟩=>?_)
 cases b with
 | true=>
  obtain⟨N,hN,q2⟩:=q2
  rw[ar rfl]
  refine dR hp (ly (hb ad s2 σ1 H2 _ I2 q2) fun f s3 q3=>?_)
  cases f with
  | next=>
   obtain⟨σ3,H3,I3,n3⟩:=q3
   obtain⟨m',hm,w3⟩:=hN σ3 H3 n3
   exact⟨m',hm,σ3,H3,I3,w3⟩
  | cont=>
   obtain⟨σ3,H3,I3,n3⟩:=q3
   obtain⟨m',hm,w3⟩:=hN σ3 H3 n3
   exact⟨m',hm,σ3,H3,I3,w3⟩
  | brk=>exact q3
  | ret v=>exact q3
 | false=>
  rw[ao aq]
  exact gU ⟨σ1,H2,I2,q2⟩
structure It where
 go:Nat->Hp->Prop
 yld:Nat->Hp->V->Hp->Prop
 stop:Nat->Hp->Prop
def FpOk (X:Cx)(ad:List (Addr×Obj))(H:Hp)(b:Addr):Prop:=
 H b=none/\b≠X.env.locals/\b∉X.fs/\(b∈X.ex\/X.s₀.heap.objs.size<=b)/\(∀ x c,X.env.cells.lookup x=some c->c≠b)/\∀ p∈X.pn++ad,p.1≠b
theorem Inv.fpOk {X:Cx}{ad:List (Addr×Obj)}{σ:St}{H H':Hp}{s:Shared}{b:Addr}(I:Inv X ad σ H s)(hb:s.heap.objs.size<=b)(hn:H' b=none):FpOk X ad H' b:=by
 refine⟨hn,cK (aO I.lt hb),I.nofs hb, .inr (bf I.sz hb),fun x c e z=>?_,fun p hp z=>?_⟩
 ·obtain⟨v,q⟩:=I.cell x c e
  exact absurd (aO q.lt (by rw[z]; exact hb)) (cJ _)
 ·exact absurd (aO (aE (I.pin p hp).1) (by rw[z]; exact hb)) (cJ _)
structure Turn (P:Program)(w:World)(K:W.Frag)(tg:Expr)(J:It)(fp:List Addr)(it:Addr)(tn:Nat->Heap->Prop):Prop where
 mem:it∈fp
 obj:∀ i h,tn i h->∀ b∈fp,∃ o,h.get? b=some o/\∀ v,o.data≠ .cell v
 keep:∀ i h h',tn i h->(∀ b∈fp,∀ o,h.get? b=some o->h'.get? b=some o)->tn i h'
 item:∀ (X:Cx),X.prog=P->X.w=w->X.K=K->X.calm=true->∀ (i:Nat) (ad:List (Addr×Obj)) (s:Shared) (σ:St) (H:Hp) (E:Value->Shared->Prop),Inv X ad σ H s->(∀ b∈fp,FpOk X ad H b)->tn i s.heap->J.go i H->
  wpAny (model P w) X.A (pyNext (.ref it)) (fun r s1=>∃ u,r=some u/\
   wpAny (model P w) X.A (letOwnedTupleGo tg (.ref it) u) (fun _ s2=>∃ x H',Inv X ad σ H' s2/\RelV x u/\J.yld i H x H'/\tn (i+1) s2.heap/\∀ b∈fp,H' b=none) E s1) E s
 done:∀ (X:Cx),X.prog=P->X.w=w->X.K=K->X.calm=true->∀ (i:Nat) (ad:List (Addr×Obj)) (s:Shared) (σ:St) (H:Hp) (E:Value->Shared->Prop),Inv X ad σ H s->(∀ b∈fp,FpOk X ad H b)->tn i s.heap->J.stop i H->
  wpAny (model P w) X.A (pyNext (.ref it)) (fun r s1=>r=none/\Inv X ad σ H s1) E s
 self:∀ (A:Around) (i:Nat) (s:Shared) (Q:Value->Shared->Prop) (E:Value->Shared->Prop),tn i s.heap->Q (.ref it) s->wpAny (model P w) A (pyIter (.ref it)) Q E s
abbrev TI:=St->Hp->(It->Hp->Prop)->Prop
def PIE (X:Cx)(ad:List (Addr×Obj))(σ:St)(tg:Expr)(R:It->Hp->Prop)(itv:Value)(s2:Shared):Prop:=
 ∃ (it:Addr) (fp:List Addr) (tn:Nat->Heap->Prop) (J:It) (H':Hp),itv= .ref it/\Inv X ad σ H' s2/\Turn X.prog X.w X.K tg J fp it tn/\tn 0 s2.heap/\(∀ b∈fp,FpOk X ad H' b)/\R J H'
def PI (X:Cx)(tg iter:Expr)(wi:TI):Prop:=
 ∀ (ad:List (Addr×Obj)) (s:Shared) (σ:St) (H:Hp) (R:It->Hp->Prop),Inv X ad σ H s->wi σ H R->
  wpAny (model X.prog X.w) X.A (eval iter X.env) (fun v s1=>wpAny (model X.prog X.w) X.A (pyIter v) (PIE X ad σ tg R) X.xe s1) X.xe s
theorem go_of {M:Model}{A:Around}{E:Value->Shared->Prop}{s:Shared}{tg:Expr}{it:Addr}{u:Value}{o:Obj}{n:String}{vs:Array Value}{Q:Unit->Shared->Prop}(ho:s.heap.get? it=some o)(hc:o.cls= .type n)(hd:o.data= .fields vs)
  (hn: ["enumerate","zip","dict_itemiterator","dict_reverseitemiterator","odict_iterator","itertools.zip_longest","itertools.pairwise"].contains n=false) (hQ:Q () s):wpAny M A (letOwnedTupleGo tg (.ref it) u) Q E s:=by
 unfold letOwnedTupleGo
 cases tg <;> first
  | exact ak hQ
  | (cases u <;> first
    | exact ak hQ
    | (refine ae (gC ho ?_)
       rw [hc, hd]
       show wpAny M A (if (["enumerate", "zip", "dict_itemiterator", "dict_reverseitemiterator", "odict_iterator", "itertools.zip_longest", "itertools.pairwise"].contains n && vs[0]? == some (rawInt _)) = true then _ else _) Q E s
       rw [ao (by intro h; rw [hn, ga] at h; cases h)]
       exact ak hQ))
def Itl (K:W.Frag)(a:Addr):It:=
 ⟨fun i H=>∃ xs x,SqL K H a xs/\xs[i]?=some x,fun i H x H'=>H'=H/\∀ xs,SqL K H a xs->xs[i]?=some x,fun i H=>∃ xs,SqL K H a xs/\xs.length<=i⟩
def Itt (K:W.Frag)(a:Addr):It:=
 ⟨fun i H=>∃ xs x,SqT K H a xs/\xs[i]?=some x,fun i H x H'=>H'=H/\∀ xs,SqT K H a xs->xs[i]?=some x,fun i H=>∃ xs,SqT K H a xs/\xs.length<=i⟩
def Itr (lo:Int)(n:Nat):It:=⟨fun i _=>i<n,fun i H x H'=>H'=H/\x= .int (lo+i),fun i _=>n<=i⟩
theorem jLS {P:Program}{w:World}{K:W.Frag}{tg:Expr}(a it:Addr):Turn P w K tg (Itl K a) [it] it (fun i h=>h.IsListIter it a i) where
 mem:=by simp
 obj:=fun i h st b hb=>by
  have e:b=it:=by simpa using hb
  subst e
  obtain⟨o,e,c,d⟩:=st
  exact⟨o,e,fun v z=>by rw[d] at z; cases z⟩
 keep:=fun i h h' st k=>st.at fun o e=>k it (by simp) o e
 item:=by
  intro X hP hw hK hc i ad s σ H E I hf st hg
  subst hP hw hK
  obtain⟨xs,x,hq,hx⟩:=hg
  obtain⟨its,rv,p,hz⟩:=I.list hq
  obtain⟨u,hu,ru⟩:=rv.get hx
  obtain⟨f0,f1,f2,f3,f4,f5⟩:=hf it (by simp)
  refine wpAny_pyNext_list_item st p.isList (x:=u) (by simpa using hu) fun h' st' sb=>?_
  have I1:Inv X ad σ H { s with heap:=h'} :=I.turned (t':=s.toks) (fun b o hb e=>(sb.2 b hb).trans e) f0 f1 f3 f4 f5
  obtain⟨o,e,c,d⟩:=id st'
  exact⟨u,rfl,go_of (s:= { s with heap:=h'}) e c d (by decide) ⟨x,H,I1,ru,⟨rfl,fun ys hy=>by rw[I.list_inj hy hq]; exact hx⟩,st',fun b hb=>(hf b hb).1⟩⟩
 done:=by
  intro X hP hw hK hc i ad s σ H E I hf st hg
  subst hP hw hK
  obtain⟨xs,hq,hx⟩:=hg
  obtain⟨its,rv,p,hz⟩:=I.list hq
  obtain⟨f0,f1,f2,f3,f4,f5⟩:=hf it (by simp)
  have hl:=rv.length
  exact wpAny_pyNext_list_end (I.ok.hd hc) st p.isList (by simp; lia) fun h' eb=>⟨rfl,I.turned (t':=s.toks) (fun b o hb e=>eb b o hb e) f0 f1 f3 f4 f5⟩
 self:=fun _ _ _ _ _ st h=>wpAny_pyIter_listiter st h
theorem jKU {P:Program}{w:World}{K:W.Frag}{tg:Expr}(a it:Addr):Turn P w K tg (Itt K a) [it] it (fun i h=>h.IsTupleIter it a i) where
 mem:=by simp
 obj:=fun i h st b hb=>by
  have e:b=it:=by simpa using hb
  subst e
  obtain⟨o,e,c,d⟩:=st
  exact⟨o,e,fun v z=>by rw[d] at z; cases z⟩
 keep:=fun i h h' st k=>st.at fun o e=>k it (by simp) o e
 item:=by
  intro X hP hw hK hc i ad s σ H E I hf st hg
  subst hP hw hK
  obtain⟨xs,x,hq,hx⟩:=hg
  obtain⟨its,rv,p,hz⟩:=I.tuple hq
  obtain⟨u,hu,ru⟩:=rv.get hx
  obtain⟨f0,f1,f2,f3,f4,f5⟩:=hf it (by simp)
  refine wpAny_pyNext_tuple_item st (show s.heap.IsTuple a its.toArray from p) (x:=u) (by simpa using hu) fun h' st' sb=>?_
  have I1:Inv X ad σ H { s with heap:=h'} :=I.turned (t':=s.toks) (fun b o hb e=>(sb.2 b hb).trans e) f0 f1 f3 f4 f5
  obtain⟨o,e,c,d⟩:=id st'
  exact⟨u,rfl,go_of (s:= { s with heap:=h'}) e c d (by decide) ⟨x,H,I1,ru,⟨rfl,fun ys hy=>by rw[I.tuple_inj hy hq]; exact hx⟩,st',fun b hb=>(hf b hb).1⟩⟩
 done:=by
  intro X hP hw hK hc i ad s σ H E I hf st hg
  subst hP hw hK
  obtain⟨xs,hq,hx⟩:=hg
  obtain⟨its,rv,p,hz⟩:=I.tuple hq
  obtain⟨f0,f1,f2,f3,f4,f5⟩:=hf it (by simp)
  have hl:=rv.length
  exact wpAny_pyNext_tuple_end (I.ok.hd hc) st (show s.heap.IsTuple a its.toArray from p) (by simp; lia) fun h' eb=>⟨rfl,I.turned (t':=s.toks) (fun b o hb e=>eb b o hb e) f0 f1 f3 f4 f5⟩
 self:=fun _ _ _ _ _ st h=>wpAny_pyIter_tupleiter st h
theorem jKV {P:Program}{w:World}{K:W.Frag}{tg:Expr}(it:Addr)(lo:Int)(n:Nat):Turn P w K tg (Itr lo n) [it] it (fun i h=>IsRangeIter h it (lo+(i:Nat)*1) ((n:Int) - (i:Nat)) 1) where
 mem:=by simp
 obj:=fun i h st b hb=>by
  have e:b=it:=by simpa using hb
  subst e
  exact⟨_,st,fun v z=>by
   have z':Data.fields _=Data.cell v:=z
   cases z'⟩
 keep:=fun i h h' st k=>k it (by simp) _ st
 item:=by
  intro X hP hw hK hc i ad s σ H E I hf st hg
  subst hP hw hK
  obtain⟨f0,f1,f2,f3,f4,f5⟩:=hf it (by simp)
  have W:=Walks.range (prog:=X.prog) (w:=X.w) (I.ok.hd hc) it lo 1 n
  refine W.item i s _ _ hg st fun v h' tk hv st' kk=>?_
  obtain⟨t,rfl⟩:=hv
  have I1:Inv X ad σ H { s with heap:=h',toks:=tk} :=I.turned (fun b o hb e=>kk b o (by simpa using hb) e) f0 f1 f3 f4 f5
  refine⟨_,rfl,go_of (s:= { s with heap:=h',toks:=tk}) (n:= "range_iterator") st' rfl rfl (by decide) ⟨.int (lo+i),H,I1,⟨t,?_⟩,⟨rfl,rfl⟩,st',fun b hb=>(hf b hb).1⟩⟩
  rw[Int.mul_one]
 done:=by
  intro X hP hw hK hc i ad s σ H E I hf st hg
  subst hP hw hK
  obtain⟨f0,f1,f2,f3,f4,f5⟩:=hf it (by simp)
  exact wpAny_pyNext_range_end (I.ok.hd hc) st (by have:n<=i:=hg; lia) fun h' eb=>⟨rfl,I.turned (t':=s.toks) (fun b o hb e=>eb b o hb e) f0 f1 f3 f4 f5⟩
 self:=fun _ _ _ _ _ st h=>wpAny_pyIter_rangeiter st h
section
variable {tg:Expr}
def iList (K:W.Frag)(tl:TE):TI:=fun σ H R=>tl σ H fun x H1=>∃ a,x= .ref a/\(∃ xs,SqL K H1 a xs)/\R (Itl K a) H1
def iTup (K:W.Frag)(tl:TE):TI:=fun σ H R=>tl σ H fun x H1=>∃ a,x= .ref a/\(∃ xs,SqT K H1 a xs)/\R (Itt K a) H1
theorem jSK {l:Expr}{tl:TE}(hl:PE X l tl):PI X tg l (iList X.K tl):=by
 intro ad s σ H R I h
 refine ly (hl ad s σ H _ I h) fun v s1 ⟨x,H1,I1,r1,q1⟩=>?_
 obtain⟨a,e,⟨xs,hq⟩,q⟩:=q1
 subst e
 cases r1
 obtain⟨its,rv,p,hz⟩:=I1.list hq
 refine dG p.isList ?_
 refine⟨s1.heap.objs.size,[s1.heap.objs.size],_,_,H1,rfl,I1.kept (t':=s1.toks) fun b o e=>ag _ e,jLS a _,⟨_,aA _ rfl,rfl,rfl⟩,fun b hb=>?_,q⟩
 have e:b=s1.heap.objs.size:=by simpa using hb
 subst e
 exact I1.fpOk (am _) (I1.hok.fresh (am _))
theorem jUR {l:Expr}{tl:TE}(hl:PE X l tl):PI X tg l (iTup X.K tl):=by
 intro ad s σ H R I h
 refine ly (hl ad s σ H _ I h) fun v s1 ⟨x,H1,I1,r1,q1⟩=>?_
 obtain⟨a,e,⟨xs,hq⟩,q⟩:=q1
 subst e
 cases r1
 obtain⟨its,rv,p,hz⟩:=I1.tuple hq
 refine wpAny_pyIter_tuple (show s1.heap.IsTuple a its.toArray from p) ?_
 refine⟨s1.heap.objs.size,[s1.heap.objs.size],_,_,H1,rfl,I1.kept (t':=s1.toks) fun b o e=>ag _ e,jKU a _,⟨_,aA _ rfl,rfl,rfl⟩,fun b hb=>?_,q⟩
 have e:b=s1.heap.objs.size:=by simpa using hb
 subst e
 exact I1.fpOk (am _) (I1.hok.fresh (am _))
theorem jJT {ad:List (Addr×Obj)}{σ:St}{H:Hp}{s:Shared}{R:It->Hp->Prop}{E:Value->Shared->Prop}{lo hi:Int}{t u v:Tok}{tk:Nat}(I:Inv X ad σ H s)(h1: -(2 ^ 62)<=lo)(h2:lo<2 ^ 62)(h3: -(2 ^ 62)<=hi)(h4:hi<2 ^ 62)
  (q:R (Itr lo (hi - lo).toNat) H):wpAny (model X.prog X.w) X.A (pyIter (.ref s.heap.objs.size)) (PIE X ad σ tg R) E { s with heap:=s.heap.push { cls:= .type "range",data:= .fields #[.int lo t, .int hi u, .int 1 v]},toks:=tk} :=by
 refine wpAny_pyIter_range (IsRange.new ..) (small_one h1 h2 h3 h4) ?_
 have I1:Inv X ad σ H { s with heap:=s.heap.push { cls:= .type "range",data:= .fields #[.int lo t, .int hi u, .int 1 v]},toks:=tk} :=I.kept fun b o e=>ag _ e
 refine⟨(s.heap.push { cls:= .type "range",data:= .fields #[.int lo t, .int hi u, .int 1 v]}).objs.size,[(s.heap.push { cls:= .type "range",data:= .fields #[.int lo t, .int hi u, .int 1 v]}).objs.size],_,_,H,rfl,
  I1.kept (t':=tk) fun b o e=>ag _ e,jKV _ lo (hi - lo).toNat,?_,fun b hb=>?_,q⟩
 ·have e1:lo+((0:Nat):Int)*1=lo:=by simp
  have e2:(((hi - lo).toNat:Nat):Int) - ((0:Nat):Int)=Builtin.Range.rangeSize lo hi 1:=by rw[rangeSize_one]; split <;> lia
  show IsRangeIter _ _ (lo+((0:Nat):Int)*1) ((((hi - lo).toNat:Nat):Int) - ((0:Nat):Int)) 1
  rw[e1,e2]
  exact aA _ rfl
 ·have e:b=(s.heap.push { cls:= .type "range",data:= .fields #[.int lo t, .int hi u, .int 1 v]}).objs.size:=by simpa using hb
  subst e
  exact I1.fpOk (am _) (I1.hok.fresh (am _))
def iRng1 (ta:TA):TI:=fun σ H R=>ta σ H fun vs H1=>∃ j:Int,vs=[.int j]/\ -(2 ^ 62)<=j/\j<2 ^ 62/\R (Itr 0 j.toNat) H1
def iRng2 (ta:TA):TI:=fun σ H R=>ta σ H fun vs H1=>∃ i j:Int,vs=[.int i, .int j]/\(-(2 ^ 62)<=i/\i<2 ^ 62/\ -(2 ^ 62)<=j/\j<2 ^ 62)/\R (Itr i (j - i).toNat) H1
theorem jCD {a:Expr}{ta:TA}{p pos:Pos}(hg:Gl X "range")(hm:X.mg "range" =none)(ha:PA X [a] ta)(hs:starEach [a] X.env=[(false,eval a X.env)]:=by rfl):PI X tg (.Call (.Name "range" p) [a] [] pos) (iRng1 ta):=by
 intro ad s σ H R I h
 refine Call_ (jEJ I hg hm boot_range (dM (ly (ha pos ad s σ H _ I h) fun us s1 ⟨vs,H1,I1,r1,q1⟩=>?_) hs rfl))
 obtain⟨j,e,q1,q2,q⟩:=q1
 subst e
 cases r1 with
 | cons r rr=>
  cases rr
  obtain⟨t,rfl⟩:=r
  exact call_range_1 (jJT I1 (by lia) (by lia) q1 q2 (by simpa using q))
theorem jMJ {a b:Expr}{ta:TA}{p pos:Pos}(hg:Gl X "range")(hm:X.mg "range" =none)(ha:PA X [a,b] ta)(hs:starEach [a,b] X.env=[(false,eval a X.env),(false,eval b X.env)]:=by rfl)(hs2:starEach [b] X.env=[(false,eval b X.env)]:=by rfl):
  PI X tg (.Call (.Name "range" p) [a,b] [] pos) (iRng2 ta):=by
 intro ad s σ H R I h
 refine Call_ (jEJ I hg hm boot_range (dM (ly (ha pos ad s σ H _ I h) fun us s1 ⟨vs,H1,I1,r1,q1⟩=>?_) (by rw[hs,hs2]) (by rw[hs2]; rfl)))
 obtain⟨i,j,e,⟨q1,q2,q3,q4⟩,q⟩:=q1
 subst e
 cases r1 with
 | cons r rr=>
  cases rr with
  | cons r' rr=>
   cases rr
   obtain⟨t,rfl⟩:=r
   obtain⟨t',rfl⟩:=r'
   exact call_range_2 (jJT I1 q1 q2 q3 q4 q)
def tFor (wi:TI)(g:TG)(tb:TS):TS:=fun D σ H=>wi σ H fun J H1=>∃ W:Nat->Nat->St->Hp->Prop,(∃ m,W 0 m σ H1)/\∀ i m σ H,W i m σ H->
 (J.stop i H/\D.nx σ H)\/(J.go i H/\∃ N:St->Hp->Prop,(∀ σ' H',N σ' H'->∃ m',m'<m/\W (i+1) m' σ' H')/\∀ x H',J.yld i H x H'->g x σ H' fun σ2 H2=>tb { D with nx:=N,ct:=N,bk:=D.nx} σ2 H2)
def jH7 (fp:List Addr)(h:Heap):List (Addr×Obj):=fp.filterMap fun b=>(h.get? b).map fun o=>(b,o)
theorem jBR {fp:List Addr}{h:Heap}{b:Addr}{o:Obj}(hb:b∈fp)(e:h.get? b=some o):(b,o)∈jH7 fp h:=kq.mpr ⟨b,hb,by rw[e]; rfl⟩
theorem jMZ {fp:List Addr}{h:Heap}{p:Addr×Obj}(hp:p∈jH7 fp h):p.1∈fp/\h.get? p.1=some p.2:=by
 obtain⟨b,hb,e⟩:=kq.mp hp
 cases q:h.get? b with
 | none=>rw[q] at e; cases e
 | some o=>
  rw[q] at e
  have e':(b,o)=p:=bq e
  subst e'
  exact⟨hb,q⟩
theorem Inv.pinned {ad:List (Addr×Obj)}{σ:St}{H:Hp}{s:Shared}{fp:List Addr}(I:Inv X ad σ H s)(hf:∀ b∈fp,FpOk X ad H b)(ho:∀ b∈fp,∃ o,s.heap.get? b=some o/\∀ v,o.data≠ .cell v):Inv X (ad++jH7 fp s.heap) σ H s:=
 I.pins_of fun p hp=>(aM.mp hp).elim (fun z=>I.pin p (aB _ z)) fun z=>by
  obtain⟨hb,e⟩:=jMZ z
  obtain⟨f0,f1,f2,_⟩:=hf p.1 hb
  obtain⟨o,e',d⟩:=ho p.1 hb
  rw[e] at e'; cases e'
  exact⟨e,f0,f1,f2,d⟩
theorem Inv.unpinned {ad pl:List (Addr×Obj)}{σ:St}{H:Hp}{s:Shared}(I:Inv X (ad++pl) σ H s):Inv X ad σ H s:=I.pins_of fun p hp=>I.pin p (aB _ (aX _ hp))
theorem jR9 {iter:Expr}{body:List Stmt}{wi:TI}{g:TG}{tb:TS}{pos:Pos}(hp:PassesOwn (model X.prog X.w) X.A X.env X.xe)(hc:X.calm=true)(hi:PI X tg iter wi)(hg:PG X tg g)(hb:PSs X body tb)
  (hs:∀ x,foldedSetIterable iter X.env x=pure x:=by intro _; rfl):PS X (.For tg iter body [] pos) (tFor wi g tb):=by
 intro ad s σ H D I h
 refine wpAny_For (ly (hi ad s σ H _ I h) fun v s1 h1=>ly h1 fun itv s2 h2=>?_) hs
 obtain⟨it,fp,tn,J,H2,e,I2,T,st2,f2,W,⟨m0,w0⟩,turn⟩:=h2
 subst e
 have stat:∀ {H':Hp},(∀ b∈fp,H' b=none)->∀ b∈fp,FpOk X ad H' b:=fun hn b hb=>⟨hn b hb,(f2 b hb).2⟩
 refine codeAny_forLoop_any (fun n s'=>∃ i σ' H',Inv X ad σ' H' s'/\tn i s'.heap/\(∀ b∈fp,H' b=none)/\W i n σ' H') ?_ m0 ⟨0,σ,H2,I2,st2,fun b hb=>(f2 b hb).1,w0⟩
 rintro n s3 ⟨i,σ3,H3,I3,st3,fr3,w3⟩
 rcases turn i n σ3 H3 w3 with ⟨stop,qn⟩ | ⟨go,N,hN,step⟩
 ·refine dR hp (ly (T.done X rfl rfl rfl hc i ad s3 σ3 H3 X.xe I3 (stat fr3) st3 stop) fun r s4 ⟨hr,I4⟩=>?_)
  subst hr
  exact gU ⟨σ3,H3,I4,qn⟩
 ·refine dR hp (ly (T.item X rfl rfl rfl hc i ad s3 σ3 H3 X.xe I3 (stat fr3) st3 go) fun r s4 ⟨u,hr,h4⟩=>?_)
  subst hr
  refine dR hp (ly h4 fun _ s5 ⟨x,H5,I5,r5,y5,st5,fr5⟩=>?_)
  have I5':=I5.pinned (stat fr5) (T.obj _ _ st5)
  refine dR hp (ly (hg _ s5 σ3 H5 x u _ I5' r5 (step x H5 y5)) fun _ s6 ⟨σ6,H6,I6,q6⟩=>?_)
  refine dR hp (ly (hb _ s6 σ6 H6 _ I6 q6) fun f s7 q7=>?_)
  have again:∀ {σ7:St}{H7:Hp},Inv X (ad++jH7 fp s5.heap) σ7 H7 s7->N σ7 H7->∃ m,m<n/\∃ i σ' H',Inv X ad σ' H' s7/\tn i s7.heap/\(∀ b∈fp,H' b=none)/\W i m σ' H':=fun {σ7 H7} I7 n7=>by
   obtain⟨m',hm,w7⟩:=hN σ7 H7 n7
   refine⟨m',hm,i+1,σ7,H7,I7.unpinned,T.keep _ _ _ st5 fun b hb o e=>(I7.pin (b,o) (aB _ (aB _ (jBR hb e)))).1,fun b hb=>?_,w7⟩
   obtain⟨o,e,d⟩:=T.obj _ _ st5 b hb
   exact(I7.pin (b,o) (aB _ (aB _ (jBR hb e)))).2.1
  cases f with
  | next=>obtain⟨σ7,H7,I7,n7⟩:=q7; exact again I7 n7
  | cont=>obtain⟨σ7,H7,I7,n7⟩:=q7; exact again I7 n7
  | brk=>obtain⟨σ7,H7,I7,q7⟩:=q7; exact⟨σ7,H7,I7.unpinned,q7⟩
  | ret v=>obtain⟨x7,σ7,H7,I7,r7,q7⟩:=q7; exact⟨x7,σ7,H7,I7.unpinned,r7,q7⟩
end
theorem jBT {K:W.Frag}{a:Addr}{xs:List V}{g:TG}{tb:TS}{D:Ends}{σ:St}{H:Hp}(Pv:Nat->St->Hp->Prop)(h0:Pv 0 σ H)(hl:∀ i σ H,i<=xs.length->Pv i σ H->SqL K H a xs)
  (hs:∀ i x σ H,xs[i]?=some x->Pv i σ H->g x σ H fun σ2 H2=>tb { D with nx:=Pv (i+1),ct:=Pv (i+1),bk:=D.nx} σ2 H2) (hd:∀ σ H,Pv xs.length σ H->D.nx σ H):
  ∃ W:Nat->Nat->St->Hp->Prop,(∃ m,W 0 m σ H)/\∀ i m σ H,W i m σ H->
   ((Itl K a).stop i H/\D.nx σ H)\/((Itl K a).go i H/\∃ N:St->Hp->Prop,(∀ σ' H',N σ' H'->∃ m',m'<m/\W (i+1) m' σ' H')/\∀ x H',(Itl K a).yld i H x H'->g x σ H' fun σ2 H2=>tb { D with nx:=N,ct:=N,bk:=D.nx} σ2 H2):=by
 refine⟨fun i m σ H=>m=xs.length - i/\i<=xs.length/\Pv i σ H,⟨xs.length,by simp,bi _,h0⟩,?_⟩
 rintro i m σ H ⟨rfl,hi,p⟩
 have q:=hl i σ H hi p
 by_cases hlt:i<xs.length
 ·refine .inr ⟨⟨xs,xs[i],q,by simp [hlt]⟩,Pv (i+1),fun σ' H' p'=>⟨xs.length - (i+1),by lia,rfl,hlt,p'⟩,fun x H' y=>?_⟩
  obtain⟨e,y⟩:=y
  subst e
  exact hs i x σ _ (y xs q) p
 ·have e:i=xs.length:=by lia
  subst e
  exact .inl ⟨⟨xs,q,am _⟩,hd σ H p⟩
theorem jTS {K:W.Frag}{a:Addr}{xs:List V}{g:TG}{tb:TS}{D:Ends}{σ:St}{H:Hp}(Pv:Nat->St->Hp->Prop)(h0:Pv 0 σ H)(hl:∀ i σ H,i<=xs.length->Pv i σ H->SqT K H a xs)
  (hs:∀ i x σ H,xs[i]?=some x->Pv i σ H->g x σ H fun σ2 H2=>tb { D with nx:=Pv (i+1),ct:=Pv (i+1),bk:=D.nx} σ2 H2) (hd:∀ σ H,Pv xs.length σ H->D.nx σ H):
  ∃ W:Nat->Nat->St->Hp->Prop,(∃ m,W 0 m σ H)/\∀ i m σ H,W i m σ H->
   ((Itt K a).stop i H/\D.nx σ H)\/((Itt K a).go i H/\∃ N:St->Hp->Prop,(∀ σ' H',N σ' H'->∃ m',m'<m/\W (i+1) m' σ' H')/\∀ x H',(Itt K a).yld i H x H'->g x σ H' fun σ2 H2=>tb { D with nx:=N,ct:=N,bk:=D.nx} σ2 H2):=by
 refine⟨fun i m σ H=>m=xs.length - i/\i<=xs.length/\Pv i σ H,⟨xs.length,by simp,bi _,h0⟩,?_⟩
 rintro i m σ H ⟨rfl,hi,p⟩
 have q:=hl i σ H hi p
 by_cases hlt:i<xs.length
 ·refine .inr ⟨⟨xs,xs[i],q,by simp [hlt]⟩,Pv (i+1),fun σ' H' p'=>⟨xs.length - (i+1),by lia,rfl,hlt,p'⟩,fun x H' y=>?_⟩
  obtain⟨e,y⟩:=y
  subst e
  exact hs i x σ _ (y xs q) p
 ·have e:i=xs.length:=by lia
  subst e
  exact .inl ⟨⟨xs,q,am _⟩,hd σ H p⟩
theorem jBG {lo:Int}{n:Nat}{g:TG}{tb:TS}{D:Ends}{σ:St}{H:Hp}(Pv:Nat->St->Hp->Prop)(h0:Pv 0 σ H)
  (hs:∀ i σ H,i<n->Pv i σ H->g (.int (lo+i)) σ H fun σ2 H2=>tb { D with nx:=Pv (i+1),ct:=Pv (i+1),bk:=D.nx} σ2 H2) (hd:∀ σ H,Pv n σ H->D.nx σ H):
  ∃ W:Nat->Nat->St->Hp->Prop,(∃ m,W 0 m σ H)/\∀ i m σ H,W i m σ H->
   ((Itr lo n).stop i H/\D.nx σ H)\/((Itr lo n).go i H/\∃ N:St->Hp->Prop,(∀ σ' H',N σ' H'->∃ m',m'<m/\W (i+1) m' σ' H')/\∀ x H',(Itr lo n).yld i H x H'->g x σ H' fun σ2 H2=>tb { D with nx:=N,ct:=N,bk:=D.nx} σ2 H2):=by
 refine⟨fun i m σ H=>m=n - i/\i<=n/\Pv i σ H,⟨n,by simp,bi _,h0⟩,?_⟩
 rintro i m σ H ⟨rfl,hi,p⟩
 by_cases hlt:i<n
 ·refine .inr ⟨hlt,Pv (i+1),fun σ' H' p'=>⟨n - (i+1),by lia,rfl,hlt,p'⟩,fun x H' y=>?_⟩
  obtain⟨e,y⟩:=y
  subst e y
  exact hs i σ _ hlt p
 ·have e:i=n:=by lia
  subst e
  exact .inl ⟨am _,hd σ H p⟩
abbrev R2:=V->V->Hp->VK->Prop
def OpR (X:Cx)(f:Value->Value->Sem Value)(r:R2):Prop:=
 ∀ (ad:List (Addr×Obj)) (s:Shared) (σ:St) (H:Hp) (x y:V) (v u:Value) (Q:VK),Inv X ad σ H s->RelV x v->RelV y u->r x y H Q->
  wpAny (model X.prog X.w) X.A (f v u) (EP X ad σ Q) X.xe s
def UnR (X:Cx)(f:Value->Sem Value)(r:V->Hp->VK->Prop):Prop:=
 ∀ (ad:List (Addr×Obj)) (s:Shared) (σ:St) (H:Hp) (x:V) (v:Value) (Q:VK),Inv X ad σ H s->RelV x v->r x H Q->
  wpAny (model X.prog X.w) X.A (f v) (EP X ad σ Q) X.xe s
def yV (X:Cx)(f:Value)(r:List V->Hp->VK->Prop):Prop:=
 ∀ (ad:List (Addr×Obj)) (s:Shared) (σ:St) (H:Hp) (xs:List V) (us:List Value) (Q:VK),Inv X ad σ H s->Vals xs us->r xs H Q->
  wpAny (model X.prog X.w) X.A (call f us) (EP X ad σ Q) X.xe s
def tOp (r:R2)(ta tb:TE):TE:=fun σ H Q=>ta σ H fun x H1=>tb σ H1 fun y H2=>r x y H2 Q
def tUn (r:V->Hp->VK->Prop)(ta:TE):TE:=fun σ H Q=>ta σ H fun x H1=>r x H1 Q
def rI (C:Int->Int->Prop)(g:Int->Int->V):R2:=fun x y H Q=>∃ i j,x= .int i/\y= .int j/\C i j/\Q (g i j) H
def rI0 (g:Int->Int->V):R2:=fun x y H Q=>∃ i j,x= .int i/\y= .int j/\Q (g i j) H
def rU (g:Int->V):V->Hp->VK->Prop:=fun x H Q=>∃ i,x= .int i/\Q (g i) H
variable {c:Expr}{tc:TE}
section
variable {a:Expr}
theorem binT (ha:PE X a ta)(hb:PE X b tb){ad:List (Addr×Obj)}{s:Shared}{σ:St}{H:Hp}{R:V->V->Hp->Prop}(I:Inv X ad σ H s)
  (h:ta σ H fun x H1=>tb σ H1 fun y H2=>R x y H2) {Q:Value->Shared->Prop}{f:Value->Value->Sem Value}
  (hf:∀ v u s2 x y H2,Inv X ad σ H2 s2->RelV x v->RelV y u->R x y H2->wpAny (model X.prog X.w) X.A (f v u) Q X.xe s2):
  wpAny (model X.prog X.w) X.A (eval a X.env) (fun v s₁=>wpAny (model X.prog X.w) X.A (eval b X.env) (fun u s₂=>wpAny (model X.prog X.w) X.A (f v u) Q X.xe s₂) X.xe s₁) X.xe s:=by
 refine ly (ha ad s σ H _ I h) fun v s1 ⟨x,H1,I1,r1,q1⟩=>?_
 refine ly (hb ad s1 σ H1 _ I1 q1) fun u s2 ⟨y,H2,I2,r2,q2⟩=>?_
 exact hf v u s2 x y H2 I2 r1 r2 q2
theorem kR {op:Operator}{r:R2}(ho:OpR X (binaryOp op) r)(ha:PE X a ta)(hb:PE X b tb):PE X (.BinOp a op b pos) (tOp r ta tb):=by
 intro ad s σ H Q I h
 exact wpAny_BinOp (binT ha hb I h fun v u s2 x y H2 I2 rx ry q=>ho ad s2 σ H2 x y v u Q I2 rx ry q)
theorem pe_un {op:UnaryOp}{r:V->Hp->VK->Prop}(ho:UnR X (unaryOp op) r)(ha:PE X a ta):PE X (.UnaryOp op a pos) (tUn r ta):=by
 intro ad s σ H Q I h
 exact UnaryOp_ (ly (ha ad s σ H _ I h) fun v s1 ⟨x,H1,I1,r1,q1⟩=>ho ad s1 σ H1 x v Q I1 r1 q1)
theorem opI {f:Value->Value->Sem Value}{C:Int->Int->Prop}{g:Int->Int->Int}
  (rule:∀ (i j:Int) (t u:Tok) (s:Shared) (Q:Value->Shared->Prop) (E:Value->Shared->Prop),C i j->Q (.int (g i j) s.toks) { s with toks:=s.toks+1} ->wpAny (model X.prog X.w) X.A (f (.int i t) (.int j u)) Q E s):
  OpR X f (rI C fun i j=> .int (g i j)):=by
 intro ad s σ H x y v u Q I rx ry h
 obtain⟨i,j,rfl,rfl,hc,q⟩:=h
 obtain⟨t,rfl⟩:=rx
 obtain⟨t',rfl⟩:=ry
 exact rule i j t t' s _ _ hc ⟨.int (g i j),H,I.tok _,⟨_,rfl⟩,q⟩
theorem opI0 {f:Value->Value->Sem Value}{g:Int->Int->Int}
  (rule:∀ (i j:Int) (t u:Tok) (s:Shared) (Q:Value->Shared->Prop) (E:Value->Shared->Prop),Q (.int (g i j) s.toks) { s with toks:=s.toks+1} ->wpAny (model X.prog X.w) X.A (f (.int i t) (.int j u)) Q E s):
  OpR X f (rI0 fun i j=> .int (g i j)):=by
 intro ad s σ H x y v u Q I rx ry h
 obtain⟨i,j,rfl,rfl,q⟩:=h
 obtain⟨t,rfl⟩:=rx
 obtain⟨t',rfl⟩:=ry
 exact rule i j t t' s _ _ ⟨.int (g i j),H,I.tok _,⟨_,rfl⟩,q⟩
theorem opB0 {f:Value->Value->Sem Value}{g:Int->Int->Bool}
  (rule:∀ (i j:Int) (t u:Tok) (s:Shared) (Q:Value->Shared->Prop) (E:Value->Shared->Prop),Q (.bool (g i j)) s->wpAny (model X.prog X.w) X.A (f (.int i t) (.int j u)) Q E s):
  OpR X f (rI0 fun i j=> .bl (g i j)):=by
 intro ad s σ H x y v u Q I rx ry h
 obtain⟨i,j,rfl,rfl,q⟩:=h
 obtain⟨t,rfl⟩:=rx
 obtain⟨t',rfl⟩:=ry
 exact rule i j t t' s _ _ ⟨.bl (g i j),H,I,rfl,q⟩
def CPow (i j:Int):Prop:=0<=j/\j<=1000000/\i.natAbs<2 ^ 64
def CMul (i j:Int):Prop:=(-(2 ^ 64)<i/\i<2 ^ 64)\/(-(2 ^ 64)<j/\j<2 ^ 64)
theorem CMul.ok {i j:Int}(h:CMul i j):IntMulOk i j:=by
 rcases h with ⟨h1,h2⟩ | ⟨h1,h2⟩
 ·exact .of_left (intBits_le_64 h1 h2)
 ·exact .of_right (intBits_le_64 h1 h2)
theorem jKT (k:Nat):(0:Int)<=2 ^ k:=by
 rw[two_pow_cast]
 exact fw _
theorem yI:OpR X (binaryOp .Add) (rI0 fun i j=> .int (i+j)):=opI0 fun _ _ _ _ _ _ _ q=>add_int q
theorem jDE:OpR X (binaryOp .Sub) (rI0 fun i j=> .int (i - j)):=opI0 fun _ _ _ _ _ _ _ q=>sub_int q
theorem jDF:OpR X (binaryOp .Mult) (rI CMul fun i j=> .int (i*j)):=opI fun _ _ _ _ _ _ _ hc q=>mul_int q hc.ok
theorem jHB:OpR X (binaryOp .Mod) (rI (fun _ j=>0<j) fun i j=> .int (i % j)):=opI fun i j _ _ _ _ _ hc q=>by
 have h1:(0:Int)<j:=hc
 exact mod_int' (by lia) (by rw[Int.fmod_eq_emod_of_nonneg i (by lia)]; exact q)
theorem jMM:OpR X (binaryOp .Pow) (rI CPow fun i j=> .int (i ^ j.toNat)):=opI fun _ _ _ _ _ _ _ hc q=>pow_int_small hc.1 hc.2.1 hc.2.2 q
theorem jFA:OpR X (binaryOp .LShift) (rI CPow fun i j=> .int (i*2 ^ j.toNat)):=opI fun _ _ _ _ _ _ _ hc q=>lshift_int_small hc.1 hc.2.1 hc.2.2 q
theorem jML:OpR X (binaryOp .RShift) (rI (fun _ j=>0<=j) fun i j=> .int (i / 2 ^ j.toNat)):=opI fun i j _ _ _ _ _ hc q=>
 rshift_int hc (by rw[im i (jKT _)]; exact q)
theorem jHC:OpR X (binaryOp .BitAnd) (rI0 fun i j=> .int (Builtin.bitAnd i j)):=opI0 fun _ _ _ _ _ _ _ q=>and_int q
theorem op_or:OpR X (binaryOp .BitOr) (rI0 fun i j=> .int (Builtin.bitOr i j)):=opI0 fun _ _ _ _ _ _ _ q=>or_int q
theorem unI {f:Value->Sem Value}{g:Int->Int}
  (rule:∀ (i:Int) (t:Tok) (s:Shared) (Q:Value->Shared->Prop) (E:Value->Shared->Prop),Q (.int (g i) s.toks) { s with toks:=s.toks+1} ->wpAny (model X.prog X.w) X.A (f (.int i t)) Q E s):
  UnR X f (rU fun i=> .int (g i)):=by
 intro ad s σ H x v Q I rx h
 obtain⟨i,rfl,q⟩:=h
 obtain⟨t,rfl⟩:=rx
 exact rule i t s _ _ ⟨.int (g i),H,I.tok _,⟨_,rfl⟩,q⟩
theorem jQX:UnR X (unaryOp .USub) (rU fun i=> .int (-i)):=unI fun _ _ _ _ _ q=>neg_int q
theorem jUA:UnR X (unaryOp .Invert) (rU fun i=> .int (Builtin.bitNot i)):=unI fun _ _ _ _ _ q=>invert_int q
end
def scal:V->V->Bool
 | .non, .non=>true | .non, .int _=>true | .int _, .non=>true | .non, .bl _=>true | .bl _, .non=>true | .non, .str _=>true | .str _, .non=>true
 | .int _, .int _=>true | .bl _, .bl _=>true | .str _, .str _=>true | .byt _, .byt _=>true
 | .int _, .str _=>true | .str _, .int _=>true | .bl _, .str _=>true | .str _, .bl _=>true
 | _,_=>false
def rEq:R2:=fun x y H Q=>scal x y=true/\Q (.bl (decide (x=y))) H
def rNe:R2:=fun x y H Q=>scal x y=true/\Q (.bl (!decide (x=y))) H
theorem jET {i j:Int} :decide (V.int i=V.int j)=(i==j):=by
 rw[bV]
 simp
theorem jRT {i j:Bool} :decide (V.bl i=V.bl j)=(i==j):=by
 rw[bV]
 simp
theorem jOG {i j:Str} :decide (V.str i=V.str j)=(i==j):=by
 rw[bV]
 simp
theorem jOH {i j:Array UInt8} :decide (V.byt i=V.byt j)=(i.toList==j.toList):=by
 rw[bV]
 cases i
 cases j
 simp
section
variable {a:Expr}
theorem jW {ad:List (Addr×Obj)}{σ:St}{H:Hp}{s:Shared}{Q:VK}{k k':Bool}(I:Inv X ad σ H s)(q:Q (.bl k) H)(e:k=k'):EP X ad σ Q (.bool k') s:=by
 subst e
 exact⟨.bl k,H,I,rfl,q⟩
theorem qN:OpR X (compareOp .Eq) rEq:=by
 intro ad s σ H x y v u Q I rx ry h
 obtain⟨hs,q⟩:=h
 cases x with
 | non=>
  cases rx
  cases y with
  | non=>cases ry; exact PySem.EqNone.eq_none_none (jW I q (by simp))
  | bl j=>cases ry; exact PySem.EqNone.eq_none_bool (jW I q (by simp))
  | int j=>obtain⟨t',rfl⟩:=ry; exact PySem.EqNone.eq_none_int (jW I q (by simp))
  | str j=>obtain⟨t',rfl⟩:=ry; exact PySem.EqNone.eq_none_str (jW I q (by simp))
  | _=>exact absurd (show false=true from hs) aq
 | bl i=>
  cases rx
  cases y with
  | non=>cases ry; exact PySem.EqNone.eq_bool_none (jW I q (by simp))
  | bl j=>cases ry; exact eq_bool (jW I q jRT)
  | str j=>obtain⟨t',rfl⟩:=ry; exact PySem.EqMixed.eq_bool_str (jW I q (by simp))
  | _=>exact absurd (show false=true from hs) aq
 | int i=>
  obtain⟨t,rfl⟩:=rx
  cases y with
  | non=>cases ry; exact PySem.EqNone.eq_int_none (jW I q (by simp))
  | int j=>obtain⟨t',rfl⟩:=ry; exact eq_int (jW I q jET)
  | str j=>obtain⟨t',rfl⟩:=ry; exact PySem.EqMixed.eq_int_str (jW I q (by simp))
  | _=>exact absurd (show false=true from hs) aq
 | str i=>
  obtain⟨t,rfl⟩:=rx
  cases y with
  | non=>cases ry; exact PySem.EqNone.eq_str_none (jW I q (by simp))
  | bl j=>cases ry; exact PySem.EqMixed.eq_str_bool (jW I q (by simp))
  | int j=>obtain⟨t',rfl⟩:=ry; exact PySem.EqMixed.eq_str_int (jW I q (by simp))
  | str j=>obtain⟨t',rfl⟩:=ry; exact eq_str (jW I q jOG)
  | _=>exact absurd (show false=true from hs) aq
 | byt i=>
  obtain⟨t,rfl⟩:=rx
  cases y with
  | byt j=>obtain⟨t',rfl⟩:=ry; exact PySem.W.eq_bytes (jW I q jOH)
  | _=>exact absurd (show false=true from hs) aq
 | _=>cases y <;> exact absurd (show false=true from hs) aq
theorem op_ne:OpR X (compareOp .NotEq) rNe:=by
 intro ad s σ H x y v u Q I rx ry h
 obtain⟨hs,q⟩:=h
 cases x with
 | non=>
  cases rx
  cases y with
  | non=>cases ry; exact PySem.EqNone.ne_none_none (jW I q (by simp))
  | bl j=>cases ry; exact PySem.EqNone.ne_none_bool (jW I q (by simp))
  | int j=>obtain⟨t',rfl⟩:=ry; exact PySem.EqNone.ne_none_int (jW I q (by simp))
  | str j=>obtain⟨t',rfl⟩:=ry; exact PySem.EqNone.ne_none_str (jW I q (by simp))
  | _=>exact absurd (show false=true from hs) aq
 | bl i=>
  cases rx
  cases y with
  | non=>cases ry; exact PySem.EqNone.ne_bool_none (jW I q (by simp))
  | bl j=>cases ry; exact ne_bool (jW I q (bZ not jRT))
  | str j=>obtain⟨t',rfl⟩:=ry; exact PySem.EqMixed.ne_bool_str (jW I q (by simp))
  | _=>exact absurd (show false=true from hs) aq
 | int i=>
  obtain⟨t,rfl⟩:=rx
  cases y with
  | non=>cases ry; exact PySem.EqNone.ne_int_none (jW I q (by simp))
  | int j=>obtain⟨t',rfl⟩:=ry; exact ne_int (jW I q (bZ not jET))
  | str j=>obtain⟨t',rfl⟩:=ry; exact PySem.EqMixed.ne_int_str (jW I q (by simp))
  | _=>exact absurd (show false=true from hs) aq
 | str i=>
  obtain⟨t,rfl⟩:=rx
  cases y with
  | non=>cases ry; exact PySem.EqNone.ne_str_none (jW I q (by simp))
  | bl j=>cases ry; exact PySem.EqMixed.ne_str_bool (jW I q (by simp))
  | int j=>obtain⟨t',rfl⟩:=ry; exact PySem.EqMixed.ne_str_int (jW I q (by simp))
  | str j=>obtain⟨t',rfl⟩:=ry; exact ne_str (jW I q (bZ not jOG))
  | _=>exact absurd (show false=true from hs) aq
 | byt i=>
  obtain⟨t,rfl⟩:=rx
  cases y with
  | byt j=>obtain⟨t',rfl⟩:=ry; exact PySem.W.ne_bytes (jW I q (bZ not jOH))
  | _=>exact absurd (show false=true from hs) aq
 | _=>cases y <;> exact absurd (show false=true from hs) aq
theorem op_lt:OpR X (compareOp .Lt) (rI0 fun i j=> .bl (decide (i<j))):=opB0 fun _ _ _ _ _ _ _ q=>lt_int q
theorem op_gt:OpR X (compareOp .Gt) (rI0 fun i j=> .bl (decide (j<i))):=opB0 fun _ _ _ _ _ _ _ q=>gt_int q
theorem op_ge:OpR X (compareOp .GtE) (rI0 fun i j=> .bl (decide (j<=i))):=opB0 fun _ _ _ _ _ _ _ q=>ge_int q
theorem kI (b:Expr){op:CmpOp}(h:op≠ .In:=by decide)(h2:op≠ .NotIn:=by decide):behindInMarks op b=false:=by
 have e1:(op==CmpOp.In)=false:=by cases op <;> first | rfl | exact absurd rfl h
 have e2:(op==CmpOp.NotIn)=false:=by cases op <;> first | rfl | exact absurd rfl h2
 cases b <;> simp [behindInMarks,e1,e2]
theorem jSS {op:CmpOp}{r:R2}(ho:OpR X (compareOp op) r)(ha:PE X a ta)(hb:PE X b tb)(hm:behindInMarks op b=false):PE X (.Compare a [op] [b] pos) (tOp r ta tb):=by
 intro ad s σ H Q I h
 exact wpAny_Compare1 (binT ha hb I h fun v u s2 x y H2 I2 rx ry q=>ho ad s2 σ H2 x y v u Q I2 rx ry q) hm
def tTest (t:TE):TT:=fun σ H Q=>t σ H fun x H'=>∃ k,x= .bl k/\Q k H'
theorem jE6 {op:CmpOp}{r:R2}(ho:OpR X (compareOp op) r)(ha:PE X a ta)(hb:PE X b tb)(hm:behindInMarks op b=false):PT X (.Compare a [op] [b] pos) (tTest (tOp r ta tb)):=by
 intro ad s σ H Q I h
 refine wpAny_isTrue_Compare1 (ly (ha ad s σ H _ I h) fun v s1 ⟨x,H1,I1,r1,q1⟩=>ly (hb ad s1 σ H1 _ I1 q1) fun u s2 ⟨y,H2,I2,r2,q2⟩=>
  ly (ho ad s2 σ H2 x y v u _ I2 r1 r2 q2) fun c s3 ⟨z,H3,I3,r3,k,e,q3⟩=>?_) hm
 subst e
 cases r3
 exact dX ⟨H3,I3,q3⟩
theorem jHJ:(sizeLine:Nat)<2 ^ 63:=by rw[eJ]; decide
theorem vals1 {x:V}{us:List Value}(r:Vals [x] us):∃ u,us=[u]/\RelV x u:=by
 cases r with
 | cons r1 r2=>cases r2; exact⟨_,rfl,r1⟩
theorem jOS:yV X (.type "int") (fun xs H Q=>(∃ i,xs=[.int i]/\Q (.int i) H)\/∃ k,xs=[.bl k]/\Q (.int (if k then 1 else 0)) H):=by
 intro ad s σ H xs us Q I r h
 rcases h with ⟨i,rfl,q⟩ | ⟨k,rfl,q⟩
 ·obtain⟨u,rfl,t,rfl⟩:=vals1 r
  exact call_int_int ⟨.int i,H,I,⟨_,rfl⟩,q⟩
 ·obtain⟨u,rfl,r1⟩:=vals1 r
  cases r1
  exact call_int_bool ⟨.int (if k then 1 else 0),H,I.tok _,⟨_,rfl⟩,q⟩
end
structure ObjM (h:Heap)(x dx C:Addr)(mA:Str->Option Value):Prop where
 obj:h.get? x=some (instObj C dx)
 ns:h.Ns1 dx mA
 ne:dx≠x
theorem jNH {h:Heap}{dx:Addr}{mA:Str->Option Value}(n:h.Ns1 dx mA):∃ od,h.get? dx=some od/\∀ name,lookIn name od=some (mA name):=by
 obtain⟨o,es,ep,ho,hd,hk,_,hm⟩:=n
 refine⟨o,ho,fun name=>?_⟩
 have e:=hm name
 unfold nsFind findBy at e
 rw[<- Array.find?_toList] at e
 unfold lookIn
 rw[hd]
 dsimp only
 split
 ·rename_i y q
  rw[q] at e
  exact bZ some e
 ·rename_i q
  rw[q] at e
  have a:es.toList.any (·.refKey)=false:=by
   rw[List.any_eq_false]
   intro y hy
   obtain⟨z,t,hkey⟩:=hk y (Array.mem_toList_iff.mp hy)
   simp [DictEntry.refKey,hkey]
  have a':¬ es.toList.any (·.refKey)=true:=by rw[a]; exact aq
  rw[ao a']
  exact bZ some e
theorem ObjM.look {h:Heap}{x dx C:Addr}{mA:Str->Option Value}(I:ObjM h x dx C mA):∃ od,PySem.W.InstAt h x (instObj C dx) C (some od)/\∀ name,lookIn name od=some (mA name):=
 let ⟨od,ho,hl⟩:=jNH I.ns
 ⟨od,⟨I.obj,rfl,rfl,ho⟩,hl⟩
variable {A:Around}{dx C f:Addr}
section
variable {prog:Program}{K:W.Frag}{mA:Str->Option Value}{name:Str}{v:Value}
end
theorem RelO.some_of {v:V}{o:Option Value}(r:RelO (some v) o):∃ u,o=some u/\RelV v u:=by
 cases o with
 | none=>exact(show False from r).elim
 | some u=>exact⟨u,rfl,r⟩
section
variable {fs fs':List (Str×V)}
theorem jTL (hok:HOk P w H h)(e:H a=some (.ins C dx fs)):∃ mA,ObjM h a dx C mA/\(∀ f,RelO (fs.lookup f) (mA f))/\PySem.Within mA (fs.map (·.1))/\fs.length<=1000/\H dx=some (.own a):=by
 obtain⟨d,z,ne,ob,mA,n,r,q⟩:=(show ObjOk P w H h a (.ins C dx fs) from hok a _ e)
 exact⟨mA,⟨ob,n,ne⟩,r,q,z,d⟩
end
structure Cls (K:W.Frag)(C:Addr):Prop where
 pg:plainGet K C Str.empty=true
 hd:PySem.W.hasDictIn K C=true
 po:PySem.W.plainOver K C=true
 sa:findIn K (.ref C) "__setattr__" =some (some (.builtin "object.__setattr__"))
theorem Cls.get {K:W.Frag}{C:Addr}(c:Cls K C)(f:Str):plainGet K C f=true:=c.pg
section
variable {σ:St}{fs:List (Str×V)}{f:Str}{v:V}
end
variable {o:Expr}
section
variable {value:Expr}{f:Str}{pos' tpos:Pos}{tv:TE}
end
section
variable {σ:St}{Q:Value->Shared->Prop}{c:Value}{b:Bool}
inductive TyOf (K:W.Frag) (H:Hp):V->Value->Prop where
 | non:TyOf K H .non (.type "NoneType")
 | bl (x:Bool):TyOf K H (.bl x) (.type "bool")
 | int (i:Int):TyOf K H (.int i) (.type "int")
 | str (x:Str):TyOf K H (.str x) (.type "str")
 | flt (x:UInt64):TyOf K H (.flt x) (.type "float")
 | lst {a:Addr}{xs:List V}(e:H a=some (.lst xs)):TyOf K H (.ref a) (.type "list")
 | frz {a:Addr}{o:Obj}{xs:List V}(e:H a=some (.frz o (.lst xs))):TyOf K H (.ref a) (.type "list")
 | tup {a:Addr}{xs:List V}(e:H a=some (.tup xs)):TyOf K H (.ref a) (.type "tuple")
 | dK {a:Addr}{kvs:List (Key×V)}(e:H a=some (.dK kvs)):TyOf K H (.ref a) (.type "dict")
 | dT {a:Addr}{kvs:List (List Key×V)}(e:H a=some (.dT kvs)):TyOf K H (.ref a) (.type "dict")
 | ins {a C dx:Addr}{fs:List (Str×V)}(e:H a=some (.ins C dx fs)) (cl:Cls K C) (ha:findIn K (.ref C) "__class__" =some (some (.builtin "object.__class__")))
   (hn:PySem.W.specialIn K (.builtin "object.__class__") "__get__" =some (some (.builtin "getset_descriptor.__get__"))) (htk:PySem.W.takesIn K (.builtin "object.__class__")=some true)
   (hm:mroIn K C (.type "object")=some true):TyOf K H (.ref a) (.ref C)
theorem jO1 {x:V}{u t:Value}(I:Inv X ad σ H s)(rx:RelV x u)(ty:TyOf X.K H x t)(e:kitOne X.K t c=some b)(h:∀ tk,Q (.bool b) { s with toks:=tk}):
  wpAny (model X.prog X.w) A (call (.builtin "isinstance") [u,c]) Q E s:=by
 cases ty with
 | non=>cases (show u=Value.none from rx); exact cD PySem.W.kitx_none I.kIn True.intro e (fun z=>nomatch z) h
 | bl y=>cases (show u=Value.bool y from rx); exact cD PySem.W.kitx_bool I.kIn True.intro e (fun z=>nomatch z) h
 | int i=>obtain⟨t,q⟩:=(show ∃ t,u=Value.int i t from rx); cases q; exact cD PySem.W.kitx_int I.kIn True.intro e (fun z=>nomatch z) h
 | str y=>obtain⟨t,q⟩:=(show ∃ t,u=Value.str y t from rx); cases q; exact cD PySem.W.kitx_str I.kIn True.intro e (fun z=>nomatch z) h
 | flt y=>obtain⟨t,q⟩:=(show ∃ t,u=Value.float y t from rx); cases q; exact cD PySem.W.kitx_float I.kIn True.intro e (fun z=>nomatch z) h
 | @lst a xs ea=>
  cases (show u=Value.ref a from rx)
  obtain⟨_,_,n,_,h1⟩:=(show ObjOk X.prog X.w H s.heap a (.lst xs) from I.hok a _ ea)
  exact cD kitx_list I.kIn ⟨_,h1,rfl⟩ e (fun z=>nomatch z) h
 | @frz a ob xs ea=>
  cases (show u=Value.ref a from rx)
  obtain⟨_,_,_,n,_,h1⟩:=(show ObjOk X.prog X.w H s.heap a (.frz ob (.lst xs)) from I.hok a _ ea)
  exact cD kitx_list I.kIn ⟨_,h1,rfl⟩ e (fun z=>nomatch z) h
 | @tup a xs ea=>
  cases (show u=Value.ref a from rx)
  obtain⟨_,_,_,p⟩:=(show ObjOk X.prog X.w H s.heap a (.tup xs) from I.hok a _ ea)
  obtain⟨o,h1,h2,_⟩:=p.isTup
  exact cD PySem.W.kitx_tuple I.kIn ⟨o,h1,h2⟩ e (fun z=>nomatch z) h
 | @dK a kvs ea=>
  cases (show u=Value.ref a from rx)
  obtain⟨_,_,vs,_,p⟩:=(show ObjOk X.prog X.w H s.heap a (.dK kvs) from I.hok a _ ea)
  obtain⟨o,es,ep,h1,h2,_⟩:=p
  exact cD kitx_dict I.kIn ⟨o,h1,h2.1⟩ e (fun z=>nomatch z) h
 | @dT a kvs ea=>
  cases (show u=Value.ref a from rx)
  obtain⟨_,_,xs,_,o,es,ep,h1,h2,_⟩:=(show ObjOk X.prog X.w H s.heap a (.dT kvs) from I.hok a _ ea)
  exact cD kitx_dict I.kIn ⟨o,h1,h2.1⟩ e (fun z=>nomatch z) h
 | @ins a C dx fs ea cl ha hn htk hm=>
  cases (show u=Value.ref a from rx)
  obtain⟨mA,O,_⟩:=jTL I.hok ea
  obtain⟨od,J,_⟩:=O.look
  exact cD (PySem.W.kitx_own (cl.get _) cl.hd ha hn htk hm) I.kIn J e (fun z=>nomatch z) h
end
structure Room (k:Nat)(A:Around):Prop where
 hd:A.handled=none
 dp:A.depth+3*k+5<recursionLimit
 un:A.units+16*k+200<cLine
theorem Room.mono {j k:Nat}{A:Around}(r:Room k A)(h:j<=k):Room j A:=⟨r.hd,by have:=r.dp; lia,by have:=r.un; lia⟩
theorem Room.deeper {k:Nat}{A:Around}(r:Room (k+1) A)(env:Env):Room k (A.deeper env):=
 ⟨r.hd,by have:=r.dp; show A.depth+1+3*k+5<_; lia,by have:=r.un; show A.units+3+16*k+200<_; lia⟩
theorem Room.in1 {k:Nat}{A:Around}(r:Room (k+1) A):Room k A.in1:=
 ⟨r.hd,by have:=r.dp; show A.depth+3*k+5<_; lia,by have:=r.un; show A.units+1+16*k+200<_; lia⟩
theorem Room.depth {k:Nat}{A:Around}(r:Room k A):A.depth<recursionLimit:=by have:=r.dp; lia
theorem Room.units {k:Nat}{A:Around}(r:Room k A):A.units+64<cLine:=by have:=r.un; lia
theorem Room.units0 {k:Nat}{A:Around}(r:Room k A):A.units<cLine:=by have:=r.un; lia
def tNil:TA:=fun _ H Q=>Q [] H
def tCons (ta:TE)(tr:TA):TA:=fun σ H Q=>ta σ H fun x H1=>tr σ H1 fun xs H2=>Q (x::xs) H2
variable {es:List Expr}{t:TA}
theorem yL:PA X [] tNil:=fun _ _ _ _ H Q I h=>Calls.spliced_nil ⟨[],H,I, .nil,h⟩
theorem jV (ha:PE X e te)(hr:PA X es t)(hs:starEach (e::es) X.env=(false,eval e X.env)::starEach es X.env:=by rfl):PA X (e::es) (tCons te t):=by
 intro pos ad s σ H Q I h
 rw[hs]
 show wpAny _ _ (spliced ((false,eval e X.env)::backTo pos (starEach es X.env))) _ _ s
 refine Calls.spliced_cons (ly (ha ad s σ H _ I h) fun u s1 ⟨x,H1,I1,r1,q1⟩=>?_)
 exact ly (hr pos ad s1 σ H1 _ I1 q1) fun us s2 ⟨xs,H2,I2,r2,q2⟩=>⟨x::xs,H2,I2, .cons r1 r2,q2⟩
def tTup (t:TA):TE:=fun σ H Q=>t σ H fun xs H1=>xs.length<=sizeLine/\∀ p,H1 p=none->Q (.ref p) (upd H1 p (.tup xs))
def tLst (t:TA):TE:=fun σ H Q=>t σ H fun xs H1=>xs.length<=sizeLine/\∀ p,H1 p=none->Q (.ref p) (upd H1 p (.lst xs))
theorem jUU {x1}(h:PA X es t):PE X (.Tuple es x1 pos) (tTup t):=by
 intro ad s σ H Q I hq
 refine wpAny_Tuple_spliced (ly (h pos ad s σ H _ I hq) fun us s1 ⟨xs,H1,I1,r,z,q⟩=>⟨by rw[<- r.length]; exact z,?_⟩)
 have hf:H1 s1.heap.objs.size=none:=I1.hok.fresh (am _)
 refine⟨.ref s1.heap.objs.size,upd H1 s1.heap.objs.size (.tup xs),I1.laid (t':=s1.toks) (fun b u e=>ag _ e) (am _) ?_,rfl,q _ hf⟩
 exact⟨z,us,r,TupO.new _ _⟩
theorem jJY (h:PA X es t):PE X (.List es pos) (tLst t):=by
 intro ad s σ H Q I hq
 refine wpAny_List_spliced (ly (h pos ad s σ H _ I hq) fun us s1 ⟨xs,H1,I1,r,z,q⟩=>⟨by rw[<- r.length]; exact z,?_⟩)
 have hf:H1 s1.heap.objs.size=none:=I1.hok.fresh (am _)
 refine⟨.ref s1.heap.objs.size,upd H1 s1.heap.objs.size (.lst xs),I1.laid (t':=s1.toks) (fun b u e=>ag _ e) (am _) ?_,rfl,q _ hf⟩
 exact⟨z,us,0,r,aA _ rfl⟩
abbrev Sp:=List V->Hp->VK->XK->Prop
abbrev CXT:=List Env->Hp->Shared->XK->Value->Shared->Prop
structure Env0 (P:Program)(w:World)(K:W.Frag)(mg:Str->Option Value)(lv:Heap)(A:Around)(lu:List Env)(s:Shared)(H:Hp):Prop where
 frames:A.frames=some lu
 mod:Mod K mg lv
 bs:∀ b o,lv.get? b=some o->s.heap.get? b=some o/\H b=none
 bsz:lv.objs.size<=s.heap.objs.size
 funs:s.heap.FunFrames lv lu
 frf:∀ b∈frs lu,H b=none
 hok:HOk P w H s.heap
 bare:AllBare s.gens
def CE (lu:List Env)(P:Program)(w:World)(H:Hp)(s:Shared)(Q:VK)(u:Value)(s':Shared):Prop:=
 ∃ v H',s'.os=s.os/\AllBare s'.gens/\Un (frs lu) [] H H' s.heap s'.heap/\HOk P w H' s'.heap/\RelV v u/\Q v H'
def CR (CX:CXT)(lu:List Env)(P:Program)(w:World)(H:Hp)(s:Shared)(Q:VK)(E:XK)(r:Result)(s':Shared):Prop:=
 match r with
 | .ok (.ret u)=>CE lu P w H s Q u s'
 | .ok _=>False
 | .error e=>CX lu H s E e s'
structure FnOk (P:Program)(w:World)(K:W.Frag)(mg:Str->Option Value)(lv:Heap)(CX:CXT)(k:Nat)(f:Addr)(fd:FuncData)(ps:List Str)(sp:Sp):Prop where
 len:∀ vs H Q E,sp vs H Q E->vs.length=ps.length
 run:∀ (A:Around) (lu:List Env) (s:Shared) (H:Hp) (args:Args) (us:List Value) (vs:List V) (Q:VK) (E:XK),Room k A->Env0 P w K mg lv A lu s H->BindsTo s fd args (ps.zip us)->Vals vs us->sp vs H Q E->
  codeAny (model P w) A (.call (.ref f) args) (CR CX lu P w H s Q E) s
theorem Env0.in1 {P:Program}{w:World}{K:W.Frag}{mg:Str->Option Value}{lv:Heap}{A:Around}{lu:List Env}{s:Shared}{H:Hp}(e:Env0 P w K mg lv A lu s H):
  Env0 P w K mg lv A.in1 lu s H:=⟨e.frames,e.mod,e.bs,e.bsz,e.funs,e.frf,e.hok,e.bare⟩
section
variable {σ:St}{s':Shared}
theorem Inv.env0 (I:Inv X ad σ H s):Env0 X.prog X.w X.K X.mg X.lv X.A X.stack s H:=
 ⟨I.ok.frames,I.ok.mod,I.bs,bf I.ok.bsz I.sz,I.stack,I.stkFree,I.hok,I.bare⟩
theorem Inv.after {Q:VK}{u:Value}(I:Inv X ad σ H s)(h:CE X.stack X.prog X.w H s Q u s'):EP X ad σ Q u s':=by
 obtain⟨v,H',os,bare,un,hok,r,q⟩:=h
 obtain⟨hh,g,d,t,os'⟩:=s'
 obtain rfl:os'=s.os:=os
 exact⟨v,H',I.call (h':=hh) (g':=g) (d':=d) (t':=t) (ch:=[]) un hok bare (fun b z=>absurd z (by simp)),r,q⟩
end
def tCall (sp:Sp)(dvs:List V)(E:XK)(t:TA):TE:=fun σ H Q=>t σ H fun vs H1=>sp (vs++dvs) H1 Q E
def Binds (K:W.Frag)(fd:FuncData)(ps:List Str)(ds:List Value):Prop:=
 ∀ (s:Shared) (us:List Value),K.In s.heap->(us++ds).length=ps.length->BindsTo s fd ⟨us,[]⟩ (ps.zip (us++ds))
theorem Binds.all {K:W.Frag}{fd:FuncData}{ps:List Str}(h:∀ us:List Value,us.length=ps.length->bindArgs fd ⟨us,[]⟩=pure (ps.zip us)):Binds K fd ps []:=fun s us _ hl=>by
 rw[aZ] at hl ⊢
 exact .of_eq (h us hl)
def jP2 (CX:CXT)(X:Cx)(E:XK):Prop:=∀ (ad:List (Addr×Obj)) (σ:St) (H:Hp) (s:Shared) (e:Value) (s':Shared),Inv X ad σ H s->CX X.stack H s E e s'->X.xe e s'
variable {CX:CXT}{fd:FuncData}{ps:List Str}{sp:Sp}{m:Str}{p apos:Pos}
section
variable {k:Nat}{dvs:List V}{ds:List Value}{E:XK}{x:Str}
theorem jUJ {ad:List (Addr×Obj)}{σ:St}{H:Hp}{s:Shared}{Q:VK}{us:List Value}{vs:List V}(F:FnOk X.prog X.w X.K X.mg X.lv CX k f fd ps sp)(hr:Room k X.A)(hb:Binds X.K fd ps ds)(hd:Vals dvs ds)(hx:jP2 CX X E)
  (I:Inv X ad σ H s) (r:Vals vs us) (h:sp (vs++dvs) H Q E):wpAny (model X.prog X.w) X.A (call (.ref f) us) (EP X ad σ Q) X.xe s:=by
 have r2:Vals (vs++dvs) (us++ds):=r.append hd
 have hl:(us++ds).length=ps.length:=by rw[<- r2.length]; exact F.len _ _ _ _ h
 refine io (dN (F.run X.A X.stack s H ⟨us,[]⟩ (us++ds) (vs++dvs) Q E hr I.env0 (hb s us I.kIn hl) r2 h) fun r s' hq=>?_)
 cases r with
 | error e=>exact hx ad σ H s e s' I hq
 | ok fl=>
  cases fl with
  | ret u=>exact I.after hq
  | next=>exact False.elim hq
  | brk=>exact False.elim hq
  | cont=>exact False.elim hq
theorem jST (F:FnOk X.prog X.w X.K X.mg X.lv CX k f fd ps sp)(hr:Room k X.A)(hg:Gl X x)(hm:X.mg x=some (.ref f))(hk:keepIn X.K (.ref f)=true)(hb:Binds X.K fd ps ds)(hd:Vals dvs ds)(hx:jP2 CX X E)
  (ha:PA X (e::es) t) (hdb:(x==("__debug__" :Str))=false:=by decide) (he:starEach (e::es) X.env=(false,eval e X.env)::starEach es X.env:=by rfl) (hpl:(backTo pos (starEach es X.env)).any (·.1)=false:=by rfl):
  PE X (.Call (.Name x p) (e::es) [] pos) (tCall sp dvs E t):=by
 intro ad s σ H Q I h
 refine cL (jIV I hg hm ?_ hdb)
 refine ku (h₀:=X.lv) I.ok.mod.kin hk (ly (ha pos ad s σ H _ I h) fun us s1 ⟨vs,H1,I1,r,q⟩=>⟨I1.kIn,?_⟩) he hpl
 exact jUJ F hr hb hd hx I1 r q
end
def PK (X:Cx)(kws:List Keyword)(t:TA):Prop:=
 ∀ (pos:Pos) (ad:List (Addr×Obj)) (s:Shared) (σ:St) (H:Hp) (Q:List V->Hp->Prop),Inv X ad σ H s->t σ H Q->wpAny (model X.prog X.w) X.A (evalAll ((backToKw pos (keywordEach kws X.env)).map (·.2))) (AP X ad σ Q) X.xe s
section
variable {k:Nat}{ks:List Str}{E:XK}{x:Str}{kpos:Pos}{kws:List Keyword}{tk:TA}{nm:Option Str}
theorem jUQ:PK X [] tNil:=fun _ _ _ _ H Q I h=>wpAny_evalAll_nil ⟨[],H,I, .nil,h⟩
theorem jSH (ha:PE X e te)(hr:PK X kws t):PK X (⟨nm,e,kpos⟩::kws) (tCons te t):=by
 intro pos ad s σ H Q I h
 show wpAny _ _ (evalAll ((do let v <- eval e X.env; standAt pos; pure v)::(backToKw pos (keywordEach kws X.env)).map (·.2))) _ _ s
 refine wpAny_evalAll_cons (ae (ly (ha ad s σ H _ I h) fun u s1 ⟨x,H1,I1,r1,q1⟩=>ae (eR (ak ?_))))
 exact ly (hr pos ad s1 σ H1 _ I1 q1) fun us s2 ⟨xs,H2,I2,r2,q2⟩=>⟨x::xs,H2,I2, .cons r1 r2,q2⟩
variable {g:List Value->List Value->List Value}{gV:List V->List V->List V}
end
structure FnScope (N P:List Str)(sc:Scope):Prop where
 kind:sc.kind= .function:=by rfl
 co:sc.isCoroutine=false:=by rfl
 gen:sc.isGenerator=false:=by rfl
 nd:N.Nodup:=by decide+kernel
 pre:N.take P.length=P:=by rfl
 par:∀ x∈P,sc.names.lookup x=some .local\/sc.names.lookup x=some .cell:=by decide+kernel
 nofree:∀ y∈sc.names,y.2≠ .free:=by decide+kernel
theorem jI4 {kindOf:Str->Option NameKind}{x:Str} :∀ {binds:List (Str×Value)}{m:Str->Option Value},(∀ v,(x,v)∉binds)->bindL kindOf binds m x=m x
 | [],_,_=>rfl
 | (n,v)::r,m,h=>by
  unfold bindL
  rw[jI4 fun w hw=>h w (ah _ hw)]
  split
  ·have:x≠n:=by rintro rfl; exact h v ai
   simp [this]
  ·rfl
theorem jI6 {kindOf:Str->Option NameKind}{x:Str} :∀ {binds:List (Str×Value)}{m:Str->Option Value},(∀ v,(x,v)∉binds)->bindC kindOf binds m x=m x
 | [],_,_=>rfl
 | (n,v)::r,m,h=>by
  unfold bindC
  rw[jI6 fun w hw=>h w (ah _ hw)]
  split
  ·rfl
  ·have:x≠n:=by rintro rfl; exact h v ai
   simp [this]
theorem jI5 {kindOf:Str->Option NameKind}{x:Str}{v:Value} :∀ {P:List Str}{vs:List Value}{i:Nat}{m:Str->Option Value},P.Nodup->P[i]?=some x->vs[i]?=some v->kindOf x=some .local->
  bindL kindOf (P.zip vs) m x=some v
 | [],_,_,_,_,h,_,_=>by simp at h
 | _::_,[],_,_,_,_,h,_=>by simp at h
 | p::P,w::vs,0,m,nd,h1,h2,hk=>by
  simp at h1 h2; subst h1; subst h2
  show bindL kindOf ((p,w)::P.zip vs) m p=_
  unfold bindL
  rw[jI4 fun v hv=>(cE.mp nd).1 (dI hv).1,ar hk]
  simp
 | p::P,w::vs,i+1,m,nd,h1,h2,hk=>by
  show bindL kindOf ((p,w)::P.zip vs) m x=_
  unfold bindL
  exact jI5 (i:=i) (cE.mp nd).2 (by simpa using h1) (by simpa using h2) hk
theorem jI7 {kindOf:Str->Option NameKind}{x:Str}{v:Value} :∀ {P:List Str}{vs:List Value}{i:Nat}{m:Str->Option Value},P.Nodup->P[i]?=some x->vs[i]?=some v->kindOf x≠some .local->
  bindC kindOf (P.zip vs) m x=some v
 | [],_,_,_,_,h,_,_=>by simp at h
 | _::_,[],_,_,_,_,h,_=>by simp at h
 | p::P,w::vs,0,m,nd,h1,h2,hk=>by
  simp at h1 h2; subst h1; subst h2
  show bindC kindOf ((p,w)::P.zip vs) m p=_
  unfold bindC
  rw[jI6 fun v hv=>(cE.mp nd).1 (dI hv).1,ao hk]
  simp
 | p::P,w::vs,i+1,m,nd,h1,h2,hk=>by
  show bindC kindOf ((p,w)::P.zip vs) m x=_
  unfold bindC
  exact jI7 (i:=i) (cE.mp nd).2 (by simpa using h1) (by simpa using h2) hk
def y0 (N:List Str)(vs:List V):St:=vs.map some++replicate (N.length - vs.length) none
def cxOf (CX:CXT)(P:Program)(w:World)(K:W.Frag)(mg:Str->Option Value)(lv:Heap)(N:List Str)(qual:Str)(scope:Scope)(f:Addr)(cd:Value)(A:Around)(lu:List Env)(s:Shared)(H:Hp)(E:XK):Cx where
 prog:=P
 w:=w
 K:=K
 mg:=mg
 lv:=lv
 A:=A.deeper (envOfC qual scope s.heap.objs.size f cd)
 N:=N
 s₀:=s
 H₀:=H
 env:=envOfC qual scope s.heap.objs.size f cd
 lu:=lu
 stack:=envOfC qual scope s.heap.objs.size f cd::lu
 ex:=[]
 calm:=true
 fn:=fun _=>true
 pn:=[]
 xe:=fun e s'=>wpAny (model P w) (A.deeper (envOfC qual scope s.heap.objs.size f cd)) (leaving (envOfC qual scope s.heap.objs.size f cd) e) (fun _ s''=>CX lu H s E e s'') (fun e' s''=>CX lu H s E e' s'') s'
theorem jKO {sc:Scope}{n:Nat}{x:Str}(h:sc.names.lookup x=some .cell):∃ c,(cellsFrom n sc.names []).lookup x=some c:=by
 have q:=gb sc.names n [] (.inl h)
 exact Option.isSome_iff_exists.mp q
theorem jHN {CX:CXT}{P:Program}{w:World}{K:W.Frag}{mg:Str->Option Value}{lv:Heap}{N ps:List Str}{qual:Str}{scope:Scope}{f:Addr}{cd:Value}{A:Around}{lu:List Env}{s s1:Shared}{H:Hp}{E:XK}{us:List Value}{vs:List V}
  (S:FnScope N ps scope) (hd:A.handled=none) (e0:Env0 P w K mg lv A lu s H) (hl:vs.length=ps.length) (r:Vals vs us)
  (x:InCallC s s.heap.objs.size (bindL (envOfC qual scope s.heap.objs.size f cd).kindOf (ps.zip us) fun _=>none) (cellsFrom (s.heap.objs.size+1) scope.names []) (bindC (envOfC qual scope s.heap.objs.size f cd).kindOf (ps.zip us) fun _=>none) s1):
  Inv (cxOf CX P w K mg lv N qual scope f cd A lu s H E) [] (y0 N vs) H s1:=by
 have hpl:ps.length<=N.length:=by have:=bZ List.length S.pre; rw[bN] at this; lia
 obtain⟨h1,tk,rfl,hk⟩:=x.done
 have noA:∀ b:Addr,b∉(cxOf CX P w K mg lv N qual scope f cd A lu s H E).ex:=fun b z=>absurd (show b∈([]:List Addr) from z) (by simp)
 refine⟨⟨e0.mod,S.kind,rfl,rfl,am _,fun y z c h1 h2=>?_,fun y hy=>?_,fun y c _ h=>?_,fun _=>hd,gO e0.frames, .inr ⟨rfl,rfl⟩,fun b z=>absurd z (noA b),e0.bs,e0.bsz,fun b _ _=>noA b,fun b z=>absurd z (noA b),e0.funs,e0.frf⟩,
  rfl,e0.bare,Un.kept hk,⟨_,x.toInCall.ns,fun i y v h1 h2 h3=>?_⟩,fun y c h=>⟨_,x.cell y c h⟩,e0.hok.fresh (am _),fun y c h=>?_,fun p hp=>absurd (show p∈([]:List (Addr×Obj)) from hp) (by simp),e0.hok.kept hk,?_⟩
 ·exact name_of_addr x.apart (bF h1) (bF h2)
 ·have hy:scope.names.lookup y=some .cell\/scope.names.lookup y=some .free:=hy
  rcases hy with hy | hy
  ·exact jKO hy
  ·exact absurd rfl (S.nofree _ (bF hy))
 ·exact cY (x.above y c (bF h))
 ·have hi:i<vs.length:=by
   unfold y0 at h2
   by_cases hi:i<vs.length
   ·exact hi
   ·rw[bh (by simpa using hi)] at h2
    rw[iT] at h2
    split at h2 <;> cases h2
  have ha:vs[i]?=some v:=by
   unfold y0 at h2
   rw[b8 (by simpa using hi),aR] at h2
   cases e:vs[i]? with
   | none=>rw[e] at h2; cases h2
   | some a=>rw[e] at h2; cases h2; rfl
  obtain⟨u,hu,rv⟩:=r.get ha
  have hp:ps[i]?=some y:=by
   rw[<- S.pre,cA (by lia)]; exact h1
  have ndP:ps.Nodup:=by rw[<- S.pre]; exact S.nd.sublist (dY _ _)
  refine⟨u,rv,?_⟩
  rcases S.par y (aJ hp) with k | k
  ·exact .inl ⟨k,jI5 ndP hp hu k⟩
  ·obtain⟨c,e⟩:=jKO (n:=s.heap.objs.size+1) k
   refine .inr ⟨.inl k,c,e,?_⟩
   have q:=x.cell y c e
   rw[jI7 ndP hp hu (by show scope.names.lookup y≠_; rw[k]; decide)] at q
   exact q
 ·exact e0.hok.fresh (cY (x.above y c (bF h)))
 ·unfold y0
  show _=N.length
  rw[aH,af,gz]
  lia
theorem fn_of {CX:CXT}{P:Program}{w:World}{K:W.Frag}{mg:Str->Option Value}{lv:Heap}{k:Nat}{f:Addr}{name qual:Str}{params:Arguments}{body:List Stmt}{scope:Scope}{dV kV doc pm lw ct oc:Value}{an od:Option Addr}
  {osl:Array (Option Value)}{N ps:List Str}{sp:Sp}(lk:K.lookup f=some ⟨oc,od, .func (PySem.W.fnOf name qual params body scope dV kV doc pm an lw ct),osl⟩) (hcd:PySem.W.codeIn K lw qual=true) (S:FnScope N ps scope)
  (len:∀ vs H Q E,sp vs H Q E->vs.length=ps.length)
  (hbody:∀ (A:Around) (lu:List Env) (s:Shared) (H:Hp) (vs:List V) (Q:VK) (E:XK),Room k (A.deeper (envOfC qual scope s.heap.objs.size f lw))->sp vs H Q E->
   ∃ t,PSs (cxOf CX P w K mg lv N qual scope f lw A lu s H E) body t/\t { nx:=fun _ H'=>Q .non H',rt:=Q} (y0 N vs) H):
  FnOk P w K mg lv CX (k+1) f (PySem.W.fnOf name qual params body scope dV kV doc pm an lw ct) ps sp:=by
 refine⟨len,fun A lu s H args us vs Q E hr e0 hb r hsp=>?_⟩
 have hl:=len _ _ _ _ hsp
 have KX:K.In s.heap:=e0.mod.kin.keeps fun b o e=>(e0.bs b o e).1
 have lim:s.heap.NoLimit:=e0.mod.nolimit.keeps fun b o e=>(e0.bs b o e).1
 have hkind:∀ y∈ps.zip us,scope.names.lookup y.1=some .local\/(scope.names.lookup y.1=some .cell/\((cellsFrom (s.heap.objs.size+1) scope.names []).lookup y.1).isSome=true):=fun ⟨n,v⟩ hy=>by
  rcases S.par n (dI hy).1 with q | q
  ·exact .inl q
  ·exact .inr ⟨q,gb _ _ _ (.inl q)⟩
 refine codeAny_call_function hr.depth (KX _ _ lk) rfl S.co S.gen rfl (kx KX hcd) (hb _ _ _ _ ?_)
 refine iq S.kind hkind fun env he s1 x=>?_
 subst he
 refine⟨lim.keeps x.toInCall.keep,codeAny_func ?_⟩
 obtain⟨t,ht,hq⟩:=hbody A lu s H vs Q E (hr.deeper _) hsp
 have I:Inv (cxOf CX P w K mg lv N qual scope f lw A lu s H E) [] (y0 N vs) H s1:=jHN S hr.hd e0 hl r x
 refine b7 (ht [] s1 (y0 N vs) H _ I hq) (fun fl s' hs=>?_) fun e s' hs=>hs
 have fin:∀ {σ':St}{H':Hp}{v:V}{u:Value},Inv (cxOf CX P w K mg lv N qual scope f lw A lu s H E) [] σ' H' s'->RelV v u->Q v H'->CE lu P w H s Q u s':=
  fun {σ' H' v u} J rv q=>⟨v,H',J.os,J.bare,J.lv,J.hok,rv,q⟩
 cases fl with
 | ret u=>
  obtain⟨v,σ',H',J,rv,q⟩:=hs
  exact fin J rv q
 | next=>
  obtain⟨σ',H',J,q⟩:=hs
  exact fin (v:=V.non) (u:=Value.none) J rfl q
 | brk=>
  obtain⟨_,_,_,q⟩:=hs
  exact False.elim q
 | cont=>
  obtain⟨_,_,_,q⟩:=hs
  exact False.elim q
section
variable {x:Str}{id T:String}{r:List V->Hp->VK->Prop}
def tCB (r:List V->Hp->VK->Prop)(t:TA):TE:=fun σ H Q=>t σ H fun vs H1=>r vs H1 Q
theorem jG3 (hc:yV X (.builtin id) r)(hg:Gl X x)(hm:X.mg x=none)(hv:bootBuiltins x=some (.builtin id))(ha:PA X (e::es) t)(hn:x≠ "__name__" :=by decide)(hdb:(x==("__debug__" :Str))=false:=by decide)
  (he:starEach (e::es) X.env=(false,eval e X.env)::starEach es X.env:=by rfl) (hpl:(backTo pos (starEach es X.env)).any (·.1)=false:=by rfl):PE X (.Call (.Name x p) (e::es) [] pos) (tCB r t):=by
 intro ad s σ H Q I h
 refine cL (jEJ I hg hm hv ?_ hn hdb)
 exact PyProof.Rows.callWith_builtin1 (ly (ha pos ad s σ H _ I h) fun us s1 ⟨vs,H1,I1,r1,q1⟩=>hc ad s1 σ H1 vs us Q I1 r1 q1) he hpl
theorem jCE (hc:yV X (.type T) r)(hg:Gl X x)(hm:X.mg x=none)(hv:bootBuiltins x=some (.type T))(ha:PA X (e::es) t)(hn:x≠ "__name__" :=by decide)(hdb:(x==("__debug__" :Str))=false:=by decide)
  (he:starEach (e::es) X.env=(false,eval e X.env)::starEach es X.env:=by rfl) (hpl:(backTo pos (starEach es X.env)).any (·.1)=false:=by rfl):PE X (.Call (.Name x p) (e::es) [] pos) (tCB r t):=by
 intro ad s σ H Q I h
 refine cL (jEJ I hg hm hv ?_ hn hdb)
 exact dM (ly (ha pos ad s σ H _ I h) fun us s1 ⟨vs,H1,I1,r1,q1⟩=>hc ad s1 σ H1 vs us Q I1 r1 q1) he hpl
end
end L2
namespace HT
open PySem PyProof.Rows
def lexLt:List Int->List Int->Bool
 | [],[]=>false
 | [],_::_=>true
 | _::_,[]=>false
 | x::xs,y::ys=>if x=y then lexLt xs ys else decide (x<y)
theorem lexLt_cons (x y:Int)(xs ys:List Int):lexLt (x::xs) (y::ys)=if x=y then lexLt xs ys else decide (x<y):=rfl
theorem jGE:lexLt [] []=false:=rfl
theorem jEV (y:Int)(ys:List Int):lexLt [] (y::ys)=true:=rfl
theorem jEW (x:Int)(xs:List Int):lexLt (x::xs) []=false:=rfl
theorem jQH (A:Around)(s:Shared)(a:Int)(t:Tok)(c:Int)(u:Tok):∃ e,SeqAt.EqAt A s (.int a t) (.int c u) e/\(e=true↔a=c):=
 ⟨(a==c),fz a t c u,by simp⟩
theorem rcLt_int (A:Around)(s:Shared)(a:Int)(t:Tok)(c:Int)(u:Tok)(prog:Program)(w:World)(E:Value->Shared->Prop)(Q:Value->Shared->Prop)(h:Q (.bool (decide (a<c))) s):
  wpAny (model prog w) A (richCompare .Lt (.int a t) (.int c u)) Q E s:=
 (PyProof.Rows.lt_int h:wpAny (model prog w) A (compareOp .Lt (.int a t) (.int c u)) Q E s)
section
open PySem.SeqAt
open PySem.AutoSeq1 (wpAny_loadPart')
open PySem.MeetsSeq PySem.MeetsSeq2 PySem.MeetsSeq3
theorem jFQ (l b:Addr)(items items2:Array Value)(n n2:Nat)(dd dd2:Option Addr)(sl sl2:Array (Option Value))(ns ms:List Int)(hi:IntsAre items.toList ns)(hj:IntsAre items2.toList ms):
  Meets (Builtin.«tuple.__lt__» ⟨[.ref l, .ref b],[]⟩)
   (fun _ R s=>s.heap.get? l=some { cls:= .type "tuple",dict:=dd,data:= .seq items n,slots:=sl} /\s.heap.get? b=some { cls:= .type "tuple",dict:=dd2,data:= .seq items2 n2,slots:=sl2} /\
    R (.ok (.ret (.bool (lexLt ns ms)))) s):=
 .of_wp fun prog w A R s h=>by
  obtain⟨hp,g,d,tk,os⟩:=s; obtain⟨hl,hb,h⟩:=h
  have f2:=AutoSeq1.sub_tuple_tuple
  have z1:items.size=ns.length:=by rw[<- hi.length]; simp
  have z2:items2.size=ms.length:=by rw[<- hj.length]; simp
  wp_walk using cx hl,cx hb,wpAny_forIn_list _ (fun rest b s'=>b.1=none/\s'=⟨hp,g,d,tk,os⟩/\∃ (vs ws:List Value) (ns' ms':List Int),rest=vs.zip ws/\
   IntsAre vs ns'/\IntsAre ws ms'/\ns'.length+items2.size=ms'.length+items.size/\R (.ok (.ret (.bool (lexLt ns' ms')))) ⟨hp,g,d,tk,os⟩) _
  case turn=>
   rintro ⟨y,x⟩ rest b s' ⟨hb',rfl,vs,ws,ns',ms',hz,hvi,hwi,hlen,hR⟩
   cases hvi with
   | nil=>rw[List.zip_nil_left] at hz; cases hz
   | cons a t hvi'=>
    cases hwi with
    | nil=>rw[List.zip_nil_right] at hz; cases hz
    | cons c u hwi'=>
     rw[eL] at hz
     injection hz with hyx hrest
     injection hyx with hy hx
     subst hy hx
     rw[lexLt_cons] at hR
     simp only [aU] at hlen
     obtain⟨e,he,hiff⟩:=jQH A.in1 ⟨hp,g,d,tk,os⟩ a t c u
     refine ae (he prog w _ _ ?_)
     cases e with
     | true=>
      rw[ar (hiff.mp rfl)] at hR
      wp_walk
      exact⟨rfl,rfl,_,_,_,_,hrest,hvi',hwi',by lia,hR⟩
     | false=>
      rw[ao (fun q=>absurd (hiff.mpr q) aq)] at hR
      have hri:=rcLt_int A.in1 ⟨hp,g,d,tk,os⟩ a t c u prog w
      wp_walk using hri
      exact⟨_,rfl,by simpa using hR⟩
  case fin=>
   rintro ⟨b1,b2⟩ s' ⟨hb',rfl,vs,ws,ns',ms',hz,hvi,hwi,hlen,hR⟩
   simp only at hb'
   subst hb'
   have hv:lexLt ns' ms'=decide (items.size<items2.size):=by
    cases hvi with
    | nil=>
     cases hwi with
     | nil=>
      simp only [cy] at hlen
      rw[jGE]
      exact(aP (by lia)).symm
     | cons c u hw=>
      simp only [cy,aU] at hlen
      rw[jEV]
      exact(az (by lia)).symm
    | cons a t hv=>
     cases hwi with
     | nil=>
      simp only [cy,aU] at hlen
      rw[jEW]
      exact(aP (by lia)).symm
     | cons c u hw=>
      rw[eL] at hz
      cases hz
   rw[hv] at hR
   wp_walk
   exact⟨_,rfl,by simpa [Builtin.Tuple.tupleCompareSizes] using hR⟩
  case h=>
   exact⟨rfl,rfl,items.toList,items2.toList,ns,ms,rfl,hi,hj,by lia,h⟩
end
section
variable {prog:Program}{w:World}{A:Around}{E:Value->Shared->Prop}{s:Shared}
theorem lt_tupInts {l b:Addr}{items items2:Array Value}{ns ms:List Int}{Q:Value->Shared->Prop}(hl:IsTup s.heap l items)(hb:IsTup s.heap b items2)(hi:IntsAre items.toList ns)(hj:IntsAre items2.toList ms)
  (hu:A.units<cLine) (h:Q (.bool (lexLt ns ms)) s):wpAny (model prog w) A (compareOp .Lt (.ref l) (.ref b)) Q E s:=by
 obtain⟨⟨cls,dd,data,sl⟩,ho,hc,n,hd⟩:=id hl
 obtain⟨⟨cls2,dd2,data2,sl2⟩,ho2,hc2,n2,hd2⟩:=id hb
 simp only at hc hd hc2 hd2
 subst hc hd hc2 hd2
 exact richCompare_meets_room (op:= .Lt) ⟨_,ho,rfl⟩ ⟨_,ho2,rfl⟩ PySem.F.slot_tuple_lt PySem.F.entry_tuple_lt (PySem.F.args_tuple_lt_2 _ _) (jFQ l b items items2 n n2 dd dd2 sl sl2 ns ms hi hj)
  ⟨ho,ho2,show Value.bool (lexLt ns ms)≠Value.notImplemented/\Q (.bool (lexLt ns ms)) s from ⟨(fun x=>nomatch x),h⟩⟩ hu
theorem cat_tup {t b:Addr}{vs ws:List Value}{Q:Value->Shared->Prop}(ht:IsTup s.heap t vs.toArray)(hb:IsTup s.heap b ws.toArray)(hv:vs≠ [])
  (h1:ws=[]->Q (.ref t) s) (h2:ws≠ []->Q (.ref s.heap.objs.size) { s with heap:=s.heap.push { cls:= .type "tuple",data:= .seq (vs++ws).toArray}})
  (hsz:vs.length+ws.length<=sizeLine):wpAny (model prog w) A (binaryOp .Add (.ref t) (.ref b)) Q E s:=by
 obtain⟨⟨cls,dd,data,sl⟩,ho,hc,n,hd⟩:=id ht
 obtain⟨⟨cls2,dd2,data2,sl2⟩,ho2,hc2,n2,hd2⟩:=id hb
 simp only at hc hd hc2 hd2
 subst hc hd hc2 hd2
 have e:vs.toArray++ws.toArray=(vs++ws).toArray:=by simp
 by_cases hw:ws=[]
 ·exact concat_meets ⟨_,ho,rfl⟩ ⟨_,ho2,rfl⟩ iU seq_tuple_add gc fZ (fh _ _)
   (tuple_addW1 t b vs.toArray ws.toArray n n2 dd dd2 sl sl2 (by simpa using hv) (by simp [hw])) ⟨ho,ho2,h1 hw⟩
 ·refine concat_meets ⟨_,ho,rfl⟩ ⟨_,ho2,rfl⟩ iU seq_tuple_add gc fZ (fh _ _)
   (tuple_addW2 t b vs.toArray ws.toArray n n2 dd dd2 sl sl2 (by simpa using hv) (by simpa using hw) (by rw[ax,ax]; exact hsz)) ⟨ho,ho2,?_⟩
  rw[e]
  exact h2 hw
def sIx (n d:Nat):Option Int->Nat
 | none=>d
 | some v=>if v<0 then (v+(n:Int)).toNat else min v.toNat n
end
end HT
namespace L2
open PySem PySem.Spec PyProof.Rows
abbrev TO:=St->Hp->(Option Int->Hp->Prop)->Prop
def PO (X:Cx)(e:Option Expr)(t:TO):Prop:=
 ∀ (ad:List (Addr×Obj)) (s:Shared) (σ:St) (H:Hp) (Q:Option Int->Hp->Prop),Inv X ad σ H s->t σ H Q->
  wpAny (model X.prog X.w) X.A (evalPart e X.env) (fun u s'=>∃ o H',Inv X ad σ H' s'/\IsPart u o/\Q o H') X.xe s
def jLZ:TO:=fun _ H Q=>Q none H
def tPart (t:TE):TO:=fun σ H Q=>t σ H fun x H1=>∃ i,x= .int i/\Q (some i) H1
theorem jLF {ns:List Int} :∀ {us:List Value},Vals (ns.map V.int) us->IntsAre us ns:=by
 induction ns with
 | nil=>intro us r; rw[g7] at r; cases r; exact .nil
 | cons n ns ih=>
  intro us r
  rw[br] at r
  cases r with
  | cons r1 r2=>
   obtain⟨t,e⟩:=r1
   subst e
   exact .cons n t (ih r2)
variable {X:Cx}{e:Expr}{pos:Pos}
section
variable {te:TE}{lo hi:Option Expr}{tl th:TO}{p2:Pos}
theorem jSG:PO X none jLZ:=by
 intro ad s σ H Q I h
 rw[evalPart_none]
 exact ak ⟨none,H,I, .none,h⟩
theorem jSF (h:PE X e te):PO X (some e) (tPart te):=by
 intro ad s σ H Q I hw
 rw[evalPart_some]
 refine ly (h ad s σ H _ I hw) fun u s1 ⟨x,H1,I1,r1,q1⟩=>?_
 obtain⟨i,rfl,q⟩:=q1
 obtain⟨t,rfl⟩:=r1
 exact⟨some i,H1,I1, .int i t,q⟩
def SlR (X:Cx)(r:V->Option Int->Option Int->Hp->VK->Prop):Prop:=
 ∀ (ad:List (Addr×Obj)) (s:Shared) (σ:St) (H:Hp) (x:V) (v vl vu:Value) (lo hi:Option Int) (sl:Addr) (Q:VK),Inv X ad σ H s->RelV x v->s.heap.IsSliceOf sl vl vu .none->IsPart vl lo->IsPart vu hi->r x lo hi H Q->
  ∃ T id,typeLookup (.type T) "__getitem__" =pure (some (.builtin id))/\s.TypeIs v T/\wpAny (model X.prog X.w) X.A (getItem v (.ref sl)) (EP X ad σ Q) X.xe s
def tSl (r:V->Option Int->Option Int->Hp->VK->Prop)(te:TE)(tl th:TO):TE:=fun σ H Q=>te σ H fun x H1=>tl σ H1 fun l H2=>th σ H2 fun u H3=>r x l u H3 Q
theorem jPK {r:V->Option Int->Option Int->Hp->VK->Prop}(hr:SlR X r)(he:PE X e te)(hl:PO X lo tl)(hu:PO X hi th):PE X (.Subscript e (.Slice lo hi none p2) pos) (tSl r te tl th):=by
 intro ad s σ H Q I h
 refine Subscript_ (ly (he ad s σ H _ I h) fun v s1 ⟨x,H1,I1,r1,q1⟩=>?_)
 refine wpAny_Slice (ly (hl ad s1 σ H1 _ I1 q1) fun vl s2 ⟨l,H2,I2,pl,q2⟩=>ly (hu ad s2 σ H2 _ I2 q2) fun vu s3 ⟨u,H3,I3,pu,q3⟩=>?_)
 rw[evalPart_none]
 refine ak ?_
 have I4:Inv X ad σ H3 { s3 with heap:=s3.heap.push { cls:= .type "slice",data:= .fields #[vl,vu, .none]}} :=I3.kept (t':=s3.toks) fun b ob q=>ag _ q
 obtain⟨T,id,hT,ht,hg⟩:=hr ad { s3 with heap:=s3.heap.push { cls:= .type "slice",data:= .fields #[vl,vu, .none]}} σ H3 x v vl vu l u s3.heap.objs.size Q I4 r1 (Heap.IsSliceOf.new ..) pl pu q3
 show wpAny (model X.prog X.w) X.A (subscriptTail e (.Slice lo hi none p2) v (.ref s3.heap.objs.size)) (EP X ad σ Q) X.xe { s3 with heap:=s3.heap.push { cls:= .type "slice",data:= .fields #[vl,vu, .none]}}
 exact tail_any (ops:=[.ref s3.heap.objs.size,v]) ht hT hg (by with_unfolding_all rfl)
def cutV (xs:List V)(lo hi:Option Int):List V:=(xs.drop (HT.sIx xs.length 0 lo)).take (HT.sIx xs.length xs.length hi - HT.sIx xs.length 0 lo)
theorem jJ6 (xs:List V)(lo hi:Option Int):(cutV xs lo hi).length<=xs.length:=by
 unfold cutV
 rw[bN,gE]
 lia
def rCatT (K:W.Frag):R2:=fun x y H Q=>∃ a b xs ys,x= .ref a/\y= .ref b/\SqT K H a xs/\SqT K H b ys/\xs≠ []/\xs.length+ys.length<=sizeLine/\
 (ys=[]->Q (.ref a) H)/\(ys≠ []->∀ p,H p=none->Q (.ref p) (upd H p (.tup (xs++ys))))
theorem Vals.nil_iff {xs:List V}{us:List Value}(r:Vals xs us):us=[]↔xs=[]:=by
 cases r with
 | nil=>simp
 | cons _ _=>simp
theorem jSX:OpR X (binaryOp .Add) (rCatT X.K):=by
 intro ad s σ H x y v u Q I rx ry h
 obtain⟨a,b,xs,ys,rfl,rfl,ha,hb,hx,hz,q1,q2⟩:=h
 cases rx
 cases ry
 obtain⟨its,r1,p1,_⟩:=I.tuple ha
 obtain⟨its2,r2,p2,_⟩:=I.tuple hb
 refine HT.cat_tup p1 p2 (fun z=>hx (r1.nil_iff.mp z)) (fun z=>⟨.ref a,H,I,rfl,q1 (r2.nil_iff.mp z)⟩) (fun z=>?_) (by rw[<- r1.length,<- r2.length]; exact hz)
 refine⟨.ref s.heap.objs.size,_,I.laid (t':=s.toks) (o:= .tup (xs++ys)) (fun b ob q=>ag _ q) (am _) ?_,rfl,q2 (fun w=>z (r2.nil_iff.mpr w)) _ (I.hok.fresh (am _))⟩
 exact⟨by rw[aH]; exact hz,_,r1.append r2,TupO.new _ _⟩
end
def ixN (n:Nat)(i:Int):Option Nat:=if 0<=i then (if i<n then some i.toNat else none) else if -(n:Int)<=i then some (i+n).toNat else none
def atI {α:Type}(xs:List α)(i:Int):Option α:=(ixN xs.length i).bind fun j=>xs[j]?
theorem jNZ {n:Nat}{i:Int}{j:Nat}(h:ixN n i=some j):seqIndex? i n=some j/\j<n/\ -(n:Int)<=i/\i<n:=by
 unfold ixN at h
 by_cases h0:0<=i
 ·rw[ar h0] at h
  by_cases h1:i<n
  ·rw[ar h1] at h
   have e:i.toNat=j:=bq h
   exact⟨by rw[seqIndex_of h0 h1,e],by lia,by lia,h1⟩
  ·rw[ao h1] at h; cases h
 ·rw[ao h0] at h
  by_cases h1: -(n:Int)<=i
  ·rw[ar h1] at h
   have e:(i+n).toNat=j:=bq h
   exact⟨by rw[seqIndex_neg (by lia) h1,e],by lia,h1,by lia⟩
  ·rw[ao h1] at h; cases h
theorem jOZ {α:Type}{xs:List α}{i:Int}{v:α}(h:atI xs i=some v):∃ j,seqIndex? i xs.length=some j/\xs[j]?=some v/\j<xs.length/\ -(xs.length:Int)<=i/\i<xs.length:=by
 unfold atI at h
 cases e:ixN xs.length i with
 | none=>rw[e] at h; cases h
 | some j=>
  rw[e] at h
  obtain⟨h1,h2,h3,h4⟩:=jNZ e
  exact⟨j,h1,h,h2,h3,h4⟩
theorem jAO {α:Type}{xs:List α}{j:Nat}{v:α}(h:xs[j]?=some v):atI xs (j:Int)=some v:=by
 have hj:j<xs.length:=(aj.mp h).1
 have e:ixN xs.length (j:Int)=some j:=by
  unfold ixN
  rw[ar (by lia),ar (by lia)]; simp
 unfold atI; rw[e]; exact h
def jB6 (b:Expr):Prop:=∀ o i,subscripted b false o i=operate [o,i] (getItem o i)
def IxR (X:Cx)(r:R2):Prop:=
 ∀ (value slice:Expr) (ad:List (Addr×Obj)) (s:Shared) (σ:St) (H:Hp) (x y:V) (v u:Value) (Q:VK),Inv X ad σ H s->RelV x v->RelV y u->r x y H Q->
  subscripted slice false v u=operate [v,u] (getItem v u)->wpAny (model X.prog X.w) X.A (subscriptTail value slice v u) (EP X ad σ Q) X.xe s
def MtR (X:Cx)(id:String)(r:V->List V->Hp->VK->Prop):Prop:=
 ∀ (ad:List (Addr×Obj)) (s:Shared) (σ:St) (H:Hp) (x:V) (xs:List V) (v:Value) (us:List Value) (Q:VK),Inv X ad σ H s->RelV x v->Vals xs us->r x xs H Q->
  wpAny (model X.prog X.w) X.A (call (.builtin id) (v::us)) (EP X ad σ Q) X.xe s
section
variable {a b:Expr}{ta tb:TE}
theorem pe_ix {r:R2}(hr:IxR X r)(ha:PE X a ta)(hb:PE X b tb)(hs:jB6 b):PE X (.Subscript a b pos) (tOp r ta tb):=by
 intro ad s σ H Q I h
 exact Subscript_ (binT ha hb I h fun v u s2 x y H2 I2 rx ry q=>hr a b ad s2 σ H2 x y v u Q I2 rx ry q (hs _ _))
def rIxL (K:W.Frag):R2:=fun x y H Q=>∃ p xs i v,x= .ref p/\y= .int i/\SqL K H p xs/\atI xs i=some v/\Q v H
def rIxT (K:W.Frag):R2:=fun x y H Q=>∃ p xs i v,x= .ref p/\y= .int i/\SqT K H p xs/\atI xs i=some v/\Q v H
theorem jC4:IxR X (rIxL X.K):=by
 intro value slice ad s σ H x y v u Q I rx ry h hs
 obtain⟨p,xs,i,z,rfl,rfl,hq,he,q⟩:=h
 cases rx
 obtain⟨t,rfl⟩:=ry
 obtain⟨its,r,pl,hz⟩:=I.list hq
 obtain⟨j,h1,h2,h3,h4,h5⟩:=jOZ he
 obtain⟨w,ew,rw'⟩:=r.get h2
 have hl:=r.length
 have hn:=jHJ
 have fin:EP X ad σ Q w s:=⟨z,H,I,rw',q⟩
 by_cases h0:0<=i
 ·have hj:i.toNat=j:=by
   rw[seqIndex_of h0 h5] at h1
   exact bq h1
  exact item_listR pl.isList h0 (by lia) (by rw[hj]; simpa using ew) fin hs
 ·have hj:(i+(its.toArray.size:Int)).toNat=j:=by
   rw[seqIndex_neg (by lia) h4] at h1
   rw[ax,<- hl]
   exact bq h1
  exact subscriptTail_builtinR (x:=w) pl.isList.typeIs slot_list_getitem.lookup
   (wpAny_getItem_list_neg (Q:=fun r s'=>r=w/\EP X ad σ Q r s') pl.isList (by lia) (by rw[ax] <;> lia) (by lia) (by rw[hj]; simpa using ew) ⟨rfl,fin⟩) hs
theorem kP:IxR X (rIxT X.K):=by
 intro value slice ad s σ H x y v u Q I rx ry h hs
 obtain⟨p,xs,i,z,rfl,rfl,hq,he,q⟩:=h
 cases rx
 obtain⟨t,rfl⟩:=ry
 obtain⟨its,r,pl,hz⟩:=I.tuple hq
 obtain⟨j,h1,h2,h3,h4,h5⟩:=jOZ he
 obtain⟨w,ew,rw'⟩:=r.get h2
 have hl:=r.length
 have hn:=jHJ
 have fin:EP X ad σ Q w s:=⟨z,H,I,rw',q⟩
 exact subscriptTail_builtinR (x:=w) pl.typeIs slot_tuple_getitem.lookup
  (getItem_tuple (j:=j) (Q:=fun r s'=>r=w/\EP X ad σ Q r s') pl (by lia) (by lia) (by rw[ax,<- hl]; exact h1) (by simpa using ew) ⟨rfl,fin⟩) hs
theorem jL8 (its:List Value)(n j:Nat)(u:Value):Obj.mapSeq (·.setIfInBounds j u) { cls:= .type "list",data:= .seq its.toArray n} = { cls:= .type "list",data:= .seq (its.set j u).toArray n} :=by
 simp [Obj.mapSeq]
theorem Inv.lst {ad:List (Addr×Obj)}{σ:St}{H:Hp}{s:Shared}{p:Addr}{xs:List V}(I:Inv X ad σ H s)(h:H p=some (.lst xs)):
  ∃ (its:List Value) (n:Nat),Vals xs its/\s.heap.get? p=some { cls:= .type "list",data:= .seq its.toArray n} /\xs.length<=sizeLine:=by
 obtain⟨z,its,n,r,e⟩:=I.hok p _ h
 exact⟨its,n,r,e,z⟩
theorem Inv.lstUpd {ad:List (Addr×Obj)}{σ:St}{H:Hp}{s:Shared}{p:Addr}{xs ys:List V}{its its':List Value}{n n':Nat}{f:Obj->Obj}(I:Inv X ad σ H s)(h:H p=some (.lst xs))
  (ho:s.heap.get? p=some { cls:= .type "list",data:= .seq its.toArray n}) (hf:f { cls:= .type "list",data:= .seq its.toArray n} = { cls:= .type "list",data:= .seq its'.toArray n'}) (r:Vals ys its') (hz:ys.length<=sizeLine) (t:Nat):
  Inv X ad σ (upd H p (.lst ys)) { s with heap:=s.heap.update p f,toks:=t} :=by
 have e:(s.heap.update p f).get? p=some { cls:= .type "list",data:= .seq its'.toArray n'} :=by
  rw[dO f ho (by rw[hf] <;> rfl),hf]
 refine I.write (x:=p) (e:=p) (by rw[h]; trivial) (.inl rfl) (fun b u hb q=>(bv _ _ (dW hb)).trans q) ⟨_,e⟩ ?_
 exact⟨hz,its',n',r,e⟩
def rSetL:V->V->V->Hp->(Hp->Prop)->Prop:=fun o i v H Q=>∃ p xs k j,o= .ref p/\i= .int k/\H p=some (.lst xs)/\ixN xs.length k=some j/\Q (upd H p (.lst (xs.set j v)))
theorem jPB:PSet X rSetL:=by
 intro ad s σ H o i v ov iv u Q I ro ri rv h
 obtain⟨p,xs,k,j,rfl,rfl,hp,hj,q⟩:=h
 cases ro
 obtain⟨t,rfl⟩:=ri
 obtain⟨its,n,r,ho,hz⟩:=I.lst hp
 obtain⟨h1,h2,h3,h4⟩:=jNZ hj
 have hl:=r.length
 have hn:=jHJ
 have I':Inv X ad σ (upd H p (.lst (xs.set j v))) { s with heap:=s.heap.update p (Obj.mapSeq (·.setIfInBounds j u))} :=
  I.lstUpd hp ho (jL8 its n j u) (r.set rv j) (by rw[List.length_set]; exact hz) s.toks
 by_cases h0:0<=k
 ·have hk:k.toNat=j:=by
   rw[seqIndex_of h0 h4] at h1
   exact bq h1
  exact PySem.W.ki_setAt ho h0 (by lia) (by rw[ax,<- hl]; exact h4) (by rw[hk]; exact⟨_,I',q⟩)
 ·have hk:(k+(its.toArray.size:Int)).toNat=j:=by
   rw[seqIndex_neg (by lia) h3] at h1
   rw[ax,<- hl]
   exact bq h1
  exact PySem.W.ki_setBack ho (by lia) (by rw[ax,<- hl]; exact h3) (by lia) (by rw[hk]; exact⟨_,I',q⟩)
theorem jH3 (lo hi:Option Int)(n:Nat):(sliceBounds lo hi none n).1=((HT.sIx n 0 lo:Nat):Int)/\(sliceBounds lo hi none n).2.1=((HT.sIx n n hi:Nat):Int)/\(sliceBounds lo hi none n).2.2=1:=by
 refine⟨?_,?_,rfl⟩
 ·cases lo with
  | none=>simp [sliceBounds,HT.sIx]
  | some i=>
   simp only [sliceBounds,HT.sIx,getD_none,show (1:Int)>0 by decide,kf]
   by_cases h:i<0
   ·simp only [h,kf] <;> lia
   ·simp only [h,jr] <;> lia
 ·cases hi with
  | none=>simp [sliceBounds,HT.sIx]
  | some i=>
   simp only [sliceBounds,HT.sIx,getD_none,show (1:Int)>0 by decide,kf]
   by_cases h:i<0
   ·simp only [h,kf] <;> lia
   ·simp only [h,jr] <;> lia
theorem jFX (its:List Value)(lo hi:Option Int):slicePick its.toArray lo hi none=((its.drop (HT.sIx its.length 0 lo)).take (HT.sIx its.length its.length hi - HT.sIx its.length 0 lo)).toArray:=by
 obtain⟨h1,h2,h3⟩:=jH3 lo hi its.toArray.size
 unfold slicePick
 rw[h1,h2,h3]
 simp only [sliceRange_one,pick_run,ax] <;> rfl
def rSlL (K:W.Frag):V->Option Int->Option Int->Hp->VK->Prop:=fun x lo hi H Q=>∃ a xs,x= .ref a/\SqL K H a xs/\∀ p,H p=none->Q (.ref p) (upd H p (.lst (cutV xs lo hi)))
theorem jM6:SlR X (rSlL X.K):=by
 intro ad s σ H x v vl vu lo hi sl Q I rx hs pl pu h
 obtain⟨a,xs,rfl,hx,q⟩:=h
 cases rx
 obtain⟨its,r,ht,hz⟩:=I.list hx
 have hlen:=r.length
 refine⟨"list",_,slot_list_getitem.lookup,ht.isList.typeIs,?_⟩
 refine wpAny_getItem_list_slice ht.isList hs pl pu .none (by simp) ?_ (by rw[ax] <;> lia)
 rw[jFX,<- hlen]
 refine⟨.ref s.heap.objs.size,_,I.laid (t':=s.toks) (o:= .lst (cutV xs lo hi)) (fun b ob q=>ag _ q) (am _) ?_,rfl,q _ (I.hok.fresh (am _))⟩
 exact⟨bf (jJ6 xs lo hi) hz,_,0,(r.drop (HT.sIx xs.length 0 lo)).take (HT.sIx xs.length xs.length hi - HT.sIx xs.length 0 lo),aA _ rfl⟩
def flatV:V->Bool
 | .non=>true
 | .bl _=>true
 | .int _=>true
 | .str _=>true
 | _=>false
def eqV:V->V->Bool
 | .non, .non=>true
 | .bl a, .bl b=>a==b
 | .bl a, .int b=>(if a then 1 else 0)==b
 | .int a, .bl b=>a==(if b then 1 else 0)
 | .int a, .int b=>a==b
 | .str a, .str b=>a==b
 | _,_=>false
theorem jRR {A:Around}{s:Shared}{y x:V}{u v:Value}(ry:RelV y u)(rx:RelV x v)(fy:flatV y=true)(fx:flatV x=true):SeqAt.EqAt A s u v (eqV y x):=by
 cases y with
 | non=>
  cases ry
  cases x with
  | non=>cases rx; exact SeqAt.EqAt.same _
  | bl b=>cases rx; exact SeqAt.EqAt.none_bool b
  | int b=>obtain⟨t,rfl⟩:=rx; exact SeqAt.EqAt.none_int b t
  | str b=>obtain⟨t,rfl⟩:=rx; exact SeqAt.EqAt.none_str b t
  | _=>exact absurd (show false=true from fx) aq
 | bl a=>
  cases ry
  cases x with
  | non=>cases rx; exact SeqAt.EqAt.bool_none a
  | bl b=>cases rx; exact SeqAt.EqAt.bool_bool a b
  | int b=>obtain⟨t,rfl⟩:=rx; exact SeqAt.EqAt.bool_int a b t
  | str b=>obtain⟨t,rfl⟩:=rx; exact SeqAt.EqAt.bool_str a b t
  | _=>exact absurd (show false=true from fx) aq
 | int a=>
  obtain⟨t',rfl⟩:=ry
  cases x with
  | non=>cases rx; exact SeqAt.EqAt.int_none a t'
  | bl b=>cases rx; exact SeqAt.EqAt.int_bool a t' b
  | int b=>obtain⟨t,rfl⟩:=rx; exact fz a t' b t
  | str b=>obtain⟨t,rfl⟩:=rx; exact SeqAt.EqAt.int_str a t' b t
  | _=>exact absurd (show false=true from fx) aq
 | str a=>
  obtain⟨t',rfl⟩:=ry
  cases x with
  | non=>cases rx; exact SeqAt.EqAt.str_none a t'
  | bl b=>cases rx; exact SeqAt.EqAt.str_bool a t' b
  | int b=>obtain⟨t,rfl⟩:=rx; exact SeqAt.EqAt.str_int a t' b t
  | str b=>obtain⟨t,rfl⟩:=rx; exact SeqAt.EqAt.str_str a t' b t
  | _=>exact absurd (show false=true from fx) aq
 | _=>exact absurd (show false=true from fy) aq
def eqU (x:V)(u:Value):Bool:=match u with
 | .none=>eqV .non x
 | .bool b=>eqV (.bl b) x
 | .int i _=>eqV (.int i) x
 | .str z _=>eqV (.str z) x
 | _=>false
theorem jRQ {x y:V}{u:Value}(r:RelV y u)(f:flatV y=true):eqU x u=eqV y x:=by
 cases y with
 | non=>cases r; rfl
 | bl b=>cases r; rfl
 | int i=>obtain⟨t,rfl⟩:=r; rfl
 | str z=>obtain⟨t,rfl⟩:=r; rfl
 | _=>exact absurd (show false=true from f) aq
theorem jEU {x:V} :∀ {xs:List V}{us:List Value},Vals xs us->xs.all flatV=true->us.any (eqU x)=xs.any fun y=>eqV y x
 | _,_, .nil,_=>rfl
 | y::xs,u::us, .cons r t,f=>by
  rw[iM,bI] at f
  rw[gL,gL,jRQ r f.1,jEU t f.2]
theorem jBS {A:Around}{s:Shared}{x:V}{v:Value}(rx:RelV x v)(fx:flatV x=true):∀ {xs:List V}{us:List Value},Vals xs us->xs.all flatV=true->∀ u∈us,SeqAt.EqAt A s u v (eqU x u)
 | _,_, .nil,_=>fun u hu=>by cases hu
 | y::xs,u::us, .cons r t,f=>fun u' hu=>by
  rw[iM,bI] at f
  rcases aF.mp hu with rfl | hu
  ·rw[jRQ r f.1]; exact jRR r rx f.1 fx
  ·exact jBS rx fx t f.2 u' hu
def inV (x:V)(xs:List V):Bool:=xs.any fun y=>eqV y x
def rIn (K:W.Frag)(neg:Bool):R2:=fun x y H Q=>∃ p xs,y= .ref p/\(SqL K H p xs\/SqT K H p xs)/\flatV x=true/\xs.all flatV=true/\Q (.bl (if neg then !inV x xs else inV x xs)) H
theorem jEA:OpR X (compareOp .In) (rIn X.K false):=by
 intro ad s σ H x y v u Q I rx ry h
 obtain⟨p,xs,rfl,hq,fx,fs,q⟩:=h
 cases ry
 rcases hq with hq | hq
 ·obtain⟨its,r,pl,hz⟩:=I.list hq
  refine SeqAt.in_listAt (eqU x) pl.isList (fun w hw=>jBS rx fx r fs w (by simpa using hw)) ⟨.bl _,H,I,rfl,?_⟩
  rw[show its.toArray.any (eqU x)=its.any (eqU x) by simp,jEU r fs]
  exact q
 ·obtain⟨its,r,pl,hz⟩:=I.tuple hq
  refine SeqAt.in_tupleAt (eqU x) pl (fun w hw=>jBS rx fx r fs w (by simpa using hw)) ⟨.bl _,H,I,rfl,?_⟩
  rw[show its.toArray.any (eqU x)=its.any (eqU x) by simp,jEU r fs]
  exact q
theorem jHA:OpR X (compareOp .NotIn) (rIn X.K true):=by
 intro ad s σ H x y v u Q I rx ry h
 obtain⟨p,xs,rfl,hq,fx,fs,q⟩:=h
 cases ry
 rcases hq with hq | hq
 ·obtain⟨its,r,pl,hz⟩:=I.list hq
  refine SeqAt.notIn_listAt (eqU x) pl.isList (fun w hw=>jBS rx fx r fs w (by simpa using hw)) ⟨.bl _,H,I,rfl,?_⟩
  rw[show its.toArray.any (eqU x)=its.any (eqU x) by simp,jEU r fs]
  exact q
 ·obtain⟨its,r,pl,hz⟩:=I.tuple hq
  refine SeqAt.notIn_tupleAt (eqU x) pl (fun w hw=>jBS rx fx r fs w (by simpa using hw)) ⟨.bl _,H,I,rfl,?_⟩
  rw[show its.toArray.any (eqU x)=its.any (eqU x) by simp,jEU r fs]
  exact q
theorem jY:yV X (.builtin "len") (fun xs H Q=>∃ p ys,xs=[.ref p]/\(SqL X.K H p ys\/SqT X.K H p ys)/\Q (.int ys.length) H):=by
 intro ad s σ H xs us Q I r h
 obtain⟨p,ys,rfl,hq,q⟩:=h
 obtain⟨u,rfl,rx⟩:=vals1 r
 cases rx
 have hn:=jHJ
 rcases hq with hq | hq
 ·obtain⟨its,r',pl,hz⟩:=I.list hq
  have hlen:=r'.length
  exact Calls.call_len_list pl.isList (by simp only [ax] <;> lia) ⟨.int ys.length,H,I.tok _,⟨s.toks+1,by rw[ax,hlen]⟩,q⟩
 ·obtain⟨its,r',pl,hz⟩:=I.tuple hq
  have hlen:=r'.length
  exact len_tuple pl (by simp only [ax] <;> lia) ⟨.int ys.length,H,I.tok _,⟨s.toks+1,by rw[ax,hlen]⟩,q⟩
theorem jM:yV X (.type "tuple") (fun xs H Q=>∃ p ys,xs=[.ref p]/\((SqL X.K H p ys/\∀ l,H l=none->Q (.ref l) (upd H l (.tup ys)))\/(SqT X.K H p ys/\Q (.ref p) H))):=by
 intro ad s σ H xs us Q I r h
 obtain⟨p,ys,rfl,h⟩:=h
 obtain⟨u,rfl,rx⟩:=vals1 r
 cases rx
 rcases h with ⟨hq,q⟩ | ⟨hq,q⟩
 ·obtain⟨its,r',pl,hz⟩:=I.list hq
  have hlen:=r'.length
  refine call_tuple_list pl.isList (fun h' kp=>?_) (by simp only [ax] <;> lia)
  have I1:Inv X ad σ H { s with heap:=h'} :=I.kept (t':=s.toks) kp
  have I2:Inv X ad σ (upd H h'.objs.size (.tup ys)) { s with heap:=h'.push { cls:= .type "tuple",data:= .seq its.toArray}} :=
   I1.laid (t':=s.toks) (fun b o e=>ag _ e) (am _) (show ObjOk X.prog X.w _ _ _ (.tup ys) from ⟨hz,its,r',TupO.new _ _⟩)
  exact⟨.ref h'.objs.size,_,I2,rfl,q _ (I1.hok.fresh (am _))⟩
 ·obtain⟨its,r',pl,hz⟩:=I.tuple hq
  exact call_tuple_same pl ⟨.ref p,H,I,rfl,q⟩
def tyV (K:W.Frag)(T:String)(x:V)(H:Hp):Prop:=match x with
 | .str _=>T= "str"
 | .int _=>T= "int"
 | .ref p=>(T= "list" /\∃ xs,SqL K H p xs)\/(T= "tuple" /\∃ o,K.lookup p=some o/\o.cls= .type "tuple" /\o.dict=none)\/
   (T= "dict" /\((∃ kvs,H p=some (.dK kvs))\/∃ kvs,H p=some (.dT kvs)))\/(T= "set" /\∃ S n,H p=some (.set S n))
 | _=>False
theorem jQY {ad:List (Addr×Obj)}{σ:St}{H:Hp}{s:Shared}{T:String}{x:V}{v:Value}(I:Inv X ad σ H s)(r:RelV x v)(ty:tyV X.K T x H):
  s.TypeIs v T/\∀ a,v= .ref a->∃ ob,s.heap.get? a=some ob/\ob.dict=none:=by
 cases x with
 | str z=>
  obtain⟨t,rfl⟩:=r
  cases (show T= "str" from ty)
  exact⟨typeIs_str s z t,fun _ e=>nomatch e⟩
 | int i=>
  obtain⟨t,rfl⟩:=r
  cases (show T= "int" from ty)
  exact⟨typeIs_int s i t,fun _ e=>nomatch e⟩
 | ref p=>
  cases r
  rcases ty with ⟨rfl,xs,hq⟩ | ⟨rfl,o,hk,hc,hd⟩ | ⟨rfl,hk⟩ | ⟨rfl,S,n,hk⟩
  ·obtain⟨its,_,pl,_⟩:=I.list hq
   refine⟨pl.isList.typeIs,fun a e=>?_⟩
   cases e
   obtain⟨o,n,e,c,hd,_⟩:=pl
   exact⟨o,e,hd⟩
  ·refine⟨⟨o,I.kIn p o hk,hc⟩,fun a e=>?_⟩
   cases e
   exact⟨o,I.kIn _ o hk,hd⟩
  ·have z:∃ o,s.heap.get? p=some o/\o.ExactDict:=by
    rcases hk with ⟨kvs,hk⟩ | ⟨kvs,hk⟩
    ·obtain⟨_,_,_,_,o,_,_,e,ex,_⟩:=I.hok p _ hk
     exact⟨o,e,ex⟩
    ·obtain⟨_,_,_,_,o,_,_,e,ex,_⟩:=I.hok p _ hk
     exact⟨o,e,ex⟩
   obtain⟨o,e,ex⟩:=z
   refine⟨⟨o,e,ex.1⟩,fun a e2=>?_⟩
   cases e2
   exact⟨o,e,ex.2.1⟩
  ·obtain⟨o,_,_,_,e,ex,_⟩:=I.hok p _ hk
   refine⟨⟨o,e,ex.1⟩,fun a e2=>?_⟩
   cases e2
   exact⟨o,e,ex.2.1⟩
 | _=>exact False.elim ty
def tBM0 (K:W.Frag)(T:String)(r:V->List V->Hp->VK->Prop)(to:TE):TE:=fun σ H Q=>to σ H fun x H1=>tyV K T x H1/\r x [] H1 Q
def tBM (K:W.Frag)(T:String)(r:V->List V->Hp->VK->Prop)(to:TE)(t:TA):TE:=fun σ H Q=>to σ H fun x H1=>tyV K T x H1/\t σ H1 fun xs H2=>r x xs H2 Q
variable {o:Expr}{es:List Expr}{to:TE}{t:TA}{name:Str}{apos cpos:Pos}{T id:String}{r:V->List V->Hp->VK->Prop}
theorem jUY (pa:PlainAttrs T)(slot:Slot T name id)(hty:typeOf (.builtin id)=pure (.type "method_descriptor"))(hm:MtR X id r)(ho:PE X o to)
  (hbase:attributeBase o name X.env (eval o X.env)=eval o X.env:=by rfl) (hline:(apos.endLine==cpos.line)=true:=by rfl):PE X (.Call (.Attribute o name apos) [] [] cpos) (tBM0 X.K T r to):=by
 intro ad s σ H Q I h
 refine wpAny_Call_method0_late hbase hline (ly (ho ad s σ H _ I h) fun v s1 ⟨x,H1,I1,r1,ty,q1⟩=>?_)
 obtain⟨h1,h2⟩:=jQY I1 r1 ty
 exact⟨T,id,pa,slot,hty,h1,h2,gd rfl (PySem.evalArgs_none (hm ad s1 σ H1 x [] v [] Q I1 r1 .nil q1))⟩
theorem pe_bm (pa:PlainAttrs T)(slot:Slot T name id)(hty:typeOf (.builtin id)=pure (.type "method_descriptor"))(hm:MtR X id r)(ho:PE X o to)(ha:PA X (e::es) t)
  (hbase:attributeBase o name X.env (eval o X.env)=eval o X.env:=by rfl)
  (hfew:((backTo cpos (starEach (e::es) X.env)).all (fun x=>!x.1)&&(backToKw cpos (keywordEach [] X.env)).all (fun x=>x.1.isSome)
   &&decide ((e::es).length+([]:List Keyword).length+(if ([]:List Keyword).isEmpty then 0 else 1)<30))=true:=by rfl)
  (hline:(apos.endLine==cpos.line)=true:=by rfl) (hs:starEach (e::es) X.env=(false,eval e X.env)::starEach es X.env:=by rfl) (hplain:(backTo cpos (starEach es X.env)).any (·.1)=false:=by rfl):
  PE X (.Call (.Attribute o name apos) (e::es) [] cpos) (tBM X.K T r to t):=by
 intro ad s σ H Q I h
 refine wpAny_Call_method_late hbase hfew hline rfl (ly (ho ad s σ H _ I h) fun v s1 ⟨x,H1,I1,r1,ty,q1⟩=>?_)
 obtain⟨h1,h2⟩:=jQY I1 r1 ty
 refine⟨T,id,pa,slot,hty,h1,h2,?_⟩
 have hA:=ha cpos ad s1 σ H1 _ I1 q1
 rw[hs] at hA ⊢
 refine gd (by show (false || (backTo cpos (starEach es X.env)).any (·.1))=false; rw[hplain] <;> rfl) (dZ ?_)
 exact ly hA fun us s2 ⟨vs,H2,I2,r2,q2⟩=>hm ad s2 σ H2 x vs v us Q I2 r1 r2 q2
/- xs.append(e),list.index on a module's tuple .. are MtR facts of 06m -/
end
def MtM (X:Cx)(id:String)(r:V->List V->Hp->VK->Prop):Prop:=
 ∀ (ad:List (Addr×Obj)) (s:Shared) (σ:St) (H:Hp) (x:V) (xs:List V) (v:Value) (us:List Value) (Q:VK),Inv X ad σ H s->RelV x v->Vals xs us->r x xs H Q->
  wpAny (model X.prog X.w) X.A (call (.builtin id) (v::us)) (EP X ad σ Q) X.xe s
theorem Vals.one:∀ {x:V}{us:List Value},Vals [x] us->∃ u,us=[u]/\RelV x u
 | _,_, .cons r .nil=>⟨_,rfl,r⟩
theorem Vals.two:∀ {x y:V}{us:List Value},Vals [x,y] us->∃ u v,us=[u,v]/\RelV x u/\RelV y v
 | _,_,_, .cons r (.cons q .nil)=>⟨_,_,rfl,r,q⟩
theorem Vals.zero:∀ {us:List Value},Vals [] us->us=[]
 | _, .nil=>rfl
theorem Vals.dropLast {xs:List V}{us:List Value}(h:Vals xs us):Vals xs.dropLast us.dropLast:=by
 induction h with
 | nil=>exact .nil
 | cons r t ih=>
  cases t with
  | nil=>exact .nil
  | cons q t'=>exact .cons r ih
theorem jLI {α:Type}(l:List α):l.eraseIdx (l.length - 1)=l.dropLast:=by
 induction l with
 | nil=>rfl
 | cons a r ih=>
  cases r with
  | nil=>rfl
  | cons b r=>
   have e:(a::b::r).length - 1=((b::r).length - 1)+1:=by
    have h1:(a::b::r).length=r.length+2:=rfl
    have h2:(b::r).length=r.length+1:=rfl
    lia
   rw[e,List.eraseIdx_cons_succ,ih]
   all_goals rfl
variable {s:Shared}
section
variable {ad:List (Addr×Obj)}{σ:St}{H:Hp}{l b:Addr}{xs ys zs:List V}
theorem Inv.lset {its its':List Value}{n:Nat}{f:Array Value->Array Value}{t':Nat}(I:Inv X ad σ H s)(hH:H l=some (.lst xs))
  (e:s.heap.get? l=some { cls:= .type "list",data:= .seq its.toArray n}) (hf:f its.toArray=its'.toArray) (hv:Vals ys its') (hz:ys.length<=sizeLine):
  Inv X ad σ (upd H l (.lst ys)) { s with heap:=s.heap.update l (Obj.mapSeq f),toks:=t'} :=by
 have q:=PySem.IsL.update e f
 rw[hf] at q
 refine I.write (x:=l) (e:=l) (by rw[hH]; exact trivial) (.inl rfl) (fun b' u hb hu=>(bv s.heap (Obj.mapSeq f) (dW hb)).trans hu) ⟨_,q⟩ ?_
 exact⟨hz,its',_,hv,q⟩
theorem Inv.lnew {its:List Value}{t':Nat}(I:Inv X ad σ H s)(hv:Vals ys its)(hz:ys.length<=sizeLine):
  Inv X ad σ (upd H s.heap.objs.size (.lst ys)) { s with heap:=s.heap.push { cls:= .type "list",data:= .seq its.toArray},toks:=t'} :=
 I.laid (fun _ _ q=>ag _ q) (am _) ⟨hz,its,0,hv,aA _ rfl⟩
theorem Inv.fresh (I:Inv X ad σ H s):H s.heap.objs.size=none:=I.hok.fresh (am _)
theorem Inv.lstM (I:Inv X ad σ H s)(hH:H l=some (.lst xs)):xs.length<=sizeLine/\∃ (its:List Value) (n:Nat),Vals xs its/\xs.length=its.length/\s.heap.get? l=some { cls:= .type "list",data:= .seq its.toArray n} :=by
 obtain⟨z,its,n,r,e⟩:=I.hok l _ hH
 exact⟨z,its,n,r,r.length,e⟩
end
def jS7:V->List V->Hp->VK->Prop:=fun x vs H Q=>∃ l xs y,x= .ref l/\vs=[y]/\H l=some (.lst xs)/\xs.length<sizeLine/\Q .non (upd H l (.lst (xs++[y])))
theorem jA2:MtM X "list.append" jS7:=by
 intro ad s σ H x vs v us Q I rx rv h
 obtain⟨l,xs,y,rfl,rfl,hH,hz,q⟩:=h
 cases rx
 obtain⟨u,rfl,ru⟩:=rv.one
 obtain⟨z,its,n,r,hl,e⟩:=I.lstM hH
 refine i5 F.slot_list_append ⟨_,e,rfl⟩ F.entry_list_append (F.args_list_append_2 _ _) (PySem.list_append l its.toArray n u (by rw[ax]; lia)) ⟨e,?_⟩
 refine⟨.non,_,I.lset (its':=its++[u]) hH e (by simp) (r.append (.cons ru .nil)) ?_,rfl,q⟩
 rw[aH,gA]
 lia
def rPop:V->List V->Hp->VK->Prop:=fun x vs H Q=>∃ l xs y,x= .ref l/\vs=[]/\H l=some (.lst xs)/\xs[xs.length - 1]?=some y/\Q y (upd H l (.lst xs.dropLast))
theorem jVD:MtM X "list.pop" rPop:=by
 intro ad s σ H x vs v us Q I rx rv h
 obtain⟨l,xs,y,rfl,rfl,hH,hy,q⟩:=h
 cases rx
 have hus:=rv.zero
 subst hus
 obtain⟨z,its,n,r,hl,e⟩:=I.lstM hH
 obtain⟨u,hu,ru⟩:=r.get hy
 have hy':its.toArray[its.toArray.size - 1]?=some u:=by
  show its.toArray[its.length - 1]?=some u
  rw[<- bU,<- hl]
  exact hu
 refine i5 F.slot_list_pop ⟨_,e,rfl⟩ F.entry_list_pop (F.args_list_pop_1 _) (MeetsSeq.list_pop_last l its.toArray n u hy' (by rw[ax]; lia)) ⟨e,?_⟩
 refine⟨y,_,I.lset (its':=its.dropLast) hH e ?_ r.dropLast ?_,ru,q⟩
 ·show its.toArray.eraseIdxIfInBounds (its.toArray.size - 1)=its.dropLast.toArray
  rw[ax,List.eraseIdxIfInBounds_toArray,jLI]
 ·rw[List.length_dropLast]
  lia
def rCat:R2:=fun x y H Q=>∃ l b xs zs,x= .ref l/\y= .ref b/\H l=some (.lst xs)/\H b=some (.lst zs)/\xs.length+zs.length<=sizeLine/\∀ p,H p=none->Q (.ref p) (upd H p (.lst (xs++zs)))
theorem jV3:OpR X (binaryOp .Add) rCat:=by
 intro ad s σ H x y v u Q I rx ry h
 obtain⟨l,b,xs,zs,rfl,rfl,hH,hB,hz,q⟩:=h
 cases rx
 cases ry
 obtain⟨z,its,n,r,hl,e⟩:=I.lstM hH
 obtain⟨z2,its2,n2,r2,hl2,e2⟩:=I.lstM hB
 refine PySem.P.add_list e e2 ?_ (by rw[ax,ax]; lia)
 have ea:its.toArray++its2.toArray=(its++its2).toArray:=by simp
 rw[ea]
 exact⟨.ref _,_,I.lnew (t':=s.toks) (r.append r2) (by rw[aH]; lia),rfl,q _ I.fresh⟩
section
variable {prog:Program}{w:World}{A:Around}{E:Value->Shared->Prop}
set_option maxRecDepth 100000 in
end
end L2
namespace Att
open PySem PySem.W PySem.Calls PyProof.Rows
theorem jEM {P:Params}{h:Heap} :∀ (ns:List Int) (vs:List Value),WellAll P h vs (ns.map WData.int)->IntsAre vs ns:=by
 intro ns
 induction ns with
 | nil=>
  intro vs w
  rw[g7] at w
  cases w
  exact .nil
 | cons n ns ih=>
  intro vs w
  rw[br] at w
  cases w with
  | cons a b=>
   cases a
   exact .cons _ _ (ih _ b)
theorem jM9 {l:OpenLaw}{n:Nat}(hn:l.most=some n){P:Params}{h:Heap}{args:List WData}{vals:List Value}
  (hpre:l.row.toRowW.claim.pre args=true) (hwl:WellAll P h vals args):
  ∃ a vs ns,vals=[Value.ref a]/\args=[WData.list (ns.map WData.int)]/\h.get? a=some { cls:= .type "list",data:= .seq vs.toArray} /\IntsAre vs ns/\ns.length<=n:=by
 have hsh:WShape.hasAll [] args [.list .int]=true:=(pre_splitW hpre).1
 have hc:l.pre.holds [] { args:=args} =true:=(pre_splitW hpre).2
 obtain⟨d,r,rfl,h1,h2⟩:=hasAllW_cons hsh
 obtain rfl:=hasAllW_nil h2
 obtain⟨xs,rfl,h3⟩:=hasW_list h1
 obtain⟨ns,rfl⟩:=items_int h3
 have hlen:ns.length<=n:=by
  unfold OpenLaw.pre at hc
  have h4:(WTm.not (.lt (.lit (.int (n:Int))) (.len (.arg 0)))).holds [] { args:=[.list (ns.map .int)]} =true:=by
   have h4:=(holds_andW hc).1
   rw[hn] at h4
   exact h4
  have h5:=condW_of h4 (w_not (w_lt w_lit (w_len_list (w_arg rfl))))
  rw[af] at h5
  refine Nat.le_of_not_lt fun q=>?_
  have q':(n:Int)<((ns.length:Nat):Int):=by lia
  first
   | (rw[az q'] at h5; exact absurd h5 (by decide))
   | (simp at h5; lia)
 cases hwl with
 | cons w1 w2=>
  cases w2
  cases w1 with
  | list ho hall=>exact⟨_,_,ns,rfl,rfl,ho,jEM ns _ hall,hlen⟩
theorem jMG (l:OpenLaw)(args:List WData):l.row.toRowW.claim.post args (.bool true) args=true:=
 postW_of (r:=l.row.toRowW) (X:=(true==true))
  (show WShape.has [] (.bool true) .bool=true by first | rfl | decide | simp [WShape.has,WShape.arms,WShape.armsAll])
  (show (WTm.eq .res (.lit (.bool true))).value [] { args:=args,res:=some (.bool true),after:=args} =some (.bool (true==true)) from w_eq_bool (w_res rfl) w_lit) rfl
theorem attach_call {l:OpenLaw}{n:Nat}{q:Program}{loose:List Str}{XP:(Str->Option Value)->Heap->Prop}{YP:World->Heap->Prop}{d:DefRec}
  (hn:l.most=some n) (hdf:d.params.defaults=[])
  (call:∀ (w:World) (s₀ s₁:Shared) (mg mb:Str->Option Value) (fa:Addr) (o:Obj) (pm cd doc:Value) (a:Addr) (vs:List Value) (ns:List Int),
   Ground q loose [] XP w s₀ mg mb s₁.heap->YP w s₁.heap->
   s₁.heap.get? fa=some o->o.data= .func (docDef d.name d.params d.body d.scope pm cd doc)->s₁.heap.CodeRec cd d.name->mg d.name=some (.ref fa)->
   s₁.heap.get? a=some { cls:= .type "list",data:= .seq vs.toArray} ->IntsAre vs ns->ns.length<=n->s₁.gens=#[]->
   codeAny (model l.prog w) callerA (.call (.ref fa) ⟨[.ref a],[]⟩) (fun r s'=>r= .ok (.ret (.bool true))/\OldK s₁.heap s'.heap/\s'.os=s₁.os/\AllBare s'.gens) s₁):
  WalkO q loose XP YP l.row.toRowW d [] (fun f vs=>PySem.call f vs):=by
 intro w s₀ s₁ mg mb G Y fa o pm cd doc dV kV ho hd hcd hD hmg hg args vals as hpre hlay hrd hwl hlo
 obtain rfl:dV= .none:=Dflts.none hD hdf
 obtain rfl:kV= .none:=Dflts.noKw hD
 obtain⟨a,vs,ns,rfl,rfl,hobj,hints,hlen⟩:=jM9 hn hpre hwl
 refine enter_call (dN (call w s₀ s₁ mg mb fa o pm cd doc a vs ns G Y ho (fd_plain hd) hcd hmg hobj hints hlen hg) fun r s' hq=>?_)
 obtain⟨rfl,h2,h3,h4⟩:=hq
 exact⟨.inl ⟨.bool true, .bool true,[],rfl,fun _=>rfl, .bool true,jMG l _,fun _=>⟨List.Pairwise.nil,fun _ hm=>(nomatch hm)⟩⟩,h2,h3,h4⟩
section
variable {prog:Program}{w:World}{A:Around}{E:Value->Shared->Prop}{s:Shared}{K:Frag}
end
end Att
namespace L2
open PySem PySem.Spec PyProof.Rows
theorem jGU:∀ {vs:List Value}{ns:List Int},IntsAre vs ns->Vals (ns.map V.int) vs
 | _,_, .nil=> .nil
 | _,_, .cons n t h=> .cons ⟨t,rfl⟩ (jGU h)
end L2
/- THE LAST THEOREM (shape; LID,My.* are yours):
  My.Adr:a structure of the addresses that your layer names (classes,functions); My.Txt K t:a structure (Prop) of the equations over K;
  My.txt_mk: {K} {implicit addresses ..} (e1:nsIn K mainGlobals "law" =some (some (.ref f))) (e2:K.lookup f=some ⟨oc,od, .func (fnOf "law" "law" params body scope dV kV doc pm an lw ct),sl⟩) (e3:codeIn K lw "law" =true) .. :∃ t,My.Txt K t
set_option maxRecDepth 100000 in
set_option maxHeartbeats 0 in
theorem PySem.Challenge.cw_LID_holds : PySem.Challenge.rw_LID.Holds := by
 w_on; o_law; k_head; (case hw=>w_witness2)
 k_fill
 refine L2.walk_of (l:=PySem.Challenge.rw_LID) (n:=63) (k:=40) (x:= "script") (CX:=fun w=> ..) (sp:=fun _=>My.sp_law) rfl (by decide) rfl ⟨rfl,by decide,by decide⟩ (fun w h Y=>PySem.W.kIn_of Y) ?F ?S ?C
 case F=>
  intro w mg fa h KX G hmg
  have T:∃ t,My.Txt (L2.KOf KX) t:=by
   dsimp only [L2.KOf] -- K must stand as «<heap const>w.params» for k_is
   refine' My.txt_mk ?e1 ?e2 ?e3 ..
   (case e1=>PySem.W.k_is) -- in the order:a name->its address->its object->its parts
   (case e2=>PySem.W.k_is)
   ..
  obtain⟨t,T⟩:=T
  have e0:=hmg.symm.trans (gM KX G T.law)
  cases e0 -- fa is the law's own address
  exact⟨_,fun s u=> .of_eq rfl,fun lv kb nb=>My.law_fn T kb nb⟩ -- if «.of_eq rfl» comes too early:refine' ⟨_,?b,fun lv kb nb=>My.law_fn T kb nb⟩; exact fun s u=> .of_eq rfl
 case S=>exact fun w H a ns hl hO hS=> ..
 case C=>exact ..
(the tactic k_is has no namespace:write k_is) -/
namespace L2
open PySem PySem.Spec PyProof.Rows
abbrev CX0:CXT:=fun _ _ _ _ _ _=>False
abbrev E0:XK:=fun _ _ _=>False
theorem pass0 {X:Cx} :jP2 CX0 X E0:=fun _ _ _ _ _ _ _ h=>h.elim
structure Fun (K:W.Frag)(x qual:Str)(st:Stmt)(f:Addr)(fd:FuncData):Prop where
 ex:∃ (oc:Value) (od:Option Addr) (kV doc pm:Value) (an:Option Addr) (lw ct:Value) (osl:Array (Option Value)),
  fd=PySem.W.fnOf x qual (y8 st) (jC st) (j6 st) .none kV doc pm an lw ct/\K.lookup f=some ⟨oc,od, .func fd,osl⟩/\PySem.W.codeIn K lw qual=true
 kp:keepIn K (.ref f)=true
variable {w:World}
section
variable {P:Program}{K:W.Frag}{mg:Str->Option Value}{lv:Heap}
theorem Fun.ok {x qual:Str}{st:Stmt}{f:Addr}{fd:FuncData}{N ps:List Str}{k:Nat}{sp:Sp}(F:Fun K x qual st f fd)(S:FnScope N ps (j6 st))(len:∀ vs H Q E,sp vs H Q E->vs.length=ps.length)
  (hbody:∀ (lw:Value) (A:Around) (lu:List Env) (s:Shared) (H:Hp) (vs:List V) (Q:VK) (E:XK),Room k (A.deeper (envOfC qual (j6 st) s.heap.objs.size f lw))->sp vs H Q E->
   ∃ t,PSs (cxOf CX0 P w K mg lv N qual (j6 st) f lw A lu s H E).nox (jC st) t/\t { nx:=fun _ H'=>Q .non H',rt:=Q} (y0 N vs) H):FnOk P w K mg lv CX0 (k+1) f fd ps sp:=by
 obtain⟨oc,od,kV,doc,pm,an,lw,ct,osl,rfl,lk,hcd⟩:=F.ex
 refine fn_of lk hcd S len fun A lu s H vs Q E hr hsp=>?_
 obtain⟨t,h,q⟩:=hbody lw A lu s H vs Q E hr hsp
 exact⟨t,h.nox,q⟩
theorem Fun.binds {x qual:Str}{st:Stmt}{f:Addr}{fd:FuncData}{ps:List Str}(F:Fun K x qual st f fd)
  (h:∀ (kV doc pm:Value) (an:Option Addr) (lw ct:Value) (us:List Value),us.length=ps.length->bindArgs (PySem.W.fnOf x qual (y8 st) (jC st) (j6 st) .none kV doc pm an lw ct) ⟨us,[]⟩=pure (ps.zip us)):Binds K fd ps []:=by
 obtain⟨oc,od,kV,doc,pm,an,lw,ct,osl,rfl,lk,hcd⟩:=F.ex
 exact .all (h kV doc pm an lw ct)
theorem jQ {x qual:Str}{st:Stmt}{f:Addr}{oc:Value}{od an:Option Addr}{osl:Array (Option Value)}{kV doc pm lw ct:Value}(l:K.lookup f=some ⟨oc,od, .func (PySem.W.fnOf x qual (y8 st) (jC st) (j6 st) .none kV doc pm an lw ct),osl⟩)
  (c:PySem.W.codeIn K lw qual=true) (k:keepIn K (.ref f)=true):Fun K x qual st f (PySem.W.fnOf x qual (y8 st) (jC st) (j6 st) .none kV doc pm an lw ct):=⟨⟨oc,od,kV,doc,pm,an,lw,ct,osl,rfl,l,c⟩,k⟩
end
theorem hu_of {A:Around}{k:Nat}(hr:Room k A):A.units+1<cLine:=kz (Nat.add_le_add_left (by decide:1<=64) _) hr.units
variable {X:Cx}
theorem pv (i:Nat){x:Str}{pos:Pos}(hN:X.N[i]?=some x:=by rfl)(hv:Vis X.env.scope x:=by first | exact Or.inl rfl | exact Or.inr (Or.inl rfl) | exact Or.inr (Or.inr rfl))(hd:(x==("__debug__" :Str))=false:=by decide)
  (hcd:(x==("__classdict__" :Str))=false:=by decide):PE X (.Name x pos) (tVar i):=jH9 hN hv hd hcd
theorem iteF {A B:Prop}(h:B):if false=true then A else B:=by
 rw[ao aq]
 exact h
theorem iteT {A B:Prop}(h:A):if true=true then A else B:=by
 rw[ar rfl]
 exact h
theorem ite2 {c A B:Prop} [Decidable c](h1:c->A)(h2:¬ c->B):if c then A else B:=by
 by_cases h:c
 ·rw[ar h]
  exact h1 h
 ·rw[ao h]
  exact h2 h
def jO (cells:List (Str×Addr)):List (Str×NameKind)->List (Str×Addr)->List (Str×Addr)
 | [],acc=>acc
 | (n,k)::r,acc=>if k= .free then jO cells r ((n,(cells.lookup n).getD 0)::acc) else jO cells r acc
theorem jD4 {env:Env} :∀ (l:List (Str×NameKind)) (acc:List (Str×Addr)),(∀ y∈l,y.2= .free->∃ c,env.cells.lookup y.1=some c)->
  (forIn l acc fun (x:Str×NameKind) (cs:List (Str×Addr))=>(if (x.2==NameKind.free)=true then (do let a <- cellOf env x.1; pure (ForInStep.yield ((x.1,a)::cs))) else pure (ForInStep.yield cs):Sem (ForInStep (List (Str×Addr)))))=pure (jO env.cells l acc)
 | [],acc,_=>rfl
 | (n,k)::r,acc,h=>by
  have hr:∀ y∈r,y.2= .free->∃ c,env.cells.lookup y.1=some c:=fun y hy=>h y (ah _ hy)
  rw[jf]
  by_cases hk:k= .free
  ·subst hk
   obtain⟨c,hc⟩:=h (n, .free) ai rfl
   have e:cellOf env n=pure c:=by unfold cellOf; rw[hc]
   have e2:jO env.cells ((n,NameKind.free)::r) acc=jO env.cells r ((n,c)::acc):=by
    show (if NameKind.free=NameKind.free then jO env.cells r ((n,(env.cells.lookup n).getD 0)::acc) else _)=_
    rw[ar rfl,hc]; rfl
   rw[e2,<- jD4 r ((n,c)::acc) hr]
   show ((do let a <- cellOf env n; pure (ForInStep.yield ((n,a)::acc))) >>= _)=_
   rw[e]; rfl
  ·have hb:(k==NameKind.free)=false:=by cases k <;> first | rfl | exact absurd rfl hk
   have e2:jO env.cells ((n,k)::r) acc=jO env.cells r acc:=by
    show (if k=NameKind.free then _ else jO env.cells r acc)=_
    rw[ao hk]
   rw[e2,<- jD4 r acc hr]
   show ((if (k==NameKind.free)=true then _ else pure (ForInStep.yield acc)) >>= _)=_
   rw[hb]; rfl
theorem jJA {env:Env}{sc:Scope}(h:∀ y∈sc.names,y.2= .free->∃ c,env.cells.lookup y.1=some c):closureFor sc env=pure (jO env.cells sc.names []):=by
 unfold closureFor
 show (forIn sc.names [] _ >>= fun cs=>pure cs)=_
 rw[show (forIn sc.names ([]:List (Str×Addr)) _:Sem _)=_ from jD4 sc.names [] h]
 rfl
theorem jAF {cells:List (Str×Addr)} :∀ (l:List (Str×NameKind)) (acc:List (Str×Addr)),(∀ y∈l,y.2= .free->∃ c,cells.lookup y.1=some c)->
  (∀ x c,acc.lookup x=some c->cells.lookup x=some c)->∀ x c,(jO cells l acc).lookup x=some c->cells.lookup x=some c
 | [],acc,_,ha=>ha
 | (n,k)::r,acc,h,ha=>by
  have hr:∀ y∈r,y.2= .free->∃ c,cells.lookup y.1=some c:=fun y hy=>h y (ah _ hy)
  unfold jO
  by_cases hk:k= .free
  ·rw[ar hk]
   obtain⟨c0,hc⟩:=h (n,k) ai hk
   refine jAF r _ hr fun x c e=>?_
   rw[be] at e
   cases hx:x==n with
   | true=>
    rw[hx] at e
    have exn:x=n:=eq_of_beq hx
    subst exn
    have hc':cells.lookup x=some c0:=hc
    rw[hc'] at e ⊢
    exact e
   | false=>rw[hx] at e; exact ha x c e
  ·rw[ao hk]; exact jAF r acc hr ha
theorem jAU {cells:List (Str×Addr)}{x:Str} :∀ (l:List (Str×NameKind)) (acc:List (Str×Addr)),((x,NameKind.free)∈l\/∃ c,acc.lookup x=some c)->∃ c,(jO cells l acc).lookup x=some c
 | [],acc,h=>by
  rcases h with h | h
  ·cases h
  ·exact h
 | (n,k)::r,acc,h=>by
  unfold jO
  by_cases hk:k= .free
  ·rw[ar hk]
   refine jAU r _ ?_
   by_cases e:x=n
   ·subst e
    exact .inr ⟨_,by rw[be,gF]⟩
   ·rcases h with h | ⟨c,h⟩
    ·rcases aF.mp h with q | q
     ·cases q; exact absurd rfl e
     ·exact .inl q
    ·refine .inr ⟨c,?_⟩
     rw[be,bO.mpr e]
     exact h
  ·rw[ao hk]
   refine jAU r _ ?_
   rcases h with h | h
   ·rcases aF.mp h with q | q
    ·cases q; exact absurd rfl hk
    ·exact .inl q
   ·exact .inr h
theorem jAP {x:Str}{k:NameKind} :∀ {l:List (Str×NameKind)},l.lookup x=some k->(x,k)∈l
 | [],h=>by cases h
 | (n,k')::r,h=>by
  rw[be] at h
  cases hx:x==n with
  | true=>rw[hx] at h; cases h; rw[eq_of_beq hx]; exact ai
  | false=>rw[hx] at h; exact ah _ (jAP h)
theorem jCU {env:Env}{x:Str}{k:NameKind}(hk:k= .cell\/k= .free):∀ {l:List (Str×NameKind)},(∀ y∈l,y.2≠ .cell)->
  (l.map fun (n,k)=>if (k==NameKind.free&&env.scope.kind== .function&&env.kindOf n==some .cell) then (n,NameKind.cell) else (n,k)).lookup x=some k->l.lookup x=some .free
 | [],_,h=>by simp at h
 | (n,k')::r,hc,h=>by
  have ih:= @jCU env x k hk r (fun y hy=>hc y (ah _ hy))
  have hc0:k'≠ .cell:=hc (n,k') ai
  rw[be]
  rw[br] at h
  dsimp only at h
  by_cases hb:(k'==NameKind.free&&env.scope.kind== .function&&env.kindOf n==some .cell)=true
  ·rw[ar hb,be] at h
   cases hx:x==n with
   | true=>
    have:k'= .free:=by
     simp only [bI] at hb
     exact eq_of_beq hb.1.1
    rw[this]
   | false=>rw[hx] at h; exact ih h
  ·rw[ao hb,be] at h
   cases hx:x==n with
   | true=>
    rw[hx] at h
    have e:k'=k:=bq h
    rcases hk with q | q
    ·exact absurd (e.trans q) hc0
    ·rw[e,q]
   | false=>rw[hx] at h; exact ih h
theorem jD0 {env:Env}{x:Str} :∀ {l:List (Str×NameKind)},l.lookup x=some .free->
  (l.map fun (n,k)=>if (k==NameKind.free&&env.scope.kind== .function&&env.kindOf n==some .cell) then (n,NameKind.cell) else (n,k)).lookup x=some .cell\/
  (l.map fun (n,k)=>if (k==NameKind.free&&env.scope.kind== .function&&env.kindOf n==some .cell) then (n,NameKind.cell) else (n,k)).lookup x=some .free
 | [],h=>by cases h
 | (n,k')::r,h=>by
  have ih:= @jD0 env x r
  rw[be] at h
  rw[br]
  dsimp only
  by_cases hb:(k'==NameKind.free&&env.scope.kind== .function&&env.kindOf n==some .cell)=true
  ·rw[ar hb,be]
   cases hx:x==n with
   | true=>exact .inl rfl
   | false=>rw[hx] at h; exact ih h
  ·rw[ao hb,be]
   cases hx:x==n with
   | true=>rw[hx] at h; exact .inr h
   | false=>rw[hx] at h; exact ih h
section
variable {prog:Program}{A:Around}{R:Result->Shared->Prop}{s:Shared}
abbrev jLW (ifs:List Expr)(env:Env):Sem Bool:=forIn ifs true fun c r=>if r=true then do let ok <- isTrue c env (eval c env); pure (ForInStep.yield ok) else pure (ForInStep.yield r)
theorem jLJ {elt tg iter:Expr}{ifs:List Expr}{sc:Scope}{pos:Pos}{it acc:Value}{env:Env}(J:Nat->Shared->Prop)
  (turn:∀ n z,J n z->wpAny (model prog w) A (pyNext it) (fun r z1=>match r with
   | none=>R (.ok .next) z1
   | some v=>wpAny (model prog w) A (letOwnedTupleGo tg it v) (fun _ z2=>wpAny (model prog w) A (assign tg env v) (fun _ z3=>wpAny (model prog w) A (jLW ifs env) (fun ok z4=>
     if ok=true then wpAny (model prog w) A (eval elt env) (fun x z5=>wpAny (model prog w) A (call (.builtin "list.append") [acc,x]) (fun _ z6=>∃ k,k<n/\J k z6) (fun _ _=>False) z5) (fun _ _=>False) z4
     else ∃ k,k<n/\J k z4) (fun _ _=>False) z3) (fun _ _=>False) z2) (fun _ _=>False) z1) (fun _ _=>False) z)
  (n:Nat) (h:J n s):codeAny (model prog w) A (.compLoop (.ListComp elt [⟨tg,iter,ifs,0⟩] sc pos) 0 it acc env) R s:=by
 refine codeAny_loop rfl J (fun k z hJ=>?_) n h
 have noE:∀ {α:Type}{t:Sem α}{Q:α->Shared->Prop}{E:Value->Shared->Prop}{z:Shared},wpAny (model prog w) A t Q (fun _ _=>False) z->wpAny (model prog w) A t Q E z:=
  fun q=>b7 q (fun _ _ a=>a) fun _ _ f=>f.elim
 show wpAny _ A ((compTurn (.ListComp elt [⟨tg,iter,ifs,0⟩] sc pos) 0 it acc env).onRaise (fun x=>do noteFrame x env; theTreesLotGoes x)) _ _ z
 refine wpAny_noted ?_
 rw[compTurn_list]
 refine ae (eR (ae (b7 (turn k z hJ) (fun r z1 q1=>?_) fun _ _ f=>f.elim)))
 cases r with
 | none=>exact ak q1
 | some v=>
  refine ae (b7 q1 (fun _ z2 q2=>?_) fun _ _ f=>f.elim)
  refine ae (b7 q2 (fun _ z3 q3=>?_) fun _ _ f=>f.elim)
  refine ae (b7 q3 (fun ok z4 q4=>?_) fun _ _ f=>f.elim)
  cases ok with
  | false=>exact ak ⟨rfl,q4⟩
  | true=>
   refine ae (ae (b7 q4 (fun x z5 q5=>?_) fun _ _ f=>f.elim))
   exact ae (b7 q5 (fun _ z6 q6=>ak (ak ⟨rfl,q6⟩)) fun _ _ f=>f.elim)
end
def blk (X:Cx)(sc:Scope)(cl:List (Str×Addr))(C:Addr)(Nc:List Str)(fp:List Addr)(s:Shared)(H:Hp):Cx where
 prog:=X.prog
 w:=X.w
 K:=X.K
 mg:=X.mg
 lv:=X.lv
 A:=X.A
 N:=Nc
 s₀:=s
 H₀:=H
 env:=compEnvC sc cl C X.env
 lu:=X.stack
 stack:=X.stack
 ex:=fp
 fn:=fun _=>false
 calm:=X.calm
 pn:=[]
 xe:=fun _ _=>False
def blkσ (m:List (Option Nat))(σ:St):St:=m.map fun o=>match o with
 | none=>none
 | some i=>(σ[i]?).getD none
def PTs (X:Cx)(ifs:List Expr)(t:TT):Prop:=
 ∀ (ad:List (Addr×Obj)) (s:Shared) (σ:St) (H:Hp) (Q:Bool->Hp->Prop),Inv X ad σ H s->t σ H Q->wpAny (model X.prog X.w) X.A (jLW ifs X.env) (TP X ad σ Q) X.xe s
def yJ:TT:=fun _ H Q=>Q true H
theorem jME {X:Cx} :PTs X [] yJ:=fun _ _ _ H _ I h=>wpAny_tests_nil ⟨H,I,h⟩
theorem jMD {X:Cx}{c:Expr}{t:TT}(h:PT X c t):PTs X [c] t:=fun ad s σ H Q I q=>wpAny_tests_one (h ad s σ H Q I q)
def qI (m:List (Option Nat))(g:TG)(tt:TT)(te:TE)(σ:St)(Q:VK)(J:It)(H1:Hp):Prop:=∀ D,H1 D=none->∃ W:Nat->Nat->St->Hp->List V->Prop,
  (∃ n,W 0 n (blkσ m σ) (upd H1 D (.lst [])) [])/\∀ i n σ' H' ys,W i n σ' H' ys->H' D=some (.lst ys)/\ys.length<sizeLine/\
   ((J.stop i H'/\Q (.ref D) H')\/(J.go i H'/\∃ N:St->Hp->List V->Prop,(∀ σ2 H2 zs,N σ2 H2 zs->∃ n',n'<n/\W (i+1) n' σ2 H2 zs)/\∀ x H'',J.yld i H' x H''->g x σ' H'' fun σ2 H2=>tt σ2 H2 fun b H3=>
    if b=true then te σ2 H3 fun v H4=>H4 D=some (.lst ys)/\N σ2 (upd H4 D (.lst (ys++[v]))) (ys++[v])
    else N σ2 H3 ys))
def tComp (m:List (Option Nat))(wi:TI)(g:TG)(tt:TT)(te:TE):TE:=fun σ H Q=>wi σ H (qI m g tt te σ Q)
theorem Un.sameBut {fs ex:List Addr}{H H':Hp}{h h1 h2:Heap}{C:Addr}(u:Un fs ex H H' h h1)(sb:Heap.SameBut C h1 h2)(hC:h.objs.size<=C):Un fs ex H H' h h2:=by
 have ne:∀ {b:Addr}{o:Obj},h.get? b=some o->b≠C:=fun e=>aQ (aO (aE e) hC)
 refine⟨fun b o e n hf hx=>(sb.2 b (ne e)).trans (u.keep b o e n hf hx),fun b o e n hf hx=>?_,u.free,fun b o e hx=>?_,u.tups,u.frzs,u.tbls⟩
 ·obtain⟨sl,q⟩:=u.slot b o e n hf hx
  exact⟨sl,(sb.2 b (ne e)).trans q⟩
 ·obtain⟨o',q⟩:=u.there b o e hx
  exact⟨o',(sb.2 b (ne e)).trans q⟩
theorem HOk.sameBut {P:Program}{w:World}{H:Hp}{h1 h2:Heap}{C:Addr}(x:HOk P w H h1)(sb:Heap.SameBut C h1 h2)(hC:H C=none):HOk P w H h2:=fun a o e=>
 (x a o e).stay (fun b u hb q=>(sb.2 b (by
  rintro rfl
  rcases hb with rfl | hb
  ·rw[hC] at e; cases e
  ·rw[hC] at hb; cases hb)).trans q) (fun _ q=>q) fun _ _ q=>q
variable {g:TG}{tt:TT}{te:TE}{m:List (Option Nat)}
section
variable {tg iter elt:Expr}{ifs:List Expr}{sc:Scope}{pos:Pos}{wi:TI}{Nc:List Str}
def jBZ (X:Cx)(sc:Scope)(Nc:List Str)(m:List (Option Nat)):Prop:=
 m.length=Nc.length/\∀ (k i:Nat),m[k]?=some (some i)->∃ x,Nc[k]?=some x/\X.N[i]?=some x/\sc.names.lookup x=some .free
theorem jOV {ad:List (Addr×Obj)}{s:Shared}{σ:St}{H:Hp}{fp:List Addr}(I:Inv X ad σ H s)(hkind:sc.kind= .function)(hcell:∀ y∈sc.names,y.2≠ .cell)
  (hfree:∀ y∈sc.names,y.2= .free->X.env.scope.names.lookup y.1=some .cell\/X.env.scope.names.lookup y.1=some .free) (hm:jBZ X sc Nc m) (hfp:∀ b∈fp,FpOk X ad H b) (hlt:∀ b∈fp,b<s.heap.objs.size)
  {h1:Heap}{tk:Nat}{md:Str->Option Value}(hns:h1.Ns s.heap.objs.size md) (old:∀ b o,s.heap.get? b=some o->h1.get? b=some o):
  Inv (blk X sc (jO X.env.cells sc.names []) s.heap.objs.size Nc fp s H) [] (blkσ m σ) H { s with heap:=h1,toks:=tk} :=by
 have hcl:∀ y∈sc.names,y.2= .free->∃ c,X.env.cells.lookup y.1=some c:=fun y hy hf=>I.ok.has y.1 (hfree y hy hf)
 have sub:∀ x c,(jO X.env.cells sc.names []).lookup x=some c->X.env.cells.lookup x=some c:=jAF sc.names [] hcl (fun x c e=>by cases e)
 have isfree:∀ x,(compEnvC sc (jO X.env.cells sc.names []) s.heap.objs.size X.env).kindOf x=some .cell\/(compEnvC sc (jO X.env.cells sc.names []) s.heap.objs.size X.env).kindOf x=some .free->sc.names.lookup x=some .free:=fun x h=>by
  rcases h with h | h
  ·exact jCU (.inl rfl) hcell h
  ·exact jCU (.inr rfl) hcell h
 refine⟨⟨I.ok.mod,hkind,I.ok.glob,I.ok.blt,am _,fun x y c h1 h2=>I.ok.inj x y c (sub x c h1) (sub y c h2),fun x hx=>?_,fun x c hf _=>?_,I.ok.hd,I.ok.frames, .inl rfl,fun b hb=>?_,I.bs,bf I.ok.bsz I.sz,fun b o e hb=>?_,fun b hb hz=>?_,I.stack,I.stkFree⟩,
  rfl,I.bare,Un.kept old,⟨md,hns,fun k x v e1 e2 e3=>?_⟩,fun x c e=>?_,I.hok.fresh (am _),fun x c e=>I.freeC x c (sub x c e),fun p hp=>absurd (show p∈([]:List (Addr×Obj)) from hp) (by simp),I.hok.kept old,?_⟩
 ·exact jAU sc.names [] (.inl (jAP (isfree x hx)))
 ·exact absurd (show false=true from hf) aq
 ·obtain⟨f0,f1,f2,f3,f4,f5⟩:=hfp b hb
  exact⟨aQ (hlt b hb),fun x c e=>f4 x c (sub x c e)⟩
 ·obtain⟨f0,f1,f2,f3,f4,f5⟩:=hfp b hb
  rcases f3 with q | q
  ·exact I.ok.noex b o e q
  ·exact absurd (aO (aE (I.ok.bs b o e).1) q) (cJ _)
 ·obtain⟨f0,f1,f2,f3,f4,f5⟩:=hfp b hb
  rcases aF.mp (I.stkSub b hz) with q | q
  ·exact f1 q
  ·exact f2 q
 ·have e2':∃ i,m[k]?=some (some i)/\σ[i]?=some (some v):=by
   unfold blkσ at e2
   rw[aR] at e2
   cases q:m[k]? with
   | none=>rw[q] at e2; cases e2
   | some o=>
    rw[q] at e2
    cases o with
    | none=>cases e2
    | some i=>
     refine⟨i,rfl,?_⟩
     have e2:(σ[i]?).getD none=some v:=bq e2
     cases r:σ[i]? with
     | none=>rw[r] at e2; cases e2
     | some z=>rw[r] at e2; exact bZ some e2
  obtain⟨i,q1,q2⟩:=e2'
  obtain⟨x',a1,a2,a3⟩:=hm.2 k i q1
  have e1':Nc[k]?=some x:=e1
  rw[e1'] at a1
  cases a1
  have vis:=hfree (x, .free) (jAP a3) rfl
  obtain⟨m0,hn0,hl0⟩:=I.loc
  obtain⟨u,r,l⟩:=hl0 i x v a2 q2 (.inr vis)
  refine⟨u,r, .inr ⟨jD0 a3,?_⟩⟩
  obtain⟨c,hc⟩:=jAU (cells:=X.env.cells) (x:=x) sc.names [] (.inl (jAP a3))
  rcases l with ⟨lk,_⟩ | ⟨_,c',hc',o,ho,hd⟩
  ·have lk':X.env.scope.names.lookup x=some .local:=lk
   rcases vis with z | z
   ·rw[lk'] at z; cases z
   ·rw[lk'] at z; cases z
  ·have:=sub x c hc
   rw[hc'] at this
   cases this
   exact⟨c,hc,o,old _ _ ho,hd⟩
 ·obtain⟨v,o,ho,hd⟩:=I.cell x c (sub x c e)
  exact⟨v,o,old _ _ ho,hd⟩
 ·show (blkσ m σ).length=Nc.length
  unfold blkσ
  rw[af]
  exact hm.1
theorem jGN {tf:St->TE}(hc:X.calm=true)(hi:PI X tg iter wi)(hkind:sc.kind= .function)(hcell:∀ y∈sc.names,y.2≠ .cell)(hnames:∀ y∈sc.names,y.2= .local->sc.names.lookup y.1=some .local)
  (hfree:∀ y∈sc.names,y.2= .free->X.env.scope.names.lookup y.1=some .cell\/X.env.scope.names.lookup y.1=some .free) (hm:jBZ X sc Nc m)
  (hg:∀ cl C fp s H,PG (blk X sc cl C Nc fp s H) tg g) (ht:∀ cl C fp s H,PTs (blk X sc cl C Nc fp s H) ifs tt) (he:∀ cl C fp s H ad σ,Inv X ad σ H s->(∀ b∈fp,FpOk X ad H b)->PE (blk X sc cl C Nc fp s H) elt (tf σ))
  (hs:∀ x,foldedSetIterable iter X.env x=pure x) {fpos:Pos}{use:Option (Value->Sem Unit)}{R:Value->Shared->Prop}{ad:List (Addr×Obj)}{s:Shared}{σ:St}{H:Hp}{Q:VK}(I:Inv X ad σ H s) (h:tComp m wi g tt (tf σ) σ H Q)
  (fin:∀ (D C:Addr) (H5:Hp) (z1:Shared) (r:Flow),(∃ mm,z1.heap.Ns C mm)->FpOk X ad H5 C->(∀ h',Heap.SameBut C z1.heap h'->Inv X ad σ H5 { z1 with heap:=h'})->Q (.ref D) H5->compPost (model X.prog X.w) X.A X.xe use R (.ref D) C (.ok r) z1):
  wpAny (model X.prog X.w) X.A (comprehension (.ListComp elt [⟨tg,iter,ifs,0⟩] sc pos) sc X.env fpos (newList []) false (eval iter X.env) use) R X.xe s:=by
 have hcl:∀ y∈sc.names,y.2= .free->∃ c,X.env.cells.lookup y.1=some c:=fun y hy hf=>I.ok.has y.1 (hfree y hy hf)
 refine wpAny_comprehension_free (use:=use) rfl hs (jJA hcl) hkind hnames (ly (hi ad s σ H _ I h) fun v s1 h1=>ly h1 fun itv s2 h2=>?_)
 obtain⟨it,fp,tn,J,H2,e,I2,T,st2,f2,hQ⟩:=h2
 subst e
 have hlt:∀ b∈fp,b<s2.heap.objs.size:=fun b hb=>by
  obtain⟨o,e,_⟩:=T.obj 0 _ st2 b hb
  exact aE e
 refine cZ (wpAny_newFunctionEnv hcell (by intro y hy; simp at hy) (fun h₁ hns₁ hsb₁=>?_) hkind)
 have I3:Inv X ad σ (upd H2 s2.heap.objs.size (.lst [])) { s2 with heap:=s2.heap.push { cls:= .type "list",data:= .seq ([]:List Value).toArray}} :=I2.lnew (t':=s2.toks) .nil (bi _)
 obtain⟨W,⟨n0,w0⟩,turn⟩:=hQ s2.heap.objs.size I2.fresh
 have hD3:∀ b∈fp,b≠s2.heap.objs.size:=fun b hb=>aQ (hlt b hb)
 have f3:∀ b∈fp,FpOk X ad (upd H2 s2.heap.objs.size (.lst [])) b:=fun b hb=>by
  obtain⟨a0,a1⟩:=f2 b hb
  exact⟨by rw[j8 (hD3 b hb)]; exact a0,a1⟩
 generalize hE:({ s2 with heap:=s2.heap.push { cls:= .type "list",data:= .seq ([]:List Value).toArray}} :Shared)=s3 at I3 hns₁ hsb₁ ⊢
 generalize hH3:upd H2 s2.heap.objs.size (.lst [])=H3 at I3 f3 w0
 have hsz3:s3.heap.objs.size=s2.heap.objs.size+1:=by rw[<- hE]; exact da _ _
 have old:∀ b o,s3.heap.get? b=some o->h₁.get? b=some o:=fun b o e=>hsb₁.extBut b o (aQ (aE e)) (ag _ e)
 have old2:∀ b o,s2.heap.get? b=some o->h₁.get? b=some o:=fun b o e=>old b o (by rw[<- hE]; exact ag _ e)
 have I4:=jOV (fp:=fp) (tk:=s3.toks+([]:List (Str×Value)).length) I3 hkind hcell hfree hm f3 (fun b hb=>show b<s3.heap.objs.size by rw[hsz3]; exact cC (hlt b hb)) hns₁ old
 have st4:tn 0 h₁:=T.keep _ _ _ st2 fun b hb o e=>old2 b o e
 have loop:codeAny (model X.prog X.w) X.A (.compLoop (.ListComp elt [⟨tg,iter,ifs,0⟩] sc pos) 0 (.ref it) (.ref s2.heap.objs.size) (compEnvC sc (jO X.env.cells sc.names []) s3.heap.objs.size X.env))
   (compPost (model X.prog X.w) X.A X.xe use R (.ref s2.heap.objs.size) s3.heap.objs.size) { s3 with heap:=h₁,toks:=s3.toks+([]:List (Str×Value)).length} :=by
  generalize hX:blk X sc (jO X.env.cells sc.names []) s3.heap.objs.size Nc fp s3 H3=Xb at I4
  have eP:Xb.prog=X.prog:=by rw[<- hX]; rfl
  have ew:Xb.w=X.w:=by rw[<- hX]; rfl
  have eK:Xb.K=X.K:=by rw[<- hX]; rfl
  have eA:Xb.A=X.A:=by rw[<- hX]; rfl
  have ec:Xb.calm=true:=by rw[<- hX]; exact hc
  have ee:Xb.env=compEnvC sc (jO X.env.cells sc.names []) s3.heap.objs.size X.env:=by rw[<- hX]; rfl
  have ex:Xb.xe=fun _ _=>False:=by rw[<- hX]; rfl
  have hgb:PG Xb tg g:=by rw[<- hX]; exact hg _ _ _ _ _
  have htb:PTs Xb ifs tt:=by rw[<- hX]; exact ht _ _ _ _ _
  have heb:PE Xb elt (tf σ):=by rw[<- hX]; exact he _ _ _ _ _ _ _ I3 f3
  have stat:∀ {H':Hp},(∀ b∈fp,H' b=none)->∀ b∈fp,FpOk Xb [] H' b:=fun {H'} hn b hb=>by
   obtain⟨o,eo,_⟩:=T.obj _ _ st4 b hb
   have q:=I4.ok.exf b (by rw[<- hX]; exact hb)
   exact⟨hn b hb,q.1,I4.ok.exfs b (by rw[<- hX]; exact hb), .inl (by rw[<- hX]; exact hb),q.2,fun p hp=>absurd hp (by rw[<- hX]; simp [blk])⟩
  have fr4:∀ b∈fp,H3 b=none:=fun b hb=>(f3 b hb).1
  unfold PG at hgb
  unfold PTs at htb
  unfold PE at heb
  rw[eP,ew,eA,ee,ex] at hgb htb heb
  refine jLJ (fun n z=>∃ i σ' H' ys,Inv Xb [] σ' H' z/\tn i z.heap/\(∀ b∈fp,H' b=none)/\W i n σ' H' ys) ?_ n0 ⟨0,_,H3,[],I4,st4,fr4,w0⟩
  rintro n z ⟨i,σ5,H5,ys,I5,st5,fr5,w5⟩
  obtain⟨hD,hlen,way⟩:=turn i n σ5 H5 ys w5
  rcases way with ⟨stop,q⟩ | ⟨go,N,hN,step⟩
  ·have RR:=T.done Xb eP ew eK ec i [] z σ5 H5 (fun _ _=>False) I5 (stat fr5) st5 stop
   rw[eA] at RR
   refine ly RR fun r z1 ⟨hr,I6⟩=>?_
   subst hr
   obtain⟨mm,hn6,_⟩:=I6.loc
   rw[ee] at hn6
   have u6:Un (frs X.stack) fp H3 H5 s3.heap z1.heap:=by
    have:=I6.lv
    rw[<- hX] at this
    exact this
   have fC:H5 s3.heap.objs.size=none:=by
    have:=I6.free
    rw[ee] at this
    exact this
   have hok6:HOk X.prog X.w H5 z1.heap:=by
    have:=I6.hok
    rw[eP,ew] at this
    exact this
   have os6:z1.os=s3.os:=by
    have:=I6.os
    rw[<- hX] at this
    exact this
   refine fin s2.heap.objs.size s3.heap.objs.size H5 z1 .next ⟨mm,hn6⟩ (I3.fpOk (am _) fC) (fun h' sb=>?_) q
   refine I3.call' (s':= { z1 with heap:=h'}) (ch:=fp) os6 (u6.sameBut sb (am _)) (hok6.sameBut sb fC) I6.bare (fun b hb=>?_)
   obtain⟨a0,a1,a2,a3,a4,a5⟩:=f3 b hb
   exact⟨a3,a1,a4,a5⟩
  ·have RR:=T.item Xb eP ew eK ec i [] z σ5 H5 (fun _ _=>False) I5 (stat fr5) st5 go
   rw[eA] at RR
   refine ly RR fun r z1 ⟨u,hr,h6⟩=>?_
   subst hr
   refine ly h6 fun _ z2 ⟨x,H7,I7,r7,y7,st7,fr7⟩=>?_
   have I7':=I7.pinned (stat fr7) (T.obj _ _ st7)
   refine ly (hgb _ z2 σ5 H7 x u _ I7' r7 (step x H7 y7)) fun _ z3 ⟨σ8,H8,I8,q8⟩=>?_
   refine ly (htb _ z3 σ8 H8 _ I8 q8) fun ok z4 ⟨H9,I9,q9⟩=>?_
   have again:∀ {σ7:St}{Hz:Hp}{zz:Shared}{yy:List V}{n':Nat},Inv Xb ([]++jH7 fp z2.heap) σ7 Hz zz->n'<n->W (i+1) n' σ7 Hz yy->∃ k,k<n/\∃ i σ' H' ys,Inv Xb [] σ' H' zz/\tn i zz.heap/\(∀ b∈fp,H' b=none)/\W i k σ' H' ys:=fun {σ7 Hz zz yy n'} Iz hn wz=>by
    refine⟨n',hn,i+1,σ7,Hz,yy,Iz.unpinned,T.keep _ _ _ st7 fun b hb o e=>(Iz.pin (b,o) (aB _ (aB _ (jBR hb e)))).1,fun b hb=>?_,wz⟩
    obtain⟨o,e,d⟩:=T.obj _ _ st7 b hb
    exact(Iz.pin (b,o) (aB _ (aB _ (jBR hb e)))).2.1
   cases ok with
   | false=>
    obtain⟨n',hn,w9⟩:=hN _ _ _ (show N σ8 H9 ys from q9)
    exact again I9 hn w9
   | true=>
    refine ly (heb _ z4 σ8 H9 _ I9 q9) fun xv z5 ⟨vv,H10,I10,r10,hD10,n10⟩=>?_
    obtain⟨n',hn,w10⟩:=hN _ _ _ n10
    have RR:=jA2 (X:=Xb) _ z5 σ8 H10 (.ref s2.heap.objs.size) [vv] (.ref s2.heap.objs.size) [xv] (fun _ H'=>H'=upd H10 s2.heap.objs.size (.lst (ys++[vv]))) I10 rfl (.cons r10 .nil) ⟨_,ys,vv,rfl,rfl,hD10,hlen,rfl⟩
    rw[eP,ew,eA,ex] at RR
    refine ly RR fun _ z6 ⟨_,H11,I11,_,e11⟩=>?_
    subst e11
    exact again I11 hn w10
 exact codeAny_compStart_list loop (T.self _ 0 _ _ _ st4 loop)
theorem jIM (hc:X.calm=true)(hi:PI X tg iter wi)(hkind:sc.kind= .function)(hcell:∀ y∈sc.names,y.2≠ .cell)(hnames:∀ y∈sc.names,y.2= .local->sc.names.lookup y.1=some .local)
  (hfree:∀ y∈sc.names,y.2= .free->X.env.scope.names.lookup y.1=some .cell\/X.env.scope.names.lookup y.1=some .free) (hm:jBZ X sc Nc m)
  (hg:∀ cl C fp s H,PG (blk X sc cl C Nc fp s H) tg g) (ht:∀ cl C fp s H,PTs (blk X sc cl C Nc fp s H) ifs tt) (he:∀ cl C fp s H,PE (blk X sc cl C Nc fp s H) elt te)
  (hs:∀ x,foldedSetIterable iter X.env x=pure x:=by intro _; rfl):PE X (.ListComp elt [⟨tg,iter,ifs,0⟩] sc pos) (tComp m wi g tt te):=by
 intro ad s σ H Q I h
 rw[eval_ListComp]
 exact jGN (tf:=fun _=>te) (use:=none) hc hi hkind hcell hnames hfree hm hg ht (fun cl C fp s H _ _ _ _=>he cl C fp s H) hs I h (fun D C H5 z1 r ⟨mm,hn⟩ fC sb q=>⟨mm,hn,fun h' s2=>⟨.ref D,H5,sb h' s2,rfl,q⟩⟩)
end
theorem jG {X:Cx}{sc psc:Scope}(h:(sc.names.all fun y=>decide (y.2= .free->psc.names.lookup y.1=some .cell\/psc.names.lookup y.1=some .free))=true:=by decide+kernel)(e:X.env.scope=psc:=by rfl):
  ∀ y∈sc.names,y.2= .free->X.env.scope.names.lookup y.1=some .cell\/X.env.scope.names.lookup y.1=some .free:=by
 rw[e]
 intro y hy
 exact aG (bJ.mp h y hy)
def jO9 (sc:Scope)(N Nc:List Str)(m:List (Option Nat))(k:Nat):Bool:=match m[k]? with
 | some (some i)=>match Nc[k]? with
  | some x=>decide (N[i]?=some x)&&decide (sc.names.lookup x=some .free)
  | none=>false
 | _=>true
theorem jF {X:Cx}{sc:Scope}{N Nc:List Str}{m:List (Option Nat)}(e:X.N=N)(hl:m.length=Nc.length)(h:((List.range m.length).all (jO9 sc N Nc m))=true):jBZ X sc Nc m:=by
 refine⟨hl,fun k i hk=>?_⟩
 have hlt:k<m.length:=(aj.mp hk).1
 have q:=bJ.mp h k (bG.mpr hlt)
 unfold jO9 at q
 rw[hk] at q
 cases e2:Nc[k]? with
 | none=>rw[e2] at q; cases q
 | some x=>
  rw[e2] at q
  have q:(decide (N[i]?=some x)&&decide (sc.names.lookup x=some .free))=true:=q
  rw[bI] at q
  exact⟨x,rfl,by rw[e]; exact aG q.1,aG q.2⟩
section
variable {σ:St}{H1:Hp}{Q:VK}
theorem jBV {lo:Int}{n:Nat}(hn:n<sizeLine)(Pv:Addr->Nat->St->Hp->List V->Prop)(h0:∀ D,H1 D=none->Pv D 0 (blkσ m σ) (upd H1 D (.lst [])) [])
  (hD:∀ D i σ' H' ys,H1 D=none->i<=n->Pv D i σ' H' ys->H' D=some (.lst ys)/\ys.length<=i)
  (hs:∀ D i σ' H' ys,H1 D=none->i<n->Pv D i σ' H' ys->g (.int (lo+i)) σ' H' fun σ2 H2=>tt σ2 H2 fun b H3=>if b=true then te σ2 H3 fun v H4=>H4 D=some (.lst ys)/\Pv D (i+1) σ2 (upd H4 D (.lst (ys++[v]))) (ys++[v]) else Pv D (i+1) σ2 H3 ys)
  (hd:∀ D σ' H' ys,H1 D=none->Pv D n σ' H' ys->Q (.ref D) H'):qI m g tt te σ Q (Itr lo n) H1:=by
 intro D hDn
 refine⟨fun i k σ' H' ys=>k=n - i/\i<=n/\Pv D i σ' H' ys,⟨n,rfl,bi _,h0 D hDn⟩,?_⟩
 rintro i k σ' H' ys ⟨rfl,hi,p⟩
 obtain⟨q1,q2⟩:=hD D i σ' H' ys hDn hi p
 refine⟨q1,by lia,?_⟩
 by_cases hlt:i<n
 ·refine .inr ⟨hlt,Pv D (i+1),fun σ2 H2 zs z=>⟨n - (i+1),by lia,rfl,hlt,z⟩,fun x H'' y=>?_⟩
  obtain⟨e1,e2⟩:=y
  subst e1 e2
  exact hs D i σ' _ ys hDn hlt p
 ·have e:i=n:=by lia
  subst e
  exact .inl ⟨am _,hd D σ' H' ys hDn p⟩
end
end L2
end
namespace SS
open PySem PySem.SetTable
abbrev Ris (xs:Array Nat):Prop:=xs.toList.Pairwise (· < ·)
theorem jCT {xs:Array Nat}(h:Ris xs){a b:Nat}(hab:a<b)(hb:b<xs.size):xs.getD a 0<xs.getD b 0:=by
 have h1:a<xs.size:=eM hab hb
 have:=b9.mp h a b (by simpa using h1) (by simpa using hb) hab
 simpa [Array.getD,h1,hb] using this
theorem jTP {xs:Array Nat}{j:Nat}(hr:Ris xs):∀ (fuel lo hi:Nat),hi - lo<=fuel->lo<=hi->hi<=xs.size->(∀ a,a<lo->xs.getD a 0<j)->(∀ a,hi<=a->a<xs.size->j<=xs.getD a 0)->
  (below.go xs j fuel lo hi<=xs.size/\(∀ a,a<below.go xs j fuel lo hi->xs.getD a 0<j)/\(∀ a,below.go xs j fuel lo hi<=a->a<xs.size->j<=xs.getD a 0)):=by
 intro fuel
 induction fuel with
 | zero=>
  intro lo hi h1 h2 h3 h4 h5
  have e:lo=hi:=by lia
  subst e
  exact⟨h3,h4,h5⟩
 | succ fuel ih=>
  intro lo hi h1 h2 h3 h4 h5
  unfold below.go
  by_cases hlt:lo<hi
  ·rw[ar hlt]
   have hm:(lo+hi) / 2<xs.size:=by lia
   have e:xs.getD ((lo+hi) / 2) j=xs.getD ((lo+hi) / 2) 0:=by simp [Array.getD,hm]
   dsimp only
   rw[e]
   by_cases hc:xs.getD ((lo+hi) / 2) 0<j
   ·rw[ar hc]
    refine ih _ _ (by lia) (by lia) h3 (fun a ha=>?_) h5
    by_cases e2:a=(lo+hi) / 2
    ·rw[e2]; exact hc
    ·exact eM (jCT hr (by lia) hm) hc
   ·rw[ao hc]
    refine ih _ _ (by lia) (by lia) (by lia) h4 (fun a ha hs=>?_)
    by_cases e2:a=(lo+hi) / 2
    ·rw[e2]; lia
    ·have:=jCT hr (show (lo+hi) / 2<a by lia) hs
     lia
  ·rw[ao hlt]
   have e:lo=hi:=by lia
   subst e
   exact⟨h3,h4,h5⟩
theorem jFM {xs:Array Nat}(hr:Ris xs)(j:Nat):below xs j<=xs.size/\(∀ a,a<below xs j->xs.getD a 0<j)/\(∀ a,below xs j<=a->a<xs.size->j<=xs.getD a 0):=
 jTP hr xs.size 0 xs.size (by lia) (bi _) (am _) (fun a h=>absurd h (eQ _)) (fun a h1 h2=>absurd h2 (by lia))
theorem jGP {xs:Array Nat}(hr:Ris xs){j i:Nat}(hi:i<=xs.size)(h1:∀ a,a<i->xs.getD a 0<j)(h2:∀ a,i<=a->a<xs.size->j<=xs.getD a 0):below xs j=i:=by
 obtain⟨b1,b2,b3⟩:=jFM hr j
 rcases iB (below xs j) i with h | h | h
 ·have q1:=h1 _ h
  have q2:=b3 _ (am _) (by lia)
  lia
 ·exact h
 ·have q1:=b2 _ h
  have q2:=h2 _ (am _) (by lia)
  lia
theorem jAG {α:Type}(xs:Array α)(p:Nat)(x:α):(insertAt xs p x).toList=xs.toList.take p++x::xs.toList.drop p:=by
 unfold insertAt
 simp [eU,List.extract]
 rw[bP (by simp)]
theorem jCB {α:Type}(xs:Array α)(p:Nat)(x:α):(insertAt xs p x).size=xs.size+1:=by
 rw[<- aL,jAG]
 simp
 lia
theorem jL0 {xs:Array Nat}{j:Nat}(hr:Ris xs)(hj:j∉xs.toList):Ris (insertAt xs (below xs j) j):=by
 obtain⟨b1,b2,b3⟩:=jFM hr j
 show (insertAt xs (below xs j) j).toList.Pairwise (· < ·)
 rw[jAG,cO,cM]
 have hl:∀ a∈xs.toList.take (below xs j),a<j:=by
  intro a ha
  obtain⟨i,hi,e⟩:=List.mem_take_iff_getElem.mp ha
  have:=b2 i (by lia)
  have hs:i<xs.size:=by simp at hi; lia
  simp [Array.getD,hs] at this
  simp at e
  lia
 have hg:∀ a∈xs.toList.drop (below xs j),j<a:=by
  intro a ha
  obtain⟨i,hi,e⟩:=List.mem_drop_iff_getElem.mp ha
  have hs:i+below xs j<xs.size:=by simpa [lj] using hi
  have:=b3 (i+below xs j) (by lia) hs
  simp [Array.getD,hs] at this
  have e':xs[i+below xs j]=a:=by simpa [lj] using e
  have hne:a≠j:=by
   intro z
   apply hj
   rw[<- z]
   exact cP ha
  lia
 refine⟨hr.sublist (dY _ _),⟨hg,hr.sublist (iC _ _)⟩,?_⟩
 intro a ha b hb
 rcases aF.mp hb with rfl | hb
 ·exact hl a ha
 ·exact eM (hl a ha) (hg b hb)
theorem jEB {t:SetTable}{j:Nat}(hr:Ris t.place)(h:t.slot j= .empty):j∉t.place.toList:=by
 intro hm
 obtain⟨i,hi,e⟩:=eF hm
 have hs:i<t.place.size:=by simpa using hi
 have e0:t.place[i]=j:=by simpa using e
 have eb:below t.place j=i:=by
  refine jGP hr (cY hs) (fun a ha=>?_) (fun a h1 h2=>?_)
  ·have:=jCT hr ha hs
   simp only [Array.getD,hs] at this ⊢
   simp [e0] at this ⊢
   exact this
  ·by_cases e2:a=i
   ·subst e2
    simp [Array.getD,hs,e0]
   ·have:=jCT hr (show i<a by lia) h2
    simp only [Array.getD,hs] at this
    simp [e0] at this
    simp [Array.getD]
    lia
 unfold SetTable.slot at h
 dsimp only at h
 rw[eb] at h
 rw[ar (by simp [hs,e0])] at h
 cases h
theorem jJ0 (j:Nat):has #[] j=false:=by
 unfold has
 simp
theorem jJW {t:SetTable}(hd:t.dummies=#[]){f:Nat->Int}{h:Int} :∀ (fuel:Nat) (p:Probe) (m:Met),p.dummy=none->probe.go t f h fuel p=some m->
  (∃ j,m= .empty j none/\t.slot j= .empty)\/(∃ j i n,m= .candidate j i n):=by
 intro fuel
 induction fuel with
 | zero=>intro p m _ e; simp [probe.go] at e
 | succ fuel ih=>
  intro p m hp e
  unfold probe.go at e
  cases hs:t.slot p.j with
  | empty=>
   rw[hs] at e
   simp only [gf] at e
   subst e
   exact .inl ⟨p.j,by rw[hp],hs⟩
  | dummy=>
   unfold SetTable.slot at hs
   dsimp only at hs
   rw[hd,jJ0] at hs
   split at hs
   ·cases hs
   ·simp at hs
  | live i=>
   rw[hs] at e
   dsimp only at e
   split at e
   ·simp only [gf] at e
    subst e
    exact .inr ⟨_,_,_,rfl⟩
   ·refine ih _ _ ?_ e
    unfold advance
    split
    ·exact hp
    ·exact hp
theorem jGJ {t:SetTable}(hr:Ris t.place)(hd:t.dummies=#[]){h:Int}{slot:Nat}{d:Bool}(e:t.freeSlot h=some (slot,d)):slot∉t.place.toList:=by
 unfold SetTable.freeSlot at e
 split at e
 ·rename_i j dummy hp
  simp only [gf,Prod.mk.injEq] at e
  have hp':probe.go t (fun _=>h+1) h (10*turns t.mask) (t.probeStart h)=some (.empty j dummy):=hp
  rcases jJW hd _ _ _ (by unfold probeStart; rfl) hp' with ⟨j',em,hs⟩ | ⟨_,_,_,em⟩
  ·cases em
   have:slot=j:=by rw[<- e.1]; rfl
   rw[this]
   exact jEB hr hs
  ·cases em
 ·cases e
theorem jKZ {t:SetTable}{j:Nat}(hd:t.dummies=#[])(h:t.slot j≠ .empty):(∃ i,t.slot j= .live i)/\j∈t.place.toList:=by
 unfold SetTable.slot at h ⊢
 dsimp only at h ⊢
 by_cases q:(t.place[below t.place j]?==some j)=true
 ·rw[ar q]
  refine⟨⟨_,rfl⟩,?_⟩
  have e:t.place[below t.place j]?=some j:=eq_of_beq q
  obtain⟨hi,e⟩:=Array.getElem?_eq_some_iff.mp e
  rw[<- e]
  exact Array.getElem_mem_toList hi
 ·rw[ao q,hd,jJ0] at h
  exact absurd rfl h
theorem run7 (i:Nat):runEnd 7 i=i:=by unfold runEnd; rw[ao (by lia)]
theorem jMF {t:SetTable}(hm:t.mask=7)(hd:t.dummies=#[]){h:Int} :∀ (k fuel:Nat) (p:Probe),p.j=p.i->p.more=0->p.i<8->p.perturb<32->k<=fuel->
  probe.go t (fun _=>h+1) h fuel p=none->∀ r,r<k->Nat.repeat (fun i=>(i*5+1) % 8) r p.i∈t.place.toList:=by
 intro k
 induction k with
 | zero=>intro fuel p _ _ _ _ _ _ r hr; lia
 | succ k ih=>
  intro fuel p h1 h2 h3 h4 h5 h6 r hr
  obtain⟨f,rfl⟩:∃ f,fuel=f+1:=⟨fuel - 1,by lia⟩
  unfold probe.go at h6
  by_cases he:t.slot p.j= .empty
  ·rw[he] at h6; cases h6
  ·obtain⟨⟨i,hl⟩,hmem⟩:=jKZ hd he
   rw[hl] at h6
   dsimp only at h6
   rw[ao (by simp; lia)] at h6
   have hz:p.perturb / 32=0:=by lia
   have ea:t.advance p= { p with j:=(p.i*5+1) % 8,more:=0,i:=(p.i*5+1) % 8,perturb:=0} :=by
    unfold advance leap
    rw[ao (by lia),hm,hz]
    simp [run7]
   rw[ea] at h6
   cases r with
   | zero=>show p.i∈_; rw[<- h1]; exact hmem
   | succ r=>
    have q:=ih f _ (by rfl) (by rfl) (by show (p.i*5+1) % 8<8; lia) (by show 0<32; lia) (by lia) h6 r (by lia)
    have e:∀ (r i:Nat),Nat.repeat (fun i=>(i*5+1) % 8) (r+1) i=Nat.repeat (fun i=>(i*5+1) % 8) r ((i*5+1) % 8):=by
     intro r
     induction r with
     | zero=>intro i; rfl
     | succ r ihr=>
      intro i
      show ((Nat.repeat _ (r+1) i)*5+1) % 8=((Nat.repeat _ r ((i*5+1) % 8))*5+1) % 8
      rw[ihr]
    rw[e]
    exact q
theorem jP0:∀ i,i<8->∀ j,j<8->∃ r,r<8/\Nat.repeat (fun i=>(i*5+1) % 8) r i=j:=by decide+kernel
theorem jGI {t:SetTable}(hm:t.mask=7)(hd:t.dummies=#[])(hz:t.place.size<8){h:Int}(h0:0<=h)(h1:h<32):∃ q,t.freeSlot h=some q:=by
 unfold SetTable.freeSlot
 have hb:bits h<32:=by unfold bits; lia
 have hps:t.probeStart h= { j:=bits h % 8,more:=0,i:=bits h % 8,perturb:=bits h,dummy:=none} :=by
  unfold probeStart
  rw[hm]
  simp [run7]
 cases e:t.probe (fun _=>h+1) h (t.probeStart h) with
 | none=>
  exfalso
  have e':probe.go t (fun _=>h+1) h (10*turns t.mask) (t.probeStart h)=none:=e
  rw[hps] at e'
  have q:=jMF hm hd 8 _ _ (by rfl) (by rfl) (by show bits h % 8<8; lia) (by exact hb) (by rw[hm]; decide) e'
  have sub:List.range 8 ⊆ t.place.toList:=by
   intro j hj
   obtain⟨r,hr,er⟩:=jP0 (bits h % 8) (by lia) j (bG.mp hj)
   rw[<- er]
   exact q r hr
  have:=List.Nodup.length_le_of_subset (List.nodup_range (n:=8)) sub
  simp at this
  lia
 | some m=>
  rcases jJW hd _ _ _ (by rw[hps]) (show probe.go t (fun _=>h+1) h (10*turns t.mask) (t.probeStart h)=some m from e) with ⟨j,rfl,_⟩ | ⟨j,i,n,rfl⟩
  ·exact⟨_,rfl⟩
  ·exfalso
   have nc:∀ (fuel:Nat) (p:Probe) (j i:Nat) (n:Probe),probe.go t (fun _=>h+1) h fuel p≠some (.candidate j i n):=by
    intro fuel
    induction fuel with
    | zero=>intro p j i n; simp [probe.go]
    | succ f ih=>
     intro p j i n
     unfold probe.go
     cases t.slot p.j with
     | empty=>simp
     | dummy=>exact ih _ _ _ _
     | live i'=>
      dsimp only
      rw[ao (by simp; lia)]
      exact ih _ _ _ _
   exact nc _ _ _ _ _ e
structure Tab (t:SetTable)(n:Nat)(led:Bool):Prop where
 ris:Ris t.place
 sz:t.place.size=n
 dm:t.dummies=#[]
 msk:t.mask=7
 pl:t.plain=true
 ld:t.led=led
theorem Tab.fits {t:SetTable}{n:Nat}{led:Bool}(T:Tab t n led)(hn:n<=4):t.fits n=true:=by
 unfold SetTable.fits fill
 simp [T.sz,T.dm,T.msk]
 lia
theorem Tab.full {t:SetTable}{n:Nat}{led:Bool}(T:Tab t n led)(hn:n<=4):t.tooFull=false:=by
 unfold tooFull fill
 simp [T.sz,T.dm,T.msk]
 lia
theorem jLX (led:Bool):Tab (fresh 0 0 led) 0 led:=⟨List.Pairwise.nil,rfl,rfl,rfl,rfl,rfl⟩
theorem jLB {t:SetTable}{n:Nat}{led:Bool}(T:Tab t n led)(hn:n+1<=4)(es:Array (Int×Value))(he:es.size=n){h:Int}(h0:0<=h)(h1:h<32)(x:Value):
  Tab (layNew t es h x).2.1 (n+1) led/\∃ p,(layNew t es h x).1.toList=es.toList.take p++(h,x)::es.toList.drop p:=by
 obtain⟨⟨slot,d⟩,hf⟩:=jGI T.msk T.dm (by rw[T.sz]; lia) h0 h1
 unfold layNew
 rw[hf]
 dsimp only [SetTable.put]
 have hnm:=jGJ T.ris T.dm hf
 have T2:Tab { t with place:=insertAt t.place (below t.place slot) slot,dummies:=if has t.dummies slot then eraseAt t.dummies (below t.dummies slot) else t.dummies} (n+1) led:=by
  refine⟨jL0 T.ris hnm,by rw[jCB,T.sz],?_,T.msk,T.pl,T.ld⟩
  rw[T.dm,jJ0]
  rfl
 refine⟨?_,_,jAG _ _ _⟩
 unfold SetTable.orStandIn
 rw[jCB,he,T2.fits hn]
 exact T2
def jJR (xs:Array Nat):Nat->Nat
 | 0=>0
 | i+1=>xs.getD i 0+1
theorem jI8 {xs:Array Nat}(hr:Ris xs){i:Nat}(hi:i<=xs.size):below xs (jJR xs i)=i:=by
 cases i with
 | zero=>exact jGP hr (bi _) (fun a h=>absurd h (eQ _)) (fun a _ _=>bi _)
 | succ i=>
  refine jGP hr hi (fun a ha=>?_) (fun a h1 h2=>?_)
  ·show _<xs.getD i 0+1
   by_cases e:a=i
   ·rw[e]; lia
   ·have:=jCT hr (show a<i by lia) (show i<xs.size by lia)
    lia
  ·show xs.getD i 0+1<=_
   exact jCT hr (show i<a by lia) h2
theorem jLH {α:Type}{l:List α}{i:Nat}(h:i<l.length):(l[i]::l.eraseIdx i).Perm l:=by
 rw[List.eraseIdx_eq_take_drop_succ]
 have e:l=l.take i++l[i]::l.drop (i+1):=by rw[<- List.drop_eq_getElem_cons h,bH]
 conv=>rhs; rw[e]
 exact List.perm_middle.symm
theorem jSJ {α:Type}(next:Nat->Nat):∀ (fuel k:Nat) (left:List α) (out:Array α),fuel=left.length->(pickOrder.go next fuel k left out).toList.Perm (out.toList++left):=by
 intro fuel
 induction fuel with
 | zero=>
  intro k left out h
  have:left=[]:=iV.mp h.symm
  subst this
  simp [pickOrder.go]
 | succ f ih=>
  intro k left out h
  have hl:next k % left.length<left.length:=Nat.mod_lt _ (by lia)
  unfold pickOrder.go
  rw[ay hl]
  dsimp only
  refine(ih _ _ _ (by rw[List.length_eraseIdx_of_lt hl]; lia)).trans ?_
  rw[d0,aY]
  exact df _ (jLH hl)
theorem jH8 {α:Type}(next:Nat->Nat)(xs:Array α):(pickOrder next xs).toList.Perm xs.toList:=by
 unfold pickOrder
 have:=jSJ next xs.size 0 xs.toList #[] (by simp)
 simpa using this
end SS
namespace SS
open PySem
abbrev ledW (w:World):Bool:=!(w.params.followText "set-order")
def El (e:Int×Value)(k:Int):Prop:=e.1=hashInt k/\∃ t,e.2= .int k t
theorem jC1 {α β:Type}{F:α->β->Prop} :∀ {l:List α}{r:List β},Paired F l r->∀ a∈l,∃ b∈r,F a b
 | _,_, .nil=>fun a h=>by cases h
 | _,_, .cons f t=>fun a h=>by
  rcases aF.mp h with rfl | h
  ·exact⟨_,ai,f⟩
  ·obtain⟨b,hb,q⟩:=jC1 t a h
   exact⟨b,ah _ hb,q⟩
theorem jDD {α β:Type}{F:α->β->Prop} :∀ {l:List α}{r:List β},Paired F l r->∀ b∈r,∃ a∈l,F a b
 | _,_, .nil=>fun a h=>by cases h
 | _,_, .cons f t=>fun b h=>by
  rcases aF.mp h with rfl | h
  ·exact⟨_,ai,f⟩
  ·obtain⟨a,ha,q⟩:=jDD t b h
   exact⟨a,ah _ ha,q⟩
theorem jF8 {α β:Type}{F:α->β->Prop}{a:α}{b:β}(f:F a b):∀ {l:List α}{r:List β}(p:Nat),Paired F l r->Paired F (l.take p++a::l.drop p) (r.take p++b::r.drop p)
 | _,_,0,q=>by simpa using Paired.cons f q
 | _,_,p+1, .nil=>by simpa using Paired.cons f .nil
 | _,_,p+1, .cons g t=>by
  simp only [List.take_succ_cons,List.drop_succ_cons,List.cons_append]
  exact .cons g (jF8 f p t)
theorem jSA {α:Type}(l:List α)(p:Nat)(x z:α):z∈l.take p++x::l.drop p↔z=x\/z∈l:=by
 conv=>rhs; rw[<- bH p l]
 simp only [aM,aF]
 constructor
 ·rintro (h | h | h)
  ·exact .inr (.inl h)
  ·exact .inl h
  ·exact .inr (.inr h)
 ·rintro (h | h | h)
  ·exact .inr (.inl h)
  ·exact .inl h
  ·exact .inr (.inr h)
theorem jFZ {α:Type}(l:List α)(p:Nat)(x:α):(l.take p++x::l.drop p).Perm (x::l):=by
 have h:(l.take p++x::l.drop p).Perm (x::(l.take p++l.drop p)):=List.perm_middle
 rw[bH] at h
 exact h
structure SetG (w:World)(h:Heap)(a:Addr)(ks:List Int):Prop where
 ex:∃ o es ep t,h.get? a=some o/\o.ExactSet/\o.data= .set es ep t/\Paired El es.toList ks/\Tab t es.size (ledW w)
 nd:ks.Nodup
 len:ks.length<=4
variable {prog:Program}{w:World}{A:Around}{E:Value->Shared->Prop}{s:Shared}{a:Addr}
section
variable {ks:List Int}{k:Int}{tk:Tok}
theorem elems {es:List (Int×Value)}(h:Paired El es ks):ElemsOf (intKind prog w) es:=fun e he=>by
 obtain⟨k,_,h1,t,h2⟩:=jC1 h e he
 rw[h2]
 exact⟨⟨k,by show Value.isInt k (.int k t)=true; simp [Value.isInt],h1⟩,rfl⟩
theorem SetG.at {h h':Heap}(S:SetG w h a ks)(e:∀ o,h.get? a=some o->h'.get? a=some o):SetG w h' a ks:=by
 obtain⟨⟨o,es,ep,t,ho,r⟩,nd,len⟩:=S
 exact⟨⟨o,es,ep,t,e _ ho,r⟩,nd,len⟩
theorem jCJ (k0:0<=k)(k1:k<32):hashInt k=k:=by
 obtain⟨n,rfl⟩:=Int.eq_ofNat_of_zero_le k0
 have e:∀ n:Nat,n<32->hashInt (n:Int)=(n:Int):=by decide+kernel
 exact e n (by lia)
theorem jW9 {Q:Bool->Shared->Prop}(S:SetG w s.heap a ks)(hl:ks.length+1<=4)(k0:0<=k)(k1:k<32)
  (h:∀ b h' ks',Heap.SameBut a s.heap h'->SetG w h' a ks'->(∀ z,z∈ks'↔z=k\/z∈ks)->ks'.length<=ks.length+1->Q b { s with heap:=h'}):
  wpAny (model prog w) A (setAddHashed a (.int k tk) (hashInt k)) Q E s:=by
 obtain⟨o,es,ep,t,ho,hex,hd,hp,T⟩:=id S.ex
 have hn:es.size=ks.length:=by rw[<- aL]; exact fg hp
 have hf:=T.fits (by lia)
 have hel:ElemsOf (intKind prog w) es.toList:=elems hp
 have hb:es.size<scanBound:=by unfold scanBound; lia
 have hi:∀ (j:Int) (t:Tok),Value.isInt k (.int j t)=true->j=k:=fun j t e=>by simpa [Value.isInt] using e
 unfold setAddHashed setAddHashedIn
 refine bS (ae (dH ho hd hf ?_))
 dsimp only
 rw[byScan_of (knd:=intKind prog w) rfl hb hel,ar rfl]
 unfold setAddByScan
 refine ae (ae (dj (ae ?_)))
 refine wpAny_setScan_of (knd:=intKind prog w) (k:=k) (by show Value.isInt k (.int k tk)=true; simp [Value.isInt]) ho hd hf hel ?_
 have es0:s= { s with heap:=s.heap} :=by cases s; rfl
 cases hr:List.findIdx? (fun e=>(intKind prog w).is k e.2) es.toList with
 | some j=>
  obtain⟨hj,hpj,_⟩:=List.findIdx?_eq_some_iff_getElem.mp hr
  obtain⟨k',hk',_,t',e'⟩:=jC1 hp _ (cQ hj)
  have hkk:k'=k:=hi k' t' (by rw[<- e']; exact hpj)
  subst hkk
  refine ak (ak ?_)
  rw[es0]
  exact h false s.heap ks (Heap.SameBut.refl a s.heap) S (fun z=>⟨.inr,fun q=>q.elim (fun e=>e ▸ hk') id⟩) (by lia)
 | none=>
  have hnk:k∉ks:=fun hm=>by
   obtain⟨e,he,_,t',e'⟩:=jDD hp k hm
   have q:=List.findIdx?_eq_none_iff.mp hr e he
   rw[e'] at q
   have q':Value.isInt k (.int k t')=false:=q
   simp [Value.isInt] at q'
  obtain⟨T1,p,hp1⟩:=jLB T (by lia) es rfl (h:=hashInt k) (by rw[jCJ k0 k1]; exact k0) (by rw[jCJ k0 k1]; exact k1) (.int k tk)
  dsimp only
  show wpAny _ A (match layNew t es (hashInt k) (Value.int k tk) with | (es,t,wasDummy,gave)=>_) _ E s
  generalize layNew t es (hashInt k) (Value.int k tk)=L at T1 hp1 ⊢
  obtain⟨es1,t1,wd,gv⟩:=L
  dsimp only at T1 hp1 ⊢
  have hp2:Paired El es1.toList (ks.take p++k::ks.drop p):=by
   rw[hp1]
   exact jF8 ⟨rfl,tk,rfl⟩ p hp
  have hz1:es1.size=es.size+1:=by
   rw[<- aL,hp1,(jFZ es.toList p (hashInt k,Value.int k tk)).length_eq]
   simp
  have hlen:(ks.take p++k::ks.drop p).length=ks.length+1:=(jFZ ks p k).length_eq
  have T1':Tab t1 es1.size (ledW w):=by rw[hz1]; exact T1
  have hg:(s.heap.update a (Obj.putSet es1 t1)).get? a=some { o with data:= .set es1 (ep+1) t1} :=by
   have q:=dO (Obj.putSet es1 t1) ho (by rw[putSet_of es1 t1 hd]; rfl)
   rw[putSet_of es1 t1 hd] at q
   exact q
  have fin:Q true { s with heap:=s.heap.update a (Obj.putSet es1 t1)} :=
   h true _ _ (gZ ..) ⟨⟨_,es1,ep+1,t1,hg,hex,rfl,hp2,T1'⟩,(jFZ ks p k).nodup_iff.mpr (cE.mpr ⟨hnk,S.nd⟩),by lia⟩ (fun z=>jSA ks p k z) (by lia)
  have hfull:t1.tooFull=false:=T1'.full (by lia)
  refine ae (show wpAny _ A (match gv with | true=>rule "set.scan.the-table-gave-way" | false=>pure ()) _ E s from ?_)
  have hzl:es1.size<=sizeLine:=by rw[hz1,show sizeLine=2 ^ 24 from rfl]; lia
  cases gv with
  | true=>
   refine dj ?_
   split
   all_goals
    refine ae (show wpAny _ A (pure true:Sem Bool) _ E s from ak ?_)
    simp only [kf]
    refine ae (wpAny_storeSet_of ho hd ?_ hzl)
    rw[hfull,dw,ao aq]
    exact ak (ak fin)
  | false=>
   refine ak ?_
   split
   all_goals
    refine ae (show wpAny _ A (pure true:Sem Bool) _ E s from ak ?_)
    simp only [kf]
    refine ae (wpAny_storeSet_of ho hd ?_ hzl)
    rw[hfull,dw,ao aq]
    exact ak (ak fin)
end
theorem jBY:entryFor table "set.update.loop" =some Builtin.«set.update.loop»:=entryFor_of_fast (by kernel_rfl)
theorem jAL:plainId "set.update.loop" =true:=by decide+kernel
variable {I:Addr}
section
variable {R:Result->Shared->Prop}{fp wr:List Addr}{n:Nat}{P:Nat->Value->Prop}{St:Nat->Shared->Prop}
theorem jP9 (W:WalksS prog w A.in1 I fp wr (fun a b=>b=a) n P St)(S:Addr)(hSf:S∉fp)(val:Nat->Int)(hval:∀ i v,P i v->∃ t,v= .int (val i) t)(hv:∀ i,i<n->0<=val i/\val i<32)(hn:n<=4):
  ∀ (k i:Nat) (s:Shared) (ks:List Int),n - i=k->i<=n->St i s->SetG w s.heap S ks->ks.length<=i->(∀ z,z∈ks↔∃ j,j<i/\val j=z)->
   (∀ s' ks',Moved (S::wr) (fun a b=>b=a) s s'->SetG w s'.heap S ks'->(∀ z,z∈ks'↔∃ j,j<n/\val j=z)->R (.ok (.ret .none)) s')->
   codeAny (model prog w) A (.builtin "set.update.loop" ⟨[.ref S, .ref I],[]⟩) R s:=by
 have hSw:S∉wr:=fun h=>hSf (W.sub _ h)
 have sub1:∀ b∈wr,b∈S::wr:=fun b hb=>ah _ hb
 intro k
 induction k with
 | zero=>
  intro i s ks hk hi hst hS hl hm hR
  obtain rfl:i=n:=by lia
  refine cz jBY ?_
  rw[cr jAL _]
  show wpAny _ A.in1 (pyNext (.ref I) >>= _) _ _ s
  refine ae (W.done s _ _ hst fun s' mv=>?_)
  show wpAny _ A.in1 (ret Value.none) _ _ s'
  exact ak (hR s' ks (mv.mono sub1) (hS.at fun o e=>mv.heap S o hSw e) hm)
 | succ k ih=>
  intro i s ks hk hi hst hS hl hm hR
  have hlt:i<n:=by lia
  refine cz jBY ?_
  rw[cr jAL _]
  show wpAny _ A.in1 (pyNext (.ref I) >>= _) _ _ s
  refine ae (W.item i s _ _ hlt hst fun v s' hP hst' mv=>?_)
  obtain⟨t,rfl⟩:=hval i v hP
  have hS':=hS.at (h':=s'.heap) fun o e=>mv.heap S o hSw e
  show wpAny _ A.in1 (holding [Value.int (val i) t] (setAdd S (.int (val i) t)) >>= _) _ _ s'
  refine ae (bS ?_)
  unfold setAdd
  refine bS (ae (wpAny_pyHash_int ?_))
  refine jW9 (s:= { s' with toks:=s'.toks+1}) hS' (by lia) (hv i hlt).1 (hv i hlt).2 fun b h' ks' sb hS2 hm2 hl2=>?_
  refine ak ⟨eS jAL _,ih (i+1) _ ks' (by lia) hlt (W.frame _ s' _ _ hst' (dy _) fun b hb o e=>?_) hS2 (by lia) (fun z=>?_) fun s'' ks'' mv2 hS3 hm3=>?_⟩
  ·rw[sb.2 b (fun h:b=S=>hSf (by rw[<- h]; exact hb))]
   exact e
  ·rw[hm2,hm]
   constructor
   ·rintro (h | ⟨j,hj,e⟩)
    ·exact⟨i,by lia,h.symm⟩
    ·exact⟨j,by lia,e⟩
   ·rintro ⟨j,hj,e⟩
    by_cases hji:j=i
    ·exact .inl (by rw[<- e,hji])
    ·exact .inr ⟨j,by lia,e⟩
  ·refine hR s'' ks'' (Moved.trans W.gtrans ((mv.mono sub1).then_heap (dy _) fun b o hb e=>?_) mv2) hS3 hm3
   rw[sb.2 b (fun h:b=S=>hb (by rw[h]; exact ai))]
   exact e
end
section
theorem jTB (a:Value){Q:Value->Shared->Prop}
  (h:Q (.ref s.heap.objs.size) { s with heap:=s.heap.push { cls:= .type "set",dict:=none,data:= .set #[] 0 (.fresh 0 0 (ledW w))}}):
  codeAny (model prog w) A (.call (.builtin "set.__new__") ⟨[.type "set",a],[]⟩) (wants Q E) s:=by
 refine codeAny_of_tree (show wpAny _ A.in1 (do checkBuiltinCall "set.__new__" ⟨[.type "set",a],[]⟩; again (.builtin "set.__new__" ⟨[.type "set",a],[]⟩)) _ _ s from ?_)
 refine ae (wpAny_of_eq (F.newCall_set_1 a) (ak ⟨eS F.plain_set_new _,cz F.entry_set_new ?_⟩))
 rw[cr F.plain_set_new _]
 unfold Builtin.«set.__new__» Builtin.Frozenset.newClass
 have q:=sub_set_self
 obtain⟨hp,g,d,tk,os⟩:=s
 dsimp only
 wp_walk
 refine eV (ak ?_)
 dsimp only
 simp only [newObj]
 exact ae (wpAny_alloc (ak (ak h)))
set_option maxHeartbeats 3200000 in
theorem set_of_list {l:Addr}{items:Array Value}{ns:List Int}{Q:Value->Shared->Prop}(hh:A.handled=none)(hl:s.heap.IsList l items)(hi:PyProof.Rows.IntsAre items.toList ns)
  (hn:items.size<=4) (hv:∀ z∈ns,0<=z/\z<32)
  (h:∀ (h':Heap) (tk:Nat) (ks:List Int),SetG w h' s.heap.objs.size ks->(∀ z,z∈ks↔z∈ns)->(∀ b o,s.heap.get? b=some o->h'.get? b=some o)->Q (.ref s.heap.objs.size) { s with heap:=h',toks:=tk}):
  wpAny (model prog w) A (call (.type "set") [.ref l]) Q E s:=by
 obtain⟨c,tl,hmro⟩:=F.called_set.mro
 have hmade:=F.called_set.made
 have hsub:=F.called_set.sub
 have g1:=F.called_set.notType
 have g2:=F.called_set.canCreate
 have g3:=F.typeCall_set_1 (.ref l)
 refine io (codeAny_of_tree (show wpAny _ _ (callAny (.type "set") _) _ _ _ from ?_))
 refine ak ⟨Code.quiet_builtin _ (by decide+kernel),cz F.entry_type_call ?_⟩
 rw[Around.under_plain (weight_type_call_type "set" [.ref l] []) rfl]
 repeat (any_goals (first | assumption | wp_step))
 have hlen:items.size=ns.length:=by rw[<- aL]; exact hi.length
 refine dN (jTB (.ref l) (E:=E) (Q:=fun obj z=>obj= .ref s.heap.objs.size/\z= { s with heap:=s.heap.push { cls:= .type "set",dict:=none,data:= .set #[] 0 (.fresh 0 0 (ledW w))}}) ⟨rfl,rfl⟩) fun r z hr=>?_
 cases r with
 | error e=>exact hr
 | ok fl=>
  cases fl with
  | ret obj=>
   obtain⟨rfl,rfl⟩:=hr
   generalize hO:({ cls:= .type "set",dict:=none,data:= .set #[] 0 (.fresh 0 0 (ledW w))} :Obj)=oS
   have hS:(s.heap.push oS).get? s.heap.objs.size=some oS:=aA _ (by rw[<- hO]; rfl)
   have hT:Shared.TypeIs { s with heap:=s.heap.push oS} (.ref s.heap.objs.size) "set" :=⟨_,hS,by rw[<- hO]⟩
   have hli:=F.called_set.init.lookup
   have hbi:=F.called_set.init.bind (.ref s.heap.objs.size)
   repeat (any_goals (first | assumption | wp_step))
   refine dN (codeAny_call_builtin (R:=wants (fun r z2=>r= .none/\∃ h' tk ks,z2= { s with heap:=h',toks:=tk} /\SetG w h' s.heap.objs.size ks/\(∀ z,z∈ks↔z∈ns)/\(∀ b o,s.heap.get? b=some o->h'.get? b=some o)) E)
    F.called_set.init.plain F.entry_set_init (check_set_init_1 hT ?_)) fun r2 z2 hr2=>?_
   ·obtain⟨ol,hol,hcl,nl,hdl⟩:=hl
    obtain⟨ocls,odict,odata,oslots⟩:=ol
    simp only at hcl hdl
    subst hcl; subst hdl
    have hol':(s.heap.push oS).get? l=some { cls:= .type "list",dict:=odict,data:= .seq items nl,slots:=oslots} :=ag _ hol
    have y1:=F.sub_list_set
    have y2:=F.sub_list_frozenset
    have y3:(Value.type "list" ==Value.type "dict")=false:=by decide
    have hl1:(s.heap.push oS).IsList l items:=⟨_,hol',rfl,nl,rfl⟩
    subst hO
    unfold Builtin.«set.__init__» noKeywords Builtin.Frozenset.updateFrom
    generalize hPI:pyIter=PI
    wp_walk
    subst hPI
    refine dG hl1 (ae (ir ?_))
    have hlS:l<s.heap.objs.size:=aE hol
    have hz1:(s.heap.push { cls:= .type "set",dict:=none,data:= .set #[] 0 (.fresh 0 0 (ledW w))}).objs.size=s.heap.objs.size+1:=da _ _
    have nI:l≠(s.heap.push { cls:= .type "set",dict:=none,data:= .set #[] 0 (.fresh 0 0 (ledW w))}).objs.size:=by
     rw[hz1]
     exact aQ (cC hlS)
    have nS:s.heap.objs.size∉ [(s.heap.push { cls:= .type "set",dict:=none,data:= .set #[] 0 (.fresh 0 0 (ledW w))}).objs.size,l]:=by
     rw[hz1]
     simp only [aF,bC,dh,la]
     exact⟨aQ (gG _),cK hlS⟩
    have hget:((s.heap.push { cls:= .type "set",dict:=none,data:= .set #[] 0 (.fresh 0 0 (ledW w))}).push { cls:= .type "list_iterator",data:= .fields #[.ref l, .int 0 0]}).get? s.heap.objs.size
      =some { cls:= .type "set",dict:=none,data:= .set #[] 0 (.fresh 0 0 (ledW w))} :=ag _ hS
    refine jP9 ((i6 (by simp [hh]) _ l nI items).toS) s.heap.objs.size nS (fun i=>ns.getD i 0) (fun i v q=>PyProof.Rows.IntsAre.int_at hi i v (by rw[bU]; exact q))
     (fun i q=>hv _ ?_) hn (items.size - 0) 0 _ [] rfl (bi _) ⟨⟨_,aA _ rfl,rfl,rfl⟩,hl1.push _⟩ ⟨⟨_,#[],0,_,hget,⟨rfl,rfl,rfl⟩,rfl, .nil,jLX _⟩,jt,bi _⟩ (am _) (fun z=>⟨fun q=>by(cases q),fun ⟨j,q,_⟩=>absurd q (eQ _)⟩) ?_
    ·have q':i<ns.length:=by rw[<- hlen]; exact q
     simp [List.getD,q']
    ·intro s' ks mv S' hm
     obtain⟨h',g',d',tk',os'⟩:=s'
     have e1:g'=s.gens:=mv.gens
     have e2:d'=s.drawn:=mv.drawn
     have e3:os'=s.os:=mv.os
     subst e1; subst e2; subst e3
     refine ak (ak ⟨rfl,h',tk',ks,rfl,S',fun z=>?_,fun b o e=>?_⟩)
     ·rw[hm]
      constructor
      ·rintro ⟨j,hj,e⟩
       have hj':j<ns.length:=by rw[<- hlen]; exact hj
       rw[<- e]
       simp [List.getD,hj']
      ·intro hz
       obtain⟨j,hj,e⟩:=eF hz
       exact⟨j,by rw[hlen]; exact hj,by simp [List.getD,hj,e]⟩
     ·have hb:=aE e
      refine mv.heap b o ?_ (ag _ (ag _ e))
      rw[hz1]
      simp only [aF,bC,dh,la]
      exact⟨aQ hb,aQ (cC hb)⟩
   ·cases r2 with
    | error e=>exact hr2
    | ok fl2=>
     cases fl2 with
     | ret r=>
      obtain⟨rfl,h',tk,ks,rfl,hS',hm,hk⟩:=hr2
      repeat (any_goals (first | assumption | wp_step))
      exact h _ _ _ hS' hm hk
     | _=>exact hr2.elim
  | _=>exact hr.elim
end
theorem slot_si_next:Slot "set_iterator" "__next__" "set_iterator.__next__" :=
 .of (owner:= "set_iterator") (n:= "__next__") (by
   rw[jg,gB]
   kernel_rfl) (by decide+kernel) (by decide+kernel)
  (by decide+kernel)
  (by first
   | exact .inl (by decide+kernel)
   | exact .inr (by decide+kernel))
  (by
   rw[ju]
   kernel_rfl)
theorem jD8:Slot "set_iterator" "__iter__" "set_iterator.__iter__" :=
 .of (owner:= "set_iterator") (n:= "__iter__") (by
   rw[jg,gB]
   kernel_rfl) (by decide+kernel) (by decide+kernel)
  (by decide+kernel)
  (by first
   | exact .inl (by decide+kernel)
   | exact .inr (by decide+kernel))
  (by
   rw[ju]
   kernel_rfl)
theorem jCL:entryFor table "set_iterator.__next__" =some Builtin.«set_iterator.__next__»:=entryFor_of_tree (by kernel_rfl)
theorem jEX:entryFor table "set.__iter__" =some Builtin.«frozenset.__iter__»:=
 entryFor_alias (id':= "frozenset.__iter__") (by kernel_rfl) rfl (by decide+kernel) (by kernel_rfl)
theorem jGL:entryFor table "set_iterator.__iter__" =some Builtin.«dict_keyiterator.__iter__»:=
 entryFor_alias (id':= "dict_keyiterator.__iter__") (by kernel_rfl) (by first | rfl | decide+kernel | (unfold String.splitOn; simp+decide [String.splitOnAux])) (by decide+kernel)
  (by kernel_rfl)
theorem jDJ (a:Value):argsOk "set_iterator.__next__" ⟨[a],[]⟩:=by unfold argsOk; kernel_rfl
theorem jI9 (a:Value):argsOk "set_iterator.__iter__" ⟨[a],[]⟩:=by unfold argsOk; kernel_rfl
theorem jGR (a:Value):argsOk "set.__iter__" ⟨[a],[]⟩:=by unfold argsOk; kernel_rfl
abbrev byTxt (w:World):Bool:=w.params.followText "set-order"
abbrev IsSI (h:Heap)(I:Addr)(slot i:Nat)(a:Addr)(n ep:Nat):Prop:=
 h.get? I=some { cls:= .type "set_iterator",dict:=none,data:= .fields #[rawInt slot,rawInt i, .ref a,rawInt n,rawInt ep],slots:=#[]}
def qD (w:World)(t:SetTable)(i:Nat):Nat:=if byTxt w=true then 0 else jJR t.place i
def told (w:World)(a:Addr)(ep:Nat)(es:Array (Int×Value)):List Value:=(if byTxt w=true then (pickOrder (w.params.setOrder a ep) es).toList else es.toList).map (·.2)
theorem jAW (w:World)(a:Addr)(ep:Nat)(es:Array (Int×Value)):(told w a ep es).length=es.size:=by
 unfold told
 rw[af]
 split
 ·rw[(jH8 _ es).length_eq]; simp
 ·simp
theorem jLU (w:World)(a:Addr)(ep:Nat)(es:Array (Int×Value)):(told w a ep es).Perm (es.toList.map (·.2)):=by
 unfold told
 split
 ·exact(jH8 _ es).map _
 ·exact .refl _
variable {o:Obj}{es:Array (Int×Value)}{ep:Nat}{t:SetTable}
theorem jN2 {i:Nat}{Q:Option (Value×Nat)->Shared->Prop}(ho:s.heap.get? a=some o)(hd:o.data= .set es ep t)(T:Tab t es.size (ledW w))(hn:es.size<=4)(hi:i<=es.size)
  (h:Q ((told w a ep es)[i]?.map fun v=>(v,qD w t (i+1))) s):wpAny (model prog w) A (setNext a (qD w t i) i ep) Q E s:=by
 unfold setNext
 refine ae (dH ho hd (T.fits hn) ?_)
 dsimp only
 unfold setsByText
 refine ae (ae (eV (ak ?_)))
 show wpAny _ A (if byTxt w=true then _ else _) Q E s
 have hl:=jAW w a ep es
 by_cases hb:byTxt w=true
 ·rw[ar hb,ao (by simp)]
  unfold setWalk
  refine ae (ae (dH ho hd (T.fits hn) ?_))
  dsimp only
  unfold setsByText
  refine ae (ae (eV (ak ?_)))
  show wpAny _ A (if byTxt w=true then _ else _) _ E s
  rw[ar hb]
  refine ae (eV (ak (ak ?_)))
  have e:(told w a ep es)[i]?.map (fun v=>(v,qD w t (i+1)))=(pickOrder (w.params.setOrder a ep) es)[i]?.map (fun e=>(e.snd,qD w t i)):=by
   unfold told qD
   rw[ar hb,ar hb,ar hb,aR,bU,Option.map_map]
   rfl
  rw[e] at h
  exact h
 ·rw[ao hb]
  have hb':byTxt w=false:=by simpa using hb
  have hld:t.led=true:=by rw[T.ld]; show (!byTxt w)=true; rw[hb']; rfl
  show wpAny _ A (if (!t.plain&&decide (es.size>1))=true then _ else _) Q E s
  rw[T.pl,kj,ga,ao aq]
  refine ae ?_
  show wpAny _ A (if (!t.led&&!es.isEmpty)=true then _ else pure ()) _ E s
  rw[hld,kj,ga,ao aq]
  refine ak (ak ?_)
  have eb:SetTable.below t.place (qD w t i)=i:=by
   unfold qD
   rw[ao hb]
   exact jI8 T.ris (by rw[T.sz]; exact hi)
  rw[eb]
  have et:(told w a ep es)[i]?=es[i]?.map (·.2):=by
   unfold told
   rw[ao hb,aR,bU]
  rw[et] at h
  by_cases hlt:i<es.size
  ·have h1:es[i]?=some es[i]:=by simp [hlt]
   have hlt2:i<t.place.size:=by rw[T.sz]; exact hlt
   have h2:t.place[i]?=some t.place[i]:=by simp [hlt2]
   have h3:qD w t (i+1)=t.place[i]+1:=by
    unfold qD jJR
    rw[ao hb]
    simp [Array.getD,hlt2]
   rw[h1,h3] at h
   rw[h1,h2]
   exact h
  ·have h1:es[i]?=none:=by simp; lia
   rw[h1] at h
   rw[h1]
   exact h
theorem jH4 {i:Nat}{v:Value}{Q:Option Value->Shared->Prop}(ho:s.heap.get? a=some o)(hd:o.data= .set es ep t)(T:Tab t es.size (ledW w))(hn:es.size<=4)
  (hit:IsSI s.heap I (qD w t i) i a es.size ep) (hv:(told w a ep es)[i]?=some v)
  (hQ:∀ h',IsSI h' I (qD w t (i+1)) (i+1) a es.size ep->Heap.SameBut I s.heap h'->Q (some v) { s with heap:=h'}):wpAny (model prog w) A (pyNext (.ref I)) Q E s:=by
 have hT:s.TypeIs (.ref I) "set_iterator" :=⟨_,hit,rfl⟩
 have hi:i<es.size:=by
  rw[<- jAW w a ep es]
  exact(aj.mp hv).1
 unfold pyNext
 refine ae (eh (cR (name:=Str.ofString "__next__") hT slot_si_next (cB slot_si_next hT jCL ?_ (jDJ _))))
 unfold Builtin.«set_iterator.__next__»
 refine ae (m:=slotArgs "__next__" 0 _) (ak ?_)
 dsimp only
 unfold fieldsOf
 refine ae (ae (gC hit ?_))
 refine ak ?_
 dsimp only [rawInt]
 unfold setEntries
 refine ae (ae (dH ho hd (T.fits hn) (ak ?_)))
 rw[ao (by simp)]
 simp only [aV]
 refine ae (jN2 ho hd T hn (cY hi) ?_)
 rw[hv]
 dsimp only [Option.map]
 refine ae (cN hit (by simp) fun h1 hit1 sb1=>?_)
 refine ae (cN hit1 (by simp) fun h2 hit2 sb2=>?_)
 refine ak ⟨v,rfl,ak (hQ h2 ?_ (sb1.trans sb2))⟩
 show h2.get? I=_
 rw[hit2]
 simp [rawInt]
theorem jIK {Q:Option Value->Shared->Prop}(hh:A.handled=none)(ho:s.heap.get? a=some o)(hd:o.data= .set es ep t)(T:Tab t es.size (ledW w))(hn:es.size<=4)
  (hit:IsSI s.heap I (qD w t es.size) es.size a es.size ep)
  (hQ:∀ h',Heap.ExtBut I s.heap h'->Q none { s with heap:=h'}):wpAny (model prog w) A (pyNext (.ref I)) Q E s:=by
 have hT:s.TypeIs (.ref I) "set_iterator" :=⟨_,hit,rfl⟩
 unfold pyNext
 refine ae (eh (cR (name:=Str.ofString "__next__") hT slot_si_next (cB slot_si_next hT jCL ?_ (jDJ _))))
 unfold Builtin.«set_iterator.__next__»
 refine ae (m:=slotArgs "__next__" 0 _) (ak ?_)
 dsimp only
 unfold fieldsOf
 refine ae (ae (gC hit ?_))
 refine ak ?_
 dsimp only [rawInt]
 unfold setEntries
 refine ae (ae (dH ho hd (T.fits hn) (ak ?_)))
 rw[ao (by simp)]
 simp only [aV]
 refine ae (jN2 ho hd T hn (am _) ?_)
 rw[di (by rw[jAW]; exact am _)]
 dsimp only [Option.map]
 refine ae (cN hit (by simp) fun h1 hit1 sb1=>?_)
 refine ae ?_
 simp only [newExc,newTuple]
 refine ae (cZ ?_ (by size_fits))
 refine ae (m:=firstArgMember _ _) (wpAny_of_eq (a:=Value.none) (by first | rfl | (simp only [firstArgMember]; rfl)) ?_)
 refine cZ ?_ (by size_fits)
 simp only [raiseNew]
 refine ae (wpAny_handled ?_)
 rw[show A.in1.handled=none from hh]
 refine ae (ak (wpAny_throw ?_))
 refine ae (iW (T:= "StopIteration") (b:=true) ⟨_,aA _ rfl,rfl⟩ isSubtype_stop ?_)
 exact ak (hQ _ ((sb1.extBut.push _).push _))
theorem jS3 {i:Nat}{slot n:Nat}{Q:Value->Shared->Prop}(hit:IsSI s.heap I slot i a n ep)(h:Q (.ref I) s):wpAny (model prog w) A (pyIter (.ref I)) Q E s:=by
 have hT:s.TypeIs (.ref I) "set_iterator" :=⟨_,hit,rfl⟩
 refine wpAny_pyIter_slot hT jD8 (cB jD8 hT jGL ?_ (jI9 _))
 show wpAny _ _ (ret (.ref I)) _ _ s
 exact ak ⟨_,rfl,"set_iterator",_,hT,slot_si_next.lookup,h⟩
theorem jPC {Q:Value->Shared->Prop}(hx:o.ExactSet)(ho:s.heap.get? a=some o)(hd:o.data= .set es ep t)(T:Tab t es.size (ledW w))(hn:es.size<=4)
  (hQ:∀ h',h'.get? s.heap.objs.size=some { cls:= .type "set_iterator",dict:=none,data:= .fields #[rawInt (qD w t 0),rawInt 0, .ref a,rawInt es.size,rawInt ep],slots:=#[]} ->(∀ b u,s.heap.get? b=some u->h'.get? b=some u)->
   h'.objs.size=s.heap.objs.size+1->Q (.ref s.heap.objs.size) { s with heap:=h'}):wpAny (model prog w) A (pyIter (.ref a)) Q E s:=by
 have hT:s.TypeIs (.ref a) "set" :=⟨o,ho,hx.1⟩
 refine wpAny_pyIter_slot hT jo (cB jo hT jEX ?_ (jGR _))
 unfold Builtin.«frozenset.__iter__»
 refine ae (show wpAny _ _ (pure a:Sem Addr) _ _ s from ak ?_)
 unfold Builtin.Frozenset.sizeOf setEntries
 refine ae (ae (ae (dH ho hd (T.fits hn) (ak (ak ?_)))))
 dsimp only
 unfold setDrawn
 refine ae (ae (dH ho hd (T.fits hn) ?_))
 dsimp only
 unfold setsByText
 refine ae (ae (eV (ak (ak ?_))))
 show wpAny _ _ (if (!byTxt w&&(!t.plain&&decide (es.size>1)))=true then _ else _) _ _ s
 rw[T.pl,kj,ga,dw,ao aq]
 refine ae (ak ?_)
 refine ae (wpAny_setEpoch_of ho hd (T.fits hn) ?_)
 refine ae (cZ (ak ⟨_,rfl,"set_iterator",_,⟨_,aA _ rfl,rfl⟩,slot_si_next.lookup,hQ _ ?_ (fun b u e=>ag _ e) (da _ _)⟩) (by size_fits))
 have e0:qD w t 0=0:=by unfold qD jJR; split <;> rfl
 rw[e0]
 exact aA _ rfl
theorem jLQ (hh:A.handled=none)(hne:a≠I)(hd:o.data= .set es ep t)(T:Tab t es.size (ledW w))(hn:es.size<=4):
  Walks prog w A I [I,a] [I] es.size (fun i v=>(told w a ep es)[i]?=some v) (fun i h=>IsSI h I (qD w t i) i a es.size ep/\h.get? a=some o) where
 sub:=fun b hb=>by simp at hb; simp [hb]
 frame:=fun _ _ _ st hk=>⟨hk I (by simp) _ st.1,hk a (by simp) _ st.2⟩
 item:=fun i s Q E hi st hQ=>by
  obtain⟨v,hv⟩:∃ v,(told w a ep es)[i]?=some v:=⟨_,ay (by rw[jAW]; exact hi)⟩
  exact jH4 st.2 hd T hn st.1 hv fun h' hit' sb=>hQ v h' s.toks hv ⟨hit',(sb.2 a hne).trans st.2⟩ fun b o hb e=>(sb.2 b (fun z=>hb (by simp [z]))).trans e
 done:=fun s Q E st hQ=>jIK hh st.2 hd T hn st.1 fun h' eb=>hQ h' s.toks fun b o hb e=>eb b o (fun z=>hb (by simp [z])) e
 self:=fun _ _ _ _ st hQ=>jS3 st.1 hQ
theorem jH2:typeLookup (.type "set") "__len__" =pure (some (.builtin "set.__len__")):=by rw[jg,gB]; kernel_rfl
theorem jQC {Q:Bool->Shared->Prop}(hT:s.TypeIs (.ref a) "set")(h:Q false s):wpAny (model prog w) A (Builtin.List.listLengthHint (.ref a)) Q E s:=by
 unfold Builtin.List.listLengthHint
 refine ae (wpAny_specialOf hT jH2 ?_)
 generalize hid:("set.__len__" :String)=id0
 wp_delta
 rw[show splitId id0=some ("set","__len__") from by subst hid; decide+kernel]
 subst hid
 refine ae (iW (b:=true) hT (by rw[ju]; kernel_rfl) ?_)
 refine wpAny_ite_split (fun q=>absurd q (by decide)) (fun _=>?_)
 refine wpAny_ite_split (fun _=>?_) (fun q=>absurd (by decide+kernel) q)
 exact ae (i7 hT (ak h))
theorem jJ9 {Q:List Value->Shared->Prop}(hh:A.handled=none)(hx:o.ExactSet)(ho:s.heap.get? a=some o)(hd:o.data= .set es ep t)(T:Tab t es.size (ledW w))(hn:es.size<=4)
  (hQ:∀ s',(∀ b u,s.heap.get? b=some u->s'.heap.get? b=some u)->s'.gens=s.gens->s'.drawn=s.drawn->s'.os=s.os->s.heap.objs.size<s'.heap.objs.size->Q (told w a ep es) s'):wpAny (model prog w) A (collect (.ref a)) Q E s:=by
 have ha:a<s.heap.objs.size:=aE ho
 have hSa:s.heap.objs.size≠a:=cK ha
 unfold collect
 refine ae (ir (cz PySem.F.entry_proto_collect ?_))
 rw[cr g8 _]
 show wpAny _ A.in1 (newList [] >>= fun l=>again (.builtin "list.__iadd__" ⟨[l, .ref a],[]⟩)) _ _ s
 refine ae (cZ (ak ⟨eS eI _,cz PySem.F.entry_list_iadd ?_⟩))
 rw[cr eI _]
 generalize hE:({ s with heap:=s.heap.push { cls:= .type "list",dict:=none,data:= .seq ([]:List Value).toArray}} :Shared)=s1
 have ho1:s1.heap.get? a=some o:=by rw[<- hE]; exact ag _ ho
 have hL1:s1.heap.get? s.heap.objs.size=some { cls:= .type "list",dict:=none,data:= .seq ([]:List Value).toArray} :=by rw[<- hE]; exact aA _ rfl
 have hz1:s1.heap.objs.size=s.heap.objs.size+1:=by rw[<- hE]; exact da _ _
 have hT1:s1.TypeIs (.ref a) "set" :=⟨o,ho1,hx.1⟩
 show wpAny _ A.in1 (Builtin.List.listExtendWith (.ref s.heap.objs.size) (.ref a) (.ref s.heap.objs.size)) _ _ _
 unfold Builtin.List.listExtendWith
 refine ae (i7 hT1 ?_)
 have q1:Builtin.List.listSameRef (.ref s.heap.objs.size) (.ref a)=false:=by simp [Builtin.List.listSameRef,hSa]
 rw[ao (by rw[q1]; decide)]
 refine ae (jPC hx ho1 hd T hn fun h2 hI2 k2 z2=>?_)
 refine ae (bS ?_)
 have ho2:h2.get? a=some o:=k2 _ _ ho1
 have hT2:Shared.TypeIs { s1 with heap:=h2} (.ref a) "set" :=⟨o,ho2,hx.1⟩
 have hL2:=k2 _ _ hL1
 refine jQC hT2 ?_
 rw[ar (by decide+kernel)]
 refine ae (dj ?_)
 have hne:s.heap.objs.size≠s1.heap.objs.size:=by lia
 refine ae ?_
 show wpAny _ A.in1 (updateSeq s.heap.objs.size (·.push .none) >>= fun _=>updateSeq s.heap.objs.size (·.pop)) _ _ _
 refine ae (wpAny_updateSeq hL2 rfl ?_)
 have hL3:=dO (Obj.mapSeq (·.push Value.none)) hL2 rfl
 refine wpAny_updateSeq hL3 rfl ?_
 have hL4:=dO (Obj.mapSeq (·.pop)) hL3 rfl
 have oth:∀ b u,b≠s.heap.objs.size->h2.get? b=some u->((h2.update s.heap.objs.size (Obj.mapSeq (·.push Value.none))).update s.heap.objs.size (Obj.mapSeq (·.pop))).get? b=some u:=
  fun b u hb e=>(bv _ _ (dW hb)).trans ((bv _ _ (dW hb)).trans e)
 have W:=(jLQ (prog:=prog) (A:=A.in1) (a:=a) (I:=s1.heap.objs.size) hh (aQ (show a<s1.heap.objs.size by rw[hz1]; exact cC ha)) hd T hn).toS
 have z24:es.size<=sizeLine:=by rw[show sizeLine=2 ^ 24 from rfl]; lia
 refine ak ⟨eS PySem.F.plain_extend_loop _,codeAny_extend_loopS W z24 s.heap.objs.size (by simp [hne,hSa]) _ es.size 0 _ _ _ rfl (bi _) ⟨oth _ _ (dW hne) hI2,oth _ _ (dW hSa) ho2⟩ hL4 (ItemsOf.nil _) fun s' acc' c' hm hS' hacc=>?_⟩
 show wpAny _ A (load s.heap.objs.size >>= _) _ _ s'
 refine ae (gC hS' ?_)
 have eacc:acc'.toList=told w a ep es:=by
  apply List.ext_getElem?
  intro i
  by_cases hi:i<es.size
  ·have hi':i<acc'.size:=by rw[hacc.1]; exact hi
   have:=hacc.2 i acc'[i] (by simp [hi'])
   rw[this]
   simp [hi']
  ·rw[di (by rw[aL,hacc.1]; lia),di (by rw[jAW]; lia)]
 refine ak ?_
 rw[eacc]
 refine hQ s' (fun b u e=>?_) ?_ ?_ ?_ (aE hS')
 ·have hb:b≠s.heap.objs.size:=aQ (aE e)
  have hb1:b≠s1.heap.objs.size:=aQ (show b<s1.heap.objs.size by rw[hz1]; exact cC (aE e))
  exact hm.heap b u (by simp [hb,hb1]) (oth b u hb (k2 b u (by rw[<- hE]; exact ag _ e)))
 ·have:=hm.gens; rw[<- hE] at this; exact this
 ·have:=hm.drawn; rw[<- hE] at this; exact this
 ·have:=hm.os; rw[<- hE] at this; exact this
end SS
namespace SS
open PySem PyProof.Rows
section
variable {prog:Program}{w:World}{A:Around}{E:Value->Shared->Prop}{s:Shared}{a:Addr}{ks:List Int}
theorem jO2:∀ {vs:List Value}{ks:List Int},Paired (fun v k=>∃ t,v=Value.int k t) vs ks->IntsAre vs ks
 | _,_, .nil=> .nil
 | _,_, .cons ⟨t,e⟩ r=>by subst e; exact .cons _ t (jO2 r)
theorem jF9 {es:List (Int×Value)} :∀ {ks:List Int},Paired El es ks->Paired (fun v k=>∃ t,v=Value.int k t) (es.map (·.2)) ks
 | _, .nil=> .nil
 | _, .cons ⟨_,q⟩ r=> .cons q (jF9 r)
theorem jIN {α β:Type}{F:α->β->Prop}{l l':List α}(p:l'.Perm l):∀ {r:List β},Paired F l r->∃ r',Paired F l' r'/\r'.Perm r:=by
 induction p with
 | nil=>intro r h; cases h; exact⟨[], .nil, .nil⟩
 | cons x _ ih=>
  intro r h
  cases h with
  | cons f t=>
   obtain⟨r',h1,h2⟩:=ih t
   exact⟨_::r', .cons f h1,h2.cons _⟩
 | swap x y l=>
  intro r h
  cases h with
  | cons f t=>
   cases t with
   | cons g t=>exact⟨_, .cons g (.cons f t), .swap _ _ _⟩
 | trans _ _ ih1 ih2=>
  intro r h
  obtain⟨r1,h1,h2⟩:=ih2 h
  obtain⟨r2,h3,h4⟩:=ih1 h1
  exact⟨r2,h3,h4.trans h2⟩
theorem sorted_set {Q:Value->Shared->Prop}(hh:A.handled=none)(S:SetG w s.heap a ks)
  (h:∀ (s':Shared) (l:Addr) (vs:List Value) (ns:List Int) (e:Nat),s.heap.objs.size<=l->(∀ b u,s.heap.get? b=some u->s'.heap.get? b=some u)->s'.gens=s.gens->s'.drawn=s.drawn->s'.os=s.os->
   s'.heap.get? l=some { cls:= .type "list",data:= .seq vs.toArray e} ->IntsAre vs ns->ns.Perm ks->ns.Pairwise (· <= ·)->Q (.ref l) s'):
  wpAny (model prog w) A (call (.builtin "sorted") [.ref a]) Q E s:=by
 obtain⟨o,es,ep,t,ho,hex,hd,hp,T⟩:=S.ex
 have hn:es.size<=4:=by
  have:=fg hp
  rw[aL] at this
  have:=S.len
  lia
 refine eY iE g9 hG (args_sorted1 _) ?_
 unfold Builtin.«sorted»
 refine ae (m:=checkCount "sorted" 1 1 _) (ak ?_)
 refine ae (jJ9 (A:=A.in1) hh hex ho hd T hn fun s1 k1 g1 d1 o1 z1=>?_)
 refine ae (ev ?_ (by rw[jAW,show sizeLine=2 ^ 24 from rfl]; lia))
 obtain⟨ks1,hp1,pm1⟩:=jIN (jLU w a ep es) (jF9 hp)
 have hI:=jO2 hp1
 have hl:(told w a ep es).length<64:=by rw[jAW]; lia
 have hL:(s1.heap.push (seqObj "list" (told w a ep es).toArray 0)).get? s1.heap.objs.size=some (seqObj "list" (told w a ep es).toArray 0):=aA _ rfl
 show wpAny _ _ _ _ _ { s1 with heap:=s1.heap.push (seqObj "list" (told w a ep es).toArray 0)}
 refine ae (bS (cB gh ⟨_,hL,rfl⟩ fj (list_sort_tree hL hI hl fun out ns' a1 a2 a3=>⟨_,rfl,?_⟩) (args_list_sort _)))
 obtain⟨e,he⟩:=sortedHeap_at (out:=out) hL
 have kept:∀ b u,s.heap.get? b=some u->(sortedHeap (s1.heap.push (seqObj "list" (told w a ep es).toArray 0)) s1.heap.objs.size (told w a ep es) out).get? b=some u:=fun b u q=>by
  have q1:=k1 b u q
  have hb:b<s1.heap.objs.size:=aE q1
  rw[sortedHeap_old (aQ hb) (by rw[gH]; exact cC hb)]
  exact ag _ q1
 generalize sortedHeap (s1.heap.push (seqObj "list" (told w a ep es).toArray 0)) s1.heap.objs.size (told w a ep es) out=hf at he kept ⊢
 exact ak ⟨_,rfl,h { s1 with heap:=hf} s1.heap.objs.size out.toList ns' e (cY z1) kept g1 d1 o1 (by rw[cS]; exact he) a1 (a2.trans pm1) a3⟩
end
end SS
namespace L2
open PySem PySem.Spec PyProof.Rows
variable {es xs:List Expr}{env:Env}{a b:Expr}{pos:Pos}
section
variable {ys:List Expr}
theorem yA {op:Operator} :starEach (.BinOp a op b pos::es) env=(false,eval (.BinOp a op b pos) env)::starEach es env:=rfl
theorem se_un {op:UnaryOp} :starEach (.UnaryOp op a pos::es) env=(false,eval (.UnaryOp op a pos) env)::starEach es env:=rfl
theorem jR6 {ops:List CmpOp} :starEach (.Compare a ops xs pos::es) env=(false,eval (.Compare a ops xs pos) env)::starEach es env:=rfl
theorem jI {kw:List Keyword} :starEach (.Call a xs kw pos::es) env=(false,eval (.Call a xs kw pos) env)::starEach es env:=rfl
theorem jX:starEach (.Subscript a b pos::es) env=(false,eval (.Subscript a b pos) env)::starEach es env:=rfl
theorem jE {gs sc} :starEach (.ListComp a gs sc pos::es) env=(false,eval (.ListComp a gs sc pos) env)::starEach es env:=rfl
theorem yZ {x1} :starEach (.Tuple xs x1 pos::es) env=(false,eval (.Tuple xs x1 pos) env)::starEach es env:=rfl
theorem kQ {c k} :starEach (.Constant c k pos::es) env=(false,eval (.Constant c k pos) env)::starEach es env:=rfl
theorem j4 {x:Str} :starEach (.Name x pos::es) env=(false,eval (.Name x pos) env)::starEach es env:=rfl
end
variable {X:Cx}
def CDivL (i j:Int):Prop:=0<j/\j<2 ^ 64
theorem jJZ:OpR X (binaryOp .FloorDiv) (rI CDivL fun i j=> .int (i / j)):=opI fun i j _ _ _ _ _ hc q=>by
 have h1:(0:Int)<j:=hc.1
 have h2:j<2 ^ 64:=hc.2
 refine floordiv_int (by lia) (by rw[im i (by lia)]; exact q) (.inl (PyProof.noPylong_of_log2 ?_))
 have h3:j.natAbs<2 ^ 64:=by lia
 have h4:j.natAbs≠0:=by lia
 have:=(Nat.log2_lt h4).mpr h3
 lia
theorem jA5:yV X (.builtin "isinstance") (fun xs H Q=>∃ x T t b,xs=[x, .ty T]/\TyOf X.K H x t/\kitOne X.K t (.type T)=some b/\Q (.bl b) H):=by
 intro ad s σ H xs us Q I r h
 obtain⟨x,T,t,b,rfl,ty,e,q⟩:=h
 obtain⟨u,v,rfl,ru,rv⟩:=r.two
 cases rv
 exact jO1 I ru ty e fun tk=>⟨.bl b,H,I.tok tk,rfl,q⟩
def jS6:V->List V->Hp->VK->Prop:=fun x vs H Q=>∃ l xs i y,x= .ref l/\vs=[.int i,y]/\H l=some (.lst xs)/\0<=i/\i<=xs.length/\xs.length<sizeLine/\Q .non (upd H l (.lst (xs.take i.toNat++y::xs.drop i.toNat)))
theorem Vals.put {y:V}{v:Value}(r:RelV y v){xs:List V}{us:List Value}(h:Vals xs us)(k:Nat):Vals (xs.take k++y::xs.drop k) (us.take k++v::us.drop k):=(h.take k).append (.cons r (h.drop k))
theorem jN7:MtM X "list.insert" jS6:=by
 intro ad s σ H x vs v us Q I rx rv h
 obtain⟨l,xs,i,y,rfl,rfl,hH,h0,h1,hz,q⟩:=h
 cases rx
 obtain⟨a,b,rfl,ra,rb⟩:=rv.two
 obtain⟨t,rfl⟩:=ra
 obtain⟨z,its,n,r,hl,e⟩:=I.lstM hH
 have line:=jHJ
 have hf:Builtin.List.listFitsIndex i=true:=fitsIndex_both (by lia) (by lia)
 refine i5 F.slot_list_insert ⟨_,e,rfl⟩ F.entry_list_insert (F.args_list_insert_3 _ _ _) (AutoSeq1.list_insert_list_int_val_1 l its.toArray n i t b (by simp [hf]) (by rw[ax]; lia)) ⟨e,?_⟩
 refine⟨.non,_,I.lset (its':=its.take i.toNat++b::its.drop i.toNat) hH e ?_ (Vals.put rb r i.toNat) ?_,rfl,q⟩
 ·have hk:(if i<0 then (i+(its.toArray.size:Int)).toNat else min i.toNat its.toArray.size)=i.toNat:=by
   rw[ao (by lia),ax]
   lia
  show (its.toArray.extract 0 (if i<0 then (i+(its.toArray.size:Int)).toNat else min i.toNat its.toArray.size)).push b++its.toArray.extract (if i<0 then (i+(its.toArray.size:Int)).toNat else min i.toNat its.toArray.size)=_
  rw[hk]
  apply Array.ext'
  simp [dQ,bP]
 ·rw[aH,aU,bN,gE]
  lia
def tBMT (r:V->List V->Hp->VK->Prop)(to:TE)(t:TA):TE:=fun σ H Q=>to σ H fun x H1=>(∃ p xs,x= .ref p/\H1 p=some (.tup xs))/\t σ H1 fun xs H2=>r x xs H2 Q
theorem jUX {o e:Expr}{es:List Expr}{to:TE}{t:TA}{name:Str}{apos cpos:Pos}{id:String}{r:V->List V->Hp->VK->Prop}(slot:Slot "tuple" name id)(hty:typeOf (.builtin id)=pure (.type "method_descriptor"))(hm:MtM X id r)(ho:PE X o to)(ha:PA X (e::es) t)
  (hbase:attributeBase o name X.env (eval o X.env)=eval o X.env:=by rfl)
  (hfew:((backTo cpos (starEach (e::es) X.env)).all (fun x=>!x.1)&&(backToKw cpos (keywordEach [] X.env)).all (fun x=>x.1.isSome)
   &&decide ((e::es).length+([]:List Keyword).length+(if ([]:List Keyword).isEmpty then 0 else 1)<30))=true:=by rfl)
  (hline:(apos.endLine==cpos.line)=true:=by rfl) (hs:starEach (e::es) X.env=(false,eval e X.env)::starEach es X.env:=by rfl) (hplain:(backTo cpos (starEach es X.env)).any (·.1)=false:=by rfl):
  PE X (.Call (.Attribute o name apos) (e::es) [] cpos) (tBMT r to t):=by
 intro ad s σ H Q I h
 refine wpAny_Call_method_late hbase hfew hline rfl (ly (ho ad s σ H _ I h) fun v s1 ⟨x,H1,I1,r1,⟨p,xs,ex,hp⟩,q1⟩=>?_)
 subst ex
 cases r1
 obtain⟨_,its,_,n,e0⟩:=I1.hok p _ hp
 refine⟨"tuple",id,PySem.F.plainAttrs_tuple,slot,hty,⟨_,e0,rfl⟩,fun a ea=>?_,?_⟩
 ·cases ea
  exact⟨_,e0,rfl⟩
 have hA:=ha cpos ad s1 σ H1 _ I1 q1
 rw[hs] at hA ⊢
 refine gd (by show (false || (backTo cpos (starEach es X.env)).any (·.1))=false; rw[hplain] <;> rfl) (dZ ?_)
 exact ly hA fun us s2 ⟨vs,H2,I2,r2,q2⟩=>hm ad s2 σ H2 (.ref p) vs (.ref p) us Q I2 rfl r2 q2
def rEqE (K:W.Frag):R2:=fun x y H Q=>∃ p q xs,x= .ref p/\y= .ref q/\SqT K H p xs/\SqT K H q []/\Q (.bl (decide (xs=[]))) H
theorem jV2 (hu:X.A.units<cLine):OpR X (compareOp .Eq) (rEqE X.K):=by
 intro ad s σ H x y v u Q I rx ry h
 obtain⟨p,q,xs,rfl,rfl,hp,hq,k⟩:=h
 cases rx
 cases ry
 obtain⟨its,r,t1,_⟩:=I.tuple hp
 obtain⟨its2,r2,t2,_⟩:=I.tuple hq
 have e2:its2=[]:=r2.zero
 subst e2
 refine SeqAt.eq_tupleAt (e:=fun _=>true) (show s.heap.IsTuple p its.toArray from t1) (show s.heap.IsTuple q ([]:List Value).toArray from t2) hu (fun j h1 h2=>absurd h2 (by simp)) ⟨.bl _,H,I,rfl,?_⟩
 have hl:=r.length
 have e:((List.range (min its.toArray.size ([]:List Value).toArray.size)).all (fun _=>true)&&its.toArray.size==([]:List Value).toArray.size)=decide (xs=[]):=by
  cases xs with
  | nil=>
   have:its=[]:=by simpa using hl.symm
   subst this
   rfl
  | cons a b=>
   have:its.length≠0:=by rw[<- hl]; simp
   simp [this]
 rw[e]
 exact k
theorem jAV (hc:X.calm=true):yV X (.builtin "all") (fun xs H Q=>∃ (p:Addr) (bs:List Bool),xs=[.ref p]/\SqL X.K H p (bs.map V.bl)/\Q (.bl (bs.all id)) H):=by
 intro ad s σ H xs us Q I r h
 obtain⟨p,bs,rfl,hq,q⟩:=h
 obtain⟨u,rfl,rx⟩:=r.one
 cases rx
 obtain⟨its,r',pl,hz⟩:=I.list hq
 have hlen:=r'.length
 rw[af] at hlen
 refine call_all_walk (dG pl.isList ?_)
 have hne:p≠s.heap.objs.size:=by
  obtain⟨o,ho,_⟩:=pl.isList
  exact aQ (aE ho)
 refine⟨s.heap.objs.size,_,_,_,_,_,fun i=>bs.getD i true,rfl,i6 (by simpa using I.ok.hd hc) _ p hne its.toArray,⟨⟨_,aA _ rfl,rfl,rfl⟩,pl.isList.push _⟩,fun i v z Q' E' hP hQ'=>?_,fun h' tk hk=>?_⟩
 ·have hi:its[i]?=some v:=by simpa using hP
  have hb:i<bs.length:=by
   rw[hlen]
   exact(aj.mp hi).1
  obtain⟨u,hu,ru⟩:=r'.get (i:=i) (x:= .bl (bs[i])) (by simp [hb])
  rw[hi] at hu
  cases hu
  cases ru
  have e:bs.getD i true=bs[i]:=by simp [List.getD,hb]
  have hQ2:Q' (bs.getD i true) z:=hQ'
  rw[e] at hQ2
  exact ak hQ2
 ·have e:(List.range its.toArray.size).all (fun i=>bs.getD i true)=bs.all id:=by
   rw[ax,<- hlen]
   rw[bV,bJ,bJ]
   constructor
   ·intro a b hb
    obtain⟨i,hi,rfl⟩:=eF hb
    have:=a i (bG.mpr hi)
    simpa [List.getD,hi] using this
   ·intro a i hi
    have hi:=bG.mp hi
    have:=a bs[i] (cQ hi)
    simpa [List.getD,hi] using this
  rw[e]
  exact⟨.bl _,H,I.kept (t':=tk) fun b o e=>hk b o (by
   intro z
   have z:b=s.heap.objs.size:=by simpa using z
   exact absurd (aE e) (by rw[z]; exact cJ _)) (ag _ e),rfl,q⟩
def jEN (n:Nat):List V:=(List.range n).map fun (i:Nat)=>V.int (i:Int)
theorem jKS {n:Nat}{acc:Array Value}(h:ItemsOf (fun i v=>∃ t,v=Value.int (0+(i:Int)*1) t) acc n):Vals (jEN n) acc.toList:=by
 have key:∀ (l:List Value) (k:Nat),(∀ j v,l[j]?=some v->∃ t,v=Value.int ((k+j:Nat):Int) t)->Vals ((range' k l.length).map fun (i:Nat)=>V.int (i:Int)) l:=by
  intro l
  induction l with
  | nil=>intro k _; exact .nil
  | cons v l ih=>
   intro k hk
   rw[aU,List.range'_succ,br]
   refine .cons ?_ (ih (k+1) fun j u hj=>?_)
   ·obtain⟨t,e⟩:=hk 0 v rfl
    exact⟨t,by simpa using e⟩
   ·obtain⟨t,e⟩:=hk (j+1) u (by simpa using hj)
    exact⟨t,by rw[e]; congr 1; lia⟩
 have:=key acc.toList 0 fun j v hj=>by
  obtain⟨t,e⟩:=h.2 j v (by simpa using hj)
  exact⟨t,by rw[e]; congr 1; lia⟩
 rw[aL,h.1] at this
 unfold jEN
 rw[List.range_eq_range']
 exact this
theorem jJE:yV X (.type "range") (fun xs H Q=>∃ j:Int,xs=[.int j]/\∀ p,H p=none->Q (.ref p) (upd H p (.rng 0 j))):=by
 intro ad s σ H xs us Q I r h
 obtain⟨j,rfl,q⟩:=h
 obtain⟨u,rfl,t,rfl⟩:=r.one
 refine call_range_1 ⟨.ref s.heap.objs.size,_,I.laid (o:= .rng 0 j) (fun b o e=>ag _ e) (am _) ?_,rfl,q _ I.fresh⟩
 exact⟨_,_,_,aA _ rfl⟩
theorem jHZ (hc:X.calm=true):yV X (.type "list") (fun xs H Q=>∃ p j,xs=[.ref p]/\H p=some (.rng 0 j)/\0<=j/\j<=1000/\∀ l,H l=none->Q (.ref l) (upd H l (.lst (jEN j.toNat)))):=by
 intro ad s σ H xs us Q I r h
 obtain⟨p,j,rfl,hp,h0,h1,q⟩:=h
 obtain⟨u,rfl,rx⟩:=r.one
 cases rx
 obtain⟨t,u,v,e⟩:=I.hok p _ hp
 have en:Builtin.Range.rangeSize 0 j 1=(j.toNat:Int):=by
  rw[rangeSize_one]
  split <;> lia
 refine call_list_range (I.ok.hd hc) (show IsRange s.heap p 0 j 1 t u v from e) (small_one (by lia) (by lia) (by lia) (by lia)) en (by lia) fun h' tk acc' c' kp hS hacc=>?_
 refine⟨.ref s.heap.objs.size,_,I.laid (t':=tk) (o:= .lst (jEN j.toNat)) kp (am _) ?_,rfl,q _ I.fresh⟩
 refine⟨?_,acc'.toList,c',jKS hacc,by rw[cS]; exact hS⟩
 unfold jEN
 rw[af,bR,eJ]
 lia
def SetO (w:World)(a:Addr)(ks:List Int):HO:= .ext fun h=>SS.SetG w h a ks
theorem jB7 {ns:List Int} :∀ {us:List Value},Vals (ns.map V.int) us->IntsAre us ns:=by
 induction ns with
 | nil=>intro us h; cases h; exact .nil
 | cons n ns ih=>
  intro us h
  cases h with
  | cons r t=>
   obtain⟨k,rfl⟩:=r
   exact .cons n k (ih t)
theorem jAC:∀ {us:List Value}{ns:List Int},IntsAre us ns->Vals (ns.map V.int) us
 | _,_, .nil=> .nil
 | _,_, .cons n t r=> .cons ⟨t,rfl⟩ (jAC r)
theorem jOR (hc:X.calm=true):yV X (.type "set") (fun xs H Q=>∃ (p:Addr) (ns:List Int),xs=[.ref p]/\SqL X.K H p (ns.map V.int)/\ns.length<=4/\(∀ z∈ns,0<=z/\z<32)/\
  ∀ (l:Addr) (ks:List Int),H l=none->(∀ z,z∈ks↔z∈ns)->Q (.ref l) (upd H l (SetO X.w l ks))):=by
 intro ad s σ H xs us Q I r h
 obtain⟨p,ns,rfl,hq,hl,hv,q⟩:=h
 obtain⟨u,rfl,rx⟩:=r.one
 cases rx
 obtain⟨its,r',pl,hz⟩:=I.list hq
 have hlen:=r'.length
 rw[af] at hlen
 refine SS.set_of_list (I.ok.hd hc) pl.isList (jB7 r') (by rw[ax]; lia) hv fun h' tk ks S hm kp=>?_
 have hg:∃ o,h'.get? s.heap.objs.size=some o:=let ⟨o,_,_,_,e,_⟩:=S.ex; ⟨o,e⟩
 exact⟨.ref s.heap.objs.size,_,I.laid (t':=tk) (o:=SetO X.w s.heap.objs.size ks) kp (am _) ⟨S,hg,fun h1 h2 a b=>a.at b⟩,rfl,q _ ks I.fresh hm⟩
theorem jEY (hc:X.calm=true):yV X (.builtin "sorted") (fun xs H Q=>∃ (p:Addr) (ks:List Int),xs=[.ref p]/\H p=some (SetO X.w p ks)/\
  ∀ (l:Addr) (ns:List Int),H l=none->ns.Pairwise (· < ·)->(∀ z,z∈ns↔z∈ks)->Q (.ref l) (upd H l (.lst (ns.map V.int)))):=by
 intro ad s σ H xs us Q I r h
 obtain⟨p,ks,rfl,hp,q⟩:=h
 obtain⟨u,rfl,rx⟩:=r.one
 cases rx
 obtain⟨S,_,_⟩:=I.hok p _ hp
 refine SS.sorted_set (I.ok.hd hc) S fun s' l vs ns e hl kp g d o he hi pm srt=>?_
 obtain⟨h',g',d',t',o'⟩:=s'
 have g:g'=s.gens:=g
 have o:o'=s.os:=o
 have d:d'=s.drawn:=d
 subst g; subst o; subst d
 have nd:ns.Nodup:=pm.nodup_iff.mpr S.nd
 have lt:ns.Pairwise (· < ·):=by
  have:=List.Pairwise.and srt nd
  exact this.imp fun {a b} ⟨x,y⟩=>by lia
 have hz:(ns.map V.int).length<=sizeLine:=by
  rw[af,pm.length_eq,eJ]
  have:=S.len
  lia
 have I2:Inv X ad σ (upd H l (.lst (ns.map V.int))) { s with heap:=h',toks:=t'} :=I.laid (t':=t') kp hl ⟨hz,vs,e,jAC hi,he⟩
 exact⟨.ref l,_,I2,rfl,q l ns (I.hok.fresh hl) lt fun z=>pm.mem_iff⟩
variable {p2:Pos}
section
variable {p1 p3 p4 p5 p6 p7:Pos}{k1 k2 k3 k4:Nat}
theorem jSQ {i j r:Int}(hj:0<=j)(hj2:j<=1000000)(hi:i.natAbs<2 ^ 64)(e:i ^ j.toNat=r):PE X (.BinOp (.Constant (.int i) k2 p2) .Pow (.Constant (.int j) k3 p3) p4) (tC (.int r)):=fun ad s σ H Q I h=>
 (kR (X:=X) jMM jP jP) ad s σ H Q I ⟨_,_,rfl,rfl,⟨hj,hj2,hi⟩,by subst e; exact h⟩
theorem jSR {a b:Expr}{i j r:Int}(ha:PE X a (tC (.int i)))(hb:PE X b (tC (.int j)))(hc:CMul i j)(e:i*j=r):PE X (.BinOp a .Mult b p1) (tC (.int r)):=fun ad s σ H Q I h=>
 (kR (X:=X) jDF ha hb) ad s σ H Q I ⟨_,_,rfl,rfl,hc,by subst e; exact h⟩
theorem jSU {a b:Expr}{i j r:Int}(ha:PE X a (tC (.int i)))(hb:PE X b (tC (.int j)))(e:i+j=r):PE X (.BinOp a .Add b p1) (tC (.int r)):=fun ad s σ H Q I h=>
 (kR (X:=X) yI ha hb) ad s σ H Q I ⟨_,_,rfl,rfl,by subst e; exact h⟩
theorem jUZ:PE X (.BinOp (.BinOp (.Constant (.int 2) k1 p1) .Mult (.BinOp (.Constant (.int 10) k2 p2) .Pow (.Constant (.int 12) k3 p3) p4) p5) .Add (.Constant (.int 1) k4 p6) p7) (tC (.int 2000000000001)):=
 jSU (i:=2000000000000) (jSR (j:=1000000000000) jP (jSQ (by decide) (by decide) (by decide) (by decide)) (.inl ⟨by decide,by decide⟩) (by decide)) jP (by decide)
end
def ItAt (tp:Bool)(h:Heap)(it a:Addr)(i:Nat):Prop:=match tp with
 | false=>h.IsListIter it a i
 | true=>h.IsTupleIter it a i
def ObAt (tp:Bool)(h:Heap)(a:Addr)(xs:Array Value):Prop:=match tp with
 | false=>h.IsList a xs
 | true=>h.IsTuple a xs
theorem ItAt.but {tp:Bool}{h h':Heap}{it a b:Addr}{i:Nat}(x:ItAt tp h it a i)(e:Heap.ExtBut b h h')(n:it≠b):ItAt tp h' it a i:=by
 cases tp with
 | false=>exact Heap.IsListIter.extBut x e n
 | true=>exact Heap.IsTupleIter.extBut x e n
theorem ItAt.at {tp:Bool}{h h':Heap}{it a:Addr}{i:Nat}(x:ItAt tp h it a i)(e:∀ o,h.get? it=some o->h'.get? it=some o):ItAt tp h' it a i:=by
 cases tp with
 | false=>exact Heap.IsListIter.at x e
 | true=>exact Heap.IsTupleIter.at x e
theorem ItAt.obj {tp:Bool}{h:Heap}{it a:Addr}{i:Nat}(x:ItAt tp h it a i):∃ o,h.get? it=some o/\∀ v,o.data≠ .cell v:=by
 cases tp with
 | false=>obtain⟨o,e,_,d⟩:=x; exact⟨o,e,fun v q=>by rw[d] at q; cases q⟩
 | true=>obtain⟨o,e,_,d⟩:=x; exact⟨o,e,fun v q=>by rw[d] at q; cases q⟩
variable {w:World}{A:Around}{s:Shared}
section
variable {prog:Program}{E:Value->Shared->Prop}
theorem next1 {tp:Bool}{it a:Addr}{i:Nat}{xs:Array Value}{x:Value}{Q:Value->Shared->Prop}(hi:ItAt tp s.heap it a i)(ha:ObAt tp s.heap a xs)(hx:xs[i]?=some x)
  (k:∀ h',ItAt tp h' it a (i+1)->Heap.SameBut it s.heap h'->Q x { s with heap:=h'}):wpAny (model prog w) A (Builtin.SmallTypes.nextOf (.ref it)) Q E s:=by
 cases tp with
 | false=>exact wpAny_nextOf_list_item hi ha hx k
 | true=>
  obtain⟨o,e,c,d⟩:=id (show s.heap.IsTupleIter it a i from hi)
  obtain⟨u,eu,_,n,du⟩:=(show s.heap.IsTuple a xs from ha)
  have ty:=Heap.IsTupleIter.typeIs (show s.heap.IsTupleIter it a i from hi)
  unfold Builtin.SmallTypes.nextOf
  refine ae (cR (name:=Str.ofString "__next__") ty F.slot_tuple_iterator_next (cB F.slot_tuple_iterator_next ty F.entry_tuple_iterator_next (?_:wpAny (model prog w) _ (field (.ref it) 0 >>= _) _ _ s) (F.args_tuple_iterator_next_1 _)))
  refine ae (d8 e d (x:= .ref a) rfl (?_:wpAny (model prog w) _ (if (Value.ref a==Value.none)=true then _ else _) _ _ s))
  rw[ao (by exact aq)]
  show wpAny (model prog w) _ (field (.ref it) 1 >>= _) _ _ s
  refine ae (d8 e d (x:= .int i 0) rfl ?_)
  show wpAny (model prog w) _ (seqItems? (.ref a) >>= _) _ _ s
  refine ae (wpAny_seqItems eu du ?_)
  simp only [aV,hx]
  refine ae (wpAny_setField e d (by simp) (ak ⟨x,rfl,ak (k _ ⟨_,dO _ e (Obj.isFreed_of_fields (Obj.data_mapFields d _)),(Obj.cls_mapFields ..).trans c,?_⟩ (gZ ..))⟩))
  rw[Obj.data_mapFields d]
  simp [rawInt]
theorem next0 {tp:Bool}{it a:Addr}{i:Nat}{xs:Array Value}{Q:Value->Shared->Prop}(hh:A.handled=none)(hi:ItAt tp s.heap it a i)(ha:ObAt tp s.heap a xs)(hx:xs[i]?=none)
  (k:∀ h' e,Heap.ExtBut it s.heap h'->(∃ o,h'.get? e=some o/\o.cls= .type "StopIteration")->E (.ref e) { s with heap:=h'}):wpAny (model prog w) A (Builtin.SmallTypes.nextOf (.ref it)) Q E s:=by
 cases tp with
 | false=>exact wpAny_nextOf_list_end hh hi ha hx k
 | true=>
  obtain⟨o,e,c,d⟩:=id (show s.heap.IsTupleIter it a i from hi)
  obtain⟨u,eu,_,n,du⟩:=(show s.heap.IsTuple a xs from ha)
  have ty:=Heap.IsTupleIter.typeIs (show s.heap.IsTupleIter it a i from hi)
  unfold Builtin.SmallTypes.nextOf
  refine ae (cR (name:=Str.ofString "__next__") ty F.slot_tuple_iterator_next (cB F.slot_tuple_iterator_next ty F.entry_tuple_iterator_next (?_:wpAny (model prog w) _ (field (.ref it) 0 >>= _) _ _ s) (F.args_tuple_iterator_next_1 _)))
  refine ae (d8 e d (x:= .ref a) rfl (?_:wpAny (model prog w) _ (if (Value.ref a==Value.none)=true then _ else _) _ _ s))
  rw[ao (by exact aq)]
  show wpAny (model prog w) _ (field (.ref it) 1 >>= _) _ _ s
  refine ae (d8 e d (x:= .int i 0) rfl ?_)
  show wpAny (model prog w) _ (seqItems? (.ref a) >>= _) _ _ s
  refine ae (wpAny_seqItems eu du ?_)
  simp only [aV,hx]
  refine ae (dj (ae (wpAny_setField e d (by simp) (?_:wpAny (model prog w) _ (newExc (.type "StopIteration") [] >>= _) _ _ _))))
  refine ae (by
   simp only [newExc,newTuple]
   refine ae (cZ (ae (m:=firstArgMember _ _) (wpAny_of_eq (a:=Value.none) (by first | rfl | (simp only [firstArgMember]; rfl)) (cZ ?_ (by size_fits)))) (by size_fits))
   simp only [raiseNew]
   refine ae (wpAny_handled ?_)
   first | rw[show A.in1.handled=none from hh] | rw[hh]
   exact ae (ak (wpAny_throw (k _ _ (((gZ ..).extBut.push _).push _) ⟨_,aA _ rfl,rfl⟩))))
end
def iterO (tp:Bool)(a:Addr):Obj:=match tp with
 | false=> { cls:= .type "list_iterator",data:= .fields #[.ref a, .int 0 0]}
 | true=> { cls:= .type "tuple_iterator",data:= .fields #[.ref a, .int 0 0]}
theorem jLD (tp:Bool)(a:Addr):(iterO tp a).isFreed=false:=by cases tp <;> rfl
theorem jFY {prog:Program}{w:World}{A:Around}{E:Value->Shared->Prop}{s:Shared}{tp:Bool}{a:Addr}{xs:Array Value}{Q:Value->Shared->Prop}(h:ObAt tp s.heap a xs)(q:Q (.ref s.heap.objs.size) { s with heap:=s.heap.push (iterO tp a)}):
  wpAny (model prog w) A (pyIter (.ref a)) Q E s:=by
 cases tp with
 | false=>exact dG h q
 | true=>exact wpAny_pyIter_tuple h q
theorem ItAt.new (tp:Bool){h:Heap}{it a:Addr}(e:h.get? it=some (iterO tp a)):ItAt tp h it a 0:=by
 cases tp with
 | false=>exact⟨_,e,rfl,rfl⟩
 | true=>exact⟨_,e,rfl,rfl⟩
def Sq (tp:Bool)(K:W.Frag)(H:Hp)(a:Addr)(xs:List V):Prop:=match tp with
 | false=>SqL K H a xs
 | true=>SqT K H a xs
theorem Inv.sq {X:Cx}{ad:List (Addr×Obj)}{σ:St}{H:Hp}{s:Shared}{tp:Bool}{a:Addr}{xs:List V}(I:Inv X ad σ H s)(h:Sq tp X.K H a xs):∃ its:List Value,Vals xs its/\ObAt tp s.heap a its.toArray/\xs.length<=sizeLine:=by
 cases tp with
 | false=>
  obtain⟨its,r,p,z⟩:=I.list h
  exact⟨its,r,p.isList,z⟩
 | true=>exact I.tuple h
theorem Inv.sq_inj {X:Cx}{ad:List (Addr×Obj)}{σ:St}{H:Hp}{s:Shared}{tp:Bool}{a:Addr}{xs ys:List V}(I:Inv X ad σ H s)(h:Sq tp X.K H a xs)(h':Sq tp X.K H a ys):xs=ys:=by
 cases tp with
 | false=>exact I.list_inj h h'
 | true=>exact I.tuple_inj h h'
structure JE (X:Cx)(e:Expr)(t:TE):Prop where
 h:PE X e t
structure JA (X:Cx)(es:List Expr)(t:TA):Prop where
 h:PA X es t
structure JT (X:Cx)(e:Expr)(t:TT):Prop where
 h:PT X e t
structure JTs (X:Cx)(e:List Expr)(t:TT):Prop where
 h:PTs X e t
structure JS (X:Cx)(e:Stmt)(t:TS):Prop where
 h:PS X e t
structure JSs (X:Cx)(e:List Stmt)(t:TS):Prop where
 h:PSs X e t
structure JG (X:Cx)(e:Expr)(t:TG):Prop where
 h:PG X e t
structure JGs (X:Cx)(e:List Expr)(t:TGs):Prop where
 h:PGs X e t
structure JI (X:Cx)(tg e:Expr)(t:TI):Prop where
 h:PI X tg e t
structure JO (X:Cx)(e:Option Expr)(t:TO):Prop where
 h:PO X e t
structure Loc1 (X:Cx)(x:Str):Prop where
 a:Loc X.env.scope x
 b:X.fn x=true\/X.env.scope.names.lookup x=some .local
structure Vis1 (X:Cx)(x:Str):Prop where
 a:Vis X.env.scope x
structure Gl1 (X:Cx)(x:Str):Prop where
 a:Gl X x
section
variable {o:Option Expr}{l:Nat}
structure SwOk (e:Expr)(o:Option Expr):Prop where
 h:∀ l env,swapsWith e o l env=pure false
theorem jM3 {op:Operator} :SwOk (.BinOp a op b pos) o:=⟨fun _ _=>rfl⟩
theorem jU {kw:List Keyword} :SwOk (.Call a xs kw pos) o:=⟨fun _ _=>rfl⟩
theorem jM1:SwOk (.Subscript a b pos) o:=⟨fun _ _=>rfl⟩
theorem jUF {x1} :SwOk (.Tuple xs x1 pos) o:=⟨fun _ _=>rfl⟩
theorem jBX:SwOk (.List xs pos) o:=⟨fun _ _=>rfl⟩
theorem jPA {c k} :SwOk (.Constant c k pos) o:=⟨fun _ _=>rfl⟩
theorem jR7 {op:Operator} :jB6 (.BinOp a op b pos):=fun _ _=>rfl
theorem jS8 {kw:List Keyword} :jB6 (.Call a xs kw pos):=fun _ _=>rfl
theorem jK {i:Int}{k} :jB6 (.Constant (.int i) k pos):=fun _ _=>rfl
theorem jCV {x:Str} :jB6 (.Name x pos):=fun _ _=>rfl
theorem jUK:jB6 (.Subscript a b pos):=fun _ _=>rfl
structure FoOk (iter:Expr):Prop where
 h:∀ env x,foldedSetIterable iter env x=pure x
theorem kE {kw:List Keyword} :FoOk (.Call a xs kw pos):=⟨fun _ _=>rfl⟩
theorem y6 {x:Str} :FoOk (.Name x pos):=⟨fun _ _=>rfl⟩
theorem jOB:FoOk (.Subscript a b pos):=⟨fun _ _=>rfl⟩
structure TvOk (e:Expr):Prop where
 h:∀ env whole,isTrue e env whole=(do let v <- whole; standAt e.pos; holding [v] (truthy v))
theorem yW {kw:List Keyword} :TvOk (.Call a xs kw pos):=⟨fun _ _=>rfl⟩
end
variable {te:TE}{x:Str}
section
variable {e o:Expr}{ta tb to:TE}{t:TA}{p cpos apos:Pos}{T:String}{id:String}
theorem jv (i:Nat)(hN:X.N[i]?=some x)(hv:Vis1 X x)(hd:(x==("__debug__" :Str))=false:=by decide)(hcd:(x==("__classdict__" :Str))=false:=by decide):JE X (.Name x pos) (tVar i):=⟨jH9 hN hv.a hd hcd⟩
theorem je_int {i j} :JE X (.Constant (.int i) j pos) (tC (.int i)):=⟨jP⟩
theorem je_bl {i j} :JE X (.Constant (.bool i) j pos) (tC (.bl i)):=⟨pe_bl⟩
theorem jC3 {v:V}{u:Value}(hg:Gl1 X x)(hm:X.mg x=none)(hv:bootBuiltins x=some u)(r:RelV v u)(hn:x≠ "__name__" :=by decide)(hd:(x==("__debug__" :Str))=false:=by decide):JE X (.Name x pos) (tC v):=⟨jSV hg.a hm hv r hn hd⟩
theorem kN {op:Operator}{r:R2}(ho:OpR X (binaryOp op) r)(ha:JE X a ta)(hb:JE X b tb):JE X (.BinOp a op b pos) (tOp r ta tb):=⟨kR ho ha.h hb.h⟩
theorem je_un {op:UnaryOp}{r:V->Hp->VK->Prop}(ho:UnR X (unaryOp op) r)(ha:JE X a ta):JE X (.UnaryOp op a pos) (tUn r ta):=⟨pe_un ho ha.h⟩
theorem jNV (ha:JE X a ta):JE X (.UnaryOp .Not a pos) (tNotV ta):=⟨jUW ha.h⟩
theorem yR {op:CmpOp}{r:R2}(ho:OpR X (compareOp op) r)(ha:JE X a ta)(hb:JE X b tb)(hm:behindInMarks op b=false):JE X (.Compare a [op] [b] pos) (tOp r ta tb):=⟨jSS ho ha.h hb.h hm⟩
theorem jFE {rest:List Expr}(ha:JE X a ta)(hb:JE X (.BoolOp .And (b::rest) pos) tb):JE X (.BoolOp .And (a::b::rest) pos) (tAndV ta tb):=⟨jV0 ha.h hb.h⟩
theorem je_or {rest:List Expr}(ha:JE X a ta)(hb:JE X (.BoolOp .Or (b::rest) pos) tb):JE X (.BoolOp .Or (a::b::rest) pos) (tOrV ta tb):=⟨pe_or ha.h hb.h⟩
theorem jFD {op}(ha:JE X a ta):JE X (.BoolOp op [a] pos) ta:=⟨jUV ha.h⟩
theorem jNW (h:JA X es t):JE X (.List es pos) (tLst t):=⟨jJY h.h⟩
theorem jKC {x1}(h:JA X es t):JE X (.Tuple es x1 pos) (tTup t):=⟨jUU h.h⟩
theorem jKD {lo hi:Option Expr}{tl th:TO}{r:V->Option Int->Option Int->Hp->VK->Prop}(hr:SlR X r)(he:JE X e te)(hl:JO X lo tl)(hu:JO X hi th):JE X (.Subscript e (.Slice lo hi none p2) pos) (tSl r te tl th):=⟨jPK hr he.h hl.h hu.h⟩
theorem kB {r:R2}(hr:IxR X r)(ha:JE X a ta)(hb:JE X b tb)(hs:jB6 b):JE X (.Subscript a b pos) (tOp r ta tb):=⟨pe_ix hr ha.h hb.h hs⟩
theorem jZ {T}{r:List V->Hp->VK->Prop}(hc:yV X (.type T) r)(hg:Gl1 X x)(hm:X.mg x=none)(hv:bootBuiltins x=some (.type T))(ha:JA X (e::es) t)(he:starEach (e::es) X.env=(false,eval e X.env)::starEach es X.env)(hn:x≠ "__name__" :=by decide)(hdb:(x==("__debug__" :Str))=false:=by decide)
  (hpl:(backTo pos (starEach es X.env)).any (·.1)=false:=by rfl):JE X (.Call (.Name x p) (e::es) [] pos) (tCB r t):=⟨jCE hc hg.a hm hv ha.h hn hdb he hpl⟩
theorem jH {id}{r:List V->Hp->VK->Prop}(hc:yV X (.builtin id) r)(hg:Gl1 X x)(hm:X.mg x=none)(hv:bootBuiltins x=some (.builtin id))(ha:JA X (e::es) t)(he:starEach (e::es) X.env=(false,eval e X.env)::starEach es X.env)(hn:x≠ "__name__" :=by decide)(hdb:(x==("__debug__" :Str))=false:=by decide)
  (hpl:(backTo pos (starEach es X.env)).any (·.1)=false:=by rfl):JE X (.Call (.Name x p) (e::es) [] pos) (tCB r t):=⟨jG3 hc hg.a hm hv ha.h hn hdb he hpl⟩
theorem j7:JA X [] tNil:=⟨yL⟩
theorem j3 (ha:JE X e te)(hr:JA X es t)(hs:starEach (e::es) X.env=(false,eval e X.env)::starEach es X.env):JA X (e::es) (tCons te t):=⟨jV ha.h hr.h hs⟩
theorem kL {op:CmpOp}{r:R2}(ho:OpR X (compareOp op) r)(ha:JE X a ta)(hb:JE X b tb)(hm:behindInMarks op b=false):JT X (.Compare a [op] [b] pos) (tTest (tOp r ta tb)):=⟨jE6 ho ha.h hb.h hm⟩
theorem qF (h:JE X e te)(he:TvOk e):JT X e (tB te):=⟨jUM h.h (he.h _)⟩
theorem jCI {tA:TT}(ha:JT X a tA):JT X (.UnaryOp .Not a pos) (tNot tA):=⟨jUN ha.h⟩
theorem kG:JTs X [] yJ:=⟨jME⟩
theorem jB5 {t:TT}(h:JT X e t):JTs X [e] t:=⟨jMD h.h⟩
theorem jJ {i:Nat}(hN:X.N.Nodup)(hi:X.N[i]?=some x)(hx:Loc1 X x):JG X (.Name x pos) (kO i):=⟨jG2 hN hi hx.a hx.b⟩
theorem jA3 {tg:Expr}(hg:Gl1 X "range")(hm:X.mg "range" =none)(ha:JA X [a] t)(hs:starEach [a] X.env=(false,eval a X.env)::starEach [] X.env):JI X tg (.Call (.Name "range" p) [a] [] pos) (iRng1 t):=⟨jCD hg.a hm ha.h hs⟩
theorem kY {tg:Expr}(hl:JE X a ta):JI X tg a (iList X.K ta):=⟨jSK hl.h⟩
theorem qC {tg:Expr}(hl:JE X a ta):JI X tg a (iTup X.K ta):=⟨jUR hl.h⟩
theorem jNR:JO X none jLZ:=⟨jSG⟩
theorem jNQ (h:JE X e te):JO X (some e) (tPart te):=⟨jSF h.h⟩
theorem jT {i:Nat}{pos':Pos}(hN:X.N.Nodup)(hi:X.N[i]?=some x)(hx:Loc1 X x)(he:JE X e te)(hs:SwOk e (some (.Name x pos'))):JS X (.Assign [.Name x pos'] e pos) (tAsg te (kO i)):=⟨qE hN hi hx.a he.h (hs.h _ _) hx.b⟩
theorem jN (he:JE X e te):JS X (.Return (some e) pos) (tRet te):=⟨jDC he.h⟩
theorem jAM (he:JE X e te)(hs:SwOk e none):JS X (.Expr e pos) (tDrop te):=⟨jSC he.h (hs.h _ _)⟩
theorem kU:JSs X [] tNext:=⟨jG0⟩
theorem jB {st:Stmt}{t:TS}(h1:JS X st t):JSs X [st] t:=⟨jB1 h1.h⟩
theorem jD {st:Stmt}{rest:List Stmt}{t u:TS}(h1:JS X st t)(h2:JSs X rest u):JSs X (st::rest) (tSeq t u):=⟨kW h1.h h2.h⟩
theorem yU {c:Expr}{a b:List Stmt}{tc:TT}{t u:TS}(hc:JT X c tc)(ha:JSs X a t)(hb:JSs X b u):JS X (.If c a b pos) (tIfS tc t u):=⟨ps_if hc.h ha.h hb.h⟩
theorem qB {tg iter:Expr}{body:List Stmt}{wi:TI}{g:TG}{tb:TS}(hp:PassesOwn (model X.prog X.w) X.A X.env X.xe)(hc:X.calm=true)(hi:JI X tg iter wi)(hg:JG X tg g)(hb:JSs X body tb)(hs:FoOk iter):JS X (.For tg iter body [] pos) (tFor wi g tb):=⟨jR9 hp hc hi.h hg.h hb.h (hs.h _)⟩
theorem je_bm {T:String}{name:Str}{r}(pa:PlainAttrs T)(slot:Slot T name id)(hty:typeOf (.builtin id)=pure (.type "method_descriptor"))(hm:MtR X id r)(ho:JE X o to)(ha:JA X (e::es) t)
  (hs:starEach (e::es) X.env=(false,eval e X.env)::starEach es X.env)
  (hbase:attributeBase o name X.env (eval o X.env)=eval o X.env:=by rfl)
  (hfew:((backTo cpos (starEach (e::es) X.env)).all (fun x=>!x.1)&&(backToKw cpos (keywordEach [] X.env)).all (fun x=>x.1.isSome)
   &&decide ((e::es).length+([]:List Keyword).length+(if ([]:List Keyword).isEmpty then 0 else 1)<30))=true:=by rfl)
  (hline:(apos.endLine==cpos.line)=true:=by rfl) (hplain:(backTo cpos (starEach es X.env)).any (·.1)=false:=by rfl):
  JE X (.Call (.Attribute o name apos) (e::es) [] cpos) (tBM X.K T r to t):=⟨pe_bm pa slot hty hm ho.h ha.h hbase hfew hline hs hplain⟩
theorem jRO {name:Str}{r}(slot:Slot "tuple" name id)(hty:typeOf (.builtin id)=pure (.type "method_descriptor"))(hm:MtM X id r)(ho:JE X o to)(ha:JA X (e::es) t)
  (hs:starEach (e::es) X.env=(false,eval e X.env)::starEach es X.env)
  (hbase:attributeBase o name X.env (eval o X.env)=eval o X.env:=by rfl)
  (hfew:((backTo cpos (starEach (e::es) X.env)).all (fun x=>!x.1)&&(backToKw cpos (keywordEach [] X.env)).all (fun x=>x.1.isSome)
   &&decide ((e::es).length+([]:List Keyword).length+(if ([]:List Keyword).isEmpty then 0 else 1)<30))=true:=by rfl)
  (hline:(apos.endLine==cpos.line)=true:=by rfl) (hplain:(backTo cpos (starEach es X.env)).any (·.1)=false:=by rfl):
  JE X (.Call (.Attribute o name apos) (e::es) [] cpos) (tBMT r to t):=⟨jUX slot hty hm ho.h ha.h hbase hfew hline hs hplain⟩
theorem jR {tg iter elt:Expr}{ifs:List Expr}{sc:Scope}{wi:TI}{g:TG}{tt:TT}{m:List (Option Nat)}{Nc:List Str}(hc:X.calm=true)(hi:JI X tg iter wi)(hkind:sc.kind= .function)(hcell:∀ y∈sc.names,y.2≠ .cell)(hnames:∀ y∈sc.names,y.2= .local->sc.names.lookup y.1=some .local)
  (hfree:∀ y∈sc.names,y.2= .free->X.env.scope.names.lookup y.1=some .cell\/X.env.scope.names.lookup y.1=some .free) (hm:jBZ X sc Nc m)
  (hg:∀ cl C fp s H,JG (blk X sc cl C Nc fp s H) tg g) (ht:∀ cl C fp s H,JTs (blk X sc cl C Nc fp s H) ifs tt) (he:∀ cl C fp s H,JE (blk X sc cl C Nc fp s H) elt te)
  (hs:FoOk iter):JE X (.ListComp elt [⟨tg,iter,ifs,0⟩] sc pos) (tComp m wi g tt te):=⟨jIM hc hi.h hkind hcell hnames hfree hm (fun cl C fp s H=>(hg cl C fp s H).h) (fun cl C fp s H=>(ht cl C fp s H).h) (fun cl C fp s H=>(he cl C fp s H).h) (hs.h _)⟩
theorem jVU {p1 p2 p3 p4 p5 p6 p7:Pos}{k1 k2 k3 k4:Nat} :JE X (.BinOp (.BinOp (.Constant (.int 2) k1 p1) .Mult (.BinOp (.Constant (.int 10) k2 p2) .Pow (.Constant (.int 12) k3 p3) p4) p5) .Add (.Constant (.int 1) k4 p6) p7) (tC (.int 2000000000001)):=⟨jUZ⟩
end
variable {P:Program}{mg:Str->Option Value}{lv:Heap}{N:List Str}{qual:Str}{sc:Scope}{f:Addr}{lw:Value}{lu:List Env}{H:Hp}{E:XK}
section
variable {K:W.Frag}
theorem gl_d (h:sc.names.lookup x=some .globalImplicit):Gl1 (cxOf CX0 P w K mg lv N qual sc f lw A lu s H E).nox x:=⟨h⟩
theorem gD (h:sc.names.lookup x=some .globalImplicit:=by decide+kernel):Gl1 (cxOf CX0 P w K mg lv N qual sc f lw A lu s H E).nox x:=gl_d h
theorem vis_l (h:sc.names.lookup x=some .local):Vis1 (cxOf CX0 P w K mg lv N qual sc f lw A lu s H E).nox x:=⟨.inl h⟩
theorem vL (h:sc.names.lookup x=some .local:=by decide+kernel):Vis1 (cxOf CX0 P w K mg lv N qual sc f lw A lu s H E).nox x:=vis_l h
theorem vis_c (h:sc.names.lookup x=some .cell):Vis1 (cxOf CX0 P w K mg lv N qual sc f lw A lu s H E).nox x:=⟨.inr (.inl h)⟩
theorem vC (h:sc.names.lookup x=some .cell:=by decide+kernel):Vis1 (cxOf CX0 P w K mg lv N qual sc f lw A lu s H E).nox x:=vis_c h
end
theorem jAS {env:Env}{x:Str}{k:NameKind}(hk:k≠ .free):∀ {l:List (Str×NameKind)},l.lookup x=some k->
  (l.map fun (n,k)=>if (k==NameKind.free&&env.scope.kind== .function&&env.kindOf n==some .cell) then (n,NameKind.cell) else (n,k)).lookup x=some k
 | [],h=>by cases h
 | (n,k')::r,h=>by
  have ih:= @jAS env x k hk r
  rw[be] at h
  rw[br]
  dsimp only
  by_cases hb:(k'==NameKind.free&&env.scope.kind== .function&&env.kindOf n==some .cell)=true
  ·rw[ar hb,be]
   cases hx:x==n with
   | true=>
    rw[hx] at h
    have e:k'=k:=bq h
    simp only [bI] at hb
    exact absurd (e.symm.trans (eq_of_beq hb.1.1)) hk
   | false=>rw[hx] at h; exact ih h
  ·rw[ao hb,be]
   cases hx:x==n with
   | true=>rw[hx] at h; exact h
   | false=>rw[hx] at h; exact ih h
variable {cl:List (Str×Addr)}{C:Addr}{Nc:List Str}{fp:List Addr}
theorem gl_b (h:sc.names.lookup x=some .globalImplicit:=by decide+kernel):Gl1 (blk X sc cl C Nc fp s H) x:=⟨jAS (by decide) h⟩
theorem jL (h:sc.names.lookup x=some .local:=by decide+kernel):Vis1 (blk X sc cl C Nc fp s H) x:=⟨.inl (jAS (by decide) h)⟩
theorem kD (h:sc.names.lookup x=some .free:=by decide+kernel):Vis1 (blk X sc cl C Nc fp s H) x:=⟨.inr (jD0 h)⟩
theorem y9 (h:sc.names.lookup x=some .local:=by decide+kernel):Loc1 (blk X sc cl C Nc fp s H) x:=⟨.inl (jAS (by decide) h), .inr (jAS (by decide) h)⟩
section
variable {K:W.Frag}
theorem loc_l (h:sc.names.lookup x=some .local):Loc1 (cxOf CX0 P w K mg lv N qual sc f lw A lu s H E).nox x:=⟨.inl h, .inl rfl⟩
theorem lL (h:sc.names.lookup x=some .local:=by decide+kernel):Loc1 (cxOf CX0 P w K mg lv N qual sc f lw A lu s H E).nox x:=loc_l h
theorem loc_c (h:sc.names.lookup x=some .cell:=by decide+kernel):Loc1 (cxOf CX0 P w K mg lv N qual sc f lw A lu s H E).nox x:=⟨.inr h, .inl rfl⟩
end
structure JW (X:Cx)(e:Expr)(t:TT):Prop where
 h:PW X e t
section
variable {rest:List Expr}{tA tB':TT}
theorem jNP (ha:JT X a tA):JW X (.BoolOp .And [a] pos) tA:=⟨jS9 ha.h⟩
theorem jRK (ha:JT X a tA)(hb:JW X (.BoolOp .And (b::rest) pos) tB'):JW X (.BoolOp .And (a::b::rest) pos) (tAnd tA tB'):=⟨jUL ha.h hb.h⟩
theorem jt_w (h:JW X a tA):JT X a tA:=⟨h.h.pt⟩
theorem jNU:JGs X [] gNil:=⟨jSM⟩
structure AsOk (e:Expr):Prop where
 h:∀ es env,assignEach (e::es) env=(false,assign e env)::assignEach es env
theorem jGQ {x:Str} :AsOk (.Name x pos):=⟨fun _ _=>rfl⟩
theorem jDW {e:Expr}{es:List Expr}{t:TG}{u:TGs}(h1:JG X e t)(h2:JGs X es u)(hs:AsOk e):JGs X (e::es) (gCons t u):=⟨jPJ h1.h h2.h (by rw[hs.h]; rfl)⟩
theorem jRN {es:List Expr}{k:Nat}{t:TGs}{n:Nat}(hc:X.calm=true)(h:JGs X es t)(hn:(assignEach es X.env).length=n:=by rfl)(hst:(assignEach es X.env).findIdx? (·.1)=none:=by rfl):JG X (.Tuple es k pos) (gTup X.K n t):=⟨jUS hc h.h hn hst⟩
theorem jBD {op:CmpOp}{x:Str} :behindInMarks op (.Name x pos)=false:=by cases op <;> rfl
end
theorem jBF {X:Cx}{sc:Scope}{cl:List (Str×Addr)}{C:Addr}{Nc:List Str}{fp:List Addr}{s:Shared}{H:Hp}{x y:Str}{p1 p2 pos:Pos}{k:Nat}{i j:Nat}(hc:X.calm=true)(hN:Nc.Nodup)(hi:Nc[i]?=some x)(hj:Nc[j]?=some y)(hx:sc.names.lookup x=some .local)(hy:sc.names.lookup y=some .local):
  JG (blk X sc cl C Nc fp s H) (.Tuple [.Name x p1, .Name y p2] k pos) (gTup X.K 2 (gCons (kO i) (gCons (kO j) gNil))):=
 jRN (X:=blk X sc cl C Nc fp s H) hc (jDW (jJ hN hi (y9 hx)) (jDW (jJ hN hj (y9 hy)) jNU jGQ) jGQ)
variable {m:List (Option Nat)}{g:TG}{tt:TT}{H1:Hp}{Q:VK}
section
variable {K:W.Frag}{σ:St}
end
theorem jCW:OpR (blk X sc cl C Nc fp s H) (compareOp .In) (rIn X.K false):=jEA
theorem jFB:OpR (blk X sc cl C Nc fp s H) (compareOp .NotIn) (rIn X.K true):=jHA
theorem yM:IxR (blk X sc cl C Nc fp s H) (rIxT X.K):=kP
def Ext (H H':Hp):Prop:=∀ b o,H b=some o->H' b=some o
theorem Ext.refl (H:Hp):Ext H H:=fun _ _ h=>h
theorem Ext.trans {H H1 H2:Hp}(a:Ext H H1)(b:Ext H1 H2):Ext H H2:=fun c o h=>b c o (a c o h)
theorem Ext.new {H H1:Hp}{l:Addr}(a:Ext H H1)(hl:H1 l=none)(o:HO):Ext H (upd H1 l o):=fun c u h=>by
 have:=a c u h
 rw[j8 (jA this hl)]
 exact this
theorem Ext.updNew {H H1:Hp}{l:Addr}(a:Ext H H1)(hl:H l=none)(o:HO):Ext H (upd H1 l o):=fun c u h=>by
 rw[j8 (jA h hl)]
 exact a c u h
def TupR (H:Hp)(xs:List V)(Q:VK):Prop:=∀ r H',H' r=some (.tup xs)->Ext H H'->Q (.ref r) H'
theorem TupR.new {H:Hp}{xs:List V}{Q:VK}(q:TupR H xs Q){p:Addr}(hp:H p=none):Q (.ref p) (upd H p (.tup xs)):=q p _ j5 ((Ext.refl H).new hp _)
theorem TupR.old {H:Hp}{xs:List V}{Q:VK}(q:TupR H xs Q){p:Addr}(hp:H p=some (.tup xs)):Q (.ref p) H:=q p H hp (Ext.refl H)
def rCatU:R2:=fun x y H Q=>∃ a b xs ys,x= .ref a/\y= .ref b/\H a=some (.tup xs)/\H b=some (.tup ys)/\xs.length+ys.length<=sizeLine/\TupR H (xs++ys) Q
theorem jMO:OpR X (binaryOp .Add) rCatU:=by
 intro ad s σ H x y v u Q I rx ry h
 obtain⟨a,b,xs,ys,rfl,rfl,ha,hb,hz,q⟩:=h
 by_cases hx:xs=[]
 ·subst hx
  cases rx
  cases ry
  obtain⟨_,its,r1,n1,e1⟩:=I.hok a _ ha
  obtain⟨_,its2,r2,n2,e2⟩:=I.hok b _ hb
  cases r1
  exact concat_meets ⟨_,e1,rfl⟩ ⟨_,e2,rfl⟩ iU seq_tuple_add gc fZ (fh _ _) (AutoSeq1.tuple___add___tuple_tuple_0 a _ n1 b its2.toArray n2 (by simp)) ⟨e1,e2, .ref b,H,I,rfl,q.old hb⟩
 ·refine jSX ad s σ H _ _ v u Q I rx ry ⟨a,b,xs,ys,rfl,rfl,SqT.of ha,SqT.of hb,hx,hz,fun e=>?_,fun _ p hp=>q.new hp⟩
  subst e
  rw[aZ] at q
  exact q.old ha
section
variable (l:Addr)(items:Array Value)(n:Nat)(x:Int)(u:Tok)(h1:¬ (decide (x< -(2 ^ 63)) || decide (x ≥ 2 ^ 63))=true)
include h1
end
theorem Inv.big' {ad:List (Addr×Obj)}{σ:St}{H:Hp}{s:Shared}(I:Inv X ad σ H s):sysModules<s.heap.objs.size:=eM (by decide) (I.mod.glob.keeps I.bk).lt
def jUC:TE:=fun _ H Q=>∀ p,H p=none->Q (.ref p) (upd H p (.dK []))
theorem jQ9 {pos:Pos} :JE X (.Dict [] [] pos) jUC:=⟨fun ad s σ H Q I h=>
 wpAny_Dict_empty ⟨.ref s.heap.objs.size,_,I.laid (a:=s.heap.objs.size) (o:= .dK []) (t':=s.toks) (fun _ _ q=>ag _ q) (am _)
  ⟨bi _,bO.mpr (dW (aQ I.big')),[], .nil,jh s.heap⟩,rfl,h _ (I.hok.fresh (am _))⟩⟩
theorem jTJ {x:Str}{v:V}{u:Value}{pos:Pos}(hg:Gl1 X x)(hm:X.mg x=some u)(r:RelV v u)(hd:(x==("__debug__" :Str))=false:=by decide):JE X (.Name x pos) (tC v):=⟨jSN hg.a hm r hd⟩
theorem jNT {tg a b:Expr}{t:TA}{p pos:Pos}(hg:Gl1 X "range")(hm:X.mg "range" =none)(ha:JA X [a,b] t)(hs:starEach [a,b] X.env=(false,eval a X.env)::starEach [b] X.env)(hs2:starEach [b] X.env=(false,eval b X.env)::starEach [] X.env):
  JI X tg (.Call (.Name "range" p) [a,b] [] pos) (iRng2 t):=⟨jMJ hg.a hm ha.h (by rw[hs,hs2]; rfl) hs2⟩
section
variable {K:W.Frag}{σ:St}
theorem jAJ {a:Addr}{xs:List V}(hn:xs.length<sizeLine)(Pv:Addr->Nat->St->Hp->List V->Prop)(h0:∀ D,H1 D=none->Pv D 0 (blkσ m σ) (upd H1 D (.lst [])) [])
  (hD:∀ D i σ' H' zs,H1 D=none->Pv D i σ' H' zs->H' a=some (.tup xs)/\H' D=some (.lst zs)/\zs.length<=i)
  (hs:∀ D i σ' H' zs x,H1 D=none->xs[i]?=some x->Pv D i σ' H' zs->g x σ' H' fun σ2 H2=>tt σ2 H2 fun b H3=>if b=true then te σ2 H3 fun v H4=>H4 D=some (.lst zs)/\Pv D (i+1) σ2 (upd H4 D (.lst (zs++[v]))) (zs++[v]) else Pv D (i+1) σ2 H3 zs)
  (hd:∀ D σ' H' zs,H1 D=none->Pv D xs.length σ' H' zs->Q (.ref D) H'):qI m g tt te σ Q (Itt K a) H1:=by
 intro D hDn
 refine⟨fun i k σ' H' zs=>k=xs.length - i/\i<=xs.length/\Pv D i σ' H' zs,⟨_,rfl,bi _,h0 D hDn⟩,?_⟩
 rintro i k σ' H' zs ⟨rfl,hi,p⟩
 obtain⟨s1,q1,q2⟩:=hD D i σ' H' zs hDn p
 refine⟨q1,by lia,?_⟩
 by_cases hlt:i<xs.length
 ·refine .inr ⟨⟨xs,xs[i],SqT.of s1,by simp [hlt]⟩,Pv D (i+1),fun σ2 H2 zs z=>⟨xs.length - (i+1),by lia,rfl,hlt,z⟩,fun v H'' y=>?_⟩
  obtain⟨e1,e2⟩:=y
  subst e1
  exact hs D i σ' _ zs v hDn (e2 xs (SqT.of s1)) p
 ·have e:i=xs.length:=by lia
  subst e
  exact .inl ⟨⟨xs,SqT.of s1,am _⟩,hd D σ' H' zs hDn p⟩
end
inductive Tr where
 | non
 | bl (b:Bool)
 | int (i:Int)
 | str (x:Str)
 | lst (ts:List Tr)
 | tup (ts:List Tr)
mutual
def TAt (H:Hp):Tr->V->Prop
 | .non,v=>v= .non
 | .bl b,v=>v= .bl b
 | .int i,v=>v= .int i
 | .str x,v=>v= .str x
 | .lst ts,v=>∃ a vs,v= .ref a/\H a=some (.lst vs)/\TsAt H ts vs
 | .tup ts,v=>∃ a vs,v= .ref a/\H a=some (.tup vs)/\TsAt H ts vs
def TsAt (H:Hp):List Tr->List V->Prop
 | [],vs=>vs=[]
 | t::ts,vs=>∃ v r,vs=v::r/\TAt H t v/\TsAt H ts r
end
mutual
def dep:Tr->Nat
 | .lst ts=>deps ts+1
 | .tup ts=>deps ts+1
 | _=>0
def deps:List Tr->Nat
 | []=>0
 | t::ts=>max (dep t) (deps ts)
end
mutual
def eqT:Tr->Tr->Bool
 | .non, .non=>true
 | .bl a, .bl b=>a==b
 | .bl a, .int b=>(if a then 1 else 0)==b
 | .int a, .bl b=>a==(if b then 1 else 0)
 | .int a, .int b=>a==b
 | .str a, .str b=>a==b
 | .lst a, .lst b=>eqTs a b
 | .tup a, .tup b=>eqTs a b
 | _,_=>false
def eqTs:List Tr->List Tr->Bool
 | [],[]=>true
 | a::as,b::bs=>eqT a b&&eqTs as bs
 | _,_=>false
end
mutual
theorem jGK:∀ t:Tr,eqT t t=true
 | .non=>by simp [eqT]
 | .bl b=>by simp [eqT]
 | .int i=>by simp [eqT]
 | .str x=>by simp [eqT]
 | .lst ts=>by rw[eqT]; exact jCK ts
 | .tup ts=>by rw[eqT]; exact jCK ts
theorem jCK:∀ ts:List Tr,eqTs ts ts=true
 | []=>by simp [eqTs]
 | t::ts=>by rw[eqTs,jGK t,jCK ts]; rfl
end
mutual
theorem TAt.ext {H H':Hp}(e:Ext H H'):∀ {t:Tr}{v:V},TAt H t v->TAt H' t v
 | .non,_,h=>h
 | .bl _,_,h=>h
 | .int _,_,h=>h
 | .str _,_,h=>h
 | .lst ts,_,⟨a,vs,q,h,r⟩=>⟨a,vs,q,e _ _ h,TsAt.ext e r⟩
 | .tup ts,_,⟨a,vs,q,h,r⟩=>⟨a,vs,q,e _ _ h,TsAt.ext e r⟩
theorem TsAt.ext {H H':Hp}(e:Ext H H'):∀ {ts:List Tr}{vs:List V},TsAt H ts vs->TsAt H' ts vs
 | [],_,h=>h
 | t::ts,_,⟨v,r,q,h,s⟩=>⟨v,r,q,TAt.ext e h,TsAt.ext e s⟩
end
mutual
theorem TAt.inj {H:Hp} :∀ {t u:Tr}{v:V},TAt H t v->TAt H u v->t=u
 | .non,u,_,h,h'=>by
  cases (show _=V.non from h)
  cases u with
  | non=>rfl
  | bl b=>cases (show V.non=_ from h')
  | int b=>cases (show V.non=_ from h')
  | str b=>cases (show V.non=_ from h')
  | lst ts=>obtain⟨_,_,q,_⟩:=h'; cases q
  | tup ts=>obtain⟨_,_,q,_⟩:=h'; cases q
 | .bl b,u,_,h,h'=>by
  cases (show _=V.bl b from h)
  cases u with
  | non=>cases (show V.bl b=_ from h')
  | bl b=>cases (show V.bl _=V.bl b from h'); rfl
  | int i=>cases (show V.bl b=V.int i from h')
  | str i=>cases (show V.bl b=V.str i from h')
  | lst ts=>obtain⟨_,_,q,_⟩:=h'; cases q
  | tup ts=>obtain⟨_,_,q,_⟩:=h'; cases q
 | .int b,u,_,h,h'=>by
  cases (show _=V.int b from h)
  cases u with
  | non=>cases (show V.int b=_ from h')
  | bl i=>cases (show V.int b=V.bl i from h')
  | int b=>cases (show V.int _=V.int b from h'); rfl
  | str i=>cases (show V.int b=V.str i from h')
  | lst ts=>obtain⟨_,_,q,_⟩:=h'; cases q
  | tup ts=>obtain⟨_,_,q,_⟩:=h'; cases q
 | .str b,u,_,h,h'=>by
  cases (show _=V.str b from h)
  cases u with
  | non=>cases (show V.str b=_ from h')
  | bl i=>cases (show V.str b=V.bl i from h')
  | int i=>cases (show V.str b=V.int i from h')
  | str b=>cases (show V.str _=V.str b from h'); rfl
  | lst ts=>obtain⟨_,_,q,_⟩:=h'; cases q
  | tup ts=>obtain⟨_,_,q,_⟩:=h'; cases q
 | .lst ts,u,_,⟨a,vs,q,h,r⟩,h'=>by
  subst q
  cases u with
  | non=>cases (show V.ref a=_ from h')
  | bl i=>cases (show V.ref a=V.bl i from h')
  | int i=>cases (show V.ref a=V.int i from h')
  | str i=>cases (show V.ref a=V.str i from h')
  | lst us=>
   obtain⟨a',vs',q',h2,r'⟩:=h'
   cases q'
   rw[h] at h2
   cases h2
   rw[TsAt.inj r r']
  | tup us=>
   obtain⟨a',vs',q',h2,r'⟩:=h'
   cases q'
   rw[h] at h2
   cases h2
 | .tup ts,u,_,⟨a,vs,q,h,r⟩,h'=>by
  subst q
  cases u with
  | non=>cases (show V.ref a=_ from h')
  | bl i=>cases (show V.ref a=V.bl i from h')
  | int i=>cases (show V.ref a=V.int i from h')
  | str i=>cases (show V.ref a=V.str i from h')
  | lst us=>
   obtain⟨a',vs',q',h2,r'⟩:=h'
   cases q'
   rw[h] at h2
   cases h2
  | tup us=>
   obtain⟨a',vs',q',h2,r'⟩:=h'
   cases q'
   rw[h] at h2
   cases h2
   rw[TsAt.inj r r']
theorem TsAt.inj {H:Hp} :∀ {ts us:List Tr}{vs:List V},TsAt H ts vs->TsAt H us vs->ts=us
 | [],us,_,h,h'=>by
  cases (show _=[] from h)
  cases us with
  | nil=>rfl
  | cons u us=>obtain⟨_,_,q,_⟩:=h'; cases q
 | t::ts,us,_,⟨v,r,q,h,s⟩,h'=>by
  subst q
  cases us with
  | nil=>cases (show v::r=[] from h')
  | cons u us=>
   obtain⟨v',r',q,h2,s2⟩:=h'
   cases q
   rw[TAt.inj h h2,TsAt.inj s s2]
end
theorem TsAt.len {H:Hp} :∀ {ts:List Tr}{vs:List V},TsAt H ts vs->vs.length=ts.length
 | [],_,h=>by cases (show _=[] from h); rfl
 | t::ts,_,⟨v,r,q,_,s⟩=>by rw[q,aU,aU,TsAt.len s]
theorem TsAt.get {H:Hp} :∀ {ts:List Tr}{vs:List V},TsAt H ts vs->∀ {i:Nat}{v:V},vs[i]?=some v->∃ t,ts[i]?=some t/\TAt H t v
 | [],_,h,i,v,e=>by cases (show _=[] from h); cases e
 | t::ts,_,⟨v,r,q,h,s⟩,0,v',e=>by subst q; cases e; exact⟨t,rfl,h⟩
 | t::ts,_,⟨v,r,q,h,s⟩,i+1,v',e=>by subst q; exact TsAt.get s (i:=i) e
theorem jER:∀ ts us:List Tr,eqTs ts us=((List.range (min ts.length us.length)).all (fun j=>eqT (ts.getD j .non) (us.getD j .non))&&ts.length==us.length)
 | [],[]=>by simp [eqTs]
 | [],u::us=>by simp [eqTs]
 | t::ts,[]=>by simp [eqTs]
 | t::ts,u::us=>by
  rw[eqTs,jER ts us,aU,aU,show min (ts.length+1) (us.length+1)=min ts.length us.length+1 by lia,List.range_succ_eq_map,iM,i8]
  have e:(ts.length+1==us.length+1)=(ts.length==us.length):=by
   rw[bV]
   simp
  rw[e,Bool.and_assoc]
  rfl
theorem jJ4 {ts:List Tr}{t:Tr}(h:t∈ts):dep t<=deps ts:=by
 induction ts with
 | nil=>cases h
 | cons a r ih=>
  rw[deps]
  rcases aF.mp h with q | q
  ·subst q; lia
  ·have:=ih q; lia
def flatT:Tr->Bool
 | .lst _=>false
 | .tup _=>false
 | _=>true
theorem jOE {H:Hp}{t:Tr}{x:V}(h:TAt H t x)(f:flatT t=true):flatV x=true:=by
 cases t with
 | non=>cases (show x=_ from h); rfl
 | bl b=>cases (show x=V.bl b from h); rfl
 | int b=>cases (show x=V.int b from h); rfl
 | str b=>cases (show x=V.str b from h); rfl
 | lst ts=>cases f
 | tup ts=>cases f
theorem jTU {H:Hp}{t u:Tr}{x y:V}(h:TAt H t x)(h':TAt H u y)(f:flatT t=true)(f':flatT u=true):eqV x y=eqT t u:=by
 cases t with
 | non=>
  cases (show x=_ from h)
  cases u with
  | non=>cases (show y=_ from h'); simp [eqV,eqT]
  | bl b=>cases (show y=V.bl b from h'); simp [eqV,eqT]
  | int b=>cases (show y=V.int b from h'); simp [eqV,eqT]
  | str b=>cases (show y=V.str b from h'); simp [eqV,eqT]
  | lst ts=>cases f'
  | tup ts=>cases f'
 | bl c=>
  cases (show x=V.bl c from h)
  cases u with
  | non=>cases (show y=_ from h'); simp [eqV,eqT]
  | bl b=>cases (show y=V.bl b from h'); simp [eqV,eqT]
  | int b=>cases (show y=V.int b from h'); simp [eqV,eqT]
  | str b=>cases (show y=V.str b from h'); simp [eqV,eqT]
  | lst ts=>cases f'
  | tup ts=>cases f'
 | int c=>
  cases (show x=V.int c from h)
  cases u with
  | non=>cases (show y=_ from h'); simp [eqV,eqT]
  | bl b=>cases (show y=V.bl b from h'); simp [eqV,eqT]
  | int b=>cases (show y=V.int b from h'); simp [eqV,eqT]
  | str b=>cases (show y=V.str b from h'); simp [eqV,eqT]
  | lst ts=>cases f'
  | tup ts=>cases f'
 | str c=>
  cases (show x=V.str c from h)
  cases u with
  | non=>cases (show y=_ from h'); simp [eqV,eqT]
  | bl b=>cases (show y=V.bl b from h'); simp [eqV,eqT]
  | int b=>cases (show y=V.int b from h'); simp [eqV,eqT]
  | str b=>cases (show y=V.str b from h'); simp [eqV,eqT]
  | lst ts=>cases f'
  | tup ts=>cases f'
 | lst ts=>cases f
 | tup ts=>cases f
section
variable {ad:List (Addr×Obj)}{σ:St}
theorem TsAt.both {ts us:List Tr}{vs ws:List V}{its its2:List Value}(h1:TsAt H ts vs)(h2:TsAt H us ws)(r1:Vals vs its)(r2:Vals ws its2){j:Nat}(a1:j<its.toArray.size)(a2:j<its2.toArray.size):
  ∃ t u x y,ts.getD j .non=t/\us.getD j .non=u/\t∈ts/\TAt H t x/\TAt H u y/\RelV x its.toArray[j]/\RelV y its2.toArray[j]:=by
 have l1:=r1.length
 have l2:=r2.length
 rw[ax] at a1 a2
 obtain⟨x,hx⟩:∃ x,vs[j]?=some x:=⟨vs[j]'(by lia),by simp [show j<vs.length by lia]⟩
 obtain⟨y,hy⟩:∃ y,ws[j]?=some y:=⟨ws[j]'(by lia),by simp [show j<ws.length by lia]⟩
 obtain⟨t,ht,hxt⟩:=h1.get hx
 obtain⟨u,hu,hyu⟩:=h2.get hy
 obtain⟨v,hv,rv⟩:=r1.get hx
 obtain⟨w,hw,rw'⟩:=r2.get hy
 have e1:its.toArray[j]=v:=by
  have:its[j]?=some its[j]:=by simp [a1]
  rw[hv] at this
  simpa using (bq this).symm
 have e2:its2.toArray[j]=w:=by
  have:its2[j]?=some its2[j]:=by simp [a2]
  rw[hw] at this
  simpa using (bq this).symm
 refine⟨t,u,x,y,by rw[aC,ht]; rfl,by rw[aC,hu]; rfl,aJ ht,hxt,hyu,by rw[e1]; exact rv,by rw[e2]; exact rw'⟩
theorem jW1 (I:Inv X ad σ H s):∀ (n:Nat) (t u:Tr) (x y:V) (vx vy:Value) (A:Around),dep t=n->TAt H t x->TAt H u y->RelV x vx->RelV y vy->A.units+n<cLine->SeqAt.EqAt A s vx vy (eqT t u):=by
 intro n
 induction n using strongRecOn with
 | ind n ih=>
  intro t u x y vx vy A hn ht hu rx ry hc
  have hcu:A.units<cLine:=by lia
  cases ft:flatT t with
  | true=>
   cases fu:flatT u with
   | true=>
    rw[<- jTU ht hu ft fu]
    exact jRR rx ry (jOE ht ft) (jOE hu fu)
   | false=>
    cases u with
    | lst us=>
     obtain⟨b,ws,rfl,hb,_⟩:=hu
     cases ry
     obtain⟨its,_,pl,_⟩:=I.list (SqL.of hb)
     cases t with
     | non=>cases (show x=_ from ht); cases rx; rw[show eqT .non (.lst us)=false by simp [eqT]]; exact .none_list pl.isList hcu
     | bl c=>cases (show x=V.bl c from ht); cases rx; rw[show eqT (.bl c) (.lst us)=false by simp [eqT]]; exact .bool_list c pl.isList hcu
     | int c=>cases (show x=V.int c from ht); obtain⟨k,rfl⟩:=rx; rw[show eqT (.int c) (.lst us)=false by simp [eqT]]; exact .int_list c k pl.isList hcu
     | str c=>cases (show x=V.str c from ht); obtain⟨k,rfl⟩:=rx; rw[show eqT (.str c) (.lst us)=false by simp [eqT]]; exact .str_list c k pl.isList hcu
     | lst ts=>cases ft
     | tup ts=>cases ft
    | tup us=>
     obtain⟨b,ws,rfl,hb,_⟩:=hu
     cases ry
     obtain⟨its,_,pl,_⟩:=I.tuple (SqT.of hb)
     cases t with
     | non=>cases (show x=_ from ht); cases rx; rw[show eqT .non (.tup us)=false by simp [eqT]]; exact .none_tuple pl hcu
     | bl c=>cases (show x=V.bl c from ht); cases rx; rw[show eqT (.bl c) (.tup us)=false by simp [eqT]]; exact .bool_tuple c pl hcu
     | int c=>cases (show x=V.int c from ht); obtain⟨k,rfl⟩:=rx; rw[show eqT (.int c) (.tup us)=false by simp [eqT]]; exact .int_tuple c k pl hcu
     | str c=>cases (show x=V.str c from ht); obtain⟨k,rfl⟩:=rx; rw[show eqT (.str c) (.tup us)=false by simp [eqT]]; exact .str_tuple c k pl hcu
     | lst ts=>cases ft
     | tup ts=>cases ft
    | non=>cases fu
    | bl c=>cases fu
    | int c=>cases fu
    | str c=>cases fu
  | false=>
   cases t with
   | non=>cases ft
   | bl c=>cases ft
   | int c=>cases ft
   | str c=>cases ft
   | lst ts=>
    have ht0:=ht
    obtain⟨a,vs,rfl,ha,hts⟩:=ht
    cases rx
    obtain⟨its,r1,pl,_⟩:=I.list (SqL.of ha)
    cases u with
    | non=>cases (show y=_ from hu); cases ry; rw[show eqT (.lst ts) .non=false by simp [eqT]]; exact .list_none pl.isList hcu
    | bl c=>cases (show y=V.bl c from hu); cases ry; rw[show eqT (.lst ts) (.bl c)=false by simp [eqT]]; exact .list_bool c pl.isList hcu
    | int c=>cases (show y=V.int c from hu); obtain⟨k,rfl⟩:=ry; rw[show eqT (.lst ts) (.int c)=false by simp [eqT]]; exact .list_int c k pl.isList hcu
    | str c=>cases (show y=V.str c from hu); obtain⟨k,rfl⟩:=ry; rw[show eqT (.lst ts) (.str c)=false by simp [eqT]]; exact .list_str c k pl.isList hcu
    | tup us=>
     obtain⟨b,ws,rfl,hb,_⟩:=hu
     cases ry
     obtain⟨its2,_,pl2,_⟩:=I.tuple (SqT.of hb)
     rw[show eqT (.lst ts) (.tup us)=false by simp [eqT]]
     exact .list_tuple pl.isList pl2 hcu
    | lst us=>
     have hu0:=hu
     obtain⟨b,ws,rfl,hb,hus⟩:=hu
     cases ry
     by_cases e:a=b
     ·subst e
      rw[<- TAt.inj ht0 hu0,jGK]
      exact .same _
     ·obtain⟨its2,r2,pl2,_⟩:=I.list (SqL.of hb)
      refine .of_refs e ?_
      have l1:=r1.length
      have l2:=r2.length
      have m1:=hts.len
      have m2:=hus.len
      rw[eqT,jER]
      by_cases hl:ts.length=us.length
      ·have key:=SeqAt.RcAt.lists (e:=fun j=>eqT (ts.getD j .non) (us.getD j .non)) pl.isList pl2.isList (by rw[ax,ax]; lia) hcu fun j a1 a2=>by
        obtain⟨t',u',x',y',e1,e2,hm,q1,q2,q3,q4⟩:=TsAt.both hts hus r1 r2 a1 a2
        rw[e1,e2]
        have hd:=jJ4 hm
        have hn':deps ts+1=n:=by rw[<- hn,dep]
        exact ih (dep t') (by lia) t' u' x' y' _ _ _ rfl q1 q2 q3 q4 (by rw[dq]; lia)
       have ez:its.toArray.size=min ts.length us.length:=by rw[ax]; lia
       rw[ez] at key
       rw[show (ts.length==us.length)=true by simp [hl],Bool.and_true]
       exact key
      ·rw[show (ts.length==us.length)=false by simp [hl],dw]
       refine SeqAt.RcAt.lists_lengths pl.isList pl2.isList ?_ hcu
       rw[ax,ax]
       simp
       lia
   | tup ts=>
    have ht0:=ht
    obtain⟨a,vs,rfl,ha,hts⟩:=ht
    cases rx
    obtain⟨its,r1,pl,_⟩:=I.tuple (SqT.of ha)
    cases u with
    | non=>cases (show y=_ from hu); cases ry; rw[show eqT (.tup ts) .non=false by simp [eqT]]; exact .tuple_none pl hcu
    | bl c=>cases (show y=V.bl c from hu); cases ry; rw[show eqT (.tup ts) (.bl c)=false by simp [eqT]]; exact .tuple_bool c pl hcu
    | int c=>cases (show y=V.int c from hu); obtain⟨k,rfl⟩:=ry; rw[show eqT (.tup ts) (.int c)=false by simp [eqT]]; exact .tuple_int c k pl hcu
    | str c=>cases (show y=V.str c from hu); obtain⟨k,rfl⟩:=ry; rw[show eqT (.tup ts) (.str c)=false by simp [eqT]]; exact .tuple_str c k pl hcu
    | lst us=>
     obtain⟨b,ws,rfl,hb,_⟩:=hu
     cases ry
     obtain⟨its2,_,pl2,_⟩:=I.list (SqL.of hb)
     rw[show eqT (.tup ts) (.lst us)=false by simp [eqT]]
     exact .tuple_list pl pl2.isList hcu
    | tup us=>
     have hu0:=hu
     obtain⟨b,ws,rfl,hb,hus⟩:=hu
     cases ry
     by_cases e:a=b
     ·subst e
      rw[<- TAt.inj ht0 hu0,jGK]
      exact .same _
     ·obtain⟨its2,r2,pl2,_⟩:=I.tuple (SqT.of hb)
      refine .of_refs e ?_
      have l1:=r1.length
      have l2:=r2.length
      have m1:=hts.len
      have m2:=hus.len
      rw[eqT,jER]
      have key:=SeqAt.RcAt.tuples (e:=fun j=>eqT (ts.getD j .non) (us.getD j .non)) pl pl2 hcu fun j a1 a2=>by
       obtain⟨t',u',x',y',e1,e2,hm,q1,q2,q3,q4⟩:=TsAt.both hts hus r1 r2 a1 a2
       rw[e1,e2]
       have hd:=jJ4 hm
       have hn':deps ts+1=n:=by rw[<- hn,dep]
       exact ih (dep t') (by lia) t' u' x' y' _ _ _ rfl q1 q2 q3 q4 (by rw[dq]; lia)
      have z1:its.toArray.size=ts.length:=by rw[ax]; lia
      have z2:its2.toArray.size=us.length:=by rw[ax]; lia
      rw[z1,z2] at key
      exact key
theorem jO0 (I:Inv X ad σ H s){ts us:List Tr}{vs ws:List V}{its its2:List Value}(h1:TsAt H ts vs)(h2:TsAt H us ws)(r1:Vals vs its)(r2:Vals ws its2){A:Around}(hc:A.units+deps ts<cLine):
  ∀ j (a1:j<its.toArray.size) (a2:j<its2.toArray.size),SeqAt.EqAt A s its.toArray[j] its2.toArray[j] (eqT (ts.getD j .non) (us.getD j .non)):=fun j a1 a2=>by
 obtain⟨t',u',x',y',e1,e2,hm,q1,q2,q3,q4⟩:=TsAt.both h1 h2 r1 r2 a1 a2
 rw[e1,e2]
 have hd:=jJ4 hm
 exact jW1 I (dep t') t' u' x' y' _ _ _ rfl q1 q2 q3 q4 (by lia)
theorem jSW (hu:X.A.units+101<cLine):OpR X (compareOp .NotEq) (fun x y H Q=>∃ ts us,TAt H (.tup ts) x/\TAt H (.tup us) y/\deps ts<=100/\Q (.bl (!eqTs ts us)) H):=by
 intro ad s σ H x y v u Q I rx ry h
 obtain⟨ts,us,⟨a,vs,rfl,ha,hts⟩,⟨b,ws,rfl,hb,hus⟩,hd,q⟩:=h
 cases rx
 cases ry
 obtain⟨its,r1,p1,_⟩:=I.tuple (SqT.of ha)
 obtain⟨its2,r2,p2,_⟩:=I.tuple (SqT.of hb)
 have l1:=r1.length
 have l2:=r2.length
 have m1:=hts.len
 have m2:=hus.len
 refine SeqAt.RcNeAt.tuples (e:=fun j=>eqT (ts.getD j .non) (us.getD j .non)) p1 p2 (by lia) (jO0 I hts hus r1 r2 (by rw[dq]; lia)) _ _ _ _ ⟨.bl _,H,I,rfl,?_⟩
 have z1:its.toArray.size=ts.length:=by rw[ax]; lia
 have z2:its2.toArray.size=us.length:=by rw[ax]; lia
 rw[z1,z2,<- jER]
 exact q
theorem jMN (hu:X.A.units+101<cLine):OpR X (compareOp .Eq) (fun x y H Q=>∃ ts us,TAt H (.lst ts) x/\TAt H (.lst us) y/\deps ts<=100/\Q (.bl (eqTs ts us)) H):=by
 intro ad s σ H x y v u Q I rx ry h
 obtain⟨ts,us,⟨a,vs,rfl,ha,hts⟩,⟨b,ws,rfl,hb,hus⟩,hd,q⟩:=h
 cases rx
 cases ry
 obtain⟨its,r1,p1,_⟩:=I.list (SqL.of ha)
 obtain⟨its2,r2,p2,_⟩:=I.list (SqL.of hb)
 have l1:=r1.length
 have l2:=r2.length
 have m1:=hts.len
 have m2:=hus.len
 rw[jER] at q
 by_cases hl:ts.length=us.length
 ·refine SeqAt.eq_listAt (e:=fun j=>eqT (ts.getD j .non) (us.getD j .non)) p1.isList p2.isList (by rw[ax,ax]; lia) (by lia) (jO0 I hts hus r1 r2 (by rw[dq]; lia)) ⟨.bl _,H,I,rfl,?_⟩
  have ez:its.toArray.size=min ts.length us.length:=by rw[ax]; lia
  rw[ez]
  rw[show (ts.length==us.length)=true by simp [hl],Bool.and_true] at q
  exact q
 ·rw[show (ts.length==us.length)=false by simp [hl],dw] at q
  refine SeqAt.eq_list_lengthsAt p1.isList p2.isList ?_ (by lia) ⟨.bl _,H,I,rfl,q⟩
  rw[ax,ax]
  simp
  lia
theorem Room.units101 {k:Nat}{A:Around}(r:Room k A):A.units+101<cLine:=by have:=r.un; lia
end
theorem jOO {x:Str}{c:Addr} :∀ (l:List (Str×NameKind)) (n:Nat) (acc:List (Str×Addr)),(cellsFrom n l acc).lookup x=some c->acc.lookup x=some c\/(n<=c/\(x,NameKind.cell)∈l)
 | [],n,acc,h=> .inl h
 | (y,k)::r,n,acc,h=>by
  unfold cellsFrom at h
  by_cases hk:(k==NameKind.cell)=true
  ·rw[ar hk] at h
   have ek:k= .cell:=eq_of_beq hk
   rcases jOO r (n+1) _ h with q | ⟨q1,q2⟩
   ·rw[be] at q
    cases e:x==y with
    | true=>
     rw[e] at q
     cases q
     exact .inr ⟨am _,by rw[eq_of_beq e,ek]; exact ai⟩
    | false=>rw[e] at q; exact .inl q
   ·exact .inr ⟨by lia,ah _ q2⟩
  ·rw[ao hk] at h
   rcases jOO r n _ h with q | ⟨q1,q2⟩
   ·exact .inl q
   ·exact .inr ⟨q1,ah _ q2⟩
theorem jOQ:∀ (l:List (Str×NameKind)) (n:Nat) (acc:List (Str×Addr)),(∀ x y c,acc.lookup x=some c->acc.lookup y=some c->x=y)->(∀ x c,acc.lookup x=some c->c<n)->
  ∀ x y c,(cellsFrom n l acc).lookup x=some c->(cellsFrom n l acc).lookup y=some c->x=y
 | [],n,acc,h1,_=>h1
 | (z,k)::r,n,acc,h1,h2=>by
  unfold cellsFrom
  by_cases hk:(k==NameKind.cell)=true
  ·rw[ar hk]
   refine jOQ r (n+1) _ (fun x y c a b=>?_) (fun x c a=>?_)
   ·rw[be] at a b
    cases e1:x==z with
    | true=>
     rw[e1] at a
     cases a
     cases e2:y==z with
     | true=>exact(eq_of_beq e1).trans (eq_of_beq e2).symm
     | false=>rw[e2] at b; exact absurd (h2 y n b) (cJ _)
    | false=>
     rw[e1] at a
     cases e2:y==z with
     | true=>rw[e2] at b; cases b; exact absurd (h2 x n a) (cJ _)
     | false=>rw[e2] at b; exact h1 x y c a b
   ·rw[be] at a
    cases e1:x==z with
    | true=>rw[e1] at a; cases a; exact gG _
    | false=>rw[e1] at a; exact cC (h2 x c a)
  ·rw[ao hk]
   exact jOQ r n acc h1 h2
theorem jFJ {x:Str} :∀ (l:List (Str×NameKind)) (n:Nat) (acc:List (Str×Addr)),((x,NameKind.cell)∈l\/∃ c,acc.lookup x=some c)->∃ c,(cellsFrom n l acc).lookup x=some c
 | [],n,acc,h=>by
  rcases h with h | h
  ·cases h
  ·exact h
 | (z,k)::r,n,acc,h=>by
  unfold cellsFrom
  by_cases hk:(k==NameKind.cell)=true
  ·rw[ar hk]
   refine jFJ r (n+1) _ ?_
   by_cases e:x=z
   ·subst e
    exact .inr ⟨n,by rw[be,gF]⟩
   ·rcases h with h | ⟨c,h⟩
    ·rcases aF.mp h with q | q
     ·cases q; exact absurd rfl e
     ·exact .inl q
    ·exact .inr ⟨c,by rw[be,bO.mpr e]; exact h⟩
  ·rw[ao hk]
   refine jFJ r n acc ?_
   rcases h with h | h
   ·rcases aF.mp h with q | q
    ·cases q; exact absurd rfl hk
    ·exact .inl q
   ·exact .inr h
theorem jOP {x:Str}{c n0:Nat} :∀ (l:List (Str×NameKind)) (n:Nat) (acc:List (Str×Addr)),n0<=n->((x,NameKind.cell)∈l\/∀ c,acc.lookup x=some c->n0<=c)->(cellsFrom n l acc).lookup x=some c->n0<=c
 | [],n,acc,_,h,e=>by
  rcases h with h | h
  ·cases h
  ·exact h c e
 | (z,k)::r,n,acc,hn,h,e=>by
  unfold cellsFrom at e
  by_cases hk:(k==NameKind.cell)=true
  ·rw[ar hk] at e
   refine jOP r (n+1) _ (by lia) ?_ e
   by_cases ez:x=z
   ·subst ez
    refine .inr fun c' h'=>?_
    rw[be,gF] at h'
    cases h'
    exact hn
   ·rcases h with h | h
    ·rcases aF.mp h with q | q
     ·cases q; exact absurd rfl ez
     ·exact .inl q
    ·refine .inr fun c' h'=>?_
     rw[be,bO.mpr ez] at h'
     exact h c' h'
  ·rw[ao hk] at e
   refine jOP r n acc hn ?_ e
   rcases h with h | h
   ·rcases aF.mp h with q | q
    ·cases q; exact absurd rfl hk
    ·exact .inl q
   ·exact .inr h
theorem jJB {x:Str} :∀ (l:List (Str×NameKind)) (n:Nat) (acc:List (Str×Addr)),(x,NameKind.cell)∉l->(cellsFrom n l acc).lookup x=acc.lookup x
 | [],_,_,_=>rfl
 | (z,k)::r,n,acc,h=>by
  unfold cellsFrom
  by_cases hk:(k==NameKind.cell)=true
  ·have ek:k= .cell:=eq_of_beq hk
   subst ek
   have ne:x≠z:=fun e=>h (by rw[e]; exact ai)
   rw[ar hk,jJB r (n+1) _ (fun q=>h (ah _ q)),be,bO.mpr ne]
  ·rw[ao hk,jJB r n _ (fun q=>h (ah _ q))]
theorem jJC:∀ (l:List (Str×NameKind)) (h:Heap) (acc:List (Str×Addr)),(∀ x c,acc.lookup x=some c->∃ v,h.IsCell c v)->∀ x c,(cellsFrom h.objs.size l acc).lookup x=some c->∃ v,(pushCells h l).IsCell c v
 | [],h,acc,k=>k
 | (z,k)::r,h,acc,hc=>by
  unfold cellsFrom pushCells
  by_cases hk:(k==NameKind.cell)=true
  ·rw[ar hk,ar hk]
   have e:(h.push { cls:= .type "cell",data:= .cell none}).objs.size=h.objs.size+1:=da _ _
   rw[<- e]
   refine jJC r _ _ (fun x c q=>?_)
   rw[be] at q
   cases ez:x==z with
   | true=>rw[ez] at q; cases q; exact⟨none,⟨_,aA _ rfl,rfl⟩⟩
   | false=>
    rw[ez] at q
    obtain⟨v,o,ho,hd⟩:=hc x c q
    exact⟨v,o,ag _ ho,hd⟩
  ·rw[ao hk,ao hk]
   exact jJC r h acc hc
section
variable {tg iter elt:Expr}{ifs:List Expr}{wi:TI}
end
section
variable {sc2:Scope}{cl2:List (Str×Addr)}{C2:Addr}{Nc2:List Str}{fp2:List Addr}{s2:Shared}{H2:Hp}
end
def rAny (K:W.Frag):List V->Hp->VK->Prop:=fun xs H Q=>∃ (p:Addr) (bs:List Bool),xs=[.ref p]/\SqL K H p (bs.map V.bl)/\Q (.bl (bs.any id)) H
theorem jBI (hc:X.calm=true):yV X (.builtin "any") (rAny X.K):=by
 intro ad s σ H xs us Q I r h
 obtain⟨p,bs,rfl,hq,q⟩:=h
 obtain⟨u,rfl,rx⟩:=r.one
 cases rx
 obtain⟨its,r',pl,hz⟩:=I.list hq
 have hlen:=r'.length
 rw[af] at hlen
 refine call_any_walk (dG pl.isList ?_)
 have hne:p≠s.heap.objs.size:=by
  obtain⟨o,ho,_⟩:=pl.isList
  exact aQ (aE ho)
 refine⟨s.heap.objs.size,_,_,_,_,_,fun i=>bs.getD i true,rfl,i6 (by simpa using I.ok.hd hc) _ p hne its.toArray,⟨⟨_,aA _ rfl,rfl,rfl⟩,pl.isList.push _⟩,fun i v z Q' E' hP hQ'=>?_,fun h' tk hk=>?_⟩
 ·have hi:its[i]?=some v:=by simpa using hP
  have hb:i<bs.length:=by
   rw[hlen]
   exact(aj.mp hi).1
  obtain⟨u,hu,ru⟩:=r'.get (i:=i) (x:= .bl (bs[i])) (by simp [hb])
  rw[hi] at hu
  cases hu
  cases ru
  have e:bs.getD i true=bs[i]:=by simp [List.getD,hb]
  have hQ2:Q' (bs.getD i true) z:=hQ'
  rw[e] at hQ2
  exact ak hQ2
 ·have e:(List.range its.toArray.size).any (fun i=>bs.getD i true)=bs.any id:=by
   rw[ax,<- hlen]
   rw[bV,cU,cU]
   constructor
   ·rintro ⟨i,hi,hb⟩
    have hi:=bG.mp hi
    exact⟨bs[i],cQ hi,by simpa [List.getD,hi] using hb⟩
   ·rintro ⟨b,hb,hq⟩
    obtain⟨i,hi,rfl⟩:=eF hb
    exact⟨i,bG.mpr hi,by simpa [List.getD,hi] using hq⟩
  rw[e]
  exact⟨.bl _,H,I.kept (t':=tk) fun b o e=>hk b o (by
   intro z
   have z:b=s.heap.objs.size:=by simpa using z
   exact absurd (aE e) (by rw[z]; exact cJ _)) (ag _ e),rfl,q⟩
theorem jHX:yV X (.builtin "sorted") (fun xs H Q=>∃ (p:Addr) (ks:List Int),xs=[.ref p]/\SqL X.K H p (ks.map V.int)/\ks.length<64/\
  ∀ (l:Addr) (ns:List Int),H l=none->ns.Pairwise (· <= ·)->ns.Perm ks->Q (.ref l) (upd H l (.lst (ns.map V.int)))):=by
 intro ad s σ H xs us Q I r h
 obtain⟨p,ks,rfl,hp,hn,q⟩:=h
 obtain⟨u,rfl,rx⟩:=r.one
 cases rx
 obtain⟨its,r',pl,hz⟩:=I.list hp
 have hlen:=r'.length
 rw[af] at hlen
 refine sorted_ints pl.isList (jB7 r') (by lia) fun out ns' a1 a2 a3=>?_
 obtain⟨e,he⟩:=sortedAll_at s.heap its out
 have hz:(ns'.map V.int).length<=sizeLine:=by
  rw[af,a2.length_eq,eJ]
  lia
 have I2:Inv X ad σ (upd H (s.heap.objs.size+1) (.lst (ns'.map V.int))) { s with heap:=sortedAll s.heap its out} :=I.laid (t':=s.toks) (fun b o e=>sortedAll_old e) (dy _) ⟨hz,out.toList,e,jAC a1,by rw[cS]; exact he⟩
 exact⟨.ref _,_,I2,rfl,q _ ns' (I.hok.fresh (dy _)) a3 a2⟩
theorem jQ6 {c:Expr}{body:List Stmt}{tc:TT}{tb:TS}{pos:Pos}(hp:PassesOwn (model X.prog X.w) X.A X.env X.xe)(hc:JT X c tc)(hb:JSs X body tb):JS X (.While c body [] pos) (jR1 tc tb):=⟨jPD hp hc.h hb.h⟩
theorem jRC {op:CmpOp}{a b:Expr}{pos:Pos} :behindInMarks op (.Subscript a b pos)=false:=by cases op <;> rfl
end L2
namespace L2
open PySem
def LstR (H:Hp)(xs:List V)(Q:VK):Prop:=∀ r H',H' r=some (.lst xs)->Ext H H'->H r=none->Q (.ref r) H'
theorem LstR.new {H:Hp}{xs:List V}{Q:VK}(q:LstR H xs Q){p:Addr}(hp:H p=none):Q (.ref p) (upd H p (.lst xs)):=q p _ j5 ((Ext.refl H).new hp _) hp
def tTupU (t:TA):TE:=fun σ H Q=>t σ H fun xs H1=>xs.length<=sizeLine/\TupR H1 xs Q
def tLstU (t:TA):TE:=fun σ H Q=>t σ H fun xs H1=>xs.length<=sizeLine/\LstR H1 xs Q
section
variable {X:Cx}{es:List Expr}{t:TA}{pos:Pos}
theorem y4 {x1}(h:JA X es t):JE X (.Tuple es x1 pos) (tTupU t):=⟨fun ad s σ H Q I hq=>by
 refine wpAny_Tuple_spliced (ly (h.h pos ad s σ H _ I hq) fun us s1 ⟨xs,H1,I1,r,z,q⟩=>⟨by rw[<- r.length]; exact z,?_⟩)
 have hf:H1 s1.heap.objs.size=none:=I1.hok.fresh (am _)
 exact⟨.ref s1.heap.objs.size,upd H1 s1.heap.objs.size (.tup xs),I1.laid (t':=s1.toks) (fun b u e=>ag _ e) (am _) ⟨z,us,r,TupO.new _ _⟩,rfl,q.new hf⟩⟩
theorem yQ (h:JA X es t):JE X (.List es pos) (tLstU t):=⟨fun ad s σ H Q I hq=>by
 refine wpAny_List_spliced (ly (h.h pos ad s σ H _ I hq) fun us s1 ⟨xs,H1,I1,r,z,q⟩=>⟨by rw[<- r.length]; exact z,?_⟩)
 have hf:H1 s1.heap.objs.size=none:=I1.hok.fresh (am _)
 exact⟨.ref s1.heap.objs.size,upd H1 s1.heap.objs.size (.lst xs),I1.laid (t':=s1.toks) (fun b u e=>ag _ e) (am _) ⟨z,us,0,r,aA _ rfl⟩,rfl,q.new hf⟩⟩
theorem jK0:OpR X (binaryOp .Add) (fun x y H Q=>∃ l b xs zs,x= .ref l/\y= .ref b/\H l=some (.lst xs)/\H b=some (.lst zs)/\xs.length+zs.length<=sizeLine/\LstR H (xs++zs) Q):=by
 intro ad s σ H x y v u Q I rx ry h
 obtain⟨l,b,xs,zs,rfl,rfl,h1,h2,h3,q⟩:=h
 exact jV3 ad s σ H _ _ v u Q I rx ry ⟨l,b,xs,zs,rfl,rfl,h1,h2,h3,fun p hp=>q.new hp⟩
end
end L2
namespace L2
open PySem PySem.Spec PyProof.Rows
variable {X:Cx}
theorem jJ7 {prog:Program}{w:World}{A:Around}{E:Value->Shared->Prop}{s:Shared}{l:Addr}{vs:List Value}{n:Nat}{Q:List Value->Shared->Prop}(ho:s.heap.get? l=some { cls:= .type "tuple",data:= .seq vs.toArray n})
  (h:Q vs { s with heap:=(s.heap.push (seqObj "list" #[] 0)).update s.heap.objs.size (Obj.mapSeq (· ++vs.toArray))}) (hsz:vs.length<=sizeLine):
  wpAny (model prog w) A (collect (.ref l)) Q E s:=by
 unfold collect
 refine ae (ir (cz entry_proto_collect' ?_))
 show wpAny _ _ (do again (.builtin "list.__iadd__" ⟨[<- newList [], .ref l],[]⟩)) _ _ s
 refine ae (ev (ak ⟨Code.quiet_builtin _ (by decide+kernel),cz entry_list_iadd' ?_⟩))
 show wpAny _ _ (Builtin.List.listExtendWith (.ref s.heap.objs.size) (.ref l) (.ref s.heap.objs.size)) _ _ { s with heap:=s.heap.push (seqObj "list" #[] 0)}
 unfold Builtin.List.listExtendWith
 have ho':(s.heap.push (seqObj "list" #[] 0)).get? l=some { cls:= .type "tuple",data:= .seq vs.toArray n} :=ag _ ho
 refine ae (i7 (T:= "tuple") ⟨_,ho',rfl⟩ ?_)
 have ht:(Value.type "tuple" ==Value.type "tuple")=true:=by rfl
 rw[ar (by rw[ht,gj])]
 refine ae (hV ho' rfl ?_)
 refine ae (hV (xs:=#[]) (n:=0) (aA _ rfl) rfl ?_)
 rw[ao (by simp)]
 refine ae (eE (xs:=#[]) (n:=0) (aA _ rfl) rfl ?_ (bi _) (by show (#[]++vs.toArray).size<=sizeLine+1; simp only [Array.size_append,ax,cy]; lia))
 refine ak ?_
 show wpAny (model prog w) A (do
   let o <- load s.heap.objs.size
   match o.data with
   | .seq xs _=>pure xs.toList
   | _=>unsupported "internal:collect") Q E { s with heap:=(s.heap.push (seqObj "list" #[] 0)).update s.heap.objs.size (Obj.mapSeq (· ++vs.toArray))}
 refine ae (gC (fm (aA _ rfl) _) ?_)
 show wpAny _ _ (pure ((#[]:Array Value)++vs.toArray).toList) Q E _
 rw[show ((#[]:Array Value)++vs.toArray).toList=vs by simp]
 exact ak h
theorem jKY {prog:Program}{w:World}{A:Around}{E:Value->Shared->Prop}{s:Shared}{l:Addr}{vs:List Value}{ns:List Int}{n:Nat}{Q:Value->Shared->Prop}(ho:s.heap.get? l=some { cls:= .type "tuple",data:= .seq vs.toArray n})(hI:IntsAre vs ns)(h64:vs.length<64)
  (h:∀ (out:Array Value) (ns':List Int),IntsAre out.toList ns'->ns'.Perm ns->ns'.Pairwise (· <= ·)->Q (.ref (s.heap.objs.size+1)) { s with heap:=sortedAll s.heap vs out}):
  wpAny (model prog w) A (call (.builtin "sorted") [.ref l]) Q E s:=by
 refine eY iE g9 hG (args_sorted1 _) ?_
 unfold Builtin.«sorted»
 refine ae (m:=checkCount "sorted" 1 1 _) (ak ?_)
 refine ae (jJ7 ho ?_ (by rw[eJ]; lia))
 refine ae (ev ?_ (by rw[eJ]; lia))
 have hsz:((s.heap.push (seqObj "list" #[] 0)).update s.heap.objs.size (Obj.mapSeq (· ++vs.toArray))).objs.size=s.heap.objs.size+1:=by
  rw[gI,gH]
 have hoL:(((s.heap.push (seqObj "list" #[] 0)).update s.heap.objs.size (Obj.mapSeq (· ++vs.toArray))).push (seqObj "list" vs.toArray 0)).get? (s.heap.objs.size+1)=some (seqObj "list" vs.toArray 0):=by
  rw[<- hsz]; exact aA _ rfl
 show wpAny _ _ _ _ _ { s with heap:=((s.heap.push (seqObj "list" #[] 0)).update s.heap.objs.size (Obj.mapSeq (· ++vs.toArray))).push (seqObj "list" vs.toArray 0)}
 rw[hsz]
 refine ae (bS (cB gh ⟨_,hoL,rfl⟩ fj (list_sort_tree hoL hI h64 fun out ns' a1 a2 a3=>⟨_,rfl,?_⟩) (args_list_sort _)))
 exact ak ⟨_,rfl,h out ns' a1 a2 a3⟩
theorem jHV:yV X (.builtin "sorted") (fun xs H Q=>∃ (p:Addr) (ks:List Int),xs=[.ref p]/\H p=some (.tup (ks.map V.int))/\ks.length<64/\
  ∀ (l:Addr) (ns:List Int),H l=none->ns.Pairwise (· <= ·)->ns.Perm ks->Q (.ref l) (upd H l (.lst (ns.map V.int)))):=by
 intro ad s σ H xs us Q I r h
 obtain⟨p,ks,rfl,hp,hn,q⟩:=h
 obtain⟨u,rfl,rx⟩:=r.one
 cases rx
 obtain⟨_,its,r',n,e0⟩:=I.hok p _ hp
 have hlen:=r'.length
 rw[af] at hlen
 refine jKY e0 (jB7 r') (by lia) fun out ns' a1 a2 a3=>?_
 obtain⟨e,he⟩:=sortedAll_at s.heap its out
 have hz:(ns'.map V.int).length<=sizeLine:=by
  rw[af,a2.length_eq,eJ]
  lia
 have I2:Inv X ad σ (upd H (s.heap.objs.size+1) (.lst (ns'.map V.int))) { s with heap:=sortedAll s.heap its out} :=I.laid (t':=s.toks) (fun b o e=>sortedAll_old e) (dy _) ⟨hz,out.toList,e,jAC a1,by rw[cS]; exact he⟩
 exact⟨.ref _,_,I2,rfl,q _ ns' (I.hok.fresh (dy _)) a3 a2⟩
theorem jE7 (ns:List Int):∀ j,preSum (fun i=>ns.getD i 0) j=(ns.take j).sum
 | 0=>rfl
 | j+1=>by
  rw[preSum,jE7 ns j,bg,List.sum_append]
  congr 1
  rw[aC]
  cases ns[j]? with
  | none=>rfl
  | some z=>simp
section
def rSum (K:W.Frag):List V->Hp->VK->Prop:=fun xs H Q=>∃ (p:Addr) (ns:List Int),xs=[.ref p]/\(SqL K H p (ns.map V.int))/\Q (.int ns.sum) H
theorem jHU (hc:X.calm=true):yV X (.builtin "sum") (rSum X.K):=by
 intro ad s σ H xs us Q I r h
 obtain⟨p,ns,rfl,hq,q⟩:=h
 obtain⟨u,rfl,rx⟩:=r.one
 cases rx
 obtain⟨its,r',pl,hz⟩:=I.list hq
 have hlen:=r'.length
 rw[af] at hlen
 refine call_sum_walkG (dG pl.isList ?_)
 have hne:p≠s.heap.objs.size:=by
  obtain⟨o,ho,_⟩:=pl.isList
  exact aQ (aE ho)
 refine⟨s.heap.objs.size,_,_,_,_,_,fun i=>ns.getD i 0,rfl,i6 (by simpa using I.ok.hd hc) _ p hne its.toArray,⟨⟨_,aA _ rfl,rfl,rfl⟩,pl.isList.push _⟩,(fun b hb=>?_),(fun i v hP=>?_),fun h' tk t' hk=>?_⟩
 ·show b<(s.heap.push _).objs.size
  rw[da]
  obtain⟨o,ho,_⟩:=pl.isList
  have:=aE ho
  rcases aF.mp hb with rfl | hb
  ·exact gG _
  ·rcases aF.mp hb with rfl | hb
   ·exact cC this
   ·cases hb
 ·have hi:its[i]?=some v:=by simpa using hP
  have hb:i<ns.length:=by
   rw[hlen]
   exact(aj.mp hi).1
  obtain⟨u,hu,ru⟩:=r'.get (i:=i) (x:= .int (ns[i])) (by simp [hb])
  rw[hi] at hu
  cases hu
  obtain⟨t,rfl⟩:=ru
  exact⟨t,by simp [List.getD,hb]⟩
 ·have e:preSum (fun i=>ns.getD i 0) its.toArray.size=ns.sum:=by
   rw[jE7,ax,<- hlen,bw]
  rw[e]
  exact⟨.int _,H,I.kept (t':=tk) fun b o e=>hk b o (by
   intro z
   have z:b=s.heap.objs.size:=by simpa using z
   exact absurd (aE e) (by rw[z]; exact cJ _)) (ag _ e),⟨_,rfl⟩,q⟩
variable {sc:Scope}{cl:List (Str×Addr)}{C:Addr}{Nc:List Str}{fp:List Addr}{s:Shared}{H:Hp}
end
theorem jFL (a b:Nat):Builtin.bitAnd (a:Int) (b:Int)=((a&&&b:Nat):Int):=by
 unfold Builtin.bitAnd
 rw[az (fw a),az (fw b)]
 rfl
theorem jCM (a b:Nat):Builtin.bitOr (a:Int) (b:Int)=((a|||b:Nat):Int):=by
 unfold Builtin.bitOr
 have ha:Builtin.bitNot (a:Int)= -(a:Int) - 1:=by unfold Builtin.bitNot; lia
 have hb:Builtin.bitNot (b:Int)= -(b:Int) - 1:=by unfold Builtin.bitNot; lia
 have na:¬ (0<=Builtin.bitNot (a:Int)):=by rw[ha]; lia
 have nb:¬ (0<=Builtin.bitNot (b:Int)):=by rw[hb]; lia
 unfold Builtin.bitAnd
 rw[aP na,aP nb]
 have ea:Builtin.bitNot (Builtin.bitNot (a:Int))=(a:Int):=by rw[ha]; unfold Builtin.bitNot; lia
 have eb:Builtin.bitNot (Builtin.bitNot (b:Int))=(b:Int):=by rw[hb]; unfold Builtin.bitNot; lia
 show Builtin.bitNot (Builtin.bitNot _)=_
 rw[ea,eb]
 unfold Builtin.bitNot
 simp
 lia
def maskN (ts:List Int):Nat:=(ts.map fun t=>2 ^ t.toNat).sum
theorem jK8:∀ (ts:List Int) (lo:Nat),ts.Pairwise (· < ·)->(∀ t∈ts,(lo:Int)<=t)->maskN ts % 2 ^ lo=0
 | [],_,_,_=>by simp [maskN]
 | t::r,lo,hp,hl=>by
  have ih:=jK8 r lo (cM.mp hp).2 fun x hx=>hl x (ah _ hx)
  have h0:=hl t (ai ..)
  have e:maskN (t::r)=2 ^ t.toNat+maskN r:=by simp [maskN]
  have d:2 ^ t.toNat % 2 ^ lo=0:=Nat.mod_eq_zero_of_dvd (Nat.pow_dvd_pow 2 (by lia))
  rw[e,Nat.add_mod,ih,d]
  simp
theorem jAB:∀ (ts:List Int) (n:Nat),ts.Pairwise (· < ·)->(∀ t∈ts,0<=t)->(maskN ts).testBit n=decide ((n:Int)∈ts)
 | [],n,_,_=>by simp [maskN]
 | t::r,n,hp,h0=>by
  obtain⟨h1,h2⟩:=cM.mp hp
  have ih:=jAB r n h2 fun x hx=>h0 x (ah _ hx)
  have ht:=h0 t (ai ..)
  obtain⟨k,rfl⟩:∃ k:Nat,t=(k:Int):=⟨t.toNat,by lia⟩
  have e:maskN ((k:Int)::r)=2 ^ k+maskN r:=by simp [maskN]
  have m0:maskN r % 2 ^ (k+1)=0:=jK8 r (k+1) h2 fun x hx=>by have:=h1 x hx; lia
  obtain⟨c,hc⟩:∃ c,maskN r=2 ^ (k+1)*c:=(Nat.dvd_of_mod_eq_zero m0)
  have hor:2 ^ k+maskN r=maskN r|||2 ^ k:=by
   rw[hc,Nat.mul_comm,<- Nat.shiftLeft_eq,Nat.shiftLeft_add_eq_or_of_lt (b:=2 ^ k) (i:=k+1) (gP (by decide) (by lia)) c |>.symm,lj]
  rw[e,hor,ci,ih,cG]
  by_cases hk:k=n
  ·subst hk
   simp
  ·have:¬ ((n:Int)=(k:Int)):=by lia
   simp [hk,this]
end L2
namespace L2
open PySem
variable {X:Cx}
section
variable {tg iter elt:Expr}{ifs:List Expr}{sc:Scope}{pos:Pos}{wi:TI}{g:TG}{tt:TT}{te:TE}{m:List (Option Nat)}{Nc:List Str}
theorem jQK (hc:X.calm=true)(hi:PI X tg iter wi)(hkind:sc.kind= .function)(hcell:∀ y∈sc.names,y.2≠ .cell)(hnames:∀ y∈sc.names,y.2= .local->sc.names.lookup y.1=some .local)
  (hfree:∀ y∈sc.names,y.2= .free->X.env.scope.names.lookup y.1=some .cell\/X.env.scope.names.lookup y.1=some .free) (hm:jBZ X sc Nc m)
  (hg:∀ cl C fp s H,PG (blk X sc cl C Nc fp s H) tg g) (ht:∀ cl C fp s H,PTs (blk X sc cl C Nc fp s H) ifs tt) (he:∀ cl C fp s H,PE (blk X sc cl C Nc fp s H) elt te)
  (hs:∀ x,foldedSetIterable iter X.env x=pure x) {fpos:Pos}{use:Option (Value->Sem Unit)}{R:Value->Shared->Prop}{ad:List (Addr×Obj)}{s:Shared}{σ:St}{H:Hp}{Q:VK}(I:Inv X ad σ H s) (h:tComp m wi g tt te σ H Q)
  (fin:∀ (D C:Addr) (H5:Hp) (z1:Shared) (r:Flow),(∃ mm,z1.heap.Ns C mm)->FpOk X ad H5 C->(∀ h',Heap.SameBut C z1.heap h'->Inv X ad σ H5 { z1 with heap:=h'})->Q (.ref D) H5->compPost (model X.prog X.w) X.A X.xe use R (.ref D) C (.ok r) z1):
  wpAny (model X.prog X.w) X.A (comprehension (.ListComp elt [⟨tg,iter,ifs,0⟩] sc pos) sc X.env fpos (newList []) false (eval iter X.env) use) R X.xe s:=
 jGN (tf:=fun _=>te) hc hi hkind hcell hnames hfree hm hg ht (fun cl C fp s H _ _ _ _=>he cl C fp s H) hs I h fin
theorem jSB {i:Nat}{x:Str}{pos' spos:Pos}(hN:X.N.Nodup)(hi':X.N[i]?=some x)(hx:Loc X.env.scope x)(hf:X.fn x=true\/X.env.scope.names.lookup x=some .local)(hsw:swapsWith (.ListComp elt [⟨tg,iter,ifs,0⟩] sc pos) (some (.Name x pos')) spos.line X.env=pure true)
  (hc:X.calm=true) (hi:PI X tg iter wi) (hkind:sc.kind= .function) (hcell:∀ y∈sc.names,y.2≠ .cell) (hnames:∀ y∈sc.names,y.2= .local->sc.names.lookup y.1=some .local)
  (hfree:∀ y∈sc.names,y.2= .free->X.env.scope.names.lookup y.1=some .cell\/X.env.scope.names.lookup y.1=some .free) (hm:jBZ X sc Nc m)
  (hg:∀ cl C fp s H,PG (blk X sc cl C Nc fp s H) tg g) (ht:∀ cl C fp s H,PTs (blk X sc cl C Nc fp s H) ifs tt) (he:∀ cl C fp s H,PE (blk X sc cl C Nc fp s H) elt te)
  (hs:∀ x,foldedSetIterable iter X.env x=pure x):PS X (.Assign [.Name x pos'] (.ListComp elt [⟨tg,iter,ifs,0⟩] sc pos) spos) (tAsg (tComp m wi g tt te) (kO i)):=by
 intro ad s σ H D I h
 rw[exec_Assign_Name_used _ _ _ _ hsw]
 refine ae (eR (ae ?_))
 show wpAny _ _ (do let _ <- comprehension (.ListComp elt [⟨tg,iter,ifs,0⟩] sc pos) sc X.env _ (newList []) false (eval iter X.env) (some (assign (.Name x pos') X.env))) _ _ _
 refine ae (b7 (jQK (R:=fun _ s'=>SP X ad D .next s') hc hi hkind hcell hnames hfree hm hg ht he hs ⟨I.ok,I.os,I.bare,I.lv,I.loc,I.cell,I.free,I.freeC,I.pin,I.hok,I.len⟩ h ?_) (fun _ s' hq=>ak (ak hq)) fun _ _ e=>e)
 intro D' C H5 z1 r ⟨mm,hn⟩ fC sb q
 have I1:=sb _ (Heap.SameBut.refl C z1.heap)
 refine wpAny_assign_Name (jGX (v:= .ref D') I1 hN hi' hx rfl (fun s2 I2 ⟨a,sa,ha⟩=>?_) hf)
 obtain⟨f0,f1,f2,f3,f4,f5⟩:=fC
 have hCa:C≠a:=by
  rcases ha with rfl | ha
  ·exact f1
  ·exact(f4 _ _ ha).symm
 refine⟨mm,hn.sameBut sa hCa,fun h' sb2=>⟨_,H5,?_,q⟩⟩
 refine I2.call' (s':= { s2 with heap:=h'}) (ch:=[C]) rfl ?_ (I2.hok.sameBut sb2 f0) I2.bare (fun b hb=>?_)
 ·have ne:∀ {b:Addr},b∉ [C]->b≠C:=fun h e=>h (by rw[e]; exact aK.mpr rfl)
  refine⟨fun b o e n hf hx=>(sb2.2 b (ne hx)).trans e,fun b o e n hf hx=>⟨o.slots,(sb2.2 b (ne hx)).trans e⟩,fun b o e n hx=>n,fun b o e hx=>⟨o,(sb2.2 b (ne hx)).trans e⟩,fun b xs e=>e,fun b o u e=>e,fun b ps e=>⟨#[],by rw[Array.append_empty]; exact e⟩⟩
 ·cases aK.mp hb
  exact⟨f3,f1,f4,f5⟩
end
structure SwC (e:Expr)(x:Str)(pos' spos:Pos)(X:Cx):Prop where
 h:swapsWith e (some (.Name x pos')) spos.line X.env=pure true
theorem jTH {i:Nat}{x:Str}{pos' spos pos:Pos}{tg iter elt:Expr}{ifs:List Expr}{sc:Scope}{wi:TI}{g:TG}{tt:TT}{te:TE}{m:List (Option Nat)}{Nc:List Str}(hN:X.N.Nodup)(hi':X.N[i]?=some x)(hx:Loc1 X x)(hsw:SwC (.ListComp elt [⟨tg,iter,ifs,0⟩] sc pos) x pos' spos X)
  (hc:X.calm=true) (hi:JI X tg iter wi) (hkind:sc.kind= .function) (hcell:∀ y∈sc.names,y.2≠ .cell) (hnames:∀ y∈sc.names,y.2= .local->sc.names.lookup y.1=some .local)
  (hfree:∀ y∈sc.names,y.2= .free->X.env.scope.names.lookup y.1=some .cell\/X.env.scope.names.lookup y.1=some .free) (hm:jBZ X sc Nc m)
  (hg:∀ cl C fp s H,JG (blk X sc cl C Nc fp s H) tg g) (ht:∀ cl C fp s H,JTs (blk X sc cl C Nc fp s H) ifs tt) (he:∀ cl C fp s H,JE (blk X sc cl C Nc fp s H) elt te)
  (hs:FoOk iter):JS X (.Assign [.Name x pos'] (.ListComp elt [⟨tg,iter,ifs,0⟩] sc pos) spos) (tAsg (tComp m wi g tt te) (kO i)):=
 ⟨jSB hN hi' hx.a hx.b hsw.h hc hi.h hkind hcell hnames hfree hm (fun cl C fp s H=>(hg cl C fp s H).h) (fun cl C fp s H=>(ht cl C fp s H).h) (fun cl C fp s H=>(he cl C fp s H).h) (hs.h _)⟩
end L2
namespace L2
open PySem PySem.Spec PyProof.Rows
variable {prog:Program}{w:World}{A:Around}{E:Value->Shared->Prop}
variable {X:Cx}
variable {s:Shared}
variable {x:Str}{C:Addr}{e:Expr}{t:TA}{np cpos pos:Pos}
section
variable {W:Hp->Prop}
end
variable {M:Model}{h:Heap}
section
variable {g:Array GenState}{d:Drawn}{tk:Nat}{os:OsState}
end
variable {ad:List (Addr×Obj)}{H H':Hp}
section
variable {σ:List (Option V)}{h':Heap}
end
variable {T:Addr}
section
variable {σ:St}{h2:Heap}{x T':Addr}
end
section
variable {σ:St}{x:Addr}
end
section
variable {x:Addr}{Q:Unit->Shared->Prop}
end
variable {n c:Str}{i j:Nat}{f B:Addr}{fd:FuncData}{ps:List Str}{sp:Sp}{es:List Expr}{yp gp cp ap rp hp tp:Pos}
section
variable {y g:Str}{k:Nat}{r:Expr}{te:Addr->TE}
end
variable {tg:Expr}
variable {g:TG}{iter elt:Expr}{ifs:List Expr}{sc:Scope}{wi:TI}{tt:TT}{te:TE}{m:List (Option Nat)}{Nc:List Str}
variable {a:Addr}{p:Pos}
section
variable {k:Nat}{sp:Addr->Sp}
end
variable {P:Program}{mg:Str->Option Value}{lv:Heap}{N:List Str}{qual:Str}{lu:List Env}
section
variable {CX:CXT}{K:W.Frag}{lw:Value}{E:XK}
end
section
variable {y g:Str}{k:Nat}{te t1:TEX}
end
def nfP (x q:Str)(args:Arguments)(body:List Stmt)(scope:Scope)(cl:List (Str×Addr))(a c:Addr):Heap->Prop:=fun h=>∃ doc pm ctv,h.get? a=some (fnMade x q args body scope cl doc pm c ctv)
def ncP (q:Str)(c:Addr):Heap->Prop:=fun h=>h.CodeRec (.ref c) q
abbrev onePs (pos:Pos)(c:Addr):Array Value:=#[rawInt pos.line,rawInt pos.col, .ref c]
def TabOk (H:Hp)(T:Addr)(pos:Pos)(q:Str):Prop:=H T=some (.tbl #[])\/∃ c,H T=some (.tbl (onePs pos c))/\H c=some (.ext (ncP q c))
def ExtT (T:Addr)(H H':Hp):Prop:=∀ b o,H b=some o->b≠T->H' b=some o
def qJ (lv:Heap)(mg:Str->Option Value):Prop:=∃ bm o,mg "__builtins__" =some (.ref bm)/\bm≠builtinsNs/\bm≠mainGlobals/\lv.get? bm=some o/\o.cls= .type "module" /\o.dict=some builtinsNs/\o.data= .plain
theorem nfP.stay {x q:Str}{args:Arguments}{body:List Stmt}{scope:Scope}{cl:List (Str×Addr)}{a c:Addr}(h1 h2:Heap)(p:nfP x q args body scope cl a c h1)(k:∀ o,h1.get? a=some o->h2.get? a=some o):nfP x q args body scope cl a c h2:=by
 obtain⟨d,m,t,e⟩:=p
 exact⟨d,m,t,k _ e⟩
theorem ncP.stay {q:Str}{c:Addr}(h1 h2:Heap)(p:ncP q c h1)(k:∀ o,h1.get? c=some o->h2.get? c=some o):ncP q c h2:=by
 obtain⟨c',o,vs,t,e,g,r⟩:=p
 cases e
 exact⟨c,o,vs,t,rfl,k _ g,r⟩
theorem ncP.is {q:Str}{c:Addr}{h:Heap}(p:ncP q c h):∃ o,h.get? c=some o:=by
 obtain⟨c',o,vs,t,e,g,r⟩:=p
 cases e
 exact⟨o,g⟩
def tDef (x q:Str)(args:Arguments)(body:List Stmt)(scope:Scope)(cl:List (Str×Addr))(T:Addr)(pos:Pos)(j:Nat):TS:=fun D σ H=>TabOk H T pos q/\∀ a c H',H' a=some (.ext (nfP x q args body scope cl a c))->H' c=some (.ext (ncP q c))->H' T=some (.tbl (onePs pos c))->ExtT T H H'->H a=none->D.nx (σ.set j (some (.ref a))) H'
section
variable {σ:St}
theorem Inv.laidX {h':Heap}{t':Nat}{φ:Heap->Prop}{a:Addr}(I:Inv X ad σ H s)(k:∀ b u,s.heap.get? b=some u->h'.get? b=some u)(hp:s.heap.objs.size<=a)(p:φ h')(ho:∃ o,h'.get? a=some o)(st:∀ h1 h2:Heap,φ h1->(∀ o,h1.get? a=some o->h2.get? a=some o)->φ h2):Inv X ad σ (upd H a (.ext φ)) { s with heap:=h',toks:=t'} :=
 I.laid k hp ⟨p,ho,st⟩
theorem Inv.grown {h':Heap}{t':Nat}{T c:Addr}{ps more:Array Value}{φ:Heap->Prop}(I:Inv X ad σ H s)(hT:H T=some (.tbl ps))(k:Heap.ExtBut T s.heap h')(e:h'.get? T=some { cls:= .none,data:= .fields (ps++more)})
  (hc:s.heap.objs.size<=c) (p:φ h') (ho:∃ o,h'.get? c=some o) (st:∀ h1 h2:Heap,φ h1->(∀ o,h1.get? c=some o->h2.get? c=some o)->φ h2):Inv X ad σ (upd (upd H T (.tbl (ps++more))) c (.ext φ)) { s with heap:=h',toks:=t'} :=by
 have hcn:H c=none:=I.hok.fresh hc
 have nT:∀ {b:Addr},H b=none->b≠T:=fun n z=>by rw[z,hT] at n; cases n
 have cT:T≠c:=fun z=>by rw[z,hcn] at hT; cases hT
 have nc:∀ {b:Addr}{o:Obj},s.heap.get? b=some o->b≠c:=fun q z=>absurd (aE q) (by rw[z]; exact Nat.not_lt.mpr hc)
 have mc:∀ {b:Addr}{o:HO},H b=some o->b≠c:=fun q=>jA q hcn
 refine I.un ⟨fun b o q n _ _=>k b o (nT n) q,fun b o q n _ _=>⟨o.slots,k b o (nT n) q⟩,fun b o q n _=>by rw[j8 (nc q),j8 (nT n)]; exact n,fun b o q _=>?_,fun b xs q=>?_,fun b o u q=>?_,fun b qs q=>?_⟩ fun b o q=>?_
 ·by_cases hb:b=T
  ·rw[hb]; exact⟨_,e⟩
  ·exact⟨o,k b o hb q⟩
 ·rw[j8 (mc q),j8 (fun z=>by rw[z,hT] at q; cases q)]; exact q
 ·rw[j8 (mc q),j8 (fun z=>by rw[z,hT] at q; cases q)]; exact q
 ·by_cases hb:b=T
  ·subst hb
   rw[hT] at q
   cases q
   exact⟨more,by rw[j8 cT,j5]⟩
  ·exact⟨#[],by rw[j8 (mc q),j8 hb,q]; simp⟩
 ·by_cases hb1:b=c
  ·subst hb1
   rw[j5] at q
   cases q
   exact⟨p,ho,st⟩
  rw[j8 hb1] at q
  by_cases hb:b=T
  ·subst hb
   rw[j5] at q
   cases q
   exact e
  ·rw[j8 hb] at q
   refine(I.hok b o q).stay (fun d u hd z=>k d u ?_ z) (fun d z=>?_) fun d xs z=>?_
   ·rcases hd with rfl | hd
    ·exact hb
    ·exact fun y=>by rw[y,hT] at hd; cases hd
   ·rw[j8 (mc z),j8 (fun y=>by rw[y,hT] at z; cases z)]; exact z
   ·rw[j8 (mc z),j8 (fun y=>by rw[y,hT] at z; cases z)]; exact z
theorem jUO {x:Str}{args:Arguments}{body:List Stmt}{scope:Scope}{pos:Pos}{c0 T:Addr}{j:Nat}(hN:X.N.Nodup)(hj:X.N[j]?=some x)(lx:Loc X.env.scope x)(hcode:X.env.code= .ref c0)(CH:PySem.W.CodeHd X.lv c0 T)(hbm:qJ X.lv X.mg)
  (hfree:∀ y∈scope.names,y.2= .free->X.env.scope.names.lookup y.1=some .cell\/X.env.scope.names.lookup y.1=some .free) (hdf:defaultsOf args X.env=([],[])) (han:annTrees args none X.env=[])
  (hf:X.fn x=true\/X.env.scope.names.lookup x=some .local:=by first | exact .inl rfl | exact .inr rfl | assumption):
  PS X (.FunctionDef x args body [] none [] scope none x pos) (tDef x (qualnameIn X.env x x) args body scope (jO X.env.cells scope.names []) T pos j):=by
 intro ad s σ H D I h
 obtain⟨tab,h⟩:=h
 rw[exec_def,hdf,han]
 refine ae (eR (ae (bS ?_)))
 refine ae (ak (ae (bS (ak (bS (ae (ak ?_)))))))
 have hcl:closureFor scope X.env=pure (jO X.env.cells scope.names []):=jJA fun y hy hz=>I.ok.has y.1 (hfree y hy hz)
 have hg:s.heap.Ns mainGlobals X.mg:=I.mod.glob.keeps I.bk
 have C:=CH.keeps I.bk
 have gT:∀ {ps:Array Value},H T=some (.tbl ps)->mainGlobals≠T:=fun hT z=>by
  obtain⟨o,es,ep,e,_⟩:=I.mod.glob
  have:=(I.bs _ _ e).2
  rw[z,hT] at this
  cases this
 have bT:∀ {ps:Array Value},H T=some (.tbl ps)->s.heap.BuiltinsAt X.mg T:=fun hT=>by
  obtain⟨bm,o,h1,h2,h3,h4,h5,h6,h7⟩:=hbm
  refine⟨bm,o,h1,h2,h3,fun z=>?_,(I.bs _ _ h4).1,h5,h6,h7⟩
  have:=(I.bs _ _ h4).2
  rw[z,hT] at this
  cases this
 rcases tab with hT | ⟨c,hT,hc⟩
 ·refine PySem.W.makeFunction_K hcl I.ok.glob hg hcode C (I.hok T _ hT) trivial rfl (gT hT) (bT hT) fun c ctv doc h' tk k1 k2 k3 k4 k5=>?_
  obtain⟨oc,hoc⟩:=ncP.is (q:=qualnameIn X.env x x) k4
  have I1:Inv X ad σ (upd (upd H T (.tbl (#[]++onePs pos c))) c (.ext (ncP (qualnameIn X.env x x) c))) { s with heap:=h',toks:=tk} :=I.grown hT k1 k5 k2 k4 ⟨oc,hoc⟩ ncP.stay
  have I2:=I1.laidX (t':=tk) (a:=h'.objs.size) (φ:=nfP x (qualnameIn X.env x x) args body scope (jO X.env.cells scope.names []) h'.objs.size c) (h':=h'.push (fnMade x (qualnameIn X.env x x) args body scope (jO X.env.cells scope.names []) doc ((X.mg "__name__").getD .none) c ctv)) (fun b u q=>ag _ q) (am _) ⟨doc,_,ctv,aA _ rfl⟩ ⟨_,aA _ rfl⟩ nfP.stay
  have hcn:H c=none:=I.hok.fresh k2
  have han:H h'.objs.size=none:=I.hok.fresh (bf k2 (cY k3))
  have ca:c≠h'.objs.size:=aQ k3
  have Tc:T≠c:=fun z=>by rw[z,hcn] at hT; cases hT
  have Ta:T≠h'.objs.size:=fun z=>by rw[z,han] at hT; cases hT
  refine ae (eR (ae (wpAny_bindName (jDM (v:= .ref h'.objs.size) I2 hN hj lx rfl (fun s' I'=>ak ⟨_,_,I',?_⟩) hf))))
  refine h _ c _ j5 (by rw[j8 ca,j5]) (by rw[j8 Ta,j8 Tc,j5,lb]) (fun b o e n=>?_) han
  rw[j8 (jA e han),j8 (jA e hcn),j8 n]
  exact e
 ·refine PySem.W.makeFunction_hit (cv:= .ref c) hcl I.ok.glob hg hcode C (I.hok T _ hT) (by exact trivial) (by simp [codeAmong,rawInt]) (bT hT) fun ctv doc h' tk k1 k2=>?_
  have I2:=I.laidX (t':=tk) (a:=h'.objs.size) (φ:=nfP x (qualnameIn X.env x x) args body scope (jO X.env.cells scope.names []) h'.objs.size c) (h':=h'.push (fnMade x (qualnameIn X.env x x) args body scope (jO X.env.cells scope.names []) doc ((X.mg "__name__").getD .none) c ctv)) (fun b u q=>ag _ (k1 b u q)) k2 ⟨doc,_,ctv,aA _ rfl⟩ ⟨_,aA _ rfl⟩ nfP.stay
  have han:H h'.objs.size=none:=I.hok.fresh k2
  refine ae (eR (ae (wpAny_bindName (jDM (v:= .ref h'.objs.size) I2 hN hj lx rfl (fun s' I'=>ak ⟨_,_,I',?_⟩) hf))))
  refine h _ c _ j5 (by rw[j8 (jA hc han)]; exact hc) (by rw[j8 (jA hT han)]; exact hT) (fun b o e n=>?_) han
  rw[j8 (jA e han)]
  exact e
end
theorem jHH {β:Type}{x:Str} :∀ {l:List (Str×β)},(∀ v,(x,v)∉l)->l.lookup x=none
 | [],_=>rfl
 | (y,v)::r,h=>by
  rw[be,bO.mpr (fun e=>h v (by rw[e]; exact ai))]
  exact jHH fun w hw=>h w (ah _ hw)
theorem jCY {β:Type}{x:Str} :∀ {l m:List (Str×β)},(l++m).lookup x=(l.lookup x).or (m.lookup x)
 | [],_=>rfl
 | (y,v)::r,m=>by
  rw[List.cons_append,be,be,jCY]
  cases x==y <;> rfl
theorem jF6:∀ {ps:List Str}{us:List Value}{i:Nat}{x:Str}{u:Value},ps.Nodup->ps[i]?=some x->us[i]?=some u->(ps.zip us).reverse.lookup x=some u
 | [],_,_,_,_,_,h,_=>by simp at h
 | _::_,[],_,_,_,_,_,h=>by simp at h
 | p::ps,w::us,0,x,u,nd,h1,h2=>by
  simp at h1 h2
  subst h1 h2
  rw[eL,List.reverse_cons,jCY,jHH fun v hv=>(cE.mp nd).1 (dI (List.mem_reverse.mp hv)).1,be,gF]
  rfl
 | p::ps,w::us,i+1,x,u,nd,h1,h2=>by
  rw[eL,List.reverse_cons,jCY,jF6 (i:=i) (cE.mp nd).2 (by simpa using h1) (by simpa using h2)]
  rfl
def cxN (P:Program)(w:World)(K:W.Frag)(mg:Str->Option Value)(lv:Heap)(N:List Str)(qual:Str)(scope:Scope)(f:Addr)(cd:Value)(cl:List (Str×Addr))(A:Around)(lu:List Env)(s:Shared)(H:Hp):Cx where
 prog:=P
 w:=w
 K:=K
 mg:=mg
 lv:=lv
 A:=A.deeper (envX qual scope s.heap.objs.size f cd cl)
 N:=N
 s₀:=s
 H₀:=H
 env:=envX qual scope s.heap.objs.size f cd cl
 lu:=lu
 stack:=envX qual scope s.heap.objs.size f cd cl::lu
 ex:=[]
 calm:=true
 fn:=fun _=>false
 pn:=[]
 xe:=fun _ _=>False
structure ClOk (cl:List (Str×Addr))(s:Shared)(H:Hp):Prop where
 inj:∀ x y c,cl.lookup x=some c->cl.lookup y=some c->x=y
 cell:∀ x c,cl.lookup x=some c->(∃ v,s.heap.IsCell c v)/\H c=none
def FvOk (fs:List Str)(fv:List V)(cl:List (Str×Addr))(s:Shared):Prop:=fv.length=fs.length/\∀ (i:Nat) (x:Str) (v:V),fs[i]?=some x->fv[i]?=some v->∃ c u,cl.lookup x=some c/\RelV v u/\s.heap.IsCell c (some u)
structure NScope (N ps fs:List Str)(sc:Scope):Prop where
 kind:sc.kind= .function
 co:sc.isCoroutine=false
 gen:sc.isGenerator=false
 nd:N.Nodup
 pre:N.take (ps.length+fs.length)=ps++fs
 par:∀ x∈ps,sc.names.lookup x=some .local
 fre:∀ x∈fs,sc.names.lookup x=some .free
 all:∀ x,sc.names.lookup x=some .free->x∈fs
 nocell:∀ y∈sc.names,y.2≠ .cell
def yK (N:List Str)(vs fv:List V):St:=y0 N (vs++fv)
variable {scope:Scope}{cd:Value}{cl:List (Str×Addr)}{fv:List V}
section
variable {K:W.Frag}{fs:List Str}{us:List Value}{vs:List V}
theorem jFF {h1:Heap}{tk:Nat}(S:NScope N ps fs scope)(hd:A.handled=none)(e0:Env0 P w K mg lv A lu s H)(hl:us.length=ps.length)(r:Vals vs us)(C:ClOk cl s H)(Fv:FvOk fs fv cl s)
  (ns:h1.Ns s.heap.objs.size fun x=>(ps.zip us).reverse.lookup x) (hk:∀ b o,s.heap.get? b=some o->h1.get? b=some o):
  Inv (cxN P w K mg lv N qual scope f cd cl A lu s H) [] (yK N vs fv) H { s with heap:=h1,toks:=tk} :=by
 have hpl:ps.length+fs.length<=N.length:=by have:=bZ List.length S.pre; rw[bN,aH] at this; lia
 have noA:∀ b:Addr,b∉(cxN P w K mg lv N qual scope f cd cl A lu s H).ex:=fun b z=>absurd (show b∈([]:List Addr) from z) (by simp)
 have vl:vs.length=ps.length:=r.length.trans hl
 refine⟨⟨e0.mod,S.kind,rfl,rfl,am _,C.inj,fun y hy=>?_,fun y c z=>(nomatch z),fun _=>hd,gO e0.frames, .inr ⟨rfl,rfl⟩,fun b z=>absurd z (noA b),e0.bs,e0.bsz,fun b _ _=>noA b,fun b z=>absurd z (noA b),e0.funs,e0.frf⟩,
  rfl,e0.bare,Un.kept hk,⟨_,ns,fun i y v h1' h2 h3=>?_⟩,fun y c h=>?_,e0.hok.fresh (am _),fun y c h=>(C.cell y c h).2,fun p hp=>absurd (show p∈([]:List (Addr×Obj)) from hp) (by simp),e0.hok.kept hk,?_⟩
 ·have hy:scope.names.lookup y=some .cell\/scope.names.lookup y=some .free:=hy
  rcases hy with hy | hy
  ·exact absurd rfl (S.nocell _ (bF hy))
  ·have m:=S.all y hy
   obtain⟨i,hi⟩:=bB m
   have hi2:i<fv.length:=by rw[Fv.1]; exact(aj.mp hi).1
   obtain⟨c,u,e,_⟩:=Fv.2 i y fv[i] hi (by simp [hi2])
   exact⟨c,e⟩
 ·have h1':N[i]?=some y:=h1'
  have hlen:(vs++fv).length=ps.length+fs.length:=by rw[aH,vl,Fv.1]
  have hi:i<(vs++fv).length:=by
   unfold yK y0 at h2
   by_cases hi:i<(vs++fv).length
   ·exact hi
   ·rw[bh (by simpa using hi)] at h2
    rw[iT] at h2
    split at h2 <;> cases h2
  have hv:(vs++fv)[i]?=some v:=by
   unfold yK y0 at h2
   rw[b8 (by simpa using hi),aR] at h2
   cases e:(vs++fv)[i]? with
   | none=>rw[e] at h2; cases h2
   | some a=>rw[e] at h2; cases h2; rfl
  have hy:(ps++fs)[i]?=some y:=by
   rw[<- S.pre,cA (by lia)]
   exact h1'
  by_cases hi1:i<ps.length
  ·rw[b8 hi1] at hy
   rw[b8 (by lia)] at hv
   obtain⟨u,hu,rv⟩:=r.get hv
   have ndP:ps.Nodup:=by
    have:(ps++fs).Nodup:=by rw[<- S.pre]; exact S.nd.sublist (dY _ _)
    exact(gm.mp this).1
   exact⟨u,rv, .inl ⟨S.par y (aJ hy),jF6 ndP hy hu⟩⟩
  ·rw[bh (by lia)] at hy
   rw[bh (by lia),vl] at hv
   obtain⟨c,u,e,rv,o,ho,hd⟩:=Fv.2 _ y v hy hv
   exact⟨u,rv, .inr ⟨.inr (S.fre y (aJ hy)),c,e,o,hk _ _ ho,hd⟩⟩
 ·obtain⟨⟨v,o,ho,hd⟩,_⟩:=C.cell y c h
  exact⟨v,o,hk _ _ ho,hd⟩
 ·unfold yK y0
  show _=N.length
  rw[aH,af,gz,aH,vl,Fv.1]
  lia
end
structure FnN (P:Program)(w:World)(K:W.Frag)(mg:Str->Option Value)(lv:Heap)(k:Nat)(x q:Str)(args:Arguments)(body:List Stmt)(scope:Scope)(ps fs:List Str)(sp:List V->Sp):Prop where
 len:∀ fv vs H Q E,sp fv vs H Q E->vs.length=ps.length
 run:∀ (A:Around) (lu:List Env) (s:Shared) (H:Hp) (a c:Addr) (cl:List (Str×Addr)) (us:List Value) (vs fv:List V) (Q:VK) (E:XK),Room k A->Env0 P w K mg lv A lu s H->nfP x q args body scope cl a c s.heap->ncP q c s.heap->ClOk cl s H->FvOk fs fv cl s->Vals vs us->sp fv vs H Q E->
  codeAny (model P w) A (.call (.ref a) ⟨us,[]⟩) (CR CX0 lu P w H s Q E) s
theorem jW0 {P:Program}{w:World}{K:W.Frag}{mg:Str->Option Value}{lv:Heap}{k:Nat}{x q:Str}{args:Arguments}{body:List Stmt}{scope:Scope}{N ps fs:List Str}{sp:List V->Sp}(S:NScope N ps fs scope)(len:∀ fv vs H Q E,sp fv vs H Q E->vs.length=ps.length)
  (hb:∀ cl doc pm c ctv (us:List Value),us.length=ps.length->bindArgs (PySem.W.fnX x q args body scope cl .none .none doc pm none (.ref c) ctv) ⟨us,[]⟩=pure (ps.zip us))
  (hbody:∀ (A:Around) (lu:List Env) (s:Shared) (H:Hp) (a c:Addr) (cl:List (Str×Addr)) (vs fv:List V) (Q:VK) (E:XK),Room k (A.deeper (envX q scope s.heap.objs.size a (.ref c) cl))->sp fv vs H Q E->
   ∃ t,PSs (cxN P w K mg lv N q scope a (.ref c) cl A lu s H) body t/\t { nx:=fun _ H'=>Q .non H',rt:=Q} (yK N vs fv) H):
  FnN P w K mg lv (k+1) x q args body scope ps fs sp:=by
 refine⟨len,fun A lu s H a c cl us vs fv Q E hr e0 hf hc C Fv r hsp=>?_⟩
 have hl:us.length=ps.length:=r.length.symm.trans (len _ _ _ _ _ hsp)
 obtain⟨doc,pm,ctv,ho⟩:=hf
 have lim:s.heap.NoLimit:=e0.mod.nolimit.keeps fun b o e=>(e0.bs b o e).1
 refine codeAny_call_def (body:=body) (binds:=ps.zip us) hr.depth ho rfl lim hc rfl (.of_eq (hb cl doc pm c ctv us hl)) S.nocell (fun y hy=>S.par y.1 (dI hy).1) (fun h1 ns hk=>?_) S.co S.gen S.kind
 obtain⟨t,ht,hq⟩:=hbody A lu s H a c cl vs fv Q E (hr.deeper _) hsp
 have I:Inv (cxN P w K mg lv N q scope a (.ref c) cl A lu s H) [] (yK N vs fv) H { s with heap:=h1,toks:=s.toks+(ps.zip us).length} :=jFF S hr.hd e0 hl r C Fv ns hk
 refine b7 (ht [] _ (yK N vs fv) H _ I hq) (fun fl s' hs=>?_) fun e s' hs=>False.elim hs
 have fin:∀ {σ':St}{H':Hp}{v:V}{u:Value},Inv (cxN P w K mg lv N q scope a (.ref c) cl A lu s H) [] σ' H' s'->RelV v u->Q v H'->CE lu P w H s Q u s':=
  fun {σ' H' v u} J rv q=>⟨v,H',J.os,J.bare,J.lv,J.hok,rv,q⟩
 cases fl with
 | ret u=>
  obtain⟨v,σ',H',J,rv,q⟩:=hs
  exact fin J rv q
 | next=>
  obtain⟨σ',H',J,q⟩:=hs
  exact fin (v:=V.non) (u:=Value.none) J rfl q
 | brk=>
  obtain⟨_,_,_,q⟩:=hs
  exact False.elim q
 | cont=>
  obtain⟨_,_,_,q⟩:=hs
  exact False.elim q
def jDS (σ:St)(is:List Nat)(fv:List V):Prop:=is.map (fun i=>(σ[i]?).getD none)=fv.map some
def tNest (σ0:Option St)(j:Nat)(is:List Nat)(x q:Str)(args:Arguments)(body:List Stmt)(scope:Scope)(cl:List (Str×Addr))(sp:List V->Sp)(t:TA):TE:=fun σ H Q=>∃ a,σ[j]?=some (some (.ref a))/\t σ H fun vs H1=>∃ c fv,H1 a=some (.ext (nfP x q args body scope cl a c))/\H1 c=some (.ext (ncP q c))/\jDS (σ0.getD σ) is fv/\sp fv vs H1 Q E0
section
variable {σ:St}{fs:List Str}{is:List Nat}
def FsAt (X:Cx)(fs:List Str)(is:List Nat):Prop:=is.length=fs.length/\∀ (k:Nat) (x:Str),fs[k]?=some x->∃ i,is[k]?=some i/\X.N[i]?=some x/\(X.env.scope.names.lookup x=some .cell\/X.env.scope.names.lookup x=some .free)
theorem Inv.clOk (I:Inv X ad σ H s)(hfree:∀ y∈scope.names,y.2= .free->X.env.scope.names.lookup y.1=some .cell\/X.env.scope.names.lookup y.1=some .free):ClOk (jO X.env.cells scope.names []) s H:=by
 have sub:∀ x c,(jO X.env.cells scope.names []).lookup x=some c->X.env.cells.lookup x=some c:=jAF scope.names [] (fun y hy hf=>I.ok.has y.1 (hfree y hy hf)) (fun x c e=>by cases e)
 exact⟨fun x y c h1 h2=>I.ok.inj x y c (sub x c h1) (sub y c h2),fun x c h=>⟨I.cell x c (sub x c h),I.freeC x c (sub x c h)⟩⟩
theorem Inv.fvOk (I:Inv X ad σ H s)(hfree:∀ y∈scope.names,y.2= .free->X.env.scope.names.lookup y.1=some .cell\/X.env.scope.names.lookup y.1=some .free)(hfs:∀ x∈fs,scope.names.lookup x=some .free)(ha:FsAt X fs is)(hs:jDS σ is fv):FvOk fs fv (jO X.env.cells scope.names []) s:=by
 have hl:fv.length=fs.length:=by
  have:=bZ List.length hs
  rw[af,af] at this
  rw[<- this,ha.1]
 refine⟨hl,fun k x v h1 h2=>?_⟩
 obtain⟨i,hi,hN,hk⟩:=ha.2 k x h1
 have e:(σ[i]?).getD none=some v:=by
  have:=bZ (fun l=>l[k]?) hs
  simp only [aR,hi,h2,map_some] at this
  exact bq this
 have e2:σ[i]?=some (some v):=by
  cases q:σ[i]? with
  | none=>rw[q] at e; cases e
  | some z=>rw[q] at e; exact bZ some e
 obtain⟨m,hn,hl⟩:=I.loc
 obtain⟨u,r,l⟩:=hl i x v hN e2 (.inr hk)
 obtain⟨c,hc⟩:=jAU (cells:=X.env.cells) (x:=x) scope.names [] (.inl (jAP (hfs x (aJ h1))))
 have sub:=jAF (cells:=X.env.cells) scope.names [] (fun y hy hf=>I.ok.has y.1 (hfree y hy hf)) (fun x c e=>by cases e) x c hc
 rcases l with ⟨lk,_⟩ | ⟨_,c',hc',z⟩
 ·have lk':X.env.scope.names.lookup x=some .local:=lk
  rcases hk with z | z <;> rw[lk'] at z <;> cases z
 ·rw[sub] at hc'
  cases hc'
  exact⟨c,u,hc,r,z⟩
end
section
variable {k:Nat}{q:Str}{args:Arguments}{body:List Stmt}{fs:List Str}{is:List Nat}{sp:List V->Sp}
theorem jJS {Y:Cx}{ad:List (Addr×Obj)}{σ:St}{H:Hp}{s:Shared}{Q:VK}{cl:List (Str×Addr)}{a c:Addr}{us:List Value}{vs fv:List V}(F:FnN Y.prog Y.w Y.K Y.mg Y.lv k x q args body scope ps fs sp)(hr:Room k Y.A)(I:Inv Y ad σ H s)(h1:H a=some (.ext (nfP x q args body scope cl a c)))(h2:H c=some (.ext (ncP q c)))(C:ClOk cl s H)(Fv:FvOk fs fv cl s)(r:Vals vs us)(hs:sp fv vs H Q E0):
  wpAny (model Y.prog Y.w) Y.A (call (.ref a) us) (EP Y ad σ Q) Y.xe s:=by
 obtain⟨p1,_,_⟩:=(show ObjOk Y.prog Y.w H s.heap a (.ext _) from I.hok a _ h1)
 obtain⟨p2,_,_⟩:=(show ObjOk Y.prog Y.w H s.heap c (.ext _) from I.hok c _ h2)
 refine io (dN (F.run Y.A Y.stack s H a c cl us vs fv Q E0 hr I.env0 p1 p2 C Fv r hs) fun r s' hq=>?_)
 cases r with
 | error e=>exact hq.elim
 | ok fl=>
  cases fl with
  | ret u=>exact I.after hq
  | next=>exact False.elim hq
  | brk=>exact False.elim hq
  | cont=>exact False.elim hq
theorem jOD {Y:Cx}{ad:List (Addr×Obj)}{σ:St}{H:Hp}{s:Shared}{cl:List (Str×Addr)}{a c:Addr}(I:Inv Y ad σ H s)(h1:H a=some (.ext (nfP x q args body scope cl a c))):PySem.W.FnAt a s.heap:=by
 obtain⟨⟨d,m,t,e⟩,_,_⟩:=(show ObjOk Y.prog Y.w H s.heap a (.ext _) from I.hok a _ h1)
 exact⟨_,_,_,_,e⟩
theorem jTI (F:FnN X.prog X.w X.K X.mg X.lv k x q args body scope ps fs sp)(hr:Room k X.A)(hN:X.N[j]?=some x)(hv:Vis1 X x)(hfree:∀ y∈scope.names,y.2= .free->X.env.scope.names.lookup y.1=some .cell\/X.env.scope.names.lookup y.1=some .free)(hfs:∀ x∈fs,scope.names.lookup x=some .free)(hat:FsAt X fs is)
  (ha:JA X (e::es) t) (he:starEach (e::es) X.env=(false,eval e X.env)::starEach es X.env) (hdb:(x==("__debug__" :Str))=false:=by decide) (hcd:(x==("__classdict__" :Str))=false:=by decide) (hpl:(backTo pos (starEach es X.env)).any (·.1)=false:=by rfl):
  JE X (.Call (.Name x p) (e::es) [] pos) (tNest none j is x q args body scope (jO X.env.cells scope.names []) sp t):=by
 refine⟨fun ad s σ H Q I h=>?_⟩
 obtain⟨a,hj,h⟩:=h
 refine cL (ly (jH9 (pos:=p) hN hv.a hdb hcd ad s σ H (fun v H'=>v= .ref a/\H'=H) I ⟨_,hj,rfl,rfl⟩) fun v s1 ⟨v',H1,I1,r1,q1,q2⟩=>?_)
 subst q1 q2
 cases (show v=Value.ref a from r1)
 have hX:=ly (ha.h pos ad s1 σ H1 _ I1 h) fun us s2 (z:AP X ad σ _ us s2)=>show PySem.W.FnAt a s2.heap/\wpAny (model X.prog X.w) X.A (call (.ref a) ([]++us)) (EP X ad σ Q) X.xe s2 from by
  obtain⟨vs,H2,I2,r,c,fv,h1,h2,h3,h4⟩:=z
  exact⟨jOD I2 h1,jJS F hr I2 h1 h2 (I2.clOk hfree) (I2.fvOk hfree hfs hat h3) r h4⟩
 rw[he] at hX ⊢
 exact g5 (by show ((false || (backTo pos (starEach es X.env)).any (·.1)) || false)=false; rw[hpl]; rfl) ji (dZ hX)
theorem jQ7 {sc:Scope}{cl:List (Str×Addr)}{C:Addr}{Nc:List Str}{fp:List Addr}{s0:Shared}{H0:Hp}{ad0:List (Addr×Obj)}{σ0:St}(I0:Inv X ad0 σ0 H0 s0)(hfp:∀ b∈fp,FpOk X ad0 H0 b)
  (F:FnN X.prog X.w X.K X.mg X.lv k x q args body scope ps fs sp) (hr:Room k X.A) (hN:Nc[j]?=some x) (hv:Vis1 (blk X sc cl C Nc fp s0 H0) x) (hfree:∀ y∈scope.names,y.2= .free->X.env.scope.names.lookup y.1=some .cell\/X.env.scope.names.lookup y.1=some .free) (hfs:∀ x∈fs,scope.names.lookup x=some .free) (hat:FsAt X fs is)
  (ha:JA (blk X sc cl C Nc fp s0 H0) (e::es) t) (he:starEach (e::es) (blk X sc cl C Nc fp s0 H0).env=(false,eval e (blk X sc cl C Nc fp s0 H0).env)::starEach es (blk X sc cl C Nc fp s0 H0).env) (hdb:(x==("__debug__" :Str))=false:=by decide) (hcd:(x==("__classdict__" :Str))=false:=by decide) (hpl:(backTo pos (starEach es (blk X sc cl C Nc fp s0 H0).env)).any (·.1)=false:=by rfl):
  JE (blk X sc cl C Nc fp s0 H0) (.Call (.Name x p) (e::es) [] pos) (tNest (some σ0) j is x q args body scope (jO X.env.cells scope.names []) sp t):=by
 have sub:∀ x c,(jO X.env.cells scope.names []).lookup x=some c->X.env.cells.lookup x=some c:=jAF scope.names [] (fun y hy hf=>I0.ok.has y.1 (hfree y hy hf)) (fun x c e=>by cases e)
 have nfp:∀ {x c},X.env.cells.lookup x=some c->c∉fp:=fun {x c} h z=>(hfp c z).2.2.2.2.1 x c h rfl
 refine⟨fun ad s σ H Q I h=>?_⟩
 obtain⟨a,hj,h⟩:=h
 refine cL (ly (jH9 (pos:=p) (show (blk X sc cl C Nc fp s0 H0).N[j]?=some x from hN) hv.a hdb hcd ad s σ H (fun v H'=>v= .ref a/\H'=H) I ⟨_,hj,rfl,rfl⟩) fun v s1 ⟨v',H1,I1,r1,q1,q2⟩=>?_)
 subst q1 q2
 cases (show v=Value.ref a from r1)
 have hX:=ly (ha.h pos ad s1 σ H1 _ I1 h) fun us s2 (z:AP (blk X sc cl C Nc fp s0 H0) ad σ _ us s2)=>show PySem.W.FnAt a s2.heap/\wpAny (model X.prog X.w) X.A (call (.ref a) ([]++us)) (EP (blk X sc cl C Nc fp s0 H0) ad σ Q) (blk X sc cl C Nc fp s0 H0).xe s2 from by
  obtain⟨vs,H2,I2,r,c,fv,h1,h2,h3,h4⟩:=z
  have un:Un (frs X.stack) fp H0 H2 s0.heap s2.heap:=I2.lv
  have cellK:∀ {y d v},X.env.cells.lookup y=some d->s0.heap.IsCell d v->s2.heap.IsCell d v:=fun {y d v} hd ⟨o,ho,hq⟩=>by
   obtain⟨sl,e⟩:=un.any ho (I0.freeC y d hd) (nfp hd)
   exact⟨_,e,hq⟩
  have C0:=I0.clOk hfree
  obtain⟨f1,f2⟩:=I0.fvOk hfree hfs hat h3
  refine⟨jOD I2 h1,jJS (Y:=blk X sc cl C Nc fp s0 H0) F hr I2 h1 h2 ⟨C0.inj,fun y d hd=>?_⟩ ⟨f1,fun i y v e1 e2=>?_⟩ r h4⟩
  ·obtain⟨⟨v,z⟩,n⟩:=C0.cell y d hd
   obtain⟨o,ho,hq⟩:=id z
   exact⟨⟨v,cellK (sub y d hd) z⟩,un.free d o ho n (nfp (sub y d hd))⟩
  ·obtain⟨d,u,g1,g2,g3⟩:=f2 i y v e1 e2
   exact⟨d,u,g1,g2,cellK (sub y d g1) g3⟩
 rw[he] at hX ⊢
 exact g5 (by show ((false || (backTo pos (starEach es (blk X sc cl C Nc fp s0 H0).env)).any (·.1)) || false)=false; rw[hpl]; rfl) ji (dZ hX)
end
def jR2 (m:List (Option Nat))(wi:TI)(g:TG)(tt:TT)(te:St->TE):TE:=fun σ H Q=>wi σ H (qI m g tt (te σ) σ Q)
section
variable {te:St->TE}
theorem jPM (hc:X.calm=true)(hi:PI X tg iter wi)(hkind:sc.kind= .function)(hcell:∀ y∈sc.names,y.2≠ .cell)(hnames:∀ y∈sc.names,y.2= .local->sc.names.lookup y.1=some .local)
  (hfree:∀ y∈sc.names,y.2= .free->X.env.scope.names.lookup y.1=some .cell\/X.env.scope.names.lookup y.1=some .free) (hm:jBZ X sc Nc m)
  (hg:∀ cl C fp s H,PG (blk X sc cl C Nc fp s H) tg g) (ht:∀ cl C fp s H,PTs (blk X sc cl C Nc fp s H) ifs tt) (he:∀ cl C fp s H ad σ,Inv X ad σ H s->(∀ b∈fp,FpOk X ad H b)->PE (blk X sc cl C Nc fp s H) elt (te σ))
  (hs:∀ x,foldedSetIterable iter X.env x=pure x:=by intro _; rfl):PE X (.ListComp elt [⟨tg,iter,ifs,0⟩] sc pos) (jR2 m wi g tt te):=by
 intro ad s σ H Q I h
 rw[eval_ListComp]
 exact jGN (tf:=te) (use:=none) hc hi hkind hcell hnames hfree hm hg ht he hs I h (fun D C H5 z1 r ⟨mm,hn⟩ fC sb q=>⟨mm,hn,fun h' s2=>⟨.ref D,H5,sb h' s2,rfl,q⟩⟩)
theorem jQA (hc:X.calm=true)(hi:JI X tg iter wi)(hkind:sc.kind= .function)(hcell:∀ y∈sc.names,y.2≠ .cell)(hnames:∀ y∈sc.names,y.2= .local->sc.names.lookup y.1=some .local)
  (hfree:∀ y∈sc.names,y.2= .free->X.env.scope.names.lookup y.1=some .cell\/X.env.scope.names.lookup y.1=some .free) (hm:jBZ X sc Nc m)
  (hg:∀ cl C fp s H,JG (blk X sc cl C Nc fp s H) tg g) (ht:∀ cl C fp s H,JTs (blk X sc cl C Nc fp s H) ifs tt) (he:∀ cl C fp s H ad σ,Inv X ad σ H s->(∀ b∈fp,FpOk X ad H b)->JE (blk X sc cl C Nc fp s H) elt (te σ))
  (hs:FoOk iter):JE X (.ListComp elt [⟨tg,iter,ifs,0⟩] sc pos) (jR2 m wi g tt te):=⟨jPM hc hi.h hkind hcell hnames hfree hm (fun cl C fp s H=>(hg cl C fp s H).h) (fun cl C fp s H=>(ht cl C fp s H).h) (fun cl C fp s H ad σ I f=>(he cl C fp s H ad σ I f).h) (hs.h _)⟩
end
def jWA (Ts:List Addr)(H:Hp):Prop:=∀ b,H b=none\/(∃ o xs,H b=some (.frz o (.lst xs)))\/b∈Ts
theorem jLC {cts:List (Addr×Addr)}{P:Program}{w:World}{K:W.Frag}{mg mb:Str->Option Value}{CX:CXT}{k:Nat}{fa a:Addr}{fd:FuncData}{x:Str}{sp:Sp}{s₁:Shared}{vs:List Value}{ns:List Int}
  (KX:K.In s₁.heap) (hns:s₁.heap.Ns mainGlobals mg) (hb:s₁.heap.Ns builtinsNs mb) (hbb:∀ x:Str,x≠ "__name__" ->mb x=bootBuiltins x) (hlim:s₁.heap.NoLimit) (hg:s₁.gens=#[])
  (ha:s₁.heap.get? a=some { cls:= .type "list",data:= .seq vs.toArray}) (hi:IntsAre vs ns) (hl:ns.length<=sizeLine) (hr:Room k callerA) (hT:∀ T∈cts.map (·.2),s₁.heap.get? T=some (tabObj #[])) (CH:∀ p∈cts,PySem.W.CodeHd s₁.heap p.1 p.2) (hKT:∀ T∈cts.map (·.2),K.lookup T=none)
  (F:∀ lv:Heap,K.In lv->lv.Ns mainGlobals mg->FnOk P w K mg lv CX k fa fd [x] sp) (hbind:∀ (s:Shared) (u:Value),BindsTo s fd ⟨[u],[]⟩ [(x,u)])
  (hsp:∀ H:Hp,(∀ T∈cts.map (·.2),H T=some (.tbl #[]))->SqL K H a (ns.map V.int)->sp [.ref a] H (fun v _=>v= .bl true) fun _ _ _=>False)
  (hCX:∀ H e s',CX [] H s₁ (fun _ _ _=>False) e s'->False):
  codeAny (model P w) callerA (.call (.ref fa) ⟨[.ref a],[]⟩) (fun r s'=>r= .ok (.ret (.bool true))/\OldK s₁.heap s'.heap/\s'.os=s₁.os/\AllBare s'.gens) s₁:=by
 have rv:=jGU hi
 have lenV:=hi.length
 have core:∀ H:Hp,jWA (cts.map (·.2)) H->(∀ T∈cts.map (·.2),H T=some (.tbl #[]))->SqL K H a (ns.map V.int)->HOk P w H s₁.heap->(∀ b,H b≠none->b=a\/b∈cts.map (·.2))->(H a≠none->K.lookup a=none)->
   codeAny (model P w) callerA (.call (.ref fa) ⟨[.ref a],[]⟩) (fun r s'=>r= .ok (.ret (.bool true))/\OldK s₁.heap s'.heap/\s'.os=s₁.os/\AllBare s'.gens) s₁:=by
  intro H hO hHT hS hok hA hK
  have base_of:∀ {b:Addr}{o:Obj},s₁.heap.get? b=some o->H b=none->(hidT s₁.heap H).get? b=some o:=fun e n=>jQD e n
  have noA:∀ {b:Addr}{o:Obj}{es:Array DictEntry}{ep:Nat},s₁.heap.get? b=some o->o.data= .dict es ep->H b=none:=fun {b o es ep} e d=>by
   cases q:H b with
   | none=>rfl
   | some u=>
    rcases hA b (by rw[q]; simp) with e' | e'
    ·subst e'
     rw[ha] at e; cases e
     have d':Data.seq vs.toArray _=Data.dict es ep:=d
     cases d'
    ·rw[hT b e'] at e; cases e
     have d':Data.fields _=Data.dict es ep:=d
     cases d'
  have nsK:∀ {b:Addr}{m:Str->Option Value},s₁.heap.Ns b m->(hidT s₁.heap H).Ns b m:=fun {b m} ⟨o,es,ep,e,d,r⟩=>⟨o,es,ep,base_of e (noA e d),d,r⟩
  have hKb:K.In (hidT s₁.heap H):=fun b o e=>base_of (KX b o e) (by
   cases q:H b with
   | none=>rfl
   | some u=>
    rcases hA b (by rw[q]; simp) with e' | e'
    ·subst e'
     rw[hK (by rw[q]; simp)] at e; cases e
    ·rw[hKT b e'] at e; cases e)
  have hM:Mod K mg (hidT s₁.heap H):=⟨hKb,nsK hns,⟨mb,nsK hb,hbb⟩,let ⟨mc,h1,h2⟩:=hlim; ⟨mc,nsK h1,h2⟩⟩
  have e0:Env0 P w K mg (hidT s₁.heap H) callerA [] s₁ H:=⟨rfl,hM,fun b o e=>jTA e,Nat.le_of_eq (jO6 _ _),trivial,fun b hb=>absurd (show b∈([]:List Addr) from hb) (by simp),hok, .of_eq hg⟩
  refine dN ((F _ hKb (nsK hns)).run callerA [] s₁ H ⟨[.ref a],[]⟩ [.ref a] [.ref a] _ _ hr e0 (hbind s₁ (.ref a)) (.cons rfl .nil) (hsp H hHT hS)) fun r s' h=>?_
  cases r with
  | error e=>exact(hCX H e s' h).elim
  | ok fl=>
   cases fl with
   | next=>exact False.elim h
   | brk=>exact False.elim h
   | cont=>exact False.elim h
   | ret u=>
    obtain⟨v,H',os,bare,un,hok',r',q⟩:=h
    have q':v= .bl true:=q
    subst q'
    obtain rfl:u=Value.bool true:=r'
    have gr:∀ T∈cts.map (·.2),∃ more,s'.heap.get? T=some (tabObj (#[]++more)):=fun T hTm=>by
     obtain⟨more,z⟩:=un.tbls T _ (hHT T hTm)
     exact⟨more,hok' T _ z⟩
    have kp:∀ b o,b∉cts.map (·.2)->s₁.heap.get? b=some o->s'.heap.get? b=some o:=fun b o hbT e=>?_
    ·refine⟨rfl,⟨fun b o e=>?_,fun b o e=>?_⟩,os,bare⟩
     ·by_cases hb:b∈cts.map (·.2)
      ·obtain⟨p,hp,rfl⟩:=aW.mp hb
       have q:=hT _ hb
       rw[q] at e
       cases e
       obtain⟨more,z⟩:=gr _ hb
       exact .inr (.inl ⟨((CH p hp).tab q).isCodeTable,rfl,#[],more,rfl,z⟩)
      ·exact .inl (kp b o hb e)
     ·by_cases hb:b∈cts.map (·.2)
      ·obtain⟨more,z⟩:=gr _ hb
       exact⟨_,z⟩
      ·exact⟨o,kp b o hb e⟩
    cases q:H b with
    | none=>exact un.keep b o e q (by intro z; exact absurd (show b∈([]:List Addr) from z) (by simp)) (by simp)
    | some u=>
     rcases hO b with z | ⟨ob,xs,z⟩ | z
     ·rw[q] at z; cases z
     ·have z2:=un.frzs b ob _ z
      obtain⟨e1,_⟩:=hok b _ z
      obtain⟨e2,_⟩:=hok' b _ z2
      rw[e] at e1; cases e1
      exact e2
     ·exact absurd z hbT
 have aT:a∉cts.map (·.2):=fun z=>by rw[hT a z] at ha; cases ha
 cases hk:K.lookup a with
 | some o=>
  have e:=KX a o hk
  rw[ha] at e
  cases e
  refine core (fun b=>if b∈cts.map (·.2) then some (.tbl #[]) else none) (fun b=>?_) (fun T hm=>ar hm) (.inr ⟨_,vs.toArray,_,hk,rfl,rfl,rfl,by rw[ax,lenV]; exact hl,by simpa using rv⟩) (fun b u z=>?_) (fun b z=>?_) fun z=>absurd (ao aT) z
  ·by_cases hb:b∈cts.map (·.2)
   ·exact .inr (.inr hb)
   ·exact .inl (ao hb)
  ·by_cases hb:b∈cts.map (·.2)
   ·have z':=(ar hb).symm.trans z
    cases z'
    exact hT b hb
   ·have z':=(ao hb).symm.trans z
    cases z'
  ·by_cases hb:b∈cts.map (·.2)
   ·exact .inr hb
   ·exact absurd (ao hb) z
 | none=>
  refine core (fun b=>if b∈cts.map (·.2) then some (.tbl #[]) else if b=a then some (.frz { cls:= .type "list",data:= .seq vs.toArray} (.lst (ns.map V.int))) else none) (fun b=>?_) (fun T hm=>ar hm) (.inl (.inr ⟨{ cls:= .type "list",data:= .seq vs.toArray},by dsimp only; rw[ao aT,ar rfl]⟩)) (fun b u z=>?_) (fun b z=>?_) fun _=>hk
  ·by_cases hT':b∈cts.map (·.2)
   ·exact .inr (.inr hT')
   ·by_cases hb:b=a
    ·exact .inr (.inl ⟨_,_,by dsimp only; rw[ao hT',ar hb]⟩)
    ·exact .inl (by dsimp only; rw[ao hT',ao hb])
  ·dsimp only at z
   by_cases hT':b∈cts.map (·.2)
   ·rw[ar hT'] at z
    cases z
    exact hT b hT'
   ·rw[ao hT'] at z
    by_cases hb:b=a
    ·rw[ar hb] at z
     cases z
     subst hb
     exact⟨ha,by rw[af]; exact hl,vs,_,rv,ha⟩
    ·rw[ao hb] at z
     cases z
  ·replace z:(if b∈cts.map (·.2) then some (HO.tbl #[]) else if b=a then some (HO.frz { cls:= .type "list",data:= .seq vs.toArray} (.lst (ns.map V.int))) else none)≠none:=z
   by_cases hT':b∈cts.map (·.2)
   ·exact .inr hT'
   ·by_cases hb:b=a
    ·exact .inl hb
    ·rw[ao hT',ao hb] at z
     exact absurd rfl z
theorem walk_ofTs {cts:List (Addr×Addr)}{l:PySem.W.OpenLaw}{n k:Nat}{q:Program}{loose:List Str}{XP:(Str->Option Value)->Heap->Prop}{YP:World->Heap->Prop}{d:DefRec}{K:Params->W.Frag}{CX:World->CXT}{sp:World->Sp}{x:Str}
  (hn:l.most=some n) (hn2:n<=sizeLine) (hdf:d.params.defaults=[]) (hr:Room k callerA)
  (hY:∀ (w:World) (h:Heap),YP w h->(K w.params).In h/\∀ T∈cts.map (·.2),h.get? T=some (tabObj #[])) (hcd:∀ w:World,∀ p∈cts,codeHdIn (K w.params) p.1 p.2=true) (hKT:∀ w:World,∀ T∈cts.map (·.2),(K w.params).lookup T=none)
  (F:∀ (w:World) (mg:Str->Option Value) (fa:Addr) (h:Heap),(K w.params).In h->h.Ns mainGlobals mg->mg d.name=some (.ref fa)->
   ∃ fd:FuncData,(∀ (s:Shared) (u:Value),BindsTo s fd ⟨[u],[]⟩ [(x,u)])/\
    ∀ lv:Heap,(K w.params).In lv->lv.Ns mainGlobals mg->FnOk l.prog w (K w.params) mg lv (CX w) k fa fd [x] (sp w))
  (hsp:∀ (w:World) (H:Hp) (a:Addr) (ns:List Int),ns.length<=n->(∀ T∈cts.map (·.2),H T=some (.tbl #[]))->SqL (K w.params) H a (ns.map V.int)->sp w [.ref a] H (fun v _=>v= .bl true) fun _ _ _=>False)
  (hCX:∀ (w:World) (H:Hp) (s:Shared) (e:Value) (s':Shared),CX w [] H s (fun _ _ _=>False) e s'->False):
  PySem.W.WalkO q loose XP YP l.row.toRowW d [] (fun f vs=>PySem.call f vs):=by
 refine Att.attach_call hn hdf fun w s₀ s₁ mg mb fa o pm cd doc a vs ns G Y ho hd _ hmg hobj hints hlen hg=>?_
 obtain⟨KX,hT⟩:=hY w _ Y
 obtain⟨fd,hb,hF⟩:=F w mg fa _ KX G.T.g hmg
 exact jLC KX G.T.g G.T.b G.T.builtins G.T.nolimit hg hobj hints (bf hlen hn2) hr hT (fun p hp=>dL KX (hcd w p hp)) (hKT w) hF hb (fun H hO hS=>hsp w H a ns hlen hO hS) fun H e s'=>hCX w H s₁ e s'
open PySem.AutoSeq1 (wpAny_loadPart')
theorem jQI {tp:Bool}{e it l:Addr}{i:Nat}{xs:Array Value}{x old:Value}{Q:Value->Shared->Prop}(ee:IsEnum s.heap e it i old)(g1:ItAt tp s.heap it l i)(o1:ObAt tp s.heap l xs)(hx:xs[i]?=some x)(ne:e≠it)
  (k:∀ h',IsEnumOut h' e it ((i:Int)+1) x s.heap.objs.size->ItAt tp h' it l (i+1)->h'.get? s.heap.objs.size=some { cls:= .type "tuple",data:= .seq #[.int i s.toks,x]} ->h'.objs.size=s.heap.objs.size+1->
   (∀ c o,c≠e->c≠it->s.heap.get? c=some o->h'.get? c=some o)->Q (.ref s.heap.objs.size) { s with heap:=h',toks:=s.toks+1}):
  wpAny (model prog w) A (Builtin.«enumerate.__next__» ⟨[.ref e],[]⟩) (fun fin s'=>∃ v,fin= .done (.ret v)/\Q v s') E s:=by
 obtain⟨hp,g,d,tk,os⟩:=s
 show wpAny (model prog w) A (field (.ref e) 2 >>= _) _ _ _
 refine ae (d8 ee rfl (x:= .ref it) rfl (ae (next1 g1 o1 hx fun p1 r1 q1=>?_)))
 have q1:Heap.SameBut it hp p1:=q1
 have e1:IsEnum p1 e it i old:=(q1.2 e ne).trans ee
 show wpAny (model prog w) A (field (.ref e) 3 >>= _) _ _ ⟨p1,g,d,tk,os⟩
 refine ae (d8 e1 rfl (x:=rawInt i) rfl (?_:wpAny (model prog w) A (field (.ref e) 4 >>= _) _ _ ⟨p1,g,d,tk,os⟩))
 refine ae (d8 e1 rfl (x:= .none) rfl (?_:wpAny (model prog w) A (mkInt i >>= _) _ _ ⟨p1,g,d,tk,os⟩))
 refine ae (wpAny_mkInt (?_:wpAny (model prog w) A (setField (.ref e) 3 (rawInt ((i:Int)+1)) >>= _) _ _ ⟨p1,g,d,tk+1,os⟩))
 refine ae (cN e1 (by simp) fun p2 e2 q2=>?_)
 have q2:Heap.SameBut e p1 p2:=q2
 have e2:IsEnum p2 e it ((i:Int)+1) old:=e2
 show wpAny (model prog w) A (setField (.ref e) 4 .none >>= _) _ _ ⟨p2,g,d,tk+1,os⟩
 refine ae (cN e2 (by simp) fun p3 e3 q3=>?_)
 have q3:Heap.SameBut e p2 p3:=q3
 have e3:IsEnum p3 e it ((i:Int)+1) old:=e3
 show wpAny (model prog w) A (newTuple [.int i tk,x] >>= _) _ _ ⟨p3,g,d,tk+1,os⟩
 refine ae (jw ?_)
 have e4:IsEnum (p3.push { cls:= .type "tuple",data:= .seq #[.int i tk,x]}) e it ((i:Int)+1) old:=ag _ e3
 have sz:p3.objs.size=hp.objs.size:=by rw[q3.1,q2.1,q1.1]
 have lt:e<hp.objs.size:=aE ee
 have t4:(p3.push { cls:= .type "tuple",data:= .seq #[.int i tk,x]}).get? hp.objs.size=some { cls:= .type "tuple",data:= .seq #[.int i tk,x]} :=by rw[<- sz]; exact aA _ rfl
 have z4:(p3.push { cls:= .type "tuple",data:= .seq #[.int i tk,x]}).objs.size=hp.objs.size+1:=by rw[da,sz]
 have k4:∀ c o,c≠e->c≠it->hp.get? c=some o->(p3.push { cls:= .type "tuple",data:= .seq #[.int i tk,x]}).get? c=some o:=fun c o n1 n2 v=>ag _ (q3.extBut c o n1 (q2.extBut c o n1 (q1.extBut c o n2 v)))
 have r4:ItAt tp (p3.push { cls:= .type "tuple",data:= .seq #[.int i tk,x]}) it l (i+1):=((r1.but q2.extBut ne.symm).but q3.extBut ne.symm).at fun o v=>ag _ v
 generalize p3.push { cls:= .type "tuple",data:= .seq #[.int i tk,x]} =p4 at e4 t4 z4 k4 r4 ⊢
 show wpAny (model prog w) A (Builtin.SmallTypes.ownedTupleIsFree (.ref e) >>= _) _ _ ⟨p4,g,d,tk+1,os⟩
 rw[sz]
 refine ae (by
  unfold Builtin.SmallTypes.ownedTupleIsFree
  refine ae (d8 e4 rfl (x:= .none) rfl (ak ?_))
  simp only [kf]
  refine ae (dj (ae (d8 e4 rfl (x:=old) rfl (ae (cN e4 (by simp) fun p5 e5 q5=>?_)))))
  have q5:Heap.SameBut e p4 p5:=q5
  have e5:IsEnum p5 e it ((i:Int)+1) x:=e5
  refine ae (m:=Builtin.SmallTypes.ownedTupleHandOut (.ref e) (.ref hp.objs.size)) ?_
  unfold Builtin.SmallTypes.ownedTupleHandOut
  refine ae (cN e5 (by simp) fun p6 e6 q6=>?_)
  have q6:Heap.SameBut e p5 p6:=q6
  have e6:IsEnumOut p6 e it ((i:Int)+1) x hp.objs.size:=e6
  refine cN e6 (by simp) fun p7 e7 q7=>?_
  have q7:Heap.SameBut e p6 p7:=q7
  have e7:IsEnumOut p7 e it ((i:Int)+1) x hp.objs.size:=e7
  have up:∀ c o,c≠e->p4.get? c=some o->p7.get? c=some o:=fun c o n v=>q7.extBut _ _ n (q6.extBut _ _ n (q5.extBut _ _ n v))
  exact ae (wpAny_letGo (ak ⟨_,rfl,k p7 e7 (r4.at fun o v=>up _ o ne.symm v) (up _ _ (cK lt) t4) (by rw[q7.1,q6.1,q5.1,z4]) fun c o n1 n2 v=>up c o n1 (k4 c o n1 n2 v)⟩)))
theorem jL1 {tp:Bool}{e it l:Addr}{i:Nat}{xs:Array Value}{x old:Value}{Q:Option Value->Shared->Prop}(ee:IsEnum s.heap e it i old)(g1:ItAt tp s.heap it l i)(o1:ObAt tp s.heap l xs)(hx:xs[i]?=some x)(ne:e≠it)
  (k:∀ h',IsEnumOut h' e it ((i:Int)+1) x s.heap.objs.size->ItAt tp h' it l (i+1)->h'.get? s.heap.objs.size=some { cls:= .type "tuple",data:= .seq #[.int i s.toks,x]} ->h'.objs.size=s.heap.objs.size+1->
   (∀ c o,c≠e->c≠it->s.heap.get? c=some o->h'.get? c=some o)->Q (some (.ref s.heap.objs.size)) { s with heap:=h',toks:=s.toks+1}):
  wpAny (model prog w) A (pyNext (.ref e)) Q E s:=by
 have ty:s.TypeIs (.ref e) "enumerate" :=⟨_,ee,rfl⟩
 unfold pyNext
 exact ae (eh (cR (name:=Str.ofString "__next__") ty F.slot_enumerate_next (cB F.slot_enumerate_next ty F.entry_enumerate_next (jQI ee g1 o1 hx ne fun h' b1 b2 b3 b4 b5=>ak (k h' b1 b2 b3 b4 b5)) (F.args_enumerate_next_1 _))))
theorem jL2 {tp:Bool}{e it l:Addr}{i:Nat}{xs:Array Value}{old:Value}{Q:Option Value->Shared->Prop}(hh:A.handled=none)(ee:IsEnum s.heap e it i old)(g1:ItAt tp s.heap it l i)(o1:ObAt tp s.heap l xs)(hx:xs[i]?=none)
  (k:∀ h',(∀ c o,c≠e->c≠it->s.heap.get? c=some o->h'.get? c=some o)->Q none { s with heap:=h'}):wpAny (model prog w) A (pyNext (.ref e)) Q E s:=by
 have ty:s.TypeIs (.ref e) "enumerate" :=⟨_,ee,rfl⟩
 unfold pyNext
 refine ae (eh (cR (name:=Str.ofString "__next__") ty F.slot_enumerate_next (cB F.slot_enumerate_next ty F.entry_enumerate_next (?_:wpAny (model prog w) _ (field (.ref e) 2 >>= _) _ _ _) (F.args_enumerate_next_1 _))))
 refine ae (d8 ee rfl (x:= .ref it) rfl (ae (next0 hh g1 o1 hx fun h' x kp ⟨u,eu,cu⟩=>?_)))
 exact ae (iW (T:= "StopIteration") (b:=true) ⟨u,eu,cu⟩ isSubtype_stop (ak (k _ fun c o _ n v=>kp c o n v)))
set_option maxHeartbeats 2000000 in
theorem jND (tp:Bool)(l:Addr)(xs:Array Value)(u:Obj):
  Meets (Builtin.«enumerate.__new__» ⟨[.type "enumerate", .ref l],[]⟩) (fun _ R s=>s.heap.get? l=some u/\ObAt tp s.heap l xs/\
   R (.ok (.ret (.ref (s.heap.push (iterO tp l)).objs.size))) { s with heap:=(s.heap.push (iterO tp l)).push { cls:= .type "enumerate",data:= .fields #[.none, .bool false, .ref s.heap.objs.size,rawInt 0, .none, .none]}}):=
 .of_wp fun prog w A R s h=>by
  obtain⟨hp,g,d,tk,os⟩:=s
  obtain⟨a0,a1,q⟩:=h
  have sub:=sub_enumerate
  have e1:ObAt tp (Shared.heap ⟨hp,g,d,tk,os⟩) l xs:=a1
  obtain⟨c,dct,dt,sl⟩:=u
  obtain⟨n,hc,hd⟩:∃ n,c=(if tp then .type "tuple" else .type "list")/\dt= .seq xs n:=by
   cases tp with
   | false=>obtain⟨o,e,hc,n,hd⟩:=a1; cases (a0.symm.trans e); exact⟨n,hc,hd⟩
   | true=>obtain⟨o,e,hc,n,hd⟩:=a1; cases (a0.symm.trans e); exact⟨n,hc,hd⟩
  subst hd
  cases tp with
  | false=>
   subst hc
   wp_walk using cx a0
   refine wpAny_stack_any fun _=>ak ?_
   split
   ·rename_i c _ _ _ _ _
    cases hcc:(c==Value.type "enumerate")
    all_goals (wp_walk using cx a0,jFY e1; exact⟨_,rfl,q⟩)
   ·wp_walk using cx a0,jFY e1
    exact⟨_,rfl,q⟩
  | true=>
   subst hc
   wp_walk using cx a0
   refine wpAny_stack_any fun _=>ak ?_
   split
   ·rename_i c _ _ _ _ _
    cases hcc:(c==Value.type "enumerate")
    all_goals (wp_walk using cx a0,jFY e1; exact⟨_,rfl,q⟩)
   ·wp_walk using cx a0,jFY e1
    exact⟨_,rfl,q⟩
theorem jQO {prog:Program}{w:World}{A:Around}{E:Value->Shared->Prop}{s:Shared}{tp:Bool}{l:Addr}{xs:Array Value}{Q:Value->Shared->Prop}(a1:ObAt tp s.heap l xs)
  (k:∀ h',IsEnum h' (s.heap.objs.size+1) s.heap.objs.size 0 .none->ItAt tp h' s.heap.objs.size l 0->(∀ c o,s.heap.get? c=some o->h'.get? c=some o)->Q (.ref (s.heap.objs.size+1)) { s with heap:=h'}):
  wpAny (model prog w) A (call (.type "enumerate") [.ref l]) Q E s:=by
 obtain⟨u,eu⟩:∃ u,s.heap.get? l=some u:=by
  cases tp with
  | false=>obtain⟨o,e,_⟩:=a1; exact⟨o,e⟩
  | true=>obtain⟨o,e,_⟩:=a1; exact⟨o,e⟩
 refine callType_new F.called_enumerate (by decide) (F.typeCall_enumerate_1 _) (F.newCall_enumerate_1 _) (fun obj=>F.args_object_init_2 obj _) F.entry_enumerate_new (jND tp l xs u) ⟨eu,a1,?_⟩
 have z1:(s.heap.push (iterO tp l)).objs.size=s.heap.objs.size+1:=da ..
 have y2:IsEnum ((s.heap.push (iterO tp l)).push { cls:= .type "enumerate",data:= .fields #[.none, .bool false, .ref s.heap.objs.size,rawInt 0, .none, .none]}) (s.heap.push (iterO tp l)).objs.size s.heap.objs.size 0 .none:=aA _ rfl
 have y1:((s.heap.push (iterO tp l)).push { cls:= .type "enumerate",data:= .fields #[.none, .bool false, .ref s.heap.objs.size,rawInt 0, .none, .none]}).get? s.heap.objs.size=some (iterO tp l):=ag _ (aA _ (jLD _ _))
 show _/\_
 rw[z1] at y2 ⊢
 exact⟨⟨_,y2,rfl⟩,k _ y2 (.new tp y1) fun c o e=>ag _ (ag _ e)⟩
def Ite (tp:Bool)(K:W.Frag)(l:Addr):It:=
 ⟨fun i H=>∃ xs x,Sq tp K H l xs/\xs[i]?=some x,
  fun i H v H'=>∃ T x,H T=none/\v= .ref T/\H'=upd H T (.tup [.int (i:Int),x])/\∀ xs,Sq tp K H l xs->xs[i]?=some x,
  fun i H=>∃ xs,Sq tp K H l xs/\xs.length<=i⟩
theorem jLT {P:Program}{w:World}{K:W.Frag}{elts:List Expr}{x1:Nat}{tps:Pos}(tp:Bool)(l e it:Addr)(ne:e≠it):
  Turn P w K (.Tuple elts x1 tps) (Ite tp K l) [e,it] e (fun i h=>(∃ old,IsEnum h e it ((i:Nat):Int) old)/\ItAt tp h it l i) where
 mem:=by simp
 obj:=fun i h st b hb=>by
  obtain⟨⟨old,he⟩,y1⟩:=st
  simp only [aF,bC,dh] at hb
  rcases hb with rfl | rfl
  ·exact⟨_,he,fun v q=>by cases q⟩
  ·exact y1.obj
 keep:=fun i h h' st k=>by
  obtain⟨⟨old,he⟩,h1⟩:=st
  exact⟨⟨old,k e (by simp) _ he⟩,h1.at fun o z=>k it (by simp) o z⟩
 item:=by
  intro X hP hw hK hc i ad s σ H E I hf st hg
  subst hP hw hK
  obtain⟨xs,x,hq1,hx⟩:=hg
  obtain⟨⟨old,he⟩,h1⟩:=st
  obtain⟨its1,r1,p1,_⟩:=I.sq hq1
  obtain⟨u,hu,ru⟩:=r1.get hx
  refine jL1 he h1 p1 (x:=u) (by simpa using hu) ne fun h' a1 a2 a3 a4 a5=>?_
  refine⟨_,rfl,wpAny_letOwnedTupleGo_enum (s:= { s with heap:=h',toks:=s.toks+1}) a1 fun h'' b1 sb=>?_⟩
  have fresh:H s.heap.objs.size=none:=I.fresh
  have ntr:∀ b o,H b=some o->b∉([e,it]:List Addr):=fun b o z hb=>by
   have:=(hf b hb).1
   rw[z] at this; cases this
  have kp:∀ b o,b∉([e,it]:List Addr)->s.heap.get? b=some o->h''.get? b=some o:=fun b o hb z=>by
   simp only [aF,bC,dh,la] at hb
   exact(sb.2 b hb.1).trans (a5 b o hb.1 hb.2 z)
  have nz:s.heap.objs.size≠e:=cK (aE he)
  have hT2:h''.get? s.heap.objs.size=some { cls:= .type "tuple",data:= .seq #[.int i s.toks,u]} :=(sb.2 _ nz).trans a3
  have I2:Inv X ad σ (upd H s.heap.objs.size (.tup [.int (i:Int),x])) { s with heap:=h'',toks:=s.toks+1} :=by
   refine I.step (g':=s.gens) (d':=s.drawn) (t':=s.toks+1) (ch:=[e,it]) (fun b hb=>?_) (fun b o _ _ hb z _=>kp b o hb z) (fun b o _ _ hb z _=>⟨o.slots,kp b o hb z⟩)
    (fun b o _ z n=>by rw[j8 (aQ (aE z))]; exact n) (fun b o hb z=>⟨o,kp b o hb z⟩) (fun b ws z=>by rw[j8 (jA z fresh)]; exact z) (fun b o ws z=>by rw[j8 (jA z fresh)]; exact z)
    (fun b ps z=>⟨#[],by rw[j8 (jA z fresh),z]; simp⟩) (fun m hm=>?_) (fun b o z=>?_) I.bare
   ·obtain⟨f0,f1,f2,f3,f4,f5⟩:=hf b hb
    exact⟨f3,f1,f4,f5⟩
   ·obtain⟨o,es,ep,ho,r⟩:=hm
    exact⟨o,es,ep,kp _ o (fun hb=>(hf _ hb).2.1 rfl) ho,r⟩
   ·by_cases hb:b=s.heap.objs.size
    ·subst hb
     rw[j5] at z
     cases z
     exact⟨by rw[eJ]; show 2<=_; decide,[.int i s.toks,u], .cons ⟨_,rfl⟩ (.cons ru .nil),0,hT2⟩
    ·rw[j8 hb] at z
     refine(I.hok b o z).stay (fun c w hc q=>kp c w ?_ q) (fun c q=>by rw[j8 (jA q fresh)]; exact q) (fun c ws q=>by rw[j8 (jA q fresh)]; exact q)
     rcases hc with rfl | hc
     ·exact ntr _ _ z
     ·exact ntr _ _ hc
  refine⟨.ref s.heap.objs.size,_,I2,rfl,⟨_,x,fresh,rfl,rfl,fun xs' q1=>by rw[I.sq_inj q1 hq1]; exact hx⟩,⟨⟨_,b1⟩,?_⟩,fun b hb=>?_⟩
  ·exact a2.at fun o z=>(sb.2 it ne.symm).trans z
  ·rw[j8 (fun q=>by
    obtain⟨o,eo⟩:∃ o,s.heap.get? b=some o:=by
     simp only [aF,bC,dh] at hb
     rcases hb with rfl | rfl
     ·exact⟨_,he⟩
     ·obtain⟨o,z,_⟩:=h1.obj; exact⟨o,z⟩
    exact absurd (aE eo) (by rw[q]; exact cJ _))]
   exact(hf b hb).1
 done:=by
  intro X hP hw hK hc i ad s σ H E I hf st hg
  subst hP hw hK
  obtain⟨xs,hq1,hend⟩:=hg
  obtain⟨⟨old,he⟩,h1⟩:=st
  obtain⟨its1,r1,p1,_⟩:=I.sq hq1
  have e1:=r1.length
  refine jL2 (I.ok.hd hc) he h1 p1 (by simp; lia) fun h' kp=>⟨rfl,?_⟩
  have kp2:∀ b o,b∉([e,it]:List Addr)->s.heap.get? b=some o->h'.get? b=some o:=fun b o hb z=>by
   simp only [aF,bC,dh,la] at hb
   exact kp b o hb.1 hb.2 z
  have ntr:∀ b o,H b=some o->b∉([e,it]:List Addr):=fun b o z hb=>by
   have:=(hf b hb).1
   rw[z] at this; cases this
  refine I.step (g':=s.gens) (d':=s.drawn) (t':=s.toks) (ch:=[e,it]) (fun b hb=>?_) (fun b o _ _ hb z _=>kp2 b o hb z) (fun b o _ _ hb z _=>⟨o.slots,kp2 b o hb z⟩)
   (fun b o _ z n=>n) (fun b o hb z=>⟨o,kp2 b o hb z⟩) (fun b ws z=>z) (fun b o ws z=>z) (fun b ps z=>⟨#[],by rw[z]; simp⟩) (fun m hm=>?_) (fun b o z=>?_) I.bare
  ·obtain⟨f0,f1,f2,f3,f4,f5⟩:=hf b hb
   exact⟨f3,f1,f4,f5⟩
  ·obtain⟨o,es,ep,ho,r⟩:=hm
   exact⟨o,es,ep,kp2 _ o (fun hb=>(hf _ hb).2.1 rfl) ho,r⟩
  ·refine(I.hok b o z).stay (fun c w hc q=>kp2 c w ?_ q) (fun _ q=>q) fun _ _ q=>q
   rcases hc with rfl | hc
   ·exact ntr _ _ z
   ·exact ntr _ _ hc
 self:=fun _ _ _ _ _ st h=>wpAny_pyIter_enum st.1.choose_spec h
def iEnum (K:W.Frag)(ta:TA):TI:=fun σ H R=>ta σ H fun vs H1=>∃ tp l,vs=[.ref l]/\(∃ xs,Sq tp K H1 l xs)/\R (Ite tp K l) H1
theorem jSL {a:Expr}{ta:TA}{p pos:Pos}{elts:List Expr}{x1:Nat}{tp:Pos}(hg:Gl X "enumerate")(hm:X.mg "enumerate" =none)(ha:PA X [a] ta)(hv:bootBuiltins "enumerate" =some (.type "enumerate"):=by decide+kernel)
  (he:starEach [a] X.env=(false,eval a X.env)::starEach [] X.env:=by rfl) (hpl:(backTo pos (starEach [] X.env)).any (·.1)=false:=by rfl):
  PI X (.Tuple elts x1 tp) (.Call (.Name "enumerate" p) [a] [] pos) (iEnum X.K ta):=by
 intro ad s σ H R I h
 refine Call_ (jEJ I hg hm hv (dM (ly (ha pos ad s σ H _ I h) fun us s1 ⟨vs,H1,I1,r1,q1⟩=>?_) he hpl))
 obtain⟨t1,l1,rfl,⟨xs,hq1⟩,q⟩:=q1
 obtain⟨u,rfl,ru⟩:=r1.one
 cases ru
 obtain⟨its1,_,p1,_⟩:=I1.sq hq1
 refine jQO p1 fun h' a1 a2 kp=>?_
 have I2:Inv X ad σ H1 { s1 with heap:=h'} :=I1.kept (t':=s1.toks) kp
 refine wpAny_pyIter_enum a1 ⟨s1.heap.objs.size+1,[s1.heap.objs.size+1,s1.heap.objs.size],_,Ite t1 X.K l1,H1,rfl,I2,jLT t1 l1 _ _ (Nat.succ_ne_self _),⟨⟨_,a1⟩,a2⟩,fun b hb=>?_,q⟩
 have hge:s1.heap.objs.size<=b:=by
  simp only [aF,bC,dh] at hb
  rcases hb with rfl | rfl
  ·exact Nat.le_add_right _ 1
  ·exact am _
 exact I1.fpOk hge (I1.hok.fresh hge)
theorem jIX {a:Expr}{t:TA}{p pos:Pos}{elts:List Expr}{x1:Nat}{tp:Pos}(hg:Gl1 X "enumerate")(hm:X.mg "enumerate" =none)(ha:JA X [a] t)(he:starEach [a] X.env=(false,eval a X.env)::starEach [] X.env)(hv:bootBuiltins "enumerate" =some (.type "enumerate"):=by decide+kernel)
  (hpl:(backTo pos (starEach [] X.env)).any (·.1)=false:=by rfl):JI X (.Tuple elts x1 tp) (.Call (.Name "enumerate" p) [a] [] pos) (iEnum X.K t):=⟨jSL hg.a hm ha.h hv he hpl⟩
variable {H1:Hp}{Q:VK}
section
variable {K:W.Frag}{σ:St}
theorem jHS {tp:Bool}{l:Addr}{xs:List V}(hn:xs.length<sizeLine)(Pv:Addr->Nat->St->Hp->List V->Prop)(h0:∀ D,H1 D=none->Pv D 0 (blkσ m σ) (upd H1 D (.lst [])) [])
  (hD:∀ D i σ' H' zs,H1 D=none->Pv D i σ' H' zs->Sq tp K H' l xs/\H' D=some (.lst zs)/\zs.length<=i)
  (hs:∀ D i σ' H' zs x T,H1 D=none->xs[i]?=some x->H' T=none->Pv D i σ' H' zs->g (.ref T) σ' (upd H' T (.tup [.int (i:Int),x])) fun σ2 H2=>tt σ2 H2 fun b H3=>if b=true then te σ2 H3 fun v H4=>H4 D=some (.lst zs)/\Pv D (i+1) σ2 (upd H4 D (.lst (zs++[v]))) (zs++[v]) else Pv D (i+1) σ2 H3 zs)
  (hd:∀ D σ' H' zs,H1 D=none->Pv D xs.length σ' H' zs->Q (.ref D) H'):qI m g tt te σ Q (Ite tp K l) H1:=by
 intro D hDn
 refine⟨fun i k σ' H' zs=>k=xs.length - i/\i<=xs.length/\Pv D i σ' H' zs,⟨_,rfl,bi _,h0 D hDn⟩,?_⟩
 rintro i k σ' H' zs ⟨rfl,hi,p⟩
 obtain⟨s1,q1,q2⟩:=hD D i σ' H' zs hDn p
 refine⟨q1,by lia,?_⟩
 by_cases hlt:i<xs.length
 ·refine .inr ⟨⟨xs,xs[i],s1,by simp [hlt]⟩,Pv D (i+1),fun σ2 H2 zs z=>⟨xs.length - (i+1),by lia,rfl,hlt,z⟩,fun v H'' y=>?_⟩
  obtain⟨T,x,e1,e2,e3,e4⟩:=y
  subst e2 e3
  exact hs D i σ' _ zs x T hDn (e4 xs s1) e1 p
 ·have e:i=xs.length:=by lia
  subst e
  exact .inl ⟨⟨xs,s1,am _⟩,hd D σ' H' zs hDn p⟩
end
section
variable {κ:Type} [DecidableEq κ]
def valV (kvs:List (κ×V))(k:κ):Option V:=(kvs.find? fun kv=>decide (kv.1=k)).map (·.2)
def putK (kvs:List (κ×V))(k:κ)(v:V):List (κ×V):=
 if (kvs.any fun kv=>decide (kv.1=k))=true then kvs.map (fun kv=>if kv.1=k then (kv.1,v) else kv) else kvs++[(k,v)]
theorem jBK {p:κ×V}{r:List (κ×V)}{k:κ}(e:p.1=k):valV (p::r) k=some p.2:=by simp [valV,dS,e]
theorem jBL {p:κ×V}{r:List (κ×V)}{k:κ}(e:¬ p.1=k):valV (p::r) k=valV r k:=by simp [valV,dS,e]
theorem jFP (k:κ):∀ kvs:List (κ×V),(kvs.any fun kv=>decide (kv.1=k))=(valV kvs k).isSome
 | []=>rfl
 | p::r=>by
  rw[gL]
  by_cases e:p.1=k
  ·simp only [jBK e,az e,Bool.true_or,Option.isSome_some]
  ·rw[jBL e,aP e,iN]; exact jFP k r
theorem jC2 (kvs:List (κ×V))(k:κ)(v:V):(putK kvs k v).length<=kvs.length+1:=by
 unfold putK
 split
 ·rw[af]; lia
 ·rw[aH,aU,cy]; lia
theorem jJV {kvs:List (κ×V)}{k:κ}(v:V)(h:valV kvs k=none):putK kvs k v=kvs++[(k,v)]:=by
 unfold putK
 rw[jFP,h]
 exact ao (by decide)
theorem RelO.isSome_eq {o:Option V}{u:Option Value}(r:RelO o u):o.isSome=u.isSome:=by
 cases o with
 | none=>cases u with
  | none=>rfl
  | some _=>exact(show False from r).elim
 | some _=>cases u with
  | none=>exact(show False from r).elim
  | some _=>rfl
theorem KV.val {kvs:List (κ×V)}{vs:List (κ×Value)}(r:KV kvs vs)(k:κ):RelO (valV kvs k) (valueAt vs k):=by
 unfold KV at r
 induction r with
 | nil=>exact True.intro
 | @cons p q ps qs h t ih=>
  obtain⟨h1,h2⟩:=h
  by_cases e:p.1=k
  ·have e':q.1=k:=h1.symm.trans e
   have b:valueAt (q::qs) k=some q.2:=by simp [valueAt,dS,e']
   rw[jBK e,b]; exact h2
  ·have e':¬ q.1=k:=fun z=>e (h1.trans z)
   have b:valueAt (q::qs) k=valueAt qs k:=by simp [valueAt,dS,e']
   rw[jBL e,b]; exact ih
theorem KV.any {kvs:List (κ×V)}{vs:List (κ×Value)}(r:KV kvs vs)(k:κ):(kvs.any fun kv=>decide (kv.1=k))=vs.any fun kv=>decide (kv.1=k):=by
 unfold KV at r
 induction r with
 | nil=>rfl
 | cons h t ih=>rw[gL,gL,ih,h.1]
theorem KV.repl {kvs:List (κ×V)}{vs:List (κ×Value)}(r:KV kvs vs)(k:κ){y:V}{u:Value}(ry:RelV y u):
  KV (kvs.map fun kv=>if kv.1=k then (kv.1,y) else kv) (vs.map fun kv=>if kv.1=k then (kv.1,u) else kv):=by
 unfold KV at r ⊢
 induction r with
 | nil=>exact .nil
 | @cons p q ps qs h t ih=>
  rw[br,br]
  refine .cons ?_ ih
  obtain⟨h1,h2⟩:=h
  by_cases e:p.1=k
  ·rw[ar e,ar (h1.symm.trans e)]; exact⟨h1,ry⟩
  ·rw[ao e,ao (fun z=>e (h1.trans z))]; exact⟨h1,h2⟩
theorem KV.put {kvs:List (κ×V)}{vs:List (κ×Value)}(r:KV kvs vs)(k:κ){y:V}{u:Value}(ry:RelV y u):KV (putK kvs k y) (stored vs k u):=by
 unfold putK stored
 rw[r.any k]
 by_cases e:(vs.any fun kv=>decide (kv.1=k))=true
 ·rw[ar e,ar e]; exact r.repl k ry
 ·rw[ao e,ao e]; exact Paired.snoc r ⟨rfl,ry⟩
theorem KV.keys {kvs:List (κ×V)}{vs:List (κ×Value)}(r:KV kvs vs):kvs.map (·.1)=vs.map (·.1):=by
 unfold KV at r
 induction r with
 | nil=>rfl
 | cons h t ih=>rw[br,br,ih,h.1]
theorem KV.length {kvs:List (κ×V)}{vs:List (κ×Value)}(r:KV kvs vs):kvs.length=vs.length:=fg r
end
theorem kV_is {P:Program}{w:World}{k:Key}{u:Value}(r:RelV (kV k) u):(kT P w).is k u=true:=by
 cases k with
 | inl i=>obtain⟨t,e⟩:=(show ∃ t,u=Value.int i t from r); subst e; exact jIR P w i t
 | inr x=>obtain⟨t,e⟩:=(show ∃ t,u=Value.str x t from r); subst e; exact jIQ P w x t
theorem jHM {P:Program}{w:World} :∀ {ks:List Key}{us:List Value},Vals (ks.map kV) us->ItemsAre (kT P w) ks us
 | [],_,r=>by rw[g7] at r; cases r; exact .nil
 | k::ks,_,r=>by
  rw[br] at r
  cases r with
  | cons h t=>exact .cons (kV_is h) (jHM t)
abbrev KT (H:Hp):List (List Key×V)->List (List Key×Addr×Value)->Prop:=Paired fun p q=>p.1=q.1/\H q.2.1=some (.tup (p.1.map kV))/\RelV p.2 q.2.2
theorem KT.val {H:Hp}{kvs:List (List Key×V)}{xs:List (List Key×Addr×Value)}(r:KT H kvs xs)(k:List Key):RelO (valV kvs k) ((atKey xs k).map (·.2)):=by
 induction r with
 | nil=>exact True.intro
 | @cons p q ps qs h t ih=>
  obtain⟨h1,_,h2⟩:=h
  by_cases e:p.1=k
  ·have e':q.1=k:=h1.symm.trans e
   have b:atKey (q::qs) k=some q.2:=by simp [atKey,dS,e']
   rw[jBK e,b]; exact h2
  ·have e':¬ q.1=k:=fun z=>e (h1.trans z)
   have b:atKey (q::qs) k=atKey qs k:=by simp [atKey,dS,e']
   rw[jBL e,b]; exact ih
theorem KT.repl {H:Hp}{kvs:List (List Key×V)}{xs:List (List Key×Addr×Value)}(r:KT H kvs xs)(k:List Key){y:V}{u:Value}(ry:RelV y u):
  KT H (kvs.map fun kv=>if kv.1=k then (kv.1,y) else kv) (xs.map (putAt k u)):=by
 induction r with
 | nil=>exact .nil
 | @cons p q ps qs h t ih=>
  rw[br,br]
  refine .cons ?_ ih
  obtain⟨h1,h2,h3⟩:=h
  unfold putAt
  by_cases e:p.1=k
  ·rw[ar e,ar (h1.symm.trans e)]; exact⟨h1,h2,ry⟩
  ·rw[ao e,ao (fun z=>e (h1.trans z))]; exact⟨h1,h2,h3⟩
theorem KT.put {H:Hp}{kvs:List (List Key×V)}{xs:List (List Key×Addr×Value)}(r:KT H kvs xs)(k:List Key){b:Addr}{y:V}{u:Value}(hb:H b=some (.tup (k.map kV)))(ry:RelV y u):
  KT H (putK kvs k y) (storedH xs k b u):=by
 have e:(kvs.any fun kv=>decide (kv.1=k))=(atKey xs k).isSome:=by
  rw[jFP,(r.val k).isSome_eq,iF]
 unfold putK storedH
 rw[e]
 by_cases q:(atKey xs k).isSome=true
 ·rw[ar q,ar q]; exact r.repl k ry
 ·rw[ao q,ao q]; exact Paired.snoc r ⟨rfl,hb,ry⟩
theorem KT.keeps {H H':Hp}{kvs:List (List Key×V)}{xs:List (List Key×Addr×Value)}(r:KT H kvs xs)(ht:∀ b ys,H b=some (.tup ys)->H' b=some (.tup ys)):KT H' kvs xs:=
 Paired.mapP r fun _ _ z=>⟨z.1,ht _ _ z.2.1,z.2.2⟩
theorem rd_of {u:HO}(ok:HOk P w H h)(e:Rd H a u):ObjOk P w H h a u:=e.ok ok
theorem dk_rd {kvs:List (Key×V)}(ok:HOk P w H h)(e:Rd H a (.dK kvs)):kvs.length<=sizeLine/\(a==sysModules)=false/\∃ vs,KV kvs vs/\h.DictOf (kT P w) a vs:=
 show ObjOk P w H h a (.dK kvs) from rd_of ok e
theorem dk_of {kvs:List (Key×V)}(ok:HOk P w H h)(e:H a=some (.dK kvs)):kvs.length<=sizeLine/\(a==sysModules)=false/\∃ vs,KV kvs vs/\h.DictOf (kT P w) a vs:=dk_rd ok (.inl e)
theorem jHK {ks:List Key}(ok:HOk P w H h)(e:H a=some (.tup (ks.map kV))):(tupleKind (kT P w)).is h ks a:=by
 obtain⟨_,its,r,p⟩:=(show ObjOk P w H h a (.tup (ks.map kV)) from ok a _ e)
 obtain⟨o,h1,h2,n,h3⟩:=p.isTup
 exact⟨o,its.toArray,n,h1,h2,h3,by simpa using jHM r⟩
theorem dt_rd {kvs:List (List Key×V)}(ok:HOk P w H h)(e:Rd H a (.dT kvs)):kvs.length<=sizeLine/\(a==sysModules)=false/\
  ∃ xs,KT H kvs xs/\h.DictOfH (tupleKind (kT P w)) a xs:=by
 obtain⟨z,y,xs,r,o,es,ep,h1,h2,h3,h4,h5⟩:=(show ObjOk P w H h a (.dT kvs) from rd_of ok e)
 refine⟨z,y,xs,r,o,es,ep,h1,h2,h3,h4,fun x hx=>?_,h5⟩
 have all:∀ {l:List (List Key×V)}{m:List (List Key×Addr×Value)},KT H l m->∀ x∈m,(tupleKind (kT P w)).is h x.1 x.2.1:=by
  intro l m q
  induction q with
  | nil=>intro x hx; exact nomatch hx
  | @cons p q ps qs hq t ih=>
   intro x hx
   rcases aF.mp hx with e | hx
   ·subst e
    exact jHK ok (by rw[<- hq.1]; exact hq.2.1)
   ·exact ih x hx
 exact all r x hx
theorem dt_of {kvs:List (List Key×V)}(ok:HOk P w H h)(e:H a=some (.dT kvs)):kvs.length<=sizeLine/\(a==sysModules)=false/\
  ∃ xs,KT H kvs xs/\h.DictOfH (tupleKind (kT P w)) a xs:=dt_rd ok (.inl e)
def DGet (H:Hp)(a:Addr)(y:V)(r:Option V):Prop:=
 (∃ kvs k,Rd H a (.dK kvs)/\y=kV k/\r=valV kvs k)\/∃ kvs k b,Rd H a (.dT kvs)/\y= .ref b/\H b=some (.tup (k.map kV))/\r=valV kvs k
def DPut (H:Hp)(a:Addr)(y v:V)(H':Hp):Prop:=
 (∃ kvs k,H a=some (.dK kvs)/\y=kV k/\kvs.length<sizeLine/\H'=upd H a (.dK (putK kvs k v)))\/
 ∃ kvs k b,H a=some (.dT kvs)/\y= .ref b/\H b=some (.tup (k.map kV))/\kvs.length<sizeLine/\H'=upd H a (.dT (putK kvs k v))
theorem DGet.k {H:Hp}{a:Addr}{kvs:List (Key×V)}{k:Key}(e:H a=some (.dK kvs)):DGet H a (kV k) (valV kvs k):= .inl ⟨kvs,k, .inl e,rfl,rfl⟩
theorem DPut.k {H:Hp}{a:Addr}{kvs:List (Key×V)}{k:Key}{v:V}(e:H a=some (.dK kvs))(hl:kvs.length<sizeLine):DPut H a (kV k) v (upd H a (.dK (putK kvs k v))):= .inl ⟨kvs,k,e,rfl,hl,rfl⟩
variable {y:V}{u r:Value}
section
variable {σ:St}{v:V}{o:Option V}
theorem Inv.big (I:Inv X ad σ H s):sysModules<s.heap.objs.size:=by
 have h:mainGlobals<s.heap.objs.size:=(I.mod.glob.keeps I.bk).lt
 exact eM (by decide) h
theorem jOJ {Q:Value->Shared->Prop}(hu:A.units+1<cLine)(I:Inv X ad σ H s)(g:DGet H a y (some v))(ry:RelV y u)(h:∀ w' s',Inv X ad σ H s'->RelV v w'->Q w' s'):
  wpAny (model X.prog X.w) A (getItem (.ref a) u) Q E s:=by
 rcases g with ⟨kvs,k,e,ey,l⟩ | ⟨kvs,k,b,e,ey,eb,l⟩
 ·subst ey
  obtain⟨z,hd,vs,rel,dd⟩:=dk_rd I.hok e
  obtain⟨w',hw,rw'⟩:=RelO.some_of (v:=v) (o:=valueAt vs k) (by rw[l]; exact rel.val k)
  exact wpAny_getItem_of (kV_is ry) dd.mapOf hw (h w' _ (I.tok _) rw')
 ·subst ey
  cases (show u=Value.ref b from ry)
  obtain⟨z,hd,xs,rel,dd⟩:=dt_rd I.hok e
  obtain⟨w',hw,rw'⟩:=RelO.some_of (v:=v) (o:=(atKey xs k).map (·.2)) (by rw[l]; exact rel.val k)
  obtain⟨p,hp,hp2⟩:=Option.map_eq_some_iff.mp hw
  refine wpAny_getItem_heap (fJ hu) (jHK I.hok eb) dd hp ?_
  rw[hp2]
  exact h w' _ (I.tok _) rw'
theorem d_in {Q:Value->Shared->Prop}(hu:A.units+1<cLine)(I:Inv X ad σ H s)(g:DGet H a y o)(ry:RelV y u)(h:∀ s',Inv X ad σ H s'->Q (.bool o.isSome) s'):
  wpAny (model X.prog X.w) A (compareOp .In u (.ref a)) Q E s:=by
 rcases g with ⟨kvs,k,e,ey,l⟩ | ⟨kvs,k,b,e,ey,eb,l⟩
 ·subst ey
  obtain⟨z,hd,vs,rel,dd⟩:=dk_rd I.hok e
  refine wpAny_in_of (kV_is ry) hd dd.mapOf ?_
  rw[<- (rel.val k).isSome_eq,<- l]
  exact h _ (I.tok _)
 ·subst ey
  cases (show u=Value.ref b from ry)
  obtain⟨z,hd,xs,rel,dd⟩:=dt_rd I.hok e
  refine wpAny_in_heap (fJ hu) (jHK I.hok eb) hd dd ?_
  have q:=(rel.val k).isSome_eq
  rw[iF] at q
  rw[<- q,<- l]
  exact h _ (I.tok _)
theorem jTX {Q:Value->Shared->Prop}(hu:A.units+1<cLine)(I:Inv X ad σ H s)(g:DGet H a y o)(ry:RelV y u)(h:∀ s',Inv X ad σ H s'->Q (.bool (!o.isSome)) s'):
  wpAny (model X.prog X.w) A (compareOp .NotIn u (.ref a)) Q E s:=by
 rcases g with ⟨kvs,k,e,ey,l⟩ | ⟨kvs,k,b,e,ey,eb,l⟩
 ·subst ey
  obtain⟨z,hd,vs,rel,dd⟩:=dk_rd I.hok e
  refine wpAny_notIn_of (kV_is ry) hd dd.mapOf ?_
  rw[<- (rel.val k).isSome_eq,<- l]
  exact h _ (I.tok _)
 ·subst ey
  cases (show u=Value.ref b from ry)
  obtain⟨z,hd,xs,rel,dd⟩:=dt_rd I.hok e
  refine wpAny_notIn_heap (fJ hu) (jHK I.hok eb) hd dd ?_
  have q:=(rel.val k).isSome_eq
  rw[iF] at q
  rw[<- q,<- l]
  exact h _ (I.tok _)
theorem jJ5 {h':Heap}{t':Nat}{ob:HO}(I:Inv X ad σ H s)(mu:Mut (H a))(hs:Heap.SameBut a s.heap h')(he:∃ q,h'.get? a=some q)(new:ObjOk X.prog X.w (upd H a ob) h' a ob):
  Inv X ad σ (upd H a ob) { s with heap:=h',toks:=t'} :=
 I.write (x:=a) (e:=a) mu (.inl rfl) (fun b q hb z=>(hs.2 b hb).trans z) he new
theorem jRS {P:Program}{w:World}{H':Hp}{h':Heap}{kvs:List (Key×V)}{vs:List (Key×Value)}(z:kvs.length<=sizeLine)(hd:(a==sysModules)=false)(rel:KV kvs vs)(dd:h'.DictOf (kT P w) a vs):
  ObjOk P w H' h' a (.dK kvs):=⟨z,hd,vs,rel,dd⟩
theorem jOI {H':Hp}{Q:Unit->Shared->Prop}(hu:A.units+1<cLine)(I:Inv X ad σ H s)(g:DPut H a y v H')(ry:RelV y u)(rv:RelV v r)(h:∀ s',Inv X ad σ H' s'->Q () s'):
  wpAny (model X.prog X.w) A (setItem (.ref a) u r) Q E s:=by
 rcases g with ⟨kvs,k,e,ey,l,eH⟩ | ⟨kvs,k,b,e,ey,eb,l,eH⟩
 ·subst ey eH
  obtain⟨z,hd,vs,rel,dd⟩:=dk_of I.hok e
  have hz:vs.length<=sizeLine:=by rw[<- rel.length]; exact z
  have hl:(putK kvs k v).length<=sizeLine:=by have:=jC2 kvs k v; lia
  refine wpAny_setItem_pairs (hsz:=hz) (kV_is ry) dd fun h' dd' hs=>h _ ?_
  have he:∃ q,h'.get? a=some q:=let ⟨q,_,_,hq,_⟩:=dd'; ⟨q,hq⟩
  exact jJ5 I (by rw[e]; exact True.intro) hs he (jRS hl hd (rel.put k rv) dd')
 ·subst ey eH
  cases (show u=Value.ref b from ry)
  obtain⟨z,hd,xs,rel,dd⟩:=dt_of I.hok e
  have hz:xs.length<=sizeLine:=by rw[<- fg rel]; exact z
  have hl:(putK kvs k v).length<=sizeLine:=by have:=jC2 kvs k v; lia
  refine wpAny_setItem_heap (hsz:=hz) (fJ hu) (jHK I.hok eb) dd fun h' dd' hs=>h _ ?_
  obtain⟨q,es,ep,hq,h2,h3,h4,_,h5⟩:=dd'
  refine jJ5 I (by rw[e]; exact True.intro) hs ⟨q,hq⟩ ⟨hl,hd,_,(rel.put k eb rv).keeps fun c ys ec=>?_,q,es,ep,hq,h2,h3,h4,h5⟩
  rw[j8 (ne_of ec e (fun z=>nomatch z))]
  exact ec
end
variable {kvs:List (Key×V)}
section
variable {σ:St}{k:Key}
end
def NoSl (i:Expr):Prop:=∀ ov iv,subscripted i false ov iv=operate [ov,iv] (getItem ov iv)
theorem jS2 {prog:Program}{w:World}{A:Around}{E:Value->Shared->Prop}{s:Shared}{env:Env}{value slice:Expr}{pos:Pos}{T id:String}{Q:Value->Shared->Prop}
  (hl:typeLookup (.type T) "__getitem__" =pure (some (.builtin id))) (hs:NoSl slice)
  (h:wpAny (model prog w) A (eval value env) (fun o s₁=>wpAny (model prog w) A (eval slice env) (fun i s₂=>s₂.TypeIs o T/\wpAny (model prog w) A (getItem o i) Q E s₂) E s₁) E s):
  wpAny (model prog w) A (eval (.Subscript value slice pos) env) Q E s:=by
 refine Subscript_ (b7 h (fun o s₁ h₁=>b7 h₁ (fun i s₂ h₂=>?_) fun _ _ x=>x) fun _ _ x=>x)
 obtain⟨hT,h₂⟩:=h₂
 unfold subscriptTail
 refine ae ?_
 rw[getitemInPython_of_ne hT.not_modules]
 refine ae (wpAny_specialOf hT hl ?_)
 have fin:wpAny (model prog w) A (subscripted slice false o i) (fun r s₃=>wpAny (model prog w) A (letTemporaryGo value o r >>= fun _=>pure r) Q E s₃) E s₂:=by
  rw[hs o i]
  exact wpAny_operating (b7 h₂ (fun r s₃ h₃=>ae (wpAny_letTemporaryGo (ak h₃))) fun _ _ x=>x)
 first
  | exact ak (ae fin)
  | exact ae (ak (ae fin))
  | exact ae fin
theorem jJ3 {X:Cx}{ad:List (Addr×Obj)}{σ:St}{H:Hp}{s:Shared}{a:Addr}{y:V}{o:Option V}(I:Inv X ad σ H s)(g:DGet H a y o):s.TypeIs (.ref a) "dict" :=by
 rcases g with ⟨kvs,k,e,_,_⟩ | ⟨kvs,k,b,e,_,_,_⟩
 ·obtain⟨_,_,vs,_,dd⟩:=dk_rd I.hok e
  exact dd.typeIs
 ·obtain⟨_,_,xs,_,dd⟩:=dt_rd I.hok e
  exact dd.typeIs
def tDGet (td ty:TE):TE:=fun σ H Q=>td σ H fun x H1=>ty σ H1 fun y H2=>∃ a v,x= .ref a/\DGet H2 a y (some v)/\Q v H2
def tDIn (ty td:TE):TE:=fun σ H Q=>ty σ H fun y H1=>td σ H1 fun x H2=>∃ a o,x= .ref a/\DGet H2 a y o/\Q (.bl o.isSome) H2
def jM0 (ty td:TE):TE:=fun σ H Q=>ty σ H fun y H1=>td σ H1 fun x H2=>∃ a o,x= .ref a/\DGet H2 a y o/\Q (.bl (!o.isSome)) H2
def sDPut (td ty tv:TE):TS:=fun D σ H=>tv σ H fun v H1=>td σ H1 fun x H2=>ty σ H2 fun y H3=>∃ a H4,x= .ref a/\DPut H3 a y v H4/\D.nx σ H4
variable {o value:Expr}{pos':Pos}{td tv:TE}
section
variable {i:Expr}{tpos:Pos}{ty:TE}
theorem jSP (hu:X.A.units+1<cLine)(ho:PE X o td)(hi:PE X i ty)(hs:NoSl i):PE X (.Subscript o i pos) (tDGet td ty):=by
 intro ad s σ H Q I h
 refine jS2 PySem.F.slot_dict_getitem.lookup hs (ly (ho ad s σ H _ I h) fun u s1 ⟨x,H1,I1,rx,q1⟩=>ly (hi ad s1 σ H1 _ I1 q1) fun iv s2 ⟨y,H2,I2,ry,a,v,ex,g,q2⟩=>?_)
 subst ex
 obtain rfl:u=Value.ref a:=rx
 exact⟨jJ3 I2 g,jOJ hu I2 g ry fun w' s3 I3 rw'=>⟨v,H2,I3,rw',q2⟩⟩
theorem jV1 (hu:X.A.units+1<cLine)(hi:PE X i ty)(ho:PE X o td):PC X .In i o (tDIn ty td):=by
 intro ad s σ H Q I h
 refine ly (hi ad s σ H _ I h) fun iv s1 ⟨y,H1,I1,ry,q1⟩=>ly (ho ad s1 σ H1 _ I1 q1) fun u s2 ⟨x,H2,I2,rx,a,ov,ex,g,q2⟩=>?_
 subst ex
 obtain rfl:u=Value.ref a:=rx
 exact d_in hu I2 g ry fun s3 I3=>⟨.bl ov.isSome,H2,I3,rfl,q2⟩
theorem jMK (hu:X.A.units+1<cLine)(hi:PE X i ty)(ho:PE X o td):PC X .NotIn i o (jM0 ty td):=by
 intro ad s σ H Q I h
 refine ly (hi ad s σ H _ I h) fun iv s1 ⟨y,H1,I1,ry,q1⟩=>ly (ho ad s1 σ H1 _ I1 q1) fun u s2 ⟨x,H2,I2,rx,a,ov,ex,g,q2⟩=>?_
 subst ex
 obtain rfl:u=Value.ref a:=rx
 exact jTX hu I2 g ry fun s3 I3=>⟨.bl (!ov.isSome),H2,I3,rfl,q2⟩
theorem jSD (hu:X.A.units+1<cLine)(ho:PE X o td)(hi:PE X i ty)(hv:PE X value tv)(hs:swapsWith value (some (.Subscript o i pos')) pos.line X.env=pure false):
  PS X (.Assign [.Subscript o i pos'] value pos) (sDPut td ty tv):=by
 intro ad s σ H D I h
 refine wpAny_Assign_Subscript (ly (hv ad s σ H _ I h) fun r s1 ⟨v,H1,I1,rv,q1⟩=>ly (ho ad s1 σ H1 _ I1 q1) fun u s2 ⟨x,H2,I2,rx,q2⟩=>ly (hi ad s2 σ H2 _ I2 q2) fun iv s3 ⟨y,H3,I3,ry,a,H4,ex,g,q3⟩=>?_) hs
 subst ex
 obtain rfl:u=Value.ref a:=rx
 exact jOI hu I3 g ry rv fun s4 I4=>⟨σ,H4,I4,q3⟩
end
theorem jQJ {P:Program}{w:World}{H:Hp}(h:Heap)(hb:sysModules<h.objs.size):ObjOk P w H (h.push { cls:= .type "dict",data:= .dict #[]}) h.objs.size (.dK []):=
 ⟨bi _,bO.mpr (dW (aQ hb)),[], .nil,jh h⟩
def jLY:List (TE×TE)->St->Hp->(List (V×V)->Hp->Prop)->Prop
 | [],_,H,Q=>Q [] H
 | (tk,tv)::r,σ,H,Q=>tk σ H fun x H1=>tv σ H1 fun y H2=>jLY r σ H2 fun ps H3=>Q ((x,y)::ps) H3
abbrev VV:List (V×V)->List (Value×Value)->Prop:=Paired fun p q=>RelV p.1 q.1/\RelV p.2 q.2
def PPs (X:Cx)(pos:Pos)(keys:List (Option Expr))(values:List Expr)(trs:List (TE×TE)):Prop:=
 ∀ (ad:List (Addr×Obj)) (s:Shared) (σ:St) (H:Hp) (Q:List (V×V)->Hp->Prop),Inv X ad σ H s->jLY trs σ H Q->
  wpAny (model X.prog X.w) X.A (evalPairs (pairTrees keys values X.env pos)) (fun vs s'=>∃ ps H',Inv X ad σ H' s'/\VV ps vs/\Q ps H') X.xe s
theorem jSE {X:Cx}{pos:Pos} :PPs X pos [] [] []:=fun ad s σ H Q I h=>pairTrees_nil_walk ⟨[],H,I, .nil,h⟩
theorem jPE {X:Cx}{pos:Pos}{k v:Expr}{ks:List (Option Expr)}{vs:List Expr}{tk tv:TE}{trs:List (TE×TE)}(hk:PE X k tk)(hv:PE X v tv)(hr:PPs X pos ks vs trs):
  PPs X pos (some k::ks) (v::vs) ((tk,tv)::trs):=fun ad s σ H Q I h=>
 pairTrees_cons_walk (ly (hk ad s σ H _ I h) fun u s1 ⟨x,H1,I1,rx,q1⟩=>ly (hv ad s1 σ H1 _ I1 q1) fun w2 s2 ⟨y,H2,I2,ry,q2⟩=>
  ly (hr ad s2 σ H2 _ I2 q2) fun ws s3 ⟨ps,H3,I3,rel,q3⟩=>⟨(x,y)::ps,H3,I3, .cons ⟨rx,ry⟩ rel,q3⟩)
def jHF (kvs more:List (Key×V)):List (Key×V):=more.foldl (fun acc kv=>putK acc kv.1 kv.2) kvs
theorem KV.merge:∀ {more:List (Key×V)}{rs:List (Key×Value)}{kvs:List (Key×V)}{vs:List (Key×Value)},KV more rs->KV kvs vs->KV (jHF kvs more) (merged vs rs):=by
 intro more rs kvs vs r
 unfold KV at r
 induction r generalizing kvs vs with
 | nil=>intro q; exact q
 | @cons p q ps qs h t ih=>
  intro r0
  have e:KV (putK kvs p.1 p.2) (stored vs q.1 q.2):=by
   have:=r0.put p.1 h.2
   rw[<- h.1]; exact this
  exact ih e
theorem jCH:∀ (more kvs:List (Key×V)),(jHF kvs more).length<=kvs.length+more.length
 | [],kvs=>by show kvs.length<=kvs.length+0; lia
 | p::r,kvs=>by
  have h1:=jCH r (putK kvs p.1 p.2)
  have h2:=jC2 kvs p.1 p.2
  show (jHF (putK kvs p.1 p.2) r).length<=_
  rw[aU]; lia
theorem jFK {P:Program}{w:World} :∀ {kvs:List (Key×V)}{ws:List (Value×Value)},VV (kvs.map fun kv=>(kV kv.1,kv.2)) ws->∃ rs,Carries (kT P w) ws rs/\KV kvs rs
 | [],_,r=>by rw[g7] at r; cases r; exact⟨[],True.intro, .nil⟩
 | p::kvs,_,r=>by
  rw[br] at r
  cases r with
  | @cons a b as bs h t=>
   obtain⟨rs,c,q⟩:=jFK (P:=P) (w:=w) t
   obtain⟨b1,b2⟩:=b
   exact⟨(p.1,b2)::rs,⟨kV_is h.1,rfl,c⟩, .cons ⟨rfl,h.2⟩ q⟩
def tDisp (trs:List (TE×TE)):TE:=fun σ H Q=>∀ p,H p=none->jLY trs σ (upd H p (.dK [])) fun ps H2=>H2 p=some (.dK [])/\∃ kvs:List (Key×V),ps=kvs.map (fun kv=>(kV kv.1,kv.2))/\kvs.length<=15/\Q (.ref p) (upd H2 p (.dK (jHF [] kvs)))
theorem jSO {X:Cx}{pos:Pos}{keys:List (Option Expr)}{values:List Expr}{trs:List (TE×TE)}(h:PPs X pos keys values trs)(hall:keys.all (·.isSome)=true)(hl:keys.length=values.length)(h0:keys≠ [])
  (h15:keys.length<=15):PE X (.Dict keys values pos) (tDisp trs):=by
 intro ad s σ H Q I q
 have hn:=I.hok.fresh (am s.heap.objs.size)
 have I1:=I.laid (a:=s.heap.objs.size) (o:= .dK []) (h':=s.heap.push { cls:= .type "dict",data:= .dict #[]}) (t':=s.toks) (fun _ _ q=>ag _ q) (am _) (jQJ s.heap I.big)
 refine wpAny_Dict_walk (knd:=kT X.prog X.w) hall hl h0 h15 (ly (h ad _ σ _ _ I1 (q _ hn)) fun ws s2 ⟨ps,H2,I2,rel,e,kvs,ep,lk,q2⟩=>?_)
 subst ep
 obtain⟨rs,c,rk⟩:=jFK (P:=X.prog) (w:=X.w) rel
 obtain⟨z,hd,vs0,r0,dd⟩:=dk_of I2.hok e
 cases r0
 refine⟨rs,c,dd,fun h' dd' hs=>⟨.ref s.heap.objs.size,_,?_,rfl,q2⟩⟩
 have hz:(jHF [] kvs).length<=sizeLine:=by
  have h1:=jCH kvs []
  rw[cy] at h1
  rw[eJ]; lia
 have he:∃ q,h'.get? s.heap.objs.size=some q:=let ⟨q,_,_,hq,_⟩:=dd'; ⟨q,hq⟩
 exact jJ5 I2 (by rw[e]; exact True.intro) hs he (jRS hz hd (rk.merge .nil) dd')
section
variable {σ:St}{d:V}{o:Option V}
end
variable {apos:Pos}{tx:TE}
section
variable {f:Expr}{ty:TE}
end
section
variable {σ:St}
end
section
variable {σ:St}
end
section
variable {κ:Type} [DecidableEq κ]
end
section
variable {d:Addr}{kvs:List (Key×Value)}
theorem jJ8 {T:String}{r d:Addr}{n:Nat}{P:Nat->Value->Prop}{OK:Heap->Prop}{R:List Value->Shared->Prop}(K:PySem.W.KdlSrc prog w T r d n P OK)(hh:A.handled=none)(hok:OK s.heap)(hn:n<=sizeLine)
  (h:∀ (h':Heap) (tk:Nat) (acc:Array Value),(∀ b o,s.heap.get? b=some o->h'.get? b=some o)->s.heap.objs.size<h'.objs.size->ItemsOf P acc n->R acc.toList { s with heap:=h',toks:=tk}):
  wpAny (model prog w) A (collect (.ref r)) R E s:=by
 have hlt:=K.there _ hok
 unfold collect
 refine ae (ir (cz entry_proto_collect' ?_))
 rw[cr g8 _]
 show wpAny _ A.in1 (newList [] >>= fun l=>again (.builtin "list.__iadd__" ⟨[l, .ref r],[]⟩)) _ _ s
 refine ae (cZ ?_)
 refine ak ⟨eS eI _,cz entry_list_iadd' ?_⟩
 rw[cr eI _]
 have hS:(s.heap.push { cls:= .type "list",data:= .seq ([]:List Value).toArray}).get? s.heap.objs.size=some { cls:= .type "list",data:= .seq #[]} :=aA _ rfl
 show wpAny _ A.in1 (Builtin.List.listExtendWith (.ref s.heap.objs.size) (.ref r) (.ref s.heap.objs.size)) _ _ _
 refine b7 (PySem.W.kdl_extend (A:=A) (s:= { s with heap:=s.heap.push { cls:= .type "list",data:= .seq ([]:List Value).toArray}})
  (R:=fun (q:Result) (s':Shared)=>∃ (h':Heap) (tk:Nat) (acc:Array Value) (c:Nat),q= .ok (.ret (.ref s.heap.objs.size))/\s'= { s with heap:=h',toks:=tk} /\
   (∀ b o,s.heap.get? b=some o->h'.get? b=some o)/\h'.get? s.heap.objs.size=some { cls:= .type "list",dict:=none,data:= .seq acc c,slots:=#[]} /\ItemsOf P acc n)
  K hh (K.keep _ _ hok fun b _ o e=>ag _ e) s.heap.objs.size (cK hlt.1) (cK hlt.2) (.ref s.heap.objs.size) 0 hS
  (fun h' tk acc c hk hS' hacc=>⟨h',tk,acc,c,rfl,rfl,fun b o e=>hk b o (aQ (aE e)) (ag _ e),hS',hacc⟩) hn) (fun fin s' x=>?_) fun e s' x=>?_
 ·cases fin with
  | done f=>
   obtain⟨h',tk,acc,c,e,rfl,hk,hS',hacc⟩:=x
   cases e
   show wpAny _ A (load s.heap.objs.size >>= _) _ _ _
   exact ae (gC hS' (ak (h h' tk acc hk (aE hS') hacc)))
  | again c1=>
   refine⟨x.1,dN x.2 fun q s2 y=>?_⟩
   obtain⟨h',tk,acc,c,rfl,rfl,hk,hS',hacc⟩:=y
   show wpAny _ A (load s.heap.objs.size >>= _) _ _ _
   exact ae (gC hS' (ak (h h' tk acc hk (aE hS') hacc)))
 ·obtain⟨_,_,_,_,e',_⟩:=x
  cases e'
end
section
variable {i f:Expr}{ty:TE}
theorem jIY (hu:X.A.units+1<cLine)(ho:JE X o td)(hi:JE X i ty)(hs:jB6 i):JE X (.Subscript o i pos) (tDGet td ty):=⟨jSP hu ho.h hi.h hs⟩
theorem jIW (hu:X.A.units+1<cLine)(ho:JE X o td)(hi:JE X i ty)(hv:JE X value tv)(hs:SwOk value (some (.Subscript o i pos'))):JS X (.Assign [.Subscript o i pos'] value pos) (sDPut td ty tv):=⟨jSD hu ho.h hi.h hv.h (hs.h _ _)⟩
end
theorem jGV:entryFor table "dict.update.loop" =some Builtin.«dict.update.loop»:=entryFor_of_fast (by kernel_rfl)
theorem jC8:plainId "dict.update.loop" =true:=by decide+kernel
theorem jHI:typeLookup (.type "list") "keys" =pure none:=am_miss_of_fast (by kernel_rfl)
theorem jEI:typeLookup (.type "list") "__getattr__" =pure none:=am_miss_of_fast (by kernel_rfl)
theorem jNA (a:Addr)(name:Str)(u:Tok)(hmiss:typeLookup (.type "list") name=pure none)(hsz:name.length+100<=sizeLine)(hgd: [Str.ofString "__module__",Str.ofString "__name__",Str.ofString "__qualname__",Str.ofString "__doc__",Str.ofString "__annotations__"].contains name=false):Meets (Builtin.«object.__getattribute__» ⟨[.ref a, .str name u],[]⟩) (fun A R s=>(∃ its n,s.heap.get? a=some { cls:= .type "list",data:= .seq its n})/\raisesAttr (.ref a) name A R s):=
 Meets.of_wp fun prog w A R s hs=>by
  obtain⟨⟨its,n,ho⟩,hs⟩:=hs
  obtain⟨hp,g,d,tk,os⟩:=s
  have hT:(⟨hp,g,d,tk,os⟩:Shared).TypeIs (.ref a) "list" :=⟨_,ho,rfl⟩
  unfold Builtin.«object.__getattribute__»
  repeat (any_goals (first | assumption | wp_step))
  rw[hgd,ao aq]
  repeat (any_goals (first | assumption | wp_step))
  exact wpAny_raiseAttrError hs.1 hs.2 (attrMsg_fits (by decide+kernel) hsz)
theorem jNL {a:Addr}{name:Str}(hmiss:typeLookup (.type "list") name=pure none)(hsz:name.length+100<=sizeLine)(hgd: [Str.ofString "__module__",Str.ofString "__name__",Str.ofString "__qualname__",Str.ofString "__doc__",Str.ofString "__annotations__"].contains name=false){its:Array Value}{n:Nat}{Q:Option Value->Shared->Prop}(hA:A.handled=none)(ho:s.heap.get? a=some { cls:= .type "list",data:= .seq its n})
  (h:∀ h' tk,(∀ b u,s.heap.get? b=some u->h'.get? b=some u)->Q none { s with heap:=h',toks:=tk}):wpAny (model prog w) A (getAttr? (.ref a) name) Q E s:=by
 obtain⟨hp,g,d,tk,os⟩:=s
 have hT:∀ tk',(⟨hp,g,d,tk',os⟩:Shared).TypeIs (.ref a) "list" :=fun _=>⟨_,ho,rfl⟩
 have f1:=sub_AttributeError
 have f3:=F.slot_list_getattribute.lookup
 have f4:=F.slot_list_getattribute.bind (.ref a)
 have f5:=jEI
 unfold getAttr? getAttrBy? getAttrBy
 repeat (any_goals (first | assumption | ((with_reducible show wpAny _ _ (call (Value.builtin "list.__getattribute__") _ _) _ _ _); refine i5 F.slot_list_getattribute (hT _) F.entry_list_ga (F.args_list_getattribute_2 _ _) (jNA a name _ hmiss hsz hgd) ⟨⟨its,n,ho⟩,hA,fun h' tk' e hx=>?_⟩) | wp_step))
 obtain⟨t',u',he⟩:=hx.there
 show wpAny _ _ (getattributeRaised _ _ _ _ _ _ _) _ _ _
 unfold getattributeRaised
 repeat (any_goals (first | assumption | wp_step))
 exact h _ _ fun b u q=>hx.keeps b u q
theorem jL3 {a:Addr}{k v:Value}{m:Nat}{Q:List Value->Shared->Prop}(ho:s.heap.get? a=some { cls:= .type "tuple",data:= .seq #[k,v] m})(h:Q [k,v] s):wpAny (model prog w) A (Builtin.Dict.pairItems (.ref a)) Q E s:=by
 obtain⟨hp,g,d,tk,os⟩:=s
 have hT:(⟨hp,g,d,tk,os⟩:Shared).TypeIs (.ref a) "tuple" :=⟨_,ho,rfl⟩
 unfold Builtin.Dict.pairItems
 repeat (any_goals (first | assumption | wp_step))
section
variable {prog:Program}{w:World}{K:Type} [DecidableEq K]{knd:KeyKind prog w K}{A:Around}{R:Result->Shared->Prop}{I:Addr}{fp wr:List Addr}{n:Nat}{P:Nat->Value->Prop}{St:Nat->Shared->Prop}
def jKR (knd:KeyKind prog w K)(h:Heap)(a:Addr)(p:K×Value):Prop:=∃ key m,h.get? a=some { cls:= .type "tuple",data:= .seq #[key,p.2] m} /\knd.is p.1 key=true
theorem upl (W:WalksS prog w A.in1 I fp wr (fun a b=>b=a) n P St)(d:Addr)(hd:d∉fp)(more:List (K×Value))(hmn:more.length=n)(pa:Nat->Addr)(hpd:∀ i,i<n->pa i≠d/\pa i∉wr)(hP:∀ i v,P i v->v= .ref (pa i))(hn:n<=sizeLine):
  ∀ (k i:Nat) (z:Int) (s:Shared),n - i=k->i<=n->St i s->s.heap.DictOf knd d (merged [] (more.take i))->(∀ j p,more[j]?=some p->jKR knd s.heap (pa j) p)->
   (∀ s',Moved (d::wr) (fun a b=>b=a) s s'->s'.heap.DictOf knd d (merged [] more)->R (.ok (.ret .none)) s')->
   codeAny (model prog w) A (.builtin "dict.update.loop" ⟨[.ref d, .ref I,rawInt z, .none],[]⟩) R s:=by
 have hdw:d∉wr:=fun h=>hd (W.sub _ h)
 have sub1:∀ b∈wr,b∈d::wr:=fun b hb=>ah _ hb
 intro k
 induction k with
 | zero=>
  intro i z s hk hi hst hS hp hR
  obtain rfl:i=n:=by lia
  refine cz jGV ?_
  rw[cr jC8 _]
  show wpAny _ A.in1 (pyNext (.ref I) >>= _) _ _ s
  refine ae (W.done s _ _ hst fun s' mv=>?_)
  show wpAny _ A.in1 (Builtin.Dict.addKeywords d [] >>= fun _=>ret Value.none) _ _ s'
  refine ae (ak (ak (hR s' (mv.mono sub1) ?_)))
  obtain⟨o,es,ep,ho,r⟩:=hS
  rw[<- hmn,bw] at r
  exact⟨o,es,ep,mv.heap d o hdw ho,r⟩
 | succ k ih=>
  intro i z s hk hi hst hS hp hR
  have hlt:i<n:=by lia
  refine cz jGV ?_
  rw[cr jC8 _]
  show wpAny _ A.in1 (pyNext (.ref I) >>= _) _ _ s
  refine ae (W.item i s _ _ hlt hst fun v s' hPv hst' mv=>?_)
  obtain rfl:=hP i v hPv
  have hS':s'.heap.DictOf knd d (merged [] (more.take i)):=by
   obtain⟨o,es,ep,ho,r⟩:=hS
   exact⟨o,es,ep,mv.heap d o hdw ho,r⟩
  have hp':∀ j p,more[j]?=some p->jKR knd s'.heap (pa j) p:=fun j p hj=>by
   obtain⟨key,m,e,q⟩:=hp j p hj
   have hjn:j<n:=by rw[<- hmn]; exact(aj.mp hj).1
   exact⟨key,m,mv.heap _ _ (hpd j hjn).2 e,q⟩
  obtain⟨p,hpi⟩:∃ p,more[i]?=some p:=⟨more[i],by simp [hmn,hlt]⟩
  obtain⟨key,m,e1,hk1⟩:=hp' i p hpi
  show wpAny _ A.in1 (holding [Value.ref (pa i)] _ >>= _) _ _ s'
  refine ae (bS (ae ?_))
  refine wpAny_tryCatch (jL3 e1 ?_)
  refine bS (wpAny_dictSet_pairs hk1 hS' (fun h' hd' sb=>?_) (by
   have:=merged_length_le (K:=K) [] (more.take i)
   have h2:=bu i more
   have:(merged [] (more.take i)).length<=i:=by
    refine bf (merged_length_le (K:=K) [] (more.take i)) ?_
    simp only [cy,Nat.zero_add]
    exact bu _ _
   lia))
  refine ak ⟨eS jC8 _,ih (i+1) (z+1) _ (by lia) hlt (W.frame _ s' _ _ hst' (dy _) fun b hb o e=>?_) ?_ (fun j p hj=>?_) fun s'' mv2 hS3=>?_⟩
  ·rw[sb.2 b (fun h:b=d=>hd (by rw[<- h]; exact hb))]
   exact e
  ·rw[merged_take_succ _ _ _ _ hpi]
   exact hd'
  ·obtain⟨key,m,e,q⟩:=hp' j p hj
   have hjn:j<n:=by rw[<- hmn]; exact(aj.mp hj).1
   exact⟨key,m,by show h'.get? _=_; rw[sb.2 _ (hpd j hjn).1]; exact e,q⟩
  ·refine hR s'' (Moved.trans W.gtrans ((mv.mono sub1).then_heap (dy _) fun b o hb e=>?_) mv2) hS3
   rw[sb.2 b (fun h:b=d=>hb (by rw[h]; exact ai))]
   exact e
end
section
variable {prog:Program}{w:World}{K:Type} [DecidableEq K]{knd:KeyKind prog w K}{A:Around}{E:Value->Shared->Prop}{s:Shared}
theorem jEZ {l:Addr}{its:List Value}{nl:Nat}{more:List (K×Value)}{Q:Value->Shared->Prop}(hA:A.handled=none)(hl:s.heap.get? l=some { cls:= .type "list",data:= .seq its.toArray nl})(hsz:its.length<=sizeLine)
  (pa:Nat->Addr) (hit:∀ i v,its[i]?=some v->v=Value.ref (pa i)) (hlen:more.length=its.length) (hp:∀ j p,more[j]?=some p->jKR knd s.heap (pa j) p)
  (h:∀ h' tk,h'.DictOf knd s.heap.objs.size (merged [] more)->(∀ b u,s.heap.get? b=some u->h'.get? b=some u)->Q (.ref s.heap.objs.size) { s with heap:=h',toks:=tk}):
  wpAny (model prog w) A (call (.type "dict") [.ref l]) Q E s:=by
 refine callType_codes (Q₁:=fun obj s₁=>obj= .ref s.heap.objs.size/\s₁= { s with heap:=s.heap.push { cls:= .type "dict",data:= .dict #[]}}) F.kt_called_dict (F.kt_typeCall_dict_1 _) F.entry_dict_init (kt_code_dict_new _ ⟨rfl,rfl⟩) ?_
 rintro obj s₁ ⟨rfl,rfl⟩
 have hnew:(s.heap.push { cls:= .type "dict",data:= .dict #[]}).DictOf knd s.heap.objs.size []:=jh s.heap
 have hl1:(s.heap.push { cls:= .type "dict",data:= .dict #[]}).get? l=some { cls:= .type "list",data:= .seq its.toArray nl} :=ag _ hl
 have hls:l<s.heap.objs.size:=aE hl
 have hT:Shared.TypeIs { s with heap:=s.heap.push { cls:= .type "dict",data:= .dict #[]}} (.ref l) "list" :=⟨_,hl1,rfl⟩
 refine⟨hnew.typeIs,F.args_dict_init_2 _ _,?_⟩
 unfold Builtin.«dict.__init__»
 refine ae ?_
 unfold Builtin.Dict.selfAndRest
 refine ae (wpAny_notOrdered_dict hnew.typeIs ?_)
 show wpAny _ _ (pure (s.heap.objs.size,[Value.ref l])) _ _ _
 refine ak ?_
 show wpAny _ _ (Builtin.Dict.updateFrom "dict.__init__" s.heap.objs.size (.ref l) [] .none) _ _ _
 unfold Builtin.Dict.updateFrom
 refine ae (i7 hT ?_)
 rw[ar (by decide)]
 refine ae (jNL jHI (by decide+kernel) (by decide+kernel) (by simpa using hA) hl1 fun h2 tk2 k2=>?_)
 rw[ar (by rfl)]
 refine ae (dj (ae ?_))
 have hl2:h2.IsList l its.toArray:=⟨_,k2 _ _ hl1,rfl,nl,rfl⟩
 refine dG hl2 ?_
 have z2:s.heap.objs.size<h2.objs.size:=by
  have:=aE (k2 _ _ (aA s.heap (o:= { cls:= .type "dict",data:= .dict #[]}) rfl))
  exact this
 have hlI:l≠h2.objs.size:=aQ (eM hls z2)
 have hdI:s.heap.objs.size≠h2.objs.size:=aQ z2
 have hdl:s.heap.objs.size≠l:=cK hls
 have hplt:∀ i,i<its.length->pa i<s.heap.objs.size:=fun i hi=>by
  obtain⟨key,m,e,_⟩:=hp i more[i] (by simp [hlen,hi])
  exact aE e
 have keep:∀ b u,s.heap.get? b=some u->(h2.push { cls:= .type "list_iterator",data:= .fields #[.ref l, .int 0 0]}).get? b=some u:=fun b u e=>ag _ (k2 _ _ (ag _ e))
 refine ak ⟨eS jC8 _,upl (knd:=knd) ((i6 (by simp [hA]) _ l hlI its.toArray).toS) s.heap.objs.size ?_ more (by simp [hlen]) pa (fun i hi=>?_) (fun i v q=>hit i v (by simpa using q)) (by simpa using hsz) (its.toArray.size - 0) 0 0 _ rfl (bi _) ⟨⟨_,aA _ rfl,rfl,rfl⟩,hl2.push _⟩ ?_ (fun j p hj=>?_) fun s' mv hD=>?_⟩
 ·simp only [aF,bC,dh,la]
  exact⟨hdI,hdl⟩
 ·have:=hplt i (by simpa using hi)
  refine⟨aQ this,?_⟩
  simp only [aF,bC,dh]
  exact aQ (eM this z2)
 ·obtain⟨o,es,ep,ho,r⟩:=hnew
  exact⟨o,es,ep,ag _ (k2 _ _ ho),r⟩
 ·obtain⟨key,m,e,q⟩:=hp j p hj
  exact⟨key,m,keep _ _ e,q⟩
 ·obtain⟨h',g',d',tk',os'⟩:=s'
  have e1:g'=s.gens:=mv.gens
  have e2:d'=s.drawn:=mv.drawn
  have e3:os'=s.os:=mv.os
  subst e1; subst e2; subst e3
  refine⟨rfl,h h' tk' hD fun b u e=>mv.heap b u ?_ (keep b u e)⟩
  have hb:=aE e
  simp only [aF,bC,dh,la]
  exact⟨aQ hb,aQ (eM hb z2)⟩
end
theorem jN9 {P:Program}{w:World}{h:Heap} :∀ (kvs:List (Key×V)) (pa:Nat->Addr),(∀ i k v,kvs[i]?=some (k,v)->∃ key u m,h.get? (pa i)=some { cls:= .type "tuple",data:= .seq #[key,u] m} /\RelV (kV k) key/\RelV v u)->
  ∃ more:List (Key×Value),KV kvs more/\∀ j p,more[j]?=some p->jKR (kT P w) h (pa j) p
 | [],_,_=>⟨[], .nil,fun j p e=>by simp at e⟩
 | (k,v)::r,pa,hk=>by
  obtain⟨more,k1,k2⟩:=jN9 (P:=P) (w:=w) r (fun i=>pa (i+1)) fun i k v e=>hk (i+1) k v (by simpa using e)
  obtain⟨key,u,m,e,r1,r2⟩:=hk 0 k v rfl
  refine⟨(k,u)::more, .cons ⟨rfl,r2⟩ k1,fun j p hj=>?_⟩
  cases j with
  | zero=>
   simp at hj
   subst hj
   exact⟨key,m,e,kV_is r1⟩
  | succ j=>exact k2 j p (by simpa using hj)
theorem jLL (hc:X.calm=true):yV X (.type "dict") (fun xs H Q=>∃ (p:Addr) (vs:List V) (kvs:List (Key×V)),xs=[.ref p]/\H p=some (.lst vs)/\vs.length=kvs.length/\(∀ (i:Nat) (k:Key) (v:V),kvs[i]?=some (k,v)->∃ a:Addr,vs[i]?=some (V.ref a)/\H a=some (.tup [kV k,v]))/\(kvs.map (·.1)).Nodup/\∀ l:Addr,H l=none->Q (.ref l) (upd H l (.dK kvs))):=by
 intro ad s σ H xs us Q I r h
 obtain⟨p,vs,kvs,rfl,hq,hl,hkv,hnd,q⟩:=h
 obtain⟨u,rfl,rx⟩:=r.one
 cases rx
 obtain⟨hz,its,nl,r',e0⟩:=I.hok p _ hq
 have hli:=r'.length
 obtain⟨more,k1,k2⟩:=jN9 (P:=X.prog) (w:=X.w) (h:=s.heap) kvs (fun i=>match vs[i]? with | some (.ref a)=>a | _=>0) fun i k v e=>by
  obtain⟨a,e1,e2⟩:=hkv i k v e
  obtain⟨_,it2,r2,m,e3⟩:=I.hok a _ e2
  have l2:=r2.length
  obtain⟨k',rest,rfl⟩:∃ k' rest,it2=k'::rest:=by
   cases it2 with
   | nil=>simp at l2
   | cons a b=>exact⟨a,b,rfl⟩
  obtain⟨u',rest',rfl⟩:∃ u' rest',rest=u'::rest':=by
   cases rest with
   | nil=>simp at l2
   | cons a b=>exact⟨a,b,rfl⟩
  obtain rfl:rest'=[]:=by
   cases rest' with
   | nil=>rfl
   | cons a b=>simp at l2
  rw[e1]
  cases r2 with
  | cons a1 a2=>
   cases a2 with
   | cons b1 b2=>exact⟨k',u',m,e3,a1,b1⟩
 have lm:more.length=kvs.length:=(fg k1).symm
 refine jEZ (knd:=kT X.prog X.w) (I.ok.hd hc) e0 (by lia) (fun i=>match vs[i]? with | some (.ref a)=>a | _=>0) (fun i v hv=>?_) (by lia) k2 fun h' tk hD kp=>?_
 ·have hi:i<its.length:=(aj.mp hv).1
  have hik:i<kvs.length:=by lia
  obtain⟨a,e1,e2⟩:=hkv i kvs[i].1 kvs[i].2 (by simp [hik])
  obtain⟨u,e3,e4⟩:=r'.get e1
  rw[hv] at e3
  cases e3
  simp only [e1]
  exact e4
 ·rw[merged_nil_of_nodup _ (by rw[<- KV.keys k1]; exact hnd)] at hD
  have hsz:(s.heap.objs.size==sysModules)=false:=by
   have:=I.big
   exact bO.mpr (cK this)
  exact⟨.ref s.heap.objs.size,_,I.laid (t':=tk) (o:= .dK kvs) kp (am _) ⟨by lia,hsz,more,k1,hD⟩,rfl,q _ I.fresh⟩
theorem jFR (l:Addr)(items:Array Value)(n:Nat)(dd:Option Addr)(sl:Array (Option Value))(x:Value)(e:Value->Bool)(j:Nat)(hj:j<items.size)(hit:e items[j]=true)(hno:∀ m (hm:m<items.size),m<j->e items[m]=false):
  Meets (Builtin.«tuple.index» ⟨[.ref l,x],[]⟩)
   (fun A R s=>s.heap.get? l=some { cls:= .type "tuple",dict:=dd,data:= .seq items n,slots:=sl} /\(∀ y,y∈items->SeqAt.EqAt A.in1 s y x (e y))/\R (.ok (.ret (.int j s.toks))) { s with toks:=s.toks+1}):=
 .of_wp fun prog w A R s h=>by
  obtain⟨hp,g,d,tk,os⟩:=s; obtain⟨hl,he,h⟩:=h
  unfold Builtin.«tuple.index»
  simp only [Std.Legacy.Range.forIn_eq_forIn_range']
  wp_walk using cx hl,wpAny_forIn_list _ (fun rest b s'=>b.1=none/\s'=⟨hp,g,d,tk,os⟩/\∃ i,i<=j/\rest=range' i (items.size - i)) _
  case turn=>
   rintro y rest b s' ⟨hb,rfl,i,hij,hr⟩
   have hi:i<items.size:=by lia
   rw[show items.size - i=(items.size - (i+1))+1 by lia,List.range'_succ] at hr
   obtain⟨rfl,rfl⟩:=List.cons.inj hr
   rw[show items[y]?=some items[y] by simp [hi]]
   refine ae (he _ (Array.getElem_mem hi) prog w _ _ ?_)
   by_cases hyj:y=j
   ·subst hyj
    rw[hit]
    wp_walk
    exact⟨_,rfl,h⟩
   ·rw[hno y hi (by lia)]
    wp_walk
    exact⟨rfl,rfl,y+1,by lia,rfl⟩
  case fin=>
   rintro b s' ⟨hb,rfl,i,hij,hr⟩
   have:=bZ List.length hr
   rw[List.length_range'] at this
   have:(0:Nat)=items.size - i:=this
   lia
  case h=>
   exact⟨rfl,rfl,0,bi _,by simp [Std.Legacy.Range.size]⟩
def jMC:V->List V->Hp->VK->Prop:=fun x vs H Q=>∃ (p:Addr) (ns:List Int) (i:Int) (k:Nat),x= .ref p/\vs=[.int i]/\H p=some (.tup (ns.map V.int))/\ns[k]?=some i/\(∀ m,m<k->ns[m]?≠some i)/\Q (.int (k:Int)) H
theorem jHE:MtM X "tuple.index" jMC:=by
 intro ad s σ H x vs v us Q I rx rv h
 obtain⟨p,ns,i,k,rfl,rfl,hp,hk,hno,q⟩:=h
 cases rx
 obtain⟨u,rfl,ru⟩:=rv.one
 obtain⟨_,its,r,n,e0⟩:=I.hok p _ hp
 have hl:=r.length
 rw[af] at hl
 have hkl:k<its.length:=by rw[<- hl]; exact(aj.mp hk).1
 have at_:∀ m (hm:m<its.length),∃ (z:Int) (t:Tok),ns[m]?=some z/\its[m]= .int z t:=fun m hm=>by
  have hz:(ns.map V.int)[m]?=some (.int ns[m]):=by simp [show m<ns.length by lia]
  obtain⟨w,hw,t,rw'⟩:=r.get hz
  refine⟨ns[m],t,by simp [show m<ns.length by lia],?_⟩
  rw[ay hm] at hw
  rw[bq hw]
  exact rw'
 refine i5 F.slot_tuple_index ⟨_,e0,rfl⟩ F.entry_tuple_index (F.args_tuple_index_2 _ _) (jFR p its.toArray n none #[] u (eqU (.int i)) k (by simpa using hkl) ?_ fun m hm hmk=>?_) ⟨e0,fun w hw=>jBS ru rfl r ?_ w (by simpa using hw),?_⟩
 ·obtain⟨z,t,h1,h2⟩:=at_ k hkl
  rw[hk] at h1
  cases h1
  show eqU (.int i) its[k]=true
  rw[h2]
  show (i==i)=true
  simp
 ·have hm':m<its.length:=by simpa using hm
  obtain⟨z,t,h1,h2⟩:=at_ m hm'
  show eqU (.int i) its[m]=false
  rw[h2]
  show (z==i)=false
  rw[bO]
  exact fun e=>hno m hmk (by rw[h1,e])
 ·rw[bJ]
  intro x hx
  obtain⟨z,_,rfl⟩:=aW.mp hx
  rfl
 ·exact⟨.int _,H,I.tok _,⟨s.toks,rfl⟩,q⟩
section
variable {K:W.Frag}
theorem gl_n (h:sc.names.lookup x=some .globalImplicit:=by decide+kernel):Gl1 (cxN P w K mg lv N qual sc f cd cl A lu s H) x:=⟨h⟩
theorem vis_n (h:sc.names.lookup x=some .local:=by decide+kernel):Vis1 (cxN P w K mg lv N qual sc f cd cl A lu s H) x:=⟨.inl h⟩
theorem jQV (h:sc.names.lookup x=some .free):Vis1 (cxN P w K mg lv N qual sc f cd cl A lu s H) x:=⟨.inr (.inr h)⟩
end
theorem jVQ {x:Str}{args:Arguments}{body:List Stmt}{scope:Scope}{pos:Pos}{c0 T:Addr}{j:Nat}(hN:X.N.Nodup)(hj:X.N[j]?=some x)(lx:Loc1 X x)(hcode:X.env.code= .ref c0)(CH:PySem.W.CodeHd X.lv c0 T)(hbm:qJ X.lv X.mg)
  (hfree:∀ y∈scope.names,y.2= .free->X.env.scope.names.lookup y.1=some .cell\/X.env.scope.names.lookup y.1=some .free) (hdf:defaultsOf args X.env=([],[])) (han:annTrees args none X.env=[]):
  JS X (.FunctionDef x args body [] none [] scope none x pos) (tDef x (qualnameIn X.env x x) args body scope (jO X.env.cells scope.names []) T pos j):=⟨jUO hN hj lx.a hcode CH hbm hfree hdf han lx.b⟩
def iSeq (K:W.Frag)(te:TE):TI:=fun σ H R=>iList K te σ H R\/iTup K te σ H R
theorem jVR {tg a:Expr}{ta:TE}(hl:JE X a ta):JI X tg a (iSeq X.K ta):=⟨fun ad s σ H R I h=>by
 rcases h with h | h
 ·exact(kY hl).h ad s σ H R I h
 ·exact(qC hl).h ad s σ H R I h⟩
def AtS (tp:Bool)(H:Hp)(a:Addr)(xs:List V):Prop:=match tp with
 | false=>H a=some (.lst xs)
 | true=>H a=some (.tup xs)
theorem AtS.sq {tp:Bool}{K:W.Frag}{H:Hp}{a:Addr}{xs:List V}(h:AtS tp H a xs):Sq tp K H a xs:=by
 cases tp with
 | false=>exact SqL.of h
 | true=>exact SqT.of h
theorem AtS.or {tp:Bool}{K:W.Frag}{H:Hp}{a:Addr}{xs:List V}(h:AtS tp H a xs):SqL K H a xs\/SqT K H a xs:=by
 cases tp with
 | false=>exact .inl (SqL.of h)
 | true=>exact .inr (SqT.of h)
def AtS.ob (tp:Bool)(xs:List V):HO:=match tp with
 | false=> .lst xs
 | true=> .tup xs
theorem AtS.is {tp:Bool}{H:Hp}{a:Addr}{xs:List V} :AtS tp H a xs↔H a=some (AtS.ob tp xs):=by cases tp <;> exact Iff.rfl
theorem AtS.ext {tp:Bool}{H H':Hp}{a:Addr}{xs:List V}(h:AtS tp H a xs)(e:Ext H H'):AtS tp H' a xs:=AtS.is.mpr (e _ _ (AtS.is.mp h))
theorem jVT {i o:Expr}{ty td:TE}{pos:Pos}(hu:X.A.units+1<cLine)(hi:JE X i ty)(ho:JE X o td)(h1:behindInMarks .In o=false):JT X (.Compare i [.In] [o] pos) (tB (tDIn ty td)):=⟨jR8 (jV1 hu hi.h ho.h) h1⟩
section
variable {K:W.Frag}{σ:St}
theorem jHR {a:Addr}{xs:List V}(hn:xs.length<sizeLine)(Pv:Addr->Nat->St->Hp->List V->Prop)(h0:∀ D,H1 D=none->Pv D 0 (blkσ m σ) (upd H1 D (.lst [])) [])
  (hD:∀ D i σ' H' zs,H1 D=none->Pv D i σ' H' zs->H' a=some (.lst xs)/\H' D=some (.lst zs)/\zs.length<=i)
  (hs:∀ D i σ' H' zs x,H1 D=none->xs[i]?=some x->Pv D i σ' H' zs->g x σ' H' fun σ2 H2=>tt σ2 H2 fun b H3=>if b=true then te σ2 H3 fun v H4=>H4 D=some (.lst zs)/\Pv D (i+1) σ2 (upd H4 D (.lst (zs++[v]))) (zs++[v]) else Pv D (i+1) σ2 H3 zs)
  (hd:∀ D σ' H' zs,H1 D=none->Pv D xs.length σ' H' zs->Q (.ref D) H'):qI m g tt te σ Q (Itl K a) H1:=by
 intro D hDn
 refine⟨fun i k σ' H' zs=>k=xs.length - i/\i<=xs.length/\Pv D i σ' H' zs,⟨_,rfl,bi _,h0 D hDn⟩,?_⟩
 rintro i k σ' H' zs ⟨rfl,hi,p⟩
 obtain⟨s1,q1,q2⟩:=hD D i σ' H' zs hDn p
 refine⟨q1,by lia,?_⟩
 by_cases hlt:i<xs.length
 ·refine .inr ⟨⟨xs,xs[i],SqL.of s1,by simp [hlt]⟩,Pv D (i+1),fun σ2 H2 zs z=>⟨xs.length - (i+1),by lia,rfl,hlt,z⟩,fun v H'' y=>?_⟩
  obtain⟨e1,e2⟩:=y
  subst e1
  exact hs D i σ' _ zs v hDn (e2 xs (SqL.of s1)) p
 ·have e:i=xs.length:=by lia
  subst e
  exact .inl ⟨⟨xs,SqL.of s1,am _⟩,hd D σ' H' zs hDn p⟩
theorem jQL {tp:Bool}{ta:TE}{a:Addr}{xs:List V}(ha:AtS tp H1 a xs)(hta:∀ Q:VK,Q (.ref a) H1->ta σ H1 Q)(hn:xs.length<sizeLine)(Pv:Addr->Nat->St->Hp->List V->Prop)(h0:∀ D,H1 D=none->Pv D 0 (blkσ m σ) (upd H1 D (.lst [])) [])
  (hD:∀ D i σ' H' zs,H1 D=none->Pv D i σ' H' zs->AtS tp H' a xs/\H' D=some (.lst zs)/\zs.length<=i)
  (hs:∀ D i σ' H' zs x,H1 D=none->xs[i]?=some x->Pv D i σ' H' zs->g x σ' H' fun σ2 H2=>tt σ2 H2 fun b H3=>if b=true then te σ2 H3 fun v H4=>H4 D=some (.lst zs)/\Pv D (i+1) σ2 (upd H4 D (.lst (zs++[v]))) (zs++[v]) else Pv D (i+1) σ2 H3 zs)
  (hd:∀ D σ' H' zs,H1 D=none->Pv D xs.length σ' H' zs->Q (.ref D) H'):iSeq K ta σ H1 (qI m g tt te σ Q):=by
 cases tp with
 | false=>exact .inl (hta _ ⟨a,rfl,⟨xs,SqL.of ha⟩,jHR hn Pv h0 hD hs hd⟩)
 | true=>exact .inr (hta _ ⟨a,rfl,⟨xs,SqT.of ha⟩,jAJ hn Pv h0 hD hs hd⟩)
end
theorem ExtT.of {T:Addr}{H H':Hp}(e:Ext H H'):ExtT T H H':=fun b o h _=>e b o h
theorem ExtT.trans {T:Addr}{H H' H'':Hp}(a:ExtT T H H')(b:ExtT T H' H''):ExtT T H H'':=fun c o h n=>b c o (a c o h n) n
theorem TabOk.is {H:Hp}{T:Addr}{pos:Pos}{q:Str}(t:TabOk H T pos q):∃ ps,H T=some (.tbl ps):=by
 rcases t with h | ⟨c,h,_⟩
 ·exact⟨_,h⟩
 ·exact⟨_,h⟩
theorem TabOk.ne {H:Hp}{T:Addr}{pos:Pos}{q:Str}(t:TabOk H T pos q){b:Addr}{o:HO}(h:H b=some o)(ho:∀ ps,o≠ .tbl ps):b≠T:=fun e=>by
 obtain⟨ps,z⟩:=t.is
 rw[e,z] at h
 cases h
 exact ho ps rfl
theorem TabOk.ext {H H':Hp}{T:Addr}{pos:Pos}{q:Str}(t:TabOk H T pos q)(e:Ext H H'):TabOk H' T pos q:=by
 rcases t with h | ⟨c,h,h2⟩
 ·exact .inl (e _ _ h)
 ·exact .inr ⟨c,e _ _ h,e _ _ h2⟩
theorem ExtT.at {T:Addr}{H H':Hp}(e:ExtT T H H'){pos:Pos}{q:Str}(t:TabOk H T pos q){b:Addr}{o:HO}(h:H b=some o)(ho:∀ ps,o≠ .tbl ps:=by intro _ z; cases z):H' b=some o:=e b o h (t.ne h ho)
theorem ExtT.seq {T:Addr}{H H':Hp}(e:ExtT T H H'){pos:Pos}{q:Str}(t:TabOk H T pos q){tp:Bool}{b:Addr}{xs:List V}(h:AtS tp H b xs):AtS tp H' b xs:=by
 cases tp with
 | false=>exact e.at t (show H b=some (.lst xs) from h)
 | true=>exact e.at t (show H b=some (.tup xs) from h)
structure FunC (K:W.Frag)(x qual:Str)(st:Stmt)(f:Addr)(fd:FuncData)(c0:Addr):Prop where
 ex:∃ (oc:Value) (od:Option Addr) (kV doc pm:Value) (an:Option Addr) (ct:Value) (osl:Array (Option Value)),fd=PySem.W.fnOf x qual (y8 st) (jC st) (j6 st) .none kV doc pm an (.ref c0) ct/\K.lookup f=some ⟨oc,od, .func fd,osl⟩/\PySem.W.codeIn K (.ref c0) qual=true
theorem FunC.ok {P:Program}{w:World}{K:W.Frag}{mg:Str->Option Value}{lv:Heap}{x qual:Str}{st:Stmt}{f c0:Addr}{fd:FuncData}{N ps:List Str}{k:Nat}{sp:Sp}(F:FunC K x qual st f fd c0)(S:FnScope N ps (j6 st))(len:∀ vs H Q E,sp vs H Q E->vs.length=ps.length)
  (hbody:∀ (A:Around) (lu:List Env) (s:Shared) (H:Hp) (vs:List V) (Q:VK) (E:XK),Room k (A.deeper (envOfC qual (j6 st) s.heap.objs.size f (.ref c0)))->sp vs H Q E->
   ∃ t,PSs (cxOf CX0 P w K mg lv N qual (j6 st) f (.ref c0) A lu s H E).nox (jC st) t/\t { nx:=fun _ H'=>Q .non H',rt:=Q} (y0 N vs) H):FnOk P w K mg lv CX0 (k+1) f fd ps sp:=by
 obtain⟨oc,od,kV,doc,pm,an,ct,osl,rfl,lk,hcd⟩:=F.ex
 refine fn_of lk hcd S len fun A lu s H vs Q E hr hsp=>?_
 obtain⟨t,ht,hq⟩:=hbody A lu s H vs Q E hr hsp
 exact⟨t,ht.nox,hq⟩
variable {fp:List Addr}
section
variable {sc2:Scope}{cl2:List (Str×Addr)}{C2:Addr}{Nc2:List Str}{fp2:List Addr}{s2:Shared}{H2:Hp}
theorem jJD:yV (blk X sc cl C Nc fp s H) (.type "tuple") (fun xs H Q=>∃ p ys,xs=[.ref p]/\((SqL X.K H p ys/\∀ l,H l=none->Q (.ref l) (upd H l (.tup ys)))\/(SqT X.K H p ys/\Q (.ref p) H))):=jM
end
theorem jRL {X:Cx}{st:Stmt} :JS X st (fun _ _ _=>False):=⟨fun _ _ _ _ _ _ h=>h.elim⟩
section
variable {K:W.Frag}{σ:St}
abbrev TupsK (H H':Hp):Prop:=∀ b xs,H b=some (.tup xs)->H' b=some (.tup xs)
structure ZOk (Z:Hp->List V->Nat->Prop):Prop where
 z0:∀ H,Z H [] 0
 mono:∀ H H' zs j,TupsK H H'->Z H zs j->Z H' zs j
 len:∀ H zs j,Z H zs j->zs.length<=j
theorem jGW {H:Hp}{D:Addr}{zs:List V}(h:H D=some (.lst zs))(o:HO):TupsK H (upd H D o):=fun b xs hb=>by
 rw[j8 (fun e=>by rw[e,h] at hb; cases hb)]
 exact hb
def TurnZ (g:TG)(tt:TT)(te:TE)(σP:St->Prop)(Z:Hp->List V->Nat->Prop)(x:V)(j:Nat)(σ':St)(H':Hp)(zs:List V):Prop:=
 ∀ (R:St->V->Hp->Prop) (S:St->Hp->Prop),(∀ σ2 v H2,σP σ2->Ext H' H2->Z H2 (zs++[v]) (j+1)->R σ2 v H2)->(∀ σ2 H2,σP σ2->Ext H' H2->Z H2 zs (j+1)->S σ2 H2)->
  g x σ' H' fun σ2 H2=>tt σ2 H2 fun b H3=>if b=true then te σ2 H3 (R σ2) else S σ2 H3
theorem jOM {tp:Bool}{a:Addr}{xs:List V}(σP:St->Prop)(Z:Hp->List V->Nat->Prop)(zo:ZOk Z)(ha:AtS tp H a xs)(hn:xs.length<sizeLine)(h0:σP (blkσ m σ))
  (step:∀ j x σ' H' zs,xs[j]?=some x->σP σ'->Ext H H'->Z H' zs j->TurnZ g tt te σP Z x j σ' H' zs)
  (hd:∀ D H' zs,H' D=some (.lst zs)->Ext H H'->H D=none->Z H' zs xs.length->Q (.ref D) H'):qI m g tt te σ Q (match tp with | false=>Itl K a | true=>Itt K a) H:=by
 have turn:∀ D j σ' H' zs x,H D=none->xs[j]?=some x->(σP σ'/\Ext H H'/\H' D=some (.lst zs)/\H D=none/\Z H' zs j)->g x σ' H' fun σ2 H2=>tt σ2 H2 fun b H3=>if b=true then te σ2 H3 fun v H4=>H4 D=some (.lst zs)/\(σP σ2/\Ext H (upd H4 D (.lst (zs++[v])))/\(upd H4 D (.lst (zs++[v]))) D=some (.lst (zs++[v]))/\H D=none/\Z (upd H4 D (.lst (zs++[v]))) (zs++[v]) (j+1)) else (σP σ2/\Ext H H3/\H3 D=some (.lst zs)/\H D=none/\Z H3 zs (j+1)):=by
  rintro D j σ' H' zs x hD hx ⟨p,e,h2,hn,hz⟩
  exact step j x σ' H' zs hx p e hz _ _ (fun σ2 v H2 p2 e2 z2=>⟨e2 _ _ h2,p2,(e.trans e2).updNew hn _,j5,hn,zo.mono _ _ _ _ (jGW (e2 _ _ h2) _) z2⟩) fun σ2 H2 p2 e2 z2=>⟨p2,e.trans e2,e2 _ _ h2,hn,z2⟩
 cases tp with
 | false=>exact jHR (xs:=xs) hn (fun D j σ' H' zs=>σP σ'/\Ext H H'/\H' D=some (.lst zs)/\H D=none/\Z H' zs j) (fun D hD=>⟨h0,(Ext.refl _).new hD _,j5,hD,zo.z0 _⟩) (fun D j σ' H' zs hD ⟨_,e,h2,_,hz⟩=>⟨e _ _ ha,h2,zo.len _ _ _ hz⟩) turn fun D σ' H' zs hD ⟨_,e,h2,hn,hz⟩=>hd D H' zs h2 e hn hz
 | true=>exact jAJ (xs:=xs) hn (fun D j σ' H' zs=>σP σ'/\Ext H H'/\H' D=some (.lst zs)/\H D=none/\Z H' zs j) (fun D hD=>⟨h0,(Ext.refl _).new hD _,j5,hD,zo.z0 _⟩) (fun D j σ' H' zs hD ⟨_,e,h2,_,hz⟩=>⟨e _ _ ha,h2,zo.len _ _ _ hz⟩) turn fun D σ' H' zs hD ⟨_,e,h2,hn,hz⟩=>hd D H' zs h2 e hn hz
theorem jKN {a:Addr}{xs:List V}(σP:St->Prop)(Z:Hp->List V->Nat->Prop)(zo:ZOk Z)(ha:H a=some (.tup xs))(hn:xs.length<sizeLine)(h0:σP (blkσ m σ))
  (step:∀ j x σ' H' zs,xs[j]?=some x->σP σ'->Ext H H'->Z H' zs j->TurnZ g tt te σP Z x j σ' H' zs)
  (hd:∀ D H' zs,H' D=some (.lst zs)->Ext H H'->H D=none->Z H' zs xs.length->Q (.ref D) H'):qI m g tt te σ Q (Itt K a) H:=jOM (tp:=true) σP Z zo ha hn h0 step hd
theorem jA9 {a:Addr}{xs:List V}(σP:St->Prop)(Z:Hp->List V->Nat->Prop)(zo:ZOk Z)(ha:H a=some (.lst xs))(hn:xs.length<sizeLine)(h0:σP (blkσ m σ))
  (step:∀ j x σ' H' zs,xs[j]?=some x->σP σ'->Ext H H'->Z H' zs j->TurnZ g tt te σP Z x j σ' H' zs)
  (hd:∀ D H' zs,H' D=some (.lst zs)->Ext H H'->H D=none->Z H' zs xs.length->Q (.ref D) H'):qI m g tt te σ Q (Itl K a) H:=jOM (tp:=false) σP Z zo ha hn h0 step hd
theorem jDY {n:Nat}(σP:St->Prop)(Z:Hp->List V->Nat->Prop)(zo:ZOk Z)(hn:n<sizeLine)(h0:σP (blkσ m σ))
  (step:∀ j σ' H' zs,j<n->σP σ'->Ext H H'->Z H' zs j->TurnZ g tt te σP Z (.int (0+j)) j σ' H' zs)
  (hd:∀ D H' zs,H' D=some (.lst zs)->Ext H H'->H D=none->Z H' zs n->Q (.ref D) H'):qI m g tt te σ Q (Itr 0 n) H:=by
 refine jBV (lo:=0) (n:=n) hn (fun D j σ' H' zs=>σP σ'/\Ext H H'/\H' D=some (.lst zs)/\H D=none/\Z H' zs j) (fun D hD=>⟨h0,(Ext.refl _).new hD _,j5,hD,zo.z0 _⟩) (fun D j σ' H' zs hD hj ⟨_,e,h2,_,hz⟩=>⟨h2,zo.len _ _ _ hz⟩) ?_ fun D σ' H' zs hD ⟨_,e,h2,hn,hz⟩=>hd D H' zs h2 e hn hz
 rintro D j σ' H' zs hD hj ⟨p,e,h2,hn,hz⟩
 exact step j σ' H' zs hj p e hz _ _ (fun σ2 v H2 p2 e2 z2=>⟨e2 _ _ h2,p2,(e.trans e2).updNew hn _,j5,hn,zo.mono _ _ _ _ (jGW (e2 _ _ h2) _) z2⟩) fun σ2 H2 p2 e2 z2=>⟨p2,e.trans e2,e2 _ _ h2,hn,z2⟩
end
def outZ {α:Type}(l:List α)(p:α->Bool)(f:α->V):Hp->List V->Nat->Prop:=fun _ zs j=>zs=((l.take j).filter p).map f
theorem outZ.ok {α:Type}(l:List α)(p:α->Bool)(f:α->V):ZOk (outZ l p f):=⟨fun _=>rfl,fun _ _ _ _ _ h=>h,fun _ zs j h=>by
 rw[show zs=_ from h,af]
 exact bf (bD _ _) (bu _ _)⟩
theorem outZ.yes {α:Type}{l:List α}{p:α->Bool}{f:α->V}{H H':Hp}{zs:List V}{j:Nat}{x:α}(h:outZ l p f H zs j)(hx:l[j]?=some x)(hp:p x=true):outZ l p f H' (zs++[f x]) (j+1):=by
 show _=_
 rw[bg,hx,bE,aS,<- show zs=_ from h]
 simp [hp]
theorem outZ.no {α:Type}{l:List α}{p:α->Bool}{f:α->V}{H H':Hp}{zs:List V}{j:Nat}{x:α}(h:outZ l p f H zs j)(hx:l[j]?=some x)(hp:p x=false):outZ l p f H' zs (j+1):=by
 show _=_
 rw[bg,hx,bE,aS,<- show zs=_ from h]
 simp [hp]
theorem outZ.all {α:Type}{l:List α}{p:α->Bool}{f:α->V}{H:Hp}{zs:List V}{n:Nat}(h:outZ l p f H zs n)(hn:l.length<=n):zs=(l.filter p).map f:=by
 rw[show zs=_ from h,bP hn]
def mapZ {α:Type}(l:List α)(f:α->V):Hp->List V->Nat->Prop:=fun _ zs j=>zs=(l.take j).map f
theorem mapZ.ok {α:Type}(l:List α)(f:α->V):ZOk (mapZ l f):=⟨fun _=>rfl,fun _ _ _ _ _ h=>h,fun _ zs j h=>by
 rw[show zs=_ from h,af]
 exact bu _ _⟩
theorem mapZ.yes {α:Type}{l:List α}{f:α->V}{H H':Hp}{zs:List V}{j:Nat}{x:α}(h:mapZ l f H zs j)(hx:l[j]?=some x):mapZ l f H' (zs++[f x]) (j+1):=by
 show _=_
 rw[bg,hx,aS,<- show zs=_ from h]
 rfl
theorem mapZ.all {α:Type}{l:List α}{f:α->V}{H:Hp}{zs:List V}{n:Nat}(h:mapZ l f H zs n)(hn:l.length<=n):zs=l.map f:=by
 rw[show zs=_ from h,bP hn]
theorem int_at {l:List Int}{j:Nat}{x:V}(h:(l.map V.int)[j]?=some x):∃ z:Int,l[j]?=some z/\x=V.int z:=by
 rw[aR] at h
 cases hq:l[j]? with
 | none=>rw[hq] at h; cases h
 | some z=>rw[hq] at h; cases h; exact⟨z,rfl,rfl⟩
section
variable {st:Stmt}{sts:List Stmt}{t:TS}
end
end L2
namespace L2
open PySem
end L2
namespace L2
open PySem PySem.Spec PyProof.Rows
section
variable {m:List (Option Nat)}{g:TG}{tt:TT}{te:TE}{σ:St}{H1:Hp}{Q:VK}
end
open PySem.AutoSeq1 (wpAny_loadPart')
variable {w:World}{s:Shared}
section
variable {prog:Program}{A:Around}{E:Value->Shared->Prop}
end
variable {X:Cx}
section
variable {sc:Scope}{cl:List (Str×Addr)}{C:Addr}{Nc:List Str}{fp:List Addr}{H:Hp}
end
structure FnZ (P:Program)(w:World)(K:W.Frag)(mg:Str->Option Value)(lv:Heap)(CX:CXT)(Z:Shared->Hp->Prop)(k:Nat)(f:Addr)(fd:FuncData)(ps:List Str)(sp:Sp):Prop where
 len:∀ vs H Q E,sp vs H Q E->vs.length=ps.length
 run:∀ (A:Around) (lu:List Env) (s:Shared) (H:Hp) (args:Args) (us:List Value) (vs:List V) (Q:VK) (E:XK),Room k A->Env0 P w K mg lv A lu s H->BindsTo s fd args (ps.zip us)->Vals vs us->Z s H->sp vs H Q E->
  codeAny (model P w) A (.call (.ref f) args) (CR CX lu P w H s Q E) s
theorem jRP {Z:Shared->Hp->Prop}{CX:CXT}{P:Program}{w:World}{K:W.Frag}{mg:Str->Option Value}{lv:Heap}{k:Nat}{f:Addr}{name qual:Str}{params:Arguments}{body:List Stmt}{scope:Scope}{dV kV doc pm lw ct oc:Value}{an od:Option Addr}
  {osl:Array (Option Value)}{N ps:List Str}{sp:Sp}(lk:K.lookup f=some ⟨oc,od, .func (PySem.W.fnOf name qual params body scope dV kV doc pm an lw ct),osl⟩) (hcd:PySem.W.codeIn K lw qual=true) (S:FnScope N ps scope)
  (len:∀ vs H Q E,sp vs H Q E->vs.length=ps.length)
  (hbody:∀ (A:Around) (lu:List Env) (s:Shared) (H:Hp) (vs:List V) (Q:VK) (E:XK),Room k (A.deeper (envOfC qual scope s.heap.objs.size f lw))->Z s H->sp vs H Q E->
   ∃ t,PSs (cxOf CX P w K mg lv N qual scope f lw A lu s H E) body t/\t { nx:=fun _ H'=>Q .non H',rt:=Q} (y0 N vs) H):
  FnZ P w K mg lv CX Z (k+1) f (PySem.W.fnOf name qual params body scope dV kV doc pm an lw ct) ps sp:=by
 refine⟨len,fun A lu s H args us vs Q E hr e0 hb r hz hsp=>?_⟩
 have hl:=len _ _ _ _ hsp
 have KX:K.In s.heap:=e0.mod.kin.keeps fun b o e=>(e0.bs b o e).1
 have lim:s.heap.NoLimit:=e0.mod.nolimit.keeps fun b o e=>(e0.bs b o e).1
 have hkind:∀ y∈ps.zip us,scope.names.lookup y.1=some .local\/(scope.names.lookup y.1=some .cell/\((cellsFrom (s.heap.objs.size+1) scope.names []).lookup y.1).isSome=true):=fun ⟨n,v⟩ hy=>by
  rcases S.par n (dI hy).1 with q | q
  ·exact .inl q
  ·exact .inr ⟨q,gb _ _ _ (.inl q)⟩
 refine codeAny_call_function hr.depth (KX _ _ lk) rfl S.co S.gen rfl (kx KX hcd) (hb _ _ _ _ ?_)
 refine iq S.kind hkind fun env he s1 x=>?_
 subst he
 refine⟨lim.keeps x.toInCall.keep,codeAny_func ?_⟩
 obtain⟨t,ht,hq⟩:=hbody A lu s H vs Q E (hr.deeper _) hz hsp
 have I:Inv (cxOf CX P w K mg lv N qual scope f lw A lu s H E) [] (y0 N vs) H s1:=jHN S hr.hd e0 hl r x
 refine b7 (ht [] s1 (y0 N vs) H _ I hq) (fun fl s' hs=>?_) fun e s' hs=>hs
 have fin:∀ {σ':St}{H':Hp}{v:V}{u:Value},Inv (cxOf CX P w K mg lv N qual scope f lw A lu s H E) [] σ' H' s'->RelV v u->Q v H'->CE lu P w H s Q u s':=
  fun {σ' H' v u} J rv q=>⟨v,H',J.os,J.bare,J.lv,J.hok,rv,q⟩
 cases fl with
 | ret u=>
  obtain⟨v,σ',H',J,rv,q⟩:=hs
  exact fin J rv q
 | next=>
  obtain⟨σ',H',J,q⟩:=hs
  exact fin (v:=V.non) (u:=Value.none) J rfl q
 | brk=>
  obtain⟨_,_,_,q⟩:=hs
  exact False.elim q
 | cont=>
  obtain⟨_,_,_,q⟩:=hs
  exact False.elim q
def ZSt (Z:Shared->Hp->Prop):Prop:=∀ (fs:List Addr) (s s':Shared) (H H':Hp),Un fs [] H H' s.heap s'.heap->Z s H->Z s' H'
abbrev ZT:Shared->Hp->Prop:=fun _ _=>True
theorem ZT.st:ZSt ZT:=fun _ _ _ _ _ _ _=>trivial
theorem FnZ.ok {P:Program}{w:World}{K:W.Frag}{mg:Str->Option Value}{lv:Heap}{CX:CXT}{k:Nat}{f:Addr}{fd:FuncData}{ps:List Str}{sp:Sp}(F:FnZ P w K mg lv CX ZT k f fd ps sp):FnOk P w K mg lv CX k f fd ps sp:=
 ⟨F.len,fun A lu s H args us vs Q E hr he hb hv hs=>F.run A lu s H args us vs Q E hr he hb hv trivial hs⟩
section
variable {P:Program}{K:W.Frag}{mg:Str->Option Value}{lv:Heap}
theorem Fun.okZ {Z:Shared->Hp->Prop}{x qual:Str}{st:Stmt}{f:Addr}{fd:FuncData}{N ps:List Str}{k:Nat}{sp:Sp}(F:Fun K x qual st f fd)(S:FnScope N ps (j6 st))(len:∀ vs H Q E,sp vs H Q E->vs.length=ps.length)
  (hbody:∀ (lw:Value) (A:Around) (lu:List Env) (s:Shared) (H:Hp) (vs:List V) (Q:VK) (E:XK),Room k (A.deeper (envOfC qual (j6 st) s.heap.objs.size f lw))->Z s H->sp vs H Q E->
   ∃ t,PSs (cxOf CX0 P w K mg lv N qual (j6 st) f lw A lu s H E).nox (jC st) t/\t { nx:=fun _ H'=>Q .non H',rt:=Q} (y0 N vs) H):FnZ P w K mg lv CX0 Z (k+1) f fd ps sp:=by
 obtain⟨_,_,_,_,_,_,lw,_,_,rfl,lk,hcd⟩:=F.ex
 refine jRP lk hcd S len fun A lu s H vs Q E hr hz hsp=>?_
 obtain⟨t,h,q⟩:=hbody lw A lu s H vs Q E hr hz hsp
 exact⟨t,h.nox,q⟩
end
structure Callee (P:Program)(w:World)(K:W.Frag)(mg:Str->Option Value)(lv:Heap)(Z:Shared->Hp->Prop)(zh:Hp->Prop)(k:Nat)(a:Addr)(sp:Sp):Prop where
 fn:∀ (A:Around) (lu:List Env) (s:Shared) (H:Hp),Env0 P w K mg lv A lu s H->zh H->PySem.W.FnAt a s.heap
 run:∀ (A:Around) (lu:List Env) (s:Shared) (H:Hp) (us:List Value) (vs:List V) (Q:VK) (E:XK),Room k A->Env0 P w K mg lv A lu s H->Z s H->zh H->Vals vs us->sp vs H Q E->codeAny (model P w) A (.call (.ref a) ⟨us,[]⟩) (CR CX0 lu P w H s Q E) s
def jUE (a:Addr)(zh:Hp->Prop)(sp:Sp)(j:Nat)(t:TA):TE:=fun σ H Q=>σ[j]?=some (some (.ref a))/\t σ H fun vs H1=>zh H1/\sp vs H1 Q E0
section
variable {Z:Shared->Hp->Prop}{zh:Hp->Prop}{k:Nat}{a:Addr}{sp:Sp}{x:Str}{p pos:Pos}{e:Expr}{es:List Expr}{t:TA}{j:Nat}
theorem jKG (F:Callee X.prog X.w X.K X.mg X.lv Z zh k a sp)(hr:Room k X.A)(st:ZSt Z)(hz:Z X.s₀ X.H₀)(hex:X.ex=[])(hN:X.N[j]?=some x)(hv:Vis1 X x)
  (ha:JA X (e::es) t) (he:starEach (e::es) X.env=(false,eval e X.env)::starEach es X.env) (hdb:(x==("__debug__" :Str))=false:=by decide) (hcd:(x==("__classdict__" :Str))=false:=by decide) (hpl:(backTo pos (starEach es X.env)).any (·.1)=false:=by rfl):
  JE X (.Call (.Name x p) (e::es) [] pos) (jUE a zh sp j t):=by
 refine⟨fun ad s σ H Q I h=>?_⟩
 obtain⟨hj,h⟩:=h
 refine cL (ly (jH9 (pos:=p) hN hv.a hdb hcd ad s σ H (fun v H'=>v= .ref a/\H'=H) I ⟨_,hj,rfl,rfl⟩) fun v s1 ⟨v',H1,I1,r1,q1,q2⟩=>?_)
 subst q1 q2
 cases (show v=Value.ref a from r1)
 have hX:=ly (ha.h pos ad s1 σ H1 _ I1 h) fun us s2 (z:AP X ad σ _ us s2)=>show PySem.W.FnAt a s2.heap/\wpAny (model X.prog X.w) X.A (call (.ref a) ([]++us)) (EP X ad σ Q) X.xe s2 from by
  obtain⟨vs,H2,I2,r,h1,h2⟩:=z
  have un:=I2.lv
  rw[hex] at un
  refine⟨F.fn _ _ _ _ I2.env0 h1,io (dN (F.run X.A X.stack s2 H2 us vs Q E0 hr I2.env0 (st _ _ _ _ _ un hz) h1 r h2) fun r s' hq=>?_)⟩
  cases r with
  | error e=>exact hq.elim
  | ok fl=>
   cases fl with
   | ret u=>exact I2.after hq
   | next=>exact False.elim hq
   | brk=>exact False.elim hq
   | cont=>exact False.elim hq
 rw[he] at hX ⊢
 exact g5 (by show ((false || (backTo pos (starEach es X.env)).any (·.1)) || false)=false; rw[hpl]; rfl) ji (dZ hX)
end
def nlP (q:Str)(args:Arguments)(body:Expr)(scope:Scope)(cl:List (Str×Addr))(a c:Addr):Heap->Prop:=fun h=>∃ pm ctv,h.get? a=some (kla_obj "<lambda>" q args body scope cl pm c ctv)
theorem nlP.stay {q:Str}{args:Arguments}{body:Expr}{scope:Scope}{cl:List (Str×Addr)}{a c:Addr}(h1 h2:Heap)(p:nlP q args body scope cl a c h1)(k:∀ o,h1.get? a=some o->h2.get? a=some o):nlP q args body scope cl a c h2:=by
 obtain⟨m,t,e⟩:=p
 exact⟨m,t,k _ e⟩
def tLam (q:Str)(args:Arguments)(body:Expr)(scope:Scope)(cl:List (Str×Addr))(T:Addr)(pos:Pos):TE:=fun _ H Q=>TabOk H T pos q/\∀ a c H',H' a=some (.ext (nlP q args body scope cl a c))->H' c=some (.ext (ncP q c))->H' T=some (.tbl (onePs pos c))->ExtT T H H'->H a=none->Q (.ref a) H'
theorem jKE {X:Cx}{args:Arguments}{body:Expr}{scope:Scope}{pos:Pos}{c0 T:Addr}(hcode:X.env.code= .ref c0)(CH:PySem.W.CodeHd X.lv c0 T)(hbm:qJ X.lv X.mg)
  (hfree:∀ y∈scope.names,y.2= .free->X.env.scope.names.lookup y.1=some .cell\/X.env.scope.names.lookup y.1=some .free) (hdf:defaultsOf args X.env=([],[])):
  JE X (.Lambda args body scope pos) (tLam (X.env.qual++ "<lambda>") args body scope (jO X.env.cells scope.names []) T pos):=by
 refine⟨fun ad s σ H Q I h=>?_⟩
 obtain⟨tab,h⟩:=h
 refine PySem.W.kla_eval hdf ?_
 have hcl:closureFor scope X.env=pure (jO X.env.cells scope.names []):=jJA fun y hy hz=>I.ok.has y.1 (hfree y hy hz)
 have hg:s.heap.Ns mainGlobals X.mg:=I.mod.glob.keeps I.bk
 have C:=CH.keeps I.bk
 have gT:∀ {ps:Array Value},H T=some (.tbl ps)->mainGlobals≠T:=fun hT z=>by
  obtain⟨o,es,ep,e,_⟩:=I.mod.glob
  have:=(I.bs _ _ e).2
  rw[z,hT] at this
  cases this
 have bT:∀ {ps:Array Value},H T=some (.tbl ps)->s.heap.BuiltinsAt X.mg T:=fun hT=>by
  obtain⟨bm,o,h1,h2,h3,h4,h5,h6,h7⟩:=hbm
  refine⟨bm,o,h1,h2,h3,fun z=>?_,(I.bs _ _ h4).1,h5,h6,h7⟩
  have:=(I.bs _ _ h4).2
  rw[z,hT] at this
  cases this
 rcases tab with hT | ⟨c,hT,hc⟩
 ·refine PySem.W.kla_makeFunction hcl I.ok.glob hg hcode C (I.hok T _ hT) trivial rfl (gT hT) (bT hT) fun c ctv h' tk k1 k2 k3 k4 k5=>?_
  obtain⟨oc,hoc⟩:=ncP.is (q:=X.env.qual++ "<lambda>") k4
  have I1:Inv X ad σ (upd (upd H T (.tbl (#[]++onePs pos c))) c (.ext (ncP (X.env.qual++ "<lambda>") c))) { s with heap:=h',toks:=tk} :=I.grown hT k1 k5 k2 k4 ⟨oc,hoc⟩ ncP.stay
  have I2:=I1.laidX (t':=tk) (a:=h'.objs.size) (φ:=nlP (X.env.qual++ "<lambda>") args body scope (jO X.env.cells scope.names []) h'.objs.size c) (h':=h'.push (kla_obj "<lambda>" (X.env.qual++ "<lambda>") args body scope (jO X.env.cells scope.names []) ((X.mg "__name__").getD .none) c ctv)) (fun b u q=>ag _ q) (am _) ⟨_,ctv,aA _ rfl⟩ ⟨_,aA _ rfl⟩ nlP.stay
  have hcn:H c=none:=I.hok.fresh k2
  have han:H h'.objs.size=none:=I.hok.fresh (bf k2 (cY k3))
  have ca:c≠h'.objs.size:=aQ k3
  have Tc:T≠c:=fun z=>by rw[z,hcn] at hT; cases hT
  have Ta:T≠h'.objs.size:=fun z=>by rw[z,han] at hT; cases hT
  refine⟨.ref _,_,I2,rfl,h _ c _ j5 (by rw[j8 ca,j5]) (by rw[j8 Ta,j8 Tc,j5,lb]) (fun b o e n=>?_) han⟩
  rw[j8 (jA e han),j8 (jA e hcn),j8 n]
  exact e
 ·refine PySem.W.kla_makeFunctionHit (cv:= .ref c) hcl I.ok.glob hg hcode C (I.hok T _ hT) (by exact trivial) (by simp [codeAmong,rawInt]) (bT hT) fun ctv h' tk k1 k2=>?_
  have I2:=I.laidX (t':=tk) (a:=h'.objs.size) (φ:=nlP (X.env.qual++ "<lambda>") args body scope (jO X.env.cells scope.names []) h'.objs.size c) (h':=h'.push (kla_obj "<lambda>" (X.env.qual++ "<lambda>") args body scope (jO X.env.cells scope.names []) ((X.mg "__name__").getD .none) c ctv)) (fun b u q=>ag _ (k1 b u q)) k2 ⟨_,ctv,aA _ rfl⟩ ⟨_,aA _ rfl⟩ nlP.stay
  have han:H h'.objs.size=none:=I.hok.fresh k2
  refine⟨.ref _,_,I2,rfl,h _ c _ j5 (by rw[j8 (jA hc han)]; exact hc) (by rw[j8 (jA hT han)]; exact hT) (fun b o e n=>?_) han⟩
  rw[j8 (jA e han)]
  exact e
theorem jOC {P:Program}{w:World}{K:W.Frag}{mg:Str->Option Value}{lv:Heap}{k:Nat}{q:Str}{args:Arguments}{body:Expr}{scope:Scope}{N ps fs:List Str}{sp:Sp}{cl:List (Str×Addr)}{fv:List V}{a c:Addr}(S:NScope N ps fs scope)(len:∀ vs H Q E,sp vs H Q E->vs.length=ps.length)
  (hb:∀ pm ctv (us:List Value),us.length=ps.length->bindArgs (kla_fn "<lambda>" q args body scope cl pm (.ref c) ctv) ⟨us,[]⟩=pure (ps.zip us))
  (hbody:∀ (A:Around) (lu:List Env) (s:Shared) (H:Hp) (vs:List V) (Q:VK) (E:XK),Room k (A.deeper (envX q scope s.heap.objs.size a (.ref c) cl))->sp vs H Q E->
   ∃ t,PE (cxN P w K mg lv N q scope a (.ref c) cl A lu s H) body t/\t (yK N vs fv) H Q):
  Callee P w K mg lv (fun s H=>ClOk cl s H/\FvOk fs fv cl s) (fun H=>H a=some (.ext (nlP q args body scope cl a c))/\H c=some (.ext (ncP q c))) (k+1) a sp:=by
 refine⟨fun A lu s H e z=>?_,fun A lu s H us vs Q E hr e0 hz zh r hsp=>?_⟩
 ·obtain⟨⟨m,t,g⟩,_,_⟩:=(show ObjOk P w H s.heap a (.ext _) from e.hok a _ z.1)
  exact⟨_,_,_,_,g⟩
 obtain⟨C,Fv⟩:=hz
 obtain⟨⟨pm,ctv,ho⟩,_,_⟩:=(show ObjOk P w H s.heap a (.ext _) from e0.hok a _ zh.1)
 obtain⟨hc,_,_⟩:=(show ObjOk P w H s.heap c (.ext _) from e0.hok c _ zh.2)
 have hl:us.length=ps.length:=r.length.symm.trans (len _ _ _ _ hsp)
 have lim:s.heap.NoLimit:=e0.mod.nolimit.keeps fun b o e=>(e0.bs b o e).1
 refine jx hr.depth ho rfl S.co S.gen rfl hc ?_
 rw[hb pm ctv us hl]
 refine ak (wpAny_newFunctionEnv S.nocell (fun y hy=>S.par y.1 (dI hy).1) (fun h₁ hns hsb=>⟨lim.fresh _ hsb,?_⟩) S.kind)
 show codeAny _ _ (.expr body (envX q scope s.heap.objs.size a (.ref c) cl)) _ _
 have hk:∀ b o,s.heap.get? b=some o->h₁.get? b=some o:=fun b o e=>hsb.extBut b o (aQ (aE e)) (ag _ e)
 obtain⟨t,ht,hq⟩:=hbody A lu s H vs Q E (hr.deeper _) hsp
 have I:Inv (cxN P w K mg lv N q scope a (.ref c) cl A lu s H) [] (yK N vs fv) H { s with heap:=h₁,toks:=s.toks+(ps.zip us).length} :=jFF S hr.hd e0 hl r C Fv hns hk
 refine jy (b7 (ht [] _ (yK N vs fv) H _ I hq) (fun u s' hs=>?_) fun e s' hs=>False.elim hs)
 obtain⟨v,H',J,rv,q⟩:=hs
 exact⟨v,H',J.os,J.bare,J.lv,J.hok,rv,q⟩
end L2
namespace TM
open PySem PyProof.Rows
class Od where
 kd:SortKind
 ky:Keyed->Int
 is:Keyed->Prop
abbrev key [Od]:Keyed->Int:=Od.ky
abbrev IsI [Od]:Keyed->Prop:=Od.is
class LtOk (prog:Program) (w:World) (A:Around) (s:Shared) [Od]:Prop where
 lt:∀ {E:Value->Shared->Prop}{st:SortSt}{x y:Keyed}{Q:Option Bool->SortSt->Prop},kindOf st=Od.kd->IsI x->IsI y->Q (some (decide (key x<key y))) st->wpS (model prog w) A E s (lt' x y) Q st
variable [Od]
abbrev AllI (l:List Keyed):Prop:=∀ p∈l,IsI p
abbrev LE (x y:Keyed):Prop:=key x<=key y
def jC6:Bool->Keyed->Array Keyed->Nat->Nat->Nat->StateT SortSt Sem (Option Nat):=sortPriv% PySem.Builtin.gallop
def gallopB: { g:Bool->Keyed->Array Keyed->Nat->Nat->Nat->StateT SortSt Sem (Option Nat) // jC6=g} :=⟨fun _ _ _ _ _ _=>bind _ _,rfl⟩
theorem elP:(sortPriv% PySem.Builtin.elem)=elem':=rfl
theorem ltP:(sortPriv% PySem.Builtin.lt)=lt':=rfl
theorem ltAtP:(sortPriv% PySem.Builtin.ltAt)=ltAt':=rfl
theorem jJ2:(sortPriv% PySem.Builtin.gallop)=jC6:=rfl
section
variable {prog:Program}{w:World}{A:Around}{E:Value->Shared->Prop}{s:Shared}
theorem jGS [LtOk prog w A s]{st:SortSt}{x y:Keyed}{Q:Option Bool->SortSt->Prop}(hk:kindOf st=Od.kd)(hx:IsI x)(hy:IsI y)(h:Q (some (decide (key x<key y))) st):wpS (model prog w) A E s (lt' x y) Q st:=LtOk.lt hk hx hy h
theorem jS {st:SortSt}{arr:Array Keyed}{i:Nat}{p:Keyed}{Q:Keyed->SortSt->Prop}(hi:arr[i]?=some p)(h:Q p st):wpS (model prog w) A E s (elem' arr i) Q st:=by
 rw[elem'_eq,hi]
 exact aN h
end
section
variable {prog:Program}{w:World}{A:Around}{E:Value->Shared->Prop}{s:Shared} [LtOk prog w A s]
theorem jBJ {left:Bool}{ky:Keyed}{arr:Array Keyed}{lv n hint:Nat}{st:SortSt}{Q:Option Nat->SortSt->Prop}(hk:kindOf st=Od.kd)(hky:IsI ky)(hI:∀ i,i<n->∃ p,arr[lv+i]?=some p/\IsI p)(hh:hint<n)(B:Nat->Bool)
  (hB:∀ i p,i<n->arr[lv+i]?=some p->B i=(if left=true then decide (key p<key ky) else !decide (key ky<key p))) (mono:∀ i j,i<=j->j<n->B j=true->B i=true)
  (h:∀ k,k<=n->(∀ i,i<k->B i=true)->(∀ i,k<=i->i<n->B i=false)->Q (some k) st):wpS (model prog w) A E s (jC6 left ky arr lv n hint) Q st:=by
 rw[gallopB.2]
 delta gallopB
 dsimp only
 simp only [elP,ltP]
 have bey:∀ i (R:Option Bool->SortSt->Prop),i<n->R (some (B i)) st->wpS (model prog w) A E s (do
   let x <- elem' arr (lv+i)
   if left=true then lt' x ky else do
    let r <- lt' ky x
    pure (r.map (!·))) R st:=fun i R hi hR=>by
  obtain⟨p,hp,ip⟩:=hI i hi
  refine aI (jS hp ?_)
  have e:=hB i p hi hp
  cases left with
  | true=>
   rw[ar rfl] at e ⊢
   rw[e] at hR
   exact jGS hk ip hky hR
  | false=>
   rw[ao aq] at e ⊢
   rw[e] at hR
   exact aI (jGS hk hky ip (aN hR))
 have down:∀ i j,i<=j->j<n->B i=false->B j=false:=fun i j hij hj hi=>by
  cases hb:B j with
  | false=>rfl
  | true=>rw[mono i j hij hj hb] at hi; cases hi
 refine aI (bey hint _ hh ?_)
 dsimp only
 cases hb:B hint with
 | true=>
  rw[ar rfl]
  refine aI (dz (cj (I:=fun x c st'=>st'=st/\∃ l o,c=(none,l,o)/\l<o/\x+1<=o/\hint+l<n/\B (hint+l)=true)
   (Q:=fun c st'=>st'=st/\∃ l o,c=(none,l,o)/\l<o/\hint+l<n/\B (hint+l)=true/\(n - hint<=o\/(hint+o<n/\B (hint+o)=false))) ?step ?fin ⟨rfl,0,1,rfl,by lia,by lia,by lia,by rw[ln]; exact hb⟩) ?post)
  case post=>
   rintro c st' ⟨rfl,l,o,rfl,a1,a2,a3,a4⟩
   dsimp only
   have p3:∀ i,i<hint+l+1->B i=true:=fun i hi=>mono i (hint+l) (by lia) a2 a3
   have p4:∀ i,hint+min o (n - hint)<=i->i<n->B i=false:=fun i h1 h2=>by
    rcases a4 with a4 | ⟨a4,a5⟩
    ·lia
    ·exact down (hint+o) i (by lia) h2 a5
   refine aI (dz (cj (I:=fun x c st''=>st''=st'/\∃ lo hi,c=(none,lo,hi)/\lo<=hi/\hi<=n/\hi - lo<=n - x/\(∀ i,i<lo->B i=true)/\(∀ i,hi<=i->i<n->B i=false))
    (Q:=fun c st''=>st''=st'/\∃ k,c=(none,k,k)/\k<=n/\(∀ i,i<k->B i=true)/\(∀ i,k<=i->i<n->B i=false)) ?step2 ?fin2 ⟨rfl,hint+l+1,hint+min o (n - hint),rfl,by lia,by lia,by lia,p3,p4⟩) ?post2)
   case post2=>
    rintro c st'' ⟨rfl,k,rfl,k1,k2,k3⟩
    exact aN (h k k1 k2 k3)
   case fin2=>
    rintro c st'' ⟨rfl,lo,hi,rfl,a1,a2,a3,a4,a5⟩
    have:lo=hi:=by lia
    subst this
    exact⟨rfl,lo,rfl,a2,a4,a5⟩
   case step2=>
    rintro x c st'' _ hx ⟨rfl,lo,hi,rfl,a1,a2,a3,a4,a5⟩
    dsimp only
    by_cases hge:lo ≥ hi
    ·rw[ar hge]
     have:lo=hi:=by lia
     subst this
     exact aN ⟨rfl,lo,rfl,a2,a4,a5⟩
    ·rw[ao hge]
     refine aI (bey _ _ (by lia) ?_)
     dsimp only
     cases hb:B (lo+(hi - lo) / 2) with
     | true=>
      rw[ar rfl]
      exact aN ⟨rfl,lo+(hi - lo) / 2+1,hi,rfl,by lia,a2,by lia,fun i hi'=>mono i _ (by lia) (by lia) hb,a5⟩
     | false=>
      rw[ao aq]
      exact aN ⟨rfl,lo,lo+(hi - lo) / 2,rfl,by lia,by lia,by lia,a4,fun i h1 h2=>down _ i h1 h2 hb⟩
  case fin=>
   rintro c st' ⟨rfl,l,o,rfl,a1,a2,a3,a4⟩
   exact⟨rfl,l,o,rfl,a1,a3,a4, .inl (by lia)⟩
  case step=>
   rintro x c st' _ hx ⟨rfl,l,o,rfl,a1,a2,a3,a4⟩
   dsimp only
   by_cases hge:o ≥ n - hint
   ·rw[ar hge]
    exact aN ⟨rfl,l,o,rfl,a1,a3,a4, .inl hge⟩
   ·rw[ao hge]
    refine aI (bey _ _ (by lia) ?_)
    dsimp only
    cases hb2:B (hint+o) with
    | true=>
     rw[ao (by decide)]
     exact aN ⟨rfl,o,2*o+1,rfl,by lia,by lia,by lia,hb2⟩
    | false=>
     rw[ar (by decide)]
     exact aN ⟨rfl,l,o,rfl,a1,a3,a4, .inr ⟨by lia,hb2⟩⟩
 | false=>
  rw[ao aq]
  refine aI (dz (cj (I:=fun x c st'=>st'=st/\∃ l o,c=(none,l,o)/\l<o/\x+1<=o/\l<=hint/\B (hint - l)=false)
   (Q:=fun c st'=>st'=st/\∃ l o,c=(none,l,o)/\l<o/\l<=hint/\B (hint - l)=false/\(hint+1<=o\/(o<=hint/\B (hint - o)=true))) ?step ?fin ⟨rfl,0,1,rfl,by lia,by lia,by lia,by rw[Nat.sub_zero]; exact hb⟩) ?post)
  case post=>
   rintro c st' ⟨rfl,l,o,rfl,a1,a2,a3,a4⟩
   dsimp only
   have p3:∀ i,i<hint+1 - min o (hint+1)->B i=true:=fun i hi=>by
    rcases a4 with a4 | ⟨a4,a5⟩
    ·lia
    ·exact mono i (hint - o) (by lia) (by lia) a5
   have p4:∀ i,hint - l<=i->i<n->B i=false:=fun i h1 h2=>down (hint - l) i (by lia) h2 a3
   refine aI (dz (cj (I:=fun x c st''=>st''=st'/\∃ lo hi,c=(none,lo,hi)/\lo<=hi/\hi<=n/\hi - lo<=n - x/\(∀ i,i<lo->B i=true)/\(∀ i,hi<=i->i<n->B i=false))
    (Q:=fun c st''=>st''=st'/\∃ k,c=(none,k,k)/\k<=n/\(∀ i,i<k->B i=true)/\(∀ i,k<=i->i<n->B i=false)) ?step2 ?fin2 ⟨rfl,hint+1 - min o (hint+1),hint - l,rfl,by lia,by lia,by lia,p3,p4⟩) ?post2)
   case post2=>
    rintro c st'' ⟨rfl,k,rfl,k1,k2,k3⟩
    exact aN (h k k1 k2 k3)
   case fin2=>
    rintro c st'' ⟨rfl,lo,hi,rfl,a1,a2,a3,a4,a5⟩
    have:lo=hi:=by lia
    subst this
    exact⟨rfl,lo,rfl,a2,a4,a5⟩
   case step2=>
    rintro x c st'' _ hx ⟨rfl,lo,hi,rfl,a1,a2,a3,a4,a5⟩
    dsimp only
    by_cases hge:lo ≥ hi
    ·rw[ar hge]
     have:lo=hi:=by lia
     subst this
     exact aN ⟨rfl,lo,rfl,a2,a4,a5⟩
    ·rw[ao hge]
     refine aI (bey _ _ (by lia) ?_)
     dsimp only
     cases hb:B (lo+(hi - lo) / 2) with
     | true=>
      rw[ar rfl]
      exact aN ⟨rfl,lo+(hi - lo) / 2+1,hi,rfl,by lia,a2,by lia,fun i hi'=>mono i _ (by lia) (by lia) hb,a5⟩
     | false=>
      rw[ao aq]
      exact aN ⟨rfl,lo,lo+(hi - lo) / 2,rfl,by lia,by lia,by lia,a4,fun i h1 h2=>down _ i h1 h2 hb⟩
  case fin=>
   rintro c st' ⟨rfl,l,o,rfl,a1,a2,a3,a4⟩
   exact⟨rfl,l,o,rfl,a1,a3,a4, .inl (by lia)⟩
  case step=>
   rintro x c st' _ hx ⟨rfl,l,o,rfl,a1,a2,a3,a4⟩
   dsimp only
   by_cases hge:o ≥ hint+1
   ·rw[ar hge]
    exact aN ⟨rfl,l,o,rfl,a1,a3,a4, .inl hge⟩
   ·rw[ao hge]
    refine aI (bey _ _ (by lia) ?_)
    dsimp only
    cases hb2:B (hint - o) with
    | true=>
     rw[ar rfl]
     exact aN ⟨rfl,l,o,rfl,a1,a3,a4, .inr ⟨by lia,hb2⟩⟩
    | false=>
     rw[ao aq]
     exact aN ⟨rfl,o,2*o+1,rfl,by lia,by lia,by lia,hb2⟩
end
abbrev jH5 (st:SortSt)(g:Nat):SortSt:=SortSt.mk' (kindOf st) (arrOf st) (pendingOf st) g (failedOf st)
def jCC:Nat->StateT SortSt Sem Unit:=sortPriv% PySem.Builtin.setMinGallop
theorem jM7:(sortPriv% PySem.Builtin.setMinGallop)=jCC:=rfl
theorem jA4 (g:Nat):jCC g=modify fun s=>jH5 s g:=rfl
def jG8:Array Keyed->Array Keyed->StateT SortSt Sem (Array Keyed):=sortPriv% PySem.Builtin.mergeLo
def mergeLoB: { g:Array Keyed->Array Keyed->StateT SortSt Sem (Array Keyed) // jG8=g} :=⟨fun _ _=>bind _ _,rfl⟩
theorem jPX:(sortPriv% PySem.Builtin.mergeLo)=jG8:=rfl
def jG9:Array Keyed->Array Keyed->StateT SortSt Sem (Array Keyed):=sortPriv% PySem.Builtin.mergeHi
def mergeHiB: { g:Array Keyed->Array Keyed->StateT SortSt Sem (Array Keyed) // jG9=g} :=⟨fun _ _=>bind _ _,rfl⟩
theorem jPY:(sortPriv% PySem.Builtin.mergeHi)=jG9:=rfl
abbrev Srt (l:List Keyed):Prop:=l.Pairwise LE
structure ML (a b out:List Keyed)(ia ib:Nat):Prop where
 perm:(out++(a.drop ia++b.drop ib)).Perm (a++b)
 srt:Srt out
 le:∀ x∈out,∀ y∈a.drop ia++b.drop ib,LE x y
theorem Srt.drop {l:List Keyed}(h:Srt l)(i:Nat):Srt (l.drop i):=h.sublist (iC _ _)
theorem Srt.take {l:List Keyed}(h:Srt l)(i:Nat):Srt (l.take i):=h.sublist (dY _ _)
theorem yX {l m:List Keyed}(h1:Srt l)(h2:Srt m)(h:∀ x∈l,∀ y∈m,LE x y):Srt (l++m):=cO.mpr ⟨h1,h2,h⟩
theorem ML.takeA {a b out:List Keyed}{ia ib:Nat}(h:ML a b out ia ib)(sa:Srt a)(k:Nat)(hc:∀ x∈(a.drop ia).take k,∀ y∈b.drop ib,LE x y):ML a b (out++(a.drop ia).take k) (ia+k) ib:=by
 have e:a.drop (ia+k)=(a.drop ia).drop k:=by rw[iu]
 refine⟨?_,yX h.srt ((sa.drop ia).take k) fun x hx y hy=>h.le x hx y (aX _ (cw hy)),fun x hx y hy=>?_⟩
 ·refine List.Perm.trans ?_ h.perm
  rw[e]
  refine jk ?_
  rw[aY,<- aY ((a.drop ia).take k),bH]
 ·rcases aM.mp hx with q | q
  ·refine h.le x q y ?_
   rcases aM.mp hy with z | z
   ·rw[e] at z
    exact aX _ (cP z)
   ·exact aB _ z
  ·rcases aM.mp hy with z | z
   ·rw[e] at z
    have s:=sa.drop ia
    rw[<- bH k (a.drop ia)] at s
    exact(cO.mp s).2.2 x q y z
   ·exact hc x q y z
theorem ML.takeB {a b out:List Keyed}{ia ib:Nat}(h:ML a b out ia ib)(sb:Srt b)(k:Nat)(hc:∀ x∈(b.drop ib).take k,∀ y∈a.drop ia,LE x y):ML a b (out++(b.drop ib).take k) ia (ib+k):=by
 have e:b.drop (ib+k)=(b.drop ib).drop k:=by rw[iu]
 refine⟨?_,yX h.srt ((sb.drop ib).take k) fun x hx y hy=>h.le x hx y (aB _ (cw hy)),fun x hx y hy=>?_⟩
 ·refine List.Perm.trans ?_ h.perm
  rw[e,aY]
  refine df out ?_
  refine dP.trans ?_
  rw[aY]
  refine df _ ?_
  refine dP.trans ?_
  rw[bH]
 ·rcases aM.mp hx with q | q
  ·refine h.le x q y ?_
   rcases aM.mp hy with z | z
   ·exact aX _ z
   ·rw[e] at z
    exact aB _ (cP z)
  ·rcases aM.mp hy with z | z
   ·exact hc x q y z
   ·rw[e] at z
    have s:=sb.drop ib
    rw[<- bH k (b.drop ib)] at s
    exact(cO.mp s).2.2 x q y z
theorem ML.outA {a b out:List Keyed}{ia ib:Nat}(h:ML a b out ia ib)(sa:Srt a)(hb:b.length<=ib):(out++a.drop ia++b.drop ib).Perm (a++b)/\Srt (out++a.drop ia++b.drop ib):=by
 refine⟨by rw[aY]; exact h.perm,?_⟩
 rw[i9 hb,aZ]
 exact yX h.srt (sa.drop ia) fun x hx y hy=>h.le x hx y (aX _ hy)
theorem ML.outB {a b out:List Keyed}{ia ib:Nat}(h:ML a b out ia ib)(sb:Srt b)(ha:a.length<=ia):(out++a.drop ia++b.drop ib).Perm (a++b)/\Srt (out++a.drop ia++b.drop ib):=by
 refine⟨by rw[aY]; exact h.perm,?_⟩
 rw[i9 ha,aZ]
 exact yX h.srt (sb.drop ib) fun x hx y hy=>h.le x hx y (aB _ hy)
theorem ML.last {a b out:List Keyed}{ia ib:Nat}(h:ML a b out ia ib)(sa:Srt a)(sb:Srt b)(ha:∀ x∈b,∀ y∈a.drop ia,LE x y):(out++b.drop ib++a.drop ia).Perm (a++b)/\Srt (out++b.drop ib++a.drop ia):=by
 refine⟨?_,?_⟩
 ·rw[aY]
  exact(df out dP).trans h.perm
 ·refine yX (yX h.srt (sb.drop ib) fun x hx y hy=>h.le x hx y (aB _ hy)) (sa.drop ia) fun x hx y hy=>?_
  rcases aM.mp hx with q | q
  ·exact h.le x q y (aX _ hy)
  ·exact ha x (cP q) y hy
theorem jAE {l:List Keyed}{i:Nat}{p:Keyed}(h:l[i]?=some p):(l.drop i).take 1=[p]:=by
 obtain⟨hi,e⟩:=aj.mp h
 rw[<- List.getElem_cons_drop (h:=hi),e]
 rfl
theorem jF1 {l:List Keyed}(h:Srt l){i j:Nat}{x y:Keyed}(hx:l[i]?=some x)(hy:l[j]?=some y)(hij:i<=j):LE x y:=by
 obtain⟨h1,rfl⟩:=aj.mp hx
 obtain⟨h2,rfl⟩:=aj.mp hy
 by_cases e:i=j
 ·subst e; exact dA _
 ·exact b9.mp h i j h1 h2 (by lia)
theorem jDV {l:List Keyed}{i:Nat}{y:Keyed}(h:y∈l.drop i):∃ j,i<=j/\l[j]?=some y:=by
 obtain⟨k,hk⟩:=bB h
 rw[iw] at hk
 exact⟨i+k,by lia,hk⟩
theorem jA6 {l:List Keyed}{i k:Nat}{y:Keyed}(h:y∈(l.drop i).take k):∃ j,i<=j/\j<i+k/\l[j]?=some y:=by
 obtain⟨n,hn⟩:=bB h
 have hlt:n<k:=by
  have:=(aj.mp hn).1
  rw[bN] at this
  lia
 rw[cA hlt,iw] at hn
 exact⟨i+n,by lia,by lia,hn⟩
theorem jD3 {a:Array Keyed}{i:Nat} :(a.extract i a.size).toList=a.toList.drop i:=by
 rw[eU,dQ]
 exact bP (by rw[gE,aL]; exact am _)
theorem ext_k {a:Array Keyed}{i k:Nat} :(a.extract i (i+k)).toList=(a.toList.drop i).take k:=by
 rw[eU,dQ,cV]
structure Two (a b:Array Keyed):Prop where
 ia:AllI a.toList
 ib:AllI b.toList
 sa:Srt a.toList
 sb:Srt b.toList
 na:0<a.size
 nb:0<b.size
 last:∀ x∈b.toList,∀ y,a.toList[a.size - 1]?=some y->key x<key y
 first:∀ y∈a.toList,∀ p,b.toList[0]?=some p->key p<key y
def yO (a b r:Array Keyed):Prop:=r.toList.Perm (a.toList++b.toList)/\Srt r.toList
structure SG (st st':SortSt):Prop where
 k:kindOf st'=kindOf st
 a:arrOf st'=arrOf st
 p:pendingOf st'=pendingOf st
 f:failedOf st'=failedOf st
theorem SG.refl (st:SortSt):SG st st:=⟨rfl,rfl,rfl,rfl⟩
theorem SG.gal {st st':SortSt}(h:SG st st')(g:Nat):SG st (jH5 st' g):=⟨h.k,h.a,h.p,h.f⟩
abbrev MA (a b out:Array Keyed)(ia ib:Nat):Prop:=ML a.toList b.toList out.toList ia ib
variable {a b:Array Keyed}{i j:Nat}
section
variable {out:Array Keyed}{k:Nat}
theorem at_list {p:Keyed} :a[i]?=some p↔a.toList[i]?=some p:=by rw[bU]
theorem qG (h:i<a.size):∃ p,a[i]?=some p/\a.toList[i]?=some p:=⟨a[i],by simp [h],by simp [h]⟩
theorem MA.doneA (T:Two a b)(h:MA a b out i j)(hj:b.size<=j):yO a b (out++a.extract i a.size++b.extract j b.size):=by
 unfold yO
 rw[bz,bz,jD3,jD3]
 exact ML.outA h T.sa (by rw[aL]; exact hj)
theorem MA.doneB (T:Two a b)(h:MA a b out i j)(hi:a.size<=i):yO a b (out++a.extract i a.size++b.extract j b.size):=by
 unfold yO
 rw[bz,bz,jD3,jD3]
 exact ML.outB h T.sb (by rw[aL]; exact hi)
theorem MA.doneL (T:Two a b)(h:MA a b out i j)(hi:i+1=a.size):yO a b (out++b.extract j b.size++a.extract i a.size):=by
 unfold yO
 rw[bz,bz,jD3,jD3]
 refine ML.last h T.sa T.sb fun x hx y hy=>?_
 obtain⟨n,h1,h2⟩:=jDV hy
 have:n=a.size - 1:=by
  have:=(aj.mp h2).1
  rw[aL] at this
  lia
 subst this
 exact cF (T.last x hx y h2)
theorem MA.pushB (T:Two a b)(h:MA a b out i j){p q:Keyed}(hp:b[j]?=some p)(hc:∀ y∈a.toList.drop i,LE p y):MA a b (out.push p) i (j+1):=by
 have:=ML.takeB h T.sb 1 (by
  rw[jAE (at_list.mp hp)]
  intro x hx
  rw[aK.mp hx]
  exact hc)
 rw[jAE (at_list.mp hp)] at this
 unfold MA
 rw[d0]
 exact this
theorem MA.pushA (T:Two a b)(h:MA a b out i j){p q:Keyed}(hp:a[i]?=some p)(hc:∀ y∈b.toList.drop j,LE p y):MA a b (out.push p) (i+1) j:=by
 have:=ML.takeA h T.sa 1 (by
  rw[jAE (at_list.mp hp)]
  intro x hx
  rw[aK.mp hx]
  exact hc)
 rw[jAE (at_list.mp hp)] at this
 unfold MA
 rw[d0]
 exact this
theorem MA.appA (T:Two a b)(h:MA a b out i j)(k:Nat)(hc:∀ n x,i<=n->n<i+k->a.toList[n]?=some x->∀ y∈b.toList.drop j,LE x y):MA a b (out++a.extract i (i+k)) (i+k) j:=by
 unfold MA
 rw[bz,ext_k]
 exact ML.takeA h T.sa k fun x hx y hy=>by
  obtain⟨n,h1,h2,h3⟩:=jA6 hx
  exact hc n x h1 h2 h3 y hy
theorem MA.appB (T:Two a b)(h:MA a b out i j)(k:Nat)(hc:∀ n x,j<=n->n<j+k->b.toList[n]?=some x->∀ y∈a.toList.drop i,LE x y):MA a b (out++b.extract j (j+k)) i (j+k):=by
 unfold MA
 rw[bz,ext_k]
 exact ML.takeB h T.sb k fun x hx y hy=>by
  obtain⟨n,h1,h2,h3⟩:=jA6 hx
  exact hc n x h1 h2 h3 y hy
theorem Two.atA (T:Two a b)(h:i<a.size):∃ p,a[i]?=some p/\IsI p:=by
 obtain⟨p,h1,h2⟩:=qG h
 exact⟨p,h1,T.ia p (aJ h2)⟩
theorem Two.atB (T:Two a b)(h:i<b.size):∃ p,b[i]?=some p/\IsI p:=by
 obtain⟨p,h1,h2⟩:=qG h
 exact⟨p,h1,T.ib p (aJ h2)⟩
theorem jGF (s:Srt a.toList){p q:Keyed}(hp:a[i]?=some p)(h:LE q p):∀ y∈a.toList.drop i,LE q y:=fun y hy=>by
 obtain⟨n,h1,h2⟩:=jDV hy
 exact db h (jF1 s (at_list.mp hp) h2 h1)
end
section
variable {prog:Program}{w:World}{A:Around}{E:Value->Shared->Prop}{s:Shared} [LtOk prog w A s]
theorem jTQ {st:SortSt}{a:Array Keyed}{i:Nat}{p:Keyed}{Q:Option Nat->SortSt->Prop}(hk:kindOf st=Od.kd)(hp:IsI p)(ha:AllI a.toList)(sa:Srt a.toList)(hi:i<a.size)
  (h:∀ k,i+k<=a.size->(∀ n x,i<=n->n<i+k->a.toList[n]?=some x->LE x p)->(∀ n x,i+k<=n->a.toList[n]?=some x->key p<key x)->Q (some k) st):
  wpS (model prog w) A E s (jC6 false p a i (a.size - i) 0) Q st:=by
 refine jBJ hk hp (fun n hn=>?_) (by lia) (fun n=>match a[i+n]? with | some x=>!decide (key p<key x) | none=>false) (fun n x hn hx=>?_) (fun n m hnm hm hb=>?_) fun k hk1 hk2 hk3=>h k (by lia) (fun n x h1 h2 h3=>?_) fun n x h1 h2=>?_
 ·obtain⟨q,q1,q2⟩:=qG (a:=a) (i:=i+n) (by lia)
  exact⟨q,q1,ha q (aJ q2)⟩
 ·rw[hx,ao aq]
 ·obtain⟨x,x1,x2⟩:=qG (a:=a) (i:=i+n) (by lia)
  obtain⟨y,y1,y2⟩:=qG (a:=a) (i:=i+m) (by lia)
  rw[y1] at hb
  rw[x1]
  have:=jF1 sa x2 y2 (by lia)
  have hb:¬ key p<key y:=by simpa using hb
  show (!decide (key p<key x))=true
  rw[ck,cW]
  have:key x<=key y:=this
  lia
 ·have:=hk2 (n - i) (by lia)
  rw[show i+(n - i)=n by lia,at_list.mpr h3] at this
  have this:¬ key p<key x:=by simpa using this
  show key x<=key p
  lia
 ·have hn:=(aj.mp h2).1
  rw[aL] at hn
  have:=hk3 (n - i) (by lia) (by lia)
  rw[show i+(n - i)=n by lia,at_list.mpr h2] at this
  simpa using this
theorem jTR {st:SortSt}{a:Array Keyed}{i:Nat}{p:Keyed}{Q:Option Nat->SortSt->Prop}(hk:kindOf st=Od.kd)(hp:IsI p)(ha:AllI a.toList)(sa:Srt a.toList)(hi:i<a.size)
  (h:∀ k,i+k<=a.size->(∀ n x,i<=n->n<i+k->a.toList[n]?=some x->key x<key p)->(∀ n x,i+k<=n->a.toList[n]?=some x->LE p x)->Q (some k) st):
  wpS (model prog w) A E s (jC6 true p a i (a.size - i) 0) Q st:=by
 refine jBJ hk hp (fun n hn=>?_) (by lia) (fun n=>match a[i+n]? with | some x=>decide (key x<key p) | none=>false) (fun n x hn hx=>?_) (fun n m hnm hm hb=>?_) fun k hk1 hk2 hk3=>h k (by lia) (fun n x h1 h2 h3=>?_) fun n x h1 h2=>?_
 ·obtain⟨q,q1,q2⟩:=qG (a:=a) (i:=i+n) (by lia)
  exact⟨q,q1,ha q (aJ q2)⟩
 ·rw[hx,ar rfl]
 ·obtain⟨x,x1,x2⟩:=qG (a:=a) (i:=i+n) (by lia)
  obtain⟨y,y1,y2⟩:=qG (a:=a) (i:=i+m) (by lia)
  rw[y1] at hb
  rw[x1]
  have:=jF1 sa x2 y2 (by lia)
  have hb:key y<key p:=aG hb
  show decide (key x<key p)=true
  rw[bA]
  have:key x<=key y:=this
  lia
 ·have:=hk2 (n - i) (by lia)
  rw[show i+(n - i)=n by lia,at_list.mpr h3] at this
  exact aG this
 ·have hn:=(aj.mp h2).1
  rw[aL] at hn
  have:=hk3 (n - i) (by lia) (by lia)
  rw[show i+(n - i)=n by lia,at_list.mpr h2] at this
  have this:¬ key x<key p:=fQ this
  show key p<=key x
  lia
end
section
variable {prog:Program}{w:World}{A:Around}{E:Value->Shared->Prop}{s:Shared} [LtOk prog w A s]
theorem bp {a b:Nat}(h:a=b):(a==b)=true:=gJ.mpr h
theorem bn {a b:Nat}(h:¬ a=b):¬ (a==b)=true:=fun z=>h (gJ.mp z)
structure LoI (a b:Array Keyed)(st:SortSt)(out:Array Keyed)(ia ib:Nat)(st':SortSt):Prop where
 m:MA a b out ia ib
 i:ia+1<a.size
 j:ib<b.size
 s:SG st st'
theorem jIB {a b:Array Keyed}{st:SortSt}{Q:Array Keyed->SortSt->Prop}(hk:kindOf st=Od.kd)(T:Two a b)(h:∀ r st',yO a b r->SG st st'->Q r st'):wpS (model prog w) A E s (jG8 a b) Q st:=by
 rw[mergeLoB.2]
 delta mergeLoB
 dsimp only
 simp only [elP,ltP,jJ2,jM7]
 have na:=T.na
 have nb:=T.nb
 refine aI (gQ (dj ⟨rfl,?_⟩))
 obtain⟨p0,hp0,ip0⟩:=T.atB nb
 refine aI (jS hp0 ?_)
 have M0:MA a b #[p0] 0 1:=by
  have z:MA a b #[] 0 0:=⟨by show (([]:List Keyed)++(a.toList.drop 0++b.toList.drop 0)).Perm _; rw[List.nil_append,jz,jz],List.Pairwise.nil,fun x hx=>by cases hx⟩
  have:=MA.pushB (q:=p0) T z hp0 fun y hy=>cF (T.first y (cP hy) p0 (at_list.mp hp0))
  exact this
 by_cases e1:1=b.size
 ·rw[ar (bp e1)]
  exact aN (h _ _ (MA.doneA T M0 (by lia)) (SG.refl _))
 rw[ao (bn e1)]
 by_cases e2:0+1=a.size
 ·rw[ar (bp e2)]
  exact aN (h _ _ (MA.doneL T M0 e2) (SG.refl _))
 rw[ao (bn e2)]
 refine aI (gq ?_)
 refine aI (dz (cj (I:=fun x c st'=>∃ out ia ib mg,c=(none,out,ia,ib,mg)/\LoI a b st out ia ib st'/\x+1<=ia+ib)
  (Q:=fun c st'=>∃ r,c.1=some r/\yO a b r/\SG st st') ?step ?fin ⟨_,0,1,_,rfl,⟨M0,by lia,by lia,SG.refl _⟩,by lia⟩) ?post)
 case post=>
  rintro ⟨r0,c⟩ st' ⟨r,hr,d,g⟩
  have hr:r0=some r:=hr
  subst hr
  exact aN (h r st' d g)
 case fin=>
  rintro c st' ⟨out,ia,ib,mg,rfl,I0,hx⟩
  have:=I0.i
  have:=I0.j
  lia
 case step=>
  rintro x c st1 _ hx ⟨out,ia,ib,mg,rfl,I0,hxx⟩
  dsimp only
  refine aI (dz (cj (I:=fun y c st'=>∃ out' ia' ib' ac bc,c=(none,out',ia',ib',ac,bc)/\LoI a b st out' ia' ib' st'/\ia+ib<=ia'+ib'/\(y=0\/ia+ib<ia'+ib'))
   (Q:=fun c st'=>(∃ r,c.1=some r/\yO a b r/\SG st st')\/∃ out' ia' ib' ac bc,c=(none,out',ia',ib',ac,bc)/\LoI a b st out' ia' ib' st'/\ia+ib<ia'+ib') ?step1 ?fin1 ⟨_,_,_,_,_,rfl,I0,by lia, .inl rfl⟩) ?post1)
  case fin1=>
   rintro c st' ⟨out',ia',ib',ac,bc,rfl,I1,h1,h2⟩
   exact .inr ⟨_,_,_,_,_,rfl,I1,by lia⟩
  case step1=>
   rintro y c st2 _ hy ⟨out',ia',ib',ac,bc,rfl,I1,h1,h2⟩
   dsimp only
   obtain⟨pb,hpb,ipb⟩:=T.atB I1.j
   obtain⟨pa,hpa,ipa⟩:=T.atA (i:=ia') (by have:=I1.i; lia)
   have ii:=I1.i
   have jj:=I1.j
   refine aI (jS hpb (aI (jS hpa (aI (jGS (I1.s.k.trans hk) ipb ipa ?_)))))
   dsimp only
   by_cases hlt:key pb<key pa
   ·rw[az hlt,ar rfl]
    refine aI (jS hpb ?_)
    have M2:=MA.pushB (q:=pb) T I1.m hpb (jGF T.sa hpa (cF hlt))
    by_cases f1:ib'+1=b.size
    ·rw[ar (bp f1)]
     exact aN (.inl ⟨_,rfl,MA.doneA T M2 (by lia),I1.s⟩)
    rw[ao (bn f1)]
    split
    ·exact aN (.inr ⟨_,_,_,_,_,rfl,⟨M2,ii,by lia,I1.s⟩,by lia⟩)
    ·exact aN ⟨_,_,_,_,_,rfl,⟨M2,ii,by lia,I1.s⟩,by lia, .inr (by lia)⟩
   ·rw[aP hlt,ao aq]
    refine aI (jS hpa ?_)
    have M2:=MA.pushA (q:=pa) T I1.m hpa (jGF T.sb hpb (by show key pa<=key pb; lia))
    by_cases f1:ia'+1+1=a.size
    ·rw[ar (bp f1)]
     exact aN (.inl ⟨_,rfl,MA.doneL T M2 f1,I1.s⟩)
    rw[ao (bn f1)]
    split
    ·exact aN (.inr ⟨_,_,_,_,_,rfl,⟨M2,by lia,jj,I1.s⟩,by lia⟩)
    ·exact aN ⟨_,_,_,_,_,rfl,⟨M2,by lia,jj,I1.s⟩,by lia, .inr (by lia)⟩
  case post1=>
   rintro c st2 (⟨r,hr,d,g⟩ | ⟨out1,ia1,ib1,ac,bc,rfl,I1,h1⟩)
   ·obtain⟨r0,c⟩:=c
    have hr:r0=some r:=hr
    subst hr
    exact aN ⟨r,rfl,d,g⟩
   dsimp only
   refine aI (gQ (dj ⟨rfl,?_⟩))
   refine aI (dz (cj (I:=fun y c st'=>∃ out' ia' ib' mg' ac bc,c=(none,out',ia',ib',mg',ac,bc)/\LoI a b st out' ia' ib' st'/\ia+ib<ia'+ib')
    (Q:=fun c st'=>(∃ r,c.1=some r/\yO a b r/\SG st st')\/∃ out' ia' ib' mg' ac bc,c=(none,out',ia',ib',mg',ac,bc)/\LoI a b st out' ia' ib' st'/\ia+ib<ia'+ib') ?step2 ?fin2 ⟨_,_,_,_,_,_,rfl,I1,h1⟩) ?post2)
   case fin2=>
    rintro c st' ⟨out',ia',ib',mg',ac,bc,rfl,I2,h2⟩
    exact .inr ⟨_,_,_,_,_,_,rfl,I2,h2⟩
   case post2=>
    rintro c st3 (⟨r,hr,d,g⟩ | ⟨out2,ia2,ib2,mg2,ac,bc,rfl,I2,h2⟩)
    ·obtain⟨r0,c⟩:=c
     have hr:r0=some r:=hr
     subst hr
     exact aN ⟨r,rfl,d,g⟩
    dsimp only
    rw[jA4]
    exact aI (eO (aN ⟨_,_,_,_,rfl,⟨I2.m,I2.i,I2.j,I2.s.gal _⟩,by lia⟩))
   case step2=>
    clear I0 I1
    rintro y c st2 _ hy ⟨out,ia,ib,mg',ac,bc,rfl,I0,h2⟩
    dsimp only
    obtain⟨pb,hpb,ipb⟩:=T.atB I0.j
    by_cases hg:mg'>1
    case' pos=>
     rw[ar hg]
     generalize hgg:mg' - 1=gg
    case' neg=>
     rw[ao hg]
     generalize hgg:mg'=gg
    all_goals
     rw[jA4]
     refine aI (eO ?_)
     have G1:=I0.s.gal gg
     refine aI (jS hpb ?_)
     refine aI (jTQ (G1.k.trans hk) ipb T.ia T.sa (by have:=I0.i; lia) fun k1 g1 g2 g3=>?_)
     dsimp only
     have M1:=MA.appA T I0.m k1 (fun n x h1 h2 h3=>jGF T.sb hpb (g2 n x h1 h2 h3))
     have hgt:∀ y∈a.toList.drop (ia+k1),LE pb y:=fun y hy=>by
      obtain⟨n,h1,h2⟩:=jDV hy
      exact cF (g3 n y h1 h2)
     have jb:=I0.j
     by_cases e0:k1>0
     case' pos=>
      rw[ar e0]
      by_cases f1:ia+k1+1=a.size
      ·rw[ar (bp f1)]
       exact aN (.inl ⟨_,rfl,MA.doneL T M1 f1,G1⟩)
      rw[ao (bn f1)]
      by_cases f2:ia+k1=a.size
      ·rw[ar (bp f2)]
       exact aN (.inl ⟨_,rfl,MA.doneB T M1 (by lia),G1⟩)
      rw[ao (bn f2)]
      obtain⟨pa,hpa,ipa⟩:=T.atA (i:=ia+k1) (by lia)
      have hz:ia+k1<a.size:=by lia
      generalize hiz:ia+k1=iz at*
     case' neg=>
      rw[ao e0]
      have e0':k1=0:=by lia
      subst e0'
      have M1:=I0.m
      obtain⟨pa,hpa,ipa⟩:=T.atA (i:=ia) (by have:=I0.i; lia)
      have hz:ia<a.size:=by have:=I0.i; lia
      rw[ln] at hgt
      have hia:=I0.i
      generalize hiz:ia=iz at*
     all_goals
      refine aI (jS hpb ?_)
      have M2:=MA.pushB (q:=pb) T M1 hpb hgt
      by_cases e1:ib+1=b.size
      ·rw[ar (bp e1)]
       exact aN (.inl ⟨_,rfl,MA.doneA T M2 (by lia),G1⟩)
      rw[ao (bn e1)]
      refine aI (jS hpa ?_)
      refine aI (jTR (G1.k.trans hk) ipa T.ib T.sb (by lia) fun k2 l1 l2 l3=>?_)
      dsimp only
      have M3:=MA.appB T M2 k2 (fun n x h1 h2 h3=>jGF T.sa hpa (cF (l2 n x h1 h2 h3)))
      have fin3:∀ y∈b.toList.drop (ib+1+k2),LE pa y:=fun y hy=>by
       obtain⟨n,h1,h2⟩:=jDV hy
       exact l3 n y h1 h2
      by_cases e2:k2>0
      ·rw[ar e2]
       by_cases e3:ib+1+k2=b.size
       ·rw[ar (bp e3)]
        exact aN (.inl ⟨_,rfl,MA.doneA T M3 (by lia),G1⟩)
       rw[ao (bn e3)]
       refine aI (jS hpa ?_)
       have M4:=MA.pushA (q:=pa) T M3 hpa fin3
       by_cases e4:iz+1+1=a.size
       ·rw[ar (bp e4)]
        exact aN (.inl ⟨_,rfl,MA.doneL T M4 e4,G1⟩)
       rw[ao (bn e4)]
       split
       ·exact aN (.inr ⟨_,_,_,_,_,_,rfl,⟨M4,by lia,by lia,G1⟩,by lia⟩)
       ·exact aN ⟨_,_,_,_,_,_,rfl,⟨M4,by lia,by lia,G1⟩,by lia⟩
      ·rw[ao e2]
       have e0:k2=0:=by lia
       subst e0
       refine aI (jS hpa ?_)
       have M4:=MA.pushA (q:=pa) T M2 hpa fin3
       by_cases e4:iz+1+1=a.size
       ·rw[ar (bp e4)]
        exact aN (.inl ⟨_,rfl,MA.doneL T M4 e4,G1⟩)
       rw[ao (bn e4)]
       split
       ·exact aN (.inr ⟨_,_,_,_,_,_,rfl,⟨M4,by lia,by lia,G1⟩,by lia⟩)
       ·exact aN ⟨_,_,_,_,_,_,rfl,⟨M4,by lia,by lia,G1⟩,by lia⟩
end
structure MHL (tot xa xb o:List Keyed):Prop where
 perm:(xa++xb++o).Perm tot
 srt:Srt o
 le:∀ x∈o,∀ y∈xa++xb,LE y x
theorem MHL.takeA {tot u v xb o:List Keyed}(h:MHL tot (u++v) xb o)(s:Srt (u++v))(hc:∀ x∈v,∀ y∈xb,LE y x):MHL tot u xb (v++o):=by
 have sp:=cO.mp s
 refine⟨?_,yX sp.2.1 h.srt fun x hx y hy=>h.le y hy x (aX _ (aB _ hx)),fun x hx y hy=>?_⟩
 ·refine List.Perm.trans ?_ h.perm
  rw[aY,aY,aY]
  refine df u ?_
  rw[<- aY,<- aY]
  exact gt o dP
 ·rcases aM.mp hx with q | q
  ·rcases aM.mp hy with z | z
   ·exact sp.2.2 y z x q
   ·exact hc x q y z
  ·refine h.le x q y ?_
   rcases aM.mp hy with z | z
   ·exact aX _ (aX _ z)
   ·exact aB _ z
theorem MHL.takeB {tot u v xa o:List Keyed}(h:MHL tot xa (u++v) o)(s:Srt (u++v))(hc:∀ x∈v,∀ y∈xa,LE y x):MHL tot xa u (v++o):=by
 have sp:=cO.mp s
 refine⟨?_,yX sp.2.1 h.srt fun x hx y hy=>h.le y hy x (aB _ (aB _ hx)),fun x hx y hy=>?_⟩
 ·refine List.Perm.trans (jk ?_) h.perm
  simp only [aY]
 ·rcases aM.mp hx with q | q
  ·rcases aM.mp hy with z | z
   ·exact hc x q y z
   ·exact sp.2.2 y z x q
  ·refine h.le x q y ?_
   rcases aM.mp hy with z | z
   ·exact aX _ z
   ·exact aB _ (aX _ z)
theorem MHL.out {tot xa xb o:List Keyed}(h:MHL tot xa xb o)(s:Srt (xa++xb)):(xa++xb++o).Perm tot/\Srt (xa++xb++o):=
 ⟨h.perm,yX s h.srt fun x hx y hy=>h.le y hy x hx⟩
theorem MHL.outF {tot xa xb o:List Keyed}(h:MHL tot xa xb o)(s:Srt (xb++xa)):(xb++xa++o).Perm tot/\Srt (xb++xa++o):=
 ⟨(gt o dP).trans h.perm,yX s h.srt fun x hx y hy=>h.le y hy x (by
  rcases aM.mp hx with z | z
  ·exact aB _ z
  ·exact aX _ z)⟩
theorem jJI {l:List Keyed}{n:Nat}{p:Keyed}(hn:0<n)(h:l[n - 1]?=some p):l.take n=l.take (n - 1)++[p]:=by
 obtain⟨m,rfl⟩:∃ m,n=m+1:=⟨n - 1,by lia⟩
 rw[Nat.add_sub_cancel] at h ⊢
 rw[List.take_succ,h]
 rfl
theorem jJH {l:List Keyed}{k n:Nat}(hk:k<=n):l.take n=l.take k++(l.drop k).take (n - k):=by
 obtain⟨m,rfl⟩:∃ m,n=k+m:=⟨n - k,by lia⟩
 rw[cV,List.take_add]
theorem jAN {a:Array Keyed}{k n:Nat} :(a.extract k n).toList=(a.toList.drop k).take (n - k):=by
 rw[eU,dQ]
theorem jBU {a:Array Keyed}{n:Nat} :(a.extract 0 n).toList=a.toList.take n:=by
 rw[jAN,jz,Nat.sub_zero]
abbrev MH (a b out:Array Keyed)(na nb:Nat):Prop:=MHL (a.toList++b.toList) (a.toList.take na) (b.toList.take nb) out.toList.reverse
theorem jDU {l:List Keyed}{n:Nat}{y:Keyed}(h:y∈l.take n):∃ j,j<n/\l[j]?=some y:=by
 obtain⟨k,hk⟩:=bB h
 have hlt:k<n:=by
  have:=(aj.mp hk).1
  rw[bN] at this
  lia
 rw[cA hlt] at hk
 exact⟨k,hlt,hk⟩
section
variable {out:Array Keyed}{k:Nat}
theorem jDT (s:Srt a.toList){p q:Keyed}(hp:a[i - 1]?=some p)(h:LE p q):∀ y∈a.toList.take i,LE y q:=fun y hy=>by
 obtain⟨n,h1,h2⟩:=jDU hy
 exact db (jF1 s h2 (at_list.mp hp) (by lia)) h
theorem MH.pushA (T:Two a b)(h:MH a b out i j){p:Keyed}(hi:0<i)(hp:a[i - 1]?=some p)(hc:∀ y∈b.toList.take j,LE y p):MH a b (out.push p) (i - 1) j:=by
 have e:=jJI hi (at_list.mp hp)
 have s:=T.sa.take i
 unfold MH at h ⊢
 rw[e] at h s
 rw[d0,fe]
 exact h.takeA s fun x hx=>by rw[aK.mp hx]; exact hc
theorem MH.pushB (T:Two a b)(h:MH a b out i j){p:Keyed}(hj:0<j)(hp:b[j - 1]?=some p)(hc:∀ y∈a.toList.take i,LE y p):MH a b (out.push p) i (j - 1):=by
 have e:=jJI hj (at_list.mp hp)
 have s:=T.sb.take j
 unfold MH at h ⊢
 rw[e] at h s
 rw[d0,fe]
 exact h.takeB s fun x hx=>by rw[aK.mp hx]; exact hc
theorem MH.appA (T:Two a b)(h:MH a b out i j)(hk:k<=i)(hc:∀ n x,k<=n->n<i->a.toList[n]?=some x->∀ y∈b.toList.take j,LE y x):MH a b (out++(a.extract k i).reverse) k j:=by
 have e:=jJH (l:=a.toList) hk
 have s:=T.sa.take i
 unfold MH at h ⊢
 rw[e] at h s
 rw[bz,dE,fe,ka,jAN]
 exact h.takeA s fun x hx y hy=>by
  obtain⟨n,h1,h2,h3⟩:=jA6 hx
  exact hc n x h1 (by lia) h3 y hy
theorem MH.appB (T:Two a b)(h:MH a b out i j)(hk:k<=j)(hc:∀ n x,k<=n->n<j->b.toList[n]?=some x->∀ y∈a.toList.take i,LE y x):MH a b (out++(b.extract k j).reverse) i k:=by
 have e:=jJH (l:=b.toList) hk
 have s:=T.sb.take j
 unfold MH at h ⊢
 rw[e] at h s
 rw[bz,dE,fe,ka,jAN]
 exact h.takeB s fun x hx y hy=>by
  obtain⟨n,h1,h2,h3⟩:=jA6 hx
  exact hc n x h1 (by lia) h3 y hy
theorem MH.doneA (T:Two a b)(h:MH a b out 0 j):yO a b (a.extract 0 0++b.extract 0 j++out.reverse):=by
 unfold yO
 rw[bz,bz,jBU,jBU,dE]
 exact h.out (by rw[ix]; exact T.sb.take j)
theorem MH.doneB (T:Two a b)(h:MH a b out i 0):yO a b (a.extract 0 i++b.extract 0 0++out.reverse):=by
 unfold yO
 rw[bz,bz,jBU,jBU,dE]
 exact h.out (by rw[ix,aZ]; exact T.sa.take i)
theorem MH.doneF (T:Two a b)(h:MH a b out i 1):yO a b (b.extract 0 1++a.extract 0 i++out.reverse):=by
 unfold yO
 rw[bz,bz,jBU,jBU,dE]
 refine h.outF (yX (T.sb.take 1) (T.sa.take i) fun x hx y hy=>?_)
 obtain⟨n,h1,h2⟩:=jDU hx
 have:n=0:=by lia
 subst this
 exact cF (T.first y (cw hy) x h2)
end
section
variable {prog:Program}{w:World}{A:Around}{E:Value->Shared->Prop}{s:Shared} [LtOk prog w A s]
theorem jKH {st:SortSt}{a:Array Keyed}{i len hint:Nat}{p:Keyed}{Q:Option Nat->SortSt->Prop}(hk:kindOf st=Od.kd)(hp:IsI p)(ha:AllI a.toList)
  (sa:∀ n m x y,i<=n->n<=m->m<i+len->a[n]?=some x->a[m]?=some y->LE x y) (hh:hint<len) (hl:i+len<=a.size)
  (h:∀ k,k<=len->(∀ n x,i<=n->n<i+k->a[n]?=some x->LE x p)->(∀ n x,i+k<=n->n<i+len->a[n]?=some x->key p<key x)->Q (some k) st):
  wpS (model prog w) A E s (jC6 false p a i len hint) Q st:=by
 refine jBJ hk hp (fun n hn=>?_) hh (fun n=>match a[i+n]? with | some x=>!decide (key p<key x) | none=>false) (fun n x hn hx=>?_) (fun n m hnm hm hb=>?_) fun k hk1 hk2 hk3=>h k (by lia) (fun n x h1 h2 h3=>?_) fun n x h1 h2 h3=>?_
 ·obtain⟨q,q1,q2⟩:=qG (a:=a) (i:=i+n) (by lia)
  exact⟨q,q1,ha q (aJ q2)⟩
 ·rw[hx,ao aq]
 ·obtain⟨x,x1,x2⟩:=qG (a:=a) (i:=i+n) (by lia)
  obtain⟨y,y1,y2⟩:=qG (a:=a) (i:=i+m) (by lia)
  rw[y1] at hb
  rw[x1]
  have:=sa (i+n) (i+m) x y (by lia) (by lia) (by lia) x1 y1
  have hb:¬ key p<key y:=by simpa using hb
  show (!decide (key p<key x))=true
  rw[ck,cW]
  have:key x<=key y:=this
  lia
 ·have:=hk2 (n - i) (by lia)
  rw[show i+(n - i)=n by lia,h3] at this
  have this:¬ key p<key x:=by simpa using this
  show key x<=key p
  lia
 ·have:=hk3 (n - i) (by lia) (by lia)
  rw[show i+(n - i)=n by lia,h3] at this
  simpa using this
theorem jKI {st:SortSt}{a:Array Keyed}{i len hint:Nat}{p:Keyed}{Q:Option Nat->SortSt->Prop}(hk:kindOf st=Od.kd)(hp:IsI p)(ha:AllI a.toList)
  (sa:∀ n m x y,i<=n->n<=m->m<i+len->a[n]?=some x->a[m]?=some y->LE x y) (hh:hint<len) (hl:i+len<=a.size)
  (h:∀ k,k<=len->(∀ n x,i<=n->n<i+k->a[n]?=some x->key x<key p)->(∀ n x,i+k<=n->n<i+len->a[n]?=some x->LE p x)->Q (some k) st):
  wpS (model prog w) A E s (jC6 true p a i len hint) Q st:=by
 refine jBJ hk hp (fun n hn=>?_) hh (fun n=>match a[i+n]? with | some x=>decide (key x<key p) | none=>false) (fun n x hn hx=>?_) (fun n m hnm hm hb=>?_) fun k hk1 hk2 hk3=>h k (by lia) (fun n x h1 h2 h3=>?_) fun n x h1 h2 h3=>?_
 ·obtain⟨q,q1,q2⟩:=qG (a:=a) (i:=i+n) (by lia)
  exact⟨q,q1,ha q (aJ q2)⟩
 ·rw[hx,ar rfl]
 ·obtain⟨x,x1,x2⟩:=qG (a:=a) (i:=i+n) (by lia)
  obtain⟨y,y1,y2⟩:=qG (a:=a) (i:=i+m) (by lia)
  rw[y1] at hb
  rw[x1]
  have:=sa (i+n) (i+m) x y (by lia) (by lia) (by lia) x1 y1
  have hb:key y<key p:=aG hb
  show decide (key x<key p)=true
  rw[bA]
  have:key x<=key y:=this
  lia
 ·have:=hk2 (n - i) (by lia)
  rw[show i+(n - i)=n by lia,h3] at this
  exact aG this
 ·have:=hk3 (n - i) (by lia) (by lia)
  rw[show i+(n - i)=n by lia,h3] at this
  have this:¬ key x<key p:=fQ this
  show key p<=key x
  lia
end
section
variable {prog:Program}{w:World}{A:Around}{E:Value->Shared->Prop}{s:Shared} [LtOk prog w A s]
structure HiI (a b:Array Keyed)(st:SortSt)(out:Array Keyed)(na nb:Nat)(st':SortSt):Prop where
 m:MH a b out na nb
 i:0<na
 ia:na<=a.size
 j:1<nb
 jb:nb<=b.size
 s:SG st st'
theorem whole {a:Array Keyed}(s:Srt a.toList){len:Nat} :∀ n m x y,0<=n->n<=m->m<0+len->a[n]?=some x->a[m]?=some y->LE x y:=fun n m x y _ h _ hx hy=>jF1 s (at_list.mp hx) (at_list.mp hy) h
theorem jIC {a b:Array Keyed}{st:SortSt}{Q:Array Keyed->SortSt->Prop}(hk:kindOf st=Od.kd)(T:Two a b)(h:∀ r st',yO a b r->SG st st'->Q r st'):wpS (model prog w) A E s (jG9 a b) Q st:=by
 rw[mergeHiB.2]
 delta mergeHiB
 dsimp only
 simp only [elP,ltP,jJ2,jM7]
 have na:=T.na
 have nb:=T.nb
 refine aI (gQ (dj ⟨rfl,?_⟩))
 obtain⟨p0,hp0,ip0⟩:=T.atA (i:=a.size - 1) (by lia)
 refine aI (jS hp0 ?_)
 have M0:MH a b #[p0] (a.size - 1) b.size:=by
  have z:MH a b #[] a.size b.size:=⟨by
   rw[show a.toList.take a.size=a.toList from bP (by simp),show b.toList.take b.size=b.toList from bP (by simp)]
   show ((a.toList++b.toList)++([]:List Keyed)).Perm _
   rw[aZ],List.Pairwise.nil,fun x hx=>by cases hx⟩
  have:=MH.pushA T z (by lia) hp0 fun y hy=>cF (T.last y (cw hy) p0 (at_list.mp hp0))
  exact this
 by_cases e1:a.size - 1=0
 ·rw[ar (bp e1)]
  rw[e1] at M0 ⊢
  exact aN (h _ _ (MH.doneA T M0) (SG.refl _))
 rw[ao (bn e1)]
 by_cases e2:b.size=1
 ·rw[ar (bp e2)]
  rw[e2] at M0 ⊢
  exact aN (h _ _ (MH.doneF T M0) (SG.refl _))
 rw[ao (bn e2)]
 refine aI (gq ?_)
 refine aI (dz (cj (I:=fun x c st'=>∃ out na nb mg,c=(none,na,nb,out,mg)/\HiI a b st out na nb st'/\x+1<=a.size - na+(b.size - nb))
  (Q:=fun c st'=>∃ r,c.1=some r/\yO a b r/\SG st st') ?step ?fin ⟨_,_,_,_,rfl,⟨M0,by lia,by lia,by lia,by lia,SG.refl _⟩,by lia⟩) ?post)
 case post=>
  rintro ⟨r0,c⟩ st' ⟨r,hr,d,g⟩
  have hr:r0=some r:=hr
  subst hr
  exact aN (h r st' d g)
 case fin=>
  rintro c st' ⟨out,na,nb,mg,rfl,I0,hx⟩
  have:=I0.i
  have:=I0.j
  lia
 case step=>
  rintro x c st1 _ hx ⟨out,na,nb,mg,rfl,I0,hxx⟩
  dsimp only
  refine aI (dz (cj (I:=fun y c st'=>∃ out' na' nb' ac bc,c=(none,na',nb',out',ac,bc)/\HiI a b st out' na' nb' st'/\na'+nb'<=na+nb/\(y=0\/na'+nb'<na+nb))
   (Q:=fun c st'=>(∃ r,c.1=some r/\yO a b r/\SG st st')\/∃ out' na' nb' ac bc,c=(none,na',nb',out',ac,bc)/\HiI a b st out' na' nb' st'/\na'+nb'<na+nb) ?step1 ?fin1 ⟨_,_,_,_,_,rfl,I0,by lia, .inl rfl⟩) ?post1)
  case fin1=>
   rintro c st' ⟨out',na',nb',ac,bc,rfl,I1,h1,h2⟩
   exact .inr ⟨_,_,_,_,_,rfl,I1,by lia⟩
  case step1=>
   rintro y c st2 _ hy ⟨out',na',nb',ac,bc,rfl,I1,h1,h2⟩
   dsimp only
   have i0:=I1.i
   have i1:=I1.ia
   have j0:=I1.j
   have j1:=I1.jb
   obtain⟨pb,hpb,ipb⟩:=T.atB (i:=nb' - 1) (by lia)
   obtain⟨pa,hpa,ipa⟩:=T.atA (i:=na' - 1) (by lia)
   refine aI (jS hpb (aI (jS hpa (aI (jGS (I1.s.k.trans hk) ipb ipa ?_)))))
   dsimp only
   by_cases hlt:key pb<key pa
   ·rw[az hlt,ar rfl]
    refine aI (jS hpa ?_)
    have M2:=MH.pushA T I1.m i0 hpa (jDT T.sb hpb (cF hlt))
    by_cases f1:na' - 1=0
    ·rw[ar (bp f1)]
     rw[f1] at M2 ⊢
     exact aN (.inl ⟨_,rfl,MH.doneA T M2,I1.s⟩)
    rw[ao (bn f1)]
    split
    ·exact aN (.inr ⟨_,_,_,_,_,rfl,⟨M2,by lia,by lia,j0,j1,I1.s⟩,by lia⟩)
    ·exact aN ⟨_,_,_,_,_,rfl,⟨M2,by lia,by lia,j0,j1,I1.s⟩,by lia, .inr (by lia)⟩
   ·rw[aP hlt,ao aq]
    refine aI (jS hpb ?_)
    have M2:=MH.pushB T I1.m (by lia) hpb (jDT T.sa hpa (by show key pa<=key pb; lia))
    by_cases f1:nb' - 1=1
    ·rw[ar (bp f1)]
     rw[f1] at M2 ⊢
     exact aN (.inl ⟨_,rfl,MH.doneF T M2,I1.s⟩)
    rw[ao (bn f1)]
    split
    ·exact aN (.inr ⟨_,_,_,_,_,rfl,⟨M2,i0,i1,by lia,by lia,I1.s⟩,by lia⟩)
    ·exact aN ⟨_,_,_,_,_,rfl,⟨M2,i0,i1,by lia,by lia,I1.s⟩,by lia, .inr (by lia)⟩
  case post1=>
   rintro c st2 (⟨r,hr,d,g⟩ | ⟨out1,na1,nb1,ac,bc,rfl,I1,h1⟩)
   ·obtain⟨r0,c⟩:=c
    have hr:r0=some r:=hr
    subst hr
    exact aN ⟨r,rfl,d,g⟩
   dsimp only
   refine aI (gQ (dj ⟨rfl,?_⟩))
   refine aI (dz (cj (I:=fun y c st'=>∃ out' na' nb' mg' ac bc,c=(none,na',nb',out',mg',ac,bc)/\HiI a b st out' na' nb' st'/\na'+nb'<na+nb)
    (Q:=fun c st'=>(∃ r,c.1=some r/\yO a b r/\SG st st')\/∃ out' na' nb' mg' ac bc,c=(none,na',nb',out',mg',ac,bc)/\HiI a b st out' na' nb' st'/\na'+nb'<na+nb) ?step2 ?fin2 ⟨_,_,_,_,_,_,rfl,I1,h1⟩) ?post2)
   case fin2=>
    rintro c st' ⟨out',na',nb',mg',ac,bc,rfl,I2,h2⟩
    exact .inr ⟨_,_,_,_,_,_,rfl,I2,h2⟩
   case post2=>
    have q1:=I0.ia
    have q2:=I0.jb
    rintro c st3 (⟨r,hr,d,g⟩ | ⟨out2,na2,nb2,mg2,ac,bc,rfl,I2,h2⟩)
    ·obtain⟨r0,c⟩:=c
     have hr:r0=some r:=hr
     subst hr
     exact aN ⟨r,rfl,d,g⟩
    dsimp only
    rw[jA4]
    have q3:=I2.ia
    have q4:=I2.jb
    exact aI (eO (aN ⟨_,_,_,_,rfl,⟨I2.m,I2.i,I2.ia,I2.j,I2.jb,I2.s.gal _⟩,by lia⟩))
   case step2=>
    clear I0 I1
    rename_i na00 nb00
    generalize hbd:na+nb=bd
    clear hxx h1
    rintro y c st2 _ hy ⟨out,na,nb,mg',ac,bc,rfl,I0,h2⟩
    dsimp only
    obtain⟨pb,hpb,ipb⟩:=T.atB (i:=nb - 1) (by have:=I0.j; have:=I0.jb; lia)
    by_cases hg:mg'>1
    case' pos=>
     rw[ar hg]
     generalize hgg:mg' - 1=gg
    case' neg=>
     rw[ao hg]
     generalize hgg:mg'=gg
    all_goals
     rw[jA4]
     refine aI (eO ?_)
     have G1:=I0.s.gal gg
     have na0:=I0.i
     have na1:=I0.ia
     have nb0:=I0.j
     have nb1:=I0.jb
     refine aI (jS hpb ?_)
     refine aI (jKH (G1.k.trans hk) ipb T.ia (whole T.sa) (by lia) (by lia) fun k1 g1 g2 g3=>?_)
     dsimp only
     have M1:=MH.appA T I0.m g1 (fun n x h1 h2 h3=>jDT T.sb hpb (cF (g3 n x (by lia) (by lia) (at_list.mpr h3))))
     have hle:∀ y∈a.toList.take k1,LE y pb:=fun y hy=>by
      obtain⟨n,h1,h2⟩:=jDU hy
      exact g2 n y (by lia) (by lia) (at_list.mpr h2)
     by_cases e0:na - k1>0
     case' pos=>
      rw[ar e0]
      by_cases f1:k1=0
      ·rw[ar (bp f1)]
       rw[f1] at M1 ⊢
       exact aN (.inl ⟨_,rfl,MH.doneA T M1,G1⟩)
      rw[ao (bn f1)]
      obtain⟨pa,hpa,ipa⟩:=T.atA (i:=k1 - 1) (by lia)
      have hz:0<k1:=by lia
      generalize hiz:k1=iz at*
     case' neg=>
      rw[ao e0]
      have e0':k1=na:=by lia
      subst e0'
      have M1:=I0.m
      obtain⟨pa,hpa,ipa⟩:=T.atA (i:=k1 - 1) (by lia)
      have hz:0<k1:=by lia
      generalize hiz:k1=iz at*
     all_goals
      refine aI (jS hpb ?_)
      have M2:=MH.pushB T M1 (by lia) hpb hle
      by_cases e1:nb - 1=1
      ·rw[ar (bp e1)]
       rw[e1] at M2 ⊢
       exact aN (.inl ⟨_,rfl,MH.doneF T M2,G1⟩)
      rw[ao (bn e1)]
      refine aI (jS hpa ?_)
      refine aI (jKI (G1.k.trans hk) ipa T.ib (whole T.sb) (by lia) (by lia) fun k2 l1 l2 l3=>?_)
      dsimp only
      have M3:=MH.appB T M2 l1 (fun n x h1 h2 h3=>jDT T.sa hpa (l3 n x (by lia) (by lia) (at_list.mpr h3)))
      have fin3:∀ y∈b.toList.take k2,LE y pa:=fun y hy=>by
       obtain⟨n,h1,h2⟩:=jDU hy
       exact cF (l2 n y (by lia) (by lia) (at_list.mpr h2))
      by_cases e2:nb - 1 - k2>0
      ·rw[ar e2]
       by_cases e3:k2=1
       ·rw[ar (bp e3)]
        rw[e3] at M3 ⊢
        exact aN (.inl ⟨_,rfl,MH.doneF T M3,G1⟩)
       rw[ao (bn e3)]
       by_cases e5:k2=0
       ·rw[ar (bp e5)]
        rw[e5] at M3 ⊢
        exact aN (.inl ⟨_,rfl,MH.doneB T M3,G1⟩)
       rw[ao (bn e5)]
       refine aI (jS hpa ?_)
       have M4:=MH.pushA T M3 hz hpa fin3
       by_cases e4:iz - 1=0
       ·rw[ar (bp e4)]
        rw[e4] at M4 ⊢
        exact aN (.inl ⟨_,rfl,MH.doneA T M4,G1⟩)
       rw[ao (bn e4)]
       split
       ·exact aN (.inr ⟨_,_,_,_,_,_,rfl,⟨M4,by lia,by lia,by lia,by lia,G1⟩,by lia⟩)
       ·exact aN ⟨_,_,_,_,_,_,rfl,⟨M4,by lia,by lia,by lia,by lia,G1⟩,by lia⟩
      ·rw[ao e2]
       have e0:k2=nb - 1:=by lia
       subst e0
       refine aI (jS hpa ?_)
       have M4:=MH.pushA T M2 hz hpa fin3
       by_cases e4:iz - 1=0
       ·rw[ar (bp e4)]
        rw[e4] at M4 ⊢
        exact aN (.inl ⟨_,rfl,MH.doneA T M4,G1⟩)
       rw[ao (bn e4)]
       split
       ·exact aN (.inr ⟨_,_,_,_,_,_,rfl,⟨M4,by lia,by lia,by lia,by lia,G1⟩,by lia⟩)
       ·exact aN ⟨_,_,_,_,_,_,rfl,⟨M4,by lia,by lia,by lia,by lia,G1⟩,by lia⟩
end
def KI (xs:Array Keyed)(i:Nat):Int:=match xs[i]? with
 | some p=>key p
 | none=>0
def STo (xs:Array Keyed)(k:Nat):Prop:=∀ i j,i<=j->j<k->KI xs i<=KI xs j
structure SB (a₀:Array Keyed)(st:SortSt):Prop where
 perm:(arrOf st).Perm a₀
 kind:kindOf st=Od.kd
 failed:failedOf st=none
 pend:pendingOf st=#[]
theorem SB.size {a₀:Array Keyed}{st:SortSt}(h:SB a₀ st):(arrOf st).size=a₀.size:=h.perm.size_eq
theorem jBW {xs ys:Array Keyed}{i j:Nat}(h:xs[i]?=ys[j]?):KI xs i=KI ys j:=by unfold KI; rw[h]
theorem jP3 {xs:Array Keyed}{src d:Nat}(hs:src<xs.size)(hd:d<=src)(k:Nat):
  KI (bubble xs src d) k=if k=src - d then KI xs src else if src - d<k/\k<=src then KI xs (k - 1) else KI xs k:=by
 have e:=getElem?_bubble hs d hd k
 by_cases h1:k=src - d
 ·rw[ar h1] at e ⊢; exact jBW e
 ·rw[ao h1] at e ⊢
  by_cases h2:src - d<k/\k<=src
  ·rw[ar h2] at e ⊢; exact jBW e
  ·rw[ao h2] at e ⊢; exact jBW e
theorem jCN {xs:Array Keyed}{i j:Nat}(hj:j<=xs.size)(k:Nat):
  KI (mirror xs i j ((j - i) / 2)) k=if i<=k/\k<j then KI xs (i+j - 1 - k) else KI xs k:=by
 have e:=getElem?_mirror_all (i:=i) hj k
 by_cases h1:i<=k/\k<j
 ·rw[ar h1] at e
  rw[ar h1]
  exact jBW e
 ·rw[ao h1] at e
  rw[ao h1]
  exact jBW e
theorem jA1 {xs:Array Keyed}{i j:Nat}(hj:j<=xs.size)(heq:∀ k,i<=k->k<j->KI xs k=KI xs (j - 1))(k:Nat):
  KI (mirror xs i j ((j - i) / 2)) k=KI xs k:=by
 rw[jCN hj]
 split
 ·rename_i h
  rw[heq _ (by lia) (by lia),heq k h.1 h.2]
 ·rfl
def Up (xs:Array Keyed)(lo n:Nat):Prop:=∀ i j,lo<=i->i<=j->j<lo+n->KI xs i<=KI xs j
def Dn (xs:Array Keyed)(lo n:Nat):Prop:=∀ i j,lo<=i->i<=j->j<lo+n->KI xs j<=KI xs i
structure BB (a₀:Array Keyed)(p:Array (Nat×Nat×Nat))(F:Nat->Int)(lo:Nat)(st:SortSt):Prop where
 perm:(arrOf st).Perm a₀
 kind:kindOf st=Od.kd
 failed:failedOf st=none
 pend:pendingOf st=p
 low:∀ k,k<lo->KI (arrOf st) k=F k
theorem jRJ {a₀ xs:Array Keyed}(hp:xs.Perm a₀)(h0:AllI a₀.toList){i:Nat}(hi:i<a₀.size):∃ q,xs[i]?=some q/\IsI q/\key q=KI xs i:=by
 have hi':i<xs.size:=by rw[hp.size_eq]; exact hi
 have hm:xs[i]∈a₀.toList:=(cq.mp hp).mem_iff.mp (by simp)
 have e:xs[i]?=some xs[i]:=h9 _ i hi'
 exact⟨xs[i],e,h0 _ hm,by unfold KI; rw[e]⟩
section
variable {prog:Program}{w:World}{A:Around}{E:Value->Shared->Prop}{s:Shared} [LtOk prog w A s]{a₀:Array Keyed}{p:Array (Nat×Nat×Nat)}{F:Nat->Int}{lo:Nat}
theorem BB.sz {st:SortSt}(h:BB a₀ p F lo st):(arrOf st).size=a₀.size:=h.perm.size_eq
theorem BB.arr {st:SortSt}(h:BB a₀ p F lo st){xs:Array Keyed}(hp:xs.Perm (arrOf st))(hl:∀ k,k<lo->KI xs k=KI (arrOf st) k):BB a₀ p F lo (setArr st xs):=
 ⟨hp.trans h.perm,h.kind,h.failed,h.pend,fun k hk=>(hl k hk).trans (h.low k hk)⟩
theorem jCO {st:SortSt}{i j:Nat}{Q:Option Bool->SortSt->Prop}(hB:BB a₀ p F lo st)(h0:AllI a₀.toList)(hi:i<a₀.size)(hj:j<a₀.size)
  (h:Q (some (decide (KI (arrOf st) i<KI (arrOf st) j))) st):wpS (model prog w) A E s (ltAt' i j) Q st:=by
 obtain⟨x,e1,i1,k1⟩:=jRJ hB.perm h0 hi
 obtain⟨y,e2,i2,k2⟩:=jRJ hB.perm h0 hj
 rw[ltAt'_eq]
 refine aI (gq ?_)
 show wpS _ _ _ _ (do let x <- elem' (arrOf st) i; let y <- elem' (arrOf st) j; lt' x y) Q st
 rw[elem'_eq,elem'_eq,e1,e2]
 refine aI (aN (aI (aN (jGS hB.kind i1 i2 ?_))))
 rw[k1,k2]
 exact h
theorem Up.one {xs:Array Keyed} :Up xs lo 1:=fun i j h1 h2 h3=>by
 have:i=j:=by lia
 rw[this]
 exact dA _
theorem Dn.one {xs:Array Keyed} :Dn xs lo 1:=fun i j h1 h2 h3=>by
 have:i=j:=by lia
 rw[this]
 exact dA _
theorem Up.more {xs:Array Keyed}{n:Nat}(h:Up xs lo n)(hn:0<n)(hc:KI xs (lo+n - 1)<=KI xs (lo+n)):Up xs lo (n+1):=fun i j h1 h2 h3=>by
 by_cases e:j<lo+n
 ·exact h i j h1 h2 e
 ·have ej:j=lo+n:=by lia
  subst ej
  by_cases ei:i=lo+n
  ·rw[ei]
   exact dA _
  ·exact db (h i (lo+n - 1) h1 (by lia) (by lia)) hc
theorem Dn.more {xs:Array Keyed}{n:Nat}(h:Dn xs lo n)(hn:0<n)(hc:KI xs (lo+n)<=KI xs (lo+n - 1)):Dn xs lo (n+1):=fun i j h1 h2 h3=>by
 by_cases e:j<lo+n
 ·exact h i j h1 h2 e
 ·have ej:j=lo+n:=by lia
  subst ej
  by_cases ei:i=lo+n
  ·rw[ei]
   exact dA _
  ·exact db hc (h i (lo+n - 1) h1 (by lia) (by lia))
theorem Dn.congr {xs ys:Array Keyed}{n:Nat}(h:Dn xs lo n)(e:∀ k,KI ys k=KI xs k):Dn ys lo n:=fun i j h1 h2 h3=>by
 rw[e i,e j]
 exact h i j h1 h2 h3
theorem jFN {st:SortSt}{nrem:Nat}{Q:Option Nat->SortSt->Prop}(h0:AllI a₀.toList)(hn:lo+nrem<=a₀.size)(hn1:1<=nrem)(hB:BB a₀ p F lo st)
  (h:∀ m st',BB a₀ p F lo st'->1<=m->m<=nrem->Up (arrOf st') lo m->Q (some m) st'):wpS (model prog w) A E s (countRun' lo nrem) Q st:=by
 rw[countRun'_eq]
 dsimp only
 refine aI (dz (cj (I:=fun x c st'=>st'=st/\c=(none,x)/\Up (arrOf st) lo x)
  (Q:=fun c st'=>st'=st/\∃ n,c=(none,n)/\1<=n/\n<=nrem/\Up (arrOf st) lo n/\(n=nrem\/KI (arrOf st) (lo+n)<KI (arrOf st) (lo+n - 1))) ?step ?fin ⟨rfl,rfl,Up.one⟩) ?post)
 case fin=>
  rintro c st' ⟨rfl,rfl,hu⟩
  rw[show max 1 nrem=nrem by lia] at hu ⊢
  exact⟨rfl,nrem,rfl,hn1,am _,hu, .inl rfl⟩
 case step=>
  rintro x c st' h1 h2 ⟨rfl,rfl,hu⟩
  dsimp only
  refine aI (jCO hB h0 (by lia) (by lia) ?_)
  dsimp only
  by_cases hl:KI (arrOf st') (lo+x)<KI (arrOf st') (lo+x - 1)
  ·rw[az hl,ar rfl]
   exact aN ⟨rfl,x,rfl,by lia,by lia,hu, .inr hl⟩
  ·rw[aP hl,ao aq]
   exact aN ⟨rfl,rfl,hu.more (by lia) (by lia)⟩
 case post=>
  rintro c st' ⟨rfl,n,rfl,n1,n2,hu,hor⟩
  dsimp only
  by_cases hnn:n=nrem
  ·rw[ar (bp hnn)]
   exact aN (h n st' hB n1 n2 hu)
  rw[ao (bn hnn)]
  have hlt:=hor.resolve_left hnn
  have hz:lo+n<=(arrOf st').size:=by rw[hB.sz]; lia
  by_cases hgt:n>1
  case' pos=>
   rw[ar hgt]
   refine aI (jCO hB h0 (by lia) (by lia) ?_)
   dsimp only
   by_cases hr:KI (arrOf st') lo<KI (arrOf st') (lo+n - 1)
   ·rw[az hr,ar rfl]
    exact aN (h n st' hB n1 n2 hu)
   rw[aP hr,ao aq]
   have hall:∀ k,lo<=k->k<lo+n->KI (arrOf st') k=KI (arrOf st') (lo+n - 1):=fun k h1 h2=>by
    have a1:=hu lo k (by lia) h1 h2
    have a2:=hu k (lo+n - 1) h1 (by lia) (by lia)
    lia
   refine aI (wpS_reverse ?_)
   have hB1:=hB.arr (xs:=mirror (arrOf st') lo (lo+n) ((lo+n - lo) / 2)) (mirror_perm _ _ _ _) fun k _=>jA1 hz hall k
   have hs0:Dn (arrOf st') lo n:=fun i j h1 h2 h3=>by
    rw[hall i h1 (by lia),hall j (by lia) h3]
    exact dA _
   have hs1:Dn (arrOf (setArr st' (mirror (arrOf st') lo (lo+n) ((lo+n - lo) / 2)))) lo (n+1):=(hs0.more (by lia) (cF hlt)).congr (jA1 hz hall)
   generalize setArr st' (mirror (arrOf st') lo (lo+n) ((lo+n - lo) / 2))=st1 at*
  case' neg=>
   rw[ao hgt]
   have en:n=1:=by lia
   have hB1:=hB
   have hs1:Dn (arrOf st') lo (n+1):=by
    rw[en] at hlt ⊢
    exact Dn.one.more (by lia) (cF hlt)
  all_goals
   refine aI (gQ (dj ⟨rfl,?_⟩))
   refine aI (dz (cj (I:=fun x c st'=>∃ q,c=(none,x,q)/\BB a₀ p F lo st'/\Dn (arrOf st') lo x/\q+1<=x/\∀ i,lo+x - (q+1)<=i->i<lo+x->KI (arrOf st') i=KI (arrOf st') (lo+x - 1))
    (Q:=fun c st'=>∃ m q,c=(none,m,q)/\1<=m/\m<=nrem/\BB a₀ p F lo st'/\Dn (arrOf st') lo m/\q+1<=m/\∀ i,lo+m - (q+1)<=i->i<lo+m->KI (arrOf st') i=KI (arrOf st') (lo+m - 1)) ?dstep ?dfin ⟨0,rfl,hB1,hs1,by lia,fun i h1 h2=>by congr 1; lia⟩) ?dpost)
   case dfin=>
    rintro c st' ⟨q,rfl,hb,hd,hq,he⟩
    rw[show max (n+1) nrem=nrem by lia] at hd hq he ⊢
    exact⟨nrem,q,rfl,by lia,by lia,hb,hd,hq,he⟩
   case dstep=>
    rintro x c st' h1 h2 ⟨q,rfl,hb,hd,hq,he⟩
    dsimp only
    have hz:lo+x<=(arrOf st').size:=by rw[hb.sz]; lia
    refine aI (jCO hb h0 (by lia) (by lia) ?_)
    dsimp only
    by_cases hl:KI (arrOf st') (lo+x)<KI (arrOf st') (lo+x - 1)
    ·rw[az hl,ar rfl]
     have d1:=hd.more (by lia) (cF hl)
     by_cases hq0:q>0
     ·rw[ar hq0]
      refine aI (wpS_reverse (aN ⟨0,rfl,hb.arr (mirror_perm _ _ _ _) fun k _=>jA1 hz he k,d1.congr (jA1 hz he),by lia,fun i h1 h2=>by congr 1; lia⟩))
     ·rw[ao hq0]
      exact aN ⟨0,rfl,hb,d1,by lia,fun i h1 h2=>by congr 1; lia⟩
    ·rw[aP hl,ao aq]
     refine aI (jCO hb h0 (by lia) (by lia) ?_)
     dsimp only
     by_cases hg:KI (arrOf st') (lo+x - 1)<KI (arrOf st') (lo+x)
     ·rw[az hg,ar rfl]
      exact aN ⟨x,q,rfl,by lia,by lia,hb,hd,hq,he⟩
     ·rw[aP hg,ao aq]
      have ex:KI (arrOf st') (lo+x)=KI (arrOf st') (lo+x - 1):=by lia
      refine aN ⟨q+1,rfl,hb,hd.more (by lia) (by lia),by lia,fun i h1 h2=>?_⟩
      rw[show lo+(x+1) - 1=lo+x by lia]
      by_cases hix:i=lo+x
      ·rw[hix]
      ·rw[ex]
       exact he i (by lia) (by lia)
   case dpost=>
    rintro c st2 ⟨m,q,rfl,m1,m2,hB2,hs2,hq,he⟩
    dsimp only
    have hz2:lo+m<=(arrOf st2).size:=by rw[hB2.sz]; lia
    by_cases hq0:q>0
    case' pos=>
     rw[ar hq0]
     refine aI (wpS_reverse ?_)
     have hB3:=hB2.arr (xs:=mirror (arrOf st2) (lo+m - (q+1)) (lo+m) ((lo+m - (lo+m - (q+1))) / 2)) (mirror_perm _ _ _ _) fun k _=>jA1 hz2 he k
     have hs3:Dn (arrOf (setArr st2 (mirror (arrOf st2) (lo+m - (q+1)) (lo+m) ((lo+m - (lo+m - (q+1))) / 2)))) lo m:=hs2.congr (jA1 hz2 he)
     generalize setArr st2 (mirror (arrOf st2) (lo+m - (q+1)) (lo+m) ((lo+m - (lo+m - (q+1))) / 2))=st3 at*
    case' neg=>
     rw[ao hq0]
     have hB3:=hB2
     have hs3:=hs2
     generalize st2=st3 at*
    all_goals
     have hz3:lo+m<=(arrOf st3).size:=by rw[hB3.sz]; lia
     refine aI (wpS_reverse ?_)
     have hB4:=hB3.arr (xs:=mirror (arrOf st3) lo (lo+m) ((lo+m - lo) / 2)) (mirror_perm _ _ _ _) fun k hk=>by
      rw[jCN hz3,ao (by lia)]
     have hU:Up (mirror (arrOf st3) lo (lo+m) ((lo+m - lo) / 2)) lo m:=fun i j h1 h2 h3=>by
      rw[jCN hz3,jCN hz3,ar ⟨h1,by lia⟩,ar ⟨by lia,h3⟩]
      exact hs3 _ _ (by lia) (by lia) (by lia)
     generalize mirror (arrOf st3) lo (lo+m) ((lo+m - lo) / 2)=xs4 at*
     refine aI (dz (cj (I:=fun x c st'=>st'=setArr st3 xs4/\c=(none,x)/\Up xs4 lo x)
      (Q:=fun c st'=>st'=setArr st3 xs4/\∃ n,c=(none,n)/\1<=n/\n<=nrem/\Up xs4 lo n) ?tstep ?tfin ⟨rfl,rfl,hU⟩) ?tpost)
     case tfin=>
      rintro c st' ⟨rfl,rfl,hu⟩
      rw[show max m nrem=nrem by lia] at hu ⊢
      exact⟨rfl,nrem,rfl,by lia,by lia,hu⟩
     case tstep=>
      rintro x c st' h1 h2 ⟨rfl,rfl,hu⟩
      dsimp only
      refine aI (jCO hB4 h0 (by lia) (by lia) ?_)
      dsimp only
      by_cases hl:KI xs4 (lo+x)<KI xs4 (lo+x - 1)
      ·rw[az hl,ar rfl]
       exact aN ⟨rfl,x,rfl,by lia,by lia,hu⟩
      ·rw[aP hl,ao aq]
       exact aN ⟨rfl,rfl,hu.more (by lia) (by lia)⟩
     case tpost=>
      rintro c st' ⟨rfl,n,rfl,n1,n2,hu⟩
      exact aN (h n _ hB4 n1 n2 hu)
theorem jE0 {st:SortSt}{n ok:Nat}{Q:Bool->SortSt->Prop}(h0:AllI a₀.toList)(hn:lo+n<=a₀.size)(hok:ok<=n)(hB:BB a₀ p F lo st)(hs:Up (arrOf st) lo ok)
  (h:∀ st',BB a₀ p F lo st'->Up (arrOf st') lo n->Q true st'):wpS (model prog w) A E s (binarySort' lo n ok) Q st:=by
 rw[binarySort'_eq]
 dsimp only
 refine aI (dz (cj (I:=fun k c st'=>c=(none,())/\BB a₀ p F lo st'/\Up (arrOf st') lo (min k n))
  (Q:=fun c st'=>c=(none,())/\BB a₀ p F lo st'/\Up (arrOf st') lo n) ?step ?fin ⟨rfl,hB,?init⟩) ?post)
 case post=>
  rintro c st' ⟨rfl,hb,hu⟩
  exact aN (h st' hb hu)
 case init=>
  by_cases e:ok=0
  ·intro i j h1 h2 h3
   have:i=j:=by lia
   rw[this]
   exact dA _
  ·exact fun i j h1 h2 h3=>hs i j h1 h2 (by lia)
 case fin=>
  rintro c st' ⟨hc,hb,hu⟩
  rw[show min (max (max ok 1) n) n=n by lia] at hu
  exact⟨hc,hb,hu⟩
 case step=>
  rintro k c st1 hk1 hk2 ⟨rfl,hb,hu⟩
  rw[show min k n=k by lia] at hu
  refine aI (dz (cj (I:=fun x c st'=>st'=st1/\∃ l r,c=(none,l,r)/\l<=r/\r<=k/\r - l<=k - x/\
    (∀ i,i<l->KI (arrOf st1) (lo+i)<=KI (arrOf st1) (lo+k))/\∀ i,r<=i->i<k->KI (arrOf st1) (lo+k)<KI (arrOf st1) (lo+i))
   (Q:=fun c st'=>st'=st1/\∃ l r,c=(none,l,r)/\l<=k/\
    (∀ i,i<l->KI (arrOf st1) (lo+i)<=KI (arrOf st1) (lo+k))/\∀ i,l<=i->i<k->KI (arrOf st1) (lo+k)<KI (arrOf st1) (lo+i)) ?step1 ?fin1 ⟨rfl,0,k,rfl,by lia,by lia,by lia,fun i hi=>by lia,fun i h1 h2=>by lia⟩) ?post1)
  case fin1=>
   rintro c st' ⟨rfl,l,r,rfl,b1,b2,b3,b4,b5⟩
   have:l=r:=by lia
   subst this
   exact⟨rfl,l,l,rfl,b2,b4,b5⟩
  case step1=>
   rintro x c st' _ hx ⟨rfl,l,r,rfl,b1,b2,b3,b4,b5⟩
   dsimp only
   by_cases hge:l ≥ r
   ·rw[ar hge]
    have:l=r:=by lia
    subst this
    exact aN ⟨rfl,l,l,rfl,b2,b4,b5⟩
   rw[ao hge]
   refine aI (jCO hb h0 (by lia) (by lia) ?_)
   dsimp only
   by_cases hl:KI (arrOf st') (lo+k)<KI (arrOf st') (lo+(l+r) / 2)
   ·rw[az hl,ar rfl]
    exact aN ⟨rfl,l,(l+r) / 2,rfl,by lia,by lia,by lia,b4,fun i h1 h2=>Int.lt_of_lt_of_le hl (hu _ _ (by lia) (by lia) (by lia))⟩
   ·rw[aP hl,ao aq]
    exact aN ⟨rfl,(l+r) / 2+1,r,rfl,by lia,by lia,by lia,fun i h1=>db (hu (lo+i) (lo+(l+r) / 2) (by lia) (by lia) (by lia)) (Int.not_lt.mp hl),b5⟩
  case post1=>
   rintro c st' ⟨rfl,l,r,rfl,hlk,b4,b5⟩
   dsimp only
   rw[moveDown'_eq]
   have hks:lo+k<(arrOf st').size:=by rw[hb.sz]; lia
   have kb:∀ x,KI (bubble (arrOf st') (lo+k) (lo+k - (lo+l))) x=if x=lo+l then KI (arrOf st') (lo+k) else if lo+l<x/\x<=lo+k then KI (arrOf st') (x - 1) else KI (arrOf st') x:=fun x=>by
    have:=jP3 hks (d:=lo+k - (lo+l)) (by lia) x
    rw[show lo+k - (lo+k - (lo+l))=lo+l by lia] at this
    exact this
   refine aI (eO (aN ⟨rfl,hb.arr (bubble_perm _ _ _) fun x hx=>?_,?_⟩))
   ·rw[kb,ao (by lia),ao (by lia)]
   rw[show min (k+1) n=k+1 by lia]
   intro i j h1 h2 h3
   show KI (bubble _ _ _) i<=KI (bubble _ _ _) j
   rw[kb,kb]
   have lo1:∀ i,lo<=i->i<lo+l->KI (arrOf st') i<=KI (arrOf st') (lo+k):=fun i h1 h2=>by
    have:=b4 (i - lo) (by lia)
    rw[show lo+(i - lo)=i by lia] at this
    exact this
   have hi1:∀ i,lo+l<=i->i<lo+k->KI (arrOf st') (lo+k)<=KI (arrOf st') i:=fun i h1 h2=>by
    have:=b5 (i - lo) (by lia) (by lia)
    rw[show lo+(i - lo)=i by lia] at this
    exact cF this
   repeat' split
   all_goals first
    | (exfalso; lia)
    | exact dA _
    | exact lo1 _ (by lia) (by lia)
    | exact hi1 _ (by lia) (by lia)
    | exact hu _ _ (by lia) (by lia) (by lia)
end
def mergeAtB: { g:Nat->StateT SortSt Sem Bool // mergeAt'=g} :=⟨fun _=>bind _ _,rfl⟩
theorem KI_key {xs:Array Keyed}{i:Nat}{p:Keyed}(h:xs[i]?=some p):KI xs i=key p:=by
 unfold KI
 rw[h]
theorem jJU (s1:Nat):∀ (l:List Keyed) (j0:Nat) (a:Array Keyed) (P M S:List Keyed),P.length=s1+j0->M.length=l.length->a.toList=P++(M++S)->
  ((l.zipIdx j0).foldl (fun (a:Array Keyed) (x:Keyed×Nat)=>a.setIfInBounds (s1+x.2) x.1) a).toList=P++(l++S)
 | [],j0,a,P,M,S,h1,h2,h3=>by
  rw[dF h2] at h3
  exact h3
 | q::l,j0,a,P,[],S,h1,h2,h3=>by cases h2
 | q::l,j0,a,P,m::M,S,h1,h2,h3=>by
  rw[List.zipIdx_cons,gW]
  have:=jJU s1 l (j0+1) (a.setIfInBounds (s1+j0) q) (P++[q]) M S (by rw[aH,h1]; rfl) (Nat.succ.inj h2) (by
   rw[iy,h3,<- h1,jp _ _ (am _),gu,aY]
   rfl)
  rw[this,aY]
  rfl
theorem jTF {P m1 m2 S:List Keyed}(e:m1.length=m2.length){k:Nat}(h:k<P.length\/P.length+m1.length<=k):(P++(m1++S))[k]?=(P++(m2++S))[k]?:=by
 rcases h with h | h
 ·rw[b8 h,b8 h]
 ·rw[bh (by lia),bh (by lia),bh (by lia),bh (by lia),e]
theorem jVE {P m S:List Keyed}{k:Nat}(h1:P.length<=k)(h2:k<P.length+m.length):(P++(m++S))[k]?=m[k - P.length]?:=by
 rw[bh h1,b8 (by lia)]
theorem jKL {xs:Array Keyed}{i j t:Nat}(h:t<j - i):(xs.extract i j).toList[t]?=xs[i+t]?:=by
 rw[jAN,cA h,iw,bU]
theorem jD2 {xs:Array Keyed}{i j:Nat}{p:Keyed}(h:p∈(xs.extract i j).toList):∃ t,i<=t/\t<j/\xs[t]?=some p:=by
 rw[jAN] at h
 obtain⟨t,h1,h2,h3⟩:=jA6 h
 exact⟨t,h1,by lia,at_list.mpr h3⟩
theorem jEQ {xs:Array Keyed}{i j:Nat}(h:j<=xs.size):(xs.extract i j).size=j - i:=by
 rw[Array.size_extract]
 lia
theorem jOF {xs:Array Keyed}{i j:Nat}(h:∀ n m x y,i<=n->n<=m->m<j->xs[n]?=some x->xs[m]?=some y->LE x y):Srt (xs.extract i j).toList:=by
 refine b9.mpr fun a b ha hb hab=>?_
 have hl:(xs.extract i j).toList.length<=j - i:=by rw[jAN,bN]; lia
 have e1:=jKL (xs:=xs) (i:=i) (j:=j) (t:=a) (by lia)
 have e2:=jKL (xs:=xs) (i:=i) (j:=j) (t:=b) (by lia)
 rw[ay ha] at e1
 rw[ay hb] at e2
 exact h (i+a) (i+b) _ _ (by lia) (by lia) (by lia) e1.symm e2.symm
theorem KI_at {xs ys:Array Keyed}{i j:Nat}(h:xs.toList[i]?=ys.toList[j]?):KI xs i=KI ys j:=jBW (by rw[<- bU,<- bU]; exact h)
theorem jL6 {xs r R:Array Keyed}{sa na sb nb k1 k2:Nat}(hsb:sb=sa+na)(hk1:k1<na)(hk2:0<k2)(hk2':k2<=nb)(hz:sb+nb<=xs.size)
  (u1:Up xs sa na) (u2:Up xs sb nb) (g2:∀ t,sa<=t->t<sa+k1->KI xs t<=KI xs sb) (l3:∀ t,sb+k2<=t->t<sb+nb->KI xs (sb - 1)<=KI xs t)
  (D:yO (xs.extract (sa+k1) sb) (xs.extract sb (sb+k2)) r)
  (hR:R.toList=xs.toList.take (sa+k1)++(r.toList++xs.toList.drop (sb+k2))):
  R.Perm xs/\(∀ k,k<sa\/sa+(na+nb)<=k->KI R k=KI xs k)/\Up R sa (na+nb):=by
 have lr:r.toList.length=sb+k2 - (sa+k1):=by
  rw[D.1.length_eq,aH,aL,aL,jEQ (by lia),jEQ (by lia)]
  lia
 have lP:(xs.toList.take (sa+k1)).length=sa+k1:=by rw[bN,aL]; lia
 have hX:xs.toList=xs.toList.take (sa+k1)++(((xs.extract (sa+k1) sb).toList++(xs.extract sb (sb+k2)).toList)++xs.toList.drop (sb+k2)):=by
  have a1:=bH (sa+k1) xs.toList
  have a2:=bH (sb - (sa+k1)) (xs.toList.drop (sa+k1))
  have a3:=bH k2 (xs.toList.drop sb)
  rw[iu] at a2 a3
  rw[show sa+k1+(sb - (sa+k1))=sb by lia] at a2
  rw[jAN,jAN,cV,aY,a3,a2,a1]
 have lm:((xs.extract (sa+k1) sb).toList++(xs.extract sb (sb+k2)).toList).length=r.toList.length:=D.1.length_eq.symm
 have out:∀ k,k<sa+k1\/sb+k2<=k->KI R k=KI xs k:=fun k hk=>KI_at (by
  have:=jTF (P:=xs.toList.take (sa+k1)) (S:=xs.toList.drop (sb+k2)) lm.symm (k:=k) (by rw[lP,lr]; lia)
  exact(bZ (·[k]?) hR).trans (this.trans (bZ (·[k]?) hX).symm))
 have inn:∀ k,sa+k1<=k->k<sb+k2->R.toList[k]?=r.toList[k - (sa+k1)]?:=fun k h1 h2=>by
  rw[hR,jVE (by rw[lP]; exact h1) (by rw[lP,lr]; lia),lP]
 have mem:∀ k,sa+k1<=k->k<sb+k2->∃ t,sa+k1<=t/\t<sb+k2/\KI R k=KI xs t:=fun k h1 h2=>by
  have hk:k - (sa+k1)<r.toList.length:=by lia
  have e:=inn k h1 h2
  rw[ay hk] at e
  have hm:=D.1.mem_iff.mp (cQ hk)
  rcases aM.mp hm with q | q
  ·obtain⟨t,t1,t2,t3⟩:=jD2 q
   exact⟨t,t1,by lia,(KI_key (at_list.mpr e)).trans (KI_key t3).symm⟩
  ·obtain⟨t,t1,t2,t3⟩:=jD2 q
   exact⟨t,by lia,t2,(KI_key (at_list.mpr e)).trans (KI_key t3).symm⟩
 have srt:∀ i j,sa+k1<=i->i<=j->j<sb+k2->KI R i<=KI R j:=fun i j h1 h2 h3=>by
  have hi:i - (sa+k1)<r.toList.length:=by lia
  have hj:j - (sa+k1)<r.toList.length:=by lia
  have e1:=inn i h1 (by lia)
  have e2:=inn j (by lia) h3
  rw[ay hi] at e1
  rw[ay hj] at e2
  rw[KI_key (at_list.mpr e1),KI_key (at_list.mpr e2)]
  exact jF1 D.2 (ay hi) (ay hj) (by lia)
 have low:∀ t u,sa<=t->t<sa+k1->t<=u->u<sb+nb->KI xs t<=KI xs u:=fun t u h1 h2 h3 h4=>by
  by_cases e:u<sb
  ·exact u1 t u h1 h3 (by lia)
  ·exact db (g2 t h1 h2) (u2 sb u (am _) (by lia) h4)
 have high:∀ t u,sa<=t->t<=u->sb+k2<=u->u<sb+nb->KI xs t<=KI xs u:=fun t u h1 h2 h3 h4=>by
  by_cases e:t<sb
  ·exact db (u1 t (sb - 1) h1 (by lia) (by lia)) (l3 u h3 h4)
  ·exact u2 t u (by lia) h2 h4
 refine⟨?_,fun k hk=>out k (by lia),fun i j h1 h2 h3=>?_⟩
 ·refine cq.mpr ?_
  rw[hR]
  refine List.Perm.trans ?_ (jk hX.symm)
  exact df _ (gt _ D.1)
 ·have h3:j<sb+nb:=by lia
  by_cases i1:i<sa+k1
  ·rw[out i (.inl i1)]
   by_cases j1:j<sa+k1
   ·rw[out j (.inl j1)]
    exact low i j h1 i1 h2 h3
   by_cases j2:j<sb+k2
   ·obtain⟨t,t1,t2,t3⟩:=mem j (by lia) j2
    rw[t3]
    exact low i t h1 i1 (by lia) (by lia)
   ·rw[out j (.inr (by lia))]
    exact low i j h1 i1 h2 h3
  by_cases i2:i<sb+k2
  ·by_cases j2:j<sb+k2
   ·exact srt i j (by lia) h2 j2
   ·obtain⟨t,t1,t2,t3⟩:=mem i (by lia) i2
    rw[t3,out j (.inr (by lia))]
    exact high t j (by lia) (by lia) (by lia) h3
  ·rw[out i (.inr (by lia)),out j (.inr (by lia))]
   exact high i j h1 h2 (by lia) h3
section
variable {prog:Program}{w:World}{A:Around}{E:Value->Shared->Prop}{s:Shared} [LtOk prog w A s]
theorem jRU {st st':SortSt}{Q:PUnit->SortSt->Prop}(h:Q ⟨⟩ st'):wpS (model prog w) A E s (set st':StateT SortSt Sem PUnit) Q st:=eO (f:=fun _=>st') h
theorem jLN {α:Type}{a b:α}{Q:α->SortSt->Prop}{st:SortSt}(e:a=b)(h:Q b st):wpS (model prog w) A E s (pure a:StateT SortSt Sem α) Q st:=aN (e ▸ h)
structure Merged (st st':SortSt)(i sa na sb nb pw:Nat):Prop where
 perm:(arrOf st').Perm (arrOf st)
 kind:kindOf st'=Od.kd
 failed:failedOf st'=none
 pend:pendingOf st'=((pendingOf st).setIfInBounds i (sa,na+nb,pw)).eraseIdxIfInBounds (i+1)
 out:∀ k,k<sa\/sa+(na+nb)<=k->KI (arrOf st') k=KI (arrOf st) k
 up:Up (arrOf st') sa (na+nb)
theorem jID {st:SortSt}{i sa na pw sb nb w2:Nat}{Q:Bool->SortSt->Prop}(hk:kindOf st=Od.kd)(hf:failedOf st=none)(hI:AllI (arrOf st).toList)
  (h1:(pendingOf st)[i]?=some (sa,na,pw)) (h2:(pendingOf st)[i+1]?=some (sb,nb,w2)) (hsb:sb=sa+na) (hna:0<na) (hnb:0<nb) (hz:sb+nb<=(arrOf st).size)
  (u1:Up (arrOf st) sa na) (u2:Up (arrOf st) sb nb) (h:∀ st',Merged st st' i sa na sb nb pw->Q true st'):wpS (model prog w) A E s (mergeAt' i) Q st:=by
 rw[mergeAtB.2]
 delta mergeAtB
 dsimp only
 simp only [elP,ltP,ltAtP,jJ2,jPX,jPY]
 refine aI (gq ?_)
 rw[h1,h2]
 dsimp only
 refine aI (jRU ?_)
 generalize hpp:((pendingOf st).setIfInBounds i (sa,na+nb,pw)).eraseIdxIfInBounds (i+1)=pp
 show wpS _ _ _ _ _ _ (SortSt.mk' (kindOf st) (arrOf st) pp (gallopOf st) (failedOf st))
 generalize hst1:SortSt.mk' (kindOf st) (arrOf st) pp (gallopOf st) (failedOf st)=st1
 have G1:kindOf st1=kindOf st/\arrOf st1=arrOf st/\pendingOf st1=pp/\failedOf st1=failedOf st:=by rw[<- hst1]; exact⟨rfl,rfl,rfl,rfl⟩
 have at_:∀ t,t<(arrOf st).size->∃ q,(arrOf st)[t]?=some q/\IsI q:=fun t ht=>by
  obtain⟨q,q1,q2⟩:=qG ht
  exact⟨q,q1,hI q (aJ q2)⟩
 have m1:∀ n m x y,sa<=n->n<=m->m<sa+na->(arrOf st)[n]?=some x->(arrOf st)[m]?=some y->LE x y:=fun n m x y a1 a2 a3 hx hy=>by
  have:=u1 n m a1 a2 a3
  rw[KI_key hx,KI_key hy] at this
  exact this
 have m2:∀ n m x y,sb<=n->n<=m->m<sb+nb->(arrOf st)[n]?=some x->(arrOf st)[m]?=some y->LE x y:=fun n m x y a1 a2 a3 hx hy=>by
  have:=u2 n m a1 a2 a3
  rw[KI_key hx,KI_key hy] at this
  exact this
 obtain⟨pb,hpb,ipb⟩:=at_ sb (by lia)
 refine aI (jS hpb ?_)
 refine aI (jKH (G1.1.trans hk) ipb hI m1 hna (show sa+na<=(arrOf st).size by lia) fun k1 g1 g2 g3=>?_)
 dsimp only
 have g2:∀ t,sa<=t->t<sa+k1->KI (arrOf st) t<=KI (arrOf st) sb:=fun t t1 t2=>by
  obtain⟨q,hq,_⟩:=at_ t (by lia)
  rw[KI_key hq,KI_key hpb]
  exact g2 t q t1 t2 hq
 by_cases e1:na - k1=0
 ·rw[ar (bp e1)]
  refine aN (h _ ⟨?_,G1.1.trans hk,G1.2.2.2.trans hf,G1.2.2.1.trans hpp.symm,fun k _=>?_,?_⟩)
  ·rw[G1.2.1]
  ·rw[G1.2.1]
  ·rw[G1.2.1]
   intro i j i1 i2 i3
   by_cases a:i<sb
   ·by_cases b:j<sb
    ·exact u1 i j i1 i2 (by lia)
    ·exact db (g2 i i1 (by lia)) (u2 sb j (am _) (by lia) (by lia))
   ·exact u2 i j (by lia) i2 (by lia)
 rw[ao (bn e1)]
 obtain⟨pa,hpa,ipa⟩:=at_ (sa+k1+(na - k1) - 1) (by lia)
 refine aI (jS hpa ?_)
 refine aI (jKI (G1.1.trans hk) ipa hI m2 (by lia) (show sb+nb<=(arrOf st).size by lia) fun k2 l1 l2 l3=>?_)
 dsimp only
 have epa:sa+k1+(na - k1) - 1=sb - 1:=by lia
 rw[epa] at hpa
 have l3':∀ t,sb+k2<=t->t<sb+nb->KI (arrOf st) (sb - 1)<=KI (arrOf st) t:=fun t t1 t2=>by
  obtain⟨q,hq,_⟩:=at_ t (by lia)
  rw[KI_key hq,KI_key hpa]
  exact l3 t q t1 t2 hq
 by_cases e2:k2=0
 ·rw[ar (bp e2)]
  refine aN (h _ ⟨?_,G1.1.trans hk,G1.2.2.2.trans hf,G1.2.2.1.trans hpp.symm,fun k _=>?_,?_⟩)
  ·rw[G1.2.1]
  ·rw[G1.2.1]
  ·rw[G1.2.1]
   intro i j i1 i2 i3
   by_cases a:i<sb
   ·by_cases b:j<sb
    ·exact u1 i j i1 i2 (by lia)
    ·exact db (u1 i (sb - 1) i1 (by lia) (by lia)) (l3' j (by lia) (by lia))
   ·exact u2 i j (by lia) i2 (by lia)
 rw[ao (bn e2)]
 have T:Two ((arrOf st).extract (sa+k1) sb) ((arrOf st).extract sb (sb+k2)):=by
  refine⟨fun q hq=>?_,fun q hq=>?_,jOF fun n m x y a1 a2 a3=>m1 n m x y (by lia) a2 (by lia),jOF fun n m x y a1 a2 a3=>m2 n m x y (by lia) a2 (by lia),?_,?_,fun x hx y hy=>?_,fun y hy q hq=>?_⟩
  ·obtain⟨t,_,_,t3⟩:=jD2 hq
   exact hI q (aJ (at_list.mp t3))
  ·obtain⟨t,_,_,t3⟩:=jD2 hq
   exact hI q (aJ (at_list.mp t3))
  ·rw[jEQ (by lia)]; lia
  ·rw[jEQ (by lia)]; lia
  ·obtain⟨t,t1,t2,t3⟩:=jD2 hx
   rw[jEQ (by lia),jKL (by lia),show sa+k1+(sb - (sa+k1) - 1)=sb - 1 by lia,hpa] at hy
   cases hy
   exact l2 t x t1 t2 t3
  ·obtain⟨t,t1,t2,t3⟩:=jD2 hy
   rw[jKL (by lia),ln,hpb] at hq
   cases hq
   exact g3 t y t1 (by lia) t3
 by_cases e3:na - k1<=k2
 case' pos=>
  rw[ar e3]
  refine aI (jIB (G1.1.trans hk) T fun r st2 D G0=>?_)
  have G:SG (SortSt.mk' (kindOf st) (arrOf st) pp (gallopOf st) (failedOf st)) st2:=by rw[hst1]; exact G0
  subst hpp
 case' neg=>
  rw[ao e3]
  refine aI (jIC (G1.1.trans hk) T fun r st2 D G0=>?_)
  have G:SG (SortSt.mk' (kindOf st) (arrOf st) pp (gallopOf st) (failedOf st)) st2:=by rw[hst1]; exact G0
  subst hpp
 all_goals
  refine aI (eO (aI (gq ?_)))
  have ea:arrOf st2=arrOf st:=G.a
  have W:=jL6 (R:=((r.toList.zipIdx 0).foldl (fun (a:Array Keyed) (x:Keyed×Nat)=>a.setIfInBounds (sa+k1+x.2) x.1) (arrOf st))) hsb (by lia) (by lia) l1 hz u1 u2 g2 l3' D (jJU (sa+k1) r.toList 0 (arrOf st) ((arrOf st).toList.take (sa+k1)) (((arrOf st).extract (sa+k1) sb).toList++((arrOf st).extract sb (sb+k2)).toList) ((arrOf st).toList.drop (sb+k2)) (by rw[bN,aL]; lia) D.1.length_eq.symm (by
   have a1:=bH (sa+k1) (arrOf st).toList
   have a2:=bH (sb - (sa+k1)) ((arrOf st).toList.drop (sa+k1))
   have a3:=bH k2 ((arrOf st).toList.drop sb)
   rw[iu] at a2 a3
   rw[show sa+k1+(sb - (sa+k1))=sb by lia] at a2
   rw[jAN,jAN,cV,aY,a3,a2,a1]))
  rw[<- ea] at W
  refine jLN (by show (failedOf st2).isNone=true; rw[G.f]; show (failedOf st).isNone=true; rw[hf]; rfl) (h _ ⟨?_,G.k.trans hk,G.f.trans hf,G.p,?_,?_⟩)
  ·rw[<- ea]
   exact W.1
  ·rw[<- ea]
   exact W.2.1
  ·exact W.2.2
end
def Runs (xs:Array Keyed):List (Nat×Nat×Nat)->Nat->Nat->Prop
 | [],a,b=>a=b
 | (s,n,_)::t,a,b=>s=a/\0<n/\Up xs s n/\Runs xs t (a+n) b
section
variable {xs ys:Array Keyed}
theorem Runs.le:∀ {l:List (Nat×Nat×Nat)}{a b:Nat},Runs xs l a b->a+l.length<=b
 | [],a,b,h=>by have:a=b:=h; rw[cy]; lia
 | (s,n,_)::t,a,b,⟨_,h2,_,h4⟩=>by
  have:=Runs.le h4
  rw[aU]
  lia
theorem Runs.app:∀ {l m:List (Nat×Nat×Nat)}{a b:Nat},Runs xs (l++m) a b->∃ c,Runs xs l a c/\Runs xs m c b
 | [],m,a,b,h=>⟨a,rfl,h⟩
 | (s,n,_)::t,m,a,b,⟨h1,h2,h3,h4⟩=>by
  obtain⟨c,c1,c2⟩:=Runs.app h4
  exact⟨c,⟨h1,h2,h3,c1⟩,c2⟩
theorem Runs.put:∀ {l m:List (Nat×Nat×Nat)}{a b c:Nat},Runs xs l a c->Runs xs m c b->Runs xs (l++m) a b
 | [],m,a,b,c,h,g=>by have:a=c:=h; subst this; exact g
 | (s,n,_)::t,m,a,b,c,⟨h1,h2,h3,h4⟩,g=>⟨h1,h2,h3,Runs.put h4 g⟩
theorem Up.same {lo n:Nat}(h:Up xs lo n)(e:∀ k,lo<=k->k<lo+n->KI ys k=KI xs k):Up ys lo n:=fun i j h1 h2 h3=>by
 rw[e i h1 (by lia),e j (by lia) h3]
 exact h i j h1 h2 h3
theorem Runs.same:∀ {l:List (Nat×Nat×Nat)}{a b:Nat},Runs xs l a b->(∀ k,a<=k->k<b->KI ys k=KI xs k)->Runs ys l a b
 | [],a,b,h,_=>h
 | (s,n,_)::t,a,b,⟨h1,h2,h3,h4⟩,e=>by
  have:=Runs.le h4
  exact⟨h1,h2,h3.same fun k k1 k2=>e k (by lia) (by lia),Runs.same h4 fun k k1 k2=>e k (by lia) k2⟩
theorem Runs.mod {f:Nat×Nat×Nat->Nat×Nat×Nat}(hf:∀ x,(f x).1=x.1/\(f x).2.1=x.2.1):∀ {l:List (Nat×Nat×Nat)}{i a b:Nat},Runs xs l a b->Runs xs (l.modify i f) a b
 | [],i,a,b,h=>by rw[List.modify_nil]; exact h
 | (s,n,w)::t,0,a,b,⟨h1,h2,h3,h4⟩=>by
  rw[List.modify_zero_cons]
  obtain⟨e1,e2⟩:=hf (s,n,w)
  generalize f (s,n,w)=v at e1 e2 ⊢
  obtain⟨s',n',w'⟩:=v
  have e1:s'=s:=e1
  have e2:n'=n:=e2
  subst e1 e2
  exact⟨h1,h2,h3,h4⟩
 | (s,n,w)::t,i+1,a,b,⟨h1,h2,h3,h4⟩=>by
  rw[List.modify_succ_cons]
  exact⟨h1,h2,h3,Runs.mod hf h4⟩
end
structure RI (a₀:Array Keyed)(lo:Nat)(st:SortSt):Prop where
 perm:(arrOf st).Perm a₀
 kind:kindOf st=Od.kd
 failed:failedOf st=none
 runs:Runs (arrOf st) (pendingOf st).toList 0 lo
theorem jGZ:∀ (l:List (Nat×Nat×Nat)) (i:Nat),i+1<l.length->∃ u x y t,l=u++x::y::t/\u.length=i
 | [],i,h=>absurd h (eQ _)
 | [x],i,h=>by rw[gA] at h; lia
 | x::y::t,0,h=>⟨[],x,y,t,rfl,rfl⟩
 | x::y::t,i+1,h=>by
  obtain⟨u,x',y',t',e,hu⟩:=jGZ (y::t) i (by rw[aU] at h; lia)
  exact⟨x::u,x',y',t',by rw[e]; rfl,by rw[aU,hu]⟩
theorem jU4 {a₀ xs:Array Keyed}(h0:AllI a₀.toList)(hp:xs.Perm a₀):AllI xs.toList:=fun p hp'=>h0 p ((cq.mp hp).mem_iff.mp hp')
section
variable {prog:Program}{w:World}{A:Around}{E:Value->Shared->Prop}{s:Shared} [LtOk prog w A s]{a₀:Array Keyed}
theorem jDZ {st:SortSt}{i lo:Nat}{Q:Bool->SortSt->Prop}(h0:AllI a₀.toList)(R:RI a₀ lo st)(hlo:lo<=a₀.size)(hi:i+1<(pendingOf st).size)
  (h:∀ st',RI a₀ lo st'->(pendingOf st').size+1=(pendingOf st).size->(∀ k,lo<=k->KI (arrOf st') k=KI (arrOf st) k)->Q true st'):wpS (model prog w) A E s (mergeAt' i) Q st:=by
 obtain⟨u,⟨sa,na,pw⟩,⟨sb,nb,w2⟩,t,e,hu⟩:=jGZ (pendingOf st).toList i (by rw[aL]; exact hi)
 have rr:=R.runs
 rw[e] at rr
 obtain⟨c,r1,a1,a2,a3,a4,a5,a6,a7⟩:=Runs.app rr
 have r2:=Runs.le a7
 have r3:=Runs.le r1
 subst a1
 have e1:(pendingOf st)[i]?=some (sa,na,pw):=by
  rw[<- bU,e,bh (by lia),hu,gu]
  rfl
 have e2:(pendingOf st)[i+1]?=some (sb,nb,w2):=by
  rw[<- bU,e,bh (by lia),hu,cV]
  rfl
 have z:=R.perm.size_eq
 refine jID R.kind R.failed (jU4 h0 R.perm) e1 e2 a4 a2 a5 (by lia) a3 a6 fun st' M=>?_
 have ep:(pendingOf st').toList=u++(sa,na+nb,pw)::t:=by
  rw[M.pend,Array.toList_eraseIdxIfInBounds,iy,e,jp _ _ (by lia),hu,gu,List.set_cons_zero,List.eraseIdx_append_of_length_le (by lia),hu,cV]
  rfl
 refine h st' ⟨M.perm.trans R.perm,M.kind,M.failed,?_⟩ ?_ fun k hk=>M.out k (by lia)
 ·rw[ep]
  refine Runs.put (Runs.same r1 fun k k1 k2=>M.out k (by lia)) ⟨rfl,by lia,M.up,?_⟩
  have:=Runs.same (ys:=arrOf st') a7 fun k k1 k2=>M.out k (by lia)
  rw[Nat.add_assoc] at this
  exact this
 ·have q1:=bZ List.length ep
  have q2:=bZ List.length e
  rw[aL,aH,aU] at q1
  rw[aL,aH,aU,aU] at q2
  lia
theorem RI.of {st:SortSt}{F:Nat->Int}{lo:Nat}{p:Array (Nat×Nat×Nat)}{xs:Array Keyed}(h:BB a₀ p F lo st)(hr:Runs xs p.toList 0 lo)(hF:∀ k,F k=KI xs k):RI a₀ lo st:=
 ⟨h.perm,h.kind,h.failed,by rw[h.pend]; exact hr.same fun k _ hk=>(h.low k hk).trans (hF k)⟩
theorem wpS_sortRunsAny {st:SortSt}{Q:Unit->SortSt->Prop}(h0:AllI a₀.toList)(hB:SB a₀ st)(h1:1<=a₀.size)
  (h:∀ st',(arrOf st').Perm a₀->failedOf st'=none->STo (arrOf st') a₀.size->Q () st'):wpS (model prog w) A E s sortRuns' Q st:=by
 rw[sortRuns'_eq]
 refine aI (gq ?_)
 try dsimp only
 have hz:=hB.size
 rw[hz]
 generalize minRun' a₀.size a₀.size 0=mr
 refine aI (dz (cj (I:=fun x c st'=>∃ lo,c=(none,lo)/\x<=lo/\lo<=a₀.size/\RI a₀ lo st')
  (Q:=fun c st'=>c=(none,a₀.size)/\RI a₀ a₀.size st') ?step ?fin ⟨0,rfl,am _,bi _,hB.perm,hB.kind,hB.failed,by rw[hB.pend]; rfl⟩) ?post)
 case fin=>
  rintro c st' ⟨lo,rfl,l1,l2,R⟩
  have:lo=a₀.size:=by lia
  subst this
  exact⟨rfl,R⟩
 case step=>
  rintro x c st1 _ hx ⟨lo,rfl,l1,l2,R1⟩
  try dsimp only
  by_cases hl:lo ≥ a₀.size
  ·rw[ar hl]
   have:lo=a₀.size:=by lia
   subst this
   exact aN ⟨rfl,R1⟩
  rw[ao hl]
  refine aI (jFN (F:=fun k=>KI (arrOf st1) k) (p:=pendingOf st1) h0 (by lia) (by lia) ⟨R1.perm,R1.kind,R1.failed,rfl,fun _ _=>rfl⟩ fun m st2 B2 m1 m2 U2=>?_)
  try dsimp only
  by_cases hm:m<mr
  case' pos=>
   rw[ar hm]
   refine aI (gQ (dj ⟨rfl,?_⟩))
   refine aI (jE0 h0 (by lia) (by lia) B2 U2 fun st4 B4 U4=>?_)
   have R4:=RI.of B4 R1.runs fun _=>rfl
   have n0:0<min (a₀.size - lo) mr:=by lia
   have n9:min (a₀.size - lo) mr<=a₀.size - lo:=by lia
   generalize min (a₀.size - lo) mr=n at*
  case' neg=>
   rw[ao hm]
   have R4:=RI.of B2 R1.runs fun _=>rfl
   have U4:=U2
   generalize st2=st4 at*
   generalize m=n at*
  all_goals
   refine aI (gq ?_)
   have last:∀ st5:SortSt,RI a₀ lo st5->Up (arrOf st5) lo n->∃ lo',(none,lo+n)=((none:Option PUnit),lo')/\x+1<=lo'/\lo'<=a₀.size/\RI a₀ lo' (setPending st5 ((pendingOf st5).push (lo,n,0))):=fun st5 R5 U5=>
    ⟨lo+n,rfl,by lia,by lia,R5.perm,R5.kind,R5.failed,by
     show Runs (arrOf st5) ((pendingOf st5).push (lo,n,0)).toList 0 (lo+n)
     rw[d0]
     exact R5.runs.put ⟨rfl,by lia,U5,rfl⟩⟩
   cases hb:(pendingOf st4).back? with
   | none=>
    try dsimp only
    exact aI (eO (aN (last st4 R4 U4)))
   | some v=>
    obtain⟨s1,n1,w1⟩:=v
    try dsimp only
    refine aI (dz (cj (I:=fun _ c st'=>c=(none,())/\RI a₀ lo st'/\Up (arrOf st') lo n) (Q:=fun c st'=>c=(none,())/\RI a₀ lo st'/\Up (arrOf st') lo n) ?mstep (fun _ _ z=>z) ⟨rfl,R4,U4⟩) ?mpost)
    case mstep=>
     rintro y c st5 _ _ ⟨rfl,R5,U5⟩
     try dsimp only
     refine aI (gq ?_)
     by_cases hs:(pendingOf st5).size>1
     ·rw[ar hs]
      obtain⟨v,hv⟩:∃ v,(pendingOf st5)[(pendingOf st5).size - 2]?=some v:=⟨_,Array.getElem?_eq_getElem (by lia)⟩
      rw[hv]
      obtain⟨v1,v2,older⟩:=v
      try dsimp only
      by_cases ho:older<=power' a₀.size (2*s1+n1) (2*s1+n1+n1+n) a₀.size
      ·rw[ar ho]
       exact aN ⟨rfl,R5,U5⟩
      rw[ao ho]
      refine aI (jDZ h0 R5 (by lia) (by lia) fun st6 R6 _ E6=>?_)
      exact aN ⟨rfl,R6,U5.same fun k k1 _=>E6 k k1⟩
     ·rw[ao hs]
      exact aN ⟨rfl,R5,U5⟩
    case mpost=>
     rintro c st5 ⟨rfl,R5,U5⟩
     try dsimp only
     refine aI (eO (aI (eO (aN (last (setPending st5 ((pendingOf st5).modify ((pendingOf st5).size - 1) fun x=>(x.1,x.2.1,power' a₀.size (2*s1+n1) (2*s1+n1+n1+n) a₀.size))) ⟨R5.perm,R5.kind,R5.failed,?_⟩ U5)))))
     show Runs (arrOf st5) (Array.modify _ _ _).toList 0 lo
     rw[Array.toList_modify]
     exact Runs.mod (f:=fun x=>(x.1,x.2.1,power' a₀.size (2*s1+n1) (2*s1+n1+n1+n) a₀.size)) (fun _=>⟨rfl,rfl⟩) R5.runs
 case post=>
  rintro c st1 ⟨rfl,R1⟩
  try dsimp only
  refine aI (dz (cj (I:=fun x c st'=>c=(none,())/\RI a₀ a₀.size st'/\1<=(pendingOf st').size/\(pendingOf st').size+x<=a₀.size)
   (Q:=fun c st'=>c=(none,())/\RI a₀ a₀.size st'/\(pendingOf st').size=1) ?step2 ?fin2 ⟨rfl,R1,?a1,?a2⟩) ?post2)
  case a1=>
   have:=R1.runs
   cases hp:(pendingOf st1).toList with
   | nil=>
    rw[hp] at this
    have:0=a₀.size:=this
    lia
   | cons v t=>
    have:=bZ List.length hp
    rw[aL,aU] at this
    lia
  case a2=>
   have:=R1.runs.le
   rw[aL] at this
   lia
  case fin2=>
   rintro c st2 ⟨_,_,h2,h3⟩
   lia
  case post2=>
   rintro c st2 ⟨rfl,R2,h2⟩
   try dsimp only
   refine aN (h st2 R2.perm R2.failed ?_)
   have rr:=R2.runs
   cases hp:(pendingOf st2).toList with
   | nil=>
    rw[<- aL,hp] at h2
    cases h2
   | cons v t=>
    have:=bZ List.length hp
    rw[aL,h2,aU] at this
    have:t=[]:=dF (by lia)
    subst this
    rw[hp] at rr
    obtain⟨v1,v2,v3⟩:=v
    obtain⟨q1,q2,q3,q4⟩:=rr
    have q4:0+v2=a₀.size:=q4
    subst q1
    exact fun i j hij hj=>q3 i j (bi _) hij (by lia)
  case step2=>
   rintro x c st2 _ hx ⟨rfl,R2,h2,h3⟩
   try dsimp only
   refine aI (gq ?_)
   by_cases hs:(pendingOf st2).size<=1
   ·rw[ar hs]
    exact aN ⟨rfl,R2,by lia⟩
   rw[ao hs]
   refine aI (jDZ h0 R2 (am _) ?_ fun st3 R3 e3 _=>?_)
   ·have ite_le:∀ (c:Prop) [Decidable c] (a b:Nat),(if c then a else b)<=max a b:=fun c _ a b=>by
     by_cases z:c
     ·rw[ar z]; lia
     ·rw[ao z]; lia
    refine kz (Nat.add_le_add_right (ite_le _ _ _) 1) ?_
    lia
   ·exact aN ⟨rfl,R3,by lia,by lia⟩
end
end TM
namespace TM
open PySem PySem.Spec PyProof.Rows
section
variable {prog:Program}{w:World}{A:Around}{E:Value->Shared->Prop}{s:Shared}
abbrev turned (b:Bool)(xs:Array Value):Array Value:=if b then xs.reverse else xs
theorem jIH {b:Bool}{xs:Array Value} :(turned b xs).size=xs.size:=by
 cases b
 ·rfl
 ·exact Array.size_reverse
theorem jCS (b:Bool)(vs:List Value):(if b=true then (vs.toArray.zip vs.toArray).reverse else vs.toArray.zip vs.toArray).Perm (pairsOf vs):=by
 cases b with
 | false=>exact jl _
 | true=>exact cq.mpr (by show ((vs.toArray.zip vs.toArray).reverse).toList.Perm _; rw[dE]; exact List.reverse_perm _)
def AskOk [Od](prog:Program)(w:World)(A:Around)(s:Shared)(a:Addr)(vs:List Value):Prop:=
 ∀ h6:Heap,(∀ c o,s.heap.get? c=some o->c≠a->h6.get? c=some o)->
  (∀ (Q:SortKind->Shared->Prop) (E:Value->Shared->Prop),Q Od.kd { s with heap:=h6} ->wpAny (model prog w) A (keyKind' vs.toArray) Q E { s with heap:=h6})/\LtOk prog w A { s with heap:=h6}
theorem jJQ [Od]{a:Addr}{vs:List Value}{n:Nat}{b:Bool}{P:Fin->Shared->Prop}(ho:s.heap.get? a=some (seqObj "list" vs.toArray n))(hz:vs.length<=sizeLine)(hI:AllI (pairsOf vs).toList)(hk:2<=vs.length->AskOk prog w A s a vs)
  (h:∀ xs:Array Keyed,xs.Perm (pairsOf vs)->STo xs (pairsOf vs).size->P (.done (.ret .none)) { s with heap:=sortedHeap s.heap a vs (turned b (xs.map (·.2)))}):
  wpAny (model prog w) A (Builtin.«list.sort» ⟨[.ref a],[(Str.ofString "reverse", .bool b)]⟩) P E s:=by
 rw[list_sort_rev]
 have ha:=aE ho
 have hz':vs.toArray.size<=sizeLine:=by rw[ax]; exact hz
 refine ae (hV ho rfl (ae (eE ho rfl ?_ hz' (bi _))))
 obtain⟨e1,ho1⟩:∃ e1,(s.heap.update a (Obj.mapSeq fun _=>#[])).get? a=some (seqObj "list" #[] e1):=⟨_,fm ho _⟩
 refine ae (iG ho1 rfl (ae (jw ?_ hz)))
 refine ae (ev (bS ?_))
 generalize hh6:((s.heap.update a (Obj.mapSeq fun _=>#[])).push (seqObj "tuple" vs.toArray 0)).push (seqObj "list" #[] 0)=h6
 have ho6:h6.get? a=some (seqObj "list" #[] e1):=by
  rw[<- hh6]
  exact ag _ (ag _ ho1)
 have k6:∀ c o,s.heap.get? c=some o->c≠a->h6.get? c=some o:=fun c o q ne=>by
  rw[<- hh6]
  exact ag _ (ag _ ((bv _ _ (dW ne)).trans q))
 have sh:∀ out,sortedHeap s.heap a vs out=h6.update a (Obj.mapSeq fun _=>out):=fun out=>by rw[<- hh6]; rfl
 have go:∀ X:Sem Fin,wpAny (model prog w) A X P E { s with heap:=h6} ->wpAny (model prog w) A (if b=true then (do let _ <- rule "list.sort.reverse"; X) else X) P E { s with heap:=h6} :=fun X hX=>by
  cases b with
  | false=>exact hX
  | true=>exact ae (dj hX)
 have hend:∀ st':SortSt,(arrOf st').Perm (pairsOf vs)->STo (arrOf st') (pairsOf vs).size->P (.done (.ret .none)) { s with heap:=h6.update a (Obj.mapSeq fun _=>turned b ((arrOf st').map (·.2)))} :=fun st' p1 p2=>by
  rw[<- sh]
  exact h _ p1 p2
 have hfit:∀ st':SortSt,(arrOf st').Perm (pairsOf vs)->(turned b ((arrOf st').map (·.2))).size<=sizeLine+1:=fun st' p1=>by
  rw[jIH,size_map,p1.size_eq,pairsOf_size]
  lia
 dsimp only
 refine go _ ?_
 by_cases few:vs.toArray.size<2
 ·rw[ar few,ar few]
  refine ae (ak ?_)
  rw[StateT.run_pure]
  refine ae (ak ?_)
  dsimp only
  refine ae (iG ho6 rfl (ae (eE ho6 rfl ?_ (bi _) (hfit (SortSt.mk' general' _ #[] 7 none) (jCS b vs)))))
  rw[iH,ao aq]
  refine ak (hend (SortSt.mk' general' _ #[] 7 none) (jCS b vs) fun i j hij hj=>?_)
  have:i=j:=by
   rw[pairsOf_size] at hj
   rw[ax] at few
   lia
  rw[this]
  exact dA _
 ·rw[ao few,ao few]
  rw[ax] at few
  obtain⟨kk,ll⟩:=hk (by lia) h6 k6
  refine ae (kk _ _ (ae (b7 (wpS_sortRunsAny (a₀:=pairsOf vs) (st:=SortSt.mk' Od.kd _ #[] 7 none)
   (Q:=fun _ st'=>(arrOf st').Perm (pairsOf vs)/\failedOf st'=none/\STo (arrOf st') (pairsOf vs).size)
   hI ⟨jCS b _,rfl,rfl,rfl⟩ (by rw[pairsOf_size]; lia) fun st' a1 a2 a3=>⟨a1,a2,a3⟩) ?_ fun _ _ e=>e)))
  rintro ⟨⟨⟩,st'⟩ s' ⟨rfl,p1,p2,p3⟩
  dsimp only
  refine ae (iG ho6 rfl (ae (eE ho6 rfl ?_ (bi _) (hfit st' p1))))
  rw[p2]
  dsimp only
  rw[iH,ao aq]
  exact ak (hend st' p1 p3)
theorem jMH (a:Addr):Builtin.«list.sort» ⟨[.ref a],[]⟩=Builtin.«list.sort» ⟨[.ref a],[(Str.ofString "reverse", .bool false)]⟩:=by
 rw[list_sort_plain,list_sort_rev]
 rfl
abbrev odI:Od:=⟨oneType',fun p=>numOf p.1,fun p=>∃ n t,p.1=Value.int n t⟩
theorem ltI: @LtOk prog w A s odI:= @LtOk.mk prog w A s odI fun {E st x y Q} hk hx hy h=>by
 obtain⟨a,t,ha⟩:=hx
 obtain⟨b,u,hb⟩:=hy
 have e1: @key odI x=a:=by show numOf x.1=a; rw[ha]; rfl
 have e2: @key odI y=b:=by show numOf y.1=b; rw[hb]; rfl
 rw[e1,e2] at h
 rw[lt'_eq]
 refine aI (gq ?_)
 rw[show kindOf st=oneType' from hk,keyLt'_oneType,ha,hb]
 exact aI (gQ (eh (oneLt_int ⟨rfl,aN h⟩)))
theorem stoI {xs:Array Keyed}{k:Nat}(h: @STo odI xs k):SortedTo xs k:=h
theorem askI {a:Addr}{vs:List Value}{ns:List Int}(hI:IntsAre vs ns)(h2:2<=vs.length): @AskOk odI prog w A s a vs:=fun h6 _=>⟨fun Q E h=>by
 obtain⟨u,v,r,rfl⟩:∃ u v r,vs=u::v::r:=by
  match vs,h2 with
  | [_],few=>exact absurd few (show ¬ 2<=1 by decide)
  | u::v::r,_=>exact⟨u,v,r,rfl⟩
 rw[keyKind_ints hI]
 exact ak h,ltI⟩
theorem sort_rev_any {a:Addr}{vs:List Value}{ns:List Int}{n:Nat}{b:Bool}{P:Fin->Shared->Prop}(ho:s.heap.get? a=some (seqObj "list" vs.toArray n))(hI:IntsAre vs ns)(hz:vs.length<=sizeLine)
  (h:∀ (out:Array Value) (ns':List Int),IntsAre out.toList ns'->ns'.Perm ns->Ordered b ns'->P (.done (.ret .none)) { s with heap:=sortedHeap s.heap a vs out}):
  wpAny (model prog w) A (Builtin.«list.sort» ⟨[.ref a],[(Str.ofString "reverse", .bool b)]⟩) P E s:=
 @jJQ prog w A E s odI a vs n b P ho hz hI.intKeys (fun h2=>askI hI h2) fun xs p1 p2=>by
  obtain⟨ns',q1,q2,q3⟩:=sorted_out_rev hI p1 (stoI p2) b
  exact h _ ns' q1 q2 q3
end
end TM
namespace L2
open PySem PySem.Spec PyProof.Rows
section
variable {prog:Program}{w:World}{A:Around}{E:Value->Shared->Prop}{s:Shared}{d:Addr}{kvs:List (Key×Value)}
theorem jFG:∀ {vs:List Value}{ks:List Int},vs.length=ks.length->(∀ (j:Nat) (v:Value),vs[j]?=some v->∃ i t,ks[j]?=some i/\v=Value.int i t)->IntsAre vs ks
 | [],[],_,_=> .nil
 | [],_::_,h,_=>by cases h
 | _::_,[],h,_=>by cases h
 | v::vs,a::r,h,hat=>by
  obtain⟨i,t,e1,rfl⟩:=hat 0 v rfl
  cases e1
  exact .cons _ t (jFG (Nat.succ.inj h) fun j v e=>hat (j+1) v e)
theorem jH1 {Q:Value->Shared->Prop}{ks:List Int}{b:Bool}(hh:A.handled=none)(lo:(d==sysModules)=false)(D:s.heap.DictOf (kT prog w) d kvs)(hk:kvs.map (·.1)=ks.map Sum.inl)(hz:ks.length<=sizeLine)
  (h:∀ (hf:Heap) (tk:Nat) (l:Addr) (vs:List Value) (ns:List Int) (e:Nat),s.heap.objs.size<=l->(∀ b u,s.heap.get? b=some u->hf.get? b=some u)->
   hf.get? l=some { cls:= .type "list",data:= .seq vs.toArray e} ->IntsAre vs ns->ns.Perm ks->Ordered b ns->Q (.ref l) { s with heap:=hf,toks:=tk}):
  wpAny (model prog w) A (call (.builtin "sorted") [.ref d] [(Str.ofString "reverse", .bool b)]) Q E s:=by
 obtain⟨ep,hat⟩:=D.dictAt
 have hlen:kvs.length=ks.length:=by
  have:=bZ List.length hk
  rwa [af,af] at this
 refine call_function_entry_kw iE g9 hG (args_sorted_rev _ _) ?_
 unfold Builtin.«sorted»
 refine ae (m:=checkCount "sorted" 1 1 _) (ak ?_)
 refine ae (jJ8 (A:=A.in1) (PySem.W.kdl_dict (knd:=kT prog w) (kvs:=kvs) (ep:=ep) lo) hh hat (by lia) fun h1 tk acc hk1 hlt1 hacc=>?_)
 have hal:acc.toList.length=ks.length:=by rw[aL,hacc.1,hlen]
 have hI:IntsAre acc.toList ks:=jFG hal fun j v e=>by
  obtain⟨k,x,hx,hv⟩:=hacc.2 j v (by rw[<- bU]; exact e)
  have e2:(kvs.map (·.1))[j]?=some k:=by rw[aR,hx]; rfl
  rw[hk,aR] at e2
  cases hq:ks[j]? with
  | none=>rw[hq] at e2; cases e2
  | some i=>
   rw[hq] at e2
   cases e2
   rcases jA0 (show keyIs (Sum.inl i) v=true from hv) with ⟨i',t,q1,q2⟩ | ⟨x,t,q1,q2⟩
   ·cases q1
    exact⟨i,t,rfl,q2⟩
   ·cases q1
 refine ae (ev ?_ (by lia))
 have hL:(h1.push (seqObj "list" acc.toList.toArray 0)).get? h1.objs.size=some (seqObj "list" acc.toList.toArray 0):=aA _ rfl
 show wpAny _ _ _ _ _ { s with heap:=h1.push (seqObj "list" acc.toList.toArray 0),toks:=tk}
 refine ae (bS (wpAny_call_entry_kw gh ⟨_,hL,rfl⟩ fj (TM.sort_rev_any hL hI (by lia) fun out ns' a1 a2 a3=>⟨_,rfl,?_⟩) (args_list_sort_rev _ _)))
 obtain⟨e,he⟩:=sortedHeap_at (out:=out) hL
 have kept:∀ b u,s.heap.get? b=some u->(sortedHeap (h1.push (seqObj "list" acc.toList.toArray 0)) h1.objs.size acc.toList out).get? b=some u:=fun b u q=>by
  have q1:=hk1 b u q
  have hb:b<h1.objs.size:=aE q1
  rw[sortedHeap_old (aQ hb) (by rw[gH]; exact cC hb)]
  exact ag _ q1
 generalize sortedHeap (h1.push (seqObj "list" acc.toList.toArray 0)) h1.objs.size acc.toList out=hf at he kept ⊢
 exact ak ⟨_,rfl,h hf tk h1.objs.size out.toList ns' e (cY hlt1) kept (by rw[cS]; exact he) a1 a2 a3⟩
end
def jP4 (X:Cx)(f:Value)(ks:List Str)(r:List V->List V->Hp->VK->Prop):Prop:=
 ∀ (ad:List (Addr×Obj)) (s:Shared) (σ:St) (H:Hp) (xs zs:List V) (us ws:List Value) (Q:VK),Inv X ad σ H s->Vals xs us->Vals zs ws->r xs zs H Q->
  wpAny (model X.prog X.w) X.A (call f us (ks.zip ws)) (EP X ad σ Q) X.xe s
def tCBK (r:List V->List V->Hp->VK->Prop)(t tk:TA):TE:=fun σ H Q=>t σ H fun vs H1=>tk σ H1 fun zs H2=>r vs zs H2 Q
structure JK (X:Cx)(kws:List Keyword)(t:TA):Prop where
 h:PK X kws t
variable {X:Cx}
section
variable {x:Str}{p pos kpos:Pos}{e:Expr}{es:List Expr}{kws:List Keyword}{t tk:TA}{te:TE}{nm:Option Str}{ks:List Str}{id:String}{r:List V->List V->Hp->VK->Prop}
theorem jRM:JK X [] tNil:=⟨jUQ⟩
theorem jNS (ha:JE X e te)(hr:JK X kws t):JK X (⟨nm,e,kpos⟩::kws) (tCons te t):=⟨jSH ha.h hr.h⟩
theorem jHL (hc:jP4 X (.builtin id) ks r)(hg:Gl1 X x)(hm:X.mg x=none)(hv:bootBuiltins x=some (.builtin id))(ha:JA X (e::es) t)(hkw:JK X kws tk)(he:starEach (e::es) X.env=(false,eval e X.env)::starEach es X.env)
  (hn:x≠ "__name__" :=by decide) (hdb:(x==("__debug__" :Str))=false:=by decide) (hall:(backToKw pos (keywordEach kws X.env)).all (·.1.isSome)=true:=by rfl) (hks:(backToKw pos (keywordEach kws X.env)).filterMap (·.1)=ks:=by rfl)
  (hpl:(backTo pos (starEach es X.env)).any (·.1)=false:=by rfl) (hkn:(backToKw pos (keywordEach kws X.env)).any (·.1.isNone)=false:=by rfl):JE X (.Call (.Name x p) (e::es) kws pos) (tCBK r t tk):=by
 refine⟨fun ad s σ H Q I h=>?_⟩
 refine cL (jEJ I hg.a hm hv ?_ hn hdb)
 refine callWith_kw (ly (ha.h pos ad s σ H _ I h) fun us s1 ⟨vs,H1,I1,r1,q1⟩=>ly (hkw.h pos ad s1 σ H1 _ I1 q1) fun ws s2 ⟨zs,H2,I2,rz,q2⟩=>?_) (by rw[he]; rfl) (by rw[he]; exact hpl) hall hkn
 rw[hks]
 exact hc ad s2 σ H2 vs zs us ws Q I2 r1 rz q2
theorem jGO (hc:X.calm=true):jP4 X (.builtin "sorted") [Str.ofString "reverse"] (fun xs zs H Q=>∃ (p:Addr) (kvs:List (Key×V)) (ks:List Int) (b:Bool),xs=[.ref p]/\zs=[.bl b]/\H p=some (.dK kvs)/\kvs.map (·.1)=ks.map Sum.inl/\ks.length<=sizeLine/\
  ∀ (l:Addr) (ns:List Int),H l=none->Ordered b ns->ns.Perm ks->Q (.ref l) (upd H l (.lst (ns.map V.int)))):=by
 intro ad s σ H xs zs us ws Q I r rz h
 obtain⟨p,kvs,ks,b,rfl,rfl,hp,hk,hn,q⟩:=h
 obtain⟨u,rfl,rx⟩:=r.one
 obtain⟨v,rfl,ry⟩:=rz.one
 cases rx
 cases ry
 obtain⟨z,lo,vs,rel,dd⟩:=dk_of I.hok hp
 refine jH1 (I.ok.hd hc) lo dd (by rw[<- rel.keys]; exact hk) hn fun hf tk l vs ns e hl kp he hi pm srt=>?_
 have hz:(ns.map V.int).length<=sizeLine:=by rw[af,pm.length_eq]; exact hn
 have I2:Inv X ad σ (upd H l (.lst (ns.map V.int))) { s with heap:=hf,toks:=tk} :=I.laid (t':=tk) kp hl ⟨hz,vs,e,jAC hi,he⟩
 exact⟨.ref l,_,I2,rfl,q l ns (I.hok.fresh hl) srt pm⟩
end
theorem jNY {o:Expr}{to:TE}{name:Str}{apos cpos:Pos}{T id:String}{r:V->List V->Hp->VK->Prop}(pa:PlainAttrs T)(slot:Slot T name id)(hty:typeOf (.builtin id)=pure (.type "method_descriptor"))(hm:MtR X id r)(ho:JE X o to)
  (hbase:attributeBase o name X.env (eval o X.env)=eval o X.env:=by rfl) (hline:(apos.endLine==cpos.line)=true:=by rfl):JE X (.Call (.Attribute o name apos) [] [] cpos) (tBM0 X.K T r to):=⟨jUY pa slot hty hm ho.h hbase hline⟩
def rBits:V->List V->Hp->VK->Prop:=fun x vs H Q=>∃ i,x= .int i/\vs=[]/\Q (.int (Builtin.Int.intBits i)) H
theorem jN8:MtR X "int.bit_length" rBits:=by
 intro ad s σ H x vs v us Q I rx rv h
 obtain⟨i,rfl,rfl,q⟩:=h
 obtain⟨t,rfl⟩:=rx
 have hus:=rv.zero
 subst hus
 exact call_int_bit_length ⟨.int _,H,I.tok _,⟨_,rfl⟩,q⟩
theorem jNX {i o:Expr}{ty td:TE}{pos:Pos}(hu:X.A.units+1<cLine)(hi:JE X i ty)(ho:JE X o td)(h1:behindInMarks .NotIn o=false):JT X (.Compare i [.NotIn] [o] pos) (tB (jM0 ty td)):=⟨jR8 (jMK hu hi.h ho.h) h1⟩
def jUB (i:Int)(b:Bool):TE:=fun _ H Q=>∀ p H',H' p=some (.dK [(.inl i, .bl b)])->Ext H H'->H p=none->Q (.ref p) H'
theorem jQ8 {i:Int}{b:Bool}{k1 k2:Nat}{p1 p2 pos:Pos} :JE X (.Dict [some (.Constant (.int i) k1 p1)] [.Constant (.bool b) k2 p2] pos) (jUB i b):=
 ⟨fun ad s σ H Q I h=>jSO (jPE je_int.h je_bl.h jSE) rfl rfl (by intro z; cases z) (by show 1<=15; decide) ad s σ H Q I fun p hp=>⟨j5,[(.inl i, .bl b)],rfl,by show 1<=15; decide,h p _ j5 (((Ext.refl H).new hp _).updNew hp _) hp⟩⟩
theorem jQF {K:W.Frag}{tp:Bool}{l:Addr}{xs:List V}{g:TG}{tb:TS}{D:Ends}{σ:St}{H:Hp}(Pv:Nat->St->Hp->Prop)(h0:Pv 0 σ H)(hl:∀ i σ H,Pv i σ H->Sq tp K H l xs)
  (hs:∀ i x T σ H,xs[i]?=some x->H T=none->Pv i σ H->g (.ref T) σ (upd H T (.tup [.int (i:Int),x])) fun σ2 H2=>tb { D with nx:=Pv (i+1),ct:=Pv (i+1),bk:=D.nx} σ2 H2) (hd:∀ σ H,Pv xs.length σ H->D.nx σ H):
  ∃ W:Nat->Nat->St->Hp->Prop,(∃ m,W 0 m σ H)/\∀ i m σ H,W i m σ H->
   ((Ite tp K l).stop i H/\D.nx σ H)\/((Ite tp K l).go i H/\∃ N:St->Hp->Prop,(∀ σ' H',N σ' H'->∃ m',m'<m/\W (i+1) m' σ' H')/\∀ x H',(Ite tp K l).yld i H x H'->g x σ H' fun σ2 H2=>tb { D with nx:=N,ct:=N,bk:=D.nx} σ2 H2):=by
 refine⟨fun i m σ H=>m=xs.length - i/\i<=xs.length/\Pv i σ H,⟨_,rfl,bi _,h0⟩,?_⟩
 rintro i m σ H ⟨rfl,hi,p⟩
 have s1:=hl i σ H p
 by_cases hlt:i<xs.length
 ·refine .inr ⟨⟨xs,xs[i],s1,by simp [hlt]⟩,Pv (i+1),fun σ' H' p'=>⟨xs.length - (i+1),by lia,rfl,hlt,p'⟩,fun v H'' y=>?_⟩
  obtain⟨T,x,e1,e2,e3,e4⟩:=y
  subst e2 e3
  exact hs i x T σ _ (e4 xs s1) e1 p
 ·have e:i=xs.length:=by lia
  subst e
  exact .inl ⟨⟨xs,s1,am _⟩,hd σ H p⟩
def All2 {α β:Type}(R:α->β->Prop):List α->List β->Prop
 | [],[]=>True
 | a::as,b::bs=>R a b/\All2 R as bs
 | _,_=>False
section
variable {α β:Type}{R S:α->β->Prop}
theorem All2.len:∀ {as:List α}{bs:List β},All2 R as bs->as.length=bs.length
 | [],[],_=>rfl
 | _::_,_::_,h=>bZ (· +1) (All2.len h.2)
theorem All2.imp (f:∀ a b,R a b->S a b):∀ {as:List α}{bs:List β},All2 R as bs->All2 S as bs
 | [],[],_=>trivial
 | _::_,_::_,h=>⟨f _ _ h.1,All2.imp f h.2⟩
theorem All2.snoc {a:α}{b:β} :∀ {as:List α}{bs:List β},All2 R as bs->R a b->All2 R (as++[a]) (bs++[b])
 | [],[],_,h=>⟨h,trivial⟩
 | _::_,_::_,h,k=>⟨h.1,All2.snoc h.2 k⟩
theorem All2.get:∀ {as:List α}{bs:List β}{i:Nat}{b:β},All2 R as bs->bs[i]?=some b->∃ a,as[i]?=some a/\R a b
 | [],[],i,b,_,h=>by simp at h
 | a::_,_::_,0,b,h,e=>by
  simp at e
  subst e
  exact⟨a,rfl,h.1⟩
 | _::_,_::_,i+1,b,h,e=>by
  obtain⟨a,h1,h2⟩:=All2.get h.2 (i:=i) (b:=b) (by simpa using e)
  exact⟨a,by simpa using h1,h2⟩
theorem All2.get':∀ {as:List α}{bs:List β}{i:Nat}{a:α},All2 R as bs->as[i]?=some a->∃ b,bs[i]?=some b/\R a b
 | [],[],i,b,_,h=>by simp at h
 | a::_,b::_,0,x,h,e=>by
  simp at e
  subst e
  exact⟨b,rfl,h.1⟩
 | _::_,_::_,i+1,x,h,e=>by
  obtain⟨b,h1,h2⟩:=All2.get' h.2 (i:=i) (a:=x) (by simpa using e)
  exact⟨b,by simpa using h1,h2⟩
theorem All2.append:∀ {as as':List α}{bs bs':List β},All2 R as bs->All2 R as' bs'->All2 R (as++as') (bs++bs')
 | [],_,[],_,_,h=>h
 | _::_,_,_::_,_,h,k=>⟨h.1,All2.append h.2 k⟩
theorem All2.of_get {as:List α}{bs:List β}(hl:as.length=bs.length)(h:∀ (i:Nat) a b,as[i]?=some a->bs[i]?=some b->R a b):All2 R as bs:=by
 induction as generalizing bs with
 | nil=>cases bs with
  | nil=>trivial
  | cons b bs=>cases hl
 | cons a as ih=>cases bs with
  | nil=>cases hl
  | cons b bs=>exact⟨h 0 a b rfl rfl,ih (by simpa using hl) fun i a b h1 h2=>h (i+1) a b (by simpa using h1) (by simpa using h2)⟩
end
def lowN (m:Nat):Nat:=if m % 2=1 then lowN (m / 2)+1 else 0
theorem jEH {m:Nat}(h:m % 2=0):lowN m=0:=by
 unfold lowN
 rw[ao (by lia)]
theorem jGD {m:Nat}(h:m % 2=1):lowN m=lowN (m / 2)+1:=by
 rw[lowN,ar h]
theorem jU3 (a b:Nat):a&&&b=2*((a / 2)&&&(b / 2))+(a % 2)*(b % 2):=by
 have h1:(a&&&b) / 2=(a / 2)&&&(b / 2):=Nat.and_div_two
 have h2:(a&&&b) % 2=(a % 2)*(b % 2):=by
  have t:=dU a b 0
  rw[eW,eW,eW] at t
  have t':((a&&&b) % 2=1)↔(a % 2=1/\b % 2=1):=by
   rw[<- gR.trans (and_congr bA bA),<- t,bA]
  rcases de a with ha | ha <;> rcases de b with hb | hb <;> rw[ha,hb] at t' ⊢ <;> lia
 lia
theorem jTG (m:Nat):(m+1) - ((m+1)&&&m)=2 ^ lowN m:=by
 induction m using strongRecOn with
 | _ m ih=>
  rw[jU3]
  rcases de m with h | h
  ·rw[jEH h,show (m+1) / 2=m / 2 by lia,Nat.and_self,h]
   lia
  ·have:=ih (m / 2) (by lia)
   rw[jGD h,Nat.pow_succ,show (m+1) / 2=m / 2+1 by lia,show (m+1) % 2=0 by lia]
   lia
theorem jQ0 (m:Nat):Builtin.Int.intBits (Builtin.bitAnd (Builtin.bitNot (m:Int)) ((m:Int)+1))=lowN m+1:=by
 have e:Builtin.bitAnd (Builtin.bitNot (m:Int)) ((m:Int)+1)=((2 ^ lowN m:Nat):Int):=by
  unfold Builtin.bitAnd
  have h1:¬ (0<=Builtin.bitNot (m:Int)):=by unfold Builtin.bitNot; lia
  have h2:(0:Int)<=(m:Int)+1:=by lia
  have h3:(Builtin.bitNot (Builtin.bitNot (m:Int))).toNat=m:=by unfold Builtin.bitNot; lia
  rw[aP h1,az h2]
  show ((m:Int)+1) - ((((m:Int)+1).toNat&&&(Builtin.bitNot (Builtin.bitNot (m:Int))).toNat:Nat):Int)=_
  rw[h3,show ((m:Int)+1).toNat=m+1 by lia,<- jTG m]
  have:(m+1)&&&m<=m+1:=Nat.and_le_left
  lia
 rw[e]
 unfold Builtin.Int.intBits
 have hp:0<2 ^ lowN m:=dJ _
 have h0:((((2 ^ lowN m:Nat):Int))==0)=false:=by
  rw[bO]
  lia
 rw[h0]
 simp [Nat.log2_two_pow]
theorem jEF (m:Nat):m.testBit (lowN m)=false:=by
 induction m using strongRecOn with
 | _ m ih=>
  rcases de m with h | h
  ·rw[jEH h,eW,h]
   rfl
  ·rw[jGD h,Nat.testBit_succ]
   exact ih _ (by lia)
theorem jGC (m:Nat):∀ j,j<lowN m->m.testBit j=true:=by
 induction m using strongRecOn with
 | _ m ih=>
  intro j hj
  rcases de m with h | h
  ·rw[jEH h] at hj
   lia
  ·rw[jGD h] at hj
   cases j with
   | zero=>rw[eW,h]; rfl
   | succ j=>
    rw[Nat.testBit_succ]
    exact ih _ (by lia) j (by lia)
theorem jRG {m t:Nat}(h1:m.testBit t=false)(h2:∀ j,j<t->m.testBit j=true):lowN m=t:=by
 rcases iB (lowN m) t with h | h | h
 ·have:=h2 _ h
  rw[jEF] at this
  cases this
 ·exact h
 ·have:=jGC m t h
  rw[h1] at this
  cases this
theorem jO8 {m w:Nat}(h:m<2 ^ w)(a:∀ j,j<w->m.testBit j=true):m=2 ^ w - 1:=by
 apply d9
 intro i
 rw[cX]
 by_cases hi:i<w
 ·rw[a i hi,az hi]
 ·rw[aP hi]
  exact gw (aO h (bQ (by decide) (by lia)))
theorem jEG {m w:Nat}(h:m<2 ^ w)(hn:m≠2 ^ w - 1):lowN m<w:=by
 refine ce fun z=>hn (jO8 h fun j hj=>jGC m j (by lia))
abbrev Ch:=List (List (Int×Nat))
def fullN (ch:Ch):Nat:=2 ^ ch.length - 1
def chAt (ch:Ch)(m:Nat):List (Int×Nat):=(ch.getD (lowN m) []).filter fun c=>c.2&&&m==0
structure ChOk (ch:Ch):Prop where
 w:ch.length<=16
 len:∀ (t:Nat) (cs:List (Int×Nat)),ch[t]?=some cs->cs.length<=33
 it:∀ (t:Nat) (cs:List (Int×Nat)),ch[t]?=some cs->∀ c∈cs,c.2.testBit t=true/\c.2<2 ^ ch.length/\ -1<=c.1/\c.1<32
theorem ChOk.mem {ch:Ch}{m:Nat}{c:Int×Nat}(o:ChOk ch)(h:m<2 ^ ch.length)(hn:m≠fullN ch)(hc:c∈chAt ch m):c.2.testBit (lowN m)=true/\c.2<2 ^ ch.length/\c.2&&&m=0/\ -1<=c.1/\c.1<32:=by
 obtain⟨h1,h2⟩:=ba.mp hc
 have hl:=jEG h hn
 rw[aC,ay hl] at h1
 obtain⟨a,b,c1,c2⟩:=o.it _ _ (ay hl) c h1
 exact⟨a,b,by simpa using h2,c1,c2⟩
theorem ChOk.up {ch:Ch}{m:Nat}{c:Int×Nat}(o:ChOk ch)(h:m<2 ^ ch.length)(hn:m≠fullN ch)(hc:c∈chAt ch m):m<m|||c.2/\m|||c.2<2 ^ ch.length:=by
 obtain⟨a,b,z,_⟩:=o.mem h hn hc
 refine⟨?_,iI h b⟩
 refine Nat.lt_of_le_of_ne Nat.left_le_or fun e=>?_
 have t:m.testBit (lowN m)=(m|||c.2).testBit (lowN m):=bZ (fun z=>z.testBit (lowN m)) e
 rw[ci,a,gj,jEF] at t
 cases t
def gvN {α:Type}(ch:Ch)(e:α)(J:List (Int×α)->α):Nat->Nat->α
 | 0,_=>e
 | n+1,m=>if m=fullN ch then e else J ((chAt ch m).map fun c=>(c.1,gvN ch e J n (m|||c.2)))
def gv {α:Type}(ch:Ch)(e:α)(J:List (Int×α)->α)(m:Nat):α:=gvN ch e J (fullN ch - m) m
theorem jTO {α:Type}{ch:Ch}{e:α}{J:List (Int×α)->α}(o:ChOk ch):∀ (k n m:Nat),fullN ch - m<=k->fullN ch - m<=n->m<2 ^ ch.length->gvN ch e J n m=gvN ch e J k m:=by
 intro k
 induction k with
 | zero=>
  intro n m h1 h2 h3
  have:m=fullN ch:=by
   unfold fullN at h1 ⊢
   lia
  subst this
  cases n with
  | zero=>rfl
  | succ n=>show gvN ch e J (n+1) (fullN ch)=e; rw[gvN,ar rfl]
 | succ k ih=>
  intro n m h1 h2 h3
  by_cases hm:m=fullN ch
  ·subst hm
   cases n with
   | zero=>show e=gvN ch e J (k+1) (fullN ch); rw[gvN,ar rfl]
   | succ n=>
    have q:∀ i,gvN ch e J (i+1) (fullN ch)=e:=fun i=>by rw[gvN,ar rfl]
    rw[q,q]
  ·have hlt:m<fullN ch:=by
    unfold fullN at hm ⊢
    lia
   cases n with
   | zero=>lia
   | succ n=>
    rw[gvN,ao hm,gvN,ao hm]
    congr 1
    refine cH fun c hc=>?_
    obtain⟨u1,u2⟩:=o.up h3 hm hc
    rw[ih n (m|||c.2) (by lia) (by lia) u2]
theorem jTN {α:Type}{ch:Ch}{e:α}{J:List (Int×α)->α} :gv ch e J (fullN ch)=e:=by
 unfold gv
 rw[gu,gvN]
theorem jTM {α:Type}{ch:Ch}{e:α}{J:List (Int×α)->α}{m:Nat}(o:ChOk ch)(h:m<2 ^ ch.length)(hn:m≠fullN ch):gv ch e J m=J ((chAt ch m).map fun c=>(c.1,gv ch e J (m|||c.2))):=by
 have hlt:m<fullN ch:=by
  unfold fullN at hn ⊢
  lia
 have:gv ch e J m=gvN ch e J ((fullN ch - m - 1)+1) m:=by
  unfold gv
  rw[show fullN ch - m - 1+1=fullN ch - m by lia]
 rw[this,gvN,ao hn]
 congr 1
 refine cH fun c hc=>?_
 obtain⟨u1,u2⟩:=o.up h hn hc
 unfold gv
 rw[jTO o (fullN ch - (m|||c.2)) _ _ (am _) (by lia) u2]
end L2
namespace L2
open PySem
variable {X:Cx}
section
variable {tg iter elt:Expr}{ifs:List Expr}{sc:Scope}{pos:Pos}{wi:TI}{g:TG}{tt:TT}{te:TE}{m:List (Option Nat)}{Nc:List Str}
end
end L2
namespace L2
open PySem PySem.Spec PyProof.Rows
def ZC (cl:List (Str×Addr))(fs:List Str)(fv:List V):Shared->Hp->Prop:=fun s H=>ClOk cl s H/\FvOk fs fv cl s
theorem ZC.st (cl:List (Str×Addr))(fs:List Str)(fv:List V):ZSt (ZC cl fs fv):=by
 rintro fr s s' H H' u ⟨C,F1,F2⟩
 have kc:∀ {x c v},cl.lookup x=some c->s.heap.IsCell c v->s'.heap.IsCell c v:=fun {x c v} hc ⟨o,ho,hd⟩=>by
  obtain⟨sl,e⟩:=u.any ho (C.cell x c hc).2 (by simp)
  exact⟨_,e,hd⟩
 refine⟨⟨C.inj,fun x c hc=>?_⟩,F1,fun i x v h1 h2=>?_⟩
 ·obtain⟨⟨v,o,ho,hd⟩,n⟩:=C.cell x c hc
  exact⟨⟨v,kc hc ⟨o,ho,hd⟩⟩,u.free c o ho n (by simp)⟩
 ·obtain⟨c,w,a1,a2,a3⟩:=F2 i x v h1 h2
  exact⟨c,w,a1,a2,kc a1 a3⟩
def jUD {ι:Type}(G:ι->St->Prop)(sp:ι->Sp)(t:TA):TE:=fun σ H Q=>t σ H fun vs H1=>∃ i,G i σ/\sp i vs H1 Q E0
theorem jKF {ι:Type}{X:Cx}{Z:ι->Shared->Hp->Prop}{G:ι->St->Prop}{k:Nat}{f:Addr}{fd:FuncData}{ps:List Str}{sp:ι->Sp}{x:Str}{p pos:Pos}{e:Expr}{es:List Expr}{t:TA}(F:∀ i,FnZ X.prog X.w X.K X.mg X.lv CX0 (Z i) k f fd ps (sp i))(hr:Room k X.A)(hg:Gl1 X x)(hm:X.mg x=some (.ref f))(hk:keepIn X.K (.ref f)=true)(hb:Binds X.K fd ps [])
  (hZ:∀ i ad s σ H,Inv X ad σ H s->G i σ->Z i s H) (ha:JA X (e::es) t) (he:starEach (e::es) X.env=(false,eval e X.env)::starEach es X.env) (hdb:(x==("__debug__" :Str))=false:=by decide) (hpl:(backTo pos (starEach es X.env)).any (·.1)=false:=by rfl):
  JE X (.Call (.Name x p) (e::es) [] pos) (jUD G sp t):=by
 refine⟨fun ad s σ H Q I h=>?_⟩
 refine cL (jIV I hg.a hm ?_ hdb)
 refine ku (h₀:=X.lv) I.ok.mod.kin hk (ly (ha.h pos ad s σ H _ I h) fun us s1 ⟨vs,H1,I1,r,i,gi,q⟩=>⟨I1.kIn,?_⟩) he hpl
 have hl:(us++[]).length=ps.length:=by rw[aZ,<- r.length]; exact(F i).len _ _ _ _ q
 have b:=hb s1 us I1.kIn hl
 rw[aZ] at b
 refine io (dN ((F i).run X.A X.stack s1 H1 ⟨us,[]⟩ us vs Q E0 hr I1.env0 b r (hZ i _ _ _ _ I1 gi) q) fun r s' hq=>?_)
 cases r with
 | error e=>exact hq.elim
 | ok fl=>
  cases fl with
  | ret u=>exact I1.after hq
  | next=>exact False.elim hq
  | brk=>exact False.elim hq
  | cont=>exact False.elim hq
end L2
namespace TM
open PySem PySem.Spec PyProof.Rows PySem.W
open HT (lexLt lexLt_cons)
open L2 (All2)
theorem lex_irr:∀ x:List Int,lexLt x x=false
 | []=>rfl
 | a::x=>by rw[lexLt_cons,ar rfl]; exact lex_irr x
theorem lex_tr:∀ {x y z:List Int},lexLt x y=true->lexLt y z=true->lexLt x z=true
 | [],[],_,h,_=>by cases h
 | [],_::_,[],_,h=>by cases h
 | [],_::_,_::_,_,_=>rfl
 | _::_,[],_,h,_=>by cases h
 | _::_,_::_,[],_,h=>by cases h
 | a::x,b::y,c::z,h,k=>by
  rw[lexLt_cons] at h k ⊢
  by_cases e1:a=b
  ·rw[ar e1] at h
   by_cases e2:b=c
   ·rw[ar e2] at k
    rw[ar (e1.trans e2)]
    exact lex_tr h k
   ·rw[ao e2] at k
    rw[ao (e1 ▸ e2),e1]
    exact k
  ·rw[ao e1] at h
   have h:=aG h
   by_cases e2:b=c
   ·rw[ao (e2 ▸ e1),<- e2]
    exact az h
   ·rw[ao e2] at k
    have k:=aG k
    rw[ao (by lia)]
    exact az (by lia)
theorem lex_tot:∀ {x y:List Int},lexLt x y=false->lexLt y x=false->x=y
 | [],[],_,_=>rfl
 | [],_::_,h,_=>by cases h
 | _::_,[],_,h=>by cases h
 | a::x,b::y,h,k=>by
  rw[lexLt_cons] at h k
  by_cases e:a=b
  ·rw[ar e] at h
   rw[ar e.symm] at k
   rw[e,lex_tot h k]
  ·rw[ao e] at h
   rw[ao (fun z=>e z.symm)] at k
   have:=fQ h
   have:=fQ k
   lia
def rk (ws:List (List Int))(x:List Int):Int:=((ws.countP fun z=>lexLt z x:Nat):Int)
theorem jGM {p q:List Int->Bool}(h:∀ z,p z=true->q z=true):∀ ws:List (List Int),ws.countP p<=ws.countP q
 | []=>am _
 | a::ws=>by
  have:=jGM h ws
  rw[dr,dr]
  have:=h a
  cases hp:p a <;> cases hq:q a <;> simp_all <;> lia
theorem jKM {p q:List Int->Bool}(h:∀ z,p z=true->q z=true){x:List Int}(hp:p x=false)(hq:q x=true):∀ {ws:List (List Int)},x∈ws->ws.countP p<ws.countP q
 | a::ws,hx=>by
  rw[dr,dr]
  rcases aF.mp hx with e | hx
  ·have:=jGM h ws
   rw[<- e,hp,hq]
   simp
   lia
  ·have:=jKM h hp hq hx
   have:=h a
   cases hpa:p a <;> cases hqa:q a <;> simp_all <;> lia
theorem rk_lt {ws:List (List Int)}{x y:List Int}(hx:x∈ws):decide (rk ws x<rk ws y)=lexLt x y:=by
 unfold rk
 cases h:lexLt x y with
 | true=>
  have:=jKM (p:=fun z=>lexLt z x) (q:=fun z=>lexLt z y) (fun z hz=>lex_tr hz h) (lex_irr x) h hx
  exact az (by lia)
 | false=>
  refine aP ?_
  by_cases k:lexLt y x=true
  ·have:=jGM (p:=fun z=>lexLt z y) (q:=fun z=>lexLt z x) (fun z hz=>lex_tr hz k) ws
   lia
  ·have:=lex_tot h (bY.mpr k)
   rw[this]
   lia
variable {prog:Program}{w:World}{A:Around}{E:Value->Shared->Prop}{s:Shared}
section
variable {kd:SortKind}{f:Value->List Int}
theorem pairs_mem {vs:List Value}{p:Keyed}(h:p∈(pairsOf vs).toList):p.1=p.2/\p.1∈vs:=by
 rw[pairsOf_toList] at h
 exact mem_zip_self h
end
def TupI (h:Heap)(v:Value)(l:List Int):Prop:=∃ a n its,v= .ref a/\h.get? a=some { cls:= .type "tuple",data:= .seq its n} /\IntsAre its.toList l
def decV (h:Heap):Value->List Int
 | .ref a=>match h.get? a with
  | some o=>match o.data with
   | .seq xs _=>xs.toList.map numOf
   | _=> []
  | none=> []
 | _=> []
theorem TupI.dec {h:Heap}{v:Value}{l:List Int}(t:TupI h v l):decV h v=l:=by
 obtain⟨a,n,its,rfl,ho,hi⟩:=t
 dsimp only [decV]
 rw[ho]
 exact hi.nums
theorem jSY {b:Bool}{x y:Int}{t u:Tok}{Q:Bool->Shared->Prop}(h:Q (decide (x<y)) s):wpAny (model prog w) A (oneLt' b (.int x t) (.int y u)) Q E s:=by
 cases b with
 | true=>exact oneLt_int h
 | false=>exact kat_one _ _ (HT.rcLt_int A s x t y u prog w E _ h)
theorem sorted_gen [Od]{l:Addr}{vs:List Value}{Q:Value->Shared->Prop}(hl:s.heap.IsList l vs.toArray)(hz:vs.length<=sizeLine)(hI:AllI (pairsOf vs).toList)
  (hk:2<=vs.length->∀ (h5:Heap) (a:Addr),(∀ c o,s.heap.get? c=some o->h5.get? c=some o)->s.heap.objs.size<=a->AskOk prog w A.in1.in1 { s with heap:=h5} a vs)
  (h:∀ xs:Array Keyed,xs.Perm (pairsOf vs)->STo xs (pairsOf vs).size->Q (.ref (s.heap.objs.size+1)) { s with heap:=sortedAll s.heap vs (xs.map (·.2))}):
  wpAny (model prog w) A (call (.builtin "sorted") [.ref l]) Q E s:=by
 refine eY iE g9 hG (args_sorted1 _) ?_
 unfold Builtin.«sorted»
 refine ae (m:=checkCount "sorted" 1 1 _) (ak ?_)
 refine ae (collect_list hl ?_ hz)
 refine ae (ev ?_ hz)
 have hsz:((s.heap.push (seqObj "list" #[] 0)).update s.heap.objs.size (Obj.mapSeq (· ++vs.toArray))).objs.size=s.heap.objs.size+1:=by
  rw[gI,gH]
 have hoL:(((s.heap.push (seqObj "list" #[] 0)).update s.heap.objs.size (Obj.mapSeq (· ++vs.toArray))).push (seqObj "list" vs.toArray 0)).get? (s.heap.objs.size+1)=some (seqObj "list" vs.toArray 0):=by
  rw[<- hsz]; exact aA _ rfl
 have k5:∀ c o,s.heap.get? c=some o->(((s.heap.push (seqObj "list" #[] 0)).update s.heap.objs.size (Obj.mapSeq (· ++vs.toArray))).push (seqObj "list" vs.toArray 0)).get? c=some o:=fun c o q=>by
  refine ag _ ?_
  rw[bv _ _ (cK (aE q))]
  exact ag _ q
 show wpAny _ _ _ _ _ { s with heap:=((s.heap.push (seqObj "list" #[] 0)).update s.heap.objs.size (Obj.mapSeq (· ++vs.toArray))).push (seqObj "list" vs.toArray 0)}
 rw[hsz]
 refine ae (bS (cB gh ⟨_,hoL,rfl⟩ fj (by
  rw[jMH]
  exact jJQ hoL hz hI (fun h2=>hk h2 _ _ k5 (dy _)) fun xs p1 p2=>⟨_,rfl,ak ⟨_,rfl,h xs p1 p2⟩⟩) (args_list_sort _)))
end TM
namespace L2
open PySem PySem.Spec PyProof.Rows
variable {X:Cx}
def refV:Value->V
 | .ref a=> .ref a
 | _=> .non
theorem jKA:∀ {x y:List (List Int)},x.Perm y->x.Pairwise (fun a b=>HT.lexLt b a=false)->y.Pairwise (fun a b=>HT.lexLt b a=false)->x=y
 | [],y,p,_,_=>(List.nil_perm.mp p).symm
 | a::x,[],p,_,_=>absurd (List.perm_nil.mp p) (by simp)
 | a::x,b::y,p,h,k=>by
  obtain⟨h1,h2⟩:=cM.mp h
  obtain⟨k1,k2⟩:=cM.mp k
  have e:a=b:=by
   refine TM.lex_tot ?_ ?_
   ·rcases aF.mp (p.mem_iff.mp (ai ..)) with z | z
    ·rw[z]; exact TM.lex_irr b
    ·exact k1 a z
   ·rcases aF.mp (p.mem_iff.mpr (ai ..)) with z | z
    ·rw[z]; exact TM.lex_irr a
    ·exact h1 b z
  subst e
  rw[jKA (List.perm_cons a |>.mp p) h2 k2]
structure KeyS where
 TK:Heap->Value->List Int->Prop
 KR:Hp->V->List Int->Prop
 kd:List (List Int)->SortKind
 dc:Heap->Value->List Int
structure KeyOk (S:KeyS):Prop where
 of:∀ {P:Program}{w:World}{H:Hp}{h:Heap}{v:V}{u:Value}{l:List Int},HOk P w H h->RelV v u->S.KR H v l->S.TK h u l
 mono:∀ {H H':Hp}{v:V}{l:List Int},TupsK H H'->S.KR H v l->S.KR H' v l
 dec:∀ {h:Heap}{u:Value}{l:List Int},S.TK h u l->S.dc h u=l
 kind:∀ {prog:Program}{w:World}{A:Around}{E:Value->Shared->Prop}{s:Shared}{vs:List Value}{ws:List (List Int)}{Q:SortKind->Shared->Prop},All2 (S.TK s.heap) vs ws->vs≠ []->Q (S.kd ws) s->wpAny (model prog w) A (keyKind' vs.toArray) Q E s
 lt:∀ {prog:Program}{w:World}{A:Around}{E:Value->Shared->Prop}{s:Shared}{ws:List (List Int)}{u v:Value}{x y:List Int}{Q:Bool->Shared->Prop},S.TK s.heap u x->S.TK s.heap v y->A.units+2<cLine->Q (HT.lexLt x y) s->wpAny (model prog w) A (keyLt' (S.kd ws) u v) Q E s
variable {S:KeyS}
section
variable {prog:Program}{w:World}{A:Around}{E:Value->Shared->Prop}{s:Shared}
abbrev odK (S:KeyS)(ws:List (List Int))(h:Heap)(ks:List Value):TM.Od:=⟨S.kd ws,fun p=>TM.rk (ks.map (S.dc h)) (S.dc h p.1),fun p=>p.1∈ks⟩
theorem ltK (ok:KeyOk S){ks:List Value}{ws:List (List Int)}(t:All2 (S.TK s.heap) ks ws)(room:A.units+2<cLine): @TM.LtOk prog w A s (odK S ws s.heap ks):= @TM.LtOk.mk prog w A s (odK S ws s.heap ks) fun {E st x y Q} hk hx hy h=>by
 have e:decide (@TM.key (odK S ws s.heap ks) x< @TM.key (odK S ws s.heap ks) y)=HT.lexLt (S.dc s.heap x.1) (S.dc s.heap y.1):=TM.rk_lt (cn hx)
 rw[e] at h
 rw[lt'_eq]
 refine aI (gq ?_)
 rw[show kindOf st=S.kd ws from hk]
 obtain⟨i,hi⟩:=bB hx
 obtain⟨j,hj⟩:=bB hy
 obtain⟨l1,_,t1⟩:=t.get' hi
 obtain⟨l2,_,t2⟩:=t.get' hj
 rw[ok.dec t1,ok.dec t2] at h
 exact aI (gQ (eh (ok.lt t1 t2 room ⟨rfl,aN h⟩)))
theorem jNK (ok:KeyOk S){D kS:Addr}{its ks:List Value}{ws:List (List Int)}{e1 e:Nat}{P:PySem.Fin->Shared->Prop}(hl:ks.length=its.length)(hz:its.length<=sizeLine)(t:All2 (S.TK s.heap) ks ws)(room:A.units+2<cLine)
  (hD:s.heap.get? D=some (seqObj "list" #[] e1)) (hK:s.heap.get? kS=some (seqObj "list" ks.toArray e)) (ne:D≠kS)
  (h:∀ ps:List (Value×Value),ps.Perm (ks.zip its)->ps.Pairwise (fun p q=>HT.lexLt (S.dc s.heap q.1) (S.dc s.heap p.1)=false)->
   P (.done (.ret .none)) { s with heap:=(s.heap.update kS (Obj.mapSeq fun _=>#[])).update D (Obj.mapSeq fun _=>(ps.map Prod.snd).toArray)}):
  wpAny (model prog w) A (ksk_end D false its.toArray e1 (.ref kS) ks.toArray) P E s:=by
 have hpz:(ks.toArray.zip its.toArray).toList=ks.zip its:=by simp
 have hpn:(ks.toArray.zip its.toArray).size=its.length:=by rw[<- aL,hpz,jm]; lia
 have hD2:(s.heap.update kS (Obj.mapSeq fun _=>(#[]:Array Value))).get? D=some (seqObj "list" #[] e1):=(bv _ _ (dW ne)).trans hD
 have tail:∀ st:SortSt,failedOf st=none->(arrOf st).Perm (ks.toArray.zip its.toArray)->(arrOf st).toList.Pairwise (fun p q=>HT.lexLt (S.dc s.heap q.1) (S.dc s.heap p.1)=false)->wpAny (model prog w) A (ksk_tail D false e1 (.ref kS) st) P E s:=fun st hf hp hs=>by
  unfold ksk_tail
  dsimp only
  refine ae (eE hK rfl ?_ (by rw[ax]; lia) (bi _))
  refine ae (wpAny_letGo ?_)
  refine ae (iG hD2 rfl ?_)
  refine ae (eE hD2 rfl ?_ (bi _) ?_)
  ·rw[hf]
   simp only [iH,fS,jr]
   refine ak ?_
   have:=h (arrOf st).toList (by rw[<- hpz]; exact cq.mp hp) hs
   have e:∀ xs:Array Keyed,(xs.toList.map Prod.snd).toArray=xs.map (·.2):=fun xs=>by rw[<- iX,cS]
   rw[e] at this
   exact this
  ·simp only [fS,jr]
   rw[size_map,hp.size_eq,hpn]
   lia
 unfold ksk_end
 dsimp only
 simp only [fS,jr]
 by_cases few:its.toArray.size<2
 ·rw[ar few,ar few]
  refine ae (ak ?_)
  rw[StateT.run_pure]
  refine ae (ak ?_)
  dsimp only
  refine tail (SortSt.mk' general' _ #[] 7 none) rfl (jl _) ?_
  show (ks.toArray.zip its.toArray).toList.Pairwise _
  rw[hpz]
  rw[ax] at few
  have:(ks.zip its).length<=1:=by rw[jm]; lia
  match hq:ks.zip its,this with
  | [],_=>exact .nil
  | [_],_=>exact iY _ _
 ·rw[ao few,ao few]
  rw[ax] at few
  have nek:ks≠ []:=fun z=>by rw[z] at hl; simp at hl; lia
  have allk: @TM.AllI (odK S ws s.heap ks) (ks.toArray.zip its.toArray).toList:=fun p hp=>by
   rw[hpz] at hp
   exact(dI hp).1
  letI iO:TM.Od:=odK S ws s.heap ks
  haveI iL:TM.LtOk prog w A s:=ltK ok t room
  refine ae (ok.kind t nek (ae (b7 (TM.wpS_sortRunsAny (a₀:=ks.toArray.zip its.toArray) (st:=SortSt.mk' (S.kd ws) _ #[] 7 none)
   (Q:=fun _ st'=>(arrOf st').Perm (ks.toArray.zip its.toArray)/\failedOf st'=none/\TM.STo (arrOf st') (ks.toArray.zip its.toArray).size)
   allk ⟨jl _,rfl,rfl,rfl⟩ (by rw[hpn]; lia) fun st' a1 a2 a3=>⟨a1,a2,a3⟩) ?_ fun _ _ e=>e)))
  rintro ⟨⟨⟩,st'⟩ s' ⟨rfl,p1,p2,p3⟩
  dsimp only at p1 p2 p3 ⊢
  refine tail st' p2 p1 ?_
  have pl:=cq.mp p1
  rw[b9]
  intro i j hi hj hij
  rw[aL] at hi hj
  have sz:=p1.size_eq
  have k:=p3 i j (cY hij) (by lia)
  have ei:(arrOf st')[i]?=some (arrOf st')[i]:=h9 _ i hi
  have ej:(arrOf st')[j]?=some (arrOf st')[j]:=h9 _ j hj
  have m2:(arrOf st')[j].1∈ks:=allk _ (pl.mem_iff.mp (by simp))
  rw[@TM.KI_key (odK S ws s'.heap ks) _ _ _ ei,@TM.KI_key (odK S ws s'.heap ks) _ _ _ ej] at k
  have e:decide (@TM.key (odK S ws s'.heap ks) (arrOf st')[j]< @TM.key (odK S ws s'.heap ks) (arrOf st')[i])=HT.lexLt (S.dc s'.heap (arrOf st')[j].1) (S.dc s'.heap (arrOf st')[i].1):=TM.rk_lt (cn m2)
  rw[eg,eg,<- e]
  exact aP (Int.not_lt.mpr k)
end
theorem Un.out {fs:List Addr}{H H':Hp}{h h1 h2:Heap}(u:Un fs [] H H' h h1)(k:∀ b,b<h.objs.size->h2.get? b=h1.get? b):Un fs [] H H' h h2 where
 keep b o e n f x:=(k b (aE e)).trans (u.keep b o e n f x)
 slot b o e n f x:=by obtain⟨sl,q⟩:=u.slot b o e n f x; exact⟨sl,(k b (aE e)).trans q⟩
 free:=u.free
 there b o e x:=by obtain⟨o',q⟩:=u.there b o e x; exact⟨o',(k b (aE e)).trans q⟩
 tups:=u.tups
 frzs:=u.frzs
 tbls:=u.tbls
theorem Un.track {P:Program}{w:World}{fs:List Addr}{H H':Hp}{h h1:Heap}{D:Addr}{o:HO}(ok:HOk P w H h)(u:Un fs [] H H' h h1)(hD:h.objs.size<=D):Un fs [] H (upd H' D o) h h1 where
 keep:=u.keep
 slot:=u.slot
 free b ob e n x:=by rw[j8 (aQ (aO (aE e) hD))]; exact u.free b ob e n x
 there:=u.there
 tups b xs e:=by rw[j8 (aQ (aO (ok.lt e) hD))]; exact u.tups b xs e
 frzs b ob q e:=by rw[j8 (aQ (aO (ok.lt e) hD))]; exact u.frzs b ob q e
 tbls b ps e:=by rw[j8 (aQ (aO (ok.lt e) hD))]; exact u.tbls b ps e
theorem HOk.adopt {P:Program}{w:World}{H:Hp}{h:Heap}{D:Addr}{o:HO}(ok:HOk P w H h)(hn:H D=none)(new:ObjOk P w (upd H D o) h D o):HOk P w (upd H D o) h:=fun b u e=>by
 by_cases hb:b=D
 ·subst hb; rw[j5] at e; cases e; exact new
 ·rw[j8 hb] at e
  exact(ok b u e).stay (fun c v _ q=>q) (fun c q=>by rw[j8 (jA q hn)]; exact q) fun c xs q=>by rw[j8 (jA q hn)]; exact q
theorem Inv.repin {ad:List (Addr×Obj)}{σ:St}{H:Hp}{s:Shared}{D kS:Addr}{oD oK oK':Obj}{f:Obj->Obj}(I:Inv X (ad++[(D,oD),(kS,oK)]) σ H s)(fk:FpOk X ad H kS)(ne:D≠kS)(e:(s.heap.update kS f).get? kS=some oK')(hc:∀ v,oK'.data≠ .cell v):
  Inv X (ad++[(D,oD),(kS,oK')]) σ H { s with heap:=s.heap.update kS f} :=by
 obtain⟨f0,f1,f2,f3,f4,f5⟩:=fk
 have I1:Inv X (ad++[(D,oD)]) σ H s:=I.pins_of fun p hp=>I.pin p (aB _ (by
  rcases aM.mp hp with z | z
  ·exact aX _ z
  ·exact aB _ (by rw[aK] at z; rw[z]; exact ai ..)))
 have I2:Inv X (ad++[(D,oD)]) σ H { s with heap:=s.heap.update kS f,toks:=s.toks} :=I1.turned (it:=kS) (fun b o hb q=>(bv _ _ (dW hb)).trans q) f0 f1 f3 f4 fun p hp=>by
  rcases aM.mp hp with z | z
  ·exact f5 p (aX _ z)
  ·rcases aM.mp z with z | z
   ·exact f5 p (aB _ z)
   ·rw[aK] at z
    rw[z]
    exact ne
 refine I2.pins_of fun p hp=>?_
 rcases aM.mp hp with z | z
 ·exact I2.pin p (aB _ (aX _ z))
 ·rcases aF.mp z with z | z
  ·exact I2.pin p (aB _ (aB _ (by rw[z]; exact ai ..)))
  ·rw[aK] at z
   rw[z]
   exact⟨e,f0,f1,f2,hc⟩
theorem jKB (ok:KeyOk S){k:Nat}{q:Addr}{zh:Hp->Prop}{sp:Sp}(F:Callee X.prog X.w X.K X.mg X.lv ZT zh k q sp)(zo:∀ H H',Ext H H'->zh H->zh H')(hr:Room k X.A.in1.in1){ad:List (Addr×Obj)}{σ:St}{H:Hp}{s:Shared}{D kS:Addr}{oD:Obj}{us:List V}{KF:V->List Int}{E:Value->Shared->Prop}
  (hkey:∀ v∈us,∀ (H1:Hp) (Q1:VK),Ext H H1->(∀ r H2,S.KR H2 r (KF v)->Ext H1 H2->Q1 r H2)->sp [v] H1 Q1 E0) (fk:FpOk X ad H kS) (ne:D≠kS) (hkS:s.heap.objs.size<=kS)
  {body:Value->PUnit->Sem (ForInStep PUnit)}(hb:∀ x (sj:Shared) (C:ForInStep PUnit->Shared->Prop),wpAny (model X.prog X.w) X.A.in1.in1 (call (.ref q) [x]) (fun kv s''=>∃ ks e,s''.heap.get? kS=some (seqObj "list" ks e)/\ks.size<sizeLine/\C (.yield ⟨⟩) { s'' with heap:=s''.heap.update kS (Obj.mapSeq (·.push kv))}) (fun _ _=>False) sj->wpAny (model X.prog X.w) X.A.in1.in1 (body x ⟨⟩) C E sj):
  ∀ (r:List Value) (rv:List V) (ks:List Value) (kvs dn:List V) (e:Nat) (sj:Shared) (Hj:Hp),Vals rv r->(∀ v∈rv,v∈us)->ks.length+r.length<=sizeLine->
   Inv X (ad++[(D,oD),(kS,seqObj "list" ks.toArray e)]) σ Hj sj->Un (frs X.stack) [] H Hj s.heap sj.heap->Ext H Hj->zh Hj->Vals kvs ks->All2 (fun kv v=>S.KR Hj kv (KF v)) kvs dn->
   wpAny (model X.prog X.w) X.A.in1.in1 (forIn r PUnit.unit body) (fun _ s'=>∃ ks' kvs' e' H',Inv X (ad++[(D,oD),(kS,seqObj "list" ks'.toArray e')]) σ H' s'/\Un (frs X.stack) [] H H' s.heap s'.heap/\Ext H H'/\Vals kvs' ks'/\All2 (fun kv v=>S.KR H' kv (KF v)) kvs' (dn++rv)) E sj
 | [],rv,ks,kvs,dn,e,sj,Hj,hv,hm,hz,I,u,ex,z,hk,al=>by
  rw[List.forIn_nil]
  cases hv
  exact ak ⟨ks,kvs,e,Hj,I,u,ex,hk,by rw[aZ]; exact al⟩
 | x::r,rv,ks,kvs,dn,e,sj,Hj,hv,hm,hz,I,u,ex,z,hk,al=>by
  cases hv with
  | @cons v _ rv' _ rx rs=>
  rw[aU] at hz
  rw[jf]
  refine ae (hb x sj _ ?_)
  have sp1:=hkey v (hm v (ai ..)) Hj (fun r H2=>S.KR H2 r (KF v)/\Ext Hj H2) ex fun r H2 h1 h2=>⟨h1,h2⟩
  refine io (dN (F.run X.A.in1.in1 X.stack sj Hj [x] [v] _ E0 hr I.env0.in1.in1 trivial z (.cons rx .nil) sp1) fun fr s' hq=>?_)
  cases fr with
  | error e=>exact hq.elim
  | ok fl=>
   cases fl with
   | ret kv=>
    obtain⟨v',H2,os,bare,un,hok,rel,kr,e2⟩:=hq
    have I2:=Inv.call' I os un hok bare fun b z=>absurd z (by simp)
    obtain⟨gk,nk,_,_,_⟩:=I2.pin (kS,seqObj "list" ks.toArray e) (aB _ (aB _ (ah _ (ai ..))))
    have ea:ks.toArray.push kv=(ks++[kv]).toArray:=by simp
    obtain⟨c2,hc2⟩:∃ c2,(s'.heap.update kS (Obj.mapSeq (·.push kv))).get? kS=some (seqObj "list" (ks++[kv]).toArray c2):=⟨_,by rw[<- ea]; exact fm gk (·.push kv)⟩
    have I3:=I2.repin (oK':=seqObj "list" (ks++[kv]).toArray c2) ⟨nk,fk.2⟩ ne hc2 (by intro v q; cases q)
    refine⟨_,e,gk,by rw[ax]; lia,?_⟩
    show wpAny (model X.prog X.w) X.A.in1.in1 (forIn r PUnit.unit body) _ E _
    have u3:=(u.trans un).out (h2:=s'.heap.update kS (Obj.mapSeq (·.push kv))) fun b hb=>bv _ _ (cK (aO hb hkS))
    have:=jKB ok F zo hr hkey fk ne hkS hb r rv' (ks++[kv]) (kvs++[v']) (dn++[v]) c2 _ H2 rs (fun w hw=>hm w (ah _ hw)) (by rw[aH,gA]; lia) I3 u3 (ex.trans e2) (zo _ _ e2 z) (hk.append (.cons rel .nil)) (All2.snoc (All2.imp (fun a b q=>ok.mono (fun c xs h=>e2 c _ h) q) al) kr)
    rw[aY] at this
    exact this
   | next=>exact False.elim hq
   | brk=>exact False.elim hq
   | cont=>exact False.elim hq
theorem jRI (ok:KeyOk S){P:Program}{w:World}{H:Hp}{h:Heap}(hk:HOk P w H h){KF:V->List Int} :∀ {kvs:List V}{ks:List Value}{us:List V},Vals kvs ks->All2 (fun kv v=>S.KR H kv (KF v)) kvs us->All2 (S.TK h) ks (us.map KF)
 | [],_,[], .nil,_=>trivial
 | _::_,_,_::_, .cons r rs,⟨t,ts⟩=>⟨ok.of hk r t,jRI ok hk rs ts⟩
theorem jH6:∀ {us:List V}{its:List Value},Vals us its->(∀ v∈us,∃ a,v=V.ref a)->its.map refV=us
 | [],_, .nil,_=>rfl
 | v::us,_, .cons r rs,h=>by
  obtain⟨a,e⟩:=h v (ai ..)
  subst e
  cases r
  rw[br,jH6 rs fun w hw=>h w (ah _ hw)]
  rfl
theorem jE5:∀ {its:List Value},(∀ u∈its,∃ a,u=Value.ref a)->Vals (its.map refV) its
 | [],_=> .nil
 | u::its,h=>by
  obtain⟨a,e⟩:=h u (ai ..)
  subst e
  exact .cons rfl (jE5 fun w hw=>h w (ah _ hw))
theorem jGT:∀ {us:List V}{its:List Value},Vals us its->(∀ v∈us,∃ a,v=V.ref a)->∀ u∈its,∃ a,u=Value.ref a
 | [],_, .nil,_,u,hu=>by cases hu
 | v::us,_, .cons r rs,h,u,hu=>by
  obtain⟨a,e⟩:=h v (ai ..)
  subst e
  cases r
  rcases aF.mp hu with z | z
  ·exact⟨a,z⟩
  ·exact jGT rs (fun w hw=>h w (ah _ hw)) u z
theorem jLM {ks its:List Value}{f:Value->List Int}{g:Value->List Int} :∀ {ks its:List Value}{us:List V}{KF:V->List Int},ks.map f=us.map KF->its.map refV=us->∀ p∈ks.zip its,f p.1=KF (refV p.2)
 | [],_,_,_,_,_,p,hp=>by cases hp
 | _::_,[],_,_,_,_,p,hp=>by cases hp
 | k::ks,u::its,us,KF,e1,e2,p,hp=>by
  subst e2
  rw[br,br,br] at e1
  injection e1 with q1 q2
  rw[eL] at hp
  rcases aF.mp hp with z | z
  ·rw[z]; exact q1
  ·exact jLM (ks:=ks) (its:=its) (f:=f) (g:=g) q2 rfl p z
theorem jLV (ok:KeyOk S){h:Heap} :∀ {ks:List Value}{ws:List (List Int)},All2 (S.TK h) ks ws->ks.map (S.dc h)=ws
 | [],[],_=>rfl
 | _::_,_::_,⟨t,r⟩=>by rw[br,ok.dec t,jLV ok r]
theorem jHY (ok:KeyOk S){k:Nat}{sp:Sp}{zh:Addr->Addr->Hp->Prop}(F:∀ q c,Callee X.prog X.w X.K X.mg X.lv ZT (zh q c) k q sp)(zo:∀ q c H H',Ext H H'->zh q c H->zh q c H')(hr:Room (k+2) X.A):
  jP4 X (.builtin "sorted") [Str.ofString "key"] (fun xs zs H Q=>∃ (p:Addr) (us:List V) (q c:Addr) (KF:V->List Int),xs=[.ref p]/\zs=[.ref q]/\SqL X.K H p us/\zh q c H/\(∀ v∈us,∃ a,v=V.ref a)/\
   (∀ v∈us,∀ (H1:Hp) (Q1:VK),Ext H H1->(∀ r H2,S.KR H2 r (KF v)->Ext H1 H2->Q1 r H2)->sp [v] H1 Q1 E0)/\
   ∀ (l:Addr) (us':List V) (H':Hp),H l=none->us'.Perm us->us'.Pairwise (fun u v=>HT.lexLt (KF v) (KF u)=false)->Ext H H'->H' l=some (.lst us')->Q (.ref l) H'):=by
 intro ad s σ H xs zs us0 ws0 Q I r1 r2 h
 obtain⟨p,us,q,c,KF,rfl,rfl,hp,hz,hrf,hkey,fin⟩:=h
 obtain⟨u,rfl,rx⟩:=r1.one
 cases rx
 obtain⟨u2,rfl,ry⟩:=r2.one
 cases ry
 obtain⟨its,rv,pl,hlen⟩:=I.list hp
 have rl:=rv.length
 show wpAny (model X.prog X.w) X.A (call (.builtin "sorted") [.ref p] [(Str.ofString "key", .ref q)]) (EP X ad σ Q) X.xe s
 refine call_function_entry_kw iE g9 hG (ksk_s1 _ _) ?_
 unfold Builtin.«sorted»
 refine ae (m:=checkCount "sorted" 1 1 _) (ak ?_)
 refine ae (collect_list pl.isList ?_ (by lia))
 refine ae (ev ?_ (by lia))
 have hsz:((s.heap.push (seqObj "list" #[] 0)).update s.heap.objs.size (Obj.mapSeq (· ++its.toArray))).objs.size=s.heap.objs.size+1:=by
  rw[gI,gH]
 have hoL:(((s.heap.push (seqObj "list" #[] 0)).update s.heap.objs.size (Obj.mapSeq (· ++its.toArray))).push (seqObj "list" its.toArray 0)).get? (s.heap.objs.size+1)=some (seqObj "list" its.toArray 0):=by
  rw[<- hsz]; exact aA _ rfl
 have k5:∀ b o,s.heap.get? b=some o->(((s.heap.push (seqObj "list" #[] 0)).update s.heap.objs.size (Obj.mapSeq (· ++its.toArray))).push (seqObj "list" its.toArray 0)).get? b=some o:=fun b o q=>by
  refine ag _ ?_
  rw[bv _ _ (cK (aE q))]
  exact ag _ q
 have z5:(((s.heap.push (seqObj "list" #[] 0)).update s.heap.objs.size (Obj.mapSeq (· ++its.toArray))).push (seqObj "list" its.toArray 0)).objs.size=s.heap.objs.size+2:=by rw[gH,hsz]
 show wpAny _ _ _ _ _ { s with heap:=((s.heap.push (seqObj "list" #[] 0)).update s.heap.objs.size (Obj.mapSeq (· ++its.toArray))).push (seqObj "list" its.toArray 0)}
 rw[hsz]
 generalize ((s.heap.push (seqObj "list" #[] 0)).update s.heap.objs.size (Obj.mapSeq (· ++its.toArray))).push (seqObj "list" its.toArray 0)=h5 at hoL k5 z5
 have hD:s.heap.objs.size<=s.heap.objs.size+1:=dy _
 have hDk:s.heap.objs.size+1≠h5.objs.size+1:=by lia
 have hkS:s.heap.objs.size<=h5.objs.size+1:=by lia
 generalize s.heap.objs.size+1=D at hoL hD hDk
 refine ae (bS (wpAny_call_entry_kw gh ⟨_,hoL,rfl⟩ fj ?body (ksk_l1 _ _)))
 case body=>
  show wpAny (model X.prog X.w) X.A.in1.in1 (Builtin.«list.sort» ⟨[.ref D],[(Str.ofString "key", .ref q)]⟩) _ _ _
  rw[ksk_t1]
  unfold ksk_tree
  refine ae (hV hoL rfl ?_)
  refine ae (eE hoL rfl ?_ (by rw[ax]; lia) (bi _))
  obtain⟨e1,ho1⟩:∃ e1,(h5.update D (Obj.mapSeq fun _=>(#[]:Array Value))).get? D=some (seqObj "list" #[] e1):=⟨_,fm hoL fun _=>#[]⟩
  refine ae (iG ho1 rfl ?_)
  refine ae (jw ?_ (by show its.length<=_; lia))
  refine ae (ev ?_ (bi _))
  refine bS ?_
  have hkz:((h5.update D (Obj.mapSeq fun _=>(#[]:Array Value))).push (seqObj "tuple" its.toArray 0)).objs.size=h5.objs.size+1:=by rw[gH,gI]
  have hoK:(((h5.update D (Obj.mapSeq fun _=>(#[]:Array Value))).push (seqObj "tuple" its.toArray 0)).push (seqObj "list" #[] 0)).get? (h5.objs.size+1)=some (seqObj "list" #[] 0):=by
   rw[<- hkz]; exact aA _ rfl
  have hoD:(((h5.update D (Obj.mapSeq fun _=>(#[]:Array Value))).push (seqObj "tuple" its.toArray 0)).push (seqObj "list" #[] 0)).get? D=some (seqObj "list" #[] e1):=ag _ (ag _ ho1)
  have k6:∀ b o,s.heap.get? b=some o->(((h5.update D (Obj.mapSeq fun _=>(#[]:Array Value))).push (seqObj "tuple" its.toArray 0)).push (seqObj "list" #[] 0)).get? b=some o:=fun b o z=>by
   refine ag _ (ag _ ?_)
   rw[bv _ _ (cK (aO (aE z) hD))]
   exact k5 b o z
  show wpAny _ _ (ksk_rest D (.ref q) false its.toArray e1 (.ref ((h5.update D (Obj.mapSeq fun _=>(#[]:Array Value))).push (seqObj "tuple" its.toArray 0)).objs.size)) _ _ { s with heap:=((h5.update D (Obj.mapSeq fun _=>(#[]:Array Value))).push (seqObj "tuple" its.toArray 0)).push (seqObj "list" #[] 0)}
  rw[hkz]
  generalize ((h5.update D (Obj.mapSeq fun _=>(#[]:Array Value))).push (seqObj "tuple" its.toArray 0)).push (seqObj "list" #[] 0)=h6 at hoK hoD k6
  generalize h5.objs.size+1=kS at hoK hkS hDk
  have fD:FpOk X ad H D:=I.fpOk hD (I.hok.fresh hD)
  have fK:FpOk X ad H kS:=I.fpOk hkS (I.hok.fresh hkS)
  have I6:Inv X ad σ H { s with heap:=h6,toks:=s.toks} :=I.kept k6
  have I7:Inv X (ad++[(D,seqObj "list" #[] e1),(kS,seqObj "list" ([]:List Value).toArray 0)]) σ H { s with heap:=h6} :=I6.pins_of fun x hx=>by
   rcases aM.mp hx with z | z
   ·exact I6.pin x (aB _ z)
   ·rcases aF.mp z with z | z
    ·rw[z]; exact⟨hoD,fD.1,fD.2.1,fD.2.2.1,by intro v q; cases q⟩
    ·rw[aK] at z
     rw[z]; exact⟨hoK,fK.1,fK.2.1,fK.2.2.1,by intro v q; cases q⟩
  have u7:Un (frs X.stack) [] H H s.heap h6:=Un.kept k6
  unfold ksk_rest
  refine ae (dj ?_)
  rw[<- Array.forIn_toList]
  simp only [List.toList_toArray]
  refine ae (b7 (jKB ok (F q c) (zo q c) hr.in1.in1 hkey fK hDk hkS (fun x sj C hx=>?_) its us [] [] [] 0 { s with heap:=h6} H rv (fun v hv=>hv) (by rw[cy]; lia) I7 u7 (Ext.refl _) hz .nil trivial) (fun _ s' hd=>?_) fun _ _ x=>x)
  ·refine ae (eh (b7 hx (fun kv s'' hk=>?_) fun _ _ hF=>hF.elim))
   obtain⟨ks,e,gk,sz,hc⟩:=hk
   dsimp only
   refine ae (eE gk rfl ?_ (cY sz) (bf (Nat.le_of_eq (Array.size_push ..)) (by lia)))
   exact ak hc
  ·obtain⟨ks,kvs,e,HN,IN,uN,eN,vk,al⟩:=hd
   rw[List.nil_append] at al
   obtain⟨gD,nD,_,_,_⟩:=IN.pin (D,seqObj "list" #[] e1) (aB _ (aB _ (ai ..)))
   obtain⟨gK,nK,_,_,_⟩:=IN.pin (kS,seqObj "list" ks.toArray e) (aB _ (aB _ (ah _ (ai ..))))
   refine ae (hV gK rfl ?_)
   have tk:=jRI ok IN.hok vk al
   have kl:ks.length=its.length:=by rw[<- vk.length,al.len]; exact rl
   have un:=hr.un
   refine jNK ok kl (by lia) tk (by rw[dq,dq]; lia) gD gK hDk fun ps pm pw=>⟨_,rfl,ak ⟨_,rfl,?_⟩⟩
   have bk:=jH6 rv hrf
   have dk:∀ x∈ks.zip its,S.dc s'.heap x.1=KF (refV x.2):=jLM (g:=fun _=> []) (ks:=[]) (its:=[]) (jLV ok tk) bk
   have pi:(ps.map Prod.snd).Perm its:=by
    have:=pm.map Prod.snd
    rw[List.map_snd_zip (by lia)] at this
    exact this
   have rf:∀ u∈ps.map Prod.snd,∃ a,u=Value.ref a:=fun u hu=>jGT rv hrf u (pi.mem_iff.mp hu)
   have p1:((ps.map Prod.snd).map refV).Perm us:=by rw[<- bk]; exact pi.map _
   have p2:((ps.map Prod.snd).map refV).Pairwise fun u v=>HT.lexLt (KF v) (KF u)=false:=by
    rw[bM,bM]
    exact(List.Pairwise.and_mem.mp pw).imp fun {a b} h=>by
     rw[<- dk a (pm.mem_iff.mp h.1),<- dk b (pm.mem_iff.mp h.2.1)]
     exact h.2.2
   obtain⟨e9,he9⟩:∃ e9,((s'.heap.update kS (Obj.mapSeq fun _=>(#[]:Array Value))).update D (Obj.mapSeq fun _=>(ps.map Prod.snd).toArray)).get? D=some (seqObj "list" (ps.map Prod.snd).toArray e9):=⟨_,fm ((bv _ _ (dW hDk)).trans gD) fun _=>(ps.map Prod.snd).toArray⟩
   have oth:∀ b,b≠D->b≠kS->((s'.heap.update kS (Obj.mapSeq fun _=>(#[]:Array Value))).update D (Obj.mapSeq fun _=>(ps.map Prod.snd).toArray)).get? b=s'.heap.get? b:=fun b n1 n2=>(bv _ _ (dW n1)).trans (bv _ _ (dW n2))
   generalize (s'.heap.update kS (Obj.mapSeq fun _=>(#[]:Array Value))).update D (Obj.mapSeq fun _=>(ps.map Prod.snd).toArray)=hf at he9 oth
   have nt:∀ b o,HN b=some o->b≠D/\b≠kS:=fun b o z=>⟨fun y=>(by rw[y,nD] at z; cases z),fun y=>(by rw[y,nK] at z; cases z)⟩
   have ok1:HOk X.prog X.w HN hf:=fun b o z=>(IN.hok b o z).stay (fun c v hc y=>by
    have:c≠D/\c≠kS:=by
     rcases hc with e | e
     ·rw[e]; exact nt b o z
     ·exact nt c _ e
    rw[oth c this.1 this.2]
    exact y) (fun _ y=>y) fun _ _ y=>y
   have pz:((ps.map Prod.snd).map refV).length<=sizeLine:=by rw[af,pi.length_eq]; lia
   have ok2:HOk X.prog X.w (upd HN D (.lst ((ps.map Prod.snd).map refV))) hf:=ok1.adopt nD ⟨pz,ps.map Prod.snd,e9,jE5 rf,he9⟩
   have u9:Un (frs X.stack) [] H (upd HN D (.lst ((ps.map Prod.snd).map refV))) s.heap hf:=(uN.out fun b hb=>oth b (aQ (aO hb hD)) (aQ (aO hb hkS))).track I.hok hD
   have I9:Inv X ad σ (upd HN D (.lst ((ps.map Prod.snd).map refV))) { s' with heap:=hf} :=Inv.call' I (IN.os.trans I.os.symm) u9 ok2 IN.bare fun b z=>absurd z (by simp)
   exact⟨.ref D,_,I9,rfl,fin D _ _ (I.hok.fresh hD) p1 p2 (fun b o z=>by rw[j8 (aQ (aO (I.hok.lt z) hD))]; exact eN b o z) j5⟩
end L2
namespace TM
open PySem PySem.Spec PyProof.Rows PySem.W
open L2 (All2)
def TupP (h:Heap)(v:Value)(l:List Int):Prop:=∃ a m n t c lot,v= .ref a/\h.get? a=some { cls:= .type "tuple",data:= .seq #[.int n t, .ref c] m} /\TupI h (.ref c) lot/\l=n::lot
def decP (h:Heap):Value->List Int
 | .ref a=>match h.get? a with
  | some o=>match o.data with
   | .seq xs _=>match xs.toList with
    | [k,c]=>numOf k::decV h c
    | _=> []
   | _=> []
  | none=> []
 | _=> []
theorem TupP.dec {h:Heap}{v:Value}{l:List Int}(t:TupP h v l):decP h v=l:=by
 obtain⟨a,m,n,t,c,lot,rfl,ho,hc,rfl⟩:=t
 dsimp only [decP]
 rw[ho]
 show n::decV h (.ref c)=_
 rw[hc.dec]
section
variable {prog:Program}{w:World}{A:Around}{E:Value->Shared->Prop}{s:Shared}
theorem eqTup {u v:Value}{x y:List Int}(hu:TupI s.heap u x)(hv:TupI s.heap v y)(room:A.units+1<cLine):SeqAt.EqAt A s u v (decide (x=y)):=by
 obtain⟨a,n,its,rfl,ho,hi⟩:=hu
 obtain⟨b,m,its2,rfl,ho2,hi2⟩:=hv
 by_cases e:a=b
 ·subst e
  rw[ho] at ho2
  cases ho2
  have:x=y:=hi.nums.symm.trans hi2.nums
  rw[az this]
  exact SeqAt.EqAt.same _
 ·refine SeqAt.EqAt.of_refs e ?_
  have key:=SeqAt.RcAt.tuples (A:=A) (s:=s) (l:=a) (b:=b) (items:=its) (items2:=its2) (e:=fun j=>decide (x.getD j 0=y.getD j 0)) ⟨_,ho,rfl,n,rfl⟩ ⟨_,ho2,rfl,m,rfl⟩ (by lia) fun j h1 h2=>by
   have at1:∀ {vs:List Value}{ns:List Int},IntsAre vs ns->∀ (j:Nat) (h:j<vs.length),∃ t,vs[j]=Value.int (ns.getD j 0) t:=by
    intro vs ns h
    induction h with
    | nil=>intro j h; cases h
    | cons n t _ ih=>
     intro j h
     cases j with
     | zero=>exact⟨t,rfl⟩
     | succ j=>exact ih j (Nat.lt_of_succ_lt_succ h)
   obtain⟨t1,e1⟩:=at1 hi j (by rw[aL]; exact h1)
   obtain⟨t2,e2⟩:=at1 hi2 j (by rw[aL]; exact h2)
   rw[eg] at e1 e2
   rw[e1,e2]
   exact fz _ t1 _ t2
  have l1:its.size=x.length:=by rw[<- hi.nums,af,aL]
  have l2:its2.size=y.length:=by rw[<- hi2.nums,af,aL]
  have ee:((List.range (min its.size its2.size)).all (fun j=>decide (x.getD j 0=y.getD j 0))&&its.size==its2.size)=decide (x=y):=by
   rw[bV,bI,bA,bJ,gJ,l1,l2]
   constructor
   ·rintro ⟨h1,h2⟩
    refine List.ext_getElem h2 fun j q1 q2=>?_
    have:=aG (h1 j (bG.mpr (by lia)))
    rw[aC,aC,ay q1,ay q2] at this
    exact this
   ·intro z
    subst z
    exact⟨fun j _=>az rfl,rfl⟩
  rw[ee] at key
  exact key
theorem jE9:∀ {vs:List Value}{ws:List (List Int)},All2 (TupP s.heap) vs ws->∃ fs:List Value,KatTups s.heap vs fs/\fs.length=vs.length/\∀ v∈fs,∃ n t,v=Value.int n t
 | [],[],_=>⟨[],trivial,rfl,fun v h=>by cases h⟩
 | v::vs,l::ws,⟨⟨a,m,n,t,c,lot,e,ho,hc,_⟩,r⟩=>by
  obtain⟨fs,h1,h2,h3⟩:=jE9 r
  refine⟨.int n t::fs,⟨⟨a,_,_,m,e,ho,rfl,rfl,rfl⟩,h1⟩,bZ (· +1) h2,fun v hv=>?_⟩
  rcases aF.mp hv with z | z
  ·exact⟨n,t,z⟩
  ·exact h3 v z
theorem pair_kind {vs:List Value}{ws:List (List Int)}{Q:SortKind->Shared->Prop}(t:All2 (TupP s.heap) vs ws)(h2:vs≠ [])(h:Q (tuples' true) s):wpAny (model prog w) A (keyKind' vs.toArray) Q E s:=by
 obtain⟨fs,f1,f2,f3⟩:=jE9 t
 refine kat_kind (T:= .type "int") f1 (by rw[f2]; exact List.length_pos_iff.mpr h2) (fun v hv=>?_) rfl h
 obtain⟨n,t',e⟩:=f3 v hv
 rw[e]
 exact .now
theorem pair_lt {u v:Value}{x y:List Int}{Q:Bool->Shared->Prop}(hu:TupP s.heap u x)(hv:TupP s.heap v y)(room:A.units+2<cLine)(h:Q (HT.lexLt x y) s):wpAny (model prog w) A (keyLt' (tuples' true) u v) Q E s:=by
 obtain⟨a,m,n,t,c,lot,rfl,ho,hc,rfl⟩:=hu
 obtain⟨a2,m2,n2,t2,c2,lot2,rfl,ho2,hc2,rfl⟩:=hv
 refine kat_lt ho rfl ho2 rfl ?_
 show KatLex prog w A true false Q [(.int n t, .int n2 t2),(.ref c, .ref c2)] 0 s
 rw[HT.lexLt_cons] at h
 refine kat_cons (fz n t n2 t2 prog w _ _ ?_)
 by_cases e:n=n2
 ·rw[ar e] at h
  rw[show (n==n2)=true by simp [e]]
  refine kat_yes (kat_cons (eqTup hc hc2 (by lia) prog w _ _ ?_))
  by_cases e2:lot=lot2
  ·rw[e2,lex_irr] at h
   rw[az e2]
   exact kat_yes (kat_nil h)
  ·rw[aP e2]
   refine kat_no ?_
   obtain⟨b1,k1,its1,q1,o1,i1⟩:=hc
   obtain⟨b2,k2,its2,q2,o2,i2⟩:=hc2
   cases q1
   cases q2
   exact kat_one _ _ (HT.lt_tupInts (items:=its1) (items2:=its2) ⟨_,o1,rfl,k1,rfl⟩ ⟨_,o2,rfl,k2,rfl⟩ i1 i2 (by lia) h)
 ·rw[ao e] at h
  rw[show (n==n2)=false by simp [e]]
  exact kat_no (jSY h)
end
end TM
namespace L2
open PySem PySem.Spec PyProof.Rows
def PairR (H:Hp)(v:V)(l:List Int):Prop:=∃ t a n lot,v= .ref t/\H t=some (.tup [.int n, .ref a])/\H a=some (.tup (lot.map V.int))/\l=n::lot
theorem PairR.at {P:Program}{w:World}{H:Hp}{h:Heap}{v:V}{u:Value}{l:List Int}(ok:HOk P w H h)(r:RelV v u)(k:PairR H v l):TM.TupP h u l:=by
 obtain⟨t,a,n,lot,rfl,ht,ha,rfl⟩:=k
 cases r
 obtain⟨_,its,r2,m,ho⟩:=(show ObjOk P w H h t (.tup _) from ok t _ ht)
 obtain⟨_,its2,r3,m2,ho2⟩:=(show ObjOk P w H h a (.tup _) from ok a _ ha)
 cases r2 with
 | cons q1 q2=>
  cases q2 with
  | cons q3 q4=>
   cases q4
   obtain⟨tk,rfl⟩:=q1
   cases q3
   exact⟨t,m,n,tk,a,lot,rfl,ho,⟨a,m2,its2.toArray,rfl,ho2,jLF r3⟩,rfl⟩
def keyP:KeyS:=⟨TM.TupP,PairR,fun _=>tuples' true,TM.decP⟩
theorem keyP_ok:KeyOk keyP where
 of:=PairR.at
 mono:=fun t k=>let ⟨q,a,n,lot,e,h1,h2,h3⟩:=k; ⟨q,a,n,lot,e,t _ _ h1,t _ _ h2,h3⟩
 dec:=TM.TupP.dec
 kind:=TM.pair_kind
 lt:=TM.pair_lt
section
variable {X:Cx}{S:KeyS}
theorem s_tk (ok:KeyOk S){P:Program}{w:World}{H:Hp}{h:Heap}(hk:HOk P w H h):∀ {us:List V}{its:List Value}{ws:List (List Int)},Vals us its->All2 (S.KR H) us ws->All2 (S.TK h) its ws
 | [],_,[], .nil,_=>trivial
 | _::_,_,_::_, .cons r rs,⟨t,ts⟩=>⟨ok.of hk r t,s_tk ok hk rs ts⟩
theorem s_out {H:Hp}{h:Heap} :∀ {us:List V}{its:List Value}{ws:List (List Int)},Vals us its->All2 (S.KR H) us ws->All2 (S.TK h) its ws->(ok:KeyOk S)->(∀ v∈us,∃ a,v=V.ref a)->∀ u∈its,∃ a,u= .ref a/\S.KR H (.ref a) (S.dc h u)
 | [],_,[], .nil,_,_,_,_,u,hu=>by cases hu
 | v::us,_,w::ws, .cons r rs,⟨t,ts⟩,⟨d,ds⟩,ok,hr,u,hu=>by
  rcases aF.mp hu with z | z
  ·obtain⟨a,rfl⟩:=hr v (ai ..)
   cases r
   rw[z,ok.dec d]
   exact⟨a,rfl,t⟩
  ·exact s_out rs ts ds ok (fun v hv=>hr v (ah _ hv)) u z
theorem jHW (ok:KeyOk S)(hu:X.A.units+101<cLine):yV X (.builtin "sorted") (fun xs H Q=>∃ (p:Addr) (us:List V) (ws:List (List Int)),xs=[.ref p]/\SqL X.K H p us/\All2 (S.KR H) us ws/\(∀ v∈us,∃ a,v=V.ref a)/\
  ∀ (l:Addr) (us':List V) (ws':List (List Int)),H l=none->All2 (S.KR H) us' ws'->ws'.Perm ws->ws'.Pairwise (fun x y=>HT.lexLt y x=false)->Q (.ref l) (upd H l (.lst us'))):=by
 intro ad s σ H xs us Q I r h
 obtain⟨p,us,ws,rfl,hp,ht,hrf,q⟩:=h
 obtain⟨u,rfl,rx⟩:=r.one
 cases rx
 obtain⟨its,r',pl,hz⟩:=I.list hp
 have hlen:=r'.length
 have d:=s_tk ok I.hok r' ht
 have hat:=s_out r' ht d ok hrf
 have dd:=jLV ok d
 refine @TM.sorted_gen _ _ _ _ _ (odK S ws s.heap its) _ _ _ pl.isList (by lia) (fun x hx=>(TM.pairs_mem hx).2) (fun h2 h5 a k5 ha=>fun h6 k6=>?_) fun out p1 p2=>?_
 ·have hok6:HOk X.prog X.w H h6:=I.hok.kept fun b o z=>k6 _ _ (k5 _ _ z) (aQ (aO (aE z) ha))
  have d6:=s_tk ok hok6 r' ht
  have ne:its≠ []:=fun z=>by rw[z] at h2; exact absurd h2 (by decide)
  refine⟨fun Q' E' h=>ok.kind (s:= { s with heap:=h6}) d6 ne h,@TM.LtOk.mk _ _ _ _ (odK S ws s.heap its) fun {E st x y Q} hk hx hy h=>?_⟩
  have e:decide (@TM.key (odK S ws s.heap its) x< @TM.key (odK S ws s.heap its) y)=HT.lexLt (S.dc s.heap x.1) (S.dc s.heap y.1):=TM.rk_lt (cn hx)
  rw[e] at h
  rw[lt'_eq]
  refine aI (gq ?_)
  rw[show kindOf st=S.kd ws from hk]
  obtain⟨i,hi⟩:=bB hx
  obtain⟨j,hj⟩:=bB hy
  obtain⟨l1,g1,t1⟩:=d.get' hi
  obtain⟨l2,g2,t2⟩:=d.get' hj
  obtain⟨m1,g3,t3⟩:=d6.get' hi
  obtain⟨m2,g4,t4⟩:=d6.get' hj
  rw[g1] at g3
  rw[g2] at g4
  cases g3
  cases g4
  rw[ok.dec t1,ok.dec t2] at h
  exact aI (gQ (eh (ok.lt (s:= { s with heap:=h6}) t3 t4 (by rw[dq,dq]; lia) ⟨rfl,aN h⟩)))
 ·have pl:=cq.mp p1
  have o1:(out.map (·.2)).toList.Perm its:=by
   rw[iX]
   have:=pl.map Prod.snd
   rw[pairsOf_toList,List.map_snd_zip (am _)] at this
   exact this
  have o2:(out.map (·.2)).toList.Pairwise fun u v=>HT.lexLt (S.dc s.heap v) (S.dc s.heap u)=false:=by
   have me:∀ q∈out.toList,q.1=q.2/\q.1∈its:=fun q hq=>TM.pairs_mem (pl.mem_iff.mp hq)
   have sz:=p1.size_eq
   rw[iX,bM,b9]
   intro i j hi hj hij
   rw[aL] at hi hj
   have k:=p2 i j (cY hij) (by lia)
   have ei:out[i]?=some out[i]:=h9 _ i hi
   have ej:out[j]?=some out[j]:=h9 _ j hj
   have m1:=me out[i] (by simp)
   have m2:=me out[j] (by simp)
   rw[@TM.KI_key (odK S ws s.heap its) _ _ _ ei,@TM.KI_key (odK S ws s.heap its) _ _ _ ej] at k
   have e:decide (@TM.key (odK S ws s.heap its) out[j]< @TM.key (odK S ws s.heap its) out[i])=HT.lexLt (S.dc s.heap out[j].1) (S.dc s.heap out[i].1):=TM.rk_lt (cn m2.2)
   rw[eg,eg,<- m1.1,<- m2.1,<- e]
   exact aP (by lia)
  have rf:∀ u∈(out.map (·.2)).toList,∃ a,u= .ref a/\S.KR H (.ref a) (S.dc s.heap u):=fun u hu=>hat u (o1.mem_iff.mp hu)
  obtain⟨e,he⟩:=sortedAll_at s.heap its (out.map (·.2))
  have hz2:((out.map (·.2)).toList.map refV).length<=sizeLine:=by
   rw[af,o1.length_eq]
   lia
  have v1:Vals ((out.map (·.2)).toList.map refV) (out.map (·.2)).toList:=jE5 fun u hu=>let ⟨a,e,_⟩:=rf u hu; ⟨a,e⟩
  have I2:Inv X ad σ (upd H (s.heap.objs.size+1) (.lst ((out.map (·.2)).toList.map refV))) { s with heap:=sortedAll s.heap its (out.map (·.2))} :=I.laid (t':=s.toks) (fun b o e=>sortedAll_old e) (dy _) ⟨hz2,(out.map (·.2)).toList,e,v1,by rw[cS]; exact he⟩
  have v2:All2 (S.KR H) ((out.map (·.2)).toList.map refV) ((out.map (·.2)).toList.map (S.dc s.heap)):=by
   generalize (out.map (·.2)).toList=l at rf
   induction l with
   | nil=>trivial
   | cons u l ih=>
    obtain⟨a,e,k⟩:=rf u (ai ..)
    refine⟨?_,ih fun w hw=>rf w (ah _ hw)⟩
    rw[e] at k ⊢
    exact k
  refine⟨.ref _,_,I2,rfl,q _ _ ((out.map (·.2)).toList.map (S.dc s.heap)) (I.hok.fresh (dy _)) v2 ?_ ?_⟩
  ·rw[<- dd]
   exact o1.map _
  ·exact bM.mpr o2
end
theorem jTC {M:Model}{A:Around}{E:Value->Shared->Prop}{s:Shared}{scope:Scope}{globals:Addr}{closure:List (Str×Addr)}{x:Str}{v:Value}{qual:Str}{func:Option Addr}{code:Value}{builtins:Addr}{Q:Env->Shared->Prop}
  (hk:scope.kind= .function) (hx:scope.names.lookup x=some .cell) (hcl:∀ y c,closure.lookup y=some c->∃ u,s.heap.IsCell c u)
  (hQ:∀ h',h'.Ns s.heap.objs.size (fun _=>none)->(∀ b o,s.heap.get? b=some o->h'.get? b=some o)->(∀ y c,(cellsFrom (s.heap.objs.size+1) scope.names closure).lookup y=some c->∃ u,h'.IsCell c u)->(∀ c,(cellsFrom (s.heap.objs.size+1) scope.names closure).lookup x=some c->h'.IsCell c (some v))->
   Q (newEnv scope s.heap.objs.size globals (cellsFrom (s.heap.objs.size+1) scope.names closure) qual func code none builtins) { s with heap:=h'}):
  wpAny M A (newFunctionEnv scope globals closure [(x,v)] qual func code none builtins) Q E s:=by
 simp only [newFunctionEnv,Option.isSome_none,fS,jr]
 refine ae (wpAny_alloc ?_)
 refine ae (wpAny_layCells _ (fun name kind cells=>by cases hkc:kind==NameKind.cell <;> simp [hkc]) _ _ _ _ ?_)
 rw[show ({ s with heap:=s.heap.push { cls:= .type "frame",data:= .dict #[]}} :Shared).heap.objs.size=s.heap.objs.size+1 from da ..]
 have old:∀ b o,s.heap.get? b=some o->(pushCells (s.heap.push { cls:= .type "frame",data:= .dict #[]}) scope.names).get? b=some o:=fun b o e=>pushCells_keeps _ _ b o (ag _ e)
 have hns:(pushCells (s.heap.push { cls:= .type "frame",data:= .dict #[]}) scope.names).Ns s.heap.objs.size (fun _=>none):=(Heap.Ns.new s.heap (.type "frame")).keeps (pushCells_keeps _ _)
 have hcc:∀ y c,(cellsFrom (s.heap.objs.size+1) scope.names closure).lookup y=some c->∃ u,(pushCells (s.heap.push { cls:= .type "frame",data:= .dict #[]}) scope.names).IsCell c u:=fun y c e=>by
  have e':(cellsFrom (s.heap.push { cls:= .type "frame",data:= .dict #[]}).objs.size scope.names closure).lookup y=some c:=by
   rw[show (s.heap.push { cls:= .type "frame",data:= .dict #[]}).objs.size=s.heap.objs.size+1 from da _ _]
   exact e
  refine jJC _ _ _ (fun x c q=>?_) y c e'
  obtain⟨v,o,ho,hd⟩:=hcl x c q
  exact⟨v,o,ag _ ho,hd⟩
 obtain⟨c,hc⟩:=jFJ scope.names (s.heap.objs.size+1) closure (.inl (bF hx))
 have hnew:s.heap.objs.size+1<=c:=jOP (n0:=s.heap.objs.size+1) _ _ _ (am _) (.inl (bF hx)) hc
 obtain⟨u,hu⟩:=hcc x c hc
 refine ae ?_
 rw[jf]
 refine ae (ae (wpAny_storeName_cell (env:=newEnv scope s.heap.objs.size globals (cellsFrom (s.heap.objs.size+1) scope.names closure) qual func code none builtins) hk hx hc hu fun h' hc' hs'=>ak ?_))
 dsimp only
 rw[List.forIn_nil]
 refine ak (ak (hQ h' (hns.sameBut hs' (aQ (aO (gG _) hnew))) (fun b o e=>?_) (fun y d hd=>?_) fun d hd=>?_))
 ·exact hs'.extBut b o (aQ (aO (aE e) (Nat.le_of_succ_le hnew))) (old b o e)
 ·by_cases z:d=c
  ·subst z
   exact⟨_,hc'⟩
  ·obtain⟨u',hu'⟩:=hcc y d hd
   exact⟨u',hu'.sameBut hs' z⟩
 ·rw[hc] at hd
  cases hd
  exact hc'
structure NScopeC (N:List Str)(x:Str)(fs:List Str)(sc:Scope):Prop where
 kind:sc.kind= .function
 co:sc.isCoroutine=false
 gen:sc.isGenerator=false
 nd:N.Nodup
 pre:N=x::fs
 par:sc.names.lookup x=some .cell
 fre:∀ y∈fs,sc.names.lookup y=some .free
 all:∀ y,sc.names.lookup y=some .free->y∈fs
 dis:∀ y∈fs,(y,NameKind.cell)∉sc.names
section
variable {P:Program}{w:World}{K:W.Frag}{mg:Str->Option Value}{lv:Heap}{N fs:List Str}{x:Str}{qual:Str}{scope:Scope}{f:Addr}{cd:Value}{cl:List (Str×Addr)}{A:Around}{lu:List Env}{s:Shared}{H:Hp}{u:Value}{v:V}{fv:List V}
theorem jLE {h1:Heap}{tk:Nat}(S:NScopeC N x fs scope)(hd:A.handled=none)(e0:Env0 P w K mg lv A lu s H)(r:RelV v u)(C:ClOk cl s H)(Fv:FvOk fs fv cl s)
  (ns:h1.Ns s.heap.objs.size fun _=>none) (hk:∀ b o,s.heap.get? b=some o->h1.get? b=some o) (hc:∀ y c,(cellsFrom (s.heap.objs.size+1) scope.names cl).lookup y=some c->∃ u,h1.IsCell c u) (hx:∀ c,(cellsFrom (s.heap.objs.size+1) scope.names cl).lookup x=some c->h1.IsCell c (some u)):
  Inv (cxN P w K mg lv N qual scope f cd (cellsFrom (s.heap.objs.size+1) scope.names cl) A lu s H) [] (yK N [v] fv) H { s with heap:=h1,toks:=tk} :=by
 have noA:∀ b:Addr,b∉(cxN P w K mg lv N qual scope f cd (cellsFrom (s.heap.objs.size+1) scope.names cl) A lu s H).ex:=fun b z=>absurd (show b∈([]:List Addr) from z) (by simp)
 have Nl:N.length=1+fs.length:=by rw[S.pre,aU]; lia
 have st:yK N [v] fv=(v::fv).map some:=by
  unfold yK y0
  rw[Nl,show [v]++fv=v::fv from rfl,aU,Fv.1,show 1+fs.length - (fs.length+1)=0 by lia]
  exact aZ _
 refine⟨⟨e0.mod,S.kind,rfl,rfl,am _,jOQ _ _ _ C.inj (fun y c e=>?_),fun y hy=>?_,fun y c z=>(nomatch z),fun _=>hd,gO e0.frames, .inr ⟨rfl,rfl⟩,fun b z=>absurd z (noA b),e0.bs,e0.bsz,fun b _ _=>noA b,fun b z=>absurd z (noA b),e0.funs,e0.frf⟩,
  rfl,e0.bare,Un.kept hk,⟨_,ns,fun i y v' h1' h2 h3=>?_⟩,fun y c h=>hc y c h,e0.hok.fresh (am _),fun y c h=>?_,fun p hp=>absurd (show p∈([]:List (Addr×Obj)) from hp) (by simp),e0.hok.kept hk,?_⟩
 ·obtain⟨⟨v,o,ho,_⟩,_⟩:=C.cell y c e
  exact cC (aE ho)
 ·have hy:scope.names.lookup y=some .cell\/scope.names.lookup y=some .free:=hy
  rcases hy with hy | hy
  ·exact jFJ _ _ _ (.inl (bF hy))
  ·have m:=S.all y hy
   obtain⟨i,hi⟩:=bB m
   have hi2:i<fv.length:=by rw[Fv.1]; exact(aj.mp hi).1
   obtain⟨c,u,e,_⟩:=Fv.2 i y fv[i] hi (by simp [hi2])
   exact jFJ _ _ _ (.inr ⟨c,e⟩)
 ·have h1':N[i]?=some y:=h1'
  rw[S.pre] at h1'
  rw[st,aR] at h2
  cases i with
  | zero=>
   cases h1'
   cases h2
   obtain⟨c,e⟩:=jFJ scope.names (s.heap.objs.size+1) cl (.inl (bF S.par))
   exact⟨u,r, .inr ⟨.inl S.par,c,e,hx c e⟩⟩
  | succ i=>
   have hy:fs[i]?=some y:=h1'
   rw[List.getElem?_cons_succ] at h2
   have hv:fv[i]?=some v':=by
    cases e:fv[i]? with
    | none=>rw[e] at h2; cases h2
    | some a=>rw[e] at h2; cases h2; rfl
   obtain⟨c,u',e,rv,o,ho,hd⟩:=Fv.2 i y v' hy hv
   have m:=aJ hy
   exact⟨u',rv, .inr ⟨.inr (S.fre y m),c,(jJB _ _ _ (S.dis y m)).trans e,o,hk _ _ ho,hd⟩⟩
 ·rcases jOO _ _ _ h with q | q
  ·exact(C.cell y c q).2
  ·exact e0.hok.fresh (by have:=q.1; lia)
 ·show (yK N [v] fv).length=N.length
  rw[st,Nl,af,aU,Fv.1]
  lia
end
theorem jTT {P:Program}{w:World}{K:W.Frag}{mg:Str->Option Value}{lv:Heap}{k:Nat}{q:Str}{args:Arguments}{body:Expr}{scope:Scope}{N fs:List Str}{x:Str}{sp:Sp}{cl:List (Str×Addr)}{fv:List V}{a c:Addr}(S:NScopeC N x fs scope)(len:∀ vs H Q E,sp vs H Q E->vs.length=1)
  (hb:∀ pm ctv (u:Value),bindArgs (kla_fn "<lambda>" q args body scope cl pm (.ref c) ctv) ⟨[u],[]⟩=pure [(x,u)])
  (hbody:∀ (A:Around) (lu:List Env) (s:Shared) (H:Hp) (vs:List V) (Q:VK) (E:XK) (cl':List (Str×Addr)),Room k (A.deeper (envX q scope s.heap.objs.size a (.ref c) cl'))->sp vs H Q E->
   ∃ t,PE (cxN P w K mg lv N q scope a (.ref c) cl' A lu s H) body t/\t (yK N vs fv) H Q):
  Callee P w K mg lv (fun s H=>ClOk cl s H/\FvOk fs fv cl s) (fun H=>H a=some (.ext (nlP q args body scope cl a c))/\H c=some (.ext (ncP q c))) (k+1) a sp:=by
 refine⟨fun A lu s H e z=>?_,fun A lu s H us vs Q E hr e0 hz zh r hsp=>?_⟩
 ·obtain⟨⟨m,t,g⟩,_,_⟩:=(show ObjOk P w H s.heap a (.ext _) from e.hok a _ z.1)
  exact⟨_,_,_,_,g⟩
 obtain⟨C,Fv⟩:=hz
 obtain⟨⟨pm,ctv,ho⟩,_,_⟩:=(show ObjOk P w H s.heap a (.ext _) from e0.hok a _ zh.1)
 obtain⟨hc,_,_⟩:=(show ObjOk P w H s.heap c (.ext _) from e0.hok c _ zh.2)
 have hl:vs.length=1:=len _ _ _ _ hsp
 have hl2:us.length=1:=r.length.symm.trans hl
 match vs,us,hl,hl2,r,hsp with
 | [v],[u],_,_,r,hsp=>
 have r1:RelV v u:=by
  obtain⟨u',hu,rv⟩:=Vals.get r (i:=0) (x:=v) rfl
  cases hu
  exact rv
 have lim:s.heap.NoLimit:=e0.mod.nolimit.keeps fun b o e=>(e0.bs b o e).1
 refine jx hr.depth ho rfl S.co S.gen rfl hc ?_
 rw[hb pm ctv u]
 refine ak (jTC S.kind S.par (fun y c h=>(C.cell y c h).1) fun h₁ hns hk hcc hcx=>⟨lim.keeps hk,?_⟩)
 show codeAny _ _ (.expr body (envX q scope s.heap.objs.size a (.ref c) (cellsFrom (s.heap.objs.size+1) scope.names cl))) _ _
 obtain⟨t,ht,hq⟩:=hbody A lu s H [v] Q E (cellsFrom (s.heap.objs.size+1) scope.names cl) (hr.deeper _) hsp
 have I:Inv (cxN P w K mg lv N q scope a (.ref c) (cellsFrom (s.heap.objs.size+1) scope.names cl) A lu s H) [] (yK N [v] fv) H { s with heap:=h₁,toks:=s.toks} :=jLE S hr.hd e0 r1 C Fv hns hk hcc hcx
 refine jy (b7 (ht [] _ (yK N [v] fv) H _ I hq) (fun u s' hs=>?_) fun e s' hs=>False.elim hs)
 obtain⟨v,H',J,rv,q⟩:=hs
 exact⟨v,H',J.os,J.bare,J.lv,J.hok,rv,q⟩
end L2
section
open PySem L2
variable {P:Program}{w:World}{K:W.Frag}{mg:Str->Option Value}{lv:Heap}{f fT fL fW fR fG fI fC fP fB c0 tb fM fF fA j a c fH fN tb1 tb2 tb3 tb4 tb5 fE:Addr}{fdT fdL fdW fdR fdG fdI fdC fdP fdB fdM fdF fdA fdH fdN fdE:FuncData}{lw:Value}{A:Around}{lu:List Env}{s:Shared}{H0:Hp}{E:XK}{cl:List (Str×Addr)}{Z:Shared->Hp->Prop}{zh:Hp->Prop}{ms:List Int}{pcs:List (List Int×Int)}{S:List Addr}
namespace Eo
open PySem L2
def Keep (H H':Hp)(p:Addr):Prop:=∀ b o,H b=some o->b≠p->H' b=some o
structure Txt (mg:Str->Option Value):Prop where
 len:mg "len" =none
 range:mg "range" =none
 tuple:mg "tuple" =none
 sorted:mg "sorted" =none
 set:mg "set" =none
 list:mg "list" =none
 int:mg "int" =none
 isinstance:mg "isinstance" =none
 bool:mg "bool" =none
 str:mg "str" =none
 all:mg "all" =none
 zip:mg "zip" =none
 max:mg "max" =none
 min:mg "min" =none
 any:mg "any" =none
 abs:mg "abs" =none
 sum:mg "sum" =none
 enumerate:mg "enumerate" =none
 dict:mg "dict" =none
structure Can (P:Program)(w:World)(K:W.Frag)(mg:Str->Option Value)(lv:Heap)(x:Str)(k:Nat)(f:Addr)(fd:FuncData)(ps:List Str)(sp:Sp):Prop where
 G:FnOk P w K mg lv CX0 k f fd ps sp
 m:mg x=some (.ref f)
 kp:keepIn K (.ref f)=true
 b:Binds K fd ps []
theorem Can.pe {X:Cx}{x:Str}{k:Nat}{f:Addr}{fd:FuncData}{ps:List Str}{sp:Sp}{e:Expr}{es:List Expr}{t:TA}{p pos:Pos}(C:Can X.prog X.w X.K X.mg X.lv x k f fd ps sp)(hr:Room k X.A)(hg:Gl X x)(ha:PA X (e::es) t)(hdb:(x==("__debug__" :Str))=false:=by decide)
  (he:starEach (e::es) X.env=(false,eval e X.env)::starEach es X.env:=by rfl) (hpl:(backTo pos (starEach es X.env)).any (·.1)=false:=by rfl):PE X (.Call (.Name x p) (e::es) [] pos) (tCall sp [] E0 t):=
 jST C.G hr hg C.m C.kp C.b .nil pass0 ha hdb he hpl
theorem Can.je {X:Cx}{x:Str}{k:Nat}{f:Addr}{fd:FuncData}{ps:List Str}{sp:Sp}{e:Expr}{es:List Expr}{t:TA}{p pos:Pos}(C:Can X.prog X.w X.K X.mg X.lv x k f fd ps sp)(hr:Room k X.A)(hg:Gl1 X x)(ha:JA X (e::es) t)(he:starEach (e::es) X.env=(false,eval e X.env)::starEach es X.env)
  (hdb:(x==("__debug__" :Str))=false:=by decide) (hpl:(backTo pos (starEach es X.env)).any (·.1)=false:=by rfl):JE X (.Call (.Name x p) (e::es) [] pos) (tCall sp [] E0 t):=
 ⟨C.pe hr hg.a ha.h hdb he hpl⟩
def jD7 (K:W.Frag):Sp:=fun vs H Q _=>∃ (a:Addr) (ns:List Int) (k:Int),vs=[.ref a, .int k]/\SqL K H a (ns.map V.int)/\0<=k/\∀ c:Int,Q (.int c) H
theorem jUH:FnScope ["script","k"] ["script","k"] (j6 sCell):= {}
theorem jT8 {f:Addr}{fd:FuncData}(F:Fun K "_law_cell_at" "_law_cell_at" sCell f fd)(T:Txt mg):FnOk P w K mg lv CX0 1 f fd ["script","k"] (jD7 K):=by
 refine F.ok jUH (fun vs H Q E h=>?_) (fun lw A lu s H vs Q E hr h=>?_)
 ·obtain⟨a,ns,k,rfl,_⟩:=h
  rfl
 ·obtain⟨a,ns,k,rfl,hS,h0,q⟩:=h
  refine⟨_,kW (ps_if (jE6 op_lt (pv 1) (jG3 jY (by rfl) T.len PySem.boot_len (jV (pv 0) yL)) (kI _)) (jB1 (jDC (pe_ix jC4 (pv 0) (pv 1) (fun _ _=>rfl)))) jG0) (jB1 (jDC jP)),?_⟩
  refine⟨_,rfl,_,rfl,a,_,rfl, .inl hS,_,_,rfl,rfl,_,rfl,?_⟩
  refine ite2 (fun hlt=>?_) (fun _=>?_)
  ·have hlt:k<((ns.map V.int).length:Int):=aG hlt
   have hk:k.toNat<ns.length:=by rw[af] at hlt; lia
   refine⟨_,rfl,_,rfl,a,_,k, .int (ns[k.toNat]),rfl,rfl,hS,?_,q _⟩
   have e:(k.toNat:Int)=k:=by lia
   have q2:=jAO (xs:=ns.map V.int) (j:=k.toNat) (v:=V.int ns[k.toNat]) (by simp [hk])
   rw[e] at q2
   exact q2
  ·exact q 0
def yY:Sp:=fun vs H Q _=>∃ (p:Addr) (N w:Int),vs=[.ref p, .int w]/\H p=some (.lst [.int N])/\0<=N/\0<w/\w<2 ^ 64/\∀ N' r:Int,0<=N'->0<=r->r<w->Q (.int r) (upd H p (.lst [.int N']))
theorem scTake:FnScope ["pot","wide","found"] ["pot","wide"] (j6 sTake):= {}
theorem jT2 {f:Addr}{fd:FuncData}(F:Fun K "_law_take" "_law_take" sTake f fd):FnOk P w K mg lv CX0 1 f fd ["pot","wide"] yY:=by
 refine F.ok scTake (fun vs H Q E h=>?_) (fun lw A lu s H vs Q E hr h=>?_)
 ·obtain⟨a,ns,k,rfl,_⟩:=h
  rfl
 ·obtain⟨p,N,w,rfl,hp,h0,h1,h2,q⟩:=h
  refine⟨_,kW (qE (i:=2) scTake.nd rfl (Or.inl rfl) (kR jHB (pe_ix jC4 (pv 0) jP (fun _ _=>rfl)) (pv 1)))
   (kW (jUP (kR jJZ (pe_ix jC4 (pv 0) jP (fun _ _=>rfl)) (pv 1)) (jUT (pv 0) jP jPB))
   (jB1 (jDC (pv 2)))),?_⟩
  refine⟨_,rfl,p,_,0, .int N,rfl,rfl,SqL.of hp,rfl,_,rfl,_,_,rfl,rfl,h1,?_⟩
  refine⟨_,rfl,p,_,0, .int N,rfl,rfl,SqL.of hp,rfl,_,rfl,_,_,rfl,rfl,⟨h1,h2⟩,?_⟩
  refine⟨_,rfl,p,_,0,0,rfl,rfl,hp,rfl,_,rfl,?_⟩
  exact q _ _ (Int.ediv_nonneg h0 (by lia)) (Int.emod_nonneg _ (by lia)) (lc _ h1)
def spPot:Sp:=fun vs H Q _=>∃ c:Int,vs=[.int c]/\∀ (p:Addr) (N:Int),H p=none->0<=N->Q (.ref p) (upd H p (.lst [.int N]))
theorem scPot:FnScope ["cell","number","j","more"] ["cell"] (j6 sPot):= {}
theorem jV4 {f:Addr}{fd:FuncData}(F:Fun K "_law_pot" "_law_pot" sPot f fd)(T:Txt mg):FnOk P w K mg lv CX0 1 f fd ["cell"] spPot:=by
 refine F.ok scPot (fun vs H Q E h=>?_) (fun lw A lu s H vs Q E hr h=>?_)
 ·obtain⟨c,rfl,_⟩:=h
  rfl
 ·obtain⟨c,rfl,q⟩:=h
  have one: [V.int 0].length<=sizeLine:=by show 1<=sizeLine; decide
  refine⟨_,kW (ps_if (jE6 op_ge (pv 0) (kR jMM jP jP) (kI _)) (jB1 (jDC (jJY (jV (kR jDE (pv 0) (kR jMM jP jP)) yL)))) jG0)
   (kW (qE (i:=1) scPot.nd rfl (Or.inl rfl) jP)
   (kW (jR9 cf rfl (jCD rfl T.range (jV jP yL)) (jG2 (i:=2) scPot.nd rfl (Or.inl rfl))
    (kW (qE (i:=3) scPot.nd rfl (Or.inl rfl) (kR jHB (kR jDF (kR yI (kR yI (kR jHB (pv 0) jP) (kR jDF jP (pv 2))) jP) jP) jP))
    (kW (qE (i:=3) scPot.nd rfl (Or.inl rfl) (kR jHB (kR yI (kR yI (kR jDF (pv 3) (pv 3)) (kR jDF jP (pv 2))) jP) jP))
    (jB1 (qE (i:=1) scPot.nd rfl (Or.inl rfl) (kR yI (kR jDF (pv 1) jP) (pv 3)))))))
   (jB1 (jDC (jJY (jV (pv 1) yL)))))),?_⟩
  refine⟨_,rfl,_,_,rfl,rfl,⟨by decide,by decide,by decide⟩,_,_,rfl,rfl,_,rfl,?_⟩
  refine ite2 (fun hge=>?_) (fun _=>?_)
  ·refine⟨_,rfl,_,_,rfl,rfl,⟨by decide,by decide,by decide⟩,_,_,rfl,rfl,one,fun p hp=>q p _ hp ?_⟩
   exact Int.sub_nonneg_of_le (aG hge)
  ·refine⟨64,rfl,by decide,by decide,jBG (n:=64) (fun i σ H2=>∃ (num:Int) (v1 v2:Option V),σ=[some (.int c),some (.int num),v1,v2]/\0<=num/\H2=H) ⟨0,none,none,rfl,dA _,rfl⟩ ?_ ?_⟩
   ·rintro i σ H2 hi ⟨num,v1,v2,rfl,hn,rfl⟩
    refine⟨_,rfl,_,_,rfl,rfl,(by show (0:Int)<2147483629; decide),_,rfl,_,_,rfl,rfl, .inl ⟨by decide,by decide⟩,_,_,rfl,rfl,_,_,rfl,rfl,_,_,rfl,rfl, .inr ⟨by decide,by decide⟩,_,_,rfl,rfl,(by show (0:Int)<2147483647; decide),?_⟩
    refine⟨_,rfl,_,rfl,_,_,rfl,rfl, .inl ⟨?_,?_⟩,_,rfl,_,_,rfl,rfl, .inl ⟨by decide,by decide⟩,_,_,rfl,rfl,_,_,rfl,rfl,_,_,rfl,rfl,(by show (0:Int)<2147483587; decide),?_⟩
    ·lia
    ·lia
    ·refine⟨_,rfl,_,_,rfl,rfl, .inr ⟨by decide,by decide⟩,_,rfl,_,_,rfl,rfl,?_⟩
     refine⟨_,_,_,rfl,?_,rfl⟩
     lia
   ·rintro σ H2 ⟨num,v1,v2,rfl,hn,rfl⟩
    exact⟨_,rfl,one,fun p hp=>q p num hp hn⟩
theorem jCR {H:Hp}{a:Addr}{o o':HO} :upd (upd H a o) a o'=upd H a o':=by
 funext b
 unfold upd
 by_cases h:b=a
 ·rw[ar h,ar h]
 ·rw[ao h,ao h,ao h]
theorem yC {H:Hp}{a b:Addr}{o:HO}(h:upd H a o b=none):b≠a/\H b=none:=by
 have h1:b≠a:=fun e=>by rw[e,j5] at h; cases h
 exact⟨h1,by rw[j8 h1] at h; exact h⟩
theorem Keep.refl (H:Hp)(p:Addr):Keep H H p:=fun _ _ h _=>h
theorem Keep.trans {H H1 H2:Hp}{p:Addr}(a:Keep H H1 p)(b:Keep H1 H2 p):Keep H H2 p:=fun c o h n=>b c o (a c o h n) n
theorem Keep.upd {H H1:Hp}{p:Addr}(a:Keep H H1 p)(o:HO):Keep H (upd H1 p o) p:=fun c u h n=>by rw[j8 n]; exact a c u h n
theorem Keep.new {H H1:Hp}{p l:Addr}(a:Keep H H1 p)(hl:H1 l=none)(o:HO):Keep H (L2.upd H1 l o) p:=fun c u h n=>by
 have:=a c u h n
 rw[j8 (jA this hl)]
 exact this
theorem pw {w:Int}(h1:1<=w)(h2:w<=16):(2:Int)<=2 ^ w.toNat/\(2:Int) ^ w.toNat<=65536:=by
 have e:∀ n:Nat,n<17->1<=n->(2:Int)<=2 ^ n/\(2:Int) ^ n<=65536:=by decide+kernel
 exact e w.toNat (by lia) (by lia)
structure Lot (w:Int)(ts:List Int):Prop where
 ris:ts.Pairwise (· < ·)
 bnd:∀ z∈ts,0<=z/\z<w
 ne:ts≠ []
def bits (n:Int)(k:Nat):List Int:=((List.range k).filter fun t=>decide (Builtin.bitAnd (n / 2 ^ t) 1=1)).map fun (t:Nat)=>(t:Int)
theorem jI3 (n:Int)(k:Nat):bits n (k+1)=bits n k++(if decide (Builtin.bitAnd (n / 2 ^ k) 1=1)=true then [(k:Int)] else []):=by
 unfold bits
 rw[fo,bE,aS]
 congr 1
 rw[cg]
 split <;> rfl
theorem jQQ {n w:Int}(h1:1<=n)(hw:0<=w)(h2:n<2 ^ w.toNat):Lot w (bits n w.toNat):=by
 refine⟨?_,fun z hz=>?_,?_⟩
 ·unfold bits
  rw[bM]
  have:=(gx (n:=w.toNat)).filter (fun t=>decide (Builtin.bitAnd (n / 2 ^ t) 1=1))
  exact this.imp fun h=>by lia
 ·unfold bits at hz
  obtain⟨t,ht,rfl⟩:=aW.mp hz
  have:=bG.mp (ba.mp ht).1
  lia
 ·obtain⟨m,rfl⟩:∃ m:Nat,n=(m:Int):=⟨n.toNat,by lia⟩
  have hm:m≠0:=by lia
  have hlt:m<2 ^ w.toNat:=by
   have:((m:Nat):Int)<((2 ^ w.toNat:Nat):Int):=by rw[Int.natCast_pow]; exact h2
   lia
  obtain⟨i,hi⟩:=Nat.exists_testBit_of_ne_zero hm
  have hiw:i<w.toNat:=by
   rcases eX i w.toNat with h | h
   ·exact h
   ·rw[gw (aO hlt (bQ (by lia) h))] at hi
    cases hi
  have hb:Builtin.bitAnd ((m:Int) / 2 ^ i) 1=1:=by
   have e:((m:Int) / 2 ^ i)=((m / 2 ^ i:Nat):Int):=by rw[Int.natCast_ediv,Int.natCast_pow]; rfl
   rw[e,PyProof.Rows.bitAnd_pp (fw _) (by decide)]
   have e2:(((m / 2 ^ i:Nat):Int).toNat&&&(1:Int).toNat)=1:=by
    rw[aV]
    show (m / 2 ^ i)&&&1=1
    rw[lg]
    have:=hi
    rw[gy] at this
    exact aG this
   rw[e2]
   rfl
  intro z
  have hmem:(i:Int)∈bits (m:Int) w.toNat:=by
   unfold bits
   exact aW.mpr ⟨i,ba.mpr ⟨bG.mpr hiw,az hb⟩,rfl⟩
  rw[z] at hmem
  cases hmem
def qK:Sp:=fun vs H Q _=>∃ (p:Addr) (N w:Int),vs=[.ref p, .int w]/\H p=some (.lst [.int N])/\0<=N/\1<=w/\w<=16/\
 ∀ (q:Addr) (N':Int) (ts:List Int) (H':Hp),0<=N'->Lot w ts->H' q=some (.tup (ts.map V.int))->H' p=some (.lst [.int N'])->Keep H H' p->Q (.ref q) H'
theorem scLot:FnScope ["pot","wide","way","number","start","step","size"] ["pot","wide"] (j6 sLot):= {}
theorem jV6 {f fT:Addr}{fd fdT:FuncData}(F:Fun K "_law_lot" "_law_lot" sLot f fd)(T:Txt mg)(CT:Can P w K mg lv "_law_take" 1 fT fdT ["pot","wide"] yY):FnOk P w K mg lv CX0 2 f fd ["pot","wide"] qK:=by
 refine F.ok scLot (fun vs H Q E h=>?_) (fun lw A lu s H vs Q E hr h=>?_)
 ·obtain⟨a,ns,k,rfl,_⟩:=h
  rfl
 ·obtain⟨p,N,w,rfl,hp,hN,h1,h2,q⟩:=h
  have hpw:=pw h1 h2
  have nd:=scLot.nd
  refine⟨_,kW (qE (i:=2) nd rfl (Or.inl rfl) (CT.pe hr rfl (jV (pv 0) (jV jP yL))))
   (kW (ps_if (jE6 qN (pv 2) jP (kI _))
    (kW (qE (i:=3) nd rfl (Or.inr rfl) (kR yI jP (CT.pe hr rfl (jV (pv 0) (jV (kR jDE (kR jFA jP (pv 1)) jP) yL)))))
    (jB1 (jDC (jCE jM rfl T.tuple (by decide+kernel) (jV
     (jIM (m:=[none,some 3]) (Nc:=["t","number"]) rfl (jCD rfl T.range (jV (pv 1) yL)) rfl (by decide+kernel) (by decide+kernel) (jG (psc:=j6 sLot))
      (jF (N:=["pot","wide","way","number","start","step","size"]) rfl rfl (by decide+kernel))
      (fun cl C fp s H=>jG2 (i:=0) (show (["t","number"]:List Str).Nodup by decide+kernel) rfl (Or.inl rfl))
      (fun cl C fp s H=>jMD (jE6 qN (kR jHC (kR jML (pv 1) (pv 0)) jP) jP (kI _)))
      (fun cl C fp s H=>pv 0)) yL)))))
    jG0)
   (kW (qE (i:=4) nd rfl (Or.inr rfl) (CT.pe hr rfl (jV (pv 0) (jV (pv 1) yL))))
   (kW (qE (i:=5) nd rfl (Or.inr rfl) (kR yI jP (CT.pe hr rfl (jV (pv 0) (jV jP yL)))))
   (kW (qE (i:=6) nd rfl (Or.inl rfl) (kR yI jP (CT.pe hr rfl (jV (pv 0) (jV (pe_ix jC4 (jJY (jV jP (jV jP (jV jP yL)))) (kR jDE (pv 2) jP) (fun _ _=>rfl)) yL)))))
   (jB1 (jDC (jCE jM rfl T.tuple (by decide+kernel) (jV (jG3 (jEY rfl) rfl T.sorted (by decide+kernel) (jV (jCE (jOR rfl) rfl T.set (by decide+kernel) (jV
     (jIM (m:=[none,some 4,some 5,some 1]) (Nc:=["j","start","step","wide"]) rfl (jCD rfl T.range (jV (pv 6) yL)) rfl (by decide+kernel) (by decide+kernel) (jG (psc:=j6 sLot))
      (jF (N:=["pot","wide","way","number","start","step","size"]) rfl rfl (by decide+kernel))
      (fun cl C fp s H=>jG2 (i:=0) (show (["j","start","step","wide"]:List Str).Nodup by decide+kernel) rfl (Or.inl rfl))
      (fun cl C fp s H=>jME)
      (fun cl C fp s H=>kR jHB (kR yI (pv 1) (kR jDF (pv 2) (pv 0))) (pv 3))) yL)) yL)) yL)))))))),?_⟩
  refine⟨_,rfl,p,N,4,rfl,hp,hN,by decide,by decide,fun N1 way b1 b2 b3=>?_⟩
  have hp1:∀ M,(upd H p (.lst [.int M])) p=some (.lst [.int M]):=fun _=>j5
  refine⟨_,rfl,rfl,_,rfl,?_⟩
  refine ite2 (fun _=>?_) (fun hw0=>?_)
  ·refine⟨_,rfl,_,rfl,_,_,rfl,rfl,⟨by lia,by lia,by decide⟩,_,_,rfl,rfl,p,N1,_,rfl,hp1 _,b1,by lia,by lia,fun N2 r2 c1 c2 c3=>⟨_,_,rfl,rfl,?_⟩⟩
   have hnum:1+r2<2 ^ w.toNat:=by lia
   refine⟨_,rfl,w,rfl,by lia,by lia,jBV (n:=w.toNat) (by rw[aw]; lia) (fun D i σ' H' ys=>(∃ v,σ'=[v,some (.int (1+r2))])/\ys=(bits (1+r2) i).map V.int/\H'=upd (upd (upd H p (.lst [.int N1])) p (.lst [.int N2])) D (.lst ys)) ?_ ?_ ?_ ?_⟩
   ·intro D hD
    exact⟨⟨_,rfl⟩,rfl,rfl⟩
   ·rintro D i σ' H' ys hD hi ⟨_,e1,e2⟩
    refine⟨by rw[e2]; exact j5,?_⟩
    rw[e1,af]
    unfold bits
    rw[af]
    exact bf (bD _ _) (by rw[bR]; exact am _)
   ·rintro D i σ' H' ys hD hi ⟨⟨v,rfl⟩,rfl,rfl⟩
    refine⟨_,rfl,_,rfl,_,_,rfl,rfl,(by show (0:Int)<=0+(i:Int); lia),_,_,rfl,rfl,rfl,_,rfl,?_⟩
    have ei:(0+(i:Int)).toNat=i:=by lia
    refine ite2 (fun hb=>?_) (fun hb=>?_)
    ·have hb:Builtin.bitAnd ((1+r2) / 2 ^ i) 1=1:=by
      have:=aG hb
      rw[ei] at this
      exact V.int.inj this
     refine⟨_,rfl,j5,⟨_,rfl⟩,?_,jCR⟩
     rw[jI3,ar (az hb),aS]
     congr 1
     show [V.int (0+(i:Int))]=[V.int (i:Int)]
     rw[ja]
    ·have hb:¬ Builtin.bitAnd ((1+r2) / 2 ^ i) 1=1:=fun e=>hb (az (by rw[ei]; exact bZ V.int e))
     refine⟨⟨_,rfl⟩,?_,rfl⟩
     rw[jI3,ao (by simpa using hb),aZ]
   ·rintro D σ' H' ys hD ⟨_,rfl,rfl⟩
    refine⟨D,_,rfl, .inl ⟨SqL.of j5,fun qq hqq=>?_⟩⟩
    obtain⟨n1,n2⟩:=yC hqq
    have pD:p≠D:=jA j5 hD
    have pq:p≠qq:=jA j5 n2
    exact q qq N2 (bits (1+r2) w.toNat) _ c1 (jQQ (by lia) (by lia) hnum) j5 (by rw[j8 pq,j8 pD,j5]) (((((Keep.refl H p).upd _).upd _).new hD _).new hqq _)
  ·have hway:1<=way:=by
    have:¬ way=0:=fun e=>hw0 (az (by rw[e]))
    lia
   refine⟨_,rfl,_,rfl,p,N1,w,rfl,hp1 _,b1,by lia,by lia,fun N2 y0 c1 c2 c3=>?_⟩
   rw[jCR]
   refine⟨_,rfl,p,N2,3,rfl,hp1 _,c1,by decide,by decide,fun N3 st d1 d2 d3=>⟨_,_,rfl,rfl,?_⟩⟩
   rw[jCR]
   refine⟨_,rfl,(by show 3<=sizeLine; decide),fun l hl=>?_⟩
   have pl:p≠l:=jA (hp1 _) hl
   obtain⟨wd,hwd,e1,e2⟩:∃ wd:Int,atI [V.int 1,V.int 2,V.int 4] (way - 1)=some (.int wd)/\1<=wd/\wd<=4:=by
    rcases (show way=1\/way=2\/way=3 by lia) with e | e | e
    ·subst e; exact⟨1,rfl,by decide,by decide⟩
    ·subst e; exact⟨2,rfl,by decide,by decide⟩
    ·subst e; exact⟨4,rfl,by decide,by decide⟩
   refine⟨_,rfl,_,_,rfl,rfl,l,_,_,_,rfl,rfl,SqL.of j5,hwd,p,N3,wd,rfl,by rw[j8 pl]; exact hp1 _,d1,by lia,by lia,fun N4 r4 g1 g2 g3=>⟨_,_,rfl,rfl,?_⟩⟩
   have kp:Keep H (upd (upd (upd H p (.lst [.int N3])) l (.lst [V.int 1,V.int 2,V.int 4])) p (.lst [.int N4])) p:=(((Keep.refl H p).upd _).new hl _).upd _
   have hp4:(upd (upd (upd H p (.lst [.int N3])) l (.lst [V.int 1,V.int 2,V.int 4])) p (.lst [.int N4])) p=some (.lst [.int N4]):=j5
   generalize (upd (upd (upd H p (.lst [.int N3])) l (.lst [V.int 1,V.int 2,V.int 4])) p (.lst [.int N4]))=H4 at kp hp4 ⊢
   refine⟨_,rfl,1+r4,rfl,by lia,by lia,jBV (n:=(1+r4).toNat) (by rw[aw]; lia) (fun D i σ' H' ys=>(∃ v,σ'=[v,some (.int y0),some (.int (1+st)),some (.int w)])/\(∃ ns:List Int,ys=ns.map V.int/\ns.length=i/\∀ z∈ns,0<=z/\z<w)/\H'=upd H4 D (.lst ys)) ?_ ?_ ?_ ?_⟩
   ·intro D hD
    exact⟨⟨_,rfl⟩,⟨[],rfl,rfl,fun z hz=>by cases hz⟩,rfl⟩
   ·rintro D i σ' H' ys hD hi ⟨_,⟨ns,rfl,e,_⟩,rfl⟩
    exact⟨j5,by rw[af,e]; exact am _⟩
   ·rintro D i σ' H' ys hD hi ⟨⟨v,rfl⟩,⟨ns,rfl,e,hb⟩,rfl⟩
    dsimp only [kO,yJ]
    rw[ar rfl]
    refine⟨_,rfl,_,rfl,_,rfl,_,_,rfl,rfl, .inl ⟨by lia,by lia⟩,_,_,rfl,rfl,_,rfl,_,_,rfl,rfl,(by show 0<w; lia),j5,⟨_,rfl⟩,⟨ns++[(y0+(1+st)*(0+(i:Int))) % w],by simp,by simp [e],fun z hz=>?_⟩,jCR⟩
    rcases aM.mp hz with hz | hz
    ·exact hb z hz
    ·have:z=(y0+(1+st)*(0+(i:Int))) % w:=by simpa using hz
     rw[this]
     exact⟨Int.emod_nonneg _ (by lia),lc _ (by lia)⟩
   ·rintro D σ' H' ys hD ⟨_,⟨ns,rfl,e,hb⟩,rfl⟩
    refine⟨D,ns,rfl,SqL.of j5,by lia,fun z hz=>⟨(hb z hz).1,by have:=(hb z hz).2; lia⟩,fun l1 ks h11 hm1=>?_⟩
    refine⟨l1,ks,rfl,j5,fun l2 ms h12 srt hm2=>?_⟩
    refine⟨l2,_,rfl, .inl ⟨SqL.of j5,fun qq hqq=>?_⟩⟩
    have pD:p≠D:=jA hp4 hD
    have p1:p≠l1:=jA hp4 (yC h11).2
    have p2:p≠l2:=jA hp4 (yC (yC h12).2).2
    have pq:p≠qq:=jA hp4 (yC (yC (yC hqq).2).2).2
    refine q qq N4 ms _ g1 ⟨srt,fun z hz=>hb z ((hm1 z).mp ((hm2 z).mp hz)),fun z=>?_⟩ j5 (by rw[j8 pq,j8 p2,j8 p1,j8 pD]; exact hp4) ((((kp.new hD _).new h11 _).new h12 _).new hqq _)
    subst z
    cases ns with
    | nil=>simp at e; lia
    | cons x r=>
     have:=(hm2 x).mpr ((hm1 x).mpr ai)
     cases this
structure Ris (w:Int)(ts:List Int):Prop where
 ris:ts.Pairwise (· < ·)
 bnd:∀ z∈ts,0<=z/\z<w
theorem Ris.nil (w:Int):Ris w []:=⟨.nil,fun z hz=>by cases hz⟩
theorem Ris.take {w:Int}{ts:List Int}(h:Ris w ts)(k:Nat):Ris w (ts.take k):=⟨h.ris.sublist (dY _ _),fun z hz=>h.bnd z (cw hz)⟩
theorem Ris.drop {w:Int}{ts:List Int}(h:Ris w ts)(k:Nat):Ris w (ts.drop k):=⟨h.ris.sublist (iC _ _),fun z hz=>h.bnd z (cP hz)⟩
theorem Ris.snoc {i:Nat}{ts:List Int}(h:Ris i ts):Ris (i+1:Nat) (ts++[(i:Int)]):=by
 refine⟨cO.mpr ⟨h.ris,iY _ _,fun a ha b hb=>?_⟩,fun z hz=>?_⟩
 ·have:=(h.bnd a ha).2
  have e:b=i:=by simpa using hb
  lia
 ·rcases aM.mp hz with q | q
  ·have:=h.bnd z q
   lia
  ·have e:z=i:=by simpa using q
   lia
theorem Ris.step {i:Nat}{ts:List Int}(h:Ris i ts):Ris (i+1:Nat) ts:=⟨h.ris,fun z hz=>by have:=h.bnd z hz; lia⟩
def upto (n:Nat):List Int:=(List.range n).map fun (i:Nat)=>(i:Int)
theorem jO4 (n:Nat):jEN n=(upto n).map V.int:=by
 unfold jEN upto
 rw[bL]
 rfl
theorem yB (n:Nat):Ris n (upto n):=by
 refine⟨?_,fun z hz=>?_⟩
 ·unfold upto
  rw[bM]
  exact gx.imp fun h=>by lia
 ·unfold upto at hz
  obtain⟨t,ht,rfl⟩:=aW.mp hz
  have:=bG.mp ht
  lia
def Tups (H H':Hp):Prop:=∀ b xs,H b=some (.tup xs)->H' b=some (.tup xs)
theorem Tups.trans {H H1 H2:Hp}(a:Tups H H1)(b:Tups H1 H2):Tups H H2:=fun c o h=>b c o (a c o h)
theorem Keep.tups {H H':Hp}{p:Addr}{xs:List V}(k:Keep H H' p)(hp:H p=some (.lst xs)):Tups H H':=fun b ys hb=>k b _ hb fun e=>by
 subst e
 rw[hb] at hp
 cases hp
theorem Tups.upd {H:Hp}{p:Addr}{xs:List V}(hp:H p=some (.lst xs))(o:HO):Tups H (upd H p o):=fun b ys hb=>by
 rw[j8 (fun e=>by subst e; rw[hb] at hp; cases hp)]
 exact hb
theorem Tups.new {H:Hp}{p:Addr}(hp:H p=none)(o:HO):Tups H (L2.upd H p o):=fun b ys hb=>by
 rw[j8 (jA hb hp)]
 exact hb
def PcAt (H:Hp)(v:V)(pc:List Int×Int):Prop:=∃ a q,v= .ref a/\H a=some (.tup [.ref q, .int pc.2])/\H q=some (.tup (pc.1.map V.int))
def PcsAt (H:Hp):List V->List (List Int×Int)->Prop
 | [],[]=>True
 | v::vs,p::ps=>PcAt H v p/\PcsAt H vs ps
 | _,_=>False
theorem PcAt.mono {H H':Hp}{v:V}{pc:List Int×Int}(h:PcAt H v pc)(t:Tups H H'):PcAt H' v pc:=by
 obtain⟨a,q,rfl,h1,h2⟩:=h
 exact⟨a,q,rfl,t _ _ h1,t _ _ h2⟩
theorem PcsAt.mono {H H':Hp}(t:Tups H H'):∀ {vs:List V}{ps:List (List Int×Int)},PcsAt H vs ps->PcsAt H' vs ps
 | [],[],_=>trivial
 | _::_,_::_,h=>⟨h.1.mono t,PcsAt.mono t h.2⟩
 | [],_::_,h=>h.elim
 | _::_,[],h=>h.elim
theorem PcsAt.len {H:Hp} :∀ {vs:List V}{ps:List (List Int×Int)},PcsAt H vs ps->vs.length=ps.length
 | [],[],_=>rfl
 | _::_,_::_,h=>bZ (· +1) (PcsAt.len h.2)
 | [],_::_,h=>h.elim
 | _::_,[],h=>h.elim
theorem PcsAt.put {H:Hp}{v:V}{p:List Int×Int}(hv:PcAt H v p):∀ (k:Nat) {vs:List V}{ps:List (List Int×Int)},PcsAt H vs ps->PcsAt H (vs.take k++v::vs.drop k) (ps.take k++p::ps.drop k)
 | 0,_,_,h=>⟨hv,h⟩
 | _+1,[],[],_=>⟨hv,trivial⟩
 | k+1,_::_,_::_,h=>⟨h.1,PcsAt.put hv k h.2⟩
 | _+1,[],_::_,h=>h.elim
 | _+1,_::_,[],h=>h.elim
structure GoodPc (w:Int)(pc:List Int×Int):Prop where
 lot:Lot w pc.1
 lo: -1000000000000<=pc.2
 hi:pc.2<=1000000000000
structure BoxAt (H:Hp)(b:Addr)(w:Int)(mays:List Int)(pcs:List (List Int×Int)):Prop where
 ex:∃ qm qp vs,H b=some (.tup [.int w, .ref qm, .ref qp])/\H qm=some (.tup (mays.map V.int))/\H qp=some (.tup vs)/\PcsAt H vs pcs
theorem BoxAt.mono {H H':Hp}{b:Addr}{w:Int}{mays:List Int}{pcs:List (List Int×Int)}(h:BoxAt H b w mays pcs)(t:Tups H H'):BoxAt H' b w mays pcs:=by
 obtain⟨qm,qp,vs,h1,h2,h3,h4⟩:=h.ex
 exact⟨qm,qp,vs,t _ _ h1,t _ _ h2,t _ _ h3,h4.mono t⟩
structure Good (mt mp:Int)(w:Int)(mays:List Int)(pcs:List (List Int×Int)):Prop where
 w0:0<=w
 w1:w<=mt
 mr:Ris w mays
 pl:(pcs.length:Int)<=mp
 pg:∀ pc∈pcs,GoodPc w pc
theorem Keep.updNew {H H1:Hp}{p l:Addr}(a:Keep H H1 p)(hl:H l=none)(o:HO):Keep H (L2.upd H1 l o) p:=fun c u h n=>by
 rw[j8 (jA h hl)]
 exact a c u h n
def spBox:Sp:=fun vs H Q _=>∃ (p:Addr) (N mt mp:Int),vs=[.ref p, .int mt, .int mp]/\H p=some (.lst [.int N])/\0<=N/\0<=mt/\mt<=16/\0<=mp/\mp<=32/\
 ∀ (b:Addr) (N' w:Int) (mays:List Int) (pcs:List (List Int×Int)) (H':Hp),0<=N'->H' p=some (.lst [.int N'])->BoxAt H' b w mays pcs->Good mt mp w mays pcs->Keep H H' p->Q (.ref b) H'
abbrev nBox:List Str:=["pot","most_things","most_pieces","wide","mays","left","far","pieces","k","size","things"]
theorem scBox:FnScope nBox ["pot","most_things","most_pieces"] (j6 sBox):= {}
abbrev XBox (P:Program)(w:World)(K:W.Frag)(mg:Str->Option Value)(lv:Heap)(f:Addr)(lw:Value)(A:Around)(lu:List Env)(s:Shared)(H:Hp)(E:XK):Cx:=(cxOf CX0 P w K mg lv nBox "_law_box" (j6 sBox) f lw A lu s H E).nox
def jCG:Stmt->List Stmt
 | .For _ _ b _ _=>b
 | _=> []
def boxI {f fT fL:Addr}{fdT fdL:FuncData}{lw:Value}{A:Around}{lu:List Env}{s:Shared}{H:Hp}{E:XK}(T:Txt mg)(CT:Can P w K mg lv "_law_take" 1 fT fdT ["pot","wide"] yY)(CL:Can P w K mg lv "_law_lot" 2 fL fdL ["pot","wide"] qK)(hr:Room 2 (XBox P w K mg lv f lw A lu s H E).A): { t:TS // JSs (XBox P w K mg lv f lw A lu s H E) ((jCG ((jC sBox).getD 7 (.Pass ⟨0,0,0,0⟩))).drop 4) t} :=
 have nd:=scBox.nd
 ⟨_,(jB (jAM (je_bm bK PySem.F.slot_list_insert PySem.F.type_list_insert jN7 (jv 7 rfl vL) (j3 (CT.je (hr.mono (by decide)) gD (j3 (jv 0 rfl vC) (j3 (kN yI (jH jY gD T.len (by decide+kernel) (j3 (jv 7 rfl vL) j7 j4) j4) (je_int)) j7 yA) j4) j4) (j3 (jKC (j3 (jv 10 rfl vL) (j3 (kN jDE (CT.je (hr.mono (by decide)) gD (j3 (jv 0 rfl vC) (j3 (jv 6 rfl vL) j7 j4) j4) j4) (kN jJZ (jv 6 rfl vL) (je_int))) j7 yA) j4)) j7 yZ) jI) jI) jU))⟩
def boxL {f fT fL:Addr}{fdT fdL:FuncData}{lw:Value}{A:Around}{lu:List Env}{s:Shared}{H:Hp}{E:XK}(T:Txt mg)(CT:Can P w K mg lv "_law_take" 1 fT fdT ["pot","wide"] yY)(CL:Can P w K mg lv "_law_lot" 2 fL fdL ["pot","wide"] qK)(hr:Room 2 (XBox P w K mg lv f lw A lu s H E).A): { t:TS // JSs (XBox P w K mg lv f lw A lu s H E) (jCG ((jC sBox).getD 7 (.Pass ⟨0,0,0,0⟩))) t} :=
 have nd:=scBox.nd
 ⟨_,(jD (jT (i:=9) nd rfl lL (kN yI (je_int) (CT.je (hr.mono (by decide)) gD (j3 (jv 0 rfl vC) (j3 (je_int) j7 kQ) j4) j4)) jM3)
   (jD (jT (i:=10) nd rfl lL (jZ jM gD T.tuple (by decide+kernel) (j3 (jKD jM6 (jv 5 rfl vL) jNR (jNQ (jv 9 rfl vL))) j7 jX) jX) jU)
   (jD (jT (i:=5) nd rfl lL (jKD jM6 (jv 5 rfl vL) (jNQ (jv 9 rfl vL)) jNR) jM1)
   (jD (yU (kL (jV2 hr.units0) (jv 10 rfl vL) (jKC j7) (kI _)) (jB (jT (i:=10) nd rfl lL (CL.je hr gD (j3 (jv 0 rfl vC) (j3 (jv 3 rfl vL) j7 j4) j4) j4) jU)) kU)
   (boxI T CT CL hr).2))))⟩
def boxC {f fT fL:Addr}{fdT fdL:FuncData}{lw:Value}{A:Around}{lu:List Env}{s:Shared}{H:Hp}{E:XK}(T:Txt mg)(CT:Can P w K mg lv "_law_take" 1 fT fdT ["pot","wide"] yY)(CL:Can P w K mg lv "_law_lot" 2 fL fdL ["pot","wide"] qK)(hr:Room 2 (XBox P w K mg lv f lw A lu s H E).A): { t:TS // JSs (XBox P w K mg lv f lw A lu s H E) ((jC sBox).drop 5) t} :=
 have nd:=scBox.nd
 ⟨_,(jD (jT (i:=6) nd rfl lL (kB jC4 (jNW (j3 (je_int) (j3 (je_int) (j3 (jVU) j7 yA) kQ) kQ)) (CT.je (hr.mono (by decide)) gD (j3 (jv 0 rfl vC) (j3 (je_int) j7 kQ) j4) j4) jS8) jM1)
   (jD (jT (i:=7) nd rfl lL (jNW j7) jBX)
   (jD (qB cf rfl (jA3 gD T.range (j3 (kN jDF (CT.je (hr.mono (by decide)) gD (j3 (jv 0 rfl vC) (j3 (kN yI (jv 2 rfl vL) (je_int)) j7 yA) j4) j4) (jZ jOS gD T.int (by decide+kernel) (j3 (yR op_gt (jv 3 rfl vL) (je_int) (kI _)) j7 jR6) jR6)) j7 yA) yA) (jJ (i:=8) nd rfl lL) (boxL T CT CL hr).2 kE)
   (jB (jN (jKC (j3 (jv 3 rfl vL) (j3 (jv 4 rfl vL) (j3 (jZ jM gD T.tuple (by decide+kernel) (j3 (jv 7 rfl vL) j7 j4) j4) j7 jI) j4) j4)))))))⟩
def boxB {f fT fL:Addr}{fdT fdL:FuncData}{lw:Value}{A:Around}{lu:List Env}{s:Shared}{H:Hp}{E:XK}(T:Txt mg)(CT:Can P w K mg lv "_law_take" 1 fT fdT ["pot","wide"] yY)(CL:Can P w K mg lv "_law_lot" 2 fL fdL ["pot","wide"] qK)(hr:Room 2 (XBox P w K mg lv f lw A lu s H E).A): { t:TS // JSs (XBox P w K mg lv f lw A lu s H E) ((jC sBox).drop 3) t} :=
 have nd:=scBox.nd
 ⟨_,(jD (jT (i:=5) nd rfl lL (jZ (jHZ rfl) gD T.list (by decide+kernel) (j3 (jZ jJE gD T.range (by decide+kernel) (j3 (jv 3 rfl vL) j7 j4) j4) j7 jI) jI) jU)
   (jD (yU (kL qN (CT.je (hr.mono (by decide)) gD (j3 (jv 0 rfl vC) (j3 (je_int) j7 kQ) j4) j4) (je_int) (kI _)) (jB (jT (i:=5) nd rfl lL (jNW j7) jBX)) kU)
   (boxC T CT CL hr).2))⟩
def boxA {f fT fL:Addr}{fdT fdL:FuncData}{lw:Value}{A:Around}{lu:List Env}{s:Shared}{H:Hp}{E:XK}(T:Txt mg)(CT:Can P w K mg lv "_law_take" 1 fT fdT ["pot","wide"] yY)(CL:Can P w K mg lv "_law_lot" 2 fL fdL ["pot","wide"] qK)(hr:Room 2 (XBox P w K mg lv f lw A lu s H E).A): { t:TS // JSs (XBox P w K mg lv f lw A lu s H E) (jC sBox) t} :=
 have nd:=scBox.nd
 ⟨_,(jD (jT (i:=3) nd rfl lL (CT.je (hr.mono (by decide)) gD (j3 (jv 0 rfl vC) (j3 (kN yI (jv 1 rfl vL) (je_int)) j7 yA) j4) j4) jU)
   (jD (jT (i:=4) nd rfl lL (jKC j7) jUF)
   (jD (yU (kL qN (CT.je (hr.mono (by decide)) gD (j3 (jv 0 rfl vC) (j3 (je_int) j7 kQ) j4) j4) (je_int) (kI _)) (jB (jT (i:=4) nd rfl lL (jZ jM gD T.tuple (by decide+kernel) (j3 (jR (m:=[none,some 0]) (Nc:=["t","pot"]) rfl (jA3 gD T.range (j3 (jv 3 rfl vL) j7 j4) j4) rfl (by decide+kernel) (by decide+kernel) (jG (psc:=j6 sBox)) (jF (N:=nBox) rfl rfl (by decide+kernel)) (fun cl C fp s H=>jJ (i:=0) (show (["t","pot"]:List Str).Nodup by decide+kernel) rfl y9) (fun cl C fp s H=>jB5 (kL qN (CT.je (hr.mono (by decide)) gl_b (j3 (jv 1 rfl kD) (j3 (je_int) j7 kQ) j4) j4) (je_int) (kI _))) (fun cl C fp s H=>(jv 0 rfl jL)) kE) j7 jE) jE) jU)) kU)
   (boxB T CT CL hr).2)))⟩
structure St0 (H H2:Hp)(p:Addr)(w:Int)(qm ql:Addr)(mays lf:List Int)(N:Int):Prop where
 hp:H2 p=some (.lst [.int N])
 hN:0<=N
 hm:H2 qm=some (.tup (mays.map V.int))
 rm:Ris w mays
 hl:H2 ql=some (.lst (lf.map V.int))
 rl:Ris w lf
 ne:ql≠p
 kp:Keep H H2 p
theorem St0.step {H H2 H3:Hp}{p:Addr}{w:Int}{qm ql:Addr}{mays lf:List Int}{N N':Int}(S:St0 H H2 p w qm ql mays lf N)(k:Keep H2 H3 p)(hp:H3 p=some (.lst [.int N']))(hN:0<=N'):St0 H H3 p w qm ql mays lf N':=
 ⟨hp,hN,k qm _ S.hm (ne_of S.hm S.hp (by intro z; cases z)),S.rm,k ql _ S.hl S.ne,S.rl,S.ne,S.kp.trans k⟩
theorem jOK {w:Int}{lf:List Int}(h:Ris w lf)(lo hi:Option Int):∃ l',cutV (lf.map V.int) lo hi=l'.map V.int/\Ris w l':=by
 refine⟨(lf.drop (HT.sIx lf.length 0 lo)).take (HT.sIx lf.length lf.length hi - HT.sIx lf.length 0 lo),?_,(h.drop _).take _⟩
 unfold cutV
 rw[af,km,List.map_drop]
theorem jI0 (T:Txt mg)(CT:Can P w K mg lv "_law_take" 1 fT fdT ["pot","wide"] yY)(CL:Can P w K mg lv "_law_lot" 2 fL fdL ["pot","wide"] qK)(hr:Room 2 (XBox P w K mg lv f lw A lu s H0 E).A)
  {D:Ends}{H H5:Hp}{p qm ql qp qt:Addr}{mt mp w N far:Int}{mays lf ts:List Int}{vs:List V}{pcs:List (List Int×Int)}{v8 v9:Option V}
  (S:St0 H H5 p w qm ql mays lf N) (hqp:H5 qp=some (.lst vs)) (hv:PcsAt H5 vs pcs) (hg:∀ pc∈pcs,GoodPc w pc) (hqt:H5 qt=some (.tup (ts.map V.int))) (lt:Lot w ts) (hf:far=1\/far=10\/far=2000000000001) (hn:pcs.length<=100) (hH:H qp=none) (hne:ql≠qp) (hpp:p≠qp)
  (nx:∀ H6 N' vs' pcs',St0 H H6 p w qm ql mays lf N'->H6 qp=some (.lst vs')->PcsAt H6 vs' pcs'->(∀ pc∈pcs',GoodPc w pc)->pcs'.length=pcs.length+1->D.nx [some (.ref p),some (.int mt),some (.int mp),some (.int w),some (.ref qm),some (.ref ql),some (.int far),some (.ref qp),v8,v9,some (.ref qt)] H6):
  (boxI T CT CL hr).1 D [some (.ref p),some (.int mt),some (.int mp),some (.int w),some (.ref qm),some (.ref ql),some (.int far),some (.ref qp),v8,v9,some (.ref qt)] H5:=by
 have hlen:=hv.len
 have h64:(0:Int)<far/\far<2 ^ 64:=by rcases hf with e | e | e <;> subst e <;> decide
 refine⟨_,rfl, .inl ⟨rfl,_,SqL.of hqp⟩,_,rfl,_,rfl,qp,vs,rfl, .inl (SqL.of hqp),_,_,rfl,rfl,p,N,_,rfl,S.hp,S.hN,by lia,by lia,fun N1 i a1 a2 a3=>?_⟩
 refine⟨_,rfl,_,rfl,_,rfl,p,N1,far,rfl,j5,a1,h64.1,h64.2,fun N2 r b1 b2 b3=>?_⟩
 rw[jCR]
 refine⟨_,rfl,_,_,rfl,rfl,⟨by decide,by decide⟩,_,_,rfl,rfl,(by show 2<=sizeLine; decide),fun tq htq=>?_⟩
 obtain⟨t1,t2⟩:=yC htq
 have ht:tq≠qp:=fun e=>by subst e; rw[hqp] at t2; cases t2
 refine⟨qp,vs,i,_,rfl,rfl,by rw[j8 ht.symm,j8 hpp.symm]; exact hqp,a2,by lia,by rw[aw]; lia,?_⟩
 have T1:Tups H5 (upd (upd H5 p (.lst [.int N2])) tq (.tup [.ref qt, .int (r - far / 2)])):=(Tups.upd S.hp _).trans (Tups.new htq _)
 have k1:Keep H5 (upd (upd H5 p (.lst [.int N2])) tq (.tup [.ref qt, .int (r - far / 2)])) p:=((Keep.refl _ _).upd _).new htq _
 have S1:=S.step k1 (by rw[j8 t1.symm]; exact j5) b1
 have hq1:(upd (upd H5 p (.lst [.int N2])) tq (.tup [.ref qt, .int (r - far / 2)])) qp=some (.lst vs):=by rw[j8 ht.symm,j8 hpp.symm]; exact hqp
 have T2:=T1.trans (Tups.upd hq1 (.lst (vs.take i.toNat++V.ref tq::vs.drop i.toNat)))
 have pc:PcAt (upd (upd H5 p (.lst [.int N2])) tq (.tup [.ref qt, .int (r - far / 2)])) (.ref tq) (ts,r - far / 2):=⟨tq,qt,rfl,j5,T1 _ _ hqt⟩
 refine nx _ N2 _ (pcs.take i.toNat++(ts,r - far / 2)::pcs.drop i.toNat) ⟨?_,b1,?_,S.rm,?_,S.rl,S.ne,S1.kp.updNew hH _⟩ j5 ?_ ?_ ?_
 ·rw[j8 hpp]; exact S1.hp
 ·exact(Tups.upd hq1 _) _ _ S1.hm
 ·rw[j8 hne]; exact S1.hl
 ·exact PcsAt.put (pc.mono (Tups.upd hq1 _)) _ (hv.mono T2)
 ·intro c hc
  rcases aM.mp hc with h | h
  ·exact hg c (cw h)
  ·rcases aF.mp h with h | h
   ·subst h
    refine⟨lt,?_,?_⟩
    ·show -1000000000000<=r - far / 2
     rcases hf with e | e | e <;> subst e <;> lia
    ·show r - far / 2<=1000000000000
     rcases hf with e | e | e <;> subst e <;> lia
   ·exact hg c (cP h)
 ·rw[aH,aU,bN,gE]
  lia
theorem jOT (T:Txt mg)(CT:Can P w K mg lv "_law_take" 1 fT fdT ["pot","wide"] yY)(CL:Can P w K mg lv "_law_lot" 2 fL fdL ["pot","wide"] qK)(hr:Room 2 (XBox P w K mg lv f lw A lu s H0 E).A)
  {D:Ends}{H H5:Hp}{p qm ql qp:Addr}{mt mp w N far:Int}{mays lf:List Int}{vs:List V}{pcs:List (List Int×Int)}{v8 v9 v10:Option V}
  (S:St0 H H5 p w qm ql mays lf N) (hqp:H5 qp=some (.lst vs)) (hv:PcsAt H5 vs pcs) (hg:∀ pc∈pcs,GoodPc w pc) (hf:far=1\/far=10\/far=2000000000001) (hn:pcs.length<=100) (hH:H qp=none) (hpp:p≠qp) (w1:1<=w) (w2:w<=16)
  (nx:∀ H6 N' vs' pcs' ql' lf' v9' v10',St0 H H6 p w qm ql' mays lf' N'->ql'≠qp->H6 qp=some (.lst vs')->PcsAt H6 vs' pcs'->(∀ pc∈pcs',GoodPc w pc)->pcs'.length=pcs.length+1->D.nx [some (.ref p),some (.int mt),some (.int mp),some (.int w),some (.ref qm),some (.ref ql'),some (.int far),some (.ref qp),v8,v9',v10'] H6):
  (boxL T CT CL hr).1 D [some (.ref p),some (.int mt),some (.int mp),some (.int w),some (.ref qm),some (.ref ql),some (.int far),some (.ref qp),v8,v9,v10] H5:=by
 refine⟨_,rfl,p,N,3,rfl,S.hp,S.hN,by decide,by decide,fun N1 r1 a1 a2 a3=>⟨_,_,rfl,rfl,?_⟩⟩
 have S1:=S.step ((Keep.refl _ _).upd (.lst [.int N1])) j5 a1
 have hq1:(upd H5 p (.lst [.int N1])) qp=some (.lst vs):=by rw[j8 hpp.symm]; exact hqp
 have hv1:=hv.mono (Tups.upd S.hp (.lst [.int N1]))
 generalize upd H5 p (.lst [.int N1])=H6 at S1 hq1 hv1 ⊢
 clear S hqp hv
 obtain⟨l1,e1,g1⟩:=jOK S1.rl none (some (1+r1))
 obtain⟨l2,e2,g2⟩:=jOK S1.rl (some (1+r1)) none
 refine⟨_,rfl,_,rfl,1+r1,rfl,ql,_,rfl,SqL.of S1.hl,fun x hx=>⟨x,_,rfl, .inl ⟨SqL.of j5,fun qt hqt=>?_⟩⟩⟩
 rw[e1] at hqt ⊢
 have k1:Keep H6 (upd (upd H6 x (.lst (l1.map V.int))) qt (.tup (l1.map V.int))) p:=((Keep.refl _ _).new hx _).new hqt _
 obtain⟨t1,t2⟩:=yC hqt
 have px:p≠x:=jA S1.hp hx
 have pt:p≠qt:=jA S1.hp t2
 have qx:qp≠x:=jA hq1 hx
 have qq:qp≠qt:=jA hq1 t2
 have S2:=S1.step k1 (by rw[j8 pt,j8 px]; exact S1.hp) S1.hN
 have hq2:(upd (upd H6 x (.lst (l1.map V.int))) qt (.tup (l1.map V.int))) qp=some (.lst vs):=by rw[j8 qq,j8 qx]; exact hq1
 have hv2:=hv1.mono (k1.tups S1.hp)
 have ht2:(upd (upd H6 x (.lst (l1.map V.int))) qt (.tup (l1.map V.int))) qt=some (.tup (l1.map V.int)):=j5
 generalize upd (upd H6 x (.lst (l1.map V.int))) qt (.tup (l1.map V.int))=H7 at S2 hq2 hv2 ht2 ⊢
 clear k1 hqt t2 hx S1 hq1 hv1
 refine⟨_,rfl,_,rfl,1+r1,rfl,ql,_,rfl,SqL.of S2.hl,fun ql' hql=>?_⟩
 rw[e2]
 have pl:p≠ql':=jA S2.hp hql
 have k2:Keep H7 (upd H7 ql' (.lst (l2.map V.int))) p:=(Keep.refl _ _).new hql _
 have S3':=S2.step k2 (by rw[j8 pl]; exact S2.hp) S2.hN
 have S3:St0 H (upd H7 ql' (.lst (l2.map V.int))) p w qm ql' mays l2 N1:=⟨S3'.hp,S3'.hN,S3'.hm,S3'.rm,j5,g2,pl.symm,S3'.kp⟩
 have hne:qp≠ql':=jA hq2 hql
 have hq3:(upd H7 ql' (.lst (l2.map V.int))) qp=some (.lst vs):=by rw[j8 hne]; exact hq2
 have hv3:=hv2.mono (k2.tups S2.hp)
 have ht3:=k2.tups S2.hp _ _ ht2
 generalize upd H7 ql' (.lst (l2.map V.int))=H8 at S3 hq3 hv3 ht3 ⊢
 clear k2 S3' S2 hq2 hv2 ht2 hql
 refine⟨_,rfl,(by show 0<=sizeLine; exact bi _),fun z hz=>⟨qt,z,l1.map V.int,rfl,rfl,SqT.of ?_,SqT.of j5,_,rfl,?_⟩⟩
 ·rw[j8 (jA ht3 hz)]; exact ht3
 have pz:p≠z:=jA S3.hp hz
 have qz:qp≠z:=jA hq3 hz
 have k3:Keep H8 (upd H8 z (.tup [])) p:=(Keep.refl _ _).new hz _
 have S4:=S3.step k3 (by rw[j8 pz]; exact S3.hp) S3.hN
 have hq4:(upd H8 z (.tup [])) qp=some (.lst vs):=by rw[j8 qz]; exact hq3
 have hv4:=hv3.mono (k3.tups S3.hp)
 have ht4:=k3.tups S3.hp _ _ ht3
 generalize upd H8 z (.tup [])=H9 at S4 hq4 hv4 ht4 ⊢
 clear k3 S3 hq3 hv3 ht3 hz pz qz
 refine ite2 (fun hy=>?_) (fun hy=>?_)
 ·refine⟨_,rfl,_,rfl,p,N1,w,rfl,S4.hp,S4.hN,w1,w2,fun q N2 ts H' b1 lt b2 b3 b4=>?_⟩
  exact jI0 T CT CL hr (S4.step b4 b3 b1) (b4 _ _ hq4 hpp.symm) (hv4.mono (b4.tups S4.hp)) hg b2 lt hf hn hH hne.symm hpp fun H6 N' vs' pcs' z1 z2 z3 z4 z5=>nx H6 N' vs' pcs' ql' l2 _ _ z1 hne.symm z2 z3 z4 z5
 ·have nl:l1≠ []:=fun e=>hy (az (by rw[e]; rfl))
  exact jI0 T CT CL hr S4 hq4 hv4 hg ht4 ⟨g1.ris,g1.bnd,nl⟩ hf hn hH hne.symm hpp fun H6 N' vs' pcs' z1 z2 z3 z4 z5=>nx H6 N' vs' pcs' ql' l2 _ _ z1 hne.symm z2 z3 z4 z5
def Told (H:Hp)(p:Addr)(mt mp:Int)(R:VK):Prop:=∀ (b:Addr) (N' w:Int) (mays:List Int) (pcs:List (List Int×Int)) (H':Hp),0<=N'->H' p=some (.lst [.int N'])->BoxAt H' b w mays pcs->Good mt mp w mays pcs->Keep H H' p->R (.ref b) H'
theorem jI1 (T:Txt mg)(CT:Can P w K mg lv "_law_take" 1 fT fdT ["pot","wide"] yY)(CL:Can P w K mg lv "_law_lot" 2 fL fdL ["pot","wide"] qK)(hr:Room 2 (XBox P w K mg lv f lw A lu s H0 E).A)
  {D:Ends}{H H5:Hp}{p qm ql:Addr}{mt mp w N:Int}{mays lf:List Int}{v6 v7 v8 v9 v10:Option V}
  (S:St0 H H5 p w qm ql mays lf N) (hpH:∃ o,H p=some o) (w0:0<=w) (w1:w<=mt) (w2:mt<=16) (n0:0<=mp) (n1:mp<=32) (q:Told H p mt mp D.rt):
  (boxC T CT CL hr).1 D [some (.ref p),some (.int mt),some (.int mp),some (.int w),some (.ref qm),some (.ref ql),v6,v7,v8,v9,v10] H5:=by
 refine⟨(by show 3<=sizeLine; decide),fun l hl=>?_⟩
 have pl:p≠l:=jA S.hp hl
 refine⟨_,rfl,p,N,3,rfl,by rw[j8 pl]; exact S.hp,S.hN,by decide,by decide,fun N1 r a1 a2 a3=>?_⟩
 obtain⟨far,hfar,hf⟩:∃ far:Int,atI [V.int 1,V.int 10,V.int 2000000000001] r=some (.int far)/\(far=1\/far=10\/far=2000000000001):=by
  rcases (show r=0\/r=1\/r=2 by lia) with e | e | e
  ·subst e; exact⟨_,rfl, .inl rfl⟩
  ·subst e; exact⟨_,rfl, .inr (.inl rfl)⟩
  ·subst e; exact⟨_,rfl, .inr (.inr rfl)⟩
 refine⟨l,_,r,_,rfl,rfl,SqL.of (by rw[j8 pl.symm]; exact j5),hfar,?_⟩
 have S1:=S.step ((((Keep.refl _ _).new hl (.lst [V.int 1,V.int 10,V.int 2000000000001])).upd (.lst [.int N1]))) j5 a1
 generalize upd (upd H5 l (.lst [V.int 1,V.int 10,V.int 2000000000001])) p (.lst [.int N1])=H6 at S1 ⊢
 clear hl S
 refine⟨(by show 0<=sizeLine; exact bi _),fun qp hqp=>?_⟩
 have pq:p≠qp:=jA S1.hp hqp
 have hHq:H qp=none:=by
  cases e:H qp with
  | none=>rfl
  | some o=>
   have:=S1.kp _ _ e pq.symm
   rw[hqp] at this
   cases this
 have lq:ql≠qp:=jA S1.hl hqp
 have S2:=S1.step ((Keep.refl _ _).new hqp (.lst [])) (by rw[j8 pq]; exact S1.hp) S1.hN
 have hq2:(upd H6 qp (.lst [])) qp=some (.lst []):=j5
 generalize upd H6 qp (.lst [])=H7 at S2 hq2 ⊢
 clear hqp S1
 refine⟨_,rfl,_,rfl,_,_,rfl,rfl,p,N1,_,rfl,S2.hp,S2.hN,by lia,by lia,fun N2 n b1 b2 b3=>?_⟩
 refine⟨_,rfl,_,_,rfl,rfl, .inr ⟨_,rfl,_,_,rfl,rfl, .inl ⟨by lia,by lia⟩,_,rfl,?_⟩⟩
 have S3:=S2.step ((Keep.refl _ _).upd (.lst [.int N2])) j5 b1
 have hq3:(upd H7 p (.lst [.int N2])) qp=some (.lst []):=by rw[j8 pq.symm]; exact hq2
 generalize upd H7 p (.lst [.int N2])=H8 at S3 hq3 ⊢
 clear S2 hq2
 obtain⟨m,em,hm,hw⟩:∃ m:Int,n*(if decide (0<w)=true then 1 else 0)=m/\(0<=m/\m<=mp)/\(0<m->1<=w):=by
  by_cases h:0<w
  ·exact⟨n,by simp [h],⟨b2,by lia⟩,fun _=>h⟩
  ·exact⟨0,by simp [h],⟨by lia,n0⟩,fun z=>by lia⟩
 show _/\_/\_
 rw[show (n*(if decide (0<w)=true then 1 else 0))=m from em]
 refine⟨by lia,by lia,jBG (n:=m.toNat) (fun i σ H5=>∃ ql' lf' N' vs pcs v8 v9 v10,σ=[some (.ref p),some (.int mt),some (.int mp),some (.int w),some (.ref qm),some (.ref ql'),some (.int far),some (.ref qp),v8,v9,v10]/\St0 H H5 p w qm ql' mays lf' N'/\ql'≠qp/\H5 qp=some (.lst vs)/\PcsAt H5 vs pcs/\(∀ pc∈pcs,GoodPc w pc)/\pcs.length=i) ?_ ?_ ?_⟩
 ·exact⟨ql,lf,N2,[],[],_,_,_,rfl,S3,lq,hq3,trivial,(fun _ h=>by cases h),rfl⟩
 ·rintro i σ H9 hi ⟨ql',lf',N',vs,pcs,x8,x9,x10,rfl,S4,l4,hq4,hv4,hg4,e4⟩
  exact jOT T CT CL hr S4 hq4 hv4 hg4 hf (by lia) hHq pq (hw (by lia)) (by lia) fun H6 N' vs' pcs' ql' lf' v9' v10' z1 z2 z3 z4 z5 z6=>⟨ql',lf',N',vs',pcs',_,_,_,rfl,z1,z2,z3,z4,z5,by lia⟩
 ·rintro σ H9 ⟨ql',lf',N',vs,pcs,x8,x9,x10,rfl,S4,l4,hq4,hv4,hg4,e4⟩
  refine⟨_,rfl,_,rfl,_,rfl,qp,vs,rfl, .inl ⟨SqL.of hq4,fun tq htq=>⟨(by show 3<=sizeLine; decide),fun b hb=>?_⟩⟩⟩
  have k1:Keep H9 (upd H9 tq (.tup vs)) p:=(Keep.refl _ _).new htq _
  have k2:Keep H9 (upd (upd H9 tq (.tup vs)) b (.tup [.int w, .ref qm, .ref tq])) p:=k1.new hb _
  have tb:=jA j5 hb
  have S5:=S4.step k2 (by rw[j8 (yC hb |>.2 |> fun h=>jA S4.hp h),j8 (jA S4.hp htq)]; exact S4.hp) S4.hN
  exact q b N' w mays pcs _ S4.hN S5.hp ⟨qm,tq,vs,j5,S5.hm,by rw[j8 tb]; exact j5,hv4.mono (k2.tups S4.hp)⟩ ⟨w0,w1,S4.rm,by lia,hg4⟩ S5.kp
theorem jI2 (T:Txt mg)(CT:Can P w K mg lv "_law_take" 1 fT fdT ["pot","wide"] yY)(CL:Can P w K mg lv "_law_lot" 2 fL fdL ["pot","wide"] qK)(hr:Room 2 (XBox P w K mg lv f lw A lu s H0 E).A)
  {D:Ends}{H H5:Hp}{p qm:Addr}{mt mp w N:Int}{mays:List Int}{v5 v6 v7 v8 v9 v10:Option V}
  (hp:H5 p=some (.lst [.int N])) (hN:0<=N) (hm:H5 qm=some (.tup (mays.map V.int))) (rm:Ris w mays) (kp:Keep H H5 p) (hpH:∃ o,H p=some o) (w0:0<=w) (w1:w<=mt) (w2:mt<=16) (n0:0<=mp) (n1:mp<=32) (q:Told H p mt mp D.rt):
  (boxB T CT CL hr).1 D [some (.ref p),some (.int mt),some (.int mp),some (.int w),some (.ref qm),v5,v6,v7,v8,v9,v10] H5:=by
 refine⟨_,rfl,w,rfl,fun x hx=>⟨x,w,rfl,j5,w0,by lia,fun ql hql=>?_⟩⟩
 rw[jO4]
 have px:p≠x:=jA hp hx
 have pl:p≠ql:=jA hp (yC hql).2
 have k1:Keep H5 (upd (upd H5 x (.rng 0 w)) ql (.lst ((upto w.toNat).map V.int))) p:=((Keep.refl _ _).new hx _).new hql _
 have e:((w.toNat:Nat):Int)=w:=by lia
 have rl:Ris w (upto w.toNat):=by
  have:=yB w.toNat
  rw[e] at this
  exact this
 have S:St0 H (upd (upd H5 x (.rng 0 w)) ql (.lst ((upto w.toNat).map V.int))) p w qm ql mays (upto w.toNat) N:=
  ⟨by rw[j8 pl,j8 px]; exact hp,hN,k1 qm _ hm (ne_of hm hp (by intro z; cases z)),rm,j5,rl,pl.symm,kp.trans k1⟩
 generalize upd (upd H5 x (.rng 0 w)) ql (.lst ((upto w.toNat).map V.int))=H6 at S ⊢
 clear k1 hql hx hp hm kp
 refine⟨_,rfl,p,N,3,rfl,S.hp,S.hN,by decide,by decide,fun N1 r a1 a2 a3=>⟨rfl,_,rfl,?_⟩⟩
 have S1:=S.step ((Keep.refl _ _).upd (.lst [.int N1])) j5 a1
 generalize upd H6 p (.lst [.int N1])=H7 at S1 ⊢
 clear S
 refine ite2 (fun hy=>?_) (fun hy=>?_)
 ·refine⟨(by show 0<=sizeLine; exact bi _),fun l hl=>?_⟩
  have pl2:p≠l:=jA S1.hp hl
  have S2:=S1.step ((Keep.refl _ _).new hl (.lst [])) (by rw[j8 pl2]; exact S1.hp) S1.hN
  have S3:St0 H (upd H7 l (.lst [])) p w qm l mays [] N1:=⟨S2.hp,S2.hN,S2.hm,S2.rm,j5,Ris.nil w,pl2.symm,S2.kp⟩
  exact jI1 T CT CL hr S3 hpH w0 w1 w2 n0 n1 q
 ·exact jI1 T CT CL hr S1 hpH w0 w1 w2 n0 n1 q
theorem jOU (T:Txt mg)(CT:Can P w K mg lv "_law_take" 1 fT fdT ["pot","wide"] yY)(CL:Can P w K mg lv "_law_lot" 2 fL fdL ["pot","wide"] qK)(hr:Room 2 (XBox P w K mg lv f lw A lu s H0 E).A)
  {D:Ends}{H:Hp}{p:Addr}{mt mp N:Int}
  (hp:H p=some (.lst [.int N])) (hN:0<=N) (w0:0<=mt) (w2:mt<=16) (n0:0<=mp) (n1:mp<=32) (q:Told H p mt mp D.rt):
  (boxA T CT CL hr).1 D [some (.ref p),some (.int mt),some (.int mp),none,none,none,none,none,none,none,none] H:=by
 refine⟨_,rfl,_,rfl,_,_,rfl,rfl,p,N,_,rfl,hp,hN,by lia,by lia,fun N1 w a1 a2 a3=>?_⟩
 refine⟨(by show 0<=sizeLine; exact bi _),fun t ht=>?_⟩
 have pt:p≠t:=(yC ht).1.symm
 refine⟨_,rfl,p,N1,3,rfl,by rw[j8 pt]; exact j5,a1,by decide,by decide,fun N2 r b1 b2 b3=>⟨rfl,_,rfl,?_⟩⟩
 have k1:Keep H (upd (upd (upd H p (.lst [.int N1])) t (.tup [])) p (.lst [.int N2])) p:=(((Keep.refl _ _).upd _).new ht _).upd _
 have hp1:(upd (upd (upd H p (.lst [.int N1])) t (.tup [])) p (.lst [.int N2])) p=some (.lst [.int N2]):=j5
 have ht1:(upd (upd (upd H p (.lst [.int N1])) t (.tup [])) p (.lst [.int N2])) t=some (.tup []):=by rw[j8 pt.symm]; exact j5
 generalize upd (upd (upd H p (.lst [.int N1])) t (.tup [])) p (.lst [.int N2])=H1 at k1 hp1 ht1 ⊢
 clear ht
 refine ite2 (fun hy=>?_) (fun hy=>?_)
 ·refine⟨_,rfl,w,rfl,by lia,by lia,jBV (n:=w.toNat) (by rw[aw]; lia) (fun D i σ' H' ys=>(∃ v,σ'=[v,some (.ref p)])/\(∃ (ms:List Int) (N':Int),ys=ms.map V.int/\ms.length<=i/\Ris i ms/\0<=N'/\H' p=some (.lst [.int N']))/\Keep H1 H' p/\H' D=some (.lst ys)/\D≠p/\H1 D=none) ?_ ?_ ?_ ?_⟩
  ·intro D hD
   have:p≠D:=jA hp1 hD
   exact⟨⟨_,rfl⟩,⟨[],N2,rfl,am _,Ris.nil _,b1,by rw[j8 this]; exact hp1⟩,(Keep.refl _ _).new hD _,j5,this.symm,hD⟩
  ·rintro D i σ' H' ys hD hi ⟨_,⟨ms,N',rfl,e,_⟩,_,e2,_⟩
   exact⟨e2,by rw[af]; exact e⟩
  ·rintro D i σ' H' ys hD hi ⟨⟨v,rfl⟩,⟨ms,N',rfl,e,rs,n',hp'⟩,kk,e2,dp,hn⟩
   refine⟨_,rfl,p,N',3,rfl,hp',n',by decide,by decide,fun N3 r3 c1 c2 c3=>⟨rfl,_,rfl,?_⟩⟩
   have k2:Keep H1 (upd H' p (.lst [.int N3])) p:=kk.upd _
   have e3:(upd H' p (.lst [.int N3])) D=some (.lst (ms.map V.int)):=by rw[j8 dp]; exact e2
   have hp3:(upd H' p (.lst [.int N3])) p=some (.lst [.int N3]):=j5
   generalize upd H' p (.lst [.int N3])=H'' at k2 e3 hp3 ⊢
   refine ite2 (fun hz=>?_) (fun hz=>?_)
   ·refine⟨_,rfl,e3,⟨_,rfl⟩,⟨ms++[(i:Int)],N3,?_,?_,rs.snoc,c1,by rw[j8 dp.symm]; exact hp3⟩,k2.updNew hn _,j5,dp,hn⟩
    ·rw[aS]
     show _++[V.int (0+(i:Int))]=_++[V.int (i:Int)]
     rw[ja]
    ·rw[aH]
     show ms.length+1<=i+1
     lia
   ·exact⟨⟨_,rfl⟩,⟨ms,N3,rfl,by lia,rs.step,c1,hp3⟩,k2,e3,dp,hn⟩
  ·rintro D σ' H' ys hD ⟨_,⟨ms,N',rfl,e,rs,n',hp'⟩,kk,e2,dp,hn⟩
   refine⟨D,_,rfl, .inl ⟨SqL.of e2,fun qm hqm=>?_⟩⟩
   have pm:p≠qm:=jA hp' hqm
   have e':((w.toNat:Nat):Int)=w:=by lia
   rw[e'] at rs
   exact jI2 T CT CL hr (by rw[j8 pm]; exact hp') n' j5 rs ((k1.trans kk).new hqm _) ⟨_,hp⟩ a2 (by lia) w2 n0 n1 q
 ·exact jI2 T CT CL hr hp1 b1 (mays:=[]) ht1 (Ris.nil w) k1 ⟨_,hp⟩ a2 (by lia) w2 n0 n1 q
theorem jVA {f fT fL:Addr}{fd fdT fdL:FuncData}(F:Fun K "_law_box" "_law_box" sBox f fd)(T:Txt mg)(CT:Can P w K mg lv "_law_take" 1 fT fdT ["pot","wide"] yY)(CL:Can P w K mg lv "_law_lot" 2 fL fdL ["pot","wide"] qK):
  FnOk P w K mg lv CX0 3 f fd ["pot","most_things","most_pieces"] spBox:=by
 refine F.ok scBox (fun vs H Q E h=>?_) (fun lw A lu s H vs Q E hr h=>?_)
 ·obtain⟨_,_,_,_,rfl,_⟩:=h
  rfl
 ·obtain⟨p,N,mt,mp,rfl,hp,hN,m0,m1,n0,n1,q⟩:=h
  exact⟨_,(boxA T CT CL hr).2.h,jOU T CT CL hr hp hN m0 m1 n0 n1 q⟩
inductive Ob where
 | int (i:Int)
 | oth
 | tup (os:List Ob)
def OthAt (H:Hp)(v:V):Prop:=v= .non\/(∃ b,v= .bl b)\/(∃ x,v= .str x)\/∃ a,v= .ref a/\((∃ xs,H a=some (.lst xs))\/∃ kvs,H a=some (.dK kvs))
mutual
def At (H:Hp):Ob->V->Prop
 | .int i,v=>v= .int i
 | .oth,v=>OthAt H v
 | .tup os,v=>∃ a vs,v= .ref a/\H a=some (.tup vs)/\vs.length<=100/\Ats H os vs
def Ats (H:Hp):List Ob->List V->Prop
 | [],vs=>vs=[]
 | o::os,vs=>∃ v r,vs=v::r/\At H o v/\Ats H os r
end
structure Kp (H H':Hp):Prop where
 t:Tups H H'
 l:∀ a xs,H a=some (.lst xs)->∃ ys,H' a=some (.lst ys)
 d:∀ a xs,H a=some (.dK xs)->∃ ys,H' a=some (.dK ys)
theorem Kp.of {H H':Hp}(e:Ext H H'):Kp H H':=⟨fun b xs h=>e b _ h,fun a xs h=>⟨xs,e a _ h⟩,fun a xs h=>⟨xs,e a _ h⟩⟩
theorem OthAt.mono {H H':Hp}(k:Kp H H'){v:V}(h:OthAt H v):OthAt H' v:=by
 rcases h with h | h | h | ⟨a,rfl,⟨xs,h⟩ | ⟨xs,h⟩⟩
 ·exact .inl h
 ·exact .inr (.inl h)
 ·exact .inr (.inr (.inl h))
 ·exact .inr (.inr (.inr ⟨a,rfl, .inl (k.l _ _ h)⟩))
 ·exact .inr (.inr (.inr ⟨a,rfl, .inr (k.d _ _ h)⟩))
mutual
theorem At.mono {H H':Hp}(k:Kp H H'):∀ (o:Ob) (v:V),At H o v->At H' o v
 | .int _,_,h=>h
 | .oth,_,h=>OthAt.mono k h
 | .tup os,_,⟨a,vs,e,h,n,r⟩=>⟨a,vs,e,k.t _ _ h,n,Ats.mono k os vs r⟩
theorem Ats.mono {H H':Hp}(k:Kp H H'):∀ (os:List Ob) (vs:List V),Ats H os vs->Ats H' os vs
 | [],_,h=>h
 | o::os,_,⟨v,r,e,h,t⟩=>⟨v,r,e,At.mono k o v h,Ats.mono k os r t⟩
end
theorem At.ext {H H':Hp}(e:Ext H H'){o:Ob}{v:V}(h:At H o v):At H' o v:=At.mono (.of e) o v h
theorem Ats.len {H:Hp} :∀ {os:List Ob}{vs:List V},Ats H os vs->vs.length=os.length
 | [],_,h=>by cases (show _=[] from h); rfl
 | o::os,_,⟨v,r,e,h,t⟩=>by rw[e,aU,aU,Ats.len t]
theorem Ats.get {H:Hp} :∀ {os:List Ob}{vs:List V},Ats H os vs->∀ {i:Nat}{v:V},vs[i]?=some v->∃ o,os[i]?=some o/\At H o v
 | [],_,h,i,v,e=>by cases (show _=[] from h); cases e
 | o::os,_,⟨v,r,e,h,t⟩,0,v',e'=>by subst e; cases e'; exact⟨o,rfl,h⟩
 | o::os,_,⟨v,r,e,h,t⟩,i+1,v',e'=>by subst e; exact Ats.get t (i:=i) e'
theorem Ats.ints {H:Hp} :∀ (l:List Int),Ats H (l.map Ob.int) (l.map V.int)
 | []=>rfl
 | i::r=>⟨.int i,_,rfl,rfl,Ats.ints r⟩
def isInt:Ob->Bool
 | .int _=>true
 | _=>false
def isTup:Ob->Bool
 | .tup _=>true
 | _=>false
def upB (lo hi:Int):Ob->Bool
 | .int i=>decide (lo<=i)&&decide (i<=hi)
 | _=>false
def val:Ob->Int
 | .int i=>i
 | _=>0
def adj (is:List Int):List Bool:=(List.range (is.length - 1)).map fun k=>decide (is.getD k 0<is.getD (k+1) 0)
def risB:Ob->Bool
 | .tup os=>os.all isInt&&(adj (os.map val)).all id
 | _=>false
def lotB (w:Int):Ob->Bool
 | .tup os=>os.all (upB 0 (w - 1))&&(adj (os.map val)).all id
 | _=>false
def lotB' (w:Int)(o:Ob):Bool:=risB o&&match o with
 | .tup os=>decide (os=[]) || (decide (0<=(os.map val).getD 0 0)&&decide ((os.map val).getLastD 0<w))
 | _=>false
theorem jU6 {is:List Int}(h:(adj is).all id=true){k:Nat}(hk:k+1<is.length):is.getD k 0<is.getD (k+1) 0:=by
 rw[bJ] at h
 exact aG (h _ (aW.mpr ⟨k,bG.mpr (by lia),rfl⟩))
theorem jP1 {is:List Int}(h:(adj is).all id=true):∀ (j k:Nat),j<=k->k<is.length->is.getD j 0<=is.getD k 0
 | j,0,h1,_=>by
  have:j=0:=by lia
  subst this
  exact dA _
 | j,k+1,h1,h2=>by
  rcases eX k j with q | q
  ·have:j=k+1:=by lia
   subst this
   exact dA _
  ·have a:=jP1 h j k q (by lia)
   have b:=jU6 h h2
   lia
theorem jVH (w:Int)(o:Ob):lotB' w o=lotB w o:=by
 cases o with
 | int i=>rfl
 | oth=>rfl
 | tup os=>
  rw[bV]
  unfold lotB' risB lotB
  simp only [bI,gX,iJ]
  constructor
  ·rintro ⟨⟨a,b⟩,c⟩
   refine⟨?_,b⟩
   rw[bJ] at a ⊢
   intro x hx
   obtain⟨j,hj,rfl⟩:=eF hx
   have hi:=a _ hx
   have e:os≠ []:=fun e=>by subst e; cases hx
   obtain⟨c1,c2⟩:=c.resolve_left e
   have hl:(os.map val).length=os.length:=af _
   have g:(os.map val).getD j 0=val os[j]:=by
    rw[aC,aR]
    simp [hj]
   have l1:=jP1 b 0 j (by lia) (by lia)
   have l2:=jP1 b j (os.length - 1) (by lia) (by lia)
   have l3:(os.map val).getLastD 0=(os.map val).getD (os.length - 1) 0:=by
    rw[eZ,fb,aC,hl]
   rw[g] at l1 l2
   rw[l3] at c2
   cases e2:os[j] with
   | int i=>
    rw[e2] at l1 l2
    simp only [val] at l1 l2
    simp only [upB,bI,iJ]
    lia
   | oth=>rw[e2] at hi; cases hi
   | tup r=>rw[e2] at hi; cases hi
  ·rintro ⟨a,b⟩
   rw[bJ] at a
   refine⟨⟨?_,b⟩,?_⟩
   ·rw[bJ]
    intro x hx
    have:=a x hx
    cases x with
    | int i=>rfl
    | oth=>cases this
    | tup r=>cases this
   ·by_cases e:os=[]
    ·exact .inl e
    ·refine .inr ?_
     have key:∀ j,j<os.length->0<=(os.map val).getD j 0/\(os.map val).getD j 0<w:=fun j hj=>by
      have g:(os.map val).getD j 0=val os[j]:=by
       rw[aC,aR]
       simp [hj]
      have:=a os[j] (cQ hj)
      rw[g]
      cases e2:os[j] with
      | int i=>
       rw[e2] at this
       simp only [upB,bI,iJ] at this
       simp only [val]
       lia
      | oth=>rw[e2] at this; cases this
      | tup r=>rw[e2] at this; cases this
     have hpos:0<os.length:=by
      cases os with
      | nil=>exact absurd rfl e
      | cons _ _=>simp
     have l3:(os.map val).getLastD 0=(os.map val).getD (os.length - 1) 0:=by
      rw[eZ,fb,aC,af]
     rw[l3]
     exact⟨(key 0 hpos).1,(key (os.length - 1) (by lia)).2⟩
theorem Ats.allInt {H:Hp} :∀ {os:List Ob}{vs:List V},Ats H os vs->os.all isInt=true->vs=(os.map val).map V.int
 | [],_,h,_=>by cases (show _=[] from h); rfl
 | o::os,_,⟨v,r,e,h,t⟩,ha=>by
  rw[iM,bI] at ha
  subst e
  rw[br,br,<- Ats.allInt t ha.2]
  cases o with
  | int i=>cases (show v= .int i from h); rfl
  | oth=>cases ha.1
  | tup _=>cases ha.1
theorem jW7 (l:List Ob)(F:Ob->Bool):(l.map F).all id=l.all F:=by
 rw[i8]
 rfl
theorem jU5 (is:List Int):(adj is).length=is.length - 1:=by
 unfold adj
 rw[af,bR]
theorem jW8 {is:List Int}{k:Nat}(h:k<is.length - 1):(adj is)[k]?=some (decide (is.getD k 0<is.getD (k+1) 0)):=by
 unfold adj
 rw[aR,cI h]
 rfl
theorem jQT {is:List Int}{k:Nat}(h:k<is.length - 1):(adj is).take (k+1)=(adj is).take k++[decide (is.getD k 0<is.getD (k+1) 0)]:=by
 rw[bg,jW8 h]
 rfl
theorem getI {is:List Int}{k:Nat}(h:k<is.length):(is.map V.int)[k]?=some (.int (is.getD k 0)):=by
 rw[aR,aC]
 simp [h]
theorem At.ty (K:W.Frag){H:Hp}{o:Ob}{v:V}(h:At H o v):∃ t,TyOf K H v t/\kitOne K t (.type "tuple")=some (isTup o)/\∃ b1 b2,kitOne K t (.type "int")=some b1/\kitOne K t (.type "bool")=some b2/\(b1&&!b2)=isInt o:=by
 cases o with
 | int i=>
  cases (show v= .int i from h)
  exact⟨_, .int i,rfl,true,false,rfl,rfl,rfl⟩
 | oth=>
  rcases (show OthAt H v from h) with rfl | ⟨b,rfl⟩ | ⟨x,rfl⟩ | ⟨a,rfl,⟨xs,e⟩ | ⟨xs,e⟩⟩
  ·exact⟨_, .non,rfl,false,false,rfl,rfl,rfl⟩
  ·exact⟨_, .bl b,rfl,true,true,rfl,rfl,rfl⟩
  ·exact⟨_, .str x,rfl,false,false,rfl,rfl,rfl⟩
  ·exact⟨_, .lst e,rfl,false,false,rfl,rfl,rfl⟩
  ·exact⟨_, .dK e,rfl,false,false,rfl,rfl,rfl⟩
 | tup os=>
  obtain⟨a,vs,rfl,e,_⟩:=h
  exact⟨_, .tup e,rfl,false,false,rfl,rfl,rfl⟩
theorem At.tupOf {H:Hp}{o:Ob}{v:V}(h:At H o v)(t:isTup o=true):∃ os a vs,o= .tup os/\v= .ref a/\H a=some (.tup vs)/\vs.length<=100/\Ats H os vs:=by
 cases o with
 | int i=>cases t
 | oth=>cases t
 | tup os=>
  obtain⟨a,vs,e1,e2,e4,e3⟩:=h
  exact⟨os,a,vs,rfl,e1,e2,e4,e3⟩
theorem jOL {K:W.Frag}{m:List (Option Nat)}{g:TG}{tt:TT}{te:TE}{σ:St}{H1:Hp}{Q:VK}{a:Addr}{xs:List V}{os:List Ob}{F:Ob->Bool}(ha:H1 a=some (.tup xs))(hx:Ats H1 os xs)(hn:xs.length<sizeLine)(σP:St->Prop)(h0:σP (blkσ m σ))
  (step:∀ (σ':St) (H':Hp) (v:V) (o:Ob) (R:St->V->Hp->Prop) (S:St->Hp->Prop),σP σ'->Ext H1 H'->At H' o v->(∀ σ2 H'',σP σ2->Ext H' H''->R σ2 (.bl (F o)) H'')->g v σ' H' fun σ2 H2=>tt σ2 H2 fun b H3=>if b=true then te σ2 H3 (R σ2) else S σ2 H3)
  (hd:∀ D H',Ext H1 H'->H' D=some (.lst ((os.map F).map V.bl))->Q (.ref D) H'):qI m g tt te σ Q (Itt K a) H1:=by
 have hl:=hx.len
 refine jAJ (xs:=xs) hn (fun D i σ' H' zs=>σP σ'/\Ext H1 H'/\H' D=some (.lst zs)/\H1 D=none/\zs=((os.take i).map F).map V.bl) ?_ ?_ ?_ ?_
 ·intro D hD
  exact⟨h0,(Ext.refl _).new hD _,j5,hD,rfl⟩
 ·rintro D i σ' H' zs hD ⟨_,e,h2,_,rfl⟩
  refine⟨e _ _ ha,h2,?_⟩
  rw[af,af,bN]
  lia
 ·rintro D i σ' H' zs x hD hi ⟨p,e,h2,hn,rfl⟩
  obtain⟨o,ho,hAt⟩:=hx.get hi
  refine step σ' H' x o _ _ p e (hAt.ext e) fun σ2 H'' p2 e2=>⟨e2 _ _ h2,p2,(e.trans e2).updNew hn _,j5,hn,?_⟩
  have:os.take (i+1)=os.take i++[o]:=by
   rw[bg,ho]
   rfl
  rw[this,aS,aS]
  rfl
 ·rintro D σ' H' zs hD ⟨_,e,h2,_,rfl⟩
  rw[hl,bw] at h2
  exact hd D H' e h2
abbrev XOf (N:List Str)(q:Str)(st:Stmt)(P:Program)(w:World)(K:W.Frag)(mg:Str->Option Value)(lv:Heap)(f:Addr)(lw:Value)(A:Around)(lu:List Env)(s:Shared)(H:Hp)(E:XK):Cx:=(cxOf CX0 P w K mg lv N q (j6 st) f lw A lu s H E).nox
abbrev jN3:List Str:=["thing"]
theorem scWhole0:FnScope jN3 ["thing"] (j6 jC0):= {}
def spWh:Sp:=fun vs H Q _=>∃ v o,vs=[v]/\At H o v/\Q (.bl (isInt o)) H
def jRZ (T:Txt mg): { t:TS // JSs (XOf jN3 "is_whole" jC0 P w K mg lv f lw A lu s H0 E) (jC jC0) t} :=
 have nd:=scWhole0.nd
 ⟨_,(jB (jN ((jFE (jH jA5 gD T.isinstance (by decide+kernel) (j3 (jv 0 rfl vL) (j3 (jC3 (v:= .ty "int") gD T.int (by decide+kernel) rfl) j7 j4) j4) j4) (jFD (jNV (jH jA5 gD T.isinstance (by decide+kernel) (j3 (jv 0 rfl vL) (j3 (jC3 (v:= .ty "bool") gD T.bool (by decide+kernel) rfl) j7 j4) j4) j4)))))))⟩
theorem jMS {fd:FuncData}(F:Fun K "is_whole" "is_whole" jC0 f fd)(T:Txt mg):FnOk P w K mg lv CX0 1 f fd ["thing"] spWh:=by
 refine F.ok scWhole0 (fun vs H Q E h=>?_) (fun lw A lu s H vs Q E hr h=>?_)
 ·obtain⟨_,_,rfl,_⟩:=h
  rfl
 ·obtain⟨v,o,rfl,hA,q⟩:=h
  obtain⟨t,ty,_,b1,b2,k1,k2,e⟩:=hA.ty K
  refine⟨_,(jRZ T).2.h,?_⟩
  refine⟨_,rfl,_,_,_,b1,rfl,ty,k1,b1,rfl,?_⟩
  rw[<- e] at q
  cases b1 with
  | true=>exact iteT ⟨_,rfl,_,_,_,b2,rfl,ty,k2,b2,rfl,q⟩
  | false=>exact iteF q
abbrev jED:List Str:=["thing"]
theorem scRising:FnScope jED ["thing"] (j6 jAK):= {}
def spB (F:Ob->Bool):Sp:=fun vs H Q _=>∃ v o,vs=[v]/\At H o v/\∀ H',Ext H H'->Q (.bl (F o)) H'
def jS4 (T:Txt mg)(CW:Can P w K mg lv "is_whole" 1 fW fdW ["thing"] spWh)(hr:Room 1 (XOf jED "is_rising" jAK P w K mg lv f lw A lu s H0 E).A): { t:TS // JSs (XOf jED "is_rising" jAK P w K mg lv f lw A lu s H0 E) (jC jAK) t} :=
 have nd:=scRising.nd
 ⟨_,(jD (yU (jCI (qF (jH jA5 gD T.isinstance (by decide+kernel) (j3 (jv 0 rfl vC) (j3 (jC3 (v:= .ty "tuple") gD T.tuple (by decide+kernel) rfl) j7 j4) j4) j4) yW)) (jB (jN (je_bl))) kU)
   (jD (yU (jCI (qF (jH (jAV rfl) gD T.all (by decide+kernel) (j3 (jR (m:=[none]) (Nc:=["number"]) rfl (qC (jv 0 rfl vC)) rfl (by decide+kernel) (by decide+kernel) (jG (psc:=j6 jAK)) (jF (N:=jED) rfl rfl (by decide+kernel)) (fun cl C fp s H=>jJ (i:=0) (show (["number"]:List Str).Nodup by decide+kernel) rfl y9) (fun cl C fp s H=>kG) (fun cl C fp s H=>(CW.je hr gl_b (j3 (jv 0 rfl jL) j7 j4) j4)) y6) j7 jE) jE) yW)) (jB (jN (je_bl))) kU)
   (jB (jN (jH (jAV rfl) gD T.all (by decide+kernel) (j3 (jR (m:=[none,some 0]) (Nc:=["k","thing"]) rfl (jNT gD T.range (j3 (je_int) (j3 (jH jY gD T.len (by decide+kernel) (j3 (jv 0 rfl vC) j7 j4) j4) j7 jI) kQ) kQ jI) rfl (by decide+kernel) (by decide+kernel) (jG (psc:=j6 jAK)) (jF (N:=jED) rfl rfl (by decide+kernel)) (fun cl C fp s H=>jJ (i:=0) (show (["k","thing"]:List Str).Nodup by decide+kernel) rfl y9) (fun cl C fp s H=>kG) (fun cl C fp s H=>(yR op_lt (kB yM (jv 1 rfl kD) (kN jDE (jv 0 rfl jL) (je_int)) jR7) (kB yM (jv 1 rfl kD) (jv 0 rfl jL) jCV) (kI _))) kE) j7 jE) jE)))))⟩
theorem jMT {fd:FuncData}(F:Fun K "is_rising" "is_rising" jAK f fd)(T:Txt mg)(CW:Can P w K mg lv "is_whole" 1 fW fdW ["thing"] spWh):FnOk P w K mg lv CX0 2 f fd ["thing"] (spB risB):=by
 refine F.ok scRising (fun vs H Q E h=>?_) (fun lw A lu s H vs Q E hr h=>?_)
 ·obtain⟨_,_,rfl,_⟩:=h
  rfl
 ·obtain⟨v,o,rfl,hA,q⟩:=h
  obtain⟨t,ty,kt,_⟩:=hA.ty K
  refine⟨_,(jS4 T CW hr).2.h,?_⟩
  refine⟨_,rfl,_,_,_,_,rfl,ty,kt,_,rfl,?_⟩
  cases ht:isTup o with
  | false=>
   refine iteT ?_
   have:risB o=false:=by cases o <;> first | rfl | cases ht
   rw[<- this]
   exact q H (Ext.refl H)
  | true=>
   refine iteF ?_
   obtain⟨os,a,vs,rfl,rfl,ha,h100,hx⟩:=hA.tupOf ht
   have hl:=hx.len
   have hn:vs.length<sizeLine:=by rw[aw]; lia
   ·refine⟨_,rfl,a,rfl,⟨_,SqT.of ha⟩,jOL (F:=isInt) ha hx hn (fun σ'=>∃ v,σ'=[v]) ⟨_,rfl⟩ ?_ ?_⟩
    ·rintro σ' H' v o R S ⟨u,rfl⟩ e hA k
     dsimp only [kO,yJ]
     rw[ar rfl]
     exact⟨_,rfl,v,o,rfl,hA,k _ H' ⟨_,rfl⟩ (Ext.refl _)⟩
    ·intro D H1 e1 hD
     refine⟨D,_,rfl,SqL.of hD,_,rfl,?_⟩
     rw[jW7]
     cases hi:os.all isInt with
     | false=>
      refine iteT ?_
      have:risB (.tup os)=false:=by
       show (os.all isInt&&_)=false
       rw[hi]
       rfl
      rw[<- this]
      exact q H1 e1
     | true=>
      refine iteF ?_
      have hv:=hx.allInt hi
      have hN:(os.map val).length=os.length:=af _
      refine⟨_,rfl,a,_,rfl, .inr (SqT.of (e1 _ _ ha)),1,_,rfl,⟨by decide,by decide,by lia,by rw[aw] at hn; lia⟩,jBV (n:=((vs.length:Int) - 1).toNat) (by lia) (fun D i σ' H' zs=>(∃ v,σ'=[v,some (.ref a)])/\zs=((adj (os.map val)).take i).map V.bl/\H'=upd H1 D (.lst zs)) ?_ ?_ ?_ ?_⟩
      ·intro D hD
       exact⟨⟨_,rfl⟩,rfl,rfl⟩
      ·rintro D i σ' H' zs hD hi2 ⟨_,rfl,rfl⟩
       refine⟨j5,?_⟩
       rw[af,bN]
       lia
      ·rintro D i σ' H' zs hD hi2 ⟨⟨v,rfl⟩,rfl,rfl⟩
       have hi3:i<(os.map val).length - 1:=by lia
       have ha':(upd H1 D (.lst (((adj (os.map val)).take i).map V.bl))) a=some (.tup ((os.map val).map V.int)):=by
        rw[j8 (jA (e1 _ _ ha) hD),e1 _ _ ha,hv]
       dsimp only [kO,yJ]
       rw[ar rfl]
       have e0:(1+(i:Int)) - 1=(i:Int):=by lia
       have e2:(1+(i:Int))=((i+1:Nat):Int):=by lia
       refine⟨_,rfl,_,rfl,_,_,rfl,rfl,a,_,_,_,rfl,rfl,SqT.of ha',by rw[e0]; exact jAO (getI (by lia)),_,rfl,_,rfl,a,_,_,_,rfl,rfl,SqT.of ha',by rw[e2]; exact jAO (getI (by lia)),_,_,rfl,rfl,j5,⟨_,rfl⟩,?_,jCR⟩
       rw[jQT hi3,aS]
       rfl
      ·rintro D2 σ' H' zs hD2 ⟨_,rfl,rfl⟩
       have hlen:((vs.length:Int) - 1).toNat=(adj (os.map val)).length:=by rw[jU5]; lia
       rw[hlen,bw]
       refine⟨D2,_,rfl,SqL.of j5,?_⟩
       have:(adj (os.map val)).all id=risB (.tup os):=by
        show _=(os.all isInt&&(adj (os.map val)).all id)
        rw[hi,iP]
       rw[this]
       exact q _ (e1.new hD2 _)
end Eo
end
namespace L2
open PySem
theorem px_un {op:UnaryOp}{a:Expr}{pos:Pos} :jB6 (.UnaryOp op a pos):=fun _ _=>rfl
theorem jU2 {α:Type}{xs:List α}{v:α}(h:xs[xs.length - 1]?=some v):atI xs (-1)=some v:=by
 have hj:xs.length - 1<xs.length:=(aj.mp h).1
 have e:ixN xs.length (-1)=some (xs.length - 1):=by
  unfold ixN
  rw[ao (by lia),ar (by lia)]
  congr 1
  lia
 unfold atI
 rw[e]
 exact h
theorem qb {Q:VK}{H:Hp}{a b:Bool}(q:Q (.bl a) H)(e:a=b):Q (.bl b) H:=e ▸ q
end L2
namespace Eo
open PySem L2
section
variable {fPs:Addr}{fdPs:FuncData}
abbrev jN6:List Str:=["thing","many"]
theorem scIsLot:FnScope jN6 ["thing","many"] (j6 jDB):= {}
def spB2 (F:Int->Ob->Bool):Sp:=fun vs H Q _=>∃ v o w,vs=[v, .int w]/\At H o v/\∀ H',Ext H H'->Q (.bl (F w o)) H'
def jVV (T:Txt mg)(CR:Can P w K mg lv "is_rising" 2 fR fdR ["thing"] (spB risB))(hr:Room 2 (XOf jN6 "is_lot" jDB P w K mg lv f lw A lu s H0 E).A): { t:TS // JSs (XOf jN6 "is_lot" jDB P w K mg lv f lw A lu s H0 E) (jC jDB) t} :=
 have nd:=scIsLot.nd
 ⟨_,(jD (yU (jCI (qF (CR.je hr gD (j3 (jv 0 rfl vL) j7 j4) j4) yW)) (jB (jN (je_bl))) kU)
   (jB (jN ((je_or (yR qN (jH jY gD T.len (by decide+kernel) (j3 (jv 0 rfl vL) j7 j4) j4) (je_int) (kI _)) (jFD ((jFE (yR op_ge (kB kP (jv 0 rfl vL) (je_int) jK) (je_int) (kI _)) (jFD (yR op_lt (kB kP (jv 0 rfl vL) (je_un jQX (je_int)) px_un) (jv 1 rfl vL) (kI _)))))))))))⟩
theorem jPV {fd:FuncData}(F:Fun K "is_lot" "is_lot" jDB f fd)(T:Txt mg)(CR:Can P w K mg lv "is_rising" 2 fR fdR ["thing"] (spB risB)):FnOk P w K mg lv CX0 3 f fd ["thing","many"] (spB2 lotB):=by
 refine F.ok scIsLot (fun vs H Q E h=>?_) (fun lw A lu s H vs Q E hr h=>?_)
 ·obtain⟨_,_,_,rfl,_⟩:=h
  rfl
 ·obtain⟨v,o,w,rfl,hA,q⟩:=h
  refine⟨_,(jVV T CR hr).2.h,?_⟩
  refine⟨_,rfl,v,o,rfl,hA,fun H1 e1=>⟨_,rfl,?_⟩⟩
  have eq:=jVH w o
  cases hR:risB o with
  | false=>
   refine iteT (qb (q H1 e1) ?_)
   rw[<- eq]
   unfold lotB'
   rw[hR]
   rfl
  | true=>
   refine iteF ?_
   have ht:isTup o=true:=by cases o <;> first | rfl | cases hR
   obtain⟨os,a,vs,rfl,rfl,ha,h100,hx⟩:=hA.tupOf ht
   have hl:=hx.len
   have hi:os.all isInt=true:=by
    have:(os.all isInt&&(adj (os.map val)).all id)=true:=hR
    rw[bI] at this
    exact this.1
   have hv:=hx.allInt hi
   have ha1:=e1 _ _ ha
   refine⟨_,rfl,a,_,rfl, .inr (SqT.of ha1),rfl,_,rfl,ite2 (fun hy=>?_) (fun hy=>?_)⟩
   ·have h0:=V.int.inj (aG hy)
    have e0:os=[]:=iV.mp (by lia)
    refine qb (q H1 e1) ?_
    rw[<- eq]
    unfold lotB'
    rw[hR]
    simp [e0]
   ·have h0:0<vs.length:=Nat.pos_of_ne_zero fun h=>hy (az (by rw[h]; rfl))
    have hml:(os.map val).length=vs.length:=by rw[af,hl]
    refine⟨_,rfl,a,_,0, .int ((os.map val).getD 0 0),rfl,rfl,SqT.of ha1,?_,_,_,rfl,rfl,_,rfl,ite2 (fun hz=>?_) (fun hz=>?_)⟩
    ·rw[hv]
     exact jAO (j:=0) (getI (by lia))
    ·refine⟨_,rfl,_,rfl,a,_,_, .int ((os.map val).getLastD 0),rfl,rfl,SqT.of ha1,?_,_,rfl,_,_,rfl,rfl,qb (q H1 e1) ?_⟩
     ·show atI vs (-1)=_
      refine jU2 ?_
      rw[hv,af,getI (by lia),eZ,fb,aC]
     ·rw[<- eq]
      unfold lotB'
      rw[hR]
      have e0:¬ os=[]:=fun e=>by rw[e] at hl; have:vs.length=0:=hl; lia
      have hz:=aG hz
      simp [e0]
      intro hh
      simpa using hz
    ·refine qb (q H1 e1) ?_
     rw[<- eq]
     unfold lotB'
     rw[hR]
     have e0:¬ os=[]:=fun e=>by rw[e] at hl; have:vs.length=0:=hl; lia
     have hz:¬ (0<=(os.map val).getD 0 0):=fun h=>hz (az h)
     simp only [e0,decide_false,iN,iP,aP hz,ga]
end
end Eo
namespace L2
open PySem
section
variable {P:Program}{w:World}{K:W.Frag}{mg:Str->Option Value}{lv:Heap}{N:List Str}{qual:Str}{sc:Scope}{f:Addr}{lw:Value}{A:Around}{lu:List Env}{s:Shared}{H:Hp}{E:XK}{x y z:Str}{p1 p2 p3 pos:Pos}{k i j l:Nat}
theorem jDX (hN:N.Nodup)(hi:N[i]?=some x)(hj:N[j]?=some y)(hx:sc.names.lookup x=some .local)(hy:sc.names.lookup y=some .local):
  JG (cxOf CX0 P w K mg lv N qual sc f lw A lu s H E).nox (.Tuple [.Name x p1, .Name y p2] k pos) (gTup K 2 (gCons (kO i) (gCons (kO j) gNil))):=
 jRN (X:=(cxOf CX0 P w K mg lv N qual sc f lw A lu s H E).nox) rfl (jDW (jJ hN hi (loc_l hx)) (jDW (jJ hN hj (loc_l hy)) jNU jGQ) jGQ)
end
section
variable {K:W.Frag}{m:List (Option Nat)}{g:TG}{tt:TT}{te:TE}{σ:St}{H1:Hp}{Q:VK}
end
end L2
namespace Eo
open PySem L2
theorem jJ1 {α:Type}{l:List α}{i:Nat}{d:α}(h:i<l.length):l.getD i d=l[i]:=by
 rw[aC,ay h]
 rfl
theorem jAD (l:List Int):(l.map V.int).all flatV=true:=by
 rw[bJ]
 intro x hx
 obtain⟨i,_,rfl⟩:=aW.mp hx
 rfl
theorem jAI (i:Int)(l:List Int):inV (.int i) (l.map V.int)=decide (i∈l):=by
 unfold inV
 rw[bV,cU,bA]
 constructor
 ·rintro ⟨x,hx,e⟩
  obtain⟨j,hj,rfl⟩:=aW.mp hx
  have:j=i:=eq_of_beq e
  rw[<- this]
  exact hj
 ·intro h
  exact⟨.int i,aW.mpr ⟨i,h,rfl⟩,by simp [eqV]⟩
theorem jBC:∀ (ts:List Int) (lo w:Int),ts.Pairwise (· < ·)->(∀ z∈ts,lo<=z/\z<w)->(ts.length:Int)<=max (w - lo) 0
 | [],lo,w,_,_=>by show (0:Int)<=_; lia
 | a::r,lo,w,hp,hb=>by
  have h1:=hb a ai
  have hp':=cM.mp hp
  have:=jBC r (a+1) w hp'.2 fun z hz=>⟨by have:=hp'.1 z hz; lia,(hb z (ah _ hz)).2⟩
  rw[aU]
  lia
def j9 (pcs:List (List Int×Int))(k:Int):List Int:=(pcs.getD k.toNat ([],0)).1
theorem PcsAt.get {H:Hp} :∀ {vs:List V}{ps:List (List Int×Int)},PcsAt H vs ps->∀ {k:Nat},k<ps.length->∃ v,vs[k]?=some v/\PcAt H v (ps.getD k ([],0))
 | v::vs,p::ps,h,0,_=>⟨v,rfl,h.1⟩
 | v::vs,p::ps,h,k+1,hk=>PcsAt.get h.2 (k:=k) (by simpa using hk)
 | [],[],_,k,hk=>absurd hk (eQ _)
 | [],_::_,h,_,_=>h.elim
 | _::_,[],h,_,_=>h.elim
theorem Good.at {mt mp w:Int}{ms:List Int}{pcs:List (List Int×Int)}(g:Good mt mp w ms pcs){k:Nat}(hk:k<pcs.length):GoodPc w (pcs.getD k ([],0)):=by
 have e:pcs.getD k ([],0)=pcs[k]:=by simp [List.getD,hk]
 rw[e]
 exact g.pg _ (cQ hk)
theorem jE1 {n i:Nat}(h:i<n):(upto n).take (i+1)=(upto n).take i++[(i:Int)]:=by
 unfold upto
 rw[<- km,<- km,List.take_range,List.take_range,show min (i+1) n=i+1 by lia,show min i n=i by lia,fo,aS]
 rfl
theorem jBM (n:Nat):(upto n).length=n:=by
 unfold upto
 rw[af,bR]
theorem jDL {n i:Nat}(h:i<n):(upto n)[i]?=some (i:Int):=by
 unfold upto
 rw[aR,cI h]
 rfl
theorem jW4 (H:Hp)(i:Int):At H (.int i) (.int i):=rfl
theorem jW3 {H:Hp}{a:Addr}{vs:List V}{os:List Ob}(h:H a=some (.tup vs))(n:vs.length<=100)(r:Ats H os vs):At H (.tup os) (.ref a):=⟨a,vs,rfl,h,n,r⟩
section
variable {fU:Addr}{fdU:FuncData}
abbrev jRD:List Str:=["found"]
theorem scWhole:FnScope jRD ["found"] (j6 jE2):= {}
def jU8 (T:Txt mg): { t:TS // JSs (XOf jRD "_law_whole" jE2 P w K mg lv f lw A lu s H0 E) (jC jE2) t} :=
 have nd:=scWhole.nd
 ⟨_,(jB (jN ((jFE (jH jA5 gD T.isinstance (by decide+kernel) (j3 (jv 0 rfl vL) (j3 (jC3 (v:= .ty "int") gD T.int (by decide+kernel) rfl) j7 j4) j4) j4) (jFD (jNV (jH jA5 gD T.isinstance (by decide+kernel) (j3 (jv 0 rfl vL) (j3 (jC3 (v:= .ty "bool") gD T.bool (by decide+kernel) rfl) j7 j4) j4) j4)))))))⟩
theorem jPO {fd:FuncData}(F:Fun K "_law_whole" "_law_whole" jE2 f fd)(T:Txt mg):FnOk P w K mg lv CX0 1 f fd ["found"] spWh:=by
 refine F.ok scWhole (fun vs H Q E h=>?_) (fun lw A lu s H vs Q E hr h=>?_)
 ·obtain⟨_,_,rfl,_⟩:=h
  rfl
 ·obtain⟨v,o,rfl,hA,q⟩:=h
  obtain⟨t,ty,_,b1,b2,k1,k2,e⟩:=hA.ty K
  refine⟨_,(jU8 T).2.h,?_⟩
  refine⟨_,rfl,_,_,_,b1,rfl,ty,k1,b1,rfl,?_⟩
  rw[<- e] at q
  cases b1 with
  | true=>exact iteT ⟨_,rfl,_,_,_,b2,rfl,ty,k2,b2,rfl,q⟩
  | false=>exact iteF q
end
theorem _root_.L2.Ext.tups {H H':Hp}(e:Ext H H'):Tups H H':=fun b xs h=>e b _ h
theorem PcsAt.at {H:Hp} :∀ {vs:List V}{ps:List (List Int×Int)},PcsAt H vs ps->∀ {i:Nat}{v:V},vs[i]?=some v->∃ pc,ps[i]?=some pc/\PcAt H v pc
 | [],[],_,i,v,e=>by cases e
 | x::vs,p::ps,h,0,v,e=>by cases e; exact⟨p,rfl,h.1⟩
 | x::vs,p::ps,h,i+1,v,e=>PcsAt.at h.2 (i:=i) e
 | [],_::_,h,_,_,_=>h.elim
 | _::_,[],h,_,_,_=>h.elim
theorem PcsAt.snoc {H:Hp}{v:V}{p:List Int×Int}(hv:PcAt H v p):∀ {vs:List V}{ps:List (List Int×Int)},PcsAt H vs ps->PcsAt H (vs++[v]) (ps++[p])
 | [],[],_=>⟨hv,trivial⟩
 | x::vs,q::ps,h=>⟨h.1,PcsAt.snoc hv h.2⟩
 | [],_::_,h=>h.elim
 | _::_,[],h=>h.elim
theorem Good.wide {mt mp w mt' mp':Int}{ms:List Int}{pcs:List (List Int×Int)}(g:Good mt mp w ms pcs)(h1:mt<=mt')(h2:mp<=mp'):Good mt' mp' w ms pcs:=⟨g.w0,db g.w1 h1,g.mr,db g.pl h2,g.pg⟩
theorem jN0 (n:Nat):∀ (ds:List Int),ds.Nodup->(∀ t∈ds,0<=t/\t<(n:Int))->ds.length<=n:=by
 intro ds h1 h2
 have h3:(ds.map Int.toNat).Nodup:=by
  rw[List.Nodup,bM]
  refine iQ (R:=(· ≠ ·)) (fun {a b} ha hb hne e=>hne ?_) h1
  have:=h2 a ha
  have:=h2 b hb
  lia
 have h4:(ds.map Int.toNat).length<=(List.range n).length:=h3.length_le_of_subset fun x hx=>by
  obtain⟨t,ht,rfl⟩:=aW.mp hx
  have:=h2 t ht
  exact bG.mpr (by lia)
 rw[af,bR] at h4
 exact h4
abbrev jG4:List Str:=["found"]
theorem scWholes:FnScope jG4 ["found"] (j6 jAX):= {}
def jDO:Sp:=fun vs H Q _=>∃ (a:Addr) (ks:List Int),vs=[.ref a]/\H a=some (.tup (ks.map V.int))/\ks.length<=100/\∀ H',Ext H H'->Q (.bl true) H'
def jRY (T:Txt mg)(CW:Can P w K mg lv "_law_whole" 1 fW fdW ["found"] spWh)(hr:Room 1 (XOf jG4 "_law_wholes" jAX P w K mg lv f lw A lu s H0 E).A): { t:TS // JSs (XOf jG4 "_law_wholes" jAX P w K mg lv f lw A lu s H0 E) (jC jAX) t} :=
 have nd:=scWholes.nd
 ⟨_,(jB (jN ((jFE (jH jA5 gD T.isinstance (by decide+kernel) (j3 (jv 0 rfl vL) (j3 (jC3 (v:= .ty "tuple") gD T.tuple (by decide+kernel) rfl) j7 j4) j4) j4) (jFD (jH (jAV rfl) gD T.all (by decide+kernel) (j3 (jR (m:=[none]) (Nc:=["one"]) rfl (qC (jv 0 rfl vL)) rfl (by decide+kernel) (by decide+kernel) (jG (psc:=j6 jAX)) (jF (N:=jG4) rfl rfl (by decide+kernel)) (fun cl C fp s H=>jJ (i:=0) (show (["one"]:List Str).Nodup by decide+kernel) rfl y9) (fun cl C fp s H=>kG) (fun cl C fp s H=>(CW.je hr gl_b (j3 (jv 0 rfl jL) j7 j4) j4)) y6) j7 jE) jE))))))⟩
theorem jMR {fd:FuncData}(F:Fun K "_law_wholes" "_law_wholes" jAX f fd)(T:Txt mg)(CW:Can P w K mg lv "_law_whole" 1 fW fdW ["found"] spWh):FnOk P w K mg lv CX0 2 f fd ["found"] jDO:=by
 refine F.ok scWholes (fun vs H Q E h=>?_) (fun lw A lu s H vs Q E hr h=>?_)
 ·obtain⟨_,_,rfl,_⟩:=h
  rfl
 ·obtain⟨a,ks,rfl,ha,hl,k⟩:=h
  refine⟨_,(jRY T CW hr).2.h,?_⟩
  refine⟨_,rfl,_,_,_,true,rfl, .tup ha,rfl,_,rfl,iteT ?_⟩
  refine⟨_,rfl,a,rfl,⟨_,SqT.of ha⟩,jAJ (xs:=ks.map V.int) (by rw[af,aw]; lia) (fun D j σ' H' zs=>(∃ v,σ'=[v])/\Ext H H'/\H' D=some (.lst zs)/\H D=none/\zs=(replicate j true).map V.bl) ?_ ?_ ?_ ?_⟩
  ·intro D hD
   exact⟨⟨_,rfl⟩,(Ext.refl _).new hD _,j5,hD,rfl⟩
  ·rintro D j σ' H' zs hD ⟨_,e,h2,_,rfl⟩
   refine⟨e _ _ ha,h2,?_⟩
   rw[af,gz]
   exact am _
  ·rintro D j σ' H' zs x hD hx ⟨⟨v,rfl⟩,e,h2,hn,rfl⟩
   obtain⟨z,hz,rfl⟩:∃ z:Int,ks[j]?=some z/\V.int z=x:=by
    rw[aR] at hx
    cases hq:ks[j]? with
    | none=>rw[hq] at hx; cases hx
    | some z=>rw[hq] at hx; cases hx; exact⟨z,rfl,rfl⟩
   dsimp only [kO,yJ]
   rw[ar rfl]
   refine⟨_,rfl,_, .int z,rfl,jW4 _ _,h2,⟨_,rfl⟩,e.updNew hn _,j5,hn,?_⟩
   rw[List.replicate_succ',aS]
   rfl
  ·rintro D σ' H' zs hD ⟨_,e,h2,hn,rfl⟩
   refine⟨D,_,rfl,SqL.of h2,?_⟩
   have:(replicate (ks.map V.int).length true).all id=true:=by rw[bJ]; intro x hx; exact(List.mem_replicate.mp hx).2
   rw[this]
   exact k H' e
theorem jO3 {H:Hp} :∀ l:List Int,TsAt H (l.map Tr.int) (l.map V.int)
 | []=>rfl
 | i::r=>⟨.int i,_,rfl,rfl,jO3 r⟩
theorem jES:∀ l:List Int,deps (l.map Tr.int)=0
 | []=>by simp [deps]
 | i::r=>by simp [deps,dep,jES r]
theorem iteN {A B:Prop}{c:Bool}(hc:c=false)(h:B):if c=true then A else B:=by
 rw[hc]
 exact iteF h
abbrev leI:Int->Int->Bool:=fun a b=>decide (a<=b)
def srt (l:List Int):List Int:=l.mergeSort leI
theorem jDN (l:List Int):(srt l).Perm l:=kg _ _
theorem jR3 (l:List Int):(srt l).Pairwise (· <= ·):=by
 have:=iZ (le:=leI) (fun a b c h1 h2=>az (db (aG h1) (aG h2))) (fun a b=>by
  rw[gX]
  rcases Int.le_total a b with h | h
  ·exact .inl (az h)
  ·exact .inr (az h)) l
 exact this.imp fun h=>aG h
theorem jGY {l m:List Int}(h1:m.Pairwise (· <= ·))(h2:m.Perm l):m=srt l:=
 List.Perm.eq_of_pairwise (fun a b _ _ h1 h2=>Int.le_antisymm h1 h2) h1 (jR3 l) (h2.trans (jDN l).symm)
theorem jR4 {l:List Int}(h:l.Pairwise (· <= ·)):srt l=l:=(jGY h (.refl _)).symm
theorem jS5 {a b:List Int}(ra:a.Pairwise (· < ·))(rb:b.Pairwise (· < ·))(h:∀ x,x∈a↔x∈b):a=b:=by
 have na:a.Nodup:=ra.imp fun {a b} h=>by lia
 have nb:b.Nodup:=rb.imp fun {a b} h=>by lia
 have pm:a.Perm b:=(iA na nb).mpr h
 rw[jGY (ra.imp fun {a b} h=>by lia) pm,jR4 (rb.imp fun {a b} h=>by lia)]
def plcs (ts lot:List Int):List Int:=(lot.filter fun t=>decide (t∈ts)).map fun t=>((ts.idxOf t:Nat):Int)
def nmd (ts lot:List Int):List Int:=srt (plcs ts lot)
theorem jG1 (ts lot:List Int):(plcs ts lot).length<=lot.length:=by
 unfold plcs
 rw[af]
 exact bD _ _
def pick (ts:List Int)(pcs:List (List Int×Int))(ks:List Int):List (List Int×Int):=ks.map fun k=>(nmd ts (j9 pcs k),(pcs.getD k.toNat ([],0)).2)
def plKv (ts:List Int):List (Key×V):=(List.range ts.length).map fun i=>(Sum.inl (ts.getD i 0),V.int (i:Int))
theorem jPH (ts:List Int):(plKv ts).length=ts.length:=by
 unfold plKv
 rw[af,bR]
theorem jE8 (ts:List Int):(plKv ts).map (·.1)=ts.map Sum.inl:=by
 unfold plKv
 rw[bL]
 refine List.ext_getElem (by simp) fun i h1 h2=>?_
 have:i<ts.length:=by simpa using h1
 simp [List.getD,this]
theorem jPI {ts:List Int}{i:Nat}{k:Key}{v:V}(h:(plKv ts)[i]?=some (k,v)):∃ t,ts[i]?=some t/\k=Sum.inl t/\v=V.int (i:Int):=by
 unfold plKv at h
 rw[aR] at h
 by_cases hi:i<ts.length
 ·rw[cI hi] at h
  simp only [map_some,gf,Prod.mk.injEq] at h
  refine⟨ts[i],by simp [hi],?_,h.2.symm⟩
  rw[<- h.1]
  simp [List.getD,hi]
 ·rw[di (by simp; lia)] at h
  cases h
theorem jP8 {κ:Type} [DecidableEq κ]{kvs:List (κ×V)}{k:κ}(h:k∉kvs.map (·.1)):valV kvs k=none:=by
 unfold valV
 rw[List.find?_eq_none.mpr fun x hx=>?_]
 ·rfl
 ·intro e
  exact h (aW.mpr ⟨x,hx,aG e⟩)
theorem jQW {κ:Type} [DecidableEq κ]:∀ {kvs:List (κ×V)}{i:Nat}{k:κ}{v:V},(kvs.map (·.1)).Nodup->kvs[i]?=some (k,v)->valV kvs k=some v
 | [],_,_,_,_,h=>by simp at h
 | p::r,0,k,v,_,h=>by
  simp at h
  subst h
  exact jBK rfl
 | p::r,i+1,k,v,nd,h=>by
  rw[br,cE] at nd
  have h:r[i]?=some (k,v):=by simpa using h
  have hm:k∈r.map (·.1):=aW.mpr ⟨_,aJ h,rfl⟩
  have ne:¬ p.1=k:=fun e=>nd.1 (by rw[e]; exact hm)
  have:=jQW (i:=i) nd.2 h
  unfold valV at this ⊢
  rw[dS,aP ne]
  exact this
theorem jHD {ts:List Int}(h:ts.Nodup):(ts.map (Sum.inl:Int->Key)).Nodup:=by
 rw[List.Nodup,bM]
 exact h.imp fun hne e=>hne (gN e)
theorem jPG {ts:List Int}(nd:ts.Nodup)(t:Int):valV (plKv ts) (Sum.inl t)=if t∈ts then some (.int ((ts.idxOf t:Nat):Int)) else none:=by
 by_cases h:t∈ts
 ·rw[ar h]
  have hi:=cm.mpr h
  refine jQW (i:=ts.idxOf t) (by rw[jE8]; exact jHD nd) ?_
  unfold plKv
  rw[aR,cI hi]
  show some (Sum.inl (ts.getD (ts.idxOf t) 0),_)=_
  rw[show ts.getD (ts.idxOf t) 0=t by simp [List.getD,hi,fY]]
 ·rw[ao h]
  refine jP8 ?_
  rw[jE8]
  intro z
  obtain⟨x,hx,e⟩:=aW.mp z
  exact h (gN e ▸ hx)
section
variable {cd:Value}
abbrev qA:Stmt:=(jC kX).getD 1 (.Pass ⟨0,0,0,0⟩)
abbrev jK3:List Str:=["lot","places"]
theorem scNamed:NScope jK3 ["lot"] ["places"] (j6 qA):=⟨rfl,rfl,rfl,by decide+kernel,rfl,by decide+kernel,by decide+kernel,fun x h=>by
 have:=bF h
 revert this
 have hl:∀ y∈(j6 qA).names,y.2= .free->y.1= "places" :=by decide+kernel
 intro m
 have:=hl _ m rfl
 exact this ▸ ai,by decide+kernel⟩
def jM5:List V->Sp:=fun fv vs H Q _=>∃ (d a:Addr) (ts lot:List Int),fv=[.ref d]/\vs=[.ref a]/\ts.Nodup/\H d=some (.dK (plKv ts))/\H a=some (.tup (lot.map V.int))/\lot.length<64/\∀ r H',H' r=some (.tup ((nmd ts lot).map V.int))->Ext H H'->Q (.ref r) H'
def jVC (T:Txt mg)(hr:Room 0 (cxN P w K mg lv jK3 "picked.<locals>.named" (j6 qA) f cd cl A lu s H0).A): { t:TS // JSs (cxN P w K mg lv jK3 "picked.<locals>.named" (j6 qA) f cd cl A lu s H0) (jC qA) t} :=
 have nd:=scNamed.nd
 ⟨_,(jB (jN (jZ jM gl_n T.tuple (by decide+kernel) (j3 (jH jHX gl_n T.sorted (by decide+kernel) (j3 (jR (m:=[none,some 1]) (Nc:=["thing","places"]) rfl (qC (jv 0 rfl vis_n)) rfl (by decide+kernel) (by decide+kernel) (jG (psc:=j6 qA)) (jF (N:=jK3) rfl rfl (by decide+kernel)) (fun cl C fp s H=>jJ (i:=0) (show (["thing","places"]:List Str).Nodup by decide+kernel) rfl y9) (fun cl C fp s H=>jB5 (jVT (hu_of hr) (jv 0 rfl jL) (jv 1 rfl kD) rfl)) (fun cl C fp s H=>(jIY (hu_of hr) (jv 1 rfl kD) (jv 0 rfl jL) jCV)) y6) j7 jE) jE) j7 jI) jI)))⟩
theorem jPP (T:Txt mg):FnN P w K mg lv 1 "named" "picked.<locals>.named" (y8 qA) (jC qA) (j6 qA) ["lot"] ["places"] jM5:=by
 refine jW0 scNamed (fun fv vs H Q E h=>?_) (fun cl doc pm c ctv us hl=>?_) (fun A lu s H a c cl vs fv Q E hr h=>?_)
 ·obtain⟨_,_,_,_,_,rfl,_⟩:=h
  rfl
 ·match us,hl with
  | [u],_=>rfl
 ·obtain⟨d,a,ts,lot,rfl,rfl,nd,hd,ha,hl,q⟩:=h
  refine⟨_,(jVC T hr).2.h,?_⟩
  refine⟨_,rfl,a,rfl,⟨_,SqT.of ha⟩,jAJ (xs:=lot.map V.int) (by rw[af,aw]; lia) (fun D j σ' H' zs=>(∃ v,σ'=[v,some (.ref d)])/\Ext H H'/\H' D=some (.lst zs)/\H D=none/\zs=(plcs ts (lot.take j)).map V.int) ?_ ?_ ?_ ?_⟩
  ·intro D hD
   exact⟨⟨_,rfl⟩,(Ext.refl _).new hD _,j5,hD,rfl⟩
  ·rintro D j σ' H' zs hD ⟨_,e,h2,_,rfl⟩
   refine⟨e _ _ ha,h2,?_⟩
   rw[af]
   have:=jG1 ts (lot.take j)
   have:=bu j lot
   lia
  ·rintro D j σ' H' zs x hD hx ⟨⟨v,rfl⟩,e,h2,hn,rfl⟩
   obtain⟨z,hz,rfl⟩:∃ z:Int,lot[j]?=some z/\V.int z=x:=by
    rw[aR] at hx
    cases hq:lot[j]? with
    | none=>rw[hq] at hx; cases hx
    | some z=>rw[hq] at hx; cases hx; exact⟨z,rfl,rfl⟩
   have ht:plcs ts (lot.take (j+1))=plcs ts (lot.take j)++(if z∈ts then [((ts.idxOf z:Nat):Int)] else []):=by
    unfold plcs
    rw[bg,hz,bE,aS]
    congr 1
    by_cases hzz:z∈ts <;> simp [hzz]
   have hD':H' d=some (.dK (plKv ts)):=e _ _ hd
   have gv:=jPG nd z
   refine⟨_,rfl,_,rfl,d,_,rfl,DGet.k (k:=Sum.inl z) hD',_,rfl,?_⟩
   rw[gv]
   by_cases hzz:z∈ts
   ·rw[ar hzz] at gv ht ⊢
    refine⟨_,rfl,_,rfl,d,_,rfl,by rw[<- gv]; exact DGet.k (k:=Sum.inl z) hD',h2,⟨_,rfl⟩,e.updNew hn _,j5,hn,?_⟩
    rw[ht,aS]
    rfl
   ·rw[ao hzz] at gv ht ⊢
    refine⟨⟨_,rfl⟩,e,h2,hn,?_⟩
    rw[ht,aZ]
  ·rintro D σ' H' zs hD ⟨_,e,h2,hn,rfl⟩
   rw[af,bw] at h2
   refine⟨D,_,rfl,SqL.of h2,?_,fun l ns hl hs hp=>?_⟩
   ·have:=jG1 ts lot
    lia
   refine⟨l,_,rfl, .inl ⟨SqL.of j5,fun r hr=>?_⟩⟩
   refine q r _ ?_ ((e.new hl _).new hr _)
   rw[j5,jGY hs hp]
   rfl
end
theorem jMI {H:Hp}{vs:List V}{pcs:List (List Int×Int)}(h:PcsAt H vs pcs){k:Int}(h0:0<=k)(h1:k<pcs.length):∃ a q,atI vs k=some (.ref a)/\H a=some (.tup [.ref q, .int (pcs.getD k.toNat ([],0)).2])/\H q=some (.tup ((j9 pcs k).map V.int)):=by
 obtain⟨v,hv,a,q,rfl,b1,b2⟩:=h.get (k:=k.toNat) (by lia)
 refine⟨a,q,?_,b1,b2⟩
 have e:((k.toNat:Nat):Int)=k:=by lia
 have:=jAO hv
 rw[e] at this
 exact this
abbrev jCX:List Str:=["box","things","pieces","places","named"]
theorem scPicked:FnScope jCX ["box","things","pieces"] (j6 kX):= {}
abbrev jRB:Pos:=match qA with
 | .FunctionDef _ _ _ _ _ _ _ _ _ p=>p
 | _=>⟨0,0,0,0⟩
abbrev TabP (H:Hp)(tb:Addr):Prop:=TabOk H tb jRB "picked.<locals>.named"
theorem jKJ:∀ x∈(["places"]:List Str),(j6 qA).names.lookup x=some .free:=by decide+kernel
theorem jEO:FsAt (XOf jCX "picked" kX P w K mg lv f (.ref c0) A lu s H0 E) ["places"] [3]:=⟨rfl,fun k x h=>by
 cases k with
 | zero=>cases h; exact⟨3,rfl,rfl, .inl (show (j6 kX).names.lookup ("places" :Str)=some NameKind.cell by decide+kernel)⟩
 | succ k=>cases h⟩
def jDQ (tb:Addr):Sp:=fun vs H Q _=>∃ (b a c:Addr) (tp tq:Bool) (w:Int) (ms:List Int) (pcs:List (List Int×Int)) (ts ks:List Int),vs=[.ref b, .ref a, .ref c]/\BoxAt H b w ms pcs/\AtS tp H a (ts.map V.int)/\AtS tq H c (ks.map V.int)/\ts.Nodup/\ts.length<=100/\ms.length<64/\(∀ p∈pcs,p.1.length<64)/\(∀ k∈ks,0<=k/\k<pcs.length)/\ks.length<=1000/\TabP H tb/\
 ∀ r H',BoxAt H' r ts.length (nmd ts ms) (pick ts pcs ks)->ExtT tb H H'->TabP H' tb->Q (.ref r) H'
def jSI (T:Txt mg)(CH:PySem.W.CodeHd lv c0 tb)(BM:qJ lv mg)(FN:FnN P w K mg lv 1 "named" "picked.<locals>.named" (y8 qA) (jC qA) (j6 qA) ["lot"] ["places"] jM5)(hr:Room 1 (XOf jCX "picked" kX P w K mg lv f (.ref c0) A lu s H0 E).A): { t:TS // JSs (XOf jCX "picked" kX P w K mg lv f (.ref c0) A lu s H0 E) (jC kX) t} :=
 have nd:=scPicked.nd
 ⟨_,(jD (jT (i:=3) nd rfl loc_c (jZ (jLL rfl) gD T.dict (by decide+kernel) (j3 (jR (m:=[none,none]) (Nc:=["place","thing"]) rfl (jIX gD T.enumerate (j3 (jv 1 rfl vL) j7 j4) j4) rfl (by decide+kernel) (by decide+kernel) (jG (psc:=j6 kX)) (jF (N:=jCX) rfl rfl (by decide+kernel)) (fun cl C fp s H=>jBF (i:=0) (j:=1) rfl (show (["place","thing"]:List Str).Nodup by decide+kernel) rfl rfl (by decide+kernel) (by decide+kernel)) (fun cl C fp s H=>kG) (fun cl C fp s H=>(y4 (j3 (jv 1 rfl jL) (j3 (jv 0 rfl jL) j7 j4) j4))) kE) j7 jE) jE) jU)
   (jD (jVQ (j:=4) nd rfl loc_c rfl CH BM (jG (psc:=j6 kX)) rfl rfl)
   (jB (jN (y4 (j3 (jH jY gD T.len (by decide+kernel) (j3 (jv 1 rfl vL) j7 j4) j4) (j3 (jTI (j:=4) FN hr rfl vC (jG (psc:=j6 kX)) jKJ jEO (j3 (kB kP (jv 0 rfl vC) (je_int) jK) j7 jX) jX) (j3 (jZ jM gD T.tuple (by decide+kernel) (j3 (jQA (m:=[none,some 4,some 0]) (Nc:=["piece","named","box"]) rfl (jVR (jv 2 rfl vL)) rfl (by decide+kernel) (by decide+kernel) (jG (psc:=j6 kX)) (jF (N:=jCX) rfl rfl (by decide+kernel)) (fun cl C fp s H=>jJ (i:=0) (show (["piece","named","box"]:List Str).Nodup by decide+kernel) rfl y9) (fun cl C fp s H=>kG) (fun cl C fp s H ad σ I0 hfp=>(y4 (j3 (jQ7 (j:=1) I0 hfp FN hr rfl kD (jG (psc:=j6 kX)) jKJ jEO (j3 (kB yM (kB yM (kB yM (jv 2 rfl kD) (je_int) jK) (jv 0 rfl jL) jCV) (je_int) jK) j7 jX) jX) (j3 (kB yM (kB yM (kB yM (jv 2 rfl kD) (je_int) jK) (jv 0 rfl jL) jCV) (je_int) jK) j7 jX) jI))) y6) j7 jE) jE) j7 jI) jI) jI))))))⟩
theorem jMU {fd:FuncData}(F:FunC K "picked" "picked" kX f fd c0)(T:Txt mg)(CH:PySem.W.CodeHd lv c0 tb)(BM:qJ lv mg):FnOk P w K mg lv CX0 2 f fd ["box","things","pieces"] (jDQ tb):=by
 refine F.ok scPicked (fun vs H Q E h=>?_) (fun A lu s H vs Q E hr h=>?_)
 ·obtain⟨_,_,_,_,_,_,_,_,_,_,rfl,_⟩:=h
  rfl
 ·obtain⟨b,a,c,tp,tq,w,ms,pcs,ts,ks,rfl,hB,ha,hc,nd,lts,lms,lpc,hks,lks,tab,q⟩:=h
  refine⟨_,(jSI T CH BM (jPP T) hr).2.h,?_⟩
  obtain⟨qm,qp,ps,b1,b2,b3,b4⟩:=id hB.ex
  have pl:=b4.len
  refine⟨_,rfl,tp,a,rfl,⟨_,ha.sq⟩,jHS (xs:=ts.map V.int) (by rw[af,aw]; lia) (fun D j σ' H' zs=>(∃ v v',σ'=[v,v'])/\Ext H H'/\H' D=some (.lst zs)/\H D=none/\zs.length=j/\∀ i,i<j->∃ r:Addr,zs[i]?=some (V.ref r)/\H' r=some (.tup [.int (ts.getD i 0), .int (i:Int)])) ?_ ?_ ?_ ?_⟩
  ·intro D hD
   exact⟨⟨_,_,rfl⟩,(Ext.refl _).new hD _,j5,hD,rfl,fun i hi=>absurd hi (eQ _)⟩
  ·rintro D j σ' H' zs hD ⟨_,e,h2,_,hl,_⟩
   exact⟨(ha.ext e).sq,h2,by lia⟩
  ·rintro D j σ' H' zs x X hD hx hX ⟨⟨v,v',rfl⟩,e,h2,hn,hl,hz⟩
   obtain⟨z,hz1,rfl⟩:∃ z:Int,ts[j]?=some z/\V.int z=x:=by
    rw[aR] at hx
    cases hq:ts[j]? with
    | none=>rw[hq] at hx; cases hx
    | some z=>rw[hq] at hx; cases hx; exact⟨z,rfl,rfl⟩
   have hgd:ts.getD j 0=z:=by rw[aC,hz1]; rfl
   refine⟨X,_,rfl,SqT.of j5,rfl,_,_,rfl,_,_,rfl,rfl,?_⟩
   dsimp only [kO,yJ]
   rw[ar rfl]
   refine⟨_,rfl,_,rfl,by show (2:Nat)<=_; decide,fun r H2 d2 e2=>?_⟩
   have e1:Ext H' (L2.upd H' X (.tup [.int (j:Int), .int z])):=(Ext.refl _).new hX _
   have hD2:H2 D=some (.lst zs):=e2 _ _ (e1 _ _ h2)
   have rD:r≠D:=fun z=>by rw[z,hD2] at d2; cases d2
   refine⟨hD2,⟨_,_,rfl⟩,((e.trans e1).trans e2).updNew hn _,j5,hn,by rw[aH,hl]; rfl,fun i hi=>?_⟩
   by_cases hij:i=j
   ·subst hij
    refine⟨r,?_,?_⟩
    ·rw[bh (by lia),hl,gu]
     rfl
    ·rw[j8 rD,d2,hgd]
   ·obtain⟨r',z1,z2⟩:=hz i (by lia)
    have z3:=e2 _ _ (e1 _ _ z2)
    refine⟨r',?_,?_⟩
    ·rw[b8 (by lia)]
     exact z1
    ·rw[j8 (fun y=>by rw[y,hD2] at z3; cases z3)]
     exact z3
  ·rintro D σ' H1 zs hD ⟨_,e1,h2,hn,hl,hz⟩
   rw[af] at hl hz
   refine⟨D,zs,plKv ts,rfl,h2,by rw[jPH]; exact hl,fun i k v hk=>?_,by rw[jE8]; exact jHD nd,fun d hd=>?_⟩
   ·obtain⟨t,z1,rfl,rfl⟩:=jPI hk
    obtain⟨r,z2,z3⟩:=hz i (aj.mp z1).1
    refine⟨r,z2,?_⟩
    rw[z3]
    show _=some (HO.tup [V.int t,V.int (i:Int)])
    rw[aC,z1]
    rfl
   have e2:Ext H (L2.upd H1 d (.dK (plKv ts))):=e1.new hd _
   have d2:(L2.upd H1 d (.dK (plKv ts))) d=some (.dK (plKv ts)):=j5
   generalize L2.upd H1 d (.dK (plKv ts))=H2 at e2 d2
   refine⟨tab.ext e2,fun fa fc H3 k1 k2 k3 k4 k5=>?_⟩
   have tab3:TabP H3 tb:= .inr ⟨fc,k3,k2⟩
   have E3:ExtT tb H H3:=(ExtT.of e2).trans k4
   have B1:=E3.at tab b1
   have B2:=E3.at tab b2
   have B3:=E3.at tab b3
   have dd:=k4.at (tab.ext e2) d2
   have aa:=E3.seq tab ha
   have cc:=E3.seq tab hc
   refine⟨_,rfl,a,_,rfl,aa.or,?_⟩
   refine⟨fa,rfl,_,rfl,b,_,1,_,rfl,rfl,SqT.of B1,rfl,fc,[.ref d],k1,k2,rfl,d,qm,ts,ms,rfl,rfl,nd,dd,B2,lms,fun r1 H4 d4 e4=>?_⟩
   refine jQL (tp:=tq) (xs:=ks.map V.int) (cc.ext e4) (fun Q h=>⟨_,rfl,h⟩) (by rw[af,aw]; lia) (fun D j σ' H' zs=>(∃ v,σ'=[v,some (.ref fa),some (.ref b)])/\Ext H4 H'/\H' D=some (.lst zs)/\H4 D=none/\PcsAt H' zs (pick ts pcs (ks.take j))) ?_ ?_ ?_ ?_
   ·intro D hD
    exact⟨⟨_,rfl⟩,(Ext.refl _).new hD _,j5,hD,trivial⟩
   ·rintro D j σ' H' zs hD ⟨_,e,h2,_,pz⟩
    refine⟨cc.ext (e4.trans e),h2,?_⟩
    rw[pz.len]
    unfold pick
    rw[af]
    exact bu _ _
   ·rintro D j σ' H' zs x hD hx ⟨⟨v,rfl⟩,e,h2,hn,pz⟩
    obtain⟨k,hk,rfl⟩:∃ z:Int,ks[j]?=some z/\V.int z=x:=by
     rw[aR] at hx
     cases hq:ks[j]? with
     | none=>rw[hq] at hx; cases hx
     | some z=>rw[hq] at hx; cases hx; exact⟨z,rfl,rfl⟩
    have hkb:=hks k (aJ hk)
    have e34:=e4.trans e
    obtain⟨pa,pq,g1,g2,g3⟩:=jMI b4 hkb.1 hkb.2
    have g2':=e34 _ _ (E3.at tab g2)
    have g3':=e34 _ _ (E3.at tab g3)
    have hlen:(j9 pcs k).length<64:=by
     unfold j9
     rw[jJ1 (by lia)]
     exact lpc _ (cQ _)
    dsimp only [kO,yJ]
    rw[ar rfl]
    refine⟨fa,rfl,_,rfl,b,_,2,_,rfl,rfl,SqT.of (e34 _ _ B1),rfl,_,rfl,qp,_,k,_,rfl,rfl,SqT.of (e34 _ _ B3),g1,pa,_,0,_,rfl,rfl,SqT.of g2',rfl,fc,[.ref d],e34 _ _ k1,e34 _ _ k2,rfl,d,pq,ts,j9 pcs k,rfl,rfl,nd,e34 _ _ dd,g3',hlen,fun r2 H5 d5 e5=>?_⟩
    have e35:=e34.trans e5
    refine⟨_,rfl,b,_,2,_,rfl,rfl,SqT.of (e35 _ _ B1),rfl,_,rfl,qp,_,k,_,rfl,rfl,SqT.of (e35 _ _ B3),g1,pa,_,1,_,rfl,rfl,SqT.of (e5 _ _ g2'),rfl,by show (2:Nat)<=_; decide,fun r3 H6 d6 e6=>?_⟩
    have hD6:H6 D=some (.lst zs):=e6 _ _ (e5 _ _ h2)
    refine⟨hD6,⟨_,rfl⟩,((e.trans e5).trans e6).updNew hn _,j5,hn,?_⟩
    have ez:pick ts pcs (ks.take (j+1))=pick ts pcs (ks.take j)++[(nmd ts (j9 pcs k),(pcs.getD k.toNat ([],0)).2)]:=by
     unfold pick
     rw[bg,hk,aS]
     rfl
    rw[ez]
    exact PcsAt.mono (Tups.upd hD6 _) (PcsAt.snoc (p:=(nmd ts (j9 pcs k),(pcs.getD k.toNat ([],0)).2)) ⟨r3,r2,rfl,d6,e6 _ _ d5⟩ (pz.mono (e5.trans e6).tups))
   ·rintro D σ' H5 zs hD ⟨_,e5,h5,hn5,pz⟩
    rw[af,bw] at pz
    refine⟨D,_,rfl, .inl ⟨SqL.of h5,fun l hl=>?_⟩⟩
    have e6:Ext H5 (L2.upd H5 l (.tup zs)):=(Ext.refl _).new hl _
    have d6:(L2.upd H5 l (.tup zs)) l=some (.tup zs):=j5
    generalize L2.upd H5 l (.tup zs)=H6 at e6 d6
    refine⟨by show (3:Nat)<=_; decide,fun r H7 d7 e7=>?_⟩
    have e47:=(e5.trans e6).trans e7
    refine q r H7 ⟨r1,l,zs,?_,e47 _ _ d4,e7 _ _ d6,pz.mono (e6.trans e7).tups⟩ (E3.trans (ExtT.of (e4.trans e47))) (tab3.ext (e4.trans e47))
    rw[d7,af]
theorem jIT {n:Int}{ks:List Int}(h:ks.Pairwise (· < ·))(hb:∀ k∈ks,0<=k/\k<n):lotB n (.tup (ks.map Ob.int))=true:=by
 have hv:(ks.map Ob.int).map val=ks:=by rw[bL]; exact iK _
 show ((ks.map Ob.int).all (upB 0 (n - 1))&&(adj ((ks.map Ob.int).map val)).all id)=true
 rw[hv,bI,bJ,bJ]
 refine⟨fun x hx=>?_,fun x hx=>?_⟩
 ·obtain⟨k,hk,rfl⟩:=aW.mp hx
  have:=hb k hk
  show (decide (0<=k)&&decide (k<=n - 1))=true
  rw[az (by lia),az (by lia)]
  rfl
 ·unfold adj at hx
  obtain⟨i,hi,rfl⟩:=aW.mp hx
  have hi:=bG.mp hi
  refine az ?_
  rw[jJ1 (by lia),jJ1 (by lia)]
  exact b9.mp h i (i+1) (by lia) (by lia) (by lia)
theorem jHQ {α:Type}{p:α->Bool}{l:List α}{i:Nat}{x:α}(h:l[i]?=some x):(l.take (i+1)).filter p=(l.take i).filter p++(if p x=true then [x] else []):=by
 rw[bg,h,bE]
 congr 1
 rw[Option.toList,cg]
 split <;> rfl
theorem jBE {w:Int}{ts:List Int}(h:ts.Pairwise (· < ·))(b:∀ z∈ts,0<=z/\z<w)(hw:w<=16):ts.length<=16:=by
 have:=jBC ts 0 w h b
 lia
theorem jF0 {w:Int}{ms:List Int}{pcs:List (List Int×Int)}(g:Good 16 32 w ms pcs){k:Int}(h0:0<=k)(h1:k<pcs.length):(j9 pcs k).length<=16:=by
 have:=g.at (k:=k.toNat) (by lia)
 exact jBE this.lot.ris this.lot.bnd g.w1
theorem jO5 {K:W.Frag}{m:List (Option Nat)}{σ:St}{H:Hp}{Q:VK}{q t:Addr}{tp:Bool}{lot ts:List Int}(hq:H q=some (.tup (lot.map V.int)))(ht:AtS tp H t (ts.map V.int))(hl:lot.length<=1000)(h0:blkσ m σ=[none,some (.ref t)])
  (k:∀ D H',H' D=some (.lst ((lot.map fun x=>decide (x∈ts)).map V.bl))->Ext H H'->H D=none->Q (.ref D) H'):qI m (kO 0) yJ (tOp (rIn K false) (tVar 0) (tVar 1)) σ Q (Itt K q) H:=by
 refine jAJ (xs:=lot.map V.int) (by rw[af,aw]; lia) (fun D j σ' H' zs=>(∃ v,σ'=[v,some (.ref t)])/\Ext H H'/\H' D=some (.lst zs)/\H D=none/\zs=((lot.take j).map fun x=>decide (x∈ts)).map V.bl) ?_ ?_ ?_ ?_
 ·intro D hD
  exact⟨⟨_,h0⟩,(Ext.refl _).new hD _,j5,hD,rfl⟩
 ·rintro D j σ' H' zs hD ⟨_,e,h2,_,rfl⟩
  refine⟨e _ _ hq,h2,?_⟩
  rw[af,af]
  exact bu _ _
 ·rintro D j σ' H' zs x hD hx ⟨⟨v,rfl⟩,e,h2,hn,rfl⟩
  obtain⟨z,hz,rfl⟩:∃ z:Int,lot[j]?=some z/\V.int z=x:=by
   rw[aR] at hx
   cases hq:lot[j]? with
   | none=>rw[hq] at hx; cases hx
   | some z=>rw[hq] at hx; cases hx; exact⟨z,rfl,rfl⟩
  dsimp only [kO,yJ]
  rw[ar rfl]
  refine⟨_,rfl,_,rfl,t,_,rfl,(ht.ext e).or,rfl,jAD _,h2,⟨_,rfl⟩,e.updNew hn _,j5,hn,?_⟩
  have:lot.take (j+1)=lot.take j++[z]:=by
   rw[bg,hz]
   rfl
  rw[this,aS,aS]
  show _++[V.bl (inV (.int z) (ts.map V.int))]=_
  rw[jAI]
  rfl
 ·rintro D σ' H' zs hD ⟨_,e,h2,hn,rfl⟩
  rw[af,bw] at h2
  exact k D H' h2 e hn
theorem jW6 {lot:List Int}{p:Int->Bool} :(lot.map p).all id=lot.all p:=by rw[i8]; rfl
theorem jW5 {lot:List Int}{p:Int->Bool} :(lot.map p).any id=lot.any p:=by rw[ic]; rfl
theorem pc_lt {w:Int}{ms:List Int}{pcs:List (List Int×Int)}(g:Good 16 32 w ms pcs):∀ p∈pcs,p.1.length<64:=fun p hp=>by
 have:=g.pg p hp
 have:=jBE this.lot.ris this.lot.bnd g.w1
 lia
theorem jVW {ts:List Int}(h:ts.Pairwise (· < ·)){a b:Int}(ha:a∈ts)(hb:b∈ts)(hab:a<b):ts.idxOf a<ts.idxOf b:=by
 have ia:=cm.mpr ha
 have ib:=cm.mpr hb
 have ea:=fY ia
 have eb:=fY ib
 rcases iB (ts.idxOf a) (ts.idxOf b) with q | q | q
 ·exact q
 ·exfalso
  have e2:ts[ts.idxOf a]=ts[ts.idxOf b]:=by congr 1
  lia
 ·exfalso
  have:=b9.mp h _ _ ib ia q
  lia
theorem jJX {ts lot:List Int}(h:ts.Pairwise (· < ·))(hl:lot.Pairwise (· < ·)):(plcs ts lot).Pairwise (· < ·):=by
 unfold plcs
 rw[bM]
 refine iQ (R:=fun a b=>a<b) (fun {a b} ha hb hab=>?_) (hl.sublist ff)
 have:=jVW h (aG (ba.mp ha).2) (aG (ba.mp hb).2) hab
 lia
theorem jEC {ts lot:List Int}(h:ts.Pairwise (· < ·))(hl:lot.Pairwise (· < ·)):nmd ts lot=plcs ts lot:=jR4 ((jJX h hl).imp fun h=>by lia)
theorem mem_upto {n:Nat}{t:Int} :t∈upto n↔0<=t/\t<n:=by
 constructor
 ·exact fun h=>(yB n).bnd t h
 ·intro h
  unfold upto
  exact aW.mpr ⟨t.toNat,bG.mpr (by lia),by lia⟩
theorem jAT {ts:List Int}{t:Int}(h:t∈ts):ts[ts.idxOf t]?=some t/\∀ m,m<ts.idxOf t->ts[m]?≠some t:=by
 have hi:=cm.mpr h
 refine⟨by rw[ay hi,fY],fun m hm e=>?_⟩
 have hm':m<ts.length:=by lia
 rw[ay hm'] at e
 have:=List.not_of_lt_findIdx (p:=(· ==t)) (xs:=ts) (i:=m) (by unfold List.idxOf at hm; exact hm)
 rw[bq e] at this
 simp at this
theorem jFH {K:W.Frag}{m:List (Option Nat)}{σ:St}{H:Hp}{Q:VK}{q t:Addr}{lot ts:List Int}(hq:H q=some (.tup (lot.map V.int)))(ht:H t=some (.tup (ts.map V.int)))(hl:lot.length<=1000)(h0:blkσ m σ=[none,some (.ref t)])
  (k:∀ D H',H' D=some (.lst ((plcs ts lot).map V.int))->Ext H H'->H D=none->Q (.ref D) H'):qI m (kO 0) (tB (tOp (rIn K false) (tVar 0) (tVar 1))) (tBMT jMC (tVar 1) (tCons (tVar 0) tNil)) σ Q (Itt K q) H:=by
 refine jAJ (xs:=lot.map V.int) (by rw[af,aw]; lia) (fun D j σ' H' zs=>(∃ v,σ'=[v,some (.ref t)])/\Ext H H'/\H' D=some (.lst zs)/\H D=none/\zs=(plcs ts (lot.take j)).map V.int) ?_ ?_ ?_ ?_
 ·intro D hD
  exact⟨⟨_,h0⟩,(Ext.refl _).new hD _,j5,hD,rfl⟩
 ·rintro D j σ' H' zs hD ⟨_,e,h2,_,rfl⟩
  refine⟨e _ _ hq,h2,?_⟩
  rw[af]
  exact bf (jG1 _ _) (bu _ _)
 ·rintro D j σ' H' zs x hD hx ⟨⟨v,rfl⟩,e,h2,hn,rfl⟩
  obtain⟨z,hz,rfl⟩:∃ z:Int,lot[j]?=some z/\V.int z=x:=by
   rw[aR] at hx
   cases hq:lot[j]? with
   | none=>rw[hq] at hx; cases hx
   | some z=>rw[hq] at hx; cases hx; exact⟨z,rfl,rfl⟩
  have hp:plcs ts (lot.take (j+1))=plcs ts (lot.take j)++(if z∈ts then [((ts.idxOf z:Nat):Int)] else []):=by
   unfold plcs
   rw[bg,hz,bE,aS]
   congr 1
   by_cases hzz:z∈ts <;> simp [hzz]
  dsimp only [kO]
  refine⟨_,rfl,_,rfl,t,_,rfl, .inr (SqT.of (e _ _ ht)),rfl,jAD _,_,rfl,?_⟩
  rw[jAI]
  refine ite2 (fun hzz=>?_) (fun hzz=>?_)
  ·have hzt:z∈ts:=aG hzz
   refine⟨_,rfl,⟨t,_,rfl,e _ _ ht⟩,_,rfl,t,ts,z,ts.idxOf z,rfl,rfl,e _ _ ht,(jAT hzt).1,(jAT hzt).2,h2,⟨_,rfl⟩,e.updNew hn _,j5,hn,?_⟩
   rw[hp,ar hzt,aS]
   rfl
  ·have hzt:¬ z∈ts:=fun y=>hzz (az y)
   refine⟨⟨_,rfl⟩,e,h2,hn,?_⟩
   rw[hp,ao hzt,aZ]
 ·rintro D σ' H' zs hD ⟨_,e,h2,hn,rfl⟩
  rw[af,bw] at h2
  exact k D H' h2 e hn
abbrev nMask:List Str:=["lot"]
theorem scMask:FnScope nMask ["lot"] (j6 sMask):= {}
def jH0:Sp:=fun vs H Q _=>∃ (q:Addr) (ts:List Int),vs=[.ref q]/\H q=some (.tup (ts.map V.int))/\(∀ t∈ts,0<=t/\t<64)/\ts.length<=64/\∀ H',Ext H H'->Q (.int ((maskN ts:Nat):Int)) H'
def maskA (T:Txt mg): { t:TS // JSs (XOf nMask "mask_of" sMask P w K mg lv f lw A lu s H0 E) (jC sMask) t} :=
 have nd:=scMask.nd
 ⟨_,(jB (jN (jH (jHU rfl) gD T.sum (by decide+kernel) (j3 (jR (m:=[none]) (Nc:=["thing"]) rfl (qC (jv 0 rfl vL)) rfl (by decide+kernel) (by decide+kernel) (jG (psc:=j6 sMask)) (jF (N:=nMask) rfl rfl (by decide+kernel)) (fun cl C fp s H=>jJ (i:=0) (show (["thing"]:List Str).Nodup by decide+kernel) rfl y9) (fun cl C fp s H=>kG) (fun cl C fp s H=>(kN jFA (je_int) (jv 0 rfl jL))) y6) j7 jE) jE)))⟩
theorem jL7 (ts:List Int)(h:∀ t∈ts,0<=t):(ts.map fun t=>(1:Int)*2 ^ t.toNat).sum=((maskN ts:Nat):Int):=by
 induction ts with
 | nil=>rfl
 | cons t r ih=>
  have e:maskN (t::r)=2 ^ t.toNat+maskN r:=by simp [maskN]
  rw[br,kn,ih fun x hx=>h x (ah _ hx),e]
  push_cast
  lia
theorem jT3 {fd:FuncData}(F:Fun K "mask_of" "mask_of" sMask f fd)(T:Txt mg):FnOk P w K mg lv CX0 1 f fd ["lot"] jH0:=by
 refine F.ok scMask (fun vs H Q E h=>?_) (fun lw A lu s H vs Q E hr h=>?_)
 ·obtain⟨_,_,rfl,_⟩:=h
  rfl
 ·obtain⟨q,ts,rfl,hq,hb,hl,k⟩:=h
  refine⟨_,(maskA T).2.h,?_⟩
  refine⟨_,rfl,q,rfl,⟨_,SqT.of hq⟩,jAJ (xs:=ts.map V.int) (by rw[af,aw]; lia) (fun D i σ' H' zs=>(∃ v,σ'=[v])/\Ext H H'/\H' D=some (.lst zs)/\H D=none/\zs=((ts.take i).map fun t=>(1:Int)*2 ^ t.toNat).map V.int) ?_ ?_ ?_ ?_⟩
  ·intro D hD
   exact⟨⟨_,rfl⟩,(Ext.refl _).new hD _,j5,hD,rfl⟩
  ·rintro D i σ' H' zs hD ⟨_,e,h2,_,rfl⟩
   refine⟨e _ _ hq,h2,?_⟩
   rw[af,af,bN]
   lia
  ·rintro D i σ' H' zs x hD hx ⟨⟨v,rfl⟩,e,h2,hn,rfl⟩
   obtain⟨z,hz,rfl⟩:∃ z:Int,ts[i]?=some z/\V.int z=x:=by
    rw[aR] at hx
    cases hq:ts[i]? with
    | none=>rw[hq] at hx; cases hx
    | some z=>rw[hq] at hx; cases hx; exact⟨z,rfl,rfl⟩
   have hzb:=hb z (aJ hz)
   dsimp only [kO,yJ]
   rw[ar rfl]
   refine⟨_,rfl,_,_,rfl,rfl,⟨?_,?_,?_⟩,h2,⟨_,rfl⟩,e.updNew hn _,j5,hn,?_⟩
   ·first | lia | decide
   ·first | lia | decide
   ·first | lia | decide
   ·have:ts.take (i+1)=ts.take i++[z]:=by
     rw[bg,hz]
     rfl
    rw[this,aS,aS]
    rfl
  ·rintro D σ' H' zs hD ⟨_,e,h2,hn,rfl⟩
   refine⟨D,_,rfl,SqL.of h2,?_⟩
   rw[af,bw,jL7 ts fun t ht=>(hb t ht).1]
   exact k H' e
end Eo
namespace L2
open PySem
theorem jVS {X:Cx}{a b c:Expr}{pos:Pos}{ta tb:TE}{tc:TT}(hc:JT X c tc)(ha:JE X a ta)(hb:JE X b tb):JE X (.IfExp c a b pos) (tIf tc ta tb):=⟨jPL hc.h ha.h hb.h⟩
end L2
namespace Eo
open PySem L2
def PrAt (H:Hp)(v:V)(c:Int×Nat):Prop:=∃ q,v= .ref q/\H q=some (.tup [.int c.1, .int ((c.2:Nat):Int)])
theorem PrAt.mono {H H':Hp}(t:Tups H H'){v:V}{c:Int×Nat}(h:PrAt H v c):PrAt H' v c:=let ⟨q,e,z⟩:=h; ⟨q,e,t _ _ z⟩
def RowAt (H:Hp)(l:Addr)(cs:List (Int×Nat)):Prop:=∃ vs,H l=some (.lst vs)/\All2 (PrAt H) vs cs
structure ChAt (H:Hp)(L:Addr)(ch:Ch):Prop where
 ex:∃ ls:List Addr,H L=some (.lst (ls.map V.ref))/\ls.Nodup/\All2 (RowAt H) ls ch
theorem RowAt.keep {H H':Hp}{l:Addr}{cs:List (Int×Nat)}(h:RowAt H l cs)(k:∀ xs,H l=some (.lst xs)->H' l=some (.lst xs))(t:Tups H H'):RowAt H' l cs:=let ⟨vs,a,b⟩:=h; ⟨vs,k _ a,b.imp fun _ _=>PrAt.mono t⟩
theorem ChAt.keep {H H':Hp}{L:Addr}{ch:Ch}(h:ChAt H L ch)(k:∀ b xs,H b=some (.lst xs)->H' b=some (.lst xs))(t:Tups H H'):ChAt H' L ch:=by
 obtain⟨ls,a,b,c⟩:=h.ex
 exact⟨ls,k _ _ a,b,c.imp fun l cs r=>r.keep (k l) t⟩
theorem ChAt.ext {H H':Hp}{L:Addr}{ch:Ch}(h:ChAt H L ch)(e:Ext H H'):ChAt H' L ch:=h.keep (fun b xs z=>e _ _ z) e.tups
theorem ChAt.len {H:Hp}{L:Addr}{ch:Ch}(h:ChAt H L ch):∃ ls:List Addr,H L=some (.lst (ls.map V.ref))/\ls.length=ch.length:=by
 obtain⟨ls,a,b,c⟩:=h.ex
 exact⟨ls,a,c.len⟩
def yN (ms:List Int)(pcs:List (List Int×Int))(n t:Nat):List (Int×Nat):=
 (if (t:Int)∈ms then [(-1,2 ^ t)] else [])++(((upto pcs.length).take n).filter fun k=>decide ((j9 pcs k).headD 0=(t:Int))).map fun k=>(k,maskN (j9 pcs k))
def chsN (w:Nat)(ms:List Int)(pcs:List (List Int×Int))(n:Nat):Ch:=(List.range w).map (yN ms pcs n)
def chs (w:Nat)(ms:List Int)(pcs:List (List Int×Int)):Ch:=chsN w ms pcs pcs.length
theorem kZ (w:Nat)(ms:List Int)(pcs:List (List Int×Int))(n:Nat):(chsN w ms pcs n).length=w:=by
 unfold chsN
 rw[af,bR]
theorem jAA {w:Nat}{ms:List Int}{pcs:List (List Int×Int)}{n t:Nat}(h:t<w):(chsN w ms pcs n)[t]?=some (yN ms pcs n t):=by
 unfold chsN
 rw[aR,cI h]
 rfl
theorem jHG {ts:List Int}{t:Nat}(hp:ts.Pairwise (· < ·))(h0:∀ x∈ts,0<=x)(h:(t:Int)∈ts):(maskN ts).testBit t=true:=by
 rw[jAB ts t hp h0,az h]
theorem jEE {ts:List Int}{w:Nat}(hp:ts.Pairwise (· < ·))(h0:∀ x∈ts,0<=x/\x<(w:Int)):maskN ts<2 ^ w:=by
 refine Nat.lt_pow_two_of_testBit _ fun i hi=>?_
 rw[jAB ts i hp fun x hx=>(h0 x hx).1,aP]
 intro z
 have:=(h0 _ z).2
 lia
theorem jGH {l:List Int}(h:l≠ []):l.headD 0∈l:=by
 cases l with
 | nil=>exact absurd rfl h
 | cons a r=>exact ai ..
theorem jDI {w:Int}{ms:List Int}{pcs:List (List Int×Int)}{n:Nat}(g:Good 16 32 w ms pcs):ChOk (chsN w.toNat ms pcs n):=by
 have w0:=g.w0
 have w1:=g.w1
 have gpl:=g.pl
 refine⟨by rw[kZ]; lia,fun t cs h=>?_,fun t cs h c hc=>?_⟩
 ·have ht:t<w.toNat:=by
   have:=(aj.mp h).1
   rwa [kZ] at this
  rw[jAA ht] at h
  cases h
  unfold yN
  rw[aH,af]
  have:=bD (fun k=>decide ((j9 pcs k).headD 0=(t:Int))) ((upto pcs.length).take n)
  have:=bu n (upto pcs.length)
  have:=jBM pcs.length
  have:((upto pcs.length).take n).length<=(upto pcs.length).length:=by rw[bN]; lia
  split <;> simp only [aU,cy] <;> lia
 ·have ht:t<w.toNat:=by
   have:=(aj.mp h).1
   rwa [kZ] at this
  rw[jAA ht] at h
  cases h
  unfold yN at hc
  rw[kZ]
  rcases aM.mp hc with hc | hc
  ·split at hc
   ·rw[aK] at hc
    subst hc
    exact⟨by simp [cG],gP (by decide) ht,by show (-1:Int)<= -1; decide,by show (-1:Int)<32; decide⟩
   ·cases hc
  ·obtain⟨k,hk,rfl⟩:=aW.mp hc
   obtain⟨hk1,hk2⟩:=ba.mp hk
   have kb:=(yB pcs.length).bnd k (cw hk1)
   have gp:=g.at (k:=k.toNat) (by lia)
   have hk2:=aG hk2
   have hne:j9 pcs k≠ []:=gp.lot.ne
   have hm:(t:Int)∈j9 pcs k:=by
    rw[<- hk2]
    exact jGH hne
   exact⟨jHG gp.lot.ris (fun x hx=>(gp.lot.bnd x hx).1) hm,jEE gp.lot.ris fun x hx=>⟨(gp.lot.bnd x hx).1,by have:=(gp.lot.bnd x hx).2; lia⟩,by lia,by lia⟩
abbrev jBQ:List Str:=["box","choices","number","piece"]
theorem scChoices:FnScope jBQ ["box"] (j6 yF):= {}
def jCA:Sp:=fun vs H Q _=>∃ (b:Addr) (w:Int) (ms:List Int) (pcs:List (List Int×Int)),vs=[.ref b]/\BoxAt H b w ms pcs/\Good 16 32 w ms pcs/\∀ r H',ChAt H' r (chs w.toNat ms pcs)->Ext H H'->Q (.ref r) H'
def jTZ (T:Txt mg)(CM:Can P w K mg lv "mask_of" 1 fM fdM ["lot"] jH0)(hr:Room 1 (XOf jBQ "choices_of" yF P w K mg lv f lw A lu s H0 E).A): { t:TS // JSs (XOf jBQ "choices_of" yF P w K mg lv f lw A lu s H0 E) (jCG ((jC yF).getD 1 (.Pass ⟨0,0,0,0⟩))) t} :=
 have nd:=scChoices.nd
 ⟨_,(jB (jAM (je_bm bK bW bX jA2 (kB jC4 (jv 1 rfl vL) (kB kP (kB kP (jv 3 rfl vL) (je_int) jK) (je_int) jK) jUK) (j3 (y4 (j3 (jv 2 rfl vL) (j3 (CM.je hr gD (j3 (kB kP (jv 3 rfl vL) (je_int) jK) j7 jX) jX) j7 jI) j4)) j7 yZ) yZ) jU))⟩
def jQN (T:Txt mg)(CM:Can P w K mg lv "mask_of" 1 fM fdM ["lot"] jH0)(hr:Room 1 (XOf jBQ "choices_of" yF P w K mg lv f lw A lu s H0 E).A): { t:TS // JSs (XOf jBQ "choices_of" yF P w K mg lv f lw A lu s H0 E) (jC yF) t} :=
 have nd:=scChoices.nd
 ⟨_,(jD (jTH (i:=1) nd rfl lL ⟨by rfl⟩ (m:=[none,some 0]) (Nc:=["thing","box"]) rfl (jA3 gD T.range (j3 (kB kP (jv 0 rfl vC) (je_int) jK) j7 jX) jX) rfl (by decide+kernel) (by decide+kernel) (jG (psc:=j6 yF)) (jF (N:=jBQ) rfl rfl (by decide+kernel)) (fun cl C fp s H=>jJ (i:=0) (show (["thing","box"]:List Str).Nodup by decide+kernel) rfl y9) (fun cl C fp s H=>kG) (fun cl C fp s H=>(jVS (kL jCW (jv 0 rfl jL) (kB yM (jv 1 rfl kD) (je_int) jK) jRC) (yQ (j3 (y4 (j3 (je_un jQX (je_int)) (j3 (kN jFA (je_int) (jv 0 rfl jL)) j7 yA) se_un)) j7 yZ)) (yQ j7))) kE) (jD (qB cf rfl (jIX gD T.enumerate (j3 (kB kP (jv 0 rfl vC) (je_int) jK) j7 jX) jX) (jDX (i:=2) (j:=3) nd rfl rfl (by decide+kernel) (by decide+kernel)) (jTZ T CM hr).2 kE) (jB (jN (jv 1 rfl vL)))))⟩
abbrev nFull:List Str:=["choices"]
theorem scFull:FnScope nFull ["choices"] (j6 sFull):= {}
def jF3:Sp:=fun vs H Q _=>∃ (L:Addr) (ch:Ch),vs=[.ref L]/\ChAt H L ch/\ch.length<=16/\Q (.int ((fullN ch:Nat):Int)) H
def fullA (T:Txt mg): { t:TS // JSs (XOf nFull "full_mask" sFull P w K mg lv f lw A lu s H0 E) (jC sFull) t} :=
 have nd:=scFull.nd
 ⟨_,(jB (jN (kN jDE (kN jFA (je_int) (jH jY gD T.len (by decide+kernel) (j3 (jv 0 rfl vL) j7 j4) j4)) (je_int))))⟩
abbrev nAt:List Str:=["choices","mask","least_lacked"]
theorem scAt:FnScope nAt ["choices","mask"] (j6 sAt):= {}
def spAt:Sp:=fun vs H Q _=>∃ (L:Addr) (ch:Ch) (m:Nat),vs=[.ref L, .int (m:Int)]/\ChAt H L ch/\ChOk ch/\m<2 ^ ch.length/\m≠fullN ch/\∀ r H',RowAt H' r (chAt ch m)->Ext H H'->H r=none->Q (.ref r) H'
def atA (T:Txt mg): { t:TS // JSs (XOf nAt "choices_at" sAt P w K mg lv f lw A lu s H0 E) (jC sAt) t} :=
 have nd:=scAt.nd
 ⟨_,(jD (jT (i:=2) nd rfl lL (kN jDE (jNY jc ie ig jN8 (kN jHC (je_un jUA (jv 1 rfl vC)) (kN yI (jv 1 rfl vC) (je_int)))) (je_int)) jM3)
   (jB (jN (jR (m:=[none,some 1]) (Nc:=["choice","mask"]) rfl (kY (kB jC4 (jv 0 rfl vL) (jv 2 rfl vL) jCV)) rfl (by decide+kernel) (by decide+kernel) (jG (psc:=j6 sAt)) (jF (N:=nAt) rfl rfl (by decide+kernel)) (fun cl C fp s H=>jJ (i:=0) (show (["choice","mask"]:List Str).Nodup by decide+kernel) rfl y9) (fun cl C fp s H=>jB5 (kL qN (kN jHC (kB yM (jv 0 rfl jL) (je_int) jK) (jv 1 rfl kD)) (je_int) (kI _))) (fun cl C fp s H=>(jv 0 rfl jL)) jOB))))⟩
theorem jD5 (ms:List Int)(pcs:List (List Int×Int))(t:Nat):yN ms pcs 0 t=if (t:Int)∈ms then [(-1,2 ^ t)] else []:=by
 unfold yN
 rw[ix]
 simp
theorem jON {w n:Nat}{ms:List Int}{pcs:List (List Int×Int)}(hn:n<pcs.length)(t:Nat)(ht:(j9 pcs (n:Int)).headD 0=(t:Int)):chsN w ms pcs (n+1)=(chsN w ms pcs n).set t (yN ms pcs n t++[((n:Int),maskN (j9 pcs n))]):=by
 have key:∀ u,yN ms pcs (n+1) u=yN ms pcs n u++if u=t then [((n:Int),maskN (j9 pcs n))] else []:=fun u=>by
  unfold yN
  rw[jE1 hn,bE,aS,aY]
  congr 2
  rw[cg,ht]
  by_cases hu:u=t
  ·subst hu
   rw[ar (az rfl),ar rfl]
   rfl
  ·rw[ao (by rw[bA]; lia),ao hu]
   rfl
 refine List.ext_getElem? fun i=>?_
 rw[List.getElem?_set,kZ]
 by_cases hi:i<w
 ·rw[jAA hi,jAA hi,key]
  by_cases h:t=i
  ·subst h
   rw[ar rfl,ar rfl,ar hi]
  ·rw[ao h,ao (fun z=>h z.symm),aZ]
 ·rw[di (by rw[kZ]; lia),di (by rw[kZ]; lia)]
  split
  ·rw[ao (by lia)]
  ·rfl
theorem ChAt.app {H:Hp}{L:Addr}{ch:Ch}{t:Nat}{l:Addr}{ls:List Addr}{vs:List V}{cs:List (Int×Nat)}{v:V}{c:Int×Nat}(hL:H L=some (.lst (ls.map V.ref)))(nd:ls.Nodup)(al:All2 (RowAt H) ls ch)(hl:ls[t]?=some l)(hc:ch[t]?=some cs)(hv:H l=some (.lst vs))(av:All2 (PrAt H) vs cs)(pv:PrAt H v c)(ne:l≠L):
  (L2.upd H l (.lst (vs++[v]))) L=some (.lst (ls.map V.ref))/\All2 (RowAt (L2.upd H l (.lst (vs++[v])))) ls (ch.set t (cs++[c])):=by
 have tu:Tups H (L2.upd H l (.lst (vs++[v]))):=Tups.upd hv _
 refine⟨by rw[j8 ne.symm]; exact hL,?_⟩
 refine All2.of_get (by rw[List.length_set]; exact al.len) fun i a b h1 h2=>?_
 rw[List.getElem?_set] at h2
 by_cases hi:t=i
 ·subst hi
  rw[ar rfl,ar (aj.mp hc).1] at h2
  cases h2
  rw[hl] at h1
  cases h1
  exact⟨_,j5,(av.imp fun _ _=>PrAt.mono tu).snoc (pv.mono tu)⟩
 ·rw[ao hi] at h2
  obtain⟨b',hb',r⟩:=al.get' h1
  rw[h2] at hb'
  cases hb'
  refine r.keep (fun xs hx=>?_) tu
  rw[j8 fun z=>hi ?_]
  ·exact hx
  ·exact(eT (aj.mp hl).1 nd).mp (by rw[hl,h1,z])
theorem jL5 {fd:FuncData}(F:Fun K "choices_of" "choices_of" yF f fd)(T:Txt mg)(CM:Can P w K mg lv "mask_of" 1 fM fdM ["lot"] jH0):FnOk P w K mg lv CX0 2 f fd ["box"] jCA:=by
 refine F.ok scChoices (fun vs H Q E h=>?_) (fun lw A lu s H vs Q E hr h=>?_)
 ·obtain⟨_,_,_,_,rfl,_⟩:=h
  rfl
 ·obtain⟨b,w,ms,pcs,rfl,hB,g,q⟩:=h
  refine⟨_,(jQN T CM hr).2.h,?_⟩
  obtain⟨qm,qp,ps,b1,b2,b3,b4⟩:=id hB.ex
  have pl:=b4.len
  have w0:=g.w0
  have w1:=g.w1
  have gpl:=g.pl
  refine⟨_,rfl,b,_,0,_,rfl,rfl,SqT.of b1,rfl,w,rfl,by lia,by lia,jBV (n:=w.toNat) (by rw[aw]; lia) (fun D i σ' H' zs=>(∃ v,σ'=[v,some (.ref b)])/\Ext H H'/\H' D=some (.lst zs)/\H D=none/\∃ ls:List Addr,zs=ls.map V.ref/\ls.Nodup/\D∉ls/\(∀ a∈ls,H a=none)/\All2 (RowAt H') ls ((List.range i).map (yN ms pcs 0))) ?_ ?_ ?_ ?_⟩
  ·intro D hD
   exact⟨⟨_,rfl⟩,(Ext.refl _).new hD _,j5,hD,[],rfl,jt,by simp,by simp,trivial⟩
  ·rintro D i σ' H' zs hD hi ⟨_,e,h2,_,ls,rfl,_,_,_,al⟩
   refine⟨h2,?_⟩
   rw[af,al.len,af,bR]
   lia
  ·rintro D i σ' H' zs hD hi ⟨⟨v,rfl⟩,e,h2,hn,ls,rfl,nd,hDl,nol,al⟩
   dsimp only [kO,yJ]
   rw[ar rfl]
   have e0:(0+(i:Int))=(i:Int):=by lia
   have key:∀ (l:Addr) (H2:Hp),Ext H' H2->H' l=none->RowAt H2 l (yN ms pcs 0 i)->H2 D=some (.lst (ls.map V.ref))/\((∃ v,[some (V.int (i:Int)),some (.ref b)]=[v,some (.ref b)])/\Ext H (L2.upd H2 D (.lst (ls.map V.ref++[.ref l])))/\(L2.upd H2 D (.lst (ls.map V.ref++[.ref l]))) D=some (.lst (ls.map V.ref++[.ref l]))/\H D=none/\∃ ls':List Addr,ls.map V.ref++[.ref l]=ls'.map V.ref/\ls'.Nodup/\D∉ls'/\(∀ a∈ls',H a=none)/\All2 (RowAt (L2.upd H2 D (.lst (ls.map V.ref++[.ref l])))) ls' ((List.range (i+1)).map (yN ms pcs 0))):=fun l H2 e2 nl rl=>by
    have hD2:=e2 _ _ h2
    have lD:l≠D:=fun z=>by rw[z,h2] at nl; cases nl
    have tu:Tups H2 (L2.upd H2 D (.lst (ls.map V.ref++[.ref l]))):=Tups.upd hD2 _
    have kp:∀ a xs,a≠D->H2 a=some (.lst xs)->(L2.upd H2 D (.lst (ls.map V.ref++[.ref l]))) a=some (.lst xs):=fun a xs ha h=>by rw[j8 ha]; exact h
    refine⟨hD2,⟨_,rfl⟩,(e.trans e2).updNew hn _,j5,hn,ls++[l],by rw[aS]; rfl,?_,?_,?_,?_⟩
    ·rw[gm]
     refine⟨nd,by simp,fun a ha b hb z=>?_⟩
     rw[aK] at hb
     subst hb z
     obtain⟨j,hj⟩:=bB ha
     obtain⟨cs,_,vs,r,_⟩:=al.get' hj
     rw[nl] at r
     cases r
    ·rw[aM,aK]
     rintro (z | z)
     ·exact hDl z
     ·exact lD z.symm
    ·intro a ha
     rcases aM.mp ha with z | z
     ·exact nol a z
     ·rw[aK] at z
      subst z
      cases y:H a with
      | none=>rfl
      | some o=>rw[e _ _ y] at nl; cases nl
    ·rw[fo,aS]
     refine(All2.of_get al.len fun j a c h1 h2'=>?_).snoc (rl.keep (fun xs=>kp l xs lD) tu)
     obtain⟨c',hc',r⟩:=al.get' h1
     rw[h2'] at hc'
     cases hc'
     have aD:a≠D:=fun z=>hDl (z ▸ aJ h1)
     exact r.keep (fun xs hx=>kp a xs aD (e2 _ _ hx)) (e2.tups.trans tu)
   refine⟨_,rfl,_,rfl,b,_,1,_,rfl,rfl,SqT.of (e _ _ b1),rfl,qm,_,rfl, .inr (SqT.of (e _ _ b2)),rfl,jAD ms,_,rfl,?_⟩
   rw[e0,jAI]
   refine ite2 (fun hz=>?_) (fun hz=>?_)
   ·have hz:=aG hz
    refine⟨_,rfl,_,rfl,_,_,rfl,rfl,⟨by lia,by lia,by decide⟩,by show (2:Nat)<=_; decide,fun r H2 d2 e2=>⟨by show (1:Nat)<=_; decide,fun l H3 d3 e3 n3=>?_⟩⟩
    have nl:H' l=none:=by
     cases z:H' l with
     | none=>rfl
     | some o=>rw[e2 _ _ z] at n3; cases n3
    refine key l H3 (e2.trans e3) nl ⟨_,d3,?_⟩
    rw[jD5,ar hz]
    refine⟨⟨r,rfl,?_⟩,trivial⟩
    have:(1:Int)*2 ^ (i:Int).toNat=((2 ^ i:Nat):Int):=by
     rw[aV]
     push_cast
     lia
    rw[e3 _ _ d2]
    show some (HO.tup [V.int (-1),V.int ((1:Int)*2 ^ (i:Int).toNat)])=_
    rw[this]
   ·refine⟨by show (0:Nat)<=_; decide,fun l H3 d3 e3 n3=>?_⟩
    refine key l H3 e3 n3 ⟨_,d3,?_⟩
    rw[jD5,ao (fun z=>hz (az z))]
    trivial
  ·rintro D σ' H1 zs hD ⟨_,e1,h2,hn,ls,rfl,nd,hDl,nol,al⟩
   refine⟨_,rfl,b,_,2,_,rfl,rfl,SqT.of (e1 _ _ b1),rfl,true,qp,rfl,⟨_,SqT.of (e1 _ _ b3)⟩,jQF (tp:=true) (xs:=ps) (fun i σ H'=>(∃ v2 v3,σ=[some (.ref b),some (.ref D),v2,v3])/\Ext H H'/\H' D=some (.lst (ls.map V.ref))/\All2 (RowAt H') ls (chsN w.toNat ms pcs i)) ⟨⟨_,_,rfl⟩,e1,h2,al⟩ (fun i σ H' ⟨_,e,_⟩=>SqT.of (e _ _ b3)) ?_ ?_⟩
   ·rintro i x t σ H' hx ht ⟨⟨v2,v3,rfl⟩,e,h3,al3⟩
    obtain⟨pc,hpc,hPc⟩:=b4.at hx
    obtain⟨pa,pq,rfl,c1,c2⟩:=id hPc
    have hi:i<pcs.length:=(aj.mp hpc).1
    have gp:=g.pg pc (aJ hpc)
    have et:j9 pcs (i:Int)=pc.1:=by
     unfold j9
     rw[aV,aC,hpc]
     rfl
    have lt:=jBC _ 0 w gp.lot.ris gp.lot.bnd
    have e':=e.new ht (.tup [.int (i:Int), .ref pa])
    have k':Ext H' (L2.upd H' t (.tup [.int (i:Int), .ref pa])):=(Ext.refl _).new ht _
    refine⟨t,_,rfl,SqT.of j5,rfl,_,_,rfl,_,_,rfl,rfl,?_⟩
    have h5:=k' _ _ h3
    have al5:=al3.imp fun l cs r=>r.keep (fun xs z=>k' _ _ z) k'.tups
    generalize L2.upd H' t (.tup [.int (i:Int), .ref pa])=H5 at e' h5 al5 ⊢
    obtain⟨hd,tl,hp1⟩:∃ hd tl,pc.1=hd::tl:=by
     cases z:pc.1 with
     | nil=>exact absurd z gp.lot.ne
     | cons a r=>exact⟨a,r,rfl⟩
    have hb:=gp.lot.bnd hd (by rw[hp1]; exact ai ..)
    have hdl:(j9 pcs (i:Int)).headD 0=((hd.toNat:Nat):Int):=by
     rw[et,hp1]
     show hd=_
     lia
    have hw:hd.toNat<w.toNat:=by lia
    obtain⟨l,hl,vs,hv,av⟩:=al5.get (jAA hw)
    have lne:l≠D:=fun z=>hDl (z ▸ aJ hl)
    have iD:atI (ls.map V.ref) hd=some (.ref l):=by
     have:=jAO (xs:=ls.map V.ref) (j:=hd.toNat) (v:= .ref l) (by rw[aR,hl]; rfl)
     rwa [show ((hd.toNat:Nat):Int)=hd by lia] at this
    have c2':H5 pq=some (.tup (pc.1.map V.int)):=e' _ _ c2
    refine⟨_,rfl,_,rfl,pa,_,0,_,rfl,rfl,SqT.of (e' _ _ c1),rfl,pq,_,0, .int hd,rfl,rfl,SqT.of c2',by rw[hp1]; exact jAO (j:=0) rfl,D,_,_,_,rfl,rfl,SqL.of h5,iD, .inl ⟨rfl,_,SqL.of hv⟩,_,rfl,_,rfl,pa,_,0,_,rfl,rfl,SqT.of (e' _ _ c1),rfl,pq,pc.1,rfl,c2',fun x hx=>?_,by lia,fun H6 e6=>?_⟩
    ·have:=gp.lot.bnd x hx
     lia
    refine⟨by show (2:Nat)<=_; decide,fun r H7 d7 e7=>?_⟩
    have E7:=e6.trans e7
    have hv7:=E7 _ _ hv
    have vl:vs.length<=33:=by
     rw[av.len]
     exact(jDI g).len _ _ (jAA hw)
    have ap:=ChAt.app (v:= .ref r) (c:=((i:Int),maskN (j9 pcs (i:Int)))) (E7 _ _ h5) nd (al5.imp fun l cs r=>r.keep (fun xs z=>E7 _ _ z) E7.tups) hl (jAA hw) hv7 (av.imp fun _ _=>PrAt.mono E7.tups) ⟨r,rfl,by rw[et]; exact d7⟩ lne
    have nH:H l=none:=by
     cases z:H l with
     | none=>rfl
     | some o=>
      exfalso
      rw[nol l (aJ hl)] at z
      cases z
    refine⟨l,_,_,rfl,rfl,hv7,by rw[aw]; lia,⟨_,_,rfl⟩,?_,ap.1,?_⟩
    ·exact(e'.trans E7).updNew nH _
    ·rw[jON hi hd.toNat hdl]
     exact ap.2
   ·rintro σ H' ⟨⟨v2,v3,rfl⟩,e,h3,al3⟩
    refine⟨_,rfl,q D H' ⟨ls,h3,nd,?_⟩ e⟩
    rw[pl] at al3
    exact al3
theorem jT6 {fd:FuncData}(F:Fun K "full_mask" "full_mask" sFull f fd)(T:Txt mg):FnOk P w K mg lv CX0 1 f fd ["choices"] jF3:=by
 refine F.ok scFull (fun vs H Q E h=>?_) (fun lw A lu s H vs Q E hr h=>?_)
 ·obtain⟨_,_,rfl,_⟩:=h
  rfl
 ·obtain⟨L,ch,rfl,hL,hw,q⟩:=h
  refine⟨_,(fullA T).2.h,?_⟩
  obtain⟨ls,h1,h2⟩:=hL.len
  refine⟨_,rfl,L,_,rfl, .inl (SqL.of h1),_,_,rfl,rfl,⟨?_,?_,?_⟩,_,_,rfl,rfl,?_⟩
  ·first | lia | decide
  ·rw[af]; lia
  ·first | lia | decide
  ·have e:(1:Int)*2 ^ (((ls.map V.ref).length:Nat):Int).toNat - 1=((fullN ch:Nat):Int):=by
    rw[af,h2,aV]
    unfold fullN
    have:=dJ ch.length
    have e2:((2 ^ ch.length:Nat):Int)=(2:Int) ^ ch.length:=by push_cast; rfl
    lia
   show Q (V.int ((1:Int)*2 ^ (((ls.map V.ref).length:Nat):Int).toNat - 1)) H
   rw[e]
   exact q
theorem ok_at {fd:FuncData}(F:Fun K "choices_at" "choices_at" sAt f fd)(T:Txt mg):FnOk P w K mg lv CX0 1 f fd ["choices","mask"] spAt:=by
 refine F.ok scAt (fun vs H Q E h=>?_) (fun lw A lu s H vs Q E hr h=>?_)
 ·obtain⟨_,_,_,rfl,_⟩:=h
  rfl
 ·obtain⟨L,ch,m,rfl,hL,ok,hm,hf,q⟩:=h
  refine⟨_,(atA T).2.h,?_⟩
  obtain⟨ls,h1,nd,al⟩:=hL.ex
  have hlow:=jEG hm hf
  have w16:=ok.w
  refine⟨_,rfl,_,rfl,_,rfl,_,_,rfl,rfl,_,_,rfl,rfl,rfl,_,rfl,rfl,_,_,rfl,rfl,?_⟩
  have el:(Builtin.Int.intBits (Builtin.bitAnd (Builtin.bitNot (m:Int)) ((m:Int)+1)):Int) - 1=((lowN m:Nat):Int):=by
   rw[jQ0]
   lia
  show kO 2 (V.int ((Builtin.Int.intBits (Builtin.bitAnd (Builtin.bitNot (m:Int)) ((m:Int)+1)):Int) - 1)) _ _ _
  rw[el]
  obtain⟨l,hl,vs,hv,av⟩:=al.get (ay hlow)
  have vl:vs.length<=33:=by
   rw[av.len]
   exact ok.len _ _ (ay hlow)
  have er:ch.getD (lowN m) []=ch[lowN m]:=by
   rw[aC,ay hlow]
   rfl
  refine⟨_,rfl,_,rfl,L,_,_,_,rfl,rfl,SqL.of h1,jAO (by rw[aR,hl]; rfl),l,rfl,⟨_,SqL.of hv⟩,jA9 (xs:=vs) (fun σ=>∃ v,σ=[v,some (.int (m:Int))]) (fun H' zs j=>All2 (PrAt H') zs (((ch[lowN m]).take j).filter fun c=>c.2&&&m==0)) ⟨fun H=>trivial,fun H H' zs j t h=>h.imp fun _ _=>PrAt.mono t,fun H zs j h=>?_⟩ hv (by rw[aw]; lia) ⟨_,rfl⟩ ?_ ?_⟩
  ·rw[h.len]
   exact bf (bD _ _) (bu _ _)
  ·rintro j x σ' H' zs hx ⟨v,rfl⟩ e hz R S yes no
   obtain⟨c,hc,qa,rfl,hq⟩:=av.get' hx
   have hq':=e _ _ hq
   have et:(ch[lowN m]).take (j+1)=(ch[lowN m]).take j++[c]:=by
    rw[bg,hc]
    rfl
   refine⟨_,rfl,qa,_,1,_,rfl,rfl,SqT.of hq',rfl,_,rfl,_,_,rfl,rfl,rfl,_,rfl,?_⟩
   have ez:decide (V.int (Builtin.bitAnd ((c.2:Nat):Int) (m:Int))=V.int 0)=(c.2&&&m==0):=by
    rw[jFL,bV,bA,gJ]
    exact⟨fun h=>by have:=V.int.inj h; lia,fun h=>by rw[h]; rfl⟩
   show if decide (V.int (Builtin.bitAnd ((c.2:Nat):Int) (m:Int))=V.int 0)=true then _ else _
   rw[ez]
   refine ite2 (fun h=>?_) (fun h=>?_)
   ·refine⟨_,rfl,yes _ _ _ ⟨_,rfl⟩ (Ext.refl _) ?_⟩
    show All2 _ _ (((ch[lowN m]).take (j+1)).filter _)
    rw[et,bE,cg,ar h]
    exact hz.snoc ⟨qa,rfl,hq'⟩
   ·refine no _ _ ⟨_,rfl⟩ (Ext.refl _) ?_
    show All2 _ _ (((ch[lowN m]).take (j+1)).filter _)
    rw[et,bE,cg,ao h,fq,aZ]
    exact hz
  ·rintro D H' zs hD e hn hz
   rw[av.len,bw] at hz
   refine q D H' ⟨zs,hD,?_⟩ e hn
   unfold chAt
   rw[er]
   exact hz
end Eo
namespace L2
open PySem
theorem jM2 {ks:List (Option Expr)}{vs:List Expr}{pos:Pos}{o:Option Expr} :SwOk (.Dict ks vs pos) o:=⟨fun _ _=>rfl⟩
end L2
namespace Eo
open PySem L2
abbrev natV (n:Nat):V:= .int (n:Int)
structure MetOk (ch:Ch)(ns:List Nat):Prop where
 zero:0∈ns
 bnd:∀ m∈ns,m<2 ^ ch.length
 up:∀ m∈ns,m≠fullN ch->∀ c∈chAt ch m,(m|||c.2)∈ns
def trK (ks:List Nat):List (Key×V):=ks.map fun (k:Nat)=>(Sum.inl (k:Int),V.bl true)
def jS0:Stmt->List Stmt
 | .While _ b _ _=>b
 | _=> []
theorem jIG (n:Nat):∀ ks:List Nat,valV (trK ks) (.inl (n:Int))=if n∈ks then some (.bl true) else none
 | []=>rfl
 | k::ks=>by
  show valV ((Sum.inl (k:Int),V.bl true)::trK ks) _=_
  by_cases h:k=n
  ·subst h
   rw[jBK rfl,ar (ai ..)]
  ·rw[jBL (by intro z; have:=gN z; lia),jIG n ks]
   by_cases h2:n∈ks
   ·rw[ar h2,ar (ah _ h2)]
   ·rw[ao h2,ao]
    intro z
    rcases aF.mp z with z | z
    ·exact h z.symm
    ·exact h2 z
theorem jTW {H:Hp}{M:Addr}{ks:List Nat}{m c:Nat}(h:H M=some (.dK (trK ks))):DGet H M (.int (Builtin.bitOr (m:Int) (c:Int))) (if (m|||c)∈ks then some (.bl true) else none):=by
 rw[jCM,<- jIG]
 exact DGet.k (k:=Sum.inl (((m|||c:Nat):Nat):Int)) h
theorem jTV {H:Hp}{M:Addr}{ks:List Nat}{m c:Nat}(h:H M=some (.dK (trK ks)))(hn:¬ (m|||c)∈ks)(hl:(trK ks).length<sizeLine):DPut H M (.int (Builtin.bitOr (m:Int) (c:Int))) (.bl true) (L2.upd H M (.dK (trK (ks++[m|||c])))):=by
 rw[jCM]
 have:=DPut.k (k:=Sum.inl (((m|||c:Nat):Nat):Int)) (v:= .bl true) h hl
 rw[jJV _ (by rw[jIG,ao hn])] at this
 unfold trK
 rw[aS]
 exact this
theorem jB3 {n:Nat}{ks:List Nat}(nd:ks.Nodup)(hb:∀ k∈ks,k<n):ks.length<=n:=by
 have:(ks.map fun k:Nat=>(k:Int)).length<=n:=jN0 n _ (bM.mpr (nd.imp fun h=>by lia)) fun t ht=>by
  obtain⟨k,hk,rfl⟩:=aW.mp ht
  have:=hb k hk
  lia
 rwa [af] at this
abbrev nMet:List Str:=["choices","full","met","waiting","mask","number","more"]
theorem scMet:FnScope nMet ["choices"] (j6 sMet):= {}
def spMet:Sp:=fun vs H Q _=>∃ (L:Addr) (ch:Ch),vs=[.ref L]/\ChAt H L ch/\ChOk ch/\∀ (r:Addr) (ns:List Nat) (H':Hp),H' r=some (.lst (ns.map natV))->ns.Pairwise (· > ·)->MetOk ch ns->Ext H H'->H r=none->Q (.ref r) H'
def jK7 (T:Txt mg)(CA:Can P w K mg lv "choices_at" 1 fA fdA ["choices","mask"] spAt)(hr:Room 1 (XOf nMet "masks_met" sMet P w K mg lv f lw A lu s H0 E).A): { t:TS // JSs (XOf nMet "masks_met" sMet P w K mg lv f lw A lu s H0 E) (jS0 ((jC sMet).getD 3 (.Pass ⟨0,0,0,0⟩))) t} :=
 have nd:=scMet.nd
 ⟨_,(jD (jT (i:=4) nd rfl lL (jNY bK PySem.F.slot_list_pop PySem.F.type_list_pop jVD (jv 3 rfl vL)) jU)
   (jB (yU (kL op_ne (jv 4 rfl vL) (jv 1 rfl vL) (kI _)) (jB (qB cf rfl (kY (CA.je hr gD (j3 (jv 0 rfl vL) (j3 (jv 4 rfl vL) j7 j4) j4) j4)) (jDX (i:=5) (j:=6) nd rfl rfl (by decide+kernel) (by decide+kernel)) (jB (yU (jNX (hu_of hr) (kN op_or (jv 4 rfl vL) (jv 6 rfl vL)) (jv 2 rfl vL) rfl) (jD (jIW (hu_of hr) (jv 2 rfl vL) (kN op_or (jv 4 rfl vL) (jv 6 rfl vL)) (je_bl) jPA)
   (jB (jAM (je_bm bK bW bX jA2 (jv 3 rfl vL) (j3 (kN op_or (jv 4 rfl vL) (jv 6 rfl vL)) j7 yA) yA) jU))) kU)) kE)) kU)))⟩
def metA (T:Txt mg)(CF:Can P w K mg lv "full_mask" 1 fF fdF ["choices"] jF3)(CA:Can P w K mg lv "choices_at" 1 fA fdA ["choices","mask"] spAt)(hr:Room 1 (XOf nMet "masks_met" sMet P w K mg lv f lw A lu s H0 E).A): { t:TS // JSs (XOf nMet "masks_met" sMet P w K mg lv f lw A lu s H0 E) (jC sMet) t} :=
 have nd:=scMet.nd
 ⟨_,(jD (jT (i:=1) nd rfl lL (CF.je (hr.mono (by decide)) gD (j3 (jv 0 rfl vL) j7 j4) j4) jU) (jD (jT (i:=2) nd rfl lL (jQ8) jM2) (jD (jT (i:=3) nd rfl lL (yQ (j3 (je_int) j7 kQ)) jBX) (jD (jQ6 cf (kL op_gt (jH jY gD T.len (by decide+kernel) (j3 (jv 3 rfl vL) j7 j4) j4) (je_int) (kI _)) (jK7 T CA hr).2) (jB (jN (jHL (jGO rfl) gD T.sorted (by decide+kernel) (j3 (jv 2 rfl vL) j7 j4) (jNS je_bl jRM) j4)))))))⟩
theorem jPW (T:Txt mg)(CA:Can P w K mg lv "choices_at" 1 fA fdA ["choices","mask"] spAt)(hr:Room 1 (XOf nMet "masks_met" sMet P w K mg lv f lw A lu s H0 E).A)
  {D:Ends}{H:Hp}{L M W:Addr}{ch:Ch}{ks ws:List Nat}{m:Nat}{v4 v5 v6:Option V}(hL:ChAt H L ch) (ok:ChOk ch) (hM:H M=some (.dK (trK ks))) (hW:H W=some (.lst ((ws++[m]).map natV))) (nd:ks.Nodup) (hb:∀ k∈ks,k<2 ^ ch.length) (hm:m∈ks) (wln:ws.length<=ks.length)
  (nx:∀ (H':Hp) (new:List Nat) (v4 v5 v6:Option V),(∀ b o,H b=some o->b≠M->b≠W->H' b=some o)->H' M=some (.dK (trK (ks++new)))->H' W=some (.lst ((ws++new).map natV))->(ks++new).Nodup->(∀ k∈ks++new,k<2 ^ ch.length)->(m≠fullN ch->∀ c∈chAt ch m,(m|||c.2)∈ks++new)->D.nx [some (.ref L),some (natV (fullN ch)),some (.ref M),some (.ref W),v4,v5,v6] H'):
  (jK7 T CA hr).1 D [some (.ref L),some (natV (fullN ch)),some (.ref M),some (.ref W),v4,v5,v6] H:=by
 have MW:M≠W:=fun z=>by rw[z,hW] at hM; cases hM
 have LW:∀ ls:List Addr,H L=some (.lst (ls.map V.ref))->L≠W:=fun ls h z=>by
  rw[z,hW] at h
  have h:=HO.lst.inj (bq h)
  have h2:natV m∈ls.map V.ref:=by rw[<- h]; simp
  obtain⟨a,_,ha⟩:=aW.mp h2
  cases ha
 have rw':∀ l cs,RowAt H l cs->l≠W:=fun l cs ⟨vs,h1,h2⟩ z=>by
  rw[z,hW] at h1
  have h1:=HO.lst.inj (bq h1)
  have h3:vs[ws.length]?=some (natV m):=by rw[<- h1]; simp
  obtain⟨_,_,q,e,_⟩:=h2.get' h3
  cases e
 have w16:=ok.w
 have hm2:=hb m hm
 have wl:((ws++[m]).map natV)[((ws++[m]).map natV).length - 1]?=some (natV m):=by
  rw[af,aH,aR,bh (by simp)]
  simp
 have dl:((ws++[m]).map natV).dropLast=ws.map natV:=by
  rw[aS]
  simp
 refine⟨_,rfl, .inl ⟨rfl,_,SqL.of hW⟩,W,_,_,rfl,rfl,hW,wl,?_⟩
 rw[dl]
 have hM1:(L2.upd H W (.lst (ws.map natV))) M=some (.dK (trK ks)):=by rw[j8 MW]; exact hM
 have hW1:(L2.upd H W (.lst (ws.map natV))) W=some (.lst (ws.map natV)):=j5
 have k1:∀ b o,H b=some o->b≠W->(L2.upd H W (.lst (ws.map natV))) b=some o:=fun b o h n=>by rw[j8 n]; exact h
 have hL1:ChAt (L2.upd H W (.lst (ws.map natV))) L ch:=by
  obtain⟨ls,a1,a2,a3⟩:=hL.ex
  exact⟨ls,k1 _ _ a1 (LW _ a1),a2,a3.imp fun l cs r=>r.keep (fun xs z=>k1 _ _ z (rw' _ _ r)) (Tups.upd hW _)⟩
 generalize L2.upd H W (.lst (ws.map natV))=H1 at hM1 hW1 k1 hL1
 refine⟨_,rfl,_,rfl,rfl,_,rfl,?_⟩
 have nf:(!decide (natV m=natV (fullN ch)))=true↔m≠fullN ch:=by
  rw[ck,cW]
  refine not_congr ⟨fun h=>?_,fun h=>by rw[h]⟩
  have:=V.int.inj h
  lia
 refine ite2 (fun h=>?_) (fun h=>?_)
 ·have h:=nf.mp h
  refine⟨_,rfl,_,rfl,L,ch,m,rfl,hL1,ok,hm2,h,fun r H2 ⟨vs,hr2,av⟩ e2 nr=>?_⟩
  have hM2:=e2 _ _ hM1
  have hW2:=e2 _ _ hW1
  have rW:r≠W:=fun z=>by rw[z,hW1] at nr; cases nr
  have rM:r≠M:=fun z=>by rw[z,hM1] at nr; cases nr
  refine⟨r,rfl,⟨_,SqL.of hr2⟩,jBT (xs:=vs) (fun i σ H'=>(∃ v5 v6,σ=[some (.ref L),some (natV (fullN ch)),some (.ref M),some (.ref W),some (natV m),v5,v6])/\(∀ b o,H2 b=some o->b≠M->b≠W->H' b=some o)/\∃ new:List Nat,H' M=some (.dK (trK (ks++new)))/\H' W=some (.lst ((ws++new).map natV))/\(ks++new).Nodup/\(∀ k∈ks++new,k<2 ^ ch.length)/\∀ c∈(chAt ch m).take i,(m|||c.2)∈ks++new) ⟨⟨_,_,rfl⟩,fun b o h _ _=>h,[],by rw[aZ]; exact hM2,by rw[aZ]; exact hW2,by rw[aZ]; exact nd,by rw[aZ]; exact hb,fun c hc=>by cases hc⟩ (fun i σ H' _ ⟨_,k,_⟩=>SqL.of (k _ _ hr2 rM rW)) ?_ ?_⟩
  ·rintro i x σ H' hx ⟨⟨v5,v6,rfl⟩,k,new,hM',hW',nd',hb',cl⟩
   obtain⟨c,hc,q,rfl,hq⟩:=av.get' hx
   have qM:q≠M:=fun z=>by rw[z,hM2] at hq; cases hq
   have qW:q≠W:=fun z=>by rw[z,hW2] at hq; cases hq
   have hcm:=aJ hc
   obtain⟨u1,u2⟩:=ok.up hm2 h hcm
   have tk:(chAt ch m).take (i+1)=(chAt ch m).take i++[c]:=by rw[bg,hc]; rfl
   refine⟨q,_,rfl,SqT.of (k _ _ hq qM qW),rfl,_,_,rfl,_,_,rfl,rfl,?_⟩
   refine⟨_,rfl,_,rfl,_,_,rfl,rfl,_,rfl,M,_,rfl,jTW hM',_,rfl,?_⟩
   by_cases hin:(m|||c.2)∈ks++new
   ·rw[ar hin]
    refine iteF ⟨⟨_,_,rfl⟩,k,new,hM',hW',nd',hb',fun c' hc'=>?_⟩
    rw[tk] at hc'
    rcases aM.mp hc' with z | z
    ·exact cl c' z
    ·rw[aK] at z
     rw[z]
     exact hin
   ·rw[ao hin]
    have ndn:(ks++(new++[m|||c.2])).Nodup:=by
     rw[<- aY,gm]
     refine⟨nd',by simp,fun a ha b hb z=>?_⟩
     rw[aK] at hb
     exact hin (hb ▸ z ▸ ha)
    have bdn:∀ k∈ks++(new++[m|||c.2]),k<2 ^ ch.length:=fun k hk=>by
     rw[<- aY] at hk
     rcases aM.mp hk with z | z
     ·exact hb' k z
     ·rw[aK] at z
      rw[z]
      exact u2
    have sz:(ks++(new++[m|||c.2])).length<=2 ^ 16:=bf (jB3 ndn bdn) (bQ (by decide) w16)
    rw[aH,aH] at sz
    have kl:(trK (ks++new)).length<sizeLine:=by
     unfold trK
     rw[af,aH,aw]
     simp at sz
     lia
    refine iteT ⟨_,rfl,_,rfl,_,rfl,_,_,rfl,rfl,M,_,rfl,jTV hM' hin kl,?_⟩
    have hW3:(L2.upd H' M (.dK (trK (ks++new++[m|||c.2])))) W=some (.lst ((ws++new).map natV)):=by rw[j8 MW.symm]; exact hW'
    have hM3:(L2.upd H' M (.dK (trK (ks++new++[m|||c.2])))) M=some (.dK (trK (ks++(new++[m|||c.2])))):=by rw[j5,aY]
    have k3:∀ b o,H2 b=some o->b≠M->b≠W->(L2.upd H' M (.dK (trK (ks++new++[m|||c.2])))) b=some o:=fun b o hbo n1 n2=>by rw[j8 n1]; exact k b o hbo n1 n2
    generalize L2.upd H' M (.dK (trK (ks++new++[m|||c.2])))=H3 at hW3 hM3 k3
    refine⟨_,rfl, .inl ⟨rfl,_,SqL.of hW3⟩,_,rfl,_,rfl,_,_,rfl,rfl,W,_,_,rfl,rfl,hW3,?_,⟨_,_,rfl⟩,fun b o hbo n1 n2=>by rw[j8 n2]; exact k3 b o hbo n1 n2,new++[m|||c.2],by rw[j8 MW]; exact hM3,?_,ndn,bdn,fun c' hc'=>?_⟩
    ·skip
     rw[af,aH,aw]
     simp at sz
     lia
    ·rw[j5]
     show some (HO.lst ((ws++new).map natV++[V.int (Builtin.bitOr (m:Int) (c.2:Int))]))=_
     rw[jCM,<- aY]
     exact bZ (fun z=>some (HO.lst z)) (aS (f:=natV) (l₁:=ws++new) (l₂:=[m|||c.2])).symm
    ·rw[<- aY,aM]
     rw[tk] at hc'
     rcases aM.mp hc' with z | z
     ·exact .inl (cl c' z)
     ·rw[aK] at z
      rw[z]
      exact .inr (aK.mpr rfl)
  ·rintro σ H' ⟨⟨v5,v6,rfl⟩,k,new,hM',hW',nd',hb',cl⟩
   have:(chAt ch m).take vs.length=chAt ch m:=by rw[av.len,bw]
   rw[this] at cl
   exact nx H' new _ _ _ (fun b o hbo n1 n2=>k _ _ (e2 _ _ (k1 _ _ hbo n2)) n1 n2) hM' hW' nd' hb' fun _=>cl
 ·have h:m=fullN ch:=ce fun z=>h (nf.mpr z)
  exact nx H1 [] _ _ _ (fun b o hbo n1 n2=>k1 _ _ hbo n2) (by rw[aZ]; exact hM1) (by rw[aZ]; exact hW1) (by rw[aZ]; exact nd) (by rw[aZ]; exact hb) fun z=>absurd h z
theorem jV5 {fd:FuncData}(F:Fun K "masks_met" "masks_met" sMet f fd)(T:Txt mg)(CF:Can P w K mg lv "full_mask" 1 fF fdF ["choices"] jF3)(CA:Can P w K mg lv "choices_at" 1 fA fdA ["choices","mask"] spAt):FnOk P w K mg lv CX0 2 f fd ["choices"] spMet:=by
 refine F.ok scMet (fun vs H Q E h=>?_) (fun lw A lu s H vs Q E hr h=>?_)
 ·obtain⟨_,_,rfl,_⟩:=h
  rfl
 ·obtain⟨L,ch,rfl,hL,ok,q⟩:=h
  refine⟨_,(metA T CF CA hr).2.h,?_⟩
  have w16:=ok.w
  refine⟨_,rfl,L,ch,rfl,hL,w16,?_⟩
  refine fun M H1 hM1 e1 nM=>?_
  refine⟨by show (1:Nat)<=_; decide,fun W H2 hW2 e2 nW=>?_⟩
  have hM2:=e2 _ _ hM1
  have nW0:H W=none:=by
   cases z:H W with
   | none=>rfl
   | some o=>rw[e1 _ _ z] at nW; cases nW
  have E2:=e1.trans e2
  have pz:(0:Nat)<2 ^ ch.length:=dJ _
  refine⟨fun n σ H'=>(∃ v4 v5 v6,σ=[some (.ref L),some (natV (fullN ch)),some (.ref M),some (.ref W),v4,v5,v6])/\Ext H H'/\∃ ks ws:List Nat,n=2*(2 ^ ch.length - ks.length)+ws.length/\H' M=some (.dK (trK ks))/\H' W=some (.lst (ws.map natV))/\ks.Nodup/\(∀ k∈ks,k<2 ^ ch.length)/\(∀ k∈ws,k∈ks)/\ws.length<=ks.length/\0∈ks/\∀ k∈ks,k∉ws->k≠fullN ch->∀ c∈chAt ch k,(k|||c.2)∈ks,⟨_,⟨_,_,_,rfl⟩,E2,[0],[0],rfl,hM2,hW2,by simp,fun k hk=>by rw[aK] at hk; lia,fun k hk=>hk,am _,by simp,fun k h1 h2=>absurd h1 h2⟩,?_⟩
  rintro n σ H' ⟨⟨v4,v5,v6,rfl⟩,e,ks,ws,rfl,hM',hW',nd,hb,sub,wl,z0,cl⟩
  refine⟨_,rfl,W,_,rfl, .inl (SqL.of hW'),_,_,rfl,rfl,_,rfl,?_⟩
  rcases List.eq_nil_or_concat ws with hws | ⟨ws',m,hws⟩
  ·subst hws
   refine iteF ?_
   have ksl:=jB3 nd hb
   have p16:2 ^ ch.length<=2 ^ 16:=bQ (by decide) w16
   refine⟨_,rfl,M,trK ks,ks.map fun k:Nat=>(k:Int),true,rfl,rfl,hM',by unfold trK; rw[bL,bL]; rfl,by rw[af,aw]; lia,fun l ns hl ord pm=>?_⟩
   obtain⟨js,rfl⟩:∃ js:List Nat,ns=js.map fun k:Nat=>(k:Int):=by
    refine⟨ns.map Int.toNat,?_⟩
    rw[bL]
    refine(iK ns).symm.trans (cH fun x hx=>?_)
    obtain⟨k,_,rfl⟩:=aW.mp (pm.mem_iff.mp hx)
    show ((k:Nat):Int)=(((k:Nat):Int).toNat:Int)
    lia
   have pm':js.Perm ks:=by
    have:=pm.map Int.toNat
    rw[bL,bL] at this
    have e:∀ l:List Nat,l.map (Int.toNat ∘ fun k:Nat=>(k:Int))=l:=fun l=>(cH fun x _=>by show ((x:Nat):Int).toNat=x; lia).trans (iK l)
    rwa [e,e] at this
   refine q l js _ ?_ ?_ ⟨pm'.mem_iff.mpr z0,fun m hm=>hb m (pm'.mem_iff.mp hm),fun m hm hf c hc=>pm'.mem_iff.mpr (cl m (pm'.mem_iff.mp hm) (by simp) hf c hc)⟩ ((Ext.refl _).trans (e.new hl _)) ?_
   ·rw[j5,bL]
    rfl
   ·have nj:js.Nodup:=pm'.nodup_iff.mpr nd
    have:js.Pairwise (fun (a b:Nat)=>(b:Int)<=(a:Int)):=bM.mp ord
    exact(this.and nj).imp fun {a b} h=>by lia
   ·cases z:H l with
    | none=>rfl
    | some o=>rw[e _ _ z] at hl; cases hl
  ·have hws:ws=ws'++[m]:=by rw[hws,List.concat_eq_append]
   subst hws
   have lp:decide ((0:Int)<(((ws'++[m]).map natV).length:Int))=true:=by
    rw[bA,af,aH]
    show (0:Int)<((ws'.length+1:Nat):Int)
    lia
   show if decide ((0:Int)<(((ws'++[m]).map natV).length:Int))=true then _ else _
   rw[ar lp]
   rw[aH] at wl
   refine⟨fun σ' H''=>(∃ v4 v5 v6,σ'=[some (.ref L),some (natV (fullN ch)),some (.ref M),some (.ref W),v4,v5,v6])/\Ext H H''/\∃ new:List Nat,H'' M=some (.dK (trK (ks++new)))/\H'' W=some (.lst ((ws'++new).map natV))/\(ks++new).Nodup/\(∀ k∈ks++new,k<2 ^ ch.length)/\(m≠fullN ch->∀ c∈chAt ch m,(m|||c.2)∈ks++new),?_,jPW T CA hr (ks:=ks) (ws:=ws') (m:=m) (hL.ext e) ok hM' hW' nd hb (sub m (by simp)) (by lia) ?_⟩
   ·rintro σ' H'' ⟨hσ,e',new,a1,a2,a3,a4,a5⟩
    have sl:=jB3 a3 a4
    rw[aH] at sl
    refine⟨_,?_,hσ,e',ks++new,ws'++new,rfl,a1,a2,a3,a4,fun k hk=>?_,?_,aX _ z0,fun k hk hkw hf c hc=>?_⟩
    ·rw[aH,aH,aH]
     simp only [aU,cy]
     lia
    ·rcases aM.mp hk with z | z
     ·exact aX _ (sub k (aX _ z))
     ·exact aB _ z
    ·rw[aH,aH]
     lia
    ·by_cases hkm:k=m
     ·subst hkm
      exact a5 hf c hc
     ·rcases aM.mp hk with z | z
      ·refine aX _ (cl k z (fun y=>?_) hf c hc)
       rcases aM.mp y with y | y
       ·exact hkw (aX _ y)
       ·exact hkm (aK.mp y)
      ·exact absurd (aB _ z) hkw
   ·intro H'' new v4 v5 v6 kp a1 a2 a3 a4 a5
    refine⟨⟨_,_,_,rfl⟩,fun b o hbo=>?_,new,a1,a2,a3,a4,a5⟩
    refine kp b o (e b o hbo) (fun z=>?_) fun z=>?_
    ·rw[z,nM] at hbo; cases hbo
    ·rw[z,nW0] at hbo; cases hbo
end Eo
namespace L2
open PySem
theorem jS1 {x:Str}{pos:Pos}{o:Option Expr} :SwOk (.Name x pos) o:=⟨fun _ _=>rfl⟩
end L2
namespace Eo
open PySem L2
structure HpOk (φ:Hp->Prop):Prop where
 keep:∀ (H H':Hp) (D:Addr) (kvs:List (Key×V)),H D=some (.dK kvs)->(∀ b o,H b=some o->b≠D->H' b=some o)->φ H->φ H'
 ext:∀ H H',Ext H H'->φ H->φ H'
abbrev RepT:=Nat->Hp->V->Prop
def RepOk (R:RepT):Prop:=∀ m v,HpOk fun H=>R m H v
def ItAt (R:RepT)(m:Nat)(H:Hp)(v:V)(c:Int×Nat):Prop:=∃ q u,v= .ref q/\H q=some (.tup [.int c.1,u])/\R (m|||c.2) H u
def jJO (ch:Ch)(R:RepT):Sp:=fun vs H Q _=>∃ (l:Addr) (us:List V) (m:Nat),vs=[.ref l]/\H l=some (.lst us)/\m<2 ^ ch.length/\m≠fullN ch/\All2 (ItAt R m H) us (chAt ch m)/\∀ r H',R m H' r->Ext H H'->Q r H'
def gvs (ns:List Nat)(us:List V):List (Key×V):=(ns.zip us).map fun p:Nat×V=>(Sum.inl (p.1:Int),p.2)
structure GotAt (H:Hp)(r:Addr)(ch:Ch)(R:RepT)(ns:List Nat):Prop where
 ex:∃ us,H r=some (.dK (gvs ns us))/\All2 (fun n u=>R n H u) ns us
theorem jFO {R:Nat->V->Prop} :∀ {ns:List Nat}{us:List V}{n:Nat},All2 R ns us->ns.Nodup->n∈ns->∃ u,valV (gvs ns us) (.inl (n:Int))=some u/\R n u
 | [],_,_,_,_,h=>by cases h
 | k::ns,[],_,h,_,_=>h.elim
 | k::ns,u::us,n,h,nd,hm=>by
  show ∃ x,valV ((Sum.inl (k:Int),u)::gvs ns us) _=_/\_
  by_cases hk:k=n
  ·subst hk
   exact⟨u,jBK rfl,h.1⟩
  ·rw[jBL (by intro z; have:=gN z; lia)]
   rcases aF.mp hm with z | z
   ·exact absurd z.symm hk
   ·exact jFO h.2 (cE.mp nd).2 z
theorem jC7:∀ {ns:List Nat}{us:List V}{n:Nat},n∉ns->valV (gvs ns us) (.inl (n:Int))=none
 | [],_,_,_=>by
  unfold gvs
  rw[List.zip_nil_left]
  rfl
 | k::ns,[],_,_=>rfl
 | k::ns,u::us,n,h=>by
  show valV ((Sum.inl (k:Int),u)::gvs ns us) _=_
  rw[jBL (by intro z; have:=gN z; exact h (by rw[show n=k by lia]; exact ai ..))]
  exact jC7 fun z=>h (ah _ z)
theorem jQE {ns:List Nat}{us:List V}{n:Nat}{u:V}(h:ns.length=us.length):gvs (ns++[n]) (us++[u])=gvs ns us++[(Sum.inl (n:Int),u)]:=by
 unfold gvs
 rw[List.zip_append h,aS]
 rfl
section
variable {ch:Ch}{R:RepT}
abbrev nGath:List Str:=["choices","at_end","join","full","values","mask"]
theorem scGath:FnScope nGath ["choices","at_end","join"] (j6 qO):= {}
def jR5 (j:Addr)(zh:Hp->Prop)(ch:Ch)(R:RepT):Sp:=fun vs H Q _=>∃ (L:Addr) (ve:V),vs=[.ref L,ve, .ref j]/\ChAt H L ch/\R (fullN ch) H ve/\zh H/\∀ (r:Addr) (ns:List Nat) (H':Hp),GotAt H' r ch R ns->ns.Pairwise (· > ·)->MetOk ch ns->Ext H H'->H r=none->Q (.ref r) H'
def jO7 (T:Txt mg)(CA:Can P w K mg lv "choices_at" 1 fA fdA ["choices","mask"] spAt)(CJ:Callee P w K mg lv Z zh 3 j (jJO ch R))(zs:ZSt Z)(hz:Z s H0)(hr:Room 3 (XOf nGath "gathered" qO P w K mg lv f lw A lu s H0 E).A): { t:TS // JSs (XOf nGath "gathered" qO P w K mg lv f lw A lu s H0 E) (jCG ((jC qO).getD 2 (.Pass ⟨0,0,0,0⟩))) t} :=
 have nd:=scGath.nd
 ⟨_,(jB (yU (kL qN (jv 5 rfl vC) (jv 3 rfl vL) (kI _)) (jB (jIW (hu_of hr) (jv 4 rfl vC) (jv 5 rfl vC) (jv 1 rfl vL) jS1)) (jB (jIW (hu_of hr) (jv 4 rfl vC) (jv 5 rfl vC) (jKG (j:=2) CJ (hr.mono (by decide)) zs hz rfl rfl vL (j3 (jR (m:=[none,none,some 4,some 5]) (Nc:=["number","more","values","mask"]) rfl (kY (CA.je (hr.mono (by decide)) gD (j3 (jv 0 rfl vL) (j3 (jv 5 rfl vC) j7 j4) j4) j4)) rfl (by decide+kernel) (by decide+kernel) (jG (psc:=j6 qO)) (jF (N:=nGath) rfl rfl (by decide+kernel)) (fun cl C fp s H=>jBF (i:=0) (j:=1) rfl (show (["number","more","values","mask"]:List Str).Nodup by decide+kernel) rfl rfl (by decide+kernel) (by decide+kernel)) (fun cl C fp s H=>kG) (fun cl C fp s H=>(y4 (j3 (jv 0 rfl jL) (j3 (jIY (hu_of hr) (jv 2 rfl kD) (kN op_or (jv 3 rfl kD) (jv 1 rfl jL)) jR7) j7 jX) j4))) kE) j7 jE) jE) jU))))⟩
def gathA (T:Txt mg)(CF:Can P w K mg lv "full_mask" 1 fF fdF ["choices"] jF3)(CM:Can P w K mg lv "masks_met" 2 fM fdM ["choices"] spMet)(CA:Can P w K mg lv "choices_at" 1 fA fdA ["choices","mask"] spAt)(CJ:Callee P w K mg lv Z zh 3 j (jJO ch R))(zs:ZSt Z)(hz:Z s H0)(hr:Room 3 (XOf nGath "gathered" qO P w K mg lv f lw A lu s H0 E).A): { t:TS // JSs (XOf nGath "gathered" qO P w K mg lv f lw A lu s H0 E) (jC qO) t} :=
 have nd:=scGath.nd
 ⟨_,(jD (jT (i:=3) nd rfl lL (CF.je (hr.mono (by decide)) gD (j3 (jv 0 rfl vL) j7 j4) j4) jU) (jD (jT (i:=4) nd rfl loc_c (jQ9) jM2) (jD (qB cf rfl (kY (CM.je (hr.mono (by decide)) gD (j3 (jv 0 rfl vL) j7 j4) j4)) (jJ (i:=5) nd rfl loc_c) (jO7 T CA CJ zs hz hr).2 kE) (jB (jN (jv 4 rfl vC))))))⟩
theorem jT5 {fd:FuncData}(F:Fun K "gathered" "gathered" qO f fd)(T:Txt mg)(CF:Can P w K mg lv "full_mask" 1 fF fdF ["choices"] jF3)(CM:Can P w K mg lv "masks_met" 2 fM fdM ["choices"] spMet)(CA:Can P w K mg lv "choices_at" 1 fA fdA ["choices","mask"] spAt)(CJ:Callee P w K mg lv Z zh 3 j (jJO ch R))(zs:ZSt Z)(zo:HpOk zh)(ro:RepOk R)(ok:ChOk ch):FnZ P w K mg lv CX0 Z 4 f fd ["choices","at_end","join"] (jR5 j zh ch R):=by
 refine F.okZ scGath (fun vs H Q E h=>?_) (fun lw A lu s H vs Q E hr hz h=>?_)
 ·obtain⟨_,_,rfl,_⟩:=h
  rfl
 ·obtain⟨L,ve,rfl,hL,he,hzh,q⟩:=h
  refine⟨_,(gathA T CF CM CA CJ zs hz hr).2.h,?_⟩
  have w16:=ok.w
  have p16:2 ^ ch.length<=2 ^ 16:=bQ (by decide) w16
  refine⟨_,rfl,L,ch,rfl,hL,w16,?_⟩
  refine fun D nD=>?_
  have e1:Ext H (L2.upd H D (.dK [])):=(Ext.refl _).new nD _
  have hD1:(L2.upd H D (.dK [])) D=some (.dK []):=j5
  generalize L2.upd H D (.dK [])=H1 at e1 hD1
  refine⟨_,rfl,L,ch,rfl,hL.ext e1,ok,fun r ns H2 hr2 srt mt e2 nr=>?_⟩
  have hD2:=e2 _ _ hD1
  have rD:r≠D:=fun z=>by rw[z,hD1] at nr; cases nr
  have E2:=e1.trans e2
  have nsn:ns.Nodup:=srt.imp fun {a b} h=>by lia
  have nsl:=jB3 nsn mt.bnd
  refine⟨r,rfl,⟨_,SqL.of hr2⟩,jBT (xs:=ns.map natV) (fun i σ H'=>(∃ v5,σ=[some (.ref L),some ve,some (.ref j),some (natV (fullN ch)),some (.ref D),v5])/\(∀ b o,H2 b=some o->b≠D->H' b=some o)/\GotAt H' D ch R (ns.take i)) ⟨⟨_,rfl⟩,fun b o h _=>h,[],hD2,trivial⟩ (fun i σ H' _ ⟨_,k,_⟩=>SqL.of (k _ _ hr2 rD)) ?_ ?_⟩
  ·rintro i x σ H' hx ⟨⟨v5,rfl⟩,k,us,hD',au⟩
   obtain⟨m,hm,rfl⟩:∃ m,ns[i]?=some m/\natV m=x:=by
    rw[aR] at hx
    cases hq:ns[i]? with
    | none=>rw[hq] at hx; cases hx
    | some z=>rw[hq] at hx; cases hx; exact⟨z,rfl,rfl⟩
   have hmn:=aJ hm
   have hm2:=mt.bnd m hmn
   have il:i<ns.length:=(aj.mp hm).1
   have tk:ns.take (i+1)=ns.take i++[m]:=by rw[bg,hm]; rfl
   have kl:(gvs (ns.take i) us).length<sizeLine:=by
    unfold gvs
    rw[af,jm,bN,aw]
    lia
   have kH:∀ b o,H b=some o->H' b=some o:=fun b o h=>k _ _ (E2 _ _ h) fun z=>by rw[z,nD] at h; cases h
   have mi:m∉ns.take i:=fun z=>by
    obtain⟨a,ha⟩:=bB z
    have al:a<i:=by have:=(aj.mp ha).1; rw[bN] at this; lia
    rw[cA al] at ha
    have:=(eT (by lia) nsn).mp (ha.trans hm.symm)
    lia
   have fin:∀ (u:V) (H3:Hp),(∀ b o,H' b=some o->H3 b=some o)->R m H3 u->DPut H3 D (natV m) u (L2.upd H3 D (.dK (gvs (ns.take (i+1)) (us++[u]))))/\((∃ v5,[some (V.ref L),some ve,some (.ref j),some (natV (fullN ch)),some (.ref D),some (natV m)]=[some (V.ref L),some ve,some (.ref j),some (natV (fullN ch)),some (.ref D),v5])/\(∀ b o,H2 b=some o->b≠D->(L2.upd H3 D (.dK (gvs (ns.take (i+1)) (us++[u])))) b=some o)/\GotAt (L2.upd H3 D (.dK (gvs (ns.take (i+1)) (us++[u])))) D ch R (ns.take (i+1))):=fun u H3 e3 ru=>by
    have hD3:=e3 _ _ hD'
    have up:∀ b o,H3 b=some o->b≠D->(L2.upd H3 D (.dK (gvs (ns.take (i+1)) (us++[u])))) b=some o:=fun b o h n=>by rw[j8 n]; exact h
    refine⟨?_,⟨_,rfl⟩,fun b o h n=>up b o (e3 _ _ (k b o h n)) n,us++[u],j5,?_⟩
    ·have:=DPut.k (k:=Sum.inl ((m:Nat):Int)) (v:=u) hD3 kl
     rw[jJV _ (jC7 mi),<- jQE au.len,<- tk] at this
     exact this
    ·rw[tk]
     refine All2.snoc ?_ ((ro m u).keep _ _ D _ hD3 (by rw[<- tk]; exact up) ru)
     rw[<- tk]
     exact au.imp fun n u h=>(ro n u).keep _ _ D _ hD3 up ((ro n u).ext _ _ e3 h)
   refine⟨_,rfl,_,rfl,rfl,_,rfl,?_⟩
   have ef:decide (natV m=natV (fullN ch))=true↔m=fullN ch:=by
    rw[bA]
    exact⟨fun h=>by have:=V.int.inj h; lia,fun h=>by rw[h]⟩
   refine ite2 (fun h=>?_) (fun h=>?_)
   ·have h:=ef.mp h
    obtain⟨f1,f2⟩:=fin ve H' (fun b o h=>h) (by rw[h]; exact(ro _ _).ext _ _ kH he)
    exact⟨_,rfl,_,rfl,_,rfl,D,_,rfl,f1,f2⟩
   ·have h:m≠fullN ch:=fun z=>h (ef.mpr z)
    refine⟨rfl,_,rfl,_,rfl,L,ch,m,rfl,hL.ext kH,ok,hm2,h,fun r4 H4 ⟨vs4,hr4,av4⟩ e4 n4=>?_⟩
    have hD4:=e4 _ _ hD'
    have vl4:vs4.length<=33:=by
     rw[av4.len]
     have hlow:=jEG hm2 h
     refine bf (bD _ _) ?_
     rw[aC,ay hlow]
     exact ok.len _ _ (ay hlow)
    refine⟨r4,rfl,⟨_,SqL.of hr4⟩,jA9 (xs:=vs4) (fun σ=>∃ v1 v2,σ=[v1,v2,some (.ref D),some (natV m)]) (fun H' zs t=>All2 (fun v c=>∃ q u,v= .ref q/\H' q=some (.tup [.int c.1,u])/\R (m|||c.2) H4 u) zs ((chAt ch m).take t)) ⟨fun H=>trivial,fun H H' zs t tu hz=>hz.imp fun v c ⟨q,u,a1,a2,a3⟩=>⟨q,u,a1,tu _ _ a2,a3⟩,fun H zs t hz=>?_⟩ hr4 (by rw[aw]; lia) ⟨_,_,rfl⟩ ?_ ?_⟩
    ·rw[hz.len]
     exact bu _ _
    ·rintro t x σ' H5 zs hx ⟨v1,v2,rfl⟩ e5 hz5 S1 S2 yes no
     obtain⟨c,hc,qa,rfl,hq⟩:=av4.get' hx
     have hcm:=aJ hc
     obtain⟨u1,u2⟩:=ok.up hm2 h hcm
     have ut:=mt.up m hmn h c hcm
     have up:(m|||c.2)∈ns.take i:=by
      obtain⟨a,ha⟩:=bB ut
      have al:a<i:=by
       refine ce fun z=>?_
       have a1:=(aj.mp ha)
       have m1:=(aj.mp hm)
       rcases eX i a with y | y
       ·have:=b9.mp srt i a il a1.1 y
        rw[a1.2,m1.2] at this
        lia
       ·have:a=i:=by lia
        subst this
        rw[hm] at ha
        have:=bq ha
        lia
      exact aJ (i:=a) (by rw[cA al]; exact ha)
     obtain⟨u,hu,ru⟩:=jFO au (nsn.sublist (dY _ _)) up
     have et:(chAt ch m).take (t+1)=(chAt ch m).take t++[c]:=by rw[bg,hc]; rfl
     have dg:DGet H5 D (.int (Builtin.bitOr (m:Int) (c.2:Int))) (some u):=by
      rw[jCM,<- hu]
      exact DGet.k (k:=Sum.inl (((m|||c.2:Nat):Nat):Int)) (e5 _ _ hD4)
     refine⟨qa,_,rfl,SqT.of (e5 _ _ hq),rfl,_,_,rfl,_,_,rfl,rfl,?_⟩
     dsimp only [yJ]
     rw[ar rfl]
     refine⟨_,rfl,_,rfl,_,rfl,_,rfl,_,_,rfl,rfl,D,u,rfl,dg,by show (2:Nat)<=_; decide,fun r6 H6 d6 e6=>yes _ _ _ ⟨_,_,rfl⟩ e6 ?_⟩
     show All2 _ _ ((chAt ch m).take (t+1))
     rw[et]
     exact(hz5.imp fun v c ⟨q,u,a1,a2,a3⟩=>⟨q,u,a1,e6 _ _ a2,a3⟩).snoc ⟨r6,u,rfl,d6,(ro _ _).ext _ _ e4 ru⟩
    ·rintro D7 H7 zs hD7 e7 n7 hz7
     rw[av4.len,bw] at hz7
     refine⟨zo.ext _ _ (fun b o h=>e7 _ _ (e4 _ _ (kH b o h))) hzh,D7,zs,m,rfl,hD7,hm2,h,hz7.imp fun v c ⟨q,u,a1,a2,a3⟩=>⟨q,u,a1,a2,(ro _ _).ext _ _ e7 a3⟩,fun rr H8 r8 e8=>?_⟩
     obtain⟨f1,f2⟩:=fin rr H8 (fun b o h=>e8 _ _ (e7 _ _ (e4 _ _ h))) r8
     exact⟨_,rfl,_,rfl,D,_,rfl,f1,f2⟩
  ·rintro σ H' ⟨⟨v5,rfl⟩,k,got⟩
   rw[af,bw] at got
   exact⟨_,rfl,q D ns H' got srt mt (fun b o h=>k _ _ (E2 _ _ h) fun z=>by rw[z,nD] at h; cases h) nD⟩
end
end Eo
namespace L2
open PySem
def spEx {α:Type}(p:α->Prop)(sp:α->Sp):Sp:=fun vs H Q E=>∃ a,p a/\sp a vs H Q E
theorem FnOk.ex {α:Type}{p:α->Prop}{sp:α->Sp}{P:Program}{w:World}{K:W.Frag}{mg:Str->Option Value}{lv:Heap}{CX:CXT}{k:Nat}{f:Addr}{fd:FuncData}{ps:List Str}(h:∀ a,p a->FnOk P w K mg lv CX k f fd ps (sp a)):FnOk P w K mg lv CX k f fd ps (spEx p sp):=
 ⟨fun vs H Q E ⟨a,pa,q⟩=>(h a pa).len vs H Q E q,fun A lu s H args us vs Q E hr he hb hv ⟨a,pa,q⟩=>(h a pa).run A lu s H args us vs Q E hr he hb hv q⟩
theorem Callee.mono {P:Program}{w:World}{K:W.Frag}{mg:Str->Option Value}{lv:Heap}{Z:Shared->Hp->Prop}{zh:Hp->Prop}{i k:Nat}{a:Addr}{sp:Sp}(C:Callee P w K mg lv Z zh i a sp)(h:i<=k):Callee P w K mg lv Z zh k a sp:=
 ⟨C.fn,fun A lu s H us vs Q E hr=>C.run A lu s H us vs Q E (hr.mono h)⟩
theorem Callee.imp {P:Program}{w:World}{K:W.Frag}{mg:Str->Option Value}{lv:Heap}{Z Z':Shared->Hp->Prop}{zh:Hp->Prop}{k:Nat}{a:Addr}{sp:Sp}(C:Callee P w K mg lv Z zh k a sp)(h:∀ s H,Z' s H->Z s H):Callee P w K mg lv Z' zh k a sp:=
 ⟨C.fn,fun A lu s H us vs Q E hr he hz=>C.run A lu s H us vs Q E hr he (h _ _ hz)⟩
theorem FnOk.never {P:Program}{w:World}{K:W.Frag}{mg:Str->Option Value}{lv:Heap}{CX:CXT}{k:Nat}{f:Addr}{fd:FuncData}{ps:List Str} :FnOk P w K mg lv CX k f fd ps (fun _ _ _ _=>False):=
 ⟨fun _ _ _ _ h=>h.elim,fun _ _ _ _ _ _ _ _ _ _ _ _ _ h=>h.elim⟩
theorem jM8 {a:Arguments}{b:Expr}{sc:Scope}{pos:Pos}{es:List Expr}{env:Env} :starEach (.Lambda a b sc pos::es) env=(false,eval (.Lambda a b sc pos) env)::starEach es env:=rfl
end L2
namespace Eo
open PySem L2
theorem got0 {H:Hp}{r:Addr}{ch:Ch}{R:RepT}{ns:List Nat}(g:GotAt H r ch R ns)(nd:ns.Pairwise (· > ·))(m:MetOk ch ns):∃ u,DGet H r (.int 0) (some u)/\R 0 H u:=by
 obtain⟨us,h1,h2⟩:=g.ex
 obtain⟨u,hu,ru⟩:=jFO h2 (nd.imp fun {a b} h=>by lia) m.zero
 refine⟨u,?_,ru⟩
 have:=DGet.k (k:=Sum.inl (0:Int)) h1
 rw[show valV (gvs ns us) (Sum.inl (0:Int))=some u from hu] at this
 exact this
end Eo
namespace L2
open PySem PySem.Spec PyProof.Rows
end L2
namespace Eo
open PySem L2
def yP (pc:List Int×Int):Int:=pc.1.getD 0 0
def cntF (pcs:List (List Int×Int))(t:Int):Nat:=pcs.countP fun pc=>decide (t<=yP pc)
def lead (pcs:List (List Int×Int))(t:Int)(i:Nat):Nat:=(pcs.take i).countP fun pc=>decide (yP pc=t)
theorem jHT (t:Int):∀ pcs:List (List Int×Int),cntF pcs t=cntF pcs (t+1)+pcs.countP fun pc=>decide (yP pc=t)
 | []=>rfl
 | p::r=>by
  have ih:=jHT t r
  unfold cntF at ih ⊢
  rw[dr,dr,dr,ih]
  by_cases h1:yP p=t
  ·have h2:t<=yP p:=by lia
   have h3:¬ t+1<=yP p:=by lia
   have h4:¬ t+1<=t:=by lia
   simp [h1,h4]
   try lia
  ·by_cases h2:t<=yP p
   ·have h3:t+1<=yP p:=by lia
    simp [h1,h2,h3]
    lia
   ·have h3:¬ t+1<=yP p:=by lia
    simp [h1,h2,h3]
theorem jW2 (pcs:List (List Int×Int))(t:Int):cntF pcs t<=pcs.length:=List.countP_le_length
theorem jQ3 (pcs:List (List Int×Int))(t:Int):2 ^ cntF pcs (t+1)*(1+lead pcs t pcs.length)<=2 ^ cntF pcs t:=by
 unfold lead
 rw[bw,jHT t pcs,Nat.pow_add]
 refine g6 _ ?_
 have:=Nat.lt_two_pow_self (n:=pcs.countP fun pc=>decide (yP pc=t))
 lia
theorem jNJ {pcs:List (List Int×Int)}{t:Int}{i:Nat}{pc:List Int×Int}(h:pcs[i]?=some pc):lead pcs t (i+1)=lead pcs t i+if yP pc=t then 1 else 0:=by
 unfold lead
 rw[bg,h]
 show ((pcs.take i)++[pc]).countP _=_
 rw[List.countP_append,dr,List.countP_nil]
 simp
theorem jIL {pcs:List (List Int×Int)}{t:Int}(h:pcs.length<=16):2 ^ cntF pcs t<=65536:=by
 have:=jW2 pcs t
 exact bf (bQ (by decide) (bf this h)) (by decide)
def wJ (l:List (Int×List (List Int))):List (List Int):=l.flatMap fun p=>p.2.map fun x=>if p.1<0 then x else p.1::x
def wk (ch:Ch)(m:Nat):List (List Int):=gv ch [[]] wJ m
theorem jLR (a b:List (Int×List (List Int))):wJ (a++b)=wJ a++wJ b:=List.flatMap_append
theorem jCQ (ch:Ch):wk ch (fullN ch)=[[]]:=jTN
theorem jCP {ch:Ch}{m:Nat}(o:ChOk ch)(h:m<2 ^ ch.length)(hn:m≠fullN ch):wk ch m=wJ ((chAt ch m).map fun c=>(c.1,wk ch (m|||c.2))):=jTM o h hn
theorem jK9 (w:Nat):lowN (2 ^ w - 1)=w:=by
 refine jRG ?_ fun j hj=>?_
 ·rw[cX,aP (by lia)]
 ·rw[cX,az hj]
theorem jRF {m c:Nat}(h:c.testBit (lowN m)=true):lowN m<lowN (m|||c):=by
 refine ce fun z=>?_
 have n1:=jEF (m|||c)
 rw[ci] at n1
 rcases eX (lowN (m|||c)) (lowN m) with y | y
 ·rw[jGC m _ y] at n1
  cases n1
 ·rw[show lowN (m|||c)=lowN m by lia,h,gj] at n1
  cases n1
theorem jDK {ch:Ch}(o:ChOk ch){P:Nat->Prop}(h0:P (fullN ch))(hs:∀ m,m<2 ^ ch.length->m≠fullN ch->(∀ c∈chAt ch m,P (m|||c.2))->P m):∀ m,m<2 ^ ch.length->P m:=by
 intro m hm
 generalize hk:fullN ch - m=k
 induction k using strongRecOn generalizing m with
 | _ k ih=>
  by_cases hf:m=fullN ch
  ·rw[hf]
   exact h0
  ·have hlt:m<fullN ch:=by
    unfold fullN at hf ⊢
    lia
   refine hs m hm hf fun c hc=>?_
   obtain⟨u1,u2⟩:=o.up hm hf hc
   exact ih (fullN ch - (m|||c.2)) (by lia) _ u2 rfl
theorem mem_wJ {l:List (Int×List (List Int))}{x:List Int} :x∈wJ l↔∃ p∈l,∃ y∈p.2,x=if p.1<0 then y else p.1::y:=by
 unfold wJ
 rw[List.mem_flatMap]
 refine exists_congr fun p=>jn fun _=>?_
 rw[aW]
 exact exists_congr fun y=>jn fun _=>eq_comm
theorem jQU {ch:Ch}(o:ChOk ch):∀ m,m<2 ^ ch.length->∀ x∈wk ch m,(∀ k∈x,0<=k/\k<32)/\x.length+lowN m<=ch.length:=by
 refine jDK o ?_ ?_
 ·intro x hx
  rw[jCQ,aK] at hx
  subst hx
  refine⟨fun k hk=>(by cases hk),?_⟩
  unfold fullN
  rw[jK9]
  simp
 ·intro m hm hf ih x hx
  rw[jCP o hm hf] at hx
  obtain⟨p,hp,y,hy,rfl⟩:=mem_wJ.mp hx
  obtain⟨c,hc,rfl⟩:=aW.mp hp
  obtain⟨i1,i2⟩:=ih c hc y hy
  obtain⟨m1,m2,m3,m4,m5⟩:=o.mem hm hf hc
  have lo:=jRF m1
  dsimp only
  split
  ·exact⟨i1,by lia⟩
  ·refine⟨fun k hk=>?_,by rw[aU]; lia⟩
   rcases aF.mp hk with z | z
   ·subst z
    lia
   ·exact i1 k z
theorem jLG (l:List Int):l.getD 0 0=l.headD 0:=by cases l <;> rfl
theorem jLA (pcs:List (List Int×Int))(t:Nat)(i:Nat)(hi:i<=pcs.length):(((upto pcs.length).take i).filter fun k=>decide ((j9 pcs k).headD 0=(t:Int))).length=lead pcs t i:=by
 induction i with
 | zero=>rfl
 | succ i ih=>
  have hil:i<pcs.length:=by lia
  rw[jE1 hil,bE,aH,ih (by lia),jNJ (ay hil)]
  congr 1
  rw[cg,fq]
  have e:j9 pcs (i:Int)=pcs[i].1:=by
   unfold j9
   rw[aV,aC,ay hil]
   rfl
  unfold yP
  rw[e,jLG]
  by_cases h:pcs[i].1.headD 0=(t:Int)
  ·rw[ar (az h),ar h]
   rfl
  ·rw[ao (fun z=>h (aG z)),ao h]
   rfl
theorem jQM (pcs:List (List Int×Int)){s t:Int}(h:s<=t):cntF pcs t<=cntF pcs s:=by
 unfold cntF
 refine List.countP_mono_left fun x _ hx=>?_
 have:=aG hx
 exact az (by lia)
theorem jHP {α β:Type}(f:α->List β)(B:Nat):∀ (l:List α),(∀ a∈l,(f a).length<=B)->(l.flatMap f).length<=l.length*B
 | [],_=>by simp
 | a::l,h=>by
  rw[List.flatMap_cons,aH,aU,Nat.succ_mul]
  have h1:=h a (ai ..)
  have h2:=jHP f B l fun x hx=>h x (ah _ hx)
  lia
theorem jLP {w:Int}{ms:List Int}{pcs:List (List Int×Int)}(g:Good 16 32 w ms pcs):∀ m,m<2 ^ (chs w.toNat ms pcs).length->(wk (chs w.toNat ms pcs) m).length<=2 ^ cntF pcs (lowN m:Nat):=by
 have o:ChOk (chs w.toNat ms pcs):=jDI g
 refine jDK o ?_ ?_
 ·rw[jCQ]
  exact Nat.one_le_two_pow
 ·intro m hm hf ih
  have hl:lowN m<w.toNat:=by
   have:=jEG hm hf
   unfold chs at this
   rwa [kZ] at this
  rw[jCP o hm hf]
  unfold wJ
  refine bf (jHP _ (2 ^ cntF pcs ((lowN m:Nat)+1:Int)) _ fun p hp=>?_) ?_
  ·obtain⟨c,hc,rfl⟩:=aW.mp hp
   rw[af]
   have lo:=jRF (o.mem hm hf hc).1
   exact bf (ih c hc) (bQ (by decide) (jQM pcs (by lia)))
  ·rw[af,Nat.mul_comm]
   refine bf (g6 _ ?_) (jQ3 pcs (lowN m:Nat))
   unfold chAt
   refine bf (bD _ _) ?_
   unfold chs
   rw[aC,jAA hl]
   show (yN ms pcs pcs.length (lowN m)).length<=_
   unfold yN
   rw[aH,af,jLA pcs _ _ (am _)]
   split <;> simp only [aU,cy] <;> lia
theorem jET (a b:Int):decide (V.int a=V.int b)=decide (a=b):=by
 rw[bV,bA,bA]
 exact⟨fun h=>V.int.inj h,fun h=>by rw[h]⟩
def LsAt (H:Hp)(us:List V)(ws:List (List Int)):Prop:=All2 (fun v x=>∃ a,v=V.ref a/\H a=some (.tup (x.map V.int))) us ws
theorem LsAt.mono {H H':Hp}{us:List V}{ws:List (List Int)}(t:Tups H H')(h:LsAt H us ws):LsAt H' us ws:=All2.imp (fun v x ⟨a,e,q⟩=>⟨a,e,t _ _ q⟩) h
def cvs (w:Int)(ms:List Int)(pcs:List (List Int×Int)):List (List Int):=(wk (chs w.toNat ms pcs) 0).map srt
structure MkOk (w:Nat)(t:Nat)(hs:List Int)(m:Nat):Prop where
 lt:m<2 ^ w
 lo:∀ j,j<t->m.testBit j=true
 hi:∀ j,t<=j->j<w->(m.testBit j=true↔(j:Int)∈hs)
theorem MkOk.full {w:Nat}{hs:List Int}{m:Nat}(h:MkOk w w hs m):m=2 ^ w - 1:=jO8 h.lt h.lo
theorem MkOk.held {w t:Nat}{hs:List Int}{m:Nat}(h:MkOk w t hs m)(ht:t<w)(hm:(t:Int)∈hs):MkOk w (t+1) hs m:=by
 refine⟨h.lt,fun j hj=>?_,fun j h1 h2=>h.hi j (by lia) h2⟩
 rcases eX j t with y | y
 ·exact h.lo j y
 ·rw[show j=t by lia]
  exact(h.hi t (am _) ht).mpr hm
theorem MkOk.low {w t:Nat}{hs:List Int}{m:Nat}(h:MkOk w t hs m)(ht:t<w)(hm:¬ (t:Int)∈hs):lowN m=t:=
 jRG (bY.mpr fun z=>hm ((h.hi t (am _) ht).mp z)) h.lo
theorem MkOk.ne {w t:Nat}{hs:List Int}{m:Nat}(h:MkOk w t hs m)(ht:t<w)(hm:¬ (t:Int)∈hs):m≠2 ^ w - 1:=fun z=>by
 have:=h.low ht hm
 rw[z,jK9] at this
 lia
theorem MkOk.may {w t:Nat}{hs:List Int}{m:Nat}(h:MkOk w t hs m)(ht:t<w):MkOk w (t+1) hs (m|||2 ^ t):=by
 refine⟨iI h.lt (gP (by decide) ht),fun j hj=>?_,fun j h1 h2=>?_⟩
 ·rw[ci,cG]
  rcases eX j t with y | y
  ·rw[h.lo j y]
   rfl
  ·rw[show j=t by lia,az rfl,gj]
 ·rw[ci,cG,aP (by lia),Bool.or_false]
  exact h.hi j (by lia) h2
theorem MkOk.piece {w t:Nat}{hs:List Int}{m:Nat}{own:List Int}(h:MkOk w t hs m)(ht:t<w)(l:Lot (w:Int) own)(hd:(t:Int)∈own):MkOk w (t+1) (hs++own) (m|||maskN own):=by
 have b0:∀ x∈own,0<=x:=fun x hx=>(l.bnd x hx).1
 refine⟨iI h.lt (jEE l.ris l.bnd),fun j hj=>?_,fun j h1 h2=>?_⟩
 ·rw[ci,jAB own j l.ris b0]
  rcases eX j t with y | y
  ·rw[h.lo j y]
   rfl
  ·rw[show j=t by lia,az hd,gj]
 ·rw[ci,jAB own j l.ris b0,gX,bA,aM]
  exact or_congr (h.hi j (by lia) h2) Iff.rfl
theorem MkOk.fits {w t:Nat}{hs:List Int}{m:Nat}{own:List Int}(h:MkOk w t hs m)(l:Lot (w:Int) own)(hd:own.headD 0=(t:Int)):(maskN own&&&m==0)=!(own.any fun x=>decide (x∈hs)):=by
 have b0:∀ x∈own,0<=x:=fun x hx=>(l.bnd x hx).1
 have ge:∀ x∈own,(t:Int)<=x:=fun x hx=>by
  cases ho:own with
  | nil=>rw[ho] at hx; cases hx
  | cons a r=>
   rw[ho] at hd hx
   have hd:a=t:=hd
   have lr:=l.ris
   rw[ho] at lr
   rcases aF.mp hx with z | z
   ·lia
   ·have:=(cM.mp lr).1 x z
    lia
 rw[bV,gJ,ck,List.any_eq_false]
 constructor
 ·intro z x hx hh
  have hh:=aG hh
  have bx:=l.bnd x hx
  have t1:=(h.hi x.toNat (by have:=ge x hx; lia) (by lia)).mpr (by rw[show ((x.toNat:Nat):Int)=x by lia]; exact hh)
  have t2:(maskN own).testBit x.toNat=true:=by
   rw[jAB own _ l.ris b0,bA,show ((x.toNat:Nat):Int)=x by lia]
   exact hx
  have t3:=bZ (fun y=>y.testBit x.toNat) z
  simp only [dU,t1,t2,dv] at t3
  cases t3
 ·intro z
  apply d9
  intro i
  rw[dU,dv,jAB own i l.ris b0]
  by_cases hi:(i:Int)∈own
  ·have bx:=l.bnd _ hi
   have gi:=ge _ hi
   rw[az hi,iP]
   refine bY.mpr fun y=>?_
   exact z _ hi (az ((h.hi i (by lia) (by lia)).mp y))
  ·rw[aP hi]
   rfl
def wkI (ch:Ch)(ms:List Int)(pcs:List (List Int×Int))(m t i:Nat):List (List Int):=wJ (((yN ms pcs i t).filter fun c=>c.2&&&m==0).map fun c=>(c.1,wk ch (m|||c.2)))
theorem jLK {n:Nat}{ms:List Int}{pcs:List (List Int×Int)}(hn:n<pcs.length)(u:Nat):yN ms pcs (n+1) u=yN ms pcs n u++if (j9 pcs (n:Int)).headD 0=(u:Int) then [((n:Int),maskN (j9 pcs n))] else []:=by
 unfold yN
 rw[jE1 hn,bE,aS,aY]
 congr 2
 rw[cg]
 by_cases hu:(j9 pcs (n:Int)).headD 0=(u:Int)
 ·rw[ar (az hu),ar hu]
  rfl
 ·rw[ao (fun z=>hu (aG z)),ao hu]
  rfl
theorem jP6 {ch:Ch}{ms:List Int}{pcs:List (List Int×Int)}{m t:Nat}(hb:m.testBit t=false):wkI ch ms pcs m t 0=if (t:Int)∈ms then wk ch (m|||2 ^ t) else []:=by
 unfold wkI
 rw[jD5]
 by_cases h:(t:Int)∈ms
 ·have e:(2 ^ t&&&m==0)=true:=by
   rw[gJ]
   apply d9
   intro i
   rw[dU,dv,cG]
   by_cases hi:t=i
   ·subst hi
    rw[hb,dw]
   ·rw[aP hi]
    rfl
  rw[ar h,ar h,cg,ar e]
  show wJ [(-1,wk ch (m|||2 ^ t))]=_
  unfold wJ
  rw[jd]
  exact(cH fun x _=>ar (show (-1:Int)<0 by decide)).trans (iK _)
 ·rw[ao h,ao h]
  rfl
theorem jJG {ch:Ch}{ms:List Int}{pcs:List (List Int×Int)}{m t i:Nat}(hi:i<pcs.length):wkI ch ms pcs m t (i+1)=wkI ch ms pcs m t i++if (j9 pcs (i:Int)).headD 0=(t:Int)/\(maskN (j9 pcs (i:Int))&&&m==0)=true then (wk ch (m|||maskN (j9 pcs (i:Int)))).map ((i:Int):: ·) else []:=by
 unfold wkI
 rw[jLK hi,bE,aS,jLR]
 congr 1
 by_cases h1:(j9 pcs (i:Int)).headD 0=(t:Int)
 ·rw[ar h1,cg]
  by_cases h2:(maskN (j9 pcs (i:Int))&&&m==0)=true
  ·rw[ar h2,ar ⟨h1,h2⟩]
   show wJ [((i:Int),wk ch (m|||maskN (j9 pcs (i:Int))))]=_
   unfold wJ
   rw[jd]
   exact cH fun x _=>ao (by lia)
  ·rw[ao h2,ao (fun z=>h2 z.2)]
   rfl
 ·rw[ao h1,ao (fun z=>h1 z.1)]
  rfl
theorem jRW {w:Int}{ms:List Int}{pcs:List (List Int×Int)}{m t:Nat}(g:Good 16 32 w ms pcs)(hm:m<2 ^ w.toNat)(hf:m≠2 ^ w.toNat - 1)(hl:lowN m=t)(ht:t<w.toNat):wkI (chs w.toNat ms pcs) ms pcs m t pcs.length=wk (chs w.toNat ms pcs) m:=by
 have o:ChOk (chs w.toNat ms pcs):=jDI g
 have el:(chs w.toNat ms pcs).length=w.toNat:=kZ _ _ _ _
 rw[jCP o (by rw[el]; exact hm) (by unfold fullN; rw[el]; exact hf)]
 unfold wkI chAt
 have:(chs w.toNat ms pcs).getD (lowN m) []=yN ms pcs pcs.length t:=by
  rw[hl,aC]
  unfold chs
  rw[jAA ht]
  rfl
 rw[this]
theorem jP7 {ch:Ch}{ms:List Int}{pcs:List (List Int×Int)}{m t i:Nat}(hi:i<=pcs.length):(wkI ch ms pcs m t i).length<=(wkI ch ms pcs m t pcs.length).length:=by
 have key:∀ d i,i+d=pcs.length->(wkI ch ms pcs m t i).length<=(wkI ch ms pcs m t pcs.length).length:=by
  intro d
  induction d with
  | zero=>intro i h; rw[show i=pcs.length by lia]; exact am _
  | succ d ih=>
   intro i h
   refine bf ?_ (ih (i+1) (by lia))
   rw[jJG (by lia),aH]
   lia
 exact key (pcs.length - i) i (by lia)
def jF4 (d:Nat):Sp:=fun vs H Q _=>∃ (b h:Addr) (w:Int) (t:Nat) (ms:List Int) (pcs:List (List Int×Int)) (hs:List Int) (m:Nat),vs=[.ref b, .int (t:Int), .ref h]/\BoxAt H b w ms pcs/\Good 16 16 w ms pcs/\(t:Int)<=w/\w - t<=d/\H h=some (.tup (hs.map V.int))/\hs.length<=16*t/\MkOk w.toNat t hs m/\
 ∀ l us H',H' l=some (.lst us)->LsAt H' us (wk (chs w.toNat ms pcs) m)->Ext H H'->Q (.ref l) H'
def spNo:Sp:=fun _ _ _ _=>False
def jFW:Nat->Sp
 | 0=>spNo
 | d+1=>jF4 d
theorem ok_no {k:Nat}{f:Addr}{fd:FuncData}{ps:List Str} :FnOk P w K mg lv CX0 k f fd ps spNo:=⟨fun _ _ _ _ h=>h.elim,fun _ _ _ _ _ _ _ _ _ _ _ _ _ h=>h.elim⟩
abbrev nFrom:List Str:=["box","thing","held","found","k","own"]
theorem scFrom:FnScope nFrom ["box","thing","held"] (j6 qP):= {}
abbrev XFrom (P:Program)(w:World)(K:W.Frag)(mg:Str->Option Value)(lv:Heap)(f:Addr)(lw:Value)(A:Around)(lu:List Env)(s:Shared)(H:Hp)(E:XK):Cx:=XOf nFrom "_law_from" qP P w K mg lv f lw A lu s H E
def fromL {d:Nat}{sp:Sp}(T:Txt mg)(CF:Can P w K mg lv "_law_from" (d+1) fF fdF ["box","thing","held"] sp)(hr:Room (d+1) (XFrom P w K mg lv f lw A lu s H0 E).A): { t:TS // JSs (XFrom P w K mg lv f lw A lu s H0 E) (jCG ((jC qP).getD 4 (.Pass ⟨0,0,0,0⟩))) t} :=
 have nd:=scFrom.nd
 ⟨_,(jD (jT (i:=5) nd rfl lL (kB kP (kB kP (kB kP (jv 0 rfl vL) (je_int) jK) (jv 4 rfl vC) jCV) (je_int) jK) jM1)
   (jB (yU (jt_w (jRK (kL qN (kB kP (jv 5 rfl vL) (je_int) jK) (jv 1 rfl vL) (kI _)) (jNP (jCI (qF (jH (jBI rfl) gD T.any (by decide+kernel) (j3 (jR (m:=[none,some 2]) (Nc:=["t","held"]) rfl (qC (jv 5 rfl vL)) rfl (by decide+kernel) (by decide+kernel) (jG (psc:=j6 qP)) (jF (N:=nFrom) rfl rfl (by decide+kernel)) (fun cl C fp s H=>jJ (i:=0) (show (["t","held"]:List Str).Nodup by decide+kernel) rfl y9) (fun cl C fp s H=>kG) (fun cl C fp s H=>(yR jCW (jv 0 rfl jL) (jv 1 rfl kD) jBD)) y6) j7 jE) jE) yW))))) (jB (jT (i:=3) nd rfl lL (kN jK0 (jv 3 rfl vL) (jR (m:=[none,some 4]) (Nc:=["rest","k"]) rfl (kY (CF.je hr gD (j3 (jv 0 rfl vL) (j3 (kN yI (jv 1 rfl vL) (je_int)) (j3 (kN jMO (jv 2 rfl vC) (jv 5 rfl vL)) j7 yA) yA) j4) j4)) rfl (by decide+kernel) (by decide+kernel) (jG (psc:=j6 qP)) (jF (N:=nFrom) rfl rfl (by decide+kernel)) (fun cl C fp s H=>jJ (i:=0) (show (["rest","k"]:List Str).Nodup by decide+kernel) rfl y9) (fun cl C fp s H=>kG) (fun cl C fp s H=>(kN jMO (y4 (j3 (jv 1 rfl kD) j7 j4)) (jv 0 rfl jL))) kE)) jM3)) kU)))⟩
def fromB {d:Nat}{sp:Sp}(T:Txt mg)(CF:Can P w K mg lv "_law_from" (d+1) fF fdF ["box","thing","held"] sp)(hr:Room (d+1) (XFrom P w K mg lv f lw A lu s H0 E).A): { t:TS // JSs (XFrom P w K mg lv f lw A lu s H0 E) ((jC qP).drop 4) t} :=
 have nd:=scFrom.nd
 ⟨_,(jD (qB cf rfl (jA3 gD T.range (j3 (jH jY gD T.len (by decide+kernel) (j3 (kB kP (jv 0 rfl vL) (je_int) jK) j7 jX) jX) j7 jI) jI) (jJ (i:=4) nd rfl loc_c) (fromL T CF hr).2 kE) (jB (jN (jv 3 rfl vL))))⟩
def fromA {d:Nat}{sp:Sp}(T:Txt mg)(CF:Can P w K mg lv "_law_from" (d+1) fF fdF ["box","thing","held"] sp)(hr:Room (d+1) (XFrom P w K mg lv f lw A lu s H0 E).A): { t:TS // JSs (XFrom P w K mg lv f lw A lu s H0 E) (jC qP) t} :=
 have nd:=scFrom.nd
 ⟨_,(jD (yU (kL qN (jv 1 rfl vL) (kB kP (jv 0 rfl vL) (je_int) jK) (kI _)) (jB (jN (yQ (j3 (y4 j7) j7 yZ)))) kU) (jD (yU (kL jEA (jv 1 rfl vL) (jv 2 rfl vC) jBD) (jB (jN (CF.je hr gD (j3 (jv 0 rfl vL) (j3 (kN yI (jv 1 rfl vL) (je_int)) (j3 (jv 2 rfl vC) j7 j4) yA) j4) j4))) kU) (jD (jT (i:=3) nd rfl lL (yQ j7) jBX) (jD (yU (kL jEA (jv 1 rfl vL) (kB kP (jv 0 rfl vL) (je_int) jK) jRC) (jB (jT (i:=3) nd rfl lL (CF.je hr gD (j3 (jv 0 rfl vL) (j3 (kN yI (jv 1 rfl vL) (je_int)) (j3 (jv 2 rfl vC) j7 j4) yA) j4) j4) jU)) kU) (fromB T CF hr).2))))⟩
theorem jFI {d:Nat}(T:Txt mg)(CF:Can P w K mg lv "_law_from" (d+1) fF fdF ["box","thing","held"] (jFW d))(hr:Room (d+1) (XFrom P w K mg lv f lw A lu s H0 E).A)
  {H H1:Hp}{b h l:Addr}{wi:Int}{t m:Nat}{ms:List Int}{pcs:List (List Int×Int)}{hs:List Int}{us:List V}{v4 v5:Option V}{D:Ends}(hB:BoxAt H b wi ms pcs) (g:Good 16 16 wi ms pcs) (t1:(t:Int)<wi) (hd:wi - t<=d) (hh:H h=some (.tup (hs.map V.int))) (hl:hs.length<=16*t) (mk:MkOk wi.toNat t hs m) (hnt:¬ (t:Int)∈hs)
  (e1:Ext H H1) (hf:H1 l=some (.lst us)) (fc:LsAt H1 us (wkI (chs wi.toNat ms pcs) ms pcs m t 0))
  (q:∀ l us H',H' l=some (.lst us)->LsAt H' us (wk (chs wi.toNat ms pcs) m)->Ext H H'->D.rt (.ref l) H'):
  (fromB T CF hr).1 D [some (.ref b),some (.int (t:Int)),some (.ref h),some (.ref l),v4,v5] H1:=by
 obtain⟨qm,qp,ps,b1,b2,b3,b4⟩:=hB.ex
 have pl:=b4.len
 have gl:=g.pl
 have w0:=g.w0
 have w1:=g.w1
 have g32:Good 16 32 wi ms pcs:=g.wide (by lia) (by lia)
 have tw:t<wi.toNat:=by lia
 have o:ChOk (chs wi.toNat ms pcs):=jDI g32
 have el:(chs wi.toNat ms pcs).length=wi.toNat:=kZ _ _ _ _
 have all:=jRW (pcs:=pcs) (ms:=ms) g32 mk.lt (mk.ne tw hnt) (mk.low tw hnt) tw
 have wlen:(wk (chs wi.toNat ms pcs) m).length<=65536:=bf (jLP g32 m (by rw[el]; exact mk.lt)) (jIL (by lia))
 refine⟨_,rfl,b,_,2,_,rfl,rfl,SqT.of (e1 _ _ b1),rfl,qp,_,rfl, .inr (SqT.of (e1 _ _ b3)),_,rfl,by lia,by lia,jBG (fun i σ H'=>(∃ l us v4 v5,σ=[some (.ref b),some (.int (t:Int)),some (.ref h),some (.ref l),v4,v5]/\H' l=some (.lst us)/\LsAt H' us (wkI (chs wi.toNat ms pcs) ms pcs m t i))/\Ext H H') ⟨⟨_,_,_,_,rfl,hf,fc⟩,e1⟩ ?_ ?_⟩
 ·rintro i σ H2 hi ⟨⟨l2,us2,v4,v5,rfl,g1,g3⟩,e2⟩
  have hil:i<ps.length:=by lia
  have hip:i<pcs.length:=by lia
  have hy1:ps[i]?=some ps[i]:=ay hil
  obtain⟨pc,hpc,pa,pq,hpe,c1,c2⟩:=b4.at hy1
  have hlot:=(g.pg pc (aJ hpc)).lot
  have et:j9 pcs (i:Int)=pc.1:=by
   unfold j9
   rw[aV,aC,hpc]
   rfl
  have lt2:pc.1.length<=16:=by
   have:=jBC _ 0 wi hlot.ris hlot.bnd
   lia
  have lt0:atI (pc.1.map V.int) 0=some (.int (pc.1.headD 0)):=by
   cases z:pc.1 with
   | nil=>exact absurd z hlot.ne
   | cons a r=>exact jAO (j:=0) rfl
  have at1:atI ps (0+(i:Int))=some (.ref pa):=by rw[ja]; exact jAO (by rw[hy1,hpe])
  have hsu:=jJG (ch:=chs wi.toNat ms pcs) (ms:=ms) (m:=m) (t:=t) hip
  rw[et] at hsu
  have ul:us2.length<=65536:=by
   rw[g3.len]
   exact bf (jP7 (by lia)) (by rw[all]; exact wlen)
  have keep:∀ (v4 v5:Option V) (H3:Hp),Ext H2 H3->wkI (chs wi.toNat ms pcs) ms pcs m t (i+1)=wkI (chs wi.toNat ms pcs) ms pcs m t i->(∃ l us v4' v5',([some (.ref b),some (.int (t:Int)),some (.ref h),some (.ref l2),v4,v5]:St)=[some (.ref b),some (.int (t:Int)),some (.ref h),some (.ref l),v4',v5']/\H3 l=some (.lst us)/\LsAt H3 us (wkI (chs wi.toNat ms pcs) ms pcs m t (i+1)))/\Ext H H3:=fun v4 v5 H3 e3 ez=>⟨⟨l2,us2,v4,v5,rfl,e3 _ _ g1,by rw[ez]; exact g3.mono e3.tups⟩,e2.trans e3⟩
  refine⟨_,rfl,b,_,2,_,rfl,rfl,SqT.of (e2 _ _ b1),rfl,_,rfl,qp,_,_,_,rfl,rfl,SqT.of (e2 _ _ b3),at1,pa,_,0,_,rfl,rfl,SqT.of (e2 _ _ c1),rfl,?_⟩
  refine⟨_,rfl,pq,_,0,_,rfl,rfl,SqT.of (e2 _ _ c2),lt0,_,rfl,rfl,_,rfl,?_⟩
  rw[jET]
  refine ite2 (fun h1=>?_) (fun h1=>?_)
  ·have h1:pc.1.headD 0=(t:Int):=aG h1
   have fi:=mk.fits (own:=pc.1) (by rw[show ((wi.toNat:Nat):Int)=wi by lia]; exact hlot) h1
   refine⟨_,rfl,pq,rfl,⟨_,SqT.of (e2 _ _ c2)⟩,jKN (xs:=pc.1.map V.int) (fun σ=>∃ v,σ=[v,some (.ref h)]) (mapZ pc.1 fun x=>V.bl (decide (x∈hs))) (mapZ.ok _ _) (e2 _ _ c2) (by rw[af,aw]; lia) ⟨_,rfl⟩ ?_ ?_⟩
   ·rintro j x σ' H' zs hx ⟨v,rfl⟩ e hz S1 S2 yes no
    obtain⟨z,hz',rfl⟩:=int_at hx
    dsimp only [kO,yJ]
    rw[ar rfl]
    refine⟨_,rfl,_,rfl,h,_,rfl, .inr (SqT.of (e _ _ (e2 _ _ hh))),rfl,jAD _,?_⟩
    rw[jAI]
    exact yes _ _ _ ⟨_,rfl⟩ (Ext.refl _) (hz.yes hz')
   ·rintro D' H3 zs h2 e3 hn hz
    have hz:=hz.all (by rw[af]; exact am _)
    have hz2:zs=(pc.1.map fun x=>decide (x∈hs)).map V.bl:=by rw[hz,bL]; rfl
    rw[hz2] at h2
    refine⟨D',_,rfl,SqL.of h2,_,rfl,?_⟩
    have ea:((pc.1.map fun x=>decide (x∈hs)).any id)=pc.1.any fun x=>decide (x∈hs):=by rw[ic]; rfl
    rw[ea]
    have E3:=e2.trans e3
    refine ite2 (fun h3=>?_) (fun h3=>keep _ _ H3 e3 ?_)
    ·have h3:(maskN pc.1&&&m==0)=true:=by rw[fi]; exact h3
     rw[ar ⟨h1,h3⟩] at hsu
     cases d with
     | zero=>lia
     | succ d=>
     have htm:(t:Int)∈pc.1:=by rw[<- h1]; exact jGH hlot.ne
     refine⟨_,rfl,_,rfl,_,rfl,_,_,rfl,rfl,_,rfl,_,rfl,h,pq,_,_,rfl,rfl,E3 _ _ hh,E3 _ _ c2,by rw[af,af,aw]; lia,fun r H4 hr4 e4=>?_⟩
     have E4:=E3.trans e4
     refine⟨b,r,wi,t+1,ms,pcs,hs++pc.1,m|||maskN pc.1,rfl,hB.mono E4.tups,g,by lia,by lia,by rw[aS]; exact hr4,by rw[aH]; lia,mk.piece tw (by rw[show ((wi.toNat:Nat):Int)=wi by lia]; exact hlot) htm,fun l5 us5 H5 hl5 hc5 e5=>?_⟩
     have E5:=E4.trans e5
     have mlt:m|||maskN pc.1<2 ^ (chs wi.toNat ms pcs).length:=by
      rw[el]
      exact(mk.piece tw (by rw[show ((wi.toNat:Nat):Int)=wi by lia]; exact hlot) htm).lt
     have u5:us5.length<=65536:=by
      rw[hc5.len]
      exact bf (jLP g32 _ mlt) (jIL (by lia))
     refine⟨l5,rfl,⟨_,SqL.of hl5⟩,jA9 (xs:=us5) (fun σ=>∃ v,σ=[v,some (.int (0+(i:Int)))]) (fun H' zs j=>LsAt H' zs (((wk (chs wi.toNat ms pcs) (m|||maskN pc.1)).take j).map ((i:Int):: ·))) ⟨fun H=>trivial,fun H H' zs j tt h=>h.mono tt,fun H zs j h=>?_⟩ hl5 (by rw[aw]; lia) ⟨_,rfl⟩ ?_ ?_⟩
     ·rw[h.len,af]
      exact bu _ _
     ·rintro j x σ' H' zs hx ⟨v,rfl⟩ e hz S1 S2 yes no
      obtain⟨ks,hks,a,rfl,ha⟩:=hc5.get' hx
      have kl:=(jQU o _ mlt ks (aJ hks)).2
      dsimp only [kO,yJ]
      rw[ar rfl]
      refine⟨_,rfl,by rw[aw]; show 1<=_; lia,fun r6 H6 hr6 e6=>⟨_,rfl,r6,a,_,_,rfl,rfl,hr6,e6 _ _ (e _ _ ha),by rw[af,aw]; show 1+_<=_; lia,fun r7 H7 hr7 e7=>?_⟩⟩
      have e67:=e6.trans e7
      refine yes _ _ _ ⟨_,rfl⟩ e67 ?_
      show LsAt H7 _ (((wk (chs wi.toNat ms pcs) (m|||maskN pc.1)).take (j+1)).map ((i:Int):: ·))
      rw[bg,hks,aS]
      refine All2.snoc (LsAt.mono e67.tups hz) ⟨r7,rfl,?_⟩
      rw[hr7,ja]
      rfl
     ·rintro D6 H6 zs h26 e6 hn6 hz6
      rw[hc5.len,bw] at hz6
      have zl:zs.length<=65536:=by
       rw[hz6.len,af,<- hc5.len]
       exact u5
      refine⟨l2,D6,_,_,rfl,rfl,e6 _ _ (e5 _ _ (e4 _ _ (e3 _ _ g1))),h26,by rw[aw]; lia,fun r7 H7 hr7 e7 hn7=>?_⟩
      have E37:=((e3.trans e4).trans e5).trans (e6.trans e7)
      refine⟨⟨r7,_,_,_,rfl,hr7,?_⟩,e2.trans E37⟩
      rw[hsu]
      exact All2.append (LsAt.mono E37.tups g3) (LsAt.mono e7.tups hz6)
    ·rw[hsu,ao,aZ]
     rintro ⟨_,z⟩
     rw[fi] at z
     exact h3 z
  ·refine iteF (keep _ _ H2 (Ext.refl _) ?_)
   rw[hsu,ao,aZ]
   rintro ⟨z,_⟩
   exact h1 (az z)
 ·rintro σ H2 ⟨⟨l2,us2,v4,v5,rfl,g1,g3⟩,e2⟩
  have em:((ps.length:Int)).toNat=pcs.length:=by lia
  rw[em,all] at g3
  exact⟨_,rfl,q l2 us2 H2 g1 g3 e2⟩
theorem jHO {fd:FuncData}(d:Nat)(F:Fun K "_law_from" "_law_from" qP f fd)(T:Txt mg)(CF:Can P w K mg lv "_law_from" (d+1) f fd ["box","thing","held"] (jFW d)):
  FnOk P w K mg lv CX0 (d+2) f fd ["box","thing","held"] (jF4 d):=by
 refine F.ok scFrom (fun vs H Q E h=>?_) (fun lw A lu s H vs Q E hr h=>?_)
 ·obtain⟨_,_,_,_,_,_,_,_,rfl,_⟩:=h
  rfl
 ·obtain⟨b,h,wi,t,ms,pcs,hs,m,rfl,hB,g,t1,hd,hh,hl,mk,q⟩:=h
  obtain⟨qm,qp,ps,b1,b2,b3,b4⟩:=hB.ex
  have gl:=g.pl
  have w0:=g.w0
  have w1:=g.w1
  have el:(chs wi.toNat ms pcs).length=wi.toNat:=kZ _ _ _ _
  refine⟨_,(fromA T CF hr).2.h,?_⟩
  refine⟨_,rfl,_,rfl,b,_,0,_,rfl,rfl,SqT.of b1,rfl,rfl,_,rfl,?_⟩
  rw[jET]
  refine ite2 (fun h1=>?_) (fun h1=>?_)
  ·have h1:(t:Int)=wi:=aG h1
   have tw:t=wi.toNat:=by lia
   subst tw
   have mf:m=fullN (chs wi.toNat ms pcs):=by
    unfold fullN
    rw[el]
    exact mk.full
   rw[mf,jCQ] at q
   refine⟨by rw[aw]; show 0<=_; lia,fun r1 H1 hr1 e1=>⟨by rw[aw]; show 1<=_; lia,fun r2 H2 hr2 e2 _=>?_⟩⟩
   exact q r2 _ H2 hr2 ⟨⟨r1,rfl,e2 _ _ hr1⟩,trivial⟩ (e1.trans e2)
  ·have h1:¬ (t:Int)=wi:=fun h=>h1 (az h)
   have tw:t<wi.toNat:=by lia
   refine⟨_,rfl,_,rfl,h,_,rfl, .inr (SqT.of hh),rfl,jAD _,_,rfl,?_⟩
   have hd1:∃ d',d=d'+1:=⟨d - 1,by lia⟩
   obtain⟨d',rfl⟩:=hd1
   have call:∀ (m':Nat) (H1:Hp) (Q':VK),MkOk wi.toNat (t+1) hs m'->Ext H H1->(∀ l us H',H' l=some (.lst us)->LsAt H' us (wk (chs wi.toNat ms pcs) m')->Ext H H'->Q' (.ref l) H')->jFW (d'+1) [.ref b, .int ((t:Int)+1), .ref h] H1 Q' E0:=fun m' H1 Q' mk' e1 k=>by
    exact⟨b,h,wi,t+1,ms,pcs,hs,m',rfl,hB.mono e1.tups,g,by lia,by lia,e1 _ _ hh,by lia,mk',fun l us H' a1 a2 a3=>k l us H' a1 a2 (e1.trans a3)⟩
   rw[jAI]
   refine ite2 (fun h2=>?_) (fun h2=>?_)
   ·have h2:(t:Int)∈hs:=aG h2
    refine⟨_,rfl,_,rfl,_,_,rfl,rfl,_,rfl,call m H _ (mk.held tw h2) (Ext.refl _) fun l us H' a1 a2 a3=>?_⟩
    exact q l us H' a1 a2 a3
   ·have h2:¬ (t:Int)∈hs:=fun z=>h2 (az z)
    have hb:m.testBit t=false:=bY.mpr fun z=>h2 ((mk.hi t (am _) tw).mp z)
    refine⟨by rw[aw]; show 0<=_; lia,fun l1 H1 hl1 e1 _=>?_⟩
    refine⟨_,rfl,_,rfl,b,_,1,_,rfl,rfl,SqT.of (e1 _ _ b1),rfl,qm,_,rfl, .inr (SqT.of (e1 _ _ b2)),rfl,jAD _,_,rfl,?_⟩
    rw[jAI]
    have hz:=jP6 (ch:=chs wi.toNat ms pcs) (ms:=ms) (pcs:=pcs) hb
    refine ite2 (fun h3=>?_) (fun h3=>?_)
    ·rw[ar (aG h3)] at hz
     refine⟨_,rfl,_,rfl,_,_,rfl,rfl,_,rfl,(show jFW (d'+1) [.ref b, .int ((t:Int)+1), .ref h] H1 (fun x H2=>(fromB T CF hr).1 { nx:=fun x H'=>Q V.non H',rt:=Q} [some (.ref b),some (.int (t:Int)),some (.ref h),some x,none,none] H2) E0 from call (m|||2 ^ t) H1 _ (mk.may tw) e1 fun l us H' a1 a2 a3=>?_)⟩
     exact jFI T CF hr hB g (by lia) hd hh hl mk h2 a3 a1 (by rw[hz]; exact a2) q
    ·rw[ao (fun z=>h3 (az z))] at hz
     exact jFI T CF hr hB g (by lia) hd hh hl mk h2 e1 hl1 (by rw[hz]; trivial) q
theorem jMX {fd:FuncData}(F:Fun K "_law_from" "_law_from" qP f fd)(T:Txt mg)(hm:mg "_law_from" =some (.ref f))(kp:keepIn K (.ref f)=true)(hb:Binds K fd ["box","thing","held"] []):
  ∀ d:Nat,FnOk P w K mg lv CX0 (d+2) f fd ["box","thing","held"] (jF4 d)
 | 0=>jHO 0 F T ⟨ok_no,hm,kp,hb⟩
 | d+1=>jHO (d+1) F T ⟨jMX F T hm kp hb d,hm,kp,hb⟩
def jJP:Sp:=fun vs H Q _=>∃ (b:Addr) (w:Int) (ms:List Int) (pcs:List (List Int×Int)),vs=[.ref b]/\BoxAt H b w ms pcs/\Good 16 16 w ms pcs/\
 ∀ l us H',H' l=some (.lst us)->LsAt H' us (cvs w ms pcs)->us.length<=65536->Ext H H'->Q (.ref l) H'
abbrev nCovs:List Str:=["box"]
theorem scCovs:FnScope nCovs ["box"] (j6 sCovs):= {}
def covsA (T:Txt mg)(CF:Can P w K mg lv "_law_from" 18 fF fdF ["box","thing","held"] (jF4 16))(hr:Room 18 (XOf nCovs "_law_coverings" sCovs P w K mg lv f lw A lu s H0 E).A): { t:TS // JSs (XOf nCovs "_law_coverings" sCovs P w K mg lv f lw A lu s H0 E) (jC sCovs) t} :=
 have nd:=scCovs.nd
 ⟨_,(jB (jN (jR (m:=[none]) (Nc:=["some"]) rfl (kY (CF.je hr gD (j3 (jv 0 rfl vL) (j3 (je_int) (j3 (y4 j7) j7 yZ) kQ) j4) j4)) rfl (by decide+kernel) (by decide+kernel) (jG (psc:=j6 sCovs)) (jF (N:=nCovs) rfl rfl (by decide+kernel)) (fun cl C fp s H=>jJ (i:=0) (show (["some"]:List Str).Nodup by decide+kernel) rfl y9) (fun cl C fp s H=>kG) (fun cl C fp s H=>(jZ jJD gl_b T.tuple (by decide+kernel) (j3 (jH jHV gl_b T.sorted (by decide+kernel) (j3 (jv 0 rfl jL) j7 j4) j4) j7 jI) jI)) kE)))⟩
theorem jTE (w:Nat):MkOk w 0 [] 0:=⟨dJ _,fun j hj=>by lia,fun j _ _=>by simp⟩
theorem jT7 {fd:FuncData}(F:Fun K "_law_coverings" "_law_coverings" sCovs f fd)(T:Txt mg)(CF:Can P w K mg lv "_law_from" 18 fF fdF ["box","thing","held"] (jF4 16)):FnOk P w K mg lv CX0 19 f fd ["box"] jJP:=by
 refine F.ok scCovs (fun vs H Q E h=>?_) (fun lw A lu s H vs Q E hr h=>?_)
 ·obtain⟨_,_,_,_,rfl,_⟩:=h
  rfl
 ·obtain⟨b,wi,ms,pcs,rfl,hB,g,q⟩:=h
  have gl:=g.pl
  have w0:=g.w0
  have w1:=g.w1
  have g32:Good 16 32 wi ms pcs:=g.wide (by lia) (by lia)
  have o:ChOk (chs wi.toNat ms pcs):=jDI g32
  have el:(chs wi.toNat ms pcs).length=wi.toNat:=kZ _ _ _ _
  have z0:0<2 ^ (chs wi.toNat ms pcs).length:=dJ _
  refine⟨_,(covsA T CF hr).2.h,?_⟩
  refine⟨_,rfl,by rw[aw]; show 0<=_; lia,fun r1 H1 hr1 e1=>⟨b,r1,wi,0,ms,pcs,[],0,rfl,hB.mono e1.tups,g,by lia,by lia,hr1,by show 0<=_; lia,jTE _,fun l us H2 a1 a3 a4=>?_⟩⟩
  have ul:us.length<=65536:=by
   rw[a3.len]
   exact bf (jLP g32 _ z0) (jIL (by lia))
  refine⟨l,rfl,⟨_,SqL.of a1⟩,jA9 (xs:=us) (fun σ=>∃ v,σ=[v]) (fun H' zs j=>LsAt H' zs (((wk (chs wi.toNat ms pcs) 0).take j).map srt)) ⟨fun H=>trivial,fun H H' zs j tt h=>h.mono tt,fun H zs j h=>?_⟩ a1 (by rw[aw]; lia) ⟨_,rfl⟩ ?_ ?_⟩
  ·rw[h.len,af]
   exact bu _ _
  ·rintro j x σ' H' zs hx ⟨v,rfl⟩ e hz S1 S2 yes no
   obtain⟨ks,hks,a,rfl,ha⟩:=a3.get' hx
   have kl:=(jQU o _ z0 ks (aJ hks)).2
   dsimp only [kO,yJ]
   rw[ar rfl]
   refine⟨_,rfl,a,ks,rfl,e _ _ ha,by lia,fun l6 ns hl6 sr pm=>⟨l6,_,rfl, .inl ⟨SqL.of j5,fun l7 hl7=>?_⟩⟩⟩
   have e6:Ext H' (L2.upd H' l6 (.lst (ns.map V.int))):=(Ext.refl _).new hl6 _
   have e7:Ext H' (L2.upd (L2.upd H' l6 (.lst (ns.map V.int))) l7 (.tup (ns.map V.int))):=e6.new hl7 _
   refine yes _ _ _ ⟨_,rfl⟩ e7 ?_
   show LsAt _ _ (((wk (chs wi.toNat ms pcs) 0).take (j+1)).map srt)
   rw[bg,hks,aS]
   refine All2.snoc (LsAt.mono e7.tups hz) ⟨l7,rfl,?_⟩
   rw[j5,jGY sr pm]
  ·rintro D6 H6 zs h26 e6 hn6 hz6
   rw[a3.len,bw] at hz6
   exact q D6 zs H6 h26 hz6 (by rw[hz6.len,af,<- a3.len]; exact ul) ((e1.trans a4).trans e6)
theorem jGA {w:Int}{ms:List Int}{pcs:List (List Int×Int)}{m:Nat}{c:Int×Nat}(hl:lowN m<w.toNat):c∈chAt (chs w.toNat ms pcs) m↔c.2&&&m=0/\((c=(-1,2 ^ lowN m)/\(lowN m:Int)∈ms)\/∃ k:Int,c=(k,maskN (j9 pcs k))/\0<=k/\k<pcs.length/\(j9 pcs k).headD 0=(lowN m:Int)):=by
 unfold chAt
 rw[ba,gJ,and_comm]
 refine jn fun _=>?_
 unfold chs
 rw[aC,jAA hl]
 show c∈yN ms pcs pcs.length (lowN m)↔_
 unfold yN
 rw[aM]
 refine or_congr ?_ ?_
 ·by_cases h:(lowN m:Int)∈ms
  ·rw[ar h,aK]
   exact⟨fun z=>⟨z,h⟩,fun z=>z.1⟩
  ·rw[ao h]
   exact⟨fun z=>(by cases z),fun z=>absurd z.2 h⟩
 ·rw[bP (by rw[jBM]; exact am _),aW]
  constructor
  ·rintro ⟨k,hk,rfl⟩
   obtain⟨h1,h2⟩:=ba.mp hk
   have b:=(yB pcs.length).bnd k h1
   exact⟨k,rfl,b.1,b.2,aG h2⟩
  ·rintro ⟨k,rfl,h1,h2,h3⟩
   refine⟨k,ba.mpr ⟨?_,az h3⟩,rfl⟩
   unfold upto
   exact aW.mpr ⟨k.toNat,bG.mpr (by lia),by lia⟩
structure CovM (w:Int)(ms:List Int)(pcs:List (List Int×Int))(m:Nat)(x:List Int):Prop where
 nd:x.Nodup
 bnd:∀ k∈x,0<=k/\k<pcs.length
 off:∀ k∈x,∀ t∈j9 pcs k,m.testBit t.toNat=false
 dis:∀ k∈x,∀ k'∈x,k≠k'->∀ t∈j9 pcs k,t∉j9 pcs k'
 cov:∀ t:Nat,t<w.toNat->m.testBit t=false->(t:Int)∉ms->∃ k∈x,(t:Int)∈j9 pcs k
section
variable {w:Int}(g:Good 16 32 w ms pcs)
include g
theorem jB2 {k:Int}(h0:0<=k)(h1:k<pcs.length):Lot w (j9 pcs k):=(g.at (k:=k.toNat) (by lia)).lot
theorem jF7 {k:Int}(h0:0<=k)(h1:k<pcs.length)(t:Nat):(maskN (j9 pcs k)).testBit t=decide ((t:Int)∈j9 pcs k):=jAB _ t (jB2 g h0 h1).ris fun x hx=>((jB2 g h0 h1).bnd x hx).1
theorem jRA {k:Int}(h0:0<=k)(h1:k<pcs.length){m:Nat} :maskN (j9 pcs k)&&&m=0↔∀ t∈j9 pcs k,m.testBit t.toNat=false:=by
 have l:=jB2 g h0 h1
 constructor
 ·intro h t ht
  have bt:=l.bnd t ht
  have q:=bZ (fun z=>z.testBit t.toNat) h
  simp only [dU,dv,jF7 g h0 h1] at q
  rw[show ((t.toNat:Nat):Int)=t by lia,az ht,iP] at q
  exact q
 ·intro h
  apply d9
  intro i
  rw[dU,dv,jF7 g h0 h1]
  by_cases hi:(i:Int)∈j9 pcs k
  ·have:=h _ hi
   rw[aV] at this
   rw[this,dw]
  ·rw[aP hi]
   rfl
theorem jCZ {k:Int}(h0:0<=k)(h1:k<pcs.length):(j9 pcs k).headD 0∈j9 pcs k/\∀ t∈j9 pcs k,(j9 pcs k).headD 0<=t:=by
 have l:=jB2 g h0 h1
 refine⟨jGH l.ne,fun t ht=>?_⟩
 have r:=l.ris
 cases z:j9 pcs k with
 | nil=>rw[z] at ht; cases ht
 | cons a q=>
  rw[z] at ht r
  show a<=t
  rcases aF.mp ht with y | y
  ·lia
  ·have:=(cM.mp r).1 t y
   lia
theorem jJF:∀ m,m<2 ^ (chs w.toNat ms pcs).length->∀ x∈wk (chs w.toNat ms pcs) m,CovM w ms pcs m x:=by
 have o:ChOk (chs w.toNat ms pcs):=jDI g
 have el:(chs w.toNat ms pcs).length=w.toNat:=kZ _ _ _ _
 refine jDK o ?_ ?_
 ·intro x hx
  rw[jCQ,aK] at hx
  subst hx
  refine⟨jt,fun k hk=>(by cases hk),fun k hk=>(by cases hk),fun k hk=>(by cases hk),fun t ht hb _=>?_⟩
  unfold fullN at hb
  rw[el,cX,az ht] at hb
  cases hb
 ·intro m hm hf ih x hx
  have hl:lowN m<w.toNat:=by have:=jEG hm hf; rwa [el] at this
  rw[jCP o hm hf] at hx
  obtain⟨p,hp,y,hy,rfl⟩:=mem_wJ.mp hx
  obtain⟨c,hc,rfl⟩:=aW.mp hp
  have I:=ih c hc y hy
  have offm:∀ k∈y,∀ t∈j9 pcs k,m.testBit t.toNat=false:=fun k hk t ht=>by
   have:=I.off k hk t ht
   rw[ci,gS] at this
   exact this.1
  obtain⟨hz,hcase⟩:=(jGA hl).mp hc
  rcases hcase with ⟨rfl,hms⟩ | ⟨k,rfl,k0,k1,hd⟩
  ·dsimp only
   rw[ar (show (-1:Int)<0 by decide)]
   refine⟨I.nd,I.bnd,offm,I.dis,fun t ht hb hn=>?_⟩
   refine I.cov t ht ?_ hn
   rw[ci,hb,iN,cG,aP]
   intro z
   subst z
   exact hn hms
  ·dsimp only at I hz ⊢
   rw[ao (by lia)]
   have ky:∀ t∈j9 pcs k,∀ k'∈y,t∉j9 pcs k':=fun t ht k' hk' ht'=>by
    have:=I.off k' hk' t ht'
    have bt:=(jB2 g k0 k1).bnd t ht
    rw[ci,jF7 g k0 k1,show ((t.toNat:Nat):Int)=t by lia,az ht,gj] at this
    cases this
   have hhd:=(jCZ g k0 k1).1
   refine⟨cE.mpr ⟨fun z=>ky _ hhd k z hhd,I.nd⟩,fun k' hk'=>?_,fun k' hk' t ht=>?_,fun k1' h1' k2' h2' ne t ht=>?_,fun t ht hb hn=>?_⟩
   ·rcases aF.mp hk' with z | z
    ·rw[z]; exact⟨k0,k1⟩
    ·exact I.bnd k' z
   ·rcases aF.mp hk' with z | z
    ·rw[z] at ht
     exact(jRA g k0 k1).mp hz t ht
    ·exact offm k' z t ht
   ·rcases aF.mp h1' with z | z <;> rcases aF.mp h2' with u | u
    ·exact absurd (z.trans u.symm) ne
    ·rw[z] at ht
     exact ky t ht _ u
    ·rw[u]
     intro q
     exact ky t q _ z ht
    ·exact I.dis _ z _ u ne t ht
   ·by_cases hk:(t:Int)∈j9 pcs k
    ·exact⟨k,ai .., hk⟩
    ·obtain⟨k',h1,h2⟩:=I.cov t ht (by rw[ci,hb,jF7 g k0 k1,aP hk]; rfl) hn
     exact⟨k',ah _ h1,h2⟩
theorem jIF:∀ m,m<2 ^ (chs w.toNat ms pcs).length->∀ x,CovM w ms pcs m x->∃ y∈wk (chs w.toNat ms pcs) m,∀ k,k∈y↔k∈x:=by
 have o:ChOk (chs w.toNat ms pcs):=jDI g
 have el:(chs w.toNat ms pcs).length=w.toNat:=kZ _ _ _ _
 have w0:=g.w0
 refine jDK o ?_ ?_
 ·intro x C
  refine⟨[],by rw[jCQ]; exact aK.mpr rfl,fun k=>⟨fun z=>(by cases z),fun hk=>?_⟩⟩
  exfalso
  have b:=C.bnd k hk
  have hh:=(jCZ g b.1 b.2).1
  have hb:=(jB2 g b.1 b.2).bnd _ hh
  have:=C.off k hk _ hh
  unfold fullN at this
  rw[el,cX,az (by lia)] at this
  cases this
 ·intro m hm hf ih x C
  have hl:lowN m<w.toNat:=by have:=jEG hm hf; rwa [el] at this
  have hstep:=jCP o hm hf
  by_cases hx:∃ k∈x,(lowN m:Int)∈j9 pcs k
  ·obtain⟨k,hk,ht⟩:=hx
   have b:=C.bnd k hk
   have hd:(j9 pcs k).headD 0=(lowN m:Int):=by
    obtain⟨h1,h2⟩:=jCZ g b.1 b.2
    have h3:=h2 _ ht
    have hb:=(jB2 g b.1 b.2).bnd _ h1
    have h4:=C.off k hk _ h1
    rcases Int.lt_or_eq_of_le h3 with z | z
    ·have:=jGC m ((j9 pcs k).headD 0).toNat (by lia)
     rw[this] at h4
     cases h4
    ·exact z
   have fit:maskN (j9 pcs k)&&&m=0:=(jRA g b.1 b.2).mpr (C.off k hk)
   have hc:((k,maskN (j9 pcs k)):Int×Nat)∈chAt (chs w.toNat ms pcs) m:=(jGA hl).mpr ⟨fit, .inr ⟨k,rfl,b.1,b.2,hd⟩⟩
   have memE:∀ j,j∈x.erase k↔j≠k/\j∈x:=fun j=>C.nd.mem_erase_iff
   obtain⟨y,hy,hye⟩:=ih _ hc (x.erase k) ⟨C.nd.erase k,fun j hj=>C.bnd j ((memE j).mp hj).2,fun j hj t ht'=>by
     obtain⟨n1,n2⟩:=(memE j).mp hj
     have bj:=C.bnd j n2
     have bt:=(jB2 g bj.1 bj.2).bnd t ht'
     have:=C.dis j n2 k hk n1 t ht'
     rw[ci,C.off j n2 t ht',jF7 g b.1 b.2,show ((t.toNat:Nat):Int)=t by lia,aP this]
     rfl,fun j1 h1 j2 h2=>C.dis j1 ((memE j1).mp h1).2 j2 ((memE j2).mp h2).2,fun t ht' hb hn=>by
     rw[ci,gS,jF7 g b.1 b.2,cW] at hb
     obtain⟨j,hj,hjt⟩:=C.cov t ht' hb.1 hn
     exact⟨j,(memE j).mpr ⟨fun z=>hb.2 (z ▸ hjt),hj⟩,hjt⟩⟩
   refine⟨k::y,?_,fun j=>?_⟩
   ·rw[hstep,mem_wJ]
    exact⟨_,cn hc,y,hy,by dsimp only; rw[ao (by lia)]⟩
   ·rw[aF,hye,memE]
    constructor
    ·rintro (z | z)
     ·rw[z]; exact hk
     ·exact z.2
    ·intro z
     by_cases hj:j=k
     ·exact .inl hj
     ·exact .inr ⟨hj,z⟩
  ·have hms:(lowN m:Int)∈ms:=ce fun z=>hx (C.cov (lowN m) hl (jEF m) z)
   have fit:2 ^ lowN m&&&m=0:=by
    apply d9
    intro i
    rw[dU,dv,cG]
    by_cases hi:lowN m=i
    ·rw[<- hi,jEF,dw]
    ·rw[aP hi]
     rfl
   have hc:((-1,2 ^ lowN m):Int×Nat)∈chAt (chs w.toNat ms pcs) m:=(jGA hl).mpr ⟨fit, .inl ⟨rfl,hms⟩⟩
   obtain⟨y,hy,hye⟩:=ih _ hc x ⟨C.nd,C.bnd,fun j hj t ht'=>by
     have bj:=C.bnd j hj
     have bt:=(jB2 g bj.1 bj.2).bnd t ht'
     rw[ci,C.off j hj t ht',iN,cG,aP]
     intro z
     refine hx ⟨j,hj,?_⟩
     rw[z,show ((t.toNat:Nat):Int)=t by lia]
     exact ht',C.dis,fun t ht' hb hn=>by
     rw[ci,gS] at hb
     exact C.cov t ht' hb.1 hn⟩
   refine⟨y,?_,hye⟩
   rw[hstep,mem_wJ]
   exact⟨_,cn hc,y,hy,by dsimp only; rw[ar (by decide)]⟩
end
structure IsCov (w:Int)(ms:List Int)(pcs:List (List Int×Int))(c:List Int):Prop where
 ris:Ris pcs.length c
 dis:∀ k∈c,∀ k'∈c,k≠k'->∀ t∈j9 pcs k,t∉j9 pcs k'
 cov:∀ t:Int,0<=t->t<w->t∉ms->∃ k∈c,t∈j9 pcs k
section
variable {w:Int}(g:Good 16 32 w ms pcs)
include g
theorem jNC {c:List Int} :c∈cvs w ms pcs↔IsCov w ms pcs c:=by
 have z0:0<2 ^ (chs w.toNat ms pcs).length:=dJ _
 have w0:=g.w0
 unfold cvs
 rw[aW]
 constructor
 ·rintro ⟨x,hx,rfl⟩
  have C:=jJF g 0 z0 x hx
  have me:∀ k,k∈srt x↔k∈x:=fun k=>(jDN x).mem_iff
  refine⟨⟨?_,fun k hk=>C.bnd k ((me k).mp hk)⟩,fun k hk k' hk'=>C.dis k ((me k).mp hk) k' ((me k').mp hk'),fun t t0 t1 hn=>?_⟩
  ·exact(List.Pairwise.and (jR3 x) ((jDN x).nodup_iff.mpr C.nd)).imp fun {a b} h=>by lia
  ·obtain⟨k,hk,hkt⟩:=C.cov t.toNat (by lia) (dv _) (by rw[show ((t.toNat:Nat):Int)=t by lia]; exact hn)
   exact⟨k,(me k).mpr hk,by rwa [show ((t.toNat:Nat):Int)=t by lia] at hkt⟩
 ·intro C
  obtain⟨y,hy,hye⟩:=jIF g 0 z0 c ⟨C.ris.ris.imp fun {a b} h=>by lia,C.ris.bnd,fun k hk t ht=>dv _,C.dis,fun t ht _ hn=>C.cov t (by lia) (by lia) hn⟩
  refine⟨y,hy,?_⟩
  have ny:=(jJF g 0 z0 y hy).nd
  have nc:c.Nodup:=C.ris.ris.imp fun {a b} h=>by lia
  have pm:c.Perm y:=(iA nc ny).mpr fun k=>(hye k).symm
  exact(jGY (C.ris.ris.imp fun {a b} h=>by lia) pm).symm
end
def lamOf (s:Stmt):Arguments×Expr×Scope×Pos:=match jC s with
 | [.Return (some (.Call _ [_,_, .Lambda a b sc p] _ _)) _]=>(a,b,sc,p)
 | _=>(y8 s, .Constant .none 0 ⟨0,0,0,0⟩,j6 s,⟨0,0,0,0⟩)
abbrev lamA:Arguments:=(lamOf qL).1
abbrev lamB:Expr:=(lamOf qL).2.1
abbrev lamS:Scope:=(lamOf qL).2.2.1
abbrev lamP:Pos:=(lamOf qL).2.2.2
abbrev nLam:List Str:=["behind"]
theorem scLam:NScope nLam ["behind"] [] lamS:=⟨rfl,rfl,rfl,by decide+kernel,rfl,by decide+kernel,by decide+kernel,fun x h=>by
  have hl:∀ y∈lamS.names,y.2≠ .free:=by decide+kernel
  exact absurd rfl (hl _ (bF h)),by decide+kernel⟩
def RWay (ch:Ch):RepT:=fun m _ v=>v=natV (wk ch m).length
theorem RWay.ok (ch:Ch):RepOk (RWay ch):=fun _ _=>⟨fun _ _ _ _ _ _ h=>h,fun _ _ _ h=>h⟩
theorem jU9 (l:List (Int×List (List Int))):(wJ l).length=(l.map fun p=>p.2.length).sum:=by
 unfold wJ
 rw[List.length_flatMap]
 congr 1
 refine cH fun p _=>?_
 rw[af]
abbrev qLam:Str:= "ways_of.<locals>.<lambda>"
def jQ4 (T:Txt mg): { t:TE // JE (cxN P w K mg lv nLam qLam lamS a (.ref c) cl A lu s H0) lamB t} :=⟨_,(jH (jHU rfl) gl_n T.sum (by decide+kernel) (j3 (jR (m:=[none,none]) (Nc:=["number","ways"]) rfl (kY (jv 0 rfl vis_n)) rfl (by decide+kernel) (by decide+kernel) (fun y hy hf=>absurd hf (by revert y; decide+kernel)) (jF (N:=nLam) rfl rfl (by decide+kernel)) (fun cl C fp s H=>jBF (i:=0) (j:=1) rfl (show (["number","ways"]:List Str).Nodup by decide+kernel) rfl rfl (by decide+kernel) (by decide+kernel)) (fun cl C fp s H=>kG) (fun cl C fp s H=>(jv 1 rfl jL)) y6) j7 jE) jE)⟩
def zhW (a c:Addr):Hp->Prop:=fun H=>H a=some (.ext (nlP qLam lamA lamB lamS [] a c))/\H c=some (.ext (ncP qLam c))
theorem zhW.ok (a c:Addr):HpOk (zhW a c):=⟨fun H H' D kvs hD k h=>⟨k _ _ h.1 fun z=>(by rw[<- z,h.1] at hD; cases hD),k _ _ h.2 fun z=>(by rw[<- z,h.2] at hD; cases hD)⟩,fun H H' e h=>⟨e _ _ h.1,e _ _ h.2⟩⟩
theorem jV8 {ch:Ch}(o:ChOk ch)(T:Txt mg):Callee P w K mg lv ZT (zhW a c) 1 a (jJO ch (RWay ch)):=by
 refine Callee.imp (jOC (fv:=[]) scLam (fun vs H Q E h=>?_) (fun pm ctv us hl=>?_) fun A lu s H vs Q E hr h=>?_) fun s H _=>⟨⟨fun x y c h=>(by cases h),fun x c h=>(by cases h)⟩,rfl,fun i x v h=>(by cases h)⟩
 ·obtain⟨_,_,_,rfl,_⟩:=h
  rfl
 ·match us,hl with
  | [_],_=>rfl
 ·obtain⟨l,us,m,rfl,hl,hm,hf,av,q⟩:=h
  refine⟨_,(jQ4 T).2.h,?_⟩
  have vl:us.length<=33:=by
   rw[av.len]
   have hlow:=jEG hm hf
   refine bf (bD _ _) ?_
   rw[aC,ay hlow]
   exact o.len _ _ (ay hlow)
  refine⟨_,rfl,l,rfl,⟨_,SqL.of hl⟩,jA9 (xs:=us) (fun σ=>∃ v1 v2,σ=[v1,v2]) (mapZ (chAt ch m) fun c=>natV (wk ch (m|||c.2)).length) (mapZ.ok _ _) hl (by rw[aw]; lia) ⟨_,_,rfl⟩ ?_ ?_⟩
  ·rintro j x σ' H' zs hx ⟨v1,v2,rfl⟩ e hz S1 S2 yes no
   obtain⟨c,hc,p,u,rfl,hp,hR⟩:=av.get' hx
   have hR:u=natV (wk ch (m|||c.2)).length:=hR
   subst hR
   refine⟨p,_,rfl,SqT.of (e _ _ hp),rfl,_,_,rfl,_,_,rfl,rfl,?_⟩
   dsimp only [yJ]
   rw[ar rfl]
   exact⟨_,rfl,yes _ _ _ ⟨_,_,rfl⟩ (Ext.refl _) (hz.yes hc)⟩
  ·rintro D H' zs hD e nD hz
   have hz:=hz.all (by rw[av.len]; exact am _)
   have hz2:zs=((chAt ch m).map fun c=>((wk ch (m|||c.2)).length:Int)).map V.int:=by rw[hz,bL]; rfl
   rw[hz2] at hD
   refine⟨D,_,rfl,SqL.of hD,q _ _ ?_ e⟩
   show V.int _=natV _
   rw[jCP o hm hf,jU9,bL]
   congr 1
   generalize chAt ch m=cs
   induction cs with
   | nil=>rfl
   | cons a r ih=>
    rw[br,kn,br,kn,ih]
    push_cast
    rfl
abbrev nWays:List Str:=["choices"]
theorem scWays:FnScope nWays ["choices"] (j6 qL):= {}
abbrev TabW (H:Hp)(tb:Addr):Prop:=TabOk H tb lamP qLam
def jIJ:Sp:=spEx (fun x:Addr×Addr×Ch=>ChOk x.2.2) fun x=>jR5 x.1 (zhW x.1 x.2.1) x.2.2 (RWay x.2.2)
def jJJ (tb:Addr):Sp:=fun vs H Q _=>∃ (L:Addr) (ch:Ch),vs=[.ref L]/\ChAt H L ch/\ChOk ch/\TabW H tb/\∀ (r:Addr) (ns:List Nat) (H':Hp),GotAt H' r ch (RWay ch) ns->ns.Pairwise (· > ·)->MetOk ch ns->ExtT tb H H'->TabW H' tb->H r=none->Q (.ref r) H'
def waysA (T:Txt mg)(CH:PySem.W.CodeHd lv c0 tb)(BM:qJ lv mg)(CG:Can P w K mg lv "gathered" 4 fG fdG ["choices","at_end","join"] jIJ)(hr:Room 4 (XOf nWays "ways_of" qL P w K mg lv f (.ref c0) A lu s H0 E).A): { t:TS // JSs (XOf nWays "ways_of" qL P w K mg lv f (.ref c0) A lu s H0 E) (jC qL) t} :=
 have nd:=scWays.nd
 ⟨_,(jB (jN (CG.je hr gD (j3 (jv 0 rfl vL) (j3 je_int (j3 (jKE rfl CH BM (fun y hy hf=>absurd hf (by revert y; decide+kernel)) rfl) j7 jM8) kQ) j4) j4)))⟩
theorem jT1 {fd:FuncData}(F:FunC K "ways_of" "ways_of" qL f fd c0)(T:Txt mg)(CH:PySem.W.CodeHd lv c0 tb)(BM:qJ lv mg)(CG:Can P w K mg lv "gathered" 4 fG fdG ["choices","at_end","join"] jIJ):FnOk P w K mg lv CX0 5 f fd ["choices"] (jJJ tb):=by
 refine F.ok scWays (fun vs H Q E h=>?_) (fun A lu s H vs Q E hr h=>?_)
 ·obtain⟨_,_,rfl,_⟩:=h
  rfl
 ·obtain⟨L,ch,rfl,hL,o,tab,q⟩:=h
  refine⟨_,(waysA T CH BM CG hr).2.h,?_⟩
  refine⟨_,rfl,tab,fun a c H1 k1 k2 k3 e1 na=>?_⟩
  have hL1:ChAt H1 L ch:=hL.keep (fun b xs h=>e1.at tab h) fun b xs h=>e1.at tab h
  refine⟨(a,c,ch),o,L,_,rfl,hL1,?_,⟨k1,k2⟩,fun r ns H2 got srt mt e2 n2=>?_⟩
  ·show V.int 1=natV _
   rw[jCQ]
   rfl
  ·refine q r ns H2 got srt mt (fun b o hb hn=>e2 _ _ (e1 b o hb hn)) (.inr ⟨c,e2 _ _ k3,e2 _ _ k2⟩) ?_
   cases z:H r with
   | none=>rfl
   | some o=>
    by_cases hr:r=tb
    ·rw[hr,k3] at n2
     cases n2
    ·rw[e1 _ _ z hr] at n2
     cases n2
abbrev nMany:List Str:=["box"]
theorem scMany:FnScope nMany ["box"] (j6 sMany):= {}
def jJL (tb:Addr):Sp:=fun vs H Q _=>∃ (b:Addr) (w:Int) (ms:List Int) (pcs:List (List Int×Int)),vs=[.ref b]/\BoxAt H b w ms pcs/\Good 16 32 w ms pcs/\TabW H tb/\∀ H',ExtT tb H H'->TabW H' tb->Q (natV (wk (chs w.toNat ms pcs) 0).length) H'
def manyA (T:Txt mg)(CC:Can P w K mg lv "choices_of" 2 fC fdC ["box"] jCA)(CW:Can P w K mg lv "ways_of" 5 fW fdW ["choices"] (jJJ tb))(hr:Room 5 (XOf nMany "many" sMany P w K mg lv f lw A lu s H0 E).A): { t:TS // JSs (XOf nMany "many" sMany P w K mg lv f lw A lu s H0 E) (jC sMany) t} :=
 have nd:=scMany.nd
 ⟨_,(jB (jN (jIY (hu_of hr) (CW.je hr gD (j3 (CC.je (hr.mono (by decide)) gD (j3 (jv 0 rfl vL) j7 j4) j4) j7 jI) jI) je_int jK)))⟩
theorem jT4 {fd:FuncData}(F:Fun K "many" "many" sMany f fd)(T:Txt mg)(CC:Can P w K mg lv "choices_of" 2 fC fdC ["box"] jCA)(CW:Can P w K mg lv "ways_of" 5 fW fdW ["choices"] (jJJ tb)):FnOk P w K mg lv CX0 6 f fd ["box"] (jJL tb):=by
 refine F.ok scMany (fun vs H Q E h=>?_) (fun lw A lu s H vs Q E hr h=>?_)
 ·obtain⟨_,_,_,_,rfl,_⟩:=h
  rfl
 ·obtain⟨b,wi,ms,pcs,rfl,hB,g,tab,q⟩:=h
  refine⟨_,(manyA T CC CW hr).2.h,?_⟩
  refine⟨_,rfl,b,wi,ms,pcs,rfl,hB,g,fun L H1 hL1 e1=>?_⟩
  refine⟨L,_,rfl,hL1,jDI g,tab.ext e1,fun r ns H2 got srt mt e2 t2 n2=>?_⟩
  obtain⟨u,dg,ru⟩:=got0 got srt mt
  have ru:u=natV _:=ru
  subst ru
  exact⟨r,_,rfl,dg,q H2 ((ExtT.of e1).trans e2) t2⟩
theorem mem_nmd {ts lot:List Int}{p:Int} :p∈nmd ts lot↔∃ t∈lot,t∈ts/\p=((ts.idxOf t:Nat):Int):=by
 unfold nmd
 rw[(jDN _).mem_iff]
 unfold plcs
 rw[aW]
 constructor
 ·rintro ⟨t,ht,rfl⟩
  obtain⟨h1,h2⟩:=ba.mp ht
  exact⟨t,h1,aG h2,rfl⟩
 ·rintro ⟨t,h1,h2,rfl⟩
  exact⟨t,ba.mpr ⟨h1,az h2⟩,rfl⟩
theorem jA7 {ts:List Int}{pcs:List (List Int×Int)}{ks:List Int}{j:Int}(h0:0<=j)(h1:j<ks.length):j9 (pick ts pcs ks) j=nmd ts (j9 pcs (ks.getD j.toNat 0)):=by
 have hj:j.toNat<ks.length:=by lia
 unfold pick
 show ((ks.map _).getD j.toNat ([],0)).1=_
 rw[aC,aR,aC,ay hj]
 rfl
theorem jIZ {ts:List Int}{a b:Int}(ha:a∈ts)(hb:b∈ts)(h:((ts.idxOf a:Nat):Int)=((ts.idxOf b:Nat):Int)):a=b:=by
 have e:ts.idxOf a=ts.idxOf b:=by lia
 have h1:=(jAT ha).1
 rw[e,(jAT hb).1] at h1
 exact(bq h1).symm
theorem jN1 {ts lot:List Int}(h:ts.Pairwise (· < ·))(hl:lot.Pairwise (· < ·)):Ris ts.length (nmd ts lot):=by
 rw[jEC h hl]
 refine⟨jJX h hl,fun z hz=>?_⟩
 unfold plcs at hz
 obtain⟨t,ht,rfl⟩:=aW.mp hz
 have:=cm.mpr (aG (ba.mp ht).2)
 lia
section
variable {fK:Addr}{fdK:FuncData}
abbrev jIP:List Str:=["one","other"]
theorem scCommon:FnScope jIP ["one","other"] (j6 jBB):= {}
def jBO:Sp:=fun vs H Q _=>∃ (q t:Addr) (lot ts:List Int),vs=[.ref q, .ref t]/\H q=some (.tup (lot.map V.int))/\H t=some (.tup (ts.map V.int))/\lot.length<=1000/\∀ H',Ext H H'->Q (.bl (lot.any fun x=>decide (x∈ts))) H'
def jTY (T:Txt mg): { t:TS // JSs (XOf jIP "have_common" jBB P w K mg lv f lw A lu s H0 E) (jC jBB) t} :=
 have nd:=scCommon.nd
 ⟨_,(jB (jN (jH (jBI rfl) gD T.any (by decide+kernel) (j3 (jR (m:=[none,some 1]) (Nc:=["thing","other"]) rfl (qC (jv 0 rfl vL)) rfl (by decide+kernel) (by decide+kernel) (jG (psc:=j6 jBB)) (jF (N:=jIP) rfl rfl (by decide+kernel)) (fun cl C fp s H=>jJ (i:=0) (show (["thing","other"]:List Str).Nodup by decide+kernel) rfl y9) (fun cl C fp s H=>kG) (fun cl C fp s H=>(yR jCW (jv 0 rfl jL) (jv 1 rfl kD) jBD)) y6) j7 jE) jE)))⟩
theorem jMY {fd:FuncData}(F:Fun K "have_common" "have_common" jBB f fd)(T:Txt mg):FnOk P w K mg lv CX0 1 f fd ["one","other"] jBO:=by
 refine F.ok scCommon (fun vs H Q E h=>?_) (fun lw A lu s H vs Q E hr h=>?_)
 ·obtain⟨_,_,_,_,rfl,_⟩:=h
  rfl
 ·obtain⟨q,t,lot,ts,rfl,hq,ht,hl,k⟩:=h
  refine⟨_,(jTY T).2.h,?_⟩
  refine⟨_,rfl,q,rfl,⟨_,SqT.of hq⟩,jO5 (tp:=true) hq ht hl rfl fun D H1 k1 e1 n1=>?_⟩
  refine⟨D,_,rfl,SqL.of k1,?_⟩
  rw[jW5]
  exact k H1 e1
abbrev jG6:List Str:=["box","lot"]
theorem scNarrow:FnScope jG6 ["box","lot"] (j6 jAZ):= {}
def lkP (pcs:List (List Int×Int))(ts:List Int):List Int:=(upto pcs.length).filter fun k=>(j9 pcs k).any fun t=>decide (t∈ts)
def jDR (tb:Addr):Sp:=fun vs H Q _=>∃ (b a:Addr) (w:Int) (ms:List Int) (pcs:List (List Int×Int)) (ts:List Int),vs=[.ref b, .ref a]/\BoxAt H b w ms pcs/\Good 16 32 w ms pcs/\H a=some (.tup (ts.map V.int))/\Ris w ts/\TabP H tb/\
 ∀ r H',BoxAt H' r ts.length (nmd ts ms) (pick ts pcs (lkP pcs ts))->ExtT tb H H'->TabP H' tb->Q (.ref r) H'
def jTD (T:Txt mg)(CL:Can P w K mg lv "is_lot" 3 fL fdL ["thing","many"] (spB2 lotB))(CK:Can P w K mg lv "picked" 2 fK fdK ["box","things","pieces"] (jDQ tb))(CH:Can P w K mg lv "have_common" 1 fH fdH ["one","other"] jBO)(hr:Room 3 (XOf jG6 "narrowed" jAZ P w K mg lv f lw A lu s H0 E).A): { t:TS // JSs (XOf jG6 "narrowed" jAZ P w K mg lv f lw A lu s H0 E) (jC jAZ) t} :=
 have nd:=scNarrow.nd
 ⟨_,(jD (yU (jCI (qF (CL.je (hr.mono (by decide)) gD (j3 (jv 1 rfl vC) (j3 (kB kP (jv 0 rfl vL) (je_int) jK) j7 jX) j4) j4) yW)) (jB (jRL)) kU)
   (jB (jN (CK.je (hr.mono (by decide)) gD (j3 (jv 0 rfl vL) (j3 (jv 1 rfl vC) (j3 (jR (m:=[none,none,some 1]) (Nc:=["number","piece","lot"]) rfl (jIX gD T.enumerate (j3 (kB kP (jv 0 rfl vL) (je_int) jK) j7 jX) jX) rfl (by decide+kernel) (by decide+kernel) (jG (psc:=j6 jAZ)) (jF (N:=jG6) rfl rfl (by decide+kernel)) (fun cl C fp s H=>jBF (i:=0) (j:=1) rfl (show (["number","piece","lot"]:List Str).Nodup by decide+kernel) rfl rfl (by decide+kernel) (by decide+kernel)) (fun cl C fp s H=>jB5 (qF (CH.je (hr.mono (by decide)) gl_b (j3 (kB yM (jv 1 rfl jL) (je_int) jK) (j3 (jv 2 rfl kD) j7 j4) jX) jX) yW)) (fun cl C fp s H=>(jv 0 rfl jL)) kE) j7 jE) j4) j4) j4))))⟩
theorem jIU {pcs:List (List Int×Int)}{ts:List Int} :∀ k∈lkP pcs ts,0<=k/\k<pcs.length:=fun k hk=>(yB pcs.length).bnd k (ba.mp hk).1
theorem jNI (pcs:List (List Int×Int))(ts:List Int):(lkP pcs ts).length<=pcs.length:=by
 have:=bD (fun k=>(j9 pcs k).any fun t=>decide (t∈ts)) (upto pcs.length)
 rw[jBM] at this
 exact this
theorem jMV {fd:FuncData}(F:Fun K "narrowed" "narrowed" jAZ f fd)(T:Txt mg)(CL:Can P w K mg lv "is_lot" 3 fL fdL ["thing","many"] (spB2 lotB))(CK:Can P w K mg lv "picked" 2 fK fdK ["box","things","pieces"] (jDQ tb))(CH:Can P w K mg lv "have_common" 1 fH fdH ["one","other"] jBO):FnOk P w K mg lv CX0 4 f fd ["box","lot"] (jDR tb):=by
 refine F.ok scNarrow (fun vs H Q E h=>?_) (fun lw A lu s H vs Q E hr h=>?_)
 ·obtain⟨_,_,_,_,_,_,rfl,_⟩:=h
  rfl
 ·obtain⟨b,a,w,ms,pcs,ts,rfl,hB,g,ha,rk,tab,q⟩:=h
  refine⟨_,(jTD T CL CK CH hr).2.h,?_⟩
  obtain⟨qm,qp,ps,b1,b2,b3,b4⟩:=id hB.ex
  have pl:=b4.len
  have w0:=g.w0
  have w1:=g.w1
  have gpl:=g.pl
  have kris:=rk.ris
  have kbnd:=rk.bnd
  have tl16:=jBE rk.ris rk.bnd w1
  refine⟨_,rfl,_,rfl,b,_,0,_,rfl,rfl,SqT.of b1,rfl, .ref a,_,_,rfl,jW3 ha (by rw[af]; lia) (Ats.ints ts),fun H1 e1=>⟨_,rfl,?_⟩⟩
  rw[jIT rk.ris rk.bnd]
  refine iteF ?_
  have ha1:=e1 _ _ ha
  refine⟨_,rfl,_,rfl,_,rfl,b,_,2,_,rfl,rfl,SqT.of (e1 _ _ b1),rfl,true,qp,rfl,⟨_,SqT.of (e1 _ _ b3)⟩,jHS (xs:=ps) (by rw[pl,aw]; lia) (fun D j σ' H' zs=>(∃ v v',σ'=[v,v',some (.ref a)])/\Ext H1 H'/\H' D=some (.lst zs)/\H1 D=none/\zs=(((upto pcs.length).take j).filter fun k=>(j9 pcs k).any fun x=>decide (x∈ts)).map V.int) ?_ ?_ ?_ ?_⟩
  ·intro D hD
   exact⟨⟨_,_,rfl⟩,(Ext.refl _).new hD _,j5,hD,rfl⟩
  ·rintro D j σ' H' zs hD ⟨_,e,h2,_,rfl⟩
   refine⟨SqT.of (e _ _ (e1 _ _ b3)),h2,?_⟩
   rw[af]
   exact bf (bD _ _) (bu _ _)
  ·rintro D j σ' H' zs x X hD hx hX ⟨⟨v,v',rfl⟩,e,h2,hn,rfl⟩
   have hj:j<pcs.length:=by
    rw[<- pl]
    exact(aj.mp hx).1
   obtain⟨x',hx',pa,pq,rfl,c1,c2⟩:=b4.get hj
   rw[hx] at hx'
   cases hx'
   have e7:Ext H' (L2.upd H' X (.tup [.int (j:Int), .ref pa])):=(Ext.refl _).new hX _
   have E7:=(e1.trans e).trans e7
   refine⟨X,_,rfl,SqT.of j5,rfl,_,_,rfl,_,_,rfl,rfl,?_⟩
   dsimp only [kO]
   have ll:(pcs.getD j ([],0)).1.length<=16:=by
    have:=jF0 g (k:=j) (by lia) (by lia)
    unfold j9 at this
    rw[aV] at this
    exact this
   refine⟨_,rfl,pa,_,0,_,rfl,rfl,SqT.of (E7 _ _ c1),rfl,_,rfl,pq,a,_,ts,rfl,E7 _ _ c2,e7 _ _ (e _ _ ha1),by lia,fun H8 e8=>⟨_,rfl,?_⟩⟩
   have h8:=e8 _ _ (e7 _ _ h2)
   have et:j9 pcs (j:Int)=(pcs.getD j ([],0)).1:=by unfold j9; rw[aV]
   have E8:=(e.trans e7).trans e8
   rw[<- et,jHQ (jDL hj)]
   refine ite2 (fun hz=>?_) (fun hz=>?_)
   ·refine⟨_,rfl,h8,⟨_,_,rfl⟩,E8.updNew hn _,j5,hn,?_⟩
    rw[ar hz,aS]
    rfl
   ·refine⟨⟨_,_,rfl⟩,E8,h8,hn,?_⟩
    rw[ao hz,aZ]
  ·rintro D σ' H7 zs hD ⟨_,e7,h7,n7,rfl⟩
   have hap:((upto pcs.length).take ps.length).filter (fun k=>(j9 pcs k).any fun x=>decide (x∈ts))=lkP pcs ts:=by
    rw[pl,bP (by rw[jBM]; exact am _)]
    rfl
   rw[hap] at h7
   have E7:=e1.trans e7
   have tln:=jBE kris kbnd w1
   have aln:=jNI pcs ts
   refine⟨b,a,D,true,false,w,ms,pcs,ts,lkP pcs ts,rfl,hB.mono E7.tups,E7 _ _ ha,h7,kris.imp fun h=>by lia,by lia,?_,pc_lt g,jIU,by lia,tab.ext E7,fun r1 H8 B8 e8 t8=>?_⟩
   ·have:=jBE g.mr.ris g.mr.bnd w1
    lia
   exact q r1 H8 B8 ((ExtT.of E7).trans e8) t8
theorem jC5 {w mp:Int}{ms:List Int}{pcs:List (List Int×Int)}{ts:List Int}(g:Good 16 mp w ms pcs)(rk:Ris w ts):Good 16 mp ts.length (nmd ts ms) (pick ts pcs (lkP pcs ts)):=by
 have tl16:=jBE rk.ris rk.bnd g.w1
 have gpl:=g.pl
 have ll:=jNI pcs ts
 refine⟨by lia,by lia,jN1 rk.ris g.mr.ris,?_,fun pc hpc=>?_⟩
 ·unfold pick
  rw[af]
  lia
 ·unfold pick at hpc
  obtain⟨k,hk,rfl⟩:=aW.mp hpc
  have kb:=jIU k hk
  have gp:=g.at (k:=k.toNat) (by lia)
  have r:=jN1 rk.ris (lot:=j9 pcs k) gp.lot.ris
  refine⟨⟨r.ris,r.bnd,fun z=>?_⟩,gp.lo,gp.hi⟩
  have hany:=(ba.mp hk).2
  obtain⟨x,hx,hx2⟩:=cU.mp hany
  have:(plcs ts (j9 pcs k)).length=0:=by
   rw[<- jEC (lot:=j9 pcs k) rk.ris gp.lot.ris]
   exact bZ List.length z
  unfold plcs at this
  rw[af] at this
  have mem:x∈(j9 pcs k).filter fun t=>decide (t∈ts):=ba.mpr ⟨hx,hx2⟩
  rw[dF this] at mem
  cases mem
end
abbrev jCF:List Str:=["box","lot","pieces","things","weight","some"]
theorem scWNarrow:FnScope jCF ["box","lot"] (j6 jA8):= {}
def jC9:Sp:=fun vs H Q _=>∃ (b a:Addr) (w:Int) (ms:List Int) (pcs:List (List Int×Int)) (ts:List Int),vs=[.ref b, .ref a]/\BoxAt H b w ms pcs/\Good 16 32 w ms pcs/\H a=some (.tup (ts.map V.int))/\Ris w ts/\
 ∀ r H',BoxAt H' r ts.length (nmd ts ms) (pick ts pcs (lkP pcs ts))->Ext H H'->Q (.ref r) H'
def jP5 (T:Txt mg)(hr:Room 0 (XOf jCF "_law_narrowed" jA8 P w K mg lv f lw A lu s H0 E).A): { t:TS // JSs (XOf jCF "_law_narrowed" jA8 P w K mg lv f lw A lu s H0 E) (jC jA8) t} :=
 have nd:=scWNarrow.nd
 ⟨_,(jD (jT (i:=2) nd rfl lL (yQ j7) jBX)
   (jD (qB cf rfl (qC (kB kP (jv 0 rfl vL) (je_int) jK)) (jDX (i:=3) (j:=4) nd rfl rfl (by decide+kernel) (by decide+kernel)) (jD (jT (i:=5) nd rfl lL (jZ jM gD T.tuple (by decide+kernel) (j3 (jR (m:=[none,some 1]) (Nc:=["t","lot"]) rfl (qC (jv 3 rfl vL)) rfl (by decide+kernel) (by decide+kernel) (jG (psc:=j6 jA8)) (jF (N:=jCF) rfl rfl (by decide+kernel)) (fun cl C fp s H=>jJ (i:=0) (show (["t","lot"]:List Str).Nodup by decide+kernel) rfl y9) (fun cl C fp s H=>jB5 (kL jCW (jv 0 rfl jL) (jv 1 rfl kD) jBD)) (fun cl C fp s H=>(jRO iR iS jHE (jv 1 rfl kD) (j3 (jv 0 rfl jL) j7 j4) j4)) y6) j7 jE) jE) jU)
   (jB (yU (kL (jSW hr.units101) (jv 5 rfl vL) (y4 j7) (kI _)) (jB (jAM (je_bm bK bW bX jA2 (jv 2 rfl vL) (j3 (y4 (j3 (jv 5 rfl vL) (j3 (jv 4 rfl vL) j7 j4) j4)) j7 yZ) yZ) jU)) kU))) jOB)
   (jB (jN (y4 (j3 (jH jY gD T.len (by decide+kernel) (j3 (jv 1 rfl vC) j7 j4) j4) (j3 (jZ jM gD T.tuple (by decide+kernel) (j3 (jR (m:=[none,some 1]) (Nc:=["t","lot"]) rfl (qC (kB kP (jv 0 rfl vL) (je_int) jK)) rfl (by decide+kernel) (by decide+kernel) (jG (psc:=j6 jA8)) (jF (N:=jCF) rfl rfl (by decide+kernel)) (fun cl C fp s H=>jJ (i:=0) (show (["t","lot"]:List Str).Nodup by decide+kernel) rfl y9) (fun cl C fp s H=>jB5 (kL jCW (jv 0 rfl jL) (jv 1 rfl kD) jBD)) (fun cl C fp s H=>(jRO iR iS jHE (jv 1 rfl kD) (j3 (jv 0 rfl jL) j7 j4) j4)) jOB) j7 jE) jE) (j3 (jZ jM gD T.tuple (by decide+kernel) (j3 (jv 2 rfl vL) j7 j4) j4) j7 jI) jI) jI))))))⟩
theorem jQG {l:List Int} :eqTs (l.map Tr.int) []=decide (l=[]):=by
 cases l <;> rfl
theorem jPF {ts lot:List Int} :(!decide (plcs ts lot=[]))=lot.any fun x=>decide (x∈ts):=by
 unfold plcs
 rw[bV,cU,ck,cW,kh,List.filter_eq_nil_iff]
 constructor
 ·intro h
  refine ce fun z=>h fun x hx y=>z ⟨x,hx,y⟩
 ·rintro ⟨x,hx,y⟩ h
  exact h x hx y
theorem jL4 {fd:FuncData}(F:Fun K "_law_narrowed" "_law_narrowed" jA8 f fd)(T:Txt mg):FnOk P w K mg lv CX0 1 f fd ["box","lot"] jC9:=by
 refine F.ok scWNarrow (fun vs H Q E h=>?_) (fun lw A lu s H vs Q E hr h=>?_)
 ·obtain⟨_,_,_,_,_,_,rfl,_⟩:=h
  rfl
 ·obtain⟨b,a,w,ms,pcs,ts,rfl,hB,g,ha,rk,q⟩:=h
  refine⟨_,(jP5 T hr).2.h,?_⟩
  obtain⟨qm,qp,ps,b1,b2,b3,b4⟩:=id hB.ex
  have pl:=b4.len
  have w0:=g.w0
  have w1:=g.w1
  have gpl:=g.pl
  have tln:=jBE rk.ris rk.bnd w1
  refine⟨by show (0:Nat)<=_; decide,fun l H2 d2 e2 n2=>?_⟩
  refine⟨_,rfl,b,_,2,_,rfl,rfl,SqT.of (e2 _ _ b1),rfl,qp,rfl,⟨_,SqT.of (e2 _ _ b3)⟩,jTS (xs:=ps) (fun i σ H'=>(∃ v3 v4 v5,σ=[some (.ref b),some (.ref a),some (.ref l),v3,v4,v5])/\Ext H H'/\∃ zs,H' l=some (.lst zs)/\PcsAt H' zs (pick ts pcs (((upto pcs.length).take i).filter fun k=>(j9 pcs k).any fun x=>decide (x∈ts)))) ⟨⟨_,_,_,rfl⟩,e2,[],d2,trivial⟩ (fun i σ H' _ ⟨_,e,_⟩=>SqT.of (e _ _ b3)) ?_ ?_⟩
  ·rintro i x σ H' hx ⟨⟨v3,v4,v5,rfl⟩,e,zs,h3,pz⟩
   have hj:i<pcs.length:=by
    rw[<- pl]
    exact(aj.mp hx).1
   obtain⟨x',hx',pa,pq,rfl,c1,c2⟩:=b4.get hj
   rw[hx] at hx'
   cases hx'
   have ll:=jF0 g (k:=i) (by lia) (by lia)
   have et:j9 pcs (i:Int)=(pcs.getD i ([],0)).1:=by unfold j9; rw[aV]
   have gr:(j9 pcs (i:Int)).Pairwise (· < ·):=by
    have:=(g.at (k:=i) hj).lot.ris
    rw[et]
    exact this
   rw[<- et] at c2
   refine⟨pa,_,rfl,SqT.of (e _ _ c1),rfl,_,_,rfl,_,_,rfl,rfl,?_⟩
   dsimp only [kO]
   refine⟨_,rfl,pq,rfl,⟨_,SqT.of (e _ _ c2)⟩,jFH (e _ _ c2) (e _ _ ha) (by lia) rfl fun D HA kA eA nA=>?_⟩
   refine⟨D,_,rfl, .inl ⟨SqL.of kA,fun r hr'=>?_⟩⟩
   rw[<- jEC rk.ris gr] at*
   have eB:Ext HA (L2.upd HA r (.tup ((nmd ts (j9 pcs (i:Int))).map V.int))):=(Ext.refl _).new hr' _
   have dB:(L2.upd HA r (.tup ((nmd ts (j9 pcs (i:Int))).map V.int))) r=some (.tup ((nmd ts (j9 pcs (i:Int))).map V.int)):=j5
   generalize L2.upd HA r (.tup ((nmd ts (j9 pcs (i:Int))).map V.int))=HB at eB dB
   refine⟨_,rfl,by show (0:Nat)<=_; decide,fun r0 HC dC eC=>?_⟩
   have eAC:=(eA.trans eB).trans eC
   have h3C:=eAC _ _ h3
   refine⟨_,[],⟨r,_,rfl,eC _ _ dB,jO3 _⟩,⟨r0,_,rfl,dC,rfl⟩,by rw[jES]; decide,_,rfl,?_⟩
   have ep:(!eqTs ((nmd ts (j9 pcs (i:Int))).map Tr.int) [])=(j9 pcs (i:Int)).any fun x=>decide (x∈ts):=by
    rw[jQG,jEC rk.ris gr,jPF]
   rw[ep,jHQ (jDL hj)]
   refine ite2 (fun hz=>?_) (fun hz=>?_)
   ·rw[ar hz]
    refine⟨_,rfl, .inl ⟨rfl,_,SqL.of h3C⟩,_,rfl,_,rfl,by show (2:Nat)<=_; decide,fun r3 HD dD eD=>?_⟩
    have hDD:=eD _ _ h3C
    refine⟨l,_,_,rfl,rfl,hDD,?_,⟨_,_,_,rfl⟩,((e.trans eAC).trans eD).updNew n2 _,_,j5,?_⟩
    ·rw[pz.len]
     unfold pick
     rw[af]
     have:=bD (fun k=>(j9 pcs k).any fun x=>decide (x∈ts)) ((upto pcs.length).take i)
     have:=bu i (upto pcs.length)
     rw[aw]
     lia
    have ez:pick ts pcs ((((upto pcs.length).take i).filter fun k=>(j9 pcs k).any fun x=>decide (x∈ts))++[(i:Int)])=pick ts pcs (((upto pcs.length).take i).filter fun k=>(j9 pcs k).any fun x=>decide (x∈ts))++[(nmd ts (j9 pcs (i:Int)),(pcs.getD i ([],0)).2)]:=by
     unfold pick
     rw[aS]
     rfl
    rw[ez]
    exact PcsAt.mono (Tups.upd hDD _) (PcsAt.snoc (p:=(nmd ts (j9 pcs (i:Int)),(pcs.getD i ([],0)).2)) ⟨r3,r,rfl,dD,eD _ _ (eC _ _ dB)⟩ (pz.mono (eAC.trans eD).tups))
   ·rw[ao hz,aZ]
    exact⟨⟨_,_,_,rfl⟩,e.trans eAC,zs,h3C,pz.mono eAC.tups⟩
  ·rintro σ H3 ⟨⟨v3,v4,v5,rfl⟩,e3,zs,h3,pz⟩
   have hap:((upto pcs.length).take ps.length).filter (fun k=>(j9 pcs k).any fun x=>decide (x∈ts))=lkP pcs ts:=by
    rw[pl,bP (by rw[jBM]; exact am _)]
    rfl
   rw[hap] at pz
   have lm:=jBE g.mr.ris g.mr.bnd w1
   have t9:=e3 _ _ ha
   refine⟨_,rfl,a,_,rfl, .inr (SqT.of t9),_,rfl,b,_,1,_,rfl,rfl,SqT.of (e3 _ _ b1),rfl,qm,rfl,⟨_,SqT.of (e3 _ _ b2)⟩,jFH (e3 _ _ b2) t9 (by lia) rfl fun D2 HA kA eA nA=>?_⟩
   refine⟨D2,_,rfl, .inl ⟨SqL.of kA,fun r hr'=>?_⟩⟩
   rw[<- jEC rk.ris g.mr.ris]
   have eB:Ext HA (L2.upd HA r (.tup ((nmd ts ms).map V.int))):=(Ext.refl _).new hr' _
   have dB:(L2.upd HA r (.tup ((nmd ts ms).map V.int))) r=some (.tup ((nmd ts ms).map V.int)):=j5
   show tCons _ _ _ (L2.upd HA r (.tup ((nmd ts ms).map V.int))) _
   generalize L2.upd HA r (.tup ((nmd ts ms).map V.int))=HB at eB dB
   have hB9:=eB _ _ (eA _ _ h3)
   refine⟨_,rfl,l,_,rfl, .inl ⟨SqL.of hB9,fun r4 hr4=>?_⟩⟩
   have eC:Ext HB (L2.upd HB r4 (.tup zs)):=(Ext.refl _).new hr4 _
   have dC:(L2.upd HB r4 (.tup zs)) r4=some (.tup zs):=j5
   generalize L2.upd HB r4 (.tup zs)=HC at eC dC
   refine⟨by show (3:Nat)<=_; decide,fun r5 HD dD eD=>?_⟩
   have eAD:=((eA.trans eB).trans eC).trans eD
   exact q r5 HD ⟨r,r4,zs,by rw[dD,af],eD _ _ (eC _ _ dB),eD _ _ dC,pz.mono eAD.tups⟩ (e3.trans eAD)
structure Tb2 (H:Hp)(tb1 tb2:Addr):Prop where
 p:TabP H tb1
 w:TabW H tb2
 ne:tb1≠tb2
def Ex2 (tb1 tb2:Addr)(H H':Hp):Prop:=∀ b o,H b=some o->b≠tb1->b≠tb2->H' b=some o
theorem TabOk.extO {H H':Hp}{T U:Addr}{pos:Pos}{q:Str}(t:TabOk H T pos q)(ne:T≠U)(u:∀ c,H c=some (.ext (ncP q c))->c≠U)(e:ExtT U H H'):TabOk H' T pos q:=by
 rcases t with h | ⟨c,h,h2⟩
 ·exact .inl (e _ _ h ne)
 ·exact .inr ⟨c,e _ _ h ne,e _ _ h2 (u c h2)⟩
theorem Tb2.ext {H H':Hp}{tb1 tb2:Addr}(t:Tb2 H tb1 tb2)(e:Ext H H'):Tb2 H' tb1 tb2:=⟨t.p.ext e,t.w.ext e,t.ne⟩
theorem Tb2.extP {H H':Hp}{tb1 tb2:Addr}(t:Tb2 H tb1 tb2)(e:ExtT tb1 H H')(p:TabP H' tb1):Tb2 H' tb1 tb2:=⟨p,TabOk.extO t.w t.ne.symm (fun c h=>t.p.ne h (by intro _ z; cases z)) e,t.ne⟩
theorem Tb2.extW {H H':Hp}{tb1 tb2:Addr}(t:Tb2 H tb1 tb2)(e:ExtT tb2 H H')(p:TabW H' tb2):Tb2 H' tb1 tb2:=⟨TabOk.extO t.p t.ne (fun c h=>t.w.ne h (by intro _ z; cases z)) e,p,t.ne⟩
theorem Ex2.ofP {H H':Hp}{tb1 tb2:Addr}(e:ExtT tb1 H H'):Ex2 tb1 tb2 H H':=fun b o h n _=>e b o h n
theorem Ex2.ofW {H H':Hp}{tb1 tb2:Addr}(e:ExtT tb2 H H'):Ex2 tb1 tb2 H H':=fun b o h _ n=>e b o h n
theorem Ex2.trans {H H1 H2:Hp}{tb1 tb2:Addr}(a:Ex2 tb1 tb2 H H1)(b:Ex2 tb1 tb2 H1 H2):Ex2 tb1 tb2 H H2:=fun c o h n m=>b c o (a c o h n m) n m
theorem Ex2.at {H H':Hp}{tb1 tb2:Addr}(e:Ex2 tb1 tb2 H H')(t:Tb2 H tb1 tb2){b:Addr}{o:HO}(h:H b=some o)(ho:∀ ps,o≠ .tbl ps:=by intro _ z; cases z):H' b=some o:=e b o h (t.p.ne h ho) (t.w.ne h ho)
theorem Ex2.tups {H H':Hp}{tb1 tb2:Addr}(e:Ex2 tb1 tb2 H H')(t:Tb2 H tb1 tb2):Tups H H':=fun b xs h=>e.at t h
abbrev nBar:List Str:=["box","lot"]
theorem scBar:FnScope nBar ["box","lot"] (j6 sBar):= {}
def wkN (ms:List Int)(pcs:List (List Int×Int))(ts:List Int):List (List Int):=wk (chs ts.length (nmd ts ms) (pick ts pcs (lkP pcs ts))) 0
def spBar (tb1 tb2:Addr):Sp:=fun vs H Q _=>∃ (b a:Addr) (w:Int) (ms:List Int) (pcs:List (List Int×Int)) (ts:List Int),vs=[.ref b, .ref a]/\BoxAt H b w ms pcs/\Good 16 32 w ms pcs/\H a=some (.tup (ts.map V.int))/\Ris w ts/\Tb2 H tb1 tb2/\
 ∀ H',Ex2 tb1 tb2 H H'->Tb2 H' tb1 tb2->Q (.bl (decide (wkN ms pcs ts=[]))) H'
def barA (CN:Can P w K mg lv "narrowed" 4 fN fdN ["box","lot"] (jDR tb1))(CM:Can P w K mg lv "many" 6 fM fdM ["box"] (jJL tb2))(hr:Room 6 (XOf nBar "is_bar" sBar P w K mg lv f lw A lu s H0 E).A): { t:TS // JSs (XOf nBar "is_bar" sBar P w K mg lv f lw A lu s H0 E) (jC sBar) t} :=
 have nd:=scBar.nd
 ⟨_,(jB (jN (yR qN (CM.je hr gD (j3 (CN.je (hr.mono (by decide)) gD (j3 (jv 0 rfl vL) (j3 (jv 1 rfl vL) j7 j4) j4) j4) j7 jI) jI) (je_int) (kI _))))⟩
theorem jVB {fd:FuncData}(F:Fun K "is_bar" "is_bar" sBar f fd)(CN:Can P w K mg lv "narrowed" 4 fN fdN ["box","lot"] (jDR tb1))(CM:Can P w K mg lv "many" 6 fM fdM ["box"] (jJL tb2)):FnOk P w K mg lv CX0 7 f fd ["box","lot"] (spBar tb1 tb2):=by
 refine F.ok scBar (fun vs H Q E h=>?_) (fun lw A lu s H vs Q E hr h=>?_)
 ·obtain⟨_,_,_,_,_,_,rfl,_⟩:=h
  rfl
 ·obtain⟨b,a,w,ms,pcs,ts,rfl,hB,g,ha,rk,tab,q⟩:=h
  refine⟨_,(barA CN CM hr).2.h,?_⟩
  refine⟨_,rfl,_,rfl,b,a,w,ms,pcs,ts,rfl,hB,g,ha,rk,tab.p,fun r H1 B1 e1 t1=>?_⟩
  have T1:=tab.extP e1 t1
  refine⟨r,_,_,_,rfl,B1,jC5 g rk,T1.w,fun H2 e2 t2=>?_⟩
  refine⟨rfl,?_⟩
  have ed:decide (natV (wk (chs ((ts.length:Int)).toNat (nmd ts ms) (pick ts pcs (lkP pcs ts))) 0).length=V.int 0)=decide (wkN ms pcs ts=[]):=by
   rw[aV]
   refine decide_eq_decide.mpr ⟨fun z=>?_,fun z=>?_⟩
   ·have:((wkN ms pcs ts).length:Int)=0:=V.int.inj z
    exact dF (by lia)
   ·show natV (wkN ms pcs ts).length=_
    rw[z]
    rfl
  rw[ed]
  exact q H2 ((Ex2.ofP e1).trans (Ex2.ofW e2)) (T1.extW e2 t2)
def btsN (n m:Nat):List Int:=((List.range n).filter fun t=>m.testBit t).map fun (t:Nat)=>(t:Int)
theorem jD1 (p:Nat->Bool):∀ (d b:Nat),(∀ t,b<=t->p t=false)->(List.range (b+d)).filter p=(List.range b).filter p
 | 0,_,_=>rfl
 | d+1,b,h=>by
  rw[show b+(d+1)=(b+d)+1 by lia,fo,bE,jD1 p d b h,cg,ao (by rw[h _ (by lia)]; exact aq),fq,aZ]
theorem jQP {m a b:Nat}(ha:m<2 ^ a)(hb:m<2 ^ b):btsN a m=btsN b m:=by
 have f:∀ c,m<2 ^ c->∀ t,c<=t->m.testBit t=false:=fun c hc t ht=>gw (aO hc (bQ (by decide) ht))
 unfold btsN
 congr 1
 rcases Nat.le_total a b with h | h
 ·obtain⟨d,rfl⟩:∃ d,b=a+d:=⟨b - a,by lia⟩
  exact(jD1 _ d a (f a ha)).symm
 ·obtain⟨d,rfl⟩:∃ d,a=b+d:=⟨a - b,by lia⟩
  exact jD1 _ d b (f b hb)
theorem jU0 (m:Nat):m<2 ^ Builtin.Int.intBits (m:Int):=by
 unfold Builtin.Int.intBits
 by_cases h:m=0
 ·subst h
  decide
 ·have:(((m:Nat):Int)==0)=false:=bO.mpr (by lia)
  rw[this,lh]
  exact Nat.lt_log2_self
theorem jU1 {m n:Nat}(h:m<2 ^ n):Builtin.Int.intBits (m:Int)<=n:=by
 unfold Builtin.Int.intBits
 by_cases h0:m=0
 ·subst h0
  exact bi _
 ·have:(((m:Nat):Int)==0)=false:=bO.mpr (by lia)
  rw[this,lh]
  exact(Nat.log2_lt h0).mpr h
theorem jKQ (m t:Nat):decide (V.int (Builtin.bitAnd ((m:Int) / 2 ^ ((t:Nat):Int).toNat) 1)=V.int 1)=m.testBit t:=by
 have e:(m:Int) / 2 ^ ((t:Nat):Int).toNat=((m / 2 ^ t:Nat):Int):=by
  rw[aV]
  push_cast
  rfl
 rw[e,show Builtin.bitAnd ((m / 2 ^ t:Nat):Int) 1=((m / 2 ^ t&&&1:Nat):Int) from jFL _ 1,lg,gy,bV,bA,bA]
 constructor
 ·intro h
  have:=V.int.inj h
  lia
 ·intro h
  rw[h]
  rfl
theorem jKP (n m:Nat):Ris (n:Int) (btsN n m):=by
 unfold btsN
 refine⟨bM.mpr ((gx.filter _).imp fun h=>by lia),fun z hz=>?_⟩
 obtain⟨t,ht,rfl⟩:=aW.mp hz
 have:=bG.mp (ba.mp ht).1
 lia
abbrev jN4:List Str:=["mask"]
theorem scLotOf:FnScope jN4 ["mask"] (j6 jD9):= {}
def jFT:Sp:=fun vs H Q _=>∃ (m n:Nat),vs=[natV m]/\m<2 ^ n/\n<=64/\∀ r H',H' r=some (.tup ((btsN n m).map V.int))->Ext H H'->Q (.ref r) H'
def jVI (T:Txt mg): { t:TS // JSs (XOf jN4 "lot_of" jD9 P w K mg lv f lw A lu s H0 E) (jC jD9) t} :=
 have nd:=scLotOf.nd
 ⟨_,(jB (jN (jZ jM gD T.tuple (by decide+kernel) (j3 (jR (m:=[none,some 0]) (Nc:=["thing","mask"]) rfl (jA3 gD T.range (j3 (jNY jc ie ig jN8 (jv 0 rfl vC)) j7 jI) jI) rfl (by decide+kernel) (by decide+kernel) (jG (psc:=j6 jD9)) (jF (N:=jN4) rfl rfl (by decide+kernel)) (fun cl C fp s H=>jJ (i:=0) (show (["thing","mask"]:List Str).Nodup by decide+kernel) rfl y9) (fun cl C fp s H=>jB5 (kL qN (kN jHC (kN jML (jv 1 rfl kD) (jv 0 rfl jL)) (je_int)) (je_int) (kI _))) (fun cl C fp s H=>(jv 0 rfl jL)) kE) j7 jE) jE)))⟩
theorem jPS {fd:FuncData}(F:Fun K "lot_of" "lot_of" jD9 f fd)(T:Txt mg):FnOk P w K mg lv CX0 1 f fd ["mask"] jFT:=by
 refine F.ok scLotOf (fun vs H Q E h=>?_) (fun lw A lu s H vs Q E hr h=>?_)
 ·obtain⟨_,_,rfl,_⟩:=h
  rfl
 ·obtain⟨m,n,rfl,hm,hn,q⟩:=h
  refine⟨_,(jVI T).2.h,?_⟩
  have bl:=jU1 hm
  refine⟨_,rfl,rfl,_,rfl,rfl,_,rfl,by lia,by lia,jDY (n:=(Builtin.Int.intBits (m:Int):Int).toNat) (fun σ=>∃ v,σ=[v,some (natV m)]) (outZ (List.range (Builtin.Int.intBits (m:Int):Int).toNat) (fun t=>m.testBit t) natV) (outZ.ok _ _ _) (by rw[aw]; lia) ⟨_,rfl⟩ ?_ ?_⟩
  ·rintro j σ' H' zs hj ⟨v,rfl⟩ e hz S1 S2 yes no
   have e0:(0+(j:Int))=(j:Int):=by lia
   have hg:(List.range (Builtin.Int.intBits (m:Int):Int).toNat)[j]?=some j:=cI hj
   refine⟨_,rfl,_,rfl,_,_,rfl,rfl,by lia,_,_,rfl,rfl,rfl,_,rfl,?_⟩
   show if decide (V.int (Builtin.bitAnd ((m:Int) / 2 ^ (0+(j:Int)).toNat) 1)=V.int 1)=true then _ else _
   rw[e0,jKQ]
   refine ite2 (fun h=>?_) (fun h=>?_)
   ·refine⟨_,rfl,yes _ _ _ ⟨_,rfl⟩ (Ext.refl _) (hz.yes hg h)⟩
   ·exact no _ _ ⟨_,rfl⟩ (Ext.refl _) (hz.no hg (bY.mpr h))
  ·rintro D H' zs hD e nD hz
   have hz:=hz.all (by rw[bR]; exact am _)
   refine⟨D,_,rfl, .inl ⟨SqL.of hD,fun r hr'=>q r _ ?_ ((e.trans ((Ext.refl _).new hr' _)))⟩⟩
   rw[j5,hz]
   have:=jQP (a:=n) hm (jU0 m)
   rw[this]
   unfold btsN
   rw[bL]
   rfl
theorem jGB {H:Hp} :∀ {us:List V}{ws:List (List Int)},LsAt H us ws->TsAt H (ws.map fun x=>Tr.tup (x.map Tr.int)) us
 | [],[],_=>rfl
 | v::us,x::ws,⟨⟨a,e,h⟩,r⟩=>⟨v,us,rfl,⟨a,_,e,h,jO3 x⟩,jGB r⟩
theorem jIS:∀ (ws:List (List Int)),deps (ws.map fun x=>Tr.tup (x.map Tr.int))<=100
 | []=>by show (0:Nat)<=100; decide
 | x::ws=>by
  refine Nat.max_le.mpr ⟨?_,jIS ws⟩
  show deps (x.map Tr.int)+1<=100
  rw[jES]
  decide
theorem jVG (ws:List (List Int)):eqTs (ws.map fun x=>Tr.tup (x.map Tr.int)) []=decide (ws=[]):=by
 cases ws <;> rfl
def lsZ {α:Type}(l:List α)(p:α->Bool)(f:α->List Int):Hp->List V->Nat->Prop:=fun H zs j=>LsAt H zs (((l.take j).filter p).map f)
theorem LsAt.len {H:Hp}{us:List V}{ws:List (List Int)}(h:LsAt H us ws):us.length=ws.length:=All2.len h
theorem lsZ.ok {α:Type}(l:List α)(p:α->Bool)(f:α->List Int):ZOk (lsZ l p f):=⟨fun _=>trivial,fun _ _ _ _ t h=>LsAt.mono t h,fun _ zs j h=>by
 rw[LsAt.len h,af]
 exact bf (bD _ _) (bu _ _)⟩
theorem LsAt.snoc {H:Hp}{us:List V}{ws:List (List Int)}{a:Addr}{x:List Int}(h:LsAt H us ws)(ha:H a=some (.tup (x.map V.int))):LsAt H (us++[.ref a]) (ws++[x]):=All2.snoc h ⟨a,rfl,ha⟩
theorem lsZ.yes {α:Type}{l:List α}{p:α->Bool}{f:α->List Int}{H H':Hp}{zs:List V}{j:Nat}{x:α}{a:Addr}(h:lsZ l p f H zs j)(t:Tups H H')(hx:l[j]?=some x)(hp:p x=true)(ha:H' a=some (.tup ((f x).map V.int))):lsZ l p f H' (zs++[.ref a]) (j+1):=by
 unfold lsZ
 rw[bg,hx,bE,aS]
 have e:((some x).toList.filter p).map f=[f x]:=by simp [hp]
 rw[e]
 exact LsAt.snoc (LsAt.mono t h) ha
theorem lsZ.all {α:Type}{l:List α}{p:α->Bool}{f:α->List Int}{H:Hp}{zs:List V}{n:Nat}(h:lsZ l p f H zs n)(hn:l.length<=n):LsAt H zs ((l.filter p).map f):=by
 unfold lsZ at h
 rw[bP hn] at h
 exact h
structure TT where
 a:Addr
 p:Pos
 q:Str
def ads (L:List TT):List Addr:=L.map TT.a
structure TbS (L:List TT)(H:Hp):Prop where
 nd:(ads L).Nodup
 ok:∀ t∈L,TabOk H t.a t.p t.q
def ExS (S:List Addr)(H H':Hp):Prop:=∀ b o,H b=some o->b∉S->H' b=some o
section
variable {S':List Addr}{L:List TT}{H H' H'':Hp}
theorem ExS.of (e:Ext H H'):ExS S H H':=fun b o h _=>e b o h
theorem ExS.refl:ExS S H H:=fun _ _ h _=>h
theorem ExS.trans (a:ExS S H H')(b:ExS S H' H''):ExS S H H'':=fun c o h n=>b c o (a c o h n) n
theorem ExS.mono (h:∀ x∈S,x∈S')(e:ExS S H H'):ExS S' H H':=fun b o z n=>e b o z fun y=>n (h b y)
theorem ExS.ofT {T:Addr}(e:ExtT T H H')(h:T∈S):ExS S H H':=fun b o z n=>e b o z fun y=>n (y ▸ h)
theorem TbS.ext (t:TbS L H)(e:Ext H H'):TbS L H':=⟨t.nd,fun x hx=>(t.ok x hx).ext e⟩
theorem TbS.off (t:TbS L H){b:Addr}{o:HO}(h:H b=some o)(ho:∀ ps,o≠ .tbl ps:=by intro _ z; cases z):b∉ads L:=fun z=>by
 obtain⟨x,hx,e⟩:=aW.mp z
 exact(t.ok x hx).ne h ho e.symm
theorem TbS.at (t:TbS L H)(e:ExS (ads L) H H'){b:Addr}{o:HO}(h:H b=some o)(ho:∀ ps,o≠ .tbl ps:=by intro _ z; cases z):H' b=some o:=e b o h (t.off h ho)
theorem TbS.tups (t:TbS L H)(e:ExS (ads L) H H'):Tups H H':=fun b xs h=>t.at e h
theorem TbS.sq {K:W.Frag}{a:Addr}{xs:List V}(t:TbS L H)(e:ExS (ads L) H H')(h:SqL K H a xs):SqL K H' a xs:=by
 rcases h with h | h
 ·rcases h with h | ⟨o,h⟩
  ·exact .inl (.inl (t.at e h))
  ·exact .inl (.inr ⟨o,t.at e h⟩)
 ·exact .inr h
theorem TbS.set (t:TbS L H)(hs:∀ s∈S,s∈ads L)(e:ExS S H H')(k:∀ x∈L,x.a∈S->TabOk H' x.a x.p x.q):TbS L H':=⟨t.nd,fun x hx=>by
 by_cases z:x.a∈S
 ·exact k x hx z
 ·rcases t.ok x hx with h | ⟨c,h,h2⟩
  ·exact .inl (e _ _ h z)
  ·exact .inr ⟨c,e _ _ h z,e _ _ h2 fun y=>t.off h2 (by intro _ z; cases z) (hs c y)⟩⟩
theorem TbS.setT (t:TbS L H){x:TT}(hx:x∈L)(e:ExtT x.a H H')(k:TabOk H' x.a x.p x.q):TbS L H':=t.set (S:=[x.a]) (fun s hs=>by rw[aK.mp hs]; exact cn hx) (ExS.ofT e (aK.mpr rfl)) fun y hy hm=>by
 have e1:=aK.mp hm
 have:y=x:=by
  have nd:=t.nd
  obtain⟨i,hi⟩:=bB hy
  obtain⟨j,hj⟩:=bB hx
  have hi':(ads L)[i]?=some x.a:=by unfold ads; rw[aR,hi,<- e1]; rfl
  have hj':(ads L)[j]?=some x.a:=by unfold ads; rw[aR,hj]; rfl
  have li:i<(ads L).length:=(aj.mp hi').1
  have ij:=(eT li nd).mp (hi'.trans hj'.symm)
  rw[ij,hj] at hi
  exact(bq hi).symm
 rw[this]
 exact k
theorem TbS.lst (t:TbS L H){p:Addr}{xs:List V}{o:HO}(hp:H p=some (.lst xs)):TbS L (L2.upd H p o):=by
 have ne:∀ c o,H c=some o->(∀ xs,o≠ .lst xs)->c≠p:=fun c o h n z=>by
  rw[z,hp] at h
  cases h
  exact n _ rfl
 refine⟨t.nd,fun x hx=>?_⟩
 rcases t.ok x hx with h | ⟨c,h,h2⟩
 ·exact .inl (by rw[j8 (ne _ _ h (by intro _ z; cases z))]; exact h)
 ·exact .inr ⟨c,by rw[j8 (ne _ _ h (by intro _ z; cases z))]; exact h,by rw[j8 (ne _ _ h2 (by intro _ z; cases z))]; exact h2⟩
end
def keyL (x:List Int):List Int:=(x.length:Int)::x
def yS (n:Nat):List (List Int):=(List.range (2 ^ n)).map (btsN n)
def leK (a b:List Int):Bool:=!HT.lexLt (keyL b) (keyL a)
def yE (n:Nat):List (List Int):=(yS n).mergeSort leK
theorem jBP (n:Nat):(yE n).Perm (yS n):=kg _ _
theorem jMA (n:Nat):(yE n).Pairwise fun a b=>HT.lexLt (keyL b) (keyL a)=false:=by
 refine(iZ (le:=leK) (fun a b c h1 h2=>?_) (fun a b=>?_) (yS n)).imp fun {a b} h=>by
  unfold leK at h
  exact ck _ |>.mp h
 ·unfold leK at h1 h2 ⊢
  rw[ck] at h1 h2 ⊢
  by_cases z:HT.lexLt (keyL c) (keyL a)=true
  ·by_cases y:HT.lexLt (keyL a) (keyL b)=true
   ·rw[TM.lex_tr z y] at h2
    cases h2
   ·have:=TM.lex_tot (bY.mpr y) h1
    rw[this,h2] at z
    cases z
  ·exact bY.mpr z
 ·unfold leK
  rw[gX,ck,ck]
  by_cases z:HT.lexLt (keyL b) (keyL a)=true
  ·right
   by_cases y:HT.lexLt (keyL a) (keyL b)=true
   ·have:=TM.lex_tr z y
    rw[TM.lex_irr] at this
    cases this
   ·exact bY.mpr y
  ·exact .inl (bY.mpr z)
theorem jEL (l:List (List Int)):(l.map keyL).map List.tail=l:=by
 rw[bL]
 exact List.map_id'' (fun _=>rfl) l
theorem jF5 {n:Nat}{ws:List (List Int)}(p:ws.Perm (yS n))(s:(ws.map keyL).Pairwise fun a b=>HT.lexLt b a=false):ws=yE n:=by
 have:=jKA ((p.trans (jBP n).symm).map keyL) s (bM.mpr (jMA n))
 rw[<- jEL ws,this,jEL]
theorem jQ1 {n:Nat}{x:List Int}(h:x∈yS n):Ris (n:Int) x:=by
 obtain⟨m,_,rfl⟩:=aW.mp h
 exact jKP n m
theorem jBA {n:Nat}{x:List Int}(h:x∈yE n):Ris (n:Int) x:=jQ1 ((jBP n).mem_iff.mp h)
theorem jE3 (n:Nat):(yE n).length=2 ^ n:=by
 rw[(jBP n).length_eq]
 unfold yS
 rw[af,bR]
def inB (y x:List Int):Bool:=y.all fun t=>decide (t∈x)
def yD (pr:List Int->Bool)(acc:List (List Int))(x:List Int):List (List Int):=if (!acc.any fun y=>inB y x)&&pr x then acc++[x] else acc
def kJ (pr:List Int->Bool)(ws:List (List Int)):List (List Int):=ws.foldl (yD pr) []
theorem jB4 {pr:List Int->Bool}{ws:List (List Int)}{i:Nat}{x:List Int}(h:ws[i]?=some x):kJ pr (ws.take (i+1))=yD pr (kJ pr (ws.take i)) x:=by
 unfold kJ
 rw[bg,h,List.foldl_append]
 rfl
theorem jM4 (pr:List Int->Bool)(acc:List (List Int))(x:List Int):(yD pr acc x).length<=acc.length+1:=by
 unfold yD
 split
 ·rw[aH]; exact am _
 ·lia
theorem jAR (pr:List Int->Bool):∀ (ws:List (List Int)) (i:Nat),(kJ pr (ws.take i)).length<=i
 | ws,0=>by rw[ix]; exact am _
 | ws,i+1=>by
  cases h:ws[i]? with
  | none=>
   have:ws.take (i+1)=ws.take i:=by rw[bg,h]; simp
   rw[this]
   exact Nat.le_succ_of_le (jAR pr ws i)
  | some x=>
   rw[jB4 h]
   exact bf (jM4 _ _ _) (Nat.succ_le_succ (jAR pr ws i))
theorem jBH (pr:List Int->Bool):∀ (ws acc:List (List Int)),ws.foldl (yD pr) acc=(ws.filter pr).foldl (yD fun _=>true) acc
 | [],_=>rfl
 | x::ws,acc=>by
  rw[gW,cg]
  cases h:pr x with
  | true=>
   rw[ar rfl,gW,jBH pr ws]
   congr 1
   unfold yD
   rw[h]
  | false=>
   rw[ao aq,jBH pr ws]
   congr 1
   unfold yD
   rw[h,dw]
   rfl
theorem jGG (pr:List Int->Bool)(ws:List (List Int)):kJ pr ws=kJ (fun _=>true) (ws.filter pr):=jBH pr ws []
theorem jAQ {pr:List Int->Bool} :∀ {ws acc:List (List Int)}{x:List Int},x∈ws.foldl (yD pr) acc->x∈acc\/x∈ws
 | [],_,_,h=> .inl h
 | y::ws,acc,x,h=>by
  rcases jAQ (ws:=ws) h with z | z
  ·unfold yD at z
   split at z
   ·rcases aM.mp z with z | z
    ·exact .inl z
    ·exact .inr (aK.mp z ▸ ai ..)
   ·exact .inl z
  ·exact .inr (ah _ z)
abbrev jIO:List Str:=["lot","other"]
theorem scWithin:FnScope jIO ["lot","other"] (j6 jB9):= {}
def jBN:Sp:=fun vs H Q _=>∃ (a b:Addr) (xs ys:List Int),vs=[.ref a, .ref b]/\H a=some (.tup (xs.map V.int))/\H b=some (.tup (ys.map V.int))/\xs.length<=1000/\∀ H',Ext H H'->Q (.bl (inB xs ys)) H'
def jRX (T:Txt mg): { t:TS // JSs (XOf jIO "is_within" jB9 P w K mg lv f lw A lu s H0 E) (jC jB9) t} :=
 have nd:=scWithin.nd
 ⟨_,(jB (jN (jH (jAV rfl) gD T.all (by decide+kernel) (j3 (jR (m:=[none,some 1]) (Nc:=["thing","other"]) rfl (qC (jv 0 rfl vL)) rfl (by decide+kernel) (by decide+kernel) (jG (psc:=j6 jB9)) (jF (N:=jIO) rfl rfl (by decide+kernel)) (fun cl C fp s H=>jJ (i:=0) (show (["thing","other"]:List Str).Nodup by decide+kernel) rfl y9) (fun cl C fp s H=>kG) (fun cl C fp s H=>(yR jCW (jv 0 rfl jL) (jv 1 rfl kD) jBD)) y6) j7 jE) jE)))⟩
theorem jMQ {fd:FuncData}(F:Fun K "is_within" "is_within" jB9 f fd)(T:Txt mg):FnOk P w K mg lv CX0 1 f fd ["lot","other"] jBN:=by
 refine F.ok scWithin (fun vs H Q E h=>?_) (fun lw A lu s H vs Q E hr h=>?_)
 ·obtain⟨_,_,_,_,rfl,_⟩:=h
  rfl
 ·obtain⟨a,b,xs,ys,rfl,ha,hb,hl,q⟩:=h
  refine⟨_,(jRX T).2.h,?_⟩
  refine⟨_,rfl,a,rfl,⟨_,SqT.of ha⟩,jO5 (tp:=true) ha hb hl rfl fun D H3 h3 e3 n3=>?_⟩
  refine⟨D,_,rfl,SqL.of h3,?_⟩
  rw[jW6]
  exact q H3 e3
end Eo
namespace L2
open PySem PySem.Spec PyProof.Rows
theorem FunC.okZ {P:PySem.Program}{w:PySem.World}{K:W.Frag}{mg:PySem.Str->Option PySem.Value}{lv:PySem.Heap}{Z:PySem.Shared->Hp->Prop}{x qual:PySem.Str}{st:PySem.Stmt}{f c0:PySem.Addr}{fd:PySem.FuncData}{N ps:List PySem.Str}{k:Nat}{sp:Sp}(F:FunC K x qual st f fd c0)(S:FnScope N ps (j6 st))(len:∀ vs H Q E,sp vs H Q E->vs.length=ps.length)
  (hbody:∀ (A:PySem.Around) (lu:List PySem.Env) (s:PySem.Shared) (H:Hp) (vs:List V) (Q:VK) (E:XK),Room k (A.deeper (envOfC qual (j6 st) s.heap.objs.size f (.ref c0)))->Z s H->sp vs H Q E->
   ∃ t,PSs (cxOf CX0 P w K mg lv N qual (j6 st) f (.ref c0) A lu s H E).nox (jC st) t/\t { nx:=fun _ H'=>Q .non H',rt:=Q} (y0 N vs) H):FnZ P w K mg lv CX0 Z (k+1) f fd ps sp:=by
 obtain⟨oc,od,kV,doc,pm,an,ct,osl,rfl,lk,hcd⟩:=F.ex
 refine jRP lk hcd S len fun A lu s H vs Q E hr hz hsp=>?_
 obtain⟨t,ht,hq⟩:=hbody A lu s H vs Q E hr hz hsp
 exact⟨t,ht.nox,hq⟩
end L2
namespace Eo
open PySem L2
def lamK (s:Stmt):Arguments×Expr×Scope×Pos:=match (jC s).getD 1 (.Pass ⟨0,0,0,0⟩) with
 | .For _ (.Call _ _ [⟨_, .Lambda a b sc p,_⟩] _) _ _ _=>(a,b,sc,p)
 | _=>(y8 s, .Constant .none 0 ⟨0,0,0,0⟩,j6 s,⟨0,0,0,0⟩)
abbrev keyA:Arguments:=(lamK yT).1
abbrev keyB:Expr:=(lamK yT).2.1
abbrev keySc:Scope:=(lamK yT).2.2.1
abbrev keyPo:Pos:=(lamK yT).2.2.2
abbrev nKey:List Str:=["one"]
theorem scKey:NScope nKey ["one"] [] keySc:=⟨rfl,rfl,rfl,by decide+kernel,rfl,by decide+kernel,by decide+kernel,fun x h=>by
  have hl:∀ y∈keySc.names,y.2≠ .free:=by decide+kernel
  exact absurd rfl (hl _ (bF h)),by decide+kernel⟩
abbrev qKey:Str:= "least_lots.<locals>.<lambda>"
def spKey:Sp:=fun vs H Q _=>∃ (a:Addr) (lot:List Int),vs=[.ref a]/\H a=some (.tup (lot.map V.int))/\∀ r H',H' r=some (.tup [.int (lot.length:Int), .ref a])->Ext H H'->Q (.ref r) H'
def zhK (a c:Addr):Hp->Prop:=fun H=>H a=some (.ext (nlP qKey keyA keyB keySc [] a c))/\H c=some (.ext (ncP qKey c))
theorem zhK.ext (a c:Addr)(H H':Hp)(e:Ext H H')(h:zhK a c H):zhK a c H':=⟨e _ _ h.1,e _ _ h.2⟩
section
variable {fO:Addr}{fdO:FuncData}{HI:Hp->Prop}{n:Nat}{pr:List Int->Bool}
def jQ5 (T:Txt mg): { t:TE // JE (cxN P w K mg lv nKey qKey keySc a (.ref c) cl A lu s H0) keyB t} :=⟨_,(y4 (j3 (jH jY gl_n T.len (by decide+kernel) (j3 (jv 0 rfl vis_n) j7 j4) j4) (j3 (jv 0 rfl vis_n) j7 j4) jI))⟩
theorem jV9 (T:Txt mg):Callee P w K mg lv ZT (zhK a c) 1 a spKey:=by
 refine Callee.imp (jOC (fv:=[]) scKey (fun vs H Q E h=>?_) (fun pm ctv us hl=>?_) fun A lu s H vs Q E hr h=>?_) fun s H _=>⟨⟨fun x y c h=>(by cases h),fun x c h=>(by cases h)⟩,rfl,fun i x v h=>(by cases h)⟩
 ·obtain⟨_,_,rfl,_⟩:=h
  rfl
 ·match us,hl with
  | [_],_=>rfl
 ·obtain⟨a,lot,rfl,ha,q⟩:=h
  refine⟨_,(jQ5 T).2.h,?_⟩
  refine⟨_,rfl,a,_,rfl, .inr (SqT.of ha),_,rfl,by show (2:Nat)<=_; decide,fun r H' d e=>?_⟩
  rw[af] at d
  exact q r H' d e
abbrev TabK (H:Hp)(tb:Addr):Prop:=TabOk H tb keyPo qKey
def jF2 (S:List Addr)(HI:Hp->Prop)(n:Nat)(pr:List Int->Bool):Sp:=fun vs H Q _=>∃ (a:Addr) (lot:List Int),vs=[.ref a]/\H a=some (.tup (lot.map V.int))/\Ris (n:Int) lot/\HI H/\∀ H',ExS S H H'->HI H'->Q (.bl (pr lot)) H'
structure HIOk (S:List Addr)(HI:Hp->Prop):Prop where
 ext:∀ {H H'},Ext H H'->HI H->HI H'
 off:∀ {H b o},HI H->H b=some o->(∀ ps,o≠ .tbl ps)->b∉S
 lst:∀ {H' H p xs ys},HI H'->H' p=none->HI H->H p=some (.lst xs)->HI (L2.upd H p (.lst ys))
def jII (j tb:Addr)(S:List Addr)(HI:Hp->Prop)(n:Nat)(pr:List Int->Bool):Sp:=fun vs H Q _=>vs=[.int (n:Int), .ref j]/\n<=16/\TabK H tb/\(∀ H',ExtT tb H H'->TabK H' tb->HI H')/\tb∉S/\
 ∀ l us H',H' l=some (.lst us)->LsAt H' us (kJ pr (yE n))->ExS (tb::S) H H'->HI H'->TabK H' tb->H l=none->Q (.ref l) H'
abbrev jK5:List Str:=["things","holds","least","lot"]
theorem scLeast:FnScope jK5 ["things","holds"] (j6 yT):= {}
abbrev jIA (P:Program)(w:World)(K:W.Frag)(mg:Str->Option Value)(lv:Heap)(f c0:Addr)(A:Around)(lu:List Env)(s:Shared)(H:Hp)(E:XK):Cx:=XOf jK5 "least_lots" yT P w K mg lv f (.ref c0) A lu s H E
def jFC (T:Txt mg)(CW:Can P w K mg lv "is_within" 1 fW fdW ["lot","other"] jBN)(CJ:Callee P w K mg lv Z zh 8 j (jF2 S HI n pr))(zs:ZSt Z)(hz:Z s H0)(hr:Room 8 (jIA P w K mg lv f c0 A lu s H0 E).A): { t:TS // JSs (jIA P w K mg lv f c0 A lu s H0 E) (jCG ((jC yT).getD 1 (.Pass ⟨0,0,0,0⟩))) t} :=
 have nd:=scLeast.nd
 ⟨_,(jB (yU (jt_w (jRK (jCI (qF (jH (jBI rfl) gD T.any (by decide+kernel) (j3 (jR (m:=[none,some 3]) (Nc:=["shorter","lot"]) rfl (kY (jv 2 rfl vL)) rfl (by decide+kernel) (by decide+kernel) (jG (psc:=j6 yT)) (jF (N:=jK5) rfl rfl (by decide+kernel)) (fun cl C fp s H=>jJ (i:=0) (show (["shorter","lot"]:List Str).Nodup by decide+kernel) rfl y9) (fun cl C fp s H=>kG) (fun cl C fp s H=>(CW.je (hr.mono (by decide)) gl_b (j3 (jv 0 rfl jL) (j3 (jv 1 rfl kD) j7 j4) j4) j4)) y6) j7 jE) jE) yW)) (jNP (qF (jKG (j:=1) CJ hr zs hz rfl rfl vL (j3 (jv 3 rfl vC) j7 j4) j4) yW)))) (jB (jAM (je_bm bK bW bX jA2 (jv 2 rfl vL) (j3 (jv 3 rfl vC) j7 j4) j4) jU)) kU))⟩
def jVJ (T:Txt mg)(CH:PySem.W.CodeHd lv c0 tb)(BM:qJ lv mg)(CO:Can P w K mg lv "lot_of" 1 fO fdO ["mask"] jFT)(CW:Can P w K mg lv "is_within" 1 fW fdW ["lot","other"] jBN)(CJ:Callee P w K mg lv Z zh 8 j (jF2 S HI n pr))(zs:ZSt Z)(hz:Z s H0)(hr:Room 8 (jIA P w K mg lv f c0 A lu s H0 E).A): { t:TS // JSs (jIA P w K mg lv f c0 A lu s H0 E) (jC yT) t} :=
 have nd:=scLeast.nd
 ⟨_,(jD (jT (i:=2) nd rfl lL (yQ j7) jBX) (jD (qB cf rfl (kY (jHL (jHY keyP_ok (fun q c=>jV9 T) zhK.ext (hr.mono (by decide))) gD T.sorted (by decide+kernel) (j3 (jR (m:=[none]) (Nc:=["mask"]) rfl (jA3 gD T.range (j3 (kN jFA (je_int) (jv 0 rfl vL)) j7 yA) yA) rfl (by decide+kernel) (by decide+kernel) (jG (psc:=j6 yT)) (jF (N:=jK5) rfl rfl (by decide+kernel)) (fun cl C fp s H=>jJ (i:=0) (show (["mask"]:List Str).Nodup by decide+kernel) rfl y9) (fun cl C fp s H=>kG) (fun cl C fp s H=>(CO.je (hr.mono (by decide)) gl_b (j3 (jv 0 rfl jL) j7 j4) j4)) kE) j7 jE) (jNS (jKE rfl CH BM (fun y hy hf=>absurd hf (by revert y; decide+kernel)) rfl) jRM) jE)) (jJ (i:=3) nd rfl loc_c) (jFC T CW CJ zs hz hr).2 kE) (jB (jN (jv 2 rfl vL)))))⟩
def lotV (H:Hp):V->List Int
 | .ref a=>match H a with
  | some (.tup xs)=>xs.map fun v=>match v with
   | .int i=>i
   | _=>0
  | _=> []
 | _=> []
theorem jNG {H:Hp}{a:Addr}{x:List Int}(h:H a=some (.tup (x.map V.int))):lotV H (.ref a)=x:=by
 dsimp only [lotV]
 rw[h]
 show (x.map V.int).map _=x
 rw[bL]
 exact List.map_id'' (fun _=>rfl) x
theorem jNF {H:Hp} :∀ {us:List V}{ws:List (List Int)},LsAt H us ws->us.map (lotV H)=ws/\∀ v∈us,∃ a,v= .ref a/\H a=some (.tup ((lotV H v).map V.int))
 | [],[],_=>⟨rfl,fun v h=>by cases h⟩
 | v::us,x::ws,⟨⟨a,e,h⟩,r⟩=>by
  obtain⟨i1,i2⟩:=jNF r
  subst e
  refine⟨by rw[br,jNG h,i1],fun v hv=>?_⟩
  rcases aF.mp hv with z | z
  ·rw[z,jNG h]
   exact⟨a,rfl,h⟩
  ·exact i2 v z
theorem jNE {H H':Hp} :∀ {us:List V},(∀ v∈us,∃ a,v= .ref a/\H' a=some (.tup ((lotV H v).map V.int)))->LsAt H' us (us.map (lotV H))
 | [],_=>trivial
 | v::us,h=>⟨h v (ai ..),jNE fun w hw=>h w (ah _ hw)⟩
theorem jL9 (T:Txt mg)(CW:Can P w K mg lv "is_within" 1 fW fdW ["lot","other"] jBN)(CJ:Callee P w K mg lv Z zh 8 j (jF2 S HI n pr))(zs:ZSt Z)(hz:Z s H0)(hr:Room 8 (jIA P w K mg lv f c0 A lu s H0 E).A)(hi:HIOk S HI)(hzh:∀ H,HI H->zh H)
  {D:Ends}{H Hs:Hp}{l q:Addr}{x:List Int}{us:List V}{acc:List (List Int)}(Is:HI Hs) (Ns:Hs l=none) (hI:HI H) (hl:H l=some (.lst us)) (hu:LsAt H us acc) (ul:acc.length<=65536) (hq:H q=some (.tup (x.map V.int))) (rx:Ris (n:Int) x) (ra:∀ y∈acc,y.length<=1000)
  (nx:∀ H' us',HI H'->(∀ b o,H b=some o->b∉S->b≠l->H' b=some o)->H' l=some (.lst us')->LsAt H' us' (yD pr acc x)->D.nx [some (.int (n:Int)),some (.ref j),some (.ref l),some (.ref q)] H'):
  (jFC T CW CJ zs hz hr).1 D [some (.int (n:Int)),some (.ref j),some (.ref l),some (.ref q)] H:=by
 have ulen:=LsAt.len hu
 refine⟨_,rfl,l,rfl,⟨_,SqL.of hl⟩,jA9 (xs:=us) (fun σ=>∃ v1,σ=[v1,some (.ref q)]) (mapZ acc fun y=>V.bl (inB y x)) (mapZ.ok _ _) hl (by rw[aw]; lia) ⟨_,rfl⟩ ?_ ?_⟩
 ·rintro i v σ' H' zs hv ⟨v1,rfl⟩ e hz' S1 S2 yes no
  obtain⟨y,hy,a,rfl,ha⟩:=All2.get' hu hv
  dsimp only [kO,yJ]
  rw[ar rfl]
  exact⟨_,rfl,_,rfl,a,q,y,x,rfl,e _ _ ha,e _ _ hq,ra y (aJ hy),fun H'' e'=>yes _ _ _ ⟨_,rfl⟩ e' (hz'.yes hy)⟩
 ·rintro D' H1 zs h1 e1 n1 hz'
  have hz':=hz'.all (by rw[ulen]; exact am _)
  have hz2:zs=(acc.map fun y=>inB y x).map V.bl:=by rw[hz',bL]; rfl
  rw[hz2] at h1
  refine⟨D',_,rfl,SqL.of h1,_,rfl,?_⟩
  have ea:(acc.map fun y=>inB y x).any id=acc.any fun y=>inB y x:=by rw[ic]; rfl
  rw[ea]
  have I1:=hi.ext e1 hI
  refine ite2 (fun c1=>?_) (fun c1=>?_)
  ·refine⟨rfl,_,rfl,hzh _ I1,q,x,rfl,e1 _ _ hq,rx,I1,fun H2 e2 I2=>⟨_,rfl,?_⟩⟩
   have k2:∀ b o,H1 b=some o->(∀ ps,o≠ .tbl ps)->H2 b=some o:=fun b o h t=>e2 b o h (hi.off I1 h t)
   have tu:Tups H H2:=fun b xs h=>k2 _ _ (e1 _ _ h) (by intro _ z; cases z)
   have hl2:=k2 _ _ (e1 _ _ hl) (by intro _ z; cases z)
   have kk:∀ b o,H b=some o->b∉S->b≠l->H2 b=some o:=fun b o h ns _=>e2 _ _ (e1 _ _ h) ns
   refine ite2 (fun c2=>?_) (fun c2=>?_)
   ·have hs:yD pr acc x=acc++[x]:=by
     unfold yD
     rw[ar (by rw[c1,c2]; rfl)]
    refine⟨_,rfl, .inl ⟨rfl,_,SqL.of hl2⟩,_,rfl,l,us,_,rfl,rfl,hl2,by rw[aw]; lia,?_⟩
    have t2:=Tups.upd hl2 (.lst (us++[.ref q]))
    refine nx _ _ (hi.lst Is Ns I2 hl2) (fun b o h ns nl=>by rw[j8 nl]; exact kk b o h ns nl) j5 ?_
    rw[hs]
    exact LsAt.snoc (LsAt.mono t2 (LsAt.mono tu hu)) (t2 _ _ (tu _ _ hq))
   ·have hs:yD pr acc x=acc:=by
     unfold yD
     rw[ao (by rw[bI]; exact fun z=>c2 z.2)]
    exact nx H2 us I2 kk hl2 (by rw[hs]; exact LsAt.mono tu hu)
  ·have hs:yD pr acc x=acc:=by
    unfold yD
    rw[ao (by rw[bI]; exact fun z=>c1 z.1)]
   exact iteF (nx H1 us I1 (fun b o h _ _=>e1 _ _ h) (e1 _ _ hl) (by rw[hs]; exact LsAt.mono e1.tups hu))
theorem jK1 {fd:FuncData}(F:FunC K "least_lots" "least_lots" yT f fd c0)(T:Txt mg)(CH:PySem.W.CodeHd lv c0 tb)(BM:qJ lv mg)(CO:Can P w K mg lv "lot_of" 1 fO fdO ["mask"] jFT)(CW:Can P w K mg lv "is_within" 1 fW fdW ["lot","other"] jBN)(CJ:Callee P w K mg lv Z zh 8 j (jF2 S HI n pr))(zs:ZSt Z)(hi:HIOk S HI)(hzh:∀ H,HI H->zh H):FnZ P w K mg lv CX0 Z 9 f fd ["things","holds"] (jII j tb S HI n pr):=by
 refine F.okZ scLeast (fun vs H Q E h=>?_) (fun A lu s H vs Q E hr hz h=>?_)
 ·obtain⟨rfl,_⟩:=h
  rfl
 ·obtain⟨rfl,n16,tab,hI0,ntb,q⟩:=h
  refine⟨_,(jVJ T CH BM CO CW CJ zs hz hr).2.h,?_⟩
  have p16:2 ^ n<=2 ^ 16:=bQ (by decide) n16
  have p16':(2 ^ 16:Nat)=65536:=by decide
  refine⟨by show (0:Nat)<=_; decide,fun l H1 d1 e1 n1=>?_⟩
  have e2n:(1:Int)*2 ^ ((n:Nat):Int).toNat=((2 ^ n:Nat):Int):=by rw[Int.one_mul,aV]; push_cast; rfl
  refine⟨_,rfl,_,_,rfl,rfl,⟨by lia,by lia,by lia⟩,?_⟩
  have p0:=dJ n
  generalize hN:2 ^ n=N at p16 p0 e2n
  refine⟨((N:Nat):Int),by rw[<- e2n],by lia,by lia,?_⟩
  subst hN
  refine jDY (n:=((2 ^ n:Nat):Int).toNat) (fun σ=>∃ v,σ=[v]) (lsZ (List.range (2 ^ n)) (fun _=>true) (btsN n)) (lsZ.ok _ _ _) (by rw[aw,aV]; lia) ⟨_,rfl⟩ ?_ ?_
  ·rintro i σ' H' zs' hi' ⟨v,rfl⟩ e hz' S1 S2 yes no
   rw[aV] at hi'
   dsimp only [kO,yJ]
   rw[ar rfl]
   have e0:(0+(i:Int))=(i:Int):=by lia
   refine⟨_,rfl,i,n,by rw[e0]; rfl,hi',by lia,fun r H'' d e'=>?_⟩
   exact yes _ _ _ ⟨_,rfl⟩ e' (hz'.yes e'.tups (cI hi') rfl d)
  ·rintro D H2 us h2 e2 n2 hz'
   have hu:LsAt H2 us (yS n):=by
    have:=hz'.all (by rw[bR,aV]; exact am _)
    rw[ki.mpr (fun _ _=>rfl)] at this
    exact this
   have E2:=e1.trans e2
   refine⟨tab.ext E2,fun a c H3 k1 k2 k3 e3 na=>?_⟩
   have T2:TabK H2 tb:=tab.ext E2
   have T3:TabK H3 tb:= .inr ⟨c,k3,k2⟩
   have tu3:Tups H2 H3:=fun b xs h=>e3.at T2 h
   have u3:=LsAt.mono tu3 hu
   obtain⟨m1,m2⟩:=jNF u3
   refine⟨D,us,a,c,fun v=>keyL (lotV H3 v),rfl,rfl,SqL.of (e3.at T2 h2),⟨k1,k2⟩,fun v hv=>let ⟨x,e,_⟩:=m2 v hv; ⟨x,e⟩,fun v hv H4 Q4 e4 k4=>?_,fun l2 us' H4 nl pm pw e4 h4=>?_⟩
   ·obtain⟨x,rfl,hx⟩:=m2 v hv
    exact⟨x,_,rfl,e4 _ _ hx,fun r H5 d e=>k4 _ _ ⟨r,x,_,_,rfl,d,e _ _ (e4 _ _ hx),rfl⟩ e⟩
   ·have m3:∀ v∈us',∃ a,v= .ref a/\H4 a=some (.tup ((lotV H3 v).map V.int)):=fun v hv=>by
     obtain⟨x,e,hx⟩:=m2 v (pm.mem_iff.mp hv)
     exact⟨x,e,e4 _ _ hx⟩
    have w4:LsAt H4 us' (yE n):=by
     have p1:(us'.map (lotV H3)).Perm (yS n):=by rw[<- m1]; exact pm.map _
     have p2:((us'.map (lotV H3)).map keyL).Pairwise fun a b=>HT.lexLt b a=false:=by
      rw[bM,bM]
      exact pw
     rw[<- jF5 p1 p2]
     exact jNE m3
    have d4:H4 l=some (.lst []):=e4 _ _ (e3.at T2 (e2 _ _ d1))
    have ne:l2≠l:=fun z=>by rw[z,e3.at T2 (e2 _ _ d1)] at nl; cases nl
    have I3:HI H3:=hI0 H3 (fun b o h ns=>e3 b o (E2 _ _ h) ns) T3
    have I4:=hi.ext e4 I3
    refine⟨l2,rfl,⟨_,SqL.of h4⟩,jBT (xs:=us') (fun i σ H'=>(∃ v3,σ=[some (.int (n:Int)),some (.ref j),some (.ref l),v3])/\HI H'/\(∀ b o,H4 b=some o->b∉S->b≠l->H' b=some o)/\∃ zs,H' l=some (.lst zs)/\LsAt H' zs (kJ pr ((yE n).take i))) ⟨⟨_,rfl⟩,I4,fun b o h _ _=>h,[],d4,trivial⟩ (fun i σ H' _ ⟨_,_,k,_⟩=>SqL.of (k _ _ h4 (hi.off I4 h4 (by intro _ z; cases z)) ne)) ?_ ?_⟩
    ·rintro i v σ H' hv ⟨⟨v3,rfl⟩,I',k',zs',z1,z2⟩
     obtain⟨x,hx,qa,rfl,hqa⟩:=All2.get' w4 hv
     have xs:=aJ hx
     have hq':H' qa=some (.tup (x.map V.int)):=k' _ _ hqa (hi.off I4 hqa (by intro _ z; cases z)) fun z=>by rw[z,d4] at hqa; cases hqa
     have il:i<us'.length:=(aj.mp hv).1
     have sl:=jE3 n
     have wl:=LsAt.len w4
     have al:=jAR pr (yE n) i
     refine jL9 T CW CJ zs hz hr hi hzh (hI0 H (fun b o h _=>h) tab) n1 I' z1 z2 (by lia) hq' (jBA xs) (fun y hy=>?_) fun H'' us'' I'' k'' z3 z4=>⟨⟨_,rfl⟩,I'',fun b o h ns nl=>k'' b o (k' b o h ns nl) ns nl,us'',z3,?_⟩
     ·rcases jAQ hy with z | z
      ·cases z
      ·have r:=jBA (cw z)
       have:=jBC y 0 n r.ris r.bnd
       lia
     ·rw[jB4 hx]
      exact z4
    ·rintro σ H' ⟨⟨v3,rfl⟩,I',k',zs',z1,z2⟩
     have wl:=LsAt.len w4
     rw[wl,bw] at z2
     refine⟨_,rfl,q l zs' H' z1 z2 (fun b o h ns=>?_) I' ?_ n1⟩
     ·have ns2:b∉S:=fun z=>ns (ah _ z)
      have nt:b≠tb:=fun z=>ns (z ▸ ai ..)
      exact k' b o (e4 _ _ (e3 b o (E2 _ _ h) nt)) ns2 fun z=>by rw[z,n1] at h; cases h
     ·have t4:H4 tb=some (.tbl (onePs keyPo c)):=e4 _ _ k3
      refine .inr ⟨c,k' _ _ t4 ntb fun z=>(by rw[z,d4] at t4; cases t4),k' _ _ (e4 _ _ k2) (hi.off I4 (e4 _ _ k2) (by intro _ z; cases z)) fun z=>?_⟩
      have:=e4 _ _ k2
      rw[z,d4] at this
      cases this
end
def jDH (s:Stmt):Arguments×Expr×Scope×Pos:=match (jC s).getD 1 (.Pass ⟨0,0,0,0⟩) with
 | .Return (some (.Call _ [_, .Lambda a b sc p] _ _)) _=>(a,b,sc,p)
 | _=>(y8 s, .Constant .none 0 ⟨0,0,0,0⟩,j6 s,⟨0,0,0,0⟩)
abbrev barA':Arguments:=(jDH yH).1
abbrev barB':Expr:=(jDH yH).2.1
abbrev barSc:Scope:=(jDH yH).2.2.1
abbrev barPo:Pos:=(jDH yH).2.2.2
abbrev nBarL:List Str:=["lot","box"]
theorem jUI:NScope nBarL ["lot"] ["box"] barSc:=⟨rfl,rfl,rfl,by decide+kernel,rfl,by decide+kernel,by decide+kernel,fun x h=>by
  have hl:∀ y∈barSc.names,y.2= .free->y.1= "box" :=by decide+kernel
  rw[show x=_ from hl _ (bF h) rfl]
  exact ai .., by decide+kernel⟩
abbrev qBarL:Str:= "least_bars.<locals>.<lambda>"
structure BI where
 a:Addr
 c:Addr
 b:Addr
 w:Int
 ms:List Int
 pcs:List (List Int×Int)
 g:Good 16 32 w ms pcs
abbrev barP (ms:List Int)(pcs:List (List Int×Int))(x:List Int):Bool:=decide (wkN ms pcs x=[])
def zhB (cl:List (Str×Addr))(i:BI):Hp->Prop:=fun H=>H i.a=some (.ext (nlP qBarL barA' barB' barSc cl i.a i.c))/\H i.c=some (.ext (ncP qBarL i.c))
def HIb (tb1 tb2:Addr)(cl:List (Str×Addr))(i:BI):Hp->Prop:=fun H=>zhB cl i H/\BoxAt H i.b i.w i.ms i.pcs/\Tb2 H tb1 tb2
theorem TabOk.lst {H:Hp}{T p:Addr}{pos:Pos}{q:Str}{xs:List V}{o:HO}(t:TabOk H T pos q)(hp:H p=some (.lst xs)):TabOk (L2.upd H p o) T pos q:=by
 have ne:∀ c o,H c=some o->(∀ xs,o≠ .lst xs)->c≠p:=fun c o h n z=>by
  rw[z,hp] at h
  cases h
  exact n _ rfl
 rcases t with h | ⟨c,h,h2⟩
 ·exact .inl (by rw[j8 (ne _ _ h (by intro _ z; cases z))]; exact h)
 ·exact .inr ⟨c,by rw[j8 (ne _ _ h (by intro _ z; cases z))]; exact h,by rw[j8 (ne _ _ h2 (by intro _ z; cases z))]; exact h2⟩
theorem HIb.ok (tb1 tb2:Addr)(cl:List (Str×Addr))(i:BI):HIOk [tb1,tb2] (HIb tb1 tb2 cl i) where
 ext e h:=⟨⟨e _ _ h.1.1,e _ _ h.1.2⟩,h.2.1.mono e.tups,h.2.2.ext e⟩
 off h e t z:=by
  rcases aF.mp z with z | z
  ·exact h.2.2.p.ne e t z
  ·exact h.2.2.w.ne e t (aK.mp z)
 lst _ _ h hp:=⟨⟨by rw[j8 (fun z=>by have:=h.1.1; rw[z,hp] at this; cases this)]; exact h.1.1,by rw[j8 (fun z=>by have:=h.1.2; rw[z,hp] at this; cases this)]; exact h.1.2⟩,h.2.1.mono (Tups.upd hp _),⟨TabOk.lst h.2.2.p hp,TabOk.lst h.2.2.w hp,h.2.2.ne⟩⟩
def jQS (CB:Can P w K mg lv "is_bar" 7 fB fdB ["box","lot"] (spBar tb1 tb2))(hr:Room 7 (cxN P w K mg lv nBarL qBarL barSc a (.ref c) cl A lu s H0).A): { t:TE // JE (cxN P w K mg lv nBarL qBarL barSc a (.ref c) cl A lu s H0) barB' t} :=⟨_,(CB.je hr gl_n (j3 (jv 1 rfl (jQV (by decide+kernel))) (j3 (jv 0 rfl vis_n) j7 j4) j4) j4)⟩
theorem jT9 (CB:Can P w K mg lv "is_bar" 7 fB fdB ["box","lot"] (spBar tb1 tb2))(cl:List (Str×Addr))(i:BI):Callee P w K mg lv (ZC cl ["box"] [.ref i.b]) (zhB cl i) 8 i.a (jF2 [tb1,tb2] (HIb tb1 tb2 cl i) i.w.toNat (barP i.ms i.pcs)):=by
 refine jOC (fv:=[.ref i.b]) jUI (fun vs H Q E h=>?_) (fun pm ctv us hl=>?_) fun A lu s H vs Q E hr h=>?_
 ·obtain⟨_,_,rfl,_⟩:=h
  rfl
 ·match us,hl with
  | [_],_=>rfl
 ·obtain⟨x,lot,rfl,hx,rk,hI,q⟩:=h
  refine⟨_,(jQS CB hr).2.h,?_⟩
  have w0:=i.g.w0
  have rw':Ris i.w lot:=⟨rk.ris,fun z hz=>by have:=rk.bnd z hz; lia⟩
  refine⟨_,rfl,_,rfl,i.b,x,i.w,i.ms,i.pcs,lot,rfl,hI.2.1,i.g,hx,rw',hI.2.2,fun H' e t=>?_⟩
  refine q H' (fun b o h n=>e b o h (fun z=>n (z ▸ ai ..)) fun z=>n (z ▸ ah _ (ai ..))) ⟨⟨e.at hI.2.2 hI.1.1,e.at hI.2.2 hI.1.2⟩,hI.2.1.mono (e.tups hI.2.2),t⟩
abbrev jK6:List Str:=["box"]
theorem scLBars:FnScope jK6 ["box"] (j6 yH):= {}
theorem fsBL:∀ x∈(["box"]:List Str),barSc.names.lookup x=some .free:=by decide+kernel
theorem jVY:FsAt (XOf jK6 "least_bars" yH P w K mg lv f (.ref c0) A lu s H0 E) ["box"] [0]:=⟨rfl,fun k x h=>by
 match k,h with
 | 0,h=>
  cases h
  exact⟨0,rfl,rfl, .inl (show (j6 yH).names.lookup (("box" :String):Str)=some .cell by decide+kernel)⟩
 | k+1,h=>cases h⟩
abbrev tP (tb:Addr):TT:=⟨tb,jRB,"picked.<locals>.named"⟩
abbrev tW (tb:Addr):TT:=⟨tb,lamP,qLam⟩
abbrev tK (tb:Addr):TT:=⟨tb,keyPo,qKey⟩
abbrev tB (tb:Addr):TT:=⟨tb,barPo,qBarL⟩
abbrev L4 (tb1 tb2 tb3 tb4:Addr):List TT:=[tP tb1,tW tb2,tK tb3,tB tb4]
def lBars (w:Int)(ms:List Int)(pcs:List (List Int×Int)):List (List Int):=kJ (barP ms pcs) (yE w.toNat)
def jFV (tb1 tb2 tb3 tb4:Addr):Sp:=fun vs H Q _=>∃ (b:Addr) (w:Int) (ms:List Int) (pcs:List (List Int×Int)),vs=[.ref b]/\BoxAt H b w ms pcs/\Good 16 32 w ms pcs/\w<=9/\TbS (L4 tb1 tb2 tb3 tb4) H/\
 ∀ l us H',H' l=some (.lst us)->LsAt H' us (lBars w ms pcs)->ExS (ads (L4 tb1 tb2 tb3 tb4)) H H'->TbS (L4 tb1 tb2 tb3 tb4) H'->H l=none->Q (.ref l) H'
abbrev jJN (tb1 tb2 tb3:Addr)(cl:List (Str×Addr))(i:BI):Sp:=jII i.a tb3 [tb1,tb2] (HIb tb1 tb2 cl i) i.w.toNat (barP i.ms i.pcs)
def jVK (T:Txt mg)(CH:PySem.W.CodeHd lv c0 tb4)(BM:qJ lv mg){u9:Tok}(MN:mg "MOST_THINGS_WITH_BARS" =some (.int 9 u9))(FG:∀ cl i,FnZ P w K mg lv CX0 (ZC cl ["box"] [.ref i.b]) 9 fG fdG ["things","holds"] (jJN tb1 tb2 tb3 cl i))(MG:mg "least_lots" =some (.ref fG))(KG:keepIn K (.ref fG)=true)(BG:Binds K fdG ["things","holds"] [])(hr:Room 9 (XOf jK6 "least_bars" yH P w K mg lv f (.ref c0) A lu s H0 E).A): { t:TS // JSs (XOf jK6 "least_bars" yH P w K mg lv f (.ref c0) A lu s H0 E) (jC yH) t} :=
 have nd:=scLBars.nd
 ⟨_,(jD (yU (kL op_gt (kB kP (jv 0 rfl vC) (je_int) jK) (jTJ (v:= .int 9) gD MN ⟨_,rfl⟩) (kI _)) (jB (jRL)) kU) (jB (jN (jKF (G:=fun (i:BI) σ=>jDS σ [0] [.ref i.b]) (FG _) hr gD MG KG BG (fun i ad s σ H I q=>⟨I.clOk (jG (psc:=j6 yH)),I.fvOk (jG (psc:=j6 yH)) fsBL jVY q⟩) (j3 (kB kP (jv 0 rfl vC) (je_int) jK) (j3 (jKE rfl CH BM (jG (psc:=j6 yH)) rfl) j7 jM8) jX) jX))))⟩
theorem jPT {fd:FuncData}(F:FunC K "least_bars" "least_bars" yH f fd c0)(T:Txt mg)(CH:PySem.W.CodeHd lv c0 tb4)(BM:qJ lv mg){u9:Tok}(MN:mg "MOST_THINGS_WITH_BARS" =some (.int 9 u9))(FG:∀ cl i,FnZ P w K mg lv CX0 (ZC cl ["box"] [.ref i.b]) 9 fG fdG ["things","holds"] (jJN tb1 tb2 tb3 cl i))(MG:mg "least_lots" =some (.ref fG))(KG:keepIn K (.ref fG)=true)(BG:Binds K fdG ["things","holds"] []):FnOk P w K mg lv CX0 10 f fd ["box"] (jFV tb1 tb2 tb3 tb4):=by
 refine F.ok scLBars (fun vs H Q E h=>?_) (fun A lu s H vs Q E hr h=>?_)
 ·obtain⟨_,_,_,_,rfl,_⟩:=h
  rfl
 ·obtain⟨b,wi,ms,pcs,rfl,hB,g,w9,tab,q⟩:=h
  refine⟨_,(jVK T CH BM MN FG MG KG BG hr).2.h,?_⟩
  obtain⟨qm,qp,ps,b1,b2,b3,b4⟩:=id hB.ex
  have w0:=g.w0
  have nd:=tab.nd
  unfold ads L4 at nd
  simp only [br,g7,cE,aF,bC,dh,la] at nd
  obtain⟨⟨n12,n13,n14⟩,⟨n23,n24⟩,n34,_⟩:=nd
  have o1:=tab.ok (tP tb1) (ai ..)
  have o2:=tab.ok (tW tb2) (ah _ (ai ..))
  have o3:=tab.ok (tK tb3) (ah _ (ah _ (ai ..)))
  have o4:=tab.ok (tB tb4) (ah _ (ah _ (ah _ (ai ..))))
  refine⟨_,rfl,b,_,0,_,rfl,rfl,SqT.of b1,rfl,_,_,rfl,rfl,_,rfl,?_⟩
  refine iteN (aP (by lia)) ?_
  refine⟨_,rfl,b,_,0,_,rfl,rfl,SqT.of b1,rfl,o4,fun a c H1 k1 k2 k3 e1 na=>?_⟩
  have x1:ExS (ads (L4 tb1 tb2 tb3 tb4)) H H1:=ExS.ofT e1 (by show tb4∈[tb1,tb2,tb3,tb4]; simp)
  have T1:TbS (L4 tb1 tb2 tb3 tb4) H1:=tab.setT (x:=tB tb4) (ah _ (ah _ (ah _ (ai ..)))) e1 (.inr ⟨c,k3,k2⟩)
  have tu1:=tab.tups x1
  have p1:=T1.ok (tP tb1) (ai ..)
  have p2:=T1.ok (tW tb2) (ah _ (ai ..))
  have p3:=T1.ok (tK tb3) (ah _ (ah _ (ai ..)))
  have t12:Tb2 H1 tb1 tb2:=⟨p1,p2,n12⟩
  refine⟨⟨a,c,b,wi,ms,pcs,g⟩,rfl,by show [V.int wi,V.ref a]=[V.int ((wi.toNat:Nat):Int),V.ref a]; rw[eG w0],by show wi.toNat<=16; lia,p3,fun H' e' t'=>?_,?_,fun l us H2 h2 hu e2 I2 k2' n2=>?_⟩
  ·have at1:∀ {b:Addr}{o:HO},H1 b=some o->(∀ ps,o≠ .tbl ps)->H' b=some o:=fun {b o} h t=>e' b o h (p3.ne h t)
   refine⟨⟨at1 k1 (by intro _ z; cases z),at1 k2 (by intro _ z; cases z)⟩,(hB.mono tu1).mono fun b xs h=>at1 h (by intro _ z; cases z),?_⟩
   exact⟨TabOk.extO t12.p n13 (fun c h=>p3.ne h (by intro _ z; cases z)) e',TabOk.extO t12.w n23 (fun c h=>p3.ne h (by intro _ z; cases z)) e',n12⟩
  ·show tb3∉ [tb1,tb2]
   simp only [aF,bC,dh,la]
   exact⟨fun z=>n13 z.symm,fun z=>n23 z.symm⟩
  ·have e3:ExS (ads (L4 tb1 tb2 tb3 tb4)) H1 H2:=ExS.mono (fun x hx=>by
    show x∈[tb1,tb2,tb3,tb4]
    simp only [aF,bC,dh] at hx ⊢
    rcases hx with z | z | z
    ·exact .inr (.inr (.inl z))
    ·exact .inl z
    ·exact .inr (.inl z)) e2
   have T2:TbS (L4 tb1 tb2 tb3 tb4) H2:=T1.set (S:=[tb3,tb1,tb2]) (fun x hx=>by
    show x∈[tb1,tb2,tb3,tb4]
    simp only [aF,bC,dh] at hx ⊢
    rcases hx with z | z | z
    ·exact .inr (.inr (.inl z))
    ·exact .inl z
    ·exact .inr (.inl z)) e2 fun x hx hm=>by
     simp only [aF,bC,dh] at hx
     rcases hx with rfl | rfl | rfl | rfl
     ·exact I2.2.2.p
     ·exact I2.2.2.w
     ·exact k2'
     ·exfalso
      simp only [aF,bC,dh] at hm
      rcases hm with z | z | z
      ·exact n34 z.symm
      ·exact n14 z.symm
      ·exact n24 z.symm
   refine q l us H2 h2 hu (x1.trans e3) T2 ?_
   cases z:H l with
   | none=>rfl
   | some o=>
    by_cases y:l=tb4
    ·rw[y,k3] at n2
     cases n2
    ·rw[e1 _ _ z y] at n2
     cases n2
abbrev mendA:Arguments:=(jDH yG).1
abbrev mendB:Expr:=(jDH yG).2.1
abbrev mendSc:Scope:=(jDH yG).2.2.1
abbrev jRE:Pos:=(jDH yG).2.2.2
abbrev nMend:List Str:=["lot","bars"]
theorem jUG:NScopeC nMend "lot" ["bars"] mendSc:=⟨rfl,rfl,rfl,by decide+kernel,rfl,by decide+kernel,by decide+kernel,fun x h=>by
  have hl:∀ y∈mendSc.names,y.2= .free->y.1= "bars" :=by decide+kernel
  rw[show x=_ from hl _ (bF h) rfl]
  exact ai .., by decide+kernel⟩
abbrev qMend:Str:= "least_mends.<locals>.<lambda>"
structure MI where
 a:Addr
 c:Addr
 l:Addr
 n:Nat
 us:List V
 ws:List (List Int)
 hn:n<=16
 hw:ws.length<=65536
abbrev mendP (ws:List (List Int))(x:List Int):Bool:=ws.all fun b=>x.any fun t=>decide (t∈b)
def zhM (cl:List (Str×Addr))(i:MI):Hp->Prop:=fun H=>H i.a=some (.ext (nlP qMend mendA mendB mendSc cl i.a i.c))/\H i.c=some (.ext (ncP qMend i.c))
def HIm (cl:List (Str×Addr))(i:MI):Hp->Prop:=fun H=>zhM cl i H/\H i.l=some (.lst i.us)/\LsAt H i.us i.ws
theorem HIm.ok (cl:List (Str×Addr))(i:MI):HIOk [] (HIm cl i) where
 ext e h:=⟨⟨e _ _ h.1.1,e _ _ h.1.2⟩,e _ _ h.2.1,LsAt.mono e.tups h.2.2⟩
 off _ _ _ z:=by cases z
 lst h0 n0 h hp:=⟨⟨by rw[j8 (fun z=>by have:=h.1.1; rw[z,hp] at this; cases this)]; exact h.1.1,by rw[j8 (fun z=>by have:=h.1.2; rw[z,hp] at this; cases this)]; exact h.1.2⟩,by rw[j8 (fun z=>by have:=h0.2.1; rw[z,n0] at this; cases this)]; exact h.2.1,LsAt.mono (Tups.upd hp _) h.2.2⟩
theorem TbS.sub {L L':List TT}{H:Hp}(t:TbS L H)(s:L'.Sublist L):TbS L' H:=⟨t.nd.sublist (s.map _),fun x hx=>t.ok x (s.subset hx)⟩
def jNB (T:Txt mg)(CH:Can P w K mg lv "have_common" 1 fH fdH ["one","other"] jBO)(hr:Room 7 (cxN P w K mg lv nMend qMend mendSc a (.ref c) cl A lu s H0).A): { t:TE // JE (cxN P w K mg lv nMend qMend mendSc a (.ref c) cl A lu s H0) mendB t} :=⟨_,(jH (jAV rfl) gl_n T.all (by decide+kernel) (j3 (jR (m:=[none,some 0]) (Nc:=["bar","lot"]) rfl (kY (jv 1 rfl (jQV (by decide+kernel)))) rfl (by decide+kernel) (by decide+kernel) (jG (psc:=mendSc)) (jF (N:=nMend) rfl rfl (by decide+kernel)) (fun cl C fp s H=>jJ (i:=0) (show (["bar","lot"]:List Str).Nodup by decide+kernel) rfl y9) (fun cl C fp s H=>kG) (fun cl C fp s H=>(CH.je (hr.mono (by decide)) gl_b (j3 (jv 1 rfl kD) (j3 (jv 0 rfl jL) j7 j4) j4) j4)) y6) j7 jE) jE)⟩
theorem jPR (T:Txt mg)(CH:Can P w K mg lv "have_common" 1 fH fdH ["one","other"] jBO)(cl:List (Str×Addr))(i:MI):Callee P w K mg lv (ZC cl ["bars"] [.ref i.l]) (zhM cl i) 8 i.a (jF2 [] (HIm cl i) i.n (mendP i.ws)):=by
 refine jTT (fv:=[.ref i.l]) jUG (fun vs H Q E h=>?_) (fun pm ctv u=>rfl) fun A lu s H vs Q E cl' hr h=>?_
 ·obtain⟨_,_,rfl,_⟩:=h
  rfl
 ·obtain⟨x,lot,rfl,hx,rk,hI,q⟩:=h
  refine⟨_,(jNB T CH hr).2.h,?_⟩
  have ul:=LsAt.len hI.2.2
  have ll:=jBC lot 0 _ rk.ris rk.bnd
  have n16:=i.hn
  have hw:=i.hw
  refine⟨_,rfl,i.l,rfl,⟨_,SqL.of hI.2.1⟩,jA9 (xs:=i.us) (fun σ=>∃ v,σ=[v,some (.ref x)]) (mapZ i.ws fun b=>V.bl (lot.any fun t=>decide (t∈b))) (mapZ.ok _ _) hI.2.1 (by rw[aw]; lia) ⟨_,rfl⟩ ?_ ?_⟩
  ·rintro j v σ' H' zs hv ⟨v1,rfl⟩ e hz S1 S2 yes no
   obtain⟨y,hy,p,rfl,hp⟩:=All2.get' hI.2.2 hv
   dsimp only [kO,yJ]
   rw[ar rfl]
   exact⟨_,rfl,_,rfl,x,p,lot,y,rfl,e _ _ hx,e _ _ hp,by lia,fun H'' e'=>yes _ _ _ ⟨_,rfl⟩ e' (hz.yes hy)⟩
  ·rintro D H1 zs h1 e1 n1 hz
   have hz:=hz.all (by rw[ul]; exact am _)
   have hz2:zs=(i.ws.map fun b=>lot.any fun t=>decide (t∈b)).map V.bl:=by rw[hz,bL]; rfl
   rw[hz2] at h1
   refine⟨D,_,rfl,SqL.of h1,?_⟩
   have ea:(i.ws.map fun b=>lot.any fun t=>decide (t∈b)).all id=mendP i.ws lot:=by rw[i8]; rfl
   rw[ea]
   exact q H1 (ExS.of e1) ((HIm.ok cl i).ext e1 hI)
abbrev jK4:List Str:=["box","bars"]
theorem scMends:FnScope jK4 ["box"] (j6 yG):= {}
theorem fsML:∀ x∈(["bars"]:List Str),mendSc.names.lookup x=some .free:=by decide+kernel
theorem jVX:FsAt (XOf jK4 "least_mends" yG P w K mg lv f (.ref c0) A lu s H0 E) ["bars"] [1]:=⟨rfl,fun k x h=>by
 match k,h with
 | 0,h=>
  cases h
  exact⟨1,rfl,rfl, .inl (show (j6 yG).names.lookup (("bars" :String):Str)=some .cell by decide+kernel)⟩
 | k+1,h=>cases h⟩
abbrev tM (tb:Addr):TT:=⟨tb,jRE,qMend⟩
abbrev L5 (tb1 tb2 tb3 tb4 tb5:Addr):List TT:=[tP tb1,tW tb2,tK tb3,tB tb4,tM tb5]
def jEK (w:Int)(ms:List Int)(pcs:List (List Int×Int)):List (List Int):=kJ (mendP (lBars w ms pcs)) (yE w.toNat)
def jB8 (tb1 tb2 tb3 tb4 tb5:Addr):Sp:=fun vs H Q _=>∃ (b:Addr) (w:Int) (ms:List Int) (pcs:List (List Int×Int)),vs=[.ref b]/\BoxAt H b w ms pcs/\Good 16 32 w ms pcs/\w<=9/\TbS (L5 tb1 tb2 tb3 tb4 tb5) H/\
 ∀ l us H',H' l=some (.lst us)->LsAt H' us (jEK w ms pcs)->ExS (ads (L5 tb1 tb2 tb3 tb4 tb5)) H H'->TbS (L5 tb1 tb2 tb3 tb4 tb5) H'->H l=none->Q (.ref l) H'
abbrev jJM (tb3:Addr)(cl:List (Str×Addr))(i:MI):Sp:=jII i.a tb3 [] (HIm cl i) i.n (mendP i.ws)
def jVF (T:Txt mg)(CH:PySem.W.CodeHd lv c0 tb5)(BM:qJ lv mg)(CB:Can P w K mg lv "least_bars" 10 fB fdB ["box"] (jFV tb1 tb2 tb3 tb4))(FG:∀ cl i,FnZ P w K mg lv CX0 (ZC cl ["bars"] [.ref i.l]) 9 fG fdG ["things","holds"] (jJM tb3 cl i))(MG:mg "least_lots" =some (.ref fG))(KG:keepIn K (.ref fG)=true)(BG:Binds K fdG ["things","holds"] [])(hr:Room 10 (XOf jK4 "least_mends" yG P w K mg lv f (.ref c0) A lu s H0 E).A): { t:TS // JSs (XOf jK4 "least_mends" yG P w K mg lv f (.ref c0) A lu s H0 E) (jC yG) t} :=
 have nd:=scMends.nd
 ⟨_,(jD (jT (i:=1) nd rfl loc_c (CB.je hr gD (j3 (jv 0 rfl vL) j7 j4) j4) jU) (jB (jN (jKF (G:=fun (i:MI) σ=>jDS σ [1] [.ref i.l]) (FG _) (hr.mono (by decide)) gD MG KG BG (fun i ad s σ H I q=>⟨I.clOk (jG (psc:=j6 yG)),I.fvOk (jG (psc:=j6 yG)) fsML jVX q⟩) (j3 (kB kP (jv 0 rfl vL) (je_int) jK) (j3 (jKE rfl CH BM (jG (psc:=j6 yG)) rfl) j7 jM8) jX) jX))))⟩
theorem jRH {w:Int}{ms:List Int}{pcs:List (List Int×Int)}(hw:w<=16)(pr:List Int->Bool):(kJ pr (yE w.toNat)).length<=65536/\∀ x∈kJ pr (yE w.toNat),x.length<=100:=by
 have p16:2 ^ w.toNat<=2 ^ 16:=bQ (by decide) (by lia)
 have p16':(2 ^ 16:Nat)=65536:=by decide
 have:=jAR pr (yE w.toNat) (yE w.toNat).length
 rw[bw] at this
 have sl:=jE3 w.toNat
 refine⟨by lia,fun x hx=>?_⟩
 rcases jAQ hx with z | z
 ·cases z
 ·have r:=jBA z
  have:=jBC x 0 _ r.ris r.bnd
  lia
theorem jPQ {fd:FuncData}(F:FunC K "least_mends" "least_mends" yG f fd c0)(T:Txt mg)(CH:PySem.W.CodeHd lv c0 tb5)(BM:qJ lv mg)(CB:Can P w K mg lv "least_bars" 10 fB fdB ["box"] (jFV tb1 tb2 tb3 tb4))(FG:∀ cl i,FnZ P w K mg lv CX0 (ZC cl ["bars"] [.ref i.l]) 9 fG fdG ["things","holds"] (jJM tb3 cl i))(MG:mg "least_lots" =some (.ref fG))(KG:keepIn K (.ref fG)=true)(BG:Binds K fdG ["things","holds"] []):FnOk P w K mg lv CX0 11 f fd ["box"] (jB8 tb1 tb2 tb3 tb4 tb5):=by
 refine F.ok scMends (fun vs H Q E h=>?_) (fun A lu s H vs Q E hr h=>?_)
 ·obtain⟨_,_,_,_,rfl,_⟩:=h
  rfl
 ·obtain⟨b,wi,ms,pcs,rfl,hB,g,w9,tab,q⟩:=h
  refine⟨_,(jVF T CH BM CB FG MG KG BG hr).2.h,?_⟩
  have w0:=g.w0
  have sub:(L4 tb1 tb2 tb3 tb4).Sublist (L5 tb1 tb2 tb3 tb4 tb5):=List.sublist_append_left (L4 tb1 tb2 tb3 tb4) [tM tb5]
  have m5:tM tb5∈L5 tb1 tb2 tb3 tb4 tb5:=aB (L4 tb1 tb2 tb3 tb4) (aK.mpr rfl)
  have m3:tK tb3∈L5 tb1 tb2 tb3 tb4 tb5:=sub.subset (ah _ (ah _ (ai ..)))
  refine⟨_,rfl,b,wi,ms,pcs,rfl,hB,g,w9,tab.sub sub,fun l us H1 h1 hu x1 T1 n1=>?_⟩
  have y1:ExS (ads (L5 tb1 tb2 tb3 tb4 tb5)) H H1:=ExS.mono (fun z hz=>(sub.map TT.a).subset hz) x1
  have U1:TbS (L5 tb1 tb2 tb3 tb4 tb5) H1:=tab.set (S:=ads (L4 tb1 tb2 tb3 tb4)) (fun z hz=>(sub.map TT.a).subset hz) x1 fun z hz hm=>by
   rcases aM.mp (show z∈L4 tb1 tb2 tb3 tb4++[tM tb5] from hz) with y | y
   ·exact T1.ok z y
   ·exfalso
    have e5:=aK.mp y
    rw[e5] at hm
    have nd:(ads (L4 tb1 tb2 tb3 tb4)++[tb5]).Nodup:=tab.nd
    exact(gm.mp nd).2.2 tb5 hm tb5 (aK.mpr rfl) rfl
  have hB1:=hB.mono (tab.tups y1)
  obtain⟨qm,qp,ps,b1,b2,b3,b4⟩:=id hB1.ex
  refine⟨_,rfl,b,_,0,_,rfl,rfl,SqT.of b1,rfl,U1.ok _ m5,fun a c H2 k1 k2 k3 e2 na=>?_⟩
  have x2:ExS (ads (L5 tb1 tb2 tb3 tb4 tb5)) H1 H2:=ExS.ofT e2 (cn (f:=TT.a) m5)
  have U2:=U1.setT (x:=tM tb5) m5 e2 (.inr ⟨c,k3,k2⟩)
  have tu2:=U1.tups x2
  have p3:=U2.ok _ m3
  obtain⟨l1,_⟩:=jRH (w:=wi) (ms:=ms) (pcs:=pcs) (by lia) (barP ms pcs)
  have h2:H2 l=some (.lst us):=U1.at x2 h1
  have u2:=LsAt.mono tu2 hu
  refine⟨⟨a,c,l,wi.toNat,us,lBars wi ms pcs,by lia,l1⟩,rfl,by show [V.int wi,V.ref a]=[V.int ((wi.toNat:Nat):Int),V.ref a]; rw[eG w0],by show wi.toNat<=16; lia,p3,fun H' e' t'=>?_,fun z=>(by cases z),fun l2 us2 H3 h3 hu3 e3 I3 k3' n3=>?_⟩
  ·have at1:∀ {b:Addr}{o:HO},H2 b=some o->(∀ ps,o≠ .tbl ps)->H' b=some o:=fun {b o} h t=>e' b o h (p3.ne h t)
   exact⟨⟨at1 k1 (by intro _ z; cases z),at1 k2 (by intro _ z; cases z)⟩,at1 h2 (by intro _ z; cases z),LsAt.mono (fun b xs h=>at1 h (by intro _ z; cases z)) u2⟩
  ·have e3':ExtT tb3 H2 H3:=fun b o h n=>e3 b o h fun z=>n (aK.mp z)
   have U3:=U2.setT (x:=tK tb3) m3 e3' k3'
   refine q l2 us2 H3 h3 hu3 ((y1.trans x2).trans (ExS.ofT e3' (cn (f:=TT.a) m3))) U3 ?_
   cases z:H l2 with
   | none=>rfl
   | some o=>
    cases z1:H1 l2 with
    | none=>
     exfalso
     by_cases hm:l2∈ads (L4 tb1 tb2 tb3 tb4)
     ·obtain⟨t,ht,rfl⟩:=aW.mp hm
      rcases T1.ok t ht with y | ⟨_,y,_⟩ <;> (rw[y] at z1; cases z1)
     ·rw[x1 _ _ z hm] at z1; cases z1
    | some o1=>
     by_cases y:l2=tb5
     ·rw[y,k3] at n3
      cases n3
     ·rw[e2 _ _ z1 y] at n3
      cases n3
structure NC (ms:List Int)(pcs:List (List Int×Int))(ts S:List Int):Prop where
 bnd:∀ k∈S,0<=k/\k<pcs.length
 dis:∀ k∈S,∀ k'∈S,k≠k'->∀ t∈ts,t∈j9 pcs k->t∉j9 pcs k'
 cov:∀ t∈ts,t∉ms->∃ k∈S,t∈j9 pcs k
theorem jOX {w:Int}{ms:List Int}{pcs:List (List Int×Int)}{ts:List Int}(g:Good 16 32 w ms pcs)(rk:Ris w ts):wkN ms pcs ts≠ []↔∃ S,NC ms pcs ts S:=by
 have gn:=jC5 g rk
 have el:cvs (ts.length:Int) (nmd ts ms) (pick ts pcs (lkP pcs ts))=(wkN ms pcs ts).map srt:=by
  unfold cvs wkN
  rw[aV]
 have ex:wkN ms pcs ts≠ []↔∃ c,IsCov (ts.length:Int) (nmd ts ms) (pick ts pcs (lkP pcs ts)) c:=by
  constructor
  ·intro h
   obtain⟨x,r,hx⟩:=List.exists_cons_of_ne_nil h
   exact⟨srt x,(jNC gn).mp (by rw[el,hx]; exact ai ..)⟩
  ·rintro ⟨c,hc⟩ z
   have:=(jNC gn).mpr hc
   rw[el,z] at this
   cases this
 have nlk:(lkP pcs ts).Nodup:=((yB pcs.length).ris.sublist ff).imp fun {a b} h=>by lia
 have pl:(pick ts pcs (lkP pcs ts)).length=(lkP pcs ts).length:=af ..
 have lkm:∀ j:Int,0<=j->j<(lkP pcs ts).length->(lkP pcs ts).getD j.toNat 0∈lkP pcs ts:=fun j h0 h1=>by
  have hj:j.toNat<(lkP pcs ts).length:=by lia
  rw[aC,ay hj]
  exact cQ hj
 rw[ex]
 constructor
 ·rintro ⟨c,C⟩
  have cb:∀ j∈c,0<=j/\j<(lkP pcs ts).length:=fun j hj=>by have:=C.ris.bnd j hj; rw[pl] at this; exact this
  refine⟨c.map fun j=>(lkP pcs ts).getD j.toNat 0,fun k hk=>?_,fun k hk k' hk' ne t ht h1 h2=>?_,fun t ht hn=>?_⟩
  ·obtain⟨j,hj,rfl⟩:=aW.mp hk
   exact jIU _ (lkm j (cb j hj).1 (cb j hj).2)
  ·obtain⟨j,hj,rfl⟩:=aW.mp hk
   obtain⟨j',hj',rfl⟩:=aW.mp hk'
   have nj:j≠j':=fun z=>ne (by rw[z])
   refine C.dis j hj j' hj' nj ((ts.idxOf t:Nat):Int) ?_ ?_
   ·rw[jA7 (cb j hj).1 (cb j hj).2]
    exact mem_nmd.mpr ⟨t,h1,ht,rfl⟩
   ·rw[jA7 (cb j' hj').1 (cb j' hj').2]
    exact mem_nmd.mpr ⟨t,h2,ht,rfl⟩
  ·have hp:ts.idxOf t<ts.length:=cm.mpr ht
   obtain⟨j,hj,hjt⟩:=C.cov ((ts.idxOf t:Nat):Int) (by lia) (by lia) (fun z=>by
    obtain⟨u,hu,hut,e⟩:=mem_nmd.mp z
    exact hn (jIZ ht hut e ▸ hu))
   rw[jA7 (cb j hj).1 (cb j hj).2] at hjt
   obtain⟨u,hu,hut,e⟩:=mem_nmd.mp hjt
   exact⟨_,cn hj,jIZ ht hut e ▸ hu⟩
 ·rintro ⟨S,N⟩
  refine⟨(upto (lkP pcs ts).length).filter fun j=>decide ((lkP pcs ts).getD j.toNat 0∈S),⟨(yB _).ris.sublist ff,fun j hj=>?_⟩,fun j hj j' hj' ne p h1 h2=>?_,fun p p0 p1 hn=>?_⟩
  ·rw[pl]
   exact(yB _).bnd j (ba.mp hj).1
  ·obtain⟨a1,a2⟩:=ba.mp hj
   obtain⟨b1,b2⟩:=ba.mp hj'
   have ab:=(yB _).bnd j a1
   have bb:=(yB _).bnd j' b1
   rw[jA7 ab.1 ab.2] at h1
   rw[jA7 bb.1 bb.2] at h2
   obtain⟨t,ht,hts,e⟩:=mem_nmd.mp h1
   obtain⟨u,hu,hus,e'⟩:=mem_nmd.mp h2
   have:t=u:=jIZ hts hus (by lia)
   subst this
   refine N.dis _ (aG a2) _ (aG b2) (fun z=>ne ?_) t hts ht hu
   have hj1:j.toNat<(lkP pcs ts).length:=by lia
   have hj2:j'.toNat<(lkP pcs ts).length:=by lia
   rw[aC,aC,ay hj1,ay hj2] at z
   have:j.toNat=j'.toNat:=(eT hj1 nlk).mp (by rw[ay hj1,ay hj2]; exact bZ some z)
   lia
  ·have hp:p.toNat<ts.length:=by lia
   have ht:ts[p.toNat]∈ts:=cQ hp
   have ip:((ts.idxOf ts[p.toNat]:Nat):Int)=p:=by
    have h1:=(jAT ht).1
    have nd:ts.Nodup:=rk.ris.imp fun {a b} h=>by lia
    have hlt:ts.idxOf ts[p.toNat]<ts.length:=cm.mpr ht
    have:=(eT hlt nd).mp (h1.trans (ay hp).symm)
    lia
   obtain⟨k,hk,hkt⟩:=N.cov _ ht (fun z=>hn (mem_nmd.mpr ⟨_,z,ht,ip.symm⟩))
   have kb:=N.bnd k hk
   have kl:k∈lkP pcs ts:=by
    unfold lkP
    refine ba.mpr ⟨?_,cU.mpr ⟨_,hkt,az ht⟩⟩
    unfold upto
    exact aW.mpr ⟨k.toNat,bG.mpr (by lia),by lia⟩
   have hj:(lkP pcs ts).idxOf k<(lkP pcs ts).length:=cm.mpr kl
   have gk:(lkP pcs ts).getD ((lkP pcs ts).idxOf k:Int).toNat 0=k:=by
    rw[aV,aC,(jAT kl).1]
    rfl
   refine⟨((lkP pcs ts).idxOf k:Int),ba.mpr ⟨mem_upto.mpr ⟨by lia,by lia⟩,az (by rw[gk]; exact hk)⟩,?_⟩
   rw[jA7 (by lia) (by lia),gk]
   exact mem_nmd.mpr ⟨_,hkt,ht,ip.symm⟩
theorem jOW (p:Nat->Bool):∀ n:Nat,∃ m<2 ^ n,∀ t<n,m.testBit t=p t
 | 0=>⟨0,by decide,fun t h=>by lia⟩
 | n+1=>by
  obtain⟨m,hm,h⟩:=jOW p n
  refine⟨2 ^ n*(p n).toNat+m,?_,fun t ht=>?_⟩
  ·have:(p n).toNat<=1:=Bool.toNat_le _
   have:=g6 (2 ^ n) this
   rw[Nat.pow_succ]
   lia
  ·rw[Nat.testBit_two_pow_mul_add _ hm]
   split
   ·exact h t (by assumption)
   ·have:t=n:=by lia
    rw[this,gu]
    cases p n <;> rfl
theorem jMB {n:Nat}{x:List Int}(r:Ris (n:Int) x):x∈yE n:=by
 refine(jBP n).mem_iff.mpr ?_
 obtain⟨m,hm,h⟩:=jOW (fun t=>decide ((t:Int)∈x)) n
 refine aW.mpr ⟨m,bG.mpr hm,jS5 (jKP n m).ris r.ris fun y=>?_⟩
 unfold btsN
 rw[aW]
 constructor
 ·rintro ⟨t,ht,rfl⟩
  obtain⟨h1,h2⟩:=ba.mp ht
  rw[h t (bG.mp h1)] at h2
  exact aG h2
 ·intro hy
  have b:=r.bnd y hy
  refine⟨y.toNat,ba.mpr ⟨bG.mpr (by lia),?_⟩,by lia⟩
  rw[h _ (by lia)]
  exact az (by rw[eG b.1]; exact hy)
def qH (n:Nat)(x:List Int):List Int:=(upto n).filter fun t=>!decide (t∈x)
theorem jE4 (n:Nat)(x:List Int):Ris (n:Int) (qH n x):=⟨(yB n).ris.sublist ff,fun z hz=>(yB n).bnd z (ba.mp hz).1⟩
theorem mem_restL {n:Nat}{x:List Int}{t:Int} :t∈qH n x↔(0<=t/\t<n)/\t∉x:=by
 unfold qH
 rw[ba,mem_upto,ck,cW]
theorem inB_iff {y x:List Int} :inB y x=true↔∀ t∈y,t∈x:=by
 unfold inB
 rw[bJ]
 exact⟨fun h t ht=>aG (h t ht),fun h t ht=>az (h t ht)⟩
theorem jOA {pr:List Int->Bool} :∀ {ws acc:List (List Int)}{x:List Int},x∈ws.foldl (yD pr) acc->x∈acc\/pr x=true
 | [],_,_,h=> .inl h
 | y::ws,acc,x,h=>by
  rcases jOA (ws:=ws) h with z | z
  ·unfold yD at z
   split at z
   ·rename_i c
    rcases aM.mp z with z | z
    ·exact .inl z
    ·rw[aK.mp z]
     rw[bI] at c
     exact .inr c.2
   ·exact .inl z
  ·exact .inr z
theorem jEP {pr:List Int->Bool} :∀ {ws acc:List (List Int)}{x:List Int},x∈acc->x∈ws.foldl (yD pr) acc
 | [],_,_,h=>h
 | y::ws,acc,x,h=>by
  refine jEP (ws:=ws) ?_
  unfold yD
  split
  ·exact aX _ h
  ·exact h
theorem jKK {pr:List Int->Bool} :∀ {ws acc:List (List Int)}{x:List Int},x∈ws->pr x=true->∃ y∈ws.foldl (yD pr) acc,inB y x=true
 | [],_,_,h,_=>by cases h
 | z::ws,acc,x,h,hp=>by
  rcases aF.mp h with e | e
  ·subst e
   by_cases c:(acc.any fun y=>inB y x)=true
   ·obtain⟨y,hy,hi⟩:=cU.mp c
    exact⟨y,jEP (ws:=x::ws) hy,hi⟩
   ·refine⟨x,?_,inB_iff.mpr fun t h=>h⟩
    rw[gW]
    refine jEP ?_
    unfold yD
    rw[ar (by rw[bI,ck]; exact⟨bY.mpr c,hp⟩)]
    exact aB _ (aK.mpr rfl)
  ·exact jKK (ws:=ws) e hp
theorem jQ2 {pr:List Int->Bool}{n:Nat}{x:List Int}(h:x∈kJ pr (yE n)):pr x=true/\Ris (n:Int) x:=by
 refine⟨?_,?_⟩
 ·rcases jOA h with z | z
  ·cases z
  ·exact z
 ·rcases jAQ h with z | z
  ·cases z
  ·exact jBA z
theorem jQB {pr:List Int->Bool}{n:Nat}(mono:∀ x y,Ris (n:Int) x->Ris (n:Int) y->(∀ t∈x,t∈y)->pr x=true->pr y=true)(x:List Int):mendP (kJ pr (yE n)) x=!pr (qH n x):=by
 rw[bV,ck]
 unfold mendP
 rw[bJ]
 constructor
 ·intro h
  refine bY.mpr fun z=>?_
  obtain⟨y,hy,hi⟩:=jKK (acc:=[]) (jMB (jE4 n x)) z
  obtain⟨t,ht,hb⟩:=cU.mp (h y hy)
  exact(mem_restL.mp (inB_iff.mp hi t (aG hb))).2 ht
 ·intro h y hy
  obtain⟨p,r⟩:=jQ2 hy
  refine ce fun z=>?_
  have:pr (qH n x)=true:=mono y _ r (jE4 n x) (fun t ht=>mem_restL.mpr ⟨r.bnd t ht,fun hx=>z (cU.mpr ⟨t,hx,az ht⟩)⟩) p
  rw[h] at this
  cases this
theorem NC.sub {ms:List Int}{pcs:List (List Int×Int)}{ts ts' S:List Int}(n:NC ms pcs ts' S)(h:∀ t∈ts,t∈ts'):NC ms pcs ts S:=⟨n.bnd,fun k hk k' hk' ne t ht=>n.dis k hk k' hk' ne t (h t ht),fun t ht=>n.cov t (h t ht)⟩
theorem jQR {w:Int}{ms:List Int}{pcs:List (List Int×Int)}{ts ts':List Int}(g:Good 16 32 w ms pcs)(r:Ris w ts)(r':Ris w ts')(h:∀ t∈ts,t∈ts')(b:wkN ms pcs ts=[]):wkN ms pcs ts'=[]:=ce fun z=>by
 obtain⟨S,n⟩:=(jOX g r').mp z
 exact(jOX g r).mpr ⟨S,n.sub h⟩ b
theorem jOY {w:Int}{ms:List Int}{pcs:List (List Int×Int)}(g:Good 16 32 w ms pcs):∀ x y,Ris ((w.toNat:Nat):Int) x->Ris ((w.toNat:Nat):Int) y->(∀ t∈x,t∈y)->barP ms pcs x=true->barP ms pcs y=true:=fun x y rx ry h b=>by
 rw[eG g.w0] at rx ry
 exact az (jQR g rx ry h (aG b))
theorem jPZ {w:Int}{ms:List Int}{pcs:List (List Int×Int)}(g:Good 16 32 w ms pcs):jEK w ms pcs=kJ (fun x=>!barP ms pcs (qH w.toNat x)) (yE w.toNat):=by
 unfold jEK
 congr 1
 funext x
 exact jQB (jOY g) x
section
variable {fV:Addr}{fdV:FuncData}
abbrev nWBar:List Str:=["box","lot"]
theorem scWBar:FnScope nWBar ["box","lot"] (j6 sWBar):= {}
def jJK:Sp:=fun vs H Q _=>∃ (b a:Addr) (w:Int) (ms:List Int) (pcs:List (List Int×Int)) (ts:List Int),vs=[.ref b, .ref a]/\BoxAt H b w ms pcs/\Good 16 16 w ms pcs/\H a=some (.tup (ts.map V.int))/\Ris w ts/\
 ∀ H',Ext H H'->Q (.bl (decide (wkN ms pcs ts=[]))) H'
def wbarA (CN:Can P w K mg lv "_law_narrowed" 1 fN fdN ["box","lot"] jC9)(CV:Can P w K mg lv "_law_coverings" 19 fV fdV ["box"] jJP)(hr:Room 19 (XOf nWBar "_law_is_bar" sWBar P w K mg lv f lw A lu s H0 E).A): { t:TS // JSs (XOf nWBar "_law_is_bar" sWBar P w K mg lv f lw A lu s H0 E) (jC sWBar) t} :=
 have nd:=scWBar.nd
 ⟨_,(jB (jN (yR (jMN hr.units101) (CV.je hr gD (j3 (CN.je (hr.mono (by decide)) gD (j3 (jv 0 rfl vL) (j3 (jv 1 rfl vL) j7 j4) j4) j4) j7 jI) jI) (yQ j7) (kI _))))⟩
theorem jT0 {fd:FuncData}(F:Fun K "_law_is_bar" "_law_is_bar" sWBar f fd)(CN:Can P w K mg lv "_law_narrowed" 1 fN fdN ["box","lot"] jC9)(CV:Can P w K mg lv "_law_coverings" 19 fV fdV ["box"] jJP):FnOk P w K mg lv CX0 20 f fd ["box","lot"] jJK:=by
 refine F.ok scWBar (fun vs H Q E h=>?_) (fun lw A lu s H vs Q E hr h=>?_)
 ·obtain⟨_,_,_,_,_,_,rfl,_⟩:=h
  rfl
 ·obtain⟨b,a,w,ms,pcs,ts,rfl,hB,g,ha,rk,q⟩:=h
  refine⟨_,(wbarA CN CV hr).2.h,?_⟩
  have g32:Good 16 32 w ms pcs:=g.wide (by decide) (by decide)
  refine⟨_,rfl,_,rfl,b,a,w,ms,pcs,ts,rfl,hB,g32,ha,rk,fun r H1 B1 e1=>?_⟩
  refine⟨r,_,_,_,rfl,B1,jC5 g rk,fun l us H2 hl hls ul e2=>?_⟩
  refine⟨by show (0:Nat)<=_; decide,fun m H3 d3 e3 n3=>?_⟩
  refine⟨_,[],⟨l,us,rfl,e3 _ _ hl,jGB (hls.mono e3.tups)⟩,⟨m,_,rfl,d3,rfl⟩,jIS _,?_⟩
  rw[jVG]
  have ed:decide (cvs (ts.length:Int) (nmd ts ms) (pick ts pcs (lkP pcs ts))=[])=decide (wkN ms pcs ts=[]):=by
   unfold cvs wkN
   rw[aV]
   exact decide_eq_decide.mpr kh
  rw[ed]
  exact q H3 ((e1.trans e2).trans e3)
end
abbrev jDG:List Str:=["wide","some","number","lot"]
theorem scWLots:FnScope jDG ["wide"] (j6 q0):= {}
def jFS:Sp:=fun vs H Q _=>∃ n:Nat,vs=[.int (n:Int)]/\n<=16/\∀ l us H',H' l=some (.lst us)->LsAt H' us (yE n)->Ext H H'->H l=none->Q (.ref l) H'
def jLO (T:Txt mg)(hr:Room 0 (XOf jDG "_law_lots" q0 P w K mg lv f lw A lu s H0 E).A): { t:TS // JSs (XOf jDG "_law_lots" q0 P w K mg lv f lw A lu s H0 E) (jCG ((jC q0).getD 1 (.Pass ⟨0,0,0,0⟩))) t} :=
 have nd:=scWLots.nd
 ⟨_,(jD (jT (i:=3) nd rfl lL (jZ jM gD T.tuple (by decide+kernel) (j3 (jR (m:=[none,some 2]) (Nc:=["t","number"]) rfl (jA3 gD T.range (j3 (jv 0 rfl vL) j7 j4) j4) rfl (by decide+kernel) (by decide+kernel) (jG (psc:=j6 q0)) (jF (N:=jDG) rfl rfl (by decide+kernel)) (fun cl C fp s H=>jJ (i:=0) (show (["t","number"]:List Str).Nodup by decide+kernel) rfl y9) (fun cl C fp s H=>jB5 (kL qN (kN jHC (kN jML (jv 1 rfl kD) (jv 0 rfl jL)) (je_int)) (je_int) (kI _))) (fun cl C fp s H=>(jv 0 rfl jL)) kE) j7 jE) jE) jU)
   (jB (jAM (je_bm bK bW bX jA2 (jv 1 rfl vL) (j3 (y4 (j3 (jH jY gD T.len (by decide+kernel) (j3 (jv 3 rfl vL) j7 j4) j4) (j3 (jv 3 rfl vL) j7 j4) jI)) j7 yZ) yZ) jU)))⟩
def jU7 (T:Txt mg)(hr:Room 0 (XOf jDG "_law_lots" q0 P w K mg lv f lw A lu s H0 E).A): { t:TS // JSs (XOf jDG "_law_lots" q0 P w K mg lv f lw A lu s H0 E) (jC q0) t} :=
 have nd:=scWLots.nd
 ⟨_,(jD (jT (i:=1) nd rfl lL (yQ j7) jBX) (jD (qB cf rfl (jA3 gD T.range (j3 (kN jFA (je_int) (jv 0 rfl vL)) j7 yA) yA) (jJ (i:=2) nd rfl loc_c) (jLO T hr).2 kE) (jB (jN (jR (m:=[none,none]) (Nc:=["size","lot"]) rfl (kY (jH (jHW keyP_ok hr.units101) gD T.sorted (by decide+kernel) (j3 (jv 1 rfl vL) j7 j4) j4)) rfl (by decide+kernel) (by decide+kernel) (jG (psc:=j6 q0)) (jF (N:=jDG) rfl rfl (by decide+kernel)) (fun cl C fp s H=>jBF (i:=0) (j:=1) rfl (show (["size","lot"]:List Str).Nodup by decide+kernel) rfl rfl (by decide+kernel) (by decide+kernel)) (fun cl C fp s H=>kG) (fun cl C fp s H=>(jv 1 rfl jL)) kE)))))⟩
def PrsAt (H:Hp)(us:List V)(ws:List (List Int)):Prop:=All2 (PairR H) us ws
theorem PrsAt.mono {H H':Hp}{us:List V}{ws:List (List Int)}(t:Tups H H')(h:PrsAt H us ws):PrsAt H' us ws:=All2.imp (fun _ _ k=>keyP_ok.mono t k) h
theorem jIE (T:Txt mg)(hr:Room 0 (XOf jDG "_law_lots" q0 P w K mg lv f lw A lu s H0 E).A){D:Ends}{H:Hp}{l:Addr}{n m:Nat}{us:List V}{ws:List (List Int)}{v3:Option V}(hl:H l=some (.lst us))(hu:PrsAt H us ws)(ul:us.length<=65536)(n16:n<=16)
  (nx:∀ H' us' v3,(∀ b o,H b=some o->b≠l->H' b=some o)->H' l=some (.lst us')->PrsAt H' us' (ws++[keyL (btsN n m)])->D.nx [some (.int (n:Int)),some (.ref l),some (natV m),v3] H'):
  (jLO T hr).1 D [some (.int (n:Int)),some (.ref l),some (natV m),v3] H:=by
 refine⟨_,rfl,_,rfl,by lia,by lia,jDY (n:=((n:Nat):Int).toNat) (fun σ=>∃ v,σ=[v,some (natV m)]) (outZ (List.range n) (fun t=>m.testBit t) natV) (outZ.ok _ _ _) (by rw[aw]; lia) ⟨_,rfl⟩ ?_ ?_⟩
 ·rintro j σ' H' zs hj ⟨v,rfl⟩ e hz S1 S2 yes no
  rw[aV] at hj
  have e0:(0+(j:Int))=(j:Int):=by lia
  have hg:(List.range n)[j]?=some j:=cI hj
  refine⟨_,rfl,_,rfl,_,_,rfl,rfl,by lia,_,_,rfl,rfl,rfl,_,rfl,?_⟩
  rw[e0]
  have bt:=jKQ m j
  refine ite2 (fun h=>?_) (fun h=>?_)
  ·exact⟨_,rfl,yes _ _ _ ⟨_,rfl⟩ (Ext.refl _) (hz.yes hg (bt.symm.trans h))⟩
  ·exact no _ _ ⟨_,rfl⟩ (Ext.refl _) (hz.no hg (bt.symm.trans (bY.mpr h)))
 ·rintro D' H1 zs h1 e1 n1 hz
  have hz:=hz.all (by rw[bR,aV]; exact am _)
  have hz2:zs=(btsN n m).map V.int:=by rw[hz]; unfold btsN; rw[bL]; rfl
  rw[hz2] at h1
  refine⟨D',_,rfl, .inl ⟨SqL.of h1,fun r hr'=>?_⟩⟩
  have e2:Ext H1 (L2.upd H1 r (.tup ((btsN n m).map V.int))):=(Ext.refl _).new hr' _
  have d2:(L2.upd H1 r (.tup ((btsN n m).map V.int))) r=some (.tup ((btsN n m).map V.int)):=j5
  generalize L2.upd H1 r (.tup ((btsN n m).map V.int))=H2 at e2 d2
  have E2:=e1.trans e2
  refine⟨_,rfl, .inl ⟨rfl,_,SqL.of (E2 _ _ hl)⟩,_,rfl,r,_,rfl, .inr (SqT.of d2),_,rfl,by show (2:Nat)<=_; decide,fun t H3 d3 e3=>?_⟩
  have E3:=E2.trans e3
  have hl3:=E3 _ _ hl
  refine⟨l,us,_,rfl,rfl,hl3,by rw[aw]; lia,?_⟩
  have tu:=Tups.upd hl3 (.lst (us++[.ref t]))
  have nt:t≠l:=fun z=>by rw[z,hl3] at d3; cases d3
  refine nx _ _ _ (fun b o h ne=>by rw[j8 ne]; exact E3 _ _ h) j5 (All2.snoc (PrsAt.mono tu (PrsAt.mono E3.tups hu)) ⟨t,r,_,btsN n m,rfl,by rw[j8 nt]; exact d3,tu _ _ (e3 _ _ d2),?_⟩)
  rw[af]
  rfl
theorem jNM {ws:List (List Int)}{n:Nat}(p:ws.Perm ((yS n).map keyL)):(ws.map List.tail).map keyL=ws:=by
 rw[bL]
 have:∀ x∈ws,(keyL ∘ List.tail) x=x:=fun x hx=>by
  obtain⟨y,_,rfl⟩:=aW.mp (p.mem_iff.mp hx)
  rfl
 conv=>rhs; rw[<- iK ws]
 exact cH this
theorem jPN {fd:FuncData}(F:Fun K "_law_lots" "_law_lots" q0 f fd)(T:Txt mg):FnOk P w K mg lv CX0 1 f fd ["wide"] jFS:=by
 refine F.ok scWLots (fun vs H Q E h=>?_) (fun lw A lu s H vs Q E hr h=>?_)
 ·obtain⟨_,rfl,_⟩:=h
  rfl
 ·obtain⟨n,rfl,n16,q⟩:=h
  refine⟨_,(jU7 T hr).2.h,?_⟩
  have p16:2 ^ n<=2 ^ 16:=bQ (by decide) n16
  have p16':(2 ^ 16:Nat)=65536:=by decide
  refine⟨by show (0:Nat)<=_; decide,fun l H1 d1 e1 n1=>?_⟩
  have e2n:(1:Int)*2 ^ ((n:Nat):Int).toNat=((2 ^ n:Nat):Int):=by rw[Int.one_mul,aV]; push_cast; rfl
  refine⟨_,rfl,_,_,rfl,rfl,⟨by lia,by lia,by lia⟩,?_⟩
  have p0:=dJ n
  generalize hN:2 ^ n=N at p16 p0 e2n
  refine⟨((N:Nat):Int),by rw[<- e2n],by lia,by lia,?_⟩
  refine jBG (lo:=0) (n:=((N:Nat):Int).toNat) (fun i σ H'=>(∃ v2 v3,σ=[some (.int (n:Int)),some (.ref l),v2,v3])/\(∀ b o,H1 b=some o->b≠l->H' b=some o)/\∃ us,H' l=some (.lst us)/\PrsAt H' us ((List.range i).map fun m=>keyL (btsN n m))) ⟨⟨_,_,rfl⟩,fun _ _ h _=>h,[],d1,trivial⟩ ?_ ?_
  ·rintro i σ H' hi ⟨⟨v2,v3,rfl⟩,k,us,hl,hu⟩
   rw[aV] at hi
   have ul:=All2.len hu
   rw[af,bR] at ul
   have e0:(0+(i:Int))=(i:Int):=by lia
   show (jLO T hr).1 _ [some (.int (n:Int)),some (.ref l),some (.int (0+(i:Int))),v3] H'
   rw[e0]
   refine jIE T hr hl hu (by lia) n16 fun H'' us' v3 k' hl' hu'=>⟨⟨_,_,rfl⟩,fun b o h ne=>k' b o (k b o h ne) ne,us',hl',?_⟩
   rw[fo,aS]
   exact hu'
  ·rintro σ H' ⟨⟨v2,v3,rfl⟩,k,us,hl,hu⟩
   rw[aV] at hu
   have e1':Ext H H':=fun b o h=>k b o (e1 _ _ h) fun z=>by rw[z,n1] at h; cases h
   have ke:(List.range N).map (fun m=>keyL (btsN n m))=(yS n).map keyL:=by unfold yS; rw[bL,hN]; rfl
   rw[ke] at hu
   have rf:∀ v∈us,∃ a,v=V.ref a:=fun v hv=>by
    obtain⟨i,hi⟩:=bB hv
    obtain⟨x,_,t,_,_,_,e,_⟩:=All2.get' hu hi
    exact⟨t,e⟩
   refine⟨_,rfl,l,us,_,rfl,SqL.of hl,hu,rf,fun l2 us' ws' n2 a2 pm pw=>?_⟩
   have e2:Ext H' (L2.upd H' l2 (.lst us')):=(Ext.refl _).new n2 _
   have d2:(L2.upd H' l2 (.lst us')) l2=some (.lst us'):=j5
   have n2':H l2=none:=by
    cases z:H l2 with
    | none=>rfl
    | some o=>rw[e1' _ _ z] at n2; cases n2
   generalize L2.upd H' l2 (.lst us')=H2 at e2 d2
   have a3:=PrsAt.mono e2.tups a2
   have W:ws'.map List.tail=yE n:=jF5 (by
    have:=pm.map List.tail
    rw[jEL] at this
    exact this) (by rw[jNM pm]; exact pw)
   have wl:us'.length<=65536:=by
    rw[All2.len a2,pm.length_eq,af]
    unfold yS
    rw[af,bR,hN]
    lia
   refine⟨l2,rfl,⟨_,SqL.of d2⟩,jA9 (xs:=us') (fun σ=>∃ v1 v2,σ=[v1,v2]) (lsZ ws' (fun _=>true) List.tail) (lsZ.ok _ _ _) d2 (by rw[aw]; lia) ⟨_,_,rfl⟩ ?_ ?_⟩
   ·rintro j x σ' H3 zs hx ⟨v1,v2,rfl⟩ e hz S1 S2 yes no
    obtain⟨y,hy,t,a,m,lot,rfl,h1,h2,rfl⟩:=All2.get' a3 hx
    refine⟨t,_,rfl,SqT.of (e _ _ h1),rfl,_,_,rfl,_,_,rfl,rfl,?_⟩
    dsimp only [yJ]
    rw[ar rfl]
    exact⟨_,rfl,yes _ _ _ ⟨_,_,rfl⟩ (Ext.refl _) (hz.yes (fun _ _ h=>h) hy rfl (e _ _ h2))⟩
   ·rintro D H3 zs h3 e3 n3 hz
    have hz:=hz.all (by rw[All2.len a2]; exact am _)
    rw[ki.mpr (fun _ _=>rfl),W] at hz
    refine q D zs H3 h3 hz ((e1'.trans e2).trans e3) ?_
    cases z:H D with
    | none=>rfl
    | some o=>rw[e2 _ _ (e1' _ _ z)] at n3; cases n3
abbrev jN5:List Str:=["one","other"]
theorem scLawIn:FnScope jN5 ["one","other"] (j6 jDA):= {}
def jFU:Sp:=fun vs H Q _=>∃ (a b:Addr) (xs ys:List Int),vs=[.ref a, .ref b]/\H a=some (.tup (xs.map V.int))/\H b=some (.tup (ys.map V.int))/\xs.length<=1000/\∀ H',Ext H H'->Q (.bl (xs.all fun x=>decide (x∈ys))) H'
def jVL (T:Txt mg): { t:TS // JSs (XOf jN5 "_law_in" jDA P w K mg lv f lw A lu s H0 E) (jC jDA) t} :=
 have nd:=scLawIn.nd
 ⟨_,(jB (jN (jNV (jH (jBI rfl) gD T.any (by decide+kernel) (j3 (jR (m:=[none,some 1]) (Nc:=["t","other"]) rfl (qC (jv 0 rfl vL)) rfl (by decide+kernel) (by decide+kernel) (jG (psc:=j6 jDA)) (jF (N:=jN5) rfl rfl (by decide+kernel)) (fun cl C fp s H=>jJ (i:=0) (show (["t","other"]:List Str).Nodup by decide+kernel) rfl y9) (fun cl C fp s H=>kG) (fun cl C fp s H=>(yR jFB (jv 0 rfl jL) (jv 1 rfl kD) jBD)) y6) j7 jE) jE))))⟩
theorem jPU {fd:FuncData}(F:Fun K "_law_in" "_law_in" jDA f fd)(T:Txt mg):FnOk P w K mg lv CX0 1 f fd ["one","other"] jFU:=by
 refine F.ok scLawIn (fun vs H Q E h=>?_) (fun lw A lu s H vs Q E hr h=>?_)
 ·obtain⟨_,_,_,_,rfl,_⟩:=h
  rfl
 ·obtain⟨a,b,xs,ys,rfl,ha,hb,hl,q⟩:=h
  refine⟨_,(jVL T).2.h,?_⟩
  refine⟨_,rfl,a,rfl,⟨_,SqT.of ha⟩,jKN (xs:=xs.map V.int) (fun σ=>∃ v1,σ=[v1,some (.ref b)]) (mapZ xs fun x=>V.bl (!decide (x∈ys))) (mapZ.ok _ _) ha (by rw[af,aw]; lia) ⟨_,rfl⟩ ?_ ?_⟩
  ·rintro j x σ' H' zs hx ⟨v1,rfl⟩ e hz S1 S2 yes no
   obtain⟨z,hz',rfl⟩:=int_at hx
   dsimp only [kO,yJ]
   rw[ar rfl]
   refine⟨_,rfl,_,rfl,b,_,rfl, .inr (SqT.of (e _ _ hb)),rfl,jAD _,?_⟩
   rw[jAI]
   exact yes _ _ _ ⟨_,rfl⟩ (Ext.refl _) (hz.yes hz')
  ·rintro D H3 zs h3 e3 hn hz
   have hz:=hz.all (by rw[af]; exact am _)
   have hz2:zs=(xs.map fun x=>!decide (x∈ys)).map V.bl:=by rw[hz,bL]; rfl
   rw[hz2] at h3
   refine⟨D,_,rfl,SqL.of h3,?_⟩
   have an:(!(xs.map fun x=>!decide (x∈ys)).any id)=xs.all fun x=>decide (x∈ys):=by
    rw[ic,List.not_any_eq_all_not]
    congr 1
    funext x
    simp
   refine⟨_,rfl,?_⟩
   rw[an]
   exact q H3 e3
abbrev jG5:List Str:=["lots","found","lot"]
theorem scWLeast:FnScope jG5 ["lots"] (j6 jAY):= {}
def jDP:Sp:=fun vs H Q _=>∃ (p:Addr) (us:List V) (ws:List (List Int)),vs=[.ref p]/\H p=some (.lst us)/\LsAt H us ws/\ws.length<=65536/\(∀ x∈ws,x.length<=1000)/\
 ∀ l us' H',H' l=some (.lst us')->LsAt H' us' (kJ (fun _=>true) ws)->Ext H H'->H l=none->Q (.ref l) H'
def jRV (T:Txt mg)(CI:Can P w K mg lv "_law_in" 1 fI fdI ["one","other"] jFU)(hr:Room 1 (XOf jG5 "_law_least" jAY P w K mg lv f lw A lu s H0 E).A): { t:TS // JSs (XOf jG5 "_law_least" jAY P w K mg lv f lw A lu s H0 E) (jC jAY) t} :=
 have nd:=scWLeast.nd
 ⟨_,(jD (jT (i:=1) nd rfl lL (yQ j7) jBX)
   (jD (qB cf rfl (kY (jv 0 rfl vL)) (jJ (i:=2) nd rfl loc_c) (jB (yU (jCI (qF (jH (jBI rfl) gD T.any (by decide+kernel) (j3 (jR (m:=[none,some 2]) (Nc:=["other","lot"]) rfl (kY (jv 1 rfl vL)) rfl (by decide+kernel) (by decide+kernel) (jG (psc:=j6 jAY)) (jF (N:=jG5) rfl rfl (by decide+kernel)) (fun cl C fp s H=>jJ (i:=0) (show (["other","lot"]:List Str).Nodup by decide+kernel) rfl y9) (fun cl C fp s H=>kG) (fun cl C fp s H=>(CI.je hr gl_b (j3 (jv 0 rfl jL) (j3 (jv 1 rfl kD) j7 j4) j4) j4)) y6) j7 jE) jE) yW)) (jB (jAM (je_bm bK bW bX jA2 (jv 1 rfl vL) (j3 (jv 2 rfl vC) j7 j4) j4) jU)) kU)) y6)
   (jB (jN (jv 1 rfl vL)))))⟩
theorem jMP {fd:FuncData}(F:Fun K "_law_least" "_law_least" jAY f fd)(T:Txt mg)(CI:Can P w K mg lv "_law_in" 1 fI fdI ["one","other"] jFU):FnOk P w K mg lv CX0 2 f fd ["lots"] jDP:=by
 refine F.ok scWLeast (fun vs H Q E h=>?_) (fun lw A lu s H vs Q E hr h=>?_)
 ·obtain⟨_,_,_,rfl,_⟩:=h
  rfl
 ·obtain⟨p,us,ws,rfl,hp,hu,wl,sh,q⟩:=h
  refine⟨_,(jRV T CI hr).2.h,?_⟩
  have ul:=LsAt.len hu
  refine⟨by show (0:Nat)<=_; decide,fun l H1 d1 e1 n1=>?_⟩
  have pl:p≠l:=fun z=>by rw[z,n1] at hp; cases hp
  refine⟨_,rfl,p,rfl,⟨_,SqL.of (e1 _ _ hp)⟩,jBT (xs:=us) (fun i σ H'=>(∃ v2,σ=[some (.ref p),some (.ref l),v2])/\(∀ b o,H1 b=some o->b≠l->H' b=some o)/\∃ zs,H' l=some (.lst zs)/\LsAt H' zs (kJ (fun _=>true) (ws.take i))) ⟨⟨_,rfl⟩,fun _ _ h _=>h,[],d1,trivial⟩ (fun i σ H' _ ⟨_,k,_⟩=>SqL.of (k _ _ (e1 _ _ hp) pl)) ?_ ?_⟩
  ·rintro i v σ H' hv ⟨⟨v2,rfl⟩,k,zs,hz1,hz2⟩
   obtain⟨x,hx,qa,rfl,hqa⟩:=All2.get' hu hv
   have qx:H' qa=some (.tup (x.map V.int)):=k _ _ (e1 _ _ hqa) fun z=>by rw[z,n1] at hqa; cases hqa
   have il:i<us.length:=(aj.mp hv).1
   have al:=jAR (fun _=>true) ws i
   have zl:=LsAt.len hz2
   have ra:∀ y∈kJ (fun _=>true) (ws.take i),y.length<=1000:=fun y hy=>by
    rcases jAQ hy with z | z
    ·cases z
    ·exact sh y (cw z)
   refine⟨_,rfl,l,rfl,⟨_,SqL.of hz1⟩,jA9 (xs:=zs) (fun σ=>∃ v1,σ=[v1,some (.ref qa)]) (mapZ (kJ (fun _=>true) (ws.take i)) fun y=>V.bl (inB y x)) (mapZ.ok _ _) hz1 (by rw[aw]; lia) ⟨_,rfl⟩ ?_ ?_⟩
   ·rintro i' v' σ' H2 zs' hv' ⟨v1,rfl⟩ e hz' S1 S2 yes no
    obtain⟨y,hy,a,rfl,ha⟩:=All2.get' hz2 hv'
    dsimp only [kO,yJ]
    rw[ar rfl]
    exact⟨_,rfl,_,rfl,a,qa,y,x,rfl,e _ _ ha,e _ _ qx,ra y (aJ hy),fun H'' e'=>yes _ _ _ ⟨_,rfl⟩ e' (hz'.yes hy)⟩
   ·rintro D' H2 zs' h2 e2 n2 hz'
    have hz':=hz'.all (by rw[zl]; exact am _)
    have hz3:zs'=((kJ (fun _=>true) (ws.take i)).map fun y=>inB y x).map V.bl:=by rw[hz',bL]; rfl
    rw[hz3] at h2
    refine⟨D',_,rfl,SqL.of h2,_,rfl,?_⟩
    have ea:((kJ (fun _=>true) (ws.take i)).map fun y=>inB y x).any id=(kJ (fun _=>true) (ws.take i)).any fun y=>inB y x:=by rw[ic]; rfl
    rw[ea]
    have hl2:=e2 _ _ hz1
    refine ite2 (fun c1=>?_) (fun c1=>?_)
    ·have hs:kJ (fun _=>true) (ws.take (i+1))=kJ (fun _=>true) (ws.take i)++[x]:=by
      rw[jB4 hx]
      unfold yD
      rw[ar (by rw[c1]; rfl)]
     refine⟨_,rfl, .inl ⟨rfl,_,SqL.of hl2⟩,_,rfl,l,zs,_,rfl,rfl,hl2,by rw[aw]; lia,⟨_,rfl⟩,fun b o h ne=>by rw[j8 ne]; exact e2 _ _ (k b o h ne),_,j5,?_⟩
     have t2:=Tups.upd hl2 (.lst (zs++[.ref qa]))
     rw[hs]
     exact LsAt.snoc (LsAt.mono t2 (LsAt.mono e2.tups hz2)) (t2 _ _ (e2 _ _ qx))
    ·have hs:kJ (fun _=>true) (ws.take (i+1))=kJ (fun _=>true) (ws.take i):=by
      rw[jB4 hx]
      unfold yD
      rw[ao (by rw[bI]; exact fun z=>c1 z.1)]
     exact⟨⟨_,rfl⟩,fun b o h ne=>e2 _ _ (k b o h ne),zs,hl2,by rw[hs]; exact LsAt.mono e2.tups hz2⟩
  ·rintro σ H' ⟨⟨v2,rfl⟩,k,zs,hz1,hz2⟩
   rw[ul,bw] at hz2
   exact⟨_,rfl,q l zs H' hz1 hz2 (fun b o h=>k b o (e1 _ _ h) fun z=>by rw[z,n1] at h; cases h) n1⟩
abbrev jG7:List Str:=["found","due"]
theorem scIsLots:FnScope jG7 ["found","due"] (j6 jB0):= {}
def jAH:Sp:=fun vs H Q _=>∃ (a b:Addr) (us ds:List V) (ws:List (List Int)),vs=[.ref a, .ref b]/\H a=some (.lst us)/\H b=some (.lst ds)/\LsAt H us ws/\LsAt H ds ws/\ws.length<=65536/\(∀ x∈ws,x.length<=100)/\∀ H',Ext H H'->Q (.bl true) H'
def jTK (T:Txt mg)(CW:Can P w K mg lv "_law_wholes" 2 fW fdW ["found"] jDO)(hr:Room 2 (XOf jG7 "_law_is_lots" jB0 P w K mg lv f lw A lu s H0 E).A): { t:TS // JSs (XOf jG7 "_law_is_lots" jB0 P w K mg lv f lw A lu s H0 E) (jC jB0) t} :=
 have nd:=scIsLots.nd
 ⟨_,(jB (jN ((jFE (jH jA5 gD T.isinstance (by decide+kernel) (j3 (jv 0 rfl vL) (j3 (jC3 (v:= .ty "list") gD T.list (by decide+kernel) rfl) j7 j4) j4) j4) (jFE (jH (jAV rfl) gD T.all (by decide+kernel) (j3 (jR (m:=[none]) (Nc:=["lot"]) rfl (kY (jv 0 rfl vL)) rfl (by decide+kernel) (by decide+kernel) (jG (psc:=j6 jB0)) (jF (N:=jG7) rfl rfl (by decide+kernel)) (fun cl C fp s H=>jJ (i:=0) (show (["lot"]:List Str).Nodup by decide+kernel) rfl y9) (fun cl C fp s H=>kG) (fun cl C fp s H=>(CW.je hr gl_b (j3 (jv 0 rfl jL) j7 j4) j4)) y6) j7 jE) jE) (jFD (yR (jMN hr.units101) (jv 0 rfl vL) (jv 1 rfl vL) (kI _))))))))⟩
theorem jMW {fd:FuncData}(F:Fun K "_law_is_lots" "_law_is_lots" jB0 f fd)(T:Txt mg)(CW:Can P w K mg lv "_law_wholes" 2 fW fdW ["found"] jDO):FnOk P w K mg lv CX0 3 f fd ["found","due"] jAH:=by
 refine F.ok scIsLots (fun vs H Q E h=>?_) (fun lw A lu s H vs Q E hr h=>?_)
 ·obtain⟨_,_,_,_,_,rfl,_⟩:=h
  rfl
 ·obtain⟨a,b,us,ds,ws,rfl,ha,hb,hu,hd,wl,sh,q⟩:=h
  refine⟨_,(jTK T CW hr).2.h,?_⟩
  have ul:=LsAt.len hu
  refine⟨_,rfl,_,_,_,true,rfl, .lst ha,rfl,_,rfl,iteT ?_⟩
  refine⟨_,rfl,a,rfl,⟨_,SqL.of ha⟩,jA9 (xs:=us) (fun σ=>∃ v1,σ=[v1]) (mapZ ws fun _=>V.bl true) (mapZ.ok _ _) ha (by rw[aw]; lia) ⟨_,rfl⟩ ?_ ?_⟩
  ·rintro j v σ' H' zs hv ⟨v1,rfl⟩ e hz S1 S2 yes no
   obtain⟨x,hx,c,rfl,hc⟩:=All2.get' hu hv
   dsimp only [kO,yJ]
   rw[ar rfl]
   exact⟨_,rfl,c,x,rfl,e _ _ hc,sh x (aJ hx),fun H'' e'=>yes _ _ _ ⟨_,rfl⟩ e' (hz.yes hx)⟩
  ·rintro D H1 zs h1 e1 n1 hz
   have hz:=hz.all (by rw[ul]; exact am _)
   have hz2:zs=(ws.map fun _=>true).map V.bl:=by rw[hz,bL]; rfl
   rw[hz2] at h1
   refine⟨D,_,rfl,SqL.of h1,?_⟩
   have al:(ws.map fun _=>true).all id=true:=by
    rw[bJ]
    intro x hx
    obtain⟨_,_,rfl⟩:=aW.mp hx
    rfl
   rw[al]
   refine⟨_,rfl,iteT ?_⟩
   refine⟨_,rfl,_,rfl,_,_,⟨a,us,rfl,e1 _ _ ha,jGB (LsAt.mono e1.tups hu)⟩,⟨b,ds,rfl,e1 _ _ hb,jGB (LsAt.mono e1.tups hd)⟩,jIS _,?_⟩
   rw[jCK]
   exact q H1 e1
abbrev nWDue:List Str:=["box","found","lot"]
theorem scWDue:FnScope nWDue ["box"] (j6 sWDue):= {}
def jD6:Sp:=fun vs H Q _=>∃ (b:Addr) (w:Int) (ms:List Int) (pcs:List (List Int×Int)),vs=[.ref b]/\BoxAt H b w ms pcs/\Good 16 16 w ms pcs/\
 ∀ l us H',H' l=some (.lst us)->LsAt H' us (jEK w ms pcs)->Ext H H'->H l=none->Q (.ref l) H'
def wdueA (T:Txt mg)(CL:Can P w K mg lv "_law_lots" 1 fL fdL ["wide"] jFS)(CB:Can P w K mg lv "_law_is_bar" 20 fB fdB ["box","lot"] jJK)(CE:Can P w K mg lv "_law_least" 2 fE fdE ["lots"] jDP)(hr:Room 20 (XOf nWDue "_law_due" sWDue P w K mg lv f lw A lu s H0 E).A): { t:TS // JSs (XOf nWDue "_law_due" sWDue P w K mg lv f lw A lu s H0 E) (jC sWDue) t} :=
 have nd:=scWDue.nd
 ⟨_,(jD (jT (i:=1) nd rfl lL (yQ j7) jBX)
   (jD (qB cf rfl (kY (CL.je (hr.mono (by decide)) gD (j3 (kB kP (jv 0 rfl vL) (je_int) jK) j7 jX) jX)) (jJ (i:=2) nd rfl loc_c) (jB (yU (jCI (qF (CB.je hr gD (j3 (jv 0 rfl vL) (j3 (jZ jM gD T.tuple (by decide+kernel) (j3 (jR (m:=[none,some 2]) (Nc:=["t","lot"]) rfl (jA3 gD T.range (j3 (kB kP (jv 0 rfl vL) (je_int) jK) j7 jX) jX) rfl (by decide+kernel) (by decide+kernel) (jG (psc:=j6 sWDue)) (jF (N:=nWDue) rfl rfl (by decide+kernel)) (fun cl C fp s H=>jJ (i:=0) (show (["t","lot"]:List Str).Nodup by decide+kernel) rfl y9) (fun cl C fp s H=>jB5 (kL jFB (jv 0 rfl jL) (jv 1 rfl kD) jBD)) (fun cl C fp s H=>(jv 0 rfl jL)) kE) j7 jE) jE) j7 jI) j4) j4) yW)) (jB (jAM (je_bm bK bW bX jA2 (jv 1 rfl vL) (j3 (jv 2 rfl vC) j7 j4) j4) jU)) kU)) kE)
   (jB (jN (CE.je (hr.mono (by decide)) gD (j3 (jv 1 rfl vL) j7 j4) j4)))))⟩
theorem jSZ {fd:FuncData}(F:Fun K "_law_due" "_law_due" sWDue f fd)(T:Txt mg)(CL:Can P w K mg lv "_law_lots" 1 fL fdL ["wide"] jFS)(CB:Can P w K mg lv "_law_is_bar" 20 fB fdB ["box","lot"] jJK)(CE:Can P w K mg lv "_law_least" 2 fE fdE ["lots"] jDP):FnOk P w K mg lv CX0 21 f fd ["box"] jD6:=by
 refine F.ok scWDue (fun vs H Q E h=>?_) (fun lw A lu s H vs Q E hr h=>?_)
 ·obtain⟨_,_,_,_,rfl,_⟩:=h
  rfl
 ·obtain⟨b,wi,ms,pcs,rfl,hB,g,q⟩:=h
  refine⟨_,(wdueA T CL CB CE hr).2.h,?_⟩
  obtain⟨qm,qp,ps,b1,b2,b3,b4⟩:=id hB.ex
  have w0:=g.w0
  have w1:=g.w1
  have p16:2 ^ wi.toNat<=2 ^ 16:=bQ (by decide) (by lia)
  have p16':(2 ^ 16:Nat)=65536:=by decide
  have sl:=jE3 wi.toNat
  refine⟨by show (0:Nat)<=_; decide,fun l0 H1 d1 e1 n1=>?_⟩
  refine⟨_,rfl,b,_,0,_,rfl,rfl,SqT.of (e1 _ _ b1),rfl,wi.toNat,by show [V.int wi]=[V.int ((wi.toNat:Nat):Int)]; rw[eG w0],by lia,fun l us H2 h2 hu e2 n2=>?_⟩
  have ul:=LsAt.len hu
  have d2:=e2 _ _ d1
  have nl:l≠l0:=fun z=>by rw[z,d1] at n2; cases n2
  refine⟨l,rfl,⟨_,SqL.of h2⟩,jBT (xs:=us) (fun i σ H'=>(∃ v2,σ=[some (.ref b),some (.ref l0),v2])/\(∀ c o,H2 c=some o->c≠l0->H' c=some o)/\∃ zs,H' l0=some (.lst zs)/\LsAt H' zs (((yE wi.toNat).take i).filter fun x=>!barP ms pcs (qH wi.toNat x))) ⟨⟨_,rfl⟩,fun _ _ h _=>h,[],d2,trivial⟩ (fun i σ H' _ ⟨_,k,_⟩=>SqL.of (k _ _ h2 nl)) ?_ ?_⟩
  ·rintro i v σ H' hv ⟨⟨v2,rfl⟩,k,zs,z1,z2⟩
   obtain⟨x,hx,qa,rfl,hqa⟩:=All2.get' hu hv
   have il:i<us.length:=(aj.mp hv).1
   have zl:zs.length<=65536:=by
    rw[LsAt.len z2]
    exact bf (bD _ _) (bf (bu _ _) (by lia))
   have kt:∀ c xs,H c=some (.tup xs)->H' c=some (.tup xs):=fun c xs h=>k _ _ (e2 _ _ (e1 _ _ h)) fun z=>by rw[z,n1] at h; cases h
   have hq:H' qa=some (.tup (x.map V.int)):=k _ _ hqa fun z=>by rw[z,d2] at hqa; cases hqa
   refine⟨_,rfl,_,rfl,b,_,0,_,rfl,rfl,SqT.of (kt _ _ b1),rfl,wi,rfl,by lia,by lia,jDY (n:=wi.toNat) (fun σ=>∃ v,σ=[v,some (.ref qa)]) (outZ (upto wi.toNat) (fun t=>!decide (t∈x)) V.int) (outZ.ok _ _ _) (by rw[aw]; lia) ⟨_,rfl⟩ ?_ ?_⟩
   ·rintro j σ' H3 zs' hj ⟨v,rfl⟩ e hz S1 S2 yes no
    have e0:(0+(j:Int))=(j:Int):=by lia
    refine⟨_,rfl,_,rfl,qa,_,rfl, .inr (SqT.of (e _ _ hq)),rfl,jAD _,_,rfl,?_⟩
    rw[e0,jAI]
    refine ite2 (fun h=>?_) (fun h=>?_)
    ·exact⟨_,rfl,yes _ _ _ ⟨_,rfl⟩ (Ext.refl _) (hz.yes (jDL hj) h)⟩
    ·exact no _ _ ⟨_,rfl⟩ (Ext.refl _) (hz.no (jDL hj) (bY.mpr h))
   ·rintro D H3 zs' h3 e3 n3 hz
    have hz:=hz.all (by rw[jBM]; exact am _)
    have hz:zs'=(qH wi.toNat x).map V.int:=hz
    rw[hz] at h3
    refine⟨D,_,rfl, .inl ⟨SqL.of h3,fun r hr'=>?_⟩⟩
    have e4:Ext H3 (L2.upd H3 r (.tup ((qH wi.toNat x).map V.int))):=(Ext.refl _).new hr' _
    have d4:(L2.upd H3 r (.tup ((qH wi.toNat x).map V.int))) r=some (.tup ((qH wi.toNat x).map V.int)):=j5
    generalize L2.upd H3 r (.tup ((qH wi.toNat x).map V.int))=H4 at e4 d4
    have E4:=e3.trans e4
    have rr:=jE4 wi.toNat x
    refine⟨b,r,wi,ms,pcs,qH wi.toNat x,rfl,BoxAt.mono hB fun c xs h=>E4 _ _ (kt _ _ h),g,d4,⟨rr.ris,fun z hz=>by have:=rr.bnd z hz; lia⟩,fun H5 e5=>⟨_,rfl,?_⟩⟩
    have E5:=E4.trans e5
    have l5:=E5 _ _ z1
    have tk:(yE wi.toNat).take (i+1)=(yE wi.toNat).take i++[x]:=by rw[bg,hx]; rfl
    refine ite2 (fun c1=>?_) (fun c1=>?_)
    ·have t5:=Tups.upd l5 (.lst (zs++[.ref qa]))
     refine⟨_,rfl, .inl ⟨rfl,_,SqL.of l5⟩,_,rfl,l0,zs,_,rfl,rfl,l5,by rw[aw]; lia,⟨_,rfl⟩,fun c o h ne=>by rw[j8 ne]; exact E5 _ _ (k c o h ne),_,j5,?_⟩
     rw[tk,bE,cg,ar c1,fq]
     exact LsAt.snoc (LsAt.mono t5 (LsAt.mono E5.tups z2)) (t5 _ _ (E5 _ _ hq))
    ·refine⟨⟨_,rfl⟩,fun c o h ne=>E5 _ _ (k c o h ne),zs,l5,?_⟩
     rw[tk,bE,cg,ao c1,fq,aZ]
     exact LsAt.mono E5.tups z2
  ·rintro σ H' ⟨⟨v2,rfl⟩,k,zs,z1,z2⟩
   rw[ul,bw] at z2
   have fl:=bD (fun x=>!barP ms pcs (qH wi.toNat x)) (yE wi.toNat)
   refine⟨_,rfl,l0,zs,_,rfl,z1,z2,by lia,fun x hx=>?_,fun l2 us2 H3 h3 hu3 e3 n3=>?_⟩
   ·have r:=jBA (ba.mp hx).1
    have:=jBC x 0 _ r.ris r.bnd
    lia
   ·have E3:Ext H H':=fun c o h=>k _ _ (e2 _ _ (e1 _ _ h)) fun z=>by rw[z,n1] at h; cases h
    refine q l2 us2 H3 h3 ?_ (E3.trans e3) ?_
    ·rw[jPZ (g.wide (by decide) (by decide)),jGG]
     exact hu3
    ·cases z:H l2 with
     | none=>rfl
     | some o=>rw[E3 _ _ z] at n3; cases n3
end Eo
section
namespace L2
open PySem PySem.Spec PyProof.Rows
theorem jVZ {a b:Expr}{op:Operator}{pos:Pos} :FoOk (.BinOp a op b pos):=⟨fun _ _=>rfl⟩
end L2
namespace Eo
open PySem L2
section
variable {fX fD:Addr}{fdX fdD:FuncData}
abbrev nLaw:List Str:=["script","rows","k","box","due","found"]
theorem scLaw:FnScope nLaw ["script"] (j6 sLaw):= {}
abbrev XLaw (P:Program)(w:World)(K:W.Frag)(mg:Str->Option Value)(lv:Heap)(f:Addr)(lw:Value)(A:Around)(lu:List Env)(s:Shared)(H:Hp)(E:XK):Cx:=XOf nLaw "law" sLaw P w K mg lv f lw A lu s H E
def jR0 (T:Txt mg)(CC:Can P w K mg lv "_law_cell_at" 1 fC fdC ["script","k"] (jD7 K))(CP:Can P w K mg lv "_law_pot" 1 fP fdP ["cell"] spPot)(CX:Can P w K mg lv "_law_box" 3 fX fdX ["pot","most_things","most_pieces"] spBox)(CD:Can P w K mg lv "_law_due" 21 fD fdD ["box"] jD6)(CB:Can P w K mg lv "least_mends" 11 fB fdB ["box"] (jB8 tb1 tb2 tb3 tb4 tb5))(CI:Can P w K mg lv "_law_is_lots" 3 fI fdI ["found","due"] jAH)(hr:Room 21 (XLaw P w K mg lv f lw A lu s H0 E).A): { t:TS // JSs (XLaw P w K mg lv f lw A lu s H0 E) (jCG ((jC sLaw).getD 1 (.Pass ⟨0,0,0,0⟩))) t} :=
 have nd:=scLaw.nd
 ⟨_,(jD (jT (i:=3) nd rfl lL (CX.je (hr.mono (by decide)) gD (j3 (CP.je (hr.mono (by decide)) gD (j3 (CC.je (hr.mono (by decide)) gD (j3 (jv 0 rfl vL) (j3 (jv 2 rfl vL) j7 j4) j4) j4) j7 jI) jI) (j3 (kN jDE (je_int) (jv 2 rfl vL)) (j3 (je_int) j7 kQ) yA) jI) jI) jU)
   (jB (jAM (je_bm bK bW bX jA2 (jv 1 rfl vL) (j3 (y4 (j3 (jv 3 rfl vL) (j3 (CD.je hr gD (j3 (jv 3 rfl vL) j7 j4) j4) j7 jI) j4)) j7 yZ) yZ) jU)))⟩
def jQZ (T:Txt mg)(CC:Can P w K mg lv "_law_cell_at" 1 fC fdC ["script","k"] (jD7 K))(CP:Can P w K mg lv "_law_pot" 1 fP fdP ["cell"] spPot)(CX:Can P w K mg lv "_law_box" 3 fX fdX ["pot","most_things","most_pieces"] spBox)(CD:Can P w K mg lv "_law_due" 21 fD fdD ["box"] jD6)(CB:Can P w K mg lv "least_mends" 11 fB fdB ["box"] (jB8 tb1 tb2 tb3 tb4 tb5))(CI:Can P w K mg lv "_law_is_lots" 3 fI fdI ["found","due"] jAH)(hr:Room 21 (XLaw P w K mg lv f lw A lu s H0 E).A): { t:TS // JSs (XLaw P w K mg lv f lw A lu s H0 E) (jCG ((jC sLaw).getD 2 (.Pass ⟨0,0,0,0⟩))) t} :=
 have nd:=scLaw.nd
 ⟨_,(jD (jT (i:=5) nd rfl lL (CB.je (hr.mono (by decide)) gD (j3 (jv 3 rfl vL) j7 j4) j4) jU)
   (jD (yU (jCI (qF (CI.je (hr.mono (by decide)) gD (j3 (jv 5 rfl vL) (j3 (jv 4 rfl vL) j7 j4) j4) j4) yW)) (jB (jN (je_bl))) kU)
   (jB (jAM (je_bm bK bW bX jA2 (jv 5 rfl vL) (j3 (y4 (j3 (je_int) j7 kQ)) j7 yZ) yZ) jU))))⟩
def lawA (T:Txt mg)(CC:Can P w K mg lv "_law_cell_at" 1 fC fdC ["script","k"] (jD7 K))(CP:Can P w K mg lv "_law_pot" 1 fP fdP ["cell"] spPot)(CX:Can P w K mg lv "_law_box" 3 fX fdX ["pot","most_things","most_pieces"] spBox)(CD:Can P w K mg lv "_law_due" 21 fD fdD ["box"] jD6)(CB:Can P w K mg lv "least_mends" 11 fB fdB ["box"] (jB8 tb1 tb2 tb3 tb4 tb5))(CI:Can P w K mg lv "_law_is_lots" 3 fI fdI ["found","due"] jAH)(hr:Room 21 (XLaw P w K mg lv f lw A lu s H0 E).A): { t:TS // JSs (XLaw P w K mg lv f lw A lu s H0 E) (jC sLaw) t} :=
 have nd:=scLaw.nd
 ⟨_,(jD (jT (i:=1) nd rfl lL (yQ j7) jBX) (jD (qB cf rfl (jA3 gD T.range (j3 (je_int) j7 kQ) kQ) (jJ (i:=2) nd rfl lL) (jR0 T CC CP CX CD CB CI hr).2 kE) (jD (qB cf rfl (kY (kN jK0 (jv 1 rfl vL) (jv 1 rfl vL))) (jDX (i:=3) (j:=4) nd rfl rfl (by decide+kernel) (by decide+kernel)) (jQZ T CC CP CX CD CB CI hr).2 jVZ) (jB (jN (je_bl))))))⟩
abbrev LL (tb1 tb2 tb3 tb4 tb5:Addr):List TT:=L5 tb1 tb2 tb3 tb4 tb5
def RwAt (l:Addr)(H:Hp)(v:V):Prop:=∃ t b d wi ms pcs us,v= .ref t/\H t=some (.tup [.ref b, .ref d])/\BoxAt H b wi ms pcs/\Good 16 32 wi ms pcs/\wi<=9/\H d=some (.lst us)/\LsAt H us (jEK wi ms pcs)/\d≠l
theorem RwAt.keep {l:Addr}{H H':Hp}{v:V}(h:RwAt l H v)(t:Tups H H')(k:∀ b xs,H b=some (.lst xs)->b≠l->H' b=some (.lst xs)):RwAt l H' v:=by
 obtain⟨t',b,d,wi,ms,pcs,us,e,h1,h2,h3,h4,h5,h6,h7⟩:=h
 exact⟨t',b,d,wi,ms,pcs,us,e,t _ _ h1,h2.mono t,h3,h4,k _ _ h5 h7,LsAt.mono t h6,h7⟩
theorem jKW (T:Txt mg)(CC:Can P w K mg lv "_law_cell_at" 1 fC fdC ["script","k"] (jD7 K))(CP:Can P w K mg lv "_law_pot" 1 fP fdP ["cell"] spPot)(CX:Can P w K mg lv "_law_box" 3 fX fdX ["pot","most_things","most_pieces"] spBox)(CD:Can P w K mg lv "_law_due" 21 fD fdD ["box"] jD6)(CB:Can P w K mg lv "least_mends" 11 fB fdB ["box"] (jB8 tb1 tb2 tb3 tb4 tb5))(CI:Can P w K mg lv "_law_is_lots" 3 fI fdI ["found","due"] jAH)(hr:Room 21 (XLaw P w K mg lv f lw A lu s H0 E).A)
  {D:Ends}{H:Hp}{b d:Addr}{wi:Int}{ms:List Int}{pcs:List (List Int×Int)}{us:List V}{v0 v1 v2 v5:Option V}(hB:BoxAt H b wi ms pcs) (g:Good 16 32 wi ms pcs) (w9:wi<=9) (hd:H d=some (.lst us)) (hu:LsAt H us (jEK wi ms pcs)) (tab:TbS (LL tb1 tb2 tb3 tb4 tb5) H)
  (nx:∀ H' v5,ExS (ads (LL tb1 tb2 tb3 tb4 tb5)) H H'->TbS (LL tb1 tb2 tb3 tb4 tb5) H'->D.nx [v0,v1,v2,some (.ref b),some (.ref d),v5] H'):
  (jQZ T CC CP CX CD CB CI hr).1 D [v0,v1,v2,some (.ref b),some (.ref d),v5] H:=by
 have w9':wi<=16:=by lia
 obtain⟨l1,l2⟩:=jRH (ms:=ms) (pcs:=pcs) w9' (mendP (lBars wi ms pcs))
 have l1:(jEK wi ms pcs).length<=65536:=l1
 refine⟨_,rfl,b,wi,ms,pcs,rfl,hB,g,w9,tab,fun l fs H1 h1 hf e1 t1 n1=>?_⟩
 have d1:=tab.at e1 hd
 refine⟨_,rfl,_,rfl,l,d,fs,us,_,rfl,h1,d1,hf,LsAt.mono (tab.tups e1) hu,l1,l2,fun H2 e2=>⟨_,rfl,iteF ?_⟩⟩
 have h2:=e2 _ _ h1
 have fl:=LsAt.len hf
 refine⟨_,rfl, .inl ⟨rfl,_,SqL.of h2⟩,by show (1:Nat)<=_; decide,fun t H3 d3 e3=>?_⟩
 have h3:=e3 _ _ h2
 refine⟨l,fs,_,rfl,rfl,h3,by rw[aw]; lia,?_⟩
 refine nx _ _ (fun c o h n=>?_) (TbS.lst ((t1.ext e2).ext e3) h3)
 rw[j8 fun z=>by rw[z,n1] at h; cases h]
 exact e3 _ _ (e2 _ _ (e1 c o h n))
theorem jKX (T:Txt mg)(CC:Can P w K mg lv "_law_cell_at" 1 fC fdC ["script","k"] (jD7 K))(CP:Can P w K mg lv "_law_pot" 1 fP fdP ["cell"] spPot)(CX:Can P w K mg lv "_law_box" 3 fX fdX ["pot","most_things","most_pieces"] spBox)(CD:Can P w K mg lv "_law_due" 21 fD fdD ["box"] jD6)(CB:Can P w K mg lv "least_mends" 11 fB fdB ["box"] (jB8 tb1 tb2 tb3 tb4 tb5))(CI:Can P w K mg lv "_law_is_lots" 3 fI fdI ["found","due"] jAH)(hr:Room 21 (XLaw P w K mg lv f lw A lu s H0 E).A)
  {D:Ends}{H:Hp}{a l:Addr}{ns:List Int}{k:Int}{rs:List V}{v3 v4 v5:Option V}(hS:SqL K H a (ns.map V.int)) (k0:0<=k) (k1:k<=1) (hl:H l=some (.lst rs)) (rn:rs.length<=100) (tab:TbS (LL tb1 tb2 tb3 tb4 tb5) H)
  (nx:∀ H' v3 v4 t,(∀ c o,H c=some o->c≠l->H' c=some o)->H' l=some (.lst (rs++[.ref t]))->RwAt l H' (.ref t)->TbS (LL tb1 tb2 tb3 tb4 tb5) H'->D.nx [some (.ref a),some (.ref l),some (.int k),v3,v4,v5] H'):
  (jR0 T CC CP CX CD CB CI hr).1 D [some (.ref a),some (.ref l),some (.int k),v3,v4,v5] H:=by
 refine⟨_,rfl,_,rfl,a,ns,k,rfl,hS,k0,fun c=>⟨c,rfl,fun p N hp hN=>?_⟩⟩
 have e1:Ext H (L2.upd H p (.lst [.int N])):=(Ext.refl _).new hp _
 have d1:(L2.upd H p (.lst [.int N])) p=some (.lst [.int N]):=j5
 generalize L2.upd H p (.lst [.int N])=H1 at e1 d1
 refine⟨_,rfl,_,_,rfl,rfl,p,N,5 - k,7,rfl,d1,hN,by lia,by lia,by decide,by decide,fun b N2 wi ms pcs H2 hN2 d2 hB g0 kp=>?_⟩
 have g:Good 16 16 wi ms pcs:=g0.wide (by lia) (by decide)
 have e2:Ext H H2:=fun c o h=>kp _ _ (e1 _ _ h) (jA h hp)
 have w5:=g0.w1
 refine⟨_,rfl, .inl ⟨rfl,_,SqL.of (e2 _ _ hl)⟩,_,rfl,_,rfl,b,wi,ms,pcs,rfl,hB,g,fun d us H3 h3 hu e3 n3=>?_⟩
 refine⟨by show (2:Nat)<=_; decide,fun t H4 d4 e4=>?_⟩
 have E4:=(e2.trans e3).trans e4
 have l4:=E4 _ _ hl
 have nt:t≠l:=fun z=>by rw[z,l4] at d4; cases d4
 have dl:d≠l:=fun z=>by rw[z,e2 _ _ hl] at n3; cases n3
 refine⟨l,rs,_,rfl,rfl,l4,by rw[aw]; lia,?_⟩
 have tu:=Tups.upd l4 (.lst (rs++[.ref t]))
 refine nx _ _ _ t (fun c o h n=>by rw[j8 n]; exact E4 _ _ h) j5 ⟨t,b,d,wi,ms,pcs,us,rfl,tu _ _ d4,((hB.mono e3.tups).mono e4.tups).mono tu,g.wide (by decide) (by decide),by lia,by rw[j8 dl]; exact e4 _ _ h3,LsAt.mono tu (LsAt.mono e4.tups hu),dl⟩ (TbS.lst (tab.ext E4) l4)
def spLaw (K:W.Frag)(tb1 tb2 tb3 tb4 tb5:Addr):Sp:=fun vs H Q _=>∃ (a:Addr) (ns:List Int),vs=[.ref a]/\SqL K H a (ns.map V.int)/\ns.length<=63/\TabP H tb1/\TabW H tb2/\TabK H tb3/\TabOk H tb4 barPo qBarL/\TabOk H tb5 jRE qMend/\tb1≠tb2/\tb1≠tb3/\tb1≠tb4/\tb1≠tb5/\tb2≠tb3/\tb2≠tb4/\tb2≠tb5/\tb3≠tb4/\tb3≠tb5/\tb4≠tb5/\∀ H',Q (.bl true) H'
theorem jV7 {fd:FuncData}(F:Fun K "law" "law" sLaw f fd)(T:Txt mg)(CC:Can P w K mg lv "_law_cell_at" 1 fC fdC ["script","k"] (jD7 K))(CP:Can P w K mg lv "_law_pot" 1 fP fdP ["cell"] spPot)(CX:Can P w K mg lv "_law_box" 3 fX fdX ["pot","most_things","most_pieces"] spBox)(CD:Can P w K mg lv "_law_due" 21 fD fdD ["box"] jD6)(CB:Can P w K mg lv "least_mends" 11 fB fdB ["box"] (jB8 tb1 tb2 tb3 tb4 tb5))(CI:Can P w K mg lv "_law_is_lots" 3 fI fdI ["found","due"] jAH):FnOk P w K mg lv CX0 22 f fd ["script"] (spLaw K tb1 tb2 tb3 tb4 tb5):=by
 refine F.ok scLaw (fun vs H Q E h=>?_) (fun lw A lu s H vs Q E hr h=>?_)
 ·obtain⟨_,_,rfl,_⟩:=h
  rfl
 ·obtain⟨a,ns,rfl,hS,hlen,o1,o2,o3,o4,o5,n12,n13,n14,n15,n23,n24,n25,n34,n35,n45,k⟩:=h
  have tab:TbS (LL tb1 tb2 tb3 tb4 tb5) H:=⟨by unfold ads LL L5; simp [n12,n13,n14,n15,n23,n24,n25,n34,n35,n45],fun x hx=>by
   simp only [aF,bC,dh] at hx
   rcases hx with rfl | rfl | rfl | rfl | rfl
   ·exact o1
   ·exact o2
   ·exact o3
   ·exact o4
   ·exact o5⟩
  refine⟨_,(lawA T CC CP CX CD CB CI hr).2.h,?_⟩
  refine⟨by show (0:Nat)<=_; decide,fun l H1 d1 e1 n1=>?_⟩
  have T1:=tab.ext e1
  have al:∀ {xs:List V},SqL K H a xs->SqL K H1 a xs:=fun h=>TbS.sq tab (ExS.of e1) h
  refine⟨2,rfl,by decide,by decide,jBG (lo:=0) (n:=2) (fun i σ H'=>(∃ v2 v3 v4 v5,σ=[some (.ref a),some (.ref l),v2,v3,v4,v5])/\(∀ c o,H c=some o->H' c=some o)/\TbS (LL tb1 tb2 tb3 tb4 tb5) H'/\∃ rs,H' l=some (.lst rs)/\rs.length=i/\∀ v∈rs,RwAt l H' v) ⟨⟨_,_,_,_,rfl⟩,e1,T1,[],d1,rfl,fun v hv=>by cases hv⟩ ?_ ?_⟩
  ·rintro i σ H2 hi ⟨⟨v2,v3,v4,v5,rfl⟩,k2,t2,rs,hl,rl,hr2⟩
   have s2:SqL K H2 a (ns.map V.int):=TbS.sq tab (ExS.of k2) hS
   refine jKX T CC CP CX CD CB CI hr s2 (by lia) (by lia) hl (by lia) t2 fun H3 v3 v4 t k3 l3 r3 t3=>⟨⟨_,_,_,_,rfl⟩,fun c o h=>k3 _ _ (k2 _ _ h) (fun z=>by rw[z,n1] at h; cases h),t3,_,l3,by rw[aH,rl]; rfl,fun v hv=>?_⟩
   have tu:Tups H2 H3:=fun c xs h=>k3 _ _ h fun z=>by rw[z,hl] at h; cases h
   rcases aM.mp hv with z | z
   ·exact(hr2 v z).keep tu fun b xs h ne=>k3 _ _ h ne
   ·rw[aK.mp z]
    exact r3
  ·rintro σ H2 ⟨⟨v2,v3,v4,v5,rfl⟩,k2,t2,rs,hl,rl,hr2⟩
   refine⟨_,rfl,_,rfl,l,l,rs,rs,rfl,rfl,hl,hl,by rw[aw]; lia,fun l2 H3 d3 e3 _=>?_⟩
   have t3:=t2.ext e3
   refine⟨l2,rfl,⟨_,SqL.of d3⟩,jBT (xs:=rs++rs) (fun i σ H'=>(∃ v2 v3 v4 v5,σ=[some (.ref a),some (.ref l),v2,v3,v4,v5])/\ExS (ads (LL tb1 tb2 tb3 tb4 tb5)) H3 H'/\TbS (LL tb1 tb2 tb3 tb4 tb5) H') ⟨⟨_,_,_,_,rfl⟩,ExS.refl,t3⟩ (fun i σ H' _ ⟨_,e,_⟩=>SqL.of (t3.at e d3)) ?_ ?_⟩
   ·rintro i v σ H' hv ⟨⟨v2,v3,v4,v5,rfl⟩,e,t'⟩
    have vm:v∈rs:=by
     rcases aM.mp (aJ hv) with z | z <;> exact z
    have tu:=t3.tups e
    obtain⟨t,b,d,wi,ms,pcs,us,rfl,h1,h2,h3,h4,h5,h6,h7⟩:=((hr2 v vm).keep e3.tups fun b xs h _=>e3 _ _ h).keep tu fun b xs h _=>t3.at e h
    refine⟨t,_,rfl,SqT.of h1,rfl,_,_,rfl,_,_,rfl,rfl,?_⟩
    exact jKW T CC CP CX CD CB CI hr h2 h3 h4 h5 h6 t' fun H4 v5 e4 t4=>⟨⟨_,_,_,_,rfl⟩,e.trans e4,t4⟩
   ·rintro σ H' ⟨⟨v2,v3,v4,v5,rfl⟩,e,t'⟩
    exact k H'
end
theorem lenU1 {P:List Value->Prop} :∀ {us:List Value},us.length=1->(∀ a,P [a])->P us
 | [a],_,h=>h a
theorem lenU2 {P:List Value->Prop} :∀ {us:List Value},us.length=2->(∀ a b,P [a,b])->P us
 | [a,b],_,h=>h a b
theorem lenU3 {P:List Value->Prop} :∀ {us:List Value},us.length=3->(∀ a b c,P [a,b,c])->P us
 | [a,b,c],_,h=>h a b c
abbrev zN (K:W.Frag)(x:Str):=PySem.W.nsIn K mainGlobals x
abbrev zr (f:Addr):Option (Option Value):=some (some (.ref f))
abbrev zl (x:Str)(st:Stmt)(oc:Value)(od:Option Addr)(kV dc pm:Value)(an:Option Addr)(cd ct:Value)(sl:Array (Option Value)):Option Obj:=some ⟨oc,od, .func (PySem.W.fnOf x x (y8 st) (jC st) (j6 st) .none kV dc pm an cd ct),sl⟩
abbrev zc:=PySem.W.codeIn
abbrev zk (K:W.Frag)(f:Addr):=keepIn K (.ref f)
theorem zb1 {K:W.Frag}{x q p1:Str}{st:Stmt}{f:Addr}{fd:FuncData}(F:Fun K x q st f fd)(h:∀ (kV doc pm:Value) (an:Option Addr) (lw ct u1:Value),bindArgs (PySem.W.fnOf x q (y8 st) (jC st) (j6 st) .none kV doc pm an lw ct) ⟨[u1],[]⟩=pure [(p1,u1)]:=by intros; rfl):Binds K fd [p1] []:=F.binds fun kV doc pm an lw ct us hl=>lenU1 (P:=fun us=>bindArgs _ ⟨us,[]⟩=pure (List.zip _ us)) hl fun u1=>h kV doc pm an lw ct u1
theorem zb2 {K:W.Frag}{x q p1 p2:Str}{st:Stmt}{f:Addr}{fd:FuncData}(F:Fun K x q st f fd)(h:∀ (kV doc pm:Value) (an:Option Addr) (lw ct u1 u2:Value),bindArgs (PySem.W.fnOf x q (y8 st) (jC st) (j6 st) .none kV doc pm an lw ct) ⟨[u1,u2],[]⟩=pure [(p1,u1),(p2,u2)]:=by intros; rfl):Binds K fd [p1,p2] []:=F.binds fun kV doc pm an lw ct us hl=>lenU2 (P:=fun us=>bindArgs _ ⟨us,[]⟩=pure (List.zip _ us)) hl fun u1 u2=>h kV doc pm an lw ct u1 u2
theorem zb3 {K:W.Frag}{x q p1 p2 p3:Str}{st:Stmt}{f:Addr}{fd:FuncData}(F:Fun K x q st f fd)(h:∀ (kV doc pm:Value) (an:Option Addr) (lw ct u1 u2 u3:Value),bindArgs (PySem.W.fnOf x q (y8 st) (jC st) (j6 st) .none kV doc pm an lw ct) ⟨[u1,u2,u3],[]⟩=pure [(p1,u1),(p2,u2),(p3,u3)]:=by intros; rfl):Binds K fd [p1,p2,p3] []:=F.binds fun kV doc pm an lw ct us hl=>lenU3 (P:=fun us=>bindArgs _ ⟨us,[]⟩=pure (List.zip _ us)) hl fun u1 u2 u3=>h kV doc pm an lw ct u1 u2 u3
set_option autoImplicit true
set_option relaxedAutoImplicit true
set_option maxHeartbeats 8000000 in
theorem all_mk {l:PySem.W.OpenLaw}{w:World}{K:W.Frag}{h:Heap}{mg:Str->Option Value}{fa f1 f2 f3 f4 f5 f6 f7 f8 f9 f10 f11 f12 f13 f14 f15 f16 f17 f18 f19 f20 f21 f22 f23 f24 f25 f26 f27 f28 f29 f30 f31 f32 f33 f34 f35 f36 f37:Addr}(X:K.In h)(G:h.Ns mainGlobals mg)(hfa:mg "law" =some (.ref fa))
  {u1:Tok}
  (a1:zN K "is_whole" =zr f1) (l1:K.lookup f1=zl "is_whole" jC0 oc1 od1 kV1 dc1 pm1 an1 cd1 ct1 sl1) (c1:zc K cd1 "is_whole" =true) (k1:zk K f1=true)
  (a2:zN K "is_rising" =zr f2) (l2:K.lookup f2=zl "is_rising" jAK oc2 od2 kV2 dc2 pm2 an2 cd2 ct2 sl2) (c2:zc K cd2 "is_rising" =true) (k2:zk K f2=true)
  (a3:zN K "is_lot" =zr f3) (l3:K.lookup f3=zl "is_lot" jDB oc3 od3 kV3 dc3 pm3 an3 cd3 ct3 sl3) (c3:zc K cd3 "is_lot" =true) (k3:zk K f3=true)
  (a4:zN K "mask_of" =zr f4) (l4:K.lookup f4=zl "mask_of" sMask oc4 od4 kV4 dc4 pm4 an4 cd4 ct4 sl4) (c4:zc K cd4 "mask_of" =true) (k4:zk K f4=true)
  (a5:zN K "lot_of" =zr f5) (l5:K.lookup f5=zl "lot_of" jD9 oc5 od5 kV5 dc5 pm5 an5 cd5 ct5 sl5) (c5:zc K cd5 "lot_of" =true) (k5:zk K f5=true)
  (a6:zN K "picked" =zr f6) (l6:K.lookup f6=zl "picked" kX oc6 od6 kV6 dc6 pm6 an6 cd6 ct6 sl6) (c6:zc K cd6 "picked" =true) (k6:zk K f6=true)
  (a7:zN K "choices_of" =zr f7) (l7:K.lookup f7=zl "choices_of" yF oc7 od7 kV7 dc7 pm7 an7 cd7 ct7 sl7) (c7:zc K cd7 "choices_of" =true) (k7:zk K f7=true)
  (a8:zN K "full_mask" =zr f8) (l8:K.lookup f8=zl "full_mask" sFull oc8 od8 kV8 dc8 pm8 an8 cd8 ct8 sl8) (c8:zc K cd8 "full_mask" =true) (k8:zk K f8=true)
  (a9:zN K "choices_at" =zr f9) (l9:K.lookup f9=zl "choices_at" sAt oc9 od9 kV9 dc9 pm9 an9 cd9 ct9 sl9) (c9:zc K cd9 "choices_at" =true) (k9:zk K f9=true)
  (a10:zN K "masks_met" =zr f10) (l10:K.lookup f10=zl "masks_met" sMet oc10 od10 kV10 dc10 pm10 an10 cd10 ct10 sl10) (c10:zc K cd10 "masks_met" =true) (k10:zk K f10=true)
  (a11:zN K "gathered" =zr f11) (l11:K.lookup f11=zl "gathered" qO oc11 od11 kV11 dc11 pm11 an11 cd11 ct11 sl11) (c11:zc K cd11 "gathered" =true) (k11:zk K f11=true)
  (a12:zN K "ways_of" =zr f12) (l12:K.lookup f12=zl "ways_of" qL oc12 od12 kV12 dc12 pm12 an12 cd12 ct12 sl12) (c12:zc K cd12 "ways_of" =true) (k12:zk K f12=true)
  (a13:zN K "many" =zr f13) (l13:K.lookup f13=zl "many" sMany oc13 od13 kV13 dc13 pm13 an13 cd13 ct13 sl13) (c13:zc K cd13 "many" =true) (k13:zk K f13=true)
  (a14:zN K "have_common" =zr f14) (l14:K.lookup f14=zl "have_common" jBB oc14 od14 kV14 dc14 pm14 an14 cd14 ct14 sl14) (c14:zc K cd14 "have_common" =true) (k14:zk K f14=true)
  (a15:zN K "narrowed" =zr f15) (l15:K.lookup f15=zl "narrowed" jAZ oc15 od15 kV15 dc15 pm15 an15 cd15 ct15 sl15) (c15:zc K cd15 "narrowed" =true) (k15:zk K f15=true)
  (a16:zN K "is_bar" =zr f16) (l16:K.lookup f16=zl "is_bar" sBar oc16 od16 kV16 dc16 pm16 an16 cd16 ct16 sl16) (c16:zc K cd16 "is_bar" =true) (k16:zk K f16=true)
  (a17:zN K "is_within" =zr f17) (l17:K.lookup f17=zl "is_within" jB9 oc17 od17 kV17 dc17 pm17 an17 cd17 ct17 sl17) (c17:zc K cd17 "is_within" =true) (k17:zk K f17=true)
  (a18:zN K "least_lots" =zr f18) (l18:K.lookup f18=zl "least_lots" yT oc18 od18 kV18 dc18 pm18 an18 cd18 ct18 sl18) (c18:zc K cd18 "least_lots" =true) (k18:zk K f18=true)
  (a19:zN K "least_bars" =zr f19) (l19:K.lookup f19=zl "least_bars" yH oc19 od19 kV19 dc19 pm19 an19 cd19 ct19 sl19) (c19:zc K cd19 "least_bars" =true) (k19:zk K f19=true)
  (a20:zN K "least_mends" =zr f20) (l20:K.lookup f20=zl "least_mends" yG oc20 od20 kV20 dc20 pm20 an20 cd20 ct20 sl20) (c20:zc K cd20 "least_mends" =true) (k20:zk K f20=true)
  (a21:zN K "_law_cell_at" =zr f21) (l21:K.lookup f21=zl "_law_cell_at" sCell oc21 od21 kV21 dc21 pm21 an21 cd21 ct21 sl21) (c21:zc K cd21 "_law_cell_at" =true) (k21:zk K f21=true)
  (a22:zN K "_law_pot" =zr f22) (l22:K.lookup f22=zl "_law_pot" sPot oc22 od22 kV22 dc22 pm22 an22 cd22 ct22 sl22) (c22:zc K cd22 "_law_pot" =true) (k22:zk K f22=true)
  (a23:zN K "_law_take" =zr f23) (l23:K.lookup f23=zl "_law_take" sTake oc23 od23 kV23 dc23 pm23 an23 cd23 ct23 sl23) (c23:zc K cd23 "_law_take" =true) (k23:zk K f23=true)
  (a24:zN K "_law_lot" =zr f24) (l24:K.lookup f24=zl "_law_lot" sLot oc24 od24 kV24 dc24 pm24 an24 cd24 ct24 sl24) (c24:zc K cd24 "_law_lot" =true) (k24:zk K f24=true)
  (a25:zN K "_law_box" =zr f25) (l25:K.lookup f25=zl "_law_box" sBox oc25 od25 kV25 dc25 pm25 an25 cd25 ct25 sl25) (c25:zc K cd25 "_law_box" =true) (k25:zk K f25=true)
  (a26:zN K "_law_whole" =zr f26) (l26:K.lookup f26=zl "_law_whole" jE2 oc26 od26 kV26 dc26 pm26 an26 cd26 ct26 sl26) (c26:zc K cd26 "_law_whole" =true) (k26:zk K f26=true)
  (a27:zN K "_law_wholes" =zr f27) (l27:K.lookup f27=zl "_law_wholes" jAX oc27 od27 kV27 dc27 pm27 an27 cd27 ct27 sl27) (c27:zc K cd27 "_law_wholes" =true) (k27:zk K f27=true)
  (a28:zN K "_law_from" =zr f28) (l28:K.lookup f28=zl "_law_from" qP oc28 od28 kV28 dc28 pm28 an28 cd28 ct28 sl28) (c28:zc K cd28 "_law_from" =true) (k28:zk K f28=true)
  (a29:zN K "_law_coverings" =zr f29) (l29:K.lookup f29=zl "_law_coverings" sCovs oc29 od29 kV29 dc29 pm29 an29 cd29 ct29 sl29) (c29:zc K cd29 "_law_coverings" =true) (k29:zk K f29=true)
  (a30:zN K "_law_narrowed" =zr f30) (l30:K.lookup f30=zl "_law_narrowed" jA8 oc30 od30 kV30 dc30 pm30 an30 cd30 ct30 sl30) (c30:zc K cd30 "_law_narrowed" =true) (k30:zk K f30=true)
  (a31:zN K "_law_is_bar" =zr f31) (l31:K.lookup f31=zl "_law_is_bar" sWBar oc31 od31 kV31 dc31 pm31 an31 cd31 ct31 sl31) (c31:zc K cd31 "_law_is_bar" =true) (k31:zk K f31=true)
  (a32:zN K "_law_lots" =zr f32) (l32:K.lookup f32=zl "_law_lots" q0 oc32 od32 kV32 dc32 pm32 an32 cd32 ct32 sl32) (c32:zc K cd32 "_law_lots" =true) (k32:zk K f32=true)
  (a33:zN K "_law_in" =zr f33) (l33:K.lookup f33=zl "_law_in" jDA oc33 od33 kV33 dc33 pm33 an33 cd33 ct33 sl33) (c33:zc K cd33 "_law_in" =true) (k33:zk K f33=true)
  (a34:zN K "_law_least" =zr f34) (l34:K.lookup f34=zl "_law_least" jAY oc34 od34 kV34 dc34 pm34 an34 cd34 ct34 sl34) (c34:zc K cd34 "_law_least" =true) (k34:zk K f34=true)
  (a35:zN K "_law_is_lots" =zr f35) (l35:K.lookup f35=zl "_law_is_lots" jB0 oc35 od35 kV35 dc35 pm35 an35 cd35 ct35 sl35) (c35:zc K cd35 "_law_is_lots" =true) (k35:zk K f35=true)
  (a36:zN K "_law_due" =zr f36) (l36:K.lookup f36=zl "_law_due" sWDue oc36 od36 kV36 dc36 pm36 an36 cd36 ct36 sl36) (c36:zc K cd36 "_law_due" =true) (k36:zk K f36=true)
  (a37:zN K "law" =zr f37) (l37:K.lookup f37=zl "law" sLaw oc37 od37 kV37 dc37 pm37 an37 cd37 ct37 sl37) (c37:zc K cd37 "law" =true) (k37:zk K f37=true)
  (g1:zN K "MOST_THINGS_WITH_BARS" =some (some (.int 9 u1))) (z1:zN K "len" =some none) (z2:zN K "range" =some none) (z3:zN K "tuple" =some none) (z4:zN K "sorted" =some none) (z5:zN K "set" =some none) (z6:zN K "list" =some none) (z7:zN K "int" =some none) (z8:zN K "isinstance" =some none) (z9:zN K "bool" =some none) (z10:zN K "str" =some none) (z11:zN K "all" =some none) (z12:zN K "zip" =some none) (z13:zN K "max" =some none) (z14:zN K "min" =some none) (z15:zN K "any" =some none) (z16:zN K "abs" =some none) (z17:zN K "sum" =some none) (z18:zN K "enumerate" =some none) (z19:zN K "dict" =some none) {tb1 cc1:Addr}(cde1:cd6= .ref cc1) (hcd1:codeHdIn K cc1 tb1=true) {tb2 cc2:Addr}(cde2:cd12= .ref cc2) (hcd2:codeHdIn K cc2 tb2=true) {tb3 cc3:Addr}(cde3:cd18= .ref cc3) (hcd3:codeHdIn K cc3 tb3=true) {tb4 cc4:Addr}(cde4:cd19= .ref cc4) (hcd4:codeHdIn K cc4 tb4=true) {tb5 cc5:Addr}(cde5:cd20= .ref cc5) (hcd5:codeHdIn K cc5 tb5=true) {bmA:Addr}(xb1:zN K "__builtins__" =zr bmA) (xb2:K.lookup bmA=some ⟨.type "module",some builtinsNs, .plain,#[]⟩) (xb3:bmA≠builtinsNs) (xb4:bmA≠mainGlobals):
  ∃ fd:FuncData,(∀ (s:Shared) (v:Value),BindsTo s fd ⟨[v],[]⟩ [("script",v)])/\∀ lv:Heap,K.In lv->lv.Ns mainGlobals mg->FnOk l.prog w K mg lv CX0 22 fa fd ["script"] (spLaw K tb1 tb2 tb3 tb4 tb5):=by
 have e:=hfa.symm.trans (gM X G a37)
 cases e
 have T:Txt mg:=⟨bo X G z1,bo X G z2,bo X G z3,bo X G z4,bo X G z5,bo X G z6,bo X G z7,bo X G z8,bo X G z9,bo X G z10,bo X G z11,bo X G z12,bo X G z13,bo X G z14,bo X G z15,bo X G z16,bo X G z17,bo X G z18,bo X G z19⟩
 have F1:=jQ (st:=jC0) l1 c1 k1
 have F2:=jQ (st:=jAK) l2 c2 k2
 have F3:=jQ (st:=jDB) l3 c3 k3
 have F4:=jQ (st:=sMask) l4 c4 k4
 have F5:=jQ (st:=jD9) l5 c5 k5
 have F6:=jQ (st:=kX) l6 c6 k6
 have b6:Binds K _ ["box","things","pieces"] []:=zb3 F6
 have F7:=jQ (st:=yF) l7 c7 k7
 have F8:=jQ (st:=sFull) l8 c8 k8
 have F9:=jQ (st:=sAt) l9 c9 k9
 have F10:=jQ (st:=sMet) l10 c10 k10
 have F11:=jQ (st:=qO) l11 c11 k11
 have F12:=jQ (st:=qL) l12 c12 k12
 have b12:Binds K _ ["choices"] []:=zb1 F12
 have F13:=jQ (st:=sMany) l13 c13 k13
 have F14:=jQ (st:=jBB) l14 c14 k14
 have F15:=jQ (st:=jAZ) l15 c15 k15
 have F16:=jQ (st:=sBar) l16 c16 k16
 have F17:=jQ (st:=jB9) l17 c17 k17
 have F18:=jQ (st:=yT) l18 c18 k18
 have b18:Binds K _ ["things","holds"] []:=zb2 F18
 have F19:=jQ (st:=yH) l19 c19 k19
 have b19:Binds K _ ["box"] []:=zb1 F19
 have F20:=jQ (st:=yG) l20 c20 k20
 have b20:Binds K _ ["box"] []:=zb1 F20
 have F21:=jQ (st:=sCell) l21 c21 k21
 have F22:=jQ (st:=sPot) l22 c22 k22
 have F23:=jQ (st:=sTake) l23 c23 k23
 have F24:=jQ (st:=sLot) l24 c24 k24
 have F25:=jQ (st:=sBox) l25 c25 k25
 have F26:=jQ (st:=jE2) l26 c26 k26
 have F27:=jQ (st:=jAX) l27 c27 k27
 have F28:=jQ (st:=qP) l28 c28 k28
 have F29:=jQ (st:=sCovs) l29 c29 k29
 have F30:=jQ (st:=jA8) l30 c30 k30
 have F31:=jQ (st:=sWBar) l31 c31 k31
 have F32:=jQ (st:=q0) l32 c32 k32
 have F33:=jQ (st:=jDA) l33 c33 k33
 have F34:=jQ (st:=jAY) l34 c34 k34
 have F35:=jQ (st:=jB0) l35 c35 k35
 have F36:=jQ (st:=sWDue) l36 c36 k36
 have F37:=jQ (st:=sLaw) l37 c37 k37
 refine⟨PySem.W.fnOf "law" "law" (y8 sLaw) (jC sLaw) (j6 sLaw) .none kV37 dc37 pm37 an37 cd37 ct37,fun s v=> .of_eq rfl,fun lv KB _=>?_⟩
 have M:=fun {x:Str}{f:Addr}(a:PySem.W.nsIn K mainGlobals x=some (some (.ref f)))=>gM X G a
 have M':=fun {x:Str}{v:Value}(a:PySem.W.nsIn K mainGlobals x=some (some v))=>gM X G a
 have CD1:PySem.W.CodeHd lv cc1 tb1:=dL KB hcd1
 have FC1:FunC K "picked" "picked" kX f6 _ cc1:=⟨_,_,_,_,_,_,_,_,rfl,cde1 ▸ l6,cde1 ▸ c6⟩
 have CD2:PySem.W.CodeHd lv cc2 tb2:=dL KB hcd2
 have FC2:FunC K "ways_of" "ways_of" qL f12 _ cc2:=⟨_,_,_,_,_,_,_,_,rfl,cde2 ▸ l12,cde2 ▸ c12⟩
 have CD3:PySem.W.CodeHd lv cc3 tb3:=dL KB hcd3
 have FC3:FunC K "least_lots" "least_lots" yT f18 _ cc3:=⟨_,_,_,_,_,_,_,_,rfl,cde3 ▸ l18,cde3 ▸ c18⟩
 have CD4:PySem.W.CodeHd lv cc4 tb4:=dL KB hcd4
 have FC4:FunC K "least_bars" "least_bars" yH f19 _ cc4:=⟨_,_,_,_,_,_,_,_,rfl,cde4 ▸ l19,cde4 ▸ c19⟩
 have CD5:PySem.W.CodeHd lv cc5 tb5:=dL KB hcd5
 have FC5:FunC K "least_mends" "least_mends" yG f20 _ cc5:=⟨_,_,_,_,_,_,_,_,rfl,cde5 ▸ l20,cde5 ▸ c20⟩
 have BM:qJ lv mg:=⟨bmA,_,gM X G xb1,xb3,xb4,KB _ _ xb2,rfl,rfl,rfl⟩
 have C1:Can l.prog w K mg lv "is_whole" 1 f1 _ ["thing"] spWh:=⟨jMS F1 T,M a1,k1,(zb1 F1)⟩
 have C2:Can l.prog w K mg lv "is_rising" 2 f2 _ ["thing"] (spB risB):=⟨jMT F2 T C1,M a2,k2,(zb1 F2)⟩
 have C3:Can l.prog w K mg lv "is_lot" 3 f3 _ ["thing","many"] (spB2 lotB):=⟨jPV F3 T C2,M a3,k3,(zb2 F3)⟩
 have C4:Can l.prog w K mg lv "mask_of" 1 f4 _ ["lot"] jH0:=⟨jT3 F4 T,M a4,k4,(zb1 F4)⟩
 have C5:Can l.prog w K mg lv "lot_of" 1 f5 _ ["mask"] jFT:=⟨jPS F5 T,M a5,k5,(zb1 F5)⟩
 have C6:Can l.prog w K mg lv "picked" 2 f6 _ ["box","things","pieces"] (jDQ tb1):=⟨jMU FC1 T CD1 BM,M a6,k6,b6⟩
 have C7:Can l.prog w K mg lv "choices_of" 2 f7 _ ["box"] jCA:=⟨jL5 F7 T C4,M a7,k7,(zb1 F7)⟩
 have C8:Can l.prog w K mg lv "full_mask" 1 f8 _ ["choices"] jF3:=⟨jT6 F8 T,M a8,k8,(zb1 F8)⟩
 have C9:Can l.prog w K mg lv "choices_at" 1 f9 _ ["choices","mask"] spAt:=⟨ok_at F9 T,M a9,k9,(zb2 F9)⟩
 have C10:Can l.prog w K mg lv "masks_met" 2 f10 _ ["choices"] spMet:=⟨jV5 F10 T C8 C9,M a10,k10,(zb1 F10)⟩
 have C11:Can l.prog w K mg lv "gathered" 4 f11 _ ["choices","at_end","join"] jIJ:=⟨FnOk.ex fun x o=>(jT5 F11 T C8 C10 C9 ((jV8 o T).mono (by decide)) ZT.st (zhW.ok _ _) (RWay.ok _) o).ok,M a11,k11,(zb3 F11)⟩
 have C12:Can l.prog w K mg lv "ways_of" 5 f12 _ ["choices"] (jJJ tb2):=⟨jT1 FC2 T CD2 BM C11,M a12,k12,b12⟩
 have C13:Can l.prog w K mg lv "many" 6 f13 _ ["box"] (jJL tb2):=⟨jT4 F13 T C7 C12,M a13,k13,(zb1 F13)⟩
 have C14:Can l.prog w K mg lv "have_common" 1 f14 _ ["one","other"] jBO:=⟨jMY F14 T,M a14,k14,(zb2 F14)⟩
 have C15:Can l.prog w K mg lv "narrowed" 4 f15 _ ["box","lot"] (jDR tb1):=⟨jMV F15 T C3 C6 C14,M a15,k15,(zb2 F15)⟩
 have C16:Can l.prog w K mg lv "is_bar" 7 f16 _ ["box","lot"] (spBar tb1 tb2):=⟨jVB F16 C15 C13,M a16,k16,(zb2 F16)⟩
 have C17:Can l.prog w K mg lv "is_within" 1 f17 _ ["lot","other"] jBN:=⟨jMQ F17 T,M a17,k17,(zb2 F17)⟩
 have C18:Can l.prog w K mg lv "least_lots" 9 f18 _ ["things","holds"] (fun _ _ _ _=>False):=⟨FnOk.never,M a18,k18,b18⟩
 have C19:Can l.prog w K mg lv "least_bars" 10 f19 _ ["box"] (jFV tb1 tb2 tb3 tb4):=⟨jPT FC4 T CD4 BM (M' g1) (fun cl i=>jK1 FC3 T CD3 BM C5 C17 (jT9 C16 cl i) (ZC.st _ _ _) (HIb.ok tb1 tb2 cl i) fun H h=>h.1) (M a18) k18 b18,M a19,k19,b19⟩
 have C20:Can l.prog w K mg lv "least_mends" 11 f20 _ ["box"] (jB8 tb1 tb2 tb3 tb4 tb5):=⟨jPQ FC5 T CD5 BM C19 (fun cl i=>jK1 FC3 T CD3 BM C5 C17 (jPR T C14 cl i) (ZC.st _ _ _) (HIm.ok cl i) fun H h=>h.1) (M a18) k18 b18,M a20,k20,b20⟩
 have C21:Can l.prog w K mg lv "_law_cell_at" 1 f21 _ ["script","k"] (jD7 K):=⟨jT8 F21 T,M a21,k21,(zb2 F21)⟩
 have C22:Can l.prog w K mg lv "_law_pot" 1 f22 _ ["cell"] spPot:=⟨jV4 F22 T,M a22,k22,(zb1 F22)⟩
 have C23:Can l.prog w K mg lv "_law_take" 1 f23 _ ["pot","wide"] yY:=⟨jT2 F23,M a23,k23,(zb2 F23)⟩
 have C24:Can l.prog w K mg lv "_law_lot" 2 f24 _ ["pot","wide"] qK:=⟨jV6 F24 T C23,M a24,k24,(zb2 F24)⟩
 have C25:Can l.prog w K mg lv "_law_box" 3 f25 _ ["pot","most_things","most_pieces"] spBox:=⟨jVA F25 T C23 C24,M a25,k25,(zb3 F25)⟩
 have C26:Can l.prog w K mg lv "_law_whole" 1 f26 _ ["found"] spWh:=⟨jPO F26 T,M a26,k26,(zb1 F26)⟩
 have C27:Can l.prog w K mg lv "_law_wholes" 2 f27 _ ["found"] jDO:=⟨jMR F27 T C26,M a27,k27,(zb1 F27)⟩
 have C28:Can l.prog w K mg lv "_law_from" 18 f28 _ ["box","thing","held"] (jF4 16):=⟨jMX F28 T (M a28) k28 (zb3 F28) 16,M a28,k28,(zb3 F28)⟩
 have C29:Can l.prog w K mg lv "_law_coverings" 19 f29 _ ["box"] jJP:=⟨jT7 F29 T C28,M a29,k29,(zb1 F29)⟩
 have C30:Can l.prog w K mg lv "_law_narrowed" 1 f30 _ ["box","lot"] jC9:=⟨jL4 F30 T,M a30,k30,(zb2 F30)⟩
 have C31:Can l.prog w K mg lv "_law_is_bar" 20 f31 _ ["box","lot"] jJK:=⟨jT0 F31 C30 C29,M a31,k31,(zb2 F31)⟩
 have C32:Can l.prog w K mg lv "_law_lots" 1 f32 _ ["wide"] jFS:=⟨jPN F32 T,M a32,k32,(zb1 F32)⟩
 have C33:Can l.prog w K mg lv "_law_in" 1 f33 _ ["one","other"] jFU:=⟨jPU F33 T,M a33,k33,(zb2 F33)⟩
 have C34:Can l.prog w K mg lv "_law_least" 2 f34 _ ["lots"] jDP:=⟨jMP F34 T C33,M a34,k34,(zb1 F34)⟩
 have C35:Can l.prog w K mg lv "_law_is_lots" 3 f35 _ ["found","due"] jAH:=⟨jMW F35 T C27,M a35,k35,(zb2 F35)⟩
 have C36:Can l.prog w K mg lv "_law_due" 21 f36 _ ["box"] jD6:=⟨jSZ F36 T C32 C31 C34,M a36,k36,(zb1 F36)⟩
 exact jV7 F37 T C21 C22 C25 C36 C20 C35
theorem walk {l:PySem.W.OpenLaw}{q:Program}{loose:List Str}{XP:(Str->Option Value)->Heap->Prop}{YP:World->Heap->Prop}{d:DefRec}{K:Params->W.Frag}(hn:l.most=some 63)(hdf:d.params.defaults=[]){tb1 tb2 tb3 tb4 tb5:Addr}{cc1 cc2 cc3 cc4 cc5:Addr}
  (hY:∀ (w:World) (h:Heap),YP w h->(K w.params).In h/\∀ T∈[tb1,tb2,tb3,tb4,tb5],h.get? T=some (tabObj #[])) (hcd:∀ w:World,codeHdIn (K w.params) cc1 tb1=true/\codeHdIn (K w.params) cc2 tb2=true/\codeHdIn (K w.params) cc3 tb3=true/\codeHdIn (K w.params) cc4 tb4=true/\codeHdIn (K w.params) cc5 tb5=true) (hKT:∀ w:World,∀ T∈[tb1,tb2,tb3,tb4,tb5],(K w.params).lookup T=none) (hnd:([tb1,tb2,tb3,tb4,tb5]:List Addr).Nodup)
  (F:∀ (w:World) (mg:Str->Option Value) (fa:Addr) (h:Heap),(K w.params).In h->h.Ns mainGlobals mg->mg d.name=some (.ref fa)->
   ∃ fd:FuncData,(∀ (s:Shared) (u:Value),BindsTo s fd ⟨[u],[]⟩ [("script",u)])/\∀ lv:Heap,(K w.params).In lv->lv.Ns mainGlobals mg->FnOk l.prog w (K w.params) mg lv CX0 22 fa fd ["script"] (spLaw (K w.params) tb1 tb2 tb3 tb4 tb5)):
  PySem.W.WalkO q loose XP YP l.row.toRowW d [] (fun f vs=>PySem.call f vs):=
 L2.walk_ofTs (cts:=[(cc1,tb1),(cc2,tb2),(cc3,tb3),(cc4,tb4),(cc5,tb5)]) (n:=63) (k:=22) (x:= "script") (CX:=fun _=>CX0) (sp:=fun w=>spLaw (K w.params) tb1 tb2 tb3 tb4 tb5) hn (by decide) hdf ⟨rfl,by decide,by decide⟩ hY (fun w p hp=>by
  obtain⟨_h0,_h1,_h2,_h3,_h4⟩:=hcd w
  simp only [aF,bC,dh] at hp
  rcases hp with rfl | rfl | rfl | rfl | rfl <;> assumption) hKT F (fun _ H a ns hl hT hS=>⟨a,ns,rfl,hS,hl, .inl (hT _ ai), .inl (hT _ (ah _ ai)), .inl (hT _ (ah _ (ah _ ai))), .inl (hT _ (ah _ (ah _ (ah _ ai)))), .inl (hT _ (ah _ (ah _ (ah _ (ah _ ai))))),(by rintro rfl; simp at hnd),(by rintro rfl; simp at hnd),(by rintro rfl; simp at hnd),(by rintro rfl; simp at hnd),(by rintro rfl; simp at hnd),(by rintro rfl; simp at hnd),(by rintro rfl; simp at hnd),(by rintro rfl; simp at hnd),(by rintro rfl; simp at hnd),(by rintro rfl; simp at hnd),fun _=>rfl⟩) fun _ _ _ _ _ z=>z
end Eo
open PySem PySem.W PyProof.Rows
set_option maxRecDepth 100000 in
set_option maxHeartbeats 0 in
theorem PySem.Challenge.cw_eachonce_k65_least_mends_holds : PySem.Challenge.rw_eachonce_k65_least_mends.Holds := by
 w_on
 refine holds_law (by decide+kernel) fun said=>?_
 refine holds_open (q:=Eo.vw) (loose:=[]) (Xt:=fun s=>xlAt Eo.vw [] s&&recOk (RowW.records (OpenRow.toRowW PySem.Challenge.rw_eachonce_k65_least_mends.row)) s) (XP:=XL Eo.vw []) (Yf:=Hook.obs Eo.kH) (Ya:=Hook.val Eo.kH) (YP:=Hook.says Eo.kH) (N:=3100) Eo.left (Hook.of Eo.kH) (Hook.keeps Eo.kH) (fun s e=>xl_of s (gR.mp e).1) XL.keeps (by rfl) (by rfl) (by rfl) (fun s e=>recFacts_of (gR.mp e).2) rfl said (by decide+kernel) ⟨rfl,rfl,rfl,rfl,rfl,by decide+kernel⟩ ?hw ?hc
 case hw=>w_witness2
 refine Eo.walk (l:=PySem.Challenge.rw_eachonce_k65_least_mends) (K:=Eo.kK) rfl rfl (tb1:=45) (cc1:=47) (tb2:=116) (cc2:=120) (tb3:=152) (cc3:=154) (tb4:=157) (cc4:=161) (tb5:=164) (cc5:=168) (fun w h Y=>⟨PySem.W.km_in_of Y,PySem.W.km_tabs_of Y⟩) (fun w=>⟨by kernel_rfl,by kernel_rfl,by kernel_rfl,by kernel_rfl,by kernel_rfl⟩) (fun w T hm=>by
   simp only [aF,bC,dh] at hm
   rcases hm with rfl | rfl | rfl | rfl | rfl <;> kernel_rfl) (by decide) ?F
 case F=>
  intro w mg fa h KX G hmg
  k_fill
  refine' Eo.all_mk KX G hmg _ _ _ _ _ _ _ _ _ _ _ _ _ _ _ _ _ _ _ _ _ _ _ _ _ _ _ _ _ _ _ _ _ _ _ _ _ _ _ _ _ _ _ _ _ _ _ _ _ _ _ _ _ _ _ _ _ _ _ _ _ _ _ _ _ _ _ _ _ _ _ _ _ _ _ _ _ _ _ _ _ _ _ _ _ _ _ _ _ _ _ _ _ _ _ _ _ _ _ _ _ _ _ _ _ _ _ _ _ _ _ _ _ _ _ _ _ _ _ _ _ _ _ _ _ _ _ _ _ _ _ _ _ _ _ _ _ _ _ _ _ _ _ _ _ _ _ _ _ _ _ _ _ _ _ _ _ _ _ _ _ _ _ _ _ _ _ _ (tb1:=45) rfl (by kernel_rfl) (tb2:=116) rfl (by kernel_rfl) (tb3:=152) rfl (by kernel_rfl) (tb4:=157) rfl (by kernel_rfl) (tb5:=164) rfl (by kernel_rfl) (bmA:=4) (by kernel_rfl) (by kernel_rfl) (by decide) (by decide)
  all_goals ((try delta Eo.zN); (try delta Eo.zr); (try delta Eo.zl); (try delta Eo.zc); (try delta Eo.zk); try k_is)
end
