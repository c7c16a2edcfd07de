import PyProof.Rows.All
import KE.KDictOf
import KE.KFromBytes
import KE.KIsAll
import KE.KItemsList
import KE.KLam
import KE.KNestM
import KE.KSortTup
import PySem.Challenge.RW_eachonce_k27_whole_counts_agree
noncomputable section
set_option Elab.async false
set_option linter.all false
set_option maxRecDepth 100000
def aa:=@PySem.wpAny_bind
def ab:=@List.length_map
def ae:=@if_neg
def ag:=@PySem.Heap.get?_push_of_some
def ah:=@if_pos
def ai:=@List.getD_eq_getElem?_getD
def aj:=@List.mem_cons_of_mem
def ak:=@List.getElem?_eq_getElem
def am:=@List.mem_cons_self
def ao:=@PySem.wpAny_pure
def aq:=@Bool.false_ne_true
def ar:=@Nat.le_refl
def ax:=@List.getElem?_eq_some_iff
def ay:=@decide_eq_true
def az:=@of_decide_eq_true
def aA:=@List.getElem?_map
def aB:=@PySem.Heap.get?_push_size
def aC:=@List.length_append
def aE:=@List.mem_singleton
def aF:=@List.mem_cons
def aG:=@PySem.Heap.lt_size
def aH:=@List.mem_of_getElem?
def aI:=@PyProof.Rows.wpS_bind
def aJ:=@PySem.sizeLine_eq
def aK:=@Int.toNat_natCast
def aL:=@List.mem_map
def aM:=@decide_eq_false
def aN:=@List.size_toArray
def aO:=@PyProof.Rows.wpS_pure
def aP:=@List.map_append
def aQ:=@List.mem_filter
def aR:=@List.mem_append
def aU:=@List.length_cons
def aV:=@Array.length_toList
def aX:=@List.map_congr_left
def aY:=@List.map_cons
def aZ:=@List.mem_append_right
def ba:=@List.map_map
def bb:=@Nat.ne_of_lt
def be:=@List.append_assoc
def bf:=@List.take_add_one
def bg:=@List.length_range
def bh:=@Nat.lt_of_lt_of_le
def bi:=@decide_eq_true_iff
def bo:=@Option.some.inj
def bq:=@List.append_nil
def br:=@List.mem_range
def bu:=@List.mem_append_left
def bv:=@List.getElem?_append_right
def bw:=@PySem.W.mg_none_of
def bx:=@Nat.zero_le
def bz:=@List.take_append_drop
def bA:=@List.pairwise_map
def bB:=@List.all_eq_true
def bC:=@Array.toList_append
def bE:=@List.length_take
def bF:=@List.nodup_cons
def bG:=@List.take_length
def bH:=@Nat.testBit_or
def bI:=@List.getElem?_eq_none
def bJ:=@List.length_filter_le
def bK:=@List.take_of_length_le
def bL:=@List.lookup_cons
def bM:=@Nat.le_trans
def bN:=@List.countP_cons
def bO:=@Bool.eq_iff_iff
def bP:=@PySem.PassesOwn.never
def bQ:=@List.getElem?_range
def bR:=@List.getElem?_of_mem
def bS:=@Nat.pow_le_pow_right
def bU:=@Array.getElem?_toList
def bV:=@List.filter_append
def bW:=@List.pairwise_iff_getElem
def bX:=@congrArg
def bY:=@List.length_take_le
def bZ:=@PySem.Heap.get?_update_other
def b0:=@List.mem_of_mem_take
def b6:=@List.sum_cons
def b8:=@Nat.zero_testBit
def b9:=@decide_eq_false_iff_not
def cc:=@beq_eq_false_iff_ne
def ce:=@List.mem_map_of_mem
def cf:=@List.getElem?_append_left
def cg:=@Bool.and_eq_true
def ci:=@PySem.Around.under_plainId
def cj:=@PyProof.Rows.wpS_forRange
def ck:=@PySem.wpAny_holding
def cn:=@List.idxOf_lt_length_iff
def cq:=@Nat.testBit_two_pow_sub_one
def cr:=@List.not_mem_nil
def cw:=@Nat.mod_two_eq_zero_or_one
def cx:=@Nat.add_zero
def cy:=@List.getElem?_take_of_lt
def cz:=@PySem.wpAny_call_entry
def cA:=@PySem.wpAny_mono
def cB:=@Nat.lt_succ_of_lt
def cC:=@Bool.not_eq_true'
def cD:=@PySem.F.plainAttrs_list
def cE:=@List.filter_cons_of_neg
def cF:=@List.pairwise_append
def cG:=@List.pairwise_cons
def cH:=@List.mem_of_mem_drop
def cI:=@Nat.eq_of_testBit_eq
def cJ:=@PySem.W.kia_one
def cK:=@PySem.wpAny_loadPart'
def cL:=@PySem.codeAny_builtin
def cM:=@List.getElem_mem
def cN:=@Int.le_of_lt
def cO:=@Classical.byContradiction
def cP:=@PySem.mem_of_lookup
def cQ:=@List.replicate_succ
def cR:=@Nat.testBit_two_pow
def cS:=@List.filter_sublist
def cU:=@PySem.wpAny_newObj_type
def cV:=@PySem.Heap.get?_update_self
def cX:=@Nat.testBit_and
def cY:=@PySem.wpAny_setField_rec
def cZ:=@PySem.wpAny_callSpecial?_slot
def da:=@Nat.add_sub_cancel_left
def db:=@List.filter_cons_of_pos
def de:=@PyProof.Rows.callWith_type1
def df:=@Nat.lt_irrefl
def dh:=@Nat.le_of_lt
def di:=@PySem.wpAny_truthy_bool
def dj:=@Int.le_trans
def dk:=@Array.perm_iff_toList_perm
def dn:=@Nat.testBit_lt_two_pow
def dq:=@List.length_nil
def dr:=@List.sum_append
def dv:=@List.Perm.append_left
def dw:=@PySem.wpAny_rule
def dy:=@PySem.Heap.size_push
def dz:=@PyProof.Rows.wpS_mono
def dE:=@Int.le_refl
def dF:=@Array.toList_reverse
def dG:=@PySem.wpAny_pyIter_list
def dH:=@List.take_sublist
def dI:=@PySem.wpAny_setState_of
def dJ:=@Nat.or_lt_two_pow
def dL:=@Bool.eq_false_iff
def dM:=@beq_iff_eq
def dN:=@Nat.two_pow_pos
def dO:=@List.range_succ
def dP:=@List.countP_eq_length_filter
def dQ:=@List.countP_eq_zero
def dR:=@PySem.Calls.callWith_builtin
def dS:=@PySem.plainId_quiet
def dU:=@List.map_id
def dW:=@List.filter_cons
def dX:=@PySem.wpAny_Call_Name_kw
def dY:=@of_decide_eq_false
def dZ:=@List.perm_append_comm
def d9:=@List.Pairwise.and_mem
def eg:=@List.extract_eq_take_drop
def ek:=@List.getLast?_eq_getElem?
def ev:=@PySem.wpAny_passesOwn
def eE:=@List.of_mem_zip
def eF:=@Nat.not_lt_zero
def eG:=@Ne.symm
def eI:=@List.flatten_cons
def eJ:=@Array.toList_push
def eL:=@List.ext_getElem?
def eM:=@PySem.wpAny_field
def eN:=@Bool.and_eq_true_iff
def eO:=@List.eraseIdx_eq_take_drop_succ
def eQ:=@List.filterMap_cons
def eR:=@List.getElem_of_mem
def eS:=@Bool.false_and
def eT:=@List.length_eq_zero_iff
def eU:=@Bool.and_false
def eV:=@PySem.F.plain_list_iadd
def eW:=@PySem.F.slot_dict_items
def eX:=@List.pairwise_singleton
def eY:=@Nat.ne_of_gt
def eZ:=@PySem.codeAny_mono
def fb:=@List.zip_cons_cons
def fc:=@PySem.tupleKind_room_in1
def fe:=@PyProof.Rows.wpS_modify
def ff:=@Nat.lt_or_ge
def fg:=@Nat.zero_add
def fh:=@List.find?_cons
def fj:=@PySem.wpAny_standAt
def fk:=@Sum.inl.inj
def fm:=@Array.toList_extract
def fo:=@List.nodup_nil
def fq:=@Array.toArray_toList
def fu:=@List.exists_cons_of_ne_nil
def fw:=@List.perm_ext_iff_of_nodup
def fz:=@Bool.or_eq_false_iff
def fD:=@List.map_nil
def fE:=@List.length_drop
def fN:=@PySem.wpAny_askSetting
def fO:=@Nat.testBit_zero
def fS:=@List.getLastD_eq_getLast?
def fU:=@List.reverse_append
def fV:=@PySem.F.args_tuple_add_2
def fY:=@or_false
def ga:=@PySem.wpAny_attempt
def gb:=@PySem.F.slot_list_append
def gc:=@PySem.F.type_list_append
def gd:=@PySem.wpAny_updateSeq
def ge:=@List.Perm.of_eq
def gf:=@Int.natCast_nonneg
def gh:=@PySem.sizeLine_eq
def gj:=@List.getElem?_replicate
def gm:=@PySem.F.entry_tuple_add
def gn:=@PySem.wpAny_Call_method0_late
def gq:=@PySem.F.plainAttrs_dict
def gu:=@PySem.W.cellsFrom_some
def gw:=@PySem.F.slot_tuple_add
def gx:=@Nat.add_comm
def gy:=@Nat.lt_trichotomy
def gz:=@List.Pairwise.and
def gA:=@PySem.wpAny_seqItems
def gB:=@List.drop_eq_nil_of_le
def gC:=@List.Perm.append_right
def gE:=@Nat.pow_succ
def gF:=@Bool.or_true
def gG:=@PySem.wpAny_tryCatch
def gH:=@List.pairwise_lt_range
def gI:=@Nat.testBit_eq_decide_div_mod_eq
def gJ:=@List.getElem?_set
def gK:=@List.getElem?_inj
def gL:=@List.filter_congr
def gM:=@List.range_succ_eq_map
def gN:=@List.length_replicate
def gO:=@PySem.F.slot_tuple_lt
def gP:=@PySem.builtinLookup_eq_fast
def gQ:=@PySem.F.slot_dict_get
def gR:=@List.countP_eq_length
def gS:=@PySem.call_meets
def gU:=@PySem.Paired.length
def gW:=@if_true
def gX:=@List.all_cons
def gY:=@List.any_cons
def gZ:=@PySem.W.mg_of
def g6:=@PyProof.Rows.wpS_get
def g7:=@Bool.true_and
def g8:=@forall_congr'
def g9:=@PySem.Calls.evalArgs_plain
def hG:=@List.eq_nil_of_length_eq_zero
def hV:=@PySem.wpAny_execs_nil
def h8:=@Nat.and_le_left
def ic:=@List.filter_nil
def ie:=@and_congr_right
def ig:=@Int.natCast_add
def ik:=@PySem.evalArgs_none
def im:=@PySem.Heap.SameBut.update
def io:=@PySem.W.codeHd_of_K
def iq:=@Nat.lt_trans
def ir:=@PySem.F.plain_proto_collect
def iu:=@Nat.sub_self
def iw:=@PySem.F.slot_int_bit_length
def ix:=@PySem.F.type_int_bit_length
def iy:=@PySem.Calls.Name_function_global
def iA:=@PySem.wpAny_load
def iB:=@Int.fdiv_eq_ediv_of_nonneg
def iC:=@PySem.Calls.spliced_cons
def iE:=@PySem.wpAny_newFunctionEnv_cells
def iF:=@PySem.SeqAt.EqAt.int_int
def iG:=@Nat.lt_of_le_of_lt
def iH:=@List.drop_drop
def iI:=@List.getElem?_drop
def iJ:=@PyProof.Rows.wpS_lift
def iK:=@Array.toList_setIfInBounds
def iL:=@Nat.and_one_is_mod
def iM:=@List.getElem_idxOf
def iN:=@List.countP_append
def iO:=@PySem.Calls.call_function_entry
def iP:=@PySem.F.args_dict_items_1
def iQ:=@List.drop_sublist
def iR:=@Option.some.injEq
def iS:=@PySem.wpAny_pyIter_slot
def iT:=@List.nodup_append
def iU:=@PySem.wpAny_letGo
def iV:=@Option.isSome_map
def iW:=@decide_eq_true_eq
def iX:=@List.countP_congr
def iY:=@PySem.wpAny_newList
def iZ:=@Bool.false_or
def i4:=@PySem.F.entry_dict_items
def i5:=@List.map_take
def i6:=@List.Pairwise.imp_of_mem
def i7:=@PySem.F.args_tuple_lt_2
def i8:=@PySem.noFill_tuple_add
def i9:=@Nat.lt_succ_self
def ja:=@PySem.wpAny_isInstance
def jc:=@List.any_eq_true
def jd:=@PySem.F.args_dict_get_3
def jf:=@PySem.F.type_dict_items
def jg:=@PySem.F.slot_list_index
def jh:=@PySem.F.type_list_index
def ji:=@List.getElem?_set_self
def jl:=@PySem.wpAny_call
def jm:=@PySem.F.entry_tuple_lt
def jn:=@PySem.Walks.list
def jo:=@Nat.not_lt
def jp:=@PySem.call_meetsIn
def jq:=@PySem.F.entry_dict_get
def jr:=@Int.zero_add
def jt:=@PySem.F.plainAttrs_int
def ju:=@List.length_pos_of_mem
def jw:=@PySem.typeLookup_type
def jx:=@Bool.or_eq_true
def jy:=@List.countP_map
def jz:=@List.length_singleton
def ka:=@PySem.F.slot_set_iter
def ke:=@List.set_append_right
def kf:=@List.countP_le_length
def kg:=@List.getElem?_set_ne
def kh:=@Nat.le_succ
def ki:=@PySem.wpAny_of_eq
def km:=@PySem.wpAny_runValue
def kn:=@PySem.isSubtype_type
def ko:=@PySem.entryFor_alias
def kq:=@Nat.pow_lt_pow_right
def kr:=@List.drop_zero
def ku:=@List.reverse_reverse
def kx:=@List.take_zero
def kz:=@Array.getElem_toList
def la:=@List.mem_iff_getElem
def lc:=@List.Pairwise.filter
def lg:=@List.take_succ_cons
def lh:=@Nat.mul_le_mul_left
def lj:=@Bool.not_true
def ln:=@List.mem_filterMap
def lu:=@PySem.W.callWith_K
def lv:=@PySem.W.codeRec_of
def lw:=@Array.empty_append
def ly:=@Bool.false_eq_true
def lz:=@Int.emod_lt_of_pos
def lA:=@Int.natAbs_natCast
def lB:=@Nat.mul_comm
def lC:=@Bool.true_or
def lE:=@getElem?_pos
def lF:=@Nat.and_comm
def lG:=@Int.one_mul
def lH:=@if_false
open PySem.W (codeHdIn envX findIn fnMade instObj keepIn kitOne kitx_dict kitx_list kla_obj lookIn methodObj mg_of mroIn plainGet tabObj)
open List (all_map replicate sum_nil)
open Nat (strongRecOn)
open Option (getD_none)
namespace L2
open PySem PySem.Spec PyProof.Rows
def yE (s:Stmt):Arguments:=match s with
 | .FunctionDef _ a _ _ _ _ _ _ _ _=>a
 | _=> { posonlyargs:=[],args:=[],vararg:=none,kwonlyargs:=[],kw_defaults:=[],kwarg:=none,defaults:=[]}
def jD (s:Stmt):List Stmt:=match s with
 | .FunctionDef _ _ b _ _ _ _ _ _ _=>b
 | _=> []
def j9 (s:Stmt):Scope:=match s with
 | .FunctionDef _ _ _ _ _ _ sc _ _ _=>sc
 | _=> { kind:= .function,names:=[],isGenerator:=false,isCoroutine:=false}
end L2
namespace Eo
open PySem L2
noncomputable def top (i:Nat):Stmt:=PySem.Challenge.pw_eachonce_k27_whole_counts_agree.main.body.getD i (.Pass ⟨0,0,0,0⟩)
abbrev jBM:Stmt:=top 4
abbrev jAI:Stmt:=top 5
abbrev jCW:Stmt:=top 6
abbrev sMask:Stmt:=top 7
abbrev jCU:Stmt:=top 8
abbrev yA:Stmt:=top 10
abbrev sFull:Stmt:=top 11
abbrev sAt:Stmt:=top 12
abbrev sMet:Stmt:=top 13
abbrev qN:Stmt:=top 14
abbrev qL:Stmt:=top 15
abbrev sMany:Stmt:=top 16
abbrev sSzT:Stmt:=top 20
abbrev jCT:Stmt:=top 21
abbrev sWts:Stmt:=top 22
abbrev sHold:Stmt:=top 23
abbrev kY:Stmt:=top 24
abbrev jCV:Stmt:=top 26
abbrev sRNum:Stmt:=top 27
abbrev y9:Stmt:=top 28
abbrev sCPap:Stmt:=top 29
abbrev sCell:Stmt:=top 31
abbrev sPot:Stmt:=top 32
abbrev sTake:Stmt:=top 33
abbrev sLot:Stmt:=top 34
abbrev sBox:Stmt:=top 35
abbrev yT:Stmt:=top 36
abbrev sLaw:Stmt:=top 37
noncomputable def kC (x:Str)(t:Nat)(l n:Int)(a:Nat)(X Y:Value)(z:Nat)(u:Int)(v:Nat):Obj:=⟨.type "code",none, .fields #[.str x t, .str x (t+1), .str "/claim/cut.py" (t+2), .int l 0, .int n 0, .int 0 0, .int 0 0, .int 3 0, .ref a, .bool true, .int 181 0, .ref (a+1), .none,X,Y, .ref z, .int u 0, .int l 0, .str "/claim/cut.py" v],#[]⟩
noncomputable def kF (x:Str)(s:Stmt)(m:Str)(t c:Nat):Obj:=⟨.type "function",none, .func (PySem.W.fnOf x x (yE s) (jD s) (j9 s) .none .none .none (.str m t) none (.ref c) .none),#[]⟩
noncomputable def kM (P:Params):Obj:=
 let e (x:Str) (t:Nat) (v:Value):DictEntry:=⟨PyData.keyHash P x, .str x t,v⟩
 ⟨.type "dict",none, .dict #[e "__name__" 165 (.str "law_eachonce_k27_whole_counts_agree" 391),e "__doc__" 166 (.none),e "__package__" 167 (.none),e "__loader__" 168 (.builtin "__main__.__loader__#opaque"),e "__spec__" 169 (.none),e "__annotations__" 170 (.ref 6),e "__builtins__" 171 (.ref 4),e "__file__" 173 (.str "/claim/cut.py" 172),e "__cached__" 174 (.none),e "OnceError" 206 (.ref 24),e "TooMany" 222 (.ref 37),e "is_whole" 231 (.ref 46),e "is_rising" 237 (.ref 51),e "is_lot" 245 (.ref 58),e "mask_of" 251 (.ref 63),e "lot_of" 257 (.ref 68),e "choices_of" 265 (.ref 73),e "full_mask" 272 (.ref 80),e "choices_at" 278 (.ref 85),e "masks_met" 291 (.ref 92),e "gathered" 297 (.ref 97),e "ways_of" 304 (.ref 104),e "many" 311 (.ref 111),e "MOST_WEIGHED" 315 (.int 1000 314),e "MOST_THINGS_BY_LOTS" 317 (.int 10 316),e "sizes_together" 323 (.ref 116),e "sizes" 330 (.ref 123),e "weights" 339 (.ref 130),e "ways_to_hold" 350 (.ref 137),e "many_by_lots" 356 (.ref 142),e "is_row" 366 (.ref 149),e "right_number" 378 (.ref 156),e "counted" 384 (.ref 161),e "count_paper" 390 (.ref 166),e "_law_cell_at" 400 (.ref 173),e "_law_pot" 410 (.ref 180),e "_law_take" 419 (.ref 187),e "_law_lot" 425 (.ref 192),e "_law_box" 431 (.ref 197),e "_law_left_by" 437 (.ref 202),e "law" 443 (.ref 207)] 41,#[]⟩
noncomputable def kK (P:Params):W.Frag:=(nat_lit 3,kM P)::(nat_lit 4,⟨.type "module",some 0, .plain,#[]⟩)::(nat_lit 45,kC "is_whole" 225 7 1 40 (.ref 42) (.ref 43) 44 229 230)::(nat_lit 46,kF "is_whole" jBM "eachonce.kinds" 223 45)::(nat_lit 50,kC "is_rising" 232 9 1 47 (.none) (.none) 49 235 236)::(nat_lit 51,kF "is_rising" jAI "eachonce.kinds" 223 50)::(nat_lit 57,kC "is_lot" 238 15 2 52 (.ref 54) (.ref 55) 56 243 244)::(nat_lit 58,kF "is_lot" jCW "eachonce.kinds" 223 57)::(nat_lit 62,kC "mask_of" 246 19 1 59 (.none) (.none) 61 249 250)::(nat_lit 63,kF "mask_of" sMask "eachonce.kinds" 223 62)::(nat_lit 67,kC "lot_of" 252 21 1 64 (.none) (.none) 66 255 256)::(nat_lit 68,kF "lot_of" jCU "eachonce.kinds" 223 67)::(nat_lit 72,kC "choices_of" 260 24 1 69 (.none) (.none) 71 263 264)::(nat_lit 73,kF "choices_of" yA "eachonce.coverings" 258 72)::(nat_lit 79,kC "full_mask" 266 29 1 74 (.ref 76) (.ref 77) 78 270 271)::(nat_lit 80,kF "full_mask" sFull "eachonce.coverings" 258 79)::(nat_lit 84,kC "choices_at" 273 31 2 81 (.none) (.none) 83 276 277)::(nat_lit 85,kF "choices_at" sAt "eachonce.coverings" 258 84)::(nat_lit 91,kC "masks_met" 279 34 1 86 (.ref 88) (.ref 89) 90 289 290)::(nat_lit 92,kF "masks_met" sMet "eachonce.coverings" 258 91)::(nat_lit 96,kC "gathered" 292 46 3 93 (.none) (.none) 95 295 296)::(nat_lit 97,kF "gathered" qN "eachonce.coverings" 258 96)::(nat_lit 103,kC "ways_of" 298 55 1 98 (.ref 100) (.ref 101) 102 302 303)::(nat_lit 104,kF "ways_of" qL "eachonce.coverings" 258 103)::(nat_lit 110,kC "many" 305 57 1 105 (.ref 107) (.ref 108) 109 309 310)::(nat_lit 111,kF "many" sMany "eachonce.coverings" 258 110)::(nat_lit 115,kC "sizes_together" 318 62 1 112 (.none) (.none) 114 321 322)::(nat_lit 116,kF "sizes_together" sSzT "eachonce.counts" 312 115)::(nat_lit 122,kC "sizes" 324 69 1 117 (.ref 119) (.ref 120) 121 328 329)::(nat_lit 123,kF "sizes" jCT "eachonce.counts" 312 122)::(nat_lit 129,kC "weights" 331 71 1 124 (.ref 126) (.ref 127) 128 337 338)::(nat_lit 130,kF "weights" sWts "eachonce.counts" 312 129)::(nat_lit 136,kC "ways_to_hold" 340 83 2 131 (.ref 133) (.ref 134) 135 348 349)::(nat_lit 137,kF "ways_to_hold" sHold "eachonce.counts" 312 136)::(nat_lit 141,kC "many_by_lots" 351 89 1 138 (.none) (.none) 140 354 355)::(nat_lit 142,kF "many_by_lots" kY "eachonce.counts" 312 141)::(nat_lit 148,kC "is_row" 359 101 2 143 (.ref 145) (.ref 146) 147 364 365)::(nat_lit 149,kF "is_row" jCV "eachonce.countpapers" 357 148)::(nat_lit 155,kC "right_number" 367 105 3 150 (.ref 152) (.ref 153) 154 376 377)::(nat_lit 156,kF "right_number" sRNum "eachonce.countpapers" 357 155)::(nat_lit 160,kC "counted" 379 114 2 157 (.none) (.none) 159 382 383)::(nat_lit 161,kF "counted" y9 "eachonce.countpapers" 357 160)::(nat_lit 165,kC "count_paper" 385 125 1 162 (.none) (.none) 164 388 389)::(nat_lit 166,kF "count_paper" sCPap "eachonce.countpapers" 357 165)::(nat_lit 172,kC "_law_cell_at" 393 128 2 167 (.ref 169) (.ref 170) 171 398 399)::(nat_lit 173,kF "_law_cell_at" sCell "law_eachonce_k27_whole_counts_agree" 391 172)::(nat_lit 179,kC "_law_pot" 401 132 1 174 (.ref 176) (.ref 177) 178 408 409)::(nat_lit 180,kF "_law_pot" sPot "law_eachonce_k27_whole_counts_agree" 391 179)::(nat_lit 186,kC "_law_take" 411 141 2 181 (.ref 183) (.ref 184) 185 417 418)::(nat_lit 187,kF "_law_take" sTake "law_eachonce_k27_whole_counts_agree" 391 186)::(nat_lit 191,kC "_law_lot" 420 145 2 188 (.none) (.none) 190 423 424)::(nat_lit 192,kF "_law_lot" sLot "law_eachonce_k27_whole_counts_agree" 391 191)::(nat_lit 196,kC "_law_box" 426 154 3 193 (.none) (.none) 195 429 430)::(nat_lit 197,kF "_law_box" sBox "law_eachonce_k27_whole_counts_agree" 391 196)::(nat_lit 201,kC "_law_left_by" 432 172 2 198 (.none) (.none) 200 435 436)::(nat_lit 202,kF "_law_left_by" yT "law_eachonce_k27_whole_counts_agree" 391 201)::(nat_lit 206,kC "law" 438 179 1 203 (.none) (.none) 205 441 442)::(nat_lit 207,kF "law" sLaw "law_eachonce_k27_whole_counts_agree" 391 206)::[]
noncomputable def kA:List Addr:=[3,4,45,46,50,51,57,58,62,63,67,68,72,73,79,80,84,85,91,92,96,97,103,104,110,111,115,116,122,123,129,130,136,137,141,142,148,149,155,156,160,161,165,166,172,173,179,180,186,187,191,192,196,197,201,202,206,207]
noncomputable def vw:Program:= { PySem.Challenge.pw_eachonce_k27_whole_counts_agree with main:= { PySem.Challenge.pw_eachonce_k27_whole_counts_agree.main with body:=[top 1,top 2,top 4,top 5,top 6,top 7,top 8,top 10,top 11,top 12,top 13,top 14,top 15,top 16,top 18,top 19,top 20,top 21,top 22,top 23,top 24,top 26,top 27,top 28,top 29,top 31,top 32,top 33,top 34,top 35,top 36,top 37]}}
theorem kA_eq:∀ P,kA=(kK P).map (·.1):=fun _=>by kernel_rfl
noncomputable abbrev kH:PySem.W.Hook:=PySem.W.kmHook kK kA kA_eq [99,125]
set_option maxHeartbeats 0 in
theorem left:PySem.W.LeftO PySem.Challenge.rw_eachonce_k27_whole_counts_agree.prog vw [] (fun s=>PySem.W.xlAt vw [] s&&PySem.W.recOk (PySem.W.RowW.records (PySem.W.OpenRow.toRowW PySem.Challenge.rw_eachonce_k27_whole_counts_agree.row)) s) (PySem.W.Hook.obs kH) (PySem.W.Hook.val kH) 6900:=fun w=>by kernel_rfl
end Eo
section
namespace L2
open PySem PySem.Spec PyProof.Rows
abbrev Key:=Sum Int Str
def keyIs:Key->Value->Bool
 | .inl k,v=>Value.isInt k v
 | .inr x,v=>Value.isStrOf x v
def keyH (w:World):Key->Int
 | .inl k=>hashInt k
 | .inr x=>hashStr w x
theorem kE:∀ {k:Key}{v:Value},keyIs k v=true->(∃ i t,k=Sum.inl i/\v=Value.int i t)\/(∃ x t,k=Sum.inr x/\v=Value.str x t)
 | .inl i,v,h=>by
  obtain⟨t,e⟩:=Value.isInt_shape (k:=i) (v:=v) h
  exact .inl ⟨i,t,rfl,e⟩
 | .inr x,v,h=>by
  obtain⟨t,e⟩:=Value.isStrOf_shape (x:=x) (v:=v) h
  exact .inr ⟨x,t,rfl,e⟩
theorem jN7 (i:Int)(t:Tok):keyIs (.inl i) (.int i t)=true:=by simp [keyIs,Value.isInt]
theorem jN6 (x:Str)(t:Tok):keyIs (.inr x) (.str x t)=true:=by simp [keyIs,Value.isStrOf]
theorem jVU (a b:Int):decide ((Sum.inl a:Key)=Sum.inl b)=(a==b):=by
 by_cases e:a=b
 ·subst e; simp
 ·have h:¬ (Sum.inl a:Key)=Sum.inl b:=fun q=>e (fk q)
  rw[aM h]
  exact(cc.mpr e).symm
theorem jVR (a b:Str):decide ((Sum.inr a:Key)=Sum.inr b)=decide (a=b):=by
 by_cases e:a=b
 ·subst e; simp
 ·have h:¬ (Sum.inr a:Key)=Sum.inr b:=fun q=>e (Sum.inr.inj q)
  rw[aM h,aM e]
theorem jVT (a:Int)(b:Str):decide ((Sum.inl a:Key)=Sum.inr b)=false:=aM (fun q=>nomatch q)
theorem jVS (a:Str)(b:Int):decide ((Sum.inr a:Key)=Sum.inl b)=false:=aM (fun q=>nomatch q)
def jX (prog:Program)(w:World):PySem.KeyKind prog w Key where
 is:=keyIs
 hash:=keyH w
 inj:=fun v a b ha hb=>by
  rcases kE ha with ⟨i,t,rfl,rfl⟩ | ⟨x,t,rfl,rfl⟩
  ·rcases kE hb with ⟨j,u,rfl,e⟩ | ⟨y,u,rfl,e⟩
   ·injection e with e1 _; rw[e1]
   ·exact nomatch e
  ·rcases kE hb with ⟨j,u,rfl,e⟩ | ⟨y,u,rfl,e⟩
   ·exact nomatch e
   ·injection e with e1 _; rw[e1]
 byValue:=fun k v h=>by
  rcases kE h with ⟨i,t,rfl,rfl⟩ | ⟨x,t,rfl,rfl⟩ <;> rfl
 pyHash:=fun hv h=>by
  rcases kE hv with ⟨i,t,rfl,rfl⟩ | ⟨x,t,rfl,rfl⟩
  ·exact wpAny_pyHash_int h
  ·exact wpAny_pyHash_str h
 eqBool:=fun hu hv h=>by
  rcases kE hu with ⟨i,t,rfl,rfl⟩ | ⟨x,t,rfl,rfl⟩
  ·rcases kE hv with ⟨j,u,rfl,rfl⟩ | ⟨y,u,rfl,rfl⟩
   ·rw[jVU] at h; exact wpAny_eqBool_int h
   ·rw[jVT] at h; exact SeqAt.EqAt.int_str i t y u _ _ _ _ h
  ·rcases kE hv with ⟨j,u,rfl,rfl⟩ | ⟨y,u,rfl,rfl⟩
   ·rw[jVS] at h; exact SeqAt.EqAt.str_int x t j u _ _ _ _ h
   ·rw[jVR] at h; exact wpAny_eqBool_str h
 «strs»:=fun k x t v h=>by
  rcases kE h with ⟨i,u,rfl,e⟩ | ⟨y,u,rfl,e⟩
  ·exact nomatch e
  ·injection e with e1 _
   subst e1
   cases v <;> rfl
theorem jHY (prog:Program)(w:World)(i:Int)(t:Tok):(jX prog w).is (.inl i) (.int i t)=true:=jN7 i t
theorem jHX (prog:Program)(w:World)(x:Str)(t:Tok):(jX prog w).is (.inr x) (.str x t)=true:=jN6 x t
inductive V where
 | non | bl (b:Bool) | int (i:Int) | str (x:Str) | byt (b:Array UInt8) | flt (b:UInt64) | ref (a:Addr) | ty (n:String)
 deriving DecidableEq
def RelV:V->Value->Prop
 | .non,u=>u=Value.none
 | .bl b,u=>u=Value.bool b
 | .int i,u=>∃ t,u=Value.int i t
 | .str x,u=>∃ t,u=Value.str x t
 | .byt b,u=>∃ t,u=Value.bytes b t
 | .flt b,u=>∃ t,u=Value.float b t
 | .ref a,u=>u=Value.ref a
 | .ty n,u=>u=Value.type n
abbrev Vals:List V->List Value->Prop:=Paired RelV
theorem Vals.length {xs:List V}{us:List Value}(r:Vals xs us):xs.length=us.length:=gU r
theorem Vals.get:∀ {xs:List V}{us:List Value}{i:Nat}{x:V},Vals xs us->xs[i]?=some x->∃ u,us[i]?=some u/\RelV x u
 | _,_,_,_, .nil,e=>by simp at e
 | _,_,0,_, .cons r _,e=>by simp at e; subst e; exact⟨_,rfl,r⟩
 | _,_,i+1,x, .cons _ t,e=>by
  obtain⟨u,h1,h2⟩:=Vals.get (i:=i) (x:=x) t (by simpa using e)
  exact⟨u,by simpa using h1,h2⟩
theorem Vals.set {x:V}{u:Value}(r:RelV x u):∀ {xs:List V}{us:List Value}(i:Nat),Vals xs us->Vals (xs.set i x) (us.set i u)
 | _,_,_, .nil=> .nil
 | _,_,0, .cons _ t=> .cons r t
 | _,_,i+1, .cons q t=> .cons q (Vals.set r i t)
theorem Vals.append:∀ {xs ys:List V}{us ws:List Value},Vals xs us->Vals ys ws->Vals (xs++ys) (us++ws)
 | _,_,_,_, .nil,s=>s
 | _,_,_,_, .cons r t,s=> .cons r (Vals.append t s)
theorem Vals.take:∀ {xs:List V}{us:List Value}(n:Nat),Vals xs us->Vals (xs.take n) (us.take n)
 | _,_,0,_=> .nil
 | _,_,_+1, .nil=> .nil
 | _,_,n+1, .cons r t=> .cons r (Vals.take n t)
theorem Vals.drop:∀ {xs:List V}{us:List Value}(n:Nat),Vals xs us->Vals (xs.drop n) (us.drop n)
 | _,_,0,r=>r
 | _,_,_+1, .nil=> .nil
 | _,_,n+1, .cons _ t=>Vals.drop n t
def RelO:Option V->Option Value->Prop
 | some v,some u=>RelV v u
 | none,none=>True
 | _,_=>False
def KV {κ:Type} :List (κ×V)->List (κ×Value)->Prop:=Paired fun (p:κ×V) (q:κ×Value)=>p.1=q.1/\RelV p.2 q.2
noncomputable def kV:Key->V
 | .inl i=> .int i
 | .inr x=> .str x
def TupO (h:Heap)(a:Addr)(items:Array Value):Prop:=∃ n,h.get? a=some { cls:= .type "tuple",data:= .seq items n}
theorem TupO.isTup {h:Heap}{a:Addr}{items:Array Value}(x:TupO h a items):IsTup h a items:=let ⟨n,e⟩:=x; ⟨_,e,rfl,n,rfl⟩
theorem TupO.new (h:Heap)(items:Array Value):TupO (h.push { cls:= .type "tuple",data:= .seq items}) h.objs.size items:=⟨0,aB _ rfl⟩
inductive HO where
  | lst (xs:List V)
  | tup (xs:List V)
  | dK (kvs:List (Key×V)) | dT (kvs:List (List Key×V))
  | set (S:Int->Bool) (n:Nat)
  | ins (C dx:Addr) (fs:List (Str×V))
  | own (x:Addr)
  | xd (fs:List (Str×V))
  | met (f x:Addr)
  | rng (lo hi:Int)
  | frz (o:Obj) (u:HO)
  | tbl (ps:Array Value)
  | ext (φ:Heap->Prop)
abbrev Hp:=Addr->Option HO
def upd (H:Hp)(a:Addr)(o:HO):Hp:=fun b=>if b=a then some o else H b
theorem j6 {H:Hp}{a:Addr}{o:HO} :upd H a o a=some o:=by unfold upd; rw[ah rfl]
theorem j8 {H:Hp}{a b:Addr}{o:HO}(h:b≠a):upd H a o b=H b:=by unfold upd; rw[ae h]
theorem ne_of {H:Hp}{a b:Addr}{o u:HO}(h:H a=some o)(h':H b=some u)(d:o≠u):a≠b:=by
 intro e; subst e; rw[h] at h'; exact d (bo h')
theorem jA {H:Hp}{a b:Addr}{o:HO}(h:H a=some o)(h':H b=none):a≠b:=by
 intro e; subst e; rw[h] at h'; cases h'
section
variable (P:Program)(w:World)
def ObjOk (H:Hp)(h:Heap)(a:Addr):HO->Prop
 | .lst xs=>xs.length<=sizeLine/\∃ (its:List Value) (n:Nat),Vals xs its/\h.get? a=some { cls:= .type "list",data:= .seq its.toArray n}
 | .tup xs=>xs.length<=sizeLine/\∃ its:List Value,Vals xs its/\TupO h a its.toArray
 | .dK kvs=>kvs.length<=sizeLine/\(a==sysModules)=false/\∃ vs,KV kvs vs/\h.DictOf (jX P w) a vs
 | .dT kvs=>kvs.length<=sizeLine/\(a==sysModules)=false/\∃ xs:List (List Key×Addr×Value),
   Paired (fun (p:List Key×V) (q:List Key×Addr×Value)=>p.1=q.1/\H q.2.1=some (.tup (p.1.map kV))/\RelV p.2 q.2.2) kvs xs/\
   ∃ o es ep,h.get? a=some o/\o.ExactDict/\o.data= .dict es ep/\es.toList=xs.map (entryOfKey (tupleKind (jX P w)))/\(xs.map (·.1)).Nodup
 | .set S n=>h.SetOf (intKind P w) a S n
 | .ins C dx fs=>H dx=some (.own a)/\fs.length<=1000/\dx≠a/\h.get? a=some (instObj C dx)/\
   ∃ mA,h.Ns1 dx mA/\(∀ f,RelO (fs.lookup f) (mA f))/\PySem.Within mA (fs.map (·.1))
 | .own _=>∃ o,h.get? a=some o
 | .xd fs=>∃ mA,h.Ns1 a mA/\∀ f,RelO (fs.lookup f) (mA f)
 | .rng lo hi=>∃ t u v,h.get? a=some { cls:= .type "range",data:= .fields #[.int lo t, .int hi u, .int 1 v]}
 | .frz o u=>h.get? a=some o/\ObjOk H h a u
 | .tbl ps=>h.get? a=some { cls:= .none,data:= .fields ps}
 | .met f x=>h.get? a=some (methodObj (.ref f) (.ref x))
 | .ext φ=>φ h/\(∃ o,h.get? a=some o)/\∀ h1 h2:Heap,φ h1->(∀ o,h1.get? a=some o->h2.get? a=some o)->φ h2
def HOk (H:Hp)(h:Heap):Prop:=∀ a o,H a=some o->ObjOk P w H h a o
end
variable {P:Program}{w:World}{H H':Hp}{h h':Heap}{a:Addr}
section
variable {o:HO}
theorem ObjOk.lt (x:ObjOk P w H h a o):a<h.objs.size:=by
 cases o with
 | lst xs=>obtain⟨_,_,_,_,e⟩:=x; exact aG e
 | tup xs=>obtain⟨_,_,_,_,e⟩:=x; exact aG e
 | dK kvs=>obtain⟨_,_,_,_,o,_,_,e,_⟩:=x; exact aG e
 | dT kvs=>obtain⟨_,_,_,_,o,_,_,e,_⟩:=x; exact aG e
 | set S n=>obtain⟨o,_,_,_,e,_⟩:=x; exact aG e
 | ins C dx fs=>obtain⟨_,_,_,e,_⟩:=x; exact aG e
 | own y=>obtain⟨_,e⟩:=x; exact aG e
 | xd fs=>obtain⟨_,⟨_,_,_,e,_⟩,_⟩:=x; exact aG e
 | rng lo hi=>obtain⟨_,_,_,e⟩:=x; exact aG e
 | frz ob u=>obtain⟨e,_⟩:=x; exact aG e
 | tbl ps=>exact aG (show h.get? a=some _ from x)
 | met f y=>exact aG (show h.get? a=some _ from x)
 | ext φ=>obtain⟨_,⟨_,e⟩,_⟩:=x; exact aG e
theorem Paired.mapP {α β:Type}{F G:α->β->Prop} :∀ {l₁:List α}{l₂:List β},Paired F l₁ l₂->(∀ a b,F a b->G a b)->Paired G l₁ l₂
 | _,_, .nil,_=> .nil
 | _,_, .cons r t,f=> .cons (f _ _ r) (Paired.mapP t f)
theorem ObjOk.stay (x:ObjOk P w H h a o)(k:∀ b u,(b=a\/H b=some (.own a))->h.get? b=some u->h'.get? b=some u)
  (ho:∀ b,H b=some (.own a)->H' b=some (.own a)) (ht:∀ b xs,H b=some (.tup xs)->H' b=some (.tup xs)):ObjOk P w H' h' a o:=by
 induction o with
 | lst xs=>obtain⟨z,its,n,r,e⟩:=x; exact⟨z,its,n,r,k _ _ (.inl rfl) e⟩
 | tup xs=>obtain⟨z,its,r,n,e⟩:=x; exact⟨z,its,r,n,k _ _ (.inl rfl) e⟩
 | dK kvs=>obtain⟨z,y,vs,r,ob,es,ep,e,c⟩:=x; exact⟨z,y,vs,r,ob,es,ep,k _ _ (.inl rfl) e,c⟩
 | dT kvs=>
  obtain⟨z,y,xs,r,ob,es,ep,e,c⟩:=x
  exact⟨z,y,xs,Paired.mapP r fun p q z=>⟨z.1,ht _ _ z.2.1,z.2.2⟩,ob,es,ep,k _ _ (.inl rfl) e,c⟩
 | set S n=>obtain⟨ob,es,ep,t,e,c⟩:=x; exact⟨ob,es,ep,t,k _ _ (.inl rfl) e,c⟩
 | ins C dx fs=>
  obtain⟨d,z,ne,e,mA,⟨od,es,ep,e2,c⟩,r⟩:=x
  exact⟨ho _ d,z,ne,k _ _ (.inl rfl) e,mA,⟨od,es,ep,k _ _ (.inr d) e2,c⟩,r⟩
 | own y=>obtain⟨ob,e⟩:=x; exact⟨ob,k _ _ (.inl rfl) e⟩
 | xd fs=>obtain⟨mA,⟨od,es,ep,e,c⟩,r⟩:=x; exact⟨mA,⟨od,es,ep,k _ _ (.inl rfl) e,c⟩,r⟩
 | rng lo hi=>obtain⟨t,u,v,e⟩:=x; exact⟨t,u,v,k _ _ (.inl rfl) e⟩
 | frz ob u ih=>obtain⟨e,q⟩:=x; exact⟨k _ _ (.inl rfl) e,ih q⟩
 | tbl ps=>
  have e:h.get? a=some { cls:= .none,data:= .fields ps} :=x
  show h'.get? a=some { cls:= .none,data:= .fields ps}
  exact k a _ (.inl rfl) e
 | met f y=>
  have e:h.get? a=some (methodObj (.ref f) (.ref y)):=x
  show h'.get? a=some (methodObj (.ref f) (.ref y))
  exact k a _ (.inl rfl) e
 | ext φ=>obtain⟨p,⟨o,e⟩,st⟩:=x; exact⟨st _ _ p fun o q=>k _ _ (.inl rfl) q,⟨o,k _ _ (.inl rfl) e⟩,st⟩
theorem HOk.lt (x:HOk P w H h)(e:H a=some o):a<h.objs.size:=(x a o e).lt
theorem HOk.fresh (x:HOk P w H h)(e:h.objs.size<=a):H a=none:=by
 cases q:H a with
 | none=>rfl
 | some u=>exact absurd (bh (x.lt q) e) (df _)
theorem HOk.kept (x:HOk P w H h)(k:∀ b u,h.get? b=some u->h'.get? b=some u):HOk P w H h':=fun a o e=>
 (x a o e).stay (fun b u _ q=>k b u q) (fun _ q=>q) fun _ _ q=>q
theorem HOk.laid (x:HOk P w H h)(k:∀ b u,h.get? b=some u->h'.get? b=some u)(hp:h.objs.size<=a)(new:ObjOk P w (upd H a o) h' a o):HOk P w (upd H a o) h':=fun b u e=>by
 have hn:=x.fresh hp
 by_cases hb:b=a
 ·subst hb; rw[j6] at e; cases e; exact new
 ·rw[j8 hb] at e
  exact(x b u e).stay (fun c v _ q=>k c v q) (fun c q=>by rw[j8 (jA q hn)]; exact q) fun c xs q=>by rw[j8 (jA q hn)]; exact q
end
def Rd (H:Hp)(a:Addr)(u:HO):Prop:=H a=some u\/∃ o,H a=some (.frz o u)
theorem Rd.ok {P:Program}{w:World}{H:Hp}{h:Heap}{a:Addr}{u:HO}(r:Rd H a u)(x:HOk P w H h):ObjOk P w H h a u:=by
 rcases r with r | ⟨o,r⟩
 ·exact x a u r
 ·obtain⟨_,q⟩:=x a _ r
  exact q
def Mut:Option HO->Prop
 | some (.lst _)=>True
 | some (.dK _)=>True
 | some (.dT _)=>True
 | some (.set _ _)=>True
 | some (.ins _ _ _)=>True
 | some (.ext _)=>True
 | _=>False
variable {x:Addr}
section
variable {e:Addr}{o':HO}
theorem HOk.write (ok:HOk P w H h)(mu:Mut (H x))(he:e=x\/H e=some (.own x))(k:∀ b u,b≠e->h.get? b=some u->h'.get? b=some u)(heo:∃ u,h'.get? e=some u)
  (new:ObjOk P w (upd H x o') h' x o'):HOk P w (upd H x o') h':=fun b u q=>by
 have nown:∀ c y,H c=some (.own y)->c≠x:=fun c y r z=>by subst z; rw[r] at mu; exact mu
 have ntup:∀ c xs,H c=some (.tup xs)->c≠x:=fun c xs r z=>by subst z; rw[r] at mu; exact mu
 by_cases hb:b=x
 ·subst hb; rw[j6] at q; cases q; exact new
 ·rw[j8 hb] at q
  by_cases hbe:b=e
  ·have q':H b=some (.own x):=by
    rcases he with z | z
    ·exact absurd (hbe.trans z) hb
    ·rw[hbe]; exact z
   rw[q] at q'; cases q'
   obtain⟨v,hv⟩:=heo
   exact⟨v,by rw[hbe]; exact hv⟩
  ·refine(ok b u q).stay (fun c v hc r=>k c v ?_ r) (fun c r=>by rw[j8 (nown c b r)]; exact r) fun c xs r=>by rw[j8 (ntup c xs r)]; exact r
   rcases hc with rfl | hc
   ·exact hbe
   ·rintro rfl
    rcases he with z | z
    ·exact nown c b hc z
    ·rw[hc] at z; cases z; exact hb rfl
end
structure Un (fs ex:List Addr)(H H':Hp)(h h':Heap):Prop where
 keep:∀ b o,h.get? b=some o->H b=none->b∉fs->b∉ex->h'.get? b=some o
 slot:∀ b o,h.get? b=some o->H b=none->b∈fs->b∉ex->∃ sl,h'.get? b=some { o with slots:=sl}
 free:∀ b o,h.get? b=some o->H b=none->b∉ex->H' b=none
 there:∀ b o,h.get? b=some o->b∉ex->∃ o',h'.get? b=some o'
 tups:∀ b xs,H b=some (.tup xs)->H' b=some (.tup xs)
 frzs:∀ b o u,H b=some (.frz o u)->H' b=some (.frz o u)
 tbls:∀ b ps,H b=some (.tbl ps)->∃ more,H' b=some (.tbl (ps++more))
section
variable {fs fs' ex ex':List Addr}{H1 H2:Hp}{h1 h2:Heap}{e:Addr}{o:HO}
theorem Un.any (u:Un fs ex H H1 h h1){b:Addr}{ob:Obj}(q:h.get? b=some ob)(n:H b=none)(hx:b∉ex):∃ sl,h1.get? b=some { ob with slots:=sl} :=by
 by_cases hb:b∈fs
 ·exact u.slot b ob q n hb hx
 ·exact⟨ob.slots,u.keep b ob q n hb hx⟩
theorem Un.kept (k:∀ b u,h.get? b=some u->h'.get? b=some u):Un fs ex H H h h':=
 ⟨fun b ob q _ _ _=>k b ob q,fun b ob q _ _ _=>⟨ob.slots,k b ob q⟩,fun _ _ _ n _=>n,fun b ob q _=>⟨ob,k b ob q⟩,fun _ _ q=>q,fun _ _ _ q=>q,fun _ ps q=>⟨#[],by rw[q]; simp⟩⟩
theorem Un.refl:Un fs ex H H h h:=Un.kept fun _ _ q=>q
theorem Un.laid (k:∀ b u,h.get? b=some u->h'.get? b=some u)(hp:h.objs.size<=a)(hn:H a=none):Un fs ex H (upd H a o) h h' where
 keep:=fun b u q _ _ _=>k b u q
 slot:=fun b u q _ _ _=>⟨u.slots,k b u q⟩
 free:=fun b u q n _=>by rw[j8 (bb (bh (aG q) hp))]; exact n
 there:=fun b u q _=>⟨u,k b u q⟩
 tups:=fun b xs q=>by rw[j8 (jA q hn)]; exact q
 frzs:=fun b u xs q=>by rw[j8 (jA q hn)]; exact q
 tbls:=fun b ps q=>⟨#[],by rw[j8 (jA q hn),q]; simp⟩
theorem Un.write (mu:Mut (H x))(he:e=x\/H e=some (.own x))(k:∀ b u,b≠e->h.get? b=some u->h'.get? b=some u)(heo:∃ u,h'.get? e=some u):Un fs ex H (upd H x o) h h':=by
 have hx:∀ b,H b=none->b≠x:=fun b n z=>by subst z; rw[n] at mu; exact mu
 have hb:∀ b,H b=none->b≠e:=fun b n z=>by
  subst z
  rcases he with r | r
  ·exact hx b n r
  ·rw[n] at r; cases r
 have hm:∀ b u,H b=some u->¬ Mut (some u)->b≠x:=fun b u q nm z=>by subst z; rw[q] at mu; exact nm mu
 refine⟨fun b u q n _ _=>k b u (hb b n) q,fun b u q n _ _=>⟨u.slots,k b u (hb b n) q⟩,fun b u q n _=>by rw[j8 (hx b n)]; exact n,fun b u q _=>?_,
  fun b xs q=>by rw[j8 (hm b _ q fun z=>z)]; exact q,fun b u xs q=>by rw[j8 (hm b _ q fun z=>z)]; exact q,fun b ps q=>⟨#[],by rw[j8 (hm b _ q fun z=>z),q]; simp⟩⟩
 by_cases hbe:b=e
 ·subst hbe; exact heo
 ·exact⟨u,k b u hbe q⟩
end
def trk (h:Heap)(H:Hp):List Addr:=(List.range h.objs.size).filter fun a=>(H a).isSome
def hidT (h:Heap)(H:Hp):Heap:=PySem.W.hideAll h (trk h H)
theorem jNV (h:Heap)(H:Hp):(hidT h H).objs.size=h.objs.size:=PySem.W.hideAll_size _ _
theorem jQC {h:Heap}{H:Hp}{b:Addr}{o:Obj}(e:h.get? b=some o)(n:H b=none):(hidT h H).get? b=some o:=
 PySem.W.hideAll_get _ e fun hm=>by
  have q:(H b).isSome=true:=(aQ.mp hm).2
  rw[n] at q; simp at q
theorem jT9 {h:Heap}{H:Hp}{b:Addr}{o:Obj}(e:(hidT h H).get? b=some o):h.get? b=some o/\H b=none:=by
 have e':h.get? b=some o:=PySem.W.of_hideAll (trk h H) e
 refine⟨e',?_⟩
 cases q:H b with
 | none=>rfl
 | some x=>
  have hm:b∈trk h H:=aQ.mpr ⟨br.mpr (aG e'),by simp [q]⟩
  have z:(hidT h H).get? b=none:=PySem.W.hideAll_none (trk h H) hm
  rw[z] at e; cases e
structure Mod (K:W.Frag)(mg:Str->Option Value)(base:Heap):Prop where
 kin:K.In base
 glob:base.Ns mainGlobals mg
 blt:∃ mb,base.Ns builtinsNs mb/\∀ x:Str,x≠ "__name__" ->mb x=bootBuiltins x
 nolimit:base.NoLimit
structure Cx where
 prog:Program
 w:World
 K:W.Frag
 mg:Str->Option Value
 base:Heap
 A:Around
 N:List Str
 s₀:Shared
 H₀:Hp
 env:Env
 outer:List Env
 stack:List Env
 ex:List Addr
 fn:Str->Bool
 calm:Bool
 pn:List (Addr×Obj)
 xe:Value->Shared->Prop
def frs (l:List Env):List Addr:=l.filterMap (·.frame)
abbrev Cx.fs (X:Cx):List Addr:=frs X.outer
def Vis (sc:Scope)(x:Str):Prop:=sc.names.lookup x=some .local\/sc.names.lookup x=some .cell\/sc.names.lookup x=some .free
def Loc (sc:Scope)(x:Str):Prop:=sc.names.lookup x=some .local\/sc.names.lookup x=some .cell
def Look (env:Env)(h:Heap)(m:Str->Option Value)(x:Str)(u:Value):Prop:=
 (env.kindOf x=some .local/\m x=some u)\/((env.kindOf x=some .cell\/env.kindOf x=some .free)/\∃ c,env.cells.lookup x=some c/\h.IsCell c (some u))
structure Cx.Ok (X:Cx):Prop where
 mod:Mod X.K X.mg X.base
 kind:X.env.scope.kind= .function
 glob:X.env.globals=mainGlobals
 blt:X.env.builtins=builtinsNs
 above:X.s₀.heap.objs.size<=X.env.locals
 inj:∀ x y c,X.env.cells.lookup x=some c->X.env.cells.lookup y=some c->x=y
 has:∀ x,(X.env.kindOf x=some .cell\/X.env.kindOf x=some .free)->∃ c,X.env.cells.lookup x=some c
 cab:∀ x c,X.fn x=true->X.env.cells.lookup x=some c->X.s₀.heap.objs.size<=c
 hd:X.calm=true->X.A.handled=none
 frames:X.A.frames=some X.stack
 stk:X.stack=X.outer\/(X.stack=X.env::X.outer/\X.env.frame=some X.env.locals)
 exf:∀ b∈X.ex,b≠X.env.locals/\∀ x c,X.env.cells.lookup x=some c->c≠b
 bs:∀ b o,X.base.get? b=some o->X.s₀.heap.get? b=some o/\X.H₀ b=none
 bsz:X.base.objs.size<=X.s₀.heap.objs.size
 noex:∀ b o,X.base.get? b=some o->b∉X.ex
 exfs:∀ b∈X.ex,b∉X.fs
 funs:X.s₀.heap.FunFrames X.base X.outer
 frf:∀ b∈X.fs,X.H₀ b=none
structure Inv (X:Cx)(ad:List (Addr×Obj))(σ:List (Option V))(H:Hp)(s:Shared):Prop where
 ok:X.Ok
 os:s.os=X.s₀.os
 bare:AllBare s.gens
 base:Un X.fs X.ex X.H₀ H X.s₀.heap s.heap
 loc:∃ m,s.heap.Ns X.env.locals m/\∀ (i:Nat) (x:Str) (v:V),X.N[i]?=some x->σ[i]?=some (some v)->Vis X.env.scope x->∃ u,RelV v u/\Look X.env s.heap m x u
 cell:∀ x c,X.env.cells.lookup x=some c->∃ v,s.heap.IsCell c v
 free:H X.env.locals=none
 freeC:∀ x c,X.env.cells.lookup x=some c->H c=none
 pin:∀ p∈X.pn++ad,s.heap.get? p.1=some p.2/\H p.1=none/\p.1≠X.env.locals/\p.1∉X.fs/\∀ v,p.2.data≠ .cell v
 hok:HOk X.prog X.w H s.heap
 len:σ.length=X.N.length
variable {X:Cx}{ad:List (Addr×Obj)}{s:Shared}
section
variable {σ:List (Option V)}
theorem Cx.Ok.nofr (ok:X.Ok){b:Addr}{o:Obj}(e:X.base.get? b=some o):b∉X.fs:=fun hb=>by
 have:=(ok.funs.mem hb).1
 rw[e] at this; cases this
theorem Inv.bs (I:Inv X ad σ H s):∀ b o,X.base.get? b=some o->s.heap.get? b=some o/\H b=none:=fun b o e=>
 ⟨I.base.keep b o (I.ok.bs b o e).1 (I.ok.bs b o e).2 (I.ok.nofr e) (I.ok.noex b o e),I.base.free b o (I.ok.bs b o e).1 (I.ok.bs b o e).2 (I.ok.noex b o e)⟩
theorem Inv.bk (I:Inv X ad σ H s):∀ b o,X.base.get? b=some o->s.heap.get? b=some o:=fun b o e=>(I.bs b o e).1
theorem Inv.mod (I:Inv X ad σ H s):Mod X.K X.mg X.base:=I.ok.mod
theorem Inv.kIn (I:Inv X ad σ H s):X.K.In s.heap:=I.ok.mod.kin.keeps I.bk
theorem Inv.lt (I:Inv X ad σ H s):X.env.locals<s.heap.objs.size:=let ⟨_,hn,_⟩:=I.loc; hn.lt
theorem Inv.sz (I:Inv X ad σ H s):X.s₀.heap.objs.size<=s.heap.objs.size:=bM I.ok.above (dh I.lt)
theorem Inv.nofs (I:Inv X ad σ H s){a:Addr}(h:s.heap.objs.size<=a):a∉X.fs:=fun hb=>by
 obtain⟨_,o,ho,_⟩:=I.ok.funs.mem hb
 exact absurd (bh (aG ho) (bM I.sz h)) (df _)
theorem Inv.cne (I:Inv X ad σ H s):∀ x c,X.env.cells.lookup x=some c->c≠X.env.locals:=fun x c e z=>by
 obtain⟨v,o,ho,hd⟩:=I.cell x c e
 obtain⟨m,⟨o',es,ep,ho',hd',_⟩,_⟩:=I.loc
 rw[z,ho'] at ho; cases ho; rw[hd'] at hd; cases hd
theorem Inv.funs (I:Inv X ad σ H s):s.heap.FunFrames X.base X.outer:=by
 have all:∀ (l:List Env),(∀ b∈frs l,b∈X.fs)->X.s₀.heap.FunFrames X.base l->s.heap.FunFrames X.base l:=by
  intro l
  induction l with
  | nil=>intro _ _; trivial
  | cons env r ih=>
   intro hs hl
   obtain⟨hk,⟨L,o,hf,hn,ho,hd⟩,hr⟩:=hl
   have hL:L∈X.fs:=hs L (by unfold frs; rw[eQ,hf]; exact am)
   obtain⟨sl,e⟩:=I.base.slot L o ho (I.ok.frf L hL) hL fun z=>I.ok.exfs L z hL
   exact⟨hk,⟨L,_,hf,hn,e,hd⟩,ih (fun b hb=>hs b (by unfold frs; rw[eQ,hf]; exact aj _ hb)) hr⟩
 exact all X.outer (fun _ hb=>hb) I.ok.funs
theorem Inv.stack (I:Inv X ad σ H s):s.heap.FunFrames X.base X.stack:=by
 rcases I.ok.stk with e | ⟨e,hf⟩
 ·rw[e]; exact I.funs
 ·rw[e]
  obtain⟨m,hn,_⟩:=I.loc
  refine .cons (by rw[I.ok.kind]; decide) hf hn ?_ I.funs
  exact Heap.get?_none_of_le (bM I.ok.bsz I.ok.above)
theorem Inv.stkSub (I:Inv X ad σ H s):∀ b∈frs X.stack,b∈X.env.locals::X.fs:=fun b hb=>by
 rcases I.ok.stk with e | ⟨e,hf⟩
 ·rw[e] at hb; exact aj _ hb
 ·rw[e] at hb
  unfold frs at hb
  rw[eQ,hf] at hb
  exact hb
theorem Inv.stkFree (I:Inv X ad σ H s):∀ b∈frs X.stack,H b=none:=fun b hb=>by
 rcases aF.mp (I.stkSub b hb) with e | hb
 ·rw[e]; exact I.free
 ·obtain⟨_,o,ho,_⟩:=I.ok.funs.mem hb
  exact I.base.free b o ho (I.ok.frf b hb) fun z=>I.ok.exfs b z hb
theorem Inv.step {g':Array GenState}{t':Nat}{d':Drawn}{ch:List Addr}(I:Inv X ad σ H s)
  (hch:∀ b∈ch,(b∈X.ex\/X.s₀.heap.objs.size<=b)/\b≠X.env.locals/\(∀ x c,X.env.cells.lookup x=some c->c≠b)/\∀ p∈X.pn++ad,p.1≠b)
  (keep:∀ b o,b≠X.env.locals->b∉X.fs->b∉ch->s.heap.get? b=some o->H b=none->h'.get? b=some o)
  (slot:∀ b o,b≠X.env.locals->b∈X.fs->b∉ch->s.heap.get? b=some o->H b=none->∃ sl,h'.get? b=some { o with slots:=sl}) (free:∀ b o,b∉ch->s.heap.get? b=some o->H b=none->H' b=none)
  (there:∀ b o,b∉ch->s.heap.get? b=some o->∃ o',h'.get? b=some o')
  (tups:∀ b xs,H b=some (.tup xs)->H' b=some (.tup xs)) (frzs:∀ b o u,H b=some (.frz o u)->H' b=some (.frz o u)) (tbls:∀ b ps,H b=some (.tbl ps)->∃ more,H' b=some (.tbl (ps++more)))
  (ns:∀ m,s.heap.Ns X.env.locals m->h'.Ns X.env.locals m) (hok:HOk X.prog X.w H' h') (hg:AllBare g'):
  Inv X ad σ H' { s with heap:=h',gens:=g',drawn:=d',toks:=t'} :=by
 have neL:∀ b o,X.s₀.heap.get? b=some o->b≠X.env.locals:=fun b o e=>bb (bh (aG e) I.ok.above)
 have neC:∀ b o,X.s₀.heap.get? b=some o->b∉X.ex->b∉ch:=fun b o e hx hb=>by
  rcases (hch b hb).1 with z | z
  ·exact hx z
  ·exact absurd (bh (aG e) z) (df _)
 have cellK:∀ x c,X.env.cells.lookup x=some c->∀ v,s.heap.IsCell c v->h'.IsCell c v:=fun x c e v ⟨o,ho,hd⟩=>by
  have nch:c∉ch:=fun z=>(hch c z).2.2.1 x c e rfl
  by_cases hc:c∈X.fs
  ·obtain⟨sl,q⟩:=slot c o (I.cne x c e) hc nch ho (I.freeC x c e)
   exact⟨_,q,hd⟩
  ·exact⟨o,keep c o (I.cne x c e) hc nch ho (I.freeC x c e),hd⟩
 refine⟨I.ok,I.os,hg,⟨fun b o e n hb hx=>?_,fun b o e n hb hx=>?_,fun b o e n hx=>?_,fun b o e hx=>?_,fun b xs e=>tups b xs (I.base.tups b xs e),fun b o xs e=>frzs b o xs (I.base.frzs b o xs e),fun b ps e=>?_⟩,?_,fun x c e=>?_,?_,fun x c e=>?_,fun p hp=>?_,hok,I.len⟩
 ·exact keep b o (neL b o e) hb (neC b o e hx) (I.base.keep b o e n hb hx) (I.base.free b o e n hx)
 ·obtain⟨sl,e1⟩:=I.base.slot b o e n hb hx
  obtain⟨sl',e2⟩:=slot b _ (neL b o e) hb (neC b o e hx) e1 (I.base.free b o e n hx)
  exact⟨sl',e2⟩
 ·obtain⟨o',e1⟩:=I.base.there b o e hx
  exact free b o' (neC b o e hx) e1 (I.base.free b o e n hx)
 ·obtain⟨o',e1⟩:=I.base.there b o e hx
  exact there b o' (neC b o e hx) e1
 ·obtain⟨m1,e1⟩:=I.base.tbls b ps e
  obtain⟨m2,e2⟩:=tbls b _ e1
  exact⟨m1++m2,by rw[e2,Array.append_assoc]⟩
 ·obtain⟨m,hn,hl⟩:=I.loc
  refine⟨m,ns m hn,fun i x v e1 e2 e3=>?_⟩
  obtain⟨u,r,l⟩:=hl i x v e1 e2 e3
  refine⟨u,r,?_⟩
  rcases l with l | ⟨k,c,e,z⟩
  ·exact .inl l
  ·exact .inr ⟨k,c,e,cellK x c e _ z⟩
 ·obtain⟨v,z⟩:=I.cell x c e
  exact⟨v,cellK x c e v z⟩
 ·obtain⟨m,⟨o,_,_,ho,_⟩,_⟩:=I.loc
  exact free _ o (fun z=>(hch _ z).2.1 rfl) ho I.free
 ·obtain⟨v,o,ho,hd⟩:=I.cell x c e
  exact free c o (fun z=>(hch c z).2.2.1 x c e rfl) ho (I.freeC x c e)
 ·obtain⟨e,n,ne,nf,d⟩:=I.pin p hp
  have nch:p.1∉ch:=fun z=>(hch p.1 z).2.2.2 p hp rfl
  exact⟨keep p.1 p.2 ne nf nch e n,free p.1 p.2 nch e n,ne,nf,d⟩
theorem Inv.un {t':Nat}(I:Inv X ad σ H s)(u:Un X.fs [] H H' s.heap h')(hok:HOk X.prog X.w H' h'):Inv X ad σ H' { s with heap:=h',toks:=t'} :=by
 obtain⟨m,⟨o,es,ep,ho,r⟩,_⟩:=id I.loc
 obtain⟨sl,hL⟩:=u.any ho I.free (by simp)
 exact I.step (g':=s.gens) (d':=s.drawn) (ch:=[]) (fun _ z=>nomatch z) (fun b o _ hb _ e n=>u.keep b o e n hb (by simp)) (fun b o _ hb _ e n=>u.slot b o e n hb (by simp)) (fun b o _ e n=>u.free b o e n (by simp)) (fun b o _ e=>u.there b o e (by simp)) u.tups u.frzs u.tbls (fun m' hm=>by
  obtain⟨o',es',ep',ho',r'⟩:=hm
  rw[ho] at ho'; cases ho'
  exact⟨_,es',ep',hL,r'⟩) hok I.bare
theorem Inv.call {g':Array GenState}{t':Nat}{d':Drawn}{ch:List Addr}(I:Inv X ad σ H s)(u:Un (frs X.stack) ch H H' s.heap h')(hok:HOk X.prog X.w H' h')(hg:AllBare g')
  (hch:∀ b∈ch,(b∈X.ex\/X.s₀.heap.objs.size<=b)/\b≠X.env.locals/\(∀ x c,X.env.cells.lookup x=some c->c≠b)/\∀ p∈X.pn++ad,p.1≠b):
  Inv X ad σ H' { s with heap:=h',gens:=g',drawn:=d',toks:=t'} :=by
 obtain⟨m,⟨o,es,ep,ho,r⟩,_⟩:=id I.loc
 obtain⟨sl,hL⟩:=u.any ho I.free fun z=>(hch _ z).2.1 rfl
 exact I.step (ch:=ch) hch (fun b o hL hb hc e n=>u.keep b o e n (fun z=>(aF.mp (I.stkSub b z)).elim hL hb) hc) (fun b o _ _ hc e n=>u.any e n hc) (fun b o hc e n=>u.free b o e n hc) (fun b o hc e=>u.there b o e hc) u.tups u.frzs u.tbls (fun m' hm=>by
  obtain⟨o',es',ep',ho',r'⟩:=hm
  rw[ho] at ho'; cases ho'
  exact⟨_,es',ep',hL,r'⟩) hok hg
theorem Inv.turned {t':Nat}{it:Addr}(I:Inv X ad σ H s)(k:∀ b o,b≠it->s.heap.get? b=some o->h'.get? b=some o)(hn:H it=none)(hL:it≠X.env.locals)
  (h1:it∈X.ex\/X.s₀.heap.objs.size<=it) (h2:∀ x c,X.env.cells.lookup x=some c->c≠it) (h3:∀ p∈X.pn++ad,p.1≠it):Inv X ad σ H { s with heap:=h',toks:=t'} :=by
 have nit:∀ b u,H b=some u->b≠it:=fun b u e z=>by rw[z,hn] at e; cases e
 refine I.step (g':=s.gens) (d':=s.drawn) (ch:=[it]) (fun b hb=>?_) (fun b o _ _ hc e _=>k b o (fun z=>hc (by simp [z])) e) (fun b o _ _ hc e _=>⟨o.slots,k b o (fun z=>hc (by simp [z])) e⟩) (fun _ _ _ _ n=>n)
  (fun b o hc e=>⟨o,k b o (fun z=>hc (by simp [z])) e⟩) (fun _ _ e=>e) (fun _ _ _ e=>e) (fun b ps e=>⟨#[],by rw[e]; simp⟩) (fun m hm=>?_) (fun b u e=>?_) I.bare
 ·have e:b=it:=by simpa using hb
  subst e
  exact⟨h1,hL,h2,h3⟩
 ·obtain⟨o,es,ep,ho,r⟩:=hm
  exact⟨o,es,ep,k _ o (eG hL) ho,r⟩
 ·refine(I.hok b u e).stay (fun c v hc q=>k c v ?_ q) (fun _ q=>q) fun _ _ q=>q
  rcases hc with z | z
  ·rw[z]; exact nit b u e
  ·exact nit c _ z
theorem Inv.tok (I:Inv X ad σ H s)(t:Nat):Inv X ad σ H { s with toks:=t} :=I.un (h':=s.heap) (t':=t) Un.refl I.hok
theorem Inv.kept {t':Nat}(I:Inv X ad σ H s)(k:∀ b u,s.heap.get? b=some u->h'.get? b=some u):Inv X ad σ H { s with heap:=h',toks:=t'} :=I.un (Un.kept k) (I.hok.kept k)
theorem Inv.laid {a:Addr}{o:HO}{t':Nat}(I:Inv X ad σ H s)(k:∀ b u,s.heap.get? b=some u->h'.get? b=some u)(hp:s.heap.objs.size<=a)(new:ObjOk X.prog X.w (upd H a o) h' a o):
  Inv X ad σ (upd H a o) { s with heap:=h',toks:=t'} :=I.un (Un.laid k hp (I.hok.fresh hp)) (I.hok.laid k hp new)
theorem Inv.write {x e:Addr}{o:HO}{t':Nat}(I:Inv X ad σ H s)(mu:Mut (H x))(he:e=x\/H e=some (.own x))(k:∀ b u,b≠e->s.heap.get? b=some u->h'.get? b=some u)(heo:∃ u,h'.get? e=some u)
  (new:ObjOk X.prog X.w (upd H x o) h' x o):Inv X ad σ (upd H x o) { s with heap:=h',toks:=t'} :=I.un (Un.write mu he k heo) (I.hok.write mu he k heo new)
theorem Inv.pins_of {ad':List (Addr×Obj)}(I:Inv X ad σ H s)(h:∀ p∈ad',s.heap.get? p.1=some p.2/\H p.1=none/\p.1≠X.env.locals/\p.1∉X.fs/\∀ v,p.2.data≠ .cell v):Inv X ad' σ H s:=
 ⟨I.ok,I.os,I.bare,I.base,I.loc,I.cell,I.free,I.freeC,fun p hp=>(aR.mp hp).elim (fun z=>I.pin p (bu _ z)) (h p),I.hok,I.len⟩
theorem jJ6 {N:List Str}(hN:N.Nodup){i j:Nat}{x:Str}(a:N[i]?=some x)(b:N[j]?=some x):i=j:=by
 obtain⟨h1,e1⟩:=ax.mp a
 obtain⟨h2,e2⟩:=ax.mp b
 exact(List.getElem_inj hN).mp (e1.trans e2.symm)
theorem jG4 {M:Model}{A:Around}{E:Value->Shared->Prop}{i:Nat}{x:Str}{v:V}{u:Value}{Q:Unit->Shared->Prop}(I:Inv X ad σ H s)(hN:X.N.Nodup)(hi:X.N[i]?=some x)(hx:Loc X.env.scope x)(r:RelV v u)
  (h:∀ s',Inv X ad (σ.set i (some v)) H s'->(∃ a,Heap.SameBut a s.heap s'.heap/\(a=X.env.locals\/X.env.cells.lookup x=some a))->Q () s') (hf:X.fn x=true\/X.env.scope.names.lookup x=some .local:=by first | exact .inl rfl | exact .inr rfl | assumption):wpAny M A (storeName X.env x u) Q E s:=by
 obtain⟨m,hn,hl⟩:=id I.loc
 have hcls:(X.env.scope.kind== .class || (X.env.scope.kind== .module&&X.env.locals != X.env.globals))=false:=by rw[I.ok.kind]; rfl
 have hiσ:i<σ.length:=by rw[I.len]; exact(ax.mp hi).1
 have cne:=I.cne
 have tracked:∀ {a:Addr}{h':Heap},(∃ o,s.heap.get? a=some o/\H a=none)->Heap.SameBut a s.heap h'->HOk X.prog X.w H h':=fun {a h'} ha hs b ob e=>by
  obtain⟨_,_,hfree⟩:=ha
  refine(I.hok b ob e).stay (fun c w' hc q=>(hs.2 c ?_).trans q) (fun _ q=>q) fun _ _ q=>q
  rintro rfl
  rcases hc with rfl | hc
  ·rw[hfree] at e; cases e
  ·rw[hfree] at hc; cases hc
 rcases hx with hk | hk
 ·refine wpAny_storeName_local hk hn (fun h' hn' hs=>?_) hcls
  obtain⟨oL,_,_,hoL,_⟩:=id hn
  refine h _ ⟨I.ok,I.os,I.bare,⟨fun b o e n hb hx=>?_,fun b o e n hb hx=>?_,I.base.free,fun b o e hx=>?_,I.base.tups,I.base.frzs,I.base.tbls⟩,⟨_,hn',fun j y v' e1 e2 e3=>?_⟩,fun y c e=>?_,I.free,I.freeC,fun p hp=>?_,tracked ⟨oL,hoL,I.free⟩ hs,by simpa using I.len⟩ ⟨_,hs, .inl rfl⟩
  ·exact(hs.2 b (bb (bh (aG e) I.ok.above))).trans (I.base.keep b o e n hb hx)
  ·obtain⟨sl,e1⟩:=I.base.slot b o e n hb hx
   exact⟨sl,(hs.2 b (bb (bh (aG e) I.ok.above))).trans e1⟩
  ·obtain⟨o',e1⟩:=I.base.there b o e hx
   exact⟨o',(hs.2 b (bb (bh (aG e) I.ok.above))).trans e1⟩
  ·by_cases hj:j=i
   ·subst hj
    rw[hi] at e1; cases e1
    rw[ji hiσ] at e2
    cases e2
    exact⟨u,r, .inl ⟨hk,by simp⟩⟩
   ·rw[kg (eG hj)] at e2
    obtain⟨u',r',q⟩:=hl j y v' e1 e2 e3
    refine⟨u',r',?_⟩
    rcases q with ⟨k,e⟩ | ⟨k,c,e,z⟩
    ·refine .inl ⟨k,?_⟩
     have:y≠x:=fun e=>hj (jJ6 hN e1 (e ▸ hi))
     simp [this,e]
    ·exact .inr ⟨k,c,e,z.sameBut hs (cne y c e)⟩
  ·obtain⟨w',z⟩:=I.cell y c e
   exact⟨w',z.sameBut hs (cne y c e)⟩
  ·obtain⟨e,n,ne,nf,d⟩:=I.pin p hp
   exact⟨(hs.2 p.1 ne).trans e,n,ne,nf,d⟩
 ·have hfn:X.fn x=true:=by
   rcases hf with z | z
   ·exact z
   ·rw[z] at hk; cases hk
  obtain⟨c,hc⟩:=I.ok.has x (.inl hk)
  obtain⟨w',z⟩:=I.cell x c hc
  refine wpAny_storeName_cell I.ok.kind hk hc z (fun h' hc' hs=>?_)
  obtain⟨oc,hoc,hocd⟩:=id z
  refine h { s with heap:=h'} ⟨I.ok,I.os,I.bare,⟨fun b o e n hb hx=>?_,fun b o e n hb hx=>?_,I.base.free,fun b o e hx=>?_,I.base.tups,I.base.frzs,I.base.tbls⟩,⟨m,hn.sameBut hs (eG (cne x c hc)),fun j y v' e1 e2 e3=>?_⟩,fun y c' e=>?_,I.free,I.freeC,fun p hp=>?_,tracked ⟨oc,hoc,I.freeC x c hc⟩ hs,by simpa using I.len⟩ ⟨c,hs, .inr hc⟩
  ·exact(hs.2 b (bb (bh (aG e) (I.ok.cab x c hfn hc)))).trans (I.base.keep b o e n hb hx)
  ·obtain⟨sl,e1⟩:=I.base.slot b o e n hb hx
   exact⟨sl,(hs.2 b (bb (bh (aG e) (I.ok.cab x c hfn hc)))).trans e1⟩
  ·obtain⟨o',e1⟩:=I.base.there b o e hx
   exact⟨o',(hs.2 b (bb (bh (aG e) (I.ok.cab x c hfn hc)))).trans e1⟩
  ·by_cases hj:j=i
   ·subst hj
    rw[hi] at e1; cases e1
    rw[ji hiσ] at e2
    cases e2
    exact⟨u,r, .inr ⟨.inl hk,c,hc,hc'⟩⟩
   ·rw[kg (eG hj)] at e2
    obtain⟨u',r',q⟩:=hl j y v' e1 e2 e3
    refine⟨u',r',?_⟩
    rcases q with q | ⟨k,c',e,z'⟩
    ·exact .inl q
    ·refine .inr ⟨k,c',e,z'.sameBut hs ?_⟩
     rintro rfl
     exact hj (jJ6 hN e1 (I.ok.inj _ _ _ e hc ▸ hi))
  ·by_cases hcc:c'=c
   ·subst hcc; exact⟨_,hc'⟩
   ·obtain⟨w2,z2⟩:=I.cell y c' e
    exact⟨w2,z2.sameBut hs hcc⟩
  ·obtain⟨e,n,ne,nf,d⟩:=I.pin p hp
   refine⟨(hs.2 p.1 ?_).trans e,n,ne,nf,d⟩
   intro q
   rw[q,hoc] at e
   have q':oc=p.2:=bo e
   exact d w' (by rw[<- q']; exact hocd)
theorem jBT {M:Model}{A:Around}{E:Value->Shared->Prop}{i:Nat}{x:Str}{v:V}{u:Value}{Q:Unit->Shared->Prop}(I:Inv X ad σ H s)(hN:X.N.Nodup)(hi:X.N[i]?=some x)(hx:Loc X.env.scope x)(r:RelV v u)
  (h:∀ s',Inv X ad (σ.set i (some v)) H s'->Q () s') (hf:X.fn x=true\/X.env.scope.names.lookup x=some .local:=by first | exact .inl rfl | exact .inr rfl | assumption):wpAny M A (storeName X.env x u) Q E s:=
 jG4 I hN hi hx r (fun s' I' _=>h s' I') hf
theorem Inv.call' {s':Shared}{ch:List Addr}(I:Inv X ad σ H s)(ho:s'.os=s.os)(u:Un (frs X.stack) ch H H' s.heap s'.heap)(hok:HOk X.prog X.w H' s'.heap)(hg:AllBare s'.gens)
  (hch:∀ b∈ch,(b∈X.ex\/X.s₀.heap.objs.size<=b)/\b≠X.env.locals/\(∀ x c,X.env.cells.lookup x=some c->c≠b)/\∀ p∈X.pn++ad,p.1≠b):Inv X ad σ H' s':=by
 obtain⟨h',g',d',t',o'⟩:=s'
 have e:o'=s.os:=ho
 subst e
 exact I.call (g':=g') (t':=t') (d':=d') u hok hg hch
end
abbrev XK:=Value->Option Addr->Hp->Prop
abbrev St:=List (Option V)
abbrev VK:=V->Hp->Prop
abbrev TE:=St->Hp->VK->Prop
abbrev TT:=St->Hp->(Bool->Hp->Prop)->Prop
abbrev TA:=St->Hp->(List V->Hp->Prop)->Prop
structure Ends where
 nx:St->Hp->Prop
 rt:VK
 bk:St->Hp->Prop:=fun _ _=>False
 ct:St->Hp->Prop:=fun _ _=>False
abbrev TS:=Ends->St->Hp->Prop
def EP (X:Cx)(ad:List (Addr×Obj))(σ:St)(Q:VK)(u:Value)(s':Shared):Prop:=∃ v H',Inv X ad σ H' s'/\RelV v u/\Q v H'
def TP (X:Cx)(ad:List (Addr×Obj))(σ:St)(Q:Bool->Hp->Prop)(b:Bool)(s':Shared):Prop:=∃ H',Inv X ad σ H' s'/\Q b H'
def AP (X:Cx)(ad:List (Addr×Obj))(σ:St)(Q:List V->Hp->Prop)(us:List Value)(s':Shared):Prop:=∃ vs H',Inv X ad σ H' s'/\Vals vs us/\Q vs H'
def SP (X:Cx)(ad:List (Addr×Obj))(D:Ends)(f:Flow)(s':Shared):Prop:=
 match f with
 | .next=>∃ σ' H',Inv X ad σ' H' s'/\D.nx σ' H'
 | .brk=>∃ σ' H',Inv X ad σ' H' s'/\D.bk σ' H'
 | .cont=>∃ σ' H',Inv X ad σ' H' s'/\D.ct σ' H'
 | .ret u=>∃ v σ' H',Inv X ad σ' H' s'/\RelV v u/\D.rt v H'
def PE (X:Cx)(e:Expr)(t:TE):Prop:=
 ∀ (ad:List (Addr×Obj)) (s:Shared) (σ:St) (H:Hp) (Q:VK),Inv X ad σ H s->t σ H Q->wpAny (model X.prog X.w) X.A (eval e X.env) (EP X ad σ Q) X.xe s
def PT (X:Cx)(e:Expr)(t:TT):Prop:=
 ∀ (ad:List (Addr×Obj)) (s:Shared) (σ:St) (H:Hp) (Q:Bool->Hp->Prop),Inv X ad σ H s->t σ H Q->wpAny (model X.prog X.w) X.A (isTrue e X.env (eval e X.env)) (TP X ad σ Q) X.xe s
def PW (X:Cx)(e:Expr)(t:TT):Prop:=
 ∀ (whole:Sem Value) (ad:List (Addr×Obj)) (s:Shared) (σ:St) (H:Hp) (Q:Bool->Hp->Prop),Inv X ad σ H s->t σ H Q->wpAny (model X.prog X.w) X.A (isTrue e X.env whole) (TP X ad σ Q) X.xe s
theorem PW.pt {X:Cx}{e:Expr}{t:TT}(h:PW X e t):PT X e t:=h _
def PA (X:Cx)(es:List Expr)(t:TA):Prop:=
 ∀ (pos:Pos) (ad:List (Addr×Obj)) (s:Shared) (σ:St) (H:Hp) (Q:List V->Hp->Prop),Inv X ad σ H s->t σ H Q->wpAny (model X.prog X.w) X.A (spliced (backTo pos (starEach es X.env))) (AP X ad σ Q) X.xe s
def PS (X:Cx)(st:Stmt)(t:TS):Prop:=
 ∀ (ad:List (Addr×Obj)) (s:Shared) (σ:St) (H:Hp) (D:Ends),Inv X ad σ H s->t D σ H->wpAny (model X.prog X.w) X.A (exec st X.env) (SP X ad D) X.xe s
def PSs (X:Cx)(st:List Stmt)(t:TS):Prop:=
 ∀ (ad:List (Addr×Obj)) (s:Shared) (σ:St) (H:Hp) (D:Ends),Inv X ad σ H s->t D σ H->wpAny (model X.prog X.w) X.A (execs st X.env) (SP X ad D) X.xe s
theorem lI {α:Type}{t:Sem α}{Q Q':α->Shared->Prop}{M:Model}{A:Around}{E:Value->Shared->Prop}{s:Shared}(h:wpAny M A t Q E s)(hQ:∀ a s,Q a s->Q' a s):wpAny M A t Q' E s:=cA h hQ fun _ _ x=>x
variable {b:Expr}{ta tb:TE}{pos:Pos}
section
def tVar (i:Nat):TE:=fun σ H Q=>∃ v,σ[i]?=some (some v)/\Q v H
def tC (v:V):TE:=fun _ H Q=>Q v H
theorem jM8 {i:Nat}{x:Str}{pos:Pos}(hN:X.N[i]?=some x)(hv:Vis X.env.scope x)(hd:(x==("__debug__" :Str))=false:=by decide)(hcd:(x==("__classdict__" :Str))=false:=by decide):PE X (.Name x pos) (tVar i):=by
 intro ad s σ H Q I h
 obtain⟨v,e,h⟩:=h
 obtain⟨m,hn,hl⟩:=I.loc
 obtain⟨u,r,l⟩:=hl i x v hN e hv
 have fin:EP X ad σ Q u s:=⟨v,H,I,r,h⟩
 rcases l with ⟨hk,hm⟩ | ⟨hk,c,hc,hcell⟩
 ·exact wpAny_Name (wpAny_loadName_local I.ok.kind hk hn hm fin) hd
 ·rcases hk with hk | hk
  ·exact wpAny_Name (wpAny_loadName_cell I.ok.kind hk hc hcell fin) hd
  ·exact wpAny_Name (wpAny_loadName_free I.ok.kind hk hc hcell fin hcd) hd
theorem jM {i j pos} :PE X (.Constant (.int i) j pos) (tC (.int i)):=fun _ _ _ H _ I h=>wpAny_Constant_int ⟨.int i,H,I.tok _,⟨_,rfl⟩,h⟩
theorem pe_bl {b j pos} :PE X (.Constant (.bool b) j pos) (tC (.bl b)):=fun _ _ _ H _ I h=>Constant_bool ⟨.bl b,H,I,rfl,h⟩
theorem jV6 {j pos} :PE X (.Constant .none j pos) (tC .non):=fun _ _ _ H _ I h=>Constant_none ⟨.non,H,I,rfl,h⟩
def Gl (X:Cx)(x:Str):Prop:=X.env.kindOf x=some .globalImplicit
theorem jI1 {E:Value->Shared->Prop}{ad:List (Addr×Obj)}{s:Shared}{σ:St}{H:Hp}{x:Str}{u:Value}{pos:Pos}{Q:Value->Shared->Prop}(I:Inv X ad σ H s)(hg:Gl X x)(hm:X.mg x=some u)(h:Q u s)
  (hd:(x==("__debug__" :Str))=false:=by decide):wpAny (model X.prog X.w) X.A (eval (.Name x pos) X.env) Q E s:=
 iy I.ok.kind hg (Calls.loadGlobal_global (by rw[I.ok.glob]; exact I.mod.glob.keeps I.bk) hm h) hd
theorem jD1 {E:Value->Shared->Prop}{ad:List (Addr×Obj)}{s:Shared}{σ:St}{H:Hp}{x:Str}{u:Value}{pos:Pos}{Q:Value->Shared->Prop}(I:Inv X ad σ H s)(hg:Gl X x)(hm:X.mg x=none)(hv:bootBuiltins x=some u)(h:Q u s)
  (hn:x≠ "__name__" :=by decide) (hd:(x==("__debug__" :Str))=false:=by decide):wpAny (model X.prog X.w) X.A (eval (.Name x pos) X.env) Q E s:=by
 obtain⟨mb,h1,h2⟩:=I.mod.blt
 exact iy I.ok.kind hg (Calls.loadGlobal_builtin (by rw[I.ok.glob]; exact I.mod.glob.keeps I.bk) hm (by rw[I.ok.blt]; exact h1.keeps I.bk) ((h2 x hn).trans hv) h) hd
theorem jSM {x:Str}{v:V}{u:Value}{pos:Pos}(hg:Gl X x)(hm:X.mg x=some u)(r:RelV v u)(hd:(x==("__debug__" :Str))=false:=by decide):PE X (.Name x pos) (tC v):=
 fun _ _ _ H _ I h=>jI1 I hg hm ⟨v,H,I,r,h⟩ hd
theorem jST {x:Str}{v:V}{u:Value}{pos:Pos}(hg:Gl X x)(hm:X.mg x=none)(hv:bootBuiltins x=some u)(r:RelV v u)(hn:x≠ "__name__" :=by decide)(hd:(x==("__debug__" :Str))=false:=by decide):PE X (.Name x pos) (tC v):=
 fun _ _ _ H _ I h=>jD1 I hg hm hv ⟨v,H,I,r,h⟩ hn hd
variable {a:Expr}
def PC (X:Cx)(op:CmpOp)(a b:Expr)(t:TE):Prop:=
 ∀ (ad:List (Addr×Obj)) (s:Shared) (σ:St) (H:Hp) (Q:VK),Inv X ad σ H s->t σ H Q->
  wpAny (model X.prog X.w) X.A (eval a X.env) (fun v s₁=>wpAny (model X.prog X.w) X.A (eval b X.env) (fun u s₂=>wpAny (model X.prog X.w) X.A (compareOp op v u) (EP X ad σ Q) X.xe s₂) X.xe s₁) X.xe s
def tB (t:TE):TT:=fun σ H Q=>t σ H fun x H1=>∃ c,x= .bl c/\Q c H1
theorem jR7 {op:CmpOp}{t:TE}(h:PC X op a b t)(h1:behindInMarks op b=false:=by first | exact nobehind _ (by decide) (by decide) | rfl):PT X (.Compare a [op] [b] pos) (tB t):=by
 intro ad s σ H Q I hw
 refine wpAny_isTrue_Compare1 (lI (h ad s σ H _ I hw) fun v s1 h1=>lI h1 fun u s2 h2=>lI h2 fun c s3 ⟨x,H1,I1,r1,q1⟩=>?_) h1
 obtain⟨d,rfl,q⟩:=q1
 cases r1
 exact di ⟨H1,I1,q⟩
theorem jUT {e:Expr}{t:TE}(h:PE X e t)(he:∀ whole,isTrue e X.env whole=(do let v <- whole; standAt e.pos; holding [v] (truthy v)):=by intro _; rfl):PT X e (tB t):=by
 intro ad s σ H Q I hw
 refine isTrue_plain (lI (h ad s σ H _ I hw) fun v s1 ⟨x,H1,I1,r1,q1⟩=>?_) (he _)
 obtain⟨d,rfl,q⟩:=q1
 cases r1
 exact di ⟨H1,I1,q⟩
variable {tA tB':TT}{rest:List Expr}
def tAnd (t u:TT):TT:=fun σ H Q=>t σ H fun c H1=>if c=true then u σ H1 Q else Q false H1
def tOr (t u:TT):TT:=fun σ H Q=>t σ H fun c H1=>if c=true then Q true H1 else u σ H1 Q
def tNot (t:TT):TT:=fun σ H Q=>t σ H fun c H1=>Q (!c) H1
theorem jS7 (ha:PT X a tA):PW X (.BoolOp .And [a] pos) tA:=by
 intro wh ad s σ H Q I h
 refine isTrue_and (lI (ha ad s σ H Q I h) fun c s1 e=>?_)
 cases c with
 | true=>exact isTrue_and_nil e
 | false=>exact e
theorem jUR (ha:PT X a tA):PW X (.BoolOp .Or [a] pos) tA:=by
 intro wh ad s σ H Q I h
 refine isTrue_or (lI (ha ad s σ H Q I h) fun c s1 e=>?_)
 cases c with
 | false=>exact isTrue_or_nil e
 | true=>exact e
theorem jUS (ha:PT X a tA)(hb:PW X (.BoolOp .And (b::rest) pos) tB'):PW X (.BoolOp .And (a::b::rest) pos) (tAnd tA tB'):=by
 intro wh ad s σ H Q I h
 refine isTrue_and (lI (ha ad s σ H _ I h) fun c s1 ⟨H1,I1,q1⟩=>?_)
 cases c with
 | true=>exact hb wh ad s1 σ H1 Q I1 q1
 | false=>exact⟨H1,I1,q1⟩
theorem pw_or (ha:PT X a tA)(hb:PW X (.BoolOp .Or (b::rest) pos) tB'):PW X (.BoolOp .Or (a::b::rest) pos) (tOr tA tB'):=by
 intro wh ad s σ H Q I h
 refine isTrue_or (lI (ha ad s σ H _ I h) fun c s1 ⟨H1,I1,q1⟩=>?_)
 cases c with
 | true=>exact⟨H1,I1,q1⟩
 | false=>exact hb wh ad s1 σ H1 Q I1 q1
theorem jUU (ha:PT X a tA):PT X (.UnaryOp .Not a pos) (tNot tA):=by
 intro ad s σ H Q I h
 exact isTrue_not (ha ad s σ H (fun c H1=>Q (!c) H1) I h)
def tAndV (ta tb:TE):TE:=fun σ H Q=>ta σ H fun x H1=>∃ c,x= .bl c/\if c=true then tb σ H1 Q else Q (.bl false) H1
def tOrV (ta tb:TE):TE:=fun σ H Q=>ta σ H fun x H1=>∃ c,x= .bl c/\if c=true then Q (.bl true) H1 else tb σ H1 Q
def tNotV (ta:TE):TE:=fun σ H Q=>ta σ H fun x H1=>∃ c,x= .bl c/\Q (.bl (!c)) H1
theorem jV4 {op}{t:TE}(h:PE X a t):PE X (.BoolOp op [a] pos) t:=fun ad s σ H Q I hw=>BoolOp_one (h ad s σ H Q I hw)
theorem jV9 (ha:PE X a ta)(hb:PE X (.BoolOp .And (b::rest) pos) tb):PE X (.BoolOp .And (a::b::rest) pos) (tAndV ta tb):=by
 intro ad s σ H Q I h
 refine BoolOp_and (lI (ha ad s σ H _ I h) fun v s1 ⟨x,H1,I1,r1,q1⟩=>?_)
 obtain⟨c,rfl,q1⟩:=q1
 cases r1
 refine di ?_
 cases c with
 | true=>exact hb ad s1 σ H1 Q I1 q1
 | false=>exact⟨.bl false,H1,I1,rfl,q1⟩
theorem pe_or (ha:PE X a ta)(hb:PE X (.BoolOp .Or (b::rest) pos) tb):PE X (.BoolOp .Or (a::b::rest) pos) (tOrV ta tb):=by
 intro ad s σ H Q I h
 refine BoolOp_or (lI (ha ad s σ H _ I h) fun v s1 ⟨x,H1,I1,r1,q1⟩=>?_)
 obtain⟨c,rfl,q1⟩:=q1
 cases r1
 refine di ?_
 cases c with
 | false=>exact hb ad s1 σ H1 Q I1 q1
 | true=>exact⟨.bl true,H1,I1,rfl,q1⟩
theorem jV5 (ha:PE X a ta):PE X (.UnaryOp .Not a pos) (tNotV ta):=by
 intro ad s σ H Q I h
 refine UnaryOp_ (lI (ha ad s σ H _ I h) fun v s1 ⟨x,H1,I1,r1,q1⟩=>?_)
 obtain⟨c,rfl,q1⟩:=q1
 cases r1
 exact not_of (di ⟨.bl (!c),H1,I1,rfl,q1⟩)
def tIf (t:TT)(ta tb:TE):TE:=fun σ H Q=>t σ H fun c H1=>if c=true then ta σ H1 Q else tb σ H1 Q
theorem jPI {c:Expr}(hc:PT X c tA)(ha:PE X a ta)(hb:PE X b tb):PE X (.IfExp c a b pos) (tIf tA ta tb):=by
 intro ad s σ H Q I h
 refine wpAny_IfExp (lI (hc ad s σ H _ I h) fun d s1 ⟨H1,I1,q1⟩=>?_)
 cases d with
 | true=>exact ha ad s1 σ H1 Q I1 q1
 | false=>exact hb ad s1 σ H1 Q I1 q1
end
def SqL (K:W.Frag)(H:Hp)(a:Addr)(xs:List V):Prop:=
 Rd H a (.lst xs)\/
  ∃ (o:Obj) (its:Array Value) (n:Nat),K.lookup a=some o/\o.cls= .type "list" /\o.dict=none/\o.data= .seq its n/\its.size<=sizeLine/\Vals xs its.toList
def SqT (K:W.Frag)(H:Hp)(a:Addr)(xs:List V):Prop:=
 Rd H a (.tup xs)\/
  ∃ (o:Obj) (its:Array Value) (n:Nat),K.lookup a=some o/\o.cls= .type "tuple" /\o.data= .seq its n/\its.size<=sizeLine/\Vals xs its.toList
noncomputable def absV:Value->Option V
 | .none=>some .non
 | .bool b=>some (.bl b)
 | .int i _=>some (.int i)
 | .str x _=>some (.str x)
 | .bytes b _=>some (.byt b)
 | .float b _=>some (.flt b)
 | .ref a=>some (.ref a)
 | .type n=>some (.ty n)
 | _=>none
theorem RelV.abs {x:V}{u:Value}(r:RelV x u):absV u=some x:=by
 cases x with
 | non=>cases r; rfl
 | bl _=>cases r; rfl
 | int _=>obtain⟨t,rfl⟩:=r; rfl
 | str _=>obtain⟨t,rfl⟩:=r; rfl
 | byt _=>obtain⟨t,rfl⟩:=r; rfl
 | flt _=>obtain⟨t,rfl⟩:=r; rfl
 | ref _=>cases r; rfl
 | ty _=>cases r; rfl
theorem RelV.inj {x y:V}{u:Value}(r:RelV x u)(q:RelV y u):x=y:=bo (r.abs.symm.trans q.abs)
theorem Vals.inj:∀ {xs ys:List V}{us:List Value},Vals xs us->Vals ys us->xs=ys
 | _,_,_, .nil, .nil=>rfl
 | _,_,_, .cons r t, .cons r' t'=>by rw[r.inj r',Vals.inj t t']
section
variable {σ:St}{xs ys:List V}
theorem SqL.of {K:W.Frag}(h:H a=some (.lst xs)):SqL K H a xs:= .inl (.inl h)
theorem SqT.of {K:W.Frag}(h:H a=some (.tup xs)):SqT K H a xs:= .inl (.inl h)
theorem Inv.list (I:Inv X ad σ H s)(h:SqL X.K H a xs):∃ its:List Value,Vals xs its/\PlainL s.heap a its.toArray/\xs.length<=sizeLine:=by
 rcases h with h | ⟨o,its,n,hk,hc,hd,hs,hz,r⟩
 ·obtain⟨z,its,n,r,e⟩:=h.ok I.hok
  exact⟨its,r,⟨_,n,e,rfl,rfl,rfl⟩,z⟩
 ·refine⟨its.toList,r,⟨o,n,I.kIn a o hk,hc,hd,by simpa using hs⟩,?_⟩
  have e:=r.length
  simp only [aV] at e
  lia
theorem Inv.tuple (I:Inv X ad σ H s)(h:SqT X.K H a xs):∃ its:List Value,Vals xs its/\IsTup s.heap a its.toArray/\xs.length<=sizeLine:=by
 rcases h with h | ⟨o,its,n,hk,hc,hs,hz,r⟩
 ·obtain⟨z,its,r,p⟩:=h.ok I.hok
  exact⟨its,r,p.isTup,z⟩
 ·refine⟨its.toList,r,⟨o,I.kIn a o hk,hc,n,by simpa using hs⟩,?_⟩
  have e:=r.length
  simp only [aV] at e
  lia
theorem Inv.list_inj (I:Inv X ad σ H s)(h:SqL X.K H a xs)(h':SqL X.K H a ys):xs=ys:=by
 obtain⟨its,r,⟨o,n,e,_,_,d⟩,_⟩:=I.list h
 obtain⟨its',r',⟨o',n',e',_,_,d'⟩,_⟩:=I.list h'
 rw[e] at e'; cases e'
 rw[d] at d'
 injection d' with d1 _
 have:its=its':=by simpa using bX Array.toList d1
 subst this
 exact r.inj r'
theorem Inv.tuple_inj (I:Inv X ad σ H s)(h:SqT X.K H a xs)(h':SqT X.K H a ys):xs=ys:=by
 obtain⟨its,r,⟨o,e,_,n,d⟩,_⟩:=I.tuple h
 obtain⟨its',r',⟨o',e',_,n',d'⟩,_⟩:=I.tuple h'
 rw[e] at e'; cases e'
 rw[d] at d'
 injection d' with d1 _
 have:its=its':=by simpa using bX Array.toList d1
 subst this
 exact r.inj r'
end
abbrev Cx.wish (X:Cx)(E:Value->Shared->Prop):Cx:= { X with xe:=E}
abbrev Cx.nox (X:Cx):Cx:=X.wish fun _ _=>False
theorem Cx.Ok.wish {X:Cx}(ok:X.Ok)(E:Value->Shared->Prop):(X.wish E).Ok:=
 ⟨ok.mod,ok.kind,ok.glob,ok.blt,ok.above,ok.inj,ok.has,ok.cab,ok.hd,ok.frames,ok.stk,ok.exf,ok.bs,ok.bsz,ok.noex,ok.exfs,ok.funs,ok.frf⟩
theorem Cx.Ok.unwish {X:Cx}{E:Value->Shared->Prop}(ok:(X.wish E).Ok):X.Ok:=
 ⟨ok.mod,ok.kind,ok.glob,ok.blt,ok.above,ok.inj,ok.has,ok.cab,ok.hd,ok.frames,ok.stk,ok.exf,ok.bs,ok.bsz,ok.noex,ok.exfs,ok.funs,ok.frf⟩
variable {E:Value->Shared->Prop}
section
variable {σ:St}
theorem Inv.wish (I:Inv X ad σ H s)(E:Value->Shared->Prop):Inv (X.wish E) ad σ H s:=⟨I.ok.wish E,I.os,I.bare,I.base,I.loc,I.cell,I.free,I.freeC,I.pin,I.hok,I.len⟩
theorem Inv.unwish (I:Inv (X.wish E) ad σ H s):Inv X ad σ H s:=⟨I.ok.unwish,I.os,I.bare,I.base,I.loc,I.cell,I.free,I.freeC,I.pin,I.hok,I.len⟩
theorem SP.unwish {D:Ends}{f:Flow}{s':Shared}(h:SP (X.wish E) ad D f s'):SP X ad D f s':=by
 cases f with
 | next=>obtain⟨σ',H',I,q⟩:=h; exact⟨σ',H',I.unwish,q⟩
 | brk=>obtain⟨σ',H',I,q⟩:=h; exact⟨σ',H',I.unwish,q⟩
 | cont=>obtain⟨σ',H',I,q⟩:=h; exact⟨σ',H',I.unwish,q⟩
 | ret u=>obtain⟨v,σ',H',I,r,q⟩:=h; exact⟨v,σ',H',I.unwish,r,q⟩
theorem PSs.nox {st:List Stmt}{t:TS}(h:PSs X.nox st t):PSs X st t:=fun ad s σ H D I hw=>
 cA (h ad s σ H D (I.wish _) hw) (fun _ _ q=>q.unwish) fun _ _ z=>False.elim z
end
variable {e:Expr}{te:TE}
section
variable {st:Stmt}{rest:List Stmt}{t u:TS}
def tNext:TS:=fun D σ H=>D.nx σ H
def tSeq (t u:TS):TS:=fun D σ H=>t { D with nx:=u D} σ H
theorem jF8:PSs X [] tNext:=fun _ _ σ H _ I h=>hV ⟨σ,H,I,h⟩
theorem kT (h1:PS X st t)(h2:PSs X rest u):PSs X (st::rest) (tSeq t u):=by
 intro ad s σ H D I h
 refine wpAny_execs_cons (lI (h1 ad s σ H { D with nx:=u D} I h) fun f s1 q=>?_)
 cases f with
 | next=>
  obtain⟨σ',H',I',q⟩:=q
  exact h2 ad s1 σ' H' D I' q
 | ret v=>exact q
 | brk=>exact q
 | cont=>exact q
theorem jAU (h1:PS X st t):PSs X [st] t:=by
 intro ad s σ H D I h
 refine wpAny_execs_cons (lI (h1 ad s σ H D I h) fun f s1 q=>?_)
 cases f with
 | next=>exact hV q
 | ret v=>exact q
 | brk=>exact q
 | cont=>exact q
theorem Inv.quiet {ad:List (Addr×Obj)}{σ:St}{H:Hp}{s:Shared}(I:Inv X ad σ H s):interactive X.env=false:=by simp [interactive,I.ok.kind]
def tDrop (te:TE):TS:=fun D σ H=>te σ H fun _ H1=>D.nx σ H1
theorem jSB (he:PE X e te)(hs:swapsWith e none pos.line X.env=pure false:=by rfl):PS X (.Expr e pos) (tDrop te):=by
 intro ad s σ H D I h
 exact wpAny_Expr_any (lI (he ad s σ H _ I h) fun v s1 ⟨x,H1,I1,r1,q1⟩=>⟨σ,H1,I1,q1⟩) I.quiet hs
def tRet (te:TE):TS:=fun D σ H=>te σ H D.rt
theorem jCX (he:PE X e te):PS X (.Return (some e) pos) (tRet te):=by
 intro ad s σ H D I h
 exact wpAny_Return_some (lI (he ad s σ H _ I h) fun v s1 ⟨x,H1,I1,r1,q1⟩=>⟨x,σ,H1,I1,r1,q1⟩)
def tIfS (c:TT)(t u:TS):TS:=fun D σ H=>c σ H fun b H1=>if b=true then t D σ H1 else u D σ H1
theorem ps_if {c:Expr}{a b:List Stmt}{tc:TT}(hc:PT X c tc)(ha:PSs X a t)(hb:PSs X b u):PS X (.If c a b pos) (tIfS tc t u):=by
 intro ad s σ H D I h
 refine wpAny_If (lI (hc ad s σ H _ I h) fun d s1 ⟨H1,I1,q1⟩=>?_)
 cases d with
 | true=>exact ha ad s1 σ H1 D I1 q1
 | false=>exact hb ad s1 σ H1 D I1 q1
end
abbrev TG:=V->St->Hp->(St->Hp->Prop)->Prop
abbrev TGs:=List V->St->Hp->(St->Hp->Prop)->Prop
def PG (X:Cx)(target:Expr)(t:TG):Prop:=
 ∀ (ad:List (Addr×Obj)) (s:Shared) (σ:St) (H:Hp) (v:V) (u:Value) (Q:St->Hp->Prop),Inv X ad σ H s->RelV v u->t v σ H Q->
  wpAny (model X.prog X.w) X.A (assign target X.env u) (fun _ s'=>∃ σ' H',Inv X ad σ' H' s'/\Q σ' H') X.xe s
def PGs (X:Cx)(ts:List Expr)(t:TGs):Prop:=
 ∀ (ad:List (Addr×Obj)) (s:Shared) (σ:St) (H:Hp) (vs:List V) (us:List Value) (Q:St->Hp->Prop),Inv X ad σ H s->Vals vs us->t vs σ H Q->
  wpAny (model X.prog X.w) X.A (assignInOrder ((assignEach ts X.env).map (·.2)) us) (fun _ s'=>∃ σ' H',Inv X ad σ' H' s'/\Q σ' H') X.xe s
abbrev TSet:=V->V->V->Hp->(Hp->Prop)->Prop
def PSet (X:Cx)(t:TSet):Prop:=
 ∀ (ad:List (Addr×Obj)) (s:Shared) (σ:St) (H:Hp) (o i v:V) (ov iv u:Value) (Q:Hp->Prop),Inv X ad σ H s->RelV o ov->RelV i iv->RelV v u->t o i v H Q->
  wpAny (model X.prog X.w) X.A (setItem ov iv u) (fun _ s'=>∃ H',Inv X ad σ H' s'/\Q H') X.xe s
abbrev TIp:=V->V->Hp->VK->Prop
def PIp (X:Cx)(op:Operator)(t:TIp):Prop:=
 ∀ (ad:List (Addr×Obj)) (s:Shared) (σ:St) (H:Hp) (x y:V) (v u:Value) (Q:VK),Inv X ad σ H s->RelV x v->RelV y u->t x y H Q->
  wpAny (model X.prog X.w) X.A (inplaceOp op v u) (EP X ad σ Q) X.xe s
def kU (i:Nat):TG:=fun v σ H Q=>Q (σ.set i (some v)) H
theorem jF9 {i:Nat}{x:Str}(hN:X.N.Nodup)(hi:X.N[i]?=some x)(hx:Loc X.env.scope x)(hf:X.fn x=true\/X.env.scope.names.lookup x=some .local:=by first | exact .inl rfl | exact .inr rfl | assumption):PG X (.Name x pos) (kU i):=by
 intro ad s σ H v u Q I r h
 exact wpAny_assign_Name (jBT I hN hi hx r (fun s' I'=>⟨_,H,I',h⟩) hf)
def gNil:TGs:=fun vs σ H Q=>vs=[]/\Q σ H
def gCons (t:TG)(u:TGs):TGs:=fun vs σ H Q=>∃ v r,vs=v::r/\t v σ H fun σ' H'=>u r σ' H' Q
theorem jSL:PGs X [] gNil:=by
 intro ad s σ H vs us Q I r h
 obtain⟨e,h⟩:=h
 subst e
 cases r
 exact assignInOrder_nil ⟨σ,H,I,h⟩
theorem jPG {e:Expr}{es:List Expr}{t:TG}{u:TGs}(h1:PG X e t)(h2:PGs X es u)
  (hs:(assignEach (e::es) X.env).map (·.2)=assign e X.env::(assignEach es X.env).map (·.2):=by rfl):PGs X (e::es) (gCons t u):=by
 intro ad s σ H vs us Q I r h
 obtain⟨v,vr,e1,h⟩:=h
 subst e1
 cases r with
 | cons r rr=>
  rw[hs]
  refine assignInOrder_cons (lI (h1 ad s σ H _ _ _ I r h) fun _ s1 ⟨σ1,H1,I1,q1⟩=>?_)
  exact h2 ad s1 σ1 H1 _ _ Q I1 rr q1
def gTup (K:W.Frag)(n:Nat)(t:TGs):TG:=fun v σ H Q=>∃ a xs,v= .ref a/\SqT K H a xs/\xs.length=n/\t xs σ H Q
theorem jV1 {es:List Expr}{k:Nat}{t:TGs}{n:Nat}(hc:X.calm=true)(h:PGs X es t)
  (hn:(assignEach es X.env).length=n:=by rfl) (hst:(assignEach es X.env).findIdx? (·.1)=none:=by rfl):PG X (.Tuple es k pos) (gTup X.K n t):=by
 intro ad s σ H v u Q I r hw
 obtain⟨a,xs,e1,hq,hl,hw⟩:=hw
 subst e1
 cases r
 obtain⟨its,rv,ht,hz⟩:=I.tuple hq
 refine assign_Tuple_tuple (I.ok.hd hc) ht (by simp [hn,<- hl,rv.length]) hst fun h' hx=>?_
 have I1:Inv X ad σ H { s with heap:=h'} :=I.kept (t':=s.toks) fun b o e=>hx b o (bb (aG e)) e
 exact h ad _ σ H xs _ Q I1 (by simpa using rv) hw
def gSub (to ti:TE)(t:TSet):TG:=fun v σ H Q=>to σ H fun o H1=>ti σ H1 fun i H2=>t o i v H2 fun H3=>Q σ H3
theorem jV2 {o i:Expr}{to ti:TE}{t:TSet}(ho:PE X o to)(hi:PE X i ti)(hs:PSet X t)
  (ha:∀ v,assign (.Subscript o i pos) X.env v=(do
   let ov <- holding [v] (eval o X.env)
   let iv <- holding [v,ov] (eval i X.env)
   standAt pos
   holding [v,ov,iv] (setItem ov iv v)
   release [v,ov,iv] []):=by intro _; rfl):PG X (.Subscript o i pos) (gSub to ti t):=by
 intro ad s σ H v u Q I r h
 rw[ha]
 refine aa (ck (lI (ho ad s σ H _ I h) fun ov s1 ⟨x,H1,I1,r1,q1⟩=>?_))
 refine aa (ck (lI (hi ad s1 σ H1 _ I1 q1) fun iv s2 ⟨y,H2,I2,r2,q2⟩=>?_))
 refine aa (fj (aa (ck (lI (hs ad s2 σ H2 x y v ov iv u _ I2 r1 r2 r q2) fun _ s3 ⟨H3,I3,q3⟩=>?_))))
 exact wpAny_release ⟨σ,H3,I3,q3⟩
def tAsg (te:TE)(g:TG):TS:=fun D σ H=>te σ H fun x H1=>g x σ H1 D.nx
theorem jUX {tg e:Expr}{te:TE}{g:TG}(he:PE X e te)(hg:PG X tg g)(hs:swapsWithSole [tg] e pos.line X.env=pure false:=by rfl)(hw:swappedStores [tg] e X.env=pure none:=by rfl)
  (h1:(assignEach [tg] X.env).map (·.2)=[assign tg X.env]:=by rfl):PS X (.Assign [tg] e pos) (tAsg te g):=by
 intro ad s σ H D I h
 refine wpAny_Assign_stores (lI (he ad s σ H _ I h) fun v s1 ⟨x,H1,I1,r1,q1⟩=>?_) hs hw
 rw[h1]
 exact lI (hg ad s1 σ H1 x v _ I1 r1 q1) fun _ s2 q=>q
theorem qD {i:Nat}{x:Str}{e:Expr}{te:TE}{pos':Pos}(hN:X.N.Nodup)(hi:X.N[i]?=some x)(hx:Loc X.env.scope x)(he:PE X e te)(hs:swapsWith e (some (.Name x pos')) pos.line X.env=pure false:=by rfl)(hf:X.fn x=true\/X.env.scope.names.lookup x=some .local:=by first | exact .inl rfl | exact .inr rfl | assumption):
  PS X (.Assign [.Name x pos'] e pos) (tAsg te (kU i)):=by
 intro ad s σ H D I h
 refine wpAny_Assign_Name (lI (he ad s σ H _ I h) fun v s1 ⟨y,H1,I1,r1,q1⟩=>?_) hs
 exact jBT I1 hN hi hx r1 (fun s2 I2=>⟨_,H1,I2,q1⟩) hf
def tAug (i:Nat)(te:TE)(ti:TIp):TS:=fun D σ H=>∃ x,σ[i]?=some (some x)/\te σ H fun y H1=>ti x y H1 fun z H2=>D.nx (σ.set i (some z)) H2
theorem jUW {i:Nat}{x:Str}{e:Expr}{te:TE}{op:Operator}{ti:TIp}{pos':Pos}(hN:X.N.Nodup)(hi:X.N[i]?=some x)(hx:Loc X.env.scope x)(he:PE X e te)(ho:PIp X op ti)(hf:X.fn x=true\/X.env.scope.names.lookup x=some .local:=by first | exact .inl rfl | exact .inr rfl | assumption):
  PS X (.AugAssign (.Name x pos') op e pos) (tAug i te ti):=by
 intro ad s σ H D I h
 obtain⟨v,e1,h⟩:=h
 obtain⟨m,hn,hl⟩:=I.loc
 have vis:Vis X.env.scope x:=by rcases hx with k | k; exact .inl k; exact .inr (.inl k)
 obtain⟨u,r,l⟩:=hl i x v hi e1 vis
 refine wpAny_AugAssign_Name ?_
 have go:wpAny (model X.prog X.w) X.A (eval e X.env) (fun w s₂=>wpAny (model X.prog X.w) X.A (inplaceOp op u w) (fun r s₃=>wpAny (model X.prog X.w) X.A (storeName X.env x r) (fun _=>SP X ad D .next) X.xe s₃) X.xe s₂) X.xe s:=by
  refine lI (he ad s σ H _ I h) fun w s1 ⟨y,H1,I1,r1,q1⟩=>?_
  refine lI (ho ad s1 σ H1 v y u w _ I1 r r1 q1) fun z s2 ⟨zv,H2,I2,r2,q2⟩=>?_
  exact jBT I2 hN hi hx r2 (fun s3 I3=>⟨_,H2,I3,q2⟩) hf
 rcases l with ⟨hk,hm⟩ | ⟨hk,c,hc,hcell⟩
 ·exact wpAny_loadName_local I.ok.kind hk hn hm go
 ·rcases hk with hk | hk
  ·exact wpAny_loadName_cell I.ok.kind hk hc hcell go
  ·rcases hx with k | k
   ·have:X.env.scope.names.lookup x=some .free:=hk
    rw[k] at this; cases this
   ·have:X.env.scope.names.lookup x=some .free:=hk
    rw[k] at this; cases this
def tAugS (to ti te:TE)(tget:V->V->Hp->VK->Prop)(tip:TIp)(tset:TSet):TS:=fun D σ H=>to σ H fun o H1=>ti σ H1 fun i H2=>tget o i H2 fun x H3=>te σ H3 fun y H4=>tip x y H4 fun z H5=>tset o i z H5 fun H6=>D.nx σ H6
def PGet (X:Cx)(t:V->V->Hp->VK->Prop):Prop:=
 ∀ (ad:List (Addr×Obj)) (s:Shared) (σ:St) (H:Hp) (o i:V) (ov iv:Value) (Q:VK),Inv X ad σ H s->RelV o ov->RelV i iv->t o i H Q->
  wpAny (model X.prog X.w) X.A (getItem ov iv) (EP X ad σ Q) X.xe s
theorem jSD {o i e:Expr}{to ti te:TE}{tget:V->V->Hp->VK->Prop}{tip:TIp}{tset:TSet}{op:Operator}{tpos:Pos}(ho:PE X o to)(hi:PE X i ti)(hg:PGet X tget)(he:PE X e te)(hp:PIp X op tip)(hs:PSet X tset)
  (ha:∀ ov iv new,augStore i ov iv new=(do holding [new,ov,iv] (setItem ov iv new); release [new,ov,iv] []; pure .next):=by intros; rfl):PS X (.AugAssign (.Subscript o i tpos) op e pos) (tAugS to ti te tget tip tset):=by
 intro ad s σ H D I h
 refine wpAny_AugAssign_SubscriptAny (lI (ho ad s σ H _ I h) fun ov s1 ⟨x1,H1,I1,r1,q1⟩=>?_) ha
 refine lI (hi ad s1 σ H1 _ I1 q1) fun iv s2 ⟨x2,H2,I2,r2,q2⟩=>?_
 refine lI (hg ad s2 σ H2 x1 x2 ov iv _ I2 r1 r2 q2) fun old s3 ⟨x3,H3,I3,r3,q3⟩=>?_
 refine lI (he ad s3 σ H3 _ I3 q3) fun v s4 ⟨x4,H4,I4,r4,q4⟩=>?_
 refine lI (hp ad s4 σ H4 x3 x4 old v _ I4 r3 r4 q4) fun new s5 ⟨x5,H5,I5,r5,q5⟩=>?_
 exact lI (hs ad s5 σ H5 x1 x2 x5 ov iv new _ I5 r1 r2 r5 q5) fun _ s6 ⟨H6,I6,q6⟩=>⟨σ,H6,I6,q6⟩
def ipI (f:Int->Int->Int):TIp:=fun x y H Q=>∃ i j,x= .int i/\y= .int j/\Q (.int (f i j)) H
theorem jJN:PIp X .Add (ipI fun i j=>i+j):=by
 intro ad s σ H x y v u Q I r1 r2 h
 obtain⟨i,j,e1,e2,q⟩:=h
 subst e1; subst e2
 obtain⟨t,rfl⟩:=r1
 obtain⟨t',rfl⟩:=r2
 exact iadd_int ⟨.int _,H,I.tok _,⟨_,rfl⟩,q⟩
def jR1 (c:TT)(tb:TS):TS:=fun D σ H=>∃ W:Nat->St->Hp->Prop,(∃ m,W m σ H)/\∀ m σ H,W m σ H->
 c σ H fun b H1=>if b=true then ∃ N:St->Hp->Prop,(∀ σ' H',N σ' H'->∃ m',m'<m/\W m' σ' H')/\tb { D with nx:=N,ct:=N,bk:=D.nx} σ H1 else D.nx σ H1
theorem jPA {c:Expr}{body:List Stmt}{tc:TT}{tb:TS}(hp:PassesOwn (model X.prog X.w) X.A X.env X.xe)(hc:PT X c tc)(hb:PSs X body tb):PS X (.While c body [] pos) (jR1 tc tb):=by
 intro ad s σ H D I h
 obtain⟨W,⟨m0,w0⟩,turn⟩:=h
 refine wpAny_While (codeAny_whileLoop (fun n s'=>∃ σ' H',Inv X ad σ' H' s'/\W n σ' H') ?_ m0 ⟨σ,H,I,w0⟩)
 rintro n s1 ⟨σ1,H1,I1,w1⟩
 refine ev hp (lI (hc ad s1 σ1 H1 _ I1 (turn n σ1 H1 w1)) fun b s2 ⟨H2,I2,q2⟩=>?_)
 cases b with
 | true=>
  obtain⟨N,hN,q2⟩:=q2
  rw[ah rfl]
  refine ev hp (lI (hb ad s2 σ1 H2 _ I2 q2) fun f s3 q3=>?_)
  cases f with
  | next=>
   obtain⟨σ3,H3,I3,n3⟩:=q3
   obtain⟨m',hm,w3⟩:=hN σ3 H3 n3
   exact⟨m',hm,σ3,H3,I3,w3⟩
  | cont=>
   obtain⟨σ3,H3,I3,n3⟩:=q3
   obtain⟨m',hm,w3⟩:=hN σ3 H3 n3
   exact⟨m',hm,σ3,H3,I3,w3⟩
  | brk=>exact q3
  | ret v=>exact q3
 | false=>
  rw[ae aq]
  exact hV ⟨σ1,H2,I2,q2⟩
structure It where
 go:Nat->Hp->Prop
 yld:Nat->Hp->V->Hp->Prop
 stop:Nat->Hp->Prop
def FpOk (X:Cx)(ad:List (Addr×Obj))(H:Hp)(b:Addr):Prop:=
 H b=none/\b≠X.env.locals/\b∉X.fs/\(b∈X.ex\/X.s₀.heap.objs.size<=b)/\(∀ x c,X.env.cells.lookup x=some c->c≠b)/\∀ p∈X.pn++ad,p.1≠b
theorem Inv.fpOk {X:Cx}{ad:List (Addr×Obj)}{σ:St}{H H':Hp}{s:Shared}{b:Addr}(I:Inv X ad σ H s)(hb:s.heap.objs.size<=b)(hn:H' b=none):FpOk X ad H' b:=by
 refine⟨hn,eY (bh I.lt hb),I.nofs hb, .inr (bM I.sz hb),fun x c e z=>?_,fun p hp z=>?_⟩
 ·obtain⟨v,q⟩:=I.cell x c e
  exact absurd (bh q.lt (by rw[z]; exact hb)) (df _)
 ·exact absurd (bh (aG (I.pin p hp).1) (by rw[z]; exact hb)) (df _)
structure Turn (P:Program)(w:World)(K:W.Frag)(tg:Expr)(J:It)(fp:List Addr)(it:Addr)(tn:Nat->Heap->Prop):Prop where
 mem:it∈fp
 obj:∀ i h,tn i h->∀ b∈fp,∃ o,h.get? b=some o/\∀ v,o.data≠ .cell v
 keep:∀ i h h',tn i h->(∀ b∈fp,∀ o,h.get? b=some o->h'.get? b=some o)->tn i h'
 item:∀ (X:Cx),X.prog=P->X.w=w->X.K=K->X.calm=true->∀ (i:Nat) (ad:List (Addr×Obj)) (s:Shared) (σ:St) (H:Hp) (E:Value->Shared->Prop),Inv X ad σ H s->(∀ b∈fp,FpOk X ad H b)->tn i s.heap->J.go i H->
  wpAny (model P w) X.A (pyNext (.ref it)) (fun r s1=>∃ u,r=some u/\
   wpAny (model P w) X.A (letOwnedTupleGo tg (.ref it) u) (fun _ s2=>∃ x H',Inv X ad σ H' s2/\RelV x u/\J.yld i H x H'/\tn (i+1) s2.heap/\∀ b∈fp,H' b=none) E s1) E s
 done:∀ (X:Cx),X.prog=P->X.w=w->X.K=K->X.calm=true->∀ (i:Nat) (ad:List (Addr×Obj)) (s:Shared) (σ:St) (H:Hp) (E:Value->Shared->Prop),Inv X ad σ H s->(∀ b∈fp,FpOk X ad H b)->tn i s.heap->J.stop i H->
  wpAny (model P w) X.A (pyNext (.ref it)) (fun r s1=>r=none/\Inv X ad σ H s1) E s
 self:∀ (A:Around) (i:Nat) (s:Shared) (Q:Value->Shared->Prop) (E:Value->Shared->Prop),tn i s.heap->Q (.ref it) s->wpAny (model P w) A (pyIter (.ref it)) Q E s
abbrev TI:=St->Hp->(It->Hp->Prop)->Prop
def PIE (X:Cx)(ad:List (Addr×Obj))(σ:St)(tg:Expr)(R:It->Hp->Prop)(itv:Value)(s2:Shared):Prop:=
 ∃ (it:Addr) (fp:List Addr) (tn:Nat->Heap->Prop) (J:It) (H':Hp),itv= .ref it/\Inv X ad σ H' s2/\Turn X.prog X.w X.K tg J fp it tn/\tn 0 s2.heap/\(∀ b∈fp,FpOk X ad H' b)/\R J H'
def PI (X:Cx)(tg iter:Expr)(wi:TI):Prop:=
 ∀ (ad:List (Addr×Obj)) (s:Shared) (σ:St) (H:Hp) (R:It->Hp->Prop),Inv X ad σ H s->wi σ H R->
  wpAny (model X.prog X.w) X.A (eval iter X.env) (fun v s1=>wpAny (model X.prog X.w) X.A (pyIter v) (PIE X ad σ tg R) X.xe s1) X.xe s
theorem go_of {M:Model}{A:Around}{E:Value->Shared->Prop}{s:Shared}{tg:Expr}{it:Addr}{u:Value}{o:Obj}{n:String}{vs:Array Value}{Q:Unit->Shared->Prop}(ho:s.heap.get? it=some o)(hc:o.cls= .type n)(hd:o.data= .fields vs)
  (hn: ["enumerate","zip","dict_itemiterator","dict_reverseitemiterator","odict_iterator","itertools.zip_longest","itertools.pairwise"].contains n=false) (hQ:Q () s):wpAny M A (letOwnedTupleGo tg (.ref it) u) Q E s:=by
 unfold letOwnedTupleGo
 cases tg <;> first
  | exact ao hQ
  | (cases u <;> first
    | exact ao hQ
    | (refine aa (iA ho ?_)
       rw [hc, hd]
       show wpAny M A (if (["enumerate", "zip", "dict_itemiterator", "dict_reverseitemiterator", "odict_iterator", "itertools.zip_longest", "itertools.pairwise"].contains n && vs[0]? == some (rawInt _)) = true then _ else _) Q E s
       rw [ae (by intro h; rw [hn, eS] at h; cases h)]
       exact ao hQ))
def Itl (K:W.Frag)(a:Addr):It:=
 ⟨fun i H=>∃ xs x,SqL K H a xs/\xs[i]?=some x,fun i H x H'=>H'=H/\∀ xs,SqL K H a xs->xs[i]?=some x,fun i H=>∃ xs,SqL K H a xs/\xs.length<=i⟩
def Itt (K:W.Frag)(a:Addr):It:=
 ⟨fun i H=>∃ xs x,SqT K H a xs/\xs[i]?=some x,fun i H x H'=>H'=H/\∀ xs,SqT K H a xs->xs[i]?=some x,fun i H=>∃ xs,SqT K H a xs/\xs.length<=i⟩
def Itr (lo:Int)(n:Nat):It:=⟨fun i _=>i<n,fun i H x H'=>H'=H/\x= .int (lo+i),fun i _=>n<=i⟩
theorem jL4 {P:Program}{w:World}{K:W.Frag}{tg:Expr}(a it:Addr):Turn P w K tg (Itl K a) [it] it (fun i h=>h.IsListIter it a i) where
 mem:=by simp
 obj:=fun i h st b hb=>by
  have e:b=it:=by simpa using hb
  subst e
  obtain⟨o,e,c,d⟩:=st
  exact⟨o,e,fun v z=>by rw[d] at z; cases z⟩
 keep:=fun i h h' st k=>st.at fun o e=>k it (by simp) o e
 item:=by
  intro X hP hw hK hc i ad s σ H E I hf st hg
  subst hP hw hK
  obtain⟨xs,x,hq,hx⟩:=hg
  obtain⟨its,rv,p,hz⟩:=I.list hq
  obtain⟨u,hu,ru⟩:=rv.get hx
  obtain⟨f0,f1,f2,f3,f4,f5⟩:=hf it (by simp)
  refine wpAny_pyNext_list_item st p.isList (x:=u) (by simpa using hu) fun h' st' sb=>?_
  have I1:Inv X ad σ H { s with heap:=h'} :=I.turned (t':=s.toks) (fun b o hb e=>(sb.2 b hb).trans e) f0 f1 f3 f4 f5
  obtain⟨o,e,c,d⟩:=id st'
  exact⟨u,rfl,go_of (s:= { s with heap:=h'}) e c d (by decide) ⟨x,H,I1,ru,⟨rfl,fun ys hy=>by rw[I.list_inj hy hq]; exact hx⟩,st',fun b hb=>(hf b hb).1⟩⟩
 done:=by
  intro X hP hw hK hc i ad s σ H E I hf st hg
  subst hP hw hK
  obtain⟨xs,hq,hx⟩:=hg
  obtain⟨its,rv,p,hz⟩:=I.list hq
  obtain⟨f0,f1,f2,f3,f4,f5⟩:=hf it (by simp)
  have hl:=rv.length
  exact wpAny_pyNext_list_end (I.ok.hd hc) st p.isList (by simp; lia) fun h' eb=>⟨rfl,I.turned (t':=s.toks) (fun b o hb e=>eb b o hb e) f0 f1 f3 f4 f5⟩
 self:=fun _ _ _ _ _ st h=>wpAny_pyIter_listiter st h
theorem jK3 {P:Program}{w:World}{K:W.Frag}{tg:Expr}(a it:Addr):Turn P w K tg (Itt K a) [it] it (fun i h=>h.IsTupleIter it a i) where
 mem:=by simp
 obj:=fun i h st b hb=>by
  have e:b=it:=by simpa using hb
  subst e
  obtain⟨o,e,c,d⟩:=st
  exact⟨o,e,fun v z=>by rw[d] at z; cases z⟩
 keep:=fun i h h' st k=>st.at fun o e=>k it (by simp) o e
 item:=by
  intro X hP hw hK hc i ad s σ H E I hf st hg
  subst hP hw hK
  obtain⟨xs,x,hq,hx⟩:=hg
  obtain⟨its,rv,p,hz⟩:=I.tuple hq
  obtain⟨u,hu,ru⟩:=rv.get hx
  obtain⟨f0,f1,f2,f3,f4,f5⟩:=hf it (by simp)
  refine wpAny_pyNext_tuple_item st (show s.heap.IsTuple a its.toArray from p) (x:=u) (by simpa using hu) fun h' st' sb=>?_
  have I1:Inv X ad σ H { s with heap:=h'} :=I.turned (t':=s.toks) (fun b o hb e=>(sb.2 b hb).trans e) f0 f1 f3 f4 f5
  obtain⟨o,e,c,d⟩:=id st'
  exact⟨u,rfl,go_of (s:= { s with heap:=h'}) e c d (by decide) ⟨x,H,I1,ru,⟨rfl,fun ys hy=>by rw[I.tuple_inj hy hq]; exact hx⟩,st',fun b hb=>(hf b hb).1⟩⟩
 done:=by
  intro X hP hw hK hc i ad s σ H E I hf st hg
  subst hP hw hK
  obtain⟨xs,hq,hx⟩:=hg
  obtain⟨its,rv,p,hz⟩:=I.tuple hq
  obtain⟨f0,f1,f2,f3,f4,f5⟩:=hf it (by simp)
  have hl:=rv.length
  exact wpAny_pyNext_tuple_end (I.ok.hd hc) st (show s.heap.IsTuple a its.toArray from p) (by simp; lia) fun h' eb=>⟨rfl,I.turned (t':=s.toks) (fun b o hb e=>eb b o hb e) f0 f1 f3 f4 f5⟩
 self:=fun _ _ _ _ _ st h=>wpAny_pyIter_tupleiter st h
theorem jK4 {P:Program}{w:World}{K:W.Frag}{tg:Expr}(it:Addr)(lo:Int)(n:Nat):Turn P w K tg (Itr lo n) [it] it (fun i h=>IsRangeIter h it (lo+(i:Nat)*1) ((n:Int) - (i:Nat)) 1) where
 mem:=by simp
 obj:=fun i h st b hb=>by
  have e:b=it:=by simpa using hb
  subst e
  exact⟨_,st,fun v z=>by
   have z':Data.fields _=Data.cell v:=z
   cases z'⟩
 keep:=fun i h h' st k=>k it (by simp) _ st
 item:=by
  intro X hP hw hK hc i ad s σ H E I hf st hg
  subst hP hw hK
  obtain⟨f0,f1,f2,f3,f4,f5⟩:=hf it (by simp)
  have W:=Walks.range (prog:=X.prog) (w:=X.w) (I.ok.hd hc) it lo 1 n
  refine W.item i s _ _ hg st fun v h' tk hv st' kk=>?_
  obtain⟨t,rfl⟩:=hv
  have I1:Inv X ad σ H { s with heap:=h',toks:=tk} :=I.turned (fun b o hb e=>kk b o (by simpa using hb) e) f0 f1 f3 f4 f5
  refine⟨_,rfl,go_of (s:= { s with heap:=h',toks:=tk}) (n:= "range_iterator") st' rfl rfl (by decide) ⟨.int (lo+i),H,I1,⟨t,?_⟩,⟨rfl,rfl⟩,st',fun b hb=>(hf b hb).1⟩⟩
  rw[Int.mul_one]
 done:=by
  intro X hP hw hK hc i ad s σ H E I hf st hg
  subst hP hw hK
  obtain⟨f0,f1,f2,f3,f4,f5⟩:=hf it (by simp)
  exact wpAny_pyNext_range_end (I.ok.hd hc) st (by have:n<=i:=hg; lia) fun h' eb=>⟨rfl,I.turned (t':=s.toks) (fun b o hb e=>eb b o hb e) f0 f1 f3 f4 f5⟩
 self:=fun _ _ _ _ _ st h=>wpAny_pyIter_rangeiter st h
section
variable {tg:Expr}
def iList (K:W.Frag)(tl:TE):TI:=fun σ H R=>tl σ H fun x H1=>∃ a,x= .ref a/\(∃ xs,SqL K H1 a xs)/\R (Itl K a) H1
def iTup (K:W.Frag)(tl:TE):TI:=fun σ H R=>tl σ H fun x H1=>∃ a,x= .ref a/\(∃ xs,SqT K H1 a xs)/\R (Itt K a) H1
theorem jSJ {l:Expr}{tl:TE}(hl:PE X l tl):PI X tg l (iList X.K tl):=by
 intro ad s σ H R I h
 refine lI (hl ad s σ H _ I h) fun v s1 ⟨x,H1,I1,r1,q1⟩=>?_
 obtain⟨a,e,⟨xs,hq⟩,q⟩:=q1
 subst e
 cases r1
 obtain⟨its,rv,p,hz⟩:=I1.list hq
 refine dG p.isList ?_
 refine⟨s1.heap.objs.size,[s1.heap.objs.size],_,_,H1,rfl,I1.kept (t':=s1.toks) fun b o e=>ag _ e,jL4 a _,⟨_,aB _ rfl,rfl,rfl⟩,fun b hb=>?_,q⟩
 have e:b=s1.heap.objs.size:=by simpa using hb
 subst e
 exact I1.fpOk (ar _) (I1.hok.fresh (ar _))
theorem jV0 {l:Expr}{tl:TE}(hl:PE X l tl):PI X tg l (iTup X.K tl):=by
 intro ad s σ H R I h
 refine lI (hl ad s σ H _ I h) fun v s1 ⟨x,H1,I1,r1,q1⟩=>?_
 obtain⟨a,e,⟨xs,hq⟩,q⟩:=q1
 subst e
 cases r1
 obtain⟨its,rv,p,hz⟩:=I1.tuple hq
 refine wpAny_pyIter_tuple (show s1.heap.IsTuple a its.toArray from p) ?_
 refine⟨s1.heap.objs.size,[s1.heap.objs.size],_,_,H1,rfl,I1.kept (t':=s1.toks) fun b o e=>ag _ e,jK3 a _,⟨_,aB _ rfl,rfl,rfl⟩,fun b hb=>?_,q⟩
 have e:b=s1.heap.objs.size:=by simpa using hb
 subst e
 exact I1.fpOk (ar _) (I1.hok.fresh (ar _))
theorem jIV {ad:List (Addr×Obj)}{σ:St}{H:Hp}{s:Shared}{R:It->Hp->Prop}{E:Value->Shared->Prop}{lo hi:Int}{t u v:Tok}{tk:Nat}(I:Inv X ad σ H s)(h1: -(2 ^ 62)<=lo)(h2:lo<2 ^ 62)(h3: -(2 ^ 62)<=hi)(h4:hi<2 ^ 62)
  (q:R (Itr lo (hi - lo).toNat) H):wpAny (model X.prog X.w) X.A (pyIter (.ref s.heap.objs.size)) (PIE X ad σ tg R) E { s with heap:=s.heap.push { cls:= .type "range",data:= .fields #[.int lo t, .int hi u, .int 1 v]},toks:=tk} :=by
 refine wpAny_pyIter_range (IsRange.new ..) (small_one h1 h2 h3 h4) ?_
 have I1:Inv X ad σ H { s with heap:=s.heap.push { cls:= .type "range",data:= .fields #[.int lo t, .int hi u, .int 1 v]},toks:=tk} :=I.kept fun b o e=>ag _ e
 refine⟨(s.heap.push { cls:= .type "range",data:= .fields #[.int lo t, .int hi u, .int 1 v]}).objs.size,[(s.heap.push { cls:= .type "range",data:= .fields #[.int lo t, .int hi u, .int 1 v]}).objs.size],_,_,H,rfl,
  I1.kept (t':=tk) fun b o e=>ag _ e,jK4 _ lo (hi - lo).toNat,?_,fun b hb=>?_,q⟩
 ·have e1:lo+((0:Nat):Int)*1=lo:=by simp
  have e2:(((hi - lo).toNat:Nat):Int) - ((0:Nat):Int)=Builtin.Range.rangeSize lo hi 1:=by rw[rangeSize_one]; split <;> lia
  show IsRangeIter _ _ (lo+((0:Nat):Int)*1) ((((hi - lo).toNat:Nat):Int) - ((0:Nat):Int)) 1
  rw[e1,e2]
  exact aB _ rfl
 ·have e:b=(s.heap.push { cls:= .type "range",data:= .fields #[.int lo t, .int hi u, .int 1 v]}).objs.size:=by simpa using hb
  subst e
  exact I1.fpOk (ar _) (I1.hok.fresh (ar _))
def iRng1 (ta:TA):TI:=fun σ H R=>ta σ H fun vs H1=>∃ j:Int,vs=[.int j]/\ -(2 ^ 62)<=j/\j<2 ^ 62/\R (Itr 0 j.toNat) H1
def iRng2 (ta:TA):TI:=fun σ H R=>ta σ H fun vs H1=>∃ i j:Int,vs=[.int i, .int j]/\(-(2 ^ 62)<=i/\i<2 ^ 62/\ -(2 ^ 62)<=j/\j<2 ^ 62)/\R (Itr i (j - i).toNat) H1
theorem jBW {a:Expr}{ta:TA}{p pos:Pos}(hg:Gl X "range")(hm:X.mg "range" =none)(ha:PA X [a] ta)(hs:starEach [a] X.env=[(false,eval a X.env)]:=by rfl):PI X tg (.Call (.Name "range" p) [a] [] pos) (iRng1 ta):=by
 intro ad s σ H R I h
 refine Call_ (jD1 I hg hm boot_range (de (lI (ha pos ad s σ H _ I h) fun us s1 ⟨vs,H1,I1,r1,q1⟩=>?_) hs rfl))
 obtain⟨j,e,q1,q2,q⟩:=q1
 subst e
 cases r1 with
 | cons r rr=>
  cases rr
  obtain⟨t,rfl⟩:=r
  exact call_range_1 (jIV I1 (by lia) (by lia) q1 q2 (by simpa using q))
theorem jM7 {a b:Expr}{ta:TA}{p pos:Pos}(hg:Gl X "range")(hm:X.mg "range" =none)(ha:PA X [a,b] ta)(hs:starEach [a,b] X.env=[(false,eval a X.env),(false,eval b X.env)]:=by rfl)(hs2:starEach [b] X.env=[(false,eval b X.env)]:=by rfl):
  PI X tg (.Call (.Name "range" p) [a,b] [] pos) (iRng2 ta):=by
 intro ad s σ H R I h
 refine Call_ (jD1 I hg hm boot_range (de (lI (ha pos ad s σ H _ I h) fun us s1 ⟨vs,H1,I1,r1,q1⟩=>?_) (by rw[hs,hs2]) (by rw[hs2]; rfl)))
 obtain⟨i,j,e,⟨q1,q2,q3,q4⟩,q⟩:=q1
 subst e
 cases r1 with
 | cons r rr=>
  cases rr with
  | cons r' rr=>
   cases rr
   obtain⟨t,rfl⟩:=r
   obtain⟨t',rfl⟩:=r'
   exact call_range_2 (jIV I1 q1 q2 q3 q4 q)
def tFor (wi:TI)(g:TG)(tb:TS):TS:=fun D σ H=>wi σ H fun J H1=>∃ W:Nat->Nat->St->Hp->Prop,(∃ m,W 0 m σ H1)/\∀ i m σ H,W i m σ H->
 (J.stop i H/\D.nx σ H)\/(J.go i H/\∃ N:St->Hp->Prop,(∀ σ' H',N σ' H'->∃ m',m'<m/\W (i+1) m' σ' H')/\∀ x H',J.yld i H x H'->g x σ H' fun σ2 H2=>tb { D with nx:=N,ct:=N,bk:=D.nx} σ2 H2)
def jGE (fp:List Addr)(h:Heap):List (Addr×Obj):=fp.filterMap fun b=>(h.get? b).map fun o=>(b,o)
theorem jB7 {fp:List Addr}{h:Heap}{b:Addr}{o:Obj}(hb:b∈fp)(e:h.get? b=some o):(b,o)∈jGE fp h:=ln.mpr ⟨b,hb,by rw[e]; rfl⟩
theorem jMJ {fp:List Addr}{h:Heap}{p:Addr×Obj}(hp:p∈jGE fp h):p.1∈fp/\h.get? p.1=some p.2:=by
 obtain⟨b,hb,e⟩:=ln.mp hp
 cases q:h.get? b with
 | none=>rw[q] at e; cases e
 | some o=>
  rw[q] at e
  have e':(b,o)=p:=bo e
  subst e'
  exact⟨hb,q⟩
theorem Inv.pinned {ad:List (Addr×Obj)}{σ:St}{H:Hp}{s:Shared}{fp:List Addr}(I:Inv X ad σ H s)(hf:∀ b∈fp,FpOk X ad H b)(ho:∀ b∈fp,∃ o,s.heap.get? b=some o/\∀ v,o.data≠ .cell v):Inv X (ad++jGE fp s.heap) σ H s:=
 I.pins_of fun p hp=>(aR.mp hp).elim (fun z=>I.pin p (aZ _ z)) fun z=>by
  obtain⟨hb,e⟩:=jMJ z
  obtain⟨f0,f1,f2,_⟩:=hf p.1 hb
  obtain⟨o,e',d⟩:=ho p.1 hb
  rw[e] at e'; cases e'
  exact⟨e,f0,f1,f2,d⟩
theorem Inv.unpinned {ad pl:List (Addr×Obj)}{σ:St}{H:Hp}{s:Shared}(I:Inv X (ad++pl) σ H s):Inv X ad σ H s:=I.pins_of fun p hp=>I.pin p (aZ _ (bu _ hp))
theorem jR8 {iter:Expr}{body:List Stmt}{wi:TI}{g:TG}{tb:TS}{pos:Pos}(hp:PassesOwn (model X.prog X.w) X.A X.env X.xe)(hc:X.calm=true)(hi:PI X tg iter wi)(hg:PG X tg g)(hb:PSs X body tb)
  (hs:∀ x,foldedSetIterable iter X.env x=pure x:=by intro _; rfl):PS X (.For tg iter body [] pos) (tFor wi g tb):=by
 intro ad s σ H D I h
 refine wpAny_For (lI (hi ad s σ H _ I h) fun v s1 h1=>lI h1 fun itv s2 h2=>?_) hs
 obtain⟨it,fp,tn,J,H2,e,I2,T,st2,f2,W,⟨m0,w0⟩,turn⟩:=h2
 subst e
 have stat:∀ {H':Hp},(∀ b∈fp,H' b=none)->∀ b∈fp,FpOk X ad H' b:=fun hn b hb=>⟨hn b hb,(f2 b hb).2⟩
 refine codeAny_forLoop_any (fun n s'=>∃ i σ' H',Inv X ad σ' H' s'/\tn i s'.heap/\(∀ b∈fp,H' b=none)/\W i n σ' H') ?_ m0 ⟨0,σ,H2,I2,st2,fun b hb=>(f2 b hb).1,w0⟩
 rintro n s3 ⟨i,σ3,H3,I3,st3,fr3,w3⟩
 rcases turn i n σ3 H3 w3 with ⟨stop,qn⟩ | ⟨go,N,hN,step⟩
 ·refine ev hp (lI (T.done X rfl rfl rfl hc i ad s3 σ3 H3 X.xe I3 (stat fr3) st3 stop) fun r s4 ⟨hr,I4⟩=>?_)
  subst hr
  exact hV ⟨σ3,H3,I4,qn⟩
 ·refine ev hp (lI (T.item X rfl rfl rfl hc i ad s3 σ3 H3 X.xe I3 (stat fr3) st3 go) fun r s4 ⟨u,hr,h4⟩=>?_)
  subst hr
  refine ev hp (lI h4 fun _ s5 ⟨x,H5,I5,r5,y5,st5,fr5⟩=>?_)
  have I5':=I5.pinned (stat fr5) (T.obj _ _ st5)
  refine ev hp (lI (hg _ s5 σ3 H5 x u _ I5' r5 (step x H5 y5)) fun _ s6 ⟨σ6,H6,I6,q6⟩=>?_)
  refine ev hp (lI (hb _ s6 σ6 H6 _ I6 q6) fun f s7 q7=>?_)
  have again:∀ {σ7:St}{H7:Hp},Inv X (ad++jGE fp s5.heap) σ7 H7 s7->N σ7 H7->∃ m,m<n/\∃ i σ' H',Inv X ad σ' H' s7/\tn i s7.heap/\(∀ b∈fp,H' b=none)/\W i m σ' H':=fun {σ7 H7} I7 n7=>by
   obtain⟨m',hm,w7⟩:=hN σ7 H7 n7
   refine⟨m',hm,i+1,σ7,H7,I7.unpinned,T.keep _ _ _ st5 fun b hb o e=>(I7.pin (b,o) (aZ _ (aZ _ (jB7 hb e)))).1,fun b hb=>?_,w7⟩
   obtain⟨o,e,d⟩:=T.obj _ _ st5 b hb
   exact(I7.pin (b,o) (aZ _ (aZ _ (jB7 hb e)))).2.1
  cases f with
  | next=>obtain⟨σ7,H7,I7,n7⟩:=q7; exact again I7 n7
  | cont=>obtain⟨σ7,H7,I7,n7⟩:=q7; exact again I7 n7
  | brk=>obtain⟨σ7,H7,I7,q7⟩:=q7; exact⟨σ7,H7,I7.unpinned,q7⟩
  | ret v=>obtain⟨x7,σ7,H7,I7,r7,q7⟩:=q7; exact⟨x7,σ7,H7,I7.unpinned,r7,q7⟩
end
theorem jBD {K:W.Frag}{a:Addr}{xs:List V}{g:TG}{tb:TS}{D:Ends}{σ:St}{H:Hp}(Pv:Nat->St->Hp->Prop)(h0:Pv 0 σ H)(hl:∀ i σ H,i<=xs.length->Pv i σ H->SqL K H a xs)
  (hs:∀ i x σ H,xs[i]?=some x->Pv i σ H->g x σ H fun σ2 H2=>tb { D with nx:=Pv (i+1),ct:=Pv (i+1),bk:=D.nx} σ2 H2) (hd:∀ σ H,Pv xs.length σ H->D.nx σ H):
  ∃ W:Nat->Nat->St->Hp->Prop,(∃ m,W 0 m σ H)/\∀ i m σ H,W i m σ H->
   ((Itl K a).stop i H/\D.nx σ H)\/((Itl K a).go i H/\∃ N:St->Hp->Prop,(∀ σ' H',N σ' H'->∃ m',m'<m/\W (i+1) m' σ' H')/\∀ x H',(Itl K a).yld i H x H'->g x σ H' fun σ2 H2=>tb { D with nx:=N,ct:=N,bk:=D.nx} σ2 H2):=by
 refine⟨fun i m σ H=>m=xs.length - i/\i<=xs.length/\Pv i σ H,⟨xs.length,by simp,bx _,h0⟩,?_⟩
 rintro i m σ H ⟨rfl,hi,p⟩
 have q:=hl i σ H hi p
 by_cases hlt:i<xs.length
 ·refine .inr ⟨⟨xs,xs[i],q,by simp [hlt]⟩,Pv (i+1),fun σ' H' p'=>⟨xs.length - (i+1),by lia,rfl,hlt,p'⟩,fun x H' y=>?_⟩
  obtain⟨e,y⟩:=y
  subst e
  exact hs i x σ _ (y xs q) p
 ·have e:i=xs.length:=by lia
  subst e
  exact .inl ⟨⟨xs,q,ar _⟩,hd σ H p⟩
theorem jO3 {K:W.Frag}{a:Addr}{xs:List V}{g:TG}{tb:TS}{D:Ends}{σ:St}{H:Hp}(Pv:Nat->St->Hp->Prop)(h0:Pv 0 σ H)(hl:∀ i σ H,i<=xs.length->Pv i σ H->SqT K H a xs)
  (hs:∀ i x σ H,xs[i]?=some x->Pv i σ H->g x σ H fun σ2 H2=>tb { D with nx:=Pv (i+1),ct:=Pv (i+1),bk:=D.nx} σ2 H2) (hd:∀ σ H,Pv xs.length σ H->D.nx σ H):
  ∃ W:Nat->Nat->St->Hp->Prop,(∃ m,W 0 m σ H)/\∀ i m σ H,W i m σ H->
   ((Itt K a).stop i H/\D.nx σ H)\/((Itt K a).go i H/\∃ N:St->Hp->Prop,(∀ σ' H',N σ' H'->∃ m',m'<m/\W (i+1) m' σ' H')/\∀ x H',(Itt K a).yld i H x H'->g x σ H' fun σ2 H2=>tb { D with nx:=N,ct:=N,bk:=D.nx} σ2 H2):=by
 refine⟨fun i m σ H=>m=xs.length - i/\i<=xs.length/\Pv i σ H,⟨xs.length,by simp,bx _,h0⟩,?_⟩
 rintro i m σ H ⟨rfl,hi,p⟩
 have q:=hl i σ H hi p
 by_cases hlt:i<xs.length
 ·refine .inr ⟨⟨xs,xs[i],q,by simp [hlt]⟩,Pv (i+1),fun σ' H' p'=>⟨xs.length - (i+1),by lia,rfl,hlt,p'⟩,fun x H' y=>?_⟩
  obtain⟨e,y⟩:=y
  subst e
  exact hs i x σ _ (y xs q) p
 ·have e:i=xs.length:=by lia
  subst e
  exact .inl ⟨⟨xs,q,ar _⟩,hd σ H p⟩
theorem jC2 {lo:Int}{n:Nat}{g:TG}{tb:TS}{D:Ends}{σ:St}{H:Hp}(Pv:Nat->St->Hp->Prop)(h0:Pv 0 σ H)
  (hs:∀ i σ H,i<n->Pv i σ H->g (.int (lo+i)) σ H fun σ2 H2=>tb { D with nx:=Pv (i+1),ct:=Pv (i+1),bk:=D.nx} σ2 H2) (hd:∀ σ H,Pv n σ H->D.nx σ H):
  ∃ W:Nat->Nat->St->Hp->Prop,(∃ m,W 0 m σ H)/\∀ i m σ H,W i m σ H->
   ((Itr lo n).stop i H/\D.nx σ H)\/((Itr lo n).go i H/\∃ N:St->Hp->Prop,(∀ σ' H',N σ' H'->∃ m',m'<m/\W (i+1) m' σ' H')/\∀ x H',(Itr lo n).yld i H x H'->g x σ H' fun σ2 H2=>tb { D with nx:=N,ct:=N,bk:=D.nx} σ2 H2):=by
 refine⟨fun i m σ H=>m=n - i/\i<=n/\Pv i σ H,⟨n,by simp,bx _,h0⟩,?_⟩
 rintro i m σ H ⟨rfl,hi,p⟩
 by_cases hlt:i<n
 ·refine .inr ⟨hlt,Pv (i+1),fun σ' H' p'=>⟨n - (i+1),by lia,rfl,hlt,p'⟩,fun x H' y=>?_⟩
  obtain⟨e,y⟩:=y
  subst e y
  exact hs i σ _ hlt p
 ·have e:i=n:=by lia
  subst e
  exact .inl ⟨ar _,hd σ H p⟩
abbrev R2:=V->V->Hp->VK->Prop
def OpR (X:Cx)(f:Value->Value->Sem Value)(r:R2):Prop:=
 ∀ (ad:List (Addr×Obj)) (s:Shared) (σ:St) (H:Hp) (x y:V) (v u:Value) (Q:VK),Inv X ad σ H s->RelV x v->RelV y u->r x y H Q->
  wpAny (model X.prog X.w) X.A (f v u) (EP X ad σ Q) X.xe s
def UnR (X:Cx)(f:Value->Sem Value)(r:V->Hp->VK->Prop):Prop:=
 ∀ (ad:List (Addr×Obj)) (s:Shared) (σ:St) (H:Hp) (x:V) (v:Value) (Q:VK),Inv X ad σ H s->RelV x v->r x H Q->
  wpAny (model X.prog X.w) X.A (f v) (EP X ad σ Q) X.xe s
def qC (X:Cx)(f:Value)(r:List V->Hp->VK->Prop):Prop:=
 ∀ (ad:List (Addr×Obj)) (s:Shared) (σ:St) (H:Hp) (xs:List V) (us:List Value) (Q:VK),Inv X ad σ H s->Vals xs us->r xs H Q->
  wpAny (model X.prog X.w) X.A (call f us) (EP X ad σ Q) X.xe s
def tOp (r:R2)(ta tb:TE):TE:=fun σ H Q=>ta σ H fun x H1=>tb σ H1 fun y H2=>r x y H2 Q
def tUn (r:V->Hp->VK->Prop)(ta:TE):TE:=fun σ H Q=>ta σ H fun x H1=>r x H1 Q
def rI (C:Int->Int->Prop)(g:Int->Int->V):R2:=fun x y H Q=>∃ i j,x= .int i/\y= .int j/\C i j/\Q (g i j) H
def rI0 (g:Int->Int->V):R2:=fun x y H Q=>∃ i j,x= .int i/\y= .int j/\Q (g i j) H
def rU (g:Int->V):V->Hp->VK->Prop:=fun x H Q=>∃ i,x= .int i/\Q (g i) H
variable {c:Expr}{tc:TE}
section
variable {a:Expr}
theorem binT (ha:PE X a ta)(hb:PE X b tb){ad:List (Addr×Obj)}{s:Shared}{σ:St}{H:Hp}{R:V->V->Hp->Prop}(I:Inv X ad σ H s)
  (h:ta σ H fun x H1=>tb σ H1 fun y H2=>R x y H2) {Q:Value->Shared->Prop}{f:Value->Value->Sem Value}
  (hf:∀ v u s2 x y H2,Inv X ad σ H2 s2->RelV x v->RelV y u->R x y H2->wpAny (model X.prog X.w) X.A (f v u) Q X.xe s2):
  wpAny (model X.prog X.w) X.A (eval a X.env) (fun v s₁=>wpAny (model X.prog X.w) X.A (eval b X.env) (fun u s₂=>wpAny (model X.prog X.w) X.A (f v u) Q X.xe s₂) X.xe s₁) X.xe s:=by
 refine lI (ha ad s σ H _ I h) fun v s1 ⟨x,H1,I1,r1,q1⟩=>?_
 refine lI (hb ad s1 σ H1 _ I1 q1) fun u s2 ⟨y,H2,I2,r2,q2⟩=>?_
 exact hf v u s2 x y H2 I2 r1 r2 q2
theorem kP {op:Operator}{r:R2}(ho:OpR X (binaryOp op) r)(ha:PE X a ta)(hb:PE X b tb):PE X (.BinOp a op b pos) (tOp r ta tb):=by
 intro ad s σ H Q I h
 exact wpAny_BinOp (binT ha hb I h fun v u s2 x y H2 I2 rx ry q=>ho ad s2 σ H2 x y v u Q I2 rx ry q)
theorem pe_un {op:UnaryOp}{r:V->Hp->VK->Prop}(ho:UnR X (unaryOp op) r)(ha:PE X a ta):PE X (.UnaryOp op a pos) (tUn r ta):=by
 intro ad s σ H Q I h
 exact UnaryOp_ (lI (ha ad s σ H _ I h) fun v s1 ⟨x,H1,I1,r1,q1⟩=>ho ad s1 σ H1 x v Q I1 r1 q1)
theorem opI {f:Value->Value->Sem Value}{C:Int->Int->Prop}{g:Int->Int->Int}
  (rule:∀ (i j:Int) (t u:Tok) (s:Shared) (Q:Value->Shared->Prop) (E:Value->Shared->Prop),C i j->Q (.int (g i j) s.toks) { s with toks:=s.toks+1} ->wpAny (model X.prog X.w) X.A (f (.int i t) (.int j u)) Q E s):
  OpR X f (rI C fun i j=> .int (g i j)):=by
 intro ad s σ H x y v u Q I rx ry h
 obtain⟨i,j,rfl,rfl,hc,q⟩:=h
 obtain⟨t,rfl⟩:=rx
 obtain⟨t',rfl⟩:=ry
 exact rule i j t t' s _ _ hc ⟨.int (g i j),H,I.tok _,⟨_,rfl⟩,q⟩
theorem opI0 {f:Value->Value->Sem Value}{g:Int->Int->Int}
  (rule:∀ (i j:Int) (t u:Tok) (s:Shared) (Q:Value->Shared->Prop) (E:Value->Shared->Prop),Q (.int (g i j) s.toks) { s with toks:=s.toks+1} ->wpAny (model X.prog X.w) X.A (f (.int i t) (.int j u)) Q E s):
  OpR X f (rI0 fun i j=> .int (g i j)):=by
 intro ad s σ H x y v u Q I rx ry h
 obtain⟨i,j,rfl,rfl,q⟩:=h
 obtain⟨t,rfl⟩:=rx
 obtain⟨t',rfl⟩:=ry
 exact rule i j t t' s _ _ ⟨.int (g i j),H,I.tok _,⟨_,rfl⟩,q⟩
theorem opB0 {f:Value->Value->Sem Value}{g:Int->Int->Bool}
  (rule:∀ (i j:Int) (t u:Tok) (s:Shared) (Q:Value->Shared->Prop) (E:Value->Shared->Prop),Q (.bool (g i j)) s->wpAny (model X.prog X.w) X.A (f (.int i t) (.int j u)) Q E s):
  OpR X f (rI0 fun i j=> .bl (g i j)):=by
 intro ad s σ H x y v u Q I rx ry h
 obtain⟨i,j,rfl,rfl,q⟩:=h
 obtain⟨t,rfl⟩:=rx
 obtain⟨t',rfl⟩:=ry
 exact rule i j t t' s _ _ ⟨.bl (g i j),H,I,rfl,q⟩
def CPow (i j:Int):Prop:=0<=j/\j<=1000000/\i.natAbs<2 ^ 64
def CMul (i j:Int):Prop:=(-(2 ^ 64)<i/\i<2 ^ 64)\/(-(2 ^ 64)<j/\j<2 ^ 64)
theorem CMul.ok {i j:Int}(h:CMul i j):IntMulOk i j:=by
 rcases h with ⟨h1,h2⟩ | ⟨h1,h2⟩
 ·exact .of_left (intBits_le_64 h1 h2)
 ·exact .of_right (intBits_le_64 h1 h2)
theorem jK2 (k:Nat):(0:Int)<=2 ^ k:=by
 rw[two_pow_cast]
 exact gf _
theorem y0:OpR X (binaryOp .Add) (rI0 fun i j=> .int (i+j)):=opI0 fun _ _ _ _ _ _ _ q=>add_int q
theorem jBY:OpR X (binaryOp .Sub) (rI0 fun i j=> .int (i - j)):=opI0 fun _ _ _ _ _ _ _ q=>sub_int q
theorem jCZ:OpR X (binaryOp .Mult) (rI CMul fun i j=> .int (i*j)):=opI fun _ _ _ _ _ _ _ hc q=>mul_int q hc.ok
theorem jEH:OpR X (binaryOp .Mod) (rI (fun _ j=>0<j) fun i j=> .int (i % j)):=opI fun i j _ _ _ _ _ hc q=>by
 have h1:(0:Int)<j:=hc
 exact mod_int' (by lia) (by rw[Int.fmod_eq_emod_of_nonneg i (by lia)]; exact q)
theorem jMD:OpR X (binaryOp .Pow) (rI CPow fun i j=> .int (i ^ j.toNat)):=opI fun _ _ _ _ _ _ _ hc q=>pow_int_small hc.1 hc.2.1 hc.2.2 q
theorem jGG:OpR X (binaryOp .LShift) (rI CPow fun i j=> .int (i*2 ^ j.toNat)):=opI fun _ _ _ _ _ _ _ hc q=>lshift_int_small hc.1 hc.2.1 hc.2.2 q
theorem jMC:OpR X (binaryOp .RShift) (rI (fun _ j=>0<=j) fun i j=> .int (i / 2 ^ j.toNat)):=opI fun i j _ _ _ _ _ hc q=>
 rshift_int hc (by rw[iB i (jK2 _)]; exact q)
theorem jEI:OpR X (binaryOp .BitAnd) (rI0 fun i j=> .int (Builtin.bitAnd i j)):=opI0 fun _ _ _ _ _ _ _ q=>and_int q
theorem op_or:OpR X (binaryOp .BitOr) (rI0 fun i j=> .int (Builtin.bitOr i j)):=opI0 fun _ _ _ _ _ _ _ q=>or_int q
theorem unI {f:Value->Sem Value}{g:Int->Int}
  (rule:∀ (i:Int) (t:Tok) (s:Shared) (Q:Value->Shared->Prop) (E:Value->Shared->Prop),Q (.int (g i) s.toks) { s with toks:=s.toks+1} ->wpAny (model X.prog X.w) X.A (f (.int i t)) Q E s):
  UnR X f (rU fun i=> .int (g i)):=by
 intro ad s σ H x v Q I rx h
 obtain⟨i,rfl,q⟩:=h
 obtain⟨t,rfl⟩:=rx
 exact rule i t s _ _ ⟨.int (g i),H,I.tok _,⟨_,rfl⟩,q⟩
theorem jE8:UnR X (unaryOp .USub) (rU fun i=> .int (-i)):=unI fun _ _ _ _ _ q=>neg_int q
theorem jQY:UnR X (unaryOp .Invert) (rU fun i=> .int (Builtin.bitNot i)):=unI fun _ _ _ _ _ q=>invert_int q
end
noncomputable def scal:V->V->Bool
 | .non, .non=>true | .non, .int _=>true | .int _, .non=>true | .non, .bl _=>true | .bl _, .non=>true | .non, .str _=>true | .str _, .non=>true
 | .int _, .int _=>true | .bl _, .bl _=>true | .str _, .str _=>true | .byt _, .byt _=>true
 | .int _, .str _=>true | .str _, .int _=>true | .bl _, .str _=>true | .str _, .bl _=>true
 | _,_=>false
def rEq:R2:=fun x y H Q=>scal x y=true/\Q (.bl (decide (x=y))) H
def rNe:R2:=fun x y H Q=>scal x y=true/\Q (.bl (!decide (x=y))) H
theorem jE0 {i j:Int} :decide (V.int i=V.int j)=(i==j):=by
 rw[bO]
 simp
theorem jRP {i j:Bool} :decide (V.bl i=V.bl j)=(i==j):=by
 rw[bO]
 simp
theorem jO9 {i j:Str} :decide (V.str i=V.str j)=(i==j):=by
 rw[bO]
 simp
theorem jOA {i j:Array UInt8} :decide (V.byt i=V.byt j)=(i.toList==j.toList):=by
 rw[bO]
 cases i
 cases j
 simp
section
variable {a:Expr}
theorem kD {ad:List (Addr×Obj)}{σ:St}{H:Hp}{s:Shared}{Q:VK}{k k':Bool}(I:Inv X ad σ H s)(q:Q (.bl k) H)(e:k=k'):EP X ad σ Q (.bool k') s:=by
 subst e
 exact⟨.bl k,H,I,rfl,q⟩
theorem qG:OpR X (compareOp .Eq) rEq:=by
 intro ad s σ H x y v u Q I rx ry h
 obtain⟨hs,q⟩:=h
 cases x with
 | non=>
  cases rx
  cases y with
  | non=>cases ry; exact PySem.EqNone.eq_none_none (kD I q (by simp))
  | bl j=>cases ry; exact PySem.EqNone.eq_none_bool (kD I q (by simp))
  | int j=>obtain⟨t',rfl⟩:=ry; exact PySem.EqNone.eq_none_int (kD I q (by simp))
  | str j=>obtain⟨t',rfl⟩:=ry; exact PySem.EqNone.eq_none_str (kD I q (by simp))
  | _=>exact absurd (show false=true from hs) aq
 | bl i=>
  cases rx
  cases y with
  | non=>cases ry; exact PySem.EqNone.eq_bool_none (kD I q (by simp))
  | bl j=>cases ry; exact eq_bool (kD I q jRP)
  | str j=>obtain⟨t',rfl⟩:=ry; exact PySem.EqMixed.eq_bool_str (kD I q (by simp))
  | _=>exact absurd (show false=true from hs) aq
 | int i=>
  obtain⟨t,rfl⟩:=rx
  cases y with
  | non=>cases ry; exact PySem.EqNone.eq_int_none (kD I q (by simp))
  | int j=>obtain⟨t',rfl⟩:=ry; exact eq_int (kD I q jE0)
  | str j=>obtain⟨t',rfl⟩:=ry; exact PySem.EqMixed.eq_int_str (kD I q (by simp))
  | _=>exact absurd (show false=true from hs) aq
 | str i=>
  obtain⟨t,rfl⟩:=rx
  cases y with
  | non=>cases ry; exact PySem.EqNone.eq_str_none (kD I q (by simp))
  | bl j=>cases ry; exact PySem.EqMixed.eq_str_bool (kD I q (by simp))
  | int j=>obtain⟨t',rfl⟩:=ry; exact PySem.EqMixed.eq_str_int (kD I q (by simp))
  | str j=>obtain⟨t',rfl⟩:=ry; exact eq_str (kD I q jO9)
  | _=>exact absurd (show false=true from hs) aq
 | byt i=>
  obtain⟨t,rfl⟩:=rx
  cases y with
  | byt j=>obtain⟨t',rfl⟩:=ry; exact PySem.W.eq_bytes (kD I q jOA)
  | _=>exact absurd (show false=true from hs) aq
 | _=>cases y <;> exact absurd (show false=true from hs) aq
theorem op_ne:OpR X (compareOp .NotEq) rNe:=by
 intro ad s σ H x y v u Q I rx ry h
 obtain⟨hs,q⟩:=h
 cases x with
 | non=>
  cases rx
  cases y with
  | non=>cases ry; exact PySem.EqNone.ne_none_none (kD I q (by simp))
  | bl j=>cases ry; exact PySem.EqNone.ne_none_bool (kD I q (by simp))
  | int j=>obtain⟨t',rfl⟩:=ry; exact PySem.EqNone.ne_none_int (kD I q (by simp))
  | str j=>obtain⟨t',rfl⟩:=ry; exact PySem.EqNone.ne_none_str (kD I q (by simp))
  | _=>exact absurd (show false=true from hs) aq
 | bl i=>
  cases rx
  cases y with
  | non=>cases ry; exact PySem.EqNone.ne_bool_none (kD I q (by simp))
  | bl j=>cases ry; exact ne_bool (kD I q (bX not jRP))
  | str j=>obtain⟨t',rfl⟩:=ry; exact PySem.EqMixed.ne_bool_str (kD I q (by simp))
  | _=>exact absurd (show false=true from hs) aq
 | int i=>
  obtain⟨t,rfl⟩:=rx
  cases y with
  | non=>cases ry; exact PySem.EqNone.ne_int_none (kD I q (by simp))
  | int j=>obtain⟨t',rfl⟩:=ry; exact ne_int (kD I q (bX not jE0))
  | str j=>obtain⟨t',rfl⟩:=ry; exact PySem.EqMixed.ne_int_str (kD I q (by simp))
  | _=>exact absurd (show false=true from hs) aq
 | str i=>
  obtain⟨t,rfl⟩:=rx
  cases y with
  | non=>cases ry; exact PySem.EqNone.ne_str_none (kD I q (by simp))
  | bl j=>cases ry; exact PySem.EqMixed.ne_str_bool (kD I q (by simp))
  | int j=>obtain⟨t',rfl⟩:=ry; exact PySem.EqMixed.ne_str_int (kD I q (by simp))
  | str j=>obtain⟨t',rfl⟩:=ry; exact ne_str (kD I q (bX not jO9))
  | _=>exact absurd (show false=true from hs) aq
 | byt i=>
  obtain⟨t,rfl⟩:=rx
  cases y with
  | byt j=>obtain⟨t',rfl⟩:=ry; exact PySem.W.ne_bytes (kD I q (bX not jOA))
  | _=>exact absurd (show false=true from hs) aq
 | _=>cases y <;> exact absurd (show false=true from hs) aq
theorem op_lt:OpR X (compareOp .Lt) (rI0 fun i j=> .bl (decide (i<j))):=opB0 fun _ _ _ _ _ _ _ q=>lt_int q
theorem op_le:OpR X (compareOp .LtE) (rI0 fun i j=> .bl (decide (i<=j))):=opB0 fun _ _ _ _ _ _ _ q=>le_int q
theorem op_gt:OpR X (compareOp .Gt) (rI0 fun i j=> .bl (decide (j<i))):=opB0 fun _ _ _ _ _ _ _ q=>gt_int q
theorem op_ge:OpR X (compareOp .GtE) (rI0 fun i j=> .bl (decide (j<=i))):=opB0 fun _ _ _ _ _ _ _ q=>ge_int q
theorem jK (b:Expr){op:CmpOp}(h:op≠ .In:=by decide)(h2:op≠ .NotIn:=by decide):behindInMarks op b=false:=by
 have e1:(op==CmpOp.In)=false:=by cases op <;> first | rfl | exact absurd rfl h
 have e2:(op==CmpOp.NotIn)=false:=by cases op <;> first | rfl | exact absurd rfl h2
 cases b <;> simp [behindInMarks,e1,e2]
theorem jSQ {op:CmpOp}{r:R2}(ho:OpR X (compareOp op) r)(ha:PE X a ta)(hb:PE X b tb)(hm:behindInMarks op b=false):PE X (.Compare a [op] [b] pos) (tOp r ta tb):=by
 intro ad s σ H Q I h
 exact wpAny_Compare1 (binT ha hb I h fun v u s2 x y H2 I2 rx ry q=>ho ad s2 σ H2 x y v u Q I2 rx ry q) hm
def tTest (t:TE):TT:=fun σ H Q=>t σ H fun x H'=>∃ k,x= .bl k/\Q k H'
theorem jDK {op:CmpOp}{r:R2}(ho:OpR X (compareOp op) r)(ha:PE X a ta)(hb:PE X b tb)(hm:behindInMarks op b=false):PT X (.Compare a [op] [b] pos) (tTest (tOp r ta tb)):=by
 intro ad s σ H Q I h
 refine wpAny_isTrue_Compare1 (lI (ha ad s σ H _ I h) fun v s1 ⟨x,H1,I1,r1,q1⟩=>lI (hb ad s1 σ H1 _ I1 q1) fun u s2 ⟨y,H2,I2,r2,q2⟩=>
  lI (ho ad s2 σ H2 x y v u _ I2 r1 r2 q2) fun c s3 ⟨z,H3,I3,r3,k,e,q3⟩=>?_) hm
 subst e
 cases r3
 exact di ⟨H3,I3,q3⟩
theorem jEJ:(sizeLine:Nat)<2 ^ 63:=by rw[gh]; decide
theorem vals1 {x:V}{us:List Value}(r:Vals [x] us):∃ u,us=[u]/\RelV x u:=by
 cases r with
 | cons r1 r2=>cases r2; exact⟨_,rfl,r1⟩
theorem vals2 {x y:V}{us:List Value}(r:Vals [x,y] us):∃ u w',us=[u,w']/\RelV x u/\RelV y w':=by
 cases r with
 | cons r1 r2=>
  cases r2 with
  | cons r3 r4=>cases r4; exact⟨_,_,rfl,r1,r3⟩
theorem jOM (hc:X.calm=true):qC X (.builtin "max") (fun xs H Q=>∃ i j,xs=[.int i, .int j]/\Q (.int (if j>i then j else i)) H):=by
 intro ad s σ H xs us Q I r h
 obtain⟨i,j,rfl,q⟩:=h
 obtain⟨u,w',rfl,⟨t,rfl⟩,⟨t',rfl⟩⟩:=vals2 r
 refine max_two_ints (I.ok.hd hc) fun h' tk k=>⟨_,H,I.kept k,?_,q⟩
 by_cases hj:j>i
 ·rw[ah hj,ah hj]; exact⟨_,rfl⟩
 ·rw[ae hj,ae hj]; exact⟨_,rfl⟩
theorem jOK (hc:X.calm=true):qC X (.builtin "min") (fun xs H Q=>∃ i j,xs=[.int i, .int j]/\Q (.int (if j<i then j else i)) H):=by
 intro ad s σ H xs us Q I r h
 obtain⟨i,j,rfl,q⟩:=h
 obtain⟨u,w',rfl,⟨t,rfl⟩,⟨t',rfl⟩⟩:=vals2 r
 refine min_two_ints (I.ok.hd hc) fun h' tk k=>⟨_,H,I.kept k,?_,q⟩
 by_cases hj:j<i
 ·rw[ah hj,ah hj]; exact⟨_,rfl⟩
 ·rw[ae hj,ae hj]; exact⟨_,rfl⟩
theorem jH4:qC X (.type "int") (fun xs H Q=>(∃ i,xs=[.int i]/\Q (.int i) H)\/∃ k,xs=[.bl k]/\Q (.int (if k then 1 else 0)) H):=by
 intro ad s σ H xs us Q I r h
 rcases h with ⟨i,rfl,q⟩ | ⟨k,rfl,q⟩
 ·obtain⟨u,rfl,t,rfl⟩:=vals1 r
  exact call_int_int ⟨.int i,H,I,⟨_,rfl⟩,q⟩
 ·obtain⟨u,rfl,r1⟩:=vals1 r
  cases r1
  exact call_int_bool ⟨.int (if k then 1 else 0),H,I.tok _,⟨_,rfl⟩,q⟩
end
structure ObjM (h:Heap)(x dx C:Addr)(mA:Str->Option Value):Prop where
 obj:h.get? x=some (instObj C dx)
 ns:h.Ns1 dx mA
 ne:dx≠x
theorem jMY {h:Heap}{dx:Addr}{mA:Str->Option Value}(n:h.Ns1 dx mA):∃ od,h.get? dx=some od/\∀ name,lookIn name od=some (mA name):=by
 obtain⟨o,es,ep,ho,hd,hk,_,hm⟩:=n
 refine⟨o,ho,fun name=>?_⟩
 have e:=hm name
 unfold nsFind findBy at e
 rw[<- Array.find?_toList] at e
 unfold lookIn
 rw[hd]
 dsimp only
 split
 ·rename_i y q
  rw[q] at e
  exact bX some e
 ·rename_i q
  rw[q] at e
  have a:es.toList.any (·.refKey)=false:=by
   rw[List.any_eq_false]
   intro y hy
   obtain⟨z,t,hkey⟩:=hk y (Array.mem_toList_iff.mp hy)
   simp [DictEntry.refKey,hkey]
  have a':¬ es.toList.any (·.refKey)=true:=by rw[a]; exact aq
  rw[ae a']
  exact bX some e
theorem ObjM.look {h:Heap}{x dx C:Addr}{mA:Str->Option Value}(I:ObjM h x dx C mA):∃ od,PySem.W.InstAt h x (instObj C dx) C (some od)/\∀ name,lookIn name od=some (mA name):=
 let ⟨od,ho,hl⟩:=jMY I.ns
 ⟨od,⟨I.obj,rfl,rfl,ho⟩,hl⟩
variable {A:Around}{dx C f:Addr}
section
variable {prog:Program}{K:W.Frag}{mA:Str->Option Value}{name:Str}{v:Value}
end
theorem RelO.some_of {v:V}{o:Option Value}(r:RelO (some v) o):∃ u,o=some u/\RelV v u:=by
 cases o with
 | none=>exact(show False from r).elim
 | some u=>exact⟨u,rfl,r⟩
section
variable {fs fs':List (Str×V)}
theorem jTK (hok:HOk P w H h)(e:H a=some (.ins C dx fs)):∃ mA,ObjM h a dx C mA/\(∀ f,RelO (fs.lookup f) (mA f))/\PySem.Within mA (fs.map (·.1))/\fs.length<=1000/\H dx=some (.own a):=by
 obtain⟨d,z,ne,ob,mA,n,r,q⟩:=(show ObjOk P w H h a (.ins C dx fs) from hok a _ e)
 exact⟨mA,⟨ob,n,ne⟩,r,q,z,d⟩
end
structure Cls (K:W.Frag)(C:Addr):Prop where
 pg:plainGet K C Str.empty=true
 hd:PySem.W.hasDictIn K C=true
 po:PySem.W.plainOver K C=true
 sa:findIn K (.ref C) "__setattr__" =some (some (.builtin "object.__setattr__"))
theorem Cls.get {K:W.Frag}{C:Addr}(c:Cls K C)(f:Str):plainGet K C f=true:=c.pg
section
variable {σ:St}{fs:List (Str×V)}{f:Str}{v:V}
end
variable {o:Expr}
section
variable {value:Expr}{f:Str}{pos' tpos:Pos}{tv:TE}
end
section
variable {σ:St}{Q:Value->Shared->Prop}{c:Value}{b:Bool}
inductive TyOf (K:W.Frag) (H:Hp):V->Value->Prop where
 | non:TyOf K H .non (.type "NoneType")
 | bl (x:Bool):TyOf K H (.bl x) (.type "bool")
 | int (i:Int):TyOf K H (.int i) (.type "int")
 | str (x:Str):TyOf K H (.str x) (.type "str")
 | flt (x:UInt64):TyOf K H (.flt x) (.type "float")
 | lst {a:Addr}{xs:List V}(e:H a=some (.lst xs)):TyOf K H (.ref a) (.type "list")
 | frz {a:Addr}{o:Obj}{xs:List V}(e:H a=some (.frz o (.lst xs))):TyOf K H (.ref a) (.type "list")
 | tup {a:Addr}{xs:List V}(e:H a=some (.tup xs)):TyOf K H (.ref a) (.type "tuple")
 | dK {a:Addr}{kvs:List (Key×V)}(e:H a=some (.dK kvs)):TyOf K H (.ref a) (.type "dict")
 | dT {a:Addr}{kvs:List (List Key×V)}(e:H a=some (.dT kvs)):TyOf K H (.ref a) (.type "dict")
 | ins {a C dx:Addr}{fs:List (Str×V)}(e:H a=some (.ins C dx fs)) (cl:Cls K C) (ha:findIn K (.ref C) "__class__" =some (some (.builtin "object.__class__")))
   (hn:PySem.W.specialIn K (.builtin "object.__class__") "__get__" =some (some (.builtin "getset_descriptor.__get__"))) (htk:PySem.W.takesIn K (.builtin "object.__class__")=some true)
   (hm:mroIn K C (.type "object")=some true):TyOf K H (.ref a) (.ref C)
theorem jNO {x:V}{u t:Value}(I:Inv X ad σ H s)(rx:RelV x u)(ty:TyOf X.K H x t)(e:kitOne X.K t c=some b)(h:∀ tk,Q (.bool b) { s with toks:=tk}):
  wpAny (model X.prog X.w) A (call (.builtin "isinstance") [u,c]) Q E s:=by
 cases ty with
 | non=>cases (show u=Value.none from rx); exact cJ PySem.W.kitx_none I.kIn True.intro e (fun z=>nomatch z) h
 | bl y=>cases (show u=Value.bool y from rx); exact cJ PySem.W.kitx_bool I.kIn True.intro e (fun z=>nomatch z) h
 | int i=>obtain⟨t,q⟩:=(show ∃ t,u=Value.int i t from rx); cases q; exact cJ PySem.W.kitx_int I.kIn True.intro e (fun z=>nomatch z) h
 | str y=>obtain⟨t,q⟩:=(show ∃ t,u=Value.str y t from rx); cases q; exact cJ PySem.W.kitx_str I.kIn True.intro e (fun z=>nomatch z) h
 | flt y=>obtain⟨t,q⟩:=(show ∃ t,u=Value.float y t from rx); cases q; exact cJ PySem.W.kitx_float I.kIn True.intro e (fun z=>nomatch z) h
 | @lst a xs ea=>
  cases (show u=Value.ref a from rx)
  obtain⟨_,_,n,_,h1⟩:=(show ObjOk X.prog X.w H s.heap a (.lst xs) from I.hok a _ ea)
  exact cJ kitx_list I.kIn ⟨_,h1,rfl⟩ e (fun z=>nomatch z) h
 | @frz a ob xs ea=>
  cases (show u=Value.ref a from rx)
  obtain⟨_,_,_,n,_,h1⟩:=(show ObjOk X.prog X.w H s.heap a (.frz ob (.lst xs)) from I.hok a _ ea)
  exact cJ kitx_list I.kIn ⟨_,h1,rfl⟩ e (fun z=>nomatch z) h
 | @tup a xs ea=>
  cases (show u=Value.ref a from rx)
  obtain⟨_,_,_,p⟩:=(show ObjOk X.prog X.w H s.heap a (.tup xs) from I.hok a _ ea)
  obtain⟨o,h1,h2,_⟩:=p.isTup
  exact cJ PySem.W.kitx_tuple I.kIn ⟨o,h1,h2⟩ e (fun z=>nomatch z) h
 | @dK a kvs ea=>
  cases (show u=Value.ref a from rx)
  obtain⟨_,_,vs,_,p⟩:=(show ObjOk X.prog X.w H s.heap a (.dK kvs) from I.hok a _ ea)
  obtain⟨o,es,ep,h1,h2,_⟩:=p
  exact cJ kitx_dict I.kIn ⟨o,h1,h2.1⟩ e (fun z=>nomatch z) h
 | @dT a kvs ea=>
  cases (show u=Value.ref a from rx)
  obtain⟨_,_,xs,_,o,es,ep,h1,h2,_⟩:=(show ObjOk X.prog X.w H s.heap a (.dT kvs) from I.hok a _ ea)
  exact cJ kitx_dict I.kIn ⟨o,h1,h2.1⟩ e (fun z=>nomatch z) h
 | @ins a C dx fs ea cl ha hn htk hm=>
  cases (show u=Value.ref a from rx)
  obtain⟨mA,O,_⟩:=jTK I.hok ea
  obtain⟨od,J,_⟩:=O.look
  exact cJ (PySem.W.kitx_own (cl.get _) cl.hd ha hn htk hm) I.kIn J e (fun z=>nomatch z) h
end
structure Room (k:Nat)(A:Around):Prop where
 hd:A.handled=none
 dp:A.depth+3*k+5<recursionLimit
 un:A.units+16*k+200<cLine
theorem Room.mono {j k:Nat}{A:Around}(r:Room k A)(h:j<=k):Room j A:=⟨r.hd,by have:=r.dp; lia,by have:=r.un; lia⟩
theorem Room.deeper {k:Nat}{A:Around}(r:Room (k+1) A)(env:Env):Room k (A.deeper env):=
 ⟨r.hd,by have:=r.dp; show A.depth+1+3*k+5<_; lia,by have:=r.un; show A.units+3+16*k+200<_; lia⟩
theorem Room.depth {k:Nat}{A:Around}(r:Room k A):A.depth<recursionLimit:=by have:=r.dp; lia
theorem Room.units {k:Nat}{A:Around}(r:Room k A):A.units+64<cLine:=by have:=r.un; lia
theorem Room.units0 {k:Nat}{A:Around}(r:Room k A):A.units<cLine:=by have:=r.un; lia
def tNil:TA:=fun _ H Q=>Q [] H
def tCons (ta:TE)(tr:TA):TA:=fun σ H Q=>ta σ H fun x H1=>tr σ H1 fun xs H2=>Q (x::xs) H2
variable {es:List Expr}{t:TA}
theorem yF:PA X [] tNil:=fun _ _ _ _ H Q I h=>Calls.spliced_nil ⟨[],H,I, .nil,h⟩
theorem jZ (ha:PE X e te)(hr:PA X es t)(hs:starEach (e::es) X.env=(false,eval e X.env)::starEach es X.env:=by rfl):PA X (e::es) (tCons te t):=by
 intro pos ad s σ H Q I h
 rw[hs]
 show wpAny _ _ (spliced ((false,eval e X.env)::backTo pos (starEach es X.env))) _ _ s
 refine iC (lI (ha ad s σ H _ I h) fun u s1 ⟨x,H1,I1,r1,q1⟩=>?_)
 exact lI (hr pos ad s1 σ H1 _ I1 q1) fun us s2 ⟨xs,H2,I2,r2,q2⟩=>⟨x::xs,H2,I2, .cons r1 r2,q2⟩
def tTup (t:TA):TE:=fun σ H Q=>t σ H fun xs H1=>xs.length<=sizeLine/\∀ p,H1 p=none->Q (.ref p) (upd H1 p (.tup xs))
def tLst (t:TA):TE:=fun σ H Q=>t σ H fun xs H1=>xs.length<=sizeLine/\∀ p,H1 p=none->Q (.ref p) (upd H1 p (.lst xs))
theorem jV3 {x1}(h:PA X es t):PE X (.Tuple es x1 pos) (tTup t):=by
 intro ad s σ H Q I hq
 refine wpAny_Tuple_spliced (lI (h pos ad s σ H _ I hq) fun us s1 ⟨xs,H1,I1,r,z,q⟩=>⟨by rw[<- r.length]; exact z,?_⟩)
 have hf:H1 s1.heap.objs.size=none:=I1.hok.fresh (ar _)
 refine⟨.ref s1.heap.objs.size,upd H1 s1.heap.objs.size (.tup xs),I1.laid (t':=s1.toks) (fun b u e=>ag _ e) (ar _) ?_,rfl,q _ hf⟩
 exact⟨z,us,r,TupO.new _ _⟩
theorem jJ3 (h:PA X es t):PE X (.List es pos) (tLst t):=by
 intro ad s σ H Q I hq
 refine wpAny_List_spliced (lI (h pos ad s σ H _ I hq) fun us s1 ⟨xs,H1,I1,r,z,q⟩=>⟨by rw[<- r.length]; exact z,?_⟩)
 have hf:H1 s1.heap.objs.size=none:=I1.hok.fresh (ar _)
 refine⟨.ref s1.heap.objs.size,upd H1 s1.heap.objs.size (.lst xs),I1.laid (t':=s1.toks) (fun b u e=>ag _ e) (ar _) ?_,rfl,q _ hf⟩
 exact⟨z,us,0,r,aB _ rfl⟩
abbrev Sp:=List V->Hp->VK->XK->Prop
abbrev CXT:=List Env->Hp->Shared->XK->Value->Shared->Prop
structure Env0 (P:Program)(w:World)(K:W.Frag)(mg:Str->Option Value)(base:Heap)(A:Around)(outer:List Env)(s:Shared)(H:Hp):Prop where
 frames:A.frames=some outer
 mod:Mod K mg base
 bs:∀ b o,base.get? b=some o->s.heap.get? b=some o/\H b=none
 bsz:base.objs.size<=s.heap.objs.size
 funs:s.heap.FunFrames base outer
 frf:∀ b∈frs outer,H b=none
 hok:HOk P w H s.heap
 bare:AllBare s.gens
def CE (outer:List Env)(P:Program)(w:World)(H:Hp)(s:Shared)(Q:VK)(u:Value)(s':Shared):Prop:=
 ∃ v H',s'.os=s.os/\AllBare s'.gens/\Un (frs outer) [] H H' s.heap s'.heap/\HOk P w H' s'.heap/\RelV v u/\Q v H'
def CR (CX:CXT)(outer:List Env)(P:Program)(w:World)(H:Hp)(s:Shared)(Q:VK)(E:XK)(r:Result)(s':Shared):Prop:=
 match r with
 | .ok (.ret u)=>CE outer P w H s Q u s'
 | .ok _=>False
 | .error e=>CX outer H s E e s'
structure FnOk (P:Program)(w:World)(K:W.Frag)(mg:Str->Option Value)(base:Heap)(CX:CXT)(k:Nat)(f:Addr)(fd:FuncData)(ps:List Str)(sp:Sp):Prop where
 len:∀ vs H Q E,sp vs H Q E->vs.length=ps.length
 run:∀ (A:Around) (outer:List Env) (s:Shared) (H:Hp) (args:Args) (us:List Value) (vs:List V) (Q:VK) (E:XK),Room k A->Env0 P w K mg base A outer s H->BindsTo s fd args (ps.zip us)->Vals vs us->sp vs H Q E->
  codeAny (model P w) A (.call (.ref f) args) (CR CX outer P w H s Q E) s
section
variable {σ:St}{s':Shared}
theorem Inv.env0 (I:Inv X ad σ H s):Env0 X.prog X.w X.K X.mg X.base X.A X.stack s H:=
 ⟨I.ok.frames,I.ok.mod,I.bs,bM I.ok.bsz I.sz,I.stack,I.stkFree,I.hok,I.bare⟩
theorem Inv.after {Q:VK}{u:Value}(I:Inv X ad σ H s)(h:CE X.stack X.prog X.w H s Q u s'):EP X ad σ Q u s':=by
 obtain⟨v,H',os,bare,un,hok,r,q⟩:=h
 obtain⟨hh,g,d,t,os'⟩:=s'
 obtain rfl:os'=s.os:=os
 exact⟨v,H',I.call (h':=hh) (g':=g) (d':=d) (t':=t) (ch:=[]) un hok bare (fun b z=>absurd z (by simp)),r,q⟩
end
def tCall (sp:Sp)(dvs:List V)(E:XK)(t:TA):TE:=fun σ H Q=>t σ H fun vs H1=>sp (vs++dvs) H1 Q E
def Binds (K:W.Frag)(fd:FuncData)(ps:List Str)(ds:List Value):Prop:=
 ∀ (s:Shared) (us:List Value),K.In s.heap->(us++ds).length=ps.length->BindsTo s fd ⟨us,[]⟩ (ps.zip (us++ds))
theorem Binds.all {K:W.Frag}{fd:FuncData}{ps:List Str}(h:∀ us:List Value,us.length=ps.length->bindArgs fd ⟨us,[]⟩=pure (ps.zip us)):Binds K fd ps []:=fun s us _ hl=>by
 rw[bq] at hl ⊢
 exact .of_eq (h us hl)
def jOZ (CX:CXT)(X:Cx)(E:XK):Prop:=∀ (ad:List (Addr×Obj)) (σ:St) (H:Hp) (s:Shared) (e:Value) (s':Shared),Inv X ad σ H s->CX X.stack H s E e s'->X.xe e s'
variable {CX:CXT}{fd:FuncData}{ps:List Str}{sp:Sp}{m:Str}{p apos:Pos}
section
variable {k:Nat}{dvs:List V}{ds:List Value}{E:XK}{x:Str}
theorem jUP {ad:List (Addr×Obj)}{σ:St}{H:Hp}{s:Shared}{Q:VK}{us:List Value}{vs:List V}(F:FnOk X.prog X.w X.K X.mg X.base CX k f fd ps sp)(hr:Room k X.A)(hb:Binds X.K fd ps ds)(hd:Vals dvs ds)(hx:jOZ CX X E)
  (I:Inv X ad σ H s) (r:Vals vs us) (h:sp (vs++dvs) H Q E):wpAny (model X.prog X.w) X.A (call (.ref f) us) (EP X ad σ Q) X.xe s:=by
 have r2:Vals (vs++dvs) (us++ds):=r.append hd
 have hl:(us++ds).length=ps.length:=by rw[<- r2.length]; exact F.len _ _ _ _ h
 refine jl (eZ (F.run X.A X.stack s H ⟨us,[]⟩ (us++ds) (vs++dvs) Q E hr I.env0 (hb s us I.kIn hl) r2 h) fun r s' hq=>?_)
 cases r with
 | error e=>exact hx ad σ H s e s' I hq
 | ok fl=>
  cases fl with
  | ret u=>exact I.after hq
  | next=>exact False.elim hq
  | brk=>exact False.elim hq
  | cont=>exact False.elim hq
theorem jSR (F:FnOk X.prog X.w X.K X.mg X.base CX k f fd ps sp)(hr:Room k X.A)(hg:Gl X x)(hm:X.mg x=some (.ref f))(hk:keepIn X.K (.ref f)=true)(hb:Binds X.K fd ps ds)(hd:Vals dvs ds)(hx:jOZ CX X E)
  (ha:PA X (e::es) t) (hdb:(x==("__debug__" :Str))=false:=by decide) (he:starEach (e::es) X.env=(false,eval e X.env)::starEach es X.env:=by rfl) (hpl:(backTo pos (starEach es X.env)).any (·.1)=false:=by rfl):
  PE X (.Call (.Name x p) (e::es) [] pos) (tCall sp dvs E t):=by
 intro ad s σ H Q I h
 refine dX (jI1 I hg hm ?_ hdb)
 refine lu (h₀:=X.base) I.ok.mod.kin hk (lI (ha pos ad s σ H _ I h) fun us s1 ⟨vs,H1,I1,r,q⟩=>⟨I1.kIn,?_⟩) he hpl
 exact jUP F hr hb hd hx I1 r q
end
def PK (X:Cx)(kws:List Keyword)(t:TA):Prop:=
 ∀ (pos:Pos) (ad:List (Addr×Obj)) (s:Shared) (σ:St) (H:Hp) (Q:List V->Hp->Prop),Inv X ad σ H s->t σ H Q->wpAny (model X.prog X.w) X.A (evalAll ((backToKw pos (keywordEach kws X.env)).map (·.2))) (AP X ad σ Q) X.xe s
section
variable {k:Nat}{ks:List Str}{E:XK}{x:Str}{kpos:Pos}{kws:List Keyword}{tk:TA}{nm:Option Str}
theorem jUZ:PK X [] tNil:=fun _ _ _ _ H Q I h=>wpAny_evalAll_nil ⟨[],H,I, .nil,h⟩
theorem jSH (ha:PE X e te)(hr:PK X kws t):PK X (⟨nm,e,kpos⟩::kws) (tCons te t):=by
 intro pos ad s σ H Q I h
 show wpAny _ _ (evalAll ((do let v <- eval e X.env; standAt pos; pure v)::(backToKw pos (keywordEach kws X.env)).map (·.2))) _ _ s
 refine wpAny_evalAll_cons (aa (lI (ha ad s σ H _ I h) fun u s1 ⟨x,H1,I1,r1,q1⟩=>aa (fj (ao ?_))))
 exact lI (hr pos ad s1 σ H1 _ I1 q1) fun us s2 ⟨xs,H2,I2,r2,q2⟩=>⟨x::xs,H2,I2, .cons r1 r2,q2⟩
variable {g:List Value->List Value->List Value}{gV:List V->List V->List V}
end
structure FnScope (N P:List Str)(sc:Scope):Prop where
 kind:sc.kind= .function:=by rfl
 co:sc.isCoroutine=false:=by rfl
 gen:sc.isGenerator=false:=by rfl
 nd:N.Nodup:=by decide+kernel
 pre:N.take P.length=P:=by rfl
 par:∀ x∈P,sc.names.lookup x=some .local\/sc.names.lookup x=some .cell:=by decide+kernel
 nofree:∀ y∈sc.names,y.2≠ .free:=by decide+kernel
theorem jHB {kindOf:Str->Option NameKind}{x:Str} :∀ {binds:List (Str×Value)}{m:Str->Option Value},(∀ v,(x,v)∉binds)->bindL kindOf binds m x=m x
 | [],_,_=>rfl
 | (n,v)::r,m,h=>by
  unfold bindL
  rw[jHB fun w hw=>h w (aj _ hw)]
  split
  ·have:x≠n:=by rintro rfl; exact h v am
   simp [this]
  ·rfl
theorem jHD {kindOf:Str->Option NameKind}{x:Str} :∀ {binds:List (Str×Value)}{m:Str->Option Value},(∀ v,(x,v)∉binds)->bindC kindOf binds m x=m x
 | [],_,_=>rfl
 | (n,v)::r,m,h=>by
  unfold bindC
  rw[jHD fun w hw=>h w (aj _ hw)]
  split
  ·rfl
  ·have:x≠n:=by rintro rfl; exact h v am
   simp [this]
theorem jHC {kindOf:Str->Option NameKind}{x:Str}{v:Value} :∀ {P:List Str}{vs:List Value}{i:Nat}{m:Str->Option Value},P.Nodup->P[i]?=some x->vs[i]?=some v->kindOf x=some .local->
  bindL kindOf (P.zip vs) m x=some v
 | [],_,_,_,_,h,_,_=>by simp at h
 | _::_,[],_,_,_,_,h,_=>by simp at h
 | p::P,w::vs,0,m,nd,h1,h2,hk=>by
  simp at h1 h2; subst h1; subst h2
  show bindL kindOf ((p,w)::P.zip vs) m p=_
  unfold bindL
  rw[jHB fun v hv=>(bF.mp nd).1 (eE hv).1,ah hk]
  simp
 | p::P,w::vs,i+1,m,nd,h1,h2,hk=>by
  show bindL kindOf ((p,w)::P.zip vs) m x=_
  unfold bindL
  exact jHC (i:=i) (bF.mp nd).2 (by simpa using h1) (by simpa using h2) hk
theorem jHE {kindOf:Str->Option NameKind}{x:Str}{v:Value} :∀ {P:List Str}{vs:List Value}{i:Nat}{m:Str->Option Value},P.Nodup->P[i]?=some x->vs[i]?=some v->kindOf x≠some .local->
  bindC kindOf (P.zip vs) m x=some v
 | [],_,_,_,_,h,_,_=>by simp at h
 | _::_,[],_,_,_,_,h,_=>by simp at h
 | p::P,w::vs,0,m,nd,h1,h2,hk=>by
  simp at h1 h2; subst h1; subst h2
  show bindC kindOf ((p,w)::P.zip vs) m p=_
  unfold bindC
  rw[jHD fun v hv=>(bF.mp nd).1 (eE hv).1,ae hk]
  simp
 | p::P,w::vs,i+1,m,nd,h1,h2,hk=>by
  show bindC kindOf ((p,w)::P.zip vs) m x=_
  unfold bindC
  exact jHE (i:=i) (bF.mp nd).2 (by simpa using h1) (by simpa using h2) hk
def kZ (N:List Str)(vs:List V):St:=vs.map some++replicate (N.length - vs.length) none
def cxOf (CX:CXT)(P:Program)(w:World)(K:W.Frag)(mg:Str->Option Value)(base:Heap)(N:List Str)(qual:Str)(scope:Scope)(f:Addr)(cd:Value)(A:Around)(outer:List Env)(s:Shared)(H:Hp)(E:XK):Cx where
 prog:=P
 w:=w
 K:=K
 mg:=mg
 base:=base
 A:=A.deeper (envOfC qual scope s.heap.objs.size f cd)
 N:=N
 s₀:=s
 H₀:=H
 env:=envOfC qual scope s.heap.objs.size f cd
 outer:=outer
 stack:=envOfC qual scope s.heap.objs.size f cd::outer
 ex:=[]
 calm:=true
 fn:=fun _=>true
 pn:=[]
 xe:=fun e s'=>wpAny (model P w) (A.deeper (envOfC qual scope s.heap.objs.size f cd)) (leaving (envOfC qual scope s.heap.objs.size f cd) e) (fun _ s''=>CX outer H s E e s'') (fun e' s''=>CX outer H s E e' s'') s'
theorem jJX {sc:Scope}{n:Nat}{x:Str}(h:sc.names.lookup x=some .cell):∃ c,(cellsFrom n sc.names []).lookup x=some c:=by
 have q:=gu sc.names n [] (.inl h)
 exact Option.isSome_iff_exists.mp q
theorem jGS {CX:CXT}{P:Program}{w:World}{K:W.Frag}{mg:Str->Option Value}{base:Heap}{N ps:List Str}{qual:Str}{scope:Scope}{f:Addr}{cd:Value}{A:Around}{outer:List Env}{s s1:Shared}{H:Hp}{E:XK}{us:List Value}{vs:List V}
  (S:FnScope N ps scope) (hd:A.handled=none) (e0:Env0 P w K mg base A outer s H) (hl:vs.length=ps.length) (r:Vals vs us)
  (x:InCallC s s.heap.objs.size (bindL (envOfC qual scope s.heap.objs.size f cd).kindOf (ps.zip us) fun _=>none) (cellsFrom (s.heap.objs.size+1) scope.names []) (bindC (envOfC qual scope s.heap.objs.size f cd).kindOf (ps.zip us) fun _=>none) s1):
  Inv (cxOf CX P w K mg base N qual scope f cd A outer s H E) [] (kZ N vs) H s1:=by
 have hpl:ps.length<=N.length:=by have:=bX List.length S.pre; rw[bE] at this; lia
 obtain⟨h1,tk,rfl,hk⟩:=x.done
 have noA:∀ b:Addr,b∉(cxOf CX P w K mg base N qual scope f cd A outer s H E).ex:=fun b z=>absurd (show b∈([]:List Addr) from z) (by simp)
 refine⟨⟨e0.mod,S.kind,rfl,rfl,ar _,fun y z c h1 h2=>?_,fun y hy=>?_,fun y c _ h=>?_,fun _=>hd,Around.frames_deeper e0.frames, .inr ⟨rfl,rfl⟩,fun b z=>absurd z (noA b),e0.bs,e0.bsz,fun b _ _=>noA b,fun b z=>absurd z (noA b),e0.funs,e0.frf⟩,
  rfl,e0.bare,Un.kept hk,⟨_,x.toInCall.ns,fun i y v h1 h2 h3=>?_⟩,fun y c h=>⟨_,x.cell y c h⟩,e0.hok.fresh (ar _),fun y c h=>?_,fun p hp=>absurd (show p∈([]:List (Addr×Obj)) from hp) (by simp),e0.hok.kept hk,?_⟩
 ·exact name_of_addr x.apart (cP h1) (cP h2)
 ·have hy:scope.names.lookup y=some .cell\/scope.names.lookup y=some .free:=hy
  rcases hy with hy | hy
  ·exact jJX hy
  ·exact absurd rfl (S.nofree _ (cP hy))
 ·exact dh (x.above y c (cP h))
 ·have hi:i<vs.length:=by
   unfold kZ at h2
   by_cases hi:i<vs.length
   ·exact hi
   ·rw[bv (by simpa using hi)] at h2
    rw[gj] at h2
    split at h2 <;> cases h2
  have ha:vs[i]?=some v:=by
   unfold kZ at h2
   rw[cf (by simpa using hi),aA] at h2
   cases e:vs[i]? with
   | none=>rw[e] at h2; cases h2
   | some a=>rw[e] at h2; cases h2; rfl
  obtain⟨u,hu,rv⟩:=r.get ha
  have hp:ps[i]?=some y:=by
   rw[<- S.pre,cy (by lia)]; exact h1
  have ndP:ps.Nodup:=by rw[<- S.pre]; exact S.nd.sublist (dH _ _)
  refine⟨u,rv,?_⟩
  rcases S.par y (aH hp) with k | k
  ·exact .inl ⟨k,jHC ndP hp hu k⟩
  ·obtain⟨c,e⟩:=jJX (n:=s.heap.objs.size+1) k
   refine .inr ⟨.inl k,c,e,?_⟩
   have q:=x.cell y c e
   rw[jHE ndP hp hu (by show scope.names.lookup y≠_; rw[k]; decide)] at q
   exact q
 ·exact e0.hok.fresh (dh (x.above y c (cP h)))
 ·unfold kZ
  show _=N.length
  rw[aC,ab,gN]
  lia
theorem fn_of {CX:CXT}{P:Program}{w:World}{K:W.Frag}{mg:Str->Option Value}{base:Heap}{k:Nat}{f:Addr}{name qual:Str}{params:Arguments}{body:List Stmt}{scope:Scope}{dV kV doc pm cdv ct oc:Value}{an od:Option Addr}
  {osl:Array (Option Value)}{N ps:List Str}{sp:Sp}(lk:K.lookup f=some ⟨oc,od, .func (PySem.W.fnOf name qual params body scope dV kV doc pm an cdv ct),osl⟩) (hcd:PySem.W.codeIn K cdv qual=true) (S:FnScope N ps scope)
  (len:∀ vs H Q E,sp vs H Q E->vs.length=ps.length)
  (hbody:∀ (A:Around) (outer:List Env) (s:Shared) (H:Hp) (vs:List V) (Q:VK) (E:XK),Room k (A.deeper (envOfC qual scope s.heap.objs.size f cdv))->sp vs H Q E->
   ∃ t,PSs (cxOf CX P w K mg base N qual scope f cdv A outer s H E) body t/\t { nx:=fun _ H'=>Q .non H',rt:=Q} (kZ N vs) H):
  FnOk P w K mg base CX (k+1) f (PySem.W.fnOf name qual params body scope dV kV doc pm an cdv ct) ps sp:=by
 refine⟨len,fun A outer s H args us vs Q E hr e0 hb r hsp=>?_⟩
 have hl:=len _ _ _ _ hsp
 have KX:K.In s.heap:=e0.mod.kin.keeps fun b o e=>(e0.bs b o e).1
 have lim:s.heap.NoLimit:=e0.mod.nolimit.keeps fun b o e=>(e0.bs b o e).1
 have hkind:∀ y∈ps.zip us,scope.names.lookup y.1=some .local\/(scope.names.lookup y.1=some .cell/\((cellsFrom (s.heap.objs.size+1) scope.names []).lookup y.1).isSome=true):=fun ⟨n,v⟩ hy=>by
  rcases S.par n (eE hy).1 with q | q
  ·exact .inl q
  ·exact .inr ⟨q,gu _ _ _ (.inl q)⟩
 refine codeAny_call_function hr.depth (KX _ _ lk) rfl S.co S.gen rfl (lv KX hcd) (hb _ _ _ _ ?_)
 refine iE S.kind hkind fun env he s1 x=>?_
 subst he
 refine⟨lim.keeps x.toInCall.keep,codeAny_func ?_⟩
 obtain⟨t,ht,hq⟩:=hbody A outer s H vs Q E (hr.deeper _) hsp
 have I:Inv (cxOf CX P w K mg base N qual scope f cdv A outer s H E) [] (kZ N vs) H s1:=jGS S hr.hd e0 hl r x
 refine cA (ht [] s1 (kZ N vs) H _ I hq) (fun fl s' hs=>?_) fun e s' hs=>hs
 have fin:∀ {σ':St}{H':Hp}{v:V}{u:Value},Inv (cxOf CX P w K mg base N qual scope f cdv A outer s H E) [] σ' H' s'->RelV v u->Q v H'->CE outer P w H s Q u s':=
  fun {σ' H' v u} J rv q=>⟨v,H',J.os,J.bare,J.base,J.hok,rv,q⟩
 cases fl with
 | ret u=>
  obtain⟨v,σ',H',J,rv,q⟩:=hs
  exact fin J rv q
 | next=>
  obtain⟨σ',H',J,q⟩:=hs
  exact fin (v:=V.non) (u:=Value.none) J rfl q
 | brk=>
  obtain⟨_,_,_,q⟩:=hs
  exact False.elim q
 | cont=>
  obtain⟨_,_,_,q⟩:=hs
  exact False.elim q
section
variable {x:Str}{id T:String}{r:List V->Hp->VK->Prop}
def tCB (r:List V->Hp->VK->Prop)(t:TA):TE:=fun σ H Q=>t σ H fun vs H1=>r vs H1 Q
theorem jFA (hc:qC X (.builtin id) r)(hg:Gl X x)(hm:X.mg x=none)(hv:bootBuiltins x=some (.builtin id))(ha:PA X (e::es) t)(hn:x≠ "__name__" :=by decide)(hdb:(x==("__debug__" :Str))=false:=by decide)
  (he:starEach (e::es) X.env=(false,eval e X.env)::starEach es X.env:=by rfl) (hpl:(backTo pos (starEach es X.env)).any (·.1)=false:=by rfl):PE X (.Call (.Name x p) (e::es) [] pos) (tCB r t):=by
 intro ad s σ H Q I h
 refine dX (jD1 I hg hm hv ?_ hn hdb)
 exact PyProof.Rows.callWith_builtin1 (lI (ha pos ad s σ H _ I h) fun us s1 ⟨vs,H1,I1,r1,q1⟩=>hc ad s1 σ H1 vs us Q I1 r1 q1) he hpl
theorem jBX (hc:qC X (.type T) r)(hg:Gl X x)(hm:X.mg x=none)(hv:bootBuiltins x=some (.type T))(ha:PA X (e::es) t)(hn:x≠ "__name__" :=by decide)(hdb:(x==("__debug__" :Str))=false:=by decide)
  (he:starEach (e::es) X.env=(false,eval e X.env)::starEach es X.env:=by rfl) (hpl:(backTo pos (starEach es X.env)).any (·.1)=false:=by rfl):PE X (.Call (.Name x p) (e::es) [] pos) (tCB r t):=by
 intro ad s σ H Q I h
 refine dX (jD1 I hg hm hv ?_ hn hdb)
 exact de (lI (ha pos ad s σ H _ I h) fun us s1 ⟨vs,H1,I1,r1,q1⟩=>hc ad s1 σ H1 vs us Q I1 r1 q1) he hpl
end
end L2
namespace HT
open PySem PyProof.Rows
noncomputable def lexLt:List Int->List Int->Bool
 | [],[]=>false
 | [],_::_=>true
 | _::_,[]=>false
 | x::xs,y::ys=>if x=y then lexLt xs ys else decide (x<y)
theorem lexLt_cons (x y:Int)(xs ys:List Int):lexLt (x::xs) (y::ys)=if x=y then lexLt xs ys else decide (x<y):=rfl
theorem jFH:lexLt [] []=false:=rfl
theorem jE4 (y:Int)(ys:List Int):lexLt [] (y::ys)=true:=rfl
theorem jE5 (x:Int)(xs:List Int):lexLt (x::xs) []=false:=rfl
theorem jQH (A:Around)(s:Shared)(a:Int)(t:Tok)(c:Int)(u:Tok):∃ e,SeqAt.EqAt A s (.int a t) (.int c u) e/\(e=true↔a=c):=
 ⟨(a==c),iF a t c u,by simp⟩
theorem rcLt_int (A:Around)(s:Shared)(a:Int)(t:Tok)(c:Int)(u:Tok)(prog:Program)(w:World)(E:Value->Shared->Prop)(Q:Value->Shared->Prop)(h:Q (.bool (decide (a<c))) s):
  wpAny (model prog w) A (richCompare .Lt (.int a t) (.int c u)) Q E s:=
 (PyProof.Rows.lt_int h:wpAny (model prog w) A (compareOp .Lt (.int a t) (.int c u)) Q E s)
section
open PySem.SeqAt
open PySem.AutoSeq1 (wpAny_loadPart')
open PySem.MeetsSeq PySem.MeetsSeq2 PySem.MeetsSeq3
theorem tuple_lt_ints (l b:Addr)(items items2:Array Value)(n n2:Nat)(dd dd2:Option Addr)(sl sl2:Array (Option Value))(ns ms:List Int)(hi:IntsAre items.toList ns)(hj:IntsAre items2.toList ms):
  Meets (Builtin.«tuple.__lt__» ⟨[.ref l, .ref b],[]⟩)
   (fun _ R s=>s.heap.get? l=some { cls:= .type "tuple",dict:=dd,data:= .seq items n,slots:=sl} /\s.heap.get? b=some { cls:= .type "tuple",dict:=dd2,data:= .seq items2 n2,slots:=sl2} /\
    R (.ok (.ret (.bool (lexLt ns ms)))) s):=
 .of_wp fun prog w A R s h=>by
  obtain⟨hp,g,d,tk,os⟩:=s; obtain⟨hl,hb,h⟩:=h
  have f2:=AutoSeq1.sub_tuple_tuple
  have z1:items.size=ns.length:=by rw[<- hi.length]; simp
  have z2:items2.size=ms.length:=by rw[<- hj.length]; simp
  wp_walk using cK hl,cK hb,wpAny_forIn_list _ (fun rest b s'=>b.1=none/\s'=⟨hp,g,d,tk,os⟩/\∃ (vs ws:List Value) (ns' ms':List Int),rest=vs.zip ws/\
   IntsAre vs ns'/\IntsAre ws ms'/\ns'.length+items2.size=ms'.length+items.size/\R (.ok (.ret (.bool (lexLt ns' ms')))) ⟨hp,g,d,tk,os⟩) _
  case turn=>
   rintro ⟨y,x⟩ rest b s' ⟨hb',rfl,vs,ws,ns',ms',hz,hvi,hwi,hlen,hR⟩
   cases hvi with
   | nil=>rw[List.zip_nil_left] at hz; cases hz
   | cons a t hvi'=>
    cases hwi with
    | nil=>rw[List.zip_nil_right] at hz; cases hz
    | cons c u hwi'=>
     rw[fb] at hz
     injection hz with hyx hrest
     injection hyx with hy hx
     subst hy hx
     rw[lexLt_cons] at hR
     simp only [aU] at hlen
     obtain⟨e,he,hiff⟩:=jQH A.in1 ⟨hp,g,d,tk,os⟩ a t c u
     refine aa (he prog w _ _ ?_)
     cases e with
     | true=>
      rw[ah (hiff.mp rfl)] at hR
      wp_walk
      exact⟨rfl,rfl,_,_,_,_,hrest,hvi',hwi',by lia,hR⟩
     | false=>
      rw[ae (fun q=>absurd (hiff.mpr q) aq)] at hR
      have hri:=rcLt_int A.in1 ⟨hp,g,d,tk,os⟩ a t c u prog w
      wp_walk using hri
      exact⟨_,rfl,by simpa using hR⟩
  case fin=>
   rintro ⟨b1,b2⟩ s' ⟨hb',rfl,vs,ws,ns',ms',hz,hvi,hwi,hlen,hR⟩
   simp only at hb'
   subst hb'
   have hv:lexLt ns' ms'=decide (items.size<items2.size):=by
    cases hvi with
    | nil=>
     cases hwi with
     | nil=>
      simp only [dq] at hlen
      rw[jFH]
      exact(aM (by lia)).symm
     | cons c u hw=>
      simp only [dq,aU] at hlen
      rw[jE4]
      exact(ay (by lia)).symm
    | cons a t hv=>
     cases hwi with
     | nil=>
      simp only [dq,aU] at hlen
      rw[jE5]
      exact(aM (by lia)).symm
     | cons c u hw=>
      rw[fb] at hz
      cases hz
   rw[hv] at hR
   wp_walk
   exact⟨_,rfl,by simpa [Builtin.Tuple.tupleCompareSizes] using hR⟩
  case h=>
   exact⟨rfl,rfl,items.toList,items2.toList,ns,ms,rfl,hi,hj,by lia,h⟩
end
section
variable {prog:Program}{w:World}{A:Around}{E:Value->Shared->Prop}{s:Shared}
theorem lt_tupInts {l b:Addr}{items items2:Array Value}{ns ms:List Int}{Q:Value->Shared->Prop}(hl:IsTup s.heap l items)(hb:IsTup s.heap b items2)(hi:IntsAre items.toList ns)(hj:IntsAre items2.toList ms)
  (hu:A.units<cLine) (h:Q (.bool (lexLt ns ms)) s):wpAny (model prog w) A (compareOp .Lt (.ref l) (.ref b)) Q E s:=by
 obtain⟨⟨cls,dd,data,sl⟩,ho,hc,n,hd⟩:=id hl
 obtain⟨⟨cls2,dd2,data2,sl2⟩,ho2,hc2,n2,hd2⟩:=id hb
 simp only at hc hd hc2 hd2
 subst hc hd hc2 hd2
 exact richCompare_meets_room (op:= .Lt) ⟨_,ho,rfl⟩ ⟨_,ho2,rfl⟩ gO jm (i7 _ _) (tuple_lt_ints l b items items2 n n2 dd dd2 sl sl2 ns ms hi hj)
  ⟨ho,ho2,show Value.bool (lexLt ns ms)≠Value.notImplemented/\Q (.bool (lexLt ns ms)) s from ⟨(fun x=>nomatch x),h⟩⟩ hu
theorem cat_tup {t b:Addr}{vs ws:List Value}{Q:Value->Shared->Prop}(ht:IsTup s.heap t vs.toArray)(hb:IsTup s.heap b ws.toArray)(hv:vs≠ [])
  (h1:ws=[]->Q (.ref t) s) (h2:ws≠ []->Q (.ref s.heap.objs.size) { s with heap:=s.heap.push { cls:= .type "tuple",data:= .seq (vs++ws).toArray}})
  (hsz:vs.length+ws.length<=sizeLine):wpAny (model prog w) A (binaryOp .Add (.ref t) (.ref b)) Q E s:=by
 obtain⟨⟨cls,dd,data,sl⟩,ho,hc,n,hd⟩:=id ht
 obtain⟨⟨cls2,dd2,data2,sl2⟩,ho2,hc2,n2,hd2⟩:=id hb
 simp only at hc hd hc2 hd2
 subst hc hd hc2 hd2
 have e:vs.toArray++ws.toArray=(vs++ws).toArray:=by simp
 by_cases hw:ws=[]
 ·exact concat_meets ⟨_,ho,rfl⟩ ⟨_,ho2,rfl⟩ i8 seq_tuple_add gw gm (fV _ _)
   (tuple_addW1 t b vs.toArray ws.toArray n n2 dd dd2 sl sl2 (by simpa using hv) (by simp [hw])) ⟨ho,ho2,h1 hw⟩
 ·refine concat_meets ⟨_,ho,rfl⟩ ⟨_,ho2,rfl⟩ i8 seq_tuple_add gw gm (fV _ _)
   (tuple_addW2 t b vs.toArray ws.toArray n n2 dd dd2 sl sl2 (by simpa using hv) (by simpa using hw) (by rw[aN,aN]; exact hsz)) ⟨ho,ho2,?_⟩
  rw[e]
  exact h2 hw
noncomputable def sIx (n d:Nat):Option Int->Nat
 | none=>d
 | some v=>if v<0 then (v+(n:Int)).toNat else min v.toNat n
end
end HT
namespace L2
open PySem PySem.Spec PyProof.Rows
abbrev TO:=St->Hp->(Option Int->Hp->Prop)->Prop
def PO (X:Cx)(e:Option Expr)(t:TO):Prop:=
 ∀ (ad:List (Addr×Obj)) (s:Shared) (σ:St) (H:Hp) (Q:Option Int->Hp->Prop),Inv X ad σ H s->t σ H Q->
  wpAny (model X.prog X.w) X.A (evalPart e X.env) (fun u s'=>∃ o H',Inv X ad σ H' s'/\IsPart u o/\Q o H') X.xe s
def jLB:TO:=fun _ H Q=>Q none H
def tPart (t:TE):TO:=fun σ H Q=>t σ H fun x H1=>∃ i,x= .int i/\Q (some i) H1
theorem jKO {ns:List Int} :∀ {us:List Value},Vals (ns.map V.int) us->IntsAre us ns:=by
 induction ns with
 | nil=>intro us r; rw[fD] at r; cases r; exact .nil
 | cons n ns ih=>
  intro us r
  rw[aY] at r
  cases r with
  | cons r1 r2=>
   obtain⟨t,e⟩:=r1
   subst e
   exact .cons n t (ih r2)
variable {X:Cx}{e:Expr}{pos:Pos}
section
variable {te:TE}{lo hi:Option Expr}{tl th:TO}{p2:Pos}
theorem jSG:PO X none jLB:=by
 intro ad s σ H Q I h
 rw[evalPart_none]
 exact ao ⟨none,H,I, .none,h⟩
theorem jSF (h:PE X e te):PO X (some e) (tPart te):=by
 intro ad s σ H Q I hw
 rw[evalPart_some]
 refine lI (h ad s σ H _ I hw) fun u s1 ⟨x,H1,I1,r1,q1⟩=>?_
 obtain⟨i,rfl,q⟩:=q1
 obtain⟨t,rfl⟩:=r1
 exact⟨some i,H1,I1, .int i t,q⟩
def SlR (X:Cx)(r:V->Option Int->Option Int->Hp->VK->Prop):Prop:=
 ∀ (ad:List (Addr×Obj)) (s:Shared) (σ:St) (H:Hp) (x:V) (v vl vu:Value) (lo hi:Option Int) (sl:Addr) (Q:VK),Inv X ad σ H s->RelV x v->s.heap.IsSliceOf sl vl vu .none->IsPart vl lo->IsPart vu hi->r x lo hi H Q->
  ∃ T id,typeLookup (.type T) "__getitem__" =pure (some (.builtin id))/\s.TypeIs v T/\wpAny (model X.prog X.w) X.A (getItem v (.ref sl)) (EP X ad σ Q) X.xe s
def tSl (r:V->Option Int->Option Int->Hp->VK->Prop)(te:TE)(tl th:TO):TE:=fun σ H Q=>te σ H fun x H1=>tl σ H1 fun l H2=>th σ H2 fun u H3=>r x l u H3 Q
theorem jPH {r:V->Option Int->Option Int->Hp->VK->Prop}(hr:SlR X r)(he:PE X e te)(hl:PO X lo tl)(hu:PO X hi th):PE X (.Subscript e (.Slice lo hi none p2) pos) (tSl r te tl th):=by
 intro ad s σ H Q I h
 refine Subscript_ (lI (he ad s σ H _ I h) fun v s1 ⟨x,H1,I1,r1,q1⟩=>?_)
 refine wpAny_Slice (lI (hl ad s1 σ H1 _ I1 q1) fun vl s2 ⟨l,H2,I2,pl,q2⟩=>lI (hu ad s2 σ H2 _ I2 q2) fun vu s3 ⟨u,H3,I3,pu,q3⟩=>?_)
 rw[evalPart_none]
 refine ao ?_
 have I4:Inv X ad σ H3 { s3 with heap:=s3.heap.push { cls:= .type "slice",data:= .fields #[vl,vu, .none]}} :=I3.kept (t':=s3.toks) fun b ob q=>ag _ q
 obtain⟨T,id,hT,ht,hg⟩:=hr ad { s3 with heap:=s3.heap.push { cls:= .type "slice",data:= .fields #[vl,vu, .none]}} σ H3 x v vl vu l u s3.heap.objs.size Q I4 r1 (Heap.IsSliceOf.new ..) pl pu q3
 show wpAny (model X.prog X.w) X.A (subscriptTail e (.Slice lo hi none p2) v (.ref s3.heap.objs.size)) (EP X ad σ Q) X.xe { s3 with heap:=s3.heap.push { cls:= .type "slice",data:= .fields #[vl,vu, .none]}}
 exact tail_any (ops:=[.ref s3.heap.objs.size,v]) ht hT hg (by with_unfolding_all rfl)
def cutV (xs:List V)(lo hi:Option Int):List V:=(xs.drop (HT.sIx xs.length 0 lo)).take (HT.sIx xs.length xs.length hi - HT.sIx xs.length 0 lo)
theorem jIB (xs:List V)(lo hi:Option Int):(cutV xs lo hi).length<=xs.length:=by
 unfold cutV
 rw[bE,fE]
 lia
def rCatT (K:W.Frag):R2:=fun x y H Q=>∃ a b xs ys,x= .ref a/\y= .ref b/\SqT K H a xs/\SqT K H b ys/\xs≠ []/\xs.length+ys.length<=sizeLine/\
 (ys=[]->Q (.ref a) H)/\(ys≠ []->∀ p,H p=none->Q (.ref p) (upd H p (.tup (xs++ys))))
theorem Vals.nil_iff {xs:List V}{us:List Value}(r:Vals xs us):us=[]↔xs=[]:=by
 cases r with
 | nil=>simp
 | cons _ _=>simp
theorem jSW:OpR X (binaryOp .Add) (rCatT X.K):=by
 intro ad s σ H x y v u Q I rx ry h
 obtain⟨a,b,xs,ys,rfl,rfl,ha,hb,hx,hz,q1,q2⟩:=h
 cases rx
 cases ry
 obtain⟨its,r1,p1,_⟩:=I.tuple ha
 obtain⟨its2,r2,p2,_⟩:=I.tuple hb
 refine HT.cat_tup p1 p2 (fun z=>hx (r1.nil_iff.mp z)) (fun z=>⟨.ref a,H,I,rfl,q1 (r2.nil_iff.mp z)⟩) (fun z=>?_) (by rw[<- r1.length,<- r2.length]; exact hz)
 refine⟨.ref s.heap.objs.size,_,I.laid (t':=s.toks) (o:= .tup (xs++ys)) (fun b ob q=>ag _ q) (ar _) ?_,rfl,q2 (fun w=>z (r2.nil_iff.mpr w)) _ (I.hok.fresh (ar _))⟩
 exact⟨by rw[aC]; exact hz,_,r1.append r2,TupO.new _ _⟩
end
noncomputable def ixN (n:Nat)(i:Int):Option Nat:=if 0<=i then (if i<n then some i.toNat else none) else if -(n:Int)<=i then some (i+n).toNat else none
def atI {α:Type}(xs:List α)(i:Int):Option α:=(ixN xs.length i).bind fun j=>xs[j]?
theorem jNM {n:Nat}{i:Int}{j:Nat}(h:ixN n i=some j):seqIndex? i n=some j/\j<n/\ -(n:Int)<=i/\i<n:=by
 unfold ixN at h
 by_cases h0:0<=i
 ·rw[ah h0] at h
  by_cases h1:i<n
  ·rw[ah h1] at h
   have e:i.toNat=j:=bo h
   exact⟨by rw[seqIndex_of h0 h1,e],by lia,by lia,h1⟩
  ·rw[ae h1] at h; cases h
 ·rw[ae h0] at h
  by_cases h1: -(n:Int)<=i
  ·rw[ah h1] at h
   have e:(i+n).toNat=j:=bo h
   exact⟨by rw[seqIndex_neg (by lia) h1,e],by lia,h1,by lia⟩
  ·rw[ae h1] at h; cases h
theorem jOU {α:Type}{xs:List α}{i:Int}{v:α}(h:atI xs i=some v):∃ j,seqIndex? i xs.length=some j/\xs[j]?=some v/\j<xs.length/\ -(xs.length:Int)<=i/\i<xs.length:=by
 unfold atI at h
 cases e:ixN xs.length i with
 | none=>rw[e] at h; cases h
 | some j=>
  rw[e] at h
  obtain⟨h1,h2,h3,h4⟩:=jNM e
  exact⟨j,h1,h,h2,h3,h4⟩
theorem qB {α:Type}{xs:List α}{j:Nat}{v:α}(h:xs[j]?=some v):atI xs (j:Int)=some v:=by
 have hj:j<xs.length:=(ax.mp h).1
 have e:ixN xs.length (j:Int)=some j:=by
  unfold ixN
  rw[ah (by lia),ah (by lia)]; simp
 unfold atI; rw[e]; exact h
def jAX (b:Expr):Prop:=∀ o i,subscripted b false o i=operate [o,i] (getItem o i)
def IxR (X:Cx)(r:R2):Prop:=
 ∀ (value slice:Expr) (ad:List (Addr×Obj)) (s:Shared) (σ:St) (H:Hp) (x y:V) (v u:Value) (Q:VK),Inv X ad σ H s->RelV x v->RelV y u->r x y H Q->
  subscripted slice false v u=operate [v,u] (getItem v u)->wpAny (model X.prog X.w) X.A (subscriptTail value slice v u) (EP X ad σ Q) X.xe s
def MtR (X:Cx)(id:String)(r:V->List V->Hp->VK->Prop):Prop:=
 ∀ (ad:List (Addr×Obj)) (s:Shared) (σ:St) (H:Hp) (x:V) (xs:List V) (v:Value) (us:List Value) (Q:VK),Inv X ad σ H s->RelV x v->Vals xs us->r x xs H Q->
  wpAny (model X.prog X.w) X.A (call (.builtin id) (v::us)) (EP X ad σ Q) X.xe s
section
variable {a b:Expr}{ta tb:TE}
theorem pe_ix {r:R2}(hr:IxR X r)(ha:PE X a ta)(hb:PE X b tb)(hs:jAX b):PE X (.Subscript a b pos) (tOp r ta tb):=by
 intro ad s σ H Q I h
 exact Subscript_ (binT ha hb I h fun v u s2 x y H2 I2 rx ry q=>hr a b ad s2 σ H2 x y v u Q I2 rx ry q (hs _ _))
def rIxL (K:W.Frag):R2:=fun x y H Q=>∃ p xs i v,x= .ref p/\y= .int i/\SqL K H p xs/\atI xs i=some v/\Q v H
def rIxT (K:W.Frag):R2:=fun x y H Q=>∃ p xs i v,x= .ref p/\y= .int i/\SqT K H p xs/\atI xs i=some v/\Q v H
theorem yZ:IxR X (rIxL X.K):=by
 intro value slice ad s σ H x y v u Q I rx ry h hs
 obtain⟨p,xs,i,z,rfl,rfl,hq,he,q⟩:=h
 cases rx
 obtain⟨t,rfl⟩:=ry
 obtain⟨its,r,pl,hz⟩:=I.list hq
 obtain⟨j,h1,h2,h3,h4,h5⟩:=jOU he
 obtain⟨w,ew,rw'⟩:=r.get h2
 have hl:=r.length
 have hn:=jEJ
 have fin:EP X ad σ Q w s:=⟨z,H,I,rw',q⟩
 by_cases h0:0<=i
 ·have hj:i.toNat=j:=by
   rw[seqIndex_of h0 h5] at h1
   exact bo h1
  exact item_listR pl.isList h0 (by lia) (by rw[hj]; simpa using ew) fin hs
 ·have hj:(i+(its.toArray.size:Int)).toNat=j:=by
   rw[seqIndex_neg (by lia) h4] at h1
   rw[aN,<- hl]
   exact bo h1
  exact subscriptTail_builtinR (x:=w) pl.isList.typeIs slot_list_getitem.lookup
   (wpAny_getItem_list_neg (Q:=fun r s'=>r=w/\EP X ad σ Q r s') pl.isList (by lia) (by rw[aN] <;> lia) (by lia) (by rw[hj]; simpa using ew) ⟨rfl,fin⟩) hs
theorem jV:IxR X (rIxT X.K):=by
 intro value slice ad s σ H x y v u Q I rx ry h hs
 obtain⟨p,xs,i,z,rfl,rfl,hq,he,q⟩:=h
 cases rx
 obtain⟨t,rfl⟩:=ry
 obtain⟨its,r,pl,hz⟩:=I.tuple hq
 obtain⟨j,h1,h2,h3,h4,h5⟩:=jOU he
 obtain⟨w,ew,rw'⟩:=r.get h2
 have hl:=r.length
 have hn:=jEJ
 have fin:EP X ad σ Q w s:=⟨z,H,I,rw',q⟩
 exact subscriptTail_builtinR (x:=w) pl.typeIs slot_tuple_getitem.lookup
  (getItem_tuple (j:=j) (Q:=fun r s'=>r=w/\EP X ad σ Q r s') pl (by lia) (by lia) (by rw[aN,<- hl]; exact h1) (by simpa using ew) ⟨rfl,fin⟩) hs
theorem jKH (its:List Value)(n j:Nat)(u:Value):Obj.mapSeq (·.setIfInBounds j u) { cls:= .type "list",data:= .seq its.toArray n} = { cls:= .type "list",data:= .seq (its.set j u).toArray n} :=by
 simp [Obj.mapSeq]
theorem Inv.lst {ad:List (Addr×Obj)}{σ:St}{H:Hp}{s:Shared}{p:Addr}{xs:List V}(I:Inv X ad σ H s)(h:H p=some (.lst xs)):
  ∃ (its:List Value) (n:Nat),Vals xs its/\s.heap.get? p=some { cls:= .type "list",data:= .seq its.toArray n} /\xs.length<=sizeLine:=by
 obtain⟨z,its,n,r,e⟩:=I.hok p _ h
 exact⟨its,n,r,e,z⟩
theorem Inv.lstUpd {ad:List (Addr×Obj)}{σ:St}{H:Hp}{s:Shared}{p:Addr}{xs ys:List V}{its its':List Value}{n n':Nat}{f:Obj->Obj}(I:Inv X ad σ H s)(h:H p=some (.lst xs))
  (ho:s.heap.get? p=some { cls:= .type "list",data:= .seq its.toArray n}) (hf:f { cls:= .type "list",data:= .seq its.toArray n} = { cls:= .type "list",data:= .seq its'.toArray n'}) (r:Vals ys its') (hz:ys.length<=sizeLine) (t:Nat):
  Inv X ad σ (upd H p (.lst ys)) { s with heap:=s.heap.update p f,toks:=t} :=by
 have e:(s.heap.update p f).get? p=some { cls:= .type "list",data:= .seq its'.toArray n'} :=by
  rw[cV f ho (by rw[hf] <;> rfl),hf]
 refine I.write (x:=p) (e:=p) (by rw[h]; trivial) (.inl rfl) (fun b u hb q=>(bZ _ _ (eG hb)).trans q) ⟨_,e⟩ ?_
 exact⟨hz,its',n',r,e⟩
def rSetL:V->V->V->Hp->(Hp->Prop)->Prop:=fun o i v H Q=>∃ p xs k j,o= .ref p/\i= .int k/\H p=some (.lst xs)/\ixN xs.length k=some j/\Q (upd H p (.lst (xs.set j v)))
theorem jIS:PSet X rSetL:=by
 intro ad s σ H o i v ov iv u Q I ro ri rv h
 obtain⟨p,xs,k,j,rfl,rfl,hp,hj,q⟩:=h
 cases ro
 obtain⟨t,rfl⟩:=ri
 obtain⟨its,n,r,ho,hz⟩:=I.lst hp
 obtain⟨h1,h2,h3,h4⟩:=jNM hj
 have hl:=r.length
 have hn:=jEJ
 have I':Inv X ad σ (upd H p (.lst (xs.set j v))) { s with heap:=s.heap.update p (Obj.mapSeq (·.setIfInBounds j u))} :=
  I.lstUpd hp ho (jKH its n j u) (r.set rv j) (by rw[List.length_set]; exact hz) s.toks
 by_cases h0:0<=k
 ·have hk:k.toNat=j:=by
   rw[seqIndex_of h0 h4] at h1
   exact bo h1
  exact PySem.W.ki_setAt ho h0 (by lia) (by rw[aN,<- hl]; exact h4) (by rw[hk]; exact⟨_,I',q⟩)
 ·have hk:(k+(its.toArray.size:Int)).toNat=j:=by
   rw[seqIndex_neg (by lia) h3] at h1
   rw[aN,<- hl]
   exact bo h1
  exact PySem.W.ki_setBack ho (by lia) (by rw[aN,<- hl]; exact h3) (by lia) (by rw[hk]; exact⟨_,I',q⟩)
theorem jGA (lo hi:Option Int)(n:Nat):(sliceBounds lo hi none n).1=((HT.sIx n 0 lo:Nat):Int)/\(sliceBounds lo hi none n).2.1=((HT.sIx n n hi:Nat):Int)/\(sliceBounds lo hi none n).2.2=1:=by
 refine⟨?_,?_,rfl⟩
 ·cases lo with
  | none=>simp [sliceBounds,HT.sIx]
  | some i=>
   simp only [sliceBounds,HT.sIx,getD_none,show (1:Int)>0 by decide,gW]
   by_cases h:i<0
   ·simp only [h,gW] <;> lia
   ·simp only [h,lH] <;> lia
 ·cases hi with
  | none=>simp [sliceBounds,HT.sIx]
  | some i=>
   simp only [sliceBounds,HT.sIx,getD_none,show (1:Int)>0 by decide,gW]
   by_cases h:i<0
   ·simp only [h,gW] <;> lia
   ·simp only [h,lH] <;> lia
theorem jF4 (its:List Value)(lo hi:Option Int):slicePick its.toArray lo hi none=((its.drop (HT.sIx its.length 0 lo)).take (HT.sIx its.length its.length hi - HT.sIx its.length 0 lo)).toArray:=by
 obtain⟨h1,h2,h3⟩:=jGA lo hi its.toArray.size
 unfold slicePick
 rw[h1,h2,h3]
 simp only [sliceRange_one,pick_run,aN] <;> rfl
def rSlL (K:W.Frag):V->Option Int->Option Int->Hp->VK->Prop:=fun x lo hi H Q=>∃ a xs,x= .ref a/\SqL K H a xs/\∀ p,H p=none->Q (.ref p) (upd H p (.lst (cutV xs lo hi)))
theorem jLS:SlR X (rSlL X.K):=by
 intro ad s σ H x v vl vu lo hi sl Q I rx hs pl pu h
 obtain⟨a,xs,rfl,hx,q⟩:=h
 cases rx
 obtain⟨its,r,ht,hz⟩:=I.list hx
 have hlen:=r.length
 refine⟨"list",_,slot_list_getitem.lookup,ht.isList.typeIs,?_⟩
 refine wpAny_getItem_list_slice ht.isList hs pl pu .none (by simp) ?_ (by rw[aN] <;> lia)
 rw[jF4,<- hlen]
 refine⟨.ref s.heap.objs.size,_,I.laid (t':=s.toks) (o:= .lst (cutV xs lo hi)) (fun b ob q=>ag _ q) (ar _) ?_,rfl,q _ (I.hok.fresh (ar _))⟩
 exact⟨bM (jIB xs lo hi) hz,_,0,(r.drop (HT.sIx xs.length 0 lo)).take (HT.sIx xs.length xs.length hi - HT.sIx xs.length 0 lo),aB _ rfl⟩
def flatV:V->Bool
 | .non=>true
 | .bl _=>true
 | .int _=>true
 | .str _=>true
 | _=>false
noncomputable def eqV:V->V->Bool
 | .non, .non=>true
 | .bl a, .bl b=>a==b
 | .bl a, .int b=>(if a then 1 else 0)==b
 | .int a, .bl b=>a==(if b then 1 else 0)
 | .int a, .int b=>a==b
 | .str a, .str b=>a==b
 | _,_=>false
theorem jW7 {A:Around}{s:Shared}{y x:V}{u v:Value}(ry:RelV y u)(rx:RelV x v)(fy:flatV y=true)(fx:flatV x=true):SeqAt.EqAt A s u v (eqV y x):=by
 cases y with
 | non=>
  cases ry
  cases x with
  | non=>cases rx; exact SeqAt.EqAt.same _
  | bl b=>cases rx; exact SeqAt.EqAt.none_bool b
  | int b=>obtain⟨t,rfl⟩:=rx; exact SeqAt.EqAt.none_int b t
  | str b=>obtain⟨t,rfl⟩:=rx; exact SeqAt.EqAt.none_str b t
  | _=>exact absurd (show false=true from fx) aq
 | bl a=>
  cases ry
  cases x with
  | non=>cases rx; exact SeqAt.EqAt.bool_none a
  | bl b=>cases rx; exact SeqAt.EqAt.bool_bool a b
  | int b=>obtain⟨t,rfl⟩:=rx; exact SeqAt.EqAt.bool_int a b t
  | str b=>obtain⟨t,rfl⟩:=rx; exact SeqAt.EqAt.bool_str a b t
  | _=>exact absurd (show false=true from fx) aq
 | int a=>
  obtain⟨t',rfl⟩:=ry
  cases x with
  | non=>cases rx; exact SeqAt.EqAt.int_none a t'
  | bl b=>cases rx; exact SeqAt.EqAt.int_bool a t' b
  | int b=>obtain⟨t,rfl⟩:=rx; exact iF a t' b t
  | str b=>obtain⟨t,rfl⟩:=rx; exact SeqAt.EqAt.int_str a t' b t
  | _=>exact absurd (show false=true from fx) aq
 | str a=>
  obtain⟨t',rfl⟩:=ry
  cases x with
  | non=>cases rx; exact SeqAt.EqAt.str_none a t'
  | bl b=>cases rx; exact SeqAt.EqAt.str_bool a t' b
  | int b=>obtain⟨t,rfl⟩:=rx; exact SeqAt.EqAt.str_int a t' b t
  | str b=>obtain⟨t,rfl⟩:=rx; exact SeqAt.EqAt.str_str a t' b t
  | _=>exact absurd (show false=true from fx) aq
 | _=>exact absurd (show false=true from fy) aq
noncomputable def eqU (x:V)(u:Value):Bool:=match u with
 | .none=>eqV .non x
 | .bool b=>eqV (.bl b) x
 | .int i _=>eqV (.int i) x
 | .str z _=>eqV (.str z) x
 | _=>false
theorem jRM {x y:V}{u:Value}(r:RelV y u)(f:flatV y=true):eqU x u=eqV y x:=by
 cases y with
 | non=>cases r; rfl
 | bl b=>cases r; rfl
 | int i=>obtain⟨t,rfl⟩:=r; rfl
 | str z=>obtain⟨t,rfl⟩:=r; rfl
 | _=>exact absurd (show false=true from f) aq
theorem jE3 {x:V} :∀ {xs:List V}{us:List Value},Vals xs us->xs.all flatV=true->us.any (eqU x)=xs.any fun y=>eqV y x
 | _,_, .nil,_=>rfl
 | y::xs,u::us, .cons r t,f=>by
  rw[gX,cg] at f
  rw[gY,gY,jRM r f.1,jE3 t f.2]
theorem jB8 {A:Around}{s:Shared}{x:V}{v:Value}(rx:RelV x v)(fx:flatV x=true):∀ {xs:List V}{us:List Value},Vals xs us->xs.all flatV=true->∀ u∈us,SeqAt.EqAt A s u v (eqU x u)
 | _,_, .nil,_=>fun u hu=>by cases hu
 | y::xs,u::us, .cons r t,f=>fun u' hu=>by
  rw[gX,cg] at f
  rcases aF.mp hu with rfl | hu
  ·rw[jRM r f.1]; exact jW7 r rx f.1 fx
  ·exact jB8 rx fx t f.2 u' hu
def inV (x:V)(xs:List V):Bool:=xs.any fun y=>eqV y x
def rIn (K:W.Frag)(neg:Bool):R2:=fun x y H Q=>∃ p xs,y= .ref p/\(SqL K H p xs\/SqT K H p xs)/\flatV x=true/\xs.all flatV=true/\Q (.bl (if neg then !inV x xs else inV x xs)) H
theorem jME:OpR X (compareOp .In) (rIn X.K false):=by
 intro ad s σ H x y v u Q I rx ry h
 obtain⟨p,xs,rfl,hq,fx,fs,q⟩:=h
 cases ry
 rcases hq with hq | hq
 ·obtain⟨its,r,pl,hz⟩:=I.list hq
  refine SeqAt.in_listAt (eqU x) pl.isList (fun w hw=>jB8 rx fx r fs w (by simpa using hw)) ⟨.bl _,H,I,rfl,?_⟩
  rw[show its.toArray.any (eqU x)=its.any (eqU x) by simp,jE3 r fs]
  exact q
 ·obtain⟨its,r,pl,hz⟩:=I.tuple hq
  refine SeqAt.in_tupleAt (eqU x) pl (fun w hw=>jB8 rx fx r fs w (by simpa using hw)) ⟨.bl _,H,I,rfl,?_⟩
  rw[show its.toArray.any (eqU x)=its.any (eqU x) by simp,jE3 r fs]
  exact q
theorem jGH:OpR X (compareOp .NotIn) (rIn X.K true):=by
 intro ad s σ H x y v u Q I rx ry h
 obtain⟨p,xs,rfl,hq,fx,fs,q⟩:=h
 cases ry
 rcases hq with hq | hq
 ·obtain⟨its,r,pl,hz⟩:=I.list hq
  refine SeqAt.notIn_listAt (eqU x) pl.isList (fun w hw=>jB8 rx fx r fs w (by simpa using hw)) ⟨.bl _,H,I,rfl,?_⟩
  rw[show its.toArray.any (eqU x)=its.any (eqU x) by simp,jE3 r fs]
  exact q
 ·obtain⟨its,r,pl,hz⟩:=I.tuple hq
  refine SeqAt.notIn_tupleAt (eqU x) pl (fun w hw=>jB8 rx fx r fs w (by simpa using hw)) ⟨.bl _,H,I,rfl,?_⟩
  rw[show its.toArray.any (eqU x)=its.any (eqU x) by simp,jE3 r fs]
  exact q
theorem jS:qC X (.builtin "len") (fun xs H Q=>∃ p ys,xs=[.ref p]/\(SqL X.K H p ys\/SqT X.K H p ys)/\Q (.int ys.length) H):=by
 intro ad s σ H xs us Q I r h
 obtain⟨p,ys,rfl,hq,q⟩:=h
 obtain⟨u,rfl,rx⟩:=vals1 r
 cases rx
 have hn:=jEJ
 rcases hq with hq | hq
 ·obtain⟨its,r',pl,hz⟩:=I.list hq
  have hlen:=r'.length
  exact Calls.call_len_list pl.isList (by simp only [aN] <;> lia) ⟨.int ys.length,H,I.tok _,⟨s.toks+1,by rw[aN,hlen]⟩,q⟩
 ·obtain⟨its,r',pl,hz⟩:=I.tuple hq
  have hlen:=r'.length
  exact len_tuple pl (by simp only [aN] <;> lia) ⟨.int ys.length,H,I.tok _,⟨s.toks+1,by rw[aN,hlen]⟩,q⟩
theorem jA0:qC X (.type "tuple") (fun xs H Q=>∃ p ys,xs=[.ref p]/\((SqL X.K H p ys/\∀ l,H l=none->Q (.ref l) (upd H l (.tup ys)))\/(SqT X.K H p ys/\Q (.ref p) H))):=by
 intro ad s σ H xs us Q I r h
 obtain⟨p,ys,rfl,h⟩:=h
 obtain⟨u,rfl,rx⟩:=vals1 r
 cases rx
 rcases h with ⟨hq,q⟩ | ⟨hq,q⟩
 ·obtain⟨its,r',pl,hz⟩:=I.list hq
  have hlen:=r'.length
  refine call_tuple_list pl.isList (fun h' kp=>?_) (by simp only [aN] <;> lia)
  have I1:Inv X ad σ H { s with heap:=h'} :=I.kept (t':=s.toks) kp
  have I2:Inv X ad σ (upd H h'.objs.size (.tup ys)) { s with heap:=h'.push { cls:= .type "tuple",data:= .seq its.toArray}} :=
   I1.laid (t':=s.toks) (fun b o e=>ag _ e) (ar _) (show ObjOk X.prog X.w _ _ _ (.tup ys) from ⟨hz,its,r',TupO.new _ _⟩)
  exact⟨.ref h'.objs.size,_,I2,rfl,q _ (I1.hok.fresh (ar _))⟩
 ·obtain⟨its,r',pl,hz⟩:=I.tuple hq
  exact call_tuple_same pl ⟨.ref p,H,I,rfl,q⟩
def tyV (K:W.Frag)(T:String)(x:V)(H:Hp):Prop:=match x with
 | .str _=>T= "str"
 | .int _=>T= "int"
 | .ref p=>(T= "list" /\∃ xs,SqL K H p xs)\/(T= "tuple" /\∃ o,K.lookup p=some o/\o.cls= .type "tuple" /\o.dict=none)\/
   (T= "dict" /\((∃ kvs,H p=some (.dK kvs))\/∃ kvs,H p=some (.dT kvs)))\/(T= "set" /\∃ S n,H p=some (.set S n))
 | _=>False
theorem jQZ {ad:List (Addr×Obj)}{σ:St}{H:Hp}{s:Shared}{T:String}{x:V}{v:Value}(I:Inv X ad σ H s)(r:RelV x v)(ty:tyV X.K T x H):
  s.TypeIs v T/\∀ a,v= .ref a->∃ ob,s.heap.get? a=some ob/\ob.dict=none:=by
 cases x with
 | str z=>
  obtain⟨t,rfl⟩:=r
  cases (show T= "str" from ty)
  exact⟨typeIs_str s z t,fun _ e=>nomatch e⟩
 | int i=>
  obtain⟨t,rfl⟩:=r
  cases (show T= "int" from ty)
  exact⟨typeIs_int s i t,fun _ e=>nomatch e⟩
 | ref p=>
  cases r
  rcases ty with ⟨rfl,xs,hq⟩ | ⟨rfl,o,hk,hc,hd⟩ | ⟨rfl,hk⟩ | ⟨rfl,S,n,hk⟩
  ·obtain⟨its,_,pl,_⟩:=I.list hq
   refine⟨pl.isList.typeIs,fun a e=>?_⟩
   cases e
   obtain⟨o,n,e,c,hd,_⟩:=pl
   exact⟨o,e,hd⟩
  ·refine⟨⟨o,I.kIn p o hk,hc⟩,fun a e=>?_⟩
   cases e
   exact⟨o,I.kIn _ o hk,hd⟩
  ·have z:∃ o,s.heap.get? p=some o/\o.ExactDict:=by
    rcases hk with ⟨kvs,hk⟩ | ⟨kvs,hk⟩
    ·obtain⟨_,_,_,_,o,_,_,e,ex,_⟩:=I.hok p _ hk
     exact⟨o,e,ex⟩
    ·obtain⟨_,_,_,_,o,_,_,e,ex,_⟩:=I.hok p _ hk
     exact⟨o,e,ex⟩
   obtain⟨o,e,ex⟩:=z
   refine⟨⟨o,e,ex.1⟩,fun a e2=>?_⟩
   cases e2
   exact⟨o,e,ex.2.1⟩
  ·obtain⟨o,_,_,_,e,ex,_⟩:=I.hok p _ hk
   refine⟨⟨o,e,ex.1⟩,fun a e2=>?_⟩
   cases e2
   exact⟨o,e,ex.2.1⟩
 | _=>exact False.elim ty
def tBM0 (K:W.Frag)(T:String)(r:V->List V->Hp->VK->Prop)(to:TE):TE:=fun σ H Q=>to σ H fun x H1=>tyV K T x H1/\r x [] H1 Q
def tBM (K:W.Frag)(T:String)(r:V->List V->Hp->VK->Prop)(to:TE)(t:TA):TE:=fun σ H Q=>to σ H fun x H1=>tyV K T x H1/\t σ H1 fun xs H2=>r x xs H2 Q
variable {o:Expr}{es:List Expr}{to:TE}{t:TA}{name:Str}{apos cpos:Pos}{T id:String}{r:V->List V->Hp->VK->Prop}
theorem jV7 (pa:PlainAttrs T)(slot:Slot T name id)(hty:typeOf (.builtin id)=pure (.type "method_descriptor"))(hm:MtR X id r)(ho:PE X o to)
  (hbase:attributeBase o name X.env (eval o X.env)=eval o X.env:=by rfl) (hline:(apos.endLine==cpos.line)=true:=by rfl):PE X (.Call (.Attribute o name apos) [] [] cpos) (tBM0 X.K T r to):=by
 intro ad s σ H Q I h
 refine gn hbase hline (lI (ho ad s σ H _ I h) fun v s1 ⟨x,H1,I1,r1,ty,q1⟩=>?_)
 obtain⟨h1,h2⟩:=jQZ I1 r1 ty
 exact⟨T,id,pa,slot,hty,h1,h2,dR rfl (ik (hm ad s1 σ H1 x [] v [] Q I1 r1 .nil q1))⟩
theorem pe_bm (pa:PlainAttrs T)(slot:Slot T name id)(hty:typeOf (.builtin id)=pure (.type "method_descriptor"))(hm:MtR X id r)(ho:PE X o to)(ha:PA X (e::es) t)
  (hbase:attributeBase o name X.env (eval o X.env)=eval o X.env:=by rfl)
  (hfew:((backTo cpos (starEach (e::es) X.env)).all (fun x=>!x.1)&&(backToKw cpos (keywordEach [] X.env)).all (fun x=>x.1.isSome)
   &&decide ((e::es).length+([]:List Keyword).length+(if ([]:List Keyword).isEmpty then 0 else 1)<30))=true:=by rfl)
  (hline:(apos.endLine==cpos.line)=true:=by rfl) (hs:starEach (e::es) X.env=(false,eval e X.env)::starEach es X.env:=by rfl) (hplain:(backTo cpos (starEach es X.env)).any (·.1)=false:=by rfl):
  PE X (.Call (.Attribute o name apos) (e::es) [] cpos) (tBM X.K T r to t):=by
 intro ad s σ H Q I h
 refine wpAny_Call_method_late hbase hfew hline rfl (lI (ho ad s σ H _ I h) fun v s1 ⟨x,H1,I1,r1,ty,q1⟩=>?_)
 obtain⟨h1,h2⟩:=jQZ I1 r1 ty
 refine⟨T,id,pa,slot,hty,h1,h2,?_⟩
 have hA:=ha cpos ad s1 σ H1 _ I1 q1
 rw[hs] at hA ⊢
 refine dR (by show (false || (backTo cpos (starEach es X.env)).any (·.1))=false; rw[hplain] <;> rfl) (g9 ?_)
 exact lI hA fun us s2 ⟨vs,H2,I2,r2,q2⟩=>hm ad s2 σ H2 x vs v us Q I2 r1 r2 q2
/- xs.append(e),list.index on a module's tuple .. are MtR facts of 06m -/
end
def MtM (X:Cx)(id:String)(r:V->List V->Hp->VK->Prop):Prop:=
 ∀ (ad:List (Addr×Obj)) (s:Shared) (σ:St) (H:Hp) (x:V) (xs:List V) (v:Value) (us:List Value) (Q:VK),Inv X ad σ H s->RelV x v->Vals xs us->r x xs H Q->
  wpAny (model X.prog X.w) X.A (call (.builtin id) (v::us)) (EP X ad σ Q) X.xe s
theorem Vals.one:∀ {x:V}{us:List Value},Vals [x] us->∃ u,us=[u]/\RelV x u
 | _,_, .cons r .nil=>⟨_,rfl,r⟩
theorem Vals.two:∀ {x y:V}{us:List Value},Vals [x,y] us->∃ u v,us=[u,v]/\RelV x u/\RelV y v
 | _,_,_, .cons r (.cons q .nil)=>⟨_,_,rfl,r,q⟩
theorem Vals.zero:∀ {us:List Value},Vals [] us->us=[]
 | _, .nil=>rfl
theorem Vals.dropLast {xs:List V}{us:List Value}(h:Vals xs us):Vals xs.dropLast us.dropLast:=by
 induction h with
 | nil=>exact .nil
 | cons r t ih=>
  cases t with
  | nil=>exact .nil
  | cons q t'=>exact .cons r ih
theorem Vals.rep {xs:List V}{us:List Value}(h:Vals xs us):∀ k:Nat,Vals (replicate k xs).flatten (replicate k us).flatten
 | 0=> .nil
 | k+1=>by
  rw[cQ,cQ,eI,eI]
  exact Vals.append h (Vals.rep h k)
theorem jKT {α:Type}(l:List α):l.eraseIdx (l.length - 1)=l.dropLast:=by
 induction l with
 | nil=>rfl
 | cons a r ih=>
  cases r with
  | nil=>rfl
  | cons b r=>
   have e:(a::b::r).length - 1=((b::r).length - 1)+1:=by
    have h1:(a::b::r).length=r.length+2:=rfl
    have h2:(b::r).length=r.length+1:=rfl
    lia
   rw[e,List.eraseIdx_cons_succ,ih]
   all_goals rfl
theorem jGU (its:List Value):∀ (k:Nat) (acc:List Value),
  List.foldl (fun x1 x2=>x1++x2) acc.toArray (replicate k its.toArray)=(acc++(replicate k its).flatten).toArray
 | 0,acc=>by simp
 | k+1,acc=>by
  have e:acc.toArray++its.toArray=(acc++its).toArray:=by simp
  have e2:(acc++its)++(replicate k its).flatten=acc++(replicate (k+1) its).flatten:=by
   rw[cQ,eI,be]
  rw[<- e2,<- jGU its k (acc++its),<- e,cQ,List.foldl_cons]
variable {s:Shared}
section
variable {ad:List (Addr×Obj)}{σ:St}{H:Hp}{l b:Addr}{xs ys zs:List V}
theorem Inv.lset {its its':List Value}{n:Nat}{f:Array Value->Array Value}{t':Nat}(I:Inv X ad σ H s)(hH:H l=some (.lst xs))
  (e:s.heap.get? l=some { cls:= .type "list",data:= .seq its.toArray n}) (hf:f its.toArray=its'.toArray) (hv:Vals ys its') (hz:ys.length<=sizeLine):
  Inv X ad σ (upd H l (.lst ys)) { s with heap:=s.heap.update l (Obj.mapSeq f),toks:=t'} :=by
 have q:=PySem.IsL.update e f
 rw[hf] at q
 refine I.write (x:=l) (e:=l) (by rw[hH]; exact trivial) (.inl rfl) (fun b' u hb hu=>(bZ s.heap (Obj.mapSeq f) (eG hb)).trans hu) ⟨_,q⟩ ?_
 exact⟨hz,its',_,hv,q⟩
theorem Inv.lnew {its:List Value}{t':Nat}(I:Inv X ad σ H s)(hv:Vals ys its)(hz:ys.length<=sizeLine):
  Inv X ad σ (upd H s.heap.objs.size (.lst ys)) { s with heap:=s.heap.push { cls:= .type "list",data:= .seq its.toArray},toks:=t'} :=
 I.laid (fun _ _ q=>ag _ q) (ar _) ⟨hz,its,0,hv,aB _ rfl⟩
theorem Inv.fresh (I:Inv X ad σ H s):H s.heap.objs.size=none:=I.hok.fresh (ar _)
theorem Inv.lstM (I:Inv X ad σ H s)(hH:H l=some (.lst xs)):xs.length<=sizeLine/\∃ (its:List Value) (n:Nat),Vals xs its/\xs.length=its.length/\s.heap.get? l=some { cls:= .type "list",data:= .seq its.toArray n} :=by
 obtain⟨z,its,n,r,e⟩:=I.hok l _ hH
 exact⟨z,its,n,r,r.length,e⟩
theorem jPO {n:Nat}(h:n<=sizeLine):Builtin.List.listTooLong n=false:=by
 unfold Builtin.List.listTooLong
 exact aM (by lia)
end
def jS6:V->List V->Hp->VK->Prop:=fun x vs H Q=>∃ l xs y,x= .ref l/\vs=[y]/\H l=some (.lst xs)/\xs.length<sizeLine/\Q .non (upd H l (.lst (xs++[y])))
theorem jBZ:MtM X "list.append" jS6:=by
 intro ad s σ H x vs v us Q I rx rv h
 obtain⟨l,xs,y,rfl,rfl,hH,hz,q⟩:=h
 cases rx
 obtain⟨u,rfl,ru⟩:=rv.one
 obtain⟨z,its,n,r,hl,e⟩:=I.lstM hH
 refine gS F.slot_list_append ⟨_,e,rfl⟩ F.entry_list_append (F.args_list_append_2 _ _) (PySem.list_append l its.toArray n u (by rw[aN]; lia)) ⟨e,?_⟩
 refine⟨.non,_,I.lset (its':=its++[u]) hH e (by simp) (r.append (.cons ru .nil)) ?_,rfl,q⟩
 rw[aC,jz]
 lia
def rPop:V->List V->Hp->VK->Prop:=fun x vs H Q=>∃ l xs y,x= .ref l/\vs=[]/\H l=some (.lst xs)/\xs[xs.length - 1]?=some y/\Q y (upd H l (.lst xs.dropLast))
theorem jVM:MtM X "list.pop" rPop:=by
 intro ad s σ H x vs v us Q I rx rv h
 obtain⟨l,xs,y,rfl,rfl,hH,hy,q⟩:=h
 cases rx
 have hus:=rv.zero
 subst hus
 obtain⟨z,its,n,r,hl,e⟩:=I.lstM hH
 obtain⟨u,hu,ru⟩:=r.get hy
 have hy':its.toArray[its.toArray.size - 1]?=some u:=by
  show its.toArray[its.length - 1]?=some u
  rw[<- bU,<- hl]
  exact hu
 refine gS F.slot_list_pop ⟨_,e,rfl⟩ F.entry_list_pop (F.args_list_pop_1 _) (MeetsSeq.list_pop_last l its.toArray n u hy' (by rw[aN]; lia)) ⟨e,?_⟩
 refine⟨y,_,I.lset (its':=its.dropLast) hH e ?_ r.dropLast ?_,ru,q⟩
 ·show its.toArray.eraseIdxIfInBounds (its.toArray.size - 1)=its.dropLast.toArray
  rw[aN,List.eraseIdxIfInBounds_toArray,jKT]
 ·rw[List.length_dropLast]
  lia
def rCat:R2:=fun x y H Q=>∃ l b xs zs,x= .ref l/\y= .ref b/\H l=some (.lst xs)/\H b=some (.lst zs)/\xs.length+zs.length<=sizeLine/\∀ p,H p=none->Q (.ref p) (upd H p (.lst (xs++zs)))
theorem jVC:OpR X (binaryOp .Add) rCat:=by
 intro ad s σ H x y v u Q I rx ry h
 obtain⟨l,b,xs,zs,rfl,rfl,hH,hB,hz,q⟩:=h
 cases rx
 cases ry
 obtain⟨z,its,n,r,hl,e⟩:=I.lstM hH
 obtain⟨z2,its2,n2,r2,hl2,e2⟩:=I.lstM hB
 refine PySem.P.add_list e e2 ?_ (by rw[aN,aN]; lia)
 have ea:its.toArray++its2.toArray=(its++its2).toArray:=by simp
 rw[ea]
 exact⟨.ref _,_,I.lnew (t':=s.toks) (r.append r2) (by rw[aC]; lia),rfl,q _ I.fresh⟩
def rRep:R2:=fun x y H Q=>∃ l k xs,x= .ref l/\y= .int k/\H l=some (.lst xs)/\ -(2 ^ 63)<=k/\k<2 ^ 63/\xs.length*k.toNat<=sizeLine/\
 ∀ p,H p=none->Q (.ref p) (upd H p (.lst (replicate k.toNat xs).flatten))
theorem jTE {α:Type}(xs:List α)(k:Nat):(replicate k xs).flatten.length=k*xs.length:=by
 induction k with
 | zero=>simp
 | succ k ih=>rw[cQ,eI,aC,ih,Nat.succ_mul,gx]
theorem jRA:OpR X (binaryOp .Mult) rRep:=by
 intro ad s σ H x y v u Q I rx ry h
 obtain⟨l,k,xs,rfl,rfl,hH,h1,h2,hz,q⟩:=h
 cases rx
 obtain⟨t,rfl⟩:=ry
 obtain⟨z,its,n,r,hl,e⟩:=I.lstM hH
 have hlen:its.toArray.size*k.toNat<=sizeLine:=by rw[aN,<- hl]; exact hz
 have hcap:¬ its.toArray.size*k.toNat>(2 ^ 63 - 1) / 8:=by
  have:(sizeLine:Nat)<=(2 ^ 63 - 1) / 8:=by decide
  lia
 have hfit:¬ (!Builtin.List.listFitsIndex k)=true:=by
  rw[fitsIndex_both h1 h2]
  exact aq
 have hlong:¬ Builtin.List.listTooLong (its.toArray.size*k.toNat)=true:=by
  rw[jPO hlen]
  exact aq
 have hnew:List.foldl (fun x1 x2=>x1++x2) #[] (replicate (if its.toArray.isEmpty=true then 0 else k.toNat) its.toArray)=(replicate k.toNat its).flatten.toArray:=by
  have f0:∀ m:Nat,List.foldl (fun x1 x2=>x1++x2) #[] (replicate m its.toArray)=(replicate m its).flatten.toArray:=fun m=>by
   have:=jGU its m []
   rw[List.nil_append] at this
   exact this
  rw[f0]
  cases its with
  | nil=>simp
  | cons a r'=>rw[ae (by simp)]
 refine wpAny_binaryOp_repeat_ref (T:= "list") (U:= "int") (by decide) ⟨_,e,rfl⟩ (fun s'=>typeIs_int s' k t) noFill_list_mul F.fills_int_mul F.slot_int_rmul repeat_list F.slot_int_index.lookup
  (gS F.slot_int_rmul (typeIs_int s k t) F.entry_int_rmul (F.args_int_rmul_2 _ _) (int___rmul___int_list k t l its.toArray n)
   ⟨e,rfl,⟨_,e,rfl⟩,gS F.slot_list_mul ⟨_,e,rfl⟩ F.entry_list_mul (F.args_list_mul_2 _ _) (AutoListH.list___mul___list_int_3 l its.toArray n k t hfit hcap hlong) ⟨e,?_⟩⟩)
 rw[hnew]
 exact⟨.ref _,_,I.lnew (t':=s.toks) (r.rep k.toNat) (by rw[jTE,lB]; exact hz),rfl,q _ I.fresh⟩
section
variable {prog:Program}{w:World}{A:Around}{E:Value->Shared->Prop}
set_option maxRecDepth 100000 in
end
end L2
namespace Att
open PySem PySem.W PySem.Calls PyProof.Rows
theorem jDW {P:Params}{h:Heap} :∀ (ns:List Int) (vs:List Value),WellAll P h vs (ns.map WData.int)->IntsAre vs ns:=by
 intro ns
 induction ns with
 | nil=>
  intro vs w
  rw[fD] at w
  cases w
  exact .nil
 | cons n ns ih=>
  intro vs w
  rw[aY] at w
  cases w with
  | cons a b=>
   cases a
   exact .cons _ _ (ih _ b)
theorem jLU {l:OpenLaw}{n:Nat}(hn:l.most=some n){P:Params}{h:Heap}{args:List WData}{vals:List Value}
  (hpre:l.row.toRowW.claim.pre args=true) (hwl:WellAll P h vals args):
  ∃ a vs ns,vals=[Value.ref a]/\args=[WData.list (ns.map WData.int)]/\h.get? a=some { cls:= .type "list",data:= .seq vs.toArray} /\IntsAre vs ns/\ns.length<=n:=by
 have hsh:WShape.hasAll [] args [.list .int]=true:=(pre_splitW hpre).1
 have hc:l.pre.holds [] { args:=args} =true:=(pre_splitW hpre).2
 obtain⟨d,r,rfl,h1,h2⟩:=hasAllW_cons hsh
 obtain rfl:=hasAllW_nil h2
 obtain⟨xs,rfl,h3⟩:=hasW_list h1
 obtain⟨ns,rfl⟩:=items_int h3
 have hlen:ns.length<=n:=by
  unfold OpenLaw.pre at hc
  have h4:(WTm.not (.lt (.lit (.int (n:Int))) (.len (.arg 0)))).holds [] { args:=[.list (ns.map .int)]} =true:=by
   have h4:=(holds_andW hc).1
   rw[hn] at h4
   exact h4
  have h5:=condW_of h4 (w_not (w_lt w_lit (w_len_list (w_arg rfl))))
  rw[ab] at h5
  refine Nat.le_of_not_lt fun q=>?_
  have q':(n:Int)<((ns.length:Nat):Int):=by lia
  first
   | (rw[ay q'] at h5; exact absurd h5 (by decide))
   | (simp at h5; lia)
 cases hwl with
 | cons w1 w2=>
  cases w2
  cases w1 with
  | list ho hall=>exact⟨_,_,ns,rfl,rfl,ho,jDW ns _ hall,hlen⟩
theorem jM4 (l:OpenLaw)(args:List WData):l.row.toRowW.claim.post args (.bool true) args=true:=
 postW_of (r:=l.row.toRowW) (X:=(true==true))
  (show WShape.has [] (.bool true) .bool=true by first | rfl | decide | simp [WShape.has,WShape.arms,WShape.armsAll])
  (show (WTm.eq .res (.lit (.bool true))).value [] { args:=args,res:=some (.bool true),after:=args} =some (.bool (true==true)) from w_eq_bool (w_res rfl) w_lit) rfl
theorem attach_call {l:OpenLaw}{n:Nat}{q:Program}{loose:List Str}{XP:(Str->Option Value)->Heap->Prop}{YP:World->Heap->Prop}{d:DefRec}
  (hn:l.most=some n) (hdf:d.params.defaults=[])
  (call:∀ (w:World) (s₀ s₁:Shared) (mg mb:Str->Option Value) (fa:Addr) (o:Obj) (pm cd doc:Value) (a:Addr) (vs:List Value) (ns:List Int),
   Ground q loose [] XP w s₀ mg mb s₁.heap->YP w s₁.heap->
   s₁.heap.get? fa=some o->o.data= .func (docDef d.name d.params d.body d.scope pm cd doc)->s₁.heap.CodeRec cd d.name->mg d.name=some (.ref fa)->
   s₁.heap.get? a=some { cls:= .type "list",data:= .seq vs.toArray} ->IntsAre vs ns->ns.length<=n->s₁.gens=#[]->
   codeAny (model l.prog w) callerA (.call (.ref fa) ⟨[.ref a],[]⟩) (fun r s'=>r= .ok (.ret (.bool true))/\OldK s₁.heap s'.heap/\s'.os=s₁.os/\AllBare s'.gens) s₁):
  WalkO q loose XP YP l.row.toRowW d [] (fun f vs=>PySem.call f vs):=by
 intro w s₀ s₁ mg mb G Y fa o pm cd doc dV kV ho hd hcd hD hmg hg args vals as hpre hlay hrd hwl hlo
 obtain rfl:dV= .none:=Dflts.none hD hdf
 obtain rfl:kV= .none:=Dflts.noKw hD
 obtain⟨a,vs,ns,rfl,rfl,hobj,hints,hlen⟩:=jLU hn hpre hwl
 refine enter_call (eZ (call w s₀ s₁ mg mb fa o pm cd doc a vs ns G Y ho (fd_plain hd) hcd hmg hobj hints hlen hg) fun r s' hq=>?_)
 obtain⟨rfl,h2,h3,h4⟩:=hq
 exact⟨.inl ⟨.bool true, .bool true,[],rfl,fun _=>rfl, .bool true,jM4 l _,fun _=>⟨List.Pairwise.nil,fun _ hm=>(nomatch hm)⟩⟩,h2,h3,h4⟩
section
variable {prog:Program}{w:World}{A:Around}{E:Value->Shared->Prop}{s:Shared}{K:Frag}
end
end Att
namespace L2
open PySem PySem.Spec PyProof.Rows
theorem jG0:∀ {vs:List Value}{ns:List Int},IntsAre vs ns->Vals (ns.map V.int) vs
 | _,_, .nil=> .nil
 | _,_, .cons n t h=> .cons ⟨t,rfl⟩ (jG0 h)
end L2
/- THE LAST THEOREM (shape; LID,My.* are yours):
  My.Adr:a structure of the addresses that your layer names (classes,functions); My.Txt K t:a structure (Prop) of the equations over K;
  My.txt_mk: {K} {implicit addresses ..} (e1:nsIn K mainGlobals "law" =some (some (.ref f))) (e2:K.lookup f=some ⟨oc,od, .func (fnOf "law" "law" params body scope dV kV doc pm an cdv ct),sl⟩) (e3:codeIn K cdv "law" =true) .. :∃ t,My.Txt K t
set_option maxRecDepth 100000 in
set_option maxHeartbeats 0 in
theorem PySem.Challenge.cw_LID_holds : PySem.Challenge.rw_LID.Holds := by
 w_on; o_law; k_head; (case hw=>w_witness2)
 k_fill
 refine L2.walk_of (l:=PySem.Challenge.rw_LID) (n:=63) (k:=40) (x:= "script") (CX:=fun w=> ..) (sp:=fun _=>My.sp_law) rfl (by decide) rfl ⟨rfl,by decide,by decide⟩ (fun w h Y=>PySem.W.kIn_of Y) ?F ?S ?C
 case F=>
  intro w mg fa h KX G hmg
  have T:∃ t,My.Txt (L2.KOf KX) t:=by
   dsimp only [L2.KOf] -- K must stand as «<heap const>w.params» for k_is
   refine' My.txt_mk ?e1 ?e2 ?e3 ..
   (case e1=>PySem.W.k_is) -- in the order:a name->its address->its object->its parts
   (case e2=>PySem.W.k_is)
   ..
  obtain⟨t,T⟩:=T
  have e0:=hmg.symm.trans (gZ KX G T.law)
  cases e0 -- fa is the law's own address
  exact⟨_,fun s u=> .of_eq rfl,fun base kb nb=>My.law_fn T kb nb⟩ -- if «.of_eq rfl» comes too early:refine' ⟨_,?b,fun base kb nb=>My.law_fn T kb nb⟩; exact fun s u=> .of_eq rfl
 case S=>exact fun w H a ns hl hO hS=> ..
 case C=>exact ..
(the tactic k_is has no namespace:write k_is) -/
namespace L2
open PySem PySem.Spec PyProof.Rows
abbrev CX0:CXT:=fun _ _ _ _ _ _=>False
abbrev E0:XK:=fun _ _ _=>False
theorem pass0 {X:Cx} :jOZ CX0 X E0:=fun _ _ _ _ _ _ _ h=>h.elim
structure Fun (K:W.Frag)(x qual:Str)(st:Stmt)(f:Addr)(fd:FuncData):Prop where
 ex:∃ (oc:Value) (od:Option Addr) (kV doc pm:Value) (an:Option Addr) (cdv ct:Value) (osl:Array (Option Value)),
  fd=PySem.W.fnOf x qual (yE st) (jD st) (j9 st) .none kV doc pm an cdv ct/\K.lookup f=some ⟨oc,od, .func fd,osl⟩/\PySem.W.codeIn K cdv qual=true
 kp:keepIn K (.ref f)=true
variable {w:World}
section
variable {P:Program}{K:W.Frag}{mg:Str->Option Value}{base:Heap}
theorem Fun.ok {x qual:Str}{st:Stmt}{f:Addr}{fd:FuncData}{N ps:List Str}{k:Nat}{sp:Sp}(F:Fun K x qual st f fd)(S:FnScope N ps (j9 st))(len:∀ vs H Q E,sp vs H Q E->vs.length=ps.length)
  (hbody:∀ (cdv:Value) (A:Around) (outer:List Env) (s:Shared) (H:Hp) (vs:List V) (Q:VK) (E:XK),Room k (A.deeper (envOfC qual (j9 st) s.heap.objs.size f cdv))->sp vs H Q E->
   ∃ t,PSs (cxOf CX0 P w K mg base N qual (j9 st) f cdv A outer s H E).nox (jD st) t/\t { nx:=fun _ H'=>Q .non H',rt:=Q} (kZ N vs) H):FnOk P w K mg base CX0 (k+1) f fd ps sp:=by
 obtain⟨oc,od,kV,doc,pm,an,cdv,ct,osl,rfl,lk,hcd⟩:=F.ex
 refine fn_of lk hcd S len fun A outer s H vs Q E hr hsp=>?_
 obtain⟨t,h,q⟩:=hbody cdv A outer s H vs Q E hr hsp
 exact⟨t,h.nox,q⟩
theorem Fun.binds {x qual:Str}{st:Stmt}{f:Addr}{fd:FuncData}{ps:List Str}(F:Fun K x qual st f fd)
  (h:∀ (kV doc pm:Value) (an:Option Addr) (cdv ct:Value) (us:List Value),us.length=ps.length->bindArgs (PySem.W.fnOf x qual (yE st) (jD st) (j9 st) .none kV doc pm an cdv ct) ⟨us,[]⟩=pure (ps.zip us)):Binds K fd ps []:=by
 obtain⟨oc,od,kV,doc,pm,an,cdv,ct,osl,rfl,lk,hcd⟩:=F.ex
 exact .all (h kV doc pm an cdv ct)
theorem kI {x qual:Str}{st:Stmt}{f:Addr}{oc:Value}{od an:Option Addr}{osl:Array (Option Value)}{kV doc pm cdv ct:Value}(l:K.lookup f=some ⟨oc,od, .func (PySem.W.fnOf x qual (yE st) (jD st) (j9 st) .none kV doc pm an cdv ct),osl⟩)
  (c:PySem.W.codeIn K cdv qual=true) (k:keepIn K (.ref f)=true):Fun K x qual st f (PySem.W.fnOf x qual (yE st) (jD st) (j9 st) .none kV doc pm an cdv ct):=⟨⟨oc,od,kV,doc,pm,an,cdv,ct,osl,rfl,l,c⟩,k⟩
end
theorem qI {A:Around}{k:Nat}(hr:Room k A):A.units+1<cLine:=iG (Nat.add_le_add_left (by decide:1<=64) _) hr.units
variable {X:Cx}
theorem pv (i:Nat){x:Str}{pos:Pos}(hN:X.N[i]?=some x:=by rfl)(hv:Vis X.env.scope x:=by first | exact Or.inl rfl | exact Or.inr (Or.inl rfl) | exact Or.inr (Or.inr rfl))(hd:(x==("__debug__" :Str))=false:=by decide)
  (hcd:(x==("__classdict__" :Str))=false:=by decide):PE X (.Name x pos) (tVar i):=jM8 hN hv hd hcd
theorem iteF {A B:Prop}(h:B):if false=true then A else B:=by
 rw[ae aq]
 exact h
theorem iteT {A B:Prop}(h:A):if true=true then A else B:=by
 rw[ah rfl]
 exact h
theorem ite2 {c A B:Prop} [Decidable c](h1:c->A)(h2:¬ c->B):if c then A else B:=by
 by_cases h:c
 ·rw[ah h]
  exact h1 h
 ·rw[ae h]
  exact h2 h
def jR (cells:List (Str×Addr)):List (Str×NameKind)->List (Str×Addr)->List (Str×Addr)
 | [],acc=>acc
 | (n,k)::r,acc=>if k= .free then jR cells r ((n,(cells.lookup n).getD 0)::acc) else jR cells r acc
theorem jCL {env:Env} :∀ (l:List (Str×NameKind)) (acc:List (Str×Addr)),(∀ y∈l,y.2= .free->∃ c,env.cells.lookup y.1=some c)->
  (forIn l acc fun (x:Str×NameKind) (cs:List (Str×Addr))=>(if (x.2==NameKind.free)=true then (do let a <- cellOf env x.1; pure (ForInStep.yield ((x.1,a)::cs))) else pure (ForInStep.yield cs):Sem (ForInStep (List (Str×Addr)))))=pure (jR env.cells l acc)
 | [],acc,_=>rfl
 | (n,k)::r,acc,h=>by
  have hr:∀ y∈r,y.2= .free->∃ c,env.cells.lookup y.1=some c:=fun y hy=>h y (aj _ hy)
  rw[List.forIn_cons]
  by_cases hk:k= .free
  ·subst hk
   obtain⟨c,hc⟩:=h (n, .free) am rfl
   have e:cellOf env n=pure c:=by unfold cellOf; rw[hc]
   have e2:jR env.cells ((n,NameKind.free)::r) acc=jR env.cells r ((n,c)::acc):=by
    show (if NameKind.free=NameKind.free then jR env.cells r ((n,(env.cells.lookup n).getD 0)::acc) else _)=_
    rw[ah rfl,hc]; rfl
   rw[e2,<- jCL r ((n,c)::acc) hr]
   show ((do let a <- cellOf env n; pure (ForInStep.yield ((n,a)::acc))) >>= _)=_
   rw[e]; rfl
  ·have hb:(k==NameKind.free)=false:=by cases k <;> first | rfl | exact absurd rfl hk
   have e2:jR env.cells ((n,k)::r) acc=jR env.cells r acc:=by
    show (if k=NameKind.free then _ else jR env.cells r acc)=_
    rw[ae hk]
   rw[e2,<- jCL r acc hr]
   show ((if (k==NameKind.free)=true then _ else pure (ForInStep.yield acc)) >>= _)=_
   rw[hb]; rfl
theorem jIE {env:Env}{sc:Scope}(h:∀ y∈sc.names,y.2= .free->∃ c,env.cells.lookup y.1=some c):closureFor sc env=pure (jR env.cells sc.names []):=by
 unfold closureFor
 show (forIn sc.names [] _ >>= fun cs=>pure cs)=_
 rw[show (forIn sc.names ([]:List (Str×Addr)) _:Sem _)=_ from jCL sc.names [] h]
 rfl
theorem jAP {cells:List (Str×Addr)} :∀ (l:List (Str×NameKind)) (acc:List (Str×Addr)),(∀ y∈l,y.2= .free->∃ c,cells.lookup y.1=some c)->
  (∀ x c,acc.lookup x=some c->cells.lookup x=some c)->∀ x c,(jR cells l acc).lookup x=some c->cells.lookup x=some c
 | [],acc,_,ha=>ha
 | (n,k)::r,acc,h,ha=>by
  have hr:∀ y∈r,y.2= .free->∃ c,cells.lookup y.1=some c:=fun y hy=>h y (aj _ hy)
  unfold jR
  by_cases hk:k= .free
  ·rw[ah hk]
   obtain⟨c0,hc⟩:=h (n,k) am hk
   refine jAP r _ hr fun x c e=>?_
   rw[bL] at e
   cases hx:x==n with
   | true=>
    rw[hx] at e
    have exn:x=n:=eq_of_beq hx
    subst exn
    have hc':cells.lookup x=some c0:=hc
    rw[hc'] at e ⊢
    exact e
   | false=>rw[hx] at e; exact ha x c e
  ·rw[ae hk]; exact jAP r acc hr ha
theorem jAQ {cells:List (Str×Addr)}{x:Str} :∀ (l:List (Str×NameKind)) (acc:List (Str×Addr)),((x,NameKind.free)∈l\/∃ c,acc.lookup x=some c)->∃ c,(jR cells l acc).lookup x=some c
 | [],acc,h=>by
  rcases h with h | h
  ·cases h
  ·exact h
 | (n,k)::r,acc,h=>by
  unfold jR
  by_cases hk:k= .free
  ·rw[ah hk]
   refine jAQ r _ ?_
   by_cases e:x=n
   ·subst e
    exact .inr ⟨_,by rw[bL,beq_self_eq_true]⟩
   ·rcases h with h | ⟨c,h⟩
    ·rcases aF.mp h with q | q
     ·cases q; exact absurd rfl e
     ·exact .inl q
    ·refine .inr ⟨c,?_⟩
     rw[bL,cc.mpr e]
     exact h
  ·rw[ae hk]
   refine jAQ r _ ?_
   rcases h with h | h
   ·rcases aF.mp h with q | q
    ·cases q; exact absurd rfl hk
    ·exact .inl q
   ·exact .inr h
theorem jAL {x:Str}{k:NameKind} :∀ {l:List (Str×NameKind)},l.lookup x=some k->(x,k)∈l
 | [],h=>by cases h
 | (n,k')::r,h=>by
  rw[bL] at h
  cases hx:x==n with
  | true=>rw[hx] at h; cases h; rw[eq_of_beq hx]; exact am
  | false=>rw[hx] at h; exact aj _ (jAL h)
theorem jCD {env:Env}{x:Str}{k:NameKind}(hk:k= .cell\/k= .free):∀ {l:List (Str×NameKind)},(∀ y∈l,y.2≠ .cell)->
  (l.map fun (n,k)=>if (k==NameKind.free&&env.scope.kind== .function&&env.kindOf n==some .cell) then (n,NameKind.cell) else (n,k)).lookup x=some k->l.lookup x=some .free
 | [],_,h=>by simp at h
 | (n,k')::r,hc,h=>by
  have ih:= @jCD env x k hk r (fun y hy=>hc y (aj _ hy))
  have hc0:k'≠ .cell:=hc (n,k') am
  rw[bL]
  rw[aY] at h
  dsimp only at h
  by_cases hb:(k'==NameKind.free&&env.scope.kind== .function&&env.kindOf n==some .cell)=true
  ·rw[ah hb,bL] at h
   cases hx:x==n with
   | true=>
    have:k'= .free:=by
     simp only [cg] at hb
     exact eq_of_beq hb.1.1
    rw[this]
   | false=>rw[hx] at h; exact ih h
  ·rw[ae hb,bL] at h
   cases hx:x==n with
   | true=>
    rw[hx] at h
    have e:k'=k:=bo h
    rcases hk with q | q
    ·exact absurd (e.trans q) hc0
    ·rw[e,q]
   | false=>rw[hx] at h; exact ih h
theorem jCH {env:Env}{x:Str} :∀ {l:List (Str×NameKind)},l.lookup x=some .free->
  (l.map fun (n,k)=>if (k==NameKind.free&&env.scope.kind== .function&&env.kindOf n==some .cell) then (n,NameKind.cell) else (n,k)).lookup x=some .cell\/
  (l.map fun (n,k)=>if (k==NameKind.free&&env.scope.kind== .function&&env.kindOf n==some .cell) then (n,NameKind.cell) else (n,k)).lookup x=some .free
 | [],h=>by cases h
 | (n,k')::r,h=>by
  have ih:= @jCH env x r
  rw[bL] at h
  rw[aY]
  dsimp only
  by_cases hb:(k'==NameKind.free&&env.scope.kind== .function&&env.kindOf n==some .cell)=true
  ·rw[ah hb,bL]
   cases hx:x==n with
   | true=>exact .inl rfl
   | false=>rw[hx] at h; exact ih h
  ·rw[ae hb,bL]
   cases hx:x==n with
   | true=>rw[hx] at h; exact .inr h
   | false=>rw[hx] at h; exact ih h
section
variable {prog:Program}{A:Around}{R:Result->Shared->Prop}{s:Shared}
abbrev jL8 (ifs:List Expr)(env:Env):Sem Bool:=forIn ifs true fun c r=>if r=true then do let ok <- isTrue c env (eval c env); pure (ForInStep.yield ok) else pure (ForInStep.yield r)
theorem jKU {elt tg iter:Expr}{ifs:List Expr}{sc:Scope}{pos:Pos}{it acc:Value}{env:Env}(J:Nat->Shared->Prop)
  (turn:∀ n z,J n z->wpAny (model prog w) A (pyNext it) (fun r z1=>match r with
   | none=>R (.ok .next) z1
   | some v=>wpAny (model prog w) A (letOwnedTupleGo tg it v) (fun _ z2=>wpAny (model prog w) A (assign tg env v) (fun _ z3=>wpAny (model prog w) A (jL8 ifs env) (fun ok z4=>
     if ok=true then wpAny (model prog w) A (eval elt env) (fun x z5=>wpAny (model prog w) A (call (.builtin "list.append") [acc,x]) (fun _ z6=>∃ k,k<n/\J k z6) (fun _ _=>False) z5) (fun _ _=>False) z4
     else ∃ k,k<n/\J k z4) (fun _ _=>False) z3) (fun _ _=>False) z2) (fun _ _=>False) z1) (fun _ _=>False) z)
  (n:Nat) (h:J n s):codeAny (model prog w) A (.compLoop (.ListComp elt [⟨tg,iter,ifs,0⟩] sc pos) 0 it acc env) R s:=by
 refine codeAny_loop rfl J (fun k z hJ=>?_) n h
 have noE:∀ {α:Type}{t:Sem α}{Q:α->Shared->Prop}{E:Value->Shared->Prop}{z:Shared},wpAny (model prog w) A t Q (fun _ _=>False) z->wpAny (model prog w) A t Q E z:=
  fun q=>cA q (fun _ _ a=>a) fun _ _ f=>f.elim
 show wpAny _ A ((compTurn (.ListComp elt [⟨tg,iter,ifs,0⟩] sc pos) 0 it acc env).onRaise (fun x=>do noteFrame x env; theTreesLotGoes x)) _ _ z
 refine wpAny_noted ?_
 rw[compTurn_list]
 refine aa (fj (aa (cA (turn k z hJ) (fun r z1 q1=>?_) fun _ _ f=>f.elim)))
 cases r with
 | none=>exact ao q1
 | some v=>
  refine aa (cA q1 (fun _ z2 q2=>?_) fun _ _ f=>f.elim)
  refine aa (cA q2 (fun _ z3 q3=>?_) fun _ _ f=>f.elim)
  refine aa (cA q3 (fun ok z4 q4=>?_) fun _ _ f=>f.elim)
  cases ok with
  | false=>exact ao ⟨rfl,q4⟩
  | true=>
   refine aa (aa (cA q4 (fun x z5 q5=>?_) fun _ _ f=>f.elim))
   exact aa (cA q5 (fun _ z6 q6=>ao (ao ⟨rfl,q6⟩)) fun _ _ f=>f.elim)
end
noncomputable def blk (X:Cx)(sc:Scope)(cl:List (Str×Addr))(C:Addr)(Nc:List Str)(fp:List Addr)(s:Shared)(H:Hp):Cx where
 prog:=X.prog
 w:=X.w
 K:=X.K
 mg:=X.mg
 base:=X.base
 A:=X.A
 N:=Nc
 s₀:=s
 H₀:=H
 env:=compEnvC sc cl C X.env
 outer:=X.stack
 stack:=X.stack
 ex:=fp
 fn:=fun _=>false
 calm:=X.calm
 pn:=[]
 xe:=fun _ _=>False
def blkσ (m:List (Option Nat))(σ:St):St:=m.map fun o=>match o with
 | none=>none
 | some i=>(σ[i]?).getD none
def PTs (X:Cx)(ifs:List Expr)(t:TT):Prop:=
 ∀ (ad:List (Addr×Obj)) (s:Shared) (σ:St) (H:Hp) (Q:Bool->Hp->Prop),Inv X ad σ H s->t σ H Q->wpAny (model X.prog X.w) X.A (jL8 ifs X.env) (TP X ad σ Q) X.xe s
def yQ:TT:=fun _ H Q=>Q true H
theorem jM0 {X:Cx} :PTs X [] yQ:=fun _ _ _ H _ I h=>wpAny_tests_nil ⟨H,I,h⟩
theorem jLZ {X:Cx}{c:Expr}{t:TT}(h:PT X c t):PTs X [c] t:=fun ad s σ H Q I q=>wpAny_tests_one (h ad s σ H Q I q)
def qO (m:List (Option Nat))(g:TG)(tt:TT)(te:TE)(σ:St)(Q:VK)(J:It)(H1:Hp):Prop:=∀ D,H1 D=none->∃ W:Nat->Nat->St->Hp->List V->Prop,
  (∃ n,W 0 n (blkσ m σ) (upd H1 D (.lst [])) [])/\∀ i n σ' H' ys,W i n σ' H' ys->H' D=some (.lst ys)/\ys.length<sizeLine/\
   ((J.stop i H'/\Q (.ref D) H')\/(J.go i H'/\∃ N:St->Hp->List V->Prop,(∀ σ2 H2 zs,N σ2 H2 zs->∃ n',n'<n/\W (i+1) n' σ2 H2 zs)/\∀ x H'',J.yld i H' x H''->g x σ' H'' fun σ2 H2=>tt σ2 H2 fun b H3=>
    if b=true then te σ2 H3 fun v H4=>H4 D=some (.lst ys)/\N σ2 (upd H4 D (.lst (ys++[v]))) (ys++[v])
    else N σ2 H3 ys))
def tComp (m:List (Option Nat))(wi:TI)(g:TG)(tt:TT)(te:TE):TE:=fun σ H Q=>wi σ H (qO m g tt te σ Q)
theorem Un.sameBut {fs ex:List Addr}{H H':Hp}{h h1 h2:Heap}{C:Addr}(u:Un fs ex H H' h h1)(sb:Heap.SameBut C h1 h2)(hC:h.objs.size<=C):Un fs ex H H' h h2:=by
 have ne:∀ {b:Addr}{o:Obj},h.get? b=some o->b≠C:=fun e=>bb (bh (aG e) hC)
 refine⟨fun b o e n hf hx=>(sb.2 b (ne e)).trans (u.keep b o e n hf hx),fun b o e n hf hx=>?_,u.free,fun b o e hx=>?_,u.tups,u.frzs,u.tbls⟩
 ·obtain⟨sl,q⟩:=u.slot b o e n hf hx
  exact⟨sl,(sb.2 b (ne e)).trans q⟩
 ·obtain⟨o',q⟩:=u.there b o e hx
  exact⟨o',(sb.2 b (ne e)).trans q⟩
theorem HOk.sameBut {P:Program}{w:World}{H:Hp}{h1 h2:Heap}{C:Addr}(x:HOk P w H h1)(sb:Heap.SameBut C h1 h2)(hC:H C=none):HOk P w H h2:=fun a o e=>
 (x a o e).stay (fun b u hb q=>(sb.2 b (by
  rintro rfl
  rcases hb with rfl | hb
  ·rw[hC] at e; cases e
  ·rw[hC] at hb; cases hb)).trans q) (fun _ q=>q) fun _ _ q=>q
variable {g:TG}{tt:TT}{te:TE}{m:List (Option Nat)}
section
variable {tg iter elt:Expr}{ifs:List Expr}{sc:Scope}{pos:Pos}{wi:TI}{Nc:List Str}
def jD3 (X:Cx)(sc:Scope)(Nc:List Str)(m:List (Option Nat)):Prop:=
 m.length=Nc.length/\∀ (k i:Nat),m[k]?=some (some i)->∃ x,Nc[k]?=some x/\X.N[i]?=some x/\sc.names.lookup x=some .free
theorem jOS {ad:List (Addr×Obj)}{s:Shared}{σ:St}{H:Hp}{fp:List Addr}(I:Inv X ad σ H s)(hkind:sc.kind= .function)(hcell:∀ y∈sc.names,y.2≠ .cell)
  (hfree:∀ y∈sc.names,y.2= .free->X.env.scope.names.lookup y.1=some .cell\/X.env.scope.names.lookup y.1=some .free) (hm:jD3 X sc Nc m) (hfp:∀ b∈fp,FpOk X ad H b) (hlt:∀ b∈fp,b<s.heap.objs.size)
  {h1:Heap}{tk:Nat}{md:Str->Option Value}(hns:h1.Ns s.heap.objs.size md) (old:∀ b o,s.heap.get? b=some o->h1.get? b=some o):
  Inv (blk X sc (jR X.env.cells sc.names []) s.heap.objs.size Nc fp s H) [] (blkσ m σ) H { s with heap:=h1,toks:=tk} :=by
 have hcl:∀ y∈sc.names,y.2= .free->∃ c,X.env.cells.lookup y.1=some c:=fun y hy hf=>I.ok.has y.1 (hfree y hy hf)
 have sub:∀ x c,(jR X.env.cells sc.names []).lookup x=some c->X.env.cells.lookup x=some c:=jAP sc.names [] hcl (fun x c e=>by cases e)
 have isfree:∀ x,(compEnvC sc (jR X.env.cells sc.names []) s.heap.objs.size X.env).kindOf x=some .cell\/(compEnvC sc (jR X.env.cells sc.names []) s.heap.objs.size X.env).kindOf x=some .free->sc.names.lookup x=some .free:=fun x h=>by
  rcases h with h | h
  ·exact jCD (.inl rfl) hcell h
  ·exact jCD (.inr rfl) hcell h
 refine⟨⟨I.ok.mod,hkind,I.ok.glob,I.ok.blt,ar _,fun x y c h1 h2=>I.ok.inj x y c (sub x c h1) (sub y c h2),fun x hx=>?_,fun x c hf _=>?_,I.ok.hd,I.ok.frames, .inl rfl,fun b hb=>?_,I.bs,bM I.ok.bsz I.sz,fun b o e hb=>?_,fun b hb hz=>?_,I.stack,I.stkFree⟩,
  rfl,I.bare,Un.kept old,⟨md,hns,fun k x v e1 e2 e3=>?_⟩,fun x c e=>?_,I.hok.fresh (ar _),fun x c e=>I.freeC x c (sub x c e),fun p hp=>absurd (show p∈([]:List (Addr×Obj)) from hp) (by simp),I.hok.kept old,?_⟩
 ·exact jAQ sc.names [] (.inl (jAL (isfree x hx)))
 ·exact absurd (show false=true from hf) aq
 ·obtain⟨f0,f1,f2,f3,f4,f5⟩:=hfp b hb
  exact⟨bb (hlt b hb),fun x c e=>f4 x c (sub x c e)⟩
 ·obtain⟨f0,f1,f2,f3,f4,f5⟩:=hfp b hb
  rcases f3 with q | q
  ·exact I.ok.noex b o e q
  ·exact absurd (bh (aG (I.ok.bs b o e).1) q) (df _)
 ·obtain⟨f0,f1,f2,f3,f4,f5⟩:=hfp b hb
  rcases aF.mp (I.stkSub b hz) with q | q
  ·exact f1 q
  ·exact f2 q
 ·have e2':∃ i,m[k]?=some (some i)/\σ[i]?=some (some v):=by
   unfold blkσ at e2
   rw[aA] at e2
   cases q:m[k]? with
   | none=>rw[q] at e2; cases e2
   | some o=>
    rw[q] at e2
    cases o with
    | none=>cases e2
    | some i=>
     refine⟨i,rfl,?_⟩
     have e2:(σ[i]?).getD none=some v:=bo e2
     cases r:σ[i]? with
     | none=>rw[r] at e2; cases e2
     | some z=>rw[r] at e2; exact bX some e2
  obtain⟨i,q1,q2⟩:=e2'
  obtain⟨x',a1,a2,a3⟩:=hm.2 k i q1
  have e1':Nc[k]?=some x:=e1
  rw[e1'] at a1
  cases a1
  have vis:=hfree (x, .free) (jAL a3) rfl
  obtain⟨m0,hn0,hl0⟩:=I.loc
  obtain⟨u,r,l⟩:=hl0 i x v a2 q2 (.inr vis)
  refine⟨u,r, .inr ⟨jCH a3,?_⟩⟩
  obtain⟨c,hc⟩:=jAQ (cells:=X.env.cells) (x:=x) sc.names [] (.inl (jAL a3))
  rcases l with ⟨lk,_⟩ | ⟨_,c',hc',o,ho,hd⟩
  ·have lk':X.env.scope.names.lookup x=some .local:=lk
   rcases vis with z | z
   ·rw[lk'] at z; cases z
   ·rw[lk'] at z; cases z
  ·have:=sub x c hc
   rw[hc'] at this
   cases this
   exact⟨c,hc,o,old _ _ ho,hd⟩
 ·obtain⟨v,o,ho,hd⟩:=I.cell x c (sub x c e)
  exact⟨v,o,old _ _ ho,hd⟩
 ·show (blkσ m σ).length=Nc.length
  unfold blkσ
  rw[ab]
  exact hm.1
theorem jJV {tf:St->TE}(hc:X.calm=true)(hi:PI X tg iter wi)(hkind:sc.kind= .function)(hcell:∀ y∈sc.names,y.2≠ .cell)(hnames:∀ y∈sc.names,y.2= .local->sc.names.lookup y.1=some .local)
  (hfree:∀ y∈sc.names,y.2= .free->X.env.scope.names.lookup y.1=some .cell\/X.env.scope.names.lookup y.1=some .free) (hm:jD3 X sc Nc m)
  (hg:∀ cl C fp s H,PG (blk X sc cl C Nc fp s H) tg g) (ht:∀ cl C fp s H,PTs (blk X sc cl C Nc fp s H) ifs tt) (he:∀ cl C fp s H ad σ,Inv X ad σ H s->(∀ b∈fp,FpOk X ad H b)->PE (blk X sc cl C Nc fp s H) elt (tf σ))
  (hs:∀ x,foldedSetIterable iter X.env x=pure x) {fpos:Pos}{use:Option (Value->Sem Unit)}{R:Value->Shared->Prop}{ad:List (Addr×Obj)}{s:Shared}{σ:St}{H:Hp}{Q:VK}(I:Inv X ad σ H s) (h:tComp m wi g tt (tf σ) σ H Q)
  (fin:∀ (D C:Addr) (H5:Hp) (z1:Shared) (r:Flow),(∃ mm,z1.heap.Ns C mm)->FpOk X ad H5 C->(∀ h',Heap.SameBut C z1.heap h'->Inv X ad σ H5 { z1 with heap:=h'})->Q (.ref D) H5->compPost (model X.prog X.w) X.A X.xe use R (.ref D) C (.ok r) z1):
  wpAny (model X.prog X.w) X.A (comprehension (.ListComp elt [⟨tg,iter,ifs,0⟩] sc pos) sc X.env fpos (newList []) false (eval iter X.env) use) R X.xe s:=by
 have hcl:∀ y∈sc.names,y.2= .free->∃ c,X.env.cells.lookup y.1=some c:=fun y hy hf=>I.ok.has y.1 (hfree y hy hf)
 refine wpAny_comprehension_free (use:=use) rfl hs (jIE hcl) hkind hnames (lI (hi ad s σ H _ I h) fun v s1 h1=>lI h1 fun itv s2 h2=>?_)
 obtain⟨it,fp,tn,J,H2,e,I2,T,st2,f2,hQ⟩:=h2
 subst e
 have hlt:∀ b∈fp,b<s2.heap.objs.size:=fun b hb=>by
  obtain⟨o,e,_⟩:=T.obj 0 _ st2 b hb
  exact aG e
 refine cU (wpAny_newFunctionEnv hcell (by intro y hy; simp at hy) (fun h₁ hns₁ hsb₁=>?_) hkind)
 have I3:Inv X ad σ (upd H2 s2.heap.objs.size (.lst [])) { s2 with heap:=s2.heap.push { cls:= .type "list",data:= .seq ([]:List Value).toArray}} :=I2.lnew (t':=s2.toks) .nil (bx _)
 obtain⟨W,⟨n0,w0⟩,turn⟩:=hQ s2.heap.objs.size I2.fresh
 have hD3:∀ b∈fp,b≠s2.heap.objs.size:=fun b hb=>bb (hlt b hb)
 have f3:∀ b∈fp,FpOk X ad (upd H2 s2.heap.objs.size (.lst [])) b:=fun b hb=>by
  obtain⟨a0,a1⟩:=f2 b hb
  exact⟨by rw[j8 (hD3 b hb)]; exact a0,a1⟩
 generalize hE:({ s2 with heap:=s2.heap.push { cls:= .type "list",data:= .seq ([]:List Value).toArray}} :Shared)=s3 at I3 hns₁ hsb₁ ⊢
 generalize hH3:upd H2 s2.heap.objs.size (.lst [])=H3 at I3 f3 w0
 have hsz3:s3.heap.objs.size=s2.heap.objs.size+1:=by rw[<- hE]; exact dy _ _
 have old:∀ b o,s3.heap.get? b=some o->h₁.get? b=some o:=fun b o e=>hsb₁.extBut b o (bb (aG e)) (ag _ e)
 have old2:∀ b o,s2.heap.get? b=some o->h₁.get? b=some o:=fun b o e=>old b o (by rw[<- hE]; exact ag _ e)
 have I4:=jOS (fp:=fp) (tk:=s3.toks+([]:List (Str×Value)).length) I3 hkind hcell hfree hm f3 (fun b hb=>show b<s3.heap.objs.size by rw[hsz3]; exact cB (hlt b hb)) hns₁ old
 have st4:tn 0 h₁:=T.keep _ _ _ st2 fun b hb o e=>old2 b o e
 have loop:codeAny (model X.prog X.w) X.A (.compLoop (.ListComp elt [⟨tg,iter,ifs,0⟩] sc pos) 0 (.ref it) (.ref s2.heap.objs.size) (compEnvC sc (jR X.env.cells sc.names []) s3.heap.objs.size X.env))
   (compPost (model X.prog X.w) X.A X.xe use R (.ref s2.heap.objs.size) s3.heap.objs.size) { s3 with heap:=h₁,toks:=s3.toks+([]:List (Str×Value)).length} :=by
  generalize hX:blk X sc (jR X.env.cells sc.names []) s3.heap.objs.size Nc fp s3 H3=Xb at I4
  have eP:Xb.prog=X.prog:=by rw[<- hX]; rfl
  have ew:Xb.w=X.w:=by rw[<- hX]; rfl
  have eK:Xb.K=X.K:=by rw[<- hX]; rfl
  have eA:Xb.A=X.A:=by rw[<- hX]; rfl
  have ec:Xb.calm=true:=by rw[<- hX]; exact hc
  have ee:Xb.env=compEnvC sc (jR X.env.cells sc.names []) s3.heap.objs.size X.env:=by rw[<- hX]; rfl
  have ex:Xb.xe=fun _ _=>False:=by rw[<- hX]; rfl
  have hgb:PG Xb tg g:=by rw[<- hX]; exact hg _ _ _ _ _
  have htb:PTs Xb ifs tt:=by rw[<- hX]; exact ht _ _ _ _ _
  have heb:PE Xb elt (tf σ):=by rw[<- hX]; exact he _ _ _ _ _ _ _ I3 f3
  have stat:∀ {H':Hp},(∀ b∈fp,H' b=none)->∀ b∈fp,FpOk Xb [] H' b:=fun {H'} hn b hb=>by
   obtain⟨o,eo,_⟩:=T.obj _ _ st4 b hb
   have q:=I4.ok.exf b (by rw[<- hX]; exact hb)
   exact⟨hn b hb,q.1,I4.ok.exfs b (by rw[<- hX]; exact hb), .inl (by rw[<- hX]; exact hb),q.2,fun p hp=>absurd hp (by rw[<- hX]; simp [blk])⟩
  have fr4:∀ b∈fp,H3 b=none:=fun b hb=>(f3 b hb).1
  unfold PG at hgb
  unfold PTs at htb
  unfold PE at heb
  rw[eP,ew,eA,ee,ex] at hgb htb heb
  refine jKU (fun n z=>∃ i σ' H' ys,Inv Xb [] σ' H' z/\tn i z.heap/\(∀ b∈fp,H' b=none)/\W i n σ' H' ys) ?_ n0 ⟨0,_,H3,[],I4,st4,fr4,w0⟩
  rintro n z ⟨i,σ5,H5,ys,I5,st5,fr5,w5⟩
  obtain⟨hD,hlen,way⟩:=turn i n σ5 H5 ys w5
  rcases way with ⟨stop,q⟩ | ⟨go,N,hN,step⟩
  ·have RR:=T.done Xb eP ew eK ec i [] z σ5 H5 (fun _ _=>False) I5 (stat fr5) st5 stop
   rw[eA] at RR
   refine lI RR fun r z1 ⟨hr,I6⟩=>?_
   subst hr
   obtain⟨mm,hn6,_⟩:=I6.loc
   rw[ee] at hn6
   have u6:Un (frs X.stack) fp H3 H5 s3.heap z1.heap:=by
    have:=I6.base
    rw[<- hX] at this
    exact this
   have fC:H5 s3.heap.objs.size=none:=by
    have:=I6.free
    rw[ee] at this
    exact this
   have hok6:HOk X.prog X.w H5 z1.heap:=by
    have:=I6.hok
    rw[eP,ew] at this
    exact this
   have os6:z1.os=s3.os:=by
    have:=I6.os
    rw[<- hX] at this
    exact this
   refine fin s2.heap.objs.size s3.heap.objs.size H5 z1 .next ⟨mm,hn6⟩ (I3.fpOk (ar _) fC) (fun h' sb=>?_) q
   refine I3.call' (s':= { z1 with heap:=h'}) (ch:=fp) os6 (u6.sameBut sb (ar _)) (hok6.sameBut sb fC) I6.bare (fun b hb=>?_)
   obtain⟨a0,a1,a2,a3,a4,a5⟩:=f3 b hb
   exact⟨a3,a1,a4,a5⟩
  ·have RR:=T.item Xb eP ew eK ec i [] z σ5 H5 (fun _ _=>False) I5 (stat fr5) st5 go
   rw[eA] at RR
   refine lI RR fun r z1 ⟨u,hr,h6⟩=>?_
   subst hr
   refine lI h6 fun _ z2 ⟨x,H7,I7,r7,y7,st7,fr7⟩=>?_
   have I7':=I7.pinned (stat fr7) (T.obj _ _ st7)
   refine lI (hgb _ z2 σ5 H7 x u _ I7' r7 (step x H7 y7)) fun _ z3 ⟨σ8,H8,I8,q8⟩=>?_
   refine lI (htb _ z3 σ8 H8 _ I8 q8) fun ok z4 ⟨H9,I9,q9⟩=>?_
   have again:∀ {σ7:St}{Hz:Hp}{zz:Shared}{yy:List V}{n':Nat},Inv Xb ([]++jGE fp z2.heap) σ7 Hz zz->n'<n->W (i+1) n' σ7 Hz yy->∃ k,k<n/\∃ i σ' H' ys,Inv Xb [] σ' H' zz/\tn i zz.heap/\(∀ b∈fp,H' b=none)/\W i k σ' H' ys:=fun {σ7 Hz zz yy n'} Iz hn wz=>by
    refine⟨n',hn,i+1,σ7,Hz,yy,Iz.unpinned,T.keep _ _ _ st7 fun b hb o e=>(Iz.pin (b,o) (aZ _ (aZ _ (jB7 hb e)))).1,fun b hb=>?_,wz⟩
    obtain⟨o,e,d⟩:=T.obj _ _ st7 b hb
    exact(Iz.pin (b,o) (aZ _ (aZ _ (jB7 hb e)))).2.1
   cases ok with
   | false=>
    obtain⟨n',hn,w9⟩:=hN _ _ _ (show N σ8 H9 ys from q9)
    exact again I9 hn w9
   | true=>
    refine lI (heb _ z4 σ8 H9 _ I9 q9) fun xv z5 ⟨vv,H10,I10,r10,hD10,n10⟩=>?_
    obtain⟨n',hn,w10⟩:=hN _ _ _ n10
    have RR:=jBZ (X:=Xb) _ z5 σ8 H10 (.ref s2.heap.objs.size) [vv] (.ref s2.heap.objs.size) [xv] (fun _ H'=>H'=upd H10 s2.heap.objs.size (.lst (ys++[vv]))) I10 rfl (.cons r10 .nil) ⟨_,ys,vv,rfl,rfl,hD10,hlen,rfl⟩
    rw[eP,ew,eA,ex] at RR
    refine lI RR fun _ z6 ⟨_,H11,I11,_,e11⟩=>?_
    subst e11
    exact again I11 hn w10
 exact codeAny_compStart_list loop (T.self _ 0 _ _ _ st4 loop)
theorem jHR (hc:X.calm=true)(hi:PI X tg iter wi)(hkind:sc.kind= .function)(hcell:∀ y∈sc.names,y.2≠ .cell)(hnames:∀ y∈sc.names,y.2= .local->sc.names.lookup y.1=some .local)
  (hfree:∀ y∈sc.names,y.2= .free->X.env.scope.names.lookup y.1=some .cell\/X.env.scope.names.lookup y.1=some .free) (hm:jD3 X sc Nc m)
  (hg:∀ cl C fp s H,PG (blk X sc cl C Nc fp s H) tg g) (ht:∀ cl C fp s H,PTs (blk X sc cl C Nc fp s H) ifs tt) (he:∀ cl C fp s H,PE (blk X sc cl C Nc fp s H) elt te)
  (hs:∀ x,foldedSetIterable iter X.env x=pure x:=by intro _; rfl):PE X (.ListComp elt [⟨tg,iter,ifs,0⟩] sc pos) (tComp m wi g tt te):=by
 intro ad s σ H Q I h
 rw[eval_ListComp]
 exact jJV (tf:=fun _=>te) (use:=none) hc hi hkind hcell hnames hfree hm hg ht (fun cl C fp s H _ _ _ _=>he cl C fp s H) hs I h (fun D C H5 z1 r ⟨mm,hn⟩ fC sb q=>⟨mm,hn,fun h' s2=>⟨.ref D,H5,sb h' s2,rfl,q⟩⟩)
end
theorem jW {X:Cx}{sc psc:Scope}(h:(sc.names.all fun y=>decide (y.2= .free->psc.names.lookup y.1=some .cell\/psc.names.lookup y.1=some .free))=true:=by decide+kernel)(e:X.env.scope=psc:=by rfl):
  ∀ y∈sc.names,y.2= .free->X.env.scope.names.lookup y.1=some .cell\/X.env.scope.names.lookup y.1=some .free:=by
 rw[e]
 intro y hy
 exact az (bB.mp h y hy)
def jO2 (sc:Scope)(N Nc:List Str)(m:List (Option Nat))(k:Nat):Bool:=match m[k]? with
 | some (some i)=>match Nc[k]? with
  | some x=>decide (N[i]?=some x)&&decide (sc.names.lookup x=some .free)
  | none=>false
 | _=>true
theorem jH {X:Cx}{sc:Scope}{N Nc:List Str}{m:List (Option Nat)}(e:X.N=N)(hl:m.length=Nc.length)(h:((List.range m.length).all (jO2 sc N Nc m))=true):jD3 X sc Nc m:=by
 refine⟨hl,fun k i hk=>?_⟩
 have hlt:k<m.length:=(ax.mp hk).1
 have q:=bB.mp h k (br.mpr hlt)
 unfold jO2 at q
 rw[hk] at q
 cases e2:Nc[k]? with
 | none=>rw[e2] at q; cases q
 | some x=>
  rw[e2] at q
  have q:(decide (N[i]?=some x)&&decide (sc.names.lookup x=some .free))=true:=q
  rw[cg] at q
  exact⟨x,rfl,by rw[e]; exact az q.1,az q.2⟩
section
variable {σ:St}{H1:Hp}{Q:VK}
theorem jBF {lo:Int}{n:Nat}(hn:n<sizeLine)(Pv:Addr->Nat->St->Hp->List V->Prop)(h0:∀ D,H1 D=none->Pv D 0 (blkσ m σ) (upd H1 D (.lst [])) [])
  (hD:∀ D i σ' H' ys,H1 D=none->i<=n->Pv D i σ' H' ys->H' D=some (.lst ys)/\ys.length<=i)
  (hs:∀ D i σ' H' ys,H1 D=none->i<n->Pv D i σ' H' ys->g (.int (lo+i)) σ' H' fun σ2 H2=>tt σ2 H2 fun b H3=>if b=true then te σ2 H3 fun v H4=>H4 D=some (.lst ys)/\Pv D (i+1) σ2 (upd H4 D (.lst (ys++[v]))) (ys++[v]) else Pv D (i+1) σ2 H3 ys)
  (hd:∀ D σ' H' ys,H1 D=none->Pv D n σ' H' ys->Q (.ref D) H'):qO m g tt te σ Q (Itr lo n) H1:=by
 intro D hDn
 refine⟨fun i k σ' H' ys=>k=n - i/\i<=n/\Pv D i σ' H' ys,⟨n,rfl,bx _,h0 D hDn⟩,?_⟩
 rintro i k σ' H' ys ⟨rfl,hi,p⟩
 obtain⟨q1,q2⟩:=hD D i σ' H' ys hDn hi p
 refine⟨q1,by lia,?_⟩
 by_cases hlt:i<n
 ·refine .inr ⟨hlt,Pv D (i+1),fun σ2 H2 zs z=>⟨n - (i+1),by lia,rfl,hlt,z⟩,fun x H'' y=>?_⟩
  obtain⟨e1,e2⟩:=y
  subst e1 e2
  exact hs D i σ' _ ys hDn hlt p
 ·have e:i=n:=by lia
  subst e
  exact .inl ⟨ar _,hd D σ' H' ys hDn p⟩
end
end L2
end
namespace SS
open PySem PySem.SetTable
abbrev Ris (xs:Array Nat):Prop:=xs.toList.Pairwise (· < ·)
theorem jCC {xs:Array Nat}(h:Ris xs){a b:Nat}(hab:a<b)(hb:b<xs.size):xs.getD a 0<xs.getD b 0:=by
 have h1:a<xs.size:=iq hab hb
 have:=bW.mp h a b (by simpa using h1) (by simpa using hb) hab
 simpa [Array.getD,h1,hb] using this
theorem jTR {xs:Array Nat}{j:Nat}(hr:Ris xs):∀ (fuel lo hi:Nat),hi - lo<=fuel->lo<=hi->hi<=xs.size->(∀ a,a<lo->xs.getD a 0<j)->(∀ a,hi<=a->a<xs.size->j<=xs.getD a 0)->
  (below.go xs j fuel lo hi<=xs.size/\(∀ a,a<below.go xs j fuel lo hi->xs.getD a 0<j)/\(∀ a,below.go xs j fuel lo hi<=a->a<xs.size->j<=xs.getD a 0)):=by
 intro fuel
 induction fuel with
 | zero=>
  intro lo hi h1 h2 h3 h4 h5
  have e:lo=hi:=by lia
  subst e
  exact⟨h3,h4,h5⟩
 | succ fuel ih=>
  intro lo hi h1 h2 h3 h4 h5
  unfold below.go
  by_cases hlt:lo<hi
  ·rw[ah hlt]
   have hm:(lo+hi) / 2<xs.size:=by lia
   have e:xs.getD ((lo+hi) / 2) j=xs.getD ((lo+hi) / 2) 0:=by simp [Array.getD,hm]
   dsimp only
   rw[e]
   by_cases hc:xs.getD ((lo+hi) / 2) 0<j
   ·rw[ah hc]
    refine ih _ _ (by lia) (by lia) h3 (fun a ha=>?_) h5
    by_cases e2:a=(lo+hi) / 2
    ·rw[e2]; exact hc
    ·exact iq (jCC hr (by lia) hm) hc
   ·rw[ae hc]
    refine ih _ _ (by lia) (by lia) (by lia) h4 (fun a ha hs=>?_)
    by_cases e2:a=(lo+hi) / 2
    ·rw[e2]; lia
    ·have:=jCC hr (show (lo+hi) / 2<a by lia) hs
     lia
  ·rw[ae hlt]
   have e:lo=hi:=by lia
   subst e
   exact⟨h3,h4,h5⟩
theorem jEQ {xs:Array Nat}(hr:Ris xs)(j:Nat):below xs j<=xs.size/\(∀ a,a<below xs j->xs.getD a 0<j)/\(∀ a,below xs j<=a->a<xs.size->j<=xs.getD a 0):=
 jTR hr xs.size 0 xs.size (by lia) (bx _) (ar _) (fun a h=>absurd h (eF _)) (fun a h1 h2=>absurd h2 (by lia))
theorem jFV {xs:Array Nat}(hr:Ris xs){j i:Nat}(hi:i<=xs.size)(h1:∀ a,a<i->xs.getD a 0<j)(h2:∀ a,i<=a->a<xs.size->j<=xs.getD a 0):below xs j=i:=by
 obtain⟨b1,b2,b3⟩:=jEQ hr j
 rcases gy (below xs j) i with h | h | h
 ·have q1:=h1 _ h
  have q2:=b3 _ (ar _) (by lia)
  lia
 ·exact h
 ·have q1:=b2 _ h
  have q2:=h2 _ (ar _) (by lia)
  lia
theorem jAA {α:Type}(xs:Array α)(p:Nat)(x:α):(insertAt xs p x).toList=xs.toList.take p++x::xs.toList.drop p:=by
 unfold insertAt
 simp [fm,List.extract]
 rw[bK (by simp)]
theorem jBU {α:Type}(xs:Array α)(p:Nat)(x:α):(insertAt xs p x).size=xs.size+1:=by
 rw[<- aV,jAA]
 simp
 lia
theorem jKA {xs:Array Nat}{j:Nat}(hr:Ris xs)(hj:j∉xs.toList):Ris (insertAt xs (below xs j) j):=by
 obtain⟨b1,b2,b3⟩:=jEQ hr j
 show (insertAt xs (below xs j) j).toList.Pairwise (· < ·)
 rw[jAA,cF,cG]
 have hl:∀ a∈xs.toList.take (below xs j),a<j:=by
  intro a ha
  obtain⟨i,hi,e⟩:=List.mem_take_iff_getElem.mp ha
  have:=b2 i (by lia)
  have hs:i<xs.size:=by simp at hi; lia
  simp [Array.getD,hs] at this
  simp at e
  lia
 have hg:∀ a∈xs.toList.drop (below xs j),j<a:=by
  intro a ha
  obtain⟨i,hi,e⟩:=List.mem_drop_iff_getElem.mp ha
  have hs:i+below xs j<xs.size:=by simpa [gx] using hi
  have:=b3 (i+below xs j) (by lia) hs
  simp [Array.getD,hs] at this
  have e':xs[i+below xs j]=a:=by simpa [gx] using e
  have hne:a≠j:=by
   intro z
   apply hj
   rw[<- z]
   exact cH ha
  lia
 refine⟨hr.sublist (dH _ _),⟨hg,hr.sublist (iQ _ _)⟩,?_⟩
 intro a ha b hb
 rcases aF.mp hb with rfl | hb
 ·exact hl a ha
 ·exact iq (hl a ha) (hg b hb)
theorem jDN {t:SetTable}{j:Nat}(hr:Ris t.place)(h:t.slot j= .empty):j∉t.place.toList:=by
 intro hm
 obtain⟨i,hi,e⟩:=eR hm
 have hs:i<t.place.size:=by simpa using hi
 have e0:t.place[i]=j:=by simpa using e
 have eb:below t.place j=i:=by
  refine jFV hr (dh hs) (fun a ha=>?_) (fun a h1 h2=>?_)
  ·have:=jCC hr ha hs
   simp only [Array.getD,hs] at this ⊢
   simp [e0] at this ⊢
   exact this
  ·by_cases e2:a=i
   ·subst e2
    simp [Array.getD,hs,e0]
   ·have:=jCC hr (show i<a by lia) h2
    simp only [Array.getD,hs] at this
    simp [e0] at this
    simp [Array.getD]
    lia
 unfold SetTable.slot at h
 dsimp only at h
 rw[eb] at h
 rw[ah (by simp [hs,e0])] at h
 cases h
theorem jI6 (j:Nat):has #[] j=false:=by
 unfold has
 simp
theorem jIY {t:SetTable}(hd:t.dummies=#[]){f:Nat->Int}{h:Int} :∀ (fuel:Nat) (p:Probe) (m:Met),p.dummy=none->probe.go t f h fuel p=some m->
  (∃ j,m= .empty j none/\t.slot j= .empty)\/(∃ j i n,m= .candidate j i n):=by
 intro fuel
 induction fuel with
 | zero=>intro p m _ e; simp [probe.go] at e
 | succ fuel ih=>
  intro p m hp e
  unfold probe.go at e
  cases hs:t.slot p.j with
  | empty=>
   rw[hs] at e
   simp only [iR] at e
   subst e
   exact .inl ⟨p.j,by rw[hp],hs⟩
  | dummy=>
   unfold SetTable.slot at hs
   dsimp only at hs
   rw[hd,jI6] at hs
   split at hs
   ·cases hs
   ·simp at hs
  | live i=>
   rw[hs] at e
   dsimp only at e
   split at e
   ·simp only [iR] at e
    subst e
    exact .inr ⟨_,_,_,rfl⟩
   ·refine ih _ _ ?_ e
    unfold advance
    split
    ·exact hp
    ·exact hp
theorem jFN {t:SetTable}(hr:Ris t.place)(hd:t.dummies=#[]){h:Int}{slot:Nat}{d:Bool}(e:t.freeSlot h=some (slot,d)):slot∉t.place.toList:=by
 unfold SetTable.freeSlot at e
 split at e
 ·rename_i j dummy hp
  simp only [iR,Prod.mk.injEq] at e
  have hp':probe.go t (fun _=>h+1) h (10*turns t.mask) (t.probeStart h)=some (.empty j dummy):=hp
  rcases jIY hd _ _ _ (by unfold probeStart; rfl) hp' with ⟨j',em,hs⟩ | ⟨_,_,_,em⟩
  ·cases em
   have:slot=j:=by rw[<- e.1]; rfl
   rw[this]
   exact jDN hr hs
  ·cases em
 ·cases e
theorem jK9 {t:SetTable}{j:Nat}(hd:t.dummies=#[])(h:t.slot j≠ .empty):(∃ i,t.slot j= .live i)/\j∈t.place.toList:=by
 unfold SetTable.slot at h ⊢
 dsimp only at h ⊢
 by_cases q:(t.place[below t.place j]?==some j)=true
 ·rw[ah q]
  refine⟨⟨_,rfl⟩,?_⟩
  have e:t.place[below t.place j]?=some j:=eq_of_beq q
  obtain⟨hi,e⟩:=Array.getElem?_eq_some_iff.mp e
  rw[<- e]
  exact Array.getElem_mem_toList hi
 ·rw[ae q,hd,jI6] at h
  exact absurd rfl h
theorem run7 (i:Nat):runEnd 7 i=i:=by unfold runEnd; rw[ae (by lia)]
theorem jM1 {t:SetTable}(hm:t.mask=7)(hd:t.dummies=#[]){h:Int} :∀ (k fuel:Nat) (p:Probe),p.j=p.i->p.more=0->p.i<8->p.perturb<32->k<=fuel->
  probe.go t (fun _=>h+1) h fuel p=none->∀ r,r<k->Nat.repeat (fun i=>(i*5+1) % 8) r p.i∈t.place.toList:=by
 intro k
 induction k with
 | zero=>intro fuel p _ _ _ _ _ _ r hr; lia
 | succ k ih=>
  intro fuel p h1 h2 h3 h4 h5 h6 r hr
  obtain⟨f,rfl⟩:∃ f,fuel=f+1:=⟨fuel - 1,by lia⟩
  unfold probe.go at h6
  by_cases he:t.slot p.j= .empty
  ·rw[he] at h6; cases h6
  ·obtain⟨⟨i,hl⟩,hmem⟩:=jK9 hd he
   rw[hl] at h6
   dsimp only at h6
   rw[ae (by simp; lia)] at h6
   have hz:p.perturb / 32=0:=by lia
   have ea:t.advance p= { p with j:=(p.i*5+1) % 8,more:=0,i:=(p.i*5+1) % 8,perturb:=0} :=by
    unfold advance leap
    rw[ae (by lia),hm,hz]
    simp [run7]
   rw[ea] at h6
   cases r with
   | zero=>show p.i∈_; rw[<- h1]; exact hmem
   | succ r=>
    have q:=ih f _ (by rfl) (by rfl) (by show (p.i*5+1) % 8<8; lia) (by show 0<32; lia) (by lia) h6 r (by lia)
    have e:∀ (r i:Nat),Nat.repeat (fun i=>(i*5+1) % 8) (r+1) i=Nat.repeat (fun i=>(i*5+1) % 8) r ((i*5+1) % 8):=by
     intro r
     induction r with
     | zero=>intro i; rfl
     | succ r ihr=>
      intro i
      show ((Nat.repeat _ (r+1) i)*5+1) % 8=((Nat.repeat _ r ((i*5+1) % 8))*5+1) % 8
      rw[ihr]
    rw[e]
    exact q
theorem jOX:∀ i,i<8->∀ j,j<8->∃ r,r<8/\Nat.repeat (fun i=>(i*5+1) % 8) r i=j:=by decide+kernel
theorem jFM {t:SetTable}(hm:t.mask=7)(hd:t.dummies=#[])(hz:t.place.size<8){h:Int}(h0:0<=h)(h1:h<32):∃ q,t.freeSlot h=some q:=by
 unfold SetTable.freeSlot
 have hb:bits h<32:=by unfold bits; lia
 have hps:t.probeStart h= { j:=bits h % 8,more:=0,i:=bits h % 8,perturb:=bits h,dummy:=none} :=by
  unfold probeStart
  rw[hm]
  simp [run7]
 cases e:t.probe (fun _=>h+1) h (t.probeStart h) with
 | none=>
  exfalso
  have e':probe.go t (fun _=>h+1) h (10*turns t.mask) (t.probeStart h)=none:=e
  rw[hps] at e'
  have q:=jM1 hm hd 8 _ _ (by rfl) (by rfl) (by show bits h % 8<8; lia) (by exact hb) (by rw[hm]; decide) e'
  have sub:List.range 8 ⊆ t.place.toList:=by
   intro j hj
   obtain⟨r,hr,er⟩:=jOX (bits h % 8) (by lia) j (br.mp hj)
   rw[<- er]
   exact q r hr
  have:=List.Nodup.length_le_of_subset (List.nodup_range (n:=8)) sub
  simp at this
  lia
 | some m=>
  rcases jIY hd _ _ _ (by rw[hps]) (show probe.go t (fun _=>h+1) h (10*turns t.mask) (t.probeStart h)=some m from e) with ⟨j,rfl,_⟩ | ⟨j,i,n,rfl⟩
  ·exact⟨_,rfl⟩
  ·exfalso
   have nc:∀ (fuel:Nat) (p:Probe) (j i:Nat) (n:Probe),probe.go t (fun _=>h+1) h fuel p≠some (.candidate j i n):=by
    intro fuel
    induction fuel with
    | zero=>intro p j i n; simp [probe.go]
    | succ f ih=>
     intro p j i n
     unfold probe.go
     cases t.slot p.j with
     | empty=>simp
     | dummy=>exact ih _ _ _ _
     | live i'=>
      dsimp only
      rw[ae (by simp; lia)]
      exact ih _ _ _ _
   exact nc _ _ _ _ _ e
structure Tab (t:SetTable)(n:Nat)(led:Bool):Prop where
 ris:Ris t.place
 sz:t.place.size=n
 dm:t.dummies=#[]
 msk:t.mask=7
 pl:t.plain=true
 ld:t.led=led
theorem Tab.fits {t:SetTable}{n:Nat}{led:Bool}(T:Tab t n led)(hn:n<=4):t.fits n=true:=by
 unfold SetTable.fits fill
 simp [T.sz,T.dm,T.msk]
 lia
theorem Tab.full {t:SetTable}{n:Nat}{led:Bool}(T:Tab t n led)(hn:n<=4):t.tooFull=false:=by
 unfold tooFull fill
 simp [T.sz,T.dm,T.msk]
 lia
theorem jL9 (led:Bool):Tab (fresh 0 0 led) 0 led:=⟨List.Pairwise.nil,rfl,rfl,rfl,rfl,rfl⟩
theorem jKL {t:SetTable}{n:Nat}{led:Bool}(T:Tab t n led)(hn:n+1<=4)(es:Array (Int×Value))(he:es.size=n){h:Int}(h0:0<=h)(h1:h<32)(x:Value):
  Tab (layNew t es h x).2.1 (n+1) led/\∃ p,(layNew t es h x).1.toList=es.toList.take p++(h,x)::es.toList.drop p:=by
 obtain⟨⟨slot,d⟩,hf⟩:=jFM T.msk T.dm (by rw[T.sz]; lia) h0 h1
 unfold layNew
 rw[hf]
 dsimp only [SetTable.put]
 have hnm:=jFN T.ris T.dm hf
 have T2:Tab { t with place:=insertAt t.place (below t.place slot) slot,dummies:=if has t.dummies slot then eraseAt t.dummies (below t.dummies slot) else t.dummies} (n+1) led:=by
  refine⟨jKA T.ris hnm,by rw[jBU,T.sz],?_,T.msk,T.pl,T.ld⟩
  rw[T.dm,jI6]
  rfl
 refine⟨?_,_,jAA _ _ _⟩
 unfold SetTable.orStandIn
 rw[jBU,he,T2.fits hn]
 exact T2
def jIR (xs:Array Nat):Nat->Nat
 | 0=>0
 | i+1=>xs.getD i 0+1
theorem jHF {xs:Array Nat}(hr:Ris xs){i:Nat}(hi:i<=xs.size):below xs (jIR xs i)=i:=by
 cases i with
 | zero=>exact jFV hr (bx _) (fun a h=>absurd h (eF _)) (fun a _ _=>bx _)
 | succ i=>
  refine jFV hr hi (fun a ha=>?_) (fun a h1 h2=>?_)
  ·show _<xs.getD i 0+1
   by_cases e:a=i
   ·rw[e]; lia
   ·have:=jCC hr (show a<i by lia) (show i<xs.size by lia)
    lia
  ·show xs.getD i 0+1<=_
   exact jCC hr (show i<a by lia) h2
theorem jKS {α:Type}{l:List α}{i:Nat}(h:i<l.length):(l[i]::l.eraseIdx i).Perm l:=by
 rw[eO]
 have e:l=l.take i++l[i]::l.drop (i+1):=by rw[<- List.drop_eq_getElem_cons h,bz]
 conv=>rhs; rw[e]
 exact List.perm_middle.symm
theorem jSI {α:Type}(next:Nat->Nat):∀ (fuel k:Nat) (left:List α) (out:Array α),fuel=left.length->(pickOrder.go next fuel k left out).toList.Perm (out.toList++left):=by
 intro fuel
 induction fuel with
 | zero=>
  intro k left out h
  have:left=[]:=eT.mp h.symm
  subst this
  simp [pickOrder.go]
 | succ f ih=>
  intro k left out h
  have hl:next k % left.length<left.length:=Nat.mod_lt _ (by lia)
  unfold pickOrder.go
  rw[ak hl]
  dsimp only
  refine(ih _ _ _ (by rw[List.length_eraseIdx_of_lt hl]; lia)).trans ?_
  rw[eJ,be]
  exact dv _ (jKS hl)
theorem jGF {α:Type}(next:Nat->Nat)(xs:Array α):(pickOrder next xs).toList.Perm xs.toList:=by
 unfold pickOrder
 have:=jSI next xs.size 0 xs.toList #[] (by simp)
 simpa using this
end SS
namespace SS
open PySem
abbrev ledW (w:World):Bool:=!(w.params.followText "set-order")
def El (e:Int×Value)(k:Int):Prop:=e.1=hashInt k/\∃ t,e.2= .int k t
theorem jBN {α β:Type}{F:α->β->Prop} :∀ {l:List α}{r:List β},Paired F l r->∀ a∈l,∃ b∈r,F a b
 | _,_, .nil=>fun a h=>by cases h
 | _,_, .cons f t=>fun a h=>by
  rcases aF.mp h with rfl | h
  ·exact⟨_,am,f⟩
  ·obtain⟨b,hb,q⟩:=jBN t a h
   exact⟨b,aj _ hb,q⟩
theorem jCY {α β:Type}{F:α->β->Prop} :∀ {l:List α}{r:List β},Paired F l r->∀ b∈r,∃ a∈l,F a b
 | _,_, .nil=>fun a h=>by cases h
 | _,_, .cons f t=>fun b h=>by
  rcases aF.mp h with rfl | h
  ·exact⟨_,am,f⟩
  ·obtain⟨a,ha,q⟩:=jCY t b h
   exact⟨a,aj _ ha,q⟩
theorem jEE {α β:Type}{F:α->β->Prop}{a:α}{b:β}(f:F a b):∀ {l:List α}{r:List β}(p:Nat),Paired F l r->Paired F (l.take p++a::l.drop p) (r.take p++b::r.drop p)
 | _,_,0,q=>by simpa using Paired.cons f q
 | _,_,p+1, .nil=>by simpa using Paired.cons f .nil
 | _,_,p+1, .cons g t=>by
  simp only [lg,List.drop_succ_cons,List.cons_append]
  exact .cons g (jEE f p t)
theorem jS8 {α:Type}(l:List α)(p:Nat)(x z:α):z∈l.take p++x::l.drop p↔z=x\/z∈l:=by
 conv=>rhs; rw[<- bz p l]
 simp only [aR,aF]
 constructor
 ·rintro (h | h | h)
  ·exact .inr (.inl h)
  ·exact .inl h
  ·exact .inr (.inr h)
 ·rintro (h | h | h)
  ·exact .inr (.inl h)
  ·exact .inl h
  ·exact .inr (.inr h)
theorem jF7 {α:Type}(l:List α)(p:Nat)(x:α):(l.take p++x::l.drop p).Perm (x::l):=by
 have h:(l.take p++x::l.drop p).Perm (x::(l.take p++l.drop p)):=List.perm_middle
 rw[bz] at h
 exact h
structure SetG (w:World)(h:Heap)(a:Addr)(ks:List Int):Prop where
 ex:∃ o es ep t,h.get? a=some o/\o.ExactSet/\o.data= .set es ep t/\Paired El es.toList ks/\Tab t es.size (ledW w)
 nd:ks.Nodup
 len:ks.length<=4
variable {prog:Program}{w:World}{A:Around}{E:Value->Shared->Prop}{s:Shared}{a:Addr}
section
variable {ks:List Int}{k:Int}{tk:Tok}
theorem elems {es:List (Int×Value)}(h:Paired El es ks):ElemsOf (intKind prog w) es:=fun e he=>by
 obtain⟨k,_,h1,t,h2⟩:=jBN h e he
 rw[h2]
 exact⟨⟨k,by show Value.isInt k (.int k t)=true; simp [Value.isInt],h1⟩,rfl⟩
theorem SetG.at {h h':Heap}(S:SetG w h a ks)(e:∀ o,h.get? a=some o->h'.get? a=some o):SetG w h' a ks:=by
 obtain⟨⟨o,es,ep,t,ho,r⟩,nd,len⟩:=S
 exact⟨⟨o,es,ep,t,e _ ho,r⟩,nd,len⟩
theorem jC1 (k0:0<=k)(k1:k<32):hashInt k=k:=by
 obtain⟨n,rfl⟩:=Int.eq_ofNat_of_zero_le k0
 have e:∀ n:Nat,n<32->hashInt (n:Int)=(n:Int):=by decide+kernel
 exact e n (by lia)
theorem jWG {Q:Bool->Shared->Prop}(S:SetG w s.heap a ks)(hl:ks.length+1<=4)(k0:0<=k)(k1:k<32)
  (h:∀ b h' ks',Heap.SameBut a s.heap h'->SetG w h' a ks'->(∀ z,z∈ks'↔z=k\/z∈ks)->ks'.length<=ks.length+1->Q b { s with heap:=h'}):
  wpAny (model prog w) A (setAddHashed a (.int k tk) (hashInt k)) Q E s:=by
 obtain⟨o,es,ep,t,ho,hex,hd,hp,T⟩:=id S.ex
 have hn:es.size=ks.length:=by rw[<- aV]; exact gU hp
 have hf:=T.fits (by lia)
 have hel:ElemsOf (intKind prog w) es.toList:=elems hp
 have hb:es.size<scanBound:=by unfold scanBound; lia
 have hi:∀ (j:Int) (t:Tok),Value.isInt k (.int j t)=true->j=k:=fun j t e=>by simpa [Value.isInt] using e
 unfold setAddHashed setAddHashedIn
 refine ck (aa (dI ho hd hf ?_))
 dsimp only
 rw[byScan_of (knd:=intKind prog w) rfl hb hel,ah rfl]
 unfold setAddByScan
 refine aa (aa (dw (aa ?_)))
 refine wpAny_setScan_of (knd:=intKind prog w) (k:=k) (by show Value.isInt k (.int k tk)=true; simp [Value.isInt]) ho hd hf hel ?_
 have es0:s= { s with heap:=s.heap} :=by cases s; rfl
 cases hr:List.findIdx? (fun e=>(intKind prog w).is k e.2) es.toList with
 | some j=>
  obtain⟨hj,hpj,_⟩:=List.findIdx?_eq_some_iff_getElem.mp hr
  obtain⟨k',hk',_,t',e'⟩:=jBN hp _ (cM hj)
  have hkk:k'=k:=hi k' t' (by rw[<- e']; exact hpj)
  subst hkk
  refine ao (ao ?_)
  rw[es0]
  exact h false s.heap ks (Heap.SameBut.refl a s.heap) S (fun z=>⟨.inr,fun q=>q.elim (fun e=>e ▸ hk') id⟩) (by lia)
 | none=>
  have hnk:k∉ks:=fun hm=>by
   obtain⟨e,he,_,t',e'⟩:=jCY hp k hm
   have q:=List.findIdx?_eq_none_iff.mp hr e he
   rw[e'] at q
   have q':Value.isInt k (.int k t')=false:=q
   simp [Value.isInt] at q'
  obtain⟨T1,p,hp1⟩:=jKL T (by lia) es rfl (h:=hashInt k) (by rw[jC1 k0 k1]; exact k0) (by rw[jC1 k0 k1]; exact k1) (.int k tk)
  dsimp only
  show wpAny _ A (match layNew t es (hashInt k) (Value.int k tk) with | (es,t,wasDummy,gave)=>_) _ E s
  generalize layNew t es (hashInt k) (Value.int k tk)=L at T1 hp1 ⊢
  obtain⟨es1,t1,wd,gv⟩:=L
  dsimp only at T1 hp1 ⊢
  have hp2:Paired El es1.toList (ks.take p++k::ks.drop p):=by
   rw[hp1]
   exact jEE ⟨rfl,tk,rfl⟩ p hp
  have hz1:es1.size=es.size+1:=by
   rw[<- aV,hp1,(jF7 es.toList p (hashInt k,Value.int k tk)).length_eq]
   simp
  have hlen:(ks.take p++k::ks.drop p).length=ks.length+1:=(jF7 ks p k).length_eq
  have T1':Tab t1 es1.size (ledW w):=by rw[hz1]; exact T1
  have hg:(s.heap.update a (Obj.putSet es1 t1)).get? a=some { o with data:= .set es1 (ep+1) t1} :=by
   have q:=cV (Obj.putSet es1 t1) ho (by rw[putSet_of es1 t1 hd]; rfl)
   rw[putSet_of es1 t1 hd] at q
   exact q
  have fin:Q true { s with heap:=s.heap.update a (Obj.putSet es1 t1)} :=
   h true _ _ (im ..) ⟨⟨_,es1,ep+1,t1,hg,hex,rfl,hp2,T1'⟩,(jF7 ks p k).nodup_iff.mpr (bF.mpr ⟨hnk,S.nd⟩),by lia⟩ (fun z=>jS8 ks p k z) (by lia)
  have hfull:t1.tooFull=false:=T1'.full (by lia)
  refine aa (show wpAny _ A (match gv with | true=>rule "set.scan.the-table-gave-way" | false=>pure ()) _ E s from ?_)
  have hzl:es1.size<=sizeLine:=by rw[hz1,show sizeLine=2 ^ 24 from rfl]; lia
  cases gv with
  | true=>
   refine dw ?_
   split
   all_goals
    refine aa (show wpAny _ A (pure true:Sem Bool) _ E s from ao ?_)
    simp only [gW]
    refine aa (wpAny_storeSet_of ho hd ?_ hzl)
    rw[hfull,eU,ae aq]
    exact ao (ao fin)
  | false=>
   refine ao ?_
   split
   all_goals
    refine aa (show wpAny _ A (pure true:Sem Bool) _ E s from ao ?_)
    simp only [gW]
    refine aa (wpAny_storeSet_of ho hd ?_ hzl)
    rw[hfull,eU,ae aq]
    exact ao (ao fin)
end
theorem jBK:entryFor table "set.update.loop" =some Builtin.«set.update.loop»:=entryFor_of_fast (by kernel_rfl)
theorem jAJ:plainId "set.update.loop" =true:=by decide+kernel
variable {I:Addr}
section
variable {R:Result->Shared->Prop}{fp wr:List Addr}{n:Nat}{P:Nat->Value->Prop}{St:Nat->Shared->Prop}
theorem jP6 (W:WalksS prog w A.in1 I fp wr (fun a b=>b=a) n P St)(S:Addr)(hSf:S∉fp)(val:Nat->Int)(hval:∀ i v,P i v->∃ t,v= .int (val i) t)(hv:∀ i,i<n->0<=val i/\val i<32)(hn:n<=4):
  ∀ (k i:Nat) (s:Shared) (ks:List Int),n - i=k->i<=n->St i s->SetG w s.heap S ks->ks.length<=i->(∀ z,z∈ks↔∃ j,j<i/\val j=z)->
   (∀ s' ks',Moved (S::wr) (fun a b=>b=a) s s'->SetG w s'.heap S ks'->(∀ z,z∈ks'↔∃ j,j<n/\val j=z)->R (.ok (.ret .none)) s')->
   codeAny (model prog w) A (.builtin "set.update.loop" ⟨[.ref S, .ref I],[]⟩) R s:=by
 have hSw:S∉wr:=fun h=>hSf (W.sub _ h)
 have sub1:∀ b∈wr,b∈S::wr:=fun b hb=>aj _ hb
 intro k
 induction k with
 | zero=>
  intro i s ks hk hi hst hS hl hm hR
  obtain rfl:i=n:=by lia
  refine cL jBK ?_
  rw[ci jAJ _]
  show wpAny _ A.in1 (pyNext (.ref I) >>= _) _ _ s
  refine aa (W.done s _ _ hst fun s' mv=>?_)
  show wpAny _ A.in1 (ret Value.none) _ _ s'
  exact ao (hR s' ks (mv.mono sub1) (hS.at fun o e=>mv.heap S o hSw e) hm)
 | succ k ih=>
  intro i s ks hk hi hst hS hl hm hR
  have hlt:i<n:=by lia
  refine cL jBK ?_
  rw[ci jAJ _]
  show wpAny _ A.in1 (pyNext (.ref I) >>= _) _ _ s
  refine aa (W.item i s _ _ hlt hst fun v s' hP hst' mv=>?_)
  obtain⟨t,rfl⟩:=hval i v hP
  have hS':=hS.at (h':=s'.heap) fun o e=>mv.heap S o hSw e
  show wpAny _ A.in1 (holding [Value.int (val i) t] (setAdd S (.int (val i) t)) >>= _) _ _ s'
  refine aa (ck ?_)
  unfold setAdd
  refine ck (aa (wpAny_pyHash_int ?_))
  refine jWG (s:= { s' with toks:=s'.toks+1}) hS' (by lia) (hv i hlt).1 (hv i hlt).2 fun b h' ks' sb hS2 hm2 hl2=>?_
  refine ao ⟨dS jAJ _,ih (i+1) _ ks' (by lia) hlt (W.frame _ s' _ _ hst' (kh _) fun b hb o e=>?_) hS2 (by lia) (fun z=>?_) fun s'' ks'' mv2 hS3 hm3=>?_⟩
  ·rw[sb.2 b (fun h:b=S=>hSf (by rw[<- h]; exact hb))]
   exact e
  ·rw[hm2,hm]
   constructor
   ·rintro (h | ⟨j,hj,e⟩)
    ·exact⟨i,by lia,h.symm⟩
    ·exact⟨j,by lia,e⟩
   ·rintro ⟨j,hj,e⟩
    by_cases hji:j=i
    ·exact .inl (by rw[<- e,hji])
    ·exact .inr ⟨j,by lia,e⟩
  ·refine hR s'' ks'' (Moved.trans W.gtrans ((mv.mono sub1).then_heap (kh _) fun b o hb e=>?_) mv2) hS3 hm3
   rw[sb.2 b (fun h:b=S=>hb (by rw[h]; exact am))]
   exact e
end
section
theorem jTA (a:Value){Q:Value->Shared->Prop}
  (h:Q (.ref s.heap.objs.size) { s with heap:=s.heap.push { cls:= .type "set",dict:=none,data:= .set #[] 0 (.fresh 0 0 (ledW w))}}):
  codeAny (model prog w) A (.call (.builtin "set.__new__") ⟨[.type "set",a],[]⟩) (wants Q E) s:=by
 refine codeAny_of_tree (show wpAny _ A.in1 (do checkBuiltinCall "set.__new__" ⟨[.type "set",a],[]⟩; again (.builtin "set.__new__" ⟨[.type "set",a],[]⟩)) _ _ s from ?_)
 refine aa (ki (F.newCall_set_1 a) (ao ⟨dS F.plain_set_new _,cL F.entry_set_new ?_⟩))
 rw[ci F.plain_set_new _]
 unfold Builtin.«set.__new__» Builtin.Frozenset.newClass
 have q:=sub_set_self
 obtain⟨hp,g,d,tk,os⟩:=s
 dsimp only
 wp_walk
 refine fN (ao ?_)
 dsimp only
 simp only [newObj]
 exact aa (wpAny_alloc (ao (ao h)))
set_option maxHeartbeats 3200000 in
theorem set_of_list {l:Addr}{items:Array Value}{ns:List Int}{Q:Value->Shared->Prop}(hh:A.handled=none)(hl:s.heap.IsList l items)(hi:PyProof.Rows.IntsAre items.toList ns)
  (hn:items.size<=4) (hv:∀ z∈ns,0<=z/\z<32)
  (h:∀ (h':Heap) (tk:Nat) (ks:List Int),SetG w h' s.heap.objs.size ks->(∀ z,z∈ks↔z∈ns)->(∀ b o,s.heap.get? b=some o->h'.get? b=some o)->Q (.ref s.heap.objs.size) { s with heap:=h',toks:=tk}):
  wpAny (model prog w) A (call (.type "set") [.ref l]) Q E s:=by
 obtain⟨c,tl,hmro⟩:=F.called_set.mro
 have hmade:=F.called_set.made
 have hsub:=F.called_set.sub
 have g1:=F.called_set.notType
 have g2:=F.called_set.canCreate
 have g3:=F.typeCall_set_1 (.ref l)
 refine jl (codeAny_of_tree (show wpAny _ _ (callAny (.type "set") _) _ _ _ from ?_))
 refine ao ⟨Code.quiet_builtin _ (by decide+kernel),cL F.entry_type_call ?_⟩
 rw[Around.under_plain (weight_type_call_type "set" [.ref l] []) rfl]
 repeat (any_goals (first | assumption | wp_step))
 have hlen:items.size=ns.length:=by rw[<- aV]; exact hi.length
 refine eZ (jTA (.ref l) (E:=E) (Q:=fun obj z=>obj= .ref s.heap.objs.size/\z= { s with heap:=s.heap.push { cls:= .type "set",dict:=none,data:= .set #[] 0 (.fresh 0 0 (ledW w))}}) ⟨rfl,rfl⟩) fun r z hr=>?_
 cases r with
 | error e=>exact hr
 | ok fl=>
  cases fl with
  | ret obj=>
   obtain⟨rfl,rfl⟩:=hr
   generalize hO:({ cls:= .type "set",dict:=none,data:= .set #[] 0 (.fresh 0 0 (ledW w))} :Obj)=oS
   have hS:(s.heap.push oS).get? s.heap.objs.size=some oS:=aB _ (by rw[<- hO]; rfl)
   have hT:Shared.TypeIs { s with heap:=s.heap.push oS} (.ref s.heap.objs.size) "set" :=⟨_,hS,by rw[<- hO]⟩
   have hli:=F.called_set.init.lookup
   have hbi:=F.called_set.init.bind (.ref s.heap.objs.size)
   repeat (any_goals (first | assumption | wp_step))
   refine eZ (codeAny_call_builtin (R:=wants (fun r z2=>r= .none/\∃ h' tk ks,z2= { s with heap:=h',toks:=tk} /\SetG w h' s.heap.objs.size ks/\(∀ z,z∈ks↔z∈ns)/\(∀ b o,s.heap.get? b=some o->h'.get? b=some o)) E)
    F.called_set.init.plain F.entry_set_init (check_set_init_1 hT ?_)) fun r2 z2 hr2=>?_
   ·obtain⟨ol,hol,hcl,nl,hdl⟩:=hl
    obtain⟨ocls,odict,odata,oslots⟩:=ol
    simp only at hcl hdl
    subst hcl; subst hdl
    have hol':(s.heap.push oS).get? l=some { cls:= .type "list",dict:=odict,data:= .seq items nl,slots:=oslots} :=ag _ hol
    have y1:=F.sub_list_set
    have y2:=F.sub_list_frozenset
    have y3:(Value.type "list" ==Value.type "dict")=false:=by decide
    have hl1:(s.heap.push oS).IsList l items:=⟨_,hol',rfl,nl,rfl⟩
    subst hO
    unfold Builtin.«set.__init__» noKeywords Builtin.Frozenset.updateFrom
    generalize hPI:pyIter=PI
    wp_walk
    subst hPI
    refine dG hl1 (aa (km ?_))
    have hlS:l<s.heap.objs.size:=aG hol
    have hz1:(s.heap.push { cls:= .type "set",dict:=none,data:= .set #[] 0 (.fresh 0 0 (ledW w))}).objs.size=s.heap.objs.size+1:=dy _ _
    have nI:l≠(s.heap.push { cls:= .type "set",dict:=none,data:= .set #[] 0 (.fresh 0 0 (ledW w))}).objs.size:=by
     rw[hz1]
     exact bb (cB hlS)
    have nS:s.heap.objs.size∉ [(s.heap.push { cls:= .type "set",dict:=none,data:= .set #[] 0 (.fresh 0 0 (ledW w))}).objs.size,l]:=by
     rw[hz1]
     simp only [aF,cr,fY,not_or]
     exact⟨bb (i9 _),eY hlS⟩
    have hget:((s.heap.push { cls:= .type "set",dict:=none,data:= .set #[] 0 (.fresh 0 0 (ledW w))}).push { cls:= .type "list_iterator",data:= .fields #[.ref l, .int 0 0]}).get? s.heap.objs.size
      =some { cls:= .type "set",dict:=none,data:= .set #[] 0 (.fresh 0 0 (ledW w))} :=ag _ hS
    refine jP6 ((jn (by simp [hh]) _ l nI items).toS) s.heap.objs.size nS (fun i=>ns.getD i 0) (fun i v q=>PyProof.Rows.IntsAre.int_at hi i v (by rw[bU]; exact q))
     (fun i q=>hv _ ?_) hn (items.size - 0) 0 _ [] rfl (bx _) ⟨⟨_,aB _ rfl,rfl,rfl⟩,hl1.push _⟩ ⟨⟨_,#[],0,_,hget,⟨rfl,rfl,rfl⟩,rfl, .nil,jL9 _⟩,fo,bx _⟩ (ar _) (fun z=>⟨fun q=>by(cases q),fun ⟨j,q,_⟩=>absurd q (eF _)⟩) ?_
    ·have q':i<ns.length:=by rw[<- hlen]; exact q
     simp [List.getD,q']
    ·intro s' ks mv S' hm
     obtain⟨h',g',d',tk',os'⟩:=s'
     have e1:g'=s.gens:=mv.gens
     have e2:d'=s.drawn:=mv.drawn
     have e3:os'=s.os:=mv.os
     subst e1; subst e2; subst e3
     refine ao (ao ⟨rfl,h',tk',ks,rfl,S',fun z=>?_,fun b o e=>?_⟩)
     ·rw[hm]
      constructor
      ·rintro ⟨j,hj,e⟩
       have hj':j<ns.length:=by rw[<- hlen]; exact hj
       rw[<- e]
       simp [List.getD,hj']
      ·intro hz
       obtain⟨j,hj,e⟩:=eR hz
       exact⟨j,by rw[hlen]; exact hj,by simp [List.getD,hj,e]⟩
     ·have hb:=aG e
      refine mv.heap b o ?_ (ag _ (ag _ e))
      rw[hz1]
      simp only [aF,cr,fY,not_or]
      exact⟨bb hb,bb (cB hb)⟩
   ·cases r2 with
    | error e=>exact hr2
    | ok fl2=>
     cases fl2 with
     | ret r=>
      obtain⟨rfl,h',tk,ks,rfl,hS',hm,hk⟩:=hr2
      repeat (any_goals (first | assumption | wp_step))
      exact h _ _ _ hS' hm hk
     | _=>exact hr2.elim
  | _=>exact hr.elim
end
theorem slot_si_next:Slot "set_iterator" "__next__" "set_iterator.__next__" :=
 .of (owner:= "set_iterator") (n:= "__next__") (by
   rw[jw,gP]
   kernel_rfl) (by decide+kernel) (by decide+kernel)
  (by decide+kernel)
  (by first
   | exact .inl (by decide+kernel)
   | exact .inr (by decide+kernel))
  (by
   rw[kn]
   kernel_rfl)
theorem jCR:Slot "set_iterator" "__iter__" "set_iterator.__iter__" :=
 .of (owner:= "set_iterator") (n:= "__iter__") (by
   rw[jw,gP]
   kernel_rfl) (by decide+kernel) (by decide+kernel)
  (by decide+kernel)
  (by first
   | exact .inl (by decide+kernel)
   | exact .inr (by decide+kernel))
  (by
   rw[kn]
   kernel_rfl)
theorem jC4:entryFor table "set_iterator.__next__" =some Builtin.«set_iterator.__next__»:=entryFor_of_tree (by kernel_rfl)
theorem jE6:entryFor table "set.__iter__" =some Builtin.«frozenset.__iter__»:=
 ko (id':= "frozenset.__iter__") (by kernel_rfl) rfl (by decide+kernel) (by kernel_rfl)
theorem jFO:entryFor table "set_iterator.__iter__" =some Builtin.«dict_keyiterator.__iter__»:=
 ko (id':= "dict_keyiterator.__iter__") (by kernel_rfl) (by first | rfl | decide+kernel | (unfold String.splitOn; simp+decide [String.splitOnAux])) (by decide+kernel)
  (by kernel_rfl)
theorem jD2 (a:Value):argsOk "set_iterator.__next__" ⟨[a],[]⟩:=by unfold argsOk; kernel_rfl
theorem jHG (a:Value):argsOk "set_iterator.__iter__" ⟨[a],[]⟩:=by unfold argsOk; kernel_rfl
theorem jFW (a:Value):argsOk "set.__iter__" ⟨[a],[]⟩:=by unfold argsOk; kernel_rfl
abbrev byTxt (w:World):Bool:=w.params.followText "set-order"
abbrev IsSI (h:Heap)(I:Addr)(slot i:Nat)(a:Addr)(n ep:Nat):Prop:=
 h.get? I=some { cls:= .type "set_iterator",dict:=none,data:= .fields #[rawInt slot,rawInt i, .ref a,rawInt n,rawInt ep],slots:=#[]}
def qF (w:World)(t:SetTable)(i:Nat):Nat:=if byTxt w=true then 0 else jIR t.place i
noncomputable def told (w:World)(a:Addr)(ep:Nat)(es:Array (Int×Value)):List Value:=(if byTxt w=true then (pickOrder (w.params.setOrder a ep) es).toList else es.toList).map (·.2)
theorem jAS (w:World)(a:Addr)(ep:Nat)(es:Array (Int×Value)):(told w a ep es).length=es.size:=by
 unfold told
 rw[ab]
 split
 ·rw[(jGF _ es).length_eq]; simp
 ·simp
theorem jL7 (w:World)(a:Addr)(ep:Nat)(es:Array (Int×Value)):(told w a ep es).Perm (es.toList.map (·.2)):=by
 unfold told
 split
 ·exact(jGF _ es).map _
 ·exact .refl _
variable {o:Obj}{es:Array (Int×Value)}{ep:Nat}{t:SetTable}
theorem jMM {i:Nat}{Q:Option (Value×Nat)->Shared->Prop}(ho:s.heap.get? a=some o)(hd:o.data= .set es ep t)(T:Tab t es.size (ledW w))(hn:es.size<=4)(hi:i<=es.size)
  (h:Q ((told w a ep es)[i]?.map fun v=>(v,qF w t (i+1))) s):wpAny (model prog w) A (setNext a (qF w t i) i ep) Q E s:=by
 unfold setNext
 refine aa (dI ho hd (T.fits hn) ?_)
 dsimp only
 unfold setsByText
 refine aa (aa (fN (ao ?_)))
 show wpAny _ A (if byTxt w=true then _ else _) Q E s
 have hl:=jAS w a ep es
 by_cases hb:byTxt w=true
 ·rw[ah hb,ae (by simp)]
  unfold setWalk
  refine aa (aa (dI ho hd (T.fits hn) ?_))
  dsimp only
  unfold setsByText
  refine aa (aa (fN (ao ?_)))
  show wpAny _ A (if byTxt w=true then _ else _) _ E s
  rw[ah hb]
  refine aa (fN (ao (ao ?_)))
  have e:(told w a ep es)[i]?.map (fun v=>(v,qF w t (i+1)))=(pickOrder (w.params.setOrder a ep) es)[i]?.map (fun e=>(e.snd,qF w t i)):=by
   unfold told qF
   rw[ah hb,ah hb,ah hb,aA,bU,Option.map_map]
   rfl
  rw[e] at h
  exact h
 ·rw[ae hb]
  have hb':byTxt w=false:=by simpa using hb
  have hld:t.led=true:=by rw[T.ld]; show (!byTxt w)=true; rw[hb']; rfl
  show wpAny _ A (if (!t.plain&&decide (es.size>1))=true then _ else _) Q E s
  rw[T.pl,lj,eS,ae aq]
  refine aa ?_
  show wpAny _ A (if (!t.led&&!es.isEmpty)=true then _ else pure ()) _ E s
  rw[hld,lj,eS,ae aq]
  refine ao (ao ?_)
  have eb:SetTable.below t.place (qF w t i)=i:=by
   unfold qF
   rw[ae hb]
   exact jHF T.ris (by rw[T.sz]; exact hi)
  rw[eb]
  have et:(told w a ep es)[i]?=es[i]?.map (·.2):=by
   unfold told
   rw[ae hb,aA,bU]
  rw[et] at h
  by_cases hlt:i<es.size
  ·have h1:es[i]?=some es[i]:=by simp [hlt]
   have hlt2:i<t.place.size:=by rw[T.sz]; exact hlt
   have h2:t.place[i]?=some t.place[i]:=by simp [hlt2]
   have h3:qF w t (i+1)=t.place[i]+1:=by
    unfold qF jIR
    rw[ae hb]
    simp [Array.getD,hlt2]
   rw[h1,h3] at h
   rw[h1,h2]
   exact h
  ·have h1:es[i]?=none:=by simp; lia
   rw[h1] at h
   rw[h1]
   exact h
theorem jGB {i:Nat}{v:Value}{Q:Option Value->Shared->Prop}(ho:s.heap.get? a=some o)(hd:o.data= .set es ep t)(T:Tab t es.size (ledW w))(hn:es.size<=4)
  (hit:IsSI s.heap I (qF w t i) i a es.size ep) (hv:(told w a ep es)[i]?=some v)
  (hQ:∀ h',IsSI h' I (qF w t (i+1)) (i+1) a es.size ep->Heap.SameBut I s.heap h'->Q (some v) { s with heap:=h'}):wpAny (model prog w) A (pyNext (.ref I)) Q E s:=by
 have hT:s.TypeIs (.ref I) "set_iterator" :=⟨_,hit,rfl⟩
 have hi:i<es.size:=by
  rw[<- jAS w a ep es]
  exact(ax.mp hv).1
 unfold pyNext
 refine aa (ga (cZ (name:=Str.ofString "__next__") hT slot_si_next (cz slot_si_next hT jC4 ?_ (jD2 _))))
 unfold Builtin.«set_iterator.__next__»
 refine aa (m:=slotArgs "__next__" 0 _) (ao ?_)
 dsimp only
 unfold fieldsOf
 refine aa (aa (iA hit ?_))
 refine ao ?_
 dsimp only [rawInt]
 unfold setEntries
 refine aa (aa (dI ho hd (T.fits hn) (ao ?_)))
 rw[ae (by simp)]
 simp only [aK]
 refine aa (jMM ho hd T hn (dh hi) ?_)
 rw[hv]
 dsimp only [Option.map]
 refine aa (cY hit (by simp) fun h1 hit1 sb1=>?_)
 refine aa (cY hit1 (by simp) fun h2 hit2 sb2=>?_)
 refine ao ⟨v,rfl,ao (hQ h2 ?_ (sb1.trans sb2))⟩
 show h2.get? I=_
 rw[hit2]
 simp [rawInt]
theorem jHQ {Q:Option Value->Shared->Prop}(hh:A.handled=none)(ho:s.heap.get? a=some o)(hd:o.data= .set es ep t)(T:Tab t es.size (ledW w))(hn:es.size<=4)
  (hit:IsSI s.heap I (qF w t es.size) es.size a es.size ep)
  (hQ:∀ h',Heap.ExtBut I s.heap h'->Q none { s with heap:=h'}):wpAny (model prog w) A (pyNext (.ref I)) Q E s:=by
 have hT:s.TypeIs (.ref I) "set_iterator" :=⟨_,hit,rfl⟩
 unfold pyNext
 refine aa (ga (cZ (name:=Str.ofString "__next__") hT slot_si_next (cz slot_si_next hT jC4 ?_ (jD2 _))))
 unfold Builtin.«set_iterator.__next__»
 refine aa (m:=slotArgs "__next__" 0 _) (ao ?_)
 dsimp only
 unfold fieldsOf
 refine aa (aa (iA hit ?_))
 refine ao ?_
 dsimp only [rawInt]
 unfold setEntries
 refine aa (aa (dI ho hd (T.fits hn) (ao ?_)))
 rw[ae (by simp)]
 simp only [aK]
 refine aa (jMM ho hd T hn (ar _) ?_)
 rw[bI (by rw[jAS]; exact ar _)]
 dsimp only [Option.map]
 refine aa (cY hit (by simp) fun h1 hit1 sb1=>?_)
 refine aa ?_
 simp only [newExc,newTuple]
 refine aa (cU ?_ (by size_fits))
 refine aa (m:=firstArgMember _ _) (ki (a:=Value.none) (by first | rfl | (simp only [firstArgMember]; rfl)) ?_)
 refine cU ?_ (by size_fits)
 simp only [raiseNew]
 refine aa (wpAny_handled ?_)
 rw[show A.in1.handled=none from hh]
 refine aa (ao (wpAny_throw ?_))
 refine aa (ja (T:= "StopIteration") (b:=true) ⟨_,aB _ rfl,rfl⟩ isSubtype_stop ?_)
 exact ao (hQ _ ((sb1.extBut.push _).push _))
theorem jS2 {i:Nat}{slot n:Nat}{Q:Value->Shared->Prop}(hit:IsSI s.heap I slot i a n ep)(h:Q (.ref I) s):wpAny (model prog w) A (pyIter (.ref I)) Q E s:=by
 have hT:s.TypeIs (.ref I) "set_iterator" :=⟨_,hit,rfl⟩
 refine iS hT jCR (cz jCR hT jFO ?_ (jHG _))
 show wpAny _ _ (ret (.ref I)) _ _ s
 exact ao ⟨_,rfl,"set_iterator",_,hT,slot_si_next.lookup,h⟩
theorem jP9 {Q:Value->Shared->Prop}(hx:o.ExactSet)(ho:s.heap.get? a=some o)(hd:o.data= .set es ep t)(T:Tab t es.size (ledW w))(hn:es.size<=4)
  (hQ:∀ h',h'.get? s.heap.objs.size=some { cls:= .type "set_iterator",dict:=none,data:= .fields #[rawInt (qF w t 0),rawInt 0, .ref a,rawInt es.size,rawInt ep],slots:=#[]} ->(∀ b u,s.heap.get? b=some u->h'.get? b=some u)->
   h'.objs.size=s.heap.objs.size+1->Q (.ref s.heap.objs.size) { s with heap:=h'}):wpAny (model prog w) A (pyIter (.ref a)) Q E s:=by
 have hT:s.TypeIs (.ref a) "set" :=⟨o,ho,hx.1⟩
 refine iS hT ka (cz ka hT jE6 ?_ (jFW _))
 unfold Builtin.«frozenset.__iter__»
 refine aa (show wpAny _ _ (pure a:Sem Addr) _ _ s from ao ?_)
 unfold Builtin.Frozenset.sizeOf setEntries
 refine aa (aa (aa (dI ho hd (T.fits hn) (ao (ao ?_)))))
 dsimp only
 unfold setDrawn
 refine aa (aa (dI ho hd (T.fits hn) ?_))
 dsimp only
 unfold setsByText
 refine aa (aa (fN (ao (ao ?_))))
 show wpAny _ _ (if (!byTxt w&&(!t.plain&&decide (es.size>1)))=true then _ else _) _ _ s
 rw[T.pl,lj,eS,eU,ae aq]
 refine aa (ao ?_)
 refine aa (wpAny_setEpoch_of ho hd (T.fits hn) ?_)
 refine aa (cU (ao ⟨_,rfl,"set_iterator",_,⟨_,aB _ rfl,rfl⟩,slot_si_next.lookup,hQ _ ?_ (fun b u e=>ag _ e) (dy _ _)⟩) (by size_fits))
 have e0:qF w t 0=0:=by unfold qF jIR; split <;> rfl
 rw[e0]
 exact aB _ rfl
theorem jL1 (hh:A.handled=none)(hne:a≠I)(hd:o.data= .set es ep t)(T:Tab t es.size (ledW w))(hn:es.size<=4):
  Walks prog w A I [I,a] [I] es.size (fun i v=>(told w a ep es)[i]?=some v) (fun i h=>IsSI h I (qF w t i) i a es.size ep/\h.get? a=some o) where
 sub:=fun b hb=>by simp at hb; simp [hb]
 frame:=fun _ _ _ st hk=>⟨hk I (by simp) _ st.1,hk a (by simp) _ st.2⟩
 item:=fun i s Q E hi st hQ=>by
  obtain⟨v,hv⟩:∃ v,(told w a ep es)[i]?=some v:=⟨_,ak (by rw[jAS]; exact hi)⟩
  exact jGB st.2 hd T hn st.1 hv fun h' hit' sb=>hQ v h' s.toks hv ⟨hit',(sb.2 a hne).trans st.2⟩ fun b o hb e=>(sb.2 b (fun z=>hb (by simp [z]))).trans e
 done:=fun s Q E st hQ=>jHQ hh st.2 hd T hn st.1 fun h' eb=>hQ h' s.toks fun b o hb e=>eb b o (fun z=>hb (by simp [z])) e
 self:=fun _ _ _ _ st hQ=>jS2 st.1 hQ
theorem jG9:typeLookup (.type "set") "__len__" =pure (some (.builtin "set.__len__")):=by rw[jw,gP]; kernel_rfl
theorem jQB {Q:Bool->Shared->Prop}(hT:s.TypeIs (.ref a) "set")(h:Q false s):wpAny (model prog w) A (Builtin.List.listLengthHint (.ref a)) Q E s:=by
 unfold Builtin.List.listLengthHint
 refine aa (wpAny_specialOf hT jG9 ?_)
 generalize hid:("set.__len__" :String)=id0
 wp_delta
 rw[show splitId id0=some ("set","__len__") from by subst hid; decide+kernel]
 subst hid
 refine aa (ja (b:=true) hT (by rw[kn]; kernel_rfl) ?_)
 refine wpAny_ite_split (fun q=>absurd q (by decide)) (fun _=>?_)
 refine wpAny_ite_split (fun _=>?_) (fun q=>absurd (by decide+kernel) q)
 exact aa (wpAny_typeOf hT (ao h))
theorem jID {Q:List Value->Shared->Prop}(hh:A.handled=none)(hx:o.ExactSet)(ho:s.heap.get? a=some o)(hd:o.data= .set es ep t)(T:Tab t es.size (ledW w))(hn:es.size<=4)
  (hQ:∀ s',(∀ b u,s.heap.get? b=some u->s'.heap.get? b=some u)->s'.gens=s.gens->s'.drawn=s.drawn->s'.os=s.os->s.heap.objs.size<s'.heap.objs.size->Q (told w a ep es) s'):wpAny (model prog w) A (collect (.ref a)) Q E s:=by
 have ha:a<s.heap.objs.size:=aG ho
 have hSa:s.heap.objs.size≠a:=eY ha
 unfold collect
 refine aa (km (cL PySem.F.entry_proto_collect ?_))
 rw[ci ir _]
 show wpAny _ A.in1 (newList [] >>= fun l=>again (.builtin "list.__iadd__" ⟨[l, .ref a],[]⟩)) _ _ s
 refine aa (cU (ao ⟨dS eV _,cL PySem.F.entry_list_iadd ?_⟩))
 rw[ci eV _]
 generalize hE:({ s with heap:=s.heap.push { cls:= .type "list",dict:=none,data:= .seq ([]:List Value).toArray}} :Shared)=s1
 have ho1:s1.heap.get? a=some o:=by rw[<- hE]; exact ag _ ho
 have hL1:s1.heap.get? s.heap.objs.size=some { cls:= .type "list",dict:=none,data:= .seq ([]:List Value).toArray} :=by rw[<- hE]; exact aB _ rfl
 have hz1:s1.heap.objs.size=s.heap.objs.size+1:=by rw[<- hE]; exact dy _ _
 have hT1:s1.TypeIs (.ref a) "set" :=⟨o,ho1,hx.1⟩
 show wpAny _ A.in1 (Builtin.List.listExtendWith (.ref s.heap.objs.size) (.ref a) (.ref s.heap.objs.size)) _ _ _
 unfold Builtin.List.listExtendWith
 refine aa (wpAny_typeOf hT1 ?_)
 have q1:Builtin.List.listSameRef (.ref s.heap.objs.size) (.ref a)=false:=by simp [Builtin.List.listSameRef,hSa]
 rw[ae (by rw[q1]; decide)]
 refine aa (jP9 hx ho1 hd T hn fun h2 hI2 k2 z2=>?_)
 refine aa (ck ?_)
 have ho2:h2.get? a=some o:=k2 _ _ ho1
 have hT2:Shared.TypeIs { s1 with heap:=h2} (.ref a) "set" :=⟨o,ho2,hx.1⟩
 have hL2:=k2 _ _ hL1
 refine jQB hT2 ?_
 rw[ah (by decide+kernel)]
 refine aa (dw ?_)
 have hne:s.heap.objs.size≠s1.heap.objs.size:=by lia
 refine aa ?_
 show wpAny _ A.in1 (updateSeq s.heap.objs.size (·.push .none) >>= fun _=>updateSeq s.heap.objs.size (·.pop)) _ _ _
 refine aa (gd hL2 rfl ?_)
 have hL3:=cV (Obj.mapSeq (·.push Value.none)) hL2 rfl
 refine gd hL3 rfl ?_
 have hL4:=cV (Obj.mapSeq (·.pop)) hL3 rfl
 have oth:∀ b u,b≠s.heap.objs.size->h2.get? b=some u->((h2.update s.heap.objs.size (Obj.mapSeq (·.push Value.none))).update s.heap.objs.size (Obj.mapSeq (·.pop))).get? b=some u:=
  fun b u hb e=>(bZ _ _ (eG hb)).trans ((bZ _ _ (eG hb)).trans e)
 have W:=(jL1 (prog:=prog) (A:=A.in1) (a:=a) (I:=s1.heap.objs.size) hh (bb (show a<s1.heap.objs.size by rw[hz1]; exact cB ha)) hd T hn).toS
 have z24:es.size<=sizeLine:=by rw[show sizeLine=2 ^ 24 from rfl]; lia
 refine ao ⟨dS PySem.F.plain_extend_loop _,codeAny_extend_loopS W z24 s.heap.objs.size (by simp [hne,hSa]) _ es.size 0 _ _ _ rfl (bx _) ⟨oth _ _ (eG hne) hI2,oth _ _ (eG hSa) ho2⟩ hL4 (ItemsOf.nil _) fun s' acc' c' hm hS' hacc=>?_⟩
 show wpAny _ A (load s.heap.objs.size >>= _) _ _ s'
 refine aa (iA hS' ?_)
 have eacc:acc'.toList=told w a ep es:=by
  apply eL
  intro i
  by_cases hi:i<es.size
  ·have hi':i<acc'.size:=by rw[hacc.1]; exact hi
   have:=hacc.2 i acc'[i] (by simp [hi'])
   rw[this]
   simp [hi']
  ·rw[bI (by rw[aV,hacc.1]; lia),bI (by rw[jAS]; lia)]
 refine ao ?_
 rw[eacc]
 refine hQ s' (fun b u e=>?_) ?_ ?_ ?_ (aG hS')
 ·have hb:b≠s.heap.objs.size:=bb (aG e)
  have hb1:b≠s1.heap.objs.size:=bb (show b<s1.heap.objs.size by rw[hz1]; exact cB (aG e))
  exact hm.heap b u (by simp [hb,hb1]) (oth b u hb (k2 b u (by rw[<- hE]; exact ag _ e)))
 ·have:=hm.gens; rw[<- hE] at this; exact this
 ·have:=hm.drawn; rw[<- hE] at this; exact this
 ·have:=hm.os; rw[<- hE] at this; exact this
end SS
namespace SS
open PySem PyProof.Rows
section
variable {prog:Program}{w:World}{A:Around}{E:Value->Shared->Prop}{s:Shared}{a:Addr}{ks:List Int}
theorem jNQ:∀ {vs:List Value}{ks:List Int},Paired (fun v k=>∃ t,v=Value.int k t) vs ks->IntsAre vs ks
 | _,_, .nil=> .nil
 | _,_, .cons ⟨t,e⟩ r=>by subst e; exact .cons _ t (jNQ r)
theorem jEF {es:List (Int×Value)} :∀ {ks:List Int},Paired El es ks->Paired (fun v k=>∃ t,v=Value.int k t) (es.map (·.2)) ks
 | _, .nil=> .nil
 | _, .cons ⟨_,q⟩ r=> .cons q (jEF r)
theorem jHT {α β:Type}{F:α->β->Prop}{l l':List α}(p:l'.Perm l):∀ {r:List β},Paired F l r->∃ r',Paired F l' r'/\r'.Perm r:=by
 induction p with
 | nil=>intro r h; cases h; exact⟨[], .nil, .nil⟩
 | cons x _ ih=>
  intro r h
  cases h with
  | cons f t=>
   obtain⟨r',h1,h2⟩:=ih t
   exact⟨_::r', .cons f h1,h2.cons _⟩
 | swap x y l=>
  intro r h
  cases h with
  | cons f t=>
   cases t with
   | cons g t=>exact⟨_, .cons g (.cons f t), .swap _ _ _⟩
 | trans _ _ ih1 ih2=>
  intro r h
  obtain⟨r1,h1,h2⟩:=ih2 h
  obtain⟨r2,h3,h4⟩:=ih1 h1
  exact⟨r2,h3,h4.trans h2⟩
theorem sorted_set {Q:Value->Shared->Prop}(hh:A.handled=none)(S:SetG w s.heap a ks)
  (h:∀ (s':Shared) (l:Addr) (vs:List Value) (ns:List Int) (e:Nat),s.heap.objs.size<=l->(∀ b u,s.heap.get? b=some u->s'.heap.get? b=some u)->s'.gens=s.gens->s'.drawn=s.drawn->s'.os=s.os->
   s'.heap.get? l=some { cls:= .type "list",data:= .seq vs.toArray e} ->IntsAre vs ns->ns.Perm ks->ns.Pairwise (· <= ·)->Q (.ref l) s'):
  wpAny (model prog w) A (call (.builtin "sorted") [.ref a]) Q E s:=by
 obtain⟨o,es,ep,t,ho,hex,hd,hp,T⟩:=S.ex
 have hn:es.size<=4:=by
  have:=gU hp
  rw[aV] at this
  have:=S.len
  lia
 refine iO kind_sorted plain_sorted entry_sorted (args_sorted1 _) ?_
 unfold Builtin.«sorted»
 refine aa (m:=checkCount "sorted" 1 1 _) (ao ?_)
 refine aa (jID (A:=A.in1) hh hex ho hd T hn fun s1 k1 g1 d1 o1 z1=>?_)
 refine aa (iY ?_ (by rw[jAS,show sizeLine=2 ^ 24 from rfl]; lia))
 obtain⟨ks1,hp1,pm1⟩:=jHT (jL7 w a ep es) (jEF hp)
 have hI:=jNQ hp1
 have hl:(told w a ep es).length<64:=by rw[jAS]; lia
 have hL:(s1.heap.push (seqObj "list" (told w a ep es).toArray 0)).get? s1.heap.objs.size=some (seqObj "list" (told w a ep es).toArray 0):=aB _ rfl
 show wpAny _ _ _ _ _ { s1 with heap:=s1.heap.push (seqObj "list" (told w a ep es).toArray 0)}
 refine aa (ck (cz slot_list_sort ⟨_,hL,rfl⟩ entry_list_sort (list_sort_tree hL hI hl fun out ns' a1 a2 a3=>⟨_,rfl,?_⟩) (args_list_sort _)))
 obtain⟨e,he⟩:=sortedHeap_at (out:=out) hL
 have kept:∀ b u,s.heap.get? b=some u->(sortedHeap (s1.heap.push (seqObj "list" (told w a ep es).toArray 0)) s1.heap.objs.size (told w a ep es) out).get? b=some u:=fun b u q=>by
  have q1:=k1 b u q
  have hb:b<s1.heap.objs.size:=aG q1
  rw[sortedHeap_old (bb hb) (by rw[size_push']; exact cB hb)]
  exact ag _ q1
 generalize sortedHeap (s1.heap.push (seqObj "list" (told w a ep es).toArray 0)) s1.heap.objs.size (told w a ep es) out=hf at he kept ⊢
 exact ao ⟨_,rfl,h { s1 with heap:=hf} s1.heap.objs.size out.toList ns' e (dh z1) kept g1 d1 o1 (by rw[fq]; exact he) a1 (a2.trans pm1) a3⟩
end
end SS
namespace L2
open PySem PySem.Spec PyProof.Rows
variable {es xs:List Expr}{env:Env}{a b:Expr}{pos:Pos}
section
variable {ys:List Expr}
theorem yN {op:Operator} :starEach (.BinOp a op b pos::es) env=(false,eval (.BinOp a op b pos) env)::starEach es env:=rfl
theorem se_un {op:UnaryOp} :starEach (.UnaryOp op a pos::es) env=(false,eval (.UnaryOp op a pos) env)::starEach es env:=rfl
theorem jIT {ops:List CmpOp} :starEach (.Compare a ops xs pos::es) env=(false,eval (.Compare a ops xs pos) env)::starEach es env:=rfl
theorem jF {kw:List Keyword} :starEach (.Call a xs kw pos::es) env=(false,eval (.Call a xs kw pos) env)::starEach es env:=rfl
theorem kG:starEach (.Subscript a b pos::es) env=(false,eval (.Subscript a b pos) env)::starEach es env:=rfl
theorem jJ {gs sc} :starEach (.ListComp a gs sc pos::es) env=(false,eval (.ListComp a gs sc pos) env)::starEach es env:=rfl
theorem jCS {x1} :starEach (.Tuple xs x1 pos::es) env=(false,eval (.Tuple xs x1 pos) env)::starEach es env:=rfl
theorem jUM:starEach (.List xs pos::es) env=(false,eval (.List xs pos) env)::starEach es env:=rfl
theorem jL {c k} :starEach (.Constant c k pos::es) env=(false,eval (.Constant c k pos) env)::starEach es env:=rfl
theorem j5 {x:Str} :starEach (.Name x pos::es) env=(false,eval (.Name x pos) env)::starEach es env:=rfl
end
variable {X:Cx}
def CDivL (i j:Int):Prop:=0<j/\j<2 ^ 64
theorem jJ4:OpR X (binaryOp .FloorDiv) (rI CDivL fun i j=> .int (i / j)):=opI fun i j _ _ _ _ _ hc q=>by
 have h1:(0:Int)<j:=hc.1
 have h2:j<2 ^ 64:=hc.2
 refine floordiv_int (by lia) (by rw[iB i (by lia)]; exact q) (.inl (PyProof.noPylong_of_log2 ?_))
 have h3:j.natAbs<2 ^ 64:=by lia
 have h4:j.natAbs≠0:=by lia
 have:=(Nat.log2_lt h4).mpr h3
 lia
theorem jAC:qC X (.builtin "isinstance") (fun xs H Q=>∃ x T t b,xs=[x, .ty T]/\TyOf X.K H x t/\kitOne X.K t (.type T)=some b/\Q (.bl b) H):=by
 intro ad s σ H xs us Q I r h
 obtain⟨x,T,t,b,rfl,ty,e,q⟩:=h
 obtain⟨u,v,rfl,ru,rv⟩:=r.two
 cases rv
 exact jNO I ru ty e fun tk=>⟨.bl b,H,I.tok tk,rfl,q⟩
def jS5:V->List V->Hp->VK->Prop:=fun x vs H Q=>∃ l xs i y,x= .ref l/\vs=[.int i,y]/\H l=some (.lst xs)/\0<=i/\i<=xs.length/\xs.length<sizeLine/\Q .non (upd H l (.lst (xs.take i.toNat++y::xs.drop i.toNat)))
theorem Vals.put {y:V}{v:Value}(r:RelV y v){xs:List V}{us:List Value}(h:Vals xs us)(k:Nat):Vals (xs.take k++y::xs.drop k) (us.take k++v::us.drop k):=(h.take k).append (.cons r (h.drop k))
theorem jMU:MtM X "list.insert" jS5:=by
 intro ad s σ H x vs v us Q I rx rv h
 obtain⟨l,xs,i,y,rfl,rfl,hH,h0,h1,hz,q⟩:=h
 cases rx
 obtain⟨a,b,rfl,ra,rb⟩:=rv.two
 obtain⟨t,rfl⟩:=ra
 obtain⟨z,its,n,r,hl,e⟩:=I.lstM hH
 have line:=jEJ
 have hf:Builtin.List.listFitsIndex i=true:=fitsIndex_both (by lia) (by lia)
 refine gS F.slot_list_insert ⟨_,e,rfl⟩ F.entry_list_insert (F.args_list_insert_3 _ _ _) (AutoSeq1.list_insert_list_int_val_1 l its.toArray n i t b (by simp [hf]) (by rw[aN]; lia)) ⟨e,?_⟩
 refine⟨.non,_,I.lset (its':=its.take i.toNat++b::its.drop i.toNat) hH e ?_ (Vals.put rb r i.toNat) ?_,rfl,q⟩
 ·have hk:(if i<0 then (i+(its.toArray.size:Int)).toNat else min i.toNat its.toArray.size)=i.toNat:=by
   rw[ae (by lia),aN]
   lia
  show (its.toArray.extract 0 (if i<0 then (i+(its.toArray.size:Int)).toNat else min i.toNat its.toArray.size)).push b++its.toArray.extract (if i<0 then (i+(its.toArray.size:Int)).toNat else min i.toNat its.toArray.size)=_
  rw[hk]
  apply Array.ext'
  simp [eg,bK]
 ·rw[aC,aU,bE,fE]
  lia
def rEqE (K:W.Frag):R2:=fun x y H Q=>∃ p q xs,x= .ref p/\y= .ref q/\SqT K H p xs/\SqT K H q []/\Q (.bl (decide (xs=[]))) H
theorem jVB (hu:X.A.units<cLine):OpR X (compareOp .Eq) (rEqE X.K):=by
 intro ad s σ H x y v u Q I rx ry h
 obtain⟨p,q,xs,rfl,rfl,hp,hq,k⟩:=h
 cases rx
 cases ry
 obtain⟨its,r,t1,_⟩:=I.tuple hp
 obtain⟨its2,r2,t2,_⟩:=I.tuple hq
 have e2:its2=[]:=r2.zero
 subst e2
 refine SeqAt.eq_tupleAt (e:=fun _=>true) (show s.heap.IsTuple p its.toArray from t1) (show s.heap.IsTuple q ([]:List Value).toArray from t2) hu (fun j h1 h2=>absurd h2 (by simp)) ⟨.bl _,H,I,rfl,?_⟩
 have hl:=r.length
 have e:((List.range (min its.toArray.size ([]:List Value).toArray.size)).all (fun _=>true)&&its.toArray.size==([]:List Value).toArray.size)=decide (xs=[]):=by
  cases xs with
  | nil=>
   have:its=[]:=by simpa using hl.symm
   subst this
   rfl
  | cons a b=>
   have:its.length≠0:=by rw[<- hl]; simp
   simp [this]
 rw[e]
 exact k
theorem jE2 (hc:X.calm=true):qC X (.builtin "all") (fun xs H Q=>∃ (p:Addr) (bs:List Bool),xs=[.ref p]/\SqL X.K H p (bs.map V.bl)/\Q (.bl (bs.all id)) H):=by
 intro ad s σ H xs us Q I r h
 obtain⟨p,bs,rfl,hq,q⟩:=h
 obtain⟨u,rfl,rx⟩:=r.one
 cases rx
 obtain⟨its,r',pl,hz⟩:=I.list hq
 have hlen:=r'.length
 rw[ab] at hlen
 refine call_all_walk (dG pl.isList ?_)
 have hne:p≠s.heap.objs.size:=by
  obtain⟨o,ho,_⟩:=pl.isList
  exact bb (aG ho)
 refine⟨s.heap.objs.size,_,_,_,_,_,fun i=>bs.getD i true,rfl,jn (by simpa using I.ok.hd hc) _ p hne its.toArray,⟨⟨_,aB _ rfl,rfl,rfl⟩,pl.isList.push _⟩,fun i v z Q' E' hP hQ'=>?_,fun h' tk hk=>?_⟩
 ·have hi:its[i]?=some v:=by simpa using hP
  have hb:i<bs.length:=by
   rw[hlen]
   exact(ax.mp hi).1
  obtain⟨u,hu,ru⟩:=r'.get (i:=i) (x:= .bl (bs[i])) (by simp [hb])
  rw[hi] at hu
  cases hu
  cases ru
  have e:bs.getD i true=bs[i]:=by simp [List.getD,hb]
  have hQ2:Q' (bs.getD i true) z:=hQ'
  rw[e] at hQ2
  exact ao hQ2
 ·have e:(List.range its.toArray.size).all (fun i=>bs.getD i true)=bs.all id:=by
   rw[aN,<- hlen]
   rw[bO,bB,bB]
   constructor
   ·intro a b hb
    obtain⟨i,hi,rfl⟩:=eR hb
    have:=a i (br.mpr hi)
    simpa [List.getD,hi] using this
   ·intro a i hi
    have hi:=br.mp hi
    have:=a bs[i] (cM hi)
    simpa [List.getD,hi] using this
  rw[e]
  exact⟨.bl _,H,I.kept (t':=tk) fun b o e=>hk b o (by
   intro z
   have z:b=s.heap.objs.size:=by simpa using z
   exact absurd (aG e) (by rw[z]; exact df _)) (ag _ e),rfl,q⟩
def jDX (n:Nat):List V:=(List.range n).map fun (i:Nat)=>V.int (i:Int)
theorem jK0 {n:Nat}{acc:Array Value}(h:ItemsOf (fun i v=>∃ t,v=Value.int (0+(i:Int)*1) t) acc n):Vals (jDX n) acc.toList:=by
 have key:∀ (l:List Value) (k:Nat),(∀ j v,l[j]?=some v->∃ t,v=Value.int ((k+j:Nat):Int) t)->Vals ((List.range' k l.length).map fun (i:Nat)=>V.int (i:Int)) l:=by
  intro l
  induction l with
  | nil=>intro k _; exact .nil
  | cons v l ih=>
   intro k hk
   rw[aU,List.range'_succ,aY]
   refine .cons ?_ (ih (k+1) fun j u hj=>?_)
   ·obtain⟨t,e⟩:=hk 0 v rfl
    exact⟨t,by simpa using e⟩
   ·obtain⟨t,e⟩:=hk (j+1) u (by simpa using hj)
    exact⟨t,by rw[e]; congr 1; lia⟩
 have:=key acc.toList 0 fun j v hj=>by
  obtain⟨t,e⟩:=h.2 j v (by simpa using hj)
  exact⟨t,by rw[e]; congr 1; lia⟩
 rw[aV,h.1] at this
 unfold jDX
 rw[List.range_eq_range']
 exact this
theorem jIF:qC X (.type "range") (fun xs H Q=>∃ j:Int,xs=[.int j]/\∀ p,H p=none->Q (.ref p) (upd H p (.rng 0 j))):=by
 intro ad s σ H xs us Q I r h
 obtain⟨j,rfl,q⟩:=h
 obtain⟨u,rfl,t,rfl⟩:=r.one
 refine call_range_1 ⟨.ref s.heap.objs.size,_,I.laid (o:= .rng 0 j) (fun b o e=>ag _ e) (ar _) ?_,rfl,q _ I.fresh⟩
 exact⟨_,_,_,aB _ rfl⟩
theorem jH3 (hc:X.calm=true):qC X (.type "list") (fun xs H Q=>∃ p j,xs=[.ref p]/\H p=some (.rng 0 j)/\0<=j/\j<=1000/\∀ l,H l=none->Q (.ref l) (upd H l (.lst (jDX j.toNat)))):=by
 intro ad s σ H xs us Q I r h
 obtain⟨p,j,rfl,hp,h0,h1,q⟩:=h
 obtain⟨u,rfl,rx⟩:=r.one
 cases rx
 obtain⟨t,u,v,e⟩:=I.hok p _ hp
 have en:Builtin.Range.rangeSize 0 j 1=(j.toNat:Int):=by
  rw[rangeSize_one]
  split <;> lia
 refine call_list_range (I.ok.hd hc) (show IsRange s.heap p 0 j 1 t u v from e) (small_one (by lia) (by lia) (by lia) (by lia)) en (by lia) fun h' tk acc' c' kp hS hacc=>?_
 refine⟨.ref s.heap.objs.size,_,I.laid (t':=tk) (o:= .lst (jDX j.toNat)) kp (ar _) ?_,rfl,q _ I.fresh⟩
 refine⟨?_,acc'.toList,c',jK0 hacc,by rw[fq]; exact hS⟩
 unfold jDX
 rw[ab,bg,gh]
 lia
def SetO (w:World)(a:Addr)(ks:List Int):HO:= .ext fun h=>SS.SetG w h a ks
theorem jFZ {ns:List Int} :∀ {us:List Value},Vals (ns.map V.int) us->IntsAre us ns:=by
 induction ns with
 | nil=>intro us h; cases h; exact .nil
 | cons n ns ih=>
  intro us h
  cases h with
  | cons r t=>
   obtain⟨k,rfl⟩:=r
   exact .cons n k (ih t)
theorem jB0:∀ {us:List Value}{ns:List Int},IntsAre us ns->Vals (ns.map V.int) us
 | _,_, .nil=> .nil
 | _,_, .cons n t r=> .cons ⟨t,rfl⟩ (jB0 r)
theorem jOJ (hc:X.calm=true):qC X (.type "set") (fun xs H Q=>∃ (p:Addr) (ns:List Int),xs=[.ref p]/\SqL X.K H p (ns.map V.int)/\ns.length<=4/\(∀ z∈ns,0<=z/\z<32)/\
  ∀ (l:Addr) (ks:List Int),H l=none->(∀ z,z∈ks↔z∈ns)->Q (.ref l) (upd H l (SetO X.w l ks))):=by
 intro ad s σ H xs us Q I r h
 obtain⟨p,ns,rfl,hq,hl,hv,q⟩:=h
 obtain⟨u,rfl,rx⟩:=r.one
 cases rx
 obtain⟨its,r',pl,hz⟩:=I.list hq
 have hlen:=r'.length
 rw[ab] at hlen
 refine SS.set_of_list (I.ok.hd hc) pl.isList (jFZ r') (by rw[aN]; lia) hv fun h' tk ks S hm kp=>?_
 have hg:∃ o,h'.get? s.heap.objs.size=some o:=let ⟨o,_,_,_,e,_⟩:=S.ex; ⟨o,e⟩
 exact⟨.ref s.heap.objs.size,_,I.laid (t':=tk) (o:=SetO X.w s.heap.objs.size ks) kp (ar _) ⟨S,hg,fun h1 h2 a b=>a.at b⟩,rfl,q _ ks I.fresh hm⟩
theorem jE7 (hc:X.calm=true):qC X (.builtin "sorted") (fun xs H Q=>∃ (p:Addr) (ks:List Int),xs=[.ref p]/\H p=some (SetO X.w p ks)/\
  ∀ (l:Addr) (ns:List Int),H l=none->ns.Pairwise (· < ·)->(∀ z,z∈ns↔z∈ks)->Q (.ref l) (upd H l (.lst (ns.map V.int)))):=by
 intro ad s σ H xs us Q I r h
 obtain⟨p,ks,rfl,hp,q⟩:=h
 obtain⟨u,rfl,rx⟩:=r.one
 cases rx
 obtain⟨S,_,_⟩:=I.hok p _ hp
 refine SS.sorted_set (I.ok.hd hc) S fun s' l vs ns e hl kp g d o he hi pm srt=>?_
 obtain⟨h',g',d',t',o'⟩:=s'
 have g:g'=s.gens:=g
 have o:o'=s.os:=o
 have d:d'=s.drawn:=d
 subst g; subst o; subst d
 have nd:ns.Nodup:=pm.nodup_iff.mpr S.nd
 have lt:ns.Pairwise (· < ·):=by
  have:=gz srt nd
  exact this.imp fun {a b} ⟨x,y⟩=>by lia
 have hz:(ns.map V.int).length<=sizeLine:=by
  rw[ab,pm.length_eq,gh]
  have:=S.len
  lia
 have I2:Inv X ad σ (upd H l (.lst (ns.map V.int))) { s with heap:=h',toks:=t'} :=I.laid (t':=t') kp hl ⟨hz,vs,e,jB0 hi,he⟩
 exact⟨.ref l,_,I2,rfl,q l ns (I.hok.fresh hl) lt fun z=>pm.mem_iff⟩
variable {p2:Pos}
section
variable {p1 p3 p4 p5 p6 p7:Pos}{k1 k2 k3 k4:Nat}
theorem jSO {i j r:Int}(hj:0<=j)(hj2:j<=1000000)(hi:i.natAbs<2 ^ 64)(e:i ^ j.toNat=r):PE X (.BinOp (.Constant (.int i) k2 p2) .Pow (.Constant (.int j) k3 p3) p4) (tC (.int r)):=fun ad s σ H Q I h=>
 (kP (X:=X) jMD jM jM) ad s σ H Q I ⟨_,_,rfl,rfl,⟨hj,hj2,hi⟩,by subst e; exact h⟩
theorem jSP {a b:Expr}{i j r:Int}(ha:PE X a (tC (.int i)))(hb:PE X b (tC (.int j)))(hc:CMul i j)(e:i*j=r):PE X (.BinOp a .Mult b p1) (tC (.int r)):=fun ad s σ H Q I h=>
 (kP (X:=X) jCZ ha hb) ad s σ H Q I ⟨_,_,rfl,rfl,hc,by subst e; exact h⟩
theorem jSS {a b:Expr}{i j r:Int}(ha:PE X a (tC (.int i)))(hb:PE X b (tC (.int j)))(e:i+j=r):PE X (.BinOp a .Add b p1) (tC (.int r)):=fun ad s σ H Q I h=>
 (kP (X:=X) y0 ha hb) ad s σ H Q I ⟨_,_,rfl,rfl,by subst e; exact h⟩
theorem jV8:PE X (.BinOp (.BinOp (.Constant (.int 2) k1 p1) .Mult (.BinOp (.Constant (.int 10) k2 p2) .Pow (.Constant (.int 12) k3 p3) p4) p5) .Add (.Constant (.int 1) k4 p6) p7) (tC (.int 2000000000001)):=
 jSS (i:=2000000000000) (jSP (j:=1000000000000) jM (jSO (by decide) (by decide) (by decide) (by decide)) (.inl ⟨by decide,by decide⟩) (by decide)) jM (by decide)
end
def ItAt (tp:Bool)(h:Heap)(it a:Addr)(i:Nat):Prop:=match tp with
 | false=>h.IsListIter it a i
 | true=>h.IsTupleIter it a i
def ObAt (tp:Bool)(h:Heap)(a:Addr)(xs:Array Value):Prop:=match tp with
 | false=>h.IsList a xs
 | true=>h.IsTuple a xs
theorem ItAt.but {tp:Bool}{h h':Heap}{it a b:Addr}{i:Nat}(x:ItAt tp h it a i)(e:Heap.ExtBut b h h')(n:it≠b):ItAt tp h' it a i:=by
 cases tp with
 | false=>exact Heap.IsListIter.extBut x e n
 | true=>exact Heap.IsTupleIter.extBut x e n
theorem ItAt.at {tp:Bool}{h h':Heap}{it a:Addr}{i:Nat}(x:ItAt tp h it a i)(e:∀ o,h.get? it=some o->h'.get? it=some o):ItAt tp h' it a i:=by
 cases tp with
 | false=>exact Heap.IsListIter.at x e
 | true=>exact Heap.IsTupleIter.at x e
theorem ItAt.obj {tp:Bool}{h:Heap}{it a:Addr}{i:Nat}(x:ItAt tp h it a i):∃ o,h.get? it=some o/\∀ v,o.data≠ .cell v:=by
 cases tp with
 | false=>obtain⟨o,e,_,d⟩:=x; exact⟨o,e,fun v q=>by rw[d] at q; cases q⟩
 | true=>obtain⟨o,e,_,d⟩:=x; exact⟨o,e,fun v q=>by rw[d] at q; cases q⟩
variable {w:World}{A:Around}{s:Shared}
section
variable {prog:Program}{E:Value->Shared->Prop}
theorem next1 {tp:Bool}{it a:Addr}{i:Nat}{xs:Array Value}{x:Value}{Q:Value->Shared->Prop}(hi:ItAt tp s.heap it a i)(ha:ObAt tp s.heap a xs)(hx:xs[i]?=some x)
  (k:∀ h',ItAt tp h' it a (i+1)->Heap.SameBut it s.heap h'->Q x { s with heap:=h'}):wpAny (model prog w) A (Builtin.SmallTypes.nextOf (.ref it)) Q E s:=by
 cases tp with
 | false=>exact wpAny_nextOf_list_item hi ha hx k
 | true=>
  obtain⟨o,e,c,d⟩:=id (show s.heap.IsTupleIter it a i from hi)
  obtain⟨u,eu,_,n,du⟩:=(show s.heap.IsTuple a xs from ha)
  have ty:=Heap.IsTupleIter.typeIs (show s.heap.IsTupleIter it a i from hi)
  unfold Builtin.SmallTypes.nextOf
  refine aa (cZ (name:=Str.ofString "__next__") ty F.slot_tuple_iterator_next (cz F.slot_tuple_iterator_next ty F.entry_tuple_iterator_next (?_:wpAny (model prog w) _ (field (.ref it) 0 >>= _) _ _ s) (F.args_tuple_iterator_next_1 _)))
  refine aa (eM e d (x:= .ref a) rfl (?_:wpAny (model prog w) _ (if (Value.ref a==Value.none)=true then _ else _) _ _ s))
  rw[ae (by exact aq)]
  show wpAny (model prog w) _ (field (.ref it) 1 >>= _) _ _ s
  refine aa (eM e d (x:= .int i 0) rfl ?_)
  show wpAny (model prog w) _ (seqItems? (.ref a) >>= _) _ _ s
  refine aa (gA eu du ?_)
  simp only [aK,hx]
  refine aa (wpAny_setField e d (by simp) (ao ⟨x,rfl,ao (k _ ⟨_,cV _ e (Obj.isFreed_of_fields (Obj.data_mapFields d _)),(Obj.cls_mapFields ..).trans c,?_⟩ (im ..))⟩))
  rw[Obj.data_mapFields d]
  simp [rawInt]
theorem next0 {tp:Bool}{it a:Addr}{i:Nat}{xs:Array Value}{Q:Value->Shared->Prop}(hh:A.handled=none)(hi:ItAt tp s.heap it a i)(ha:ObAt tp s.heap a xs)(hx:xs[i]?=none)
  (k:∀ h' e,Heap.ExtBut it s.heap h'->(∃ o,h'.get? e=some o/\o.cls= .type "StopIteration")->E (.ref e) { s with heap:=h'}):wpAny (model prog w) A (Builtin.SmallTypes.nextOf (.ref it)) Q E s:=by
 cases tp with
 | false=>exact wpAny_nextOf_list_end hh hi ha hx k
 | true=>
  obtain⟨o,e,c,d⟩:=id (show s.heap.IsTupleIter it a i from hi)
  obtain⟨u,eu,_,n,du⟩:=(show s.heap.IsTuple a xs from ha)
  have ty:=Heap.IsTupleIter.typeIs (show s.heap.IsTupleIter it a i from hi)
  unfold Builtin.SmallTypes.nextOf
  refine aa (cZ (name:=Str.ofString "__next__") ty F.slot_tuple_iterator_next (cz F.slot_tuple_iterator_next ty F.entry_tuple_iterator_next (?_:wpAny (model prog w) _ (field (.ref it) 0 >>= _) _ _ s) (F.args_tuple_iterator_next_1 _)))
  refine aa (eM e d (x:= .ref a) rfl (?_:wpAny (model prog w) _ (if (Value.ref a==Value.none)=true then _ else _) _ _ s))
  rw[ae (by exact aq)]
  show wpAny (model prog w) _ (field (.ref it) 1 >>= _) _ _ s
  refine aa (eM e d (x:= .int i 0) rfl ?_)
  show wpAny (model prog w) _ (seqItems? (.ref a) >>= _) _ _ s
  refine aa (gA eu du ?_)
  simp only [aK,hx]
  refine aa (dw (aa (wpAny_setField e d (by simp) (?_:wpAny (model prog w) _ (newExc (.type "StopIteration") [] >>= _) _ _ _))))
  refine aa (by
   simp only [newExc,newTuple]
   refine aa (cU (aa (m:=firstArgMember _ _) (ki (a:=Value.none) (by first | rfl | (simp only [firstArgMember]; rfl)) (cU ?_ (by size_fits)))) (by size_fits))
   simp only [raiseNew]
   refine aa (wpAny_handled ?_)
   first | rw[show A.in1.handled=none from hh] | rw[hh]
   exact aa (ao (wpAny_throw (k _ _ (((im ..).extBut.push _).push _) ⟨_,aB _ rfl,rfl⟩))))
end
noncomputable def iterO (tp:Bool)(a:Addr):Obj:=match tp with
 | false=> { cls:= .type "list_iterator",data:= .fields #[.ref a, .int 0 0]}
 | true=> { cls:= .type "tuple_iterator",data:= .fields #[.ref a, .int 0 0]}
theorem jKN (tp:Bool)(a:Addr):(iterO tp a).isFreed=false:=by cases tp <;> rfl
theorem jF6 {prog:Program}{w:World}{A:Around}{E:Value->Shared->Prop}{s:Shared}{tp:Bool}{a:Addr}{xs:Array Value}{Q:Value->Shared->Prop}(h:ObAt tp s.heap a xs)(q:Q (.ref s.heap.objs.size) { s with heap:=s.heap.push (iterO tp a)}):
  wpAny (model prog w) A (pyIter (.ref a)) Q E s:=by
 cases tp with
 | false=>exact dG h q
 | true=>exact wpAny_pyIter_tuple h q
theorem ItAt.new (tp:Bool){h:Heap}{it a:Addr}(e:h.get? it=some (iterO tp a)):ItAt tp h it a 0:=by
 cases tp with
 | false=>exact⟨_,e,rfl,rfl⟩
 | true=>exact⟨_,e,rfl,rfl⟩
def Sq (tp:Bool)(K:W.Frag)(H:Hp)(a:Addr)(xs:List V):Prop:=match tp with
 | false=>SqL K H a xs
 | true=>SqT K H a xs
theorem Inv.sq {X:Cx}{ad:List (Addr×Obj)}{σ:St}{H:Hp}{s:Shared}{tp:Bool}{a:Addr}{xs:List V}(I:Inv X ad σ H s)(h:Sq tp X.K H a xs):∃ its:List Value,Vals xs its/\ObAt tp s.heap a its.toArray/\xs.length<=sizeLine:=by
 cases tp with
 | false=>
  obtain⟨its,r,p,z⟩:=I.list h
  exact⟨its,r,p.isList,z⟩
 | true=>exact I.tuple h
theorem Inv.sq_inj {X:Cx}{ad:List (Addr×Obj)}{σ:St}{H:Hp}{s:Shared}{tp:Bool}{a:Addr}{xs ys:List V}(I:Inv X ad σ H s)(h:Sq tp X.K H a xs)(h':Sq tp X.K H a ys):xs=ys:=by
 cases tp with
 | false=>exact I.list_inj h h'
 | true=>exact I.tuple_inj h h'
structure JE (X:Cx)(e:Expr)(t:TE):Prop where
 h:PE X e t
structure JA (X:Cx)(es:List Expr)(t:TA):Prop where
 h:PA X es t
structure JT (X:Cx)(e:Expr)(t:TT):Prop where
 h:PT X e t
structure JTs (X:Cx)(e:List Expr)(t:TT):Prop where
 h:PTs X e t
structure JS (X:Cx)(e:Stmt)(t:TS):Prop where
 h:PS X e t
structure JSs (X:Cx)(e:List Stmt)(t:TS):Prop where
 h:PSs X e t
structure JG (X:Cx)(e:Expr)(t:TG):Prop where
 h:PG X e t
structure JGs (X:Cx)(e:List Expr)(t:TGs):Prop where
 h:PGs X e t
structure JI (X:Cx)(tg e:Expr)(t:TI):Prop where
 h:PI X tg e t
structure JO (X:Cx)(e:Option Expr)(t:TO):Prop where
 h:PO X e t
structure Loc1 (X:Cx)(x:Str):Prop where
 a:Loc X.env.scope x
 b:X.fn x=true\/X.env.scope.names.lookup x=some .local
structure Vis1 (X:Cx)(x:Str):Prop where
 a:Vis X.env.scope x
structure Gl1 (X:Cx)(x:Str):Prop where
 a:Gl X x
section
variable {o:Option Expr}{l:Nat}
structure SwOk (e:Expr)(o:Option Expr):Prop where
 h:∀ l env,swapsWith e o l env=pure false
theorem jE9 {op:Operator} :SwOk (.BinOp a op b pos) o:=⟨fun _ _=>rfl⟩
theorem kJ {kw:List Keyword} :SwOk (.Call a xs kw pos) o:=⟨fun _ _=>rfl⟩
theorem jLF:SwOk (.Subscript a b pos) o:=⟨fun _ _=>rfl⟩
theorem jUJ {x1} :SwOk (.Tuple xs x1 pos) o:=⟨fun _ _=>rfl⟩
theorem jIM:SwOk (.List xs pos) o:=⟨fun _ _=>rfl⟩
theorem jEX {c k} :SwOk (.Constant c k pos) o:=⟨fun _ _=>rfl⟩
theorem jIW {op:Operator} :jAX (.BinOp a op b pos):=fun _ _=>rfl
theorem jLY {kw:List Keyword} :jAX (.Call a xs kw pos):=fun _ _=>rfl
theorem jE {i:Int}{k} :jAX (.Constant (.int i) k pos):=fun _ _=>rfl
theorem jCE {x:Str} :jAX (.Name x pos):=fun _ _=>rfl
theorem jUQ:jAX (.Subscript a b pos):=fun _ _=>rfl
structure FoOk (iter:Expr):Prop where
 h:∀ env x,foldedSetIterable iter env x=pure x
theorem kS {kw:List Keyword} :FoOk (.Call a xs kw pos):=⟨fun _ _=>rfl⟩
theorem yD {x:Str} :FoOk (.Name x pos):=⟨fun _ _=>rfl⟩
theorem jGV:FoOk (.Subscript a b pos):=⟨fun _ _=>rfl⟩
structure TvOk (e:Expr):Prop where
 h:∀ env whole,isTrue e env whole=(do let v <- whole; standAt e.pos; holding [v] (truthy v))
theorem jBL {kw:List Keyword} :TvOk (.Call a xs kw pos):=⟨fun _ _=>rfl⟩
end
variable {te:TE}{x:Str}
section
variable {e o:Expr}{ta tb to:TE}{t:TA}{p cpos apos:Pos}{T:String}{id:String}
theorem jv (i:Nat)(hN:X.N[i]?=some x)(hv:Vis1 X x)(hd:(x==("__debug__" :Str))=false:=by decide)(hcd:(x==("__classdict__" :Str))=false:=by decide):JE X (.Name x pos) (tVar i):=⟨jM8 hN hv.a hd hcd⟩
theorem je_int {i j} :JE X (.Constant (.int i) j pos) (tC (.int i)):=⟨jM⟩
theorem je_bl {i j} :JE X (.Constant (.bool i) j pos) (tC (.bl i)):=⟨pe_bl⟩
theorem jJM {j} :JE X (.Constant .none j pos) (tC .non):=⟨jV6⟩
theorem jDV {v:V}{u:Value}(hg:Gl1 X x)(hm:X.mg x=none)(hv:bootBuiltins x=some u)(r:RelV v u)(hn:x≠ "__name__" :=by decide)(hd:(x==("__debug__" :Str))=false:=by decide):JE X (.Name x pos) (tC v):=⟨jST hg.a hm hv r hn hd⟩
theorem jY {op:Operator}{r:R2}(ho:OpR X (binaryOp op) r)(ha:JE X a ta)(hb:JE X b tb):JE X (.BinOp a op b pos) (tOp r ta tb):=⟨kP ho ha.h hb.h⟩
theorem je_un {op:UnaryOp}{r:V->Hp->VK->Prop}(ho:UnR X (unaryOp op) r)(ha:JE X a ta):JE X (.UnaryOp op a pos) (tUn r ta):=⟨pe_un ho ha.h⟩
theorem jVW (ha:JE X a ta):JE X (.UnaryOp .Not a pos) (tNotV ta):=⟨jV5 ha.h⟩
theorem jBQ {op:CmpOp}{r:R2}(ho:OpR X (compareOp op) r)(ha:JE X a ta)(hb:JE X b tb)(hm:behindInMarks op b=false):JE X (.Compare a [op] [b] pos) (tOp r ta tb):=⟨jSQ ho ha.h hb.h hm⟩
theorem jNL {rest:List Expr}(ha:JE X a ta)(hb:JE X (.BoolOp .And (b::rest) pos) tb):JE X (.BoolOp .And (a::b::rest) pos) (tAndV ta tb):=⟨jV9 ha.h hb.h⟩
theorem je_or {rest:List Expr}(ha:JE X a ta)(hb:JE X (.BoolOp .Or (b::rest) pos) tb):JE X (.BoolOp .Or (a::b::rest) pos) (tOrV ta tb):=⟨pe_or ha.h hb.h⟩
theorem jJL {op}(ha:JE X a ta):JE X (.BoolOp op [a] pos) ta:=⟨jV4 ha.h⟩
theorem jNH (h:JA X es t):JE X (.List es pos) (tLst t):=⟨jJ3 h.h⟩
theorem jJJ {x1}(h:JA X es t):JE X (.Tuple es x1 pos) (tTup t):=⟨jV3 h.h⟩
theorem jJK {lo hi:Option Expr}{tl th:TO}{r:V->Option Int->Option Int->Hp->VK->Prop}(hr:SlR X r)(he:JE X e te)(hl:JO X lo tl)(hu:JO X hi th):JE X (.Subscript e (.Slice lo hi none p2) pos) (tSl r te tl th):=⟨jPH hr he.h hl.h hu.h⟩
theorem jU {r:R2}(hr:IxR X r)(ha:JE X a ta)(hb:JE X b tb)(hs:jAX b):JE X (.Subscript a b pos) (tOp r ta tb):=⟨pe_ix hr ha.h hb.h hs⟩
theorem kX {T}{r:List V->Hp->VK->Prop}(hc:qC X (.type T) r)(hg:Gl1 X x)(hm:X.mg x=none)(hv:bootBuiltins x=some (.type T))(ha:JA X (e::es) t)(he:starEach (e::es) X.env=(false,eval e X.env)::starEach es X.env)(hn:x≠ "__name__" :=by decide)(hdb:(x==("__debug__" :Str))=false:=by decide)
  (hpl:(backTo pos (starEach es X.env)).any (·.1)=false:=by rfl):JE X (.Call (.Name x p) (e::es) [] pos) (tCB r t):=⟨jBX hc hg.a hm hv ha.h hn hdb he hpl⟩
theorem jG {id}{r:List V->Hp->VK->Prop}(hc:qC X (.builtin id) r)(hg:Gl1 X x)(hm:X.mg x=none)(hv:bootBuiltins x=some (.builtin id))(ha:JA X (e::es) t)(he:starEach (e::es) X.env=(false,eval e X.env)::starEach es X.env)(hn:x≠ "__name__" :=by decide)(hdb:(x==("__debug__" :Str))=false:=by decide)
  (hpl:(backTo pos (starEach es X.env)).any (·.1)=false:=by rfl):JE X (.Call (.Name x p) (e::es) [] pos) (tCB r t):=⟨jFA hc hg.a hm hv ha.h hn hdb he hpl⟩
theorem j7:JA X [] tNil:=⟨yF⟩
theorem j3 (ha:JE X e te)(hr:JA X es t)(hs:starEach (e::es) X.env=(false,eval e X.env)::starEach es X.env):JA X (e::es) (tCons te t):=⟨jZ ha.h hr.h hs⟩
theorem jI {op:CmpOp}{r:R2}(ho:OpR X (compareOp op) r)(ha:JE X a ta)(hb:JE X b tb)(hm:behindInMarks op b=false):JT X (.Compare a [op] [b] pos) (tTest (tOp r ta tb)):=⟨jDK ho ha.h hb.h hm⟩
theorem jDR (h:JE X e te)(he:TvOk e):JT X e (tB te):=⟨jUT h.h (he.h _)⟩
theorem jDS {tA:TT}(ha:JT X a tA):JT X (.UnaryOp .Not a pos) (tNot tA):=⟨jUU ha.h⟩
theorem y4:JTs X [] yQ:=⟨jM0⟩
theorem jAZ {t:TT}(h:JT X e t):JTs X [e] t:=⟨jLZ h.h⟩
theorem jN {i:Nat}(hN:X.N.Nodup)(hi:X.N[i]?=some x)(hx:Loc1 X x):JG X (.Name x pos) (kU i):=⟨jF9 hN hi hx.a hx.b⟩
theorem jA6 {tg:Expr}(hg:Gl1 X "range")(hm:X.mg "range" =none)(ha:JA X [a] t)(hs:starEach [a] X.env=(false,eval a X.env)::starEach [] X.env):JI X tg (.Call (.Name "range" p) [a] [] pos) (iRng1 t):=⟨jBW hg.a hm ha.h hs⟩
theorem yC {tg:Expr}(hl:JE X a ta):JI X tg a (iList X.K ta):=⟨jSJ hl.h⟩
theorem jBJ {tg:Expr}(hl:JE X a ta):JI X tg a (iTup X.K ta):=⟨jV0 hl.h⟩
theorem jNB:JO X none jLB:=⟨jSG⟩
theorem jNA (h:JE X e te):JO X (some e) (tPart te):=⟨jSF h.h⟩
theorem jP {i:Nat}{pos':Pos}(hN:X.N.Nodup)(hi:X.N[i]?=some x)(hx:Loc1 X x)(he:JE X e te)(hs:SwOk e (some (.Name x pos'))):JS X (.Assign [.Name x pos'] e pos) (tAsg te (kU i)):=⟨qD hN hi hx.a he.h (hs.h _ _) hx.b⟩
theorem jQ (he:JE X e te):JS X (.Return (some e) pos) (tRet te):=⟨jCX he.h⟩
theorem jFJ (he:JE X e te)(hs:SwOk e none):JS X (.Expr e pos) (tDrop te):=⟨jSB he.h (hs.h _ _)⟩
theorem kL:JSs X [] tNext:=⟨jF8⟩
theorem jC {st:Stmt}{t:TS}(h1:JS X st t):JSs X [st] t:=⟨jAU h1.h⟩
theorem jB {st:Stmt}{rest:List Stmt}{t u:TS}(h1:JS X st t)(h2:JSs X rest u):JSs X (st::rest) (tSeq t u):=⟨kT h1.h h2.h⟩
theorem yH {c:Expr}{a b:List Stmt}{tc:TT}{t u:TS}(hc:JT X c tc)(ha:JSs X a t)(hb:JSs X b u):JS X (.If c a b pos) (tIfS tc t u):=⟨ps_if hc.h ha.h hb.h⟩
theorem yP {tg iter:Expr}{body:List Stmt}{wi:TI}{g:TG}{tb:TS}(hp:PassesOwn (model X.prog X.w) X.A X.env X.xe)(hc:X.calm=true)(hi:JI X tg iter wi)(hg:JG X tg g)(hb:JSs X body tb)(hs:FoOk iter):JS X (.For tg iter body [] pos) (tFor wi g tb):=⟨jR8 hp hc hi.h hg.h hb.h (hs.h _)⟩
theorem je_bm {T:String}{name:Str}{r}(pa:PlainAttrs T)(slot:Slot T name id)(hty:typeOf (.builtin id)=pure (.type "method_descriptor"))(hm:MtR X id r)(ho:JE X o to)(ha:JA X (e::es) t)
  (hs:starEach (e::es) X.env=(false,eval e X.env)::starEach es X.env)
  (hbase:attributeBase o name X.env (eval o X.env)=eval o X.env:=by rfl)
  (hfew:((backTo cpos (starEach (e::es) X.env)).all (fun x=>!x.1)&&(backToKw cpos (keywordEach [] X.env)).all (fun x=>x.1.isSome)
   &&decide ((e::es).length+([]:List Keyword).length+(if ([]:List Keyword).isEmpty then 0 else 1)<30))=true:=by rfl)
  (hline:(apos.endLine==cpos.line)=true:=by rfl) (hplain:(backTo cpos (starEach es X.env)).any (·.1)=false:=by rfl):
  JE X (.Call (.Attribute o name apos) (e::es) [] cpos) (tBM X.K T r to t):=⟨pe_bm pa slot hty hm ho.h ha.h hbase hfew hline hs hplain⟩
theorem kN {tg iter elt:Expr}{ifs:List Expr}{sc:Scope}{wi:TI}{g:TG}{tt:TT}{m:List (Option Nat)}{Nc:List Str}(hc:X.calm=true)(hi:JI X tg iter wi)(hkind:sc.kind= .function)(hcell:∀ y∈sc.names,y.2≠ .cell)(hnames:∀ y∈sc.names,y.2= .local->sc.names.lookup y.1=some .local)
  (hfree:∀ y∈sc.names,y.2= .free->X.env.scope.names.lookup y.1=some .cell\/X.env.scope.names.lookup y.1=some .free) (hm:jD3 X sc Nc m)
  (hg:∀ cl C fp s H,JG (blk X sc cl C Nc fp s H) tg g) (ht:∀ cl C fp s H,JTs (blk X sc cl C Nc fp s H) ifs tt) (he:∀ cl C fp s H,JE (blk X sc cl C Nc fp s H) elt te)
  (hs:FoOk iter):JE X (.ListComp elt [⟨tg,iter,ifs,0⟩] sc pos) (tComp m wi g tt te):=⟨jHR hc hi.h hkind hcell hnames hfree hm (fun cl C fp s H=>(hg cl C fp s H).h) (fun cl C fp s H=>(ht cl C fp s H).h) (fun cl C fp s H=>(he cl C fp s H).h) (hs.h _)⟩
theorem jVZ {p1 p2 p3 p4 p5 p6 p7:Pos}{k1 k2 k3 k4:Nat} :JE X (.BinOp (.BinOp (.Constant (.int 2) k1 p1) .Mult (.BinOp (.Constant (.int 10) k2 p2) .Pow (.Constant (.int 12) k3 p3) p4) p5) .Add (.Constant (.int 1) k4 p6) p7) (tC (.int 2000000000001)):=⟨jV8⟩
end
variable {P:Program}{mg:Str->Option Value}{base:Heap}{N:List Str}{qual:Str}{f:Addr}{cdv:Value}{outer:List Env}{H:Hp}{E:XK}
section
variable {K:W.Frag}{sc:Scope}
theorem gl_d (h:sc.names.lookup x=some .globalImplicit):Gl1 (cxOf CX0 P w K mg base N qual sc f cdv A outer s H E).nox x:=⟨h⟩
theorem gD (h:sc.names.lookup x=some .globalImplicit:=by decide+kernel):Gl1 (cxOf CX0 P w K mg base N qual sc f cdv A outer s H E).nox x:=gl_d h
theorem vis_l (h:sc.names.lookup x=some .local):Vis1 (cxOf CX0 P w K mg base N qual sc f cdv A outer s H E).nox x:=⟨.inl h⟩
theorem vL (h:sc.names.lookup x=some .local:=by decide+kernel):Vis1 (cxOf CX0 P w K mg base N qual sc f cdv A outer s H E).nox x:=vis_l h
theorem vis_c (h:sc.names.lookup x=some .cell):Vis1 (cxOf CX0 P w K mg base N qual sc f cdv A outer s H E).nox x:=⟨.inr (.inl h)⟩
theorem vC (h:sc.names.lookup x=some .cell:=by decide+kernel):Vis1 (cxOf CX0 P w K mg base N qual sc f cdv A outer s H E).nox x:=vis_c h
end
theorem jAN {env:Env}{x:Str}{k:NameKind}(hk:k≠ .free):∀ {l:List (Str×NameKind)},l.lookup x=some k->
  (l.map fun (n,k)=>if (k==NameKind.free&&env.scope.kind== .function&&env.kindOf n==some .cell) then (n,NameKind.cell) else (n,k)).lookup x=some k
 | [],h=>by cases h
 | (n,k')::r,h=>by
  have ih:= @jAN env x k hk r
  rw[bL] at h
  rw[aY]
  dsimp only
  by_cases hb:(k'==NameKind.free&&env.scope.kind== .function&&env.kindOf n==some .cell)=true
  ·rw[ah hb,bL]
   cases hx:x==n with
   | true=>
    rw[hx] at h
    have e:k'=k:=bo h
    simp only [cg] at hb
    exact absurd (e.symm.trans (eq_of_beq hb.1.1)) hk
   | false=>rw[hx] at h; exact ih h
  ·rw[ae hb,bL]
   cases hx:x==n with
   | true=>rw[hx] at h; exact h
   | false=>rw[hx] at h; exact ih h
variable {cl:List (Str×Addr)}{C:Addr}{Nc:List Str}{fp:List Addr}
section
variable {sc:Scope}
theorem gl_b (h:sc.names.lookup x=some .globalImplicit:=by decide+kernel):Gl1 (blk X sc cl C Nc fp s H) x:=⟨jAN (by decide) h⟩
theorem jO (h:sc.names.lookup x=some .local:=by decide+kernel):Vis1 (blk X sc cl C Nc fp s H) x:=⟨.inl (jAN (by decide) h)⟩
theorem yI (h:sc.names.lookup x=some .free:=by decide+kernel):Vis1 (blk X sc cl C Nc fp s H) x:=⟨.inr (jCH h)⟩
theorem yW (h:sc.names.lookup x=some .local:=by decide+kernel):Loc1 (blk X sc cl C Nc fp s H) x:=⟨.inl (jAN (by decide) h), .inr (jAN (by decide) h)⟩
end
section
variable {K:W.Frag}{sc:Scope}
theorem loc_l (h:sc.names.lookup x=some .local):Loc1 (cxOf CX0 P w K mg base N qual sc f cdv A outer s H E).nox x:=⟨.inl h, .inl rfl⟩
theorem lL (h:sc.names.lookup x=some .local:=by decide+kernel):Loc1 (cxOf CX0 P w K mg base N qual sc f cdv A outer s H E).nox x:=loc_l h
theorem loc_c (h:sc.names.lookup x=some .cell:=by decide+kernel):Loc1 (cxOf CX0 P w K mg base N qual sc f cdv A outer s H E).nox x:=⟨.inr h, .inl rfl⟩
end
structure JW (X:Cx)(e:Expr)(t:TT):Prop where
 h:PW X e t
section
variable {rest:List Expr}{tA tB':TT}
theorem jN8 (ha:JT X a tA):JW X (.BoolOp .And [a] pos) tA:=⟨jS7 ha.h⟩
theorem jJG (ha:JT X a tA):JW X (.BoolOp .Or [a] pos) tA:=⟨jUR ha.h⟩
theorem jRF (ha:JT X a tA)(hb:JW X (.BoolOp .And (b::rest) pos) tB'):JW X (.BoolOp .And (a::b::rest) pos) (tAnd tA tB'):=⟨jUS ha.h hb.h⟩
theorem jw_or (ha:JT X a tA)(hb:JW X (.BoolOp .Or (b::rest) pos) tB'):JW X (.BoolOp .Or (a::b::rest) pos) (tOr tA tB'):=⟨pw_or ha.h hb.h⟩
theorem jt_w (h:JW X a tA):JT X a tA:=⟨h.h.pt⟩
theorem jI3:JGs X [] gNil:=⟨jSL⟩
structure AsOk (e:Expr):Prop where
 h:∀ es env,assignEach (e::es) env=(false,assign e env)::assignEach es env
theorem jCP {x:Str} :AsOk (.Name x pos):=⟨fun _ _=>rfl⟩
theorem jBA {e:Expr}{es:List Expr}{t:TG}{u:TGs}(h1:JG X e t)(h2:JGs X es u)(hs:AsOk e):JGs X (e::es) (gCons t u):=⟨jPG h1.h h2.h (by rw[hs.h]; rfl)⟩
theorem jNG {es:List Expr}{k:Nat}{t:TGs}{n:Nat}(hc:X.calm=true)(h:JGs X es t)(hn:(assignEach es X.env).length=n:=by rfl)(hst:(assignEach es X.env).findIdx? (·.1)=none:=by rfl):JG X (.Tuple es k pos) (gTup X.K n t):=⟨jV1 hc h.h hn hst⟩
theorem jHW {op:CmpOp}{x:Str} :behindInMarks op (.Name x pos)=false:=by cases op <;> rfl
end
theorem jAO {X:Cx}{sc:Scope}{cl:List (Str×Addr)}{C:Addr}{Nc:List Str}{fp:List Addr}{s:Shared}{H:Hp}{x y:Str}{p1 p2 pos:Pos}{k:Nat}{i j:Nat}(hc:X.calm=true)(hN:Nc.Nodup)(hi:Nc[i]?=some x)(hj:Nc[j]?=some y)(hx:sc.names.lookup x=some .local)(hy:sc.names.lookup y=some .local):
  JG (blk X sc cl C Nc fp s H) (.Tuple [.Name x p1, .Name y p2] k pos) (gTup X.K 2 (gCons (kU i) (gCons (kU j) gNil))):=
 jNG (X:=blk X sc cl C Nc fp s H) hc (jBA (jN hN hi (yW hx)) (jBA (jN hN hj (yW hy)) jI3 jCP) jCP)
variable {m:List (Option Nat)}{g:TG}{tt:TT}{H1:Hp}{Q:VK}
section
variable {K:W.Frag}{σ:St}
end
section
variable {sc:Scope}
theorem jMF:OpR (blk X sc cl C Nc fp s H) (compareOp .In) (rIn X.K false):=jME
theorem jEG:OpR (blk X sc cl C Nc fp s H) (compareOp .NotIn) (rIn X.K true):=jGH
theorem jBC:IxR (blk X sc cl C Nc fp s H) (rIxT X.K):=jV
theorem jCM:qC (blk X sc cl C Nc fp s H) (.builtin "len") (fun xs H Q=>∃ p ys,xs=[.ref p]/\(SqL X.K H p ys\/SqT X.K H p ys)/\Q (.int ys.length) H):=jS
end
def Ext (H H':Hp):Prop:=∀ b o,H b=some o->H' b=some o
theorem Ext.refl (H:Hp):Ext H H:=fun _ _ h=>h
theorem Ext.trans {H H1 H2:Hp}(a:Ext H H1)(b:Ext H1 H2):Ext H H2:=fun c o h=>b c o (a c o h)
theorem Ext.new {H H1:Hp}{l:Addr}(a:Ext H H1)(hl:H1 l=none)(o:HO):Ext H (upd H1 l o):=fun c u h=>by
 have:=a c u h
 rw[j8 (jA this hl)]
 exact this
theorem Ext.updNew {H H1:Hp}{l:Addr}(a:Ext H H1)(hl:H l=none)(o:HO):Ext H (upd H1 l o):=fun c u h=>by
 rw[j8 (jA h hl)]
 exact a c u h
def TupR (H:Hp)(xs:List V)(Q:VK):Prop:=∀ r H',H' r=some (.tup xs)->Ext H H'->Q (.ref r) H'
theorem TupR.new {H:Hp}{xs:List V}{Q:VK}(q:TupR H xs Q){p:Addr}(hp:H p=none):Q (.ref p) (upd H p (.tup xs)):=q p _ j6 ((Ext.refl H).new hp _)
theorem TupR.old {H:Hp}{xs:List V}{Q:VK}(q:TupR H xs Q){p:Addr}(hp:H p=some (.tup xs)):Q (.ref p) H:=q p H hp (Ext.refl H)
def rCatU:R2:=fun x y H Q=>∃ a b xs ys,x= .ref a/\y= .ref b/\H a=some (.tup xs)/\H b=some (.tup ys)/\xs.length+ys.length<=sizeLine/\TupR H (xs++ys) Q
theorem jSV:OpR X (binaryOp .Add) rCatU:=by
 intro ad s σ H x y v u Q I rx ry h
 obtain⟨a,b,xs,ys,rfl,rfl,ha,hb,hz,q⟩:=h
 by_cases hx:xs=[]
 ·subst hx
  cases rx
  cases ry
  obtain⟨_,its,r1,n1,e1⟩:=I.hok a _ ha
  obtain⟨_,its2,r2,n2,e2⟩:=I.hok b _ hb
  cases r1
  exact concat_meets ⟨_,e1,rfl⟩ ⟨_,e2,rfl⟩ i8 seq_tuple_add gw gm (fV _ _) (AutoSeq1.tuple___add___tuple_tuple_0 a _ n1 b its2.toArray n2 (by simp)) ⟨e1,e2, .ref b,H,I,rfl,q.old hb⟩
 ·refine jSW ad s σ H _ _ v u Q I rx ry ⟨a,b,xs,ys,rfl,rfl,SqT.of ha,SqT.of hb,hx,hz,fun e=>?_,fun _ p hp=>q.new hp⟩
  subst e
  rw[bq] at q
  exact q.old ha
section
variable (l:Addr)(items:Array Value)(n:Nat)(x:Int)(u:Tok)(h1:¬ (decide (x< -(2 ^ 63)) || decide (x ≥ 2 ^ 63))=true)
include h1
end
theorem Inv.big' {ad:List (Addr×Obj)}{σ:St}{H:Hp}{s:Shared}(I:Inv X ad σ H s):sysModules<s.heap.objs.size:=iq (by decide) (I.mod.glob.keeps I.bk).lt
def jUE:TE:=fun _ H Q=>∀ p,H p=none->Q (.ref p) (upd H p (.dK []))
theorem jFK {pos:Pos} :JE X (.Dict [] [] pos) jUE:=⟨fun ad s σ H Q I h=>
 wpAny_Dict_empty ⟨.ref s.heap.objs.size,_,I.laid (a:=s.heap.objs.size) (o:= .dK []) (t':=s.toks) (fun _ _ q=>ag _ q) (ar _)
  ⟨bx _,cc.mpr (eG (bb I.big')),[], .nil,Heap.DictOf.new s.heap⟩,rfl,h _ (I.hok.fresh (ar _))⟩⟩
theorem jI4 {x:Str}{v:V}{u:Value}{pos:Pos}(hg:Gl1 X x)(hm:X.mg x=some u)(r:RelV v u)(hd:(x==("__debug__" :Str))=false:=by decide):JE X (.Name x pos) (tC v):=⟨jSM hg.a hm r hd⟩
theorem jNE {tg a b:Expr}{t:TA}{p pos:Pos}(hg:Gl1 X "range")(hm:X.mg "range" =none)(ha:JA X [a,b] t)(hs:starEach [a,b] X.env=(false,eval a X.env)::starEach [b] X.env)(hs2:starEach [b] X.env=(false,eval b X.env)::starEach [] X.env):
  JI X tg (.Call (.Name "range" p) [a,b] [] pos) (iRng2 t):=⟨jM7 hg.a hm ha.h (by rw[hs,hs2]; rfl) hs2⟩
section
variable {K:W.Frag}{σ:St}
theorem jDD {a:Addr}{xs:List V}(hn:xs.length<sizeLine)(Pv:Addr->Nat->St->Hp->List V->Prop)(h0:∀ D,H1 D=none->Pv D 0 (blkσ m σ) (upd H1 D (.lst [])) [])
  (hD:∀ D i σ' H' zs,H1 D=none->Pv D i σ' H' zs->H' a=some (.tup xs)/\H' D=some (.lst zs)/\zs.length<=i)
  (hs:∀ D i σ' H' zs x,H1 D=none->xs[i]?=some x->Pv D i σ' H' zs->g x σ' H' fun σ2 H2=>tt σ2 H2 fun b H3=>if b=true then te σ2 H3 fun v H4=>H4 D=some (.lst zs)/\Pv D (i+1) σ2 (upd H4 D (.lst (zs++[v]))) (zs++[v]) else Pv D (i+1) σ2 H3 zs)
  (hd:∀ D σ' H' zs,H1 D=none->Pv D xs.length σ' H' zs->Q (.ref D) H'):qO m g tt te σ Q (Itt K a) H1:=by
 intro D hDn
 refine⟨fun i k σ' H' zs=>k=xs.length - i/\i<=xs.length/\Pv D i σ' H' zs,⟨_,rfl,bx _,h0 D hDn⟩,?_⟩
 rintro i k σ' H' zs ⟨rfl,hi,p⟩
 obtain⟨s1,q1,q2⟩:=hD D i σ' H' zs hDn p
 refine⟨q1,by lia,?_⟩
 by_cases hlt:i<xs.length
 ·refine .inr ⟨⟨xs,xs[i],SqT.of s1,by simp [hlt]⟩,Pv D (i+1),fun σ2 H2 zs z=>⟨xs.length - (i+1),by lia,rfl,hlt,z⟩,fun v H'' y=>?_⟩
  obtain⟨e1,e2⟩:=y
  subst e1
  exact hs D i σ' _ zs v hDn (e2 xs (SqT.of s1)) p
 ·have e:i=xs.length:=by lia
  subst e
  exact .inl ⟨⟨xs,SqT.of s1,ar _⟩,hd D σ' H' zs hDn p⟩
end
inductive Tr where
 | non
 | bl (b:Bool)
 | int (i:Int)
 | str (x:Str)
 | lst (ts:List Tr)
 | tup (ts:List Tr)
mutual
def TAt (H:Hp):Tr->V->Prop
 | .non,v=>v= .non
 | .bl b,v=>v= .bl b
 | .int i,v=>v= .int i
 | .str x,v=>v= .str x
 | .lst ts,v=>∃ a vs,v= .ref a/\H a=some (.lst vs)/\TsAt H ts vs
 | .tup ts,v=>∃ a vs,v= .ref a/\H a=some (.tup vs)/\TsAt H ts vs
def TsAt (H:Hp):List Tr->List V->Prop
 | [],vs=>vs=[]
 | t::ts,vs=>∃ v r,vs=v::r/\TAt H t v/\TsAt H ts r
end
mutual
def dep:Tr->Nat
 | .lst ts=>deps ts+1
 | .tup ts=>deps ts+1
 | _=>0
def deps:List Tr->Nat
 | []=>0
 | t::ts=>max (dep t) (deps ts)
end
mutual
def eqT:Tr->Tr->Bool
 | .non, .non=>true
 | .bl a, .bl b=>a==b
 | .bl a, .int b=>(if a then 1 else 0)==b
 | .int a, .bl b=>a==(if b then 1 else 0)
 | .int a, .int b=>a==b
 | .str a, .str b=>a==b
 | .lst a, .lst b=>eqTs a b
 | .tup a, .tup b=>eqTs a b
 | _,_=>false
def eqTs:List Tr->List Tr->Bool
 | [],[]=>true
 | a::as,b::bs=>eqT a b&&eqTs as bs
 | _,_=>false
end
mutual
theorem jQG:∀ t:Tr,eqT t t=true
 | .non=>by simp [eqT]
 | .bl b=>by simp [eqT]
 | .int i=>by simp [eqT]
 | .str x=>by simp [eqT]
 | .lst ts=>by rw[eqT]; exact jDZ ts
 | .tup ts=>by rw[eqT]; exact jDZ ts
theorem jDZ:∀ ts:List Tr,eqTs ts ts=true
 | []=>by simp [eqTs]
 | t::ts=>by rw[eqTs,jQG t,jDZ ts]; rfl
end
mutual
theorem TAt.ext {H H':Hp}(e:Ext H H'):∀ {t:Tr}{v:V},TAt H t v->TAt H' t v
 | .non,_,h=>h
 | .bl _,_,h=>h
 | .int _,_,h=>h
 | .str _,_,h=>h
 | .lst ts,_,⟨a,vs,q,h,r⟩=>⟨a,vs,q,e _ _ h,TsAt.ext e r⟩
 | .tup ts,_,⟨a,vs,q,h,r⟩=>⟨a,vs,q,e _ _ h,TsAt.ext e r⟩
theorem TsAt.ext {H H':Hp}(e:Ext H H'):∀ {ts:List Tr}{vs:List V},TsAt H ts vs->TsAt H' ts vs
 | [],_,h=>h
 | t::ts,_,⟨v,r,q,h,s⟩=>⟨v,r,q,TAt.ext e h,TsAt.ext e s⟩
end
mutual
theorem TAt.inj {H:Hp} :∀ {t u:Tr}{v:V},TAt H t v->TAt H u v->t=u
 | .non,u,_,h,h'=>by
  cases (show _=V.non from h)
  cases u with
  | non=>rfl
  | bl b=>cases (show V.non=_ from h')
  | int b=>cases (show V.non=_ from h')
  | str b=>cases (show V.non=_ from h')
  | lst ts=>obtain⟨_,_,q,_⟩:=h'; cases q
  | tup ts=>obtain⟨_,_,q,_⟩:=h'; cases q
 | .bl b,u,_,h,h'=>by
  cases (show _=V.bl b from h)
  cases u with
  | non=>cases (show V.bl b=_ from h')
  | bl b=>cases (show V.bl _=V.bl b from h'); rfl
  | int i=>cases (show V.bl b=V.int i from h')
  | str i=>cases (show V.bl b=V.str i from h')
  | lst ts=>obtain⟨_,_,q,_⟩:=h'; cases q
  | tup ts=>obtain⟨_,_,q,_⟩:=h'; cases q
 | .int b,u,_,h,h'=>by
  cases (show _=V.int b from h)
  cases u with
  | non=>cases (show V.int b=_ from h')
  | bl i=>cases (show V.int b=V.bl i from h')
  | int b=>cases (show V.int _=V.int b from h'); rfl
  | str i=>cases (show V.int b=V.str i from h')
  | lst ts=>obtain⟨_,_,q,_⟩:=h'; cases q
  | tup ts=>obtain⟨_,_,q,_⟩:=h'; cases q
 | .str b,u,_,h,h'=>by
  cases (show _=V.str b from h)
  cases u with
  | non=>cases (show V.str b=_ from h')
  | bl i=>cases (show V.str b=V.bl i from h')
  | int i=>cases (show V.str b=V.int i from h')
  | str b=>cases (show V.str _=V.str b from h'); rfl
  | lst ts=>obtain⟨_,_,q,_⟩:=h'; cases q
  | tup ts=>obtain⟨_,_,q,_⟩:=h'; cases q
 | .lst ts,u,_,⟨a,vs,q,h,r⟩,h'=>by
  subst q
  cases u with
  | non=>cases (show V.ref a=_ from h')
  | bl i=>cases (show V.ref a=V.bl i from h')
  | int i=>cases (show V.ref a=V.int i from h')
  | str i=>cases (show V.ref a=V.str i from h')
  | lst us=>
   obtain⟨a',vs',q',h2,r'⟩:=h'
   cases q'
   rw[h] at h2
   cases h2
   rw[TsAt.inj r r']
  | tup us=>
   obtain⟨a',vs',q',h2,r'⟩:=h'
   cases q'
   rw[h] at h2
   cases h2
 | .tup ts,u,_,⟨a,vs,q,h,r⟩,h'=>by
  subst q
  cases u with
  | non=>cases (show V.ref a=_ from h')
  | bl i=>cases (show V.ref a=V.bl i from h')
  | int i=>cases (show V.ref a=V.int i from h')
  | str i=>cases (show V.ref a=V.str i from h')
  | lst us=>
   obtain⟨a',vs',q',h2,r'⟩:=h'
   cases q'
   rw[h] at h2
   cases h2
  | tup us=>
   obtain⟨a',vs',q',h2,r'⟩:=h'
   cases q'
   rw[h] at h2
   cases h2
   rw[TsAt.inj r r']
theorem TsAt.inj {H:Hp} :∀ {ts us:List Tr}{vs:List V},TsAt H ts vs->TsAt H us vs->ts=us
 | [],us,_,h,h'=>by
  cases (show _=[] from h)
  cases us with
  | nil=>rfl
  | cons u us=>obtain⟨_,_,q,_⟩:=h'; cases q
 | t::ts,us,_,⟨v,r,q,h,s⟩,h'=>by
  subst q
  cases us with
  | nil=>cases (show v::r=[] from h')
  | cons u us=>
   obtain⟨v',r',q,h2,s2⟩:=h'
   cases q
   rw[TAt.inj h h2,TsAt.inj s s2]
end
section
variable {ad:List (Addr×Obj)}{σ:St}
theorem Room.units101 {k:Nat}{A:Around}(r:Room k A):A.units+101<cLine:=by have:=r.un; lia
end
section
variable {tg iter elt:Expr}{ifs:List Expr}{sc:Scope}{wi:TI}
end
section
variable {sc:Scope}
variable {sc2:Scope}{cl2:List (Str×Addr)}{C2:Addr}{Nc2:List Str}{fp2:List Addr}{s2:Shared}{H2:Hp}
end
def rAny (K:W.Frag):List V->Hp->VK->Prop:=fun xs H Q=>∃ (p:Addr) (bs:List Bool),xs=[.ref p]/\SqL K H p (bs.map V.bl)/\Q (.bl (bs.any id)) H
theorem jON (hc:X.calm=true):qC X (.builtin "any") (rAny X.K):=by
 intro ad s σ H xs us Q I r h
 obtain⟨p,bs,rfl,hq,q⟩:=h
 obtain⟨u,rfl,rx⟩:=r.one
 cases rx
 obtain⟨its,r',pl,hz⟩:=I.list hq
 have hlen:=r'.length
 rw[ab] at hlen
 refine call_any_walk (dG pl.isList ?_)
 have hne:p≠s.heap.objs.size:=by
  obtain⟨o,ho,_⟩:=pl.isList
  exact bb (aG ho)
 refine⟨s.heap.objs.size,_,_,_,_,_,fun i=>bs.getD i true,rfl,jn (by simpa using I.ok.hd hc) _ p hne its.toArray,⟨⟨_,aB _ rfl,rfl,rfl⟩,pl.isList.push _⟩,fun i v z Q' E' hP hQ'=>?_,fun h' tk hk=>?_⟩
 ·have hi:its[i]?=some v:=by simpa using hP
  have hb:i<bs.length:=by
   rw[hlen]
   exact(ax.mp hi).1
  obtain⟨u,hu,ru⟩:=r'.get (i:=i) (x:= .bl (bs[i])) (by simp [hb])
  rw[hi] at hu
  cases hu
  cases ru
  have e:bs.getD i true=bs[i]:=by simp [List.getD,hb]
  have hQ2:Q' (bs.getD i true) z:=hQ'
  rw[e] at hQ2
  exact ao hQ2
 ·have e:(List.range its.toArray.size).any (fun i=>bs.getD i true)=bs.any id:=by
   rw[aN,<- hlen]
   rw[bO,jc,jc]
   constructor
   ·rintro ⟨i,hi,hb⟩
    have hi:=br.mp hi
    exact⟨bs[i],cM hi,by simpa [List.getD,hi] using hb⟩
   ·rintro ⟨b,hb,hq⟩
    obtain⟨i,hi,rfl⟩:=eR hb
    exact⟨i,br.mpr hi,by simpa [List.getD,hi] using hq⟩
  rw[e]
  exact⟨.bl _,H,I.kept (t':=tk) fun b o e=>hk b o (by
   intro z
   have z:b=s.heap.objs.size:=by simpa using z
   exact absurd (aG e) (by rw[z]; exact df _)) (ag _ e),rfl,q⟩
theorem jQ4 {c:Expr}{body:List Stmt}{tc:TT}{tb:TS}{pos:Pos}(hp:PassesOwn (model X.prog X.w) X.A X.env X.xe)(hc:JT X c tc)(hb:JSs X body tb):JS X (.While c body [] pos) (jR1 tc tb):=⟨jPA hp hc.h hb.h⟩
theorem jVL {op:CmpOp}{a b:Expr}{pos:Pos} :behindInMarks op (.Subscript a b pos)=false:=by cases op <;> rfl
section
variable {sc:Scope}
theorem jNJ {o e:Expr}{es:List Expr}{to:TE}{t:TA}{cpos apos:Pos}{id:String}{T:String}{name:Str}{r}(pa:PlainAttrs T)(slot:Slot T name id)(hty:typeOf (.builtin id)=pure (.type "method_descriptor"))(hm:MtR (blk X sc cl C Nc fp s H) id r)(ho:JE (blk X sc cl C Nc fp s H) o to)(ha:JA (blk X sc cl C Nc fp s H) (e::es) t)
  (hs:starEach (e::es) (blk X sc cl C Nc fp s H).env=(false,eval e (blk X sc cl C Nc fp s H).env)::starEach es (blk X sc cl C Nc fp s H).env)
  (hbase:attributeBase o name (blk X sc cl C Nc fp s H).env (eval o (blk X sc cl C Nc fp s H).env)=eval o (blk X sc cl C Nc fp s H).env:=by rfl)
  (hfew:((backTo cpos (starEach (e::es) (blk X sc cl C Nc fp s H).env)).all (fun x=>!x.1)&&(backToKw cpos (keywordEach [] (blk X sc cl C Nc fp s H).env)).all (fun x=>x.1.isSome)
   &&decide ((e::es).length+([]:List Keyword).length+(if ([]:List Keyword).isEmpty then 0 else 1)<30))=true:=by rfl)
  (hline:(apos.endLine==cpos.line)=true:=by rfl) (hplain:(backTo cpos (starEach es (blk X sc cl C Nc fp s H).env)).any (·.1)=false:=by rfl):
  JE (blk X sc cl C Nc fp s H) (.Call (.Attribute o name apos) (e::es) [] cpos) (tBM X.K T r to t):=je_bm pa slot hty hm ho ha hs hbase hfew hline hplain
end
end L2
namespace L2
open PySem
theorem jS3 {es:List Expr}{env:Env}{pos:Pos}{ks:List (Option Expr)}{vs:List Expr} :starEach (.Dict ks vs pos::es) env=(false,eval (.Dict ks vs pos) env)::starEach es env:=rfl
def LstR (H:Hp)(xs:List V)(Q:VK):Prop:=∀ r H',H' r=some (.lst xs)->Ext H H'->H r=none->Q (.ref r) H'
theorem LstR.new {H:Hp}{xs:List V}{Q:VK}(q:LstR H xs Q){p:Addr}(hp:H p=none):Q (.ref p) (upd H p (.lst xs)):=q p _ j6 ((Ext.refl H).new hp _) hp
def tTupU (t:TA):TE:=fun σ H Q=>t σ H fun xs H1=>xs.length<=sizeLine/\TupR H1 xs Q
def tLstU (t:TA):TE:=fun σ H Q=>t σ H fun xs H1=>xs.length<=sizeLine/\LstR H1 xs Q
section
variable {X:Cx}{es:List Expr}{t:TA}{pos:Pos}
theorem yX {x1}(h:JA X es t):JE X (.Tuple es x1 pos) (tTupU t):=⟨fun ad s σ H Q I hq=>by
 refine wpAny_Tuple_spliced (lI (h.h pos ad s σ H _ I hq) fun us s1 ⟨xs,H1,I1,r,z,q⟩=>⟨by rw[<- r.length]; exact z,?_⟩)
 have hf:H1 s1.heap.objs.size=none:=I1.hok.fresh (ar _)
 exact⟨.ref s1.heap.objs.size,upd H1 s1.heap.objs.size (.tup xs),I1.laid (t':=s1.toks) (fun b u e=>ag _ e) (ar _) ⟨z,us,r,TupO.new _ _⟩,rfl,q.new hf⟩⟩
theorem yY (h:JA X es t):JE X (.List es pos) (tLstU t):=⟨fun ad s σ H Q I hq=>by
 refine wpAny_List_spliced (lI (h.h pos ad s σ H _ I hq) fun us s1 ⟨xs,H1,I1,r,z,q⟩=>⟨by rw[<- r.length]; exact z,?_⟩)
 have hf:H1 s1.heap.objs.size=none:=I1.hok.fresh (ar _)
 exact⟨.ref s1.heap.objs.size,upd H1 s1.heap.objs.size (.lst xs),I1.laid (t':=s1.toks) (fun b u e=>ag _ e) (ar _) ⟨z,us,0,r,aB _ rfl⟩,rfl,q.new hf⟩⟩
theorem jFB:OpR X (binaryOp .Add) (fun x y H Q=>∃ l b xs zs,x= .ref l/\y= .ref b/\H l=some (.lst xs)/\H b=some (.lst zs)/\xs.length+zs.length<=sizeLine/\LstR H (xs++zs) Q):=by
 intro ad s σ H x y v u Q I rx ry h
 obtain⟨l,b,xs,zs,rfl,rfl,h1,h2,h3,q⟩:=h
 exact jVC ad s σ H _ _ v u Q I rx ry ⟨l,b,xs,zs,rfl,rfl,h1,h2,h3,fun p hp=>q.new hp⟩
end
end L2
namespace L2
open PySem PySem.Spec PyProof.Rows
variable {X:Cx}
theorem jDL (ns:List Int):∀ j,preSum (fun i=>ns.getD i 0) j=(ns.take j).sum
 | 0=>rfl
 | j+1=>by
  rw[preSum,jDL ns j,bf,dr]
  congr 1
  rw[ai]
  cases ns[j]? with
  | none=>rfl
  | some z=>simp
section
def rSum (K:W.Frag):List V->Hp->VK->Prop:=fun xs H Q=>∃ (p:Addr) (ns:List Int),xs=[.ref p]/\(SqL K H p (ns.map V.int))/\Q (.int ns.sum) H
theorem jC6 (hc:X.calm=true):qC X (.builtin "sum") (rSum X.K):=by
 intro ad s σ H xs us Q I r h
 obtain⟨p,ns,rfl,hq,q⟩:=h
 obtain⟨u,rfl,rx⟩:=r.one
 cases rx
 obtain⟨its,r',pl,hz⟩:=I.list hq
 have hlen:=r'.length
 rw[ab] at hlen
 refine call_sum_walkG (dG pl.isList ?_)
 have hne:p≠s.heap.objs.size:=by
  obtain⟨o,ho,_⟩:=pl.isList
  exact bb (aG ho)
 refine⟨s.heap.objs.size,_,_,_,_,_,fun i=>ns.getD i 0,rfl,jn (by simpa using I.ok.hd hc) _ p hne its.toArray,⟨⟨_,aB _ rfl,rfl,rfl⟩,pl.isList.push _⟩,(fun b hb=>?_),(fun i v hP=>?_),fun h' tk t' hk=>?_⟩
 ·show b<(s.heap.push _).objs.size
  rw[dy]
  obtain⟨o,ho,_⟩:=pl.isList
  have:=aG ho
  rcases aF.mp hb with rfl | hb
  ·exact i9 _
  ·rcases aF.mp hb with rfl | hb
   ·exact cB this
   ·cases hb
 ·have hi:its[i]?=some v:=by simpa using hP
  have hb:i<ns.length:=by
   rw[hlen]
   exact(ax.mp hi).1
  obtain⟨u,hu,ru⟩:=r'.get (i:=i) (x:= .int (ns[i])) (by simp [hb])
  rw[hi] at hu
  cases hu
  obtain⟨t,rfl⟩:=ru
  exact⟨t,by simp [List.getD,hb]⟩
 ·have e:preSum (fun i=>ns.getD i 0) its.toArray.size=ns.sum:=by
   rw[jDL,aN,<- hlen,bG]
  rw[e]
  exact⟨.int _,H,I.kept (t':=tk) fun b o e=>hk b o (by
   intro z
   have z:b=s.heap.objs.size:=by simpa using z
   exact absurd (aG e) (by rw[z]; exact df _)) (ag _ e),⟨_,rfl⟩,q⟩
variable {sc:Scope}{cl:List (Str×Addr)}{C:Addr}{Nc:List Str}{fp:List Addr}{s:Shared}{H:Hp}
end
theorem jCO (a b:Nat):Builtin.bitAnd (a:Int) (b:Int)=((a&&&b:Nat):Int):=by
 unfold Builtin.bitAnd
 rw[ay (gf a),ay (gf b)]
 rfl
theorem jB1 (a b:Nat):Builtin.bitOr (a:Int) (b:Int)=((a|||b:Nat):Int):=by
 unfold Builtin.bitOr
 have ha:Builtin.bitNot (a:Int)= -(a:Int) - 1:=by unfold Builtin.bitNot; lia
 have hb:Builtin.bitNot (b:Int)= -(b:Int) - 1:=by unfold Builtin.bitNot; lia
 have na:¬ (0<=Builtin.bitNot (a:Int)):=by rw[ha]; lia
 have nb:¬ (0<=Builtin.bitNot (b:Int)):=by rw[hb]; lia
 unfold Builtin.bitAnd
 rw[aM na,aM nb]
 have ea:Builtin.bitNot (Builtin.bitNot (a:Int))=(a:Int):=by rw[ha]; unfold Builtin.bitNot; lia
 have eb:Builtin.bitNot (Builtin.bitNot (b:Int))=(b:Int):=by rw[hb]; unfold Builtin.bitNot; lia
 show Builtin.bitNot (Builtin.bitNot _)=_
 rw[ea,eb]
 unfold Builtin.bitNot
 simp
 lia
def maskN (ts:List Int):Nat:=(ts.map fun t=>2 ^ t.toNat).sum
theorem jJB:∀ (ts:List Int) (lo:Nat),ts.Pairwise (· < ·)->(∀ t∈ts,(lo:Int)<=t)->maskN ts % 2 ^ lo=0
 | [],_,_,_=>by simp [maskN]
 | t::r,lo,hp,hl=>by
  have ih:=jJB r lo (cG.mp hp).2 fun x hx=>hl x (aj _ hx)
  have h0:=hl t (am ..)
  have e:maskN (t::r)=2 ^ t.toNat+maskN r:=by simp [maskN]
  have d:2 ^ t.toNat % 2 ^ lo=0:=Nat.mod_eq_zero_of_dvd (Nat.pow_dvd_pow 2 (by lia))
  rw[e,Nat.add_mod,ih,d]
  simp
theorem jAM:∀ (ts:List Int) (n:Nat),ts.Pairwise (· < ·)->(∀ t∈ts,0<=t)->(maskN ts).testBit n=decide ((n:Int)∈ts)
 | [],n,_,_=>by simp [maskN]
 | t::r,n,hp,h0=>by
  obtain⟨h1,h2⟩:=cG.mp hp
  have ih:=jAM r n h2 fun x hx=>h0 x (aj _ hx)
  have ht:=h0 t (am ..)
  obtain⟨k,rfl⟩:∃ k:Nat,t=(k:Int):=⟨t.toNat,by lia⟩
  have e:maskN ((k:Int)::r)=2 ^ k+maskN r:=by simp [maskN]
  have m0:maskN r % 2 ^ (k+1)=0:=jJB r (k+1) h2 fun x hx=>by have:=h1 x hx; lia
  obtain⟨c,hc⟩:∃ c,maskN r=2 ^ (k+1)*c:=(Nat.dvd_of_mod_eq_zero m0)
  have hor:2 ^ k+maskN r=maskN r|||2 ^ k:=by
   rw[hc,lB,<- Nat.shiftLeft_eq,Nat.shiftLeft_add_eq_or_of_lt (b:=2 ^ k) (i:=k+1) (kq (by decide) (by lia)) c |>.symm,gx]
  rw[e,hor,bH,ih,cR]
  by_cases hk:k=n
  ·subst hk
   simp
  ·have:¬ ((n:Int)=(k:Int)):=by lia
   simp [hk,this]
end L2
namespace L2
open PySem
variable {X:Cx}
section
variable {tg iter elt:Expr}{ifs:List Expr}{sc:Scope}{pos:Pos}{wi:TI}{g:TG}{tt:TT}{te:TE}{m:List (Option Nat)}{Nc:List Str}
theorem jQL (hc:X.calm=true)(hi:PI X tg iter wi)(hkind:sc.kind= .function)(hcell:∀ y∈sc.names,y.2≠ .cell)(hnames:∀ y∈sc.names,y.2= .local->sc.names.lookup y.1=some .local)
  (hfree:∀ y∈sc.names,y.2= .free->X.env.scope.names.lookup y.1=some .cell\/X.env.scope.names.lookup y.1=some .free) (hm:jD3 X sc Nc m)
  (hg:∀ cl C fp s H,PG (blk X sc cl C Nc fp s H) tg g) (ht:∀ cl C fp s H,PTs (blk X sc cl C Nc fp s H) ifs tt) (he:∀ cl C fp s H,PE (blk X sc cl C Nc fp s H) elt te)
  (hs:∀ x,foldedSetIterable iter X.env x=pure x) {fpos:Pos}{use:Option (Value->Sem Unit)}{R:Value->Shared->Prop}{ad:List (Addr×Obj)}{s:Shared}{σ:St}{H:Hp}{Q:VK}(I:Inv X ad σ H s) (h:tComp m wi g tt te σ H Q)
  (fin:∀ (D C:Addr) (H5:Hp) (z1:Shared) (r:Flow),(∃ mm,z1.heap.Ns C mm)->FpOk X ad H5 C->(∀ h',Heap.SameBut C z1.heap h'->Inv X ad σ H5 { z1 with heap:=h'})->Q (.ref D) H5->compPost (model X.prog X.w) X.A X.xe use R (.ref D) C (.ok r) z1):
  wpAny (model X.prog X.w) X.A (comprehension (.ListComp elt [⟨tg,iter,ifs,0⟩] sc pos) sc X.env fpos (newList []) false (eval iter X.env) use) R X.xe s:=
 jJV (tf:=fun _=>te) hc hi hkind hcell hnames hfree hm hg ht (fun cl C fp s H _ _ _ _=>he cl C fp s H) hs I h fin
theorem jSA {i:Nat}{x:Str}{pos' spos:Pos}(hN:X.N.Nodup)(hi':X.N[i]?=some x)(hx:Loc X.env.scope x)(hf:X.fn x=true\/X.env.scope.names.lookup x=some .local)(hsw:swapsWith (.ListComp elt [⟨tg,iter,ifs,0⟩] sc pos) (some (.Name x pos')) spos.line X.env=pure true)
  (hc:X.calm=true) (hi:PI X tg iter wi) (hkind:sc.kind= .function) (hcell:∀ y∈sc.names,y.2≠ .cell) (hnames:∀ y∈sc.names,y.2= .local->sc.names.lookup y.1=some .local)
  (hfree:∀ y∈sc.names,y.2= .free->X.env.scope.names.lookup y.1=some .cell\/X.env.scope.names.lookup y.1=some .free) (hm:jD3 X sc Nc m)
  (hg:∀ cl C fp s H,PG (blk X sc cl C Nc fp s H) tg g) (ht:∀ cl C fp s H,PTs (blk X sc cl C Nc fp s H) ifs tt) (he:∀ cl C fp s H,PE (blk X sc cl C Nc fp s H) elt te)
  (hs:∀ x,foldedSetIterable iter X.env x=pure x):PS X (.Assign [.Name x pos'] (.ListComp elt [⟨tg,iter,ifs,0⟩] sc pos) spos) (tAsg (tComp m wi g tt te) (kU i)):=by
 intro ad s σ H D I h
 rw[exec_Assign_Name_used _ _ _ _ hsw]
 refine aa (fj (aa ?_))
 show wpAny _ _ (do let _ <- comprehension (.ListComp elt [⟨tg,iter,ifs,0⟩] sc pos) sc X.env _ (newList []) false (eval iter X.env) (some (assign (.Name x pos') X.env))) _ _ _
 refine aa (cA (jQL (R:=fun _ s'=>SP X ad D .next s') hc hi hkind hcell hnames hfree hm hg ht he hs ⟨I.ok,I.os,I.bare,I.base,I.loc,I.cell,I.free,I.freeC,I.pin,I.hok,I.len⟩ h ?_) (fun _ s' hq=>ao (ao hq)) fun _ _ e=>e)
 intro D' C H5 z1 r ⟨mm,hn⟩ fC sb q
 have I1:=sb _ (Heap.SameBut.refl C z1.heap)
 refine wpAny_assign_Name (jG4 (v:= .ref D') I1 hN hi' hx rfl (fun s2 I2 ⟨a,sa,ha⟩=>?_) hf)
 obtain⟨f0,f1,f2,f3,f4,f5⟩:=fC
 have hCa:C≠a:=by
  rcases ha with rfl | ha
  ·exact f1
  ·exact(f4 _ _ ha).symm
 refine⟨mm,hn.sameBut sa hCa,fun h' sb2=>⟨_,H5,?_,q⟩⟩
 refine I2.call' (s':= { s2 with heap:=h'}) (ch:=[C]) rfl ?_ (I2.hok.sameBut sb2 f0) I2.bare (fun b hb=>?_)
 ·have ne:∀ {b:Addr},b∉ [C]->b≠C:=fun h e=>h (by rw[e]; exact aE.mpr rfl)
  refine⟨fun b o e n hf hx=>(sb2.2 b (ne hx)).trans e,fun b o e n hf hx=>⟨o.slots,(sb2.2 b (ne hx)).trans e⟩,fun b o e n hx=>n,fun b o e hx=>⟨o,(sb2.2 b (ne hx)).trans e⟩,fun b xs e=>e,fun b o u e=>e,fun b ps e=>⟨#[],by rw[Array.append_empty]; exact e⟩⟩
 ·cases aE.mp hb
  exact⟨f3,f1,f4,f5⟩
end
structure SwC (e:Expr)(x:Str)(pos' spos:Pos)(X:Cx):Prop where
 h:swapsWith e (some (.Name x pos')) spos.line X.env=pure true
theorem jI2 {i:Nat}{x:Str}{pos' spos pos:Pos}{tg iter elt:Expr}{ifs:List Expr}{sc:Scope}{wi:TI}{g:TG}{tt:TT}{te:TE}{m:List (Option Nat)}{Nc:List Str}(hN:X.N.Nodup)(hi':X.N[i]?=some x)(hx:Loc1 X x)(hsw:SwC (.ListComp elt [⟨tg,iter,ifs,0⟩] sc pos) x pos' spos X)
  (hc:X.calm=true) (hi:JI X tg iter wi) (hkind:sc.kind= .function) (hcell:∀ y∈sc.names,y.2≠ .cell) (hnames:∀ y∈sc.names,y.2= .local->sc.names.lookup y.1=some .local)
  (hfree:∀ y∈sc.names,y.2= .free->X.env.scope.names.lookup y.1=some .cell\/X.env.scope.names.lookup y.1=some .free) (hm:jD3 X sc Nc m)
  (hg:∀ cl C fp s H,JG (blk X sc cl C Nc fp s H) tg g) (ht:∀ cl C fp s H,JTs (blk X sc cl C Nc fp s H) ifs tt) (he:∀ cl C fp s H,JE (blk X sc cl C Nc fp s H) elt te)
  (hs:FoOk iter):JS X (.Assign [.Name x pos'] (.ListComp elt [⟨tg,iter,ifs,0⟩] sc pos) spos) (tAsg (tComp m wi g tt te) (kU i)):=
 ⟨jSA hN hi' hx.a hx.b hsw.h hc hi.h hkind hcell hnames hfree hm (fun cl C fp s H=>(hg cl C fp s H).h) (fun cl C fp s H=>(ht cl C fp s H).h) (fun cl C fp s H=>(he cl C fp s H).h) (hs.h _)⟩
end L2
namespace L2
open PySem PySem.Spec PyProof.Rows
variable {prog:Program}{w:World}{A:Around}{E:Value->Shared->Prop}
variable {X:Cx}
variable {s:Shared}
variable {x:Str}{C:Addr}{e:Expr}{t:TA}{np cpos pos:Pos}
section
variable {W:Hp->Prop}
end
variable {M:Model}{h:Heap}
section
variable {g:Array GenState}{d:Drawn}{tk:Nat}{os:OsState}
end
variable {ad:List (Addr×Obj)}{H H':Hp}
section
variable {σ:List (Option V)}{h':Heap}
end
variable {T:Addr}
section
variable {σ:St}{h2:Heap}{x T':Addr}
end
section
variable {σ:St}{x:Addr}
end
section
variable {x:Addr}{Q:Unit->Shared->Prop}
end
variable {n c:Str}{i j:Nat}{f B:Addr}{fd:FuncData}{ps:List Str}{sp:Sp}{es:List Expr}{yp gp cp ap rp hp tp:Pos}
section
variable {y g:Str}{k:Nat}{r:Expr}{te:Addr->TE}
end
variable {tg:Expr}
variable {g:TG}{iter elt:Expr}{ifs:List Expr}{wi:TI}{tt:TT}{te:TE}{m:List (Option Nat)}{Nc:List Str}
section
variable {sc:Scope}
end
variable {a:Addr}{p:Pos}
section
variable {k:Nat}{sp:Addr->Sp}
end
variable {P:Program}{mg:Str->Option Value}{base:Heap}{N:List Str}{qual:Str}{outer:List Env}
section
variable {CX:CXT}{K:W.Frag}{sc:Scope}{cdv:Value}{E:XK}
end
section
variable {y g:Str}{k:Nat}{te t1:TEX}
end
def nfP (x q:Str)(args:Arguments)(body:List Stmt)(scope:Scope)(cl:List (Str×Addr))(a c:Addr):Heap->Prop:=fun h=>∃ doc pm ctv,h.get? a=some (fnMade x q args body scope cl doc pm c ctv)
def ncP (q:Str)(c:Addr):Heap->Prop:=fun h=>h.CodeRec (.ref c) q
noncomputable abbrev onePs (pos:Pos)(c:Addr):Array Value:=#[rawInt pos.line,rawInt pos.col, .ref c]
def TabOk (H:Hp)(T:Addr)(pos:Pos)(q:Str):Prop:=H T=some (.tbl #[])\/∃ c,H T=some (.tbl (onePs pos c))/\H c=some (.ext (ncP q c))
def ExtT (T:Addr)(H H':Hp):Prop:=∀ b o,H b=some o->b≠T->H' b=some o
def BltAt (base:Heap)(mg:Str->Option Value):Prop:=∃ bm o,mg "__builtins__" =some (.ref bm)/\bm≠builtinsNs/\bm≠mainGlobals/\base.get? bm=some o/\o.cls= .type "module" /\o.dict=some builtinsNs/\o.data= .plain
theorem nfP.stay {x q:Str}{args:Arguments}{body:List Stmt}{scope:Scope}{cl:List (Str×Addr)}{a c:Addr}(h1 h2:Heap)(p:nfP x q args body scope cl a c h1)(k:∀ o,h1.get? a=some o->h2.get? a=some o):nfP x q args body scope cl a c h2:=by
 obtain⟨d,m,t,e⟩:=p
 exact⟨d,m,t,k _ e⟩
theorem ncP.stay {q:Str}{c:Addr}(h1 h2:Heap)(p:ncP q c h1)(k:∀ o,h1.get? c=some o->h2.get? c=some o):ncP q c h2:=by
 obtain⟨c',o,vs,t,e,g,r⟩:=p
 cases e
 exact⟨c,o,vs,t,rfl,k _ g,r⟩
theorem ncP.is {q:Str}{c:Addr}{h:Heap}(p:ncP q c h):∃ o,h.get? c=some o:=by
 obtain⟨c',o,vs,t,e,g,r⟩:=p
 cases e
 exact⟨o,g⟩
def tDef (x q:Str)(args:Arguments)(body:List Stmt)(scope:Scope)(cl:List (Str×Addr))(T:Addr)(pos:Pos)(j:Nat):TS:=fun D σ H=>TabOk H T pos q/\∀ a c H',H' a=some (.ext (nfP x q args body scope cl a c))->H' c=some (.ext (ncP q c))->H' T=some (.tbl (onePs pos c))->ExtT T H H'->H a=none->D.nx (σ.set j (some (.ref a))) H'
section
variable {σ:St}
theorem Inv.laidX {h':Heap}{t':Nat}{φ:Heap->Prop}{a:Addr}(I:Inv X ad σ H s)(k:∀ b u,s.heap.get? b=some u->h'.get? b=some u)(hp:s.heap.objs.size<=a)(p:φ h')(ho:∃ o,h'.get? a=some o)(st:∀ h1 h2:Heap,φ h1->(∀ o,h1.get? a=some o->h2.get? a=some o)->φ h2):Inv X ad σ (upd H a (.ext φ)) { s with heap:=h',toks:=t'} :=
 I.laid k hp ⟨p,ho,st⟩
theorem Inv.grown {h':Heap}{t':Nat}{T c:Addr}{ps more:Array Value}{φ:Heap->Prop}(I:Inv X ad σ H s)(hT:H T=some (.tbl ps))(k:Heap.ExtBut T s.heap h')(e:h'.get? T=some { cls:= .none,data:= .fields (ps++more)})
  (hc:s.heap.objs.size<=c) (p:φ h') (ho:∃ o,h'.get? c=some o) (st:∀ h1 h2:Heap,φ h1->(∀ o,h1.get? c=some o->h2.get? c=some o)->φ h2):Inv X ad σ (upd (upd H T (.tbl (ps++more))) c (.ext φ)) { s with heap:=h',toks:=t'} :=by
 have hcn:H c=none:=I.hok.fresh hc
 have nT:∀ {b:Addr},H b=none->b≠T:=fun n z=>by rw[z,hT] at n; cases n
 have cT:T≠c:=fun z=>by rw[z,hcn] at hT; cases hT
 have nc:∀ {b:Addr}{o:Obj},s.heap.get? b=some o->b≠c:=fun q z=>absurd (aG q) (by rw[z]; exact jo.mpr hc)
 have mc:∀ {b:Addr}{o:HO},H b=some o->b≠c:=fun q=>jA q hcn
 refine I.un ⟨fun b o q n _ _=>k b o (nT n) q,fun b o q n _ _=>⟨o.slots,k b o (nT n) q⟩,fun b o q n _=>by rw[j8 (nc q),j8 (nT n)]; exact n,fun b o q _=>?_,fun b xs q=>?_,fun b o u q=>?_,fun b qs q=>?_⟩ fun b o q=>?_
 ·by_cases hb:b=T
  ·rw[hb]; exact⟨_,e⟩
  ·exact⟨o,k b o hb q⟩
 ·rw[j8 (mc q),j8 (fun z=>by rw[z,hT] at q; cases q)]; exact q
 ·rw[j8 (mc q),j8 (fun z=>by rw[z,hT] at q; cases q)]; exact q
 ·by_cases hb:b=T
  ·subst hb
   rw[hT] at q
   cases q
   exact⟨more,by rw[j8 cT,j6]⟩
  ·exact⟨#[],by rw[j8 (mc q),j8 hb,q]; simp⟩
 ·by_cases hb1:b=c
  ·subst hb1
   rw[j6] at q
   cases q
   exact⟨p,ho,st⟩
  rw[j8 hb1] at q
  by_cases hb:b=T
  ·subst hb
   rw[j6] at q
   cases q
   exact e
  ·rw[j8 hb] at q
   refine(I.hok b o q).stay (fun d u hd z=>k d u ?_ z) (fun d z=>?_) fun d xs z=>?_
   ·rcases hd with rfl | hd
    ·exact hb
    ·exact fun y=>by rw[y,hT] at hd; cases hd
   ·rw[j8 (mc z),j8 (fun y=>by rw[y,hT] at z; cases z)]; exact z
   ·rw[j8 (mc z),j8 (fun y=>by rw[y,hT] at z; cases z)]; exact z
theorem jUV {x:Str}{args:Arguments}{body:List Stmt}{scope:Scope}{pos:Pos}{c0 T:Addr}{j:Nat}(hN:X.N.Nodup)(hj:X.N[j]?=some x)(lx:Loc X.env.scope x)(hcode:X.env.code= .ref c0)(CH:PySem.W.CodeHd X.base c0 T)(hbm:BltAt X.base X.mg)
  (hfree:∀ y∈scope.names,y.2= .free->X.env.scope.names.lookup y.1=some .cell\/X.env.scope.names.lookup y.1=some .free) (hdf:defaultsOf args X.env=([],[])) (han:annTrees args none X.env=[])
  (hf:X.fn x=true\/X.env.scope.names.lookup x=some .local:=by first | exact .inl rfl | exact .inr rfl | assumption):
  PS X (.FunctionDef x args body [] none [] scope none x pos) (tDef x (qualnameIn X.env x x) args body scope (jR X.env.cells scope.names []) T pos j):=by
 intro ad s σ H D I h
 obtain⟨tab,h⟩:=h
 rw[exec_def,hdf,han]
 refine aa (fj (aa (ck ?_)))
 refine aa (ao (aa (ck (ao (ck (aa (ao ?_)))))))
 have hcl:closureFor scope X.env=pure (jR X.env.cells scope.names []):=jIE fun y hy hz=>I.ok.has y.1 (hfree y hy hz)
 have hg:s.heap.Ns mainGlobals X.mg:=I.mod.glob.keeps I.bk
 have C:=CH.keeps I.bk
 have gT:∀ {ps:Array Value},H T=some (.tbl ps)->mainGlobals≠T:=fun hT z=>by
  obtain⟨o,es,ep,e,_⟩:=I.mod.glob
  have:=(I.bs _ _ e).2
  rw[z,hT] at this
  cases this
 have bT:∀ {ps:Array Value},H T=some (.tbl ps)->s.heap.BuiltinsAt X.mg T:=fun hT=>by
  obtain⟨bm,o,h1,h2,h3,h4,h5,h6,h7⟩:=hbm
  refine⟨bm,o,h1,h2,h3,fun z=>?_,(I.bs _ _ h4).1,h5,h6,h7⟩
  have:=(I.bs _ _ h4).2
  rw[z,hT] at this
  cases this
 rcases tab with hT | ⟨c,hT,hc⟩
 ·refine PySem.W.makeFunction_K hcl I.ok.glob hg hcode C (I.hok T _ hT) trivial rfl (gT hT) (bT hT) fun c ctv doc h' tk k1 k2 k3 k4 k5=>?_
  obtain⟨oc,hoc⟩:=ncP.is (q:=qualnameIn X.env x x) k4
  have I1:Inv X ad σ (upd (upd H T (.tbl (#[]++onePs pos c))) c (.ext (ncP (qualnameIn X.env x x) c))) { s with heap:=h',toks:=tk} :=I.grown hT k1 k5 k2 k4 ⟨oc,hoc⟩ ncP.stay
  have I2:=I1.laidX (t':=tk) (a:=h'.objs.size) (φ:=nfP x (qualnameIn X.env x x) args body scope (jR X.env.cells scope.names []) h'.objs.size c) (h':=h'.push (fnMade x (qualnameIn X.env x x) args body scope (jR X.env.cells scope.names []) doc ((X.mg "__name__").getD .none) c ctv)) (fun b u q=>ag _ q) (ar _) ⟨doc,_,ctv,aB _ rfl⟩ ⟨_,aB _ rfl⟩ nfP.stay
  have hcn:H c=none:=I.hok.fresh k2
  have han:H h'.objs.size=none:=I.hok.fresh (bM k2 (dh k3))
  have ca:c≠h'.objs.size:=bb k3
  have Tc:T≠c:=fun z=>by rw[z,hcn] at hT; cases hT
  have Ta:T≠h'.objs.size:=fun z=>by rw[z,han] at hT; cases hT
  refine aa (fj (aa (wpAny_bindName (jBT (v:= .ref h'.objs.size) I2 hN hj lx rfl (fun s' I'=>ao ⟨_,_,I',?_⟩) hf))))
  refine h _ c _ j6 (by rw[j8 ca,j6]) (by rw[j8 Ta,j8 Tc,j6,lw]) (fun b o e n=>?_) han
  rw[j8 (jA e han),j8 (jA e hcn),j8 n]
  exact e
 ·refine PySem.W.makeFunction_hit (cv:= .ref c) hcl I.ok.glob hg hcode C (I.hok T _ hT) (by exact trivial) (by simp [codeAmong,rawInt]) (bT hT) fun ctv doc h' tk k1 k2=>?_
  have I2:=I.laidX (t':=tk) (a:=h'.objs.size) (φ:=nfP x (qualnameIn X.env x x) args body scope (jR X.env.cells scope.names []) h'.objs.size c) (h':=h'.push (fnMade x (qualnameIn X.env x x) args body scope (jR X.env.cells scope.names []) doc ((X.mg "__name__").getD .none) c ctv)) (fun b u q=>ag _ (k1 b u q)) k2 ⟨doc,_,ctv,aB _ rfl⟩ ⟨_,aB _ rfl⟩ nfP.stay
  have han:H h'.objs.size=none:=I.hok.fresh k2
  refine aa (fj (aa (wpAny_bindName (jBT (v:= .ref h'.objs.size) I2 hN hj lx rfl (fun s' I'=>ao ⟨_,_,I',?_⟩) hf))))
  refine h _ c _ j6 (by rw[j8 (jA hc han)]; exact hc) (by rw[j8 (jA hT han)]; exact hT) (fun b o e n=>?_) han
  rw[j8 (jA e han)]
  exact e
end
theorem jGL {β:Type}{x:Str} :∀ {l:List (Str×β)},(∀ v,(x,v)∉l)->l.lookup x=none
 | [],_=>rfl
 | (y,v)::r,h=>by
  rw[bL,cc.mpr (fun e=>h v (by rw[e]; exact am))]
  exact jGL fun w hw=>h w (aj _ hw)
theorem jCG {β:Type}{x:Str} :∀ {l m:List (Str×β)},(l++m).lookup x=(l.lookup x).or (m.lookup x)
 | [],_=>rfl
 | (y,v)::r,m=>by
  rw[List.cons_append,bL,bL,jCG]
  cases x==y <;> rfl
theorem jED:∀ {ps:List Str}{us:List Value}{i:Nat}{x:Str}{u:Value},ps.Nodup->ps[i]?=some x->us[i]?=some u->(ps.zip us).reverse.lookup x=some u
 | [],_,_,_,_,_,h,_=>by simp at h
 | _::_,[],_,_,_,_,_,h=>by simp at h
 | p::ps,w::us,0,x,u,nd,h1,h2=>by
  simp at h1 h2
  subst h1 h2
  rw[fb,List.reverse_cons,jCG,jGL fun v hv=>(bF.mp nd).1 (eE (List.mem_reverse.mp hv)).1,bL,beq_self_eq_true]
  rfl
 | p::ps,w::us,i+1,x,u,nd,h1,h2=>by
  rw[fb,List.reverse_cons,jCG,jED (i:=i) (bF.mp nd).2 (by simpa using h1) (by simpa using h2)]
  rfl
noncomputable def cxN (P:Program)(w:World)(K:W.Frag)(mg:Str->Option Value)(base:Heap)(N:List Str)(qual:Str)(scope:Scope)(f:Addr)(cd:Value)(cl:List (Str×Addr))(A:Around)(outer:List Env)(s:Shared)(H:Hp):Cx where
 prog:=P
 w:=w
 K:=K
 mg:=mg
 base:=base
 A:=A.deeper (envX qual scope s.heap.objs.size f cd cl)
 N:=N
 s₀:=s
 H₀:=H
 env:=envX qual scope s.heap.objs.size f cd cl
 outer:=outer
 stack:=envX qual scope s.heap.objs.size f cd cl::outer
 ex:=[]
 calm:=true
 fn:=fun _=>false
 pn:=[]
 xe:=fun _ _=>False
structure ClOk (cl:List (Str×Addr))(s:Shared)(H:Hp):Prop where
 inj:∀ x y c,cl.lookup x=some c->cl.lookup y=some c->x=y
 cell:∀ x c,cl.lookup x=some c->(∃ v,s.heap.IsCell c v)/\H c=none
def FvOk (fs:List Str)(fv:List V)(cl:List (Str×Addr))(s:Shared):Prop:=fv.length=fs.length/\∀ (i:Nat) (x:Str) (v:V),fs[i]?=some x->fv[i]?=some v->∃ c u,cl.lookup x=some c/\RelV v u/\s.heap.IsCell c (some u)
structure NScope (N ps fs:List Str)(sc:Scope):Prop where
 kind:sc.kind= .function
 co:sc.isCoroutine=false
 gen:sc.isGenerator=false
 nd:N.Nodup
 pre:N.take (ps.length+fs.length)=ps++fs
 par:∀ x∈ps,sc.names.lookup x=some .local
 fre:∀ x∈fs,sc.names.lookup x=some .free
 all:∀ x,sc.names.lookup x=some .free->x∈fs
 nocell:∀ y∈sc.names,y.2≠ .cell
def jBH (N:List Str)(vs fv:List V):St:=kZ N (vs++fv)
variable {scope:Scope}{cd:Value}{cl:List (Str×Addr)}{fv:List V}
section
variable {K:W.Frag}{fs:List Str}{us:List Value}{vs:List V}
theorem jEL {h1:Heap}{tk:Nat}(S:NScope N ps fs scope)(hd:A.handled=none)(e0:Env0 P w K mg base A outer s H)(hl:us.length=ps.length)(r:Vals vs us)(C:ClOk cl s H)(Fv:FvOk fs fv cl s)
  (ns:h1.Ns s.heap.objs.size fun x=>(ps.zip us).reverse.lookup x) (hk:∀ b o,s.heap.get? b=some o->h1.get? b=some o):
  Inv (cxN P w K mg base N qual scope f cd cl A outer s H) [] (jBH N vs fv) H { s with heap:=h1,toks:=tk} :=by
 have hpl:ps.length+fs.length<=N.length:=by have:=bX List.length S.pre; rw[bE,aC] at this; lia
 have noA:∀ b:Addr,b∉(cxN P w K mg base N qual scope f cd cl A outer s H).ex:=fun b z=>absurd (show b∈([]:List Addr) from z) (by simp)
 have vl:vs.length=ps.length:=r.length.trans hl
 refine⟨⟨e0.mod,S.kind,rfl,rfl,ar _,C.inj,fun y hy=>?_,fun y c z=>(nomatch z),fun _=>hd,Around.frames_deeper e0.frames, .inr ⟨rfl,rfl⟩,fun b z=>absurd z (noA b),e0.bs,e0.bsz,fun b _ _=>noA b,fun b z=>absurd z (noA b),e0.funs,e0.frf⟩,
  rfl,e0.bare,Un.kept hk,⟨_,ns,fun i y v h1' h2 h3=>?_⟩,fun y c h=>?_,e0.hok.fresh (ar _),fun y c h=>(C.cell y c h).2,fun p hp=>absurd (show p∈([]:List (Addr×Obj)) from hp) (by simp),e0.hok.kept hk,?_⟩
 ·have hy:scope.names.lookup y=some .cell\/scope.names.lookup y=some .free:=hy
  rcases hy with hy | hy
  ·exact absurd rfl (S.nocell _ (cP hy))
  ·have m:=S.all y hy
   obtain⟨i,hi⟩:=bR m
   have hi2:i<fv.length:=by rw[Fv.1]; exact(ax.mp hi).1
   obtain⟨c,u,e,_⟩:=Fv.2 i y fv[i] hi (by simp [hi2])
   exact⟨c,e⟩
 ·have h1':N[i]?=some y:=h1'
  have hlen:(vs++fv).length=ps.length+fs.length:=by rw[aC,vl,Fv.1]
  have hi:i<(vs++fv).length:=by
   unfold jBH kZ at h2
   by_cases hi:i<(vs++fv).length
   ·exact hi
   ·rw[bv (by simpa using hi)] at h2
    rw[gj] at h2
    split at h2 <;> cases h2
  have hv:(vs++fv)[i]?=some v:=by
   unfold jBH kZ at h2
   rw[cf (by simpa using hi),aA] at h2
   cases e:(vs++fv)[i]? with
   | none=>rw[e] at h2; cases h2
   | some a=>rw[e] at h2; cases h2; rfl
  have hy:(ps++fs)[i]?=some y:=by
   rw[<- S.pre,cy (by lia)]
   exact h1'
  by_cases hi1:i<ps.length
  ·rw[cf hi1] at hy
   rw[cf (by lia)] at hv
   obtain⟨u,hu,rv⟩:=r.get hv
   have ndP:ps.Nodup:=by
    have:(ps++fs).Nodup:=by rw[<- S.pre]; exact S.nd.sublist (dH _ _)
    exact(iT.mp this).1
   exact⟨u,rv, .inl ⟨S.par y (aH hy),jED ndP hy hu⟩⟩
  ·rw[bv (by lia)] at hy
   rw[bv (by lia),vl] at hv
   obtain⟨c,u,e,rv,o,ho,hd⟩:=Fv.2 _ y v hy hv
   exact⟨u,rv, .inr ⟨.inr (S.fre y (aH hy)),c,e,o,hk _ _ ho,hd⟩⟩
 ·obtain⟨⟨v,o,ho,hd⟩,_⟩:=C.cell y c h
  exact⟨v,o,hk _ _ ho,hd⟩
 ·unfold jBH kZ
  show _=N.length
  rw[aC,ab,gN,aC,vl,Fv.1]
  lia
end
structure FnN (P:Program)(w:World)(K:W.Frag)(mg:Str->Option Value)(base:Heap)(k:Nat)(x q:Str)(args:Arguments)(body:List Stmt)(scope:Scope)(ps fs:List Str)(sp:List V->Sp):Prop where
 len:∀ fv vs H Q E,sp fv vs H Q E->vs.length=ps.length
 run:∀ (A:Around) (outer:List Env) (s:Shared) (H:Hp) (a c:Addr) (cl:List (Str×Addr)) (us:List Value) (vs fv:List V) (Q:VK) (E:XK),Room k A->Env0 P w K mg base A outer s H->nfP x q args body scope cl a c s.heap->ncP q c s.heap->ClOk cl s H->FvOk fs fv cl s->Vals vs us->sp fv vs H Q E->
  codeAny (model P w) A (.call (.ref a) ⟨us,[]⟩) (CR CX0 outer P w H s Q E) s
theorem jW5 {P:Program}{w:World}{K:W.Frag}{mg:Str->Option Value}{base:Heap}{k:Nat}{x q:Str}{args:Arguments}{body:List Stmt}{scope:Scope}{N ps fs:List Str}{sp:List V->Sp}(S:NScope N ps fs scope)(len:∀ fv vs H Q E,sp fv vs H Q E->vs.length=ps.length)
  (hb:∀ cl doc pm c ctv (us:List Value),us.length=ps.length->bindArgs (PySem.W.fnX x q args body scope cl .none .none doc pm none (.ref c) ctv) ⟨us,[]⟩=pure (ps.zip us))
  (hbody:∀ (A:Around) (outer:List Env) (s:Shared) (H:Hp) (a c:Addr) (cl:List (Str×Addr)) (vs fv:List V) (Q:VK) (E:XK),Room k (A.deeper (envX q scope s.heap.objs.size a (.ref c) cl))->sp fv vs H Q E->
   ∃ t,PSs (cxN P w K mg base N q scope a (.ref c) cl A outer s H) body t/\t { nx:=fun _ H'=>Q .non H',rt:=Q} (jBH N vs fv) H):
  FnN P w K mg base (k+1) x q args body scope ps fs sp:=by
 refine⟨len,fun A outer s H a c cl us vs fv Q E hr e0 hf hc C Fv r hsp=>?_⟩
 have hl:us.length=ps.length:=r.length.symm.trans (len _ _ _ _ _ hsp)
 obtain⟨doc,pm,ctv,ho⟩:=hf
 have lim:s.heap.NoLimit:=e0.mod.nolimit.keeps fun b o e=>(e0.bs b o e).1
 refine codeAny_call_def (body:=body) (binds:=ps.zip us) hr.depth ho rfl lim hc rfl (.of_eq (hb cl doc pm c ctv us hl)) S.nocell (fun y hy=>S.par y.1 (eE hy).1) (fun h1 ns hk=>?_) S.co S.gen S.kind
 obtain⟨t,ht,hq⟩:=hbody A outer s H a c cl vs fv Q E (hr.deeper _) hsp
 have I:Inv (cxN P w K mg base N q scope a (.ref c) cl A outer s H) [] (jBH N vs fv) H { s with heap:=h1,toks:=s.toks+(ps.zip us).length} :=jEL S hr.hd e0 hl r C Fv ns hk
 refine cA (ht [] _ (jBH N vs fv) H _ I hq) (fun fl s' hs=>?_) fun e s' hs=>False.elim hs
 have fin:∀ {σ':St}{H':Hp}{v:V}{u:Value},Inv (cxN P w K mg base N q scope a (.ref c) cl A outer s H) [] σ' H' s'->RelV v u->Q v H'->CE outer P w H s Q u s':=
  fun {σ' H' v u} J rv q=>⟨v,H',J.os,J.bare,J.base,J.hok,rv,q⟩
 cases fl with
 | ret u=>
  obtain⟨v,σ',H',J,rv,q⟩:=hs
  exact fin J rv q
 | next=>
  obtain⟨σ',H',J,q⟩:=hs
  exact fin (v:=V.non) (u:=Value.none) J rfl q
 | brk=>
  obtain⟨_,_,_,q⟩:=hs
  exact False.elim q
 | cont=>
  obtain⟨_,_,_,q⟩:=hs
  exact False.elim q
def jIQ (σ:St)(is:List Nat)(fv:List V):Prop:=is.map (fun i=>(σ[i]?).getD none)=fv.map some
section
variable {σ:St}{fs:List Str}{is:List Nat}
def FsAt (X:Cx)(fs:List Str)(is:List Nat):Prop:=is.length=fs.length/\∀ (k:Nat) (x:Str),fs[k]?=some x->∃ i,is[k]?=some i/\X.N[i]?=some x/\(X.env.scope.names.lookup x=some .cell\/X.env.scope.names.lookup x=some .free)
theorem Inv.clOk (I:Inv X ad σ H s)(hfree:∀ y∈scope.names,y.2= .free->X.env.scope.names.lookup y.1=some .cell\/X.env.scope.names.lookup y.1=some .free):ClOk (jR X.env.cells scope.names []) s H:=by
 have sub:∀ x c,(jR X.env.cells scope.names []).lookup x=some c->X.env.cells.lookup x=some c:=jAP scope.names [] (fun y hy hf=>I.ok.has y.1 (hfree y hy hf)) (fun x c e=>by cases e)
 exact⟨fun x y c h1 h2=>I.ok.inj x y c (sub x c h1) (sub y c h2),fun x c h=>⟨I.cell x c (sub x c h),I.freeC x c (sub x c h)⟩⟩
theorem Inv.fvOk (I:Inv X ad σ H s)(hfree:∀ y∈scope.names,y.2= .free->X.env.scope.names.lookup y.1=some .cell\/X.env.scope.names.lookup y.1=some .free)(hfs:∀ x∈fs,scope.names.lookup x=some .free)(ha:FsAt X fs is)(hs:jIQ σ is fv):FvOk fs fv (jR X.env.cells scope.names []) s:=by
 have hl:fv.length=fs.length:=by
  have:=bX List.length hs
  rw[ab,ab] at this
  rw[<- this,ha.1]
 refine⟨hl,fun k x v h1 h2=>?_⟩
 obtain⟨i,hi,hN,hk⟩:=ha.2 k x h1
 have e:(σ[i]?).getD none=some v:=by
  have:=bX (fun l=>l[k]?) hs
  simp only [aA,hi,h2,Option.map_some] at this
  exact bo this
 have e2:σ[i]?=some (some v):=by
  cases q:σ[i]? with
  | none=>rw[q] at e; cases e
  | some z=>rw[q] at e; exact bX some e
 obtain⟨m,hn,hl⟩:=I.loc
 obtain⟨u,r,l⟩:=hl i x v hN e2 (.inr hk)
 obtain⟨c,hc⟩:=jAQ (cells:=X.env.cells) (x:=x) scope.names [] (.inl (jAL (hfs x (aH h1))))
 have sub:=jAP (cells:=X.env.cells) scope.names [] (fun y hy hf=>I.ok.has y.1 (hfree y hy hf)) (fun x c e=>by cases e) x c hc
 rcases l with ⟨lk,_⟩ | ⟨_,c',hc',z⟩
 ·have lk':X.env.scope.names.lookup x=some .local:=lk
  rcases hk with z | z <;> rw[lk'] at z <;> cases z
 ·rw[sub] at hc'
  cases hc'
  exact⟨c,u,hc,r,z⟩
end
section
variable {k:Nat}{q:Str}{args:Arguments}{body:List Stmt}{fs:List Str}{is:List Nat}{sp:List V->Sp}
end
section
variable {sc:Scope}{te:St->TE}
end
def jWH (Ts:List Addr)(H:Hp):Prop:=∀ b,H b=none\/(∃ o xs,H b=some (.frz o (.lst xs)))\/b∈Ts
theorem jKM {cts:List (Addr×Addr)}{P:Program}{w:World}{K:W.Frag}{mg mb:Str->Option Value}{CX:CXT}{k:Nat}{fa a:Addr}{fd:FuncData}{x:Str}{sp:Sp}{s₁:Shared}{vs:List Value}{ns:List Int}
  (KX:K.In s₁.heap) (hns:s₁.heap.Ns mainGlobals mg) (hb:s₁.heap.Ns builtinsNs mb) (hbb:∀ x:Str,x≠ "__name__" ->mb x=bootBuiltins x) (hlim:s₁.heap.NoLimit) (hg:s₁.gens=#[])
  (ha:s₁.heap.get? a=some { cls:= .type "list",data:= .seq vs.toArray}) (hi:IntsAre vs ns) (hl:ns.length<=sizeLine) (hr:Room k callerA) (hT:∀ T∈cts.map (·.2),s₁.heap.get? T=some (tabObj #[])) (CH:∀ p∈cts,PySem.W.CodeHd s₁.heap p.1 p.2) (hKT:∀ T∈cts.map (·.2),K.lookup T=none)
  (F:∀ base:Heap,K.In base->base.Ns mainGlobals mg->FnOk P w K mg base CX k fa fd [x] sp) (hbind:∀ (s:Shared) (u:Value),BindsTo s fd ⟨[u],[]⟩ [(x,u)])
  (hsp:∀ H:Hp,(∀ T∈cts.map (·.2),H T=some (.tbl #[]))->SqL K H a (ns.map V.int)->sp [.ref a] H (fun v _=>v= .bl true) fun _ _ _=>False)
  (hCX:∀ H e s',CX [] H s₁ (fun _ _ _=>False) e s'->False):
  codeAny (model P w) callerA (.call (.ref fa) ⟨[.ref a],[]⟩) (fun r s'=>r= .ok (.ret (.bool true))/\OldK s₁.heap s'.heap/\s'.os=s₁.os/\AllBare s'.gens) s₁:=by
 have rv:=jG0 hi
 have lenV:=hi.length
 have core:∀ H:Hp,jWH (cts.map (·.2)) H->(∀ T∈cts.map (·.2),H T=some (.tbl #[]))->SqL K H a (ns.map V.int)->HOk P w H s₁.heap->(∀ b,H b≠none->b=a\/b∈cts.map (·.2))->(H a≠none->K.lookup a=none)->
   codeAny (model P w) callerA (.call (.ref fa) ⟨[.ref a],[]⟩) (fun r s'=>r= .ok (.ret (.bool true))/\OldK s₁.heap s'.heap/\s'.os=s₁.os/\AllBare s'.gens) s₁:=by
  intro H hO hHT hS hok hA hK
  have base_of:∀ {b:Addr}{o:Obj},s₁.heap.get? b=some o->H b=none->(hidT s₁.heap H).get? b=some o:=fun e n=>jQC e n
  have noA:∀ {b:Addr}{o:Obj}{es:Array DictEntry}{ep:Nat},s₁.heap.get? b=some o->o.data= .dict es ep->H b=none:=fun {b o es ep} e d=>by
   cases q:H b with
   | none=>rfl
   | some u=>
    rcases hA b (by rw[q]; simp) with e' | e'
    ·subst e'
     rw[ha] at e; cases e
     have d':Data.seq vs.toArray _=Data.dict es ep:=d
     cases d'
    ·rw[hT b e'] at e; cases e
     have d':Data.fields _=Data.dict es ep:=d
     cases d'
  have nsK:∀ {b:Addr}{m:Str->Option Value},s₁.heap.Ns b m->(hidT s₁.heap H).Ns b m:=fun {b m} ⟨o,es,ep,e,d,r⟩=>⟨o,es,ep,base_of e (noA e d),d,r⟩
  have hKb:K.In (hidT s₁.heap H):=fun b o e=>base_of (KX b o e) (by
   cases q:H b with
   | none=>rfl
   | some u=>
    rcases hA b (by rw[q]; simp) with e' | e'
    ·subst e'
     rw[hK (by rw[q]; simp)] at e; cases e
    ·rw[hKT b e'] at e; cases e)
  have hM:Mod K mg (hidT s₁.heap H):=⟨hKb,nsK hns,⟨mb,nsK hb,hbb⟩,let ⟨mc,h1,h2⟩:=hlim; ⟨mc,nsK h1,h2⟩⟩
  have e0:Env0 P w K mg (hidT s₁.heap H) callerA [] s₁ H:=⟨rfl,hM,fun b o e=>jT9 e,Nat.le_of_eq (jNV _ _),trivial,fun b hb=>absurd (show b∈([]:List Addr) from hb) (by simp),hok, .of_eq hg⟩
  refine eZ ((F _ hKb (nsK hns)).run callerA [] s₁ H ⟨[.ref a],[]⟩ [.ref a] [.ref a] _ _ hr e0 (hbind s₁ (.ref a)) (.cons rfl .nil) (hsp H hHT hS)) fun r s' h=>?_
  cases r with
  | error e=>exact(hCX H e s' h).elim
  | ok fl=>
   cases fl with
   | next=>exact False.elim h
   | brk=>exact False.elim h
   | cont=>exact False.elim h
   | ret u=>
    obtain⟨v,H',os,bare,un,hok',r',q⟩:=h
    have q':v= .bl true:=q
    subst q'
    obtain rfl:u=Value.bool true:=r'
    have gr:∀ T∈cts.map (·.2),∃ more,s'.heap.get? T=some (tabObj (#[]++more)):=fun T hTm=>by
     obtain⟨more,z⟩:=un.tbls T _ (hHT T hTm)
     exact⟨more,hok' T _ z⟩
    have kp:∀ b o,b∉cts.map (·.2)->s₁.heap.get? b=some o->s'.heap.get? b=some o:=fun b o hbT e=>?_
    ·refine⟨rfl,⟨fun b o e=>?_,fun b o e=>?_⟩,os,bare⟩
     ·by_cases hb:b∈cts.map (·.2)
      ·obtain⟨p,hp,rfl⟩:=aL.mp hb
       have q:=hT _ hb
       rw[q] at e
       cases e
       obtain⟨more,z⟩:=gr _ hb
       exact .inr (.inl ⟨((CH p hp).tab q).isCodeTable,rfl,#[],more,rfl,z⟩)
      ·exact .inl (kp b o hb e)
     ·by_cases hb:b∈cts.map (·.2)
      ·obtain⟨more,z⟩:=gr _ hb
       exact⟨_,z⟩
      ·exact⟨o,kp b o hb e⟩
    cases q:H b with
    | none=>exact un.keep b o e q (by intro z; exact absurd (show b∈([]:List Addr) from z) (by simp)) (by simp)
    | some u=>
     rcases hO b with z | ⟨ob,xs,z⟩ | z
     ·rw[q] at z; cases z
     ·have z2:=un.frzs b ob _ z
      obtain⟨e1,_⟩:=hok b _ z
      obtain⟨e2,_⟩:=hok' b _ z2
      rw[e] at e1; cases e1
      exact e2
     ·exact absurd z hbT
 have aT:a∉cts.map (·.2):=fun z=>by rw[hT a z] at ha; cases ha
 cases hk:K.lookup a with
 | some o=>
  have e:=KX a o hk
  rw[ha] at e
  cases e
  refine core (fun b=>if b∈cts.map (·.2) then some (.tbl #[]) else none) (fun b=>?_) (fun T hm=>ah hm) (.inr ⟨_,vs.toArray,_,hk,rfl,rfl,rfl,by rw[aN,lenV]; exact hl,by simpa using rv⟩) (fun b u z=>?_) (fun b z=>?_) fun z=>absurd (ae aT) z
  ·by_cases hb:b∈cts.map (·.2)
   ·exact .inr (.inr hb)
   ·exact .inl (ae hb)
  ·by_cases hb:b∈cts.map (·.2)
   ·have z':=(ah hb).symm.trans z
    cases z'
    exact hT b hb
   ·have z':=(ae hb).symm.trans z
    cases z'
  ·by_cases hb:b∈cts.map (·.2)
   ·exact .inr hb
   ·exact absurd (ae hb) z
 | none=>
  refine core (fun b=>if b∈cts.map (·.2) then some (.tbl #[]) else if b=a then some (.frz { cls:= .type "list",data:= .seq vs.toArray} (.lst (ns.map V.int))) else none) (fun b=>?_) (fun T hm=>ah hm) (.inl (.inr ⟨{ cls:= .type "list",data:= .seq vs.toArray},by dsimp only; rw[ae aT,ah rfl]⟩)) (fun b u z=>?_) (fun b z=>?_) fun _=>hk
  ·by_cases hT':b∈cts.map (·.2)
   ·exact .inr (.inr hT')
   ·by_cases hb:b=a
    ·exact .inr (.inl ⟨_,_,by dsimp only; rw[ae hT',ah hb]⟩)
    ·exact .inl (by dsimp only; rw[ae hT',ae hb])
  ·dsimp only at z
   by_cases hT':b∈cts.map (·.2)
   ·rw[ah hT'] at z
    cases z
    exact hT b hT'
   ·rw[ae hT'] at z
    by_cases hb:b=a
    ·rw[ah hb] at z
     cases z
     subst hb
     exact⟨ha,by rw[ab]; exact hl,vs,_,rv,ha⟩
    ·rw[ae hb] at z
     cases z
  ·replace z:(if b∈cts.map (·.2) then some (HO.tbl #[]) else if b=a then some (HO.frz { cls:= .type "list",data:= .seq vs.toArray} (.lst (ns.map V.int))) else none)≠none:=z
   by_cases hT':b∈cts.map (·.2)
   ·exact .inr hT'
   ·by_cases hb:b=a
    ·exact .inl hb
    ·rw[ae hT',ae hb] at z
     exact absurd rfl z
theorem walk_ofTs {cts:List (Addr×Addr)}{l:PySem.W.OpenLaw}{n k:Nat}{q:Program}{loose:List Str}{XP:(Str->Option Value)->Heap->Prop}{YP:World->Heap->Prop}{d:DefRec}{K:Params->W.Frag}{CX:World->CXT}{sp:World->Sp}{x:Str}
  (hn:l.most=some n) (hn2:n<=sizeLine) (hdf:d.params.defaults=[]) (hr:Room k callerA)
  (hY:∀ (w:World) (h:Heap),YP w h->(K w.params).In h/\∀ T∈cts.map (·.2),h.get? T=some (tabObj #[])) (hcd:∀ w:World,∀ p∈cts,codeHdIn (K w.params) p.1 p.2=true) (hKT:∀ w:World,∀ T∈cts.map (·.2),(K w.params).lookup T=none)
  (F:∀ (w:World) (mg:Str->Option Value) (fa:Addr) (h:Heap),(K w.params).In h->h.Ns mainGlobals mg->mg d.name=some (.ref fa)->
   ∃ fd:FuncData,(∀ (s:Shared) (u:Value),BindsTo s fd ⟨[u],[]⟩ [(x,u)])/\
    ∀ base:Heap,(K w.params).In base->base.Ns mainGlobals mg->FnOk l.prog w (K w.params) mg base (CX w) k fa fd [x] (sp w))
  (hsp:∀ (w:World) (H:Hp) (a:Addr) (ns:List Int),ns.length<=n->(∀ T∈cts.map (·.2),H T=some (.tbl #[]))->SqL (K w.params) H a (ns.map V.int)->sp w [.ref a] H (fun v _=>v= .bl true) fun _ _ _=>False)
  (hCX:∀ (w:World) (H:Hp) (s:Shared) (e:Value) (s':Shared),CX w [] H s (fun _ _ _=>False) e s'->False):
  PySem.W.WalkO q loose XP YP l.row.toRowW d [] (fun f vs=>PySem.call f vs):=by
 refine Att.attach_call hn hdf fun w s₀ s₁ mg mb fa o pm cd doc a vs ns G Y ho hd _ hmg hobj hints hlen hg=>?_
 obtain⟨KX,hT⟩:=hY w _ Y
 obtain⟨fd,hb,hF⟩:=F w mg fa _ KX G.T.g hmg
 exact jKM KX G.T.g G.T.b G.T.builtins G.T.nolimit hg hobj hints (bM hlen hn2) hr hT (fun p hp=>io KX (hcd w p hp)) (hKT w) hF hb (fun H hO hS=>hsp w H a ns hlen hO hS) fun H e s'=>hCX w H s₁ e s'
open PySem.AutoSeq1 (wpAny_loadPart')
theorem jQI {tp:Bool}{e it l:Addr}{i:Nat}{xs:Array Value}{x old:Value}{Q:Value->Shared->Prop}(ee:IsEnum s.heap e it i old)(g1:ItAt tp s.heap it l i)(o1:ObAt tp s.heap l xs)(hx:xs[i]?=some x)(ne:e≠it)
  (k:∀ h',IsEnumOut h' e it ((i:Int)+1) x s.heap.objs.size->ItAt tp h' it l (i+1)->h'.get? s.heap.objs.size=some { cls:= .type "tuple",data:= .seq #[.int i s.toks,x]} ->h'.objs.size=s.heap.objs.size+1->
   (∀ c o,c≠e->c≠it->s.heap.get? c=some o->h'.get? c=some o)->Q (.ref s.heap.objs.size) { s with heap:=h',toks:=s.toks+1}):
  wpAny (model prog w) A (Builtin.«enumerate.__next__» ⟨[.ref e],[]⟩) (fun fin s'=>∃ v,fin= .done (.ret v)/\Q v s') E s:=by
 obtain⟨hp,g,d,tk,os⟩:=s
 show wpAny (model prog w) A (field (.ref e) 2 >>= _) _ _ _
 refine aa (eM ee rfl (x:= .ref it) rfl (aa (next1 g1 o1 hx fun p1 r1 q1=>?_)))
 have q1:Heap.SameBut it hp p1:=q1
 have e1:IsEnum p1 e it i old:=(q1.2 e ne).trans ee
 show wpAny (model prog w) A (field (.ref e) 3 >>= _) _ _ ⟨p1,g,d,tk,os⟩
 refine aa (eM e1 rfl (x:=rawInt i) rfl (?_:wpAny (model prog w) A (field (.ref e) 4 >>= _) _ _ ⟨p1,g,d,tk,os⟩))
 refine aa (eM e1 rfl (x:= .none) rfl (?_:wpAny (model prog w) A (mkInt i >>= _) _ _ ⟨p1,g,d,tk,os⟩))
 refine aa (wpAny_mkInt (?_:wpAny (model prog w) A (setField (.ref e) 3 (rawInt ((i:Int)+1)) >>= _) _ _ ⟨p1,g,d,tk+1,os⟩))
 refine aa (cY e1 (by simp) fun p2 e2 q2=>?_)
 have q2:Heap.SameBut e p1 p2:=q2
 have e2:IsEnum p2 e it ((i:Int)+1) old:=e2
 show wpAny (model prog w) A (setField (.ref e) 4 .none >>= _) _ _ ⟨p2,g,d,tk+1,os⟩
 refine aa (cY e2 (by simp) fun p3 e3 q3=>?_)
 have q3:Heap.SameBut e p2 p3:=q3
 have e3:IsEnum p3 e it ((i:Int)+1) old:=e3
 show wpAny (model prog w) A (newTuple [.int i tk,x] >>= _) _ _ ⟨p3,g,d,tk+1,os⟩
 refine aa (wpAny_newTuple ?_)
 have e4:IsEnum (p3.push { cls:= .type "tuple",data:= .seq #[.int i tk,x]}) e it ((i:Int)+1) old:=ag _ e3
 have sz:p3.objs.size=hp.objs.size:=by rw[q3.1,q2.1,q1.1]
 have lt:e<hp.objs.size:=aG ee
 have t4:(p3.push { cls:= .type "tuple",data:= .seq #[.int i tk,x]}).get? hp.objs.size=some { cls:= .type "tuple",data:= .seq #[.int i tk,x]} :=by rw[<- sz]; exact aB _ rfl
 have z4:(p3.push { cls:= .type "tuple",data:= .seq #[.int i tk,x]}).objs.size=hp.objs.size+1:=by rw[dy,sz]
 have k4:∀ c o,c≠e->c≠it->hp.get? c=some o->(p3.push { cls:= .type "tuple",data:= .seq #[.int i tk,x]}).get? c=some o:=fun c o n1 n2 v=>ag _ (q3.extBut c o n1 (q2.extBut c o n1 (q1.extBut c o n2 v)))
 have r4:ItAt tp (p3.push { cls:= .type "tuple",data:= .seq #[.int i tk,x]}) it l (i+1):=((r1.but q2.extBut ne.symm).but q3.extBut ne.symm).at fun o v=>ag _ v
 generalize p3.push { cls:= .type "tuple",data:= .seq #[.int i tk,x]} =p4 at e4 t4 z4 k4 r4 ⊢
 show wpAny (model prog w) A (Builtin.SmallTypes.ownedTupleIsFree (.ref e) >>= _) _ _ ⟨p4,g,d,tk+1,os⟩
 rw[sz]
 refine aa (by
  unfold Builtin.SmallTypes.ownedTupleIsFree
  refine aa (eM e4 rfl (x:= .none) rfl (ao ?_))
  simp only [gW]
  refine aa (dw (aa (eM e4 rfl (x:=old) rfl (aa (cY e4 (by simp) fun p5 e5 q5=>?_)))))
  have q5:Heap.SameBut e p4 p5:=q5
  have e5:IsEnum p5 e it ((i:Int)+1) x:=e5
  refine aa (m:=Builtin.SmallTypes.ownedTupleHandOut (.ref e) (.ref hp.objs.size)) ?_
  unfold Builtin.SmallTypes.ownedTupleHandOut
  refine aa (cY e5 (by simp) fun p6 e6 q6=>?_)
  have q6:Heap.SameBut e p5 p6:=q6
  have e6:IsEnumOut p6 e it ((i:Int)+1) x hp.objs.size:=e6
  refine cY e6 (by simp) fun p7 e7 q7=>?_
  have q7:Heap.SameBut e p6 p7:=q7
  have e7:IsEnumOut p7 e it ((i:Int)+1) x hp.objs.size:=e7
  have up:∀ c o,c≠e->p4.get? c=some o->p7.get? c=some o:=fun c o n v=>q7.extBut _ _ n (q6.extBut _ _ n (q5.extBut _ _ n v))
  exact aa (iU (ao ⟨_,rfl,k p7 e7 (r4.at fun o v=>up _ o ne.symm v) (up _ _ (eY lt) t4) (by rw[q7.1,q6.1,q5.1,z4]) fun c o n1 n2 v=>up c o n1 (k4 c o n1 n2 v)⟩)))
theorem jKB {tp:Bool}{e it l:Addr}{i:Nat}{xs:Array Value}{x old:Value}{Q:Option Value->Shared->Prop}(ee:IsEnum s.heap e it i old)(g1:ItAt tp s.heap it l i)(o1:ObAt tp s.heap l xs)(hx:xs[i]?=some x)(ne:e≠it)
  (k:∀ h',IsEnumOut h' e it ((i:Int)+1) x s.heap.objs.size->ItAt tp h' it l (i+1)->h'.get? s.heap.objs.size=some { cls:= .type "tuple",data:= .seq #[.int i s.toks,x]} ->h'.objs.size=s.heap.objs.size+1->
   (∀ c o,c≠e->c≠it->s.heap.get? c=some o->h'.get? c=some o)->Q (some (.ref s.heap.objs.size)) { s with heap:=h',toks:=s.toks+1}):
  wpAny (model prog w) A (pyNext (.ref e)) Q E s:=by
 have ty:s.TypeIs (.ref e) "enumerate" :=⟨_,ee,rfl⟩
 unfold pyNext
 exact aa (ga (cZ (name:=Str.ofString "__next__") ty F.slot_enumerate_next (cz F.slot_enumerate_next ty F.entry_enumerate_next (jQI ee g1 o1 hx ne fun h' b1 b2 b3 b4 b5=>ao (k h' b1 b2 b3 b4 b5)) (F.args_enumerate_next_1 _))))
theorem jKC {tp:Bool}{e it l:Addr}{i:Nat}{xs:Array Value}{old:Value}{Q:Option Value->Shared->Prop}(hh:A.handled=none)(ee:IsEnum s.heap e it i old)(g1:ItAt tp s.heap it l i)(o1:ObAt tp s.heap l xs)(hx:xs[i]?=none)
  (k:∀ h',(∀ c o,c≠e->c≠it->s.heap.get? c=some o->h'.get? c=some o)->Q none { s with heap:=h'}):wpAny (model prog w) A (pyNext (.ref e)) Q E s:=by
 have ty:s.TypeIs (.ref e) "enumerate" :=⟨_,ee,rfl⟩
 unfold pyNext
 refine aa (ga (cZ (name:=Str.ofString "__next__") ty F.slot_enumerate_next (cz F.slot_enumerate_next ty F.entry_enumerate_next (?_:wpAny (model prog w) _ (field (.ref e) 2 >>= _) _ _ _) (F.args_enumerate_next_1 _))))
 refine aa (eM ee rfl (x:= .ref it) rfl (aa (next0 hh g1 o1 hx fun h' x kp ⟨u,eu,cu⟩=>?_)))
 exact aa (ja (T:= "StopIteration") (b:=true) ⟨u,eu,cu⟩ isSubtype_stop (ao (k _ fun c o _ n v=>kp c o n v)))
set_option maxHeartbeats 2000000 in
theorem jMW (tp:Bool)(l:Addr)(xs:Array Value)(u:Obj):
  Meets (Builtin.«enumerate.__new__» ⟨[.type "enumerate", .ref l],[]⟩) (fun _ R s=>s.heap.get? l=some u/\ObAt tp s.heap l xs/\
   R (.ok (.ret (.ref (s.heap.push (iterO tp l)).objs.size))) { s with heap:=(s.heap.push (iterO tp l)).push { cls:= .type "enumerate",data:= .fields #[.none, .bool false, .ref s.heap.objs.size,rawInt 0, .none, .none]}}):=
 .of_wp fun prog w A R s h=>by
  obtain⟨hp,g,d,tk,os⟩:=s
  obtain⟨a0,a1,q⟩:=h
  have sub:=sub_enumerate
  have e1:ObAt tp (Shared.heap ⟨hp,g,d,tk,os⟩) l xs:=a1
  obtain⟨c,dct,dt,sl⟩:=u
  obtain⟨n,hc,hd⟩:∃ n,c=(if tp then .type "tuple" else .type "list")/\dt= .seq xs n:=by
   cases tp with
   | false=>obtain⟨o,e,hc,n,hd⟩:=a1; cases (a0.symm.trans e); exact⟨n,hc,hd⟩
   | true=>obtain⟨o,e,hc,n,hd⟩:=a1; cases (a0.symm.trans e); exact⟨n,hc,hd⟩
  subst hd
  cases tp with
  | false=>
   subst hc
   wp_walk using cK a0
   refine wpAny_stack_any fun _=>ao ?_
   split
   ·rename_i c _ _ _ _ _
    cases hcc:(c==Value.type "enumerate")
    all_goals (wp_walk using cK a0,jF6 e1; exact⟨_,rfl,q⟩)
   ·wp_walk using cK a0,jF6 e1
    exact⟨_,rfl,q⟩
  | true=>
   subst hc
   wp_walk using cK a0
   refine wpAny_stack_any fun _=>ao ?_
   split
   ·rename_i c _ _ _ _ _
    cases hcc:(c==Value.type "enumerate")
    all_goals (wp_walk using cK a0,jF6 e1; exact⟨_,rfl,q⟩)
   ·wp_walk using cK a0,jF6 e1
    exact⟨_,rfl,q⟩
theorem jQR {prog:Program}{w:World}{A:Around}{E:Value->Shared->Prop}{s:Shared}{tp:Bool}{l:Addr}{xs:Array Value}{Q:Value->Shared->Prop}(a1:ObAt tp s.heap l xs)
  (k:∀ h',IsEnum h' (s.heap.objs.size+1) s.heap.objs.size 0 .none->ItAt tp h' s.heap.objs.size l 0->(∀ c o,s.heap.get? c=some o->h'.get? c=some o)->Q (.ref (s.heap.objs.size+1)) { s with heap:=h'}):
  wpAny (model prog w) A (call (.type "enumerate") [.ref l]) Q E s:=by
 obtain⟨u,eu⟩:∃ u,s.heap.get? l=some u:=by
  cases tp with
  | false=>obtain⟨o,e,_⟩:=a1; exact⟨o,e⟩
  | true=>obtain⟨o,e,_⟩:=a1; exact⟨o,e⟩
 refine callType_new F.called_enumerate (by decide) (F.typeCall_enumerate_1 _) (F.newCall_enumerate_1 _) (fun obj=>F.args_object_init_2 obj _) F.entry_enumerate_new (jMW tp l xs u) ⟨eu,a1,?_⟩
 have z1:(s.heap.push (iterO tp l)).objs.size=s.heap.objs.size+1:=dy ..
 have y2:IsEnum ((s.heap.push (iterO tp l)).push { cls:= .type "enumerate",data:= .fields #[.none, .bool false, .ref s.heap.objs.size,rawInt 0, .none, .none]}) (s.heap.push (iterO tp l)).objs.size s.heap.objs.size 0 .none:=aB _ rfl
 have y1:((s.heap.push (iterO tp l)).push { cls:= .type "enumerate",data:= .fields #[.none, .bool false, .ref s.heap.objs.size,rawInt 0, .none, .none]}).get? s.heap.objs.size=some (iterO tp l):=ag _ (aB _ (jKN _ _))
 show _/\_
 rw[z1] at y2 ⊢
 exact⟨⟨_,y2,rfl⟩,k _ y2 (.new tp y1) fun c o e=>ag _ (ag _ e)⟩
def Ite (tp:Bool)(K:W.Frag)(l:Addr):It:=
 ⟨fun i H=>∃ xs x,Sq tp K H l xs/\xs[i]?=some x,
  fun i H v H'=>∃ T x,H T=none/\v= .ref T/\H'=upd H T (.tup [.int (i:Int),x])/\∀ xs,Sq tp K H l xs->xs[i]?=some x,
  fun i H=>∃ xs,Sq tp K H l xs/\xs.length<=i⟩
theorem jL5 {P:Program}{w:World}{K:W.Frag}{elts:List Expr}{x1:Nat}{tps:Pos}(tp:Bool)(l e it:Addr)(ne:e≠it):
  Turn P w K (.Tuple elts x1 tps) (Ite tp K l) [e,it] e (fun i h=>(∃ old,IsEnum h e it ((i:Nat):Int) old)/\ItAt tp h it l i) where
 mem:=by simp
 obj:=fun i h st b hb=>by
  obtain⟨⟨old,he⟩,y1⟩:=st
  simp only [aF,cr,fY] at hb
  rcases hb with rfl | rfl
  ·exact⟨_,he,fun v q=>by cases q⟩
  ·exact y1.obj
 keep:=fun i h h' st k=>by
  obtain⟨⟨old,he⟩,h1⟩:=st
  exact⟨⟨old,k e (by simp) _ he⟩,h1.at fun o z=>k it (by simp) o z⟩
 item:=by
  intro X hP hw hK hc i ad s σ H E I hf st hg
  subst hP hw hK
  obtain⟨xs,x,hq1,hx⟩:=hg
  obtain⟨⟨old,he⟩,h1⟩:=st
  obtain⟨its1,r1,p1,_⟩:=I.sq hq1
  obtain⟨u,hu,ru⟩:=r1.get hx
  refine jKB he h1 p1 (x:=u) (by simpa using hu) ne fun h' a1 a2 a3 a4 a5=>?_
  refine⟨_,rfl,wpAny_letOwnedTupleGo_enum (s:= { s with heap:=h',toks:=s.toks+1}) a1 fun h'' b1 sb=>?_⟩
  have fresh:H s.heap.objs.size=none:=I.fresh
  have ntr:∀ b o,H b=some o->b∉([e,it]:List Addr):=fun b o z hb=>by
   have:=(hf b hb).1
   rw[z] at this; cases this
  have kp:∀ b o,b∉([e,it]:List Addr)->s.heap.get? b=some o->h''.get? b=some o:=fun b o hb z=>by
   simp only [aF,cr,fY,not_or] at hb
   exact(sb.2 b hb.1).trans (a5 b o hb.1 hb.2 z)
  have nz:s.heap.objs.size≠e:=eY (aG he)
  have hT2:h''.get? s.heap.objs.size=some { cls:= .type "tuple",data:= .seq #[.int i s.toks,u]} :=(sb.2 _ nz).trans a3
  have I2:Inv X ad σ (upd H s.heap.objs.size (.tup [.int (i:Int),x])) { s with heap:=h'',toks:=s.toks+1} :=by
   refine I.step (g':=s.gens) (d':=s.drawn) (t':=s.toks+1) (ch:=[e,it]) (fun b hb=>?_) (fun b o _ _ hb z _=>kp b o hb z) (fun b o _ _ hb z _=>⟨o.slots,kp b o hb z⟩)
    (fun b o _ z n=>by rw[j8 (bb (aG z))]; exact n) (fun b o hb z=>⟨o,kp b o hb z⟩) (fun b ws z=>by rw[j8 (jA z fresh)]; exact z) (fun b o ws z=>by rw[j8 (jA z fresh)]; exact z)
    (fun b ps z=>⟨#[],by rw[j8 (jA z fresh),z]; simp⟩) (fun m hm=>?_) (fun b o z=>?_) I.bare
   ·obtain⟨f0,f1,f2,f3,f4,f5⟩:=hf b hb
    exact⟨f3,f1,f4,f5⟩
   ·obtain⟨o,es,ep,ho,r⟩:=hm
    exact⟨o,es,ep,kp _ o (fun hb=>(hf _ hb).2.1 rfl) ho,r⟩
   ·by_cases hb:b=s.heap.objs.size
    ·subst hb
     rw[j6] at z
     cases z
     exact⟨by rw[gh]; show 2<=_; decide,[.int i s.toks,u], .cons ⟨_,rfl⟩ (.cons ru .nil),0,hT2⟩
    ·rw[j8 hb] at z
     refine(I.hok b o z).stay (fun c w hc q=>kp c w ?_ q) (fun c q=>by rw[j8 (jA q fresh)]; exact q) (fun c ws q=>by rw[j8 (jA q fresh)]; exact q)
     rcases hc with rfl | hc
     ·exact ntr _ _ z
     ·exact ntr _ _ hc
  refine⟨.ref s.heap.objs.size,_,I2,rfl,⟨_,x,fresh,rfl,rfl,fun xs' q1=>by rw[I.sq_inj q1 hq1]; exact hx⟩,⟨⟨_,b1⟩,?_⟩,fun b hb=>?_⟩
  ·exact a2.at fun o z=>(sb.2 it ne.symm).trans z
  ·rw[j8 (fun q=>by
    obtain⟨o,eo⟩:∃ o,s.heap.get? b=some o:=by
     simp only [aF,cr,fY] at hb
     rcases hb with rfl | rfl
     ·exact⟨_,he⟩
     ·obtain⟨o,z,_⟩:=h1.obj; exact⟨o,z⟩
    exact absurd (aG eo) (by rw[q]; exact df _))]
   exact(hf b hb).1
 done:=by
  intro X hP hw hK hc i ad s σ H E I hf st hg
  subst hP hw hK
  obtain⟨xs,hq1,hend⟩:=hg
  obtain⟨⟨old,he⟩,h1⟩:=st
  obtain⟨its1,r1,p1,_⟩:=I.sq hq1
  have e1:=r1.length
  refine jKC (I.ok.hd hc) he h1 p1 (by simp; lia) fun h' kp=>⟨rfl,?_⟩
  have kp2:∀ b o,b∉([e,it]:List Addr)->s.heap.get? b=some o->h'.get? b=some o:=fun b o hb z=>by
   simp only [aF,cr,fY,not_or] at hb
   exact kp b o hb.1 hb.2 z
  have ntr:∀ b o,H b=some o->b∉([e,it]:List Addr):=fun b o z hb=>by
   have:=(hf b hb).1
   rw[z] at this; cases this
  refine I.step (g':=s.gens) (d':=s.drawn) (t':=s.toks) (ch:=[e,it]) (fun b hb=>?_) (fun b o _ _ hb z _=>kp2 b o hb z) (fun b o _ _ hb z _=>⟨o.slots,kp2 b o hb z⟩)
   (fun b o _ z n=>n) (fun b o hb z=>⟨o,kp2 b o hb z⟩) (fun b ws z=>z) (fun b o ws z=>z) (fun b ps z=>⟨#[],by rw[z]; simp⟩) (fun m hm=>?_) (fun b o z=>?_) I.bare
  ·obtain⟨f0,f1,f2,f3,f4,f5⟩:=hf b hb
   exact⟨f3,f1,f4,f5⟩
  ·obtain⟨o,es,ep,ho,r⟩:=hm
   exact⟨o,es,ep,kp2 _ o (fun hb=>(hf _ hb).2.1 rfl) ho,r⟩
  ·refine(I.hok b o z).stay (fun c w hc q=>kp2 c w ?_ q) (fun _ q=>q) fun _ _ q=>q
   rcases hc with rfl | hc
   ·exact ntr _ _ z
   ·exact ntr _ _ hc
 self:=fun _ _ _ _ _ st h=>wpAny_pyIter_enum st.1.choose_spec h
def iEnum (K:W.Frag)(ta:TA):TI:=fun σ H R=>ta σ H fun vs H1=>∃ tp l,vs=[.ref l]/\(∃ xs,Sq tp K H1 l xs)/\R (Ite tp K l) H1
theorem jSK {a:Expr}{ta:TA}{p pos:Pos}{elts:List Expr}{x1:Nat}{tp:Pos}(hg:Gl X "enumerate")(hm:X.mg "enumerate" =none)(ha:PA X [a] ta)(hv:bootBuiltins "enumerate" =some (.type "enumerate"):=by decide+kernel)
  (he:starEach [a] X.env=(false,eval a X.env)::starEach [] X.env:=by rfl) (hpl:(backTo pos (starEach [] X.env)).any (·.1)=false:=by rfl):
  PI X (.Tuple elts x1 tp) (.Call (.Name "enumerate" p) [a] [] pos) (iEnum X.K ta):=by
 intro ad s σ H R I h
 refine Call_ (jD1 I hg hm hv (de (lI (ha pos ad s σ H _ I h) fun us s1 ⟨vs,H1,I1,r1,q1⟩=>?_) he hpl))
 obtain⟨t1,l1,rfl,⟨xs,hq1⟩,q⟩:=q1
 obtain⟨u,rfl,ru⟩:=r1.one
 cases ru
 obtain⟨its1,_,p1,_⟩:=I1.sq hq1
 refine jQR p1 fun h' a1 a2 kp=>?_
 have I2:Inv X ad σ H1 { s1 with heap:=h'} :=I1.kept (t':=s1.toks) kp
 refine wpAny_pyIter_enum a1 ⟨s1.heap.objs.size+1,[s1.heap.objs.size+1,s1.heap.objs.size],_,Ite t1 X.K l1,H1,rfl,I2,jL5 t1 l1 _ _ (Nat.succ_ne_self _),⟨⟨_,a1⟩,a2⟩,fun b hb=>?_,q⟩
 have hge:s1.heap.objs.size<=b:=by
  simp only [aF,cr,fY] at hb
  rcases hb with rfl | rfl
  ·exact Nat.le_add_right _ 1
  ·exact ar _
 exact I1.fpOk hge (I1.hok.fresh hge)
theorem jNF {a:Expr}{t:TA}{p pos:Pos}{elts:List Expr}{x1:Nat}{tp:Pos}(hg:Gl1 X "enumerate")(hm:X.mg "enumerate" =none)(ha:JA X [a] t)(he:starEach [a] X.env=(false,eval a X.env)::starEach [] X.env)(hv:bootBuiltins "enumerate" =some (.type "enumerate"):=by decide+kernel)
  (hpl:(backTo pos (starEach [] X.env)).any (·.1)=false:=by rfl):JI X (.Tuple elts x1 tp) (.Call (.Name "enumerate" p) [a] [] pos) (iEnum X.K t):=⟨jSK hg.a hm ha.h hv he hpl⟩
variable {H1:Hp}{Q:VK}
section
variable {K:W.Frag}{σ:St}
end
section
variable {κ:Type} [DecidableEq κ]
def valV (kvs:List (κ×V))(k:κ):Option V:=(kvs.find? fun kv=>decide (kv.1=k)).map (·.2)
def putK (kvs:List (κ×V))(k:κ)(v:V):List (κ×V):=
 if (kvs.any fun kv=>decide (kv.1=k))=true then kvs.map (fun kv=>if kv.1=k then (kv.1,v) else kv) else kvs++[(k,v)]
theorem jAR {p:κ×V}{r:List (κ×V)}{k:κ}(e:p.1=k):valV (p::r) k=some p.2:=by simp [valV,fh,e]
theorem jAE {p:κ×V}{r:List (κ×V)}{k:κ}(e:¬ p.1=k):valV (p::r) k=valV r k:=by simp [valV,fh,e]
theorem jD5 (k:κ):∀ kvs:List (κ×V),(kvs.any fun kv=>decide (kv.1=k))=(valV kvs k).isSome
 | []=>rfl
 | p::r=>by
  rw[gY]
  by_cases e:p.1=k
  ·simp only [jAR e,ay e,lC,Option.isSome_some]
  ·rw[jAE e,aM e,iZ]; exact jD5 k r
theorem jBP (kvs:List (κ×V))(k:κ)(v:V):(putK kvs k v).length<=kvs.length+1:=by
 unfold putK
 split
 ·rw[ab]; lia
 ·rw[aC,aU,dq]; lia
theorem jD7 {kvs:List (κ×V)}{k:κ}(v:V)(h:valV kvs k=none):putK kvs k v=kvs++[(k,v)]:=by
 unfold putK
 rw[jD5,h]
 exact ae (by decide)
theorem RelO.isSome_eq {o:Option V}{u:Option Value}(r:RelO o u):o.isSome=u.isSome:=by
 cases o with
 | none=>cases u with
  | none=>rfl
  | some _=>exact(show False from r).elim
 | some _=>cases u with
  | none=>exact(show False from r).elim
  | some _=>rfl
theorem RelO.getD {o:Option V}{u:Option Value}{d:V}{d':Value}(r:RelO o u)(rd:RelV d d'):RelV (o.getD d) (u.getD d'):=by
 cases o with
 | none=>cases u with
  | none=>exact rd
  | some _=>exact(show False from r).elim
 | some _=>cases u with
  | none=>exact(show False from r).elim
  | some _=>exact r
theorem KV.val {kvs:List (κ×V)}{vs:List (κ×Value)}(r:KV kvs vs)(k:κ):RelO (valV kvs k) (valueAt vs k):=by
 unfold KV at r
 induction r with
 | nil=>exact True.intro
 | @cons p q ps qs h t ih=>
  obtain⟨h1,h2⟩:=h
  by_cases e:p.1=k
  ·have e':q.1=k:=h1.symm.trans e
   have b:valueAt (q::qs) k=some q.2:=by simp [valueAt,fh,e']
   rw[jAR e,b]; exact h2
  ·have e':¬ q.1=k:=fun z=>e (h1.trans z)
   have b:valueAt (q::qs) k=valueAt qs k:=by simp [valueAt,fh,e']
   rw[jAE e,b]; exact ih
theorem KV.any {kvs:List (κ×V)}{vs:List (κ×Value)}(r:KV kvs vs)(k:κ):(kvs.any fun kv=>decide (kv.1=k))=vs.any fun kv=>decide (kv.1=k):=by
 unfold KV at r
 induction r with
 | nil=>rfl
 | cons h t ih=>rw[gY,gY,ih,h.1]
theorem KV.repl {kvs:List (κ×V)}{vs:List (κ×Value)}(r:KV kvs vs)(k:κ){y:V}{u:Value}(ry:RelV y u):
  KV (kvs.map fun kv=>if kv.1=k then (kv.1,y) else kv) (vs.map fun kv=>if kv.1=k then (kv.1,u) else kv):=by
 unfold KV at r ⊢
 induction r with
 | nil=>exact .nil
 | @cons p q ps qs h t ih=>
  rw[aY,aY]
  refine .cons ?_ ih
  obtain⟨h1,h2⟩:=h
  by_cases e:p.1=k
  ·rw[ah e,ah (h1.symm.trans e)]; exact⟨h1,ry⟩
  ·rw[ae e,ae (fun z=>e (h1.trans z))]; exact⟨h1,h2⟩
theorem KV.put {kvs:List (κ×V)}{vs:List (κ×Value)}(r:KV kvs vs)(k:κ){y:V}{u:Value}(ry:RelV y u):KV (putK kvs k y) (stored vs k u):=by
 unfold putK stored
 rw[r.any k]
 by_cases e:(vs.any fun kv=>decide (kv.1=k))=true
 ·rw[ah e,ah e]; exact r.repl k ry
 ·rw[ae e,ae e]; exact Paired.snoc r ⟨rfl,ry⟩
theorem KV.keys {kvs:List (κ×V)}{vs:List (κ×Value)}(r:KV kvs vs):kvs.map (·.1)=vs.map (·.1):=by
 unfold KV at r
 induction r with
 | nil=>rfl
 | cons h t ih=>rw[aY,aY,ih,h.1]
theorem KV.length {kvs:List (κ×V)}{vs:List (κ×Value)}(r:KV kvs vs):kvs.length=vs.length:=gU r
end
theorem kV_is {P:Program}{w:World}{k:Key}{u:Value}(r:RelV (kV k) u):(jX P w).is k u=true:=by
 cases k with
 | inl i=>obtain⟨t,e⟩:=(show ∃ t,u=Value.int i t from r); subst e; exact jHY P w i t
 | inr x=>obtain⟨t,e⟩:=(show ∃ t,u=Value.str x t from r); subst e; exact jHX P w x t
theorem jGR {P:Program}{w:World} :∀ {ks:List Key}{us:List Value},Vals (ks.map kV) us->ItemsAre (jX P w) ks us
 | [],_,r=>by rw[fD] at r; cases r; exact .nil
 | k::ks,_,r=>by
  rw[aY] at r
  cases r with
  | cons h t=>exact .cons (kV_is h) (jGR t)
abbrev KT (H:Hp):List (List Key×V)->List (List Key×Addr×Value)->Prop:=Paired fun p q=>p.1=q.1/\H q.2.1=some (.tup (p.1.map kV))/\RelV p.2 q.2.2
theorem KT.val {H:Hp}{kvs:List (List Key×V)}{xs:List (List Key×Addr×Value)}(r:KT H kvs xs)(k:List Key):RelO (valV kvs k) ((atKey xs k).map (·.2)):=by
 induction r with
 | nil=>exact True.intro
 | @cons p q ps qs h t ih=>
  obtain⟨h1,_,h2⟩:=h
  by_cases e:p.1=k
  ·have e':q.1=k:=h1.symm.trans e
   have b:atKey (q::qs) k=some q.2:=by simp [atKey,fh,e']
   rw[jAR e,b]; exact h2
  ·have e':¬ q.1=k:=fun z=>e (h1.trans z)
   have b:atKey (q::qs) k=atKey qs k:=by simp [atKey,fh,e']
   rw[jAE e,b]; exact ih
theorem KT.repl {H:Hp}{kvs:List (List Key×V)}{xs:List (List Key×Addr×Value)}(r:KT H kvs xs)(k:List Key){y:V}{u:Value}(ry:RelV y u):
  KT H (kvs.map fun kv=>if kv.1=k then (kv.1,y) else kv) (xs.map (putAt k u)):=by
 induction r with
 | nil=>exact .nil
 | @cons p q ps qs h t ih=>
  rw[aY,aY]
  refine .cons ?_ ih
  obtain⟨h1,h2,h3⟩:=h
  unfold putAt
  by_cases e:p.1=k
  ·rw[ah e,ah (h1.symm.trans e)]; exact⟨h1,h2,ry⟩
  ·rw[ae e,ae (fun z=>e (h1.trans z))]; exact⟨h1,h2,h3⟩
theorem KT.put {H:Hp}{kvs:List (List Key×V)}{xs:List (List Key×Addr×Value)}(r:KT H kvs xs)(k:List Key){b:Addr}{y:V}{u:Value}(hb:H b=some (.tup (k.map kV)))(ry:RelV y u):
  KT H (putK kvs k y) (storedH xs k b u):=by
 have e:(kvs.any fun kv=>decide (kv.1=k))=(atKey xs k).isSome:=by
  rw[jD5,(r.val k).isSome_eq,iV]
 unfold putK storedH
 rw[e]
 by_cases q:(atKey xs k).isSome=true
 ·rw[ah q,ah q]; exact r.repl k ry
 ·rw[ae q,ae q]; exact Paired.snoc r ⟨rfl,hb,ry⟩
theorem KT.keeps {H H':Hp}{kvs:List (List Key×V)}{xs:List (List Key×Addr×Value)}(r:KT H kvs xs)(ht:∀ b ys,H b=some (.tup ys)->H' b=some (.tup ys)):KT H' kvs xs:=
 Paired.mapP r fun _ _ z=>⟨z.1,ht _ _ z.2.1,z.2.2⟩
theorem rd_of {u:HO}(ok:HOk P w H h)(e:Rd H a u):ObjOk P w H h a u:=e.ok ok
theorem dk_rd {kvs:List (Key×V)}(ok:HOk P w H h)(e:Rd H a (.dK kvs)):kvs.length<=sizeLine/\(a==sysModules)=false/\∃ vs,KV kvs vs/\h.DictOf (jX P w) a vs:=
 show ObjOk P w H h a (.dK kvs) from rd_of ok e
theorem dk_of {kvs:List (Key×V)}(ok:HOk P w H h)(e:H a=some (.dK kvs)):kvs.length<=sizeLine/\(a==sysModules)=false/\∃ vs,KV kvs vs/\h.DictOf (jX P w) a vs:=dk_rd ok (.inl e)
theorem jEK {ks:List Key}(ok:HOk P w H h)(e:H a=some (.tup (ks.map kV))):(tupleKind (jX P w)).is h ks a:=by
 obtain⟨_,its,r,p⟩:=(show ObjOk P w H h a (.tup (ks.map kV)) from ok a _ e)
 obtain⟨o,h1,h2,n,h3⟩:=p.isTup
 exact⟨o,its.toArray,n,h1,h2,h3,by simpa using jGR r⟩
theorem dt_rd {kvs:List (List Key×V)}(ok:HOk P w H h)(e:Rd H a (.dT kvs)):kvs.length<=sizeLine/\(a==sysModules)=false/\
  ∃ xs,KT H kvs xs/\h.DictOfH (tupleKind (jX P w)) a xs:=by
 obtain⟨z,y,xs,r,o,es,ep,h1,h2,h3,h4,h5⟩:=(show ObjOk P w H h a (.dT kvs) from rd_of ok e)
 refine⟨z,y,xs,r,o,es,ep,h1,h2,h3,h4,fun x hx=>?_,h5⟩
 have all:∀ {l:List (List Key×V)}{m:List (List Key×Addr×Value)},KT H l m->∀ x∈m,(tupleKind (jX P w)).is h x.1 x.2.1:=by
  intro l m q
  induction q with
  | nil=>intro x hx; exact nomatch hx
  | @cons p q ps qs hq t ih=>
   intro x hx
   rcases aF.mp hx with e | hx
   ·subst e
    exact jEK ok (by rw[<- hq.1]; exact hq.2.1)
   ·exact ih x hx
 exact all r x hx
theorem dt_of {kvs:List (List Key×V)}(ok:HOk P w H h)(e:H a=some (.dT kvs)):kvs.length<=sizeLine/\(a==sysModules)=false/\
  ∃ xs,KT H kvs xs/\h.DictOfH (tupleKind (jX P w)) a xs:=dt_rd ok (.inl e)
def DGet (H:Hp)(a:Addr)(y:V)(r:Option V):Prop:=
 (∃ kvs k,Rd H a (.dK kvs)/\y=kV k/\r=valV kvs k)\/∃ kvs k b,Rd H a (.dT kvs)/\y= .ref b/\H b=some (.tup (k.map kV))/\r=valV kvs k
def DPut (H:Hp)(a:Addr)(y v:V)(H':Hp):Prop:=
 (∃ kvs k,H a=some (.dK kvs)/\y=kV k/\kvs.length<sizeLine/\H'=upd H a (.dK (putK kvs k v)))\/
 ∃ kvs k b,H a=some (.dT kvs)/\y= .ref b/\H b=some (.tup (k.map kV))/\kvs.length<sizeLine/\H'=upd H a (.dT (putK kvs k v))
theorem DGet.k {H:Hp}{a:Addr}{kvs:List (Key×V)}{k:Key}(e:H a=some (.dK kvs)):DGet H a (kV k) (valV kvs k):= .inl ⟨kvs,k, .inl e,rfl,rfl⟩
theorem DPut.k {H:Hp}{a:Addr}{kvs:List (Key×V)}{k:Key}{v:V}(e:H a=some (.dK kvs))(hl:kvs.length<sizeLine):DPut H a (kV k) v (upd H a (.dK (putK kvs k v))):= .inl ⟨kvs,k,e,rfl,hl,rfl⟩
variable {y:V}{u r:Value}
section
variable {σ:St}{v:V}{o:Option V}
theorem Inv.big (I:Inv X ad σ H s):sysModules<s.heap.objs.size:=by
 have h:mainGlobals<s.heap.objs.size:=(I.mod.glob.keeps I.bk).lt
 exact iq (by decide) h
theorem jOC {Q:Value->Shared->Prop}(hu:A.units+1<cLine)(I:Inv X ad σ H s)(g:DGet H a y (some v))(ry:RelV y u)(h:∀ w' s',Inv X ad σ H s'->RelV v w'->Q w' s'):
  wpAny (model X.prog X.w) A (getItem (.ref a) u) Q E s:=by
 rcases g with ⟨kvs,k,e,ey,l⟩ | ⟨kvs,k,b,e,ey,eb,l⟩
 ·subst ey
  obtain⟨z,hd,vs,rel,dd⟩:=dk_rd I.hok e
  obtain⟨w',hw,rw'⟩:=RelO.some_of (v:=v) (o:=valueAt vs k) (by rw[l]; exact rel.val k)
  exact wpAny_getItem_of (kV_is ry) dd.mapOf hw (h w' _ (I.tok _) rw')
 ·subst ey
  cases (show u=Value.ref b from ry)
  obtain⟨z,hd,xs,rel,dd⟩:=dt_rd I.hok e
  obtain⟨w',hw,rw'⟩:=RelO.some_of (v:=v) (o:=(atKey xs k).map (·.2)) (by rw[l]; exact rel.val k)
  obtain⟨p,hp,hp2⟩:=Option.map_eq_some_iff.mp hw
  refine wpAny_getItem_heap (fc hu) (jEK I.hok eb) dd hp ?_
  rw[hp2]
  exact h w' _ (I.tok _) rw'
theorem d_in {Q:Value->Shared->Prop}(hu:A.units+1<cLine)(I:Inv X ad σ H s)(g:DGet H a y o)(ry:RelV y u)(h:∀ s',Inv X ad σ H s'->Q (.bool o.isSome) s'):
  wpAny (model X.prog X.w) A (compareOp .In u (.ref a)) Q E s:=by
 rcases g with ⟨kvs,k,e,ey,l⟩ | ⟨kvs,k,b,e,ey,eb,l⟩
 ·subst ey
  obtain⟨z,hd,vs,rel,dd⟩:=dk_rd I.hok e
  refine wpAny_in_of (kV_is ry) hd dd.mapOf ?_
  rw[<- (rel.val k).isSome_eq,<- l]
  exact h _ (I.tok _)
 ·subst ey
  cases (show u=Value.ref b from ry)
  obtain⟨z,hd,xs,rel,dd⟩:=dt_rd I.hok e
  refine wpAny_in_heap (fc hu) (jEK I.hok eb) hd dd ?_
  have q:=(rel.val k).isSome_eq
  rw[iV] at q
  rw[<- q,<- l]
  exact h _ (I.tok _)
theorem jTX {Q:Value->Shared->Prop}(hu:A.units+1<cLine)(I:Inv X ad σ H s)(g:DGet H a y o)(ry:RelV y u)(h:∀ s',Inv X ad σ H s'->Q (.bool (!o.isSome)) s'):
  wpAny (model X.prog X.w) A (compareOp .NotIn u (.ref a)) Q E s:=by
 rcases g with ⟨kvs,k,e,ey,l⟩ | ⟨kvs,k,b,e,ey,eb,l⟩
 ·subst ey
  obtain⟨z,hd,vs,rel,dd⟩:=dk_rd I.hok e
  refine wpAny_notIn_of (kV_is ry) hd dd.mapOf ?_
  rw[<- (rel.val k).isSome_eq,<- l]
  exact h _ (I.tok _)
 ·subst ey
  cases (show u=Value.ref b from ry)
  obtain⟨z,hd,xs,rel,dd⟩:=dt_rd I.hok e
  refine wpAny_notIn_heap (fc hu) (jEK I.hok eb) hd dd ?_
  have q:=(rel.val k).isSome_eq
  rw[iV] at q
  rw[<- q,<- l]
  exact h _ (I.tok _)
theorem jE1 {h':Heap}{t':Nat}{ob:HO}(I:Inv X ad σ H s)(mu:Mut (H a))(hs:Heap.SameBut a s.heap h')(he:∃ q,h'.get? a=some q)(new:ObjOk X.prog X.w (upd H a ob) h' a ob):
  Inv X ad σ (upd H a ob) { s with heap:=h',toks:=t'} :=
 I.write (x:=a) (e:=a) mu (.inl rfl) (fun b q hb z=>(hs.2 b hb).trans z) he new
theorem jRO {P:Program}{w:World}{H':Hp}{h':Heap}{kvs:List (Key×V)}{vs:List (Key×Value)}(z:kvs.length<=sizeLine)(hd:(a==sysModules)=false)(rel:KV kvs vs)(dd:h'.DictOf (jX P w) a vs):
  ObjOk P w H' h' a (.dK kvs):=⟨z,hd,vs,rel,dd⟩
theorem jOB {H':Hp}{Q:Unit->Shared->Prop}(hu:A.units+1<cLine)(I:Inv X ad σ H s)(g:DPut H a y v H')(ry:RelV y u)(rv:RelV v r)(h:∀ s',Inv X ad σ H' s'->Q () s'):
  wpAny (model X.prog X.w) A (setItem (.ref a) u r) Q E s:=by
 rcases g with ⟨kvs,k,e,ey,l,eH⟩ | ⟨kvs,k,b,e,ey,eb,l,eH⟩
 ·subst ey eH
  obtain⟨z,hd,vs,rel,dd⟩:=dk_of I.hok e
  have hz:vs.length<=sizeLine:=by rw[<- rel.length]; exact z
  have hl:(putK kvs k v).length<=sizeLine:=by have:=jBP kvs k v; lia
  refine wpAny_setItem_pairs (hsz:=hz) (kV_is ry) dd fun h' dd' hs=>h _ ?_
  have he:∃ q,h'.get? a=some q:=let ⟨q,_,_,hq,_⟩:=dd'; ⟨q,hq⟩
  exact jE1 I (by rw[e]; exact True.intro) hs he (jRO hl hd (rel.put k rv) dd')
 ·subst ey eH
  cases (show u=Value.ref b from ry)
  obtain⟨z,hd,xs,rel,dd⟩:=dt_of I.hok e
  have hz:xs.length<=sizeLine:=by rw[<- gU rel]; exact z
  have hl:(putK kvs k v).length<=sizeLine:=by have:=jBP kvs k v; lia
  refine wpAny_setItem_heap (hsz:=hz) (fc hu) (jEK I.hok eb) dd fun h' dd' hs=>h _ ?_
  obtain⟨q,es,ep,hq,h2,h3,h4,_,h5⟩:=dd'
  refine jE1 I (by rw[e]; exact True.intro) hs ⟨q,hq⟩ ⟨hl,hd,_,(rel.put k eb rv).keeps fun c ys ec=>?_,q,es,ep,hq,h2,h3,h4,h5⟩
  rw[j8 (ne_of ec e (fun z=>nomatch z))]
  exact ec
end
variable {kvs:List (Key×V)}
section
variable {σ:St}{k:Key}
end
def NoSl (i:Expr):Prop:=∀ ov iv,subscripted i false ov iv=operate [ov,iv] (getItem ov iv)
theorem jS1 {prog:Program}{w:World}{A:Around}{E:Value->Shared->Prop}{s:Shared}{env:Env}{value slice:Expr}{pos:Pos}{T id:String}{Q:Value->Shared->Prop}
  (hl:typeLookup (.type T) "__getitem__" =pure (some (.builtin id))) (hs:NoSl slice)
  (h:wpAny (model prog w) A (eval value env) (fun o s₁=>wpAny (model prog w) A (eval slice env) (fun i s₂=>s₂.TypeIs o T/\wpAny (model prog w) A (getItem o i) Q E s₂) E s₁) E s):
  wpAny (model prog w) A (eval (.Subscript value slice pos) env) Q E s:=by
 refine Subscript_ (cA h (fun o s₁ h₁=>cA h₁ (fun i s₂ h₂=>?_) fun _ _ x=>x) fun _ _ x=>x)
 obtain⟨hT,h₂⟩:=h₂
 unfold subscriptTail
 refine aa ?_
 rw[getitemInPython_of_ne hT.not_modules]
 refine aa (wpAny_specialOf hT hl ?_)
 have fin:wpAny (model prog w) A (subscripted slice false o i) (fun r s₃=>wpAny (model prog w) A (letTemporaryGo value o r >>= fun _=>pure r) Q E s₃) E s₂:=by
  rw[hs o i]
  exact wpAny_operating (cA h₂ (fun r s₃ h₃=>aa (wpAny_letTemporaryGo (ao h₃))) fun _ _ x=>x)
 first
  | exact ao (aa fin)
  | exact aa (ao (aa fin))
  | exact aa fin
theorem jI9 {X:Cx}{ad:List (Addr×Obj)}{σ:St}{H:Hp}{s:Shared}{a:Addr}{y:V}{o:Option V}(I:Inv X ad σ H s)(g:DGet H a y o):s.TypeIs (.ref a) "dict" :=by
 rcases g with ⟨kvs,k,e,_,_⟩ | ⟨kvs,k,b,e,_,_,_⟩
 ·obtain⟨_,_,vs,_,dd⟩:=dk_rd I.hok e
  exact dd.typeIs
 ·obtain⟨_,_,xs,_,dd⟩:=dt_rd I.hok e
  exact dd.typeIs
def tDGet (td ty:TE):TE:=fun σ H Q=>td σ H fun x H1=>ty σ H1 fun y H2=>∃ a v,x= .ref a/\DGet H2 a y (some v)/\Q v H2
def tDIn (ty td:TE):TE:=fun σ H Q=>ty σ H fun y H1=>td σ H1 fun x H2=>∃ a o,x= .ref a/\DGet H2 a y o/\Q (.bl o.isSome) H2
def jLC (ty td:TE):TE:=fun σ H Q=>ty σ H fun y H1=>td σ H1 fun x H2=>∃ a o,x= .ref a/\DGet H2 a y o/\Q (.bl (!o.isSome)) H2
def sDPut (td ty tv:TE):TS:=fun D σ H=>tv σ H fun v H1=>td σ H1 fun x H2=>ty σ H2 fun y H3=>∃ a H4,x= .ref a/\DPut H3 a y v H4/\D.nx σ H4
variable {o value:Expr}{pos':Pos}{td tv:TE}
section
variable {i:Expr}{tpos:Pos}{ty:TE}
theorem jSN (hu:X.A.units+1<cLine)(ho:PE X o td)(hi:PE X i ty)(hs:NoSl i):PE X (.Subscript o i pos) (tDGet td ty):=by
 intro ad s σ H Q I h
 refine jS1 PySem.F.slot_dict_getitem.lookup hs (lI (ho ad s σ H _ I h) fun u s1 ⟨x,H1,I1,rx,q1⟩=>lI (hi ad s1 σ H1 _ I1 q1) fun iv s2 ⟨y,H2,I2,ry,a,v,ex,g,q2⟩=>?_)
 subst ex
 obtain rfl:u=Value.ref a:=rx
 exact⟨jI9 I2 g,jOC hu I2 g ry fun w' s3 I3 rw'=>⟨v,H2,I3,rw',q2⟩⟩
theorem jVA (hu:X.A.units+1<cLine)(hi:PE X i ty)(ho:PE X o td):PC X .In i o (tDIn ty td):=by
 intro ad s σ H Q I h
 refine lI (hi ad s σ H _ I h) fun iv s1 ⟨y,H1,I1,ry,q1⟩=>lI (ho ad s1 σ H1 _ I1 q1) fun u s2 ⟨x,H2,I2,rx,a,ov,ex,g,q2⟩=>?_
 subst ex
 obtain rfl:u=Value.ref a:=rx
 exact d_in hu I2 g ry fun s3 I3=>⟨.bl ov.isSome,H2,I3,rfl,q2⟩
theorem jMB (hu:X.A.units+1<cLine)(hi:PE X i ty)(ho:PE X o td):PC X .NotIn i o (jLC ty td):=by
 intro ad s σ H Q I h
 refine lI (hi ad s σ H _ I h) fun iv s1 ⟨y,H1,I1,ry,q1⟩=>lI (ho ad s1 σ H1 _ I1 q1) fun u s2 ⟨x,H2,I2,rx,a,ov,ex,g,q2⟩=>?_
 subst ex
 obtain rfl:u=Value.ref a:=rx
 exact jTX hu I2 g ry fun s3 I3=>⟨.bl (!ov.isSome),H2,I3,rfl,q2⟩
theorem jSC (hu:X.A.units+1<cLine)(ho:PE X o td)(hi:PE X i ty)(hv:PE X value tv)(hs:swapsWith value (some (.Subscript o i pos')) pos.line X.env=pure false):
  PS X (.Assign [.Subscript o i pos'] value pos) (sDPut td ty tv):=by
 intro ad s σ H D I h
 refine wpAny_Assign_Subscript (lI (hv ad s σ H _ I h) fun r s1 ⟨v,H1,I1,rv,q1⟩=>lI (ho ad s1 σ H1 _ I1 q1) fun u s2 ⟨x,H2,I2,rx,q2⟩=>lI (hi ad s2 σ H2 _ I2 q2) fun iv s3 ⟨y,H3,I3,ry,a,H4,ex,g,q3⟩=>?_) hs
 subst ex
 obtain rfl:u=Value.ref a:=rx
 exact jOB hu I3 g ry rv fun s4 I4=>⟨σ,H4,I4,q3⟩
end
theorem jQJ {P:Program}{w:World}{H:Hp}(h:Heap)(hb:sysModules<h.objs.size):ObjOk P w H (h.push { cls:= .type "dict",data:= .dict #[]}) h.objs.size (.dK []):=
 ⟨bx _,cc.mpr (eG (bb hb)),[], .nil,Heap.DictOf.new h⟩
def jLA:List (TE×TE)->St->Hp->(List (V×V)->Hp->Prop)->Prop
 | [],_,H,Q=>Q [] H
 | (tk,tv)::r,σ,H,Q=>tk σ H fun x H1=>tv σ H1 fun y H2=>jLA r σ H2 fun ps H3=>Q ((x,y)::ps) H3
abbrev VV:List (V×V)->List (Value×Value)->Prop:=Paired fun p q=>RelV p.1 q.1/\RelV p.2 q.2
def PPs (X:Cx)(pos:Pos)(keys:List (Option Expr))(values:List Expr)(trs:List (TE×TE)):Prop:=
 ∀ (ad:List (Addr×Obj)) (s:Shared) (σ:St) (H:Hp) (Q:List (V×V)->Hp->Prop),Inv X ad σ H s->jLA trs σ H Q->
  wpAny (model X.prog X.w) X.A (evalPairs (pairTrees keys values X.env pos)) (fun vs s'=>∃ ps H',Inv X ad σ H' s'/\VV ps vs/\Q ps H') X.xe s
theorem jM3 {X:Cx}{pos:Pos} :PPs X pos [] [] []:=fun ad s σ H Q I h=>pairTrees_nil_walk ⟨[],H,I, .nil,h⟩
theorem jIZ {X:Cx}{pos:Pos}{k v:Expr}{ks:List (Option Expr)}{vs:List Expr}{tk tv:TE}{trs:List (TE×TE)}(hk:PE X k tk)(hv:PE X v tv)(hr:PPs X pos ks vs trs):
  PPs X pos (some k::ks) (v::vs) ((tk,tv)::trs):=fun ad s σ H Q I h=>
 pairTrees_cons_walk (lI (hk ad s σ H _ I h) fun u s1 ⟨x,H1,I1,rx,q1⟩=>lI (hv ad s1 σ H1 _ I1 q1) fun w2 s2 ⟨y,H2,I2,ry,q2⟩=>
  lI (hr ad s2 σ H2 _ I2 q2) fun ws s3 ⟨ps,H3,I3,rel,q3⟩=>⟨(x,y)::ps,H3,I3, .cons ⟨rx,ry⟩ rel,q3⟩)
def jGK (kvs more:List (Key×V)):List (Key×V):=more.foldl (fun acc kv=>putK acc kv.1 kv.2) kvs
theorem KV.merge:∀ {more:List (Key×V)}{rs:List (Key×Value)}{kvs:List (Key×V)}{vs:List (Key×Value)},KV more rs->KV kvs vs->KV (jGK kvs more) (merged vs rs):=by
 intro more rs kvs vs r
 unfold KV at r
 induction r generalizing kvs vs with
 | nil=>intro q; exact q
 | @cons p q ps qs h t ih=>
  intro r0
  have e:KV (putK kvs p.1 p.2) (stored vs q.1 q.2):=by
   have:=r0.put p.1 h.2
   rw[<- h.1]; exact this
  exact ih e
theorem jC0:∀ (more kvs:List (Key×V)),(jGK kvs more).length<=kvs.length+more.length
 | [],kvs=>by show kvs.length<=kvs.length+0; lia
 | p::r,kvs=>by
  have h1:=jC0 r (putK kvs p.1 p.2)
  have h2:=jBP kvs p.1 p.2
  show (jGK (putK kvs p.1 p.2) r).length<=_
  rw[aU]; lia
theorem jEO {P:Program}{w:World} :∀ {kvs:List (Key×V)}{ws:List (Value×Value)},VV (kvs.map fun kv=>(kV kv.1,kv.2)) ws->∃ rs,Carries (jX P w) ws rs/\KV kvs rs
 | [],_,r=>by rw[fD] at r; cases r; exact⟨[],True.intro, .nil⟩
 | p::kvs,_,r=>by
  rw[aY] at r
  cases r with
  | @cons a b as bs h t=>
   obtain⟨rs,c,q⟩:=jEO (P:=P) (w:=w) t
   obtain⟨b1,b2⟩:=b
   exact⟨(p.1,b2)::rs,⟨kV_is h.1,rfl,c⟩, .cons ⟨rfl,h.2⟩ q⟩
def tDisp (trs:List (TE×TE)):TE:=fun σ H Q=>∀ p,H p=none->jLA trs σ (upd H p (.dK [])) fun ps H2=>H2 p=some (.dK [])/\∃ kvs:List (Key×V),ps=kvs.map (fun kv=>(kV kv.1,kv.2))/\kvs.length<=15/\Q (.ref p) (upd H2 p (.dK (jGK [] kvs)))
theorem jM9 {X:Cx}{pos:Pos}{keys:List (Option Expr)}{values:List Expr}{trs:List (TE×TE)}(h:PPs X pos keys values trs)(hall:keys.all (·.isSome)=true)(hl:keys.length=values.length)(h0:keys≠ [])
  (h15:keys.length<=15):PE X (.Dict keys values pos) (tDisp trs):=by
 intro ad s σ H Q I q
 have hn:=I.hok.fresh (ar s.heap.objs.size)
 have I1:=I.laid (a:=s.heap.objs.size) (o:= .dK []) (h':=s.heap.push { cls:= .type "dict",data:= .dict #[]}) (t':=s.toks) (fun _ _ q=>ag _ q) (ar _) (jQJ s.heap I.big)
 refine wpAny_Dict_walk (knd:=jX X.prog X.w) hall hl h0 h15 (lI (h ad _ σ _ _ I1 (q _ hn)) fun ws s2 ⟨ps,H2,I2,rel,e,kvs,ep,lk,q2⟩=>?_)
 subst ep
 obtain⟨rs,c,rk⟩:=jEO (P:=X.prog) (w:=X.w) rel
 obtain⟨z,hd,vs0,r0,dd⟩:=dk_of I2.hok e
 cases r0
 refine⟨rs,c,dd,fun h' dd' hs=>⟨.ref s.heap.objs.size,_,?_,rfl,q2⟩⟩
 have hz:(jGK [] kvs).length<=sizeLine:=by
  have h1:=jC0 kvs []
  rw[dq] at h1
  rw[gh]; lia
 have he:∃ q,h'.get? s.heap.objs.size=some q:=let ⟨q,_,_,hq,_⟩:=dd'; ⟨q,hq⟩
 exact jE1 I2 (by rw[e]; exact True.intro) hs he (jRO hz hd (rk.merge .nil) dd')
structure M2 (X:Cx)(o:Expr)(m:Str)(apos:Pos)(e f:Expr)(cpos:Pos):Prop where
 base:attributeBase o m X.env (eval o X.env)=eval o X.env
 few:((backTo cpos (starEach [e,f] X.env)).all (fun x=>!x.1)&&(backToKw cpos (keywordEach [] X.env)).all (fun x=>x.1.isSome)
  &&decide (([e,f]:List Expr).length+([]:List Keyword).length+(if ([]:List Keyword).isEmpty then 0 else 1)<30))=true
 line:(apos.endLine==cpos.line)=true
 trees:backTo cpos (starEach [e,f] X.env)=[(false,eval e X.env),(false,eval f X.env)]
def IsD (H:Hp)(a:Addr):Prop:=(∃ kvs,Rd H a (.dK kvs))\/∃ kvs,Rd H a (.dT kvs)
theorem jNP {X:Cx}{ad:List (Addr×Obj)}{σ:St}{H:Hp}{s:Shared}{a:Addr}(I:Inv X ad σ H s)(d:IsD H a):
  s.TypeIs (.ref a) "dict" /\(∀ b,Value.ref a= .ref b->∃ ob,s.heap.get? b=some ob/\ob.dict=none)/\(a==sysModules)=false:=by
 rcases d with ⟨kvs,e⟩ | ⟨kvs,e⟩
 ·obtain⟨_,hd,vs,_,dd⟩:=dk_rd I.hok e
  refine⟨dd.typeIs,fun b q=>?_,hd⟩
  cases q
  obtain⟨ob,_,_,h1,h2,_⟩:=dd
  exact⟨ob,h1,h2.2.1⟩
 ·obtain⟨_,hd,xs,_,dd⟩:=dt_rd I.hok e
  refine⟨dd.typeIs,fun b q=>?_,hd⟩
  cases q
  obtain⟨ob,_,_,h1,h2,_⟩:=dd
  exact⟨ob,h1,h2.2.1⟩
section
variable {σ:St}{d:V}{o:Option V}
theorem jW8 {Q:Value->Shared->Prop}(hu:A.units+1<cLine)(I:Inv X ad σ H s)(g:DGet H a y o)(ry:RelV y u)(rd:RelV d r)(h:∀ w' s',Inv X ad σ H s'->RelV (o.getD d) w'->Q w' s'):
  wpAny (model X.prog X.w) A (call (.builtin "dict.get") [.ref a,u,r]) Q E s:=by
 rcases g with ⟨kvs,k,e,ey,l⟩ | ⟨kvs,k,b,e,ey,eb,l⟩
 ·subst ey
  obtain⟨z,hd,vs,rel,dd⟩:=dk_rd I.hok e
  refine jp gQ dd.typeIs jq (jd _ _ _) (meets_dict_get_default (jX X.prog X.w) a (kV_is ry) hd r) ⟨_,dd.mapOf,h _ _ (I.tok _) ?_⟩
  rw[l]
  exact(rel.val k).getD rd
 ·subst ey
  cases (show u=Value.ref b from ry)
  obtain⟨z,hd,xs,rel,dd⟩:=dt_rd I.hok e
  refine jp gQ dd.typeIs jq (jd _ _ _) (meetsH_dict_get_default (tupleKind (jX X.prog X.w)) a b hd r) ⟨fc hu,k,xs,jEK I.hok eb,dd,h _ _ (I.tok _) ?_⟩
  rw[l]
  exact(rel.val k).getD rd
end
def jR2 (td ty tx:TE):TE:=fun σ H Q=>td σ H fun x H1=>∃ a,x= .ref a/\IsD H1 a/\ty σ H1 fun y H2=>tx σ H2 fun z H3=>∃ o,DGet H3 a y o/\Q (o.getD z) H3
variable {apos:Pos}{tx:TE}
section
variable {f:Expr}{ty:TE}
theorem jPJ (hu:X.A.units+1<cLine)(ho:PE X o td)(he:PE X e ty)(hf:PE X f tx)(m:M2 X o "get" apos e f cpos):PE X (.Call (.Attribute o "get" apos) [e,f] [] cpos) (jR2 td ty tx):=by
 intro ad s σ H Q I h
 refine wpAny_Call_method m.base m.few m.line gq gQ PySem.F.type_dict_get (lI (ho ad s σ H _ I h) fun u s1 ⟨x,H1,I1,rx,a,ex,d,q1⟩=>?_)
 subst ex
 obtain rfl:u=Value.ref a:=rx
 obtain⟨t1,t2,_⟩:=jNP I1 d
 refine⟨t1,t2,?_⟩
 rw[m.trees]
 refine dR rfl (g9 (iC (lI (he ad s1 σ H1 _ I1 q1) fun iv s2 ⟨y,H2,I2,ry,q2⟩=>
  iC (lI (hf ad s2 σ H2 _ I2 q2) fun fv s3 ⟨z,H3,I3,rz,ov,g,q3⟩=>Calls.spliced_nil ?_))))
 exact jW8 hu I3 g ry rz fun w' s4 I4 rw'=>⟨_,H3,I4,rw',q3⟩
end
section
variable {σ:St}
end
section
variable {σ:St}
end
section
variable {κ:Type} [DecidableEq κ]
theorem jMN:∀ {l:List κ}{k:κ},l.Nodup->¬ k∈l->(l++[k]).Nodup
 | [],k,_,_=>by simp
 | a::r,k,h,hk=>by
  obtain⟨h1,h2⟩:=bF.mp h
  show (a::(r++[k])).Nodup
  refine bF.mpr ⟨fun m=>?_,jMN h2 fun m=>hk (aF.mpr (Or.inr m))⟩
  rcases aR.mp m with q | q
  ·exact h1 q
  ·exact hk (aF.mpr (Or.inl (aE.mp q).symm))
end
section
variable {d:Addr}{kvs:List (Key×Value)}
theorem jIC {T:String}{r d:Addr}{n:Nat}{P:Nat->Value->Prop}{OK:Heap->Prop}{R:List Value->Shared->Prop}(K:PySem.W.KdlSrc prog w T r d n P OK)(hh:A.handled=none)(hok:OK s.heap)(hn:n<=sizeLine)
  (h:∀ (h':Heap) (tk:Nat) (acc:Array Value),(∀ b o,s.heap.get? b=some o->h'.get? b=some o)->s.heap.objs.size<h'.objs.size->ItemsOf P acc n->R acc.toList { s with heap:=h',toks:=tk}):
  wpAny (model prog w) A (collect (.ref r)) R E s:=by
 have hlt:=K.there _ hok
 unfold collect
 refine aa (km (cL entry_proto_collect' ?_))
 rw[ci ir _]
 show wpAny _ A.in1 (newList [] >>= fun l=>again (.builtin "list.__iadd__" ⟨[l, .ref r],[]⟩)) _ _ s
 refine aa (cU ?_)
 refine ao ⟨dS eV _,cL entry_list_iadd' ?_⟩
 rw[ci eV _]
 have hS:(s.heap.push { cls:= .type "list",data:= .seq ([]:List Value).toArray}).get? s.heap.objs.size=some { cls:= .type "list",data:= .seq #[]} :=aB _ rfl
 show wpAny _ A.in1 (Builtin.List.listExtendWith (.ref s.heap.objs.size) (.ref r) (.ref s.heap.objs.size)) _ _ _
 refine cA (PySem.W.kdl_extend (A:=A) (s:= { s with heap:=s.heap.push { cls:= .type "list",data:= .seq ([]:List Value).toArray}})
  (R:=fun (q:Result) (s':Shared)=>∃ (h':Heap) (tk:Nat) (acc:Array Value) (c:Nat),q= .ok (.ret (.ref s.heap.objs.size))/\s'= { s with heap:=h',toks:=tk} /\
   (∀ b o,s.heap.get? b=some o->h'.get? b=some o)/\h'.get? s.heap.objs.size=some { cls:= .type "list",dict:=none,data:= .seq acc c,slots:=#[]} /\ItemsOf P acc n)
  K hh (K.keep _ _ hok fun b _ o e=>ag _ e) s.heap.objs.size (eY hlt.1) (eY hlt.2) (.ref s.heap.objs.size) 0 hS
  (fun h' tk acc c hk hS' hacc=>⟨h',tk,acc,c,rfl,rfl,fun b o e=>hk b o (bb (aG e)) (ag _ e),hS',hacc⟩) hn) (fun fin s' x=>?_) fun e s' x=>?_
 ·cases fin with
  | done f=>
   obtain⟨h',tk,acc,c,e,rfl,hk,hS',hacc⟩:=x
   cases e
   show wpAny _ A (load s.heap.objs.size >>= _) _ _ _
   exact aa (iA hS' (ao (h h' tk acc hk (aG hS') hacc)))
  | again c1=>
   refine⟨x.1,eZ x.2 fun q s2 y=>?_⟩
   obtain⟨h',tk,acc,c,rfl,rfl,hk,hS',hacc⟩:=y
   show wpAny _ A (load s.heap.objs.size >>= _) _ _ _
   exact aa (iA hS' (ao (h h' tk acc hk (aG hS') hacc)))
 ·obtain⟨_,_,_,_,e',_⟩:=x
  cases e'
end
section
variable {i f:Expr}{ty:TE}
theorem jDU (hu:X.A.units+1<cLine)(ho:JE X o td)(hi:JE X i ty)(hs:jAX i):JE X (.Subscript o i pos) (tDGet td ty):=⟨jSN hu ho.h hi.h hs⟩
theorem jDT (hu:X.A.units+1<cLine)(ho:JE X o td)(hi:JE X i ty)(hv:JE X value tv)(hs:SwOk value (some (.Subscript o i pos'))):JS X (.Assign [.Subscript o i pos'] value pos) (sDPut td ty tv):=⟨jSC hu ho.h hi.h hv.h (hs.h _ _)⟩
theorem jQ7 (hu:X.A.units+1<cLine)(ho:JE X o td)(he:JE X e ty)(hf:JE X f tx)(s1:starEach [e,f] X.env=(false,eval e X.env)::starEach [f] X.env)(s2:starEach [f] X.env=(false,eval f X.env)::starEach [] X.env)
  (base:attributeBase o "get" X.env (eval o X.env)=eval o X.env:=by rfl)
  (few:((backTo cpos (starEach [e,f] X.env)).all (fun x=>!x.1)&&(backToKw cpos (keywordEach [] X.env)).all (fun x=>x.1.isSome)
   &&decide (([e,f]:List Expr).length+([]:List Keyword).length+(if ([]:List Keyword).isEmpty then 0 else 1)<30))=true:=by rfl)
  (line:(apos.endLine==cpos.line)=true:=by rfl) (trees:backTo cpos (starEach [e,f] X.env)=[(false,eval e X.env),(false,eval f X.env)]:=by rfl):
  JE X (.Call (.Attribute o "get" apos) [e,f] [] cpos) (jR2 td ty tx):=⟨jPJ hu ho.h he.h hf.h ⟨base,few,line,trees⟩⟩
end
section
variable {prog:Program}{w:World}{K:Type} [DecidableEq K]{knd:KeyKind prog w K}{A:Around}{R:Result->Shared->Prop}{I:Addr}{fp wr:List Addr}{n:Nat}{P:Nat->Value->Prop}{St:Nat->Shared->Prop}
end
section
variable {prog:Program}{w:World}{K:Type} [DecidableEq K]{knd:KeyKind prog w K}{A:Around}{E:Value->Shared->Prop}{s:Shared}
end
section
variable {K:W.Frag}{sc:Scope}
theorem gl_n (h:sc.names.lookup x=some .globalImplicit):Gl1 (cxN P w K mg base N qual sc f cd cl A outer s H) x:=⟨h⟩
theorem qJ (h:sc.names.lookup x=some .local:=by decide+kernel):Vis1 (cxN P w K mg base N qual sc f cd cl A outer s H) x:=⟨.inl h⟩
theorem jUB (h:sc.names.lookup x=some .free):Vis1 (cxN P w K mg base N qual sc f cd cl A outer s H) x:=⟨.inr (.inr h)⟩
theorem loc_n (h:sc.names.lookup x=some .local):Loc1 (cxN P w K mg base N qual sc f cd cl A outer s H) x:=⟨.inl h, .inr h⟩
end
theorem jVV {x:Str}{args:Arguments}{body:List Stmt}{scope:Scope}{pos:Pos}{c0 T:Addr}{j:Nat}(hN:X.N.Nodup)(hj:X.N[j]?=some x)(lx:Loc1 X x)(hcode:X.env.code= .ref c0)(CH:PySem.W.CodeHd X.base c0 T)(hbm:BltAt X.base X.mg)
  (hfree:∀ y∈scope.names,y.2= .free->X.env.scope.names.lookup y.1=some .cell\/X.env.scope.names.lookup y.1=some .free) (hdf:defaultsOf args X.env=([],[])) (han:annTrees args none X.env=[]):
  JS X (.FunctionDef x args body [] none [] scope none x pos) (tDef x (qualnameIn X.env x x) args body scope (jR X.env.cells scope.names []) T pos j):=⟨jUV hN hj lx.a hcode CH hbm hfree hdf han lx.b⟩
def AtS (tp:Bool)(H:Hp)(a:Addr)(xs:List V):Prop:=match tp with
 | false=>H a=some (.lst xs)
 | true=>H a=some (.tup xs)
theorem AtS.or {tp:Bool}{K:W.Frag}{H:Hp}{a:Addr}{xs:List V}(h:AtS tp H a xs):SqL K H a xs\/SqT K H a xs:=by
 cases tp with
 | false=>exact .inl (SqL.of h)
 | true=>exact .inr (SqT.of h)
def AtS.ob (tp:Bool)(xs:List V):HO:=match tp with
 | false=> .lst xs
 | true=> .tup xs
theorem AtS.is {tp:Bool}{H:Hp}{a:Addr}{xs:List V} :AtS tp H a xs↔H a=some (AtS.ob tp xs):=by cases tp <;> exact Iff.rfl
theorem AtS.ext {tp:Bool}{H H':Hp}{a:Addr}{xs:List V}(h:AtS tp H a xs)(e:Ext H H'):AtS tp H' a xs:=AtS.is.mpr (e _ _ (AtS.is.mp h))
theorem jVY {i o:Expr}{ty td:TE}{pos:Pos}(hu:X.A.units+1<cLine)(hi:JE X i ty)(ho:JE X o td)(h1:behindInMarks .In o=false):JT X (.Compare i [.In] [o] pos) (tB (tDIn ty td)):=⟨jR7 (jVA hu hi.h ho.h) h1⟩
section
variable {K:W.Frag}{σ:St}
theorem jH0 {a:Addr}{xs:List V}(hn:xs.length<sizeLine)(Pv:Addr->Nat->St->Hp->List V->Prop)(h0:∀ D,H1 D=none->Pv D 0 (blkσ m σ) (upd H1 D (.lst [])) [])
  (hD:∀ D i σ' H' zs,H1 D=none->Pv D i σ' H' zs->H' a=some (.lst xs)/\H' D=some (.lst zs)/\zs.length<=i)
  (hs:∀ D i σ' H' zs x,H1 D=none->xs[i]?=some x->Pv D i σ' H' zs->g x σ' H' fun σ2 H2=>tt σ2 H2 fun b H3=>if b=true then te σ2 H3 fun v H4=>H4 D=some (.lst zs)/\Pv D (i+1) σ2 (upd H4 D (.lst (zs++[v]))) (zs++[v]) else Pv D (i+1) σ2 H3 zs)
  (hd:∀ D σ' H' zs,H1 D=none->Pv D xs.length σ' H' zs->Q (.ref D) H'):qO m g tt te σ Q (Itl K a) H1:=by
 intro D hDn
 refine⟨fun i k σ' H' zs=>k=xs.length - i/\i<=xs.length/\Pv D i σ' H' zs,⟨_,rfl,bx _,h0 D hDn⟩,?_⟩
 rintro i k σ' H' zs ⟨rfl,hi,p⟩
 obtain⟨s1,q1,q2⟩:=hD D i σ' H' zs hDn p
 refine⟨q1,by lia,?_⟩
 by_cases hlt:i<xs.length
 ·refine .inr ⟨⟨xs,xs[i],SqL.of s1,by simp [hlt]⟩,Pv D (i+1),fun σ2 H2 zs z=>⟨xs.length - (i+1),by lia,rfl,hlt,z⟩,fun v H'' y=>?_⟩
  obtain⟨e1,e2⟩:=y
  subst e1
  exact hs D i σ' _ zs v hDn (e2 xs (SqL.of s1)) p
 ·have e:i=xs.length:=by lia
  subst e
  exact .inl ⟨⟨xs,SqL.of s1,ar _⟩,hd D σ' H' zs hDn p⟩
end
theorem ExtT.of {T:Addr}{H H':Hp}(e:Ext H H'):ExtT T H H':=fun b o h _=>e b o h
theorem ExtT.trans {T:Addr}{H H' H'':Hp}(a:ExtT T H H')(b:ExtT T H' H''):ExtT T H H'':=fun c o h n=>b c o (a c o h n) n
theorem TabOk.is {H:Hp}{T:Addr}{pos:Pos}{q:Str}(t:TabOk H T pos q):∃ ps,H T=some (.tbl ps):=by
 rcases t with h | ⟨c,h,_⟩
 ·exact⟨_,h⟩
 ·exact⟨_,h⟩
theorem TabOk.ne {H:Hp}{T:Addr}{pos:Pos}{q:Str}(t:TabOk H T pos q){b:Addr}{o:HO}(h:H b=some o)(ho:∀ ps,o≠ .tbl ps):b≠T:=fun e=>by
 obtain⟨ps,z⟩:=t.is
 rw[e,z] at h
 cases h
 exact ho ps rfl
theorem TabOk.ext {H H':Hp}{T:Addr}{pos:Pos}{q:Str}(t:TabOk H T pos q)(e:Ext H H'):TabOk H' T pos q:=by
 rcases t with h | ⟨c,h,h2⟩
 ·exact .inl (e _ _ h)
 ·exact .inr ⟨c,e _ _ h,e _ _ h2⟩
theorem ExtT.at {T:Addr}{H H':Hp}(e:ExtT T H H'){pos:Pos}{q:Str}(t:TabOk H T pos q){b:Addr}{o:HO}(h:H b=some o)(ho:∀ ps,o≠ .tbl ps:=by intro _ z; cases z):H' b=some o:=e b o h (t.ne h ho)
structure FunC (K:W.Frag)(x qual:Str)(st:Stmt)(f:Addr)(fd:FuncData)(c0:Addr):Prop where
 ex:∃ (oc:Value) (od:Option Addr) (kV doc pm:Value) (an:Option Addr) (ct:Value) (osl:Array (Option Value)),fd=PySem.W.fnOf x qual (yE st) (jD st) (j9 st) .none kV doc pm an (.ref c0) ct/\K.lookup f=some ⟨oc,od, .func fd,osl⟩/\PySem.W.codeIn K (.ref c0) qual=true
theorem FunC.ok {P:Program}{w:World}{K:W.Frag}{mg:Str->Option Value}{base:Heap}{x qual:Str}{st:Stmt}{f c0:Addr}{fd:FuncData}{N ps:List Str}{k:Nat}{sp:Sp}(F:FunC K x qual st f fd c0)(S:FnScope N ps (j9 st))(len:∀ vs H Q E,sp vs H Q E->vs.length=ps.length)
  (hbody:∀ (A:Around) (outer:List Env) (s:Shared) (H:Hp) (vs:List V) (Q:VK) (E:XK),Room k (A.deeper (envOfC qual (j9 st) s.heap.objs.size f (.ref c0)))->sp vs H Q E->
   ∃ t,PSs (cxOf CX0 P w K mg base N qual (j9 st) f (.ref c0) A outer s H E).nox (jD st) t/\t { nx:=fun _ H'=>Q .non H',rt:=Q} (kZ N vs) H):FnOk P w K mg base CX0 (k+1) f fd ps sp:=by
 obtain⟨oc,od,kV,doc,pm,an,ct,osl,rfl,lk,hcd⟩:=F.ex
 refine fn_of lk hcd S len fun A outer s H vs Q E hr hsp=>?_
 obtain⟨t,ht,hq⟩:=hbody A outer s H vs Q E hr hsp
 exact⟨t,ht.nox,hq⟩
variable {fp:List Addr}
section
variable {sc:Scope}
variable {sc2:Scope}{cl2:List (Str×Addr)}{C2:Addr}{Nc2:List Str}{fp2:List Addr}{s2:Shared}{H2:Hp}
end
theorem jRG {X:Cx}{st:Stmt} :JS X st (fun _ _ _=>False):=⟨fun _ _ _ _ _ _ h=>h.elim⟩
section
variable {K:W.Frag}{σ:St}
abbrev TupsK (H H':Hp):Prop:=∀ b xs,H b=some (.tup xs)->H' b=some (.tup xs)
structure ZOk (Z:Hp->List V->Nat->Prop):Prop where
 z0:∀ H,Z H [] 0
 mono:∀ H H' zs j,TupsK H H'->Z H zs j->Z H' zs j
 len:∀ H zs j,Z H zs j->zs.length<=j
theorem jG2 {H:Hp}{D:Addr}{zs:List V}(h:H D=some (.lst zs))(o:HO):TupsK H (upd H D o):=fun b xs hb=>by
 rw[j8 (fun e=>by rw[e,h] at hb; cases hb)]
 exact hb
def TurnZ (g:TG)(tt:TT)(te:TE)(σP:St->Prop)(Z:Hp->List V->Nat->Prop)(x:V)(j:Nat)(σ':St)(H':Hp)(zs:List V):Prop:=
 ∀ (R:St->V->Hp->Prop) (S:St->Hp->Prop),(∀ σ2 v H2,σP σ2->Ext H' H2->Z H2 (zs++[v]) (j+1)->R σ2 v H2)->(∀ σ2 H2,σP σ2->Ext H' H2->Z H2 zs (j+1)->S σ2 H2)->
  g x σ' H' fun σ2 H2=>tt σ2 H2 fun b H3=>if b=true then te σ2 H3 (R σ2) else S σ2 H3
theorem jOF {tp:Bool}{a:Addr}{xs:List V}(σP:St->Prop)(Z:Hp->List V->Nat->Prop)(zo:ZOk Z)(ha:AtS tp H a xs)(hn:xs.length<sizeLine)(h0:σP (blkσ m σ))
  (step:∀ j x σ' H' zs,xs[j]?=some x->σP σ'->Ext H H'->Z H' zs j->TurnZ g tt te σP Z x j σ' H' zs)
  (hd:∀ D H' zs,H' D=some (.lst zs)->Ext H H'->H D=none->Z H' zs xs.length->Q (.ref D) H'):qO m g tt te σ Q (match tp with | false=>Itl K a | true=>Itt K a) H:=by
 have turn:∀ D j σ' H' zs x,H D=none->xs[j]?=some x->(σP σ'/\Ext H H'/\H' D=some (.lst zs)/\H D=none/\Z H' zs j)->g x σ' H' fun σ2 H2=>tt σ2 H2 fun b H3=>if b=true then te σ2 H3 fun v H4=>H4 D=some (.lst zs)/\(σP σ2/\Ext H (upd H4 D (.lst (zs++[v])))/\(upd H4 D (.lst (zs++[v]))) D=some (.lst (zs++[v]))/\H D=none/\Z (upd H4 D (.lst (zs++[v]))) (zs++[v]) (j+1)) else (σP σ2/\Ext H H3/\H3 D=some (.lst zs)/\H D=none/\Z H3 zs (j+1)):=by
  rintro D j σ' H' zs x hD hx ⟨p,e,h2,hn,hz⟩
  exact step j x σ' H' zs hx p e hz _ _ (fun σ2 v H2 p2 e2 z2=>⟨e2 _ _ h2,p2,(e.trans e2).updNew hn _,j6,hn,zo.mono _ _ _ _ (jG2 (e2 _ _ h2) _) z2⟩) fun σ2 H2 p2 e2 z2=>⟨p2,e.trans e2,e2 _ _ h2,hn,z2⟩
 cases tp with
 | false=>exact jH0 (xs:=xs) hn (fun D j σ' H' zs=>σP σ'/\Ext H H'/\H' D=some (.lst zs)/\H D=none/\Z H' zs j) (fun D hD=>⟨h0,(Ext.refl _).new hD _,j6,hD,zo.z0 _⟩) (fun D j σ' H' zs hD ⟨_,e,h2,_,hz⟩=>⟨e _ _ ha,h2,zo.len _ _ _ hz⟩) turn fun D σ' H' zs hD ⟨_,e,h2,hn,hz⟩=>hd D H' zs h2 e hn hz
 | true=>exact jDD (xs:=xs) hn (fun D j σ' H' zs=>σP σ'/\Ext H H'/\H' D=some (.lst zs)/\H D=none/\Z H' zs j) (fun D hD=>⟨h0,(Ext.refl _).new hD _,j6,hD,zo.z0 _⟩) (fun D j σ' H' zs hD ⟨_,e,h2,_,hz⟩=>⟨e _ _ ha,h2,zo.len _ _ _ hz⟩) turn fun D σ' H' zs hD ⟨_,e,h2,hn,hz⟩=>hd D H' zs h2 e hn hz
theorem jC5 {a:Addr}{xs:List V}(σP:St->Prop)(Z:Hp->List V->Nat->Prop)(zo:ZOk Z)(ha:H a=some (.tup xs))(hn:xs.length<sizeLine)(h0:σP (blkσ m σ))
  (step:∀ j x σ' H' zs,xs[j]?=some x->σP σ'->Ext H H'->Z H' zs j->TurnZ g tt te σP Z x j σ' H' zs)
  (hd:∀ D H' zs,H' D=some (.lst zs)->Ext H H'->H D=none->Z H' zs xs.length->Q (.ref D) H'):qO m g tt te σ Q (Itt K a) H:=jOF (tp:=true) σP Z zo ha hn h0 step hd
theorem jAW {a:Addr}{xs:List V}(σP:St->Prop)(Z:Hp->List V->Nat->Prop)(zo:ZOk Z)(ha:H a=some (.lst xs))(hn:xs.length<sizeLine)(h0:σP (blkσ m σ))
  (step:∀ j x σ' H' zs,xs[j]?=some x->σP σ'->Ext H H'->Z H' zs j->TurnZ g tt te σP Z x j σ' H' zs)
  (hd:∀ D H' zs,H' D=some (.lst zs)->Ext H H'->H D=none->Z H' zs xs.length->Q (.ref D) H'):qO m g tt te σ Q (Itl K a) H:=jOF (tp:=false) σP Z zo ha hn h0 step hd
theorem jFQ {n:Nat}(σP:St->Prop)(Z:Hp->List V->Nat->Prop)(zo:ZOk Z)(hn:n<sizeLine)(h0:σP (blkσ m σ))
  (step:∀ j σ' H' zs,j<n->σP σ'->Ext H H'->Z H' zs j->TurnZ g tt te σP Z (.int (0+j)) j σ' H' zs)
  (hd:∀ D H' zs,H' D=some (.lst zs)->Ext H H'->H D=none->Z H' zs n->Q (.ref D) H'):qO m g tt te σ Q (Itr 0 n) H:=by
 refine jBF (lo:=0) (n:=n) hn (fun D j σ' H' zs=>σP σ'/\Ext H H'/\H' D=some (.lst zs)/\H D=none/\Z H' zs j) (fun D hD=>⟨h0,(Ext.refl _).new hD _,j6,hD,zo.z0 _⟩) (fun D j σ' H' zs hD hj ⟨_,e,h2,_,hz⟩=>⟨h2,zo.len _ _ _ hz⟩) ?_ fun D σ' H' zs hD ⟨_,e,h2,hn,hz⟩=>hd D H' zs h2 e hn hz
 rintro D j σ' H' zs hD hj ⟨p,e,h2,hn,hz⟩
 exact step j σ' H' zs hj p e hz _ _ (fun σ2 v H2 p2 e2 z2=>⟨e2 _ _ h2,p2,(e.trans e2).updNew hn _,j6,hn,zo.mono _ _ _ _ (jG2 (e2 _ _ h2) _) z2⟩) fun σ2 H2 p2 e2 z2=>⟨p2,e.trans e2,e2 _ _ h2,hn,z2⟩
end
def outZ {α:Type}(l:List α)(p:α->Bool)(f:α->V):Hp->List V->Nat->Prop:=fun _ zs j=>zs=((l.take j).filter p).map f
theorem outZ.ok {α:Type}(l:List α)(p:α->Bool)(f:α->V):ZOk (outZ l p f):=⟨fun _=>rfl,fun _ _ _ _ _ h=>h,fun _ zs j h=>by
 rw[show zs=_ from h,ab]
 exact bM (bJ _ _) (bY _ _)⟩
theorem outZ.yes {α:Type}{l:List α}{p:α->Bool}{f:α->V}{H H':Hp}{zs:List V}{j:Nat}{x:α}(h:outZ l p f H zs j)(hx:l[j]?=some x)(hp:p x=true):outZ l p f H' (zs++[f x]) (j+1):=by
 show _=_
 rw[bf,hx,bV,aP,<- show zs=_ from h]
 simp [hp]
theorem outZ.no {α:Type}{l:List α}{p:α->Bool}{f:α->V}{H H':Hp}{zs:List V}{j:Nat}{x:α}(h:outZ l p f H zs j)(hx:l[j]?=some x)(hp:p x=false):outZ l p f H' zs (j+1):=by
 show _=_
 rw[bf,hx,bV,aP,<- show zs=_ from h]
 simp [hp]
theorem outZ.all {α:Type}{l:List α}{p:α->Bool}{f:α->V}{H:Hp}{zs:List V}{n:Nat}(h:outZ l p f H zs n)(hn:l.length<=n):zs=(l.filter p).map f:=by
 rw[show zs=_ from h,bK hn]
def mapZ {α:Type}(l:List α)(f:α->V):Hp->List V->Nat->Prop:=fun _ zs j=>zs=(l.take j).map f
theorem mapZ.ok {α:Type}(l:List α)(f:α->V):ZOk (mapZ l f):=⟨fun _=>rfl,fun _ _ _ _ _ h=>h,fun _ zs j h=>by
 rw[show zs=_ from h,ab]
 exact bY _ _⟩
theorem mapZ.yes {α:Type}{l:List α}{f:α->V}{H H':Hp}{zs:List V}{j:Nat}{x:α}(h:mapZ l f H zs j)(hx:l[j]?=some x):mapZ l f H' (zs++[f x]) (j+1):=by
 show _=_
 rw[bf,hx,aP,<- show zs=_ from h]
 rfl
theorem mapZ.all {α:Type}{l:List α}{f:α->V}{H:Hp}{zs:List V}{n:Nat}(h:mapZ l f H zs n)(hn:l.length<=n):zs=l.map f:=by
 rw[show zs=_ from h,bK hn]
theorem int_at {l:List Int}{j:Nat}{x:V}(h:(l.map V.int)[j]?=some x):∃ z:Int,l[j]?=some z/\x=V.int z:=by
 rw[aA] at h
 cases hq:l[j]? with
 | none=>rw[hq] at h; cases h
 | some z=>rw[hq] at h; cases h; exact⟨z,rfl,rfl⟩
theorem jTI {X:Cx}{e:Expr}{te:TE}{x:Str}{pos:Pos}{i:Nat}{pos':Pos}(hN:X.N.Nodup)(hi:X.N[i]?=some x)(hx:Loc1 X x)(he:JE X e te)(hs:swapsWith e (some (.Name x pos')) pos.line X.env=pure false):JS X (.Assign [.Name x pos'] e pos) (tAsg te (kU i)):=⟨qD hN hi hx.a he.h hs hx.b⟩
section
variable {sc:Scope}
end
section
variable {st:Stmt}{sts:List Stmt}{t:TS}
end
end L2
namespace L2
open PySem
end L2
namespace L2
open PySem PySem.Spec PyProof.Rows
section
variable {m:List (Option Nat)}{g:TG}{tt:TT}{te:TE}{σ:St}{H1:Hp}{Q:VK}
end
open PySem.AutoSeq1 (wpAny_loadPart')
variable {w:World}{s:Shared}
section
variable {prog:Program}{A:Around}{E:Value->Shared->Prop}
end
variable {X:Cx}
section
variable {sc:Scope}{cl:List (Str×Addr)}{C:Addr}{Nc:List Str}{fp:List Addr}{H:Hp}
end
structure FnZ (P:Program)(w:World)(K:W.Frag)(mg:Str->Option Value)(base:Heap)(CX:CXT)(Z:Shared->Hp->Prop)(k:Nat)(f:Addr)(fd:FuncData)(ps:List Str)(sp:Sp):Prop where
 len:∀ vs H Q E,sp vs H Q E->vs.length=ps.length
 run:∀ (A:Around) (outer:List Env) (s:Shared) (H:Hp) (args:Args) (us:List Value) (vs:List V) (Q:VK) (E:XK),Room k A->Env0 P w K mg base A outer s H->BindsTo s fd args (ps.zip us)->Vals vs us->Z s H->sp vs H Q E->
  codeAny (model P w) A (.call (.ref f) args) (CR CX outer P w H s Q E) s
theorem jW4 {Z:Shared->Hp->Prop}{CX:CXT}{P:Program}{w:World}{K:W.Frag}{mg:Str->Option Value}{base:Heap}{k:Nat}{f:Addr}{name qual:Str}{params:Arguments}{body:List Stmt}{scope:Scope}{dV kV doc pm cdv ct oc:Value}{an od:Option Addr}
  {osl:Array (Option Value)}{N ps:List Str}{sp:Sp}(lk:K.lookup f=some ⟨oc,od, .func (PySem.W.fnOf name qual params body scope dV kV doc pm an cdv ct),osl⟩) (hcd:PySem.W.codeIn K cdv qual=true) (S:FnScope N ps scope)
  (len:∀ vs H Q E,sp vs H Q E->vs.length=ps.length)
  (hbody:∀ (A:Around) (outer:List Env) (s:Shared) (H:Hp) (vs:List V) (Q:VK) (E:XK),Room k (A.deeper (envOfC qual scope s.heap.objs.size f cdv))->Z s H->sp vs H Q E->
   ∃ t,PSs (cxOf CX P w K mg base N qual scope f cdv A outer s H E) body t/\t { nx:=fun _ H'=>Q .non H',rt:=Q} (kZ N vs) H):
  FnZ P w K mg base CX Z (k+1) f (PySem.W.fnOf name qual params body scope dV kV doc pm an cdv ct) ps sp:=by
 refine⟨len,fun A outer s H args us vs Q E hr e0 hb r hz hsp=>?_⟩
 have hl:=len _ _ _ _ hsp
 have KX:K.In s.heap:=e0.mod.kin.keeps fun b o e=>(e0.bs b o e).1
 have lim:s.heap.NoLimit:=e0.mod.nolimit.keeps fun b o e=>(e0.bs b o e).1
 have hkind:∀ y∈ps.zip us,scope.names.lookup y.1=some .local\/(scope.names.lookup y.1=some .cell/\((cellsFrom (s.heap.objs.size+1) scope.names []).lookup y.1).isSome=true):=fun ⟨n,v⟩ hy=>by
  rcases S.par n (eE hy).1 with q | q
  ·exact .inl q
  ·exact .inr ⟨q,gu _ _ _ (.inl q)⟩
 refine codeAny_call_function hr.depth (KX _ _ lk) rfl S.co S.gen rfl (lv KX hcd) (hb _ _ _ _ ?_)
 refine iE S.kind hkind fun env he s1 x=>?_
 subst he
 refine⟨lim.keeps x.toInCall.keep,codeAny_func ?_⟩
 obtain⟨t,ht,hq⟩:=hbody A outer s H vs Q E (hr.deeper _) hz hsp
 have I:Inv (cxOf CX P w K mg base N qual scope f cdv A outer s H E) [] (kZ N vs) H s1:=jGS S hr.hd e0 hl r x
 refine cA (ht [] s1 (kZ N vs) H _ I hq) (fun fl s' hs=>?_) fun e s' hs=>hs
 have fin:∀ {σ':St}{H':Hp}{v:V}{u:Value},Inv (cxOf CX P w K mg base N qual scope f cdv A outer s H E) [] σ' H' s'->RelV v u->Q v H'->CE outer P w H s Q u s':=
  fun {σ' H' v u} J rv q=>⟨v,H',J.os,J.bare,J.base,J.hok,rv,q⟩
 cases fl with
 | ret u=>
  obtain⟨v,σ',H',J,rv,q⟩:=hs
  exact fin J rv q
 | next=>
  obtain⟨σ',H',J,q⟩:=hs
  exact fin (v:=V.non) (u:=Value.none) J rfl q
 | brk=>
  obtain⟨_,_,_,q⟩:=hs
  exact False.elim q
 | cont=>
  obtain⟨_,_,_,q⟩:=hs
  exact False.elim q
def ZSt (Z:Shared->Hp->Prop):Prop:=∀ (fs:List Addr) (s s':Shared) (H H':Hp),Un fs [] H H' s.heap s'.heap->Z s H->Z s' H'
abbrev ZT:Shared->Hp->Prop:=fun _ _=>True
theorem ZT.st:ZSt ZT:=fun _ _ _ _ _ _ _=>trivial
theorem FnZ.ok {P:Program}{w:World}{K:W.Frag}{mg:Str->Option Value}{base:Heap}{CX:CXT}{k:Nat}{f:Addr}{fd:FuncData}{ps:List Str}{sp:Sp}(F:FnZ P w K mg base CX ZT k f fd ps sp):FnOk P w K mg base CX k f fd ps sp:=
 ⟨F.len,fun A outer s H args us vs Q E hr he hb hv hs=>F.run A outer s H args us vs Q E hr he hb hv trivial hs⟩
section
variable {P:Program}{K:W.Frag}{mg:Str->Option Value}{base:Heap}
theorem Fun.okZ {Z:Shared->Hp->Prop}{x qual:Str}{st:Stmt}{f:Addr}{fd:FuncData}{N ps:List Str}{k:Nat}{sp:Sp}(F:Fun K x qual st f fd)(S:FnScope N ps (j9 st))(len:∀ vs H Q E,sp vs H Q E->vs.length=ps.length)
  (hbody:∀ (cdv:Value) (A:Around) (outer:List Env) (s:Shared) (H:Hp) (vs:List V) (Q:VK) (E:XK),Room k (A.deeper (envOfC qual (j9 st) s.heap.objs.size f cdv))->Z s H->sp vs H Q E->
   ∃ t,PSs (cxOf CX0 P w K mg base N qual (j9 st) f cdv A outer s H E).nox (jD st) t/\t { nx:=fun _ H'=>Q .non H',rt:=Q} (kZ N vs) H):FnZ P w K mg base CX0 Z (k+1) f fd ps sp:=by
 obtain⟨_,_,_,_,_,_,cdv,_,_,rfl,lk,hcd⟩:=F.ex
 refine jW4 lk hcd S len fun A outer s H vs Q E hr hz hsp=>?_
 obtain⟨t,h,q⟩:=hbody cdv A outer s H vs Q E hr hz hsp
 exact⟨t,h.nox,q⟩
end
structure Callee (P:Program)(w:World)(K:W.Frag)(mg:Str->Option Value)(base:Heap)(Z:Shared->Hp->Prop)(zh:Hp->Prop)(k:Nat)(a:Addr)(sp:Sp):Prop where
 fn:∀ (A:Around) (outer:List Env) (s:Shared) (H:Hp),Env0 P w K mg base A outer s H->zh H->PySem.W.FnAt a s.heap
 run:∀ (A:Around) (outer:List Env) (s:Shared) (H:Hp) (us:List Value) (vs:List V) (Q:VK) (E:XK),Room k A->Env0 P w K mg base A outer s H->Z s H->zh H->Vals vs us->sp vs H Q E->codeAny (model P w) A (.call (.ref a) ⟨us,[]⟩) (CR CX0 outer P w H s Q E) s
theorem Callee.of {P:Program}{w:World}{K:W.Frag}{mg:Str->Option Value}{base:Heap}{x q:Str}{st:Stmt}{k:Nat}{f:Addr}{fd:FuncData}{ps:List Str}{sp:Sp}(F:Fun K x q st f fd)(G:FnOk P w K mg base CX0 k f fd ps sp)(hb:Binds K fd ps []):Callee P w K mg base ZT (fun _=>True) k f sp:=by
 refine⟨fun A outer s H e _=>?_,fun A outer s H us vs Q E hr e _ _ r hs=>?_⟩
 ·obtain⟨oc,od,_,_,_,_,_,_,osl,_,lk,_⟩:=F.ex
  exact⟨_,_,_,_,(e.mod.kin.keeps fun b o z=>(e.bs b o z).1) _ _ lk⟩
 ·have hl:(us++[]).length=ps.length:=by rw[bq,<- r.length]; exact G.len _ _ _ _ hs
  have b:=hb s us (e.mod.kin.keeps fun b o z=>(e.bs b o z).1) hl
  rw[bq] at b
  exact G.run A outer s H ⟨us,[]⟩ us vs Q E hr e b r hs
def jUG (a:Addr)(zh:Hp->Prop)(sp:Sp)(j:Nat)(t:TA):TE:=fun σ H Q=>σ[j]?=some (some (.ref a))/\t σ H fun vs H1=>zh H1/\sp vs H1 Q E0
section
variable {Z:Shared->Hp->Prop}{zh:Hp->Prop}{k:Nat}{a:Addr}{sp:Sp}{x:Str}{p pos:Pos}{e:Expr}{es:List Expr}{t:TA}{j:Nat}
theorem jQ9 (F:Callee X.prog X.w X.K X.mg X.base Z zh k a sp)(hr:Room k X.A)(st:ZSt Z)(hz:Z X.s₀ X.H₀)(hex:X.ex=[])(hN:X.N[j]?=some x)(hv:Vis1 X x)
  (ha:JA X (e::es) t) (he:starEach (e::es) X.env=(false,eval e X.env)::starEach es X.env) (hdb:(x==("__debug__" :Str))=false:=by decide) (hcd:(x==("__classdict__" :Str))=false:=by decide) (hpl:(backTo pos (starEach es X.env)).any (·.1)=false:=by rfl):
  JE X (.Call (.Name x p) (e::es) [] pos) (jUG a zh sp j t):=by
 refine⟨fun ad s σ H Q I h=>?_⟩
 obtain⟨hj,h⟩:=h
 refine dX (lI (jM8 (pos:=p) hN hv.a hdb hcd ad s σ H (fun v H'=>v= .ref a/\H'=H) I ⟨_,hj,rfl,rfl⟩) fun v s1 ⟨v',H1,I1,r1,q1,q2⟩=>?_)
 subst q1 q2
 cases (show v=Value.ref a from r1)
 have hX:=lI (ha.h pos ad s1 σ H1 _ I1 h) fun us s2 (z:AP X ad σ _ us s2)=>show PySem.W.FnAt a s2.heap/\wpAny (model X.prog X.w) X.A (call (.ref a) ([]++us)) (EP X ad σ Q) X.xe s2 from by
  obtain⟨vs,H2,I2,r,h1,h2⟩:=z
  have un:=I2.base
  rw[hex] at un
  refine⟨F.fn _ _ _ _ I2.env0 h1,jl (eZ (F.run X.A X.stack s2 H2 us vs Q E0 hr I2.env0 (st _ _ _ _ _ un hz) h1 r h2) fun r s' hq=>?_)⟩
  cases r with
  | error e=>exact hq.elim
  | ok fl=>
   cases fl with
   | ret u=>exact I2.after hq
   | next=>exact False.elim hq
   | brk=>exact False.elim hq
   | cont=>exact False.elim hq
 rw[he] at hX ⊢
 exact PySem.W.callWith_of (by show ((false || (backTo pos (starEach es X.env)).any (·.1)) || false)=false; rw[hpl]; rfl) PySem.W.keeps_F (g9 hX)
end
def nlP (q:Str)(args:Arguments)(body:Expr)(scope:Scope)(cl:List (Str×Addr))(a c:Addr):Heap->Prop:=fun h=>∃ pm ctv,h.get? a=some (kla_obj "<lambda>" q args body scope cl pm c ctv)
theorem nlP.stay {q:Str}{args:Arguments}{body:Expr}{scope:Scope}{cl:List (Str×Addr)}{a c:Addr}(h1 h2:Heap)(p:nlP q args body scope cl a c h1)(k:∀ o,h1.get? a=some o->h2.get? a=some o):nlP q args body scope cl a c h2:=by
 obtain⟨m,t,e⟩:=p
 exact⟨m,t,k _ e⟩
def tLam (q:Str)(args:Arguments)(body:Expr)(scope:Scope)(cl:List (Str×Addr))(T:Addr)(pos:Pos):TE:=fun _ H Q=>TabOk H T pos q/\∀ a c H',H' a=some (.ext (nlP q args body scope cl a c))->H' c=some (.ext (ncP q c))->H' T=some (.tbl (onePs pos c))->ExtT T H H'->H a=none->Q (.ref a) H'
theorem jVX {X:Cx}{args:Arguments}{body:Expr}{scope:Scope}{pos:Pos}{c0 T:Addr}(hcode:X.env.code= .ref c0)(CH:PySem.W.CodeHd X.base c0 T)(hbm:BltAt X.base X.mg)
  (hfree:∀ y∈scope.names,y.2= .free->X.env.scope.names.lookup y.1=some .cell\/X.env.scope.names.lookup y.1=some .free) (hdf:defaultsOf args X.env=([],[])):
  JE X (.Lambda args body scope pos) (tLam (X.env.qual++ "<lambda>") args body scope (jR X.env.cells scope.names []) T pos):=by
 refine⟨fun ad s σ H Q I h=>?_⟩
 obtain⟨tab,h⟩:=h
 refine PySem.W.kla_eval hdf ?_
 have hcl:closureFor scope X.env=pure (jR X.env.cells scope.names []):=jIE fun y hy hz=>I.ok.has y.1 (hfree y hy hz)
 have hg:s.heap.Ns mainGlobals X.mg:=I.mod.glob.keeps I.bk
 have C:=CH.keeps I.bk
 have gT:∀ {ps:Array Value},H T=some (.tbl ps)->mainGlobals≠T:=fun hT z=>by
  obtain⟨o,es,ep,e,_⟩:=I.mod.glob
  have:=(I.bs _ _ e).2
  rw[z,hT] at this
  cases this
 have bT:∀ {ps:Array Value},H T=some (.tbl ps)->s.heap.BuiltinsAt X.mg T:=fun hT=>by
  obtain⟨bm,o,h1,h2,h3,h4,h5,h6,h7⟩:=hbm
  refine⟨bm,o,h1,h2,h3,fun z=>?_,(I.bs _ _ h4).1,h5,h6,h7⟩
  have:=(I.bs _ _ h4).2
  rw[z,hT] at this
  cases this
 rcases tab with hT | ⟨c,hT,hc⟩
 ·refine PySem.W.kla_makeFunction hcl I.ok.glob hg hcode C (I.hok T _ hT) trivial rfl (gT hT) (bT hT) fun c ctv h' tk k1 k2 k3 k4 k5=>?_
  obtain⟨oc,hoc⟩:=ncP.is (q:=X.env.qual++ "<lambda>") k4
  have I1:Inv X ad σ (upd (upd H T (.tbl (#[]++onePs pos c))) c (.ext (ncP (X.env.qual++ "<lambda>") c))) { s with heap:=h',toks:=tk} :=I.grown hT k1 k5 k2 k4 ⟨oc,hoc⟩ ncP.stay
  have I2:=I1.laidX (t':=tk) (a:=h'.objs.size) (φ:=nlP (X.env.qual++ "<lambda>") args body scope (jR X.env.cells scope.names []) h'.objs.size c) (h':=h'.push (kla_obj "<lambda>" (X.env.qual++ "<lambda>") args body scope (jR X.env.cells scope.names []) ((X.mg "__name__").getD .none) c ctv)) (fun b u q=>ag _ q) (ar _) ⟨_,ctv,aB _ rfl⟩ ⟨_,aB _ rfl⟩ nlP.stay
  have hcn:H c=none:=I.hok.fresh k2
  have han:H h'.objs.size=none:=I.hok.fresh (bM k2 (dh k3))
  have ca:c≠h'.objs.size:=bb k3
  have Tc:T≠c:=fun z=>by rw[z,hcn] at hT; cases hT
  have Ta:T≠h'.objs.size:=fun z=>by rw[z,han] at hT; cases hT
  refine⟨.ref _,_,I2,rfl,h _ c _ j6 (by rw[j8 ca,j6]) (by rw[j8 Ta,j8 Tc,j6,lw]) (fun b o e n=>?_) han⟩
  rw[j8 (jA e han),j8 (jA e hcn),j8 n]
  exact e
 ·refine PySem.W.kla_makeFunctionHit (cv:= .ref c) hcl I.ok.glob hg hcode C (I.hok T _ hT) (by exact trivial) (by simp [codeAmong,rawInt]) (bT hT) fun ctv h' tk k1 k2=>?_
  have I2:=I.laidX (t':=tk) (a:=h'.objs.size) (φ:=nlP (X.env.qual++ "<lambda>") args body scope (jR X.env.cells scope.names []) h'.objs.size c) (h':=h'.push (kla_obj "<lambda>" (X.env.qual++ "<lambda>") args body scope (jR X.env.cells scope.names []) ((X.mg "__name__").getD .none) c ctv)) (fun b u q=>ag _ (k1 b u q)) k2 ⟨_,ctv,aB _ rfl⟩ ⟨_,aB _ rfl⟩ nlP.stay
  have han:H h'.objs.size=none:=I.hok.fresh k2
  refine⟨.ref _,_,I2,rfl,h _ c _ j6 (by rw[j8 (jA hc han)]; exact hc) (by rw[j8 (jA hT han)]; exact hT) (fun b o e n=>?_) han⟩
  rw[j8 (jA e han)]
  exact e
theorem jW6 {P:Program}{w:World}{K:W.Frag}{mg:Str->Option Value}{base:Heap}{k:Nat}{q:Str}{args:Arguments}{body:Expr}{scope:Scope}{N ps fs:List Str}{sp:Sp}{cl:List (Str×Addr)}{fv:List V}{a c:Addr}(S:NScope N ps fs scope)(len:∀ vs H Q E,sp vs H Q E->vs.length=ps.length)
  (hb:∀ pm ctv (us:List Value),us.length=ps.length->bindArgs (PySem.W.kla_fn "<lambda>" q args body scope cl pm (.ref c) ctv) ⟨us,[]⟩=pure (ps.zip us))
  (hbody:∀ (A:Around) (outer:List Env) (s:Shared) (H:Hp) (vs:List V) (Q:VK) (E:XK),Room k (A.deeper (envX q scope s.heap.objs.size a (.ref c) cl))->sp vs H Q E->
   ∃ t,PE (cxN P w K mg base N q scope a (.ref c) cl A outer s H) body t/\t (jBH N vs fv) H Q):
  Callee P w K mg base (fun s H=>ClOk cl s H/\FvOk fs fv cl s) (fun H=>H a=some (.ext (nlP q args body scope cl a c))/\H c=some (.ext (ncP q c))) (k+1) a sp:=by
 refine⟨fun A outer s H e z=>?_,fun A outer s H us vs Q E hr e0 hz zh r hsp=>?_⟩
 ·obtain⟨⟨m,t,g⟩,_,_⟩:=(show ObjOk P w H s.heap a (.ext _) from e.hok a _ z.1)
  exact⟨_,_,_,_,g⟩
 obtain⟨C,Fv⟩:=hz
 obtain⟨⟨pm,ctv,ho⟩,_,_⟩:=(show ObjOk P w H s.heap a (.ext _) from e0.hok a _ zh.1)
 obtain⟨hc,_,_⟩:=(show ObjOk P w H s.heap c (.ext _) from e0.hok c _ zh.2)
 have hl:us.length=ps.length:=r.length.symm.trans (len _ _ _ _ hsp)
 have lim:s.heap.NoLimit:=e0.mod.nolimit.keeps fun b o e=>(e0.bs b o e).1
 refine PySem.W.kla_callFunE hr.depth ho rfl S.co S.gen rfl hc ?_
 rw[hb pm ctv us hl]
 refine ao (wpAny_newFunctionEnv S.nocell (fun y hy=>S.par y.1 (eE hy).1) (fun h₁ hns hsb=>⟨lim.fresh _ hsb,?_⟩) S.kind)
 show codeAny _ _ (.expr body (envX q scope s.heap.objs.size a (.ref c) cl)) _ _
 have hk:∀ b o,s.heap.get? b=some o->h₁.get? b=some o:=fun b o e=>hsb.extBut b o (bb (aG e)) (ag _ e)
 obtain⟨t,ht,hq⟩:=hbody A outer s H vs Q E (hr.deeper _) hsp
 have I:Inv (cxN P w K mg base N q scope a (.ref c) cl A outer s H) [] (jBH N vs fv) H { s with heap:=h₁,toks:=s.toks+(ps.zip us).length} :=jEL S hr.hd e0 hl r C Fv hns hk
 refine PySem.W.kla_codeExpr (cA (ht [] _ (jBH N vs fv) H _ I hq) (fun u s' hs=>?_) fun e s' hs=>False.elim hs)
 obtain⟨v,H',J,rv,q⟩:=hs
 exact⟨v,H',J.os,J.bare,J.base,J.hok,rv,q⟩
end L2
namespace TM
open PySem PyProof.Rows
class Od where
 kd:SortKind
 ky:Keyed->Int
 is:Keyed->Prop
abbrev key [Od]:Keyed->Int:=Od.ky
abbrev IsI [Od]:Keyed->Prop:=Od.is
class LtOk (prog:Program) (w:World) (A:Around) (s:Shared) [Od]:Prop where
 lt:∀ {E:Value->Shared->Prop}{st:SortSt}{x y:Keyed}{Q:Option Bool->SortSt->Prop},kindOf st=Od.kd->IsI x->IsI y->Q (some (decide (key x<key y))) st->wpS (model prog w) A E s (lt' x y) Q st
variable [Od]
abbrev AllI (l:List Keyed):Prop:=∀ p∈l,IsI p
abbrev LE (x y:Keyed):Prop:=key x<=key y
def jBR:Bool->Keyed->Array Keyed->Nat->Nat->Nat->StateT SortSt Sem (Option Nat):=sortPriv% PySem.Builtin.gallop
def gallopB: { g:Bool->Keyed->Array Keyed->Nat->Nat->Nat->StateT SortSt Sem (Option Nat) // jBR=g} :=⟨fun _ _ _ _ _ _=>bind _ _,rfl⟩
theorem elP:(sortPriv% PySem.Builtin.elem)=elem':=rfl
theorem ltP:(sortPriv% PySem.Builtin.lt)=lt':=rfl
theorem ltAtP:(sortPriv% PySem.Builtin.ltAt)=ltAt':=rfl
theorem jI7:(sortPriv% PySem.Builtin.gallop)=jBR:=rfl
section
variable {prog:Program}{w:World}{A:Around}{E:Value->Shared->Prop}{s:Shared}
theorem jFX [LtOk prog w A s]{st:SortSt}{x y:Keyed}{Q:Option Bool->SortSt->Prop}(hk:kindOf st=Od.kd)(hx:IsI x)(hy:IsI y)(h:Q (some (decide (key x<key y))) st):wpS (model prog w) A E s (lt' x y) Q st:=LtOk.lt hk hx hy h
theorem jT {st:SortSt}{arr:Array Keyed}{i:Nat}{p:Keyed}{Q:Keyed->SortSt->Prop}(hi:arr[i]?=some p)(h:Q p st):wpS (model prog w) A E s (elem' arr i) Q st:=by
 rw[elem'_eq,hi]
 exact aO h
end
section
variable {prog:Program}{w:World}{A:Around}{E:Value->Shared->Prop}{s:Shared} [LtOk prog w A s]
theorem jB2 {left:Bool}{ky:Keyed}{arr:Array Keyed}{base n hint:Nat}{st:SortSt}{Q:Option Nat->SortSt->Prop}(hk:kindOf st=Od.kd)(hky:IsI ky)(hI:∀ i,i<n->∃ p,arr[base+i]?=some p/\IsI p)(hh:hint<n)(B:Nat->Bool)
  (hB:∀ i p,i<n->arr[base+i]?=some p->B i=(if left=true then decide (key p<key ky) else !decide (key ky<key p))) (mono:∀ i j,i<=j->j<n->B j=true->B i=true)
  (h:∀ k,k<=n->(∀ i,i<k->B i=true)->(∀ i,k<=i->i<n->B i=false)->Q (some k) st):wpS (model prog w) A E s (jBR left ky arr base n hint) Q st:=by
 rw[gallopB.2]
 delta gallopB
 dsimp only
 simp only [elP,ltP]
 have bey:∀ i (R:Option Bool->SortSt->Prop),i<n->R (some (B i)) st->wpS (model prog w) A E s (do
   let x <- elem' arr (base+i)
   if left=true then lt' x ky else do
    let r <- lt' ky x
    pure (r.map (!·))) R st:=fun i R hi hR=>by
  obtain⟨p,hp,ip⟩:=hI i hi
  refine aI (jT hp ?_)
  have e:=hB i p hi hp
  cases left with
  | true=>
   rw[ah rfl] at e ⊢
   rw[e] at hR
   exact jFX hk ip hky hR
  | false=>
   rw[ae aq] at e ⊢
   rw[e] at hR
   exact aI (jFX hk hky ip (aO hR))
 have down:∀ i j,i<=j->j<n->B i=false->B j=false:=fun i j hij hj hi=>by
  cases hb:B j with
  | false=>rfl
  | true=>rw[mono i j hij hj hb] at hi; cases hi
 refine aI (bey hint _ hh ?_)
 dsimp only
 cases hb:B hint with
 | true=>
  rw[ah rfl]
  refine aI (dz (cj (I:=fun x c st'=>st'=st/\∃ l o,c=(none,l,o)/\l<o/\x+1<=o/\hint+l<n/\B (hint+l)=true)
   (Q:=fun c st'=>st'=st/\∃ l o,c=(none,l,o)/\l<o/\hint+l<n/\B (hint+l)=true/\(n - hint<=o\/(hint+o<n/\B (hint+o)=false))) ?step ?fin ⟨rfl,0,1,rfl,by lia,by lia,by lia,by rw[cx]; exact hb⟩) ?post)
  case post=>
   rintro c st' ⟨rfl,l,o,rfl,a1,a2,a3,a4⟩
   dsimp only
   have p3:∀ i,i<hint+l+1->B i=true:=fun i hi=>mono i (hint+l) (by lia) a2 a3
   have p4:∀ i,hint+min o (n - hint)<=i->i<n->B i=false:=fun i h1 h2=>by
    rcases a4 with a4 | ⟨a4,a5⟩
    ·lia
    ·exact down (hint+o) i (by lia) h2 a5
   refine aI (dz (cj (I:=fun x c st''=>st''=st'/\∃ lo hi,c=(none,lo,hi)/\lo<=hi/\hi<=n/\hi - lo<=n - x/\(∀ i,i<lo->B i=true)/\(∀ i,hi<=i->i<n->B i=false))
    (Q:=fun c st''=>st''=st'/\∃ k,c=(none,k,k)/\k<=n/\(∀ i,i<k->B i=true)/\(∀ i,k<=i->i<n->B i=false)) ?step2 ?fin2 ⟨rfl,hint+l+1,hint+min o (n - hint),rfl,by lia,by lia,by lia,p3,p4⟩) ?post2)
   case post2=>
    rintro c st'' ⟨rfl,k,rfl,k1,k2,k3⟩
    exact aO (h k k1 k2 k3)
   case fin2=>
    rintro c st'' ⟨rfl,lo,hi,rfl,a1,a2,a3,a4,a5⟩
    have:lo=hi:=by lia
    subst this
    exact⟨rfl,lo,rfl,a2,a4,a5⟩
   case step2=>
    rintro x c st'' _ hx ⟨rfl,lo,hi,rfl,a1,a2,a3,a4,a5⟩
    dsimp only
    by_cases hge:lo ≥ hi
    ·rw[ah hge]
     have:lo=hi:=by lia
     subst this
     exact aO ⟨rfl,lo,rfl,a2,a4,a5⟩
    ·rw[ae hge]
     refine aI (bey _ _ (by lia) ?_)
     dsimp only
     cases hb:B (lo+(hi - lo) / 2) with
     | true=>
      rw[ah rfl]
      exact aO ⟨rfl,lo+(hi - lo) / 2+1,hi,rfl,by lia,a2,by lia,fun i hi'=>mono i _ (by lia) (by lia) hb,a5⟩
     | false=>
      rw[ae aq]
      exact aO ⟨rfl,lo,lo+(hi - lo) / 2,rfl,by lia,by lia,by lia,a4,fun i h1 h2=>down _ i h1 h2 hb⟩
  case fin=>
   rintro c st' ⟨rfl,l,o,rfl,a1,a2,a3,a4⟩
   exact⟨rfl,l,o,rfl,a1,a3,a4, .inl (by lia)⟩
  case step=>
   rintro x c st' _ hx ⟨rfl,l,o,rfl,a1,a2,a3,a4⟩
   dsimp only
   by_cases hge:o ≥ n - hint
   ·rw[ah hge]
    exact aO ⟨rfl,l,o,rfl,a1,a3,a4, .inl hge⟩
   ·rw[ae hge]
    refine aI (bey _ _ (by lia) ?_)
    dsimp only
    cases hb2:B (hint+o) with
    | true=>
     rw[ae (by decide)]
     exact aO ⟨rfl,o,2*o+1,rfl,by lia,by lia,by lia,hb2⟩
    | false=>
     rw[ah (by decide)]
     exact aO ⟨rfl,l,o,rfl,a1,a3,a4, .inr ⟨by lia,hb2⟩⟩
 | false=>
  rw[ae aq]
  refine aI (dz (cj (I:=fun x c st'=>st'=st/\∃ l o,c=(none,l,o)/\l<o/\x+1<=o/\l<=hint/\B (hint - l)=false)
   (Q:=fun c st'=>st'=st/\∃ l o,c=(none,l,o)/\l<o/\l<=hint/\B (hint - l)=false/\(hint+1<=o\/(o<=hint/\B (hint - o)=true))) ?step ?fin ⟨rfl,0,1,rfl,by lia,by lia,by lia,by rw[Nat.sub_zero]; exact hb⟩) ?post)
  case post=>
   rintro c st' ⟨rfl,l,o,rfl,a1,a2,a3,a4⟩
   dsimp only
   have p3:∀ i,i<hint+1 - min o (hint+1)->B i=true:=fun i hi=>by
    rcases a4 with a4 | ⟨a4,a5⟩
    ·lia
    ·exact mono i (hint - o) (by lia) (by lia) a5
   have p4:∀ i,hint - l<=i->i<n->B i=false:=fun i h1 h2=>down (hint - l) i (by lia) h2 a3
   refine aI (dz (cj (I:=fun x c st''=>st''=st'/\∃ lo hi,c=(none,lo,hi)/\lo<=hi/\hi<=n/\hi - lo<=n - x/\(∀ i,i<lo->B i=true)/\(∀ i,hi<=i->i<n->B i=false))
    (Q:=fun c st''=>st''=st'/\∃ k,c=(none,k,k)/\k<=n/\(∀ i,i<k->B i=true)/\(∀ i,k<=i->i<n->B i=false)) ?step2 ?fin2 ⟨rfl,hint+1 - min o (hint+1),hint - l,rfl,by lia,by lia,by lia,p3,p4⟩) ?post2)
   case post2=>
    rintro c st'' ⟨rfl,k,rfl,k1,k2,k3⟩
    exact aO (h k k1 k2 k3)
   case fin2=>
    rintro c st'' ⟨rfl,lo,hi,rfl,a1,a2,a3,a4,a5⟩
    have:lo=hi:=by lia
    subst this
    exact⟨rfl,lo,rfl,a2,a4,a5⟩
   case step2=>
    rintro x c st'' _ hx ⟨rfl,lo,hi,rfl,a1,a2,a3,a4,a5⟩
    dsimp only
    by_cases hge:lo ≥ hi
    ·rw[ah hge]
     have:lo=hi:=by lia
     subst this
     exact aO ⟨rfl,lo,rfl,a2,a4,a5⟩
    ·rw[ae hge]
     refine aI (bey _ _ (by lia) ?_)
     dsimp only
     cases hb:B (lo+(hi - lo) / 2) with
     | true=>
      rw[ah rfl]
      exact aO ⟨rfl,lo+(hi - lo) / 2+1,hi,rfl,by lia,a2,by lia,fun i hi'=>mono i _ (by lia) (by lia) hb,a5⟩
     | false=>
      rw[ae aq]
      exact aO ⟨rfl,lo,lo+(hi - lo) / 2,rfl,by lia,by lia,by lia,a4,fun i h1 h2=>down _ i h1 h2 hb⟩
  case fin=>
   rintro c st' ⟨rfl,l,o,rfl,a1,a2,a3,a4⟩
   exact⟨rfl,l,o,rfl,a1,a3,a4, .inl (by lia)⟩
  case step=>
   rintro x c st' _ hx ⟨rfl,l,o,rfl,a1,a2,a3,a4⟩
   dsimp only
   by_cases hge:o ≥ hint+1
   ·rw[ah hge]
    exact aO ⟨rfl,l,o,rfl,a1,a3,a4, .inl hge⟩
   ·rw[ae hge]
    refine aI (bey _ _ (by lia) ?_)
    dsimp only
    cases hb2:B (hint - o) with
    | true=>
     rw[ah rfl]
     exact aO ⟨rfl,l,o,rfl,a1,a3,a4, .inr ⟨by lia,hb2⟩⟩
    | false=>
     rw[ae aq]
     exact aO ⟨rfl,o,2*o+1,rfl,by lia,by lia,by lia,hb2⟩
end
abbrev jGC (st:SortSt)(g:Nat):SortSt:=SortSt.mk' (kindOf st) (arrOf st) (pendingOf st) g (failedOf st)
def jBV:Nat->StateT SortSt Sem Unit:=sortPriv% PySem.Builtin.setMinGallop
theorem jLT:(sortPriv% PySem.Builtin.setMinGallop)=jBV:=rfl
theorem jA3 (g:Nat):jBV g=modify fun s=>jGC s g:=rfl
def jFD:Array Keyed->Array Keyed->StateT SortSt Sem (Array Keyed):=sortPriv% PySem.Builtin.mergeLo
def mergeLoB: { g:Array Keyed->Array Keyed->StateT SortSt Sem (Array Keyed) // jFD=g} :=⟨fun _ _=>bind _ _,rfl⟩
theorem jPR:(sortPriv% PySem.Builtin.mergeLo)=jFD:=rfl
def jFE:Array Keyed->Array Keyed->StateT SortSt Sem (Array Keyed):=sortPriv% PySem.Builtin.mergeHi
def mergeHiB: { g:Array Keyed->Array Keyed->StateT SortSt Sem (Array Keyed) // jFE=g} :=⟨fun _ _=>bind _ _,rfl⟩
theorem jPS:(sortPriv% PySem.Builtin.mergeHi)=jFE:=rfl
abbrev Srt (l:List Keyed):Prop:=l.Pairwise LE
structure ML (a b out:List Keyed)(ia ib:Nat):Prop where
 perm:(out++(a.drop ia++b.drop ib)).Perm (a++b)
 srt:Srt out
 le:∀ x∈out,∀ y∈a.drop ia++b.drop ib,LE x y
theorem Srt.drop {l:List Keyed}(h:Srt l)(i:Nat):Srt (l.drop i):=h.sublist (iQ _ _)
theorem Srt.take {l:List Keyed}(h:Srt l)(i:Nat):Srt (l.take i):=h.sublist (dH _ _)
theorem yS {l m:List Keyed}(h1:Srt l)(h2:Srt m)(h:∀ x∈l,∀ y∈m,LE x y):Srt (l++m):=cF.mpr ⟨h1,h2,h⟩
theorem ML.takeA {a b out:List Keyed}{ia ib:Nat}(h:ML a b out ia ib)(sa:Srt a)(k:Nat)(hc:∀ x∈(a.drop ia).take k,∀ y∈b.drop ib,LE x y):ML a b (out++(a.drop ia).take k) (ia+k) ib:=by
 have e:a.drop (ia+k)=(a.drop ia).drop k:=by rw[iH]
 refine⟨?_,yS h.srt ((sa.drop ia).take k) fun x hx y hy=>h.le x hx y (bu _ (b0 hy)),fun x hx y hy=>?_⟩
 ·refine List.Perm.trans ?_ h.perm
  rw[e]
  refine ge ?_
  rw[be,<- be ((a.drop ia).take k),bz]
 ·rcases aR.mp hx with q | q
  ·refine h.le x q y ?_
   rcases aR.mp hy with z | z
   ·rw[e] at z
    exact bu _ (cH z)
   ·exact aZ _ z
  ·rcases aR.mp hy with z | z
   ·rw[e] at z
    have s:=sa.drop ia
    rw[<- bz k (a.drop ia)] at s
    exact(cF.mp s).2.2 x q y z
   ·exact hc x q y z
theorem ML.takeB {a b out:List Keyed}{ia ib:Nat}(h:ML a b out ia ib)(sb:Srt b)(k:Nat)(hc:∀ x∈(b.drop ib).take k,∀ y∈a.drop ia,LE x y):ML a b (out++(b.drop ib).take k) ia (ib+k):=by
 have e:b.drop (ib+k)=(b.drop ib).drop k:=by rw[iH]
 refine⟨?_,yS h.srt ((sb.drop ib).take k) fun x hx y hy=>h.le x hx y (aZ _ (b0 hy)),fun x hx y hy=>?_⟩
 ·refine List.Perm.trans ?_ h.perm
  rw[e,be]
  refine dv out ?_
  refine dZ.trans ?_
  rw[be]
  refine dv _ ?_
  refine dZ.trans ?_
  rw[bz]
 ·rcases aR.mp hx with q | q
  ·refine h.le x q y ?_
   rcases aR.mp hy with z | z
   ·exact bu _ z
   ·rw[e] at z
    exact aZ _ (cH z)
  ·rcases aR.mp hy with z | z
   ·exact hc x q y z
   ·rw[e] at z
    have s:=sb.drop ib
    rw[<- bz k (b.drop ib)] at s
    exact(cF.mp s).2.2 x q y z
theorem ML.outA {a b out:List Keyed}{ia ib:Nat}(h:ML a b out ia ib)(sa:Srt a)(hb:b.length<=ib):(out++a.drop ia++b.drop ib).Perm (a++b)/\Srt (out++a.drop ia++b.drop ib):=by
 refine⟨by rw[be]; exact h.perm,?_⟩
 rw[gB hb,bq]
 exact yS h.srt (sa.drop ia) fun x hx y hy=>h.le x hx y (bu _ hy)
theorem ML.outB {a b out:List Keyed}{ia ib:Nat}(h:ML a b out ia ib)(sb:Srt b)(ha:a.length<=ia):(out++a.drop ia++b.drop ib).Perm (a++b)/\Srt (out++a.drop ia++b.drop ib):=by
 refine⟨by rw[be]; exact h.perm,?_⟩
 rw[gB ha,bq]
 exact yS h.srt (sb.drop ib) fun x hx y hy=>h.le x hx y (aZ _ hy)
theorem ML.last {a b out:List Keyed}{ia ib:Nat}(h:ML a b out ia ib)(sa:Srt a)(sb:Srt b)(ha:∀ x∈b,∀ y∈a.drop ia,LE x y):(out++b.drop ib++a.drop ia).Perm (a++b)/\Srt (out++b.drop ib++a.drop ia):=by
 refine⟨?_,?_⟩
 ·rw[be]
  exact(dv out dZ).trans h.perm
 ·refine yS (yS h.srt (sb.drop ib) fun x hx y hy=>h.le x hx y (aZ _ hy)) (sa.drop ia) fun x hx y hy=>?_
  rcases aR.mp hx with q | q
  ·exact h.le x q y (bu _ hy)
  ·exact ha x (cH q) y hy
theorem jA8 {l:List Keyed}{i:Nat}{p:Keyed}(h:l[i]?=some p):(l.drop i).take 1=[p]:=by
 obtain⟨hi,e⟩:=ax.mp h
 rw[<- List.getElem_cons_drop (h:=hi),e]
 rfl
theorem jEA {l:List Keyed}(h:Srt l){i j:Nat}{x y:Keyed}(hx:l[i]?=some x)(hy:l[j]?=some y)(hij:i<=j):LE x y:=by
 obtain⟨h1,rfl⟩:=ax.mp hx
 obtain⟨h2,rfl⟩:=ax.mp hy
 by_cases e:i=j
 ·subst e; exact dE _
 ·exact bW.mp h i j h1 h2 (by lia)
theorem jDA {l:List Keyed}{i:Nat}{y:Keyed}(h:y∈l.drop i):∃ j,i<=j/\l[j]?=some y:=by
 obtain⟨k,hk⟩:=bR h
 rw[iI] at hk
 exact⟨i+k,by lia,hk⟩
theorem jA5 {l:List Keyed}{i k:Nat}{y:Keyed}(h:y∈(l.drop i).take k):∃ j,i<=j/\j<i+k/\l[j]?=some y:=by
 obtain⟨n,hn⟩:=bR h
 have hlt:n<k:=by
  have:=(ax.mp hn).1
  rw[bE] at this
  lia
 rw[cy hlt,iI] at hn
 exact⟨i+n,by lia,by lia,hn⟩
theorem jCK {a:Array Keyed}{i:Nat} :(a.extract i a.size).toList=a.toList.drop i:=by
 rw[fm,eg]
 exact bK (by rw[fE,aV]; exact ar _)
theorem ext_k {a:Array Keyed}{i k:Nat} :(a.extract i (i+k)).toList=(a.toList.drop i).take k:=by
 rw[fm,eg,da]
structure Two (a b:Array Keyed):Prop where
 ia:AllI a.toList
 ib:AllI b.toList
 sa:Srt a.toList
 sb:Srt b.toList
 na:0<a.size
 nb:0<b.size
 last:∀ x∈b.toList,∀ y,a.toList[a.size - 1]?=some y->key x<key y
 first:∀ y∈a.toList,∀ p,b.toList[0]?=some p->key p<key y
def yJ (a b r:Array Keyed):Prop:=r.toList.Perm (a.toList++b.toList)/\Srt r.toList
structure SG (st st':SortSt):Prop where
 k:kindOf st'=kindOf st
 a:arrOf st'=arrOf st
 p:pendingOf st'=pendingOf st
 f:failedOf st'=failedOf st
theorem SG.refl (st:SortSt):SG st st:=⟨rfl,rfl,rfl,rfl⟩
theorem SG.gal {st st':SortSt}(h:SG st st')(g:Nat):SG st (jGC st' g):=⟨h.k,h.a,h.p,h.f⟩
abbrev MA (a b out:Array Keyed)(ia ib:Nat):Prop:=ML a.toList b.toList out.toList ia ib
variable {a b:Array Keyed}{i j:Nat}
section
variable {out:Array Keyed}{k:Nat}
theorem at_list {p:Keyed} :a[i]?=some p↔a.toList[i]?=some p:=by rw[bU]
theorem qH (h:i<a.size):∃ p,a[i]?=some p/\a.toList[i]?=some p:=⟨a[i],by simp [h],by simp [h]⟩
theorem MA.doneA (T:Two a b)(h:MA a b out i j)(hj:b.size<=j):yJ a b (out++a.extract i a.size++b.extract j b.size):=by
 unfold yJ
 rw[bC,bC,jCK,jCK]
 exact ML.outA h T.sa (by rw[aV]; exact hj)
theorem MA.doneB (T:Two a b)(h:MA a b out i j)(hi:a.size<=i):yJ a b (out++a.extract i a.size++b.extract j b.size):=by
 unfold yJ
 rw[bC,bC,jCK,jCK]
 exact ML.outB h T.sb (by rw[aV]; exact hi)
theorem MA.doneL (T:Two a b)(h:MA a b out i j)(hi:i+1=a.size):yJ a b (out++b.extract j b.size++a.extract i a.size):=by
 unfold yJ
 rw[bC,bC,jCK,jCK]
 refine ML.last h T.sa T.sb fun x hx y hy=>?_
 obtain⟨n,h1,h2⟩:=jDA hy
 have:n=a.size - 1:=by
  have:=(ax.mp h2).1
  rw[aV] at this
  lia
 subst this
 exact cN (T.last x hx y h2)
theorem MA.pushB (T:Two a b)(h:MA a b out i j){p q:Keyed}(hp:b[j]?=some p)(hc:∀ y∈a.toList.drop i,LE p y):MA a b (out.push p) i (j+1):=by
 have:=ML.takeB h T.sb 1 (by
  rw[jA8 (at_list.mp hp)]
  intro x hx
  rw[aE.mp hx]
  exact hc)
 rw[jA8 (at_list.mp hp)] at this
 unfold MA
 rw[eJ]
 exact this
theorem MA.pushA (T:Two a b)(h:MA a b out i j){p q:Keyed}(hp:a[i]?=some p)(hc:∀ y∈b.toList.drop j,LE p y):MA a b (out.push p) (i+1) j:=by
 have:=ML.takeA h T.sa 1 (by
  rw[jA8 (at_list.mp hp)]
  intro x hx
  rw[aE.mp hx]
  exact hc)
 rw[jA8 (at_list.mp hp)] at this
 unfold MA
 rw[eJ]
 exact this
theorem MA.appA (T:Two a b)(h:MA a b out i j)(k:Nat)(hc:∀ n x,i<=n->n<i+k->a.toList[n]?=some x->∀ y∈b.toList.drop j,LE x y):MA a b (out++a.extract i (i+k)) (i+k) j:=by
 unfold MA
 rw[bC,ext_k]
 exact ML.takeA h T.sa k fun x hx y hy=>by
  obtain⟨n,h1,h2,h3⟩:=jA5 hx
  exact hc n x h1 h2 h3 y hy
theorem MA.appB (T:Two a b)(h:MA a b out i j)(k:Nat)(hc:∀ n x,j<=n->n<j+k->b.toList[n]?=some x->∀ y∈a.toList.drop i,LE x y):MA a b (out++b.extract j (j+k)) i (j+k):=by
 unfold MA
 rw[bC,ext_k]
 exact ML.takeB h T.sb k fun x hx y hy=>by
  obtain⟨n,h1,h2,h3⟩:=jA5 hx
  exact hc n x h1 h2 h3 y hy
theorem Two.atA (T:Two a b)(h:i<a.size):∃ p,a[i]?=some p/\IsI p:=by
 obtain⟨p,h1,h2⟩:=qH h
 exact⟨p,h1,T.ia p (aH h2)⟩
theorem Two.atB (T:Two a b)(h:i<b.size):∃ p,b[i]?=some p/\IsI p:=by
 obtain⟨p,h1,h2⟩:=qH h
 exact⟨p,h1,T.ib p (aH h2)⟩
theorem jFI (s:Srt a.toList){p q:Keyed}(hp:a[i]?=some p)(h:LE q p):∀ y∈a.toList.drop i,LE q y:=fun y hy=>by
 obtain⟨n,h1,h2⟩:=jDA hy
 exact dj h (jEA s (at_list.mp hp) h2 h1)
end
section
variable {prog:Program}{w:World}{A:Around}{E:Value->Shared->Prop}{s:Shared} [LtOk prog w A s]
theorem jTT {st:SortSt}{a:Array Keyed}{i:Nat}{p:Keyed}{Q:Option Nat->SortSt->Prop}(hk:kindOf st=Od.kd)(hp:IsI p)(ha:AllI a.toList)(sa:Srt a.toList)(hi:i<a.size)
  (h:∀ k,i+k<=a.size->(∀ n x,i<=n->n<i+k->a.toList[n]?=some x->LE x p)->(∀ n x,i+k<=n->a.toList[n]?=some x->key p<key x)->Q (some k) st):
  wpS (model prog w) A E s (jBR false p a i (a.size - i) 0) Q st:=by
 refine jB2 hk hp (fun n hn=>?_) (by lia) (fun n=>match a[i+n]? with | some x=>!decide (key p<key x) | none=>false) (fun n x hn hx=>?_) (fun n m hnm hm hb=>?_) fun k hk1 hk2 hk3=>h k (by lia) (fun n x h1 h2 h3=>?_) fun n x h1 h2=>?_
 ·obtain⟨q,q1,q2⟩:=qH (a:=a) (i:=i+n) (by lia)
  exact⟨q,q1,ha q (aH q2)⟩
 ·rw[hx,ae aq]
 ·obtain⟨x,x1,x2⟩:=qH (a:=a) (i:=i+n) (by lia)
  obtain⟨y,y1,y2⟩:=qH (a:=a) (i:=i+m) (by lia)
  rw[y1] at hb
  rw[x1]
  have:=jEA sa x2 y2 (by lia)
  have hb:¬ key p<key y:=by simpa using hb
  show (!decide (key p<key x))=true
  rw[cC,b9]
  have:key x<=key y:=this
  lia
 ·have:=hk2 (n - i) (by lia)
  rw[show i+(n - i)=n by lia,at_list.mpr h3] at this
  have this:¬ key p<key x:=by simpa using this
  show key x<=key p
  lia
 ·have hn:=(ax.mp h2).1
  rw[aV] at hn
  have:=hk3 (n - i) (by lia) (by lia)
  rw[show i+(n - i)=n by lia,at_list.mpr h2] at this
  simpa using this
theorem jTU {st:SortSt}{a:Array Keyed}{i:Nat}{p:Keyed}{Q:Option Nat->SortSt->Prop}(hk:kindOf st=Od.kd)(hp:IsI p)(ha:AllI a.toList)(sa:Srt a.toList)(hi:i<a.size)
  (h:∀ k,i+k<=a.size->(∀ n x,i<=n->n<i+k->a.toList[n]?=some x->key x<key p)->(∀ n x,i+k<=n->a.toList[n]?=some x->LE p x)->Q (some k) st):
  wpS (model prog w) A E s (jBR true p a i (a.size - i) 0) Q st:=by
 refine jB2 hk hp (fun n hn=>?_) (by lia) (fun n=>match a[i+n]? with | some x=>decide (key x<key p) | none=>false) (fun n x hn hx=>?_) (fun n m hnm hm hb=>?_) fun k hk1 hk2 hk3=>h k (by lia) (fun n x h1 h2 h3=>?_) fun n x h1 h2=>?_
 ·obtain⟨q,q1,q2⟩:=qH (a:=a) (i:=i+n) (by lia)
  exact⟨q,q1,ha q (aH q2)⟩
 ·rw[hx,ah rfl]
 ·obtain⟨x,x1,x2⟩:=qH (a:=a) (i:=i+n) (by lia)
  obtain⟨y,y1,y2⟩:=qH (a:=a) (i:=i+m) (by lia)
  rw[y1] at hb
  rw[x1]
  have:=jEA sa x2 y2 (by lia)
  have hb:key y<key p:=az hb
  show decide (key x<key p)=true
  rw[bi]
  have:key x<=key y:=this
  lia
 ·have:=hk2 (n - i) (by lia)
  rw[show i+(n - i)=n by lia,at_list.mpr h3] at this
  exact az this
 ·have hn:=(ax.mp h2).1
  rw[aV] at hn
  have:=hk3 (n - i) (by lia) (by lia)
  rw[show i+(n - i)=n by lia,at_list.mpr h2] at this
  have this:¬ key x<key p:=dY this
  show key p<=key x
  lia
end
section
variable {prog:Program}{w:World}{A:Around}{E:Value->Shared->Prop}{s:Shared} [LtOk prog w A s]
theorem bp {a b:Nat}(h:a=b):(a==b)=true:=dM.mpr h
theorem bn {a b:Nat}(h:¬ a=b):¬ (a==b)=true:=fun z=>h (dM.mp z)
structure LoI (a b:Array Keyed)(st:SortSt)(out:Array Keyed)(ia ib:Nat)(st':SortSt):Prop where
 m:MA a b out ia ib
 i:ia+1<a.size
 j:ib<b.size
 s:SG st st'
theorem jHH {a b:Array Keyed}{st:SortSt}{Q:Array Keyed->SortSt->Prop}(hk:kindOf st=Od.kd)(T:Two a b)(h:∀ r st',yJ a b r->SG st st'->Q r st'):wpS (model prog w) A E s (jFD a b) Q st:=by
 rw[mergeLoB.2]
 delta mergeLoB
 dsimp only
 simp only [elP,ltP,jI7,jLT]
 have na:=T.na
 have nb:=T.nb
 refine aI (iJ (dw ⟨rfl,?_⟩))
 obtain⟨p0,hp0,ip0⟩:=T.atB nb
 refine aI (jT hp0 ?_)
 have M0:MA a b #[p0] 0 1:=by
  have z:MA a b #[] 0 0:=⟨by show (([]:List Keyed)++(a.toList.drop 0++b.toList.drop 0)).Perm _; rw[List.nil_append,kr,kr],List.Pairwise.nil,fun x hx=>by cases hx⟩
  have:=MA.pushB (q:=p0) T z hp0 fun y hy=>cN (T.first y (cH hy) p0 (at_list.mp hp0))
  exact this
 by_cases e1:1=b.size
 ·rw[ah (bp e1)]
  exact aO (h _ _ (MA.doneA T M0 (by lia)) (SG.refl _))
 rw[ae (bn e1)]
 by_cases e2:0+1=a.size
 ·rw[ah (bp e2)]
  exact aO (h _ _ (MA.doneL T M0 e2) (SG.refl _))
 rw[ae (bn e2)]
 refine aI (g6 ?_)
 refine aI (dz (cj (I:=fun x c st'=>∃ out ia ib mg,c=(none,out,ia,ib,mg)/\LoI a b st out ia ib st'/\x+1<=ia+ib)
  (Q:=fun c st'=>∃ r,c.1=some r/\yJ a b r/\SG st st') ?step ?fin ⟨_,0,1,_,rfl,⟨M0,by lia,by lia,SG.refl _⟩,by lia⟩) ?post)
 case post=>
  rintro ⟨r0,c⟩ st' ⟨r,hr,d,g⟩
  have hr:r0=some r:=hr
  subst hr
  exact aO (h r st' d g)
 case fin=>
  rintro c st' ⟨out,ia,ib,mg,rfl,I0,hx⟩
  have:=I0.i
  have:=I0.j
  lia
 case step=>
  rintro x c st1 _ hx ⟨out,ia,ib,mg,rfl,I0,hxx⟩
  dsimp only
  refine aI (dz (cj (I:=fun y c st'=>∃ out' ia' ib' ac bc,c=(none,out',ia',ib',ac,bc)/\LoI a b st out' ia' ib' st'/\ia+ib<=ia'+ib'/\(y=0\/ia+ib<ia'+ib'))
   (Q:=fun c st'=>(∃ r,c.1=some r/\yJ a b r/\SG st st')\/∃ out' ia' ib' ac bc,c=(none,out',ia',ib',ac,bc)/\LoI a b st out' ia' ib' st'/\ia+ib<ia'+ib') ?step1 ?fin1 ⟨_,_,_,_,_,rfl,I0,by lia, .inl rfl⟩) ?post1)
  case fin1=>
   rintro c st' ⟨out',ia',ib',ac,bc,rfl,I1,h1,h2⟩
   exact .inr ⟨_,_,_,_,_,rfl,I1,by lia⟩
  case step1=>
   rintro y c st2 _ hy ⟨out',ia',ib',ac,bc,rfl,I1,h1,h2⟩
   dsimp only
   obtain⟨pb,hpb,ipb⟩:=T.atB I1.j
   obtain⟨pa,hpa,ipa⟩:=T.atA (i:=ia') (by have:=I1.i; lia)
   have ii:=I1.i
   have jj:=I1.j
   refine aI (jT hpb (aI (jT hpa (aI (jFX (I1.s.k.trans hk) ipb ipa ?_)))))
   dsimp only
   by_cases hlt:key pb<key pa
   ·rw[ay hlt,ah rfl]
    refine aI (jT hpb ?_)
    have M2:=MA.pushB (q:=pb) T I1.m hpb (jFI T.sa hpa (cN hlt))
    by_cases f1:ib'+1=b.size
    ·rw[ah (bp f1)]
     exact aO (.inl ⟨_,rfl,MA.doneA T M2 (by lia),I1.s⟩)
    rw[ae (bn f1)]
    split
    ·exact aO (.inr ⟨_,_,_,_,_,rfl,⟨M2,ii,by lia,I1.s⟩,by lia⟩)
    ·exact aO ⟨_,_,_,_,_,rfl,⟨M2,ii,by lia,I1.s⟩,by lia, .inr (by lia)⟩
   ·rw[aM hlt,ae aq]
    refine aI (jT hpa ?_)
    have M2:=MA.pushA (q:=pa) T I1.m hpa (jFI T.sb hpb (by show key pa<=key pb; lia))
    by_cases f1:ia'+1+1=a.size
    ·rw[ah (bp f1)]
     exact aO (.inl ⟨_,rfl,MA.doneL T M2 f1,I1.s⟩)
    rw[ae (bn f1)]
    split
    ·exact aO (.inr ⟨_,_,_,_,_,rfl,⟨M2,by lia,jj,I1.s⟩,by lia⟩)
    ·exact aO ⟨_,_,_,_,_,rfl,⟨M2,by lia,jj,I1.s⟩,by lia, .inr (by lia)⟩
  case post1=>
   rintro c st2 (⟨r,hr,d,g⟩ | ⟨out1,ia1,ib1,ac,bc,rfl,I1,h1⟩)
   ·obtain⟨r0,c⟩:=c
    have hr:r0=some r:=hr
    subst hr
    exact aO ⟨r,rfl,d,g⟩
   dsimp only
   refine aI (iJ (dw ⟨rfl,?_⟩))
   refine aI (dz (cj (I:=fun y c st'=>∃ out' ia' ib' mg' ac bc,c=(none,out',ia',ib',mg',ac,bc)/\LoI a b st out' ia' ib' st'/\ia+ib<ia'+ib')
    (Q:=fun c st'=>(∃ r,c.1=some r/\yJ a b r/\SG st st')\/∃ out' ia' ib' mg' ac bc,c=(none,out',ia',ib',mg',ac,bc)/\LoI a b st out' ia' ib' st'/\ia+ib<ia'+ib') ?step2 ?fin2 ⟨_,_,_,_,_,_,rfl,I1,h1⟩) ?post2)
   case fin2=>
    rintro c st' ⟨out',ia',ib',mg',ac,bc,rfl,I2,h2⟩
    exact .inr ⟨_,_,_,_,_,_,rfl,I2,h2⟩
   case post2=>
    rintro c st3 (⟨r,hr,d,g⟩ | ⟨out2,ia2,ib2,mg2,ac,bc,rfl,I2,h2⟩)
    ·obtain⟨r0,c⟩:=c
     have hr:r0=some r:=hr
     subst hr
     exact aO ⟨r,rfl,d,g⟩
    dsimp only
    rw[jA3]
    exact aI (fe (aO ⟨_,_,_,_,rfl,⟨I2.m,I2.i,I2.j,I2.s.gal _⟩,by lia⟩))
   case step2=>
    clear I0 I1
    rintro y c st2 _ hy ⟨out,ia,ib,mg',ac,bc,rfl,I0,h2⟩
    dsimp only
    obtain⟨pb,hpb,ipb⟩:=T.atB I0.j
    by_cases hg:mg'>1
    case' pos=>
     rw[ah hg]
     generalize hgg:mg' - 1=gg
    case' neg=>
     rw[ae hg]
     generalize hgg:mg'=gg
    all_goals
     rw[jA3]
     refine aI (fe ?_)
     have G1:=I0.s.gal gg
     refine aI (jT hpb ?_)
     refine aI (jTT (G1.k.trans hk) ipb T.ia T.sa (by have:=I0.i; lia) fun k1 g1 g2 g3=>?_)
     dsimp only
     have M1:=MA.appA T I0.m k1 (fun n x h1 h2 h3=>jFI T.sb hpb (g2 n x h1 h2 h3))
     have hgt:∀ y∈a.toList.drop (ia+k1),LE pb y:=fun y hy=>by
      obtain⟨n,h1,h2⟩:=jDA hy
      exact cN (g3 n y h1 h2)
     have jb:=I0.j
     by_cases e0:k1>0
     case' pos=>
      rw[ah e0]
      by_cases f1:ia+k1+1=a.size
      ·rw[ah (bp f1)]
       exact aO (.inl ⟨_,rfl,MA.doneL T M1 f1,G1⟩)
      rw[ae (bn f1)]
      by_cases f2:ia+k1=a.size
      ·rw[ah (bp f2)]
       exact aO (.inl ⟨_,rfl,MA.doneB T M1 (by lia),G1⟩)
      rw[ae (bn f2)]
      obtain⟨pa,hpa,ipa⟩:=T.atA (i:=ia+k1) (by lia)
      have hz:ia+k1<a.size:=by lia
      generalize hiz:ia+k1=iz at*
     case' neg=>
      rw[ae e0]
      have e0':k1=0:=by lia
      subst e0'
      have M1:=I0.m
      obtain⟨pa,hpa,ipa⟩:=T.atA (i:=ia) (by have:=I0.i; lia)
      have hz:ia<a.size:=by have:=I0.i; lia
      rw[cx] at hgt
      have hia:=I0.i
      generalize hiz:ia=iz at*
     all_goals
      refine aI (jT hpb ?_)
      have M2:=MA.pushB (q:=pb) T M1 hpb hgt
      by_cases e1:ib+1=b.size
      ·rw[ah (bp e1)]
       exact aO (.inl ⟨_,rfl,MA.doneA T M2 (by lia),G1⟩)
      rw[ae (bn e1)]
      refine aI (jT hpa ?_)
      refine aI (jTU (G1.k.trans hk) ipa T.ib T.sb (by lia) fun k2 l1 l2 l3=>?_)
      dsimp only
      have M3:=MA.appB T M2 k2 (fun n x h1 h2 h3=>jFI T.sa hpa (cN (l2 n x h1 h2 h3)))
      have fin3:∀ y∈b.toList.drop (ib+1+k2),LE pa y:=fun y hy=>by
       obtain⟨n,h1,h2⟩:=jDA hy
       exact l3 n y h1 h2
      by_cases e2:k2>0
      ·rw[ah e2]
       by_cases e3:ib+1+k2=b.size
       ·rw[ah (bp e3)]
        exact aO (.inl ⟨_,rfl,MA.doneA T M3 (by lia),G1⟩)
       rw[ae (bn e3)]
       refine aI (jT hpa ?_)
       have M4:=MA.pushA (q:=pa) T M3 hpa fin3
       by_cases e4:iz+1+1=a.size
       ·rw[ah (bp e4)]
        exact aO (.inl ⟨_,rfl,MA.doneL T M4 e4,G1⟩)
       rw[ae (bn e4)]
       split
       ·exact aO (.inr ⟨_,_,_,_,_,_,rfl,⟨M4,by lia,by lia,G1⟩,by lia⟩)
       ·exact aO ⟨_,_,_,_,_,_,rfl,⟨M4,by lia,by lia,G1⟩,by lia⟩
      ·rw[ae e2]
       have e0:k2=0:=by lia
       subst e0
       refine aI (jT hpa ?_)
       have M4:=MA.pushA (q:=pa) T M2 hpa fin3
       by_cases e4:iz+1+1=a.size
       ·rw[ah (bp e4)]
        exact aO (.inl ⟨_,rfl,MA.doneL T M4 e4,G1⟩)
       rw[ae (bn e4)]
       split
       ·exact aO (.inr ⟨_,_,_,_,_,_,rfl,⟨M4,by lia,by lia,G1⟩,by lia⟩)
       ·exact aO ⟨_,_,_,_,_,_,rfl,⟨M4,by lia,by lia,G1⟩,by lia⟩
end
structure MHL (tot xa xb o:List Keyed):Prop where
 perm:(xa++xb++o).Perm tot
 srt:Srt o
 le:∀ x∈o,∀ y∈xa++xb,LE y x
theorem MHL.takeA {tot u v xb o:List Keyed}(h:MHL tot (u++v) xb o)(s:Srt (u++v))(hc:∀ x∈v,∀ y∈xb,LE y x):MHL tot u xb (v++o):=by
 have sp:=cF.mp s
 refine⟨?_,yS sp.2.1 h.srt fun x hx y hy=>h.le y hy x (bu _ (aZ _ hx)),fun x hx y hy=>?_⟩
 ·refine List.Perm.trans ?_ h.perm
  rw[be,be,be]
  refine dv u ?_
  rw[<- be,<- be]
  exact gC o dZ
 ·rcases aR.mp hx with q | q
  ·rcases aR.mp hy with z | z
   ·exact sp.2.2 y z x q
   ·exact hc x q y z
  ·refine h.le x q y ?_
   rcases aR.mp hy with z | z
   ·exact bu _ (bu _ z)
   ·exact aZ _ z
theorem MHL.takeB {tot u v xa o:List Keyed}(h:MHL tot xa (u++v) o)(s:Srt (u++v))(hc:∀ x∈v,∀ y∈xa,LE y x):MHL tot xa u (v++o):=by
 have sp:=cF.mp s
 refine⟨?_,yS sp.2.1 h.srt fun x hx y hy=>h.le y hy x (aZ _ (aZ _ hx)),fun x hx y hy=>?_⟩
 ·refine List.Perm.trans (ge ?_) h.perm
  simp only [be]
 ·rcases aR.mp hx with q | q
  ·rcases aR.mp hy with z | z
   ·exact hc x q y z
   ·exact sp.2.2 y z x q
  ·refine h.le x q y ?_
   rcases aR.mp hy with z | z
   ·exact bu _ z
   ·exact aZ _ (bu _ z)
theorem MHL.out {tot xa xb o:List Keyed}(h:MHL tot xa xb o)(s:Srt (xa++xb)):(xa++xb++o).Perm tot/\Srt (xa++xb++o):=
 ⟨h.perm,yS s h.srt fun x hx y hy=>h.le y hy x hx⟩
theorem MHL.outF {tot xa xb o:List Keyed}(h:MHL tot xa xb o)(s:Srt (xb++xa)):(xb++xa++o).Perm tot/\Srt (xb++xa++o):=
 ⟨(gC o dZ).trans h.perm,yS s h.srt fun x hx y hy=>h.le y hy x (by
  rcases aR.mp hx with z | z
  ·exact aZ _ z
  ·exact bu _ z)⟩
theorem jIL {l:List Keyed}{n:Nat}{p:Keyed}(hn:0<n)(h:l[n - 1]?=some p):l.take n=l.take (n - 1)++[p]:=by
 obtain⟨m,rfl⟩:∃ m,n=m+1:=⟨n - 1,by lia⟩
 rw[Nat.add_sub_cancel] at h ⊢
 rw[List.take_succ,h]
 rfl
theorem jIK {l:List Keyed}{k n:Nat}(hk:k<=n):l.take n=l.take k++(l.drop k).take (n - k):=by
 obtain⟨m,rfl⟩:∃ m,n=k+m:=⟨n - k,by lia⟩
 rw[da,List.take_add]
theorem jAK {a:Array Keyed}{k n:Nat} :(a.extract k n).toList=(a.toList.drop k).take (n - k):=by
 rw[fm,eg]
theorem jBE {a:Array Keyed}{n:Nat} :(a.extract 0 n).toList=a.toList.take n:=by
 rw[jAK,kr,Nat.sub_zero]
abbrev MH (a b out:Array Keyed)(na nb:Nat):Prop:=MHL (a.toList++b.toList) (a.toList.take na) (b.toList.take nb) out.toList.reverse
theorem jD8 {l:List Keyed}{n:Nat}{y:Keyed}(h:y∈l.take n):∃ j,j<n/\l[j]?=some y:=by
 obtain⟨k,hk⟩:=bR h
 have hlt:k<n:=by
  have:=(ax.mp hk).1
  rw[bE] at this
  lia
 rw[cy hlt] at hk
 exact⟨k,hlt,hk⟩
section
variable {out:Array Keyed}{k:Nat}
theorem jD6 (s:Srt a.toList){p q:Keyed}(hp:a[i - 1]?=some p)(h:LE p q):∀ y∈a.toList.take i,LE y q:=fun y hy=>by
 obtain⟨n,h1,h2⟩:=jD8 hy
 exact dj (jEA s h2 (at_list.mp hp) (by lia)) h
theorem MH.pushA (T:Two a b)(h:MH a b out i j){p:Keyed}(hi:0<i)(hp:a[i - 1]?=some p)(hc:∀ y∈b.toList.take j,LE y p):MH a b (out.push p) (i - 1) j:=by
 have e:=jIL hi (at_list.mp hp)
 have s:=T.sa.take i
 unfold MH at h ⊢
 rw[e] at h s
 rw[eJ,fU]
 exact h.takeA s fun x hx=>by rw[aE.mp hx]; exact hc
theorem MH.pushB (T:Two a b)(h:MH a b out i j){p:Keyed}(hj:0<j)(hp:b[j - 1]?=some p)(hc:∀ y∈a.toList.take i,LE y p):MH a b (out.push p) i (j - 1):=by
 have e:=jIL hj (at_list.mp hp)
 have s:=T.sb.take j
 unfold MH at h ⊢
 rw[e] at h s
 rw[eJ,fU]
 exact h.takeB s fun x hx=>by rw[aE.mp hx]; exact hc
theorem MH.appA (T:Two a b)(h:MH a b out i j)(hk:k<=i)(hc:∀ n x,k<=n->n<i->a.toList[n]?=some x->∀ y∈b.toList.take j,LE y x):MH a b (out++(a.extract k i).reverse) k j:=by
 have e:=jIK (l:=a.toList) hk
 have s:=T.sa.take i
 unfold MH at h ⊢
 rw[e] at h s
 rw[bC,dF,fU,ku,jAK]
 exact h.takeA s fun x hx y hy=>by
  obtain⟨n,h1,h2,h3⟩:=jA5 hx
  exact hc n x h1 (by lia) h3 y hy
theorem MH.appB (T:Two a b)(h:MH a b out i j)(hk:k<=j)(hc:∀ n x,k<=n->n<j->b.toList[n]?=some x->∀ y∈a.toList.take i,LE y x):MH a b (out++(b.extract k j).reverse) i k:=by
 have e:=jIK (l:=b.toList) hk
 have s:=T.sb.take j
 unfold MH at h ⊢
 rw[e] at h s
 rw[bC,dF,fU,ku,jAK]
 exact h.takeB s fun x hx y hy=>by
  obtain⟨n,h1,h2,h3⟩:=jA5 hx
  exact hc n x h1 (by lia) h3 y hy
theorem MH.doneA (T:Two a b)(h:MH a b out 0 j):yJ a b (a.extract 0 0++b.extract 0 j++out.reverse):=by
 unfold yJ
 rw[bC,bC,jBE,jBE,dF]
 exact h.out (by rw[kx]; exact T.sb.take j)
theorem MH.doneB (T:Two a b)(h:MH a b out i 0):yJ a b (a.extract 0 i++b.extract 0 0++out.reverse):=by
 unfold yJ
 rw[bC,bC,jBE,jBE,dF]
 exact h.out (by rw[kx,bq]; exact T.sa.take i)
theorem MH.doneF (T:Two a b)(h:MH a b out i 1):yJ a b (b.extract 0 1++a.extract 0 i++out.reverse):=by
 unfold yJ
 rw[bC,bC,jBE,jBE,dF]
 refine h.outF (yS (T.sb.take 1) (T.sa.take i) fun x hx y hy=>?_)
 obtain⟨n,h1,h2⟩:=jD8 hx
 have:n=0:=by lia
 subst this
 exact cN (T.first y (b0 hy) x h2)
end
section
variable {prog:Program}{w:World}{A:Around}{E:Value->Shared->Prop}{s:Shared} [LtOk prog w A s]
theorem jJQ {st:SortSt}{a:Array Keyed}{i len hint:Nat}{p:Keyed}{Q:Option Nat->SortSt->Prop}(hk:kindOf st=Od.kd)(hp:IsI p)(ha:AllI a.toList)
  (sa:∀ n m x y,i<=n->n<=m->m<i+len->a[n]?=some x->a[m]?=some y->LE x y) (hh:hint<len) (hl:i+len<=a.size)
  (h:∀ k,k<=len->(∀ n x,i<=n->n<i+k->a[n]?=some x->LE x p)->(∀ n x,i+k<=n->n<i+len->a[n]?=some x->key p<key x)->Q (some k) st):
  wpS (model prog w) A E s (jBR false p a i len hint) Q st:=by
 refine jB2 hk hp (fun n hn=>?_) hh (fun n=>match a[i+n]? with | some x=>!decide (key p<key x) | none=>false) (fun n x hn hx=>?_) (fun n m hnm hm hb=>?_) fun k hk1 hk2 hk3=>h k (by lia) (fun n x h1 h2 h3=>?_) fun n x h1 h2 h3=>?_
 ·obtain⟨q,q1,q2⟩:=qH (a:=a) (i:=i+n) (by lia)
  exact⟨q,q1,ha q (aH q2)⟩
 ·rw[hx,ae aq]
 ·obtain⟨x,x1,x2⟩:=qH (a:=a) (i:=i+n) (by lia)
  obtain⟨y,y1,y2⟩:=qH (a:=a) (i:=i+m) (by lia)
  rw[y1] at hb
  rw[x1]
  have:=sa (i+n) (i+m) x y (by lia) (by lia) (by lia) x1 y1
  have hb:¬ key p<key y:=by simpa using hb
  show (!decide (key p<key x))=true
  rw[cC,b9]
  have:key x<=key y:=this
  lia
 ·have:=hk2 (n - i) (by lia)
  rw[show i+(n - i)=n by lia,h3] at this
  have this:¬ key p<key x:=by simpa using this
  show key x<=key p
  lia
 ·have:=hk3 (n - i) (by lia) (by lia)
  rw[show i+(n - i)=n by lia,h3] at this
  simpa using this
theorem jJR {st:SortSt}{a:Array Keyed}{i len hint:Nat}{p:Keyed}{Q:Option Nat->SortSt->Prop}(hk:kindOf st=Od.kd)(hp:IsI p)(ha:AllI a.toList)
  (sa:∀ n m x y,i<=n->n<=m->m<i+len->a[n]?=some x->a[m]?=some y->LE x y) (hh:hint<len) (hl:i+len<=a.size)
  (h:∀ k,k<=len->(∀ n x,i<=n->n<i+k->a[n]?=some x->key x<key p)->(∀ n x,i+k<=n->n<i+len->a[n]?=some x->LE p x)->Q (some k) st):
  wpS (model prog w) A E s (jBR true p a i len hint) Q st:=by
 refine jB2 hk hp (fun n hn=>?_) hh (fun n=>match a[i+n]? with | some x=>decide (key x<key p) | none=>false) (fun n x hn hx=>?_) (fun n m hnm hm hb=>?_) fun k hk1 hk2 hk3=>h k (by lia) (fun n x h1 h2 h3=>?_) fun n x h1 h2 h3=>?_
 ·obtain⟨q,q1,q2⟩:=qH (a:=a) (i:=i+n) (by lia)
  exact⟨q,q1,ha q (aH q2)⟩
 ·rw[hx,ah rfl]
 ·obtain⟨x,x1,x2⟩:=qH (a:=a) (i:=i+n) (by lia)
  obtain⟨y,y1,y2⟩:=qH (a:=a) (i:=i+m) (by lia)
  rw[y1] at hb
  rw[x1]
  have:=sa (i+n) (i+m) x y (by lia) (by lia) (by lia) x1 y1
  have hb:key y<key p:=az hb
  show decide (key x<key p)=true
  rw[bi]
  have:key x<=key y:=this
  lia
 ·have:=hk2 (n - i) (by lia)
  rw[show i+(n - i)=n by lia,h3] at this
  exact az this
 ·have:=hk3 (n - i) (by lia) (by lia)
  rw[show i+(n - i)=n by lia,h3] at this
  have this:¬ key x<key p:=dY this
  show key p<=key x
  lia
end
section
variable {prog:Program}{w:World}{A:Around}{E:Value->Shared->Prop}{s:Shared} [LtOk prog w A s]
structure HiI (a b:Array Keyed)(st:SortSt)(out:Array Keyed)(na nb:Nat)(st':SortSt):Prop where
 m:MH a b out na nb
 i:0<na
 ia:na<=a.size
 j:1<nb
 jb:nb<=b.size
 s:SG st st'
theorem whole {a:Array Keyed}(s:Srt a.toList){len:Nat} :∀ n m x y,0<=n->n<=m->m<0+len->a[n]?=some x->a[m]?=some y->LE x y:=fun n m x y _ h _ hx hy=>jEA s (at_list.mp hx) (at_list.mp hy) h
theorem jHI {a b:Array Keyed}{st:SortSt}{Q:Array Keyed->SortSt->Prop}(hk:kindOf st=Od.kd)(T:Two a b)(h:∀ r st',yJ a b r->SG st st'->Q r st'):wpS (model prog w) A E s (jFE a b) Q st:=by
 rw[mergeHiB.2]
 delta mergeHiB
 dsimp only
 simp only [elP,ltP,jI7,jLT]
 have na:=T.na
 have nb:=T.nb
 refine aI (iJ (dw ⟨rfl,?_⟩))
 obtain⟨p0,hp0,ip0⟩:=T.atA (i:=a.size - 1) (by lia)
 refine aI (jT hp0 ?_)
 have M0:MH a b #[p0] (a.size - 1) b.size:=by
  have z:MH a b #[] a.size b.size:=⟨by
   rw[show a.toList.take a.size=a.toList from bK (by simp),show b.toList.take b.size=b.toList from bK (by simp)]
   show ((a.toList++b.toList)++([]:List Keyed)).Perm _
   rw[bq],List.Pairwise.nil,fun x hx=>by cases hx⟩
  have:=MH.pushA T z (by lia) hp0 fun y hy=>cN (T.last y (b0 hy) p0 (at_list.mp hp0))
  exact this
 by_cases e1:a.size - 1=0
 ·rw[ah (bp e1)]
  rw[e1] at M0 ⊢
  exact aO (h _ _ (MH.doneA T M0) (SG.refl _))
 rw[ae (bn e1)]
 by_cases e2:b.size=1
 ·rw[ah (bp e2)]
  rw[e2] at M0 ⊢
  exact aO (h _ _ (MH.doneF T M0) (SG.refl _))
 rw[ae (bn e2)]
 refine aI (g6 ?_)
 refine aI (dz (cj (I:=fun x c st'=>∃ out na nb mg,c=(none,na,nb,out,mg)/\HiI a b st out na nb st'/\x+1<=a.size - na+(b.size - nb))
  (Q:=fun c st'=>∃ r,c.1=some r/\yJ a b r/\SG st st') ?step ?fin ⟨_,_,_,_,rfl,⟨M0,by lia,by lia,by lia,by lia,SG.refl _⟩,by lia⟩) ?post)
 case post=>
  rintro ⟨r0,c⟩ st' ⟨r,hr,d,g⟩
  have hr:r0=some r:=hr
  subst hr
  exact aO (h r st' d g)
 case fin=>
  rintro c st' ⟨out,na,nb,mg,rfl,I0,hx⟩
  have:=I0.i
  have:=I0.j
  lia
 case step=>
  rintro x c st1 _ hx ⟨out,na,nb,mg,rfl,I0,hxx⟩
  dsimp only
  refine aI (dz (cj (I:=fun y c st'=>∃ out' na' nb' ac bc,c=(none,na',nb',out',ac,bc)/\HiI a b st out' na' nb' st'/\na'+nb'<=na+nb/\(y=0\/na'+nb'<na+nb))
   (Q:=fun c st'=>(∃ r,c.1=some r/\yJ a b r/\SG st st')\/∃ out' na' nb' ac bc,c=(none,na',nb',out',ac,bc)/\HiI a b st out' na' nb' st'/\na'+nb'<na+nb) ?step1 ?fin1 ⟨_,_,_,_,_,rfl,I0,by lia, .inl rfl⟩) ?post1)
  case fin1=>
   rintro c st' ⟨out',na',nb',ac,bc,rfl,I1,h1,h2⟩
   exact .inr ⟨_,_,_,_,_,rfl,I1,by lia⟩
  case step1=>
   rintro y c st2 _ hy ⟨out',na',nb',ac,bc,rfl,I1,h1,h2⟩
   dsimp only
   have i0:=I1.i
   have i1:=I1.ia
   have j0:=I1.j
   have j1:=I1.jb
   obtain⟨pb,hpb,ipb⟩:=T.atB (i:=nb' - 1) (by lia)
   obtain⟨pa,hpa,ipa⟩:=T.atA (i:=na' - 1) (by lia)
   refine aI (jT hpb (aI (jT hpa (aI (jFX (I1.s.k.trans hk) ipb ipa ?_)))))
   dsimp only
   by_cases hlt:key pb<key pa
   ·rw[ay hlt,ah rfl]
    refine aI (jT hpa ?_)
    have M2:=MH.pushA T I1.m i0 hpa (jD6 T.sb hpb (cN hlt))
    by_cases f1:na' - 1=0
    ·rw[ah (bp f1)]
     rw[f1] at M2 ⊢
     exact aO (.inl ⟨_,rfl,MH.doneA T M2,I1.s⟩)
    rw[ae (bn f1)]
    split
    ·exact aO (.inr ⟨_,_,_,_,_,rfl,⟨M2,by lia,by lia,j0,j1,I1.s⟩,by lia⟩)
    ·exact aO ⟨_,_,_,_,_,rfl,⟨M2,by lia,by lia,j0,j1,I1.s⟩,by lia, .inr (by lia)⟩
   ·rw[aM hlt,ae aq]
    refine aI (jT hpb ?_)
    have M2:=MH.pushB T I1.m (by lia) hpb (jD6 T.sa hpa (by show key pa<=key pb; lia))
    by_cases f1:nb' - 1=1
    ·rw[ah (bp f1)]
     rw[f1] at M2 ⊢
     exact aO (.inl ⟨_,rfl,MH.doneF T M2,I1.s⟩)
    rw[ae (bn f1)]
    split
    ·exact aO (.inr ⟨_,_,_,_,_,rfl,⟨M2,i0,i1,by lia,by lia,I1.s⟩,by lia⟩)
    ·exact aO ⟨_,_,_,_,_,rfl,⟨M2,i0,i1,by lia,by lia,I1.s⟩,by lia, .inr (by lia)⟩
  case post1=>
   rintro c st2 (⟨r,hr,d,g⟩ | ⟨out1,na1,nb1,ac,bc,rfl,I1,h1⟩)
   ·obtain⟨r0,c⟩:=c
    have hr:r0=some r:=hr
    subst hr
    exact aO ⟨r,rfl,d,g⟩
   dsimp only
   refine aI (iJ (dw ⟨rfl,?_⟩))
   refine aI (dz (cj (I:=fun y c st'=>∃ out' na' nb' mg' ac bc,c=(none,na',nb',out',mg',ac,bc)/\HiI a b st out' na' nb' st'/\na'+nb'<na+nb)
    (Q:=fun c st'=>(∃ r,c.1=some r/\yJ a b r/\SG st st')\/∃ out' na' nb' mg' ac bc,c=(none,na',nb',out',mg',ac,bc)/\HiI a b st out' na' nb' st'/\na'+nb'<na+nb) ?step2 ?fin2 ⟨_,_,_,_,_,_,rfl,I1,h1⟩) ?post2)
   case fin2=>
    rintro c st' ⟨out',na',nb',mg',ac,bc,rfl,I2,h2⟩
    exact .inr ⟨_,_,_,_,_,_,rfl,I2,h2⟩
   case post2=>
    have q1:=I0.ia
    have q2:=I0.jb
    rintro c st3 (⟨r,hr,d,g⟩ | ⟨out2,na2,nb2,mg2,ac,bc,rfl,I2,h2⟩)
    ·obtain⟨r0,c⟩:=c
     have hr:r0=some r:=hr
     subst hr
     exact aO ⟨r,rfl,d,g⟩
    dsimp only
    rw[jA3]
    have q3:=I2.ia
    have q4:=I2.jb
    exact aI (fe (aO ⟨_,_,_,_,rfl,⟨I2.m,I2.i,I2.ia,I2.j,I2.jb,I2.s.gal _⟩,by lia⟩))
   case step2=>
    clear I0 I1
    rename_i na00 nb00
    generalize hbd:na+nb=bd
    clear hxx h1
    rintro y c st2 _ hy ⟨out,na,nb,mg',ac,bc,rfl,I0,h2⟩
    dsimp only
    obtain⟨pb,hpb,ipb⟩:=T.atB (i:=nb - 1) (by have:=I0.j; have:=I0.jb; lia)
    by_cases hg:mg'>1
    case' pos=>
     rw[ah hg]
     generalize hgg:mg' - 1=gg
    case' neg=>
     rw[ae hg]
     generalize hgg:mg'=gg
    all_goals
     rw[jA3]
     refine aI (fe ?_)
     have G1:=I0.s.gal gg
     have na0:=I0.i
     have na1:=I0.ia
     have nb0:=I0.j
     have nb1:=I0.jb
     refine aI (jT hpb ?_)
     refine aI (jJQ (G1.k.trans hk) ipb T.ia (whole T.sa) (by lia) (by lia) fun k1 g1 g2 g3=>?_)
     dsimp only
     have M1:=MH.appA T I0.m g1 (fun n x h1 h2 h3=>jD6 T.sb hpb (cN (g3 n x (by lia) (by lia) (at_list.mpr h3))))
     have hle:∀ y∈a.toList.take k1,LE y pb:=fun y hy=>by
      obtain⟨n,h1,h2⟩:=jD8 hy
      exact g2 n y (by lia) (by lia) (at_list.mpr h2)
     by_cases e0:na - k1>0
     case' pos=>
      rw[ah e0]
      by_cases f1:k1=0
      ·rw[ah (bp f1)]
       rw[f1] at M1 ⊢
       exact aO (.inl ⟨_,rfl,MH.doneA T M1,G1⟩)
      rw[ae (bn f1)]
      obtain⟨pa,hpa,ipa⟩:=T.atA (i:=k1 - 1) (by lia)
      have hz:0<k1:=by lia
      generalize hiz:k1=iz at*
     case' neg=>
      rw[ae e0]
      have e0':k1=na:=by lia
      subst e0'
      have M1:=I0.m
      obtain⟨pa,hpa,ipa⟩:=T.atA (i:=k1 - 1) (by lia)
      have hz:0<k1:=by lia
      generalize hiz:k1=iz at*
     all_goals
      refine aI (jT hpb ?_)
      have M2:=MH.pushB T M1 (by lia) hpb hle
      by_cases e1:nb - 1=1
      ·rw[ah (bp e1)]
       rw[e1] at M2 ⊢
       exact aO (.inl ⟨_,rfl,MH.doneF T M2,G1⟩)
      rw[ae (bn e1)]
      refine aI (jT hpa ?_)
      refine aI (jJR (G1.k.trans hk) ipa T.ib (whole T.sb) (by lia) (by lia) fun k2 l1 l2 l3=>?_)
      dsimp only
      have M3:=MH.appB T M2 l1 (fun n x h1 h2 h3=>jD6 T.sa hpa (l3 n x (by lia) (by lia) (at_list.mpr h3)))
      have fin3:∀ y∈b.toList.take k2,LE y pa:=fun y hy=>by
       obtain⟨n,h1,h2⟩:=jD8 hy
       exact cN (l2 n y (by lia) (by lia) (at_list.mpr h2))
      by_cases e2:nb - 1 - k2>0
      ·rw[ah e2]
       by_cases e3:k2=1
       ·rw[ah (bp e3)]
        rw[e3] at M3 ⊢
        exact aO (.inl ⟨_,rfl,MH.doneF T M3,G1⟩)
       rw[ae (bn e3)]
       by_cases e5:k2=0
       ·rw[ah (bp e5)]
        rw[e5] at M3 ⊢
        exact aO (.inl ⟨_,rfl,MH.doneB T M3,G1⟩)
       rw[ae (bn e5)]
       refine aI (jT hpa ?_)
       have M4:=MH.pushA T M3 hz hpa fin3
       by_cases e4:iz - 1=0
       ·rw[ah (bp e4)]
        rw[e4] at M4 ⊢
        exact aO (.inl ⟨_,rfl,MH.doneA T M4,G1⟩)
       rw[ae (bn e4)]
       split
       ·exact aO (.inr ⟨_,_,_,_,_,_,rfl,⟨M4,by lia,by lia,by lia,by lia,G1⟩,by lia⟩)
       ·exact aO ⟨_,_,_,_,_,_,rfl,⟨M4,by lia,by lia,by lia,by lia,G1⟩,by lia⟩
      ·rw[ae e2]
       have e0:k2=nb - 1:=by lia
       subst e0
       refine aI (jT hpa ?_)
       have M4:=MH.pushA T M2 hz hpa fin3
       by_cases e4:iz - 1=0
       ·rw[ah (bp e4)]
        rw[e4] at M4 ⊢
        exact aO (.inl ⟨_,rfl,MH.doneA T M4,G1⟩)
       rw[ae (bn e4)]
       split
       ·exact aO (.inr ⟨_,_,_,_,_,_,rfl,⟨M4,by lia,by lia,by lia,by lia,G1⟩,by lia⟩)
       ·exact aO ⟨_,_,_,_,_,_,rfl,⟨M4,by lia,by lia,by lia,by lia,G1⟩,by lia⟩
end
def KI (xs:Array Keyed)(i:Nat):Int:=match xs[i]? with
 | some p=>key p
 | none=>0
def STo (xs:Array Keyed)(k:Nat):Prop:=∀ i j,i<=j->j<k->KI xs i<=KI xs j
structure SB (a₀:Array Keyed)(st:SortSt):Prop where
 perm:(arrOf st).Perm a₀
 kind:kindOf st=Od.kd
 failed:failedOf st=none
 pend:pendingOf st=#[]
theorem SB.size {a₀:Array Keyed}{st:SortSt}(h:SB a₀ st):(arrOf st).size=a₀.size:=h.perm.size_eq
theorem jBG {xs ys:Array Keyed}{i j:Nat}(h:xs[i]?=ys[j]?):KI xs i=KI ys j:=by unfold KI; rw[h]
theorem jP0 {xs:Array Keyed}{src d:Nat}(hs:src<xs.size)(hd:d<=src)(k:Nat):
  KI (bubble xs src d) k=if k=src - d then KI xs src else if src - d<k/\k<=src then KI xs (k - 1) else KI xs k:=by
 have e:=getElem?_bubble hs d hd k
 by_cases h1:k=src - d
 ·rw[ah h1] at e ⊢; exact jBG e
 ·rw[ae h1] at e ⊢
  by_cases h2:src - d<k/\k<=src
  ·rw[ah h2] at e ⊢; exact jBG e
  ·rw[ae h2] at e ⊢; exact jBG e
theorem jC7 {xs:Array Keyed}{i j:Nat}(hj:j<=xs.size)(k:Nat):
  KI (mirror xs i j ((j - i) / 2)) k=if i<=k/\k<j then KI xs (i+j - 1 - k) else KI xs k:=by
 have e:=getElem?_mirror_all (i:=i) hj k
 by_cases h1:i<=k/\k<j
 ·rw[ah h1] at e
  rw[ah h1]
  exact jBG e
 ·rw[ae h1] at e
  rw[ae h1]
  exact jBG e
theorem jA1 {xs:Array Keyed}{i j:Nat}(hj:j<=xs.size)(heq:∀ k,i<=k->k<j->KI xs k=KI xs (j - 1))(k:Nat):
  KI (mirror xs i j ((j - i) / 2)) k=KI xs k:=by
 rw[jC7 hj]
 split
 ·rename_i h
  rw[heq _ (by lia) (by lia),heq k h.1 h.2]
 ·rfl
def Up (xs:Array Keyed)(lo n:Nat):Prop:=∀ i j,lo<=i->i<=j->j<lo+n->KI xs i<=KI xs j
def Dn (xs:Array Keyed)(lo n:Nat):Prop:=∀ i j,lo<=i->i<=j->j<lo+n->KI xs j<=KI xs i
structure BB (a₀:Array Keyed)(p:Array (Nat×Nat×Nat))(F:Nat->Int)(lo:Nat)(st:SortSt):Prop where
 perm:(arrOf st).Perm a₀
 kind:kindOf st=Od.kd
 failed:failedOf st=none
 pend:pendingOf st=p
 low:∀ k,k<lo->KI (arrOf st) k=F k
theorem jRD {a₀ xs:Array Keyed}(hp:xs.Perm a₀)(h0:AllI a₀.toList){i:Nat}(hi:i<a₀.size):∃ q,xs[i]?=some q/\IsI q/\key q=KI xs i:=by
 have hi':i<xs.size:=by rw[hp.size_eq]; exact hi
 have hm:xs[i]∈a₀.toList:=(dk.mp hp).mem_iff.mp (by simp)
 have e:xs[i]?=some xs[i]:=lE _ i hi'
 exact⟨xs[i],e,h0 _ hm,by unfold KI; rw[e]⟩
section
variable {prog:Program}{w:World}{A:Around}{E:Value->Shared->Prop}{s:Shared} [LtOk prog w A s]{a₀:Array Keyed}{p:Array (Nat×Nat×Nat)}{F:Nat->Int}{lo:Nat}
theorem BB.sz {st:SortSt}(h:BB a₀ p F lo st):(arrOf st).size=a₀.size:=h.perm.size_eq
theorem BB.arr {st:SortSt}(h:BB a₀ p F lo st){xs:Array Keyed}(hp:xs.Perm (arrOf st))(hl:∀ k,k<lo->KI xs k=KI (arrOf st) k):BB a₀ p F lo (setArr st xs):=
 ⟨hp.trans h.perm,h.kind,h.failed,h.pend,fun k hk=>(hl k hk).trans (h.low k hk)⟩
theorem jC8 {st:SortSt}{i j:Nat}{Q:Option Bool->SortSt->Prop}(hB:BB a₀ p F lo st)(h0:AllI a₀.toList)(hi:i<a₀.size)(hj:j<a₀.size)
  (h:Q (some (decide (KI (arrOf st) i<KI (arrOf st) j))) st):wpS (model prog w) A E s (ltAt' i j) Q st:=by
 obtain⟨x,e1,i1,k1⟩:=jRD hB.perm h0 hi
 obtain⟨y,e2,i2,k2⟩:=jRD hB.perm h0 hj
 rw[ltAt'_eq]
 refine aI (g6 ?_)
 show wpS _ _ _ _ (do let x <- elem' (arrOf st) i; let y <- elem' (arrOf st) j; lt' x y) Q st
 rw[elem'_eq,elem'_eq,e1,e2]
 refine aI (aO (aI (aO (jFX hB.kind i1 i2 ?_))))
 rw[k1,k2]
 exact h
theorem Up.one {xs:Array Keyed} :Up xs lo 1:=fun i j h1 h2 h3=>by
 have:i=j:=by lia
 rw[this]
 exact dE _
theorem Dn.one {xs:Array Keyed} :Dn xs lo 1:=fun i j h1 h2 h3=>by
 have:i=j:=by lia
 rw[this]
 exact dE _
theorem Up.more {xs:Array Keyed}{n:Nat}(h:Up xs lo n)(hn:0<n)(hc:KI xs (lo+n - 1)<=KI xs (lo+n)):Up xs lo (n+1):=fun i j h1 h2 h3=>by
 by_cases e:j<lo+n
 ·exact h i j h1 h2 e
 ·have ej:j=lo+n:=by lia
  subst ej
  by_cases ei:i=lo+n
  ·rw[ei]
   exact dE _
  ·exact dj (h i (lo+n - 1) h1 (by lia) (by lia)) hc
theorem Dn.more {xs:Array Keyed}{n:Nat}(h:Dn xs lo n)(hn:0<n)(hc:KI xs (lo+n)<=KI xs (lo+n - 1)):Dn xs lo (n+1):=fun i j h1 h2 h3=>by
 by_cases e:j<lo+n
 ·exact h i j h1 h2 e
 ·have ej:j=lo+n:=by lia
  subst ej
  by_cases ei:i=lo+n
  ·rw[ei]
   exact dE _
  ·exact dj hc (h i (lo+n - 1) h1 (by lia) (by lia))
theorem Dn.congr {xs ys:Array Keyed}{n:Nat}(h:Dn xs lo n)(e:∀ k,KI ys k=KI xs k):Dn ys lo n:=fun i j h1 h2 h3=>by
 rw[e i,e j]
 exact h i j h1 h2 h3
theorem jER {st:SortSt}{nrem:Nat}{Q:Option Nat->SortSt->Prop}(h0:AllI a₀.toList)(hn:lo+nrem<=a₀.size)(hn1:1<=nrem)(hB:BB a₀ p F lo st)
  (h:∀ m st',BB a₀ p F lo st'->1<=m->m<=nrem->Up (arrOf st') lo m->Q (some m) st'):wpS (model prog w) A E s (countRun' lo nrem) Q st:=by
 rw[countRun'_eq]
 dsimp only
 refine aI (dz (cj (I:=fun x c st'=>st'=st/\c=(none,x)/\Up (arrOf st) lo x)
  (Q:=fun c st'=>st'=st/\∃ n,c=(none,n)/\1<=n/\n<=nrem/\Up (arrOf st) lo n/\(n=nrem\/KI (arrOf st) (lo+n)<KI (arrOf st) (lo+n - 1))) ?step ?fin ⟨rfl,rfl,Up.one⟩) ?post)
 case fin=>
  rintro c st' ⟨rfl,rfl,hu⟩
  rw[show max 1 nrem=nrem by lia] at hu ⊢
  exact⟨rfl,nrem,rfl,hn1,ar _,hu, .inl rfl⟩
 case step=>
  rintro x c st' h1 h2 ⟨rfl,rfl,hu⟩
  dsimp only
  refine aI (jC8 hB h0 (by lia) (by lia) ?_)
  dsimp only
  by_cases hl:KI (arrOf st') (lo+x)<KI (arrOf st') (lo+x - 1)
  ·rw[ay hl,ah rfl]
   exact aO ⟨rfl,x,rfl,by lia,by lia,hu, .inr hl⟩
  ·rw[aM hl,ae aq]
   exact aO ⟨rfl,rfl,hu.more (by lia) (by lia)⟩
 case post=>
  rintro c st' ⟨rfl,n,rfl,n1,n2,hu,hor⟩
  dsimp only
  by_cases hnn:n=nrem
  ·rw[ah (bp hnn)]
   exact aO (h n st' hB n1 n2 hu)
  rw[ae (bn hnn)]
  have hlt:=hor.resolve_left hnn
  have hz:lo+n<=(arrOf st').size:=by rw[hB.sz]; lia
  by_cases hgt:n>1
  case' pos=>
   rw[ah hgt]
   refine aI (jC8 hB h0 (by lia) (by lia) ?_)
   dsimp only
   by_cases hr:KI (arrOf st') lo<KI (arrOf st') (lo+n - 1)
   ·rw[ay hr,ah rfl]
    exact aO (h n st' hB n1 n2 hu)
   rw[aM hr,ae aq]
   have hall:∀ k,lo<=k->k<lo+n->KI (arrOf st') k=KI (arrOf st') (lo+n - 1):=fun k h1 h2=>by
    have a1:=hu lo k (by lia) h1 h2
    have a2:=hu k (lo+n - 1) h1 (by lia) (by lia)
    lia
   refine aI (wpS_reverse ?_)
   have hB1:=hB.arr (xs:=mirror (arrOf st') lo (lo+n) ((lo+n - lo) / 2)) (mirror_perm _ _ _ _) fun k _=>jA1 hz hall k
   have hs0:Dn (arrOf st') lo n:=fun i j h1 h2 h3=>by
    rw[hall i h1 (by lia),hall j (by lia) h3]
    exact dE _
   have hs1:Dn (arrOf (setArr st' (mirror (arrOf st') lo (lo+n) ((lo+n - lo) / 2)))) lo (n+1):=(hs0.more (by lia) (cN hlt)).congr (jA1 hz hall)
   generalize setArr st' (mirror (arrOf st') lo (lo+n) ((lo+n - lo) / 2))=st1 at*
  case' neg=>
   rw[ae hgt]
   have en:n=1:=by lia
   have hB1:=hB
   have hs1:Dn (arrOf st') lo (n+1):=by
    rw[en] at hlt ⊢
    exact Dn.one.more (by lia) (cN hlt)
  all_goals
   refine aI (iJ (dw ⟨rfl,?_⟩))
   refine aI (dz (cj (I:=fun x c st'=>∃ q,c=(none,x,q)/\BB a₀ p F lo st'/\Dn (arrOf st') lo x/\q+1<=x/\∀ i,lo+x - (q+1)<=i->i<lo+x->KI (arrOf st') i=KI (arrOf st') (lo+x - 1))
    (Q:=fun c st'=>∃ m q,c=(none,m,q)/\1<=m/\m<=nrem/\BB a₀ p F lo st'/\Dn (arrOf st') lo m/\q+1<=m/\∀ i,lo+m - (q+1)<=i->i<lo+m->KI (arrOf st') i=KI (arrOf st') (lo+m - 1)) ?dstep ?dfin ⟨0,rfl,hB1,hs1,by lia,fun i h1 h2=>by congr 1; lia⟩) ?dpost)
   case dfin=>
    rintro c st' ⟨q,rfl,hb,hd,hq,he⟩
    rw[show max (n+1) nrem=nrem by lia] at hd hq he ⊢
    exact⟨nrem,q,rfl,by lia,by lia,hb,hd,hq,he⟩
   case dstep=>
    rintro x c st' h1 h2 ⟨q,rfl,hb,hd,hq,he⟩
    dsimp only
    have hz:lo+x<=(arrOf st').size:=by rw[hb.sz]; lia
    refine aI (jC8 hb h0 (by lia) (by lia) ?_)
    dsimp only
    by_cases hl:KI (arrOf st') (lo+x)<KI (arrOf st') (lo+x - 1)
    ·rw[ay hl,ah rfl]
     have d1:=hd.more (by lia) (cN hl)
     by_cases hq0:q>0
     ·rw[ah hq0]
      refine aI (wpS_reverse (aO ⟨0,rfl,hb.arr (mirror_perm _ _ _ _) fun k _=>jA1 hz he k,d1.congr (jA1 hz he),by lia,fun i h1 h2=>by congr 1; lia⟩))
     ·rw[ae hq0]
      exact aO ⟨0,rfl,hb,d1,by lia,fun i h1 h2=>by congr 1; lia⟩
    ·rw[aM hl,ae aq]
     refine aI (jC8 hb h0 (by lia) (by lia) ?_)
     dsimp only
     by_cases hg:KI (arrOf st') (lo+x - 1)<KI (arrOf st') (lo+x)
     ·rw[ay hg,ah rfl]
      exact aO ⟨x,q,rfl,by lia,by lia,hb,hd,hq,he⟩
     ·rw[aM hg,ae aq]
      have ex:KI (arrOf st') (lo+x)=KI (arrOf st') (lo+x - 1):=by lia
      refine aO ⟨q+1,rfl,hb,hd.more (by lia) (by lia),by lia,fun i h1 h2=>?_⟩
      rw[show lo+(x+1) - 1=lo+x by lia]
      by_cases hix:i=lo+x
      ·rw[hix]
      ·rw[ex]
       exact he i (by lia) (by lia)
   case dpost=>
    rintro c st2 ⟨m,q,rfl,m1,m2,hB2,hs2,hq,he⟩
    dsimp only
    have hz2:lo+m<=(arrOf st2).size:=by rw[hB2.sz]; lia
    by_cases hq0:q>0
    case' pos=>
     rw[ah hq0]
     refine aI (wpS_reverse ?_)
     have hB3:=hB2.arr (xs:=mirror (arrOf st2) (lo+m - (q+1)) (lo+m) ((lo+m - (lo+m - (q+1))) / 2)) (mirror_perm _ _ _ _) fun k _=>jA1 hz2 he k
     have hs3:Dn (arrOf (setArr st2 (mirror (arrOf st2) (lo+m - (q+1)) (lo+m) ((lo+m - (lo+m - (q+1))) / 2)))) lo m:=hs2.congr (jA1 hz2 he)
     generalize setArr st2 (mirror (arrOf st2) (lo+m - (q+1)) (lo+m) ((lo+m - (lo+m - (q+1))) / 2))=st3 at*
    case' neg=>
     rw[ae hq0]
     have hB3:=hB2
     have hs3:=hs2
     generalize st2=st3 at*
    all_goals
     have hz3:lo+m<=(arrOf st3).size:=by rw[hB3.sz]; lia
     refine aI (wpS_reverse ?_)
     have hB4:=hB3.arr (xs:=mirror (arrOf st3) lo (lo+m) ((lo+m - lo) / 2)) (mirror_perm _ _ _ _) fun k hk=>by
      rw[jC7 hz3,ae (by lia)]
     have hU:Up (mirror (arrOf st3) lo (lo+m) ((lo+m - lo) / 2)) lo m:=fun i j h1 h2 h3=>by
      rw[jC7 hz3,jC7 hz3,ah ⟨h1,by lia⟩,ah ⟨by lia,h3⟩]
      exact hs3 _ _ (by lia) (by lia) (by lia)
     generalize mirror (arrOf st3) lo (lo+m) ((lo+m - lo) / 2)=xs4 at*
     refine aI (dz (cj (I:=fun x c st'=>st'=setArr st3 xs4/\c=(none,x)/\Up xs4 lo x)
      (Q:=fun c st'=>st'=setArr st3 xs4/\∃ n,c=(none,n)/\1<=n/\n<=nrem/\Up xs4 lo n) ?tstep ?tfin ⟨rfl,rfl,hU⟩) ?tpost)
     case tfin=>
      rintro c st' ⟨rfl,rfl,hu⟩
      rw[show max m nrem=nrem by lia] at hu ⊢
      exact⟨rfl,nrem,rfl,by lia,by lia,hu⟩
     case tstep=>
      rintro x c st' h1 h2 ⟨rfl,rfl,hu⟩
      dsimp only
      refine aI (jC8 hB4 h0 (by lia) (by lia) ?_)
      dsimp only
      by_cases hl:KI xs4 (lo+x)<KI xs4 (lo+x - 1)
      ·rw[ay hl,ah rfl]
       exact aO ⟨rfl,x,rfl,by lia,by lia,hu⟩
      ·rw[aM hl,ae aq]
       exact aO ⟨rfl,rfl,hu.more (by lia) (by lia)⟩
     case tpost=>
      rintro c st' ⟨rfl,n,rfl,n1,n2,hu⟩
      exact aO (h n _ hB4 n1 n2 hu)
theorem jDH {st:SortSt}{n ok:Nat}{Q:Bool->SortSt->Prop}(h0:AllI a₀.toList)(hn:lo+n<=a₀.size)(hok:ok<=n)(hB:BB a₀ p F lo st)(hs:Up (arrOf st) lo ok)
  (h:∀ st',BB a₀ p F lo st'->Up (arrOf st') lo n->Q true st'):wpS (model prog w) A E s (binarySort' lo n ok) Q st:=by
 rw[binarySort'_eq]
 dsimp only
 refine aI (dz (cj (I:=fun k c st'=>c=(none,())/\BB a₀ p F lo st'/\Up (arrOf st') lo (min k n))
  (Q:=fun c st'=>c=(none,())/\BB a₀ p F lo st'/\Up (arrOf st') lo n) ?step ?fin ⟨rfl,hB,?init⟩) ?post)
 case post=>
  rintro c st' ⟨rfl,hb,hu⟩
  exact aO (h st' hb hu)
 case init=>
  by_cases e:ok=0
  ·intro i j h1 h2 h3
   have:i=j:=by lia
   rw[this]
   exact dE _
  ·exact fun i j h1 h2 h3=>hs i j h1 h2 (by lia)
 case fin=>
  rintro c st' ⟨hc,hb,hu⟩
  rw[show min (max (max ok 1) n) n=n by lia] at hu
  exact⟨hc,hb,hu⟩
 case step=>
  rintro k c st1 hk1 hk2 ⟨rfl,hb,hu⟩
  rw[show min k n=k by lia] at hu
  refine aI (dz (cj (I:=fun x c st'=>st'=st1/\∃ l r,c=(none,l,r)/\l<=r/\r<=k/\r - l<=k - x/\
    (∀ i,i<l->KI (arrOf st1) (lo+i)<=KI (arrOf st1) (lo+k))/\∀ i,r<=i->i<k->KI (arrOf st1) (lo+k)<KI (arrOf st1) (lo+i))
   (Q:=fun c st'=>st'=st1/\∃ l r,c=(none,l,r)/\l<=k/\
    (∀ i,i<l->KI (arrOf st1) (lo+i)<=KI (arrOf st1) (lo+k))/\∀ i,l<=i->i<k->KI (arrOf st1) (lo+k)<KI (arrOf st1) (lo+i)) ?step1 ?fin1 ⟨rfl,0,k,rfl,by lia,by lia,by lia,fun i hi=>by lia,fun i h1 h2=>by lia⟩) ?post1)
  case fin1=>
   rintro c st' ⟨rfl,l,r,rfl,b1,b2,b3,b4,b5⟩
   have:l=r:=by lia
   subst this
   exact⟨rfl,l,l,rfl,b2,b4,b5⟩
  case step1=>
   rintro x c st' _ hx ⟨rfl,l,r,rfl,b1,b2,b3,b4,b5⟩
   dsimp only
   by_cases hge:l ≥ r
   ·rw[ah hge]
    have:l=r:=by lia
    subst this
    exact aO ⟨rfl,l,l,rfl,b2,b4,b5⟩
   rw[ae hge]
   refine aI (jC8 hb h0 (by lia) (by lia) ?_)
   dsimp only
   by_cases hl:KI (arrOf st') (lo+k)<KI (arrOf st') (lo+(l+r) / 2)
   ·rw[ay hl,ah rfl]
    exact aO ⟨rfl,l,(l+r) / 2,rfl,by lia,by lia,by lia,b4,fun i h1 h2=>Int.lt_of_lt_of_le hl (hu _ _ (by lia) (by lia) (by lia))⟩
   ·rw[aM hl,ae aq]
    exact aO ⟨rfl,(l+r) / 2+1,r,rfl,by lia,by lia,by lia,fun i h1=>dj (hu (lo+i) (lo+(l+r) / 2) (by lia) (by lia) (by lia)) (Int.not_lt.mp hl),b5⟩
  case post1=>
   rintro c st' ⟨rfl,l,r,rfl,hlk,b4,b5⟩
   dsimp only
   rw[moveDown'_eq]
   have hks:lo+k<(arrOf st').size:=by rw[hb.sz]; lia
   have kb:∀ x,KI (bubble (arrOf st') (lo+k) (lo+k - (lo+l))) x=if x=lo+l then KI (arrOf st') (lo+k) else if lo+l<x/\x<=lo+k then KI (arrOf st') (x - 1) else KI (arrOf st') x:=fun x=>by
    have:=jP0 hks (d:=lo+k - (lo+l)) (by lia) x
    rw[show lo+k - (lo+k - (lo+l))=lo+l by lia] at this
    exact this
   refine aI (fe (aO ⟨rfl,hb.arr (bubble_perm _ _ _) fun x hx=>?_,?_⟩))
   ·rw[kb,ae (by lia),ae (by lia)]
   rw[show min (k+1) n=k+1 by lia]
   intro i j h1 h2 h3
   show KI (bubble _ _ _) i<=KI (bubble _ _ _) j
   rw[kb,kb]
   have lo1:∀ i,lo<=i->i<lo+l->KI (arrOf st') i<=KI (arrOf st') (lo+k):=fun i h1 h2=>by
    have:=b4 (i - lo) (by lia)
    rw[show lo+(i - lo)=i by lia] at this
    exact this
   have hi1:∀ i,lo+l<=i->i<lo+k->KI (arrOf st') (lo+k)<=KI (arrOf st') i:=fun i h1 h2=>by
    have:=b5 (i - lo) (by lia) (by lia)
    rw[show lo+(i - lo)=i by lia] at this
    exact cN this
   repeat' split
   all_goals first
    | (exfalso; lia)
    | exact dE _
    | exact lo1 _ (by lia) (by lia)
    | exact hi1 _ (by lia) (by lia)
    | exact hu _ _ (by lia) (by lia) (by lia)
end
def mergeAtB: { g:Nat->StateT SortSt Sem Bool // mergeAt'=g} :=⟨fun _=>bind _ _,rfl⟩
theorem KI_key {xs:Array Keyed}{i:Nat}{p:Keyed}(h:xs[i]?=some p):KI xs i=key p:=by
 unfold KI
 rw[h]
theorem jIX (s1:Nat):∀ (l:List Keyed) (j0:Nat) (a:Array Keyed) (P M S:List Keyed),P.length=s1+j0->M.length=l.length->a.toList=P++(M++S)->
  ((l.zipIdx j0).foldl (fun (a:Array Keyed) (x:Keyed×Nat)=>a.setIfInBounds (s1+x.2) x.1) a).toList=P++(l++S)
 | [],j0,a,P,M,S,h1,h2,h3=>by
  rw[hG h2] at h3
  exact h3
 | q::l,j0,a,P,[],S,h1,h2,h3=>by cases h2
 | q::l,j0,a,P,m::M,S,h1,h2,h3=>by
  rw[List.zipIdx_cons,List.foldl_cons]
  have:=jIX s1 l (j0+1) (a.setIfInBounds (s1+j0) q) (P++[q]) M S (by rw[aC,h1]; rfl) (Nat.succ.inj h2) (by
   rw[iK,h3,<- h1,ke _ _ (ar _),iu,be]
   rfl)
  rw[this,be]
  rfl
theorem jTB {P m1 m2 S:List Keyed}(e:m1.length=m2.length){k:Nat}(h:k<P.length\/P.length+m1.length<=k):(P++(m1++S))[k]?=(P++(m2++S))[k]?:=by
 rcases h with h | h
 ·rw[cf h,cf h]
 ·rw[bv (by lia),bv (by lia),bv (by lia),bv (by lia),e]
theorem jVN {P m S:List Keyed}{k:Nat}(h1:P.length<=k)(h2:k<P.length+m.length):(P++(m++S))[k]?=m[k - P.length]?:=by
 rw[bv h1,cf (by lia)]
theorem jJT {xs:Array Keyed}{i j t:Nat}(h:t<j - i):(xs.extract i j).toList[t]?=xs[i+t]?:=by
 rw[jAK,cy h,iI,bU]
theorem jCJ {xs:Array Keyed}{i j:Nat}{p:Keyed}(h:p∈(xs.extract i j).toList):∃ t,i<=t/\t<j/\xs[t]?=some p:=by
 rw[jAK] at h
 obtain⟨t,h1,h2,h3⟩:=jA5 h
 exact⟨t,h1,by lia,at_list.mpr h3⟩
theorem jDY {xs:Array Keyed}{i j:Nat}(h:j<=xs.size):(xs.extract i j).size=j - i:=by
 rw[Array.size_extract]
 lia
theorem jO6 {xs:Array Keyed}{i j:Nat}(h:∀ n m x y,i<=n->n<=m->m<j->xs[n]?=some x->xs[m]?=some y->LE x y):Srt (xs.extract i j).toList:=by
 refine bW.mpr fun a b ha hb hab=>?_
 have hl:(xs.extract i j).toList.length<=j - i:=by rw[jAK,bE]; lia
 have e1:=jJT (xs:=xs) (i:=i) (j:=j) (t:=a) (by lia)
 have e2:=jJT (xs:=xs) (i:=i) (j:=j) (t:=b) (by lia)
 rw[ak ha] at e1
 rw[ak hb] at e2
 exact h (i+a) (i+b) _ _ (by lia) (by lia) (by lia) e1.symm e2.symm
theorem KI_at {xs ys:Array Keyed}{i j:Nat}(h:xs.toList[i]?=ys.toList[j]?):KI xs i=KI ys j:=jBG (by rw[<- bU,<- bU]; exact h)
theorem jKF {xs r R:Array Keyed}{sa na sb nb k1 k2:Nat}(hsb:sb=sa+na)(hk1:k1<na)(hk2:0<k2)(hk2':k2<=nb)(hz:sb+nb<=xs.size)
  (u1:Up xs sa na) (u2:Up xs sb nb) (g2:∀ t,sa<=t->t<sa+k1->KI xs t<=KI xs sb) (l3:∀ t,sb+k2<=t->t<sb+nb->KI xs (sb - 1)<=KI xs t)
  (D:yJ (xs.extract (sa+k1) sb) (xs.extract sb (sb+k2)) r)
  (hR:R.toList=xs.toList.take (sa+k1)++(r.toList++xs.toList.drop (sb+k2))):
  R.Perm xs/\(∀ k,k<sa\/sa+(na+nb)<=k->KI R k=KI xs k)/\Up R sa (na+nb):=by
 have lr:r.toList.length=sb+k2 - (sa+k1):=by
  rw[D.1.length_eq,aC,aV,aV,jDY (by lia),jDY (by lia)]
  lia
 have lP:(xs.toList.take (sa+k1)).length=sa+k1:=by rw[bE,aV]; lia
 have hX:xs.toList=xs.toList.take (sa+k1)++(((xs.extract (sa+k1) sb).toList++(xs.extract sb (sb+k2)).toList)++xs.toList.drop (sb+k2)):=by
  have a1:=bz (sa+k1) xs.toList
  have a2:=bz (sb - (sa+k1)) (xs.toList.drop (sa+k1))
  have a3:=bz k2 (xs.toList.drop sb)
  rw[iH] at a2 a3
  rw[show sa+k1+(sb - (sa+k1))=sb by lia] at a2
  rw[jAK,jAK,da,be,a3,a2,a1]
 have lm:((xs.extract (sa+k1) sb).toList++(xs.extract sb (sb+k2)).toList).length=r.toList.length:=D.1.length_eq.symm
 have out:∀ k,k<sa+k1\/sb+k2<=k->KI R k=KI xs k:=fun k hk=>KI_at (by
  have:=jTB (P:=xs.toList.take (sa+k1)) (S:=xs.toList.drop (sb+k2)) lm.symm (k:=k) (by rw[lP,lr]; lia)
  exact(bX (·[k]?) hR).trans (this.trans (bX (·[k]?) hX).symm))
 have inn:∀ k,sa+k1<=k->k<sb+k2->R.toList[k]?=r.toList[k - (sa+k1)]?:=fun k h1 h2=>by
  rw[hR,jVN (by rw[lP]; exact h1) (by rw[lP,lr]; lia),lP]
 have mem:∀ k,sa+k1<=k->k<sb+k2->∃ t,sa+k1<=t/\t<sb+k2/\KI R k=KI xs t:=fun k h1 h2=>by
  have hk:k - (sa+k1)<r.toList.length:=by lia
  have e:=inn k h1 h2
  rw[ak hk] at e
  have hm:=D.1.mem_iff.mp (cM hk)
  rcases aR.mp hm with q | q
  ·obtain⟨t,t1,t2,t3⟩:=jCJ q
   exact⟨t,t1,by lia,(KI_key (at_list.mpr e)).trans (KI_key t3).symm⟩
  ·obtain⟨t,t1,t2,t3⟩:=jCJ q
   exact⟨t,by lia,t2,(KI_key (at_list.mpr e)).trans (KI_key t3).symm⟩
 have srt:∀ i j,sa+k1<=i->i<=j->j<sb+k2->KI R i<=KI R j:=fun i j h1 h2 h3=>by
  have hi:i - (sa+k1)<r.toList.length:=by lia
  have hj:j - (sa+k1)<r.toList.length:=by lia
  have e1:=inn i h1 (by lia)
  have e2:=inn j (by lia) h3
  rw[ak hi] at e1
  rw[ak hj] at e2
  rw[KI_key (at_list.mpr e1),KI_key (at_list.mpr e2)]
  exact jEA D.2 (ak hi) (ak hj) (by lia)
 have low:∀ t u,sa<=t->t<sa+k1->t<=u->u<sb+nb->KI xs t<=KI xs u:=fun t u h1 h2 h3 h4=>by
  by_cases e:u<sb
  ·exact u1 t u h1 h3 (by lia)
  ·exact dj (g2 t h1 h2) (u2 sb u (ar _) (by lia) h4)
 have high:∀ t u,sa<=t->t<=u->sb+k2<=u->u<sb+nb->KI xs t<=KI xs u:=fun t u h1 h2 h3 h4=>by
  by_cases e:t<sb
  ·exact dj (u1 t (sb - 1) h1 (by lia) (by lia)) (l3 u h3 h4)
  ·exact u2 t u (by lia) h2 h4
 refine⟨?_,fun k hk=>out k (by lia),fun i j h1 h2 h3=>?_⟩
 ·refine dk.mpr ?_
  rw[hR]
  refine List.Perm.trans ?_ (ge hX.symm)
  exact dv _ (gC _ D.1)
 ·have h3:j<sb+nb:=by lia
  by_cases i1:i<sa+k1
  ·rw[out i (.inl i1)]
   by_cases j1:j<sa+k1
   ·rw[out j (.inl j1)]
    exact low i j h1 i1 h2 h3
   by_cases j2:j<sb+k2
   ·obtain⟨t,t1,t2,t3⟩:=mem j (by lia) j2
    rw[t3]
    exact low i t h1 i1 (by lia) (by lia)
   ·rw[out j (.inr (by lia))]
    exact low i j h1 i1 h2 h3
  by_cases i2:i<sb+k2
  ·by_cases j2:j<sb+k2
   ·exact srt i j (by lia) h2 j2
   ·obtain⟨t,t1,t2,t3⟩:=mem i (by lia) i2
    rw[t3,out j (.inr (by lia))]
    exact high t j (by lia) (by lia) (by lia) h3
  ·rw[out i (.inr (by lia)),out j (.inr (by lia))]
   exact high i j h1 h2 (by lia) h3
section
variable {prog:Program}{w:World}{A:Around}{E:Value->Shared->Prop}{s:Shared} [LtOk prog w A s]
theorem jRS {st st':SortSt}{Q:PUnit->SortSt->Prop}(h:Q ⟨⟩ st'):wpS (model prog w) A E s (set st':StateT SortSt Sem PUnit) Q st:=fe (f:=fun _=>st') h
theorem jKX {α:Type}{a b:α}{Q:α->SortSt->Prop}{st:SortSt}(e:a=b)(h:Q b st):wpS (model prog w) A E s (pure a:StateT SortSt Sem α) Q st:=aO (e ▸ h)
structure Merged (st st':SortSt)(i sa na sb nb pw:Nat):Prop where
 perm:(arrOf st').Perm (arrOf st)
 kind:kindOf st'=Od.kd
 failed:failedOf st'=none
 pend:pendingOf st'=((pendingOf st).setIfInBounds i (sa,na+nb,pw)).eraseIdxIfInBounds (i+1)
 out:∀ k,k<sa\/sa+(na+nb)<=k->KI (arrOf st') k=KI (arrOf st) k
 up:Up (arrOf st') sa (na+nb)
theorem jHJ {st:SortSt}{i sa na pw sb nb w2:Nat}{Q:Bool->SortSt->Prop}(hk:kindOf st=Od.kd)(hf:failedOf st=none)(hI:AllI (arrOf st).toList)
  (h1:(pendingOf st)[i]?=some (sa,na,pw)) (h2:(pendingOf st)[i+1]?=some (sb,nb,w2)) (hsb:sb=sa+na) (hna:0<na) (hnb:0<nb) (hz:sb+nb<=(arrOf st).size)
  (u1:Up (arrOf st) sa na) (u2:Up (arrOf st) sb nb) (h:∀ st',Merged st st' i sa na sb nb pw->Q true st'):wpS (model prog w) A E s (mergeAt' i) Q st:=by
 rw[mergeAtB.2]
 delta mergeAtB
 dsimp only
 simp only [elP,ltP,ltAtP,jI7,jPR,jPS]
 refine aI (g6 ?_)
 rw[h1,h2]
 dsimp only
 refine aI (jRS ?_)
 generalize hpp:((pendingOf st).setIfInBounds i (sa,na+nb,pw)).eraseIdxIfInBounds (i+1)=pp
 show wpS _ _ _ _ _ _ (SortSt.mk' (kindOf st) (arrOf st) pp (gallopOf st) (failedOf st))
 generalize hst1:SortSt.mk' (kindOf st) (arrOf st) pp (gallopOf st) (failedOf st)=st1
 have G1:kindOf st1=kindOf st/\arrOf st1=arrOf st/\pendingOf st1=pp/\failedOf st1=failedOf st:=by rw[<- hst1]; exact⟨rfl,rfl,rfl,rfl⟩
 have at_:∀ t,t<(arrOf st).size->∃ q,(arrOf st)[t]?=some q/\IsI q:=fun t ht=>by
  obtain⟨q,q1,q2⟩:=qH ht
  exact⟨q,q1,hI q (aH q2)⟩
 have m1:∀ n m x y,sa<=n->n<=m->m<sa+na->(arrOf st)[n]?=some x->(arrOf st)[m]?=some y->LE x y:=fun n m x y a1 a2 a3 hx hy=>by
  have:=u1 n m a1 a2 a3
  rw[KI_key hx,KI_key hy] at this
  exact this
 have m2:∀ n m x y,sb<=n->n<=m->m<sb+nb->(arrOf st)[n]?=some x->(arrOf st)[m]?=some y->LE x y:=fun n m x y a1 a2 a3 hx hy=>by
  have:=u2 n m a1 a2 a3
  rw[KI_key hx,KI_key hy] at this
  exact this
 obtain⟨pb,hpb,ipb⟩:=at_ sb (by lia)
 refine aI (jT hpb ?_)
 refine aI (jJQ (G1.1.trans hk) ipb hI m1 hna (show sa+na<=(arrOf st).size by lia) fun k1 g1 g2 g3=>?_)
 dsimp only
 have g2:∀ t,sa<=t->t<sa+k1->KI (arrOf st) t<=KI (arrOf st) sb:=fun t t1 t2=>by
  obtain⟨q,hq,_⟩:=at_ t (by lia)
  rw[KI_key hq,KI_key hpb]
  exact g2 t q t1 t2 hq
 by_cases e1:na - k1=0
 ·rw[ah (bp e1)]
  refine aO (h _ ⟨?_,G1.1.trans hk,G1.2.2.2.trans hf,G1.2.2.1.trans hpp.symm,fun k _=>?_,?_⟩)
  ·rw[G1.2.1]
  ·rw[G1.2.1]
  ·rw[G1.2.1]
   intro i j i1 i2 i3
   by_cases a:i<sb
   ·by_cases b:j<sb
    ·exact u1 i j i1 i2 (by lia)
    ·exact dj (g2 i i1 (by lia)) (u2 sb j (ar _) (by lia) (by lia))
   ·exact u2 i j (by lia) i2 (by lia)
 rw[ae (bn e1)]
 obtain⟨pa,hpa,ipa⟩:=at_ (sa+k1+(na - k1) - 1) (by lia)
 refine aI (jT hpa ?_)
 refine aI (jJR (G1.1.trans hk) ipa hI m2 (by lia) (show sb+nb<=(arrOf st).size by lia) fun k2 l1 l2 l3=>?_)
 dsimp only
 have epa:sa+k1+(na - k1) - 1=sb - 1:=by lia
 rw[epa] at hpa
 have l3':∀ t,sb+k2<=t->t<sb+nb->KI (arrOf st) (sb - 1)<=KI (arrOf st) t:=fun t t1 t2=>by
  obtain⟨q,hq,_⟩:=at_ t (by lia)
  rw[KI_key hq,KI_key hpa]
  exact l3 t q t1 t2 hq
 by_cases e2:k2=0
 ·rw[ah (bp e2)]
  refine aO (h _ ⟨?_,G1.1.trans hk,G1.2.2.2.trans hf,G1.2.2.1.trans hpp.symm,fun k _=>?_,?_⟩)
  ·rw[G1.2.1]
  ·rw[G1.2.1]
  ·rw[G1.2.1]
   intro i j i1 i2 i3
   by_cases a:i<sb
   ·by_cases b:j<sb
    ·exact u1 i j i1 i2 (by lia)
    ·exact dj (u1 i (sb - 1) i1 (by lia) (by lia)) (l3' j (by lia) (by lia))
   ·exact u2 i j (by lia) i2 (by lia)
 rw[ae (bn e2)]
 have T:Two ((arrOf st).extract (sa+k1) sb) ((arrOf st).extract sb (sb+k2)):=by
  refine⟨fun q hq=>?_,fun q hq=>?_,jO6 fun n m x y a1 a2 a3=>m1 n m x y (by lia) a2 (by lia),jO6 fun n m x y a1 a2 a3=>m2 n m x y (by lia) a2 (by lia),?_,?_,fun x hx y hy=>?_,fun y hy q hq=>?_⟩
  ·obtain⟨t,_,_,t3⟩:=jCJ hq
   exact hI q (aH (at_list.mp t3))
  ·obtain⟨t,_,_,t3⟩:=jCJ hq
   exact hI q (aH (at_list.mp t3))
  ·rw[jDY (by lia)]; lia
  ·rw[jDY (by lia)]; lia
  ·obtain⟨t,t1,t2,t3⟩:=jCJ hx
   rw[jDY (by lia),jJT (by lia),show sa+k1+(sb - (sa+k1) - 1)=sb - 1 by lia,hpa] at hy
   cases hy
   exact l2 t x t1 t2 t3
  ·obtain⟨t,t1,t2,t3⟩:=jCJ hy
   rw[jJT (by lia),cx,hpb] at hq
   cases hq
   exact g3 t y t1 (by lia) t3
 by_cases e3:na - k1<=k2
 case' pos=>
  rw[ah e3]
  refine aI (jHH (G1.1.trans hk) T fun r st2 D G0=>?_)
  have G:SG (SortSt.mk' (kindOf st) (arrOf st) pp (gallopOf st) (failedOf st)) st2:=by rw[hst1]; exact G0
  subst hpp
 case' neg=>
  rw[ae e3]
  refine aI (jHI (G1.1.trans hk) T fun r st2 D G0=>?_)
  have G:SG (SortSt.mk' (kindOf st) (arrOf st) pp (gallopOf st) (failedOf st)) st2:=by rw[hst1]; exact G0
  subst hpp
 all_goals
  refine aI (fe (aI (g6 ?_)))
  have ea:arrOf st2=arrOf st:=G.a
  have W:=jKF (R:=((r.toList.zipIdx 0).foldl (fun (a:Array Keyed) (x:Keyed×Nat)=>a.setIfInBounds (sa+k1+x.2) x.1) (arrOf st))) hsb (by lia) (by lia) l1 hz u1 u2 g2 l3' D (jIX (sa+k1) r.toList 0 (arrOf st) ((arrOf st).toList.take (sa+k1)) (((arrOf st).extract (sa+k1) sb).toList++((arrOf st).extract sb (sb+k2)).toList) ((arrOf st).toList.drop (sb+k2)) (by rw[bE,aV]; lia) D.1.length_eq.symm (by
   have a1:=bz (sa+k1) (arrOf st).toList
   have a2:=bz (sb - (sa+k1)) ((arrOf st).toList.drop (sa+k1))
   have a3:=bz k2 ((arrOf st).toList.drop sb)
   rw[iH] at a2 a3
   rw[show sa+k1+(sb - (sa+k1))=sb by lia] at a2
   rw[jAK,jAK,da,be,a3,a2,a1]))
  rw[<- ea] at W
  refine jKX (by show (failedOf st2).isNone=true; rw[G.f]; show (failedOf st).isNone=true; rw[hf]; rfl) (h _ ⟨?_,G.k.trans hk,G.f.trans hf,G.p,?_,?_⟩)
  ·rw[<- ea]
   exact W.1
  ·rw[<- ea]
   exact W.2.1
  ·exact W.2.2
end
def Runs (xs:Array Keyed):List (Nat×Nat×Nat)->Nat->Nat->Prop
 | [],a,b=>a=b
 | (s,n,_)::t,a,b=>s=a/\0<n/\Up xs s n/\Runs xs t (a+n) b
section
variable {xs ys:Array Keyed}
theorem Runs.le:∀ {l:List (Nat×Nat×Nat)}{a b:Nat},Runs xs l a b->a+l.length<=b
 | [],a,b,h=>by have:a=b:=h; rw[dq]; lia
 | (s,n,_)::t,a,b,⟨_,h2,_,h4⟩=>by
  have:=Runs.le h4
  rw[aU]
  lia
theorem Runs.app:∀ {l m:List (Nat×Nat×Nat)}{a b:Nat},Runs xs (l++m) a b->∃ c,Runs xs l a c/\Runs xs m c b
 | [],m,a,b,h=>⟨a,rfl,h⟩
 | (s,n,_)::t,m,a,b,⟨h1,h2,h3,h4⟩=>by
  obtain⟨c,c1,c2⟩:=Runs.app h4
  exact⟨c,⟨h1,h2,h3,c1⟩,c2⟩
theorem Runs.put:∀ {l m:List (Nat×Nat×Nat)}{a b c:Nat},Runs xs l a c->Runs xs m c b->Runs xs (l++m) a b
 | [],m,a,b,c,h,g=>by have:a=c:=h; subst this; exact g
 | (s,n,_)::t,m,a,b,c,⟨h1,h2,h3,h4⟩,g=>⟨h1,h2,h3,Runs.put h4 g⟩
theorem Up.same {lo n:Nat}(h:Up xs lo n)(e:∀ k,lo<=k->k<lo+n->KI ys k=KI xs k):Up ys lo n:=fun i j h1 h2 h3=>by
 rw[e i h1 (by lia),e j (by lia) h3]
 exact h i j h1 h2 h3
theorem Runs.same:∀ {l:List (Nat×Nat×Nat)}{a b:Nat},Runs xs l a b->(∀ k,a<=k->k<b->KI ys k=KI xs k)->Runs ys l a b
 | [],a,b,h,_=>h
 | (s,n,_)::t,a,b,⟨h1,h2,h3,h4⟩,e=>by
  have:=Runs.le h4
  exact⟨h1,h2,h3.same fun k k1 k2=>e k (by lia) (by lia),Runs.same h4 fun k k1 k2=>e k (by lia) k2⟩
theorem Runs.mod {f:Nat×Nat×Nat->Nat×Nat×Nat}(hf:∀ x,(f x).1=x.1/\(f x).2.1=x.2.1):∀ {l:List (Nat×Nat×Nat)}{i a b:Nat},Runs xs l a b->Runs xs (l.modify i f) a b
 | [],i,a,b,h=>by rw[List.modify_nil]; exact h
 | (s,n,w)::t,0,a,b,⟨h1,h2,h3,h4⟩=>by
  rw[List.modify_zero_cons]
  obtain⟨e1,e2⟩:=hf (s,n,w)
  generalize f (s,n,w)=v at e1 e2 ⊢
  obtain⟨s',n',w'⟩:=v
  have e1:s'=s:=e1
  have e2:n'=n:=e2
  subst e1 e2
  exact⟨h1,h2,h3,h4⟩
 | (s,n,w)::t,i+1,a,b,⟨h1,h2,h3,h4⟩=>by
  rw[List.modify_succ_cons]
  exact⟨h1,h2,h3,Runs.mod hf h4⟩
end
structure RI (a₀:Array Keyed)(lo:Nat)(st:SortSt):Prop where
 perm:(arrOf st).Perm a₀
 kind:kindOf st=Od.kd
 failed:failedOf st=none
 runs:Runs (arrOf st) (pendingOf st).toList 0 lo
theorem jG5:∀ (l:List (Nat×Nat×Nat)) (i:Nat),i+1<l.length->∃ u x y t,l=u++x::y::t/\u.length=i
 | [],i,h=>absurd h (eF _)
 | [x],i,h=>by rw[jz] at h; lia
 | x::y::t,0,h=>⟨[],x,y,t,rfl,rfl⟩
 | x::y::t,i+1,h=>by
  obtain⟨u,x',y',t',e,hu⟩:=jG5 (y::t) i (by rw[aU] at h; lia)
  exact⟨x::u,x',y',t',by rw[e]; rfl,by rw[aU,hu]⟩
theorem jU6 {a₀ xs:Array Keyed}(h0:AllI a₀.toList)(hp:xs.Perm a₀):AllI xs.toList:=fun p hp'=>h0 p ((dk.mp hp).mem_iff.mp hp')
section
variable {prog:Program}{w:World}{A:Around}{E:Value->Shared->Prop}{s:Shared} [LtOk prog w A s]{a₀:Array Keyed}
theorem jDG {st:SortSt}{i lo:Nat}{Q:Bool->SortSt->Prop}(h0:AllI a₀.toList)(R:RI a₀ lo st)(hlo:lo<=a₀.size)(hi:i+1<(pendingOf st).size)
  (h:∀ st',RI a₀ lo st'->(pendingOf st').size+1=(pendingOf st).size->(∀ k,lo<=k->KI (arrOf st') k=KI (arrOf st) k)->Q true st'):wpS (model prog w) A E s (mergeAt' i) Q st:=by
 obtain⟨u,⟨sa,na,pw⟩,⟨sb,nb,w2⟩,t,e,hu⟩:=jG5 (pendingOf st).toList i (by rw[aV]; exact hi)
 have rr:=R.runs
 rw[e] at rr
 obtain⟨c,r1,a1,a2,a3,a4,a5,a6,a7⟩:=Runs.app rr
 have r2:=Runs.le a7
 have r3:=Runs.le r1
 subst a1
 have e1:(pendingOf st)[i]?=some (sa,na,pw):=by
  rw[<- bU,e,bv (by lia),hu,iu]
  rfl
 have e2:(pendingOf st)[i+1]?=some (sb,nb,w2):=by
  rw[<- bU,e,bv (by lia),hu,da]
  rfl
 have z:=R.perm.size_eq
 refine jHJ R.kind R.failed (jU6 h0 R.perm) e1 e2 a4 a2 a5 (by lia) a3 a6 fun st' M=>?_
 have ep:(pendingOf st').toList=u++(sa,na+nb,pw)::t:=by
  rw[M.pend,Array.toList_eraseIdxIfInBounds,iK,e,ke _ _ (by lia),hu,iu,List.set_cons_zero,List.eraseIdx_append_of_length_le (by lia),hu,da]
  rfl
 refine h st' ⟨M.perm.trans R.perm,M.kind,M.failed,?_⟩ ?_ fun k hk=>M.out k (by lia)
 ·rw[ep]
  refine Runs.put (Runs.same r1 fun k k1 k2=>M.out k (by lia)) ⟨rfl,by lia,M.up,?_⟩
  have:=Runs.same (ys:=arrOf st') a7 fun k k1 k2=>M.out k (by lia)
  rw[Nat.add_assoc] at this
  exact this
 ·have q1:=bX List.length ep
  have q2:=bX List.length e
  rw[aV,aC,aU] at q1
  rw[aV,aC,aU,aU] at q2
  lia
theorem RI.of {st:SortSt}{F:Nat->Int}{lo:Nat}{p:Array (Nat×Nat×Nat)}{xs:Array Keyed}(h:BB a₀ p F lo st)(hr:Runs xs p.toList 0 lo)(hF:∀ k,F k=KI xs k):RI a₀ lo st:=
 ⟨h.perm,h.kind,h.failed,by rw[h.pend]; exact hr.same fun k _ hk=>(h.low k hk).trans (hF k)⟩
theorem jDF {st:SortSt}{Q:Unit->SortSt->Prop}(h0:AllI a₀.toList)(hB:SB a₀ st)(h1:1<=a₀.size)
  (h:∀ st',(arrOf st').Perm a₀->failedOf st'=none->STo (arrOf st') a₀.size->Q () st'):wpS (model prog w) A E s sortRuns' Q st:=by
 rw[sortRuns'_eq]
 refine aI (g6 ?_)
 try dsimp only
 have hz:=hB.size
 rw[hz]
 generalize minRun' a₀.size a₀.size 0=mr
 refine aI (dz (cj (I:=fun x c st'=>∃ lo,c=(none,lo)/\x<=lo/\lo<=a₀.size/\RI a₀ lo st')
  (Q:=fun c st'=>c=(none,a₀.size)/\RI a₀ a₀.size st') ?step ?fin ⟨0,rfl,ar _,bx _,hB.perm,hB.kind,hB.failed,by rw[hB.pend]; rfl⟩) ?post)
 case fin=>
  rintro c st' ⟨lo,rfl,l1,l2,R⟩
  have:lo=a₀.size:=by lia
  subst this
  exact⟨rfl,R⟩
 case step=>
  rintro x c st1 _ hx ⟨lo,rfl,l1,l2,R1⟩
  try dsimp only
  by_cases hl:lo ≥ a₀.size
  ·rw[ah hl]
   have:lo=a₀.size:=by lia
   subst this
   exact aO ⟨rfl,R1⟩
  rw[ae hl]
  refine aI (jER (F:=fun k=>KI (arrOf st1) k) (p:=pendingOf st1) h0 (by lia) (by lia) ⟨R1.perm,R1.kind,R1.failed,rfl,fun _ _=>rfl⟩ fun m st2 B2 m1 m2 U2=>?_)
  try dsimp only
  by_cases hm:m<mr
  case' pos=>
   rw[ah hm]
   refine aI (iJ (dw ⟨rfl,?_⟩))
   refine aI (jDH h0 (by lia) (by lia) B2 U2 fun st4 B4 U4=>?_)
   have R4:=RI.of B4 R1.runs fun _=>rfl
   have n0:0<min (a₀.size - lo) mr:=by lia
   have n9:min (a₀.size - lo) mr<=a₀.size - lo:=by lia
   generalize min (a₀.size - lo) mr=n at*
  case' neg=>
   rw[ae hm]
   have R4:=RI.of B2 R1.runs fun _=>rfl
   have U4:=U2
   generalize st2=st4 at*
   generalize m=n at*
  all_goals
   refine aI (g6 ?_)
   have last:∀ st5:SortSt,RI a₀ lo st5->Up (arrOf st5) lo n->∃ lo',(none,lo+n)=((none:Option PUnit),lo')/\x+1<=lo'/\lo'<=a₀.size/\RI a₀ lo' (setPending st5 ((pendingOf st5).push (lo,n,0))):=fun st5 R5 U5=>
    ⟨lo+n,rfl,by lia,by lia,R5.perm,R5.kind,R5.failed,by
     show Runs (arrOf st5) ((pendingOf st5).push (lo,n,0)).toList 0 (lo+n)
     rw[eJ]
     exact R5.runs.put ⟨rfl,by lia,U5,rfl⟩⟩
   cases hb:(pendingOf st4).back? with
   | none=>
    try dsimp only
    exact aI (fe (aO (last st4 R4 U4)))
   | some v=>
    obtain⟨s1,n1,w1⟩:=v
    try dsimp only
    refine aI (dz (cj (I:=fun _ c st'=>c=(none,())/\RI a₀ lo st'/\Up (arrOf st') lo n) (Q:=fun c st'=>c=(none,())/\RI a₀ lo st'/\Up (arrOf st') lo n) ?mstep (fun _ _ z=>z) ⟨rfl,R4,U4⟩) ?mpost)
    case mstep=>
     rintro y c st5 _ _ ⟨rfl,R5,U5⟩
     try dsimp only
     refine aI (g6 ?_)
     by_cases hs:(pendingOf st5).size>1
     ·rw[ah hs]
      obtain⟨v,hv⟩:∃ v,(pendingOf st5)[(pendingOf st5).size - 2]?=some v:=⟨_,Array.getElem?_eq_getElem (by lia)⟩
      rw[hv]
      obtain⟨v1,v2,older⟩:=v
      try dsimp only
      by_cases ho:older<=power' a₀.size (2*s1+n1) (2*s1+n1+n1+n) a₀.size
      ·rw[ah ho]
       exact aO ⟨rfl,R5,U5⟩
      rw[ae ho]
      refine aI (jDG h0 R5 (by lia) (by lia) fun st6 R6 _ E6=>?_)
      exact aO ⟨rfl,R6,U5.same fun k k1 _=>E6 k k1⟩
     ·rw[ae hs]
      exact aO ⟨rfl,R5,U5⟩
    case mpost=>
     rintro c st5 ⟨rfl,R5,U5⟩
     try dsimp only
     refine aI (fe (aI (fe (aO (last (setPending st5 ((pendingOf st5).modify ((pendingOf st5).size - 1) fun x=>(x.1,x.2.1,power' a₀.size (2*s1+n1) (2*s1+n1+n1+n) a₀.size))) ⟨R5.perm,R5.kind,R5.failed,?_⟩ U5)))))
     show Runs (arrOf st5) (Array.modify _ _ _).toList 0 lo
     rw[Array.toList_modify]
     exact Runs.mod (f:=fun x=>(x.1,x.2.1,power' a₀.size (2*s1+n1) (2*s1+n1+n1+n) a₀.size)) (fun _=>⟨rfl,rfl⟩) R5.runs
 case post=>
  rintro c st1 ⟨rfl,R1⟩
  try dsimp only
  refine aI (dz (cj (I:=fun x c st'=>c=(none,())/\RI a₀ a₀.size st'/\1<=(pendingOf st').size/\(pendingOf st').size+x<=a₀.size)
   (Q:=fun c st'=>c=(none,())/\RI a₀ a₀.size st'/\(pendingOf st').size=1) ?step2 ?fin2 ⟨rfl,R1,?a1,?a2⟩) ?post2)
  case a1=>
   have:=R1.runs
   cases hp:(pendingOf st1).toList with
   | nil=>
    rw[hp] at this
    have:0=a₀.size:=this
    lia
   | cons v t=>
    have:=bX List.length hp
    rw[aV,aU] at this
    lia
  case a2=>
   have:=R1.runs.le
   rw[aV] at this
   lia
  case fin2=>
   rintro c st2 ⟨_,_,h2,h3⟩
   lia
  case post2=>
   rintro c st2 ⟨rfl,R2,h2⟩
   try dsimp only
   refine aO (h st2 R2.perm R2.failed ?_)
   have rr:=R2.runs
   cases hp:(pendingOf st2).toList with
   | nil=>
    rw[<- aV,hp] at h2
    cases h2
   | cons v t=>
    have:=bX List.length hp
    rw[aV,h2,aU] at this
    have:t=[]:=hG (by lia)
    subst this
    rw[hp] at rr
    obtain⟨v1,v2,v3⟩:=v
    obtain⟨q1,q2,q3,q4⟩:=rr
    have q4:0+v2=a₀.size:=q4
    subst q1
    exact fun i j hij hj=>q3 i j (bx _) hij (by lia)
  case step2=>
   rintro x c st2 _ hx ⟨rfl,R2,h2,h3⟩
   try dsimp only
   refine aI (g6 ?_)
   by_cases hs:(pendingOf st2).size<=1
   ·rw[ah hs]
    exact aO ⟨rfl,R2,by lia⟩
   rw[ae hs]
   refine aI (jDG h0 R2 (ar _) ?_ fun st3 R3 e3 _=>?_)
   ·have ite_le:∀ (c:Prop) [Decidable c] (a b:Nat),(if c then a else b)<=max a b:=fun c _ a b=>by
     by_cases z:c
     ·rw[ah z]; lia
     ·rw[ae z]; lia
    refine iG (Nat.add_le_add_right (ite_le _ _ _) 1) ?_
    lia
   ·exact aO ⟨rfl,R3,by lia,by lia⟩
end
end TM
namespace TM
open PySem PySem.Spec PyProof.Rows
section
variable {prog:Program}{w:World}{A:Around}{E:Value->Shared->Prop}{s:Shared}
abbrev turned (b:Bool)(xs:Array Value):Array Value:=if b then xs.reverse else xs
theorem jHM {b:Bool}{xs:Array Value} :(turned b xs).size=xs.size:=by
 cases b
 ·rfl
 ·exact Array.size_reverse
theorem jCA (b:Bool)(vs:List Value):(if b=true then (vs.toArray.zip vs.toArray).reverse else vs.toArray.zip vs.toArray).Perm (pairsOf vs):=by
 cases b with
 | false=>exact Array.Perm.refl _
 | true=>exact dk.mpr (by show ((vs.toArray.zip vs.toArray).reverse).toList.Perm _; rw[dF]; exact List.reverse_perm _)
def AskOk [Od](prog:Program)(w:World)(A:Around)(s:Shared)(a:Addr)(vs:List Value):Prop:=
 ∀ h6:Heap,(∀ c o,s.heap.get? c=some o->c≠a->h6.get? c=some o)->
  (∀ (Q:SortKind->Shared->Prop) (E:Value->Shared->Prop),Q Od.kd { s with heap:=h6} ->wpAny (model prog w) A (keyKind' vs.toArray) Q E { s with heap:=h6})/\LtOk prog w A { s with heap:=h6}
theorem jIP [Od]{a:Addr}{vs:List Value}{n:Nat}{b:Bool}{P:Fin->Shared->Prop}(ho:s.heap.get? a=some (seqObj "list" vs.toArray n))(hz:vs.length<=sizeLine)(hI:AllI (pairsOf vs).toList)(hk:2<=vs.length->AskOk prog w A s a vs)
  (h:∀ xs:Array Keyed,xs.Perm (pairsOf vs)->STo xs (pairsOf vs).size->P (.done (.ret .none)) { s with heap:=sortedHeap s.heap a vs (turned b (xs.map (·.2)))}):
  wpAny (model prog w) A (Builtin.«list.sort» ⟨[.ref a],[(Str.ofString "reverse", .bool b)]⟩) P E s:=by
 rw[list_sort_rev]
 have ha:=aG ho
 have hz':vs.toArray.size<=sizeLine:=by rw[aN]; exact hz
 refine aa (listItems_at ho rfl (aa (listUpdate_at ho rfl ?_ hz' (bx _))))
 obtain⟨e1,ho1⟩:∃ e1,(s.heap.update a (Obj.mapSeq fun _=>#[])).get? a=some (seqObj "list" #[] e1):=⟨_,get?_update_seq ho _⟩
 refine aa (seqEpoch_at ho1 rfl (aa (wpAny_newTuple ?_ hz)))
 refine aa (iY (ck ?_))
 generalize hh6:((s.heap.update a (Obj.mapSeq fun _=>#[])).push (seqObj "tuple" vs.toArray 0)).push (seqObj "list" #[] 0)=h6
 have ho6:h6.get? a=some (seqObj "list" #[] e1):=by
  rw[<- hh6]
  exact ag _ (ag _ ho1)
 have k6:∀ c o,s.heap.get? c=some o->c≠a->h6.get? c=some o:=fun c o q ne=>by
  rw[<- hh6]
  exact ag _ (ag _ ((bZ _ _ (eG ne)).trans q))
 have sh:∀ out,sortedHeap s.heap a vs out=h6.update a (Obj.mapSeq fun _=>out):=fun out=>by rw[<- hh6]; rfl
 have go:∀ X:Sem Fin,wpAny (model prog w) A X P E { s with heap:=h6} ->wpAny (model prog w) A (if b=true then (do let _ <- rule "list.sort.reverse"; X) else X) P E { s with heap:=h6} :=fun X hX=>by
  cases b with
  | false=>exact hX
  | true=>exact aa (dw hX)
 have hend:∀ st':SortSt,(arrOf st').Perm (pairsOf vs)->STo (arrOf st') (pairsOf vs).size->P (.done (.ret .none)) { s with heap:=h6.update a (Obj.mapSeq fun _=>turned b ((arrOf st').map (·.2)))} :=fun st' p1 p2=>by
  rw[<- sh]
  exact h _ p1 p2
 have hfit:∀ st':SortSt,(arrOf st').Perm (pairsOf vs)->(turned b ((arrOf st').map (·.2))).size<=sizeLine+1:=fun st' p1=>by
  rw[jHM,Array.size_map,p1.size_eq,pairsOf_size]
  lia
 dsimp only
 refine go _ ?_
 by_cases few:vs.toArray.size<2
 ·rw[ah few,ah few]
  refine aa (ao ?_)
  rw[StateT.run_pure]
  refine aa (ao ?_)
  dsimp only
  refine aa (seqEpoch_at ho6 rfl (aa (listUpdate_at ho6 rfl ?_ (bx _) (hfit (SortSt.mk' general' _ #[] 7 none) (jCA b vs)))))
  rw[bne_self_eq_false,ae aq]
  refine ao (hend (SortSt.mk' general' _ #[] 7 none) (jCA b vs) fun i j hij hj=>?_)
  have:i=j:=by
   rw[pairsOf_size] at hj
   rw[aN] at few
   lia
  rw[this]
  exact dE _
 ·rw[ae few,ae few]
  rw[aN] at few
  obtain⟨kk,ll⟩:=hk (by lia) h6 k6
  refine aa (kk _ _ (aa (cA (jDF (a₀:=pairsOf vs) (st:=SortSt.mk' Od.kd _ #[] 7 none)
   (Q:=fun _ st'=>(arrOf st').Perm (pairsOf vs)/\failedOf st'=none/\STo (arrOf st') (pairsOf vs).size)
   hI ⟨jCA b _,rfl,rfl,rfl⟩ (by rw[pairsOf_size]; lia) fun st' a1 a2 a3=>⟨a1,a2,a3⟩) ?_ fun _ _ e=>e)))
  rintro ⟨⟨⟩,st'⟩ s' ⟨rfl,p1,p2,p3⟩
  dsimp only
  refine aa (seqEpoch_at ho6 rfl (aa (listUpdate_at ho6 rfl ?_ (bx _) (hfit st' p1))))
  rw[p2]
  dsimp only
  rw[bne_self_eq_false,ae aq]
  exact ao (hend st' p1 p3)
theorem jM5 (a:Addr):Builtin.«list.sort» ⟨[.ref a],[]⟩=Builtin.«list.sort» ⟨[.ref a],[(Str.ofString "reverse", .bool false)]⟩:=by
 rw[list_sort_plain,list_sort_rev]
 rfl
abbrev odI:Od:=⟨oneType',fun p=>numOf p.1,fun p=>∃ n t,p.1=Value.int n t⟩
theorem ltI: @LtOk prog w A s odI:= @LtOk.mk prog w A s odI fun {E st x y Q} hk hx hy h=>by
 obtain⟨a,t,ha⟩:=hx
 obtain⟨b,u,hb⟩:=hy
 have e1: @key odI x=a:=by show numOf x.1=a; rw[ha]; rfl
 have e2: @key odI y=b:=by show numOf y.1=b; rw[hb]; rfl
 rw[e1,e2] at h
 rw[lt'_eq]
 refine aI (g6 ?_)
 rw[show kindOf st=oneType' from hk,keyLt'_oneType,ha,hb]
 exact aI (iJ (ga (oneLt_int ⟨rfl,aO h⟩)))
theorem stoI {xs:Array Keyed}{k:Nat}(h: @STo odI xs k):SortedTo xs k:=h
theorem askI {a:Addr}{vs:List Value}{ns:List Int}(hI:IntsAre vs ns)(h2:2<=vs.length): @AskOk odI prog w A s a vs:=fun h6 _=>⟨fun Q E h=>by
 obtain⟨u,v,r,rfl⟩:∃ u v r,vs=u::v::r:=by
  match vs,h2 with
  | [_],few=>exact absurd few (show ¬ 2<=1 by decide)
  | u::v::r,_=>exact⟨u,v,r,rfl⟩
 rw[keyKind_ints hI]
 exact ao h,ltI⟩
theorem sort_rev_any {a:Addr}{vs:List Value}{ns:List Int}{n:Nat}{b:Bool}{P:Fin->Shared->Prop}(ho:s.heap.get? a=some (seqObj "list" vs.toArray n))(hI:IntsAre vs ns)(hz:vs.length<=sizeLine)
  (h:∀ (out:Array Value) (ns':List Int),IntsAre out.toList ns'->ns'.Perm ns->Ordered b ns'->P (.done (.ret .none)) { s with heap:=sortedHeap s.heap a vs out}):
  wpAny (model prog w) A (Builtin.«list.sort» ⟨[.ref a],[(Str.ofString "reverse", .bool b)]⟩) P E s:=
 @jIP prog w A E s odI a vs n b P ho hz hI.intKeys (fun h2=>askI hI h2) fun xs p1 p2=>by
  obtain⟨ns',q1,q2,q3⟩:=sorted_out_rev hI p1 (stoI p2) b
  exact h _ ns' q1 q2 q3
end
end TM
namespace L2
open PySem PySem.Spec PyProof.Rows
section
variable {prog:Program}{w:World}{A:Around}{E:Value->Shared->Prop}{s:Shared}{d:Addr}{kvs:List (Key×Value)}
theorem jEM:∀ {vs:List Value}{ks:List Int},vs.length=ks.length->(∀ (j:Nat) (v:Value),vs[j]?=some v->∃ i t,ks[j]?=some i/\v=Value.int i t)->IntsAre vs ks
 | [],[],_,_=> .nil
 | [],_::_,h,_=>by cases h
 | _::_,[],h,_=>by cases h
 | v::vs,a::r,h,hat=>by
  obtain⟨i,t,e1,rfl⟩:=hat 0 v rfl
  cases e1
  exact .cons _ t (jEM (Nat.succ.inj h) fun j v e=>hat (j+1) v e)
theorem jG8 {Q:Value->Shared->Prop}{ks:List Int}{b:Bool}(hh:A.handled=none)(lo:(d==sysModules)=false)(D:s.heap.DictOf (jX prog w) d kvs)(hk:kvs.map (·.1)=ks.map Sum.inl)(hz:ks.length<=sizeLine)
  (h:∀ (hf:Heap) (tk:Nat) (l:Addr) (vs:List Value) (ns:List Int) (e:Nat),s.heap.objs.size<=l->(∀ b u,s.heap.get? b=some u->hf.get? b=some u)->
   hf.get? l=some { cls:= .type "list",data:= .seq vs.toArray e} ->IntsAre vs ns->ns.Perm ks->Ordered b ns->Q (.ref l) { s with heap:=hf,toks:=tk}):
  wpAny (model prog w) A (call (.builtin "sorted") [.ref d] [(Str.ofString "reverse", .bool b)]) Q E s:=by
 obtain⟨ep,hat⟩:=D.dictAt
 have hlen:kvs.length=ks.length:=by
  have:=bX List.length hk
  rwa [ab,ab] at this
 refine call_function_entry_kw kind_sorted plain_sorted entry_sorted (args_sorted_rev _ _) ?_
 unfold Builtin.«sorted»
 refine aa (m:=checkCount "sorted" 1 1 _) (ao ?_)
 refine aa (jIC (A:=A.in1) (PySem.W.kdl_dict (knd:=jX prog w) (kvs:=kvs) (ep:=ep) lo) hh hat (by lia) fun h1 tk acc hk1 hlt1 hacc=>?_)
 have hal:acc.toList.length=ks.length:=by rw[aV,hacc.1,hlen]
 have hI:IntsAre acc.toList ks:=jEM hal fun j v e=>by
  obtain⟨k,x,hx,hv⟩:=hacc.2 j v (by rw[<- bU]; exact e)
  have e2:(kvs.map (·.1))[j]?=some k:=by rw[aA,hx]; rfl
  rw[hk,aA] at e2
  cases hq:ks[j]? with
  | none=>rw[hq] at e2; cases e2
  | some i=>
   rw[hq] at e2
   cases e2
   rcases kE (show keyIs (Sum.inl i) v=true from hv) with ⟨i',t,q1,q2⟩ | ⟨x,t,q1,q2⟩
   ·cases q1
    exact⟨i,t,rfl,q2⟩
   ·cases q1
 refine aa (iY ?_ (by lia))
 have hL:(h1.push (seqObj "list" acc.toList.toArray 0)).get? h1.objs.size=some (seqObj "list" acc.toList.toArray 0):=aB _ rfl
 show wpAny _ _ _ _ _ { s with heap:=h1.push (seqObj "list" acc.toList.toArray 0),toks:=tk}
 refine aa (ck (wpAny_call_entry_kw slot_list_sort ⟨_,hL,rfl⟩ entry_list_sort (TM.sort_rev_any hL hI (by lia) fun out ns' a1 a2 a3=>⟨_,rfl,?_⟩) (args_list_sort_rev _ _)))
 obtain⟨e,he⟩:=sortedHeap_at (out:=out) hL
 have kept:∀ b u,s.heap.get? b=some u->(sortedHeap (h1.push (seqObj "list" acc.toList.toArray 0)) h1.objs.size acc.toList out).get? b=some u:=fun b u q=>by
  have q1:=hk1 b u q
  have hb:b<h1.objs.size:=aG q1
  rw[sortedHeap_old (bb hb) (by rw[size_push']; exact cB hb)]
  exact ag _ q1
 generalize sortedHeap (h1.push (seqObj "list" acc.toList.toArray 0)) h1.objs.size acc.toList out=hf at he kept ⊢
 exact ao ⟨_,rfl,h hf tk h1.objs.size out.toList ns' e (dh hlt1) kept (by rw[fq]; exact he) a1 a2 a3⟩
end
def jP2 (X:Cx)(f:Value)(ks:List Str)(r:List V->List V->Hp->VK->Prop):Prop:=
 ∀ (ad:List (Addr×Obj)) (s:Shared) (σ:St) (H:Hp) (xs zs:List V) (us ws:List Value) (Q:VK),Inv X ad σ H s->Vals xs us->Vals zs ws->r xs zs H Q->
  wpAny (model X.prog X.w) X.A (call f us (ks.zip ws)) (EP X ad σ Q) X.xe s
def tCBK (r:List V->List V->Hp->VK->Prop)(t tk:TA):TE:=fun σ H Q=>t σ H fun vs H1=>tk σ H1 fun zs H2=>r vs zs H2 Q
structure JK (X:Cx)(kws:List Keyword)(t:TA):Prop where
 h:PK X kws t
variable {X:Cx}
section
variable {x:Str}{p pos kpos:Pos}{e:Expr}{es:List Expr}{kws:List Keyword}{t tk:TA}{te:TE}{nm:Option Str}{ks:List Str}{id:String}{r:List V->List V->Hp->VK->Prop}
theorem jRI:JK X [] tNil:=⟨jUZ⟩
theorem jNC (ha:JE X e te)(hr:JK X kws t):JK X (⟨nm,e,kpos⟩::kws) (tCons te t):=⟨jSH ha.h hr.h⟩
theorem jGQ (hc:jP2 X (.builtin id) ks r)(hg:Gl1 X x)(hm:X.mg x=none)(hv:bootBuiltins x=some (.builtin id))(ha:JA X (e::es) t)(hkw:JK X kws tk)(he:starEach (e::es) X.env=(false,eval e X.env)::starEach es X.env)
  (hn:x≠ "__name__" :=by decide) (hdb:(x==("__debug__" :Str))=false:=by decide) (hall:(backToKw pos (keywordEach kws X.env)).all (·.1.isSome)=true:=by rfl) (hks:(backToKw pos (keywordEach kws X.env)).filterMap (·.1)=ks:=by rfl)
  (hpl:(backTo pos (starEach es X.env)).any (·.1)=false:=by rfl) (hkn:(backToKw pos (keywordEach kws X.env)).any (·.1.isNone)=false:=by rfl):JE X (.Call (.Name x p) (e::es) kws pos) (tCBK r t tk):=by
 refine⟨fun ad s σ H Q I h=>?_⟩
 refine dX (jD1 I hg.a hm hv ?_ hn hdb)
 refine callWith_kw (lI (ha.h pos ad s σ H _ I h) fun us s1 ⟨vs,H1,I1,r1,q1⟩=>lI (hkw.h pos ad s1 σ H1 _ I1 q1) fun ws s2 ⟨zs,H2,I2,rz,q2⟩=>?_) (by rw[he]; rfl) (by rw[he]; exact hpl) hall hkn
 rw[hks]
 exact hc ad s2 σ H2 vs zs us ws Q I2 r1 rz q2
theorem jFR (hc:X.calm=true):jP2 X (.builtin "sorted") [Str.ofString "reverse"] (fun xs zs H Q=>∃ (p:Addr) (kvs:List (Key×V)) (ks:List Int) (b:Bool),xs=[.ref p]/\zs=[.bl b]/\H p=some (.dK kvs)/\kvs.map (·.1)=ks.map Sum.inl/\ks.length<=sizeLine/\
  ∀ (l:Addr) (ns:List Int),H l=none->Ordered b ns->ns.Perm ks->Q (.ref l) (upd H l (.lst (ns.map V.int)))):=by
 intro ad s σ H xs zs us ws Q I r rz h
 obtain⟨p,kvs,ks,b,rfl,rfl,hp,hk,hn,q⟩:=h
 obtain⟨u,rfl,rx⟩:=r.one
 obtain⟨v,rfl,ry⟩:=rz.one
 cases rx
 cases ry
 obtain⟨z,lo,vs,rel,dd⟩:=dk_of I.hok hp
 refine jG8 (I.ok.hd hc) lo dd (by rw[<- rel.keys]; exact hk) hn fun hf tk l vs ns e hl kp he hi pm srt=>?_
 have hz:(ns.map V.int).length<=sizeLine:=by rw[ab,pm.length_eq]; exact hn
 have I2:Inv X ad σ (upd H l (.lst (ns.map V.int))) { s with heap:=hf,toks:=tk} :=I.laid (t':=tk) kp hl ⟨hz,vs,e,jB0 hi,he⟩
 exact⟨.ref l,_,I2,rfl,q l ns (I.hok.fresh hl) srt pm⟩
end
theorem jNK {o:Expr}{to:TE}{name:Str}{apos cpos:Pos}{T id:String}{r:V->List V->Hp->VK->Prop}(pa:PlainAttrs T)(slot:Slot T name id)(hty:typeOf (.builtin id)=pure (.type "method_descriptor"))(hm:MtR X id r)(ho:JE X o to)
  (hbase:attributeBase o name X.env (eval o X.env)=eval o X.env:=by rfl) (hline:(apos.endLine==cpos.line)=true:=by rfl):JE X (.Call (.Attribute o name apos) [] [] cpos) (tBM0 X.K T r to):=⟨jV7 pa slot hty hm ho.h hbase hline⟩
def rBits:V->List V->Hp->VK->Prop:=fun x vs H Q=>∃ i,x= .int i/\vs=[]/\Q (.int (Builtin.Int.intBits i)) H
theorem jMV:MtR X "int.bit_length" rBits:=by
 intro ad s σ H x vs v us Q I rx rv h
 obtain⟨i,rfl,rfl,q⟩:=h
 obtain⟨t,rfl⟩:=rx
 have hus:=rv.zero
 subst hus
 exact call_int_bit_length ⟨.int _,H,I.tok _,⟨_,rfl⟩,q⟩
theorem jGP {i o:Expr}{ty td:TE}{pos:Pos}(hu:X.A.units+1<cLine)(hi:JE X i ty)(ho:JE X o td)(h1:behindInMarks .NotIn o=false):JT X (.Compare i [.NotIn] [o] pos) (tB (jLC ty td)):=⟨jR7 (jMB hu hi.h ho.h) h1⟩
def jUD (i:Int)(b:Bool):TE:=fun _ H Q=>∀ p H',H' p=some (.dK [(.inl i, .bl b)])->Ext H H'->H p=none->Q (.ref p) H'
theorem jQ6 {i:Int}{b:Bool}{k1 k2:Nat}{p1 p2 pos:Pos} :JE X (.Dict [some (.Constant (.int i) k1 p1)] [.Constant (.bool b) k2 p2] pos) (jUD i b):=
 ⟨fun ad s σ H Q I h=>jM9 (jIZ je_int.h je_bl.h jM3) rfl rfl (by intro z; cases z) (by show 1<=15; decide) ad s σ H Q I fun p hp=>⟨j6,[(.inl i, .bl b)],rfl,by show 1<=15; decide,h p _ j6 (((Ext.refl H).new hp _).updNew hp _) hp⟩⟩
theorem jJS {K:W.Frag}{tp:Bool}{l:Addr}{xs:List V}{g:TG}{tb:TS}{D:Ends}{σ:St}{H:Hp}(Pv:Nat->St->Hp->Prop)(h0:Pv 0 σ H)(hl:∀ i σ H,Pv i σ H->Sq tp K H l xs)
  (hs:∀ i x T σ H,xs[i]?=some x->H T=none->Pv i σ H->g (.ref T) σ (upd H T (.tup [.int (i:Int),x])) fun σ2 H2=>tb { D with nx:=Pv (i+1),ct:=Pv (i+1),bk:=D.nx} σ2 H2) (hd:∀ σ H,Pv xs.length σ H->D.nx σ H):
  ∃ W:Nat->Nat->St->Hp->Prop,(∃ m,W 0 m σ H)/\∀ i m σ H,W i m σ H->
   ((Ite tp K l).stop i H/\D.nx σ H)\/((Ite tp K l).go i H/\∃ N:St->Hp->Prop,(∀ σ' H',N σ' H'->∃ m',m'<m/\W (i+1) m' σ' H')/\∀ x H',(Ite tp K l).yld i H x H'->g x σ H' fun σ2 H2=>tb { D with nx:=N,ct:=N,bk:=D.nx} σ2 H2):=by
 refine⟨fun i m σ H=>m=xs.length - i/\i<=xs.length/\Pv i σ H,⟨_,rfl,bx _,h0⟩,?_⟩
 rintro i m σ H ⟨rfl,hi,p⟩
 have s1:=hl i σ H p
 by_cases hlt:i<xs.length
 ·refine .inr ⟨⟨xs,xs[i],s1,by simp [hlt]⟩,Pv (i+1),fun σ' H' p'=>⟨xs.length - (i+1),by lia,rfl,hlt,p'⟩,fun v H'' y=>?_⟩
  obtain⟨T,x,e1,e2,e3,e4⟩:=y
  subst e2 e3
  exact hs i x T σ _ (e4 xs s1) e1 p
 ·have e:i=xs.length:=by lia
  subst e
  exact .inl ⟨⟨xs,s1,ar _⟩,hd σ H p⟩
def All2 {α β:Type}(R:α->β->Prop):List α->List β->Prop
 | [],[]=>True
 | a::as,b::bs=>R a b/\All2 R as bs
 | _,_=>False
section
variable {α β:Type}{R S:α->β->Prop}
theorem All2.len:∀ {as:List α}{bs:List β},All2 R as bs->as.length=bs.length
 | [],[],_=>rfl
 | _::_,_::_,h=>bX (· +1) (All2.len h.2)
theorem All2.imp (f:∀ a b,R a b->S a b):∀ {as:List α}{bs:List β},All2 R as bs->All2 S as bs
 | [],[],_=>trivial
 | _::_,_::_,h=>⟨f _ _ h.1,All2.imp f h.2⟩
theorem All2.snoc {a:α}{b:β} :∀ {as:List α}{bs:List β},All2 R as bs->R a b->All2 R (as++[a]) (bs++[b])
 | [],[],_,h=>⟨h,trivial⟩
 | _::_,_::_,h,k=>⟨h.1,All2.snoc h.2 k⟩
theorem All2.get:∀ {as:List α}{bs:List β}{i:Nat}{b:β},All2 R as bs->bs[i]?=some b->∃ a,as[i]?=some a/\R a b
 | [],[],i,b,_,h=>by simp at h
 | a::_,_::_,0,b,h,e=>by
  simp at e
  subst e
  exact⟨a,rfl,h.1⟩
 | _::_,_::_,i+1,b,h,e=>by
  obtain⟨a,h1,h2⟩:=All2.get h.2 (i:=i) (b:=b) (by simpa using e)
  exact⟨a,by simpa using h1,h2⟩
theorem All2.get':∀ {as:List α}{bs:List β}{i:Nat}{a:α},All2 R as bs->as[i]?=some a->∃ b,bs[i]?=some b/\R a b
 | [],[],i,b,_,h=>by simp at h
 | a::_,b::_,0,x,h,e=>by
  simp at e
  subst e
  exact⟨b,rfl,h.1⟩
 | _::_,_::_,i+1,x,h,e=>by
  obtain⟨b,h1,h2⟩:=All2.get' h.2 (i:=i) (a:=x) (by simpa using e)
  exact⟨b,by simpa using h1,h2⟩
theorem All2.append:∀ {as as':List α}{bs bs':List β},All2 R as bs->All2 R as' bs'->All2 R (as++as') (bs++bs')
 | [],_,[],_,_,h=>h
 | _::_,_,_::_,_,h,k=>⟨h.1,All2.append h.2 k⟩
theorem All2.of_get {as:List α}{bs:List β}(hl:as.length=bs.length)(h:∀ (i:Nat) a b,as[i]?=some a->bs[i]?=some b->R a b):All2 R as bs:=by
 induction as generalizing bs with
 | nil=>cases bs with
  | nil=>trivial
  | cons b bs=>cases hl
 | cons a as ih=>cases bs with
  | nil=>cases hl
  | cons b bs=>exact⟨h 0 a b rfl rfl,ih (by simpa using hl) fun i a b h1 h2=>h (i+1) a b (by simpa using h1) (by simpa using h2)⟩
end
def lowN (m:Nat):Nat:=if m % 2=1 then lowN (m / 2)+1 else 0
theorem jDQ {m:Nat}(h:m % 2=0):lowN m=0:=by
 unfold lowN
 rw[ae (by lia)]
theorem jFF {m:Nat}(h:m % 2=1):lowN m=lowN (m / 2)+1:=by
 rw[lowN,ah h]
theorem jU4 (a b:Nat):a&&&b=2*((a / 2)&&&(b / 2))+(a % 2)*(b % 2):=by
 have h1:(a&&&b) / 2=(a / 2)&&&(b / 2):=Nat.and_div_two
 have h2:(a&&&b) % 2=(a % 2)*(b % 2):=by
  have t:=cX a b 0
  rw[fO,fO,fO] at t
  have t':((a&&&b) % 2=1)↔(a % 2=1/\b % 2=1):=by
   rw[<- eN.trans (and_congr bi bi),<- t,bi]
  rcases cw a with ha | ha <;> rcases cw b with hb | hb <;> rw[ha,hb] at t' ⊢ <;> lia
 lia
theorem jTC (m:Nat):(m+1) - ((m+1)&&&m)=2 ^ lowN m:=by
 induction m using strongRecOn with
 | _ m ih=>
  rw[jU4]
  rcases cw m with h | h
  ·rw[jDQ h,show (m+1) / 2=m / 2 by lia,Nat.and_self,h]
   lia
  ·have:=ih (m / 2) (by lia)
   rw[jFF h,gE,show (m+1) / 2=m / 2+1 by lia,show (m+1) % 2=0 by lia]
   lia
theorem jPW (m:Nat):Builtin.Int.intBits (Builtin.bitAnd (Builtin.bitNot (m:Int)) ((m:Int)+1))=lowN m+1:=by
 have e:Builtin.bitAnd (Builtin.bitNot (m:Int)) ((m:Int)+1)=((2 ^ lowN m:Nat):Int):=by
  unfold Builtin.bitAnd
  have h1:¬ (0<=Builtin.bitNot (m:Int)):=by unfold Builtin.bitNot; lia
  have h2:(0:Int)<=(m:Int)+1:=by lia
  have h3:(Builtin.bitNot (Builtin.bitNot (m:Int))).toNat=m:=by unfold Builtin.bitNot; lia
  rw[aM h1,ay h2]
  show ((m:Int)+1) - ((((m:Int)+1).toNat&&&(Builtin.bitNot (Builtin.bitNot (m:Int))).toNat:Nat):Int)=_
  rw[h3,show ((m:Int)+1).toNat=m+1 by lia,<- jTC m]
  have:(m+1)&&&m<=m+1:=h8
  lia
 rw[e]
 unfold Builtin.Int.intBits
 have hp:0<2 ^ lowN m:=dN _
 have h0:((((2 ^ lowN m:Nat):Int))==0)=false:=by
  rw[cc]
  lia
 rw[h0]
 simp [Nat.log2_two_pow]
theorem yV (m:Nat):m.testBit (lowN m)=false:=by
 induction m using strongRecOn with
 | _ m ih=>
  rcases cw m with h | h
  ·rw[jDQ h,fO,h]
   rfl
  ·rw[jFF h,Nat.testBit_succ]
   exact ih _ (by lia)
theorem jBO (m:Nat):∀ j,j<lowN m->m.testBit j=true:=by
 induction m using strongRecOn with
 | _ m ih=>
  intro j hj
  rcases cw m with h | h
  ·rw[jDQ h] at hj
   lia
  ·rw[jFF h] at hj
   cases j with
   | zero=>rw[fO,h]; rfl
   | succ j=>
    rw[Nat.testBit_succ]
    exact ih _ (by lia) j (by lia)
theorem jRC {m t:Nat}(h1:m.testBit t=false)(h2:∀ j,j<t->m.testBit j=true):lowN m=t:=by
 rcases gy (lowN m) t with h | h | h
 ·have:=h2 _ h
  rw[yV] at this
  cases this
 ·exact h
 ·have:=jBO m t h
  rw[h1] at this
  cases this
theorem jO0 {m w:Nat}(h:m<2 ^ w)(a:∀ j,j<w->m.testBit j=true):m=2 ^ w - 1:=by
 apply cI
 intro i
 rw[cq]
 by_cases hi:i<w
 ·rw[a i hi,ay hi]
 ·rw[aM hi]
  exact dn (bh h (bS (by decide) (by lia)))
theorem qE {m w:Nat}(h:m<2 ^ w)(hn:m≠2 ^ w - 1):lowN m<w:=by
 refine cO fun z=>hn (jO0 h fun j hj=>jBO m j (by lia))
abbrev Ch:=List (List (Int×Nat))
def fullN (ch:Ch):Nat:=2 ^ ch.length - 1
def chAt (ch:Ch)(m:Nat):List (Int×Nat):=(ch.getD (lowN m) []).filter fun c=>c.2&&&m==0
structure ChOk (ch:Ch):Prop where
 w:ch.length<=16
 len:∀ (t:Nat) (cs:List (Int×Nat)),ch[t]?=some cs->cs.length<=33
 it:∀ (t:Nat) (cs:List (Int×Nat)),ch[t]?=some cs->∀ c∈cs,c.2.testBit t=true/\c.2<2 ^ ch.length/\ -1<=c.1/\c.1<32
theorem ChOk.mem {ch:Ch}{m:Nat}{c:Int×Nat}(o:ChOk ch)(h:m<2 ^ ch.length)(hn:m≠fullN ch)(hc:c∈chAt ch m):c.2.testBit (lowN m)=true/\c.2<2 ^ ch.length/\c.2&&&m=0/\ -1<=c.1/\c.1<32:=by
 obtain⟨h1,h2⟩:=aQ.mp hc
 have hl:=qE h hn
 rw[ai,ak hl] at h1
 obtain⟨a,b,c1,c2⟩:=o.it _ _ (ak hl) c h1
 exact⟨a,b,by simpa using h2,c1,c2⟩
theorem ChOk.up {ch:Ch}{m:Nat}{c:Int×Nat}(o:ChOk ch)(h:m<2 ^ ch.length)(hn:m≠fullN ch)(hc:c∈chAt ch m):m<m|||c.2/\m|||c.2<2 ^ ch.length:=by
 obtain⟨a,b,z,_⟩:=o.mem h hn hc
 refine⟨?_,dJ h b⟩
 refine Nat.lt_of_le_of_ne Nat.left_le_or fun e=>?_
 have t:m.testBit (lowN m)=(m|||c.2).testBit (lowN m):=bX (fun z=>z.testBit (lowN m)) e
 rw[bH,a,gF,yV] at t
 cases t
def gvN {α:Type}(ch:Ch)(e:α)(J:List (Int×α)->α):Nat->Nat->α
 | 0,_=>e
 | n+1,m=>if m=fullN ch then e else J ((chAt ch m).map fun c=>(c.1,gvN ch e J n (m|||c.2)))
def gv {α:Type}(ch:Ch)(e:α)(J:List (Int×α)->α)(m:Nat):α:=gvN ch e J (fullN ch - m) m
theorem jTQ {α:Type}{ch:Ch}{e:α}{J:List (Int×α)->α}(o:ChOk ch):∀ (k n m:Nat),fullN ch - m<=k->fullN ch - m<=n->m<2 ^ ch.length->gvN ch e J n m=gvN ch e J k m:=by
 intro k
 induction k with
 | zero=>
  intro n m h1 h2 h3
  have:m=fullN ch:=by
   unfold fullN at h1 ⊢
   lia
  subst this
  cases n with
  | zero=>rfl
  | succ n=>show gvN ch e J (n+1) (fullN ch)=e; rw[gvN,ah rfl]
 | succ k ih=>
  intro n m h1 h2 h3
  by_cases hm:m=fullN ch
  ·subst hm
   cases n with
   | zero=>show e=gvN ch e J (k+1) (fullN ch); rw[gvN,ah rfl]
   | succ n=>
    have q:∀ i,gvN ch e J (i+1) (fullN ch)=e:=fun i=>by rw[gvN,ah rfl]
    rw[q,q]
  ·have hlt:m<fullN ch:=by
    unfold fullN at hm ⊢
    lia
   cases n with
   | zero=>lia
   | succ n=>
    rw[gvN,ae hm,gvN,ae hm]
    congr 1
    refine aX fun c hc=>?_
    obtain⟨u1,u2⟩:=o.up h3 hm hc
    rw[ih n (m|||c.2) (by lia) (by lia) u2]
theorem jTP {α:Type}{ch:Ch}{e:α}{J:List (Int×α)->α} :gv ch e J (fullN ch)=e:=by
 unfold gv
 rw[iu,gvN]
theorem jTO {α:Type}{ch:Ch}{e:α}{J:List (Int×α)->α}{m:Nat}(o:ChOk ch)(h:m<2 ^ ch.length)(hn:m≠fullN ch):gv ch e J m=J ((chAt ch m).map fun c=>(c.1,gv ch e J (m|||c.2))):=by
 have hlt:m<fullN ch:=by
  unfold fullN at hn ⊢
  lia
 have:gv ch e J m=gvN ch e J ((fullN ch - m - 1)+1) m:=by
  unfold gv
  rw[show fullN ch - m - 1+1=fullN ch - m by lia]
 rw[this,gvN,ae hn]
 congr 1
 refine aX fun c hc=>?_
 obtain⟨u1,u2⟩:=o.up h hn hc
 unfold gv
 rw[jTQ o (fullN ch - (m|||c.2)) _ _ (ar _) (by lia) u2]
end L2
namespace L2
open PySem
variable {X:Cx}
section
variable {tg iter elt:Expr}{ifs:List Expr}{sc:Scope}{pos:Pos}{wi:TI}{g:TG}{tt:TT}{te:TE}{m:List (Option Nat)}{Nc:List Str}
end
end L2
namespace L2
open PySem PySem.Spec PyProof.Rows
def ZC (cl:List (Str×Addr))(fs:List Str)(fv:List V):Shared->Hp->Prop:=fun s H=>ClOk cl s H/\FvOk fs fv cl s
theorem ZC.st (cl:List (Str×Addr))(fs:List Str)(fv:List V):ZSt (ZC cl fs fv):=by
 rintro fr s s' H H' u ⟨C,F1,F2⟩
 have kc:∀ {x c v},cl.lookup x=some c->s.heap.IsCell c v->s'.heap.IsCell c v:=fun {x c v} hc ⟨o,ho,hd⟩=>by
  obtain⟨sl,e⟩:=u.any ho (C.cell x c hc).2 (by simp)
  exact⟨_,e,hd⟩
 refine⟨⟨C.inj,fun x c hc=>?_⟩,F1,fun i x v h1 h2=>?_⟩
 ·obtain⟨⟨v,o,ho,hd⟩,n⟩:=C.cell x c hc
  exact⟨⟨v,kc hc ⟨o,ho,hd⟩⟩,u.free c o ho n (by simp)⟩
 ·obtain⟨c,w,a1,a2,a3⟩:=F2 i x v h1 h2
  exact⟨c,w,a1,a2,kc a1 a3⟩
theorem Callee.ofN {P:Program}{w:World}{K:W.Frag}{mg:Str->Option Value}{base:Heap}{k:Nat}{x q:Str}{args:Arguments}{body:List Stmt}{scope:Scope}{ps fs:List Str}{sp:List V->Sp}{cl:List (Str×Addr)}{fv:List V}{a c:Addr}(F:FnN P w K mg base k x q args body scope ps fs sp):
  Callee P w K mg base (ZC cl fs fv) (fun H=>H a=some (.ext (nfP x q args body scope cl a c))/\H c=some (.ext (ncP q c))) k a (sp fv):=by
 refine⟨fun A outer s H e z=>?_,fun A outer s H us vs Q E hr e0 hz zh r hsp=>?_⟩
 ·obtain⟨⟨d,m,t,g⟩,_,_⟩:=(show ObjOk P w H s.heap a (.ext _) from e.hok a _ z.1)
  exact⟨_,_,_,_,g⟩
 ·obtain⟨p1,_,_⟩:=(show ObjOk P w H s.heap a (.ext _) from e0.hok a _ zh.1)
  obtain⟨p2,_,_⟩:=(show ObjOk P w H s.heap c (.ext _) from e0.hok c _ zh.2)
  exact F.run A outer s H a c cl us vs fv Q E hr e0 p1 p2 hz.1 hz.2 r hsp
def jUF {ι:Type}(G:ι->St->Prop)(sp:ι->Sp)(t:TA):TE:=fun σ H Q=>t σ H fun vs H1=>∃ i,G i σ/\sp i vs H1 Q E0
theorem jQ8 {ι:Type}{X:Cx}{Z:ι->Shared->Hp->Prop}{G:ι->St->Prop}{k:Nat}{f:Addr}{fd:FuncData}{ps:List Str}{sp:ι->Sp}{x:Str}{p pos:Pos}{e:Expr}{es:List Expr}{t:TA}(F:∀ i,FnZ X.prog X.w X.K X.mg X.base CX0 (Z i) k f fd ps (sp i))(hr:Room k X.A)(hg:Gl1 X x)(hm:X.mg x=some (.ref f))(hk:keepIn X.K (.ref f)=true)(hb:Binds X.K fd ps [])
  (hZ:∀ i ad s σ H,Inv X ad σ H s->G i σ->Z i s H) (ha:JA X (e::es) t) (he:starEach (e::es) X.env=(false,eval e X.env)::starEach es X.env) (hdb:(x==("__debug__" :Str))=false:=by decide) (hpl:(backTo pos (starEach es X.env)).any (·.1)=false:=by rfl):
  JE X (.Call (.Name x p) (e::es) [] pos) (jUF G sp t):=by
 refine⟨fun ad s σ H Q I h=>?_⟩
 refine dX (jI1 I hg.a hm ?_ hdb)
 refine lu (h₀:=X.base) I.ok.mod.kin hk (lI (ha.h pos ad s σ H _ I h) fun us s1 ⟨vs,H1,I1,r,i,gi,q⟩=>⟨I1.kIn,?_⟩) he hpl
 have hl:(us++[]).length=ps.length:=by rw[bq,<- r.length]; exact(F i).len _ _ _ _ q
 have b:=hb s1 us I1.kIn hl
 rw[bq] at b
 refine jl (eZ ((F i).run X.A X.stack s1 H1 ⟨us,[]⟩ us vs Q E0 hr I1.env0 b r (hZ i _ _ _ _ I1 gi) q) fun r s' hq=>?_)
 cases r with
 | error e=>exact hq.elim
 | ok fl=>
  cases fl with
  | ret u=>exact I1.after hq
  | next=>exact False.elim hq
  | brk=>exact False.elim hq
  | cont=>exact False.elim hq
theorem jJI {P:Program}{w:World}{K:W.Frag}{mg:Str->Option Value}{base:Heap}{N:List Str}{qual:Str}{sc:Scope}{f:Addr}{cd:Value}{cl:List (Str×Addr)}{A:Around}{outer:List Env}{s:Shared}{H:Hp}{x y:Str}{p1 p2 pos:Pos}{k i j:Nat}(hN:N.Nodup)(hi:N[i]?=some x)(hj:N[j]?=some y)(hx:sc.names.lookup x=some .local)(hy:sc.names.lookup y=some .local):
  JG (cxN P w K mg base N qual sc f cd cl A outer s H) (.Tuple [.Name x p1, .Name y p2] k pos) (gTup K 2 (gCons (kU i) (gCons (kU j) gNil))):=
 jNG (X:=cxN P w K mg base N qual sc f cd cl A outer s H) rfl (jBA (jN hN hi (loc_n hx)) (jBA (jN hN hj (loc_n hy)) jI3 jCP) jCP)
theorem jNN:entryFor table "dict_itemiterator.__iter__" =some Builtin.«dict_keyiterator.__iter__»:=ko (id':= "dict_keyiterator.__iter__") (by kernel_rfl) rfl (by decide+kernel) (by kernel_rfl)
section
variable {X:Cx}
def Iti (a:Addr)(o:Obj)(kvs:List (Key×V)):It:=
 ⟨fun i H=>H a=some (.frz o (.dK kvs))/\i<kvs.length,
  fun i H v H'=>∃ T k y,H T=none/\v= .ref T/\H'=upd H T (.tup [kV k,y])/\kvs[i]?=some (k,y),
  fun i H=>H a=some (.frz o (.dK kvs))/\kvs.length<=i⟩
theorem KV.at {kvs:List (Key×V)}{vs:List (Key×Value)}(r:KV kvs vs){i:Nat}{k:Key}{y:V}(h:kvs[i]?=some (k,y)):∃ u,vs[i]?=some (k,u)/\RelV y u:=by
 induction r generalizing i with
 | nil=>cases h
 | @cons p q ps qs hp _ ih=>
  cases i with
  | zero=>
   have:p=(k,y):=by simpa using h
   subst this
   obtain⟨q1,q2⟩:=q
   obtain⟨e1,e2⟩:=hp
   have e1:k=q1:=e1
   subst e1
   exact⟨q2,rfl,e2⟩
  | succ i=>exact ih (by simpa using h)
theorem jK5 {P:Program}{w:World}{K:W.Frag}{elts:List Expr}{x1:Nat}{tps:Pos}(a it:Addr)(o:Obj)(kvs:List (Key×V))(ep:Nat)(hep:∀ h:Heap,h.get? a=some o->∀ vs,h.DictOf (jX P w) a vs->h.DictAt (jX P w) a vs ep):
  Turn P w K (.Tuple elts x1 tps) (Iti a o kvs) [it] it (fun i h=>∃ ok ov,IsItemIter h it a i kvs.length ep ok ov) where
 mem:=by simp
 obj:=fun i h st b hb=>by
  obtain⟨ok,ov,he⟩:=st
  rw[aE] at hb
  subst hb
  exact⟨_,he,fun v q=>by cases q⟩
 keep:=fun i h h' st k=>by
  obtain⟨ok,ov,he⟩:=st
  exact⟨ok,ov,k it (by simp) _ he⟩
 item:=by
  intro X hP hw hK hc i ad s σ H E I hf st hg
  subst hP hw hK
  obtain⟨ha,hi⟩:=hg
  obtain⟨ok,ov,he⟩:=st
  obtain⟨ho,z,hd,vs,rel,dd⟩:ObjOk X.prog X.w H s.heap a (.frz o (.dK kvs)):=I.hok a _ ha
  have hm:=hep _ ho vs dd
  have hl:=KV.length rel
  have hx:kvs[i]?=some kvs[i]:=ak hi
  generalize kvs[i]=p at hx
  obtain⟨k,y⟩:=p
  obtain⟨u,hu,ru⟩:=KV.at rel hx
  rw[hl] at he
  refine wpAny_pyNext_items_item he hm hu fun key h' hk a1 a3 a4 a5=>?_
  refine⟨_,rfl,wpAny_letOwnedTupleGo_items (s:= { s with heap:=h'}) a1 fun h'' b1 sb=>?_⟩
  have fresh:H s.heap.objs.size=none:=I.fresh
  have ntr:∀ b o,H b=some o->b∉([it]:List Addr):=fun b o z hb=>by
   have:=(hf b hb).1
   rw[z] at this; cases this
  have kp:∀ b o,b∉([it]:List Addr)->s.heap.get? b=some o->h''.get? b=some o:=fun b o hb z=>by
   rw[aE] at hb
   exact(sb.2 b hb).trans (a5 b o hb z)
  have nz:s.heap.objs.size≠it:=eY (aG he)
  have hT2:h''.get? s.heap.objs.size=some { cls:= .type "tuple",data:= .seq #[key,u]} :=(sb.2 _ nz).trans a3
  have rk:RelV (kV k) key:=by
   rcases kE (show keyIs k key=true from hk) with ⟨i',t,q1,q2⟩ | ⟨x,t,q1,q2⟩
   ·rw[q1,q2]; exact⟨t,rfl⟩
   ·rw[q1,q2]; exact⟨t,rfl⟩
  have I2:Inv X ad σ (upd H s.heap.objs.size (.tup [kV k,y])) { s with heap:=h''} :=by
   refine I.step (g':=s.gens) (d':=s.drawn) (t':=s.toks) (ch:=[it]) (fun b hb=>?_) (fun b o _ _ hb z _=>kp b o hb z) (fun b o _ _ hb z _=>⟨o.slots,kp b o hb z⟩)
    (fun b o _ z n=>by rw[j8 (bb (aG z))]; exact n) (fun b o hb z=>⟨o,kp b o hb z⟩) (fun b ws z=>by rw[j8 (jA z fresh)]; exact z) (fun b o ws z=>by rw[j8 (jA z fresh)]; exact z)
    (fun b ps z=>⟨#[],by rw[j8 (jA z fresh),z]; simp⟩) (fun m hm=>?_) (fun b o z=>?_) I.bare
   ·obtain⟨f0,f1,f2,f3,f4,f5⟩:=hf b hb
    exact⟨f3,f1,f4,f5⟩
   ·obtain⟨o,es,ep,ho,r⟩:=hm
    exact⟨o,es,ep,kp _ o (fun hb=>(hf _ hb).2.1 rfl) ho,r⟩
   ·by_cases hb:b=s.heap.objs.size
    ·subst hb
     rw[j6] at z
     cases z
     exact⟨by rw[gh]; show 2<=_; decide,[key,u], .cons rk (.cons ru .nil),0,hT2⟩
    ·rw[j8 hb] at z
     refine(I.hok b o z).stay (fun c w hc q=>kp c w ?_ q) (fun c q=>by rw[j8 (jA q fresh)]; exact q) (fun c ws q=>by rw[j8 (jA q fresh)]; exact q)
     rcases hc with rfl | hc
     ·exact ntr _ _ z
     ·exact ntr _ _ hc
  refine⟨.ref s.heap.objs.size,_,I2,rfl,⟨_,k,y,fresh,rfl,rfl,hx⟩,⟨_,_,by rw[hl]; exact b1⟩,fun b hb=>?_⟩
  rw[j8 (fun q=>by
   rw[aE] at hb
   exact nz (q.symm.trans hb))]
  exact(hf b hb).1
 done:=by
  intro X hP hw hK hc i ad s σ H E I hf st hg
  subst hP hw hK
  obtain⟨ha,hend⟩:=hg
  obtain⟨ok,ov,he⟩:=st
  obtain⟨ho,z,hd,vs,rel,dd⟩:ObjOk X.prog X.w H s.heap a (.frz o (.dK kvs)):=I.hok a _ ha
  have hm:=hep _ ho vs dd
  have hl:=KV.length rel
  rw[hl] at he
  refine wpAny_pyNext_items_end (I.ok.hd hc) he hm (bI (by lia)) fun h' kp=>⟨rfl,?_⟩
  have kp2:∀ b o,b∉([it]:List Addr)->s.heap.get? b=some o->h'.get? b=some o:=fun b o hb z=>by
   rw[aE] at hb
   exact kp b o hb z
  have ntr:∀ b o,H b=some o->b∉([it]:List Addr):=fun b o z hb=>by
   have:=(hf b hb).1
   rw[z] at this; cases this
  refine I.step (g':=s.gens) (d':=s.drawn) (t':=s.toks) (ch:=[it]) (fun b hb=>?_) (fun b o _ _ hb z _=>kp2 b o hb z) (fun b o _ _ hb z _=>⟨o.slots,kp2 b o hb z⟩)
   (fun b o _ z n=>n) (fun b o hb z=>⟨o,kp2 b o hb z⟩) (fun b ws z=>z) (fun b o ws z=>z) (fun b ps z=>⟨#[],by rw[z]; simp⟩) (fun m hm=>?_) (fun b o z=>?_) I.bare
  ·obtain⟨f0,f1,f2,f3,f4,f5⟩:=hf b hb
   exact⟨f3,f1,f4,f5⟩
  ·obtain⟨o,es,ep,ho,r⟩:=hm
   exact⟨o,es,ep,kp2 _ o (fun hb=>(hf _ hb).2.1 rfl) ho,r⟩
  ·refine(I.hok b o z).stay (fun c w hc q=>kp2 c w ?_ q) (fun _ q=>q) fun _ _ q=>q
   rcases hc with rfl | hc
   ·exact ntr _ _ z
   ·exact ntr _ _ hc
 self:=fun A i s Q E st h=>by
  obtain⟨ok,ov,he⟩:=st
  have hT:s.TypeIs (.ref it) "dict_itemiterator" :=⟨_,he,rfl⟩
  refine iS hT F.slot_dict_itemiterator_iter (cz F.slot_dict_itemiterator_iter hT jNN ?_ (F.args_dict_itemiterator_iter_1 _))
  show wpAny _ _ (ret (.ref it)) _ _ s
  exact ao ⟨_,rfl,"dict_itemiterator",_,hT,F.slot_dict_itemiterator_next.lookup,h⟩
def jNT (td:TE):TI:=fun σ H R=>td σ H fun x H1=>∃ (a:Addr) (kvs:List (Key×V)),x= .ref a/\Rd H1 a (.dK kvs)/\∀ o:Obj,(∀ o',H1 a=some (.frz o' (.dK kvs))->o'=o)->R (Iti a o kvs) (upd H1 a (.frz o (.dK kvs)))
theorem jPF {e:Expr}{td:TE}{apos cpos:Pos}{elts:List Expr}{x1:Nat}{tp:Pos}(ho:PE X e td)(base:attributeBase e "items" X.env (eval e X.env)=eval e X.env:=by rfl)(line:(apos.endLine==cpos.line)=true:=by rfl):
  PI X (.Tuple elts x1 tp) (.Call (.Attribute e "items" apos) [] [] cpos) (jNT td):=by
 intro ad s σ H R I h
 refine gn base line (lI (ho ad s σ H _ I h) fun u s1 ⟨x,H1,I1,rx,a,kvs,ex,d,q1⟩=>?_)
 subst ex
 obtain rfl:u=Value.ref a:=rx
 obtain⟨t1,t2,sm⟩:=jNP I1 (.inl ⟨kvs,d⟩)
 obtain⟨z,hd,vs,rel,dd⟩:=dk_rd I1.hok d
 refine⟨_,_,gq,eW,jf,t1,t2,dR rfl (ik ?_)⟩
 refine jp eW dd.typeIs i4 (iP _) (meets_dict_items (jX X.prog X.w) a hd) ⟨⟨_,dd⟩,?_⟩
 obtain⟨o,es,ep,ho,hr⟩:=id dd
 have hm:s1.heap.DictAt (jX X.prog X.w) a vs ep:=⟨o,es,ho,hr⟩
 have g:(s1.heap.push { cls:= .type "dict_items",data:= .fields #[.ref a]}).get? s1.heap.objs.size=some { cls:= .type "dict_items",data:= .fields #[.ref a]} :=aB _ rfl
 have k1:∀ b u,s1.heap.get? b=some u->(s1.heap.push { cls:= .type "dict_items",data:= .fields #[.ref a]}).get? b=some u:=fun b u q=>ag _ q
 refine wpAny_pyIter_items (knd:=jX X.prog X.w) (kvs:=vs) (ep:=ep) ⟨_,g,rfl,rfl⟩ ⟨o,es,k1 _ _ ho,hr⟩ ?_
 have I2:Inv X ad σ (upd H1 a (.frz o (.dK kvs))) s1:=by
  rcases d with d | ⟨o',d⟩
  ·exact jE1 (t':=s1.toks) I1 (by rw[d]; trivial) ⟨rfl,fun _ _=>rfl⟩ ⟨_,ho⟩ ⟨ho,z,hd,vs,rel,dd⟩
  ·have e1:s1.heap.get? a=some o':=(I1.hok a _ d).1
   rw[ho] at e1
   cases e1
   have e2:upd H1 a (.frz o (.dK kvs))=H1:=by
    funext b
    by_cases hb:b=a
    ·rw[hb,j6,d]
    ·rw[j8 hb]
   rw[e2]
   exact I1
 have hl:=KV.length rel
 have nw:∀ h:Heap,((h.push { cls:= .type "dict_items",data:= .fields #[.ref a]}).push { cls:= .type "dict_itemiterator",data:= .fields #[.none, .bool false, .ref a, .int 0 0, .int vs.length 0, .int ep 0, .none, .none]}).get? (h.push { cls:= .type "dict_items",data:= .fields #[.ref a]}).objs.size=some { cls:= .type "dict_itemiterator",data:= .fields #[.none, .bool false, .ref a, .int 0 0, .int vs.length 0, .int ep 0, .none, .none]} :=fun h=>aB _ rfl
 refine⟨_,[_],_,Iti a o kvs,_,rfl,I2.kept (t':=s1.toks) fun b u q=>ag _ (ag _ q),jK5 a _ o kvs ep fun h hh vs' ⟨o',es',ep',ho',r1,r2,r3⟩=>?_,⟨_,_,by rw[hl]; exact nw _⟩,fun b hb=>?_,q1 o fun o' z=>?_⟩
 ·rw[hh] at ho'
  cases ho'
  have:=hr.2.1
  rw[r2] at this
  cases this
  exact⟨o,es,hh,r1,r2,r3⟩
 ·rw[aE] at hb
  have hge:s1.heap.objs.size<=b:=by
   rw[hb,dy]
   exact kh _
  exact I2.fpOk hge (I2.hok.fresh hge)
 ·have e1:s1.heap.get? a=some o':=(I1.hok a _ z).1
  rw[ho] at e1
  cases e1
  rfl
def tFrz (t:TE):TE:=fun σ H Q=>t σ H fun x H1=>∃ (a:Addr) (kvs:List (Key×V)),x= .ref a/\H1 a=some (.dK kvs)/\∀ o:Obj,Q x (upd H1 a (.frz o (.dK kvs)))
theorem jRJ {e:Expr}{t:TE}(h:JE X e t):JE X e (tFrz t):=⟨fun ad s σ H Q I hw=>lI (h.h ad s σ H _ I hw) fun u s1 ⟨x,H1,I1,rx,a,kvs,ex,d,q⟩=>by
 subst ex
 obtain⟨z,hd,vs,rel,dd⟩:=dk_of I1.hok d
 obtain⟨o,es,ep,ho,hr⟩:=id dd
 exact⟨_,_,jE1 (t':=s1.toks) (ob:= .frz o (.dK kvs)) I1 (by rw[d]; trivial) ⟨rfl,fun _ _=>rfl⟩ ⟨_,ho⟩ ⟨ho,z,hd,vs,rel,dd⟩,rx,q o⟩⟩
theorem jJH {e:Expr}{td:TE}{apos cpos:Pos}{elts:List Expr}{x1:Nat}{tp:Pos}(ho:JE X e td)(base:attributeBase e "items" X.env (eval e X.env)=eval e X.env:=by rfl)(line:(apos.endLine==cpos.line)=true:=by rfl):
  JI X (.Tuple elts x1 tp) (.Call (.Attribute e "items" apos) [] [] cpos) (jNT td):=⟨jPF ho.h base line⟩
end
section
variable {m:List (Option Nat)}{g:TG}{tt:TT}{te:TE}{σ:St}{H1:Hp}{Q:VK}
theorem jKV {a:Addr}{o:Obj}{kvs:List (Key×V)}(hn:kvs.length<sizeLine)(Pv:Addr->Nat->St->Hp->List V->Prop)(h0:∀ D,H1 D=none->Pv D 0 (blkσ m σ) (upd H1 D (.lst [])) [])
  (hD:∀ D i σ' H' zs,H1 D=none->Pv D i σ' H' zs->H' a=some (.frz o (.dK kvs))/\H' D=some (.lst zs)/\zs.length<=i)
  (hs:∀ D i σ' H' zs k y T,H1 D=none->kvs[i]?=some (k,y)->H' T=none->Pv D i σ' H' zs->g (.ref T) σ' (upd H' T (.tup [kV k,y])) fun σ2 H2=>tt σ2 H2 fun b H3=>if b=true then te σ2 H3 fun v H4=>H4 D=some (.lst zs)/\Pv D (i+1) σ2 (upd H4 D (.lst (zs++[v]))) (zs++[v]) else Pv D (i+1) σ2 H3 zs)
  (hd:∀ D σ' H' zs,H1 D=none->Pv D kvs.length σ' H' zs->Q (.ref D) H'):qO m g tt te σ Q (Iti a o kvs) H1:=by
 intro D hDn
 refine⟨fun i k σ' H' zs=>k=kvs.length - i/\i<=kvs.length/\Pv D i σ' H' zs,⟨_,rfl,bx _,h0 D hDn⟩,?_⟩
 rintro i k σ' H' zs ⟨rfl,hi,p⟩
 obtain⟨s1,q1,q2⟩:=hD D i σ' H' zs hDn p
 refine⟨q1,by lia,?_⟩
 by_cases hlt:i<kvs.length
 ·refine .inr ⟨⟨s1,hlt⟩,Pv D (i+1),fun σ2 H2 zs z=>⟨kvs.length - (i+1),by lia,rfl,hlt,z⟩,fun v H'' y=>?_⟩
  obtain⟨T,k,x,e1,e2,e3,e4⟩:=y
  subst e2 e3
  exact hs D i σ' _ zs k x T hDn e4 e1 p
 ·have e:i=kvs.length:=by lia
  subst e
  exact .inl ⟨⟨s1,ar _⟩,hd D σ' H' zs hDn p⟩
end
theorem jO4 {a:Addr}{o:Obj}{kvs:List (Key×V)}{g:TG}{tb:TS}{D:Ends}{σ:St}{H:Hp}(Pv:Nat->St->Hp->Prop)(h0:Pv 0 σ H)(hl:∀ i σ H,Pv i σ H->H a=some (.frz o (.dK kvs)))
  (hs:∀ i k y T σ H,kvs[i]?=some (k,y)->H T=none->Pv i σ H->g (.ref T) σ (upd H T (.tup [kV k,y])) fun σ2 H2=>tb { D with nx:=Pv (i+1),ct:=Pv (i+1),bk:=D.nx} σ2 H2) (hd:∀ σ H,Pv kvs.length σ H->D.nx σ H):
  ∃ W:Nat->Nat->St->Hp->Prop,(∃ m,W 0 m σ H)/\∀ i m σ H,W i m σ H->
   ((Iti a o kvs).stop i H/\D.nx σ H)\/((Iti a o kvs).go i H/\∃ N:St->Hp->Prop,(∀ σ' H',N σ' H'->∃ m',m'<m/\W (i+1) m' σ' H')/\∀ x H',(Iti a o kvs).yld i H x H'->g x σ H' fun σ2 H2=>tb { D with nx:=N,ct:=N,bk:=D.nx} σ2 H2):=by
 refine⟨fun i m σ H=>m=kvs.length - i/\i<=kvs.length/\Pv i σ H,⟨_,rfl,bx _,h0⟩,?_⟩
 rintro i m σ H ⟨rfl,hi,p⟩
 have s1:=hl i σ H p
 by_cases hlt:i<kvs.length
 ·refine .inr ⟨⟨s1,hlt⟩,Pv (i+1),fun σ' H' p'=>⟨kvs.length - (i+1),by lia,rfl,hlt,p'⟩,fun v H'' y=>?_⟩
  obtain⟨T,k,x,e1,e2,e3,e4⟩:=y
  subst e2 e3
  exact hs i k x T σ _ e4 e1 p
 ·have e:i=kvs.length:=by lia
  subst e
  exact .inl ⟨⟨s1,ar _⟩,hd σ H p⟩
end L2
namespace TM
open PySem PySem.Spec PyProof.Rows PySem.W
open HT (lexLt lexLt_cons)
open L2 (All2)
theorem jN3:∀ x:List Int,lexLt x x=false
 | []=>rfl
 | a::x=>by rw[lexLt_cons,ah rfl]; exact jN3 x
theorem jN1:∀ {x y z:List Int},lexLt x y=true->lexLt y z=true->lexLt x z=true
 | [],[],_,h,_=>by cases h
 | [],_::_,[],_,h=>by cases h
 | [],_::_,_::_,_,_=>rfl
 | _::_,[],_,h,_=>by cases h
 | _::_,_::_,[],_,h=>by cases h
 | a::x,b::y,c::z,h,k=>by
  rw[lexLt_cons] at h k ⊢
  by_cases e1:a=b
  ·rw[ah e1] at h
   by_cases e2:b=c
   ·rw[ah e2] at k
    rw[ah (e1.trans e2)]
    exact jN1 h k
   ·rw[ae e2] at k
    rw[ae (e1 ▸ e2),e1]
    exact k
  ·rw[ae e1] at h
   have h:=az h
   by_cases e2:b=c
   ·rw[ae (e2 ▸ e1),<- e2]
    exact ay h
   ·rw[ae e2] at k
    have k:=az k
    rw[ae (by lia)]
    exact ay (by lia)
theorem jN2:∀ {x y:List Int},lexLt x y=false->lexLt y x=false->x=y
 | [],[],_,_=>rfl
 | [],_::_,h,_=>by cases h
 | _::_,[],_,h=>by cases h
 | a::x,b::y,h,k=>by
  rw[lexLt_cons] at h k
  by_cases e:a=b
  ·rw[ah e] at h
   rw[ah e.symm] at k
   rw[e,jN2 h k]
  ·rw[ae e] at h
   rw[ae (fun z=>e z.symm)] at k
   have:=dY h
   have:=dY k
   lia
def rk (ws:List (List Int))(x:List Int):Int:=((ws.countP fun z=>lexLt z x:Nat):Int)
theorem jFP {p q:List Int->Bool}(h:∀ z,p z=true->q z=true):∀ ws:List (List Int),ws.countP p<=ws.countP q
 | []=>ar _
 | a::ws=>by
  have:=jFP h ws
  rw[bN,bN]
  have:=h a
  cases hp:p a <;> cases hq:q a <;> simp_all <;> lia
theorem jJU {p q:List Int->Bool}(h:∀ z,p z=true->q z=true){x:List Int}(hp:p x=false)(hq:q x=true):∀ {ws:List (List Int)},x∈ws->ws.countP p<ws.countP q
 | a::ws,hx=>by
  rw[bN,bN]
  rcases aF.mp hx with e | hx
  ·have:=jFP h ws
   rw[<- e,hp,hq]
   simp
   lia
  ·have:=jJU h hp hq hx
   have:=h a
   cases hpa:p a <;> cases hqa:q a <;> simp_all <;> lia
theorem rk_lt {ws:List (List Int)}{x y:List Int}(hx:x∈ws):decide (rk ws x<rk ws y)=lexLt x y:=by
 unfold rk
 cases h:lexLt x y with
 | true=>
  have:=jJU (p:=fun z=>lexLt z x) (q:=fun z=>lexLt z y) (fun z hz=>jN1 hz h) (jN3 x) h hx
  exact ay (by lia)
 | false=>
  refine aM ?_
  by_cases k:lexLt y x=true
  ·have:=jFP (p:=fun z=>lexLt z y) (q:=fun z=>lexLt z x) (fun z hz=>jN1 hz k) ws
   lia
  ·have:=jN2 h (dL.mpr k)
   rw[this]
   lia
variable {prog:Program}{w:World}{A:Around}{E:Value->Shared->Prop}{s:Shared}
section
variable {kd:SortKind}{f:Value->List Int}
theorem pairs_mem {vs:List Value}{p:Keyed}(h:p∈(pairsOf vs).toList):p.1=p.2/\p.1∈vs:=by
 rw[pairsOf_toList] at h
 exact mem_zip_self h
end
def TupI (h:Heap)(v:Value)(l:List Int):Prop:=∃ a n its,v= .ref a/\h.get? a=some { cls:= .type "tuple",data:= .seq its n} /\IntsAre its.toList l
noncomputable def decV (h:Heap):Value->List Int
 | .ref a=>match h.get? a with
  | some o=>match o.data with
   | .seq xs _=>xs.toList.map numOf
   | _=> []
  | none=> []
 | _=> []
theorem TupI.dec {h:Heap}{v:Value}{l:List Int}(t:TupI h v l):decV h v=l:=by
 obtain⟨a,n,its,rfl,ho,hi⟩:=t
 dsimp only [decV]
 rw[ho]
 exact hi.nums
theorem jSX {b:Bool}{x y:Int}{t u:Tok}{Q:Bool->Shared->Prop}(h:Q (decide (x<y)) s):wpAny (model prog w) A (oneLt' b (.int x t) (.int y u)) Q E s:=by
 cases b with
 | true=>exact oneLt_int h
 | false=>exact kat_one _ _ (HT.rcLt_int A s x t y u prog w E _ h)
theorem jRE {b fin:Bool}{Q:Bool->Shared->Prop} :∀ {us:List Value}{x:List Int}{vs:List Value}{y:List Int}(i:Nat),IntsAre us x->IntsAre vs y->fin=decide (us.length<vs.length)->Q (lexLt x y) s->KatLex prog w A b fin Q (us.zip vs) i s
 | _,_,_,_,i, .nil, .nil,hf,h=>by rw[hf]; exact h
 | _,_,_,_,i, .nil, .cons _ _ _,hf,h=>by rw[hf]; exact h
 | _,_,_,_,i, .cons _ _ _, .nil,hf,h=>by rw[hf]; exact h
 | _,_,_,_,i, .cons (ns:=ns) a t h1, .cons (ns:=ms) c u h2,hf,h=>by
  rw[fb]
  refine kat_cons (iF a t c u prog w _ _ ?_)
  rw[lexLt_cons] at h
  by_cases e:a=c
  ·rw[ah e] at h
   rw[show (a==c)=true by simp [e]]
   refine kat_yes (jRE (i+1) h1 h2 ?_ h)
   rw[hf,aU,aU]
   exact decide_eq_decide.mpr (by lia)
  ·rw[ae e] at h
   rw[show (a==c)=false by simp [e]]
   exact kat_no (jSX h)
theorem jMX {b:Bool}{u v:Value}{x y:List Int}{Q:Bool->Shared->Prop}(hu:TupI s.heap u x)(hv:TupI s.heap v y)(h:Q (lexLt x y) s):wpAny (model prog w) A (keyLt' (tuples' b) u v) Q E s:=by
 obtain⟨a,n,its,rfl,ho,hi⟩:=hu
 obtain⟨a2,n2,its2,rfl,ho2,hi2⟩:=hv
 exact kat_lt ho rfl ho2 rfl (jRE 0 hi hi2 rfl h)
theorem jKQ (x y:Value):keyLt' general' x y=oneLt' false x y:=rfl
theorem jKJ {u v:Value}{x y:List Int}{Q:Bool->Shared->Prop}(hu:TupI s.heap u x)(hv:TupI s.heap v y)(room:A.units<cLine)(h:Q (lexLt x y) s):wpAny (model prog w) A (keyLt' general' u v) Q E s:=by
 obtain⟨a,n,its,rfl,ho,hi⟩:=hu
 obtain⟨a2,n2,its2,rfl,ho2,hi2⟩:=hv
 rw[jKQ]
 exact kat_one _ _ (HT.lt_tupInts (items:=its) (items2:=its2) ⟨_,ho,rfl,n,rfl⟩ ⟨_,ho2,rfl,n2,rfl⟩ hi hi2 room h)
theorem jKI {u v:Value}{x y:List Int}{Q:Bool->Shared->Prop}(hu:TupI s.heap u x)(hv:TupI s.heap v y)(room:A.units<cLine)(h:Q (lexLt x y) s):wpAny (model prog w) A (keyLt' oneType' u v) Q E s:=by
 obtain⟨a,n,its,rfl,ho,hi⟩:=hu
 obtain⟨a2,n2,its2,rfl,ho2,hi2⟩:=hv
 rw[keyLt'_oneType,oneLt'_eq]
 simp only [gW]
 refine aa (wpAny_cRoomFor room ?_)
 have hT:s.TypeIs (.ref a) "tuple" :=⟨_,ho,rfl⟩
 refine aa (wpAny_callSpecialIfBound?_slot hT gO (gS gO hT jm (i7 _ _) (HT.tuple_lt_ints a a2 its its2 n n2 _ _ _ _ x y hi hi2) ⟨ho,ho2,?_⟩))
 exact di h
def FsOf:List (Option Value)->List (List Int)->Prop:=All2 fun o l=>(o=none/\l=[])\/∃ n t r,o=some (Value.int n t)/\l=n::r
theorem jRL:∀ {vs:List Value}{ws:List (List Int)},All2 (TupI s.heap) vs ws->∃ fs,FsOf fs ws/\∀ (Q:List (Option Value)->Shared->Prop) (E:Value->Shared->Prop),Q fs s->wpAny (model prog w) A (vs.mapM firstOfTuple') Q E s
 | [],[],_=>⟨[],trivial,fun Q E h=>by rw[List.mapM_nil]; exact ao h⟩
 | v::vs,l::ws,⟨⟨a,n,its,e,ho,hi⟩,r⟩=>by
  obtain⟨fs,h1,h2⟩:=jRL r
  refine⟨its[0]?::fs,⟨?_,h1⟩,fun Q E h=>?_⟩
  ·obtain⟨li⟩:=its
   cases hi with
   | nil=>exact .inl ⟨rfl,rfl⟩
   | cons c t _=>exact .inr ⟨c,t,_,rfl,rfl⟩
  ·rw[List.mapM_cons,e]
   refine aa ?_
   rw[kas_first_eq]
   refine aa (Looks.here (show Looks (model prog w) s.heap (typeOf (.ref a)) (.type "tuple") from(Looks.ld ho).andThen .now) ?_)
   rw[ae (by first | decide | simp)]
   refine aa (listItems_at ho rfl (ao ?_))
   exact aa (h2 _ _ (ao h))
theorem jO1:∀ {fs:List (Option Value)}{ws:List (List Int)},FsOf fs ws->fs.all (·.isSome)=ws.all fun x=>!x.isEmpty
 | [],[],_=>rfl
 | o::fs,l::ws,⟨h,r⟩=>by
  rw[gX,gX,jO1 r]
  rcases h with ⟨rfl,rfl⟩ | ⟨n,t,r,rfl,rfl⟩ <;> rfl
theorem jI8:∀ {fs:List (Option Value)}{ws:List (List Int)},FsOf fs ws->∀ v∈fs.filterMap id,∃ n t,v=Value.int n t
 | [],[],_,v,h=>by cases h
 | o::fs,l::ws,⟨h,r⟩,v,hv=>by
  rcases h with ⟨rfl,rfl⟩ | ⟨n,t,r',rfl,rfl⟩
  ·exact jI8 r v (by simpa using hv)
  ·rw[eQ] at hv
   rcases aF.mp hv with e | hv
   ·exact⟨n,t,e⟩
   ·exact jI8 r v hv
def kdOf (ws:List (List Int)):SortKind:=if (ws.all fun x=>!x.isEmpty)=true then tuples' true else if (ws.headD []).isEmpty=true then oneType' else general'
theorem jJ5 {T:Value}{vs:List Value}(ne:vs≠ [])(hT:∀ v∈vs,Looks (model prog w) s.heap (typeOf v) T)(hT2:(T==T)=true){Q:Option Value->Shared->Prop}(h:Q (some T) s):wpAny (model prog w) A (oneTypeOnly' vs.toArray) Q E s:=by
 obtain⟨v,r,rfl⟩:=fu ne
 rw[oneTypeOnly'_eq,List.mapM_toArray,map_eq_pure_bind]
 refine aa (aa (kas_mapM (r:=T) _ (fun v hv Q' hq=>(hT v hv).here hq) (ao ?_)))
 have hall2:((List.map (fun _=>T) (v::r)).toArray.all fun x=>x==T)=true:=by
  simp only [List.all_toArray,all_map,bB]
  intro _ _
  exact hT2
 have h0:(List.map (fun _=>T) (v::r)).toArray[0]?=some T:=by simp
 rw[h0]
 simp only [hall2,gW]
 exact ao h
theorem jP8 {v:Value}{l:List Int}(h:TupI s.heap v l):Looks (model prog w) s.heap (typeOf v) (.type "tuple"):=by
 obtain⟨a,n,its,rfl,ho,_⟩:=h
 exact(Looks.ld ho).andThen .now
theorem kind_of {vs:List Value}{ws:List (List Int)}{Q:SortKind->Shared->Prop}(t:All2 (TupI s.heap) vs ws)(h2:vs≠ [])(h:Q (kdOf ws) s):wpAny (model prog w) A (keyKind' vs.toArray) Q E s:=by
 obtain⟨fs,f1,f2⟩:=jRL (prog:=prog) (w:=w) (A:=A) t
 rw[kat_kind_eq,List.mapM_toArray,map_eq_pure_bind]
 refine aa (aa (f2 _ _ (ao ?_)))
 have e:=jO1 f1
 have ha:(fs.toArray.all fun x=>x.isSome)=fs.all (·.isSome):=by simp
 unfold kdOf at h
 rw[ha,e]
 cases hc:(ws.all fun x=>!x.isEmpty) with
 | true=>
  rw[hc,ah rfl] at h
  rw[ah rfl]
  refine aa (dw ?_)
  have hf:(fs.toArray.filterMap id)=(fs.filterMap id).toArray:=by simp
  rw[hf]
  have ne:fs.filterMap id≠ []:=by
   intro z
   obtain⟨v,vs',rfl⟩:=fu h2
   cases ws with
   | nil=>exact t.elim
   | cons l ws=>
    cases fs with
    | nil=>exact f1.elim
    | cons o fs=>
     rcases f1.1 with ⟨_,q⟩ | ⟨n,t',r,q,_⟩
     ·rw[q] at hc; simp at hc
     ·rw[q,eQ] at z; cases z
  refine aa (jJ5 (T:= .type "int") ne (fun v hv=>?_) rfl (ao ?_))
  ·obtain⟨n,t',e⟩:=jI8 f1 v hv
   rw[e]
   exact .now
  ·exact h
 | false=>
  rw[hc,ae aq] at h
  rw[ae aq]
  obtain⟨v,vs',rfl⟩:=fu h2
  cases ws with
  | nil=>exact t.elim
  | cons l ws=>
   cases fs with
   | nil=>exact f1.elim
   | cons o fs=>
    have h0:(o::fs).toArray[0]?=some o:=by simp
    rw[h0]
    rcases f1.1 with ⟨q,q2⟩ | ⟨n,t',r,q,q2⟩
    ·rw[q2] at h
     rw[q,ae (by simp)]
     refine aa (jJ5 (T:= .type "tuple") h2 (fun u hu=>?_) rfl (ao h))
     obtain⟨i,hi⟩:=bR hu
     obtain⟨l',_,hl⟩:=t.get' hi
     exact jP8 hl
    ·rw[q2] at h
     rw[q,ah (by simp)]
     exact ao h
theorem lt_kd {ws:List (List Int)}{u v:Value}{x y:List Int}{Q:Bool->Shared->Prop}(hu:TupI s.heap u x)(hv:TupI s.heap v y)(room:A.units<cLine)(h:Q (lexLt x y) s):wpAny (model prog w) A (keyLt' (kdOf ws) u v) Q E s:=by
 unfold kdOf
 split
 ·exact jMX hu hv h
 ·split
  ·exact jKI hu hv room h
  ·exact jKJ hu hv room h
end TM
namespace L2
open PySem PySem.Spec PyProof.Rows
variable {X:Cx}
noncomputable def refV:Value->V
 | .ref a=> .ref a
 | _=> .non
structure KeyS where
 TK:Heap->Value->List Int->Prop
 KR:Hp->V->List Int->Prop
 kd:List (List Int)->SortKind
 dc:Heap->Value->List Int
structure KeyOk (S:KeyS):Prop where
 of:∀ {P:Program}{w:World}{H:Hp}{h:Heap}{v:V}{u:Value}{l:List Int},HOk P w H h->RelV v u->S.KR H v l->S.TK h u l
 mono:∀ {H H':Hp}{v:V}{l:List Int},TupsK H H'->S.KR H v l->S.KR H' v l
 dec:∀ {h:Heap}{u:Value}{l:List Int},S.TK h u l->S.dc h u=l
 kind:∀ {prog:Program}{w:World}{A:Around}{E:Value->Shared->Prop}{s:Shared}{vs:List Value}{ws:List (List Int)}{Q:SortKind->Shared->Prop},All2 (S.TK s.heap) vs ws->vs≠ []->Q (S.kd ws) s->wpAny (model prog w) A (keyKind' vs.toArray) Q E s
 lt:∀ {prog:Program}{w:World}{A:Around}{E:Value->Shared->Prop}{s:Shared}{ws:List (List Int)}{u v:Value}{x y:List Int}{Q:Bool->Shared->Prop},S.TK s.heap u x->S.TK s.heap v y->A.units+2<cLine->Q (HT.lexLt x y) s->wpAny (model prog w) A (keyLt' (S.kd ws) u v) Q E s
variable {S:KeyS}
section
variable {prog:Program}{w:World}{A:Around}{E:Value->Shared->Prop}{s:Shared}
noncomputable abbrev odK (S:KeyS)(ws:List (List Int))(h:Heap)(ks:List Value):TM.Od:=⟨S.kd ws,fun p=>TM.rk (ks.map (S.dc h)) (S.dc h p.1),fun p=>p.1∈ks⟩
end
theorem jGD:∀ {its:List Value},(∀ u∈its,∃ a,u=Value.ref a)->Vals (its.map refV) its
 | [],_=> .nil
 | u::its,h=>by
  obtain⟨a,e⟩:=h u (am ..)
  subst e
  exact .cons rfl (jGD fun w hw=>h w (aj _ hw))
theorem jR0 (ok:KeyOk S){h:Heap} :∀ {ks:List Value}{ws:List (List Int)},All2 (S.TK h) ks ws->ks.map (S.dc h)=ws
 | [],[],_=>rfl
 | _::_,_::_,⟨t,r⟩=>by rw[aY,ok.dec t,jR0 ok r]
end L2
namespace TM
open PySem PySem.Spec PyProof.Rows PySem.W
open L2 (All2)
section
variable {prog:Program}{w:World}{A:Around}{E:Value->Shared->Prop}{s:Shared}
end
end TM
namespace L2
open PySem PySem.Spec PyProof.Rows
def keyT:KeyS:=⟨TM.TupI,fun H v l=>∃ a,v=V.ref a/\H a=some (.tup (l.map V.int)),TM.kdOf,TM.decV⟩
theorem jTH:KeyOk keyT where
 of:=fun {P w H h v u l} ok r k=>by
  obtain⟨a,rfl,ha⟩:=k
  cases r
  obtain⟨_,its,r2,m,ho⟩:=(show ObjOk P w H h a (.tup _) from ok a _ ha)
  exact⟨a,m,its.toArray,rfl,ho,jKO r2⟩
 mono:=fun t k=>let ⟨a,e,h⟩:=k; ⟨a,e,t _ _ h⟩
 dec:=TM.TupI.dec
 kind:=TM.kind_of
 lt:=fun h1 h2 room h=>TM.lt_kd h1 h2 (by lia) h
section
variable {X:Cx}{S:KeyS}
theorem s_tk (ok:KeyOk S){P:Program}{w:World}{H:Hp}{h:Heap}(hk:HOk P w H h):∀ {us:List V}{its:List Value}{ws:List (List Int)},Vals us its->All2 (S.KR H) us ws->All2 (S.TK h) its ws
 | [],_,[], .nil,_=>trivial
 | _::_,_,_::_, .cons r rs,⟨t,ts⟩=>⟨ok.of hk r t,s_tk ok hk rs ts⟩
theorem s_out {H:Hp}{h:Heap} :∀ {us:List V}{its:List Value}{ws:List (List Int)},Vals us its->All2 (S.KR H) us ws->All2 (S.TK h) its ws->(ok:KeyOk S)->(∀ v∈us,∃ a,v=V.ref a)->∀ u∈its,∃ a,u= .ref a/\S.KR H (.ref a) (S.dc h u)
 | [],_,[], .nil,_,_,_,_,u,hu=>by cases hu
 | v::us,_,w::ws, .cons r rs,⟨t,ts⟩,⟨d,ds⟩,ok,hr,u,hu=>by
  rcases aF.mp hu with z | z
  ·obtain⟨a,rfl⟩:=hr v (am ..)
   cases r
   rw[z,ok.dec d]
   exact⟨a,rfl,t⟩
  ·exact s_out rs ts ds ok (fun v hv=>hr v (aj _ hv)) u z
end
end L2
namespace TM
open PySem PySem.Spec PyProof.Rows
section
variable {prog:Program}{w:World}{A:Around}{E:Value->Shared->Prop}{s:Shared}
end
end TM
namespace L2
open PySem PySem.Spec PyProof.Rows
section
variable {X:Cx}{o:Expr}{td:TE}{apos cpos:Pos}{S:KeyS}
end
end L2
namespace TM
open PySem PySem.Spec PyProof.Rows
section
variable {prog:Program}{w:World}{A:Around}{E:Value->Shared->Prop}{s:Shared}
theorem sorted_items {K:Type} [DecidableEq K]{knd:KeyKind prog w K}{v d:Addr}{kvs:List (K×Value)}{Q:Value->Shared->Prop}(hh:A.handled=none)(hv:s.heap.IsItemsView v d)(D:s.heap.DictOf knd d kvs)(hz0:kvs.length<=sizeLine)
  (hyp:∀ (h1:Heap) (tk:Nat) (as:List Addr),(∀ b o,s.heap.get? b=some o->h1.get? b=some o)->as.length=kvs.length->PySem.W.KdxG knd kvs s.heap.objs.size h1 as->∃ od:Od,@AllI od (pairsOf (as.map Value.ref)).toList/\
   (2<=(as.map Value.ref).length->∀ (h5:Heap) (a:Addr),(∀ c o,h1.get? c=some o->h5.get? c=some o)->h1.objs.size<=a-> @AskOk od prog w A.in1.in1 { s with heap:=h5,toks:=tk} a (as.map Value.ref))/\
   ∀ (hf:Heap) (l:Addr) (xs:Array Keyed) (e:Nat),h1.objs.size<=l->(∀ b u,h1.get? b=some u->hf.get? b=some u)->hf.get? l=some { cls:= .type "list",data:= .seq (xs.map (·.2)) e} ->xs.Perm (pairsOf (as.map Value.ref))-> @STo od xs (pairsOf (as.map Value.ref)).size->Q (.ref l) { s with heap:=hf,toks:=tk}):
  wpAny (model prog w) A (call (.builtin "sorted") [.ref v]) Q E s:=by
 obtain⟨ep,hat⟩:=D.dictAt
 refine iO kind_sorted plain_sorted entry_sorted (args_sorted1 _) ?_
 unfold Builtin.«sorted»
 refine aa (m:=checkCount "sorted" 1 1 _) (ao ?_)
 refine aa (PySem.W.kdx_collect (A:=A.in1) (knd:=knd) (kvs:=kvs) (ep:=ep) hh hv hat hz0 fun h1 tk as hk1 hl1 G1=>?_)
 obtain⟨od,hI,hk,h⟩:=hyp h1 tk as hk1 hl1 G1
 have hz:(as.map Value.ref).length<=sizeLine:=by rw[ab,hl1]; exact hz0
 generalize as.map Value.ref=vs at hI hk h hz ⊢
 refine aa (iY ?_ hz)
 have hL:(h1.push (seqObj "list" vs.toArray 0)).get? h1.objs.size=some (seqObj "list" vs.toArray 0):=aB _ rfl
 show wpAny _ _ _ _ _ { s with heap:=h1.push (seqObj "list" vs.toArray 0),toks:=tk}
 refine aa (ck (cz slot_list_sort ⟨_,hL,rfl⟩ entry_list_sort (by
  rw[jM5]
  exact jIP (s:= { s with heap:=h1.push (seqObj "list" vs.toArray 0),toks:=tk}) hL hz hI (fun h2=>hk h2 _ _ (fun c o q=>ag _ q) (ar _)) fun xs p1 p2=>⟨_,rfl,ao ⟨_,rfl,by
   obtain⟨e,he⟩:=sortedHeap_at (out:=turned false (xs.map (·.2))) hL
   refine h _ h1.objs.size xs e (ar _) (fun b u q=>?_) he p1 p2
   have hb:b<h1.objs.size:=aG q
   show (sortedHeap (h1.push (seqObj "list" vs.toArray 0)) h1.objs.size vs _).get? b=_
   rw[sortedHeap_old (bb hb) (by rw[size_push']; exact cB hb)]
   exact ag _ q⟩⟩) (args_list_sort _)))
end
end TM
namespace L2
open PySem PySem.Spec PyProof.Rows
def ViewI (v d:Addr):HO:= .ext fun h=>h.IsItemsView v d
def jRY (td:TE):TE:=fun σ H Q=>td σ H fun x H1=>∃ (a:Addr) (kvs:List (Key×V)),x= .ref a/\Rd H1 a (.dK kvs)/\∀ p,H1 p=none->Q (.ref p) (upd H1 p (ViewI p a))
variable {X:Cx}
section
variable {o:Expr}{td:TE}{apos cpos:Pos}{S:KeyS}
theorem jNI (ho:JE X o td)(base:attributeBase o "items" X.env (eval o X.env)=eval o X.env:=by rfl)
  (line:(apos.endLine==cpos.line)=true:=by rfl):JE X (.Call (.Attribute o "items" apos) [] [] cpos) (jRY td):=⟨fun ad s σ H Q I h=>by
 refine gn base line (lI (ho.h ad s σ H _ I h) fun u s1 ⟨x,H1,I1,rx,a,kvs,ex,d,q1⟩=>?_)
 subst ex
 obtain rfl:u=Value.ref a:=rx
 obtain⟨t1,t2,sm⟩:=jNP I1 (.inl ⟨kvs,d⟩)
 obtain⟨z,hd,vs,rel,dd⟩:=dk_rd I1.hok d
 refine⟨_,_,gq,eW,jf,t1,t2,dR rfl (ik ?_)⟩
 refine jp eW dd.typeIs i4 (iP _) (meets_dict_items (jX X.prog X.w) a hd) ⟨⟨_,dd⟩,?_⟩
 have g:(s1.heap.push { cls:= .type "dict_items",data:= .fields #[.ref a]}).get? s1.heap.objs.size=some { cls:= .type "dict_items",data:= .fields #[.ref a]} :=aB _ rfl
 exact⟨.ref s1.heap.objs.size,_,I1.laid (t':=s1.toks) (o:=ViewI s1.heap.objs.size a) (fun b ob q=>ag _ q) (ar _) ⟨⟨_,g,rfl,rfl⟩,⟨_,g⟩,fun h1 h2 ⟨o,ho,r⟩ k=>⟨o,k o ho,r⟩⟩,rfl,q1 _ I1.fresh⟩⟩
theorem jLR (ok:KeyOk S)(hc:X.calm=true)(hu:X.A.units+101<cLine){ad:List (Addr×Obj)}{s:Shared}{σ:St}{H:Hp}{Q:VK}{us:List V}{its:List Value}{ws:List (List Int)}(I:Inv X ad σ H s)(r':Vals us its)(ht:All2 (S.KR H) us ws)(hrf:∀ v∈us,∃ a,v=V.ref a)(hz:its.length<=sizeLine)
  (q:∀ (l:Addr) (us':List V) (ws':List (List Int)),H l=none->All2 (S.KR H) us' ws'->ws'.Perm ws->ws'.Pairwise (fun x y=>HT.lexLt y x=false)->Q (.ref l) (upd H l (.lst us'))):
  ∃ od:TM.Od,@TM.AllI od (pairsOf its).toList/\(2<=its.length->∀ (h5:Heap) (a:Addr),(∀ c o,s.heap.get? c=some o->h5.get? c=some o)->s.heap.objs.size<=a-> @TM.AskOk od X.prog X.w X.A.in1.in1 { s with heap:=h5} a its)/\
   ∀ (hf:Heap) (l:Addr) (out:Array Keyed) (e:Nat),s.heap.objs.size<=l->(∀ b u,s.heap.get? b=some u->hf.get? b=some u)->hf.get? l=some { cls:= .type "list",data:= .seq (out.map (·.2)) e} ->out.Perm (pairsOf its)-> @TM.STo od out (pairsOf its).size->EP X ad σ Q (.ref l) { s with heap:=hf} :=by
 have hlen:=r'.length
 have d:=s_tk ok I.hok r' ht
 have hat:=s_out r' ht d ok hrf
 have ddc:=jR0 ok d
 refine⟨odK S ws s.heap its,(fun x hx=>(TM.pairs_mem hx).2),(fun h2 h5 a k5 ha=>fun h6 k6=>?_),fun hf l out e hl kp he p1 p2=>?_⟩
 ·have hok6:HOk X.prog X.w H h6:=I.hok.kept fun b o z=>k6 _ _ (k5 _ _ z) (bb (bh (aG z) ha))
  have d6:=s_tk ok hok6 r' ht
  have ne:its≠ []:=fun z=>by rw[z] at h2; exact absurd h2 (by decide)
  refine⟨fun Q' E' h=>ok.kind (s:= { s with heap:=h6}) d6 ne h,@TM.LtOk.mk _ _ _ _ (odK S ws s.heap its) fun {E st x y Q} hk hx hy h=>?_⟩
  have e:decide (@TM.key (odK S ws s.heap its) x< @TM.key (odK S ws s.heap its) y)=HT.lexLt (S.dc s.heap x.1) (S.dc s.heap y.1):=TM.rk_lt (ce hx)
  rw[e] at h
  rw[lt'_eq]
  refine aI (g6 ?_)
  rw[show kindOf st=S.kd ws from hk]
  obtain⟨i,hi⟩:=bR hx
  obtain⟨j,hj⟩:=bR hy
  obtain⟨l1,g1,t1⟩:=d.get' hi
  obtain⟨l2,g2,t2⟩:=d.get' hj
  obtain⟨m1,g3,t3⟩:=d6.get' hi
  obtain⟨m2,g4,t4⟩:=d6.get' hj
  rw[g1] at g3
  rw[g2] at g4
  cases g3
  cases g4
  rw[ok.dec t1,ok.dec t2] at h
  exact aI (iJ (ga (ok.lt (s:= { s with heap:=h6}) t3 t4 (by rw[Around.in1_units,Around.in1_units]; lia) ⟨rfl,aO h⟩)))
 ·have pl:=dk.mp p1
  have o1:(out.map (·.2)).toList.Perm its:=by
   rw[Array.toList_map]
   have:=pl.map Prod.snd
   rw[pairsOf_toList,List.map_snd_zip (ar _)] at this
   exact this
  have o2:(out.map (·.2)).toList.Pairwise fun u v=>HT.lexLt (S.dc s.heap v) (S.dc s.heap u)=false:=by
   have me:∀ q∈out.toList,q.1=q.2/\q.1∈its:=fun q hq=>TM.pairs_mem (pl.mem_iff.mp hq)
   have sz:=p1.size_eq
   rw[Array.toList_map,bA,bW]
   intro i j hi hj hij
   rw[aV] at hi hj
   have k:=p2 i j (dh hij) (by lia)
   have ei:out[i]?=some out[i]:=lE _ i hi
   have ej:out[j]?=some out[j]:=lE _ j hj
   have m1:=me out[i] (by simp)
   have m2:=me out[j] (by simp)
   rw[@TM.KI_key (odK S ws s.heap its) _ _ _ ei,@TM.KI_key (odK S ws s.heap its) _ _ _ ej] at k
   have e:decide (@TM.key (odK S ws s.heap its) out[j]< @TM.key (odK S ws s.heap its) out[i])=HT.lexLt (S.dc s.heap out[j].1) (S.dc s.heap out[i].1):=TM.rk_lt (ce m2.2)
   rw[kz,kz,<- m1.1,<- m2.1,<- e]
   exact aM (by lia)
  have rf:∀ u∈(out.map (·.2)).toList,∃ a,u= .ref a/\S.KR H (.ref a) (S.dc s.heap u):=fun u hu=>hat u (o1.mem_iff.mp hu)
  have hz2:((out.map (·.2)).toList.map refV).length<=sizeLine:=by
   rw[ab,o1.length_eq]
   lia
  have v1:Vals ((out.map (·.2)).toList.map refV) (out.map (·.2)).toList:=jGD fun u hu=>let ⟨a,e,_⟩:=rf u hu; ⟨a,e⟩
  have I2:Inv X ad σ (upd H l (.lst ((out.map (·.2)).toList.map refV))) { s with heap:=hf} :=I.laid (t':=s.toks) kp hl ⟨hz2,(out.map (·.2)).toList,e,v1,by rw[fq]; exact he⟩
  have v2:All2 (S.KR H) ((out.map (·.2)).toList.map refV) ((out.map (·.2)).toList.map (S.dc s.heap)):=by
   generalize (out.map (·.2)).toList=l at rf
   induction l with
   | nil=>trivial
   | cons u l ih=>
    obtain⟨a,e,k⟩:=rf u (am ..)
    refine⟨?_,ih fun w hw=>rf w (aj _ hw)⟩
    rw[e] at k ⊢
    exact k
  refine⟨.ref _,_,I2,rfl,q _ _ ((out.map (·.2)).toList.map (S.dc s.heap)) (I.hok.fresh hl) v2 ?_ ?_⟩
  ·rw[<- ddc]
   exact o1.map _
  ·exact bA.mpr o2
end
section
variable {β:Type}
theorem jKW:∀ {as:List Addr}{ws:List β}{b:Addr},b∉as->(as.zip ws).lookup b=none
 | [],_,_,_=>rfl
 | _::_,[],_,_=>rfl
 | a::as,w::ws,b,h=>by
  have n:(b==a)=false:=by simpa using fun z:b=a=>h (by rw[z]; exact am ..)
  show (match b==a with | true=>some w | false=>(as.zip ws).lookup b)=none
  rw[n]
  exact jKW fun z=>h (aj _ z)
theorem zl_at:∀ {as:List Addr}{ws:List β}{j:Nat}{b:Addr}{w:β},as.Nodup->as[j]?=some b->ws[j]?=some w->(as.zip ws).lookup b=some w
 | [],_,_,_,_,_,h,_=>by cases h
 | _::_,[],_,_,_,_,_,h=>by cases h
 | a::as,x::ws,0,b,w,_,h1,h2=>by
  have e1:a=b:=by simpa using h1
  have e2:x=w:=by simpa using h2
  show (match b==a with | true=>some x | false=>(as.zip ws).lookup b)=some w
  rw[e1,e2,show (b==b)=true by simp]
 | a::as,x::ws,j+1,b,w,nd,h1,h2=>by
  obtain⟨n1,n2⟩:=bF.mp nd
  have h1:as[j]?=some b:=by simpa using h1
  have n:(b==a)=false:=by simpa using fun z:b=a=>n1 (by rw[<- z]; exact aH h1)
  show (match b==a with | true=>some x | false=>(as.zip ws).lookup b)=some w
  rw[n]
  exact zl_at n2 h1 (by simpa using h2)
end
def withP (H:Hp)(as:List Addr)(ws:List (Int×Int)):Hp:=fun b=>match (as.zip ws).lookup b with | some w=>some (.tup [.int w.1, .int w.2]) | none=>H b
theorem jA4 {H:Hp}{as:List Addr}{ws:List (Int×Int)}{b:Addr}(h:b∉as):withP H as ws b=H b:=by
 unfold withP
 rw[jKW h]
theorem jII {H:Hp}{as:List Addr}{ws:List (Int×Int)}{b:Addr}{w:Int×Int}{j:Nat}(nd:as.Nodup)(h1:as[j]?=some b)(h2:ws[j]?=some w):withP H as ws b=some (.tup [.int w.1, .int w.2]):=by
 unfold withP
 rw[zl_at nd h1 h2]
def prW (w:Int×Int):List Int:=[w.1,w.2]
theorem jRQ {R:V->List Int->Prop}{S:V->Int×Int->Prop}(h:∀ u w,R u (prW w)->S u w):∀ {us:List V}{ws:List (Int×Int)},All2 R us (ws.map prW)->All2 S us ws
 | [],[],_=>trivial
 | _::_,_::_,k=>⟨h _ _ k.1,jRQ h k.2⟩
 | [],_::_,k=>k.elim
 | _::_,[],k=>k.elim
theorem jH2 (hc:X.calm=true)(hu:X.A.units+101<cLine):qC X (.builtin "sorted") (fun xs H Q=>∃ (p d:Addr) (kvs:List (Key×V)) (ws:List (Int×Int)),xs=[.ref p]/\H p=some (ViewI p d)/\Rd H d (.dK kvs)/\kvs=ws.map (fun w=>((Sum.inl w.1:Key),V.int w.2))/\
  ∀ (l:Addr) (us:List V) (ws':List (Int×Int)) (H':Hp),H' l=some (.lst us)->All2 (fun u w=>∃ a,u=V.ref a/\H' a=some (.tup [.int w.1, .int w.2])) us ws'->ws'.Perm ws->ws'.Pairwise (fun x y=>HT.lexLt (prW y) (prW x)=false)->Ext H H'->H l=none->Q (.ref l) H'):=by
 intro ad s σ H xs us Q I r h
 obtain⟨p,dx,kvs,ws,rfl,hp,hdx,hk,q⟩:=h
 obtain⟨u,rfl,rx⟩:=r.one
 cases rx
 obtain⟨hview,_,_⟩:=I.hok p _ hp
 obtain⟨z,lo,vs,rel,dd⟩:=dk_rd I.hok hdx
 have vl:=KV.length rel
 refine TM.sorted_items (I.ok.hd hc) hview dd (by lia) fun h1 tk as kp hl G=>?_
 have wl:ws.length=as.length:=by rw[hl,<- vl,hk,ab]
 have nd:as.Nodup:=G.rise.imp fun {a b} h=>bb h
 have old:∀ b o,s.heap.get? b=some o->b∉as:=fun b o e hb=>absurd (G.above b hb) (jo.mpr (dh (aG e)))
 have oldH:∀ b o,H b=some o->b∉as:=fun b o e hb=>absurd (G.above b hb) (jo.mpr (dh (I.hok b o e).lt))
 have prs:∀ (j:Nat) (a:Addr) (w:Int×Int),as[j]?=some a->ws[j]?=some w->∃ key x,h1.get? a=some { cls:= .type "tuple",data:= .seq #[key,x]} /\RelV (.int w.1) key/\RelV (.int w.2) x:=fun j a w ha hw=>by
  obtain⟨key,k,x,e1,e2,e3⟩:=G.pairs j a ha
  have hkj:kvs[j]?=some ((Sum.inl w.1:Key),V.int w.2):=by rw[hk,aA,hw]; rfl
  obtain⟨u,hu2,ru⟩:=KV.at rel hkj
  rw[hu2] at e1
  cases e1
  refine⟨key,x,e3,?_,ru⟩
  rcases kE (show keyIs (Sum.inl w.1) key=true from e2) with ⟨i',t,q1,q2⟩ | ⟨y,t,q1,q2⟩
  ·cases q1
   rw[q2]; exact⟨t,rfl⟩
  ·cases q1
 have un:Un X.fs [] H (withP H as ws) s.heap h1:=by
  refine⟨fun b o e _ _ _=>kp b o e,fun b o e _ _ _=>⟨o.slots,kp b o e⟩,fun b o e n _=>by rw[jA4 (old b o e)]; exact n,fun b o e _=>⟨o,kp b o e⟩,fun b xs e=>by rw[jA4 (oldH b _ e)]; exact e,fun b o u e=>by rw[jA4 (oldH b _ e)]; exact e,fun b ps e=>⟨#[],by rw[jA4 (oldH b _ e),e]; simp⟩⟩
 have hok:HOk X.prog X.w (withP H as ws) h1:=fun b o e=>by
  by_cases hb:b∈as
  ·obtain⟨j,hj,ej⟩:=la.mp hb
   have h1':as[j]?=some b:=by rw[ak hj,ej]
   have hw:ws[j]?=some ws[j]:=ak (by lia)
   rw[jII nd h1' hw] at e
   cases e
   obtain⟨key,x,g1,g2,g3⟩:=prs j b _ h1' hw
   exact⟨by rw[gh]; show 2<=_; decide,[key,x], .cons g2 (.cons g3 .nil),0,g1⟩
  ·rw[jA4 hb] at e
   refine(I.hok b o e).stay (fun c w _ q=>kp c w q) (fun c q=>by rw[jA4 (oldH c _ q)]; exact q) (fun c ws q=>by rw[jA4 (oldH c _ q)]; exact q)
 have I1:Inv X ad σ (withP H as ws) { s with heap:=h1,toks:=tk} :=I.un (t':=tk) un hok
 have v1:Vals (as.map V.ref) (as.map Value.ref):=by
  clear hl G wl nd old oldH prs un hok I1
  induction as with
  | nil=>exact .nil
  | cons a as ih=>exact .cons rfl ih
 have a2:All2 (keyT.KR (withP H as ws)) (as.map V.ref) (ws.map prW):=All2.of_get (by rw[ab,ab,wl]) fun j u l hu2 hl2=>by
  rw[aA] at hu2 hl2
  cases ha:as[j]? with
  | none=>rw[ha] at hu2; cases hu2
  | some a=>
   cases hw:ws[j]? with
   | none=>rw[hw] at hl2; cases hl2
   | some w=>
    rw[ha] at hu2
    rw[hw] at hl2
    cases hu2
    cases hl2
    exact⟨a,rfl,jII nd ha hw⟩
 refine jLR jTH hc hu I1 v1 a2 (fun v hv=>let ⟨a,_,e⟩:=aL.mp hv; ⟨a,e.symm⟩) (by rw[ab]; lia) fun l us' wsL hl0 al pm pw=>?_
 have f1:∀ x∈wsL,prW (x.getD 0 0,x.getD 1 0)=x:=fun x hx=>by
  obtain⟨w,_,rfl⟩:=aL.mp (pm.mem_iff.mp hx)
  rfl
 have e1:(wsL.map fun x=>(x.getD 0 0,x.getD 1 0)).map prW=wsL:=by
  rw[ba]
  exact(aX f1).trans (dU _)
 have p1:(wsL.map fun x=>(x.getD 0 0,x.getD 1 0)).Perm ws:=by
  have:=pm.map fun x:List Int=>(x.getD 0 0,x.getD 1 0)
  rw[ba] at this
  exact this.trans (ge ((aX fun w _=>rfl).trans (dU _)))
 have Hl:H l=none:=by
  cases e:H l with
  | none=>rfl
  | some o=>rw[jA4 (oldH l o e),e] at hl0; cases hl0
 rw[<- e1] at al pw
 refine q l us' _ _ j6 ?_ p1 (bA.mp pw) (fun b o e=>?_) Hl
 ·refine jRQ (fun u w ⟨a,e,ha⟩=>⟨a,e,?_⟩) al
  rw[j8 (fun z=>by rw[z] at ha; rw[hl0] at ha; cases ha)]
  exact ha
 ·rw[j8 (fun z=>by rw[z,Hl] at e; cases e),jA4 (oldH b o e)]
  exact e
variable {prog:Program}{w:World}{A:Around}
section
variable {E:Value->Shared->Prop}{s:Shared}
def Tells (Q E:Value->Shared->Prop):Result->Shared->Prop:=fun r s=>match r with | .ok (.ret v)=>Q v s | .ok _=>False | .error e=>E e s
theorem jQQ {id:String}{b:Builtin}{args:List Value}{kw:List (Str×Value)}{Q:Value->Shared->Prop}(hk:builtinKind id=none)(hp:plainId id=true)(hb:entryFor table id=some b)(ha:argsOk id ⟨args,kw⟩)
  (hc:wpAny (model prog w) A.in1 (b ⟨args,kw⟩) (fun fin t=>match fin with | .done f=>Tells Q E (Except.ok f) t | .again c=>c.quiet=true/\codeAny (model prog w) A c (Tells Q E) t) E s):wpAny (model prog w) A (call (.builtin id) args kw) Q E s:=by
 refine jl (codeAny_call_builtin hp hb ?_)
 simp only [checkBuiltinCall,hk]
 cases z:Manifest.signature? id with
 | none=>exact ao hc
 | some g=>
  have y:Bind.checkArgs id g ⟨args,kw⟩=pure ():=by simpa only [argsOk,z] using ha
  simp only [y]
  exact ao hc
end
abbrev dKw (d:Value):List (Str×Value):=[(Str.ofString "default",d)]
abbrev mxB (I S:Addr)(d:Value):Code:= .builtin "max.loop" ⟨[.ref I, .none, .ref S],dKw d⟩
abbrev LstO (vs:Array Value)(c:Nat):Obj:= { cls:= .type "list",dict:=none,data:= .seq vs c,slots:=#[]}
section
variable {R:Result->Shared->Prop}{I:Addr}{fp wr:List Addr}{n:Nat}{P:Nat->Value->Prop}{St:Nat->Heap->Prop}
theorem jJ8:(toString "max" ++toString ".loop" :String)= "max.loop" :=by decide
theorem mx_go (W:Walks prog w A.in1 I fp wr n P St)(bt:Nat->Nat->Bool)(cm:CmpOf prog w A.in1 .Gt P bt){S:Addr}{d:Value}(Sf:S∉fp):∀ (k j:Nat) (t:Shared) (b:Value) (c:Nat),n=j+1+k->St (j+1) t.heap->P (argBest bt j) b->t.heap.get? S=some (LstO #[b,b] c)->
  (∀ v h u,P (argBest bt (n - 1)) v->(∀ a o,a∉wr->a≠S->t.heap.get? a=some o->h.get? a=some o)->R (.ok (.ret v)) { t with heap:=h,toks:=u})->codeAny (model prog w) A (mxB I S d) R t
 | 0,j,t,b,c,hn,st,pb,hS,fin=>by
  have Sw:S∉wr:=fun z=>Sf (W.sub _ z)
  refine cL F.entry_max_loop ?_
  rw[ci F.plain_max_loop _]
  refine aa (m:=seqItems? (.ref S)) (gA hS rfl ?_)
  refine aa (gG (W.done t _ _ (by rw[hn]; exact st) fun h u kp=>?_))
  have S2:=kp S _ Sw hS
  refine aa (m:=updateSeq S fun _=>#[]) (gd S2 rfl (aa (iU (ao ?_))))
  exact fin b _ u (by rw[hn]; exact pb) fun a o aw aS e=>(bZ _ _ (eG aS)).trans (kp a o aw e)
 | k+1,j,t,b,c,hn,st,pb,hS,fin=>by
  have Sw:S∉wr:=fun z=>Sf (W.sub _ z)
  refine cL F.entry_max_loop ?_
  rw[ci F.plain_max_loop _]
  refine aa (m:=seqItems? (.ref S)) (gA hS rfl ?_)
  refine aa (gG (W.item (j+1) t _ _ (by lia) st fun v h u pv st2 kp=>?_))
  have S2:=kp S _ Sw hS
  refine aa (ao ?_)
  refine aa (gG (ck (aa (cm (j+1) (argBest bt j) v b _ _ _ pv pb ?_))))
  refine aa (ck (di (aa (iU (ao ?_)))))
  cases hb:bt (j+1) (argBest bt j) with
  | true=>
   simp only [gW]
   refine aa (gd S2 rfl (aa (iU ?_)))
   rw[jJ8]
   refine ao ⟨dS F.plain_max_loop _,mx_go W bt cm Sf k (j+1) _ v _ (by lia) (W.frame _ _ _ st2 fun a af o e=>(bZ _ _ (fun z:S=a=>Sf (by rw[z]; exact af))).trans e) (by simp only [argBest,hb,gW]; exact pv) (cV _ S2 rfl) fun v' h2 u2 pv2 kp2=>?_⟩
   exact fin v' h2 u2 pv2 fun a o aw aS e=>kp2 a o aw aS ((bZ _ _ (eG aS)).trans (kp a o aw e))
  | false=>
   simp only [ly,lH]
   refine aa (iU ?_)
   rw[jJ8]
   refine ao ⟨dS F.plain_max_loop _,mx_go W bt cm Sf k (j+1) _ b c (by lia) st2 (by simp only [argBest,hb,ly,lH]; exact pb) S2 fun v' h2 u2 pv2 kp2=>?_⟩
   exact fin v' h2 u2 pv2 fun a o aw aS e=>kp2 a o aw aS (kp a o aw e)
theorem jPP (W:Walks prog w A.in1 I fp wr n P St)(bt:Nat->Nat->Bool)(cm:CmpOf prog w A.in1 .Gt P bt){S:Addr}{d:Value}(Sf:S∉fp){t:Shared}{c:Nat}(st:St 0 t.heap)(hS:t.heap.get? S=some (LstO #[] c))
  (none_:n=0->∀ h u,(∀ a o,a∉wr->a≠S->t.heap.get? a=some o->h.get? a=some o)->R (.ok (.ret d)) { t with heap:=h,toks:=u})
  (fin:0<n->∀ v h u,P (argBest bt (n - 1)) v->(∀ a o,a∉wr->a≠S->t.heap.get? a=some o->h.get? a=some o)->R (.ok (.ret v)) { t with heap:=h,toks:=u}):codeAny (model prog w) A (mxB I S d) R t:=by
 have Sw:S∉wr:=fun z=>Sf (W.sub _ z)
 refine cL F.entry_max_loop ?_
 rw[ci F.plain_max_loop _]
 refine aa (m:=seqItems? (.ref S)) (gA hS rfl ?_)
 by_cases hn:n=0
 ·refine aa (gG (W.done t _ _ (by rw[hn]; exact st) fun h u kp=>?_))
  refine aa (dw (ao ?_))
  exact none_ hn h u fun a o aw _ e=>kp a o aw e
 ·refine aa (gG (W.item 0 t _ _ (by lia) st fun v h u pv st2 kp=>?_))
  have S2:=kp S _ Sw hS
  refine aa (ao ?_)
  refine aa (m:=updateSeq S fun _=>#[v,v]) (gd S2 rfl ?_)
  rw[jJ8]
  refine ao ⟨dS F.plain_max_loop _,mx_go W bt cm Sf (n - 1) 0 _ v _ (by lia) (W.frame _ _ _ st2 fun a af o e=>(bZ _ _ (fun z:S=a=>Sf (by rw[z]; exact af))).trans e) pv (cV _ S2 rfl) fun v' h2 u2 pv2 kp2=>?_⟩
  exact fin (by lia) v' h2 u2 pv2 fun a o aw aS e=>kp2 a o aw aS ((bZ _ _ (eG aS)).trans (kp a o aw e))
end
theorem jOW (a d:Value):argsOk "max" ⟨[a],dKw d⟩:=by unfold argsOk; kernel_rfl
theorem jOL (hc:X.calm=true):jP2 X (.builtin "max") [Str.ofString "default"] (fun xs zs H Q=>∃ (p:Addr) (ns:List Int) (d M:Int),xs=[.ref p]/\zs=[.int d]/\SqL X.K H p (ns.map V.int)/\(ns=[]->d=M)/\(∀ m,m∈ns->(∀ a∈ns,a<=m)->m=M)/\Q (.int M) H):=by
 intro ad s σ H xs zs us ws Q I r rz h
 obtain⟨p,ns,d,M,rfl,rfl,hq,h0,h1,qq⟩:=h
 have q0:ns=[]->Q (.int d) H:=fun e=>by rw[h0 e]; exact qq
 have q:∀ m,m∈ns->(∀ a∈ns,a<=m)->Q (.int m) H:=fun m a b=>by rw[h1 m a b]; exact qq
 obtain⟨u,rfl,rx⟩:=r.one
 obtain⟨v,rfl,ry⟩:=rz.one
 cases rx
 obtain⟨td,rfl⟩:=ry
 obtain⟨its,r',pl,hz⟩:=I.list hq
 have hlen:=r'.length
 rw[ab] at hlen
 have val:∀ (i:Nat) (v:Value),its[i]?=some v->∃ t,v=Value.int (ns.getD i 0) t:=fun i v hi=>by
  have hb:i<ns.length:=by
   rw[hlen]
   exact(ax.mp hi).1
  obtain⟨u,hu,ru⟩:=r'.get (i:=i) (x:= .int (ns[i])) (by simp [hb])
  rw[hi] at hu
  cases hu
  obtain⟨t,rfl⟩:=ru
  exact⟨t,by simp [List.getD,hb]⟩
 have hne:p≠s.heap.objs.size:=by
  obtain⟨o,ho,_⟩:=pl.isList
  exact bb (aG ho)
 refine jQQ F.kind_max F.plain_max F.entry_max (jOW _ _) ?_
 refine aa (m:=Builtin.Builtins.bindParams "max" ["key","default"] 0 ⟨[],dKw (.int d td)⟩) (ki (show _=pure [none,some (.int d td)] from rfl) ?_)
 refine aa (ao (aa (dG pl.isList ?_)))
 refine aa (cU ?_)
 rw[jJ8]
 have pz:p<s.heap.objs.size:=by obtain⟨o,ho,_⟩:=pl.isList; exact aG ho
 have z1:(s.heap.push { cls:= .type "list_iterator",data:= .fields #[.ref p, .int 0 0]}).objs.size=s.heap.objs.size+1:=dy ..
 have kp:∀ {h:Heap},(∀ a o,a∉ [s.heap.objs.size]->a≠(s.heap.push { cls:= .type "list_iterator",data:= .fields #[.ref p, .int 0 0]}).objs.size->((s.heap.push { cls:= .type "list_iterator",data:= .fields #[.ref p, .int 0 0]}).push { cls:= .type "list",data:= .seq #[]}).get? a=some o->h.get? a=some o)->∀ b u,s.heap.get? b=some u->h.get? b=some u:=fun k b u e=>by
  have:=aG e
  exact k b u (by rw[aE]; exact bb this) (by rw[z1]; exact bb (cB this)) (ag _ (ag _ e))
 refine ao ⟨dS F.plain_max_loop _,jPP (jn (by simpa using I.ok.hd hc) s.heap.objs.size p hne its.toArray) _ (CmpOf.ints_gt (fun i=>ns.getD i 0) (fun i v hP=>val i v (by simpa using hP))) (fun hb=>?_) ⟨⟨_,ag _ (aB _ rfl),rfl,rfl⟩,(pl.isList.push _).push _⟩ (aB _ rfl) (fun h0 h u k=>?_) fun h0 v h u hP k=>?_⟩
 ·rcases aF.mp hb with e | hb
  ·exact absurd e (by show (s.heap.push _).objs.size≠_; rw[z1]; lia)
  ·have e:(s.heap.push { cls:= .type "list_iterator",data:= .fields #[.ref p, .int 0 0]}).objs.size=p:=by simpa using hb
   rw[z1] at e
   exact absurd pz (by rw[<- e]; exact jo.mpr (kh _))
 ·have e:ns=[]:=by
   rw[aN] at h0
   exact eT.mp (by lia)
  exact⟨.int d,H,I.kept (t':=u) (kp k),⟨_,rfl⟩,q0 e⟩
 ·obtain⟨h1,h2⟩:=argBest_gt (fun i=>ns.getD i 0) (its.toArray.size - 1)
  rw[aN] at h0 h1 h2 hP
  rw[List.getElem?_toArray] at hP
  obtain⟨t,rfl⟩:=val _ v hP
  refine⟨.int _,H,I.kept (t':=u) (kp k),⟨_,rfl⟩,q _ ?_ fun a ha=>?_⟩
  ·generalize argBest _ _=j at h1
   have hj:j<ns.length:=by lia
   rw[ai,ak hj]
   exact cM hj
  ·obtain⟨j,hj⟩:=List.mem_iff_getElem?.mp ha
   have hjl:=(ax.mp hj).1
   have:=h2 j (by lia)
   have e:ns.getD j 0=a:=by rw[ai,hj]; rfl
   rw[e] at this
   exact this
def Itr3 (lo c:Int)(n:Nat):It:=⟨fun i _=>i<n,fun i H x H'=>H'=H/\x= .int (lo+i*c),fun i _=>n<=i⟩
theorem jHN {P:Program}{w:World}{K:W.Frag}{tg:Expr}(it:Addr)(lo c:Int)(n:Nat):Turn P w K tg (Itr3 lo c n) [it] it (fun i h=>IsRangeIter h it (lo+(i:Nat)*c) ((n:Int) - (i:Nat)) c) where
 mem:=by simp
 obj:=fun i h st b hb=>by
  have e:b=it:=by simpa using hb
  subst e
  exact⟨_,st,fun v z=>by have z':Data.fields _=Data.cell v:=z; cases z'⟩
 keep:=fun i h h' st k=>k it (by simp) _ st
 item:=by
  intro X hP hw hK hc i ad s σ H E I hf st hg
  subst hP hw hK
  obtain⟨f0,f1,f2,f3,f4,f5⟩:=hf it (by simp)
  have W:=Walks.range (prog:=X.prog) (w:=X.w) (I.ok.hd hc) it lo c n
  refine W.item i s _ _ hg st fun v h' tk hv st' kk=>?_
  obtain⟨t,rfl⟩:=hv
  have I1:Inv X ad σ H { s with heap:=h',toks:=tk} :=I.turned (fun b o hb e=>kk b o (by simpa using hb) e) f0 f1 f3 f4 f5
  exact⟨_,rfl,go_of (s:= { s with heap:=h',toks:=tk}) (n:= "range_iterator") st' rfl rfl (by decide) ⟨.int (lo+i*c),H,I1,⟨t,rfl⟩,⟨rfl,rfl⟩,st',fun b hb=>(hf b hb).1⟩⟩
 done:=by
  intro X hP hw hK hc i ad s σ H E I hf st hg
  subst hP hw hK
  obtain⟨f0,f1,f2,f3,f4,f5⟩:=hf it (by simp)
  exact wpAny_pyNext_range_end (I.ok.hd hc) st (by have:n<=i:=hg; lia) fun h' eb=>⟨rfl,I.turned (t':=s.toks) (fun b o hb e=>eb b o hb e) f0 f1 f3 f4 f5⟩
 self:=fun _ _ _ _ _ st h=>wpAny_pyIter_rangeiter st h
section
variable {tg:Expr}
theorem jLW {ad:List (Addr×Obj)}{σ:St}{H:Hp}{s:Shared}{R:It->Hp->Prop}{E:Value->Shared->Prop}{lo hi c:Int}{n:Nat}{t u v:Tok}{tk:Nat}(I:Inv X ad σ H s)(hs:Builtin.Range.small lo hi c=true)(hz:Builtin.Range.rangeSize lo hi c=(n:Int))
  (q:R (Itr3 lo c n) H):wpAny (model X.prog X.w) X.A (pyIter (.ref s.heap.objs.size)) (PIE X ad σ tg R) E { s with heap:=s.heap.push { cls:= .type "range",data:= .fields #[.int lo t, .int hi u, .int c v]},toks:=tk} :=by
 refine wpAny_pyIter_range (IsRange.new ..) hs ?_
 have I1:Inv X ad σ H { s with heap:=s.heap.push { cls:= .type "range",data:= .fields #[.int lo t, .int hi u, .int c v]},toks:=tk} :=I.kept fun b o e=>ag _ e
 refine⟨_,[(s.heap.push { cls:= .type "range",data:= .fields #[.int lo t, .int hi u, .int c v]}).objs.size],_,_,H,rfl,I1.kept (t':=tk) fun b o e=>ag _ e,jHN _ lo c n,?_,fun b hb=>?_,q⟩
 ·have e1:lo+((0:Nat):Int)*c=lo:=by simp
  have e2:(n:Int) - ((0:Nat):Int)=Builtin.Range.rangeSize lo hi c:=by rw[hz]; lia
  show IsRangeIter _ _ (lo+((0:Nat):Int)*c) ((n:Int) - ((0:Nat):Int)) c
  rw[e1,e2]
  exact aB _ rfl
 ·have e:b=(s.heap.push { cls:= .type "range",data:= .fields #[.int lo t, .int hi u, .int c v]}).objs.size:=by simpa using hb
  subst e
  exact I1.fpOk (ar _) (I1.hok.fresh (ar _))
def iRng3 (ta:TA):TI:=fun σ H R=>ta σ H fun vs H1=>∃ (i j c:Int) (n:Nat),vs=[.int i, .int j, .int c]/\c≠0/\c.natAbs<1073741824/\Builtin.Range.small i j c=true/\Builtin.Range.rangeSize i j c=(n:Int)/\R (Itr3 i c n) H1
theorem jM6 {a b d:Expr}{ta:TA}{p pos:Pos}(hg:Gl X "range")(hm:X.mg "range" =none)(ha:PA X [a,b,d] ta)(hs:starEach [a,b,d] X.env=(false,eval a X.env)::starEach [b,d] X.env:=by rfl)(hpl:(backTo pos (starEach [b,d] X.env)).any (·.1)=false:=by rfl):
  PI X tg (.Call (.Name "range" p) [a,b,d] [] pos) (iRng3 ta):=by
 intro ad s σ H R I h
 refine Call_ (jD1 I hg hm boot_range (de (lI (ha pos ad s σ H _ I h) fun us s1 ⟨vs,H1,I1,r1,q1⟩=>?_) hs hpl))
 obtain⟨i,j,c,n,e,h0,h1,h2,h3,q⟩:=q1
 subst e
 cases r1 with
 | cons r rr=>
  cases rr with
  | cons r' rr=>
   cases rr with
   | cons r'' rr=>
    cases rr
    obtain⟨t,rfl⟩:=r
    obtain⟨t',rfl⟩:=r'
    obtain⟨t'',rfl⟩:=r''
    exact call_range_3 h0 (jLW I1 h2 h3 q) (.inl (PyProof.noPylong_small h1))
theorem jND {a b d:Expr}{t:TA}{p pos:Pos}(hg:Gl1 X "range")(hm:X.mg "range" =none)(ha:JA X [a,b,d] t)(hs:starEach [a,b,d] X.env=(false,eval a X.env)::starEach [b,d] X.env)(hpl:(backTo pos (starEach [b,d] X.env)).any (·.1)=false:=by rfl):
  JI X tg (.Call (.Name "range" p) [a,b,d] [] pos) (iRng3 t):=⟨jM6 hg.a hm ha.h hs hpl⟩
end
theorem jKR {lo c:Int}{n:Nat}{g:TG}{tb:TS}{D:Ends}{σ:St}{H:Hp}(Pv:Nat->St->Hp->Prop)(h0:Pv 0 σ H)
  (hs:∀ i σ H,i<n->Pv i σ H->g (.int (lo+i*c)) σ H fun σ2 H2=>tb { D with nx:=Pv (i+1),ct:=Pv (i+1),bk:=D.nx} σ2 H2) (hd:∀ σ H,Pv n σ H->D.nx σ H):
  ∃ W:Nat->Nat->St->Hp->Prop,(∃ m,W 0 m σ H)/\∀ i m σ H,W i m σ H->
   ((Itr3 lo c n).stop i H/\D.nx σ H)\/((Itr3 lo c n).go i H/\∃ N:St->Hp->Prop,(∀ σ' H',N σ' H'->∃ m',m'<m/\W (i+1) m' σ' H')/\∀ x H',(Itr3 lo c n).yld i H x H'->g x σ H' fun σ2 H2=>tb { D with nx:=N,ct:=N,bk:=D.nx} σ2 H2):=by
 refine⟨fun i m σ H=>m=n - i/\i<=n/\Pv i σ H,⟨_,rfl,bx _,h0⟩,?_⟩
 rintro i m σ H ⟨rfl,hi,p⟩
 by_cases hlt:i<n
 ·refine .inr ⟨hlt,Pv (i+1),fun σ' H' p'=>⟨n - (i+1),by lia,rfl,hlt,p'⟩,fun v H'' y=>?_⟩
  obtain⟨e1,e2⟩:=y
  subst e1 e2
  exact hs i σ _ hlt p
 ·have e:i=n:=by lia
  subst e
  exact .inl ⟨ar _,hd σ H p⟩
def jLX:V->List V->Hp->VK->Prop:=fun x vs H Q=>∃ (p:Addr) (ns:List Int) (i:Int) (k:Nat),x= .ref p/\vs=[.int i]/\H p=some (.lst (ns.map V.int))/\ns.length<=1000/\ns[k]?=some i/\(∀ m,m<k->ns[m]?≠some i)/\Q (.int (k:Int)) H
theorem jGJ:MtM X "list.index" jLX:=by
 intro ad s σ H x vs v us Q I rx rv h
 obtain⟨p,ns,i,k,rfl,rfl,hp,hs,hk,hno,q⟩:=h
 cases rx
 obtain⟨u,rfl,ru⟩:=rv.one
 obtain⟨z,its,n,r,_,e0⟩:=I.lstM hp
 have hl:=r.length
 rw[ab] at hl
 have hkl:k<its.length:=by rw[<- hl]; exact(ax.mp hk).1
 have at_:∀ m (hm:m<its.length),∃ (z:Int) (t:Tok),ns[m]?=some z/\its[m]= .int z t:=fun m hm=>by
  have hz:(ns.map V.int)[m]?=some (.int ns[m]):=by simp [show m<ns.length by lia]
  obtain⟨w,hw,t,rw'⟩:=r.get hz
  refine⟨ns[m],t,by simp [show m<ns.length by lia],?_⟩
  rw[ak hm] at hw
  rw[bo hw]
  exact rw'
 refine gS F.slot_list_index ⟨_,e0,rfl⟩ F.entry_list_index (F.args_list_index_2 _ _) (SeqAt.list_indexAt p its.toArray n none #[] u (eqU (.int i)) k (by simpa using hkl) (by lia) ?_ fun m hm hmk=>?_) ⟨e0,fun w hw=>jB8 ru rfl r ?_ w (by simpa using hw),?_⟩
 ·obtain⟨z,t,h1,h2⟩:=at_ k hkl
  rw[hk] at h1
  cases h1
  show eqU (.int i) its[k]=true
  rw[h2]
  show (i==i)=true
  simp
 ·have hm':m<its.length:=by simpa using hm
  obtain⟨z,t,h1,h2⟩:=at_ m hm'
  show eqU (.int i) its[m]=false
  rw[h2]
  show (z==i)=false
  rw[cc]
  exact fun e=>hno m hmk (by rw[h1,e])
 ·rw[bB]
  intro x hx
  obtain⟨z,_,rfl⟩:=aL.mp hx
  rfl
 ·exact⟨.int _,H,I.tok _,⟨s.toks,rfl⟩,q⟩
end L2
open PySem L2
variable {P:Program}{w:World}{K:W.Frag}{mg:Str->Option Value}{base:Heap}{f fT fL fW fR fG fI fM fF fA j fC a c c0 tb tb1 tb2 fP fB:Addr}{fdT fdL fdW fdR fdG fdI fdM fdF fdA fdC fdP fdB:FuncData}{cdv:Value}{A:Around}{outer:List Env}{s:Shared}{H0:Hp}{E:XK}{ms:List Int}{pcs:List (List Int×Int)}{cl:List (Str×Addr)}
namespace Eo
open PySem L2
def Keep (H H':Hp)(p:Addr):Prop:=∀ b o,H b=some o->b≠p->H' b=some o
structure Txt (mg:Str->Option Value):Prop where
 len:mg "len" =none
 range:mg "range" =none
 tuple:mg "tuple" =none
 sorted:mg "sorted" =none
 set:mg "set" =none
 list:mg "list" =none
 int:mg "int" =none
 isinstance:mg "isinstance" =none
 bool:mg "bool" =none
 str:mg "str" =none
 all:mg "all" =none
 zip:mg "zip" =none
 max:mg "max" =none
 min:mg "min" =none
 any:mg "any" =none
 abs:mg "abs" =none
 sum:mg "sum" =none
 enumerate:mg "enumerate" =none
 dict:mg "dict" =none
structure Can (P:Program)(w:World)(K:W.Frag)(mg:Str->Option Value)(base:Heap)(x:Str)(k:Nat)(f:Addr)(fd:FuncData)(ps:List Str)(sp:Sp):Prop where
 G:FnOk P w K mg base CX0 k f fd ps sp
 m:mg x=some (.ref f)
 kp:keepIn K (.ref f)=true
 b:Binds K fd ps []
theorem Can.pe {X:Cx}{x:Str}{k:Nat}{f:Addr}{fd:FuncData}{ps:List Str}{sp:Sp}{e:Expr}{es:List Expr}{t:TA}{p pos:Pos}(C:Can X.prog X.w X.K X.mg X.base x k f fd ps sp)(hr:Room k X.A)(hg:Gl X x)(ha:PA X (e::es) t)(hdb:(x==("__debug__" :Str))=false:=by decide)
  (he:starEach (e::es) X.env=(false,eval e X.env)::starEach es X.env:=by rfl) (hpl:(backTo pos (starEach es X.env)).any (·.1)=false:=by rfl):PE X (.Call (.Name x p) (e::es) [] pos) (tCall sp [] E0 t):=
 jSR C.G hr hg C.m C.kp C.b .nil pass0 ha hdb he hpl
theorem Can.je {X:Cx}{x:Str}{k:Nat}{f:Addr}{fd:FuncData}{ps:List Str}{sp:Sp}{e:Expr}{es:List Expr}{t:TA}{p pos:Pos}(C:Can X.prog X.w X.K X.mg X.base x k f fd ps sp)(hr:Room k X.A)(hg:Gl1 X x)(ha:JA X (e::es) t)(he:starEach (e::es) X.env=(false,eval e X.env)::starEach es X.env)
  (hdb:(x==("__debug__" :Str))=false:=by decide) (hpl:(backTo pos (starEach es X.env)).any (·.1)=false:=by rfl):JE X (.Call (.Name x p) (e::es) [] pos) (tCall sp [] E0 t):=
 ⟨C.pe hr hg.a ha.h hdb he hpl⟩
def jLP (K:W.Frag):Sp:=fun vs H Q _=>∃ (a:Addr) (ns:List Int) (k:Int),vs=[.ref a, .int k]/\SqL K H a (ns.map V.int)/\0<=k/\∀ c:Int,Q (.int c) H
theorem jUO:FnScope ["script","k"] ["script","k"] (j9 sCell):= {}
theorem jT8 {f:Addr}{fd:FuncData}(F:Fun K "_law_cell_at" "_law_cell_at" sCell f fd)(T:Txt mg):FnOk P w K mg base CX0 1 f fd ["script","k"] (jLP K):=by
 refine F.ok jUO (fun vs H Q E h=>?_) (fun cdv A outer s H vs Q E hr h=>?_)
 ·obtain⟨a,ns,k,rfl,_⟩:=h
  rfl
 ·obtain⟨a,ns,k,rfl,hS,h0,q⟩:=h
  refine⟨_,kT (ps_if (jDK op_lt (pv 1) (jFA jS (by rfl) T.len PySem.boot_len (jZ (pv 0) yF)) (jK _)) (jAU (jCX (pe_ix yZ (pv 0) (pv 1) (fun _ _=>rfl)))) jF8) (jAU (jCX jM)),?_⟩
  refine⟨_,rfl,_,rfl,a,_,rfl, .inl hS,_,_,rfl,rfl,_,rfl,?_⟩
  refine ite2 (fun hlt=>?_) (fun _=>?_)
  ·have hlt:k<((ns.map V.int).length:Int):=az hlt
   have hk:k.toNat<ns.length:=by rw[ab] at hlt; lia
   refine⟨_,rfl,_,rfl,a,_,k, .int (ns[k.toNat]),rfl,rfl,hS,?_,q _⟩
   have e:(k.toNat:Int)=k:=by lia
   have q2:=qB (xs:=ns.map V.int) (j:=k.toNat) (v:=V.int ns[k.toNat]) (by simp [hk])
   rw[e] at q2
   exact q2
  ·exact q 0
def yM:Sp:=fun vs H Q _=>∃ (p:Addr) (N w:Int),vs=[.ref p, .int w]/\H p=some (.lst [.int N])/\0<=N/\0<w/\w<2 ^ 64/\∀ N' r:Int,0<=N'->0<=r->r<w->Q (.int r) (upd H p (.lst [.int N']))
theorem scTake:FnScope ["pot","wide","found"] ["pot","wide"] (j9 sTake):= {}
theorem jT0 {f:Addr}{fd:FuncData}(F:Fun K "_law_take" "_law_take" sTake f fd):FnOk P w K mg base CX0 1 f fd ["pot","wide"] yM:=by
 refine F.ok scTake (fun vs H Q E h=>?_) (fun cdv A outer s H vs Q E hr h=>?_)
 ·obtain⟨a,ns,k,rfl,_⟩:=h
  rfl
 ·obtain⟨p,N,w,rfl,hp,h0,h1,h2,q⟩:=h
  refine⟨_,kT (qD (i:=2) scTake.nd rfl (Or.inl rfl) (kP jEH (pe_ix yZ (pv 0) jM (fun _ _=>rfl)) (pv 1)))
   (kT (jUX (kP jJ4 (pe_ix yZ (pv 0) jM (fun _ _=>rfl)) (pv 1)) (jV2 (pv 0) jM jIS))
   (jAU (jCX (pv 2)))),?_⟩
  refine⟨_,rfl,p,_,0, .int N,rfl,rfl,SqL.of hp,rfl,_,rfl,_,_,rfl,rfl,h1,?_⟩
  refine⟨_,rfl,p,_,0, .int N,rfl,rfl,SqL.of hp,rfl,_,rfl,_,_,rfl,rfl,⟨h1,h2⟩,?_⟩
  refine⟨_,rfl,p,_,0,0,rfl,rfl,hp,rfl,_,rfl,?_⟩
  exact q _ _ (Int.ediv_nonneg h0 (by lia)) (Int.emod_nonneg _ (by lia)) (lz _ h1)
def spPot:Sp:=fun vs H Q _=>∃ c:Int,vs=[.int c]/\∀ (p:Addr) (N:Int),H p=none->0<=N->Q (.ref p) (upd H p (.lst [.int N]))
theorem scPot:FnScope ["cell","number","j","more"] ["cell"] (j9 sPot):= {}
theorem jVF {f:Addr}{fd:FuncData}(F:Fun K "_law_pot" "_law_pot" sPot f fd)(T:Txt mg):FnOk P w K mg base CX0 1 f fd ["cell"] spPot:=by
 refine F.ok scPot (fun vs H Q E h=>?_) (fun cdv A outer s H vs Q E hr h=>?_)
 ·obtain⟨c,rfl,_⟩:=h
  rfl
 ·obtain⟨c,rfl,q⟩:=h
  have one: [V.int 0].length<=sizeLine:=by show 1<=sizeLine; decide
  refine⟨_,kT (ps_if (jDK op_ge (pv 0) (kP jMD jM jM) (jK _)) (jAU (jCX (jJ3 (jZ (kP jBY (pv 0) (kP jMD jM jM)) yF)))) jF8)
   (kT (qD (i:=1) scPot.nd rfl (Or.inl rfl) jM)
   (kT (jR8 bP rfl (jBW rfl T.range (jZ jM yF)) (jF9 (i:=2) scPot.nd rfl (Or.inl rfl))
    (kT (qD (i:=3) scPot.nd rfl (Or.inl rfl) (kP jEH (kP jCZ (kP y0 (kP y0 (kP jEH (pv 0) jM) (kP jCZ jM (pv 2))) jM) jM) jM))
    (kT (qD (i:=3) scPot.nd rfl (Or.inl rfl) (kP jEH (kP y0 (kP y0 (kP jCZ (pv 3) (pv 3)) (kP jCZ jM (pv 2))) jM) jM))
    (jAU (qD (i:=1) scPot.nd rfl (Or.inl rfl) (kP y0 (kP jCZ (pv 1) jM) (pv 3)))))))
   (jAU (jCX (jJ3 (jZ (pv 1) yF)))))),?_⟩
  refine⟨_,rfl,_,_,rfl,rfl,⟨by decide,by decide,by decide⟩,_,_,rfl,rfl,_,rfl,?_⟩
  refine ite2 (fun hge=>?_) (fun _=>?_)
  ·refine⟨_,rfl,_,_,rfl,rfl,⟨by decide,by decide,by decide⟩,_,_,rfl,rfl,one,fun p hp=>q p _ hp ?_⟩
   exact Int.sub_nonneg_of_le (az hge)
  ·refine⟨64,rfl,by decide,by decide,jC2 (n:=64) (fun i σ H2=>∃ (num:Int) (v1 v2:Option V),σ=[some (.int c),some (.int num),v1,v2]/\0<=num/\H2=H) ⟨0,none,none,rfl,dE _,rfl⟩ ?_ ?_⟩
   ·rintro i σ H2 hi ⟨num,v1,v2,rfl,hn,rfl⟩
    refine⟨_,rfl,_,_,rfl,rfl,(by show (0:Int)<2147483629; decide),_,rfl,_,_,rfl,rfl, .inl ⟨by decide,by decide⟩,_,_,rfl,rfl,_,_,rfl,rfl,_,_,rfl,rfl, .inr ⟨by decide,by decide⟩,_,_,rfl,rfl,(by show (0:Int)<2147483647; decide),?_⟩
    refine⟨_,rfl,_,rfl,_,_,rfl,rfl, .inl ⟨?_,?_⟩,_,rfl,_,_,rfl,rfl, .inl ⟨by decide,by decide⟩,_,_,rfl,rfl,_,_,rfl,rfl,_,_,rfl,rfl,(by show (0:Int)<2147483587; decide),?_⟩
    ·lia
    ·lia
    ·refine⟨_,rfl,_,_,rfl,rfl, .inr ⟨by decide,by decide⟩,_,rfl,_,_,rfl,rfl,?_⟩
     refine⟨_,_,_,rfl,?_,rfl⟩
     lia
   ·rintro σ H2 ⟨num,v1,v2,rfl,hn,rfl⟩
    exact⟨_,rfl,one,fun p hp=>q p num hp hn⟩
theorem jC9 {H:Hp}{a:Addr}{o o':HO} :upd (upd H a o) a o'=upd H a o':=by
 funext b
 unfold upd
 by_cases h:b=a
 ·rw[ah h,ah h]
 ·rw[ae h,ae h,ae h]
theorem y8 {H:Hp}{a b:Addr}{o:HO}(h:upd H a o b=none):b≠a/\H b=none:=by
 have h1:b≠a:=fun e=>by rw[e,j6] at h; cases h
 exact⟨h1,by rw[j8 h1] at h; exact h⟩
theorem Keep.refl (H:Hp)(p:Addr):Keep H H p:=fun _ _ h _=>h
theorem Keep.trans {H H1 H2:Hp}{p:Addr}(a:Keep H H1 p)(b:Keep H1 H2 p):Keep H H2 p:=fun c o h n=>b c o (a c o h n) n
theorem Keep.upd {H H1:Hp}{p:Addr}(a:Keep H H1 p)(o:HO):Keep H (upd H1 p o) p:=fun c u h n=>by rw[j8 n]; exact a c u h n
theorem Keep.new {H H1:Hp}{p l:Addr}(a:Keep H H1 p)(hl:H1 l=none)(o:HO):Keep H (L2.upd H1 l o) p:=fun c u h n=>by
 have:=a c u h n
 rw[j8 (jA this hl)]
 exact this
theorem pw {w:Int}(h1:1<=w)(h2:w<=16):(2:Int)<=2 ^ w.toNat/\(2:Int) ^ w.toNat<=65536:=by
 have e:∀ n:Nat,n<17->1<=n->(2:Int)<=2 ^ n/\(2:Int) ^ n<=65536:=by decide+kernel
 exact e w.toNat (by lia) (by lia)
structure Lot (w:Int)(ts:List Int):Prop where
 ris:ts.Pairwise (· < ·)
 bnd:∀ z∈ts,0<=z/\z<w
 ne:ts≠ []
def bits (n:Int)(k:Nat):List Int:=((List.range k).filter fun t=>decide (Builtin.bitAnd (n / 2 ^ t) 1=1)).map fun (t:Nat)=>(t:Int)
theorem jHA (n:Int)(k:Nat):bits n (k+1)=bits n k++(if decide (Builtin.bitAnd (n / 2 ^ k) 1=1)=true then [(k:Int)] else []):=by
 unfold bits
 rw[dO,bV,aP]
 congr 1
 rw[dW]
 split <;> rfl
theorem jQW {n w:Int}(h1:1<=n)(hw:0<=w)(h2:n<2 ^ w.toNat):Lot w (bits n w.toNat):=by
 refine⟨?_,fun z hz=>?_,?_⟩
 ·unfold bits
  rw[bA]
  have:=(gH (n:=w.toNat)).filter (fun t=>decide (Builtin.bitAnd (n / 2 ^ t) 1=1))
  exact this.imp fun h=>by lia
 ·unfold bits at hz
  obtain⟨t,ht,rfl⟩:=aL.mp hz
  have:=br.mp (aQ.mp ht).1
  lia
 ·obtain⟨m,rfl⟩:∃ m:Nat,n=(m:Int):=⟨n.toNat,by lia⟩
  have hm:m≠0:=by lia
  have hlt:m<2 ^ w.toNat:=by
   have:((m:Nat):Int)<((2 ^ w.toNat:Nat):Int):=by rw[Int.natCast_pow]; exact h2
   lia
  obtain⟨i,hi⟩:=Nat.exists_testBit_of_ne_zero hm
  have hiw:i<w.toNat:=by
   rcases ff i w.toNat with h | h
   ·exact h
   ·rw[dn (bh hlt (bS (by lia) h))] at hi
    cases hi
  have hb:Builtin.bitAnd ((m:Int) / 2 ^ i) 1=1:=by
   have e:((m:Int) / 2 ^ i)=((m / 2 ^ i:Nat):Int):=by rw[Int.natCast_ediv,Int.natCast_pow]; rfl
   rw[e,PyProof.Rows.bitAnd_pp (gf _) (by decide)]
   have e2:(((m / 2 ^ i:Nat):Int).toNat&&&(1:Int).toNat)=1:=by
    rw[aK]
    show (m / 2 ^ i)&&&1=1
    rw[iL]
    have:=hi
    rw[gI] at this
    exact az this
   rw[e2]
   rfl
  intro z
  have hmem:(i:Int)∈bits (m:Int) w.toNat:=by
   unfold bits
   exact aL.mpr ⟨i,aQ.mpr ⟨br.mpr hiw,ay hb⟩,rfl⟩
  rw[z] at hmem
  cases hmem
def qK:Sp:=fun vs H Q _=>∃ (p:Addr) (N w:Int),vs=[.ref p, .int w]/\H p=some (.lst [.int N])/\0<=N/\1<=w/\w<=16/\
 ∀ (q:Addr) (N':Int) (ts:List Int) (H':Hp),0<=N'->Lot w ts->H' q=some (.tup (ts.map V.int))->H' p=some (.lst [.int N'])->Keep H H' p->Q (.ref q) H'
theorem scLot:FnScope ["pot","wide","way","number","start","step","size"] ["pot","wide"] (j9 sLot):= {}
theorem jVH {f fT:Addr}{fd fdT:FuncData}(F:Fun K "_law_lot" "_law_lot" sLot f fd)(T:Txt mg)(CT:Can P w K mg base "_law_take" 1 fT fdT ["pot","wide"] yM):FnOk P w K mg base CX0 2 f fd ["pot","wide"] qK:=by
 refine F.ok scLot (fun vs H Q E h=>?_) (fun cdv A outer s H vs Q E hr h=>?_)
 ·obtain⟨a,ns,k,rfl,_⟩:=h
  rfl
 ·obtain⟨p,N,w,rfl,hp,hN,h1,h2,q⟩:=h
  have hpw:=pw h1 h2
  have nd:=scLot.nd
  refine⟨_,kT (qD (i:=2) nd rfl (Or.inl rfl) (CT.pe hr rfl (jZ (pv 0) (jZ jM yF))))
   (kT (ps_if (jDK qG (pv 2) jM (jK _))
    (kT (qD (i:=3) nd rfl (Or.inr rfl) (kP y0 jM (CT.pe hr rfl (jZ (pv 0) (jZ (kP jBY (kP jGG jM (pv 1)) jM) yF)))))
    (jAU (jCX (jBX jA0 rfl T.tuple (by decide+kernel) (jZ
     (jHR (m:=[none,some 3]) (Nc:=["t","number"]) rfl (jBW rfl T.range (jZ (pv 1) yF)) rfl (by decide+kernel) (by decide+kernel) (jW (psc:=j9 sLot))
      (jH (N:=["pot","wide","way","number","start","step","size"]) rfl rfl (by decide+kernel))
      (fun cl C fp s H=>jF9 (i:=0) (show (["t","number"]:List Str).Nodup by decide+kernel) rfl (Or.inl rfl))
      (fun cl C fp s H=>jLZ (jDK qG (kP jEI (kP jMC (pv 1) (pv 0)) jM) jM (jK _)))
      (fun cl C fp s H=>pv 0)) yF)))))
    jF8)
   (kT (qD (i:=4) nd rfl (Or.inr rfl) (CT.pe hr rfl (jZ (pv 0) (jZ (pv 1) yF))))
   (kT (qD (i:=5) nd rfl (Or.inr rfl) (kP y0 jM (CT.pe hr rfl (jZ (pv 0) (jZ jM yF)))))
   (kT (qD (i:=6) nd rfl (Or.inl rfl) (kP y0 jM (CT.pe hr rfl (jZ (pv 0) (jZ (pe_ix yZ (jJ3 (jZ jM (jZ jM (jZ jM yF)))) (kP jBY (pv 2) jM) (fun _ _=>rfl)) yF)))))
   (jAU (jCX (jBX jA0 rfl T.tuple (by decide+kernel) (jZ (jFA (jE7 rfl) rfl T.sorted (by decide+kernel) (jZ (jBX (jOJ rfl) rfl T.set (by decide+kernel) (jZ
     (jHR (m:=[none,some 4,some 5,some 1]) (Nc:=["j","start","step","wide"]) rfl (jBW rfl T.range (jZ (pv 6) yF)) rfl (by decide+kernel) (by decide+kernel) (jW (psc:=j9 sLot))
      (jH (N:=["pot","wide","way","number","start","step","size"]) rfl rfl (by decide+kernel))
      (fun cl C fp s H=>jF9 (i:=0) (show (["j","start","step","wide"]:List Str).Nodup by decide+kernel) rfl (Or.inl rfl))
      (fun cl C fp s H=>jM0)
      (fun cl C fp s H=>kP jEH (kP y0 (pv 1) (kP jCZ (pv 2) (pv 0))) (pv 3))) yF)) yF)) yF)))))))),?_⟩
  refine⟨_,rfl,p,N,4,rfl,hp,hN,by decide,by decide,fun N1 way b1 b2 b3=>?_⟩
  have hp1:∀ M,(upd H p (.lst [.int M])) p=some (.lst [.int M]):=fun _=>j6
  refine⟨_,rfl,rfl,_,rfl,?_⟩
  refine ite2 (fun _=>?_) (fun hw0=>?_)
  ·refine⟨_,rfl,_,rfl,_,_,rfl,rfl,⟨by lia,by lia,by decide⟩,_,_,rfl,rfl,p,N1,_,rfl,hp1 _,b1,by lia,by lia,fun N2 r2 c1 c2 c3=>⟨_,_,rfl,rfl,?_⟩⟩
   have hnum:1+r2<2 ^ w.toNat:=by lia
   refine⟨_,rfl,w,rfl,by lia,by lia,jBF (n:=w.toNat) (by rw[aJ]; lia) (fun D i σ' H' ys=>(∃ v,σ'=[v,some (.int (1+r2))])/\ys=(bits (1+r2) i).map V.int/\H'=upd (upd (upd H p (.lst [.int N1])) p (.lst [.int N2])) D (.lst ys)) ?_ ?_ ?_ ?_⟩
   ·intro D hD
    exact⟨⟨_,rfl⟩,rfl,rfl⟩
   ·rintro D i σ' H' ys hD hi ⟨_,e1,e2⟩
    refine⟨by rw[e2]; exact j6,?_⟩
    rw[e1,ab]
    unfold bits
    rw[ab]
    exact bM (bJ _ _) (by rw[bg]; exact ar _)
   ·rintro D i σ' H' ys hD hi ⟨⟨v,rfl⟩,rfl,rfl⟩
    refine⟨_,rfl,_,rfl,_,_,rfl,rfl,(by show (0:Int)<=0+(i:Int); lia),_,_,rfl,rfl,rfl,_,rfl,?_⟩
    have ei:(0+(i:Int)).toNat=i:=by lia
    refine ite2 (fun hb=>?_) (fun hb=>?_)
    ·have hb:Builtin.bitAnd ((1+r2) / 2 ^ i) 1=1:=by
      have:=az hb
      rw[ei] at this
      exact V.int.inj this
     refine⟨_,rfl,j6,⟨_,rfl⟩,?_,jC9⟩
     rw[jHA,ah (ay hb),aP]
     congr 1
     show [V.int (0+(i:Int))]=[V.int (i:Int)]
     rw[jr]
    ·have hb:¬ Builtin.bitAnd ((1+r2) / 2 ^ i) 1=1:=fun e=>hb (ay (by rw[ei]; exact bX V.int e))
     refine⟨⟨_,rfl⟩,?_,rfl⟩
     rw[jHA,ae (by simpa using hb),bq]
   ·rintro D σ' H' ys hD ⟨_,rfl,rfl⟩
    refine⟨D,_,rfl, .inl ⟨SqL.of j6,fun qq hqq=>?_⟩⟩
    obtain⟨n1,n2⟩:=y8 hqq
    have pD:p≠D:=jA j6 hD
    have pq:p≠qq:=jA j6 n2
    exact q qq N2 (bits (1+r2) w.toNat) _ c1 (jQW (by lia) (by lia) hnum) j6 (by rw[j8 pq,j8 pD,j6]) (((((Keep.refl H p).upd _).upd _).new hD _).new hqq _)
  ·have hway:1<=way:=by
    have:¬ way=0:=fun e=>hw0 (ay (by rw[e]))
    lia
   refine⟨_,rfl,_,rfl,p,N1,w,rfl,hp1 _,b1,by lia,by lia,fun N2 kZ c1 c2 c3=>?_⟩
   rw[jC9]
   refine⟨_,rfl,p,N2,3,rfl,hp1 _,c1,by decide,by decide,fun N3 st d1 d2 d3=>⟨_,_,rfl,rfl,?_⟩⟩
   rw[jC9]
   refine⟨_,rfl,(by show 3<=sizeLine; decide),fun l hl=>?_⟩
   have pl:p≠l:=jA (hp1 _) hl
   obtain⟨wd,hwd,e1,e2⟩:∃ wd:Int,atI [V.int 1,V.int 2,V.int 4] (way - 1)=some (.int wd)/\1<=wd/\wd<=4:=by
    rcases (show way=1\/way=2\/way=3 by lia) with e | e | e
    ·subst e; exact⟨1,rfl,by decide,by decide⟩
    ·subst e; exact⟨2,rfl,by decide,by decide⟩
    ·subst e; exact⟨4,rfl,by decide,by decide⟩
   refine⟨_,rfl,_,_,rfl,rfl,l,_,_,_,rfl,rfl,SqL.of j6,hwd,p,N3,wd,rfl,by rw[j8 pl]; exact hp1 _,d1,by lia,by lia,fun N4 r4 g1 g2 g3=>⟨_,_,rfl,rfl,?_⟩⟩
   have kp:Keep H (upd (upd (upd H p (.lst [.int N3])) l (.lst [V.int 1,V.int 2,V.int 4])) p (.lst [.int N4])) p:=(((Keep.refl H p).upd _).new hl _).upd _
   have hp4:(upd (upd (upd H p (.lst [.int N3])) l (.lst [V.int 1,V.int 2,V.int 4])) p (.lst [.int N4])) p=some (.lst [.int N4]):=j6
   generalize (upd (upd (upd H p (.lst [.int N3])) l (.lst [V.int 1,V.int 2,V.int 4])) p (.lst [.int N4]))=H4 at kp hp4 ⊢
   refine⟨_,rfl,1+r4,rfl,by lia,by lia,jBF (n:=(1+r4).toNat) (by rw[aJ]; lia) (fun D i σ' H' ys=>(∃ v,σ'=[v,some (.int kZ),some (.int (1+st)),some (.int w)])/\(∃ ns:List Int,ys=ns.map V.int/\ns.length=i/\∀ z∈ns,0<=z/\z<w)/\H'=upd H4 D (.lst ys)) ?_ ?_ ?_ ?_⟩
   ·intro D hD
    exact⟨⟨_,rfl⟩,⟨[],rfl,rfl,fun z hz=>by cases hz⟩,rfl⟩
   ·rintro D i σ' H' ys hD hi ⟨_,⟨ns,rfl,e,_⟩,rfl⟩
    exact⟨j6,by rw[ab,e]; exact ar _⟩
   ·rintro D i σ' H' ys hD hi ⟨⟨v,rfl⟩,⟨ns,rfl,e,hb⟩,rfl⟩
    dsimp only [kU,yQ]
    rw[ah rfl]
    refine⟨_,rfl,_,rfl,_,rfl,_,_,rfl,rfl, .inl ⟨by lia,by lia⟩,_,_,rfl,rfl,_,rfl,_,_,rfl,rfl,(by show 0<w; lia),j6,⟨_,rfl⟩,⟨ns++[(kZ+(1+st)*(0+(i:Int))) % w],by simp,by simp [e],fun z hz=>?_⟩,jC9⟩
    rcases aR.mp hz with hz | hz
    ·exact hb z hz
    ·have:z=(kZ+(1+st)*(0+(i:Int))) % w:=by simpa using hz
     rw[this]
     exact⟨Int.emod_nonneg _ (by lia),lz _ (by lia)⟩
   ·rintro D σ' H' ys hD ⟨_,⟨ns,rfl,e,hb⟩,rfl⟩
    refine⟨D,ns,rfl,SqL.of j6,by lia,fun z hz=>⟨(hb z hz).1,by have:=(hb z hz).2; lia⟩,fun l1 ks h11 hm1=>?_⟩
    refine⟨l1,ks,rfl,j6,fun l2 ms h12 srt hm2=>?_⟩
    refine⟨l2,_,rfl, .inl ⟨SqL.of j6,fun qq hqq=>?_⟩⟩
    have pD:p≠D:=jA hp4 hD
    have p1:p≠l1:=jA hp4 (y8 h11).2
    have p2:p≠l2:=jA hp4 (y8 (y8 h12).2).2
    have pq:p≠qq:=jA hp4 (y8 (y8 (y8 hqq).2).2).2
    refine q qq N4 ms _ g1 ⟨srt,fun z hz=>hb z ((hm1 z).mp ((hm2 z).mp hz)),fun z=>?_⟩ j6 (by rw[j8 pq,j8 p2,j8 p1,j8 pD]; exact hp4) ((((kp.new hD _).new h11 _).new h12 _).new hqq _)
    subst z
    cases ns with
    | nil=>simp at e; lia
    | cons x r=>
     have:=(hm2 x).mpr ((hm1 x).mpr am)
     cases this
structure Ris (w:Int)(ts:List Int):Prop where
 ris:ts.Pairwise (· < ·)
 bnd:∀ z∈ts,0<=z/\z<w
theorem Ris.nil (w:Int):Ris w []:=⟨.nil,fun z hz=>by cases hz⟩
theorem Ris.take {w:Int}{ts:List Int}(h:Ris w ts)(k:Nat):Ris w (ts.take k):=⟨h.ris.sublist (dH _ _),fun z hz=>h.bnd z (b0 hz)⟩
theorem Ris.drop {w:Int}{ts:List Int}(h:Ris w ts)(k:Nat):Ris w (ts.drop k):=⟨h.ris.sublist (iQ _ _),fun z hz=>h.bnd z (cH hz)⟩
theorem Ris.snoc {i:Nat}{ts:List Int}(h:Ris i ts):Ris (i+1:Nat) (ts++[(i:Int)]):=by
 refine⟨cF.mpr ⟨h.ris,eX _ _,fun a ha b hb=>?_⟩,fun z hz=>?_⟩
 ·have:=(h.bnd a ha).2
  have e:b=i:=by simpa using hb
  lia
 ·rcases aR.mp hz with q | q
  ·have:=h.bnd z q
   lia
  ·have e:z=i:=by simpa using q
   lia
theorem Ris.step {i:Nat}{ts:List Int}(h:Ris i ts):Ris (i+1:Nat) ts:=⟨h.ris,fun z hz=>by have:=h.bnd z hz; lia⟩
def upto (n:Nat):List Int:=(List.range n).map fun (i:Nat)=>(i:Int)
theorem jNR (n:Nat):jDX n=(upto n).map V.int:=by
 unfold jDX upto
 rw[ba]
 rfl
theorem kO (n:Nat):Ris n (upto n):=by
 refine⟨?_,fun z hz=>?_⟩
 ·unfold upto
  rw[bA]
  exact gH.imp fun h=>by lia
 ·unfold upto at hz
  obtain⟨t,ht,rfl⟩:=aL.mp hz
  have:=br.mp ht
  lia
def Tups (H H':Hp):Prop:=∀ b xs,H b=some (.tup xs)->H' b=some (.tup xs)
theorem Tups.trans {H H1 H2:Hp}(a:Tups H H1)(b:Tups H1 H2):Tups H H2:=fun c o h=>b c o (a c o h)
theorem Keep.tups {H H':Hp}{p:Addr}{xs:List V}(k:Keep H H' p)(hp:H p=some (.lst xs)):Tups H H':=fun b ys hb=>k b _ hb fun e=>by
 subst e
 rw[hb] at hp
 cases hp
theorem Tups.upd {H:Hp}{p:Addr}{xs:List V}(hp:H p=some (.lst xs))(o:HO):Tups H (upd H p o):=fun b ys hb=>by
 rw[j8 (fun e=>by subst e; rw[hb] at hp; cases hp)]
 exact hb
theorem Tups.new {H:Hp}{p:Addr}(hp:H p=none)(o:HO):Tups H (L2.upd H p o):=fun b ys hb=>by
 rw[j8 (jA hb hp)]
 exact hb
def PcAt (H:Hp)(v:V)(pc:List Int×Int):Prop:=∃ a q,v= .ref a/\H a=some (.tup [.ref q, .int pc.2])/\H q=some (.tup (pc.1.map V.int))
def PcsAt (H:Hp):List V->List (List Int×Int)->Prop
 | [],[]=>True
 | v::vs,p::ps=>PcAt H v p/\PcsAt H vs ps
 | _,_=>False
theorem PcAt.mono {H H':Hp}{v:V}{pc:List Int×Int}(h:PcAt H v pc)(t:Tups H H'):PcAt H' v pc:=by
 obtain⟨a,q,rfl,h1,h2⟩:=h
 exact⟨a,q,rfl,t _ _ h1,t _ _ h2⟩
theorem PcsAt.mono {H H':Hp}(t:Tups H H'):∀ {vs:List V}{ps:List (List Int×Int)},PcsAt H vs ps->PcsAt H' vs ps
 | [],[],_=>trivial
 | _::_,_::_,h=>⟨h.1.mono t,PcsAt.mono t h.2⟩
 | [],_::_,h=>h.elim
 | _::_,[],h=>h.elim
theorem PcsAt.len {H:Hp} :∀ {vs:List V}{ps:List (List Int×Int)},PcsAt H vs ps->vs.length=ps.length
 | [],[],_=>rfl
 | _::_,_::_,h=>bX (· +1) (PcsAt.len h.2)
 | [],_::_,h=>h.elim
 | _::_,[],h=>h.elim
theorem PcsAt.put {H:Hp}{v:V}{p:List Int×Int}(hv:PcAt H v p):∀ (k:Nat) {vs:List V}{ps:List (List Int×Int)},PcsAt H vs ps->PcsAt H (vs.take k++v::vs.drop k) (ps.take k++p::ps.drop k)
 | 0,_,_,h=>⟨hv,h⟩
 | _+1,[],[],_=>⟨hv,trivial⟩
 | k+1,_::_,_::_,h=>⟨h.1,PcsAt.put hv k h.2⟩
 | _+1,[],_::_,h=>h.elim
 | _+1,_::_,[],h=>h.elim
structure GoodPc (w:Int)(pc:List Int×Int):Prop where
 lot:Lot w pc.1
 lo: -1000000000000<=pc.2
 hi:pc.2<=1000000000000
structure BoxAt (H:Hp)(b:Addr)(w:Int)(mays:List Int)(pcs:List (List Int×Int)):Prop where
 ex:∃ qm qp vs,H b=some (.tup [.int w, .ref qm, .ref qp])/\H qm=some (.tup (mays.map V.int))/\H qp=some (.tup vs)/\PcsAt H vs pcs
theorem BoxAt.mono {H H':Hp}{b:Addr}{w:Int}{mays:List Int}{pcs:List (List Int×Int)}(h:BoxAt H b w mays pcs)(t:Tups H H'):BoxAt H' b w mays pcs:=by
 obtain⟨qm,qp,vs,h1,h2,h3,h4⟩:=h.ex
 exact⟨qm,qp,vs,t _ _ h1,t _ _ h2,t _ _ h3,h4.mono t⟩
structure Good (mt mp:Int)(w:Int)(mays:List Int)(pcs:List (List Int×Int)):Prop where
 w0:0<=w
 w1:w<=mt
 mr:Ris w mays
 pl:(pcs.length:Int)<=mp
 pg:∀ pc∈pcs,GoodPc w pc
theorem Keep.updNew {H H1:Hp}{p l:Addr}(a:Keep H H1 p)(hl:H l=none)(o:HO):Keep H (L2.upd H1 l o) p:=fun c u h n=>by
 rw[j8 (jA h hl)]
 exact a c u h n
def spBox:Sp:=fun vs H Q _=>∃ (p:Addr) (N mt mp:Int),vs=[.ref p, .int mt, .int mp]/\H p=some (.lst [.int N])/\0<=N/\0<=mt/\mt<=16/\0<=mp/\mp<=32/\
 ∀ (b:Addr) (N' w:Int) (mays:List Int) (pcs:List (List Int×Int)) (H':Hp),0<=N'->H' p=some (.lst [.int N'])->BoxAt H' b w mays pcs->Good mt mp w mays pcs->Keep H H' p->Q (.ref b) H'
noncomputable abbrev nBox:List Str:=["pot","most_things","most_pieces","wide","mays","left","far","pieces","k","size","things"]
theorem scBox:FnScope nBox ["pot","most_things","most_pieces"] (j9 sBox):= {}
abbrev XBox (P:Program)(w:World)(K:W.Frag)(mg:Str->Option Value)(base:Heap)(f:Addr)(cdv:Value)(A:Around)(outer:List Env)(s:Shared)(H:Hp)(E:XK):Cx:=(cxOf CX0 P w K mg base nBox "_law_box" (j9 sBox) f cdv A outer s H E).nox
def yO:Stmt->List Stmt
 | .For _ _ b _ _=>b
 | _=> []
def boxI {f fT fL:Addr}{fdT fdL:FuncData}{cdv:Value}{A:Around}{outer:List Env}{s:Shared}{H:Hp}{E:XK}(T:Txt mg)(CT:Can P w K mg base "_law_take" 1 fT fdT ["pot","wide"] yM)(CL:Can P w K mg base "_law_lot" 2 fL fdL ["pot","wide"] qK)(hr:Room 2 (XBox P w K mg base f cdv A outer s H E).A): { t:TS // JSs (XBox P w K mg base f cdv A outer s H E) ((yO ((jD sBox).getD 7 (.Pass ⟨0,0,0,0⟩))).drop 4) t} :=
 have nd:=scBox.nd
 ⟨_,(jC (jFJ (je_bm cD PySem.F.slot_list_insert PySem.F.type_list_insert jMU (jv 7 rfl vL) (j3 (CT.je (hr.mono (by decide)) gD (j3 (jv 0 rfl vC) (j3 (jY y0 (jG jS gD T.len (by decide+kernel) (j3 (jv 7 rfl vL) j7 j5) j5) (je_int)) j7 yN) j5) j5) (j3 (jJJ (j3 (jv 10 rfl vL) (j3 (jY jBY (CT.je (hr.mono (by decide)) gD (j3 (jv 0 rfl vC) (j3 (jv 6 rfl vL) j7 j5) j5) j5) (jY jJ4 (jv 6 rfl vL) (je_int))) j7 yN) j5)) j7 jCS) jF) jF) kJ))⟩
def boxL {f fT fL:Addr}{fdT fdL:FuncData}{cdv:Value}{A:Around}{outer:List Env}{s:Shared}{H:Hp}{E:XK}(T:Txt mg)(CT:Can P w K mg base "_law_take" 1 fT fdT ["pot","wide"] yM)(CL:Can P w K mg base "_law_lot" 2 fL fdL ["pot","wide"] qK)(hr:Room 2 (XBox P w K mg base f cdv A outer s H E).A): { t:TS // JSs (XBox P w K mg base f cdv A outer s H E) (yO ((jD sBox).getD 7 (.Pass ⟨0,0,0,0⟩))) t} :=
 have nd:=scBox.nd
 ⟨_,(jB (jP (i:=9) nd rfl lL (jY y0 (je_int) (CT.je (hr.mono (by decide)) gD (j3 (jv 0 rfl vC) (j3 (je_int) j7 jL) j5) j5)) jE9)
   (jB (jP (i:=10) nd rfl lL (kX jA0 gD T.tuple (by decide+kernel) (j3 (jJK jLS (jv 5 rfl vL) jNB (jNA (jv 9 rfl vL))) j7 kG) kG) kJ)
   (jB (jP (i:=5) nd rfl lL (jJK jLS (jv 5 rfl vL) (jNA (jv 9 rfl vL)) jNB) jLF)
   (jB (yH (jI (jVB hr.units0) (jv 10 rfl vL) (jJJ j7) (jK _)) (jC (jP (i:=10) nd rfl lL (CL.je hr gD (j3 (jv 0 rfl vC) (j3 (jv 3 rfl vL) j7 j5) j5) j5) kJ)) kL)
   (boxI T CT CL hr).2))))⟩
def boxC {f fT fL:Addr}{fdT fdL:FuncData}{cdv:Value}{A:Around}{outer:List Env}{s:Shared}{H:Hp}{E:XK}(T:Txt mg)(CT:Can P w K mg base "_law_take" 1 fT fdT ["pot","wide"] yM)(CL:Can P w K mg base "_law_lot" 2 fL fdL ["pot","wide"] qK)(hr:Room 2 (XBox P w K mg base f cdv A outer s H E).A): { t:TS // JSs (XBox P w K mg base f cdv A outer s H E) ((jD sBox).drop 5) t} :=
 have nd:=scBox.nd
 ⟨_,(jB (jP (i:=6) nd rfl lL (jU yZ (jNH (j3 (je_int) (j3 (je_int) (j3 (jVZ) j7 yN) jL) jL)) (CT.je (hr.mono (by decide)) gD (j3 (jv 0 rfl vC) (j3 (je_int) j7 jL) j5) j5) jLY) jLF)
   (jB (jP (i:=7) nd rfl lL (jNH j7) jIM)
   (jB (yP bP rfl (jA6 gD T.range (j3 (jY jCZ (CT.je (hr.mono (by decide)) gD (j3 (jv 0 rfl vC) (j3 (jY y0 (jv 2 rfl vL) (je_int)) j7 yN) j5) j5) (kX jH4 gD T.int (by decide+kernel) (j3 (jBQ op_gt (jv 3 rfl vL) (je_int) (jK _)) j7 jIT) jIT)) j7 yN) yN) (jN (i:=8) nd rfl lL) (boxL T CT CL hr).2 kS)
   (jC (jQ (jJJ (j3 (jv 3 rfl vL) (j3 (jv 4 rfl vL) (j3 (kX jA0 gD T.tuple (by decide+kernel) (j3 (jv 7 rfl vL) j7 j5) j5) j7 jF) j5) j5)))))))⟩
def boxB {f fT fL:Addr}{fdT fdL:FuncData}{cdv:Value}{A:Around}{outer:List Env}{s:Shared}{H:Hp}{E:XK}(T:Txt mg)(CT:Can P w K mg base "_law_take" 1 fT fdT ["pot","wide"] yM)(CL:Can P w K mg base "_law_lot" 2 fL fdL ["pot","wide"] qK)(hr:Room 2 (XBox P w K mg base f cdv A outer s H E).A): { t:TS // JSs (XBox P w K mg base f cdv A outer s H E) ((jD sBox).drop 3) t} :=
 have nd:=scBox.nd
 ⟨_,(jB (jP (i:=5) nd rfl lL (kX (jH3 rfl) gD T.list (by decide+kernel) (j3 (kX jIF gD T.range (by decide+kernel) (j3 (jv 3 rfl vL) j7 j5) j5) j7 jF) jF) kJ)
   (jB (yH (jI qG (CT.je (hr.mono (by decide)) gD (j3 (jv 0 rfl vC) (j3 (je_int) j7 jL) j5) j5) (je_int) (jK _)) (jC (jP (i:=5) nd rfl lL (jNH j7) jIM)) kL)
   (boxC T CT CL hr).2))⟩
def boxA {f fT fL:Addr}{fdT fdL:FuncData}{cdv:Value}{A:Around}{outer:List Env}{s:Shared}{H:Hp}{E:XK}(T:Txt mg)(CT:Can P w K mg base "_law_take" 1 fT fdT ["pot","wide"] yM)(CL:Can P w K mg base "_law_lot" 2 fL fdL ["pot","wide"] qK)(hr:Room 2 (XBox P w K mg base f cdv A outer s H E).A): { t:TS // JSs (XBox P w K mg base f cdv A outer s H E) (jD sBox) t} :=
 have nd:=scBox.nd
 ⟨_,(jB (jP (i:=3) nd rfl lL (CT.je (hr.mono (by decide)) gD (j3 (jv 0 rfl vC) (j3 (jY y0 (jv 1 rfl vL) (je_int)) j7 yN) j5) j5) kJ)
   (jB (jP (i:=4) nd rfl lL (jJJ j7) jUJ)
   (jB (yH (jI qG (CT.je (hr.mono (by decide)) gD (j3 (jv 0 rfl vC) (j3 (je_int) j7 jL) j5) j5) (je_int) (jK _)) (jC (jP (i:=4) nd rfl lL (kX jA0 gD T.tuple (by decide+kernel) (j3 (kN (m:=[none,some 0]) (Nc:=["t","pot"]) rfl (jA6 gD T.range (j3 (jv 3 rfl vL) j7 j5) j5) rfl (by decide+kernel) (by decide+kernel) (jW (psc:=j9 sBox)) (jH (N:=nBox) rfl rfl (by decide+kernel)) (fun cl C fp s H=>jN (i:=0) (show (["t","pot"]:List Str).Nodup by decide+kernel) rfl yW) (fun cl C fp s H=>jAZ (jI qG (CT.je (hr.mono (by decide)) gl_b (j3 (jv 1 rfl yI) (j3 (je_int) j7 jL) j5) j5) (je_int) (jK _))) (fun cl C fp s H=>(jv 0 rfl jO)) kS) j7 jJ) jJ) kJ)) kL)
   (boxB T CT CL hr).2)))⟩
structure St0 (H H2:Hp)(p:Addr)(w:Int)(qm ql:Addr)(mays lf:List Int)(N:Int):Prop where
 hp:H2 p=some (.lst [.int N])
 hN:0<=N
 hm:H2 qm=some (.tup (mays.map V.int))
 rm:Ris w mays
 hl:H2 ql=some (.lst (lf.map V.int))
 rl:Ris w lf
 ne:ql≠p
 kp:Keep H H2 p
theorem St0.step {H H2 H3:Hp}{p:Addr}{w:Int}{qm ql:Addr}{mays lf:List Int}{N N':Int}(S:St0 H H2 p w qm ql mays lf N)(k:Keep H2 H3 p)(hp:H3 p=some (.lst [.int N']))(hN:0<=N'):St0 H H3 p w qm ql mays lf N':=
 ⟨hp,hN,k qm _ S.hm (ne_of S.hm S.hp (by intro z; cases z)),S.rm,k ql _ S.hl S.ne,S.rl,S.ne,S.kp.trans k⟩
theorem jOD {w:Int}{lf:List Int}(h:Ris w lf)(lo hi:Option Int):∃ l',cutV (lf.map V.int) lo hi=l'.map V.int/\Ris w l':=by
 refine⟨(lf.drop (HT.sIx lf.length 0 lo)).take (HT.sIx lf.length lf.length hi - HT.sIx lf.length 0 lo),?_,(h.drop _).take _⟩
 unfold cutV
 rw[ab,i5,List.map_drop]
theorem jH6 (T:Txt mg)(CT:Can P w K mg base "_law_take" 1 fT fdT ["pot","wide"] yM)(CL:Can P w K mg base "_law_lot" 2 fL fdL ["pot","wide"] qK)(hr:Room 2 (XBox P w K mg base f cdv A outer s H0 E).A)
  {D:Ends}{H H5:Hp}{p qm ql qp qt:Addr}{mt mp w N far:Int}{mays lf ts:List Int}{vs:List V}{pcs:List (List Int×Int)}{v8 v9:Option V}
  (S:St0 H H5 p w qm ql mays lf N) (hqp:H5 qp=some (.lst vs)) (hv:PcsAt H5 vs pcs) (hg:∀ pc∈pcs,GoodPc w pc) (hqt:H5 qt=some (.tup (ts.map V.int))) (lt:Lot w ts) (hf:far=1\/far=10\/far=2000000000001) (hn:pcs.length<=100) (hH:H qp=none) (hne:ql≠qp) (hpp:p≠qp)
  (nx:∀ H6 N' vs' pcs',St0 H H6 p w qm ql mays lf N'->H6 qp=some (.lst vs')->PcsAt H6 vs' pcs'->(∀ pc∈pcs',GoodPc w pc)->pcs'.length=pcs.length+1->D.nx [some (.ref p),some (.int mt),some (.int mp),some (.int w),some (.ref qm),some (.ref ql),some (.int far),some (.ref qp),v8,v9,some (.ref qt)] H6):
  (boxI T CT CL hr).1 D [some (.ref p),some (.int mt),some (.int mp),some (.int w),some (.ref qm),some (.ref ql),some (.int far),some (.ref qp),v8,v9,some (.ref qt)] H5:=by
 have hlen:=hv.len
 have h64:(0:Int)<far/\far<2 ^ 64:=by rcases hf with e | e | e <;> subst e <;> decide
 refine⟨_,rfl, .inl ⟨rfl,_,SqL.of hqp⟩,_,rfl,_,rfl,qp,vs,rfl, .inl (SqL.of hqp),_,_,rfl,rfl,p,N,_,rfl,S.hp,S.hN,by lia,by lia,fun N1 i a1 a2 a3=>?_⟩
 refine⟨_,rfl,_,rfl,_,rfl,p,N1,far,rfl,j6,a1,h64.1,h64.2,fun N2 r b1 b2 b3=>?_⟩
 rw[jC9]
 refine⟨_,rfl,_,_,rfl,rfl,⟨by decide,by decide⟩,_,_,rfl,rfl,(by show 2<=sizeLine; decide),fun tq htq=>?_⟩
 obtain⟨t1,t2⟩:=y8 htq
 have ht:tq≠qp:=fun e=>by subst e; rw[hqp] at t2; cases t2
 refine⟨qp,vs,i,_,rfl,rfl,by rw[j8 ht.symm,j8 hpp.symm]; exact hqp,a2,by lia,by rw[aJ]; lia,?_⟩
 have T1:Tups H5 (upd (upd H5 p (.lst [.int N2])) tq (.tup [.ref qt, .int (r - far / 2)])):=(Tups.upd S.hp _).trans (Tups.new htq _)
 have k1:Keep H5 (upd (upd H5 p (.lst [.int N2])) tq (.tup [.ref qt, .int (r - far / 2)])) p:=((Keep.refl _ _).upd _).new htq _
 have S1:=S.step k1 (by rw[j8 t1.symm]; exact j6) b1
 have hq1:(upd (upd H5 p (.lst [.int N2])) tq (.tup [.ref qt, .int (r - far / 2)])) qp=some (.lst vs):=by rw[j8 ht.symm,j8 hpp.symm]; exact hqp
 have T2:=T1.trans (Tups.upd hq1 (.lst (vs.take i.toNat++V.ref tq::vs.drop i.toNat)))
 have pc:PcAt (upd (upd H5 p (.lst [.int N2])) tq (.tup [.ref qt, .int (r - far / 2)])) (.ref tq) (ts,r - far / 2):=⟨tq,qt,rfl,j6,T1 _ _ hqt⟩
 refine nx _ N2 _ (pcs.take i.toNat++(ts,r - far / 2)::pcs.drop i.toNat) ⟨?_,b1,?_,S.rm,?_,S.rl,S.ne,S1.kp.updNew hH _⟩ j6 ?_ ?_ ?_
 ·rw[j8 hpp]; exact S1.hp
 ·exact(Tups.upd hq1 _) _ _ S1.hm
 ·rw[j8 hne]; exact S1.hl
 ·exact PcsAt.put (pc.mono (Tups.upd hq1 _)) _ (hv.mono T2)
 ·intro c hc
  rcases aR.mp hc with h | h
  ·exact hg c (b0 h)
  ·rcases aF.mp h with h | h
   ·subst h
    refine⟨lt,?_,?_⟩
    ·show -1000000000000<=r - far / 2
     rcases hf with e | e | e <;> subst e <;> lia
    ·show r - far / 2<=1000000000000
     rcases hf with e | e | e <;> subst e <;> lia
   ·exact hg c (cH h)
 ·rw[aC,aU,bE,fE]
  lia
theorem jOP (T:Txt mg)(CT:Can P w K mg base "_law_take" 1 fT fdT ["pot","wide"] yM)(CL:Can P w K mg base "_law_lot" 2 fL fdL ["pot","wide"] qK)(hr:Room 2 (XBox P w K mg base f cdv A outer s H0 E).A)
  {D:Ends}{H H5:Hp}{p qm ql qp:Addr}{mt mp w N far:Int}{mays lf:List Int}{vs:List V}{pcs:List (List Int×Int)}{v8 v9 v10:Option V}
  (S:St0 H H5 p w qm ql mays lf N) (hqp:H5 qp=some (.lst vs)) (hv:PcsAt H5 vs pcs) (hg:∀ pc∈pcs,GoodPc w pc) (hf:far=1\/far=10\/far=2000000000001) (hn:pcs.length<=100) (hH:H qp=none) (hpp:p≠qp) (w1:1<=w) (w2:w<=16)
  (nx:∀ H6 N' vs' pcs' ql' lf' v9' v10',St0 H H6 p w qm ql' mays lf' N'->ql'≠qp->H6 qp=some (.lst vs')->PcsAt H6 vs' pcs'->(∀ pc∈pcs',GoodPc w pc)->pcs'.length=pcs.length+1->D.nx [some (.ref p),some (.int mt),some (.int mp),some (.int w),some (.ref qm),some (.ref ql'),some (.int far),some (.ref qp),v8,v9',v10'] H6):
  (boxL T CT CL hr).1 D [some (.ref p),some (.int mt),some (.int mp),some (.int w),some (.ref qm),some (.ref ql),some (.int far),some (.ref qp),v8,v9,v10] H5:=by
 refine⟨_,rfl,p,N,3,rfl,S.hp,S.hN,by decide,by decide,fun N1 r1 a1 a2 a3=>⟨_,_,rfl,rfl,?_⟩⟩
 have S1:=S.step ((Keep.refl _ _).upd (.lst [.int N1])) j6 a1
 have hq1:(upd H5 p (.lst [.int N1])) qp=some (.lst vs):=by rw[j8 hpp.symm]; exact hqp
 have hv1:=hv.mono (Tups.upd S.hp (.lst [.int N1]))
 generalize upd H5 p (.lst [.int N1])=H6 at S1 hq1 hv1 ⊢
 clear S hqp hv
 obtain⟨l1,e1,g1⟩:=jOD S1.rl none (some (1+r1))
 obtain⟨l2,e2,g2⟩:=jOD S1.rl (some (1+r1)) none
 refine⟨_,rfl,_,rfl,1+r1,rfl,ql,_,rfl,SqL.of S1.hl,fun x hx=>⟨x,_,rfl, .inl ⟨SqL.of j6,fun qt hqt=>?_⟩⟩⟩
 rw[e1] at hqt ⊢
 have k1:Keep H6 (upd (upd H6 x (.lst (l1.map V.int))) qt (.tup (l1.map V.int))) p:=((Keep.refl _ _).new hx _).new hqt _
 obtain⟨t1,t2⟩:=y8 hqt
 have px:p≠x:=jA S1.hp hx
 have pt:p≠qt:=jA S1.hp t2
 have qx:qp≠x:=jA hq1 hx
 have qq:qp≠qt:=jA hq1 t2
 have S2:=S1.step k1 (by rw[j8 pt,j8 px]; exact S1.hp) S1.hN
 have hq2:(upd (upd H6 x (.lst (l1.map V.int))) qt (.tup (l1.map V.int))) qp=some (.lst vs):=by rw[j8 qq,j8 qx]; exact hq1
 have hv2:=hv1.mono (k1.tups S1.hp)
 have ht2:(upd (upd H6 x (.lst (l1.map V.int))) qt (.tup (l1.map V.int))) qt=some (.tup (l1.map V.int)):=j6
 generalize upd (upd H6 x (.lst (l1.map V.int))) qt (.tup (l1.map V.int))=H7 at S2 hq2 hv2 ht2 ⊢
 clear k1 hqt t2 hx S1 hq1 hv1
 refine⟨_,rfl,_,rfl,1+r1,rfl,ql,_,rfl,SqL.of S2.hl,fun ql' hql=>?_⟩
 rw[e2]
 have pl:p≠ql':=jA S2.hp hql
 have k2:Keep H7 (upd H7 ql' (.lst (l2.map V.int))) p:=(Keep.refl _ _).new hql _
 have S3':=S2.step k2 (by rw[j8 pl]; exact S2.hp) S2.hN
 have S3:St0 H (upd H7 ql' (.lst (l2.map V.int))) p w qm ql' mays l2 N1:=⟨S3'.hp,S3'.hN,S3'.hm,S3'.rm,j6,g2,pl.symm,S3'.kp⟩
 have hne:qp≠ql':=jA hq2 hql
 have hq3:(upd H7 ql' (.lst (l2.map V.int))) qp=some (.lst vs):=by rw[j8 hne]; exact hq2
 have hv3:=hv2.mono (k2.tups S2.hp)
 have ht3:=k2.tups S2.hp _ _ ht2
 generalize upd H7 ql' (.lst (l2.map V.int))=H8 at S3 hq3 hv3 ht3 ⊢
 clear k2 S3' S2 hq2 hv2 ht2 hql
 refine⟨_,rfl,(by show 0<=sizeLine; exact bx _),fun z hz=>⟨qt,z,l1.map V.int,rfl,rfl,SqT.of ?_,SqT.of j6,_,rfl,?_⟩⟩
 ·rw[j8 (jA ht3 hz)]; exact ht3
 have pz:p≠z:=jA S3.hp hz
 have qz:qp≠z:=jA hq3 hz
 have k3:Keep H8 (upd H8 z (.tup [])) p:=(Keep.refl _ _).new hz _
 have S4:=S3.step k3 (by rw[j8 pz]; exact S3.hp) S3.hN
 have hq4:(upd H8 z (.tup [])) qp=some (.lst vs):=by rw[j8 qz]; exact hq3
 have hv4:=hv3.mono (k3.tups S3.hp)
 have ht4:=k3.tups S3.hp _ _ ht3
 generalize upd H8 z (.tup [])=H9 at S4 hq4 hv4 ht4 ⊢
 clear k3 S3 hq3 hv3 ht3 hz pz qz
 refine ite2 (fun hy=>?_) (fun hy=>?_)
 ·refine⟨_,rfl,_,rfl,p,N1,w,rfl,S4.hp,S4.hN,w1,w2,fun q N2 ts H' b1 lt b2 b3 b4=>?_⟩
  exact jH6 T CT CL hr (S4.step b4 b3 b1) (b4 _ _ hq4 hpp.symm) (hv4.mono (b4.tups S4.hp)) hg b2 lt hf hn hH hne.symm hpp fun H6 N' vs' pcs' z1 z2 z3 z4 z5=>nx H6 N' vs' pcs' ql' l2 _ _ z1 hne.symm z2 z3 z4 z5
 ·have nl:l1≠ []:=fun e=>hy (ay (by rw[e]; rfl))
  exact jH6 T CT CL hr S4 hq4 hv4 hg ht4 ⟨g1.ris,g1.bnd,nl⟩ hf hn hH hne.symm hpp fun H6 N' vs' pcs' z1 z2 z3 z4 z5=>nx H6 N' vs' pcs' ql' l2 _ _ z1 hne.symm z2 z3 z4 z5
def Told (H:Hp)(p:Addr)(mt mp:Int)(R:VK):Prop:=∀ (b:Addr) (N' w:Int) (mays:List Int) (pcs:List (List Int×Int)) (H':Hp),0<=N'->H' p=some (.lst [.int N'])->BoxAt H' b w mays pcs->Good mt mp w mays pcs->Keep H H' p->R (.ref b) H'
theorem jH7 (T:Txt mg)(CT:Can P w K mg base "_law_take" 1 fT fdT ["pot","wide"] yM)(CL:Can P w K mg base "_law_lot" 2 fL fdL ["pot","wide"] qK)(hr:Room 2 (XBox P w K mg base f cdv A outer s H0 E).A)
  {D:Ends}{H H5:Hp}{p qm ql:Addr}{mt mp w N:Int}{mays lf:List Int}{v6 v7 v8 v9 v10:Option V}
  (S:St0 H H5 p w qm ql mays lf N) (hpH:∃ o,H p=some o) (w0:0<=w) (w1:w<=mt) (w2:mt<=16) (n0:0<=mp) (n1:mp<=32) (q:Told H p mt mp D.rt):
  (boxC T CT CL hr).1 D [some (.ref p),some (.int mt),some (.int mp),some (.int w),some (.ref qm),some (.ref ql),v6,v7,v8,v9,v10] H5:=by
 refine⟨(by show 3<=sizeLine; decide),fun l hl=>?_⟩
 have pl:p≠l:=jA S.hp hl
 refine⟨_,rfl,p,N,3,rfl,by rw[j8 pl]; exact S.hp,S.hN,by decide,by decide,fun N1 r a1 a2 a3=>?_⟩
 obtain⟨far,hfar,hf⟩:∃ far:Int,atI [V.int 1,V.int 10,V.int 2000000000001] r=some (.int far)/\(far=1\/far=10\/far=2000000000001):=by
  rcases (show r=0\/r=1\/r=2 by lia) with e | e | e
  ·subst e; exact⟨_,rfl, .inl rfl⟩
  ·subst e; exact⟨_,rfl, .inr (.inl rfl)⟩
  ·subst e; exact⟨_,rfl, .inr (.inr rfl)⟩
 refine⟨l,_,r,_,rfl,rfl,SqL.of (by rw[j8 pl.symm]; exact j6),hfar,?_⟩
 have S1:=S.step ((((Keep.refl _ _).new hl (.lst [V.int 1,V.int 10,V.int 2000000000001])).upd (.lst [.int N1]))) j6 a1
 generalize upd (upd H5 l (.lst [V.int 1,V.int 10,V.int 2000000000001])) p (.lst [.int N1])=H6 at S1 ⊢
 clear hl S
 refine⟨(by show 0<=sizeLine; exact bx _),fun qp hqp=>?_⟩
 have pq:p≠qp:=jA S1.hp hqp
 have hHq:H qp=none:=by
  cases e:H qp with
  | none=>rfl
  | some o=>
   have:=S1.kp _ _ e pq.symm
   rw[hqp] at this
   cases this
 have lq:ql≠qp:=jA S1.hl hqp
 have S2:=S1.step ((Keep.refl _ _).new hqp (.lst [])) (by rw[j8 pq]; exact S1.hp) S1.hN
 have hq2:(upd H6 qp (.lst [])) qp=some (.lst []):=j6
 generalize upd H6 qp (.lst [])=H7 at S2 hq2 ⊢
 clear hqp S1
 refine⟨_,rfl,_,rfl,_,_,rfl,rfl,p,N1,_,rfl,S2.hp,S2.hN,by lia,by lia,fun N2 n b1 b2 b3=>?_⟩
 refine⟨_,rfl,_,_,rfl,rfl, .inr ⟨_,rfl,_,_,rfl,rfl, .inl ⟨by lia,by lia⟩,_,rfl,?_⟩⟩
 have S3:=S2.step ((Keep.refl _ _).upd (.lst [.int N2])) j6 b1
 have hq3:(upd H7 p (.lst [.int N2])) qp=some (.lst []):=by rw[j8 pq.symm]; exact hq2
 generalize upd H7 p (.lst [.int N2])=H8 at S3 hq3 ⊢
 clear S2 hq2
 obtain⟨m,em,hm,hw⟩:∃ m:Int,n*(if decide (0<w)=true then 1 else 0)=m/\(0<=m/\m<=mp)/\(0<m->1<=w):=by
  by_cases h:0<w
  ·exact⟨n,by simp [h],⟨b2,by lia⟩,fun _=>h⟩
  ·exact⟨0,by simp [h],⟨by lia,n0⟩,fun z=>by lia⟩
 show _/\_/\_
 rw[show (n*(if decide (0<w)=true then 1 else 0))=m from em]
 refine⟨by lia,by lia,jC2 (n:=m.toNat) (fun i σ H5=>∃ ql' lf' N' vs pcs v8 v9 v10,σ=[some (.ref p),some (.int mt),some (.int mp),some (.int w),some (.ref qm),some (.ref ql'),some (.int far),some (.ref qp),v8,v9,v10]/\St0 H H5 p w qm ql' mays lf' N'/\ql'≠qp/\H5 qp=some (.lst vs)/\PcsAt H5 vs pcs/\(∀ pc∈pcs,GoodPc w pc)/\pcs.length=i) ?_ ?_ ?_⟩
 ·exact⟨ql,lf,N2,[],[],_,_,_,rfl,S3,lq,hq3,trivial,(fun _ h=>by cases h),rfl⟩
 ·rintro i σ H9 hi ⟨ql',lf',N',vs,pcs,x8,x9,x10,rfl,S4,l4,hq4,hv4,hg4,e4⟩
  exact jOP T CT CL hr S4 hq4 hv4 hg4 hf (by lia) hHq pq (hw (by lia)) (by lia) fun H6 N' vs' pcs' ql' lf' v9' v10' z1 z2 z3 z4 z5 z6=>⟨ql',lf',N',vs',pcs',_,_,_,rfl,z1,z2,z3,z4,z5,by lia⟩
 ·rintro σ H9 ⟨ql',lf',N',vs,pcs,x8,x9,x10,rfl,S4,l4,hq4,hv4,hg4,e4⟩
  refine⟨_,rfl,_,rfl,_,rfl,qp,vs,rfl, .inl ⟨SqL.of hq4,fun tq htq=>⟨(by show 3<=sizeLine; decide),fun b hb=>?_⟩⟩⟩
  have k1:Keep H9 (upd H9 tq (.tup vs)) p:=(Keep.refl _ _).new htq _
  have k2:Keep H9 (upd (upd H9 tq (.tup vs)) b (.tup [.int w, .ref qm, .ref tq])) p:=k1.new hb _
  have tb:=jA j6 hb
  have S5:=S4.step k2 (by rw[j8 (y8 hb |>.2 |> fun h=>jA S4.hp h),j8 (jA S4.hp htq)]; exact S4.hp) S4.hN
  exact q b N' w mays pcs _ S4.hN S5.hp ⟨qm,tq,vs,j6,S5.hm,by rw[j8 tb]; exact j6,hv4.mono (k2.tups S4.hp)⟩ ⟨w0,w1,S4.rm,by lia,hg4⟩ S5.kp
theorem jH8 (T:Txt mg)(CT:Can P w K mg base "_law_take" 1 fT fdT ["pot","wide"] yM)(CL:Can P w K mg base "_law_lot" 2 fL fdL ["pot","wide"] qK)(hr:Room 2 (XBox P w K mg base f cdv A outer s H0 E).A)
  {D:Ends}{H H5:Hp}{p qm:Addr}{mt mp w N:Int}{mays:List Int}{v5 v6 v7 v8 v9 v10:Option V}
  (hp:H5 p=some (.lst [.int N])) (hN:0<=N) (hm:H5 qm=some (.tup (mays.map V.int))) (rm:Ris w mays) (kp:Keep H H5 p) (hpH:∃ o,H p=some o) (w0:0<=w) (w1:w<=mt) (w2:mt<=16) (n0:0<=mp) (n1:mp<=32) (q:Told H p mt mp D.rt):
  (boxB T CT CL hr).1 D [some (.ref p),some (.int mt),some (.int mp),some (.int w),some (.ref qm),v5,v6,v7,v8,v9,v10] H5:=by
 refine⟨_,rfl,w,rfl,fun x hx=>⟨x,w,rfl,j6,w0,by lia,fun ql hql=>?_⟩⟩
 rw[jNR]
 have px:p≠x:=jA hp hx
 have pl:p≠ql:=jA hp (y8 hql).2
 have k1:Keep H5 (upd (upd H5 x (.rng 0 w)) ql (.lst ((upto w.toNat).map V.int))) p:=((Keep.refl _ _).new hx _).new hql _
 have e:((w.toNat:Nat):Int)=w:=by lia
 have rl:Ris w (upto w.toNat):=by
  have:=kO w.toNat
  rw[e] at this
  exact this
 have S:St0 H (upd (upd H5 x (.rng 0 w)) ql (.lst ((upto w.toNat).map V.int))) p w qm ql mays (upto w.toNat) N:=
  ⟨by rw[j8 pl,j8 px]; exact hp,hN,k1 qm _ hm (ne_of hm hp (by intro z; cases z)),rm,j6,rl,pl.symm,kp.trans k1⟩
 generalize upd (upd H5 x (.rng 0 w)) ql (.lst ((upto w.toNat).map V.int))=H6 at S ⊢
 clear k1 hql hx hp hm kp
 refine⟨_,rfl,p,N,3,rfl,S.hp,S.hN,by decide,by decide,fun N1 r a1 a2 a3=>⟨rfl,_,rfl,?_⟩⟩
 have S1:=S.step ((Keep.refl _ _).upd (.lst [.int N1])) j6 a1
 generalize upd H6 p (.lst [.int N1])=H7 at S1 ⊢
 clear S
 refine ite2 (fun hy=>?_) (fun hy=>?_)
 ·refine⟨(by show 0<=sizeLine; exact bx _),fun l hl=>?_⟩
  have pl2:p≠l:=jA S1.hp hl
  have S2:=S1.step ((Keep.refl _ _).new hl (.lst [])) (by rw[j8 pl2]; exact S1.hp) S1.hN
  have S3:St0 H (upd H7 l (.lst [])) p w qm l mays [] N1:=⟨S2.hp,S2.hN,S2.hm,S2.rm,j6,Ris.nil w,pl2.symm,S2.kp⟩
  exact jH7 T CT CL hr S3 hpH w0 w1 w2 n0 n1 q
 ·exact jH7 T CT CL hr S1 hpH w0 w1 w2 n0 n1 q
theorem jOQ (T:Txt mg)(CT:Can P w K mg base "_law_take" 1 fT fdT ["pot","wide"] yM)(CL:Can P w K mg base "_law_lot" 2 fL fdL ["pot","wide"] qK)(hr:Room 2 (XBox P w K mg base f cdv A outer s H0 E).A)
  {D:Ends}{H:Hp}{p:Addr}{mt mp N:Int}
  (hp:H p=some (.lst [.int N])) (hN:0<=N) (w0:0<=mt) (w2:mt<=16) (n0:0<=mp) (n1:mp<=32) (q:Told H p mt mp D.rt):
  (boxA T CT CL hr).1 D [some (.ref p),some (.int mt),some (.int mp),none,none,none,none,none,none,none,none] H:=by
 refine⟨_,rfl,_,rfl,_,_,rfl,rfl,p,N,_,rfl,hp,hN,by lia,by lia,fun N1 w a1 a2 a3=>?_⟩
 refine⟨(by show 0<=sizeLine; exact bx _),fun t ht=>?_⟩
 have pt:p≠t:=(y8 ht).1.symm
 refine⟨_,rfl,p,N1,3,rfl,by rw[j8 pt]; exact j6,a1,by decide,by decide,fun N2 r b1 b2 b3=>⟨rfl,_,rfl,?_⟩⟩
 have k1:Keep H (upd (upd (upd H p (.lst [.int N1])) t (.tup [])) p (.lst [.int N2])) p:=(((Keep.refl _ _).upd _).new ht _).upd _
 have hp1:(upd (upd (upd H p (.lst [.int N1])) t (.tup [])) p (.lst [.int N2])) p=some (.lst [.int N2]):=j6
 have ht1:(upd (upd (upd H p (.lst [.int N1])) t (.tup [])) p (.lst [.int N2])) t=some (.tup []):=by rw[j8 pt.symm]; exact j6
 generalize upd (upd (upd H p (.lst [.int N1])) t (.tup [])) p (.lst [.int N2])=H1 at k1 hp1 ht1 ⊢
 clear ht
 refine ite2 (fun hy=>?_) (fun hy=>?_)
 ·refine⟨_,rfl,w,rfl,by lia,by lia,jBF (n:=w.toNat) (by rw[aJ]; lia) (fun D i σ' H' ys=>(∃ v,σ'=[v,some (.ref p)])/\(∃ (ms:List Int) (N':Int),ys=ms.map V.int/\ms.length<=i/\Ris i ms/\0<=N'/\H' p=some (.lst [.int N']))/\Keep H1 H' p/\H' D=some (.lst ys)/\D≠p/\H1 D=none) ?_ ?_ ?_ ?_⟩
  ·intro D hD
   have:p≠D:=jA hp1 hD
   exact⟨⟨_,rfl⟩,⟨[],N2,rfl,ar _,Ris.nil _,b1,by rw[j8 this]; exact hp1⟩,(Keep.refl _ _).new hD _,j6,this.symm,hD⟩
  ·rintro D i σ' H' ys hD hi ⟨_,⟨ms,N',rfl,e,_⟩,_,e2,_⟩
   exact⟨e2,by rw[ab]; exact e⟩
  ·rintro D i σ' H' ys hD hi ⟨⟨v,rfl⟩,⟨ms,N',rfl,e,rs,n',hp'⟩,kk,e2,dp,hn⟩
   refine⟨_,rfl,p,N',3,rfl,hp',n',by decide,by decide,fun N3 r3 c1 c2 c3=>⟨rfl,_,rfl,?_⟩⟩
   have k2:Keep H1 (upd H' p (.lst [.int N3])) p:=kk.upd _
   have e3:(upd H' p (.lst [.int N3])) D=some (.lst (ms.map V.int)):=by rw[j8 dp]; exact e2
   have hp3:(upd H' p (.lst [.int N3])) p=some (.lst [.int N3]):=j6
   generalize upd H' p (.lst [.int N3])=H'' at k2 e3 hp3 ⊢
   refine ite2 (fun hz=>?_) (fun hz=>?_)
   ·refine⟨_,rfl,e3,⟨_,rfl⟩,⟨ms++[(i:Int)],N3,?_,?_,rs.snoc,c1,by rw[j8 dp.symm]; exact hp3⟩,k2.updNew hn _,j6,dp,hn⟩
    ·rw[aP]
     show _++[V.int (0+(i:Int))]=_++[V.int (i:Int)]
     rw[jr]
    ·rw[aC]
     show ms.length+1<=i+1
     lia
   ·exact⟨⟨_,rfl⟩,⟨ms,N3,rfl,by lia,rs.step,c1,hp3⟩,k2,e3,dp,hn⟩
  ·rintro D σ' H' ys hD ⟨_,⟨ms,N',rfl,e,rs,n',hp'⟩,kk,e2,dp,hn⟩
   refine⟨D,_,rfl, .inl ⟨SqL.of e2,fun qm hqm=>?_⟩⟩
   have pm:p≠qm:=jA hp' hqm
   have e':((w.toNat:Nat):Int)=w:=by lia
   rw[e'] at rs
   exact jH8 T CT CL hr (by rw[j8 pm]; exact hp') n' j6 rs ((k1.trans kk).new hqm _) ⟨_,hp⟩ a2 (by lia) w2 n0 n1 q
 ·exact jH8 T CT CL hr hp1 b1 (mays:=[]) ht1 (Ris.nil w) k1 ⟨_,hp⟩ a2 (by lia) w2 n0 n1 q
theorem jVK {f fT fL:Addr}{fd fdT fdL:FuncData}(F:Fun K "_law_box" "_law_box" sBox f fd)(T:Txt mg)(CT:Can P w K mg base "_law_take" 1 fT fdT ["pot","wide"] yM)(CL:Can P w K mg base "_law_lot" 2 fL fdL ["pot","wide"] qK):
  FnOk P w K mg base CX0 3 f fd ["pot","most_things","most_pieces"] spBox:=by
 refine F.ok scBox (fun vs H Q E h=>?_) (fun cdv A outer s H vs Q E hr h=>?_)
 ·obtain⟨_,_,_,_,rfl,_⟩:=h
  rfl
 ·obtain⟨p,N,mt,mp,rfl,hp,hN,m0,m1,n0,n1,q⟩:=h
  exact⟨_,(boxA T CT CL hr).2.h,jOQ T CT CL hr hp hN m0 m1 n0 n1 q⟩
inductive Ob where
 | int (i:Int)
 | oth
 | tup (os:List Ob)
def OthAt (H:Hp)(v:V):Prop:=v= .non\/(∃ b,v= .bl b)\/(∃ x,v= .str x)\/∃ a,v= .ref a/\((∃ xs,H a=some (.lst xs))\/∃ kvs,H a=some (.dK kvs))
mutual
def At (H:Hp):Ob->V->Prop
 | .int i,v=>v= .int i
 | .oth,v=>OthAt H v
 | .tup os,v=>∃ a vs,v= .ref a/\H a=some (.tup vs)/\vs.length<=100/\Ats H os vs
def Ats (H:Hp):List Ob->List V->Prop
 | [],vs=>vs=[]
 | o::os,vs=>∃ v r,vs=v::r/\At H o v/\Ats H os r
end
structure Kp (H H':Hp):Prop where
 t:Tups H H'
 l:∀ a xs,H a=some (.lst xs)->∃ ys,H' a=some (.lst ys)
 d:∀ a xs,H a=some (.dK xs)->∃ ys,H' a=some (.dK ys)
theorem Kp.of {H H':Hp}(e:Ext H H'):Kp H H':=⟨fun b xs h=>e b _ h,fun a xs h=>⟨xs,e a _ h⟩,fun a xs h=>⟨xs,e a _ h⟩⟩
theorem OthAt.mono {H H':Hp}(k:Kp H H'){v:V}(h:OthAt H v):OthAt H' v:=by
 rcases h with h | h | h | ⟨a,rfl,⟨xs,h⟩ | ⟨xs,h⟩⟩
 ·exact .inl h
 ·exact .inr (.inl h)
 ·exact .inr (.inr (.inl h))
 ·exact .inr (.inr (.inr ⟨a,rfl, .inl (k.l _ _ h)⟩))
 ·exact .inr (.inr (.inr ⟨a,rfl, .inr (k.d _ _ h)⟩))
mutual
theorem At.mono {H H':Hp}(k:Kp H H'):∀ (o:Ob) (v:V),At H o v->At H' o v
 | .int _,_,h=>h
 | .oth,_,h=>OthAt.mono k h
 | .tup os,_,⟨a,vs,e,h,n,r⟩=>⟨a,vs,e,k.t _ _ h,n,Ats.mono k os vs r⟩
theorem Ats.mono {H H':Hp}(k:Kp H H'):∀ (os:List Ob) (vs:List V),Ats H os vs->Ats H' os vs
 | [],_,h=>h
 | o::os,_,⟨v,r,e,h,t⟩=>⟨v,r,e,At.mono k o v h,Ats.mono k os r t⟩
end
theorem At.ext {H H':Hp}(e:Ext H H'){o:Ob}{v:V}(h:At H o v):At H' o v:=At.mono (.of e) o v h
theorem Ats.len {H:Hp} :∀ {os:List Ob}{vs:List V},Ats H os vs->vs.length=os.length
 | [],_,h=>by cases (show _=[] from h); rfl
 | o::os,_,⟨v,r,e,h,t⟩=>by rw[e,aU,aU,Ats.len t]
theorem Ats.get {H:Hp} :∀ {os:List Ob}{vs:List V},Ats H os vs->∀ {i:Nat}{v:V},vs[i]?=some v->∃ o,os[i]?=some o/\At H o v
 | [],_,h,i,v,e=>by cases (show _=[] from h); cases e
 | o::os,_,⟨v,r,e,h,t⟩,0,v',e'=>by subst e; cases e'; exact⟨o,rfl,h⟩
 | o::os,_,⟨v,r,e,h,t⟩,i+1,v',e'=>by subst e; exact Ats.get t (i:=i) e'
theorem Ats.ints {H:Hp} :∀ (l:List Int),Ats H (l.map Ob.int) (l.map V.int)
 | []=>rfl
 | i::r=>⟨.int i,_,rfl,rfl,Ats.ints r⟩
def isInt:Ob->Bool
 | .int _=>true
 | _=>false
def isTup:Ob->Bool
 | .tup _=>true
 | _=>false
def upB (lo hi:Int):Ob->Bool
 | .int i=>decide (lo<=i)&&decide (i<=hi)
 | _=>false
def val:Ob->Int
 | .int i=>i
 | _=>0
def adj (is:List Int):List Bool:=(List.range (is.length - 1)).map fun k=>decide (is.getD k 0<is.getD (k+1) 0)
noncomputable def risB:Ob->Bool
 | .tup os=>os.all isInt&&(adj (os.map val)).all id
 | _=>false
noncomputable def lotB (w:Int):Ob->Bool
 | .tup os=>os.all (upB 0 (w - 1))&&(adj (os.map val)).all id
 | _=>false
def lotB' (w:Int)(o:Ob):Bool:=risB o&&match o with
 | .tup os=>decide (os=[]) || (decide (0<=(os.map val).getD 0 0)&&decide ((os.map val).getLastD 0<w))
 | _=>false
theorem jU8 {is:List Int}(h:(adj is).all id=true){k:Nat}(hk:k+1<is.length):is.getD k 0<is.getD (k+1) 0:=by
 rw[bB] at h
 exact az (h _ (aL.mpr ⟨k,br.mpr (by lia),rfl⟩))
theorem jOY {is:List Int}(h:(adj is).all id=true):∀ (j k:Nat),j<=k->k<is.length->is.getD j 0<=is.getD k 0
 | j,0,h1,_=>by
  have:j=0:=by lia
  subst this
  exact dE _
 | j,k+1,h1,h2=>by
  rcases ff k j with q | q
  ·have:j=k+1:=by lia
   subst this
   exact dE _
  ·have a:=jOY h j k q (by lia)
   have b:=jU8 h h2
   lia
theorem jVP (w:Int)(o:Ob):lotB' w o=lotB w o:=by
 cases o with
 | int i=>rfl
 | oth=>rfl
 | tup os=>
  rw[bO]
  unfold lotB' risB lotB
  simp only [cg,jx,iW]
  constructor
  ·rintro ⟨⟨a,b⟩,c⟩
   refine⟨?_,b⟩
   rw[bB] at a ⊢
   intro x hx
   obtain⟨j,hj,rfl⟩:=eR hx
   have hi:=a _ hx
   have e:os≠ []:=fun e=>by subst e; cases hx
   obtain⟨c1,c2⟩:=c.resolve_left e
   have hl:(os.map val).length=os.length:=ab _
   have g:(os.map val).getD j 0=val os[j]:=by
    rw[ai,aA]
    simp [hj]
   have l1:=jOY b 0 j (by lia) (by lia)
   have l2:=jOY b j (os.length - 1) (by lia) (by lia)
   have l3:(os.map val).getLastD 0=(os.map val).getD (os.length - 1) 0:=by
    rw[fS,ek,ai,hl]
   rw[g] at l1 l2
   rw[l3] at c2
   cases e2:os[j] with
   | int i=>
    rw[e2] at l1 l2
    simp only [val] at l1 l2
    simp only [upB,cg,iW]
    lia
   | oth=>rw[e2] at hi; cases hi
   | tup r=>rw[e2] at hi; cases hi
  ·rintro ⟨a,b⟩
   rw[bB] at a
   refine⟨⟨?_,b⟩,?_⟩
   ·rw[bB]
    intro x hx
    have:=a x hx
    cases x with
    | int i=>rfl
    | oth=>cases this
    | tup r=>cases this
   ·by_cases e:os=[]
    ·exact .inl e
    ·refine .inr ?_
     have key:∀ j,j<os.length->0<=(os.map val).getD j 0/\(os.map val).getD j 0<w:=fun j hj=>by
      have g:(os.map val).getD j 0=val os[j]:=by
       rw[ai,aA]
       simp [hj]
      have:=a os[j] (cM hj)
      rw[g]
      cases e2:os[j] with
      | int i=>
       rw[e2] at this
       simp only [upB,cg,iW] at this
       simp only [val]
       lia
      | oth=>rw[e2] at this; cases this
      | tup r=>rw[e2] at this; cases this
     have hpos:0<os.length:=by
      cases os with
      | nil=>exact absurd rfl e
      | cons _ _=>simp
     have l3:(os.map val).getLastD 0=(os.map val).getD (os.length - 1) 0:=by
      rw[fS,ek,ai,ab]
     rw[l3]
     exact⟨(key 0 hpos).1,(key (os.length - 1) (by lia)).2⟩
theorem Ats.allInt {H:Hp} :∀ {os:List Ob}{vs:List V},Ats H os vs->os.all isInt=true->vs=(os.map val).map V.int
 | [],_,h,_=>by cases (show _=[] from h); rfl
 | o::os,_,⟨v,r,e,h,t⟩,ha=>by
  rw[gX,cg] at ha
  subst e
  rw[aY,aY,<- Ats.allInt t ha.2]
  cases o with
  | int i=>cases (show v= .int i from h); rfl
  | oth=>cases ha.1
  | tup _=>cases ha.1
theorem jWE (l:List Ob)(F:Ob->Bool):(l.map F).all id=l.all F:=by
 rw[all_map]
 rfl
theorem jU7 (is:List Int):(adj is).length=is.length - 1:=by
 unfold adj
 rw[ab,bg]
theorem jWF {is:List Int}{k:Nat}(h:k<is.length - 1):(adj is)[k]?=some (decide (is.getD k 0<is.getD (k+1) 0)):=by
 unfold adj
 rw[aA,bQ h]
 rfl
theorem jQX {is:List Int}{k:Nat}(h:k<is.length - 1):(adj is).take (k+1)=(adj is).take k++[decide (is.getD k 0<is.getD (k+1) 0)]:=by
 rw[bf,jWF h]
 rfl
theorem getI {is:List Int}{k:Nat}(h:k<is.length):(is.map V.int)[k]?=some (.int (is.getD k 0)):=by
 rw[aA,ai]
 simp [h]
theorem At.ty (K:W.Frag){H:Hp}{o:Ob}{v:V}(h:At H o v):∃ t,TyOf K H v t/\kitOne K t (.type "tuple")=some (isTup o)/\∃ b1 b2,kitOne K t (.type "int")=some b1/\kitOne K t (.type "bool")=some b2/\(b1&&!b2)=isInt o:=by
 cases o with
 | int i=>
  cases (show v= .int i from h)
  exact⟨_, .int i,rfl,true,false,rfl,rfl,rfl⟩
 | oth=>
  rcases (show OthAt H v from h) with rfl | ⟨b,rfl⟩ | ⟨x,rfl⟩ | ⟨a,rfl,⟨xs,e⟩ | ⟨xs,e⟩⟩
  ·exact⟨_, .non,rfl,false,false,rfl,rfl,rfl⟩
  ·exact⟨_, .bl b,rfl,true,true,rfl,rfl,rfl⟩
  ·exact⟨_, .str x,rfl,false,false,rfl,rfl,rfl⟩
  ·exact⟨_, .lst e,rfl,false,false,rfl,rfl,rfl⟩
  ·exact⟨_, .dK e,rfl,false,false,rfl,rfl,rfl⟩
 | tup os=>
  obtain⟨a,vs,rfl,e,_⟩:=h
  exact⟨_, .tup e,rfl,false,false,rfl,rfl,rfl⟩
theorem At.tupOf {H:Hp}{o:Ob}{v:V}(h:At H o v)(t:isTup o=true):∃ os a vs,o= .tup os/\v= .ref a/\H a=some (.tup vs)/\vs.length<=100/\Ats H os vs:=by
 cases o with
 | int i=>cases t
 | oth=>cases t
 | tup os=>
  obtain⟨a,vs,e1,e2,e4,e3⟩:=h
  exact⟨os,a,vs,rfl,e1,e2,e4,e3⟩
theorem jOE {K:W.Frag}{m:List (Option Nat)}{g:TG}{tt:TT}{te:TE}{σ:St}{H1:Hp}{Q:VK}{a:Addr}{xs:List V}{os:List Ob}{F:Ob->Bool}(ha:H1 a=some (.tup xs))(hx:Ats H1 os xs)(hn:xs.length<sizeLine)(σP:St->Prop)(h0:σP (blkσ m σ))
  (step:∀ (σ':St) (H':Hp) (v:V) (o:Ob) (R:St->V->Hp->Prop) (S:St->Hp->Prop),σP σ'->Ext H1 H'->At H' o v->(∀ σ2 H'',σP σ2->Ext H' H''->R σ2 (.bl (F o)) H'')->g v σ' H' fun σ2 H2=>tt σ2 H2 fun b H3=>if b=true then te σ2 H3 (R σ2) else S σ2 H3)
  (hd:∀ D H',Ext H1 H'->H' D=some (.lst ((os.map F).map V.bl))->Q (.ref D) H'):qO m g tt te σ Q (Itt K a) H1:=by
 have hl:=hx.len
 refine jDD (xs:=xs) hn (fun D i σ' H' zs=>σP σ'/\Ext H1 H'/\H' D=some (.lst zs)/\H1 D=none/\zs=((os.take i).map F).map V.bl) ?_ ?_ ?_ ?_
 ·intro D hD
  exact⟨h0,(Ext.refl _).new hD _,j6,hD,rfl⟩
 ·rintro D i σ' H' zs hD ⟨_,e,h2,_,rfl⟩
  refine⟨e _ _ ha,h2,?_⟩
  rw[ab,ab,bE]
  lia
 ·rintro D i σ' H' zs x hD hi ⟨p,e,h2,hn,rfl⟩
  obtain⟨o,ho,hAt⟩:=hx.get hi
  refine step σ' H' x o _ _ p e (hAt.ext e) fun σ2 H'' p2 e2=>⟨e2 _ _ h2,p2,(e.trans e2).updNew hn _,j6,hn,?_⟩
  have:os.take (i+1)=os.take i++[o]:=by
   rw[bf,ho]
   rfl
  rw[this,aP,aP]
  rfl
 ·rintro D σ' H' zs hD ⟨_,e,h2,_,rfl⟩
  rw[hl,bG] at h2
  exact hd D H' e h2
noncomputable abbrev XOf (N:List Str)(q:Str)(st:Stmt)(P:Program)(w:World)(K:W.Frag)(mg:Str->Option Value)(base:Heap)(f:Addr)(cdv:Value)(A:Around)(outer:List Env)(s:Shared)(H:Hp)(E:XK):Cx:=(cxOf CX0 P w K mg base N q (j9 st) f cdv A outer s H E).nox
abbrev jMP:List Str:=["thing"]
theorem scWhole0:FnScope jMP ["thing"] (j9 jBM):= {}
def spWh:Sp:=fun vs H Q _=>∃ v o,vs=[v]/\At H o v/\Q (.bl (isInt o)) H
def jRT (T:Txt mg): { t:TS // JSs (XOf jMP "is_whole" jBM P w K mg base f cdv A outer s H0 E) (jD jBM) t} :=
 have nd:=scWhole0.nd
 ⟨_,(jC (jQ ((jNL (jG jAC gD T.isinstance (by decide+kernel) (j3 (jv 0 rfl vL) (j3 (jDV (v:= .ty "int") gD T.int (by decide+kernel) rfl) j7 j5) j5) j5) (jJL (jVW (jG jAC gD T.isinstance (by decide+kernel) (j3 (jv 0 rfl vL) (j3 (jDV (v:= .ty "bool") gD T.bool (by decide+kernel) rfl) j7 j5) j5) j5)))))))⟩
theorem jMG {fd:FuncData}(F:Fun K "is_whole" "is_whole" jBM f fd)(T:Txt mg):FnOk P w K mg base CX0 1 f fd ["thing"] spWh:=by
 refine F.ok scWhole0 (fun vs H Q E h=>?_) (fun cdv A outer s H vs Q E hr h=>?_)
 ·obtain⟨_,_,rfl,_⟩:=h
  rfl
 ·obtain⟨v,o,rfl,hA,q⟩:=h
  obtain⟨t,ty,_,b1,b2,k1,k2,e⟩:=hA.ty K
  refine⟨_,(jRT T).2.h,?_⟩
  refine⟨_,rfl,_,_,_,b1,rfl,ty,k1,b1,rfl,?_⟩
  rw[<- e] at q
  cases b1 with
  | true=>exact iteT ⟨_,rfl,_,_,_,b2,rfl,ty,k2,b2,rfl,q⟩
  | false=>exact iteF q
abbrev jDO:List Str:=["thing"]
theorem scRising:FnScope jDO ["thing"] (j9 jAI):= {}
def spB (F:Ob->Bool):Sp:=fun vs H Q _=>∃ v o,vs=[v]/\At H o v/\∀ H',Ext H H'->Q (.bl (F o)) H'
def jS4 (T:Txt mg)(CW:Can P w K mg base "is_whole" 1 fW fdW ["thing"] spWh)(hr:Room 1 (XOf jDO "is_rising" jAI P w K mg base f cdv A outer s H0 E).A): { t:TS // JSs (XOf jDO "is_rising" jAI P w K mg base f cdv A outer s H0 E) (jD jAI) t} :=
 have nd:=scRising.nd
 ⟨_,(jB (yH (jDS (jDR (jG jAC gD T.isinstance (by decide+kernel) (j3 (jv 0 rfl vC) (j3 (jDV (v:= .ty "tuple") gD T.tuple (by decide+kernel) rfl) j7 j5) j5) j5) jBL)) (jC (jQ (je_bl))) kL)
   (jB (yH (jDS (jDR (jG (jE2 rfl) gD T.all (by decide+kernel) (j3 (kN (m:=[none]) (Nc:=["number"]) rfl (jBJ (jv 0 rfl vC)) rfl (by decide+kernel) (by decide+kernel) (jW (psc:=j9 jAI)) (jH (N:=jDO) rfl rfl (by decide+kernel)) (fun cl C fp s H=>jN (i:=0) (show (["number"]:List Str).Nodup by decide+kernel) rfl yW) (fun cl C fp s H=>y4) (fun cl C fp s H=>(CW.je hr gl_b (j3 (jv 0 rfl jO) j7 j5) j5)) yD) j7 jJ) jJ) jBL)) (jC (jQ (je_bl))) kL)
   (jC (jQ (jG (jE2 rfl) gD T.all (by decide+kernel) (j3 (kN (m:=[none,some 0]) (Nc:=["k","thing"]) rfl (jNE gD T.range (j3 (je_int) (j3 (jG jS gD T.len (by decide+kernel) (j3 (jv 0 rfl vC) j7 j5) j5) j7 jF) jL) jL jF) rfl (by decide+kernel) (by decide+kernel) (jW (psc:=j9 jAI)) (jH (N:=jDO) rfl rfl (by decide+kernel)) (fun cl C fp s H=>jN (i:=0) (show (["k","thing"]:List Str).Nodup by decide+kernel) rfl yW) (fun cl C fp s H=>y4) (fun cl C fp s H=>(jBQ op_lt (jU jBC (jv 1 rfl yI) (jY jBY (jv 0 rfl jO) (je_int)) jIW) (jU jBC (jv 1 rfl yI) (jv 0 rfl jO) jCE) (jK _))) kS) j7 jJ) jJ)))))⟩
theorem jMH {fd:FuncData}(F:Fun K "is_rising" "is_rising" jAI f fd)(T:Txt mg)(CW:Can P w K mg base "is_whole" 1 fW fdW ["thing"] spWh):FnOk P w K mg base CX0 2 f fd ["thing"] (spB risB):=by
 refine F.ok scRising (fun vs H Q E h=>?_) (fun cdv A outer s H vs Q E hr h=>?_)
 ·obtain⟨_,_,rfl,_⟩:=h
  rfl
 ·obtain⟨v,o,rfl,hA,q⟩:=h
  obtain⟨t,ty,kt,_⟩:=hA.ty K
  refine⟨_,(jS4 T CW hr).2.h,?_⟩
  refine⟨_,rfl,_,_,_,_,rfl,ty,kt,_,rfl,?_⟩
  cases ht:isTup o with
  | false=>
   refine iteT ?_
   have:risB o=false:=by cases o <;> first | rfl | cases ht
   rw[<- this]
   exact q H (Ext.refl H)
  | true=>
   refine iteF ?_
   obtain⟨os,a,vs,rfl,rfl,ha,h100,hx⟩:=hA.tupOf ht
   have hl:=hx.len
   have hn:vs.length<sizeLine:=by rw[aJ]; lia
   ·refine⟨_,rfl,a,rfl,⟨_,SqT.of ha⟩,jOE (F:=isInt) ha hx hn (fun σ'=>∃ v,σ'=[v]) ⟨_,rfl⟩ ?_ ?_⟩
    ·rintro σ' H' v o R S ⟨u,rfl⟩ e hA k
     dsimp only [kU,yQ]
     rw[ah rfl]
     exact⟨_,rfl,v,o,rfl,hA,k _ H' ⟨_,rfl⟩ (Ext.refl _)⟩
    ·intro D H1 e1 hD
     refine⟨D,_,rfl,SqL.of hD,_,rfl,?_⟩
     rw[jWE]
     cases hi:os.all isInt with
     | false=>
      refine iteT ?_
      have:risB (.tup os)=false:=by
       show (os.all isInt&&_)=false
       rw[hi]
       rfl
      rw[<- this]
      exact q H1 e1
     | true=>
      refine iteF ?_
      have hv:=hx.allInt hi
      have hN:(os.map val).length=os.length:=ab _
      refine⟨_,rfl,a,_,rfl, .inr (SqT.of (e1 _ _ ha)),1,_,rfl,⟨by decide,by decide,by lia,by rw[aJ] at hn; lia⟩,jBF (n:=((vs.length:Int) - 1).toNat) (by lia) (fun D i σ' H' zs=>(∃ v,σ'=[v,some (.ref a)])/\zs=((adj (os.map val)).take i).map V.bl/\H'=upd H1 D (.lst zs)) ?_ ?_ ?_ ?_⟩
      ·intro D hD
       exact⟨⟨_,rfl⟩,rfl,rfl⟩
      ·rintro D i σ' H' zs hD hi2 ⟨_,rfl,rfl⟩
       refine⟨j6,?_⟩
       rw[ab,bE]
       lia
      ·rintro D i σ' H' zs hD hi2 ⟨⟨v,rfl⟩,rfl,rfl⟩
       have hi3:i<(os.map val).length - 1:=by lia
       have ha':(upd H1 D (.lst (((adj (os.map val)).take i).map V.bl))) a=some (.tup ((os.map val).map V.int)):=by
        rw[j8 (jA (e1 _ _ ha) hD),e1 _ _ ha,hv]
       dsimp only [kU,yQ]
       rw[ah rfl]
       have e0:(1+(i:Int)) - 1=(i:Int):=by lia
       have e2:(1+(i:Int))=((i+1:Nat):Int):=by lia
       refine⟨_,rfl,_,rfl,_,_,rfl,rfl,a,_,_,_,rfl,rfl,SqT.of ha',by rw[e0]; exact qB (getI (by lia)),_,rfl,_,rfl,a,_,_,_,rfl,rfl,SqT.of ha',by rw[e2]; exact qB (getI (by lia)),_,_,rfl,rfl,j6,⟨_,rfl⟩,?_,jC9⟩
       rw[jQX hi3,aP]
       rfl
      ·rintro D2 σ' H' zs hD2 ⟨_,rfl,rfl⟩
       have hlen:((vs.length:Int) - 1).toNat=(adj (os.map val)).length:=by rw[jU7]; lia
       rw[hlen,bG]
       refine⟨D2,_,rfl,SqL.of j6,?_⟩
       have:(adj (os.map val)).all id=risB (.tup os):=by
        show _=(os.all isInt&&(adj (os.map val)).all id)
        rw[hi,g7]
       rw[this]
       exact q _ (e1.new hD2 _)
end Eo
namespace L2
open PySem
theorem px_un {op:UnaryOp}{a:Expr}{pos:Pos} :jAX (.UnaryOp op a pos):=fun _ _=>rfl
theorem jOV {α:Type}{xs:List α}{v:α}(h:xs[xs.length - 1]?=some v):atI xs (-1)=some v:=by
 have hj:xs.length - 1<xs.length:=(ax.mp h).1
 have e:ixN xs.length (-1)=some (xs.length - 1):=by
  unfold ixN
  rw[ae (by lia),ah (by lia)]
  congr 1
  lia
 unfold atI
 rw[e]
 exact h
theorem qb {Q:VK}{H:Hp}{a b:Bool}(q:Q (.bl a) H)(e:a=b):Q (.bl b) H:=e ▸ q
end L2
namespace Eo
open PySem L2
section
variable {fPs:Addr}{fdPs:FuncData}
abbrev jMT:List Str:=["thing","many"]
theorem scIsLot:FnScope jMT ["thing","many"] (j9 jCW):= {}
def spB2 (F:Int->Ob->Bool):Sp:=fun vs H Q _=>∃ v o w,vs=[v, .int w]/\At H o v/\∀ H',Ext H H'->Q (.bl (F w o)) H'
def jW1 (T:Txt mg)(CR:Can P w K mg base "is_rising" 2 fR fdR ["thing"] (spB risB))(hr:Room 2 (XOf jMT "is_lot" jCW P w K mg base f cdv A outer s H0 E).A): { t:TS // JSs (XOf jMT "is_lot" jCW P w K mg base f cdv A outer s H0 E) (jD jCW) t} :=
 have nd:=scIsLot.nd
 ⟨_,(jB (yH (jDS (jDR (CR.je hr gD (j3 (jv 0 rfl vL) j7 j5) j5) jBL)) (jC (jQ (je_bl))) kL)
   (jC (jQ ((je_or (jBQ qG (jG jS gD T.len (by decide+kernel) (j3 (jv 0 rfl vL) j7 j5) j5) (je_int) (jK _)) (jJL ((jNL (jBQ op_ge (jU jV (jv 0 rfl vL) (je_int) jE) (je_int) (jK _)) (jJL (jBQ op_lt (jU jV (jv 0 rfl vL) (je_un jE8 (je_int)) px_un) (jv 1 rfl vL) (jK _)))))))))))⟩
theorem jPN {fd:FuncData}(F:Fun K "is_lot" "is_lot" jCW f fd)(T:Txt mg)(CR:Can P w K mg base "is_rising" 2 fR fdR ["thing"] (spB risB)):FnOk P w K mg base CX0 3 f fd ["thing","many"] (spB2 lotB):=by
 refine F.ok scIsLot (fun vs H Q E h=>?_) (fun cdv A outer s H vs Q E hr h=>?_)
 ·obtain⟨_,_,_,rfl,_⟩:=h
  rfl
 ·obtain⟨v,o,w,rfl,hA,q⟩:=h
  refine⟨_,(jW1 T CR hr).2.h,?_⟩
  refine⟨_,rfl,v,o,rfl,hA,fun H1 e1=>⟨_,rfl,?_⟩⟩
  have eq:=jVP w o
  cases hR:risB o with
  | false=>
   refine iteT (qb (q H1 e1) ?_)
   rw[<- eq]
   unfold lotB'
   rw[hR]
   rfl
  | true=>
   refine iteF ?_
   have ht:isTup o=true:=by cases o <;> first | rfl | cases hR
   obtain⟨os,a,vs,rfl,rfl,ha,h100,hx⟩:=hA.tupOf ht
   have hl:=hx.len
   have hi:os.all isInt=true:=by
    have:(os.all isInt&&(adj (os.map val)).all id)=true:=hR
    rw[cg] at this
    exact this.1
   have hv:=hx.allInt hi
   have ha1:=e1 _ _ ha
   refine⟨_,rfl,a,_,rfl, .inr (SqT.of ha1),rfl,_,rfl,ite2 (fun hy=>?_) (fun hy=>?_)⟩
   ·have h0:=V.int.inj (az hy)
    have e0:os=[]:=eT.mp (by lia)
    refine qb (q H1 e1) ?_
    rw[<- eq]
    unfold lotB'
    rw[hR]
    simp [e0]
   ·have h0:0<vs.length:=Nat.pos_of_ne_zero fun h=>hy (ay (by rw[h]; rfl))
    have hml:(os.map val).length=vs.length:=by rw[ab,hl]
    refine⟨_,rfl,a,_,0, .int ((os.map val).getD 0 0),rfl,rfl,SqT.of ha1,?_,_,_,rfl,rfl,_,rfl,ite2 (fun hz=>?_) (fun hz=>?_)⟩
    ·rw[hv]
     exact qB (j:=0) (getI (by lia))
    ·refine⟨_,rfl,_,rfl,a,_,_, .int ((os.map val).getLastD 0),rfl,rfl,SqT.of ha1,?_,_,rfl,_,_,rfl,rfl,qb (q H1 e1) ?_⟩
     ·show atI vs (-1)=_
      refine jOV ?_
      rw[hv,ab,getI (by lia),fS,ek,ai]
     ·rw[<- eq]
      unfold lotB'
      rw[hR]
      have e0:¬ os=[]:=fun e=>by rw[e] at hl; have:vs.length=0:=hl; lia
      have hz:=az hz
      simp [e0]
      intro hh
      simpa using hz
    ·refine qb (q H1 e1) ?_
     rw[<- eq]
     unfold lotB'
     rw[hR]
     have e0:¬ os=[]:=fun e=>by rw[e] at hl; have:vs.length=0:=hl; lia
     have hz:¬ (0<=(os.map val).getD 0 0):=fun h=>hz (ay h)
     simp only [e0,decide_false,iZ,g7,aM hz,eS]
end
end Eo
namespace L2
open PySem
section
variable {P:Program}{w:World}{K:W.Frag}{mg:Str->Option Value}{base:Heap}{N:List Str}{qual:Str}{sc:Scope}{f:Addr}{cdv:Value}{A:Around}{outer:List Env}{s:Shared}{H:Hp}{E:XK}{x y z:Str}{p1 p2 p3 pos:Pos}{k i j l:Nat}
theorem jBB (hN:N.Nodup)(hi:N[i]?=some x)(hj:N[j]?=some y)(hx:sc.names.lookup x=some .local)(hy:sc.names.lookup y=some .local):
  JG (cxOf CX0 P w K mg base N qual sc f cdv A outer s H E).nox (.Tuple [.Name x p1, .Name y p2] k pos) (gTup K 2 (gCons (kU i) (gCons (kU j) gNil))):=
 jNG (X:=(cxOf CX0 P w K mg base N qual sc f cdv A outer s H E).nox) rfl (jBA (jN hN hi (loc_l hx)) (jBA (jN hN hj (loc_l hy)) jI3 jCP) jCP)
end
section
variable {K:W.Frag}{m:List (Option Nat)}{g:TG}{tt:TT}{te:TE}{σ:St}{H1:Hp}{Q:VK}
end
end L2
namespace Eo
open PySem L2
theorem jNY {α:Type}{l:List α}{i:Nat}{d:α}(h:i<l.length):l.getD i d=l[i]:=by
 rw[ai,ak h]
 rfl
theorem jC3 (l:List Int):(l.map V.int).all flatV=true:=by
 rw[bB]
 intro x hx
 obtain⟨i,_,rfl⟩:=aL.mp hx
 rfl
theorem jDC (i:Int)(l:List Int):inV (.int i) (l.map V.int)=decide (i∈l):=by
 unfold inV
 rw[bO,jc,bi]
 constructor
 ·rintro ⟨x,hx,e⟩
  obtain⟨j,hj,rfl⟩:=aL.mp hx
  have:j=i:=eq_of_beq e
  rw[<- this]
  exact hj
 ·intro h
  exact⟨.int i,aL.mpr ⟨i,h,rfl⟩,by simp [eqV]⟩
theorem jCB:∀ (ts:List Int) (lo w:Int),ts.Pairwise (· < ·)->(∀ z∈ts,lo<=z/\z<w)->(ts.length:Int)<=max (w - lo) 0
 | [],lo,w,_,_=>by show (0:Int)<=_; lia
 | a::r,lo,w,hp,hb=>by
  have h1:=hb a am
  have hp':=cG.mp hp
  have:=jCB r (a+1) w hp'.2 fun z hz=>⟨by have:=hp'.1 z hz; lia,(hb z (aj _ hz)).2⟩
  rw[aU]
  lia
def j4 (pcs:List (List Int×Int))(k:Int):List Int:=(pcs.getD k.toNat ([],0)).1
theorem PcsAt.get {H:Hp} :∀ {vs:List V}{ps:List (List Int×Int)},PcsAt H vs ps->∀ {k:Nat},k<ps.length->∃ v,vs[k]?=some v/\PcAt H v (ps.getD k ([],0))
 | v::vs,p::ps,h,0,_=>⟨v,rfl,h.1⟩
 | v::vs,p::ps,h,k+1,hk=>PcsAt.get h.2 (k:=k) (by simpa using hk)
 | [],[],_,k,hk=>absurd hk (eF _)
 | [],_::_,h,_,_=>h.elim
 | _::_,[],h,_,_=>h.elim
theorem Good.at {mt mp w:Int}{ms:List Int}{pcs:List (List Int×Int)}(g:Good mt mp w ms pcs){k:Nat}(hk:k<pcs.length):GoodPc w (pcs.getD k ([],0)):=by
 have e:pcs.getD k ([],0)=pcs[k]:=by simp [List.getD,hk]
 rw[e]
 exact g.pg _ (cM hk)
theorem jG1 {n i:Nat}(h:i<n):(upto n).take (i+1)=(upto n).take i++[(i:Int)]:=by
 unfold upto
 rw[<- i5,<- i5,List.take_range,List.take_range,show min (i+1) n=i+1 by lia,show min i n=i by lia,dO,aP]
 rfl
theorem y6 (n:Nat):(upto n).length=n:=by
 unfold upto
 rw[ab,bg]
theorem jB4 {n i:Nat}(h:i<n):(upto n)[i]?=some (i:Int):=by
 unfold upto
 rw[aA,bQ h]
 rfl
theorem jWC {H:Hp}{a:Addr}{vs:List V}{os:List Ob}(h:H a=some (.tup vs))(n:vs.length<=100)(r:Ats H os vs):At H (.tup os) (.ref a):=⟨a,vs,rfl,h,n,r⟩
theorem _root_.L2.Ext.tups {H H':Hp}(e:Ext H H'):Tups H H':=fun b xs h=>e b _ h
theorem PcsAt.at {H:Hp} :∀ {vs:List V}{ps:List (List Int×Int)},PcsAt H vs ps->∀ {i:Nat}{v:V},vs[i]?=some v->∃ pc,ps[i]?=some pc/\PcAt H v pc
 | [],[],_,i,v,e=>by cases e
 | x::vs,p::ps,h,0,v,e=>by cases e; exact⟨p,rfl,h.1⟩
 | x::vs,p::ps,h,i+1,v,e=>PcsAt.at h.2 (i:=i) e
 | [],_::_,h,_,_,_=>h.elim
 | _::_,[],h,_,_,_=>h.elim
theorem PcsAt.snoc {H:Hp}{v:V}{p:List Int×Int}(hv:PcAt H v p):∀ {vs:List V}{ps:List (List Int×Int)},PcsAt H vs ps->PcsAt H (vs++[v]) (ps++[p])
 | [],[],_=>⟨hv,trivial⟩
 | x::vs,q::ps,h=>⟨h.1,PcsAt.snoc hv h.2⟩
 | [],_::_,h=>h.elim
 | _::_,[],h=>h.elim
def fitS (ds:List Int)(pc:List Int×Int):Bool:=!pc.1.any fun t=>decide (t∈ds)
theorem Good.wide {mt mp w mt' mp':Int}{ms:List Int}{pcs:List (List Int×Int)}(g:Good mt mp w ms pcs)(h1:mt<=mt')(h2:mp<=mp'):Good mt' mp' w ms pcs:=⟨g.w0,dj g.w1 h1,g.mr,dj g.pl h2,g.pg⟩
theorem jMK (n:Nat):∀ (ds:List Int),ds.Nodup->(∀ t∈ds,0<=t/\t<(n:Int))->ds.length<=n:=by
 intro ds h1 h2
 have h3:(ds.map Int.toNat).Nodup:=by
  rw[List.Nodup,bA]
  refine i6 (R:=(· ≠ ·)) (fun {a b} ha hb hne e=>hne ?_) h1
  have:=h2 a ha
  have:=h2 b hb
  lia
 have h4:(ds.map Int.toNat).length<=(List.range n).length:=h3.length_le_of_subset fun x hx=>by
  obtain⟨t,ht,rfl⟩:=aL.mp hx
  have:=h2 t ht
  exact br.mpr (by lia)
 rw[ab,bg] at h4
 exact h4
theorem iteN {A B:Prop}{c:Bool}(hc:c=false)(h:B):if c=true then A else B:=by
 rw[hc]
 exact iteF h
abbrev leI:Int->Int->Bool:=fun a b=>decide (a<=b)
def srt (l:List Int):List Int:=l.mergeSort leI
theorem jAF (l:List Int):(srt l).Perm l:=List.mergeSort_perm _ _
theorem jLK (l:List Int):(srt l).Pairwise (· <= ·):=by
 have:=List.pairwise_mergeSort (le:=leI) (fun a b c h1 h2=>ay (dj (az h1) (az h2))) (fun a b=>by
  rw[jx]
  rcases Int.le_total a b with h | h
  ·exact .inl (ay h)
  ·exact .inr (ay h)) l
 exact this.imp fun h=>az h
theorem jLL {l m:List Int}(h1:m.Pairwise (· <= ·))(h2:m.Perm l):m=srt l:=
 List.Perm.eq_of_pairwise (fun a b _ _ h1 h2=>Int.le_antisymm h1 h2) h1 (jLK l) (h2.trans (jAF l).symm)
theorem jR6 {l:List Int}(h:l.Pairwise (· <= ·)):srt l=l:=(jLL h (.refl _)).symm
theorem jLV {a b:List Int}(ra:a.Pairwise (· < ·))(rb:b.Pairwise (· < ·))(h:∀ x,x∈a↔x∈b):a=b:=by
 have na:a.Nodup:=ra.imp fun {a b} h=>by lia
 have nb:b.Nodup:=rb.imp fun {a b} h=>by lia
 have pm:a.Perm b:=(fw na nb).mpr h
 rw[jLL (ra.imp fun {a b} h=>by lia) pm,jR6 (rb.imp fun {a b} h=>by lia)]
def plcs (ts lot:List Int):List Int:=(lot.filter fun t=>decide (t∈ts)).map fun t=>((ts.idxOf t:Nat):Int)
def nmd (ts lot:List Int):List Int:=srt (plcs ts lot)
def pick (ts:List Int)(pcs:List (List Int×Int))(ks:List Int):List (List Int×Int):=ks.map fun k=>(nmd ts (j4 pcs k),(pcs.getD k.toNat ([],0)).2)
theorem jHZ {n:Int}{ks:List Int}(h:ks.Pairwise (· < ·))(hb:∀ k∈ks,0<=k/\k<n):lotB n (.tup (ks.map Ob.int))=true:=by
 have hv:(ks.map Ob.int).map val=ks:=by rw[ba]; exact dU _
 show ((ks.map Ob.int).all (upB 0 (n - 1))&&(adj ((ks.map Ob.int).map val)).all id)=true
 rw[hv,cg,bB,bB]
 refine⟨fun x hx=>?_,fun x hx=>?_⟩
 ·obtain⟨k,hk,rfl⟩:=aL.mp hx
  have:=hb k hk
  show (decide (0<=k)&&decide (k<=n - 1))=true
  rw[ay (by lia),ay (by lia)]
  rfl
 ·unfold adj at hx
  obtain⟨i,hi,rfl⟩:=aL.mp hx
  have hi:=br.mp hi
  refine ay ?_
  rw[jNY (by lia),jNY (by lia)]
  exact bW.mp h i (i+1) (by lia) (by lia) (by lia)
def lftT (w:Int)(held:List Int):List Int:=(upto w.toNat).filter fun t=>!decide (t∈held)
def lftP (pcs:List (List Int×Int))(ts:List Int):List Int:=(upto pcs.length).filter fun k=>(j4 pcs k).all fun t=>decide (t∈ts)
theorem jO5 {α:Type}{p:α->Bool}{l:List α}{i:Nat}{x:α}(h:l[i]?=some x):(l.take (i+1)).filter p=(l.take i).filter p++(if p x=true then [x] else []):=by
 rw[bf,h,bV]
 congr 1
 rw[Option.toList,dW]
 split <;> rfl
theorem jK1 (n:Nat):(upto n).Nodup:=(kO n).ris.imp fun h=>by lia
theorem jFG {w:Int}{ts:List Int}(h:ts.Pairwise (· < ·))(b:∀ z∈ts,0<=z/\z<w)(hw:w<=16):ts.length<=16:=by
 have:=jCB ts 0 w h b
 lia
theorem jK6 {w:Int}{ms:List Int}{pcs:List (List Int×Int)}(g:Good 16 32 w ms pcs){k:Int}(h0:0<=k)(h1:k<pcs.length):(j4 pcs k).length<=16:=by
 have:=g.at (k:=k.toNat) (by lia)
 exact jFG this.lot.ris this.lot.bnd g.w1
theorem jTL {K:W.Frag}{m:List (Option Nat)}{σ:St}{H:Hp}{Q:VK}{q t:Addr}{tp:Bool}{lot ts:List Int}(hq:H q=some (.tup (lot.map V.int)))(ht:AtS tp H t (ts.map V.int))(hl:lot.length<=1000)(h0:blkσ m σ=[none,some (.ref t)])
  (k:∀ D H',H' D=some (.lst ((lot.map fun x=>decide (x∈ts)).map V.bl))->Ext H H'->H D=none->Q (.ref D) H'):qO m (kU 0) yQ (tOp (rIn K false) (tVar 0) (tVar 1)) σ Q (Itt K q) H:=by
 refine jDD (xs:=lot.map V.int) (by rw[ab,aJ]; lia) (fun D j σ' H' zs=>(∃ v,σ'=[v,some (.ref t)])/\Ext H H'/\H' D=some (.lst zs)/\H D=none/\zs=((lot.take j).map fun x=>decide (x∈ts)).map V.bl) ?_ ?_ ?_ ?_
 ·intro D hD
  exact⟨⟨_,h0⟩,(Ext.refl _).new hD _,j6,hD,rfl⟩
 ·rintro D j σ' H' zs hD ⟨_,e,h2,_,rfl⟩
  refine⟨e _ _ hq,h2,?_⟩
  rw[ab,ab]
  exact bY _ _
 ·rintro D j σ' H' zs x hD hx ⟨⟨v,rfl⟩,e,h2,hn,rfl⟩
  obtain⟨z,hz,rfl⟩:∃ z:Int,lot[j]?=some z/\V.int z=x:=by
   rw[aA] at hx
   cases hq:lot[j]? with
   | none=>rw[hq] at hx; cases hx
   | some z=>rw[hq] at hx; cases hx; exact⟨z,rfl,rfl⟩
  dsimp only [kU,yQ]
  rw[ah rfl]
  refine⟨_,rfl,_,rfl,t,_,rfl,(ht.ext e).or,rfl,jC3 _,h2,⟨_,rfl⟩,e.updNew hn _,j6,hn,?_⟩
  have:lot.take (j+1)=lot.take j++[z]:=by
   rw[bf,hz]
   rfl
  rw[this,aP,aP]
  show _++[V.bl (inV (.int z) (ts.map V.int))]=_
  rw[jDC]
  rfl
 ·rintro D σ' H' zs hD ⟨_,e,h2,hn,rfl⟩
  rw[ab,bG] at h2
  exact k D H' h2 e hn
theorem jWD {lot:List Int}{p:Int->Bool} :(lot.map p).any id=lot.any p:=by rw[List.any_map]; rfl
theorem jJE {pcs:List (List Int×Int)}{ts:List Int} :∀ k∈lftP pcs ts,0<=k/\k<pcs.length:=fun k hk=>(kO pcs.length).bnd k (aQ.mp hk).1
theorem jPY (pcs:List (List Int×Int))(ts:List Int):(lftP pcs ts).length<=pcs.length:=by
 have:=bJ (fun k=>(j4 pcs k).all fun t=>decide (t∈ts)) (upto pcs.length)
 rw[y6] at this
 exact this
theorem jRK {ts:List Int}(h:ts.Pairwise (· < ·)){a b:Int}(ha:a∈ts)(hb:b∈ts)(hab:a<b):ts.idxOf a<ts.idxOf b:=by
 have ia:=cn.mpr ha
 have ib:=cn.mpr hb
 have ea:=iM ia
 have eb:=iM ib
 rcases gy (ts.idxOf a) (ts.idxOf b) with q | q | q
 ·exact q
 ·exfalso
  have e2:ts[ts.idxOf a]=ts[ts.idxOf b]:=by congr 1
  lia
 ·exfalso
  have:=bW.mp h _ _ ib ia q
  lia
theorem jJ1 {ts lot:List Int}(h:ts.Pairwise (· < ·))(hl:lot.Pairwise (· < ·)):(plcs ts lot).Pairwise (· < ·):=by
 unfold plcs
 rw[bA]
 refine i6 (R:=fun a b=>a<b) (fun {a b} ha hb hab=>?_) (hl.sublist cS)
 have:=jRK h (az (aQ.mp ha).2) (az (aQ.mp hb).2) hab
 lia
theorem jFC {ts lot:List Int}(h:ts.Pairwise (· < ·))(hl:lot.Pairwise (· < ·)):nmd ts lot=plcs ts lot:=jR6 ((jJ1 h hl).imp fun h=>by lia)
theorem jJ2 {ts lot:List Int}(h:∀ t∈lot,t∈ts):plcs ts lot=lot.map fun t=>((ts.idxOf t:Nat):Int):=by
 unfold plcs
 rw[List.filter_eq_self.mpr fun t ht=>ay (h t ht)]
theorem jJD (w:Int)(held:List Int):(lftT w held).Pairwise (· < ·):=(kO _).ris.sublist cS
theorem jPX (pcs:List (List Int×Int))(ts:List Int):(lftP pcs ts).Pairwise (· < ·):=(kO _).ris.sublist cS
theorem mem_upto {n:Nat}{t:Int} :t∈upto n↔0<=t/\t<n:=by
 constructor
 ·exact fun h=>(kO n).bnd t h
 ·intro h
  unfold upto
  exact aL.mpr ⟨t.toNat,br.mpr (by lia),by lia⟩
theorem jAG {w:Int}{held:List Int}{t:Int}(w0:0<=w):t∈lftT w held↔(0<=t/\t<w)/\t∉held:=by
 unfold lftT
 rw[aQ,mem_upto,cC,b9]
 constructor
 ·rintro ⟨h1,h2⟩
  exact⟨by lia,h2⟩
 ·rintro ⟨h1,h2⟩
  exact⟨by lia,h2⟩
theorem jPZ {w:Int}{ms:List Int}{pcs:List (List Int×Int)}(g:Good 16 32 w ms pcs)(held:List Int){k:Int}(h0:0<=k)(h1:k<pcs.length):((j4 pcs k).all fun t=>decide (t∈lftT w held))=fitS held (pcs.getD k.toNat ([],0)):=by
 have gp:=g.at (k:=k.toNat) (by lia)
 unfold fitS j4
 rw[bO,bB,cC,List.any_eq_false]
 refine g8 fun t=>g8 fun ht=>?_
 rw[bi,bi,jAG g.w0]
 exact⟨fun h=>h.2,fun h=>⟨gp.lot.bnd t ht,h⟩⟩
theorem jA7 {ts:List Int}{t:Int}(h:t∈ts):ts[ts.idxOf t]?=some t/\∀ m,m<ts.idxOf t->ts[m]?≠some t:=by
 have hi:=cn.mpr h
 refine⟨by rw[ak hi,iM],fun m hm e=>?_⟩
 have hm':m<ts.length:=by lia
 rw[ak hm'] at e
 have:=List.not_of_lt_findIdx (p:=(· ==t)) (xs:=ts) (i:=m) (by unfold List.idxOf at hm; exact hm)
 rw[bo e] at this
 simp at this
noncomputable abbrev nMask:List Str:=["lot"]
theorem scMask:FnScope nMask ["lot"] (j9 sMask):= {}
def jBI:Sp:=fun vs H Q _=>∃ (q:Addr) (ts:List Int),vs=[.ref q]/\H q=some (.tup (ts.map V.int))/\(∀ t∈ts,0<=t/\t<64)/\ts.length<=64/\∀ H',Ext H H'->Q (.int ((maskN ts:Nat):Int)) H'
def maskA (T:Txt mg): { t:TS // JSs (XOf nMask "mask_of" sMask P w K mg base f cdv A outer s H0 E) (jD sMask) t} :=
 have nd:=scMask.nd
 ⟨_,(jC (jQ (jG (jC6 rfl) gD T.sum (by decide+kernel) (j3 (kN (m:=[none]) (Nc:=["thing"]) rfl (jBJ (jv 0 rfl vL)) rfl (by decide+kernel) (by decide+kernel) (jW (psc:=j9 sMask)) (jH (N:=nMask) rfl rfl (by decide+kernel)) (fun cl C fp s H=>jN (i:=0) (show (["thing"]:List Str).Nodup by decide+kernel) rfl yW) (fun cl C fp s H=>y4) (fun cl C fp s H=>(jY jGG (je_int) (jv 0 rfl jO))) yD) j7 jJ) jJ)))⟩
theorem jKG (ts:List Int)(h:∀ t∈ts,0<=t):(ts.map fun t=>(1:Int)*2 ^ t.toNat).sum=((maskN ts:Nat):Int):=by
 induction ts with
 | nil=>rfl
 | cons t r ih=>
  have e:maskN (t::r)=2 ^ t.toNat+maskN r:=by simp [maskN]
  rw[aY,b6,ih fun x hx=>h x (aj _ hx),e]
  push_cast
  lia
theorem jT2 {fd:FuncData}(F:Fun K "mask_of" "mask_of" sMask f fd)(T:Txt mg):FnOk P w K mg base CX0 1 f fd ["lot"] jBI:=by
 refine F.ok scMask (fun vs H Q E h=>?_) (fun cdv A outer s H vs Q E hr h=>?_)
 ·obtain⟨_,_,rfl,_⟩:=h
  rfl
 ·obtain⟨q,ts,rfl,hq,hb,hl,k⟩:=h
  refine⟨_,(maskA T).2.h,?_⟩
  refine⟨_,rfl,q,rfl,⟨_,SqT.of hq⟩,jDD (xs:=ts.map V.int) (by rw[ab,aJ]; lia) (fun D i σ' H' zs=>(∃ v,σ'=[v])/\Ext H H'/\H' D=some (.lst zs)/\H D=none/\zs=((ts.take i).map fun t=>(1:Int)*2 ^ t.toNat).map V.int) ?_ ?_ ?_ ?_⟩
  ·intro D hD
   exact⟨⟨_,rfl⟩,(Ext.refl _).new hD _,j6,hD,rfl⟩
  ·rintro D i σ' H' zs hD ⟨_,e,h2,_,rfl⟩
   refine⟨e _ _ hq,h2,?_⟩
   rw[ab,ab,bE]
   lia
  ·rintro D i σ' H' zs x hD hx ⟨⟨v,rfl⟩,e,h2,hn,rfl⟩
   obtain⟨z,hz,rfl⟩:∃ z:Int,ts[i]?=some z/\V.int z=x:=by
    rw[aA] at hx
    cases hq:ts[i]? with
    | none=>rw[hq] at hx; cases hx
    | some z=>rw[hq] at hx; cases hx; exact⟨z,rfl,rfl⟩
   have hzb:=hb z (aH hz)
   dsimp only [kU,yQ]
   rw[ah rfl]
   refine⟨_,rfl,_,_,rfl,rfl,⟨?_,?_,?_⟩,h2,⟨_,rfl⟩,e.updNew hn _,j6,hn,?_⟩
   ·first | lia | decide
   ·first | lia | decide
   ·first | lia | decide
   ·have:ts.take (i+1)=ts.take i++[z]:=by
     rw[bf,hz]
     rfl
    rw[this,aP,aP]
    rfl
  ·rintro D σ' H' zs hD ⟨_,e,h2,hn,rfl⟩
   refine⟨D,_,rfl,SqL.of h2,?_⟩
   rw[ab,bG,jKG ts fun t ht=>(hb t ht).1]
   exact k H' e
end Eo
namespace L2
open PySem
theorem jGO {X:Cx}{a b c:Expr}{pos:Pos}{ta tb:TE}{tc:TT}(hc:JT X c tc)(ha:JE X a ta)(hb:JE X b tb):JE X (.IfExp c a b pos) (tIf tc ta tb):=⟨jPI hc.h ha.h hb.h⟩
theorem jUK {a b c:Expr}{pos:Pos}{o:Option Expr} :SwOk (.IfExp c a b pos) o:=⟨fun _ _=>rfl⟩
end L2
namespace Eo
open PySem L2
def PrAt (H:Hp)(v:V)(c:Int×Nat):Prop:=∃ q,v= .ref q/\H q=some (.tup [.int c.1, .int ((c.2:Nat):Int)])
theorem PrAt.mono {H H':Hp}(t:Tups H H'){v:V}{c:Int×Nat}(h:PrAt H v c):PrAt H' v c:=let ⟨q,e,z⟩:=h; ⟨q,e,t _ _ z⟩
def RowAt (H:Hp)(l:Addr)(cs:List (Int×Nat)):Prop:=∃ vs,H l=some (.lst vs)/\All2 (PrAt H) vs cs
structure ChAt (H:Hp)(L:Addr)(ch:Ch):Prop where
 ex:∃ ls:List Addr,H L=some (.lst (ls.map V.ref))/\ls.Nodup/\All2 (RowAt H) ls ch
theorem RowAt.keep {H H':Hp}{l:Addr}{cs:List (Int×Nat)}(h:RowAt H l cs)(k:∀ xs,H l=some (.lst xs)->H' l=some (.lst xs))(t:Tups H H'):RowAt H' l cs:=let ⟨vs,a,b⟩:=h; ⟨vs,k _ a,b.imp fun _ _=>PrAt.mono t⟩
theorem ChAt.keep {H H':Hp}{L:Addr}{ch:Ch}(h:ChAt H L ch)(k:∀ b xs,H b=some (.lst xs)->H' b=some (.lst xs))(t:Tups H H'):ChAt H' L ch:=by
 obtain⟨ls,a,b,c⟩:=h.ex
 exact⟨ls,k _ _ a,b,c.imp fun l cs r=>r.keep (k l) t⟩
theorem ChAt.ext {H H':Hp}{L:Addr}{ch:Ch}(h:ChAt H L ch)(e:Ext H H'):ChAt H' L ch:=h.keep (fun b xs z=>e _ _ z) e.tups
theorem ChAt.len {H:Hp}{L:Addr}{ch:Ch}(h:ChAt H L ch):∃ ls:List Addr,H L=some (.lst (ls.map V.ref))/\ls.length=ch.length:=by
 obtain⟨ls,a,b,c⟩:=h.ex
 exact⟨ls,a,c.len⟩
def yG (ms:List Int)(pcs:List (List Int×Int))(n t:Nat):List (Int×Nat):=
 (if (t:Int)∈ms then [(-1,2 ^ t)] else [])++(((upto pcs.length).take n).filter fun k=>decide ((j4 pcs k).headD 0=(t:Int))).map fun k=>(k,maskN (j4 pcs k))
def chsN (w:Nat)(ms:List Int)(pcs:List (List Int×Int))(n:Nat):Ch:=(List.range w).map (yG ms pcs n)
def chs (w:Nat)(ms:List Int)(pcs:List (List Int×Int)):Ch:=chsN w ms pcs pcs.length
theorem kQ (w:Nat)(ms:List Int)(pcs:List (List Int×Int))(n:Nat):(chsN w ms pcs n).length=w:=by
 unfold chsN
 rw[ab,bg]
theorem yB {w:Nat}{ms:List Int}{pcs:List (List Int×Int)}{n t:Nat}(h:t<w):(chsN w ms pcs n)[t]?=some (yG ms pcs n t):=by
 unfold chsN
 rw[aA,bQ h]
 rfl
theorem jD0 {ts:List Int}{t:Nat}(hp:ts.Pairwise (· < ·))(h0:∀ x∈ts,0<=x)(h:(t:Int)∈ts):(maskN ts).testBit t=true:=by
 rw[jAM ts t hp h0,ay h]
theorem jDP {ts:List Int}{w:Nat}(hp:ts.Pairwise (· < ·))(h0:∀ x∈ts,0<=x/\x<(w:Int)):maskN ts<2 ^ w:=by
 refine Nat.lt_pow_two_of_testBit _ fun i hi=>?_
 rw[jAM ts i hp fun x hx=>(h0 x hx).1,aM]
 intro z
 have:=(h0 _ z).2
 lia
theorem jFL {l:List Int}(h:l≠ []):l.headD 0∈l:=by
 cases l with
 | nil=>exact absurd rfl h
 | cons a r=>exact am ..
theorem qA {w:Int}{ms:List Int}{pcs:List (List Int×Int)}{n:Nat}(g:Good 16 32 w ms pcs):ChOk (chsN w.toNat ms pcs n):=by
 have w0:=g.w0
 have w1:=g.w1
 have gpl:=g.pl
 refine⟨by rw[kQ]; lia,fun t cs h=>?_,fun t cs h c hc=>?_⟩
 ·have ht:t<w.toNat:=by
   have:=(ax.mp h).1
   rwa [kQ] at this
  rw[yB ht] at h
  cases h
  unfold yG
  rw[aC,ab]
  have:=bJ (fun k=>decide ((j4 pcs k).headD 0=(t:Int))) ((upto pcs.length).take n)
  have:=bY n (upto pcs.length)
  have:=y6 pcs.length
  have:((upto pcs.length).take n).length<=(upto pcs.length).length:=by rw[bE]; lia
  split <;> simp only [aU,dq] <;> lia
 ·have ht:t<w.toNat:=by
   have:=(ax.mp h).1
   rwa [kQ] at this
  rw[yB ht] at h
  cases h
  unfold yG at hc
  rw[kQ]
  rcases aR.mp hc with hc | hc
  ·split at hc
   ·rw[aE] at hc
    subst hc
    exact⟨by simp [cR],kq (by decide) ht,by show (-1:Int)<= -1; decide,by show (-1:Int)<32; decide⟩
   ·cases hc
  ·obtain⟨k,hk,rfl⟩:=aL.mp hc
   obtain⟨hk1,hk2⟩:=aQ.mp hk
   have kb:=(kO pcs.length).bnd k (b0 hk1)
   have gp:=g.at (k:=k.toNat) (by lia)
   have hk2:=az hk2
   have hne:j4 pcs k≠ []:=gp.lot.ne
   have hm:(t:Int)∈j4 pcs k:=by
    rw[<- hk2]
    exact jFL hne
   exact⟨jD0 gp.lot.ris (fun x hx=>(gp.lot.bnd x hx).1) hm,jDP gp.lot.ris fun x hx=>⟨(gp.lot.bnd x hx).1,by have:=(gp.lot.bnd x hx).2; lia⟩,by lia,by lia⟩
abbrev jB6:List Str:=["box","choices","number","piece"]
theorem scChoices:FnScope jB6 ["box"] (j9 yA):= {}
def kW:Sp:=fun vs H Q _=>∃ (b:Addr) (w:Int) (ms:List Int) (pcs:List (List Int×Int)),vs=[.ref b]/\BoxAt H b w ms pcs/\Good 16 32 w ms pcs/\∀ r H',ChAt H' r (chs w.toNat ms pcs)->Ext H H'->Q (.ref r) H'
def jTZ (T:Txt mg)(CM:Can P w K mg base "mask_of" 1 fM fdM ["lot"] jBI)(hr:Room 1 (XOf jB6 "choices_of" yA P w K mg base f cdv A outer s H0 E).A): { t:TS // JSs (XOf jB6 "choices_of" yA P w K mg base f cdv A outer s H0 E) (yO ((jD yA).getD 1 (.Pass ⟨0,0,0,0⟩))) t} :=
 have nd:=scChoices.nd
 ⟨_,(jC (jFJ (je_bm cD gb gc jBZ (jU yZ (jv 1 rfl vL) (jU jV (jU jV (jv 3 rfl vL) (je_int) jE) (je_int) jE) jUQ) (j3 (yX (j3 (jv 2 rfl vL) (j3 (CM.je hr gD (j3 (jU jV (jv 3 rfl vL) (je_int) jE) j7 kG) kG) j7 jF) j5)) j7 jCS) jCS) kJ))⟩
def jQP (T:Txt mg)(CM:Can P w K mg base "mask_of" 1 fM fdM ["lot"] jBI)(hr:Room 1 (XOf jB6 "choices_of" yA P w K mg base f cdv A outer s H0 E).A): { t:TS // JSs (XOf jB6 "choices_of" yA P w K mg base f cdv A outer s H0 E) (jD yA) t} :=
 have nd:=scChoices.nd
 ⟨_,(jB (jI2 (i:=1) nd rfl lL ⟨by rfl⟩ (m:=[none,some 0]) (Nc:=["thing","box"]) rfl (jA6 gD T.range (j3 (jU jV (jv 0 rfl vC) (je_int) jE) j7 kG) kG) rfl (by decide+kernel) (by decide+kernel) (jW (psc:=j9 yA)) (jH (N:=jB6) rfl rfl (by decide+kernel)) (fun cl C fp s H=>jN (i:=0) (show (["thing","box"]:List Str).Nodup by decide+kernel) rfl yW) (fun cl C fp s H=>y4) (fun cl C fp s H=>(jGO (jI jMF (jv 0 rfl jO) (jU jBC (jv 1 rfl yI) (je_int) jE) jVL) (yY (j3 (yX (j3 (je_un jE8 (je_int)) (j3 (jY jGG (je_int) (jv 0 rfl jO)) j7 yN) se_un)) j7 jCS)) (yY j7))) kS) (jB (yP bP rfl (jNF gD T.enumerate (j3 (jU jV (jv 0 rfl vC) (je_int) jE) j7 kG) kG) (jBB (i:=2) (j:=3) nd rfl rfl (by decide+kernel) (by decide+kernel)) (jTZ T CM hr).2 kS) (jC (jQ (jv 1 rfl vL)))))⟩
noncomputable abbrev nFull:List Str:=["choices"]
theorem scFull:FnScope nFull ["choices"] (j9 sFull):= {}
def jCQ:Sp:=fun vs H Q _=>∃ (L:Addr) (ch:Ch),vs=[.ref L]/\ChAt H L ch/\ch.length<=16/\Q (.int ((fullN ch:Nat):Int)) H
def fullA (T:Txt mg): { t:TS // JSs (XOf nFull "full_mask" sFull P w K mg base f cdv A outer s H0 E) (jD sFull) t} :=
 have nd:=scFull.nd
 ⟨_,(jC (jQ (jY jBY (jY jGG (je_int) (jG jS gD T.len (by decide+kernel) (j3 (jv 0 rfl vL) j7 j5) j5)) (je_int))))⟩
noncomputable abbrev nAt:List Str:=["choices","mask","least_lacked"]
theorem scAt:FnScope nAt ["choices","mask"] (j9 sAt):= {}
def spAt:Sp:=fun vs H Q _=>∃ (L:Addr) (ch:Ch) (m:Nat),vs=[.ref L, .int (m:Int)]/\ChAt H L ch/\ChOk ch/\m<2 ^ ch.length/\m≠fullN ch/\∀ r H',RowAt H' r (chAt ch m)->Ext H H'->H r=none->Q (.ref r) H'
def atA (T:Txt mg): { t:TS // JSs (XOf nAt "choices_at" sAt P w K mg base f cdv A outer s H0 E) (jD sAt) t} :=
 have nd:=scAt.nd
 ⟨_,(jB (jP (i:=2) nd rfl lL (jY jBY (jNK jt iw ix jMV (jY jEI (je_un jQY (jv 1 rfl vC)) (jY y0 (jv 1 rfl vC) (je_int)))) (je_int)) jE9)
   (jC (jQ (kN (m:=[none,some 1]) (Nc:=["choice","mask"]) rfl (yC (jU yZ (jv 0 rfl vL) (jv 2 rfl vL) jCE)) rfl (by decide+kernel) (by decide+kernel) (jW (psc:=j9 sAt)) (jH (N:=nAt) rfl rfl (by decide+kernel)) (fun cl C fp s H=>jN (i:=0) (show (["choice","mask"]:List Str).Nodup by decide+kernel) rfl yW) (fun cl C fp s H=>jAZ (jI qG (jY jEI (jU jBC (jv 0 rfl jO) (je_int) jE) (jv 1 rfl yI)) (je_int) (jK _))) (fun cl C fp s H=>(jv 0 rfl jO)) jGV))))⟩
theorem jEN (ms:List Int)(pcs:List (List Int×Int))(t:Nat):yG ms pcs 0 t=if (t:Int)∈ms then [(-1,2 ^ t)] else []:=by
 unfold yG
 rw[kx]
 simp
theorem jOI {w n:Nat}{ms:List Int}{pcs:List (List Int×Int)}(hn:n<pcs.length)(t:Nat)(ht:(j4 pcs (n:Int)).headD 0=(t:Int)):chsN w ms pcs (n+1)=(chsN w ms pcs n).set t (yG ms pcs n t++[((n:Int),maskN (j4 pcs n))]):=by
 have key:∀ u,yG ms pcs (n+1) u=yG ms pcs n u++if u=t then [((n:Int),maskN (j4 pcs n))] else []:=fun u=>by
  unfold yG
  rw[jG1 hn,bV,aP,be]
  congr 2
  rw[dW,ht]
  by_cases hu:u=t
  ·subst hu
   rw[ah (ay rfl),ah rfl]
   rfl
  ·rw[ae (by rw[bi]; lia),ae hu]
   rfl
 refine eL fun i=>?_
 rw[gJ,kQ]
 by_cases hi:i<w
 ·rw[yB hi,yB hi,key]
  by_cases h:t=i
  ·subst h
   rw[ah rfl,ah rfl,ah hi]
  ·rw[ae h,ae (fun z=>h z.symm),bq]
 ·rw[bI (by rw[kQ]; lia),bI (by rw[kQ]; lia)]
  split
  ·rw[ae (by lia)]
  ·rfl
theorem ChAt.app {H:Hp}{L:Addr}{ch:Ch}{t:Nat}{l:Addr}{ls:List Addr}{vs:List V}{cs:List (Int×Nat)}{v:V}{c:Int×Nat}(hL:H L=some (.lst (ls.map V.ref)))(nd:ls.Nodup)(al:All2 (RowAt H) ls ch)(hl:ls[t]?=some l)(hc:ch[t]?=some cs)(hv:H l=some (.lst vs))(av:All2 (PrAt H) vs cs)(pv:PrAt H v c)(ne:l≠L):
  (L2.upd H l (.lst (vs++[v]))) L=some (.lst (ls.map V.ref))/\All2 (RowAt (L2.upd H l (.lst (vs++[v])))) ls (ch.set t (cs++[c])):=by
 have tu:Tups H (L2.upd H l (.lst (vs++[v]))):=Tups.upd hv _
 refine⟨by rw[j8 ne.symm]; exact hL,?_⟩
 refine All2.of_get (by rw[List.length_set]; exact al.len) fun i a b h1 h2=>?_
 rw[gJ] at h2
 by_cases hi:t=i
 ·subst hi
  rw[ah rfl,ah (ax.mp hc).1] at h2
  cases h2
  rw[hl] at h1
  cases h1
  exact⟨_,j6,(av.imp fun _ _=>PrAt.mono tu).snoc (pv.mono tu)⟩
 ·rw[ae hi] at h2
  obtain⟨b',hb',r⟩:=al.get' h1
  rw[h2] at hb'
  cases hb'
  refine r.keep (fun xs hx=>?_) tu
  rw[j8 fun z=>hi ?_]
  ·exact hx
  ·exact(gK (ax.mp hl).1 nd).mp (by rw[hl,h1,z])
theorem jKE {fd:FuncData}(F:Fun K "choices_of" "choices_of" yA f fd)(T:Txt mg)(CM:Can P w K mg base "mask_of" 1 fM fdM ["lot"] jBI):FnOk P w K mg base CX0 2 f fd ["box"] kW:=by
 refine F.ok scChoices (fun vs H Q E h=>?_) (fun cdv A outer s H vs Q E hr h=>?_)
 ·obtain⟨_,_,_,_,rfl,_⟩:=h
  rfl
 ·obtain⟨b,w,ms,pcs,rfl,hB,g,q⟩:=h
  refine⟨_,(jQP T CM hr).2.h,?_⟩
  obtain⟨qm,qp,ps,b1,b2,b3,b4⟩:=id hB.ex
  have pl:=b4.len
  have w0:=g.w0
  have w1:=g.w1
  have gpl:=g.pl
  refine⟨_,rfl,b,_,0,_,rfl,rfl,SqT.of b1,rfl,w,rfl,by lia,by lia,jBF (n:=w.toNat) (by rw[aJ]; lia) (fun D i σ' H' zs=>(∃ v,σ'=[v,some (.ref b)])/\Ext H H'/\H' D=some (.lst zs)/\H D=none/\∃ ls:List Addr,zs=ls.map V.ref/\ls.Nodup/\D∉ls/\(∀ a∈ls,H a=none)/\All2 (RowAt H') ls ((List.range i).map (yG ms pcs 0))) ?_ ?_ ?_ ?_⟩
  ·intro D hD
   exact⟨⟨_,rfl⟩,(Ext.refl _).new hD _,j6,hD,[],rfl,fo,by simp,by simp,trivial⟩
  ·rintro D i σ' H' zs hD hi ⟨_,e,h2,_,ls,rfl,_,_,_,al⟩
   refine⟨h2,?_⟩
   rw[ab,al.len,ab,bg]
   lia
  ·rintro D i σ' H' zs hD hi ⟨⟨v,rfl⟩,e,h2,hn,ls,rfl,nd,hDl,nol,al⟩
   dsimp only [kU,yQ]
   rw[ah rfl]
   have e0:(0+(i:Int))=(i:Int):=by lia
   have key:∀ (l:Addr) (H2:Hp),Ext H' H2->H' l=none->RowAt H2 l (yG ms pcs 0 i)->H2 D=some (.lst (ls.map V.ref))/\((∃ v,[some (V.int (i:Int)),some (.ref b)]=[v,some (.ref b)])/\Ext H (L2.upd H2 D (.lst (ls.map V.ref++[.ref l])))/\(L2.upd H2 D (.lst (ls.map V.ref++[.ref l]))) D=some (.lst (ls.map V.ref++[.ref l]))/\H D=none/\∃ ls':List Addr,ls.map V.ref++[.ref l]=ls'.map V.ref/\ls'.Nodup/\D∉ls'/\(∀ a∈ls',H a=none)/\All2 (RowAt (L2.upd H2 D (.lst (ls.map V.ref++[.ref l])))) ls' ((List.range (i+1)).map (yG ms pcs 0))):=fun l H2 e2 nl rl=>by
    have hD2:=e2 _ _ h2
    have lD:l≠D:=fun z=>by rw[z,h2] at nl; cases nl
    have tu:Tups H2 (L2.upd H2 D (.lst (ls.map V.ref++[.ref l]))):=Tups.upd hD2 _
    have kp:∀ a xs,a≠D->H2 a=some (.lst xs)->(L2.upd H2 D (.lst (ls.map V.ref++[.ref l]))) a=some (.lst xs):=fun a xs ha h=>by rw[j8 ha]; exact h
    refine⟨hD2,⟨_,rfl⟩,(e.trans e2).updNew hn _,j6,hn,ls++[l],by rw[aP]; rfl,?_,?_,?_,?_⟩
    ·rw[iT]
     refine⟨nd,by simp,fun a ha b hb z=>?_⟩
     rw[aE] at hb
     subst hb z
     obtain⟨j,hj⟩:=bR ha
     obtain⟨cs,_,vs,r,_⟩:=al.get' hj
     rw[nl] at r
     cases r
    ·rw[aR,aE]
     rintro (z | z)
     ·exact hDl z
     ·exact lD z.symm
    ·intro a ha
     rcases aR.mp ha with z | z
     ·exact nol a z
     ·rw[aE] at z
      subst z
      cases y:H a with
      | none=>rfl
      | some o=>rw[e _ _ y] at nl; cases nl
    ·rw[dO,aP]
     refine(All2.of_get al.len fun j a c h1 h2'=>?_).snoc (rl.keep (fun xs=>kp l xs lD) tu)
     obtain⟨c',hc',r⟩:=al.get' h1
     rw[h2'] at hc'
     cases hc'
     have aD:a≠D:=fun z=>hDl (z ▸ aH h1)
     exact r.keep (fun xs hx=>kp a xs aD (e2 _ _ hx)) (e2.tups.trans tu)
   refine⟨_,rfl,_,rfl,b,_,1,_,rfl,rfl,SqT.of (e _ _ b1),rfl,qm,_,rfl, .inr (SqT.of (e _ _ b2)),rfl,jC3 ms,_,rfl,?_⟩
   rw[e0,jDC]
   refine ite2 (fun hz=>?_) (fun hz=>?_)
   ·have hz:=az hz
    refine⟨_,rfl,_,rfl,_,_,rfl,rfl,⟨by lia,by lia,by decide⟩,by show (2:Nat)<=_; decide,fun r H2 d2 e2=>⟨by show (1:Nat)<=_; decide,fun l H3 d3 e3 n3=>?_⟩⟩
    have nl:H' l=none:=by
     cases z:H' l with
     | none=>rfl
     | some o=>rw[e2 _ _ z] at n3; cases n3
    refine key l H3 (e2.trans e3) nl ⟨_,d3,?_⟩
    rw[jEN,ah hz]
    refine⟨⟨r,rfl,?_⟩,trivial⟩
    have:(1:Int)*2 ^ (i:Int).toNat=((2 ^ i:Nat):Int):=by
     rw[aK]
     push_cast
     lia
    rw[e3 _ _ d2]
    show some (HO.tup [V.int (-1),V.int ((1:Int)*2 ^ (i:Int).toNat)])=_
    rw[this]
   ·refine⟨by show (0:Nat)<=_; decide,fun l H3 d3 e3 n3=>?_⟩
    refine key l H3 e3 n3 ⟨_,d3,?_⟩
    rw[jEN,ae (fun z=>hz (ay z))]
    trivial
  ·rintro D σ' H1 zs hD ⟨_,e1,h2,hn,ls,rfl,nd,hDl,nol,al⟩
   refine⟨_,rfl,b,_,2,_,rfl,rfl,SqT.of (e1 _ _ b1),rfl,true,qp,rfl,⟨_,SqT.of (e1 _ _ b3)⟩,jJS (tp:=true) (xs:=ps) (fun i σ H'=>(∃ v2 v3,σ=[some (.ref b),some (.ref D),v2,v3])/\Ext H H'/\H' D=some (.lst (ls.map V.ref))/\All2 (RowAt H') ls (chsN w.toNat ms pcs i)) ⟨⟨_,_,rfl⟩,e1,h2,al⟩ (fun i σ H' ⟨_,e,_⟩=>SqT.of (e _ _ b3)) ?_ ?_⟩
   ·rintro i x t σ H' hx ht ⟨⟨v2,v3,rfl⟩,e,h3,al3⟩
    obtain⟨pc,hpc,hPc⟩:=b4.at hx
    obtain⟨pa,pq,rfl,c1,c2⟩:=id hPc
    have hi:i<pcs.length:=(ax.mp hpc).1
    have gp:=g.pg pc (aH hpc)
    have et:j4 pcs (i:Int)=pc.1:=by
     unfold j4
     rw[aK,ai,hpc]
     rfl
    have lt:=jCB _ 0 w gp.lot.ris gp.lot.bnd
    have e':=e.new ht (.tup [.int (i:Int), .ref pa])
    have k':Ext H' (L2.upd H' t (.tup [.int (i:Int), .ref pa])):=(Ext.refl _).new ht _
    refine⟨t,_,rfl,SqT.of j6,rfl,_,_,rfl,_,_,rfl,rfl,?_⟩
    have h5:=k' _ _ h3
    have al5:=al3.imp fun l cs r=>r.keep (fun xs z=>k' _ _ z) k'.tups
    generalize L2.upd H' t (.tup [.int (i:Int), .ref pa])=H5 at e' h5 al5 ⊢
    obtain⟨hd,tl,hp1⟩:∃ hd tl,pc.1=hd::tl:=by
     cases z:pc.1 with
     | nil=>exact absurd z gp.lot.ne
     | cons a r=>exact⟨a,r,rfl⟩
    have hb:=gp.lot.bnd hd (by rw[hp1]; exact am ..)
    have hdl:(j4 pcs (i:Int)).headD 0=((hd.toNat:Nat):Int):=by
     rw[et,hp1]
     show hd=_
     lia
    have hw:hd.toNat<w.toNat:=by lia
    obtain⟨l,hl,vs,hv,av⟩:=al5.get (yB hw)
    have lne:l≠D:=fun z=>hDl (z ▸ aH hl)
    have iD:atI (ls.map V.ref) hd=some (.ref l):=by
     have:=qB (xs:=ls.map V.ref) (j:=hd.toNat) (v:= .ref l) (by rw[aA,hl]; rfl)
     rwa [show ((hd.toNat:Nat):Int)=hd by lia] at this
    have c2':H5 pq=some (.tup (pc.1.map V.int)):=e' _ _ c2
    refine⟨_,rfl,_,rfl,pa,_,0,_,rfl,rfl,SqT.of (e' _ _ c1),rfl,pq,_,0, .int hd,rfl,rfl,SqT.of c2',by rw[hp1]; exact qB (j:=0) rfl,D,_,_,_,rfl,rfl,SqL.of h5,iD, .inl ⟨rfl,_,SqL.of hv⟩,_,rfl,_,rfl,pa,_,0,_,rfl,rfl,SqT.of (e' _ _ c1),rfl,pq,pc.1,rfl,c2',fun x hx=>?_,by lia,fun H6 e6=>?_⟩
    ·have:=gp.lot.bnd x hx
     lia
    refine⟨by show (2:Nat)<=_; decide,fun r H7 d7 e7=>?_⟩
    have E7:=e6.trans e7
    have hv7:=E7 _ _ hv
    have vl:vs.length<=33:=by
     rw[av.len]
     exact(qA g).len _ _ (yB hw)
    have ap:=ChAt.app (v:= .ref r) (c:=((i:Int),maskN (j4 pcs (i:Int)))) (E7 _ _ h5) nd (al5.imp fun l cs r=>r.keep (fun xs z=>E7 _ _ z) E7.tups) hl (yB hw) hv7 (av.imp fun _ _=>PrAt.mono E7.tups) ⟨r,rfl,by rw[et]; exact d7⟩ lne
    have nH:H l=none:=by
     cases z:H l with
     | none=>rfl
     | some o=>
      exfalso
      rw[nol l (aH hl)] at z
      cases z
    refine⟨l,_,_,rfl,rfl,hv7,by rw[aJ]; lia,⟨_,_,rfl⟩,?_,ap.1,?_⟩
    ·exact(e'.trans E7).updNew nH _
    ·rw[jOI hi hd.toNat hdl]
     exact ap.2
   ·rintro σ H' ⟨⟨v2,v3,rfl⟩,e,h3,al3⟩
    refine⟨_,rfl,q D H' ⟨ls,h3,nd,?_⟩ e⟩
    rw[pl] at al3
    exact al3
theorem jT6 {fd:FuncData}(F:Fun K "full_mask" "full_mask" sFull f fd)(T:Txt mg):FnOk P w K mg base CX0 1 f fd ["choices"] jCQ:=by
 refine F.ok scFull (fun vs H Q E h=>?_) (fun cdv A outer s H vs Q E hr h=>?_)
 ·obtain⟨_,_,rfl,_⟩:=h
  rfl
 ·obtain⟨L,ch,rfl,hL,hw,q⟩:=h
  refine⟨_,(fullA T).2.h,?_⟩
  obtain⟨ls,h1,h2⟩:=hL.len
  refine⟨_,rfl,L,_,rfl, .inl (SqL.of h1),_,_,rfl,rfl,⟨?_,?_,?_⟩,_,_,rfl,rfl,?_⟩
  ·first | lia | decide
  ·rw[ab]; lia
  ·first | lia | decide
  ·have e:(1:Int)*2 ^ (((ls.map V.ref).length:Nat):Int).toNat - 1=((fullN ch:Nat):Int):=by
    rw[ab,h2,aK]
    unfold fullN
    have:=dN ch.length
    have e2:((2 ^ ch.length:Nat):Int)=(2:Int) ^ ch.length:=by push_cast; rfl
    lia
   show Q (V.int ((1:Int)*2 ^ (((ls.map V.ref).length:Nat):Int).toNat - 1)) H
   rw[e]
   exact q
theorem ok_at {fd:FuncData}(F:Fun K "choices_at" "choices_at" sAt f fd)(T:Txt mg):FnOk P w K mg base CX0 1 f fd ["choices","mask"] spAt:=by
 refine F.ok scAt (fun vs H Q E h=>?_) (fun cdv A outer s H vs Q E hr h=>?_)
 ·obtain⟨_,_,_,rfl,_⟩:=h
  rfl
 ·obtain⟨L,ch,m,rfl,hL,ok,hm,hf,q⟩:=h
  refine⟨_,(atA T).2.h,?_⟩
  obtain⟨ls,h1,nd,al⟩:=hL.ex
  have hlow:=qE hm hf
  have w16:=ok.w
  refine⟨_,rfl,_,rfl,_,rfl,_,_,rfl,rfl,_,_,rfl,rfl,rfl,_,rfl,rfl,_,_,rfl,rfl,?_⟩
  have el:(Builtin.Int.intBits (Builtin.bitAnd (Builtin.bitNot (m:Int)) ((m:Int)+1)):Int) - 1=((lowN m:Nat):Int):=by
   rw[jPW]
   lia
  show kU 2 (V.int ((Builtin.Int.intBits (Builtin.bitAnd (Builtin.bitNot (m:Int)) ((m:Int)+1)):Int) - 1)) _ _ _
  rw[el]
  obtain⟨l,hl,vs,hv,av⟩:=al.get (ak hlow)
  have vl:vs.length<=33:=by
   rw[av.len]
   exact ok.len _ _ (ak hlow)
  have er:ch.getD (lowN m) []=ch[lowN m]:=by
   rw[ai,ak hlow]
   rfl
  refine⟨_,rfl,_,rfl,L,_,_,_,rfl,rfl,SqL.of h1,qB (by rw[aA,hl]; rfl),l,rfl,⟨_,SqL.of hv⟩,jAW (xs:=vs) (fun σ=>∃ v,σ=[v,some (.int (m:Int))]) (fun H' zs j=>All2 (PrAt H') zs (((ch[lowN m]).take j).filter fun c=>c.2&&&m==0)) ⟨fun H=>trivial,fun H H' zs j t h=>h.imp fun _ _=>PrAt.mono t,fun H zs j h=>?_⟩ hv (by rw[aJ]; lia) ⟨_,rfl⟩ ?_ ?_⟩
  ·rw[h.len]
   exact bM (bJ _ _) (bY _ _)
  ·rintro j x σ' H' zs hx ⟨v,rfl⟩ e hz R S yes no
   obtain⟨c,hc,qa,rfl,hq⟩:=av.get' hx
   have hq':=e _ _ hq
   have et:(ch[lowN m]).take (j+1)=(ch[lowN m]).take j++[c]:=by
    rw[bf,hc]
    rfl
   refine⟨_,rfl,qa,_,1,_,rfl,rfl,SqT.of hq',rfl,_,rfl,_,_,rfl,rfl,rfl,_,rfl,?_⟩
   have ez:decide (V.int (Builtin.bitAnd ((c.2:Nat):Int) (m:Int))=V.int 0)=(c.2&&&m==0):=by
    rw[jCO,bO,bi,dM]
    exact⟨fun h=>by have:=V.int.inj h; lia,fun h=>by rw[h]; rfl⟩
   show if decide (V.int (Builtin.bitAnd ((c.2:Nat):Int) (m:Int))=V.int 0)=true then _ else _
   rw[ez]
   refine ite2 (fun h=>?_) (fun h=>?_)
   ·refine⟨_,rfl,yes _ _ _ ⟨_,rfl⟩ (Ext.refl _) ?_⟩
    show All2 _ _ (((ch[lowN m]).take (j+1)).filter _)
    rw[et,bV,dW,ah h]
    exact hz.snoc ⟨qa,rfl,hq'⟩
   ·refine no _ _ ⟨_,rfl⟩ (Ext.refl _) ?_
    show All2 _ _ (((ch[lowN m]).take (j+1)).filter _)
    rw[et,bV,dW,ae h,ic,bq]
    exact hz
  ·rintro D H' zs hD e hn hz
   rw[av.len,bG] at hz
   refine q D H' ⟨zs,hD,?_⟩ e hn
   unfold chAt
   rw[er]
   exact hz
end Eo
namespace L2
open PySem
theorem jEW {ks:List (Option Expr)}{vs:List Expr}{pos:Pos}{o:Option Expr} :SwOk (.Dict ks vs pos) o:=⟨fun _ _=>rfl⟩
end L2
namespace Eo
open PySem L2
abbrev natV (n:Nat):V:= .int (n:Int)
structure MetOk (ch:Ch)(ns:List Nat):Prop where
 zero:0∈ns
 bnd:∀ m∈ns,m<2 ^ ch.length
 up:∀ m∈ns,m≠fullN ch->∀ c∈chAt ch m,(m|||c.2)∈ns
def trK (ks:List Nat):List (Key×V):=ks.map fun (k:Nat)=>(Sum.inl (k:Int),V.bl true)
def jRU:Stmt->List Stmt
 | .While _ b _ _=>b
 | _=> []
theorem jHL (n:Nat):∀ ks:List Nat,valV (trK ks) (.inl (n:Int))=if n∈ks then some (.bl true) else none
 | []=>rfl
 | k::ks=>by
  show valV ((Sum.inl (k:Int),V.bl true)::trK ks) _=_
  by_cases h:k=n
  ·subst h
   rw[jAR rfl,ah (am ..)]
  ·rw[jAE (by intro z; have:=fk z; lia),jHL n ks]
   by_cases h2:n∈ks
   ·rw[ah h2,ah (aj _ h2)]
   ·rw[ae h2,ae]
    intro z
    rcases aF.mp z with z | z
    ·exact h z.symm
    ·exact h2 z
theorem jTW {H:Hp}{M:Addr}{ks:List Nat}{m c:Nat}(h:H M=some (.dK (trK ks))):DGet H M (.int (Builtin.bitOr (m:Int) (c:Int))) (if (m|||c)∈ks then some (.bl true) else none):=by
 rw[jB1,<- jHL]
 exact DGet.k (k:=Sum.inl (((m|||c:Nat):Nat):Int)) h
theorem jTV {H:Hp}{M:Addr}{ks:List Nat}{m c:Nat}(h:H M=some (.dK (trK ks)))(hn:¬ (m|||c)∈ks)(hl:(trK ks).length<sizeLine):DPut H M (.int (Builtin.bitOr (m:Int) (c:Int))) (.bl true) (L2.upd H M (.dK (trK (ks++[m|||c])))):=by
 rw[jB1]
 have:=DPut.k (k:=Sum.inl (((m|||c:Nat):Nat):Int)) (v:= .bl true) h hl
 rw[jD7 _ (by rw[jHL,ae hn])] at this
 unfold trK
 rw[aP]
 exact this
theorem jAB {n:Nat}{ks:List Nat}(nd:ks.Nodup)(hb:∀ k∈ks,k<n):ks.length<=n:=by
 have:(ks.map fun k:Nat=>(k:Int)).length<=n:=jMK n _ (bA.mpr (nd.imp fun h=>by lia)) fun t ht=>by
  obtain⟨k,hk,rfl⟩:=aL.mp ht
  have:=hb k hk
  lia
 rwa [ab] at this
noncomputable abbrev nMet:List Str:=["choices","full","met","waiting","mask","number","more"]
theorem scMet:FnScope nMet ["choices"] (j9 sMet):= {}
def spMet:Sp:=fun vs H Q _=>∃ (L:Addr) (ch:Ch),vs=[.ref L]/\ChAt H L ch/\ChOk ch/\∀ (r:Addr) (ns:List Nat) (H':Hp),H' r=some (.lst (ns.map natV))->ns.Pairwise (· > ·)->MetOk ch ns->Ext H H'->H r=none->Q (.ref r) H'
def jJA (T:Txt mg)(CA:Can P w K mg base "choices_at" 1 fA fdA ["choices","mask"] spAt)(hr:Room 1 (XOf nMet "masks_met" sMet P w K mg base f cdv A outer s H0 E).A): { t:TS // JSs (XOf nMet "masks_met" sMet P w K mg base f cdv A outer s H0 E) (jRU ((jD sMet).getD 3 (.Pass ⟨0,0,0,0⟩))) t} :=
 have nd:=scMet.nd
 ⟨_,(jB (jP (i:=4) nd rfl lL (jNK cD PySem.F.slot_list_pop PySem.F.type_list_pop jVM (jv 3 rfl vL)) kJ)
   (jC (yH (jI op_ne (jv 4 rfl vL) (jv 1 rfl vL) (jK _)) (jC (yP bP rfl (yC (CA.je hr gD (j3 (jv 0 rfl vL) (j3 (jv 4 rfl vL) j7 j5) j5) j5)) (jBB (i:=5) (j:=6) nd rfl rfl (by decide+kernel) (by decide+kernel)) (jC (yH (jGP (qI hr) (jY op_or (jv 4 rfl vL) (jv 6 rfl vL)) (jv 2 rfl vL) rfl) (jB (jDT (qI hr) (jv 2 rfl vL) (jY op_or (jv 4 rfl vL) (jv 6 rfl vL)) (je_bl) jEX)
   (jC (jFJ (je_bm cD gb gc jBZ (jv 3 rfl vL) (j3 (jY op_or (jv 4 rfl vL) (jv 6 rfl vL)) j7 yN) yN) kJ))) kL)) kS)) kL)))⟩
def metA (T:Txt mg)(CF:Can P w K mg base "full_mask" 1 fF fdF ["choices"] jCQ)(CA:Can P w K mg base "choices_at" 1 fA fdA ["choices","mask"] spAt)(hr:Room 1 (XOf nMet "masks_met" sMet P w K mg base f cdv A outer s H0 E).A): { t:TS // JSs (XOf nMet "masks_met" sMet P w K mg base f cdv A outer s H0 E) (jD sMet) t} :=
 have nd:=scMet.nd
 ⟨_,(jB (jP (i:=1) nd rfl lL (CF.je (hr.mono (by decide)) gD (j3 (jv 0 rfl vL) j7 j5) j5) kJ) (jB (jP (i:=2) nd rfl lL (jQ6) jEW) (jB (jP (i:=3) nd rfl lL (yY (j3 (je_int) j7 jL)) jIM) (jB (jQ4 bP (jI op_gt (jG jS gD T.len (by decide+kernel) (j3 (jv 3 rfl vL) j7 j5) j5) (je_int) (jK _)) (jJA T CA hr).2) (jC (jQ (jGQ (jFR rfl) gD T.sorted (by decide+kernel) (j3 (jv 2 rfl vL) j7 j5) (jNC je_bl jRI) j5)))))))⟩
theorem jPQ (T:Txt mg)(CA:Can P w K mg base "choices_at" 1 fA fdA ["choices","mask"] spAt)(hr:Room 1 (XOf nMet "masks_met" sMet P w K mg base f cdv A outer s H0 E).A)
  {D:Ends}{H:Hp}{L M W:Addr}{ch:Ch}{ks ws:List Nat}{m:Nat}{v4 v5 v6:Option V}(hL:ChAt H L ch) (ok:ChOk ch) (hM:H M=some (.dK (trK ks))) (hW:H W=some (.lst ((ws++[m]).map natV))) (nd:ks.Nodup) (hb:∀ k∈ks,k<2 ^ ch.length) (hm:m∈ks) (wln:ws.length<=ks.length)
  (nx:∀ (H':Hp) (new:List Nat) (v4 v5 v6:Option V),(∀ b o,H b=some o->b≠M->b≠W->H' b=some o)->H' M=some (.dK (trK (ks++new)))->H' W=some (.lst ((ws++new).map natV))->(ks++new).Nodup->(∀ k∈ks++new,k<2 ^ ch.length)->(m≠fullN ch->∀ c∈chAt ch m,(m|||c.2)∈ks++new)->D.nx [some (.ref L),some (natV (fullN ch)),some (.ref M),some (.ref W),v4,v5,v6] H'):
  (jJA T CA hr).1 D [some (.ref L),some (natV (fullN ch)),some (.ref M),some (.ref W),v4,v5,v6] H:=by
 have MW:M≠W:=fun z=>by rw[z,hW] at hM; cases hM
 have LW:∀ ls:List Addr,H L=some (.lst (ls.map V.ref))->L≠W:=fun ls h z=>by
  rw[z,hW] at h
  have h:=HO.lst.inj (bo h)
  have h2:natV m∈ls.map V.ref:=by rw[<- h]; simp
  obtain⟨a,_,ha⟩:=aL.mp h2
  cases ha
 have rw':∀ l cs,RowAt H l cs->l≠W:=fun l cs ⟨vs,h1,h2⟩ z=>by
  rw[z,hW] at h1
  have h1:=HO.lst.inj (bo h1)
  have h3:vs[ws.length]?=some (natV m):=by rw[<- h1]; simp
  obtain⟨_,_,q,e,_⟩:=h2.get' h3
  cases e
 have w16:=ok.w
 have hm2:=hb m hm
 have wl:((ws++[m]).map natV)[((ws++[m]).map natV).length - 1]?=some (natV m):=by
  rw[ab,aC,aA,bv (by simp)]
  simp
 have dl:((ws++[m]).map natV).dropLast=ws.map natV:=by
  rw[aP]
  simp
 refine⟨_,rfl, .inl ⟨rfl,_,SqL.of hW⟩,W,_,_,rfl,rfl,hW,wl,?_⟩
 rw[dl]
 have hM1:(L2.upd H W (.lst (ws.map natV))) M=some (.dK (trK ks)):=by rw[j8 MW]; exact hM
 have hW1:(L2.upd H W (.lst (ws.map natV))) W=some (.lst (ws.map natV)):=j6
 have k1:∀ b o,H b=some o->b≠W->(L2.upd H W (.lst (ws.map natV))) b=some o:=fun b o h n=>by rw[j8 n]; exact h
 have hL1:ChAt (L2.upd H W (.lst (ws.map natV))) L ch:=by
  obtain⟨ls,a1,a2,a3⟩:=hL.ex
  exact⟨ls,k1 _ _ a1 (LW _ a1),a2,a3.imp fun l cs r=>r.keep (fun xs z=>k1 _ _ z (rw' _ _ r)) (Tups.upd hW _)⟩
 generalize L2.upd H W (.lst (ws.map natV))=H1 at hM1 hW1 k1 hL1
 refine⟨_,rfl,_,rfl,rfl,_,rfl,?_⟩
 have nf:(!decide (natV m=natV (fullN ch)))=true↔m≠fullN ch:=by
  rw[cC,b9]
  refine not_congr ⟨fun h=>?_,fun h=>by rw[h]⟩
  have:=V.int.inj h
  lia
 refine ite2 (fun h=>?_) (fun h=>?_)
 ·have h:=nf.mp h
  refine⟨_,rfl,_,rfl,L,ch,m,rfl,hL1,ok,hm2,h,fun r H2 ⟨vs,hr2,av⟩ e2 nr=>?_⟩
  have hM2:=e2 _ _ hM1
  have hW2:=e2 _ _ hW1
  have rW:r≠W:=fun z=>by rw[z,hW1] at nr; cases nr
  have rM:r≠M:=fun z=>by rw[z,hM1] at nr; cases nr
  refine⟨r,rfl,⟨_,SqL.of hr2⟩,jBD (xs:=vs) (fun i σ H'=>(∃ v5 v6,σ=[some (.ref L),some (natV (fullN ch)),some (.ref M),some (.ref W),some (natV m),v5,v6])/\(∀ b o,H2 b=some o->b≠M->b≠W->H' b=some o)/\∃ new:List Nat,H' M=some (.dK (trK (ks++new)))/\H' W=some (.lst ((ws++new).map natV))/\(ks++new).Nodup/\(∀ k∈ks++new,k<2 ^ ch.length)/\∀ c∈(chAt ch m).take i,(m|||c.2)∈ks++new) ⟨⟨_,_,rfl⟩,fun b o h _ _=>h,[],by rw[bq]; exact hM2,by rw[bq]; exact hW2,by rw[bq]; exact nd,by rw[bq]; exact hb,fun c hc=>by cases hc⟩ (fun i σ H' _ ⟨_,k,_⟩=>SqL.of (k _ _ hr2 rM rW)) ?_ ?_⟩
  ·rintro i x σ H' hx ⟨⟨v5,v6,rfl⟩,k,new,hM',hW',nd',hb',cl⟩
   obtain⟨c,hc,q,rfl,hq⟩:=av.get' hx
   have qM:q≠M:=fun z=>by rw[z,hM2] at hq; cases hq
   have qW:q≠W:=fun z=>by rw[z,hW2] at hq; cases hq
   have hcm:=aH hc
   obtain⟨u1,u2⟩:=ok.up hm2 h hcm
   have tk:(chAt ch m).take (i+1)=(chAt ch m).take i++[c]:=by rw[bf,hc]; rfl
   refine⟨q,_,rfl,SqT.of (k _ _ hq qM qW),rfl,_,_,rfl,_,_,rfl,rfl,?_⟩
   refine⟨_,rfl,_,rfl,_,_,rfl,rfl,_,rfl,M,_,rfl,jTW hM',_,rfl,?_⟩
   by_cases hin:(m|||c.2)∈ks++new
   ·rw[ah hin]
    refine iteF ⟨⟨_,_,rfl⟩,k,new,hM',hW',nd',hb',fun c' hc'=>?_⟩
    rw[tk] at hc'
    rcases aR.mp hc' with z | z
    ·exact cl c' z
    ·rw[aE] at z
     rw[z]
     exact hin
   ·rw[ae hin]
    have ndn:(ks++(new++[m|||c.2])).Nodup:=by
     rw[<- be,iT]
     refine⟨nd',by simp,fun a ha b hb z=>?_⟩
     rw[aE] at hb
     exact hin (hb ▸ z ▸ ha)
    have bdn:∀ k∈ks++(new++[m|||c.2]),k<2 ^ ch.length:=fun k hk=>by
     rw[<- be] at hk
     rcases aR.mp hk with z | z
     ·exact hb' k z
     ·rw[aE] at z
      rw[z]
      exact u2
    have sz:(ks++(new++[m|||c.2])).length<=2 ^ 16:=bM (jAB ndn bdn) (bS (by decide) w16)
    rw[aC,aC] at sz
    have kl:(trK (ks++new)).length<sizeLine:=by
     unfold trK
     rw[ab,aC,aJ]
     simp at sz
     lia
    refine iteT ⟨_,rfl,_,rfl,_,rfl,_,_,rfl,rfl,M,_,rfl,jTV hM' hin kl,?_⟩
    have hW3:(L2.upd H' M (.dK (trK (ks++new++[m|||c.2])))) W=some (.lst ((ws++new).map natV)):=by rw[j8 MW.symm]; exact hW'
    have hM3:(L2.upd H' M (.dK (trK (ks++new++[m|||c.2])))) M=some (.dK (trK (ks++(new++[m|||c.2])))):=by rw[j6,be]
    have k3:∀ b o,H2 b=some o->b≠M->b≠W->(L2.upd H' M (.dK (trK (ks++new++[m|||c.2])))) b=some o:=fun b o hbo n1 n2=>by rw[j8 n1]; exact k b o hbo n1 n2
    generalize L2.upd H' M (.dK (trK (ks++new++[m|||c.2])))=H3 at hW3 hM3 k3
    refine⟨_,rfl, .inl ⟨rfl,_,SqL.of hW3⟩,_,rfl,_,rfl,_,_,rfl,rfl,W,_,_,rfl,rfl,hW3,?_,⟨_,_,rfl⟩,fun b o hbo n1 n2=>by rw[j8 n2]; exact k3 b o hbo n1 n2,new++[m|||c.2],by rw[j8 MW]; exact hM3,?_,ndn,bdn,fun c' hc'=>?_⟩
    ·skip
     rw[ab,aC,aJ]
     simp at sz
     lia
    ·rw[j6]
     show some (HO.lst ((ws++new).map natV++[V.int (Builtin.bitOr (m:Int) (c.2:Int))]))=_
     rw[jB1,<- be]
     exact bX (fun z=>some (HO.lst z)) (aP (f:=natV) (l₁:=ws++new) (l₂:=[m|||c.2])).symm
    ·rw[<- be,aR]
     rw[tk] at hc'
     rcases aR.mp hc' with z | z
     ·exact .inl (cl c' z)
     ·rw[aE] at z
      rw[z]
      exact .inr (aE.mpr rfl)
  ·rintro σ H' ⟨⟨v5,v6,rfl⟩,k,new,hM',hW',nd',hb',cl⟩
   have:(chAt ch m).take vs.length=chAt ch m:=by rw[av.len,bG]
   rw[this] at cl
   exact nx H' new _ _ _ (fun b o hbo n1 n2=>k _ _ (e2 _ _ (k1 _ _ hbo n2)) n1 n2) hM' hW' nd' hb' fun _=>cl
 ·have h:m=fullN ch:=cO fun z=>h (nf.mpr z)
  exact nx H1 [] _ _ _ (fun b o hbo n1 n2=>k1 _ _ hbo n2) (by rw[bq]; exact hM1) (by rw[bq]; exact hW1) (by rw[bq]; exact nd) (by rw[bq]; exact hb) fun z=>absurd h z
theorem jVG {fd:FuncData}(F:Fun K "masks_met" "masks_met" sMet f fd)(T:Txt mg)(CF:Can P w K mg base "full_mask" 1 fF fdF ["choices"] jCQ)(CA:Can P w K mg base "choices_at" 1 fA fdA ["choices","mask"] spAt):FnOk P w K mg base CX0 2 f fd ["choices"] spMet:=by
 refine F.ok scMet (fun vs H Q E h=>?_) (fun cdv A outer s H vs Q E hr h=>?_)
 ·obtain⟨_,_,rfl,_⟩:=h
  rfl
 ·obtain⟨L,ch,rfl,hL,ok,q⟩:=h
  refine⟨_,(metA T CF CA hr).2.h,?_⟩
  have w16:=ok.w
  refine⟨_,rfl,L,ch,rfl,hL,w16,?_⟩
  refine fun M H1 hM1 e1 nM=>?_
  refine⟨by show (1:Nat)<=_; decide,fun W H2 hW2 e2 nW=>?_⟩
  have hM2:=e2 _ _ hM1
  have nW0:H W=none:=by
   cases z:H W with
   | none=>rfl
   | some o=>rw[e1 _ _ z] at nW; cases nW
  have E2:=e1.trans e2
  have pz:(0:Nat)<2 ^ ch.length:=dN _
  refine⟨fun n σ H'=>(∃ v4 v5 v6,σ=[some (.ref L),some (natV (fullN ch)),some (.ref M),some (.ref W),v4,v5,v6])/\Ext H H'/\∃ ks ws:List Nat,n=2*(2 ^ ch.length - ks.length)+ws.length/\H' M=some (.dK (trK ks))/\H' W=some (.lst (ws.map natV))/\ks.Nodup/\(∀ k∈ks,k<2 ^ ch.length)/\(∀ k∈ws,k∈ks)/\ws.length<=ks.length/\0∈ks/\∀ k∈ks,k∉ws->k≠fullN ch->∀ c∈chAt ch k,(k|||c.2)∈ks,⟨_,⟨_,_,_,rfl⟩,E2,[0],[0],rfl,hM2,hW2,by simp,fun k hk=>by rw[aE] at hk; lia,fun k hk=>hk,ar _,by simp,fun k h1 h2=>absurd h1 h2⟩,?_⟩
  rintro n σ H' ⟨⟨v4,v5,v6,rfl⟩,e,ks,ws,rfl,hM',hW',nd,hb,sub,wl,z0,cl⟩
  refine⟨_,rfl,W,_,rfl, .inl (SqL.of hW'),_,_,rfl,rfl,_,rfl,?_⟩
  rcases List.eq_nil_or_concat ws with hws | ⟨ws',m,hws⟩
  ·subst hws
   refine iteF ?_
   have ksl:=jAB nd hb
   have p16:2 ^ ch.length<=2 ^ 16:=bS (by decide) w16
   refine⟨_,rfl,M,trK ks,ks.map fun k:Nat=>(k:Int),true,rfl,rfl,hM',by unfold trK; rw[ba,ba]; rfl,by rw[ab,aJ]; lia,fun l ns hl ord pm=>?_⟩
   obtain⟨js,rfl⟩:∃ js:List Nat,ns=js.map fun k:Nat=>(k:Int):=by
    refine⟨ns.map Int.toNat,?_⟩
    rw[ba]
    refine(dU ns).symm.trans (aX fun x hx=>?_)
    obtain⟨k,_,rfl⟩:=aL.mp (pm.mem_iff.mp hx)
    show ((k:Nat):Int)=(((k:Nat):Int).toNat:Int)
    lia
   have pm':js.Perm ks:=by
    have:=pm.map Int.toNat
    rw[ba,ba] at this
    have e:∀ l:List Nat,l.map (Int.toNat ∘ fun k:Nat=>(k:Int))=l:=fun l=>(aX fun x _=>by show ((x:Nat):Int).toNat=x; lia).trans (dU l)
    rwa [e,e] at this
   refine q l js _ ?_ ?_ ⟨pm'.mem_iff.mpr z0,fun m hm=>hb m (pm'.mem_iff.mp hm),fun m hm hf c hc=>pm'.mem_iff.mpr (cl m (pm'.mem_iff.mp hm) (by simp) hf c hc)⟩ ((Ext.refl _).trans (e.new hl _)) ?_
   ·rw[j6,ba]
    rfl
   ·have nj:js.Nodup:=pm'.nodup_iff.mpr nd
    have:js.Pairwise (fun (a b:Nat)=>(b:Int)<=(a:Int)):=bA.mp ord
    exact(this.and nj).imp fun {a b} h=>by lia
   ·cases z:H l with
    | none=>rfl
    | some o=>rw[e _ _ z] at hl; cases hl
  ·have hws:ws=ws'++[m]:=by rw[hws,List.concat_eq_append]
   subst hws
   have lp:decide ((0:Int)<(((ws'++[m]).map natV).length:Int))=true:=by
    rw[bi,ab,aC]
    show (0:Int)<((ws'.length+1:Nat):Int)
    lia
   show if decide ((0:Int)<(((ws'++[m]).map natV).length:Int))=true then _ else _
   rw[ah lp]
   rw[aC] at wl
   refine⟨fun σ' H''=>(∃ v4 v5 v6,σ'=[some (.ref L),some (natV (fullN ch)),some (.ref M),some (.ref W),v4,v5,v6])/\Ext H H''/\∃ new:List Nat,H'' M=some (.dK (trK (ks++new)))/\H'' W=some (.lst ((ws'++new).map natV))/\(ks++new).Nodup/\(∀ k∈ks++new,k<2 ^ ch.length)/\(m≠fullN ch->∀ c∈chAt ch m,(m|||c.2)∈ks++new),?_,jPQ T CA hr (ks:=ks) (ws:=ws') (m:=m) (hL.ext e) ok hM' hW' nd hb (sub m (by simp)) (by lia) ?_⟩
   ·rintro σ' H'' ⟨hσ,e',new,a1,a2,a3,a4,a5⟩
    have sl:=jAB a3 a4
    rw[aC] at sl
    refine⟨_,?_,hσ,e',ks++new,ws'++new,rfl,a1,a2,a3,a4,fun k hk=>?_,?_,bu _ z0,fun k hk hkw hf c hc=>?_⟩
    ·rw[aC,aC,aC]
     simp only [aU,dq]
     lia
    ·rcases aR.mp hk with z | z
     ·exact bu _ (sub k (bu _ z))
     ·exact aZ _ z
    ·rw[aC,aC]
     lia
    ·by_cases hkm:k=m
     ·subst hkm
      exact a5 hf c hc
     ·rcases aR.mp hk with z | z
      ·refine bu _ (cl k z (fun y=>?_) hf c hc)
       rcases aR.mp y with y | y
       ·exact hkw (bu _ y)
       ·exact hkm (aE.mp y)
      ·exact absurd (aZ _ z) hkw
   ·intro H'' new v4 v5 v6 kp a1 a2 a3 a4 a5
    refine⟨⟨_,_,_,rfl⟩,fun b o hbo=>?_,new,a1,a2,a3,a4,a5⟩
    refine kp b o (e b o hbo) (fun z=>?_) fun z=>?_
    ·rw[z,nM] at hbo; cases hbo
    ·rw[z,nW0] at hbo; cases hbo
end Eo
namespace L2
open PySem
theorem jLG {x:Str}{pos:Pos}{o:Option Expr} :SwOk (.Name x pos) o:=⟨fun _ _=>rfl⟩
end L2
namespace Eo
open PySem L2
structure HpOk (φ:Hp->Prop):Prop where
 keep:∀ (H H':Hp) (D:Addr) (kvs:List (Key×V)),H D=some (.dK kvs)->(∃ kvs',H' D=some (.dK kvs'))->(∀ b o,H b=some o->b≠D->H' b=some o)->φ H->φ H'
 ext:∀ H H',Ext H H'->φ H->φ H'
abbrev RepT:=Nat->Hp->V->Prop
def RepOk (R:RepT):Prop:=∀ m v,HpOk fun H=>R m H v
def ItAt (R:RepT)(m:Nat)(H:Hp)(v:V)(c:Int×Nat):Prop:=∃ q u,v= .ref q/\H q=some (.tup [.int c.1,u])/\R (m|||c.2) H u
def jDI (ch:Ch)(R:RepT):Sp:=fun vs H Q _=>∃ (l:Addr) (us:List V) (m:Nat),vs=[.ref l]/\H l=some (.lst us)/\m<2 ^ ch.length/\m≠fullN ch/\All2 (ItAt R m H) us (chAt ch m)/\∀ r H',R m H' r->Ext H H'->Q r H'
def gvs (ns:List Nat)(us:List V):List (Key×V):=(ns.zip us).map fun p:Nat×V=>(Sum.inl (p.1:Int),p.2)
structure GotAt (H:Hp)(r:Addr)(ch:Ch)(R:RepT)(ns:List Nat):Prop where
 ex:∃ us,H r=some (.dK (gvs ns us))/\All2 (fun n u=>R n H u) ns us
theorem jEU {R:Nat->V->Prop} :∀ {ns:List Nat}{us:List V}{n:Nat},All2 R ns us->ns.Nodup->n∈ns->∃ u,valV (gvs ns us) (.inl (n:Int))=some u/\R n u
 | [],_,_,_,_,h=>by cases h
 | k::ns,[],_,h,_,_=>h.elim
 | k::ns,u::us,n,h,nd,hm=>by
  show ∃ x,valV ((Sum.inl (k:Int),u)::gvs ns us) _=_/\_
  by_cases hk:k=n
  ·subst hk
   exact⟨u,jAR rfl,h.1⟩
  ·rw[jAE (by intro z; have:=fk z; lia)]
   rcases aF.mp hm with z | z
   ·exact absurd z.symm hk
   ·exact jEU h.2 (bF.mp nd).2 z
theorem jBS:∀ {ns:List Nat}{us:List V}{n:Nat},n∉ns->valV (gvs ns us) (.inl (n:Int))=none
 | [],_,_,_=>by
  unfold gvs
  rw[List.zip_nil_left]
  rfl
 | k::ns,[],_,_=>rfl
 | k::ns,u::us,n,h=>by
  show valV ((Sum.inl (k:Int),u)::gvs ns us) _=_
  rw[jAE (by intro z; have:=fk z; exact h (by rw[show n=k by lia]; exact am ..))]
  exact jBS fun z=>h (aj _ z)
theorem jQD {ns:List Nat}{us:List V}{n:Nat}{u:V}(h:ns.length=us.length):gvs (ns++[n]) (us++[u])=gvs ns us++[(Sum.inl (n:Int),u)]:=by
 unfold gvs
 rw[List.zip_append h,aP]
 rfl
section
variable {Z:Shared->Hp->Prop}{zh:Hp->Prop}{ch:Ch}{R:RepT}
noncomputable abbrev nGath:List Str:=["choices","at_end","join","full","values","mask"]
theorem scGath:FnScope nGath ["choices","at_end","join"] (j9 qN):= {}
def jIO (j:Addr)(zh:Hp->Prop)(ch:Ch)(R:RepT):Sp:=fun vs H Q _=>∃ (L:Addr) (ve:V),vs=[.ref L,ve, .ref j]/\ChAt H L ch/\R (fullN ch) H ve/\zh H/\∀ (r:Addr) (ns:List Nat) (H':Hp),GotAt H' r ch R ns->ns.Pairwise (· > ·)->MetOk ch ns->Ext H H'->H r=none->Q (.ref r) H'
def jNZ (T:Txt mg)(CA:Can P w K mg base "choices_at" 1 fA fdA ["choices","mask"] spAt)(CJ:Callee P w K mg base Z zh 3 j (jDI ch R))(zs:ZSt Z)(hz:Z s H0)(hr:Room 3 (XOf nGath "gathered" qN P w K mg base f cdv A outer s H0 E).A): { t:TS // JSs (XOf nGath "gathered" qN P w K mg base f cdv A outer s H0 E) (yO ((jD qN).getD 2 (.Pass ⟨0,0,0,0⟩))) t} :=
 have nd:=scGath.nd
 ⟨_,(jC (yH (jI qG (jv 5 rfl vC) (jv 3 rfl vL) (jK _)) (jC (jDT (qI hr) (jv 4 rfl vC) (jv 5 rfl vC) (jv 1 rfl vL) jLG)) (jC (jDT (qI hr) (jv 4 rfl vC) (jv 5 rfl vC) (jQ9 (j:=2) CJ (hr.mono (by decide)) zs hz rfl rfl vL (j3 (kN (m:=[none,none,some 4,some 5]) (Nc:=["number","more","values","mask"]) rfl (yC (CA.je (hr.mono (by decide)) gD (j3 (jv 0 rfl vL) (j3 (jv 5 rfl vC) j7 j5) j5) j5)) rfl (by decide+kernel) (by decide+kernel) (jW (psc:=j9 qN)) (jH (N:=nGath) rfl rfl (by decide+kernel)) (fun cl C fp s H=>jAO (i:=0) (j:=1) rfl (show (["number","more","values","mask"]:List Str).Nodup by decide+kernel) rfl rfl (by decide+kernel) (by decide+kernel)) (fun cl C fp s H=>y4) (fun cl C fp s H=>(yX (j3 (jv 0 rfl jO) (j3 (jDU (qI hr) (jv 2 rfl yI) (jY op_or (jv 3 rfl yI) (jv 1 rfl jO)) jIW) j7 kG) j5))) kS) j7 jJ) jJ) kJ))))⟩
def gathA (T:Txt mg)(CF:Can P w K mg base "full_mask" 1 fF fdF ["choices"] jCQ)(CM:Can P w K mg base "masks_met" 2 fM fdM ["choices"] spMet)(CA:Can P w K mg base "choices_at" 1 fA fdA ["choices","mask"] spAt)(CJ:Callee P w K mg base Z zh 3 j (jDI ch R))(zs:ZSt Z)(hz:Z s H0)(hr:Room 3 (XOf nGath "gathered" qN P w K mg base f cdv A outer s H0 E).A): { t:TS // JSs (XOf nGath "gathered" qN P w K mg base f cdv A outer s H0 E) (jD qN) t} :=
 have nd:=scGath.nd
 ⟨_,(jB (jP (i:=3) nd rfl lL (CF.je (hr.mono (by decide)) gD (j3 (jv 0 rfl vL) j7 j5) j5) kJ) (jB (jP (i:=4) nd rfl loc_c (jFK) jEW) (jB (yP bP rfl (yC (CM.je (hr.mono (by decide)) gD (j3 (jv 0 rfl vL) j7 j5) j5)) (jN (i:=5) nd rfl loc_c) (jNZ T CA CJ zs hz hr).2 kS) (jC (jQ (jv 4 rfl vC))))))⟩
theorem jHV {fd:FuncData}(F:Fun K "gathered" "gathered" qN f fd)(T:Txt mg)(CF:Can P w K mg base "full_mask" 1 fF fdF ["choices"] jCQ)(CM:Can P w K mg base "masks_met" 2 fM fdM ["choices"] spMet)(CA:Can P w K mg base "choices_at" 1 fA fdA ["choices","mask"] spAt)(CJ:Callee P w K mg base Z zh 3 j (jDI ch R))(zs:ZSt Z)(zo:HpOk zh)(ro:RepOk R)(ok:ChOk ch):FnZ P w K mg base CX0 Z 4 f fd ["choices","at_end","join"] (jIO j zh ch R):=by
 refine F.okZ scGath (fun vs H Q E h=>?_) (fun cdv A outer s H vs Q E hr hz h=>?_)
 ·obtain⟨_,_,rfl,_⟩:=h
  rfl
 ·obtain⟨L,ve,rfl,hL,he,hzh,q⟩:=h
  refine⟨_,(gathA T CF CM CA CJ zs hz hr).2.h,?_⟩
  have w16:=ok.w
  have p16:2 ^ ch.length<=2 ^ 16:=bS (by decide) w16
  refine⟨_,rfl,L,ch,rfl,hL,w16,?_⟩
  refine fun D nD=>?_
  have e1:Ext H (L2.upd H D (.dK [])):=(Ext.refl _).new nD _
  have hD1:(L2.upd H D (.dK [])) D=some (.dK []):=j6
  generalize L2.upd H D (.dK [])=H1 at e1 hD1
  refine⟨_,rfl,L,ch,rfl,hL.ext e1,ok,fun r ns H2 hr2 srt mt e2 nr=>?_⟩
  have hD2:=e2 _ _ hD1
  have rD:r≠D:=fun z=>by rw[z,hD1] at nr; cases nr
  have E2:=e1.trans e2
  have nsn:ns.Nodup:=srt.imp fun {a b} h=>by lia
  have nsl:=jAB nsn mt.bnd
  refine⟨r,rfl,⟨_,SqL.of hr2⟩,jBD (xs:=ns.map natV) (fun i σ H'=>(∃ v5,σ=[some (.ref L),some ve,some (.ref j),some (natV (fullN ch)),some (.ref D),v5])/\(∀ b o,H2 b=some o->b≠D->H' b=some o)/\GotAt H' D ch R (ns.take i)) ⟨⟨_,rfl⟩,fun b o h _=>h,[],hD2,trivial⟩ (fun i σ H' _ ⟨_,k,_⟩=>SqL.of (k _ _ hr2 rD)) ?_ ?_⟩
  ·rintro i x σ H' hx ⟨⟨v5,rfl⟩,k,us,hD',au⟩
   obtain⟨m,hm,rfl⟩:∃ m,ns[i]?=some m/\natV m=x:=by
    rw[aA] at hx
    cases hq:ns[i]? with
    | none=>rw[hq] at hx; cases hx
    | some z=>rw[hq] at hx; cases hx; exact⟨z,rfl,rfl⟩
   have hmn:=aH hm
   have hm2:=mt.bnd m hmn
   have il:i<ns.length:=(ax.mp hm).1
   have tk:ns.take (i+1)=ns.take i++[m]:=by rw[bf,hm]; rfl
   have kl:(gvs (ns.take i) us).length<sizeLine:=by
    unfold gvs
    rw[ab,List.length_zip,bE,aJ]
    lia
   have kH:∀ b o,H b=some o->H' b=some o:=fun b o h=>k _ _ (E2 _ _ h) fun z=>by rw[z,nD] at h; cases h
   have mi:m∉ns.take i:=fun z=>by
    obtain⟨a,ha⟩:=bR z
    have al:a<i:=by have:=(ax.mp ha).1; rw[bE] at this; lia
    rw[cy al] at ha
    have:=(gK (by lia) nsn).mp (ha.trans hm.symm)
    lia
   have fin:∀ (u:V) (H3:Hp),(∀ b o,H' b=some o->H3 b=some o)->R m H3 u->DPut H3 D (natV m) u (L2.upd H3 D (.dK (gvs (ns.take (i+1)) (us++[u]))))/\((∃ v5,[some (V.ref L),some ve,some (.ref j),some (natV (fullN ch)),some (.ref D),some (natV m)]=[some (V.ref L),some ve,some (.ref j),some (natV (fullN ch)),some (.ref D),v5])/\(∀ b o,H2 b=some o->b≠D->(L2.upd H3 D (.dK (gvs (ns.take (i+1)) (us++[u])))) b=some o)/\GotAt (L2.upd H3 D (.dK (gvs (ns.take (i+1)) (us++[u])))) D ch R (ns.take (i+1))):=fun u H3 e3 ru=>by
    have hD3:=e3 _ _ hD'
    have up:∀ b o,H3 b=some o->b≠D->(L2.upd H3 D (.dK (gvs (ns.take (i+1)) (us++[u])))) b=some o:=fun b o h n=>by rw[j8 n]; exact h
    refine⟨?_,⟨_,rfl⟩,fun b o h n=>up b o (e3 _ _ (k b o h n)) n,us++[u],j6,?_⟩
    ·have:=DPut.k (k:=Sum.inl ((m:Nat):Int)) (v:=u) hD3 kl
     rw[jD7 _ (jBS mi),<- jQD au.len,<- tk] at this
     exact this
    ·rw[tk]
     refine All2.snoc ?_ ((ro m u).keep _ _ D _ hD3 ⟨_,j6⟩ (by rw[<- tk]; exact up) ru)
     rw[<- tk]
     exact au.imp fun n u h=>(ro n u).keep _ _ D _ hD3 ⟨_,j6⟩ up ((ro n u).ext _ _ e3 h)
   refine⟨_,rfl,_,rfl,rfl,_,rfl,?_⟩
   have ef:decide (natV m=natV (fullN ch))=true↔m=fullN ch:=by
    rw[bi]
    exact⟨fun h=>by have:=V.int.inj h; lia,fun h=>by rw[h]⟩
   refine ite2 (fun h=>?_) (fun h=>?_)
   ·have h:=ef.mp h
    obtain⟨f1,f2⟩:=fin ve H' (fun b o h=>h) (by rw[h]; exact(ro _ _).ext _ _ kH he)
    exact⟨_,rfl,_,rfl,_,rfl,D,_,rfl,f1,f2⟩
   ·have h:m≠fullN ch:=fun z=>h (ef.mpr z)
    refine⟨rfl,_,rfl,_,rfl,L,ch,m,rfl,hL.ext kH,ok,hm2,h,fun r4 H4 ⟨vs4,hr4,av4⟩ e4 n4=>?_⟩
    have hD4:=e4 _ _ hD'
    have vl4:vs4.length<=33:=by
     rw[av4.len]
     have hlow:=qE hm2 h
     refine bM (bJ _ _) ?_
     rw[ai,ak hlow]
     exact ok.len _ _ (ak hlow)
    refine⟨r4,rfl,⟨_,SqL.of hr4⟩,jAW (xs:=vs4) (fun σ=>∃ v1 v2,σ=[v1,v2,some (.ref D),some (natV m)]) (fun H' zs t=>All2 (fun v c=>∃ q u,v= .ref q/\H' q=some (.tup [.int c.1,u])/\R (m|||c.2) H4 u) zs ((chAt ch m).take t)) ⟨fun H=>trivial,fun H H' zs t tu hz=>hz.imp fun v c ⟨q,u,a1,a2,a3⟩=>⟨q,u,a1,tu _ _ a2,a3⟩,fun H zs t hz=>?_⟩ hr4 (by rw[aJ]; lia) ⟨_,_,rfl⟩ ?_ ?_⟩
    ·rw[hz.len]
     exact bY _ _
    ·rintro t x σ' H5 zs hx ⟨v1,v2,rfl⟩ e5 hz5 S1 S2 yes no
     obtain⟨c,hc,qa,rfl,hq⟩:=av4.get' hx
     have hcm:=aH hc
     obtain⟨u1,u2⟩:=ok.up hm2 h hcm
     have ut:=mt.up m hmn h c hcm
     have up:(m|||c.2)∈ns.take i:=by
      obtain⟨a,ha⟩:=bR ut
      have al:a<i:=by
       refine cO fun z=>?_
       have a1:=(ax.mp ha)
       have m1:=(ax.mp hm)
       rcases ff i a with y | y
       ·have:=bW.mp srt i a il a1.1 y
        rw[a1.2,m1.2] at this
        lia
       ·have:a=i:=by lia
        subst this
        rw[hm] at ha
        have:=bo ha
        lia
      exact aH (i:=a) (by rw[cy al]; exact ha)
     obtain⟨u,hu,ru⟩:=jEU au (nsn.sublist (dH _ _)) up
     have et:(chAt ch m).take (t+1)=(chAt ch m).take t++[c]:=by rw[bf,hc]; rfl
     have dg:DGet H5 D (.int (Builtin.bitOr (m:Int) (c.2:Int))) (some u):=by
      rw[jB1,<- hu]
      exact DGet.k (k:=Sum.inl (((m|||c.2:Nat):Nat):Int)) (e5 _ _ hD4)
     refine⟨qa,_,rfl,SqT.of (e5 _ _ hq),rfl,_,_,rfl,_,_,rfl,rfl,?_⟩
     dsimp only [yQ]
     rw[ah rfl]
     refine⟨_,rfl,_,rfl,_,rfl,_,rfl,_,_,rfl,rfl,D,u,rfl,dg,by show (2:Nat)<=_; decide,fun r6 H6 d6 e6=>yes _ _ _ ⟨_,_,rfl⟩ e6 ?_⟩
     show All2 _ _ ((chAt ch m).take (t+1))
     rw[et]
     exact(hz5.imp fun v c ⟨q,u,a1,a2,a3⟩=>⟨q,u,a1,e6 _ _ a2,a3⟩).snoc ⟨r6,u,rfl,d6,(ro _ _).ext _ _ e4 ru⟩
    ·rintro D7 H7 zs hD7 e7 n7 hz7
     rw[av4.len,bG] at hz7
     refine⟨zo.ext _ _ (fun b o h=>e7 _ _ (e4 _ _ (kH b o h))) hzh,D7,zs,m,rfl,hD7,hm2,h,hz7.imp fun v c ⟨q,u,a1,a2,a3⟩=>⟨q,u,a1,a2,(ro _ _).ext _ _ e7 a3⟩,fun rr H8 r8 e8=>?_⟩
     obtain⟨f1,f2⟩:=fin rr H8 (fun b o h=>e8 _ _ (e7 _ _ (e4 _ _ h))) r8
     exact⟨_,rfl,_,rfl,D,_,rfl,f1,f2⟩
  ·rintro σ H' ⟨⟨v5,rfl⟩,k,got⟩
   rw[ab,bG] at got
   exact⟨_,rfl,q D ns H' got srt mt (fun b o h=>k _ _ (E2 _ _ h) fun z=>by rw[z,nD] at h; cases h) nD⟩
end
end Eo
namespace L2
open PySem
def spEx {α:Type}(p:α->Prop)(sp:α->Sp):Sp:=fun vs H Q E=>∃ a,p a/\sp a vs H Q E
theorem FnOk.ex {α:Type}{p:α->Prop}{sp:α->Sp}{P:Program}{w:World}{K:W.Frag}{mg:Str->Option Value}{base:Heap}{CX:CXT}{k:Nat}{f:Addr}{fd:FuncData}{ps:List Str}(h:∀ a,p a->FnOk P w K mg base CX k f fd ps (sp a)):FnOk P w K mg base CX k f fd ps (spEx p sp):=
 ⟨fun vs H Q E ⟨a,pa,q⟩=>(h a pa).len vs H Q E q,fun A outer s H args us vs Q E hr he hb hv ⟨a,pa,q⟩=>(h a pa).run A outer s H args us vs Q E hr he hb hv q⟩
theorem Callee.mono {P:Program}{w:World}{K:W.Frag}{mg:Str->Option Value}{base:Heap}{Z:Shared->Hp->Prop}{zh:Hp->Prop}{i k:Nat}{a:Addr}{sp:Sp}(C:Callee P w K mg base Z zh i a sp)(h:i<=k):Callee P w K mg base Z zh k a sp:=
 ⟨C.fn,fun A outer s H us vs Q E hr=>C.run A outer s H us vs Q E (hr.mono h)⟩
theorem Callee.imp {P:Program}{w:World}{K:W.Frag}{mg:Str->Option Value}{base:Heap}{Z Z':Shared->Hp->Prop}{zh:Hp->Prop}{k:Nat}{a:Addr}{sp:Sp}(C:Callee P w K mg base Z zh k a sp)(h:∀ s H,Z' s H->Z s H):Callee P w K mg base Z' zh k a sp:=
 ⟨C.fn,fun A outer s H us vs Q E hr he hz=>C.run A outer s H us vs Q E hr he (h _ _ hz)⟩
theorem FnOk.never {P:Program}{w:World}{K:W.Frag}{mg:Str->Option Value}{base:Heap}{CX:CXT}{k:Nat}{f:Addr}{fd:FuncData}{ps:List Str} :FnOk P w K mg base CX k f fd ps (fun _ _ _ _=>False):=
 ⟨fun _ _ _ _ h=>h.elim,fun _ _ _ _ _ _ _ _ _ _ _ _ _ h=>h.elim⟩
theorem jUN {a:Arguments}{b:Expr}{sc:Scope}{pos:Pos}{es:List Expr}{env:Env} :starEach (.Lambda a b sc pos::es) env=(false,eval (.Lambda a b sc pos) env)::starEach es env:=rfl
end L2
namespace Eo
open PySem L2
theorem got0 {H:Hp}{r:Addr}{ch:Ch}{R:RepT}{ns:List Nat}(g:GotAt H r ch R ns)(nd:ns.Pairwise (· > ·))(m:MetOk ch ns):∃ u,DGet H r (.int 0) (some u)/\R 0 H u:=by
 obtain⟨us,h1,h2⟩:=g.ex
 obtain⟨u,hu,ru⟩:=jEU h2 (nd.imp fun {a b} h=>by lia) m.zero
 refine⟨u,?_,ru⟩
 have:=DGet.k (k:=Sum.inl (0:Int)) h1
 rw[show valV (gvs ns us) (Sum.inl (0:Int))=some u from hu] at this
 exact this
theorem jGI {H H1:Hp}{l:Addr}(e:Ext H H1)(n:H1 l=none):H l=none:=by
 cases z:H l with
 | none=>rfl
 | some o=>rw[e _ _ z] at n; cases n
end Eo
namespace L2
open PySem PySem.Spec PyProof.Rows
theorem jRH {X:Cx}{e:Expr}{te:TE}{pos:Pos}{i:Nat}{x:PySem.Str}{op:Operator}{ti:TIp}{pos':Pos}(hN:X.N.Nodup)(hi:X.N[i]?=some x)(hx:Loc1 X x)(he:JE X e te)(ho:PIp X op ti):JS X (.AugAssign (.Name x pos') op e pos) (tAug i te ti):=⟨jUW hN hi hx.a he.h ho hx.b⟩
end L2
namespace Eo
open PySem L2
def yL (pc:List Int×Int):Int:=pc.1.getD 0 0
def cntF (pcs:List (List Int×Int))(t:Int):Nat:=pcs.countP fun pc=>decide (t<=yL pc)
def lead (pcs:List (List Int×Int))(t:Int)(i:Nat):Nat:=(pcs.take i).countP fun pc=>decide (yL pc=t)
theorem jH1 (t:Int):∀ pcs:List (List Int×Int),cntF pcs t=cntF pcs (t+1)+pcs.countP fun pc=>decide (yL pc=t)
 | []=>rfl
 | p::r=>by
  have ih:=jH1 t r
  unfold cntF at ih ⊢
  rw[bN,bN,bN,ih]
  by_cases h1:yL p=t
  ·have h2:t<=yL p:=by lia
   have h3:¬ t+1<=yL p:=by lia
   have h4:¬ t+1<=t:=by lia
   simp [h1,h4]
   try lia
  ·by_cases h2:t<=yL p
   ·have h3:t+1<=yL p:=by lia
    simp [h1,h2,h3]
    lia
   ·have h3:¬ t+1<=yL p:=by lia
    simp [h1,h2,h3]
theorem jW9 (pcs:List (List Int×Int))(t:Int):cntF pcs t<=pcs.length:=kf
theorem jQ1 (pcs:List (List Int×Int))(t:Int):2 ^ cntF pcs (t+1)*(1+lead pcs t pcs.length)<=2 ^ cntF pcs t:=by
 unfold lead
 rw[bG,jH1 t pcs,Nat.pow_add]
 refine lh _ ?_
 have:=Nat.lt_two_pow_self (n:=pcs.countP fun pc=>decide (yL pc=t))
 lia
theorem jN5 {pcs:List (List Int×Int)}{t:Int}{i:Nat}{pc:List Int×Int}(h:pcs[i]?=some pc):lead pcs t (i+1)=lead pcs t i+if yL pc=t then 1 else 0:=by
 unfold lead
 rw[bf,h]
 show ((pcs.take i)++[pc]).countP _=_
 rw[iN,bN,List.countP_nil]
 simp
def wJ (l:List (Int×List (List Int))):List (List Int):=l.flatMap fun p=>p.2.map fun x=>if p.1<0 then x else p.1::x
def wk (ch:Ch)(m:Nat):List (List Int):=gv ch [[]] wJ m
theorem jFY (a b:List (Int×List (List Int))):wJ (a++b)=wJ a++wJ b:=List.flatMap_append
theorem jAH (ch:Ch):wk ch (fullN ch)=[[]]:=jTP
theorem yR {ch:Ch}{m:Nat}(o:ChOk ch)(h:m<2 ^ ch.length)(hn:m≠fullN ch):wk ch m=wJ ((chAt ch m).map fun c=>(c.1,wk ch (m|||c.2))):=jTO o h hn
theorem jPV (w:Nat):lowN (2 ^ w - 1)=w:=by
 refine jRC ?_ fun j hj=>?_
 ·rw[cq,aM (by lia)]
 ·rw[cq,ay hj]
theorem jVO {m c:Nat}(h:c.testBit (lowN m)=true):lowN m<lowN (m|||c):=by
 refine cO fun z=>?_
 have n1:=yV (m|||c)
 rw[bH] at n1
 rcases ff (lowN (m|||c)) (lowN m) with y | y
 ·rw[jBO m _ y] at n1
  cases n1
 ·rw[show lowN (m|||c)=lowN m by lia,h,gF] at n1
  cases n1
theorem jB3 {ch:Ch}(o:ChOk ch){P:Nat->Prop}(h0:P (fullN ch))(hs:∀ m,m<2 ^ ch.length->m≠fullN ch->(∀ c∈chAt ch m,P (m|||c.2))->P m):∀ m,m<2 ^ ch.length->P m:=by
 intro m hm
 generalize hk:fullN ch - m=k
 induction k using strongRecOn generalizing m with
 | _ k ih=>
  by_cases hf:m=fullN ch
  ·rw[hf]
   exact h0
  ·have hlt:m<fullN ch:=by
    unfold fullN at hf ⊢
    lia
   refine hs m hm hf fun c hc=>?_
   obtain⟨u1,u2⟩:=o.up hm hf hc
   exact ih (fullN ch - (m|||c.2)) (by lia) _ u2 rfl
theorem mem_wJ {l:List (Int×List (List Int))}{x:List Int} :x∈wJ l↔∃ p∈l,∃ y∈p.2,x=if p.1<0 then y else p.1::y:=by
 unfold wJ
 rw[List.mem_flatMap]
 refine exists_congr fun p=>ie fun _=>?_
 rw[aL]
 exact exists_congr fun y=>ie fun _=>eq_comm
theorem jKP (l:List Int):l.getD 0 0=l.headD 0:=by cases l <;> rfl
theorem jKK (pcs:List (List Int×Int))(t:Nat)(i:Nat)(hi:i<=pcs.length):(((upto pcs.length).take i).filter fun k=>decide ((j4 pcs k).headD 0=(t:Int))).length=lead pcs t i:=by
 induction i with
 | zero=>rfl
 | succ i ih=>
  have hil:i<pcs.length:=by lia
  rw[jG1 hil,bV,aC,ih (by lia),jN5 (ak hil)]
  congr 1
  rw[dW,ic]
  have e:j4 pcs (i:Int)=pcs[i].1:=by
   unfold j4
   rw[aK,ai,ak hil]
   rfl
  unfold yL
  rw[e,jKP]
  by_cases h:pcs[i].1.headD 0=(t:Int)
  ·rw[ah (ay h),ah h]
   rfl
  ·rw[ae (fun z=>h (az z)),ae h]
   rfl
theorem jQM (pcs:List (List Int×Int)){s t:Int}(h:s<=t):cntF pcs t<=cntF pcs s:=by
 unfold cntF
 refine List.countP_mono_left fun x _ hx=>?_
 have:=az hx
 exact ay (by lia)
theorem jGW {α β:Type}(f:α->List β)(B:Nat):∀ (l:List α),(∀ a∈l,(f a).length<=B)->(l.flatMap f).length<=l.length*B
 | [],_=>by simp
 | a::l,h=>by
  rw[List.flatMap_cons,aC,aU,Nat.succ_mul]
  have h1:=h a (am ..)
  have h2:=jGW f B l fun x hx=>h x (aj _ hx)
  lia
theorem jU9 {w:Int}{ms:List Int}{pcs:List (List Int×Int)}(g:Good 16 32 w ms pcs):∀ m,m<2 ^ (chs w.toNat ms pcs).length->(wk (chs w.toNat ms pcs) m).length<=2 ^ cntF pcs (lowN m:Nat):=by
 have o:ChOk (chs w.toNat ms pcs):=qA g
 refine jB3 o ?_ ?_
 ·rw[jAH]
  exact Nat.one_le_two_pow
 ·intro m hm hf ih
  have hl:lowN m<w.toNat:=by
   have:=qE hm hf
   unfold chs at this
   rwa [kQ] at this
  rw[yR o hm hf]
  unfold wJ
  refine bM (jGW _ (2 ^ cntF pcs ((lowN m:Nat)+1:Int)) _ fun p hp=>?_) ?_
  ·obtain⟨c,hc,rfl⟩:=aL.mp hp
   rw[ab]
   have lo:=jVO (o.mem hm hf hc).1
   exact bM (ih c hc) (bS (by decide) (jQM pcs (by lia)))
  ·rw[ab,lB]
   refine bM (lh _ ?_) (jQ1 pcs (lowN m:Nat))
   unfold chAt
   refine bM (bJ _ _) ?_
   unfold chs
   rw[ai,yB hl]
   show (yG ms pcs pcs.length (lowN m)).length<=_
   unfold yG
   rw[aC,ab,jKK pcs _ _ (ar _)]
   split <;> simp only [aU,dq] <;> lia
theorem jE0 (a b:Int):decide (V.int a=V.int b)=decide (a=b):=by
 rw[bO,bi,bi]
 exact⟨fun h=>V.int.inj h,fun h=>by rw[h]⟩
def LsAt (H:Hp)(us:List V)(ws:List (List Int)):Prop:=All2 (fun v x=>∃ a,v=V.ref a/\H a=some (.tup (x.map V.int))) us ws
theorem LsAt.mono {H H':Hp}{us:List V}{ws:List (List Int)}(t:Tups H H')(h:LsAt H us ws):LsAt H' us ws:=All2.imp (fun v x ⟨a,e,q⟩=>⟨a,e,t _ _ q⟩) h
def cvs (w:Int)(ms:List Int)(pcs:List (List Int×Int)):List (List Int):=(wk (chs w.toNat ms pcs) 0).map srt
theorem jB9 {w:Int}{ms:List Int}{pcs:List (List Int×Int)}{m:Nat}{c:Int×Nat}(hl:lowN m<w.toNat):c∈chAt (chs w.toNat ms pcs) m↔c.2&&&m=0/\((c=(-1,2 ^ lowN m)/\(lowN m:Int)∈ms)\/∃ k:Int,c=(k,maskN (j4 pcs k))/\0<=k/\k<pcs.length/\(j4 pcs k).headD 0=(lowN m:Int)):=by
 unfold chAt
 rw[aQ,dM,and_comm]
 refine ie fun _=>?_
 unfold chs
 rw[ai,yB hl]
 show c∈yG ms pcs pcs.length (lowN m)↔_
 unfold yG
 rw[aR]
 refine or_congr ?_ ?_
 ·by_cases h:(lowN m:Int)∈ms
  ·rw[ah h,aE]
   exact⟨fun z=>⟨z,h⟩,fun z=>z.1⟩
  ·rw[ae h]
   exact⟨fun z=>(by cases z),fun z=>absurd z.2 h⟩
 ·rw[bK (by rw[y6]; exact ar _),aL]
  constructor
  ·rintro ⟨k,hk,rfl⟩
   obtain⟨h1,h2⟩:=aQ.mp hk
   have b:=(kO pcs.length).bnd k h1
   exact⟨k,rfl,b.1,b.2,az h2⟩
  ·rintro ⟨k,rfl,h1,h2,h3⟩
   refine⟨k,aQ.mpr ⟨?_,ay h3⟩,rfl⟩
   unfold upto
   exact aL.mpr ⟨k.toNat,br.mpr (by lia),by lia⟩
structure CovM (w:Int)(ms:List Int)(pcs:List (List Int×Int))(m:Nat)(x:List Int):Prop where
 nd:x.Nodup
 bnd:∀ k∈x,0<=k/\k<pcs.length
 off:∀ k∈x,∀ t∈j4 pcs k,m.testBit t.toNat=false
 dis:∀ k∈x,∀ k'∈x,k≠k'->∀ t∈j4 pcs k,t∉j4 pcs k'
 cov:∀ t:Nat,t<w.toNat->m.testBit t=false->(t:Int)∉ms->∃ k∈x,(t:Int)∈j4 pcs k
section
variable {w:Int}(g:Good 16 32 w ms pcs)
include g
theorem yK {k:Int}(h0:0<=k)(h1:k<pcs.length):Lot w (j4 pcs k):=(g.at (k:=k.toNat) (by lia)).lot
theorem jDM {k:Int}(h0:0<=k)(h1:k<pcs.length)(t:Nat):(maskN (j4 pcs k)).testBit t=decide ((t:Int)∈j4 pcs k):=jAM _ t (yK g h0 h1).ris fun x hx=>((yK g h0 h1).bnd x hx).1
theorem jMA {k:Int}(h0:0<=k)(h1:k<pcs.length){m:Nat} :maskN (j4 pcs k)&&&m=0↔∀ t∈j4 pcs k,m.testBit t.toNat=false:=by
 have l:=yK g h0 h1
 constructor
 ·intro h t ht
  have bt:=l.bnd t ht
  have q:=bX (fun z=>z.testBit t.toNat) h
  simp only [cX,b8,jDM g h0 h1] at q
  rw[show ((t.toNat:Nat):Int)=t by lia,ay ht,g7] at q
  exact q
 ·intro h
  apply cI
  intro i
  rw[cX,b8,jDM g h0 h1]
  by_cases hi:(i:Int)∈j4 pcs k
  ·have:=h _ hi
   rw[aK] at this
   rw[this,eU]
  ·rw[aM hi]
   rfl
theorem jA2 {k:Int}(h0:0<=k)(h1:k<pcs.length):(j4 pcs k).headD 0∈j4 pcs k/\∀ t∈j4 pcs k,(j4 pcs k).headD 0<=t:=by
 have l:=yK g h0 h1
 refine⟨jFL l.ne,fun t ht=>?_⟩
 have r:=l.ris
 cases z:j4 pcs k with
 | nil=>rw[z] at ht; cases ht
 | cons a q=>
  rw[z] at ht r
  show a<=t
  rcases aF.mp ht with y | y
  ·lia
  ·have:=(cG.mp r).1 t y
   lia
theorem jES:∀ m,m<2 ^ (chs w.toNat ms pcs).length->∀ x∈wk (chs w.toNat ms pcs) m,CovM w ms pcs m x:=by
 have o:ChOk (chs w.toNat ms pcs):=qA g
 have el:(chs w.toNat ms pcs).length=w.toNat:=kQ _ _ _ _
 refine jB3 o ?_ ?_
 ·intro x hx
  rw[jAH,aE] at hx
  subst hx
  refine⟨fo,fun k hk=>(by cases hk),fun k hk=>(by cases hk),fun k hk=>(by cases hk),fun t ht hb _=>?_⟩
  unfold fullN at hb
  rw[el,cq,ay ht] at hb
  cases hb
 ·intro m hm hf ih x hx
  have hl:lowN m<w.toNat:=by have:=qE hm hf; rwa [el] at this
  rw[yR o hm hf] at hx
  obtain⟨p,hp,y,hy,rfl⟩:=mem_wJ.mp hx
  obtain⟨c,hc,rfl⟩:=aL.mp hp
  have I:=ih c hc y hy
  have offm:∀ k∈y,∀ t∈j4 pcs k,m.testBit t.toNat=false:=fun k hk t ht=>by
   have:=I.off k hk t ht
   rw[bH,fz] at this
   exact this.1
  obtain⟨hz,hcase⟩:=(jB9 hl).mp hc
  rcases hcase with ⟨rfl,hms⟩ | ⟨k,rfl,k0,k1,hd⟩
  ·dsimp only
   rw[ah (show (-1:Int)<0 by decide)]
   refine⟨I.nd,I.bnd,offm,I.dis,fun t ht hb hn=>?_⟩
   refine I.cov t ht ?_ hn
   rw[bH,hb,iZ,cR,aM]
   intro z
   subst z
   exact hn hms
  ·dsimp only at I hz ⊢
   rw[ae (by lia)]
   have ky:∀ t∈j4 pcs k,∀ k'∈y,t∉j4 pcs k':=fun t ht k' hk' ht'=>by
    have:=I.off k' hk' t ht'
    have bt:=(yK g k0 k1).bnd t ht
    rw[bH,jDM g k0 k1,show ((t.toNat:Nat):Int)=t by lia,ay ht,gF] at this
    cases this
   have hhd:=(jA2 g k0 k1).1
   refine⟨bF.mpr ⟨fun z=>ky _ hhd k z hhd,I.nd⟩,fun k' hk'=>?_,fun k' hk' t ht=>?_,fun k1' h1' k2' h2' ne t ht=>?_,fun t ht hb hn=>?_⟩
   ·rcases aF.mp hk' with z | z
    ·rw[z]; exact⟨k0,k1⟩
    ·exact I.bnd k' z
   ·rcases aF.mp hk' with z | z
    ·rw[z] at ht
     exact(jMA g k0 k1).mp hz t ht
    ·exact offm k' z t ht
   ·rcases aF.mp h1' with z | z <;> rcases aF.mp h2' with u | u
    ·exact absurd (z.trans u.symm) ne
    ·rw[z] at ht
     exact ky t ht _ u
    ·rw[u]
     intro q
     exact ky t q _ z ht
    ·exact I.dis _ z _ u ne t ht
   ·by_cases hk:(t:Int)∈j4 pcs k
    ·exact⟨k,am .., hk⟩
    ·obtain⟨k',h1,h2⟩:=I.cov t ht (by rw[bH,hb,jDM g k0 k1,aM hk]; rfl) hn
     exact⟨k',aj _ h1,h2⟩
theorem jHK:∀ m,m<2 ^ (chs w.toNat ms pcs).length->∀ x,CovM w ms pcs m x->∃ y∈wk (chs w.toNat ms pcs) m,∀ k,k∈y↔k∈x:=by
 have o:ChOk (chs w.toNat ms pcs):=qA g
 have el:(chs w.toNat ms pcs).length=w.toNat:=kQ _ _ _ _
 have w0:=g.w0
 refine jB3 o ?_ ?_
 ·intro x C
  refine⟨[],by rw[jAH]; exact aE.mpr rfl,fun k=>⟨fun z=>(by cases z),fun hk=>?_⟩⟩
  exfalso
  have b:=C.bnd k hk
  have hh:=(jA2 g b.1 b.2).1
  have hb:=(yK g b.1 b.2).bnd _ hh
  have:=C.off k hk _ hh
  unfold fullN at this
  rw[el,cq,ay (by lia)] at this
  cases this
 ·intro m hm hf ih x C
  have hl:lowN m<w.toNat:=by have:=qE hm hf; rwa [el] at this
  have hstep:=yR o hm hf
  by_cases hx:∃ k∈x,(lowN m:Int)∈j4 pcs k
  ·obtain⟨k,hk,ht⟩:=hx
   have b:=C.bnd k hk
   have hd:(j4 pcs k).headD 0=(lowN m:Int):=by
    obtain⟨h1,h2⟩:=jA2 g b.1 b.2
    have h3:=h2 _ ht
    have hb:=(yK g b.1 b.2).bnd _ h1
    have h4:=C.off k hk _ h1
    rcases Int.lt_or_eq_of_le h3 with z | z
    ·have:=jBO m ((j4 pcs k).headD 0).toNat (by lia)
     rw[this] at h4
     cases h4
    ·exact z
   have fit:maskN (j4 pcs k)&&&m=0:=(jMA g b.1 b.2).mpr (C.off k hk)
   have hc:((k,maskN (j4 pcs k)):Int×Nat)∈chAt (chs w.toNat ms pcs) m:=(jB9 hl).mpr ⟨fit, .inr ⟨k,rfl,b.1,b.2,hd⟩⟩
   have memE:∀ j,j∈x.erase k↔j≠k/\j∈x:=fun j=>C.nd.mem_erase_iff
   obtain⟨y,hy,hye⟩:=ih _ hc (x.erase k) ⟨C.nd.erase k,fun j hj=>C.bnd j ((memE j).mp hj).2,fun j hj t ht'=>by
     obtain⟨n1,n2⟩:=(memE j).mp hj
     have bj:=C.bnd j n2
     have bt:=(yK g bj.1 bj.2).bnd t ht'
     have:=C.dis j n2 k hk n1 t ht'
     rw[bH,C.off j n2 t ht',jDM g b.1 b.2,show ((t.toNat:Nat):Int)=t by lia,aM this]
     rfl,fun j1 h1 j2 h2=>C.dis j1 ((memE j1).mp h1).2 j2 ((memE j2).mp h2).2,fun t ht' hb hn=>by
     rw[bH,fz,jDM g b.1 b.2,b9] at hb
     obtain⟨j,hj,hjt⟩:=C.cov t ht' hb.1 hn
     exact⟨j,(memE j).mpr ⟨fun z=>hb.2 (z ▸ hjt),hj⟩,hjt⟩⟩
   refine⟨k::y,?_,fun j=>?_⟩
   ·rw[hstep,mem_wJ]
    exact⟨_,ce hc,y,hy,by dsimp only; rw[ae (by lia)]⟩
   ·rw[aF,hye,memE]
    constructor
    ·rintro (z | z)
     ·rw[z]; exact hk
     ·exact z.2
    ·intro z
     by_cases hj:j=k
     ·exact .inl hj
     ·exact .inr ⟨hj,z⟩
  ·have hms:(lowN m:Int)∈ms:=cO fun z=>hx (C.cov (lowN m) hl (yV m) z)
   have fit:2 ^ lowN m&&&m=0:=by
    apply cI
    intro i
    rw[cX,b8,cR]
    by_cases hi:lowN m=i
    ·rw[<- hi,yV,eU]
    ·rw[aM hi]
     rfl
   have hc:((-1,2 ^ lowN m):Int×Nat)∈chAt (chs w.toNat ms pcs) m:=(jB9 hl).mpr ⟨fit, .inl ⟨rfl,hms⟩⟩
   obtain⟨y,hy,hye⟩:=ih _ hc x ⟨C.nd,C.bnd,fun j hj t ht'=>by
     have bj:=C.bnd j hj
     have bt:=(yK g bj.1 bj.2).bnd t ht'
     rw[bH,C.off j hj t ht',iZ,cR,aM]
     intro z
     refine hx ⟨j,hj,?_⟩
     rw[z,show ((t.toNat:Nat):Int)=t by lia]
     exact ht',C.dis,fun t ht' hb hn=>by
     rw[bH,fz] at hb
     exact C.cov t ht' hb.1 hn⟩
   refine⟨y,?_,hye⟩
   rw[hstep,mem_wJ]
   exact⟨_,ce hc,y,hy,by dsimp only; rw[ah (by decide)]⟩
theorem jP4:∀ m,m<2 ^ (chs w.toNat ms pcs).length->(wk (chs w.toNat ms pcs) m).Pairwise fun y z=>¬ ∀ k,k∈y↔k∈z:=by
 have o:ChOk (chs w.toNat ms pcs):=qA g
 have el:(chs w.toNat ms pcs).length=w.toNat:=kQ _ _ _ _
 refine jB3 o ?_ ?_
 ·rw[jAH]
  exact eX _ _
 ·intro m hm hf ih
  have hl:lowN m<w.toNat:=by have:=qE hm hf; rwa [el] at this
  rw[yR o hm hf]
  unfold wJ
  rw[List.pairwise_flatMap]
  have at0:∀ c∈chAt (chs w.toNat ms pcs) m,∀ y∈wk (chs w.toNat ms pcs) (m|||c.2),∀ k∈y,(lowN m:Int)∉j4 pcs k:=fun c hc y hy k hk ht=>by
   have C:=jES g _ (o.up hm hf hc).2 y hy
   have:=C.off k hk _ ht
   rw[aK,bH,(o.mem hm hf hc).1,gF] at this
   cases this
  constructor
  ·intro p hp
   obtain⟨c,hc,rfl⟩:=aL.mp hp
   rw[bA]
   refine(d9.mp (ih c hc)).imp fun {y z} h=>?_
   obtain⟨hy,hz,h⟩:=h
   dsimp only
   obtain⟨_,hcase⟩:=(jB9 hl).mp hc
   rcases hcase with ⟨rfl,hms⟩ | ⟨k,rfl,k0,k1,hd⟩
   ·rw[ah (show (-1:Int)<0 by decide),ah (show (-1:Int)<0 by decide)]
    exact h
   ·rw[ae (by lia),ae (by lia)]
    intro q
    refine h fun j=>?_
    have kt:(lowN m:Int)∈j4 pcs k:=by rw[<- hd]; exact(jA2 g k0 k1).1
    have ny:k∉y:=fun u=>at0 _ hc y hy k u kt
    have nz:k∉z:=fun u=>at0 _ hc z hz k u kt
    have qj:=q j
    rw[aF,aF] at qj
    constructor
    ·intro u
     rcases qj.mp (.inr u) with v | v
     ·rw[v] at u; exact absurd u ny
     ·exact v
    ·intro u
     rcases qj.mpr (.inr u) with v | v
     ·rw[v] at u; exact absurd u nz
     ·exact v
  ·rw[bA]
   have pw:(chAt (chs w.toNat ms pcs) m).Pairwise fun a b=>a.1≠b.1:=by
    unfold chAt chs
    rw[ai,yB hl]
    show ((yG ms pcs pcs.length (lowN m)).filter _).Pairwise _
    refine lc _ ?_
    unfold yG
    rw[cF]
    refine⟨by split <;> simp,?_,fun a ha b hb=>?_⟩
    ·rw[bA]
     refine lc _ (List.Pairwise.sublist (dH _ _) ?_)
     exact(kO pcs.length).ris.imp fun {a b} h=>by
      show a≠b
      lia
    ·obtain⟨k,hk,rfl⟩:=aL.mp hb
     have bk:=(kO pcs.length).bnd k (b0 (aQ.mp hk).1)
     split at ha
     ·rw[aE] at ha
      rw[ha]
      show (-1:Int)≠k
      lia
     ·cases ha
   refine(d9.mp pw).imp fun {c d} h=>?_
   obtain⟨hc,hd',ne⟩:=h
   intro x hx y hy q
   obtain⟨u,hu,rfl⟩:=aL.mp hx
   obtain⟨v,hv,rfl⟩:=aL.mp hy
   dsimp only at hu hv q
   obtain⟨_,h1⟩:=(jB9 hl).mp hc
   obtain⟨_,h2⟩:=(jB9 hl).mp hd'
   have one:∀ (k:Int) (z:List Int),0<=k->k<pcs.length->(j4 pcs k).headD 0=(lowN m:Int)->(lowN m:Int)∈j4 pcs k:=fun k z k0 k1 e=>by rw[<- e]; exact(jA2 g k0 k1).1
   rcases h1 with ⟨rfl,_⟩ | ⟨k,rfl,k0,k1,hk⟩ <;> rcases h2 with ⟨rfl,_⟩ | ⟨j,rfl,j0,j1,hj⟩
   ·exact ne rfl
   ·rw[ah (show (-1:Int)<0 by decide),ae (by lia)] at q
    exact at0 _ hc u hu j ((q j).mpr (am ..)) (one j v j0 j1 hj)
   ·rw[ae (by lia),ah (show (-1:Int)<0 by decide)] at q
    exact at0 _ hd' v hv k ((q k).mp (am ..)) (one k v k0 k1 hk)
   ·rw[ae (by lia),ae (by lia)] at q
    rcases aF.mp ((q k).mp (am ..)) with z | z
    ·exact ne z
    ·exact at0 _ hd' v hv k z (one k v k0 k1 hk)
end
structure IsCov (w:Int)(ms:List Int)(pcs:List (List Int×Int))(c:List Int):Prop where
 ris:Ris pcs.length c
 dis:∀ k∈c,∀ k'∈c,k≠k'->∀ t∈j4 pcs k,t∉j4 pcs k'
 cov:∀ t:Int,0<=t->t<w->t∉ms->∃ k∈c,t∈j4 pcs k
section
variable {w:Int}(g:Good 16 32 w ms pcs)
include g
theorem jAV {c:List Int} :c∈cvs w ms pcs↔IsCov w ms pcs c:=by
 have z0:0<2 ^ (chs w.toNat ms pcs).length:=dN _
 have w0:=g.w0
 unfold cvs
 rw[aL]
 constructor
 ·rintro ⟨x,hx,rfl⟩
  have C:=jES g 0 z0 x hx
  have me:∀ k,k∈srt x↔k∈x:=fun k=>(jAF x).mem_iff
  refine⟨⟨?_,fun k hk=>C.bnd k ((me k).mp hk)⟩,fun k hk k' hk'=>C.dis k ((me k).mp hk) k' ((me k').mp hk'),fun t t0 t1 hn=>?_⟩
  ·exact(gz (jLK x) ((jAF x).nodup_iff.mpr C.nd)).imp fun {a b} h=>by lia
  ·obtain⟨k,hk,hkt⟩:=C.cov t.toNat (by lia) (b8 _) (by rw[show ((t.toNat:Nat):Int)=t by lia]; exact hn)
   exact⟨k,(me k).mpr hk,by rwa [show ((t.toNat:Nat):Int)=t by lia] at hkt⟩
 ·intro C
  obtain⟨y,hy,hye⟩:=jHK g 0 z0 c ⟨C.ris.ris.imp fun {a b} h=>by lia,C.ris.bnd,fun k hk t ht=>b8 _,C.dis,fun t ht _ hn=>C.cov t (by lia) (by lia) hn⟩
  refine⟨y,hy,?_⟩
  have ny:=(jES g 0 z0 y hy).nd
  have nc:c.Nodup:=C.ris.ris.imp fun {a b} h=>by lia
  have pm:c.Perm y:=(fw nc ny).mpr fun k=>(hye k).symm
  exact(jLL (C.ris.ris.imp fun {a b} h=>by lia) pm).symm
theorem jGY:(cvs w ms pcs).Nodup:=by
 have z0:0<2 ^ (chs w.toNat ms pcs).length:=dN _
 unfold cvs
 refine bA.mpr ((jP4 g 0 z0).imp fun {y z} h e=>h fun k=>?_)
 rw[<- (jAF y).mem_iff,e,(jAF z).mem_iff]
end
theorem jIA (w:Int)(ms:List Int)(pcs:List (List Int×Int)):(cvs w ms pcs).length=(wk (chs w.toNat ms pcs) 0).length:=ab ..
theorem jI0 {α β:Type} [DecidableEq β](f:α->β):∀ {l:List α}{m:List β},l.Nodup->(∀ a∈l,f a∈m)->(∀ a∈l,∀ b∈l,f a=f b->a=b)->l.length<=m.length
 | [],m,_,_,_=>bx _
 | a::l,m,nd,h,inj=>by
  have ha:=h a (am ..)
  obtain⟨n1,n2⟩:=bF.mp nd
  have:=jI0 f (m:=m.erase (f a)) n2 (fun b hb=>(List.mem_erase_of_ne fun e=>n1 (inj _ (aj _ hb) _ (am ..) e ▸ hb)).mpr (h b (aj _ hb))) fun b hb c hc=>inj b (aj _ hb) c (aj _ hc)
  rw[List.length_erase_of_mem ha] at this
  have:=ju ha
  rw[aU]
  lia
noncomputable def lamOf (s:Stmt):Arguments×Expr×Scope×Pos:=match jD s with
 | [.Return (some (.Call _ [_,_, .Lambda a b sc p] _ _)) _]=>(a,b,sc,p)
 | _=>(yE s, .Constant .none 0 ⟨0,0,0,0⟩,j9 s,⟨0,0,0,0⟩)
abbrev lamA:Arguments:=(lamOf qL).1
abbrev lamB:Expr:=(lamOf qL).2.1
abbrev lamS:Scope:=(lamOf qL).2.2.1
abbrev lamP:Pos:=(lamOf qL).2.2.2
noncomputable abbrev nLam:List Str:=["behind"]
theorem scLam:NScope nLam ["behind"] [] lamS:=⟨rfl,rfl,rfl,by decide+kernel,rfl,by decide+kernel,by decide+kernel,fun x h=>by
  have hl:∀ y∈lamS.names,y.2≠ .free:=by decide+kernel
  exact absurd rfl (hl _ (cP h)),by decide+kernel⟩
def RWay (ch:Ch):RepT:=fun m _ v=>v=natV (wk ch m).length
theorem RWay.ok (ch:Ch):RepOk (RWay ch):=fun _ _=>⟨fun _ _ _ _ _ _ _ h=>h,fun _ _ _ h=>h⟩
theorem jL2 (l:List (Int×List (List Int))):(wJ l).length=(l.map fun p=>p.2.length).sum:=by
 unfold wJ
 rw[List.length_flatMap]
 congr 1
 refine aX fun p _=>?_
 rw[ab]
abbrev qLam:Str:= "ways_of.<locals>.<lambda>"
def jQ2 (T:Txt mg): { t:TE // JE (cxN P w K mg base nLam qLam lamS a (.ref c) cl A outer s H0) lamB t} :=⟨_,(jG (jC6 rfl) (gl_n (by decide+kernel)) T.sum (by decide+kernel) (j3 (kN (m:=[none,none]) (Nc:=["number","ways"]) rfl (yC (jv 0 rfl qJ)) rfl (by decide+kernel) (by decide+kernel) (fun y hy hf=>absurd hf (by revert y; decide+kernel)) (jH (N:=nLam) rfl rfl (by decide+kernel)) (fun cl C fp s H=>jAO (i:=0) (j:=1) rfl (show (["number","ways"]:List Str).Nodup by decide+kernel) rfl rfl (by decide+kernel) (by decide+kernel)) (fun cl C fp s H=>y4) (fun cl C fp s H=>(jv 1 rfl jO)) yD) j7 jJ) jJ)⟩
def zhW (a c:Addr):Hp->Prop:=fun H=>H a=some (.ext (nlP qLam lamA lamB lamS [] a c))/\H c=some (.ext (ncP qLam c))
theorem zhW.ok (a c:Addr):HpOk (zhW a c):=⟨fun H H' D kvs hD _ k h=>⟨k _ _ h.1 fun z=>(by rw[<- z,h.1] at hD; cases hD),k _ _ h.2 fun z=>(by rw[<- z,h.2] at hD; cases hD)⟩,fun H H' e h=>⟨e _ _ h.1,e _ _ h.2⟩⟩
theorem jVJ {ch:Ch}(o:ChOk ch)(T:Txt mg):Callee P w K mg base ZT (zhW a c) 1 a (jDI ch (RWay ch)):=by
 refine Callee.imp (jW6 (fv:=[]) scLam (fun vs H Q E h=>?_) (fun pm ctv us hl=>?_) fun A outer s H vs Q E hr h=>?_) fun s H _=>⟨⟨fun x y c h=>(by cases h),fun x c h=>(by cases h)⟩,rfl,fun i x v h=>(by cases h)⟩
 ·obtain⟨_,_,_,rfl,_⟩:=h
  rfl
 ·match us,hl with
  | [_],_=>rfl
 ·obtain⟨l,us,m,rfl,hl,hm,hf,av,q⟩:=h
  refine⟨_,(jQ2 T).2.h,?_⟩
  have vl:us.length<=33:=by
   rw[av.len]
   have hlow:=qE hm hf
   refine bM (bJ _ _) ?_
   rw[ai,ak hlow]
   exact o.len _ _ (ak hlow)
  refine⟨_,rfl,l,rfl,⟨_,SqL.of hl⟩,jAW (xs:=us) (fun σ=>∃ v1 v2,σ=[v1,v2]) (mapZ (chAt ch m) fun c=>natV (wk ch (m|||c.2)).length) (mapZ.ok _ _) hl (by rw[aJ]; lia) ⟨_,_,rfl⟩ ?_ ?_⟩
  ·rintro j x σ' H' zs hx ⟨v1,v2,rfl⟩ e hz S1 S2 yes no
   obtain⟨c,hc,p,u,rfl,hp,hR⟩:=av.get' hx
   have hR:u=natV (wk ch (m|||c.2)).length:=hR
   subst hR
   refine⟨p,_,rfl,SqT.of (e _ _ hp),rfl,_,_,rfl,_,_,rfl,rfl,?_⟩
   dsimp only [yQ]
   rw[ah rfl]
   exact⟨_,rfl,yes _ _ _ ⟨_,_,rfl⟩ (Ext.refl _) (hz.yes hc)⟩
  ·rintro D H' zs hD e nD hz
   have hz:=hz.all (by rw[av.len]; exact ar _)
   have hz2:zs=((chAt ch m).map fun c=>((wk ch (m|||c.2)).length:Int)).map V.int:=by rw[hz,ba]; rfl
   rw[hz2] at hD
   refine⟨D,_,rfl,SqL.of hD,q _ _ ?_ e⟩
   show V.int _=natV _
   rw[yR o hm hf,jL2,ba]
   congr 1
   generalize chAt ch m=cs
   induction cs with
   | nil=>rfl
   | cons a r ih=>
    rw[aY,b6,aY,b6,ih]
    push_cast
    rfl
noncomputable abbrev nWays:List Str:=["choices"]
theorem scWays:FnScope nWays ["choices"] (j9 qL):= {}
abbrev TabW (H:Hp)(tb:Addr):Prop:=TabOk H tb lamP qLam
def jHP:Sp:=spEx (fun x:Addr×Addr×Ch=>ChOk x.2.2) fun x=>jIO x.1 (zhW x.1 x.2.1) x.2.2 (RWay x.2.2)
def jEB (tb:Addr):Sp:=fun vs H Q _=>∃ (L:Addr) (ch:Ch),vs=[.ref L]/\ChAt H L ch/\ChOk ch/\TabW H tb/\∀ (r:Addr) (ns:List Nat) (H':Hp),GotAt H' r ch (RWay ch) ns->ns.Pairwise (· > ·)->MetOk ch ns->ExtT tb H H'->TabW H' tb->H r=none->Q (.ref r) H'
def waysA (T:Txt mg)(CH:PySem.W.CodeHd base c0 tb)(BM:BltAt base mg)(CG:Can P w K mg base "gathered" 4 fG fdG ["choices","at_end","join"] jHP)(hr:Room 4 (XOf nWays "ways_of" qL P w K mg base f (.ref c0) A outer s H0 E).A): { t:TS // JSs (XOf nWays "ways_of" qL P w K mg base f (.ref c0) A outer s H0 E) (jD qL) t} :=
 have nd:=scWays.nd
 ⟨_,(jC (jQ (CG.je hr gD (j3 (jv 0 rfl vL) (j3 je_int (j3 (jVX rfl CH BM (fun y hy hf=>absurd hf (by revert y; decide+kernel)) rfl) j7 jUN) jL) j5) j5)))⟩
theorem jSZ {fd:FuncData}(F:FunC K "ways_of" "ways_of" qL f fd c0)(T:Txt mg)(CH:PySem.W.CodeHd base c0 tb)(BM:BltAt base mg)(CG:Can P w K mg base "gathered" 4 fG fdG ["choices","at_end","join"] jHP):FnOk P w K mg base CX0 5 f fd ["choices"] (jEB tb):=by
 refine F.ok scWays (fun vs H Q E h=>?_) (fun A outer s H vs Q E hr h=>?_)
 ·obtain⟨_,_,rfl,_⟩:=h
  rfl
 ·obtain⟨L,ch,rfl,hL,o,tab,q⟩:=h
  refine⟨_,(waysA T CH BM CG hr).2.h,?_⟩
  refine⟨_,rfl,tab,fun a c H1 k1 k2 k3 e1 na=>?_⟩
  have hL1:ChAt H1 L ch:=hL.keep (fun b xs h=>e1.at tab h) fun b xs h=>e1.at tab h
  refine⟨(a,c,ch),o,L,_,rfl,hL1,?_,⟨k1,k2⟩,fun r ns H2 got srt mt e2 n2=>?_⟩
  ·show V.int 1=natV _
   rw[jAH]
   rfl
  ·refine q r ns H2 got srt mt (fun b o hb hn=>e2 _ _ (e1 b o hb hn)) (.inr ⟨c,e2 _ _ k3,e2 _ _ k2⟩) ?_
   cases z:H r with
   | none=>rfl
   | some o=>
    by_cases hr:r=tb
    ·rw[hr,k3] at n2
     cases n2
    ·rw[e1 _ _ z hr] at n2
     cases n2
noncomputable abbrev nMany:List Str:=["box"]
theorem scMany:FnScope nMany ["box"] (j9 sMany):= {}
def jG7 (tb:Addr):Sp:=fun vs H Q _=>∃ (b:Addr) (w:Int) (ms:List Int) (pcs:List (List Int×Int)),vs=[.ref b]/\BoxAt H b w ms pcs/\Good 16 32 w ms pcs/\TabW H tb/\∀ H',ExtT tb H H'->TabW H' tb->Q (natV (wk (chs w.toNat ms pcs) 0).length) H'
def manyA (T:Txt mg)(CC:Can P w K mg base "choices_of" 2 fC fdC ["box"] kW)(CW:Can P w K mg base "ways_of" 5 fW fdW ["choices"] (jEB tb))(hr:Room 5 (XOf nMany "many" sMany P w K mg base f cdv A outer s H0 E).A): { t:TS // JSs (XOf nMany "many" sMany P w K mg base f cdv A outer s H0 E) (jD sMany) t} :=
 have nd:=scMany.nd
 ⟨_,(jC (jQ (jDU (qI hr) (CW.je hr gD (j3 (CC.je (hr.mono (by decide)) gD (j3 (jv 0 rfl vL) j7 j5) j5) j7 jF) jF) je_int jE)))⟩
theorem jT3 {fd:FuncData}(F:Fun K "many" "many" sMany f fd)(T:Txt mg)(CC:Can P w K mg base "choices_of" 2 fC fdC ["box"] kW)(CW:Can P w K mg base "ways_of" 5 fW fdW ["choices"] (jEB tb)):FnOk P w K mg base CX0 6 f fd ["box"] (jG7 tb):=by
 refine F.ok scMany (fun vs H Q E h=>?_) (fun cdv A outer s H vs Q E hr h=>?_)
 ·obtain⟨_,_,_,_,rfl,_⟩:=h
  rfl
 ·obtain⟨b,wi,ms,pcs,rfl,hB,g,tab,q⟩:=h
  refine⟨_,(manyA T CC CW hr).2.h,?_⟩
  refine⟨_,rfl,b,wi,ms,pcs,rfl,hB,g,fun L H1 hL1 e1=>?_⟩
  refine⟨L,_,rfl,hL1,qA g,tab.ext e1,fun r ns H2 got srt mt e2 t2 n2=>?_⟩
  obtain⟨u,dg,ru⟩:=got0 got srt mt
  have ru:u=natV _:=ru
  subst ru
  exact⟨r,_,rfl,dg,q H2 ((ExtT.of e1).trans e2) t2⟩
def btsN (n m:Nat):List Int:=((List.range n).filter fun t=>m.testBit t).map fun (t:Nat)=>(t:Int)
theorem jCI (p:Nat->Bool):∀ (d b:Nat),(∀ t,b<=t->p t=false)->(List.range (b+d)).filter p=(List.range b).filter p
 | 0,_,_=>rfl
 | d+1,b,h=>by
  rw[show b+(d+1)=(b+d)+1 by lia,dO,bV,jCI p d b h,dW,ae (by rw[h _ (by lia)]; exact aq),ic,bq]
theorem jQV {m a b:Nat}(ha:m<2 ^ a)(hb:m<2 ^ b):btsN a m=btsN b m:=by
 have f:∀ c,m<2 ^ c->∀ t,c<=t->m.testBit t=false:=fun c hc t ht=>dn (bh hc (bS (by decide) ht))
 unfold btsN
 congr 1
 rcases Nat.le_total a b with h | h
 ·obtain⟨d,rfl⟩:∃ d,b=a+d:=⟨b - a,by lia⟩
  exact(jCI _ d a (f a ha)).symm
 ·obtain⟨d,rfl⟩:∃ d,a=b+d:=⟨a - b,by lia⟩
  exact jCI _ d b (f b hb)
theorem jU2 (m:Nat):m<2 ^ Builtin.Int.intBits (m:Int):=by
 unfold Builtin.Int.intBits
 by_cases h:m=0
 ·subst h
  decide
 ·have:(((m:Nat):Int)==0)=false:=cc.mpr (by lia)
  rw[this,lA]
  exact Nat.lt_log2_self
theorem jU3 {m n:Nat}(h:m<2 ^ n):Builtin.Int.intBits (m:Int)<=n:=by
 unfold Builtin.Int.intBits
 by_cases h0:m=0
 ·subst h0
  exact bx _
 ·have:(((m:Nat):Int)==0)=false:=cc.mpr (by lia)
  rw[this,lA]
  exact(Nat.log2_lt h0).mpr h
theorem jJY (m t:Nat):decide (V.int (Builtin.bitAnd ((m:Int) / 2 ^ ((t:Nat):Int).toNat) 1)=V.int 1)=m.testBit t:=by
 have e:(m:Int) / 2 ^ ((t:Nat):Int).toNat=((m / 2 ^ t:Nat):Int):=by
  rw[aK]
  push_cast
  rfl
 rw[e,show Builtin.bitAnd ((m / 2 ^ t:Nat):Int) 1=((m / 2 ^ t&&&1:Nat):Int) from jCO _ 1,iL,gI,bO,bi,bi]
 constructor
 ·intro h
  have:=V.int.inj h
  lia
 ·intro h
  rw[h]
  rfl
theorem jOT (m t:Nat):decide (V.int (Builtin.bitAnd ((m:Int) / 2 ^ ((t:Nat):Int).toNat) 1)=V.int 0)=!m.testBit t:=by
 rw[<- jJY]
 have e:(m:Int) / 2 ^ ((t:Nat):Int).toNat=((m / 2 ^ t:Nat):Int):=by
  rw[aK]
  push_cast
  rfl
 rw[e,show Builtin.bitAnd ((m / 2 ^ t:Nat):Int) 1=((m / 2 ^ t&&&1:Nat):Int) from jCO _ 1,iL,bO,bi,cC,b9]
 constructor
 ·intro h z
  have:=V.int.inj h
  have:=V.int.inj z
  lia
 ·intro h
  have:m / 2 ^ t % 2=0:=by
   rcases cw (m / 2 ^ t) with y | y
   ·exact y
   ·exact absurd (by rw[y]; rfl) h
  rw[this]
  rfl
theorem jFT (n m:Nat):Ris (n:Int) (btsN n m):=by
 unfold btsN
 refine⟨bA.mpr ((gH.filter _).imp fun h=>by lia),fun z hz=>?_⟩
 obtain⟨t,ht,rfl⟩:=aL.mp hz
 have:=br.mp (aQ.mp ht).1
 lia
abbrev jMR:List Str:=["mask"]
theorem scLotOf:FnScope jMR ["mask"] (j9 jCU):= {}
def jF0:Sp:=fun vs H Q _=>∃ (m n:Nat),vs=[natV m]/\m<2 ^ n/\n<=64/\∀ r H',H' r=some (.tup ((btsN n m).map V.int))->Ext H H'->Q (.ref r) H'
def jVQ (T:Txt mg): { t:TS // JSs (XOf jMR "lot_of" jCU P w K mg base f cdv A outer s H0 E) (jD jCU) t} :=
 have nd:=scLotOf.nd
 ⟨_,(jC (jQ (kX jA0 gD T.tuple (by decide+kernel) (j3 (kN (m:=[none,some 0]) (Nc:=["thing","mask"]) rfl (jA6 gD T.range (j3 (jNK jt iw ix jMV (jv 0 rfl vC)) j7 jF) jF) rfl (by decide+kernel) (by decide+kernel) (jW (psc:=j9 jCU)) (jH (N:=jMR) rfl rfl (by decide+kernel)) (fun cl C fp s H=>jN (i:=0) (show (["thing","mask"]:List Str).Nodup by decide+kernel) rfl yW) (fun cl C fp s H=>jAZ (jI qG (jY jEI (jY jMC (jv 1 rfl yI) (jv 0 rfl jO)) (je_int)) (je_int) (jK _))) (fun cl C fp s H=>(jv 0 rfl jO)) kS) j7 jJ) jJ)))⟩
theorem jPL {fd:FuncData}(F:Fun K "lot_of" "lot_of" jCU f fd)(T:Txt mg):FnOk P w K mg base CX0 1 f fd ["mask"] jF0:=by
 refine F.ok scLotOf (fun vs H Q E h=>?_) (fun cdv A outer s H vs Q E hr h=>?_)
 ·obtain⟨_,_,rfl,_⟩:=h
  rfl
 ·obtain⟨m,n,rfl,hm,hn,q⟩:=h
  refine⟨_,(jVQ T).2.h,?_⟩
  have bl:=jU3 hm
  refine⟨_,rfl,rfl,_,rfl,rfl,_,rfl,by lia,by lia,jFQ (n:=(Builtin.Int.intBits (m:Int):Int).toNat) (fun σ=>∃ v,σ=[v,some (natV m)]) (outZ (List.range (Builtin.Int.intBits (m:Int):Int).toNat) (fun t=>m.testBit t) natV) (outZ.ok _ _ _) (by rw[aJ]; lia) ⟨_,rfl⟩ ?_ ?_⟩
  ·rintro j σ' H' zs hj ⟨v,rfl⟩ e hz S1 S2 yes no
   have e0:(0+(j:Int))=(j:Int):=by lia
   have hg:(List.range (Builtin.Int.intBits (m:Int):Int).toNat)[j]?=some j:=bQ hj
   refine⟨_,rfl,_,rfl,_,_,rfl,rfl,by lia,_,_,rfl,rfl,rfl,_,rfl,?_⟩
   show if decide (V.int (Builtin.bitAnd ((m:Int) / 2 ^ (0+(j:Int)).toNat) 1)=V.int 1)=true then _ else _
   rw[e0,jJY]
   refine ite2 (fun h=>?_) (fun h=>?_)
   ·refine⟨_,rfl,yes _ _ _ ⟨_,rfl⟩ (Ext.refl _) (hz.yes hg h)⟩
   ·exact no _ _ ⟨_,rfl⟩ (Ext.refl _) (hz.no hg (dL.mpr h))
  ·rintro D H' zs hD e nD hz
   have hz:=hz.all (by rw[bg]; exact ar _)
   refine⟨D,_,rfl, .inl ⟨SqL.of hD,fun r hr'=>q r _ ?_ ((e.trans ((Ext.refl _).new hr' _)))⟩⟩
   rw[j6,hz]
   have:=jQV (a:=n) hm (jU2 m)
   rw[this]
   unfold btsN
   rw[ba]
   rfl
theorem mem_bts {n m:Nat}{t:Int} :t∈btsN n m↔(0<=t/\t<n)/\m.testBit t.toNat=true:=by
 unfold btsN
 rw[aL]
 constructor
 ·rintro ⟨i,hi,rfl⟩
  obtain⟨h1,h2⟩:=aQ.mp hi
  have:=br.mp h1
  exact⟨by lia,by rw[aK]; exact h2⟩
 ·rintro ⟨⟨a,b⟩,h⟩
  exact⟨t.toNat,aQ.mpr ⟨br.mpr (by lia),h⟩,by lia⟩
theorem jPT {n m:Nat}(h:m<2 ^ n):maskN (btsN n m)=m:=by
 have r:=jFT n m
 refine cI fun i=>?_
 rw[jAM _ i r.ris fun x hx=>(r.bnd x hx).1]
 by_cases hi:i<n
 ·rw[bO,bi,mem_bts]
  constructor
  ·rintro ⟨_,z⟩; rwa [aK] at z
  ·intro z; exact⟨by lia,by rw[aK]; exact z⟩
 ·have e:m.testBit i=false:=dn (bh h (bS (by decide) (by lia)))
  rw[e]
  exact aM fun z=>by have:=(mem_bts.mp z).1; lia
theorem jQU (n:Nat):btsN n 0=[]:=by
 refine List.eq_nil_iff_forall_not_mem.mpr fun t ht=>?_
 have:=(mem_bts.mp ht).2
 rw[b8] at this
 cases this
section
variable {w:Int}(g:Good 16 32 w ms pcs)
include g
theorem ch_gt {m:Nat}(hm:m<2 ^ w.toNat)(hn:m≠2 ^ w.toNat - 1){c:Int×Nat}(hc:c∈chAt (chs w.toNat ms pcs) m):m<m|||c.2/\m|||c.2<2 ^ w.toNat:=by
 have o:ChOk (chs w.toNat ms pcs):=qA g
 have cl:(chs w.toNat ms pcs).length=w.toNat:=kQ _ _ _ _
 have hl:lowN m<w.toNat:=qE hm hn
 unfold chAt at hc
 obtain⟨h1,h2⟩:=aQ.mp hc
 rw[ai] at h1
 cases hg:(chs w.toNat ms pcs)[lowN m]? with
 | none=>rw[hg] at h1; cases h1
 | some cs=>
  rw[hg] at h1
  obtain⟨b1,b2,_⟩:=o.it _ _ hg c h1
  rw[cl] at b2
  refine⟨?_,dJ hm b2⟩
  have ne:m≠m|||c.2:=fun e=>by
   have:=bX (fun x=>Nat.testBit x (lowN m)) e
   simp only [bH,yV,b1,gF] at this
   cases this
  have:=(Nat.left_le_or:m<=m|||c.2)
  lia
end
theorem jGX:∀ {ns:List Nat}{i m x:Nat},ns.Pairwise (· > ·)->ns[i]?=some m->x∈ns->m<x->x∈ns.take i
 | [],_,_,_,_,_,h,_=>by cases h
 | n::ns,0,m,x,hp,hi,hx,lt=>by
  have e:n=m:=by simpa using hi
  rcases aF.mp hx with y | y
  ·lia
  ·have:=(cG.mp hp).1 x y
   lia
 | n::ns,i+1,m,x,hp,hi,hx,lt=>by
  rw[lg]
  rcases aF.mp hx with y | y
  ·rw[y]; exact am ..
  ·exact aj _ (jGX (cG.mp hp).2 (by simpa using hi) y lt)
theorem jQK {ns:List Nat}{i m:Nat}(hp:ns.Pairwise (· > ·))(hi:ns[i]?=some m):m∉ns.take i:=fun h=>by
 obtain⟨j,hj,e⟩:=la.mp h
 rw[bE] at hj
 rw[List.getElem_take] at e
 obtain⟨hl,e2⟩:=ax.mp hi
 have:=bW.mp hp j i (by lia) hl (by lia)
 lia
theorem jO8 {ns:List Nat}(hp:ns.Pairwise (· > ·))(h0:0∈ns):ns.getLast?=some 0:=by
 induction ns with
 | nil=>cases h0
 | cons n ns ih=>
  obtain⟨a,b⟩:=cG.mp hp
  cases ns with
  | nil=>
   have:=aE.mp h0
   rw[<- this]
   rfl
  | cons k r=>
   rw[List.getLast?_cons_cons]
   refine ih b ?_
   rcases aF.mp h0 with y | y
   ·have:=a k (am ..)
    lia
   ·exact y
def RwAt (w:Nat)(ch:Ch)(H:Hp)(u:V)(n:Nat):Prop:=∃ b a,u=V.ref b/\H b=some (.tup [.ref a,natV (wk ch n).length])/\H a=some (.tup ((btsN w n).map V.int))
theorem RwAt.mono {w:Nat}{ch:Ch}{H H':Hp}{u:V}{n:Nat}(t:Tups H H')(h:RwAt w ch H u n):RwAt w ch H' u n:=let ⟨b,a,e,x,y⟩:=h; ⟨b,a,e,t _ _ x,t _ _ y⟩
structure PapAt (H:Hp)(r:Addr)(w:Nat)(ch:Ch)(ns:List Nat):Prop where
 ex:∃ us,H r=some (.tup us)/\All2 (RwAt w ch H) us ns
 desc:ns.Pairwise (· > ·)
 met:MetOk ch ns
theorem jJ9 {ch:Ch}{ns:List Nat}(o:ChOk ch)(d:ns.Pairwise (· > ·))(m:MetOk ch ns):ns.length<=65536:=by
 have h:=jAB (n:=2 ^ ch.length) (d.imp fun {a b} h=>by lia:ns.Nodup) m.bnd
 have:=bS (n:=2) (by decide) o.w
 lia
theorem jNW:∀ {ns:List Nat}{us:List V}{i:Nat}{k:Key}{y:V},(gvs ns us)[i]?=some (k,y)->∃ n,ns[i]?=some n/\us[i]?=some y/\k=Sum.inl (n:Int)
 | [],_,_,_,_,h=>by cases h
 | _::_,[],_,_,_,h=>by cases h
 | n::ns,u::us,0,k,y,h=>by
  have h:some ((Sum.inl (n:Int):Key),u)=some (k,y):=h
  cases h
  exact⟨n,rfl,rfl,rfl⟩
 | n::ns,u::us,i+1,k,y,h=>by
  have h:(gvs ns us)[i]?=some (k,y):=h
  obtain⟨m,a,b,c⟩:=jNW h
  exact⟨m,by simpa using a,by simpa using b,c⟩
theorem jTN {ns:List Nat}{us:List V}(h:ns.length=us.length):(gvs ns us).length=ns.length:=by
 unfold gvs
 rw[ab,List.length_zip]
 lia
noncomputable abbrev nCPap:List Str:=["box"]
theorem scCPap:FnScope nCPap ["box"] (j9 sCPap):= {}
def jLQ (tb:Addr):Sp:=fun vs H Q _=>∃ (b:Addr) (w:Int) (ms:List Int) (pcs:List (List Int×Int)),vs=[.ref b]/\BoxAt H b w ms pcs/\Good 16 32 w ms pcs/\TabW H tb/\∀ r ns H',PapAt H' r w.toNat (chs w.toNat ms pcs) ns->ExtT tb H H'->TabW H' tb->Q (.ref r) H'
def cpapA (T:Txt mg)(CL:Can P w K mg base "lot_of" 1 fL fdL ["mask"] jF0)(CC:Can P w K mg base "choices_of" 2 fC fdC ["box"] kW)(CW:Can P w K mg base "ways_of" 5 fW fdW ["choices"] (jEB tb))(hr:Room 5 (XOf nCPap "count_paper" sCPap P w K mg base f cdv A outer s H0 E).A): { t:TS // JSs (XOf nCPap "count_paper" sCPap P w K mg base f cdv A outer s H0 E) (jD sCPap) t} :=
 have nd:=scCPap.nd
 ⟨_,(jC (jQ (kX jA0 gD T.tuple (by decide+kernel) (j3 (kN (m:=[none,none]) (Nc:=["mask","ways"]) rfl (jJH (CW.je hr gD (j3 (CC.je (hr.mono (by decide)) gD (j3 (jv 0 rfl vL) j7 j5) j5) j7 jF) jF)) rfl (by decide+kernel) (by decide+kernel) (jW (psc:=j9 sCPap)) (jH (N:=nCPap) rfl rfl (by decide+kernel)) (fun cl C fp s H=>jAO (i:=0) (j:=1) rfl (show (["mask","ways"]:List Str).Nodup by decide+kernel) rfl rfl (by decide+kernel) (by decide+kernel)) (fun cl C fp s H=>y4) (fun cl C fp s H=>(yX (j3 (CL.je (hr.mono (by decide)) gl_b (j3 (jv 0 rfl jO) j7 j5) j5) (j3 (jv 1 rfl jO) j7 j5) jF))) kS) j7 jJ) jJ)))⟩
theorem jT7 {fd:FuncData}(F:Fun K "count_paper" "count_paper" sCPap f fd)(T:Txt mg)(CL:Can P w K mg base "lot_of" 1 fL fdL ["mask"] jF0)(CC:Can P w K mg base "choices_of" 2 fC fdC ["box"] kW)(CW:Can P w K mg base "ways_of" 5 fW fdW ["choices"] (jEB tb)):FnOk P w K mg base CX0 6 f fd ["box"] (jLQ tb):=by
 refine F.ok scCPap (fun vs H Q E h=>?_) (fun cdv A outer s H vs Q E hr h=>?_)
 ·obtain⟨_,_,_,_,rfl,_⟩:=h
  rfl
 ·obtain⟨b,w,ms,pcs,rfl,hB,g,tab,q⟩:=h
  refine⟨_,(cpapA T CL CC CW hr).2.h,?_⟩
  have o:ChOk (chs w.toNat ms pcs):=qA g
  have cl:(chs w.toNat ms pcs).length=w.toNat:=kQ _ _ _ _
  have w0:=g.w0
  have w1:=g.w1
  refine⟨_,rfl,b,w,ms,pcs,rfl,hB,g,fun L H1 c1 e1=>?_⟩
  refine⟨L,_,rfl,c1,o,tab.ext e1,fun r ns H2 got desc met e2 t2 nr=>?_⟩
  obtain⟨us,hr2,hus⟩:=got.ex
  have ul:=All2.len hus
  have nl:=jJ9 o desc met
  have gl:=jTN ul
  refine⟨r,gvs ns us,rfl, .inl hr2,fun ob _=>?_⟩
  have k3:∀ c u,H2 c=some u->c≠r->(L2.upd H2 r (.frz ob (.dK (gvs ns us)))) c=some u:=fun c u h n=>by rw[j8 n]; exact h
  have r3:(L2.upd H2 r (.frz ob (.dK (gvs ns us)))) r=some (.frz ob (.dK (gvs ns us))):=j6
  generalize L2.upd H2 r (.frz ob (.dK (gvs ns us)))=H3 at k3 r3
  have rt:r≠tb:=t2.ne hr2 (by intro _ z; cases z)
  have t3:TabW H3 tb:=by
   rcases t2 with h | ⟨c,h,h2⟩
   ·exact .inl (k3 _ _ h (eG rt))
   ·exact .inr ⟨c,k3 _ _ h (eG rt),k3 _ _ h2 fun z=>by rw[z,hr2] at h2; cases h2⟩
  have X3:ExtT tb H H3:=fun c u h n=>k3 _ _ (e2 _ _ (e1 _ _ h) n) fun z=>by rw[z] at h; rw[e1 _ _ h] at nr; cases nr
  refine jKV (by rw[gl,aJ]; lia) (fun D i σ' H' zs=>(∃ v v',σ'=[v,v'])/\Ext H3 H'/\H' D=some (.lst zs)/\H3 D=none/\All2 (RwAt w.toNat (chs w.toNat ms pcs) H') zs (ns.take i)) (fun D hD=>⟨⟨_,_,rfl⟩,(Ext.refl _).new hD _,j6,hD,trivial⟩) (fun D i σ' H' zs hD ⟨_,e,d,_,a⟩=>⟨e _ _ r3,d,by rw[All2.len a]; exact bY _ _⟩) ?_ ?_
  ·rintro D i σ' H4 zs k y Tp hD hk hT ⟨⟨v,v',rfl⟩,e4,d4,n4,a4⟩
   obtain⟨n,hn,hu,rfl⟩:=jNW hk
   obtain⟨n',hn',ey⟩:=All2.get hus hu
   have e5:Ext H4 (L2.upd H4 Tp (.tup [kV (Sum.inl (n:Int)),y])):=(Ext.refl _).new hT _
   have d5:(L2.upd H4 Tp (.tup [kV (Sum.inl (n:Int)),y])) Tp=some (.tup [natV n,y]):=j6
   generalize L2.upd H4 Tp (.tup [kV (Sum.inl (n:Int)),y])=H5 at e5 d5
   rw[hn] at hn'
   cases hn'
   have ey:y=natV (wk (chs w.toNat ms pcs) n).length:=ey
   subst ey
   have mb:=met.bnd n (aH hn)
   rw[cl] at mb
   refine⟨Tp,_,rfl,SqT.of d5,rfl,_,_,rfl,_,_,rfl,rfl,?_⟩
   dsimp only [yQ]
   rw[ah rfl]
   refine⟨_,rfl,n,w.toNat,rfl,mb,by lia,fun a6 H6 d6 e6=>⟨_,rfl,by show (2:Nat)<=_; decide,fun b7 H7 d7 e7=>?_⟩⟩
   have E7:=(e5.trans e6).trans e7
   have d47:=E7 _ _ d4
   have TD:Tups H7 (L2.upd H7 D (.lst (zs++[V.ref b7]))):=fun c xs h=>by rw[j8 (fun z=>by rw[z,d47] at h; cases h)]; exact h
   refine⟨d47,⟨_,_,rfl⟩,(e4.trans E7).updNew n4 _,j6,n4,?_⟩
   rw[bf,hn]
   exact All2.snoc (a4.imp fun _ _ h=>RwAt.mono (fun c xs z=>TD _ _ (E7 _ _ z)) h) ⟨b7,a6,rfl,TD _ _ d7,TD _ _ (e7 _ _ d6)⟩
  ·rintro D σ' H4 zs hD ⟨_,e4,d4,n4,a4⟩
   rw[gl,bG] at a4
   refine⟨D,_,rfl, .inl ⟨SqL.of d4,fun r5 h5=>?_⟩⟩
   have e5:Ext H4 (L2.upd H4 r5 (.tup zs)):=(Ext.refl _).new h5 _
   exact q r5 ns _ ⟨⟨zs,j6,a4.imp fun _ _ h=>RwAt.mono e5.tups h⟩,desc,met⟩ (X3.trans (ExtT.of (e4.trans e5))) (t3.ext (e4.trans e5))
def kvW (ch:Ch)(l:List Nat):List (Key×V):=l.map fun n:Nat=>((Sum.inl (n:Int):Key),natV (wk ch n).length)
theorem jD4 (ch:Ch)(n:Nat):∀ l:List Nat,valV (kvW ch l) (.inl (n:Int))=if n∈l then some (natV (wk ch n).length) else none
 | []=>rfl
 | k::l=>by
  show valV (((Sum.inl (k:Int):Key),natV (wk ch k).length)::kvW ch l) _=_
  by_cases h:k=n
  ·subst h
   rw[jAR rfl,ah (am ..)]
  ·rw[jAE (fun z=>h (by have:(k:Int)=(n:Int):=fk z; lia)),jD4 ch n l]
   by_cases h2:n∈l
   ·rw[ah h2,ah (aj _ h2)]
   ·rw[ae h2,ae fun z=>(aF.mp z).elim (fun z=>h z.symm) h2]
abbrev jMS:List Str:=["thing","things"]
theorem scIsRow:FnScope jMS ["thing","things"] (j9 jCV):= {}
def jF2:Sp:=fun vs H Q _=>∃ (b a:Addr) (l:List Int) (n w:Int),vs=[.ref b, .int w]/\H b=some (.tup [.ref a, .int n])/\H a=some (.tup (l.map V.int))/\Ris w l/\l.length<=100/\∀ H',Ext H H'->Q (.bl true) H'
def jW0 (T:Txt mg)(CL:Can P w K mg base "is_lot" 3 fL fdL ["thing","many"] (spB2 lotB))(CW:Can P w K mg base "is_whole" 1 fW fdW ["thing"] spWh)(hr:Room 3 (XOf jMS "is_row" jCV P w K mg base f cdv A outer s H0 E).A): { t:TS // JSs (XOf jMS "is_row" jCV P w K mg base f cdv A outer s H0 E) (jD jCV) t} :=
 have nd:=scIsRow.nd
 ⟨_,(jB (yH (jt_w (jw_or (jDS (jDR (jG jAC gD T.isinstance (by decide+kernel) (j3 (jv 0 rfl vL) (j3 (jDV (v:= .ty "tuple") gD T.tuple (by decide+kernel) rfl) j7 j5) j5) j5) jBL)) (jJG (jI op_ne (jG jS gD T.len (by decide+kernel) (j3 (jv 0 rfl vL) j7 j5) j5) (je_int) (jK _))))) (jC (jQ (je_bl))) kL)
   (jC (jQ ((jNL (CL.je hr gD (j3 (jU jV (jv 0 rfl vL) (je_int) jE) (j3 (jv 1 rfl vL) j7 j5) kG) kG) (jJL (CW.je (hr.mono (by decide)) gD (j3 (jU jV (jv 0 rfl vL) (je_int) jE) j7 kG) kG)))))))⟩
theorem jPM {fd:FuncData}(F:Fun K "is_row" "is_row" jCV f fd)(T:Txt mg)(CL:Can P w K mg base "is_lot" 3 fL fdL ["thing","many"] (spB2 lotB))(CW:Can P w K mg base "is_whole" 1 fW fdW ["thing"] spWh):FnOk P w K mg base CX0 4 f fd ["thing","things"] jF2:=by
 refine F.ok scIsRow (fun vs H Q E h=>?_) (fun cdv A outer s H vs Q E hr h=>?_)
 ·obtain⟨_,_,_,_,_,rfl,_⟩:=h
  rfl
 ·obtain⟨b,a,l,n,w,rfl,hb,ha,ri,ll,q⟩:=h
  refine⟨_,(jW0 T CL CW hr).2.h,?_⟩
  have hA:At H (.tup (l.map Ob.int)) (.ref a):=jWC ha (by rw[ab]; exact ll) (Ats.ints l)
  refine⟨_,rfl,_,_,_,true,rfl, .tup hb,rfl,true,rfl,iteF ?_⟩
  refine⟨_,rfl,b,_,rfl, .inr (SqT.of hb),rfl,_,rfl,iteF ?_⟩
  refine⟨_,rfl,b,_,0,_,rfl,rfl,SqT.of hb,rfl,_,rfl, .ref a,_,_,rfl,hA,fun H1 e1=>?_⟩
  rw[jHZ ri.ris ri.bnd]
  refine⟨_,rfl,iteT ?_⟩
  exact⟨_,rfl,b,_,1,_,rfl,rfl,SqT.of (e1 _ _ hb),rfl, .int n, .int n,rfl,rfl,q H1 e1⟩
noncomputable abbrev nRNum:List Str:=["choices","mask","ahead","together","piece","more"]
theorem scRNum:FnScope nRNum ["choices","mask","ahead"] (j9 sRNum):= {}
def jG6:Sp:=fun vs H Q _=>∃ (L D:Addr) (ch:Ch) (m:Nat) (kvs:List (Key×V)),vs=[.ref L,natV m, .ref D]/\ChAt H L ch/\ChOk ch/\m<2 ^ ch.length/\H D=some (.dK kvs)/\(m≠fullN ch->∀ c∈chAt ch m,valV kvs (.inl ((m|||c.2:Nat):Int))=some (natV (wk ch (m|||c.2)).length))/\∀ H',Ext H H'->Q (natV (wk ch m).length) H'
def rnumA (T:Txt mg)(CF:Can P w K mg base "full_mask" 1 fF fdF ["choices"] jCQ)(CA:Can P w K mg base "choices_at" 1 fA fdA ["choices","mask"] spAt)(hr:Room 1 (XOf nRNum "right_number" sRNum P w K mg base f cdv A outer s H0 E).A): { t:TS // JSs (XOf nRNum "right_number" sRNum P w K mg base f cdv A outer s H0 E) (jD sRNum) t} :=
 have nd:=scRNum.nd
 have _h:=T
 ⟨_,(jB (yH (jI qG (jv 1 rfl vL) (CF.je hr gD (j3 (jv 0 rfl vL) j7 j5) j5) (jK _)) (jC (jQ (je_int))) kL)
   (jB (jP (i:=3) nd rfl lL (je_int) jEX)
   (jB (yP bP rfl (yC (CA.je hr gD (j3 (jv 0 rfl vL) (j3 (jv 1 rfl vL) j7 j5) j5) j5)) (jBB (i:=4) (j:=5) nd rfl rfl (by decide+kernel) (by decide+kernel)) (jB (yH (jGP (qI hr) (jY op_or (jv 1 rfl vL) (jv 5 rfl vL)) (jv 2 rfl vL) rfl) (jC (jQ (jJM))) kL)
   (jC (jRH (i:=3) nd rfl lL (jDU (qI hr) (jv 2 rfl vL) (jY op_or (jv 1 rfl vL) (jv 5 rfl vL)) jIW) jJN))) kS)
   (jC (jQ (jv 3 rfl vL))))))⟩
theorem jT1 {fd:FuncData}(F:Fun K "right_number" "right_number" sRNum f fd)(T:Txt mg)(CF:Can P w K mg base "full_mask" 1 fF fdF ["choices"] jCQ)(CA:Can P w K mg base "choices_at" 1 fA fdA ["choices","mask"] spAt):FnOk P w K mg base CX0 2 f fd ["choices","mask","ahead"] jG6:=by
 refine F.ok scRNum (fun vs H Q E h=>?_) (fun cdv A outer s H vs Q E hr h=>?_)
 ·obtain⟨_,_,_,_,_,rfl,_⟩:=h
  rfl
 ·obtain⟨L,D,ch,m,kvs,rfl,hL,o,hm,hD,hk,q⟩:=h
  refine⟨_,(rnumA T CF CA hr).2.h,?_⟩
  refine⟨_,rfl,_,rfl,L,ch,rfl,hL,o.w,⟨rfl,_,rfl,ite2 (fun h=>?_) (fun h=>?_)⟩⟩
  ·have e:m=fullN ch:=by
    have:=V.int.inj (az h)
    lia
   have e1:natV (wk ch m).length= .int 1:=by rw[e,jAH]; rfl
   have:=q H (Ext.refl _)
   rw[e1] at this
   exact this
  ·have hn:m≠fullN ch:=fun z=>h (ay (by rw[z]))
   refine⟨_,rfl,_,rfl,L,ch,m,rfl,hL,o,hm,hn,fun r H1 hr1 e1 nr=>?_⟩
   obtain⟨vs,hv,ha⟩:=hr1
   have vl:=All2.len ha
   refine⟨r,rfl,⟨_,SqL.of hv⟩,jBD (xs:=vs) (fun i σ H'=>(∃ v4 v5,σ=[some (.ref L),some (natV m),some (.ref D),some (natV (((chAt ch m).take i).map fun c=>(wk ch (m|||c.2)).length).sum),v4,v5])/\Ext H1 H') ⟨⟨_,_,rfl⟩,Ext.refl _⟩ (fun i σ H' _ ⟨_,e⟩=>SqL.of (e _ _ hv)) ?_ ?_⟩
   ·rintro i x σ H2 hx ⟨⟨v4,v5,rfl⟩,e2⟩
    obtain⟨c,hc,pq,rfl,hq⟩:=All2.get' ha hx
    have cm:=aH hc
    refine⟨pq,_,rfl,SqT.of (e2 _ _ hq),rfl,_,_,rfl,_,_,rfl,rfl,?_⟩
    have dg:DGet H2 D (.int (Builtin.bitOr (m:Int) (c.2:Int))) (some (natV (wk ch (m|||c.2)).length)):=by
     rw[jB1,<- hk hn c cm]
     exact DGet.k (k:=Sum.inl ((m|||c.2:Nat):Int)) (e2 _ _ (e1 _ _ hD))
    refine⟨_,rfl,_,rfl,_,_,rfl,rfl,_,rfl,D,_,rfl,dg,_,rfl,iteF ?_⟩
    refine⟨_,rfl,_,rfl,_,rfl,_,rfl,_,_,rfl,rfl,D,_,rfl,dg,?_⟩
    have es:(((chAt ch m).take (i+1)).map fun c=>(wk ch (m|||c.2)).length).sum=(((chAt ch m).take i).map fun c=>(wk ch (m|||c.2)).length).sum+(wk ch (m|||c.2)).length:=by
     rw[bf,hc,aP,dr]
     show _+((wk ch (m|||c.2)).length+0)=_
     rw[cx]
    refine⟨_,_,rfl,rfl,⟨some (.int c.1),some (.int ((c.2:Nat):Int)),?_⟩,e2⟩
    rw[es]
    unfold natV
    rw[ig]
    rfl
   ·rintro σ H2 ⟨⟨v4,v5,rfl⟩,e2⟩
    have es:(wk ch m).length=(((chAt ch m).take vs.length).map fun c=>(wk ch (m|||c.2)).length).sum:=by
     rw[vl,bG,yR o hm hn,jL2,ba]
     rfl
    have:=q H2 (e1.trans e2)
    rw[es] at this
    exact⟨_,rfl,this⟩
abbrev jB5:List Str:=["box","paper","choices","ahead","lot","number","mask"]
theorem scCounted:FnScope jB5 ["box","paper"] (j9 y9):= {}
def jDJ:Sp:=fun vs H Q _=>∃ (b r:Addr) (w:Int) (ms:List Int) (pcs:List (List Int×Int)) (ns:List Nat),vs=[.ref b, .ref r]/\BoxAt H b w ms pcs/\Good 16 32 w ms pcs/\PapAt H r w.toNat (chs w.toNat ms pcs) ns/\∀ H',Ext H H'->Q (natV (wk (chs w.toNat ms pcs) 0).length) H'
def jQO (T:Txt mg)(CM:Can P w K mg base "mask_of" 1 fM fdM ["lot"] jBI)(CR:Can P w K mg base "right_number" 2 fR fdR ["choices","mask","ahead"] jG6)(hr:Room 4 (XOf jB5 "counted" y9 P w K mg base f cdv A outer s H0 E).A): { t:TS // JSs (XOf jB5 "counted" y9 P w K mg base f cdv A outer s H0 E) (yO ((jD y9).getD 3 (.Pass ⟨0,0,0,0⟩))) t} :=
 have nd:=scCounted.nd
 have _h:=T
 ⟨_,(jB (jP (i:=6) nd rfl lL (CM.je (hr.mono (by decide)) gD (j3 (jv 4 rfl vL) j7 j5) j5) kJ) (jB (yH (jt_w (jw_or (jVY (qI hr) (jv 6 rfl vL) (jv 3 rfl vL) rfl) (jJG (jI op_ne (jv 5 rfl vL) (CR.je (hr.mono (by decide)) gD (j3 (jv 2 rfl vL) (j3 (jv 6 rfl vL) (j3 (jv 3 rfl vL) j7 j5) j5) j5) j5) (jK _))))) (jC (jQ (jJM))) kL) (jC (jDT (qI hr) (jv 3 rfl vL) (jv 6 rfl vL) (jv 5 rfl vL) jLG))))⟩
def cntA (T:Txt mg)(CI:Can P w K mg base "is_row" 4 fI fdI ["thing","things"] jF2)(CC:Can P w K mg base "choices_of" 2 fC fdC ["box"] kW)(CM:Can P w K mg base "mask_of" 1 fM fdM ["lot"] jBI)(CR:Can P w K mg base "right_number" 2 fR fdR ["choices","mask","ahead"] jG6)(hr:Room 4 (XOf jB5 "counted" y9 P w K mg base f cdv A outer s H0 E).A): { t:TS // JSs (XOf jB5 "counted" y9 P w K mg base f cdv A outer s H0 E) (jD y9) t} :=
 have nd:=scCounted.nd
 ⟨_,(jB (yH (jt_w (jw_or (jDS (jDR (jG jAC gD T.isinstance (by decide+kernel) (j3 (jv 1 rfl vL) (j3 (jDV (v:= .ty "tuple") gD T.tuple (by decide+kernel) rfl) j7 j5) j5) j5) jBL)) (jw_or (jI qG (jG jS gD T.len (by decide+kernel) (j3 (jv 1 rfl vL) j7 j5) j5) (je_int) (jK _)) (jJG (jDS (jDR (jG (jE2 rfl) gD T.all (by decide+kernel) (j3 (kN (m:=[none,some 0]) (Nc:=["row","box"]) rfl (jBJ (jv 1 rfl vL)) rfl (by decide+kernel) (by decide+kernel) (jW (psc:=j9 y9)) (jH (N:=jB5) rfl rfl (by decide+kernel)) (fun cl C fp s H=>jN (i:=0) (show (["row","box"]:List Str).Nodup by decide+kernel) rfl yW) (fun cl C fp s H=>y4) (fun cl C fp s H=>(CI.je hr gl_b (j3 (jv 0 rfl jO) (j3 (jU jBC (jv 1 rfl yI) (je_int) jE) j7 kG) j5) j5)) yD) j7 jJ) jJ) jBL)))))) (jC (jQ (jJM))) kL) (jB (jP (i:=2) nd rfl lL (CC.je (hr.mono (by decide)) gD (j3 (jv 0 rfl vC) j7 j5) j5) kJ) (jB (jP (i:=3) nd rfl lL (jFK) jEW) (jB (yP bP rfl (jBJ (jv 1 rfl vL)) (jBB (i:=4) (j:=5) nd rfl rfl (by decide+kernel) (by decide+kernel)) (jQO T CM CR hr).2 yD) (jC (jQ (jGO (jI qG (jG jS gD T.len (by decide+kernel) (j3 (jU jV (jU jV (jv 1 rfl vL) (je_un jE8 (je_int)) px_un) (je_int) jE) j7 kG) kG) (je_int) (jK _)) (jU jV (jU jV (jv 1 rfl vL) (je_un jE8 (je_int)) px_un) (je_int) jE) (jJM))))))))⟩
theorem jHS {H:Hp}{us:List V}{w:Nat}{ch:Ch}{ns:List Nat}(h:All2 (RwAt w ch H) us ns){i:Nat}{x:V}(hx:us[i]?=some x):∃ n b a,ns[i]?=some n/\x=V.ref b/\H b=some (.tup [.ref a,natV (wk ch n).length])/\H a=some (.tup ((btsN w n).map V.int)):=by
 obtain⟨n,hn,b,a,e,h1,h2⟩:=All2.get' h hx
 exact⟨n,b,a,hn,e,h1,h2⟩
theorem jOO (n m:Nat):(btsN n m).length<=n:=by
 unfold btsN
 rw[ab]
 have:=bJ (fun t=>m.testBit t) (List.range n)
 rwa [bg] at this
theorem jKD {fd:FuncData}(F:Fun K "counted" "counted" y9 f fd)(T:Txt mg)(CI:Can P w K mg base "is_row" 4 fI fdI ["thing","things"] jF2)(CC:Can P w K mg base "choices_of" 2 fC fdC ["box"] kW)(CM:Can P w K mg base "mask_of" 1 fM fdM ["lot"] jBI)(CR:Can P w K mg base "right_number" 2 fR fdR ["choices","mask","ahead"] jG6):FnOk P w K mg base CX0 5 f fd ["box","paper"] jDJ:=by
 refine F.ok scCounted (fun vs H Q E h=>?_) (fun cdv A outer s H vs Q E hr h=>?_)
 ·obtain⟨_,_,_,_,_,_,rfl,_⟩:=h
  rfl
 ·obtain⟨b,r,w,ms,pcs,ns,rfl,hB,g,pp,q⟩:=h
  refine⟨_,(cntA T CI CC CM CR hr).2.h,?_⟩
  have o:ChOk (chs w.toNat ms pcs):=qA g
  have cl:(chs w.toNat ms pcs).length=w.toNat:=kQ _ _ _ _
  have w0:=g.w0
  have w1:=g.w1
  obtain⟨us,hus,rws⟩:=pp.ex
  have ul:=All2.len rws
  have nl:=jJ9 o pp.desc pp.met
  obtain⟨qm,qp,ps,b1,b2,b3,b4⟩:=id hB.ex
  have n0:0<us.length:=by rw[ul]; exact ju pp.met.zero
  refine⟨_,rfl,_,_,_,true,rfl, .tup hus,rfl,true,rfl,iteF ?_⟩
  refine⟨_,rfl,r,_,rfl, .inr (SqT.of hus),⟨rfl,_,rfl,iteN (by show decide (V.int (us.length:Int)=V.int 0)=false; exact aM fun z=>by have:=V.int.inj z; lia) ?_⟩⟩
  refine⟨_,rfl,r,rfl,⟨_,SqT.of hus⟩,jC5 (fun σ=>∃ v,σ=[v,some (.ref b)]) (mapZ us fun _=>V.bl true) (mapZ.ok _ _) hus (by rw[aJ]; lia) ⟨_,rfl⟩ ?_ ?_⟩
  ·rintro j x σ' H' zs hx ⟨v,rfl⟩ e hz S1 S2 yes no
   obtain⟨n,rb,ra,hn,rfl,h1,h2⟩:=jHS rws hx
   dsimp only [kU,yQ]
   rw[ah rfl]
   have bl:=jOO w.toNat n
   refine⟨_,rfl,_,rfl,b,_,0,_,rfl,rfl,SqT.of (e _ _ b1),rfl,rb,ra,btsN w.toNat n,_,w,rfl,e _ _ h1,e _ _ h2,?_,by lia,fun H2 e2=>yes _ _ _ ⟨_,rfl⟩ e2 (mapZ.yes hz hx)⟩
   have:=jFT w.toNat n
   rwa [show ((w.toNat:Nat):Int)=w by lia] at this
  ·intro D H1 zs d1 e1 nD hz
   have hz:=hz.all (by exact ar _)
   have hz2:zs=(replicate us.length true).map V.bl:=by
    rw[hz,List.map_replicate]
    exact List.map_const' ..
   rw[hz2] at d1
   refine⟨D,replicate us.length true,rfl,SqL.of d1,?_⟩
   rw[show ((replicate us.length true)).all id=true by rw[bB]; intro x hx; rw[(List.mem_replicate.mp hx).2]; rfl]
   refine⟨true,rfl,iteF ?_⟩
   refine⟨_,rfl,b,w,ms,pcs,rfl,hB.mono e1.tups,g,fun L H2 c2 e2=>?_⟩
   intro Ah hAh
   have e3:Ext H2 (L2.upd H2 Ah (.dK [])):=(Ext.refl _).new hAh _
   have d3:(L2.upd H2 Ah (.dK [])) Ah=some (.dK []):=j6
   generalize L2.upd H2 Ah (.dK [])=H3 at e3 d3
   have E2:=e1.trans e2
   have r2:=E2 _ _ hus
   have rws2:All2 (RwAt w.toNat (chs w.toNat ms pcs) H2) us ns:=rws.imp fun _ _ h=>RwAt.mono E2.tups h
   refine⟨_,rfl,r,rfl,⟨_,SqT.of (e3 _ _ r2)⟩,jO3 (xs:=us) (fun i σ H'=>(∃ v4 v5 v6,σ=[some (.ref b),some (.ref r),some (.ref L),some (.ref Ah),v4,v5,v6])/\Ext H2 H'/\H' Ah=some (.dK (kvW (chs w.toNat ms pcs) (ns.take i)))) ⟨⟨_,_,_,rfl⟩,e3,d3⟩ (fun i σ H' _ ⟨_,e,_⟩=>SqT.of (e _ _ r2)) ?_ ?_⟩
   ·rintro i x σ H4 hx ⟨⟨v4,v5,v6,rfl⟩,e4,d4⟩
    obtain⟨n,rb,ra,hn,rfl,h1,h2⟩:=jHS rws2 hx
    have nm:=aH hn
    have nb:=pp.met.bnd n nm
    have nb':=nb
    rw[cl] at nb'
    have ri:=jFT w.toNat n
    have bl:=jOO w.toNat n
    refine⟨rb,_,rfl,SqT.of (e4 _ _ h1),rfl,_,_,rfl,_,_,rfl,rfl,?_⟩
    refine⟨_,rfl,ra,btsN w.toNat n,rfl,e4 _ _ h2,fun x hx=>by have:=ri.bnd x hx; lia,by lia,fun H5 e5=>?_⟩
    rw[jPT nb']
    have d5:=e5 _ _ d4
    have nt:=jQK pp.desc hn
    have dg:DGet H5 Ah (.int ((n:Nat):Int)) none:=by
     have:=jD4 (chs w.toNat ms pcs) n (ns.take i)
     rw[ae nt] at this
     rw[<- this]
     exact DGet.k (k:=Sum.inl (n:Int)) d5
    refine⟨_,rfl,_,rfl,Ah,_,rfl,dg,_,rfl,iteF ?_⟩
    have c5:ChAt H5 L (chs w.toNat ms pcs):=c2.keep (fun _ _ h=>e5 _ _ (e4 _ _ h)) (e4.trans e5).tups
    refine⟨_,rfl,_,rfl,_,rfl,_,rfl,L,Ah,_,n,_,rfl,c5,o,nb,d5,fun hf c hc=>?_,fun H6 e6=>?_⟩
    ·have hf':n≠2 ^ w.toNat - 1:=by unfold fullN at hf; rwa [cl] at hf
     have gt:=ch_gt g nb' hf' hc
     rw[jD4,ah (jGX pp.desc hn (pp.met.up n nm hf c hc) gt.1)]
    ·refine⟨rfl,_,rfl,iteN (by show (!decide (natV (wk (chs w.toNat ms pcs) n).length=natV (wk (chs w.toNat ms pcs) n).length))=false; simp) ?_⟩
     have d6:=e6 _ _ d5
     have kl:(kvW (chs w.toNat ms pcs) (ns.take i)).length<=65536:=by
      unfold kvW
      rw[ab,bE]
      lia
     refine⟨_,rfl,_,rfl,_,rfl,Ah,_,rfl,DPut.k (k:=Sum.inl (n:Int)) d6 (by rw[aJ]; lia),⟨_,_,_,rfl⟩,((e4.trans e5).trans e6).updNew hAh _,?_⟩
     have pk:putK (kvW (chs w.toNat ms pcs) (ns.take i)) (Sum.inl (n:Int)) (natV (wk (chs w.toNat ms pcs) n).length)=kvW (chs w.toNat ms pcs) (ns.take (i+1)):=by
      rw[jD7 _ (by rw[jD4,ae nt]),bf,hn]
      unfold kvW
      rw[aP]
      rfl
     show L2.upd H6 Ah (.dK (putK (kvW (chs w.toNat ms pcs) (ns.take i)) (Sum.inl (n:Int)) (natV (wk (chs w.toNat ms pcs) n).length))) Ah=_
     rw[pk]
     exact j6
   ·rintro σ H4 ⟨⟨v4,v5,v6,rfl⟩,e4,d4⟩
    have lst:=jO8 pp.desc pp.met.zero
    rw[ek] at lst
    have hl:us[us.length - 1]?=some us[us.length - 1]:=ak (by lia)
    obtain⟨n,rb,ra,hn,hx,h1,h2⟩:=jHS rws2 hl
    rw[ul,lst] at hn
    cases hn
    have at1:atI us (-1)=some (V.ref rb):=jOV (by rw[hl,hx])
    have h2:H2 ra=some (.tup []):=by rw[h2,jQU]; rfl
    refine⟨_,rfl,1,rfl,r,_, -1,_,rfl,rfl,SqT.of (e4 _ _ r2),at1,rb,_,0,_,rfl,rfl,SqT.of (e4 _ _ h1),rfl,ra,_,rfl, .inr (SqT.of (e4 _ _ h2)),⟨rfl,_,rfl,iteT ?_⟩⟩
    exact⟨_,rfl,1,rfl,r,_, -1,_,rfl,rfl,SqT.of (e4 _ _ r2),at1,rb,_,1,_,rfl,rfl,SqT.of (e4 _ _ h1),rfl,q H4 (E2.trans e4)⟩
def sc:List Nat->Nat->Nat
 | [],t=>if t=0 then 1 else 0
 | l::ls,t=>sc ls t+if l<=t then sc ls (t - l) else 0
theorem jF5 (l:Nat):∀ (ls:List Nat) (t:Nat),sc (ls++[l]) t=sc ls t+if l<=t then sc ls (t - l) else 0
 | [],t=>rfl
 | a::ls,t=>by
  show sc (ls++[l]) t+(if a<=t then sc (ls++[l]) (t - a) else 0)=(sc ls t+if a<=t then sc ls (t - a) else 0)+if l<=t then (sc ls (t - l)+if a<=t - l then sc ls (t - l - a) else 0) else 0
  rw[jF5 l ls t,jF5 l ls (t - a),Nat.sub_right_comm t l a]
  by_cases h1:a<=t <;> by_cases h2:l<=t
  ·by_cases h3:a+l<=t
   ·rw[ah h1,ah h2,ah h1,ah (show l<=t - a by lia),ah h2,ah (show a<=t - l by lia)]
    lia
   ·rw[ah h1,ah h2,ah h1,ae (show ¬ l<=t - a by lia),ah h2,ae (show ¬ a<=t - l by lia)]
    lia
  ·rw[ah h1,ae h2,ah h1,ae (show ¬ l<=t - a by lia),ae h2]
   lia
  ·rw[ae h1,ah h2,ae h1,ah h2,ae (show ¬ a<=t - l by lia)]
   lia
  ·rw[ae h1,ae h2,ae h1,ae h2]
def lackN (n lot:Nat):Nat:=((List.range n).filter fun t=>!lot.testBit t).length
def sg (n lot:Nat):Int:=if lackN n lot % 2=0 then 1 else -1
def inM (u lot:Nat):Bool:=decide (u&&&lot=u)
theorem inM_iff {u lot:Nat} :inM u lot=true↔∀ i,u.testBit i=true->lot.testBit i=true:=by
 unfold inM
 rw[bi]
 constructor
 ·intro h i hi
  have:=bX (fun z=>z.testBit i) h
  simp only [cX,hi,g7] at this
  exact this
 ·intro h
  refine cI fun i=>?_
  rw[cX]
  cases hi:u.testBit i with
  | false=>rfl
  | true=>rw[h i hi]; rfl
def sumZ (n:Nat)(f:Nat->Int):Int:=((List.range (2 ^ n)).map f).sum
theorem jEZ {α:Type}(f g:α->Int):∀ l:List α,(l.map fun x=>f x+g x).sum=(l.map f).sum+(l.map g).sum
 | []=>rfl
 | a::l=>by
  rw[aY,b6,jEZ f g l,aY,b6,aY,b6]
  lia
theorem jAY {α:Type}(f:α->Int):∀ l:List α,(∀ x∈l,f x=0)->(l.map f).sum=0
 | [],_=>rfl
 | a::l,h=>by rw[aY,b6,h a (am ..),jAY f l fun x hx=>h x (aj _ hx)]; rfl
theorem jLI (n:Nat)(f:Nat->Int):sumZ (n+1) f=sumZ n f+sumZ n fun x=>f (2 ^ n+x):=by
 unfold sumZ
 rw[gE,Nat.mul_two,List.range_add,aP,dr,ba]
 rfl
theorem jA9 {n:Nat}{f g:Nat->Int}(h:∀ x,x<2 ^ n->f x=g x):sumZ n f=sumZ n g:=by
 unfold sumZ
 rw[aX fun x hx=>h x (br.mp hx)]
theorem jGN (n lot:Nat):lackN (n+1) lot=lackN n lot+if lot.testBit n=true then 0 else 1:=by
 unfold lackN
 rw[dO,bV,aC]
 cases h:lot.testBit n <;> simp [h]
theorem jCN {n x i:Nat}(hx:x<2 ^ n)(hi:i<n):(2 ^ n+x).testBit i=x.testBit i:=Nat.testBit_two_pow_add_gt hi x
theorem jIH {n x:Nat}(hx:x<2 ^ n):(2 ^ n+x).testBit n=true:=by
 rw[Nat.testBit_two_pow_add_eq,dn hx]
 rfl
theorem jEP {n x i:Nat}(hx:x<2 ^ n)(hi:n<=i):x.testBit i=false:=dn (bh hx (bS (by decide) hi))
theorem jWB {n x i:Nat}(hx:x<2 ^ n)(hi:n<i):(2 ^ n+x).testBit i=false:=jEP (n:=n+1) (by rw[gE]; lia) hi
theorem jQ3 {n x:Nat}(hx:x<2 ^ n):lackN n (2 ^ n+x)=lackN n x:=by
 unfold lackN
 rw[gL fun i hi=>by rw[jCN hx (br.mp hi)]]
theorem sg_lo {n x:Nat}(hx:x<2 ^ n):sg (n+1) x= - sg n x:=by
 unfold sg
 rw[jGN,jEP hx (ar n),ae aq]
 rcases cw (lackN n x) with h | h
 ·rw[ae (by lia),ah h]
 ·rw[ah (by lia),ae (by lia)]
  rfl
theorem sg_hi {n x:Nat}(hx:x<2 ^ n):sg (n+1) (2 ^ n+x)=sg n x:=by
 unfold sg
 rw[jGN,jIH hx,ah rfl,jQ3 hx]
 rfl
theorem jJZ:∀ (n u:Nat),u<2 ^ n->sumZ n (fun lot=>if inM u lot=true then sg n lot else 0)=if u=2 ^ n - 1 then 1 else 0
 | 0,u,h=>by
  have:u=0:=by lia
  subst this
  decide
 | n+1,u,h=>by
  rw[jLI]
  rcases ff u (2 ^ n) with hu | hu
  ·have e1:sumZ n (fun lot=>if inM u lot=true then sg (n+1) lot else 0)+sumZ n (fun x=>if inM u (2 ^ n+x)=true then sg (n+1) (2 ^ n+x) else 0)=0:=by
    unfold sumZ
    rw[<- jEZ]
    refine jAY _ _ fun x hx=>?_
    have hx:=br.mp hx
    have e:inM u (2 ^ n+x)=inM u x:=by
     rw[bO,inM_iff,inM_iff]
     refine g8 fun i=>imp_congr_right fun hi=>?_
     rcases ff i n with z | z
     ·rw[jCN hx z]
     ·rw[jEP hu z] at hi
      cases hi
    rw[e,sg_lo hx,sg_hi hx]
    split <;> lia
   rw[e1,ae (by rw[gE]; lia)]
  ·obtain⟨v,rfl⟩:∃ v,u=2 ^ n+v:=⟨u - 2 ^ n,by lia⟩
   have hv:v<2 ^ n:=by rw[gE] at h; lia
   have e1:sumZ n (fun lot=>if inM (2 ^ n+v) lot=true then sg (n+1) lot else 0)=0:=by
    unfold sumZ
    refine jAY _ _ fun x hx=>ae fun z=>?_
    have:=inM_iff.mp z n (jIH hv)
    rw[jEP (br.mp hx) (ar n)] at this
    cases this
   have e2:sumZ n (fun x=>if inM (2 ^ n+v) (2 ^ n+x)=true then sg (n+1) (2 ^ n+x) else 0)=sumZ n (fun x=>if inM v x=true then sg n x else 0):=jA9 fun x hx=>by
    have e:inM (2 ^ n+v) (2 ^ n+x)=inM v x:=by
     rw[bO,inM_iff,inM_iff]
     constructor
     ·intro z i hi
      rcases ff i n with y | y
      ·have:=z i (by rw[jCN hv y]; exact hi)
       rwa [jCN hx y] at this
      ·rw[jEP hv y] at hi
       cases hi
     ·intro z i hi
      rcases gy i n with y | y | y
      ·rw[jCN hx y]
       exact z i (by rwa [jCN hv y] at hi)
      ·rw[y]
       exact jIH hx
      ·rw[jWB hv y] at hi
       cases hi
    rw[e,sg_hi hx]
   rw[e1,e2,jJZ n v hv,jr]
   have:v=2 ^ n - 1↔2 ^ n+v=2 ^ (n+1) - 1:=by
    rw[gE]
    lia
   by_cases z:v=2 ^ n - 1
   ·rw[ah z,ah (this.mp z)]
   ·rw[ae z,ae fun y=>z (this.mpr y)]
def kR (ps:List (Nat×Nat))(lot:Nat):List Nat:=(ps.filter fun p=>inM p.1 lot).map (·.2)
def EE (n:Nat):List (Nat×Nat)->Nat->Nat->Nat
 | [],u,t=>if t=0/\u=2 ^ n - 1 then 1 else 0
 | p::ps,u,t=>EE n ps u t+if p.2<=t then EE n ps (u|||p.1) (t - p.2) else 0
theorem jW2 (u v lot:Nat):inM (u|||v) lot=(inM u lot&&inM v lot):=by
 rw[bO,cg,inM_iff,inM_iff,inM_iff]
 constructor
 ·intro h
  exact⟨fun i hi=>h i (by rw[bH,hi,lC]),fun i hi=>h i (by rw[bH,hi,gF])⟩
 ·rintro ⟨h1,h2⟩ i hi
  rw[bH,jx] at hi
  exact hi.elim (h1 i) (h2 i)
theorem S_eq {n:Nat} :∀ {ps:List (Nat×Nat)},(∀ p∈ps,p.1<2 ^ n)->∀ {u:Nat},u<2 ^ n->∀ t,sumZ n (fun lot=>if inM u lot=true then sg n lot*(sc (kR ps lot) t:Int) else 0)=(EE n ps u t:Int)
 | [],_,u,hu,t=>by
  have:=jJZ n u hu
  by_cases h:t=0
  ·subst h
   have e:sumZ n (fun lot=>if inM u lot=true then sg n lot*(sc (kR [] lot) 0:Int) else 0)=sumZ n (fun lot=>if inM u lot=true then sg n lot else 0):=jA9 fun x _=>by
    show (if inM u x=true then sg n x*((1:Nat):Int) else 0)=_
    rw[show ((1:Nat):Int)=1 from rfl,Int.mul_one]
   rw[e,this]
   show _=(((if 0=0/\u=2 ^ n - 1 then 1 else 0):Nat):Int)
   by_cases z:u=2 ^ n - 1
   ·rw[ah z,ah ⟨rfl,z⟩]
    rfl
   ·rw[ae z,ae fun y=>z y.2]
    rfl
  ·have e:sumZ n (fun lot=>if inM u lot=true then sg n lot*(sc (kR [] lot) t:Int) else 0)=0:=by
    unfold sumZ
    refine jAY _ _ fun x _=>?_
    show (if inM u x=true then sg n x*(((if t=0 then 1 else 0):Nat):Int) else 0)=0
    rw[ae h]
    split <;> simp
   rw[e]
   show _=(((if t=0/\u=2 ^ n - 1 then 1 else 0):Nat):Int)
   rw[ae fun y=>h y.1]
   rfl
 | p::ps,hp,u,hu,t=>by
  have hp1:=hp p (am ..)
  have ih:=fun {u:Nat}(hu:u<2 ^ n) (t:Nat)=>S_eq (n:=n) (ps:=ps) (fun q hq=>hp q (aj _ hq)) hu t
  have pt:∀ x,(if inM u x=true then sg n x*(sc (kR (p::ps) x) t:Int) else 0)=(if inM u x=true then sg n x*(sc (kR ps x) t:Int) else 0)+(if p.2<=t then (if inM (u|||p.1) x=true then sg n x*(sc (kR ps x) (t - p.2):Int) else 0) else 0):=fun x=>by
   rw[jW2]
   cases h1:inM u x
   ·simp
   ·cases h2:inM p.1 x
    ·have:kR (p::ps) x=kR ps x:=by unfold kR; rw[cE (by rw[h2]; exact aq)]
     rw[this]
     simp
    ·have:kR (p::ps) x=p.2::kR ps x:=by unfold kR; rw[db (p:=fun (p:Nat×Nat)=>inM p.1 x) h2]; rfl
     rw[this]
     show (if true=true then sg n x*((sc (kR ps x) t+(if p.2<=t then sc (kR ps x) (t - p.2) else 0):Nat):Int) else 0)=_
     by_cases h3:p.2<=t
     ·rw[ah rfl,ah h3,ah rfl,ah h3,Bool.and_true,ah rfl]
      push_cast
      exact Int.mul_add ..
     ·rw[ah rfl,ae h3,ah rfl,ae h3]
      simp
  have e:sumZ n (fun lot=>if inM u lot=true then sg n lot*(sc (kR (p::ps) lot) t:Int) else 0)=sumZ n (fun lot=>if inM u lot=true then sg n lot*(sc (kR ps lot) t:Int) else 0)+sumZ n (fun x=>if p.2<=t then (if inM (u|||p.1) x=true then sg n x*(sc (kR ps x) (t - p.2):Int) else 0) else 0):=by
   rw[jA9 fun x _=>pt x]
   unfold sumZ
   exact jEZ _ _ _
  rw[e,ih hu t]
  show _=((EE n ps u t+(if p.2<=t then EE n ps (u|||p.1) (t - p.2) else 0):Nat):Int)
  by_cases h3:p.2<=t
  ·rw[ah h3,jA9 fun x _=>ah h3,ih (dJ hu hp1) (t - p.2)]
   push_cast
   rfl
  ·rw[ae h3,jA9 (g:=fun _=>0) fun x _=>ae h3]
   unfold sumZ
   rw[jAY _ _ fun _ _=>rfl]
   simp
def popN (n u:Nat):Nat:=(List.range n).countP fun t=>u.testBit t
theorem jUY (n u:Nat):popN n u<=n:=by
 unfold popN
 have:=kf (p:=fun t=>u.testBit t) (l:=List.range n)
 rwa [bg] at this
theorem jGZ {α:Type}(a b:α->Bool):∀ l:List α,(l.countP fun x=>a x || b x)+(l.countP fun x=>a x&&b x)=l.countP a+l.countP b
 | []=>rfl
 | x::l=>by
  have:=jGZ a b l
  rw[bN,bN,bN,bN]
  cases a x <;> cases b x <;> simp <;> lia
theorem jR9 (n u v:Nat):popN n (u|||v)+popN n (u&&&v)=popN n u+popN n v:=by
 have:=jGZ (fun t=>u.testBit t) (fun t=>v.testBit t) (List.range n)
 unfold popN
 simp only [bH,cX]
 exact this
theorem jPC {n u:Nat}(hu:u<2 ^ n)(h:popN n u=0):u=0:=by
 refine cI fun i=>?_
 rw[b8]
 rcases ff i n with z | z
 ·have:=dQ.mp h i (br.mpr z)
  simpa using this
 ·exact jEP hu z
theorem jJ0 {n u:Nat}(hu:u<2 ^ n):popN n u=n↔u=2 ^ n - 1:=by
 constructor
 ·intro h
  refine jO0 hu fun j hj=>?_
  have h:(List.range n).countP (fun t=>u.testBit t)=(List.range n).length:=by rw[bg]; exact h
  exact gR.mp h j (br.mpr hj)
 ·rintro rfl
  have:(List.range n).countP (fun t=>(2 ^ n - 1).testBit t)=(List.range n).length:=gR.mpr fun j hj=>by
   show (2 ^ n - 1).testBit j=true
   rw[cq,ay (br.mp hj)]
  unfold popN
  rw[this,bg]
structure PcOk (n:Nat)(p:Nat×Nat):Prop where
 lt:p.1<2 ^ n
 pop:popN n p.1=p.2
 ne:p.1≠0
def ecM (n:Nat):List (Nat×Nat)->Nat->Nat
 | [],u=>if u=2 ^ n - 1 then 1 else 0
 | p::ps,u=>ecM n ps u+if p.1&&&u=0 then ecM n ps (u|||p.1) else 0
theorem jP1 {n:Nat} :∀ {ps:List (Nat×Nat)},(∀ p∈ps,PcOk n p)->∀ {u t:Nat},u<2 ^ n->t+popN n u<n->EE n ps u t=0
 | [],_,u,t,hu,h=>by
  show (if t=0/\u=2 ^ n - 1 then 1 else 0)=0
  refine ae fun z=>?_
  have:=(jJ0 hu).mpr z.2
  lia
 | p::ps,hp,u,t,hu,h=>by
  have p1:=hp p (am ..)
  have hp':=fun q hq=>hp q (aj _ hq)
  show EE n ps u t+(if p.2<=t then EE n ps (u|||p.1) (t - p.2) else 0)=0
  rw[jP1 hp' hu h,fg]
  split
  ·have:=jR9 n u p.1
   have:=p1.pop
   exact jP1 hp' (dJ hu p1.lt) (by lia)
  ·rfl
theorem EE_ec {n:Nat} :∀ {ps:List (Nat×Nat)},(∀ p∈ps,PcOk n p)->∀ {u t:Nat},u<2 ^ n->t+popN n u=n->EE n ps u t=ecM n ps u
 | [],_,u,t,hu,h=>by
  show (if t=0/\u=2 ^ n - 1 then 1 else 0)=if u=2 ^ n - 1 then 1 else 0
  by_cases z:u=2 ^ n - 1
  ·have:=(jJ0 hu).mpr z
   rw[ah z,ah ⟨by lia,z⟩]
  ·rw[ae z,ae fun y=>z y.2]
 | p::ps,hp,u,t,hu,h=>by
  have p1:=hp p (am ..)
  have hp':=fun q hq=>hp q (aj _ hq)
  have hor:=dJ hu p1.lt
  have po:=jR9 n u p.1
  have pp:=p1.pop
  have pl:=jUY n (u|||p.1)
  show EE n ps u t+(if p.2<=t then EE n ps (u|||p.1) (t - p.2) else 0)=ecM n ps u+if p.1&&&u=0 then ecM n ps (u|||p.1) else 0
  rw[EE_ec hp' hu h]
  congr 1
  by_cases z:p.1&&&u=0
  ·have z0:popN n (u&&&p.1)=0:=by
    rw[lF,z]
    unfold popN
    exact dQ.mpr fun i _=>by rw[b8]; exact aq
   rw[ah z,ah (by lia)]
   exact EE_ec hp' hor (by lia)
  ·have z0:popN n (u&&&p.1)≠0:=fun y=>z (by rw[lF]; exact jPC (iG h8 hu) y)
   rw[ae z]
   split
   ·exact jP1 hp' hor (by lia)
   ·rfl
theorem jIN {α:Type}(f g:α->Nat):∀ l:List α,(l.map fun x=>f x+g x).sum=(l.map f).sum+(l.map g).sum
 | []=>rfl
 | a::l=>by
  rw[aY,b6,jIN f g l,aY,b6,aY,b6]
  lia
abbrev okP (u:Nat)(p:Nat×Nat):Prop:=p.1.testBit (lowN u)=true/\p.1&&&u=0
theorem jAD {p u v:Nat} :p&&&(u|||v)=0↔p&&&u=0/\p&&&v=0:=by
 rw[Nat.and_or_distrib_left,Nat.or_eq_zero_iff]
theorem jRN {n:Nat} :∀ {ps:List (Nat×Nat)},(∀ p∈ps,PcOk n p)->∀ {u:Nat},u<2 ^ n->u≠2 ^ n - 1->ecM n ps u=(ps.map fun p=>if okP u p then ecM n ps (u|||p.1) else 0).sum
 | [],_,u,hu,hn=>ae hn
 | q::ps,hp,u,hu,hn=>by
  have q1:=hp q (am ..)
  have hp':=fun r hr=>hp r (aj _ hr)
  have ih:=fun {u:Nat}(hu:u<2 ^ n) (hn:u≠2 ^ n - 1)=>jRN (n:=n) hp' hu hn
  rw[aY,b6]
  show ecM n ps u+(if q.1&&&u=0 then ecM n ps (u|||q.1) else 0)=_
  have un:∀ x,ecM n (q::ps) x=ecM n ps x+if q.1&&&x=0 then ecM n ps (x|||q.1) else 0:=fun _=>rfl
  by_cases h0:q.1&&&u=0
  ·by_cases hb:q.1.testBit (lowN u)=true
   ·-- q is taken here,or none of those that hold the same
    have e1:ecM n (q::ps) (u|||q.1)=ecM n ps (u|||q.1):=by
     rw[un,ae,cx]
     rw[jAD]
     rintro ⟨_,z⟩
     rw[Nat.and_self] at z
     exact q1.ne z
    have e2:(ps.map fun p=>if okP u p then ecM n (q::ps) (u|||p.1) else 0)=ps.map fun p=>if okP u p then ecM n ps (u|||p.1) else 0:=aX fun p hpm=>by
     by_cases y:okP u p
     ·rw[ah y,ah y,un,ae,cx]
      rw[jAD]
      rintro ⟨_,z⟩
      have:=bX (fun z=>z.testBit (lowN u)) z
      simp only [cX,hb,y.1,b8] at this
      cases this
     ·rw[ae y,ae y]
    rw[ah h0,ah ⟨hb,h0⟩,e1,e2,<- ih hu hn]
    lia
   ·have hb:q.1.testBit (lowN u)=false:=by simpa using hb
    have hlow:lowN (u|||q.1)=lowN u:=jRC (by rw[bH,yV,hb]; rfl) fun j hj=>by rw[bH,jBO u j hj,lC]
    have hor:=dJ hu q1.lt
    have hll:=qE hu hn
    have hnq:u|||q.1≠2 ^ n - 1:=fun z=>by
     have:=bX (fun z=>z.testBit (lowN u)) z
     simp only [bH,yV,hb,cq,ay hll] at this
     cases this
    rw[ah h0,ae (fun z=>by have y:=z.1; rw[hb] at y; cases y),fg,ih hu hn,ih hor hnq,<- jIN]
    congr 1
    refine aX fun p hpm=>?_
    have sw:okP (u|||q.1) p↔okP u p/\q.1&&&(u|||p.1)=0:=by
     show (p.1.testBit (lowN (u|||q.1))=true/\p.1&&&(u|||q.1)=0)↔(p.1.testBit (lowN u)=true/\p.1&&&u=0)/\_
     rw[hlow,jAD,jAD,lF q.1 p.1]
     exact⟨fun ⟨a,b,c⟩=>⟨⟨a,b⟩,h0,c⟩,fun ⟨⟨a,b⟩,_,c⟩=>⟨a,b,c⟩⟩
    by_cases y:okP u p
    ·rw[ah y,ah y,un]
     congr 1
     by_cases z:q.1&&&(u|||p.1)=0
     ·rw[ah z,ah (sw.mpr ⟨y,z⟩),Nat.or_assoc,Nat.or_comm q.1,<- Nat.or_assoc]
     ·rw[ae z,ae fun x=>z (sw.mp x).2]
    ·rw[ae y,ae y,ae fun x=>y (sw.mp x).1]
  ·have e2:(ps.map fun p=>if okP u p then ecM n (q::ps) (u|||p.1) else 0)=ps.map fun p=>if okP u p then ecM n ps (u|||p.1) else 0:=aX fun p hpm=>by
    by_cases y:okP u p
    ·rw[ah y,ah y,un,ae,cx]
     rw[jAD]
     exact fun z=>h0 z.1
    ·rw[ae y,ae y]
   rw[ae h0,ae (fun z=>h0 z.2),e2,<- ih hu hn]
   lia
theorem jO7 {n:Nat} :∀ {ps:List (Nat×Nat)},(∀ p∈ps,PcOk n p)->ecM n ps (2 ^ n - 1)=1
 | [],_=>ah rfl
 | q::ps,hp=>by
  have q1:=hp q (am ..)
  show ecM n ps _+(if q.1&&&(2 ^ n - 1)=0 then _ else 0)=1
  rw[jO7 fun r hr=>hp r (aj _ hr),ae]
  rw[Nat.and_two_pow_sub_one_of_lt_two_pow q1.lt]
  exact q1.ne
def prs (p:List Int):Nat×Nat:=(maskN p,p.length)
def tls (ms:List Int)(pcs:List (List Int×Int)):List (List Int):=pcs.map (·.1)++ms.map fun t=> [t]
def PS (ms:List Int)(pcs:List (List Int×Int)):List (Nat×Nat):=(tls ms pcs).map prs
theorem jEY {α:Type}(p:α->Bool)(f:α->Nat):∀ l:List α,((l.filter p).map f).sum=(l.map fun x=>if p x=true then f x else 0).sum
 | []=>rfl
 | a::l=>by
  rw[aY,b6,<- jEY p f l]
  by_cases h:p a=true
  ·rw[db h,ah h,aY,b6]
  ·rw[cE h,ae h,fg]
theorem jLH (a:Int)(x:Nat):∀ {l:List Int},l.Nodup->(l.map fun t=>if t=a then x else 0).sum=if a∈l then x else 0
 | [],_=>rfl
 | b::l,nd=>by
  obtain⟨n1,n2⟩:=bF.mp nd
  rw[aY,b6,jLH a x n2]
  by_cases h:b=a
  ·subst h
   rw[ah rfl,ae n1,ah (am ..)]
   lia
  ·rw[ae h,fg]
   by_cases y:a∈l
   ·rw[ah y,ah (aj _ y)]
   ·rw[ae y,ae fun z=>(aF.mp z).elim (fun z=>h z.symm) y]
theorem jDB (t:Int):maskN [t]=2 ^ t.toNat:=by
 unfold maskN
 rw[aY,fD,b6,sum_nil,cx]
theorem jPD {n:Nat}{p:List Int}(hp:p.Pairwise (· < ·))(hb:∀ t∈p,0<=t/\t<(n:Int)):popN n (maskN p)=p.length:=by
 have e:popN n (maskN p)=((upto n).filter fun t=>decide (t∈p)).length:=by
  unfold popN upto
  rw[List.filter_map,ab,dP]
  rw[gL fun i hi=>by rw[jAM p i hp fun x hx=>(hb x hx).1]]
  rfl
 rw[e]
 refine List.Perm.length_eq ((fw (((kO n).ris.imp fun {a b} h=>by lia:(upto n).Nodup).sublist cS) (hp.imp fun {a b} h=>by lia)).mpr fun t=>?_)
 rw[aQ,bi]
 refine⟨fun h=>h.2,fun h=>⟨?_,h⟩⟩
 have:=hb t h
 have:=jB4 (n:=n) (i:=t.toNat) (by lia)
 rw[show ((t.toNat:Nat):Int)=t by lia] at this
 exact aH this
theorem pc_of {n:Nat}{p:List Int}(hp:p.Pairwise (· < ·))(hb:∀ t∈p,0<=t/\t<(n:Int))(ne:p≠ []):PcOk n (prs p):=by
 refine⟨jDP hp hb,jPD hp hb,fun z=>?_⟩
 have hm:=jFL ne
 have b:=hb _ hm
 have:=jD0 (t:=(p.headD 0).toNat) hp (fun x hx=>(hb x hx).1) (by rw[show (((p.headD 0).toNat:Nat):Int)=p.headD 0 by lia]; exact hm)
 rw[show maskN p=0 from z,b8] at this
 cases this
theorem jK7 (pcs:List (List Int×Int)):pcs.map (·.1)=(upto pcs.length).map (j4 pcs):=by
 refine eL fun i=>?_
 rw[aA,aA]
 by_cases hi:i<pcs.length
 ·rw[jB4 hi,ak hi]
  show some _=some (j4 pcs (i:Int))
  unfold j4
  rw[aK,ai,ak hi]
  rfl
 ·rw[bI (by lia),bI (by rw[y6]; lia)]
  rfl
section
variable {w:Int}(g:Good 16 32 w ms pcs)
include g
theorem PS_ok:∀ p∈PS ms pcs,PcOk w.toNat p:=fun p hp=>by
 have w0:=g.w0
 obtain⟨l,hl,rfl⟩:=aL.mp hp
 rcases aR.mp hl with z | z
 ·obtain⟨pc,hpc,rfl⟩:=aL.mp z
  have gp:=(g.pg pc hpc).lot
  exact pc_of gp.ris (fun t ht=>by have:=gp.bnd t ht; lia) gp.ne
 ·obtain⟨t,ht,rfl⟩:=aL.mp z
  have:=g.mr.bnd t ht
  exact pc_of (eX _ _) (fun x hx=>by rw[aE.mp hx]; lia) (by simp)
theorem wk_ec:∀ m,m<2 ^ (chs w.toNat ms pcs).length->(wk (chs w.toNat ms pcs) m).length=ecM w.toNat (PS ms pcs) m:=by
 have o:ChOk (chs w.toNat ms pcs):=qA g
 have cl:(chs w.toNat ms pcs).length=w.toNat:=kQ _ _ _ _
 have w0:=g.w0
 have ok:=PS_ok g
 refine jB3 o ?_ ?_
 ·rw[jAH]
  unfold fullN
  rw[cl,jO7 ok]
  rfl
 ·intro m hm hn ih
  have hm':m<2 ^ w.toNat:=by rwa [cl] at hm
  have hn':m≠2 ^ w.toNat - 1:=by unfold fullN at hn; rwa [cl] at hn
  have hl:lowN m<w.toNat:=qE hm' hn'
  rw[yR o hm hn,jL2,ba,jRN ok hm' hn']
  have e1:((chAt (chs w.toNat ms pcs) m).map ((fun p:Int×List (List Int)=>p.2.length) ∘ fun c=>(c.1,wk (chs w.toNat ms pcs) (m|||c.2))))=(chAt (chs w.toNat ms pcs) m).map fun c=>ecM w.toNat (PS ms pcs) (m|||c.2):=aX fun c hc=>ih c hc
  rw[e1]
  generalize hF:(fun v=>ecM w.toNat (PS ms pcs) (m|||v))=F
  have hF':∀ v,ecM w.toNat (PS ms pcs) (m|||v)=F v:=fun v=>by rw[<- hF]
  simp only [hF']
  unfold chAt
  rw[jEY]
  unfold chs
  rw[ai,yB hl]
  show ((yG ms pcs pcs.length (lowN m)).map _).sum=_
  unfold yG
  rw[aP,dr,ba,bK (by rw[y6]; exact ar _),jEY]
  unfold PS tls
  rw[aP,aP,dr,gx,jK7,ba,ba,ba,ba]
  congr 1
  ·congr 1
   refine aX fun k hk=>?_
   have kb:=(kO pcs.length).bnd k hk
   have hd:=jA2 g kb.1 kb.2
   have lt:=yK g kb.1 kb.2
   show (if decide ((j4 pcs k).headD 0=(lowN m:Int))=true then (if (maskN (j4 pcs k)&&&m==0)=true then F (maskN (j4 pcs k)) else 0) else 0)=if okP m (prs (j4 pcs k)) then F (maskN (j4 pcs k)) else 0
   have bt:(maskN (j4 pcs k)).testBit (lowN m)=decide ((lowN m:Int)∈j4 pcs k):=jDM g kb.1 kb.2 _
   by_cases h0:maskN (j4 pcs k)&&&m=0
   ·rw[ah (show (maskN (j4 pcs k)&&&m==0)=true by rw[h0]; rfl)]
    by_cases h1:(j4 pcs k).headD 0=(lowN m:Int)
    ·rw[ah (ay h1),ah ⟨by show (maskN (j4 pcs k)).testBit (lowN m)=true; rw[bt,<- h1]; exact ay hd.1,h0⟩]
    ·rw[ae (fun z=>h1 (az z)),ae]
     rintro ⟨z,_⟩
     have z:(maskN (j4 pcs k)).testBit (lowN m)=true:=z
     rw[bt] at z
     have le:=hd.2 _ (az z)
     have fit:=(jMA g kb.1 kb.2).mp h0 _ hd.1
     have hb:=lt.bnd _ hd.1
     have:=jBO m ((j4 pcs k).headD 0).toNat (by lia)
     rw[fit] at this
     cases this
   ·have z1:¬ okP m (prs (j4 pcs k)):=fun z=>h0 z.2
    rw[ae (show ¬ (maskN (j4 pcs k)&&&m==0)=true by simpa using h0),ae z1]
    split <;> rfl
  ·have e2:(ms.map (((fun p=>if okP m p then F p.1 else 0) ∘ prs) ∘ fun t=> [t]))=ms.map fun t=>if t=(lowN m:Int) then F (2 ^ lowN m) else 0:=aX fun t ht=>by
    have tb:=g.mr.bnd t ht
    show (if okP m (prs [t]) then F (maskN [t]) else 0)=_
    by_cases h:t=(lowN m:Int)
    ·subst h
     rw[ah rfl,jDB,aK,ah]
     refine⟨?_,?_⟩
     ·show (maskN [(lowN m:Int)]).testBit (lowN m)=true
      rw[jDB,aK,Nat.testBit_two_pow_self]
     ·show maskN [(lowN m:Int)]&&&m=0
      rw[jDB,aK]
      refine cI fun i=>?_
      rw[cX,b8,cR]
      by_cases hi:lowN m=i
      ·rw[<- hi,yV,eU]
      ·rw[aM hi,eS]
    ·rw[ae h,ae]
     rintro ⟨z,_⟩
     have z:(maskN [t]).testBit (lowN m)=true:=z
     rw[jDB,cR] at z
     have:=az z
     lia
   rw[e2,jLH _ _ (show ms.Nodup from g.mr.ris.imp fun {a b} h=>by lia)]
   have z0:2 ^ lowN m&&&m=0:=by
    refine cI fun i=>?_
    rw[cX,b8,cR]
    by_cases hi:lowN m=i
    ·rw[<- hi,yV,eU]
    ·rw[aM hi,eS]
   by_cases h:(lowN m:Int)∈ms
   ·rw[ah h,ah h]
    show (if (2 ^ lowN m&&&m==0)=true then F (2 ^ lowN m) else 0)+0=_
    rw[ah (by rw[z0]; rfl),cx]
   ·rw[ae h,ae h]
    rfl
theorem jU0:sumZ w.toNat (fun lot=>sg w.toNat lot*(sc (kR (PS ms pcs) lot) w.toNat:Int))=((wk (chs w.toNat ms pcs) 0).length:Int):=by
 have ok:=PS_ok g
 have z0:0<2 ^ w.toNat:=dN _
 have h:=S_eq (n:=w.toNat) (fun p hp=>(ok p hp).lt) z0 w.toNat
 have p0:popN w.toNat 0=0:=by
  unfold popN
  exact dQ.mpr fun i _=>by rw[b8]; exact aq
 rw[EE_ec ok z0 (by rw[p0]; rfl),<- wk_ec g 0 (dN _)] at h
 rw[<- h]
 refine jA9 fun x _=>?_
 rw[ah]
 rw[inM_iff]
 intro i hi
 rw[b8] at hi
 cases hi
end
end Eo
namespace L2
open PySem PySem.Spec PyProof.Rows
def rIxL0 (K:W.Frag):V->V->Hp->VK->Prop:=fun x y H Q=>∃ (p:Addr) (xs:List V) (j:Nat) (z:V),x= .ref p/\y= .int (j:Int)/\SqL K H p xs/\xs[j]?=some z/\Q z H
theorem jQF {X:Cx} :PGet X (rIxL0 X.K):=by
 intro ad s σ H x y v u Q I rx ry h
 obtain⟨p,xs,j,z,rfl,rfl,hq,he,q⟩:=h
 cases rx
 obtain⟨t,rfl⟩:=ry
 obtain⟨its,r,pl,hz⟩:=I.list hq
 obtain⟨w,ew,rw'⟩:=r.get he
 have hl:=r.length
 have hn:=jEJ
 have hj:=(ax.mp he).1
 exact wpAny_getItem_list pl.isList (by lia) (by lia) (by rw[aK]; simpa using ew) ⟨z,H,I,rw',q⟩
theorem jN9 {X:Cx}{o i e:Expr}{to ti te:TE}{tip:TIp}{op:Operator}{tpos pos:Pos}(ho:JE X o to)(hi:JE X i ti)(he:JE X e te)(hp:PIp X op tip)
  (ha:∀ ov iv new,augStore i ov iv new=(do holding [new,ov,iv] (setItem ov iv new); release [new,ov,iv] []; pure .next):=by intros; rfl):JS X (.AugAssign (.Subscript o i tpos) op e pos) (tAugS to ti te (rIxL0 X.K) tip rSetL):=⟨jSD ho.h hi.h jQF he.h hp jIS ha⟩
end L2
namespace Eo
open PySem L2
section
variable {fH:Addr}{fdH:FuncData}{u10:Tok}
noncomputable abbrev nHold:List Str:=["lengths","total","ways","length","held"]
theorem scHold:FnScope nHold ["lengths","total"] (j9 sHold):= {}
def jEC (K:W.Frag):Sp:=fun vs H Q _=>∃ (a:Addr) (ls:List Nat) (n:Nat),vs=[.ref a,natV n]/\H a=some (.lst (ls.map natV))/\(∀ l∈ls,1<=l/\l<=16)/\n<=16/\∀ H',Ext H H'->Q (natV (sc ls n)) H'
def jNU (T:Txt mg): { t:TS // JSs (XOf nHold "ways_to_hold" sHold P w K mg base f cdv A outer s H0 E) (yO ((jD sHold).getD 1 (.Pass ⟨0,0,0,0⟩))) t} :=
 have nd:=scHold.nd
 ⟨_,(jC (yP bP rfl (jND gD T.range (j3 (jv 1 rfl vL) (j3 (jY jBY (jv 3 rfl vL) (je_int)) (j3 (je_un jE8 (je_int)) j7 se_un) yN) j5) j5) (jN (i:=4) nd rfl lL) (jC (jN9 (jv 2 rfl vL) (jv 4 rfl vL) (jU yZ (jv 2 rfl vL) (jY jBY (jv 4 rfl vL) (jv 3 rfl vL)) jIW) jJN)) kS))⟩
def holdA (T:Txt mg): { t:TS // JSs (XOf nHold "ways_to_hold" sHold P w K mg base f cdv A outer s H0 E) (jD sHold) t} :=
 have nd:=scHold.nd
 ⟨_,(jB (jP (i:=2) nd rfl lL (jY jFB (yY (j3 (je_int) j7 jL)) (jY jRA (yY (j3 (je_int) j7 jL)) (jv 1 rfl vL))) jE9) (jB (yP bP rfl (yC (jv 0 rfl vL)) (jN (i:=3) nd rfl lL) (jNU T).2 yD) (jC (jQ (jU yZ (jv 2 rfl vL) (jv 1 rfl vL) jCE)))))⟩
abbrev yU:List Str:=["box","pieces","marked","together","lot","ways","lacked"]
theorem scByLots:FnScope yU ["box"] (j9 kY):= {}
def jF3:Sp:=fun vs H Q _=>∃ (b:Addr) (w:Int) (ms:List Int) (pcs:List (List Int×Int)),vs=[.ref b]/\BoxAt H b w ms pcs/\Good 16 32 w ms pcs/\w<=10/\∀ H',Ext H H'->Q (natV (wk (chs w.toNat ms pcs) 0).length) H'
def blInA (T:Txt mg)(CH:Can P w K mg base "ways_to_hold" 1 fH fdH ["lengths","total"] (jEC K))(hr:Room 1 (XOf yU "many_by_lots" kY P w K mg base f cdv A outer s H0 E).A): { t:TS // JSs (XOf yU "many_by_lots" kY P w K mg base f cdv A outer s H0 E) (yO ((jD kY).getD 4 (.Pass ⟨0,0,0,0⟩))) t} :=
 have nd:=scByLots.nd
 ⟨_,(jB (jP (i:=5) nd rfl lL (CH.je hr gD (j3 (kN (m:=[none,none,some 4]) (Nc:=["mask","length","lot"]) rfl (yC (jv 2 rfl vL)) rfl (by decide+kernel) (by decide+kernel) (jW (psc:=j9 kY)) (jH (N:=yU) rfl rfl (by decide+kernel)) (fun cl C fp s H=>jAO (i:=0) (j:=1) rfl (show (["mask","length","lot"]:List Str).Nodup by decide+kernel) rfl rfl (by decide+kernel) (by decide+kernel)) (fun cl C fp s H=>jAZ (jI qG (jY jEI (jv 0 rfl jO) (je_un jQY (jv 2 rfl yI))) (je_int) (jK _))) (fun cl C fp s H=>(jv 1 rfl jO)) yD) (j3 (jU jV (jv 0 rfl vL) (je_int) jE) j7 kG) jJ) jJ) kJ)
   (jB (jP (i:=6) nd rfl lL (jG jS gD T.len (by decide+kernel) (j3 (kN (m:=[none,some 4]) (Nc:=["thing","lot"]) rfl (jA6 gD T.range (j3 (jU jV (jv 0 rfl vL) (je_int) jE) j7 kG) kG) rfl (by decide+kernel) (by decide+kernel) (jW (psc:=j9 kY)) (jH (N:=yU) rfl rfl (by decide+kernel)) (fun cl C fp s H=>jN (i:=0) (show (["thing","lot"]:List Str).Nodup by decide+kernel) rfl yW) (fun cl C fp s H=>jAZ (jI qG (jY jEI (jY jMC (jv 1 rfl yI) (jv 0 rfl jO)) (je_int)) (je_int) (jK _))) (fun cl C fp s H=>(jv 0 rfl jO)) kS) j7 jJ) jJ) kJ)
   (jC (jRH (i:=3) nd rfl lL (jGO (jI qG (jY jEH (jv 6 rfl vL) (je_int)) (je_int) (jK _)) (jv 5 rfl vL) (je_un jE8 (jv 5 rfl vL))) jJN))))⟩
def jU1 (T:Txt mg)(MN:mg "MOST_THINGS_BY_LOTS" =some (.int 10 u10))(CM:Can P w K mg base "mask_of" 1 fM fdM ["lot"] jBI)(CH:Can P w K mg base "ways_to_hold" 1 fH fdH ["lengths","total"] (jEC K))(hr:Room 1 (XOf yU "many_by_lots" kY P w K mg base f cdv A outer s H0 E).A): { t:TS // JSs (XOf yU "many_by_lots" kY P w K mg base f cdv A outer s H0 E) (jD kY) t} :=
 have nd:=scByLots.nd
 ⟨_,(jB (yH (jI op_gt (jU jV (jv 0 rfl vL) (je_int) jE) (jI4 (v:= .int 10) gD MN ⟨_,rfl⟩) (jK _)) (jC (jRG)) kL) (jB (jP (i:=1) nd rfl lL (jY jFB (kN (m:=[none]) (Nc:=["piece"]) rfl (jBJ (jU jV (jv 0 rfl vL) (je_int) jE)) rfl (by decide+kernel) (by decide+kernel) (jW (psc:=j9 kY)) (jH (N:=yU) rfl rfl (by decide+kernel)) (fun cl C fp s H=>jN (i:=0) (show (["piece"]:List Str).Nodup by decide+kernel) rfl yW) (fun cl C fp s H=>y4) (fun cl C fp s H=>(jU jBC (jv 0 rfl jO) (je_int) jE)) jGV) (kN (m:=[none]) (Nc:=["may"]) rfl (jBJ (jU jV (jv 0 rfl vL) (je_int) jE)) rfl (by decide+kernel) (by decide+kernel) (jW (psc:=j9 kY)) (jH (N:=yU) rfl rfl (by decide+kernel)) (fun cl C fp s H=>jN (i:=0) (show (["may"]:List Str).Nodup by decide+kernel) rfl yW) (fun cl C fp s H=>y4) (fun cl C fp s H=>(yX (j3 (jv 0 rfl jO) j7 j5))) jGV)) jE9) (jB (jI2 (i:=2) nd rfl lL ⟨by rfl⟩ (m:=[none]) (Nc:=["things"]) rfl (yC (jv 1 rfl vL)) rfl (by decide+kernel) (by decide+kernel) (jW (psc:=j9 kY)) (jH (N:=yU) rfl rfl (by decide+kernel)) (fun cl C fp s H=>jN (i:=0) (show (["things"]:List Str).Nodup by decide+kernel) rfl yW) (fun cl C fp s H=>y4) (fun cl C fp s H=>(yX (j3 (CM.je (hr.mono (by decide)) gl_b (j3 (jv 0 rfl jO) j7 j5) j5) (j3 (jG jCM gl_b T.len (by decide+kernel) (j3 (jv 0 rfl jO) j7 j5) j5) j7 jF) jF))) yD) (jB (jP (i:=3) nd rfl lL (je_int) jEX) (jB (yP bP rfl (jA6 gD T.range (j3 (jY jGG (je_int) (jU jV (jv 0 rfl vL) (je_int) jE)) j7 yN) yN) (jN (i:=4) nd rfl loc_c) (blInA T CH hr).2 kS) (jC (jQ (jv 3 rfl vL))))))))⟩
def wl (ls:List Nat)(n:Nat):List V:=(List.range (n+1)).map fun t=>natV (sc ls t)
theorem jKY {F:Nat->Nat}{n t:Nat}(h:t<=n):((List.range (n+1)).map fun t=>natV (F t))[t]?=some (natV (F t)):=by
 rw[aA,bQ (by lia)]
 rfl
theorem jTJ {n j:Nat}(h:j<n):ixN n (j:Int)=some j:=by
 unfold ixN
 simp
 lia
theorem jTM (T:Txt mg){D:Ends}{H:Hp}{a W:Addr}{ls:List Nat}{n l:Nat}{v4:Option V}(hW:H W=some (.lst (wl ls n)))(l1:1<=l)(l16:l<=16)(n16:n<=16)
  (nx:∀ H' v4,(∀ c o,H c=some o->c≠W->H' c=some o)->H' W=some (.lst (wl (ls++[l]) n))->D.nx [some (.ref a),some (natV n),some (.ref W),some (natV l),v4] H'):
  (jNU (P:=P) (w:=w) (K:=K) (base:=base) (f:=f) (cdv:=cdv) (A:=A) (outer:=outer) (s:=s) (H0:=H0) (E:=E) T).1 D [some (.ref a),some (natV n),some (.ref W),some (natV l),v4] H:=by
 have sz:Builtin.Range.rangeSize (n:Int) ((l:Int) - 1) (-1)=((n+1 - l:Nat):Int):=by
  unfold Builtin.Range.rangeSize
  rw[ae (by decide)]
  by_cases h:l<=n
  ·rw[ah (by lia),show (-(-1:Int))=1 from rfl,Int.ediv_one]
   lia
  ·rw[ae (by lia)]
   lia
 have sm:Builtin.Range.small (n:Int) ((l:Int) - 1) (-1)=true:=by
  have fl:∀ z:Int, -100<=z->z<=100->Builtin.Range.rangeFitsLong z=true:=fun z h1 h2=>by
   unfold Builtin.Range.rangeFitsLong
   simp only [cg,bi]
   lia
  unfold Builtin.Range.small
  rw[sz,fl _ (by lia) (by lia),fl _ (by lia) (by lia),fl (-1) (by decide) (by decide),fl _ (by lia) (by lia),ae (by decide),fl _ (by lia) (by lia)]
  simp
 refine⟨_,rfl,_,rfl,_,_,rfl,rfl,_,rfl,(n:Int),(l:Int) - 1, -1,n+1 - l,rfl,by decide,by decide,sm,sz,jKR (n:=n+1 - l) (fun j σ H'=>(∃ v4,σ=[some (.ref a),some (natV n),some (.ref W),some (natV l),v4])/\(∀ c o,H c=some o->c≠W->H' c=some o)/\H' W=some (.lst ((List.range (n+1)).map fun t=>natV (if n<t+j then sc (ls++[l]) t else sc ls t)))) ⟨⟨_,rfl⟩,fun _ _ h _=>h,?_⟩ ?_ ?_⟩
 ·rw[hW]
  unfold wl
  refine bX (fun z=>some (HO.lst z)) (aX fun t ht=>?_)
  rw[ae (by have:=br.mp ht; lia)]
 ·rintro j σ H1 hj ⟨⟨v4,rfl⟩,k1,h1⟩
  obtain⟨h,hh⟩:∃ h:Nat,h+j=n:=⟨n - j,by lia⟩
  have eh:(n:Int)+(j:Int)* -1=(h:Int):=by lia
  have g1:=jKY (F:=fun t=>if n<t+j then sc (ls++[l]) t else sc ls t) (n:=n) (t:=h) (by lia)
  have g2:=jKY (F:=fun t=>if n<t+j then sc (ls++[l]) t else sc ls t) (n:=n) (t:=h - l) (by lia)
  have g2':=qB g2
  rw[ae (by lia)] at g1 g2'
  rw[eh]
  refine⟨_,rfl,_,rfl,W,_,h,_,rfl,rfl,SqL.of h1,g1,_,rfl,_,rfl,_,rfl,_,_,rfl,rfl,W,_,_,natV (sc ls (h - l)),rfl,rfl,SqL.of h1,?_,_,_,rfl,rfl,W,_,(h:Int),h,rfl,rfl,h1,?_,⟨_,rfl⟩,fun c o z n=>?_,?_⟩
  ·rw[show (h:Int) - (l:Int)=((h - l:Nat):Int) by lia]
   exact g2'
  ·rw[ab,bg]
   exact jTJ (by lia)
  ·rw[j8 n]
   exact k1 c o z n
  ·rw[j6]
   refine bX (fun z=>some (HO.lst z)) (eL fun t=>?_)
   rw[gJ,ab,bg,aA,aA]
   by_cases ht:t<n+1
   ·rw[bQ ht]
    by_cases e:h=t
    ·subst e
     rw[ah rfl,ah (by lia)]
     show some (V.int ((sc ls h:Int)+(sc ls (h - l):Int)))=some (natV (if n<h+(j+1) then sc (ls++[l]) h else sc ls h))
     rw[ah (by lia),jF5,ah (by lia)]
     rfl
    ·rw[ae e]
     show some (natV (if n<t+j then _ else _))=some (natV (if n<t+(j+1) then _ else _))
     by_cases z:n<t+j
     ·rw[ah z,ah (by lia)]
     ·rw[ae z,ae (by lia)]
   ·rw[bI (by rw[bg]; lia)]
    by_cases e:h=t
    ·lia
    ·rw[ae e]
     rfl
 ·rintro σ H1 ⟨⟨v4,rfl⟩,k1,h1⟩
  refine nx H1 _ k1 ?_
  rw[h1]
  unfold wl
  refine bX (fun z=>some (HO.lst z)) (aX fun t ht=>?_)
  have ht:=br.mp ht
  by_cases z:n<t+(n+1 - l)
  ·rw[ah z]
  ·rw[ae z,jF5,ae (by lia),cx]
theorem jT5 {fd:FuncData}(F:Fun K "ways_to_hold" "ways_to_hold" sHold f fd)(T:Txt mg):FnOk P w K mg base CX0 1 f fd ["lengths","total"] (jEC K):=by
 refine F.ok scHold (fun vs H Q E h=>?_) (fun cdv A outer s H vs Q E hr h=>?_)
 ·obtain⟨_,_,_,rfl,_⟩:=h
  rfl
 ·obtain⟨a,ls,n,rfl,ha,hl,n16,q⟩:=h
  refine⟨_,(holdA T).2.h,?_⟩
  refine⟨by show (1:Nat)<=_; decide,fun l1 H1 d1 e1 n1=>?_⟩
  refine⟨by show (1:Nat)<=_; decide,fun l2 H2 d2 e2 n2=>?_⟩
  refine⟨_,rfl,l2,(n:Int),_,rfl,rfl,d2,by lia,by lia,by rw[aJ]; show 1*_<=_; lia,fun l3 nl3=>?_⟩
  have rp:∀ n:Nat,(replicate n [V.int 0]).flatten=replicate n (V.int 0):=fun n=>by
   induction n with
   | zero=>rfl
   | succ n ih=>rw[cQ,eI,ih,cQ]; rfl
  rw[aK,rp]
  have e3:Ext H2 (L2.upd H2 l3 (.lst (replicate n (V.int 0)))):=(Ext.refl _).new nl3 _
  have d3:(L2.upd H2 l3 (.lst (replicate n (V.int 0)))) l3=some (.lst (replicate n (V.int 0))):=j6
  generalize L2.upd H2 l3 (.lst (replicate n (V.int 0)))=H3 at e3 d3
  refine⟨l1,l3,_,_,rfl,rfl,e3 _ _ (e2 _ _ d1),d3,by rw[gN,aJ]; show 1+_<=_; lia,fun W H4 d4 e4 n4=>?_⟩
  have E4:=((e1.trans e2).trans e3).trans e4
  have nW:H W=none:=jGI ((e1.trans e2).trans e3) n4
  have aW:a≠W:=fun z=>by rw[z,nW] at ha; cases ha
  have hW4:H4 W=some (.lst (wl [] n)):=by
   rw[d4]
   unfold wl
   rw[gM,aY,ba]
   congr 2
   show V.int 1::replicate n (V.int 0)=natV 1::_
   congr 1
   refine eL fun i=>?_
   rw[gj,aA]
   by_cases hi:i<n
   ·rw[ah hi,bQ hi]
    rfl
   ·rw[ae hi,bI (by rw[bg]; lia)]
    rfl
  refine⟨_,rfl,a,rfl,⟨_,SqL.of (E4 _ _ ha)⟩,jBD (xs:=ls.map natV) (fun i σ H'=>(∃ v3 v4,σ=[some (.ref a),some (natV n),some (.ref W),v3,v4])/\Ext H H'/\H' W=some (.lst (wl (ls.take i) n))) ⟨⟨_,_,rfl⟩,E4,hW4⟩ (fun i σ H' _ ⟨_,e,_⟩=>SqL.of (e _ _ ha)) ?_ ?_⟩
  ·rintro i x σ H5 hx ⟨⟨v3,v4,rfl⟩,e5,h5⟩
   rw[aA] at hx
   obtain⟨l,hl',rfl⟩:∃ l,ls[i]?=some l/\natV l=x:=by
    cases z:ls[i]? with
    | none=>rw[z] at hx; cases hx
    | some l=>rw[z] at hx; exact⟨l,rfl,bo hx⟩
   have lb:=hl l (aH hl')
   refine jTM T h5 lb.1 lb.2 n16 fun H6 v4 k6 h6=>⟨⟨_,_,rfl⟩,fun c o h=>k6 _ _ (e5 _ _ h) fun z=>(by rw[z,nW] at h; cases h),?_⟩
   rw[h6,bf,hl']
   rfl
  ·rintro σ H5 ⟨⟨v3,v4,rfl⟩,e5,h5⟩
   rw[ab,bG] at h5
   have:=qB (jKY (F:=sc ls) (n:=n) (t:=n) (ar _))
   exact⟨_,rfl,_,rfl,W,_,_,_,rfl,rfl,SqL.of h5,this,q H5 e5⟩
def MkAt (H:Hp)(us:List V)(ps:List (Nat×Nat)):Prop:=All2 (fun v p=>∃ q,v=V.ref q/\H q=some (.tup [natV p.1,natV p.2])) us ps
theorem MkAt.mono {H H':Hp}{us:List V}{ps:List (Nat×Nat)}(t:Tups H H')(h:MkAt H us ps):MkAt H' us ps:=All2.imp (fun v p ⟨q,e,z⟩=>⟨q,e,t _ _ z⟩) h
theorem jU5 (m lot:Nat):decide (V.int (Builtin.bitAnd (m:Int) (Builtin.bitNot (lot:Int)))=V.int 0)=inM m lot:=by
 have e:Builtin.bitAnd (m:Int) (Builtin.bitNot (lot:Int))=((m - (m&&&lot):Nat):Int):=by
  unfold Builtin.bitAnd
  have h1:(0:Int)<=(m:Int):=by lia
  have h2:¬ (0<=Builtin.bitNot (lot:Int)):=by unfold Builtin.bitNot; lia
  have h3:(Builtin.bitNot (Builtin.bitNot (lot:Int))).toNat=lot:=by unfold Builtin.bitNot; lia
  rw[ay h1,aM h2]
  show (m:Int) - ((((m:Int)).toNat&&&(Builtin.bitNot (Builtin.bitNot (lot:Int))).toNat:Nat):Int)=_
  rw[h3,aK]
  have:m&&&lot<=m:=h8
  lia
 rw[e,jE0]
 unfold inM
 have:m&&&lot<=m:=h8
 exact decide_eq_decide.mpr (by lia)
def sumTo (n i:Nat)(F:Nat->Int):Int:=((List.range i).map F).sum
theorem jK8 (n i:Nat)(F:Nat->Int):sumTo n (i+1) F=sumTo n i F+F i:=by
 unfold sumTo
 rw[dO,aP,dr]
 show _+(F i+0)=_
 rw[Int.add_zero]
theorem bl_in (T:Txt mg)(CH:Can P w K mg base "ways_to_hold" 1 fH fdH ["lengths","total"] (jEC K))(hr:Room 1 (XOf yU "many_by_lots" kY P w K mg base f cdv A outer s H0 E).A)
  {D:Ends}{H:Hp}{b M:Addr}{n lot:Nat}{x:Int}{qm qp:V}{us:List V}{ps:List (Nat×Nat)}{v1 v5 v6:Option V}(b1:H b=some (.tup [natV n,qm,qp])) (hM:H M=some (.lst us)) (hu:MkAt H us ps) (pl:ps.length<=64) (pok:∀ p∈ps,1<=p.2/\p.2<=16) (n10:n<=10)
  (nx:∀ H' v5 v6,Ext H H'->D.nx [some (.ref b),v1,some (.ref M),some (.int (x+sg n lot*(sc (kR ps lot) n:Int))),some (natV lot),v5,v6] H'):
  (blInA T CH hr).1 D [some (.ref b),v1,some (.ref M),some (.int x),some (natV lot),v5,v6] H:=by
 have ul:=All2.len hu
 refine⟨_,rfl,M,rfl,⟨_,SqL.of hM⟩,jAW (xs:=us) (fun σ=>∃ v1 v2,σ=[v1,v2,some (natV lot)]) (outZ ps (fun p=>inM p.1 lot) fun p=>natV p.2) (outZ.ok _ _ _) hM (by rw[aJ]; lia) ⟨_,_,rfl⟩ ?_ ?_⟩
 ·rintro j x σ' H1 zs hx ⟨w1,w2,rfl⟩ e1 hz S1 S2 yes no
  obtain⟨p,hp,q,rfl,hq⟩:=All2.get' hu hx
  refine⟨q,_,rfl,SqT.of (e1 _ _ hq),rfl,_,_,rfl,_,_,rfl,rfl,?_⟩
  refine⟨_,rfl,_,rfl,_,rfl,_,_,rfl,rfl,rfl,_,rfl,?_⟩
  rw[jU5]
  refine ite2 (fun h=>?_) (fun h=>?_)
  ·exact⟨_,rfl,yes _ _ _ ⟨_,_,rfl⟩ (Ext.refl _) (hz.yes hp h)⟩
  ·exact no _ _ ⟨_,_,rfl⟩ (Ext.refl _) (hz.no hp (dL.mpr h))
 ·rintro D1 H1 zs h1 e1 n1 hz
  have hz:=hz.all (by lia)
  have hz2:zs=(kR ps lot).map natV:=by rw[hz]; unfold kR; rw[ba]; rfl
  rw[hz2] at h1
  refine⟨_,rfl,b,_,0,_,rfl,rfl,SqT.of (e1 _ _ b1),rfl,D1,kR ps lot,n,rfl,h1,fun l hl=>?_,by lia,fun H2 e2=>?_⟩
  ·obtain⟨p,hp,rfl⟩:=aL.mp hl
   exact pok p (aQ.mp hp).1
  have E2:=e1.trans e2
  refine⟨_,rfl,b,_,0,_,rfl,rfl,SqT.of (E2 _ _ b1),rfl,(n:Int),rfl,by lia,by lia,jFQ (n:=n) (fun σ=>∃ v,σ=[v,some (natV lot)]) (outZ (List.range n) (fun t=>!lot.testBit t) natV) (outZ.ok _ _ _) (by rw[aJ]; lia) ⟨_,rfl⟩ ?_ ?_⟩
  ·rintro j σ' H3 zs hj ⟨v,rfl⟩ e hz S1 S2 yes no
   have e0:(0+(j:Int))=(j:Int):=by lia
   have hg:(List.range n)[j]?=some j:=bQ hj
   refine⟨_,rfl,_,rfl,_,_,rfl,rfl,by lia,_,_,rfl,rfl,rfl,_,rfl,?_⟩
   rw[e0,jOT]
   refine ite2 (fun h=>?_) (fun h=>?_)
   ·exact⟨_,rfl,yes _ _ _ ⟨_,rfl⟩ (Ext.refl _) (hz.yes hg h)⟩
   ·exact no _ _ ⟨_,rfl⟩ (Ext.refl _) (hz.no hg (dL.mpr h))
  ·rintro D3 H3 zs3 h3 e3 n3 hz3
   have hz3:=hz3.all (by rw[bg]; exact ar _)
   have lk:zs3.length=lackN n lot:=by rw[hz3,ab]; rfl
   refine⟨D3,_,rfl, .inl (SqL.of h3),?_⟩
   rw[lk]
   refine⟨_,rfl,_,rfl,_,_,rfl,rfl,by show (0:Int)<2; decide,rfl,_,rfl,?_⟩
   rw[jE0]
   have sgn:sg n lot=if ((lackN n lot:Nat):Int) % 2=0 then 1 else -1:=by
    unfold sg
    by_cases z:lackN n lot % 2=0
    ·rw[ah z,ah (by lia)]
    ·rw[ae z,ae (by lia)]
   refine ite2 (fun h=>?_) (fun h=>?_)
   ·have h:((lackN n lot:Nat):Int) % 2=0:=az h
    rw[ah h] at sgn
    rw[sgn,lG] at nx
    exact⟨_,rfl,_,_,rfl,rfl,nx H3 _ _ (E2.trans e3)⟩
   ·have h:¬ ((lackN n lot:Nat):Int) % 2=0:=fun z=>h (ay z)
    rw[ae h] at sgn
    rw[sgn,Int.neg_mul,lG] at nx
    exact⟨_,rfl,_,rfl,_,_,rfl,rfl,nx H3 _ _ (E2.trans e3)⟩
theorem jMI {fd:FuncData}(F:Fun K "many_by_lots" "many_by_lots" kY f fd)(T:Txt mg)(MN:mg "MOST_THINGS_BY_LOTS" =some (.int 10 u10))(CM:Can P w K mg base "mask_of" 1 fM fdM ["lot"] jBI)(CH:Can P w K mg base "ways_to_hold" 1 fH fdH ["lengths","total"] (jEC K)):FnOk P w K mg base CX0 2 f fd ["box"] jF3:=by
 refine F.ok scByLots (fun vs H Q E h=>?_) (fun cdv A outer s H vs Q E hr h=>?_)
 ·obtain⟨_,_,_,_,rfl,_⟩:=h
  rfl
 ·obtain⟨b,wi,ms,pcs,rfl,hB,g,w10,q⟩:=h
  refine⟨_,(jU1 T MN CM CH hr).2.h,?_⟩
  obtain⟨qm,qp,ps,b1,b2,b3,b4⟩:=id hB.ex
  have psl:=b4.len
  have gpl:=g.pl
  have w0:=g.w0
  obtain⟨n,rfl⟩:∃ n:Nat,wi=(n:Int):=⟨wi.toNat,by lia⟩
  have mll:=jCB ms 0 _ g.mr.ris g.mr.bnd
  refine⟨_,rfl,b,_,0,_,rfl,rfl,SqT.of b1,rfl,_,_,rfl,rfl,_,rfl,?_⟩
  rw[aM (show ¬ (n:Int)>10 by lia)]
  refine iteF ?_
  refine⟨_,rfl,b,_,2,_,rfl,rfl,SqT.of b1,rfl,qp,rfl,⟨_,SqT.of b3⟩,jC5 (xs:=ps) (fun σ=>∃ v,σ=[v]) (fun H' zs t=>LsAt H' zs ((pcs.map fun x:List Int×Int=>x.1).take t)) ⟨fun H=>trivial,fun H H' zs t tu hz=>hz.mono tu,fun H zs t hz=>?_⟩ b3 (by rw[aJ]; lia) ⟨_,rfl⟩ ?_ ?_⟩
  ·rw[All2.len hz]
   exact bY _ _
  ·rintro j x σ' H1 zs hx ⟨v,rfl⟩ e1 hz S1 S2 yes no
   obtain⟨pc,hpc,pa,pq,rfl,c1,c2⟩:=b4.at hx
   have hg:(pcs.map fun x:List Int×Int=>x.1)[j]?=some pc.1:=by rw[aA,hpc]; rfl
   dsimp only [kU,yQ]
   rw[ah rfl]
   refine⟨_,rfl,pa,_,0,_,rfl,rfl,SqT.of (e1 _ _ c1),rfl,yes _ _ _ ⟨_,rfl⟩ (Ext.refl _) ?_⟩
   show LsAt _ _ _
   rw[bf,hg]
   exact All2.snoc hz ⟨pq,rfl,e1 _ _ c2⟩
  rintro D1 H1 zs1 h1 e1 n1 hz1
  rw[psl,bK (by rw[ab]; exact ar _)] at hz1
  have zl1:=All2.len hz1
  rw[ab] at zl1
  refine⟨_,rfl,b,_,1,_,rfl,rfl,SqT.of (e1 _ _ b1),rfl,qm,rfl,⟨_,SqT.of (e1 _ _ b2)⟩,jC5 (xs:=ms.map V.int) (fun σ=>∃ v,σ=[v]) (fun H' zs t=>LsAt H' zs ((ms.map fun (x:Int)=> [x]).take t)) ⟨fun H=>trivial,fun H H' zs t tu hz=>hz.mono tu,fun H zs t hz=>?_⟩ (e1 _ _ b2) (by rw[ab,aJ]; lia) ⟨_,rfl⟩ ?_ ?_⟩
  ·rw[All2.len hz]
   exact bY _ _
  ·rintro j x σ' H2 zs hx ⟨v,rfl⟩ e2 hz S1 S2 yes no
   obtain⟨t,ht,rfl⟩:=int_at hx
   have hg:(ms.map fun (x:Int)=> [x])[j]?=some [t]:=by rw[aA,ht]; rfl
   dsimp only [kU,yQ]
   rw[ah rfl]
   refine⟨_,rfl,by show (1:Nat)<=_; decide,fun r H3 d3 e3=>yes _ _ _ ⟨_,rfl⟩ e3 ?_⟩
   show LsAt _ _ _
   rw[bf,hg]
   exact All2.snoc (hz.mono e3.tups) ⟨r,rfl,d3⟩
  rintro D2 H2 zs2 h2 e2 n2 hz2
  rw[ab,bK (by rw[ab]; exact ar _)] at hz2
  have zl2:=All2.len hz2
  rw[ab] at zl2
  refine⟨D1,D2,zs1,zs2,rfl,rfl,e2 _ _ h1,h2,by rw[aJ]; lia,fun L H3 d3 e3 n3=>?_⟩
  have E3:=(e1.trans e2).trans e3
  have hz3:LsAt H3 (zs1++zs2) (tls ms pcs):=LsAt.mono e3.tups (All2.append (hz1.mono e2.tups) hz2)
  have tl:(tls ms pcs).length<=64:=by
   unfold tls
   rw[aC,ab,ab]
   lia
  have zl3:=All2.len hz3
  have tok:∀ p∈tls ms pcs,p.Pairwise (· < ·)/\(∀ t∈p,0<=t/\t<(n:Int))/\p≠ []:=fun p hp=>by
   rcases aR.mp hp with z | z
   ·obtain⟨pc,hpc,rfl⟩:=aL.mp z
    have gp:=(g.pg pc hpc).lot
    exact⟨gp.ris,gp.bnd,gp.ne⟩
   ·obtain⟨t,ht,rfl⟩:=aL.mp z
    have:=g.mr.bnd t ht
    exact⟨eX _ _,fun x hx=>by rw[aE.mp hx]; exact this,by simp⟩
  refine⟨_,rfl,L,rfl,⟨_,SqL.of d3⟩,jAW (xs:=zs1++zs2) (fun σ=>∃ v,σ=[v]) (fun H' zs t=>MkAt H' zs (((tls ms pcs).take t).map prs)) ⟨fun H=>trivial,fun H H' zs t tu hz=>hz.mono tu,fun H zs t hz=>?_⟩ d3 (by rw[aJ]; lia) ⟨_,rfl⟩ ?_ ?_⟩
  ·rw[All2.len hz,ab]
   exact bY _ _
  ·rintro j x σ' H4 zs hx ⟨v,rfl⟩ e4 hz S1 S2 yes no
   obtain⟨p,hp,q4,rfl,hq4⟩:=All2.get' hz3 hx
   obtain⟨p1,p2,p3⟩:=tok p (aH hp)
   have plen:=jCB p 0 _ p1 p2
   dsimp only [kU,yQ]
   rw[ah rfl]
   refine⟨_,rfl,q4,p,rfl,e4 _ _ hq4,fun t ht=>by have:=p2 t ht; lia,by lia,fun H5 e5=>?_⟩
   refine⟨_,rfl,q4,_,rfl, .inr (SqT.of (e5 _ _ (e4 _ _ hq4))),by show (2:Nat)<=_; decide,fun r H6 d6 e6=>yes _ _ _ ⟨_,rfl⟩ (e5.trans e6) ?_⟩
   show MkAt _ _ _
   rw[bf,hp,aP]
   refine All2.snoc (MkAt.mono (e5.trans e6).tups hz) ⟨r,rfl,?_⟩
   rw[d6,ab]
   rfl
  ·rintro M H4 us h4 e4 n4 hu
   rw[zl3,bG] at hu
   have E4:=E3.trans e4
   have hu:MkAt H4 us (PS ms pcs):=hu
   have e2n:(1:Int)*2 ^ ((n:Nat):Int).toNat=((2 ^ n:Nat):Int):=by rw[lG,aK]; push_cast; rfl
   have pn:2 ^ n<=2 ^ 10:=bS (by decide) (by lia)
   have pn':(2 ^ 10:Nat)=1024:=by decide
   have p0:=dN n
   have pok:∀ p∈PS ms pcs,1<=p.2/\p.2<=16:=fun p hp=>by
    obtain⟨l,hl,rfl⟩:=aL.mp hp
    obtain⟨l1,l2,l3⟩:=tok l hl
    have:=jCB l 0 _ l1 l2
    have:=List.length_pos_iff.mpr l3
    show 1<=l.length/\l.length<=16
    lia
   refine⟨_,rfl,b,_,0,_,rfl,rfl,SqT.of (E4 _ _ b1),rfl,_,_,rfl,rfl,⟨by lia,by lia,by decide⟩,((2 ^ n:Nat):Int),by rw[<- e2n],by lia,by lia,jC2 (lo:=0) (n:=((2 ^ n:Nat):Int).toNat) (fun i σ H'=>(∃ v4 v5 v6,σ=[some (.ref b),some (.ref L),some (.ref M),some (.int (sumTo n i fun lot=>sg n lot*(sc (kR (PS ms pcs) lot) n:Int))),v4,v5,v6])/\Ext H4 H') ⟨⟨_,_,_,rfl⟩,Ext.refl _⟩ ?_ ?_⟩
   ·rintro i σ H5 hi ⟨⟨v4,v5,v6,rfl⟩,e5⟩
    have e0:(0+(i:Int))=(i:Int):=by lia
    show (blInA T CH hr).1 _ [some (.ref b),some (.ref L),some (.ref M),some (.int _),some (.int (0+(i:Int))),v5,v6] H5
    rw[e0]
    refine bl_in T CH hr (e5 _ _ (E4 _ _ b1)) (e5 _ _ h4) (MkAt.mono e5.tups hu) (by unfold PS; rw[ab]; exact tl) pok (by lia) fun H6 v5 v6 e6=>⟨⟨some (natV i),v5,v6,by rw[jK8]⟩,e5.trans e6⟩
   ·rintro σ H5 ⟨⟨v4,v5,v6,rfl⟩,e5⟩
    have bl:=jU0 g
    rw[aK] at bl
    refine⟨_,rfl,?_⟩
    rw[aK]
    show Q (.int (sumTo n (2 ^ n) _)) H5
    have:sumTo n (2 ^ n) (fun lot=>sg n lot*(sc (kR (PS ms pcs) lot) n:Int))=((wk (chs n ms pcs) 0).length:Int):=bl
    rw[this]
    have q:=q H5 (E4.trans e5)
    rw[aK] at q
    exact q
end
theorem jWA {w:Int}{ms:List Int}{pcs:List (List Int×Int)}{m:Nat}{c:Int×Nat}(hm:m<2 ^ (chs w.toNat ms pcs).length)(hf:m≠fullN (chs w.toNat ms pcs))(hc:c∈chAt (chs w.toNat ms pcs) m):c.1<pcs.length:=by
 have hl:lowN m<w.toNat:=by
  have:=qE hm hf
  unfold chs at this
  rwa [kQ] at this
 obtain⟨h1,_⟩:=aQ.mp hc
 unfold chs at h1
 rw[ai,yB hl] at h1
 have h1:c∈yG ms pcs pcs.length (lowN m):=h1
 unfold yG at h1
 rcases aR.mp h1 with z | z
 ·split at z
  ·rw[aE] at z
   rw[z]
   show (-1:Int)<_
   lia
  ·cases z
 ·obtain⟨k,hk,rfl⟩:=aL.mp z
  exact((kO pcs.length).bnd k (b0 (aQ.mp hk).1)).2
abbrev wfS (c:Int)(x:List Int):List Int:=if c<0 then x else c::x
def szN:List (List Int)->Nat
 | []=>0
 | x::r=>max (x.length+1) (szN r)
def cntS (ws:List (List Int))(s:Nat):Nat:=ws.countP fun x=>x.length==s
def szL (ws:List (List Int)):List Nat:=(List.range (szN ws)).map (cntS ws)
theorem jLD:∀ a b:List (List Int),szN (a++b)=max (szN a) (szN b)
 | [],b=>by show szN b=max 0 (szN b); lia
 | x::r,b=>by show max _ (szN (r++b))=max (max _ (szN r)) _; rw[jLD r b]; lia
theorem jQN (a b:List (List Int))(s:Nat):cntS (a++b) s=cntS a s+cntS b s:=iN ..
theorem jJW:∀ {ws:List (List Int)}{s:Nat},szN ws<=s->cntS ws s=0
 | [],_,_=>rfl
 | x::r,s,h=>by
  have h:max (x.length+1) (szN r)<=s:=h
  unfold cntS
  rw[List.countP_cons_of_neg (by simp; lia)]
  exact jJW (by lia)
theorem jEV (ws:List (List Int)):(szL ws).length=szN ws:=by
 unfold szL
 rw[ab,bg]
theorem jRZ (ws:List (List Int))(s:Nat):(szL ws).getD s 0=cntS ws s:=by
 unfold szL
 rw[ai,aA]
 by_cases h:s<szN ws
 ·rw[bQ h]; rfl
 ·rw[bI (by rw[bg]; lia),jJW (by lia)]; rfl
theorem szN_zero {ws:List (List Int)} :szN ws=0↔ws=[]:=by
 cases ws with
 | nil=>exact⟨fun _=>rfl,fun _=>rfl⟩
 | cons x r=>exact⟨fun h=>by have h:max (x.length+1) (szN r)=0:=h; lia,fun h=>(by cases h)⟩
theorem jR3 {c:Int}(hc:¬ c<0):∀ {W:List (List Int)},W≠ []->szN (W.map (wfS c))=szN W+1
 | [],h=>absurd rfl h
 | [x],_=>by
  show max ((if c<0 then x else c::x).length+1) 0=max (x.length+1) 0+1
  rw[ae hc,aU]
  lia
 | x::y::r,_=>by
  have ih:=jR3 hc (W:=y::r) (by simp)
  show max ((if c<0 then x else c::x).length+1) (szN ((y::r).map (wfS c)))=max (x.length+1) (szN (y::r))+1
  rw[ih,ae hc,aU]
  lia
theorem jOH {c:Int}(hc:¬ c<0)(W:List (List Int))(s:Nat):cntS (W.map (wfS c)) (s+1)=cntS W s/\cntS (W.map (wfS c)) 0=0:=by
 unfold cntS
 rw[jy,jy]
 constructor
 ·refine iX fun x _=>?_
  show (((if c<0 then x else c::x).length==s+1)=true)↔_
  rw[ae hc,aU]
  simp
 ·refine dQ.mpr fun x _=>?_
  show ¬ (((if c<0 then x else c::x).length==0)=true)
  rw[ae hc,aU]
  simp
theorem jUI {c:Int}{W:List (List Int)}(ne:W≠ []):szL (W.map (wfS c))=if c<0 then szL W else 0::szL W:=by
 by_cases hc:c<0
 ·rw[ah hc]
  have e:W.map (wfS c)=W:=(aX fun x _=>ah hc).trans (dU _)
  rw[e]
 ·rw[ae hc]
  unfold szL
  rw[jR3 hc ne,gM,aY,ba,(jOH hc W 0).2]
  congr 1
  exact aX fun s _=>(jOH hc W s).1
def sumG (Ls:List (List Nat))(s:Nat):Nat:=(Ls.map fun l=>l.getD s 0).sum
def lenG:List (List Nat)->Nat
 | []=>0
 | l::r=>max l.length (lenG r)
theorem jUA (cs:List (Int×List (List Int))):szL (wJ cs)=(List.range (lenG ((cs.filter fun p=>decide (0<(szL p.2).length)).map fun p=>szL (p.2.map (wfS p.1))))).map (sumG ((cs.filter fun p=>decide (0<(szL p.2).length)).map fun p=>szL (p.2.map (wfS p.1)))):=by
 have key:∀ cs:List (Int×List (List Int)),szN (wJ cs)=lenG ((cs.filter fun p=>decide (0<(szL p.2).length)).map fun p=>szL (p.2.map (wfS p.1)))/\∀ s,cntS (wJ cs) s=sumG ((cs.filter fun p=>decide (0<(szL p.2).length)).map fun p=>szL (p.2.map (wfS p.1))) s:=fun cs=>by
  induction cs with
  | nil=>exact⟨rfl,fun _=>rfl⟩
  | cons p cs ih=>
   have e:wJ (p::cs)=p.2.map (wfS p.1)++wJ cs:=List.flatMap_cons
   rw[e]
   by_cases h:0<(szL p.2).length
   ·rw[db (by exact ay h),aY]
    refine⟨?_,fun s=>?_⟩
    ·rw[jLD,ih.1]
     show _=max (szL (p.2.map (wfS p.1))).length _
     rw[jEV]
    ·rw[jQN,ih.2 s]
     show _=(szL (p.2.map (wfS p.1))).getD s 0+_
     rw[jRZ]
     rfl
   ·have e0:p.2=[]:=szN_zero.mp (by rw[<- jEV]; lia)
    rw[cE (by simpa using h),e0]
    exact ih
 obtain⟨k1,k2⟩:=key cs
 conv=>lhs; unfold szL
 rw[k1]
 exact aX fun s _=>k2 s
theorem jR4 {B:Nat} :∀ {ws:List (List Int)},(∀ x∈ws,x.length+1<=B)->szN ws<=B
 | [],_=>bx _
 | x::r,h=>by
  show max _ (szN r)<=B
  have:=h x (am ..)
  have:=jR4 fun y hy=>h y (aj x hy)
  lia
theorem jP3 {ch:Ch}(o:ChOk ch):∀ m,m<2 ^ ch.length->∀ x∈wk ch m,x.length+lowN m<=ch.length:=by
 refine jB3 o ?_ ?_
 ·intro x hx
  rw[jAH,aE] at hx
  rw[hx]
  show 0+lowN (2 ^ ch.length - 1)<=_
  rw[jPV]
  lia
 ·intro m hm hn ih x hx
  rw[yR o hm hn] at hx
  obtain⟨p,hp,hx2⟩:=List.mem_flatMap.mp hx
  obtain⟨c,hc,rfl⟩:=aL.mp hp
  obtain⟨y,hy,rfl⟩:=aL.mp hx2
  have h1:=ih c hc y hy
  have hl:lowN m<lowN (m|||c.2):=by
   have hc2:=hc
   unfold chAt at hc2
   obtain⟨g1,_⟩:=aQ.mp hc2
   rw[ai] at g1
   cases hg:ch[lowN m]? with
   | none=>rw[hg] at g1; cases g1
   | some cs=>
    rw[hg] at g1
    have b1:=(o.it _ _ hg c g1).1
    refine cO fun z=>?_
    have n:=yV (m|||c.2)
    rw[bH,fz] at n
    rcases Nat.lt_or_eq_of_le (jo.mp z) with y | y
    ·rw[jBO m _ y] at n
     cases n.1
    ·rw[y,b1] at n
     cases n.2
  split
  ·lia
  ·rw[aU]; lia
theorem jG3 {ch:Ch}(o:ChOk ch){m:Nat}(hm:m<2 ^ ch.length):(szL (wk ch m)).length<=17:=by
 rw[jEV]
 refine jR4 fun x hx=>?_
 have:=jP3 o m hm x hx
 have:=o.w
 lia
theorem jN4 {Ls:List (List Nat)}{l:List Nat}(h:l∈Ls):l.length<=lenG Ls:=by
 induction Ls with
 | nil=>cases h
 | cons a r ih=>
  show _<=max a.length (lenG r)
  rcases aF.mp h with z | z
  ·rw[z]; lia
  ·have:=ih z; lia
theorem jQ0 {Ls:List (List Nat)}{M:Int}(h:M∈Ls.map fun l=>((l.length:Nat):Int))(hm:∀ a∈Ls.map fun l=>((l.length:Nat):Int),a<=M):M=(lenG Ls:Int):=by
 induction Ls generalizing M with
 | nil=>cases h
 | cons a r ih=>
  show M=((max a.length (lenG r):Nat):Int)
  have ha:((a.length:Nat):Int)<=M:=hm _ (am ..)
  have hr:∀ x∈r,((x.length:Nat):Int)<=M:=fun x hx=>hm _ (aj _ (ce (f:=fun l:List Nat=>((l.length:Nat):Int)) hx))
  have rl:(lenG r:Int)<=M:=by
   clear ih h
   induction r with
   | nil=>show ((0:Nat):Int)<=M; lia
   | cons b r ih2=>
    show ((max b.length (lenG r):Nat):Int)<=M
    have:=hr b (am ..)
    have:=ih2 (fun x hx=>hm x (by
     rcases aF.mp hx with z | z
     ·exact aF.mpr (.inl z)
     ·exact aj _ (aj _ z))) fun x hx=>hr x (aj _ hx)
    lia
  rcases aF.mp h with z | z
  ·have z:M=((a.length:Nat):Int):=z
   lia
  ·obtain⟨x,hx,e⟩:=aL.mp z
   have e:((x.length:Nat):Int)=M:=e
   have:=jN4 hx
   lia
def LsC (D:Addr)(H:Hp)(us:List V)(Ls:List (List Nat)):Prop:=All2 (fun u L=>∃ a,u=V.ref a/\a≠D/\H a=some (.lst (L.map natV))) us Ls
theorem LsC.mono {D:Addr}{H H':Hp}{us:List V}{Ls:List (List Nat)}(h:LsC D H us Ls)(k:∀ a xs,H a=some (.lst xs)->a≠D->H' a=some (.lst xs)):LsC D H' us Ls:=All2.imp (fun _ _ ⟨a,e,n,q⟩=>⟨a,e,n,k _ _ q n⟩) h
def FrH (H00:Hp):Hp->Prop:=fun H=>∀ b,H b=none->H00 b=none
theorem FrH.ok (H00:Hp):HpOk (FrH H00):=⟨fun H H' D kvs hD hD' k h b hb=>h b (by
 cases z:H b with
 | none=>rfl
 | some o=>
  by_cases e:b=D
  ·obtain⟨kvs',y⟩:=hD'
   rw[e,y] at hb
   cases hb
  ·rw[k b o z e] at hb
   cases hb),fun H H' x h b hb=>h b (by
 cases z:H b with
 | none=>rfl
 | some o=>rw[x b o z] at hb; cases hb)⟩
def RSz (H00:Hp)(ch:Ch):RepT:=fun m H v=>∃ a,v= .ref a/\H00 a=none/\H a=some (.lst ((szL (wk ch m)).map natV))
theorem RSz.ok (H00:Hp)(ch:Ch):RepOk (RSz H00 ch):=fun m v=>⟨fun H H' D kvs hD _ k ⟨a,e,n,h⟩=>⟨a,e,n,k _ _ h fun z=>by rw[z,hD] at h; cases h⟩,fun H H' x ⟨a,e,n,h⟩=>⟨a,e,n,x _ _ h⟩⟩
theorem jQA {n j:Nat}(h:j<n):ixN n (j:Int)=some j:=by
 unfold ixN
 simp
 lia
section
variable {fJ:Addr}{fdJ:FuncData}
noncomputable abbrev nSzT:List Str:=["behind","lists","together","counts","size","count"]
theorem scSzT:FnScope nSzT ["behind"] (j9 sSzT):= {}
def szInA (T:Txt mg): { t:TS // JSs (XOf nSzT "sizes_together" sSzT P w K mg base f cdv A outer s H0 E) (yO ((jD sSzT).getD 2 (.Pass ⟨0,0,0,0⟩))) t} :=
 have nd:=scSzT.nd
 ⟨_,(jC (yP bP rfl (jNF gD T.enumerate (j3 (jv 3 rfl vL) j7 j5) j5) (jBB (i:=4) (j:=5) nd rfl rfl (by decide+kernel) (by decide+kernel)) (jC (jN9 (jv 2 rfl vL) (jv 4 rfl vL) (jv 5 rfl vL) jJN)) kS))⟩
def szTA (T:Txt mg): { t:TS // JSs (XOf nSzT "sizes_together" sSzT P w K mg base f cdv A outer s H0 E) (jD sSzT) t} :=
 have nd:=scSzT.nd
 ⟨_,(jB (jI2 (i:=1) nd rfl lL ⟨by rfl⟩ (m:=[none,none]) (Nc:=["number","counts"]) rfl (yC (jv 0 rfl vL)) rfl (by decide+kernel) (by decide+kernel) (jW (psc:=j9 sSzT)) (jH (N:=nSzT) rfl rfl (by decide+kernel)) (fun cl C fp s H=>jAO (i:=0) (j:=1) rfl (show (["number","counts"]:List Str).Nodup by decide+kernel) rfl rfl (by decide+kernel) (by decide+kernel)) (fun cl C fp s H=>jAZ (jI op_gt (jG jCM gl_b T.len (by decide+kernel) (j3 (jv 1 rfl jO) j7 j5) j5) (je_int) (jK _))) (fun cl C fp s H=>(jGO (jI op_ge (jv 0 rfl jO) (je_int) (jK _)) (jY jFB (yY (j3 (je_int) j7 jL)) (jv 1 rfl jO)) (jv 1 rfl jO))) yD) (jB (jP (i:=2) nd rfl lL (jY jRA (yY (j3 (je_int) j7 jL)) (jGQ (jOL rfl) gD T.max (by decide+kernel) (j3 (kN (m:=[none]) (Nc:=["counts"]) rfl (yC (jv 1 rfl vL)) rfl (by decide+kernel) (by decide+kernel) (jW (psc:=j9 sSzT)) (jH (N:=nSzT) rfl rfl (by decide+kernel)) (fun cl C fp s H=>jN (i:=0) (show (["counts"]:List Str).Nodup by decide+kernel) rfl yW) (fun cl C fp s H=>y4) (fun cl C fp s H=>(jG jCM gl_b T.len (by decide+kernel) (j3 (jv 0 rfl jO) j7 j5) j5)) yD) j7 jJ) (jNC je_int jRI) jJ)) jE9) (jB (yP bP rfl (yC (jv 1 rfl vL)) (jN (i:=3) nd rfl lL) (szInA T).2 yD) (jC (jQ (jv 2 rfl vL))))))⟩
theorem jLE (T:Txt mg){D:Ends}{H:Hp}{t a:Addr}{M:Nat}{L:List Nat}{f0:Nat->Nat}{v0 v1 v4 v5:Option V}(ht:H t=some (.lst (((List.range M).map f0).map natV)))(ha:H a=some (.lst (L.map natV)))(at':a≠t)(lM:L.length<=M)
  (nx:∀ H' v4 v5,H' t=some (.lst (((List.range M).map fun s=>f0 s+L.getD s 0).map natV))->(∀ c o,H c=some o->c≠t->H' c=some o)->D.nx [v0,v1,some (.ref t),some (.ref a),v4,v5] H'):
  (szInA (f:=f) (cdv:=cdv) (A:=A) (outer:=outer) (s:=s) (H0:=H0) (E:=E) (P:=P) (w:=w) (K:=K) (base:=base) T).1 D [v0,v1,some (.ref t),some (.ref a),v4,v5] H:=by
 refine⟨_,rfl,false,a,rfl,⟨_,SqL.of ha⟩,jJS (tp:=false) (xs:=L.map natV) (fun i σ H'=>(∃ v4 v5,σ=[v0,v1,some (.ref t),some (.ref a),v4,v5])/\(∀ c o,H c=some o->c≠t->H' c=some o)/\H' t=some (.lst (((List.range M).map fun s=>f0 s+if s<i then L.getD s 0 else 0).map natV))) ⟨⟨_,_,rfl⟩,fun _ _ h _=>h,?_⟩ (fun i σ H' ⟨_,k,_⟩=>SqL.of (k _ _ ha at')) ?_ ?_⟩
 ·rw[ht]
  have e:((List.range M).map f0)=(List.range M).map fun s=>f0 s+if s<0 then L.getD s 0 else 0:=aX fun s _=>by rw[ae (eF _),cx]
  rw[e]
 ·rintro i x Tp σ H1 hx hT ⟨⟨v4,v5,rfl⟩,k1,t1⟩
  have il:i<L.length:=by have:=(ax.mp hx).1; rwa [ab] at this
  have ex:x=natV (L.getD i 0):=by
   rw[aA,ak il] at hx
   rw[ai,ak il]
   exact(bo hx).symm
  subst ex
  have tT:t≠Tp:=fun z=>by rw[z,hT] at t1; cases t1
  have k2:∀ c o,H1 c=some o->(L2.upd H1 Tp (.tup [.int (i:Int),natV (L.getD i 0)])) c=some o:=fun c o h=>by rw[j8 (fun z=>by rw[z,hT] at h; cases h)]; exact h
  have gi:((((List.range M).map fun s=>f0 s+if s<i then L.getD s 0 else 0).map natV))[i]?=some (natV (f0 i)):=by
   rw[aA,aA,bQ (by lia)]
   show some (natV (f0 i+if i<i then L.getD i 0 else 0))=_
   rw[ae (df _),cx]
  refine⟨Tp,_,rfl,SqT.of j6,rfl,_,_,rfl,_,_,rfl,rfl,?_⟩
  refine⟨_,rfl,_,rfl,t,_,i,_,rfl,rfl,SqL.of (k2 _ _ t1),gi,_,rfl,_,_,rfl,rfl,t,_,_,i,rfl,rfl,k2 _ _ t1,?_,⟨_,_,rfl⟩,fun c o h n=>by rw[j8 n]; exact k2 _ _ (k1 _ _ h n),?_⟩
  ·have:=jQA (n:=((((List.range M).map fun s=>f0 s+if s<i then L.getD s 0 else 0).map natV)).length) (j:=i) (by rw[ab,ab,bg]; lia)
   exact this
  ·rw[j6]
   congr 2
   refine eL fun j=>?_
   rw[gJ,ab,ab,bg]
   by_cases hj:i=j
   ·subst hj
    rw[ah rfl,ah (by lia),aA,aA,bQ (by lia)]
    show some (V.int (((f0 i:Nat):Int)+((L.getD i 0:Nat):Int)))=some (natV (f0 i+if i<i+1 then L.getD i 0 else 0))
    rw[ah (i9 _)]
    unfold natV
    rw[ig]
   ·rw[ae hj,aA,aA,aA,aA]
    by_cases hM:j<M
    ·rw[bQ hM]
     show some (natV (f0 j+if j<i then _ else _))=some (natV (f0 j+if j<i+1 then _ else _))
     by_cases h:j<i
     ·rw[ah h,ah (by lia)]
     ·rw[ae h,ae (by lia)]
    ·rw[bI (by rw[bg]; lia)]
     rfl
 ·rintro σ H1 ⟨⟨v4,v5,rfl⟩,k1,t1⟩
  rw[ab] at t1
  refine nx H1 _ _ ?_ k1
  rw[t1]
  congr 3
  refine aX fun s _=>?_
  by_cases h:s<L.length
  ·rw[ah h]
  ·rw[ae h,ai,bI (by lia)]
   rfl
theorem jVE {fd:FuncData}{ch:Ch}{H00:Hp}(o:ChOk ch)(F:Fun K "sizes_together" "sizes_together" sSzT f fd)(T:Txt mg):FnOk P w K mg base CX0 1 f fd ["behind"] (fun vs H Q E=>FrH H00 H/\jDI ch (RSz H00 ch) vs H Q E):=by
 refine F.ok scSzT (fun vs H Q E h=>?_) (fun cdv A outer s H vs Q E hr h=>?_)
 ·obtain⟨_,_,_,_,rfl,_⟩:=h
  rfl
 ·obtain⟨fr,l,us,m,rfl,hl,hm,hn,al,q⟩:=h
  refine⟨_,(szTA T).2.h,?_⟩
  have ul:=All2.len al
  have c33:(chAt ch m).length<=33:=by
   unfold chAt
   refine bM (bJ _ _) ?_
   rw[ai]
   cases hg:ch[lowN m]? with
   | none=>exact bx _
   | some cs=>exact o.len _ _ hg
  have mb:∀ c∈chAt ch m,m|||c.2<2 ^ ch.length:=fun c hc=>by
   unfold chAt at hc
   obtain⟨g1,_⟩:=aQ.mp hc
   rw[ai] at g1
   cases hg:ch[lowN m]? with
   | none=>rw[hg] at g1; cases g1
   | some cs=>
    rw[hg] at g1
    exact dJ hm (o.it _ _ hg c g1).2.1
  let cs:=(chAt ch m).map fun c=>(c.1,wk ch (m|||c.2))
  let pk:Int×List (List Int)->Bool:=fun p=>decide (0<(szL p.2).length)
  let fl:Int×List (List Int)->List Nat:=fun p=>szL (p.2.map (wfS p.1))
  have csl:cs.length=us.length:=by rw[ul]; exact ab ..
  refine⟨_,rfl,l,rfl,⟨_,SqL.of hl⟩,jH0 (by rw[aJ]; lia) (fun D i σ' H' zs=>(∃ v v',σ'=[v,v'])/\Ext H H'/\H' D=some (.lst zs)/\H D=none/\LsC D H' zs (((cs.take i).filter pk).map fl)) (fun D hD=>⟨⟨_,_,rfl⟩,(Ext.refl _).new hD _,j6,hD,trivial⟩) (fun D i σ' H' zs hD ⟨_,e,d,_,a⟩=>⟨e _ _ hl,d,by
   rw[All2.len a,ab]
   exact bM (bJ _ _) (bY _ _)⟩) ?_ ?_⟩
  ·rintro D i σ' H1 zs x hD hx ⟨⟨v,v',rfl⟩,e1,d1,n1,a1⟩
   obtain⟨c,hc,pq,u,rfl,hq,a,rfl,na,ha⟩:=All2.get' al hx
   have hci:cs[i]?=some (c.1,wk ch (m|||c.2)):=by
    show ((chAt ch m).map _)[i]?=_
    rw[aA,hc]
    rfl
   have tk:cs.take (i+1)=cs.take i++[(c.1,wk ch (m|||c.2))]:=by rw[bf,hci]; rfl
   have aD:a≠D:=fun z=>by rw[z,hD] at ha; cases ha
   refine⟨pq,_,rfl,SqT.of (e1 _ _ hq),rfl,_,_,rfl,_,_,rfl,rfl,?_⟩
   have a1':=e1 _ _ ha
   have sl:=jG3 o (mb c (aH hc))
   refine⟨_,rfl,a,_,rfl, .inl (SqL.of a1'),_,_,rfl,rfl,_,rfl,ite2 (fun h=>?_) (fun h=>?_)⟩
   ·have h:(0:Int)<((((szL (wk ch (m|||c.2))).map natV).length:Nat):Int):=az h
    rw[ab] at h
    have pkc:pk (c.1,wk ch (m|||c.2))=true:=ay (by show 0<(szL (wk ch (m|||c.2))).length; lia)
    have ne:wk ch (m|||c.2)≠ []:=fun z=>by
     rw[jEV,szN_zero.mpr z] at h
     lia
    have ft:((cs.take (i+1)).filter pk).map fl=((cs.take i).filter pk).map fl++[szL ((wk ch (m|||c.2)).map (wfS c.1))]:=by
     rw[tk,bV,aP,db pkc]
     rfl
    rw[ft,jUI ne]
    have fin:∀ (H2:Hp) (b:Addr) (L:List Nat),Ext H1 H2->b≠D->H2 b=some (.lst (L.map natV))->H2 D=some (.lst zs)/\(∃ v0 v1,[some (V.int c.1),some (V.ref a)]=[v0,v1])/\Ext H (L2.upd H2 D (.lst (zs++[V.ref b])))/\(L2.upd H2 D (.lst (zs++[V.ref b]))) D=some (.lst (zs++[V.ref b]))/\H D=none/\LsC D (L2.upd H2 D (.lst (zs++[V.ref b]))) (zs++[V.ref b]) (((cs.take i).filter pk).map fl++[L]):=fun H2 b L e2 bD hb=>by
     refine⟨e2 _ _ d1,⟨_,_,rfl⟩,(e1.trans e2).updNew hD _,j6,hD,All2.snoc (LsC.mono a1 fun x xs hx nx=>by rw[j8 nx]; exact e2 _ _ hx) ⟨b,rfl,bD,by rw[j8 bD]; exact hb⟩⟩
    refine⟨_,rfl,_,_,rfl,rfl,_,rfl,ite2 (fun h2=>?_) (fun h2=>?_)⟩
    ·have h2:(0:Int)<=c.1:=az h2
     rw[ae (by lia)]
     refine⟨by show (1:Nat)<=_; decide,fun l2 H2 d2 e2 n2=>⟨_,rfl,l2,a,_,_,rfl,rfl,d2,e2 _ _ a1',by rw[aJ,ab]; show 1+_<=_; lia,fun b3 H3 d3 e3 n3=>?_⟩⟩
     exact fin H3 b3 _ (e2.trans e3) (fun z=>by rw[z,e2 _ _ d1] at n3; cases n3) d3
    ·have h2:¬ (0:Int)<=c.1:=fun z=>h2 (ay z)
     rw[ah (by lia)]
     exact⟨_,rfl,fin H1 a _ (Ext.refl _) aD a1'⟩
   ·have h:¬ 0<(szL (wk ch (m|||c.2))).length:=fun z=>h (ay (by show (0:Int)<((((szL (wk ch (m|||c.2))).map natV).length:Nat):Int); rw[ab]; lia))
    have pkc:¬ pk (c.1,wk ch (m|||c.2))=true:=fun z=>h (az z)
    refine⟨⟨_,_,rfl⟩,e1,d1,n1,?_⟩
    rw[tk,bV,cE pkc]
    show LsC D H1 zs (((cs.take i).filter pk++[]).map fl)
    rw[bq]
    exact a1
  ·rintro D σ' H1 zs hD ⟨_,e1,d1,n1,a1⟩
   have tcs:cs.take us.length=cs:=by rw[<- csl,bG]
   rw[tcs] at a1
   have res:szL (wk ch m)=(List.range (lenG ((cs.filter pk).map fl))).map (sumG ((cs.filter pk).map fl)):=by
    rw[yR o hm hn]
    exact jUA cs
   have zl:=All2.len a1
   have z33:zs.length<=33:=by
    rw[zl,ab]
    refine bM (bJ _ _) ?_
    rw[csl,ul]
    exact c33
   have M17:lenG ((cs.filter pk).map fl)<=17:=by
    have h:=jG3 o hm
    rw[res,ab,bg] at h
    exact h
   generalize hLs:(cs.filter pk).map fl=Ls at a1 res zl M17
   refine⟨by show (1:Nat)<=_; decide,fun l2 H2 d2 e2 n2=>?_⟩
   have d12:=e2 _ _ d1
   refine⟨_,rfl,D,rfl,⟨_,SqL.of d12⟩,jAW (fun σ=>∃ v,σ=[v]) (mapZ Ls fun L=>natV L.length) (mapZ.ok _ _) d12 (by rw[aJ]; lia) ⟨_,rfl⟩ ?_ ?_⟩
   ·rintro j x σ2 H3 zs3 hx ⟨v,rfl⟩ e3 hz S1 S2 yes no
    obtain⟨L,hL,a,rfl,aD,ha⟩:=All2.get' a1 hx
    dsimp only [kU,yQ]
    rw[ah rfl]
    refine⟨_,rfl,a,_,rfl, .inl (SqL.of (e3 _ _ (e2 _ _ ha))),?_⟩
    rw[ab]
    exact yes _ _ _ ⟨_,rfl⟩ (Ext.refl _) (mapZ.yes hz hL)
   ·intro Mx H3 zs3 d3 e3 n3 hz
    have hz:=hz.all (by rw[zl]; exact ar _)
    have hz2:zs3=(Ls.map fun L=>((L.length:Nat):Int)).map V.int:=by rw[hz,ba]; rfl
    rw[hz2] at d3
    refine⟨Mx,Ls.map fun L=>((L.length:Nat):Int),0,(lenG Ls:Int),rfl,rfl,SqL.of d3,fun e=>?_,fun m' a b=>jQ0 a b,?_⟩
    ·rw[List.map_eq_nil_iff.mp e]
     rfl
    ·have E3:=(e1.trans e2).trans e3
     refine⟨l2,_,_,rfl,rfl,e3 _ _ d2,by lia,by lia,by show 1*_<=_; rw[aJ,aK]; lia,fun t4 h4=>?_⟩
     have rp:(replicate ((lenG Ls:Nat):Int).toNat [V.int 0]).flatten=((List.range (lenG Ls)).map fun _=>0).map natV:=by
      rw[aK]
      clear res M17
      generalize lenG Ls=M
      induction M with
      | zero=>rfl
      | succ M ih=>
       rw[cQ,eI,ih,gM,aY,aY]
       show natV 0::_=natV 0::_
       rw[ba,ba,ba]
       rfl
     rw[rp]
     have e4:Ext H3 (L2.upd H3 t4 (.lst (((List.range (lenG Ls)).map fun _=>0).map natV))):=(Ext.refl _).new h4 _
     have d4:(L2.upd H3 t4 (.lst (((List.range (lenG Ls)).map fun _=>0).map natV))) t4=some (.lst (((List.range (lenG Ls)).map fun _=>0).map natV)):=j6
     generalize L2.upd H3 t4 (.lst (((List.range (lenG Ls)).map fun _=>0).map natV))=H4 at e4 d4
     have N4:H t4=none:=jGI E3 h4
     have D4:=e4 _ _ (e3 _ _ d12)
     have tD:D≠t4:=fun z=>by rw[<- z,e3 _ _ d12] at h4; cases h4
     have a4:All2 (fun u L=>∃ a,u=V.ref a/\a≠t4/\H4 a=some (.lst (L.map natV))) zs Ls:=All2.imp (fun u L ⟨a,e,_,ha⟩=>⟨a,e,(fun z=>by rw[<- z,e3 _ _ (e2 _ _ ha)] at h4; cases h4),e4 _ _ (e3 _ _ (e2 _ _ ha))⟩) a1
     refine⟨_,rfl,D,rfl,⟨_,SqL.of D4⟩,jBD (xs:=zs) (fun i σ H'=>(∃ v3 v4 v5,σ=[some (.ref l),some (.ref D),some (.ref t4),v3,v4,v5])/\(∀ c o,H4 c=some o->c≠t4->H' c=some o)/\H' t4=some (.lst (((List.range (lenG Ls)).map (sumG (Ls.take i))).map natV))) ⟨⟨_,_,_,rfl⟩,fun _ _ h _=>h,d4⟩ (fun i σ H' _ ⟨_,k,_⟩=>SqL.of (k _ _ D4 tD)) ?_ ?_⟩
     ·rintro i x σ H5 hx ⟨⟨v3,v4,v5,rfl⟩,k5,t5⟩
      obtain⟨L,hL,a,rfl,at4,ha⟩:=All2.get' a4 hx
      refine jLE T t5 (k5 _ _ ha at4) at4 (jN4 (aH hL)) fun H6 v4 v5 t6 k6=>⟨⟨_,_,_,rfl⟩,fun c o h n=>k6 _ _ (k5 _ _ h n) n,?_⟩
      rw[t6]
      have e:((List.range (lenG Ls)).map fun s=>sumG (Ls.take i) s+L.getD s 0)=(List.range (lenG Ls)).map (sumG (Ls.take (i+1))):=aX fun s _=>by
       unfold sumG
       rw[bf,hL,aP,dr]
       show _=_+(L.getD s 0+0)
       rw[cx]
      rw[e]
     ·rintro σ H5 ⟨⟨v3,v4,v5,rfl⟩,k5,t5⟩
      rw[zl,bG,<- res] at t5
      exact⟨_,rfl,q _ H5 ⟨t4,rfl,fr t4 N4,t5⟩ fun c o h=>k5 _ _ (e4 _ _ (E3 _ _ h)) fun z=>by rw[z,N4] at h; cases h⟩
abbrev jMQ:List Str:=["box"]
theorem scSizes:FnScope jMQ ["box"] (j9 jCT):= {}
def jLO (fJ:Addr):Sp:=spEx (fun x:Hp×Ch=>ChOk x.2) fun x=>jIO fJ (FrH x.1) x.2 (RSz x.1 x.2)
def jHO:Sp:=fun vs H Q _=>∃ (b:Addr) (w:Int) (ms:List Int) (pcs:List (List Int×Int)),vs=[.ref b]/\BoxAt H b w ms pcs/\Good 16 32 w ms pcs/\∀ l H',H' l=some (.lst ((szL (wk (chs w.toNat ms pcs) 0)).map natV))->Ext H H'->H l=none->Q (.ref l) H'
def jUL (T:Txt mg)(CC:Can P w K mg base "choices_of" 2 fC fdC ["box"] kW)(CG:Can P w K mg base "gathered" 4 fG fdG ["choices","at_end","join"] (jLO fJ))(MJ:mg "sizes_together" =some (.ref fJ))(hr:Room 4 (XOf jMQ "sizes" jCT P w K mg base f cdv A outer s H0 E).A): { t:TS // JSs (XOf jMQ "sizes" jCT P w K mg base f cdv A outer s H0 E) (jD jCT) t} :=
 have nd:=scSizes.nd
 have _h:=T
 ⟨_,(jC (jQ (jDU (qI hr) (CG.je hr gD (j3 (CC.je (hr.mono (by decide)) gD (j3 (jv 0 rfl vL) j7 j5) j5) (j3 (yY (j3 je_int j7 jL)) (j3 (jI4 (v:= .ref fJ) gD MJ rfl) j7 j5) jUM) jF) jF) je_int jE)))⟩
theorem jPK {fd:FuncData}(F:Fun K "sizes" "sizes" jCT f fd)(T:Txt mg)(CC:Can P w K mg base "choices_of" 2 fC fdC ["box"] kW)(CG:Can P w K mg base "gathered" 4 fG fdG ["choices","at_end","join"] (jLO fJ))(MJ:mg "sizes_together" =some (.ref fJ)):FnOk P w K mg base CX0 5 f fd ["box"] jHO:=by
 refine F.ok scSizes (fun vs H Q E h=>?_) (fun cdv A outer s H vs Q E hr h=>?_)
 ·obtain⟨_,_,_,_,rfl,_⟩:=h
  rfl
 ·obtain⟨b,wi,ms,pcs,rfl,hB,g,q⟩:=h
  refine⟨_,(jUL T CC CG MJ hr).2.h,?_⟩
  have o:ChOk (chs wi.toNat ms pcs):=qA g
  refine⟨_,rfl,b,wi,ms,pcs,rfl,hB,g,fun L H1 hL1 e1=>⟨by show (1:Nat)<=_; decide,fun t H2 d2 e2 n2=>?_⟩⟩
  have E2:=e1.trans e2
  have ef:szL (wk (chs wi.toNat ms pcs) (fullN (chs wi.toNat ms pcs)))=[1]:=by rw[jAH]; rfl
  refine⟨(H,chs wi.toNat ms pcs),o,L, .ref t,rfl,hL1.ext e2,⟨t,rfl,jGI e1 n2,by rw[ef]; exact d2⟩,fun c hc=>jGI E2 hc,fun r ns H3 got srt mt e3 n3=>?_⟩
  obtain⟨u,dg,a,rfl,na,ha⟩:=got0 got srt mt
  exact⟨r,_,rfl,dg,q a H3 ha (E2.trans e3) na⟩
end
def lk:List (Int×Nat)->Int->Nat
 | [],_=>0
 | w::r,v=>(if w.1=v then w.2 else 0)+lk r v
def tot (l:List (Int×Nat)):Nat:=(l.map (·.2)).sum
def bump:List (Int×Nat)->Int->Nat->List (Int×Nat)
 | [],v,k=> [(v,k)]
 | w::r,v,k=>if w.1=v then (w.1,w.2+k)::r else w::bump r v k
def kvI (l:List (Int×Nat)):List (Key×V):=l.map fun w=>((Sum.inl w.1:Key),natV w.2)
structure WOk (l:List (Int×Nat)):Prop where
 nd:(l.map (·.1)).Nodup
 pos:∀ w∈l,0<w.2
theorem jN0:∀ (l:List (Int×Nat)) (v:Int) (k:Nat) (u:Int),lk (bump l v k) u=lk l u+if v=u then k else 0
 | [],v,k,u=>by show (if v=u then k else 0)+0=0+_; lia
 | w::r,v,k,u=>by
  unfold bump
  by_cases h:w.1=v
  ·rw[ah h]
   show (if w.1=u then w.2+k else 0)+lk r u=(if w.1=u then w.2 else 0)+lk r u+_
   by_cases h2:w.1=u
   ·rw[ah h2,ah h2,ah (by lia)]; lia
   ·rw[ae h2,ae h2,ae (by lia)]; lia
  ·rw[ae h]
   show _+lk (bump r v k) u=_
   rw[jN0 r v k u]
   show _=(if w.1=u then w.2 else 0)+lk r u+_
   lia
theorem jIJ:∀ (l:List (Int×Nat)) (v:Int) (k:Nat),tot (bump l v k)=tot l+k
 | [],v,k=>by show k+0=0+k; lia
 | w::r,v,k=>by
  unfold bump
  by_cases h:w.1=v
  ·rw[ah h]
   show w.2+k+tot r=w.2+tot r+k
   lia
  ·rw[ae h]
   show w.2+tot (bump r v k)=w.2+tot r+k
   rw[jIJ r v k]; lia
theorem jGM:∀ {l:List (Int×Nat)}{v:Int},v∉l.map (·.1)->lk l v=0
 | [],_,_=>rfl
 | w::r,v,h=>by
  show (if w.1=v then w.2 else 0)+lk r v=0
  rw[ae fun z=>h (by rw[<- z]; exact am ..),jGM fun z=>h (aj _ z)]
theorem jFS:∀ {l:List (Int×Nat)}{v:Int}{k:Nat},v∉l.map (·.1)->bump l v k=l++[(v,k)]
 | [],_,_,_=>rfl
 | w::r,v,k,h=>by
  unfold bump
  rw[ae fun z=>h (by rw[<- z]; exact am ..),jFS fun z=>h (aj _ z)]
  rfl
theorem jH5:∀ {l:List (Int×Nat)}{v:Int}{k:Nat},v∈l.map (·.1)->(bump l v k).map (·.1)=l.map (·.1)
 | [],_,_,h=>by cases h
 | w::r,v,k,h=>by
  unfold bump
  by_cases z:w.1=v
  ·rw[ah z]; rfl
  ·rw[ae z,aY,aY,jH5]
   rcases aF.mp h with y | y
   ·exact absurd y.symm z
   ·exact y
theorem WOk.bump {l:List (Int×Nat)}{v:Int}{k:Nat}(o:WOk l)(hk:0<k):WOk (bump l v k):=by
 constructor
 ·by_cases h:v∈l.map (·.1)
  ·rw[jH5 h]; exact o.nd
  ·rw[jFS h,aP]
   exact jMN o.nd h
 ·intro w hw
  have key:∀ {l:List (Int×Nat)},(∀ w∈l,0<w.2)->∀ w∈Eo.bump l v k,0<w.2:=fun {l} =>by
   induction l with
   | nil=>
    intro _ w hw
    rw[aE.mp hw]
    exact hk
   | cons x r ih=>
    intro hp w hw
    unfold Eo.bump at hw
    split at hw
    ·rcases aF.mp hw with y | y
     ·rw[y]; show 0<x.2+k; lia
     ·exact hp w (aj _ y)
    ·rcases aF.mp hw with y | y
     ·rw[y]; exact hp x (am ..)
     ·exact ih (fun z hz=>hp z (aj _ hz)) w y
  exact key o.pos w hw
theorem WOk.len {l:List (Int×Nat)}(o:WOk l):l.length<=tot l:=by
 have key:∀ {l:List (Int×Nat)},(∀ w∈l,0<w.2)->l.length<=tot l:=fun {l} =>by
  induction l with
  | nil=>exact fun _=>ar _
  | cons w r ih=>
   intro h
   have:=h w (am ..)
   have:=ih fun x hx=>h x (aj _ hx)
   show r.length+1<=w.2+tot r
   lia
 exact key o.pos
theorem jET {v:Int} :∀ {l:List (Int×Nat)},(l.map (·.1)).Nodup->valV (kvI l) (.inl v)=if v∈l.map (·.1) then some (natV (lk l v)) else none
 | [],_=>rfl
 | w::r,nd=>by
  obtain⟨n1,n2⟩:=bF.mp nd
  show valV (((Sum.inl w.1:Key),natV w.2)::kvI r) _=_
  rw[aY]
  by_cases h:w.1=v
  ·subst h
   rw[jAR rfl,ah (am ..)]
   show _=some (natV ((if w.1=w.1 then w.2 else 0)+lk r w.1))
   rw[ah rfl,jGM n1,cx]
  ·rw[jAE (fun z=>h (fk z)),jET n2]
   have e:lk (w::r) v=lk r v:=by
    show (if w.1=v then w.2 else 0)+lk r v=_
    rw[ae h,fg]
   by_cases h2:v∈r.map (·.1)
   ·rw[ah h2,ah (aj _ h2),e]
   ·rw[ae h2,ae fun z=>(aF.mp z).elim (fun z=>h z.symm) h2]
theorem jTS {l:List (Int×Nat)}{v:Int}(nd:(l.map (·.1)).Nodup):(valV (kvI l) (.inl v)).getD (.int 0)=natV (lk l v):=by
 rw[jET nd]
 by_cases h:v∈l.map (·.1)
 ·rw[ah h]; rfl
 ·rw[ae h,jGM h]; rfl
theorem jS9 {l:List (Int×Nat)}{v:Int}{k:Nat}(nd:(l.map (·.1)).Nodup):putK (kvI l) (.inl v) (natV (lk l v+k))=kvI (bump l v k):=by
 by_cases h:v∈l.map (·.1)
 ·have hany:((kvI l).any fun kv=>decide (kv.1=(Sum.inl v:Key)))=true:=by
   rw[jD5,jET nd,ah h]
   rfl
  unfold putK
  rw[ah hany]
  clear hany
  induction l with
  | nil=>cases h
  | cons w r ih=>
   obtain⟨n1,n2⟩:=bF.mp nd
   show (if (Sum.inl w.1:Key)=Sum.inl v then ((Sum.inl w.1:Key),natV (lk (w::r) v+k)) else (Sum.inl w.1,natV w.2))::(kvI r).map (fun kv=>if kv.1=Sum.inl v then (kv.1,natV (lk (w::r) v+k)) else kv)=kvI (bump (w::r) v k)
   unfold bump
   by_cases z:w.1=v
   ·rw[ah (by rw[z]),ah z]
    have e:lk (w::r) v=w.2:=by
     show (if w.1=v then w.2 else 0)+lk r v=_
     rw[ah z,jGM (by rw[<- z]; exact n1),cx]
    rw[e]
    show _::_=((Sum.inl w.1:Key),natV (w.2+k))::kvI r
    congr 1
    refine(aX fun kv hkv=>?_).trans (dU _)
    obtain⟨x,hx,rfl⟩:=aL.mp hkv
    show (if (Sum.inl x.1:Key)=Sum.inl v then _ else _)=_
    rw[ae fun y=>n1 (by show w.1∈_; rw[z,<- fk y]; exact ce hx)]
    rfl
   ·rw[ae fun y=>z (fk y),ae z]
    have e:lk (w::r) v=lk r v:=by
     show (if w.1=v then w.2 else 0)+lk r v=_
     rw[ae z,fg]
    rw[e]
    show _::_=((Sum.inl w.1:Key),natV w.2)::kvI (bump r v k)
    congr 1
    refine ih n2 ?_
    rcases aF.mp h with y | y
    ·exact absurd y.symm z
    ·exact y
 ·rw[jD7 _ (by rw[jET nd,ae h]),jFS h,jGM h,fg]
  unfold kvI
  rw[aP]
  rfl
end Eo
namespace L2
open PySem PySem.Spec PyProof.Rows
theorem Callee.imp2 {P:Program}{w:World}{K:W.Frag}{mg:Str->Option Value}{base:Heap}{Z:Shared->Hp->Prop}{zh zh':Hp->Prop}{k:Nat}{a:Addr}{sp sp':Sp}(C:Callee P w K mg base Z zh k a sp)(h1:∀ H,zh' H->zh H)(h2:∀ vs H Q E,zh' H->sp' vs H Q E->sp vs H Q E):Callee P w K mg base Z zh' k a sp':=
 ⟨fun A outer s H e z=>C.fn A outer s H e (h1 H z),fun A outer s H us vs Q E hr he hz zh r q=>C.run A outer s H us vs Q E hr he hz (h1 H zh) r (h2 _ _ _ _ zh q)⟩
section
variable {X:Cx}
def jUC (i j:Int):TE:=fun _ H Q=>∀ p H',H' p=some (.dK [(Sum.inl i, .int j)])->Ext H H'->H p=none->Q (.ref p) H'
theorem jQ5 {i j:Int}{k1 k2:Nat}{p1 p2 pos:Pos} :JE X (.Dict [some (.Constant (.int i) k1 p1)] [.Constant (.int j) k2 p2] pos) (jUC i j):=
 ⟨fun ad s σ H Q I h=>jM9 (jIZ je_int.h je_int.h jM3) rfl rfl (by intro z; cases z) (by show 1<=15; decide) ad s σ H Q I fun p hp=>⟨j6,[(.inl i, .int j)],rfl,by show 1<=15; decide,h p _ j6 (((Ext.refl H).new hp _).updNew hp _) hp⟩⟩
end
end L2
namespace Eo
open PySem L2
def wgt (pcs:List (List Int×Int))(k:Int):Int:=(pcs.getD k.toNat ([],0)).2
def wt (pcs:List (List Int×Int))(x:List Int):Int:=(x.map (wgt pcs)).sum
theorem jRR (pcs:List (List Int×Int))(c:Int)(x:List Int):wt pcs (c::x)=wgt pcs c+wt pcs x:=by
 unfold wt
 rw[aY,b6]
def cW (pcs:List (List Int×Int))(ws:List (List Int))(v:Int):Nat:=ws.countP fun x=>wt pcs x==v
def chW (pcs:List (List Int×Int))(c:Int):Int:=if c<0 then 0 else wgt pcs c
theorem cW_wf (pcs:List (List Int×Int))(c:Int)(W:List (List Int))(v:Int):cW pcs (W.map (wfS c)) v=cW pcs W (v - chW pcs c):=by
 unfold cW
 rw[jy]
 refine iX fun x _=>?_
 show ((wt pcs (if c<0 then x else c::x)==v)=true)↔((wt pcs x==v - chW pcs c)=true)
 unfold chW
 rw[dM,dM]
 by_cases h:c<0
 ·rw[ah h,ah h]; lia
 ·rw[ae h,ae h,jRR]; lia
def bmps:List (Int×Nat)->List (Int×Nat)->Int->List (Int×Nat)
 | l,[],_=>l
 | l,w::r,d=>bmps (bump l (w.1+d) w.2) r d
theorem jH9 (d:Int):∀ (r l:List (Int×Nat)) (w:Int×Nat),bmps l (r++[w]) d=bump (bmps l r d) (w.1+d) w.2
 | [],_,_=>rfl
 | x::r,l,w=>jH9 d r _ w
theorem jIG {d:Int} :∀ {r l:List (Int×Nat)},WOk l->(∀ w∈r,0<w.2)->WOk (bmps l r d)
 | [],_,o,_=>o
 | w::r,l,o,h=>by
  show WOk (bmps (bump l (w.1+d) w.2) r d)
  exact jIG (o.bump (h w (am ..))) fun x hx=>h x (aj _ hx)
theorem jFU (d:Int):∀ (r l:List (Int×Nat)),tot (bmps l r d)=tot l+tot r
 | [],l=>rfl
 | w::r,l=>by
  show tot (bmps (bump l (w.1+d) w.2) r d)=tot l+(w.2+tot r)
  rw[jFU d r,jIJ]; lia
theorem jOR (d:Int):∀ (r l:List (Int×Nat)) (v:Int),lk (bmps l r d) v=lk l v+lk r (v - d)
 | [],l,v=>rfl
 | w::r,l,v=>by
  show lk (bmps (bump l (w.1+d) w.2) r d) v=lk l v+((if w.1=v - d then w.2 else 0)+lk r (v - d))
  rw[jOR d r,jN0]
  by_cases h:w.1=v - d
  ·rw[ah h,ah (by lia)]; lia
  ·rw[ae h,ae (by lia)]; lia
structure WtD (pcs:List (List Int×Int))(ws:List (List Int))(l:List (Int×Nat)):Prop where
 ok:WOk l
 tt:tot l=ws.length
 lk:∀ v,lk l v=cW pcs ws v
theorem WtD.step {pcs:List (List Int×Int)}{ws W:List (List Int)}{l r:List (Int×Nat)}{c:Int}(a:WtD pcs ws l)(b:WtD pcs W r):WtD pcs (ws++W.map (wfS c)) (bmps l r (chW pcs c)):=
 ⟨jIG a.ok b.ok.pos,by rw[jFU,a.tt,b.tt,aC,ab],fun v=>by
  rw[jOR,a.lk,b.lk,<- cW_wf]
  exact(iN ..).symm⟩
def RWt (pcs:List (List Int×Int))(ch:Ch):RepT:=fun m H v=>∃ a ob l,v= .ref a/\H a=some (.frz ob (.dK (kvI l)))/\WtD pcs (wk ch m) l
theorem RWt.ok (pcs:List (List Int×Int))(ch:Ch):RepOk (RWt pcs ch):=fun m v=>⟨fun H H' D kvs hD _ k ⟨a,ob,l,e,h,d⟩=>⟨a,ob,l,e,k _ _ h (fun z=>by rw[z,hD] at h; cases h),d⟩,fun H H' x ⟨a,ob,l,e,h,d⟩=>⟨a,ob,l,e,x _ _ h,d⟩⟩
structure WI where
 a:Addr
 c:Addr
 b:Addr
 w:Int
 ms:List Int
 pcs:List (List Int×Int)
 g:Good 16 32 w ms pcs
 bd:∀ m,m<2 ^ (chs w.toNat ms pcs).length->(wk (chs w.toNat ms pcs) m).length<=1000000
abbrev WI.ch (i:WI):Ch:=chs i.w.toNat i.ms i.pcs
abbrev sWB:Stmt:=(jD sWts).getD 1 (.Pass ⟨0,0,0,0⟩)
abbrev pWB:Pos:=match sWB with
 | .FunctionDef _ _ _ _ _ _ _ _ _ p=>p
 | _=>⟨0,0,0,0⟩
abbrev qWB:Str:= "weights.<locals>.weights_together"
noncomputable abbrev nWB:List Str:=["behind","box","together","number","counts","more","weight","count"]
theorem scWB:NScope nWB ["behind"] ["box"] (j9 sWB):=⟨rfl,rfl,rfl,by decide+kernel,rfl,by decide+kernel,by decide+kernel,fun x h=>by
  have hl:∀ y∈(j9 sWB).names,y.2= .free->y.1= "box" :=by decide+kernel
  rw[aE]
  exact hl _ (cP h) rfl,by decide+kernel⟩
def spWB:List V->Sp:=fun fv vs H Q E=>∃ i:WI,fv=[.ref i.b]/\BoxAt H i.b i.w i.ms i.pcs/\jDI i.ch (RWt i.pcs i.ch) vs H Q E
section
variable {cd:Value}
def wbInA (T:Txt mg)(hr:Room 0 (cxN P w K mg base nWB qWB (j9 sWB) f cd cl A outer s H0).A): { t:TS // JSs (cxN P w K mg base nWB qWB (j9 sWB) f cd cl A outer s H0) (yO ((yO ((jD sWB).getD 1 (.Pass ⟨0,0,0,0⟩))).getD 1 (.Pass ⟨0,0,0,0⟩))) t} :=
 have nd:=scWB.nd
 have _h:=T
 ⟨_,(jC (jDT (qI hr) (jv 2 rfl qJ) (jY y0 (jv 6 rfl qJ) (jv 5 rfl qJ)) (jY y0 (jQ7 (qI hr) (jv 2 rfl qJ) (jY y0 (jv 6 rfl qJ) (jv 5 rfl qJ)) je_int yN jL) (jv 7 rfl qJ)) jE9))⟩
def jL0 (T:Txt mg)(hr:Room 0 (cxN P w K mg base nWB qWB (j9 sWB) f cd cl A outer s H0).A): { t:TS // JSs (cxN P w K mg base nWB qWB (j9 sWB) f cd cl A outer s H0) (yO ((jD sWB).getD 1 (.Pass ⟨0,0,0,0⟩))) t} :=
 have nd:=scWB.nd
 ⟨_,(jB (jP (i:=5) nd rfl (loc_n (by decide+kernel)) (jGO (jI op_ge (jv 3 rfl qJ) (je_int) (jK _)) (jU jV (jU jV (jU jV (jv 1 rfl (jUB (by decide+kernel))) (je_int) jE) (jv 3 rfl qJ) jCE) (je_int) jE) (je_int)) jUK) (jC (yP bP rfl (jJH (jv 4 rfl qJ)) (jJI (i:=6) (j:=7) nd rfl rfl (by decide+kernel) (by decide+kernel)) (wbInA T hr).2 kS)))⟩
def wbehA (T:Txt mg)(hr:Room 0 (cxN P w K mg base nWB qWB (j9 sWB) f cd cl A outer s H0).A): { t:TS // JSs (cxN P w K mg base nWB qWB (j9 sWB) f cd cl A outer s H0) (jD sWB) t} :=
 have nd:=scWB.nd
 ⟨_,(jB (jP (i:=2) nd rfl (loc_n (by decide+kernel)) (jFK) jEW) (jB (yP bP rfl (yC (jv 0 rfl qJ)) (jJI (i:=3) (j:=4) nd rfl rfl (by decide+kernel) (by decide+kernel)) (jL0 T hr).2 yD) (jC (jQ (jRJ (jv 2 rfl qJ))))))⟩
theorem wb_in (T:Txt mg)(hr:Room 0 (cxN P w K mg base nWB qWB (j9 sWB) f cd cl A outer s H0).A){D:Ends}{H:Hp}{t:Addr}{l:List (Int×Nat)}{u d:Int}{k:Nat}{v0 v1 v3 v4:Option V}(ht:H t=some (.dK (kvI l)))(o:WOk l)(ll:l.length<=2000000)
  (nx:D.nx [v0,v1,some (.ref t),v3,v4,some (.int d),some (.int u),some (natV k)] (L2.upd H t (.dK (kvI (bump l (u+d) k))))):
  (wbInA T hr).1 D [v0,v1,some (.ref t),v3,v4,some (.int d),some (.int u),some (natV k)] H:=by
 have kl:(kvI l).length<=2000000:=by unfold kvI; rw[ab]; exact ll
 refine⟨_,rfl,t,rfl, .inl ⟨_, .inl ht⟩,_,rfl,_,rfl,_,_,rfl,rfl,_,DGet.k (k:=Sum.inl (u+d)) ht,?_⟩
 rw[jTS o.nd]
 refine⟨_,rfl,_,_,rfl,rfl,?_⟩
 refine⟨_,rfl,_,rfl,_,rfl,_,_,rfl,rfl,t,_,rfl,DPut.k (k:=Sum.inl (u+d)) ht (by rw[aJ]; lia),?_⟩
 have e:putK (kvI l) (Sum.inl (u+d)) (.int (((lk l (u+d):Nat):Int)+((k:Nat):Int)))=kvI (bump l (u+d) k):=by
  rw[<- jS9 o.nd]
  unfold natV
  rw[ig]
 rw[e]
 exact nx
theorem jTF {l:List (Int×Nat)}{i:Nat}{k:Key}{y:V}(h:(kvI l)[i]?=some (k,y)):∃ w,l[i]?=some w/\k=Sum.inl w.1/\y=natV w.2:=by
 unfold kvI at h
 rw[aA] at h
 cases hw:l[i]? with
 | none=>rw[hw] at h; cases h
 | some w=>
  rw[hw] at h
  cases h
  exact⟨w,rfl,rfl,rfl⟩
theorem jRV (T:Txt mg)(hr:Room 0 (cxN P w K mg base nWB qWB (j9 sWB) f cd cl A outer s H0).A){D:Ends}{H:Hp}{b t a:Addr}{ob:Obj}{l r:List (Int×Nat)}{c:Int}{wi:Int}{ms:List Int}{pcs:List (List Int×Int)}{v0 v5 v6 v7:Option V}(hB:BoxAt H b wi ms pcs)(ht:H t=some (.dK (kvI l)))(ha:H a=some (.frz ob (.dK (kvI r))))(o:WOk l)(or:WOk r)(ll:tot l+tot r<=2000000)(c0: -1<=c)(c1:c<pcs.length)
  (nx:∀ H' v5 v6 v7,H' t=some (.dK (kvI (bmps l r (chW pcs c))))->(∀ x u,H x=some u->x≠t->H' x=some u)->D.nx [v0,some (.ref b),some (.ref t),some (.int c),some (.ref a),v5,v6,v7] H'):
  (jL0 T hr).1 D [v0,some (.ref b),some (.ref t),some (.int c),some (.ref a),v5,v6,v7] H:=by
 obtain⟨qm,qp,ps,b1,b2,b3,b4⟩:=id hB.ex
 have at':a≠t:=fun z=>by rw[z,ht] at ha; cases ha
 have rl:=or.len
 have main:∀ (d:Int),d=chW pcs c->tFor (jNT (tVar 4)) (gTup K 2 (gCons (kU 6) (gCons (kU 7) gNil))) (wbInA T hr).1 D [v0,some (.ref b),some (.ref t),some (.int c),some (.ref a),some (.int d),v6,v7] H:=fun d hd=>by
  refine⟨_,rfl,a,kvI r,rfl, .inr ⟨ob,ha⟩,fun ob' hob=>?_⟩
  have e:ob=ob':=hob ob ha
  subst e
  have eH:L2.upd H a (.frz ob (.dK (kvI r)))=H:=by
   funext x
   by_cases z:x=a
   ·rw[z,j6,ha]
   ·rw[j8 z]
  rw[eH]
  refine jO4 (fun i σ H'=>(∃ v6 v7,σ=[v0,some (.ref b),some (.ref t),some (.int c),some (.ref a),some (.int d),v6,v7])/\(∀ x u,H x=some u->x≠t->H' x=some u)/\H' t=some (.dK (kvI (bmps l (r.take i) d)))) ⟨⟨_,_,rfl⟩,fun _ _ h _=>h,ht⟩ (fun i σ H' ⟨_,k,_⟩=>k _ _ ha at') ?_ ?_
  ·rintro i k y Tp σ H1 hk hT ⟨⟨v6,v7,rfl⟩,k1,t1⟩
   obtain⟨w,hw,rfl,rfl⟩:=jTF hk
   have e5:∀ x u,H1 x=some u->(L2.upd H1 Tp (.tup [kV (Sum.inl w.1),natV w.2])) x=some u:=fun x u h=>by rw[j8 (fun z=>by rw[z,hT] at h; cases h)]; exact h
   refine⟨Tp,_,rfl,SqT.of j6,rfl,_,_,rfl,_,_,rfl,rfl,?_⟩
   have okk:=jIG (d:=d) (r:=r.take i) o fun x hx=>or.pos x (b0 hx)
   have bl:=okk.len
   rw[jFU] at bl
   have tl:tot (r.take i)<=tot r:=by
    have:tot r=tot (r.take i)+tot (r.drop i):=by
     unfold tot
     rw[<- dr,<- aP,bz]
    lia
   refine wb_in T hr (e5 _ _ t1) okk (by lia) ⟨⟨_,_,rfl⟩,fun x u h n=>by rw[j8 n]; exact e5 _ _ (k1 _ _ h n),?_⟩
   rw[j6,bf,hw]
   show some (HO.dK (kvI (bump (bmps l (r.take i) d) (w.1+d) w.2)))=some (HO.dK (kvI (bmps l (r.take i++[w]) d)))
   rw[jH9]
  ·rintro σ H1 ⟨⟨v6,v7,rfl⟩,k1,t1⟩
   have el:(kvI r).length=r.length:=ab ..
   rw[el,bG] at t1
   exact nx H1 _ _ _ (by rw[<- hd]; exact t1) k1
 refine⟨_,rfl,_,_,rfl,rfl,_,rfl,ite2 (fun h=>?_) (fun h=>?_)⟩
 ·have h:(0:Int)<=c:=az h
  obtain⟨pv,hpv,pa,pw,rfl,ha1,ha2⟩:=b4.get (k:=c.toNat) (by lia)
  have at1:atI ps c=some (.ref pa):=by
   have:=qB hpv
   rwa [show ((c.toNat:Nat):Int)=c by lia] at this
  refine⟨_,rfl,b,_,2,_,rfl,rfl,SqT.of b1,rfl,_,rfl,qp,_,c,_,rfl,rfl,SqT.of b3,at1,pa,_,1,_,rfl,rfl,SqT.of ha1,rfl,?_⟩
  exact main _ (by unfold chW; rw[ae (by lia)]; rfl)
 ·have h:¬ (0:Int)<=c:=fun z=>h (ay z)
  exact main 0 (by unfold chW; rw[ah (by lia)])
def preT (ch:Ch)(m i:Nat):List (List Int):=wJ (((chAt ch m).take i).map fun c=>(c.1,wk ch (m|||c.2)))
theorem jM2 {ch:Ch}{m i:Nat}{c:Int×Nat}(h:(chAt ch m)[i]?=some c):preT ch m (i+1)=preT ch m i++(wk ch (m|||c.2)).map (wfS c.1):=by
 unfold preT
 rw[bf,h,aP,jFY]
 congr 1
 unfold wJ
 exact List.flatMap_singleton _ _
theorem jPB {ch:Ch}{m:Nat}(o:ChOk ch)(h:m<2 ^ ch.length)(hn:m≠fullN ch):preT ch m (chAt ch m).length=wk ch m:=by
 unfold preT
 rw[bG,yR o h hn]
theorem jSE {ch:Ch}{m i:Nat}(o:ChOk ch)(h:m<2 ^ ch.length)(hn:m≠fullN ch):(preT ch m i).length<=(wk ch m).length:=by
 rw[yR o h hn]
 have e:(chAt ch m).map (fun c=>(c.1,wk ch (m|||c.2)))=((chAt ch m).take i).map (fun c=>(c.1,wk ch (m|||c.2)))++((chAt ch m).drop i).map (fun c=>(c.1,wk ch (m|||c.2))):=by
  rw[<- aP,bz]
 rw[e,jFY,aC]
 exact Nat.le_add_right _ _
theorem jSY (T:Txt mg):FnN P w K mg base 1 "weights_together" qWB (yE sWB) (jD sWB) (j9 sWB) ["behind"] ["box"] spWB:=by
 refine jW5 scWB (fun fv vs H Q E h=>?_) (fun cl doc pm c ctv us hl=>?_) fun A outer s H a c cl vs fv Q E hr h=>?_
 ·obtain⟨i,rfl,_,_,_,_,rfl,_⟩:=h
  rfl
 ·match us,hl with
  | [_],_=>rfl
 ·obtain⟨⟨_,_,b,w,ms,pcs,g,bd⟩,rfl,hB,l,us,m,rfl,hl,hm,hf,av,q⟩:=h
  refine⟨_,(wbehA T hr).2.h,?_⟩
  have o:ChOk (chs w.toNat ms pcs):=qA g
  have ul:=All2.len av
  intro t ht
  have e1:Ext H (L2.upd H t (.dK [])):=(Ext.refl _).new ht _
  have d1:(L2.upd H t (.dK [])) t=some (.dK []):=j6
  generalize L2.upd H t (.dK [])=H1 at e1 d1
  refine⟨_,rfl,l,rfl,⟨_,SqL.of (e1 _ _ hl)⟩,jBD (xs:=us) (fun i σ H'=>Ext H H'/\(∃ v3 v4 v5 v6 v7,σ=[some (.ref l),some (.ref b),some (.ref t),v3,v4,v5,v6,v7])/\∃ ll,H' t=some (.dK (kvI ll))/\WtD pcs (preT (chs w.toNat ms pcs) m i) ll) ⟨e1,⟨_,_,_,_,_,rfl⟩,[],d1,⟨⟨fo,fun _ h=>by cases h⟩,rfl,fun _=>rfl⟩⟩ (fun i σ H' _ ⟨e,_⟩=>SqL.of (e _ _ hl)) ?_ ?_⟩
  ·rintro i x σ H' hx ⟨e,⟨v3,v4,v5,v6,v7,rfl⟩,ll,ht',wd⟩
   obtain⟨c,hc,p,u,rfl,hp,a,ob,r,rfl,ha,wr⟩:=All2.get' av hx
   have cm:=aH hc
   obtain⟨m1,m2,m3,m4,m5⟩:=o.mem hm hf cm
   have mup:=(o.up hm hf cm).2
   have hlt:=jWA hm hf cm
   have b1:=bd m hm
   have b2:=bd _ mup
   have b3:=jSE (i:=i) o hm hf
   have wr:WtD pcs (wk (chs w.toNat ms pcs) (m|||c.2)) r:=wr
   have hlt:c.1<pcs.length:=hlt
   refine⟨p,_,rfl,SqT.of (e _ _ hp),rfl,_,_,rfl,_,_,rfl,rfl,?_⟩
   refine jRV T hr (hB.mono e.tups) ht' (e _ _ ha) wd.ok wr.ok (by rw[wd.tt,wr.tt]; lia) (by lia) (by lia) fun H2 v5 v6 v7 t2 k2=>⟨(fun x u h=>k2 _ _ (e _ _ h) fun z=>by rw[z,ht] at h; cases h),⟨_,_,_,_,_,rfl⟩,_,t2,?_⟩
   rw[jM2 hc]
   exact wd.step wr
  ·rintro σ H' ⟨e,⟨v3,v4,v5,v6,v7,rfl⟩,ll,ht',wd⟩
   rw[ul,jPB o hm hf] at wd
   refine⟨_,rfl,t,_,rfl,ht',fun ob=>q _ _ ⟨t,ob,ll,rfl,j6,wd⟩ (e.updNew ht _)⟩
def zhWt (cl:List (Str×Addr))(i:WI):Hp->Prop:=fun H=>(H i.a=some (.ext (nfP "weights_together" qWB (yE sWB) (jD sWB) (j9 sWB) cl i.a i.c))/\H i.c=some (.ext (ncP qWB i.c)))/\BoxAt H i.b i.w i.ms i.pcs
theorem zhWt.ok (cl:List (Str×Addr))(i:WI):HpOk (zhWt cl i):=⟨fun H H' D kvs hD _ k h=>⟨⟨k _ _ h.1.1 fun z=>(by rw[<- z,h.1.1] at hD; cases hD),k _ _ h.1.2 fun z=>(by rw[<- z,h.1.2] at hD; cases hD)⟩,h.2.mono fun b xs hb=>k _ _ hb fun z=>(by rw[z,hD] at hb; cases hb)⟩,fun H H' e h=>⟨⟨e _ _ h.1.1,e _ _ h.1.2⟩,h.2.mono e.tups⟩⟩
theorem jHU (T:Txt mg)(cl:List (Str×Addr))(i:WI):Callee P w K mg base (ZC cl ["box"] [.ref i.b]) (zhWt cl i) 1 i.a (jDI i.ch (RWt i.pcs i.ch)):=
 Callee.imp2 (Callee.ofN (jSY T)) (fun H h=>h.1) fun vs H Q E zh q=>⟨i,rfl,zh.2,q⟩
end
structure TT where
 a:Addr
 p:Pos
 q:Str
def ads (L:List TT):List Addr:=L.map TT.a
structure TbS (L:List TT)(H:Hp):Prop where
 nd:(ads L).Nodup
 ok:∀ t∈L,TabOk H t.a t.p t.q
def ExS (S:List Addr)(H H':Hp):Prop:=∀ b o,H b=some o->b∉S->H' b=some o
section
variable {S S':List Addr}{L:List TT}{H H' H'':Hp}
theorem ExS.of (e:Ext H H'):ExS S H H':=fun b o h _=>e b o h
theorem ExS.refl:ExS S H H:=fun _ _ h _=>h
theorem ExS.trans (a:ExS S H H')(b:ExS S H' H''):ExS S H H'':=fun c o h n=>b c o (a c o h n) n
theorem ExS.ofT {T:Addr}(e:ExtT T H H')(h:T∈S):ExS S H H':=fun b o z n=>e b o z fun y=>n (y ▸ h)
theorem TbS.ext (t:TbS L H)(e:Ext H H'):TbS L H':=⟨t.nd,fun x hx=>(t.ok x hx).ext e⟩
theorem TbS.off (t:TbS L H){b:Addr}{o:HO}(h:H b=some o)(ho:∀ ps,o≠ .tbl ps:=by intro _ z; cases z):b∉ads L:=fun z=>by
 obtain⟨x,hx,e⟩:=aL.mp z
 exact(t.ok x hx).ne h ho e.symm
theorem TbS.at (t:TbS L H)(e:ExS (ads L) H H'){b:Addr}{o:HO}(h:H b=some o)(ho:∀ ps,o≠ .tbl ps:=by intro _ z; cases z):H' b=some o:=e b o h (t.off h ho)
theorem TbS.tups (t:TbS L H)(e:ExS (ads L) H H'):Tups H H':=fun b xs h=>t.at e h
theorem TbS.sq {K:W.Frag}{a:Addr}{xs:List V}(t:TbS L H)(e:ExS (ads L) H H')(h:SqL K H a xs):SqL K H' a xs:=by
 rcases h with h | h
 ·rcases h with h | ⟨o,h⟩
  ·exact .inl (.inl (t.at e h))
  ·exact .inl (.inr ⟨o,t.at e h⟩)
 ·exact .inr h
theorem TbS.set (t:TbS L H)(hs:∀ s∈S,s∈ads L)(e:ExS S H H')(k:∀ x∈L,x.a∈S->TabOk H' x.a x.p x.q):TbS L H':=⟨t.nd,fun x hx=>by
 by_cases z:x.a∈S
 ·exact k x hx z
 ·rcases t.ok x hx with h | ⟨c,h,h2⟩
  ·exact .inl (e _ _ h z)
  ·exact .inr ⟨c,e _ _ h z,e _ _ h2 fun y=>t.off h2 (by intro _ z; cases z) (hs c y)⟩⟩
theorem TbS.setT (t:TbS L H){x:TT}(hx:x∈L)(e:ExtT x.a H H')(k:TabOk H' x.a x.p x.q):TbS L H':=t.set (S:=[x.a]) (fun s hs=>by rw[aE.mp hs]; exact ce hx) (ExS.ofT e (aE.mpr rfl)) fun y hy hm=>by
 have e1:=aE.mp hm
 have:y=x:=by
  have nd:=t.nd
  obtain⟨i,hi⟩:=bR hy
  obtain⟨j,hj⟩:=bR hx
  have hi':(ads L)[i]?=some x.a:=by unfold ads; rw[aA,hi,<- e1]; rfl
  have hj':(ads L)[j]?=some x.a:=by unfold ads; rw[aA,hj]; rfl
  have li:i<(ads L).length:=(ax.mp hi').1
  have ij:=(gK li nd).mp (hi'.trans hj'.symm)
  rw[ij,hj] at hi
  exact(bo hi).symm
 rw[this]
 exact k
theorem TbS.lst (t:TbS L H){p:Addr}{xs:List V}{o:HO}(hp:H p=some (.lst xs)):TbS L (L2.upd H p o):=by
 have ne:∀ c o,H c=some o->(∀ xs,o≠ .lst xs)->c≠p:=fun c o h n z=>by
  rw[z,hp] at h
  cases h
  exact n _ rfl
 refine⟨t.nd,fun x hx=>?_⟩
 rcases t.ok x hx with h | ⟨c,h,h2⟩
 ·exact .inl (by rw[j8 (ne _ _ h (by intro _ z; cases z))]; exact h)
 ·exact .inr ⟨c,by rw[j8 (ne _ _ h (by intro _ z; cases z))]; exact h,by rw[j8 (ne _ _ h2 (by intro _ z; cases z))]; exact h2⟩
end
def tWt (tb:Addr):TT:=⟨tb,lamP,qLam⟩
def tWB (tb:Addr):TT:=⟨tb,pWB,qWB⟩
theorem jTD {l k:List (Int×Nat)}(h:l.Perm k)(v:Int):lk l v=lk k v:=by
 induction h with
 | nil=>rfl
 | cons x _ ih=>show _+_=_+_; rw[ih]
 | swap x y r=>
  show (if y.1=v then y.2 else 0)+((if x.1=v then x.2 else 0)+lk r v)=(if x.1=v then x.2 else 0)+((if y.1=v then y.2 else 0)+lk r v)
  lia
 | trans _ _ h1 h2=>exact h1.trans h2
structure WTold (pcs:List (List Int×Int))(ws:List (List Int))(l:List (Int×Nat)):Prop where
 ris:l.Pairwise fun x y=>x.1<y.1
 pos:∀ w∈l,0<w.2
 lk:∀ v,lk l v=cW pcs ws v
def PrsA (H:Hp)(us:List V)(l:List (Int×Nat)):Prop:=All2 (fun u w=>∃ a,u=V.ref a/\H a=some (.tup [.int w.1,natV w.2])) us l
theorem jRX {pcs:List (List Int×Int)}{ws:List (List Int)}{l:List (Int×Nat)}{zs:List (Int×Int)}(d:WtD pcs ws l)(pm:zs.Perm (l.map fun w=>(w.1,((w.2:Nat):Int))))(pw:zs.Pairwise fun x y=>HT.lexLt (prW y) (prW x)=false):WTold pcs ws (zs.map fun w=>(w.1,w.2.toNat))/\(zs.map fun w=>(w.1,w.2.toNat)).Perm l/\∀ z∈zs,((z.2.toNat:Nat):Int)=z.2:=by
 have p1:(zs.map fun w=>(w.1,w.2.toNat)).Perm l:=by
  have:=pm.map fun w:Int×Int=>(w.1,w.2.toNat)
  rw[ba] at this
  exact this.trans (ge ((aX fun w _=>by show (w.1,((w.2:Nat):Int).toNat)=w; rw[aK]).trans (dU _)))
 refine⟨⟨?_,fun w hw=>d.ok.pos w (p1.mem_iff.mp hw),fun v=>(jTD p1 v).trans (d.lk v)⟩,p1,fun z hz=>?_⟩
 ·rw[bA]
  have nd:(zs.map (·.1)).Nodup:=by
   have:=pm.map (·.1)
   rw[ba] at this
   exact this.nodup_iff.mpr d.ok.nd
  refine(gz pw (bA.mp nd)).imp fun {x y} ⟨u,v⟩=>?_
  show x.1<y.1
  unfold prW at u
  rw[HT.lexLt_cons] at u
  split at u
  ·rename_i h; exact absurd h.symm v
  ·have:=dY u
   lia
 ·obtain⟨w,_,rfl⟩:=aL.mp (pm.mem_iff.mp hz)
  show ((((w.2:Nat):Int).toNat:Nat):Int)=_
  rw[aK]
section
variable {u1:Tok}
noncomputable abbrev nWts:List Str:=["box","weights_together"]
theorem scWts:FnScope nWts ["box"] (j9 sWts):= {}
def jLN (cl:List (Str×Addr))(i:WI):Sp:=jIO i.a (zhWt cl i) i.ch (RWt i.pcs i.ch)
theorem fsWB:∀ x∈(["box"]:List Str),(j9 sWB).names.lookup x=some .free:=by decide+kernel
theorem jW3:FsAt (XOf nWts "weights" sWts P w K mg base f (.ref c0) A outer s H0 E) ["box"] [0]:=⟨rfl,fun k x h=>by
 match k,h with
 | 0,h=>
  cases h
  exact⟨0,rfl,rfl, .inl (show (j9 sWts).names.lookup (("box" :String):Str)=some .cell by decide+kernel)⟩
 | k+1,h=>cases h⟩
def spWts (L:List TT)(tb1 tb2:Addr):Sp:=fun vs H Q _=>∃ (b:Addr) (w:Int) (ms:List Int) (pcs:List (List Int×Int)),vs=[.ref b]/\BoxAt H b w ms pcs/\Good 16 32 w ms pcs/\(∀ m,m<2 ^ (chs w.toNat ms pcs).length->(wk (chs w.toNat ms pcs) m).length<=1000000)/\(wk (chs w.toNat ms pcs) 0).length<=1000/\TbS L H/\tWt tb1∈L/\tWB tb2∈L/\
 ∀ r us l H',H' r=some (.lst us)->PrsA H' us l->WTold pcs (wk (chs w.toNat ms pcs) 0) l->l.length<=1000->ExS (ads L) H H'->TbS L H'->H r=none->Q (.ref r) H'
def wtsA (T:Txt mg)(CH:PySem.W.CodeHd base c0 tb2)(BM:BltAt base mg)(M1:mg "MOST_WEIGHED" =some (.int 1000 u1))(CC:Can P w K mg base "choices_of" 2 fC fdC ["box"] kW)(CM:Can P w K mg base "many" 6 fM fdM ["box"] (jG7 tb1))(FG:∀ cl i,FnZ P w K mg base CX0 (ZC cl ["box"] [.ref i.b]) 4 fG fdG ["choices","at_end","join"] (jLN cl i))(MG:mg "gathered" =some (.ref fG))(KG:keepIn K (.ref fG)=true)(BG:Binds K fdG ["choices","at_end","join"] [])(hr:Room 6 (XOf nWts "weights" sWts P w K mg base f (.ref c0) A outer s H0 E).A): { t:TS // JSs (XOf nWts "weights" sWts P w K mg base f (.ref c0) A outer s H0 E) (jD sWts) t} :=
 have nd:=scWts.nd
 ⟨_,(jB (yH (jI op_gt (CM.je hr gD (j3 (jv 0 rfl vC) j7 j5) j5) (jI4 (v:= .int 1000) gD M1 ⟨_,rfl⟩) (jK _)) (jC (jRG)) kL) (jB (jVV (j:=1) nd rfl lL rfl CH BM (jW (psc:=j9 sWts)) rfl rfl) (jC (jQ (jG (jH2 rfl hr.units101) gD T.sorted (by decide+kernel) (j3 (jNI (jDU (qI hr) (jQ8 (G:=fun (i:WI) σ=>jIQ σ [0] [.ref i.b]) (FG _) (hr.mono (by decide)) gD MG KG BG (fun i ad s σ H I q=>⟨I.clOk (jW (psc:=j9 sWts)),I.fvOk (jW (psc:=j9 sWts)) fsWB jW3 q⟩) (j3 (CC.je (hr.mono (by decide)) gD (j3 (jv 0 rfl vC) j7 j5) j5) (j3 (jRJ jQ5) (j3 (jv 1 rfl vL) j7 j5) jS3) jF) jF) je_int jE)) j7 jF) jF)))))⟩
set_option maxHeartbeats 4000000 in
theorem jVD {fd:FuncData}{LT:List TT}(F:FunC K "weights" "weights" sWts f fd c0)(T:Txt mg)(CH:PySem.W.CodeHd base c0 tb2)(BM:BltAt base mg)(M1:mg "MOST_WEIGHED" =some (.int 1000 u1))(CC:Can P w K mg base "choices_of" 2 fC fdC ["box"] kW)(CM:Can P w K mg base "many" 6 fM fdM ["box"] (jG7 tb1))(FG:∀ cl i,FnZ P w K mg base CX0 (ZC cl ["box"] [.ref i.b]) 4 fG fdG ["choices","at_end","join"] (jLN cl i))(MG:mg "gathered" =some (.ref fG))(KG:keepIn K (.ref fG)=true)(BG:Binds K fdG ["choices","at_end","join"] []):FnOk P w K mg base CX0 7 f fd ["box"] (spWts LT tb1 tb2):=by
 refine F.ok scWts (fun vs H Q E h=>?_) (fun A outer s H vs Q E hr h=>?_)
 ·obtain⟨_,_,_,_,rfl,_⟩:=h
  rfl
 ·obtain⟨b,wi,ms,pcs,rfl,hB,g,bd,l1000,tab,i1,i2,q⟩:=h
  refine⟨_,(wtsA T CH BM M1 CC CM FG MG KG BG hr).2.h,?_⟩
  refine⟨_,rfl,b,wi,ms,pcs,rfl,hB,g,tab.ok _ i1,fun H1 e1 t1=>?_⟩
  have T1:=tab.setT i1 e1 t1
  have X1:ExS (ads LT) H H1:=ExS.ofT e1 (ce i1)
  have hB1:=hB.mono (tab.tups X1)
  refine⟨_,_,rfl,rfl,_,rfl,iteN (by show decide ((1000:Int)<((wk (chs wi.toNat ms pcs) 0).length:Int))=false; exact aM (by lia)) ?_⟩
  refine⟨T1.ok _ i2,fun a c H2 k1 k2 k3 e2 na=>?_⟩
  have T2:TbS LT H2:=T1.setT i2 e2 (.inr ⟨c,k3,k2⟩)
  have X2:ExS (ads LT) H1 H2:=ExS.ofT e2 (ce i2)
  have hB2:=hB1.mono (T1.tups X2)
  refine⟨_,rfl,b,wi,ms,pcs,rfl,hB2,g,fun L H3 hL3 e3=>?_⟩
  intro d0 H4 d4 e4 n4
  refine⟨d0,_,rfl,d4,fun ob=>?_⟩
  have o:ChOk (chs wi.toNat ms pcs):=qA g
  have e5:Ext H3 (L2.upd H4 d0 (.frz ob (.dK [(Sum.inl 0, .int 1)]))):=e4.updNew n4 _
  have d5:(L2.upd H4 d0 (.frz ob (.dK [(Sum.inl 0, .int 1)]))) d0=some (.frz ob (.dK [(Sum.inl 0, .int 1)])):=j6
  generalize L2.upd H4 d0 (.frz ob (.dK [(Sum.inl 0, .int 1)]))=H5 at e5 d5
  have E25:=e3.trans e5
  refine⟨_,rfl,⟨a,c,b,wi,ms,pcs,g,bd⟩,rfl,L, .ref d0,rfl,hL3.ext e5,?_,⟨⟨E25 _ _ k1,E25 _ _ k2⟩,hB2.mono E25.tups⟩,fun r ns H6 got srt' mt e6 n6=>?_⟩
  ·show RWt pcs (chs wi.toNat ms pcs) (fullN (chs wi.toNat ms pcs)) H5 (.ref d0)
   refine⟨d0,ob,[(0,1)],rfl,d5,?_⟩
   rw[jAH]
   refine⟨⟨bF.mpr ⟨cr,fo⟩,fun w hw=>by rw[aE.mp hw]; decide⟩,rfl,fun v=>?_⟩
   show (if (0:Int)=v then 1 else 0)+0=List.countP (fun x=>wt pcs x==v) [[]]
   rw[List.countP_singleton]
   show _=if ((0:Int)==v)=true then 1 else 0
   by_cases h:(0:Int)=v
   ·rw[ah h,ah (dM.mpr h)]
   ·rw[ae h,ae fun z=>h (dM.mp z)]
  obtain⟨u,dg,a',ob',l,rfl,ha',wd⟩:=got0 got srt' mt
  have wd:WtD pcs (wk (chs wi.toNat ms pcs) 0) l:=wd
  refine⟨r,_,rfl,dg,?_⟩
  refine⟨a',kvI l,rfl, .inr ⟨ob',ha'⟩,fun vp hvp=>?_⟩
  have e7:Ext H6 (L2.upd H6 vp (ViewI vp a')):=(Ext.refl _).new hvp _
  have d7:(L2.upd H6 vp (ViewI vp a')) vp=some (ViewI vp a'):=j6
  generalize L2.upd H6 vp (ViewI vp a')=H7 at e7 d7
  refine⟨vp,a',kvI l,l.map fun w=>(w.1,((w.2:Nat):Int)),rfl,d7, .inr ⟨ob',e7 _ _ ha'⟩,by rw[ba]; rfl,fun r8 us zs H8 d8 al pm pw e8 n8=>?_⟩
  obtain⟨told,p1,zz⟩:=jRX wd pm pw
  have E28:=((E25.trans e6).trans e7).trans e8
  have T8:=T2.ext E28
  have X8:=(X1.trans X2).trans (ExS.of E28)
  refine q r8 us _ H8 d8 ?_ told ?_ X8 T8 ?_
  ·unfold PrsA
   clear d8 pm pw p1 told
   induction us generalizing zs with
   | nil=>cases zs with
    | nil=>trivial
    | cons _ _=>exact al.elim
   | cons v us ih=>cases zs with
    | nil=>exact al.elim
    | cons z zs=>
     obtain⟨⟨a9,e9,h9⟩,al2⟩:=al
     refine⟨⟨a9,e9,?_⟩,ih zs al2 fun x hx=>zz x (aj _ hx)⟩
     show H8 a9=some (.tup [.int z.1, .int ((z.2.toNat:Nat):Int)])
     rw[zz z (am ..)]
     exact h9
  ·rw[p1.length_eq]
   have:=wd.ok.len
   rw[wd.tt] at this
   lia
  ·cases z:H r8 with
   | none=>rfl
   | some ob9=>
    by_cases zt:r8∈ads LT
    ·obtain⟨x,hx,ex⟩:=aL.mp zt
     rcases T2.ok x hx with h | ⟨c9,h,_⟩
     ·rw[ex] at h
      rw[((E25.trans e6).trans e7) _ _ h] at n8
      cases n8
     ·rw[ex] at h
      rw[((E25.trans e6).trans e7) _ _ h] at n8
      cases n8
    ·rw[((E25.trans e6).trans e7) _ _ ((X1.trans X2) _ _ z zt)] at n8
     cases n8
end
theorem mem_nmd {ts lot:List Int}{p:Int} :p∈nmd ts lot↔∃ t∈lot,t∈ts/\p=((ts.idxOf t:Nat):Int):=by
 unfold nmd
 rw[(jAF _).mem_iff]
 unfold plcs
 rw[aL]
 constructor
 ·rintro ⟨t,ht,rfl⟩
  obtain⟨h1,h2⟩:=aQ.mp ht
  exact⟨t,h1,az h2,rfl⟩
 ·rintro ⟨t,h1,h2,rfl⟩
  exact⟨t,aQ.mpr ⟨h1,ay h2⟩,rfl⟩
theorem jAT {ts:List Int}{pcs:List (List Int×Int)}{ks:List Int}{j:Int}(h0:0<=j)(h1:j<ks.length):j4 (pick ts pcs ks) j=nmd ts (j4 pcs (ks.getD j.toNat 0)):=by
 have hj:j.toNat<ks.length:=by lia
 unfold pick
 show ((ks.map _).getD j.toNat ([],0)).1=_
 rw[ai,aA,ai,ak hj]
 rfl
theorem jI5 {ts:List Int}{a b:Int}(ha:a∈ts)(hb:b∈ts)(h:((ts.idxOf a:Nat):Int)=((ts.idxOf b:Nat):Int)):a=b:=by
 have e:ts.idxOf a=ts.idxOf b:=by lia
 have h1:=(jA7 ha).1
 rw[e,(jA7 hb).1] at h1
 exact(bo h1).symm
theorem jML {ts lot:List Int}(h:ts.Pairwise (· < ·))(hl:lot.Pairwise (· < ·)):Ris ts.length (nmd ts lot):=by
 rw[jFC h hl]
 refine⟨jJ1 h hl,fun z hz=>?_⟩
 unfold plcs at hz
 obtain⟨t,ht,rfl⟩:=aL.mp hz
 have:=cn.mpr (az (aQ.mp ht).2)
 lia
theorem jNX {w mp:Int}{ms:List Int}{pcs:List (List Int×Int)}{ts ks:List Int}(g:Good 16 mp w ms pcs)(rk:Ris w ts)(hk:∀ k∈ks,0<=k/\k<pcs.length)(lk:(ks.length:Int)<=mp)(ha:∀ k∈ks,∃ x∈j4 pcs k,x∈ts):Good 16 mp ts.length (nmd ts ms) (pick ts pcs ks):=by
 have tl16:=jFG rk.ris rk.bnd g.w1
 refine⟨by lia,by lia,jML rk.ris g.mr.ris,?_,fun pc hpc=>?_⟩
 ·unfold pick
  rw[ab]
  exact lk
 ·unfold pick at hpc
  obtain⟨k,hk',rfl⟩:=aL.mp hpc
  have kb:=hk k hk'
  have gp:=g.at (k:=k.toNat) (by lia)
  have r:=jML rk.ris (lot:=j4 pcs k) gp.lot.ris
  refine⟨⟨r.ris,r.bnd,fun z=>?_⟩,gp.lo,gp.hi⟩
  obtain⟨x,hx,hx2⟩:=ha k hk'
  have:((ts.idxOf x:Nat):Int)∈nmd ts (j4 pcs k):=mem_nmd.mpr ⟨x,hx,hx2,rfl⟩
  rw[show nmd ts (j4 pcs k)=[] from z] at this
  cases this
theorem jP5 {n:Nat}{t:Int}(h0:0<=t)(h1:t<n):(((upto n).idxOf t:Nat):Int)=t:=by
 have e:t=(upto n)[t.toNat]'(by rw[y6]; lia):=by
  have:=jB4 (n:=n) (i:=t.toNat) (by lia)
  rw[ak (by rw[y6]; lia)] at this
  rw[bo this]
  lia
 have:=(jK1 n).idxOf_getElem t.toNat (by rw[y6]; lia)
 rw[<- e] at this
 lia
theorem jJ7 {n:Nat}{lot:List Int}(r:lot.Pairwise (· < ·))(hb:∀ t∈lot,0<=t/\t<n):nmd (upto n) lot=lot:=by
 rw[jFC (kO n).ris r,jJ2 fun t ht=>mem_upto.mpr (hb t ht)]
 refine(aX fun t ht=>jP5 (hb t ht).1 (hb t ht).2).trans ?_
 exact dU _
theorem jPE {wi:Int}{ms:List Int}{pcs:List (List Int×Int)}(g:Good 16 32 wi ms pcs):pick (upto wi.toNat) pcs (upto pcs.length)=pcs:=by
 unfold pick upto
 rw[ba]
 refine List.ext_getElem (by simp) fun i h1 h2=>?_
 have hi:i<pcs.length:=h2
 have gp:=g.at hi
 have w0:=g.w0
 simp only [List.getElem_map,List.getElem_range,Function.comp_apply,aK]
 have e:pcs.getD i ([],0)=pcs[i]:=by simp [List.getD,hi]
 rw[e] at gp ⊢
 have:=jJ7 (n:=wi.toNat) gp.lot.ris fun t ht=>by have:=gp.lot.bnd t ht; lia
 unfold j4
 rw[aK,e]
 unfold upto at this
 rw[this]
structure SubCov (ms:List Int)(pcs:List (List Int×Int))(ts ks S:List Int):Prop where
 ris:S.Pairwise (· < ·)
 sub:∀ k∈S,k∈ks
 dis:∀ k∈S,∀ k'∈S,k≠k'->∀ t∈j4 pcs k,t∉j4 pcs k'
 cov:∀ t∈ts,t∉ms->∃ k∈S,t∈j4 pcs k
def kOf (ks c:List Int):List Int:=c.map fun j=>ks.getD j.toNat 0
def jOf (ks S:List Int):List Int:=S.map fun k=>((ks.idxOf k:Nat):Int)
theorem kget {ks:List Int}{j:Int}(h0:0<=j)(h1:j<ks.length):ks.getD j.toNat 0∈ks/\ks[j.toNat]?=some (ks.getD j.toNat 0):=by
 have hj:j.toNat<ks.length:=by lia
 rw[ai,ak hj]
 exact⟨cM hj,rfl⟩
theorem jJF {ks:List Int}{k:Int}(h:k∈ks):ks.getD ((ks.idxOf k:Nat):Int).toNat 0=k:=by
 rw[aK,ai,(jA7 h).1]
 rfl
theorem jJO {ks:List Int}(r:ks.Pairwise (· < ·)){j:Int}(h0:0<=j)(h1:j<ks.length):((ks.idxOf (ks.getD j.toNat 0):Nat):Int)=j:=by
 obtain⟨a,b⟩:=kget h0 h1
 have nd:ks.Nodup:=r.imp fun {a b} h=>by lia
 have hlt:=cn.mpr a
 have:=(gK hlt nd).mp ((jA7 a).1.trans b.symm)
 lia
theorem kj {ks S:List Int}(h:∀ k∈S,k∈ks):kOf ks (jOf ks S)=S:=by
 unfold kOf jOf
 rw[ba]
 exact(aX fun k hk=>jJF (h k hk)).trans (dU _)
theorem jk {ks c:List Int}(r:ks.Pairwise (· < ·))(h:∀ j∈c,0<=j/\j<ks.length):jOf ks (kOf ks c)=c:=by
 unfold kOf jOf
 rw[ba]
 exact(aX fun j hj=>jJO r (h j hj).1 (h j hj).2).trans (dU _)
theorem jTG {ks:List Int}(r:ks.Pairwise (· < ·)){i j:Int}(h0:0<=i)(h1:i<j)(h2:j<ks.length):ks.getD i.toNat 0<ks.getD j.toNat 0:=by
 have hi:i.toNat<ks.length:=by lia
 have hj:j.toNat<ks.length:=by lia
 rw[ai,ai,ak hi,ak hj]
 exact bW.mp r _ _ hi hj (by lia)
theorem jS0 {ms:List Int}{pcs:List (List Int×Int)}{ts ks:List Int}(rt:ts.Pairwise (· < ·))(rk:ks.Pairwise (· < ·))(al:∀ k∈ks,∀ t∈j4 pcs k,t∈ts){c:List Int}(C:IsCov (ts.length:Int) (nmd ts ms) (pick ts pcs ks) c):SubCov ms pcs ts ks (kOf ks c):=by
 have pl:(pick ts pcs ks).length=ks.length:=ab ..
 have cb:∀ j∈c,0<=j/\j<ks.length:=fun j hj=>by have:=C.ris.bnd j hj; rwa [pl] at this
 refine⟨?_,fun k hk=>?_,fun k hk k' hk' ne t ht ht'=>?_,fun t ht hn=>?_⟩
 ·unfold kOf
  rw[bA]
  exact(d9.mp C.ris.ris).imp fun {a b} h=>jTG rk (cb a h.1).1 h.2.2 (cb b h.2.1).2
 ·obtain⟨j,hj,rfl⟩:=aL.mp hk
  exact(kget (cb j hj).1 (cb j hj).2).1
 ·obtain⟨j,hj,rfl⟩:=aL.mp hk
  obtain⟨j',hj',rfl⟩:=aL.mp hk'
  have hts:=al _ (kget (cb j hj).1 (cb j hj).2).1 t ht
  refine C.dis j hj j' hj' (fun z=>ne (by rw[z])) ((ts.idxOf t:Nat):Int) ?_ ?_
  ·rw[jAT (cb j hj).1 (cb j hj).2]
   exact mem_nmd.mpr ⟨t,ht,hts,rfl⟩
  ·rw[jAT (cb j' hj').1 (cb j' hj').2]
   exact mem_nmd.mpr ⟨t,ht',hts,rfl⟩
 ·have hp:ts.idxOf t<ts.length:=cn.mpr ht
  obtain⟨j,hj,hjt⟩:=C.cov ((ts.idxOf t:Nat):Int) (by lia) (by lia) (fun z=>by
   obtain⟨u,hu,hut,e⟩:=mem_nmd.mp z
   exact hn (jI5 ht hut e ▸ hu))
  rw[jAT (cb j hj).1 (cb j hj).2] at hjt
  obtain⟨u,hu,hut,e⟩:=mem_nmd.mp hjt
  exact⟨_,ce hj,jI5 ht hut e ▸ hu⟩
theorem jTY {ms:List Int}{pcs:List (List Int×Int)}{ts ks:List Int}(rt:ts.Pairwise (· < ·))(rk:ks.Pairwise (· < ·)){S:List Int}(C:SubCov ms pcs ts ks S):IsCov (ts.length:Int) (nmd ts ms) (pick ts pcs ks) (jOf ks S):=by
 have pl:(pick ts pcs ks).length=ks.length:=ab ..
 have tp:∀ k∈S,j4 (pick ts pcs ks) ((ks.idxOf k:Nat):Int)=nmd ts (j4 pcs k):=fun k hk=>by
  have hlt:=cn.mpr (C.sub k hk)
  rw[jAT (by lia) (by lia),jJF (C.sub k hk)]
 refine⟨⟨?_,fun j hj=>?_⟩,fun j hj j' hj' ne p h1 h2=>?_,fun p p0 p1 hn=>?_⟩
 ·unfold jOf
  rw[bA]
  refine(d9.mp C.ris).imp fun {a b} h=>?_
  have:=jRK rk (C.sub a h.1) (C.sub b h.2.1) h.2.2
  lia
 ·obtain⟨k,hk,rfl⟩:=aL.mp hj
  have hlt:=cn.mpr (C.sub k hk)
  rw[pl]
  lia
 ·obtain⟨k,hk,rfl⟩:=aL.mp hj
  obtain⟨k',hk',rfl⟩:=aL.mp hj'
  rw[tp k hk] at h1
  rw[tp k' hk'] at h2
  obtain⟨t,ht,hts,e⟩:=mem_nmd.mp h1
  obtain⟨u,hu,hus,e'⟩:=mem_nmd.mp h2
  have:t=u:=jI5 hts hus (by lia)
  subst this
  exact C.dis k hk k' hk' (fun z=>ne (by rw[z])) t ht hu
 ·have hp:p.toNat<ts.length:=by lia
  have ht:ts[p.toNat]∈ts:=cM hp
  have ip:((ts.idxOf ts[p.toNat]:Nat):Int)=p:=by
   have:=jJO rt p0 p1
   rw[ai,ak hp] at this
   exact this
  obtain⟨k,hk,hkt⟩:=C.cov _ ht (fun z=>hn (mem_nmd.mpr ⟨_,z,ht,ip.symm⟩))
  refine⟨_,ce hk,?_⟩
  rw[tp k hk]
  exact mem_nmd.mpr ⟨_,hkt,ht,ip.symm⟩
theorem jLJ {ms:List Int}{pcs:List (List Int×Int)}{ts ks:List Int}(rt:ts.Pairwise (· < ·))(rk:ks.Pairwise (· < ·))(al:∀ k∈ks,∀ t∈j4 pcs k,t∈ts)(g:Good 16 32 (ts.length:Int) (nmd ts ms) (pick ts pcs ks)){L:List (List Int)}(nd:L.Nodup)(hL:∀ S,S∈L↔SubCov ms pcs ts ks S):(cvs (ts.length:Int) (nmd ts ms) (pick ts pcs ks)).length=L.length:=by
 have pl:(pick ts pcs ks).length=ks.length:=ab ..
 apply Nat.le_antisymm
 ·refine jI0 (kOf ks) (jGY g) (fun c hc=>(hL _).mpr (jS0 rt rk al ((jAV g).mp hc))) fun a ha b hb e=>?_
  have ra:=((jAV g).mp ha).ris.bnd
  have rb:=((jAV g).mp hb).ris.bnd
  rw[pl] at ra rb
  rw[<- jk rk ra,<- jk rk rb,e]
 ·refine jI0 (jOf ks) nd (fun S hS=>(jAV g).mpr (jTY rt rk ((hL S).mp hS))) fun a ha b hb e=>?_
  rw[<- kj ((hL a).mp ha).sub,<- kj ((hL b).mp hb).sub,e]
def butK (n:Nat)(p:Int):List Int:=(upto n).take p.toNat++(upto n).drop (p.toNat+1)
theorem jDE {n:Nat}{p k:Int}(h0:0<=p)(h1:p<n):k∈butK n p↔(0<=k/\k<n)/\k≠p:=by
 unfold butK
 rw[<- eO,List.mem_eraseIdx_iff_getElem]
 constructor
 ·rintro ⟨i,hi,ne,rfl⟩
  have hi':i<n:=by rwa [y6] at hi
  have:=jB4 hi'
  rw[ak hi] at this
  rw[bo this]
  lia
 ·rintro ⟨⟨k0,k1⟩,ne⟩
  have hi:k.toNat<(upto n).length:=by rw[y6]; lia
  refine⟨k.toNat,hi,by lia,?_⟩
  have:=jB4 (n:=n) (i:=k.toNat) (by lia)
  rw[ak hi] at this
  rw[bo this]
  lia
theorem jQT (n:Nat)(p:Int):(butK n p).Pairwise (· < ·):=by
 unfold butK
 rw[<- eO]
 exact(kO n).ris.sublist (List.eraseIdx_sublist _ _)
def butP (pcs:List (List Int×Int))(p:Int):List (List Int×Int):=pcs.take p.toNat++pcs.drop (p.toNat+1)
section
variable {w p:Int}{pcs:List (List Int×Int)}(g:Good 16 32 w ms pcs)(p0:0<=p)(p1:p<pcs.length)
include g p0 p1
theorem jQE:Good 16 32 w ms (butP pcs p):=by
 refine⟨g.w0,g.w1,g.mr,?_,fun pc hpc=>g.pg pc ?_⟩
 ·have:=g.pl
  unfold butP
  rw[aC,bE,fE]
  lia
 ·rcases aR.mp hpc with h | h
  ·exact b0 h
  ·exact cH h
theorem jQS:nmd (upto w.toNat) ms=ms/\pick (upto w.toNat) pcs (butK pcs.length p)=butP pcs p/\(((upto w.toNat).length:Nat):Int)=w:=by
 have w0:=g.w0
 refine⟨jJ7 g.mr.ris fun t ht=>by have:=g.mr.bnd t ht; lia,?_,by rw[y6]; lia⟩
 have pa:=jPE g
 unfold butK butP
 unfold pick at pa ⊢
 rw[aP,i5,List.map_drop,pa]
theorem jIU:Ris w (lftT w (j4 pcs p)):=⟨jJD _ _,fun z hz=>((jAG g.w0).mp hz).1⟩
theorem jGT:Good 16 32 ((lftT w (j4 pcs p)).length:Int) (nmd (lftT w (j4 pcs p)) ms) (pick (lftT w (j4 pcs p)) pcs (lftP pcs (lftT w (j4 pcs p)))):=by
 refine jNX g (jIU g p0 p1) jJE (by have:=jPY pcs (lftT w (j4 pcs p)); have:=g.pl; lia) fun k hk=>?_
 have kb:=jJE k hk
 have hm:=jA2 g kb.1 kb.2
 exact⟨_,hm.1,az (bB.mp (aQ.mp hk).2 _ hm.1)⟩
theorem jD9 {ts:List Int}{k:Int} :k∈lftP pcs ts↔(0<=k/\k<pcs.length)/\∀ t∈j4 pcs k,t∈ts:=by
 unfold lftP
 rw[aQ,mem_upto,bB]
 refine ie fun _=>g8 fun t=>g8 fun _=>bi
theorem jLM:(cvs w ms pcs).length=(cvs w ms (butP pcs p)).length+(cvs ((lftT w (j4 pcs p)).length:Int) (nmd (lftT w (j4 pcs p)) ms) (pick (lftT w (j4 pcs p)) pcs (lftP pcs (lftT w (j4 pcs p))))).length:=by
 have w0:=g.w0
 have nd:=jGY g
 obtain⟨a1,a2,a3⟩:=jQS g p0 p1
 have hL:(cvs w ms (butP pcs p)).length=((cvs w ms pcs).filter fun c=>!decide (p∈c)).length:=by
  have:=jLJ (ms:=ms) (pcs:=pcs) (ts:=upto w.toNat) (ks:=butK pcs.length p) (L:=(cvs w ms pcs).filter fun c=>!decide (p∈c)) (kO _).ris (jQT _ _) (fun k hk t ht=>by
   have kb:=((jDE p0 p1).mp hk).1
   have:=(yK g kb.1 kb.2).bnd t ht
   exact mem_upto.mpr (by lia)) (by rw[a1,a2,a3]; exact jQE g p0 p1) (nd.sublist cS) (fun S=>?_)
  ·rw[a1,a2,a3] at this
   exact this
  rw[aQ,jAV g,cC,b9]
  constructor
  ·rintro ⟨C,hp⟩
   refine⟨C.ris.ris,fun k hk=>(jDE p0 p1).mpr ⟨C.ris.bnd k hk,fun z=>hp (z ▸ hk)⟩,C.dis,fun t ht hn=>?_⟩
   have:=mem_upto.mp ht
   exact C.cov t this.1 (by lia) hn
  ·intro C
   refine⟨⟨⟨C.ris,fun k hk=>((jDE p0 p1).mp (C.sub k hk)).1⟩,C.dis,fun t t0 t1 hn=>C.cov t (mem_upto.mpr (by lia)) hn⟩,fun hp=>((jDE p0 p1).mp (C.sub p hp)).2 rfl⟩
 have hR:(cvs ((lftT w (j4 pcs p)).length:Int) (nmd (lftT w (j4 pcs p)) ms) (pick (lftT w (j4 pcs p)) pcs (lftP pcs (lftT w (j4 pcs p))))).length=((cvs w ms pcs).filter fun c=>decide (p∈c)).length:=by
  have:=jLJ (ms:=ms) (pcs:=pcs) (ts:=lftT w (j4 pcs p)) (ks:=lftP pcs (lftT w (j4 pcs p))) (L:=((cvs w ms pcs).filter fun c=>decide (p∈c)).map fun c=>c.filter fun k=>!decide (k=p)) (jJD _ _) (jPX _ _) (fun k hk=>((jD9 g p0 p1).mp hk).2) (jGT g p0 p1) ?_ (fun S=>?_)
  ·rw[this,ab]
  ·refine bA.mpr ((d9.mp (nd.sublist cS)).imp fun {a b} h e=>h.2.2 ?_)
   obtain⟨ha,ha'⟩:=aQ.mp h.1
   obtain⟨hb,hb'⟩:=aQ.mp h.2.1
   refine jLV ((jAV g).mp ha).ris.ris ((jAV g).mp hb).ris.ris fun x=>?_
   by_cases hx:x=p
   ·rw[hx]
    exact⟨fun _=>az hb',fun _=>az ha'⟩
   ·have q:x∈a.filter (fun k=>!decide (k=p))↔x∈b.filter (fun k=>!decide (k=p)):=by rw[e]
    rw[aQ,aQ,aM hx] at q
    exact⟨fun z=>(q.mp ⟨z,rfl⟩).1,fun z=>(q.mpr ⟨z,rfl⟩).1⟩
  ·rw[aL]
   constructor
   ·rintro ⟨c,hc,rfl⟩
    obtain⟨h1,h2⟩:=aQ.mp hc
    have C:=(jAV g).mp h1
    have h2:p∈c:=az h2
    have mf:∀ k,k∈c.filter (fun k=>!decide (k=p))↔k∈c/\k≠p:=fun k=>by
     rw[aQ,cC,b9]
    refine⟨C.ris.ris.sublist cS,fun k hk=>?_,fun k hk k' hk'=>C.dis k ((mf k).mp hk).1 k' ((mf k').mp hk').1,fun t ht hn=>?_⟩
    ·obtain⟨k1,k2⟩:=(mf k).mp hk
     have kb:=C.ris.bnd k k1
     exact(jD9 g p0 p1).mpr ⟨kb,fun t ht=>(jAG w0).mpr ⟨(yK g kb.1 kb.2).bnd t ht,C.dis k k1 p h2 k2 t ht⟩⟩
    ·obtain⟨b,hnp⟩:=(jAG w0).mp ht
     obtain⟨k,hk,hkt⟩:=C.cov t b.1 b.2 hn
     exact⟨k,(mf k).mpr ⟨hk,fun z=>hnp (z ▸ hkt)⟩,hkt⟩
   ·intro C
    have np:∀ k∈S,∀ t∈j4 pcs k,t∉j4 pcs p:=fun k hk t ht=>((jAG w0).mp (((jD9 g p0 p1).mp (C.sub k hk)).2 t ht)).2
    have hpS:p∉S:=fun z=>np p z _ (jA2 g p0 p1).1 (jA2 g p0 p1).1
    have me:∀ k,k∈srt (p::S)↔k=p\/k∈S:=fun k=>by rw[(jAF _).mem_iff,aF]
    have nS:S.Nodup:=C.ris.imp fun {a b} h=>by lia
    have rs:(srt (p::S)).Pairwise (· < ·):=(gz (jLK _) ((jAF (p::S)).nodup_iff.mpr (bF.mpr ⟨hpS,nS⟩))).imp fun {a b} h=>by lia
    refine⟨srt (p::S),aQ.mpr ⟨(jAV g).mpr ⟨⟨rs,fun k hk=>?_⟩,fun k hk k' hk' ne t ht=>?_,fun t t0 t1 hn=>?_⟩,ay ((me p).mpr (.inl rfl))⟩,?_⟩
    ·rcases (me k).mp hk with z | z
     ·rw[z]; exact⟨p0,p1⟩
     ·exact((jD9 g p0 p1).mp (C.sub k z)).1
    ·rcases (me k).mp hk with z | z <;> rcases (me k').mp hk' with u | u
     ·exact absurd (z.trans u.symm) ne
     ·rw[z] at ht
      exact fun q=>np k' u t q ht
     ·rw[u]
      exact np k z t ht
     ·exact C.dis k z k' u ne t ht
    ·by_cases hT:t∈j4 pcs p
     ·exact⟨p,(me p).mpr (.inl rfl),hT⟩
     ·obtain⟨k,hk,hkt⟩:=C.cov t ((jAG w0).mpr ⟨⟨t0,t1⟩,hT⟩) hn
      exact⟨k,(me k).mpr (.inr hk),hkt⟩
    ·refine jLV (rs.sublist cS) C.ris fun x=>?_
     rw[aQ,me,cC,b9]
     constructor
     ·rintro ⟨z | z,ne⟩
      ·exact absurd z ne
      ·exact z
     ·exact fun z=>⟨.inr z,fun q=>hpS (q ▸ z)⟩
 rw[hL,hR,<- dP,<- dP,List.length_eq_countP_add_countP (fun c=>decide (p∈c)),gx]
 congr 2
 funext c
 by_cases h:p∈c <;> simp [h]
end
abbrev jCF:List Str:=["box","taken","things","pieces","held","weight"]
theorem scLeftBy:FnScope jCF ["box","taken"] (j9 yT):= {}
def leftA (T:Txt mg): { t:TS // JSs (XOf jCF "_law_left_by" yT P w K mg base f cdv A outer s H0 E) (jD yT) t} :=
 have nd:=scLeftBy.nd
 ⟨_,(jB (jTI (i:=2) nd rfl loc_c (kN (m:=[none,some 1]) (Nc:=["thing","taken"]) rfl (jA6 gD T.range (j3 (jU jV (jv 0 rfl vL) (je_int) jE) j7 kG) kG) rfl (by decide+kernel) (by decide+kernel) (jW (psc:=j9 yT)) (jH (N:=jCF) rfl rfl (by decide+kernel)) (fun cl C fp s H=>jN (i:=0) (show (["thing","taken"]:List Str).Nodup by decide+kernel) rfl yW) (fun cl C fp s H=>jAZ (jI jEG (jv 0 rfl jO) (jv 1 rfl yI) jHW)) (fun cl C fp s H=>(jv 0 rfl jO)) kS) (by rfl))
   (jB (jP (i:=3) nd rfl lL (yY j7) jIM)
   (jB (yP bP rfl (jBJ (jU jV (jv 0 rfl vL) (je_int) jE)) (jBB (i:=4) (j:=5) nd rfl rfl (by decide+kernel) (by decide+kernel)) (jC (yH (jDS (jDR (jG (jON rfl) gD T.any (by decide+kernel) (j3 (kN (m:=[none,some 1]) (Nc:=["thing","taken"]) rfl (jBJ (jv 4 rfl vL)) rfl (by decide+kernel) (by decide+kernel) (jW (psc:=j9 yT)) (jH (N:=jCF) rfl rfl (by decide+kernel)) (fun cl C fp s H=>jN (i:=0) (show (["thing","taken"]:List Str).Nodup by decide+kernel) rfl yW) (fun cl C fp s H=>y4) (fun cl C fp s H=>(jBQ jMF (jv 0 rfl jO) (jv 1 rfl yI) jHW)) yD) j7 jJ) jJ) jBL)) (jC (jFJ (je_bm cD gb gc jBZ (jv 3 rfl vL) (j3 (yX (j3 (kX jA0 gD T.tuple (by decide+kernel) (j3 (kN (m:=[none,some 2]) (Nc:=["thing","things"]) rfl (jBJ (jv 4 rfl vL)) rfl (by decide+kernel) (by decide+kernel) (jW (psc:=j9 yT)) (jH (N:=jCF) rfl rfl (by decide+kernel)) (fun cl C fp s H=>jN (i:=0) (show (["thing","things"]:List Str).Nodup by decide+kernel) rfl yW) (fun cl C fp s H=>y4) (fun cl C fp s H=>(jNJ cD jg jh jGJ (jv 1 rfl yI) (j3 (jv 0 rfl jO) j7 j5) j5)) yD) j7 jJ) jJ) (j3 (jv 5 rfl vL) j7 j5) jF)) j7 jCS) jCS) kJ)) kL)) jGV)
   (jC (jQ (yX (j3 (jG jS gD T.len (by decide+kernel) (j3 (jv 2 rfl vC) j7 j5) j5) (j3 (kX jA0 gD T.tuple (by decide+kernel) (j3 (kN (m:=[none,some 1,some 2]) (Nc:=["may","taken","things"]) rfl (jBJ (jU jV (jv 0 rfl vL) (je_int) jE)) rfl (by decide+kernel) (by decide+kernel) (jW (psc:=j9 yT)) (jH (N:=jCF) rfl rfl (by decide+kernel)) (fun cl C fp s H=>jN (i:=0) (show (["may","taken","things"]:List Str).Nodup by decide+kernel) rfl yW) (fun cl C fp s H=>jAZ (jI jEG (jv 0 rfl jO) (jv 1 rfl yI) jHW)) (fun cl C fp s H=>(jNJ cD jg jh jGJ (jv 2 rfl yI) (j3 (jv 0 rfl jO) j7 j5) j5)) jGV) j7 jJ) jJ) (j3 (kX jA0 gD T.tuple (by decide+kernel) (j3 (jv 3 rfl vL) j7 j5) j5) j7 jF) jF) jF)))))))⟩
def jF1:Sp:=fun vs H Q _=>∃ (b a:Addr) (w p:Int) (ms:List Int) (pcs:List (List Int×Int)),vs=[.ref b, .ref a]/\BoxAt H b w ms pcs/\Good 16 32 w ms pcs/\0<=p/\p<pcs.length/\H a=some (.tup ((j4 pcs p).map V.int))/\
 ∀ (r:Addr) (H':Hp),BoxAt H' r ((lftT w (j4 pcs p)).length:Int) (nmd (lftT w (j4 pcs p)) ms) (pick (lftT w (j4 pcs p)) pcs (lftP pcs (lftT w (j4 pcs p))))->Ext H H'->Q (.ref r) H'
theorem jNS {K:W.Frag}{m:List (Option Nat)}{σ:St}{H:Hp}{Q:VK}{q t:Addr}{lot ts:List Int}(hq:H q=some (.tup (lot.map V.int)))(ht:H t=some (.lst (ts.map V.int)))(hl:lot.length<=1000)(tl:ts.length<=1000)(hs:∀ x∈lot,x∈ts)(h0:blkσ m σ=[none,some (.ref t)])
  (k:∀ D H',H' D=some (.lst ((lot.map fun t=>((ts.idxOf t:Nat):Int)).map V.int))->Ext H H'->H D=none->Q (.ref D) H'):qO m (kU 0) yQ (tBM K "list" jLX (tVar 1) (tCons (tVar 0) tNil)) σ Q (Itt K q) H:=by
 refine jC5 (xs:=lot.map V.int) (fun σ=>∃ v,σ=[v,some (.ref t)]) (mapZ lot fun x=>V.int ((ts.idxOf x:Nat):Int)) (mapZ.ok _ _) hq (by rw[ab,aJ]; lia) ⟨_,h0⟩ ?_ ?_
 ·rintro j x σ' H' zs hx ⟨v,rfl⟩ e hz S1 S2 yes no
  obtain⟨z,hz',rfl⟩:=int_at hx
  have hzt:=hs z (aH hz')
  dsimp only [kU,yQ]
  rw[ah rfl]
  exact⟨_,rfl, .inl ⟨rfl,_,SqL.of (e _ _ ht)⟩,_,rfl,t,ts,z,ts.idxOf z,rfl,rfl,e _ _ ht,tl,(jA7 hzt).1,(jA7 hzt).2,yes _ _ _ ⟨_,rfl⟩ (Ext.refl _) (hz.yes hz')⟩
 ·rintro D H' zs hD e nD hz
  have hz:=hz.all (by rw[ab]; exact ar _)
  have hz2:zs=(lot.map fun t=>((ts.idxOf t:Nat):Int)).map V.int:=by rw[hz,ba]; rfl
  rw[hz2] at hD
  exact k D H' hD e nD
theorem jT4 {fd:FuncData}(F:Fun K "_law_left_by" "_law_left_by" yT f fd)(T:Txt mg):FnOk P w K mg base CX0 1 f fd ["box","taken"] jF1:=by
 refine F.ok scLeftBy (fun vs H Q E h=>?_) (fun cdv A outer s H vs Q E hr h=>?_)
 ·obtain⟨_,_,_,_,_,_,rfl,_⟩:=h
  rfl
 ·obtain⟨b,a,w,p,ms,pcs,rfl,hB,g,p0,p1,ha,q⟩:=h
  refine⟨_,(leftA T).2.h,?_⟩
  obtain⟨qm,qp,ps,b1,b2,b3,b4⟩:=id hB.ex
  have pl:=b4.len
  have w0:=g.w0
  have w1:=g.w1
  have gpl:=g.pl
  have rk:=jIU g p0 p1
  have fit:=fun (k:Int) (k0:0<=k) (k1:k<pcs.length)=>jPZ g (j4 pcs p) k0 k1
  have mt:=fun (t:Int)=>jAG (held:=j4 pcs p) (t:=t) w0
  have et0:((List.range w.toNat).filter fun (t:Nat)=>!decide ((t:Int)∈j4 pcs p)).map natV=(lftT w (j4 pcs p)).map V.int:=by
   unfold lftT upto
   rw[List.filter_map,ba]
   rfl
  generalize j4 pcs p=hs at*
  refine⟨_,rfl,b,_,0,_,rfl,rfl,SqT.of b1,rfl,w,rfl,by lia,by lia,jFQ (n:=w.toNat) (fun σ=>∃ v,σ=[v,some (.ref a)]) (outZ (List.range w.toNat) (fun (t:Nat)=>!decide ((t:Int)∈hs)) natV) (outZ.ok _ _ _) (by rw[aJ]; lia) ⟨_,rfl⟩ ?_ ?_⟩
  ·rintro j σ' H' zs hj ⟨v,rfl⟩ e hz S1 S2 yes no
   have hg:(List.range w.toNat)[j]?=some j:=bQ hj
   refine⟨_,rfl,_,rfl,a,_,rfl, .inr (SqT.of (e _ _ ha)),rfl,jC3 _,_,rfl,?_⟩
   rw[jDC,jr]
   refine ite2 (fun h=>?_) (fun h=>?_)
   ·exact⟨_,rfl,yes _ _ _ ⟨_,rfl⟩ (Ext.refl _) (hz.yes hg h)⟩
   ·exact no _ _ ⟨_,rfl⟩ (Ext.refl _) (hz.no hg (dL.mpr h))
  rintro t H1 zs0 d1 e1 n1 hz
  have hz:=hz.all (by rw[bg]; exact ar _)
  rw[et0] at hz
  rw[hz] at d1
  generalize lftT w hs=ts at*
  have tln:=jFG rk.ris rk.bnd w1
  refine⟨by show (0:Nat)<=_; decide,fun l H2 d2 e20 n2=>?_⟩
  have e2:=e1.trans e20
  have tl:t≠l:=jA d1 n2
  have n2:H l=none:=jGI e1 n2
  have t2:=e20 _ _ d1
  refine⟨_,rfl,b,_,2,_,rfl,rfl,SqT.of (e2 _ _ b1),rfl,qp,rfl,⟨_,SqT.of (e2 _ _ b3)⟩,jO3 (xs:=ps) (fun i σ H'=>(∃ v4 v5,σ=[some (.ref b),some (.ref a),some (.ref t),some (.ref l),v4,v5])/\Ext H H'/\H' t=some (.lst (ts.map V.int))/\∃ zs,H' l=some (.lst zs)/\PcsAt H' zs (pick ts pcs (((upto pcs.length).take i).filter fun k=>(j4 pcs k).all fun x=>decide (x∈ts)))) ⟨⟨_,_,rfl⟩,e2,t2,[],d2,trivial⟩ (fun i σ H' _ ⟨_,e,_⟩=>SqT.of (e _ _ b3)) ?_ ?_⟩
  ·rintro i x σ H' hx ⟨⟨v4,v5,rfl⟩,e,ht,zs,h3,pz⟩
   have hj:i<pcs.length:=by
    rw[<- pl]
    exact(ax.mp hx).1
   obtain⟨x',hx',pa,pq,rfl,c1,c2⟩:=b4.get hj
   rw[hx] at hx'
   cases hx'
   have ll:=jK6 g (k:=i) (by lia) (by lia)
   have et:j4 pcs (i:Int)=(pcs.getD i ([],0)).1:=by unfold j4; rw[aK]
   have gr:(j4 pcs (i:Int)).Pairwise (· < ·):=by
    have:=(g.at (k:=i) hj).lot.ris
    rw[et]
    exact this
   have fi:=fit (i:Int) (by lia) (by lia)
   rw[<- et] at c2
   refine⟨pa,_,rfl,SqT.of (e _ _ c1),rfl,_,_,rfl,_,_,rfl,rfl,?_⟩
   dsimp only [kU]
   refine⟨_,rfl,pq,rfl,⟨_,SqT.of (e _ _ c2)⟩,jTL (tp:=true) (e _ _ c2) (e _ _ ha) (by lia) rfl fun D HA kA eA nA=>?_⟩
   refine⟨D,_,rfl,SqL.of kA,_,rfl,?_⟩
   rw[jWD]
   have fi2:(!(j4 pcs (i:Int)).any fun x=>decide (x∈hs))=(j4 pcs (i:Int)).all fun x=>decide (x∈ts):=by
    rw[fi,et]
    rfl
   show if (!(j4 pcs (i:Int)).any fun x=>decide (x∈hs))=true then _ else _
   rw[fi2,jO5 (jB4 hj)]
   refine ite2 (fun hz=>?_) (fun hz=>?_)
   ·rw[ah hz]
    have hA3:=eA _ _ h3
    have hAt:=eA _ _ ht
    have eiA:=e.trans eA
    refine⟨_,rfl, .inl ⟨rfl,_,SqL.of hA3⟩,_,rfl,pq,rfl,⟨_,SqT.of (eiA _ _ c2)⟩,jNS (eiA _ _ c2) hAt (by lia) (by lia) (fun x hx=>az (bB.mp hz x hx)) rfl fun D2 HB kB eB nB=>?_⟩
    have en:((j4 pcs (i:Int)).map fun t=>((ts.idxOf t:Nat):Int))=nmd ts (j4 pcs (i:Int)):=by
     rw[jFC rk.ris gr,jJ2 fun x hx=>az (bB.mp hz x hx)]
    rw[en] at kB
    refine⟨D2,_,rfl, .inl ⟨SqL.of kB,fun r hr'=>?_⟩⟩
    have eC:Ext HB (L2.upd HB r (.tup ((nmd ts (j4 pcs (i:Int))).map V.int))):=(Ext.refl _).new hr' _
    have dC:(L2.upd HB r (.tup ((nmd ts (j4 pcs (i:Int))).map V.int))) r=some (.tup ((nmd ts (j4 pcs (i:Int))).map V.int)):=j6
    generalize L2.upd HB r (.tup ((nmd ts (j4 pcs (i:Int))).map V.int))=HC at eC dC
    refine⟨_,rfl,by show (2:Nat)<=_; decide,fun r3 HD dD eD=>?_⟩
    have eAD:=((eA.trans eB).trans eC).trans eD
    have hDD:=eAD _ _ h3
    have hDt:=eAD _ _ ht
    refine⟨l,_,_,rfl,rfl,hDD,?_,⟨_,_,rfl⟩,(e.trans eAD).updNew n2 _,by rw[j8 tl]; exact hDt,_,j6,?_⟩
    ·rw[pz.len]
     unfold pick
     rw[ab]
     have:=bJ (fun k=>(j4 pcs k).all fun x=>decide (x∈ts)) ((upto pcs.length).take i)
     have:=bY i (upto pcs.length)
     rw[aJ]
     lia
    have ez:pick ts pcs ((((upto pcs.length).take i).filter fun k=>(j4 pcs k).all fun x=>decide (x∈ts))++[(i:Int)])=pick ts pcs (((upto pcs.length).take i).filter fun k=>(j4 pcs k).all fun x=>decide (x∈ts))++[(nmd ts (j4 pcs (i:Int)),(pcs.getD i ([],0)).2)]:=by
     unfold pick
     rw[aP]
     rfl
    rw[ez]
    exact PcsAt.mono (Tups.upd hDD _) (PcsAt.snoc (p:=(nmd ts (j4 pcs (i:Int)),(pcs.getD i ([],0)).2)) ⟨r3,r,rfl,dD,eD _ _ dC⟩ (pz.mono eAD.tups))
   ·rw[ae hz,bq]
    exact⟨⟨_,_,rfl⟩,e.trans eA,eA _ _ ht,zs,eA _ _ h3,pz.mono eA.tups⟩
  ·rintro σ H3 ⟨⟨v4,v5,rfl⟩,e3,ht,zs,h3,pz⟩
   have hap:((upto pcs.length).take ps.length).filter (fun k=>(j4 pcs k).all fun x=>decide (x∈ts))=lftP pcs ts:=by
    rw[pl,bK (by rw[y6]; exact ar _)]
    rfl
   rw[hap] at pz
   have lm:=jFG g.mr.ris g.mr.bnd w1
   refine⟨_,rfl,t,_,rfl, .inl (SqL.of ht),_,rfl,b,_,1,_,rfl,rfl,SqT.of (e3 _ _ b1),rfl,qm,rfl,⟨_,SqT.of (e3 _ _ b2)⟩,jC5 (xs:=ms.map V.int) (fun σ=>∃ v,σ=[v,some (.ref a),some (.ref t)]) (outZ ms (fun x=>!decide (x∈hs)) fun x=>V.int ((ts.idxOf x:Nat):Int)) (outZ.ok _ _ _) (e3 _ _ b2) (by rw[ab,aJ]; lia) ⟨_,rfl⟩ ?_ ?_⟩
   ·rintro j x σ' H' zs' hx ⟨v,rfl⟩ e hz S1 S2 yes no
    obtain⟨z,hz',rfl⟩:=int_at hx
    have e3':=e3.trans e
    refine⟨_,rfl,_,rfl,a,_,rfl, .inr (SqT.of (e3' _ _ ha)),rfl,jC3 _,_,rfl,?_⟩
    rw[jDC]
    refine ite2 (fun h=>?_) (fun h=>?_)
    ·have hzt:z∈ts:=(mt z).mpr ⟨g.mr.bnd z (aH hz'),dY (by simpa using h)⟩
     exact⟨_,rfl, .inl ⟨rfl,_,SqL.of (e _ _ ht)⟩,_,rfl,t,ts,z,ts.idxOf z,rfl,rfl,e _ _ ht,by lia,(jA7 hzt).1,(jA7 hzt).2,yes _ _ _ ⟨_,rfl⟩ (Ext.refl _) (hz.yes hz' h)⟩
    ·exact no _ _ ⟨_,rfl⟩ (Ext.refl _) (hz.no hz' (dL.mpr h))
   ·rintro D2 HA zs2 kA eA nA hz
    have hz:=hz.all (by rw[ab]; exact ar _)
    have hz2:zs2=(nmd ts ms).map V.int:=by
     rw[hz,jFC rk.ris g.mr.ris]
     unfold plcs
     rw[ba]
     have:ms.filter (fun x=>!decide (x∈hs))=ms.filter fun t=>decide (t∈ts):=gL fun x hx=>by
      have:=mt x
      have:=g.mr.bnd x hx
      by_cases h:x∈hs
      ·rw[ay h,aM (fun z=>((mt x).mp z).2 h)]
       rfl
      ·rw[aM h,ay ((mt x).mpr ⟨this,h⟩)]
       rfl
     rw[this]
     rfl
    rw[hz2] at kA
    refine⟨D2,_,rfl, .inl ⟨SqL.of kA,fun r hr'=>?_⟩⟩
    have eB:Ext HA (L2.upd HA r (.tup ((nmd ts ms).map V.int))):=(Ext.refl _).new hr' _
    have dB:(L2.upd HA r (.tup ((nmd ts ms).map V.int))) r=some (.tup ((nmd ts ms).map V.int)):=j6
    generalize L2.upd HA r (.tup ((nmd ts ms).map V.int))=HB at eB dB
    have hB9:=eB _ _ (eA _ _ h3)
    refine⟨_,rfl,l,_,rfl, .inl ⟨SqL.of hB9,fun r4 hr4=>?_⟩⟩
    have eC:Ext HB (L2.upd HB r4 (.tup zs)):=(Ext.refl _).new hr4 _
    have dC:(L2.upd HB r4 (.tup zs)) r4=some (.tup zs):=j6
    generalize L2.upd HB r4 (.tup zs)=HC at eC dC
    refine⟨by show (3:Nat)<=_; decide,fun r5 HD dD eD=>?_⟩
    have eAD:=((eA.trans eB).trans eC).trans eD
    exact q r5 HD ⟨r,r4,zs,by rw[dD,ab],eD _ _ (eC _ _ dB),eD _ _ dC,pz.mono eAD.tups⟩ (e3.trans eAD)
end Eo
section
namespace L2
open PySem PySem.Spec PyProof.Rows
theorem jSU {X:Cx}(hu:X.A.units<cLine):OpR X (compareOp .NotEq) (fun x y H Q=>∃ p q xs,x= .ref p/\y= .ref q/\H p=some (.tup xs)/\H q=some (.tup [])/\Q (.bl (!decide (xs=[]))) H):=by
 intro ad s σ H x y v u Q I rx ry h
 obtain⟨p,q,xs,rfl,rfl,hp,hq,k⟩:=h
 cases rx
 cases ry
 obtain⟨its,r1,p1,_⟩:=I.tuple (SqT.of hp)
 obtain⟨its2,r2,p2,_⟩:=I.tuple (SqT.of hq)
 have l1:=r1.length
 have l2:its2.length=0:=r2.length.symm
 refine SeqAt.RcNeAt.tuples (e:=fun _=>true) p1 p2 hu (fun j a1 a2=>absurd a2 (by rw[aN]; lia)) _ _ _ _ ⟨.bl _,H,I,rfl,?_⟩
 have e:(!((List.range (min its.toArray.size its2.toArray.size)).all (fun _=>true)&&its.toArray.size==its2.toArray.size))=!decide (xs=[]):=by
  have z2:its2.toArray.size=0:=by rw[aN]; exact l2
  rw[z2,Nat.min_zero]
  cases xs with
  | nil=>
   have:its.toArray.size=0:=by rw[aN]; exact l1.symm
   rw[this]
   rfl
  | cons a b=>
   have h0:its.length≠0:=by rw[<- l1]; simp
   have:(its.toArray.size==0)=false:=by
    rw[aN]
    exact cc.mpr h0
   rw[this]
   rfl
 rw[e]
 exact k
end L2
namespace Eo
open PySem L2
theorem jR5:∀ {ws:List (List Int)}{x:List Int},x∈ws->x.length+1<=szN ws
 | y::ws,x,h=>by
  show _<=max (y.length+1) (szN ws)
  rcases aF.mp h with z | z
  ·rw[z]; lia
  ·have:=jR5 z
   lia
theorem jOG (ws:List (List Int)):∀ N,((List.range N).map (cntS ws)).sum=ws.countP fun x=>decide (x.length<N)
 | 0=>by
  rw[List.range_zero,fD,sum_nil]
  exact(dQ.mpr fun x _ h=>eF _ (az h)).symm
 | N+1=>by
  rw[dO,aP,dr,jOG ws N]
  show _+(cntS ws N+0)=_
  unfold cntS
  induction ws with
  | nil=>rfl
  | cons x ws ih=>
   rw[bN,bN,bN,<- ih]
   by_cases h:x.length<N
   ·rw[ah (ay h),ae (fun z=>by have:=dM.mp z; lia),ah (ay (by lia))]; lia
   ·by_cases h2:x.length=N
    ·rw[ae (fun z=>h (az z)),ah (dM.mpr h2),ah (ay (by lia))]; lia
    ·rw[ae (fun z=>h (az z)),ae (fun z=>h2 (dM.mp z)),ae (fun z=>by have:=az z; lia)]; lia
theorem jUH (ws:List (List Int)):(szL ws).sum=ws.length:=by
 unfold szL
 rw[jOG]
 exact gR.mpr fun x hx=>ay (jR5 hx)
theorem jMO:∀ l:List Nat,(l.map fun n:Nat=>(n:Int)).sum=((l.sum:Nat):Int)
 | []=>rfl
 | a::l=>by rw[aY,b6,jMO l,b6,ig]
theorem jMZ:∀ {l:List (Int×Nat)}{v:Int},(∀ w∈l,v<w.1)->lk l v=0
 | [],_,_=>rfl
 | w::l,v,h=>by
  show (if w.1=v then w.2 else 0)+lk l v=0
  have:=h w (am ..)
  rw[ae (by lia),jMZ fun x hx=>h x (aj _ hx)]
theorem jL6 (pcs:List (List Int×Int)):∀ (l:List (Int×Nat)) (ws:List (List Int)),(l.Pairwise fun x y=>x.1<y.1)->(∀ v,lk l v=cW pcs ws v)->tot l=ws.length
 | [],ws,_,h=>by
  cases ws with
  | nil=>rfl
  | cons x ws=>
   have:=h (wt pcs x)
   unfold cW at this
   rw[bN,ah (dM.mpr rfl)] at this
   have z:lk [] (wt pcs x)=0:=rfl
   lia
 | a::r,ws,up,h=>by
  obtain⟨a1,up2⟩:=cG.mp up
  have ea:∀ v,lk (a::r) v=(if a.1=v then a.2 else 0)+lk r v:=fun _=>rfl
  have ih:=jL6 pcs r (ws.filter fun x=>!(wt pcs x==a.1)) up2 fun v=>by
   have hv:=h v
   rw[ea] at hv
   unfold cW at hv ⊢
   rw[List.countP_filter]
   by_cases z:a.1=v
   ·subst z
    rw[jMZ a1]
    symm
    refine dQ.mpr fun x _ q=>?_
    obtain⟨q1,q2⟩:=eN.mp q
    rw[q1] at q2
    cases q2
   ·rw[ae z,fg] at hv
    rw[hv]
    refine iX fun x _=>?_
    constructor
    ·intro q
     have e:=dM.mp q
     rw[q,g7,cC,cc]
     exact fun y=>z (y.symm.trans e)
    ·intro q
     exact(eN.mp q).1
  have h1:=h a.1
  rw[ea,ah rfl,jMZ a1,cx] at h1
  show a.2+tot r=ws.length
  rw[ih,h1]
  unfold cW
  rw[dP]
  clear ih h h1
  induction ws with
  | nil=>rfl
  | cons x ws ih=>
   by_cases z:(wt pcs x==a.1)=true
   ·rw[db (p:=fun x=>wt pcs x==a.1) z,cE (p:=fun x=>!(wt pcs x==a.1)) (by rw[z]; decide),aU,aU]; lia
   ·rw[cE (p:=fun x=>wt pcs x==a.1) z,db (p:=fun x=>!(wt pcs x==a.1)) (by rw[dL.mpr z]; rfl),aU,aU]; lia
theorem jKZ {w:Int}{ms:List Int}{pcs:List (List Int×Int)}(g:Good 16 32 w ms pcs)(h:pcs.length<=19):∀ m,m<2 ^ (chs w.toNat ms pcs).length->(wk (chs w.toNat ms pcs) m).length<=1000000:=fun m hm=>by
 have h:=jU9 g m hm
 have c:=jW9 pcs ((lowN m:Nat):Int)
 have:2 ^ cntF pcs ((lowN m:Nat):Int)<=2 ^ 19:=bS (by decide) (by lia)
 have e:2 ^ 19<=1000000:=by decide
 lia
section
variable {w:Int}{pcs:List (List Int×Int)}{j:Nat}(g:Good 16 32 w ms pcs)(hl:pcs.length<=31)(hj:j<pcs.length)
include g hl hj
theorem jJP:Good 16 32 w ms (pcs++[pcs.getD j ([],0)]):=⟨g.w0,g.w1,g.mr,by rw[aC]; show ((pcs.length+1:Nat):Int)<=32; lia,fun pc hpc=>by
 rcases aR.mp hpc with z | z
 ·exact g.pg pc z
 ·rw[aE.mp z]
  rw[ai,ak hj]
  exact g.pg _ (cM hj)⟩
theorem jRW:(wk (chs w.toNat ms (pcs++[pcs.getD j ([],0)])) 0).length=(wk (chs w.toNat ms pcs) 0).length+(wk (chs ((lftT w (j4 pcs (j:Int))).length:Int).toNat (nmd (lftT w (j4 pcs (j:Int))) ms) (pick (lftT w (j4 pcs (j:Int))) pcs (lftP pcs (lftT w (j4 pcs (j:Int)))))) 0).length:=by
 have g2:=jJP g hl hj
 have ll:(pcs++[pcs.getD j ([],0)]).length=pcs.length+1:=aC ..
 have sp:=jLM g2 (p:=(pcs.length:Int)) (by lia) (by rw[ll]; lia)
 have gl:(pcs++[pcs.getD j ([],0)]).getD pcs.length ([],0)=pcs.getD j ([],0):=by
  rw[ai,bv (ar _),iu]
  rfl
 have gk:∀ k:Int,0<=k->k<pcs.length->(pcs++[pcs.getD j ([],0)]).getD k.toNat ([],0)=pcs.getD k.toNat ([],0):=fun k k0 k1=>by
  rw[ai,cf (by lia),ai]
 have e1:j4 (pcs++[pcs.getD j ([],0)]) (pcs.length:Int)=j4 pcs (j:Int):=by
  unfold j4
  rw[aK,gl,aK]
 have e2:butP (pcs++[pcs.getD j ([],0)]) (pcs.length:Int)=pcs:=by
  unfold butP
  rw[aK,List.take_left,gB (by rw[ll]; exact ar _),bq]
 rw[e1,e2] at sp
 have hh:=jA2 g (k:=(j:Int)) (by lia) (by lia)
 have w0:=g.w0
 generalize hts:lftT w (j4 pcs (j:Int))=ts at sp ⊢
 have no:¬ ((j4 pcs (j:Int)).all fun t=>decide (t∈ts))=true:=fun z=>by
  have:=az (bB.mp z _ hh.1)
  rw[<- hts] at this
  exact((jAG w0).mp this).2 hh.1
 have e3:lftP (pcs++[pcs.getD j ([],0)]) ts=lftP pcs ts:=by
  unfold lftP
  rw[ll]
  have us:upto (pcs.length+1)=upto pcs.length++[(pcs.length:Int)]:=by unfold upto; rw[dO,aP]; rfl
  rw[us,bV,cE (by rw[e1]; exact no),ic,bq]
  refine gL fun k hk=>?_
  have kb:=mem_upto.mp hk
  unfold j4
  rw[gk k kb.1 kb.2]
 have e4:pick ts (pcs++[pcs.getD j ([],0)]) (lftP pcs ts)=pick ts pcs (lftP pcs ts):=by
  unfold pick
  refine aX fun k hk=>?_
  have kb:=mem_upto.mp (aQ.mp hk).1
  unfold j4
  rw[gk k kb.1 kb.2]
 rw[e3,e4,jIA,jIA,jIA] at sp
 exact sp
end
abbrev LL (tb1 tb2:Addr):List TT:=[tWt tb1,tWB tb2]
section
variable {fX fZ fK fQ:Addr}{fdX fdZ fdK fdQ:FuncData}
noncomputable abbrev nLaw:List Str:=["script","k","pot","great","box","amount","piece","twice"]
theorem scLaw:FnScope nLaw ["script"] (j9 sLaw):= {}
abbrev XLaw (P:Program)(w:World)(K:W.Frag)(mg:Str->Option Value)(base:Heap)(f:Addr)(cdv:Value)(A:Around)(outer:List Env)(s:Shared)(H:Hp)(E:XK):Cx:=XOf nLaw "law" sLaw P w K mg base f cdv A outer s H E
structure LW (P:Program)(w:World)(K:W.Frag)(mg:Str->Option Value)(base:Heap)(fC fP fT fX fM fZ fK fQ fW fB fL tb1 tb2:Addr)(fdC fdP fdT fdX fdM fdZ fdK fdQ fdW fdB fdL:FuncData):Prop where
 T:Txt mg
 CC:Can P w K mg base "_law_cell_at" 1 fC fdC ["script","k"] (jLP K)
 CP:Can P w K mg base "_law_pot" 1 fP fdP ["cell"] spPot
 CT:Can P w K mg base "_law_take" 1 fT fdT ["pot","wide"] yM
 CX:Can P w K mg base "_law_box" 3 fX fdX ["pot","most_things","most_pieces"] spBox
 CM:Can P w K mg base "many" 6 fM fdM ["box"] (jG7 tb1)
 CZ:Can P w K mg base "sizes" 5 fZ fdZ ["box"] jHO
 CK:Can P w K mg base "counted" 5 fK fdK ["box","paper"] jDJ
 CQ:Can P w K mg base "count_paper" 6 fQ fdQ ["box"] (jLQ tb1)
 CW:Can P w K mg base "weights" 7 fW fdW ["box"] (spWts (LL tb1 tb2) tb1 tb2)
 CB:Can P w K mg base "many_by_lots" 2 fB fdB ["box"] jF3
 CL:Can P w K mg base "_law_left_by" 1 fL fdL ["box","taken"] jF1
section
variable (G:LW P w K mg base fC fP fT fX fM fZ fK fQ fW fB fL tb1 tb2 fdC fdP fdT fdX fdM fdZ fdK fdQ fdW fdB fdL)(hr:Room 7 (XLaw P w K mg base f cdv A outer s H0 E).A)
theorem LL.i1:tWt tb1∈LL tb1 tb2:=am ..
theorem LL.i2:tWB tb2∈LL tb1 tb2:=aj _ (am ..)
theorem LL.t1 {H:Hp}(t:TbS (LL tb1 tb2) H):TabW H tb1:=t.ok (tWt tb1) LL.i1
theorem LL.to1 {H H':Hp}(t:TbS (LL tb1 tb2) H)(e:ExtT tb1 H H')(k:TabW H' tb1):TbS (LL tb1 tb2) H'/\ExS (ads (LL tb1 tb2)) H H':=⟨t.setT (x:=tWt tb1) LL.i1 e k,ExS.ofT e (am ..)⟩
def twiA: { t:TS // JSs (XLaw P w K mg base f cdv A outer s H0 E) (match (yO ((jD sLaw).getD 0 (.Pass ⟨0,0,0,0⟩))).getD 7 (.Pass ⟨0,0,0,0⟩) with | .If _ b _ _=>b | _=> []) t} :=
 have nd:=scLaw.nd
 ⟨_,(jB (jP (i:=6) nd rfl lL (jU jV (jU jV (jv 4 rfl vL) (je_int) jE) (G.CT.je (hr.mono (by decide)) gD (j3 (jv 2 rfl vL) (j3 (jG jS gD G.T.len (by decide+kernel) (j3 (jU jV (jv 4 rfl vL) (je_int) jE) j7 kG) kG) j7 jF) j5) j5) jLY) jLF)
   (jB (jP (i:=7) nd rfl lL (G.CM.je (hr.mono (by decide)) gD (j3 (yX (j3 (jU jV (jv 4 rfl vL) (je_int) jE) (j3 (jU jV (jv 4 rfl vL) (je_int) jE) (j3 (jY jSV (jU jV (jv 4 rfl vL) (je_int) jE) (yX (j3 (jv 6 rfl vL) j7 j5))) j7 yN) kG) kG)) j7 jCS) jCS) kJ)
   (jC (yH (jI op_ne (jv 7 rfl vL) (jY y0 (jv 5 rfl vL) (G.CM.je (hr.mono (by decide)) gD (j3 (G.CL.je (hr.mono (by decide)) gD (j3 (jv 4 rfl vL) (j3 (jU jV (jv 6 rfl vL) (je_int) jE) j7 kG) j5) j5) j7 jF) jF)) (jK _)) (jC (jQ (je_bl))) kL))))⟩
def lr7A: { t:TS // JSs (XLaw P w K mg base f cdv A outer s H0 E) ((yO ((jD sLaw).getD 0 (.Pass ⟨0,0,0,0⟩))).drop 7) t} :=
 have nd:=scLaw.nd
 ⟨_,(jC (yH (jI (jSU hr.units0) (jU jV (jv 4 rfl vL) (je_int) jE) (yX j7) (jK _)) (twiA G hr).2 kL))⟩
def lr6A: { t:TS // JSs (XLaw P w K mg base f cdv A outer s H0 E) ((yO ((jD sLaw).getD 0 (.Pass ⟨0,0,0,0⟩))).drop 6) t} :=
 have nd:=scLaw.nd
 ⟨_,(jB (yH (jt_w (jRF (jI op_le (jU jV (jv 4 rfl vL) (je_int) jE) (je_int) (jK _)) (jN8 (jI op_ne (G.CB.je (hr.mono (by decide)) gD (j3 (jv 4 rfl vL) j7 j5) j5) (jv 5 rfl vL) (jK _))))) (jC (jQ (je_bl))) kL) (lr7A G hr).2)⟩
def jRB: { t:TS // JSs (XLaw P w K mg base f cdv A outer s H0 E) (yO ((jD sLaw).getD 0 (.Pass ⟨0,0,0,0⟩))) t} :=
 have nd:=scLaw.nd
 ⟨_,(jB (jP (i:=2) nd rfl lL (G.CP.je (hr.mono (by decide)) gD (j3 (G.CC.je (hr.mono (by decide)) gD (j3 (jv 0 rfl vL) (j3 (jv 1 rfl vL) j7 j5) j5) j5) j7 jF) jF) kJ) (jB (jP (i:=3) nd rfl lL (kX jH4 gD G.T.int (by decide+kernel) (j3 (jBQ qG (G.CT.je (hr.mono (by decide)) gD (j3 (jv 2 rfl vL) (j3 (je_int) j7 jL) j5) j5) (je_int) (jK _)) j7 jIT) jIT) kJ) (jB (jP (i:=4) nd rfl lL (G.CX.je (hr.mono (by decide)) gD (j3 (jv 2 rfl vL) (j3 (jU yZ (yY (j3 (je_int) (j3 (je_int) j7 jL) jL)) (jv 3 rfl vL) jCE) (j3 (jU yZ (yY (j3 (je_int) (j3 (je_int) j7 jL) jL)) (jv 3 rfl vL) jCE) j7 kG) kG) j5) j5) kJ) (jB (jP (i:=5) nd rfl lL (G.CM.je (hr.mono (by decide)) gD (j3 (jv 4 rfl vL) j7 j5) j5) kJ) (jB (yH (jt_w (jw_or (jI op_ne (jG (jC6 rfl) gD G.T.sum (by decide+kernel) (j3 (G.CZ.je (hr.mono (by decide)) gD (j3 (jv 4 rfl vL) j7 j5) j5) j7 jF) jF) (jv 5 rfl vL) (jK _)) (jJG (jI op_ne (G.CK.je (hr.mono (by decide)) gD (j3 (jv 4 rfl vL) (j3 (G.CQ.je (hr.mono (by decide)) gD (j3 (jv 4 rfl vL) j7 j5) j5) j7 jF) j5) j5) (jv 5 rfl vL) (jK _))))) (jC (jQ (je_bl))) kL) (jB (yH (jt_w (jRF (jI op_le (jv 5 rfl vL) (je_int) (jK _)) (jN8 (jI op_ne (jG (jC6 rfl) gD G.T.sum (by decide+kernel) (j3 (kN (m:=[none,none]) (Nc:=["weight","number"]) rfl (yC (G.CW.je hr gD (j3 (jv 4 rfl vL) j7 j5) j5)) rfl (by decide+kernel) (by decide+kernel) (jW (psc:=j9 sLaw)) (jH (N:=nLaw) rfl rfl (by decide+kernel)) (fun cl C fp s H=>jAO (i:=0) (j:=1) rfl (show (["weight","number"]:List Str).Nodup by decide+kernel) rfl rfl (by decide+kernel) (by decide+kernel)) (fun cl C fp s H=>y4) (fun cl C fp s H=>(jv 1 rfl jO)) kS) j7 jJ) jJ) (jv 5 rfl vL) (jK _))))) (jC (jQ (je_bl))) kL) (lr6A G hr).2))))))⟩
def lawA: { t:TS // JSs (XLaw P w K mg base f cdv A outer s H0 E) (jD sLaw) t} :=
 have nd:=scLaw.nd
 ⟨_,(jB (yP bP rfl (jA6 gD G.T.range (j3 (jG (jOM rfl) gD G.T.max (by decide+kernel) (j3 (je_int) (j3 (jG (jOK rfl) gD G.T.min (by decide+kernel) (j3 (jG jS gD G.T.len (by decide+kernel) (j3 (jv 0 rfl vL) j7 j5) j5) (j3 (je_int) j7 jL) jF) jF) j7 jF) jL) jL) j7 jF) jF) (jN (i:=1) nd rfl lL) (jRB G hr).2 kS) (jC (jQ (je_bl))))⟩
theorem jP7 {D:Ends}{H:Hp}{p b:Addr}{N:Int}{wi:Int}{ms:List Int}{pcs:List (List Int×Int)}{v0 v1 v3 v6 v7:Option V}(hp:H p=some (.lst [.int N]))(hN:0<=N)(hB:BoxAt H b wi ms pcs)(g:Good 16 32 wi ms pcs)(p0:0<pcs.length)(p31:pcs.length<=31)(tab:TbS (LL tb1 tb2) H)
  (nx:∀ H' v6 v7,TbS (LL tb1 tb2) H'->(∀ c o,H c=some o->c∉ads (LL tb1 tb2)->c≠p->H' c=some o)->D.nx [v0,v1,some (.ref p),v3,some (.ref b),some (natV (wk (chs wi.toNat ms pcs) 0).length),v6,v7] H'):
  (twiA G hr).1 D [v0,v1,some (.ref p),v3,some (.ref b),some (natV (wk (chs wi.toNat ms pcs) 0).length),v6,v7] H:=by
 obtain⟨qm,qp,ps,b1,b2,b3,b4⟩:=id hB.ex
 have pl:=b4.len
 refine⟨_,rfl,b,_,2,_,rfl,rfl,SqT.of b1,rfl,_,rfl,_,rfl,b,_,2,_,rfl,rfl,SqT.of b1,rfl,qp,_,rfl, .inr (SqT.of b3),p,N,_,rfl,hp,hN,by lia,by lia,fun N1 r a1 a2 a3=>?_⟩
 have d1:(L2.upd H p (.lst [.int N1])) p=some (.lst [.int N1]):=j6
 have k1:∀ c o,H c=some o->c≠p->(L2.upd H p (.lst [.int N1])) c=some o:=fun c o h n=>by rw[j8 n]; exact h
 have T1:TbS (LL tb1 tb2) (L2.upd H p (.lst [.int N1])):=tab.lst hp
 have u1:Tups H (L2.upd H p (.lst [.int N1])):=Tups.upd hp _
 generalize L2.upd H p (.lst [.int N1])=H1 at d1 k1 T1 u1
 obtain⟨j,rfl⟩:∃ j:Nat,r=(j:Int):=⟨r.toNat,by lia⟩
 have hj:j<pcs.length:=by lia
 obtain⟨x',hx',pa,pq,rfl,c1,c2⟩:=b4.get hj
 refine⟨qp,_,(j:Int),_,rfl,rfl,SqT.of (u1 _ _ b3),qB hx',?_⟩
 refine⟨_,rfl,b,_,0,_,rfl,rfl,SqT.of (u1 _ _ b1),rfl,?_⟩
 refine⟨_,rfl,b,_,1,_,rfl,rfl,SqT.of (u1 _ _ b1),rfl,?_⟩
 refine⟨_,rfl,b,_,2,_,rfl,rfl,SqT.of (u1 _ _ b1),rfl,?_⟩
 refine⟨_,rfl,by show (1:Nat)<=_; decide,fun t2 H2 d2 e2=>?_⟩
 have U2:=u1.trans e2.tups
 refine⟨qp,t2,ps,_,rfl,rfl,U2 _ _ b3,d2,by rw[aJ]; show _+1<=_; lia,fun t3 H3 d3 e3=>?_⟩
 refine⟨by show (3:Nat)<=_; decide,fun t4 H4 d4 e4=>?_⟩
 have E4:=(e2.trans e3).trans e4
 have U4:=u1.trans E4.tups
 have gt:=jJP g (by lia) hj
 have B4:BoxAt H4 t4 wi ms (pcs++[pcs.getD j ([],0)]):=⟨qm,t3,_,d4,U4 _ _ b2,e4 _ _ d3,PcsAt.snoc ⟨pa,pq,rfl,U4 _ _ c1,U4 _ _ c2⟩ (b4.mono U4)⟩
 have T4:=T1.ext E4
 refine⟨t4,wi,ms,_,rfl,B4,gt,LL.t1 T4,fun H5 e5 t5=>?_⟩
 obtain⟨T5,X5⟩:=LL.to1 T4 e5 t5
 have U5:=U4.trans (T4.tups X5)
 refine⟨_,rfl,_,rfl,_,rfl,_,rfl,pa,_,0,_,rfl,rfl,SqT.of (U5 _ _ c1),rfl,?_⟩
 have et:j4 pcs (j:Int)=(pcs.getD j ([],0)).1:=by unfold j4; rw[aK]
 refine⟨b,pq,wi,(j:Int),ms,pcs,rfl,hB.mono U5,g,by lia,by lia,by rw[et]; exact U5 _ _ c2,fun r6 H6 B6 e6=>?_⟩
 have T6:=T5.ext e6
 refine⟨r6,_,_,_,rfl,B6,jGT g (by lia) (by lia),LL.t1 T6,fun H7 e7 t7=>?_⟩
 obtain⟨T7,X7⟩:=LL.to1 T6 e7 t7
 refine⟨_,_,rfl,rfl,rfl,_,rfl,?_⟩
 have tw:=jRW g (by lia) hj
 have ed:(!decide (natV (wk (chs wi.toNat ms (pcs++[pcs.getD j ([],0)])) 0).length=V.int (((wk (chs wi.toNat ms pcs) 0).length:Int)+((wk (chs ((lftT wi (j4 pcs (j:Int))).length:Int).toNat (nmd (lftT wi (j4 pcs (j:Int))) ms) (pick (lftT wi (j4 pcs (j:Int))) pcs (lftP pcs (lftT wi (j4 pcs (j:Int)))))) 0).length:Int))))=false:=by
  rw[ay]
  ·rfl
  ·show V.int _=V.int _
   congr 1
   lia
 show if (!decide (natV (wk (chs wi.toNat ms (pcs++[pcs.getD j ([],0)])) 0).length=V.int (((wk (chs wi.toNat ms pcs) 0).length:Int)+((wk (chs ((lftT wi (j4 pcs (j:Int))).length:Int).toNat (nmd (lftT wi (j4 pcs (j:Int))) ms) (pick (lftT wi (j4 pcs (j:Int))) pcs (lftP pcs (lftT wi (j4 pcs (j:Int)))))) 0).length:Int))))=true then _ else _
 rw[ed]
 exact iteF (nx H7 _ _ T7 fun c o h n1 n2=>X7 _ _ (e6 _ _ (X5 _ _ (E4 _ _ (k1 _ _ h n2)) n1)) n1)
theorem jJC {D:Ends}{H:Hp}{p b:Addr}{N:Int}{wi:Int}{ms:List Int}{pcs:List (List Int×Int)}{v0 v1 v3 v6 v7:Option V}(hp:H p=some (.lst [.int N]))(hN:0<=N)(hB:BoxAt H b wi ms pcs)(g:Good 16 32 wi ms pcs)(p31:pcs.length<=31)(tab:TbS (LL tb1 tb2) H)
  (nx:∀ H' v6 v7,TbS (LL tb1 tb2) H'->(∀ c o,H c=some o->c∉ads (LL tb1 tb2)->c≠p->H' c=some o)->D.nx [v0,v1,some (.ref p),v3,some (.ref b),some (natV (wk (chs wi.toNat ms pcs) 0).length),v6,v7] H'):
  (lr7A G hr).1 D [v0,v1,some (.ref p),v3,some (.ref b),some (natV (wk (chs wi.toNat ms pcs) 0).length),v6,v7] H:=by
 obtain⟨qm,qp,ps,b1,b2,b3,b4⟩:=id hB.ex
 have pl:=b4.len
 refine⟨_,rfl,b,_,2,_,rfl,rfl,SqT.of b1,rfl,by show (0:Nat)<=_; decide,fun t1 H1 d1 e1=>?_⟩
 refine⟨qp,t1,ps,rfl,rfl,e1 _ _ b3,d1,_,rfl,?_⟩
 have T1:=tab.ext e1
 by_cases z:ps=[]
 ·rw[ay z]
  exact iteF (nx H1 _ _ T1 fun c o h _ _=>e1 _ _ h)
 ·rw[aM z]
  have:ps.length≠0:=fun y=>z (eT.mp y)
  exact iteT (jP7 G hr (e1 _ _ hp) hN (hB.mono e1.tups) g (by lia) p31 T1 fun H2 v6 v7 T2 k2=>nx H2 _ _ T2 fun c o h n1 n2=>k2 _ _ (e1 _ _ h) n1 n2)
theorem jPU {D:Ends}{H:Hp}{p b:Addr}{N:Int}{wi:Int}{ms:List Int}{pcs:List (List Int×Int)}{v0 v1 v3 v6 v7:Option V}(hp:H p=some (.lst [.int N]))(hN:0<=N)(hB:BoxAt H b wi ms pcs)(g:Good 16 32 wi ms pcs)(p31:pcs.length<=31)(tab:TbS (LL tb1 tb2) H)
  (nx:∀ H' v6 v7,TbS (LL tb1 tb2) H'->(∀ c o,H c=some o->c∉ads (LL tb1 tb2)->c≠p->H' c=some o)->D.nx [v0,v1,some (.ref p),v3,some (.ref b),some (natV (wk (chs wi.toNat ms pcs) 0).length),v6,v7] H'):
  (lr6A G hr).1 D [v0,v1,some (.ref p),v3,some (.ref b),some (natV (wk (chs wi.toNat ms pcs) 0).length),v6,v7] H:=by
 obtain⟨qm,qp,ps,b1,b2,b3,b4⟩:=id hB.ex
 refine⟨_,rfl,b,_,0,_,rfl,rfl,SqT.of b1,rfl,_,_,rfl,rfl,_,rfl,ite2 (fun h=>?_) (fun h=>?_)⟩
 ·have h:wi<=10:=az h
  refine⟨_,rfl,b,wi,ms,pcs,rfl,hB,g,h,fun H1 e1=>?_⟩
  refine⟨_,rfl,rfl,_,rfl,iteN (by show (!decide (V.int _=V.int _))=false; rw[ay rfl]; rfl) ?_⟩
  exact jJC G hr (e1 _ _ hp) hN (hB.mono e1.tups) g p31 (tab.ext e1) fun H2 v6 v7 T2 k2=>nx H2 _ _ T2 fun c o h n1 n2=>k2 _ _ (e1 _ _ h) n1 n2
 ·exact jJC G hr hp hN hB g p31 tab nx
theorem jL3 {D:Ends}{H:Hp}{a:Addr}{ns:List Int}{k:Int}{v2 v3 v4 v5 v6 v7:Option V}(hS:SqL K H a (ns.map V.int))(k0:0<=k)(tab:TbS (LL tb1 tb2) H)
  (nx:∀ H' v2 v3 v4 v5 v6 v7,TbS (LL tb1 tb2) H'->ExS (ads (LL tb1 tb2)) H H'->D.nx [some (.ref a),some (.int k),v2,v3,v4,v5,v6,v7] H'):
  (jRB G hr).1 D [some (.ref a),some (.int k),v2,v3,v4,v5,v6,v7] H:=by
 refine⟨_,rfl,_,rfl,a,ns,k,rfl,hS,k0,fun c=>⟨c,rfl,fun p N hp hN=>?_⟩⟩
 refine⟨_,rfl,p,N,6,rfl,j6,hN,by decide,by decide,fun N2 r a1 a2 a3=>⟨rfl, .inr ⟨_,rfl,?_⟩⟩⟩
 have e2:Ext H (L2.upd (L2.upd H p (.lst [.int N])) p (.lst [.int N2])):=((Ext.refl _).new hp _).updNew hp _
 have p2:(L2.upd (L2.upd H p (.lst [.int N])) p (.lst [.int N2])) p=some (.lst [.int N2]):=j6
 generalize L2.upd (L2.upd H p (.lst [.int N])) p (.lst [.int N2])=H2 at e2 p2
 obtain⟨gr,hgr,g0⟩:∃ gr:Int,(if decide (V.int r=V.int 1)=true then (1:Int) else 0)=gr/\(gr=0\/gr=1):=⟨_,rfl,by split <;> lia⟩
 rw[hgr]
 refine⟨_,rfl,by show (2:Nat)<=_; decide,fun l1 H3 d3 e3 n3=>?_⟩
 obtain⟨mt,hmt,mt0,mt1⟩:∃ mt:Int,atI [V.int 9,V.int 13] gr=some (.int mt)/\0<=mt/\mt<=16:=by
  rcases g0 with rfl | rfl
  ·exact⟨9,rfl,by decide,by decide⟩
  ·exact⟨13,rfl,by decide,by decide⟩
 refine⟨_,rfl,l1,_,gr,_,rfl,rfl,SqL.of d3,hmt,?_⟩
 refine⟨by show (2:Nat)<=_; decide,fun l2 H4 d4 e4 n4=>?_⟩
 obtain⟨mp,hmp,mp0,mp1⟩:∃ mp:Int,atI [V.int 14,V.int 16] gr=some (.int mp)/\0<=mp/\mp<=16:=by
  rcases g0 with rfl | rfl
  ·exact⟨14,rfl,by decide,by decide⟩
  ·exact⟨16,rfl,by decide,by decide⟩
 refine⟨_,rfl,l2,_,gr,_,rfl,rfl,SqL.of d4,hmp,?_⟩
 have E4:=e3.trans e4
 refine⟨p,N2,mt,mp,rfl,E4 _ _ p2,a1,mt0,mt1,mp0,by lia,fun b N5 wi ms pcs H5 c1 c2 hB5 g5 c5=>?_⟩
 have g:Good 16 32 wi ms pcs:=g5.wide mt1 (by lia)
 have pl16:=g5.pl
 have e5:Ext H H5:=fun c o h=>c5 c o ((e2.trans E4) c o h) fun z=>by rw[z,hp] at h; cases h
 have T5:=tab.ext e5
 refine⟨_,rfl,b,wi,ms,pcs,rfl,hB5,g,LL.t1 T5,fun H6 e6 t6=>?_⟩
 obtain⟨T6,X6⟩:=LL.to1 T5 e6 t6
 have hB6:=hB5.mono (T5.tups X6)
 have p6:=T5.at X6 c2
 refine⟨_,rfl,b,wi,ms,pcs,rfl,hB6,g,fun l7 H7 d7 e7 n7=>?_⟩
 have es:(szL (wk (chs wi.toNat ms pcs) 0)).map natV=((szL (wk (chs wi.toNat ms pcs) 0)).map fun n:Nat=>(n:Int)).map V.int:=by rw[ba]; rfl
 rw[es] at d7
 refine⟨l7,_,rfl,SqL.of d7,?_⟩
 rw[jMO,jUH]
 refine⟨_,rfl,rfl,_,rfl,iteN (by show (!decide (V.int _=V.int _))=false; rw[ay rfl]; rfl) ?_⟩
 have T7:=T6.ext e7
 have hB7:=hB6.mono e7.tups
 refine⟨_,rfl,_,rfl,b,wi,ms,pcs,rfl,hB7,g,LL.t1 T7,fun r8 ns8 H8 pp8 e8 t8=>?_⟩
 obtain⟨T8,X8⟩:=LL.to1 T7 e8 t8
 have hB8:=hB7.mono (T7.tups X8)
 refine⟨b,r8,wi,ms,pcs,ns8,rfl,hB8,g,pp8,fun H9 e9=>?_⟩
 refine⟨_,rfl,rfl,_,rfl,iteN (by show (!decide (V.int _=V.int _))=false; rw[ay rfl]; rfl) ?_⟩
 have T9:=T8.ext e9
 have hB9:=hB8.mono e9.tups
 have p9:=e9 _ _ (T7.at X8 (e7 _ _ p6))
 have fin:∀ H',TbS (LL tb1 tb2) H'->ExS (ads (LL tb1 tb2)) H9 H'->(lr6A G hr).1 D [some (.ref a),some (.int k),some (.ref p),some (.int gr),some (.ref b),some (natV (wk (chs wi.toNat ms pcs) 0).length),v6,v7] H':=fun H' T' X'=>by
  refine jPU G hr (T9.at X' p9) c1 (hB9.mono (T9.tups X')) g (by lia) T' fun H2 v6 v7 T2 k2=>nx H2 _ _ _ _ _ _ T2 fun c o h n=>k2 _ _ (X' _ _ (e9 _ _ (X8 _ _ (e7 _ _ (X6 _ _ (e5 _ _ h) n)) n)) n) n fun z=>by rw[z,hp] at h; cases h
 refine⟨_,rfl,_,_,rfl,rfl,_,rfl,ite2 (fun h=>?_) (fun h=>?_)⟩
 ·have h:((wk (chs wi.toNat ms pcs) 0).length:Int)<=1000:=az h
  refine⟨_,rfl,b,wi,ms,pcs,rfl,hB9,g,jKZ g (by lia),by lia,T9,LL.i1,LL.i2,fun y us l HA dA pA told ll YA TA nA=>?_⟩
  have ul:=All2.len pA
  refine⟨y,rfl,⟨_,SqL.of dA⟩,jAW (xs:=us) (fun σ=>∃ v1 v2,σ=[v1,v2]) (mapZ l fun c=>natV c.2) (mapZ.ok _ _) dA (by rw[aJ]; lia) ⟨_,_,rfl⟩ ?_ ?_⟩
  ·rintro j x σ' H' zs hx ⟨v1,v2,rfl⟩ e hz S1 S2 yes no
   obtain⟨c,hc,p,rfl,hp⟩:=All2.get' pA hx
   refine⟨p,_,rfl,SqT.of (e _ _ hp),rfl,_,_,rfl,_,_,rfl,rfl,?_⟩
   dsimp only [yQ]
   rw[ah rfl]
   exact⟨_,rfl,yes _ _ _ ⟨_,_,rfl⟩ (Ext.refl _) (hz.yes hc)⟩
  ·rintro D2 HB zs hD eB nD hz
   have hz:=hz.all (by rw[ul]; exact ar _)
   have hz2:zs=((l.map (·.2)).map fun n:Nat=>(n:Int)).map V.int:=by rw[hz,ba,ba]; rfl
   rw[hz2] at hD
   refine⟨D2,_,rfl,SqL.of hD,?_⟩
   have tt:(l.map (·.2)).sum=(wk (chs wi.toNat ms pcs) 0).length:=jL6 pcs l _ told.ris told.lk
   rw[jMO,tt]
   refine⟨_,rfl,rfl,_,rfl,iteN (by show (!decide (V.int _=V.int _))=false; rw[ay rfl]; rfl) ?_⟩
   exact fin HB (TA.ext eB) (YA.trans (ExS.of eB))
 ·exact fin H9 T9 ExS.refl
end
def spLaw (K:W.Frag)(tb1 tb2:Addr):Sp:=fun vs H Q _=>∃ (a:Addr) (ns:List Int),vs=[.ref a]/\SqL K H a (ns.map V.int)/\ns.length<=63/\TabW H tb1/\TabOk H tb2 pWB qWB/\tb1≠tb2/\∀ H',Q (.bl true) H'
theorem jVI {fd:FuncData}(F:Fun K "law" "law" sLaw f fd)(G:LW P w K mg base fC fP fT fX fM fZ fK fQ fW fB fL tb1 tb2 fdC fdP fdT fdX fdM fdZ fdK fdQ fdW fdB fdL):FnOk P w K mg base CX0 8 f fd ["script"] (spLaw K tb1 tb2):=by
 refine F.ok scLaw (fun vs H Q E h=>?_) (fun cdv A outer s H vs Q E hr h=>?_)
 ·obtain⟨_,_,rfl,_⟩:=h
  rfl
 ·obtain⟨a,ns,rfl,hS,hlen,tw,tq,n12,k⟩:=h
  have tab:TbS (LL tb1 tb2) H:=⟨by
   unfold ads LL
   simp only [aY,fD,bF,aF,cr,fY]
   exact⟨n12,fun h=>h,fo⟩,fun t ht=>by
   simp only [aF,cr,fY] at ht
   rcases ht with rfl | rfl
   ·exact tw
   ·exact tq⟩
  refine⟨_,(lawA G hr).2.h,?_⟩
  have hl:∃ m:Int,(if (if (5:Int)<((ns.map V.int).length:Int) then (5:Int) else ((ns.map V.int).length:Int))>1 then (if (5:Int)<((ns.map V.int).length:Int) then (5:Int) else ((ns.map V.int).length:Int)) else 1)=m/\0<=m/\m<=5:=⟨_,rfl,by split <;> lia,by split <;> (try split) <;> lia⟩
  obtain⟨m,hm,m0,m6⟩:=hl
  refine⟨_,rfl,a,_,rfl, .inl hS,_,_,rfl,_,_,rfl,m,by rw[<- hm],by lia,by lia,jC2 (lo:=0) (n:=m.toNat) (fun i σ H'=>TbS (LL tb1 tb2) H'/\ExS (ads (LL tb1 tb2)) H H'/\∃ v1 v2 v3 v4 v5 v6 v7,σ=[some (.ref a),v1,v2,v3,v4,v5,v6,v7]) ⟨tab,ExS.refl,_,_,_,_,_,_,_,rfl⟩ ?_ ?_⟩
  ·rintro i σ H1 hi ⟨T1,X1,v1,v2,v3,v4,v5,v6,v7,rfl⟩
   exact jL3 G hr (tab.sq X1 hS) (by lia) T1 fun H2 v2 v3 v4 v5 v6 v7 T2 X2=>⟨T2,X1.trans X2,_,_,_,_,_,_,_,rfl⟩
  ·rintro σ H1 ⟨T1,X1,v1,v2,v3,v4,v5,v6,v7,rfl⟩
   exact k H1
end
theorem lenU1 {P:List Value->Prop} :∀ {us:List Value},us.length=1->(∀ a,P [a])->P us
 | [a],_,h=>h a
theorem lenU2 {P:List Value->Prop} :∀ {us:List Value},us.length=2->(∀ a b,P [a,b])->P us
 | [a,b],_,h=>h a b
theorem lenU3 {P:List Value->Prop} :∀ {us:List Value},us.length=3->(∀ a b c,P [a,b,c])->P us
 | [a,b,c],_,h=>h a b c
abbrev zN (K:W.Frag)(x:Str):=PySem.W.nsIn K mainGlobals x
abbrev zr (f:Addr):Option (Option Value):=some (some (.ref f))
abbrev zl (x:Str)(st:Stmt)(oc:Value)(od:Option Addr)(kV dc pm:Value)(an:Option Addr)(cd ct:Value)(sl:Array (Option Value)):Option Obj:=some ⟨oc,od, .func (PySem.W.fnOf x x (yE st) (jD st) (j9 st) .none kV dc pm an cd ct),sl⟩
abbrev zc:=PySem.W.codeIn
abbrev zk (K:W.Frag)(f:Addr):=keepIn K (.ref f)
theorem zb1 {K:W.Frag}{x q p1:Str}{st:Stmt}{f:Addr}{fd:FuncData}(F:Fun K x q st f fd)(h:∀ (kV doc pm:Value) (an:Option Addr) (cdv ct u1:Value),bindArgs (PySem.W.fnOf x q (yE st) (jD st) (j9 st) .none kV doc pm an cdv ct) ⟨[u1],[]⟩=pure [(p1,u1)]:=by intros; rfl):Binds K fd [p1] []:=F.binds fun kV doc pm an cdv ct us hl=>lenU1 (P:=fun us=>bindArgs _ ⟨us,[]⟩=pure (List.zip _ us)) hl fun u1=>h kV doc pm an cdv ct u1
theorem zb2 {K:W.Frag}{x q p1 p2:Str}{st:Stmt}{f:Addr}{fd:FuncData}(F:Fun K x q st f fd)(h:∀ (kV doc pm:Value) (an:Option Addr) (cdv ct u1 u2:Value),bindArgs (PySem.W.fnOf x q (yE st) (jD st) (j9 st) .none kV doc pm an cdv ct) ⟨[u1,u2],[]⟩=pure [(p1,u1),(p2,u2)]:=by intros; rfl):Binds K fd [p1,p2] []:=F.binds fun kV doc pm an cdv ct us hl=>lenU2 (P:=fun us=>bindArgs _ ⟨us,[]⟩=pure (List.zip _ us)) hl fun u1 u2=>h kV doc pm an cdv ct u1 u2
theorem zb3 {K:W.Frag}{x q p1 p2 p3:Str}{st:Stmt}{f:Addr}{fd:FuncData}(F:Fun K x q st f fd)(h:∀ (kV doc pm:Value) (an:Option Addr) (cdv ct u1 u2 u3:Value),bindArgs (PySem.W.fnOf x q (yE st) (jD st) (j9 st) .none kV doc pm an cdv ct) ⟨[u1,u2,u3],[]⟩=pure [(p1,u1),(p2,u2),(p3,u3)]:=by intros; rfl):Binds K fd [p1,p2,p3] []:=F.binds fun kV doc pm an cdv ct us hl=>lenU3 (P:=fun us=>bindArgs _ ⟨us,[]⟩=pure (List.zip _ us)) hl fun u1 u2 u3=>h kV doc pm an cdv ct u1 u2 u3
set_option autoImplicit true
set_option relaxedAutoImplicit true
set_option maxHeartbeats 8000000 in
theorem all_mk {l:PySem.W.OpenLaw}{w:World}{K:W.Frag}{h:Heap}{mg:Str->Option Value}{fa f1 f2 f3 f4 f5 f6 f7 f8 f9 f10 f11 f12 f13 f14 f15 f16 f17 f18 f19 f20 f21 f22 f23 f24 f25 f26 f27 f28:Addr}(X:K.In h)(G:h.Ns mainGlobals mg)(hfa:mg "law" =some (.ref fa))
  {u1 u2:Tok}
  (a1:zN K "is_whole" =zr f1) (l1:K.lookup f1=zl "is_whole" jBM oc1 od1 kV1 dc1 pm1 an1 cd1 ct1 sl1) (c1:zc K cd1 "is_whole" =true) (k1:zk K f1=true)
  (a2:zN K "is_rising" =zr f2) (l2:K.lookup f2=zl "is_rising" jAI oc2 od2 kV2 dc2 pm2 an2 cd2 ct2 sl2) (c2:zc K cd2 "is_rising" =true) (k2:zk K f2=true)
  (a3:zN K "is_lot" =zr f3) (l3:K.lookup f3=zl "is_lot" jCW oc3 od3 kV3 dc3 pm3 an3 cd3 ct3 sl3) (c3:zc K cd3 "is_lot" =true) (k3:zk K f3=true)
  (a4:zN K "mask_of" =zr f4) (l4:K.lookup f4=zl "mask_of" sMask oc4 od4 kV4 dc4 pm4 an4 cd4 ct4 sl4) (c4:zc K cd4 "mask_of" =true) (k4:zk K f4=true)
  (a5:zN K "lot_of" =zr f5) (l5:K.lookup f5=zl "lot_of" jCU oc5 od5 kV5 dc5 pm5 an5 cd5 ct5 sl5) (c5:zc K cd5 "lot_of" =true) (k5:zk K f5=true)
  (a6:zN K "choices_of" =zr f6) (l6:K.lookup f6=zl "choices_of" yA oc6 od6 kV6 dc6 pm6 an6 cd6 ct6 sl6) (c6:zc K cd6 "choices_of" =true) (k6:zk K f6=true)
  (a7:zN K "full_mask" =zr f7) (l7:K.lookup f7=zl "full_mask" sFull oc7 od7 kV7 dc7 pm7 an7 cd7 ct7 sl7) (c7:zc K cd7 "full_mask" =true) (k7:zk K f7=true)
  (a8:zN K "choices_at" =zr f8) (l8:K.lookup f8=zl "choices_at" sAt oc8 od8 kV8 dc8 pm8 an8 cd8 ct8 sl8) (c8:zc K cd8 "choices_at" =true) (k8:zk K f8=true)
  (a9:zN K "masks_met" =zr f9) (l9:K.lookup f9=zl "masks_met" sMet oc9 od9 kV9 dc9 pm9 an9 cd9 ct9 sl9) (c9:zc K cd9 "masks_met" =true) (k9:zk K f9=true)
  (a10:zN K "gathered" =zr f10) (l10:K.lookup f10=zl "gathered" qN oc10 od10 kV10 dc10 pm10 an10 cd10 ct10 sl10) (c10:zc K cd10 "gathered" =true) (k10:zk K f10=true)
  (a11:zN K "ways_of" =zr f11) (l11:K.lookup f11=zl "ways_of" qL oc11 od11 kV11 dc11 pm11 an11 cd11 ct11 sl11) (c11:zc K cd11 "ways_of" =true) (k11:zk K f11=true)
  (a12:zN K "many" =zr f12) (l12:K.lookup f12=zl "many" sMany oc12 od12 kV12 dc12 pm12 an12 cd12 ct12 sl12) (c12:zc K cd12 "many" =true) (k12:zk K f12=true)
  (a13:zN K "sizes_together" =zr f13) (l13:K.lookup f13=zl "sizes_together" sSzT oc13 od13 kV13 dc13 pm13 an13 cd13 ct13 sl13) (c13:zc K cd13 "sizes_together" =true) (k13:zk K f13=true)
  (a14:zN K "sizes" =zr f14) (l14:K.lookup f14=zl "sizes" jCT oc14 od14 kV14 dc14 pm14 an14 cd14 ct14 sl14) (c14:zc K cd14 "sizes" =true) (k14:zk K f14=true)
  (a15:zN K "weights" =zr f15) (l15:K.lookup f15=zl "weights" sWts oc15 od15 kV15 dc15 pm15 an15 cd15 ct15 sl15) (c15:zc K cd15 "weights" =true) (k15:zk K f15=true)
  (a16:zN K "ways_to_hold" =zr f16) (l16:K.lookup f16=zl "ways_to_hold" sHold oc16 od16 kV16 dc16 pm16 an16 cd16 ct16 sl16) (c16:zc K cd16 "ways_to_hold" =true) (k16:zk K f16=true)
  (a17:zN K "many_by_lots" =zr f17) (l17:K.lookup f17=zl "many_by_lots" kY oc17 od17 kV17 dc17 pm17 an17 cd17 ct17 sl17) (c17:zc K cd17 "many_by_lots" =true) (k17:zk K f17=true)
  (a18:zN K "is_row" =zr f18) (l18:K.lookup f18=zl "is_row" jCV oc18 od18 kV18 dc18 pm18 an18 cd18 ct18 sl18) (c18:zc K cd18 "is_row" =true) (k18:zk K f18=true)
  (a19:zN K "right_number" =zr f19) (l19:K.lookup f19=zl "right_number" sRNum oc19 od19 kV19 dc19 pm19 an19 cd19 ct19 sl19) (c19:zc K cd19 "right_number" =true) (k19:zk K f19=true)
  (a20:zN K "counted" =zr f20) (l20:K.lookup f20=zl "counted" y9 oc20 od20 kV20 dc20 pm20 an20 cd20 ct20 sl20) (c20:zc K cd20 "counted" =true) (k20:zk K f20=true)
  (a21:zN K "count_paper" =zr f21) (l21:K.lookup f21=zl "count_paper" sCPap oc21 od21 kV21 dc21 pm21 an21 cd21 ct21 sl21) (c21:zc K cd21 "count_paper" =true) (k21:zk K f21=true)
  (a22:zN K "_law_cell_at" =zr f22) (l22:K.lookup f22=zl "_law_cell_at" sCell oc22 od22 kV22 dc22 pm22 an22 cd22 ct22 sl22) (c22:zc K cd22 "_law_cell_at" =true) (k22:zk K f22=true)
  (a23:zN K "_law_pot" =zr f23) (l23:K.lookup f23=zl "_law_pot" sPot oc23 od23 kV23 dc23 pm23 an23 cd23 ct23 sl23) (c23:zc K cd23 "_law_pot" =true) (k23:zk K f23=true)
  (a24:zN K "_law_take" =zr f24) (l24:K.lookup f24=zl "_law_take" sTake oc24 od24 kV24 dc24 pm24 an24 cd24 ct24 sl24) (c24:zc K cd24 "_law_take" =true) (k24:zk K f24=true)
  (a25:zN K "_law_lot" =zr f25) (l25:K.lookup f25=zl "_law_lot" sLot oc25 od25 kV25 dc25 pm25 an25 cd25 ct25 sl25) (c25:zc K cd25 "_law_lot" =true) (k25:zk K f25=true)
  (a26:zN K "_law_box" =zr f26) (l26:K.lookup f26=zl "_law_box" sBox oc26 od26 kV26 dc26 pm26 an26 cd26 ct26 sl26) (c26:zc K cd26 "_law_box" =true) (k26:zk K f26=true)
  (a27:zN K "_law_left_by" =zr f27) (l27:K.lookup f27=zl "_law_left_by" yT oc27 od27 kV27 dc27 pm27 an27 cd27 ct27 sl27) (c27:zc K cd27 "_law_left_by" =true) (k27:zk K f27=true)
  (a28:zN K "law" =zr f28) (l28:K.lookup f28=zl "law" sLaw oc28 od28 kV28 dc28 pm28 an28 cd28 ct28 sl28) (c28:zc K cd28 "law" =true) (k28:zk K f28=true)
  (g1:zN K "MOST_WEIGHED" =some (some (.int 1000 u1))) (g2:zN K "MOST_THINGS_BY_LOTS" =some (some (.int 10 u2))) (z1:zN K "len" =some none) (z2:zN K "range" =some none) (z3:zN K "tuple" =some none) (z4:zN K "sorted" =some none) (z5:zN K "set" =some none) (z6:zN K "list" =some none) (z7:zN K "int" =some none) (z8:zN K "isinstance" =some none) (z9:zN K "bool" =some none) (z10:zN K "str" =some none) (z11:zN K "all" =some none) (z12:zN K "zip" =some none) (z13:zN K "max" =some none) (z14:zN K "min" =some none) (z15:zN K "any" =some none) (z16:zN K "abs" =some none) (z17:zN K "sum" =some none) (z18:zN K "enumerate" =some none) (z19:zN K "dict" =some none) {tb1 cc1:Addr}(cde1:cd11= .ref cc1) (hcd1:codeHdIn K cc1 tb1=true) {tb2 cc2:Addr}(cde2:cd15= .ref cc2) (hcd2:codeHdIn K cc2 tb2=true) {bmA:Addr}(xb1:zN K "__builtins__" =zr bmA) (xb2:K.lookup bmA=some ⟨.type "module",some builtinsNs, .plain,#[]⟩) (xb3:bmA≠builtinsNs) (xb4:bmA≠mainGlobals):
  ∃ fd:FuncData,(∀ (s:Shared) (v:Value),BindsTo s fd ⟨[v],[]⟩ [("script",v)])/\∀ base:Heap,K.In base->base.Ns mainGlobals mg->FnOk l.prog w K mg base CX0 8 fa fd ["script"] (spLaw K tb1 tb2):=by
 have e:=hfa.symm.trans (gZ X G a28)
 cases e
 have T:Txt mg:=⟨bw X G z1,bw X G z2,bw X G z3,bw X G z4,bw X G z5,bw X G z6,bw X G z7,bw X G z8,bw X G z9,bw X G z10,bw X G z11,bw X G z12,bw X G z13,bw X G z14,bw X G z15,bw X G z16,bw X G z17,bw X G z18,bw X G z19⟩
 have F1:=kI (st:=jBM) l1 c1 k1
 have F2:=kI (st:=jAI) l2 c2 k2
 have F3:=kI (st:=jCW) l3 c3 k3
 have F4:=kI (st:=sMask) l4 c4 k4
 have F5:=kI (st:=jCU) l5 c5 k5
 have F6:=kI (st:=yA) l6 c6 k6
 have F7:=kI (st:=sFull) l7 c7 k7
 have F8:=kI (st:=sAt) l8 c8 k8
 have F9:=kI (st:=sMet) l9 c9 k9
 have F10:=kI (st:=qN) l10 c10 k10
 have F11:=kI (st:=qL) l11 c11 k11
 have b11:Binds K _ ["choices"] []:=zb1 F11
 have F12:=kI (st:=sMany) l12 c12 k12
 have F13:=kI (st:=sSzT) l13 c13 k13
 have F14:=kI (st:=jCT) l14 c14 k14
 have F15:=kI (st:=sWts) l15 c15 k15
 have b15:Binds K _ ["box"] []:=zb1 F15
 have F16:=kI (st:=sHold) l16 c16 k16
 have F17:=kI (st:=kY) l17 c17 k17
 have F18:=kI (st:=jCV) l18 c18 k18
 have F19:=kI (st:=sRNum) l19 c19 k19
 have F20:=kI (st:=y9) l20 c20 k20
 have F21:=kI (st:=sCPap) l21 c21 k21
 have F22:=kI (st:=sCell) l22 c22 k22
 have F23:=kI (st:=sPot) l23 c23 k23
 have F24:=kI (st:=sTake) l24 c24 k24
 have F25:=kI (st:=sLot) l25 c25 k25
 have F26:=kI (st:=sBox) l26 c26 k26
 have F27:=kI (st:=yT) l27 c27 k27
 have F28:=kI (st:=sLaw) l28 c28 k28
 refine⟨PySem.W.fnOf "law" "law" (yE sLaw) (jD sLaw) (j9 sLaw) .none kV28 dc28 pm28 an28 cd28 ct28,fun s v=> .of_eq rfl,fun base KB _=>?_⟩
 have M:=fun {x:Str}{f:Addr}(a:PySem.W.nsIn K mainGlobals x=some (some (.ref f)))=>gZ X G a
 have M':=fun {x:Str}{v:Value}(a:PySem.W.nsIn K mainGlobals x=some (some v))=>gZ X G a
 have CD1:PySem.W.CodeHd base cc1 tb1:=io KB hcd1
 have FC1:FunC K "ways_of" "ways_of" qL f11 _ cc1:=⟨_,_,_,_,_,_,_,_,rfl,cde1 ▸ l11,cde1 ▸ c11⟩
 have CD2:PySem.W.CodeHd base cc2 tb2:=io KB hcd2
 have FC2:FunC K "weights" "weights" sWts f15 _ cc2:=⟨_,_,_,_,_,_,_,_,rfl,cde2 ▸ l15,cde2 ▸ c15⟩
 have BM:BltAt base mg:=⟨bmA,_,gZ X G xb1,xb3,xb4,KB _ _ xb2,rfl,rfl,rfl⟩
 have C1:Can l.prog w K mg base "is_whole" 1 f1 _ ["thing"] spWh:=⟨jMG F1 T,M a1,k1,(zb1 F1)⟩
 have C2:Can l.prog w K mg base "is_rising" 2 f2 _ ["thing"] (spB risB):=⟨jMH F2 T C1,M a2,k2,(zb1 F2)⟩
 have C3:Can l.prog w K mg base "is_lot" 3 f3 _ ["thing","many"] (spB2 lotB):=⟨jPN F3 T C2,M a3,k3,(zb2 F3)⟩
 have C4:Can l.prog w K mg base "mask_of" 1 f4 _ ["lot"] jBI:=⟨jT2 F4 T,M a4,k4,(zb1 F4)⟩
 have C5:Can l.prog w K mg base "lot_of" 1 f5 _ ["mask"] jF0:=⟨jPL F5 T,M a5,k5,(zb1 F5)⟩
 have C6:Can l.prog w K mg base "choices_of" 2 f6 _ ["box"] kW:=⟨jKE F6 T C4,M a6,k6,(zb1 F6)⟩
 have C7:Can l.prog w K mg base "full_mask" 1 f7 _ ["choices"] jCQ:=⟨jT6 F7 T,M a7,k7,(zb1 F7)⟩
 have C8:Can l.prog w K mg base "choices_at" 1 f8 _ ["choices","mask"] spAt:=⟨ok_at F8 T,M a8,k8,(zb2 F8)⟩
 have C9:Can l.prog w K mg base "masks_met" 2 f9 _ ["choices"] spMet:=⟨jVG F9 T C7 C8,M a9,k9,(zb1 F9)⟩
 have C10:Can l.prog w K mg base "gathered" 4 f10 _ ["choices","at_end","join"] jHP:=⟨FnOk.ex fun x o=>(jHV F10 T C7 C9 C8 ((jVJ o T).mono (by decide)) ZT.st (zhW.ok _ _) (RWay.ok _) o).ok,M a10,k10,(zb3 F10)⟩
 have C11:Can l.prog w K mg base "ways_of" 5 f11 _ ["choices"] (jEB tb1):=⟨jSZ FC1 T CD1 BM C10,M a11,k11,b11⟩
 have C12:Can l.prog w K mg base "many" 6 f12 _ ["box"] (jG7 tb1):=⟨jT3 F12 T C6 C11,M a12,k12,(zb1 F12)⟩
 have C13:Can l.prog w K mg base "sizes_together" 4 f13 _ ["behind"] (fun _ _ _ _=>False):=⟨FnOk.never,M a13,k13,(zb1 F13)⟩
 have C14:Can l.prog w K mg base "sizes" 5 f14 _ ["box"] jHO:=⟨jPK F14 T C6 ⟨FnOk.ex fun x o=>(jHV F10 T C7 C9 C8 ((Callee.imp2 (Callee.of F13 (jVE (H00:=x.1) o F13 T) (zb1 F13)) (fun _ _=>trivial) (fun _ _ _ _ z q=>⟨z,q⟩)).mono (by decide)) ZT.st (FrH.ok _) (RSz.ok _ _) o).ok,M a10,k10,(zb3 F10)⟩ (M a13),M a14,k14,(zb1 F14)⟩
 have C15:Can l.prog w K mg base "weights" 7 f15 _ ["box"] (spWts (LL tb1 tb2) tb1 tb2):=⟨jVD FC2 T CD2 BM (M' g1) C6 C12 (fun cl i=>jHV F10 T C7 C9 C8 ((jHU T cl i).mono (by decide)) (ZC.st _ _ _) (zhWt.ok cl i) (RWt.ok _ _) (qA i.g)) (M a10) k10 (zb3 F10),M a15,k15,b15⟩
 have C16:Can l.prog w K mg base "ways_to_hold" 1 f16 _ ["lengths","total"] (jEC K):=⟨jT5 F16 T,M a16,k16,(zb2 F16)⟩
 have C17:Can l.prog w K mg base "many_by_lots" 2 f17 _ ["box"] jF3:=⟨jMI F17 T (M' g2) C4 C16,M a17,k17,(zb1 F17)⟩
 have C18:Can l.prog w K mg base "is_row" 4 f18 _ ["thing","things"] jF2:=⟨jPM F18 T C3 C1,M a18,k18,(zb2 F18)⟩
 have C19:Can l.prog w K mg base "right_number" 2 f19 _ ["choices","mask","ahead"] jG6:=⟨jT1 F19 T C7 C8,M a19,k19,(zb3 F19)⟩
 have C20:Can l.prog w K mg base "counted" 5 f20 _ ["box","paper"] jDJ:=⟨jKD F20 T C18 C6 C4 C19,M a20,k20,(zb2 F20)⟩
 have C21:Can l.prog w K mg base "count_paper" 6 f21 _ ["box"] (jLQ tb1):=⟨jT7 F21 T C5 C6 C11,M a21,k21,(zb1 F21)⟩
 have C22:Can l.prog w K mg base "_law_cell_at" 1 f22 _ ["script","k"] (jLP K):=⟨jT8 F22 T,M a22,k22,(zb2 F22)⟩
 have C23:Can l.prog w K mg base "_law_pot" 1 f23 _ ["cell"] spPot:=⟨jVF F23 T,M a23,k23,(zb1 F23)⟩
 have C24:Can l.prog w K mg base "_law_take" 1 f24 _ ["pot","wide"] yM:=⟨jT0 F24,M a24,k24,(zb2 F24)⟩
 have C25:Can l.prog w K mg base "_law_lot" 2 f25 _ ["pot","wide"] qK:=⟨jVH F25 T C24,M a25,k25,(zb2 F25)⟩
 have C26:Can l.prog w K mg base "_law_box" 3 f26 _ ["pot","most_things","most_pieces"] spBox:=⟨jVK F26 T C24 C25,M a26,k26,(zb3 F26)⟩
 have C27:Can l.prog w K mg base "_law_left_by" 1 f27 _ ["box","taken"] jF1:=⟨jT4 F27 T,M a27,k27,(zb2 F27)⟩
 exact jVI F28 ⟨T,C22,C23,C24,C26,C12,C14,C20,C21,C15,C17,C27⟩
theorem walk {l:PySem.W.OpenLaw}{q:Program}{loose:List Str}{XP:(Str->Option Value)->Heap->Prop}{YP:World->Heap->Prop}{d:DefRec}{K:Params->W.Frag}(hn:l.most=some 63)(hdf:d.params.defaults=[]){tb1 tb2:Addr}{cc1 cc2:Addr}
  (hY:∀ (w:World) (h:Heap),YP w h->(K w.params).In h/\∀ T∈[tb1,tb2],h.get? T=some (tabObj #[])) (hcd:∀ w:World,codeHdIn (K w.params) cc1 tb1=true/\codeHdIn (K w.params) cc2 tb2=true) (hKT:∀ w:World,∀ T∈[tb1,tb2],(K w.params).lookup T=none) (hnd:([tb1,tb2]:List Addr).Nodup)
  (F:∀ (w:World) (mg:Str->Option Value) (fa:Addr) (h:Heap),(K w.params).In h->h.Ns mainGlobals mg->mg d.name=some (.ref fa)->
   ∃ fd:FuncData,(∀ (s:Shared) (u:Value),BindsTo s fd ⟨[u],[]⟩ [("script",u)])/\∀ base:Heap,(K w.params).In base->base.Ns mainGlobals mg->FnOk l.prog w (K w.params) mg base CX0 8 fa fd ["script"] (spLaw (K w.params) tb1 tb2)):
  PySem.W.WalkO q loose XP YP l.row.toRowW d [] (fun f vs=>PySem.call f vs):=
 L2.walk_ofTs (cts:=[(cc1,tb1),(cc2,tb2)]) (n:=63) (k:=8) (x:= "script") (CX:=fun _=>CX0) (sp:=fun w=>spLaw (K w.params) tb1 tb2) hn (by decide) hdf ⟨rfl,by decide,by decide⟩ hY (fun w p hp=>by
  obtain⟨_h0,_h1⟩:=hcd w
  simp only [aF,cr,fY] at hp
  rcases hp with rfl | rfl <;> assumption) hKT F (fun _ H a ns hl hT hS=>⟨a,ns,rfl,hS,hl, .inl (hT _ am), .inl (hT _ (aj _ am)),(fun z=>(bF.mp hnd).1 (by rw[z]; exact am ..)),fun _=>rfl⟩) fun _ _ _ _ _ z=>z
end Eo
open PySem PySem.W PyProof.Rows
set_option maxRecDepth 100000 in
set_option maxHeartbeats 0 in
theorem PySem.Challenge.cw_eachonce_k27_whole_counts_agree_holds : PySem.Challenge.rw_eachonce_k27_whole_counts_agree.Holds := by
 w_on
 refine holds_law (by decide+kernel) fun said=>?_
 refine holds_open (q:=Eo.vw) (loose:=[]) (Xt:=fun s=>xlAt Eo.vw [] s&&recOk (RowW.records (OpenRow.toRowW PySem.Challenge.rw_eachonce_k27_whole_counts_agree.row)) s) (XP:=XL Eo.vw []) (Yf:=Hook.obs Eo.kH) (Ya:=Hook.val Eo.kH) (YP:=Hook.says Eo.kH) (N:=6900) Eo.left (Hook.of Eo.kH) (Hook.keeps Eo.kH) (fun s e=>xl_of s (eN.mp e).1) XL.keeps (by rfl) (by rfl) (by rfl) (fun s e=>recFacts_of (eN.mp e).2) rfl said (by decide+kernel) ⟨rfl,rfl,rfl,rfl,rfl,by decide+kernel⟩ ?hw ?hc
 case hw=>w_witness2
 refine Eo.walk (l:=PySem.Challenge.rw_eachonce_k27_whole_counts_agree) (K:=Eo.kK) rfl rfl (tb1:=99) (cc1:=103) (tb2:=125) (cc2:=129) (fun w h Y=>⟨PySem.W.km_in_of Y,PySem.W.km_tabs_of Y⟩) (fun w=>⟨by kernel_rfl,by kernel_rfl⟩) (fun w T hm=>by
   simp only [aF,cr,fY] at hm
   rcases hm with rfl | rfl <;> kernel_rfl) (by decide) ?F
 case F=>
  intro w mg fa h KX G hmg
  k_fill
  refine' Eo.all_mk KX G hmg _ _ _ _ _ _ _ _ _ _ _ _ _ _ _ _ _ _ _ _ _ _ _ _ _ _ _ _ _ _ _ _ _ _ _ _ _ _ _ _ _ _ _ _ _ _ _ _ _ _ _ _ _ _ _ _ _ _ _ _ _ _ _ _ _ _ _ _ _ _ _ _ _ _ _ _ _ _ _ _ _ _ _ _ _ _ _ _ _ _ _ _ _ _ _ _ _ _ _ _ _ _ _ _ _ _ _ _ _ _ _ _ _ _ _ _ _ _ _ _ _ _ _ _ _ _ _ _ _ _ _ _ _ (tb1:=99) rfl (by kernel_rfl) (tb2:=125) rfl (by kernel_rfl) (bmA:=4) (by kernel_rfl) (by kernel_rfl) (by decide) (by decide)
  all_goals ((try delta Eo.zN); (try delta Eo.zr); (try delta Eo.zl); (try delta Eo.zc); (try delta Eo.zk); try k_is)
end
