import PyProof.Rows.All
import KE.KDictList
import KE.KDictOf
import KE.KFromBytes
import KE.KIsAll
import KE.KLam
import KE.KNestM
import KE.KSortTup
import PySem.Challenge.RW_eachonce_k13_numbers_there_and_back
noncomputable section
set_option Elab.async false
set_option linter.all false
set_option maxRecDepth 100000
def aa:=@PySem.wpAny_bind
def ab:=@PySem.Heap.get?_push_of_some
def ae:=@List.length_map
def af:=@PySem.wpAny_pure
def ag:=@List.getElem?_eq_some_iff
def ah:=@Bool.false_ne_true
def ai:=@if_neg
def aj:=@if_pos
def ak:=@Nat.le_refl
def am:=@decide_eq_true
def ao:=@List.mem_of_getElem?
def aq:=@List.size_toArray
def ar:=@List.mem_cons_of_mem
def aw:=@List.mem_cons_self
def ax:=@List.getElem?_eq_getElem
def ay:=@PySem.Heap.lt_size
def az:=@PySem.Heap.get?_push_size
def aA:=@List.getD_eq_getElem?_getD
def aB:=@List.mem_cons
def aC:=@PyProof.Rows.wpS_bind
def aE:=@List.length_append
def aF:=@PyProof.Rows.wpS_pure
def aG:=@Array.length_toList
def aH:=@List.mem_append_right
def aI:=@List.getElem?_map
def aJ:=@of_decide_eq_true
def aK:=@List.length_cons
def aL:=@decide_eq_false
def aM:=@List.mem_append
def aN:=@List.mem_singleton
def aO:=@PySem.sizeLine_eq
def aP:=@List.lookup_cons
def aQ:=@List.append_assoc
def aR:=@List.map_append
def aS:=@Nat.ne_of_lt
def aU:=@Option.some.inj
def aV:=@Nat.lt_of_lt_of_le
def aW:=@List.mem_map
def aX:=@List.mem_append_left
def aY:=@List.map_cons
def aZ:=@List.getElem?_append_right
def ba:=@PySem.W.mg_none_of
def bb:=@Nat.zero_le
def be:=@List.length_take
def bf:=@Array.toList_append
def bg:=@decide_eq_true_iff
def bh:=@List.take_add_one
def bi:=@List.all_eq_true
def bo:=@List.take_append_drop
def bq:=@Int.toNat_natCast
def br:=@List.append_nil
def bu:=@Array.getElem?_toList
def bv:=@Nat.le_trans
def bw:=@List.take_length
def bx:=@List.pairwise_iff_getElem
def bz:=@Classical.byContradiction
def bA:=@List.not_mem_nil
def bB:=@PySem.wpAny_setField_rec
def bC:=@List.getElem?_of_mem
def bD:=@PySem.wpAny_callSpecial?_slot
def bE:=@PySem.wpAny_call_entry
def bF:=@Bool.and_eq_true
def bG:=@PySem.PassesOwn.never
def bH:=@List.nodup_cons
def bI:=@PySem.wpAny_newObj_type
def bJ:=@Nat.lt_succ_of_lt
def bK:=@PySem.Heap.size_push
def bL:=@PySem.wpAny_field
def bM:=@List.getElem?_append_left
def bN:=@congrArg
def bO:=@List.take_of_length_le
def bP:=@Nat.testBit_or
def bQ:=@PyProof.Rows.wpS_forRange
def bR:=@List.mem_of_mem_take
def bS:=@List.pairwise_map
def bU:=@PyProof.Rows.slot_tuple_getitem
def bV:=@List.length_filter_le
def bW:=@PySem.F.plainAttrs_list
def bX:=@List.filter_append
def bY:=@List.mem_range
def bZ:=@Bool.eq_iff_iff
def b0:=@PySem.wpAny_holding
def cc:=@List.getElem?_take_of_lt
def ce:=@List.countP_cons
def cf:=@beq_eq_false_iff_ne
def cg:=@List.replicate_succ
def ci:=@Nat.testBit_two_pow_sub_one
def cj:=@Nat.add_sub_cancel_left
def ck:=@PySem.wpAny_mono
def cm:=@List.pairwise_append
def cq:=@Nat.mod_two_eq_zero_or_one
def cr:=@Nat.pow_le_pow_right
def cw:=@Nat.lt_irrefl
def cx:=@List.mem_filter
def cy:=@PySem.W.kia_one
def cz:=@PySem.wpAny_loadPart'
def cA:=@Int.le_of_lt
def cB:=@List.getElem?_eq_none
def cC:=@List.map_map
def cD:=@PySem.wpAny_rule
def cE:=@List.mem_of_mem_drop
def cF:=@PySem.Around.under_plainId
def cG:=@decide_eq_false_iff_not
def cH:=@PyProof.Rows.callWith_type1
def cI:=@Nat.le_of_lt
def cJ:=@PySem.wpAny_truthy_bool
def cK:=@Int.le_trans
def cL:=@Array.perm_iff_toList_perm
def cM:=@List.filterMap_cons
def cN:=@PySem.mem_of_lookup
def cO:=@List.map_congr_left
def cP:=@List.mem_map_of_mem
def cQ:=@List.length_nil
def cR:=@Nat.not_lt_zero
def cS:=@List.Perm.append_left
def cU:=@List.pairwise_cons
def cV:=@Nat.ne_of_gt
def cW:=@Array.toArray_toList
def cX:=@PyProof.Rows.wpS_mono
def cY:=@Int.le_refl
def cZ:=@Array.toList_reverse
def da:=@List.take_sublist
def db:=@PySem.wpAny_setState_of
def de:=@List.length_range
def df:=@PySem.codeAny_builtin
def dh:=@Nat.two_pow_pos
def di:=@List.length_take_le
def dk:=@PySem.Heap.get?_update_other
def dn:=@List.all_cons
def dq:=@List.length_drop
def dr:=@List.filter_cons
def dv:=@Bool.and_false
def dw:=@or_false
def dy:=@PySem.wpAny_seqItems
def dz:=@PySem.Heap.get?_update_self
def dA:=@List.perm_append_comm
def dB:=@List.extract_eq_take_drop
def dC:=@PySem.wpAny_passesOwn
def dD:=@Ne.symm
def dE:=@PySem.sizeLine_eq
def dF:=@Array.toList_push
def dG:=@PySem.wpAny_attempt
def dH:=@Nat.testBit_two_pow
def dI:=@List.getElem_mem
def dJ:=@PySem.F.plain_list_iadd
def dL:=@Nat.le_add_right
def dM:=@PySem.wpAny_Call_Name_kw
def dN:=@List.zip_cons_cons
def dO:=@of_decide_eq_false
def dP:=@PyProof.Rows.wpS_modify
def dQ:=@List.of_mem_zip
def dR:=@List.find?_cons
def dS:=@PySem.wpAny_pyIter_list
def dU:=@List.flatten_cons
def dW:=@Bool.not_eq_true'
def dX:=@Array.toList_extract
def dY:=@List.exists_cons_of_ne_nil
def dZ:=@Bool.or_eq_false_iff
def d0:=@PySem.codeAny_mono
def ed:=@PySem.wpAny_askSetting
def eg:=@PySem.Around.in1_units
def eh:=@Nat.testBit_zero
def ev:=@Bool.or_true
def eB:=@Nat.lt_or_ge
def eC:=@Nat.zero_testBit
def eE:=@PySem.Calls.call_function_entry
def eF:=@List.getLastD_eq_getLast?
def eG:=@List.getLast?_eq_getElem?
def eJ:=@List.getElem_of_mem
def eL:=@List.reverse_append
def eM:=@PySem.F.slot_list_append
def eN:=@PySem.F.type_list_append
def eQ:=@if_true
def eR:=@Int.natCast_nonneg
def eS:=@PySem.call_meets
def eU:=@List.getElem?_drop
def eV:=@List.getElem?_replicate
def eW:=@List.length_eq_zero_iff
def eX:=@List.pairwise_singleton
def eY:=@Bool.false_and
def eZ:=@PySem.W.cellsFrom_some
def fb:=@PySem.Calls.callWith_builtin
def fc:=@List.nodup_nil
def fe:=@List.ext_getElem?
def ff:=@List.Perm.append_right
def fg:=@Bool.eq_false_iff
def fh:=@Nat.testBit_eq_decide_div_mod_eq
def fi:=@List.flatMap_cons
def fj:=@List.length_replicate
def fk:=@PySem.F.slot_tuple_lt
def fm:=@PySem.builtinLookup_eq_fast
def fo:=@List.Pairwise.and_mem
def fq:=@beq_self_eq_true
def fr:=@PySem.wpAny_isInstance
def fw:=@PySem.Paired.length
def fz:=@List.any_cons
def fD:=@PySem.W.mg_of
def fE:=@PySem.plainId_quiet
def fH:=@PySem.wpAny_newList
def fJ:=@PyProof.Rows.wpS_get
def fK:=@PySem.wpAny_updateSeq_pair
def fO:=@List.eq_nil_of_length_eq_zero
def fQ:=@Bool.and_eq_true_iff
def fY:=@Nat.eq_of_testBit_eq
def fZ:=@PySem.wpAny_execs_nil
def ga:=@PyProof.Rows.entry_list_sort
def gb:=@Nat.testBit_and
def gc:=@List.filter_nil
def gf:=@List.countP_eq_length_filter
def gh:=@PySem.Heap.SameBut.update
def gi:=@List.getElem?_range
def gj:=@PySem.wpAny_typeOf
def gk:=@Nat.add_comm
def gm:=@Nat.lt_trans
def gn:=@PySem.F.plain_proto_collect
def gq:=@PySem.Calls.Name_function_global
def gt:=@PySem.wpAny_load
def gu:=@Int.fdiv_eq_ediv_of_nonneg
def gw:=@PySem.wpAny_newFunctionEnv_cells
def gx:=@PySem.SeqAt.EqAt.int_int
def gy:=@Nat.lt_of_le_of_lt
def gz:=@PyProof.Rows.slot_list_sort
def gA:=@PyProof.Rows.sortedHeap_old
def gB:=@PySem.tupleKind_room_in1
def gC:=@List.drop_drop
def gE:=@PyProof.Rows.wpS_lift
def gF:=@Array.toList_setIfInBounds
def gG:=@Nat.and_one_is_mod
def gH:=@List.drop_eq_getElem_cons
def gI:=@List.drop_sublist
def gJ:=@Option.some.injEq
def gK:=@List.Pairwise.and
def gL:=@List.nodup_append
def gM:=@decide_eq_true_eq
def gN:=@List.getElem?_set
def gO:=@PySem.wpAny_standAt
def gP:=@PySem.wpAny_comprehension_free
def gQ:=@PyProof.Rows.sortedHeap_at
def gR:=@PySem.wpAny_onRaise
def gS:=@Bool.false_or
def gU:=@PySem.F.slot_dict_values
def gW:=@Bool.true_and
def gX:=@List.Pairwise.imp_of_mem
def gY:=@PySem.F.args_tuple_lt_2
def gZ:=@Nat.lt_succ_self
def g6:=@List.zipIdx_cons
def g7:=@List.filter_cons_of_neg
def g8:=@List.filter_cons_of_pos
def g9:=@PySem.F.slot_list_count
def hG:=@PySem.F.type_list_count
def hV:=@List.getElem?_set_self
def hZ:=@PySem.F.entry_tuple_lt
def h8:=@List.map_nil
def h9:=@List.all_map
def ic:=@List.drop_eq_nil_of_le
def ie:=@Nat.sub_self
def ig:=@Nat.testBit_lt_two_pow
def ik:=@List.pairwise_lt_range
def im:=@Int.zero_add
def io:=@List.forIn_cons
def iq:=@PySem.typeLookup_type
def ir:=@PySem.pushCells_keeps
def iu:=@List.Perm.of_eq
def iw:=@List.range_succ
def ix:=@and_congr_right
def iy:=@List.length_singleton
def iA:=@PySem.F.slot_set_iter
def iB:=@List.set_append_right
def iC:=@Sum.inl.inj
def iE:=@List.getElem?_set_ne
def iF:=@Nat.le_succ
def iG:=@PySem.wpAny_runValue
def iH:=@PySem.isSubtype_type
def iI:=@PySem.isSubtype_stop
def iJ:=@List.forIn_nil
def iK:=@PySem.wpAny_letGo
def iL:=@PySem.wpAny_newTuple
def iM:=@Nat.pow_lt_pow_right
def iN:=@List.drop_zero
def iO:=@List.reverse_reverse
def iP:=@List.take_zero
def iQ:=@Array.getElem_toList
def iR:=@List.Pairwise.filter
def iS:=@PySem.evalArgs_none
def iT:=@PySem.W.codeHd_of_K
def iU:=@Nat.mul_le_mul_left
def iV:=@List.flatMap_append
def iW:=@Bool.not_true
def iX:=@List.map_take
def iY:=@List.sum_cons
def iZ:=@List.mem_filterMap
def i4:=@PySem.W.codeRec_of
def i5:=@Option.isSome_some
def i6:=@beq_iff_eq
def i7:=@Int.emod_lt_of_pos
def i8:=@Nat.mul_comm
def i9:=@Bool.true_or
def ja:=@Nat.add_zero
def jc:=@getElem?_pos
def jd:=@List.map_id
def jf:=@not_or
open PySem.W (codeHdIn envX findIn instObj kdl_dict keepIn kitOne kitx_dict kitx_list kla_obj lookIn methodObj mg_of mroIn plainGet tabObj)
open List (replicate)
open Nat (strongRecOn)
open Option (getD_none isSome_map)
section
namespace L2
open PySem PySem.Spec PyProof.Rows
def jF (s:Stmt):Arguments:=match s with
 | .FunctionDef _ a _ _ _ _ _ _ _ _=>a
 | _=> { posonlyargs:=[],args:=[],vararg:=none,kwonlyargs:=[],kw_defaults:=[],kwarg:=none,defaults:=[]}
def jC (s:Stmt):List Stmt:=match s with
 | .FunctionDef _ _ b _ _ _ _ _ _ _=>b
 | _=> []
def j8 (s:Stmt):Scope:=match s with
 | .FunctionDef _ _ _ _ _ _ sc _ _ _=>sc
 | _=> { kind:= .function,names:=[],isGenerator:=false,isCoroutine:=false}
end L2
end
section
namespace Eo
open PySem L2
noncomputable def top (i:Nat):Stmt:=PySem.Challenge.pw_eachonce_k13_numbers_there_and_back.main.body.getD i (.Pass ⟨0,0,0,0⟩)
abbrev jAQ:Stmt:=top 4
abbrev yE:Stmt:=top 5
abbrev jBI:Stmt:=top 6
abbrev sMask:Stmt:=top 7
abbrev sCov:Stmt:=top 9
abbrev sRank:Stmt:=top 10
abbrev kR:Stmt:=top 11
abbrev sFull:Stmt:=top 12
abbrev sAt:Stmt:=top 13
abbrev sMet:Stmt:=top 14
abbrev qI:Stmt:=top 15
abbrev qA:Stmt:=top 16
abbrev sMany:Stmt:=top 17
abbrev qB:Stmt:=top 18
abbrev jBJ:Stmt:=top 19
abbrev jBF:Stmt:=top 20
abbrev jBG:Stmt:=top 21
abbrev sNext:Stmt:=top 22
abbrev sCell:Stmt:=top 24
abbrev sPot:Stmt:=top 25
abbrev sTake:Stmt:=top 26
abbrev sLot:Stmt:=top 27
abbrev sBox:Stmt:=top 28
abbrev jBU:Stmt:=top 29
abbrev qP:Stmt:=top 30
abbrev yQ:Stmt:=top 31
abbrev sUpto:Stmt:=top 32
abbrev yF:Stmt:=top 33
abbrev jBH:Stmt:=top 34
abbrev jBE:Stmt:=top 35
abbrev sLaw:Stmt:=top 36
noncomputable def kC (x:Str)(t:Nat)(l n:Int)(a:Nat)(X Y:Value)(z:Nat)(u:Int)(v:Nat):Obj:=⟨.type "code",none, .fields #[.str x t, .str x (t+1), .str "/claim/cut.py" (t+2), .int l 0, .int n 0, .int 0 0, .int 0 0, .int 3 0, .ref a, .bool true, .int 181 0, .ref (a+1), .none,X,Y, .ref z, .int u 0, .int l 0, .str "/claim/cut.py" v],#[]⟩
noncomputable def kF (x:Str)(s:Stmt)(m:Str)(t c:Nat):Obj:=⟨.type "function",none, .func (PySem.W.fnOf x x (jF s) (jC s) (j8 s) .none .none .none (.str m t) none (.ref c) .none),#[]⟩
noncomputable def kM (P:Params):Obj:=
 let e (x:Str) (t:Nat) (v:Value):DictEntry:=⟨PyData.keyHash P x, .str x t,v⟩
 ⟨.type "dict",none, .dict #[e "__name__" 165 (.str "law_eachonce_k13_numbers_there_and_back" 373),e "__doc__" 166 (.none),e "__package__" 167 (.none),e "__loader__" 168 (.builtin "__main__.__loader__#opaque"),e "__spec__" 169 (.none),e "__annotations__" 170 (.ref 6),e "__builtins__" 171 (.ref 4),e "__file__" 173 (.str "/claim/cut.py" 172),e "__cached__" 174 (.none),e "OnceError" 206 (.ref 24),e "NoCovering" 222 (.ref 37),e "is_whole" 231 (.ref 46),e "is_rising" 237 (.ref 51),e "is_lot" 245 (.ref 58),e "mask_of" 251 (.ref 63),e "is_covering" 259 (.ref 68),e "rank_of" 270 (.ref 75),e "choices_of" 276 (.ref 80),e "full_mask" 283 (.ref 87),e "choices_at" 289 (.ref 92),e "masks_met" 302 (.ref 99),e "gathered" 308 (.ref 104),e "ways_of" 315 (.ref 111),e "many" 322 (.ref 118),e "covering_along" 328 (.ref 123),e "covering_at" 338 (.ref 130),e "place_of" 352 (.ref 137),e "number_of" 361 (.ref 144),e "next_behind" 372 (.ref 151),e "_law_cell_at" 382 (.ref 158),e "_law_pot" 392 (.ref 165),e "_law_take" 401 (.ref 172),e "_law_lot" 407 (.ref 177),e "_law_box" 413 (.ref 182),e "_law_whole" 420 (.ref 189),e "_law_same" 426 (.ref 194),e "_law_covers" 432 (.ref 199),e "_law_upto" 441 (.ref 206),e "_law_right_covering" 447 (.ref 211),e "_law_rank" 453 (.ref 216),e "_law_right" 464 (.ref 223),e "law" 470 (.ref 228)] 42,#[]⟩
noncomputable def kK (P:Params):W.Frag:=(nat_lit 3,kM P)::(nat_lit 4,⟨.type "module",some 0, .plain,#[]⟩)::(nat_lit 45,kC "is_whole" 225 7 1 40 (.ref 42) (.ref 43) 44 229 230)::(nat_lit 46,kF "is_whole" jAQ "eachonce.kinds" 223 45)::(nat_lit 50,kC "is_rising" 232 9 1 47 (.none) (.none) 49 235 236)::(nat_lit 51,kF "is_rising" yE "eachonce.kinds" 223 50)::(nat_lit 57,kC "is_lot" 238 15 2 52 (.ref 54) (.ref 55) 56 243 244)::(nat_lit 58,kF "is_lot" jBI "eachonce.kinds" 223 57)::(nat_lit 62,kC "mask_of" 246 19 1 59 (.none) (.none) 61 249 250)::(nat_lit 63,kF "mask_of" sMask "eachonce.kinds" 223 62)::(nat_lit 67,kC "is_covering" 254 22 2 64 (.none) (.none) 66 257 258)::(nat_lit 68,kF "is_covering" sCov "eachonce.coverings" 252 67)::(nat_lit 74,kC "rank_of" 260 29 2 69 (.ref 71) (.ref 72) 73 268 269)::(nat_lit 75,kF "rank_of" sRank "eachonce.coverings" 252 74)::(nat_lit 79,kC "choices_of" 271 35 1 76 (.none) (.none) 78 274 275)::(nat_lit 80,kF "choices_of" kR "eachonce.coverings" 252 79)::(nat_lit 86,kC "full_mask" 277 40 1 81 (.ref 83) (.ref 84) 85 281 282)::(nat_lit 87,kF "full_mask" sFull "eachonce.coverings" 252 86)::(nat_lit 91,kC "choices_at" 284 42 2 88 (.none) (.none) 90 287 288)::(nat_lit 92,kF "choices_at" sAt "eachonce.coverings" 252 91)::(nat_lit 98,kC "masks_met" 290 45 1 93 (.ref 95) (.ref 96) 97 300 301)::(nat_lit 99,kF "masks_met" sMet "eachonce.coverings" 252 98)::(nat_lit 103,kC "gathered" 303 57 3 100 (.none) (.none) 102 306 307)::(nat_lit 104,kF "gathered" qI "eachonce.coverings" 252 103)::(nat_lit 110,kC "ways_of" 309 66 1 105 (.ref 107) (.ref 108) 109 313 314)::(nat_lit 111,kF "ways_of" qA "eachonce.coverings" 252 110)::(nat_lit 117,kC "many" 316 68 1 112 (.ref 114) (.ref 115) 116 320 321)::(nat_lit 118,kF "many" sMany "eachonce.coverings" 252 117)::(nat_lit 122,kC "covering_along" 323 70 3 119 (.none) (.none) 121 326 327)::(nat_lit 123,kF "covering_along" qB "eachonce.coverings" 252 122)::(nat_lit 129,kC "covering_at" 329 81 2 124 (.ref 126) (.ref 127) 128 336 337)::(nat_lit 130,kF "covering_at" jBJ "eachonce.coverings" 252 129)::(nat_lit 136,kC "place_of" 339 87 3 131 (.ref 133) (.ref 134) 135 350 351)::(nat_lit 137,kF "place_of" jBF "eachonce.coverings" 252 136)::(nat_lit 143,kC "number_of" 353 98 2 138 (.ref 140) (.ref 141) 142 359 360)::(nat_lit 144,kF "number_of" jBG "eachonce.coverings" 252 143)::(nat_lit 150,kC "next_behind" 362 103 2 145 (.ref 147) (.ref 148) 149 370 371)::(nat_lit 151,kF "next_behind" sNext "eachonce.coverings" 252 150)::(nat_lit 157,kC "_law_cell_at" 375 111 2 152 (.ref 154) (.ref 155) 156 380 381)::(nat_lit 158,kF "_law_cell_at" sCell "law_eachonce_k13_numbers_there_and_back" 373 157)::(nat_lit 164,kC "_law_pot" 383 115 1 159 (.ref 161) (.ref 162) 163 390 391)::(nat_lit 165,kF "_law_pot" sPot "law_eachonce_k13_numbers_there_and_back" 373 164)::(nat_lit 171,kC "_law_take" 393 124 2 166 (.ref 168) (.ref 169) 170 399 400)::(nat_lit 172,kF "_law_take" sTake "law_eachonce_k13_numbers_there_and_back" 373 171)::(nat_lit 176,kC "_law_lot" 402 128 2 173 (.none) (.none) 175 405 406)::(nat_lit 177,kF "_law_lot" sLot "law_eachonce_k13_numbers_there_and_back" 373 176)::(nat_lit 181,kC "_law_box" 408 137 3 178 (.none) (.none) 180 411 412)::(nat_lit 182,kF "_law_box" sBox "law_eachonce_k13_numbers_there_and_back" 373 181)::(nat_lit 188,kC "_law_whole" 414 155 1 183 (.ref 185) (.ref 186) 187 418 419)::(nat_lit 189,kF "_law_whole" jBU "law_eachonce_k13_numbers_there_and_back" 373 188)::(nat_lit 193,kC "_law_same" 421 157 2 190 (.none) (.none) 192 424 425)::(nat_lit 194,kF "_law_same" qP "law_eachonce_k13_numbers_there_and_back" 373 193)::(nat_lit 198,kC "_law_covers" 427 169 2 195 (.none) (.none) 197 430 431)::(nat_lit 199,kF "_law_covers" yQ "law_eachonce_k13_numbers_there_and_back" 373 198)::(nat_lit 205,kC "_law_upto" 433 175 3 200 (.ref 202) (.ref 203) 204 439 440)::(nat_lit 206,kF "_law_upto" sUpto "law_eachonce_k13_numbers_there_and_back" 373 205)::(nat_lit 210,kC "_law_right_covering" 442 177 2 207 (.none) (.none) 209 445 446)::(nat_lit 211,kF "_law_right_covering" yF "law_eachonce_k13_numbers_there_and_back" 373 210)::(nat_lit 215,kC "_law_rank" 448 181 2 212 (.none) (.none) 214 451 452)::(nat_lit 216,kF "_law_rank" jBH "law_eachonce_k13_numbers_there_and_back" 373 215)::(nat_lit 222,kC "_law_right" 454 183 3 217 (.ref 219) (.ref 220) 221 462 463)::(nat_lit 223,kF "_law_right" jBE "law_eachonce_k13_numbers_there_and_back" 373 222)::(nat_lit 227,kC "law" 465 191 1 224 (.none) (.none) 226 468 469)::(nat_lit 228,kF "law" sLaw "law_eachonce_k13_numbers_there_and_back" 373 227)::[]
noncomputable def kA:List Addr:=[3,4,45,46,50,51,57,58,62,63,67,68,74,75,79,80,86,87,91,92,98,99,103,104,110,111,117,118,122,123,129,130,136,137,143,144,150,151,157,158,164,165,171,172,176,177,181,182,188,189,193,194,198,199,205,206,210,211,215,216,222,223,227,228]
noncomputable def vw:Program:= { PySem.Challenge.pw_eachonce_k13_numbers_there_and_back with main:= { PySem.Challenge.pw_eachonce_k13_numbers_there_and_back.main with body:=[top 1,top 2,top 4,top 5,top 6,top 7,top 9,top 10,top 11,top 12,top 13,top 14,top 15,top 16,top 17,top 18,top 19,top 20,top 21,top 22,top 24,top 25,top 26,top 27,top 28,top 29,top 30,top 31,top 32,top 33,top 34,top 35,top 36]}}
theorem kA_eq:∀ P,kA=(kK P).map (·.1):=fun _=>by kernel_rfl
noncomputable abbrev kH:PySem.W.Hook:=PySem.W.kmHook kK kA kA_eq [106]
set_option maxHeartbeats 0 in
theorem left:PySem.W.LeftO PySem.Challenge.rw_eachonce_k13_numbers_there_and_back.prog vw [] (fun s=>PySem.W.xlAt vw [] s&&PySem.W.recOk (PySem.W.RowW.records (PySem.W.OpenRow.toRowW PySem.Challenge.rw_eachonce_k13_numbers_there_and_back.row)) s) (PySem.W.Hook.obs kH) (PySem.W.Hook.val kH) 6900:=fun w=>by kernel_rfl
end Eo
end
section
namespace L2
open PySem PySem.Spec PyProof.Rows
abbrev Key:=Sum Int Str
def keyIs:Key->Value->Bool
 | .inl k,v=>Value.isInt k v
 | .inr x,v=>Value.isStrOf x v
def keyH (w:World):Key->Int
 | .inl k=>hashInt k
 | .inr x=>hashStr w x
theorem kG:∀ {k:Key}{v:Value},keyIs k v=true->(∃ i t,k=Sum.inl i/\v=Value.int i t)\/(∃ x t,k=Sum.inr x/\v=Value.str x t)
 | .inl i,v,h=>by
  obtain⟨t,e⟩:=Value.isInt_shape (k:=i) (v:=v) h
  exact .inl ⟨i,t,rfl,e⟩
 | .inr x,v,h=>by
  obtain⟨t,e⟩:=Value.isStrOf_shape (x:=x) (v:=v) h
  exact .inr ⟨x,t,rfl,e⟩
theorem jLS (i:Int)(t:Tok):keyIs (.inl i) (.int i t)=true:=by simp [keyIs,Value.isInt]
theorem jLR (x:Str)(t:Tok):keyIs (.inr x) (.str x t)=true:=by simp [keyIs,Value.isStrOf]
theorem jTZ (a b:Int):decide ((Sum.inl a:Key)=Sum.inl b)=(a==b):=by
 by_cases e:a=b
 ·subst e; simp
 ·have h:¬ (Sum.inl a:Key)=Sum.inl b:=fun q=>e (iC q)
  rw[aL h]
  exact(cf.mpr e).symm
theorem jTW (a b:Str):decide ((Sum.inr a:Key)=Sum.inr b)=decide (a=b):=by
 by_cases e:a=b
 ·subst e; simp
 ·have h:¬ (Sum.inr a:Key)=Sum.inr b:=fun q=>e (Sum.inr.inj q)
  rw[aL h,aL e]
theorem jTY (a:Int)(b:Str):decide ((Sum.inl a:Key)=Sum.inr b)=false:=aL (fun q=>nomatch q)
theorem jTX (a:Str)(b:Int):decide ((Sum.inr a:Key)=Sum.inl b)=false:=aL (fun q=>nomatch q)
noncomputable def kE (prog:Program)(w:World):PySem.KeyKind prog w Key where
 is:=keyIs
 hash:=keyH w
 inj:=fun v a b ha hb=>by
  rcases kG ha with ⟨i,t,rfl,rfl⟩ | ⟨x,t,rfl,rfl⟩
  ·rcases kG hb with ⟨j,u,rfl,e⟩ | ⟨y,u,rfl,e⟩
   ·injection e with e1 _; rw[e1]
   ·exact nomatch e
  ·rcases kG hb with ⟨j,u,rfl,e⟩ | ⟨y,u,rfl,e⟩
   ·exact nomatch e
   ·injection e with e1 _; rw[e1]
 byValue:=fun k v h=>by
  rcases kG h with ⟨i,t,rfl,rfl⟩ | ⟨x,t,rfl,rfl⟩ <;> rfl
 pyHash:=fun hv h=>by
  rcases kG hv with ⟨i,t,rfl,rfl⟩ | ⟨x,t,rfl,rfl⟩
  ·exact wpAny_pyHash_int h
  ·exact wpAny_pyHash_str h
 eqBool:=fun hu hv h=>by
  rcases kG hu with ⟨i,t,rfl,rfl⟩ | ⟨x,t,rfl,rfl⟩
  ·rcases kG hv with ⟨j,u,rfl,rfl⟩ | ⟨y,u,rfl,rfl⟩
   ·rw[jTZ] at h; exact wpAny_eqBool_int h
   ·rw[jTY] at h; exact SeqAt.EqAt.int_str i t y u _ _ _ _ h
  ·rcases kG hv with ⟨j,u,rfl,rfl⟩ | ⟨y,u,rfl,rfl⟩
   ·rw[jTX] at h; exact SeqAt.EqAt.str_int x t j u _ _ _ _ h
   ·rw[jTW] at h; exact wpAny_eqBool_str h
 «strs»:=fun k x t v h=>by
  rcases kG h with ⟨i,u,rfl,e⟩ | ⟨y,u,rfl,e⟩
  ·exact nomatch e
  ·injection e with e1 _
   subst e1
   cases v <;> rfl
theorem jHI (prog:Program)(w:World)(i:Int)(t:Tok):(kE prog w).is (.inl i) (.int i t)=true:=jLS i t
theorem jHH (prog:Program)(w:World)(x:Str)(t:Tok):(kE prog w).is (.inr x) (.str x t)=true:=jLR x t
end L2
namespace L2
open PySem PySem.Spec PyProof.Rows
inductive V where
 | non | bl (b:Bool) | int (i:Int) | str (x:Str) | byt (b:Array UInt8) | flt (b:UInt64) | ref (a:Addr) | ty (n:String)
 deriving DecidableEq
def RelV:V->Value->Prop
 | .non,u=>u=Value.none
 | .bl b,u=>u=Value.bool b
 | .int i,u=>∃ t,u=Value.int i t
 | .str x,u=>∃ t,u=Value.str x t
 | .byt b,u=>∃ t,u=Value.bytes b t
 | .flt b,u=>∃ t,u=Value.float b t
 | .ref a,u=>u=Value.ref a
 | .ty n,u=>u=Value.type n
abbrev Vals:List V->List Value->Prop:=Paired RelV
theorem Vals.length {xs:List V}{us:List Value}(r:Vals xs us):xs.length=us.length:=fw r
theorem Vals.get:∀ {xs:List V}{us:List Value}{i:Nat}{x:V},Vals xs us->xs[i]?=some x->∃ u,us[i]?=some u/\RelV x u
 | _,_,_,_, .nil,e=>by simp at e
 | _,_,0,_, .cons r _,e=>by simp at e; subst e; exact⟨_,rfl,r⟩
 | _,_,i+1,x, .cons _ t,e=>by
  obtain⟨u,h1,h2⟩:=Vals.get (i:=i) (x:=x) t (by simpa using e)
  exact⟨u,by simpa using h1,h2⟩
theorem Vals.set {x:V}{u:Value}(r:RelV x u):∀ {xs:List V}{us:List Value}(i:Nat),Vals xs us->Vals (xs.set i x) (us.set i u)
 | _,_,_, .nil=> .nil
 | _,_,0, .cons _ t=> .cons r t
 | _,_,i+1, .cons q t=> .cons q (Vals.set r i t)
theorem Vals.append:∀ {xs ys:List V}{us ws:List Value},Vals xs us->Vals ys ws->Vals (xs++ys) (us++ws)
 | _,_,_,_, .nil,s=>s
 | _,_,_,_, .cons r t,s=> .cons r (Vals.append t s)
theorem Vals.take:∀ {xs:List V}{us:List Value}(n:Nat),Vals xs us->Vals (xs.take n) (us.take n)
 | _,_,0,_=> .nil
 | _,_,_+1, .nil=> .nil
 | _,_,n+1, .cons r t=> .cons r (Vals.take n t)
theorem Vals.drop:∀ {xs:List V}{us:List Value}(n:Nat),Vals xs us->Vals (xs.drop n) (us.drop n)
 | _,_,0,r=>r
 | _,_,_+1, .nil=> .nil
 | _,_,n+1, .cons _ t=>Vals.drop n t
def RelO:Option V->Option Value->Prop
 | some v,some u=>RelV v u
 | none,none=>True
 | _,_=>False
def KV {κ:Type} :List (κ×V)->List (κ×Value)->Prop:=Paired fun (p:κ×V) (q:κ×Value)=>p.1=q.1/\RelV p.2 q.2
noncomputable def kV:Key->V
 | .inl i=> .int i
 | .inr x=> .str x
def TupO (h:Heap)(a:Addr)(items:Array Value):Prop:=∃ n,h.get? a=some { cls:= .type "tuple",data:= .seq items n}
theorem TupO.isTup {h:Heap}{a:Addr}{items:Array Value}(x:TupO h a items):IsTup h a items:=let ⟨n,e⟩:=x; ⟨_,e,rfl,n,rfl⟩
theorem TupO.new (h:Heap)(items:Array Value):TupO (h.push { cls:= .type "tuple",data:= .seq items}) h.objs.size items:=⟨0,az _ rfl⟩
inductive HO where
  | lst (xs:List V)
  | tup (xs:List V)
  | dK (kvs:List (Key×V)) | dT (kvs:List (List Key×V))
  | set (S:Int->Bool) (n:Nat)
  | ins (C dx:Addr) (fs:List (Str×V))
  | own (x:Addr)
  | xd (fs:List (Str×V))
  | met (f x:Addr)
  | rng (lo hi:Int)
  | frz (o:Obj) (u:HO)
  | tbl (ps:Array Value)
  | ext (φ:Heap->Prop)
abbrev Hp:=Addr->Option HO
def upd (H:Hp)(a:Addr)(o:HO):Hp:=fun b=>if b=a then some o else H b
theorem j6 {H:Hp}{a:Addr}{o:HO} :upd H a o a=some o:=by unfold upd; rw[aj rfl]
theorem j9 {H:Hp}{a b:Addr}{o:HO}(h:b≠a):upd H a o b=H b:=by unfold upd; rw[ai h]
theorem ne_of {H:Hp}{a b:Addr}{o u:HO}(h:H a=some o)(h':H b=some u)(d:o≠u):a≠b:=by
 intro e; subst e; rw[h] at h'; exact d (aU h')
theorem jA {H:Hp}{a b:Addr}{o:HO}(h:H a=some o)(h':H b=none):a≠b:=by
 intro e; subst e; rw[h] at h'; cases h'
section
variable (P:Program)(w:World)
def ObjOk (H:Hp)(h:Heap)(a:Addr):HO->Prop
 | .lst xs=>xs.length<=sizeLine/\∃ (its:List Value) (n:Nat),Vals xs its/\h.get? a=some { cls:= .type "list",data:= .seq its.toArray n}
 | .tup xs=>xs.length<=sizeLine/\∃ its:List Value,Vals xs its/\TupO h a its.toArray
 | .dK kvs=>kvs.length<=sizeLine/\(a==sysModules)=false/\∃ vs,KV kvs vs/\h.DictOf (kE P w) a vs
 | .dT kvs=>kvs.length<=sizeLine/\(a==sysModules)=false/\∃ xs:List (List Key×Addr×Value),
   Paired (fun (p:List Key×V) (q:List Key×Addr×Value)=>p.1=q.1/\H q.2.1=some (.tup (p.1.map kV))/\RelV p.2 q.2.2) kvs xs/\
   ∃ o es ep,h.get? a=some o/\o.ExactDict/\o.data= .dict es ep/\es.toList=xs.map (entryOfKey (tupleKind (kE P w)))/\(xs.map (·.1)).Nodup
 | .set S n=>h.SetOf (intKind P w) a S n
 | .ins C dx fs=>H dx=some (.own a)/\fs.length<=1000/\dx≠a/\h.get? a=some (instObj C dx)/\
   ∃ mA,h.Ns1 dx mA/\(∀ f,RelO (fs.lookup f) (mA f))/\PySem.Within mA (fs.map (·.1))
 | .own _=>∃ o,h.get? a=some o
 | .xd fs=>∃ mA,h.Ns1 a mA/\∀ f,RelO (fs.lookup f) (mA f)
 | .rng lo hi=>∃ t u v,h.get? a=some { cls:= .type "range",data:= .fields #[.int lo t, .int hi u, .int 1 v]}
 | .frz o u=>h.get? a=some o/\ObjOk H h a u
 | .tbl ps=>h.get? a=some { cls:= .none,data:= .fields ps}
 | .met f x=>h.get? a=some (methodObj (.ref f) (.ref x))
 | .ext φ=>φ h/\(∃ o,h.get? a=some o)/\∀ h1 h2:Heap,φ h1->(∀ o,h1.get? a=some o->h2.get? a=some o)->φ h2
def HOk (H:Hp)(h:Heap):Prop:=∀ a o,H a=some o->ObjOk P w H h a o
end
section
variable {P:Program}{w:World}{H H':Hp}{h h':Heap}{a:Addr}{o:HO}
theorem ObjOk.lt (x:ObjOk P w H h a o):a<h.objs.size:=by
 cases o with
 | lst xs=>obtain⟨_,_,_,_,e⟩:=x; exact ay e
 | tup xs=>obtain⟨_,_,_,_,e⟩:=x; exact ay e
 | dK kvs=>obtain⟨_,_,_,_,o,_,_,e,_⟩:=x; exact ay e
 | dT kvs=>obtain⟨_,_,_,_,o,_,_,e,_⟩:=x; exact ay e
 | set S n=>obtain⟨o,_,_,_,e,_⟩:=x; exact ay e
 | ins C dx fs=>obtain⟨_,_,_,e,_⟩:=x; exact ay e
 | own y=>obtain⟨_,e⟩:=x; exact ay e
 | xd fs=>obtain⟨_,⟨_,_,_,e,_⟩,_⟩:=x; exact ay e
 | rng lo hi=>obtain⟨_,_,_,e⟩:=x; exact ay e
 | frz ob u=>obtain⟨e,_⟩:=x; exact ay e
 | tbl ps=>exact ay (show h.get? a=some _ from x)
 | met f y=>exact ay (show h.get? a=some _ from x)
 | ext φ=>obtain⟨_,⟨_,e⟩,_⟩:=x; exact ay e
theorem Paired.mapP {α β:Type}{F G:α->β->Prop} :∀ {l₁:List α}{l₂:List β},Paired F l₁ l₂->(∀ a b,F a b->G a b)->Paired G l₁ l₂
 | _,_, .nil,_=> .nil
 | _,_, .cons r t,f=> .cons (f _ _ r) (Paired.mapP t f)
theorem ObjOk.stay (x:ObjOk P w H h a o)(k:∀ b u,(b=a\/H b=some (.own a))->h.get? b=some u->h'.get? b=some u)
  (ho:∀ b,H b=some (.own a)->H' b=some (.own a)) (ht:∀ b xs,H b=some (.tup xs)->H' b=some (.tup xs)):ObjOk P w H' h' a o:=by
 induction o with
 | lst xs=>obtain⟨z,its,n,r,e⟩:=x; exact⟨z,its,n,r,k _ _ (.inl rfl) e⟩
 | tup xs=>obtain⟨z,its,r,n,e⟩:=x; exact⟨z,its,r,n,k _ _ (.inl rfl) e⟩
 | dK kvs=>obtain⟨z,y,vs,r,ob,es,ep,e,c⟩:=x; exact⟨z,y,vs,r,ob,es,ep,k _ _ (.inl rfl) e,c⟩
 | dT kvs=>
  obtain⟨z,y,xs,r,ob,es,ep,e,c⟩:=x
  exact⟨z,y,xs,Paired.mapP r fun p q z=>⟨z.1,ht _ _ z.2.1,z.2.2⟩,ob,es,ep,k _ _ (.inl rfl) e,c⟩
 | set S n=>obtain⟨ob,es,ep,t,e,c⟩:=x; exact⟨ob,es,ep,t,k _ _ (.inl rfl) e,c⟩
 | ins C dx fs=>
  obtain⟨d,z,ne,e,mA,⟨od,es,ep,e2,c⟩,r⟩:=x
  exact⟨ho _ d,z,ne,k _ _ (.inl rfl) e,mA,⟨od,es,ep,k _ _ (.inr d) e2,c⟩,r⟩
 | own y=>obtain⟨ob,e⟩:=x; exact⟨ob,k _ _ (.inl rfl) e⟩
 | xd fs=>obtain⟨mA,⟨od,es,ep,e,c⟩,r⟩:=x; exact⟨mA,⟨od,es,ep,k _ _ (.inl rfl) e,c⟩,r⟩
 | rng lo hi=>obtain⟨t,u,v,e⟩:=x; exact⟨t,u,v,k _ _ (.inl rfl) e⟩
 | frz ob u ih=>obtain⟨e,q⟩:=x; exact⟨k _ _ (.inl rfl) e,ih q⟩
 | tbl ps=>
  have e:h.get? a=some { cls:= .none,data:= .fields ps} :=x
  show h'.get? a=some { cls:= .none,data:= .fields ps}
  exact k a _ (.inl rfl) e
 | met f y=>
  have e:h.get? a=some (methodObj (.ref f) (.ref y)):=x
  show h'.get? a=some (methodObj (.ref f) (.ref y))
  exact k a _ (.inl rfl) e
 | ext φ=>obtain⟨p,⟨o,e⟩,st⟩:=x; exact⟨st _ _ p fun o q=>k _ _ (.inl rfl) q,⟨o,k _ _ (.inl rfl) e⟩,st⟩
theorem HOk.lt (x:HOk P w H h)(e:H a=some o):a<h.objs.size:=(x a o e).lt
theorem HOk.fresh (x:HOk P w H h)(e:h.objs.size<=a):H a=none:=by
 cases q:H a with
 | none=>rfl
 | some u=>exact absurd (aV (x.lt q) e) (cw _)
theorem HOk.kept (x:HOk P w H h)(k:∀ b u,h.get? b=some u->h'.get? b=some u):HOk P w H h':=fun a o e=>
 (x a o e).stay (fun b u _ q=>k b u q) (fun _ q=>q) fun _ _ q=>q
theorem HOk.laid (x:HOk P w H h)(k:∀ b u,h.get? b=some u->h'.get? b=some u)(hp:h.objs.size<=a)(new:ObjOk P w (upd H a o) h' a o):HOk P w (upd H a o) h':=fun b u e=>by
 have hn:=x.fresh hp
 by_cases hb:b=a
 ·subst hb; rw[j6] at e; cases e; exact new
 ·rw[j9 hb] at e
  exact(x b u e).stay (fun c v _ q=>k c v q) (fun c q=>by rw[j9 (jA q hn)]; exact q) fun c xs q=>by rw[j9 (jA q hn)]; exact q
end
def Rd (H:Hp)(a:Addr)(u:HO):Prop:=H a=some u\/∃ o,H a=some (.frz o u)
theorem Rd.ok {P:Program}{w:World}{H:Hp}{h:Heap}{a:Addr}{u:HO}(r:Rd H a u)(x:HOk P w H h):ObjOk P w H h a u:=by
 rcases r with r | ⟨o,r⟩
 ·exact x a u r
 ·obtain⟨_,q⟩:=x a _ r
  exact q
def Mut:Option HO->Prop
 | some (.lst _)=>True
 | some (.dK _)=>True
 | some (.dT _)=>True
 | some (.set _ _)=>True
 | some (.ins _ _ _)=>True
 | some (.ext _)=>True
 | _=>False
section
variable {P:Program}{w:World}{H:Hp}{h h':Heap}{x e:Addr}{o':HO}
theorem HOk.write (ok:HOk P w H h)(mu:Mut (H x))(he:e=x\/H e=some (.own x))(k:∀ b u,b≠e->h.get? b=some u->h'.get? b=some u)(heo:∃ u,h'.get? e=some u)
  (new:ObjOk P w (upd H x o') h' x o'):HOk P w (upd H x o') h':=fun b u q=>by
 have nown:∀ c y,H c=some (.own y)->c≠x:=fun c y r z=>by subst z; rw[r] at mu; exact mu
 have ntup:∀ c xs,H c=some (.tup xs)->c≠x:=fun c xs r z=>by subst z; rw[r] at mu; exact mu
 by_cases hb:b=x
 ·subst hb; rw[j6] at q; cases q; exact new
 ·rw[j9 hb] at q
  by_cases hbe:b=e
  ·have q':H b=some (.own x):=by
    rcases he with z | z
    ·exact absurd (hbe.trans z) hb
    ·rw[hbe]; exact z
   rw[q] at q'; cases q'
   obtain⟨v,hv⟩:=heo
   exact⟨v,by rw[hbe]; exact hv⟩
  ·refine(ok b u q).stay (fun c v hc r=>k c v ?_ r) (fun c r=>by rw[j9 (nown c b r)]; exact r) fun c xs r=>by rw[j9 (ntup c xs r)]; exact r
   rcases hc with rfl | hc
   ·exact hbe
   ·rintro rfl
    rcases he with z | z
    ·exact nown c b hc z
    ·rw[hc] at z; cases z; exact hb rfl
end
structure Un (fs ex:List Addr)(H H':Hp)(h h':Heap):Prop where
 keep:∀ b o,h.get? b=some o->H b=none->b∉fs->b∉ex->h'.get? b=some o
 slot:∀ b o,h.get? b=some o->H b=none->b∈fs->b∉ex->∃ sl,h'.get? b=some { o with slots:=sl}
 free:∀ b o,h.get? b=some o->H b=none->b∉ex->H' b=none
 there:∀ b o,h.get? b=some o->b∉ex->∃ o',h'.get? b=some o'
 tups:∀ b xs,H b=some (.tup xs)->H' b=some (.tup xs)
 frzs:∀ b o u,H b=some (.frz o u)->H' b=some (.frz o u)
 tbls:∀ b ps,H b=some (.tbl ps)->∃ more,H' b=some (.tbl (ps++more))
section
variable {fs fs' ex ex':List Addr}{H H1 H2:Hp}{h h1 h2 h':Heap}{a x e:Addr}{o:HO}
theorem Un.any (u:Un fs ex H H1 h h1){b:Addr}{ob:Obj}(q:h.get? b=some ob)(n:H b=none)(hx:b∉ex):∃ sl,h1.get? b=some { ob with slots:=sl} :=by
 by_cases hb:b∈fs
 ·exact u.slot b ob q n hb hx
 ·exact⟨ob.slots,u.keep b ob q n hb hx⟩
theorem Un.kept (k:∀ b u,h.get? b=some u->h'.get? b=some u):Un fs ex H H h h':=
 ⟨fun b ob q _ _ _=>k b ob q,fun b ob q _ _ _=>⟨ob.slots,k b ob q⟩,fun _ _ _ n _=>n,fun b ob q _=>⟨ob,k b ob q⟩,fun _ _ q=>q,fun _ _ _ q=>q,fun _ ps q=>⟨#[],by rw[q]; simp⟩⟩
theorem Un.refl:Un fs ex H H h h:=Un.kept fun _ _ q=>q
theorem Un.laid (k:∀ b u,h.get? b=some u->h'.get? b=some u)(hp:h.objs.size<=a)(hn:H a=none):Un fs ex H (upd H a o) h h' where
 keep:=fun b u q _ _ _=>k b u q
 slot:=fun b u q _ _ _=>⟨u.slots,k b u q⟩
 free:=fun b u q n _=>by rw[j9 (aS (aV (ay q) hp))]; exact n
 there:=fun b u q _=>⟨u,k b u q⟩
 tups:=fun b xs q=>by rw[j9 (jA q hn)]; exact q
 frzs:=fun b u xs q=>by rw[j9 (jA q hn)]; exact q
 tbls:=fun b ps q=>⟨#[],by rw[j9 (jA q hn),q]; simp⟩
theorem Un.write (mu:Mut (H x))(he:e=x\/H e=some (.own x))(k:∀ b u,b≠e->h.get? b=some u->h'.get? b=some u)(heo:∃ u,h'.get? e=some u):Un fs ex H (upd H x o) h h':=by
 have hx:∀ b,H b=none->b≠x:=fun b n z=>by subst z; rw[n] at mu; exact mu
 have hb:∀ b,H b=none->b≠e:=fun b n z=>by
  subst z
  rcases he with r | r
  ·exact hx b n r
  ·rw[n] at r; cases r
 have hm:∀ b u,H b=some u->¬ Mut (some u)->b≠x:=fun b u q nm z=>by subst z; rw[q] at mu; exact nm mu
 refine⟨fun b u q n _ _=>k b u (hb b n) q,fun b u q n _ _=>⟨u.slots,k b u (hb b n) q⟩,fun b u q n _=>by rw[j9 (hx b n)]; exact n,fun b u q _=>?_,
  fun b xs q=>by rw[j9 (hm b _ q fun z=>z)]; exact q,fun b u xs q=>by rw[j9 (hm b _ q fun z=>z)]; exact q,fun b ps q=>⟨#[],by rw[j9 (hm b _ q fun z=>z),q]; simp⟩⟩
 by_cases hbe:b=e
 ·subst hbe; exact heo
 ·exact⟨u,k b u hbe q⟩
end
def trk (h:Heap)(H:Hp):List Addr:=(List.range h.objs.size).filter fun a=>(H a).isSome
def hidT (h:Heap)(H:Hp):Heap:=PySem.W.hideAll h (trk h H)
theorem jM6 (h:Heap)(H:Hp):(hidT h H).objs.size=h.objs.size:=PySem.W.hideAll_size _ _
theorem jOG {h:Heap}{H:Hp}{b:Addr}{o:Obj}(e:h.get? b=some o)(n:H b=none):(hidT h H).get? b=some o:=
 PySem.W.hideAll_get _ e fun hm=>by
  have q:(H b).isSome=true:=(cx.mp hm).2
  rw[n] at q; simp at q
theorem jRE {h:Heap}{H:Hp}{b:Addr}{o:Obj}(e:(hidT h H).get? b=some o):h.get? b=some o/\H b=none:=by
 have e':h.get? b=some o:=PySem.W.of_hideAll (trk h H) e
 refine⟨e',?_⟩
 cases q:H b with
 | none=>rfl
 | some x=>
  have hm:b∈trk h H:=cx.mpr ⟨bY.mpr (ay e'),by simp [q]⟩
  have z:(hidT h H).get? b=none:=PySem.W.hideAll_none (trk h H) hm
  rw[z] at e; cases e
end L2
namespace L2
open PySem PySem.Spec PyProof.Rows
structure Mod (K:W.Frag)(mg:Str->Option Value)(base:Heap):Prop where
 kin:K.In base
 glob:base.Ns mainGlobals mg
 blt:∃ mb,base.Ns builtinsNs mb/\∀ x:Str,x≠ "__name__" ->mb x=bootBuiltins x
 nolimit:base.NoLimit
structure Cx where
 prog:Program
 w:World
 K:W.Frag
 mg:Str->Option Value
 base:Heap
 A:Around
 N:List Str
 s₀:Shared
 H₀:Hp
 env:Env
 outer:List Env
 stack:List Env
 ex:List Addr
 fn:Str->Bool
 calm:Bool
 pn:List (Addr×Obj)
 xe:Value->Shared->Prop
def frs (l:List Env):List Addr:=l.filterMap (·.frame)
abbrev Cx.fs (X:Cx):List Addr:=frs X.outer
def Vis (sc:Scope)(x:Str):Prop:=sc.names.lookup x=some .local\/sc.names.lookup x=some .cell\/sc.names.lookup x=some .free
def Loc (sc:Scope)(x:Str):Prop:=sc.names.lookup x=some .local\/sc.names.lookup x=some .cell
def Look (env:Env)(h:Heap)(m:Str->Option Value)(x:Str)(u:Value):Prop:=
 (env.kindOf x=some .local/\m x=some u)\/((env.kindOf x=some .cell\/env.kindOf x=some .free)/\∃ c,env.cells.lookup x=some c/\h.IsCell c (some u))
structure Cx.Ok (X:Cx):Prop where
 mod:Mod X.K X.mg X.base
 kind:X.env.scope.kind= .function
 glob:X.env.globals=mainGlobals
 blt:X.env.builtins=builtinsNs
 above:X.s₀.heap.objs.size<=X.env.locals
 inj:∀ x y c,X.env.cells.lookup x=some c->X.env.cells.lookup y=some c->x=y
 has:∀ x,(X.env.kindOf x=some .cell\/X.env.kindOf x=some .free)->∃ c,X.env.cells.lookup x=some c
 cab:∀ x c,X.fn x=true->X.env.cells.lookup x=some c->X.s₀.heap.objs.size<=c
 hd:X.calm=true->X.A.handled=none
 frames:X.A.frames=some X.stack
 stk:X.stack=X.outer\/(X.stack=X.env::X.outer/\X.env.frame=some X.env.locals)
 exf:∀ b∈X.ex,b≠X.env.locals/\∀ x c,X.env.cells.lookup x=some c->c≠b
 bs:∀ b o,X.base.get? b=some o->X.s₀.heap.get? b=some o/\X.H₀ b=none
 bsz:X.base.objs.size<=X.s₀.heap.objs.size
 noex:∀ b o,X.base.get? b=some o->b∉X.ex
 exfs:∀ b∈X.ex,b∉X.fs
 funs:X.s₀.heap.FunFrames X.base X.outer
 frf:∀ b∈X.fs,X.H₀ b=none
structure Inv (X:Cx)(pins:List (Addr×Obj))(σ:List (Option V))(H:Hp)(s:Shared):Prop where
 ok:X.Ok
 os:s.os=X.s₀.os
 bare:AllBare s.gens
 base:Un X.fs X.ex X.H₀ H X.s₀.heap s.heap
 loc:∃ m,s.heap.Ns X.env.locals m/\∀ (i:Nat) (x:Str) (v:V),X.N[i]?=some x->σ[i]?=some (some v)->Vis X.env.scope x->∃ u,RelV v u/\Look X.env s.heap m x u
 cell:∀ x c,X.env.cells.lookup x=some c->∃ v,s.heap.IsCell c v
 free:H X.env.locals=none
 freeC:∀ x c,X.env.cells.lookup x=some c->H c=none
 pin:∀ p∈X.pn++pins,s.heap.get? p.1=some p.2/\H p.1=none/\p.1≠X.env.locals/\p.1∉X.fs/\∀ v,p.2.data≠ .cell v
 hok:HOk X.prog X.w H s.heap
 len:σ.length=X.N.length
section
variable {X:Cx}{pins:List (Addr×Obj)}{σ:List (Option V)}{H H':Hp}{s:Shared}{h':Heap}
theorem Cx.Ok.nofr (ok:X.Ok){b:Addr}{o:Obj}(e:X.base.get? b=some o):b∉X.fs:=fun hb=>by
 have:=(ok.funs.mem hb).1
 rw[e] at this; cases this
theorem Inv.bs (I:Inv X pins σ H s):∀ b o,X.base.get? b=some o->s.heap.get? b=some o/\H b=none:=fun b o e=>
 ⟨I.base.keep b o (I.ok.bs b o e).1 (I.ok.bs b o e).2 (I.ok.nofr e) (I.ok.noex b o e),I.base.free b o (I.ok.bs b o e).1 (I.ok.bs b o e).2 (I.ok.noex b o e)⟩
theorem Inv.bk (I:Inv X pins σ H s):∀ b o,X.base.get? b=some o->s.heap.get? b=some o:=fun b o e=>(I.bs b o e).1
theorem Inv.mod (I:Inv X pins σ H s):Mod X.K X.mg X.base:=I.ok.mod
theorem Inv.kIn (I:Inv X pins σ H s):X.K.In s.heap:=I.ok.mod.kin.keeps I.bk
theorem Inv.lt (I:Inv X pins σ H s):X.env.locals<s.heap.objs.size:=let ⟨_,hn,_⟩:=I.loc; hn.lt
theorem Inv.sz (I:Inv X pins σ H s):X.s₀.heap.objs.size<=s.heap.objs.size:=bv I.ok.above (cI I.lt)
theorem Inv.nofs (I:Inv X pins σ H s){a:Addr}(h:s.heap.objs.size<=a):a∉X.fs:=fun hb=>by
 obtain⟨_,o,ho,_⟩:=I.ok.funs.mem hb
 exact absurd (aV (ay ho) (bv I.sz h)) (cw _)
theorem Inv.cne (I:Inv X pins σ H s):∀ x c,X.env.cells.lookup x=some c->c≠X.env.locals:=fun x c e z=>by
 obtain⟨v,o,ho,hd⟩:=I.cell x c e
 obtain⟨m,⟨o',es,ep,ho',hd',_⟩,_⟩:=I.loc
 rw[z,ho'] at ho; cases ho; rw[hd'] at hd; cases hd
theorem Inv.funs (I:Inv X pins σ H s):s.heap.FunFrames X.base X.outer:=by
 have all:∀ (l:List Env),(∀ b∈frs l,b∈X.fs)->X.s₀.heap.FunFrames X.base l->s.heap.FunFrames X.base l:=by
  intro l
  induction l with
  | nil=>intro _ _; trivial
  | cons env r ih=>
   intro hs hl
   obtain⟨hk,⟨L,o,hf,hn,ho,hd⟩,hr⟩:=hl
   have hL:L∈X.fs:=hs L (by unfold frs; rw[cM,hf]; exact aw)
   obtain⟨sl,e⟩:=I.base.slot L o ho (I.ok.frf L hL) hL fun z=>I.ok.exfs L z hL
   exact⟨hk,⟨L,_,hf,hn,e,hd⟩,ih (fun b hb=>hs b (by unfold frs; rw[cM,hf]; exact ar _ hb)) hr⟩
 exact all X.outer (fun _ hb=>hb) I.ok.funs
theorem Inv.stack (I:Inv X pins σ H s):s.heap.FunFrames X.base X.stack:=by
 rcases I.ok.stk with e | ⟨e,hf⟩
 ·rw[e]; exact I.funs
 ·rw[e]
  obtain⟨m,hn,_⟩:=I.loc
  refine .cons (by rw[I.ok.kind]; decide) hf hn ?_ I.funs
  exact Heap.get?_none_of_le (bv I.ok.bsz I.ok.above)
theorem Inv.stkSub (I:Inv X pins σ H s):∀ b∈frs X.stack,b∈X.env.locals::X.fs:=fun b hb=>by
 rcases I.ok.stk with e | ⟨e,hf⟩
 ·rw[e] at hb; exact ar _ hb
 ·rw[e] at hb
  unfold frs at hb
  rw[cM,hf] at hb
  exact hb
theorem Inv.stkFree (I:Inv X pins σ H s):∀ b∈frs X.stack,H b=none:=fun b hb=>by
 rcases aB.mp (I.stkSub b hb) with e | hb
 ·rw[e]; exact I.free
 ·obtain⟨_,o,ho,_⟩:=I.ok.funs.mem hb
  exact I.base.free b o ho (I.ok.frf b hb) fun z=>I.ok.exfs b z hb
theorem Inv.step {g':Array GenState}{t':Nat}{d':Drawn}{ch:List Addr}(I:Inv X pins σ H s)
  (hch:∀ b∈ch,(b∈X.ex\/X.s₀.heap.objs.size<=b)/\b≠X.env.locals/\(∀ x c,X.env.cells.lookup x=some c->c≠b)/\∀ p∈X.pn++pins,p.1≠b)
  (keep:∀ b o,b≠X.env.locals->b∉X.fs->b∉ch->s.heap.get? b=some o->H b=none->h'.get? b=some o)
  (slot:∀ b o,b≠X.env.locals->b∈X.fs->b∉ch->s.heap.get? b=some o->H b=none->∃ sl,h'.get? b=some { o with slots:=sl}) (free:∀ b o,b∉ch->s.heap.get? b=some o->H b=none->H' b=none)
  (there:∀ b o,b∉ch->s.heap.get? b=some o->∃ o',h'.get? b=some o')
  (tups:∀ b xs,H b=some (.tup xs)->H' b=some (.tup xs)) (frzs:∀ b o u,H b=some (.frz o u)->H' b=some (.frz o u)) (tbls:∀ b ps,H b=some (.tbl ps)->∃ more,H' b=some (.tbl (ps++more)))
  (ns:∀ m,s.heap.Ns X.env.locals m->h'.Ns X.env.locals m) (hok:HOk X.prog X.w H' h') (hg:AllBare g'):
  Inv X pins σ H' { s with heap:=h',gens:=g',drawn:=d',toks:=t'} :=by
 have neL:∀ b o,X.s₀.heap.get? b=some o->b≠X.env.locals:=fun b o e=>aS (aV (ay e) I.ok.above)
 have neC:∀ b o,X.s₀.heap.get? b=some o->b∉X.ex->b∉ch:=fun b o e hx hb=>by
  rcases (hch b hb).1 with z | z
  ·exact hx z
  ·exact absurd (aV (ay e) z) (cw _)
 have cellK:∀ x c,X.env.cells.lookup x=some c->∀ v,s.heap.IsCell c v->h'.IsCell c v:=fun x c e v ⟨o,ho,hd⟩=>by
  have nch:c∉ch:=fun z=>(hch c z).2.2.1 x c e rfl
  by_cases hc:c∈X.fs
  ·obtain⟨sl,q⟩:=slot c o (I.cne x c e) hc nch ho (I.freeC x c e)
   exact⟨_,q,hd⟩
  ·exact⟨o,keep c o (I.cne x c e) hc nch ho (I.freeC x c e),hd⟩
 refine⟨I.ok,I.os,hg,⟨fun b o e n hb hx=>?_,fun b o e n hb hx=>?_,fun b o e n hx=>?_,fun b o e hx=>?_,fun b xs e=>tups b xs (I.base.tups b xs e),fun b o xs e=>frzs b o xs (I.base.frzs b o xs e),fun b ps e=>?_⟩,?_,fun x c e=>?_,?_,fun x c e=>?_,fun p hp=>?_,hok,I.len⟩
 ·exact keep b o (neL b o e) hb (neC b o e hx) (I.base.keep b o e n hb hx) (I.base.free b o e n hx)
 ·obtain⟨sl,e1⟩:=I.base.slot b o e n hb hx
  obtain⟨sl',e2⟩:=slot b _ (neL b o e) hb (neC b o e hx) e1 (I.base.free b o e n hx)
  exact⟨sl',e2⟩
 ·obtain⟨o',e1⟩:=I.base.there b o e hx
  exact free b o' (neC b o e hx) e1 (I.base.free b o e n hx)
 ·obtain⟨o',e1⟩:=I.base.there b o e hx
  exact there b o' (neC b o e hx) e1
 ·obtain⟨m1,e1⟩:=I.base.tbls b ps e
  obtain⟨m2,e2⟩:=tbls b _ e1
  exact⟨m1++m2,by rw[e2,Array.append_assoc]⟩
 ·obtain⟨m,hn,hl⟩:=I.loc
  refine⟨m,ns m hn,fun i x v e1 e2 e3=>?_⟩
  obtain⟨u,r,l⟩:=hl i x v e1 e2 e3
  refine⟨u,r,?_⟩
  rcases l with l | ⟨k,c,e,z⟩
  ·exact .inl l
  ·exact .inr ⟨k,c,e,cellK x c e _ z⟩
 ·obtain⟨v,z⟩:=I.cell x c e
  exact⟨v,cellK x c e v z⟩
 ·obtain⟨m,⟨o,_,_,ho,_⟩,_⟩:=I.loc
  exact free _ o (fun z=>(hch _ z).2.1 rfl) ho I.free
 ·obtain⟨v,o,ho,hd⟩:=I.cell x c e
  exact free c o (fun z=>(hch c z).2.2.1 x c e rfl) ho (I.freeC x c e)
 ·obtain⟨e,n,ne,nf,d⟩:=I.pin p hp
  have nch:p.1∉ch:=fun z=>(hch p.1 z).2.2.2 p hp rfl
  exact⟨keep p.1 p.2 ne nf nch e n,free p.1 p.2 nch e n,ne,nf,d⟩
theorem Inv.un {t':Nat}(I:Inv X pins σ H s)(u:Un X.fs [] H H' s.heap h')(hok:HOk X.prog X.w H' h'):Inv X pins σ H' { s with heap:=h',toks:=t'} :=by
 obtain⟨m,⟨o,es,ep,ho,r⟩,_⟩:=id I.loc
 obtain⟨sl,hL⟩:=u.any ho I.free (by simp)
 exact I.step (g':=s.gens) (d':=s.drawn) (ch:=[]) (fun _ z=>nomatch z) (fun b o _ hb _ e n=>u.keep b o e n hb (by simp)) (fun b o _ hb _ e n=>u.slot b o e n hb (by simp)) (fun b o _ e n=>u.free b o e n (by simp)) (fun b o _ e=>u.there b o e (by simp)) u.tups u.frzs u.tbls (fun m' hm=>by
  obtain⟨o',es',ep',ho',r'⟩:=hm
  rw[ho] at ho'; cases ho'
  exact⟨_,es',ep',hL,r'⟩) hok I.bare
theorem Inv.call {g':Array GenState}{t':Nat}{d':Drawn}{ch:List Addr}(I:Inv X pins σ H s)(u:Un (frs X.stack) ch H H' s.heap h')(hok:HOk X.prog X.w H' h')(hg:AllBare g')
  (hch:∀ b∈ch,(b∈X.ex\/X.s₀.heap.objs.size<=b)/\b≠X.env.locals/\(∀ x c,X.env.cells.lookup x=some c->c≠b)/\∀ p∈X.pn++pins,p.1≠b):
  Inv X pins σ H' { s with heap:=h',gens:=g',drawn:=d',toks:=t'} :=by
 obtain⟨m,⟨o,es,ep,ho,r⟩,_⟩:=id I.loc
 obtain⟨sl,hL⟩:=u.any ho I.free fun z=>(hch _ z).2.1 rfl
 exact I.step (ch:=ch) hch (fun b o hL hb hc e n=>u.keep b o e n (fun z=>(aB.mp (I.stkSub b z)).elim hL hb) hc) (fun b o _ _ hc e n=>u.any e n hc) (fun b o hc e n=>u.free b o e n hc) (fun b o hc e=>u.there b o e hc) u.tups u.frzs u.tbls (fun m' hm=>by
  obtain⟨o',es',ep',ho',r'⟩:=hm
  rw[ho] at ho'; cases ho'
  exact⟨_,es',ep',hL,r'⟩) hok hg
theorem Inv.turned {t':Nat}{it:Addr}(I:Inv X pins σ H s)(k:∀ b o,b≠it->s.heap.get? b=some o->h'.get? b=some o)(hn:H it=none)(hL:it≠X.env.locals)
  (h1:it∈X.ex\/X.s₀.heap.objs.size<=it) (h2:∀ x c,X.env.cells.lookup x=some c->c≠it) (h3:∀ p∈X.pn++pins,p.1≠it):Inv X pins σ H { s with heap:=h',toks:=t'} :=by
 have nit:∀ b u,H b=some u->b≠it:=fun b u e z=>by rw[z,hn] at e; cases e
 refine I.step (g':=s.gens) (d':=s.drawn) (ch:=[it]) (fun b hb=>?_) (fun b o _ _ hc e _=>k b o (fun z=>hc (by simp [z])) e) (fun b o _ _ hc e _=>⟨o.slots,k b o (fun z=>hc (by simp [z])) e⟩) (fun _ _ _ _ n=>n)
  (fun b o hc e=>⟨o,k b o (fun z=>hc (by simp [z])) e⟩) (fun _ _ e=>e) (fun _ _ _ e=>e) (fun b ps e=>⟨#[],by rw[e]; simp⟩) (fun m hm=>?_) (fun b u e=>?_) I.bare
 ·have e:b=it:=by simpa using hb
  subst e
  exact⟨h1,hL,h2,h3⟩
 ·obtain⟨o,es,ep,ho,r⟩:=hm
  exact⟨o,es,ep,k _ o (dD hL) ho,r⟩
 ·refine(I.hok b u e).stay (fun c v hc q=>k c v ?_ q) (fun _ q=>q) fun _ _ q=>q
  rcases hc with z | z
  ·rw[z]; exact nit b u e
  ·exact nit c _ z
theorem Inv.tok (I:Inv X pins σ H s)(t:Nat):Inv X pins σ H { s with toks:=t} :=I.un (h':=s.heap) (t':=t) Un.refl I.hok
theorem Inv.kept {t':Nat}(I:Inv X pins σ H s)(k:∀ b u,s.heap.get? b=some u->h'.get? b=some u):Inv X pins σ H { s with heap:=h',toks:=t'} :=I.un (Un.kept k) (I.hok.kept k)
theorem Inv.laid {a:Addr}{o:HO}{t':Nat}(I:Inv X pins σ H s)(k:∀ b u,s.heap.get? b=some u->h'.get? b=some u)(hp:s.heap.objs.size<=a)(new:ObjOk X.prog X.w (upd H a o) h' a o):
  Inv X pins σ (upd H a o) { s with heap:=h',toks:=t'} :=I.un (Un.laid k hp (I.hok.fresh hp)) (I.hok.laid k hp new)
theorem Inv.write {x e:Addr}{o:HO}{t':Nat}(I:Inv X pins σ H s)(mu:Mut (H x))(he:e=x\/H e=some (.own x))(k:∀ b u,b≠e->s.heap.get? b=some u->h'.get? b=some u)(heo:∃ u,h'.get? e=some u)
  (new:ObjOk X.prog X.w (upd H x o) h' x o):Inv X pins σ (upd H x o) { s with heap:=h',toks:=t'} :=I.un (Un.write mu he k heo) (I.hok.write mu he k heo new)
theorem Inv.pins_of {pins':List (Addr×Obj)}(I:Inv X pins σ H s)(h:∀ p∈pins',s.heap.get? p.1=some p.2/\H p.1=none/\p.1≠X.env.locals/\p.1∉X.fs/\∀ v,p.2.data≠ .cell v):Inv X pins' σ H s:=
 ⟨I.ok,I.os,I.bare,I.base,I.loc,I.cell,I.free,I.freeC,fun p hp=>(aM.mp hp).elim (fun z=>I.pin p (aX _ z)) (h p),I.hok,I.len⟩
theorem jIO {N:List Str}(hN:N.Nodup){i j:Nat}{x:Str}(a:N[i]?=some x)(b:N[j]?=some x):i=j:=by
 obtain⟨h1,e1⟩:=ag.mp a
 obtain⟨h2,e2⟩:=ag.mp b
 exact(List.getElem_inj hN).mp (e1.trans e2.symm)
theorem jFS {M:Model}{A:Around}{E:Value->Shared->Prop}{i:Nat}{x:Str}{v:V}{u:Value}{Q:Unit->Shared->Prop}(I:Inv X pins σ H s)(hN:X.N.Nodup)(hi:X.N[i]?=some x)(hx:Loc X.env.scope x)(r:RelV v u)
  (h:∀ s',Inv X pins (σ.set i (some v)) H s'->(∃ a,Heap.SameBut a s.heap s'.heap/\(a=X.env.locals\/X.env.cells.lookup x=some a))->Q () s') (hf:X.fn x=true\/X.env.scope.names.lookup x=some .local:=by first | exact .inl rfl | exact .inr rfl | assumption):wpAny M A (storeName X.env x u) Q E s:=by
 obtain⟨m,hn,hl⟩:=id I.loc
 have hcls:(X.env.scope.kind== .class || (X.env.scope.kind== .module&&X.env.locals != X.env.globals))=false:=by rw[I.ok.kind]; rfl
 have hiσ:i<σ.length:=by rw[I.len]; exact(ag.mp hi).1
 have cne:=I.cne
 have tracked:∀ {a:Addr}{h':Heap},(∃ o,s.heap.get? a=some o/\H a=none)->Heap.SameBut a s.heap h'->HOk X.prog X.w H h':=fun {a h'} ha hs b ob e=>by
  obtain⟨_,_,hfree⟩:=ha
  refine(I.hok b ob e).stay (fun c w' hc q=>(hs.2 c ?_).trans q) (fun _ q=>q) fun _ _ q=>q
  rintro rfl
  rcases hc with rfl | hc
  ·rw[hfree] at e; cases e
  ·rw[hfree] at hc; cases hc
 rcases hx with hk | hk
 ·refine wpAny_storeName_local hk hn (fun h' hn' hs=>?_) hcls
  obtain⟨oL,_,_,hoL,_⟩:=id hn
  refine h _ ⟨I.ok,I.os,I.bare,⟨fun b o e n hb hx=>?_,fun b o e n hb hx=>?_,I.base.free,fun b o e hx=>?_,I.base.tups,I.base.frzs,I.base.tbls⟩,⟨_,hn',fun j y v' e1 e2 e3=>?_⟩,fun y c e=>?_,I.free,I.freeC,fun p hp=>?_,tracked ⟨oL,hoL,I.free⟩ hs,by simpa using I.len⟩ ⟨_,hs, .inl rfl⟩
  ·exact(hs.2 b (aS (aV (ay e) I.ok.above))).trans (I.base.keep b o e n hb hx)
  ·obtain⟨sl,e1⟩:=I.base.slot b o e n hb hx
   exact⟨sl,(hs.2 b (aS (aV (ay e) I.ok.above))).trans e1⟩
  ·obtain⟨o',e1⟩:=I.base.there b o e hx
   exact⟨o',(hs.2 b (aS (aV (ay e) I.ok.above))).trans e1⟩
  ·by_cases hj:j=i
   ·subst hj
    rw[hi] at e1; cases e1
    rw[hV hiσ] at e2
    cases e2
    exact⟨u,r, .inl ⟨hk,by simp⟩⟩
   ·rw[iE (dD hj)] at e2
    obtain⟨u',r',q⟩:=hl j y v' e1 e2 e3
    refine⟨u',r',?_⟩
    rcases q with ⟨k,e⟩ | ⟨k,c,e,z⟩
    ·refine .inl ⟨k,?_⟩
     have:y≠x:=fun e=>hj (jIO hN e1 (e ▸ hi))
     simp [this,e]
    ·exact .inr ⟨k,c,e,z.sameBut hs (cne y c e)⟩
  ·obtain⟨w',z⟩:=I.cell y c e
   exact⟨w',z.sameBut hs (cne y c e)⟩
  ·obtain⟨e,n,ne,nf,d⟩:=I.pin p hp
   exact⟨(hs.2 p.1 ne).trans e,n,ne,nf,d⟩
 ·have hfn:X.fn x=true:=by
   rcases hf with z | z
   ·exact z
   ·rw[z] at hk; cases hk
  obtain⟨c,hc⟩:=I.ok.has x (.inl hk)
  obtain⟨w',z⟩:=I.cell x c hc
  refine wpAny_storeName_cell I.ok.kind hk hc z (fun h' hc' hs=>?_)
  obtain⟨oc,hoc,hocd⟩:=id z
  refine h { s with heap:=h'} ⟨I.ok,I.os,I.bare,⟨fun b o e n hb hx=>?_,fun b o e n hb hx=>?_,I.base.free,fun b o e hx=>?_,I.base.tups,I.base.frzs,I.base.tbls⟩,⟨m,hn.sameBut hs (dD (cne x c hc)),fun j y v' e1 e2 e3=>?_⟩,fun y c' e=>?_,I.free,I.freeC,fun p hp=>?_,tracked ⟨oc,hoc,I.freeC x c hc⟩ hs,by simpa using I.len⟩ ⟨c,hs, .inr hc⟩
  ·exact(hs.2 b (aS (aV (ay e) (I.ok.cab x c hfn hc)))).trans (I.base.keep b o e n hb hx)
  ·obtain⟨sl,e1⟩:=I.base.slot b o e n hb hx
   exact⟨sl,(hs.2 b (aS (aV (ay e) (I.ok.cab x c hfn hc)))).trans e1⟩
  ·obtain⟨o',e1⟩:=I.base.there b o e hx
   exact⟨o',(hs.2 b (aS (aV (ay e) (I.ok.cab x c hfn hc)))).trans e1⟩
  ·by_cases hj:j=i
   ·subst hj
    rw[hi] at e1; cases e1
    rw[hV hiσ] at e2
    cases e2
    exact⟨u,r, .inr ⟨.inl hk,c,hc,hc'⟩⟩
   ·rw[iE (dD hj)] at e2
    obtain⟨u',r',q⟩:=hl j y v' e1 e2 e3
    refine⟨u',r',?_⟩
    rcases q with q | ⟨k,c',e,z'⟩
    ·exact .inl q
    ·refine .inr ⟨k,c',e,z'.sameBut hs ?_⟩
     rintro rfl
     exact hj (jIO hN e1 (I.ok.inj _ _ _ e hc ▸ hi))
  ·by_cases hcc:c'=c
   ·subst hcc; exact⟨_,hc'⟩
   ·obtain⟨w2,z2⟩:=I.cell y c' e
    exact⟨w2,z2.sameBut hs hcc⟩
  ·obtain⟨e,n,ne,nf,d⟩:=I.pin p hp
   refine⟨(hs.2 p.1 ?_).trans e,n,ne,nf,d⟩
   intro q
   rw[q,hoc] at e
   have q':oc=p.2:=aU e
   exact d w' (by rw[<- q']; exact hocd)
theorem jEU {M:Model}{A:Around}{E:Value->Shared->Prop}{i:Nat}{x:Str}{v:V}{u:Value}{Q:Unit->Shared->Prop}(I:Inv X pins σ H s)(hN:X.N.Nodup)(hi:X.N[i]?=some x)(hx:Loc X.env.scope x)(r:RelV v u)
  (h:∀ s',Inv X pins (σ.set i (some v)) H s'->Q () s') (hf:X.fn x=true\/X.env.scope.names.lookup x=some .local:=by first | exact .inl rfl | exact .inr rfl | assumption):wpAny M A (storeName X.env x u) Q E s:=
 jFS I hN hi hx r (fun s' I' _=>h s' I') hf
theorem Inv.call' {s':Shared}{ch:List Addr}(I:Inv X pins σ H s)(ho:s'.os=s.os)(u:Un (frs X.stack) ch H H' s.heap s'.heap)(hok:HOk X.prog X.w H' s'.heap)(hg:AllBare s'.gens)
  (hch:∀ b∈ch,(b∈X.ex\/X.s₀.heap.objs.size<=b)/\b≠X.env.locals/\(∀ x c,X.env.cells.lookup x=some c->c≠b)/\∀ p∈X.pn++pins,p.1≠b):Inv X pins σ H' s':=by
 obtain⟨h',g',d',t',o'⟩:=s'
 have e:o'=s.os:=ho
 subst e
 exact I.call (g':=g') (t':=t') (d':=d') u hok hg hch
end
abbrev XK:=Value->Option Addr->Hp->Prop
abbrev St:=List (Option V)
abbrev VK:=V->Hp->Prop
abbrev TE:=St->Hp->VK->Prop
abbrev TT:=St->Hp->(Bool->Hp->Prop)->Prop
abbrev TA:=St->Hp->(List V->Hp->Prop)->Prop
structure Ends where
 nx:St->Hp->Prop
 rt:VK
 bk:St->Hp->Prop:=fun _ _=>False
 ct:St->Hp->Prop:=fun _ _=>False
abbrev TS:=Ends->St->Hp->Prop
def EP (X:Cx)(pins:List (Addr×Obj))(σ:St)(Q:VK)(u:Value)(s':Shared):Prop:=∃ v H',Inv X pins σ H' s'/\RelV v u/\Q v H'
def TP (X:Cx)(pins:List (Addr×Obj))(σ:St)(Q:Bool->Hp->Prop)(b:Bool)(s':Shared):Prop:=∃ H',Inv X pins σ H' s'/\Q b H'
def AP (X:Cx)(pins:List (Addr×Obj))(σ:St)(Q:List V->Hp->Prop)(us:List Value)(s':Shared):Prop:=∃ vs H',Inv X pins σ H' s'/\Vals vs us/\Q vs H'
def SP (X:Cx)(pins:List (Addr×Obj))(D:Ends)(f:Flow)(s':Shared):Prop:=
 match f with
 | .next=>∃ σ' H',Inv X pins σ' H' s'/\D.nx σ' H'
 | .brk=>∃ σ' H',Inv X pins σ' H' s'/\D.bk σ' H'
 | .cont=>∃ σ' H',Inv X pins σ' H' s'/\D.ct σ' H'
 | .ret u=>∃ v σ' H',Inv X pins σ' H' s'/\RelV v u/\D.rt v H'
def PE (X:Cx)(e:Expr)(t:TE):Prop:=
 ∀ (pins:List (Addr×Obj)) (s:Shared) (σ:St) (H:Hp) (Q:VK),Inv X pins σ H s->t σ H Q->wpAny (model X.prog X.w) X.A (eval e X.env) (EP X pins σ Q) X.xe s
def PT (X:Cx)(e:Expr)(t:TT):Prop:=
 ∀ (pins:List (Addr×Obj)) (s:Shared) (σ:St) (H:Hp) (Q:Bool->Hp->Prop),Inv X pins σ H s->t σ H Q->wpAny (model X.prog X.w) X.A (isTrue e X.env (eval e X.env)) (TP X pins σ Q) X.xe s
def PW (X:Cx)(e:Expr)(t:TT):Prop:=
 ∀ (whole:Sem Value) (pins:List (Addr×Obj)) (s:Shared) (σ:St) (H:Hp) (Q:Bool->Hp->Prop),Inv X pins σ H s->t σ H Q->wpAny (model X.prog X.w) X.A (isTrue e X.env whole) (TP X pins σ Q) X.xe s
theorem PW.pt {X:Cx}{e:Expr}{t:TT}(h:PW X e t):PT X e t:=h _
def PA (X:Cx)(es:List Expr)(t:TA):Prop:=
 ∀ (pos:Pos) (pins:List (Addr×Obj)) (s:Shared) (σ:St) (H:Hp) (Q:List V->Hp->Prop),Inv X pins σ H s->t σ H Q->wpAny (model X.prog X.w) X.A (spliced (backTo pos (starEach es X.env))) (AP X pins σ Q) X.xe s
def PS (X:Cx)(st:Stmt)(t:TS):Prop:=
 ∀ (pins:List (Addr×Obj)) (s:Shared) (σ:St) (H:Hp) (D:Ends),Inv X pins σ H s->t D σ H->wpAny (model X.prog X.w) X.A (exec st X.env) (SP X pins D) X.xe s
def PSs (X:Cx)(st:List Stmt)(t:TS):Prop:=
 ∀ (pins:List (Addr×Obj)) (s:Shared) (σ:St) (H:Hp) (D:Ends),Inv X pins σ H s->t D σ H->wpAny (model X.prog X.w) X.A (execs st X.env) (SP X pins D) X.xe s
theorem thn {α:Type}{t:Sem α}{Q Q':α->Shared->Prop}{M:Model}{A:Around}{E:Value->Shared->Prop}{s:Shared}(h:wpAny M A t Q E s)(hQ:∀ a s,Q a s->Q' a s):wpAny M A t Q' E s:=ck h hQ fun _ _ x=>x
end L2
namespace L2
open PySem PySem.Spec PyProof.Rows
section
variable {X:Cx}
def tVar (i:Nat):TE:=fun σ H Q=>∃ v,σ[i]?=some (some v)/\Q v H
def tC (v:V):TE:=fun _ H Q=>Q v H
theorem jKZ {i:Nat}{x:Str}{pos:Pos}(hN:X.N[i]?=some x)(hv:Vis X.env.scope x)(hd:(x==("__debug__" :Str))=false:=by decide)(hcd:(x==("__classdict__" :Str))=false:=by decide):PE X (.Name x pos) (tVar i):=by
 intro pins s σ H Q I h
 obtain⟨v,e,h⟩:=h
 obtain⟨m,hn,hl⟩:=I.loc
 obtain⟨u,r,l⟩:=hl i x v hN e hv
 have fin:EP X pins σ Q u s:=⟨v,H,I,r,h⟩
 rcases l with ⟨hk,hm⟩ | ⟨hk,c,hc,hcell⟩
 ·exact wpAny_Name (wpAny_loadName_local I.ok.kind hk hn hm fin) hd
 ·rcases hk with hk | hk
  ·exact wpAny_Name (wpAny_loadName_cell I.ok.kind hk hc hcell fin) hd
  ·exact wpAny_Name (wpAny_loadName_free I.ok.kind hk hc hcell fin hcd) hd
theorem jL {i j pos} :PE X (.Constant (.int i) j pos) (tC (.int i)):=fun _ _ _ H _ I h=>wpAny_Constant_int ⟨.int i,H,I.tok _,⟨_,rfl⟩,h⟩
theorem pe_bl {b j pos} :PE X (.Constant (.bool b) j pos) (tC (.bl b)):=fun _ _ _ H _ I h=>Constant_bool ⟨.bl b,H,I,rfl,h⟩
theorem jTC {j pos} :PE X (.Constant .none j pos) (tC .non):=fun _ _ _ H _ I h=>Constant_none ⟨.non,H,I,rfl,h⟩
def Gl (X:Cx)(x:Str):Prop:=X.env.kindOf x=some .globalImplicit
theorem jRN {E:Value->Shared->Prop}{pins:List (Addr×Obj)}{s:Shared}{σ:St}{H:Hp}{x:Str}{u:Value}{pos:Pos}{Q:Value->Shared->Prop}(I:Inv X pins σ H s)(hg:Gl X x)(hm:X.mg x=some u)(h:Q u s)
  (hd:(x==("__debug__" :Str))=false:=by decide):wpAny (model X.prog X.w) X.A (eval (.Name x pos) X.env) Q E s:=
 gq I.ok.kind hg (Calls.loadGlobal_global (by rw[I.ok.glob]; exact I.mod.glob.keeps I.bk) hm h) hd
theorem jCZ {E:Value->Shared->Prop}{pins:List (Addr×Obj)}{s:Shared}{σ:St}{H:Hp}{x:Str}{u:Value}{pos:Pos}{Q:Value->Shared->Prop}(I:Inv X pins σ H s)(hg:Gl X x)(hm:X.mg x=none)(hv:bootBuiltins x=some u)(h:Q u s)
  (hn:x≠ "__name__" :=by decide) (hd:(x==("__debug__" :Str))=false:=by decide):wpAny (model X.prog X.w) X.A (eval (.Name x pos) X.env) Q E s:=by
 obtain⟨mb,h1,h2⟩:=I.mod.blt
 exact gq I.ok.kind hg (Calls.loadGlobal_builtin (by rw[I.ok.glob]; exact I.mod.glob.keeps I.bk) hm (by rw[I.ok.blt]; exact h1.keeps I.bk) ((h2 x hn).trans hv) h) hd
theorem jQZ {x:Str}{v:V}{u:Value}{pos:Pos}(hg:Gl X x)(hm:X.mg x=none)(hv:bootBuiltins x=some u)(r:RelV v u)(hn:x≠ "__name__" :=by decide)(hd:(x==("__debug__" :Str))=false:=by decide):PE X (.Name x pos) (tC v):=
 fun _ _ _ H _ I h=>jCZ I hg hm hv ⟨v,H,I,r,h⟩ hn hd
variable {a b:Expr}{ta tb:TE}{pos:Pos}
def PC (X:Cx)(op:CmpOp)(a b:Expr)(t:TE):Prop:=
 ∀ (pins:List (Addr×Obj)) (s:Shared) (σ:St) (H:Hp) (Q:VK),Inv X pins σ H s->t σ H Q->
  wpAny (model X.prog X.w) X.A (eval a X.env) (fun v s₁=>wpAny (model X.prog X.w) X.A (eval b X.env) (fun u s₂=>wpAny (model X.prog X.w) X.A (compareOp op v u) (EP X pins σ Q) X.xe s₂) X.xe s₁) X.xe s
def tB (t:TE):TT:=fun σ H Q=>t σ H fun x H1=>∃ c,x= .bl c/\Q c H1
theorem jT2 {op:CmpOp}{t:TE}(h:PC X op a b t)(h1:behindInMarks op b=false:=by first | exact nobehind _ (by decide) (by decide) | rfl):PT X (.Compare a [op] [b] pos) (tB t):=by
 intro pins s σ H Q I hw
 refine wpAny_isTrue_Compare1 (thn (h pins s σ H _ I hw) fun v s1 h1=>thn h1 fun u s2 h2=>thn h2 fun c s3 ⟨x,H1,I1,r1,q1⟩=>?_) h1
 obtain⟨d,rfl,q⟩:=q1
 cases r1
 exact cJ ⟨H1,I1,q⟩
theorem jT0 {e:Expr}{t:TE}(h:PE X e t)(he:∀ whole,isTrue e X.env whole=(do let v <- whole; standAt e.pos; holding [v] (truthy v)):=by intro _; rfl):PT X e (tB t):=by
 intro pins s σ H Q I hw
 refine isTrue_plain (thn (h pins s σ H _ I hw) fun v s1 ⟨x,H1,I1,r1,q1⟩=>?_) (he _)
 obtain⟨d,rfl,q⟩:=q1
 cases r1
 exact cJ ⟨H1,I1,q⟩
variable {tA tB':TT}{rest:List Expr}
def tAnd (t u:TT):TT:=fun σ H Q=>t σ H fun c H1=>if c=true then u σ H1 Q else Q false H1
def tOr (t u:TT):TT:=fun σ H Q=>t σ H fun c H1=>if c=true then Q true H1 else u σ H1 Q
def tNot (t:TT):TT:=fun σ H Q=>t σ H fun c H1=>Q (!c) H1
theorem jQE (ha:PT X a tA):PW X (.BoolOp .And [a] pos) tA:=by
 intro wh pins s σ H Q I h
 refine isTrue_and (thn (ha pins s σ H Q I h) fun c s1 e=>?_)
 cases c with
 | true=>exact isTrue_and_nil e
 | false=>exact e
theorem jSY (ha:PT X a tA):PW X (.BoolOp .Or [a] pos) tA:=by
 intro wh pins s σ H Q I h
 refine isTrue_or (thn (ha pins s σ H Q I h) fun c s1 e=>?_)
 cases c with
 | false=>exact isTrue_or_nil e
 | true=>exact e
theorem jSZ (ha:PT X a tA)(hb:PW X (.BoolOp .And (b::rest) pos) tB'):PW X (.BoolOp .And (a::b::rest) pos) (tAnd tA tB'):=by
 intro wh pins s σ H Q I h
 refine isTrue_and (thn (ha pins s σ H _ I h) fun c s1 ⟨H1,I1,q1⟩=>?_)
 cases c with
 | true=>exact hb wh pins s1 σ H1 Q I1 q1
 | false=>exact⟨H1,I1,q1⟩
theorem pw_or (ha:PT X a tA)(hb:PW X (.BoolOp .Or (b::rest) pos) tB'):PW X (.BoolOp .Or (a::b::rest) pos) (tOr tA tB'):=by
 intro wh pins s σ H Q I h
 refine isTrue_or (thn (ha pins s σ H _ I h) fun c s1 ⟨H1,I1,q1⟩=>?_)
 cases c with
 | true=>exact⟨H1,I1,q1⟩
 | false=>exact hb wh pins s1 σ H1 Q I1 q1
theorem jT1 (ha:PT X a tA):PT X (.UnaryOp .Not a pos) (tNot tA):=by
 intro pins s σ H Q I h
 exact isTrue_not (ha pins s σ H (fun c H1=>Q (!c) H1) I h)
def tAndV (ta tb:TE):TE:=fun σ H Q=>ta σ H fun x H1=>∃ c,x= .bl c/\if c=true then tb σ H1 Q else Q (.bl false) H1
def tOrV (ta tb:TE):TE:=fun σ H Q=>ta σ H fun x H1=>∃ c,x= .bl c/\if c=true then Q (.bl true) H1 else tb σ H1 Q
def tNotV (ta:TE):TE:=fun σ H Q=>ta σ H fun x H1=>∃ c,x= .bl c/\Q (.bl (!c)) H1
theorem jTA {op}{t:TE}(h:PE X a t):PE X (.BoolOp op [a] pos) t:=fun pins s σ H Q I hw=>BoolOp_one (h pins s σ H Q I hw)
theorem jTF (ha:PE X a ta)(hb:PE X (.BoolOp .And (b::rest) pos) tb):PE X (.BoolOp .And (a::b::rest) pos) (tAndV ta tb):=by
 intro pins s σ H Q I h
 refine BoolOp_and (thn (ha pins s σ H _ I h) fun v s1 ⟨x,H1,I1,r1,q1⟩=>?_)
 obtain⟨c,rfl,q1⟩:=q1
 cases r1
 refine cJ ?_
 cases c with
 | true=>exact hb pins s1 σ H1 Q I1 q1
 | false=>exact⟨.bl false,H1,I1,rfl,q1⟩
theorem pe_or (ha:PE X a ta)(hb:PE X (.BoolOp .Or (b::rest) pos) tb):PE X (.BoolOp .Or (a::b::rest) pos) (tOrV ta tb):=by
 intro pins s σ H Q I h
 refine BoolOp_or (thn (ha pins s σ H _ I h) fun v s1 ⟨x,H1,I1,r1,q1⟩=>?_)
 obtain⟨c,rfl,q1⟩:=q1
 cases r1
 refine cJ ?_
 cases c with
 | false=>exact hb pins s1 σ H1 Q I1 q1
 | true=>exact⟨.bl true,H1,I1,rfl,q1⟩
theorem jTB (ha:PE X a ta):PE X (.UnaryOp .Not a pos) (tNotV ta):=by
 intro pins s σ H Q I h
 refine UnaryOp_ (thn (ha pins s σ H _ I h) fun v s1 ⟨x,H1,I1,r1,q1⟩=>?_)
 obtain⟨c,rfl,q1⟩:=q1
 cases r1
 exact not_of (cJ ⟨.bl (!c),H1,I1,rfl,q1⟩)
def tIf (t:TT)(ta tb:TE):TE:=fun σ H Q=>t σ H fun c H1=>if c=true then ta σ H1 Q else tb σ H1 Q
theorem jNQ {c:Expr}(hc:PT X c tA)(ha:PE X a ta)(hb:PE X b tb):PE X (.IfExp c a b pos) (tIf tA ta tb):=by
 intro pins s σ H Q I h
 refine wpAny_IfExp (thn (hc pins s σ H _ I h) fun d s1 ⟨H1,I1,q1⟩=>?_)
 cases d with
 | true=>exact ha pins s1 σ H1 Q I1 q1
 | false=>exact hb pins s1 σ H1 Q I1 q1
end
end L2
namespace L2
open PySem PySem.Spec PyProof.Rows
def SqL (K:W.Frag)(H:Hp)(a:Addr)(xs:List V):Prop:=
 Rd H a (.lst xs)\/
  ∃ (o:Obj) (its:Array Value) (n:Nat),K.lookup a=some o/\o.cls= .type "list" /\o.dict=none/\o.data= .seq its n/\its.size<=sizeLine/\Vals xs its.toList
def SqT (K:W.Frag)(H:Hp)(a:Addr)(xs:List V):Prop:=
 Rd H a (.tup xs)\/
  ∃ (o:Obj) (its:Array Value) (n:Nat),K.lookup a=some o/\o.cls= .type "tuple" /\o.data= .seq its n/\its.size<=sizeLine/\Vals xs its.toList
noncomputable def absV:Value->Option V
 | .none=>some .non
 | .bool b=>some (.bl b)
 | .int i _=>some (.int i)
 | .str x _=>some (.str x)
 | .bytes b _=>some (.byt b)
 | .float b _=>some (.flt b)
 | .ref a=>some (.ref a)
 | .type n=>some (.ty n)
 | _=>none
theorem RelV.abs {x:V}{u:Value}(r:RelV x u):absV u=some x:=by
 cases x with
 | non=>cases r; rfl
 | bl _=>cases r; rfl
 | int _=>obtain⟨t,rfl⟩:=r; rfl
 | str _=>obtain⟨t,rfl⟩:=r; rfl
 | byt _=>obtain⟨t,rfl⟩:=r; rfl
 | flt _=>obtain⟨t,rfl⟩:=r; rfl
 | ref _=>cases r; rfl
 | ty _=>cases r; rfl
theorem RelV.inj {x y:V}{u:Value}(r:RelV x u)(q:RelV y u):x=y:=aU (r.abs.symm.trans q.abs)
theorem Vals.inj:∀ {xs ys:List V}{us:List Value},Vals xs us->Vals ys us->xs=ys
 | _,_,_, .nil, .nil=>rfl
 | _,_,_, .cons r t, .cons r' t'=>by rw[r.inj r',Vals.inj t t']
section
variable {X:Cx}{pins:List (Addr×Obj)}{σ:St}{H:Hp}{s:Shared}{a:Addr}{xs ys:List V}
theorem SqL.of {K:W.Frag}(h:H a=some (.lst xs)):SqL K H a xs:= .inl (.inl h)
theorem SqT.of {K:W.Frag}(h:H a=some (.tup xs)):SqT K H a xs:= .inl (.inl h)
theorem Inv.list (I:Inv X pins σ H s)(h:SqL X.K H a xs):∃ its:List Value,Vals xs its/\PlainL s.heap a its.toArray/\xs.length<=sizeLine:=by
 rcases h with h | ⟨o,its,n,hk,hc,hd,hs,hz,r⟩
 ·obtain⟨z,its,n,r,e⟩:=h.ok I.hok
  exact⟨its,r,⟨_,n,e,rfl,rfl,rfl⟩,z⟩
 ·refine⟨its.toList,r,⟨o,n,I.kIn a o hk,hc,hd,by simpa using hs⟩,?_⟩
  have e:=r.length
  simp only [aG] at e
  omega
theorem Inv.tuple (I:Inv X pins σ H s)(h:SqT X.K H a xs):∃ its:List Value,Vals xs its/\IsTup s.heap a its.toArray/\xs.length<=sizeLine:=by
 rcases h with h | ⟨o,its,n,hk,hc,hs,hz,r⟩
 ·obtain⟨z,its,r,p⟩:=h.ok I.hok
  exact⟨its,r,p.isTup,z⟩
 ·refine⟨its.toList,r,⟨o,I.kIn a o hk,hc,n,by simpa using hs⟩,?_⟩
  have e:=r.length
  simp only [aG] at e
  omega
theorem Inv.list_inj (I:Inv X pins σ H s)(h:SqL X.K H a xs)(h':SqL X.K H a ys):xs=ys:=by
 obtain⟨its,r,⟨o,n,e,_,_,d⟩,_⟩:=I.list h
 obtain⟨its',r',⟨o',n',e',_,_,d'⟩,_⟩:=I.list h'
 rw[e] at e'; cases e'
 rw[d] at d'
 injection d' with d1 _
 have:its=its':=by simpa using bN Array.toList d1
 subst this
 exact r.inj r'
theorem Inv.tuple_inj (I:Inv X pins σ H s)(h:SqT X.K H a xs)(h':SqT X.K H a ys):xs=ys:=by
 obtain⟨its,r,⟨o,e,_,n,d⟩,_⟩:=I.tuple h
 obtain⟨its',r',⟨o',e',_,n',d'⟩,_⟩:=I.tuple h'
 rw[e] at e'; cases e'
 rw[d] at d'
 injection d' with d1 _
 have:its=its':=by simpa using bN Array.toList d1
 subst this
 exact r.inj r'
end
abbrev Cx.wish (X:Cx)(E:Value->Shared->Prop):Cx:= { X with xe:=E}
abbrev Cx.nox (X:Cx):Cx:=X.wish fun _ _=>False
theorem Cx.Ok.wish {X:Cx}(ok:X.Ok)(E:Value->Shared->Prop):(X.wish E).Ok:=
 ⟨ok.mod,ok.kind,ok.glob,ok.blt,ok.above,ok.inj,ok.has,ok.cab,ok.hd,ok.frames,ok.stk,ok.exf,ok.bs,ok.bsz,ok.noex,ok.exfs,ok.funs,ok.frf⟩
theorem Cx.Ok.unwish {X:Cx}{E:Value->Shared->Prop}(ok:(X.wish E).Ok):X.Ok:=
 ⟨ok.mod,ok.kind,ok.glob,ok.blt,ok.above,ok.inj,ok.has,ok.cab,ok.hd,ok.frames,ok.stk,ok.exf,ok.bs,ok.bsz,ok.noex,ok.exfs,ok.funs,ok.frf⟩
section
variable {X:Cx}{pins:List (Addr×Obj)}{σ:St}{H:Hp}{s:Shared}{E:Value->Shared->Prop}
theorem Inv.wish (I:Inv X pins σ H s)(E:Value->Shared->Prop):Inv (X.wish E) pins σ H s:=⟨I.ok.wish E,I.os,I.bare,I.base,I.loc,I.cell,I.free,I.freeC,I.pin,I.hok,I.len⟩
theorem Inv.unwish (I:Inv (X.wish E) pins σ H s):Inv X pins σ H s:=⟨I.ok.unwish,I.os,I.bare,I.base,I.loc,I.cell,I.free,I.freeC,I.pin,I.hok,I.len⟩
theorem SP.unwish {D:Ends}{f:Flow}{s':Shared}(h:SP (X.wish E) pins D f s'):SP X pins D f s':=by
 cases f with
 | next=>obtain⟨σ',H',I,q⟩:=h; exact⟨σ',H',I.unwish,q⟩
 | brk=>obtain⟨σ',H',I,q⟩:=h; exact⟨σ',H',I.unwish,q⟩
 | cont=>obtain⟨σ',H',I,q⟩:=h; exact⟨σ',H',I.unwish,q⟩
 | ret u=>obtain⟨v,σ',H',I,r,q⟩:=h; exact⟨v,σ',H',I.unwish,r,q⟩
theorem PSs.nox {st:List Stmt}{t:TS}(h:PSs X.nox st t):PSs X st t:=fun pins s σ H D I hw=>
 ck (h pins s σ H D (I.wish _) hw) (fun _ _ q=>q.unwish) fun _ _ z=>False.elim z
end
section
variable {X:Cx}{st:Stmt}{rest:List Stmt}{t u:TS}{e:Expr}{te:TE}{pos:Pos}
def tNext:TS:=fun D σ H=>D.nx σ H
def tSeq (t u:TS):TS:=fun D σ H=>t { D with nx:=u D} σ H
theorem jF0:PSs X [] tNext:=fun _ _ σ H _ I h=>fZ ⟨σ,H,I,h⟩
theorem kO (h1:PS X st t)(h2:PSs X rest u):PSs X (st::rest) (tSeq t u):=by
 intro pins s σ H D I h
 refine wpAny_execs_cons (thn (h1 pins s σ H { D with nx:=u D} I h) fun f s1 q=>?_)
 cases f with
 | next=>
  obtain⟨σ',H',I',q⟩:=q
  exact h2 pins s1 σ' H' D I' q
 | ret v=>exact q
 | brk=>exact q
 | cont=>exact q
theorem jAR (h1:PS X st t):PSs X [st] t:=by
 intro pins s σ H D I h
 refine wpAny_execs_cons (thn (h1 pins s σ H D I h) fun f s1 q=>?_)
 cases f with
 | next=>exact fZ q
 | ret v=>exact q
 | brk=>exact q
 | cont=>exact q
def jSP:TS:=fun D σ H=>D.bk σ H
theorem jIF:PS X (.Break pos) jSP:=fun _ _ σ H _ I h=>wpAny_Break ⟨σ,H,I,h⟩
theorem Inv.quiet {pins:List (Addr×Obj)}{σ:St}{H:Hp}{s:Shared}(I:Inv X pins σ H s):interactive X.env=false:=by simp [interactive,I.ok.kind]
def tDrop (te:TE):TS:=fun D σ H=>te σ H fun _ H1=>D.nx σ H1
theorem jQI (he:PE X e te)(hs:swapsWith e none pos.line X.env=pure false:=by rfl):PS X (.Expr e pos) (tDrop te):=by
 intro pins s σ H D I h
 exact wpAny_Expr_any (thn (he pins s σ H _ I h) fun v s1 ⟨x,H1,I1,r1,q1⟩=>⟨σ,H1,I1,q1⟩) I.quiet hs
def tRet (te:TE):TS:=fun D σ H=>te σ H D.rt
theorem jCV (he:PE X e te):PS X (.Return (some e) pos) (tRet te):=by
 intro pins s σ H D I h
 exact wpAny_Return_some (thn (he pins s σ H _ I h) fun v s1 ⟨x,H1,I1,r1,q1⟩=>⟨x,σ,H1,I1,r1,q1⟩)
def tIfS (c:TT)(t u:TS):TS:=fun D σ H=>c σ H fun b H1=>if b=true then t D σ H1 else u D σ H1
theorem ps_if {c:Expr}{a b:List Stmt}{tc:TT}(hc:PT X c tc)(ha:PSs X a t)(hb:PSs X b u):PS X (.If c a b pos) (tIfS tc t u):=by
 intro pins s σ H D I h
 refine wpAny_If (thn (hc pins s σ H _ I h) fun d s1 ⟨H1,I1,q1⟩=>?_)
 cases d with
 | true=>exact ha pins s1 σ H1 D I1 q1
 | false=>exact hb pins s1 σ H1 D I1 q1
end
abbrev TG:=V->St->Hp->(St->Hp->Prop)->Prop
abbrev TGs:=List V->St->Hp->(St->Hp->Prop)->Prop
def PG (X:Cx)(target:Expr)(t:TG):Prop:=
 ∀ (pins:List (Addr×Obj)) (s:Shared) (σ:St) (H:Hp) (v:V) (u:Value) (Q:St->Hp->Prop),Inv X pins σ H s->RelV v u->t v σ H Q->
  wpAny (model X.prog X.w) X.A (assign target X.env u) (fun _ s'=>∃ σ' H',Inv X pins σ' H' s'/\Q σ' H') X.xe s
def PGs (X:Cx)(ts:List Expr)(t:TGs):Prop:=
 ∀ (pins:List (Addr×Obj)) (s:Shared) (σ:St) (H:Hp) (vs:List V) (us:List Value) (Q:St->Hp->Prop),Inv X pins σ H s->Vals vs us->t vs σ H Q->
  wpAny (model X.prog X.w) X.A (assignInOrder ((assignEach ts X.env).map (·.2)) us) (fun _ s'=>∃ σ' H',Inv X pins σ' H' s'/\Q σ' H') X.xe s
abbrev TSet:=V->V->V->Hp->(Hp->Prop)->Prop
def PSet (X:Cx)(t:TSet):Prop:=
 ∀ (pins:List (Addr×Obj)) (s:Shared) (σ:St) (H:Hp) (o i v:V) (ov iv u:Value) (Q:Hp->Prop),Inv X pins σ H s->RelV o ov->RelV i iv->RelV v u->t o i v H Q->
  wpAny (model X.prog X.w) X.A (setItem ov iv u) (fun _ s'=>∃ H',Inv X pins σ H' s'/\Q H') X.xe s
abbrev TIp:=V->V->Hp->VK->Prop
def PIp (X:Cx)(op:Operator)(t:TIp):Prop:=
 ∀ (pins:List (Addr×Obj)) (s:Shared) (σ:St) (H:Hp) (x y:V) (v u:Value) (Q:VK),Inv X pins σ H s->RelV x v->RelV y u->t x y H Q->
  wpAny (model X.prog X.w) X.A (inplaceOp op v u) (EP X pins σ Q) X.xe s
section
variable {X:Cx}{pos:Pos}
def yA (i:Nat):TG:=fun v σ H Q=>Q (σ.set i (some v)) H
theorem jF1 {i:Nat}{x:Str}(hN:X.N.Nodup)(hi:X.N[i]?=some x)(hx:Loc X.env.scope x)(hf:X.fn x=true\/X.env.scope.names.lookup x=some .local:=by first | exact .inl rfl | exact .inr rfl | assumption):PG X (.Name x pos) (yA i):=by
 intro pins s σ H v u Q I r h
 exact wpAny_assign_Name (jEU I hN hi hx r (fun s' I'=>⟨_,H,I',h⟩) hf)
def gNil:TGs:=fun vs σ H Q=>vs=[]/\Q σ H
def gCons (t:TG)(u:TGs):TGs:=fun vs σ H Q=>∃ v r,vs=v::r/\t v σ H fun σ' H'=>u r σ' H' Q
theorem jQR:PGs X [] gNil:=by
 intro pins s σ H vs us Q I r h
 obtain⟨e,h⟩:=h
 subst e
 cases r
 exact assignInOrder_nil ⟨σ,H,I,h⟩
theorem jNO {e:Expr}{es:List Expr}{t:TG}{u:TGs}(h1:PG X e t)(h2:PGs X es u)
  (hs:(assignEach (e::es) X.env).map (·.2)=assign e X.env::(assignEach es X.env).map (·.2):=by rfl):PGs X (e::es) (gCons t u):=by
 intro pins s σ H vs us Q I r h
 obtain⟨v,vr,e1,h⟩:=h
 subst e1
 cases r with
 | cons r rr=>
  rw[hs]
  refine assignInOrder_cons (thn (h1 pins s σ H _ _ _ I r h) fun _ s1 ⟨σ1,H1,I1,q1⟩=>?_)
  exact h2 pins s1 σ1 H1 _ _ Q I1 rr q1
def gTup (K:W.Frag)(n:Nat)(t:TGs):TG:=fun v σ H Q=>∃ a xs,v= .ref a/\SqT K H a xs/\xs.length=n/\t xs σ H Q
theorem jT8 {es:List Expr}{k:Nat}{t:TGs}{n:Nat}(hc:X.calm=true)(h:PGs X es t)
  (hn:(assignEach es X.env).length=n:=by rfl) (hst:(assignEach es X.env).findIdx? (·.1)=none:=by rfl):PG X (.Tuple es k pos) (gTup X.K n t):=by
 intro pins s σ H v u Q I r hw
 obtain⟨a,xs,e1,hq,hl,hw⟩:=hw
 subst e1
 cases r
 obtain⟨its,rv,ht,hz⟩:=I.tuple hq
 refine assign_Tuple_tuple (I.ok.hd hc) ht (by simp [hn,<- hl,rv.length]) hst fun h' hx=>?_
 have I1:Inv X pins σ H { s with heap:=h'} :=I.kept (t':=s.toks) fun b o e=>hx b o (aS (ay e)) e
 exact h pins _ σ H xs _ Q I1 (by simpa using rv) hw
def gSub (to ti:TE)(t:TSet):TG:=fun v σ H Q=>to σ H fun o H1=>ti σ H1 fun i H2=>t o i v H2 fun H3=>Q σ H3
theorem jP8 {o i:Expr}{to ti:TE}{t:TSet}(ho:PE X o to)(hi:PE X i ti)(hs:PSet X t)
  (ha:∀ v,assign (.Subscript o i pos) X.env v=(do
   let ov <- holding [v] (eval o X.env)
   let iv <- holding [v,ov] (eval i X.env)
   standAt pos
   holding [v,ov,iv] (setItem ov iv v)
   release [v,ov,iv] []):=by intro _; rfl):PG X (.Subscript o i pos) (gSub to ti t):=by
 intro pins s σ H v u Q I r h
 rw[ha]
 refine aa (b0 (thn (ho pins s σ H _ I h) fun ov s1 ⟨x,H1,I1,r1,q1⟩=>?_))
 refine aa (b0 (thn (hi pins s1 σ H1 _ I1 q1) fun iv s2 ⟨y,H2,I2,r2,q2⟩=>?_))
 refine aa (gO (aa (b0 (thn (hs pins s2 σ H2 x y v ov iv u _ I2 r1 r2 r q2) fun _ s3 ⟨H3,I3,q3⟩=>?_))))
 exact wpAny_release ⟨σ,H3,I3,q3⟩
def tAsg (te:TE)(g:TG):TS:=fun D σ H=>te σ H fun x H1=>g x σ H1 D.nx
theorem jP7 {tg e:Expr}{te:TE}{g:TG}(he:PE X e te)(hg:PG X tg g)(hs:swapsWithSole [tg] e pos.line X.env=pure false:=by rfl)(hw:swappedStores [tg] e X.env=pure none:=by rfl)
  (h1:(assignEach [tg] X.env).map (·.2)=[assign tg X.env]:=by rfl):PS X (.Assign [tg] e pos) (tAsg te g):=by
 intro pins s σ H D I h
 refine wpAny_Assign_stores (thn (he pins s σ H _ I h) fun v s1 ⟨x,H1,I1,r1,q1⟩=>?_) hs hw
 rw[h1]
 exact thn (hg pins s1 σ H1 x v _ I1 r1 q1) fun _ s2 q=>q
theorem qC {i:Nat}{x:Str}{e:Expr}{te:TE}{pos':Pos}(hN:X.N.Nodup)(hi:X.N[i]?=some x)(hx:Loc X.env.scope x)(he:PE X e te)(hs:swapsWith e (some (.Name x pos')) pos.line X.env=pure false:=by rfl)(hf:X.fn x=true\/X.env.scope.names.lookup x=some .local:=by first | exact .inl rfl | exact .inr rfl | assumption):
  PS X (.Assign [.Name x pos'] e pos) (tAsg te (yA i)):=by
 intro pins s σ H D I h
 refine wpAny_Assign_Name (thn (he pins s σ H _ I h) fun v s1 ⟨y,H1,I1,r1,q1⟩=>?_) hs
 exact jEU I1 hN hi hx r1 (fun s2 I2=>⟨_,H1,I2,q1⟩) hf
def tAug (i:Nat)(te:TE)(ti:TIp):TS:=fun D σ H=>∃ x,σ[i]?=some (some x)/\te σ H fun y H1=>ti x y H1 fun z H2=>D.nx (σ.set i (some z)) H2
theorem jT3 {i:Nat}{x:Str}{e:Expr}{te:TE}{op:Operator}{ti:TIp}{pos':Pos}(hN:X.N.Nodup)(hi:X.N[i]?=some x)(hx:Loc X.env.scope x)(he:PE X e te)(ho:PIp X op ti)(hf:X.fn x=true\/X.env.scope.names.lookup x=some .local:=by first | exact .inl rfl | exact .inr rfl | assumption):
  PS X (.AugAssign (.Name x pos') op e pos) (tAug i te ti):=by
 intro pins s σ H D I h
 obtain⟨v,e1,h⟩:=h
 obtain⟨m,hn,hl⟩:=I.loc
 have vis:Vis X.env.scope x:=by rcases hx with k | k; exact .inl k; exact .inr (.inl k)
 obtain⟨u,r,l⟩:=hl i x v hi e1 vis
 refine wpAny_AugAssign_Name ?_
 have go:wpAny (model X.prog X.w) X.A (eval e X.env) (fun w s₂=>wpAny (model X.prog X.w) X.A (inplaceOp op u w) (fun r s₃=>wpAny (model X.prog X.w) X.A (storeName X.env x r) (fun _=>SP X pins D .next) X.xe s₃) X.xe s₂) X.xe s:=by
  refine thn (he pins s σ H _ I h) fun w s1 ⟨y,H1,I1,r1,q1⟩=>?_
  refine thn (ho pins s1 σ H1 v y u w _ I1 r r1 q1) fun z s2 ⟨zv,H2,I2,r2,q2⟩=>?_
  exact jEU I2 hN hi hx r2 (fun s3 I3=>⟨_,H2,I3,q2⟩) hf
 rcases l with ⟨hk,hm⟩ | ⟨hk,c,hc,hcell⟩
 ·exact wpAny_loadName_local I.ok.kind hk hn hm go
 ·rcases hk with hk | hk
  ·exact wpAny_loadName_cell I.ok.kind hk hc hcell go
  ·rcases hx with k | k
   ·have:X.env.scope.names.lookup x=some .free:=hk
    rw[k] at this; cases this
   ·have:X.env.scope.names.lookup x=some .free:=hk
    rw[k] at this; cases this
def ipI (f:Int->Int->Int):TIp:=fun x y H Q=>∃ i j,x= .int i/\y= .int j/\Q (.int (f i j)) H
theorem jU9:PIp X .Add (ipI fun i j=>i+j):=by
 intro pins s σ H x y v u Q I r1 r2 h
 obtain⟨i,j,e1,e2,q⟩:=h
 subst e1; subst e2
 obtain⟨t,rfl⟩:=r1
 obtain⟨t',rfl⟩:=r2
 exact iadd_int ⟨.int _,H,I.tok _,⟨_,rfl⟩,q⟩
theorem jU8:PIp X .Sub (ipI fun i j=>i - j):=by
 intro pins s σ H x y v u Q I r1 r2 h
 obtain⟨i,j,e1,e2,q⟩:=h
 subst e1; subst e2
 obtain⟨t,rfl⟩:=r1
 obtain⟨t',rfl⟩:=r2
 exact isub_int ⟨.int _,H,I.tok _,⟨_,rfl⟩,q⟩
end
section
variable {X:Cx}{pos:Pos}
def jP0 (c:TT)(tb:TS):TS:=fun D σ H=>∃ W:Nat->St->Hp->Prop,(∃ m,W m σ H)/\∀ m σ H,W m σ H->
 c σ H fun b H1=>if b=true then ∃ N:St->Hp->Prop,(∀ σ' H',N σ' H'->∃ m',m'<m/\W m' σ' H')/\tb { D with nx:=N,ct:=N,bk:=D.nx} σ H1 else D.nx σ H1
theorem jNK {c:Expr}{body:List Stmt}{tc:TT}{tb:TS}(hp:PassesOwn (model X.prog X.w) X.A X.env X.xe)(hc:PT X c tc)(hb:PSs X body tb):PS X (.While c body [] pos) (jP0 tc tb):=by
 intro pins s σ H D I h
 obtain⟨W,⟨m0,w0⟩,turn⟩:=h
 refine wpAny_While (codeAny_whileLoop (fun n s'=>∃ σ' H',Inv X pins σ' H' s'/\W n σ' H') ?_ m0 ⟨σ,H,I,w0⟩)
 rintro n s1 ⟨σ1,H1,I1,w1⟩
 refine dC hp (thn (hc pins s1 σ1 H1 _ I1 (turn n σ1 H1 w1)) fun b s2 ⟨H2,I2,q2⟩=>?_)
 cases b with
 | true=>
  obtain⟨N,hN,q2⟩:=q2
  rw[aj rfl]
  refine dC hp (thn (hb pins s2 σ1 H2 _ I2 q2) fun f s3 q3=>?_)
  cases f with
  | next=>
   obtain⟨σ3,H3,I3,n3⟩:=q3
   obtain⟨m',hm,w3⟩:=hN σ3 H3 n3
   exact⟨m',hm,σ3,H3,I3,w3⟩
  | cont=>
   obtain⟨σ3,H3,I3,n3⟩:=q3
   obtain⟨m',hm,w3⟩:=hN σ3 H3 n3
   exact⟨m',hm,σ3,H3,I3,w3⟩
  | brk=>exact q3
  | ret v=>exact q3
 | false=>
  rw[ai ah]
  exact fZ ⟨σ1,H2,I2,q2⟩
end
structure It where
 go:Nat->Hp->Prop
 yld:Nat->Hp->V->Hp->Prop
 stop:Nat->Hp->Prop
def FpOk (X:Cx)(pins:List (Addr×Obj))(H:Hp)(b:Addr):Prop:=
 H b=none/\b≠X.env.locals/\b∉X.fs/\(b∈X.ex\/X.s₀.heap.objs.size<=b)/\(∀ x c,X.env.cells.lookup x=some c->c≠b)/\∀ p∈X.pn++pins,p.1≠b
theorem Inv.fpOk {X:Cx}{pins:List (Addr×Obj)}{σ:St}{H H':Hp}{s:Shared}{b:Addr}(I:Inv X pins σ H s)(hb:s.heap.objs.size<=b)(hn:H' b=none):FpOk X pins H' b:=by
 refine⟨hn,cV (aV I.lt hb),I.nofs hb, .inr (bv I.sz hb),fun x c e z=>?_,fun p hp z=>?_⟩
 ·obtain⟨v,q⟩:=I.cell x c e
  exact absurd (aV q.lt (by rw[z]; exact hb)) (cw _)
 ·exact absurd (aV (ay (I.pin p hp).1) (by rw[z]; exact hb)) (cw _)
structure Turn (P:Program)(w:World)(K:W.Frag)(tg:Expr)(J:It)(fp:List Addr)(it:Addr)(tn:Nat->Heap->Prop):Prop where
 mem:it∈fp
 obj:∀ i h,tn i h->∀ b∈fp,∃ o,h.get? b=some o/\∀ v,o.data≠ .cell v
 keep:∀ i h h',tn i h->(∀ b∈fp,∀ o,h.get? b=some o->h'.get? b=some o)->tn i h'
 item:∀ (X:Cx),X.prog=P->X.w=w->X.K=K->X.calm=true->∀ (i:Nat) (pins:List (Addr×Obj)) (s:Shared) (σ:St) (H:Hp) (E:Value->Shared->Prop),Inv X pins σ H s->(∀ b∈fp,FpOk X pins H b)->tn i s.heap->J.go i H->
  wpAny (model P w) X.A (pyNext (.ref it)) (fun r s1=>∃ u,r=some u/\
   wpAny (model P w) X.A (letOwnedTupleGo tg (.ref it) u) (fun _ s2=>∃ x H',Inv X pins σ H' s2/\RelV x u/\J.yld i H x H'/\tn (i+1) s2.heap/\∀ b∈fp,H' b=none) E s1) E s
 done:∀ (X:Cx),X.prog=P->X.w=w->X.K=K->X.calm=true->∀ (i:Nat) (pins:List (Addr×Obj)) (s:Shared) (σ:St) (H:Hp) (E:Value->Shared->Prop),Inv X pins σ H s->(∀ b∈fp,FpOk X pins H b)->tn i s.heap->J.stop i H->
  wpAny (model P w) X.A (pyNext (.ref it)) (fun r s1=>r=none/\Inv X pins σ H s1) E s
 self:∀ (A:Around) (i:Nat) (s:Shared) (Q:Value->Shared->Prop) (E:Value->Shared->Prop),tn i s.heap->Q (.ref it) s->wpAny (model P w) A (pyIter (.ref it)) Q E s
abbrev TI:=St->Hp->(It->Hp->Prop)->Prop
def PIE (X:Cx)(pins:List (Addr×Obj))(σ:St)(tg:Expr)(R:It->Hp->Prop)(itv:Value)(s2:Shared):Prop:=
 ∃ (it:Addr) (fp:List Addr) (tn:Nat->Heap->Prop) (J:It) (H':Hp),itv= .ref it/\Inv X pins σ H' s2/\Turn X.prog X.w X.K tg J fp it tn/\tn 0 s2.heap/\(∀ b∈fp,FpOk X pins H' b)/\R J H'
def PI (X:Cx)(tg iter:Expr)(wi:TI):Prop:=
 ∀ (pins:List (Addr×Obj)) (s:Shared) (σ:St) (H:Hp) (R:It->Hp->Prop),Inv X pins σ H s->wi σ H R->
  wpAny (model X.prog X.w) X.A (eval iter X.env) (fun v s1=>wpAny (model X.prog X.w) X.A (pyIter v) (PIE X pins σ tg R) X.xe s1) X.xe s
theorem go_of {M:Model}{A:Around}{E:Value->Shared->Prop}{s:Shared}{tg:Expr}{it:Addr}{u:Value}{o:Obj}{n:String}{vs:Array Value}{Q:Unit->Shared->Prop}(ho:s.heap.get? it=some o)(hc:o.cls= .type n)(hd:o.data= .fields vs)
  (hn: ["enumerate","zip","dict_itemiterator","dict_reverseitemiterator","odict_iterator","itertools.zip_longest","itertools.pairwise"].contains n=false) (hQ:Q () s):wpAny M A (letOwnedTupleGo tg (.ref it) u) Q E s:=by
 unfold letOwnedTupleGo
 cases tg <;> first
  | exact af hQ
  | (cases u <;> first
    | exact af hQ
    | (refine aa (gt ho ?_)
       rw [hc, hd]
       show wpAny M A (if (["enumerate", "zip", "dict_itemiterator", "dict_reverseitemiterator", "odict_iterator", "itertools.zip_longest", "itertools.pairwise"].contains n && vs[0]? == some (rawInt _)) = true then _ else _) Q E s
       rw [ai (by intro h; rw [hn, eY] at h; cases h)]
       exact af hQ))
def Itl (K:W.Frag)(a:Addr):It:=
 ⟨fun i H=>∃ xs x,SqL K H a xs/\xs[i]?=some x,fun i H x H'=>H'=H/\∀ xs,SqL K H a xs->xs[i]?=some x,fun i H=>∃ xs,SqL K H a xs/\xs.length<=i⟩
def Itt (K:W.Frag)(a:Addr):It:=
 ⟨fun i H=>∃ xs x,SqT K H a xs/\xs[i]?=some x,fun i H x H'=>H'=H/\∀ xs,SqT K H a xs->xs[i]?=some x,fun i H=>∃ xs,SqT K H a xs/\xs.length<=i⟩
def Itr (lo:Int)(n:Nat):It:=⟨fun i _=>i<n,fun i H x H'=>H'=H/\x= .int (lo+i),fun i _=>n<=i⟩
theorem jKA {P:Program}{w:World}{K:W.Frag}{tg:Expr}(a it:Addr):Turn P w K tg (Itl K a) [it] it (fun i h=>h.IsListIter it a i) where
 mem:=by simp
 obj:=fun i h st b hb=>by
  have e:b=it:=by simpa using hb
  subst e
  obtain⟨o,e,c,d⟩:=st
  exact⟨o,e,fun v z=>by rw[d] at z; cases z⟩
 keep:=fun i h h' st k=>st.at fun o e=>k it (by simp) o e
 item:=by
  intro X hP hw hK hc i pins s σ H E I hf st hg
  subst hP hw hK
  obtain⟨xs,x,hq,hx⟩:=hg
  obtain⟨its,rv,p,hz⟩:=I.list hq
  obtain⟨u,hu,ru⟩:=rv.get hx
  obtain⟨f0,f1,f2,f3,f4,f5⟩:=hf it (by simp)
  refine wpAny_pyNext_list_item st p.isList (x:=u) (by simpa using hu) fun h' st' sb=>?_
  have I1:Inv X pins σ H { s with heap:=h'} :=I.turned (t':=s.toks) (fun b o hb e=>(sb.2 b hb).trans e) f0 f1 f3 f4 f5
  obtain⟨o,e,c,d⟩:=id st'
  exact⟨u,rfl,go_of (s:= { s with heap:=h'}) e c d (by decide) ⟨x,H,I1,ru,⟨rfl,fun ys hy=>by rw[I.list_inj hy hq]; exact hx⟩,st',fun b hb=>(hf b hb).1⟩⟩
 done:=by
  intro X hP hw hK hc i pins s σ H E I hf st hg
  subst hP hw hK
  obtain⟨xs,hq,hx⟩:=hg
  obtain⟨its,rv,p,hz⟩:=I.list hq
  obtain⟨f0,f1,f2,f3,f4,f5⟩:=hf it (by simp)
  have hl:=rv.length
  exact wpAny_pyNext_list_end (I.ok.hd hc) st p.isList (by simp; omega) fun h' eb=>⟨rfl,I.turned (t':=s.toks) (fun b o hb e=>eb b o hb e) f0 f1 f3 f4 f5⟩
 self:=fun _ _ _ _ _ st h=>wpAny_pyIter_listiter st h
theorem jJD {P:Program}{w:World}{K:W.Frag}{tg:Expr}(a it:Addr):Turn P w K tg (Itt K a) [it] it (fun i h=>h.IsTupleIter it a i) where
 mem:=by simp
 obj:=fun i h st b hb=>by
  have e:b=it:=by simpa using hb
  subst e
  obtain⟨o,e,c,d⟩:=st
  exact⟨o,e,fun v z=>by rw[d] at z; cases z⟩
 keep:=fun i h h' st k=>st.at fun o e=>k it (by simp) o e
 item:=by
  intro X hP hw hK hc i pins s σ H E I hf st hg
  subst hP hw hK
  obtain⟨xs,x,hq,hx⟩:=hg
  obtain⟨its,rv,p,hz⟩:=I.tuple hq
  obtain⟨u,hu,ru⟩:=rv.get hx
  obtain⟨f0,f1,f2,f3,f4,f5⟩:=hf it (by simp)
  refine wpAny_pyNext_tuple_item st (show s.heap.IsTuple a its.toArray from p) (x:=u) (by simpa using hu) fun h' st' sb=>?_
  have I1:Inv X pins σ H { s with heap:=h'} :=I.turned (t':=s.toks) (fun b o hb e=>(sb.2 b hb).trans e) f0 f1 f3 f4 f5
  obtain⟨o,e,c,d⟩:=id st'
  exact⟨u,rfl,go_of (s:= { s with heap:=h'}) e c d (by decide) ⟨x,H,I1,ru,⟨rfl,fun ys hy=>by rw[I.tuple_inj hy hq]; exact hx⟩,st',fun b hb=>(hf b hb).1⟩⟩
 done:=by
  intro X hP hw hK hc i pins s σ H E I hf st hg
  subst hP hw hK
  obtain⟨xs,hq,hx⟩:=hg
  obtain⟨its,rv,p,hz⟩:=I.tuple hq
  obtain⟨f0,f1,f2,f3,f4,f5⟩:=hf it (by simp)
  have hl:=rv.length
  exact wpAny_pyNext_tuple_end (I.ok.hd hc) st (show s.heap.IsTuple a its.toArray from p) (by simp; omega) fun h' eb=>⟨rfl,I.turned (t':=s.toks) (fun b o hb e=>eb b o hb e) f0 f1 f3 f4 f5⟩
 self:=fun _ _ _ _ _ st h=>wpAny_pyIter_tupleiter st h
theorem jJE {P:Program}{w:World}{K:W.Frag}{tg:Expr}(it:Addr)(lo:Int)(n:Nat):Turn P w K tg (Itr lo n) [it] it (fun i h=>IsRangeIter h it (lo+(i:Nat)*1) ((n:Int) - (i:Nat)) 1) where
 mem:=by simp
 obj:=fun i h st b hb=>by
  have e:b=it:=by simpa using hb
  subst e
  exact⟨_,st,fun v z=>by
   have z':Data.fields _=Data.cell v:=z
   cases z'⟩
 keep:=fun i h h' st k=>k it (by simp) _ st
 item:=by
  intro X hP hw hK hc i pins s σ H E I hf st hg
  subst hP hw hK
  obtain⟨f0,f1,f2,f3,f4,f5⟩:=hf it (by simp)
  have W:=Walks.range (prog:=X.prog) (w:=X.w) (I.ok.hd hc) it lo 1 n
  refine W.item i s _ _ hg st fun v h' tk hv st' kk=>?_
  obtain⟨t,rfl⟩:=hv
  have I1:Inv X pins σ H { s with heap:=h',toks:=tk} :=I.turned (fun b o hb e=>kk b o (by simpa using hb) e) f0 f1 f3 f4 f5
  refine⟨_,rfl,go_of (s:= { s with heap:=h',toks:=tk}) (n:= "range_iterator") st' rfl rfl (by decide) ⟨.int (lo+i),H,I1,⟨t,?_⟩,⟨rfl,rfl⟩,st',fun b hb=>(hf b hb).1⟩⟩
  rw[Int.mul_one]
 done:=by
  intro X hP hw hK hc i pins s σ H E I hf st hg
  subst hP hw hK
  obtain⟨f0,f1,f2,f3,f4,f5⟩:=hf it (by simp)
  exact wpAny_pyNext_range_end (I.ok.hd hc) st (by have:n<=i:=hg; omega) fun h' eb=>⟨rfl,I.turned (t':=s.toks) (fun b o hb e=>eb b o hb e) f0 f1 f3 f4 f5⟩
 self:=fun _ _ _ _ _ st h=>wpAny_pyIter_rangeiter st h
end L2
namespace L2
open PySem PySem.Spec PyProof.Rows
section
variable {X:Cx}{tg:Expr}
def iList (K:W.Frag)(tl:TE):TI:=fun σ H R=>tl σ H fun x H1=>∃ a,x= .ref a/\(∃ xs,SqL K H1 a xs)/\R (Itl K a) H1
def iTup (K:W.Frag)(tl:TE):TI:=fun σ H R=>tl σ H fun x H1=>∃ a,x= .ref a/\(∃ xs,SqT K H1 a xs)/\R (Itt K a) H1
theorem jQP {l:Expr}{tl:TE}(hl:PE X l tl):PI X tg l (iList X.K tl):=by
 intro pins s σ H R I h
 refine thn (hl pins s σ H _ I h) fun v s1 ⟨x,H1,I1,r1,q1⟩=>?_
 obtain⟨a,e,⟨xs,hq⟩,q⟩:=q1
 subst e
 cases r1
 obtain⟨its,rv,p,hz⟩:=I1.list hq
 refine dS p.isList ?_
 refine⟨s1.heap.objs.size,[s1.heap.objs.size],_,_,H1,rfl,I1.kept (t':=s1.toks) fun b o e=>ab _ e,jKA a _,⟨_,az _ rfl,rfl,rfl⟩,fun b hb=>?_,q⟩
 have e:b=s1.heap.objs.size:=by simpa using hb
 subst e
 exact I1.fpOk (ak _) (I1.hok.fresh (ak _))
theorem jT7 {l:Expr}{tl:TE}(hl:PE X l tl):PI X tg l (iTup X.K tl):=by
 intro pins s σ H R I h
 refine thn (hl pins s σ H _ I h) fun v s1 ⟨x,H1,I1,r1,q1⟩=>?_
 obtain⟨a,e,⟨xs,hq⟩,q⟩:=q1
 subst e
 cases r1
 obtain⟨its,rv,p,hz⟩:=I1.tuple hq
 refine wpAny_pyIter_tuple (show s1.heap.IsTuple a its.toArray from p) ?_
 refine⟨s1.heap.objs.size,[s1.heap.objs.size],_,_,H1,rfl,I1.kept (t':=s1.toks) fun b o e=>ab _ e,jJD a _,⟨_,az _ rfl,rfl,rfl⟩,fun b hb=>?_,q⟩
 have e:b=s1.heap.objs.size:=by simpa using hb
 subst e
 exact I1.fpOk (ak _) (I1.hok.fresh (ak _))
theorem jID {pins:List (Addr×Obj)}{σ:St}{H:Hp}{s:Shared}{R:It->Hp->Prop}{E:Value->Shared->Prop}{lo hi:Int}{t u v:Tok}{tk:Nat}(I:Inv X pins σ H s)(h1: -(2 ^ 62)<=lo)(h2:lo<2 ^ 62)(h3: -(2 ^ 62)<=hi)(h4:hi<2 ^ 62)
  (q:R (Itr lo (hi - lo).toNat) H):wpAny (model X.prog X.w) X.A (pyIter (.ref s.heap.objs.size)) (PIE X pins σ tg R) E { s with heap:=s.heap.push { cls:= .type "range",data:= .fields #[.int lo t, .int hi u, .int 1 v]},toks:=tk} :=by
 refine wpAny_pyIter_range (IsRange.new ..) (small_one h1 h2 h3 h4) ?_
 have I1:Inv X pins σ H { s with heap:=s.heap.push { cls:= .type "range",data:= .fields #[.int lo t, .int hi u, .int 1 v]},toks:=tk} :=I.kept fun b o e=>ab _ e
 refine⟨(s.heap.push { cls:= .type "range",data:= .fields #[.int lo t, .int hi u, .int 1 v]}).objs.size,[(s.heap.push { cls:= .type "range",data:= .fields #[.int lo t, .int hi u, .int 1 v]}).objs.size],_,_,H,rfl,
  I1.kept (t':=tk) fun b o e=>ab _ e,jJE _ lo (hi - lo).toNat,?_,fun b hb=>?_,q⟩
 ·have e1:lo+((0:Nat):Int)*1=lo:=by simp
  have e2:(((hi - lo).toNat:Nat):Int) - ((0:Nat):Int)=Builtin.Range.rangeSize lo hi 1:=by rw[rangeSize_one]; split <;> omega
  show IsRangeIter _ _ (lo+((0:Nat):Int)*1) ((((hi - lo).toNat:Nat):Int) - ((0:Nat):Int)) 1
  rw[e1,e2]
  exact az _ rfl
 ·have e:b=(s.heap.push { cls:= .type "range",data:= .fields #[.int lo t, .int hi u, .int 1 v]}).objs.size:=by simpa using hb
  subst e
  exact I1.fpOk (ak _) (I1.hok.fresh (ak _))
def iRng1 (ta:TA):TI:=fun σ H R=>ta σ H fun vs H1=>∃ j:Int,vs=[.int j]/\ -(2 ^ 62)<=j/\j<2 ^ 62/\R (Itr 0 j.toNat) H1
def iRng2 (ta:TA):TI:=fun σ H R=>ta σ H fun vs H1=>∃ i j:Int,vs=[.int i, .int j]/\(-(2 ^ 62)<=i/\i<2 ^ 62/\ -(2 ^ 62)<=j/\j<2 ^ 62)/\R (Itr i (j - i).toNat) H1
theorem jBV {a:Expr}{ta:TA}{p pos:Pos}(hg:Gl X "range")(hm:X.mg "range" =none)(ha:PA X [a] ta)(hs:starEach [a] X.env=[(false,eval a X.env)]:=by rfl):PI X tg (.Call (.Name "range" p) [a] [] pos) (iRng1 ta):=by
 intro pins s σ H R I h
 refine Call_ (jCZ I hg hm boot_range (cH (thn (ha pos pins s σ H _ I h) fun us s1 ⟨vs,H1,I1,r1,q1⟩=>?_) hs rfl))
 obtain⟨j,e,q1,q2,q⟩:=q1
 subst e
 cases r1 with
 | cons r rr=>
  cases rr
  obtain⟨t,rfl⟩:=r
  exact call_range_1 (jID I1 (by omega) (by omega) q1 q2 (by simpa using q))
theorem jKY {a b:Expr}{ta:TA}{p pos:Pos}(hg:Gl X "range")(hm:X.mg "range" =none)(ha:PA X [a,b] ta)(hs:starEach [a,b] X.env=[(false,eval a X.env),(false,eval b X.env)]:=by rfl)(hs2:starEach [b] X.env=[(false,eval b X.env)]:=by rfl):
  PI X tg (.Call (.Name "range" p) [a,b] [] pos) (iRng2 ta):=by
 intro pins s σ H R I h
 refine Call_ (jCZ I hg hm boot_range (cH (thn (ha pos pins s σ H _ I h) fun us s1 ⟨vs,H1,I1,r1,q1⟩=>?_) (by rw[hs,hs2]) (by rw[hs2]; rfl)))
 obtain⟨i,j,e,⟨q1,q2,q3,q4⟩,q⟩:=q1
 subst e
 cases r1 with
 | cons r rr=>
  cases rr with
  | cons r' rr=>
   cases rr
   obtain⟨t,rfl⟩:=r
   obtain⟨t',rfl⟩:=r'
   exact call_range_2 (jID I1 q1 q2 q3 q4 q)
def tFor (wi:TI)(g:TG)(tb:TS):TS:=fun D σ H=>wi σ H fun J H1=>∃ W:Nat->Nat->St->Hp->Prop,(∃ m,W 0 m σ H1)/\∀ i m σ H,W i m σ H->
 (J.stop i H/\D.nx σ H)\/(J.go i H/\∃ N:St->Hp->Prop,(∀ σ' H',N σ' H'->∃ m',m'<m/\W (i+1) m' σ' H')/\∀ x H',J.yld i H x H'->g x σ H' fun σ2 H2=>tb { D with nx:=N,ct:=N,bk:=D.nx} σ2 H2)
def jEJ (fp:List Addr)(h:Heap):List (Addr×Obj):=fp.filterMap fun b=>(h.get? b).map fun o=>(b,o)
theorem jAF {fp:List Addr}{h:Heap}{b:Addr}{o:Obj}(hb:b∈fp)(e:h.get? b=some o):(b,o)∈jEJ fp h:=iZ.mpr ⟨b,hb,by rw[e]; rfl⟩
theorem jL7 {fp:List Addr}{h:Heap}{p:Addr×Obj}(hp:p∈jEJ fp h):p.1∈fp/\h.get? p.1=some p.2:=by
 obtain⟨b,hb,e⟩:=iZ.mp hp
 cases q:h.get? b with
 | none=>rw[q] at e; cases e
 | some o=>
  rw[q] at e
  have e':(b,o)=p:=aU e
  subst e'
  exact⟨hb,q⟩
theorem Inv.pinned {pins:List (Addr×Obj)}{σ:St}{H:Hp}{s:Shared}{fp:List Addr}(I:Inv X pins σ H s)(hf:∀ b∈fp,FpOk X pins H b)(ho:∀ b∈fp,∃ o,s.heap.get? b=some o/\∀ v,o.data≠ .cell v):Inv X (pins++jEJ fp s.heap) σ H s:=
 I.pins_of fun p hp=>(aM.mp hp).elim (fun z=>I.pin p (aH _ z)) fun z=>by
  obtain⟨hb,e⟩:=jL7 z
  obtain⟨f0,f1,f2,_⟩:=hf p.1 hb
  obtain⟨o,e',d⟩:=ho p.1 hb
  rw[e] at e'; cases e'
  exact⟨e,f0,f1,f2,d⟩
theorem Inv.unpinned {pins pl:List (Addr×Obj)}{σ:St}{H:Hp}{s:Shared}(I:Inv X (pins++pl) σ H s):Inv X pins σ H s:=I.pins_of fun p hp=>I.pin p (aH _ (aX _ hp))
theorem jP6 {iter:Expr}{body:List Stmt}{wi:TI}{g:TG}{tb:TS}{pos:Pos}(hp:PassesOwn (model X.prog X.w) X.A X.env X.xe)(hc:X.calm=true)(hi:PI X tg iter wi)(hg:PG X tg g)(hb:PSs X body tb)
  (hs:∀ x,foldedSetIterable iter X.env x=pure x:=by intro _; rfl):PS X (.For tg iter body [] pos) (tFor wi g tb):=by
 intro pins s σ H D I h
 refine wpAny_For (thn (hi pins s σ H _ I h) fun v s1 h1=>thn h1 fun itv s2 h2=>?_) hs
 obtain⟨it,fp,tn,J,H2,e,I2,T,st2,f2,W,⟨m0,w0⟩,turn⟩:=h2
 subst e
 have stat:∀ {H':Hp},(∀ b∈fp,H' b=none)->∀ b∈fp,FpOk X pins H' b:=fun hn b hb=>⟨hn b hb,(f2 b hb).2⟩
 refine codeAny_forLoop_any (fun n s'=>∃ i σ' H',Inv X pins σ' H' s'/\tn i s'.heap/\(∀ b∈fp,H' b=none)/\W i n σ' H') ?_ m0 ⟨0,σ,H2,I2,st2,fun b hb=>(f2 b hb).1,w0⟩
 rintro n s3 ⟨i,σ3,H3,I3,st3,fr3,w3⟩
 rcases turn i n σ3 H3 w3 with ⟨stop,qn⟩ | ⟨go,N,hN,step⟩
 ·refine dC hp (thn (T.done X rfl rfl rfl hc i pins s3 σ3 H3 X.xe I3 (stat fr3) st3 stop) fun r s4 ⟨hr,I4⟩=>?_)
  subst hr
  exact fZ ⟨σ3,H3,I4,qn⟩
 ·refine dC hp (thn (T.item X rfl rfl rfl hc i pins s3 σ3 H3 X.xe I3 (stat fr3) st3 go) fun r s4 ⟨u,hr,h4⟩=>?_)
  subst hr
  refine dC hp (thn h4 fun _ s5 ⟨x,H5,I5,r5,y5,st5,fr5⟩=>?_)
  have I5':=I5.pinned (stat fr5) (T.obj _ _ st5)
  refine dC hp (thn (hg _ s5 σ3 H5 x u _ I5' r5 (step x H5 y5)) fun _ s6 ⟨σ6,H6,I6,q6⟩=>?_)
  refine dC hp (thn (hb _ s6 σ6 H6 _ I6 q6) fun f s7 q7=>?_)
  have again:∀ {σ7:St}{H7:Hp},Inv X (pins++jEJ fp s5.heap) σ7 H7 s7->N σ7 H7->∃ m,m<n/\∃ i σ' H',Inv X pins σ' H' s7/\tn i s7.heap/\(∀ b∈fp,H' b=none)/\W i m σ' H':=fun {σ7 H7} I7 n7=>by
   obtain⟨m',hm,w7⟩:=hN σ7 H7 n7
   refine⟨m',hm,i+1,σ7,H7,I7.unpinned,T.keep _ _ _ st5 fun b hb o e=>(I7.pin (b,o) (aH _ (aH _ (jAF hb e)))).1,fun b hb=>?_,w7⟩
   obtain⟨o,e,d⟩:=T.obj _ _ st5 b hb
   exact(I7.pin (b,o) (aH _ (aH _ (jAF hb e)))).2.1
  cases f with
  | next=>obtain⟨σ7,H7,I7,n7⟩:=q7; exact again I7 n7
  | cont=>obtain⟨σ7,H7,I7,n7⟩:=q7; exact again I7 n7
  | brk=>obtain⟨σ7,H7,I7,q7⟩:=q7; exact⟨σ7,H7,I7.unpinned,q7⟩
  | ret v=>obtain⟨x7,σ7,H7,I7,r7,q7⟩:=q7; exact⟨x7,σ7,H7,I7.unpinned,r7,q7⟩
end
theorem jDD {K:W.Frag}{a:Addr}{xs:List V}{g:TG}{tb:TS}{D:Ends}{σ:St}{H:Hp}(Pv:Nat->St->Hp->Prop)(h0:Pv 0 σ H)(hl:∀ i σ H,i<=xs.length->Pv i σ H->SqL K H a xs)
  (hs:∀ i x σ H,xs[i]?=some x->Pv i σ H->g x σ H fun σ2 H2=>tb { D with nx:=Pv (i+1),ct:=Pv (i+1),bk:=D.nx} σ2 H2) (hd:∀ σ H,Pv xs.length σ H->D.nx σ H):
  ∃ W:Nat->Nat->St->Hp->Prop,(∃ m,W 0 m σ H)/\∀ i m σ H,W i m σ H->
   ((Itl K a).stop i H/\D.nx σ H)\/((Itl K a).go i H/\∃ N:St->Hp->Prop,(∀ σ' H',N σ' H'->∃ m',m'<m/\W (i+1) m' σ' H')/\∀ x H',(Itl K a).yld i H x H'->g x σ H' fun σ2 H2=>tb { D with nx:=N,ct:=N,bk:=D.nx} σ2 H2):=by
 refine⟨fun i m σ H=>m=xs.length - i/\i<=xs.length/\Pv i σ H,⟨xs.length,by simp,bb _,h0⟩,?_⟩
 rintro i m σ H ⟨rfl,hi,p⟩
 have q:=hl i σ H hi p
 by_cases hlt:i<xs.length
 ·refine .inr ⟨⟨xs,xs[i],q,by simp [hlt]⟩,Pv (i+1),fun σ' H' p'=>⟨xs.length - (i+1),by omega,rfl,hlt,p'⟩,fun x H' y=>?_⟩
  obtain⟨e,y⟩:=y
  subst e
  exact hs i x σ _ (y xs q) p
 ·have e:i=xs.length:=by omega
  subst e
  exact .inl ⟨⟨xs,q,ak _⟩,hd σ H p⟩
theorem jHR {K:W.Frag}{a:Addr}{xs:List V}{g:TG}{tb:TS}{D:Ends}{σ:St}{H:Hp}(Pv:Nat->St->Hp->Prop)(h0:Pv 0 σ H)(hl:∀ i σ H,i<=xs.length->Pv i σ H->SqT K H a xs)
  (hs:∀ i x σ H,xs[i]?=some x->Pv i σ H->g x σ H fun σ2 H2=>tb { D with nx:=Pv (i+1),ct:=Pv (i+1),bk:=D.nx} σ2 H2) (hd:∀ σ H,Pv xs.length σ H->D.nx σ H):
  ∃ W:Nat->Nat->St->Hp->Prop,(∃ m,W 0 m σ H)/\∀ i m σ H,W i m σ H->
   ((Itt K a).stop i H/\D.nx σ H)\/((Itt K a).go i H/\∃ N:St->Hp->Prop,(∀ σ' H',N σ' H'->∃ m',m'<m/\W (i+1) m' σ' H')/\∀ x H',(Itt K a).yld i H x H'->g x σ H' fun σ2 H2=>tb { D with nx:=N,ct:=N,bk:=D.nx} σ2 H2):=by
 refine⟨fun i m σ H=>m=xs.length - i/\i<=xs.length/\Pv i σ H,⟨xs.length,by simp,bb _,h0⟩,?_⟩
 rintro i m σ H ⟨rfl,hi,p⟩
 have q:=hl i σ H hi p
 by_cases hlt:i<xs.length
 ·refine .inr ⟨⟨xs,xs[i],q,by simp [hlt]⟩,Pv (i+1),fun σ' H' p'=>⟨xs.length - (i+1),by omega,rfl,hlt,p'⟩,fun x H' y=>?_⟩
  obtain⟨e,y⟩:=y
  subst e
  exact hs i x σ _ (y xs q) p
 ·have e:i=xs.length:=by omega
  subst e
  exact .inl ⟨⟨xs,q,ak _⟩,hd σ H p⟩
theorem jAN {lo:Int}{n:Nat}{g:TG}{tb:TS}{D:Ends}{σ:St}{H:Hp}(Pv:Nat->St->Hp->Prop)(h0:Pv 0 σ H)
  (hs:∀ i σ H,i<n->Pv i σ H->g (.int (lo+i)) σ H fun σ2 H2=>tb { D with nx:=Pv (i+1),ct:=Pv (i+1),bk:=D.nx} σ2 H2) (hd:∀ σ H,Pv n σ H->D.nx σ H):
  ∃ W:Nat->Nat->St->Hp->Prop,(∃ m,W 0 m σ H)/\∀ i m σ H,W i m σ H->
   ((Itr lo n).stop i H/\D.nx σ H)\/((Itr lo n).go i H/\∃ N:St->Hp->Prop,(∀ σ' H',N σ' H'->∃ m',m'<m/\W (i+1) m' σ' H')/\∀ x H',(Itr lo n).yld i H x H'->g x σ H' fun σ2 H2=>tb { D with nx:=N,ct:=N,bk:=D.nx} σ2 H2):=by
 refine⟨fun i m σ H=>m=n - i/\i<=n/\Pv i σ H,⟨n,by simp,bb _,h0⟩,?_⟩
 rintro i m σ H ⟨rfl,hi,p⟩
 by_cases hlt:i<n
 ·refine .inr ⟨hlt,Pv (i+1),fun σ' H' p'=>⟨n - (i+1),by omega,rfl,hlt,p'⟩,fun x H' y=>?_⟩
  obtain⟨e,y⟩:=y
  subst e y
  exact hs i σ _ hlt p
 ·have e:i=n:=by omega
  subst e
  exact .inl ⟨ak _,hd σ H p⟩
end L2
namespace L2
open PySem PySem.Spec PyProof.Rows
abbrev R2:=V->V->Hp->VK->Prop
def OpR (X:Cx)(f:Value->Value->Sem Value)(r:R2):Prop:=
 ∀ (pins:List (Addr×Obj)) (s:Shared) (σ:St) (H:Hp) (x y:V) (v u:Value) (Q:VK),Inv X pins σ H s->RelV x v->RelV y u->r x y H Q->
  wpAny (model X.prog X.w) X.A (f v u) (EP X pins σ Q) X.xe s
def UnR (X:Cx)(f:Value->Sem Value)(r:V->Hp->VK->Prop):Prop:=
 ∀ (pins:List (Addr×Obj)) (s:Shared) (σ:St) (H:Hp) (x:V) (v:Value) (Q:VK),Inv X pins σ H s->RelV x v->r x H Q->
  wpAny (model X.prog X.w) X.A (f v) (EP X pins σ Q) X.xe s
def yO (X:Cx)(f:Value)(r:List V->Hp->VK->Prop):Prop:=
 ∀ (pins:List (Addr×Obj)) (s:Shared) (σ:St) (H:Hp) (xs:List V) (us:List Value) (Q:VK),Inv X pins σ H s->Vals xs us->r xs H Q->
  wpAny (model X.prog X.w) X.A (call f us) (EP X pins σ Q) X.xe s
def tOp (r:R2)(ta tb:TE):TE:=fun σ H Q=>ta σ H fun x H1=>tb σ H1 fun y H2=>r x y H2 Q
def tUn (r:V->Hp->VK->Prop)(ta:TE):TE:=fun σ H Q=>ta σ H fun x H1=>r x H1 Q
def rI (C:Int->Int->Prop)(g:Int->Int->V):R2:=fun x y H Q=>∃ i j,x= .int i/\y= .int j/\C i j/\Q (g i j) H
def rI0 (g:Int->Int->V):R2:=fun x y H Q=>∃ i j,x= .int i/\y= .int j/\Q (g i j) H
def rU (g:Int->V):V->Hp->VK->Prop:=fun x H Q=>∃ i,x= .int i/\Q (g i) H
section
variable {X:Cx}{a b c:Expr}{ta tb tc:TE}{pos:Pos}
theorem binT (ha:PE X a ta)(hb:PE X b tb){pins:List (Addr×Obj)}{s:Shared}{σ:St}{H:Hp}{R:V->V->Hp->Prop}(I:Inv X pins σ H s)
  (h:ta σ H fun x H1=>tb σ H1 fun y H2=>R x y H2) {Q:Value->Shared->Prop}{f:Value->Value->Sem Value}
  (hf:∀ v u s2 x y H2,Inv X pins σ H2 s2->RelV x v->RelV y u->R x y H2->wpAny (model X.prog X.w) X.A (f v u) Q X.xe s2):
  wpAny (model X.prog X.w) X.A (eval a X.env) (fun v s₁=>wpAny (model X.prog X.w) X.A (eval b X.env) (fun u s₂=>wpAny (model X.prog X.w) X.A (f v u) Q X.xe s₂) X.xe s₁) X.xe s:=by
 refine thn (ha pins s σ H _ I h) fun v s1 ⟨x,H1,I1,r1,q1⟩=>?_
 refine thn (hb pins s1 σ H1 _ I1 q1) fun u s2 ⟨y,H2,I2,r2,q2⟩=>?_
 exact hf v u s2 x y H2 I2 r1 r2 q2
theorem kI {op:Operator}{r:R2}(ho:OpR X (binaryOp op) r)(ha:PE X a ta)(hb:PE X b tb):PE X (.BinOp a op b pos) (tOp r ta tb):=by
 intro pins s σ H Q I h
 exact wpAny_BinOp (binT ha hb I h fun v u s2 x y H2 I2 rx ry q=>ho pins s2 σ H2 x y v u Q I2 rx ry q)
theorem pe_un {op:UnaryOp}{r:V->Hp->VK->Prop}(ho:UnR X (unaryOp op) r)(ha:PE X a ta):PE X (.UnaryOp op a pos) (tUn r ta):=by
 intro pins s σ H Q I h
 exact UnaryOp_ (thn (ha pins s σ H _ I h) fun v s1 ⟨x,H1,I1,r1,q1⟩=>ho pins s1 σ H1 x v Q I1 r1 q1)
theorem opI {f:Value->Value->Sem Value}{C:Int->Int->Prop}{g:Int->Int->Int}
  (rule:∀ (i j:Int) (t u:Tok) (s:Shared) (Q:Value->Shared->Prop) (E:Value->Shared->Prop),C i j->Q (.int (g i j) s.toks) { s with toks:=s.toks+1} ->wpAny (model X.prog X.w) X.A (f (.int i t) (.int j u)) Q E s):
  OpR X f (rI C fun i j=> .int (g i j)):=by
 intro pins s σ H x y v u Q I rx ry h
 obtain⟨i,j,rfl,rfl,hc,q⟩:=h
 obtain⟨t,rfl⟩:=rx
 obtain⟨t',rfl⟩:=ry
 exact rule i j t t' s _ _ hc ⟨.int (g i j),H,I.tok _,⟨_,rfl⟩,q⟩
theorem opI0 {f:Value->Value->Sem Value}{g:Int->Int->Int}
  (rule:∀ (i j:Int) (t u:Tok) (s:Shared) (Q:Value->Shared->Prop) (E:Value->Shared->Prop),Q (.int (g i j) s.toks) { s with toks:=s.toks+1} ->wpAny (model X.prog X.w) X.A (f (.int i t) (.int j u)) Q E s):
  OpR X f (rI0 fun i j=> .int (g i j)):=by
 intro pins s σ H x y v u Q I rx ry h
 obtain⟨i,j,rfl,rfl,q⟩:=h
 obtain⟨t,rfl⟩:=rx
 obtain⟨t',rfl⟩:=ry
 exact rule i j t t' s _ _ ⟨.int (g i j),H,I.tok _,⟨_,rfl⟩,q⟩
theorem opB0 {f:Value->Value->Sem Value}{g:Int->Int->Bool}
  (rule:∀ (i j:Int) (t u:Tok) (s:Shared) (Q:Value->Shared->Prop) (E:Value->Shared->Prop),Q (.bool (g i j)) s->wpAny (model X.prog X.w) X.A (f (.int i t) (.int j u)) Q E s):
  OpR X f (rI0 fun i j=> .bl (g i j)):=by
 intro pins s σ H x y v u Q I rx ry h
 obtain⟨i,j,rfl,rfl,q⟩:=h
 obtain⟨t,rfl⟩:=rx
 obtain⟨t',rfl⟩:=ry
 exact rule i j t t' s _ _ ⟨.bl (g i j),H,I,rfl,q⟩
def CPow (i j:Int):Prop:=0<=j/\j<=1000000/\i.natAbs<2 ^ 64
def CMul (i j:Int):Prop:=(-(2 ^ 64)<i/\i<2 ^ 64)\/(-(2 ^ 64)<j/\j<2 ^ 64)
theorem CMul.ok {i j:Int}(h:CMul i j):IntMulOk i j:=by
 rcases h with ⟨h1,h2⟩ | ⟨h1,h2⟩
 ·exact .of_left (intBits_le_64 h1 h2)
 ·exact .of_right (intBits_le_64 h1 h2)
theorem jJC (k:Nat):(0:Int)<=2 ^ k:=by
 rw[two_pow_cast]
 exact eR _
theorem y9:OpR X (binaryOp .Add) (rI0 fun i j=> .int (i+j)):=opI0 fun _ _ _ _ _ _ _ q=>add_int q
theorem jBX:OpR X (binaryOp .Sub) (rI0 fun i j=> .int (i - j)):=opI0 fun _ _ _ _ _ _ _ q=>sub_int q
theorem jBY:OpR X (binaryOp .Mult) (rI CMul fun i j=> .int (i*j)):=opI fun _ _ _ _ _ _ _ hc q=>mul_int q hc.ok
theorem jG6:OpR X (binaryOp .Mod) (rI (fun _ j=>0<j) fun i j=> .int (i % j)):=opI fun i j _ _ _ _ _ hc q=>by
 have h1:(0:Int)<j:=hc
 exact mod_int' (by omega) (by rw[Int.fmod_eq_emod_of_nonneg i (by omega)]; exact q)
theorem jL1:OpR X (binaryOp .Pow) (rI CPow fun i j=> .int (i ^ j.toNat)):=opI fun _ _ _ _ _ _ _ hc q=>pow_int_small hc.1 hc.2.1 hc.2.2 q
theorem jII:OpR X (binaryOp .LShift) (rI CPow fun i j=> .int (i*2 ^ j.toNat)):=opI fun _ _ _ _ _ _ _ hc q=>lshift_int_small hc.1 hc.2.1 hc.2.2 q
theorem jPA:OpR X (binaryOp .RShift) (rI (fun _ j=>0<=j) fun i j=> .int (i / 2 ^ j.toNat)):=opI fun i j _ _ _ _ _ hc q=>
 rshift_int hc (by rw[gu i (jJC _)]; exact q)
theorem jIK:OpR X (binaryOp .BitAnd) (rI0 fun i j=> .int (Builtin.bitAnd i j)):=opI0 fun _ _ _ _ _ _ _ q=>and_int q
theorem op_or:OpR X (binaryOp .BitOr) (rI0 fun i j=> .int (Builtin.bitOr i j)):=opI0 fun _ _ _ _ _ _ _ q=>or_int q
theorem unI {f:Value->Sem Value}{g:Int->Int}
  (rule:∀ (i:Int) (t:Tok) (s:Shared) (Q:Value->Shared->Prop) (E:Value->Shared->Prop),Q (.int (g i) s.toks) { s with toks:=s.toks+1} ->wpAny (model X.prog X.w) X.A (f (.int i t)) Q E s):
  UnR X f (rU fun i=> .int (g i)):=by
 intro pins s σ H x v Q I rx h
 obtain⟨i,rfl,q⟩:=h
 obtain⟨t,rfl⟩:=rx
 exact rule i t s _ _ ⟨.int (g i),H,I.tok _,⟨_,rfl⟩,q⟩
theorem jI1:UnR X (unaryOp .USub) (rU fun i=> .int (-i)):=unI fun _ _ _ _ _ q=>neg_int q
theorem jSL:UnR X (unaryOp .Invert) (rU fun i=> .int (Builtin.bitNot i)):=unI fun _ _ _ _ _ q=>invert_int q
end
noncomputable def scal:V->V->Bool
 | .non, .non=>true | .non, .int _=>true | .int _, .non=>true | .non, .bl _=>true | .bl _, .non=>true | .non, .str _=>true | .str _, .non=>true
 | .int _, .int _=>true | .bl _, .bl _=>true | .str _, .str _=>true | .byt _, .byt _=>true
 | .int _, .str _=>true | .str _, .int _=>true | .bl _, .str _=>true | .str _, .bl _=>true
 | _,_=>false
def rEq:R2:=fun x y H Q=>scal x y=true/\Q (.bl (decide (x=y))) H
def rNe:R2:=fun x y H Q=>scal x y=true/\Q (.bl (!decide (x=y))) H
theorem jFH {i j:Int} :decide (V.int i=V.int j)=(i==j):=by
 rw[bZ]
 simp
theorem jPS {i j:Bool} :decide (V.bl i=V.bl j)=(i==j):=by
 rw[bZ]
 simp
theorem jMG {i j:Str} :decide (V.str i=V.str j)=(i==j):=by
 rw[bZ]
 simp
theorem jMH {i j:Array UInt8} :decide (V.byt i=V.byt j)=(i.toList==j.toList):=by
 rw[bZ]
 cases i
 cases j
 simp
section
variable {X:Cx}{a b c:Expr}{ta tb tc:TE}{pos:Pos}
theorem jY {pins:List (Addr×Obj)}{σ:St}{H:Hp}{s:Shared}{Q:VK}{k k':Bool}(I:Inv X pins σ H s)(q:Q (.bl k) H)(e:k=k'):EP X pins σ Q (.bool k') s:=by
 subst e
 exact⟨.bl k,H,I,rfl,q⟩
theorem yU:OpR X (compareOp .Eq) rEq:=by
 intro pins s σ H x y v u Q I rx ry h
 obtain⟨hs,q⟩:=h
 cases x with
 | non=>
  cases rx
  cases y with
  | non=>cases ry; exact PySem.EqNone.eq_none_none (jY I q (by simp))
  | bl j=>cases ry; exact PySem.EqNone.eq_none_bool (jY I q (by simp))
  | int j=>obtain⟨t',rfl⟩:=ry; exact PySem.EqNone.eq_none_int (jY I q (by simp))
  | str j=>obtain⟨t',rfl⟩:=ry; exact PySem.EqNone.eq_none_str (jY I q (by simp))
  | _=>exact absurd (show false=true from hs) ah
 | bl i=>
  cases rx
  cases y with
  | non=>cases ry; exact PySem.EqNone.eq_bool_none (jY I q (by simp))
  | bl j=>cases ry; exact eq_bool (jY I q jPS)
  | str j=>obtain⟨t',rfl⟩:=ry; exact PySem.EqMixed.eq_bool_str (jY I q (by simp))
  | _=>exact absurd (show false=true from hs) ah
 | int i=>
  obtain⟨t,rfl⟩:=rx
  cases y with
  | non=>cases ry; exact PySem.EqNone.eq_int_none (jY I q (by simp))
  | int j=>obtain⟨t',rfl⟩:=ry; exact eq_int (jY I q jFH)
  | str j=>obtain⟨t',rfl⟩:=ry; exact PySem.EqMixed.eq_int_str (jY I q (by simp))
  | _=>exact absurd (show false=true from hs) ah
 | str i=>
  obtain⟨t,rfl⟩:=rx
  cases y with
  | non=>cases ry; exact PySem.EqNone.eq_str_none (jY I q (by simp))
  | bl j=>cases ry; exact PySem.EqMixed.eq_str_bool (jY I q (by simp))
  | int j=>obtain⟨t',rfl⟩:=ry; exact PySem.EqMixed.eq_str_int (jY I q (by simp))
  | str j=>obtain⟨t',rfl⟩:=ry; exact eq_str (jY I q jMG)
  | _=>exact absurd (show false=true from hs) ah
 | byt i=>
  obtain⟨t,rfl⟩:=rx
  cases y with
  | byt j=>obtain⟨t',rfl⟩:=ry; exact PySem.W.eq_bytes (jY I q jMH)
  | _=>exact absurd (show false=true from hs) ah
 | _=>cases y <;> exact absurd (show false=true from hs) ah
theorem op_ne:OpR X (compareOp .NotEq) rNe:=by
 intro pins s σ H x y v u Q I rx ry h
 obtain⟨hs,q⟩:=h
 cases x with
 | non=>
  cases rx
  cases y with
  | non=>cases ry; exact PySem.EqNone.ne_none_none (jY I q (by simp))
  | bl j=>cases ry; exact PySem.EqNone.ne_none_bool (jY I q (by simp))
  | int j=>obtain⟨t',rfl⟩:=ry; exact PySem.EqNone.ne_none_int (jY I q (by simp))
  | str j=>obtain⟨t',rfl⟩:=ry; exact PySem.EqNone.ne_none_str (jY I q (by simp))
  | _=>exact absurd (show false=true from hs) ah
 | bl i=>
  cases rx
  cases y with
  | non=>cases ry; exact PySem.EqNone.ne_bool_none (jY I q (by simp))
  | bl j=>cases ry; exact ne_bool (jY I q (bN not jPS))
  | str j=>obtain⟨t',rfl⟩:=ry; exact PySem.EqMixed.ne_bool_str (jY I q (by simp))
  | _=>exact absurd (show false=true from hs) ah
 | int i=>
  obtain⟨t,rfl⟩:=rx
  cases y with
  | non=>cases ry; exact PySem.EqNone.ne_int_none (jY I q (by simp))
  | int j=>obtain⟨t',rfl⟩:=ry; exact ne_int (jY I q (bN not jFH))
  | str j=>obtain⟨t',rfl⟩:=ry; exact PySem.EqMixed.ne_int_str (jY I q (by simp))
  | _=>exact absurd (show false=true from hs) ah
 | str i=>
  obtain⟨t,rfl⟩:=rx
  cases y with
  | non=>cases ry; exact PySem.EqNone.ne_str_none (jY I q (by simp))
  | bl j=>cases ry; exact PySem.EqMixed.ne_str_bool (jY I q (by simp))
  | int j=>obtain⟨t',rfl⟩:=ry; exact PySem.EqMixed.ne_str_int (jY I q (by simp))
  | str j=>obtain⟨t',rfl⟩:=ry; exact ne_str (jY I q (bN not jMG))
  | _=>exact absurd (show false=true from hs) ah
 | byt i=>
  obtain⟨t,rfl⟩:=rx
  cases y with
  | byt j=>obtain⟨t',rfl⟩:=ry; exact PySem.W.ne_bytes (jY I q (bN not jMH))
  | _=>exact absurd (show false=true from hs) ah
 | _=>cases y <;> exact absurd (show false=true from hs) ah
theorem op_lt:OpR X (compareOp .Lt) (rI0 fun i j=> .bl (decide (i<j))):=opB0 fun _ _ _ _ _ _ _ q=>lt_int q
theorem op_le:OpR X (compareOp .LtE) (rI0 fun i j=> .bl (decide (i<=j))):=opB0 fun _ _ _ _ _ _ _ q=>le_int q
theorem op_gt:OpR X (compareOp .Gt) (rI0 fun i j=> .bl (decide (j<i))):=opB0 fun _ _ _ _ _ _ _ q=>gt_int q
theorem op_ge:OpR X (compareOp .GtE) (rI0 fun i j=> .bl (decide (j<=i))):=opB0 fun _ _ _ _ _ _ _ q=>ge_int q
theorem jL2:OpR X (compareOp .Is) (fun x y H Q=>y= .non/\Q (.bl (decide (x= .non))) H):=by
 intro pins s σ H x y v u Q I rx ry h
 obtain⟨rfl,q⟩:=h
 cases ry
 refine is_none_gen (jY I q ?_)
 cases x <;> first
  | (cases rx; rfl)
  | (obtain⟨t,rfl⟩:=rx; rfl)
theorem jG (b:Expr){op:CmpOp}(h:op≠ .In:=by decide)(h2:op≠ .NotIn:=by decide):behindInMarks op b=false:=by
 have e1:(op==CmpOp.In)=false:=by cases op <;> first | rfl | exact absurd rfl h
 have e2:(op==CmpOp.NotIn)=false:=by cases op <;> first | rfl | exact absurd rfl h2
 cases b <;> simp [behindInMarks,e1,e2]
theorem jQW {op:CmpOp}{r:R2}(ho:OpR X (compareOp op) r)(ha:PE X a ta)(hb:PE X b tb)(hm:behindInMarks op b=false):PE X (.Compare a [op] [b] pos) (tOp r ta tb):=by
 intro pins s σ H Q I h
 exact wpAny_Compare1 (binT ha hb I h fun v u s2 x y H2 I2 rx ry q=>ho pins s2 σ H2 x y v u Q I2 rx ry q) hm
def tTest (t:TE):TT:=fun σ H Q=>t σ H fun x H'=>∃ k,x= .bl k/\Q k H'
theorem jDP {op:CmpOp}{r:R2}(ho:OpR X (compareOp op) r)(ha:PE X a ta)(hb:PE X b tb)(hm:behindInMarks op b=false):PT X (.Compare a [op] [b] pos) (tTest (tOp r ta tb)):=by
 intro pins s σ H Q I h
 refine wpAny_isTrue_Compare1 (thn (ha pins s σ H _ I h) fun v s1 ⟨x,H1,I1,r1,q1⟩=>thn (hb pins s1 σ H1 _ I1 q1) fun u s2 ⟨y,H2,I2,r2,q2⟩=>
  thn (ho pins s2 σ H2 x y v u _ I2 r1 r2 q2) fun c s3 ⟨z,H3,I3,r3,k,e,q3⟩=>?_) hm
 subst e
 cases r3
 exact cJ ⟨H3,I3,q3⟩
def jP1 (r r':R2)(ta tb tc:TE):TE:=fun σ H Q=>ta σ H fun x H1=>tb σ H1 fun y H2=>r x y H2 fun z H3=>∃ k,z= .bl k/\
 (if k=true then tc σ H3 fun w' H4=>r' y w' H4 Q else Q (.bl false) H3)
theorem jNS {op op':CmpOp}{r r':R2}(ho:OpR X (compareOp op) r)(ho':OpR X (compareOp op') r')(ha:PE X a ta)(hb:PE X b tb)(hc:PE X c tc)
  (hm:lastMarks [op,op'] [b,c]=false:=by with_unfolding_all rfl):PE X (.Compare a [op,op'] [b,c] pos) (jP1 r r' ta tb tc):=by
 intro pins s σ H Q I h
 refine Compare_chain (thn (ha pins s σ H _ I h) fun v s1 ⟨x,H1,I1,r1,q1⟩=>chain_link (thn (hb pins s1 σ H1 _ I1 q1) fun u s2 ⟨y,H2,I2,r2,q2⟩=>
  thn (ho pins s2 σ H2 x y v u _ I2 r1 r2 q2) fun d s3 ⟨z,H3,I3,r3,k,e,q3⟩=>?_)) hm
 subst e
 cases r3
 refine cJ ?_
 cases k with
 | false=>exact ite_ff ⟨.bl false,H3,I3,rfl,q3⟩
 | true=>exact ite_tt (chain_last (thn (hc pins s3 σ H3 _ I3 q3) fun w' s4 ⟨z',H4,I4,r4,q4⟩=>ho' pins s4 σ H4 y z' u w' Q I4 r2 r4 q4))
theorem jGD:(sizeLine:Nat)<2 ^ 63:=by rw[dE]; decide
theorem vals1 {x:V}{us:List Value}(r:Vals [x] us):∃ u,us=[u]/\RelV x u:=by
 cases r with
 | cons r1 r2=>cases r2; exact⟨_,rfl,r1⟩
theorem vals2 {x y:V}{us:List Value}(r:Vals [x,y] us):∃ u w',us=[u,w']/\RelV x u/\RelV y w':=by
 cases r with
 | cons r1 r2=>
  cases r2 with
  | cons r3 r4=>cases r4; exact⟨_,_,rfl,r1,r3⟩
theorem jN0 (hc:X.calm=true):yO X (.builtin "max") (fun xs H Q=>∃ i j,xs=[.int i, .int j]/\Q (.int (if j>i then j else i)) H):=by
 intro pins s σ H xs us Q I r h
 obtain⟨i,j,rfl,q⟩:=h
 obtain⟨u,w',rfl,⟨t,rfl⟩,⟨t',rfl⟩⟩:=vals2 r
 refine max_two_ints (I.ok.hd hc) fun h' tk k=>⟨_,H,I.kept k,?_,q⟩
 by_cases hj:j>i
 ·rw[aj hj,aj hj]; exact⟨_,rfl⟩
 ·rw[ai hj,ai hj]; exact⟨_,rfl⟩
theorem jMZ (hc:X.calm=true):yO X (.builtin "min") (fun xs H Q=>∃ i j,xs=[.int i, .int j]/\Q (.int (if j<i then j else i)) H):=by
 intro pins s σ H xs us Q I r h
 obtain⟨i,j,rfl,q⟩:=h
 obtain⟨u,w',rfl,⟨t,rfl⟩,⟨t',rfl⟩⟩:=vals2 r
 refine min_two_ints (I.ok.hd hc) fun h' tk k=>⟨_,H,I.kept k,?_,q⟩
 by_cases hj:j<i
 ·rw[aj hj,aj hj]; exact⟨_,rfl⟩
 ·rw[ai hj,ai hj]; exact⟨_,rfl⟩
theorem jE7:yO X (.type "int") (fun xs H Q=>(∃ i,xs=[.int i]/\Q (.int i) H)\/∃ k,xs=[.bl k]/\Q (.int (if k then 1 else 0)) H):=by
 intro pins s σ H xs us Q I r h
 rcases h with ⟨i,rfl,q⟩ | ⟨k,rfl,q⟩
 ·obtain⟨u,rfl,t,rfl⟩:=vals1 r
  exact call_int_int ⟨.int i,H,I,⟨_,rfl⟩,q⟩
 ·obtain⟨u,rfl,r1⟩:=vals1 r
  cases r1
  exact call_int_bool ⟨.int (if k then 1 else 0),H,I.tok _,⟨_,rfl⟩,q⟩
end
end L2
namespace L2
open PySem PySem.Spec PyProof.Rows
structure ObjM (h:Heap)(x dx C:Addr)(mA:Str->Option Value):Prop where
 obj:h.get? x=some (instObj C dx)
 ns:h.Ns1 dx mA
 ne:dx≠x
theorem jLL {h:Heap}{dx:Addr}{mA:Str->Option Value}(n:h.Ns1 dx mA):∃ od,h.get? dx=some od/\∀ name,lookIn name od=some (mA name):=by
 obtain⟨o,es,ep,ho,hd,hk,_,hm⟩:=n
 refine⟨o,ho,fun name=>?_⟩
 have e:=hm name
 unfold nsFind findBy at e
 rw[<- Array.find?_toList] at e
 unfold lookIn
 rw[hd]
 dsimp only
 split
 ·rename_i y q
  rw[q] at e
  exact bN some e
 ·rename_i q
  rw[q] at e
  have a:es.toList.any (·.refKey)=false:=by
   rw[List.any_eq_false]
   intro y hy
   obtain⟨z,t,hkey⟩:=hk y (Array.mem_toList_iff.mp hy)
   simp [DictEntry.refKey,hkey]
  have a':¬ es.toList.any (·.refKey)=true:=by rw[a]; exact ah
  rw[ai a']
  exact bN some e
theorem ObjM.look {h:Heap}{x dx C:Addr}{mA:Str->Option Value}(I:ObjM h x dx C mA):∃ od,PySem.W.InstAt h x (instObj C dx) C (some od)/\∀ name,lookIn name od=some (mA name):=
 let ⟨od,ho,hl⟩:=jLL I.ns
 ⟨od,⟨I.obj,rfl,rfl,ho⟩,hl⟩
section
variable {prog:Program}{w:World}{A:Around}{E:Value->Shared->Prop}{s:Shared}{K:W.Frag}{x dx C f:Addr}{mA:Str->Option Value}{name:Str}{v:Value}
end
theorem RelO.some_of {v:V}{o:Option Value}(r:RelO (some v) o):∃ u,o=some u/\RelV v u:=by
 cases o with
 | none=>exact(show False from r).elim
 | some u=>exact⟨u,rfl,r⟩
section
variable {P:Program}{w:World}{H H':Hp}{h h':Heap}{a C dx:Addr}{fs fs':List (Str×V)}
theorem jRX (hok:HOk P w H h)(e:H a=some (.ins C dx fs)):∃ mA,ObjM h a dx C mA/\(∀ f,RelO (fs.lookup f) (mA f))/\PySem.Within mA (fs.map (·.1))/\fs.length<=1000/\H dx=some (.own a):=by
 obtain⟨d,z,ne,ob,mA,n,r,q⟩:=(show ObjOk P w H h a (.ins C dx fs) from hok a _ e)
 exact⟨mA,⟨ob,n,ne⟩,r,q,z,d⟩
end
structure Cls (K:W.Frag)(C:Addr):Prop where
 pg:plainGet K C Str.empty=true
 hd:PySem.W.hasDictIn K C=true
 po:PySem.W.plainOver K C=true
 sa:findIn K (.ref C) "__setattr__" =some (some (.builtin "object.__setattr__"))
theorem Cls.get {K:W.Frag}{C:Addr}(c:Cls K C)(f:Str):plainGet K C f=true:=c.pg
section
variable {X:Cx}{pins:List (Addr×Obj)}{σ:St}{H:Hp}{s:Shared}{a C dx:Addr}{fs:List (Str×V)}{f:Str}{v:V}{A:Around}{E:Value->Shared->Prop}
end
section
variable {X:Cx}{o e value:Expr}{f:Str}{pos pos' tpos:Pos}{ta tv:TE}
end
section
variable {X:Cx}{pins:List (Addr×Obj)}{σ:St}{H:Hp}{s:Shared}{A:Around}{E:Value->Shared->Prop}{Q:Value->Shared->Prop}{c:Value}{b:Bool}
inductive TyOf (K:W.Frag) (H:Hp):V->Value->Prop where
 | non:TyOf K H .non (.type "NoneType")
 | bl (x:Bool):TyOf K H (.bl x) (.type "bool")
 | int (i:Int):TyOf K H (.int i) (.type "int")
 | str (x:Str):TyOf K H (.str x) (.type "str")
 | flt (x:UInt64):TyOf K H (.flt x) (.type "float")
 | lst {a:Addr}{xs:List V}(e:H a=some (.lst xs)):TyOf K H (.ref a) (.type "list")
 | frz {a:Addr}{o:Obj}{xs:List V}(e:H a=some (.frz o (.lst xs))):TyOf K H (.ref a) (.type "list")
 | tup {a:Addr}{xs:List V}(e:H a=some (.tup xs)):TyOf K H (.ref a) (.type "tuple")
 | dK {a:Addr}{kvs:List (Key×V)}(e:H a=some (.dK kvs)):TyOf K H (.ref a) (.type "dict")
 | dT {a:Addr}{kvs:List (List Key×V)}(e:H a=some (.dT kvs)):TyOf K H (.ref a) (.type "dict")
 | ins {a C dx:Addr}{fs:List (Str×V)}(e:H a=some (.ins C dx fs)) (cl:Cls K C) (ha:findIn K (.ref C) "__class__" =some (some (.builtin "object.__class__")))
   (hn:PySem.W.specialIn K (.builtin "object.__class__") "__get__" =some (some (.builtin "getset_descriptor.__get__"))) (htk:PySem.W.takesIn K (.builtin "object.__class__")=some true)
   (hm:mroIn K C (.type "object")=some true):TyOf K H (.ref a) (.ref C)
theorem jM2 {x:V}{u t:Value}(I:Inv X pins σ H s)(rx:RelV x u)(ty:TyOf X.K H x t)(e:kitOne X.K t c=some b)(h:∀ tk,Q (.bool b) { s with toks:=tk}):
  wpAny (model X.prog X.w) A (call (.builtin "isinstance") [u,c]) Q E s:=by
 cases ty with
 | non=>cases (show u=Value.none from rx); exact cy PySem.W.kitx_none I.kIn True.intro e (fun z=>nomatch z) h
 | bl y=>cases (show u=Value.bool y from rx); exact cy PySem.W.kitx_bool I.kIn True.intro e (fun z=>nomatch z) h
 | int i=>obtain⟨t,q⟩:=(show ∃ t,u=Value.int i t from rx); cases q; exact cy PySem.W.kitx_int I.kIn True.intro e (fun z=>nomatch z) h
 | str y=>obtain⟨t,q⟩:=(show ∃ t,u=Value.str y t from rx); cases q; exact cy PySem.W.kitx_str I.kIn True.intro e (fun z=>nomatch z) h
 | flt y=>obtain⟨t,q⟩:=(show ∃ t,u=Value.float y t from rx); cases q; exact cy PySem.W.kitx_float I.kIn True.intro e (fun z=>nomatch z) h
 | @lst a xs ea=>
  cases (show u=Value.ref a from rx)
  obtain⟨_,_,n,_,h1⟩:=(show ObjOk X.prog X.w H s.heap a (.lst xs) from I.hok a _ ea)
  exact cy kitx_list I.kIn ⟨_,h1,rfl⟩ e (fun z=>nomatch z) h
 | @frz a ob xs ea=>
  cases (show u=Value.ref a from rx)
  obtain⟨_,_,_,n,_,h1⟩:=(show ObjOk X.prog X.w H s.heap a (.frz ob (.lst xs)) from I.hok a _ ea)
  exact cy kitx_list I.kIn ⟨_,h1,rfl⟩ e (fun z=>nomatch z) h
 | @tup a xs ea=>
  cases (show u=Value.ref a from rx)
  obtain⟨_,_,_,p⟩:=(show ObjOk X.prog X.w H s.heap a (.tup xs) from I.hok a _ ea)
  obtain⟨o,h1,h2,_⟩:=p.isTup
  exact cy PySem.W.kitx_tuple I.kIn ⟨o,h1,h2⟩ e (fun z=>nomatch z) h
 | @dK a kvs ea=>
  cases (show u=Value.ref a from rx)
  obtain⟨_,_,vs,_,p⟩:=(show ObjOk X.prog X.w H s.heap a (.dK kvs) from I.hok a _ ea)
  obtain⟨o,es,ep,h1,h2,_⟩:=p
  exact cy kitx_dict I.kIn ⟨o,h1,h2.1⟩ e (fun z=>nomatch z) h
 | @dT a kvs ea=>
  cases (show u=Value.ref a from rx)
  obtain⟨_,_,xs,_,o,es,ep,h1,h2,_⟩:=(show ObjOk X.prog X.w H s.heap a (.dT kvs) from I.hok a _ ea)
  exact cy kitx_dict I.kIn ⟨o,h1,h2.1⟩ e (fun z=>nomatch z) h
 | @ins a C dx fs ea cl ha hn htk hm=>
  cases (show u=Value.ref a from rx)
  obtain⟨mA,O,_⟩:=jRX I.hok ea
  obtain⟨od,J,_⟩:=O.look
  exact cy (PySem.W.kitx_own (cl.get _) cl.hd ha hn htk hm) I.kIn J e (fun z=>nomatch z) h
end
end L2
namespace L2
open PySem PySem.Spec PyProof.Rows
structure Room (k:Nat)(A:Around):Prop where
 hd:A.handled=none
 dp:A.depth+3*k+5<recursionLimit
 un:A.units+16*k+200<cLine
theorem Room.mono {j k:Nat}{A:Around}(r:Room k A)(h:j<=k):Room j A:=⟨r.hd,by have:=r.dp; omega,by have:=r.un; omega⟩
theorem Room.deeper {k:Nat}{A:Around}(r:Room (k+1) A)(env:Env):Room k (A.deeper env):=
 ⟨r.hd,by have:=r.dp; show A.depth+1+3*k+5<_; omega,by have:=r.un; show A.units+3+16*k+200<_; omega⟩
theorem Room.depth {k:Nat}{A:Around}(r:Room k A):A.depth<recursionLimit:=by have:=r.dp; omega
theorem Room.units {k:Nat}{A:Around}(r:Room k A):A.units+64<cLine:=by have:=r.un; omega
theorem Room.units0 {k:Nat}{A:Around}(r:Room k A):A.units<cLine:=by have:=r.un; omega
def tNil:TA:=fun _ H Q=>Q [] H
def tCons (ta:TE)(tr:TA):TA:=fun σ H Q=>ta σ H fun x H1=>tr σ H1 fun xs H2=>Q (x::xs) H2
section
variable {X:Cx}{e:Expr}{es:List Expr}{te:TE}{t:TA}{pos:Pos}
theorem yB:PA X [] tNil:=fun _ _ _ _ H Q I h=>Calls.spliced_nil ⟨[],H,I, .nil,h⟩
theorem jZ (ha:PE X e te)(hr:PA X es t)(hs:starEach (e::es) X.env=(false,eval e X.env)::starEach es X.env:=by rfl):PA X (e::es) (tCons te t):=by
 intro pos pins s σ H Q I h
 rw[hs]
 show wpAny _ _ (spliced ((false,eval e X.env)::backTo pos (starEach es X.env))) _ _ s
 refine Calls.spliced_cons (thn (ha pins s σ H _ I h) fun u s1 ⟨x,H1,I1,r1,q1⟩=>?_)
 exact thn (hr pos pins s1 σ H1 _ I1 q1) fun us s2 ⟨xs,H2,I2,r2,q2⟩=>⟨x::xs,H2,I2, .cons r1 r2,q2⟩
def tTup (t:TA):TE:=fun σ H Q=>t σ H fun xs H1=>xs.length<=sizeLine/\∀ p,H1 p=none->Q (.ref p) (upd H1 p (.tup xs))
def tLst (t:TA):TE:=fun σ H Q=>t σ H fun xs H1=>xs.length<=sizeLine/\∀ p,H1 p=none->Q (.ref p) (upd H1 p (.lst xs))
theorem jT9 {x1}(h:PA X es t):PE X (.Tuple es x1 pos) (tTup t):=by
 intro pins s σ H Q I hq
 refine wpAny_Tuple_spliced (thn (h pos pins s σ H _ I hq) fun us s1 ⟨xs,H1,I1,r,z,q⟩=>⟨by rw[<- r.length]; exact z,?_⟩)
 have hf:H1 s1.heap.objs.size=none:=I1.hok.fresh (ak _)
 refine⟨.ref s1.heap.objs.size,upd H1 s1.heap.objs.size (.tup xs),I1.laid (t':=s1.toks) (fun b u e=>ab _ e) (ak _) ?_,rfl,q _ hf⟩
 exact⟨z,us,r,TupO.new _ _⟩
theorem jIH (h:PA X es t):PE X (.List es pos) (tLst t):=by
 intro pins s σ H Q I hq
 refine wpAny_List_spliced (thn (h pos pins s σ H _ I hq) fun us s1 ⟨xs,H1,I1,r,z,q⟩=>⟨by rw[<- r.length]; exact z,?_⟩)
 have hf:H1 s1.heap.objs.size=none:=I1.hok.fresh (ak _)
 refine⟨.ref s1.heap.objs.size,upd H1 s1.heap.objs.size (.lst xs),I1.laid (t':=s1.toks) (fun b u e=>ab _ e) (ak _) ?_,rfl,q _ hf⟩
 exact⟨z,us,0,r,az _ rfl⟩
end
abbrev Sp:=List V->Hp->VK->XK->Prop
abbrev CXT:=List Env->Hp->Shared->XK->Value->Shared->Prop
structure Env0 (P:Program)(w:World)(K:W.Frag)(mg:Str->Option Value)(base:Heap)(A:Around)(outer:List Env)(s:Shared)(H:Hp):Prop where
 frames:A.frames=some outer
 mod:Mod K mg base
 bs:∀ b o,base.get? b=some o->s.heap.get? b=some o/\H b=none
 bsz:base.objs.size<=s.heap.objs.size
 funs:s.heap.FunFrames base outer
 frf:∀ b∈frs outer,H b=none
 hok:HOk P w H s.heap
 bare:AllBare s.gens
def CE (outer:List Env)(P:Program)(w:World)(H:Hp)(s:Shared)(Q:VK)(u:Value)(s':Shared):Prop:=
 ∃ v H',s'.os=s.os/\AllBare s'.gens/\Un (frs outer) [] H H' s.heap s'.heap/\HOk P w H' s'.heap/\RelV v u/\Q v H'
def CR (CX:CXT)(outer:List Env)(P:Program)(w:World)(H:Hp)(s:Shared)(Q:VK)(E:XK)(r:Result)(s':Shared):Prop:=
 match r with
 | .ok (.ret u)=>CE outer P w H s Q u s'
 | .ok _=>False
 | .error e=>CX outer H s E e s'
structure FnOk (P:Program)(w:World)(K:W.Frag)(mg:Str->Option Value)(base:Heap)(CX:CXT)(k:Nat)(f:Addr)(fd:FuncData)(ps:List Str)(sp:Sp):Prop where
 len:∀ vs H Q E,sp vs H Q E->vs.length=ps.length
 run:∀ (A:Around) (outer:List Env) (s:Shared) (H:Hp) (args:Args) (us:List Value) (vs:List V) (Q:VK) (E:XK),Room k A->Env0 P w K mg base A outer s H->BindsTo s fd args (ps.zip us)->Vals vs us->sp vs H Q E->
  codeAny (model P w) A (.call (.ref f) args) (CR CX outer P w H s Q E) s
section
variable {X:Cx}{pins:List (Addr×Obj)}{σ:St}{H:Hp}{s s':Shared}
theorem Inv.env0 (I:Inv X pins σ H s):Env0 X.prog X.w X.K X.mg X.base X.A X.stack s H:=
 ⟨I.ok.frames,I.ok.mod,I.bs,bv I.ok.bsz I.sz,I.stack,I.stkFree,I.hok,I.bare⟩
theorem Inv.after {Q:VK}{u:Value}(I:Inv X pins σ H s)(h:CE X.stack X.prog X.w H s Q u s'):EP X pins σ Q u s':=by
 obtain⟨v,H',os,bare,un,hok,r,q⟩:=h
 obtain⟨hh,g,d,t,os'⟩:=s'
 obtain rfl:os'=s.os:=os
 exact⟨v,H',I.call (h':=hh) (g':=g) (d':=d) (t':=t) (ch:=[]) un hok bare (fun b z=>absurd z (by simp)),r,q⟩
end
def tCall (sp:Sp)(dvs:List V)(E:XK)(t:TA):TE:=fun σ H Q=>t σ H fun vs H1=>sp (vs++dvs) H1 Q E
def Binds (K:W.Frag)(fd:FuncData)(ps:List Str)(ds:List Value):Prop:=
 ∀ (s:Shared) (us:List Value),K.In s.heap->(us++ds).length=ps.length->BindsTo s fd ⟨us,[]⟩ (ps.zip (us++ds))
theorem Binds.all {K:W.Frag}{fd:FuncData}{ps:List Str}(h:∀ us:List Value,us.length=ps.length->bindArgs fd ⟨us,[]⟩=pure (ps.zip us)):Binds K fd ps []:=fun s us _ hl=>by
 rw[br] at hl ⊢
 exact .of_eq (h us hl)
def jNA (CX:CXT)(X:Cx)(E:XK):Prop:=∀ (pins:List (Addr×Obj)) (σ:St) (H:Hp) (s:Shared) (e:Value) (s':Shared),Inv X pins σ H s->CX X.stack H s E e s'->X.xe e s'
section
variable {X:Cx}{CX:CXT}{k:Nat}{f C:Addr}{fd:FuncData}{ps:List Str}{sp:Sp}{dvs:List V}{ds:List Value}{E:XK}{x m:Str}{p pos apos:Pos}{e o:Expr}{es:List Expr}{ta:TE}{t:TA}
theorem jSV {pins:List (Addr×Obj)}{σ:St}{H:Hp}{s:Shared}{Q:VK}{us:List Value}{vs:List V}(F:FnOk X.prog X.w X.K X.mg X.base CX k f fd ps sp)(hr:Room k X.A)(hb:Binds X.K fd ps ds)(hd:Vals dvs ds)(hx:jNA CX X E)
  (I:Inv X pins σ H s) (r:Vals vs us) (h:sp (vs++dvs) H Q E):wpAny (model X.prog X.w) X.A (call (.ref f) us) (EP X pins σ Q) X.xe s:=by
 have r2:Vals (vs++dvs) (us++ds):=r.append hd
 have hl:(us++ds).length=ps.length:=by rw[<- r2.length]; exact F.len _ _ _ _ h
 refine wpAny_call (d0 (F.run X.A X.stack s H ⟨us,[]⟩ (us++ds) (vs++dvs) Q E hr I.env0 (hb s us I.kIn hl) r2 h) fun r s' hq=>?_)
 cases r with
 | error e=>exact hx pins σ H s e s' I hq
 | ok fl=>
  cases fl with
  | ret u=>exact I.after hq
  | next=>exact False.elim hq
  | brk=>exact False.elim hq
  | cont=>exact False.elim hq
theorem jQX (F:FnOk X.prog X.w X.K X.mg X.base CX k f fd ps sp)(hr:Room k X.A)(hg:Gl X x)(hm:X.mg x=some (.ref f))(hk:keepIn X.K (.ref f)=true)(hb:Binds X.K fd ps ds)(hd:Vals dvs ds)(hx:jNA CX X E)
  (ha:PA X (e::es) t) (hdb:(x==("__debug__" :Str))=false:=by decide) (he:starEach (e::es) X.env=(false,eval e X.env)::starEach es X.env:=by rfl) (hpl:(backTo pos (starEach es X.env)).any (·.1)=false:=by rfl):
  PE X (.Call (.Name x p) (e::es) [] pos) (tCall sp dvs E t):=by
 intro pins s σ H Q I h
 refine dM (jRN I hg hm ?_ hdb)
 refine PySem.W.callWith_K (h₀:=X.base) I.ok.mod.kin hk (thn (ha pos pins s σ H _ I h) fun us s1 ⟨vs,H1,I1,r,q⟩=>⟨I1.kIn,?_⟩) he hpl
 exact jSV F hr hb hd hx I1 r q
end
def PK (X:Cx)(kws:List Keyword)(t:TA):Prop:=
 ∀ (pos:Pos) (pins:List (Addr×Obj)) (s:Shared) (σ:St) (H:Hp) (Q:List V->Hp->Prop),Inv X pins σ H s->t σ H Q->wpAny (model X.prog X.w) X.A (evalAll ((backToKw pos (keywordEach kws X.env)).map (·.2))) (AP X pins σ Q) X.xe s
section
variable {X:Cx}{CX:CXT}{k:Nat}{f C:Addr}{fd:FuncData}{ps ks:List Str}{sp:Sp}{E:XK}{x m:Str}{p pos apos kpos:Pos}{e o:Expr}{es:List Expr}{kws:List Keyword}{te ta:TE}{t tk:TA}{nm:Option Str}
theorem jT5:PK X [] tNil:=fun _ _ _ _ H Q I h=>wpAny_evalAll_nil ⟨[],H,I, .nil,h⟩
theorem jQN (ha:PE X e te)(hr:PK X kws t):PK X (⟨nm,e,kpos⟩::kws) (tCons te t):=by
 intro pos pins s σ H Q I h
 show wpAny _ _ (evalAll ((do let v <- eval e X.env; standAt pos; pure v)::(backToKw pos (keywordEach kws X.env)).map (·.2))) _ _ s
 refine wpAny_evalAll_cons (aa (thn (ha pins s σ H _ I h) fun u s1 ⟨x,H1,I1,r1,q1⟩=>aa (gO (af ?_))))
 exact thn (hr pos pins s1 σ H1 _ I1 q1) fun us s2 ⟨xs,H2,I2,r2,q2⟩=>⟨x::xs,H2,I2, .cons r1 r2,q2⟩
variable {g:List Value->List Value->List Value}{gV:List V->List V->List V}
end
structure FnScope (N P:List Str)(sc:Scope):Prop where
 kind:sc.kind= .function
 co:sc.isCoroutine=false
 gen:sc.isGenerator=false
 nd:N.Nodup
 pre:N.take P.length=P
 par:∀ x∈P,sc.names.lookup x=some .local\/sc.names.lookup x=some .cell
 nofree:∀ y∈sc.names,y.2≠ .free
theorem jGT {kindOf:Str->Option NameKind}{x:Str} :∀ {binds:List (Str×Value)}{m:Str->Option Value},(∀ v,(x,v)∉binds)->bindL kindOf binds m x=m x
 | [],_,_=>rfl
 | (n,v)::r,m,h=>by
  unfold bindL
  rw[jGT fun w hw=>h w (ar _ hw)]
  split
  ·have:x≠n:=by rintro rfl; exact h v aw
   simp [this]
  ·rfl
theorem jGV {kindOf:Str->Option NameKind}{x:Str} :∀ {binds:List (Str×Value)}{m:Str->Option Value},(∀ v,(x,v)∉binds)->bindC kindOf binds m x=m x
 | [],_,_=>rfl
 | (n,v)::r,m,h=>by
  unfold bindC
  rw[jGV fun w hw=>h w (ar _ hw)]
  split
  ·rfl
  ·have:x≠n:=by rintro rfl; exact h v aw
   simp [this]
theorem jGU {kindOf:Str->Option NameKind}{x:Str}{v:Value} :∀ {P:List Str}{vs:List Value}{i:Nat}{m:Str->Option Value},P.Nodup->P[i]?=some x->vs[i]?=some v->kindOf x=some .local->
  bindL kindOf (P.zip vs) m x=some v
 | [],_,_,_,_,h,_,_=>by simp at h
 | _::_,[],_,_,_,_,h,_=>by simp at h
 | p::P,w::vs,0,m,nd,h1,h2,hk=>by
  simp at h1 h2; subst h1; subst h2
  show bindL kindOf ((p,w)::P.zip vs) m p=_
  unfold bindL
  rw[jGT fun v hv=>(bH.mp nd).1 (dQ hv).1,aj hk]
  simp
 | p::P,w::vs,i+1,m,nd,h1,h2,hk=>by
  show bindL kindOf ((p,w)::P.zip vs) m x=_
  unfold bindL
  exact jGU (i:=i) (bH.mp nd).2 (by simpa using h1) (by simpa using h2) hk
theorem jGW {kindOf:Str->Option NameKind}{x:Str}{v:Value} :∀ {P:List Str}{vs:List Value}{i:Nat}{m:Str->Option Value},P.Nodup->P[i]?=some x->vs[i]?=some v->kindOf x≠some .local->
  bindC kindOf (P.zip vs) m x=some v
 | [],_,_,_,_,h,_,_=>by simp at h
 | _::_,[],_,_,_,_,h,_=>by simp at h
 | p::P,w::vs,0,m,nd,h1,h2,hk=>by
  simp at h1 h2; subst h1; subst h2
  show bindC kindOf ((p,w)::P.zip vs) m p=_
  unfold bindC
  rw[jGV fun v hv=>(bH.mp nd).1 (dQ hv).1,ai hk]
  simp
 | p::P,w::vs,i+1,m,nd,h1,h2,hk=>by
  show bindC kindOf ((p,w)::P.zip vs) m x=_
  unfold bindC
  exact jGW (i:=i) (bH.mp nd).2 (by simpa using h1) (by simpa using h2) hk
def kX (N:List Str)(vs:List V):St:=vs.map some++replicate (N.length - vs.length) none
def cxOf (CX:CXT)(P:Program)(w:World)(K:W.Frag)(mg:Str->Option Value)(base:Heap)(N:List Str)(qual:Str)(scope:Scope)(f:Addr)(cd:Value)(A:Around)(outer:List Env)(s:Shared)(H:Hp)(E:XK):Cx where
 prog:=P
 w:=w
 K:=K
 mg:=mg
 base:=base
 A:=A.deeper (envOfC qual scope s.heap.objs.size f cd)
 N:=N
 s₀:=s
 H₀:=H
 env:=envOfC qual scope s.heap.objs.size f cd
 outer:=outer
 stack:=envOfC qual scope s.heap.objs.size f cd::outer
 ex:=[]
 calm:=true
 fn:=fun _=>true
 pn:=[]
 xe:=fun e s'=>wpAny (model P w) (A.deeper (envOfC qual scope s.heap.objs.size f cd)) (leaving (envOfC qual scope s.heap.objs.size f cd) e) (fun _ s''=>CX outer H s E e s'') (fun e' s''=>CX outer H s E e' s'') s'
theorem jJ8 {sc:Scope}{n:Nat}{x:Str}(h:sc.names.lookup x=some .cell):∃ c,(cellsFrom n sc.names []).lookup x=some c:=by
 have q:=eZ sc.names n [] (.inl h)
 exact Option.isSome_iff_exists.mp q
theorem jGF {CX:CXT}{P:Program}{w:World}{K:W.Frag}{mg:Str->Option Value}{base:Heap}{N ps:List Str}{qual:Str}{scope:Scope}{f:Addr}{cd:Value}{A:Around}{outer:List Env}{s s1:Shared}{H:Hp}{E:XK}{us:List Value}{vs:List V}
  (S:FnScope N ps scope) (hd:A.handled=none) (e0:Env0 P w K mg base A outer s H) (hl:vs.length=ps.length) (r:Vals vs us)
  (x:InCallC s s.heap.objs.size (bindL (envOfC qual scope s.heap.objs.size f cd).kindOf (ps.zip us) fun _=>none) (cellsFrom (s.heap.objs.size+1) scope.names []) (bindC (envOfC qual scope s.heap.objs.size f cd).kindOf (ps.zip us) fun _=>none) s1):
  Inv (cxOf CX P w K mg base N qual scope f cd A outer s H E) [] (kX N vs) H s1:=by
 have hpl:ps.length<=N.length:=by have:=bN List.length S.pre; rw[be] at this; omega
 obtain⟨h1,tk,rfl,hk⟩:=x.done
 have noA:∀ b:Addr,b∉(cxOf CX P w K mg base N qual scope f cd A outer s H E).ex:=fun b z=>absurd (show b∈([]:List Addr) from z) (by simp)
 refine⟨⟨e0.mod,S.kind,rfl,rfl,ak _,fun y z c h1 h2=>?_,fun y hy=>?_,fun y c _ h=>?_,fun _=>hd,Around.frames_deeper e0.frames, .inr ⟨rfl,rfl⟩,fun b z=>absurd z (noA b),e0.bs,e0.bsz,fun b _ _=>noA b,fun b z=>absurd z (noA b),e0.funs,e0.frf⟩,
  rfl,e0.bare,Un.kept hk,⟨_,x.toInCall.ns,fun i y v h1 h2 h3=>?_⟩,fun y c h=>⟨_,x.cell y c h⟩,e0.hok.fresh (ak _),fun y c h=>?_,fun p hp=>absurd (show p∈([]:List (Addr×Obj)) from hp) (by simp),e0.hok.kept hk,?_⟩
 ·exact name_of_addr x.apart (cN h1) (cN h2)
 ·have hy:scope.names.lookup y=some .cell\/scope.names.lookup y=some .free:=hy
  rcases hy with hy | hy
  ·exact jJ8 hy
  ·exact absurd rfl (S.nofree _ (cN hy))
 ·exact cI (x.above y c (cN h))
 ·have hi:i<vs.length:=by
   unfold kX at h2
   by_cases hi:i<vs.length
   ·exact hi
   ·rw[aZ (by simpa using hi)] at h2
    rw[eV] at h2
    split at h2 <;> cases h2
  have ha:vs[i]?=some v:=by
   unfold kX at h2
   rw[bM (by simpa using hi),aI] at h2
   cases e:vs[i]? with
   | none=>rw[e] at h2; cases h2
   | some a=>rw[e] at h2; cases h2; rfl
  obtain⟨u,hu,rv⟩:=r.get ha
  have hp:ps[i]?=some y:=by
   rw[<- S.pre,cc (by omega)]; exact h1
  have ndP:ps.Nodup:=by rw[<- S.pre]; exact S.nd.sublist (da _ _)
  refine⟨u,rv,?_⟩
  rcases S.par y (ao hp) with k | k
  ·exact .inl ⟨k,jGU ndP hp hu k⟩
  ·obtain⟨c,e⟩:=jJ8 (n:=s.heap.objs.size+1) k
   refine .inr ⟨.inl k,c,e,?_⟩
   have q:=x.cell y c e
   rw[jGW ndP hp hu (by show scope.names.lookup y≠_; rw[k]; decide)] at q
   exact q
 ·exact e0.hok.fresh (cI (x.above y c (cN h)))
 ·unfold kX
  show _=N.length
  rw[aE,ae,fj]
  omega
theorem fn_of {CX:CXT}{P:Program}{w:World}{K:W.Frag}{mg:Str->Option Value}{base:Heap}{k:Nat}{f:Addr}{name qual:Str}{params:Arguments}{body:List Stmt}{scope:Scope}{dV kV doc pm cdv ct oc:Value}{an od:Option Addr}
  {osl:Array (Option Value)}{N ps:List Str}{sp:Sp}(lk:K.lookup f=some ⟨oc,od, .func (PySem.W.fnOf name qual params body scope dV kV doc pm an cdv ct),osl⟩) (hcd:PySem.W.codeIn K cdv qual=true) (S:FnScope N ps scope)
  (len:∀ vs H Q E,sp vs H Q E->vs.length=ps.length)
  (hbody:∀ (A:Around) (outer:List Env) (s:Shared) (H:Hp) (vs:List V) (Q:VK) (E:XK),Room k (A.deeper (envOfC qual scope s.heap.objs.size f cdv))->sp vs H Q E->
   ∃ t,PSs (cxOf CX P w K mg base N qual scope f cdv A outer s H E) body t/\t { nx:=fun _ H'=>Q .non H',rt:=Q} (kX N vs) H):
  FnOk P w K mg base CX (k+1) f (PySem.W.fnOf name qual params body scope dV kV doc pm an cdv ct) ps sp:=by
 refine⟨len,fun A outer s H args us vs Q E hr e0 hb r hsp=>?_⟩
 have hl:=len _ _ _ _ hsp
 have KX:K.In s.heap:=e0.mod.kin.keeps fun b o e=>(e0.bs b o e).1
 have lim:s.heap.NoLimit:=e0.mod.nolimit.keeps fun b o e=>(e0.bs b o e).1
 have hkind:∀ y∈ps.zip us,scope.names.lookup y.1=some .local\/(scope.names.lookup y.1=some .cell/\((cellsFrom (s.heap.objs.size+1) scope.names []).lookup y.1).isSome=true):=fun ⟨n,v⟩ hy=>by
  rcases S.par n (dQ hy).1 with q | q
  ·exact .inl q
  ·exact .inr ⟨q,eZ _ _ _ (.inl q)⟩
 refine codeAny_call_function hr.depth (KX _ _ lk) rfl S.co S.gen rfl (i4 KX hcd) (hb _ _ _ _ ?_)
 refine gw S.kind hkind fun env he s1 x=>?_
 subst he
 refine⟨lim.keeps x.toInCall.keep,codeAny_func ?_⟩
 obtain⟨t,ht,hq⟩:=hbody A outer s H vs Q E (hr.deeper _) hsp
 have I:Inv (cxOf CX P w K mg base N qual scope f cdv A outer s H E) [] (kX N vs) H s1:=jGF S hr.hd e0 hl r x
 refine ck (ht [] s1 (kX N vs) H _ I hq) (fun fl s' hs=>?_) fun e s' hs=>hs
 have fin:∀ {σ':St}{H':Hp}{v:V}{u:Value},Inv (cxOf CX P w K mg base N qual scope f cdv A outer s H E) [] σ' H' s'->RelV v u->Q v H'->CE outer P w H s Q u s':=
  fun {σ' H' v u} J rv q=>⟨v,H',J.os,J.bare,J.base,J.hok,rv,q⟩
 cases fl with
 | ret u=>
  obtain⟨v,σ',H',J,rv,q⟩:=hs
  exact fin J rv q
 | next=>
  obtain⟨σ',H',J,q⟩:=hs
  exact fin (v:=V.non) (u:=Value.none) J rfl q
 | brk=>
  obtain⟨_,_,_,q⟩:=hs
  exact False.elim q
 | cont=>
  obtain⟨_,_,_,q⟩:=hs
  exact False.elim q
end L2
namespace L2
open PySem PySem.Spec PyProof.Rows
section
variable {X:Cx}{x:Str}{p pos:Pos}{e:Expr}{es:List Expr}{t:TA}{id T:String}{r:List V->Hp->VK->Prop}
def tCB (r:List V->Hp->VK->Prop)(t:TA):TE:=fun σ H Q=>t σ H fun vs H1=>r vs H1 Q
theorem jF2 (hc:yO X (.builtin id) r)(hg:Gl X x)(hm:X.mg x=none)(hv:bootBuiltins x=some (.builtin id))(ha:PA X (e::es) t)(hn:x≠ "__name__" :=by decide)(hdb:(x==("__debug__" :Str))=false:=by decide)
  (he:starEach (e::es) X.env=(false,eval e X.env)::starEach es X.env:=by rfl) (hpl:(backTo pos (starEach es X.env)).any (·.1)=false:=by rfl):PE X (.Call (.Name x p) (e::es) [] pos) (tCB r t):=by
 intro pins s σ H Q I h
 refine dM (jCZ I hg hm hv ?_ hn hdb)
 exact PyProof.Rows.callWith_builtin1 (thn (ha pos pins s σ H _ I h) fun us s1 ⟨vs,H1,I1,r1,q1⟩=>hc pins s1 σ H1 vs us Q I1 r1 q1) he hpl
theorem jBW (hc:yO X (.type T) r)(hg:Gl X x)(hm:X.mg x=none)(hv:bootBuiltins x=some (.type T))(ha:PA X (e::es) t)(hn:x≠ "__name__" :=by decide)(hdb:(x==("__debug__" :Str))=false:=by decide)
  (he:starEach (e::es) X.env=(false,eval e X.env)::starEach es X.env:=by rfl) (hpl:(backTo pos (starEach es X.env)).any (·.1)=false:=by rfl):PE X (.Call (.Name x p) (e::es) [] pos) (tCB r t):=by
 intro pins s σ H Q I h
 refine dM (jCZ I hg hm hv ?_ hn hdb)
 exact cH (thn (ha pos pins s σ H _ I h) fun us s1 ⟨vs,H1,I1,r1,q1⟩=>hc pins s1 σ H1 vs us Q I1 r1 q1) he hpl
end
end L2
namespace HT
open PySem PyProof.Rows
noncomputable def lexLt:List Int->List Int->Bool
 | [],[]=>false
 | [],_::_=>true
 | _::_,[]=>false
 | x::xs,y::ys=>if x=y then lexLt xs ys else decide (x<y)
theorem jAG (x y:Int)(xs ys:List Int):lexLt (x::xs) (y::ys)=if x=y then lexLt xs ys else decide (x<y):=rfl
theorem jF7:lexLt [] []=false:=rfl
theorem jE9 (y:Int)(ys:List Int):lexLt [] (y::ys)=true:=rfl
theorem jEA (x:Int)(xs:List Int):lexLt (x::xs) []=false:=rfl
theorem jOK (A:Around)(s:Shared)(a:Int)(t:Tok)(c:Int)(u:Tok):∃ e,SeqAt.EqAt A s (.int a t) (.int c u) e/\(e=true↔a=c):=
 ⟨(a==c),gx a t c u,by simp⟩
theorem rcLt_int (A:Around)(s:Shared)(a:Int)(t:Tok)(c:Int)(u:Tok)(prog:Program)(w:World)(E:Value->Shared->Prop)(Q:Value->Shared->Prop)(h:Q (.bool (decide (a<c))) s):
  wpAny (model prog w) A (richCompare .Lt (.int a t) (.int c u)) Q E s:=
 (PyProof.Rows.lt_int h:wpAny (model prog w) A (compareOp .Lt (.int a t) (.int c u)) Q E s)
section
open PySem.SeqAt
open PySem.AutoSeq1 (wpAny_loadPart')
open PySem.MeetsSeq PySem.MeetsSeq2 PySem.MeetsSeq3
theorem tuple_lt_ints (l b:Addr)(items items2:Array Value)(n n2:Nat)(dd dd2:Option Addr)(sl sl2:Array (Option Value))(ns ms:List Int)(hi:IntsAre items.toList ns)(hj:IntsAre items2.toList ms):
  Meets (Builtin.«tuple.__lt__» ⟨[.ref l, .ref b],[]⟩)
   (fun _ R s=>s.heap.get? l=some { cls:= .type "tuple",dict:=dd,data:= .seq items n,slots:=sl} /\s.heap.get? b=some { cls:= .type "tuple",dict:=dd2,data:= .seq items2 n2,slots:=sl2} /\
    R (.ok (.ret (.bool (lexLt ns ms)))) s):=
 .of_wp fun prog w A R s h=>by
  obtain⟨hp,g,d,tk,os⟩:=s; obtain⟨hl,hb,h⟩:=h
  have f2:=AutoSeq1.sub_tuple_tuple
  have z1:items.size=ns.length:=by rw[<- hi.length]; simp
  have z2:items2.size=ms.length:=by rw[<- hj.length]; simp
  wp_walk using cz hl,cz hb,wpAny_forIn_list _ (fun rest b s'=>b.1=none/\s'=⟨hp,g,d,tk,os⟩/\∃ (vs ws:List Value) (ns' ms':List Int),rest=vs.zip ws/\
   IntsAre vs ns'/\IntsAre ws ms'/\ns'.length+items2.size=ms'.length+items.size/\R (.ok (.ret (.bool (lexLt ns' ms')))) ⟨hp,g,d,tk,os⟩) _
  case turn=>
   rintro ⟨y,x⟩ rest b s' ⟨hb',rfl,vs,ws,ns',ms',hz,hvi,hwi,hlen,hR⟩
   cases hvi with
   | nil=>rw[List.zip_nil_left] at hz; cases hz
   | cons a t hvi'=>
    cases hwi with
    | nil=>rw[List.zip_nil_right] at hz; cases hz
    | cons c u hwi'=>
     rw[dN] at hz
     injection hz with hyx hrest
     injection hyx with hy hx
     subst hy hx
     rw[jAG] at hR
     simp only [aK] at hlen
     obtain⟨e,he,hiff⟩:=jOK A.in1 ⟨hp,g,d,tk,os⟩ a t c u
     refine aa (he prog w _ _ ?_)
     cases e with
     | true=>
      rw[aj (hiff.mp rfl)] at hR
      wp_walk
      exact⟨rfl,rfl,_,_,_,_,hrest,hvi',hwi',by omega,hR⟩
     | false=>
      rw[ai (fun q=>absurd (hiff.mpr q) ah)] at hR
      have hri:=rcLt_int A.in1 ⟨hp,g,d,tk,os⟩ a t c u prog w
      wp_walk using hri
      exact⟨_,rfl,by simpa using hR⟩
  case fin=>
   rintro ⟨b1,b2⟩ s' ⟨hb',rfl,vs,ws,ns',ms',hz,hvi,hwi,hlen,hR⟩
   simp only at hb'
   subst hb'
   have hv:lexLt ns' ms'=decide (items.size<items2.size):=by
    cases hvi with
    | nil=>
     cases hwi with
     | nil=>
      simp only [cQ] at hlen
      rw[jF7]
      exact(aL (by omega)).symm
     | cons c u hw=>
      simp only [cQ,aK] at hlen
      rw[jE9]
      exact(am (by omega)).symm
    | cons a t hv=>
     cases hwi with
     | nil=>
      simp only [cQ,aK] at hlen
      rw[jEA]
      exact(aL (by omega)).symm
     | cons c u hw=>
      rw[dN] at hz
      cases hz
   rw[hv] at hR
   wp_walk
   exact⟨_,rfl,by simpa [Builtin.Tuple.tupleCompareSizes] using hR⟩
  case h=>
   exact⟨rfl,rfl,items.toList,items2.toList,ns,ms,rfl,hi,hj,by omega,h⟩
end
section
variable {prog:Program}{w:World}{A:Around}{E:Value->Shared->Prop}{s:Shared}
theorem lt_tupInts {l b:Addr}{items items2:Array Value}{ns ms:List Int}{Q:Value->Shared->Prop}(hl:IsTup s.heap l items)(hb:IsTup s.heap b items2)(hi:IntsAre items.toList ns)(hj:IntsAre items2.toList ms)
  (hu:A.units<cLine) (h:Q (.bool (lexLt ns ms)) s):wpAny (model prog w) A (compareOp .Lt (.ref l) (.ref b)) Q E s:=by
 obtain⟨⟨cls,dd,data,sl⟩,ho,hc,n,hd⟩:=id hl
 obtain⟨⟨cls2,dd2,data2,sl2⟩,ho2,hc2,n2,hd2⟩:=id hb
 simp only at hc hd hc2 hd2
 subst hc hd hc2 hd2
 exact richCompare_meets_room (op:= .Lt) ⟨_,ho,rfl⟩ ⟨_,ho2,rfl⟩ fk hZ (gY _ _) (tuple_lt_ints l b items items2 n n2 dd dd2 sl sl2 ns ms hi hj)
  ⟨ho,ho2,show Value.bool (lexLt ns ms)≠Value.notImplemented/\Q (.bool (lexLt ns ms)) s from ⟨(fun x=>nomatch x),h⟩⟩ hu
noncomputable def sIx (n d:Nat):Option Int->Nat
 | none=>d
 | some v=>if v<0 then (v+(n:Int)).toNat else min v.toNat n
theorem sIx_none (n d:Nat):sIx n d none=d:=rfl
theorem sIx_nat (n d k:Nat):sIx n d (some (k:Int))=min k n:=by
 show (if (k:Int)<0 then ((k:Int)+(n:Int)).toNat else min (k:Int).toNat n)=min k n
 rw[ai (by omega),bq]
theorem jSU (n d:Nat)(hd:d<=n)(o:Option Int):sIx n d o<=n:=by
 cases o with
 | none=>exact hd
 | some v=>
  show (if v<0 then (v+(n:Int)).toNat else min v.toNat n)<=n
  by_cases hv:v<0
  ·rw[aj hv]; omega
  ·rw[ai hv]; exact Nat.min_le_right _ _
theorem jMQ (v:Int)(n d:Nat):(if v<0 then max (v+(n:Int)) 0 else min v (n:Int))=((sIx n d (some v):Nat):Int):=by
 show (if v<0 then max (v+(n:Int)) 0 else min v (n:Int))=(((if v<0 then (v+(n:Int)).toNat else min v.toNat n):Nat):Int)
 by_cases hv:v<0
 ·simp only [aj hv]; omega
 ·simp only [ai hv]; omega
theorem jK5 (lo hi:Option Int)(n:Nat):Builtin.Slice.sliceAdjust lo hi 1 (n:Int)=(((sIx n 0 lo:Nat):Int),((sIx n n hi:Nat):Int)):=by
 have h1:¬ ((1:Int)<0):=by omega
 unfold Builtin.Slice.sliceAdjust
 simp only [h1,if_false]
 refine Prod.ext ?_ ?_
 ·cases lo with
  | none=>rfl
  | some v=>exact jMQ v n 0
 ·cases hi with
  | none=>rfl
  | some v=>exact jMQ v n n
theorem jJK (i j:Nat):Builtin.Slice.slicePlaces (i:Int) (j:Int) 1=j - i:=by
 unfold Builtin.Slice.slicePlaces
 have h1:(1:Int)>0:=by omega
 simp only [h1,eQ,Int.ediv_one]
 split <;> omega
theorem jEG {v:Value}{o:Option Int}{Q:Option Int->Shared->Prop}(p:IsPart v o)(h:Q o s):wpAny (model prog w) A (Builtin.Slice.slicePartIndex v) Q E s:=by
 cases p with
 | none=>exact slicePart_none h
 | int i t=>exact slicePart_int h
theorem sliceApplied_gen {sl:Addr}{vl vu:Value}{lo hi:Option Int}{n:Nat}{Q:Int×Int×Nat->Shared->Prop}(hs:s.heap.IsSliceOf sl vl vu .none)(pl:IsPart vl lo)(pu:IsPart vu hi)
  (h:Q (((sIx n 0 lo:Nat):Int),1,sIx n n hi - sIx n 0 lo) s):wpAny (model prog w) A (Builtin.Slice.sliceApplied (.ref sl) (pure (n:Int))) Q E s:=by
 obtain⟨os,hos,hcs,hds⟩:=id hs
 unfold Builtin.Slice.sliceApplied Builtin.Slice.sliceFields
 refine aa (aa (bL hos hds (x:=vl) rfl (aa (bL hos hds (x:=vu) rfl (aa (bL hos hds (x:= .none) rfl (af ?_)))))))
 refine aa (slicePart_none ?_)
 show wpAny _ _ (if ((1:Int)==0)=true then _ else _) _ _ s
 rw[ai (by decide)]
 refine aa (jEG pl (aa (jEG pu (aa (af ?_)))))
 show wpAny _ _ (match Builtin.Slice.sliceAdjust lo hi 1 (n:Int) with | (lo,hi)=>pure (lo,(1:Int),Builtin.Slice.slicePlaces lo hi 1)) _ _ s
 rw[jK5 lo hi n]
 show wpAny _ _ (pure (((sIx n 0 lo:Nat):Int),(1:Int),Builtin.Slice.slicePlaces ((sIx n 0 lo:Nat):Int) ((sIx n n hi:Nat):Int) 1)) _ _ s
 rw[jJK]
 exact af h
theorem jNN (xs:Array Value)(i k:Nat):((List.range k).filterMap fun (m:Nat)=>xs[((i:Int)+(m:Int)*1).toNat]?).toArray=((xs.toList.drop i).take k).toArray:=by
 have e:(fun (m:Nat)=>xs[((i:Int)+(m:Int)*1).toNat]?)=fun m=>xs[i+m]?:=by
  funext m
  have:((i:Int)+(m:Int)*1).toNat=i+m:=by omega
  rw[this]
 rw[e]
 have:=pick_run xs i k
 rw[List.filterMap_map] at this
 have e2:((fun x=>xs[x]?) ∘ fun x=>i+x)=fun m=>xs[i+m]?:=rfl
 rw[e2] at this
 rw[this]
theorem getItem_tuple_cut {t sl:Addr}{items:Array Value}{vl vu:Value}{lo hi:Option Int}{Q:Value->Shared->Prop}(ht:IsTup s.heap t items)(hs:s.heap.IsSliceOf sl vl vu .none)(pl:IsPart vl lo)(pu:IsPart vu hi)
  (hw:¬ (sIx items.size 0 lo=0/\sIx items.size items.size hi=items.size))
  (h:Q (.ref s.heap.objs.size) { s with heap:=s.heap.push { cls:= .type "tuple",data:= .seq ((items.toList.drop (sIx items.size 0 lo)).take (sIx items.size items.size hi - sIx items.size 0 lo)).toArray}})
  (hsz:items.size<=sizeLine):wpAny (model prog w) A (getItem (.ref t) (.ref sl)) Q E s:=by
 have htake:sizeOk (.seq ((items.toList.drop (sIx items.size 0 lo)).take (sIx items.size items.size hi - sIx items.size 0 lo)).toArray):=by
  show ((items.toList.drop (sIx items.size 0 lo)).take (sIx items.size items.size hi - sIx items.size 0 lo)).toArray.size<=sizeLine
  rw[aq,be,dq,aG]
  omega
 have hj:sIx items.size items.size hi<=items.size:=jSU _ _ (ak _) hi
 obtain⟨os,hos,hcs,hds⟩:=id hs
 have hTs:s.TypeIs (.ref sl) "slice" :=⟨os,hos,hcs⟩
 unfold getItem
 try with_reducible refine b0 ?_
 first | refine aa (af ?_) | skip
 refine aa (wpAny_sequenceKey ht.typeIs (by decide) ?_)
 refine aa (bD (name:=Str.ofString "__getitem__") ht.typeIs bU
  (bE bU ht.typeIs entry_tuple_getitem ?_ (args_tuple_getitem _ _)))
 show wpAny _ _ (Builtin.Tuple.tupleItemsOf (.ref t) >>= _) _ _ s
 refine aa (tupleItemsOf_ ht ?_)
 refine aa (gj hTs ?_)
 rw[aj (by decide)]
 refine aa (sliceApplied_gen hs pl pu ?_)
 have hno:¬ ((((sIx items.size 0 lo:Nat):Int)==0&&(1:Int)==1&&(sIx items.size items.size hi - sIx items.size 0 lo)==items.size)=true):=by
  intro q
  rw[bF,bF] at q
  have q1:((sIx items.size 0 lo:Nat):Int)=0:=eq_of_beq q.1.1
  have q2:sIx items.size items.size hi - sIx items.size 0 lo=items.size:=eq_of_beq q.2
  exact hw ⟨by omega,by omega⟩
 show wpAny _ _ (if (((sIx items.size 0 lo:Nat):Int)==0&&(1:Int)==1&&(sIx items.size items.size hi - sIx items.size 0 lo)==items.size)=true then _ else _) _ _ s
 rw[ai hno,jNN]
 first
  | exact aa (m:=Builtin.Tuple.tupleExact _) (bI (af ⟨_,rfl,af h⟩) htake)
  | exact aa (m:=Builtin.Tuple.tupleExact _) (bI (aa (af (af ⟨_,rfl,af h⟩))) htake)
  | exact aa (aa (m:=Builtin.Tuple.tupleExact _) (bI (af (af ⟨_,rfl,af h⟩)) htake))
  | exact aa (aa (m:=Builtin.Tuple.tupleExact _) (bI (af ⟨_,rfl,af h⟩) htake))
end
end HT
namespace L2
open PySem PySem.Spec PyProof.Rows
abbrev TO:=St->Hp->(Option Int->Hp->Prop)->Prop
def PO (X:Cx)(e:Option Expr)(t:TO):Prop:=
 ∀ (pins:List (Addr×Obj)) (s:Shared) (σ:St) (H:Hp) (Q:Option Int->Hp->Prop),Inv X pins σ H s->t σ H Q->
  wpAny (model X.prog X.w) X.A (evalPart e X.env) (fun u s'=>∃ o H',Inv X pins σ H' s'/\IsPart u o/\Q o H') X.xe s
def jKH:TO:=fun _ H Q=>Q none H
def tPart (t:TE):TO:=fun σ H Q=>t σ H fun x H1=>∃ i,x= .int i/\Q (some i) H1
theorem jCL {ns:List Int} :∀ {us:List Value},Vals (ns.map V.int) us->IntsAre us ns:=by
 induction ns with
 | nil=>intro us r; rw[h8] at r; cases r; exact .nil
 | cons n ns ih=>
  intro us r
  rw[aY] at r
  cases r with
  | cons r1 r2=>
   obtain⟨t,e⟩:=r1
   subst e
   exact .cons n t (ih r2)
section
variable {X:Cx}{e:Expr}{te:TE}{lo hi:Option Expr}{tl th:TO}{pos p2:Pos}
theorem jQM:PO X none jKH:=by
 intro pins s σ H Q I h
 rw[evalPart_none]
 exact af ⟨none,H,I, .none,h⟩
theorem jQL (h:PE X e te):PO X (some e) (tPart te):=by
 intro pins s σ H Q I hw
 rw[evalPart_some]
 refine thn (h pins s σ H _ I hw) fun u s1 ⟨x,H1,I1,r1,q1⟩=>?_
 obtain⟨i,rfl,q⟩:=q1
 obtain⟨t,rfl⟩:=r1
 exact⟨some i,H1,I1, .int i t,q⟩
def SlR (X:Cx)(r:V->Option Int->Option Int->Hp->VK->Prop):Prop:=
 ∀ (pins:List (Addr×Obj)) (s:Shared) (σ:St) (H:Hp) (x:V) (v vl vu:Value) (lo hi:Option Int) (sl:Addr) (Q:VK),Inv X pins σ H s->RelV x v->s.heap.IsSliceOf sl vl vu .none->IsPart vl lo->IsPart vu hi->r x lo hi H Q->
  ∃ T id,typeLookup (.type T) "__getitem__" =pure (some (.builtin id))/\s.TypeIs v T/\wpAny (model X.prog X.w) X.A (getItem v (.ref sl)) (EP X pins σ Q) X.xe s
def tSl (r:V->Option Int->Option Int->Hp->VK->Prop)(te:TE)(tl th:TO):TE:=fun σ H Q=>te σ H fun x H1=>tl σ H1 fun l H2=>th σ H2 fun u H3=>r x l u H3 Q
theorem jNP {r:V->Option Int->Option Int->Hp->VK->Prop}(hr:SlR X r)(he:PE X e te)(hl:PO X lo tl)(hu:PO X hi th):PE X (.Subscript e (.Slice lo hi none p2) pos) (tSl r te tl th):=by
 intro pins s σ H Q I h
 refine Subscript_ (thn (he pins s σ H _ I h) fun v s1 ⟨x,H1,I1,r1,q1⟩=>?_)
 refine wpAny_Slice (thn (hl pins s1 σ H1 _ I1 q1) fun vl s2 ⟨l,H2,I2,pl,q2⟩=>thn (hu pins s2 σ H2 _ I2 q2) fun vu s3 ⟨u,H3,I3,pu,q3⟩=>?_)
 rw[evalPart_none]
 refine af ?_
 have I4:Inv X pins σ H3 { s3 with heap:=s3.heap.push { cls:= .type "slice",data:= .fields #[vl,vu, .none]}} :=I3.kept (t':=s3.toks) fun b ob q=>ab _ q
 obtain⟨T,id,hT,ht,hg⟩:=hr pins { s3 with heap:=s3.heap.push { cls:= .type "slice",data:= .fields #[vl,vu, .none]}} σ H3 x v vl vu l u s3.heap.objs.size Q I4 r1 (Heap.IsSliceOf.new ..) pl pu q3
 show wpAny (model X.prog X.w) X.A (subscriptTail e (.Slice lo hi none p2) v (.ref s3.heap.objs.size)) (EP X pins σ Q) X.xe { s3 with heap:=s3.heap.push { cls:= .type "slice",data:= .fields #[vl,vu, .none]}}
 exact tail_any (ops:=[.ref s3.heap.objs.size,v]) ht hT hg (by with_unfolding_all rfl)
def cutV (xs:List V)(lo hi:Option Int):List V:=(xs.drop (HT.sIx xs.length 0 lo)).take (HT.sIx xs.length xs.length hi - HT.sIx xs.length 0 lo)
theorem jE6 (xs:List V)(lo hi:Option Int):(cutV xs lo hi).length<=xs.length:=by
 unfold cutV
 rw[be,dq]
 omega
def rSlT (K:W.Frag):V->Option Int->Option Int->Hp->VK->Prop:=fun x lo hi H Q=>∃ a xs,x= .ref a/\SqT K H a xs/\
 ¬ (HT.sIx xs.length 0 lo=0/\HT.sIx xs.length xs.length hi=xs.length)/\∀ p,H p=none->Q (.ref p) (upd H p (.tup (cutV xs lo hi)))
theorem jSR:SlR X (rSlT X.K):=by
 intro pins s σ H x v vl vu lo hi sl Q I rx hs pl pu h
 obtain⟨a,xs,rfl,hx,hw,q⟩:=h
 cases rx
 obtain⟨its,r,ht,hz⟩:=I.tuple hx
 have hlen:its.toArray.size=xs.length:=by rw[aq]; exact r.length.symm
 refine⟨"tuple",_,bU.lookup,ht.typeIs,?_⟩
 refine HT.getItem_tuple_cut ht hs pl pu (by rw[hlen]; exact hw) ?_ (by rw[hlen]; exact hz)
 rw[hlen]
 refine⟨.ref s.heap.objs.size,_,I.laid (t':=s.toks) (o:= .tup (cutV xs lo hi)) (fun b ob q=>ab _ q) (ak _) ?_,rfl,q _ (I.hok.fresh (ak _))⟩
 exact⟨bv (jE6 xs lo hi) hz,_,(r.drop (HT.sIx xs.length 0 lo)).take (HT.sIx xs.length xs.length hi - HT.sIx xs.length 0 lo),TupO.new _ _⟩
def rLtT (K:W.Frag):R2:=fun x y H Q=>∃ a b ns ms,x= .ref a/\y= .ref b/\SqT K H a (ns.map V.int)/\SqT K H b (ms.map V.int)/\Q (.bl (HT.lexLt ns ms)) H
theorem jTH (hu:X.A.units<cLine):OpR X (compareOp .Lt) (rLtT X.K):=by
 intro pins s σ H x y v u Q I rx ry h
 obtain⟨a,b,ns,ms,rfl,rfl,ha,hb,q⟩:=h
 cases rx
 cases ry
 obtain⟨its,r1,p1,_⟩:=I.tuple ha
 obtain⟨its2,r2,p2,_⟩:=I.tuple hb
 have i1:IntsAre its.toArray.toList ns:=jCL r1
 have i2:IntsAre its2.toArray.toList ms:=jCL r2
 exact HT.lt_tupInts p1 p2 i1 i2 hu ⟨.bl (HT.lexLt ns ms),H,I,rfl,q⟩
end
end L2
namespace L2
open PySem PySem.Spec PyProof.Rows
noncomputable def ixN (n:Nat)(i:Int):Option Nat:=if 0<=i then (if i<n then some i.toNat else none) else if -(n:Int)<=i then some (i+n).toNat else none
def atI {α:Type}(xs:List α)(i:Int):Option α:=(ixN xs.length i).bind fun j=>xs[j]?
theorem jM1 {n:Nat}{i:Int}{j:Nat}(h:ixN n i=some j):seqIndex? i n=some j/\j<n/\ -(n:Int)<=i/\i<n:=by
 unfold ixN at h
 by_cases h0:0<=i
 ·rw[aj h0] at h
  by_cases h1:i<n
  ·rw[aj h1] at h
   have e:i.toNat=j:=aU h
   exact⟨by rw[seqIndex_of h0 h1,e],by omega,by omega,h1⟩
  ·rw[ai h1] at h; cases h
 ·rw[ai h0] at h
  by_cases h1: -(n:Int)<=i
  ·rw[aj h1] at h
   have e:(i+n).toNat=j:=aU h
   exact⟨by rw[seqIndex_neg (by omega) h1,e],by omega,h1,by omega⟩
  ·rw[ai h1] at h; cases h
theorem jN6 {α:Type}{xs:List α}{i:Int}{v:α}(h:atI xs i=some v):∃ j,seqIndex? i xs.length=some j/\xs[j]?=some v/\j<xs.length/\ -(xs.length:Int)<=i/\i<xs.length:=by
 unfold atI at h
 cases e:ixN xs.length i with
 | none=>rw[e] at h; cases h
 | some j=>
  rw[e] at h
  obtain⟨h1,h2,h3,h4⟩:=jM1 e
  exact⟨j,h1,h,h2,h3,h4⟩
theorem yT {α:Type}{xs:List α}{j:Nat}{v:α}(h:xs[j]?=some v):atI xs (j:Int)=some v:=by
 have hj:j<xs.length:=(ag.mp h).1
 have e:ixN xs.length (j:Int)=some j:=by
  unfold ixN
  rw[aj (by omega),aj (by omega)]; simp
 unfold atI; rw[e]; exact h
def jAW (b:Expr):Prop:=∀ o i,subscripted b false o i=operate [o,i] (getItem o i)
def IxR (X:Cx)(r:R2):Prop:=
 ∀ (value slice:Expr) (pins:List (Addr×Obj)) (s:Shared) (σ:St) (H:Hp) (x y:V) (v u:Value) (Q:VK),Inv X pins σ H s->RelV x v->RelV y u->r x y H Q->
  subscripted slice false v u=operate [v,u] (getItem v u)->wpAny (model X.prog X.w) X.A (subscriptTail value slice v u) (EP X pins σ Q) X.xe s
def MtR (X:Cx)(id:String)(r:V->List V->Hp->VK->Prop):Prop:=
 ∀ (pins:List (Addr×Obj)) (s:Shared) (σ:St) (H:Hp) (x:V) (xs:List V) (v:Value) (us:List Value) (Q:VK),Inv X pins σ H s->RelV x v->Vals xs us->r x xs H Q->
  wpAny (model X.prog X.w) X.A (call (.builtin id) (v::us)) (EP X pins σ Q) X.xe s
section
variable {X:Cx}{a b:Expr}{ta tb:TE}{pos:Pos}
theorem pe_ix {r:R2}(hr:IxR X r)(ha:PE X a ta)(hb:PE X b tb)(hs:jAW b):PE X (.Subscript a b pos) (tOp r ta tb):=by
 intro pins s σ H Q I h
 exact Subscript_ (binT ha hb I h fun v u s2 x y H2 I2 rx ry q=>hr a b pins s2 σ H2 x y v u Q I2 rx ry q (hs _ _))
def rIxL (K:W.Frag):R2:=fun x y H Q=>∃ p xs i v,x= .ref p/\y= .int i/\SqL K H p xs/\atI xs i=some v/\Q v H
def rIxT (K:W.Frag):R2:=fun x y H Q=>∃ p xs i v,x= .ref p/\y= .int i/\SqT K H p xs/\atI xs i=some v/\Q v H
theorem yK:IxR X (rIxL X.K):=by
 intro value slice pins s σ H x y v u Q I rx ry h hs
 obtain⟨p,xs,i,z,rfl,rfl,hq,he,q⟩:=h
 cases rx
 obtain⟨t,rfl⟩:=ry
 obtain⟨its,r,pl,hz⟩:=I.list hq
 obtain⟨j,h1,h2,h3,h4,h5⟩:=jN6 he
 obtain⟨w,ew,rw'⟩:=r.get h2
 have hl:=r.length
 have hn:=jGD
 have fin:EP X pins σ Q w s:=⟨z,H,I,rw',q⟩
 by_cases h0:0<=i
 ·have hj:i.toNat=j:=by
   rw[seqIndex_of h0 h5] at h1
   exact aU h1
  exact item_listR pl.isList h0 (by omega) (by rw[hj]; simpa using ew) fin hs
 ·have hj:(i+(its.toArray.size:Int)).toNat=j:=by
   rw[seqIndex_neg (by omega) h4] at h1
   rw[aq,<- hl]
   exact aU h1
  exact subscriptTail_builtinR (x:=w) pl.isList.typeIs slot_list_getitem.lookup
   (wpAny_getItem_list_neg (Q:=fun r s'=>r=w/\EP X pins σ Q r s') pl.isList (by omega) (by rw[aq] <;> omega) (by omega) (by rw[hj]; simpa using ew) ⟨rfl,fin⟩) hs
theorem kQ:IxR X (rIxT X.K):=by
 intro value slice pins s σ H x y v u Q I rx ry h hs
 obtain⟨p,xs,i,z,rfl,rfl,hq,he,q⟩:=h
 cases rx
 obtain⟨t,rfl⟩:=ry
 obtain⟨its,r,pl,hz⟩:=I.tuple hq
 obtain⟨j,h1,h2,h3,h4,h5⟩:=jN6 he
 obtain⟨w,ew,rw'⟩:=r.get h2
 have hl:=r.length
 have hn:=jGD
 have fin:EP X pins σ Q w s:=⟨z,H,I,rw',q⟩
 exact subscriptTail_builtinR (x:=w) pl.typeIs slot_tuple_getitem.lookup
  (getItem_tuple (j:=j) (Q:=fun r s'=>r=w/\EP X pins σ Q r s') pl (by omega) (by omega) (by rw[aq,<- hl]; exact h1) (by simpa using ew) ⟨rfl,fin⟩) hs
theorem jJQ (its:List Value)(n j:Nat)(u:Value):Obj.mapSeq (·.setIfInBounds j u) { cls:= .type "list",data:= .seq its.toArray n} = { cls:= .type "list",data:= .seq (its.set j u).toArray n} :=by
 simp [Obj.mapSeq]
theorem Inv.lst {pins:List (Addr×Obj)}{σ:St}{H:Hp}{s:Shared}{p:Addr}{xs:List V}(I:Inv X pins σ H s)(h:H p=some (.lst xs)):
  ∃ (its:List Value) (n:Nat),Vals xs its/\s.heap.get? p=some { cls:= .type "list",data:= .seq its.toArray n} /\xs.length<=sizeLine:=by
 obtain⟨z,its,n,r,e⟩:=I.hok p _ h
 exact⟨its,n,r,e,z⟩
theorem Inv.lstUpd {pins:List (Addr×Obj)}{σ:St}{H:Hp}{s:Shared}{p:Addr}{xs ys:List V}{its its':List Value}{n n':Nat}{f:Obj->Obj}(I:Inv X pins σ H s)(h:H p=some (.lst xs))
  (ho:s.heap.get? p=some { cls:= .type "list",data:= .seq its.toArray n}) (hf:f { cls:= .type "list",data:= .seq its.toArray n} = { cls:= .type "list",data:= .seq its'.toArray n'}) (r:Vals ys its') (hz:ys.length<=sizeLine) (t:Nat):
  Inv X pins σ (upd H p (.lst ys)) { s with heap:=s.heap.update p f,toks:=t} :=by
 have e:(s.heap.update p f).get? p=some { cls:= .type "list",data:= .seq its'.toArray n'} :=by
  rw[dz f ho (by rw[hf] <;> rfl),hf]
 refine I.write (x:=p) (e:=p) (by rw[h]; trivial) (.inl rfl) (fun b u hb q=>(dk _ _ (dD hb)).trans q) ⟨_,e⟩ ?_
 exact⟨hz,its',n',r,e⟩
def rSetL:V->V->V->Hp->(Hp->Prop)->Prop:=fun o i v H Q=>∃ p xs k j,o= .ref p/\i= .int k/\H p=some (.lst xs)/\ixN xs.length k=some j/\Q (upd H p (.lst (xs.set j v)))
theorem jIA:PSet X rSetL:=by
 intro pins s σ H o i v ov iv u Q I ro ri rv h
 obtain⟨p,xs,k,j,rfl,rfl,hp,hj,q⟩:=h
 cases ro
 obtain⟨t,rfl⟩:=ri
 obtain⟨its,n,r,ho,hz⟩:=I.lst hp
 obtain⟨h1,h2,h3,h4⟩:=jM1 hj
 have hl:=r.length
 have hn:=jGD
 have I':Inv X pins σ (upd H p (.lst (xs.set j v))) { s with heap:=s.heap.update p (Obj.mapSeq (·.setIfInBounds j u))} :=
  I.lstUpd hp ho (jJQ its n j u) (r.set rv j) (by rw[List.length_set]; exact hz) s.toks
 by_cases h0:0<=k
 ·have hk:k.toNat=j:=by
   rw[seqIndex_of h0 h4] at h1
   exact aU h1
  exact PySem.W.ki_setAt ho h0 (by omega) (by rw[aq,<- hl]; exact h4) (by rw[hk]; exact⟨_,I',q⟩)
 ·have hk:(k+(its.toArray.size:Int)).toNat=j:=by
   rw[seqIndex_neg (by omega) h3] at h1
   rw[aq,<- hl]
   exact aU h1
  exact PySem.W.ki_setBack ho (by omega) (by rw[aq,<- hl]; exact h3) (by omega) (by rw[hk]; exact⟨_,I',q⟩)
theorem jFX (lo hi:Option Int)(n:Nat):(sliceBounds lo hi none n).1=((HT.sIx n 0 lo:Nat):Int)/\(sliceBounds lo hi none n).2.1=((HT.sIx n n hi:Nat):Int)/\(sliceBounds lo hi none n).2.2=1:=by
 refine⟨?_,?_,rfl⟩
 ·cases lo with
  | none=>simp [sliceBounds,HT.sIx]
  | some i=>
   simp only [sliceBounds,HT.sIx,getD_none,show (1:Int)>0 by decide,eQ]
   by_cases h:i<0
   ·simp only [h,eQ] <;> omega
   ·simp only [h,if_false] <;> omega
 ·cases hi with
  | none=>simp [sliceBounds,HT.sIx]
  | some i=>
   simp only [sliceBounds,HT.sIx,getD_none,show (1:Int)>0 by decide,eQ]
   by_cases h:i<0
   ·simp only [h,eQ] <;> omega
   ·simp only [h,if_false] <;> omega
theorem jEW (its:List Value)(lo hi:Option Int):slicePick its.toArray lo hi none=((its.drop (HT.sIx its.length 0 lo)).take (HT.sIx its.length its.length hi - HT.sIx its.length 0 lo)).toArray:=by
 obtain⟨h1,h2,h3⟩:=jFX lo hi its.toArray.size
 unfold slicePick
 rw[h1,h2,h3]
 simp only [sliceRange_one,pick_run,aq] <;> rfl
def rSlL (K:W.Frag):V->Option Int->Option Int->Hp->VK->Prop:=fun x lo hi H Q=>∃ a xs,x= .ref a/\SqL K H a xs/\∀ p,H p=none->Q (.ref p) (upd H p (.lst (cutV xs lo hi)))
theorem jKM:SlR X (rSlL X.K):=by
 intro pins s σ H x v vl vu lo hi sl Q I rx hs pl pu h
 obtain⟨a,xs,rfl,hx,q⟩:=h
 cases rx
 obtain⟨its,r,ht,hz⟩:=I.list hx
 have hlen:=r.length
 refine⟨"list",_,slot_list_getitem.lookup,ht.isList.typeIs,?_⟩
 refine wpAny_getItem_list_slice ht.isList hs pl pu .none (by simp) ?_ (by rw[aq] <;> omega)
 rw[jEW,<- hlen]
 refine⟨.ref s.heap.objs.size,_,I.laid (t':=s.toks) (o:= .lst (cutV xs lo hi)) (fun b ob q=>ab _ q) (ak _) ?_,rfl,q _ (I.hok.fresh (ak _))⟩
 exact⟨bv (jE6 xs lo hi) hz,_,0,(r.drop (HT.sIx xs.length 0 lo)).take (HT.sIx xs.length xs.length hi - HT.sIx xs.length 0 lo),az _ rfl⟩
def qO:V->Bool
 | .non=>true
 | .bl _=>true
 | .int _=>true
 | .str _=>true
 | _=>false
noncomputable def eqV:V->V->Bool
 | .non, .non=>true
 | .bl a, .bl b=>a==b
 | .bl a, .int b=>(if a then 1 else 0)==b
 | .int a, .bl b=>a==(if b then 1 else 0)
 | .int a, .int b=>a==b
 | .str a, .str b=>a==b
 | _,_=>false
theorem jPQ {A:Around}{s:Shared}{y x:V}{u v:Value}(ry:RelV y u)(rx:RelV x v)(fy:qO y=true)(fx:qO x=true):SeqAt.EqAt A s u v (eqV y x):=by
 cases y with
 | non=>
  cases ry
  cases x with
  | non=>cases rx; exact SeqAt.EqAt.same _
  | bl b=>cases rx; exact SeqAt.EqAt.none_bool b
  | int b=>obtain⟨t,rfl⟩:=rx; exact SeqAt.EqAt.none_int b t
  | str b=>obtain⟨t,rfl⟩:=rx; exact SeqAt.EqAt.none_str b t
  | _=>exact absurd (show false=true from fx) ah
 | bl a=>
  cases ry
  cases x with
  | non=>cases rx; exact SeqAt.EqAt.bool_none a
  | bl b=>cases rx; exact SeqAt.EqAt.bool_bool a b
  | int b=>obtain⟨t,rfl⟩:=rx; exact SeqAt.EqAt.bool_int a b t
  | str b=>obtain⟨t,rfl⟩:=rx; exact SeqAt.EqAt.bool_str a b t
  | _=>exact absurd (show false=true from fx) ah
 | int a=>
  obtain⟨t',rfl⟩:=ry
  cases x with
  | non=>cases rx; exact SeqAt.EqAt.int_none a t'
  | bl b=>cases rx; exact SeqAt.EqAt.int_bool a t' b
  | int b=>obtain⟨t,rfl⟩:=rx; exact gx a t' b t
  | str b=>obtain⟨t,rfl⟩:=rx; exact SeqAt.EqAt.int_str a t' b t
  | _=>exact absurd (show false=true from fx) ah
 | str a=>
  obtain⟨t',rfl⟩:=ry
  cases x with
  | non=>cases rx; exact SeqAt.EqAt.str_none a t'
  | bl b=>cases rx; exact SeqAt.EqAt.str_bool a t' b
  | int b=>obtain⟨t,rfl⟩:=rx; exact SeqAt.EqAt.str_int a t' b t
  | str b=>obtain⟨t,rfl⟩:=rx; exact SeqAt.EqAt.str_str a t' b t
  | _=>exact absurd (show false=true from fx) ah
 | _=>exact absurd (show false=true from fy) ah
noncomputable def eqU (x:V)(u:Value):Bool:=match u with
 | .none=>eqV .non x
 | .bool b=>eqV (.bl b) x
 | .int i _=>eqV (.int i) x
 | .str z _=>eqV (.str z) x
 | _=>false
theorem jMF {x y:V}{u:Value}(r:RelV y u)(f:qO y=true):eqU x u=eqV y x:=by
 cases y with
 | non=>cases r; rfl
 | bl b=>cases r; rfl
 | int i=>obtain⟨t,rfl⟩:=r; rfl
 | str z=>obtain⟨t,rfl⟩:=r; rfl
 | _=>exact absurd (show false=true from f) ah
theorem jE8 {x:V} :∀ {xs:List V}{us:List Value},Vals xs us->xs.all qO=true->us.any (eqU x)=xs.any fun y=>eqV y x
 | _,_, .nil,_=>rfl
 | y::xs,u::us, .cons r t,f=>by
  rw[dn,bF] at f
  rw[fz,fz,jMF r f.1,jE8 t f.2]
theorem jB8 {A:Around}{s:Shared}{x:V}{v:Value}(rx:RelV x v)(fx:qO x=true):∀ {xs:List V}{us:List Value},Vals xs us->xs.all qO=true->∀ u∈us,SeqAt.EqAt A s u v (eqU x u)
 | _,_, .nil,_=>fun u hu=>by cases hu
 | y::xs,u::us, .cons r t,f=>fun u' hu=>by
  rw[dn,bF] at f
  rcases aB.mp hu with rfl | hu
  ·rw[jMF r f.1]; exact jPQ r rx f.1 fx
  ·exact jB8 rx fx t f.2 u' hu
def inV (x:V)(xs:List V):Bool:=xs.any fun y=>eqV y x
def rIn (K:W.Frag)(neg:Bool):R2:=fun x y H Q=>∃ p xs,y= .ref p/\(SqL K H p xs\/SqT K H p xs)/\qO x=true/\xs.all qO=true/\Q (.bl (if neg then !inV x xs else inV x xs)) H
theorem jG7:OpR X (compareOp .In) (rIn X.K false):=by
 intro pins s σ H x y v u Q I rx ry h
 obtain⟨p,xs,rfl,hq,fx,fs,q⟩:=h
 cases ry
 rcases hq with hq | hq
 ·obtain⟨its,r,pl,hz⟩:=I.list hq
  refine SeqAt.in_listAt (eqU x) pl.isList (fun w hw=>jB8 rx fx r fs w (by simpa using hw)) ⟨.bl _,H,I,rfl,?_⟩
  rw[show its.toArray.any (eqU x)=its.any (eqU x) by simp,jE8 r fs]
  exact q
 ·obtain⟨its,r,pl,hz⟩:=I.tuple hq
  refine SeqAt.in_tupleAt (eqU x) pl (fun w hw=>jB8 rx fx r fs w (by simpa using hw)) ⟨.bl _,H,I,rfl,?_⟩
  rw[show its.toArray.any (eqU x)=its.any (eqU x) by simp,jE8 r fs]
  exact q
theorem jG5:OpR X (compareOp .NotIn) (rIn X.K true):=by
 intro pins s σ H x y v u Q I rx ry h
 obtain⟨p,xs,rfl,hq,fx,fs,q⟩:=h
 cases ry
 rcases hq with hq | hq
 ·obtain⟨its,r,pl,hz⟩:=I.list hq
  refine SeqAt.notIn_listAt (eqU x) pl.isList (fun w hw=>jB8 rx fx r fs w (by simpa using hw)) ⟨.bl _,H,I,rfl,?_⟩
  rw[show its.toArray.any (eqU x)=its.any (eqU x) by simp,jE8 r fs]
  exact q
 ·obtain⟨its,r,pl,hz⟩:=I.tuple hq
  refine SeqAt.notIn_tupleAt (eqU x) pl (fun w hw=>jB8 rx fx r fs w (by simpa using hw)) ⟨.bl _,H,I,rfl,?_⟩
  rw[show its.toArray.any (eqU x)=its.any (eqU x) by simp,jE8 r fs]
  exact q
theorem jU:yO X (.builtin "len") (fun xs H Q=>∃ p ys,xs=[.ref p]/\(SqL X.K H p ys\/SqT X.K H p ys)/\Q (.int ys.length) H):=by
 intro pins s σ H xs us Q I r h
 obtain⟨p,ys,rfl,hq,q⟩:=h
 obtain⟨u,rfl,rx⟩:=vals1 r
 cases rx
 have hn:=jGD
 rcases hq with hq | hq
 ·obtain⟨its,r',pl,hz⟩:=I.list hq
  have hlen:=r'.length
  exact Calls.call_len_list pl.isList (by simp only [aq] <;> omega) ⟨.int ys.length,H,I.tok _,⟨s.toks+1,by rw[aq,hlen]⟩,q⟩
 ·obtain⟨its,r',pl,hz⟩:=I.tuple hq
  have hlen:=r'.length
  exact len_tuple pl (by simp only [aq] <;> omega) ⟨.int ys.length,H,I.tok _,⟨s.toks+1,by rw[aq,hlen]⟩,q⟩
theorem jA0:yO X (.type "tuple") (fun xs H Q=>∃ p ys,xs=[.ref p]/\((SqL X.K H p ys/\∀ l,H l=none->Q (.ref l) (upd H l (.tup ys)))\/(SqT X.K H p ys/\Q (.ref p) H))):=by
 intro pins s σ H xs us Q I r h
 obtain⟨p,ys,rfl,h⟩:=h
 obtain⟨u,rfl,rx⟩:=vals1 r
 cases rx
 rcases h with ⟨hq,q⟩ | ⟨hq,q⟩
 ·obtain⟨its,r',pl,hz⟩:=I.list hq
  have hlen:=r'.length
  refine call_tuple_list pl.isList (fun h' kp=>?_) (by simp only [aq] <;> omega)
  have I1:Inv X pins σ H { s with heap:=h'} :=I.kept (t':=s.toks) kp
  have I2:Inv X pins σ (upd H h'.objs.size (.tup ys)) { s with heap:=h'.push { cls:= .type "tuple",data:= .seq its.toArray}} :=
   I1.laid (t':=s.toks) (fun b o e=>ab _ e) (ak _) (show ObjOk X.prog X.w _ _ _ (.tup ys) from ⟨hz,its,r',TupO.new _ _⟩)
  exact⟨.ref h'.objs.size,_,I2,rfl,q _ (I1.hok.fresh (ak _))⟩
 ·obtain⟨its,r',pl,hz⟩:=I.tuple hq
  exact call_tuple_same pl ⟨.ref p,H,I,rfl,q⟩
def tyV (K:W.Frag)(T:String)(x:V)(H:Hp):Prop:=match x with
 | .str _=>T= "str"
 | .int _=>T= "int"
 | .ref p=>(T= "list" /\∃ xs,SqL K H p xs)\/(T= "tuple" /\∃ o,K.lookup p=some o/\o.cls= .type "tuple" /\o.dict=none)\/
   (T= "dict" /\((∃ kvs,H p=some (.dK kvs))\/∃ kvs,H p=some (.dT kvs)))\/(T= "set" /\∃ S n,H p=some (.set S n))
 | _=>False
theorem jOY {pins:List (Addr×Obj)}{σ:St}{H:Hp}{s:Shared}{T:String}{x:V}{v:Value}(I:Inv X pins σ H s)(r:RelV x v)(ty:tyV X.K T x H):
  s.TypeIs v T/\∀ a,v= .ref a->∃ ob,s.heap.get? a=some ob/\ob.dict=none:=by
 cases x with
 | str z=>
  obtain⟨t,rfl⟩:=r
  cases (show T= "str" from ty)
  exact⟨typeIs_str s z t,fun _ e=>nomatch e⟩
 | int i=>
  obtain⟨t,rfl⟩:=r
  cases (show T= "int" from ty)
  exact⟨typeIs_int s i t,fun _ e=>nomatch e⟩
 | ref p=>
  cases r
  rcases ty with ⟨rfl,xs,hq⟩ | ⟨rfl,o,hk,hc,hd⟩ | ⟨rfl,hk⟩ | ⟨rfl,S,n,hk⟩
  ·obtain⟨its,_,pl,_⟩:=I.list hq
   refine⟨pl.isList.typeIs,fun a e=>?_⟩
   cases e
   obtain⟨o,n,e,c,hd,_⟩:=pl
   exact⟨o,e,hd⟩
  ·refine⟨⟨o,I.kIn p o hk,hc⟩,fun a e=>?_⟩
   cases e
   exact⟨o,I.kIn _ o hk,hd⟩
  ·have z:∃ o,s.heap.get? p=some o/\o.ExactDict:=by
    rcases hk with ⟨kvs,hk⟩ | ⟨kvs,hk⟩
    ·obtain⟨_,_,_,_,o,_,_,e,ex,_⟩:=I.hok p _ hk
     exact⟨o,e,ex⟩
    ·obtain⟨_,_,_,_,o,_,_,e,ex,_⟩:=I.hok p _ hk
     exact⟨o,e,ex⟩
   obtain⟨o,e,ex⟩:=z
   refine⟨⟨o,e,ex.1⟩,fun a e2=>?_⟩
   cases e2
   exact⟨o,e,ex.2.1⟩
  ·obtain⟨o,_,_,_,e,ex,_⟩:=I.hok p _ hk
   refine⟨⟨o,e,ex.1⟩,fun a e2=>?_⟩
   cases e2
   exact⟨o,e,ex.2.1⟩
 | _=>exact False.elim ty
def tBM0 (K:W.Frag)(T:String)(r:V->List V->Hp->VK->Prop)(to:TE):TE:=fun σ H Q=>to σ H fun x H1=>tyV K T x H1/\r x [] H1 Q
def tBM (K:W.Frag)(T:String)(r:V->List V->Hp->VK->Prop)(to:TE)(t:TA):TE:=fun σ H Q=>to σ H fun x H1=>tyV K T x H1/\t σ H1 fun xs H2=>r x xs H2 Q
variable {o e:Expr}{es:List Expr}{to:TE}{t:TA}{name:Str}{apos cpos:Pos}{T id:String}{r:V->List V->Hp->VK->Prop}
theorem jTD (pa:PlainAttrs T)(slot:Slot T name id)(hty:typeOf (.builtin id)=pure (.type "method_descriptor"))(hm:MtR X id r)(ho:PE X o to)
  (hbase:attributeBase o name X.env (eval o X.env)=eval o X.env:=by rfl) (hline:(apos.endLine==cpos.line)=true:=by rfl):PE X (.Call (.Attribute o name apos) [] [] cpos) (tBM0 X.K T r to):=by
 intro pins s σ H Q I h
 refine wpAny_Call_method0_late hbase hline (thn (ho pins s σ H _ I h) fun v s1 ⟨x,H1,I1,r1,ty,q1⟩=>?_)
 obtain⟨h1,h2⟩:=jOY I1 r1 ty
 exact⟨T,id,pa,slot,hty,h1,h2,fb rfl (iS (hm pins s1 σ H1 x [] v [] Q I1 r1 .nil q1))⟩
theorem pe_bm (pa:PlainAttrs T)(slot:Slot T name id)(hty:typeOf (.builtin id)=pure (.type "method_descriptor"))(hm:MtR X id r)(ho:PE X o to)(ha:PA X (e::es) t)
  (hbase:attributeBase o name X.env (eval o X.env)=eval o X.env:=by rfl)
  (hfew:((backTo cpos (starEach (e::es) X.env)).all (fun x=>!x.1)&&(backToKw cpos (keywordEach [] X.env)).all (fun x=>x.1.isSome)
   &&decide ((e::es).length+([]:List Keyword).length+(if ([]:List Keyword).isEmpty then 0 else 1)<30))=true:=by rfl)
  (hline:(apos.endLine==cpos.line)=true:=by rfl) (hs:starEach (e::es) X.env=(false,eval e X.env)::starEach es X.env:=by rfl) (hplain:(backTo cpos (starEach es X.env)).any (·.1)=false:=by rfl):
  PE X (.Call (.Attribute o name apos) (e::es) [] cpos) (tBM X.K T r to t):=by
 intro pins s σ H Q I h
 refine wpAny_Call_method_late hbase hfew hline rfl (thn (ho pins s σ H _ I h) fun v s1 ⟨x,H1,I1,r1,ty,q1⟩=>?_)
 obtain⟨h1,h2⟩:=jOY I1 r1 ty
 refine⟨T,id,pa,slot,hty,h1,h2,?_⟩
 have hA:=ha cpos pins s1 σ H1 _ I1 q1
 rw[hs] at hA ⊢
 refine fb (by show (false || (backTo cpos (starEach es X.env)).any (·.1))=false; rw[hplain] <;> rfl) (Calls.evalArgs_plain ?_)
 exact thn hA fun us s2 ⟨vs,H2,I2,r2,q2⟩=>hm pins s2 σ H2 x vs v us Q I2 r1 r2 q2
/- xs.append(e),list.index on a module's tuple .. are MtR facts of 06m -/
end
end L2
namespace L2
open PySem PySem.Spec PyProof.Rows
def MtM (X:Cx)(id:String)(r:V->List V->Hp->VK->Prop):Prop:=
 ∀ (pins:List (Addr×Obj)) (s:Shared) (σ:St) (H:Hp) (x:V) (xs:List V) (v:Value) (us:List Value) (Q:VK),Inv X pins σ H s->RelV x v->Vals xs us->r x xs H Q->
  wpAny (model X.prog X.w) X.A (call (.builtin id) (v::us)) (EP X pins σ Q) X.xe s
theorem Vals.one:∀ {x:V}{us:List Value},Vals [x] us->∃ u,us=[u]/\RelV x u
 | _,_, .cons r .nil=>⟨_,rfl,r⟩
theorem Vals.two:∀ {x y:V}{us:List Value},Vals [x,y] us->∃ u v,us=[u,v]/\RelV x u/\RelV y v
 | _,_,_, .cons r (.cons q .nil)=>⟨_,_,rfl,r,q⟩
theorem Vals.zero:∀ {us:List Value},Vals [] us->us=[]
 | _, .nil=>rfl
theorem Vals.dropLast {xs:List V}{us:List Value}(h:Vals xs us):Vals xs.dropLast us.dropLast:=by
 induction h with
 | nil=>exact .nil
 | cons r t ih=>
  cases t with
  | nil=>exact .nil
  | cons q t'=>exact .cons r ih
theorem Vals.rep {xs:List V}{us:List Value}(h:Vals xs us):∀ k:Nat,Vals (replicate k xs).flatten (replicate k us).flatten
 | 0=> .nil
 | k+1=>by
  rw[cg,cg,dU,dU]
  exact Vals.append h (Vals.rep h k)
theorem jK2 {α:Type}(l:List α):l.eraseIdx (l.length - 1)=l.dropLast:=by
 induction l with
 | nil=>rfl
 | cons a r ih=>
  cases r with
  | nil=>rfl
  | cons b r=>
   have e:(a::b::r).length - 1=((b::r).length - 1)+1:=by
    have h1:(a::b::r).length=r.length+2:=rfl
    have h2:(b::r).length=r.length+1:=rfl
    omega
   rw[e,List.eraseIdx_cons_succ,ih]
   all_goals rfl
theorem jGG (its:List Value):∀ (k:Nat) (acc:List Value),
  List.foldl (fun x1 x2=>x1++x2) acc.toArray (replicate k its.toArray)=(acc++(replicate k its).flatten).toArray
 | 0,acc=>by simp
 | k+1,acc=>by
  have e:acc.toArray++its.toArray=(acc++its).toArray:=by simp
  have e2:(acc++its)++(replicate k its).flatten=acc++(replicate (k+1) its).flatten:=by
   rw[cg,dU,aQ]
  rw[<- e2,<- jGG its k (acc++its),<- e,cg,List.foldl_cons]
section
variable {X:Cx}{pins:List (Addr×Obj)}{σ:St}{H:Hp}{s:Shared}{l b:Addr}{xs ys zs:List V}
theorem Inv.lset {its its':List Value}{n:Nat}{f:Array Value->Array Value}{t':Nat}(I:Inv X pins σ H s)(hH:H l=some (.lst xs))
  (e:s.heap.get? l=some { cls:= .type "list",data:= .seq its.toArray n}) (hf:f its.toArray=its'.toArray) (hv:Vals ys its') (hz:ys.length<=sizeLine):
  Inv X pins σ (upd H l (.lst ys)) { s with heap:=s.heap.update l (Obj.mapSeq f),toks:=t'} :=by
 have q:=PySem.IsL.update e f
 rw[hf] at q
 refine I.write (x:=l) (e:=l) (by rw[hH]; exact trivial) (.inl rfl) (fun b' u hb hu=>(dk s.heap (Obj.mapSeq f) (dD hb)).trans hu) ⟨_,q⟩ ?_
 exact⟨hz,its',_,hv,q⟩
theorem Inv.lnew {its:List Value}{t':Nat}(I:Inv X pins σ H s)(hv:Vals ys its)(hz:ys.length<=sizeLine):
  Inv X pins σ (upd H s.heap.objs.size (.lst ys)) { s with heap:=s.heap.push { cls:= .type "list",data:= .seq its.toArray},toks:=t'} :=
 I.laid (fun _ _ q=>ab _ q) (ak _) ⟨hz,its,0,hv,az _ rfl⟩
theorem Inv.fresh (I:Inv X pins σ H s):H s.heap.objs.size=none:=I.hok.fresh (ak _)
theorem Inv.lstM (I:Inv X pins σ H s)(hH:H l=some (.lst xs)):xs.length<=sizeLine/\∃ (its:List Value) (n:Nat),Vals xs its/\xs.length=its.length/\s.heap.get? l=some { cls:= .type "list",data:= .seq its.toArray n} :=by
 obtain⟨z,its,n,r,e⟩:=I.hok l _ hH
 exact⟨z,its,n,r,r.length,e⟩
theorem jIN {n:Nat}(h:n<=sizeLine):Builtin.List.listTooLong n=false:=by
 unfold Builtin.List.listTooLong
 exact aL (by omega)
end
section
variable {X:Cx}
def jQC:V->List V->Hp->VK->Prop:=fun x vs H Q=>∃ l xs y,x= .ref l/\vs=[y]/\H l=some (.lst xs)/\xs.length<sizeLine/\Q .non (upd H l (.lst (xs++[y])))
theorem jB1:MtM X "list.append" jQC:=by
 intro pins s σ H x vs v us Q I rx rv h
 obtain⟨l,xs,y,rfl,rfl,hH,hz,q⟩:=h
 cases rx
 obtain⟨u,rfl,ru⟩:=rv.one
 obtain⟨z,its,n,r,hl,e⟩:=I.lstM hH
 refine eS F.slot_list_append ⟨_,e,rfl⟩ F.entry_list_append (F.args_list_append_2 _ _) (PySem.list_append l its.toArray n u (by rw[aq]; omega)) ⟨e,?_⟩
 refine⟨.non,_,I.lset (its':=its++[u]) hH e (by simp) (r.append (.cons ru .nil)) ?_,rfl,q⟩
 rw[aE,iy]
 omega
def rPop:V->List V->Hp->VK->Prop:=fun x vs H Q=>∃ l xs y,x= .ref l/\vs=[]/\H l=some (.lst xs)/\xs[xs.length - 1]?=some y/\Q y (upd H l (.lst xs.dropLast))
theorem jTR:MtM X "list.pop" rPop:=by
 intro pins s σ H x vs v us Q I rx rv h
 obtain⟨l,xs,y,rfl,rfl,hH,hy,q⟩:=h
 cases rx
 have hus:=rv.zero
 subst hus
 obtain⟨z,its,n,r,hl,e⟩:=I.lstM hH
 obtain⟨u,hu,ru⟩:=r.get hy
 have hy':its.toArray[its.toArray.size - 1]?=some u:=by
  show its.toArray[its.length - 1]?=some u
  rw[<- bu,<- hl]
  exact hu
 refine eS F.slot_list_pop ⟨_,e,rfl⟩ F.entry_list_pop (F.args_list_pop_1 _) (MeetsSeq.list_pop_last l its.toArray n u hy' (by rw[aq]; omega)) ⟨e,?_⟩
 refine⟨y,_,I.lset (its':=its.dropLast) hH e ?_ r.dropLast ?_,ru,q⟩
 ·show its.toArray.eraseIdxIfInBounds (its.toArray.size - 1)=its.dropLast.toArray
  rw[aq,List.eraseIdxIfInBounds_toArray,jK2]
 ·rw[List.length_dropLast]
  omega
def rCat:R2:=fun x y H Q=>∃ l b xs zs,x= .ref l/\y= .ref b/\H l=some (.lst xs)/\H b=some (.lst zs)/\xs.length+zs.length<=sizeLine/\∀ p,H p=none->Q (.ref p) (upd H p (.lst (xs++zs)))
theorem jTJ:OpR X (binaryOp .Add) rCat:=by
 intro pins s σ H x y v u Q I rx ry h
 obtain⟨l,b,xs,zs,rfl,rfl,hH,hB,hz,q⟩:=h
 cases rx
 cases ry
 obtain⟨z,its,n,r,hl,e⟩:=I.lstM hH
 obtain⟨z2,its2,n2,r2,hl2,e2⟩:=I.lstM hB
 refine PySem.P.add_list e e2 ?_ (by rw[aq,aq]; omega)
 have ea:its.toArray++its2.toArray=(its++its2).toArray:=by simp
 rw[ea]
 exact⟨.ref _,_,I.lnew (t':=s.toks) (r.append r2) (by rw[aE]; omega),rfl,q _ I.fresh⟩
def rRep:R2:=fun x y H Q=>∃ l k xs,x= .ref l/\y= .int k/\H l=some (.lst xs)/\ -(2 ^ 63)<=k/\k<2 ^ 63/\xs.length*k.toNat<=sizeLine/\
 ∀ p,H p=none->Q (.ref p) (upd H p (.lst (replicate k.toNat xs).flatten))
theorem jRM {α:Type}(xs:List α)(k:Nat):(replicate k xs).flatten.length=k*xs.length:=by
 induction k with
 | zero=>simp
 | succ k ih=>rw[cg,dU,aE,ih,Nat.succ_mul,gk]
theorem jTG:OpR X (binaryOp .Mult) rRep:=by
 intro pins s σ H x y v u Q I rx ry h
 obtain⟨l,k,xs,rfl,rfl,hH,h1,h2,hz,q⟩:=h
 cases rx
 obtain⟨t,rfl⟩:=ry
 obtain⟨z,its,n,r,hl,e⟩:=I.lstM hH
 have hlen:its.toArray.size*k.toNat<=sizeLine:=by rw[aq,<- hl]; exact hz
 have hcap:¬ its.toArray.size*k.toNat>(2 ^ 63 - 1) / 8:=by
  have:(sizeLine:Nat)<=(2 ^ 63 - 1) / 8:=by decide
  omega
 have hfit:¬ (!Builtin.List.listFitsIndex k)=true:=by
  rw[fitsIndex_both h1 h2]
  exact ah
 have hlong:¬ Builtin.List.listTooLong (its.toArray.size*k.toNat)=true:=by
  rw[jIN hlen]
  exact ah
 have hnew:List.foldl (fun x1 x2=>x1++x2) #[] (replicate (if its.toArray.isEmpty=true then 0 else k.toNat) its.toArray)=(replicate k.toNat its).flatten.toArray:=by
  have f0:∀ m:Nat,List.foldl (fun x1 x2=>x1++x2) #[] (replicate m its.toArray)=(replicate m its).flatten.toArray:=fun m=>by
   have:=jGG its m []
   rw[List.nil_append] at this
   exact this
  rw[f0]
  cases its with
  | nil=>simp
  | cons a r'=>rw[ai (by simp)]
 refine wpAny_binaryOp_repeat_ref (T:= "list") (U:= "int") (by decide) ⟨_,e,rfl⟩ (fun s'=>typeIs_int s' k t) noFill_list_mul F.fills_int_mul F.slot_int_rmul repeat_list F.slot_int_index.lookup
  (eS F.slot_int_rmul (typeIs_int s k t) F.entry_int_rmul (F.args_int_rmul_2 _ _) (int___rmul___int_list k t l its.toArray n)
   ⟨e,rfl,⟨_,e,rfl⟩,eS F.slot_list_mul ⟨_,e,rfl⟩ F.entry_list_mul (F.args_list_mul_2 _ _) (AutoListH.list___mul___list_int_3 l its.toArray n k t hfit hcap hlong) ⟨e,?_⟩⟩)
 rw[hnew]
 exact⟨.ref _,_,I.lnew (t':=s.toks) (r.rep k.toNat) (by rw[jRM,i8]; exact hz),rfl,q _ I.fresh⟩
end
section
variable {prog:Program}{w:World}{A:Around}{E:Value->Shared->Prop}{s:Shared}
set_option maxRecDepth 100000 in
end
section
variable {X:Cx}
end
end L2
namespace Att
open PySem PySem.W PySem.Calls PyProof.Rows
theorem jE2 {P:Params}{h:Heap} :∀ (ns:List Int) (vs:List Value),WellAll P h vs (ns.map WData.int)->IntsAre vs ns:=by
 intro ns
 induction ns with
 | nil=>
  intro vs w
  rw[h8] at w
  cases w
  exact .nil
 | cons n ns ih=>
  intro vs w
  rw[aY] at w
  cases w with
  | cons a b=>
   cases a
   exact .cons _ _ (ih _ b)
theorem jKO {l:OpenLaw}{n:Nat}(hn:l.most=some n){P:Params}{h:Heap}{args:List WData}{vals:List Value}
  (hpre:l.row.toRowW.claim.pre args=true) (hwl:WellAll P h vals args):
  ∃ a vs ns,vals=[Value.ref a]/\args=[WData.list (ns.map WData.int)]/\h.get? a=some { cls:= .type "list",data:= .seq vs.toArray} /\IntsAre vs ns/\ns.length<=n:=by
 have hsh:WShape.hasAll [] args [.list .int]=true:=(pre_splitW hpre).1
 have hc:l.pre.holds [] { args:=args} =true:=(pre_splitW hpre).2
 obtain⟨d,r,rfl,h1,h2⟩:=hasAllW_cons hsh
 obtain rfl:=hasAllW_nil h2
 obtain⟨xs,rfl,h3⟩:=hasW_list h1
 obtain⟨ns,rfl⟩:=items_int h3
 have hlen:ns.length<=n:=by
  unfold OpenLaw.pre at hc
  have h4:(WTm.not (.lt (.lit (.int (n:Int))) (.len (.arg 0)))).holds [] { args:=[.list (ns.map .int)]} =true:=by
   have h4:=(holds_andW hc).1
   rw[hn] at h4
   exact h4
  have h5:=condW_of h4 (w_not (w_lt w_lit (w_len_list (w_arg rfl))))
  rw[ae] at h5
  refine Nat.le_of_not_lt fun q=>?_
  have q':(n:Int)<((ns.length:Nat):Int):=by omega
  first
   | (rw[am q'] at h5; exact absurd h5 (by decide))
   | (simp at h5; omega)
 cases hwl with
 | cons w1 w2=>
  cases w2
  cases w1 with
  | list ho hall=>exact⟨_,_,ns,rfl,rfl,ho,jE2 ns _ hall,hlen⟩
theorem jKW (l:OpenLaw)(args:List WData):l.row.toRowW.claim.post args (.bool true) args=true:=
 postW_of (r:=l.row.toRowW) (X:=(true==true))
  (show WShape.has [] (.bool true) .bool=true by first | rfl | decide | simp [WShape.has,WShape.arms,WShape.armsAll])
  (show (WTm.eq .res (.lit (.bool true))).value [] { args:=args,res:=some (.bool true),after:=args} =some (.bool (true==true)) from w_eq_bool (w_res rfl) w_lit) rfl
theorem attach_call {l:OpenLaw}{n:Nat}{q:Program}{loose:List Str}{XP:(Str->Option Value)->Heap->Prop}{YP:World->Heap->Prop}{d:DefRec}
  (hn:l.most=some n) (hdf:d.params.defaults=[])
  (call:∀ (w:World) (s₀ s₁:Shared) (mg mb:Str->Option Value) (fa:Addr) (o:Obj) (pm cd doc:Value) (a:Addr) (vs:List Value) (ns:List Int),
   Ground q loose [] XP w s₀ mg mb s₁.heap->YP w s₁.heap->
   s₁.heap.get? fa=some o->o.data= .func (docDef d.name d.params d.body d.scope pm cd doc)->s₁.heap.CodeRec cd d.name->mg d.name=some (.ref fa)->
   s₁.heap.get? a=some { cls:= .type "list",data:= .seq vs.toArray} ->IntsAre vs ns->ns.length<=n->s₁.gens=#[]->
   codeAny (model l.prog w) callerA (.call (.ref fa) ⟨[.ref a],[]⟩) (fun r s'=>r= .ok (.ret (.bool true))/\OldK s₁.heap s'.heap/\s'.os=s₁.os/\AllBare s'.gens) s₁):
  WalkO q loose XP YP l.row.toRowW d [] (fun f vs=>PySem.call f vs):=by
 intro w s₀ s₁ mg mb G Y fa o pm cd doc dV kV ho hd hcd hD hmg hg args vals as hpre hlay hrd hwl hlo
 obtain rfl:dV= .none:=Dflts.none hD hdf
 obtain rfl:kV= .none:=Dflts.noKw hD
 obtain⟨a,vs,ns,rfl,rfl,hobj,hints,hlen⟩:=jKO hn hpre hwl
 refine enter_call (d0 (call w s₀ s₁ mg mb fa o pm cd doc a vs ns G Y ho (fd_plain hd) hcd hmg hobj hints hlen hg) fun r s' hq=>?_)
 obtain⟨rfl,h2,h3,h4⟩:=hq
 exact⟨.inl ⟨.bool true, .bool true,[],rfl,fun _=>rfl, .bool true,jKW l _,fun _=>⟨List.Pairwise.nil,fun _ hm=>(nomatch hm)⟩⟩,h2,h3,h4⟩
section
variable {prog:Program}{w:World}{A:Around}{E:Value->Shared->Prop}{s:Shared}{K:Frag}
end
end Att
namespace L2
open PySem PySem.Spec PyProof.Rows
theorem jFP:∀ {vs:List Value}{ns:List Int},IntsAre vs ns->Vals (ns.map V.int) vs
 | _,_, .nil=> .nil
 | _,_, .cons n t h=> .cons ⟨t,rfl⟩ (jFP h)
end L2
namespace L2
open PySem PySem.Spec PyProof.Rows
end L2
/- THE LAST THEOREM (shape; LID,My.* are yours):
  My.Adr:a structure of the addresses that your layer names (classes,functions); My.Txt K t:a structure (Prop) of the equations over K;
  My.txt_mk: {K} {implicit addresses ..} (e1:nsIn K mainGlobals "law" =some (some (.ref f))) (e2:K.lookup f=some ⟨oc,od, .func (fnOf "law" "law" params body scope dV kV doc pm an cdv ct),sl⟩) (e3:codeIn K cdv "law" =true) .. :∃ t,My.Txt K t
set_option maxRecDepth 100000 in
set_option maxHeartbeats 0 in
theorem PySem.Challenge.cw_LID_holds : PySem.Challenge.rw_LID.Holds := by
 w_on; o_law; k_head; (case hw=>w_witness2)
 k_fill
 refine L2.walk_of (l:=PySem.Challenge.rw_LID) (n:=63) (k:=40) (x:= "script") (CX:=fun w=> ..) (sp:=fun _=>My.sp_law) rfl (by decide) rfl ⟨rfl,by decide,by decide⟩ (fun w h Y=>PySem.W.kIn_of Y) ?F ?S ?C
 case F=>
  intro w mg fa h KX G hmg
  have T:∃ t,My.Txt (L2.KOf KX) t:=by
   dsimp only [L2.KOf] -- K must stand as «<heap const>w.params» for k_is
   refine' My.txt_mk ?e1 ?e2 ?e3 ..
   (case e1=>PySem.W.k_is) -- in the order:a name->its address->its object->its parts
   (case e2=>PySem.W.k_is)
   ..
  obtain⟨t,T⟩:=T
  have e0:=hmg.symm.trans (fD KX G T.law)
  cases e0 -- fa is the law's own address
  exact⟨_,fun s u=> .of_eq rfl,fun base kb nb=>My.law_fn T kb nb⟩ -- if «.of_eq rfl» comes too early:refine' ⟨_,?b,fun base kb nb=>My.law_fn T kb nb⟩; exact fun s u=> .of_eq rfl
 case S=>exact fun w H a ns hl hO hS=> ..
 case C=>exact ..
(the tactic k_is has no namespace:write k_is) -/
namespace L2
open PySem PySem.Spec PyProof.Rows
abbrev CX0:CXT:=fun _ _ _ _ _ _=>False
abbrev E0:XK:=fun _ _ _=>False
theorem pass0 {X:Cx} :jNA CX0 X E0:=fun _ _ _ _ _ _ _ h=>h.elim
structure Fun (K:W.Frag)(x qual:Str)(st:Stmt)(f:Addr)(fd:FuncData):Prop where
 ex:∃ (oc:Value) (od:Option Addr) (kV doc pm:Value) (an:Option Addr) (cdv ct:Value) (osl:Array (Option Value)),
  fd=PySem.W.fnOf x qual (jF st) (jC st) (j8 st) .none kV doc pm an cdv ct/\K.lookup f=some ⟨oc,od, .func fd,osl⟩/\PySem.W.codeIn K cdv qual=true
 kp:keepIn K (.ref f)=true
section
variable {P:Program}{w:World}{K:W.Frag}{mg:Str->Option Value}{base:Heap}
theorem Fun.ok {x qual:Str}{st:Stmt}{f:Addr}{fd:FuncData}{N ps:List Str}{k:Nat}{sp:Sp}(F:Fun K x qual st f fd)(S:FnScope N ps (j8 st))(len:∀ vs H Q E,sp vs H Q E->vs.length=ps.length)
  (hbody:∀ (cdv:Value) (A:Around) (outer:List Env) (s:Shared) (H:Hp) (vs:List V) (Q:VK) (E:XK),Room k (A.deeper (envOfC qual (j8 st) s.heap.objs.size f cdv))->sp vs H Q E->
   ∃ t,PSs (cxOf CX0 P w K mg base N qual (j8 st) f cdv A outer s H E).nox (jC st) t/\t { nx:=fun _ H'=>Q .non H',rt:=Q} (kX N vs) H):FnOk P w K mg base CX0 (k+1) f fd ps sp:=by
 obtain⟨oc,od,kV,doc,pm,an,cdv,ct,osl,rfl,lk,hcd⟩:=F.ex
 refine fn_of lk hcd S len fun A outer s H vs Q E hr hsp=>?_
 obtain⟨t,h,q⟩:=hbody cdv A outer s H vs Q E hr hsp
 exact⟨t,h.nox,q⟩
theorem Fun.binds {x qual:Str}{st:Stmt}{f:Addr}{fd:FuncData}{ps:List Str}(F:Fun K x qual st f fd)
  (h:∀ (kV doc pm:Value) (an:Option Addr) (cdv ct:Value) (us:List Value),us.length=ps.length->bindArgs (PySem.W.fnOf x qual (jF st) (jC st) (j8 st) .none kV doc pm an cdv ct) ⟨us,[]⟩=pure (ps.zip us)):Binds K fd ps []:=by
 obtain⟨oc,od,kV,doc,pm,an,cdv,ct,osl,rfl,lk,hcd⟩:=F.ex
 exact .all (h kV doc pm an cdv ct)
theorem jX {x qual:Str}{st:Stmt}{f:Addr}{oc:Value}{od an:Option Addr}{osl:Array (Option Value)}{kV doc pm cdv ct:Value}(l:K.lookup f=some ⟨oc,od, .func (PySem.W.fnOf x qual (jF st) (jC st) (j8 st) .none kV doc pm an cdv ct),osl⟩)
  (c:PySem.W.codeIn K cdv qual=true) (k:keepIn K (.ref f)=true):Fun K x qual st f (PySem.W.fnOf x qual (jF st) (jC st) (j8 st) .none kV doc pm an cdv ct):=⟨⟨oc,od,kV,doc,pm,an,cdv,ct,osl,rfl,l,c⟩,k⟩
end
theorem qN {A:Around}{k:Nat}(hr:Room k A):A.units+1<cLine:=gy (Nat.add_le_add_left (by decide:1<=64) _) hr.units
section
variable {X:Cx}
theorem pv (i:Nat){x:Str}{pos:Pos}(hN:X.N[i]?=some x:=by rfl)(hv:Vis X.env.scope x:=by first | exact Or.inl rfl | exact Or.inr (Or.inl rfl) | exact Or.inr (Or.inr rfl))(hd:(x==("__debug__" :Str))=false:=by decide)
  (hcd:(x==("__classdict__" :Str))=false:=by decide):PE X (.Name x pos) (tVar i):=jKZ hN hv hd hcd
end
theorem iteF {A B:Prop}(h:B):if false=true then A else B:=by
 rw[ai ah]
 exact h
theorem iteT {A B:Prop}(h:A):if true=true then A else B:=by
 rw[aj rfl]
 exact h
theorem ite2 {c A B:Prop} [Decidable c](h1:c->A)(h2:¬ c->B):if c then A else B:=by
 by_cases h:c
 ·rw[aj h]
  exact h1 h
 ·rw[ai h]
  exact h2 h
def jT (cells:List (Str×Addr)):List (Str×NameKind)->List (Str×Addr)->List (Str×Addr)
 | [],acc=>acc
 | (n,k)::r,acc=>if k= .free then jT cells r ((n,(cells.lookup n).getD 0)::acc) else jT cells r acc
theorem jCQ {env:Env} :∀ (l:List (Str×NameKind)) (acc:List (Str×Addr)),(∀ y∈l,y.2= .free->∃ c,env.cells.lookup y.1=some c)->
  (forIn l acc fun (x:Str×NameKind) (cs:List (Str×Addr))=>(if (x.2==NameKind.free)=true then (do let a <- cellOf env x.1; pure (ForInStep.yield ((x.1,a)::cs))) else pure (ForInStep.yield cs):Sem (ForInStep (List (Str×Addr)))))=pure (jT env.cells l acc)
 | [],acc,_=>rfl
 | (n,k)::r,acc,h=>by
  have hr:∀ y∈r,y.2= .free->∃ c,env.cells.lookup y.1=some c:=fun y hy=>h y (ar _ hy)
  rw[io]
  by_cases hk:k= .free
  ·subst hk
   obtain⟨c,hc⟩:=h (n, .free) aw rfl
   have e:cellOf env n=pure c:=by unfold cellOf; rw[hc]
   have e2:jT env.cells ((n,NameKind.free)::r) acc=jT env.cells r ((n,c)::acc):=by
    show (if NameKind.free=NameKind.free then jT env.cells r ((n,(env.cells.lookup n).getD 0)::acc) else _)=_
    rw[aj rfl,hc]; rfl
   rw[e2,<- jCQ r ((n,c)::acc) hr]
   show ((do let a <- cellOf env n; pure (ForInStep.yield ((n,a)::acc))) >>= _)=_
   rw[e]; rfl
  ·have hb:(k==NameKind.free)=false:=by cases k <;> first | rfl | exact absurd rfl hk
   have e2:jT env.cells ((n,k)::r) acc=jT env.cells r acc:=by
    show (if k=NameKind.free then _ else jT env.cells r acc)=_
    rw[ai hk]
   rw[e2,<- jCQ r acc hr]
   show ((if (k==NameKind.free)=true then _ else pure (ForInStep.yield acc)) >>= _)=_
   rw[hb]; rfl
theorem jHX {env:Env}{sc:Scope}(h:∀ y∈sc.names,y.2= .free->∃ c,env.cells.lookup y.1=some c):closureFor sc env=pure (jT env.cells sc.names []):=by
 unfold closureFor
 show (forIn sc.names [] _ >>= fun cs=>pure cs)=_
 rw[show (forIn sc.names ([]:List (Str×Addr)) _:Sem _)=_ from jCQ sc.names [] h]
 rfl
theorem jBB {cells:List (Str×Addr)} :∀ (l:List (Str×NameKind)) (acc:List (Str×Addr)),(∀ y∈l,y.2= .free->∃ c,cells.lookup y.1=some c)->
  (∀ x c,acc.lookup x=some c->cells.lookup x=some c)->∀ x c,(jT cells l acc).lookup x=some c->cells.lookup x=some c
 | [],acc,_,ha=>ha
 | (n,k)::r,acc,h,ha=>by
  have hr:∀ y∈r,y.2= .free->∃ c,cells.lookup y.1=some c:=fun y hy=>h y (ar _ hy)
  unfold jT
  by_cases hk:k= .free
  ·rw[aj hk]
   obtain⟨c0,hc⟩:=h (n,k) aw hk
   refine jBB r _ hr fun x c e=>?_
   rw[aP] at e
   cases hx:x==n with
   | true=>
    rw[hx] at e
    have exn:x=n:=eq_of_beq hx
    subst exn
    have hc':cells.lookup x=some c0:=hc
    rw[hc'] at e ⊢
    exact e
   | false=>rw[hx] at e; exact ha x c e
  ·rw[ai hk]; exact jBB r acc hr ha
theorem jAI {cells:List (Str×Addr)}{x:Str} :∀ (l:List (Str×NameKind)) (acc:List (Str×Addr)),((x,NameKind.free)∈l\/∃ c,acc.lookup x=some c)->∃ c,(jT cells l acc).lookup x=some c
 | [],acc,h=>by
  rcases h with h | h
  ·cases h
  ·exact h
 | (n,k)::r,acc,h=>by
  unfold jT
  by_cases hk:k= .free
  ·rw[aj hk]
   refine jAI r _ ?_
   by_cases e:x=n
   ·subst e
    exact .inr ⟨_,by rw[aP,fq]⟩
   ·rcases h with h | ⟨c,h⟩
    ·rcases aB.mp h with q | q
     ·cases q; exact absurd rfl e
     ·exact .inl q
    ·refine .inr ⟨c,?_⟩
     rw[aP,cf.mpr e]
     exact h
  ·rw[ai hk]
   refine jAI r _ ?_
   rcases h with h | h
   ·rcases aB.mp h with q | q
    ·cases q; exact absurd rfl hk
    ·exact .inl q
   ·exact .inr h
theorem jA6 {x:Str}{k:NameKind} :∀ {l:List (Str×NameKind)},l.lookup x=some k->(x,k)∈l
 | [],h=>by cases h
 | (n,k')::r,h=>by
  rw[aP] at h
  cases hx:x==n with
  | true=>rw[hx] at h; cases h; rw[eq_of_beq hx]; exact aw
  | false=>rw[hx] at h; exact ar _ (jA6 h)
theorem jCH {env:Env}{x:Str}{k:NameKind}(hk:k= .cell\/k= .free):∀ {l:List (Str×NameKind)},(∀ y∈l,y.2≠ .cell)->
  (l.map fun (n,k)=>if (k==NameKind.free&&env.scope.kind== .function&&env.kindOf n==some .cell) then (n,NameKind.cell) else (n,k)).lookup x=some k->l.lookup x=some .free
 | [],_,h=>by simp at h
 | (n,k')::r,hc,h=>by
  have ih:= @jCH env x k hk r (fun y hy=>hc y (ar _ hy))
  have hc0:k'≠ .cell:=hc (n,k') aw
  rw[aP]
  rw[aY] at h
  dsimp only at h
  by_cases hb:(k'==NameKind.free&&env.scope.kind== .function&&env.kindOf n==some .cell)=true
  ·rw[aj hb,aP] at h
   cases hx:x==n with
   | true=>
    have:k'= .free:=by
     simp only [bF] at hb
     exact eq_of_beq hb.1.1
    rw[this]
   | false=>rw[hx] at h; exact ih h
  ·rw[ai hb,aP] at h
   cases hx:x==n with
   | true=>
    rw[hx] at h
    have e:k'=k:=aU h
    rcases hk with q | q
    ·exact absurd (e.trans q) hc0
    ·rw[e,q]
   | false=>rw[hx] at h; exact ih h
theorem jAH {env:Env}{x:Str} :∀ {l:List (Str×NameKind)},l.lookup x=some .free->
  (l.map fun (n,k)=>if (k==NameKind.free&&env.scope.kind== .function&&env.kindOf n==some .cell) then (n,NameKind.cell) else (n,k)).lookup x=some .cell\/
  (l.map fun (n,k)=>if (k==NameKind.free&&env.scope.kind== .function&&env.kindOf n==some .cell) then (n,NameKind.cell) else (n,k)).lookup x=some .free
 | [],h=>by cases h
 | (n,k')::r,h=>by
  have ih:= @jAH env x r
  rw[aP] at h
  rw[aY]
  dsimp only
  by_cases hb:(k'==NameKind.free&&env.scope.kind== .function&&env.kindOf n==some .cell)=true
  ·rw[aj hb,aP]
   cases hx:x==n with
   | true=>exact .inl rfl
   | false=>rw[hx] at h; exact ih h
  ·rw[ai hb,aP]
   cases hx:x==n with
   | true=>rw[hx] at h; exact .inr h
   | false=>rw[hx] at h; exact ih h
section
variable {prog:Program}{w:World}{A:Around}{R:Result->Shared->Prop}{s:Shared}
abbrev jKE (ifs:List Expr)(env:Env):Sem Bool:=forIn ifs true fun c r=>if r=true then do let ok <- isTrue c env (eval c env); pure (ForInStep.yield ok) else pure (ForInStep.yield r)
theorem jEP {elt tg iter:Expr}{ifs:List Expr}{sc:Scope}{pos:Pos}{it acc:Value}{env:Env}(J:Nat->Shared->Prop)
  (turn:∀ n z,J n z->wpAny (model prog w) A (pyNext it) (fun r z1=>match r with
   | none=>R (.ok .next) z1
   | some v=>wpAny (model prog w) A (letOwnedTupleGo tg it v) (fun _ z2=>wpAny (model prog w) A (assign tg env v) (fun _ z3=>wpAny (model prog w) A (jKE ifs env) (fun ok z4=>
     if ok=true then wpAny (model prog w) A (eval elt env) (fun x z5=>wpAny (model prog w) A (call (.builtin "list.append") [acc,x]) (fun _ z6=>∃ k,k<n/\J k z6) (fun _ _=>False) z5) (fun _ _=>False) z4
     else ∃ k,k<n/\J k z4) (fun _ _=>False) z3) (fun _ _=>False) z2) (fun _ _=>False) z1) (fun _ _=>False) z)
  (n:Nat) (h:J n s):codeAny (model prog w) A (.compLoop (.ListComp elt [⟨tg,iter,ifs,0⟩] sc pos) 0 it acc env) R s:=by
 refine codeAny_loop rfl J (fun k z hJ=>?_) n h
 have noE:∀ {α:Type}{t:Sem α}{Q:α->Shared->Prop}{E:Value->Shared->Prop}{z:Shared},wpAny (model prog w) A t Q (fun _ _=>False) z->wpAny (model prog w) A t Q E z:=
  fun q=>ck q (fun _ _ a=>a) fun _ _ f=>f.elim
 show wpAny _ A ((compTurn (.ListComp elt [⟨tg,iter,ifs,0⟩] sc pos) 0 it acc env).onRaise (fun x=>do noteFrame x env; theTreesLotGoes x)) _ _ z
 refine wpAny_noted ?_
 rw[compTurn_list]
 refine aa (gO (aa (ck (turn k z hJ) (fun r z1 q1=>?_) fun _ _ f=>f.elim)))
 cases r with
 | none=>exact af q1
 | some v=>
  refine aa (ck q1 (fun _ z2 q2=>?_) fun _ _ f=>f.elim)
  refine aa (ck q2 (fun _ z3 q3=>?_) fun _ _ f=>f.elim)
  refine aa (ck q3 (fun ok z4 q4=>?_) fun _ _ f=>f.elim)
  cases ok with
  | false=>exact af ⟨rfl,q4⟩
  | true=>
   refine aa (aa (ck q4 (fun x z5 q5=>?_) fun _ _ f=>f.elim))
   exact aa (ck q5 (fun _ z6 q6=>af (af ⟨rfl,q6⟩)) fun _ _ f=>f.elim)
end
noncomputable def blk (X:Cx)(sc:Scope)(cl:List (Str×Addr))(C:Addr)(Nc:List Str)(fp:List Addr)(s:Shared)(H:Hp):Cx where
 prog:=X.prog
 w:=X.w
 K:=X.K
 mg:=X.mg
 base:=X.base
 A:=X.A
 N:=Nc
 s₀:=s
 H₀:=H
 env:=compEnvC sc cl C X.env
 outer:=X.stack
 stack:=X.stack
 ex:=fp
 fn:=fun _=>false
 calm:=X.calm
 pn:=[]
 xe:=fun _ _=>False
def blkσ (m:List (Option Nat))(σ:St):St:=m.map fun o=>match o with
 | none=>none
 | some i=>(σ[i]?).getD none
def PTs (X:Cx)(ifs:List Expr)(t:TT):Prop:=
 ∀ (pins:List (Addr×Obj)) (s:Shared) (σ:St) (H:Hp) (Q:Bool->Hp->Prop),Inv X pins σ H s->t σ H Q->wpAny (model X.prog X.w) X.A (jKE ifs X.env) (TP X pins σ Q) X.xe s
def yY:TT:=fun _ H Q=>Q true H
theorem jKU {X:Cx} :PTs X [] yY:=fun _ _ _ H _ I h=>wpAny_tests_nil ⟨H,I,h⟩
theorem jKT {X:Cx}{c:Expr}{t:TT}(h:PT X c t):PTs X [c] t:=fun pins s σ H Q I q=>wpAny_tests_one (h pins s σ H Q I q)
def qQ (m:List (Option Nat))(g:TG)(tt:TT)(te:TE)(σ:St)(Q:VK)(J:It)(H1:Hp):Prop:=∀ D,H1 D=none->∃ W:Nat->Nat->St->Hp->List V->Prop,
  (∃ n,W 0 n (blkσ m σ) (upd H1 D (.lst [])) [])/\∀ i n σ' H' ys,W i n σ' H' ys->H' D=some (.lst ys)/\ys.length<sizeLine/\
   ((J.stop i H'/\Q (.ref D) H')\/(J.go i H'/\∃ N:St->Hp->List V->Prop,(∀ σ2 H2 zs,N σ2 H2 zs->∃ n',n'<n/\W (i+1) n' σ2 H2 zs)/\∀ x H'',J.yld i H' x H''->g x σ' H'' fun σ2 H2=>tt σ2 H2 fun b H3=>
    if b=true then te σ2 H3 fun v H4=>H4 D=some (.lst ys)/\N σ2 (upd H4 D (.lst (ys++[v]))) (ys++[v])
    else N σ2 H3 ys))
def tComp (m:List (Option Nat))(wi:TI)(g:TG)(tt:TT)(te:TE):TE:=fun σ H Q=>wi σ H (qQ m g tt te σ Q)
theorem Un.sameBut {fs ex:List Addr}{H H':Hp}{h h1 h2:Heap}{C:Addr}(u:Un fs ex H H' h h1)(sb:Heap.SameBut C h1 h2)(hC:h.objs.size<=C):Un fs ex H H' h h2:=by
 have ne:∀ {b:Addr}{o:Obj},h.get? b=some o->b≠C:=fun e=>aS (aV (ay e) hC)
 refine⟨fun b o e n hf hx=>(sb.2 b (ne e)).trans (u.keep b o e n hf hx),fun b o e n hf hx=>?_,u.free,fun b o e hx=>?_,u.tups,u.frzs,u.tbls⟩
 ·obtain⟨sl,q⟩:=u.slot b o e n hf hx
  exact⟨sl,(sb.2 b (ne e)).trans q⟩
 ·obtain⟨o',q⟩:=u.there b o e hx
  exact⟨o',(sb.2 b (ne e)).trans q⟩
theorem HOk.sameBut {P:Program}{w:World}{H:Hp}{h1 h2:Heap}{C:Addr}(x:HOk P w H h1)(sb:Heap.SameBut C h1 h2)(hC:H C=none):HOk P w H h2:=fun a o e=>
 (x a o e).stay (fun b u hb q=>(sb.2 b (by
  rintro rfl
  rcases hb with rfl | hb
  ·rw[hC] at e; cases e
  ·rw[hC] at hb; cases hb)).trans q) (fun _ q=>q) fun _ _ q=>q
section
variable {X:Cx}{tg iter elt:Expr}{ifs:List Expr}{sc:Scope}{pos:Pos}{wi:TI}{g:TG}{tt:TT}{te:TE}{m:List (Option Nat)}{Nc:List Str}
def qH (X:Cx)(sc:Scope)(Nc:List Str)(m:List (Option Nat)):Prop:=
 m.length=Nc.length/\∀ (k i:Nat),m[k]?=some (some i)->∃ x,Nc[k]?=some x/\X.N[i]?=some x/\sc.names.lookup x=some .free
theorem jN3 {pins:List (Addr×Obj)}{s:Shared}{σ:St}{H:Hp}{fp:List Addr}(I:Inv X pins σ H s)(hkind:sc.kind= .function)(hcell:∀ y∈sc.names,y.2≠ .cell)
  (hfree:∀ y∈sc.names,y.2= .free->X.env.scope.names.lookup y.1=some .cell\/X.env.scope.names.lookup y.1=some .free) (hm:qH X sc Nc m) (hfp:∀ b∈fp,FpOk X pins H b) (hlt:∀ b∈fp,b<s.heap.objs.size)
  {h1:Heap}{tk:Nat}{md:Str->Option Value}(hns:h1.Ns s.heap.objs.size md) (old:∀ b o,s.heap.get? b=some o->h1.get? b=some o):
  Inv (blk X sc (jT X.env.cells sc.names []) s.heap.objs.size Nc fp s H) [] (blkσ m σ) H { s with heap:=h1,toks:=tk} :=by
 have hcl:∀ y∈sc.names,y.2= .free->∃ c,X.env.cells.lookup y.1=some c:=fun y hy hf=>I.ok.has y.1 (hfree y hy hf)
 have sub:∀ x c,(jT X.env.cells sc.names []).lookup x=some c->X.env.cells.lookup x=some c:=jBB sc.names [] hcl (fun x c e=>by cases e)
 have isfree:∀ x,(compEnvC sc (jT X.env.cells sc.names []) s.heap.objs.size X.env).kindOf x=some .cell\/(compEnvC sc (jT X.env.cells sc.names []) s.heap.objs.size X.env).kindOf x=some .free->sc.names.lookup x=some .free:=fun x h=>by
  rcases h with h | h
  ·exact jCH (.inl rfl) hcell h
  ·exact jCH (.inr rfl) hcell h
 refine⟨⟨I.ok.mod,hkind,I.ok.glob,I.ok.blt,ak _,fun x y c h1 h2=>I.ok.inj x y c (sub x c h1) (sub y c h2),fun x hx=>?_,fun x c hf _=>?_,I.ok.hd,I.ok.frames, .inl rfl,fun b hb=>?_,I.bs,bv I.ok.bsz I.sz,fun b o e hb=>?_,fun b hb hz=>?_,I.stack,I.stkFree⟩,
  rfl,I.bare,Un.kept old,⟨md,hns,fun k x v e1 e2 e3=>?_⟩,fun x c e=>?_,I.hok.fresh (ak _),fun x c e=>I.freeC x c (sub x c e),fun p hp=>absurd (show p∈([]:List (Addr×Obj)) from hp) (by simp),I.hok.kept old,?_⟩
 ·exact jAI sc.names [] (.inl (jA6 (isfree x hx)))
 ·exact absurd (show false=true from hf) ah
 ·obtain⟨f0,f1,f2,f3,f4,f5⟩:=hfp b hb
  exact⟨aS (hlt b hb),fun x c e=>f4 x c (sub x c e)⟩
 ·obtain⟨f0,f1,f2,f3,f4,f5⟩:=hfp b hb
  rcases f3 with q | q
  ·exact I.ok.noex b o e q
  ·exact absurd (aV (ay (I.ok.bs b o e).1) q) (cw _)
 ·obtain⟨f0,f1,f2,f3,f4,f5⟩:=hfp b hb
  rcases aB.mp (I.stkSub b hz) with q | q
  ·exact f1 q
  ·exact f2 q
 ·have e2':∃ i,m[k]?=some (some i)/\σ[i]?=some (some v):=by
   unfold blkσ at e2
   rw[aI] at e2
   cases q:m[k]? with
   | none=>rw[q] at e2; cases e2
   | some o=>
    rw[q] at e2
    cases o with
    | none=>cases e2
    | some i=>
     refine⟨i,rfl,?_⟩
     have e2:(σ[i]?).getD none=some v:=aU e2
     cases r:σ[i]? with
     | none=>rw[r] at e2; cases e2
     | some z=>rw[r] at e2; exact bN some e2
  obtain⟨i,q1,q2⟩:=e2'
  obtain⟨x',a1,a2,a3⟩:=hm.2 k i q1
  have e1':Nc[k]?=some x:=e1
  rw[e1'] at a1
  cases a1
  have vis:=hfree (x, .free) (jA6 a3) rfl
  obtain⟨m0,hn0,hl0⟩:=I.loc
  obtain⟨u,r,l⟩:=hl0 i x v a2 q2 (.inr vis)
  refine⟨u,r, .inr ⟨jAH a3,?_⟩⟩
  obtain⟨c,hc⟩:=jAI (cells:=X.env.cells) (x:=x) sc.names [] (.inl (jA6 a3))
  rcases l with ⟨lk,_⟩ | ⟨_,c',hc',o,ho,hd⟩
  ·have lk':X.env.scope.names.lookup x=some .local:=lk
   rcases vis with z | z
   ·rw[lk'] at z; cases z
   ·rw[lk'] at z; cases z
  ·have:=sub x c hc
   rw[hc'] at this
   cases this
   exact⟨c,hc,o,old _ _ ho,hd⟩
 ·obtain⟨v,o,ho,hd⟩:=I.cell x c (sub x c e)
  exact⟨v,o,old _ _ ho,hd⟩
 ·show (blkσ m σ).length=Nc.length
  unfold blkσ
  rw[ae]
  exact hm.1
theorem jJ7 {tf:St->TE}(hc:X.calm=true)(hi:PI X tg iter wi)(hkind:sc.kind= .function)(hcell:∀ y∈sc.names,y.2≠ .cell)(hnames:∀ y∈sc.names,y.2= .local->sc.names.lookup y.1=some .local)
  (hfree:∀ y∈sc.names,y.2= .free->X.env.scope.names.lookup y.1=some .cell\/X.env.scope.names.lookup y.1=some .free) (hm:qH X sc Nc m)
  (hg:∀ cl C fp s H,PG (blk X sc cl C Nc fp s H) tg g) (ht:∀ cl C fp s H,PTs (blk X sc cl C Nc fp s H) ifs tt) (he:∀ cl C fp s H pins σ,Inv X pins σ H s->(∀ b∈fp,FpOk X pins H b)->PE (blk X sc cl C Nc fp s H) elt (tf σ))
  (hs:∀ x,foldedSetIterable iter X.env x=pure x) {fpos:Pos}{use:Option (Value->Sem Unit)}{R:Value->Shared->Prop}{pins:List (Addr×Obj)}{s:Shared}{σ:St}{H:Hp}{Q:VK}(I:Inv X pins σ H s) (h:tComp m wi g tt (tf σ) σ H Q)
  (fin:∀ (D C:Addr) (H5:Hp) (z1:Shared) (r:Flow),(∃ mm,z1.heap.Ns C mm)->FpOk X pins H5 C->(∀ h',Heap.SameBut C z1.heap h'->Inv X pins σ H5 { z1 with heap:=h'})->Q (.ref D) H5->compPost (model X.prog X.w) X.A X.xe use R (.ref D) C (.ok r) z1):
  wpAny (model X.prog X.w) X.A (comprehension (.ListComp elt [⟨tg,iter,ifs,0⟩] sc pos) sc X.env fpos (newList []) false (eval iter X.env) use) R X.xe s:=by
 have hcl:∀ y∈sc.names,y.2= .free->∃ c,X.env.cells.lookup y.1=some c:=fun y hy hf=>I.ok.has y.1 (hfree y hy hf)
 refine gP (use:=use) rfl hs (jHX hcl) hkind hnames (thn (hi pins s σ H _ I h) fun v s1 h1=>thn h1 fun itv s2 h2=>?_)
 obtain⟨it,fp,tn,J,H2,e,I2,T,st2,f2,hQ⟩:=h2
 subst e
 have hlt:∀ b∈fp,b<s2.heap.objs.size:=fun b hb=>by
  obtain⟨o,e,_⟩:=T.obj 0 _ st2 b hb
  exact ay e
 refine bI (wpAny_newFunctionEnv hcell (by intro y hy; simp at hy) (fun h₁ hns₁ hsb₁=>?_) hkind)
 have I3:Inv X pins σ (upd H2 s2.heap.objs.size (.lst [])) { s2 with heap:=s2.heap.push { cls:= .type "list",data:= .seq ([]:List Value).toArray}} :=I2.lnew (t':=s2.toks) .nil (bb _)
 obtain⟨W,⟨n0,w0⟩,turn⟩:=hQ s2.heap.objs.size I2.fresh
 have hD3:∀ b∈fp,b≠s2.heap.objs.size:=fun b hb=>aS (hlt b hb)
 have f3:∀ b∈fp,FpOk X pins (upd H2 s2.heap.objs.size (.lst [])) b:=fun b hb=>by
  obtain⟨a0,a1⟩:=f2 b hb
  exact⟨by rw[j9 (hD3 b hb)]; exact a0,a1⟩
 generalize hE:({ s2 with heap:=s2.heap.push { cls:= .type "list",data:= .seq ([]:List Value).toArray}} :Shared)=s3 at I3 hns₁ hsb₁ ⊢
 generalize hH3:upd H2 s2.heap.objs.size (.lst [])=H3 at I3 f3 w0
 have hsz3:s3.heap.objs.size=s2.heap.objs.size+1:=by rw[<- hE]; exact bK _ _
 have old:∀ b o,s3.heap.get? b=some o->h₁.get? b=some o:=fun b o e=>hsb₁.extBut b o (aS (ay e)) (ab _ e)
 have old2:∀ b o,s2.heap.get? b=some o->h₁.get? b=some o:=fun b o e=>old b o (by rw[<- hE]; exact ab _ e)
 have I4:=jN3 (fp:=fp) (tk:=s3.toks+([]:List (Str×Value)).length) I3 hkind hcell hfree hm f3 (fun b hb=>show b<s3.heap.objs.size by rw[hsz3]; exact bJ (hlt b hb)) hns₁ old
 have st4:tn 0 h₁:=T.keep _ _ _ st2 fun b hb o e=>old2 b o e
 have loop:codeAny (model X.prog X.w) X.A (.compLoop (.ListComp elt [⟨tg,iter,ifs,0⟩] sc pos) 0 (.ref it) (.ref s2.heap.objs.size) (compEnvC sc (jT X.env.cells sc.names []) s3.heap.objs.size X.env))
   (compPost (model X.prog X.w) X.A X.xe use R (.ref s2.heap.objs.size) s3.heap.objs.size) { s3 with heap:=h₁,toks:=s3.toks+([]:List (Str×Value)).length} :=by
  generalize hX:blk X sc (jT X.env.cells sc.names []) s3.heap.objs.size Nc fp s3 H3=Xb at I4
  have eP:Xb.prog=X.prog:=by rw[<- hX]; rfl
  have ew:Xb.w=X.w:=by rw[<- hX]; rfl
  have eK:Xb.K=X.K:=by rw[<- hX]; rfl
  have eA:Xb.A=X.A:=by rw[<- hX]; rfl
  have ec:Xb.calm=true:=by rw[<- hX]; exact hc
  have ee:Xb.env=compEnvC sc (jT X.env.cells sc.names []) s3.heap.objs.size X.env:=by rw[<- hX]; rfl
  have ex:Xb.xe=fun _ _=>False:=by rw[<- hX]; rfl
  have hgb:PG Xb tg g:=by rw[<- hX]; exact hg _ _ _ _ _
  have htb:PTs Xb ifs tt:=by rw[<- hX]; exact ht _ _ _ _ _
  have heb:PE Xb elt (tf σ):=by rw[<- hX]; exact he _ _ _ _ _ _ _ I3 f3
  have stat:∀ {H':Hp},(∀ b∈fp,H' b=none)->∀ b∈fp,FpOk Xb [] H' b:=fun {H'} hn b hb=>by
   obtain⟨o,eo,_⟩:=T.obj _ _ st4 b hb
   have q:=I4.ok.exf b (by rw[<- hX]; exact hb)
   exact⟨hn b hb,q.1,I4.ok.exfs b (by rw[<- hX]; exact hb), .inl (by rw[<- hX]; exact hb),q.2,fun p hp=>absurd hp (by rw[<- hX]; simp [blk])⟩
  have fr4:∀ b∈fp,H3 b=none:=fun b hb=>(f3 b hb).1
  unfold PG at hgb
  unfold PTs at htb
  unfold PE at heb
  rw[eP,ew,eA,ee,ex] at hgb htb heb
  refine jEP (fun n z=>∃ i σ' H' ys,Inv Xb [] σ' H' z/\tn i z.heap/\(∀ b∈fp,H' b=none)/\W i n σ' H' ys) ?_ n0 ⟨0,_,H3,[],I4,st4,fr4,w0⟩
  rintro n z ⟨i,σ5,H5,ys,I5,st5,fr5,w5⟩
  obtain⟨hD,hlen,way⟩:=turn i n σ5 H5 ys w5
  rcases way with ⟨stop,q⟩ | ⟨go,N,hN,step⟩
  ·have RR:=T.done Xb eP ew eK ec i [] z σ5 H5 (fun _ _=>False) I5 (stat fr5) st5 stop
   rw[eA] at RR
   refine thn RR fun r z1 ⟨hr,I6⟩=>?_
   subst hr
   obtain⟨mm,hn6,_⟩:=I6.loc
   rw[ee] at hn6
   have u6:Un (frs X.stack) fp H3 H5 s3.heap z1.heap:=by
    have:=I6.base
    rw[<- hX] at this
    exact this
   have fC:H5 s3.heap.objs.size=none:=by
    have:=I6.free
    rw[ee] at this
    exact this
   have hok6:HOk X.prog X.w H5 z1.heap:=by
    have:=I6.hok
    rw[eP,ew] at this
    exact this
   have os6:z1.os=s3.os:=by
    have:=I6.os
    rw[<- hX] at this
    exact this
   refine fin s2.heap.objs.size s3.heap.objs.size H5 z1 .next ⟨mm,hn6⟩ (I3.fpOk (ak _) fC) (fun h' sb=>?_) q
   refine I3.call' (s':= { z1 with heap:=h'}) (ch:=fp) os6 (u6.sameBut sb (ak _)) (hok6.sameBut sb fC) I6.bare (fun b hb=>?_)
   obtain⟨a0,a1,a2,a3,a4,a5⟩:=f3 b hb
   exact⟨a3,a1,a4,a5⟩
  ·have RR:=T.item Xb eP ew eK ec i [] z σ5 H5 (fun _ _=>False) I5 (stat fr5) st5 go
   rw[eA] at RR
   refine thn RR fun r z1 ⟨u,hr,h6⟩=>?_
   subst hr
   refine thn h6 fun _ z2 ⟨x,H7,I7,r7,y7,st7,fr7⟩=>?_
   have I7':=I7.pinned (stat fr7) (T.obj _ _ st7)
   refine thn (hgb _ z2 σ5 H7 x u _ I7' r7 (step x H7 y7)) fun _ z3 ⟨σ8,H8,I8,q8⟩=>?_
   refine thn (htb _ z3 σ8 H8 _ I8 q8) fun ok z4 ⟨H9,I9,q9⟩=>?_
   have again:∀ {σ7:St}{Hz:Hp}{zz:Shared}{yy:List V}{n':Nat},Inv Xb ([]++jEJ fp z2.heap) σ7 Hz zz->n'<n->W (i+1) n' σ7 Hz yy->∃ k,k<n/\∃ i σ' H' ys,Inv Xb [] σ' H' zz/\tn i zz.heap/\(∀ b∈fp,H' b=none)/\W i k σ' H' ys:=fun {σ7 Hz zz yy n'} Iz hn wz=>by
    refine⟨n',hn,i+1,σ7,Hz,yy,Iz.unpinned,T.keep _ _ _ st7 fun b hb o e=>(Iz.pin (b,o) (aH _ (aH _ (jAF hb e)))).1,fun b hb=>?_,wz⟩
    obtain⟨o,e,d⟩:=T.obj _ _ st7 b hb
    exact(Iz.pin (b,o) (aH _ (aH _ (jAF hb e)))).2.1
   cases ok with
   | false=>
    obtain⟨n',hn,w9⟩:=hN _ _ _ (show N σ8 H9 ys from q9)
    exact again I9 hn w9
   | true=>
    refine thn (heb _ z4 σ8 H9 _ I9 q9) fun xv z5 ⟨vv,H10,I10,r10,hD10,n10⟩=>?_
    obtain⟨n',hn,w10⟩:=hN _ _ _ n10
    have RR:=jB1 (X:=Xb) _ z5 σ8 H10 (.ref s2.heap.objs.size) [vv] (.ref s2.heap.objs.size) [xv] (fun _ H'=>H'=upd H10 s2.heap.objs.size (.lst (ys++[vv]))) I10 rfl (.cons r10 .nil) ⟨_,ys,vv,rfl,rfl,hD10,hlen,rfl⟩
    rw[eP,ew,eA,ex] at RR
    refine thn RR fun _ z6 ⟨_,H11,I11,_,e11⟩=>?_
    subst e11
    exact again I11 hn w10
 exact codeAny_compStart_list loop (T.self _ 0 _ _ _ st4 loop)
theorem jHD (hc:X.calm=true)(hi:PI X tg iter wi)(hkind:sc.kind= .function)(hcell:∀ y∈sc.names,y.2≠ .cell)(hnames:∀ y∈sc.names,y.2= .local->sc.names.lookup y.1=some .local)
  (hfree:∀ y∈sc.names,y.2= .free->X.env.scope.names.lookup y.1=some .cell\/X.env.scope.names.lookup y.1=some .free) (hm:qH X sc Nc m)
  (hg:∀ cl C fp s H,PG (blk X sc cl C Nc fp s H) tg g) (ht:∀ cl C fp s H,PTs (blk X sc cl C Nc fp s H) ifs tt) (he:∀ cl C fp s H,PE (blk X sc cl C Nc fp s H) elt te)
  (hs:∀ x,foldedSetIterable iter X.env x=pure x:=by intro _; rfl):PE X (.ListComp elt [⟨tg,iter,ifs,0⟩] sc pos) (tComp m wi g tt te):=by
 intro pins s σ H Q I h
 rw[eval_ListComp]
 exact jJ7 (tf:=fun _=>te) (use:=none) hc hi hkind hcell hnames hfree hm hg ht (fun cl C fp s H _ _ _ _=>he cl C fp s H) hs I h (fun D C H5 z1 r ⟨mm,hn⟩ fC sb q=>⟨mm,hn,fun h' s2=>⟨.ref D,H5,sb h' s2,rfl,q⟩⟩)
end
theorem kS {X:Cx}{sc psc:Scope}(h:(sc.names.all fun y=>decide (y.2= .free->psc.names.lookup y.1=some .cell\/psc.names.lookup y.1=some .free))=true)(e:X.env.scope=psc:=by rfl):
  ∀ y∈sc.names,y.2= .free->X.env.scope.names.lookup y.1=some .cell\/X.env.scope.names.lookup y.1=some .free:=by
 rw[e]
 intro y hy
 exact aJ (bi.mp h y hy)
def jMB (sc:Scope)(N Nc:List Str)(m:List (Option Nat))(k:Nat):Bool:=match m[k]? with
 | some (some i)=>match Nc[k]? with
  | some x=>decide (N[i]?=some x)&&decide (sc.names.lookup x=some .free)
  | none=>false
 | _=>true
theorem jS {X:Cx}{sc:Scope}{N Nc:List Str}{m:List (Option Nat)}(e:X.N=N)(hl:m.length=Nc.length)(h:((List.range m.length).all (jMB sc N Nc m))=true):qH X sc Nc m:=by
 refine⟨hl,fun k i hk=>?_⟩
 have hlt:k<m.length:=(ag.mp hk).1
 have q:=bi.mp h k (bY.mpr hlt)
 unfold jMB at q
 rw[hk] at q
 cases e2:Nc[k]? with
 | none=>rw[e2] at q; cases q
 | some x=>
  rw[e2] at q
  have q:(decide (N[i]?=some x)&&decide (sc.names.lookup x=some .free))=true:=q
  rw[bF] at q
  exact⟨x,rfl,by rw[e]; exact aJ q.1,aJ q.2⟩
section
variable {m:List (Option Nat)}{g:TG}{tt:TT}{te:TE}{σ:St}{H1:Hp}{Q:VK}
theorem jBA {lo:Int}{n:Nat}(hn:n<sizeLine)(Pv:Addr->Nat->St->Hp->List V->Prop)(h0:∀ D,H1 D=none->Pv D 0 (blkσ m σ) (upd H1 D (.lst [])) [])
  (hD:∀ D i σ' H' ys,H1 D=none->i<=n->Pv D i σ' H' ys->H' D=some (.lst ys)/\ys.length<=i)
  (hs:∀ D i σ' H' ys,H1 D=none->i<n->Pv D i σ' H' ys->g (.int (lo+i)) σ' H' fun σ2 H2=>tt σ2 H2 fun b H3=>if b=true then te σ2 H3 fun v H4=>H4 D=some (.lst ys)/\Pv D (i+1) σ2 (upd H4 D (.lst (ys++[v]))) (ys++[v]) else Pv D (i+1) σ2 H3 ys)
  (hd:∀ D σ' H' ys,H1 D=none->Pv D n σ' H' ys->Q (.ref D) H'):qQ m g tt te σ Q (Itr lo n) H1:=by
 intro D hDn
 refine⟨fun i k σ' H' ys=>k=n - i/\i<=n/\Pv D i σ' H' ys,⟨n,rfl,bb _,h0 D hDn⟩,?_⟩
 rintro i k σ' H' ys ⟨rfl,hi,p⟩
 obtain⟨q1,q2⟩:=hD D i σ' H' ys hDn hi p
 refine⟨q1,by omega,?_⟩
 by_cases hlt:i<n
 ·refine .inr ⟨hlt,Pv D (i+1),fun σ2 H2 zs z=>⟨n - (i+1),by omega,rfl,hlt,z⟩,fun x H'' y=>?_⟩
  obtain⟨e1,e2⟩:=y
  subst e1 e2
  exact hs D i σ' _ ys hDn hlt p
 ·have e:i=n:=by omega
  subst e
  exact .inl ⟨ak _,hd D σ' H' ys hDn p⟩
end
end L2
end
section
namespace SS
open PySem PySem.SetTable
abbrev Ris (xs:Array Nat):Prop:=xs.toList.Pairwise (· < ·)
theorem jCG {xs:Array Nat}(h:Ris xs){a b:Nat}(hab:a<b)(hb:b<xs.size):xs.getD a 0<xs.getD b 0:=by
 have h1:a<xs.size:=gm hab hb
 have:=bx.mp h a b (by simpa using h1) (by simpa using hb) hab
 simpa [Array.getD,h1,hb] using this
theorem jS1 {xs:Array Nat}{j:Nat}(hr:Ris xs):∀ (fuel lo hi:Nat),hi - lo<=fuel->lo<=hi->hi<=xs.size->(∀ a,a<lo->xs.getD a 0<j)->(∀ a,hi<=a->a<xs.size->j<=xs.getD a 0)->
  (below.go xs j fuel lo hi<=xs.size/\(∀ a,a<below.go xs j fuel lo hi->xs.getD a 0<j)/\(∀ a,below.go xs j fuel lo hi<=a->a<xs.size->j<=xs.getD a 0)):=by
 intro fuel
 induction fuel with
 | zero=>
  intro lo hi h1 h2 h3 h4 h5
  have e:lo=hi:=by omega
  subst e
  exact⟨h3,h4,h5⟩
 | succ fuel ih=>
  intro lo hi h1 h2 h3 h4 h5
  unfold below.go
  by_cases hlt:lo<hi
  ·rw[aj hlt]
   have hm:(lo+hi) / 2<xs.size:=by omega
   have e:xs.getD ((lo+hi) / 2) j=xs.getD ((lo+hi) / 2) 0:=by simp [Array.getD,hm]
   dsimp only
   rw[e]
   by_cases hc:xs.getD ((lo+hi) / 2) 0<j
   ·rw[aj hc]
    refine ih _ _ (by omega) (by omega) h3 (fun a ha=>?_) h5
    by_cases e2:a=(lo+hi) / 2
    ·rw[e2]; exact hc
    ·exact gm (jCG hr (by omega) hm) hc
   ·rw[ai hc]
    refine ih _ _ (by omega) (by omega) (by omega) h4 (fun a ha hs=>?_)
    by_cases e2:a=(lo+hi) / 2
    ·rw[e2]; omega
    ·have:=jCG hr (show (lo+hi) / 2<a by omega) hs
     omega
  ·rw[ai hlt]
   have e:lo=hi:=by omega
   subst e
   exact⟨h3,h4,h5⟩
theorem jES {xs:Array Nat}(hr:Ris xs)(j:Nat):below xs j<=xs.size/\(∀ a,a<below xs j->xs.getD a 0<j)/\(∀ a,below xs j<=a->a<xs.size->j<=xs.getD a 0):=
 jS1 hr xs.size 0 xs.size (by omega) (bb _) (ak _) (fun a h=>absurd h (cR _)) (fun a h1 h2=>absurd h2 (by omega))
theorem jFK {xs:Array Nat}(hr:Ris xs){j i:Nat}(hi:i<=xs.size)(h1:∀ a,a<i->xs.getD a 0<j)(h2:∀ a,i<=a->a<xs.size->j<=xs.getD a 0):below xs j=i:=by
 obtain⟨b1,b2,b3⟩:=jES hr j
 rcases Nat.lt_trichotomy (below xs j) i with h | h | h
 ·have q1:=h1 _ h
  have q2:=b3 _ (ak _) (by omega)
  omega
 ·exact h
 ·have q1:=b2 _ h
  have q2:=h2 _ (ak _) (by omega)
  omega
theorem jAJ {α:Type}(xs:Array α)(p:Nat)(x:α):(insertAt xs p x).toList=xs.toList.take p++x::xs.toList.drop p:=by
 unfold insertAt
 simp [dX,List.extract]
 rw[bO (by simp)]
theorem jBS {α:Type}(xs:Array α)(p:Nat)(x:α):(insertAt xs p x).size=xs.size+1:=by
 rw[<- aG,jAJ]
 simp
 omega
theorem jJH {xs:Array Nat}{j:Nat}(hr:Ris xs)(hj:j∉xs.toList):Ris (insertAt xs (below xs j) j):=by
 obtain⟨b1,b2,b3⟩:=jES hr j
 show (insertAt xs (below xs j) j).toList.Pairwise (· < ·)
 rw[jAJ,cm,cU]
 have hl:∀ a∈xs.toList.take (below xs j),a<j:=by
  intro a ha
  obtain⟨i,hi,e⟩:=List.mem_take_iff_getElem.mp ha
  have:=b2 i (by omega)
  have hs:i<xs.size:=by simp at hi; omega
  simp [Array.getD,hs] at this
  simp at e
  omega
 have hg:∀ a∈xs.toList.drop (below xs j),j<a:=by
  intro a ha
  obtain⟨i,hi,e⟩:=List.mem_drop_iff_getElem.mp ha
  have hs:i+below xs j<xs.size:=by simpa [gk] using hi
  have:=b3 (i+below xs j) (by omega) hs
  simp [Array.getD,hs] at this
  have e':xs[i+below xs j]=a:=by simpa [gk] using e
  have hne:a≠j:=by
   intro z
   apply hj
   rw[<- z]
   exact cE ha
  omega
 refine⟨hr.sublist (da _ _),⟨hg,hr.sublist (gI _ _)⟩,?_⟩
 intro a ha b hb
 rcases aB.mp hb with rfl | hb
 ·exact hl a ha
 ·exact gm (hl a ha) (hg b hb)
theorem jDS {t:SetTable}{j:Nat}(hr:Ris t.place)(h:t.slot j= .empty):j∉t.place.toList:=by
 intro hm
 obtain⟨i,hi,e⟩:=eJ hm
 have hs:i<t.place.size:=by simpa using hi
 have e0:t.place[i]=j:=by simpa using e
 have eb:below t.place j=i:=by
  refine jFK hr (cI hs) (fun a ha=>?_) (fun a h1 h2=>?_)
  ·have:=jCG hr ha hs
   simp only [Array.getD,hs] at this ⊢
   simp [e0] at this ⊢
   exact this
  ·by_cases e2:a=i
   ·subst e2
    simp [Array.getD,hs,e0]
   ·have:=jCG hr (show i<a by omega) h2
    simp only [Array.getD,hs] at this
    simp [e0] at this
    simp [Array.getD]
    omega
 unfold SetTable.slot at h
 dsimp only at h
 rw[eb] at h
 rw[aj (by simp [hs,e0])] at h
 cases h
theorem jHO (j:Nat):has #[] j=false:=by
 unfold has
 simp
theorem jIG {t:SetTable}(hd:t.dummies=#[]){f:Nat->Int}{h:Int} :∀ (fuel:Nat) (p:Probe) (m:Met),p.dummy=none->probe.go t f h fuel p=some m->
  (∃ j,m= .empty j none/\t.slot j= .empty)\/(∃ j i n,m= .candidate j i n):=by
 intro fuel
 induction fuel with
 | zero=>intro p m _ e; simp [probe.go] at e
 | succ fuel ih=>
  intro p m hp e
  unfold probe.go at e
  cases hs:t.slot p.j with
  | empty=>
   rw[hs] at e
   simp only [gJ] at e
   subst e
   exact .inl ⟨p.j,by rw[hp],hs⟩
  | dummy=>
   unfold SetTable.slot at hs
   dsimp only at hs
   rw[hd,jHO] at hs
   split at hs
   ·cases hs
   ·simp at hs
  | live i=>
   rw[hs] at e
   dsimp only at e
   split at e
   ·simp only [gJ] at e
    subst e
    exact .inr ⟨_,_,_,rfl⟩
   ·refine ih _ _ ?_ e
    unfold advance
    split
    ·exact hp
    ·exact hp
theorem jFC {t:SetTable}(hr:Ris t.place)(hd:t.dummies=#[]){h:Int}{slot:Nat}{d:Bool}(e:t.freeSlot h=some (slot,d)):slot∉t.place.toList:=by
 unfold SetTable.freeSlot at e
 split at e
 ·rename_i j dummy hp
  simp only [gJ,Prod.mk.injEq] at e
  have hp':probe.go t (fun _=>h+1) h (10*turns t.mask) (t.probeStart h)=some (.empty j dummy):=hp
  rcases jIG hd _ _ _ (by unfold probeStart; rfl) hp' with ⟨j',em,hs⟩ | ⟨_,_,_,em⟩
  ·cases em
   have:slot=j:=by rw[<- e.1]; rfl
   rw[this]
   exact jDS hr hs
  ·cases em
 ·cases e
theorem jJG {t:SetTable}{j:Nat}(hd:t.dummies=#[])(h:t.slot j≠ .empty):(∃ i,t.slot j= .live i)/\j∈t.place.toList:=by
 unfold SetTable.slot at h ⊢
 dsimp only at h ⊢
 by_cases q:(t.place[below t.place j]?==some j)=true
 ·rw[aj q]
  refine⟨⟨_,rfl⟩,?_⟩
  have e:t.place[below t.place j]?=some j:=eq_of_beq q
  obtain⟨hi,e⟩:=Array.getElem?_eq_some_iff.mp e
  rw[<- e]
  exact Array.getElem_mem_toList hi
 ·rw[ai q,hd,jHO] at h
  exact absurd rfl h
theorem run7 (i:Nat):runEnd 7 i=i:=by unfold runEnd; rw[ai (by omega)]
theorem jKV {t:SetTable}(hm:t.mask=7)(hd:t.dummies=#[]){h:Int} :∀ (k fuel:Nat) (p:Probe),p.j=p.i->p.more=0->p.i<8->p.perturb<32->k<=fuel->
  probe.go t (fun _=>h+1) h fuel p=none->∀ r,r<k->Nat.repeat (fun i=>(i*5+1) % 8) r p.i∈t.place.toList:=by
 intro k
 induction k with
 | zero=>intro fuel p _ _ _ _ _ _ r hr; omega
 | succ k ih=>
  intro fuel p h1 h2 h3 h4 h5 h6 r hr
  obtain⟨f,rfl⟩:∃ f,fuel=f+1:=⟨fuel - 1,by omega⟩
  unfold probe.go at h6
  by_cases he:t.slot p.j= .empty
  ·rw[he] at h6; cases h6
  ·obtain⟨⟨i,hl⟩,hmem⟩:=jJG hd he
   rw[hl] at h6
   dsimp only at h6
   rw[ai (by simp; omega)] at h6
   have hz:p.perturb / 32=0:=by omega
   have ea:t.advance p= { p with j:=(p.i*5+1) % 8,more:=0,i:=(p.i*5+1) % 8,perturb:=0} :=by
    unfold advance leap
    rw[ai (by omega),hm,hz]
    simp [run7]
   rw[ea] at h6
   cases r with
   | zero=>show p.i∈_; rw[<- h1]; exact hmem
   | succ r=>
    have q:=ih f _ (by rfl) (by rfl) (by show (p.i*5+1) % 8<8; omega) (by show 0<32; omega) (by omega) h6 r (by omega)
    have e:∀ (r i:Nat),Nat.repeat (fun i=>(i*5+1) % 8) (r+1) i=Nat.repeat (fun i=>(i*5+1) % 8) r ((i*5+1) % 8):=by
     intro r
     induction r with
     | zero=>intro i; rfl
     | succ r ihr=>
      intro i
      show ((Nat.repeat _ (r+1) i)*5+1) % 8=((Nat.repeat _ r ((i*5+1) % 8))*5+1) % 8
      rw[ihr]
    rw[e]
    exact q
theorem jN7:∀ i,i<8->∀ j,j<8->∃ r,r<8/\Nat.repeat (fun i=>(i*5+1) % 8) r i=j:=by decide+kernel
theorem jFB {t:SetTable}(hm:t.mask=7)(hd:t.dummies=#[])(hz:t.place.size<8){h:Int}(h0:0<=h)(h1:h<32):∃ q,t.freeSlot h=some q:=by
 unfold SetTable.freeSlot
 have hb:bits h<32:=by unfold bits; omega
 have hps:t.probeStart h= { j:=bits h % 8,more:=0,i:=bits h % 8,perturb:=bits h,dummy:=none} :=by
  unfold probeStart
  rw[hm]
  simp [run7]
 cases e:t.probe (fun _=>h+1) h (t.probeStart h) with
 | none=>
  exfalso
  have e':probe.go t (fun _=>h+1) h (10*turns t.mask) (t.probeStart h)=none:=e
  rw[hps] at e'
  have q:=jKV hm hd 8 _ _ (by rfl) (by rfl) (by show bits h % 8<8; omega) (by exact hb) (by rw[hm]; decide) e'
  have sub:List.range 8 ⊆ t.place.toList:=by
   intro j hj
   obtain⟨r,hr,er⟩:=jN7 (bits h % 8) (by omega) j (bY.mp hj)
   rw[<- er]
   exact q r hr
  have:=List.Nodup.length_le_of_subset (List.nodup_range (n:=8)) sub
  simp at this
  omega
 | some m=>
  rcases jIG hd _ _ _ (by rw[hps]) (show probe.go t (fun _=>h+1) h (10*turns t.mask) (t.probeStart h)=some m from e) with ⟨j,rfl,_⟩ | ⟨j,i,n,rfl⟩
  ·exact⟨_,rfl⟩
  ·exfalso
   have nc:∀ (fuel:Nat) (p:Probe) (j i:Nat) (n:Probe),probe.go t (fun _=>h+1) h fuel p≠some (.candidate j i n):=by
    intro fuel
    induction fuel with
    | zero=>intro p j i n; simp [probe.go]
    | succ f ih=>
     intro p j i n
     unfold probe.go
     cases t.slot p.j with
     | empty=>simp
     | dummy=>exact ih _ _ _ _
     | live i'=>
      dsimp only
      rw[ai (by simp; omega)]
      exact ih _ _ _ _
   exact nc _ _ _ _ _ e
structure Tab (t:SetTable)(n:Nat)(led:Bool):Prop where
 ris:Ris t.place
 sz:t.place.size=n
 dm:t.dummies=#[]
 msk:t.mask=7
 pl:t.plain=true
 ld:t.led=led
theorem Tab.fits {t:SetTable}{n:Nat}{led:Bool}(T:Tab t n led)(hn:n<=4):t.fits n=true:=by
 unfold SetTable.fits fill
 simp [T.sz,T.dm,T.msk]
 omega
theorem Tab.full {t:SetTable}{n:Nat}{led:Bool}(T:Tab t n led)(hn:n<=4):t.tooFull=false:=by
 unfold tooFull fill
 simp [T.sz,T.dm,T.msk]
 omega
theorem jKF (led:Bool):Tab (fresh 0 0 led) 0 led:=⟨List.Pairwise.nil,rfl,rfl,rfl,rfl,rfl⟩
theorem jJU {t:SetTable}{n:Nat}{led:Bool}(T:Tab t n led)(hn:n+1<=4)(es:Array (Int×Value))(he:es.size=n){h:Int}(h0:0<=h)(h1:h<32)(x:Value):
  Tab (layNew t es h x).2.1 (n+1) led/\∃ p,(layNew t es h x).1.toList=es.toList.take p++(h,x)::es.toList.drop p:=by
 obtain⟨⟨slot,d⟩,hf⟩:=jFB T.msk T.dm (by rw[T.sz]; omega) h0 h1
 unfold layNew
 rw[hf]
 dsimp only [SetTable.put]
 have hnm:=jFC T.ris T.dm hf
 have T2:Tab { t with place:=insertAt t.place (below t.place slot) slot,dummies:=if has t.dummies slot then eraseAt t.dummies (below t.dummies slot) else t.dummies} (n+1) led:=by
  refine⟨jJH T.ris hnm,by rw[jBS,T.sz],?_,T.msk,T.pl,T.ld⟩
  rw[T.dm,jHO]
  rfl
 refine⟨?_,_,jAJ _ _ _⟩
 unfold SetTable.orStandIn
 rw[jBS,he,T2.fits hn]
 exact T2
def jI9 (xs:Array Nat):Nat->Nat
 | 0=>0
 | i+1=>xs.getD i 0+1
theorem jGX {xs:Array Nat}(hr:Ris xs){i:Nat}(hi:i<=xs.size):below xs (jI9 xs i)=i:=by
 cases i with
 | zero=>exact jFK hr (bb _) (fun a h=>absurd h (cR _)) (fun a _ _=>bb _)
 | succ i=>
  refine jFK hr hi (fun a ha=>?_) (fun a h1 h2=>?_)
  ·show _<xs.getD i 0+1
   by_cases e:a=i
   ·rw[e]; omega
   ·have:=jCG hr (show a<i by omega) (show i<xs.size by omega)
    omega
  ·show xs.getD i 0+1<=_
   exact jCG hr (show i<a by omega) h2
theorem jK1 {α:Type}{l:List α}{i:Nat}(h:i<l.length):(l[i]::l.eraseIdx i).Perm l:=by
 rw[List.eraseIdx_eq_take_drop_succ]
 have e:l=l.take i++l[i]::l.drop (i+1):=by rw[<- gH h,bo]
 conv=>rhs; rw[e]
 exact List.perm_middle.symm
theorem jQO {α:Type}(next:Nat->Nat):∀ (fuel k:Nat) (left:List α) (out:Array α),fuel=left.length->(pickOrder.go next fuel k left out).toList.Perm (out.toList++left):=by
 intro fuel
 induction fuel with
 | zero=>
  intro k left out h
  have:left=[]:=eW.mp h.symm
  subst this
  simp [pickOrder.go]
 | succ f ih=>
  intro k left out h
  have hl:next k % left.length<left.length:=Nat.mod_lt _ (by omega)
  unfold pickOrder.go
  rw[ax hl]
  dsimp only
  refine(ih _ _ _ (by rw[List.length_eraseIdx_of_lt hl]; omega)).trans ?_
  rw[dF,aQ]
  exact cS _ (jK1 hl)
theorem jG3 {α:Type}(next:Nat->Nat)(xs:Array α):(pickOrder next xs).toList.Perm xs.toList:=by
 unfold pickOrder
 have:=jQO next xs.size 0 xs.toList #[] (by simp)
 simpa using this
end SS
end
section
namespace SS
open PySem
abbrev ledW (w:World):Bool:=!(w.params.followText "set-order")
def El (e:Int×Value)(k:Int):Prop:=e.1=hashInt k/\∃ t,e.2= .int k t
theorem jBM {α β:Type}{F:α->β->Prop} :∀ {l:List α}{r:List β},Paired F l r->∀ a∈l,∃ b∈r,F a b
 | _,_, .nil=>fun a h=>by cases h
 | _,_, .cons f t=>fun a h=>by
  rcases aB.mp h with rfl | h
  ·exact⟨_,aw,f⟩
  ·obtain⟨b,hb,q⟩:=jBM t a h
   exact⟨b,ar _ hb,q⟩
theorem jCX {α β:Type}{F:α->β->Prop} :∀ {l:List α}{r:List β},Paired F l r->∀ b∈r,∃ a∈l,F a b
 | _,_, .nil=>fun a h=>by cases h
 | _,_, .cons f t=>fun b h=>by
  rcases aB.mp h with rfl | h
  ·exact⟨_,aw,f⟩
  ·obtain⟨a,ha,q⟩:=jCX t b h
   exact⟨a,ar _ ha,q⟩
theorem jEK {α β:Type}{F:α->β->Prop}{a:α}{b:β}(f:F a b):∀ {l:List α}{r:List β}(p:Nat),Paired F l r->Paired F (l.take p++a::l.drop p) (r.take p++b::r.drop p)
 | _,_,0,q=>by simpa using Paired.cons f q
 | _,_,p+1, .nil=>by simpa using Paired.cons f .nil
 | _,_,p+1, .cons g t=>by
  simp only [List.take_succ_cons,List.drop_succ_cons,List.cons_append]
  exact .cons g (jEK f p t)
theorem jQF {α:Type}(l:List α)(p:Nat)(x z:α):z∈l.take p++x::l.drop p↔z=x\/z∈l:=by
 conv=>rhs; rw[<- bo p l]
 simp only [aM,aB]
 constructor
 ·rintro (h | h | h)
  ·exact .inr (.inl h)
  ·exact .inl h
  ·exact .inr (.inr h)
 ·rintro (h | h | h)
  ·exact .inr (.inl h)
  ·exact .inl h
  ·exact .inr (.inr h)
theorem jEY {α:Type}(l:List α)(p:Nat)(x:α):(l.take p++x::l.drop p).Perm (x::l):=by
 have h:(l.take p++x::l.drop p).Perm (x::(l.take p++l.drop p)):=List.perm_middle
 rw[bo] at h
 exact h
structure SetG (w:World)(h:Heap)(a:Addr)(ks:List Int):Prop where
 ex:∃ o es ep t,h.get? a=some o/\o.ExactSet/\o.data= .set es ep t/\Paired El es.toList ks/\Tab t es.size (ledW w)
 nd:ks.Nodup
 len:ks.length<=4
section
variable {prog:Program}{w:World}{A:Around}{E:Value->Shared->Prop}{s:Shared}{a:Addr}{ks:List Int}{k:Int}{tk:Tok}
theorem elems {es:List (Int×Value)}(h:Paired El es ks):ElemsOf (intKind prog w) es:=fun e he=>by
 obtain⟨k,_,h1,t,h2⟩:=jBM h e he
 rw[h2]
 exact⟨⟨k,by show Value.isInt k (.int k t)=true; simp [Value.isInt],h1⟩,rfl⟩
theorem SetG.at {h h':Heap}(S:SetG w h a ks)(e:∀ o,h.get? a=some o->h'.get? a=some o):SetG w h' a ks:=by
 obtain⟨⟨o,es,ep,t,ho,r⟩,nd,len⟩:=S
 exact⟨⟨o,es,ep,t,e _ ho,r⟩,nd,len⟩
theorem jC4 (k0:0<=k)(k1:k<32):hashInt k=k:=by
 obtain⟨n,rfl⟩:=Int.eq_ofNat_of_zero_le k0
 have e:∀ n:Nat,n<32->hashInt (n:Int)=(n:Int):=by decide+kernel
 exact e n (by omega)
theorem jUK {Q:Bool->Shared->Prop}(S:SetG w s.heap a ks)(hl:ks.length+1<=4)(k0:0<=k)(k1:k<32)
  (h:∀ b h' ks',Heap.SameBut a s.heap h'->SetG w h' a ks'->(∀ z,z∈ks'↔z=k\/z∈ks)->ks'.length<=ks.length+1->Q b { s with heap:=h'}):
  wpAny (model prog w) A (setAddHashed a (.int k tk) (hashInt k)) Q E s:=by
 obtain⟨o,es,ep,t,ho,hex,hd,hp,T⟩:=id S.ex
 have hn:es.size=ks.length:=by rw[<- aG]; exact fw hp
 have hf:=T.fits (by omega)
 have hel:ElemsOf (intKind prog w) es.toList:=elems hp
 have hb:es.size<scanBound:=by unfold scanBound; omega
 have hi:∀ (j:Int) (t:Tok),Value.isInt k (.int j t)=true->j=k:=fun j t e=>by simpa [Value.isInt] using e
 unfold setAddHashed setAddHashedIn
 refine b0 (aa (db ho hd hf ?_))
 dsimp only
 rw[byScan_of (knd:=intKind prog w) rfl hb hel,aj rfl]
 unfold setAddByScan
 refine aa (aa (cD (aa ?_)))
 refine wpAny_setScan_of (knd:=intKind prog w) (k:=k) (by show Value.isInt k (.int k tk)=true; simp [Value.isInt]) ho hd hf hel ?_
 have es0:s= { s with heap:=s.heap} :=by cases s; rfl
 cases hr:List.findIdx? (fun e=>(intKind prog w).is k e.2) es.toList with
 | some j=>
  obtain⟨hj,hpj,_⟩:=List.findIdx?_eq_some_iff_getElem.mp hr
  obtain⟨k',hk',_,t',e'⟩:=jBM hp _ (dI hj)
  have hkk:k'=k:=hi k' t' (by rw[<- e']; exact hpj)
  subst hkk
  refine af (af ?_)
  rw[es0]
  exact h false s.heap ks (Heap.SameBut.refl a s.heap) S (fun z=>⟨.inr,fun q=>q.elim (fun e=>e ▸ hk') id⟩) (by omega)
 | none=>
  have hnk:k∉ks:=fun hm=>by
   obtain⟨e,he,_,t',e'⟩:=jCX hp k hm
   have q:=List.findIdx?_eq_none_iff.mp hr e he
   rw[e'] at q
   have q':Value.isInt k (.int k t')=false:=q
   simp [Value.isInt] at q'
  obtain⟨T1,p,hp1⟩:=jJU T (by omega) es rfl (h:=hashInt k) (by rw[jC4 k0 k1]; exact k0) (by rw[jC4 k0 k1]; exact k1) (.int k tk)
  dsimp only
  show wpAny _ A (match layNew t es (hashInt k) (Value.int k tk) with | (es,t,wasDummy,gave)=>_) _ E s
  generalize layNew t es (hashInt k) (Value.int k tk)=L at T1 hp1 ⊢
  obtain⟨es1,t1,wd,gv⟩:=L
  dsimp only at T1 hp1 ⊢
  have hp2:Paired El es1.toList (ks.take p++k::ks.drop p):=by
   rw[hp1]
   exact jEK ⟨rfl,tk,rfl⟩ p hp
  have hz1:es1.size=es.size+1:=by
   rw[<- aG,hp1,(jEY es.toList p (hashInt k,Value.int k tk)).length_eq]
   simp
  have hlen:(ks.take p++k::ks.drop p).length=ks.length+1:=(jEY ks p k).length_eq
  have T1':Tab t1 es1.size (ledW w):=by rw[hz1]; exact T1
  have hg:(s.heap.update a (Obj.putSet es1 t1)).get? a=some { o with data:= .set es1 (ep+1) t1} :=by
   have q:=dz (Obj.putSet es1 t1) ho (by rw[putSet_of es1 t1 hd]; rfl)
   rw[putSet_of es1 t1 hd] at q
   exact q
  have fin:Q true { s with heap:=s.heap.update a (Obj.putSet es1 t1)} :=
   h true _ _ (gh ..) ⟨⟨_,es1,ep+1,t1,hg,hex,rfl,hp2,T1'⟩,(jEY ks p k).nodup_iff.mpr (bH.mpr ⟨hnk,S.nd⟩),by omega⟩ (fun z=>jQF ks p k z) (by omega)
  have hfull:t1.tooFull=false:=T1'.full (by omega)
  refine aa (show wpAny _ A (match gv with | true=>rule "set.scan.the-table-gave-way" | false=>pure ()) _ E s from ?_)
  have hzl:es1.size<=sizeLine:=by rw[hz1,show sizeLine=2 ^ 24 from rfl]; omega
  cases gv with
  | true=>
   refine cD ?_
   split
   all_goals
    refine aa (show wpAny _ A (pure true:Sem Bool) _ E s from af ?_)
    simp only [eQ]
    refine aa (wpAny_storeSet_of ho hd ?_ hzl)
    rw[hfull,dv,ai ah]
    exact af (af fin)
  | false=>
   refine af ?_
   split
   all_goals
    refine aa (show wpAny _ A (pure true:Sem Bool) _ E s from af ?_)
    simp only [eQ]
    refine aa (wpAny_storeSet_of ho hd ?_ hzl)
    rw[hfull,dv,ai ah]
    exact af (af fin)
end
theorem jBK:entryFor table "set.update.loop" =some Builtin.«set.update.loop»:=entryFor_of_fast (by kernel_rfl)
theorem jAL:plainId "set.update.loop" =true:=by decide+kernel
section
variable {prog:Program}{w:World}{A:Around}{R:Result->Shared->Prop}{I:Addr}{fp wr:List Addr}{n:Nat}{P:Nat->Value->Prop}{St:Nat->Shared->Prop}
theorem jNE (W:WalksS prog w A.in1 I fp wr (fun a b=>b=a) n P St)(S:Addr)(hSf:S∉fp)(val:Nat->Int)(hval:∀ i v,P i v->∃ t,v= .int (val i) t)(hv:∀ i,i<n->0<=val i/\val i<32)(hn:n<=4):
  ∀ (k i:Nat) (s:Shared) (ks:List Int),n - i=k->i<=n->St i s->SetG w s.heap S ks->ks.length<=i->(∀ z,z∈ks↔∃ j,j<i/\val j=z)->
   (∀ s' ks',Moved (S::wr) (fun a b=>b=a) s s'->SetG w s'.heap S ks'->(∀ z,z∈ks'↔∃ j,j<n/\val j=z)->R (.ok (.ret .none)) s')->
   codeAny (model prog w) A (.builtin "set.update.loop" ⟨[.ref S, .ref I],[]⟩) R s:=by
 have hSw:S∉wr:=fun h=>hSf (W.sub _ h)
 have sub1:∀ b∈wr,b∈S::wr:=fun b hb=>ar _ hb
 intro k
 induction k with
 | zero=>
  intro i s ks hk hi hst hS hl hm hR
  obtain rfl:i=n:=by omega
  refine df jBK ?_
  rw[cF jAL _]
  show wpAny _ A.in1 (pyNext (.ref I) >>= _) _ _ s
  refine aa (W.done s _ _ hst fun s' mv=>?_)
  show wpAny _ A.in1 (ret Value.none) _ _ s'
  exact af (hR s' ks (mv.mono sub1) (hS.at fun o e=>mv.heap S o hSw e) hm)
 | succ k ih=>
  intro i s ks hk hi hst hS hl hm hR
  have hlt:i<n:=by omega
  refine df jBK ?_
  rw[cF jAL _]
  show wpAny _ A.in1 (pyNext (.ref I) >>= _) _ _ s
  refine aa (W.item i s _ _ hlt hst fun v s' hP hst' mv=>?_)
  obtain⟨t,rfl⟩:=hval i v hP
  have hS':=hS.at (h':=s'.heap) fun o e=>mv.heap S o hSw e
  show wpAny _ A.in1 (holding [Value.int (val i) t] (setAdd S (.int (val i) t)) >>= _) _ _ s'
  refine aa (b0 ?_)
  unfold setAdd
  refine b0 (aa (wpAny_pyHash_int ?_))
  refine jUK (s:= { s' with toks:=s'.toks+1}) hS' (by omega) (hv i hlt).1 (hv i hlt).2 fun b h' ks' sb hS2 hm2 hl2=>?_
  refine af ⟨fE jAL _,ih (i+1) _ ks' (by omega) hlt (W.frame _ s' _ _ hst' (iF _) fun b hb o e=>?_) hS2 (by omega) (fun z=>?_) fun s'' ks'' mv2 hS3 hm3=>?_⟩
  ·rw[sb.2 b (fun h:b=S=>hSf (by rw[<- h]; exact hb))]
   exact e
  ·rw[hm2,hm]
   constructor
   ·rintro (h | ⟨j,hj,e⟩)
    ·exact⟨i,by omega,h.symm⟩
    ·exact⟨j,by omega,e⟩
   ·rintro ⟨j,hj,e⟩
    by_cases hji:j=i
    ·exact .inl (by rw[<- e,hji])
    ·exact .inr ⟨j,by omega,e⟩
  ·refine hR s'' ks'' (Moved.trans W.gtrans ((mv.mono sub1).then_heap (iF _) fun b o hb e=>?_) mv2) hS3 hm3
   rw[sb.2 b (fun h:b=S=>hb (by rw[h]; exact aw))]
   exact e
end
section
variable {prog:Program}{w:World}{A:Around}{E:Value->Shared->Prop}{s:Shared}
theorem jRF (a:Value){Q:Value->Shared->Prop}
  (h:Q (.ref s.heap.objs.size) { s with heap:=s.heap.push { cls:= .type "set",dict:=none,data:= .set #[] 0 (.fresh 0 0 (ledW w))}}):
  codeAny (model prog w) A (.call (.builtin "set.__new__") ⟨[.type "set",a],[]⟩) (wants Q E) s:=by
 refine codeAny_of_tree (show wpAny _ A.in1 (do checkBuiltinCall "set.__new__" ⟨[.type "set",a],[]⟩; again (.builtin "set.__new__" ⟨[.type "set",a],[]⟩)) _ _ s from ?_)
 refine aa (wpAny_of_eq (F.newCall_set_1 a) (af ⟨fE F.plain_set_new _,df F.entry_set_new ?_⟩))
 rw[cF F.plain_set_new _]
 unfold Builtin.«set.__new__» Builtin.Frozenset.newClass
 have q:=sub_set_self
 obtain⟨hp,g,d,tk,os⟩:=s
 dsimp only
 wp_walk
 refine ed (af ?_)
 dsimp only
 simp only [newObj]
 exact aa (wpAny_alloc (af (af h)))
set_option maxHeartbeats 3200000 in
theorem set_of_list {l:Addr}{items:Array Value}{ns:List Int}{Q:Value->Shared->Prop}(hh:A.handled=none)(hl:s.heap.IsList l items)(hi:PyProof.Rows.IntsAre items.toList ns)
  (hn:items.size<=4) (hv:∀ z∈ns,0<=z/\z<32)
  (h:∀ (h':Heap) (tk:Nat) (ks:List Int),SetG w h' s.heap.objs.size ks->(∀ z,z∈ks↔z∈ns)->(∀ b o,s.heap.get? b=some o->h'.get? b=some o)->Q (.ref s.heap.objs.size) { s with heap:=h',toks:=tk}):
  wpAny (model prog w) A (call (.type "set") [.ref l]) Q E s:=by
 obtain⟨c,tl,hmro⟩:=F.called_set.mro
 have hmade:=F.called_set.made
 have hsub:=F.called_set.sub
 have g1:=F.called_set.notType
 have g2:=F.called_set.canCreate
 have g3:=F.typeCall_set_1 (.ref l)
 refine wpAny_call (codeAny_of_tree (show wpAny _ _ (callAny (.type "set") _) _ _ _ from ?_))
 refine af ⟨Code.quiet_builtin _ (by decide+kernel),df F.entry_type_call ?_⟩
 rw[Around.under_plain (weight_type_call_type "set" [.ref l] []) rfl]
 repeat (any_goals (first | assumption | wp_step))
 have hlen:items.size=ns.length:=by rw[<- aG]; exact hi.length
 refine d0 (jRF (.ref l) (E:=E) (Q:=fun obj z=>obj= .ref s.heap.objs.size/\z= { s with heap:=s.heap.push { cls:= .type "set",dict:=none,data:= .set #[] 0 (.fresh 0 0 (ledW w))}}) ⟨rfl,rfl⟩) fun r z hr=>?_
 cases r with
 | error e=>exact hr
 | ok fl=>
  cases fl with
  | ret obj=>
   obtain⟨rfl,rfl⟩:=hr
   generalize hO:({ cls:= .type "set",dict:=none,data:= .set #[] 0 (.fresh 0 0 (ledW w))} :Obj)=oS
   have hS:(s.heap.push oS).get? s.heap.objs.size=some oS:=az _ (by rw[<- hO]; rfl)
   have hT:Shared.TypeIs { s with heap:=s.heap.push oS} (.ref s.heap.objs.size) "set" :=⟨_,hS,by rw[<- hO]⟩
   have hli:=F.called_set.init.lookup
   have hbi:=F.called_set.init.bind (.ref s.heap.objs.size)
   repeat (any_goals (first | assumption | wp_step))
   refine d0 (codeAny_call_builtin (R:=wants (fun r z2=>r= .none/\∃ h' tk ks,z2= { s with heap:=h',toks:=tk} /\SetG w h' s.heap.objs.size ks/\(∀ z,z∈ks↔z∈ns)/\(∀ b o,s.heap.get? b=some o->h'.get? b=some o)) E)
    F.called_set.init.plain F.entry_set_init (check_set_init_1 hT ?_)) fun r2 z2 hr2=>?_
   ·obtain⟨ol,hol,hcl,nl,hdl⟩:=hl
    obtain⟨ocls,odict,odata,oslots⟩:=ol
    simp only at hcl hdl
    subst hcl; subst hdl
    have hol':(s.heap.push oS).get? l=some { cls:= .type "list",dict:=odict,data:= .seq items nl,slots:=oslots} :=ab _ hol
    have y1:=F.sub_list_set
    have y2:=F.sub_list_frozenset
    have y3:(Value.type "list" ==Value.type "dict")=false:=by decide
    have hl1:(s.heap.push oS).IsList l items:=⟨_,hol',rfl,nl,rfl⟩
    subst hO
    unfold Builtin.«set.__init__» noKeywords Builtin.Frozenset.updateFrom
    generalize hPI:pyIter=PI
    wp_walk
    subst hPI
    refine dS hl1 (aa (iG ?_))
    have hlS:l<s.heap.objs.size:=ay hol
    have hz1:(s.heap.push { cls:= .type "set",dict:=none,data:= .set #[] 0 (.fresh 0 0 (ledW w))}).objs.size=s.heap.objs.size+1:=bK _ _
    have nI:l≠(s.heap.push { cls:= .type "set",dict:=none,data:= .set #[] 0 (.fresh 0 0 (ledW w))}).objs.size:=by
     rw[hz1]
     exact aS (bJ hlS)
    have nS:s.heap.objs.size∉ [(s.heap.push { cls:= .type "set",dict:=none,data:= .set #[] 0 (.fresh 0 0 (ledW w))}).objs.size,l]:=by
     rw[hz1]
     simp only [aB,bA,dw,jf]
     exact⟨aS (gZ _),cV hlS⟩
    have hget:((s.heap.push { cls:= .type "set",dict:=none,data:= .set #[] 0 (.fresh 0 0 (ledW w))}).push { cls:= .type "list_iterator",data:= .fields #[.ref l, .int 0 0]}).get? s.heap.objs.size
      =some { cls:= .type "set",dict:=none,data:= .set #[] 0 (.fresh 0 0 (ledW w))} :=ab _ hS
    refine jNE ((Walks.list (by simp [hh]) _ l nI items).toS) s.heap.objs.size nS (fun i=>ns.getD i 0) (fun i v q=>PyProof.Rows.IntsAre.int_at hi i v (by rw[bu]; exact q))
     (fun i q=>hv _ ?_) hn (items.size - 0) 0 _ [] rfl (bb _) ⟨⟨_,az _ rfl,rfl,rfl⟩,hl1.push _⟩ ⟨⟨_,#[],0,_,hget,⟨rfl,rfl,rfl⟩,rfl, .nil,jKF _⟩,fc,bb _⟩ (ak _) (fun z=>⟨fun q=>by(cases q),fun ⟨j,q,_⟩=>absurd q (cR _)⟩) ?_
    ·have q':i<ns.length:=by rw[<- hlen]; exact q
     simp [List.getD,q']
    ·intro s' ks mv S' hm
     obtain⟨h',g',d',tk',os'⟩:=s'
     have e1:g'=s.gens:=mv.gens
     have e2:d'=s.drawn:=mv.drawn
     have e3:os'=s.os:=mv.os
     subst e1; subst e2; subst e3
     refine af (af ⟨rfl,h',tk',ks,rfl,S',fun z=>?_,fun b o e=>?_⟩)
     ·rw[hm]
      constructor
      ·rintro ⟨j,hj,e⟩
       have hj':j<ns.length:=by rw[<- hlen]; exact hj
       rw[<- e]
       simp [List.getD,hj']
      ·intro hz
       obtain⟨j,hj,e⟩:=eJ hz
       exact⟨j,by rw[hlen]; exact hj,by simp [List.getD,hj,e]⟩
     ·have hb:=ay e
      refine mv.heap b o ?_ (ab _ (ab _ e))
      rw[hz1]
      simp only [aB,bA,dw,jf]
      exact⟨aS hb,aS (bJ hb)⟩
   ·cases r2 with
    | error e=>exact hr2
    | ok fl2=>
     cases fl2 with
     | ret r=>
      obtain⟨rfl,h',tk,ks,rfl,hS',hm,hk⟩:=hr2
      repeat (any_goals (first | assumption | wp_step))
      exact h _ _ _ hS' hm hk
     | _=>exact hr2.elim
  | _=>exact hr.elim
end
theorem slot_si_next:Slot "set_iterator" "__next__" "set_iterator.__next__" :=
 .of (owner:= "set_iterator") (n:= "__next__") (by
   rw[iq,fm]
   kernel_rfl) (by decide+kernel) (by decide+kernel)
  (by decide+kernel)
  (by first
   | exact .inl (by decide+kernel)
   | exact .inr (by decide+kernel))
  (by
   rw[iH]
   kernel_rfl)
theorem jCU:Slot "set_iterator" "__iter__" "set_iterator.__iter__" :=
 .of (owner:= "set_iterator") (n:= "__iter__") (by
   rw[iq,fm]
   kernel_rfl) (by decide+kernel) (by decide+kernel)
  (by decide+kernel)
  (by first
   | exact .inl (by decide+kernel)
   | exact .inr (by decide+kernel))
  (by
   rw[iH]
   kernel_rfl)
theorem jC6:entryFor table "set_iterator.__next__" =some Builtin.«set_iterator.__next__»:=entryFor_of_tree (by kernel_rfl)
theorem jEB:entryFor table "set.__iter__" =some Builtin.«frozenset.__iter__»:=
 entryFor_alias (id':= "frozenset.__iter__") (by kernel_rfl) rfl (by decide+kernel) (by kernel_rfl)
theorem jFF:entryFor table "set_iterator.__iter__" =some Builtin.«dict_keyiterator.__iter__»:=
 entryFor_alias (id':= "dict_keyiterator.__iter__") (by kernel_rfl) (by first | rfl | decide+kernel | (unfold String.splitOn; simp+decide [String.splitOnAux])) (by decide+kernel)
  (by kernel_rfl)
theorem jD1 (a:Value):argsOk "set_iterator.__next__" ⟨[a],[]⟩:=by unfold argsOk; kernel_rfl
theorem jGY (a:Value):argsOk "set_iterator.__iter__" ⟨[a],[]⟩:=by unfold argsOk; kernel_rfl
theorem jFM (a:Value):argsOk "set.__iter__" ⟨[a],[]⟩:=by unfold argsOk; kernel_rfl
abbrev byTxt (w:World):Bool:=w.params.followText "set-order"
abbrev IsSI (h:Heap)(I:Addr)(slot i:Nat)(a:Addr)(n ep:Nat):Prop:=
 h.get? I=some { cls:= .type "set_iterator",dict:=none,data:= .fields #[rawInt slot,rawInt i, .ref a,rawInt n,rawInt ep],slots:=#[]}
def yZ (w:World)(t:SetTable)(i:Nat):Nat:=if byTxt w=true then 0 else jI9 t.place i
noncomputable def told (w:World)(a:Addr)(ep:Nat)(es:Array (Int×Value)):List Value:=(if byTxt w=true then (pickOrder (w.params.setOrder a ep) es).toList else es.toList).map (·.2)
theorem jAP (w:World)(a:Addr)(ep:Nat)(es:Array (Int×Value)):(told w a ep es).length=es.size:=by
 unfold told
 rw[ae]
 split
 ·rw[(jG3 _ es).length_eq]; simp
 ·simp
theorem jKD (w:World)(a:Addr)(ep:Nat)(es:Array (Int×Value)):(told w a ep es).Perm (es.toList.map (·.2)):=by
 unfold told
 split
 ·exact(jG3 _ es).map _
 ·exact .refl _
section
variable {prog:Program}{w:World}{A:Around}{E:Value->Shared->Prop}{s:Shared}{a I:Addr}{o:Obj}{es:Array (Int×Value)}{ep:Nat}{t:SetTable}
theorem jL9 {i:Nat}{Q:Option (Value×Nat)->Shared->Prop}(ho:s.heap.get? a=some o)(hd:o.data= .set es ep t)(T:Tab t es.size (ledW w))(hn:es.size<=4)(hi:i<=es.size)
  (h:Q ((told w a ep es)[i]?.map fun v=>(v,yZ w t (i+1))) s):wpAny (model prog w) A (setNext a (yZ w t i) i ep) Q E s:=by
 unfold setNext
 refine aa (db ho hd (T.fits hn) ?_)
 dsimp only
 unfold setsByText
 refine aa (aa (ed (af ?_)))
 show wpAny _ A (if byTxt w=true then _ else _) Q E s
 have hl:=jAP w a ep es
 by_cases hb:byTxt w=true
 ·rw[aj hb,ai (by simp)]
  unfold setWalk
  refine aa (aa (db ho hd (T.fits hn) ?_))
  dsimp only
  unfold setsByText
  refine aa (aa (ed (af ?_)))
  show wpAny _ A (if byTxt w=true then _ else _) _ E s
  rw[aj hb]
  refine aa (ed (af (af ?_)))
  have e:(told w a ep es)[i]?.map (fun v=>(v,yZ w t (i+1)))=(pickOrder (w.params.setOrder a ep) es)[i]?.map (fun e=>(e.snd,yZ w t i)):=by
   unfold told yZ
   rw[aj hb,aj hb,aj hb,aI,bu,Option.map_map]
   rfl
  rw[e] at h
  exact h
 ·rw[ai hb]
  have hb':byTxt w=false:=by simpa using hb
  have hld:t.led=true:=by rw[T.ld]; show (!byTxt w)=true; rw[hb']; rfl
  show wpAny _ A (if (!t.plain&&decide (es.size>1))=true then _ else _) Q E s
  rw[T.pl,iW,eY,ai ah]
  refine aa ?_
  show wpAny _ A (if (!t.led&&!es.isEmpty)=true then _ else pure ()) _ E s
  rw[hld,iW,eY,ai ah]
  refine af (af ?_)
  have eb:SetTable.below t.place (yZ w t i)=i:=by
   unfold yZ
   rw[ai hb]
   exact jGX T.ris (by rw[T.sz]; exact hi)
  rw[eb]
  have et:(told w a ep es)[i]?=es[i]?.map (·.2):=by
   unfold told
   rw[ai hb,aI,bu]
  rw[et] at h
  by_cases hlt:i<es.size
  ·have h1:es[i]?=some es[i]:=by simp [hlt]
   have hlt2:i<t.place.size:=by rw[T.sz]; exact hlt
   have h2:t.place[i]?=some t.place[i]:=by simp [hlt2]
   have h3:yZ w t (i+1)=t.place[i]+1:=by
    unfold yZ jI9
    rw[ai hb]
    simp [Array.getD,hlt2]
   rw[h1,h3] at h
   rw[h1,h2]
   exact h
  ·have h1:es[i]?=none:=by simp; omega
   rw[h1] at h
   rw[h1]
   exact h
theorem jFY {i:Nat}{v:Value}{Q:Option Value->Shared->Prop}(ho:s.heap.get? a=some o)(hd:o.data= .set es ep t)(T:Tab t es.size (ledW w))(hn:es.size<=4)
  (hit:IsSI s.heap I (yZ w t i) i a es.size ep) (hv:(told w a ep es)[i]?=some v)
  (hQ:∀ h',IsSI h' I (yZ w t (i+1)) (i+1) a es.size ep->Heap.SameBut I s.heap h'->Q (some v) { s with heap:=h'}):wpAny (model prog w) A (pyNext (.ref I)) Q E s:=by
 have hT:s.TypeIs (.ref I) "set_iterator" :=⟨_,hit,rfl⟩
 have hi:i<es.size:=by
  rw[<- jAP w a ep es]
  exact(ag.mp hv).1
 unfold pyNext
 refine aa (dG (bD (name:=Str.ofString "__next__") hT slot_si_next (bE slot_si_next hT jC6 ?_ (jD1 _))))
 unfold Builtin.«set_iterator.__next__»
 refine aa (m:=slotArgs "__next__" 0 _) (af ?_)
 dsimp only
 unfold fieldsOf
 refine aa (aa (gt hit ?_))
 refine af ?_
 dsimp only [rawInt]
 unfold setEntries
 refine aa (aa (db ho hd (T.fits hn) (af ?_)))
 rw[ai (by simp)]
 simp only [bq]
 refine aa (jL9 ho hd T hn (cI hi) ?_)
 rw[hv]
 dsimp only [Option.map]
 refine aa (bB hit (by simp) fun h1 hit1 sb1=>?_)
 refine aa (bB hit1 (by simp) fun h2 hit2 sb2=>?_)
 refine af ⟨v,rfl,af (hQ h2 ?_ (sb1.trans sb2))⟩
 show h2.get? I=_
 rw[hit2]
 simp [rawInt]
theorem jH9 {Q:Option Value->Shared->Prop}(hh:A.handled=none)(ho:s.heap.get? a=some o)(hd:o.data= .set es ep t)(T:Tab t es.size (ledW w))(hn:es.size<=4)
  (hit:IsSI s.heap I (yZ w t es.size) es.size a es.size ep)
  (hQ:∀ h',Heap.ExtBut I s.heap h'->Q none { s with heap:=h'}):wpAny (model prog w) A (pyNext (.ref I)) Q E s:=by
 have hT:s.TypeIs (.ref I) "set_iterator" :=⟨_,hit,rfl⟩
 unfold pyNext
 refine aa (dG (bD (name:=Str.ofString "__next__") hT slot_si_next (bE slot_si_next hT jC6 ?_ (jD1 _))))
 unfold Builtin.«set_iterator.__next__»
 refine aa (m:=slotArgs "__next__" 0 _) (af ?_)
 dsimp only
 unfold fieldsOf
 refine aa (aa (gt hit ?_))
 refine af ?_
 dsimp only [rawInt]
 unfold setEntries
 refine aa (aa (db ho hd (T.fits hn) (af ?_)))
 rw[ai (by simp)]
 simp only [bq]
 refine aa (jL9 ho hd T hn (ak _) ?_)
 rw[cB (by rw[jAP]; exact ak _)]
 dsimp only [Option.map]
 refine aa (bB hit (by simp) fun h1 hit1 sb1=>?_)
 refine aa ?_
 simp only [newExc,newTuple]
 refine aa (bI ?_ (by size_fits))
 refine aa (m:=firstArgMember _ _) (wpAny_of_eq (a:=Value.none) (by first | rfl | (simp only [firstArgMember]; rfl)) ?_)
 refine bI ?_ (by size_fits)
 simp only [raiseNew]
 refine aa (wpAny_handled ?_)
 rw[show A.in1.handled=none from hh]
 refine aa (af (wpAny_throw ?_))
 refine aa (fr (T:= "StopIteration") (b:=true) ⟨_,az _ rfl,rfl⟩ iI ?_)
 exact af (hQ _ ((sb1.extBut.push _).push _))
theorem jQ5 {i:Nat}{slot n:Nat}{Q:Value->Shared->Prop}(hit:IsSI s.heap I slot i a n ep)(h:Q (.ref I) s):wpAny (model prog w) A (pyIter (.ref I)) Q E s:=by
 have hT:s.TypeIs (.ref I) "set_iterator" :=⟨_,hit,rfl⟩
 refine wpAny_pyIter_slot hT jCU (bE jCU hT jFF ?_ (jGY _))
 show wpAny _ _ (ret (.ref I)) _ _ s
 exact af ⟨_,rfl,"set_iterator",_,hT,slot_si_next.lookup,h⟩
theorem jNH {Q:Value->Shared->Prop}(hx:o.ExactSet)(ho:s.heap.get? a=some o)(hd:o.data= .set es ep t)(T:Tab t es.size (ledW w))(hn:es.size<=4)
  (hQ:∀ h',h'.get? s.heap.objs.size=some { cls:= .type "set_iterator",dict:=none,data:= .fields #[rawInt (yZ w t 0),rawInt 0, .ref a,rawInt es.size,rawInt ep],slots:=#[]} ->(∀ b u,s.heap.get? b=some u->h'.get? b=some u)->
   h'.objs.size=s.heap.objs.size+1->Q (.ref s.heap.objs.size) { s with heap:=h'}):wpAny (model prog w) A (pyIter (.ref a)) Q E s:=by
 have hT:s.TypeIs (.ref a) "set" :=⟨o,ho,hx.1⟩
 refine wpAny_pyIter_slot hT iA (bE iA hT jEB ?_ (jFM _))
 unfold Builtin.«frozenset.__iter__»
 refine aa (show wpAny _ _ (pure a:Sem Addr) _ _ s from af ?_)
 unfold Builtin.Frozenset.sizeOf setEntries
 refine aa (aa (aa (db ho hd (T.fits hn) (af (af ?_)))))
 dsimp only
 unfold setDrawn
 refine aa (aa (db ho hd (T.fits hn) ?_))
 dsimp only
 unfold setsByText
 refine aa (aa (ed (af (af ?_))))
 show wpAny _ _ (if (!byTxt w&&(!t.plain&&decide (es.size>1)))=true then _ else _) _ _ s
 rw[T.pl,iW,eY,dv,ai ah]
 refine aa (af ?_)
 refine aa (wpAny_setEpoch_of ho hd (T.fits hn) ?_)
 refine aa (bI (af ⟨_,rfl,"set_iterator",_,⟨_,az _ rfl,rfl⟩,slot_si_next.lookup,hQ _ ?_ (fun b u e=>ab _ e) (bK _ _)⟩) (by size_fits))
 have e0:yZ w t 0=0:=by unfold yZ jI9; split <;> rfl
 rw[e0]
 exact az _ rfl
theorem jK8 (hh:A.handled=none)(hne:a≠I)(hd:o.data= .set es ep t)(T:Tab t es.size (ledW w))(hn:es.size<=4):
  Walks prog w A I [I,a] [I] es.size (fun i v=>(told w a ep es)[i]?=some v) (fun i h=>IsSI h I (yZ w t i) i a es.size ep/\h.get? a=some o) where
 sub:=fun b hb=>by simp at hb; simp [hb]
 frame:=fun _ _ _ st hk=>⟨hk I (by simp) _ st.1,hk a (by simp) _ st.2⟩
 item:=fun i s Q E hi st hQ=>by
  obtain⟨v,hv⟩:∃ v,(told w a ep es)[i]?=some v:=⟨_,ax (by rw[jAP]; exact hi)⟩
  exact jFY st.2 hd T hn st.1 hv fun h' hit' sb=>hQ v h' s.toks hv ⟨hit',(sb.2 a hne).trans st.2⟩ fun b o hb e=>(sb.2 b (fun z=>hb (by simp [z]))).trans e
 done:=fun s Q E st hQ=>jH9 hh st.2 hd T hn st.1 fun h' eb=>hQ h' s.toks fun b o hb e=>eb b o (fun z=>hb (by simp [z])) e
 self:=fun _ _ _ _ st hQ=>jQ5 st.1 hQ
end
theorem jFW:typeLookup (.type "set") "__len__" =pure (some (.builtin "set.__len__")):=by rw[iq,fm]; kernel_rfl
section
variable {prog:Program}{w:World}{A:Around}{E:Value->Shared->Prop}{s:Shared}{a:Addr}{o:Obj}{es:Array (Int×Value)}{ep:Nat}{t:SetTable}
theorem jOF {Q:Bool->Shared->Prop}(hT:s.TypeIs (.ref a) "set")(h:Q false s):wpAny (model prog w) A (Builtin.List.listLengthHint (.ref a)) Q E s:=by
 unfold Builtin.List.listLengthHint
 refine aa (wpAny_specialOf hT jFW ?_)
 generalize hid:("set.__len__" :String)=id0
 wp_delta
 rw[show splitId id0=some ("set","__len__") from by subst hid; decide+kernel]
 subst hid
 refine aa (fr (b:=true) hT (by rw[iH]; kernel_rfl) ?_)
 refine wpAny_ite_split (fun q=>absurd q (by decide)) (fun _=>?_)
 refine wpAny_ite_split (fun _=>?_) (fun q=>absurd (by decide+kernel) q)
 exact aa (gj hT (af h))
theorem jHW {Q:List Value->Shared->Prop}(hh:A.handled=none)(hx:o.ExactSet)(ho:s.heap.get? a=some o)(hd:o.data= .set es ep t)(T:Tab t es.size (ledW w))(hn:es.size<=4)
  (hQ:∀ s',(∀ b u,s.heap.get? b=some u->s'.heap.get? b=some u)->s'.gens=s.gens->s'.drawn=s.drawn->s'.os=s.os->s.heap.objs.size<s'.heap.objs.size->Q (told w a ep es) s'):wpAny (model prog w) A (collect (.ref a)) Q E s:=by
 have ha:a<s.heap.objs.size:=ay ho
 have hSa:s.heap.objs.size≠a:=cV ha
 unfold collect
 refine aa (iG (df PySem.F.entry_proto_collect ?_))
 rw[cF gn _]
 show wpAny _ A.in1 (newList [] >>= fun l=>again (.builtin "list.__iadd__" ⟨[l, .ref a],[]⟩)) _ _ s
 refine aa (bI (af ⟨fE dJ _,df PySem.F.entry_list_iadd ?_⟩))
 rw[cF dJ _]
 generalize hE:({ s with heap:=s.heap.push { cls:= .type "list",dict:=none,data:= .seq ([]:List Value).toArray}} :Shared)=s1
 have ho1:s1.heap.get? a=some o:=by rw[<- hE]; exact ab _ ho
 have hL1:s1.heap.get? s.heap.objs.size=some { cls:= .type "list",dict:=none,data:= .seq ([]:List Value).toArray} :=by rw[<- hE]; exact az _ rfl
 have hz1:s1.heap.objs.size=s.heap.objs.size+1:=by rw[<- hE]; exact bK _ _
 have hT1:s1.TypeIs (.ref a) "set" :=⟨o,ho1,hx.1⟩
 show wpAny _ A.in1 (Builtin.List.listExtendWith (.ref s.heap.objs.size) (.ref a) (.ref s.heap.objs.size)) _ _ _
 unfold Builtin.List.listExtendWith
 refine aa (gj hT1 ?_)
 have q1:Builtin.List.listSameRef (.ref s.heap.objs.size) (.ref a)=false:=by simp [Builtin.List.listSameRef,hSa]
 rw[ai (by rw[q1]; decide)]
 refine aa (jNH hx ho1 hd T hn fun h2 hI2 k2 z2=>?_)
 refine aa (b0 ?_)
 have ho2:h2.get? a=some o:=k2 _ _ ho1
 have hT2:Shared.TypeIs { s1 with heap:=h2} (.ref a) "set" :=⟨o,ho2,hx.1⟩
 have hL2:=k2 _ _ hL1
 refine jOF hT2 ?_
 rw[aj (by decide+kernel)]
 refine aa (cD ?_)
 have hne:s.heap.objs.size≠s1.heap.objs.size:=by omega
 refine aa ?_
 show wpAny _ A.in1 (updateSeq s.heap.objs.size (·.push .none) >>= fun _=>updateSeq s.heap.objs.size (·.pop)) _ _ _
 refine aa (wpAny_updateSeq hL2 rfl ?_)
 have hL3:=dz (Obj.mapSeq (·.push Value.none)) hL2 rfl
 refine wpAny_updateSeq hL3 rfl ?_
 have hL4:=dz (Obj.mapSeq (·.pop)) hL3 rfl
 have oth:∀ b u,b≠s.heap.objs.size->h2.get? b=some u->((h2.update s.heap.objs.size (Obj.mapSeq (·.push Value.none))).update s.heap.objs.size (Obj.mapSeq (·.pop))).get? b=some u:=
  fun b u hb e=>(dk _ _ (dD hb)).trans ((dk _ _ (dD hb)).trans e)
 have W:=(jK8 (prog:=prog) (A:=A.in1) (a:=a) (I:=s1.heap.objs.size) hh (aS (show a<s1.heap.objs.size by rw[hz1]; exact bJ ha)) hd T hn).toS
 have z24:es.size<=sizeLine:=by rw[show sizeLine=2 ^ 24 from rfl]; omega
 refine af ⟨fE PySem.F.plain_extend_loop _,codeAny_extend_loopS W z24 s.heap.objs.size (by simp [hne,hSa]) _ es.size 0 _ _ _ rfl (bb _) ⟨oth _ _ (dD hne) hI2,oth _ _ (dD hSa) ho2⟩ hL4 (ItemsOf.nil _) fun s' acc' c' hm hS' hacc=>?_⟩
 show wpAny _ A (load s.heap.objs.size >>= _) _ _ s'
 refine aa (gt hS' ?_)
 have eacc:acc'.toList=told w a ep es:=by
  apply fe
  intro i
  by_cases hi:i<es.size
  ·have hi':i<acc'.size:=by rw[hacc.1]; exact hi
   have:=hacc.2 i acc'[i] (by simp [hi'])
   rw[this]
   simp [hi']
  ·rw[cB (by rw[aG,hacc.1]; omega),cB (by rw[jAP]; omega)]
 refine af ?_
 rw[eacc]
 refine hQ s' (fun b u e=>?_) ?_ ?_ ?_ (ay hS')
 ·have hb:b≠s.heap.objs.size:=aS (ay e)
  have hb1:b≠s1.heap.objs.size:=aS (show b<s1.heap.objs.size by rw[hz1]; exact bJ (ay e))
  exact hm.heap b u (by simp [hb,hb1]) (oth b u hb (k2 b u (by rw[<- hE]; exact ab _ e)))
 ·have:=hm.gens; rw[<- hE] at this; exact this
 ·have:=hm.drawn; rw[<- hE] at this; exact this
 ·have:=hm.os; rw[<- hE] at this; exact this
end
end SS
end
section
namespace SS
open PySem PyProof.Rows
section
variable {prog:Program}{w:World}{A:Around}{E:Value->Shared->Prop}{s:Shared}{a:Addr}{ks:List Int}
theorem jM3:∀ {vs:List Value}{ks:List Int},Paired (fun v k=>∃ t,v=Value.int k t) vs ks->IntsAre vs ks
 | _,_, .nil=> .nil
 | _,_, .cons ⟨t,e⟩ r=>by subst e; exact .cons _ t (jM3 r)
theorem jEL {es:List (Int×Value)} :∀ {ks:List Int},Paired El es ks->Paired (fun v k=>∃ t,v=Value.int k t) (es.map (·.2)) ks
 | _, .nil=> .nil
 | _, .cons ⟨_,q⟩ r=> .cons q (jEL r)
theorem jHE {α β:Type}{F:α->β->Prop}{l l':List α}(p:l'.Perm l):∀ {r:List β},Paired F l r->∃ r',Paired F l' r'/\r'.Perm r:=by
 induction p with
 | nil=>intro r h; cases h; exact⟨[], .nil, .nil⟩
 | cons x _ ih=>
  intro r h
  cases h with
  | cons f t=>
   obtain⟨r',h1,h2⟩:=ih t
   exact⟨_::r', .cons f h1,h2.cons _⟩
 | swap x y l=>
  intro r h
  cases h with
  | cons f t=>
   cases t with
   | cons g t=>exact⟨_, .cons g (.cons f t), .swap _ _ _⟩
 | trans _ _ ih1 ih2=>
  intro r h
  obtain⟨r1,h1,h2⟩:=ih2 h
  obtain⟨r2,h3,h4⟩:=ih1 h1
  exact⟨r2,h3,h4.trans h2⟩
theorem sorted_set {Q:Value->Shared->Prop}(hh:A.handled=none)(S:SetG w s.heap a ks)
  (h:∀ (s':Shared) (l:Addr) (vs:List Value) (ns:List Int) (e:Nat),s.heap.objs.size<=l->(∀ b u,s.heap.get? b=some u->s'.heap.get? b=some u)->s'.gens=s.gens->s'.drawn=s.drawn->s'.os=s.os->
   s'.heap.get? l=some { cls:= .type "list",data:= .seq vs.toArray e} ->IntsAre vs ns->ns.Perm ks->ns.Pairwise (· <= ·)->Q (.ref l) s'):
  wpAny (model prog w) A (call (.builtin "sorted") [.ref a]) Q E s:=by
 obtain⟨o,es,ep,t,ho,hex,hd,hp,T⟩:=S.ex
 have hn:es.size<=4:=by
  have:=fw hp
  rw[aG] at this
  have:=S.len
  omega
 refine eE kind_sorted plain_sorted entry_sorted (args_sorted1 _) ?_
 unfold Builtin.«sorted»
 refine aa (m:=checkCount "sorted" 1 1 _) (af ?_)
 refine aa (jHW (A:=A.in1) hh hex ho hd T hn fun s1 k1 g1 d1 o1 z1=>?_)
 refine aa (fH ?_ (by rw[jAP,show sizeLine=2 ^ 24 from rfl]; omega))
 obtain⟨ks1,hp1,pm1⟩:=jHE (jKD w a ep es) (jEL hp)
 have hI:=jM3 hp1
 have hl:(told w a ep es).length<64:=by rw[jAP]; omega
 have hL:(s1.heap.push (seqObj "list" (told w a ep es).toArray 0)).get? s1.heap.objs.size=some (seqObj "list" (told w a ep es).toArray 0):=az _ rfl
 show wpAny _ _ _ _ _ { s1 with heap:=s1.heap.push (seqObj "list" (told w a ep es).toArray 0)}
 refine aa (b0 (bE gz ⟨_,hL,rfl⟩ ga (list_sort_tree hL hI hl fun out ns' a1 a2 a3=>⟨_,rfl,?_⟩) (args_list_sort _)))
 obtain⟨e,he⟩:=gQ (out:=out) hL
 have kept:∀ b u,s.heap.get? b=some u->(sortedHeap (s1.heap.push (seqObj "list" (told w a ep es).toArray 0)) s1.heap.objs.size (told w a ep es) out).get? b=some u:=fun b u q=>by
  have q1:=k1 b u q
  have hb:b<s1.heap.objs.size:=ay q1
  rw[gA (aS hb) (by rw[size_push']; exact bJ hb)]
  exact ab _ q1
 generalize sortedHeap (s1.heap.push (seqObj "list" (told w a ep es).toArray 0)) s1.heap.objs.size (told w a ep es) out=hf at he kept ⊢
 exact af ⟨_,rfl,h { s1 with heap:=hf} s1.heap.objs.size out.toList ns' e (cI z1) kept g1 d1 o1 (by rw[cW]; exact he) a1 (a2.trans pm1) a3⟩
end
end SS
end
section
namespace L2
open PySem PySem.Spec PyProof.Rows
section
variable {es:List Expr}{env:Env}{a b:Expr}{pos:Pos}{xs ys:List Expr}
theorem yM {op:Operator} :starEach (.BinOp a op b pos::es) env=(false,eval (.BinOp a op b pos) env)::starEach es env:=rfl
theorem se_un {op:UnaryOp} :starEach (.UnaryOp op a pos::es) env=(false,eval (.UnaryOp op a pos) env)::starEach es env:=rfl
theorem jEH {ops:List CmpOp} :starEach (.Compare a ops xs pos::es) env=(false,eval (.Compare a ops xs pos) env)::starEach es env:=rfl
theorem jJ {kw:List Keyword} :starEach (.Call a xs kw pos::es) env=(false,eval (.Call a xs kw pos) env)::starEach es env:=rfl
theorem kL:starEach (.Subscript a b pos::es) env=(false,eval (.Subscript a b pos) env)::starEach es env:=rfl
theorem jV {gs sc} :starEach (.ListComp a gs sc pos::es) env=(false,eval (.ListComp a gs sc pos) env)::starEach es env:=rfl
theorem jIB {x1} :starEach (.Tuple xs x1 pos::es) env=(false,eval (.Tuple xs x1 pos) env)::starEach es env:=rfl
theorem jO {c k} :starEach (.Constant c k pos::es) env=(false,eval (.Constant c k pos) env)::starEach es env:=rfl
theorem j3 {x:Str} :starEach (.Name x pos::es) env=(false,eval (.Name x pos) env)::starEach es env:=rfl
end
section
variable {X:Cx}
def CDivL (i j:Int):Prop:=0<j/\j<2 ^ 64
theorem jIJ:OpR X (binaryOp .FloorDiv) (rI CDivL fun i j=> .int (i / j)):=opI fun i j _ _ _ _ _ hc q=>by
 have h1:(0:Int)<j:=hc.1
 have h2:j<2 ^ 64:=hc.2
 refine floordiv_int (by omega) (by rw[gu i (by omega)]; exact q) (.inl (PyProof.noPylong_of_log2 ?_))
 have h3:j.natAbs<2 ^ 64:=by omega
 have h4:j.natAbs≠0:=by omega
 have:=(Nat.log2_lt h4).mpr h3
 omega
theorem jP:yO X (.builtin "isinstance") (fun xs H Q=>∃ x T t b,xs=[x, .ty T]/\TyOf X.K H x t/\kitOne X.K t (.type T)=some b/\Q (.bl b) H):=by
 intro pins s σ H xs us Q I r h
 obtain⟨x,T,t,b,rfl,ty,e,q⟩:=h
 obtain⟨u,v,rfl,ru,rv⟩:=r.two
 cases rv
 exact jM2 I ru ty e fun tk=>⟨.bl b,H,I.tok tk,rfl,q⟩
def jQA:V->List V->Hp->VK->Prop:=fun x vs H Q=>∃ l xs i y,x= .ref l/\vs=[.int i,y]/\H l=some (.lst xs)/\0<=i/\i<=xs.length/\xs.length<sizeLine/\Q .non (upd H l (.lst (xs.take i.toNat++y::xs.drop i.toNat)))
theorem Vals.put {y:V}{v:Value}(r:RelV y v){xs:List V}{us:List Value}(h:Vals xs us)(k:Nat):Vals (xs.take k++y::xs.drop k) (us.take k++v::us.drop k):=(h.take k).append (.cons r (h.drop k))
theorem jLI:MtM X "list.insert" jQA:=by
 intro pins s σ H x vs v us Q I rx rv h
 obtain⟨l,xs,i,y,rfl,rfl,hH,h0,h1,hz,q⟩:=h
 cases rx
 obtain⟨a,b,rfl,ra,rb⟩:=rv.two
 obtain⟨t,rfl⟩:=ra
 obtain⟨z,its,n,r,hl,e⟩:=I.lstM hH
 have line:=jGD
 have hf:Builtin.List.listFitsIndex i=true:=fitsIndex_both (by omega) (by omega)
 refine eS F.slot_list_insert ⟨_,e,rfl⟩ F.entry_list_insert (F.args_list_insert_3 _ _ _) (AutoSeq1.list_insert_list_int_val_1 l its.toArray n i t b (by simp [hf]) (by rw[aq]; omega)) ⟨e,?_⟩
 refine⟨.non,_,I.lset (its':=its.take i.toNat++b::its.drop i.toNat) hH e ?_ (Vals.put rb r i.toNat) ?_,rfl,q⟩
 ·have hk:(if i<0 then (i+(its.toArray.size:Int)).toNat else min i.toNat its.toArray.size)=i.toNat:=by
   rw[ai (by omega),aq]
   omega
  show (its.toArray.extract 0 (if i<0 then (i+(its.toArray.size:Int)).toNat else min i.toNat its.toArray.size)).push b++its.toArray.extract (if i<0 then (i+(its.toArray.size:Int)).toNat else min i.toNat its.toArray.size)=_
  rw[hk]
  apply Array.ext'
  simp [dB,bO]
 ·rw[aE,aK,be,dq]
  omega
theorem jEO {x:V} :∀ {xs:List V}{us:List Value},Vals xs us->xs.all qO=true->us.countP (eqU x)=xs.countP fun y=>eqV y x
 | _,_, .nil,_=>rfl
 | y::xs,u::us, .cons r t,f=>by
  rw[dn,bF] at f
  rw[ce,ce,jMF r f.1,jEO t f.2]
def rEqE (K:W.Frag):R2:=fun x y H Q=>∃ p q xs,x= .ref p/\y= .ref q/\SqT K H p xs/\SqT K H q []/\Q (.bl (decide (xs=[]))) H
theorem jTI (hu:X.A.units<cLine):OpR X (compareOp .Eq) (rEqE X.K):=by
 intro pins s σ H x y v u Q I rx ry h
 obtain⟨p,q,xs,rfl,rfl,hp,hq,k⟩:=h
 cases rx
 cases ry
 obtain⟨its,r,t1,_⟩:=I.tuple hp
 obtain⟨its2,r2,t2,_⟩:=I.tuple hq
 have e2:its2=[]:=r2.zero
 subst e2
 refine SeqAt.eq_tupleAt (e:=fun _=>true) (show s.heap.IsTuple p its.toArray from t1) (show s.heap.IsTuple q ([]:List Value).toArray from t2) hu (fun j h1 h2=>absurd h2 (by simp)) ⟨.bl _,H,I,rfl,?_⟩
 have hl:=r.length
 have e:((List.range (min its.toArray.size ([]:List Value).toArray.size)).all (fun _=>true)&&its.toArray.size==([]:List Value).toArray.size)=decide (xs=[]):=by
  cases xs with
  | nil=>
   have:its=[]:=by simpa using hl.symm
   subst this
   rfl
  | cons a b=>
   have:its.length≠0:=by rw[<- hl]; simp
   simp [this]
 rw[e]
 exact k
theorem jAO (hc:X.calm=true):yO X (.builtin "all") (fun xs H Q=>∃ (p:Addr) (bs:List Bool),xs=[.ref p]/\SqL X.K H p (bs.map V.bl)/\Q (.bl (bs.all id)) H):=by
 intro pins s σ H xs us Q I r h
 obtain⟨p,bs,rfl,hq,q⟩:=h
 obtain⟨u,rfl,rx⟩:=r.one
 cases rx
 obtain⟨its,r',pl,hz⟩:=I.list hq
 have hlen:=r'.length
 rw[ae] at hlen
 refine call_all_walk (dS pl.isList ?_)
 have hne:p≠s.heap.objs.size:=by
  obtain⟨o,ho,_⟩:=pl.isList
  exact aS (ay ho)
 refine⟨s.heap.objs.size,_,_,_,_,_,fun i=>bs.getD i true,rfl,Walks.list (by simpa using I.ok.hd hc) _ p hne its.toArray,⟨⟨_,az _ rfl,rfl,rfl⟩,pl.isList.push _⟩,fun i v z Q' E' hP hQ'=>?_,fun h' tk hk=>?_⟩
 ·have hi:its[i]?=some v:=by simpa using hP
  have hb:i<bs.length:=by
   rw[hlen]
   exact(ag.mp hi).1
  obtain⟨u,hu,ru⟩:=r'.get (i:=i) (x:= .bl (bs[i])) (by simp [hb])
  rw[hi] at hu
  cases hu
  cases ru
  have e:bs.getD i true=bs[i]:=by simp [List.getD,hb]
  have hQ2:Q' (bs.getD i true) z:=hQ'
  rw[e] at hQ2
  exact af hQ2
 ·have e:(List.range its.toArray.size).all (fun i=>bs.getD i true)=bs.all id:=by
   rw[aq,<- hlen]
   rw[bZ,bi,bi]
   constructor
   ·intro a b hb
    obtain⟨i,hi,rfl⟩:=eJ hb
    have:=a i (bY.mpr hi)
    simpa [List.getD,hi] using this
   ·intro a i hi
    have hi:=bY.mp hi
    have:=a bs[i] (dI hi)
    simpa [List.getD,hi] using this
  rw[e]
  exact⟨.bl _,H,I.kept (t':=tk) fun b o e=>hk b o (by
   intro z
   have z:b=s.heap.objs.size:=by simpa using z
   exact absurd (ay e) (by rw[z]; exact cw _)) (ab _ e),rfl,q⟩
def jE3 (n:Nat):List V:=(List.range n).map fun (i:Nat)=>V.int (i:Int)
theorem jJB {n:Nat}{acc:Array Value}(h:ItemsOf (fun i v=>∃ t,v=Value.int (0+(i:Int)*1) t) acc n):Vals (jE3 n) acc.toList:=by
 have key:∀ (l:List Value) (k:Nat),(∀ j v,l[j]?=some v->∃ t,v=Value.int ((k+j:Nat):Int) t)->Vals ((List.range' k l.length).map fun (i:Nat)=>V.int (i:Int)) l:=by
  intro l
  induction l with
  | nil=>intro k _; exact .nil
  | cons v l ih=>
   intro k hk
   rw[aK,List.range'_succ,aY]
   refine .cons ?_ (ih (k+1) fun j u hj=>?_)
   ·obtain⟨t,e⟩:=hk 0 v rfl
    exact⟨t,by simpa using e⟩
   ·obtain⟨t,e⟩:=hk (j+1) u (by simpa using hj)
    exact⟨t,by rw[e]; congr 1; omega⟩
 have:=key acc.toList 0 fun j v hj=>by
  obtain⟨t,e⟩:=h.2 j v (by simpa using hj)
  exact⟨t,by rw[e]; congr 1; omega⟩
 rw[aG,h.1] at this
 unfold jE3
 rw[List.range_eq_range']
 exact this
theorem jI0:yO X (.type "range") (fun xs H Q=>∃ j:Int,xs=[.int j]/\∀ p,H p=none->Q (.ref p) (upd H p (.rng 0 j))):=by
 intro pins s σ H xs us Q I r h
 obtain⟨j,rfl,q⟩:=h
 obtain⟨u,rfl,t,rfl⟩:=r.one
 refine call_range_1 ⟨.ref s.heap.objs.size,_,I.laid (o:= .rng 0 j) (fun b o e=>ab _ e) (ak _) ?_,rfl,q _ I.fresh⟩
 exact⟨_,_,_,az _ rfl⟩
theorem jGO (hc:X.calm=true):yO X (.type "list") (fun xs H Q=>∃ p j,xs=[.ref p]/\H p=some (.rng 0 j)/\0<=j/\j<=1000/\∀ l,H l=none->Q (.ref l) (upd H l (.lst (jE3 j.toNat)))):=by
 intro pins s σ H xs us Q I r h
 obtain⟨p,j,rfl,hp,h0,h1,q⟩:=h
 obtain⟨u,rfl,rx⟩:=r.one
 cases rx
 obtain⟨t,u,v,e⟩:=I.hok p _ hp
 have en:Builtin.Range.rangeSize 0 j 1=(j.toNat:Int):=by
  rw[rangeSize_one]
  split <;> omega
 refine call_list_range (I.ok.hd hc) (show IsRange s.heap p 0 j 1 t u v from e) (small_one (by omega) (by omega) (by omega) (by omega)) en (by omega) fun h' tk acc' c' kp hS hacc=>?_
 refine⟨.ref s.heap.objs.size,_,I.laid (t':=tk) (o:= .lst (jE3 j.toNat)) kp (ak _) ?_,rfl,q _ I.fresh⟩
 refine⟨?_,acc'.toList,c',jJB hacc,by rw[cW]; exact hS⟩
 unfold jE3
 rw[ae,de,dE]
 omega
def SetO (w:World)(a:Addr)(ks:List Int):HO:= .ext fun h=>SS.SetG w h a ks
theorem jCS {ns:List Int} :∀ {us:List Value},Vals (ns.map V.int) us->IntsAre us ns:=by
 induction ns with
 | nil=>intro us h; cases h; exact .nil
 | cons n ns ih=>
  intro us h
  cases h with
  | cons r t=>
   obtain⟨k,rfl⟩:=r
   exact .cons n k (ih t)
theorem jAA:∀ {us:List Value}{ns:List Int},IntsAre us ns->Vals (ns.map V.int) us
 | _,_, .nil=> .nil
 | _,_, .cons n t r=> .cons ⟨t,rfl⟩ (jAA r)
theorem jMY (hc:X.calm=true):yO X (.type "set") (fun xs H Q=>∃ (p:Addr) (ns:List Int),xs=[.ref p]/\SqL X.K H p (ns.map V.int)/\ns.length<=4/\(∀ z∈ns,0<=z/\z<32)/\
  ∀ (l:Addr) (ks:List Int),H l=none->(∀ z,z∈ks↔z∈ns)->Q (.ref l) (upd H l (SetO X.w l ks))):=by
 intro pins s σ H xs us Q I r h
 obtain⟨p,ns,rfl,hq,hl,hv,q⟩:=h
 obtain⟨u,rfl,rx⟩:=r.one
 cases rx
 obtain⟨its,r',pl,hz⟩:=I.list hq
 have hlen:=r'.length
 rw[ae] at hlen
 refine SS.set_of_list (I.ok.hd hc) pl.isList (jCS r') (by rw[aq]; omega) hv fun h' tk ks S hm kp=>?_
 have hg:∃ o,h'.get? s.heap.objs.size=some o:=let ⟨o,_,_,_,e,_⟩:=S.ex; ⟨o,e⟩
 exact⟨.ref s.heap.objs.size,_,I.laid (t':=tk) (o:=SetO X.w s.heap.objs.size ks) kp (ak _) ⟨S,hg,fun h1 h2 a b=>a.at b⟩,rfl,q _ ks I.fresh hm⟩
theorem jEC (hc:X.calm=true):yO X (.builtin "sorted") (fun xs H Q=>∃ (p:Addr) (ks:List Int),xs=[.ref p]/\H p=some (SetO X.w p ks)/\
  ∀ (l:Addr) (ns:List Int),H l=none->ns.Pairwise (· < ·)->(∀ z,z∈ns↔z∈ks)->Q (.ref l) (upd H l (.lst (ns.map V.int)))):=by
 intro pins s σ H xs us Q I r h
 obtain⟨p,ks,rfl,hp,q⟩:=h
 obtain⟨u,rfl,rx⟩:=r.one
 cases rx
 obtain⟨S,_,_⟩:=I.hok p _ hp
 refine SS.sorted_set (I.ok.hd hc) S fun s' l vs ns e hl kp g d o he hi pm srt=>?_
 obtain⟨h',g',d',t',o'⟩:=s'
 have g:g'=s.gens:=g
 have o:o'=s.os:=o
 have d:d'=s.drawn:=d
 subst g; subst o; subst d
 have nd:ns.Nodup:=pm.nodup_iff.mpr S.nd
 have lt:ns.Pairwise (· < ·):=by
  have:=gK srt nd
  exact this.imp fun {a b} ⟨x,y⟩=>by omega
 have hz:(ns.map V.int).length<=sizeLine:=by
  rw[ae,pm.length_eq,dE]
  have:=S.len
  omega
 have I2:Inv X pins σ (upd H l (.lst (ns.map V.int))) { s with heap:=h',toks:=t'} :=I.laid (t':=t') kp hl ⟨hz,vs,e,jAA hi,he⟩
 exact⟨.ref l,_,I2,rfl,q l ns (I.hok.fresh hl) lt fun z=>pm.mem_iff⟩
end
section
variable {X:Cx}{p1 p2 p3 p4 p5 p6 p7:Pos}{k1 k2 k3 k4:Nat}
theorem jQU {i j r:Int}(hj:0<=j)(hj2:j<=1000000)(hi:i.natAbs<2 ^ 64)(e:i ^ j.toNat=r):PE X (.BinOp (.Constant (.int i) k2 p2) .Pow (.Constant (.int j) k3 p3) p4) (tC (.int r)):=fun pins s σ H Q I h=>
 (kI (X:=X) jL1 jL jL) pins s σ H Q I ⟨_,_,rfl,rfl,⟨hj,hj2,hi⟩,by subst e; exact h⟩
theorem jQV {a b:Expr}{i j r:Int}(ha:PE X a (tC (.int i)))(hb:PE X b (tC (.int j)))(hc:CMul i j)(e:i*j=r):PE X (.BinOp a .Mult b p1) (tC (.int r)):=fun pins s σ H Q I h=>
 (kI (X:=X) jBY ha hb) pins s σ H Q I ⟨_,_,rfl,rfl,hc,by subst e; exact h⟩
theorem jQY {a b:Expr}{i j r:Int}(ha:PE X a (tC (.int i)))(hb:PE X b (tC (.int j)))(e:i+j=r):PE X (.BinOp a .Add b p1) (tC (.int r)):=fun pins s σ H Q I h=>
 (kI (X:=X) y9 ha hb) pins s σ H Q I ⟨_,_,rfl,rfl,by subst e; exact h⟩
theorem jTE:PE X (.BinOp (.BinOp (.Constant (.int 2) k1 p1) .Mult (.BinOp (.Constant (.int 10) k2 p2) .Pow (.Constant (.int 12) k3 p3) p4) p5) .Add (.Constant (.int 1) k4 p6) p7) (tC (.int 2000000000001)):=
 jQY (i:=2000000000000) (jQV (j:=1000000000000) jL (jQU (by decide) (by decide) (by decide) (by decide)) (.inl ⟨by decide,by decide⟩) (by decide)) jL (by decide)
end
def ItAt (tp:Bool)(h:Heap)(it a:Addr)(i:Nat):Prop:=match tp with
 | false=>h.IsListIter it a i
 | true=>h.IsTupleIter it a i
def ObAt (tp:Bool)(h:Heap)(a:Addr)(xs:Array Value):Prop:=match tp with
 | false=>h.IsList a xs
 | true=>h.IsTuple a xs
theorem ItAt.but {tp:Bool}{h h':Heap}{it a b:Addr}{i:Nat}(x:ItAt tp h it a i)(e:Heap.ExtBut b h h')(n:it≠b):ItAt tp h' it a i:=by
 cases tp with
 | false=>exact Heap.IsListIter.extBut x e n
 | true=>exact Heap.IsTupleIter.extBut x e n
theorem ObAt.but {tp:Bool}{h h':Heap}{a b:Addr}{xs:Array Value}(x:ObAt tp h a xs)(e:Heap.ExtBut b h h')(n:a≠b):ObAt tp h' a xs:=by
 cases tp with
 | false=>exact Heap.IsList.extBut x e n
 | true=>exact Heap.IsTuple.extBut x e n
theorem ItAt.at {tp:Bool}{h h':Heap}{it a:Addr}{i:Nat}(x:ItAt tp h it a i)(e:∀ o,h.get? it=some o->h'.get? it=some o):ItAt tp h' it a i:=by
 cases tp with
 | false=>exact Heap.IsListIter.at x e
 | true=>exact Heap.IsTupleIter.at x e
theorem ItAt.obj {tp:Bool}{h:Heap}{it a:Addr}{i:Nat}(x:ItAt tp h it a i):∃ o,h.get? it=some o/\∀ v,o.data≠ .cell v:=by
 cases tp with
 | false=>obtain⟨o,e,_,d⟩:=x; exact⟨o,e,fun v q=>by rw[d] at q; cases q⟩
 | true=>obtain⟨o,e,_,d⟩:=x; exact⟨o,e,fun v q=>by rw[d] at q; cases q⟩
theorem ObAt.lt {tp:Bool}{h:Heap}{a:Addr}{xs:Array Value}(x:ObAt tp h a xs):a<h.objs.size:=by
 cases tp with
 | false=>obtain⟨o,e,_⟩:=x; exact ay e
 | true=>obtain⟨o,e,_⟩:=x; exact ay e
section
variable {prog:Program}{w:World}{A:Around}{E:Value->Shared->Prop}{s:Shared}
theorem next1 {tp:Bool}{it a:Addr}{i:Nat}{xs:Array Value}{x:Value}{Q:Value->Shared->Prop}(hi:ItAt tp s.heap it a i)(ha:ObAt tp s.heap a xs)(hx:xs[i]?=some x)
  (k:∀ h',ItAt tp h' it a (i+1)->Heap.SameBut it s.heap h'->Q x { s with heap:=h'}):wpAny (model prog w) A (Builtin.SmallTypes.nextOf (.ref it)) Q E s:=by
 cases tp with
 | false=>exact wpAny_nextOf_list_item hi ha hx k
 | true=>
  obtain⟨o,e,c,d⟩:=id (show s.heap.IsTupleIter it a i from hi)
  obtain⟨u,eu,_,n,du⟩:=(show s.heap.IsTuple a xs from ha)
  have ty:=Heap.IsTupleIter.typeIs (show s.heap.IsTupleIter it a i from hi)
  unfold Builtin.SmallTypes.nextOf
  refine aa (bD (name:=Str.ofString "__next__") ty F.slot_tuple_iterator_next (bE F.slot_tuple_iterator_next ty F.entry_tuple_iterator_next (?_:wpAny (model prog w) _ (field (.ref it) 0 >>= _) _ _ s) (F.args_tuple_iterator_next_1 _)))
  refine aa (bL e d (x:= .ref a) rfl (?_:wpAny (model prog w) _ (if (Value.ref a==Value.none)=true then _ else _) _ _ s))
  rw[ai (by exact ah)]
  show wpAny (model prog w) _ (field (.ref it) 1 >>= _) _ _ s
  refine aa (bL e d (x:= .int i 0) rfl ?_)
  show wpAny (model prog w) _ (seqItems? (.ref a) >>= _) _ _ s
  refine aa (dy eu du ?_)
  simp only [bq,hx]
  refine aa (wpAny_setField e d (by simp) (af ⟨x,rfl,af (k _ ⟨_,dz _ e (Obj.isFreed_of_fields (Obj.data_mapFields d _)),(Obj.cls_mapFields ..).trans c,?_⟩ (gh ..))⟩))
  rw[Obj.data_mapFields d]
  simp [rawInt]
theorem next0 {tp:Bool}{it a:Addr}{i:Nat}{xs:Array Value}{Q:Value->Shared->Prop}(hh:A.handled=none)(hi:ItAt tp s.heap it a i)(ha:ObAt tp s.heap a xs)(hx:xs[i]?=none)
  (k:∀ h' e,Heap.ExtBut it s.heap h'->(∃ o,h'.get? e=some o/\o.cls= .type "StopIteration")->E (.ref e) { s with heap:=h'}):wpAny (model prog w) A (Builtin.SmallTypes.nextOf (.ref it)) Q E s:=by
 cases tp with
 | false=>exact wpAny_nextOf_list_end hh hi ha hx k
 | true=>
  obtain⟨o,e,c,d⟩:=id (show s.heap.IsTupleIter it a i from hi)
  obtain⟨u,eu,_,n,du⟩:=(show s.heap.IsTuple a xs from ha)
  have ty:=Heap.IsTupleIter.typeIs (show s.heap.IsTupleIter it a i from hi)
  unfold Builtin.SmallTypes.nextOf
  refine aa (bD (name:=Str.ofString "__next__") ty F.slot_tuple_iterator_next (bE F.slot_tuple_iterator_next ty F.entry_tuple_iterator_next (?_:wpAny (model prog w) _ (field (.ref it) 0 >>= _) _ _ s) (F.args_tuple_iterator_next_1 _)))
  refine aa (bL e d (x:= .ref a) rfl (?_:wpAny (model prog w) _ (if (Value.ref a==Value.none)=true then _ else _) _ _ s))
  rw[ai (by exact ah)]
  show wpAny (model prog w) _ (field (.ref it) 1 >>= _) _ _ s
  refine aa (bL e d (x:= .int i 0) rfl ?_)
  show wpAny (model prog w) _ (seqItems? (.ref a) >>= _) _ _ s
  refine aa (dy eu du ?_)
  simp only [bq,hx]
  refine aa (cD (aa (wpAny_setField e d (by simp) (?_:wpAny (model prog w) _ (newExc (.type "StopIteration") [] >>= _) _ _ _))))
  refine aa (by
   simp only [newExc,newTuple]
   refine aa (bI (aa (m:=firstArgMember _ _) (wpAny_of_eq (a:=Value.none) (by first | rfl | (simp only [firstArgMember]; rfl)) (bI ?_ (by size_fits)))) (by size_fits))
   simp only [raiseNew]
   refine aa (wpAny_handled ?_)
   first | rw[show A.in1.handled=none from hh] | rw[hh]
   exact aa (af (wpAny_throw (k _ _ (((gh ..).extBut.push _).push _) ⟨_,az _ rfl,rfl⟩))))
theorem jK6 {t1 t2:Bool}{z TI TO i1 i2 l1 l2:Addr}{k1 k2:Nat}{xs ys:Array Value}{x y a b:Value}{Q:Value->Shared->Prop}(D:ZipApart z TI TO i1 i2 l1 l2)
  (ez:IsZip s.heap z TI TO .none) (eI:IsPair s.heap TI (.ref i1) (.ref i2)) (eO:IsPair s.heap TO a b) (g1:ItAt t1 s.heap i1 l1 k1) (g2:ItAt t2 s.heap i2 l2 k2) (o1:ObAt t1 s.heap l1 xs) (o2:ObAt t2 s.heap l2 ys) (hx:xs[k1]?=some x) (hy:ys[k2]?=some y)
  (k:∀ h',IsZip h' z TI TO (rawInt s.heap.objs.size)->IsPair h' TO x y->ItAt t1 h' i1 l1 (k1+1)->ItAt t2 h' i2 l2 (k2+1)->IsPair h' s.heap.objs.size x y->h'.objs.size=s.heap.objs.size+1->
   (∀ c o,c≠z->c≠TO->c≠i1->c≠i2->s.heap.get? c=some o->h'.get? c=some o)->Q (.ref s.heap.objs.size) { s with heap:=h'}):
  wpAny (model prog w) A (Builtin.«zip.__next__» ⟨[.ref z],[]⟩) (fun fin s'=>∃ v,fin= .done (.ret v)/\Q v s') E s:=by
 show wpAny (model prog w) A (field (.ref z) 2 >>= _) _ _ _
 refine aa (bL ez rfl (x:= .bool false) rfl (?_:wpAny (model prog w) A (field (.ref z) 3 >>= _) _ _ _))
 refine aa (bL ez rfl (x:= .ref TI) rfl (aa (dy eI rfl (?_:wpAny (model prog w) A (Builtin.SmallTypes.ownedTupleIsFree (.ref z) >>= _) _ _ _))))
 refine aa (by
  unfold Builtin.SmallTypes.ownedTupleIsFree
  refine aa (bL ez rfl (x:= .none) rfl (af ?_))
  simp only [eQ]
  refine aa (cD (aa (bL ez rfl (x:= .ref TO) rfl (aa (bB ez (by simp) fun p1 f1 q1=>?_)))))
  have f1:IsZip p1 z TI TO .ellipsis:=f1
  refine aa (by
   simp only [g6,List.zipIdx_nil,io,iJ]
   refine aa (aa (gR (?_:wpAny (model prog w) A (Builtin.SmallTypes.nextOf (.ref i1) >>= _) _ _ _)))
   refine aa (next1 (g1.but q1.extBut D.i1z) (o1.but q1.extBut D.l1z) hx fun p2 r2 q2=>af ?_)
   have eO2:IsPair p2 TO a b:=q2.extBut _ _ D.TOi1 (q1.extBut _ _ D.TOz eO)
   refine aa (dy eO2 rfl (aa (fK eO2 fun p3 eO3 q3=>aa (iK (af ?_)))))
   have eO3:IsPair p3 TO x b:=eO3
   refine aa (aa (gR (?_:wpAny (model prog w) A (Builtin.SmallTypes.nextOf (.ref i2) >>= _) _ _ _)))
   refine aa (next1 (((g2.but q1.extBut D.i2z).but q2.extBut D.i12.symm).but q3.extBut D.TOi2.symm) (((o2.but q1.extBut D.l2z).but q2.extBut D.l2i1).but q3.extBut D.l2TO) hy fun p4 r4 q4=>af ?_)
   have eO4:IsPair p4 TO x b:=q4.extBut _ _ D.TOi2 eO3
   refine aa (dy eO4 rfl (aa (fK eO4 fun p5 eO5 q5=>aa (iK (af (af ?_))))))
   have eO5:IsPair p5 TO x y:=eO5
   refine aa (dy eO5 rfl (aa (iL ?_)))
   have sz:p5.objs.size=s.heap.objs.size:=by rw[q5.1,q4.1,q3.1,q2.1,q1.1]
   have ez5:IsZip p5 z TI TO .ellipsis:=q5.extBut _ _ D.TOz.symm (q4.extBut _ _ D.i2z.symm (q3.extBut _ _ D.TOz.symm (q2.extBut _ _ D.i1z.symm f1)))
   have kp5:∀ c o,c≠z->c≠TO->c≠i1->c≠i2->s.heap.get? c=some o->p5.get? c=some o:=fun c o n1 n2 n3 n4 e=>q5.extBut _ _ n2 (q4.extBut _ _ n4 (q3.extBut _ _ n2 (q2.extBut _ _ n3 (q1.extBut _ _ n1 e))))
   have r15:ItAt t1 p5 i1 l1 (k1+1):=((r2.but q3.extBut D.TOi1.symm).but q4.extBut D.i12).but q5.extBut D.TOi1.symm
   have r25:ItAt t2 p5 i2 l2 (k2+1):=r4.but q5.extBut D.TOi2.symm
   have zlt:z<p5.objs.size:=ay ez5
   show wpAny (model prog w) A (Builtin.SmallTypes.ownedTupleHandOut (.ref z) (.ref p5.objs.size) >>= _) _ _ _
   refine aa ?_
   unfold Builtin.SmallTypes.ownedTupleHandOut
   have f6:IsZip (p5.push { cls:= .type "tuple",data:= .seq #[x,y]}) z TI TO .ellipsis:=ab _ ez5
   refine aa (bB f6 (by simp) fun p7 f7 q7=>?_)
   have f7:IsZip p7 z TI TO (rawInt p5.objs.size):=f7
   refine bB f7 (by simp) fun p8 f8 q8=>?_
   have f8:IsZip p8 z TI TO (rawInt p5.objs.size):=f8
   have up:∀ c o,c≠z->p5.get? c=some o->p8.get? c=some o:=fun c o n1 e=>q8.extBut _ _ n1 (q7.extBut _ _ n1 (ab _ e))
   have eT:IsPair p8 p5.objs.size x y:=q8.extBut _ _ (cV zlt) (q7.extBut _ _ (cV zlt) (az _ rfl))
   have sz8:p8.objs.size=p5.objs.size+1:=by rw[q8.1,q7.1,bK]
   rw[sz] at f8 eT sz8
   refine af ⟨_,rfl,(?_:Q (.ref p5.objs.size) _)⟩
   rw[sz]
   exact k p8 f8 (up _ _ D.TOz eO5) (r15.at fun o e=>up _ o D.i1z e) (r25.at fun o e=>up _ o D.i2z e) eT sz8 fun c o n1 n2 n3 n4 e=>up c o n1 (kp5 c o n1 n2 n3 n4 e)))
theorem jNC {t1 t2:Bool}{z TI TO i1 i2 l1 l2:Addr}{k1 k2:Nat}{xs ys:Array Value}{a b:Value}{Q:Fin->Shared->Prop}(hh:A.handled=none)(D:ZipApart z TI TO i1 i2 l1 l2)
  (ez:IsZip s.heap z TI TO .none) (eI:IsPair s.heap TI (.ref i1) (.ref i2)) (eO:IsPair s.heap TO a b) (g1:ItAt t1 s.heap i1 l1 k1) (g2:ItAt t2 s.heap i2 l2 k2) (o1:ObAt t1 s.heap l1 xs) (o2:ObAt t2 s.heap l2 ys) (hend:xs[k1]?=none\/ys[k2]?=none)
  (k:∀ h' e,(∀ c o,c≠z->c≠TO->c≠i1->c≠i2->s.heap.get? c=some o->h'.get? c=some o)->(∃ o,h'.get? e=some o/\o.cls= .type "StopIteration")->E (.ref e) { s with heap:=h'}):
  wpAny (model prog w) A (Builtin.«zip.__next__» ⟨[.ref z],[]⟩) Q E s:=by
 show wpAny (model prog w) A (field (.ref z) 2 >>= _) _ _ _
 refine aa (bL ez rfl (x:= .bool false) rfl (?_:wpAny (model prog w) A (field (.ref z) 3 >>= _) _ _ _))
 refine aa (bL ez rfl (x:= .ref TI) rfl (aa (dy eI rfl (?_:wpAny (model prog w) A (Builtin.SmallTypes.ownedTupleIsFree (.ref z) >>= _) _ _ _))))
 refine aa (by
  unfold Builtin.SmallTypes.ownedTupleIsFree
  refine aa (bL ez rfl (x:= .none) rfl (af ?_))
  simp only [eQ]
  refine aa (cD (aa (bL ez rfl (x:= .ref TO) rfl (aa (bB ez (by simp) fun p1 f1 q1=>?_)))))
  have f1:IsZip p1 z TI TO .ellipsis:=f1
  refine aa (by
   simp only [g6,List.zipIdx_nil,io,iJ]
   refine aa (aa (gR (?_:wpAny (model prog w) A (Builtin.SmallTypes.nextOf (.ref i1) >>= _) _ _ _)))
   cases hx:xs[k1]? with
   | none=>
    refine aa (next0 hh (g1.but q1.extBut D.i1z) (o1.but q1.extBut D.l1z) hx fun p2 e q2 ⟨u,eu,cu⟩=>?_)
    have f2:IsZip p2 z TI TO .ellipsis:=q2 _ _ D.i1z.symm f1
    have nz:e≠z:=fun v=>by subst v; rw[f2] at eu; cases eu; simp at cu
    exact bB f2 (by simp) fun p3 _ q3=>k p3 e (fun c o n1 _ n3 _ v=>q3.extBut _ _ n1 (q2 _ _ n3 (q1.extBut _ _ n1 v))) ⟨u,q3.extBut _ _ nz eu,cu⟩
   | some x=>
    have hy:ys[k2]?=none:=by
     rcases hend with v | v
     ·rw[hx] at v; cases v
     ·exact v
    refine aa (next1 (g1.but q1.extBut D.i1z) (o1.but q1.extBut D.l1z) hx fun p2 r2 q2=>af ?_)
    have eO2:IsPair p2 TO a b:=q2.extBut _ _ D.TOi1 (q1.extBut _ _ D.TOz eO)
    refine aa (dy eO2 rfl (aa (fK eO2 fun p3 eO3 q3=>aa (iK (af ?_)))))
    refine aa (aa (gR (?_:wpAny (model prog w) A (Builtin.SmallTypes.nextOf (.ref i2) >>= _) _ _ _)))
    refine aa (next0 hh (((g2.but q1.extBut D.i2z).but q2.extBut D.i12.symm).but q3.extBut D.TOi2.symm) (((o2.but q1.extBut D.l2z).but q2.extBut D.l2i1).but q3.extBut D.l2TO) hy fun p4 e q4 ⟨u,eu,cu⟩=>?_)
    have f4:IsZip p4 z TI TO .ellipsis:=q4 _ _ D.i2z.symm (q3.extBut _ _ D.TOz.symm (q2.extBut _ _ D.i1z.symm f1))
    have nz:e≠z:=fun v=>by subst v; rw[f4] at eu; cases eu; simp at cu
    exact bB f4 (by simp) fun p5 _ q5=>k p5 e (fun c o n1 n2 n3 n4 v=>q5.extBut _ _ n1 (q4 _ _ n4 (q3.extBut _ _ n2 (q2.extBut _ _ n3 (q1.extBut _ _ n1 v))))) ⟨u,q5.extBut _ _ nz eu,cu⟩))
theorem jHB {t1 t2:Bool}{z TI TO i1 i2 l1 l2:Addr}{k1 k2:Nat}{xs ys:Array Value}{x y a b:Value}{Q:Option Value->Shared->Prop}(D:ZipApart z TI TO i1 i2 l1 l2)
  (ez:IsZip s.heap z TI TO .none) (eI:IsPair s.heap TI (.ref i1) (.ref i2)) (eO:IsPair s.heap TO a b) (g1:ItAt t1 s.heap i1 l1 k1) (g2:ItAt t2 s.heap i2 l2 k2) (o1:ObAt t1 s.heap l1 xs) (o2:ObAt t2 s.heap l2 ys) (hx:xs[k1]?=some x) (hy:ys[k2]?=some y)
  (k:∀ h',IsZip h' z TI TO (rawInt s.heap.objs.size)->IsPair h' TO x y->ItAt t1 h' i1 l1 (k1+1)->ItAt t2 h' i2 l2 (k2+1)->IsPair h' s.heap.objs.size x y->h'.objs.size=s.heap.objs.size+1->
   (∀ c o,c≠z->c≠TO->c≠i1->c≠i2->s.heap.get? c=some o->h'.get? c=some o)->Q (some (.ref s.heap.objs.size)) { s with heap:=h'}):
  wpAny (model prog w) A (pyNext (.ref z)) Q E s:=by
 have ty:s.TypeIs (.ref z) "zip" :=⟨_,ez,rfl⟩
 unfold pyNext
 exact aa (dG (bD (name:=Str.ofString "__next__") ty F.slot_zip_next (bE F.slot_zip_next ty F.entry_zip_next (jK6 D ez eI eO g1 g2 o1 o2 hx hy fun h' b1 b2 b3 b4 b5 b6 b7=>af (k h' b1 b2 b3 b4 b5 b6 b7)) (F.args_zip_next_1 _))))
theorem jHC {t1 t2:Bool}{z TI TO i1 i2 l1 l2:Addr}{k1 k2:Nat}{xs ys:Array Value}{a b:Value}{Q:Option Value->Shared->Prop}(hh:A.handled=none)(D:ZipApart z TI TO i1 i2 l1 l2)
  (ez:IsZip s.heap z TI TO .none) (eI:IsPair s.heap TI (.ref i1) (.ref i2)) (eO:IsPair s.heap TO a b) (g1:ItAt t1 s.heap i1 l1 k1) (g2:ItAt t2 s.heap i2 l2 k2) (o1:ObAt t1 s.heap l1 xs) (o2:ObAt t2 s.heap l2 ys) (hend:xs[k1]?=none\/ys[k2]?=none)
  (k:∀ h',(∀ c o,c≠z->c≠TO->c≠i1->c≠i2->s.heap.get? c=some o->h'.get? c=some o)->Q none { s with heap:=h'}):wpAny (model prog w) A (pyNext (.ref z)) Q E s:=by
 have ty:s.TypeIs (.ref z) "zip" :=⟨_,ez,rfl⟩
 unfold pyNext
 refine aa (dG (bD (name:=Str.ofString "__next__") ty F.slot_zip_next (bE F.slot_zip_next ty F.entry_zip_next (jNC hh D ez eI eO g1 g2 o1 o2 hend fun h' e kp ⟨u,eu,cu⟩=>?_) (F.args_zip_next_1 _))))
 exact aa (fr (T:= "StopIteration") (b:=true) ⟨u,eu,cu⟩ iI (af (k _ kp)))
end
def qE (tp:Bool)(a:Addr):Obj:=match tp with
 | false=> { cls:= .type "list_iterator",data:= .fields #[.ref a, .int 0 0]}
 | true=> { cls:= .type "tuple_iterator",data:= .fields #[.ref a, .int 0 0]}
theorem jCK (tp:Bool)(a:Addr):(qE tp a).isFreed=false:=by cases tp <;> rfl
theorem ObAt.push {tp:Bool}{h:Heap}{a:Addr}{xs:Array Value}(x:ObAt tp h a xs)(o:Obj):ObAt tp (h.push o) a xs:=by
 cases tp with
 | false=>exact Heap.IsList.push x o
 | true=>exact Heap.IsTuple.push x o
theorem jCI {prog:Program}{w:World}{A:Around}{E:Value->Shared->Prop}{s:Shared}{tp:Bool}{a:Addr}{xs:Array Value}{Q:Value->Shared->Prop}(h:ObAt tp s.heap a xs)(q:Q (.ref s.heap.objs.size) { s with heap:=s.heap.push (qE tp a)}):
  wpAny (model prog w) A (pyIter (.ref a)) Q E s:=by
 cases tp with
 | false=>exact dS h q
 | true=>exact wpAny_pyIter_tuple h q
def zp1 (t1:Bool)(h:Heap)(l1:Addr):Heap:=h.push (qE t1 l1)
def zp2 (t1 t2:Bool)(h:Heap)(l1 l2:Addr):Heap:=(zp1 t1 h l1).push (qE t2 l2)
def zp3 (t1 t2:Bool)(h:Heap)(l1 l2:Addr):Heap:=(zp2 t1 t2 h l1 l2).push { cls:= .type "tuple",data:= .seq #[.ref h.objs.size, .ref (zp1 t1 h l1).objs.size]}
def zp4 (t1 t2:Bool)(h:Heap)(l1 l2:Addr):Heap:=(zp3 t1 t2 h l1 l2).push { cls:= .type "tuple",data:= .seq #[.none, .none]}
def zp5 (t1 t2:Bool)(h:Heap)(l1 l2:Addr):Heap:=(zp4 t1 t2 h l1 l2).push { cls:= .type "zip",data:= .fields #[.none, .bool false, .bool false, .ref (zp2 t1 t2 h l1 l2).objs.size, .ref (zp3 t1 t2 h l1 l2).objs.size]}
theorem jJO (t1 t2:Bool)(l1 l2:Addr)(xs ys:Array Value):
  Meets (Builtin.«zip.__new__» ⟨[.type "zip", .ref l1, .ref l2],[]⟩) (fun _ R s=>ObAt t1 s.heap l1 xs/\ObAt t2 s.heap l2 ys/\R (.ok (.ret (.ref (zp4 t1 t2 s.heap l1 l2).objs.size))) { s with heap:=zp5 t1 t2 s.heap l1 l2}):=
 .of_wp fun prog w A R s h=>by
  obtain⟨hp,g,d,tk,os⟩:=s
  obtain⟨a1,a2,q⟩:=h
  have sub:=sub_zip
  have e1:ObAt t1 (Shared.heap ⟨hp,g,d,tk,os⟩) l1 xs:=a1
  have e2:ObAt t2 (Shared.heap ⟨hp.push (qE t1 l1),g,d,tk,os⟩) l2 ys:=ObAt.push a2 _
  wp_walk using jCI e1,jCI e2
  exact⟨_,rfl,q⟩
theorem ItAt.new (tp:Bool){h:Heap}{it a:Addr}(e:h.get? it=some (qE tp a)):ItAt tp h it a 0:=by
 cases tp with
 | false=>exact⟨_,e,rfl,rfl⟩
 | true=>exact⟨_,e,rfl,rfl⟩
theorem jMX {prog:Program}{w:World}{A:Around}{E:Value->Shared->Prop}{s:Shared}{t1 t2:Bool}{l1 l2:Addr}{xs ys:Array Value}{Q:Value->Shared->Prop}(a1:ObAt t1 s.heap l1 xs)(a2:ObAt t2 s.heap l2 ys)
  (k:∀ h',IsZip h' (s.heap.objs.size+4) (s.heap.objs.size+2) (s.heap.objs.size+3) .none->IsPair h' (s.heap.objs.size+2) (.ref s.heap.objs.size) (.ref (s.heap.objs.size+1))->
   IsPair h' (s.heap.objs.size+3) .none .none->ItAt t1 h' s.heap.objs.size l1 0->ItAt t2 h' (s.heap.objs.size+1) l2 0->(∀ c o,s.heap.get? c=some o->h'.get? c=some o)->Q (.ref (s.heap.objs.size+4)) { s with heap:=h'}):
  wpAny (model prog w) A (call (.type "zip") [.ref l1, .ref l2]) Q E s:=by
 refine callType_new F.called_zip (by decide) (F.typeCall_zip_2 _ _) (F.newCall_zip_2 _ _) (fun obj=>F.args_object_init_3 obj _ _) F.entry_zip_new (jJO t1 t2 l1 l2 xs ys) ⟨a1,a2,?_⟩
 have z1:(zp1 t1 s.heap l1).objs.size=s.heap.objs.size+1:=bK ..
 have z2:(zp2 t1 t2 s.heap l1 l2).objs.size=s.heap.objs.size+2:=(bK ..).trans (bN (· +1) z1)
 have z3:(zp3 t1 t2 s.heap l1 l2).objs.size=s.heap.objs.size+3:=(bK ..).trans (bN (· +1) z2)
 have z4:(zp4 t1 t2 s.heap l1 l2).objs.size=s.heap.objs.size+4:=(bK ..).trans (bN (· +1) z3)
 have y5:(zp5 t1 t2 s.heap l1 l2).get? (zp4 t1 t2 s.heap l1 l2).objs.size=some { cls:= .type "zip",data:= .fields #[.none, .bool false, .bool false, .ref (zp2 t1 t2 s.heap l1 l2).objs.size, .ref (zp3 t1 t2 s.heap l1 l2).objs.size]} :=az _ rfl
 have y4:(zp5 t1 t2 s.heap l1 l2).get? (zp3 t1 t2 s.heap l1 l2).objs.size=some { cls:= .type "tuple",data:= .seq #[.none, .none]} :=ab _ (az _ rfl)
 have y3:(zp5 t1 t2 s.heap l1 l2).get? (zp2 t1 t2 s.heap l1 l2).objs.size=some { cls:= .type "tuple",data:= .seq #[.ref s.heap.objs.size, .ref (zp1 t1 s.heap l1).objs.size]} :=ab _ (ab _ (az _ rfl))
 have y2:(zp5 t1 t2 s.heap l1 l2).get? (zp1 t1 s.heap l1).objs.size=some (qE t2 l2):=ab _ (ab _ (ab _ (az _ (jCK _ _))))
 have y1:(zp5 t1 t2 s.heap l1 l2).get? s.heap.objs.size=some (qE t1 l1):=ab _ (ab _ (ab _ (ab _ (az _ (jCK _ _)))))
 have up:∀ c o,s.heap.get? c=some o->(zp5 t1 t2 s.heap l1 l2).get? c=some o:=fun c o e=>ab _ (ab _ (ab _ (ab _ (ab _ e))))
 rw[z2,z3,z4] at y5
 rw[z1,z2] at y3
 rw[z3] at y4
 rw[z1] at y2
 show _/\_
 rw[z4]
 exact⟨⟨_,y5,rfl⟩,k _ y5 y3 y4 (.new t1 y1) (.new t2 y2) up⟩
section
variable {X:Cx}
def Sq (tp:Bool)(K:W.Frag)(H:Hp)(a:Addr)(xs:List V):Prop:=match tp with
 | false=>SqL K H a xs
 | true=>SqT K H a xs
theorem Inv.sq {X:Cx}{pins:List (Addr×Obj)}{σ:St}{H:Hp}{s:Shared}{tp:Bool}{a:Addr}{xs:List V}(I:Inv X pins σ H s)(h:Sq tp X.K H a xs):∃ its:List Value,Vals xs its/\ObAt tp s.heap a its.toArray/\xs.length<=sizeLine:=by
 cases tp with
 | false=>
  obtain⟨its,r,p,z⟩:=I.list h
  exact⟨its,r,p.isList,z⟩
 | true=>exact I.tuple h
theorem Inv.sq_inj {X:Cx}{pins:List (Addr×Obj)}{σ:St}{H:Hp}{s:Shared}{tp:Bool}{a:Addr}{xs ys:List V}(I:Inv X pins σ H s)(h:Sq tp X.K H a xs)(h':Sq tp X.K H a ys):xs=ys:=by
 cases tp with
 | false=>exact I.list_inj h h'
 | true=>exact I.tuple_inj h h'
def Itz (t1 t2:Bool)(K:W.Frag)(l1 l2:Addr):It:=
 ⟨fun i H=>∃ xs ys x y,Sq t1 K H l1 xs/\Sq t2 K H l2 ys/\xs[i]?=some x/\ys[i]?=some y,
  fun i H v H'=>∃ T x y,H T=none/\v= .ref T/\H'=upd H T (.tup [x,y])/\∀ xs ys,Sq t1 K H l1 xs->Sq t2 K H l2 ys->xs[i]?=some x/\ys[i]?=some y,
  fun i H=>∃ xs ys,Sq t1 K H l1 xs/\Sq t2 K H l2 ys/\(xs.length<=i\/ys.length<=i)⟩
theorem jNF {P:Program}{w:World}{K:W.Frag}{elts:List Expr}{x1:Nat}{tp:Pos}(t1 t2:Bool)(l1 l2 z TI TO i1 i2:Addr)(D:ZipApart z TI TO i1 i2 l1 l2):
  Turn P w K (.Tuple elts x1 tp) (Itz t1 t2 K l1 l2) [z,TO,i1,i2,TI] z (fun i h=>IsZip h z TI TO .none/\IsPair h TI (.ref i1) (.ref i2)/\(∃ a b,IsPair h TO a b)/\ItAt t1 h i1 l1 i/\ItAt t2 h i2 l2 i) where
 mem:=by simp
 obj:=fun i h st b hb=>by
  obtain⟨hz,hTI,⟨a,c,hTO⟩,y1,y2⟩:=st
  simp only [aB,bA,dw] at hb
  rcases hb with rfl | rfl | rfl | rfl | rfl
  ·exact⟨_,hz,fun v q=>by cases q⟩
  ·exact⟨_,hTO,fun v q=>by cases q⟩
  ·exact y1.obj
  ·exact y2.obj
  ·exact⟨_,hTI,fun v q=>by cases q⟩
 keep:=fun i h h' st k=>by
  obtain⟨hz,hTI,⟨a,c,hTO⟩,h1,h2⟩:=st
  exact⟨k z (by simp) _ hz,k TI (by simp) _ hTI,⟨a,c,k TO (by simp) _ hTO⟩,h1.at fun o e=>k i1 (by simp) o e,h2.at fun o e=>k i2 (by simp) o e⟩
 item:=by
  intro X hP hw hK hc i pins s σ H E I hf st hg
  subst hP hw hK
  obtain⟨xs,ys,x,y,hq1,hq2,hx,hy⟩:=hg
  obtain⟨hz,hTI,⟨a,c,hTO⟩,h1,h2⟩:=st
  obtain⟨its1,r1,p1,_⟩:=I.sq hq1
  obtain⟨its2,r2,p2,_⟩:=I.sq hq2
  obtain⟨u,hu,ru⟩:=r1.get hx
  obtain⟨v,hv,rv⟩:=r2.get hy
  refine jHB D hz hTI hTO h1 h2 p1 p2 (x:=u) (y:=v) (by simpa using hu) (by simpa using hv) fun h' a1 a2 a3 a4 a5 a6 a7=>?_
  refine⟨_,rfl,wpAny_letOwnedTupleGo_zip (s:= { s with heap:=h'}) a1 fun h'' b1 sb=>?_⟩
  have fresh:H s.heap.objs.size=none:=I.fresh
  have nch:∀ b∈([z,TO,i1,i2]:List Addr),FpOk X pins H b:=fun b hb=>hf b (by
   simp only [aB,bA,dw] at hb ⊢
   rcases hb with q | q | q | q
   ·exact .inl q
   ·exact .inr (.inl q)
   ·exact .inr (.inr (.inl q))
   ·exact .inr (.inr (.inr (.inl q))))
  have ntr:∀ b o,H b=some o->b∉([z,TO,i1,i2]:List Addr):=fun b o e hb=>by
   have:=(nch b hb).1
   rw[e] at this; cases this
  have kp:∀ b o,b∉([z,TO,i1,i2]:List Addr)->s.heap.get? b=some o->h''.get? b=some o:=fun b o hb e=>by
   simp only [aB,bA,dw,jf] at hb
   exact(sb.2 b hb.1).trans (a7 b o hb.1 hb.2.1 hb.2.2.1 hb.2.2.2 e)
  have nz:s.heap.objs.size≠z:=cV (ay hz)
  have hT2:h''.get? s.heap.objs.size=some { cls:= .type "tuple",data:= .seq #[u,v]} :=(sb.2 _ nz).trans a5
  have I2:Inv X pins σ (upd H s.heap.objs.size (.tup [x,y])) { s with heap:=h''} :=by
   refine I.step (g':=s.gens) (d':=s.drawn) (t':=s.toks) (ch:=[z,TO,i1,i2]) (fun b hb=>?_) (fun b o _ _ hb e _=>kp b o hb e) (fun b o _ _ hb e _=>⟨o.slots,kp b o hb e⟩)
    (fun b o _ e n=>by rw[j9 (aS (ay e))]; exact n) (fun b o hb e=>⟨o,kp b o hb e⟩) (fun b ws e=>by rw[j9 (jA e fresh)]; exact e) (fun b o ws e=>by rw[j9 (jA e fresh)]; exact e)
    (fun b ps e=>⟨#[],by rw[j9 (jA e fresh),e]; simp⟩) (fun m hm=>?_) (fun b o e=>?_) I.bare
   ·obtain⟨f0,f1,f2,f3,f4,f5⟩:=nch b hb
    exact⟨f3,f1,f4,f5⟩
   ·obtain⟨o,es,ep,ho,r⟩:=hm
    exact⟨o,es,ep,kp _ o (fun hb=>(nch _ hb).2.1 rfl) ho,r⟩
   ·by_cases hb:b=s.heap.objs.size
    ·subst hb
     rw[j6] at e
     cases e
     exact⟨by rw[dE]; show 2<=_; decide,[u,v], .cons ru (.cons rv .nil),0,hT2⟩
    ·rw[j9 hb] at e
     refine(I.hok b o e).stay (fun c w hc q=>kp c w ?_ q) (fun c q=>by rw[j9 (jA q fresh)]; exact q) (fun c ws q=>by rw[j9 (jA q fresh)]; exact q)
     rcases hc with rfl | hc
     ·exact ntr _ _ e
     ·exact ntr _ _ hc
  refine⟨.ref s.heap.objs.size,_,I2,rfl,⟨_,x,y,fresh,rfl,rfl,fun xs' ys' q1 q2=>⟨by rw[I.sq_inj q1 hq1]; exact hx,by rw[I.sq_inj q2 hq2]; exact hy⟩⟩,⟨b1,?_,⟨u,v,?_⟩,?_,?_⟩,fun b hb=>?_⟩
  ·exact kp TI _ (by simp [D.TIz,D.TITO,D.TIi1,D.TIi2]) hTI
  ·exact(sb.2 TO D.TOz).trans a2
  ·exact a3.at fun o e=>(sb.2 i1 D.i1z).trans e
  ·exact a4.at fun o e=>(sb.2 i2 D.i2z).trans e
  ·rw[j9 (fun q=>by
    obtain⟨o,eo⟩:∃ o,s.heap.get? b=some o:=by
     simp only [aB,bA,dw] at hb
     rcases hb with rfl | rfl | rfl | rfl | rfl
     ·exact⟨_,hz⟩
     ·exact⟨_,hTO⟩
     ·obtain⟨o,e,_⟩:=h1.obj; exact⟨o,e⟩
     ·obtain⟨o,e,_⟩:=h2.obj; exact⟨o,e⟩
     ·exact⟨_,hTI⟩
    exact absurd (ay eo) (by rw[q]; exact cw _))]
   exact(hf b hb).1
 done:=by
  intro X hP hw hK hc i pins s σ H E I hf st hg
  subst hP hw hK
  obtain⟨xs,ys,hq1,hq2,hend⟩:=hg
  obtain⟨hz,hTI,⟨a,c,hTO⟩,h1,h2⟩:=st
  obtain⟨its1,r1,p1,_⟩:=I.sq hq1
  obtain⟨its2,r2,p2,_⟩:=I.sq hq2
  have e1:=r1.length
  have e2:=r2.length
  refine jHC (I.ok.hd hc) D hz hTI hTO h1 h2 p1 p2 (by
   rcases hend with q | q
   ·exact .inl (by simp; omega)
   ·exact .inr (by simp; omega)) fun h' kp=>⟨rfl,?_⟩
  have nch:∀ b∈([z,TO,i1,i2]:List Addr),FpOk X pins H b:=fun b hb=>hf b (by
   simp only [aB,bA,dw] at hb ⊢
   rcases hb with q | q | q | q
   ·exact .inl q
   ·exact .inr (.inl q)
   ·exact .inr (.inr (.inl q))
   ·exact .inr (.inr (.inr (.inl q))))
  have kp2:∀ b o,b∉([z,TO,i1,i2]:List Addr)->s.heap.get? b=some o->h'.get? b=some o:=fun b o hb e=>by
   simp only [aB,bA,dw,jf] at hb
   exact kp b o hb.1 hb.2.1 hb.2.2.1 hb.2.2.2 e
  have ntr:∀ b o,H b=some o->b∉([z,TO,i1,i2]:List Addr):=fun b o e hb=>by
   have:=(nch b hb).1
   rw[e] at this; cases this
  refine I.step (g':=s.gens) (d':=s.drawn) (t':=s.toks) (ch:=[z,TO,i1,i2]) (fun b hb=>?_) (fun b o _ _ hb e _=>kp2 b o hb e) (fun b o _ _ hb e _=>⟨o.slots,kp2 b o hb e⟩)
   (fun b o _ e n=>n) (fun b o hb e=>⟨o,kp2 b o hb e⟩) (fun b ws e=>e) (fun b o ws e=>e) (fun b ps e=>⟨#[],by rw[e]; simp⟩) (fun m hm=>?_) (fun b o e=>?_) I.bare
  ·obtain⟨f0,f1,f2,f3,f4,f5⟩:=nch b hb
   exact⟨f3,f1,f4,f5⟩
  ·obtain⟨o,es,ep,ho,r⟩:=hm
   exact⟨o,es,ep,kp2 _ o (fun hb=>(nch _ hb).2.1 rfl) ho,r⟩
  ·refine(I.hok b o e).stay (fun c w hc q=>kp2 c w ?_ q) (fun _ q=>q) fun _ _ q=>q
   rcases hc with rfl | hc
   ·exact ntr _ _ e
   ·exact ntr _ _ hc
 self:=fun _ _ _ _ _ st h=>wpAny_pyIter_zip st.1 h
def iZip (K:W.Frag)(ta:TA):TI:=fun σ H R=>ta σ H fun vs H1=>∃ t1 t2 l1 l2,vs=[.ref l1, .ref l2]/\(∃ xs,Sq t1 K H1 l1 xs)/\(∃ ys,Sq t2 K H1 l2 ys)/\R (Itz t1 t2 K l1 l2) H1
theorem jT6 {a b:Expr}{ta:TA}{p pos:Pos}{elts:List Expr}{x1:Nat}{tp:Pos}(hg:Gl X "zip")(hm:X.mg "zip" =none)(ha:PA X [a,b] ta)(hv:bootBuiltins "zip" =some (.type "zip"):=by decide+kernel)
  (he:starEach [a,b] X.env=(false,eval a X.env)::starEach [b] X.env:=by rfl) (hpl:(backTo pos (starEach [b] X.env)).any (·.1)=false:=by rfl):
  PI X (.Tuple elts x1 tp) (.Call (.Name "zip" p) [a,b] [] pos) (iZip X.K ta):=by
 intro pins s σ H R I h
 refine Call_ (jCZ I hg hm hv (cH (thn (ha pos pins s σ H _ I h) fun us s1 ⟨vs,H1,I1,r1,q1⟩=>?_) he hpl))
 obtain⟨t1,t2,l1,l2,rfl,⟨xs,hq1⟩,⟨ys,hq2⟩,q⟩:=q1
 obtain⟨u,v,rfl,ru,rv⟩:=r1.two
 cases ru
 cases rv
 obtain⟨its1,_,p1,_⟩:=I1.sq hq1
 obtain⟨its2,_,p2,_⟩:=I1.sq hq2
 have lt1:l1<s1.heap.objs.size:=p1.lt
 have lt2:l2<s1.heap.objs.size:=p2.lt
 refine jMX p1 p2 fun h' a1 a2 a3 a4 a5 kp=>?_
 have I2:Inv X pins σ H1 { s1 with heap:=h'} :=I1.kept (t':=s1.toks) kp
 have D:ZipApart (s1.heap.objs.size+4) (s1.heap.objs.size+2) (s1.heap.objs.size+3) s1.heap.objs.size (s1.heap.objs.size+1) l1 l2:=zipApart_new lt1 lt2
 refine wpAny_pyIter_zip a1 ⟨s1.heap.objs.size+4,[s1.heap.objs.size+4,s1.heap.objs.size+3,s1.heap.objs.size,s1.heap.objs.size+1,s1.heap.objs.size+2],_,Itz t1 t2 X.K l1 l2,H1,rfl,I2,jNF t1 t2 l1 l2 _ _ _ _ _ D,⟨a1,a2,⟨_,_,a3⟩,a4,a5⟩,fun b hb=>?_,q⟩
 have hge:s1.heap.objs.size<=b:=by
  simp only [aB,bA,dw] at hb
  rcases hb with rfl | rfl | rfl | rfl | rfl
  ·exact dL _ 4
  ·exact dL _ 3
  ·exact ak _
  ·exact dL _ 1
  ·exact dL _ 2
 exact I1.fpOk hge (I1.hok.fresh hge)
end
structure JE (X:Cx)(e:Expr)(t:TE):Prop where
 h:PE X e t
structure JA (X:Cx)(es:List Expr)(t:TA):Prop where
 h:PA X es t
structure JT (X:Cx)(e:Expr)(t:TT):Prop where
 h:PT X e t
structure JTs (X:Cx)(e:List Expr)(t:TT):Prop where
 h:PTs X e t
structure JS (X:Cx)(e:Stmt)(t:TS):Prop where
 h:PS X e t
structure JSs (X:Cx)(e:List Stmt)(t:TS):Prop where
 h:PSs X e t
structure JG (X:Cx)(e:Expr)(t:TG):Prop where
 h:PG X e t
structure JGs (X:Cx)(e:List Expr)(t:TGs):Prop where
 h:PGs X e t
structure JI (X:Cx)(tg e:Expr)(t:TI):Prop where
 h:PI X tg e t
structure JO (X:Cx)(e:Option Expr)(t:TO):Prop where
 h:PO X e t
structure Loc1 (X:Cx)(x:Str):Prop where
 a:Loc X.env.scope x
 b:X.fn x=true\/X.env.scope.names.lookup x=some .local
structure Vis1 (X:Cx)(x:Str):Prop where
 a:Vis X.env.scope x
structure Gl1 (X:Cx)(x:Str):Prop where
 a:Gl X x
section
variable {a b:Expr}{pos:Pos}{xs:List Expr}{o:Option Expr}{l:Nat}{env:Env}
structure SwOk (e:Expr)(o:Option Expr):Prop where
 h:∀ l env,swapsWith e o l env=pure false
theorem jI5 {op:Operator} :SwOk (.BinOp a op b pos) o:=⟨fun _ _=>rfl⟩
theorem jQ {kw:List Keyword} :SwOk (.Call a xs kw pos) o:=⟨fun _ _=>rfl⟩
theorem jKJ:SwOk (.Subscript a b pos) o:=⟨fun _ _=>rfl⟩
theorem jSQ {x1} :SwOk (.Tuple xs x1 pos) o:=⟨fun _ _=>rfl⟩
theorem jFR:SwOk (.List xs pos) o:=⟨fun _ _=>rfl⟩
theorem jD3 {c k} :SwOk (.Constant c k pos) o:=⟨fun _ _=>rfl⟩
theorem jG2 {op:Operator} :jAW (.BinOp a op b pos):=fun _ _=>rfl
theorem jQD {kw:List Keyword} :jAW (.Call a xs kw pos):=fun _ _=>rfl
theorem jI {i:Int}{k} :jAW (.Constant (.int i) k pos):=fun _ _=>rfl
theorem yG {x:Str} :jAW (.Name x pos):=fun _ _=>rfl
theorem jSX:jAW (.Subscript a b pos):=fun _ _=>rfl
structure FoOk (iter:Expr):Prop where
 h:∀ env x,foldedSetIterable iter env x=pure x
theorem kN {kw:List Keyword} :FoOk (.Call a xs kw pos):=⟨fun _ _=>rfl⟩
theorem jAV {x:Str} :FoOk (.Name x pos):=⟨fun _ _=>rfl⟩
theorem jPO:FoOk (.Subscript a b pos):=⟨fun _ _=>rfl⟩
structure TvOk (e:Expr):Prop where
 h:∀ env whole,isTrue e env whole=(do let v <- whole; standAt e.pos; holding [v] (truthy v))
theorem kY {kw:List Keyword} :TvOk (.Call a xs kw pos):=⟨fun _ _=>rfl⟩
end
section
variable {X:Cx}{a b e o:Expr}{ta tb te to:TE}{es:List Expr}{t:TA}{pos p p2 cpos apos:Pos}{x:Str}{T:String}{id:String}
theorem jv (i:Nat)(hN:X.N[i]?=some x)(hv:Vis1 X x)(hd:(x==("__debug__" :Str))=false:=by decide)(hcd:(x==("__classdict__" :Str))=false:=by decide):JE X (.Name x pos) (tVar i):=⟨jKZ hN hv.a hd hcd⟩
theorem je_int {i j} :JE X (.Constant (.int i) j pos) (tC (.int i)):=⟨jL⟩
theorem je_bl {i j} :JE X (.Constant (.bool i) j pos) (tC (.bl i)):=⟨pe_bl⟩
theorem jIW {j} :JE X (.Constant .none j pos) (tC .non):=⟨jTC⟩
theorem y6 {v:V}{u:Value}(hg:Gl1 X x)(hm:X.mg x=none)(hv:bootBuiltins x=some u)(r:RelV v u)(hn:x≠ "__name__" :=by decide)(hd:(x==("__debug__" :Str))=false:=by decide):JE X (.Name x pos) (tC v):=⟨jQZ hg.a hm hv r hn hd⟩
theorem kJ {op:Operator}{r:R2}(ho:OpR X (binaryOp op) r)(ha:JE X a ta)(hb:JE X b tb):JE X (.BinOp a op b pos) (tOp r ta tb):=⟨kI ho ha.h hb.h⟩
theorem je_un {op:UnaryOp}{r:V->Hp->VK->Prop}(ho:UnR X (unaryOp op) r)(ha:JE X a ta):JE X (.UnaryOp op a pos) (tUn r ta):=⟨pe_un ho ha.h⟩
theorem jPJ (ha:JE X a ta):JE X (.UnaryOp .Not a pos) (tNotV ta):=⟨jTB ha.h⟩
theorem kP {op:CmpOp}{r:R2}(ho:OpR X (compareOp op) r)(ha:JE X a ta)(hb:JE X b tb)(hm:behindInMarks op b=false):JE X (.Compare a [op] [b] pos) (tOp r ta tb):=⟨jQW ho ha.h hb.h hm⟩
theorem qD {rest:List Expr}(ha:JE X a ta)(hb:JE X (.BoolOp .And (b::rest) pos) tb):JE X (.BoolOp .And (a::b::rest) pos) (tAndV ta tb):=⟨jTF ha.h hb.h⟩
theorem je_or {rest:List Expr}(ha:JE X a ta)(hb:JE X (.BoolOp .Or (b::rest) pos) tb):JE X (.BoolOp .Or (a::b::rest) pos) (tOrV ta tb):=⟨pe_or ha.h hb.h⟩
theorem yW {op}(ha:JE X a ta):JE X (.BoolOp op [a] pos) ta:=⟨jTA ha.h⟩
theorem jLX (h:JA X es t):JE X (.List es pos) (tLst t):=⟨jIH h.h⟩
theorem jIV {x1}(h:JA X es t):JE X (.Tuple es x1 pos) (tTup t):=⟨jT9 h.h⟩
theorem jFA {lo hi:Option Expr}{tl th:TO}{r:V->Option Int->Option Int->Hp->VK->Prop}(hr:SlR X r)(he:JE X e te)(hl:JO X lo tl)(hu:JO X hi th):JE X (.Subscript e (.Slice lo hi none p2) pos) (tSl r te tl th):=⟨jNP hr he.h hl.h hu.h⟩
theorem kB {r:R2}(hr:IxR X r)(ha:JE X a ta)(hb:JE X b tb)(hs:jAW b):JE X (.Subscript a b pos) (tOp r ta tb):=⟨pe_ix hr ha.h hb.h hs⟩
theorem kU {T}{r:List V->Hp->VK->Prop}(hc:yO X (.type T) r)(hg:Gl1 X x)(hm:X.mg x=none)(hv:bootBuiltins x=some (.type T))(ha:JA X (e::es) t)(he:starEach (e::es) X.env=(false,eval e X.env)::starEach es X.env)(hn:x≠ "__name__" :=by decide)(hdb:(x==("__debug__" :Str))=false:=by decide)
  (hpl:(backTo pos (starEach es X.env)).any (·.1)=false:=by rfl):JE X (.Call (.Name x p) (e::es) [] pos) (tCB r t):=⟨jBW hc hg.a hm hv ha.h hn hdb he hpl⟩
theorem jE {id}{r:List V->Hp->VK->Prop}(hc:yO X (.builtin id) r)(hg:Gl1 X x)(hm:X.mg x=none)(hv:bootBuiltins x=some (.builtin id))(ha:JA X (e::es) t)(he:starEach (e::es) X.env=(false,eval e X.env)::starEach es X.env)(hn:x≠ "__name__" :=by decide)(hdb:(x==("__debug__" :Str))=false:=by decide)
  (hpl:(backTo pos (starEach es X.env)).any (·.1)=false:=by rfl):JE X (.Call (.Name x p) (e::es) [] pos) (tCB r t):=⟨jF2 hc hg.a hm hv ha.h hn hdb he hpl⟩
theorem j7:JA X [] tNil:=⟨yB⟩
theorem j4 (ha:JE X e te)(hr:JA X es t)(hs:starEach (e::es) X.env=(false,eval e X.env)::starEach es X.env):JA X (e::es) (tCons te t):=⟨jZ ha.h hr.h hs⟩
theorem jM {op:CmpOp}{r:R2}(ho:OpR X (compareOp op) r)(ha:JE X a ta)(hb:JE X b tb)(hm:behindInMarks op b=false):JT X (.Compare a [op] [b] pos) (tTest (tOp r ta tb)):=⟨jDP ho ha.h hb.h hm⟩
theorem yN (h:JE X e te)(he:TvOk e):JT X e (tB te):=⟨jT0 h.h (he.h _)⟩
theorem yX {tA:TT}(ha:JT X a tA):JT X (.UnaryOp .Not a pos) (tNot tA):=⟨jT1 ha.h⟩
theorem yJ:JTs X [] yY:=⟨jKU⟩
theorem jDZ {t:TT}(h:JT X e t):JTs X [e] t:=⟨jKT h.h⟩
theorem jW {i:Nat}(hN:X.N.Nodup)(hi:X.N[i]?=some x)(hx:Loc1 X x):JG X (.Name x pos) (yA i):=⟨jF1 hN hi hx.a hx.b⟩
theorem jA5 {tg:Expr}(hg:Gl1 X "range")(hm:X.mg "range" =none)(ha:JA X [a] t)(hs:starEach [a] X.env=(false,eval a X.env)::starEach [] X.env):JI X tg (.Call (.Name "range" p) [a] [] pos) (iRng1 t):=⟨jBV hg.a hm ha.h hs⟩
theorem jAU {tg:Expr}(hl:JE X a ta):JI X tg a (iList X.K ta):=⟨jQP hl.h⟩
theorem jD0 {tg:Expr}(hl:JE X a ta):JI X tg a (iTup X.K ta):=⟨jT7 hl.h⟩
theorem jPH {elts:List Expr}{x1:Nat}{tp:Pos}(hg:Gl1 X "zip")(hm:X.mg "zip" =none)(ha:JA X [a,b] t)(he:starEach [a,b] X.env=(false,eval a X.env)::starEach [b] X.env)(hv:bootBuiltins "zip" =some (.type "zip"):=by decide+kernel)
  (hpl:(backTo pos (starEach [b] X.env)).any (·.1)=false:=by rfl):JI X (.Tuple elts x1 tp) (.Call (.Name "zip" p) [a,b] [] pos) (iZip X.K t):=⟨jT6 hg.a hm ha.h hv he hpl⟩
theorem jHM:JO X none jKH:=⟨jQM⟩
theorem jHL (h:JE X e te):JO X (some e) (tPart te):=⟨jQL h.h⟩
theorem jK {i:Nat}{pos':Pos}(hN:X.N.Nodup)(hi:X.N[i]?=some x)(hx:Loc1 X x)(he:JE X e te)(hs:SwOk e (some (.Name x pos'))):JS X (.Assign [.Name x pos'] e pos) (tAsg te (yA i)):=⟨qC hN hi hx.a he.h (hs.h _ _) hx.b⟩
theorem jH (he:JE X e te):JS X (.Return (some e) pos) (tRet te):=⟨jCV he.h⟩
theorem jE0 (he:JE X e te)(hs:SwOk e none):JS X (.Expr e pos) (tDrop te):=⟨jQI he.h (hs.h _ _)⟩
theorem jR:JSs X [] tNext:=⟨jF0⟩
theorem jD {st:Stmt}{t:TS}(h1:JS X st t):JSs X [st] t:=⟨jAR h1.h⟩
theorem jB {st:Stmt}{rest:List Stmt}{t u:TS}(h1:JS X st t)(h2:JSs X rest u):JSs X (st::rest) (tSeq t u):=⟨kO h1.h h2.h⟩
theorem kT {c:Expr}{a b:List Stmt}{tc:TT}{t u:TS}(hc:JT X c tc)(ha:JSs X a t)(hb:JSs X b u):JS X (.If c a b pos) (tIfS tc t u):=⟨ps_if hc.h ha.h hb.h⟩
theorem yV {tg iter:Expr}{body:List Stmt}{wi:TI}{g:TG}{tb:TS}(hp:PassesOwn (model X.prog X.w) X.A X.env X.xe)(hc:X.calm=true)(hi:JI X tg iter wi)(hg:JG X tg g)(hb:JSs X body tb)(hs:FoOk iter):JS X (.For tg iter body [] pos) (tFor wi g tb):=⟨jP6 hp hc hi.h hg.h hb.h (hs.h _)⟩
theorem je_bm {T:String}{name:Str}{r}(pa:PlainAttrs T)(slot:Slot T name id)(hty:typeOf (.builtin id)=pure (.type "method_descriptor"))(hm:MtR X id r)(ho:JE X o to)(ha:JA X (e::es) t)
  (hs:starEach (e::es) X.env=(false,eval e X.env)::starEach es X.env)
  (hbase:attributeBase o name X.env (eval o X.env)=eval o X.env:=by rfl)
  (hfew:((backTo cpos (starEach (e::es) X.env)).all (fun x=>!x.1)&&(backToKw cpos (keywordEach [] X.env)).all (fun x=>x.1.isSome)
   &&decide ((e::es).length+([]:List Keyword).length+(if ([]:List Keyword).isEmpty then 0 else 1)<30))=true:=by rfl)
  (hline:(apos.endLine==cpos.line)=true:=by rfl) (hplain:(backTo cpos (starEach es X.env)).any (·.1)=false:=by rfl):
  JE X (.Call (.Attribute o name apos) (e::es) [] cpos) (tBM X.K T r to t):=⟨pe_bm pa slot hty hm ho.h ha.h hbase hfew hline hs hplain⟩
theorem kZ {tg iter elt:Expr}{ifs:List Expr}{sc:Scope}{wi:TI}{g:TG}{tt:TT}{m:List (Option Nat)}{Nc:List Str}(hc:X.calm=true)(hi:JI X tg iter wi)(hkind:sc.kind= .function)(hcell:∀ y∈sc.names,y.2≠ .cell)(hnames:∀ y∈sc.names,y.2= .local->sc.names.lookup y.1=some .local)
  (hfree:∀ y∈sc.names,y.2= .free->X.env.scope.names.lookup y.1=some .cell\/X.env.scope.names.lookup y.1=some .free) (hm:qH X sc Nc m)
  (hg:∀ cl C fp s H,JG (blk X sc cl C Nc fp s H) tg g) (ht:∀ cl C fp s H,JTs (blk X sc cl C Nc fp s H) ifs tt) (he:∀ cl C fp s H,JE (blk X sc cl C Nc fp s H) elt te)
  (hs:FoOk iter):JE X (.ListComp elt [⟨tg,iter,ifs,0⟩] sc pos) (tComp m wi g tt te):=⟨jHD hc hi.h hkind hcell hnames hfree hm (fun cl C fp s H=>(hg cl C fp s H).h) (fun cl C fp s H=>(ht cl C fp s H).h) (fun cl C fp s H=>(he cl C fp s H).h) (hs.h _)⟩
theorem jU5 {p1 p2 p3 p4 p5 p6 p7:Pos}{k1 k2 k3 k4:Nat} :JE X (.BinOp (.BinOp (.Constant (.int 2) k1 p1) .Mult (.BinOp (.Constant (.int 10) k2 p2) .Pow (.Constant (.int 12) k3 p3) p4) p5) .Add (.Constant (.int 1) k4 p6) p7) (tC (.int 2000000000001)):=⟨jTE⟩
end
section
variable {P:Program}{w:World}{K:W.Frag}{mg:Str->Option Value}{base:Heap}{N:List Str}{qual:Str}{sc:Scope}{f:Addr}{cdv:Value}{A:Around}{outer:List Env}{s:Shared}{H:Hp}{E:XK}{x:Str}
theorem gl_d (h:sc.names.lookup x=some .globalImplicit):Gl1 (cxOf CX0 P w K mg base N qual sc f cdv A outer s H E).nox x:=⟨h⟩
theorem gD (h:sc.names.lookup x=some .globalImplicit:=by decide+kernel):Gl1 (cxOf CX0 P w K mg base N qual sc f cdv A outer s H E).nox x:=gl_d h
theorem vis_l (h:sc.names.lookup x=some .local):Vis1 (cxOf CX0 P w K mg base N qual sc f cdv A outer s H E).nox x:=⟨.inl h⟩
theorem vL (h:sc.names.lookup x=some .local:=by decide+kernel):Vis1 (cxOf CX0 P w K mg base N qual sc f cdv A outer s H E).nox x:=vis_l h
theorem vis_c (h:sc.names.lookup x=some .cell):Vis1 (cxOf CX0 P w K mg base N qual sc f cdv A outer s H E).nox x:=⟨.inr (.inl h)⟩
theorem vC (h:sc.names.lookup x=some .cell:=by decide+kernel):Vis1 (cxOf CX0 P w K mg base N qual sc f cdv A outer s H E).nox x:=vis_c h
end
theorem jA7 {env:Env}{x:Str}{k:NameKind}(hk:k≠ .free):∀ {l:List (Str×NameKind)},l.lookup x=some k->
  (l.map fun (n,k)=>if (k==NameKind.free&&env.scope.kind== .function&&env.kindOf n==some .cell) then (n,NameKind.cell) else (n,k)).lookup x=some k
 | [],h=>by cases h
 | (n,k')::r,h=>by
  have ih:= @jA7 env x k hk r
  rw[aP] at h
  rw[aY]
  dsimp only
  by_cases hb:(k'==NameKind.free&&env.scope.kind== .function&&env.kindOf n==some .cell)=true
  ·rw[aj hb,aP]
   cases hx:x==n with
   | true=>
    rw[hx] at h
    have e:k'=k:=aU h
    simp only [bF] at hb
    exact absurd (e.symm.trans (eq_of_beq hb.1.1)) hk
   | false=>rw[hx] at h; exact ih h
  ·rw[ai hb,aP]
   cases hx:x==n with
   | true=>rw[hx] at h; exact h
   | false=>rw[hx] at h; exact ih h
section
variable {X:Cx}{sc:Scope}{cl:List (Str×Addr)}{C:Addr}{Nc:List Str}{fp:List Addr}{s:Shared}{H:Hp}{x:Str}
theorem gl_b (h:sc.names.lookup x=some .globalImplicit):Gl1 (blk X sc cl C Nc fp s H) x:=⟨jA7 (by decide) h⟩
theorem kD (h:sc.names.lookup x=some .local):Vis1 (blk X sc cl C Nc fp s H) x:=⟨.inl (jA7 (by decide) h)⟩
theorem yC (h:sc.names.lookup x=some .free):Vis1 (blk X sc cl C Nc fp s H) x:=⟨.inr (jAH h)⟩
theorem qJ (h:sc.names.lookup x=some .local):Loc1 (blk X sc cl C Nc fp s H) x:=⟨.inl (jA7 (by decide) h), .inr (jA7 (by decide) h)⟩
end
section
variable {P:Program}{w:World}{K:W.Frag}{mg:Str->Option Value}{base:Heap}{N:List Str}{qual:Str}{sc:Scope}{f:Addr}{cdv:Value}{A:Around}{outer:List Env}{s:Shared}{H:Hp}{E:XK}{x:Str}
theorem loc_l (h:sc.names.lookup x=some .local):Loc1 (cxOf CX0 P w K mg base N qual sc f cdv A outer s H E).nox x:=⟨.inl h, .inl rfl⟩
theorem lL (h:sc.names.lookup x=some .local:=by decide+kernel):Loc1 (cxOf CX0 P w K mg base N qual sc f cdv A outer s H E).nox x:=loc_l h
theorem loc_c (h:sc.names.lookup x=some .cell):Loc1 (cxOf CX0 P w K mg base N qual sc f cdv A outer s H E).nox x:=⟨.inr h, .inl rfl⟩
end
structure JW (X:Cx)(e:Expr)(t:TT):Prop where
 h:PW X e t
section
variable {X:Cx}{a b:Expr}{rest:List Expr}{pos:Pos}{tA tB':TT}
theorem jRQ (ha:JT X a tA):JW X (.BoolOp .And [a] pos) tA:=⟨jQE ha.h⟩
theorem jEM (ha:JT X a tA):JW X (.BoolOp .Or [a] pos) tA:=⟨jSY ha.h⟩
theorem jU0 (ha:JT X a tA)(hb:JW X (.BoolOp .And (b::rest) pos) tB'):JW X (.BoolOp .And (a::b::rest) pos) (tAnd tA tB'):=⟨jSZ ha.h hb.h⟩
theorem jw_or (ha:JT X a tA)(hb:JW X (.BoolOp .Or (b::rest) pos) tB'):JW X (.BoolOp .Or (a::b::rest) pos) (tOr tA tB'):=⟨pw_or ha.h hb.h⟩
theorem jt_w (h:JW X a tA):JT X a tA:=⟨h.h.pt⟩
theorem jLW:JGs X [] gNil:=⟨jQR⟩
structure AsOk (e:Expr):Prop where
 h:∀ es env,assignEach (e::es) env=(false,assign e env)::assignEach es env
theorem jFL {x:Str} :AsOk (.Name x pos):=⟨fun _ _=>rfl⟩
theorem jDB {e:Expr}{es:List Expr}{t:TG}{u:TGs}(h1:JG X e t)(h2:JGs X es u)(hs:AsOk e):JGs X (e::es) (gCons t u):=⟨jNO h1.h h2.h (by rw[hs.h]; rfl)⟩
theorem jPI {es:List Expr}{k:Nat}{t:TGs}{n:Nat}(hc:X.calm=true)(h:JGs X es t)(hn:(assignEach es X.env).length=n:=by rfl)(hst:(assignEach es X.env).findIdx? (·.1)=none:=by rfl):JG X (.Tuple es k pos) (gTup X.K n t):=⟨jT8 hc h.h hn hst⟩
end
theorem jC2 {X:Cx}{sc:Scope}{cl:List (Str×Addr)}{C:Addr}{Nc:List Str}{fp:List Addr}{s:Shared}{H:Hp}{x y:Str}{p1 p2 pos:Pos}{k:Nat}{i j:Nat}(hc:X.calm=true)(hN:Nc.Nodup)(hi:Nc[i]?=some x)(hj:Nc[j]?=some y)(hx:sc.names.lookup x=some .local)(hy:sc.names.lookup y=some .local):
  JG (blk X sc cl C Nc fp s H) (.Tuple [.Name x p1, .Name y p2] k pos) (gTup X.K 2 (gCons (yA i) (gCons (yA j) gNil))):=
 jPI (X:=blk X sc cl C Nc fp s H) hc (jDB (jW hN hi (qJ hx)) (jDB (jW hN hj (qJ hy)) jLW jFL) jFL)
section
variable {K:W.Frag}{m:List (Option Nat)}{g:TG}{tt:TT}{te:TE}{σ:St}{H1:Hp}{Q:VK}
theorem jJ4 {t1 t2:Bool}{l1 l2:Addr}{xs ys:List V}(hn:xs.length<sizeLine)(Pv:Addr->Nat->St->Hp->List V->Prop)(h0:∀ D,H1 D=none->Pv D 0 (blkσ m σ) (upd H1 D (.lst [])) [])
  (hD:∀ D i σ' H' zs,H1 D=none->Pv D i σ' H' zs->Sq t1 K H' l1 xs/\Sq t2 K H' l2 ys/\H' D=some (.lst zs)/\zs.length<=i)
  (hs:∀ D i σ' H' zs x y T,H1 D=none->xs[i]?=some x->ys[i]?=some y->H' T=none->Pv D i σ' H' zs->g (.ref T) σ' (upd H' T (.tup [x,y])) fun σ2 H2=>tt σ2 H2 fun b H3=>if b=true then te σ2 H3 fun v H4=>H4 D=some (.lst zs)/\Pv D (i+1) σ2 (upd H4 D (.lst (zs++[v]))) (zs++[v]) else Pv D (i+1) σ2 H3 zs)
  (hd:∀ D σ' H' zs,H1 D=none->Pv D (min xs.length ys.length) σ' H' zs->Q (.ref D) H'):qQ m g tt te σ Q (Itz t1 t2 K l1 l2) H1:=by
 intro D hDn
 refine⟨fun i k σ' H' zs=>k=min xs.length ys.length - i/\i<=min xs.length ys.length/\Pv D i σ' H' zs,⟨_,rfl,bb _,h0 D hDn⟩,?_⟩
 rintro i k σ' H' zs ⟨rfl,hi,p⟩
 obtain⟨s1,s2,q1,q2⟩:=hD D i σ' H' zs hDn p
 refine⟨q1,by omega,?_⟩
 by_cases hlt:i<min xs.length ys.length
 ·have a1:i<xs.length:=by omega
  have a2:i<ys.length:=by omega
  refine .inr ⟨⟨xs,ys,xs[i],ys[i],s1,s2,by simp [a1],by simp [a2]⟩,Pv D (i+1),fun σ2 H2 zs z=>⟨min xs.length ys.length - (i+1),by omega,rfl,hlt,z⟩,fun v H'' y=>?_⟩
  obtain⟨T,x,y,e1,e2,e3,e4⟩:=y
  subst e2 e3
  obtain⟨z1,z2⟩:=e4 xs ys s1 s2
  exact hs D i σ' _ zs x y T hDn z1 z2 e1 p
 ·have e:i=min xs.length ys.length:=by omega
  subst e
  exact .inl ⟨⟨xs,ys,s1,s2,by omega⟩,hd D σ' H' zs hDn p⟩
end
section
variable {X:Cx}{sc:Scope}{cl:List (Str×Addr)}{C:Addr}{Nc:List Str}{fp:List Addr}{s:Shared}{H:Hp}
theorem jHF:OpR (blk X sc cl C Nc fp s H) (compareOp .In) (rIn X.K false):=jG7
theorem jAD:IxR (blk X sc cl C Nc fp s H) (rIxT X.K):=kQ
theorem jK3:yO (blk X sc cl C Nc fp s H) (.builtin "len") (fun xs H Q=>∃ p ys,xs=[.ref p]/\(SqL X.K H p ys\/SqT X.K H p ys)/\Q (.int ys.length) H):=jU
end
def Ext (H H':Hp):Prop:=∀ b o,H b=some o->H' b=some o
theorem Ext.refl (H:Hp):Ext H H:=fun _ _ h=>h
theorem Ext.trans {H H1 H2:Hp}(a:Ext H H1)(b:Ext H1 H2):Ext H H2:=fun c o h=>b c o (a c o h)
theorem Ext.new {H H1:Hp}{l:Addr}(a:Ext H H1)(hl:H1 l=none)(o:HO):Ext H (upd H1 l o):=fun c u h=>by
 have:=a c u h
 rw[j9 (jA this hl)]
 exact this
theorem Ext.updNew {H H1:Hp}{l:Addr}(a:Ext H H1)(hl:H l=none)(o:HO):Ext H (upd H1 l o):=fun c u h=>by
 rw[j9 (jA h hl)]
 exact a c u h
def TupR (H:Hp)(xs:List V)(Q:VK):Prop:=∀ r H',H' r=some (.tup xs)->Ext H H'->Q (.ref r) H'
theorem TupR.new {H:Hp}{xs:List V}{Q:VK}(q:TupR H xs Q){p:Addr}(hp:H p=none):Q (.ref p) (upd H p (.tup xs)):=q p _ j6 ((Ext.refl H).new hp _)
theorem TupR.old {H:Hp}{xs:List V}{Q:VK}(q:TupR H xs Q){p:Addr}(hp:H p=some (.tup xs)):Q (.ref p) H:=q p H hp (Ext.refl H)
section
variable {X:Cx}
section
variable (l:Addr)(items:Array Value)(n:Nat)(x:Int)(u:Tok)(h1:¬ (decide (x< -(2 ^ 63)) || decide (x ≥ 2 ^ 63))=true)
include h1
end
theorem jCN {prog:Program}{w:World}{A:Around}{E:Value->Shared->Prop}{s:Shared}{t sl:Addr}{items:Array Value}{n:Nat}{vl vu:Value}{lo hi:Option Int}{Q:Value->Shared->Prop}
  (e0:s.heap.get? t=some { cls:= .type "tuple",data:= .seq items n}) (hs:s.heap.IsSliceOf sl vl vu .none) (pl:IsPart vl lo) (pu:IsPart vu hi)
  (hw:HT.sIx items.size 0 lo=0/\HT.sIx items.size items.size hi=items.size) (h:Q (.ref t) s):wpAny (model prog w) A (getItem (.ref t) (.ref sl)) Q E s:=by
 have ht:IsTup s.heap t items:=⟨_,e0,rfl,n,rfl⟩
 obtain⟨os,hos,hcs,hds⟩:=id hs
 have hTs:s.TypeIs (.ref sl) "slice" :=⟨os,hos,hcs⟩
 unfold getItem
 try with_reducible refine b0 ?_
 first | refine aa (af ?_) | skip
 refine aa (wpAny_sequenceKey ht.typeIs (by decide) (aa (bD (name:=Str.ofString "__getitem__") ht.typeIs bU
  (bE bU ht.typeIs entry_tuple_getitem (?_:wpAny (model prog w) _ (Builtin.Tuple.tupleItemsOf (.ref t) >>= _) _ _ s) (args_tuple_getitem _ _)))))
 refine aa (tupleItemsOf_ ht (aa (gj hTs ?_)))
 rw[aj (by decide)]
 refine aa (HT.sliceApplied_gen hs pl pu ?_)
 have yes:(((HT.sIx items.size 0 lo:Nat):Int)==0&&(1:Int)==1&&(HT.sIx items.size items.size hi - HT.sIx items.size 0 lo)==items.size)=true:=by
  rw[hw.1,hw.2]
  simp
 show wpAny (model prog w) _ (if (((HT.sIx items.size 0 lo:Nat):Int)==0&&(1:Int)==1&&(HT.sIx items.size items.size hi - HT.sIx items.size 0 lo)==items.size)=true then _ else _) _ _ s
 rw[aj yes]
 have ex:∀ {A:Around}{Q:Bool->Shared->Prop},Q true s->wpAny (model prog w) A (Builtin.Tuple.tupleIsExact (.ref t)) Q E s:=fun q=>by
  unfold Builtin.Tuple.tupleIsExact
  exact aa (gj ⟨_,e0,rfl⟩ (af q))
 refine aa (ex ?_)
 rw[aj rfl]
 exact aa (cD (af ⟨_,rfl,af h⟩))
def rSlU:V->Option Int->Option Int->Hp->VK->Prop:=fun x lo hi H Q=>∃ a xs,x= .ref a/\H a=some (.tup xs)/\TupR H (cutV xs lo hi) Q
theorem jQ4:SlR X rSlU:=by
 intro pins s σ H x v vl vu lo hi sl Q I rx hs pl pu h
 obtain⟨a,xs,rfl,hx,q⟩:=h
 by_cases hw:HT.sIx xs.length 0 lo=0/\HT.sIx xs.length xs.length hi=xs.length
 ·cases rx
  obtain⟨_,its,r,n,e⟩:=I.hok a _ hx
  have hlen:its.toArray.size=xs.length:=by rw[aq]; exact r.length.symm
  refine⟨"tuple",_,bU.lookup,⟨_,e,rfl⟩,jCN e hs pl pu (by rw[hlen]; exact hw) ⟨.ref a,H,I,rfl,q.old ?_⟩⟩
  rw[hx]
  congr 2
  unfold cutV
  rw[hw.1,hw.2]
  simp
 ·exact jSR pins s σ H _ v vl vu lo hi sl Q I rx hs pl pu ⟨a,xs,rfl,SqT.of hx,hw,fun p hp=>q.new hp⟩
theorem Inv.big' {pins:List (Addr×Obj)}{σ:St}{H:Hp}{s:Shared}(I:Inv X pins σ H s):sysModules<s.heap.objs.size:=gm (by decide) (I.mod.glob.keeps I.bk).lt
def jSN:TE:=fun _ H Q=>∀ p,H p=none->Q (.ref p) (upd H p (.dK []))
theorem jIX {pos:Pos} :JE X (.Dict [] [] pos) jSN:=⟨fun pins s σ H Q I h=>
 wpAny_Dict_empty ⟨.ref s.heap.objs.size,_,I.laid (a:=s.heap.objs.size) (o:= .dK []) (t':=s.toks) (fun _ _ q=>ab _ q) (ak _)
  ⟨bb _,cf.mpr (dD (aS I.big')),[], .nil,Heap.DictOf.new s.heap⟩,rfl,h _ (I.hok.fresh (ak _))⟩⟩
theorem jOC {a b c:Expr}{ta tb tc:TE}{pos:Pos}{op op':CmpOp}{r r':R2}(ho:OpR X (compareOp op) r)(ho':OpR X (compareOp op') r')(ha:JE X a ta)(hb:JE X b tb)(hc:JE X c tc)
  (hm:lastMarks [op,op'] [b,c]=false:=by with_unfolding_all rfl):JE X (.Compare a [op,op'] [b,c] pos) (jP1 r r' ta tb tc):=⟨jNS ho ho' ha.h hb.h hc.h hm⟩
theorem jLV {tg a b:Expr}{t:TA}{p pos:Pos}(hg:Gl1 X "range")(hm:X.mg "range" =none)(ha:JA X [a,b] t)(hs:starEach [a,b] X.env=(false,eval a X.env)::starEach [b] X.env)(hs2:starEach [b] X.env=(false,eval b X.env)::starEach [] X.env):
  JI X tg (.Call (.Name "range" p) [a,b] [] pos) (iRng2 t):=⟨jKY hg.a hm ha.h (by rw[hs,hs2]; rfl) hs2⟩
theorem jU1 {tg e:Expr}{te:TE}{g:TG}{pos:Pos}(he:JE X e te)(hg:JG X tg g)(hs:swapsWithSole [tg] e pos.line X.env=pure false:=by rfl)(hw:swappedStores [tg] e X.env=pure none:=by rfl)
  (h1:(assignEach [tg] X.env).map (·.2)=[assign tg X.env]:=by rfl):JS X (.Assign [tg] e pos) (tAsg te g):=⟨jP7 he.h hg.h hs hw h1⟩
end
section
variable {K:W.Frag}{m:List (Option Nat)}{g:TG}{tt:TT}{te:TE}{σ:St}{H1:Hp}{Q:VK}
theorem jDE {a:Addr}{xs:List V}(hn:xs.length<sizeLine)(Pv:Addr->Nat->St->Hp->List V->Prop)(h0:∀ D,H1 D=none->Pv D 0 (blkσ m σ) (upd H1 D (.lst [])) [])
  (hD:∀ D i σ' H' zs,H1 D=none->Pv D i σ' H' zs->H' a=some (.tup xs)/\H' D=some (.lst zs)/\zs.length<=i)
  (hs:∀ D i σ' H' zs x,H1 D=none->xs[i]?=some x->Pv D i σ' H' zs->g x σ' H' fun σ2 H2=>tt σ2 H2 fun b H3=>if b=true then te σ2 H3 fun v H4=>H4 D=some (.lst zs)/\Pv D (i+1) σ2 (upd H4 D (.lst (zs++[v]))) (zs++[v]) else Pv D (i+1) σ2 H3 zs)
  (hd:∀ D σ' H' zs,H1 D=none->Pv D xs.length σ' H' zs->Q (.ref D) H'):qQ m g tt te σ Q (Itt K a) H1:=by
 intro D hDn
 refine⟨fun i k σ' H' zs=>k=xs.length - i/\i<=xs.length/\Pv D i σ' H' zs,⟨_,rfl,bb _,h0 D hDn⟩,?_⟩
 rintro i k σ' H' zs ⟨rfl,hi,p⟩
 obtain⟨s1,q1,q2⟩:=hD D i σ' H' zs hDn p
 refine⟨q1,by omega,?_⟩
 by_cases hlt:i<xs.length
 ·refine .inr ⟨⟨xs,xs[i],SqT.of s1,by simp [hlt]⟩,Pv D (i+1),fun σ2 H2 zs z=>⟨xs.length - (i+1),by omega,rfl,hlt,z⟩,fun v H'' y=>?_⟩
  obtain⟨e1,e2⟩:=y
  subst e1
  exact hs D i σ' _ zs v hDn (e2 xs (SqT.of s1)) p
 ·have e:i=xs.length:=by omega
  subst e
  exact .inl ⟨⟨xs,SqT.of s1,ak _⟩,hd D σ' H' zs hDn p⟩
end
inductive Tr where
 | non
 | bl (b:Bool)
 | int (i:Int)
 | str (x:Str)
 | lst (ts:List Tr)
 | tup (ts:List Tr)
mutual
def TAt (H:Hp):Tr->V->Prop
 | .non,v=>v= .non
 | .bl b,v=>v= .bl b
 | .int i,v=>v= .int i
 | .str x,v=>v= .str x
 | .lst ts,v=>∃ a vs,v= .ref a/\H a=some (.lst vs)/\TsAt H ts vs
 | .tup ts,v=>∃ a vs,v= .ref a/\H a=some (.tup vs)/\TsAt H ts vs
def TsAt (H:Hp):List Tr->List V->Prop
 | [],vs=>vs=[]
 | t::ts,vs=>∃ v r,vs=v::r/\TAt H t v/\TsAt H ts r
end
mutual
def dep:Tr->Nat
 | .lst ts=>deps ts+1
 | .tup ts=>deps ts+1
 | _=>0
def deps:List Tr->Nat
 | []=>0
 | t::ts=>max (dep t) (deps ts)
end
mutual
def eqT:Tr->Tr->Bool
 | .non, .non=>true
 | .bl a, .bl b=>a==b
 | .bl a, .int b=>(if a then 1 else 0)==b
 | .int a, .bl b=>a==(if b then 1 else 0)
 | .int a, .int b=>a==b
 | .str a, .str b=>a==b
 | .lst a, .lst b=>eqTs a b
 | .tup a, .tup b=>eqTs a b
 | _,_=>false
def eqTs:List Tr->List Tr->Bool
 | [],[]=>true
 | a::as,b::bs=>eqT a b&&eqTs as bs
 | _,_=>false
end
mutual
theorem jFE:∀ t:Tr,eqT t t=true
 | .non=>by simp [eqT]
 | .bl b=>by simp [eqT]
 | .int i=>by simp [eqT]
 | .str x=>by simp [eqT]
 | .lst ts=>by rw[eqT]; exact jC5 ts
 | .tup ts=>by rw[eqT]; exact jC5 ts
theorem jC5:∀ ts:List Tr,eqTs ts ts=true
 | []=>by simp [eqTs]
 | t::ts=>by rw[eqTs,jFE t,jC5 ts]; rfl
end
mutual
theorem TAt.ext {H H':Hp}(e:Ext H H'):∀ {t:Tr}{v:V},TAt H t v->TAt H' t v
 | .non,_,h=>h
 | .bl _,_,h=>h
 | .int _,_,h=>h
 | .str _,_,h=>h
 | .lst ts,_,⟨a,vs,q,h,r⟩=>⟨a,vs,q,e _ _ h,TsAt.ext e r⟩
 | .tup ts,_,⟨a,vs,q,h,r⟩=>⟨a,vs,q,e _ _ h,TsAt.ext e r⟩
theorem TsAt.ext {H H':Hp}(e:Ext H H'):∀ {ts:List Tr}{vs:List V},TsAt H ts vs->TsAt H' ts vs
 | [],_,h=>h
 | t::ts,_,⟨v,r,q,h,s⟩=>⟨v,r,q,TAt.ext e h,TsAt.ext e s⟩
end
mutual
theorem TAt.inj {H:Hp} :∀ {t u:Tr}{v:V},TAt H t v->TAt H u v->t=u
 | .non,u,_,h,h'=>by
  cases (show _=V.non from h)
  cases u with
  | non=>rfl
  | bl b=>cases (show V.non=_ from h')
  | int b=>cases (show V.non=_ from h')
  | str b=>cases (show V.non=_ from h')
  | lst ts=>obtain⟨_,_,q,_⟩:=h'; cases q
  | tup ts=>obtain⟨_,_,q,_⟩:=h'; cases q
 | .bl b,u,_,h,h'=>by
  cases (show _=V.bl b from h)
  cases u with
  | non=>cases (show V.bl b=_ from h')
  | bl b=>cases (show V.bl _=V.bl b from h'); rfl
  | int i=>cases (show V.bl b=V.int i from h')
  | str i=>cases (show V.bl b=V.str i from h')
  | lst ts=>obtain⟨_,_,q,_⟩:=h'; cases q
  | tup ts=>obtain⟨_,_,q,_⟩:=h'; cases q
 | .int b,u,_,h,h'=>by
  cases (show _=V.int b from h)
  cases u with
  | non=>cases (show V.int b=_ from h')
  | bl i=>cases (show V.int b=V.bl i from h')
  | int b=>cases (show V.int _=V.int b from h'); rfl
  | str i=>cases (show V.int b=V.str i from h')
  | lst ts=>obtain⟨_,_,q,_⟩:=h'; cases q
  | tup ts=>obtain⟨_,_,q,_⟩:=h'; cases q
 | .str b,u,_,h,h'=>by
  cases (show _=V.str b from h)
  cases u with
  | non=>cases (show V.str b=_ from h')
  | bl i=>cases (show V.str b=V.bl i from h')
  | int i=>cases (show V.str b=V.int i from h')
  | str b=>cases (show V.str _=V.str b from h'); rfl
  | lst ts=>obtain⟨_,_,q,_⟩:=h'; cases q
  | tup ts=>obtain⟨_,_,q,_⟩:=h'; cases q
 | .lst ts,u,_,⟨a,vs,q,h,r⟩,h'=>by
  subst q
  cases u with
  | non=>cases (show V.ref a=_ from h')
  | bl i=>cases (show V.ref a=V.bl i from h')
  | int i=>cases (show V.ref a=V.int i from h')
  | str i=>cases (show V.ref a=V.str i from h')
  | lst us=>
   obtain⟨a',vs',q',h2,r'⟩:=h'
   cases q'
   rw[h] at h2
   cases h2
   rw[TsAt.inj r r']
  | tup us=>
   obtain⟨a',vs',q',h2,r'⟩:=h'
   cases q'
   rw[h] at h2
   cases h2
 | .tup ts,u,_,⟨a,vs,q,h,r⟩,h'=>by
  subst q
  cases u with
  | non=>cases (show V.ref a=_ from h')
  | bl i=>cases (show V.ref a=V.bl i from h')
  | int i=>cases (show V.ref a=V.int i from h')
  | str i=>cases (show V.ref a=V.str i from h')
  | lst us=>
   obtain⟨a',vs',q',h2,r'⟩:=h'
   cases q'
   rw[h] at h2
   cases h2
  | tup us=>
   obtain⟨a',vs',q',h2,r'⟩:=h'
   cases q'
   rw[h] at h2
   cases h2
   rw[TsAt.inj r r']
theorem TsAt.inj {H:Hp} :∀ {ts us:List Tr}{vs:List V},TsAt H ts vs->TsAt H us vs->ts=us
 | [],us,_,h,h'=>by
  cases (show _=[] from h)
  cases us with
  | nil=>rfl
  | cons u us=>obtain⟨_,_,q,_⟩:=h'; cases q
 | t::ts,us,_,⟨v,r,q,h,s⟩,h'=>by
  subst q
  cases us with
  | nil=>cases (show v::r=[] from h')
  | cons u us=>
   obtain⟨v',r',q,h2,s2⟩:=h'
   cases q
   rw[TAt.inj h h2,TsAt.inj s s2]
end
theorem TsAt.len {H:Hp} :∀ {ts:List Tr}{vs:List V},TsAt H ts vs->vs.length=ts.length
 | [],_,h=>by cases (show _=[] from h); rfl
 | t::ts,_,⟨v,r,q,_,s⟩=>by rw[q,aK,aK,TsAt.len s]
theorem TsAt.get {H:Hp} :∀ {ts:List Tr}{vs:List V},TsAt H ts vs->∀ {i:Nat}{v:V},vs[i]?=some v->∃ t,ts[i]?=some t/\TAt H t v
 | [],_,h,i,v,e=>by cases (show _=[] from h); cases e
 | t::ts,_,⟨v,r,q,h,s⟩,0,v',e=>by subst q; cases e; exact⟨t,rfl,h⟩
 | t::ts,_,⟨v,r,q,h,s⟩,i+1,v',e=>by subst q; exact TsAt.get s (i:=i) e
theorem jFD:∀ ts us:List Tr,eqTs ts us=((List.range (min ts.length us.length)).all (fun j=>eqT (ts.getD j .non) (us.getD j .non))&&ts.length==us.length)
 | [],[]=>by simp [eqTs]
 | [],u::us=>by simp [eqTs]
 | t::ts,[]=>by simp [eqTs]
 | t::ts,u::us=>by
  rw[eqTs,jFD ts us,aK,aK,show min (ts.length+1) (us.length+1)=min ts.length us.length+1 by omega,List.range_succ_eq_map,dn,h9]
  have e:(ts.length+1==us.length+1)=(ts.length==us.length):=by
   rw[bZ]
   simp
  rw[e,Bool.and_assoc]
  rfl
theorem jFG {ts:List Tr}{t:Tr}(h:t∈ts):dep t<=deps ts:=by
 induction ts with
 | nil=>cases h
 | cons a r ih=>
  rw[deps]
  rcases aB.mp h with q | q
  ·subst q; omega
  ·have:=ih q; omega
def flatT:Tr->Bool
 | .lst _=>false
 | .tup _=>false
 | _=>true
theorem jMC {H:Hp}{t:Tr}{x:V}(h:TAt H t x)(f:flatT t=true):qO x=true:=by
 cases t with
 | non=>cases (show x=_ from h); rfl
 | bl b=>cases (show x=V.bl b from h); rfl
 | int b=>cases (show x=V.int b from h); rfl
 | str b=>cases (show x=V.str b from h); rfl
 | lst ts=>cases f
 | tup ts=>cases f
theorem jS4 {H:Hp}{t u:Tr}{x y:V}(h:TAt H t x)(h':TAt H u y)(f:flatT t=true)(f':flatT u=true):eqV x y=eqT t u:=by
 cases t with
 | non=>
  cases (show x=_ from h)
  cases u with
  | non=>cases (show y=_ from h'); simp [eqV,eqT]
  | bl b=>cases (show y=V.bl b from h'); simp [eqV,eqT]
  | int b=>cases (show y=V.int b from h'); simp [eqV,eqT]
  | str b=>cases (show y=V.str b from h'); simp [eqV,eqT]
  | lst ts=>cases f'
  | tup ts=>cases f'
 | bl c=>
  cases (show x=V.bl c from h)
  cases u with
  | non=>cases (show y=_ from h'); simp [eqV,eqT]
  | bl b=>cases (show y=V.bl b from h'); simp [eqV,eqT]
  | int b=>cases (show y=V.int b from h'); simp [eqV,eqT]
  | str b=>cases (show y=V.str b from h'); simp [eqV,eqT]
  | lst ts=>cases f'
  | tup ts=>cases f'
 | int c=>
  cases (show x=V.int c from h)
  cases u with
  | non=>cases (show y=_ from h'); simp [eqV,eqT]
  | bl b=>cases (show y=V.bl b from h'); simp [eqV,eqT]
  | int b=>cases (show y=V.int b from h'); simp [eqV,eqT]
  | str b=>cases (show y=V.str b from h'); simp [eqV,eqT]
  | lst ts=>cases f'
  | tup ts=>cases f'
 | str c=>
  cases (show x=V.str c from h)
  cases u with
  | non=>cases (show y=_ from h'); simp [eqV,eqT]
  | bl b=>cases (show y=V.bl b from h'); simp [eqV,eqT]
  | int b=>cases (show y=V.int b from h'); simp [eqV,eqT]
  | str b=>cases (show y=V.str b from h'); simp [eqV,eqT]
  | lst ts=>cases f'
  | tup ts=>cases f'
 | lst ts=>cases f
 | tup ts=>cases f
section
variable {X:Cx}{pins:List (Addr×Obj)}{σ:St}{H:Hp}{s:Shared}
theorem TsAt.both {ts us:List Tr}{vs ws:List V}{its its2:List Value}(h1:TsAt H ts vs)(h2:TsAt H us ws)(r1:Vals vs its)(r2:Vals ws its2){j:Nat}(a1:j<its.toArray.size)(a2:j<its2.toArray.size):
  ∃ t u x y,ts.getD j .non=t/\us.getD j .non=u/\t∈ts/\TAt H t x/\TAt H u y/\RelV x its.toArray[j]/\RelV y its2.toArray[j]:=by
 have l1:=r1.length
 have l2:=r2.length
 rw[aq] at a1 a2
 obtain⟨x,hx⟩:∃ x,vs[j]?=some x:=⟨vs[j]'(by omega),by simp [show j<vs.length by omega]⟩
 obtain⟨y,hy⟩:∃ y,ws[j]?=some y:=⟨ws[j]'(by omega),by simp [show j<ws.length by omega]⟩
 obtain⟨t,ht,hxt⟩:=h1.get hx
 obtain⟨u,hu,hyu⟩:=h2.get hy
 obtain⟨v,hv,rv⟩:=r1.get hx
 obtain⟨w,hw,rw'⟩:=r2.get hy
 have e1:its.toArray[j]=v:=by
  have:its[j]?=some its[j]:=by simp [a1]
  rw[hv] at this
  simpa using (aU this).symm
 have e2:its2.toArray[j]=w:=by
  have:its2[j]?=some its2[j]:=by simp [a2]
  rw[hw] at this
  simpa using (aU this).symm
 refine⟨t,u,x,y,by rw[aA,ht]; rfl,by rw[aA,hu]; rfl,ao ht,hxt,hyu,by rw[e1]; exact rv,by rw[e2]; exact rw'⟩
theorem jUC (I:Inv X pins σ H s):∀ (n:Nat) (t u:Tr) (x y:V) (vx vy:Value) (A:Around),dep t=n->TAt H t x->TAt H u y->RelV x vx->RelV y vy->A.units+n<cLine->SeqAt.EqAt A s vx vy (eqT t u):=by
 intro n
 induction n using strongRecOn with
 | ind n ih=>
  intro t u x y vx vy A hn ht hu rx ry hc
  have hcu:A.units<cLine:=by omega
  cases ft:flatT t with
  | true=>
   cases fu:flatT u with
   | true=>
    rw[<- jS4 ht hu ft fu]
    exact jPQ rx ry (jMC ht ft) (jMC hu fu)
   | false=>
    cases u with
    | lst us=>
     obtain⟨b,ws,rfl,hb,_⟩:=hu
     cases ry
     obtain⟨its,_,pl,_⟩:=I.list (SqL.of hb)
     cases t with
     | non=>cases (show x=_ from ht); cases rx; rw[show eqT .non (.lst us)=false by simp [eqT]]; exact .none_list pl.isList hcu
     | bl c=>cases (show x=V.bl c from ht); cases rx; rw[show eqT (.bl c) (.lst us)=false by simp [eqT]]; exact .bool_list c pl.isList hcu
     | int c=>cases (show x=V.int c from ht); obtain⟨k,rfl⟩:=rx; rw[show eqT (.int c) (.lst us)=false by simp [eqT]]; exact .int_list c k pl.isList hcu
     | str c=>cases (show x=V.str c from ht); obtain⟨k,rfl⟩:=rx; rw[show eqT (.str c) (.lst us)=false by simp [eqT]]; exact .str_list c k pl.isList hcu
     | lst ts=>cases ft
     | tup ts=>cases ft
    | tup us=>
     obtain⟨b,ws,rfl,hb,_⟩:=hu
     cases ry
     obtain⟨its,_,pl,_⟩:=I.tuple (SqT.of hb)
     cases t with
     | non=>cases (show x=_ from ht); cases rx; rw[show eqT .non (.tup us)=false by simp [eqT]]; exact .none_tuple pl hcu
     | bl c=>cases (show x=V.bl c from ht); cases rx; rw[show eqT (.bl c) (.tup us)=false by simp [eqT]]; exact .bool_tuple c pl hcu
     | int c=>cases (show x=V.int c from ht); obtain⟨k,rfl⟩:=rx; rw[show eqT (.int c) (.tup us)=false by simp [eqT]]; exact .int_tuple c k pl hcu
     | str c=>cases (show x=V.str c from ht); obtain⟨k,rfl⟩:=rx; rw[show eqT (.str c) (.tup us)=false by simp [eqT]]; exact .str_tuple c k pl hcu
     | lst ts=>cases ft
     | tup ts=>cases ft
    | non=>cases fu
    | bl c=>cases fu
    | int c=>cases fu
    | str c=>cases fu
  | false=>
   cases t with
   | non=>cases ft
   | bl c=>cases ft
   | int c=>cases ft
   | str c=>cases ft
   | lst ts=>
    have ht0:=ht
    obtain⟨a,vs,rfl,ha,hts⟩:=ht
    cases rx
    obtain⟨its,r1,pl,_⟩:=I.list (SqL.of ha)
    cases u with
    | non=>cases (show y=_ from hu); cases ry; rw[show eqT (.lst ts) .non=false by simp [eqT]]; exact .list_none pl.isList hcu
    | bl c=>cases (show y=V.bl c from hu); cases ry; rw[show eqT (.lst ts) (.bl c)=false by simp [eqT]]; exact .list_bool c pl.isList hcu
    | int c=>cases (show y=V.int c from hu); obtain⟨k,rfl⟩:=ry; rw[show eqT (.lst ts) (.int c)=false by simp [eqT]]; exact .list_int c k pl.isList hcu
    | str c=>cases (show y=V.str c from hu); obtain⟨k,rfl⟩:=ry; rw[show eqT (.lst ts) (.str c)=false by simp [eqT]]; exact .list_str c k pl.isList hcu
    | tup us=>
     obtain⟨b,ws,rfl,hb,_⟩:=hu
     cases ry
     obtain⟨its2,_,pl2,_⟩:=I.tuple (SqT.of hb)
     rw[show eqT (.lst ts) (.tup us)=false by simp [eqT]]
     exact .list_tuple pl.isList pl2 hcu
    | lst us=>
     have hu0:=hu
     obtain⟨b,ws,rfl,hb,hus⟩:=hu
     cases ry
     by_cases e:a=b
     ·subst e
      rw[<- TAt.inj ht0 hu0,jFE]
      exact .same _
     ·obtain⟨its2,r2,pl2,_⟩:=I.list (SqL.of hb)
      refine .of_refs e ?_
      have l1:=r1.length
      have l2:=r2.length
      have m1:=hts.len
      have m2:=hus.len
      rw[eqT,jFD]
      by_cases hl:ts.length=us.length
      ·have key:=SeqAt.RcAt.lists (e:=fun j=>eqT (ts.getD j .non) (us.getD j .non)) pl.isList pl2.isList (by rw[aq,aq]; omega) hcu fun j a1 a2=>by
        obtain⟨t',u',x',y',e1,e2,hm,q1,q2,q3,q4⟩:=TsAt.both hts hus r1 r2 a1 a2
        rw[e1,e2]
        have hd:=jFG hm
        have hn':deps ts+1=n:=by rw[<- hn,dep]
        exact ih (dep t') (by omega) t' u' x' y' _ _ _ rfl q1 q2 q3 q4 (by rw[eg]; omega)
       have ez:its.toArray.size=min ts.length us.length:=by rw[aq]; omega
       rw[ez] at key
       rw[show (ts.length==us.length)=true by simp [hl],Bool.and_true]
       exact key
      ·rw[show (ts.length==us.length)=false by simp [hl],dv]
       refine SeqAt.RcAt.lists_lengths pl.isList pl2.isList ?_ hcu
       rw[aq,aq]
       simp
       omega
   | tup ts=>
    have ht0:=ht
    obtain⟨a,vs,rfl,ha,hts⟩:=ht
    cases rx
    obtain⟨its,r1,pl,_⟩:=I.tuple (SqT.of ha)
    cases u with
    | non=>cases (show y=_ from hu); cases ry; rw[show eqT (.tup ts) .non=false by simp [eqT]]; exact .tuple_none pl hcu
    | bl c=>cases (show y=V.bl c from hu); cases ry; rw[show eqT (.tup ts) (.bl c)=false by simp [eqT]]; exact .tuple_bool c pl hcu
    | int c=>cases (show y=V.int c from hu); obtain⟨k,rfl⟩:=ry; rw[show eqT (.tup ts) (.int c)=false by simp [eqT]]; exact .tuple_int c k pl hcu
    | str c=>cases (show y=V.str c from hu); obtain⟨k,rfl⟩:=ry; rw[show eqT (.tup ts) (.str c)=false by simp [eqT]]; exact .tuple_str c k pl hcu
    | lst us=>
     obtain⟨b,ws,rfl,hb,_⟩:=hu
     cases ry
     obtain⟨its2,_,pl2,_⟩:=I.list (SqL.of hb)
     rw[show eqT (.tup ts) (.lst us)=false by simp [eqT]]
     exact .tuple_list pl pl2.isList hcu
    | tup us=>
     have hu0:=hu
     obtain⟨b,ws,rfl,hb,hus⟩:=hu
     cases ry
     by_cases e:a=b
     ·subst e
      rw[<- TAt.inj ht0 hu0,jFE]
      exact .same _
     ·obtain⟨its2,r2,pl2,_⟩:=I.tuple (SqT.of hb)
      refine .of_refs e ?_
      have l1:=r1.length
      have l2:=r2.length
      have m1:=hts.len
      have m2:=hus.len
      rw[eqT,jFD]
      have key:=SeqAt.RcAt.tuples (e:=fun j=>eqT (ts.getD j .non) (us.getD j .non)) pl pl2 hcu fun j a1 a2=>by
       obtain⟨t',u',x',y',e1,e2,hm,q1,q2,q3,q4⟩:=TsAt.both hts hus r1 r2 a1 a2
       rw[e1,e2]
       have hd:=jFG hm
       have hn':deps ts+1=n:=by rw[<- hn,dep]
       exact ih (dep t') (by omega) t' u' x' y' _ _ _ rfl q1 q2 q3 q4 (by rw[eg]; omega)
      have z1:its.toArray.size=ts.length:=by rw[aq]; omega
      have z2:its2.toArray.size=us.length:=by rw[aq]; omega
      rw[z1,z2] at key
      exact key
theorem jRW (I:Inv X pins σ H s){ts us:List Tr}{vs ws:List V}{its its2:List Value}(h1:TsAt H ts vs)(h2:TsAt H us ws)(r1:Vals vs its)(r2:Vals ws its2){A:Around}(hc:A.units+deps ts<cLine):
  ∀ j (a1:j<its.toArray.size) (a2:j<its2.toArray.size),SeqAt.EqAt A s its.toArray[j] its2.toArray[j] (eqT (ts.getD j .non) (us.getD j .non)):=fun j a1 a2=>by
 obtain⟨t',u',x',y',e1,e2,hm,q1,q2,q3,q4⟩:=TsAt.both h1 h2 r1 r2 a1 a2
 rw[e1,e2]
 have hd:=jFG hm
 exact jUC I (dep t') t' u' x' y' _ _ _ rfl q1 q2 q3 q4 (by omega)
theorem jR0 (hu:X.A.units+101<cLine):OpR X (compareOp .NotEq) (fun x y H Q=>∃ ts us,TAt H (.lst ts) x/\TAt H (.lst us) y/\deps ts<=100/\Q (.bl (!eqTs ts us)) H):=by
 intro pins s σ H x y v u Q I rx ry h
 obtain⟨ts,us,⟨a,vs,rfl,ha,hts⟩,⟨b,ws,rfl,hb,hus⟩,hd,q⟩:=h
 cases rx
 cases ry
 obtain⟨its,r1,p1,_⟩:=I.list (SqL.of ha)
 obtain⟨its2,r2,p2,_⟩:=I.list (SqL.of hb)
 have l1:=r1.length
 have l2:=r2.length
 have m1:=hts.len
 have m2:=hus.len
 rw[jFD] at q
 by_cases hl:ts.length=us.length
 ·refine SeqAt.RcNeAt.lists (e:=fun j=>eqT (ts.getD j .non) (us.getD j .non)) p1.isList p2.isList (by rw[aq,aq]; omega) (by omega) (jRW I hts hus r1 r2 (by rw[eg]; omega)) _ _ _ _ ⟨.bl _,H,I,rfl,?_⟩
  have ez:its.toArray.size=min ts.length us.length:=by rw[aq]; omega
  rw[ez]
  rw[show (ts.length==us.length)=true by simp [hl],Bool.and_true] at q
  exact q
 ·rw[show (ts.length==us.length)=false by simp [hl],dv] at q
  refine SeqAt.RcNeAt.lists_lengths p1.isList p2.isList ?_ (by omega) _ _ _ _ ⟨.bl _,H,I,rfl,q⟩
  rw[aq,aq]
  simp
  omega
theorem Room.units101 {k:Nat}{A:Around}(r:Room k A):A.units+101<cLine:=by have:=r.un; omega
end
theorem jMT {x:Str}{c:Addr} :∀ (l:List (Str×NameKind)) (n:Nat) (acc:List (Str×Addr)),(cellsFrom n l acc).lookup x=some c->acc.lookup x=some c\/(n<=c/\(x,NameKind.cell)∈l)
 | [],n,acc,h=> .inl h
 | (y,k)::r,n,acc,h=>by
  unfold cellsFrom at h
  by_cases hk:(k==NameKind.cell)=true
  ·rw[aj hk] at h
   have ek:k= .cell:=eq_of_beq hk
   rcases jMT r (n+1) _ h with q | ⟨q1,q2⟩
   ·rw[aP] at q
    cases e:x==y with
    | true=>
     rw[e] at q
     cases q
     exact .inr ⟨ak _,by rw[eq_of_beq e,ek]; exact aw⟩
    | false=>rw[e] at q; exact .inl q
   ·exact .inr ⟨by omega,ar _ q2⟩
  ·rw[ai hk] at h
   rcases jMT r n _ h with q | ⟨q1,q2⟩
   ·exact .inl q
   ·exact .inr ⟨q1,ar _ q2⟩
theorem jMV:∀ (l:List (Str×NameKind)) (n:Nat) (acc:List (Str×Addr)),(∀ x y c,acc.lookup x=some c->acc.lookup y=some c->x=y)->(∀ x c,acc.lookup x=some c->c<n)->
  ∀ x y c,(cellsFrom n l acc).lookup x=some c->(cellsFrom n l acc).lookup y=some c->x=y
 | [],n,acc,h1,_=>h1
 | (z,k)::r,n,acc,h1,h2=>by
  unfold cellsFrom
  by_cases hk:(k==NameKind.cell)=true
  ·rw[aj hk]
   refine jMV r (n+1) _ (fun x y c a b=>?_) (fun x c a=>?_)
   ·rw[aP] at a b
    cases e1:x==z with
    | true=>
     rw[e1] at a
     cases a
     cases e2:y==z with
     | true=>exact(eq_of_beq e1).trans (eq_of_beq e2).symm
     | false=>rw[e2] at b; exact absurd (h2 y n b) (cw _)
    | false=>
     rw[e1] at a
     cases e2:y==z with
     | true=>rw[e2] at b; cases b; exact absurd (h2 x n a) (cw _)
     | false=>rw[e2] at b; exact h1 x y c a b
   ·rw[aP] at a
    cases e1:x==z with
    | true=>rw[e1] at a; cases a; exact gZ _
    | false=>rw[e1] at a; exact bJ (h2 x c a)
  ·rw[ai hk]
   exact jMV r n acc h1 h2
theorem jMW {x:Str} :∀ (l:List (Str×NameKind)) (n:Nat) (acc:List (Str×Addr)),((x,NameKind.cell)∈l\/∃ c,acc.lookup x=some c)->∃ c,(cellsFrom n l acc).lookup x=some c
 | [],n,acc,h=>by
  rcases h with h | h
  ·cases h
  ·exact h
 | (z,k)::r,n,acc,h=>by
  unfold cellsFrom
  by_cases hk:(k==NameKind.cell)=true
  ·rw[aj hk]
   refine jMW r (n+1) _ ?_
   by_cases e:x=z
   ·subst e
    exact .inr ⟨n,by rw[aP,fq]⟩
   ·rcases h with h | ⟨c,h⟩
    ·rcases aB.mp h with q | q
     ·cases q; exact absurd rfl e
     ·exact .inl q
    ·exact .inr ⟨c,by rw[aP,cf.mpr e]; exact h⟩
  ·rw[ai hk]
   refine jMW r n acc ?_
   rcases h with h | h
   ·rcases aB.mp h with q | q
    ·cases q; exact absurd rfl hk
    ·exact .inl q
   ·exact .inr h
theorem jMU {x:Str}{c n0:Nat} :∀ (l:List (Str×NameKind)) (n:Nat) (acc:List (Str×Addr)),n0<=n->((x,NameKind.cell)∈l\/∀ c,acc.lookup x=some c->n0<=c)->(cellsFrom n l acc).lookup x=some c->n0<=c
 | [],n,acc,_,h,e=>by
  rcases h with h | h
  ·cases h
  ·exact h c e
 | (z,k)::r,n,acc,hn,h,e=>by
  unfold cellsFrom at e
  by_cases hk:(k==NameKind.cell)=true
  ·rw[aj hk] at e
   refine jMU r (n+1) _ (by omega) ?_ e
   by_cases ez:x=z
   ·subst ez
    refine .inr fun c' h'=>?_
    rw[aP,fq] at h'
    cases h'
    exact hn
   ·rcases h with h | h
    ·rcases aB.mp h with q | q
     ·cases q; exact absurd rfl ez
     ·exact .inl q
    ·refine .inr fun c' h'=>?_
     rw[aP,cf.mpr ez] at h'
     exact h c' h'
  ·rw[ai hk] at e
   refine jMU r n acc hn ?_ e
   rcases h with h | h
   ·rcases aB.mp h with q | q
    ·cases q; exact absurd rfl hk
    ·exact .inl q
   ·exact .inr h
theorem jHY {x:Str} :∀ (l:List (Str×NameKind)) (n:Nat) (acc:List (Str×Addr)),(x,NameKind.cell)∉l->(cellsFrom n l acc).lookup x=acc.lookup x
 | [],_,_,_=>rfl
 | (z,k)::r,n,acc,h=>by
  unfold cellsFrom
  by_cases hk:(k==NameKind.cell)=true
  ·have ek:k= .cell:=eq_of_beq hk
   subst ek
   have ne:x≠z:=fun e=>h (by rw[e]; exact aw)
   rw[aj hk,jHY r (n+1) _ (fun q=>h (ar _ q)),aP,cf.mpr ne]
  ·rw[ai hk,jHY r n _ (fun q=>h (ar _ q))]
theorem jHZ:∀ (l:List (Str×NameKind)) (h:Heap) (acc:List (Str×Addr)),(∀ x c,acc.lookup x=some c->∃ v,h.IsCell c v)->∀ x c,(cellsFrom h.objs.size l acc).lookup x=some c->∃ v,(pushCells h l).IsCell c v
 | [],h,acc,k=>k
 | (z,k)::r,h,acc,hc=>by
  unfold cellsFrom pushCells
  by_cases hk:(k==NameKind.cell)=true
  ·rw[aj hk,aj hk]
   have e:(h.push { cls:= .type "cell",data:= .cell none}).objs.size=h.objs.size+1:=bK _ _
   rw[<- e]
   refine jHZ r _ _ (fun x c q=>?_)
   rw[aP] at q
   cases ez:x==z with
   | true=>rw[ez] at q; cases q; exact⟨none,⟨_,az _ rfl,rfl⟩⟩
   | false=>
    rw[ez] at q
    obtain⟨v,o,ho,hd⟩:=hc x c q
    exact⟨v,o,ab _ ho,hd⟩
  ·rw[ai hk,ai hk]
   exact jHZ r h acc hc
theorem jDO {env:Env}{x:Str}{k:NameKind}(hk:k= .cell\/k= .free):∀ {l:List (Str×NameKind)},
  (l.map fun (n,k)=>if (k==NameKind.free&&env.scope.kind== .function&&env.kindOf n==some .cell) then (n,NameKind.cell) else (n,k)).lookup x=some k->(x,NameKind.cell)∈l\/(x,NameKind.free)∈l
 | [],h=>by simp at h
 | (n,k')::r,h=>by
  have ih:= @jDO env x k hk r
  have up:(x,NameKind.cell)∈r\/(x,NameKind.free)∈r->(x,NameKind.cell)∈(n,k')::r\/(x,NameKind.free)∈(n,k')::r:=fun q=>q.imp (ar _) (ar _)
  rw[aY] at h
  dsimp only at h
  by_cases hb:(k'==NameKind.free&&env.scope.kind== .function&&env.kindOf n==some .cell)=true
  ·rw[aj hb,aP] at h
   cases hx:x==n with
   | true=>
    have:k'= .free:=by
     simp only [bF] at hb
     exact eq_of_beq hb.1.1
    rw[this,eq_of_beq hx]
    exact .inr aw
   | false=>rw[hx] at h; exact up (ih h)
  ·rw[ai hb,aP] at h
   cases hx:x==n with
   | true=>
    rw[hx] at h
    have e:k'=k:=aU h
    rw[eq_of_beq hx,e]
    rcases hk with q | q
    ·rw[q]; exact .inl aw
    ·rw[q]; exact .inr aw
   | false=>rw[hx] at h; exact up (ih h)
theorem jHG {M:Model}{A:Around}{E:Value->Shared->Prop}{s:Shared}{scope:Scope}{globals:Addr}{closure:List (Str×Addr)}{qual:Str}{func:Option Addr}{code:Value}{outer:Env}{builtins:Addr}{Q:Env->Shared->Prop}
  (hQ:Q (newEnv scope s.heap.objs.size globals (cellsFrom (s.heap.objs.size+1) scope.names closure) qual func code (some outer) builtins) { s with heap:=pushCells (s.heap.push { cls:= .type "dict",data:= .dict #[]}) scope.names}):
  wpAny M A (newFunctionEnv scope globals closure [] qual func code (some outer) builtins) Q E s:=by
 simp only [newFunctionEnv,i5,eQ]
 refine aa (wpAny_alloc ?_)
 refine aa (wpAny_layCells _ (fun name kind cells=>by cases hkc:kind==NameKind.cell <;> simp [hkc]) _ _ _ _ ?_)
 rw[show ({ s with heap:=s.heap.push { cls:= .type "dict",data:= .dict #[]}} :Shared).heap.objs.size=s.heap.objs.size+1 from bK ..]
 first
  | exact af hQ
  | exact aa (af (af hQ))
  | (rw[iJ]; exact aa (af (af hQ)))
def blkC (X:Cx)(sc:Scope)(cl:List (Str×Addr))(C:Addr)(Nc:List Str)(fp:List Addr)(s:Shared)(H:Hp):Cx where
 prog:=X.prog
 w:=X.w
 K:=X.K
 mg:=X.mg
 base:=X.base
 A:=X.A
 N:=Nc
 s₀:=s
 H₀:=H
 env:=compEnvC sc cl C X.env
 outer:=X.stack
 stack:=X.stack
 ex:=fp
 fn:=fun x=>sc.names.lookup x==some .cell
 calm:=X.calm
 pn:=[]
 xe:=fun _ _=>False
section
variable {X:Cx}{tg iter elt:Expr}{ifs:List Expr}{sc:Scope}{pos:Pos}{wi:TI}{g:TG}{tt:TT}{te:TE}{m:List (Option Nat)}{Nc:List Str}
theorem jK4 {pins:List (Addr×Obj)}{s:Shared}{σ:St}{H:Hp}{fp:List Addr}(I:Inv X pins σ H s)(hkind:sc.kind= .function)(hdis:∀ x,sc.names.lookup x=some .free->(x,NameKind.cell)∉sc.names)
  (hfree:∀ y∈sc.names,y.2= .free->X.env.scope.names.lookup y.1=some .cell\/X.env.scope.names.lookup y.1=some .free) (hm:qH X sc Nc m) (hfp:∀ b∈fp,FpOk X pins H b) (hlt:∀ b∈fp,b<s.heap.objs.size):
  Inv (blkC X sc (cellsFrom (s.heap.objs.size+1) sc.names (jT X.env.cells sc.names [])) s.heap.objs.size Nc fp s H) [] (blkσ m σ) H { s with heap:=pushCells (s.heap.push { cls:= .type "dict",data:= .dict #[]}) sc.names} :=by
 have hcl:∀ y∈sc.names,y.2= .free->∃ c,X.env.cells.lookup y.1=some c:=fun y hy hf=>I.ok.has y.1 (hfree y hy hf)
 have sub:∀ x c,(jT X.env.cells sc.names []).lookup x=some c->X.env.cells.lookup x=some c:=jBB sc.names [] hcl (fun x c e=>by cases e)
 have clt:∀ x c,(jT X.env.cells sc.names []).lookup x=some c->c<s.heap.objs.size:=fun x c e=>by
  obtain⟨v,o,ho,_⟩:=I.cell x c (sub x c e)
  exact ay ho
 have way:∀ x c,(cellsFrom (s.heap.objs.size+1) sc.names (jT X.env.cells sc.names [])).lookup x=some c->(jT X.env.cells sc.names []).lookup x=some c\/s.heap.objs.size+1<=c:=fun x c e=>(jMT _ _ _ e).imp id fun q=>q.1
 have old:∀ b o,s.heap.get? b=some o->(pushCells (s.heap.push { cls:= .type "dict",data:= .dict #[]}) sc.names).get? b=some o:=fun b o e=>ir _ _ b o (ab _ e)
 have hns:(pushCells (s.heap.push { cls:= .type "dict",data:= .dict #[]}) sc.names).Ns s.heap.objs.size (fun _=>none):=(Heap.Ns.new s.heap (.type "dict")).keeps (ir _ _)
 refine⟨⟨I.ok.mod,hkind,I.ok.glob,I.ok.blt,ak _,jMV _ _ _ (fun x y c h1 h2=>I.ok.inj x y c (sub x c h1) (sub y c h2)) (fun x c e=>bJ (clt x c e)),fun x hx=>?_,fun x c hf e=>?_,I.ok.hd,I.ok.frames, .inl rfl,fun b hb=>?_,I.bs,bv I.ok.bsz I.sz,fun b o e hb=>?_,fun b hb hz=>?_,I.stack,I.stkFree⟩,
  rfl,I.bare,Un.kept old,⟨_,hns,fun k x v e1 e2 e3=>?_⟩,fun x c e=>?_,I.hok.fresh (ak _),fun x c e=>?_,fun p hp=>absurd (show p∈([]:List (Addr×Obj)) from hp) (by simp),I.hok.kept old,?_⟩
 ·have q:(x,NameKind.cell)∈sc.names\/(x,NameKind.free)∈sc.names:=by
   rcases hx with h | h
   ·exact jDO (.inl rfl) h
   ·exact jDO (.inr rfl) h
  exact jMW _ _ _ (q.imp id fun q=>jAI sc.names [] (.inl q))
 ·have hf:(sc.names.lookup x==some NameKind.cell)=true:=hf
  have:=jMU (n0:=s.heap.objs.size+1) _ _ _ (ak _) (.inl (jA6 (eq_of_beq hf))) e
  exact Nat.le_of_succ_le this
 ·obtain⟨f0,f1,f2,f3,f4,f5⟩:=hfp b hb
  refine⟨aS (hlt b hb),fun x c e=>?_⟩
  rcases way x c e with q | q
  ·exact f4 x c (sub x c q)
  ·exact cV (aV (hlt b hb) (Nat.le_of_succ_le q))
 ·obtain⟨f0,f1,f2,f3,f4,f5⟩:=hfp b hb
  rcases f3 with q | q
  ·exact I.ok.noex b o e q
  ·exact absurd (aV (ay (I.ok.bs b o e).1) q) (cw _)
 ·obtain⟨f0,f1,f2,f3,f4,f5⟩:=hfp b hb
  rcases aB.mp (I.stkSub b hz) with q | q
  ·exact f1 q
  ·exact f2 q
 ·have e2':∃ i,m[k]?=some (some i)/\σ[i]?=some (some v):=by
   unfold blkσ at e2
   rw[aI] at e2
   cases q:m[k]? with
   | none=>rw[q] at e2; cases e2
   | some o=>
    rw[q] at e2
    cases o with
    | none=>cases e2
    | some i=>
     refine⟨i,rfl,?_⟩
     have e2:(σ[i]?).getD none=some v:=aU e2
     cases r:σ[i]? with
     | none=>rw[r] at e2; cases e2
     | some z=>rw[r] at e2; exact bN some e2
  obtain⟨i,q1,q2⟩:=e2'
  obtain⟨x',a1,a2,a3⟩:=hm.2 k i q1
  have e1':Nc[k]?=some x:=e1
  rw[e1'] at a1
  cases a1
  have vis:=hfree (x, .free) (jA6 a3) rfl
  obtain⟨m0,hn0,hl0⟩:=I.loc
  obtain⟨u,r,l⟩:=hl0 i x v a2 q2 (.inr vis)
  refine⟨u,r, .inr ⟨jAH a3,?_⟩⟩
  obtain⟨c,hc⟩:=jAI (cells:=X.env.cells) (x:=x) sc.names [] (.inl (jA6 a3))
  rcases l with ⟨lk,_⟩ | ⟨_,c',hc',o,ho,hd⟩
  ·have lk':X.env.scope.names.lookup x=some .local:=lk
   rcases vis with z | z
   ·rw[lk'] at z; cases z
   ·rw[lk'] at z; cases z
  ·have:=sub x c hc
   rw[hc'] at this
   cases this
   exact⟨c,(jHY _ _ _ (hdis x a3)).trans hc,o,old _ _ ho,hd⟩
 ·have e':(cellsFrom (s.heap.push { cls:= .type "dict",data:= .dict #[]}).objs.size sc.names (jT X.env.cells sc.names [])).lookup x=some c:=by
   rw[show (s.heap.push { cls:= .type "dict",data:= .dict #[]}).objs.size=s.heap.objs.size+1 from bK _ _]
   exact e
  refine jHZ _ _ _ (fun x c q=>?_) x c e'
  obtain⟨v,o,ho,hd⟩:=I.cell x c (sub x c q)
  exact⟨v,o,ab _ ho,hd⟩
 ·rcases way x c e with q | q
  ·exact I.freeC x c (sub x c q)
  ·exact I.hok.fresh (by omega)
 ·show (blkσ m σ).length=Nc.length
  unfold blkσ
  rw[ae]
  exact hm.1
theorem jNR (hc:X.calm=true)(hi:PI X tg iter wi)(hkind:sc.kind= .function)(hdis:∀ x,sc.names.lookup x=some .free->(x,NameKind.cell)∉sc.names)(hnames:∀ y∈sc.names,y.2= .local->sc.names.lookup y.1=some .local)
  (hfree:∀ y∈sc.names,y.2= .free->X.env.scope.names.lookup y.1=some .cell\/X.env.scope.names.lookup y.1=some .free) (hm:qH X sc Nc m)
  (hg:∀ cl C fp s H,PG (blkC X sc cl C Nc fp s H) tg g) (ht:∀ cl C fp s H,PTs (blkC X sc cl C Nc fp s H) ifs tt) (he:∀ cl C fp s H,PE (blkC X sc cl C Nc fp s H) elt te)
  (hs:∀ x,foldedSetIterable iter X.env x=pure x:=by intro _; rfl):PE X (.ListComp elt [⟨tg,iter,ifs,0⟩] sc pos) (tComp m wi g tt te):=by
 intro pins s σ H Q I h
 rw[eval_ListComp]
 have hcl:∀ y∈sc.names,y.2= .free->∃ c,X.env.cells.lookup y.1=some c:=fun y hy hf=>I.ok.has y.1 (hfree y hy hf)
 refine gP (use:=none) rfl hs (jHX hcl) hkind hnames (thn (hi pins s σ H _ I h) fun v s1 h1=>thn h1 fun itv s2 h2=>?_)
 obtain⟨it,fp,tn,J,H2,e,I2,T,st2,f2,hQ⟩:=h2
 subst e
 have hlt:∀ b∈fp,b<s2.heap.objs.size:=fun b hb=>by
  obtain⟨o,e,_⟩:=T.obj 0 _ st2 b hb
  exact ay e
 refine bI (jHG ?_)
 have I3:Inv X pins σ (upd H2 s2.heap.objs.size (.lst [])) { s2 with heap:=s2.heap.push { cls:= .type "list",data:= .seq ([]:List Value).toArray}} :=I2.lnew (t':=s2.toks) .nil (bb _)
 obtain⟨W,⟨n0,w0⟩,turn⟩:=hQ s2.heap.objs.size I2.fresh
 have hD3:∀ b∈fp,b≠s2.heap.objs.size:=fun b hb=>aS (hlt b hb)
 have f3:∀ b∈fp,FpOk X pins (upd H2 s2.heap.objs.size (.lst [])) b:=fun b hb=>by
  obtain⟨a0,a1⟩:=f2 b hb
  exact⟨by rw[j9 (hD3 b hb)]; exact a0,a1⟩
 generalize hE:({ s2 with heap:=s2.heap.push { cls:= .type "list",data:= .seq ([]:List Value).toArray}} :Shared)=s3 at I3 ⊢
 generalize hH3:upd H2 s2.heap.objs.size (.lst [])=H3 at I3 f3 w0
 have hsz3:s3.heap.objs.size=s2.heap.objs.size+1:=by rw[<- hE]; exact bK _ _
 have I4:=jK4 (fp:=fp) I3 hkind hdis hfree hm f3 (fun b hb=>show b<s3.heap.objs.size by rw[hsz3]; exact bJ (hlt b hb))
 have old:∀ b o,s3.heap.get? b=some o->(pushCells (s3.heap.push { cls:= .type "dict",data:= .dict #[]}) sc.names).get? b=some o:=fun b o e=>ir _ _ b o (ab _ e)
 have old2:∀ b o,s2.heap.get? b=some o->(pushCells (s3.heap.push { cls:= .type "dict",data:= .dict #[]}) sc.names).get? b=some o:=fun b o e=>old b o (by rw[<- hE]; exact ab _ e)
 have st4:tn 0 (pushCells (s3.heap.push { cls:= .type "dict",data:= .dict #[]}) sc.names):=T.keep _ _ _ st2 fun b hb o e=>old2 b o e
 clear old old2
 generalize hcs:cellsFrom (s3.heap.objs.size+1) sc.names (jT X.env.cells sc.names [])=cs at I4 ⊢
 generalize hh1:pushCells (s3.heap.push { cls:= .type "dict",data:= .dict #[]}) sc.names=h₁ at I4 st4 ⊢
 have loop:codeAny (model X.prog X.w) X.A (.compLoop (.ListComp elt [⟨tg,iter,ifs,0⟩] sc pos) 0 (.ref it) (.ref s2.heap.objs.size) (compEnvC sc cs s3.heap.objs.size X.env))
   (compPost (model X.prog X.w) X.A X.xe none (EP X pins σ Q) (.ref s2.heap.objs.size) s3.heap.objs.size) { s3 with heap:=h₁} :=by
  generalize hX:blkC X sc cs s3.heap.objs.size Nc fp s3 H3=Xb at I4
  have eP:Xb.prog=X.prog:=by rw[<- hX]; rfl
  have ew:Xb.w=X.w:=by rw[<- hX]; rfl
  have eK:Xb.K=X.K:=by rw[<- hX]; rfl
  have eA:Xb.A=X.A:=by rw[<- hX]; rfl
  have ec:Xb.calm=true:=by rw[<- hX]; exact hc
  have ee:Xb.env=compEnvC sc cs s3.heap.objs.size X.env:=by rw[<- hX]; rfl
  have ex:Xb.xe=fun _ _=>False:=by rw[<- hX]; rfl
  have hgb:PG Xb tg g:=by rw[<- hX]; exact hg _ _ _ _ _
  have htb:PTs Xb ifs tt:=by rw[<- hX]; exact ht _ _ _ _ _
  have heb:PE Xb elt te:=by rw[<- hX]; exact he _ _ _ _ _
  have stat:∀ {H':Hp},(∀ b∈fp,H' b=none)->∀ b∈fp,FpOk Xb [] H' b:=fun {H'} hn b hb=>by
   obtain⟨o,eo,_⟩:=T.obj _ _ st4 b hb
   have q:=I4.ok.exf b (by rw[<- hX]; exact hb)
   exact⟨hn b hb,q.1,I4.ok.exfs b (by rw[<- hX]; exact hb), .inl (by rw[<- hX]; exact hb),q.2,fun p hp=>absurd hp (by rw[<- hX]; simp [blkC])⟩
  have fr4:∀ b∈fp,H3 b=none:=fun b hb=>(f3 b hb).1
  unfold PG at hgb
  unfold PTs at htb
  unfold PE at heb
  rw[eP,ew,eA,ee,ex] at hgb htb heb
  refine jEP (fun n z=>∃ i σ' H' ys,Inv Xb [] σ' H' z/\tn i z.heap/\(∀ b∈fp,H' b=none)/\W i n σ' H' ys) ?_ n0 ⟨0,_,H3,[],I4,st4,fr4,w0⟩
  rintro n z ⟨i,σ5,H5,ys,I5,st5,fr5,w5⟩
  obtain⟨hD,hlen,way⟩:=turn i n σ5 H5 ys w5
  rcases way with ⟨stop,q⟩ | ⟨go,N,hN,step⟩
  ·have R:=T.done Xb eP ew eK ec i [] z σ5 H5 (fun _ _=>False) I5 (stat fr5) st5 stop
   rw[eA] at R
   refine thn R fun r z1 ⟨hr,I6⟩=>?_
   subst hr
   obtain⟨mm,hn6,_⟩:=I6.loc
   rw[ee] at hn6
   refine⟨mm,hn6,fun h' sb=>?_⟩
   have u6:Un (frs X.stack) fp H3 H5 s3.heap z1.heap:=by
    have:=I6.base
    rw[<- hX] at this
    exact this
   have fC:H5 s3.heap.objs.size=none:=by
    have:=I6.free
    rw[ee] at this
    exact this
   have hok6:HOk X.prog X.w H5 z1.heap:=by
    have:=I6.hok
    rw[eP,ew] at this
    exact this
   have os6:z1.os=s3.os:=by
    have:=I6.os
    rw[<- hX] at this
    exact this
   refine⟨.ref s2.heap.objs.size,H5,I3.call' (s':= { z1 with heap:=h'}) (ch:=fp) os6 (u6.sameBut sb (ak _)) (hok6.sameBut sb fC) I6.bare (fun b hb=>?_),rfl,q⟩
   obtain⟨a0,a1,a2,a3,a4,a5⟩:=f3 b hb
   exact⟨a3,a1,a4,a5⟩
  ·have R:=T.item Xb eP ew eK ec i [] z σ5 H5 (fun _ _=>False) I5 (stat fr5) st5 go
   rw[eA] at R
   refine thn R fun r z1 ⟨u,hr,h6⟩=>?_
   subst hr
   refine thn h6 fun _ z2 ⟨x,H7,I7,r7,y7,st7,fr7⟩=>?_
   have I7':=I7.pinned (stat fr7) (T.obj _ _ st7)
   refine thn (hgb _ z2 σ5 H7 x u _ I7' r7 (step x H7 y7)) fun _ z3 ⟨σ8,H8,I8,q8⟩=>?_
   refine thn (htb _ z3 σ8 H8 _ I8 q8) fun ok z4 ⟨H9,I9,q9⟩=>?_
   have again:∀ {σ7:St}{Hz:Hp}{zz:Shared}{yy:List V}{n':Nat},Inv Xb ([]++jEJ fp z2.heap) σ7 Hz zz->n'<n->W (i+1) n' σ7 Hz yy->∃ k,k<n/\∃ i σ' H' ys,Inv Xb [] σ' H' zz/\tn i zz.heap/\(∀ b∈fp,H' b=none)/\W i k σ' H' ys:=fun {σ7 Hz zz yy n'} Iz hn wz=>by
    refine⟨n',hn,i+1,σ7,Hz,yy,Iz.unpinned,T.keep _ _ _ st7 fun b hb o e=>(Iz.pin (b,o) (aH _ (aH _ (jAF hb e)))).1,fun b hb=>?_,wz⟩
    obtain⟨o,e,d⟩:=T.obj _ _ st7 b hb
    exact(Iz.pin (b,o) (aH _ (aH _ (jAF hb e)))).2.1
   cases ok with
   | false=>
    obtain⟨n',hn,w9⟩:=hN _ _ _ (show N σ8 H9 ys from q9)
    exact again I9 hn w9
   | true=>
    refine thn (heb _ z4 σ8 H9 _ I9 q9) fun xv z5 ⟨vv,H10,I10,r10,hD10,n10⟩=>?_
    obtain⟨n',hn,w10⟩:=hN _ _ _ n10
    have R:=jB1 (X:=Xb) _ z5 σ8 H10 (.ref s2.heap.objs.size) [vv] (.ref s2.heap.objs.size) [xv] (fun _ H'=>H'=upd H10 s2.heap.objs.size (.lst (ys++[vv]))) I10 rfl (.cons r10 .nil) ⟨_,ys,vv,rfl,rfl,hD10,hlen,rfl⟩
    rw[eP,ew,eA,ex] at R
    refine thn R fun _ z6 ⟨_,H11,I11,_,e11⟩=>?_
    subst e11
    exact again I11 hn w10
 exact codeAny_compStart_list loop (T.self _ 0 _ _ _ st4 loop)
theorem jUD (h:(sc.names.all fun y=>decide (y.2= .cell->sc.names.lookup y.1=some .cell))=true):∀ x,sc.names.lookup x=some .free->(x,NameKind.cell)∉sc.names:=fun x hx hm=>by
 have:=aJ (bi.mp h _ hm) rfl
 rw[hx] at this
 cases this
theorem jOB (hc:X.calm=true)(hi:JI X tg iter wi)(hkind:sc.kind= .function)(hdis:(sc.names.all fun y=>decide (y.2= .cell->sc.names.lookup y.1=some .cell))=true)(hnames:∀ y∈sc.names,y.2= .local->sc.names.lookup y.1=some .local)
  (hfree:∀ y∈sc.names,y.2= .free->X.env.scope.names.lookup y.1=some .cell\/X.env.scope.names.lookup y.1=some .free) (hm:qH X sc Nc m)
  (hg:∀ cl C fp s H,JG (blkC X sc cl C Nc fp s H) tg g) (ht:∀ cl C fp s H,JTs (blkC X sc cl C Nc fp s H) ifs tt) (he:∀ cl C fp s H,JE (blkC X sc cl C Nc fp s H) elt te)
  (hs:FoOk iter):JE X (.ListComp elt [⟨tg,iter,ifs,0⟩] sc pos) (tComp m wi g tt te):=⟨jNR hc hi.h hkind (jUD hdis) hnames hfree hm (fun cl C fp s H=>(hg cl C fp s H).h) (fun cl C fp s H=>(ht cl C fp s H).h) (fun cl C fp s H=>(he cl C fp s H).h) (hs.h _)⟩
end
section
variable {X:Cx}{sc:Scope}{cl:List (Str×Addr)}{C:Addr}{Nc:List Str}{fp:List Addr}{s:Shared}{H:Hp}{x:Str}
theorem jPY (h:sc.names.lookup x=some .free):Vis1 (blkC X sc cl C Nc fp s H) x:=⟨.inr (jAH h)⟩
theorem jRL (h:sc.names.lookup x=some .cell):Loc1 (blkC X sc cl C Nc fp s H) x:=⟨.inr (jA7 (by decide) h), .inl (by show (sc.names.lookup x==some NameKind.cell)=true; rw[h]; rfl)⟩
theorem jOI {sc2:Scope}(h:(sc2.names.all fun y=>decide (y.2= .free->sc.names.lookup y.1=some .cell\/sc.names.lookup y.1=some .free))=true):
  ∀ y∈sc2.names,y.2= .free->(blkC X sc cl C Nc fp s H).env.scope.names.lookup y.1=some .cell\/(blkC X sc cl C Nc fp s H).env.scope.names.lookup y.1=some .free:=fun y hy hf=>by
 rcases aJ (bi.mp h y hy) hf with q | q
 ·exact .inl (jA7 (by decide) q)
 ·exact jAH q
theorem jJW:IxR (blkC X sc cl C Nc fp s H) (rIxL X.K):=yK
theorem jLU {tg a:Expr}{ta:TE}(hl:JE (blkC X sc cl C Nc fp s H) a ta):JI (blkC X sc cl C Nc fp s H) tg a (iTup X.K ta):=jD0 hl
variable {sc2:Scope}{cl2:List (Str×Addr)}{C2:Addr}{Nc2:List Str}{fp2:List Addr}{s2:Shared}{H2:Hp}
theorem jNT:OpR (blk (blkC X sc cl C Nc fp s H) sc2 cl2 C2 Nc2 fp2 s2 H2) (compareOp .In) (rIn X.K false):=jG7
theorem jE1:IxR (blk (blkC X sc cl C Nc fp s H) sc2 cl2 C2 Nc2 fp2 s2 H2) (rIxT X.K):=kQ
end
section
variable {X:Cx}
def jNI:V->List V->Hp->VK->Prop:=fun x vs H Q=>∃ l b xs zs,x= .ref l/\vs=[.ref b]/\H l=some (.lst xs)/\H b=some (.tup zs)/\xs.length+zs.length<=sizeLine/\Q .non (upd H l (.lst (xs++zs)))
theorem jJM:MtM X "list.extend" jNI:=by
 intro pins s σ H x vs v us Q I rx rv h
 obtain⟨l,b,xs,zs,rfl,rfl,hH,hB,hz,q⟩:=h
 cases rx
 obtain⟨u,rfl,ru⟩:=rv.one
 cases ru
 obtain⟨z,its,n,r,hl,e⟩:=I.lstM hH
 obtain⟨_,its2,r2,n2,e2⟩:=I.hok b _ hB
 have hl2:=r2.length
 have hsz:its.toArray.size+its2.toArray.size<=sizeLine:=by rw[aq,aq]; omega
 have hlong:¬ (!its.toArray.isEmpty&&Builtin.List.listTooLong (its.toArray.size+its2.toArray.size))=true:=by
  rw[jIN hsz,dv]
  exact ah
 refine eS F.slot_list_extend ⟨_,e,rfl⟩ F.entry_list_extend (F.args_list_extend_2 _ _)
  (AutoSeq1.list_extend_list_tuple_0 l its.toArray n b its2.toArray n2 hlong (by rw[aq]; omega) (by omega)) ⟨e,e2,?_⟩
 refine⟨.non,_,I.lset (its':=its++its2) hH e (by simp) (r.append r2) ?_,rfl,q⟩
 rw[aE]
 omega
def jQB:V->List V->Hp->VK->Prop:=fun x vs H Q=>∃ p xs y,x= .ref p/\vs=[y]/\H p=some (.lst xs)/\qO y=true/\xs.all qO=true/\Q (.int ((xs.countP fun z=>eqV z y:Nat):Int)) H
theorem jG9:MtM X "list.count" jQB:=by
 intro pins s σ H x vs v us Q I rx rv h
 obtain⟨p,xs,y,rfl,rfl,hp,fy,fs,q⟩:=h
 cases rx
 obtain⟨u,rfl,ru⟩:=rv.one
 obtain⟨z,its,n,r,hl,e0⟩:=I.lstM hp
 refine eS F.slot_list_count ⟨_,e0,rfl⟩ F.entry_list_count (F.args_list_count_2 _ _) (SeqAt.list_countAt p its.toArray n none #[] u (eqU y)) ⟨e0,fun w hw=>jB8 ru fy r fs w (by simpa using hw),?_⟩
 refine⟨.int _,H,I.tok _,⟨s.toks,rfl⟩,?_⟩
 rw[show its.toArray.toList.countP (eqU y)=xs.countP (fun z=>eqV z y) from jEO r fs]
 exact q
theorem jGM:yO X (.builtin "sorted") (fun xs H Q=>∃ (p:Addr) (ks:List Int),xs=[.ref p]/\SqL X.K H p (ks.map V.int)/\ks.length<64/\
  ∀ (l:Addr) (ns:List Int),H l=none->ns.Pairwise (· <= ·)->ns.Perm ks->Q (.ref l) (upd H l (.lst (ns.map V.int)))):=by
 intro pins s σ H xs us Q I r h
 obtain⟨p,ks,rfl,hp,hn,q⟩:=h
 obtain⟨u,rfl,rx⟩:=r.one
 cases rx
 obtain⟨its,r',pl,hz⟩:=I.list hp
 have hlen:=r'.length
 rw[ae] at hlen
 refine sorted_ints pl.isList (jCS r') (by omega) fun out ns' a1 a2 a3=>?_
 obtain⟨e,he⟩:=sortedAll_at s.heap its out
 have hz:(ns'.map V.int).length<=sizeLine:=by
  rw[ae,a2.length_eq,dE]
  omega
 have I2:Inv X pins σ (upd H (s.heap.objs.size+1) (.lst (ns'.map V.int))) { s with heap:=sortedAll s.heap its out} :=I.laid (t':=s.toks) (fun b o e=>sortedAll_old e) (iF _) ⟨hz,out.toList,e,jAA a1,by rw[cW]; exact he⟩
 exact⟨.ref _,_,I2,rfl,q _ ns' (I.hok.fresh (iF _)) a3 a2⟩
theorem jIT {c:Expr}{body:List Stmt}{tc:TT}{tb:TS}{pos:Pos}(hp:PassesOwn (model X.prog X.w) X.A X.env X.xe)(hc:JT X c tc)(hb:JSs X body tb):JS X (.While c body [] pos) (jP0 tc tb):=⟨jNK hp hc.h hb.h⟩
theorem jG8 {op:CmpOp}{a b:Expr}{pos:Pos} :behindInMarks op (.Subscript a b pos)=false:=by cases op <;> rfl
end
section
variable {X:Cx}{sc:Scope}{cl:List (Str×Addr)}{C:Addr}{Nc:List Str}{fp:List Addr}{s:Shared}{H:Hp}
theorem jM0 {o e:Expr}{es:List Expr}{to:TE}{t:TA}{cpos apos:Pos}{id:String}{T:String}{name:Str}{r}(pa:PlainAttrs T)(slot:Slot T name id)(hty:typeOf (.builtin id)=pure (.type "method_descriptor"))(hm:MtR (blk X sc cl C Nc fp s H) id r)(ho:JE (blk X sc cl C Nc fp s H) o to)(ha:JA (blk X sc cl C Nc fp s H) (e::es) t)
  (hs:starEach (e::es) (blk X sc cl C Nc fp s H).env=(false,eval e (blk X sc cl C Nc fp s H).env)::starEach es (blk X sc cl C Nc fp s H).env)
  (hbase:attributeBase o name (blk X sc cl C Nc fp s H).env (eval o (blk X sc cl C Nc fp s H).env)=eval o (blk X sc cl C Nc fp s H).env:=by rfl)
  (hfew:((backTo cpos (starEach (e::es) (blk X sc cl C Nc fp s H).env)).all (fun x=>!x.1)&&(backToKw cpos (keywordEach [] (blk X sc cl C Nc fp s H).env)).all (fun x=>x.1.isSome)
   &&decide ((e::es).length+([]:List Keyword).length+(if ([]:List Keyword).isEmpty then 0 else 1)<30))=true:=by rfl)
  (hline:(apos.endLine==cpos.line)=true:=by rfl) (hplain:(backTo cpos (starEach es (blk X sc cl C Nc fp s H).env)).any (·.1)=false:=by rfl):
  JE (blk X sc cl C Nc fp s H) (.Call (.Attribute o name apos) (e::es) [] cpos) (tBM X.K T r to t):=je_bm pa slot hty hm ho ha hs hbase hfew hline hplain
end
end L2
end
section
namespace L2
open PySem
def LstR (H:Hp)(xs:List V)(Q:VK):Prop:=∀ r H',H' r=some (.lst xs)->Ext H H'->H r=none->Q (.ref r) H'
theorem LstR.new {H:Hp}{xs:List V}{Q:VK}(q:LstR H xs Q){p:Addr}(hp:H p=none):Q (.ref p) (upd H p (.lst xs)):=q p _ j6 ((Ext.refl H).new hp _) hp
def tTupU (t:TA):TE:=fun σ H Q=>t σ H fun xs H1=>xs.length<=sizeLine/\TupR H1 xs Q
def tLstU (t:TA):TE:=fun σ H Q=>t σ H fun xs H1=>xs.length<=sizeLine/\LstR H1 xs Q
section
variable {X:Cx}{es:List Expr}{t:TA}{pos:Pos}
theorem jHN {x1}(h:JA X es t):JE X (.Tuple es x1 pos) (tTupU t):=⟨fun pins s σ H Q I hq=>by
 refine wpAny_Tuple_spliced (thn (h.h pos pins s σ H _ I hq) fun us s1 ⟨xs,H1,I1,r,z,q⟩=>⟨by rw[<- r.length]; exact z,?_⟩)
 have hf:H1 s1.heap.objs.size=none:=I1.hok.fresh (ak _)
 exact⟨.ref s1.heap.objs.size,upd H1 s1.heap.objs.size (.tup xs),I1.laid (t':=s1.toks) (fun b u e=>ab _ e) (ak _) ⟨z,us,r,TupO.new _ _⟩,rfl,q.new hf⟩⟩
theorem yR (h:JA X es t):JE X (.List es pos) (tLstU t):=⟨fun pins s σ H Q I hq=>by
 refine wpAny_List_spliced (thn (h.h pos pins s σ H _ I hq) fun us s1 ⟨xs,H1,I1,r,z,q⟩=>⟨by rw[<- r.length]; exact z,?_⟩)
 have hf:H1 s1.heap.objs.size=none:=I1.hok.fresh (ak _)
 exact⟨.ref s1.heap.objs.size,upd H1 s1.heap.objs.size (.lst xs),I1.laid (t':=s1.toks) (fun b u e=>ab _ e) (ak _) ⟨z,us,0,r,az _ rfl⟩,rfl,q.new hf⟩⟩
theorem jNU:OpR X (binaryOp .Add) (fun x y H Q=>∃ l b xs zs,x= .ref l/\y= .ref b/\H l=some (.lst xs)/\H b=some (.lst zs)/\xs.length+zs.length<=sizeLine/\LstR H (xs++zs) Q):=by
 intro pins s σ H x y v u Q I rx ry h
 obtain⟨l,b,xs,zs,rfl,rfl,h1,h2,h3,q⟩:=h
 exact jTJ pins s σ H _ _ v u Q I rx ry ⟨l,b,xs,zs,rfl,rfl,h1,h2,h3,fun p hp=>q.new hp⟩
end
end L2
end
section
namespace L2
open PySem PySem.Spec PyProof.Rows
section
variable {X:Cx}
theorem jU3 {o i:Expr}{pos:Pos}{to ti:TE}{t:TSet}(ho:JE X o to)(hi:JE X i ti)(hs:PSet X t)
  (ha:∀ v,assign (.Subscript o i pos) X.env v=(do
   let ov <- holding [v] (eval o X.env)
   let iv <- holding [v,ov] (eval i X.env)
   standAt pos
   holding [v,ov,iv] (setItem ov iv v)
   release [v,ov,iv] []):=by intro _; rfl):JG X (.Subscript o i pos) (gSub to ti t):=⟨jP8 ho.h hi.h hs ha⟩
end
theorem jDQ (ns:List Int):∀ j,preSum (fun i=>ns.getD i 0) j=(ns.take j).sum
 | 0=>rfl
 | j+1=>by
  rw[preSum,jDQ ns j,bh,List.sum_append]
  congr 1
  rw[aA]
  cases ns[j]? with
  | none=>rfl
  | some z=>simp
section
variable {X:Cx}
def rSum (K:W.Frag):List V->Hp->VK->Prop:=fun xs H Q=>∃ (p:Addr) (ns:List Int),xs=[.ref p]/\(SqL K H p (ns.map V.int))/\Q (.int ns.sum) H
theorem jGK (hc:X.calm=true):yO X (.builtin "sum") (rSum X.K):=by
 intro pins s σ H xs us Q I r h
 obtain⟨p,ns,rfl,hq,q⟩:=h
 obtain⟨u,rfl,rx⟩:=r.one
 cases rx
 obtain⟨its,r',pl,hz⟩:=I.list hq
 have hlen:=r'.length
 rw[ae] at hlen
 refine call_sum_walkG (dS pl.isList ?_)
 have hne:p≠s.heap.objs.size:=by
  obtain⟨o,ho,_⟩:=pl.isList
  exact aS (ay ho)
 refine⟨s.heap.objs.size,_,_,_,_,_,fun i=>ns.getD i 0,rfl,Walks.list (by simpa using I.ok.hd hc) _ p hne its.toArray,⟨⟨_,az _ rfl,rfl,rfl⟩,pl.isList.push _⟩,(fun b hb=>?_),(fun i v hP=>?_),fun h' tk t' hk=>?_⟩
 ·show b<(s.heap.push _).objs.size
  rw[bK]
  obtain⟨o,ho,_⟩:=pl.isList
  have:=ay ho
  rcases aB.mp hb with rfl | hb
  ·exact gZ _
  ·rcases aB.mp hb with rfl | hb
   ·exact bJ this
   ·cases hb
 ·have hi:its[i]?=some v:=by simpa using hP
  have hb:i<ns.length:=by
   rw[hlen]
   exact(ag.mp hi).1
  obtain⟨u,hu,ru⟩:=r'.get (i:=i) (x:= .int (ns[i])) (by simp [hb])
  rw[hi] at hu
  cases hu
  obtain⟨t,rfl⟩:=ru
  exact⟨t,by simp [List.getD,hb]⟩
 ·have e:preSum (fun i=>ns.getD i 0) its.toArray.size=ns.sum:=by
   rw[jDQ,aq,<- hlen,bw]
  rw[e]
  exact⟨.int _,H,I.kept (t':=tk) fun b o e=>hk b o (by
   intro z
   have z:b=s.heap.objs.size:=by simpa using z
   exact absurd (ay e) (by rw[z]; exact cw _)) (ab _ e),⟨_,rfl⟩,q⟩
variable {sc:Scope}{cl:List (Str×Addr)}{C:Addr}{Nc:List Str}{fp:List Addr}{s:Shared}{H:Hp}
end
theorem jCR (a b:Nat):Builtin.bitAnd (a:Int) (b:Int)=((a&&&b:Nat):Int):=by
 unfold Builtin.bitAnd
 rw[am (eR a),am (eR b)]
 rfl
theorem jAK (a b:Nat):Builtin.bitOr (a:Int) (b:Int)=((a|||b:Nat):Int):=by
 unfold Builtin.bitOr
 have ha:Builtin.bitNot (a:Int)= -(a:Int) - 1:=by unfold Builtin.bitNot; omega
 have hb:Builtin.bitNot (b:Int)= -(b:Int) - 1:=by unfold Builtin.bitNot; omega
 have na:¬ (0<=Builtin.bitNot (a:Int)):=by rw[ha]; omega
 have nb:¬ (0<=Builtin.bitNot (b:Int)):=by rw[hb]; omega
 unfold Builtin.bitAnd
 rw[aL na,aL nb]
 have ea:Builtin.bitNot (Builtin.bitNot (a:Int))=(a:Int):=by rw[ha]; unfold Builtin.bitNot; omega
 have eb:Builtin.bitNot (Builtin.bitNot (b:Int))=(b:Int):=by rw[hb]; unfold Builtin.bitNot; omega
 show Builtin.bitNot (Builtin.bitNot _)=_
 rw[ea,eb]
 unfold Builtin.bitNot
 simp
 omega
def maskN (ts:List Int):Nat:=(ts.map fun t=>2 ^ t.toNat).sum
theorem jIR:∀ (ts:List Int) (lo:Nat),ts.Pairwise (· < ·)->(∀ t∈ts,(lo:Int)<=t)->maskN ts % 2 ^ lo=0
 | [],_,_,_=>by simp [maskN]
 | t::r,lo,hp,hl=>by
  have ih:=jIR r lo (cU.mp hp).2 fun x hx=>hl x (ar _ hx)
  have h0:=hl t (aw ..)
  have e:maskN (t::r)=2 ^ t.toNat+maskN r:=by simp [maskN]
  have d:2 ^ t.toNat % 2 ^ lo=0:=Nat.mod_eq_zero_of_dvd (Nat.pow_dvd_pow 2 (by omega))
  rw[e,Nat.add_mod,ih,d]
  simp
theorem jBZ:∀ (ts:List Int) (n:Nat),ts.Pairwise (· < ·)->(∀ t∈ts,0<=t)->(maskN ts).testBit n=decide ((n:Int)∈ts)
 | [],n,_,_=>by simp [maskN]
 | t::r,n,hp,h0=>by
  obtain⟨h1,h2⟩:=cU.mp hp
  have ih:=jBZ r n h2 fun x hx=>h0 x (ar _ hx)
  have ht:=h0 t (aw ..)
  obtain⟨k,rfl⟩:∃ k:Nat,t=(k:Int):=⟨t.toNat,by omega⟩
  have e:maskN ((k:Int)::r)=2 ^ k+maskN r:=by simp [maskN]
  have m0:maskN r % 2 ^ (k+1)=0:=jIR r (k+1) h2 fun x hx=>by have:=h1 x hx; omega
  obtain⟨c,hc⟩:∃ c,maskN r=2 ^ (k+1)*c:=(Nat.dvd_of_mod_eq_zero m0)
  have hor:2 ^ k+maskN r=maskN r|||2 ^ k:=by
   rw[hc,i8,<- Nat.shiftLeft_eq,Nat.shiftLeft_add_eq_or_of_lt (b:=2 ^ k) (i:=k+1) (iM (by decide) (by omega)) c |>.symm,gk]
  rw[e,hor,bP,ih,dH]
  by_cases hk:k=n
  ·subst hk
   simp
  ·have:¬ ((n:Int)=(k:Int)):=by omega
   simp [hk,this]
end L2
end
section
namespace L2
open PySem
section
variable {X:Cx}{tg iter elt:Expr}{ifs:List Expr}{sc:Scope}{pos:Pos}{wi:TI}{g:TG}{tt:TT}{te:TE}{m:List (Option Nat)}{Nc:List Str}
theorem jOP (hc:X.calm=true)(hi:PI X tg iter wi)(hkind:sc.kind= .function)(hcell:∀ y∈sc.names,y.2≠ .cell)(hnames:∀ y∈sc.names,y.2= .local->sc.names.lookup y.1=some .local)
  (hfree:∀ y∈sc.names,y.2= .free->X.env.scope.names.lookup y.1=some .cell\/X.env.scope.names.lookup y.1=some .free) (hm:qH X sc Nc m)
  (hg:∀ cl C fp s H,PG (blk X sc cl C Nc fp s H) tg g) (ht:∀ cl C fp s H,PTs (blk X sc cl C Nc fp s H) ifs tt) (he:∀ cl C fp s H,PE (blk X sc cl C Nc fp s H) elt te)
  (hs:∀ x,foldedSetIterable iter X.env x=pure x) {fpos:Pos}{use:Option (Value->Sem Unit)}{R:Value->Shared->Prop}{pins:List (Addr×Obj)}{s:Shared}{σ:St}{H:Hp}{Q:VK}(I:Inv X pins σ H s) (h:tComp m wi g tt te σ H Q)
  (fin:∀ (D C:Addr) (H5:Hp) (z1:Shared) (r:Flow),(∃ mm,z1.heap.Ns C mm)->FpOk X pins H5 C->(∀ h',Heap.SameBut C z1.heap h'->Inv X pins σ H5 { z1 with heap:=h'})->Q (.ref D) H5->compPost (model X.prog X.w) X.A X.xe use R (.ref D) C (.ok r) z1):
  wpAny (model X.prog X.w) X.A (comprehension (.ListComp elt [⟨tg,iter,ifs,0⟩] sc pos) sc X.env fpos (newList []) false (eval iter X.env) use) R X.xe s:=
 jJ7 (tf:=fun _=>te) hc hi hkind hcell hnames hfree hm hg ht (fun cl C fp s H _ _ _ _=>he cl C fp s H) hs I h fin
theorem jQH {i:Nat}{x:Str}{pos' spos:Pos}(hN:X.N.Nodup)(hi':X.N[i]?=some x)(hx:Loc X.env.scope x)(hf:X.fn x=true\/X.env.scope.names.lookup x=some .local)(hsw:swapsWith (.ListComp elt [⟨tg,iter,ifs,0⟩] sc pos) (some (.Name x pos')) spos.line X.env=pure true)
  (hc:X.calm=true) (hi:PI X tg iter wi) (hkind:sc.kind= .function) (hcell:∀ y∈sc.names,y.2≠ .cell) (hnames:∀ y∈sc.names,y.2= .local->sc.names.lookup y.1=some .local)
  (hfree:∀ y∈sc.names,y.2= .free->X.env.scope.names.lookup y.1=some .cell\/X.env.scope.names.lookup y.1=some .free) (hm:qH X sc Nc m)
  (hg:∀ cl C fp s H,PG (blk X sc cl C Nc fp s H) tg g) (ht:∀ cl C fp s H,PTs (blk X sc cl C Nc fp s H) ifs tt) (he:∀ cl C fp s H,PE (blk X sc cl C Nc fp s H) elt te)
  (hs:∀ x,foldedSetIterable iter X.env x=pure x):PS X (.Assign [.Name x pos'] (.ListComp elt [⟨tg,iter,ifs,0⟩] sc pos) spos) (tAsg (tComp m wi g tt te) (yA i)):=by
 intro pins s σ H D I h
 rw[exec_Assign_Name_used _ _ _ _ hsw]
 refine aa (gO (aa ?_))
 show wpAny _ _ (do let _ <- comprehension (.ListComp elt [⟨tg,iter,ifs,0⟩] sc pos) sc X.env _ (newList []) false (eval iter X.env) (some (assign (.Name x pos') X.env))) _ _ _
 refine aa (ck (jOP (R:=fun _ s'=>SP X pins D .next s') hc hi hkind hcell hnames hfree hm hg ht he hs ⟨I.ok,I.os,I.bare,I.base,I.loc,I.cell,I.free,I.freeC,I.pin,I.hok,I.len⟩ h ?_) (fun _ s' hq=>af (af hq)) fun _ _ e=>e)
 intro D' C H5 z1 r ⟨mm,hn⟩ fC sb q
 have I1:=sb _ (Heap.SameBut.refl C z1.heap)
 refine wpAny_assign_Name (jFS (v:= .ref D') I1 hN hi' hx rfl (fun s2 I2 ⟨a,sa,ha⟩=>?_) hf)
 obtain⟨f0,f1,f2,f3,f4,f5⟩:=fC
 have hCa:C≠a:=by
  rcases ha with rfl | ha
  ·exact f1
  ·exact(f4 _ _ ha).symm
 refine⟨mm,hn.sameBut sa hCa,fun h' sb2=>⟨_,H5,?_,q⟩⟩
 refine I2.call' (s':= { s2 with heap:=h'}) (ch:=[C]) rfl ?_ (I2.hok.sameBut sb2 f0) I2.bare (fun b hb=>?_)
 ·have ne:∀ {b:Addr},b∉ [C]->b≠C:=fun h e=>h (by rw[e]; exact aN.mpr rfl)
  refine⟨fun b o e n hf hx=>(sb2.2 b (ne hx)).trans e,fun b o e n hf hx=>⟨o.slots,(sb2.2 b (ne hx)).trans e⟩,fun b o e n hx=>n,fun b o e hx=>⟨o,(sb2.2 b (ne hx)).trans e⟩,fun b xs e=>e,fun b o u e=>e,fun b ps e=>⟨#[],by rw[Array.append_empty]; exact e⟩⟩
 ·cases aN.mp hb
  exact⟨f3,f1,f4,f5⟩
end
section
variable {X:Cx}
structure SwC (e:Expr)(x:Str)(pos' spos:Pos)(X:Cx):Prop where
 h:swapsWith e (some (.Name x pos')) spos.line X.env=pure true
theorem jRR {i:Nat}{x:Str}{pos' spos pos:Pos}{tg iter elt:Expr}{ifs:List Expr}{sc:Scope}{wi:TI}{g:TG}{tt:TT}{te:TE}{m:List (Option Nat)}{Nc:List Str}(hN:X.N.Nodup)(hi':X.N[i]?=some x)(hx:Loc1 X x)(hsw:SwC (.ListComp elt [⟨tg,iter,ifs,0⟩] sc pos) x pos' spos X)
  (hc:X.calm=true) (hi:JI X tg iter wi) (hkind:sc.kind= .function) (hcell:∀ y∈sc.names,y.2≠ .cell) (hnames:∀ y∈sc.names,y.2= .local->sc.names.lookup y.1=some .local)
  (hfree:∀ y∈sc.names,y.2= .free->X.env.scope.names.lookup y.1=some .cell\/X.env.scope.names.lookup y.1=some .free) (hm:qH X sc Nc m)
  (hg:∀ cl C fp s H,JG (blk X sc cl C Nc fp s H) tg g) (ht:∀ cl C fp s H,JTs (blk X sc cl C Nc fp s H) ifs tt) (he:∀ cl C fp s H,JE (blk X sc cl C Nc fp s H) elt te)
  (hs:FoOk iter):JS X (.Assign [.Name x pos'] (.ListComp elt [⟨tg,iter,ifs,0⟩] sc pos) spos) (tAsg (tComp m wi g tt te) (yA i)):=
 ⟨jQH hN hi' hx.a hx.b hsw.h hc hi.h hkind hcell hnames hfree hm (fun cl C fp s H=>(hg cl C fp s H).h) (fun cl C fp s H=>(ht cl C fp s H).h) (fun cl C fp s H=>(he cl C fp s H).h) (hs.h _)⟩
end
end L2
end
section
namespace L2
open PySem PySem.Spec PyProof.Rows
section
variable {prog:Program}{w:World}{A:Around}{E:Value->Shared->Prop}
end
section
variable {X:Cx}
end
section
variable {prog:Program}{w:World}{A:Around}{E:Value->Shared->Prop}{s:Shared}
end
end L2
namespace L2
open PySem PySem.Spec PyProof.Rows
section
variable {X:Cx}{x:Str}{C:Addr}{W:Hp->Prop}{e:Expr}{t:TA}{np cpos pos:Pos}
end
end L2
namespace L2
open PySem PySem.Spec PyProof.Rows
end L2
namespace L2
open PySem PySem.Spec PyProof.Rows
section
variable {M:Model}{A:Around}{E:Value->Shared->Prop}{h:Heap}{g:Array GenState}{d:Drawn}{tk:Nat}{os:OsState}
end
end L2
namespace L2
open PySem PySem.Spec PyProof.Rows
end L2
namespace L2
open PySem PySem.Spec PyProof.Rows
section
variable {X:Cx}{pins:List (Addr×Obj)}{σ:List (Option V)}{H H':Hp}{s:Shared}{h':Heap}
end
end L2
namespace L2
open PySem PySem.Spec PyProof.Rows
section
variable {X:Cx}{pins:List (Addr×Obj)}{σ:St}{H H':Hp}{s:Shared}{h2:Heap}{x C T T':Addr}
end
section
variable {X:Cx}{pins:List (Addr×Obj)}{σ:St}{H:Hp}{s:Shared}{x:Addr}
end
section
variable {M:Model}{A:Around}{E:Value->Shared->Prop}{s:Shared}{x C T:Addr}{Q:Unit->Shared->Prop}
end
section
variable {X:Cx}{y n g c:Str}{i j k:Nat}{f B C:Addr}{fd:FuncData}{ps:List Str}{sp:Sp}{e r:Expr}{es:List Expr}{t:TA}{te:Addr->TE}{yp gp cp ap np rp hp tp:Pos}
end
section
variable {prog:Program}{w:World}{A:Around}{E:Value->Shared->Prop}{s:Shared}
end
section
variable {X:Cx}{tg:Expr}
end
section
variable {X:Cx}{tg iter elt:Expr}{ifs:List Expr}{sc:Scope}{pos:Pos}{wi:TI}{g:TG}{tt:TT}{te:TE}{m:List (Option Nat)}{Nc:List Str}
end
section
variable {X:Cx}{k:Nat}{f a:Addr}{fd:FuncData}{ps:List Str}{sp:Addr->Sp}{x:Str}{p pos:Pos}{e:Expr}{es:List Expr}{t:TA}
end
section
variable {CX:CXT}{P:Program}{w:World}{K:W.Frag}{mg:Str->Option Value}{base:Heap}{N:List Str}{qual:Str}{sc:Scope}{f:Addr}{cdv:Value}{A:Around}{outer:List Env}{s:Shared}{H:Hp}{E:XK}{x:Str}
end
section
variable {X:Cx}{e:Expr}{es:List Expr}{t:TA}{a:Addr}{p pos:Pos}
end
section
variable {X:Cx}{y n g c:Str}{i j k:Nat}{f B C:Addr}{fd:FuncData}{ps:List Str}{sp:Sp}{e:Expr}{es:List Expr}{t:TA}{te t1:TEX}{yp gp cp ap np rp hp tp pos:Pos}
end
def ncP (q:Str)(c:Addr):Heap->Prop:=fun h=>h.CodeRec (.ref c) q
noncomputable abbrev onePs (pos:Pos)(c:Addr):Array Value:=#[rawInt pos.line,rawInt pos.col, .ref c]
def TabOk (H:Hp)(T:Addr)(pos:Pos)(q:Str):Prop:=H T=some (.tbl #[])\/∃ c,H T=some (.tbl (onePs pos c))/\H c=some (.ext (ncP q c))
def ExtT (T:Addr)(H H':Hp):Prop:=∀ b o,H b=some o->b≠T->H' b=some o
def BltAt (base:Heap)(mg:Str->Option Value):Prop:=∃ bm o,mg "__builtins__" =some (.ref bm)/\bm≠builtinsNs/\bm≠mainGlobals/\base.get? bm=some o/\o.cls= .type "module" /\o.dict=some builtinsNs/\o.data= .plain
theorem ncP.stay {q:Str}{c:Addr}(h1 h2:Heap)(p:ncP q c h1)(k:∀ o,h1.get? c=some o->h2.get? c=some o):ncP q c h2:=by
 obtain⟨c',o,vs,t,e,g,r⟩:=p
 cases e
 exact⟨c,o,vs,t,rfl,k _ g,r⟩
theorem ncP.is {q:Str}{c:Addr}{h:Heap}(p:ncP q c h):∃ o,h.get? c=some o:=by
 obtain⟨c',o,vs,t,e,g,r⟩:=p
 cases e
 exact⟨o,g⟩
section
variable {X:Cx}{pins:List (Addr×Obj)}{σ:St}{H:Hp}{s:Shared}
theorem Inv.laidX {h':Heap}{t':Nat}{φ:Heap->Prop}{a:Addr}(I:Inv X pins σ H s)(k:∀ b u,s.heap.get? b=some u->h'.get? b=some u)(hp:s.heap.objs.size<=a)(p:φ h')(ho:∃ o,h'.get? a=some o)(st:∀ h1 h2:Heap,φ h1->(∀ o,h1.get? a=some o->h2.get? a=some o)->φ h2):Inv X pins σ (upd H a (.ext φ)) { s with heap:=h',toks:=t'} :=
 I.laid k hp ⟨p,ho,st⟩
theorem Inv.grown {h':Heap}{t':Nat}{T c:Addr}{ps more:Array Value}{φ:Heap->Prop}(I:Inv X pins σ H s)(hT:H T=some (.tbl ps))(k:Heap.ExtBut T s.heap h')(e:h'.get? T=some { cls:= .none,data:= .fields (ps++more)})
  (hc:s.heap.objs.size<=c) (p:φ h') (ho:∃ o,h'.get? c=some o) (st:∀ h1 h2:Heap,φ h1->(∀ o,h1.get? c=some o->h2.get? c=some o)->φ h2):Inv X pins σ (upd (upd H T (.tbl (ps++more))) c (.ext φ)) { s with heap:=h',toks:=t'} :=by
 have hcn:H c=none:=I.hok.fresh hc
 have nT:∀ {b:Addr},H b=none->b≠T:=fun n z=>by rw[z,hT] at n; cases n
 have cT:T≠c:=fun z=>by rw[z,hcn] at hT; cases hT
 have nc:∀ {b:Addr}{o:Obj},s.heap.get? b=some o->b≠c:=fun q z=>absurd (ay q) (by rw[z]; exact Nat.not_lt.mpr hc)
 have mc:∀ {b:Addr}{o:HO},H b=some o->b≠c:=fun q=>jA q hcn
 refine I.un ⟨fun b o q n _ _=>k b o (nT n) q,fun b o q n _ _=>⟨o.slots,k b o (nT n) q⟩,fun b o q n _=>by rw[j9 (nc q),j9 (nT n)]; exact n,fun b o q _=>?_,fun b xs q=>?_,fun b o u q=>?_,fun b qs q=>?_⟩ fun b o q=>?_
 ·by_cases hb:b=T
  ·rw[hb]; exact⟨_,e⟩
  ·exact⟨o,k b o hb q⟩
 ·rw[j9 (mc q),j9 (fun z=>by rw[z,hT] at q; cases q)]; exact q
 ·rw[j9 (mc q),j9 (fun z=>by rw[z,hT] at q; cases q)]; exact q
 ·by_cases hb:b=T
  ·subst hb
   rw[hT] at q
   cases q
   exact⟨more,by rw[j9 cT,j6]⟩
  ·exact⟨#[],by rw[j9 (mc q),j9 hb,q]; simp⟩
 ·by_cases hb1:b=c
  ·subst hb1
   rw[j6] at q
   cases q
   exact⟨p,ho,st⟩
  rw[j9 hb1] at q
  by_cases hb:b=T
  ·subst hb
   rw[j6] at q
   cases q
   exact e
  ·rw[j9 hb] at q
   refine(I.hok b o q).stay (fun d u hd z=>k d u ?_ z) (fun d z=>?_) fun d xs z=>?_
   ·rcases hd with rfl | hd
    ·exact hb
    ·exact fun y=>by rw[y,hT] at hd; cases hd
   ·rw[j9 (mc z),j9 (fun y=>by rw[y,hT] at z; cases z)]; exact z
   ·rw[j9 (mc z),j9 (fun y=>by rw[y,hT] at z; cases z)]; exact z
end
theorem jGC {β:Type}{x:Str} :∀ {l:List (Str×β)},(∀ v,(x,v)∉l)->l.lookup x=none
 | [],_=>rfl
 | (y,v)::r,h=>by
  rw[aP,cf.mpr (fun e=>h v (by rw[e]; exact aw))]
  exact jGC fun w hw=>h w (ar _ hw)
theorem jCJ {β:Type}{x:Str} :∀ {l m:List (Str×β)},(l++m).lookup x=(l.lookup x).or (m.lookup x)
 | [],_=>rfl
 | (y,v)::r,m=>by
  rw[List.cons_append,aP,aP,jCJ]
  cases x==y <;> rfl
theorem jEI:∀ {ps:List Str}{us:List Value}{i:Nat}{x:Str}{u:Value},ps.Nodup->ps[i]?=some x->us[i]?=some u->(ps.zip us).reverse.lookup x=some u
 | [],_,_,_,_,_,h,_=>by simp at h
 | _::_,[],_,_,_,_,_,h=>by simp at h
 | p::ps,w::us,0,x,u,nd,h1,h2=>by
  simp at h1 h2
  subst h1 h2
  rw[dN,List.reverse_cons,jCJ,jGC fun v hv=>(bH.mp nd).1 (dQ (List.mem_reverse.mp hv)).1,aP,fq]
  rfl
 | p::ps,w::us,i+1,x,u,nd,h1,h2=>by
  rw[dN,List.reverse_cons,jCJ,jEI (i:=i) (bH.mp nd).2 (by simpa using h1) (by simpa using h2)]
  rfl
noncomputable def cxN (P:Program)(w:World)(K:W.Frag)(mg:Str->Option Value)(base:Heap)(N:List Str)(qual:Str)(scope:Scope)(f:Addr)(cd:Value)(cl:List (Str×Addr))(A:Around)(outer:List Env)(s:Shared)(H:Hp):Cx where
 prog:=P
 w:=w
 K:=K
 mg:=mg
 base:=base
 A:=A.deeper (envX qual scope s.heap.objs.size f cd cl)
 N:=N
 s₀:=s
 H₀:=H
 env:=envX qual scope s.heap.objs.size f cd cl
 outer:=outer
 stack:=envX qual scope s.heap.objs.size f cd cl::outer
 ex:=[]
 calm:=true
 fn:=fun _=>false
 pn:=[]
 xe:=fun _ _=>False
structure ClOk (cl:List (Str×Addr))(s:Shared)(H:Hp):Prop where
 inj:∀ x y c,cl.lookup x=some c->cl.lookup y=some c->x=y
 cell:∀ x c,cl.lookup x=some c->(∃ v,s.heap.IsCell c v)/\H c=none
def FvOk (fs:List Str)(fv:List V)(cl:List (Str×Addr))(s:Shared):Prop:=fv.length=fs.length/\∀ (i:Nat) (x:Str) (v:V),fs[i]?=some x->fv[i]?=some v->∃ c u,cl.lookup x=some c/\RelV v u/\s.heap.IsCell c (some u)
structure NScope (N ps fs:List Str)(sc:Scope):Prop where
 kind:sc.kind= .function
 co:sc.isCoroutine=false
 gen:sc.isGenerator=false
 nd:N.Nodup
 pre:N.take (ps.length+fs.length)=ps++fs
 par:∀ x∈ps,sc.names.lookup x=some .local
 fre:∀ x∈fs,sc.names.lookup x=some .free
 all:∀ x,sc.names.lookup x=some .free->x∈fs
 nocell:∀ y∈sc.names,y.2≠ .cell
def jDK (N:List Str)(vs fv:List V):St:=kX N (vs++fv)
section
variable {P:Program}{w:World}{K:W.Frag}{mg:Str->Option Value}{base:Heap}{N ps fs:List Str}{qual:Str}{scope:Scope}{f:Addr}{cd:Value}{cl:List (Str×Addr)}{A:Around}{outer:List Env}{s:Shared}{H:Hp}{us:List Value}{vs fv:List V}
theorem jJX {h1:Heap}{tk:Nat}(S:NScope N ps fs scope)(hd:A.handled=none)(e0:Env0 P w K mg base A outer s H)(hl:us.length=ps.length)(r:Vals vs us)(C:ClOk cl s H)(Fv:FvOk fs fv cl s)
  (ns:h1.Ns s.heap.objs.size fun x=>(ps.zip us).reverse.lookup x) (hk:∀ b o,s.heap.get? b=some o->h1.get? b=some o):
  Inv (cxN P w K mg base N qual scope f cd cl A outer s H) [] (jDK N vs fv) H { s with heap:=h1,toks:=tk} :=by
 have hpl:ps.length+fs.length<=N.length:=by have:=bN List.length S.pre; rw[be,aE] at this; omega
 have noA:∀ b:Addr,b∉(cxN P w K mg base N qual scope f cd cl A outer s H).ex:=fun b z=>absurd (show b∈([]:List Addr) from z) (by simp)
 have vl:vs.length=ps.length:=r.length.trans hl
 refine⟨⟨e0.mod,S.kind,rfl,rfl,ak _,C.inj,fun y hy=>?_,fun y c z=>(nomatch z),fun _=>hd,Around.frames_deeper e0.frames, .inr ⟨rfl,rfl⟩,fun b z=>absurd z (noA b),e0.bs,e0.bsz,fun b _ _=>noA b,fun b z=>absurd z (noA b),e0.funs,e0.frf⟩,
  rfl,e0.bare,Un.kept hk,⟨_,ns,fun i y v h1' h2 h3=>?_⟩,fun y c h=>?_,e0.hok.fresh (ak _),fun y c h=>(C.cell y c h).2,fun p hp=>absurd (show p∈([]:List (Addr×Obj)) from hp) (by simp),e0.hok.kept hk,?_⟩
 ·have hy:scope.names.lookup y=some .cell\/scope.names.lookup y=some .free:=hy
  rcases hy with hy | hy
  ·exact absurd rfl (S.nocell _ (cN hy))
  ·have m:=S.all y hy
   obtain⟨i,hi⟩:=bC m
   have hi2:i<fv.length:=by rw[Fv.1]; exact(ag.mp hi).1
   obtain⟨c,u,e,_⟩:=Fv.2 i y fv[i] hi (by simp [hi2])
   exact⟨c,e⟩
 ·have h1':N[i]?=some y:=h1'
  have hlen:(vs++fv).length=ps.length+fs.length:=by rw[aE,vl,Fv.1]
  have hi:i<(vs++fv).length:=by
   unfold jDK kX at h2
   by_cases hi:i<(vs++fv).length
   ·exact hi
   ·rw[aZ (by simpa using hi)] at h2
    rw[eV] at h2
    split at h2 <;> cases h2
  have hv:(vs++fv)[i]?=some v:=by
   unfold jDK kX at h2
   rw[bM (by simpa using hi),aI] at h2
   cases e:(vs++fv)[i]? with
   | none=>rw[e] at h2; cases h2
   | some a=>rw[e] at h2; cases h2; rfl
  have hy:(ps++fs)[i]?=some y:=by
   rw[<- S.pre,cc (by omega)]
   exact h1'
  by_cases hi1:i<ps.length
  ·rw[bM hi1] at hy
   rw[bM (by omega)] at hv
   obtain⟨u,hu,rv⟩:=r.get hv
   have ndP:ps.Nodup:=by
    have:(ps++fs).Nodup:=by rw[<- S.pre]; exact S.nd.sublist (da _ _)
    exact(gL.mp this).1
   exact⟨u,rv, .inl ⟨S.par y (ao hy),jEI ndP hy hu⟩⟩
  ·rw[aZ (by omega)] at hy
   rw[aZ (by omega),vl] at hv
   obtain⟨c,u,e,rv,o,ho,hd⟩:=Fv.2 _ y v hy hv
   exact⟨u,rv, .inr ⟨.inr (S.fre y (ao hy)),c,e,o,hk _ _ ho,hd⟩⟩
 ·obtain⟨⟨v,o,ho,hd⟩,_⟩:=C.cell y c h
  exact⟨v,o,hk _ _ ho,hd⟩
 ·unfold jDK kX
  show _=N.length
  rw[aE,ae,fj,aE,vl,Fv.1]
  omega
end
section
variable {X:Cx}{pins:List (Addr×Obj)}{σ:St}{H:Hp}{s:Shared}{fs:List Str}{fv:List V}{is:List Nat}{scope:Scope}
end
section
variable {X:Cx}{k:Nat}{x q:Str}{args:Arguments}{body:List Stmt}{scope:Scope}{ps fs:List Str}{is:List Nat}{sp:List V->Sp}{p pos:Pos}{e:Expr}{es:List Expr}{t:TA}{j:Nat}
end
section
variable {X:Cx}{tg iter elt:Expr}{ifs:List Expr}{sc:Scope}{pos:Pos}{wi:TI}{g:TG}{tt:TT}{te:St->TE}{m:List (Option Nat)}{Nc:List Str}
end
def jUL (Ts:List Addr)(H:Hp):Prop:=∀ b,H b=none\/(∃ o xs,H b=some (.frz o (.lst xs)))\/b∈Ts
theorem jJV {cts:List (Addr×Addr)}{P:Program}{w:World}{K:W.Frag}{mg mb:Str->Option Value}{CX:CXT}{k:Nat}{fa a:Addr}{fd:FuncData}{x:Str}{sp:Sp}{s₁:Shared}{vs:List Value}{ns:List Int}
  (KX:K.In s₁.heap) (hns:s₁.heap.Ns mainGlobals mg) (hb:s₁.heap.Ns builtinsNs mb) (hbb:∀ x:Str,x≠ "__name__" ->mb x=bootBuiltins x) (hlim:s₁.heap.NoLimit) (hg:s₁.gens=#[])
  (ha:s₁.heap.get? a=some { cls:= .type "list",data:= .seq vs.toArray}) (hi:IntsAre vs ns) (hl:ns.length<=sizeLine) (hr:Room k callerA) (hT:∀ T∈cts.map (·.2),s₁.heap.get? T=some (tabObj #[])) (CH:∀ p∈cts,PySem.W.CodeHd s₁.heap p.1 p.2) (hKT:∀ T∈cts.map (·.2),K.lookup T=none)
  (F:∀ base:Heap,K.In base->base.Ns mainGlobals mg->FnOk P w K mg base CX k fa fd [x] sp) (hbind:∀ (s:Shared) (u:Value),BindsTo s fd ⟨[u],[]⟩ [(x,u)])
  (hsp:∀ H:Hp,(∀ T∈cts.map (·.2),H T=some (.tbl #[]))->SqL K H a (ns.map V.int)->sp [.ref a] H (fun v _=>v= .bl true) fun _ _ _=>False)
  (hCX:∀ H e s',CX [] H s₁ (fun _ _ _=>False) e s'->False):
  codeAny (model P w) callerA (.call (.ref fa) ⟨[.ref a],[]⟩) (fun r s'=>r= .ok (.ret (.bool true))/\OldK s₁.heap s'.heap/\s'.os=s₁.os/\AllBare s'.gens) s₁:=by
 have rv:=jFP hi
 have lenV:=hi.length
 have core:∀ H:Hp,jUL (cts.map (·.2)) H->(∀ T∈cts.map (·.2),H T=some (.tbl #[]))->SqL K H a (ns.map V.int)->HOk P w H s₁.heap->(∀ b,H b≠none->b=a\/b∈cts.map (·.2))->(H a≠none->K.lookup a=none)->
   codeAny (model P w) callerA (.call (.ref fa) ⟨[.ref a],[]⟩) (fun r s'=>r= .ok (.ret (.bool true))/\OldK s₁.heap s'.heap/\s'.os=s₁.os/\AllBare s'.gens) s₁:=by
  intro H hO hHT hS hok hA hK
  have base_of:∀ {b:Addr}{o:Obj},s₁.heap.get? b=some o->H b=none->(hidT s₁.heap H).get? b=some o:=fun e n=>jOG e n
  have noA:∀ {b:Addr}{o:Obj}{es:Array DictEntry}{ep:Nat},s₁.heap.get? b=some o->o.data= .dict es ep->H b=none:=fun {b o es ep} e d=>by
   cases q:H b with
   | none=>rfl
   | some u=>
    rcases hA b (by rw[q]; simp) with e' | e'
    ·subst e'
     rw[ha] at e; cases e
     have d':Data.seq vs.toArray _=Data.dict es ep:=d
     cases d'
    ·rw[hT b e'] at e; cases e
     have d':Data.fields _=Data.dict es ep:=d
     cases d'
  have nsK:∀ {b:Addr}{m:Str->Option Value},s₁.heap.Ns b m->(hidT s₁.heap H).Ns b m:=fun {b m} ⟨o,es,ep,e,d,r⟩=>⟨o,es,ep,base_of e (noA e d),d,r⟩
  have hKb:K.In (hidT s₁.heap H):=fun b o e=>base_of (KX b o e) (by
   cases q:H b with
   | none=>rfl
   | some u=>
    rcases hA b (by rw[q]; simp) with e' | e'
    ·subst e'
     rw[hK (by rw[q]; simp)] at e; cases e
    ·rw[hKT b e'] at e; cases e)
  have hM:Mod K mg (hidT s₁.heap H):=⟨hKb,nsK hns,⟨mb,nsK hb,hbb⟩,let ⟨mc,h1,h2⟩:=hlim; ⟨mc,nsK h1,h2⟩⟩
  have e0:Env0 P w K mg (hidT s₁.heap H) callerA [] s₁ H:=⟨rfl,hM,fun b o e=>jRE e,Nat.le_of_eq (jM6 _ _),trivial,fun b hb=>absurd (show b∈([]:List Addr) from hb) (by simp),hok, .of_eq hg⟩
  refine d0 ((F _ hKb (nsK hns)).run callerA [] s₁ H ⟨[.ref a],[]⟩ [.ref a] [.ref a] _ _ hr e0 (hbind s₁ (.ref a)) (.cons rfl .nil) (hsp H hHT hS)) fun r s' h=>?_
  cases r with
  | error e=>exact(hCX H e s' h).elim
  | ok fl=>
   cases fl with
   | next=>exact False.elim h
   | brk=>exact False.elim h
   | cont=>exact False.elim h
   | ret u=>
    obtain⟨v,H',os,bare,un,hok',r',q⟩:=h
    have q':v= .bl true:=q
    subst q'
    obtain rfl:u=Value.bool true:=r'
    have gr:∀ T∈cts.map (·.2),∃ more,s'.heap.get? T=some (tabObj (#[]++more)):=fun T hTm=>by
     obtain⟨more,z⟩:=un.tbls T _ (hHT T hTm)
     exact⟨more,hok' T _ z⟩
    have kp:∀ b o,b∉cts.map (·.2)->s₁.heap.get? b=some o->s'.heap.get? b=some o:=fun b o hbT e=>?_
    ·refine⟨rfl,⟨fun b o e=>?_,fun b o e=>?_⟩,os,bare⟩
     ·by_cases hb:b∈cts.map (·.2)
      ·obtain⟨p,hp,rfl⟩:=aW.mp hb
       have q:=hT _ hb
       rw[q] at e
       cases e
       obtain⟨more,z⟩:=gr _ hb
       exact .inr (.inl ⟨((CH p hp).tab q).isCodeTable,rfl,#[],more,rfl,z⟩)
      ·exact .inl (kp b o hb e)
     ·by_cases hb:b∈cts.map (·.2)
      ·obtain⟨more,z⟩:=gr _ hb
       exact⟨_,z⟩
      ·exact⟨o,kp b o hb e⟩
    cases q:H b with
    | none=>exact un.keep b o e q (by intro z; exact absurd (show b∈([]:List Addr) from z) (by simp)) (by simp)
    | some u=>
     rcases hO b with z | ⟨ob,xs,z⟩ | z
     ·rw[q] at z; cases z
     ·have z2:=un.frzs b ob _ z
      obtain⟨e1,_⟩:=hok b _ z
      obtain⟨e2,_⟩:=hok' b _ z2
      rw[e] at e1; cases e1
      exact e2
     ·exact absurd z hbT
 have aT:a∉cts.map (·.2):=fun z=>by rw[hT a z] at ha; cases ha
 cases hk:K.lookup a with
 | some o=>
  have e:=KX a o hk
  rw[ha] at e
  cases e
  refine core (fun b=>if b∈cts.map (·.2) then some (.tbl #[]) else none) (fun b=>?_) (fun T hm=>aj hm) (.inr ⟨_,vs.toArray,_,hk,rfl,rfl,rfl,by rw[aq,lenV]; exact hl,by simpa using rv⟩) (fun b u z=>?_) (fun b z=>?_) fun z=>absurd (ai aT) z
  ·by_cases hb:b∈cts.map (·.2)
   ·exact .inr (.inr hb)
   ·exact .inl (ai hb)
  ·by_cases hb:b∈cts.map (·.2)
   ·have z':=(aj hb).symm.trans z
    cases z'
    exact hT b hb
   ·have z':=(ai hb).symm.trans z
    cases z'
  ·by_cases hb:b∈cts.map (·.2)
   ·exact .inr hb
   ·exact absurd (ai hb) z
 | none=>
  refine core (fun b=>if b∈cts.map (·.2) then some (.tbl #[]) else if b=a then some (.frz { cls:= .type "list",data:= .seq vs.toArray} (.lst (ns.map V.int))) else none) (fun b=>?_) (fun T hm=>aj hm) (.inl (.inr ⟨{ cls:= .type "list",data:= .seq vs.toArray},by dsimp only; rw[ai aT,aj rfl]⟩)) (fun b u z=>?_) (fun b z=>?_) fun _=>hk
  ·by_cases hT':b∈cts.map (·.2)
   ·exact .inr (.inr hT')
   ·by_cases hb:b=a
    ·exact .inr (.inl ⟨_,_,by dsimp only; rw[ai hT',aj hb]⟩)
    ·exact .inl (by dsimp only; rw[ai hT',ai hb])
  ·dsimp only at z
   by_cases hT':b∈cts.map (·.2)
   ·rw[aj hT'] at z
    cases z
    exact hT b hT'
   ·rw[ai hT'] at z
    by_cases hb:b=a
    ·rw[aj hb] at z
     cases z
     subst hb
     exact⟨ha,by rw[ae]; exact hl,vs,_,rv,ha⟩
    ·rw[ai hb] at z
     cases z
  ·replace z:(if b∈cts.map (·.2) then some (HO.tbl #[]) else if b=a then some (HO.frz { cls:= .type "list",data:= .seq vs.toArray} (.lst (ns.map V.int))) else none)≠none:=z
   by_cases hT':b∈cts.map (·.2)
   ·exact .inr hT'
   ·by_cases hb:b=a
    ·exact .inl hb
    ·rw[ai hT',ai hb] at z
     exact absurd rfl z
theorem walk_ofTs {cts:List (Addr×Addr)}{l:PySem.W.OpenLaw}{n k:Nat}{q:Program}{loose:List Str}{XP:(Str->Option Value)->Heap->Prop}{YP:World->Heap->Prop}{d:DefRec}{K:Params->W.Frag}{CX:World->CXT}{sp:World->Sp}{x:Str}
  (hn:l.most=some n) (hn2:n<=sizeLine) (hdf:d.params.defaults=[]) (hr:Room k callerA)
  (hY:∀ (w:World) (h:Heap),YP w h->(K w.params).In h/\∀ T∈cts.map (·.2),h.get? T=some (tabObj #[])) (hcd:∀ w:World,∀ p∈cts,codeHdIn (K w.params) p.1 p.2=true) (hKT:∀ w:World,∀ T∈cts.map (·.2),(K w.params).lookup T=none)
  (F:∀ (w:World) (mg:Str->Option Value) (fa:Addr) (h:Heap),(K w.params).In h->h.Ns mainGlobals mg->mg d.name=some (.ref fa)->
   ∃ fd:FuncData,(∀ (s:Shared) (u:Value),BindsTo s fd ⟨[u],[]⟩ [(x,u)])/\
    ∀ base:Heap,(K w.params).In base->base.Ns mainGlobals mg->FnOk l.prog w (K w.params) mg base (CX w) k fa fd [x] (sp w))
  (hsp:∀ (w:World) (H:Hp) (a:Addr) (ns:List Int),ns.length<=n->(∀ T∈cts.map (·.2),H T=some (.tbl #[]))->SqL (K w.params) H a (ns.map V.int)->sp w [.ref a] H (fun v _=>v= .bl true) fun _ _ _=>False)
  (hCX:∀ (w:World) (H:Hp) (s:Shared) (e:Value) (s':Shared),CX w [] H s (fun _ _ _=>False) e s'->False):
  PySem.W.WalkO q loose XP YP l.row.toRowW d [] (fun f vs=>PySem.call f vs):=by
 refine Att.attach_call hn hdf fun w s₀ s₁ mg mb fa o pm cd doc a vs ns G Y ho hd _ hmg hobj hints hlen hg=>?_
 obtain⟨KX,hT⟩:=hY w _ Y
 obtain⟨fd,hb,hF⟩:=F w mg fa _ KX G.T.g hmg
 exact jJV KX G.T.g G.T.b G.T.builtins G.T.nolimit hg hobj hints (bv hlen hn2) hr hT (fun p hp=>iT KX (hcd w p hp)) (hKT w) hF hb (fun H hO hS=>hsp w H a ns hlen hO hS) fun H e s'=>hCX w H s₁ e s'
open PySem.AutoSeq1 (wpAny_loadPart')
section
variable {prog:Program}{w:World}{A:Around}{E:Value->Shared->Prop}{s:Shared}
theorem jOM {tp:Bool}{e it l:Addr}{i:Nat}{xs:Array Value}{x old:Value}{Q:Value->Shared->Prop}(ee:IsEnum s.heap e it i old)(g1:ItAt tp s.heap it l i)(o1:ObAt tp s.heap l xs)(hx:xs[i]?=some x)(ne:e≠it)
  (k:∀ h',IsEnumOut h' e it ((i:Int)+1) x s.heap.objs.size->ItAt tp h' it l (i+1)->h'.get? s.heap.objs.size=some { cls:= .type "tuple",data:= .seq #[.int i s.toks,x]} ->h'.objs.size=s.heap.objs.size+1->
   (∀ c o,c≠e->c≠it->s.heap.get? c=some o->h'.get? c=some o)->Q (.ref s.heap.objs.size) { s with heap:=h',toks:=s.toks+1}):
  wpAny (model prog w) A (Builtin.«enumerate.__next__» ⟨[.ref e],[]⟩) (fun fin s'=>∃ v,fin= .done (.ret v)/\Q v s') E s:=by
 obtain⟨hp,g,d,tk,os⟩:=s
 show wpAny (model prog w) A (field (.ref e) 2 >>= _) _ _ _
 refine aa (bL ee rfl (x:= .ref it) rfl (aa (next1 g1 o1 hx fun p1 r1 q1=>?_)))
 have q1:Heap.SameBut it hp p1:=q1
 have e1:IsEnum p1 e it i old:=(q1.2 e ne).trans ee
 show wpAny (model prog w) A (field (.ref e) 3 >>= _) _ _ ⟨p1,g,d,tk,os⟩
 refine aa (bL e1 rfl (x:=rawInt i) rfl (?_:wpAny (model prog w) A (field (.ref e) 4 >>= _) _ _ ⟨p1,g,d,tk,os⟩))
 refine aa (bL e1 rfl (x:= .none) rfl (?_:wpAny (model prog w) A (mkInt i >>= _) _ _ ⟨p1,g,d,tk,os⟩))
 refine aa (wpAny_mkInt (?_:wpAny (model prog w) A (setField (.ref e) 3 (rawInt ((i:Int)+1)) >>= _) _ _ ⟨p1,g,d,tk+1,os⟩))
 refine aa (bB e1 (by simp) fun p2 e2 q2=>?_)
 have q2:Heap.SameBut e p1 p2:=q2
 have e2:IsEnum p2 e it ((i:Int)+1) old:=e2
 show wpAny (model prog w) A (setField (.ref e) 4 .none >>= _) _ _ ⟨p2,g,d,tk+1,os⟩
 refine aa (bB e2 (by simp) fun p3 e3 q3=>?_)
 have q3:Heap.SameBut e p2 p3:=q3
 have e3:IsEnum p3 e it ((i:Int)+1) old:=e3
 show wpAny (model prog w) A (newTuple [.int i tk,x] >>= _) _ _ ⟨p3,g,d,tk+1,os⟩
 refine aa (iL ?_)
 have e4:IsEnum (p3.push { cls:= .type "tuple",data:= .seq #[.int i tk,x]}) e it ((i:Int)+1) old:=ab _ e3
 have sz:p3.objs.size=hp.objs.size:=by rw[q3.1,q2.1,q1.1]
 have lt:e<hp.objs.size:=ay ee
 have t4:(p3.push { cls:= .type "tuple",data:= .seq #[.int i tk,x]}).get? hp.objs.size=some { cls:= .type "tuple",data:= .seq #[.int i tk,x]} :=by rw[<- sz]; exact az _ rfl
 have z4:(p3.push { cls:= .type "tuple",data:= .seq #[.int i tk,x]}).objs.size=hp.objs.size+1:=by rw[bK,sz]
 have k4:∀ c o,c≠e->c≠it->hp.get? c=some o->(p3.push { cls:= .type "tuple",data:= .seq #[.int i tk,x]}).get? c=some o:=fun c o n1 n2 v=>ab _ (q3.extBut c o n1 (q2.extBut c o n1 (q1.extBut c o n2 v)))
 have r4:ItAt tp (p3.push { cls:= .type "tuple",data:= .seq #[.int i tk,x]}) it l (i+1):=((r1.but q2.extBut ne.symm).but q3.extBut ne.symm).at fun o v=>ab _ v
 generalize p3.push { cls:= .type "tuple",data:= .seq #[.int i tk,x]} =p4 at e4 t4 z4 k4 r4 ⊢
 show wpAny (model prog w) A (Builtin.SmallTypes.ownedTupleIsFree (.ref e) >>= _) _ _ ⟨p4,g,d,tk+1,os⟩
 rw[sz]
 refine aa (by
  unfold Builtin.SmallTypes.ownedTupleIsFree
  refine aa (bL e4 rfl (x:= .none) rfl (af ?_))
  simp only [eQ]
  refine aa (cD (aa (bL e4 rfl (x:=old) rfl (aa (bB e4 (by simp) fun p5 e5 q5=>?_)))))
  have q5:Heap.SameBut e p4 p5:=q5
  have e5:IsEnum p5 e it ((i:Int)+1) x:=e5
  refine aa (m:=Builtin.SmallTypes.ownedTupleHandOut (.ref e) (.ref hp.objs.size)) ?_
  unfold Builtin.SmallTypes.ownedTupleHandOut
  refine aa (bB e5 (by simp) fun p6 e6 q6=>?_)
  have q6:Heap.SameBut e p5 p6:=q6
  have e6:IsEnumOut p6 e it ((i:Int)+1) x hp.objs.size:=e6
  refine bB e6 (by simp) fun p7 e7 q7=>?_
  have q7:Heap.SameBut e p6 p7:=q7
  have e7:IsEnumOut p7 e it ((i:Int)+1) x hp.objs.size:=e7
  have up:∀ c o,c≠e->p4.get? c=some o->p7.get? c=some o:=fun c o n v=>q7.extBut _ _ n (q6.extBut _ _ n (q5.extBut _ _ n v))
  exact aa (iK (af ⟨_,rfl,k p7 e7 (r4.at fun o v=>up _ o ne.symm v) (up _ _ (cV lt) t4) (by rw[q7.1,q6.1,q5.1,z4]) fun c o n1 n2 v=>up c o n1 (k4 c o n1 n2 v)⟩)))
theorem jJI {tp:Bool}{e it l:Addr}{i:Nat}{xs:Array Value}{x old:Value}{Q:Option Value->Shared->Prop}(ee:IsEnum s.heap e it i old)(g1:ItAt tp s.heap it l i)(o1:ObAt tp s.heap l xs)(hx:xs[i]?=some x)(ne:e≠it)
  (k:∀ h',IsEnumOut h' e it ((i:Int)+1) x s.heap.objs.size->ItAt tp h' it l (i+1)->h'.get? s.heap.objs.size=some { cls:= .type "tuple",data:= .seq #[.int i s.toks,x]} ->h'.objs.size=s.heap.objs.size+1->
   (∀ c o,c≠e->c≠it->s.heap.get? c=some o->h'.get? c=some o)->Q (some (.ref s.heap.objs.size)) { s with heap:=h',toks:=s.toks+1}):
  wpAny (model prog w) A (pyNext (.ref e)) Q E s:=by
 have ty:s.TypeIs (.ref e) "enumerate" :=⟨_,ee,rfl⟩
 unfold pyNext
 exact aa (dG (bD (name:=Str.ofString "__next__") ty F.slot_enumerate_next (bE F.slot_enumerate_next ty F.entry_enumerate_next (jOM ee g1 o1 hx ne fun h' b1 b2 b3 b4 b5=>af (k h' b1 b2 b3 b4 b5)) (F.args_enumerate_next_1 _))))
theorem jJJ {tp:Bool}{e it l:Addr}{i:Nat}{xs:Array Value}{old:Value}{Q:Option Value->Shared->Prop}(hh:A.handled=none)(ee:IsEnum s.heap e it i old)(g1:ItAt tp s.heap it l i)(o1:ObAt tp s.heap l xs)(hx:xs[i]?=none)
  (k:∀ h',(∀ c o,c≠e->c≠it->s.heap.get? c=some o->h'.get? c=some o)->Q none { s with heap:=h'}):wpAny (model prog w) A (pyNext (.ref e)) Q E s:=by
 have ty:s.TypeIs (.ref e) "enumerate" :=⟨_,ee,rfl⟩
 unfold pyNext
 refine aa (dG (bD (name:=Str.ofString "__next__") ty F.slot_enumerate_next (bE F.slot_enumerate_next ty F.entry_enumerate_next (?_:wpAny (model prog w) _ (field (.ref e) 2 >>= _) _ _ _) (F.args_enumerate_next_1 _))))
 refine aa (bL ee rfl (x:= .ref it) rfl (aa (next0 hh g1 o1 hx fun h' x kp ⟨u,eu,cu⟩=>?_)))
 exact aa (fr (T:= "StopIteration") (b:=true) ⟨u,eu,cu⟩ iI (af (k _ fun c o _ n v=>kp c o n v)))
end
set_option maxHeartbeats 2000000 in
theorem jLJ (tp:Bool)(l:Addr)(xs:Array Value)(u:Obj):
  Meets (Builtin.«enumerate.__new__» ⟨[.type "enumerate", .ref l],[]⟩) (fun _ R s=>s.heap.get? l=some u/\ObAt tp s.heap l xs/\
   R (.ok (.ret (.ref (s.heap.push (qE tp l)).objs.size))) { s with heap:=(s.heap.push (qE tp l)).push { cls:= .type "enumerate",data:= .fields #[.none, .bool false, .ref s.heap.objs.size,rawInt 0, .none, .none]}}):=
 .of_wp fun prog w A R s h=>by
  obtain⟨hp,g,d,tk,os⟩:=s
  obtain⟨a0,a1,q⟩:=h
  have sub:=sub_enumerate
  have e1:ObAt tp (Shared.heap ⟨hp,g,d,tk,os⟩) l xs:=a1
  obtain⟨c,dct,dt,sl⟩:=u
  obtain⟨n,hc,hd⟩:∃ n,c=(if tp then .type "tuple" else .type "list")/\dt= .seq xs n:=by
   cases tp with
   | false=>obtain⟨o,e,hc,n,hd⟩:=a1; cases (a0.symm.trans e); exact⟨n,hc,hd⟩
   | true=>obtain⟨o,e,hc,n,hd⟩:=a1; cases (a0.symm.trans e); exact⟨n,hc,hd⟩
  subst hd
  cases tp with
  | false=>
   subst hc
   wp_walk using cz a0
   refine wpAny_stack_any fun _=>af ?_
   split
   ·rename_i c _ _ _ _ _
    cases hcc:(c==Value.type "enumerate")
    all_goals (wp_walk using cz a0,jCI e1; exact⟨_,rfl,q⟩)
   ·wp_walk using cz a0,jCI e1
    exact⟨_,rfl,q⟩
  | true=>
   subst hc
   wp_walk using cz a0
   refine wpAny_stack_any fun _=>af ?_
   split
   ·rename_i c _ _ _ _ _
    cases hcc:(c==Value.type "enumerate")
    all_goals (wp_walk using cz a0,jCI e1; exact⟨_,rfl,q⟩)
   ·wp_walk using cz a0,jCI e1
    exact⟨_,rfl,q⟩
theorem jOS {prog:Program}{w:World}{A:Around}{E:Value->Shared->Prop}{s:Shared}{tp:Bool}{l:Addr}{xs:Array Value}{Q:Value->Shared->Prop}(a1:ObAt tp s.heap l xs)
  (k:∀ h',IsEnum h' (s.heap.objs.size+1) s.heap.objs.size 0 .none->ItAt tp h' s.heap.objs.size l 0->(∀ c o,s.heap.get? c=some o->h'.get? c=some o)->Q (.ref (s.heap.objs.size+1)) { s with heap:=h'}):
  wpAny (model prog w) A (call (.type "enumerate") [.ref l]) Q E s:=by
 obtain⟨u,eu⟩:∃ u,s.heap.get? l=some u:=by
  cases tp with
  | false=>obtain⟨o,e,_⟩:=a1; exact⟨o,e⟩
  | true=>obtain⟨o,e,_⟩:=a1; exact⟨o,e⟩
 refine callType_new F.called_enumerate (by decide) (F.typeCall_enumerate_1 _) (F.newCall_enumerate_1 _) (fun obj=>F.args_object_init_2 obj _) F.entry_enumerate_new (jLJ tp l xs u) ⟨eu,a1,?_⟩
 have z1:(s.heap.push (qE tp l)).objs.size=s.heap.objs.size+1:=bK ..
 have y2:IsEnum ((s.heap.push (qE tp l)).push { cls:= .type "enumerate",data:= .fields #[.none, .bool false, .ref s.heap.objs.size,rawInt 0, .none, .none]}) (s.heap.push (qE tp l)).objs.size s.heap.objs.size 0 .none:=az _ rfl
 have y1:((s.heap.push (qE tp l)).push { cls:= .type "enumerate",data:= .fields #[.none, .bool false, .ref s.heap.objs.size,rawInt 0, .none, .none]}).get? s.heap.objs.size=some (qE tp l):=ab _ (az _ (jCK _ _))
 show _/\_
 rw[z1] at y2 ⊢
 exact⟨⟨_,y2,rfl⟩,k _ y2 (.new tp y1) fun c o e=>ab _ (ab _ e)⟩
section
variable {X:Cx}
def Ite (tp:Bool)(K:W.Frag)(l:Addr):It:=
 ⟨fun i H=>∃ xs x,Sq tp K H l xs/\xs[i]?=some x,
  fun i H v H'=>∃ T x,H T=none/\v= .ref T/\H'=upd H T (.tup [.int (i:Int),x])/\∀ xs,Sq tp K H l xs->xs[i]?=some x,
  fun i H=>∃ xs,Sq tp K H l xs/\xs.length<=i⟩
theorem jKB {P:Program}{w:World}{K:W.Frag}{elts:List Expr}{x1:Nat}{tps:Pos}(tp:Bool)(l e it:Addr)(ne:e≠it):
  Turn P w K (.Tuple elts x1 tps) (Ite tp K l) [e,it] e (fun i h=>(∃ old,IsEnum h e it ((i:Nat):Int) old)/\ItAt tp h it l i) where
 mem:=by simp
 obj:=fun i h st b hb=>by
  obtain⟨⟨old,he⟩,y1⟩:=st
  simp only [aB,bA,dw] at hb
  rcases hb with rfl | rfl
  ·exact⟨_,he,fun v q=>by cases q⟩
  ·exact y1.obj
 keep:=fun i h h' st k=>by
  obtain⟨⟨old,he⟩,h1⟩:=st
  exact⟨⟨old,k e (by simp) _ he⟩,h1.at fun o z=>k it (by simp) o z⟩
 item:=by
  intro X hP hw hK hc i pins s σ H E I hf st hg
  subst hP hw hK
  obtain⟨xs,x,hq1,hx⟩:=hg
  obtain⟨⟨old,he⟩,h1⟩:=st
  obtain⟨its1,r1,p1,_⟩:=I.sq hq1
  obtain⟨u,hu,ru⟩:=r1.get hx
  refine jJI he h1 p1 (x:=u) (by simpa using hu) ne fun h' a1 a2 a3 a4 a5=>?_
  refine⟨_,rfl,wpAny_letOwnedTupleGo_enum (s:= { s with heap:=h',toks:=s.toks+1}) a1 fun h'' b1 sb=>?_⟩
  have fresh:H s.heap.objs.size=none:=I.fresh
  have ntr:∀ b o,H b=some o->b∉([e,it]:List Addr):=fun b o z hb=>by
   have:=(hf b hb).1
   rw[z] at this; cases this
  have kp:∀ b o,b∉([e,it]:List Addr)->s.heap.get? b=some o->h''.get? b=some o:=fun b o hb z=>by
   simp only [aB,bA,dw,jf] at hb
   exact(sb.2 b hb.1).trans (a5 b o hb.1 hb.2 z)
  have nz:s.heap.objs.size≠e:=cV (ay he)
  have hT2:h''.get? s.heap.objs.size=some { cls:= .type "tuple",data:= .seq #[.int i s.toks,u]} :=(sb.2 _ nz).trans a3
  have I2:Inv X pins σ (upd H s.heap.objs.size (.tup [.int (i:Int),x])) { s with heap:=h'',toks:=s.toks+1} :=by
   refine I.step (g':=s.gens) (d':=s.drawn) (t':=s.toks+1) (ch:=[e,it]) (fun b hb=>?_) (fun b o _ _ hb z _=>kp b o hb z) (fun b o _ _ hb z _=>⟨o.slots,kp b o hb z⟩)
    (fun b o _ z n=>by rw[j9 (aS (ay z))]; exact n) (fun b o hb z=>⟨o,kp b o hb z⟩) (fun b ws z=>by rw[j9 (jA z fresh)]; exact z) (fun b o ws z=>by rw[j9 (jA z fresh)]; exact z)
    (fun b ps z=>⟨#[],by rw[j9 (jA z fresh),z]; simp⟩) (fun m hm=>?_) (fun b o z=>?_) I.bare
   ·obtain⟨f0,f1,f2,f3,f4,f5⟩:=hf b hb
    exact⟨f3,f1,f4,f5⟩
   ·obtain⟨o,es,ep,ho,r⟩:=hm
    exact⟨o,es,ep,kp _ o (fun hb=>(hf _ hb).2.1 rfl) ho,r⟩
   ·by_cases hb:b=s.heap.objs.size
    ·subst hb
     rw[j6] at z
     cases z
     exact⟨by rw[dE]; show 2<=_; decide,[.int i s.toks,u], .cons ⟨_,rfl⟩ (.cons ru .nil),0,hT2⟩
    ·rw[j9 hb] at z
     refine(I.hok b o z).stay (fun c w hc q=>kp c w ?_ q) (fun c q=>by rw[j9 (jA q fresh)]; exact q) (fun c ws q=>by rw[j9 (jA q fresh)]; exact q)
     rcases hc with rfl | hc
     ·exact ntr _ _ z
     ·exact ntr _ _ hc
  refine⟨.ref s.heap.objs.size,_,I2,rfl,⟨_,x,fresh,rfl,rfl,fun xs' q1=>by rw[I.sq_inj q1 hq1]; exact hx⟩,⟨⟨_,b1⟩,?_⟩,fun b hb=>?_⟩
  ·exact a2.at fun o z=>(sb.2 it ne.symm).trans z
  ·rw[j9 (fun q=>by
    obtain⟨o,eo⟩:∃ o,s.heap.get? b=some o:=by
     simp only [aB,bA,dw] at hb
     rcases hb with rfl | rfl
     ·exact⟨_,he⟩
     ·obtain⟨o,z,_⟩:=h1.obj; exact⟨o,z⟩
    exact absurd (ay eo) (by rw[q]; exact cw _))]
   exact(hf b hb).1
 done:=by
  intro X hP hw hK hc i pins s σ H E I hf st hg
  subst hP hw hK
  obtain⟨xs,hq1,hend⟩:=hg
  obtain⟨⟨old,he⟩,h1⟩:=st
  obtain⟨its1,r1,p1,_⟩:=I.sq hq1
  have e1:=r1.length
  refine jJJ (I.ok.hd hc) he h1 p1 (by simp; omega) fun h' kp=>⟨rfl,?_⟩
  have kp2:∀ b o,b∉([e,it]:List Addr)->s.heap.get? b=some o->h'.get? b=some o:=fun b o hb z=>by
   simp only [aB,bA,dw,jf] at hb
   exact kp b o hb.1 hb.2 z
  have ntr:∀ b o,H b=some o->b∉([e,it]:List Addr):=fun b o z hb=>by
   have:=(hf b hb).1
   rw[z] at this; cases this
  refine I.step (g':=s.gens) (d':=s.drawn) (t':=s.toks) (ch:=[e,it]) (fun b hb=>?_) (fun b o _ _ hb z _=>kp2 b o hb z) (fun b o _ _ hb z _=>⟨o.slots,kp2 b o hb z⟩)
   (fun b o _ z n=>n) (fun b o hb z=>⟨o,kp2 b o hb z⟩) (fun b ws z=>z) (fun b o ws z=>z) (fun b ps z=>⟨#[],by rw[z]; simp⟩) (fun m hm=>?_) (fun b o z=>?_) I.bare
  ·obtain⟨f0,f1,f2,f3,f4,f5⟩:=hf b hb
   exact⟨f3,f1,f4,f5⟩
  ·obtain⟨o,es,ep,ho,r⟩:=hm
   exact⟨o,es,ep,kp2 _ o (fun hb=>(hf _ hb).2.1 rfl) ho,r⟩
  ·refine(I.hok b o z).stay (fun c w hc q=>kp2 c w ?_ q) (fun _ q=>q) fun _ _ q=>q
   rcases hc with rfl | hc
   ·exact ntr _ _ z
   ·exact ntr _ _ hc
 self:=fun _ _ _ _ _ st h=>wpAny_pyIter_enum st.1.choose_spec h
def iEnum (K:W.Frag)(ta:TA):TI:=fun σ H R=>ta σ H fun vs H1=>∃ tp l,vs=[.ref l]/\(∃ xs,Sq tp K H1 l xs)/\R (Ite tp K l) H1
theorem jQQ {a:Expr}{ta:TA}{p pos:Pos}{elts:List Expr}{x1:Nat}{tp:Pos}(hg:Gl X "enumerate")(hm:X.mg "enumerate" =none)(ha:PA X [a] ta)(hv:bootBuiltins "enumerate" =some (.type "enumerate"):=by decide+kernel)
  (he:starEach [a] X.env=(false,eval a X.env)::starEach [] X.env:=by rfl) (hpl:(backTo pos (starEach [] X.env)).any (·.1)=false:=by rfl):
  PI X (.Tuple elts x1 tp) (.Call (.Name "enumerate" p) [a] [] pos) (iEnum X.K ta):=by
 intro pins s σ H R I h
 refine Call_ (jCZ I hg hm hv (cH (thn (ha pos pins s σ H _ I h) fun us s1 ⟨vs,H1,I1,r1,q1⟩=>?_) he hpl))
 obtain⟨t1,l1,rfl,⟨xs,hq1⟩,q⟩:=q1
 obtain⟨u,rfl,ru⟩:=r1.one
 cases ru
 obtain⟨its1,_,p1,_⟩:=I1.sq hq1
 refine jOS p1 fun h' a1 a2 kp=>?_
 have I2:Inv X pins σ H1 { s1 with heap:=h'} :=I1.kept (t':=s1.toks) kp
 refine wpAny_pyIter_enum a1 ⟨s1.heap.objs.size+1,[s1.heap.objs.size+1,s1.heap.objs.size],_,Ite t1 X.K l1,H1,rfl,I2,jKB t1 l1 _ _ (Nat.succ_ne_self _),⟨⟨_,a1⟩,a2⟩,fun b hb=>?_,q⟩
 have hge:s1.heap.objs.size<=b:=by
  simp only [aB,bA,dw] at hb
  rcases hb with rfl | rfl
  ·exact dL _ 1
  ·exact ak _
 exact I1.fpOk hge (I1.hok.fresh hge)
theorem jRT {a:Expr}{t:TA}{p pos:Pos}{elts:List Expr}{x1:Nat}{tp:Pos}(hg:Gl1 X "enumerate")(hm:X.mg "enumerate" =none)(ha:JA X [a] t)(he:starEach [a] X.env=(false,eval a X.env)::starEach [] X.env)(hv:bootBuiltins "enumerate" =some (.type "enumerate"):=by decide+kernel)
  (hpl:(backTo pos (starEach [] X.env)).any (·.1)=false:=by rfl):JI X (.Tuple elts x1 tp) (.Call (.Name "enumerate" p) [a] [] pos) (iEnum X.K t):=⟨jQQ hg.a hm ha.h hv he hpl⟩
end
section
variable {K:W.Frag}{m:List (Option Nat)}{g:TG}{tt:TT}{te:TE}{σ:St}{H1:Hp}{Q:VK}
end
section
variable {κ:Type} [DecidableEq κ]
def valV (kvs:List (κ×V))(k:κ):Option V:=(kvs.find? fun kv=>decide (kv.1=k)).map (·.2)
def putK (kvs:List (κ×V))(k:κ)(v:V):List (κ×V):=
 if (kvs.any fun kv=>decide (kv.1=k))=true then kvs.map (fun kv=>if kv.1=k then (kv.1,v) else kv) else kvs++[(k,v)]
theorem jBP {p:κ×V}{r:List (κ×V)}{k:κ}(e:p.1=k):valV (p::r) k=some p.2:=by simp [valV,dR,e]
theorem jB5 {p:κ×V}{r:List (κ×V)}{k:κ}(e:¬ p.1=k):valV (p::r) k=valV r k:=by simp [valV,dR,e]
theorem jBR (k:κ):∀ kvs:List (κ×V),(kvs.any fun kv=>decide (kv.1=k))=(valV kvs k).isSome
 | []=>rfl
 | p::r=>by
  rw[fz]
  by_cases e:p.1=k
  ·simp only [jBP e,am e,i9,i5]
  ·rw[jB5 e,aL e,gS]; exact jBR k r
theorem jAT (kvs:List (κ×V))(k:κ)(v:V):(putK kvs k v).length<=kvs.length+1:=by
 unfold putK
 split
 ·rw[ae]; omega
 ·rw[aE,aK,cQ]; omega
theorem jEZ {kvs:List (κ×V)}{k:κ}(v:V)(h:valV kvs k=none):putK kvs k v=kvs++[(k,v)]:=by
 unfold putK
 rw[jBR,h]
 exact ai (by decide)
theorem RelO.isSome_eq {o:Option V}{u:Option Value}(r:RelO o u):o.isSome=u.isSome:=by
 cases o with
 | none=>cases u with
  | none=>rfl
  | some _=>exact(show False from r).elim
 | some _=>cases u with
  | none=>exact(show False from r).elim
  | some _=>rfl
theorem KV.val {kvs:List (κ×V)}{vs:List (κ×Value)}(r:KV kvs vs)(k:κ):RelO (valV kvs k) (valueAt vs k):=by
 unfold KV at r
 induction r with
 | nil=>exact True.intro
 | @cons p q ps qs h t ih=>
  obtain⟨h1,h2⟩:=h
  by_cases e:p.1=k
  ·have e':q.1=k:=h1.symm.trans e
   have b:valueAt (q::qs) k=some q.2:=by simp [valueAt,dR,e']
   rw[jBP e,b]; exact h2
  ·have e':¬ q.1=k:=fun z=>e (h1.trans z)
   have b:valueAt (q::qs) k=valueAt qs k:=by simp [valueAt,dR,e']
   rw[jB5 e,b]; exact ih
theorem KV.any {kvs:List (κ×V)}{vs:List (κ×Value)}(r:KV kvs vs)(k:κ):(kvs.any fun kv=>decide (kv.1=k))=vs.any fun kv=>decide (kv.1=k):=by
 unfold KV at r
 induction r with
 | nil=>rfl
 | cons h t ih=>rw[fz,fz,ih,h.1]
theorem KV.repl {kvs:List (κ×V)}{vs:List (κ×Value)}(r:KV kvs vs)(k:κ){y:V}{u:Value}(ry:RelV y u):
  KV (kvs.map fun kv=>if kv.1=k then (kv.1,y) else kv) (vs.map fun kv=>if kv.1=k then (kv.1,u) else kv):=by
 unfold KV at r ⊢
 induction r with
 | nil=>exact .nil
 | @cons p q ps qs h t ih=>
  rw[aY,aY]
  refine .cons ?_ ih
  obtain⟨h1,h2⟩:=h
  by_cases e:p.1=k
  ·rw[aj e,aj (h1.symm.trans e)]; exact⟨h1,ry⟩
  ·rw[ai e,ai (fun z=>e (h1.trans z))]; exact⟨h1,h2⟩
theorem KV.put {kvs:List (κ×V)}{vs:List (κ×Value)}(r:KV kvs vs)(k:κ){y:V}{u:Value}(ry:RelV y u):KV (putK kvs k y) (stored vs k u):=by
 unfold putK stored
 rw[r.any k]
 by_cases e:(vs.any fun kv=>decide (kv.1=k))=true
 ·rw[aj e,aj e]; exact r.repl k ry
 ·rw[ai e,ai e]; exact Paired.snoc r ⟨rfl,ry⟩
theorem KV.keys {kvs:List (κ×V)}{vs:List (κ×Value)}(r:KV kvs vs):kvs.map (·.1)=vs.map (·.1):=by
 unfold KV at r
 induction r with
 | nil=>rfl
 | cons h t ih=>rw[aY,aY,ih,h.1]
theorem KV.length {kvs:List (κ×V)}{vs:List (κ×Value)}(r:KV kvs vs):kvs.length=vs.length:=fw r
end
theorem kV_is {P:Program}{w:World}{k:Key}{u:Value}(r:RelV (kV k) u):(kE P w).is k u=true:=by
 cases k with
 | inl i=>obtain⟨t,e⟩:=(show ∃ t,u=Value.int i t from r); subst e; exact jHI P w i t
 | inr x=>obtain⟨t,e⟩:=(show ∃ t,u=Value.str x t from r); subst e; exact jHH P w x t
theorem jGE {P:Program}{w:World} :∀ {ks:List Key}{us:List Value},Vals (ks.map kV) us->ItemsAre (kE P w) ks us
 | [],_,r=>by rw[h8] at r; cases r; exact .nil
 | k::ks,_,r=>by
  rw[aY] at r
  cases r with
  | cons h t=>exact .cons (kV_is h) (jGE t)
abbrev KT (H:Hp):List (List Key×V)->List (List Key×Addr×Value)->Prop:=Paired fun p q=>p.1=q.1/\H q.2.1=some (.tup (p.1.map kV))/\RelV p.2 q.2.2
theorem KT.val {H:Hp}{kvs:List (List Key×V)}{xs:List (List Key×Addr×Value)}(r:KT H kvs xs)(k:List Key):RelO (valV kvs k) ((atKey xs k).map (·.2)):=by
 induction r with
 | nil=>exact True.intro
 | @cons p q ps qs h t ih=>
  obtain⟨h1,_,h2⟩:=h
  by_cases e:p.1=k
  ·have e':q.1=k:=h1.symm.trans e
   have b:atKey (q::qs) k=some q.2:=by simp [atKey,dR,e']
   rw[jBP e,b]; exact h2
  ·have e':¬ q.1=k:=fun z=>e (h1.trans z)
   have b:atKey (q::qs) k=atKey qs k:=by simp [atKey,dR,e']
   rw[jB5 e,b]; exact ih
theorem KT.repl {H:Hp}{kvs:List (List Key×V)}{xs:List (List Key×Addr×Value)}(r:KT H kvs xs)(k:List Key){y:V}{u:Value}(ry:RelV y u):
  KT H (kvs.map fun kv=>if kv.1=k then (kv.1,y) else kv) (xs.map (putAt k u)):=by
 induction r with
 | nil=>exact .nil
 | @cons p q ps qs h t ih=>
  rw[aY,aY]
  refine .cons ?_ ih
  obtain⟨h1,h2,h3⟩:=h
  unfold putAt
  by_cases e:p.1=k
  ·rw[aj e,aj (h1.symm.trans e)]; exact⟨h1,h2,ry⟩
  ·rw[ai e,ai (fun z=>e (h1.trans z))]; exact⟨h1,h2,h3⟩
theorem KT.put {H:Hp}{kvs:List (List Key×V)}{xs:List (List Key×Addr×Value)}(r:KT H kvs xs)(k:List Key){b:Addr}{y:V}{u:Value}(hb:H b=some (.tup (k.map kV)))(ry:RelV y u):
  KT H (putK kvs k y) (storedH xs k b u):=by
 have e:(kvs.any fun kv=>decide (kv.1=k))=(atKey xs k).isSome:=by
  rw[jBR,(r.val k).isSome_eq,isSome_map]
 unfold putK storedH
 rw[e]
 by_cases q:(atKey xs k).isSome=true
 ·rw[aj q,aj q]; exact r.repl k ry
 ·rw[ai q,ai q]; exact Paired.snoc r ⟨rfl,hb,ry⟩
theorem KT.keeps {H H':Hp}{kvs:List (List Key×V)}{xs:List (List Key×Addr×Value)}(r:KT H kvs xs)(ht:∀ b ys,H b=some (.tup ys)->H' b=some (.tup ys)):KT H' kvs xs:=
 Paired.mapP r fun _ _ z=>⟨z.1,ht _ _ z.2.1,z.2.2⟩
section
variable {P:Program}{w:World}{H:Hp}{h:Heap}{a:Addr}
theorem rd_of {u:HO}(ok:HOk P w H h)(e:Rd H a u):ObjOk P w H h a u:=e.ok ok
theorem dk_rd {kvs:List (Key×V)}(ok:HOk P w H h)(e:Rd H a (.dK kvs)):kvs.length<=sizeLine/\(a==sysModules)=false/\∃ vs,KV kvs vs/\h.DictOf (kE P w) a vs:=
 show ObjOk P w H h a (.dK kvs) from rd_of ok e
theorem dk_of {kvs:List (Key×V)}(ok:HOk P w H h)(e:H a=some (.dK kvs)):kvs.length<=sizeLine/\(a==sysModules)=false/\∃ vs,KV kvs vs/\h.DictOf (kE P w) a vs:=dk_rd ok (.inl e)
theorem jIS {ks:List Key}(ok:HOk P w H h)(e:H a=some (.tup (ks.map kV))):(tupleKind (kE P w)).is h ks a:=by
 obtain⟨_,its,r,p⟩:=(show ObjOk P w H h a (.tup (ks.map kV)) from ok a _ e)
 obtain⟨o,h1,h2,n,h3⟩:=p.isTup
 exact⟨o,its.toArray,n,h1,h2,h3,by simpa using jGE r⟩
theorem dt_rd {kvs:List (List Key×V)}(ok:HOk P w H h)(e:Rd H a (.dT kvs)):kvs.length<=sizeLine/\(a==sysModules)=false/\
  ∃ xs,KT H kvs xs/\h.DictOfH (tupleKind (kE P w)) a xs:=by
 obtain⟨z,y,xs,r,o,es,ep,h1,h2,h3,h4,h5⟩:=(show ObjOk P w H h a (.dT kvs) from rd_of ok e)
 refine⟨z,y,xs,r,o,es,ep,h1,h2,h3,h4,fun x hx=>?_,h5⟩
 have all:∀ {l:List (List Key×V)}{m:List (List Key×Addr×Value)},KT H l m->∀ x∈m,(tupleKind (kE P w)).is h x.1 x.2.1:=by
  intro l m q
  induction q with
  | nil=>intro x hx; exact nomatch hx
  | @cons p q ps qs hq t ih=>
   intro x hx
   rcases aB.mp hx with e | hx
   ·subst e
    exact jIS ok (by rw[<- hq.1]; exact hq.2.1)
   ·exact ih x hx
 exact all r x hx
theorem dt_of {kvs:List (List Key×V)}(ok:HOk P w H h)(e:H a=some (.dT kvs)):kvs.length<=sizeLine/\(a==sysModules)=false/\
  ∃ xs,KT H kvs xs/\h.DictOfH (tupleKind (kE P w)) a xs:=dt_rd ok (.inl e)
end
def DGet (H:Hp)(a:Addr)(y:V)(r:Option V):Prop:=
 (∃ kvs k,Rd H a (.dK kvs)/\y=kV k/\r=valV kvs k)\/∃ kvs k b,Rd H a (.dT kvs)/\y= .ref b/\H b=some (.tup (k.map kV))/\r=valV kvs k
def DPut (H:Hp)(a:Addr)(y v:V)(H':Hp):Prop:=
 (∃ kvs k,H a=some (.dK kvs)/\y=kV k/\kvs.length<sizeLine/\H'=upd H a (.dK (putK kvs k v)))\/
 ∃ kvs k b,H a=some (.dT kvs)/\y= .ref b/\H b=some (.tup (k.map kV))/\kvs.length<sizeLine/\H'=upd H a (.dT (putK kvs k v))
theorem DGet.k {H:Hp}{a:Addr}{kvs:List (Key×V)}{k:Key}(e:H a=some (.dK kvs)):DGet H a (kV k) (valV kvs k):= .inl ⟨kvs,k, .inl e,rfl,rfl⟩
theorem DPut.k {H:Hp}{a:Addr}{kvs:List (Key×V)}{k:Key}{v:V}(e:H a=some (.dK kvs))(hl:kvs.length<sizeLine):DPut H a (kV k) v (upd H a (.dK (putK kvs k v))):= .inl ⟨kvs,k,e,rfl,hl,rfl⟩
section
variable {X:Cx}{pins:List (Addr×Obj)}{σ:St}{H:Hp}{s:Shared}{a:Addr}{y v:V}{u r:Value}{o:Option V}{A:Around}{E:Value->Shared->Prop}
theorem Inv.big (I:Inv X pins σ H s):sysModules<s.heap.objs.size:=by
 have h:mainGlobals<s.heap.objs.size:=(I.mod.glob.keeps I.bk).lt
 exact gm (by decide) h
theorem jMJ {Q:Value->Shared->Prop}(hu:A.units+1<cLine)(I:Inv X pins σ H s)(g:DGet H a y (some v))(ry:RelV y u)(h:∀ w' s',Inv X pins σ H s'->RelV v w'->Q w' s'):
  wpAny (model X.prog X.w) A (getItem (.ref a) u) Q E s:=by
 rcases g with ⟨kvs,k,e,ey,l⟩ | ⟨kvs,k,b,e,ey,eb,l⟩
 ·subst ey
  obtain⟨z,hd,vs,rel,dd⟩:=dk_rd I.hok e
  obtain⟨w',hw,rw'⟩:=RelO.some_of (v:=v) (o:=valueAt vs k) (by rw[l]; exact rel.val k)
  exact wpAny_getItem_of (kV_is ry) dd.mapOf hw (h w' _ (I.tok _) rw')
 ·subst ey
  cases (show u=Value.ref b from ry)
  obtain⟨z,hd,xs,rel,dd⟩:=dt_rd I.hok e
  obtain⟨w',hw,rw'⟩:=RelO.some_of (v:=v) (o:=(atKey xs k).map (·.2)) (by rw[l]; exact rel.val k)
  obtain⟨p,hp,hp2⟩:=Option.map_eq_some_iff.mp hw
  refine wpAny_getItem_heap (gB hu) (jIS I.hok eb) dd hp ?_
  rw[hp2]
  exact h w' _ (I.tok _) rw'
theorem jS7 {Q:Value->Shared->Prop}(hu:A.units+1<cLine)(I:Inv X pins σ H s)(g:DGet H a y o)(ry:RelV y u)(h:∀ s',Inv X pins σ H s'->Q (.bool (!o.isSome)) s'):
  wpAny (model X.prog X.w) A (compareOp .NotIn u (.ref a)) Q E s:=by
 rcases g with ⟨kvs,k,e,ey,l⟩ | ⟨kvs,k,b,e,ey,eb,l⟩
 ·subst ey
  obtain⟨z,hd,vs,rel,dd⟩:=dk_rd I.hok e
  refine wpAny_notIn_of (kV_is ry) hd dd.mapOf ?_
  rw[<- (rel.val k).isSome_eq,<- l]
  exact h _ (I.tok _)
 ·subst ey
  cases (show u=Value.ref b from ry)
  obtain⟨z,hd,xs,rel,dd⟩:=dt_rd I.hok e
  refine wpAny_notIn_heap (gB hu) (jIS I.hok eb) hd dd ?_
  have q:=(rel.val k).isSome_eq
  rw[isSome_map] at q
  rw[<- q,<- l]
  exact h _ (I.tok _)
theorem jHT {h':Heap}{t':Nat}{ob:HO}(I:Inv X pins σ H s)(mu:Mut (H a))(hs:Heap.SameBut a s.heap h')(he:∃ q,h'.get? a=some q)(new:ObjOk X.prog X.w (upd H a ob) h' a ob):
  Inv X pins σ (upd H a ob) { s with heap:=h',toks:=t'} :=
 I.write (x:=a) (e:=a) mu (.inl rfl) (fun b q hb z=>(hs.2 b hb).trans z) he new
theorem jPR {P:Program}{w:World}{H':Hp}{h':Heap}{kvs:List (Key×V)}{vs:List (Key×Value)}(z:kvs.length<=sizeLine)(hd:(a==sysModules)=false)(rel:KV kvs vs)(dd:h'.DictOf (kE P w) a vs):
  ObjOk P w H' h' a (.dK kvs):=⟨z,hd,vs,rel,dd⟩
theorem jMI {H':Hp}{Q:Unit->Shared->Prop}(hu:A.units+1<cLine)(I:Inv X pins σ H s)(g:DPut H a y v H')(ry:RelV y u)(rv:RelV v r)(h:∀ s',Inv X pins σ H' s'->Q () s'):
  wpAny (model X.prog X.w) A (setItem (.ref a) u r) Q E s:=by
 rcases g with ⟨kvs,k,e,ey,l,eH⟩ | ⟨kvs,k,b,e,ey,eb,l,eH⟩
 ·subst ey eH
  obtain⟨z,hd,vs,rel,dd⟩:=dk_of I.hok e
  have hz:vs.length<=sizeLine:=by rw[<- rel.length]; exact z
  have hl:(putK kvs k v).length<=sizeLine:=by have:=jAT kvs k v; omega
  refine wpAny_setItem_pairs (hsz:=hz) (kV_is ry) dd fun h' dd' hs=>h _ ?_
  have he:∃ q,h'.get? a=some q:=let ⟨q,_,_,hq,_⟩:=dd'; ⟨q,hq⟩
  exact jHT I (by rw[e]; exact True.intro) hs he (jPR hl hd (rel.put k rv) dd')
 ·subst ey eH
  cases (show u=Value.ref b from ry)
  obtain⟨z,hd,xs,rel,dd⟩:=dt_of I.hok e
  have hz:xs.length<=sizeLine:=by rw[<- fw rel]; exact z
  have hl:(putK kvs k v).length<=sizeLine:=by have:=jAT kvs k v; omega
  refine wpAny_setItem_heap (hsz:=hz) (gB hu) (jIS I.hok eb) dd fun h' dd' hs=>h _ ?_
  obtain⟨q,es,ep,hq,h2,h3,h4,_,h5⟩:=dd'
  refine jHT I (by rw[e]; exact True.intro) hs ⟨q,hq⟩ ⟨hl,hd,_,(rel.put k eb rv).keeps fun c ys ec=>?_,q,es,ep,hq,h2,h3,h4,h5⟩
  rw[j9 (ne_of ec e (fun z=>nomatch z))]
  exact ec
end
section
variable {X:Cx}{pins:List (Addr×Obj)}{σ:St}{H:Hp}{s:Shared}{a:Addr}{kvs:List (Key×V)}{k:Key}{u:Value}{A:Around}{E:Value->Shared->Prop}
end
def NoSl (i:Expr):Prop:=∀ ov iv,subscripted i false ov iv=operate [ov,iv] (getItem ov iv)
theorem jQ3 {prog:Program}{w:World}{A:Around}{E:Value->Shared->Prop}{s:Shared}{env:Env}{value slice:Expr}{pos:Pos}{T id:String}{Q:Value->Shared->Prop}
  (hl:typeLookup (.type T) "__getitem__" =pure (some (.builtin id))) (hs:NoSl slice)
  (h:wpAny (model prog w) A (eval value env) (fun o s₁=>wpAny (model prog w) A (eval slice env) (fun i s₂=>s₂.TypeIs o T/\wpAny (model prog w) A (getItem o i) Q E s₂) E s₁) E s):
  wpAny (model prog w) A (eval (.Subscript value slice pos) env) Q E s:=by
 refine Subscript_ (ck h (fun o s₁ h₁=>ck h₁ (fun i s₂ h₂=>?_) fun _ _ x=>x) fun _ _ x=>x)
 obtain⟨hT,h₂⟩:=h₂
 unfold subscriptTail
 refine aa ?_
 rw[getitemInPython_of_ne hT.not_modules]
 refine aa (wpAny_specialOf hT hl ?_)
 have fin:wpAny (model prog w) A (subscripted slice false o i) (fun r s₃=>wpAny (model prog w) A (letTemporaryGo value o r >>= fun _=>pure r) Q E s₃) E s₂:=by
  rw[hs o i]
  exact wpAny_operating (ck h₂ (fun r s₃ h₃=>aa (wpAny_letTemporaryGo (af h₃))) fun _ _ x=>x)
 first
  | exact af (aa fin)
  | exact aa (af (aa fin))
  | exact aa fin
theorem jHS {X:Cx}{pins:List (Addr×Obj)}{σ:St}{H:Hp}{s:Shared}{a:Addr}{y:V}{o:Option V}(I:Inv X pins σ H s)(g:DGet H a y o):s.TypeIs (.ref a) "dict" :=by
 rcases g with ⟨kvs,k,e,_,_⟩ | ⟨kvs,k,b,e,_,_,_⟩
 ·obtain⟨_,_,vs,_,dd⟩:=dk_rd I.hok e
  exact dd.typeIs
 ·obtain⟨_,_,xs,_,dd⟩:=dt_rd I.hok e
  exact dd.typeIs
def tDGet (td ty:TE):TE:=fun σ H Q=>td σ H fun x H1=>ty σ H1 fun y H2=>∃ a v,x= .ref a/\DGet H2 a y (some v)/\Q v H2
def jKI (ty td:TE):TE:=fun σ H Q=>ty σ H fun y H1=>td σ H1 fun x H2=>∃ a o,x= .ref a/\DGet H2 a y o/\Q (.bl (!o.isSome)) H2
def sDPut (td ty tv:TE):TS:=fun D σ H=>tv σ H fun v H1=>td σ H1 fun x H2=>ty σ H2 fun y H3=>∃ a H4,x= .ref a/\DPut H3 a y v H4/\D.nx σ H4
section
variable {X:Cx}{o i e value:Expr}{pos pos' tpos:Pos}{td ty tv:TE}
theorem jQT (hu:X.A.units+1<cLine)(ho:PE X o td)(hi:PE X i ty)(hs:NoSl i):PE X (.Subscript o i pos) (tDGet td ty):=by
 intro pins s σ H Q I h
 refine jQ3 PySem.F.slot_dict_getitem.lookup hs (thn (ho pins s σ H _ I h) fun u s1 ⟨x,H1,I1,rx,q1⟩=>thn (hi pins s1 σ H1 _ I1 q1) fun iv s2 ⟨y,H2,I2,ry,a,v,ex,g,q2⟩=>?_)
 subst ex
 obtain rfl:u=Value.ref a:=rx
 exact⟨jHS I2 g,jMJ hu I2 g ry fun w' s3 I3 rw'=>⟨v,H2,I3,rw',q2⟩⟩
theorem jL0 (hu:X.A.units+1<cLine)(hi:PE X i ty)(ho:PE X o td):PC X .NotIn i o (jKI ty td):=by
 intro pins s σ H Q I h
 refine thn (hi pins s σ H _ I h) fun iv s1 ⟨y,H1,I1,ry,q1⟩=>thn (ho pins s1 σ H1 _ I1 q1) fun u s2 ⟨x,H2,I2,rx,a,ov,ex,g,q2⟩=>?_
 subst ex
 obtain rfl:u=Value.ref a:=rx
 exact jS7 hu I2 g ry fun s3 I3=>⟨.bl (!ov.isSome),H2,I3,rfl,q2⟩
theorem jQJ (hu:X.A.units+1<cLine)(ho:PE X o td)(hi:PE X i ty)(hv:PE X value tv)(hs:swapsWith value (some (.Subscript o i pos')) pos.line X.env=pure false):
  PS X (.Assign [.Subscript o i pos'] value pos) (sDPut td ty tv):=by
 intro pins s σ H D I h
 refine wpAny_Assign_Subscript (thn (hv pins s σ H _ I h) fun r s1 ⟨v,H1,I1,rv,q1⟩=>thn (ho pins s1 σ H1 _ I1 q1) fun u s2 ⟨x,H2,I2,rx,q2⟩=>thn (hi pins s2 σ H2 _ I2 q2) fun iv s3 ⟨y,H3,I3,ry,a,H4,ex,g,q3⟩=>?_) hs
 subst ex
 obtain rfl:u=Value.ref a:=rx
 exact jMI hu I3 g ry rv fun s4 I4=>⟨σ,H4,I4,q3⟩
end
theorem jON {P:Program}{w:World}{H:Hp}(h:Heap)(hb:sysModules<h.objs.size):ObjOk P w H (h.push { cls:= .type "dict",data:= .dict #[]}) h.objs.size (.dK []):=
 ⟨bb _,cf.mpr (dD (aS hb)),[], .nil,Heap.DictOf.new h⟩
section
variable {X:Cx}{pos:Pos}
end
def jKG:List (TE×TE)->St->Hp->(List (V×V)->Hp->Prop)->Prop
 | [],_,H,Q=>Q [] H
 | (tk,tv)::r,σ,H,Q=>tk σ H fun x H1=>tv σ H1 fun y H2=>jKG r σ H2 fun ps H3=>Q ((x,y)::ps) H3
abbrev VV:List (V×V)->List (Value×Value)->Prop:=Paired fun p q=>RelV p.1 q.1/\RelV p.2 q.2
def PPs (X:Cx)(pos:Pos)(keys:List (Option Expr))(values:List Expr)(trs:List (TE×TE)):Prop:=
 ∀ (pins:List (Addr×Obj)) (s:Shared) (σ:St) (H:Hp) (Q:List (V×V)->Hp->Prop),Inv X pins σ H s->jKG trs σ H Q->
  wpAny (model X.prog X.w) X.A (evalPairs (pairTrees keys values X.env pos)) (fun vs s'=>∃ ps H',Inv X pins σ H' s'/\VV ps vs/\Q ps H') X.xe s
theorem jQK {X:Cx}{pos:Pos} :PPs X pos [] [] []:=fun pins s σ H Q I h=>pairTrees_nil_walk ⟨[],H,I, .nil,h⟩
theorem jNL {X:Cx}{pos:Pos}{k v:Expr}{ks:List (Option Expr)}{vs:List Expr}{tk tv:TE}{trs:List (TE×TE)}(hk:PE X k tk)(hv:PE X v tv)(hr:PPs X pos ks vs trs):
  PPs X pos (some k::ks) (v::vs) ((tk,tv)::trs):=fun pins s σ H Q I h=>
 pairTrees_cons_walk (thn (hk pins s σ H _ I h) fun u s1 ⟨x,H1,I1,rx,q1⟩=>thn (hv pins s1 σ H1 _ I1 q1) fun w2 s2 ⟨y,H2,I2,ry,q2⟩=>
  thn (hr pins s2 σ H2 _ I2 q2) fun ws s3 ⟨ps,H3,I3,rel,q3⟩=>⟨(x,y)::ps,H3,I3, .cons ⟨rx,ry⟩ rel,q3⟩)
def jGA (kvs more:List (Key×V)):List (Key×V):=more.foldl (fun acc kv=>putK acc kv.1 kv.2) kvs
theorem KV.merge:∀ {more:List (Key×V)}{rs:List (Key×Value)}{kvs:List (Key×V)}{vs:List (Key×Value)},KV more rs->KV kvs vs->KV (jGA kvs more) (merged vs rs):=by
 intro more rs kvs vs r
 unfold KV at r
 induction r generalizing kvs vs with
 | nil=>intro q; exact q
 | @cons p q ps qs h t ih=>
  intro r0
  have e:KV (putK kvs p.1 p.2) (stored vs q.1 q.2):=by
   have:=r0.put p.1 h.2
   rw[<- h.1]; exact this
  exact ih e
theorem jC1:∀ (more kvs:List (Key×V)),(jGA kvs more).length<=kvs.length+more.length
 | [],kvs=>by show kvs.length<=kvs.length+0; omega
 | p::r,kvs=>by
  have h1:=jC1 r (putK kvs p.1 p.2)
  have h2:=jAT kvs p.1 p.2
  show (jGA (putK kvs p.1 p.2) r).length<=_
  rw[aK]; omega
theorem jER {P:Program}{w:World} :∀ {kvs:List (Key×V)}{ws:List (Value×Value)},VV (kvs.map fun kv=>(kV kv.1,kv.2)) ws->∃ rs,Carries (kE P w) ws rs/\KV kvs rs
 | [],_,r=>by rw[h8] at r; cases r; exact⟨[],True.intro, .nil⟩
 | p::kvs,_,r=>by
  rw[aY] at r
  cases r with
  | @cons a b as bs h t=>
   obtain⟨rs,c,q⟩:=jER (P:=P) (w:=w) t
   obtain⟨b1,b2⟩:=b
   exact⟨(p.1,b2)::rs,⟨kV_is h.1,rfl,c⟩, .cons ⟨rfl,h.2⟩ q⟩
def tDisp (trs:List (TE×TE)):TE:=fun σ H Q=>∀ p,H p=none->jKG trs σ (upd H p (.dK [])) fun ps H2=>H2 p=some (.dK [])/\∃ kvs:List (Key×V),ps=kvs.map (fun kv=>(kV kv.1,kv.2))/\kvs.length<=15/\Q (.ref p) (upd H2 p (.dK (jGA [] kvs)))
theorem jQS {X:Cx}{pos:Pos}{keys:List (Option Expr)}{values:List Expr}{trs:List (TE×TE)}(h:PPs X pos keys values trs)(hall:keys.all (·.isSome)=true)(hl:keys.length=values.length)(h0:keys≠ [])
  (h15:keys.length<=15):PE X (.Dict keys values pos) (tDisp trs):=by
 intro pins s σ H Q I q
 have hn:=I.hok.fresh (ak s.heap.objs.size)
 have I1:=I.laid (a:=s.heap.objs.size) (o:= .dK []) (h':=s.heap.push { cls:= .type "dict",data:= .dict #[]}) (t':=s.toks) (fun _ _ q=>ab _ q) (ak _) (jON s.heap I.big)
 refine wpAny_Dict_walk (knd:=kE X.prog X.w) hall hl h0 h15 (thn (h pins _ σ _ _ I1 (q _ hn)) fun ws s2 ⟨ps,H2,I2,rel,e,kvs,ep,lk,q2⟩=>?_)
 subst ep
 obtain⟨rs,c,rk⟩:=jER (P:=X.prog) (w:=X.w) rel
 obtain⟨z,hd,vs0,r0,dd⟩:=dk_of I2.hok e
 cases r0
 refine⟨rs,c,dd,fun h' dd' hs=>⟨.ref s.heap.objs.size,_,?_,rfl,q2⟩⟩
 have hz:(jGA [] kvs).length<=sizeLine:=by
  have h1:=jC1 kvs []
  rw[cQ] at h1
  rw[dE]; omega
 have he:∃ q,h'.get? s.heap.objs.size=some q:=let ⟨q,_,_,hq,_⟩:=dd'; ⟨q,hq⟩
 exact jHT I2 (by rw[e]; exact True.intro) hs he (jPR hz hd (rk.merge .nil) dd')
def IsD (H:Hp)(a:Addr):Prop:=(∃ kvs,Rd H a (.dK kvs))\/∃ kvs,Rd H a (.dT kvs)
theorem jU7 {X:Cx}{pins:List (Addr×Obj)}{σ:St}{H:Hp}{s:Shared}{a:Addr}(I:Inv X pins σ H s)(d:IsD H a):
  s.TypeIs (.ref a) "dict" /\(∀ b,Value.ref a= .ref b->∃ ob,s.heap.get? b=some ob/\ob.dict=none)/\(a==sysModules)=false:=by
 rcases d with ⟨kvs,e⟩ | ⟨kvs,e⟩
 ·obtain⟨_,hd,vs,_,dd⟩:=dk_rd I.hok e
  refine⟨dd.typeIs,fun b q=>?_,hd⟩
  cases q
  obtain⟨ob,_,_,h1,h2,_⟩:=dd
  exact⟨ob,h1,h2.2.1⟩
 ·obtain⟨_,hd,xs,_,dd⟩:=dt_rd I.hok e
  refine⟨dd.typeIs,fun b q=>?_,hd⟩
  cases q
  obtain⟨ob,_,_,h1,h2,_⟩:=dd
  exact⟨ob,h1,h2.2.1⟩
section
variable {X:Cx}{pins:List (Addr×Obj)}{σ:St}{H:Hp}{s:Shared}{a:Addr}{y d:V}{u r:Value}{o:Option V}{A:Around}{E:Value->Shared->Prop}
end
section
variable {X:Cx}{o e f:Expr}{apos cpos:Pos}{td ty tx:TE}
end
section
variable {X:Cx}{pins:List (Addr×Obj)}{σ:St}{H:Hp}{s:Shared}{a:Addr}{kvs:List (Key×V)}{A:Around}{E:Value->Shared->Prop}
end
section
variable {X:Cx}{pins:List (Addr×Obj)}{σ:St}{H:Hp}{s:Shared}{a:Addr}{y:V}{u:Value}{A:Around}{E:Value->Shared->Prop}
end
section
variable {κ:Type} [DecidableEq κ]
theorem jND {kvs:List (κ×V)}{k:κ}(h:valV kvs k=none):¬ k∈kvs.map (·.1):=by
 intro m
 obtain⟨p,hp,e⟩:=aW.mp m
 have q:(kvs.any fun kv=>decide (kv.1=k))=true:=List.any_eq_true.mpr ⟨p,hp,am e⟩
 rw[jBR,h] at q
 exact absurd q (by simp)
theorem jLA:∀ {l:List κ}{k:κ},l.Nodup->¬ k∈l->(l++[k]).Nodup
 | [],k,_,_=>by simp
 | a::r,k,h,hk=>by
  obtain⟨h1,h2⟩:=bH.mp h
  show (a::(r++[k])).Nodup
  refine bH.mpr ⟨fun m=>?_,jLA h2 fun m=>hk (aB.mpr (Or.inr m))⟩
  rcases aM.mp m with q | q
  ·exact h1 q
  ·exact hk (aB.mpr (Or.inl (aN.mp q).symm))
theorem jRG {kvs:List (κ×V)}{k:κ}(v:V)(hn:(kvs.map (·.1)).Nodup)(h:valV kvs k=none):((putK kvs k v).map (·.1)).Nodup:=by
 rw[jEZ v h,aR]
 exact jLA hn (jND h)
end
section
variable {prog:Program}{w:World}{A:Around}{E:Value->Shared->Prop}{s:Shared}{d:Addr}{kvs:List (Key×Value)}
theorem collect_src {T:String}{r d:Addr}{n:Nat}{P:Nat->Value->Prop}{OK:Heap->Prop}{R:List Value->Shared->Prop}(K:PySem.W.KdlSrc prog w T r d n P OK)(hh:A.handled=none)(hok:OK s.heap)(hn:n<=sizeLine)
  (h:∀ (h':Heap) (tk:Nat) (acc:Array Value),(∀ b o,s.heap.get? b=some o->h'.get? b=some o)->s.heap.objs.size<h'.objs.size->ItemsOf P acc n->R acc.toList { s with heap:=h',toks:=tk}):
  wpAny (model prog w) A (collect (.ref r)) R E s:=by
 have hlt:=K.there _ hok
 unfold collect
 refine aa (iG (df entry_proto_collect' ?_))
 rw[cF gn _]
 show wpAny _ A.in1 (newList [] >>= fun l=>again (.builtin "list.__iadd__" ⟨[l, .ref r],[]⟩)) _ _ s
 refine aa (bI ?_)
 refine af ⟨fE dJ _,df entry_list_iadd' ?_⟩
 rw[cF dJ _]
 have hS:(s.heap.push { cls:= .type "list",data:= .seq ([]:List Value).toArray}).get? s.heap.objs.size=some { cls:= .type "list",data:= .seq #[]} :=az _ rfl
 show wpAny _ A.in1 (Builtin.List.listExtendWith (.ref s.heap.objs.size) (.ref r) (.ref s.heap.objs.size)) _ _ _
 refine ck (PySem.W.kdl_extend (A:=A) (s:= { s with heap:=s.heap.push { cls:= .type "list",data:= .seq ([]:List Value).toArray}})
  (R:=fun (q:Result) (s':Shared)=>∃ (h':Heap) (tk:Nat) (acc:Array Value) (c:Nat),q= .ok (.ret (.ref s.heap.objs.size))/\s'= { s with heap:=h',toks:=tk} /\
   (∀ b o,s.heap.get? b=some o->h'.get? b=some o)/\h'.get? s.heap.objs.size=some { cls:= .type "list",dict:=none,data:= .seq acc c,slots:=#[]} /\ItemsOf P acc n)
  K hh (K.keep _ _ hok fun b _ o e=>ab _ e) s.heap.objs.size (cV hlt.1) (cV hlt.2) (.ref s.heap.objs.size) 0 hS
  (fun h' tk acc c hk hS' hacc=>⟨h',tk,acc,c,rfl,rfl,fun b o e=>hk b o (aS (ay e)) (ab _ e),hS',hacc⟩) hn) (fun fin s' x=>?_) fun e s' x=>?_
 ·cases fin with
  | done f=>
   obtain⟨h',tk,acc,c,e,rfl,hk,hS',hacc⟩:=x
   cases e
   show wpAny _ A (load s.heap.objs.size >>= _) _ _ _
   exact aa (gt hS' (af (h h' tk acc hk (ay hS') hacc)))
  | again c1=>
   refine⟨x.1,d0 x.2 fun q s2 y=>?_⟩
   obtain⟨h',tk,acc,c,rfl,rfl,hk,hS',hacc⟩:=y
   show wpAny _ A (load s.heap.objs.size >>= _) _ _ _
   exact aa (gt hS' (af (h h' tk acc hk (ay hS') hacc)))
 ·obtain⟨_,_,_,_,e',_⟩:=x
  cases e'
theorem jH8 {Q:Value->Shared->Prop}{ks:List Int}(hh:A.handled=none)(lo:(d==sysModules)=false)(D:s.heap.DictOf (kE prog w) d kvs)(hk:kvs.map (·.1)=ks.map Sum.inl)(h64:ks.length<64)
  (h:∀ (hf:Heap) (tk:Nat) (l:Addr) (vs:List Value) (ns:List Int) (e:Nat),s.heap.objs.size<=l->(∀ b u,s.heap.get? b=some u->hf.get? b=some u)->
   hf.get? l=some { cls:= .type "list",data:= .seq vs.toArray e} ->IntsAre vs ns->ns.Perm ks->ns.Pairwise (· <= ·)->Q (.ref l) { s with heap:=hf,toks:=tk}):
  wpAny (model prog w) A (call (.builtin "sorted") [.ref d]) Q E s:=by
 obtain⟨ep,hat⟩:=D.dictAt
 have hlen:kvs.length=ks.length:=by
  have:=bN List.length hk
  rwa [ae,ae] at this
 have hat0:s.heap.DictAt (kE prog w) d kvs ep:=hat
 refine eE kind_sorted plain_sorted entry_sorted (args_sorted1 _) ?_
 unfold Builtin.«sorted»
 refine aa (m:=checkCount "sorted" 1 1 _) (af ?_)
 refine aa (collect_src (A:=A.in1) (kdl_dict (knd:=kE prog w) (kvs:=kvs) (ep:=ep) lo) hh hat0 (by rw[dE]; omega) fun h1 tk acc hk1 hlt1 hacc=>?_)
 have hI:IntsAre acc.toList ks:=by
  have hsz:acc.toList.length=ks.length:=by rw[aG,hacc.1,hlen]
  have hat:∀ (j:Nat) (v:Value),acc.toList[j]?=some v->∃ i t,ks[j]?=some i/\v=Value.int i t:=fun j v e=>by
   obtain⟨k,x,hx,hv⟩:=hacc.2 j v (by rw[<- bu]; exact e)
   have e2:(kvs.map (·.1))[j]?=some k:=by rw[aI,hx]; rfl
   rw[hk,aI] at e2
   cases hq:ks[j]? with
   | none=>rw[hq] at e2; cases e2
   | some i=>
    rw[hq] at e2
    cases e2
    rcases kG (show keyIs (Sum.inl i) v=true from hv) with ⟨i',t,q1,q2⟩ | ⟨x,t,q1,q2⟩
    ·cases q1
     exact⟨i,t,rfl,q2⟩
    ·cases q1
  generalize acc.toList=vs at hsz hat
  clear hk hlen hacc h
  induction vs generalizing ks with
  | nil=>
   cases ks with
   | nil=>exact .nil
   | cons a r=>cases hsz
  | cons v vs ih=>
   cases ks with
   | nil=>cases hsz
   | cons a r=>
    obtain⟨i,t,e1,rfl⟩:=hat 0 v rfl
    cases e1
    exact .cons _ t (ih (by rw[aK] at h64; omega) (by simpa using hsz) fun j v e=>hat (j+1) v e)
 have hl:acc.toList.length<64:=by rw[aG,hacc.1,hlen]; exact h64
 refine aa (fH ?_ (by rw[dE]; omega))
 have hL:(h1.push (seqObj "list" acc.toList.toArray 0)).get? h1.objs.size=some (seqObj "list" acc.toList.toArray 0):=az _ rfl
 show wpAny _ _ _ _ _ { s with heap:=h1.push (seqObj "list" acc.toList.toArray 0),toks:=tk}
 refine aa (b0 (bE gz ⟨_,hL,rfl⟩ ga (list_sort_tree hL hI hl fun out ns' a1 a2 a3=>⟨_,rfl,?_⟩) (args_list_sort _)))
 obtain⟨e,he⟩:=gQ (out:=out) hL
 have kept:∀ b u,s.heap.get? b=some u->(sortedHeap (h1.push (seqObj "list" acc.toList.toArray 0)) h1.objs.size acc.toList out).get? b=some u:=fun b u q=>by
  have q1:=hk1 b u q
  have hb:b<h1.objs.size:=ay q1
  rw[gA (aS hb) (by rw[size_push']; exact bJ hb)]
  exact ab _ q1
 generalize sortedHeap (h1.push (seqObj "list" acc.toList.toArray 0)) h1.objs.size acc.toList out=hf at he kept ⊢
 exact af ⟨_,rfl,h hf tk h1.objs.size out.toList ns' e (cI hlt1) kept (by rw[cW]; exact he) a1 a2 a3⟩
end
section
variable {X:Cx}{o i e f value:Expr}{td ty tv tx:TE}{pos pos' apos cpos:Pos}
theorem jGN (hc:X.calm=true):yO X (.builtin "sorted") (fun xs H Q=>∃ (p:Addr) (kvs:List (Key×V)) (ks:List Int),xs=[.ref p]/\H p=some (.dK kvs)/\kvs.map (·.1)=ks.map Sum.inl/\ks.length<64/\
  ∀ (l:Addr) (ns:List Int),H l=none->ns.Pairwise (· <= ·)->ns.Perm ks->Q (.ref l) (upd H l (.lst (ns.map V.int)))):=by
 intro pins s σ H xs us Q I r h
 obtain⟨p,kvs,ks,rfl,hp,hk,hn,q⟩:=h
 obtain⟨u,rfl,rx⟩:=r.one
 cases rx
 obtain⟨z,lo,vs,rel,dd⟩:=dk_of I.hok hp
 refine jH8 (I.ok.hd hc) lo dd (by rw[<- rel.keys]; exact hk) hn fun hf tk l vs ns e hl kp he hi pm srt=>?_
 have hz:(ns.map V.int).length<=sizeLine:=by
  rw[ae,pm.length_eq,dE]
  omega
 have I2:Inv X pins σ (upd H l (.lst (ns.map V.int))) { s with heap:=hf,toks:=tk} :=I.laid (t':=tk) kp hl ⟨hz,vs,e,jAA hi,he⟩
 exact⟨.ref l,_,I2,rfl,q l ns (I.hok.fresh hl) srt pm⟩
theorem jB2 (hu:X.A.units+1<cLine)(ho:JE X o td)(hi:JE X i ty)(hs:jAW i):JE X (.Subscript o i pos) (tDGet td ty):=⟨jQT hu ho.h hi.h hs⟩
theorem jF9 (hu:X.A.units+1<cLine)(ho:JE X o td)(hi:JE X i ty)(hv:JE X value tv)(hs:SwOk value (some (.Subscript o i pos'))):JS X (.Assign [.Subscript o i pos'] value pos) (sDPut td ty tv):=⟨jQJ hu ho.h hi.h hv.h (hs.h _ _)⟩
end
section
variable {prog:Program}{w:World}{A:Around}{E:Value->Shared->Prop}{s:Shared}
end
section
variable {prog:Program}{w:World}{K:Type} [DecidableEq K]{knd:KeyKind prog w K}{A:Around}{R:Result->Shared->Prop}{I:Addr}{fp wr:List Addr}{n:Nat}{P:Nat->Value->Prop}{St:Nat->Shared->Prop}
end
section
variable {prog:Program}{w:World}{K:Type} [DecidableEq K]{knd:KeyKind prog w K}{A:Around}{E:Value->Shared->Prop}{s:Shared}
end
section
variable {X:Cx}
end
section
variable {X:Cx}
end
section
variable {P:Program}{w:World}{K:W.Frag}{mg:Str->Option Value}{base:Heap}{N:List Str}{qual:Str}{sc:Scope}{f:Addr}{cd:Value}{cl:List (Str×Addr)}{A:Around}{outer:List Env}{s:Shared}{H:Hp}{x:Str}
theorem gl_n (h:sc.names.lookup x=some .globalImplicit):Gl1 (cxN P w K mg base N qual sc f cd cl A outer s H) x:=⟨h⟩
theorem vis_n (h:sc.names.lookup x=some .local):Vis1 (cxN P w K mg base N qual sc f cd cl A outer s H) x:=⟨.inl h⟩
end
section
variable {X:Cx}
def AtS (tp:Bool)(H:Hp)(a:Addr)(xs:List V):Prop:=match tp with
 | false=>H a=some (.lst xs)
 | true=>H a=some (.tup xs)
end
section
variable {K:W.Frag}{m:List (Option Nat)}{g:TG}{tt:TT}{te:TE}{σ:St}{H1:Hp}{Q:VK}
theorem jMO {a:Addr}{xs:List V}(hn:xs.length<sizeLine)(Pv:Addr->Nat->St->Hp->List V->Prop)(h0:∀ D,H1 D=none->Pv D 0 (blkσ m σ) (upd H1 D (.lst [])) [])
  (hD:∀ D i σ' H' zs,H1 D=none->Pv D i σ' H' zs->H' a=some (.lst xs)/\H' D=some (.lst zs)/\zs.length<=i)
  (hs:∀ D i σ' H' zs x,H1 D=none->xs[i]?=some x->Pv D i σ' H' zs->g x σ' H' fun σ2 H2=>tt σ2 H2 fun b H3=>if b=true then te σ2 H3 fun v H4=>H4 D=some (.lst zs)/\Pv D (i+1) σ2 (upd H4 D (.lst (zs++[v]))) (zs++[v]) else Pv D (i+1) σ2 H3 zs)
  (hd:∀ D σ' H' zs,H1 D=none->Pv D xs.length σ' H' zs->Q (.ref D) H'):qQ m g tt te σ Q (Itl K a) H1:=by
 intro D hDn
 refine⟨fun i k σ' H' zs=>k=xs.length - i/\i<=xs.length/\Pv D i σ' H' zs,⟨_,rfl,bb _,h0 D hDn⟩,?_⟩
 rintro i k σ' H' zs ⟨rfl,hi,p⟩
 obtain⟨s1,q1,q2⟩:=hD D i σ' H' zs hDn p
 refine⟨q1,by omega,?_⟩
 by_cases hlt:i<xs.length
 ·refine .inr ⟨⟨xs,xs[i],SqL.of s1,by simp [hlt]⟩,Pv D (i+1),fun σ2 H2 zs z=>⟨xs.length - (i+1),by omega,rfl,hlt,z⟩,fun v H'' y=>?_⟩
  obtain⟨e1,e2⟩:=y
  subst e1
  exact hs D i σ' _ zs v hDn (e2 xs (SqL.of s1)) p
 ·have e:i=xs.length:=by omega
  subst e
  exact .inl ⟨⟨xs,SqL.of s1,ak _⟩,hd D σ' H' zs hDn p⟩
end
theorem ExtT.of {T:Addr}{H H':Hp}(e:Ext H H'):ExtT T H H':=fun b o h _=>e b o h
theorem ExtT.refl {T:Addr}(H:Hp):ExtT T H H:=fun b o h _=>h
theorem ExtT.trans {T:Addr}{H H' H'':Hp}(a:ExtT T H H')(b:ExtT T H' H''):ExtT T H H'':=fun c o h n=>b c o (a c o h n) n
theorem TabOk.is {H:Hp}{T:Addr}{pos:Pos}{q:Str}(t:TabOk H T pos q):∃ ps,H T=some (.tbl ps):=by
 rcases t with h | ⟨c,h,_⟩
 ·exact⟨_,h⟩
 ·exact⟨_,h⟩
theorem TabOk.ne {H:Hp}{T:Addr}{pos:Pos}{q:Str}(t:TabOk H T pos q){b:Addr}{o:HO}(h:H b=some o)(ho:∀ ps,o≠ .tbl ps):b≠T:=fun e=>by
 obtain⟨ps,z⟩:=t.is
 rw[e,z] at h
 cases h
 exact ho ps rfl
theorem TabOk.ext {H H':Hp}{T:Addr}{pos:Pos}{q:Str}(t:TabOk H T pos q)(e:Ext H H'):TabOk H' T pos q:=by
 rcases t with h | ⟨c,h,h2⟩
 ·exact .inl (e _ _ h)
 ·exact .inr ⟨c,e _ _ h,e _ _ h2⟩
theorem ExtT.at {T:Addr}{H H':Hp}(e:ExtT T H H'){pos:Pos}{q:Str}(t:TabOk H T pos q){b:Addr}{o:HO}(h:H b=some o)(ho:∀ ps,o≠ .tbl ps:=by intro _ z; cases z):H' b=some o:=e b o h (t.ne h ho)
structure FunC (K:W.Frag)(x qual:Str)(st:Stmt)(f:Addr)(fd:FuncData)(c0:Addr):Prop where
 ex:∃ (oc:Value) (od:Option Addr) (kV doc pm:Value) (an:Option Addr) (ct:Value) (osl:Array (Option Value)),fd=PySem.W.fnOf x qual (jF st) (jC st) (j8 st) .none kV doc pm an (.ref c0) ct/\K.lookup f=some ⟨oc,od, .func fd,osl⟩/\PySem.W.codeIn K (.ref c0) qual=true
theorem FunC.ok {P:Program}{w:World}{K:W.Frag}{mg:Str->Option Value}{base:Heap}{x qual:Str}{st:Stmt}{f c0:Addr}{fd:FuncData}{N ps:List Str}{k:Nat}{sp:Sp}(F:FunC K x qual st f fd c0)(S:FnScope N ps (j8 st))(len:∀ vs H Q E,sp vs H Q E->vs.length=ps.length)
  (hbody:∀ (A:Around) (outer:List Env) (s:Shared) (H:Hp) (vs:List V) (Q:VK) (E:XK),Room k (A.deeper (envOfC qual (j8 st) s.heap.objs.size f (.ref c0)))->sp vs H Q E->
   ∃ t,PSs (cxOf CX0 P w K mg base N qual (j8 st) f (.ref c0) A outer s H E).nox (jC st) t/\t { nx:=fun _ H'=>Q .non H',rt:=Q} (kX N vs) H):FnOk P w K mg base CX0 (k+1) f fd ps sp:=by
 obtain⟨oc,od,kV,doc,pm,an,ct,osl,rfl,lk,hcd⟩:=F.ex
 refine fn_of lk hcd S len fun A outer s H vs Q E hr hsp=>?_
 obtain⟨t,ht,hq⟩:=hbody A outer s H vs Q E hr hsp
 exact⟨t,ht.nox,hq⟩
section
variable {X:Cx}{sc:Scope}{cl:List (Str×Addr)}{C:Addr}{Nc:List Str}{fp:List Addr}{s:Shared}{H:Hp}
variable {sc2:Scope}{cl2:List (Str×Addr)}{C2:Addr}{Nc2:List Str}{fp2:List Addr}{s2:Shared}{H2:Hp}
end
theorem jLT {X:Cx}{st:Stmt} :JS X st (fun _ _ _=>False):=⟨fun _ _ _ _ _ _ h=>h.elim⟩
section
variable {K:W.Frag}{m:List (Option Nat)}{g:TG}{tt:TT}{te:TE}{σ:St}{H:Hp}{Q:VK}
abbrev TupsK (H H':Hp):Prop:=∀ b xs,H b=some (.tup xs)->H' b=some (.tup xs)
structure ZOk (Z:Hp->List V->Nat->Prop):Prop where
 z0:∀ H,Z H [] 0
 mono:∀ H H' zs j,TupsK H H'->Z H zs j->Z H' zs j
 len:∀ H zs j,Z H zs j->zs.length<=j
theorem jFQ {H:Hp}{D:Addr}{zs:List V}(h:H D=some (.lst zs))(o:HO):TupsK H (upd H D o):=fun b xs hb=>by
 rw[j9 (fun e=>by rw[e,h] at hb; cases hb)]
 exact hb
def TurnZ (g:TG)(tt:TT)(te:TE)(σP:St->Prop)(Z:Hp->List V->Nat->Prop)(x:V)(j:Nat)(σ':St)(H':Hp)(zs:List V):Prop:=
 ∀ (R:St->V->Hp->Prop) (S:St->Hp->Prop),(∀ σ2 v H2,σP σ2->Ext H' H2->Z H2 (zs++[v]) (j+1)->R σ2 v H2)->(∀ σ2 H2,σP σ2->Ext H' H2->Z H2 zs (j+1)->S σ2 H2)->
  g x σ' H' fun σ2 H2=>tt σ2 H2 fun b H3=>if b=true then te σ2 H3 (R σ2) else S σ2 H3
theorem jMP {tp:Bool}{a:Addr}{xs:List V}(σP:St->Prop)(Z:Hp->List V->Nat->Prop)(zo:ZOk Z)(ha:AtS tp H a xs)(hn:xs.length<sizeLine)(h0:σP (blkσ m σ))
  (step:∀ j x σ' H' zs,xs[j]?=some x->σP σ'->Ext H H'->Z H' zs j->TurnZ g tt te σP Z x j σ' H' zs)
  (hd:∀ D H' zs,H' D=some (.lst zs)->Ext H H'->H D=none->Z H' zs xs.length->Q (.ref D) H'):qQ m g tt te σ Q (match tp with | false=>Itl K a | true=>Itt K a) H:=by
 have turn:∀ D j σ' H' zs x,H D=none->xs[j]?=some x->(σP σ'/\Ext H H'/\H' D=some (.lst zs)/\H D=none/\Z H' zs j)->g x σ' H' fun σ2 H2=>tt σ2 H2 fun b H3=>if b=true then te σ2 H3 fun v H4=>H4 D=some (.lst zs)/\(σP σ2/\Ext H (upd H4 D (.lst (zs++[v])))/\(upd H4 D (.lst (zs++[v]))) D=some (.lst (zs++[v]))/\H D=none/\Z (upd H4 D (.lst (zs++[v]))) (zs++[v]) (j+1)) else (σP σ2/\Ext H H3/\H3 D=some (.lst zs)/\H D=none/\Z H3 zs (j+1)):=by
  rintro D j σ' H' zs x hD hx ⟨p,e,h2,hn,hz⟩
  exact step j x σ' H' zs hx p e hz _ _ (fun σ2 v H2 p2 e2 z2=>⟨e2 _ _ h2,p2,(e.trans e2).updNew hn _,j6,hn,zo.mono _ _ _ _ (jFQ (e2 _ _ h2) _) z2⟩) fun σ2 H2 p2 e2 z2=>⟨p2,e.trans e2,e2 _ _ h2,hn,z2⟩
 cases tp with
 | false=>exact jMO (xs:=xs) hn (fun D j σ' H' zs=>σP σ'/\Ext H H'/\H' D=some (.lst zs)/\H D=none/\Z H' zs j) (fun D hD=>⟨h0,(Ext.refl _).new hD _,j6,hD,zo.z0 _⟩) (fun D j σ' H' zs hD ⟨_,e,h2,_,hz⟩=>⟨e _ _ ha,h2,zo.len _ _ _ hz⟩) turn fun D σ' H' zs hD ⟨_,e,h2,hn,hz⟩=>hd D H' zs h2 e hn hz
 | true=>exact jDE (xs:=xs) hn (fun D j σ' H' zs=>σP σ'/\Ext H H'/\H' D=some (.lst zs)/\H D=none/\Z H' zs j) (fun D hD=>⟨h0,(Ext.refl _).new hD _,j6,hD,zo.z0 _⟩) (fun D j σ' H' zs hD ⟨_,e,h2,_,hz⟩=>⟨e _ _ ha,h2,zo.len _ _ _ hz⟩) turn fun D σ' H' zs hD ⟨_,e,h2,hn,hz⟩=>hd D H' zs h2 e hn hz
theorem jJ5 {a:Addr}{xs:List V}(σP:St->Prop)(Z:Hp->List V->Nat->Prop)(zo:ZOk Z)(ha:H a=some (.tup xs))(hn:xs.length<sizeLine)(h0:σP (blkσ m σ))
  (step:∀ j x σ' H' zs,xs[j]?=some x->σP σ'->Ext H H'->Z H' zs j->TurnZ g tt te σP Z x j σ' H' zs)
  (hd:∀ D H' zs,H' D=some (.lst zs)->Ext H H'->H D=none->Z H' zs xs.length->Q (.ref D) H'):qQ m g tt te σ Q (Itt K a) H:=jMP (tp:=true) σP Z zo ha hn h0 step hd
theorem jC7 {a:Addr}{xs:List V}(σP:St->Prop)(Z:Hp->List V->Nat->Prop)(zo:ZOk Z)(ha:H a=some (.lst xs))(hn:xs.length<sizeLine)(h0:σP (blkσ m σ))
  (step:∀ j x σ' H' zs,xs[j]?=some x->σP σ'->Ext H H'->Z H' zs j->TurnZ g tt te σP Z x j σ' H' zs)
  (hd:∀ D H' zs,H' D=some (.lst zs)->Ext H H'->H D=none->Z H' zs xs.length->Q (.ref D) H'):qQ m g tt te σ Q (Itl K a) H:=jMP (tp:=false) σP Z zo ha hn h0 step hd
theorem jJ6 {n:Nat}(σP:St->Prop)(Z:Hp->List V->Nat->Prop)(zo:ZOk Z)(hn:n<sizeLine)(h0:σP (blkσ m σ))
  (step:∀ j σ' H' zs,j<n->σP σ'->Ext H H'->Z H' zs j->TurnZ g tt te σP Z (.int (0+j)) j σ' H' zs)
  (hd:∀ D H' zs,H' D=some (.lst zs)->Ext H H'->H D=none->Z H' zs n->Q (.ref D) H'):qQ m g tt te σ Q (Itr 0 n) H:=by
 refine jBA (lo:=0) (n:=n) hn (fun D j σ' H' zs=>σP σ'/\Ext H H'/\H' D=some (.lst zs)/\H D=none/\Z H' zs j) (fun D hD=>⟨h0,(Ext.refl _).new hD _,j6,hD,zo.z0 _⟩) (fun D j σ' H' zs hD hj ⟨_,e,h2,_,hz⟩=>⟨h2,zo.len _ _ _ hz⟩) ?_ fun D σ' H' zs hD ⟨_,e,h2,hn,hz⟩=>hd D H' zs h2 e hn hz
 rintro D j σ' H' zs hD hj ⟨p,e,h2,hn,hz⟩
 exact step j σ' H' zs hj p e hz _ _ (fun σ2 v H2 p2 e2 z2=>⟨e2 _ _ h2,p2,(e.trans e2).updNew hn _,j6,hn,zo.mono _ _ _ _ (jFQ (e2 _ _ h2) _) z2⟩) fun σ2 H2 p2 e2 z2=>⟨p2,e.trans e2,e2 _ _ h2,hn,z2⟩
end
def outZ {α:Type}(l:List α)(p:α->Bool)(f:α->V):Hp->List V->Nat->Prop:=fun _ zs j=>zs=((l.take j).filter p).map f
theorem outZ.ok {α:Type}(l:List α)(p:α->Bool)(f:α->V):ZOk (outZ l p f):=⟨fun _=>rfl,fun _ _ _ _ _ h=>h,fun _ zs j h=>by
 rw[show zs=_ from h,ae]
 exact bv (bV _ _) (di _ _)⟩
theorem outZ.yes {α:Type}{l:List α}{p:α->Bool}{f:α->V}{H H':Hp}{zs:List V}{j:Nat}{x:α}(h:outZ l p f H zs j)(hx:l[j]?=some x)(hp:p x=true):outZ l p f H' (zs++[f x]) (j+1):=by
 show _=_
 rw[bh,hx,bX,aR,<- show zs=_ from h]
 simp [hp]
theorem outZ.no {α:Type}{l:List α}{p:α->Bool}{f:α->V}{H H':Hp}{zs:List V}{j:Nat}{x:α}(h:outZ l p f H zs j)(hx:l[j]?=some x)(hp:p x=false):outZ l p f H' zs (j+1):=by
 show _=_
 rw[bh,hx,bX,aR,<- show zs=_ from h]
 simp [hp]
theorem outZ.all {α:Type}{l:List α}{p:α->Bool}{f:α->V}{H:Hp}{zs:List V}{n:Nat}(h:outZ l p f H zs n)(hn:l.length<=n):zs=(l.filter p).map f:=by
 rw[show zs=_ from h,bO hn]
def mapZ {α:Type}(l:List α)(f:α->V):Hp->List V->Nat->Prop:=fun _ zs j=>zs=(l.take j).map f
theorem mapZ.ok {α:Type}(l:List α)(f:α->V):ZOk (mapZ l f):=⟨fun _=>rfl,fun _ _ _ _ _ h=>h,fun _ zs j h=>by
 rw[show zs=_ from h,ae]
 exact di _ _⟩
theorem mapZ.yes {α:Type}{l:List α}{f:α->V}{H H':Hp}{zs:List V}{j:Nat}{x:α}(h:mapZ l f H zs j)(hx:l[j]?=some x):mapZ l f H' (zs++[f x]) (j+1):=by
 show _=_
 rw[bh,hx,aR,<- show zs=_ from h]
 rfl
theorem mapZ.all {α:Type}{l:List α}{f:α->V}{H:Hp}{zs:List V}{n:Nat}(h:mapZ l f H zs n)(hn:l.length<=n):zs=l.map f:=by
 rw[show zs=_ from h,bO hn]
theorem int_at {l:List Int}{j:Nat}{x:V}(h:(l.map V.int)[j]?=some x):∃ z:Int,l[j]?=some z/\x=V.int z:=by
 rw[aI] at h
 cases hq:l[j]? with
 | none=>rw[hq] at h; cases h
 | some z=>rw[hq] at h; cases h; exact⟨z,rfl,rfl⟩
section
variable {X:Cx}{sc:Scope}{cl:List (Str×Addr)}{C:Addr}{Nc:List Str}{fp:List Addr}{s:Shared}{H:Hp}
end
section
variable {X:Cx}{st:Stmt}{sts:List Stmt}{t:TS}{e:Expr}{tt:TT}
end
end L2
namespace L2
open PySem PySem.Spec PyProof.Rows
end L2
namespace L2
open PySem
end L2
namespace L2
open PySem PySem.Spec PyProof.Rows
section
variable {m:List (Option Nat)}{g:TG}{tt:TT}{te:TE}{σ:St}{H1:Hp}{Q:VK}
end
open PySem.AutoSeq1 (wpAny_loadPart')
section
variable {prog:Program}{w:World}{A:Around}{E:Value->Shared->Prop}{s:Shared}
end
section
variable {X:Cx}
variable {sc:Scope}{cl:List (Str×Addr)}{C:Addr}{Nc:List Str}{fp:List Addr}{s:Shared}{H:Hp}
end
structure FnZ (P:Program)(w:World)(K:W.Frag)(mg:Str->Option Value)(base:Heap)(CX:CXT)(Z:Shared->Hp->Prop)(k:Nat)(f:Addr)(fd:FuncData)(ps:List Str)(sp:Sp):Prop where
 len:∀ vs H Q E,sp vs H Q E->vs.length=ps.length
 run:∀ (A:Around) (outer:List Env) (s:Shared) (H:Hp) (args:Args) (us:List Value) (vs:List V) (Q:VK) (E:XK),Room k A->Env0 P w K mg base A outer s H->BindsTo s fd args (ps.zip us)->Vals vs us->Z s H->sp vs H Q E->
  codeAny (model P w) A (.call (.ref f) args) (CR CX outer P w H s Q E) s
theorem jUA {Z:Shared->Hp->Prop}{CX:CXT}{P:Program}{w:World}{K:W.Frag}{mg:Str->Option Value}{base:Heap}{k:Nat}{f:Addr}{name qual:Str}{params:Arguments}{body:List Stmt}{scope:Scope}{dV kV doc pm cdv ct oc:Value}{an od:Option Addr}
  {osl:Array (Option Value)}{N ps:List Str}{sp:Sp}(lk:K.lookup f=some ⟨oc,od, .func (PySem.W.fnOf name qual params body scope dV kV doc pm an cdv ct),osl⟩) (hcd:PySem.W.codeIn K cdv qual=true) (S:FnScope N ps scope)
  (len:∀ vs H Q E,sp vs H Q E->vs.length=ps.length)
  (hbody:∀ (A:Around) (outer:List Env) (s:Shared) (H:Hp) (vs:List V) (Q:VK) (E:XK),Room k (A.deeper (envOfC qual scope s.heap.objs.size f cdv))->Z s H->sp vs H Q E->
   ∃ t,PSs (cxOf CX P w K mg base N qual scope f cdv A outer s H E) body t/\t { nx:=fun _ H'=>Q .non H',rt:=Q} (kX N vs) H):
  FnZ P w K mg base CX Z (k+1) f (PySem.W.fnOf name qual params body scope dV kV doc pm an cdv ct) ps sp:=by
 refine⟨len,fun A outer s H args us vs Q E hr e0 hb r hz hsp=>?_⟩
 have hl:=len _ _ _ _ hsp
 have KX:K.In s.heap:=e0.mod.kin.keeps fun b o e=>(e0.bs b o e).1
 have lim:s.heap.NoLimit:=e0.mod.nolimit.keeps fun b o e=>(e0.bs b o e).1
 have hkind:∀ y∈ps.zip us,scope.names.lookup y.1=some .local\/(scope.names.lookup y.1=some .cell/\((cellsFrom (s.heap.objs.size+1) scope.names []).lookup y.1).isSome=true):=fun ⟨n,v⟩ hy=>by
  rcases S.par n (dQ hy).1 with q | q
  ·exact .inl q
  ·exact .inr ⟨q,eZ _ _ _ (.inl q)⟩
 refine codeAny_call_function hr.depth (KX _ _ lk) rfl S.co S.gen rfl (i4 KX hcd) (hb _ _ _ _ ?_)
 refine gw S.kind hkind fun env he s1 x=>?_
 subst he
 refine⟨lim.keeps x.toInCall.keep,codeAny_func ?_⟩
 obtain⟨t,ht,hq⟩:=hbody A outer s H vs Q E (hr.deeper _) hz hsp
 have I:Inv (cxOf CX P w K mg base N qual scope f cdv A outer s H E) [] (kX N vs) H s1:=jGF S hr.hd e0 hl r x
 refine ck (ht [] s1 (kX N vs) H _ I hq) (fun fl s' hs=>?_) fun e s' hs=>hs
 have fin:∀ {σ':St}{H':Hp}{v:V}{u:Value},Inv (cxOf CX P w K mg base N qual scope f cdv A outer s H E) [] σ' H' s'->RelV v u->Q v H'->CE outer P w H s Q u s':=
  fun {σ' H' v u} J rv q=>⟨v,H',J.os,J.bare,J.base,J.hok,rv,q⟩
 cases fl with
 | ret u=>
  obtain⟨v,σ',H',J,rv,q⟩:=hs
  exact fin J rv q
 | next=>
  obtain⟨σ',H',J,q⟩:=hs
  exact fin (v:=V.non) (u:=Value.none) J rfl q
 | brk=>
  obtain⟨_,_,_,q⟩:=hs
  exact False.elim q
 | cont=>
  obtain⟨_,_,_,q⟩:=hs
  exact False.elim q
def ZSt (Z:Shared->Hp->Prop):Prop:=∀ (fs:List Addr) (s s':Shared) (H H':Hp),Un fs [] H H' s.heap s'.heap->Z s H->Z s' H'
abbrev ZT:Shared->Hp->Prop:=fun _ _=>True
theorem ZT.st:ZSt ZT:=fun _ _ _ _ _ _ _=>trivial
theorem FnZ.ok {P:Program}{w:World}{K:W.Frag}{mg:Str->Option Value}{base:Heap}{CX:CXT}{k:Nat}{f:Addr}{fd:FuncData}{ps:List Str}{sp:Sp}(F:FnZ P w K mg base CX ZT k f fd ps sp):FnOk P w K mg base CX k f fd ps sp:=
 ⟨F.len,fun A outer s H args us vs Q E hr he hb hv hs=>F.run A outer s H args us vs Q E hr he hb hv trivial hs⟩
section
variable {P:Program}{w:World}{K:W.Frag}{mg:Str->Option Value}{base:Heap}
theorem Fun.okZ {Z:Shared->Hp->Prop}{x qual:Str}{st:Stmt}{f:Addr}{fd:FuncData}{N ps:List Str}{k:Nat}{sp:Sp}(F:Fun K x qual st f fd)(S:FnScope N ps (j8 st))(len:∀ vs H Q E,sp vs H Q E->vs.length=ps.length)
  (hbody:∀ (cdv:Value) (A:Around) (outer:List Env) (s:Shared) (H:Hp) (vs:List V) (Q:VK) (E:XK),Room k (A.deeper (envOfC qual (j8 st) s.heap.objs.size f cdv))->Z s H->sp vs H Q E->
   ∃ t,PSs (cxOf CX0 P w K mg base N qual (j8 st) f cdv A outer s H E).nox (jC st) t/\t { nx:=fun _ H'=>Q .non H',rt:=Q} (kX N vs) H):FnZ P w K mg base CX0 Z (k+1) f fd ps sp:=by
 obtain⟨_,_,_,_,_,_,cdv,_,_,rfl,lk,hcd⟩:=F.ex
 refine jUA lk hcd S len fun A outer s H vs Q E hr hz hsp=>?_
 obtain⟨t,h,q⟩:=hbody cdv A outer s H vs Q E hr hz hsp
 exact⟨t,h.nox,q⟩
end
structure Callee (P:Program)(w:World)(K:W.Frag)(mg:Str->Option Value)(base:Heap)(Z:Shared->Hp->Prop)(zh:Hp->Prop)(k:Nat)(a:Addr)(sp:Sp):Prop where
 fn:∀ (A:Around) (outer:List Env) (s:Shared) (H:Hp),Env0 P w K mg base A outer s H->zh H->PySem.W.FnAt a s.heap
 run:∀ (A:Around) (outer:List Env) (s:Shared) (H:Hp) (us:List Value) (vs:List V) (Q:VK) (E:XK),Room k A->Env0 P w K mg base A outer s H->Z s H->zh H->Vals vs us->sp vs H Q E->codeAny (model P w) A (.call (.ref a) ⟨us,[]⟩) (CR CX0 outer P w H s Q E) s
def jSO (a:Addr)(zh:Hp->Prop)(sp:Sp)(j:Nat)(t:TA):TE:=fun σ H Q=>σ[j]?=some (some (.ref a))/\t σ H fun vs H1=>zh H1/\sp vs H1 Q E0
section
variable {X:Cx}{Z:Shared->Hp->Prop}{zh:Hp->Prop}{k:Nat}{a:Addr}{sp:Sp}{x:Str}{p pos:Pos}{e:Expr}{es:List Expr}{t:TA}{j:Nat}
theorem jOD (F:Callee X.prog X.w X.K X.mg X.base Z zh k a sp)(hr:Room k X.A)(st:ZSt Z)(hz:Z X.s₀ X.H₀)(hex:X.ex=[])(hN:X.N[j]?=some x)(hv:Vis1 X x)
  (ha:JA X (e::es) t) (he:starEach (e::es) X.env=(false,eval e X.env)::starEach es X.env) (hdb:(x==("__debug__" :Str))=false:=by decide) (hcd:(x==("__classdict__" :Str))=false:=by decide) (hpl:(backTo pos (starEach es X.env)).any (·.1)=false:=by rfl):
  JE X (.Call (.Name x p) (e::es) [] pos) (jSO a zh sp j t):=by
 refine⟨fun pins s σ H Q I h=>?_⟩
 obtain⟨hj,h⟩:=h
 refine dM (thn (jKZ (pos:=p) hN hv.a hdb hcd pins s σ H (fun v H'=>v= .ref a/\H'=H) I ⟨_,hj,rfl,rfl⟩) fun v s1 ⟨v',H1,I1,r1,q1,q2⟩=>?_)
 subst q1 q2
 cases (show v=Value.ref a from r1)
 have hX:=thn (ha.h pos pins s1 σ H1 _ I1 h) fun us s2 (z:AP X pins σ _ us s2)=>show PySem.W.FnAt a s2.heap/\wpAny (model X.prog X.w) X.A (call (.ref a) ([]++us)) (EP X pins σ Q) X.xe s2 from by
  obtain⟨vs,H2,I2,r,h1,h2⟩:=z
  have un:=I2.base
  rw[hex] at un
  refine⟨F.fn _ _ _ _ I2.env0 h1,wpAny_call (d0 (F.run X.A X.stack s2 H2 us vs Q E0 hr I2.env0 (st _ _ _ _ _ un hz) h1 r h2) fun r s' hq=>?_)⟩
  cases r with
  | error e=>exact hq.elim
  | ok fl=>
   cases fl with
   | ret u=>exact I2.after hq
   | next=>exact False.elim hq
   | brk=>exact False.elim hq
   | cont=>exact False.elim hq
 rw[he] at hX ⊢
 exact PySem.W.callWith_of (by show ((false || (backTo pos (starEach es X.env)).any (·.1)) || false)=false; rw[hpl]; rfl) PySem.W.keeps_F (Calls.evalArgs_plain hX)
end
def nlP (q:Str)(args:Arguments)(body:Expr)(scope:Scope)(cl:List (Str×Addr))(a c:Addr):Heap->Prop:=fun h=>∃ pm ctv,h.get? a=some (kla_obj "<lambda>" q args body scope cl pm c ctv)
theorem nlP.stay {q:Str}{args:Arguments}{body:Expr}{scope:Scope}{cl:List (Str×Addr)}{a c:Addr}(h1 h2:Heap)(p:nlP q args body scope cl a c h1)(k:∀ o,h1.get? a=some o->h2.get? a=some o):nlP q args body scope cl a c h2:=by
 obtain⟨m,t,e⟩:=p
 exact⟨m,t,k _ e⟩
def tLam (q:Str)(args:Arguments)(body:Expr)(scope:Scope)(cl:List (Str×Addr))(T:Addr)(pos:Pos):TE:=fun _ H Q=>TabOk H T pos q/\∀ a c H',H' a=some (.ext (nlP q args body scope cl a c))->H' c=some (.ext (ncP q c))->H' T=some (.tbl (onePs pos c))->ExtT T H H'->H a=none->Q (.ref a) H'
theorem jU4 {X:Cx}{args:Arguments}{body:Expr}{scope:Scope}{pos:Pos}{c0 T:Addr}(hcode:X.env.code= .ref c0)(CH:PySem.W.CodeHd X.base c0 T)(hbm:BltAt X.base X.mg)
  (hfree:∀ y∈scope.names,y.2= .free->X.env.scope.names.lookup y.1=some .cell\/X.env.scope.names.lookup y.1=some .free) (hdf:defaultsOf args X.env=([],[])):
  JE X (.Lambda args body scope pos) (tLam (X.env.qual++ "<lambda>") args body scope (jT X.env.cells scope.names []) T pos):=by
 refine⟨fun pins s σ H Q I h=>?_⟩
 obtain⟨tab,h⟩:=h
 refine PySem.W.kla_eval hdf ?_
 have hcl:closureFor scope X.env=pure (jT X.env.cells scope.names []):=jHX fun y hy hz=>I.ok.has y.1 (hfree y hy hz)
 have hg:s.heap.Ns mainGlobals X.mg:=I.mod.glob.keeps I.bk
 have C:=CH.keeps I.bk
 have gT:∀ {ps:Array Value},H T=some (.tbl ps)->mainGlobals≠T:=fun hT z=>by
  obtain⟨o,es,ep,e,_⟩:=I.mod.glob
  have:=(I.bs _ _ e).2
  rw[z,hT] at this
  cases this
 have bT:∀ {ps:Array Value},H T=some (.tbl ps)->s.heap.BuiltinsAt X.mg T:=fun hT=>by
  obtain⟨bm,o,h1,h2,h3,h4,h5,h6,h7⟩:=hbm
  refine⟨bm,o,h1,h2,h3,fun z=>?_,(I.bs _ _ h4).1,h5,h6,h7⟩
  have:=(I.bs _ _ h4).2
  rw[z,hT] at this
  cases this
 rcases tab with hT | ⟨c,hT,hc⟩
 ·refine PySem.W.kla_makeFunction hcl I.ok.glob hg hcode C (I.hok T _ hT) trivial rfl (gT hT) (bT hT) fun c ctv h' tk k1 k2 k3 k4 k5=>?_
  obtain⟨oc,hoc⟩:=ncP.is (q:=X.env.qual++ "<lambda>") k4
  have I1:Inv X pins σ (upd (upd H T (.tbl (#[]++onePs pos c))) c (.ext (ncP (X.env.qual++ "<lambda>") c))) { s with heap:=h',toks:=tk} :=I.grown hT k1 k5 k2 k4 ⟨oc,hoc⟩ ncP.stay
  have I2:=I1.laidX (t':=tk) (a:=h'.objs.size) (φ:=nlP (X.env.qual++ "<lambda>") args body scope (jT X.env.cells scope.names []) h'.objs.size c) (h':=h'.push (kla_obj "<lambda>" (X.env.qual++ "<lambda>") args body scope (jT X.env.cells scope.names []) ((X.mg "__name__").getD .none) c ctv)) (fun b u q=>ab _ q) (ak _) ⟨_,ctv,az _ rfl⟩ ⟨_,az _ rfl⟩ nlP.stay
  have hcn:H c=none:=I.hok.fresh k2
  have han:H h'.objs.size=none:=I.hok.fresh (bv k2 (cI k3))
  have ca:c≠h'.objs.size:=aS k3
  have Tc:T≠c:=fun z=>by rw[z,hcn] at hT; cases hT
  have Ta:T≠h'.objs.size:=fun z=>by rw[z,han] at hT; cases hT
  refine⟨.ref _,_,I2,rfl,h _ c _ j6 (by rw[j9 ca,j6]) (by rw[j9 Ta,j9 Tc,j6,Array.empty_append]) (fun b o e n=>?_) han⟩
  rw[j9 (jA e han),j9 (jA e hcn),j9 n]
  exact e
 ·refine PySem.W.kla_makeFunctionHit (cv:= .ref c) hcl I.ok.glob hg hcode C (I.hok T _ hT) (by exact trivial) (by simp [codeAmong,rawInt]) (bT hT) fun ctv h' tk k1 k2=>?_
  have I2:=I.laidX (t':=tk) (a:=h'.objs.size) (φ:=nlP (X.env.qual++ "<lambda>") args body scope (jT X.env.cells scope.names []) h'.objs.size c) (h':=h'.push (kla_obj "<lambda>" (X.env.qual++ "<lambda>") args body scope (jT X.env.cells scope.names []) ((X.mg "__name__").getD .none) c ctv)) (fun b u q=>ab _ (k1 b u q)) k2 ⟨_,ctv,az _ rfl⟩ ⟨_,az _ rfl⟩ nlP.stay
  have han:H h'.objs.size=none:=I.hok.fresh k2
  refine⟨.ref _,_,I2,rfl,h _ c _ j6 (by rw[j9 (jA hc han)]; exact hc) (by rw[j9 (jA hT han)]; exact hT) (fun b o e n=>?_) han⟩
  rw[j9 (jA e han)]
  exact e
theorem jUB {P:Program}{w:World}{K:W.Frag}{mg:Str->Option Value}{base:Heap}{k:Nat}{q:Str}{args:Arguments}{body:Expr}{scope:Scope}{N ps fs:List Str}{sp:Sp}{cl:List (Str×Addr)}{fv:List V}{a c:Addr}(S:NScope N ps fs scope)(len:∀ vs H Q E,sp vs H Q E->vs.length=ps.length)
  (hb:∀ pm ctv (us:List Value),us.length=ps.length->bindArgs (PySem.W.kla_fn "<lambda>" q args body scope cl pm (.ref c) ctv) ⟨us,[]⟩=pure (ps.zip us))
  (hbody:∀ (A:Around) (outer:List Env) (s:Shared) (H:Hp) (vs:List V) (Q:VK) (E:XK),Room k (A.deeper (envX q scope s.heap.objs.size a (.ref c) cl))->sp vs H Q E->
   ∃ t,PE (cxN P w K mg base N q scope a (.ref c) cl A outer s H) body t/\t (jDK N vs fv) H Q):
  Callee P w K mg base (fun s H=>ClOk cl s H/\FvOk fs fv cl s) (fun H=>H a=some (.ext (nlP q args body scope cl a c))/\H c=some (.ext (ncP q c))) (k+1) a sp:=by
 refine⟨fun A outer s H e z=>?_,fun A outer s H us vs Q E hr e0 hz zh r hsp=>?_⟩
 ·obtain⟨⟨m,t,g⟩,_,_⟩:=(show ObjOk P w H s.heap a (.ext _) from e.hok a _ z.1)
  exact⟨_,_,_,_,g⟩
 obtain⟨C,Fv⟩:=hz
 obtain⟨⟨pm,ctv,ho⟩,_,_⟩:=(show ObjOk P w H s.heap a (.ext _) from e0.hok a _ zh.1)
 obtain⟨hc,_,_⟩:=(show ObjOk P w H s.heap c (.ext _) from e0.hok c _ zh.2)
 have hl:us.length=ps.length:=r.length.symm.trans (len _ _ _ _ hsp)
 have lim:s.heap.NoLimit:=e0.mod.nolimit.keeps fun b o e=>(e0.bs b o e).1
 refine PySem.W.kla_callFunE hr.depth ho rfl S.co S.gen rfl hc ?_
 rw[hb pm ctv us hl]
 refine af (wpAny_newFunctionEnv S.nocell (fun y hy=>S.par y.1 (dQ hy).1) (fun h₁ hns hsb=>⟨lim.fresh _ hsb,?_⟩) S.kind)
 show codeAny _ _ (.expr body (envX q scope s.heap.objs.size a (.ref c) cl)) _ _
 have hk:∀ b o,s.heap.get? b=some o->h₁.get? b=some o:=fun b o e=>hsb.extBut b o (aS (ay e)) (ab _ e)
 obtain⟨t,ht,hq⟩:=hbody A outer s H vs Q E (hr.deeper _) hsp
 have I:Inv (cxN P w K mg base N q scope a (.ref c) cl A outer s H) [] (jDK N vs fv) H { s with heap:=h₁,toks:=s.toks+(ps.zip us).length} :=jJX S hr.hd e0 hl r C Fv hns hk
 refine PySem.W.kla_codeExpr (ck (ht [] _ (jDK N vs fv) H _ I hq) (fun u s' hs=>?_) fun e s' hs=>False.elim hs)
 obtain⟨v,H',J,rv,q⟩:=hs
 exact⟨v,H',J.os,J.bare,J.base,J.hok,rv,q⟩
end L2
end
section
namespace TM
open PySem PyProof.Rows
class Od where
 kd:SortKind
 ky:Keyed->Int
 is:Keyed->Prop
abbrev key [Od]:Keyed->Int:=Od.ky
abbrev IsI [Od]:Keyed->Prop:=Od.is
class LtOk (prog:Program) (w:World) (A:Around) (s:Shared) [Od]:Prop where
 lt:∀ {E:Value->Shared->Prop}{st:SortSt}{x y:Keyed}{Q:Option Bool->SortSt->Prop},kindOf st=Od.kd->IsI x->IsI y->Q (some (decide (key x<key y))) st->wpS (model prog w) A E s (lt' x y) Q st
variable [Od]
abbrev AllI (l:List Keyed):Prop:=∀ p∈l,IsI p
abbrev LE (x y:Keyed):Prop:=key x<=key y
def jBN:Bool->Keyed->Array Keyed->Nat->Nat->Nat->StateT SortSt Sem (Option Nat):=sortPriv% PySem.Builtin.gallop
def gallopB: { g:Bool->Keyed->Array Keyed->Nat->Nat->Nat->StateT SortSt Sem (Option Nat) // jBN=g} :=⟨fun _ _ _ _ _ _=>bind _ _,rfl⟩
theorem elP:(sortPriv% PySem.Builtin.elem)=elem':=rfl
theorem ltP:(sortPriv% PySem.Builtin.lt)=lt':=rfl
theorem ltAtP:(sortPriv% PySem.Builtin.ltAt)=ltAt':=rfl
theorem jHP:(sortPriv% PySem.Builtin.gallop)=jBN:=rfl
section
variable {prog:Program}{w:World}{A:Around}{E:Value->Shared->Prop}{s:Shared}
theorem jFN [LtOk prog w A s]{st:SortSt}{x y:Keyed}{Q:Option Bool->SortSt->Prop}(hk:kindOf st=Od.kd)(hx:IsI x)(hy:IsI y)(h:Q (some (decide (key x<key y))) st):wpS (model prog w) A E s (lt' x y) Q st:=LtOk.lt hk hx hy h
theorem jN {st:SortSt}{arr:Array Keyed}{i:Nat}{p:Keyed}{Q:Keyed->SortSt->Prop}(hi:arr[i]?=some p)(h:Q p st):wpS (model prog w) A E s (elem' arr i) Q st:=by
 rw[elem'_eq,hi]
 exact aF h
end
section
variable {prog:Program}{w:World}{A:Around}{E:Value->Shared->Prop}{s:Shared} [LtOk prog w A s]
theorem jB3 {left:Bool}{ky:Keyed}{arr:Array Keyed}{base n hint:Nat}{st:SortSt}{Q:Option Nat->SortSt->Prop}(hk:kindOf st=Od.kd)(hky:IsI ky)(hI:∀ i,i<n->∃ p,arr[base+i]?=some p/\IsI p)(hh:hint<n)(B:Nat->Bool)
  (hB:∀ i p,i<n->arr[base+i]?=some p->B i=(if left=true then decide (key p<key ky) else !decide (key ky<key p))) (mono:∀ i j,i<=j->j<n->B j=true->B i=true)
  (h:∀ k,k<=n->(∀ i,i<k->B i=true)->(∀ i,k<=i->i<n->B i=false)->Q (some k) st):wpS (model prog w) A E s (jBN left ky arr base n hint) Q st:=by
 rw[gallopB.2]
 delta gallopB
 dsimp only
 simp only [elP,ltP]
 have bey:∀ i (R:Option Bool->SortSt->Prop),i<n->R (some (B i)) st->wpS (model prog w) A E s (do
   let x <- elem' arr (base+i)
   if left=true then lt' x ky else do
    let r <- lt' ky x
    pure (r.map (!·))) R st:=fun i R hi hR=>by
  obtain⟨p,hp,ip⟩:=hI i hi
  refine aC (jN hp ?_)
  have e:=hB i p hi hp
  cases left with
  | true=>
   rw[aj rfl] at e ⊢
   rw[e] at hR
   exact jFN hk ip hky hR
  | false=>
   rw[ai ah] at e ⊢
   rw[e] at hR
   exact aC (jFN hk hky ip (aF hR))
 have down:∀ i j,i<=j->j<n->B i=false->B j=false:=fun i j hij hj hi=>by
  cases hb:B j with
  | false=>rfl
  | true=>rw[mono i j hij hj hb] at hi; cases hi
 refine aC (bey hint _ hh ?_)
 dsimp only
 cases hb:B hint with
 | true=>
  rw[aj rfl]
  refine aC (cX (bQ (I:=fun x c st'=>st'=st/\∃ l o,c=(none,l,o)/\l<o/\x+1<=o/\hint+l<n/\B (hint+l)=true)
   (Q:=fun c st'=>st'=st/\∃ l o,c=(none,l,o)/\l<o/\hint+l<n/\B (hint+l)=true/\(n - hint<=o\/(hint+o<n/\B (hint+o)=false))) ?step ?fin ⟨rfl,0,1,rfl,by omega,by omega,by omega,by rw[ja]; exact hb⟩) ?post)
  case post=>
   rintro c st' ⟨rfl,l,o,rfl,a1,a2,a3,a4⟩
   dsimp only
   have p3:∀ i,i<hint+l+1->B i=true:=fun i hi=>mono i (hint+l) (by omega) a2 a3
   have p4:∀ i,hint+min o (n - hint)<=i->i<n->B i=false:=fun i h1 h2=>by
    rcases a4 with a4 | ⟨a4,a5⟩
    ·omega
    ·exact down (hint+o) i (by omega) h2 a5
   refine aC (cX (bQ (I:=fun x c st''=>st''=st'/\∃ lo hi,c=(none,lo,hi)/\lo<=hi/\hi<=n/\hi - lo<=n - x/\(∀ i,i<lo->B i=true)/\(∀ i,hi<=i->i<n->B i=false))
    (Q:=fun c st''=>st''=st'/\∃ k,c=(none,k,k)/\k<=n/\(∀ i,i<k->B i=true)/\(∀ i,k<=i->i<n->B i=false)) ?step2 ?fin2 ⟨rfl,hint+l+1,hint+min o (n - hint),rfl,by omega,by omega,by omega,p3,p4⟩) ?post2)
   case post2=>
    rintro c st'' ⟨rfl,k,rfl,k1,k2,k3⟩
    exact aF (h k k1 k2 k3)
   case fin2=>
    rintro c st'' ⟨rfl,lo,hi,rfl,a1,a2,a3,a4,a5⟩
    have:lo=hi:=by omega
    subst this
    exact⟨rfl,lo,rfl,a2,a4,a5⟩
   case step2=>
    rintro x c st'' _ hx ⟨rfl,lo,hi,rfl,a1,a2,a3,a4,a5⟩
    dsimp only
    by_cases hge:lo ≥ hi
    ·rw[aj hge]
     have:lo=hi:=by omega
     subst this
     exact aF ⟨rfl,lo,rfl,a2,a4,a5⟩
    ·rw[ai hge]
     refine aC (bey _ _ (by omega) ?_)
     dsimp only
     cases hb:B (lo+(hi - lo) / 2) with
     | true=>
      rw[aj rfl]
      exact aF ⟨rfl,lo+(hi - lo) / 2+1,hi,rfl,by omega,a2,by omega,fun i hi'=>mono i _ (by omega) (by omega) hb,a5⟩
     | false=>
      rw[ai ah]
      exact aF ⟨rfl,lo,lo+(hi - lo) / 2,rfl,by omega,by omega,by omega,a4,fun i h1 h2=>down _ i h1 h2 hb⟩
  case fin=>
   rintro c st' ⟨rfl,l,o,rfl,a1,a2,a3,a4⟩
   exact⟨rfl,l,o,rfl,a1,a3,a4, .inl (by omega)⟩
  case step=>
   rintro x c st' _ hx ⟨rfl,l,o,rfl,a1,a2,a3,a4⟩
   dsimp only
   by_cases hge:o ≥ n - hint
   ·rw[aj hge]
    exact aF ⟨rfl,l,o,rfl,a1,a3,a4, .inl hge⟩
   ·rw[ai hge]
    refine aC (bey _ _ (by omega) ?_)
    dsimp only
    cases hb2:B (hint+o) with
    | true=>
     rw[ai (by decide)]
     exact aF ⟨rfl,o,2*o+1,rfl,by omega,by omega,by omega,hb2⟩
    | false=>
     rw[aj (by decide)]
     exact aF ⟨rfl,l,o,rfl,a1,a3,a4, .inr ⟨by omega,hb2⟩⟩
 | false=>
  rw[ai ah]
  refine aC (cX (bQ (I:=fun x c st'=>st'=st/\∃ l o,c=(none,l,o)/\l<o/\x+1<=o/\l<=hint/\B (hint - l)=false)
   (Q:=fun c st'=>st'=st/\∃ l o,c=(none,l,o)/\l<o/\l<=hint/\B (hint - l)=false/\(hint+1<=o\/(o<=hint/\B (hint - o)=true))) ?step ?fin ⟨rfl,0,1,rfl,by omega,by omega,by omega,by rw[Nat.sub_zero]; exact hb⟩) ?post)
  case post=>
   rintro c st' ⟨rfl,l,o,rfl,a1,a2,a3,a4⟩
   dsimp only
   have p3:∀ i,i<hint+1 - min o (hint+1)->B i=true:=fun i hi=>by
    rcases a4 with a4 | ⟨a4,a5⟩
    ·omega
    ·exact mono i (hint - o) (by omega) (by omega) a5
   have p4:∀ i,hint - l<=i->i<n->B i=false:=fun i h1 h2=>down (hint - l) i (by omega) h2 a3
   refine aC (cX (bQ (I:=fun x c st''=>st''=st'/\∃ lo hi,c=(none,lo,hi)/\lo<=hi/\hi<=n/\hi - lo<=n - x/\(∀ i,i<lo->B i=true)/\(∀ i,hi<=i->i<n->B i=false))
    (Q:=fun c st''=>st''=st'/\∃ k,c=(none,k,k)/\k<=n/\(∀ i,i<k->B i=true)/\(∀ i,k<=i->i<n->B i=false)) ?step2 ?fin2 ⟨rfl,hint+1 - min o (hint+1),hint - l,rfl,by omega,by omega,by omega,p3,p4⟩) ?post2)
   case post2=>
    rintro c st'' ⟨rfl,k,rfl,k1,k2,k3⟩
    exact aF (h k k1 k2 k3)
   case fin2=>
    rintro c st'' ⟨rfl,lo,hi,rfl,a1,a2,a3,a4,a5⟩
    have:lo=hi:=by omega
    subst this
    exact⟨rfl,lo,rfl,a2,a4,a5⟩
   case step2=>
    rintro x c st'' _ hx ⟨rfl,lo,hi,rfl,a1,a2,a3,a4,a5⟩
    dsimp only
    by_cases hge:lo ≥ hi
    ·rw[aj hge]
     have:lo=hi:=by omega
     subst this
     exact aF ⟨rfl,lo,rfl,a2,a4,a5⟩
    ·rw[ai hge]
     refine aC (bey _ _ (by omega) ?_)
     dsimp only
     cases hb:B (lo+(hi - lo) / 2) with
     | true=>
      rw[aj rfl]
      exact aF ⟨rfl,lo+(hi - lo) / 2+1,hi,rfl,by omega,a2,by omega,fun i hi'=>mono i _ (by omega) (by omega) hb,a5⟩
     | false=>
      rw[ai ah]
      exact aF ⟨rfl,lo,lo+(hi - lo) / 2,rfl,by omega,by omega,by omega,a4,fun i h1 h2=>down _ i h1 h2 hb⟩
  case fin=>
   rintro c st' ⟨rfl,l,o,rfl,a1,a2,a3,a4⟩
   exact⟨rfl,l,o,rfl,a1,a3,a4, .inl (by omega)⟩
  case step=>
   rintro x c st' _ hx ⟨rfl,l,o,rfl,a1,a2,a3,a4⟩
   dsimp only
   by_cases hge:o ≥ hint+1
   ·rw[aj hge]
    exact aF ⟨rfl,l,o,rfl,a1,a3,a4, .inl hge⟩
   ·rw[ai hge]
    refine aC (bey _ _ (by omega) ?_)
    dsimp only
    cases hb2:B (hint - o) with
    | true=>
     rw[aj rfl]
     exact aF ⟨rfl,l,o,rfl,a1,a3,a4, .inr ⟨by omega,hb2⟩⟩
    | false=>
     rw[ai ah]
     exact aF ⟨rfl,o,2*o+1,rfl,by omega,by omega,by omega,hb2⟩
end
abbrev jFZ (st:SortSt)(g:Nat):SortSt:=SortSt.mk' (kindOf st) (arrOf st) (pendingOf st) g (failedOf st)
def jBT:Nat->StateT SortSt Sem Unit:=sortPriv% PySem.Builtin.setMinGallop
theorem jKN:(sortPriv% PySem.Builtin.setMinGallop)=jBT:=rfl
theorem jA3 (g:Nat):jBT g=modify fun s=>jFZ s g:=rfl
def jF4:Array Keyed->Array Keyed->StateT SortSt Sem (Array Keyed):=sortPriv% PySem.Builtin.mergeLo
def mergeLoB: { g:Array Keyed->Array Keyed->StateT SortSt Sem (Array Keyed) // jF4=g} :=⟨fun _ _=>bind _ _,rfl⟩
theorem jO4:(sortPriv% PySem.Builtin.mergeLo)=jF4:=rfl
def jF5:Array Keyed->Array Keyed->StateT SortSt Sem (Array Keyed):=sortPriv% PySem.Builtin.mergeHi
def mergeHiB: { g:Array Keyed->Array Keyed->StateT SortSt Sem (Array Keyed) // jF5=g} :=⟨fun _ _=>bind _ _,rfl⟩
theorem jO5:(sortPriv% PySem.Builtin.mergeHi)=jF5:=rfl
abbrev Srt (l:List Keyed):Prop:=l.Pairwise LE
structure ML (a b out:List Keyed)(ia ib:Nat):Prop where
 perm:(out++(a.drop ia++b.drop ib)).Perm (a++b)
 srt:Srt out
 le:∀ x∈out,∀ y∈a.drop ia++b.drop ib,LE x y
theorem Srt.drop {l:List Keyed}(h:Srt l)(i:Nat):Srt (l.drop i):=h.sublist (gI _ _)
theorem Srt.take {l:List Keyed}(h:Srt l)(i:Nat):Srt (l.take i):=h.sublist (da _ _)
theorem yP {l m:List Keyed}(h1:Srt l)(h2:Srt m)(h:∀ x∈l,∀ y∈m,LE x y):Srt (l++m):=cm.mpr ⟨h1,h2,h⟩
theorem ML.takeA {a b out:List Keyed}{ia ib:Nat}(h:ML a b out ia ib)(sa:Srt a)(k:Nat)(hc:∀ x∈(a.drop ia).take k,∀ y∈b.drop ib,LE x y):ML a b (out++(a.drop ia).take k) (ia+k) ib:=by
 have e:a.drop (ia+k)=(a.drop ia).drop k:=by rw[gC]
 refine⟨?_,yP h.srt ((sa.drop ia).take k) fun x hx y hy=>h.le x hx y (aX _ (bR hy)),fun x hx y hy=>?_⟩
 ·refine List.Perm.trans ?_ h.perm
  rw[e]
  refine iu ?_
  rw[aQ,<- aQ ((a.drop ia).take k),bo]
 ·rcases aM.mp hx with q | q
  ·refine h.le x q y ?_
   rcases aM.mp hy with z | z
   ·rw[e] at z
    exact aX _ (cE z)
   ·exact aH _ z
  ·rcases aM.mp hy with z | z
   ·rw[e] at z
    have s:=sa.drop ia
    rw[<- bo k (a.drop ia)] at s
    exact(cm.mp s).2.2 x q y z
   ·exact hc x q y z
theorem ML.takeB {a b out:List Keyed}{ia ib:Nat}(h:ML a b out ia ib)(sb:Srt b)(k:Nat)(hc:∀ x∈(b.drop ib).take k,∀ y∈a.drop ia,LE x y):ML a b (out++(b.drop ib).take k) ia (ib+k):=by
 have e:b.drop (ib+k)=(b.drop ib).drop k:=by rw[gC]
 refine⟨?_,yP h.srt ((sb.drop ib).take k) fun x hx y hy=>h.le x hx y (aH _ (bR hy)),fun x hx y hy=>?_⟩
 ·refine List.Perm.trans ?_ h.perm
  rw[e,aQ]
  refine cS out ?_
  refine dA.trans ?_
  rw[aQ]
  refine cS _ ?_
  refine dA.trans ?_
  rw[bo]
 ·rcases aM.mp hx with q | q
  ·refine h.le x q y ?_
   rcases aM.mp hy with z | z
   ·exact aX _ z
   ·rw[e] at z
    exact aH _ (cE z)
  ·rcases aM.mp hy with z | z
   ·exact hc x q y z
   ·rw[e] at z
    have s:=sb.drop ib
    rw[<- bo k (b.drop ib)] at s
    exact(cm.mp s).2.2 x q y z
theorem ML.outA {a b out:List Keyed}{ia ib:Nat}(h:ML a b out ia ib)(sa:Srt a)(hb:b.length<=ib):(out++a.drop ia++b.drop ib).Perm (a++b)/\Srt (out++a.drop ia++b.drop ib):=by
 refine⟨by rw[aQ]; exact h.perm,?_⟩
 rw[ic hb,br]
 exact yP h.srt (sa.drop ia) fun x hx y hy=>h.le x hx y (aX _ hy)
theorem ML.outB {a b out:List Keyed}{ia ib:Nat}(h:ML a b out ia ib)(sb:Srt b)(ha:a.length<=ia):(out++a.drop ia++b.drop ib).Perm (a++b)/\Srt (out++a.drop ia++b.drop ib):=by
 refine⟨by rw[aQ]; exact h.perm,?_⟩
 rw[ic ha,br]
 exact yP h.srt (sb.drop ib) fun x hx y hy=>h.le x hx y (aH _ hy)
theorem ML.last {a b out:List Keyed}{ia ib:Nat}(h:ML a b out ia ib)(sa:Srt a)(sb:Srt b)(ha:∀ x∈b,∀ y∈a.drop ia,LE x y):(out++b.drop ib++a.drop ia).Perm (a++b)/\Srt (out++b.drop ib++a.drop ia):=by
 refine⟨?_,?_⟩
 ·rw[aQ]
  exact(cS out dA).trans h.perm
 ·refine yP (yP h.srt (sb.drop ib) fun x hx y hy=>h.le x hx y (aH _ hy)) (sa.drop ia) fun x hx y hy=>?_
  rcases aM.mp hx with q | q
  ·exact h.le x q y (aX _ hy)
  ·exact ha x (cE q) y hy
theorem jAE {l:List Keyed}{i:Nat}{p:Keyed}(h:l[i]?=some p):(l.drop i).take 1=[p]:=by
 obtain⟨hi,e⟩:=ag.mp h
 rw[<- List.getElem_cons_drop (h:=hi),e]
 rfl
theorem jED {l:List Keyed}(h:Srt l){i j:Nat}{x y:Keyed}(hx:l[i]?=some x)(hy:l[j]?=some y)(hij:i<=j):LE x y:=by
 obtain⟨h1,rfl⟩:=ag.mp hx
 obtain⟨h2,rfl⟩:=ag.mp hy
 by_cases e:i=j
 ·subst e; exact cY _
 ·exact bx.mp h i j h1 h2 (by omega)
theorem jD9 {l:List Keyed}{i:Nat}{y:Keyed}(h:y∈l.drop i):∃ j,i<=j/\l[j]?=some y:=by
 obtain⟨k,hk⟩:=bC h
 rw[eU] at hk
 exact⟨i+k,by omega,hk⟩
theorem jA4 {l:List Keyed}{i k:Nat}{y:Keyed}(h:y∈(l.drop i).take k):∃ j,i<=j/\j<i+k/\l[j]?=some y:=by
 obtain⟨n,hn⟩:=bC h
 have hlt:n<k:=by
  have:=(ag.mp hn).1
  rw[be] at this
  omega
 rw[cc hlt,eU] at hn
 exact⟨i+n,by omega,by omega,hn⟩
theorem jCP {a:Array Keyed}{i:Nat} :(a.extract i a.size).toList=a.toList.drop i:=by
 rw[dX,dB]
 exact bO (by rw[dq,aG]; exact ak _)
theorem ext_k {a:Array Keyed}{i k:Nat} :(a.extract i (i+k)).toList=(a.toList.drop i).take k:=by
 rw[dX,dB,cj]
structure Two (a b:Array Keyed):Prop where
 ia:AllI a.toList
 ib:AllI b.toList
 sa:Srt a.toList
 sb:Srt b.toList
 na:0<a.size
 nb:0<b.size
 last:∀ x∈b.toList,∀ y,a.toList[a.size - 1]?=some y->key x<key y
 first:∀ y∈a.toList,∀ p,b.toList[0]?=some p->key p<key y
def yD (a b r:Array Keyed):Prop:=r.toList.Perm (a.toList++b.toList)/\Srt r.toList
structure SG (st st':SortSt):Prop where
 k:kindOf st'=kindOf st
 a:arrOf st'=arrOf st
 p:pendingOf st'=pendingOf st
 f:failedOf st'=failedOf st
theorem SG.refl (st:SortSt):SG st st:=⟨rfl,rfl,rfl,rfl⟩
theorem SG.gal {st st':SortSt}(h:SG st st')(g:Nat):SG st (jFZ st' g):=⟨h.k,h.a,h.p,h.f⟩
abbrev MA (a b out:Array Keyed)(ia ib:Nat):Prop:=ML a.toList b.toList out.toList ia ib
section
variable {a b out:Array Keyed}{i j k:Nat}
theorem at_list {p:Keyed} :a[i]?=some p↔a.toList[i]?=some p:=by rw[bu]
theorem qG (h:i<a.size):∃ p,a[i]?=some p/\a.toList[i]?=some p:=⟨a[i],by simp [h],by simp [h]⟩
theorem MA.doneA (T:Two a b)(h:MA a b out i j)(hj:b.size<=j):yD a b (out++a.extract i a.size++b.extract j b.size):=by
 unfold yD
 rw[bf,bf,jCP,jCP]
 exact ML.outA h T.sa (by rw[aG]; exact hj)
theorem MA.doneB (T:Two a b)(h:MA a b out i j)(hi:a.size<=i):yD a b (out++a.extract i a.size++b.extract j b.size):=by
 unfold yD
 rw[bf,bf,jCP,jCP]
 exact ML.outB h T.sb (by rw[aG]; exact hi)
theorem MA.doneL (T:Two a b)(h:MA a b out i j)(hi:i+1=a.size):yD a b (out++b.extract j b.size++a.extract i a.size):=by
 unfold yD
 rw[bf,bf,jCP,jCP]
 refine ML.last h T.sa T.sb fun x hx y hy=>?_
 obtain⟨n,h1,h2⟩:=jD9 hy
 have:n=a.size - 1:=by
  have:=(ag.mp h2).1
  rw[aG] at this
  omega
 subst this
 exact cA (T.last x hx y h2)
theorem MA.pushB (T:Two a b)(h:MA a b out i j){p q:Keyed}(hp:b[j]?=some p)(hc:∀ y∈a.toList.drop i,LE p y):MA a b (out.push p) i (j+1):=by
 have:=ML.takeB h T.sb 1 (by
  rw[jAE (at_list.mp hp)]
  intro x hx
  rw[aN.mp hx]
  exact hc)
 rw[jAE (at_list.mp hp)] at this
 unfold MA
 rw[dF]
 exact this
theorem MA.pushA (T:Two a b)(h:MA a b out i j){p q:Keyed}(hp:a[i]?=some p)(hc:∀ y∈b.toList.drop j,LE p y):MA a b (out.push p) (i+1) j:=by
 have:=ML.takeA h T.sa 1 (by
  rw[jAE (at_list.mp hp)]
  intro x hx
  rw[aN.mp hx]
  exact hc)
 rw[jAE (at_list.mp hp)] at this
 unfold MA
 rw[dF]
 exact this
theorem MA.appA (T:Two a b)(h:MA a b out i j)(k:Nat)(hc:∀ n x,i<=n->n<i+k->a.toList[n]?=some x->∀ y∈b.toList.drop j,LE x y):MA a b (out++a.extract i (i+k)) (i+k) j:=by
 unfold MA
 rw[bf,ext_k]
 exact ML.takeA h T.sa k fun x hx y hy=>by
  obtain⟨n,h1,h2,h3⟩:=jA4 hx
  exact hc n x h1 h2 h3 y hy
theorem MA.appB (T:Two a b)(h:MA a b out i j)(k:Nat)(hc:∀ n x,j<=n->n<j+k->b.toList[n]?=some x->∀ y∈a.toList.drop i,LE x y):MA a b (out++b.extract j (j+k)) i (j+k):=by
 unfold MA
 rw[bf,ext_k]
 exact ML.takeB h T.sb k fun x hx y hy=>by
  obtain⟨n,h1,h2,h3⟩:=jA4 hx
  exact hc n x h1 h2 h3 y hy
theorem Two.atA (T:Two a b)(h:i<a.size):∃ p,a[i]?=some p/\IsI p:=by
 obtain⟨p,h1,h2⟩:=qG h
 exact⟨p,h1,T.ia p (ao h2)⟩
theorem Two.atB (T:Two a b)(h:i<b.size):∃ p,b[i]?=some p/\IsI p:=by
 obtain⟨p,h1,h2⟩:=qG h
 exact⟨p,h1,T.ib p (ao h2)⟩
theorem jF8 (s:Srt a.toList){p q:Keyed}(hp:a[i]?=some p)(h:LE q p):∀ y∈a.toList.drop i,LE q y:=fun y hy=>by
 obtain⟨n,h1,h2⟩:=jD9 hy
 exact cK h (jED s (at_list.mp hp) h2 h1)
end
section
variable {prog:Program}{w:World}{A:Around}{E:Value->Shared->Prop}{s:Shared} [LtOk prog w A s]
theorem jS2 {st:SortSt}{a:Array Keyed}{i:Nat}{p:Keyed}{Q:Option Nat->SortSt->Prop}(hk:kindOf st=Od.kd)(hp:IsI p)(ha:AllI a.toList)(sa:Srt a.toList)(hi:i<a.size)
  (h:∀ k,i+k<=a.size->(∀ n x,i<=n->n<i+k->a.toList[n]?=some x->LE x p)->(∀ n x,i+k<=n->a.toList[n]?=some x->key p<key x)->Q (some k) st):
  wpS (model prog w) A E s (jBN false p a i (a.size - i) 0) Q st:=by
 refine jB3 hk hp (fun n hn=>?_) (by omega) (fun n=>match a[i+n]? with | some x=>!decide (key p<key x) | none=>false) (fun n x hn hx=>?_) (fun n m hnm hm hb=>?_) fun k hk1 hk2 hk3=>h k (by omega) (fun n x h1 h2 h3=>?_) fun n x h1 h2=>?_
 ·obtain⟨q,q1,q2⟩:=qG (a:=a) (i:=i+n) (by omega)
  exact⟨q,q1,ha q (ao q2)⟩
 ·rw[hx,ai ah]
 ·obtain⟨x,x1,x2⟩:=qG (a:=a) (i:=i+n) (by omega)
  obtain⟨y,y1,y2⟩:=qG (a:=a) (i:=i+m) (by omega)
  rw[y1] at hb
  rw[x1]
  have:=jED sa x2 y2 (by omega)
  have hb:¬ key p<key y:=by simpa using hb
  show (!decide (key p<key x))=true
  rw[dW,cG]
  have:key x<=key y:=this
  omega
 ·have:=hk2 (n - i) (by omega)
  rw[show i+(n - i)=n by omega,at_list.mpr h3] at this
  have this:¬ key p<key x:=by simpa using this
  show key x<=key p
  omega
 ·have hn:=(ag.mp h2).1
  rw[aG] at hn
  have:=hk3 (n - i) (by omega) (by omega)
  rw[show i+(n - i)=n by omega,at_list.mpr h2] at this
  simpa using this
theorem jS3 {st:SortSt}{a:Array Keyed}{i:Nat}{p:Keyed}{Q:Option Nat->SortSt->Prop}(hk:kindOf st=Od.kd)(hp:IsI p)(ha:AllI a.toList)(sa:Srt a.toList)(hi:i<a.size)
  (h:∀ k,i+k<=a.size->(∀ n x,i<=n->n<i+k->a.toList[n]?=some x->key x<key p)->(∀ n x,i+k<=n->a.toList[n]?=some x->LE p x)->Q (some k) st):
  wpS (model prog w) A E s (jBN true p a i (a.size - i) 0) Q st:=by
 refine jB3 hk hp (fun n hn=>?_) (by omega) (fun n=>match a[i+n]? with | some x=>decide (key x<key p) | none=>false) (fun n x hn hx=>?_) (fun n m hnm hm hb=>?_) fun k hk1 hk2 hk3=>h k (by omega) (fun n x h1 h2 h3=>?_) fun n x h1 h2=>?_
 ·obtain⟨q,q1,q2⟩:=qG (a:=a) (i:=i+n) (by omega)
  exact⟨q,q1,ha q (ao q2)⟩
 ·rw[hx,aj rfl]
 ·obtain⟨x,x1,x2⟩:=qG (a:=a) (i:=i+n) (by omega)
  obtain⟨y,y1,y2⟩:=qG (a:=a) (i:=i+m) (by omega)
  rw[y1] at hb
  rw[x1]
  have:=jED sa x2 y2 (by omega)
  have hb:key y<key p:=aJ hb
  show decide (key x<key p)=true
  rw[bg]
  have:key x<=key y:=this
  omega
 ·have:=hk2 (n - i) (by omega)
  rw[show i+(n - i)=n by omega,at_list.mpr h3] at this
  exact aJ this
 ·have hn:=(ag.mp h2).1
  rw[aG] at hn
  have:=hk3 (n - i) (by omega) (by omega)
  rw[show i+(n - i)=n by omega,at_list.mpr h2] at this
  have this:¬ key x<key p:=dO this
  show key p<=key x
  omega
end
section
variable {prog:Program}{w:World}{A:Around}{E:Value->Shared->Prop}{s:Shared} [LtOk prog w A s]
theorem bp {a b:Nat}(h:a=b):(a==b)=true:=i6.mpr h
theorem bn {a b:Nat}(h:¬ a=b):¬ (a==b)=true:=fun z=>h (i6.mp z)
structure LoI (a b:Array Keyed)(st:SortSt)(out:Array Keyed)(ia ib:Nat)(st':SortSt):Prop where
 m:MA a b out ia ib
 i:ia+1<a.size
 j:ib<b.size
 s:SG st st'
theorem jGZ {a b:Array Keyed}{st:SortSt}{Q:Array Keyed->SortSt->Prop}(hk:kindOf st=Od.kd)(T:Two a b)(h:∀ r st',yD a b r->SG st st'->Q r st'):wpS (model prog w) A E s (jF4 a b) Q st:=by
 rw[mergeLoB.2]
 delta mergeLoB
 dsimp only
 simp only [elP,ltP,jHP,jKN]
 have na:=T.na
 have nb:=T.nb
 refine aC (gE (cD ⟨rfl,?_⟩))
 obtain⟨p0,hp0,ip0⟩:=T.atB nb
 refine aC (jN hp0 ?_)
 have M0:MA a b #[p0] 0 1:=by
  have z:MA a b #[] 0 0:=⟨by show (([]:List Keyed)++(a.toList.drop 0++b.toList.drop 0)).Perm _; rw[List.nil_append,iN,iN],List.Pairwise.nil,fun x hx=>by cases hx⟩
  have:=MA.pushB (q:=p0) T z hp0 fun y hy=>cA (T.first y (cE hy) p0 (at_list.mp hp0))
  exact this
 by_cases e1:1=b.size
 ·rw[aj (bp e1)]
  exact aF (h _ _ (MA.doneA T M0 (by omega)) (SG.refl _))
 rw[ai (bn e1)]
 by_cases e2:0+1=a.size
 ·rw[aj (bp e2)]
  exact aF (h _ _ (MA.doneL T M0 e2) (SG.refl _))
 rw[ai (bn e2)]
 refine aC (fJ ?_)
 refine aC (cX (bQ (I:=fun x c st'=>∃ out ia ib mg,c=(none,out,ia,ib,mg)/\LoI a b st out ia ib st'/\x+1<=ia+ib)
  (Q:=fun c st'=>∃ r,c.1=some r/\yD a b r/\SG st st') ?step ?fin ⟨_,0,1,_,rfl,⟨M0,by omega,by omega,SG.refl _⟩,by omega⟩) ?post)
 case post=>
  rintro ⟨r0,c⟩ st' ⟨r,hr,d,g⟩
  have hr:r0=some r:=hr
  subst hr
  exact aF (h r st' d g)
 case fin=>
  rintro c st' ⟨out,ia,ib,mg,rfl,I0,hx⟩
  have:=I0.i
  have:=I0.j
  omega
 case step=>
  rintro x c st1 _ hx ⟨out,ia,ib,mg,rfl,I0,hxx⟩
  dsimp only
  refine aC (cX (bQ (I:=fun y c st'=>∃ out' ia' ib' ac bc,c=(none,out',ia',ib',ac,bc)/\LoI a b st out' ia' ib' st'/\ia+ib<=ia'+ib'/\(y=0\/ia+ib<ia'+ib'))
   (Q:=fun c st'=>(∃ r,c.1=some r/\yD a b r/\SG st st')\/∃ out' ia' ib' ac bc,c=(none,out',ia',ib',ac,bc)/\LoI a b st out' ia' ib' st'/\ia+ib<ia'+ib') ?step1 ?fin1 ⟨_,_,_,_,_,rfl,I0,by omega, .inl rfl⟩) ?post1)
  case fin1=>
   rintro c st' ⟨out',ia',ib',ac,bc,rfl,I1,h1,h2⟩
   exact .inr ⟨_,_,_,_,_,rfl,I1,by omega⟩
  case step1=>
   rintro y c st2 _ hy ⟨out',ia',ib',ac,bc,rfl,I1,h1,h2⟩
   dsimp only
   obtain⟨pb,hpb,ipb⟩:=T.atB I1.j
   obtain⟨pa,hpa,ipa⟩:=T.atA (i:=ia') (by have:=I1.i; omega)
   have ii:=I1.i
   have jj:=I1.j
   refine aC (jN hpb (aC (jN hpa (aC (jFN (I1.s.k.trans hk) ipb ipa ?_)))))
   dsimp only
   by_cases hlt:key pb<key pa
   ·rw[am hlt,aj rfl]
    refine aC (jN hpb ?_)
    have M2:=MA.pushB (q:=pb) T I1.m hpb (jF8 T.sa hpa (cA hlt))
    by_cases f1:ib'+1=b.size
    ·rw[aj (bp f1)]
     exact aF (.inl ⟨_,rfl,MA.doneA T M2 (by omega),I1.s⟩)
    rw[ai (bn f1)]
    split
    ·exact aF (.inr ⟨_,_,_,_,_,rfl,⟨M2,ii,by omega,I1.s⟩,by omega⟩)
    ·exact aF ⟨_,_,_,_,_,rfl,⟨M2,ii,by omega,I1.s⟩,by omega, .inr (by omega)⟩
   ·rw[aL hlt,ai ah]
    refine aC (jN hpa ?_)
    have M2:=MA.pushA (q:=pa) T I1.m hpa (jF8 T.sb hpb (by show key pa<=key pb; omega))
    by_cases f1:ia'+1+1=a.size
    ·rw[aj (bp f1)]
     exact aF (.inl ⟨_,rfl,MA.doneL T M2 f1,I1.s⟩)
    rw[ai (bn f1)]
    split
    ·exact aF (.inr ⟨_,_,_,_,_,rfl,⟨M2,by omega,jj,I1.s⟩,by omega⟩)
    ·exact aF ⟨_,_,_,_,_,rfl,⟨M2,by omega,jj,I1.s⟩,by omega, .inr (by omega)⟩
  case post1=>
   rintro c st2 (⟨r,hr,d,g⟩ | ⟨out1,ia1,ib1,ac,bc,rfl,I1,h1⟩)
   ·obtain⟨r0,c⟩:=c
    have hr:r0=some r:=hr
    subst hr
    exact aF ⟨r,rfl,d,g⟩
   dsimp only
   refine aC (gE (cD ⟨rfl,?_⟩))
   refine aC (cX (bQ (I:=fun y c st'=>∃ out' ia' ib' mg' ac bc,c=(none,out',ia',ib',mg',ac,bc)/\LoI a b st out' ia' ib' st'/\ia+ib<ia'+ib')
    (Q:=fun c st'=>(∃ r,c.1=some r/\yD a b r/\SG st st')\/∃ out' ia' ib' mg' ac bc,c=(none,out',ia',ib',mg',ac,bc)/\LoI a b st out' ia' ib' st'/\ia+ib<ia'+ib') ?step2 ?fin2 ⟨_,_,_,_,_,_,rfl,I1,h1⟩) ?post2)
   case fin2=>
    rintro c st' ⟨out',ia',ib',mg',ac,bc,rfl,I2,h2⟩
    exact .inr ⟨_,_,_,_,_,_,rfl,I2,h2⟩
   case post2=>
    rintro c st3 (⟨r,hr,d,g⟩ | ⟨out2,ia2,ib2,mg2,ac,bc,rfl,I2,h2⟩)
    ·obtain⟨r0,c⟩:=c
     have hr:r0=some r:=hr
     subst hr
     exact aF ⟨r,rfl,d,g⟩
    dsimp only
    rw[jA3]
    exact aC (dP (aF ⟨_,_,_,_,rfl,⟨I2.m,I2.i,I2.j,I2.s.gal _⟩,by omega⟩))
   case step2=>
    clear I0 I1
    rintro y c st2 _ hy ⟨out,ia,ib,mg',ac,bc,rfl,I0,h2⟩
    dsimp only
    obtain⟨pb,hpb,ipb⟩:=T.atB I0.j
    by_cases hg:mg'>1
    case' pos=>
     rw[aj hg]
     generalize hgg:mg' - 1=gg
    case' neg=>
     rw[ai hg]
     generalize hgg:mg'=gg
    all_goals
     rw[jA3]
     refine aC (dP ?_)
     have G1:=I0.s.gal gg
     refine aC (jN hpb ?_)
     refine aC (jS2 (G1.k.trans hk) ipb T.ia T.sa (by have:=I0.i; omega) fun k1 g1 g2 g3=>?_)
     dsimp only
     have M1:=MA.appA T I0.m k1 (fun n x h1 h2 h3=>jF8 T.sb hpb (g2 n x h1 h2 h3))
     have hgt:∀ y∈a.toList.drop (ia+k1),LE pb y:=fun y hy=>by
      obtain⟨n,h1,h2⟩:=jD9 hy
      exact cA (g3 n y h1 h2)
     have jb:=I0.j
     by_cases e0:k1>0
     case' pos=>
      rw[aj e0]
      by_cases f1:ia+k1+1=a.size
      ·rw[aj (bp f1)]
       exact aF (.inl ⟨_,rfl,MA.doneL T M1 f1,G1⟩)
      rw[ai (bn f1)]
      by_cases f2:ia+k1=a.size
      ·rw[aj (bp f2)]
       exact aF (.inl ⟨_,rfl,MA.doneB T M1 (by omega),G1⟩)
      rw[ai (bn f2)]
      obtain⟨pa,hpa,ipa⟩:=T.atA (i:=ia+k1) (by omega)
      have hz:ia+k1<a.size:=by omega
      generalize hiz:ia+k1=iz at*
     case' neg=>
      rw[ai e0]
      have e0':k1=0:=by omega
      subst e0'
      have M1:=I0.m
      obtain⟨pa,hpa,ipa⟩:=T.atA (i:=ia) (by have:=I0.i; omega)
      have hz:ia<a.size:=by have:=I0.i; omega
      rw[ja] at hgt
      have hia:=I0.i
      generalize hiz:ia=iz at*
     all_goals
      refine aC (jN hpb ?_)
      have M2:=MA.pushB (q:=pb) T M1 hpb hgt
      by_cases e1:ib+1=b.size
      ·rw[aj (bp e1)]
       exact aF (.inl ⟨_,rfl,MA.doneA T M2 (by omega),G1⟩)
      rw[ai (bn e1)]
      refine aC (jN hpa ?_)
      refine aC (jS3 (G1.k.trans hk) ipa T.ib T.sb (by omega) fun k2 l1 l2 l3=>?_)
      dsimp only
      have M3:=MA.appB T M2 k2 (fun n x h1 h2 h3=>jF8 T.sa hpa (cA (l2 n x h1 h2 h3)))
      have fin3:∀ y∈b.toList.drop (ib+1+k2),LE pa y:=fun y hy=>by
       obtain⟨n,h1,h2⟩:=jD9 hy
       exact l3 n y h1 h2
      by_cases e2:k2>0
      ·rw[aj e2]
       by_cases e3:ib+1+k2=b.size
       ·rw[aj (bp e3)]
        exact aF (.inl ⟨_,rfl,MA.doneA T M3 (by omega),G1⟩)
       rw[ai (bn e3)]
       refine aC (jN hpa ?_)
       have M4:=MA.pushA (q:=pa) T M3 hpa fin3
       by_cases e4:iz+1+1=a.size
       ·rw[aj (bp e4)]
        exact aF (.inl ⟨_,rfl,MA.doneL T M4 e4,G1⟩)
       rw[ai (bn e4)]
       split
       ·exact aF (.inr ⟨_,_,_,_,_,_,rfl,⟨M4,by omega,by omega,G1⟩,by omega⟩)
       ·exact aF ⟨_,_,_,_,_,_,rfl,⟨M4,by omega,by omega,G1⟩,by omega⟩
      ·rw[ai e2]
       have e0:k2=0:=by omega
       subst e0
       refine aC (jN hpa ?_)
       have M4:=MA.pushA (q:=pa) T M2 hpa fin3
       by_cases e4:iz+1+1=a.size
       ·rw[aj (bp e4)]
        exact aF (.inl ⟨_,rfl,MA.doneL T M4 e4,G1⟩)
       rw[ai (bn e4)]
       split
       ·exact aF (.inr ⟨_,_,_,_,_,_,rfl,⟨M4,by omega,by omega,G1⟩,by omega⟩)
       ·exact aF ⟨_,_,_,_,_,_,rfl,⟨M4,by omega,by omega,G1⟩,by omega⟩
end
structure MHL (tot xa xb o:List Keyed):Prop where
 perm:(xa++xb++o).Perm tot
 srt:Srt o
 le:∀ x∈o,∀ y∈xa++xb,LE y x
theorem MHL.takeA {tot u v xb o:List Keyed}(h:MHL tot (u++v) xb o)(s:Srt (u++v))(hc:∀ x∈v,∀ y∈xb,LE y x):MHL tot u xb (v++o):=by
 have sp:=cm.mp s
 refine⟨?_,yP sp.2.1 h.srt fun x hx y hy=>h.le y hy x (aX _ (aH _ hx)),fun x hx y hy=>?_⟩
 ·refine List.Perm.trans ?_ h.perm
  rw[aQ,aQ,aQ]
  refine cS u ?_
  rw[<- aQ,<- aQ]
  exact ff o dA
 ·rcases aM.mp hx with q | q
  ·rcases aM.mp hy with z | z
   ·exact sp.2.2 y z x q
   ·exact hc x q y z
  ·refine h.le x q y ?_
   rcases aM.mp hy with z | z
   ·exact aX _ (aX _ z)
   ·exact aH _ z
theorem MHL.takeB {tot u v xa o:List Keyed}(h:MHL tot xa (u++v) o)(s:Srt (u++v))(hc:∀ x∈v,∀ y∈xa,LE y x):MHL tot xa u (v++o):=by
 have sp:=cm.mp s
 refine⟨?_,yP sp.2.1 h.srt fun x hx y hy=>h.le y hy x (aH _ (aH _ hx)),fun x hx y hy=>?_⟩
 ·refine List.Perm.trans (iu ?_) h.perm
  simp only [aQ]
 ·rcases aM.mp hx with q | q
  ·rcases aM.mp hy with z | z
   ·exact hc x q y z
   ·exact sp.2.2 y z x q
  ·refine h.le x q y ?_
   rcases aM.mp hy with z | z
   ·exact aX _ z
   ·exact aH _ (aX _ z)
theorem MHL.out {tot xa xb o:List Keyed}(h:MHL tot xa xb o)(s:Srt (xa++xb)):(xa++xb++o).Perm tot/\Srt (xa++xb++o):=
 ⟨h.perm,yP s h.srt fun x hx y hy=>h.le y hy x hx⟩
theorem MHL.outF {tot xa xb o:List Keyed}(h:MHL tot xa xb o)(s:Srt (xb++xa)):(xb++xa++o).Perm tot/\Srt (xb++xa++o):=
 ⟨(ff o dA).trans h.perm,yP s h.srt fun x hx y hy=>h.le y hy x (by
  rcases aM.mp hx with z | z
  ·exact aH _ z
  ·exact aX _ z)⟩
theorem jI4 {l:List Keyed}{n:Nat}{p:Keyed}(hn:0<n)(h:l[n - 1]?=some p):l.take n=l.take (n - 1)++[p]:=by
 obtain⟨m,rfl⟩:∃ m,n=m+1:=⟨n - 1,by omega⟩
 rw[Nat.add_sub_cancel] at h ⊢
 rw[List.take_succ,h]
 rfl
theorem jI3 {l:List Keyed}{k n:Nat}(hk:k<=n):l.take n=l.take k++(l.drop k).take (n - k):=by
 obtain⟨m,rfl⟩:∃ m,n=k+m:=⟨n - k,by omega⟩
 rw[cj,List.take_add]
theorem jAM {a:Array Keyed}{k n:Nat} :(a.extract k n).toList=(a.toList.drop k).take (n - k):=by
 rw[dX,dB]
theorem jB9 {a:Array Keyed}{n:Nat} :(a.extract 0 n).toList=a.toList.take n:=by
 rw[jAM,iN,Nat.sub_zero]
abbrev MH (a b out:Array Keyed)(na nb:Nat):Prop:=MHL (a.toList++b.toList) (a.toList.take na) (b.toList.take nb) out.toList.reverse
theorem jD8 {l:List Keyed}{n:Nat}{y:Keyed}(h:y∈l.take n):∃ j,j<n/\l[j]?=some y:=by
 obtain⟨k,hk⟩:=bC h
 have hlt:k<n:=by
  have:=(ag.mp hk).1
  rw[be] at this
  omega
 rw[cc hlt] at hk
 exact⟨k,hlt,hk⟩
section
variable {a b out:Array Keyed}{i j k:Nat}
theorem jD7 (s:Srt a.toList){p q:Keyed}(hp:a[i - 1]?=some p)(h:LE p q):∀ y∈a.toList.take i,LE y q:=fun y hy=>by
 obtain⟨n,h1,h2⟩:=jD8 hy
 exact cK (jED s h2 (at_list.mp hp) (by omega)) h
theorem MH.pushA (T:Two a b)(h:MH a b out i j){p:Keyed}(hi:0<i)(hp:a[i - 1]?=some p)(hc:∀ y∈b.toList.take j,LE y p):MH a b (out.push p) (i - 1) j:=by
 have e:=jI4 hi (at_list.mp hp)
 have s:=T.sa.take i
 unfold MH at h ⊢
 rw[e] at h s
 rw[dF,eL]
 exact h.takeA s fun x hx=>by rw[aN.mp hx]; exact hc
theorem MH.pushB (T:Two a b)(h:MH a b out i j){p:Keyed}(hj:0<j)(hp:b[j - 1]?=some p)(hc:∀ y∈a.toList.take i,LE y p):MH a b (out.push p) i (j - 1):=by
 have e:=jI4 hj (at_list.mp hp)
 have s:=T.sb.take j
 unfold MH at h ⊢
 rw[e] at h s
 rw[dF,eL]
 exact h.takeB s fun x hx=>by rw[aN.mp hx]; exact hc
theorem MH.appA (T:Two a b)(h:MH a b out i j)(hk:k<=i)(hc:∀ n x,k<=n->n<i->a.toList[n]?=some x->∀ y∈b.toList.take j,LE y x):MH a b (out++(a.extract k i).reverse) k j:=by
 have e:=jI3 (l:=a.toList) hk
 have s:=T.sa.take i
 unfold MH at h ⊢
 rw[e] at h s
 rw[bf,cZ,eL,iO,jAM]
 exact h.takeA s fun x hx y hy=>by
  obtain⟨n,h1,h2,h3⟩:=jA4 hx
  exact hc n x h1 (by omega) h3 y hy
theorem MH.appB (T:Two a b)(h:MH a b out i j)(hk:k<=j)(hc:∀ n x,k<=n->n<j->b.toList[n]?=some x->∀ y∈a.toList.take i,LE y x):MH a b (out++(b.extract k j).reverse) i k:=by
 have e:=jI3 (l:=b.toList) hk
 have s:=T.sb.take j
 unfold MH at h ⊢
 rw[e] at h s
 rw[bf,cZ,eL,iO,jAM]
 exact h.takeB s fun x hx y hy=>by
  obtain⟨n,h1,h2,h3⟩:=jA4 hx
  exact hc n x h1 (by omega) h3 y hy
theorem MH.doneA (T:Two a b)(h:MH a b out 0 j):yD a b (a.extract 0 0++b.extract 0 j++out.reverse):=by
 unfold yD
 rw[bf,bf,jB9,jB9,cZ]
 exact h.out (by rw[iP]; exact T.sb.take j)
theorem MH.doneB (T:Two a b)(h:MH a b out i 0):yD a b (a.extract 0 i++b.extract 0 0++out.reverse):=by
 unfold yD
 rw[bf,bf,jB9,jB9,cZ]
 exact h.out (by rw[iP,br]; exact T.sa.take i)
theorem MH.doneF (T:Two a b)(h:MH a b out i 1):yD a b (b.extract 0 1++a.extract 0 i++out.reverse):=by
 unfold yD
 rw[bf,bf,jB9,jB9,cZ]
 refine h.outF (yP (T.sb.take 1) (T.sa.take i) fun x hx y hy=>?_)
 obtain⟨n,h1,h2⟩:=jD8 hx
 have:n=0:=by omega
 subst this
 exact cA (T.first y (bR hy) x h2)
end
section
variable {prog:Program}{w:World}{A:Around}{E:Value->Shared->Prop}{s:Shared} [LtOk prog w A s]
theorem jIZ {st:SortSt}{a:Array Keyed}{i len hint:Nat}{p:Keyed}{Q:Option Nat->SortSt->Prop}(hk:kindOf st=Od.kd)(hp:IsI p)(ha:AllI a.toList)
  (sa:∀ n m x y,i<=n->n<=m->m<i+len->a[n]?=some x->a[m]?=some y->LE x y) (hh:hint<len) (hl:i+len<=a.size)
  (h:∀ k,k<=len->(∀ n x,i<=n->n<i+k->a[n]?=some x->LE x p)->(∀ n x,i+k<=n->n<i+len->a[n]?=some x->key p<key x)->Q (some k) st):
  wpS (model prog w) A E s (jBN false p a i len hint) Q st:=by
 refine jB3 hk hp (fun n hn=>?_) hh (fun n=>match a[i+n]? with | some x=>!decide (key p<key x) | none=>false) (fun n x hn hx=>?_) (fun n m hnm hm hb=>?_) fun k hk1 hk2 hk3=>h k (by omega) (fun n x h1 h2 h3=>?_) fun n x h1 h2 h3=>?_
 ·obtain⟨q,q1,q2⟩:=qG (a:=a) (i:=i+n) (by omega)
  exact⟨q,q1,ha q (ao q2)⟩
 ·rw[hx,ai ah]
 ·obtain⟨x,x1,x2⟩:=qG (a:=a) (i:=i+n) (by omega)
  obtain⟨y,y1,y2⟩:=qG (a:=a) (i:=i+m) (by omega)
  rw[y1] at hb
  rw[x1]
  have:=sa (i+n) (i+m) x y (by omega) (by omega) (by omega) x1 y1
  have hb:¬ key p<key y:=by simpa using hb
  show (!decide (key p<key x))=true
  rw[dW,cG]
  have:key x<=key y:=this
  omega
 ·have:=hk2 (n - i) (by omega)
  rw[show i+(n - i)=n by omega,h3] at this
  have this:¬ key p<key x:=by simpa using this
  show key x<=key p
  omega
 ·have:=hk3 (n - i) (by omega) (by omega)
  rw[show i+(n - i)=n by omega,h3] at this
  simpa using this
theorem jJ0 {st:SortSt}{a:Array Keyed}{i len hint:Nat}{p:Keyed}{Q:Option Nat->SortSt->Prop}(hk:kindOf st=Od.kd)(hp:IsI p)(ha:AllI a.toList)
  (sa:∀ n m x y,i<=n->n<=m->m<i+len->a[n]?=some x->a[m]?=some y->LE x y) (hh:hint<len) (hl:i+len<=a.size)
  (h:∀ k,k<=len->(∀ n x,i<=n->n<i+k->a[n]?=some x->key x<key p)->(∀ n x,i+k<=n->n<i+len->a[n]?=some x->LE p x)->Q (some k) st):
  wpS (model prog w) A E s (jBN true p a i len hint) Q st:=by
 refine jB3 hk hp (fun n hn=>?_) hh (fun n=>match a[i+n]? with | some x=>decide (key x<key p) | none=>false) (fun n x hn hx=>?_) (fun n m hnm hm hb=>?_) fun k hk1 hk2 hk3=>h k (by omega) (fun n x h1 h2 h3=>?_) fun n x h1 h2 h3=>?_
 ·obtain⟨q,q1,q2⟩:=qG (a:=a) (i:=i+n) (by omega)
  exact⟨q,q1,ha q (ao q2)⟩
 ·rw[hx,aj rfl]
 ·obtain⟨x,x1,x2⟩:=qG (a:=a) (i:=i+n) (by omega)
  obtain⟨y,y1,y2⟩:=qG (a:=a) (i:=i+m) (by omega)
  rw[y1] at hb
  rw[x1]
  have:=sa (i+n) (i+m) x y (by omega) (by omega) (by omega) x1 y1
  have hb:key y<key p:=aJ hb
  show decide (key x<key p)=true
  rw[bg]
  have:key x<=key y:=this
  omega
 ·have:=hk2 (n - i) (by omega)
  rw[show i+(n - i)=n by omega,h3] at this
  exact aJ this
 ·have:=hk3 (n - i) (by omega) (by omega)
  rw[show i+(n - i)=n by omega,h3] at this
  have this:¬ key x<key p:=dO this
  show key p<=key x
  omega
end
section
variable {prog:Program}{w:World}{A:Around}{E:Value->Shared->Prop}{s:Shared} [LtOk prog w A s]
structure HiI (a b:Array Keyed)(st:SortSt)(out:Array Keyed)(na nb:Nat)(st':SortSt):Prop where
 m:MH a b out na nb
 i:0<na
 ia:na<=a.size
 j:1<nb
 jb:nb<=b.size
 s:SG st st'
theorem whole {a:Array Keyed}(s:Srt a.toList){len:Nat} :∀ n m x y,0<=n->n<=m->m<0+len->a[n]?=some x->a[m]?=some y->LE x y:=fun n m x y _ h _ hx hy=>jED s (at_list.mp hx) (at_list.mp hy) h
theorem jH0 {a b:Array Keyed}{st:SortSt}{Q:Array Keyed->SortSt->Prop}(hk:kindOf st=Od.kd)(T:Two a b)(h:∀ r st',yD a b r->SG st st'->Q r st'):wpS (model prog w) A E s (jF5 a b) Q st:=by
 rw[mergeHiB.2]
 delta mergeHiB
 dsimp only
 simp only [elP,ltP,jHP,jKN]
 have na:=T.na
 have nb:=T.nb
 refine aC (gE (cD ⟨rfl,?_⟩))
 obtain⟨p0,hp0,ip0⟩:=T.atA (i:=a.size - 1) (by omega)
 refine aC (jN hp0 ?_)
 have M0:MH a b #[p0] (a.size - 1) b.size:=by
  have z:MH a b #[] a.size b.size:=⟨by
   rw[show a.toList.take a.size=a.toList from bO (by simp),show b.toList.take b.size=b.toList from bO (by simp)]
   show ((a.toList++b.toList)++([]:List Keyed)).Perm _
   rw[br],List.Pairwise.nil,fun x hx=>by cases hx⟩
  have:=MH.pushA T z (by omega) hp0 fun y hy=>cA (T.last y (bR hy) p0 (at_list.mp hp0))
  exact this
 by_cases e1:a.size - 1=0
 ·rw[aj (bp e1)]
  rw[e1] at M0 ⊢
  exact aF (h _ _ (MH.doneA T M0) (SG.refl _))
 rw[ai (bn e1)]
 by_cases e2:b.size=1
 ·rw[aj (bp e2)]
  rw[e2] at M0 ⊢
  exact aF (h _ _ (MH.doneF T M0) (SG.refl _))
 rw[ai (bn e2)]
 refine aC (fJ ?_)
 refine aC (cX (bQ (I:=fun x c st'=>∃ out na nb mg,c=(none,na,nb,out,mg)/\HiI a b st out na nb st'/\x+1<=a.size - na+(b.size - nb))
  (Q:=fun c st'=>∃ r,c.1=some r/\yD a b r/\SG st st') ?step ?fin ⟨_,_,_,_,rfl,⟨M0,by omega,by omega,by omega,by omega,SG.refl _⟩,by omega⟩) ?post)
 case post=>
  rintro ⟨r0,c⟩ st' ⟨r,hr,d,g⟩
  have hr:r0=some r:=hr
  subst hr
  exact aF (h r st' d g)
 case fin=>
  rintro c st' ⟨out,na,nb,mg,rfl,I0,hx⟩
  have:=I0.i
  have:=I0.j
  omega
 case step=>
  rintro x c st1 _ hx ⟨out,na,nb,mg,rfl,I0,hxx⟩
  dsimp only
  refine aC (cX (bQ (I:=fun y c st'=>∃ out' na' nb' ac bc,c=(none,na',nb',out',ac,bc)/\HiI a b st out' na' nb' st'/\na'+nb'<=na+nb/\(y=0\/na'+nb'<na+nb))
   (Q:=fun c st'=>(∃ r,c.1=some r/\yD a b r/\SG st st')\/∃ out' na' nb' ac bc,c=(none,na',nb',out',ac,bc)/\HiI a b st out' na' nb' st'/\na'+nb'<na+nb) ?step1 ?fin1 ⟨_,_,_,_,_,rfl,I0,by omega, .inl rfl⟩) ?post1)
  case fin1=>
   rintro c st' ⟨out',na',nb',ac,bc,rfl,I1,h1,h2⟩
   exact .inr ⟨_,_,_,_,_,rfl,I1,by omega⟩
  case step1=>
   rintro y c st2 _ hy ⟨out',na',nb',ac,bc,rfl,I1,h1,h2⟩
   dsimp only
   have i0:=I1.i
   have i1:=I1.ia
   have j0:=I1.j
   have j1:=I1.jb
   obtain⟨pb,hpb,ipb⟩:=T.atB (i:=nb' - 1) (by omega)
   obtain⟨pa,hpa,ipa⟩:=T.atA (i:=na' - 1) (by omega)
   refine aC (jN hpb (aC (jN hpa (aC (jFN (I1.s.k.trans hk) ipb ipa ?_)))))
   dsimp only
   by_cases hlt:key pb<key pa
   ·rw[am hlt,aj rfl]
    refine aC (jN hpa ?_)
    have M2:=MH.pushA T I1.m i0 hpa (jD7 T.sb hpb (cA hlt))
    by_cases f1:na' - 1=0
    ·rw[aj (bp f1)]
     rw[f1] at M2 ⊢
     exact aF (.inl ⟨_,rfl,MH.doneA T M2,I1.s⟩)
    rw[ai (bn f1)]
    split
    ·exact aF (.inr ⟨_,_,_,_,_,rfl,⟨M2,by omega,by omega,j0,j1,I1.s⟩,by omega⟩)
    ·exact aF ⟨_,_,_,_,_,rfl,⟨M2,by omega,by omega,j0,j1,I1.s⟩,by omega, .inr (by omega)⟩
   ·rw[aL hlt,ai ah]
    refine aC (jN hpb ?_)
    have M2:=MH.pushB T I1.m (by omega) hpb (jD7 T.sa hpa (by show key pa<=key pb; omega))
    by_cases f1:nb' - 1=1
    ·rw[aj (bp f1)]
     rw[f1] at M2 ⊢
     exact aF (.inl ⟨_,rfl,MH.doneF T M2,I1.s⟩)
    rw[ai (bn f1)]
    split
    ·exact aF (.inr ⟨_,_,_,_,_,rfl,⟨M2,i0,i1,by omega,by omega,I1.s⟩,by omega⟩)
    ·exact aF ⟨_,_,_,_,_,rfl,⟨M2,i0,i1,by omega,by omega,I1.s⟩,by omega, .inr (by omega)⟩
  case post1=>
   rintro c st2 (⟨r,hr,d,g⟩ | ⟨out1,na1,nb1,ac,bc,rfl,I1,h1⟩)
   ·obtain⟨r0,c⟩:=c
    have hr:r0=some r:=hr
    subst hr
    exact aF ⟨r,rfl,d,g⟩
   dsimp only
   refine aC (gE (cD ⟨rfl,?_⟩))
   refine aC (cX (bQ (I:=fun y c st'=>∃ out' na' nb' mg' ac bc,c=(none,na',nb',out',mg',ac,bc)/\HiI a b st out' na' nb' st'/\na'+nb'<na+nb)
    (Q:=fun c st'=>(∃ r,c.1=some r/\yD a b r/\SG st st')\/∃ out' na' nb' mg' ac bc,c=(none,na',nb',out',mg',ac,bc)/\HiI a b st out' na' nb' st'/\na'+nb'<na+nb) ?step2 ?fin2 ⟨_,_,_,_,_,_,rfl,I1,h1⟩) ?post2)
   case fin2=>
    rintro c st' ⟨out',na',nb',mg',ac,bc,rfl,I2,h2⟩
    exact .inr ⟨_,_,_,_,_,_,rfl,I2,h2⟩
   case post2=>
    have q1:=I0.ia
    have q2:=I0.jb
    rintro c st3 (⟨r,hr,d,g⟩ | ⟨out2,na2,nb2,mg2,ac,bc,rfl,I2,h2⟩)
    ·obtain⟨r0,c⟩:=c
     have hr:r0=some r:=hr
     subst hr
     exact aF ⟨r,rfl,d,g⟩
    dsimp only
    rw[jA3]
    have q3:=I2.ia
    have q4:=I2.jb
    exact aC (dP (aF ⟨_,_,_,_,rfl,⟨I2.m,I2.i,I2.ia,I2.j,I2.jb,I2.s.gal _⟩,by omega⟩))
   case step2=>
    clear I0 I1
    rename_i na00 nb00
    generalize hbd:na+nb=bd
    clear hxx h1
    rintro y c st2 _ hy ⟨out,na,nb,mg',ac,bc,rfl,I0,h2⟩
    dsimp only
    obtain⟨pb,hpb,ipb⟩:=T.atB (i:=nb - 1) (by have:=I0.j; have:=I0.jb; omega)
    by_cases hg:mg'>1
    case' pos=>
     rw[aj hg]
     generalize hgg:mg' - 1=gg
    case' neg=>
     rw[ai hg]
     generalize hgg:mg'=gg
    all_goals
     rw[jA3]
     refine aC (dP ?_)
     have G1:=I0.s.gal gg
     have na0:=I0.i
     have na1:=I0.ia
     have nb0:=I0.j
     have nb1:=I0.jb
     refine aC (jN hpb ?_)
     refine aC (jIZ (G1.k.trans hk) ipb T.ia (whole T.sa) (by omega) (by omega) fun k1 g1 g2 g3=>?_)
     dsimp only
     have M1:=MH.appA T I0.m g1 (fun n x h1 h2 h3=>jD7 T.sb hpb (cA (g3 n x (by omega) (by omega) (at_list.mpr h3))))
     have hle:∀ y∈a.toList.take k1,LE y pb:=fun y hy=>by
      obtain⟨n,h1,h2⟩:=jD8 hy
      exact g2 n y (by omega) (by omega) (at_list.mpr h2)
     by_cases e0:na - k1>0
     case' pos=>
      rw[aj e0]
      by_cases f1:k1=0
      ·rw[aj (bp f1)]
       rw[f1] at M1 ⊢
       exact aF (.inl ⟨_,rfl,MH.doneA T M1,G1⟩)
      rw[ai (bn f1)]
      obtain⟨pa,hpa,ipa⟩:=T.atA (i:=k1 - 1) (by omega)
      have hz:0<k1:=by omega
      generalize hiz:k1=iz at*
     case' neg=>
      rw[ai e0]
      have e0':k1=na:=by omega
      subst e0'
      have M1:=I0.m
      obtain⟨pa,hpa,ipa⟩:=T.atA (i:=k1 - 1) (by omega)
      have hz:0<k1:=by omega
      generalize hiz:k1=iz at*
     all_goals
      refine aC (jN hpb ?_)
      have M2:=MH.pushB T M1 (by omega) hpb hle
      by_cases e1:nb - 1=1
      ·rw[aj (bp e1)]
       rw[e1] at M2 ⊢
       exact aF (.inl ⟨_,rfl,MH.doneF T M2,G1⟩)
      rw[ai (bn e1)]
      refine aC (jN hpa ?_)
      refine aC (jJ0 (G1.k.trans hk) ipa T.ib (whole T.sb) (by omega) (by omega) fun k2 l1 l2 l3=>?_)
      dsimp only
      have M3:=MH.appB T M2 l1 (fun n x h1 h2 h3=>jD7 T.sa hpa (l3 n x (by omega) (by omega) (at_list.mpr h3)))
      have fin3:∀ y∈b.toList.take k2,LE y pa:=fun y hy=>by
       obtain⟨n,h1,h2⟩:=jD8 hy
       exact cA (l2 n y (by omega) (by omega) (at_list.mpr h2))
      by_cases e2:nb - 1 - k2>0
      ·rw[aj e2]
       by_cases e3:k2=1
       ·rw[aj (bp e3)]
        rw[e3] at M3 ⊢
        exact aF (.inl ⟨_,rfl,MH.doneF T M3,G1⟩)
       rw[ai (bn e3)]
       by_cases e5:k2=0
       ·rw[aj (bp e5)]
        rw[e5] at M3 ⊢
        exact aF (.inl ⟨_,rfl,MH.doneB T M3,G1⟩)
       rw[ai (bn e5)]
       refine aC (jN hpa ?_)
       have M4:=MH.pushA T M3 hz hpa fin3
       by_cases e4:iz - 1=0
       ·rw[aj (bp e4)]
        rw[e4] at M4 ⊢
        exact aF (.inl ⟨_,rfl,MH.doneA T M4,G1⟩)
       rw[ai (bn e4)]
       split
       ·exact aF (.inr ⟨_,_,_,_,_,_,rfl,⟨M4,by omega,by omega,by omega,by omega,G1⟩,by omega⟩)
       ·exact aF ⟨_,_,_,_,_,_,rfl,⟨M4,by omega,by omega,by omega,by omega,G1⟩,by omega⟩
      ·rw[ai e2]
       have e0:k2=nb - 1:=by omega
       subst e0
       refine aC (jN hpa ?_)
       have M4:=MH.pushA T M2 hz hpa fin3
       by_cases e4:iz - 1=0
       ·rw[aj (bp e4)]
        rw[e4] at M4 ⊢
        exact aF (.inl ⟨_,rfl,MH.doneA T M4,G1⟩)
       rw[ai (bn e4)]
       split
       ·exact aF (.inr ⟨_,_,_,_,_,_,rfl,⟨M4,by omega,by omega,by omega,by omega,G1⟩,by omega⟩)
       ·exact aF ⟨_,_,_,_,_,_,rfl,⟨M4,by omega,by omega,by omega,by omega,G1⟩,by omega⟩
end
def KI (xs:Array Keyed)(i:Nat):Int:=match xs[i]? with
 | some p=>key p
 | none=>0
def STo (xs:Array Keyed)(k:Nat):Prop:=∀ i j,i<=j->j<k->KI xs i<=KI xs j
structure SB (a₀:Array Keyed)(st:SortSt):Prop where
 perm:(arrOf st).Perm a₀
 kind:kindOf st=Od.kd
 failed:failedOf st=none
 pend:pendingOf st=#[]
theorem SB.size {a₀:Array Keyed}{st:SortSt}(h:SB a₀ st):(arrOf st).size=a₀.size:=h.perm.size_eq
theorem jBC {xs ys:Array Keyed}{i j:Nat}(h:xs[i]?=ys[j]?):KI xs i=KI ys j:=by unfold KI; rw[h]
theorem jNB {xs:Array Keyed}{src d:Nat}(hs:src<xs.size)(hd:d<=src)(k:Nat):
  KI (bubble xs src d) k=if k=src - d then KI xs src else if src - d<k/\k<=src then KI xs (k - 1) else KI xs k:=by
 have e:=getElem?_bubble hs d hd k
 by_cases h1:k=src - d
 ·rw[aj h1] at e ⊢; exact jBC e
 ·rw[ai h1] at e ⊢
  by_cases h2:src - d<k/\k<=src
  ·rw[aj h2] at e ⊢; exact jBC e
  ·rw[ai h2] at e ⊢; exact jBC e
theorem jCA {xs:Array Keyed}{i j:Nat}(hj:j<=xs.size)(k:Nat):
  KI (mirror xs i j ((j - i) / 2)) k=if i<=k/\k<j then KI xs (i+j - 1 - k) else KI xs k:=by
 have e:=getElem?_mirror_all (i:=i) hj k
 by_cases h1:i<=k/\k<j
 ·rw[aj h1] at e
  rw[aj h1]
  exact jBC e
 ·rw[ai h1] at e
  rw[ai h1]
  exact jBC e
theorem jA1 {xs:Array Keyed}{i j:Nat}(hj:j<=xs.size)(heq:∀ k,i<=k->k<j->KI xs k=KI xs (j - 1))(k:Nat):
  KI (mirror xs i j ((j - i) / 2)) k=KI xs k:=by
 rw[jCA hj]
 split
 ·rename_i h
  rw[heq _ (by omega) (by omega),heq k h.1 h.2]
 ·rfl
def Up (xs:Array Keyed)(lo n:Nat):Prop:=∀ i j,lo<=i->i<=j->j<lo+n->KI xs i<=KI xs j
def Dn (xs:Array Keyed)(lo n:Nat):Prop:=∀ i j,lo<=i->i<=j->j<lo+n->KI xs j<=KI xs i
structure BB (a₀:Array Keyed)(p:Array (Nat×Nat×Nat))(F:Nat->Int)(lo:Nat)(st:SortSt):Prop where
 perm:(arrOf st).Perm a₀
 kind:kindOf st=Od.kd
 failed:failedOf st=none
 pend:pendingOf st=p
 low:∀ k,k<lo->KI (arrOf st) k=F k
theorem jPF {a₀ xs:Array Keyed}(hp:xs.Perm a₀)(h0:AllI a₀.toList){i:Nat}(hi:i<a₀.size):∃ q,xs[i]?=some q/\IsI q/\key q=KI xs i:=by
 have hi':i<xs.size:=by rw[hp.size_eq]; exact hi
 have hm:xs[i]∈a₀.toList:=(cL.mp hp).mem_iff.mp (by simp)
 have e:xs[i]?=some xs[i]:=jc _ i hi'
 exact⟨xs[i],e,h0 _ hm,by unfold KI; rw[e]⟩
section
variable {prog:Program}{w:World}{A:Around}{E:Value->Shared->Prop}{s:Shared} [LtOk prog w A s]{a₀:Array Keyed}{p:Array (Nat×Nat×Nat)}{F:Nat->Int}{lo:Nat}
theorem BB.sz {st:SortSt}(h:BB a₀ p F lo st):(arrOf st).size=a₀.size:=h.perm.size_eq
theorem BB.arr {st:SortSt}(h:BB a₀ p F lo st){xs:Array Keyed}(hp:xs.Perm (arrOf st))(hl:∀ k,k<lo->KI xs k=KI (arrOf st) k):BB a₀ p F lo (setArr st xs):=
 ⟨hp.trans h.perm,h.kind,h.failed,h.pend,fun k hk=>(hl k hk).trans (h.low k hk)⟩
theorem jCB {st:SortSt}{i j:Nat}{Q:Option Bool->SortSt->Prop}(hB:BB a₀ p F lo st)(h0:AllI a₀.toList)(hi:i<a₀.size)(hj:j<a₀.size)
  (h:Q (some (decide (KI (arrOf st) i<KI (arrOf st) j))) st):wpS (model prog w) A E s (ltAt' i j) Q st:=by
 obtain⟨x,e1,i1,k1⟩:=jPF hB.perm h0 hi
 obtain⟨y,e2,i2,k2⟩:=jPF hB.perm h0 hj
 rw[ltAt'_eq]
 refine aC (fJ ?_)
 show wpS _ _ _ _ (do let x <- elem' (arrOf st) i; let y <- elem' (arrOf st) j; lt' x y) Q st
 rw[elem'_eq,elem'_eq,e1,e2]
 refine aC (aF (aC (aF (jFN hB.kind i1 i2 ?_))))
 rw[k1,k2]
 exact h
theorem Up.one {xs:Array Keyed} :Up xs lo 1:=fun i j h1 h2 h3=>by
 have:i=j:=by omega
 rw[this]
 exact cY _
theorem Dn.one {xs:Array Keyed} :Dn xs lo 1:=fun i j h1 h2 h3=>by
 have:i=j:=by omega
 rw[this]
 exact cY _
theorem Up.more {xs:Array Keyed}{n:Nat}(h:Up xs lo n)(hn:0<n)(hc:KI xs (lo+n - 1)<=KI xs (lo+n)):Up xs lo (n+1):=fun i j h1 h2 h3=>by
 by_cases e:j<lo+n
 ·exact h i j h1 h2 e
 ·have ej:j=lo+n:=by omega
  subst ej
  by_cases ei:i=lo+n
  ·rw[ei]
   exact cY _
  ·exact cK (h i (lo+n - 1) h1 (by omega) (by omega)) hc
theorem Dn.more {xs:Array Keyed}{n:Nat}(h:Dn xs lo n)(hn:0<n)(hc:KI xs (lo+n)<=KI xs (lo+n - 1)):Dn xs lo (n+1):=fun i j h1 h2 h3=>by
 by_cases e:j<lo+n
 ·exact h i j h1 h2 e
 ·have ej:j=lo+n:=by omega
  subst ej
  by_cases ei:i=lo+n
  ·rw[ei]
   exact cY _
  ·exact cK hc (h i (lo+n - 1) h1 (by omega) (by omega))
theorem Dn.congr {xs ys:Array Keyed}{n:Nat}(h:Dn xs lo n)(e:∀ k,KI ys k=KI xs k):Dn ys lo n:=fun i j h1 h2 h3=>by
 rw[e i,e j]
 exact h i j h1 h2 h3
theorem jET {st:SortSt}{nrem:Nat}{Q:Option Nat->SortSt->Prop}(h0:AllI a₀.toList)(hn:lo+nrem<=a₀.size)(hn1:1<=nrem)(hB:BB a₀ p F lo st)
  (h:∀ m st',BB a₀ p F lo st'->1<=m->m<=nrem->Up (arrOf st') lo m->Q (some m) st'):wpS (model prog w) A E s (countRun' lo nrem) Q st:=by
 rw[countRun'_eq]
 dsimp only
 refine aC (cX (bQ (I:=fun x c st'=>st'=st/\c=(none,x)/\Up (arrOf st) lo x)
  (Q:=fun c st'=>st'=st/\∃ n,c=(none,n)/\1<=n/\n<=nrem/\Up (arrOf st) lo n/\(n=nrem\/KI (arrOf st) (lo+n)<KI (arrOf st) (lo+n - 1))) ?step ?fin ⟨rfl,rfl,Up.one⟩) ?post)
 case fin=>
  rintro c st' ⟨rfl,rfl,hu⟩
  rw[show max 1 nrem=nrem by omega] at hu ⊢
  exact⟨rfl,nrem,rfl,hn1,ak _,hu, .inl rfl⟩
 case step=>
  rintro x c st' h1 h2 ⟨rfl,rfl,hu⟩
  dsimp only
  refine aC (jCB hB h0 (by omega) (by omega) ?_)
  dsimp only
  by_cases hl:KI (arrOf st') (lo+x)<KI (arrOf st') (lo+x - 1)
  ·rw[am hl,aj rfl]
   exact aF ⟨rfl,x,rfl,by omega,by omega,hu, .inr hl⟩
  ·rw[aL hl,ai ah]
   exact aF ⟨rfl,rfl,hu.more (by omega) (by omega)⟩
 case post=>
  rintro c st' ⟨rfl,n,rfl,n1,n2,hu,hor⟩
  dsimp only
  by_cases hnn:n=nrem
  ·rw[aj (bp hnn)]
   exact aF (h n st' hB n1 n2 hu)
  rw[ai (bn hnn)]
  have hlt:=hor.resolve_left hnn
  have hz:lo+n<=(arrOf st').size:=by rw[hB.sz]; omega
  by_cases hgt:n>1
  case' pos=>
   rw[aj hgt]
   refine aC (jCB hB h0 (by omega) (by omega) ?_)
   dsimp only
   by_cases hr:KI (arrOf st') lo<KI (arrOf st') (lo+n - 1)
   ·rw[am hr,aj rfl]
    exact aF (h n st' hB n1 n2 hu)
   rw[aL hr,ai ah]
   have hall:∀ k,lo<=k->k<lo+n->KI (arrOf st') k=KI (arrOf st') (lo+n - 1):=fun k h1 h2=>by
    have a1:=hu lo k (by omega) h1 h2
    have a2:=hu k (lo+n - 1) h1 (by omega) (by omega)
    omega
   refine aC (wpS_reverse ?_)
   have hB1:=hB.arr (xs:=mirror (arrOf st') lo (lo+n) ((lo+n - lo) / 2)) (mirror_perm _ _ _ _) fun k _=>jA1 hz hall k
   have hs0:Dn (arrOf st') lo n:=fun i j h1 h2 h3=>by
    rw[hall i h1 (by omega),hall j (by omega) h3]
    exact cY _
   have hs1:Dn (arrOf (setArr st' (mirror (arrOf st') lo (lo+n) ((lo+n - lo) / 2)))) lo (n+1):=(hs0.more (by omega) (cA hlt)).congr (jA1 hz hall)
   generalize setArr st' (mirror (arrOf st') lo (lo+n) ((lo+n - lo) / 2))=st1 at*
  case' neg=>
   rw[ai hgt]
   have en:n=1:=by omega
   have hB1:=hB
   have hs1:Dn (arrOf st') lo (n+1):=by
    rw[en] at hlt ⊢
    exact Dn.one.more (by omega) (cA hlt)
  all_goals
   refine aC (gE (cD ⟨rfl,?_⟩))
   refine aC (cX (bQ (I:=fun x c st'=>∃ q,c=(none,x,q)/\BB a₀ p F lo st'/\Dn (arrOf st') lo x/\q+1<=x/\∀ i,lo+x - (q+1)<=i->i<lo+x->KI (arrOf st') i=KI (arrOf st') (lo+x - 1))
    (Q:=fun c st'=>∃ m q,c=(none,m,q)/\1<=m/\m<=nrem/\BB a₀ p F lo st'/\Dn (arrOf st') lo m/\q+1<=m/\∀ i,lo+m - (q+1)<=i->i<lo+m->KI (arrOf st') i=KI (arrOf st') (lo+m - 1)) ?dstep ?dfin ⟨0,rfl,hB1,hs1,by omega,fun i h1 h2=>by congr 1; omega⟩) ?dpost)
   case dfin=>
    rintro c st' ⟨q,rfl,hb,hd,hq,he⟩
    rw[show max (n+1) nrem=nrem by omega] at hd hq he ⊢
    exact⟨nrem,q,rfl,by omega,by omega,hb,hd,hq,he⟩
   case dstep=>
    rintro x c st' h1 h2 ⟨q,rfl,hb,hd,hq,he⟩
    dsimp only
    have hz:lo+x<=(arrOf st').size:=by rw[hb.sz]; omega
    refine aC (jCB hb h0 (by omega) (by omega) ?_)
    dsimp only
    by_cases hl:KI (arrOf st') (lo+x)<KI (arrOf st') (lo+x - 1)
    ·rw[am hl,aj rfl]
     have d1:=hd.more (by omega) (cA hl)
     by_cases hq0:q>0
     ·rw[aj hq0]
      refine aC (wpS_reverse (aF ⟨0,rfl,hb.arr (mirror_perm _ _ _ _) fun k _=>jA1 hz he k,d1.congr (jA1 hz he),by omega,fun i h1 h2=>by congr 1; omega⟩))
     ·rw[ai hq0]
      exact aF ⟨0,rfl,hb,d1,by omega,fun i h1 h2=>by congr 1; omega⟩
    ·rw[aL hl,ai ah]
     refine aC (jCB hb h0 (by omega) (by omega) ?_)
     dsimp only
     by_cases hg:KI (arrOf st') (lo+x - 1)<KI (arrOf st') (lo+x)
     ·rw[am hg,aj rfl]
      exact aF ⟨x,q,rfl,by omega,by omega,hb,hd,hq,he⟩
     ·rw[aL hg,ai ah]
      have ex:KI (arrOf st') (lo+x)=KI (arrOf st') (lo+x - 1):=by omega
      refine aF ⟨q+1,rfl,hb,hd.more (by omega) (by omega),by omega,fun i h1 h2=>?_⟩
      rw[show lo+(x+1) - 1=lo+x by omega]
      by_cases hix:i=lo+x
      ·rw[hix]
      ·rw[ex]
       exact he i (by omega) (by omega)
   case dpost=>
    rintro c st2 ⟨m,q,rfl,m1,m2,hB2,hs2,hq,he⟩
    dsimp only
    have hz2:lo+m<=(arrOf st2).size:=by rw[hB2.sz]; omega
    by_cases hq0:q>0
    case' pos=>
     rw[aj hq0]
     refine aC (wpS_reverse ?_)
     have hB3:=hB2.arr (xs:=mirror (arrOf st2) (lo+m - (q+1)) (lo+m) ((lo+m - (lo+m - (q+1))) / 2)) (mirror_perm _ _ _ _) fun k _=>jA1 hz2 he k
     have hs3:Dn (arrOf (setArr st2 (mirror (arrOf st2) (lo+m - (q+1)) (lo+m) ((lo+m - (lo+m - (q+1))) / 2)))) lo m:=hs2.congr (jA1 hz2 he)
     generalize setArr st2 (mirror (arrOf st2) (lo+m - (q+1)) (lo+m) ((lo+m - (lo+m - (q+1))) / 2))=st3 at*
    case' neg=>
     rw[ai hq0]
     have hB3:=hB2
     have hs3:=hs2
     generalize st2=st3 at*
    all_goals
     have hz3:lo+m<=(arrOf st3).size:=by rw[hB3.sz]; omega
     refine aC (wpS_reverse ?_)
     have hB4:=hB3.arr (xs:=mirror (arrOf st3) lo (lo+m) ((lo+m - lo) / 2)) (mirror_perm _ _ _ _) fun k hk=>by
      rw[jCA hz3,ai (by omega)]
     have hU:Up (mirror (arrOf st3) lo (lo+m) ((lo+m - lo) / 2)) lo m:=fun i j h1 h2 h3=>by
      rw[jCA hz3,jCA hz3,aj ⟨h1,by omega⟩,aj ⟨by omega,h3⟩]
      exact hs3 _ _ (by omega) (by omega) (by omega)
     generalize mirror (arrOf st3) lo (lo+m) ((lo+m - lo) / 2)=xs4 at*
     refine aC (cX (bQ (I:=fun x c st'=>st'=setArr st3 xs4/\c=(none,x)/\Up xs4 lo x)
      (Q:=fun c st'=>st'=setArr st3 xs4/\∃ n,c=(none,n)/\1<=n/\n<=nrem/\Up xs4 lo n) ?tstep ?tfin ⟨rfl,rfl,hU⟩) ?tpost)
     case tfin=>
      rintro c st' ⟨rfl,rfl,hu⟩
      rw[show max m nrem=nrem by omega] at hu ⊢
      exact⟨rfl,nrem,rfl,by omega,by omega,hu⟩
     case tstep=>
      rintro x c st' h1 h2 ⟨rfl,rfl,hu⟩
      dsimp only
      refine aC (jCB hB4 h0 (by omega) (by omega) ?_)
      dsimp only
      by_cases hl:KI xs4 (lo+x)<KI xs4 (lo+x - 1)
      ·rw[am hl,aj rfl]
       exact aF ⟨rfl,x,rfl,by omega,by omega,hu⟩
      ·rw[aL hl,ai ah]
       exact aF ⟨rfl,rfl,hu.more (by omega) (by omega)⟩
     case tpost=>
      rintro c st' ⟨rfl,n,rfl,n1,n2,hu⟩
      exact aF (h n _ hB4 n1 n2 hu)
theorem jDH {st:SortSt}{n ok:Nat}{Q:Bool->SortSt->Prop}(h0:AllI a₀.toList)(hn:lo+n<=a₀.size)(hok:ok<=n)(hB:BB a₀ p F lo st)(hs:Up (arrOf st) lo ok)
  (h:∀ st',BB a₀ p F lo st'->Up (arrOf st') lo n->Q true st'):wpS (model prog w) A E s (binarySort' lo n ok) Q st:=by
 rw[binarySort'_eq]
 dsimp only
 refine aC (cX (bQ (I:=fun k c st'=>c=(none,())/\BB a₀ p F lo st'/\Up (arrOf st') lo (min k n))
  (Q:=fun c st'=>c=(none,())/\BB a₀ p F lo st'/\Up (arrOf st') lo n) ?step ?fin ⟨rfl,hB,?init⟩) ?post)
 case post=>
  rintro c st' ⟨rfl,hb,hu⟩
  exact aF (h st' hb hu)
 case init=>
  by_cases e:ok=0
  ·intro i j h1 h2 h3
   have:i=j:=by omega
   rw[this]
   exact cY _
  ·exact fun i j h1 h2 h3=>hs i j h1 h2 (by omega)
 case fin=>
  rintro c st' ⟨hc,hb,hu⟩
  rw[show min (max (max ok 1) n) n=n by omega] at hu
  exact⟨hc,hb,hu⟩
 case step=>
  rintro k c st1 hk1 hk2 ⟨rfl,hb,hu⟩
  rw[show min k n=k by omega] at hu
  refine aC (cX (bQ (I:=fun x c st'=>st'=st1/\∃ l r,c=(none,l,r)/\l<=r/\r<=k/\r - l<=k - x/\
    (∀ i,i<l->KI (arrOf st1) (lo+i)<=KI (arrOf st1) (lo+k))/\∀ i,r<=i->i<k->KI (arrOf st1) (lo+k)<KI (arrOf st1) (lo+i))
   (Q:=fun c st'=>st'=st1/\∃ l r,c=(none,l,r)/\l<=k/\
    (∀ i,i<l->KI (arrOf st1) (lo+i)<=KI (arrOf st1) (lo+k))/\∀ i,l<=i->i<k->KI (arrOf st1) (lo+k)<KI (arrOf st1) (lo+i)) ?step1 ?fin1 ⟨rfl,0,k,rfl,by omega,by omega,by omega,fun i hi=>by omega,fun i h1 h2=>by omega⟩) ?post1)
  case fin1=>
   rintro c st' ⟨rfl,l,r,rfl,b1,b2,b3,b4,b5⟩
   have:l=r:=by omega
   subst this
   exact⟨rfl,l,l,rfl,b2,b4,b5⟩
  case step1=>
   rintro x c st' _ hx ⟨rfl,l,r,rfl,b1,b2,b3,b4,b5⟩
   dsimp only
   by_cases hge:l ≥ r
   ·rw[aj hge]
    have:l=r:=by omega
    subst this
    exact aF ⟨rfl,l,l,rfl,b2,b4,b5⟩
   rw[ai hge]
   refine aC (jCB hb h0 (by omega) (by omega) ?_)
   dsimp only
   by_cases hl:KI (arrOf st') (lo+k)<KI (arrOf st') (lo+(l+r) / 2)
   ·rw[am hl,aj rfl]
    exact aF ⟨rfl,l,(l+r) / 2,rfl,by omega,by omega,by omega,b4,fun i h1 h2=>Int.lt_of_lt_of_le hl (hu _ _ (by omega) (by omega) (by omega))⟩
   ·rw[aL hl,ai ah]
    exact aF ⟨rfl,(l+r) / 2+1,r,rfl,by omega,by omega,by omega,fun i h1=>cK (hu (lo+i) (lo+(l+r) / 2) (by omega) (by omega) (by omega)) (Int.not_lt.mp hl),b5⟩
  case post1=>
   rintro c st' ⟨rfl,l,r,rfl,hlk,b4,b5⟩
   dsimp only
   rw[moveDown'_eq]
   have hks:lo+k<(arrOf st').size:=by rw[hb.sz]; omega
   have kb:∀ x,KI (bubble (arrOf st') (lo+k) (lo+k - (lo+l))) x=if x=lo+l then KI (arrOf st') (lo+k) else if lo+l<x/\x<=lo+k then KI (arrOf st') (x - 1) else KI (arrOf st') x:=fun x=>by
    have:=jNB hks (d:=lo+k - (lo+l)) (by omega) x
    rw[show lo+k - (lo+k - (lo+l))=lo+l by omega] at this
    exact this
   refine aC (dP (aF ⟨rfl,hb.arr (bubble_perm _ _ _) fun x hx=>?_,?_⟩))
   ·rw[kb,ai (by omega),ai (by omega)]
   rw[show min (k+1) n=k+1 by omega]
   intro i j h1 h2 h3
   show KI (bubble _ _ _) i<=KI (bubble _ _ _) j
   rw[kb,kb]
   have lo1:∀ i,lo<=i->i<lo+l->KI (arrOf st') i<=KI (arrOf st') (lo+k):=fun i h1 h2=>by
    have:=b4 (i - lo) (by omega)
    rw[show lo+(i - lo)=i by omega] at this
    exact this
   have hi1:∀ i,lo+l<=i->i<lo+k->KI (arrOf st') (lo+k)<=KI (arrOf st') i:=fun i h1 h2=>by
    have:=b5 (i - lo) (by omega) (by omega)
    rw[show lo+(i - lo)=i by omega] at this
    exact cA this
   repeat' split
   all_goals first
    | (exfalso; omega)
    | exact cY _
    | exact lo1 _ (by omega) (by omega)
    | exact hi1 _ (by omega) (by omega)
    | exact hu _ _ (by omega) (by omega) (by omega)
end
def mergeAtB: { g:Nat->StateT SortSt Sem Bool // mergeAt'=g} :=⟨fun _=>bind _ _,rfl⟩
theorem KI_key {xs:Array Keyed}{i:Nat}{p:Keyed}(h:xs[i]?=some p):KI xs i=key p:=by
 unfold KI
 rw[h]
theorem jIE (s1:Nat):∀ (l:List Keyed) (j0:Nat) (a:Array Keyed) (P M S:List Keyed),P.length=s1+j0->M.length=l.length->a.toList=P++(M++S)->
  ((l.zipIdx j0).foldl (fun (a:Array Keyed) (x:Keyed×Nat)=>a.setIfInBounds (s1+x.2) x.1) a).toList=P++(l++S)
 | [],j0,a,P,M,S,h1,h2,h3=>by
  rw[fO h2] at h3
  exact h3
 | q::l,j0,a,P,[],S,h1,h2,h3=>by cases h2
 | q::l,j0,a,P,m::M,S,h1,h2,h3=>by
  rw[g6,List.foldl_cons]
  have:=jIE s1 l (j0+1) (a.setIfInBounds (s1+j0) q) (P++[q]) M S (by rw[aE,h1]; rfl) (Nat.succ.inj h2) (by
   rw[gF,h3,<- h1,iB _ _ (ak _),ie,aQ]
   rfl)
  rw[this,aQ]
  rfl
theorem jRI {P m1 m2 S:List Keyed}(e:m1.length=m2.length){k:Nat}(h:k<P.length\/P.length+m1.length<=k):(P++(m1++S))[k]?=(P++(m2++S))[k]?:=by
 rcases h with h | h
 ·rw[bM h,bM h]
 ·rw[aZ (by omega),aZ (by omega),aZ (by omega),aZ (by omega),e]
theorem jTS {P m S:List Keyed}{k:Nat}(h1:P.length<=k)(h2:k<P.length+m.length):(P++(m++S))[k]?=m[k - P.length]?:=by
 rw[aZ h1,bM (by omega)]
theorem jJ2 {xs:Array Keyed}{i j t:Nat}(h:t<j - i):(xs.extract i j).toList[t]?=xs[i+t]?:=by
 rw[jAM,cc h,eU,bu]
theorem jCO {xs:Array Keyed}{i j:Nat}{p:Keyed}(h:p∈(xs.extract i j).toList):∃ t,i<=t/\t<j/\xs[t]?=some p:=by
 rw[jAM] at h
 obtain⟨t,h1,h2,h3⟩:=jA4 h
 exact⟨t,h1,by omega,at_list.mpr h3⟩
theorem jE4 {xs:Array Keyed}{i j:Nat}(h:j<=xs.size):(xs.extract i j).size=j - i:=by
 rw[Array.size_extract]
 omega
theorem jMD {xs:Array Keyed}{i j:Nat}(h:∀ n m x y,i<=n->n<=m->m<j->xs[n]?=some x->xs[m]?=some y->LE x y):Srt (xs.extract i j).toList:=by
 refine bx.mpr fun a b ha hb hab=>?_
 have hl:(xs.extract i j).toList.length<=j - i:=by rw[jAM,be]; omega
 have e1:=jJ2 (xs:=xs) (i:=i) (j:=j) (t:=a) (by omega)
 have e2:=jJ2 (xs:=xs) (i:=i) (j:=j) (t:=b) (by omega)
 rw[ax ha] at e1
 rw[ax hb] at e2
 exact h (i+a) (i+b) _ _ (by omega) (by omega) (by omega) e1.symm e2.symm
theorem KI_at {xs ys:Array Keyed}{i j:Nat}(h:xs.toList[i]?=ys.toList[j]?):KI xs i=KI ys j:=jBC (by rw[<- bu,<- bu]; exact h)
theorem jJN {xs r R:Array Keyed}{sa na sb nb k1 k2:Nat}(hsb:sb=sa+na)(hk1:k1<na)(hk2:0<k2)(hk2':k2<=nb)(hz:sb+nb<=xs.size)
  (u1:Up xs sa na) (u2:Up xs sb nb) (g2:∀ t,sa<=t->t<sa+k1->KI xs t<=KI xs sb) (l3:∀ t,sb+k2<=t->t<sb+nb->KI xs (sb - 1)<=KI xs t)
  (D:yD (xs.extract (sa+k1) sb) (xs.extract sb (sb+k2)) r)
  (hR:R.toList=xs.toList.take (sa+k1)++(r.toList++xs.toList.drop (sb+k2))):
  R.Perm xs/\(∀ k,k<sa\/sa+(na+nb)<=k->KI R k=KI xs k)/\Up R sa (na+nb):=by
 have lr:r.toList.length=sb+k2 - (sa+k1):=by
  rw[D.1.length_eq,aE,aG,aG,jE4 (by omega),jE4 (by omega)]
  omega
 have lP:(xs.toList.take (sa+k1)).length=sa+k1:=by rw[be,aG]; omega
 have hX:xs.toList=xs.toList.take (sa+k1)++(((xs.extract (sa+k1) sb).toList++(xs.extract sb (sb+k2)).toList)++xs.toList.drop (sb+k2)):=by
  have a1:=bo (sa+k1) xs.toList
  have a2:=bo (sb - (sa+k1)) (xs.toList.drop (sa+k1))
  have a3:=bo k2 (xs.toList.drop sb)
  rw[gC] at a2 a3
  rw[show sa+k1+(sb - (sa+k1))=sb by omega] at a2
  rw[jAM,jAM,cj,aQ,a3,a2,a1]
 have lm:((xs.extract (sa+k1) sb).toList++(xs.extract sb (sb+k2)).toList).length=r.toList.length:=D.1.length_eq.symm
 have out:∀ k,k<sa+k1\/sb+k2<=k->KI R k=KI xs k:=fun k hk=>KI_at (by
  have:=jRI (P:=xs.toList.take (sa+k1)) (S:=xs.toList.drop (sb+k2)) lm.symm (k:=k) (by rw[lP,lr]; omega)
  exact(bN (·[k]?) hR).trans (this.trans (bN (·[k]?) hX).symm))
 have inn:∀ k,sa+k1<=k->k<sb+k2->R.toList[k]?=r.toList[k - (sa+k1)]?:=fun k h1 h2=>by
  rw[hR,jTS (by rw[lP]; exact h1) (by rw[lP,lr]; omega),lP]
 have mem:∀ k,sa+k1<=k->k<sb+k2->∃ t,sa+k1<=t/\t<sb+k2/\KI R k=KI xs t:=fun k h1 h2=>by
  have hk:k - (sa+k1)<r.toList.length:=by omega
  have e:=inn k h1 h2
  rw[ax hk] at e
  have hm:=D.1.mem_iff.mp (dI hk)
  rcases aM.mp hm with q | q
  ·obtain⟨t,t1,t2,t3⟩:=jCO q
   exact⟨t,t1,by omega,(KI_key (at_list.mpr e)).trans (KI_key t3).symm⟩
  ·obtain⟨t,t1,t2,t3⟩:=jCO q
   exact⟨t,by omega,t2,(KI_key (at_list.mpr e)).trans (KI_key t3).symm⟩
 have srt:∀ i j,sa+k1<=i->i<=j->j<sb+k2->KI R i<=KI R j:=fun i j h1 h2 h3=>by
  have hi:i - (sa+k1)<r.toList.length:=by omega
  have hj:j - (sa+k1)<r.toList.length:=by omega
  have e1:=inn i h1 (by omega)
  have e2:=inn j (by omega) h3
  rw[ax hi] at e1
  rw[ax hj] at e2
  rw[KI_key (at_list.mpr e1),KI_key (at_list.mpr e2)]
  exact jED D.2 (ax hi) (ax hj) (by omega)
 have low:∀ t u,sa<=t->t<sa+k1->t<=u->u<sb+nb->KI xs t<=KI xs u:=fun t u h1 h2 h3 h4=>by
  by_cases e:u<sb
  ·exact u1 t u h1 h3 (by omega)
  ·exact cK (g2 t h1 h2) (u2 sb u (ak _) (by omega) h4)
 have high:∀ t u,sa<=t->t<=u->sb+k2<=u->u<sb+nb->KI xs t<=KI xs u:=fun t u h1 h2 h3 h4=>by
  by_cases e:t<sb
  ·exact cK (u1 t (sb - 1) h1 (by omega) (by omega)) (l3 u h3 h4)
  ·exact u2 t u (by omega) h2 h4
 refine⟨?_,fun k hk=>out k (by omega),fun i j h1 h2 h3=>?_⟩
 ·refine cL.mpr ?_
  rw[hR]
  refine List.Perm.trans ?_ (iu hX.symm)
  exact cS _ (ff _ D.1)
 ·have h3:j<sb+nb:=by omega
  by_cases i1:i<sa+k1
  ·rw[out i (.inl i1)]
   by_cases j1:j<sa+k1
   ·rw[out j (.inl j1)]
    exact low i j h1 i1 h2 h3
   by_cases j2:j<sb+k2
   ·obtain⟨t,t1,t2,t3⟩:=mem j (by omega) j2
    rw[t3]
    exact low i t h1 i1 (by omega) (by omega)
   ·rw[out j (.inr (by omega))]
    exact low i j h1 i1 h2 h3
  by_cases i2:i<sb+k2
  ·by_cases j2:j<sb+k2
   ·exact srt i j (by omega) h2 j2
   ·obtain⟨t,t1,t2,t3⟩:=mem i (by omega) i2
    rw[t3,out j (.inr (by omega))]
    exact high t j (by omega) (by omega) (by omega) h3
  ·rw[out i (.inr (by omega)),out j (.inr (by omega))]
   exact high i j h1 h2 (by omega) h3
section
variable {prog:Program}{w:World}{A:Around}{E:Value->Shared->Prop}{s:Shared} [LtOk prog w A s]
theorem jPU {st st':SortSt}{Q:PUnit->SortSt->Prop}(h:Q ⟨⟩ st'):wpS (model prog w) A E s (set st':StateT SortSt Sem PUnit) Q st:=dP (f:=fun _=>st') h
theorem jK7 {α:Type}{a b:α}{Q:α->SortSt->Prop}{st:SortSt}(e:a=b)(h:Q b st):wpS (model prog w) A E s (pure a:StateT SortSt Sem α) Q st:=aF (e ▸ h)
structure Merged (st st':SortSt)(i sa na sb nb pw:Nat):Prop where
 perm:(arrOf st').Perm (arrOf st)
 kind:kindOf st'=Od.kd
 failed:failedOf st'=none
 pend:pendingOf st'=((pendingOf st).setIfInBounds i (sa,na+nb,pw)).eraseIdxIfInBounds (i+1)
 out:∀ k,k<sa\/sa+(na+nb)<=k->KI (arrOf st') k=KI (arrOf st) k
 up:Up (arrOf st') sa (na+nb)
theorem jH1 {st:SortSt}{i sa na pw sb nb w2:Nat}{Q:Bool->SortSt->Prop}(hk:kindOf st=Od.kd)(hf:failedOf st=none)(hI:AllI (arrOf st).toList)
  (h1:(pendingOf st)[i]?=some (sa,na,pw)) (h2:(pendingOf st)[i+1]?=some (sb,nb,w2)) (hsb:sb=sa+na) (hna:0<na) (hnb:0<nb) (hz:sb+nb<=(arrOf st).size)
  (u1:Up (arrOf st) sa na) (u2:Up (arrOf st) sb nb) (h:∀ st',Merged st st' i sa na sb nb pw->Q true st'):wpS (model prog w) A E s (mergeAt' i) Q st:=by
 rw[mergeAtB.2]
 delta mergeAtB
 dsimp only
 simp only [elP,ltP,ltAtP,jHP,jO4,jO5]
 refine aC (fJ ?_)
 rw[h1,h2]
 dsimp only
 refine aC (jPU ?_)
 generalize hpp:((pendingOf st).setIfInBounds i (sa,na+nb,pw)).eraseIdxIfInBounds (i+1)=pp
 show wpS _ _ _ _ _ _ (SortSt.mk' (kindOf st) (arrOf st) pp (gallopOf st) (failedOf st))
 generalize hst1:SortSt.mk' (kindOf st) (arrOf st) pp (gallopOf st) (failedOf st)=st1
 have G1:kindOf st1=kindOf st/\arrOf st1=arrOf st/\pendingOf st1=pp/\failedOf st1=failedOf st:=by rw[<- hst1]; exact⟨rfl,rfl,rfl,rfl⟩
 have at_:∀ t,t<(arrOf st).size->∃ q,(arrOf st)[t]?=some q/\IsI q:=fun t ht=>by
  obtain⟨q,q1,q2⟩:=qG ht
  exact⟨q,q1,hI q (ao q2)⟩
 have m1:∀ n m x y,sa<=n->n<=m->m<sa+na->(arrOf st)[n]?=some x->(arrOf st)[m]?=some y->LE x y:=fun n m x y a1 a2 a3 hx hy=>by
  have:=u1 n m a1 a2 a3
  rw[KI_key hx,KI_key hy] at this
  exact this
 have m2:∀ n m x y,sb<=n->n<=m->m<sb+nb->(arrOf st)[n]?=some x->(arrOf st)[m]?=some y->LE x y:=fun n m x y a1 a2 a3 hx hy=>by
  have:=u2 n m a1 a2 a3
  rw[KI_key hx,KI_key hy] at this
  exact this
 obtain⟨pb,hpb,ipb⟩:=at_ sb (by omega)
 refine aC (jN hpb ?_)
 refine aC (jIZ (G1.1.trans hk) ipb hI m1 hna (show sa+na<=(arrOf st).size by omega) fun k1 g1 g2 g3=>?_)
 dsimp only
 have g2:∀ t,sa<=t->t<sa+k1->KI (arrOf st) t<=KI (arrOf st) sb:=fun t t1 t2=>by
  obtain⟨q,hq,_⟩:=at_ t (by omega)
  rw[KI_key hq,KI_key hpb]
  exact g2 t q t1 t2 hq
 by_cases e1:na - k1=0
 ·rw[aj (bp e1)]
  refine aF (h _ ⟨?_,G1.1.trans hk,G1.2.2.2.trans hf,G1.2.2.1.trans hpp.symm,fun k _=>?_,?_⟩)
  ·rw[G1.2.1]
  ·rw[G1.2.1]
  ·rw[G1.2.1]
   intro i j i1 i2 i3
   by_cases a:i<sb
   ·by_cases b:j<sb
    ·exact u1 i j i1 i2 (by omega)
    ·exact cK (g2 i i1 (by omega)) (u2 sb j (ak _) (by omega) (by omega))
   ·exact u2 i j (by omega) i2 (by omega)
 rw[ai (bn e1)]
 obtain⟨pa,hpa,ipa⟩:=at_ (sa+k1+(na - k1) - 1) (by omega)
 refine aC (jN hpa ?_)
 refine aC (jJ0 (G1.1.trans hk) ipa hI m2 (by omega) (show sb+nb<=(arrOf st).size by omega) fun k2 l1 l2 l3=>?_)
 dsimp only
 have epa:sa+k1+(na - k1) - 1=sb - 1:=by omega
 rw[epa] at hpa
 have l3':∀ t,sb+k2<=t->t<sb+nb->KI (arrOf st) (sb - 1)<=KI (arrOf st) t:=fun t t1 t2=>by
  obtain⟨q,hq,_⟩:=at_ t (by omega)
  rw[KI_key hq,KI_key hpa]
  exact l3 t q t1 t2 hq
 by_cases e2:k2=0
 ·rw[aj (bp e2)]
  refine aF (h _ ⟨?_,G1.1.trans hk,G1.2.2.2.trans hf,G1.2.2.1.trans hpp.symm,fun k _=>?_,?_⟩)
  ·rw[G1.2.1]
  ·rw[G1.2.1]
  ·rw[G1.2.1]
   intro i j i1 i2 i3
   by_cases a:i<sb
   ·by_cases b:j<sb
    ·exact u1 i j i1 i2 (by omega)
    ·exact cK (u1 i (sb - 1) i1 (by omega) (by omega)) (l3' j (by omega) (by omega))
   ·exact u2 i j (by omega) i2 (by omega)
 rw[ai (bn e2)]
 have T:Two ((arrOf st).extract (sa+k1) sb) ((arrOf st).extract sb (sb+k2)):=by
  refine⟨fun q hq=>?_,fun q hq=>?_,jMD fun n m x y a1 a2 a3=>m1 n m x y (by omega) a2 (by omega),jMD fun n m x y a1 a2 a3=>m2 n m x y (by omega) a2 (by omega),?_,?_,fun x hx y hy=>?_,fun y hy q hq=>?_⟩
  ·obtain⟨t,_,_,t3⟩:=jCO hq
   exact hI q (ao (at_list.mp t3))
  ·obtain⟨t,_,_,t3⟩:=jCO hq
   exact hI q (ao (at_list.mp t3))
  ·rw[jE4 (by omega)]; omega
  ·rw[jE4 (by omega)]; omega
  ·obtain⟨t,t1,t2,t3⟩:=jCO hx
   rw[jE4 (by omega),jJ2 (by omega),show sa+k1+(sb - (sa+k1) - 1)=sb - 1 by omega,hpa] at hy
   cases hy
   exact l2 t x t1 t2 t3
  ·obtain⟨t,t1,t2,t3⟩:=jCO hy
   rw[jJ2 (by omega),ja,hpb] at hq
   cases hq
   exact g3 t y t1 (by omega) t3
 by_cases e3:na - k1<=k2
 case' pos=>
  rw[aj e3]
  refine aC (jGZ (G1.1.trans hk) T fun r st2 D G0=>?_)
  have G:SG (SortSt.mk' (kindOf st) (arrOf st) pp (gallopOf st) (failedOf st)) st2:=by rw[hst1]; exact G0
  subst hpp
 case' neg=>
  rw[ai e3]
  refine aC (jH0 (G1.1.trans hk) T fun r st2 D G0=>?_)
  have G:SG (SortSt.mk' (kindOf st) (arrOf st) pp (gallopOf st) (failedOf st)) st2:=by rw[hst1]; exact G0
  subst hpp
 all_goals
  refine aC (dP (aC (fJ ?_)))
  have ea:arrOf st2=arrOf st:=G.a
  have W:=jJN (R:=((r.toList.zipIdx 0).foldl (fun (a:Array Keyed) (x:Keyed×Nat)=>a.setIfInBounds (sa+k1+x.2) x.1) (arrOf st))) hsb (by omega) (by omega) l1 hz u1 u2 g2 l3' D (jIE (sa+k1) r.toList 0 (arrOf st) ((arrOf st).toList.take (sa+k1)) (((arrOf st).extract (sa+k1) sb).toList++((arrOf st).extract sb (sb+k2)).toList) ((arrOf st).toList.drop (sb+k2)) (by rw[be,aG]; omega) D.1.length_eq.symm (by
   have a1:=bo (sa+k1) (arrOf st).toList
   have a2:=bo (sb - (sa+k1)) ((arrOf st).toList.drop (sa+k1))
   have a3:=bo k2 ((arrOf st).toList.drop sb)
   rw[gC] at a2 a3
   rw[show sa+k1+(sb - (sa+k1))=sb by omega] at a2
   rw[jAM,jAM,cj,aQ,a3,a2,a1]))
  rw[<- ea] at W
  refine jK7 (by show (failedOf st2).isNone=true; rw[G.f]; show (failedOf st).isNone=true; rw[hf]; rfl) (h _ ⟨?_,G.k.trans hk,G.f.trans hf,G.p,?_,?_⟩)
  ·rw[<- ea]
   exact W.1
  ·rw[<- ea]
   exact W.2.1
  ·exact W.2.2
end
def Runs (xs:Array Keyed):List (Nat×Nat×Nat)->Nat->Nat->Prop
 | [],a,b=>a=b
 | (s,n,_)::t,a,b=>s=a/\0<n/\Up xs s n/\Runs xs t (a+n) b
section
variable {xs ys:Array Keyed}
theorem Runs.le:∀ {l:List (Nat×Nat×Nat)}{a b:Nat},Runs xs l a b->a+l.length<=b
 | [],a,b,h=>by have:a=b:=h; rw[cQ]; omega
 | (s,n,_)::t,a,b,⟨_,h2,_,h4⟩=>by
  have:=Runs.le h4
  rw[aK]
  omega
theorem Runs.app:∀ {l m:List (Nat×Nat×Nat)}{a b:Nat},Runs xs (l++m) a b->∃ c,Runs xs l a c/\Runs xs m c b
 | [],m,a,b,h=>⟨a,rfl,h⟩
 | (s,n,_)::t,m,a,b,⟨h1,h2,h3,h4⟩=>by
  obtain⟨c,c1,c2⟩:=Runs.app h4
  exact⟨c,⟨h1,h2,h3,c1⟩,c2⟩
theorem Runs.put:∀ {l m:List (Nat×Nat×Nat)}{a b c:Nat},Runs xs l a c->Runs xs m c b->Runs xs (l++m) a b
 | [],m,a,b,c,h,g=>by have:a=c:=h; subst this; exact g
 | (s,n,_)::t,m,a,b,c,⟨h1,h2,h3,h4⟩,g=>⟨h1,h2,h3,Runs.put h4 g⟩
theorem Up.same {lo n:Nat}(h:Up xs lo n)(e:∀ k,lo<=k->k<lo+n->KI ys k=KI xs k):Up ys lo n:=fun i j h1 h2 h3=>by
 rw[e i h1 (by omega),e j (by omega) h3]
 exact h i j h1 h2 h3
theorem Runs.same:∀ {l:List (Nat×Nat×Nat)}{a b:Nat},Runs xs l a b->(∀ k,a<=k->k<b->KI ys k=KI xs k)->Runs ys l a b
 | [],a,b,h,_=>h
 | (s,n,_)::t,a,b,⟨h1,h2,h3,h4⟩,e=>by
  have:=Runs.le h4
  exact⟨h1,h2,h3.same fun k k1 k2=>e k (by omega) (by omega),Runs.same h4 fun k k1 k2=>e k (by omega) k2⟩
theorem Runs.mod {f:Nat×Nat×Nat->Nat×Nat×Nat}(hf:∀ x,(f x).1=x.1/\(f x).2.1=x.2.1):∀ {l:List (Nat×Nat×Nat)}{i a b:Nat},Runs xs l a b->Runs xs (l.modify i f) a b
 | [],i,a,b,h=>by rw[List.modify_nil]; exact h
 | (s,n,w)::t,0,a,b,⟨h1,h2,h3,h4⟩=>by
  rw[List.modify_zero_cons]
  obtain⟨e1,e2⟩:=hf (s,n,w)
  generalize f (s,n,w)=v at e1 e2 ⊢
  obtain⟨s',n',w'⟩:=v
  have e1:s'=s:=e1
  have e2:n'=n:=e2
  subst e1 e2
  exact⟨h1,h2,h3,h4⟩
 | (s,n,w)::t,i+1,a,b,⟨h1,h2,h3,h4⟩=>by
  rw[List.modify_succ_cons]
  exact⟨h1,h2,h3,Runs.mod hf h4⟩
end
structure RI (a₀:Array Keyed)(lo:Nat)(st:SortSt):Prop where
 perm:(arrOf st).Perm a₀
 kind:kindOf st=Od.kd
 failed:failedOf st=none
 runs:Runs (arrOf st) (pendingOf st).toList 0 lo
theorem jFT:∀ (l:List (Nat×Nat×Nat)) (i:Nat),i+1<l.length->∃ u x y t,l=u++x::y::t/\u.length=i
 | [],i,h=>absurd h (cR _)
 | [x],i,h=>by rw[iy] at h; omega
 | x::y::t,0,h=>⟨[],x,y,t,rfl,rfl⟩
 | x::y::t,i+1,h=>by
  obtain⟨u,x',y',t',e,hu⟩:=jFT (y::t) i (by rw[aK] at h; omega)
  exact⟨x::u,x',y',t',by rw[e]; rfl,by rw[aK,hu]⟩
theorem jSD {a₀ xs:Array Keyed}(h0:AllI a₀.toList)(hp:xs.Perm a₀):AllI xs.toList:=fun p hp'=>h0 p ((cL.mp hp).mem_iff.mp hp')
section
variable {prog:Program}{w:World}{A:Around}{E:Value->Shared->Prop}{s:Shared} [LtOk prog w A s]{a₀:Array Keyed}
theorem jDG {st:SortSt}{i lo:Nat}{Q:Bool->SortSt->Prop}(h0:AllI a₀.toList)(R:RI a₀ lo st)(hlo:lo<=a₀.size)(hi:i+1<(pendingOf st).size)
  (h:∀ st',RI a₀ lo st'->(pendingOf st').size+1=(pendingOf st).size->(∀ k,lo<=k->KI (arrOf st') k=KI (arrOf st) k)->Q true st'):wpS (model prog w) A E s (mergeAt' i) Q st:=by
 obtain⟨u,⟨sa,na,pw⟩,⟨sb,nb,w2⟩,t,e,hu⟩:=jFT (pendingOf st).toList i (by rw[aG]; exact hi)
 have rr:=R.runs
 rw[e] at rr
 obtain⟨c,r1,a1,a2,a3,a4,a5,a6,a7⟩:=Runs.app rr
 have r2:=Runs.le a7
 have r3:=Runs.le r1
 subst a1
 have e1:(pendingOf st)[i]?=some (sa,na,pw):=by
  rw[<- bu,e,aZ (by omega),hu,ie]
  rfl
 have e2:(pendingOf st)[i+1]?=some (sb,nb,w2):=by
  rw[<- bu,e,aZ (by omega),hu,cj]
  rfl
 have z:=R.perm.size_eq
 refine jH1 R.kind R.failed (jSD h0 R.perm) e1 e2 a4 a2 a5 (by omega) a3 a6 fun st' M=>?_
 have ep:(pendingOf st').toList=u++(sa,na+nb,pw)::t:=by
  rw[M.pend,Array.toList_eraseIdxIfInBounds,gF,e,iB _ _ (by omega),hu,ie,List.set_cons_zero,List.eraseIdx_append_of_length_le (by omega),hu,cj]
  rfl
 refine h st' ⟨M.perm.trans R.perm,M.kind,M.failed,?_⟩ ?_ fun k hk=>M.out k (by omega)
 ·rw[ep]
  refine Runs.put (Runs.same r1 fun k k1 k2=>M.out k (by omega)) ⟨rfl,by omega,M.up,?_⟩
  have:=Runs.same (ys:=arrOf st') a7 fun k k1 k2=>M.out k (by omega)
  rw[Nat.add_assoc] at this
  exact this
 ·have q1:=bN List.length ep
  have q2:=bN List.length e
  rw[aG,aE,aK] at q1
  rw[aG,aE,aK,aK] at q2
  omega
theorem RI.of {st:SortSt}{F:Nat->Int}{lo:Nat}{p:Array (Nat×Nat×Nat)}{xs:Array Keyed}(h:BB a₀ p F lo st)(hr:Runs xs p.toList 0 lo)(hF:∀ k,F k=KI xs k):RI a₀ lo st:=
 ⟨h.perm,h.kind,h.failed,by rw[h.pend]; exact hr.same fun k _ hk=>(h.low k hk).trans (hF k)⟩
theorem jDF {st:SortSt}{Q:Unit->SortSt->Prop}(h0:AllI a₀.toList)(hB:SB a₀ st)(h1:1<=a₀.size)
  (h:∀ st',(arrOf st').Perm a₀->failedOf st'=none->STo (arrOf st') a₀.size->Q () st'):wpS (model prog w) A E s sortRuns' Q st:=by
 rw[sortRuns'_eq]
 refine aC (fJ ?_)
 try dsimp only
 have hz:=hB.size
 rw[hz]
 generalize minRun' a₀.size a₀.size 0=mr
 refine aC (cX (bQ (I:=fun x c st'=>∃ lo,c=(none,lo)/\x<=lo/\lo<=a₀.size/\RI a₀ lo st')
  (Q:=fun c st'=>c=(none,a₀.size)/\RI a₀ a₀.size st') ?step ?fin ⟨0,rfl,ak _,bb _,hB.perm,hB.kind,hB.failed,by rw[hB.pend]; rfl⟩) ?post)
 case fin=>
  rintro c st' ⟨lo,rfl,l1,l2,R⟩
  have:lo=a₀.size:=by omega
  subst this
  exact⟨rfl,R⟩
 case step=>
  rintro x c st1 _ hx ⟨lo,rfl,l1,l2,R1⟩
  try dsimp only
  by_cases hl:lo ≥ a₀.size
  ·rw[aj hl]
   have:lo=a₀.size:=by omega
   subst this
   exact aF ⟨rfl,R1⟩
  rw[ai hl]
  refine aC (jET (F:=fun k=>KI (arrOf st1) k) (p:=pendingOf st1) h0 (by omega) (by omega) ⟨R1.perm,R1.kind,R1.failed,rfl,fun _ _=>rfl⟩ fun m st2 B2 m1 m2 U2=>?_)
  try dsimp only
  by_cases hm:m<mr
  case' pos=>
   rw[aj hm]
   refine aC (gE (cD ⟨rfl,?_⟩))
   refine aC (jDH h0 (by omega) (by omega) B2 U2 fun st4 B4 U4=>?_)
   have R4:=RI.of B4 R1.runs fun _=>rfl
   have n0:0<min (a₀.size - lo) mr:=by omega
   have n9:min (a₀.size - lo) mr<=a₀.size - lo:=by omega
   generalize min (a₀.size - lo) mr=n at*
  case' neg=>
   rw[ai hm]
   have R4:=RI.of B2 R1.runs fun _=>rfl
   have U4:=U2
   generalize st2=st4 at*
   generalize m=n at*
  all_goals
   refine aC (fJ ?_)
   have last:∀ st5:SortSt,RI a₀ lo st5->Up (arrOf st5) lo n->∃ lo',(none,lo+n)=((none:Option PUnit),lo')/\x+1<=lo'/\lo'<=a₀.size/\RI a₀ lo' (setPending st5 ((pendingOf st5).push (lo,n,0))):=fun st5 R5 U5=>
    ⟨lo+n,rfl,by omega,by omega,R5.perm,R5.kind,R5.failed,by
     show Runs (arrOf st5) ((pendingOf st5).push (lo,n,0)).toList 0 (lo+n)
     rw[dF]
     exact R5.runs.put ⟨rfl,by omega,U5,rfl⟩⟩
   cases hb:(pendingOf st4).back? with
   | none=>
    try dsimp only
    exact aC (dP (aF (last st4 R4 U4)))
   | some v=>
    obtain⟨s1,n1,w1⟩:=v
    try dsimp only
    refine aC (cX (bQ (I:=fun _ c st'=>c=(none,())/\RI a₀ lo st'/\Up (arrOf st') lo n) (Q:=fun c st'=>c=(none,())/\RI a₀ lo st'/\Up (arrOf st') lo n) ?mstep (fun _ _ z=>z) ⟨rfl,R4,U4⟩) ?mpost)
    case mstep=>
     rintro y c st5 _ _ ⟨rfl,R5,U5⟩
     try dsimp only
     refine aC (fJ ?_)
     by_cases hs:(pendingOf st5).size>1
     ·rw[aj hs]
      obtain⟨v,hv⟩:∃ v,(pendingOf st5)[(pendingOf st5).size - 2]?=some v:=⟨_,Array.getElem?_eq_getElem (by omega)⟩
      rw[hv]
      obtain⟨v1,v2,older⟩:=v
      try dsimp only
      by_cases ho:older<=power' a₀.size (2*s1+n1) (2*s1+n1+n1+n) a₀.size
      ·rw[aj ho]
       exact aF ⟨rfl,R5,U5⟩
      rw[ai ho]
      refine aC (jDG h0 R5 (by omega) (by omega) fun st6 R6 _ E6=>?_)
      exact aF ⟨rfl,R6,U5.same fun k k1 _=>E6 k k1⟩
     ·rw[ai hs]
      exact aF ⟨rfl,R5,U5⟩
    case mpost=>
     rintro c st5 ⟨rfl,R5,U5⟩
     try dsimp only
     refine aC (dP (aC (dP (aF (last (setPending st5 ((pendingOf st5).modify ((pendingOf st5).size - 1) fun x=>(x.1,x.2.1,power' a₀.size (2*s1+n1) (2*s1+n1+n1+n) a₀.size))) ⟨R5.perm,R5.kind,R5.failed,?_⟩ U5)))))
     show Runs (arrOf st5) (Array.modify _ _ _).toList 0 lo
     rw[Array.toList_modify]
     exact Runs.mod (f:=fun x=>(x.1,x.2.1,power' a₀.size (2*s1+n1) (2*s1+n1+n1+n) a₀.size)) (fun _=>⟨rfl,rfl⟩) R5.runs
 case post=>
  rintro c st1 ⟨rfl,R1⟩
  try dsimp only
  refine aC (cX (bQ (I:=fun x c st'=>c=(none,())/\RI a₀ a₀.size st'/\1<=(pendingOf st').size/\(pendingOf st').size+x<=a₀.size)
   (Q:=fun c st'=>c=(none,())/\RI a₀ a₀.size st'/\(pendingOf st').size=1) ?step2 ?fin2 ⟨rfl,R1,?a1,?a2⟩) ?post2)
  case a1=>
   have:=R1.runs
   cases hp:(pendingOf st1).toList with
   | nil=>
    rw[hp] at this
    have:0=a₀.size:=this
    omega
   | cons v t=>
    have:=bN List.length hp
    rw[aG,aK] at this
    omega
  case a2=>
   have:=R1.runs.le
   rw[aG] at this
   omega
  case fin2=>
   rintro c st2 ⟨_,_,h2,h3⟩
   omega
  case post2=>
   rintro c st2 ⟨rfl,R2,h2⟩
   try dsimp only
   refine aF (h st2 R2.perm R2.failed ?_)
   have rr:=R2.runs
   cases hp:(pendingOf st2).toList with
   | nil=>
    rw[<- aG,hp] at h2
    cases h2
   | cons v t=>
    have:=bN List.length hp
    rw[aG,h2,aK] at this
    have:t=[]:=fO (by omega)
    subst this
    rw[hp] at rr
    obtain⟨v1,v2,v3⟩:=v
    obtain⟨q1,q2,q3,q4⟩:=rr
    have q4:0+v2=a₀.size:=q4
    subst q1
    exact fun i j hij hj=>q3 i j (bb _) hij (by omega)
  case step2=>
   rintro x c st2 _ hx ⟨rfl,R2,h2,h3⟩
   try dsimp only
   refine aC (fJ ?_)
   by_cases hs:(pendingOf st2).size<=1
   ·rw[aj hs]
    exact aF ⟨rfl,R2,by omega⟩
   rw[ai hs]
   refine aC (jDG h0 R2 (ak _) ?_ fun st3 R3 e3 _=>?_)
   ·have ite_le:∀ (c:Prop) [Decidable c] (a b:Nat),(if c then a else b)<=max a b:=fun c _ a b=>by
     by_cases z:c
     ·rw[aj z]; omega
     ·rw[ai z]; omega
    refine gy (Nat.add_le_add_right (ite_le _ _ _) 1) ?_
    omega
   ·exact aF ⟨rfl,R3,by omega,by omega⟩
end
end TM
end
section
namespace TM
open PySem PySem.Spec PyProof.Rows
section
variable {prog:Program}{w:World}{A:Around}{E:Value->Shared->Prop}{s:Shared}
abbrev turned (b:Bool)(xs:Array Value):Array Value:=if b then xs.reverse else xs
theorem jH4 {b:Bool}{xs:Array Value} :(turned b xs).size=xs.size:=by
 cases b
 ·rfl
 ·exact Array.size_reverse
theorem jCC (b:Bool)(vs:List Value):(if b=true then (vs.toArray.zip vs.toArray).reverse else vs.toArray.zip vs.toArray).Perm (pairsOf vs):=by
 cases b with
 | false=>exact Array.Perm.refl _
 | true=>exact cL.mpr (by show ((vs.toArray.zip vs.toArray).reverse).toList.Perm _; rw[cZ]; exact List.reverse_perm _)
def AskOk [Od](prog:Program)(w:World)(A:Around)(s:Shared)(a:Addr)(vs:List Value):Prop:=
 ∀ h6:Heap,(∀ c o,s.heap.get? c=some o->c≠a->h6.get? c=some o)->
  (∀ (Q:SortKind->Shared->Prop) (E:Value->Shared->Prop),Q Od.kd { s with heap:=h6} ->wpAny (model prog w) A (keyKind' vs.toArray) Q E { s with heap:=h6})/\LtOk prog w A { s with heap:=h6}
theorem jI8 [Od]{a:Addr}{vs:List Value}{n:Nat}{b:Bool}{P:Fin->Shared->Prop}(ho:s.heap.get? a=some (seqObj "list" vs.toArray n))(hz:vs.length<=sizeLine)(hI:AllI (pairsOf vs).toList)(hk:2<=vs.length->AskOk prog w A s a vs)
  (h:∀ xs:Array Keyed,xs.Perm (pairsOf vs)->STo xs (pairsOf vs).size->P (.done (.ret .none)) { s with heap:=sortedHeap s.heap a vs (turned b (xs.map (·.2)))}):
  wpAny (model prog w) A (Builtin.«list.sort» ⟨[.ref a],[(Str.ofString "reverse", .bool b)]⟩) P E s:=by
 rw[list_sort_rev]
 have ha:=ay ho
 have hz':vs.toArray.size<=sizeLine:=by rw[aq]; exact hz
 refine aa (listItems_at ho rfl (aa (listUpdate_at ho rfl ?_ hz' (bb _))))
 obtain⟨e1,ho1⟩:∃ e1,(s.heap.update a (Obj.mapSeq fun _=>#[])).get? a=some (seqObj "list" #[] e1):=⟨_,get?_update_seq ho _⟩
 refine aa (seqEpoch_at ho1 rfl (aa (iL ?_ hz)))
 refine aa (fH (b0 ?_))
 generalize hh6:((s.heap.update a (Obj.mapSeq fun _=>#[])).push (seqObj "tuple" vs.toArray 0)).push (seqObj "list" #[] 0)=h6
 have ho6:h6.get? a=some (seqObj "list" #[] e1):=by
  rw[<- hh6]
  exact ab _ (ab _ ho1)
 have k6:∀ c o,s.heap.get? c=some o->c≠a->h6.get? c=some o:=fun c o q ne=>by
  rw[<- hh6]
  exact ab _ (ab _ ((dk _ _ (dD ne)).trans q))
 have sh:∀ out,sortedHeap s.heap a vs out=h6.update a (Obj.mapSeq fun _=>out):=fun out=>by rw[<- hh6]; rfl
 have go:∀ X:Sem Fin,wpAny (model prog w) A X P E { s with heap:=h6} ->wpAny (model prog w) A (if b=true then (do let _ <- rule "list.sort.reverse"; X) else X) P E { s with heap:=h6} :=fun X hX=>by
  cases b with
  | false=>exact hX
  | true=>exact aa (cD hX)
 have hend:∀ st':SortSt,(arrOf st').Perm (pairsOf vs)->STo (arrOf st') (pairsOf vs).size->P (.done (.ret .none)) { s with heap:=h6.update a (Obj.mapSeq fun _=>turned b ((arrOf st').map (·.2)))} :=fun st' p1 p2=>by
  rw[<- sh]
  exact h _ p1 p2
 have hfit:∀ st':SortSt,(arrOf st').Perm (pairsOf vs)->(turned b ((arrOf st').map (·.2))).size<=sizeLine+1:=fun st' p1=>by
  rw[jH4,Array.size_map,p1.size_eq,pairsOf_size]
  omega
 dsimp only
 refine go _ ?_
 by_cases few:vs.toArray.size<2
 ·rw[aj few,aj few]
  refine aa (af ?_)
  rw[StateT.run_pure]
  refine aa (af ?_)
  dsimp only
  refine aa (seqEpoch_at ho6 rfl (aa (listUpdate_at ho6 rfl ?_ (bb _) (hfit (SortSt.mk' general' _ #[] 7 none) (jCC b vs)))))
  rw[bne_self_eq_false,ai ah]
  refine af (hend (SortSt.mk' general' _ #[] 7 none) (jCC b vs) fun i j hij hj=>?_)
  have:i=j:=by
   rw[pairsOf_size] at hj
   rw[aq] at few
   omega
  rw[this]
  exact cY _
 ·rw[ai few,ai few]
  rw[aq] at few
  obtain⟨kk,ll⟩:=hk (by omega) h6 k6
  refine aa (kk _ _ (aa (ck (jDF (a₀:=pairsOf vs) (st:=SortSt.mk' Od.kd _ #[] 7 none)
   (Q:=fun _ st'=>(arrOf st').Perm (pairsOf vs)/\failedOf st'=none/\STo (arrOf st') (pairsOf vs).size)
   hI ⟨jCC b _,rfl,rfl,rfl⟩ (by rw[pairsOf_size]; omega) fun st' a1 a2 a3=>⟨a1,a2,a3⟩) ?_ fun _ _ e=>e)))
  rintro ⟨⟨⟩,st'⟩ s' ⟨rfl,p1,p2,p3⟩
  dsimp only
  refine aa (seqEpoch_at ho6 rfl (aa (listUpdate_at ho6 rfl ?_ (bb _) (hfit st' p1))))
  rw[p2]
  dsimp only
  rw[bne_self_eq_false,ai ah]
  exact af (hend st' p1 p3)
theorem jKX (a:Addr):Builtin.«list.sort» ⟨[.ref a],[]⟩=Builtin.«list.sort» ⟨[.ref a],[(Str.ofString "reverse", .bool false)]⟩:=by
 rw[list_sort_plain,list_sort_rev]
 rfl
abbrev odI:Od:=⟨oneType',fun p=>numOf p.1,fun p=>∃ n t,p.1=Value.int n t⟩
theorem ltI: @LtOk prog w A s odI:= @LtOk.mk prog w A s odI fun {E st x y Q} hk hx hy h=>by
 obtain⟨a,t,ha⟩:=hx
 obtain⟨b,u,hb⟩:=hy
 have e1: @key odI x=a:=by show numOf x.1=a; rw[ha]; rfl
 have e2: @key odI y=b:=by show numOf y.1=b; rw[hb]; rfl
 rw[e1,e2] at h
 rw[lt'_eq]
 refine aC (fJ ?_)
 rw[show kindOf st=oneType' from hk,keyLt'_oneType,ha,hb]
 exact aC (gE (dG (oneLt_int ⟨rfl,aF h⟩)))
theorem stoI {xs:Array Keyed}{k:Nat}(h: @STo odI xs k):SortedTo xs k:=h
theorem askI {a:Addr}{vs:List Value}{ns:List Int}(hI:IntsAre vs ns)(h2:2<=vs.length): @AskOk odI prog w A s a vs:=fun h6 _=>⟨fun Q E h=>by
 obtain⟨u,v,r,rfl⟩:∃ u v r,vs=u::v::r:=by
  match vs,h2 with
  | [_],few=>exact absurd few (show ¬ 2<=1 by decide)
  | u::v::r,_=>exact⟨u,v,r,rfl⟩
 rw[keyKind_ints hI]
 exact af h,ltI⟩
theorem sort_rev_any {a:Addr}{vs:List Value}{ns:List Int}{n:Nat}{b:Bool}{P:Fin->Shared->Prop}(ho:s.heap.get? a=some (seqObj "list" vs.toArray n))(hI:IntsAre vs ns)(hz:vs.length<=sizeLine)
  (h:∀ (out:Array Value) (ns':List Int),IntsAre out.toList ns'->ns'.Perm ns->Ordered b ns'->P (.done (.ret .none)) { s with heap:=sortedHeap s.heap a vs out}):
  wpAny (model prog w) A (Builtin.«list.sort» ⟨[.ref a],[(Str.ofString "reverse", .bool b)]⟩) P E s:=
 @jI8 prog w A E s odI a vs n b P ho hz hI.intKeys (fun h2=>askI hI h2) fun xs p1 p2=>by
  obtain⟨ns',q1,q2,q3⟩:=sorted_out_rev hI p1 (stoI p2) b
  exact h _ ns' q1 q2 q3
end
end TM
end
section
namespace L2
open PySem PySem.Spec PyProof.Rows
section
variable {prog:Program}{w:World}{A:Around}{E:Value->Shared->Prop}{s:Shared}{d:Addr}{kvs:List (Key×Value)}
theorem jEN:∀ {vs:List Value}{ks:List Int},vs.length=ks.length->(∀ (j:Nat) (v:Value),vs[j]?=some v->∃ i t,ks[j]?=some i/\v=Value.int i t)->IntsAre vs ks
 | [],[],_,_=> .nil
 | [],_::_,h,_=>by cases h
 | _::_,[],h,_=>by cases h
 | v::vs,a::r,h,hat=>by
  obtain⟨i,t,e1,rfl⟩:=hat 0 v rfl
  cases e1
  exact .cons _ t (jEN (Nat.succ.inj h) fun j v e=>hat (j+1) v e)
theorem jFV {Q:Value->Shared->Prop}{ks:List Int}{b:Bool}(hh:A.handled=none)(lo:(d==sysModules)=false)(D:s.heap.DictOf (kE prog w) d kvs)(hk:kvs.map (·.1)=ks.map Sum.inl)(hz:ks.length<=sizeLine)
  (h:∀ (hf:Heap) (tk:Nat) (l:Addr) (vs:List Value) (ns:List Int) (e:Nat),s.heap.objs.size<=l->(∀ b u,s.heap.get? b=some u->hf.get? b=some u)->
   hf.get? l=some { cls:= .type "list",data:= .seq vs.toArray e} ->IntsAre vs ns->ns.Perm ks->Ordered b ns->Q (.ref l) { s with heap:=hf,toks:=tk}):
  wpAny (model prog w) A (call (.builtin "sorted") [.ref d] [(Str.ofString "reverse", .bool b)]) Q E s:=by
 obtain⟨ep,hat⟩:=D.dictAt
 have hlen:kvs.length=ks.length:=by
  have:=bN List.length hk
  rwa [ae,ae] at this
 refine call_function_entry_kw kind_sorted plain_sorted entry_sorted (args_sorted_rev _ _) ?_
 unfold Builtin.«sorted»
 refine aa (m:=checkCount "sorted" 1 1 _) (af ?_)
 refine aa (collect_src (A:=A.in1) (kdl_dict (knd:=kE prog w) (kvs:=kvs) (ep:=ep) lo) hh hat (by omega) fun h1 tk acc hk1 hlt1 hacc=>?_)
 have hal:acc.toList.length=ks.length:=by rw[aG,hacc.1,hlen]
 have hI:IntsAre acc.toList ks:=jEN hal fun j v e=>by
  obtain⟨k,x,hx,hv⟩:=hacc.2 j v (by rw[<- bu]; exact e)
  have e2:(kvs.map (·.1))[j]?=some k:=by rw[aI,hx]; rfl
  rw[hk,aI] at e2
  cases hq:ks[j]? with
  | none=>rw[hq] at e2; cases e2
  | some i=>
   rw[hq] at e2
   cases e2
   rcases kG (show keyIs (Sum.inl i) v=true from hv) with ⟨i',t,q1,q2⟩ | ⟨x,t,q1,q2⟩
   ·cases q1
    exact⟨i,t,rfl,q2⟩
   ·cases q1
 refine aa (fH ?_ (by omega))
 have hL:(h1.push (seqObj "list" acc.toList.toArray 0)).get? h1.objs.size=some (seqObj "list" acc.toList.toArray 0):=az _ rfl
 show wpAny _ _ _ _ _ { s with heap:=h1.push (seqObj "list" acc.toList.toArray 0),toks:=tk}
 refine aa (b0 (wpAny_call_entry_kw gz ⟨_,hL,rfl⟩ ga (TM.sort_rev_any hL hI (by omega) fun out ns' a1 a2 a3=>⟨_,rfl,?_⟩) (args_list_sort_rev _ _)))
 obtain⟨e,he⟩:=gQ (out:=out) hL
 have kept:∀ b u,s.heap.get? b=some u->(sortedHeap (h1.push (seqObj "list" acc.toList.toArray 0)) h1.objs.size acc.toList out).get? b=some u:=fun b u q=>by
  have q1:=hk1 b u q
  have hb:b<h1.objs.size:=ay q1
  rw[gA (aS hb) (by rw[size_push']; exact bJ hb)]
  exact ab _ q1
 generalize sortedHeap (h1.push (seqObj "list" acc.toList.toArray 0)) h1.objs.size acc.toList out=hf at he kept ⊢
 exact af ⟨_,rfl,h hf tk h1.objs.size out.toList ns' e (cI hlt1) kept (by rw[cW]; exact he) a1 a2 a3⟩
end
def jPT (X:Cx)(f:Value)(ks:List Str)(r:List V->List V->Hp->VK->Prop):Prop:=
 ∀ (pins:List (Addr×Obj)) (s:Shared) (σ:St) (H:Hp) (xs zs:List V) (us ws:List Value) (Q:VK),Inv X pins σ H s->Vals xs us->Vals zs ws->r xs zs H Q->
  wpAny (model X.prog X.w) X.A (call f us (ks.zip ws)) (EP X pins σ Q) X.xe s
def tCBK (r:List V->List V->Hp->VK->Prop)(t tk:TA):TE:=fun σ H Q=>t σ H fun vs H1=>tk σ H1 fun zs H2=>r vs zs H2 Q
structure JK (X:Cx)(kws:List Keyword)(t:TA):Prop where
 h:PK X kws t
section
variable {X:Cx}{x:Str}{p pos kpos:Pos}{e:Expr}{es:List Expr}{kws:List Keyword}{t tk:TA}{te:TE}{nm:Option Str}{ks:List Str}{id:String}{r:List V->List V->Hp->VK->Prop}
theorem jU2:JK X [] tNil:=⟨jT5⟩
theorem jRS (ha:JE X e te)(hr:JK X kws t):JK X (⟨nm,e,kpos⟩::kws) (tCons te t):=⟨jQN ha.h hr.h⟩
theorem jLZ (hc:jPT X (.builtin id) ks r)(hg:Gl1 X x)(hm:X.mg x=none)(hv:bootBuiltins x=some (.builtin id))(ha:JA X (e::es) t)(hkw:JK X kws tk)(he:starEach (e::es) X.env=(false,eval e X.env)::starEach es X.env)
  (hn:x≠ "__name__" :=by decide) (hdb:(x==("__debug__" :Str))=false:=by decide) (hall:(backToKw pos (keywordEach kws X.env)).all (·.1.isSome)=true:=by rfl) (hks:(backToKw pos (keywordEach kws X.env)).filterMap (·.1)=ks:=by rfl)
  (hpl:(backTo pos (starEach es X.env)).any (·.1)=false:=by rfl) (hkn:(backToKw pos (keywordEach kws X.env)).any (·.1.isNone)=false:=by rfl):JE X (.Call (.Name x p) (e::es) kws pos) (tCBK r t tk):=by
 refine⟨fun pins s σ H Q I h=>?_⟩
 refine dM (jCZ I hg.a hm hv ?_ hn hdb)
 refine callWith_kw (thn (ha.h pos pins s σ H _ I h) fun us s1 ⟨vs,H1,I1,r1,q1⟩=>thn (hkw.h pos pins s1 σ H1 _ I1 q1) fun ws s2 ⟨zs,H2,I2,rz,q2⟩=>?_) (by rw[he]; rfl) (by rw[he]; exact hpl) hall hkn
 rw[hks]
 exact hc pins s2 σ H2 vs zs us ws Q I2 r1 rz q2
theorem jFJ (hc:X.calm=true):jPT X (.builtin "sorted") [Str.ofString "reverse"] (fun xs zs H Q=>∃ (p:Addr) (kvs:List (Key×V)) (ks:List Int) (b:Bool),xs=[.ref p]/\zs=[.bl b]/\H p=some (.dK kvs)/\kvs.map (·.1)=ks.map Sum.inl/\ks.length<=sizeLine/\
  ∀ (l:Addr) (ns:List Int),H l=none->Ordered b ns->ns.Perm ks->Q (.ref l) (upd H l (.lst (ns.map V.int)))):=by
 intro pins s σ H xs zs us ws Q I r rz h
 obtain⟨p,kvs,ks,b,rfl,rfl,hp,hk,hn,q⟩:=h
 obtain⟨u,rfl,rx⟩:=r.one
 obtain⟨v,rfl,ry⟩:=rz.one
 cases rx
 cases ry
 obtain⟨z,lo,vs,rel,dd⟩:=dk_of I.hok hp
 refine jFV (I.ok.hd hc) lo dd (by rw[<- rel.keys]; exact hk) hn fun hf tk l vs ns e hl kp he hi pm srt=>?_
 have hz:(ns.map V.int).length<=sizeLine:=by rw[ae,pm.length_eq]; exact hn
 have I2:Inv X pins σ (upd H l (.lst (ns.map V.int))) { s with heap:=hf,toks:=tk} :=I.laid (t':=tk) kp hl ⟨hz,vs,e,jAA hi,he⟩
 exact⟨.ref l,_,I2,rfl,q l ns (I.hok.fresh hl) srt pm⟩
end
section
variable {X:Cx}
theorem jPL {o:Expr}{to:TE}{name:Str}{apos cpos:Pos}{T id:String}{r:V->List V->Hp->VK->Prop}(pa:PlainAttrs T)(slot:Slot T name id)(hty:typeOf (.builtin id)=pure (.type "method_descriptor"))(hm:MtR X id r)(ho:JE X o to)
  (hbase:attributeBase o name X.env (eval o X.env)=eval o X.env:=by rfl) (hline:(apos.endLine==cpos.line)=true:=by rfl):JE X (.Call (.Attribute o name apos) [] [] cpos) (tBM0 X.K T r to):=⟨jTD pa slot hty hm ho.h hbase hline⟩
def rBits:V->List V->Hp->VK->Prop:=fun x vs H Q=>∃ i,x= .int i/\vs=[]/\Q (.int (Builtin.Int.intBits i)) H
theorem jRH:MtR X "int.bit_length" rBits:=by
 intro pins s σ H x vs v us Q I rx rv h
 obtain⟨i,rfl,rfl,q⟩:=h
 obtain⟨t,rfl⟩:=rx
 have hus:=rv.zero
 subst hus
 exact call_int_bit_length ⟨.int _,H,I.tok _,⟨_,rfl⟩,q⟩
theorem jLY {i o:Expr}{ty td:TE}{pos:Pos}(hu:X.A.units+1<cLine)(hi:JE X i ty)(ho:JE X o td)(h1:behindInMarks .NotIn o=false):JT X (.Compare i [.NotIn] [o] pos) (tB (jKI ty td)):=⟨jT2 (jL0 hu hi.h ho.h) h1⟩
def jSM (i:Int)(b:Bool):TE:=fun _ H Q=>∀ p H',H' p=some (.dK [(.inl i, .bl b)])->Ext H H'->H p=none->Q (.ref p) H'
theorem jOA {i:Int}{b:Bool}{k1 k2:Nat}{p1 p2 pos:Pos} :JE X (.Dict [some (.Constant (.int i) k1 p1)] [.Constant (.bool b) k2 p2] pos) (jSM i b):=
 ⟨fun pins s σ H Q I h=>jQS (jNL je_int.h je_bl.h jQK) rfl rfl (by intro z; cases z) (by show 1<=15; decide) pins s σ H Q I fun p hp=>⟨j6,[(.inl i, .bl b)],rfl,by show 1<=15; decide,h p _ j6 (((Ext.refl H).new hp _).updNew hp _) hp⟩⟩
theorem jOJ {K:W.Frag}{tp:Bool}{l:Addr}{xs:List V}{g:TG}{tb:TS}{D:Ends}{σ:St}{H:Hp}(Pv:Nat->St->Hp->Prop)(h0:Pv 0 σ H)(hl:∀ i σ H,Pv i σ H->Sq tp K H l xs)
  (hs:∀ i x T σ H,xs[i]?=some x->H T=none->Pv i σ H->g (.ref T) σ (upd H T (.tup [.int (i:Int),x])) fun σ2 H2=>tb { D with nx:=Pv (i+1),ct:=Pv (i+1),bk:=D.nx} σ2 H2) (hd:∀ σ H,Pv xs.length σ H->D.nx σ H):
  ∃ W:Nat->Nat->St->Hp->Prop,(∃ m,W 0 m σ H)/\∀ i m σ H,W i m σ H->
   ((Ite tp K l).stop i H/\D.nx σ H)\/((Ite tp K l).go i H/\∃ N:St->Hp->Prop,(∀ σ' H',N σ' H'->∃ m',m'<m/\W (i+1) m' σ' H')/\∀ x H',(Ite tp K l).yld i H x H'->g x σ H' fun σ2 H2=>tb { D with nx:=N,ct:=N,bk:=D.nx} σ2 H2):=by
 refine⟨fun i m σ H=>m=xs.length - i/\i<=xs.length/\Pv i σ H,⟨_,rfl,bb _,h0⟩,?_⟩
 rintro i m σ H ⟨rfl,hi,p⟩
 have s1:=hl i σ H p
 by_cases hlt:i<xs.length
 ·refine .inr ⟨⟨xs,xs[i],s1,by simp [hlt]⟩,Pv (i+1),fun σ' H' p'=>⟨xs.length - (i+1),by omega,rfl,hlt,p'⟩,fun v H'' y=>?_⟩
  obtain⟨T,x,e1,e2,e3,e4⟩:=y
  subst e2 e3
  exact hs i x T σ _ (e4 xs s1) e1 p
 ·have e:i=xs.length:=by omega
  subst e
  exact .inl ⟨⟨xs,s1,ak _⟩,hd σ H p⟩
end
def All2 {α β:Type}(R:α->β->Prop):List α->List β->Prop
 | [],[]=>True
 | a::as,b::bs=>R a b/\All2 R as bs
 | _,_=>False
section
variable {α β:Type}{R S:α->β->Prop}
theorem All2.len:∀ {as:List α}{bs:List β},All2 R as bs->as.length=bs.length
 | [],[],_=>rfl
 | _::_,_::_,h=>bN (· +1) (All2.len h.2)
theorem All2.imp (f:∀ a b,R a b->S a b):∀ {as:List α}{bs:List β},All2 R as bs->All2 S as bs
 | [],[],_=>trivial
 | _::_,_::_,h=>⟨f _ _ h.1,All2.imp f h.2⟩
theorem All2.snoc {a:α}{b:β} :∀ {as:List α}{bs:List β},All2 R as bs->R a b->All2 R (as++[a]) (bs++[b])
 | [],[],_,h=>⟨h,trivial⟩
 | _::_,_::_,h,k=>⟨h.1,All2.snoc h.2 k⟩
theorem All2.get:∀ {as:List α}{bs:List β}{i:Nat}{b:β},All2 R as bs->bs[i]?=some b->∃ a,as[i]?=some a/\R a b
 | [],[],i,b,_,h=>by simp at h
 | a::_,_::_,0,b,h,e=>by
  simp at e
  subst e
  exact⟨a,rfl,h.1⟩
 | _::_,_::_,i+1,b,h,e=>by
  obtain⟨a,h1,h2⟩:=All2.get h.2 (i:=i) (b:=b) (by simpa using e)
  exact⟨a,by simpa using h1,h2⟩
theorem All2.get':∀ {as:List α}{bs:List β}{i:Nat}{a:α},All2 R as bs->as[i]?=some a->∃ b,bs[i]?=some b/\R a b
 | [],[],i,b,_,h=>by simp at h
 | a::_,b::_,0,x,h,e=>by
  simp at e
  subst e
  exact⟨b,rfl,h.1⟩
 | _::_,_::_,i+1,x,h,e=>by
  obtain⟨b,h1,h2⟩:=All2.get' h.2 (i:=i) (a:=x) (by simpa using e)
  exact⟨b,by simpa using h1,h2⟩
theorem All2.of_get {as:List α}{bs:List β}(hl:as.length=bs.length)(h:∀ (i:Nat) a b,as[i]?=some a->bs[i]?=some b->R a b):All2 R as bs:=by
 induction as generalizing bs with
 | nil=>cases bs with
  | nil=>trivial
  | cons b bs=>cases hl
 | cons a as ih=>cases bs with
  | nil=>cases hl
  | cons b bs=>exact⟨h 0 a b rfl rfl,ih (by simpa using hl) fun i a b h1 h2=>h (i+1) a b (by simpa using h1) (by simpa using h2)⟩
end
def lowN (m:Nat):Nat:=if m % 2=1 then lowN (m / 2)+1 else 0
theorem jDY {m:Nat}(h:m % 2=0):lowN m=0:=by
 unfold lowN
 rw[ai (by omega)]
theorem jF6 {m:Nat}(h:m % 2=1):lowN m=lowN (m / 2)+1:=by
 rw[lowN,aj h]
theorem jSB (a b:Nat):a&&&b=2*((a / 2)&&&(b / 2))+(a % 2)*(b % 2):=by
 have h1:(a&&&b) / 2=(a / 2)&&&(b / 2):=Nat.and_div_two
 have h2:(a&&&b) % 2=(a % 2)*(b % 2):=by
  have t:=gb a b 0
  rw[eh,eh,eh] at t
  have t':((a&&&b) % 2=1)↔(a % 2=1/\b % 2=1):=by
   rw[<- fQ.trans (and_congr bg bg),<- t,bg]
  rcases cq a with ha | ha <;> rcases cq b with hb | hb <;> rw[ha,hb] at t' ⊢ <;> omega
 omega
theorem jRJ (m:Nat):(m+1) - ((m+1)&&&m)=2 ^ lowN m:=by
 induction m using strongRecOn with
 | _ m ih=>
  rw[jSB]
  rcases cq m with h | h
  ·rw[jDY h,show (m+1) / 2=m / 2 by omega,Nat.and_self,h]
   omega
  ·have:=ih (m / 2) (by omega)
   rw[jF6 h,Nat.pow_succ,show (m+1) / 2=m / 2+1 by omega,show (m+1) % 2=0 by omega]
   omega
theorem jO7 (m:Nat):Builtin.Int.intBits (Builtin.bitAnd (Builtin.bitNot (m:Int)) ((m:Int)+1))=lowN m+1:=by
 have e:Builtin.bitAnd (Builtin.bitNot (m:Int)) ((m:Int)+1)=((2 ^ lowN m:Nat):Int):=by
  unfold Builtin.bitAnd
  have h1:¬ (0<=Builtin.bitNot (m:Int)):=by unfold Builtin.bitNot; omega
  have h2:(0:Int)<=(m:Int)+1:=by omega
  have h3:(Builtin.bitNot (Builtin.bitNot (m:Int))).toNat=m:=by unfold Builtin.bitNot; omega
  rw[aL h1,am h2]
  show ((m:Int)+1) - ((((m:Int)+1).toNat&&&(Builtin.bitNot (Builtin.bitNot (m:Int))).toNat:Nat):Int)=_
  rw[h3,show ((m:Int)+1).toNat=m+1 by omega,<- jRJ m]
  have:(m+1)&&&m<=m+1:=Nat.and_le_left
  omega
 rw[e]
 unfold Builtin.Int.intBits
 have hp:0<2 ^ lowN m:=dh _
 have h0:((((2 ^ lowN m:Nat):Int))==0)=false:=by
  rw[cf]
  omega
 rw[h0]
 simp [Nat.log2_two_pow]
theorem jDW (m:Nat):m.testBit (lowN m)=false:=by
 induction m using strongRecOn with
 | _ m ih=>
  rcases cq m with h | h
  ·rw[jDY h,eh,h]
   rfl
  ·rw[jF6 h,Nat.testBit_succ]
   exact ih _ (by omega)
theorem jDX (m:Nat):∀ j,j<lowN m->m.testBit j=true:=by
 induction m using strongRecOn with
 | _ m ih=>
  intro j hj
  rcases cq m with h | h
  ·rw[jDY h] at hj
   omega
  ·rw[jF6 h] at hj
   cases j with
   | zero=>rw[eh,h]; rfl
   | succ j=>
    rw[Nat.testBit_succ]
    exact ih _ (by omega) j (by omega)
theorem jPE {m t:Nat}(h1:m.testBit t=false)(h2:∀ j,j<t->m.testBit j=true):lowN m=t:=by
 rcases Nat.lt_trichotomy (lowN m) t with h | h | h
 ·have:=h2 _ h
  rw[jDW] at this
  cases this
 ·exact h
 ·have:=jDX m t h
  rw[h1] at this
  cases this
theorem jM9 {m w:Nat}(h:m<2 ^ w)(a:∀ j,j<w->m.testBit j=true):m=2 ^ w - 1:=by
 apply fY
 intro i
 rw[ci]
 by_cases hi:i<w
 ·rw[a i hi,am hi]
 ·rw[aL hi]
  exact ig (aV h (cr (by decide) (by omega)))
theorem jC0 {m w:Nat}(h:m<2 ^ w)(hn:m≠2 ^ w - 1):lowN m<w:=by
 refine bz fun z=>hn (jM9 h fun j hj=>jDX m j (by omega))
abbrev Ch:=List (List (Int×Nat))
def fullN (ch:Ch):Nat:=2 ^ ch.length - 1
def chAt (ch:Ch)(m:Nat):List (Int×Nat):=(ch.getD (lowN m) []).filter fun c=>c.2&&&m==0
structure ChOk (ch:Ch):Prop where
 w:ch.length<=16
 len:∀ (t:Nat) (cs:List (Int×Nat)),ch[t]?=some cs->cs.length<=33
 it:∀ (t:Nat) (cs:List (Int×Nat)),ch[t]?=some cs->∀ c∈cs,c.2.testBit t=true/\c.2<2 ^ ch.length/\ -1<=c.1/\c.1<32
theorem ChOk.mem {ch:Ch}{m:Nat}{c:Int×Nat}(o:ChOk ch)(h:m<2 ^ ch.length)(hn:m≠fullN ch)(hc:c∈chAt ch m):c.2.testBit (lowN m)=true/\c.2<2 ^ ch.length/\c.2&&&m=0/\ -1<=c.1/\c.1<32:=by
 obtain⟨h1,h2⟩:=cx.mp hc
 have hl:=jC0 h hn
 rw[aA,ax hl] at h1
 obtain⟨a,b,c1,c2⟩:=o.it _ _ (ax hl) c h1
 exact⟨a,b,by simpa using h2,c1,c2⟩
theorem ChOk.up {ch:Ch}{m:Nat}{c:Int×Nat}(o:ChOk ch)(h:m<2 ^ ch.length)(hn:m≠fullN ch)(hc:c∈chAt ch m):m<m|||c.2/\m|||c.2<2 ^ ch.length:=by
 obtain⟨a,b,z,_⟩:=o.mem h hn hc
 refine⟨?_,Nat.or_lt_two_pow h b⟩
 refine Nat.lt_of_le_of_ne Nat.left_le_or fun e=>?_
 have t:m.testBit (lowN m)=(m|||c.2).testBit (lowN m):=bN (fun z=>z.testBit (lowN m)) e
 rw[bP,a,ev,jDW] at t
 cases t
def gvN {α:Type}(ch:Ch)(e:α)(J:List (Int×α)->α):Nat->Nat->α
 | 0,_=>e
 | n+1,m=>if m=fullN ch then e else J ((chAt ch m).map fun c=>(c.1,gvN ch e J n (m|||c.2)))
def gv {α:Type}(ch:Ch)(e:α)(J:List (Int×α)->α)(m:Nat):α:=gvN ch e J (fullN ch - m) m
theorem jS0 {α:Type}{ch:Ch}{e:α}{J:List (Int×α)->α}(o:ChOk ch):∀ (k n m:Nat),fullN ch - m<=k->fullN ch - m<=n->m<2 ^ ch.length->gvN ch e J n m=gvN ch e J k m:=by
 intro k
 induction k with
 | zero=>
  intro n m h1 h2 h3
  have:m=fullN ch:=by
   unfold fullN at h1 ⊢
   omega
  subst this
  cases n with
  | zero=>rfl
  | succ n=>show gvN ch e J (n+1) (fullN ch)=e; rw[gvN,aj rfl]
 | succ k ih=>
  intro n m h1 h2 h3
  by_cases hm:m=fullN ch
  ·subst hm
   cases n with
   | zero=>show e=gvN ch e J (k+1) (fullN ch); rw[gvN,aj rfl]
   | succ n=>
    have q:∀ i,gvN ch e J (i+1) (fullN ch)=e:=fun i=>by rw[gvN,aj rfl]
    rw[q,q]
  ·have hlt:m<fullN ch:=by
    unfold fullN at hm ⊢
    omega
   cases n with
   | zero=>omega
   | succ n=>
    rw[gvN,ai hm,gvN,ai hm]
    congr 1
    refine cO fun c hc=>?_
    obtain⟨u1,u2⟩:=o.up h3 hm hc
    rw[ih n (m|||c.2) (by omega) (by omega) u2]
theorem jRZ {α:Type}{ch:Ch}{e:α}{J:List (Int×α)->α} :gv ch e J (fullN ch)=e:=by
 unfold gv
 rw[ie,gvN]
theorem jRY {α:Type}{ch:Ch}{e:α}{J:List (Int×α)->α}{m:Nat}(o:ChOk ch)(h:m<2 ^ ch.length)(hn:m≠fullN ch):gv ch e J m=J ((chAt ch m).map fun c=>(c.1,gv ch e J (m|||c.2))):=by
 have hlt:m<fullN ch:=by
  unfold fullN at hn ⊢
  omega
 have:gv ch e J m=gvN ch e J ((fullN ch - m - 1)+1) m:=by
  unfold gv
  rw[show fullN ch - m - 1+1=fullN ch - m by omega]
 rw[this,gvN,ai hn]
 congr 1
 refine cO fun c hc=>?_
 obtain⟨u1,u2⟩:=o.up h hn hc
 unfold gv
 rw[jS0 o (fullN ch - (m|||c.2)) _ _ (ak _) (by omega) u2]
end L2
end
section
namespace L2
open PySem
section
variable {X:Cx}{tg iter elt:Expr}{ifs:List Expr}{sc:Scope}{pos:Pos}{wi:TI}{g:TG}{tt:TT}{te:TE}{m:List (Option Nat)}{Nc:List Str}
end
section
variable {X:Cx}
end
end L2
end
section
namespace L2
open PySem PySem.Spec PyProof.Rows
end L2
end
section
namespace TM
open PySem PySem.Spec PyProof.Rows PySem.W
open HT (lexLt jAG)
open L2 (All2)
theorem jLO:∀ x:List Int,lexLt x x=false
 | []=>rfl
 | a::x=>by rw[jAG,aj rfl]; exact jLO x
theorem jLM:∀ {x y z:List Int},lexLt x y=true->lexLt y z=true->lexLt x z=true
 | [],[],_,h,_=>by cases h
 | [],_::_,[],_,h=>by cases h
 | [],_::_,_::_,_,_=>rfl
 | _::_,[],_,h,_=>by cases h
 | _::_,_::_,[],_,h=>by cases h
 | a::x,b::y,c::z,h,k=>by
  rw[jAG] at h k ⊢
  by_cases e1:a=b
  ·rw[aj e1] at h
   by_cases e2:b=c
   ·rw[aj e2] at k
    rw[aj (e1.trans e2)]
    exact jLM h k
   ·rw[ai e2] at k
    rw[ai (e1 ▸ e2),e1]
    exact k
  ·rw[ai e1] at h
   have h:=aJ h
   by_cases e2:b=c
   ·rw[ai (e2 ▸ e1),<- e2]
    exact am h
   ·rw[ai e2] at k
    have k:=aJ k
    rw[ai (by omega)]
    exact am (by omega)
theorem jLN:∀ {x y:List Int},lexLt x y=false->lexLt y x=false->x=y
 | [],[],_,_=>rfl
 | [],_::_,h,_=>by cases h
 | _::_,[],_,h=>by cases h
 | a::x,b::y,h,k=>by
  rw[jAG] at h k
  by_cases e:a=b
  ·rw[aj e] at h
   rw[aj e.symm] at k
   rw[e,jLN h k]
  ·rw[ai e] at h
   rw[ai (fun z=>e z.symm)] at k
   have:=dO h
   have:=dO k
   omega
def rk (ws:List (List Int))(x:List Int):Int:=((ws.countP fun z=>lexLt z x:Nat):Int)
theorem jFI {p q:List Int->Bool}(h:∀ z,p z=true->q z=true):∀ ws:List (List Int),ws.countP p<=ws.countP q
 | []=>ak _
 | a::ws=>by
  have:=jFI h ws
  rw[ce,ce]
  have:=h a
  cases hp:p a <;> cases hq:q a <;> simp_all <;> omega
theorem jJ3 {p q:List Int->Bool}(h:∀ z,p z=true->q z=true){x:List Int}(hp:p x=false)(hq:q x=true):∀ {ws:List (List Int)},x∈ws->ws.countP p<ws.countP q
 | a::ws,hx=>by
  rw[ce,ce]
  rcases aB.mp hx with e | hx
  ·have:=jFI h ws
   rw[<- e,hp,hq]
   simp
   omega
  ·have:=jJ3 h hp hq hx
   have:=h a
   cases hpa:p a <;> cases hqa:q a <;> simp_all <;> omega
theorem rk_lt {ws:List (List Int)}{x y:List Int}(hx:x∈ws):decide (rk ws x<rk ws y)=lexLt x y:=by
 unfold rk
 cases h:lexLt x y with
 | true=>
  have:=jJ3 (p:=fun z=>lexLt z x) (q:=fun z=>lexLt z y) (fun z hz=>jLM hz h) (jLO x) h hx
  exact am (by omega)
 | false=>
  refine aL ?_
  by_cases k:lexLt y x=true
  ·have:=jFI (p:=fun z=>lexLt z y) (q:=fun z=>lexLt z x) (fun z hz=>jLM hz k) ws
   omega
  ·have:=jLN h (fg.mpr k)
   rw[this]
   omega
section
variable {prog:Program}{w:World}{A:Around}{E:Value->Shared->Prop}{s:Shared}{kd:SortKind}{f:Value->List Int}
theorem pairs_mem {vs:List Value}{p:Keyed}(h:p∈(pairsOf vs).toList):p.1=p.2/\p.1∈vs:=by
 rw[pairsOf_toList] at h
 exact mem_zip_self h
end
def TupI (h:Heap)(v:Value)(l:List Int):Prop:=∃ a n its,v= .ref a/\h.get? a=some { cls:= .type "tuple",data:= .seq its n} /\IntsAre its.toList l
noncomputable def decV (h:Heap):Value->List Int
 | .ref a=>match h.get? a with
  | some o=>match o.data with
   | .seq xs _=>xs.toList.map numOf
   | _=> []
  | none=> []
 | _=> []
theorem TupI.dec {h:Heap}{v:Value}{l:List Int}(t:TupI h v l):decV h v=l:=by
 obtain⟨a,n,its,rfl,ho,hi⟩:=t
 dsimp only [decV]
 rw[ho]
 exact hi.nums
section
variable {prog:Program}{w:World}{A:Around}{E:Value->Shared->Prop}{s:Shared}
theorem jR2 {b:Bool}{x y:Int}{t u:Tok}{Q:Bool->Shared->Prop}(h:Q (decide (x<y)) s):wpAny (model prog w) A (oneLt' b (.int x t) (.int y u)) Q E s:=by
 cases b with
 | true=>exact oneLt_int h
 | false=>exact kat_one _ _ (HT.rcLt_int A s x t y u prog w E _ h)
theorem jPG {b fin:Bool}{Q:Bool->Shared->Prop} :∀ {us:List Value}{x:List Int}{vs:List Value}{y:List Int}(i:Nat),IntsAre us x->IntsAre vs y->fin=decide (us.length<vs.length)->Q (lexLt x y) s->KatLex prog w A b fin Q (us.zip vs) i s
 | _,_,_,_,i, .nil, .nil,hf,h=>by rw[hf]; exact h
 | _,_,_,_,i, .nil, .cons _ _ _,hf,h=>by rw[hf]; exact h
 | _,_,_,_,i, .cons _ _ _, .nil,hf,h=>by rw[hf]; exact h
 | _,_,_,_,i, .cons (ns:=ns) a t h1, .cons (ns:=ms) c u h2,hf,h=>by
  rw[dN]
  refine kat_cons (gx a t c u prog w _ _ ?_)
  rw[jAG] at h
  by_cases e:a=c
  ·rw[aj e] at h
   rw[show (a==c)=true by simp [e]]
   refine kat_yes (jPG (i+1) h1 h2 ?_ h)
   rw[hf,aK,aK]
   exact decide_eq_decide.mpr (by omega)
  ·rw[ai e] at h
   rw[show (a==c)=false by simp [e]]
   exact kat_no (jR2 h)
theorem jLK {b:Bool}{u v:Value}{x y:List Int}{Q:Bool->Shared->Prop}(hu:TupI s.heap u x)(hv:TupI s.heap v y)(h:Q (lexLt x y) s):wpAny (model prog w) A (keyLt' (tuples' b) u v) Q E s:=by
 obtain⟨a,n,its,rfl,ho,hi⟩:=hu
 obtain⟨a2,n2,its2,rfl,ho2,hi2⟩:=hv
 exact kat_lt ho rfl ho2 rfl (jPG 0 hi hi2 rfl h)
theorem jK0 (x y:Value):keyLt' general' x y=oneLt' false x y:=rfl
theorem jJS {u v:Value}{x y:List Int}{Q:Bool->Shared->Prop}(hu:TupI s.heap u x)(hv:TupI s.heap v y)(room:A.units<cLine)(h:Q (lexLt x y) s):wpAny (model prog w) A (keyLt' general' u v) Q E s:=by
 obtain⟨a,n,its,rfl,ho,hi⟩:=hu
 obtain⟨a2,n2,its2,rfl,ho2,hi2⟩:=hv
 rw[jK0]
 exact kat_one _ _ (HT.lt_tupInts (items:=its) (items2:=its2) ⟨_,ho,rfl,n,rfl⟩ ⟨_,ho2,rfl,n2,rfl⟩ hi hi2 room h)
theorem jJR {u v:Value}{x y:List Int}{Q:Bool->Shared->Prop}(hu:TupI s.heap u x)(hv:TupI s.heap v y)(room:A.units<cLine)(h:Q (lexLt x y) s):wpAny (model prog w) A (keyLt' oneType' u v) Q E s:=by
 obtain⟨a,n,its,rfl,ho,hi⟩:=hu
 obtain⟨a2,n2,its2,rfl,ho2,hi2⟩:=hv
 rw[keyLt'_oneType,oneLt'_eq]
 simp only [eQ]
 refine aa (wpAny_cRoomFor room ?_)
 have hT:s.TypeIs (.ref a) "tuple" :=⟨_,ho,rfl⟩
 refine aa (wpAny_callSpecialIfBound?_slot hT fk (eS fk hT hZ (gY _ _) (HT.tuple_lt_ints a a2 its its2 n n2 _ _ _ _ x y hi hi2) ⟨ho,ho2,?_⟩))
 exact cJ h
def FsOf:List (Option Value)->List (List Int)->Prop:=All2 fun o l=>(o=none/\l=[])\/∃ n t r,o=some (Value.int n t)/\l=n::r
theorem jPP:∀ {vs:List Value}{ws:List (List Int)},All2 (TupI s.heap) vs ws->∃ fs,FsOf fs ws/\∀ (Q:List (Option Value)->Shared->Prop) (E:Value->Shared->Prop),Q fs s->wpAny (model prog w) A (vs.mapM firstOfTuple') Q E s
 | [],[],_=>⟨[],trivial,fun Q E h=>by rw[List.mapM_nil]; exact af h⟩
 | v::vs,l::ws,⟨⟨a,n,its,e,ho,hi⟩,r⟩=>by
  obtain⟨fs,h1,h2⟩:=jPP r
  refine⟨its[0]?::fs,⟨?_,h1⟩,fun Q E h=>?_⟩
  ·obtain⟨li⟩:=its
   cases hi with
   | nil=>exact .inl ⟨rfl,rfl⟩
   | cons c t _=>exact .inr ⟨c,t,_,rfl,rfl⟩
  ·rw[List.mapM_cons,e]
   refine aa ?_
   rw[kas_first_eq]
   refine aa (Looks.here (show Looks (model prog w) s.heap (typeOf (.ref a)) (.type "tuple") from(Looks.ld ho).andThen .now) ?_)
   rw[ai (by first | decide | simp)]
   refine aa (listItems_at ho rfl (af ?_))
   exact aa (h2 _ _ (af h))
theorem jMA:∀ {fs:List (Option Value)}{ws:List (List Int)},FsOf fs ws->fs.all (·.isSome)=ws.all fun x=>!x.isEmpty
 | [],[],_=>rfl
 | o::fs,l::ws,⟨h,r⟩=>by
  rw[dn,dn,jMA r]
  rcases h with ⟨rfl,rfl⟩ | ⟨n,t,r,rfl,rfl⟩ <;> rfl
theorem jHQ:∀ {fs:List (Option Value)}{ws:List (List Int)},FsOf fs ws->∀ v∈fs.filterMap id,∃ n t,v=Value.int n t
 | [],[],_,v,h=>by cases h
 | o::fs,l::ws,⟨h,r⟩,v,hv=>by
  rcases h with ⟨rfl,rfl⟩ | ⟨n,t,r',rfl,rfl⟩
  ·exact jHQ r v (by simpa using hv)
  ·rw[cM] at hv
   rcases aB.mp hv with e | hv
   ·exact⟨n,t,e⟩
   ·exact jHQ r v hv
def kdOf (ws:List (List Int)):SortKind:=if (ws.all fun x=>!x.isEmpty)=true then tuples' true else if (ws.headD []).isEmpty=true then oneType' else general'
theorem jIL {T:Value}{vs:List Value}(ne:vs≠ [])(hT:∀ v∈vs,Looks (model prog w) s.heap (typeOf v) T)(hT2:(T==T)=true){Q:Option Value->Shared->Prop}(h:Q (some T) s):wpAny (model prog w) A (oneTypeOnly' vs.toArray) Q E s:=by
 obtain⟨v,r,rfl⟩:=dY ne
 rw[oneTypeOnly'_eq,List.mapM_toArray,map_eq_pure_bind]
 refine aa (aa (kas_mapM (r:=T) _ (fun v hv Q' hq=>(hT v hv).here hq) (af ?_)))
 have hall2:((List.map (fun _=>T) (v::r)).toArray.all fun x=>x==T)=true:=by
  simp only [List.all_toArray,h9,bi]
  intro _ _
  exact hT2
 have h0:(List.map (fun _=>T) (v::r)).toArray[0]?=some T:=by simp
 rw[h0]
 simp only [hall2,eQ]
 exact af h
theorem jNG {v:Value}{l:List Int}(h:TupI s.heap v l):Looks (model prog w) s.heap (typeOf v) (.type "tuple"):=by
 obtain⟨a,n,its,rfl,ho,_⟩:=h
 exact(Looks.ld ho).andThen .now
theorem kind_of {vs:List Value}{ws:List (List Int)}{Q:SortKind->Shared->Prop}(t:All2 (TupI s.heap) vs ws)(h2:vs≠ [])(h:Q (kdOf ws) s):wpAny (model prog w) A (keyKind' vs.toArray) Q E s:=by
 obtain⟨fs,f1,f2⟩:=jPP (prog:=prog) (w:=w) (A:=A) t
 rw[kat_kind_eq,List.mapM_toArray,map_eq_pure_bind]
 refine aa (aa (f2 _ _ (af ?_)))
 have e:=jMA f1
 have ha:(fs.toArray.all fun x=>x.isSome)=fs.all (·.isSome):=by simp
 unfold kdOf at h
 rw[ha,e]
 cases hc:(ws.all fun x=>!x.isEmpty) with
 | true=>
  rw[hc,aj rfl] at h
  rw[aj rfl]
  refine aa (cD ?_)
  have hf:(fs.toArray.filterMap id)=(fs.filterMap id).toArray:=by simp
  rw[hf]
  have ne:fs.filterMap id≠ []:=by
   intro z
   obtain⟨v,vs',rfl⟩:=dY h2
   cases ws with
   | nil=>exact t.elim
   | cons l ws=>
    cases fs with
    | nil=>exact f1.elim
    | cons o fs=>
     rcases f1.1 with ⟨_,q⟩ | ⟨n,t',r,q,_⟩
     ·rw[q] at hc; simp at hc
     ·rw[q,cM] at z; cases z
  refine aa (jIL (T:= .type "int") ne (fun v hv=>?_) rfl (af ?_))
  ·obtain⟨n,t',e⟩:=jHQ f1 v hv
   rw[e]
   exact .now
  ·exact h
 | false=>
  rw[hc,ai ah] at h
  rw[ai ah]
  obtain⟨v,vs',rfl⟩:=dY h2
  cases ws with
  | nil=>exact t.elim
  | cons l ws=>
   cases fs with
   | nil=>exact f1.elim
   | cons o fs=>
    have h0:(o::fs).toArray[0]?=some o:=by simp
    rw[h0]
    rcases f1.1 with ⟨q,q2⟩ | ⟨n,t',r,q,q2⟩
    ·rw[q2] at h
     rw[q,ai (by simp)]
     refine aa (jIL (T:= .type "tuple") h2 (fun u hu=>?_) rfl (af h))
     obtain⟨i,hi⟩:=bC hu
     obtain⟨l',_,hl⟩:=t.get' hi
     exact jNG hl
    ·rw[q2] at h
     rw[q,aj (by simp)]
     exact af h
theorem lt_kd {ws:List (List Int)}{u v:Value}{x y:List Int}{Q:Bool->Shared->Prop}(hu:TupI s.heap u x)(hv:TupI s.heap v y)(room:A.units<cLine)(h:Q (lexLt x y) s):wpAny (model prog w) A (keyLt' (kdOf ws) u v) Q E s:=by
 unfold kdOf
 split
 ·exact jLK hu hv h
 ·split
  ·exact jJR hu hv room h
  ·exact jJS hu hv room h
end
end TM
namespace L2
open PySem PySem.Spec PyProof.Rows
section
variable {X:Cx}
noncomputable def refV:Value->V
 | .ref a=> .ref a
 | _=> .non
end
structure KeyS where
 TK:Heap->Value->List Int->Prop
 KR:Hp->V->List Int->Prop
 kd:List (List Int)->SortKind
 dc:Heap->Value->List Int
structure KeyOk (S:KeyS):Prop where
 of:∀ {P:Program}{w:World}{H:Hp}{h:Heap}{v:V}{u:Value}{l:List Int},HOk P w H h->RelV v u->S.KR H v l->S.TK h u l
 mono:∀ {H H':Hp}{v:V}{l:List Int},TupsK H H'->S.KR H v l->S.KR H' v l
 dec:∀ {h:Heap}{u:Value}{l:List Int},S.TK h u l->S.dc h u=l
 kind:∀ {prog:Program}{w:World}{A:Around}{E:Value->Shared->Prop}{s:Shared}{vs:List Value}{ws:List (List Int)}{Q:SortKind->Shared->Prop},All2 (S.TK s.heap) vs ws->vs≠ []->Q (S.kd ws) s->wpAny (model prog w) A (keyKind' vs.toArray) Q E s
 lt:∀ {prog:Program}{w:World}{A:Around}{E:Value->Shared->Prop}{s:Shared}{ws:List (List Int)}{u v:Value}{x y:List Int}{Q:Bool->Shared->Prop},S.TK s.heap u x->S.TK s.heap v y->A.units+2<cLine->Q (HT.lexLt x y) s->wpAny (model prog w) A (keyLt' (S.kd ws) u v) Q E s
section
variable {prog:Program}{w:World}{A:Around}{E:Value->Shared->Prop}{s:Shared}{S:KeyS}
noncomputable abbrev odK (S:KeyS)(ws:List (List Int))(h:Heap)(ks:List Value):TM.Od:=⟨S.kd ws,fun p=>TM.rk (ks.map (S.dc h)) (S.dc h p.1),fun p=>p.1∈ks⟩
end
section
variable {X:Cx}{S:KeyS}
theorem jG1:∀ {its:List Value},(∀ u∈its,∃ a,u=Value.ref a)->Vals (its.map refV) its
 | [],_=> .nil
 | u::its,h=>by
  obtain⟨a,e⟩:=h u (aw ..)
  subst e
  exact .cons rfl (jG1 fun w hw=>h w (ar _ hw))
theorem jOZ (ok:KeyOk S){h:Heap} :∀ {ks:List Value}{ws:List (List Int)},All2 (S.TK h) ks ws->ks.map (S.dc h)=ws
 | [],[],_=>rfl
 | _::_,_::_,⟨t,r⟩=>by rw[aY,ok.dec t,jOZ ok r]
end
end L2
end
section
namespace TM
open PySem PySem.Spec PyProof.Rows PySem.W
open L2 (All2)
section
variable {prog:Program}{w:World}{A:Around}{E:Value->Shared->Prop}{s:Shared}
end
end TM
namespace L2
open PySem PySem.Spec PyProof.Rows
def keyT:KeyS:=⟨TM.TupI,fun H v l=>∃ a,v=V.ref a/\H a=some (.tup (l.map V.int)),TM.kdOf,TM.decV⟩
theorem jRP:KeyOk keyT where
 of:=fun {P w H h v u l} ok r k=>by
  obtain⟨a,rfl,ha⟩:=k
  cases r
  obtain⟨_,its,r2,m,ho⟩:=(show ObjOk P w H h a (.tup _) from ok a _ ha)
  exact⟨a,m,its.toArray,rfl,ho,jCL r2⟩
 mono:=fun t k=>let ⟨a,e,h⟩:=k; ⟨a,e,t _ _ h⟩
 dec:=TM.TupI.dec
 kind:=TM.kind_of
 lt:=fun h1 h2 room h=>TM.lt_kd h1 h2 (by omega) h
section
variable {X:Cx}{S:KeyS}
theorem s_tk (ok:KeyOk S){P:Program}{w:World}{H:Hp}{h:Heap}(hk:HOk P w H h):∀ {us:List V}{its:List Value}{ws:List (List Int)},Vals us its->All2 (S.KR H) us ws->All2 (S.TK h) its ws
 | [],_,[], .nil,_=>trivial
 | _::_,_,_::_, .cons r rs,⟨t,ts⟩=>⟨ok.of hk r t,s_tk ok hk rs ts⟩
theorem s_out {H:Hp}{h:Heap} :∀ {us:List V}{its:List Value}{ws:List (List Int)},Vals us its->All2 (S.KR H) us ws->All2 (S.TK h) its ws->(ok:KeyOk S)->(∀ v∈us,∃ a,v=V.ref a)->∀ u∈its,∃ a,u= .ref a/\S.KR H (.ref a) (S.dc h u)
 | [],_,[], .nil,_,_,_,_,u,hu=>by cases hu
 | v::us,_,w::ws, .cons r rs,⟨t,ts⟩,⟨d,ds⟩,ok,hr,u,hu=>by
  rcases aB.mp hu with z | z
  ·obtain⟨a,rfl⟩:=hr v (aw ..)
   cases r
   rw[z,ok.dec d]
   exact⟨a,rfl,t⟩
  ·exact s_out rs ts ds ok (fun v hv=>hr v (ar _ hv)) u z
end
end L2
end
section
namespace TM
open PySem PySem.Spec PyProof.Rows
section
variable {prog:Program}{w:World}{A:Around}{E:Value->Shared->Prop}{s:Shared}
theorem sorted_vals [Od]{K:Type} [DecidableEq K]{knd:KeyKind prog w K}{v d:Addr}{kvs:List (K×Value)}{vs:List Value}{Q:Value->Shared->Prop}(hh:A.handled=none)(hv:s.heap.IsValuesView v d)(D:s.heap.DictOf knd d kvs)(hvs:kvs.map (·.2)=vs)(hz:vs.length<=sizeLine)(hI:AllI (pairsOf vs).toList)
  (hk:2<=vs.length->∀ (h5:Heap) (tk:Nat) (a:Addr),(∀ c o,s.heap.get? c=some o->h5.get? c=some o)->s.heap.objs.size<=a->AskOk prog w A.in1.in1 { s with heap:=h5,toks:=tk} a vs)
  (h:∀ (hf:Heap) (tk:Nat) (l:Addr) (xs:Array Keyed) (e:Nat),s.heap.objs.size<=l->(∀ b u,s.heap.get? b=some u->hf.get? b=some u)->hf.get? l=some { cls:= .type "list",data:= .seq (xs.map (·.2)) e} ->xs.Perm (pairsOf vs)->STo xs (pairsOf vs).size->Q (.ref l) { s with heap:=hf,toks:=tk}):
  wpAny (model prog w) A (call (.builtin "sorted") [.ref v]) Q E s:=by
 obtain⟨ep,hat⟩:=D.dictAt
 have hlen:kvs.length=vs.length:=by rw[<- hvs,ae]
 refine eE kind_sorted plain_sorted entry_sorted (args_sorted1 _) ?_
 unfold Builtin.«sorted»
 refine aa (m:=checkCount "sorted" 1 1 _) (af ?_)
 refine aa (L2.collect_src (A:=A.in1) (PySem.W.kdl_values (knd:=knd) (kvs:=kvs) (ep:=ep) (r:=v) (d:=d)) hh ⟨hv,hat⟩ (by omega) fun h1 tk acc hk1 hlt1 hacc=>?_)
 have ha:acc.toList=vs:=by
  rw[<- hvs]
  refine PySem.W.kdl_vals_eq _ (by rw[aG,hacc.1]) fun j u e=>?_
  exact hacc.2 j u (by rw[<- bu]; exact e)
 rw[ha]
 refine aa (fH ?_ hz)
 have hL:(h1.push (seqObj "list" vs.toArray 0)).get? h1.objs.size=some (seqObj "list" vs.toArray 0):=az _ rfl
 show wpAny _ _ _ _ _ { s with heap:=h1.push (seqObj "list" vs.toArray 0),toks:=tk}
 refine aa (b0 (bE gz ⟨_,hL,rfl⟩ ga (by
  rw[jKX]
  exact jI8 (s:= { s with heap:=h1.push (seqObj "list" vs.toArray 0),toks:=tk}) hL hz hI (fun h2=>hk h2 _ _ _ (fun c o q=>ab _ (hk1 c o q)) (cI hlt1)) fun xs p1 p2=>⟨_,rfl,af ⟨_,rfl,by
   obtain⟨e,he⟩:=gQ (out:=turned false (xs.map (·.2))) hL
   refine h _ tk h1.objs.size xs e (cI hlt1) (fun b u q=>?_) he p1 p2
   have q1:=hk1 b u q
   have hb:b<h1.objs.size:=ay q1
   show (sortedHeap (h1.push (seqObj "list" vs.toArray 0)) h1.objs.size vs _).get? b=_
   rw[gA (aS hb) (by rw[size_push']; exact bJ hb)]
   exact ab _ q1⟩⟩) (args_list_sort _)))
end
end TM
namespace L2
open PySem PySem.Spec PyProof.Rows
def ViewO (v d:Addr):HO:= .ext fun h=>h.IsValuesView v d
def tVals (td:TE):TE:=fun σ H Q=>td σ H fun x H1=>∃ (a:Addr) (kvs:List (Key×V)),x= .ref a/\H1 a=some (.dK kvs)/\∀ p,H1 p=none->Q (.ref p) (upd H1 p (ViewO p a))
section
variable {X:Cx}{o:Expr}{td:TE}{apos cpos:Pos}{S:KeyS}
theorem jRU (ho:JE X o td)(base:attributeBase o "values" X.env (eval o X.env)=eval o X.env:=by rfl)
  (line:(apos.endLine==cpos.line)=true:=by rfl):JE X (.Call (.Attribute o "values" apos) [] [] cpos) (tVals td):=⟨fun pins s σ H Q I h=>by
 refine wpAny_Call_method0_late base line (thn (ho.h pins s σ H _ I h) fun u s1 ⟨x,H1,I1,rx,a,kvs,ex,d,q1⟩=>?_)
 subst ex
 obtain rfl:u=Value.ref a:=rx
 obtain⟨t1,t2,sm⟩:=jU7 I1 (.inl ⟨kvs, .inl d⟩)
 obtain⟨z,hd,vs,rel,dd⟩:=dk_of I1.hok d
 refine⟨_,_,PySem.F.plainAttrs_dict,gU,PySem.F.type_dict_values,t1,t2,fb rfl (iS ?_)⟩
 refine call_meetsIn gU dd.typeIs PySem.F.entry_dict_values (PySem.F.args_dict_values_1 _) (meets_dict_values (kE X.prog X.w) a hd) ⟨⟨_,dd⟩,?_⟩
 have g:(s1.heap.push { cls:= .type "dict_values",data:= .fields #[.ref a]}).get? s1.heap.objs.size=some { cls:= .type "dict_values",data:= .fields #[.ref a]} :=az _ rfl
 exact⟨.ref s1.heap.objs.size,_,I1.laid (t':=s1.toks) (o:=ViewO s1.heap.objs.size a) (fun b ob q=>ab _ q) (ak _) ⟨⟨_,g,rfl,rfl⟩,⟨_,g⟩,fun h1 h2 ⟨o,ho,r⟩ k=>⟨o,k o ho,r⟩⟩,rfl,q1 _ I1.fresh⟩⟩
theorem jRO {kvs:List (Key×V)}{vs:List (Key×Value)}(r:KV kvs vs):Vals (kvs.map (·.2)) (vs.map (·.2)):=by
 induction r with
 | nil=>exact .nil
 | cons a _ ih=>exact .cons a.2 ih
theorem jGL (ok:KeyOk S)(hc:X.calm=true)(hu:X.A.units+101<cLine):yO X (.builtin "sorted") (fun xs H Q=>∃ (p d:Addr) (kvs:List (Key×V)) (ws:List (List Int)),xs=[.ref p]/\H p=some (ViewO p d)/\H d=some (.dK kvs)/\All2 (S.KR H) (kvs.map (·.2)) ws/\(∀ v∈kvs.map (·.2),∃ a,v=V.ref a)/\
  ∀ (l:Addr) (us':List V) (ws':List (List Int)),H l=none->All2 (S.KR H) us' ws'->ws'.Perm ws->ws'.Pairwise (fun x y=>HT.lexLt y x=false)->Q (.ref l) (upd H l (.lst us'))):=by
 intro pins s σ H xs us Q I r h
 obtain⟨p,dx,kvs,ws,rfl,hp,hdx,ht,hrf,q⟩:=h
 obtain⟨u,rfl,rx⟩:=r.one
 cases rx
 obtain⟨hview,_,_⟩:=I.hok p _ hp
 obtain⟨z,lo,vs,rel,dd⟩:=dk_of I.hok hdx
 have r':=jRO rel
 generalize hits:vs.map (·.2)=its at r'
 have hz:its.length<=sizeLine:=by rw[<- r'.length,ae]; exact z
 generalize kvs.map (·.2)=us at ht hrf r'
 have hlen:=r'.length
 have d:=s_tk ok I.hok r' ht
 have hat:=s_out r' ht d ok hrf
 have ddc:=jOZ ok d
 refine @TM.sorted_vals _ _ _ _ _ (odK S ws s.heap its) _ _ _ _ _ _ its _ (I.ok.hd hc) hview dd hits hz (fun x hx=>(TM.pairs_mem hx).2) (fun h2 h5 tk a k5 ha=>fun h6 k6=>?_) fun hf tk l out e hl kp he p1 p2=>?_
 ·have hok6:HOk X.prog X.w H h6:=I.hok.kept fun b o z=>k6 _ _ (k5 _ _ z) (aS (aV (ay z) ha))
  have d6:=s_tk ok hok6 r' ht
  have ne:its≠ []:=fun z=>by rw[z] at h2; exact absurd h2 (by decide)
  refine⟨fun Q' E' h=>ok.kind (s:= { s with heap:=h6,toks:=tk}) d6 ne h,@TM.LtOk.mk _ _ _ _ (odK S ws s.heap its) fun {E st x y Q} hk hx hy h=>?_⟩
  have e:decide (@TM.key (odK S ws s.heap its) x< @TM.key (odK S ws s.heap its) y)=HT.lexLt (S.dc s.heap x.1) (S.dc s.heap y.1):=TM.rk_lt (cP hx)
  rw[e] at h
  rw[lt'_eq]
  refine aC (fJ ?_)
  rw[show kindOf st=S.kd ws from hk]
  obtain⟨i,hi⟩:=bC hx
  obtain⟨j,hj⟩:=bC hy
  obtain⟨l1,g1,t1⟩:=d.get' hi
  obtain⟨l2,g2,t2⟩:=d.get' hj
  obtain⟨m1,g3,t3⟩:=d6.get' hi
  obtain⟨m2,g4,t4⟩:=d6.get' hj
  rw[g1] at g3
  rw[g2] at g4
  cases g3
  cases g4
  rw[ok.dec t1,ok.dec t2] at h
  exact aC (gE (dG (ok.lt (s:= { s with heap:=h6,toks:=tk}) t3 t4 (by rw[eg,eg]; omega) ⟨rfl,aF h⟩)))
 ·have pl:=cL.mp p1
  have o1:(out.map (·.2)).toList.Perm its:=by
   rw[Array.toList_map]
   have:=pl.map Prod.snd
   rw[pairsOf_toList,List.map_snd_zip (ak _)] at this
   exact this
  have o2:(out.map (·.2)).toList.Pairwise fun u v=>HT.lexLt (S.dc s.heap v) (S.dc s.heap u)=false:=by
   have me:∀ q∈out.toList,q.1=q.2/\q.1∈its:=fun q hq=>TM.pairs_mem (pl.mem_iff.mp hq)
   have sz:=p1.size_eq
   rw[Array.toList_map,bS,bx]
   intro i j hi hj hij
   rw[aG] at hi hj
   have k:=p2 i j (cI hij) (by omega)
   have ei:out[i]?=some out[i]:=jc _ i hi
   have ej:out[j]?=some out[j]:=jc _ j hj
   have m1:=me out[i] (by simp)
   have m2:=me out[j] (by simp)
   rw[@TM.KI_key (odK S ws s.heap its) _ _ _ ei,@TM.KI_key (odK S ws s.heap its) _ _ _ ej] at k
   have e:decide (@TM.key (odK S ws s.heap its) out[j]< @TM.key (odK S ws s.heap its) out[i])=HT.lexLt (S.dc s.heap out[j].1) (S.dc s.heap out[i].1):=TM.rk_lt (cP m2.2)
   rw[iQ,iQ,<- m1.1,<- m2.1,<- e]
   exact aL (by omega)
  have rf:∀ u∈(out.map (·.2)).toList,∃ a,u= .ref a/\S.KR H (.ref a) (S.dc s.heap u):=fun u hu=>hat u (o1.mem_iff.mp hu)
  have hz2:((out.map (·.2)).toList.map refV).length<=sizeLine:=by
   rw[ae,o1.length_eq]
   omega
  have v1:Vals ((out.map (·.2)).toList.map refV) (out.map (·.2)).toList:=jG1 fun u hu=>let ⟨a,e,_⟩:=rf u hu; ⟨a,e⟩
  have I2:Inv X pins σ (upd H l (.lst ((out.map (·.2)).toList.map refV))) { s with heap:=hf,toks:=tk} :=I.laid (t':=tk) kp hl ⟨hz2,(out.map (·.2)).toList,e,v1,by rw[cW]; exact he⟩
  have v2:All2 (S.KR H) ((out.map (·.2)).toList.map refV) ((out.map (·.2)).toList.map (S.dc s.heap)):=by
   generalize (out.map (·.2)).toList=l at rf
   induction l with
   | nil=>trivial
   | cons u l ih=>
    obtain⟨a,e,k⟩:=rf u (aw ..)
    refine⟨?_,ih fun w hw=>rf w (ar _ hw)⟩
    rw[e] at k ⊢
    exact k
  refine⟨.ref _,_,I2,rfl,q _ _ ((out.map (·.2)).toList.map (S.dc s.heap)) (I.hok.fresh hl) v2 ?_ ?_⟩
  ·rw[<- ddc]
   exact o1.map _
  ·exact bS.mpr o2
end
end L2
end
section
end
section
namespace Eo
open PySem L2
def Keep (H H':Hp)(p:Addr):Prop:=∀ b o,H b=some o->b≠p->H' b=some o
structure Txt (mg:Str->Option Value):Prop where
 len:mg "len" =none
 range:mg "range" =none
 tuple:mg "tuple" =none
 sorted:mg "sorted" =none
 set:mg "set" =none
 list:mg "list" =none
 int:mg "int" =none
 isinstance:mg "isinstance" =none
 bool:mg "bool" =none
 str:mg "str" =none
 all:mg "all" =none
 zip:mg "zip" =none
 max:mg "max" =none
 min:mg "min" =none
 any:mg "any" =none
 abs:mg "abs" =none
 sum:mg "sum" =none
 enumerate:mg "enumerate" =none
 dict:mg "dict" =none
structure Can (P:Program)(w:World)(K:W.Frag)(mg:Str->Option Value)(base:Heap)(x:Str)(k:Nat)(f:Addr)(fd:FuncData)(ps:List Str)(sp:Sp):Prop where
 G:FnOk P w K mg base CX0 k f fd ps sp
 m:mg x=some (.ref f)
 kp:keepIn K (.ref f)=true
 b:Binds K fd ps []
theorem Can.pe {X:Cx}{x:Str}{k:Nat}{f:Addr}{fd:FuncData}{ps:List Str}{sp:Sp}{e:Expr}{es:List Expr}{t:TA}{p pos:Pos}(C:Can X.prog X.w X.K X.mg X.base x k f fd ps sp)(hr:Room k X.A)(hg:Gl X x)(ha:PA X (e::es) t)(hdb:(x==("__debug__" :Str))=false:=by decide)
  (he:starEach (e::es) X.env=(false,eval e X.env)::starEach es X.env:=by rfl) (hpl:(backTo pos (starEach es X.env)).any (·.1)=false:=by rfl):PE X (.Call (.Name x p) (e::es) [] pos) (tCall sp [] E0 t):=
 jQX C.G hr hg C.m C.kp C.b .nil pass0 ha hdb he hpl
theorem Can.je {X:Cx}{x:Str}{k:Nat}{f:Addr}{fd:FuncData}{ps:List Str}{sp:Sp}{e:Expr}{es:List Expr}{t:TA}{p pos:Pos}(C:Can X.prog X.w X.K X.mg X.base x k f fd ps sp)(hr:Room k X.A)(hg:Gl1 X x)(ha:JA X (e::es) t)(he:starEach (e::es) X.env=(false,eval e X.env)::starEach es X.env)
  (hdb:(x==("__debug__" :Str))=false:=by decide) (hpl:(backTo pos (starEach es X.env)).any (·.1)=false:=by rfl):JE X (.Call (.Name x p) (e::es) [] pos) (tCall sp [] E0 t):=
 ⟨C.pe hr hg.a ha.h hdb he hpl⟩
section
variable {P:Program}{w:World}{K:W.Frag}{mg:Str->Option Value}{base:Heap}
def jKL (K:W.Frag):Sp:=fun vs H Q _=>∃ (a:Addr) (ns:List Int) (k:Int),vs=[.ref a, .int k]/\SqL K H a (ns.map V.int)/\0<=k/\∀ c:Int,Q (.int c) H
theorem jST:FnScope ["script","k"] ["script","k"] (j8 sCell):=⟨rfl,rfl,rfl,by decide+kernel,rfl,by decide+kernel,by decide+kernel⟩
theorem jRD {f:Addr}{fd:FuncData}(F:Fun K "_law_cell_at" "_law_cell_at" sCell f fd)(T:Txt mg):FnOk P w K mg base CX0 1 f fd ["script","k"] (jKL K):=by
 refine F.ok jST (fun vs H Q E h=>?_) (fun cdv A outer s H vs Q E hr h=>?_)
 ·obtain⟨a,ns,k,rfl,_⟩:=h
  rfl
 ·obtain⟨a,ns,k,rfl,hS,h0,q⟩:=h
  refine⟨_,kO (ps_if (jDP op_lt (pv 1) (jF2 jU (by rfl) T.len PySem.boot_len (jZ (pv 0) yB)) (jG _)) (jAR (jCV (pe_ix yK (pv 0) (pv 1) (fun _ _=>rfl)))) jF0) (jAR (jCV jL)),?_⟩
  refine⟨_,rfl,_,rfl,a,_,rfl, .inl hS,_,_,rfl,rfl,_,rfl,?_⟩
  refine ite2 (fun hlt=>?_) (fun _=>?_)
  ·have hlt:k<((ns.map V.int).length:Int):=aJ hlt
   have hk:k.toNat<ns.length:=by rw[ae] at hlt; omega
   refine⟨_,rfl,_,rfl,a,_,k, .int (ns[k.toNat]),rfl,rfl,hS,?_,q _⟩
   have e:(k.toNat:Int)=k:=by omega
   have q2:=yT (xs:=ns.map V.int) (j:=k.toNat) (v:=V.int ns[k.toNat]) (by simp [hk])
   rw[e] at q2
   exact q2
  ·exact q 0
def yL:Sp:=fun vs H Q _=>∃ (p:Addr) (N w:Int),vs=[.ref p, .int w]/\H p=some (.lst [.int N])/\0<=N/\0<w/\w<2 ^ 64/\∀ N' r:Int,0<=N'->0<=r->r<w->Q (.int r) (upd H p (.lst [.int N']))
theorem scTake:FnScope ["pot","wide","found"] ["pot","wide"] (j8 sTake):=⟨rfl,rfl,rfl,by decide+kernel,rfl,by decide+kernel,by decide+kernel⟩
theorem jR5 {f:Addr}{fd:FuncData}(F:Fun K "_law_take" "_law_take" sTake f fd):FnOk P w K mg base CX0 1 f fd ["pot","wide"] yL:=by
 refine F.ok scTake (fun vs H Q E h=>?_) (fun cdv A outer s H vs Q E hr h=>?_)
 ·obtain⟨a,ns,k,rfl,_⟩:=h
  rfl
 ·obtain⟨p,N,w,rfl,hp,h0,h1,h2,q⟩:=h
  refine⟨_,kO (qC (i:=2) scTake.nd rfl (Or.inl rfl) (kI jG6 (pe_ix yK (pv 0) jL (fun _ _=>rfl)) (pv 1)))
   (kO (jP7 (kI jIJ (pe_ix yK (pv 0) jL (fun _ _=>rfl)) (pv 1)) (jP8 (pv 0) jL jIA))
   (jAR (jCV (pv 2)))),?_⟩
  refine⟨_,rfl,p,_,0, .int N,rfl,rfl,SqL.of hp,rfl,_,rfl,_,_,rfl,rfl,h1,?_⟩
  refine⟨_,rfl,p,_,0, .int N,rfl,rfl,SqL.of hp,rfl,_,rfl,_,_,rfl,rfl,⟨h1,h2⟩,?_⟩
  refine⟨_,rfl,p,_,0,0,rfl,rfl,hp,rfl,_,rfl,?_⟩
  exact q _ _ (Int.ediv_nonneg h0 (by omega)) (Int.emod_nonneg _ (by omega)) (i7 _ h1)
def spPot:Sp:=fun vs H Q _=>∃ c:Int,vs=[.int c]/\∀ (p:Addr) (N:Int),H p=none->0<=N->Q (.ref p) (upd H p (.lst [.int N]))
theorem scPot:FnScope ["cell","number","j","more"] ["cell"] (j8 sPot):=⟨rfl,rfl,rfl,by decide+kernel,rfl,by decide+kernel,by decide+kernel⟩
theorem jTK {f:Addr}{fd:FuncData}(F:Fun K "_law_pot" "_law_pot" sPot f fd)(T:Txt mg):FnOk P w K mg base CX0 1 f fd ["cell"] spPot:=by
 refine F.ok scPot (fun vs H Q E h=>?_) (fun cdv A outer s H vs Q E hr h=>?_)
 ·obtain⟨c,rfl,_⟩:=h
  rfl
 ·obtain⟨c,rfl,q⟩:=h
  have one: [V.int 0].length<=sizeLine:=by show 1<=sizeLine; decide
  refine⟨_,kO (ps_if (jDP op_ge (pv 0) (kI jL1 jL jL) (jG _)) (jAR (jCV (jIH (jZ (kI jBX (pv 0) (kI jL1 jL jL)) yB)))) jF0)
   (kO (qC (i:=1) scPot.nd rfl (Or.inl rfl) jL)
   (kO (jP6 bG rfl (jBV rfl T.range (jZ jL yB)) (jF1 (i:=2) scPot.nd rfl (Or.inl rfl))
    (kO (qC (i:=3) scPot.nd rfl (Or.inl rfl) (kI jG6 (kI jBY (kI y9 (kI y9 (kI jG6 (pv 0) jL) (kI jBY jL (pv 2))) jL) jL) jL))
    (kO (qC (i:=3) scPot.nd rfl (Or.inl rfl) (kI jG6 (kI y9 (kI y9 (kI jBY (pv 3) (pv 3)) (kI jBY jL (pv 2))) jL) jL))
    (jAR (qC (i:=1) scPot.nd rfl (Or.inl rfl) (kI y9 (kI jBY (pv 1) jL) (pv 3)))))))
   (jAR (jCV (jIH (jZ (pv 1) yB)))))),?_⟩
  refine⟨_,rfl,_,_,rfl,rfl,⟨by decide,by decide,by decide⟩,_,_,rfl,rfl,_,rfl,?_⟩
  refine ite2 (fun hge=>?_) (fun _=>?_)
  ·refine⟨_,rfl,_,_,rfl,rfl,⟨by decide,by decide,by decide⟩,_,_,rfl,rfl,one,fun p hp=>q p _ hp ?_⟩
   exact Int.sub_nonneg_of_le (aJ hge)
  ·refine⟨64,rfl,by decide,by decide,jAN (n:=64) (fun i σ H2=>∃ (num:Int) (v1 v2:Option V),σ=[some (.int c),some (.int num),v1,v2]/\0<=num/\H2=H) ⟨0,none,none,rfl,cY _,rfl⟩ ?_ ?_⟩
   ·rintro i σ H2 hi ⟨num,v1,v2,rfl,hn,rfl⟩
    refine⟨_,rfl,_,_,rfl,rfl,(by show (0:Int)<2147483629; decide),_,rfl,_,_,rfl,rfl, .inl ⟨by decide,by decide⟩,_,_,rfl,rfl,_,_,rfl,rfl,_,_,rfl,rfl, .inr ⟨by decide,by decide⟩,_,_,rfl,rfl,(by show (0:Int)<2147483647; decide),?_⟩
    refine⟨_,rfl,_,rfl,_,_,rfl,rfl, .inl ⟨?_,?_⟩,_,rfl,_,_,rfl,rfl, .inl ⟨by decide,by decide⟩,_,_,rfl,rfl,_,_,rfl,rfl,_,_,rfl,rfl,(by show (0:Int)<2147483587; decide),?_⟩
    ·omega
    ·omega
    ·refine⟨_,rfl,_,_,rfl,rfl, .inr ⟨by decide,by decide⟩,_,rfl,_,_,rfl,rfl,?_⟩
     refine⟨_,_,_,rfl,?_,rfl⟩
     omega
   ·rintro σ H2 ⟨num,v1,v2,rfl,hn,rfl⟩
    exact⟨_,rfl,one,fun p hp=>q p num hp hn⟩
end
theorem jBL {H:Hp}{a:Addr}{o o':HO} :upd (upd H a o) a o'=upd H a o':=by
 funext b
 unfold upd
 by_cases h:b=a
 ·rw[aj h,aj h]
 ·rw[ai h,ai h,ai h]
theorem y8 {H:Hp}{a b:Addr}{o:HO}(h:upd H a o b=none):b≠a/\H b=none:=by
 have h1:b≠a:=fun e=>by rw[e,j6] at h; cases h
 exact⟨h1,by rw[j9 h1] at h; exact h⟩
theorem Keep.refl (H:Hp)(p:Addr):Keep H H p:=fun _ _ h _=>h
theorem Keep.trans {H H1 H2:Hp}{p:Addr}(a:Keep H H1 p)(b:Keep H1 H2 p):Keep H H2 p:=fun c o h n=>b c o (a c o h n) n
theorem Keep.upd {H H1:Hp}{p:Addr}(a:Keep H H1 p)(o:HO):Keep H (upd H1 p o) p:=fun c u h n=>by rw[j9 n]; exact a c u h n
theorem Keep.new {H H1:Hp}{p l:Addr}(a:Keep H H1 p)(hl:H1 l=none)(o:HO):Keep H (L2.upd H1 l o) p:=fun c u h n=>by
 have:=a c u h n
 rw[j9 (jA this hl)]
 exact this
theorem pw {w:Int}(h1:1<=w)(h2:w<=16):(2:Int)<=2 ^ w.toNat/\(2:Int) ^ w.toNat<=65536:=by
 have e:∀ n:Nat,n<17->1<=n->(2:Int)<=2 ^ n/\(2:Int) ^ n<=65536:=by decide+kernel
 exact e w.toNat (by omega) (by omega)
structure Lot (w:Int)(ts:List Int):Prop where
 ris:ts.Pairwise (· < ·)
 bnd:∀ z∈ts,0<=z/\z<w
 ne:ts≠ []
def bits (n:Int)(k:Nat):List Int:=((List.range k).filter fun t=>decide (Builtin.bitAnd (n / 2 ^ t) 1=1)).map fun (t:Nat)=>(t:Int)
theorem jGS (n:Int)(k:Nat):bits n (k+1)=bits n k++(if decide (Builtin.bitAnd (n / 2 ^ k) 1=1)=true then [(k:Int)] else []):=by
 unfold bits
 rw[iw,bX,aR]
 congr 1
 rw[dr]
 split <;> rfl
theorem jOT {n w:Int}(h1:1<=n)(hw:0<=w)(h2:n<2 ^ w.toNat):Lot w (bits n w.toNat):=by
 refine⟨?_,fun z hz=>?_,?_⟩
 ·unfold bits
  rw[bS]
  have:=(ik (n:=w.toNat)).filter (fun t=>decide (Builtin.bitAnd (n / 2 ^ t) 1=1))
  exact this.imp fun h=>by omega
 ·unfold bits at hz
  obtain⟨t,ht,rfl⟩:=aW.mp hz
  have:=bY.mp (cx.mp ht).1
  omega
 ·obtain⟨m,rfl⟩:∃ m:Nat,n=(m:Int):=⟨n.toNat,by omega⟩
  have hm:m≠0:=by omega
  have hlt:m<2 ^ w.toNat:=by
   have:((m:Nat):Int)<((2 ^ w.toNat:Nat):Int):=by rw[Int.natCast_pow]; exact h2
   omega
  obtain⟨i,hi⟩:=Nat.exists_testBit_of_ne_zero hm
  have hiw:i<w.toNat:=by
   rcases eB i w.toNat with h | h
   ·exact h
   ·rw[ig (aV hlt (cr (by omega) h))] at hi
    cases hi
  have hb:Builtin.bitAnd ((m:Int) / 2 ^ i) 1=1:=by
   have e:((m:Int) / 2 ^ i)=((m / 2 ^ i:Nat):Int):=by rw[Int.natCast_ediv,Int.natCast_pow]; rfl
   rw[e,PyProof.Rows.bitAnd_pp (eR _) (by decide)]
   have e2:(((m / 2 ^ i:Nat):Int).toNat&&&(1:Int).toNat)=1:=by
    rw[bq]
    show (m / 2 ^ i)&&&1=1
    rw[gG]
    have:=hi
    rw[fh] at this
    exact aJ this
   rw[e2]
   rfl
  intro z
  have hmem:(i:Int)∈bits (m:Int) w.toNat:=by
   unfold bits
   exact aW.mpr ⟨i,cx.mpr ⟨bY.mpr hiw,am hb⟩,rfl⟩
  rw[z] at hmem
  cases hmem
section
variable {P:Program}{w:World}{K:W.Frag}{mg:Str->Option Value}{base:Heap}
def qL:Sp:=fun vs H Q _=>∃ (p:Addr) (N w:Int),vs=[.ref p, .int w]/\H p=some (.lst [.int N])/\0<=N/\1<=w/\w<=16/\
 ∀ (q:Addr) (N':Int) (ts:List Int) (H':Hp),0<=N'->Lot w ts->H' q=some (.tup (ts.map V.int))->H' p=some (.lst [.int N'])->Keep H H' p->Q (.ref q) H'
theorem scLot:FnScope ["pot","wide","way","number","start","step","size"] ["pot","wide"] (j8 sLot):=⟨rfl,rfl,rfl,by decide+kernel,rfl,by decide+kernel,by decide+kernel⟩
theorem jTM {f fT:Addr}{fd fdT:FuncData}(F:Fun K "_law_lot" "_law_lot" sLot f fd)(T:Txt mg)(CT:Can P w K mg base "_law_take" 1 fT fdT ["pot","wide"] yL):FnOk P w K mg base CX0 2 f fd ["pot","wide"] qL:=by
 refine F.ok scLot (fun vs H Q E h=>?_) (fun cdv A outer s H vs Q E hr h=>?_)
 ·obtain⟨a,ns,k,rfl,_⟩:=h
  rfl
 ·obtain⟨p,N,w,rfl,hp,hN,h1,h2,q⟩:=h
  have hpw:=pw h1 h2
  have nd:=scLot.nd
  refine⟨_,kO (qC (i:=2) nd rfl (Or.inl rfl) (CT.pe hr rfl (jZ (pv 0) (jZ jL yB))))
   (kO (ps_if (jDP yU (pv 2) jL (jG _))
    (kO (qC (i:=3) nd rfl (Or.inr rfl) (kI y9 jL (CT.pe hr rfl (jZ (pv 0) (jZ (kI jBX (kI jII jL (pv 1)) jL) yB)))))
    (jAR (jCV (jBW jA0 rfl T.tuple (by decide+kernel) (jZ
     (jHD (m:=[none,some 3]) (Nc:=["t","number"]) rfl (jBV rfl T.range (jZ (pv 1) yB)) rfl (by decide+kernel) (by decide+kernel) (kS (psc:=j8 sLot) (by decide+kernel))
      (jS (N:=["pot","wide","way","number","start","step","size"]) rfl rfl (by decide+kernel))
      (fun cl C fp s H=>jF1 (i:=0) (show (["t","number"]:List Str).Nodup by decide+kernel) rfl (Or.inl rfl))
      (fun cl C fp s H=>jKT (jDP yU (kI jIK (kI jPA (pv 1) (pv 0)) jL) jL (jG _)))
      (fun cl C fp s H=>pv 0)) yB)))))
    jF0)
   (kO (qC (i:=4) nd rfl (Or.inr rfl) (CT.pe hr rfl (jZ (pv 0) (jZ (pv 1) yB))))
   (kO (qC (i:=5) nd rfl (Or.inr rfl) (kI y9 jL (CT.pe hr rfl (jZ (pv 0) (jZ jL yB)))))
   (kO (qC (i:=6) nd rfl (Or.inl rfl) (kI y9 jL (CT.pe hr rfl (jZ (pv 0) (jZ (pe_ix yK (jIH (jZ jL (jZ jL (jZ jL yB)))) (kI jBX (pv 2) jL) (fun _ _=>rfl)) yB)))))
   (jAR (jCV (jBW jA0 rfl T.tuple (by decide+kernel) (jZ (jF2 (jEC rfl) rfl T.sorted (by decide+kernel) (jZ (jBW (jMY rfl) rfl T.set (by decide+kernel) (jZ
     (jHD (m:=[none,some 4,some 5,some 1]) (Nc:=["j","start","step","wide"]) rfl (jBV rfl T.range (jZ (pv 6) yB)) rfl (by decide+kernel) (by decide+kernel) (kS (psc:=j8 sLot) (by decide+kernel))
      (jS (N:=["pot","wide","way","number","start","step","size"]) rfl rfl (by decide+kernel))
      (fun cl C fp s H=>jF1 (i:=0) (show (["j","start","step","wide"]:List Str).Nodup by decide+kernel) rfl (Or.inl rfl))
      (fun cl C fp s H=>jKU)
      (fun cl C fp s H=>kI jG6 (kI y9 (pv 1) (kI jBY (pv 2) (pv 0))) (pv 3))) yB)) yB)) yB)))))))),?_⟩
  refine⟨_,rfl,p,N,4,rfl,hp,hN,by decide,by decide,fun N1 way b1 b2 b3=>?_⟩
  have hp1:∀ M,(upd H p (.lst [.int M])) p=some (.lst [.int M]):=fun _=>j6
  refine⟨_,rfl,rfl,_,rfl,?_⟩
  refine ite2 (fun _=>?_) (fun hw0=>?_)
  ·refine⟨_,rfl,_,rfl,_,_,rfl,rfl,⟨by omega,by omega,by decide⟩,_,_,rfl,rfl,p,N1,_,rfl,hp1 _,b1,by omega,by omega,fun N2 r2 c1 c2 c3=>⟨_,_,rfl,rfl,?_⟩⟩
   have hnum:1+r2<2 ^ w.toNat:=by omega
   refine⟨_,rfl,w,rfl,by omega,by omega,jBA (n:=w.toNat) (by rw[aO]; omega) (fun D i σ' H' ys=>(∃ v,σ'=[v,some (.int (1+r2))])/\ys=(bits (1+r2) i).map V.int/\H'=upd (upd (upd H p (.lst [.int N1])) p (.lst [.int N2])) D (.lst ys)) ?_ ?_ ?_ ?_⟩
   ·intro D hD
    exact⟨⟨_,rfl⟩,rfl,rfl⟩
   ·rintro D i σ' H' ys hD hi ⟨_,e1,e2⟩
    refine⟨by rw[e2]; exact j6,?_⟩
    rw[e1,ae]
    unfold bits
    rw[ae]
    exact bv (bV _ _) (by rw[de]; exact ak _)
   ·rintro D i σ' H' ys hD hi ⟨⟨v,rfl⟩,rfl,rfl⟩
    refine⟨_,rfl,_,rfl,_,_,rfl,rfl,(by show (0:Int)<=0+(i:Int); omega),_,_,rfl,rfl,rfl,_,rfl,?_⟩
    have ei:(0+(i:Int)).toNat=i:=by omega
    refine ite2 (fun hb=>?_) (fun hb=>?_)
    ·have hb:Builtin.bitAnd ((1+r2) / 2 ^ i) 1=1:=by
      have:=aJ hb
      rw[ei] at this
      exact V.int.inj this
     refine⟨_,rfl,j6,⟨_,rfl⟩,?_,jBL⟩
     rw[jGS,aj (am hb),aR]
     congr 1
     show [V.int (0+(i:Int))]=[V.int (i:Int)]
     rw[im]
    ·have hb:¬ Builtin.bitAnd ((1+r2) / 2 ^ i) 1=1:=fun e=>hb (am (by rw[ei]; exact bN V.int e))
     refine⟨⟨_,rfl⟩,?_,rfl⟩
     rw[jGS,ai (by simpa using hb),br]
   ·rintro D σ' H' ys hD ⟨_,rfl,rfl⟩
    refine⟨D,_,rfl, .inl ⟨SqL.of j6,fun qq hqq=>?_⟩⟩
    obtain⟨n1,n2⟩:=y8 hqq
    have pD:p≠D:=jA j6 hD
    have pq:p≠qq:=jA j6 n2
    exact q qq N2 (bits (1+r2) w.toNat) _ c1 (jOT (by omega) (by omega) hnum) j6 (by rw[j9 pq,j9 pD,j6]) (((((Keep.refl H p).upd _).upd _).new hD _).new hqq _)
  ·have hway:1<=way:=by
    have:¬ way=0:=fun e=>hw0 (am (by rw[e]))
    omega
   refine⟨_,rfl,_,rfl,p,N1,w,rfl,hp1 _,b1,by omega,by omega,fun N2 kX c1 c2 c3=>?_⟩
   rw[jBL]
   refine⟨_,rfl,p,N2,3,rfl,hp1 _,c1,by decide,by decide,fun N3 st d1 d2 d3=>⟨_,_,rfl,rfl,?_⟩⟩
   rw[jBL]
   refine⟨_,rfl,(by show 3<=sizeLine; decide),fun l hl=>?_⟩
   have pl:p≠l:=jA (hp1 _) hl
   obtain⟨wd,hwd,e1,e2⟩:∃ wd:Int,atI [V.int 1,V.int 2,V.int 4] (way - 1)=some (.int wd)/\1<=wd/\wd<=4:=by
    rcases (show way=1\/way=2\/way=3 by omega) with e | e | e
    ·subst e; exact⟨1,rfl,by decide,by decide⟩
    ·subst e; exact⟨2,rfl,by decide,by decide⟩
    ·subst e; exact⟨4,rfl,by decide,by decide⟩
   refine⟨_,rfl,_,_,rfl,rfl,l,_,_,_,rfl,rfl,SqL.of j6,hwd,p,N3,wd,rfl,by rw[j9 pl]; exact hp1 _,d1,by omega,by omega,fun N4 r4 g1 g2 g3=>⟨_,_,rfl,rfl,?_⟩⟩
   have kp:Keep H (upd (upd (upd H p (.lst [.int N3])) l (.lst [V.int 1,V.int 2,V.int 4])) p (.lst [.int N4])) p:=(((Keep.refl H p).upd _).new hl _).upd _
   have hp4:(upd (upd (upd H p (.lst [.int N3])) l (.lst [V.int 1,V.int 2,V.int 4])) p (.lst [.int N4])) p=some (.lst [.int N4]):=j6
   generalize (upd (upd (upd H p (.lst [.int N3])) l (.lst [V.int 1,V.int 2,V.int 4])) p (.lst [.int N4]))=H4 at kp hp4 ⊢
   refine⟨_,rfl,1+r4,rfl,by omega,by omega,jBA (n:=(1+r4).toNat) (by rw[aO]; omega) (fun D i σ' H' ys=>(∃ v,σ'=[v,some (.int kX),some (.int (1+st)),some (.int w)])/\(∃ ns:List Int,ys=ns.map V.int/\ns.length=i/\∀ z∈ns,0<=z/\z<w)/\H'=upd H4 D (.lst ys)) ?_ ?_ ?_ ?_⟩
   ·intro D hD
    exact⟨⟨_,rfl⟩,⟨[],rfl,rfl,fun z hz=>by cases hz⟩,rfl⟩
   ·rintro D i σ' H' ys hD hi ⟨_,⟨ns,rfl,e,_⟩,rfl⟩
    exact⟨j6,by rw[ae,e]; exact ak _⟩
   ·rintro D i σ' H' ys hD hi ⟨⟨v,rfl⟩,⟨ns,rfl,e,hb⟩,rfl⟩
    dsimp only [yA,yY]
    rw[aj rfl]
    refine⟨_,rfl,_,rfl,_,rfl,_,_,rfl,rfl, .inl ⟨by omega,by omega⟩,_,_,rfl,rfl,_,rfl,_,_,rfl,rfl,(by show 0<w; omega),j6,⟨_,rfl⟩,⟨ns++[(kX+(1+st)*(0+(i:Int))) % w],by simp,by simp [e],fun z hz=>?_⟩,jBL⟩
    rcases aM.mp hz with hz | hz
    ·exact hb z hz
    ·have:z=(kX+(1+st)*(0+(i:Int))) % w:=by simpa using hz
     rw[this]
     exact⟨Int.emod_nonneg _ (by omega),i7 _ (by omega)⟩
   ·rintro D σ' H' ys hD ⟨_,⟨ns,rfl,e,hb⟩,rfl⟩
    refine⟨D,ns,rfl,SqL.of j6,by omega,fun z hz=>⟨(hb z hz).1,by have:=(hb z hz).2; omega⟩,fun l1 ks h11 hm1=>?_⟩
    refine⟨l1,ks,rfl,j6,fun l2 ms h12 srt hm2=>?_⟩
    refine⟨l2,_,rfl, .inl ⟨SqL.of j6,fun qq hqq=>?_⟩⟩
    have pD:p≠D:=jA hp4 hD
    have p1:p≠l1:=jA hp4 (y8 h11).2
    have p2:p≠l2:=jA hp4 (y8 (y8 h12).2).2
    have pq:p≠qq:=jA hp4 (y8 (y8 (y8 hqq).2).2).2
    refine q qq N4 ms _ g1 ⟨srt,fun z hz=>hb z ((hm1 z).mp ((hm2 z).mp hz)),fun z=>?_⟩ j6 (by rw[j9 pq,j9 p2,j9 p1,j9 pD]; exact hp4) ((((kp.new hD _).new h11 _).new h12 _).new hqq _)
    subst z
    cases ns with
    | nil=>simp at e; omega
    | cons x r=>
     have:=(hm2 x).mpr ((hm1 x).mpr aw)
     cases this
end
structure Ris (w:Int)(ts:List Int):Prop where
 ris:ts.Pairwise (· < ·)
 bnd:∀ z∈ts,0<=z/\z<w
theorem Ris.nil (w:Int):Ris w []:=⟨.nil,fun z hz=>by cases hz⟩
theorem Ris.take {w:Int}{ts:List Int}(h:Ris w ts)(k:Nat):Ris w (ts.take k):=⟨h.ris.sublist (da _ _),fun z hz=>h.bnd z (bR hz)⟩
theorem Ris.drop {w:Int}{ts:List Int}(h:Ris w ts)(k:Nat):Ris w (ts.drop k):=⟨h.ris.sublist (gI _ _),fun z hz=>h.bnd z (cE hz)⟩
theorem Ris.snoc {i:Nat}{ts:List Int}(h:Ris i ts):Ris (i+1:Nat) (ts++[(i:Int)]):=by
 refine⟨cm.mpr ⟨h.ris,eX _ _,fun a ha b hb=>?_⟩,fun z hz=>?_⟩
 ·have:=(h.bnd a ha).2
  have e:b=i:=by simpa using hb
  omega
 ·rcases aM.mp hz with q | q
  ·have:=h.bnd z q
   omega
  ·have e:z=i:=by simpa using q
   omega
theorem Ris.step {i:Nat}{ts:List Int}(h:Ris i ts):Ris (i+1:Nat) ts:=⟨h.ris,fun z hz=>by have:=h.bnd z hz; omega⟩
def upto (n:Nat):List Int:=(List.range n).map fun (i:Nat)=>(i:Int)
theorem jM5 (n:Nat):jE3 n=(upto n).map V.int:=by
 unfold jE3 upto
 rw[cC]
 rfl
theorem jB6 (n:Nat):Ris n (upto n):=by
 refine⟨?_,fun z hz=>?_⟩
 ·unfold upto
  rw[bS]
  exact ik.imp fun h=>by omega
 ·unfold upto at hz
  obtain⟨t,ht,rfl⟩:=aW.mp hz
  have:=bY.mp ht
  omega
def Tups (H H':Hp):Prop:=∀ b xs,H b=some (.tup xs)->H' b=some (.tup xs)
theorem Tups.trans {H H1 H2:Hp}(a:Tups H H1)(b:Tups H1 H2):Tups H H2:=fun c o h=>b c o (a c o h)
theorem Keep.tups {H H':Hp}{p:Addr}{xs:List V}(k:Keep H H' p)(hp:H p=some (.lst xs)):Tups H H':=fun b ys hb=>k b _ hb fun e=>by
 subst e
 rw[hb] at hp
 cases hp
theorem Tups.upd {H:Hp}{p:Addr}{xs:List V}(hp:H p=some (.lst xs))(o:HO):Tups H (upd H p o):=fun b ys hb=>by
 rw[j9 (fun e=>by subst e; rw[hb] at hp; cases hp)]
 exact hb
theorem Tups.new {H:Hp}{p:Addr}(hp:H p=none)(o:HO):Tups H (L2.upd H p o):=fun b ys hb=>by
 rw[j9 (jA hb hp)]
 exact hb
def PcAt (H:Hp)(v:V)(pc:List Int×Int):Prop:=∃ a q,v= .ref a/\H a=some (.tup [.ref q, .int pc.2])/\H q=some (.tup (pc.1.map V.int))
def PcsAt (H:Hp):List V->List (List Int×Int)->Prop
 | [],[]=>True
 | v::vs,p::ps=>PcAt H v p/\PcsAt H vs ps
 | _,_=>False
theorem PcAt.mono {H H':Hp}{v:V}{pc:List Int×Int}(h:PcAt H v pc)(t:Tups H H'):PcAt H' v pc:=by
 obtain⟨a,q,rfl,h1,h2⟩:=h
 exact⟨a,q,rfl,t _ _ h1,t _ _ h2⟩
theorem PcsAt.mono {H H':Hp}(t:Tups H H'):∀ {vs:List V}{ps:List (List Int×Int)},PcsAt H vs ps->PcsAt H' vs ps
 | [],[],_=>trivial
 | _::_,_::_,h=>⟨h.1.mono t,PcsAt.mono t h.2⟩
 | [],_::_,h=>h.elim
 | _::_,[],h=>h.elim
theorem PcsAt.len {H:Hp} :∀ {vs:List V}{ps:List (List Int×Int)},PcsAt H vs ps->vs.length=ps.length
 | [],[],_=>rfl
 | _::_,_::_,h=>bN (· +1) (PcsAt.len h.2)
 | [],_::_,h=>h.elim
 | _::_,[],h=>h.elim
theorem PcsAt.put {H:Hp}{v:V}{p:List Int×Int}(hv:PcAt H v p):∀ (k:Nat) {vs:List V}{ps:List (List Int×Int)},PcsAt H vs ps->PcsAt H (vs.take k++v::vs.drop k) (ps.take k++p::ps.drop k)
 | 0,_,_,h=>⟨hv,h⟩
 | _+1,[],[],_=>⟨hv,trivial⟩
 | k+1,_::_,_::_,h=>⟨h.1,PcsAt.put hv k h.2⟩
 | _+1,[],_::_,h=>h.elim
 | _+1,_::_,[],h=>h.elim
structure GoodPc (w:Int)(pc:List Int×Int):Prop where
 lot:Lot w pc.1
 lo: -1000000000000<=pc.2
 hi:pc.2<=1000000000000
structure BoxAt (H:Hp)(b:Addr)(w:Int)(mays:List Int)(pcs:List (List Int×Int)):Prop where
 ex:∃ qm qp vs,H b=some (.tup [.int w, .ref qm, .ref qp])/\H qm=some (.tup (mays.map V.int))/\H qp=some (.tup vs)/\PcsAt H vs pcs
theorem BoxAt.mono {H H':Hp}{b:Addr}{w:Int}{mays:List Int}{pcs:List (List Int×Int)}(h:BoxAt H b w mays pcs)(t:Tups H H'):BoxAt H' b w mays pcs:=by
 obtain⟨qm,qp,vs,h1,h2,h3,h4⟩:=h.ex
 exact⟨qm,qp,vs,t _ _ h1,t _ _ h2,t _ _ h3,h4.mono t⟩
structure Good (mt mp:Int)(w:Int)(mays:List Int)(pcs:List (List Int×Int)):Prop where
 w0:0<=w
 w1:w<=mt
 mr:Ris w mays
 pl:(pcs.length:Int)<=mp
 pg:∀ pc∈pcs,GoodPc w pc
theorem Keep.updNew {H H1:Hp}{p l:Addr}(a:Keep H H1 p)(hl:H l=none)(o:HO):Keep H (L2.upd H1 l o) p:=fun c u h n=>by
 rw[j9 (jA h hl)]
 exact a c u h n
section
variable {P:Program}{w:World}{K:W.Frag}{mg:Str->Option Value}{base:Heap}
def spBox:Sp:=fun vs H Q _=>∃ (p:Addr) (N mt mp:Int),vs=[.ref p, .int mt, .int mp]/\H p=some (.lst [.int N])/\0<=N/\0<=mt/\mt<=16/\0<=mp/\mp<=32/\
 ∀ (b:Addr) (N' w:Int) (mays:List Int) (pcs:List (List Int×Int)) (H':Hp),0<=N'->H' p=some (.lst [.int N'])->BoxAt H' b w mays pcs->Good mt mp w mays pcs->Keep H H' p->Q (.ref b) H'
noncomputable abbrev nBox:List Str:=["pot","most_things","most_pieces","wide","mays","left","far","pieces","k","size","things"]
theorem scBox:FnScope nBox ["pot","most_things","most_pieces"] (j8 sBox):=⟨rfl,rfl,rfl,by decide+kernel,rfl,by decide+kernel,by decide+kernel⟩
end
section
variable {P:Program}{w:World}{K:W.Frag}{mg:Str->Option Value}{base:Heap}
abbrev XBox (P:Program)(w:World)(K:W.Frag)(mg:Str->Option Value)(base:Heap)(f:Addr)(cdv:Value)(A:Around)(outer:List Env)(s:Shared)(H:Hp)(E:XK):Cx:=(cxOf CX0 P w K mg base nBox "_law_box" (j8 sBox) f cdv A outer s H E).nox
def jCY:Stmt->List Stmt
 | .For _ _ b _ _=>b
 | _=> []
def boxI {f fT fL:Addr}{fdT fdL:FuncData}{cdv:Value}{A:Around}{outer:List Env}{s:Shared}{H:Hp}{E:XK}(T:Txt mg)(CT:Can P w K mg base "_law_take" 1 fT fdT ["pot","wide"] yL)(CL:Can P w K mg base "_law_lot" 2 fL fdL ["pot","wide"] qL)(hr:Room 2 (XBox P w K mg base f cdv A outer s H E).A): { t:TS // JSs (XBox P w K mg base f cdv A outer s H E) ((jCY ((jC sBox).getD 7 (.Pass ⟨0,0,0,0⟩))).drop 4) t} :=
 have nd:=scBox.nd
 ⟨_,(jD (jE0 (je_bm bW PySem.F.slot_list_insert PySem.F.type_list_insert jLI (jv 7 rfl vL) (j4 (CT.je (hr.mono (by decide)) gD (j4 (jv 0 rfl vC) (j4 (kJ y9 (jE jU gD T.len (by decide+kernel) (j4 (jv 7 rfl vL) j7 j3) j3) (je_int)) j7 yM) j3) j3) (j4 (jIV (j4 (jv 10 rfl vL) (j4 (kJ jBX (CT.je (hr.mono (by decide)) gD (j4 (jv 0 rfl vC) (j4 (jv 6 rfl vL) j7 j3) j3) j3) (kJ jIJ (jv 6 rfl vL) (je_int))) j7 yM) j3)) j7 jIB) jJ) jJ) jQ))⟩
def boxL {f fT fL:Addr}{fdT fdL:FuncData}{cdv:Value}{A:Around}{outer:List Env}{s:Shared}{H:Hp}{E:XK}(T:Txt mg)(CT:Can P w K mg base "_law_take" 1 fT fdT ["pot","wide"] yL)(CL:Can P w K mg base "_law_lot" 2 fL fdL ["pot","wide"] qL)(hr:Room 2 (XBox P w K mg base f cdv A outer s H E).A): { t:TS // JSs (XBox P w K mg base f cdv A outer s H E) (jCY ((jC sBox).getD 7 (.Pass ⟨0,0,0,0⟩))) t} :=
 have nd:=scBox.nd
 ⟨_,(jB (jK (i:=9) nd rfl lL (kJ y9 (je_int) (CT.je (hr.mono (by decide)) gD (j4 (jv 0 rfl vC) (j4 (je_int) j7 jO) j3) j3)) jI5)
   (jB (jK (i:=10) nd rfl lL (kU jA0 gD T.tuple (by decide+kernel) (j4 (jFA jKM (jv 5 rfl vL) jHM (jHL (jv 9 rfl vL))) j7 kL) kL) jQ)
   (jB (jK (i:=5) nd rfl lL (jFA jKM (jv 5 rfl vL) (jHL (jv 9 rfl vL)) jHM) jKJ)
   (jB (kT (jM (jTI hr.units0) (jv 10 rfl vL) (jIV j7) (jG _)) (jD (jK (i:=10) nd rfl lL (CL.je hr gD (j4 (jv 0 rfl vC) (j4 (jv 3 rfl vL) j7 j3) j3) j3) jQ)) jR)
   (boxI T CT CL hr).2))))⟩
def boxC {f fT fL:Addr}{fdT fdL:FuncData}{cdv:Value}{A:Around}{outer:List Env}{s:Shared}{H:Hp}{E:XK}(T:Txt mg)(CT:Can P w K mg base "_law_take" 1 fT fdT ["pot","wide"] yL)(CL:Can P w K mg base "_law_lot" 2 fL fdL ["pot","wide"] qL)(hr:Room 2 (XBox P w K mg base f cdv A outer s H E).A): { t:TS // JSs (XBox P w K mg base f cdv A outer s H E) ((jC sBox).drop 5) t} :=
 have nd:=scBox.nd
 ⟨_,(jB (jK (i:=6) nd rfl lL (kB yK (jLX (j4 (je_int) (j4 (je_int) (j4 (jU5) j7 yM) jO) jO)) (CT.je (hr.mono (by decide)) gD (j4 (jv 0 rfl vC) (j4 (je_int) j7 jO) j3) j3) jQD) jKJ)
   (jB (jK (i:=7) nd rfl lL (jLX j7) jFR)
   (jB (yV bG rfl (jA5 gD T.range (j4 (kJ jBY (CT.je (hr.mono (by decide)) gD (j4 (jv 0 rfl vC) (j4 (kJ y9 (jv 2 rfl vL) (je_int)) j7 yM) j3) j3) (kU jE7 gD T.int (by decide+kernel) (j4 (kP op_gt (jv 3 rfl vL) (je_int) (jG _)) j7 jEH) jEH)) j7 yM) yM) (jW (i:=8) nd rfl lL) (boxL T CT CL hr).2 kN)
   (jD (jH (jIV (j4 (jv 3 rfl vL) (j4 (jv 4 rfl vL) (j4 (kU jA0 gD T.tuple (by decide+kernel) (j4 (jv 7 rfl vL) j7 j3) j3) j7 jJ) j3) j3)))))))⟩
def boxB {f fT fL:Addr}{fdT fdL:FuncData}{cdv:Value}{A:Around}{outer:List Env}{s:Shared}{H:Hp}{E:XK}(T:Txt mg)(CT:Can P w K mg base "_law_take" 1 fT fdT ["pot","wide"] yL)(CL:Can P w K mg base "_law_lot" 2 fL fdL ["pot","wide"] qL)(hr:Room 2 (XBox P w K mg base f cdv A outer s H E).A): { t:TS // JSs (XBox P w K mg base f cdv A outer s H E) ((jC sBox).drop 3) t} :=
 have nd:=scBox.nd
 ⟨_,(jB (jK (i:=5) nd rfl lL (kU (jGO rfl) gD T.list (by decide+kernel) (j4 (kU jI0 gD T.range (by decide+kernel) (j4 (jv 3 rfl vL) j7 j3) j3) j7 jJ) jJ) jQ)
   (jB (kT (jM yU (CT.je (hr.mono (by decide)) gD (j4 (jv 0 rfl vC) (j4 (je_int) j7 jO) j3) j3) (je_int) (jG _)) (jD (jK (i:=5) nd rfl lL (jLX j7) jFR)) jR)
   (boxC T CT CL hr).2))⟩
def boxA {f fT fL:Addr}{fdT fdL:FuncData}{cdv:Value}{A:Around}{outer:List Env}{s:Shared}{H:Hp}{E:XK}(T:Txt mg)(CT:Can P w K mg base "_law_take" 1 fT fdT ["pot","wide"] yL)(CL:Can P w K mg base "_law_lot" 2 fL fdL ["pot","wide"] qL)(hr:Room 2 (XBox P w K mg base f cdv A outer s H E).A): { t:TS // JSs (XBox P w K mg base f cdv A outer s H E) (jC sBox) t} :=
 have nd:=scBox.nd
 ⟨_,(jB (jK (i:=3) nd rfl lL (CT.je (hr.mono (by decide)) gD (j4 (jv 0 rfl vC) (j4 (kJ y9 (jv 1 rfl vL) (je_int)) j7 yM) j3) j3) jQ)
   (jB (jK (i:=4) nd rfl lL (jIV j7) jSQ)
   (jB (kT (jM yU (CT.je (hr.mono (by decide)) gD (j4 (jv 0 rfl vC) (j4 (je_int) j7 jO) j3) j3) (je_int) (jG _)) (jD (jK (i:=4) nd rfl lL (kU jA0 gD T.tuple (by decide+kernel) (j4 (kZ (m:=[none,some 0]) (Nc:=["t","pot"]) rfl (jA5 gD T.range (j4 (jv 3 rfl vL) j7 j3) j3) rfl (by decide+kernel) (by decide+kernel) (kS (psc:=j8 sBox) (by decide+kernel)) (jS (N:=nBox) rfl rfl (by decide+kernel)) (fun cl C fp s H=>jW (i:=0) (show (["t","pot"]:List Str).Nodup by decide+kernel) rfl (qJ (by decide+kernel))) (fun cl C fp s H=>jDZ (jM yU (CT.je (hr.mono (by decide)) (gl_b (by decide+kernel)) (j4 (jv 1 rfl (yC (by decide+kernel))) (j4 (je_int) j7 jO) j3) j3) (je_int) (jG _))) (fun cl C fp s H=>(jv 0 rfl (kD (by decide+kernel)))) kN) j7 jV) jV) jQ)) jR)
   (boxB T CT CL hr).2)))⟩
end
structure St0 (H H2:Hp)(p:Addr)(w:Int)(qm ql:Addr)(mays lf:List Int)(N:Int):Prop where
 hp:H2 p=some (.lst [.int N])
 hN:0<=N
 hm:H2 qm=some (.tup (mays.map V.int))
 rm:Ris w mays
 hl:H2 ql=some (.lst (lf.map V.int))
 rl:Ris w lf
 ne:ql≠p
 kp:Keep H H2 p
theorem St0.step {H H2 H3:Hp}{p:Addr}{w:Int}{qm ql:Addr}{mays lf:List Int}{N N':Int}(S:St0 H H2 p w qm ql mays lf N)(k:Keep H2 H3 p)(hp:H3 p=some (.lst [.int N']))(hN:0<=N'):St0 H H3 p w qm ql mays lf N':=
 ⟨hp,hN,k qm _ S.hm (ne_of S.hm S.hp (by intro z; cases z)),S.rm,k ql _ S.hl S.ne,S.rl,S.ne,S.kp.trans k⟩
theorem jML {w:Int}{lf:List Int}(h:Ris w lf)(lo hi:Option Int):∃ l',cutV (lf.map V.int) lo hi=l'.map V.int/\Ris w l':=by
 refine⟨(lf.drop (HT.sIx lf.length 0 lo)).take (HT.sIx lf.length lf.length hi - HT.sIx lf.length 0 lo),?_,(h.drop _).take _⟩
 unfold cutV
 rw[ae,iX,List.map_drop]
section
variable {P:Program}{w:World}{K:W.Frag}{mg:Str->Option Value}{base:Heap}
variable {f fT fL:Addr}{fdT fdL:FuncData}{cdv:Value}{A:Around}{outer:List Env}{s:Shared}{H0:Hp}{E:XK}
theorem jGP (T:Txt mg)(CT:Can P w K mg base "_law_take" 1 fT fdT ["pot","wide"] yL)(CL:Can P w K mg base "_law_lot" 2 fL fdL ["pot","wide"] qL)(hr:Room 2 (XBox P w K mg base f cdv A outer s H0 E).A)
  {D:Ends}{H H5:Hp}{p qm ql qp qt:Addr}{mt mp w N far:Int}{mays lf ts:List Int}{vs:List V}{pcs:List (List Int×Int)}{v8 v9:Option V}
  (S:St0 H H5 p w qm ql mays lf N) (hqp:H5 qp=some (.lst vs)) (hv:PcsAt H5 vs pcs) (hg:∀ pc∈pcs,GoodPc w pc) (hqt:H5 qt=some (.tup (ts.map V.int))) (lt:Lot w ts) (hf:far=1\/far=10\/far=2000000000001) (hn:pcs.length<=100) (hH:H qp=none) (hne:ql≠qp) (hpp:p≠qp)
  (nx:∀ H6 N' vs' pcs',St0 H H6 p w qm ql mays lf N'->H6 qp=some (.lst vs')->PcsAt H6 vs' pcs'->(∀ pc∈pcs',GoodPc w pc)->pcs'.length=pcs.length+1->D.nx [some (.ref p),some (.int mt),some (.int mp),some (.int w),some (.ref qm),some (.ref ql),some (.int far),some (.ref qp),v8,v9,some (.ref qt)] H6):
  (boxI T CT CL hr).1 D [some (.ref p),some (.int mt),some (.int mp),some (.int w),some (.ref qm),some (.ref ql),some (.int far),some (.ref qp),v8,v9,some (.ref qt)] H5:=by
 have hlen:=hv.len
 have h64:(0:Int)<far/\far<2 ^ 64:=by rcases hf with e | e | e <;> subst e <;> decide
 refine⟨_,rfl, .inl ⟨rfl,_,SqL.of hqp⟩,_,rfl,_,rfl,qp,vs,rfl, .inl (SqL.of hqp),_,_,rfl,rfl,p,N,_,rfl,S.hp,S.hN,by omega,by omega,fun N1 i a1 a2 a3=>?_⟩
 refine⟨_,rfl,_,rfl,_,rfl,p,N1,far,rfl,j6,a1,h64.1,h64.2,fun N2 r b1 b2 b3=>?_⟩
 rw[jBL]
 refine⟨_,rfl,_,_,rfl,rfl,⟨by decide,by decide⟩,_,_,rfl,rfl,(by show 2<=sizeLine; decide),fun tq htq=>?_⟩
 obtain⟨t1,t2⟩:=y8 htq
 have ht:tq≠qp:=fun e=>by subst e; rw[hqp] at t2; cases t2
 refine⟨qp,vs,i,_,rfl,rfl,by rw[j9 ht.symm,j9 hpp.symm]; exact hqp,a2,by omega,by rw[aO]; omega,?_⟩
 have T1:Tups H5 (upd (upd H5 p (.lst [.int N2])) tq (.tup [.ref qt, .int (r - far / 2)])):=(Tups.upd S.hp _).trans (Tups.new htq _)
 have k1:Keep H5 (upd (upd H5 p (.lst [.int N2])) tq (.tup [.ref qt, .int (r - far / 2)])) p:=((Keep.refl _ _).upd _).new htq _
 have S1:=S.step k1 (by rw[j9 t1.symm]; exact j6) b1
 have hq1:(upd (upd H5 p (.lst [.int N2])) tq (.tup [.ref qt, .int (r - far / 2)])) qp=some (.lst vs):=by rw[j9 ht.symm,j9 hpp.symm]; exact hqp
 have T2:=T1.trans (Tups.upd hq1 (.lst (vs.take i.toNat++V.ref tq::vs.drop i.toNat)))
 have pc:PcAt (upd (upd H5 p (.lst [.int N2])) tq (.tup [.ref qt, .int (r - far / 2)])) (.ref tq) (ts,r - far / 2):=⟨tq,qt,rfl,j6,T1 _ _ hqt⟩
 refine nx _ N2 _ (pcs.take i.toNat++(ts,r - far / 2)::pcs.drop i.toNat) ⟨?_,b1,?_,S.rm,?_,S.rl,S.ne,S1.kp.updNew hH _⟩ j6 ?_ ?_ ?_
 ·rw[j9 hpp]; exact S1.hp
 ·exact(Tups.upd hq1 _) _ _ S1.hm
 ·rw[j9 hne]; exact S1.hl
 ·exact PcsAt.put (pc.mono (Tups.upd hq1 _)) _ (hv.mono T2)
 ·intro c hc
  rcases aM.mp hc with h | h
  ·exact hg c (bR h)
  ·rcases aB.mp h with h | h
   ·subst h
    refine⟨lt,?_,?_⟩
    ·show -1000000000000<=r - far / 2
     rcases hf with e | e | e <;> subst e <;> omega
    ·show r - far / 2<=1000000000000
     rcases hf with e | e | e <;> subst e <;> omega
   ·exact hg c (cE h)
 ·rw[aE,aK,be,dq]
  omega
end
section
variable {P:Program}{w:World}{K:W.Frag}{mg:Str->Option Value}{base:Heap}
variable {f fT fL:Addr}{fdT fdL:FuncData}{cdv:Value}{A:Around}{outer:List Env}{s:Shared}{H0:Hp}{E:XK}
theorem jN1 (T:Txt mg)(CT:Can P w K mg base "_law_take" 1 fT fdT ["pot","wide"] yL)(CL:Can P w K mg base "_law_lot" 2 fL fdL ["pot","wide"] qL)(hr:Room 2 (XBox P w K mg base f cdv A outer s H0 E).A)
  {D:Ends}{H H5:Hp}{p qm ql qp:Addr}{mt mp w N far:Int}{mays lf:List Int}{vs:List V}{pcs:List (List Int×Int)}{v8 v9 v10:Option V}
  (S:St0 H H5 p w qm ql mays lf N) (hqp:H5 qp=some (.lst vs)) (hv:PcsAt H5 vs pcs) (hg:∀ pc∈pcs,GoodPc w pc) (hf:far=1\/far=10\/far=2000000000001) (hn:pcs.length<=100) (hH:H qp=none) (hpp:p≠qp) (w1:1<=w) (w2:w<=16)
  (nx:∀ H6 N' vs' pcs' ql' lf' v9' v10',St0 H H6 p w qm ql' mays lf' N'->ql'≠qp->H6 qp=some (.lst vs')->PcsAt H6 vs' pcs'->(∀ pc∈pcs',GoodPc w pc)->pcs'.length=pcs.length+1->D.nx [some (.ref p),some (.int mt),some (.int mp),some (.int w),some (.ref qm),some (.ref ql'),some (.int far),some (.ref qp),v8,v9',v10'] H6):
  (boxL T CT CL hr).1 D [some (.ref p),some (.int mt),some (.int mp),some (.int w),some (.ref qm),some (.ref ql),some (.int far),some (.ref qp),v8,v9,v10] H5:=by
 refine⟨_,rfl,p,N,3,rfl,S.hp,S.hN,by decide,by decide,fun N1 r1 a1 a2 a3=>⟨_,_,rfl,rfl,?_⟩⟩
 have S1:=S.step ((Keep.refl _ _).upd (.lst [.int N1])) j6 a1
 have hq1:(upd H5 p (.lst [.int N1])) qp=some (.lst vs):=by rw[j9 hpp.symm]; exact hqp
 have hv1:=hv.mono (Tups.upd S.hp (.lst [.int N1]))
 generalize upd H5 p (.lst [.int N1])=H6 at S1 hq1 hv1 ⊢
 clear S hqp hv
 obtain⟨l1,e1,g1⟩:=jML S1.rl none (some (1+r1))
 obtain⟨l2,e2,g2⟩:=jML S1.rl (some (1+r1)) none
 refine⟨_,rfl,_,rfl,1+r1,rfl,ql,_,rfl,SqL.of S1.hl,fun x hx=>⟨x,_,rfl, .inl ⟨SqL.of j6,fun qt hqt=>?_⟩⟩⟩
 rw[e1] at hqt ⊢
 have k1:Keep H6 (upd (upd H6 x (.lst (l1.map V.int))) qt (.tup (l1.map V.int))) p:=((Keep.refl _ _).new hx _).new hqt _
 obtain⟨t1,t2⟩:=y8 hqt
 have px:p≠x:=jA S1.hp hx
 have pt:p≠qt:=jA S1.hp t2
 have qx:qp≠x:=jA hq1 hx
 have qq:qp≠qt:=jA hq1 t2
 have S2:=S1.step k1 (by rw[j9 pt,j9 px]; exact S1.hp) S1.hN
 have hq2:(upd (upd H6 x (.lst (l1.map V.int))) qt (.tup (l1.map V.int))) qp=some (.lst vs):=by rw[j9 qq,j9 qx]; exact hq1
 have hv2:=hv1.mono (k1.tups S1.hp)
 have ht2:(upd (upd H6 x (.lst (l1.map V.int))) qt (.tup (l1.map V.int))) qt=some (.tup (l1.map V.int)):=j6
 generalize upd (upd H6 x (.lst (l1.map V.int))) qt (.tup (l1.map V.int))=H7 at S2 hq2 hv2 ht2 ⊢
 clear k1 hqt t2 hx S1 hq1 hv1
 refine⟨_,rfl,_,rfl,1+r1,rfl,ql,_,rfl,SqL.of S2.hl,fun ql' hql=>?_⟩
 rw[e2]
 have pl:p≠ql':=jA S2.hp hql
 have k2:Keep H7 (upd H7 ql' (.lst (l2.map V.int))) p:=(Keep.refl _ _).new hql _
 have S3':=S2.step k2 (by rw[j9 pl]; exact S2.hp) S2.hN
 have S3:St0 H (upd H7 ql' (.lst (l2.map V.int))) p w qm ql' mays l2 N1:=⟨S3'.hp,S3'.hN,S3'.hm,S3'.rm,j6,g2,pl.symm,S3'.kp⟩
 have hne:qp≠ql':=jA hq2 hql
 have hq3:(upd H7 ql' (.lst (l2.map V.int))) qp=some (.lst vs):=by rw[j9 hne]; exact hq2
 have hv3:=hv2.mono (k2.tups S2.hp)
 have ht3:=k2.tups S2.hp _ _ ht2
 generalize upd H7 ql' (.lst (l2.map V.int))=H8 at S3 hq3 hv3 ht3 ⊢
 clear k2 S3' S2 hq2 hv2 ht2 hql
 refine⟨_,rfl,(by show 0<=sizeLine; exact bb _),fun z hz=>⟨qt,z,l1.map V.int,rfl,rfl,SqT.of ?_,SqT.of j6,_,rfl,?_⟩⟩
 ·rw[j9 (jA ht3 hz)]; exact ht3
 have pz:p≠z:=jA S3.hp hz
 have qz:qp≠z:=jA hq3 hz
 have k3:Keep H8 (upd H8 z (.tup [])) p:=(Keep.refl _ _).new hz _
 have S4:=S3.step k3 (by rw[j9 pz]; exact S3.hp) S3.hN
 have hq4:(upd H8 z (.tup [])) qp=some (.lst vs):=by rw[j9 qz]; exact hq3
 have hv4:=hv3.mono (k3.tups S3.hp)
 have ht4:=k3.tups S3.hp _ _ ht3
 generalize upd H8 z (.tup [])=H9 at S4 hq4 hv4 ht4 ⊢
 clear k3 S3 hq3 hv3 ht3 hz pz qz
 refine ite2 (fun hy=>?_) (fun hy=>?_)
 ·refine⟨_,rfl,_,rfl,p,N1,w,rfl,S4.hp,S4.hN,w1,w2,fun q N2 ts H' b1 lt b2 b3 b4=>?_⟩
  exact jGP T CT CL hr (S4.step b4 b3 b1) (b4 _ _ hq4 hpp.symm) (hv4.mono (b4.tups S4.hp)) hg b2 lt hf hn hH hne.symm hpp fun H6 N' vs' pcs' z1 z2 z3 z4 z5=>nx H6 N' vs' pcs' ql' l2 _ _ z1 hne.symm z2 z3 z4 z5
 ·have nl:l1≠ []:=fun e=>hy (am (by rw[e]; rfl))
  exact jGP T CT CL hr S4 hq4 hv4 hg ht4 ⟨g1.ris,g1.bnd,nl⟩ hf hn hH hne.symm hpp fun H6 N' vs' pcs' z1 z2 z3 z4 z5=>nx H6 N' vs' pcs' ql' l2 _ _ z1 hne.symm z2 z3 z4 z5
end
section
variable {P:Program}{w:World}{K:W.Frag}{mg:Str->Option Value}{base:Heap}
variable {f fT fL:Addr}{fdT fdL:FuncData}{cdv:Value}{A:Around}{outer:List Env}{s:Shared}{H0:Hp}{E:XK}
def Told (H:Hp)(p:Addr)(mt mp:Int)(R:VK):Prop:=∀ (b:Addr) (N' w:Int) (mays:List Int) (pcs:List (List Int×Int)) (H':Hp),0<=N'->H' p=some (.lst [.int N'])->BoxAt H' b w mays pcs->Good mt mp w mays pcs->Keep H H' p->R (.ref b) H'
theorem jGQ (T:Txt mg)(CT:Can P w K mg base "_law_take" 1 fT fdT ["pot","wide"] yL)(CL:Can P w K mg base "_law_lot" 2 fL fdL ["pot","wide"] qL)(hr:Room 2 (XBox P w K mg base f cdv A outer s H0 E).A)
  {D:Ends}{H H5:Hp}{p qm ql:Addr}{mt mp w N:Int}{mays lf:List Int}{v6 v7 v8 v9 v10:Option V}
  (S:St0 H H5 p w qm ql mays lf N) (hpH:∃ o,H p=some o) (w0:0<=w) (w1:w<=mt) (w2:mt<=16) (n0:0<=mp) (n1:mp<=32) (q:Told H p mt mp D.rt):
  (boxC T CT CL hr).1 D [some (.ref p),some (.int mt),some (.int mp),some (.int w),some (.ref qm),some (.ref ql),v6,v7,v8,v9,v10] H5:=by
 refine⟨(by show 3<=sizeLine; decide),fun l hl=>?_⟩
 have pl:p≠l:=jA S.hp hl
 refine⟨_,rfl,p,N,3,rfl,by rw[j9 pl]; exact S.hp,S.hN,by decide,by decide,fun N1 r a1 a2 a3=>?_⟩
 obtain⟨far,hfar,hf⟩:∃ far:Int,atI [V.int 1,V.int 10,V.int 2000000000001] r=some (.int far)/\(far=1\/far=10\/far=2000000000001):=by
  rcases (show r=0\/r=1\/r=2 by omega) with e | e | e
  ·subst e; exact⟨_,rfl, .inl rfl⟩
  ·subst e; exact⟨_,rfl, .inr (.inl rfl)⟩
  ·subst e; exact⟨_,rfl, .inr (.inr rfl)⟩
 refine⟨l,_,r,_,rfl,rfl,SqL.of (by rw[j9 pl.symm]; exact j6),hfar,?_⟩
 have S1:=S.step ((((Keep.refl _ _).new hl (.lst [V.int 1,V.int 10,V.int 2000000000001])).upd (.lst [.int N1]))) j6 a1
 generalize upd (upd H5 l (.lst [V.int 1,V.int 10,V.int 2000000000001])) p (.lst [.int N1])=H6 at S1 ⊢
 clear hl S
 refine⟨(by show 0<=sizeLine; exact bb _),fun qp hqp=>?_⟩
 have pq:p≠qp:=jA S1.hp hqp
 have hHq:H qp=none:=by
  cases e:H qp with
  | none=>rfl
  | some o=>
   have:=S1.kp _ _ e pq.symm
   rw[hqp] at this
   cases this
 have lq:ql≠qp:=jA S1.hl hqp
 have S2:=S1.step ((Keep.refl _ _).new hqp (.lst [])) (by rw[j9 pq]; exact S1.hp) S1.hN
 have hq2:(upd H6 qp (.lst [])) qp=some (.lst []):=j6
 generalize upd H6 qp (.lst [])=H7 at S2 hq2 ⊢
 clear hqp S1
 refine⟨_,rfl,_,rfl,_,_,rfl,rfl,p,N1,_,rfl,S2.hp,S2.hN,by omega,by omega,fun N2 n b1 b2 b3=>?_⟩
 refine⟨_,rfl,_,_,rfl,rfl, .inr ⟨_,rfl,_,_,rfl,rfl, .inl ⟨by omega,by omega⟩,_,rfl,?_⟩⟩
 have S3:=S2.step ((Keep.refl _ _).upd (.lst [.int N2])) j6 b1
 have hq3:(upd H7 p (.lst [.int N2])) qp=some (.lst []):=by rw[j9 pq.symm]; exact hq2
 generalize upd H7 p (.lst [.int N2])=H8 at S3 hq3 ⊢
 clear S2 hq2
 obtain⟨m,em,hm,hw⟩:∃ m:Int,n*(if decide (0<w)=true then 1 else 0)=m/\(0<=m/\m<=mp)/\(0<m->1<=w):=by
  by_cases h:0<w
  ·exact⟨n,by simp [h],⟨b2,by omega⟩,fun _=>h⟩
  ·exact⟨0,by simp [h],⟨by omega,n0⟩,fun z=>by omega⟩
 show _/\_/\_
 rw[show (n*(if decide (0<w)=true then 1 else 0))=m from em]
 refine⟨by omega,by omega,jAN (n:=m.toNat) (fun i σ H5=>∃ ql' lf' N' vs pcs v8 v9 v10,σ=[some (.ref p),some (.int mt),some (.int mp),some (.int w),some (.ref qm),some (.ref ql'),some (.int far),some (.ref qp),v8,v9,v10]/\St0 H H5 p w qm ql' mays lf' N'/\ql'≠qp/\H5 qp=some (.lst vs)/\PcsAt H5 vs pcs/\(∀ pc∈pcs,GoodPc w pc)/\pcs.length=i) ?_ ?_ ?_⟩
 ·exact⟨ql,lf,N2,[],[],_,_,_,rfl,S3,lq,hq3,trivial,(fun _ h=>by cases h),rfl⟩
 ·rintro i σ H9 hi ⟨ql',lf',N',vs,pcs,x8,x9,x10,rfl,S4,l4,hq4,hv4,hg4,e4⟩
  exact jN1 T CT CL hr S4 hq4 hv4 hg4 hf (by omega) hHq pq (hw (by omega)) (by omega) fun H6 N' vs' pcs' ql' lf' v9' v10' z1 z2 z3 z4 z5 z6=>⟨ql',lf',N',vs',pcs',_,_,_,rfl,z1,z2,z3,z4,z5,by omega⟩
 ·rintro σ H9 ⟨ql',lf',N',vs,pcs,x8,x9,x10,rfl,S4,l4,hq4,hv4,hg4,e4⟩
  refine⟨_,rfl,_,rfl,_,rfl,qp,vs,rfl, .inl ⟨SqL.of hq4,fun tq htq=>⟨(by show 3<=sizeLine; decide),fun b hb=>?_⟩⟩⟩
  have k1:Keep H9 (upd H9 tq (.tup vs)) p:=(Keep.refl _ _).new htq _
  have k2:Keep H9 (upd (upd H9 tq (.tup vs)) b (.tup [.int w, .ref qm, .ref tq])) p:=k1.new hb _
  have tb:=jA j6 hb
  have S5:=S4.step k2 (by rw[j9 (y8 hb |>.2 |> fun h=>jA S4.hp h),j9 (jA S4.hp htq)]; exact S4.hp) S4.hN
  exact q b N' w mays pcs _ S4.hN S5.hp ⟨qm,tq,vs,j6,S5.hm,by rw[j9 tb]; exact j6,hv4.mono (k2.tups S4.hp)⟩ ⟨w0,w1,S4.rm,by omega,hg4⟩ S5.kp
end
section
variable {P:Program}{w:World}{K:W.Frag}{mg:Str->Option Value}{base:Heap}
section
variable {f fT fL:Addr}{fdT fdL:FuncData}{cdv:Value}{A:Around}{outer:List Env}{s:Shared}{H0:Hp}{E:XK}
theorem jGR (T:Txt mg)(CT:Can P w K mg base "_law_take" 1 fT fdT ["pot","wide"] yL)(CL:Can P w K mg base "_law_lot" 2 fL fdL ["pot","wide"] qL)(hr:Room 2 (XBox P w K mg base f cdv A outer s H0 E).A)
  {D:Ends}{H H5:Hp}{p qm:Addr}{mt mp w N:Int}{mays:List Int}{v5 v6 v7 v8 v9 v10:Option V}
  (hp:H5 p=some (.lst [.int N])) (hN:0<=N) (hm:H5 qm=some (.tup (mays.map V.int))) (rm:Ris w mays) (kp:Keep H H5 p) (hpH:∃ o,H p=some o) (w0:0<=w) (w1:w<=mt) (w2:mt<=16) (n0:0<=mp) (n1:mp<=32) (q:Told H p mt mp D.rt):
  (boxB T CT CL hr).1 D [some (.ref p),some (.int mt),some (.int mp),some (.int w),some (.ref qm),v5,v6,v7,v8,v9,v10] H5:=by
 refine⟨_,rfl,w,rfl,fun x hx=>⟨x,w,rfl,j6,w0,by omega,fun ql hql=>?_⟩⟩
 rw[jM5]
 have px:p≠x:=jA hp hx
 have pl:p≠ql:=jA hp (y8 hql).2
 have k1:Keep H5 (upd (upd H5 x (.rng 0 w)) ql (.lst ((upto w.toNat).map V.int))) p:=((Keep.refl _ _).new hx _).new hql _
 have e:((w.toNat:Nat):Int)=w:=by omega
 have rl:Ris w (upto w.toNat):=by
  have:=jB6 w.toNat
  rw[e] at this
  exact this
 have S:St0 H (upd (upd H5 x (.rng 0 w)) ql (.lst ((upto w.toNat).map V.int))) p w qm ql mays (upto w.toNat) N:=
  ⟨by rw[j9 pl,j9 px]; exact hp,hN,k1 qm _ hm (ne_of hm hp (by intro z; cases z)),rm,j6,rl,pl.symm,kp.trans k1⟩
 generalize upd (upd H5 x (.rng 0 w)) ql (.lst ((upto w.toNat).map V.int))=H6 at S ⊢
 clear k1 hql hx hp hm kp
 refine⟨_,rfl,p,N,3,rfl,S.hp,S.hN,by decide,by decide,fun N1 r a1 a2 a3=>⟨rfl,_,rfl,?_⟩⟩
 have S1:=S.step ((Keep.refl _ _).upd (.lst [.int N1])) j6 a1
 generalize upd H6 p (.lst [.int N1])=H7 at S1 ⊢
 clear S
 refine ite2 (fun hy=>?_) (fun hy=>?_)
 ·refine⟨(by show 0<=sizeLine; exact bb _),fun l hl=>?_⟩
  have pl2:p≠l:=jA S1.hp hl
  have S2:=S1.step ((Keep.refl _ _).new hl (.lst [])) (by rw[j9 pl2]; exact S1.hp) S1.hN
  have S3:St0 H (upd H7 l (.lst [])) p w qm l mays [] N1:=⟨S2.hp,S2.hN,S2.hm,S2.rm,j6,Ris.nil w,pl2.symm,S2.kp⟩
  exact jGQ T CT CL hr S3 hpH w0 w1 w2 n0 n1 q
 ·exact jGQ T CT CL hr S1 hpH w0 w1 w2 n0 n1 q
theorem jN2 (T:Txt mg)(CT:Can P w K mg base "_law_take" 1 fT fdT ["pot","wide"] yL)(CL:Can P w K mg base "_law_lot" 2 fL fdL ["pot","wide"] qL)(hr:Room 2 (XBox P w K mg base f cdv A outer s H0 E).A)
  {D:Ends}{H:Hp}{p:Addr}{mt mp N:Int}
  (hp:H p=some (.lst [.int N])) (hN:0<=N) (w0:0<=mt) (w2:mt<=16) (n0:0<=mp) (n1:mp<=32) (q:Told H p mt mp D.rt):
  (boxA T CT CL hr).1 D [some (.ref p),some (.int mt),some (.int mp),none,none,none,none,none,none,none,none] H:=by
 refine⟨_,rfl,_,rfl,_,_,rfl,rfl,p,N,_,rfl,hp,hN,by omega,by omega,fun N1 w a1 a2 a3=>?_⟩
 refine⟨(by show 0<=sizeLine; exact bb _),fun t ht=>?_⟩
 have pt:p≠t:=(y8 ht).1.symm
 refine⟨_,rfl,p,N1,3,rfl,by rw[j9 pt]; exact j6,a1,by decide,by decide,fun N2 r b1 b2 b3=>⟨rfl,_,rfl,?_⟩⟩
 have k1:Keep H (upd (upd (upd H p (.lst [.int N1])) t (.tup [])) p (.lst [.int N2])) p:=(((Keep.refl _ _).upd _).new ht _).upd _
 have hp1:(upd (upd (upd H p (.lst [.int N1])) t (.tup [])) p (.lst [.int N2])) p=some (.lst [.int N2]):=j6
 have ht1:(upd (upd (upd H p (.lst [.int N1])) t (.tup [])) p (.lst [.int N2])) t=some (.tup []):=by rw[j9 pt.symm]; exact j6
 generalize upd (upd (upd H p (.lst [.int N1])) t (.tup [])) p (.lst [.int N2])=H1 at k1 hp1 ht1 ⊢
 clear ht
 refine ite2 (fun hy=>?_) (fun hy=>?_)
 ·refine⟨_,rfl,w,rfl,by omega,by omega,jBA (n:=w.toNat) (by rw[aO]; omega) (fun D i σ' H' ys=>(∃ v,σ'=[v,some (.ref p)])/\(∃ (ms:List Int) (N':Int),ys=ms.map V.int/\ms.length<=i/\Ris i ms/\0<=N'/\H' p=some (.lst [.int N']))/\Keep H1 H' p/\H' D=some (.lst ys)/\D≠p/\H1 D=none) ?_ ?_ ?_ ?_⟩
  ·intro D hD
   have:p≠D:=jA hp1 hD
   exact⟨⟨_,rfl⟩,⟨[],N2,rfl,ak _,Ris.nil _,b1,by rw[j9 this]; exact hp1⟩,(Keep.refl _ _).new hD _,j6,this.symm,hD⟩
  ·rintro D i σ' H' ys hD hi ⟨_,⟨ms,N',rfl,e,_⟩,_,e2,_⟩
   exact⟨e2,by rw[ae]; exact e⟩
  ·rintro D i σ' H' ys hD hi ⟨⟨v,rfl⟩,⟨ms,N',rfl,e,rs,n',hp'⟩,kk,e2,dp,hn⟩
   refine⟨_,rfl,p,N',3,rfl,hp',n',by decide,by decide,fun N3 r3 c1 c2 c3=>⟨rfl,_,rfl,?_⟩⟩
   have k2:Keep H1 (upd H' p (.lst [.int N3])) p:=kk.upd _
   have e3:(upd H' p (.lst [.int N3])) D=some (.lst (ms.map V.int)):=by rw[j9 dp]; exact e2
   have hp3:(upd H' p (.lst [.int N3])) p=some (.lst [.int N3]):=j6
   generalize upd H' p (.lst [.int N3])=H'' at k2 e3 hp3 ⊢
   refine ite2 (fun hz=>?_) (fun hz=>?_)
   ·refine⟨_,rfl,e3,⟨_,rfl⟩,⟨ms++[(i:Int)],N3,?_,?_,rs.snoc,c1,by rw[j9 dp.symm]; exact hp3⟩,k2.updNew hn _,j6,dp,hn⟩
    ·rw[aR]
     show _++[V.int (0+(i:Int))]=_++[V.int (i:Int)]
     rw[im]
    ·rw[aE]
     show ms.length+1<=i+1
     omega
   ·exact⟨⟨_,rfl⟩,⟨ms,N3,rfl,by omega,rs.step,c1,hp3⟩,k2,e3,dp,hn⟩
  ·rintro D σ' H' ys hD ⟨_,⟨ms,N',rfl,e,rs,n',hp'⟩,kk,e2,dp,hn⟩
   refine⟨D,_,rfl, .inl ⟨SqL.of e2,fun qm hqm=>?_⟩⟩
   have pm:p≠qm:=jA hp' hqm
   have e':((w.toNat:Nat):Int)=w:=by omega
   rw[e'] at rs
   exact jGR T CT CL hr (by rw[j9 pm]; exact hp') n' j6 rs ((k1.trans kk).new hqm _) ⟨_,hp⟩ a2 (by omega) w2 n0 n1 q
 ·exact jGR T CT CL hr hp1 b1 (mays:=[]) ht1 (Ris.nil w) k1 ⟨_,hp⟩ a2 (by omega) w2 n0 n1 q
end
theorem jTP {f fT fL:Addr}{fd fdT fdL:FuncData}(F:Fun K "_law_box" "_law_box" sBox f fd)(T:Txt mg)(CT:Can P w K mg base "_law_take" 1 fT fdT ["pot","wide"] yL)(CL:Can P w K mg base "_law_lot" 2 fL fdL ["pot","wide"] qL):
  FnOk P w K mg base CX0 3 f fd ["pot","most_things","most_pieces"] spBox:=by
 refine F.ok scBox (fun vs H Q E h=>?_) (fun cdv A outer s H vs Q E hr h=>?_)
 ·obtain⟨_,_,_,_,rfl,_⟩:=h
  rfl
 ·obtain⟨p,N,mt,mp,rfl,hp,hN,m0,m1,n0,n1,q⟩:=h
  exact⟨_,(boxA T CT CL hr).2.h,jN2 T CT CL hr hp hN m0 m1 n0 n1 q⟩
end
inductive Ob where
 | int (i:Int)
 | oth
 | tup (os:List Ob)
def OthAt (H:Hp)(v:V):Prop:=v= .non\/(∃ b,v= .bl b)\/(∃ x,v= .str x)\/∃ a,v= .ref a/\((∃ xs,H a=some (.lst xs))\/∃ kvs,H a=some (.dK kvs))
mutual
def At (H:Hp):Ob->V->Prop
 | .int i,v=>v= .int i
 | .oth,v=>OthAt H v
 | .tup os,v=>∃ a vs,v= .ref a/\H a=some (.tup vs)/\vs.length<=100/\Ats H os vs
def Ats (H:Hp):List Ob->List V->Prop
 | [],vs=>vs=[]
 | o::os,vs=>∃ v r,vs=v::r/\At H o v/\Ats H os r
end
structure Kp (H H':Hp):Prop where
 t:Tups H H'
 l:∀ a xs,H a=some (.lst xs)->∃ ys,H' a=some (.lst ys)
 d:∀ a xs,H a=some (.dK xs)->∃ ys,H' a=some (.dK ys)
theorem Kp.of {H H':Hp}(e:Ext H H'):Kp H H':=⟨fun b xs h=>e b _ h,fun a xs h=>⟨xs,e a _ h⟩,fun a xs h=>⟨xs,e a _ h⟩⟩
theorem OthAt.mono {H H':Hp}(k:Kp H H'){v:V}(h:OthAt H v):OthAt H' v:=by
 rcases h with h | h | h | ⟨a,rfl,⟨xs,h⟩ | ⟨xs,h⟩⟩
 ·exact .inl h
 ·exact .inr (.inl h)
 ·exact .inr (.inr (.inl h))
 ·exact .inr (.inr (.inr ⟨a,rfl, .inl (k.l _ _ h)⟩))
 ·exact .inr (.inr (.inr ⟨a,rfl, .inr (k.d _ _ h)⟩))
mutual
theorem At.mono {H H':Hp}(k:Kp H H'):∀ (o:Ob) (v:V),At H o v->At H' o v
 | .int _,_,h=>h
 | .oth,_,h=>OthAt.mono k h
 | .tup os,_,⟨a,vs,e,h,n,r⟩=>⟨a,vs,e,k.t _ _ h,n,Ats.mono k os vs r⟩
theorem Ats.mono {H H':Hp}(k:Kp H H'):∀ (os:List Ob) (vs:List V),Ats H os vs->Ats H' os vs
 | [],_,h=>h
 | o::os,_,⟨v,r,e,h,t⟩=>⟨v,r,e,At.mono k o v h,Ats.mono k os r t⟩
end
theorem At.ext {H H':Hp}(e:Ext H H'){o:Ob}{v:V}(h:At H o v):At H' o v:=At.mono (.of e) o v h
theorem Ats.len {H:Hp} :∀ {os:List Ob}{vs:List V},Ats H os vs->vs.length=os.length
 | [],_,h=>by cases (show _=[] from h); rfl
 | o::os,_,⟨v,r,e,h,t⟩=>by rw[e,aK,aK,Ats.len t]
theorem Ats.get {H:Hp} :∀ {os:List Ob}{vs:List V},Ats H os vs->∀ {i:Nat}{v:V},vs[i]?=some v->∃ o,os[i]?=some o/\At H o v
 | [],_,h,i,v,e=>by cases (show _=[] from h); cases e
 | o::os,_,⟨v,r,e,h,t⟩,0,v',e'=>by subst e; cases e'; exact⟨o,rfl,h⟩
 | o::os,_,⟨v,r,e,h,t⟩,i+1,v',e'=>by subst e; exact Ats.get t (i:=i) e'
theorem Ats.ints {H:Hp} :∀ (l:List Int),Ats H (l.map Ob.int) (l.map V.int)
 | []=>rfl
 | i::r=>⟨.int i,_,rfl,rfl,Ats.ints r⟩
def isInt:Ob->Bool
 | .int _=>true
 | _=>false
def isTup:Ob->Bool
 | .tup _=>true
 | _=>false
def upB (lo hi:Int):Ob->Bool
 | .int i=>decide (lo<=i)&&decide (i<=hi)
 | _=>false
def val:Ob->Int
 | .int i=>i
 | _=>0
def adj (is:List Int):List Bool:=(List.range (is.length - 1)).map fun k=>decide (is.getD k 0<is.getD (k+1) 0)
noncomputable def risB:Ob->Bool
 | .tup os=>os.all isInt&&(adj (os.map val)).all id
 | _=>false
noncomputable def lotB (w:Int):Ob->Bool
 | .tup os=>os.all (upB 0 (w - 1))&&(adj (os.map val)).all id
 | _=>false
def lotB' (w:Int)(o:Ob):Bool:=risB o&&match o with
 | .tup os=>decide (os=[]) || (decide (0<=(os.map val).getD 0 0)&&decide ((os.map val).getLastD 0<w))
 | _=>false
theorem jSE {is:List Int}(h:(adj is).all id=true){k:Nat}(hk:k+1<is.length):is.getD k 0<is.getD (k+1) 0:=by
 rw[bi] at h
 exact aJ (h _ (aW.mpr ⟨k,bY.mpr (by omega),rfl⟩))
theorem jN9 {is:List Int}(h:(adj is).all id=true):∀ (j k:Nat),j<=k->k<is.length->is.getD j 0<=is.getD k 0
 | j,0,h1,_=>by
  have:j=0:=by omega
  subst this
  exact cY _
 | j,k+1,h1,h2=>by
  rcases eB k j with q | q
  ·have:j=k+1:=by omega
   subst this
   exact cY _
  ·have a:=jN9 h j k q (by omega)
   have b:=jSE h h2
   omega
theorem jTU (w:Int)(o:Ob):lotB' w o=lotB w o:=by
 cases o with
 | int i=>rfl
 | oth=>rfl
 | tup os=>
  rw[bZ]
  unfold lotB' risB lotB
  simp only [bF,Bool.or_eq_true,gM]
  constructor
  ·rintro ⟨⟨a,b⟩,c⟩
   refine⟨?_,b⟩
   rw[bi] at a ⊢
   intro x hx
   obtain⟨j,hj,rfl⟩:=eJ hx
   have hi:=a _ hx
   have e:os≠ []:=fun e=>by subst e; cases hx
   obtain⟨c1,c2⟩:=c.resolve_left e
   have hl:(os.map val).length=os.length:=ae _
   have g:(os.map val).getD j 0=val os[j]:=by
    rw[aA,aI]
    simp [hj]
   have l1:=jN9 b 0 j (by omega) (by omega)
   have l2:=jN9 b j (os.length - 1) (by omega) (by omega)
   have l3:(os.map val).getLastD 0=(os.map val).getD (os.length - 1) 0:=by
    rw[eF,eG,aA,hl]
   rw[g] at l1 l2
   rw[l3] at c2
   cases e2:os[j] with
   | int i=>
    rw[e2] at l1 l2
    simp only [val] at l1 l2
    simp only [upB,bF,gM]
    omega
   | oth=>rw[e2] at hi; cases hi
   | tup r=>rw[e2] at hi; cases hi
  ·rintro ⟨a,b⟩
   rw[bi] at a
   refine⟨⟨?_,b⟩,?_⟩
   ·rw[bi]
    intro x hx
    have:=a x hx
    cases x with
    | int i=>rfl
    | oth=>cases this
    | tup r=>cases this
   ·by_cases e:os=[]
    ·exact .inl e
    ·refine .inr ?_
     have key:∀ j,j<os.length->0<=(os.map val).getD j 0/\(os.map val).getD j 0<w:=fun j hj=>by
      have g:(os.map val).getD j 0=val os[j]:=by
       rw[aA,aI]
       simp [hj]
      have:=a os[j] (dI hj)
      rw[g]
      cases e2:os[j] with
      | int i=>
       rw[e2] at this
       simp only [upB,bF,gM] at this
       simp only [val]
       omega
      | oth=>rw[e2] at this; cases this
      | tup r=>rw[e2] at this; cases this
     have hpos:0<os.length:=by
      cases os with
      | nil=>exact absurd rfl e
      | cons _ _=>simp
     have l3:(os.map val).getLastD 0=(os.map val).getD (os.length - 1) 0:=by
      rw[eF,eG,aA,ae]
     rw[l3]
     exact⟨(key 0 hpos).1,(key (os.length - 1) (by omega)).2⟩
theorem Ats.allInt {H:Hp} :∀ {os:List Ob}{vs:List V},Ats H os vs->os.all isInt=true->vs=(os.map val).map V.int
 | [],_,h,_=>by cases (show _=[] from h); rfl
 | o::os,_,⟨v,r,e,h,t⟩,ha=>by
  rw[dn,bF] at ha
  subst e
  rw[aY,aY,<- Ats.allInt t ha.2]
  cases o with
  | int i=>cases (show v= .int i from h); rfl
  | oth=>cases ha.1
  | tup _=>cases ha.1
theorem jUI (l:List Ob)(F:Ob->Bool):(l.map F).all id=l.all F:=by
 rw[h9]
 rfl
theorem jN8 (is:List Int):(adj is).length=is.length - 1:=by
 unfold adj
 rw[ae,de]
theorem jUJ {is:List Int}{k:Nat}(h:k<is.length - 1):(adj is)[k]?=some (decide (is.getD k 0<is.getD (k+1) 0)):=by
 unfold adj
 rw[aI,gi h]
 rfl
theorem jJA {is:List Int}{k:Nat}(h:k<is.length - 1):(adj is).take (k+1)=(adj is).take k++[decide (is.getD k 0<is.getD (k+1) 0)]:=by
 rw[bh,jUJ h]
 rfl
theorem getI {is:List Int}{k:Nat}(h:k<is.length):(is.map V.int)[k]?=some (.int (is.getD k 0)):=by
 rw[aI,aA]
 simp [h]
theorem At.ty (K:W.Frag){H:Hp}{o:Ob}{v:V}(h:At H o v):∃ t,TyOf K H v t/\kitOne K t (.type "tuple")=some (isTup o)/\∃ b1 b2,kitOne K t (.type "int")=some b1/\kitOne K t (.type "bool")=some b2/\(b1&&!b2)=isInt o:=by
 cases o with
 | int i=>
  cases (show v= .int i from h)
  exact⟨_, .int i,rfl,true,false,rfl,rfl,rfl⟩
 | oth=>
  rcases (show OthAt H v from h) with rfl | ⟨b,rfl⟩ | ⟨x,rfl⟩ | ⟨a,rfl,⟨xs,e⟩ | ⟨xs,e⟩⟩
  ·exact⟨_, .non,rfl,false,false,rfl,rfl,rfl⟩
  ·exact⟨_, .bl b,rfl,true,true,rfl,rfl,rfl⟩
  ·exact⟨_, .str x,rfl,false,false,rfl,rfl,rfl⟩
  ·exact⟨_, .lst e,rfl,false,false,rfl,rfl,rfl⟩
  ·exact⟨_, .dK e,rfl,false,false,rfl,rfl,rfl⟩
 | tup os=>
  obtain⟨a,vs,rfl,e,_⟩:=h
  exact⟨_, .tup e,rfl,false,false,rfl,rfl,rfl⟩
theorem At.tupOf {H:Hp}{o:Ob}{v:V}(h:At H o v)(t:isTup o=true):∃ os a vs,o= .tup os/\v= .ref a/\H a=some (.tup vs)/\vs.length<=100/\Ats H os vs:=by
 cases o with
 | int i=>cases t
 | oth=>cases t
 | tup os=>
  obtain⟨a,vs,e1,e2,e4,e3⟩:=h
  exact⟨os,a,vs,rfl,e1,e2,e4,e3⟩
theorem jMN {K:W.Frag}{m:List (Option Nat)}{g:TG}{tt:TT}{te:TE}{σ:St}{H1:Hp}{Q:VK}{a:Addr}{xs:List V}{os:List Ob}{F:Ob->Bool}(ha:H1 a=some (.tup xs))(hx:Ats H1 os xs)(hn:xs.length<sizeLine)(σP:St->Prop)(h0:σP (blkσ m σ))
  (step:∀ (σ':St) (H':Hp) (v:V) (o:Ob) (R:St->V->Hp->Prop) (S:St->Hp->Prop),σP σ'->Ext H1 H'->At H' o v->(∀ σ2 H'',σP σ2->Ext H' H''->R σ2 (.bl (F o)) H'')->g v σ' H' fun σ2 H2=>tt σ2 H2 fun b H3=>if b=true then te σ2 H3 (R σ2) else S σ2 H3)
  (hd:∀ D H',Ext H1 H'->H' D=some (.lst ((os.map F).map V.bl))->Q (.ref D) H'):qQ m g tt te σ Q (Itt K a) H1:=by
 have hl:=hx.len
 refine jDE (xs:=xs) hn (fun D i σ' H' zs=>σP σ'/\Ext H1 H'/\H' D=some (.lst zs)/\H1 D=none/\zs=((os.take i).map F).map V.bl) ?_ ?_ ?_ ?_
 ·intro D hD
  exact⟨h0,(Ext.refl _).new hD _,j6,hD,rfl⟩
 ·rintro D i σ' H' zs hD ⟨_,e,h2,_,rfl⟩
  refine⟨e _ _ ha,h2,?_⟩
  rw[ae,ae,be]
  omega
 ·rintro D i σ' H' zs x hD hi ⟨p,e,h2,hn,rfl⟩
  obtain⟨o,ho,hAt⟩:=hx.get hi
  refine step σ' H' x o _ _ p e (hAt.ext e) fun σ2 H'' p2 e2=>⟨e2 _ _ h2,p2,(e.trans e2).updNew hn _,j6,hn,?_⟩
  have:os.take (i+1)=os.take i++[o]:=by
   rw[bh,ho]
   rfl
  rw[this,aR,aR]
  rfl
 ·rintro D σ' H' zs hD ⟨_,e,h2,_,rfl⟩
  rw[hl,bw] at h2
  exact hd D H' e h2
section
variable {P:Program}{w:World}{K:W.Frag}{mg:Str->Option Value}{base:Heap}
noncomputable abbrev XOf (N:List Str)(q:Str)(st:Stmt)(P:Program)(w:World)(K:W.Frag)(mg:Str->Option Value)(base:Heap)(f:Addr)(cdv:Value)(A:Around)(outer:List Env)(s:Shared)(H:Hp)(E:XK):Cx:=(cxOf CX0 P w K mg base N q (j8 st) f cdv A outer s H E).nox
variable {f fW fR:Addr}{fdW fdR:FuncData}{cdv:Value}{A:Around}{outer:List Env}{s:Shared}{H0:Hp}{E:XK}
abbrev jLB:List Str:=["thing"]
theorem scWhole0:FnScope jLB ["thing"] (j8 jAQ):=⟨rfl,rfl,rfl,by decide+kernel,rfl,by decide+kernel,by decide+kernel⟩
def spWh:Sp:=fun vs H Q _=>∃ v o,vs=[v]/\At H o v/\Q (.bl (isInt o)) H
def jPW (T:Txt mg): { t:TS // JSs (XOf jLB "is_whole" jAQ P w K mg base f cdv A outer s H0 E) (jC jAQ) t} :=
 have nd:=scWhole0.nd
 ⟨_,(jD (jH ((qD (jE jP gD T.isinstance (by decide+kernel) (j4 (jv 0 rfl vL) (j4 (y6 (v:= .ty "int") gD T.int (by decide+kernel) rfl) j7 j3) j3) j3) (yW (jPJ (jE jP gD T.isinstance (by decide+kernel) (j4 (jv 0 rfl vL) (j4 (y6 (v:= .ty "bool") gD T.bool (by decide+kernel) rfl) j7 j3) j3) j3)))))))⟩
theorem jL3 {fd:FuncData}(F:Fun K "is_whole" "is_whole" jAQ f fd)(T:Txt mg):FnOk P w K mg base CX0 1 f fd ["thing"] spWh:=by
 refine F.ok scWhole0 (fun vs H Q E h=>?_) (fun cdv A outer s H vs Q E hr h=>?_)
 ·obtain⟨_,_,rfl,_⟩:=h
  rfl
 ·obtain⟨v,o,rfl,hA,q⟩:=h
  obtain⟨t,ty,_,b1,b2,k1,k2,e⟩:=hA.ty K
  refine⟨_,(jPW T).2.h,?_⟩
  refine⟨_,rfl,_,_,_,b1,rfl,ty,k1,b1,rfl,?_⟩
  rw[<- e] at q
  cases b1 with
  | true=>exact iteT ⟨_,rfl,_,_,_,b2,rfl,ty,k2,b2,rfl,q⟩
  | false=>exact iteF q
abbrev jDT:List Str:=["thing"]
theorem scRising:FnScope jDT ["thing"] (j8 yE):=⟨rfl,rfl,rfl,by decide+kernel,rfl,by decide+kernel,by decide+kernel⟩
def spB (F:Ob->Bool):Sp:=fun vs H Q _=>∃ v o,vs=[v]/\At H o v/\∀ H',Ext H H'->Q (.bl (F o)) H'
def jQ7 (T:Txt mg)(CW:Can P w K mg base "is_whole" 1 fW fdW ["thing"] spWh)(hr:Room 1 (XOf jDT "is_rising" yE P w K mg base f cdv A outer s H0 E).A): { t:TS // JSs (XOf jDT "is_rising" yE P w K mg base f cdv A outer s H0 E) (jC yE) t} :=
 have nd:=scRising.nd
 ⟨_,(jB (kT (yX (yN (jE jP gD T.isinstance (by decide+kernel) (j4 (jv 0 rfl vC) (j4 (y6 (v:= .ty "tuple") gD T.tuple (by decide+kernel) rfl) j7 j3) j3) j3) kY)) (jD (jH (je_bl))) jR)
   (jB (kT (yX (yN (jE (jAO rfl) gD T.all (by decide+kernel) (j4 (kZ (m:=[none]) (Nc:=["number"]) rfl (jD0 (jv 0 rfl vC)) rfl (by decide+kernel) (by decide+kernel) (kS (psc:=j8 yE) (by decide+kernel)) (jS (N:=jDT) rfl rfl (by decide+kernel)) (fun cl C fp s H=>jW (i:=0) (show (["number"]:List Str).Nodup by decide+kernel) rfl (qJ (by decide+kernel))) (fun cl C fp s H=>yJ) (fun cl C fp s H=>(CW.je hr (gl_b (by decide+kernel)) (j4 (jv 0 rfl (kD (by decide+kernel))) j7 j3) j3)) jAV) j7 jV) jV) kY)) (jD (jH (je_bl))) jR)
   (jD (jH (jE (jAO rfl) gD T.all (by decide+kernel) (j4 (kZ (m:=[none,some 0]) (Nc:=["k","thing"]) rfl (jLV gD T.range (j4 (je_int) (j4 (jE jU gD T.len (by decide+kernel) (j4 (jv 0 rfl vC) j7 j3) j3) j7 jJ) jO) jO jJ) rfl (by decide+kernel) (by decide+kernel) (kS (psc:=j8 yE) (by decide+kernel)) (jS (N:=jDT) rfl rfl (by decide+kernel)) (fun cl C fp s H=>jW (i:=0) (show (["k","thing"]:List Str).Nodup by decide+kernel) rfl (qJ (by decide+kernel))) (fun cl C fp s H=>yJ) (fun cl C fp s H=>(kP op_lt (kB jAD (jv 1 rfl (yC (by decide+kernel))) (kJ jBX (jv 0 rfl (kD (by decide+kernel))) (je_int)) jG2) (kB jAD (jv 1 rfl (yC (by decide+kernel))) (jv 0 rfl (kD (by decide+kernel))) yG) (jG _))) kN) j7 jV) jV)))))⟩
theorem jL4 {fd:FuncData}(F:Fun K "is_rising" "is_rising" yE f fd)(T:Txt mg)(CW:Can P w K mg base "is_whole" 1 fW fdW ["thing"] spWh):FnOk P w K mg base CX0 2 f fd ["thing"] (spB risB):=by
 refine F.ok scRising (fun vs H Q E h=>?_) (fun cdv A outer s H vs Q E hr h=>?_)
 ·obtain⟨_,_,rfl,_⟩:=h
  rfl
 ·obtain⟨v,o,rfl,hA,q⟩:=h
  obtain⟨t,ty,kt,_⟩:=hA.ty K
  refine⟨_,(jQ7 T CW hr).2.h,?_⟩
  refine⟨_,rfl,_,_,_,_,rfl,ty,kt,_,rfl,?_⟩
  cases ht:isTup o with
  | false=>
   refine iteT ?_
   have:risB o=false:=by cases o <;> first | rfl | cases ht
   rw[<- this]
   exact q H (Ext.refl H)
  | true=>
   refine iteF ?_
   obtain⟨os,a,vs,rfl,rfl,ha,h100,hx⟩:=hA.tupOf ht
   have hl:=hx.len
   have hn:vs.length<sizeLine:=by rw[aO]; omega
   ·refine⟨_,rfl,a,rfl,⟨_,SqT.of ha⟩,jMN (F:=isInt) ha hx hn (fun σ'=>∃ v,σ'=[v]) ⟨_,rfl⟩ ?_ ?_⟩
    ·rintro σ' H' v o R S ⟨u,rfl⟩ e hA k
     dsimp only [yA,yY]
     rw[aj rfl]
     exact⟨_,rfl,v,o,rfl,hA,k _ H' ⟨_,rfl⟩ (Ext.refl _)⟩
    ·intro D H1 e1 hD
     refine⟨D,_,rfl,SqL.of hD,_,rfl,?_⟩
     rw[jUI]
     cases hi:os.all isInt with
     | false=>
      refine iteT ?_
      have:risB (.tup os)=false:=by
       show (os.all isInt&&_)=false
       rw[hi]
       rfl
      rw[<- this]
      exact q H1 e1
     | true=>
      refine iteF ?_
      have hv:=hx.allInt hi
      have hN:(os.map val).length=os.length:=ae _
      refine⟨_,rfl,a,_,rfl, .inr (SqT.of (e1 _ _ ha)),1,_,rfl,⟨by decide,by decide,by omega,by rw[aO] at hn; omega⟩,jBA (n:=((vs.length:Int) - 1).toNat) (by omega) (fun D i σ' H' zs=>(∃ v,σ'=[v,some (.ref a)])/\zs=((adj (os.map val)).take i).map V.bl/\H'=upd H1 D (.lst zs)) ?_ ?_ ?_ ?_⟩
      ·intro D hD
       exact⟨⟨_,rfl⟩,rfl,rfl⟩
      ·rintro D i σ' H' zs hD hi2 ⟨_,rfl,rfl⟩
       refine⟨j6,?_⟩
       rw[ae,be]
       omega
      ·rintro D i σ' H' zs hD hi2 ⟨⟨v,rfl⟩,rfl,rfl⟩
       have hi3:i<(os.map val).length - 1:=by omega
       have ha':(upd H1 D (.lst (((adj (os.map val)).take i).map V.bl))) a=some (.tup ((os.map val).map V.int)):=by
        rw[j9 (jA (e1 _ _ ha) hD),e1 _ _ ha,hv]
       dsimp only [yA,yY]
       rw[aj rfl]
       have e0:(1+(i:Int)) - 1=(i:Int):=by omega
       have e2:(1+(i:Int))=((i+1:Nat):Int):=by omega
       refine⟨_,rfl,_,rfl,_,_,rfl,rfl,a,_,_,_,rfl,rfl,SqT.of ha',by rw[e0]; exact yT (getI (by omega)),_,rfl,_,rfl,a,_,_,_,rfl,rfl,SqT.of ha',by rw[e2]; exact yT (getI (by omega)),_,_,rfl,rfl,j6,⟨_,rfl⟩,?_,jBL⟩
       rw[jJA hi3,aR]
       rfl
      ·rintro D2 σ' H' zs hD2 ⟨_,rfl,rfl⟩
       have hlen:((vs.length:Int) - 1).toNat=(adj (os.map val)).length:=by rw[jN8]; omega
       rw[hlen,bw]
       refine⟨D2,_,rfl,SqL.of j6,?_⟩
       have:(adj (os.map val)).all id=risB (.tup os):=by
        show _=(os.all isInt&&(adj (os.map val)).all id)
        rw[hi,gW]
       rw[this]
       exact q _ (e1.new hD2 _)
end
end Eo
end
section
namespace L2
open PySem
theorem px_un {op:UnaryOp}{a:Expr}{pos:Pos} :jAW (.UnaryOp op a pos):=fun _ _=>rfl
theorem jSA {α:Type}{xs:List α}{v:α}(h:xs[xs.length - 1]?=some v):atI xs (-1)=some v:=by
 have hj:xs.length - 1<xs.length:=(ag.mp h).1
 have e:ixN xs.length (-1)=some (xs.length - 1):=by
  unfold ixN
  rw[ai (by omega),aj (by omega)]
  congr 1
  omega
 unfold atI
 rw[e]
 exact h
theorem qb {Q:VK}{H:Hp}{a b:Bool}(q:Q (.bl a) H)(e:a=b):Q (.bl b) H:=e ▸ q
end L2
namespace Eo
open PySem L2
section
variable {P:Program}{w:World}{K:W.Frag}{mg:Str->Option Value}{base:Heap}
variable {f fW fR fL fG fI fPs:Addr}{fdW fdR fdL fdG fdI fdPs:FuncData}{cdv:Value}{A:Around}{outer:List Env}{s:Shared}{H0:Hp}{E:XK}
abbrev jLG:List Str:=["thing","many"]
theorem scIsLot:FnScope jLG ["thing","many"] (j8 jBI):=⟨rfl,rfl,rfl,by decide+kernel,rfl,by decide+kernel,by decide+kernel⟩
def spB2 (F:Int->Ob->Bool):Sp:=fun vs H Q _=>∃ v o w,vs=[v, .int w]/\At H o v/\∀ H',Ext H H'->Q (.bl (F w o)) H'
def jU6 (T:Txt mg)(CR:Can P w K mg base "is_rising" 2 fR fdR ["thing"] (spB risB))(hr:Room 2 (XOf jLG "is_lot" jBI P w K mg base f cdv A outer s H0 E).A): { t:TS // JSs (XOf jLG "is_lot" jBI P w K mg base f cdv A outer s H0 E) (jC jBI) t} :=
 have nd:=scIsLot.nd
 ⟨_,(jB (kT (yX (yN (CR.je hr gD (j4 (jv 0 rfl vL) j7 j3) j3) kY)) (jD (jH (je_bl))) jR)
   (jD (jH ((je_or (kP yU (jE jU gD T.len (by decide+kernel) (j4 (jv 0 rfl vL) j7 j3) j3) (je_int) (jG _)) (yW ((qD (kP op_ge (kB kQ (jv 0 rfl vL) (je_int) jI) (je_int) (jG _)) (yW (kP op_lt (kB kQ (jv 0 rfl vL) (je_un jI1 (je_int)) px_un) (jv 1 rfl vL) (jG _)))))))))))⟩
theorem jO0 {fd:FuncData}(F:Fun K "is_lot" "is_lot" jBI f fd)(T:Txt mg)(CR:Can P w K mg base "is_rising" 2 fR fdR ["thing"] (spB risB)):FnOk P w K mg base CX0 3 f fd ["thing","many"] (spB2 lotB):=by
 refine F.ok scIsLot (fun vs H Q E h=>?_) (fun cdv A outer s H vs Q E hr h=>?_)
 ·obtain⟨_,_,_,rfl,_⟩:=h
  rfl
 ·obtain⟨v,o,w,rfl,hA,q⟩:=h
  refine⟨_,(jU6 T CR hr).2.h,?_⟩
  refine⟨_,rfl,v,o,rfl,hA,fun H1 e1=>⟨_,rfl,?_⟩⟩
  have eq:=jTU w o
  cases hR:risB o with
  | false=>
   refine iteT (qb (q H1 e1) ?_)
   rw[<- eq]
   unfold lotB'
   rw[hR]
   rfl
  | true=>
   refine iteF ?_
   have ht:isTup o=true:=by cases o <;> first | rfl | cases hR
   obtain⟨os,a,vs,rfl,rfl,ha,h100,hx⟩:=hA.tupOf ht
   have hl:=hx.len
   have hi:os.all isInt=true:=by
    have:(os.all isInt&&(adj (os.map val)).all id)=true:=hR
    rw[bF] at this
    exact this.1
   have hv:=hx.allInt hi
   have ha1:=e1 _ _ ha
   refine⟨_,rfl,a,_,rfl, .inr (SqT.of ha1),rfl,_,rfl,ite2 (fun hy=>?_) (fun hy=>?_)⟩
   ·have h0:=V.int.inj (aJ hy)
    have e0:os=[]:=eW.mp (by omega)
    refine qb (q H1 e1) ?_
    rw[<- eq]
    unfold lotB'
    rw[hR]
    simp [e0]
   ·have h0:0<vs.length:=Nat.pos_of_ne_zero fun h=>hy (am (by rw[h]; rfl))
    have hml:(os.map val).length=vs.length:=by rw[ae,hl]
    refine⟨_,rfl,a,_,0, .int ((os.map val).getD 0 0),rfl,rfl,SqT.of ha1,?_,_,_,rfl,rfl,_,rfl,ite2 (fun hz=>?_) (fun hz=>?_)⟩
    ·rw[hv]
     exact yT (j:=0) (getI (by omega))
    ·refine⟨_,rfl,_,rfl,a,_,_, .int ((os.map val).getLastD 0),rfl,rfl,SqT.of ha1,?_,_,rfl,_,_,rfl,rfl,qb (q H1 e1) ?_⟩
     ·show atI vs (-1)=_
      refine jSA ?_
      rw[hv,ae,getI (by omega),eF,eG,aA]
     ·rw[<- eq]
      unfold lotB'
      rw[hR]
      have e0:¬ os=[]:=fun e=>by rw[e] at hl; have:vs.length=0:=hl; omega
      have hz:=aJ hz
      simp [e0]
      intro hh
      simpa using hz
    ·refine qb (q H1 e1) ?_
     rw[<- eq]
     unfold lotB'
     rw[hR]
     have e0:¬ os=[]:=fun e=>by rw[e] at hl; have:vs.length=0:=hl; omega
     have hz:¬ (0<=(os.map val).getD 0 0):=fun h=>hz (am h)
     simp only [e0,decide_false,gS,gW,aL hz,eY]
end
end Eo
end
section
namespace L2
open PySem
section
variable {P:Program}{w:World}{K:W.Frag}{mg:Str->Option Value}{base:Heap}{N:List Str}{qual:Str}{sc:Scope}{f:Addr}{cdv:Value}{A:Around}{outer:List Env}{s:Shared}{H:Hp}{E:XK}{x y z:Str}{p1 p2 p3 pos:Pos}{k i j l:Nat}
theorem jDC (hN:N.Nodup)(hi:N[i]?=some x)(hj:N[j]?=some y)(hx:sc.names.lookup x=some .local)(hy:sc.names.lookup y=some .local):
  JG (cxOf CX0 P w K mg base N qual sc f cdv A outer s H E).nox (.Tuple [.Name x p1, .Name y p2] k pos) (gTup K 2 (gCons (yA i) (gCons (yA j) gNil))):=
 jPI (X:=(cxOf CX0 P w K mg base N qual sc f cdv A outer s H E).nox) rfl (jDB (jW hN hi (loc_l hx)) (jDB (jW hN hj (loc_l hy)) jLW jFL) jFL)
end
end L2
namespace L2
open PySem
section
variable {K:W.Frag}{m:List (Option Nat)}{g:TG}{tt:TT}{te:TE}{σ:St}{H1:Hp}{Q:VK}
end
end L2
namespace Eo
open PySem L2
theorem jM7 {α:Type}{l:List α}{i:Nat}{d:α}(h:i<l.length):l.getD i d=l[i]:=by
 rw[aA,ax h]
 rfl
theorem jAB (l:List Int):(l.map V.int).all qO=true:=by
 rw[bi]
 intro x hx
 obtain⟨i,_,rfl⟩:=aW.mp hx
 rfl
theorem jC3 (i:Int)(l:List Int):inV (.int i) (l.map V.int)=decide (i∈l):=by
 unfold inV
 rw[bZ,List.any_eq_true,bg]
 constructor
 ·rintro ⟨x,hx,e⟩
  obtain⟨j,hj,rfl⟩:=aW.mp hx
  have:j=i:=eq_of_beq e
  rw[<- this]
  exact hj
 ·intro h
  exact⟨.int i,aW.mpr ⟨i,h,rfl⟩,by simp [eqV]⟩
theorem jMM (i:Int):∀ (l:List Int),((l.map V.int).countP fun z=>eqV z (.int i))=l.count i
 | []=>rfl
 | a::r=>by
  rw[aY,ce,jMM i r,List.count_cons]
  rfl
theorem jB0:∀ (ts:List Int) (lo w:Int),ts.Pairwise (· < ·)->(∀ z∈ts,lo<=z/\z<w)->(ts.length:Int)<=max (w - lo) 0
 | [],lo,w,_,_=>by show (0:Int)<=_; omega
 | a::r,lo,w,hp,hb=>by
  have h1:=hb a aw
  have hp':=cU.mp hp
  have:=jB0 r (a+1) w hp'.2 fun z hz=>⟨by have:=hp'.1 z hz; omega,(hb z (ar _ hz)).2⟩
  rw[aK]
  omega
def j5 (pcs:List (List Int×Int))(k:Int):List Int:=(pcs.getD k.toNat ([],0)).1
theorem PcsAt.get {H:Hp} :∀ {vs:List V}{ps:List (List Int×Int)},PcsAt H vs ps->∀ {k:Nat},k<ps.length->∃ v,vs[k]?=some v/\PcAt H v (ps.getD k ([],0))
 | v::vs,p::ps,h,0,_=>⟨v,rfl,h.1⟩
 | v::vs,p::ps,h,k+1,hk=>PcsAt.get h.2 (k:=k) (by simpa using hk)
 | [],[],_,k,hk=>absurd hk (cR _)
 | [],_::_,h,_,_=>h.elim
 | _::_,[],h,_,_=>h.elim
theorem Good.at {mt mp w:Int}{ms:List Int}{pcs:List (List Int×Int)}(g:Good mt mp w ms pcs){k:Nat}(hk:k<pcs.length):GoodPc w (pcs.getD k ([],0)):=by
 have e:pcs.getD k ([],0)=pcs[k]:=by simp [List.getD,hk]
 rw[e]
 exact g.pg _ (dI hk)
theorem jNM {H:Hp}{vs:List V}{pcs:List (List Int×Int)}(h:PcsAt H vs pcs){k:Int}(h0:0<=k)(h1:k<pcs.length):∃ a q wt,atI vs k=some (.ref a)/\H a=some (.tup [.ref q, .int wt])/\H q=some (.tup ((j5 pcs k).map V.int)):=by
 obtain⟨v,hv,a,q,rfl,b1,b2⟩:=h.get (k:=k.toNat) (by omega)
 refine⟨a,q,_,?_,b1,b2⟩
 have e:((k.toNat:Nat):Int)=k:=by omega
 have:=yT hv
 rw[e] at this
 exact this
theorem jDJ {n i:Nat}(h:i<n):(upto n).take (i+1)=(upto n).take i++[(i:Int)]:=by
 unfold upto
 rw[<- iX,<- iX,List.take_range,List.take_range,show min (i+1) n=i+1 by omega,show min i n=i by omega,iw,aR]
 rfl
theorem jA8 (n:Nat):(upto n).length=n:=by
 unfold upto
 rw[ae,de]
theorem jAC {n i:Nat}(h:i<n):(upto n)[i]?=some (i:Int):=by
 unfold upto
 rw[aI,gi h]
 rfl
theorem jUG {H:Hp}{a:Addr}{vs:List V}{os:List Ob}(h:H a=some (.tup vs))(n:vs.length<=100)(r:Ats H os vs):At H (.tup os) (.ref a):=⟨a,vs,rfl,h,n,r⟩
theorem iteT' {A B:Prop}{c:Bool}(hc:c=true)(h:A):if c=true then A else B:=by
 rw[aj hc]
 exact h
theorem _root_.L2.Ext.tups {H H':Hp}(e:Ext H H'):Tups H H':=fun b xs h=>e b _ h
theorem PcsAt.at {H:Hp} :∀ {vs:List V}{ps:List (List Int×Int)},PcsAt H vs ps->∀ {i:Nat}{v:V},vs[i]?=some v->∃ pc,ps[i]?=some pc/\PcAt H v pc
 | [],[],_,i,v,e=>by cases e
 | x::vs,p::ps,h,0,v,e=>by cases e; exact⟨p,rfl,h.1⟩
 | x::vs,p::ps,h,i+1,v,e=>PcsAt.at h.2 (i:=i) e
 | [],_::_,h,_,_,_=>h.elim
 | _::_,[],h,_,_,_=>h.elim
theorem Good.wide {mt mp w mt' mp':Int}{ms:List Int}{pcs:List (List Int×Int)}(g:Good mt mp w ms pcs)(h1:mt<=mt')(h2:mp<=mp'):Good mt' mp' w ms pcs:=⟨g.w0,cK g.w1 h1,g.mr,cK g.pl h2,g.pg⟩
theorem jL8 (n:Nat):∀ (ds:List Int),ds.Nodup->(∀ t∈ds,0<=t/\t<(n:Int))->ds.length<=n:=by
 intro ds h1 h2
 have h3:(ds.map Int.toNat).Nodup:=by
  rw[List.Nodup,bS]
  refine gX (R:=(· ≠ ·)) (fun {a b} ha hb hne e=>hne ?_) h1
  have:=h2 a ha
  have:=h2 b hb
  omega
 have h4:(ds.map Int.toNat).length<=(List.range n).length:=h3.length_le_of_subset fun x hx=>by
  obtain⟨t,ht,rfl⟩:=aW.mp hx
  have:=h2 t ht
  exact bY.mpr (by omega)
 rw[ae,de] at h4
 exact h4
theorem jM4 {H:Hp} :∀ l:List Int,TsAt H (l.map Tr.int) (l.map V.int)
 | []=>rfl
 | i::r=>⟨.int i,_,rfl,rfl,jM4 r⟩
theorem jE5:∀ l:List Int,deps (l.map Tr.int)=0
 | []=>by simp [deps]
 | i::r=>by simp [deps,dep,jE5 r]
theorem iteN {A B:Prop}{c:Bool}(hc:c=false)(h:B):if c=true then A else B:=by
 rw[hc]
 exact iteF h
abbrev leI:Int->Int->Bool:=fun a b=>decide (a<=b)
def srt (l:List Int):List Int:=l.mergeSort leI
theorem jD4 (l:List Int):(srt l).Perm l:=List.mergeSort_perm _ _
theorem jP2 (l:List Int):(srt l).Pairwise (· <= ·):=by
 have:=List.pairwise_mergeSort (le:=leI) (fun a b c h1 h2=>am (cK (aJ h1) (aJ h2))) (fun a b=>by
  rw[Bool.or_eq_true]
  rcases Int.le_total a b with h | h
  ·exact .inl (am h)
  ·exact .inr (am h)) l
 exact this.imp fun h=>aJ h
theorem jP3 {l m:List Int}(h1:m.Pairwise (· <= ·))(h2:m.Perm l):m=srt l:=
 List.Perm.eq_of_pairwise (fun a b _ _ h1 h2=>Int.le_antisymm h1 h2) h1 (jP2 l) (h2.trans (jD4 l).symm)
section
variable {P:Program}{w:World}{K:W.Frag}{mg:Str->Option Value}{base:Heap}
variable {f fM:Addr}{fdM:FuncData}{cdv:Value}{A:Around}{outer:List Env}{s:Shared}{H0:Hp}{E:XK}
noncomputable abbrev nMask:List Str:=["lot"]
theorem scMask:FnScope nMask ["lot"] (j8 sMask):=⟨rfl,rfl,rfl,by decide+kernel,rfl,by decide+kernel,by decide+kernel⟩
def jFU:Sp:=fun vs H Q _=>∃ (q:Addr) (ts:List Int),vs=[.ref q]/\H q=some (.tup (ts.map V.int))/\(∀ t∈ts,0<=t/\t<64)/\ts.length<=64/\∀ H',Ext H H'->Q (.int ((maskN ts:Nat):Int)) H'
def maskA (T:Txt mg): { t:TS // JSs (XOf nMask "mask_of" sMask P w K mg base f cdv A outer s H0 E) (jC sMask) t} :=
 have nd:=scMask.nd
 ⟨_,(jD (jH (jE (jGK rfl) gD T.sum (by decide+kernel) (j4 (kZ (m:=[none]) (Nc:=["thing"]) rfl (jD0 (jv 0 rfl vL)) rfl (by decide+kernel) (by decide+kernel) (kS (psc:=j8 sMask) (by decide+kernel)) (jS (N:=nMask) rfl rfl (by decide+kernel)) (fun cl C fp s H=>jW (i:=0) (show (["thing"]:List Str).Nodup by decide+kernel) rfl (qJ (by decide+kernel))) (fun cl C fp s H=>yJ) (fun cl C fp s H=>(kJ jII (je_int) (jv 0 rfl (kD (by decide+kernel))))) jAV) j7 jV) jV)))⟩
theorem jJP (ts:List Int)(h:∀ t∈ts,0<=t):(ts.map fun t=>(1:Int)*2 ^ t.toNat).sum=((maskN ts:Nat):Int):=by
 induction ts with
 | nil=>rfl
 | cons t r ih=>
  have e:maskN (t::r)=2 ^ t.toNat+maskN r:=by simp [maskN]
  rw[aY,iY,ih fun x hx=>h x (ar _ hx),e]
  push_cast
  omega
theorem jR8 {fd:FuncData}(F:Fun K "mask_of" "mask_of" sMask f fd)(T:Txt mg):FnOk P w K mg base CX0 1 f fd ["lot"] jFU:=by
 refine F.ok scMask (fun vs H Q E h=>?_) (fun cdv A outer s H vs Q E hr h=>?_)
 ·obtain⟨_,_,rfl,_⟩:=h
  rfl
 ·obtain⟨q,ts,rfl,hq,hb,hl,k⟩:=h
  refine⟨_,(maskA T).2.h,?_⟩
  refine⟨_,rfl,q,rfl,⟨_,SqT.of hq⟩,jDE (xs:=ts.map V.int) (by rw[ae,aO]; omega) (fun D i σ' H' zs=>(∃ v,σ'=[v])/\Ext H H'/\H' D=some (.lst zs)/\H D=none/\zs=((ts.take i).map fun t=>(1:Int)*2 ^ t.toNat).map V.int) ?_ ?_ ?_ ?_⟩
  ·intro D hD
   exact⟨⟨_,rfl⟩,(Ext.refl _).new hD _,j6,hD,rfl⟩
  ·rintro D i σ' H' zs hD ⟨_,e,h2,_,rfl⟩
   refine⟨e _ _ hq,h2,?_⟩
   rw[ae,ae,be]
   omega
  ·rintro D i σ' H' zs x hD hx ⟨⟨v,rfl⟩,e,h2,hn,rfl⟩
   obtain⟨z,hz,rfl⟩:∃ z:Int,ts[i]?=some z/\V.int z=x:=by
    rw[aI] at hx
    cases hq:ts[i]? with
    | none=>rw[hq] at hx; cases hx
    | some z=>rw[hq] at hx; cases hx; exact⟨z,rfl,rfl⟩
   have hzb:=hb z (ao hz)
   dsimp only [yA,yY]
   rw[aj rfl]
   refine⟨_,rfl,_,_,rfl,rfl,⟨?_,?_,?_⟩,h2,⟨_,rfl⟩,e.updNew hn _,j6,hn,?_⟩
   ·first | omega | decide
   ·first | omega | decide
   ·first | omega | decide
   ·have:ts.take (i+1)=ts.take i++[z]:=by
     rw[bh,hz]
     rfl
    rw[this,aR,aR]
    rfl
  ·rintro D σ' H' zs hD ⟨_,e,h2,hn,rfl⟩
   refine⟨D,_,rfl,SqL.of h2,?_⟩
   rw[ae,bw,jJP ts fun t ht=>(hb t ht).1]
   exact k H' e
end
end Eo
end
section
namespace L2
open PySem
theorem jPK {X:Cx}{a b c:Expr}{pos:Pos}{ta tb:TE}{tc:TT}(hc:JT X c tc)(ha:JE X a ta)(hb:JE X b tb):JE X (.IfExp c a b pos) (tIf tc ta tb):=⟨jNQ hc.h ha.h hb.h⟩
end L2
namespace Eo
open PySem L2
def PrAt (H:Hp)(v:V)(c:Int×Nat):Prop:=∃ q,v= .ref q/\H q=some (.tup [.int c.1, .int ((c.2:Nat):Int)])
theorem PrAt.mono {H H':Hp}(t:Tups H H'){v:V}{c:Int×Nat}(h:PrAt H v c):PrAt H' v c:=let ⟨q,e,z⟩:=h; ⟨q,e,t _ _ z⟩
def RowAt (H:Hp)(l:Addr)(cs:List (Int×Nat)):Prop:=∃ vs,H l=some (.lst vs)/\All2 (PrAt H) vs cs
structure ChAt (H:Hp)(L:Addr)(ch:Ch):Prop where
 ex:∃ ls:List Addr,H L=some (.lst (ls.map V.ref))/\ls.Nodup/\All2 (RowAt H) ls ch
theorem RowAt.keep {H H':Hp}{l:Addr}{cs:List (Int×Nat)}(h:RowAt H l cs)(k:∀ xs,H l=some (.lst xs)->H' l=some (.lst xs))(t:Tups H H'):RowAt H' l cs:=let ⟨vs,a,b⟩:=h; ⟨vs,k _ a,b.imp fun _ _=>PrAt.mono t⟩
theorem ChAt.keep {H H':Hp}{L:Addr}{ch:Ch}(h:ChAt H L ch)(k:∀ b xs,H b=some (.lst xs)->H' b=some (.lst xs))(t:Tups H H'):ChAt H' L ch:=by
 obtain⟨ls,a,b,c⟩:=h.ex
 exact⟨ls,k _ _ a,b,c.imp fun l cs r=>r.keep (k l) t⟩
theorem ChAt.ext {H H':Hp}{L:Addr}{ch:Ch}(h:ChAt H L ch)(e:Ext H H'):ChAt H' L ch:=h.keep (fun b xs z=>e _ _ z) e.tups
theorem ChAt.len {H:Hp}{L:Addr}{ch:Ch}(h:ChAt H L ch):∃ ls:List Addr,H L=some (.lst (ls.map V.ref))/\ls.length=ch.length:=by
 obtain⟨ls,a,b,c⟩:=h.ex
 exact⟨ls,a,c.len⟩
def yS (ms:List Int)(pcs:List (List Int×Int))(n t:Nat):List (Int×Nat):=
 (if (t:Int)∈ms then [(-1,2 ^ t)] else [])++(((upto pcs.length).take n).filter fun k=>decide ((j5 pcs k).headD 0=(t:Int))).map fun k=>(k,maskN (j5 pcs k))
def chsN (w:Nat)(ms:List Int)(pcs:List (List Int×Int))(n:Nat):Ch:=(List.range w).map (yS ms pcs n)
def chs (w:Nat)(ms:List Int)(pcs:List (List Int×Int)):Ch:=chsN w ms pcs pcs.length
theorem kW (w:Nat)(ms:List Int)(pcs:List (List Int×Int))(n:Nat):(chsN w ms pcs n).length=w:=by
 unfold chsN
 rw[ae,de]
theorem jA9 {w:Nat}{ms:List Int}{pcs:List (List Int×Int)}{n t:Nat}(h:t<w):(chsN w ms pcs n)[t]?=some (yS ms pcs n t):=by
 unfold chsN
 rw[aI,gi h]
 rfl
theorem jGB {ts:List Int}{t:Nat}(hp:ts.Pairwise (· < ·))(h0:∀ x∈ts,0<=x)(h:(t:Int)∈ts):(maskN ts).testBit t=true:=by
 rw[jBZ ts t hp h0,am h]
theorem jHJ {ts:List Int}{w:Nat}(hp:ts.Pairwise (· < ·))(h0:∀ x∈ts,0<=x/\x<(w:Int)):maskN ts<2 ^ w:=by
 refine Nat.lt_pow_two_of_testBit _ fun i hi=>?_
 rw[jBZ ts i hp fun x hx=>(h0 x hx).1,aL]
 intro z
 have:=(h0 _ z).2
 omega
theorem jIY {l:List Int}(h:l≠ []):l.headD 0∈l:=by
 cases l with
 | nil=>exact absurd rfl h
 | cons a r=>exact aw ..
theorem qF {w:Int}{ms:List Int}{pcs:List (List Int×Int)}{n:Nat}(g:Good 16 32 w ms pcs):ChOk (chsN w.toNat ms pcs n):=by
 have w0:=g.w0
 have w1:=g.w1
 have gpl:=g.pl
 refine⟨by rw[kW]; omega,fun t cs h=>?_,fun t cs h c hc=>?_⟩
 ·have ht:t<w.toNat:=by
   have:=(ag.mp h).1
   rwa [kW] at this
  rw[jA9 ht] at h
  cases h
  unfold yS
  rw[aE,ae]
  have:=bV (fun k=>decide ((j5 pcs k).headD 0=(t:Int))) ((upto pcs.length).take n)
  have:=di n (upto pcs.length)
  have:=jA8 pcs.length
  have:((upto pcs.length).take n).length<=(upto pcs.length).length:=by rw[be]; omega
  split <;> simp only [aK,cQ] <;> omega
 ·have ht:t<w.toNat:=by
   have:=(ag.mp h).1
   rwa [kW] at this
  rw[jA9 ht] at h
  cases h
  unfold yS at hc
  rw[kW]
  rcases aM.mp hc with hc | hc
  ·split at hc
   ·rw[aN] at hc
    subst hc
    exact⟨by simp [dH],iM (by decide) ht,by show (-1:Int)<= -1; decide,by show (-1:Int)<32; decide⟩
   ·cases hc
  ·obtain⟨k,hk,rfl⟩:=aW.mp hc
   obtain⟨hk1,hk2⟩:=cx.mp hk
   have kb:=(jB6 pcs.length).bnd k (bR hk1)
   have gp:=g.at (k:=k.toNat) (by omega)
   have hk2:=aJ hk2
   have hne:j5 pcs k≠ []:=gp.lot.ne
   have hm:(t:Int)∈j5 pcs k:=by
    rw[<- hk2]
    exact jIY hne
   exact⟨jGB gp.lot.ris (fun x hx=>(gp.lot.bnd x hx).1) hm,jHJ gp.lot.ris fun x hx=>⟨(gp.lot.bnd x hx).1,by have:=(gp.lot.bnd x hx).2; omega⟩,by omega,by omega⟩
section
variable {P:Program}{w:World}{K:W.Frag}{mg:Str->Option Value}{base:Heap}
variable {f fM:Addr}{fdM:FuncData}{cdv:Value}{A:Around}{outer:List Env}{s:Shared}{H0:Hp}{E:XK}
abbrev jB7:List Str:=["box","choices","number","piece"]
theorem scChoices:FnScope jB7 ["box"] (j8 kR):=⟨rfl,rfl,rfl,by decide+kernel,rfl,by decide+kernel,by decide+kernel⟩
def jA2:Sp:=fun vs H Q _=>∃ (b:Addr) (w:Int) (ms:List Int) (pcs:List (List Int×Int)),vs=[.ref b]/\BoxAt H b w ms pcs/\Good 16 32 w ms pcs/\∀ r H',ChAt H' r (chs w.toNat ms pcs)->Ext H H'->Q (.ref r) H'
def jS9 (T:Txt mg)(CM:Can P w K mg base "mask_of" 1 fM fdM ["lot"] jFU)(hr:Room 1 (XOf jB7 "choices_of" kR P w K mg base f cdv A outer s H0 E).A): { t:TS // JSs (XOf jB7 "choices_of" kR P w K mg base f cdv A outer s H0 E) (jCY ((jC kR).getD 1 (.Pass ⟨0,0,0,0⟩))) t} :=
 have nd:=scChoices.nd
 ⟨_,(jD (jE0 (je_bm bW eM eN jB1 (kB yK (jv 1 rfl vL) (kB kQ (kB kQ (jv 3 rfl vL) (je_int) jI) (je_int) jI) jSX) (j4 (jHN (j4 (jv 2 rfl vL) (j4 (CM.je hr gD (j4 (kB kQ (jv 3 rfl vL) (je_int) jI) j7 kL) kL) j7 jJ) j3)) j7 jIB) jIB) jQ))⟩
def jOR (T:Txt mg)(CM:Can P w K mg base "mask_of" 1 fM fdM ["lot"] jFU)(hr:Room 1 (XOf jB7 "choices_of" kR P w K mg base f cdv A outer s H0 E).A): { t:TS // JSs (XOf jB7 "choices_of" kR P w K mg base f cdv A outer s H0 E) (jC kR) t} :=
 have nd:=scChoices.nd
 ⟨_,(jB (jRR (i:=1) nd rfl lL ⟨by rfl⟩ (m:=[none,some 0]) (Nc:=["thing","box"]) rfl (jA5 gD T.range (j4 (kB kQ (jv 0 rfl vC) (je_int) jI) j7 kL) kL) rfl (by decide+kernel) (by decide+kernel) (kS (psc:=j8 kR) (by decide+kernel)) (jS (N:=jB7) rfl rfl (by decide+kernel)) (fun cl C fp s H=>jW (i:=0) (show (["thing","box"]:List Str).Nodup by decide+kernel) rfl (qJ (by decide+kernel))) (fun cl C fp s H=>yJ) (fun cl C fp s H=>(jPK (jM jHF (jv 0 rfl (kD (by decide+kernel))) (kB jAD (jv 1 rfl (yC (by decide+kernel))) (je_int) jI) jG8) (yR (j4 (jHN (j4 (je_un jI1 (je_int)) (j4 (kJ jII (je_int) (jv 0 rfl (kD (by decide+kernel)))) j7 yM) se_un)) j7 jIB)) (yR j7))) kN) (jB (yV bG rfl (jRT gD T.enumerate (j4 (kB kQ (jv 0 rfl vC) (je_int) jI) j7 kL) kL) (jDC (i:=2) (j:=3) nd rfl rfl (by decide+kernel) (by decide+kernel)) (jS9 T CM hr).2 kN) (jD (jH (jv 1 rfl vL)))))⟩
noncomputable abbrev nFull:List Str:=["choices"]
theorem scFull:FnScope nFull ["choices"] (j8 sFull):=⟨rfl,rfl,rfl,by decide+kernel,rfl,by decide+kernel,by decide+kernel⟩
def jCT:Sp:=fun vs H Q _=>∃ (L:Addr) (ch:Ch),vs=[.ref L]/\ChAt H L ch/\ch.length<=16/\Q (.int ((fullN ch:Nat):Int)) H
def fullA (T:Txt mg): { t:TS // JSs (XOf nFull "full_mask" sFull P w K mg base f cdv A outer s H0 E) (jC sFull) t} :=
 have nd:=scFull.nd
 ⟨_,(jD (jH (kJ jBX (kJ jII (je_int) (jE jU gD T.len (by decide+kernel) (j4 (jv 0 rfl vL) j7 j3) j3)) (je_int))))⟩
noncomputable abbrev nAt:List Str:=["choices","mask","least_lacked"]
theorem scAt:FnScope nAt ["choices","mask"] (j8 sAt):=⟨rfl,rfl,rfl,by decide+kernel,rfl,by decide+kernel,by decide+kernel⟩
def spAt:Sp:=fun vs H Q _=>∃ (L:Addr) (ch:Ch) (m:Nat),vs=[.ref L, .int (m:Int)]/\ChAt H L ch/\ChOk ch/\m<2 ^ ch.length/\m≠fullN ch/\∀ r H',RowAt H' r (chAt ch m)->Ext H H'->H r=none->Q (.ref r) H'
def atA (T:Txt mg): { t:TS // JSs (XOf nAt "choices_at" sAt P w K mg base f cdv A outer s H0 E) (jC sAt) t} :=
 have nd:=scAt.nd
 ⟨_,(jB (jK (i:=2) nd rfl lL (kJ jBX (jPL PySem.F.plainAttrs_int PySem.F.slot_int_bit_length PySem.F.type_int_bit_length jRH (kJ jIK (je_un jSL (jv 1 rfl vC)) (kJ y9 (jv 1 rfl vC) (je_int)))) (je_int)) jI5)
   (jD (jH (kZ (m:=[none,some 1]) (Nc:=["choice","mask"]) rfl (jAU (kB yK (jv 0 rfl vL) (jv 2 rfl vL) yG)) rfl (by decide+kernel) (by decide+kernel) (kS (psc:=j8 sAt) (by decide+kernel)) (jS (N:=nAt) rfl rfl (by decide+kernel)) (fun cl C fp s H=>jW (i:=0) (show (["choice","mask"]:List Str).Nodup by decide+kernel) rfl (qJ (by decide+kernel))) (fun cl C fp s H=>jDZ (jM yU (kJ jIK (kB jAD (jv 0 rfl (kD (by decide+kernel))) (je_int) jI) (jv 1 rfl (yC (by decide+kernel)))) (je_int) (jG _))) (fun cl C fp s H=>(jv 0 rfl (kD (by decide+kernel)))) jPO))))⟩
theorem jEQ (ms:List Int)(pcs:List (List Int×Int))(t:Nat):yS ms pcs 0 t=if (t:Int)∈ms then [(-1,2 ^ t)] else []:=by
 unfold yS
 rw[iP]
 simp
theorem jMR {w n:Nat}{ms:List Int}{pcs:List (List Int×Int)}(hn:n<pcs.length)(t:Nat)(ht:(j5 pcs (n:Int)).headD 0=(t:Int)):chsN w ms pcs (n+1)=(chsN w ms pcs n).set t (yS ms pcs n t++[((n:Int),maskN (j5 pcs n))]):=by
 have key:∀ u,yS ms pcs (n+1) u=yS ms pcs n u++if u=t then [((n:Int),maskN (j5 pcs n))] else []:=fun u=>by
  unfold yS
  rw[jDJ hn,bX,aR,aQ]
  congr 2
  rw[dr,ht]
  by_cases hu:u=t
  ·subst hu
   rw[aj (am rfl),aj rfl]
   rfl
  ·rw[ai (by rw[bg]; omega),ai hu]
   rfl
 refine fe fun i=>?_
 rw[gN,kW]
 by_cases hi:i<w
 ·rw[jA9 hi,jA9 hi,key]
  by_cases h:t=i
  ·subst h
   rw[aj rfl,aj rfl,aj hi]
  ·rw[ai h,ai (fun z=>h z.symm),br]
 ·rw[cB (by rw[kW]; omega),cB (by rw[kW]; omega)]
  split
  ·rw[ai (by omega)]
  ·rfl
theorem ChAt.app {H:Hp}{L:Addr}{ch:Ch}{t:Nat}{l:Addr}{ls:List Addr}{vs:List V}{cs:List (Int×Nat)}{v:V}{c:Int×Nat}(hL:H L=some (.lst (ls.map V.ref)))(nd:ls.Nodup)(al:All2 (RowAt H) ls ch)(hl:ls[t]?=some l)(hc:ch[t]?=some cs)(hv:H l=some (.lst vs))(av:All2 (PrAt H) vs cs)(pv:PrAt H v c)(ne:l≠L):
  (L2.upd H l (.lst (vs++[v]))) L=some (.lst (ls.map V.ref))/\All2 (RowAt (L2.upd H l (.lst (vs++[v])))) ls (ch.set t (cs++[c])):=by
 have tu:Tups H (L2.upd H l (.lst (vs++[v]))):=Tups.upd hv _
 refine⟨by rw[j9 ne.symm]; exact hL,?_⟩
 refine All2.of_get (by rw[List.length_set]; exact al.len) fun i a b h1 h2=>?_
 rw[gN] at h2
 by_cases hi:t=i
 ·subst hi
  rw[aj rfl,aj (ag.mp hc).1] at h2
  cases h2
  rw[hl] at h1
  cases h1
  exact⟨_,j6,(av.imp fun _ _=>PrAt.mono tu).snoc (pv.mono tu)⟩
 ·rw[ai hi] at h2
  obtain⟨b',hb',r⟩:=al.get' h1
  rw[h2] at hb'
  cases hb'
  refine r.keep (fun xs hx=>?_) tu
  rw[j9 fun z=>hi ?_]
  ·exact hx
  ·exact(List.getElem?_inj (ag.mp hl).1 nd).mp (by rw[hl,h1,z])
theorem jJL {fd:FuncData}(F:Fun K "choices_of" "choices_of" kR f fd)(T:Txt mg)(CM:Can P w K mg base "mask_of" 1 fM fdM ["lot"] jFU):FnOk P w K mg base CX0 2 f fd ["box"] jA2:=by
 refine F.ok scChoices (fun vs H Q E h=>?_) (fun cdv A outer s H vs Q E hr h=>?_)
 ·obtain⟨_,_,_,_,rfl,_⟩:=h
  rfl
 ·obtain⟨b,w,ms,pcs,rfl,hB,g,q⟩:=h
  refine⟨_,(jOR T CM hr).2.h,?_⟩
  obtain⟨qm,qp,ps,b1,b2,b3,b4⟩:=id hB.ex
  have pl:=b4.len
  have w0:=g.w0
  have w1:=g.w1
  have gpl:=g.pl
  refine⟨_,rfl,b,_,0,_,rfl,rfl,SqT.of b1,rfl,w,rfl,by omega,by omega,jBA (n:=w.toNat) (by rw[aO]; omega) (fun D i σ' H' zs=>(∃ v,σ'=[v,some (.ref b)])/\Ext H H'/\H' D=some (.lst zs)/\H D=none/\∃ ls:List Addr,zs=ls.map V.ref/\ls.Nodup/\D∉ls/\(∀ a∈ls,H a=none)/\All2 (RowAt H') ls ((List.range i).map (yS ms pcs 0))) ?_ ?_ ?_ ?_⟩
  ·intro D hD
   exact⟨⟨_,rfl⟩,(Ext.refl _).new hD _,j6,hD,[],rfl,fc,by simp,by simp,trivial⟩
  ·rintro D i σ' H' zs hD hi ⟨_,e,h2,_,ls,rfl,_,_,_,al⟩
   refine⟨h2,?_⟩
   rw[ae,al.len,ae,de]
   omega
  ·rintro D i σ' H' zs hD hi ⟨⟨v,rfl⟩,e,h2,hn,ls,rfl,nd,hDl,nol,al⟩
   dsimp only [yA,yY]
   rw[aj rfl]
   have e0:(0+(i:Int))=(i:Int):=by omega
   have key:∀ (l:Addr) (H2:Hp),Ext H' H2->H' l=none->RowAt H2 l (yS ms pcs 0 i)->H2 D=some (.lst (ls.map V.ref))/\((∃ v,[some (V.int (i:Int)),some (.ref b)]=[v,some (.ref b)])/\Ext H (L2.upd H2 D (.lst (ls.map V.ref++[.ref l])))/\(L2.upd H2 D (.lst (ls.map V.ref++[.ref l]))) D=some (.lst (ls.map V.ref++[.ref l]))/\H D=none/\∃ ls':List Addr,ls.map V.ref++[.ref l]=ls'.map V.ref/\ls'.Nodup/\D∉ls'/\(∀ a∈ls',H a=none)/\All2 (RowAt (L2.upd H2 D (.lst (ls.map V.ref++[.ref l])))) ls' ((List.range (i+1)).map (yS ms pcs 0))):=fun l H2 e2 nl rl=>by
    have hD2:=e2 _ _ h2
    have lD:l≠D:=fun z=>by rw[z,h2] at nl; cases nl
    have tu:Tups H2 (L2.upd H2 D (.lst (ls.map V.ref++[.ref l]))):=Tups.upd hD2 _
    have kp:∀ a xs,a≠D->H2 a=some (.lst xs)->(L2.upd H2 D (.lst (ls.map V.ref++[.ref l]))) a=some (.lst xs):=fun a xs ha h=>by rw[j9 ha]; exact h
    refine⟨hD2,⟨_,rfl⟩,(e.trans e2).updNew hn _,j6,hn,ls++[l],by rw[aR]; rfl,?_,?_,?_,?_⟩
    ·rw[gL]
     refine⟨nd,by simp,fun a ha b hb z=>?_⟩
     rw[aN] at hb
     subst hb z
     obtain⟨j,hj⟩:=bC ha
     obtain⟨cs,_,vs,r,_⟩:=al.get' hj
     rw[nl] at r
     cases r
    ·rw[aM,aN]
     rintro (z | z)
     ·exact hDl z
     ·exact lD z.symm
    ·intro a ha
     rcases aM.mp ha with z | z
     ·exact nol a z
     ·rw[aN] at z
      subst z
      cases y:H a with
      | none=>rfl
      | some o=>rw[e _ _ y] at nl; cases nl
    ·rw[iw,aR]
     refine(All2.of_get al.len fun j a c h1 h2'=>?_).snoc (rl.keep (fun xs=>kp l xs lD) tu)
     obtain⟨c',hc',r⟩:=al.get' h1
     rw[h2'] at hc'
     cases hc'
     have aD:a≠D:=fun z=>hDl (z ▸ ao h1)
     exact r.keep (fun xs hx=>kp a xs aD (e2 _ _ hx)) (e2.tups.trans tu)
   refine⟨_,rfl,_,rfl,b,_,1,_,rfl,rfl,SqT.of (e _ _ b1),rfl,qm,_,rfl, .inr (SqT.of (e _ _ b2)),rfl,jAB ms,_,rfl,?_⟩
   rw[e0,jC3]
   refine ite2 (fun hz=>?_) (fun hz=>?_)
   ·have hz:=aJ hz
    refine⟨_,rfl,_,rfl,_,_,rfl,rfl,⟨by omega,by omega,by decide⟩,by show (2:Nat)<=_; decide,fun r H2 d2 e2=>⟨by show (1:Nat)<=_; decide,fun l H3 d3 e3 n3=>?_⟩⟩
    have nl:H' l=none:=by
     cases z:H' l with
     | none=>rfl
     | some o=>rw[e2 _ _ z] at n3; cases n3
    refine key l H3 (e2.trans e3) nl ⟨_,d3,?_⟩
    rw[jEQ,aj hz]
    refine⟨⟨r,rfl,?_⟩,trivial⟩
    have:(1:Int)*2 ^ (i:Int).toNat=((2 ^ i:Nat):Int):=by
     rw[bq]
     push_cast
     omega
    rw[e3 _ _ d2]
    show some (HO.tup [V.int (-1),V.int ((1:Int)*2 ^ (i:Int).toNat)])=_
    rw[this]
   ·refine⟨by show (0:Nat)<=_; decide,fun l H3 d3 e3 n3=>?_⟩
    refine key l H3 e3 n3 ⟨_,d3,?_⟩
    rw[jEQ,ai (fun z=>hz (am z))]
    trivial
  ·rintro D σ' H1 zs hD ⟨_,e1,h2,hn,ls,rfl,nd,hDl,nol,al⟩
   refine⟨_,rfl,b,_,2,_,rfl,rfl,SqT.of (e1 _ _ b1),rfl,true,qp,rfl,⟨_,SqT.of (e1 _ _ b3)⟩,jOJ (tp:=true) (xs:=ps) (fun i σ H'=>(∃ v2 v3,σ=[some (.ref b),some (.ref D),v2,v3])/\Ext H H'/\H' D=some (.lst (ls.map V.ref))/\All2 (RowAt H') ls (chsN w.toNat ms pcs i)) ⟨⟨_,_,rfl⟩,e1,h2,al⟩ (fun i σ H' ⟨_,e,_⟩=>SqT.of (e _ _ b3)) ?_ ?_⟩
   ·rintro i x t σ H' hx ht ⟨⟨v2,v3,rfl⟩,e,h3,al3⟩
    obtain⟨pc,hpc,hPc⟩:=b4.at hx
    obtain⟨pa,pq,rfl,c1,c2⟩:=id hPc
    have hi:i<pcs.length:=(ag.mp hpc).1
    have gp:=g.pg pc (ao hpc)
    have et:j5 pcs (i:Int)=pc.1:=by
     unfold j5
     rw[bq,aA,hpc]
     rfl
    have lt:=jB0 _ 0 w gp.lot.ris gp.lot.bnd
    have e':=e.new ht (.tup [.int (i:Int), .ref pa])
    have k':Ext H' (L2.upd H' t (.tup [.int (i:Int), .ref pa])):=(Ext.refl _).new ht _
    refine⟨t,_,rfl,SqT.of j6,rfl,_,_,rfl,_,_,rfl,rfl,?_⟩
    have h5:=k' _ _ h3
    have al5:=al3.imp fun l cs r=>r.keep (fun xs z=>k' _ _ z) k'.tups
    generalize L2.upd H' t (.tup [.int (i:Int), .ref pa])=H5 at e' h5 al5 ⊢
    obtain⟨hd,tl,hp1⟩:∃ hd tl,pc.1=hd::tl:=by
     cases z:pc.1 with
     | nil=>exact absurd z gp.lot.ne
     | cons a r=>exact⟨a,r,rfl⟩
    have hb:=gp.lot.bnd hd (by rw[hp1]; exact aw ..)
    have hdl:(j5 pcs (i:Int)).headD 0=((hd.toNat:Nat):Int):=by
     rw[et,hp1]
     show hd=_
     omega
    have hw:hd.toNat<w.toNat:=by omega
    obtain⟨l,hl,vs,hv,av⟩:=al5.get (jA9 hw)
    have lne:l≠D:=fun z=>hDl (z ▸ ao hl)
    have iD:atI (ls.map V.ref) hd=some (.ref l):=by
     have:=yT (xs:=ls.map V.ref) (j:=hd.toNat) (v:= .ref l) (by rw[aI,hl]; rfl)
     rwa [show ((hd.toNat:Nat):Int)=hd by omega] at this
    have c2':H5 pq=some (.tup (pc.1.map V.int)):=e' _ _ c2
    refine⟨_,rfl,_,rfl,pa,_,0,_,rfl,rfl,SqT.of (e' _ _ c1),rfl,pq,_,0, .int hd,rfl,rfl,SqT.of c2',by rw[hp1]; exact yT (j:=0) rfl,D,_,_,_,rfl,rfl,SqL.of h5,iD, .inl ⟨rfl,_,SqL.of hv⟩,_,rfl,_,rfl,pa,_,0,_,rfl,rfl,SqT.of (e' _ _ c1),rfl,pq,pc.1,rfl,c2',fun x hx=>?_,by omega,fun H6 e6=>?_⟩
    ·have:=gp.lot.bnd x hx
     omega
    refine⟨by show (2:Nat)<=_; decide,fun r H7 d7 e7=>?_⟩
    have E7:=e6.trans e7
    have hv7:=E7 _ _ hv
    have vl:vs.length<=33:=by
     rw[av.len]
     exact(qF g).len _ _ (jA9 hw)
    have ap:=ChAt.app (v:= .ref r) (c:=((i:Int),maskN (j5 pcs (i:Int)))) (E7 _ _ h5) nd (al5.imp fun l cs r=>r.keep (fun xs z=>E7 _ _ z) E7.tups) hl (jA9 hw) hv7 (av.imp fun _ _=>PrAt.mono E7.tups) ⟨r,rfl,by rw[et]; exact d7⟩ lne
    have nH:H l=none:=by
     cases z:H l with
     | none=>rfl
     | some o=>
      exfalso
      rw[nol l (ao hl)] at z
      cases z
    refine⟨l,_,_,rfl,rfl,hv7,by rw[aO]; omega,⟨_,_,rfl⟩,?_,ap.1,?_⟩
    ·exact(e'.trans E7).updNew nH _
    ·rw[jMR hi hd.toNat hdl]
     exact ap.2
   ·rintro σ H' ⟨⟨v2,v3,rfl⟩,e,h3,al3⟩
    refine⟨_,rfl,q D H' ⟨ls,h3,nd,?_⟩ e⟩
    rw[pl] at al3
    exact al3
theorem jRB {fd:FuncData}(F:Fun K "full_mask" "full_mask" sFull f fd)(T:Txt mg):FnOk P w K mg base CX0 1 f fd ["choices"] jCT:=by
 refine F.ok scFull (fun vs H Q E h=>?_) (fun cdv A outer s H vs Q E hr h=>?_)
 ·obtain⟨_,_,rfl,_⟩:=h
  rfl
 ·obtain⟨L,ch,rfl,hL,hw,q⟩:=h
  refine⟨_,(fullA T).2.h,?_⟩
  obtain⟨ls,h1,h2⟩:=hL.len
  refine⟨_,rfl,L,_,rfl, .inl (SqL.of h1),_,_,rfl,rfl,⟨?_,?_,?_⟩,_,_,rfl,rfl,?_⟩
  ·first | omega | decide
  ·rw[ae]; omega
  ·first | omega | decide
  ·have e:(1:Int)*2 ^ (((ls.map V.ref).length:Nat):Int).toNat - 1=((fullN ch:Nat):Int):=by
    rw[ae,h2,bq]
    unfold fullN
    have:=dh ch.length
    have e2:((2 ^ ch.length:Nat):Int)=(2:Int) ^ ch.length:=by push_cast; rfl
    omega
   show Q (V.int ((1:Int)*2 ^ (((ls.map V.ref).length:Nat):Int).toNat - 1)) H
   rw[e]
   exact q
theorem ok_at {fd:FuncData}(F:Fun K "choices_at" "choices_at" sAt f fd)(T:Txt mg):FnOk P w K mg base CX0 1 f fd ["choices","mask"] spAt:=by
 refine F.ok scAt (fun vs H Q E h=>?_) (fun cdv A outer s H vs Q E hr h=>?_)
 ·obtain⟨_,_,_,rfl,_⟩:=h
  rfl
 ·obtain⟨L,ch,m,rfl,hL,ok,hm,hf,q⟩:=h
  refine⟨_,(atA T).2.h,?_⟩
  obtain⟨ls,h1,nd,al⟩:=hL.ex
  have hlow:=jC0 hm hf
  have w16:=ok.w
  refine⟨_,rfl,_,rfl,_,rfl,_,_,rfl,rfl,_,_,rfl,rfl,rfl,_,rfl,rfl,_,_,rfl,rfl,?_⟩
  have el:(Builtin.Int.intBits (Builtin.bitAnd (Builtin.bitNot (m:Int)) ((m:Int)+1)):Int) - 1=((lowN m:Nat):Int):=by
   rw[jO7]
   omega
  show yA 2 (V.int ((Builtin.Int.intBits (Builtin.bitAnd (Builtin.bitNot (m:Int)) ((m:Int)+1)):Int) - 1)) _ _ _
  rw[el]
  obtain⟨l,hl,vs,hv,av⟩:=al.get (ax hlow)
  have vl:vs.length<=33:=by
   rw[av.len]
   exact ok.len _ _ (ax hlow)
  have er:ch.getD (lowN m) []=ch[lowN m]:=by
   rw[aA,ax hlow]
   rfl
  refine⟨_,rfl,_,rfl,L,_,_,_,rfl,rfl,SqL.of h1,yT (by rw[aI,hl]; rfl),l,rfl,⟨_,SqL.of hv⟩,jC7 (xs:=vs) (fun σ=>∃ v,σ=[v,some (.int (m:Int))]) (fun H' zs j=>All2 (PrAt H') zs (((ch[lowN m]).take j).filter fun c=>c.2&&&m==0)) ⟨fun H=>trivial,fun H H' zs j t h=>h.imp fun _ _=>PrAt.mono t,fun H zs j h=>?_⟩ hv (by rw[aO]; omega) ⟨_,rfl⟩ ?_ ?_⟩
  ·rw[h.len]
   exact bv (bV _ _) (di _ _)
  ·rintro j x σ' H' zs hx ⟨v,rfl⟩ e hz R S yes no
   obtain⟨c,hc,qa,rfl,hq⟩:=av.get' hx
   have hq':=e _ _ hq
   have et:(ch[lowN m]).take (j+1)=(ch[lowN m]).take j++[c]:=by
    rw[bh,hc]
    rfl
   refine⟨_,rfl,qa,_,1,_,rfl,rfl,SqT.of hq',rfl,_,rfl,_,_,rfl,rfl,rfl,_,rfl,?_⟩
   have ez:decide (V.int (Builtin.bitAnd ((c.2:Nat):Int) (m:Int))=V.int 0)=(c.2&&&m==0):=by
    rw[jCR,bZ,bg,i6]
    exact⟨fun h=>by have:=V.int.inj h; omega,fun h=>by rw[h]; rfl⟩
   show if decide (V.int (Builtin.bitAnd ((c.2:Nat):Int) (m:Int))=V.int 0)=true then _ else _
   rw[ez]
   refine ite2 (fun h=>?_) (fun h=>?_)
   ·refine⟨_,rfl,yes _ _ _ ⟨_,rfl⟩ (Ext.refl _) ?_⟩
    show All2 _ _ (((ch[lowN m]).take (j+1)).filter _)
    rw[et,bX,dr,aj h]
    exact hz.snoc ⟨qa,rfl,hq'⟩
   ·refine no _ _ ⟨_,rfl⟩ (Ext.refl _) ?_
    show All2 _ _ (((ch[lowN m]).take (j+1)).filter _)
    rw[et,bX,dr,ai h,gc,br]
    exact hz
  ·rintro D H' zs hD e hn hz
   rw[av.len,bw] at hz
   refine q D H' ⟨zs,hD,?_⟩ e hn
   unfold chAt
   rw[er]
   exact hz
end
end Eo
end
section
namespace L2
open PySem
theorem jH5 {ks:List (Option Expr)}{vs:List Expr}{pos:Pos}{o:Option Expr} :SwOk (.Dict ks vs pos) o:=⟨fun _ _=>rfl⟩
end L2
namespace Eo
open PySem L2
abbrev natV (n:Nat):V:= .int (n:Int)
structure MetOk (ch:Ch)(ns:List Nat):Prop where
 zero:0∈ns
 bnd:∀ m∈ns,m<2 ^ ch.length
 up:∀ m∈ns,m≠fullN ch->∀ c∈chAt ch m,(m|||c.2)∈ns
def trK (ks:List Nat):List (Key×V):=ks.map fun (k:Nat)=>(Sum.inl (k:Int),V.bl true)
def jPX:Stmt->List Stmt
 | .While _ b _ _=>b
 | _=> []
theorem jH3 (n:Nat):∀ ks:List Nat,valV (trK ks) (.inl (n:Int))=if n∈ks then some (.bl true) else none
 | []=>rfl
 | k::ks=>by
  show valV ((Sum.inl (k:Int),V.bl true)::trK ks) _=_
  by_cases h:k=n
  ·subst h
   rw[jBP rfl,aj (aw ..)]
  ·rw[jB5 (by intro z; have:=iC z; omega),jH3 n ks]
   by_cases h2:n∈ks
   ·rw[aj h2,aj (ar _ h2)]
   ·rw[ai h2,ai]
    intro z
    rcases aB.mp z with z | z
    ·exact h z.symm
    ·exact h2 z
theorem jS6 {H:Hp}{M:Addr}{ks:List Nat}{m c:Nat}(h:H M=some (.dK (trK ks))):DGet H M (.int (Builtin.bitOr (m:Int) (c:Int))) (if (m|||c)∈ks then some (.bl true) else none):=by
 rw[jAK,<- jH3]
 exact DGet.k (k:=Sum.inl (((m|||c:Nat):Nat):Int)) h
theorem jS5 {H:Hp}{M:Addr}{ks:List Nat}{m c:Nat}(h:H M=some (.dK (trK ks)))(hn:¬ (m|||c)∈ks)(hl:(trK ks).length<sizeLine):DPut H M (.int (Builtin.bitOr (m:Int) (c:Int))) (.bl true) (L2.upd H M (.dK (trK (ks++[m|||c])))):=by
 rw[jAK]
 have:=DPut.k (k:=Sum.inl (((m|||c:Nat):Nat):Int)) (v:= .bl true) h hl
 rw[jEZ _ (by rw[jH3,ai hn])] at this
 unfold trK
 rw[aR]
 exact this
theorem jAS {n:Nat}{ks:List Nat}(nd:ks.Nodup)(hb:∀ k∈ks,k<n):ks.length<=n:=by
 have:(ks.map fun k:Nat=>(k:Int)).length<=n:=jL8 n _ (bS.mpr (nd.imp fun h=>by omega)) fun t ht=>by
  obtain⟨k,hk,rfl⟩:=aW.mp ht
  have:=hb k hk
  omega
 rwa [ae] at this
section
variable {P:Program}{w:World}{K:W.Frag}{mg:Str->Option Value}{base:Heap}
variable {f fF fA:Addr}{fdF fdA:FuncData}{cdv:Value}{A:Around}{outer:List Env}{s:Shared}{H0:Hp}{E:XK}
noncomputable abbrev nMet:List Str:=["choices","full","met","waiting","mask","number","more"]
theorem scMet:FnScope nMet ["choices"] (j8 sMet):=⟨rfl,rfl,rfl,by decide+kernel,rfl,by decide+kernel,by decide+kernel⟩
def spMet:Sp:=fun vs H Q _=>∃ (L:Addr) (ch:Ch),vs=[.ref L]/\ChAt H L ch/\ChOk ch/\∀ (r:Addr) (ns:List Nat) (H':Hp),H' r=some (.lst (ns.map natV))->ns.Pairwise (· > ·)->MetOk ch ns->Ext H H'->H r=none->Q (.ref r) H'
def jIQ (T:Txt mg)(CA:Can P w K mg base "choices_at" 1 fA fdA ["choices","mask"] spAt)(hr:Room 1 (XOf nMet "masks_met" sMet P w K mg base f cdv A outer s H0 E).A): { t:TS // JSs (XOf nMet "masks_met" sMet P w K mg base f cdv A outer s H0 E) (jPX ((jC sMet).getD 3 (.Pass ⟨0,0,0,0⟩))) t} :=
 have nd:=scMet.nd
 ⟨_,(jB (jK (i:=4) nd rfl lL (jPL bW PySem.F.slot_list_pop PySem.F.type_list_pop jTR (jv 3 rfl vL)) jQ)
   (jD (kT (jM op_ne (jv 4 rfl vL) (jv 1 rfl vL) (jG _)) (jD (yV bG rfl (jAU (CA.je hr gD (j4 (jv 0 rfl vL) (j4 (jv 4 rfl vL) j7 j3) j3) j3)) (jDC (i:=5) (j:=6) nd rfl rfl (by decide+kernel) (by decide+kernel)) (jD (kT (jLY (qN hr) (kJ op_or (jv 4 rfl vL) (jv 6 rfl vL)) (jv 2 rfl vL) rfl) (jB (jF9 (qN hr) (jv 2 rfl vL) (kJ op_or (jv 4 rfl vL) (jv 6 rfl vL)) (je_bl) jD3)
   (jD (jE0 (je_bm bW eM eN jB1 (jv 3 rfl vL) (j4 (kJ op_or (jv 4 rfl vL) (jv 6 rfl vL)) j7 yM) yM) jQ))) jR)) kN)) jR)))⟩
def metA (T:Txt mg)(CF:Can P w K mg base "full_mask" 1 fF fdF ["choices"] jCT)(CA:Can P w K mg base "choices_at" 1 fA fdA ["choices","mask"] spAt)(hr:Room 1 (XOf nMet "masks_met" sMet P w K mg base f cdv A outer s H0 E).A): { t:TS // JSs (XOf nMet "masks_met" sMet P w K mg base f cdv A outer s H0 E) (jC sMet) t} :=
 have nd:=scMet.nd
 ⟨_,(jB (jK (i:=1) nd rfl lL (CF.je (hr.mono (by decide)) gD (j4 (jv 0 rfl vL) j7 j3) j3) jQ) (jB (jK (i:=2) nd rfl lL (jOA) jH5) (jB (jK (i:=3) nd rfl lL (yR (j4 (je_int) j7 jO)) jFR) (jB (jIT bG (jM op_gt (jE jU gD T.len (by decide+kernel) (j4 (jv 3 rfl vL) j7 j3) j3) (je_int) (jG _)) (jIQ T CA hr).2) (jD (jH (jLZ (jFJ rfl) gD T.sorted (by decide+kernel) (j4 (jv 2 rfl vL) j7 j3) (jRS je_bl jU2) j3)))))))⟩
theorem jO3 (T:Txt mg)(CA:Can P w K mg base "choices_at" 1 fA fdA ["choices","mask"] spAt)(hr:Room 1 (XOf nMet "masks_met" sMet P w K mg base f cdv A outer s H0 E).A)
  {D:Ends}{H:Hp}{L M W:Addr}{ch:Ch}{ks ws:List Nat}{m:Nat}{v4 v5 v6:Option V}(hL:ChAt H L ch) (ok:ChOk ch) (hM:H M=some (.dK (trK ks))) (hW:H W=some (.lst ((ws++[m]).map natV))) (nd:ks.Nodup) (hb:∀ k∈ks,k<2 ^ ch.length) (hm:m∈ks) (wln:ws.length<=ks.length)
  (nx:∀ (H':Hp) (new:List Nat) (v4 v5 v6:Option V),(∀ b o,H b=some o->b≠M->b≠W->H' b=some o)->H' M=some (.dK (trK (ks++new)))->H' W=some (.lst ((ws++new).map natV))->(ks++new).Nodup->(∀ k∈ks++new,k<2 ^ ch.length)->(m≠fullN ch->∀ c∈chAt ch m,(m|||c.2)∈ks++new)->D.nx [some (.ref L),some (natV (fullN ch)),some (.ref M),some (.ref W),v4,v5,v6] H'):
  (jIQ T CA hr).1 D [some (.ref L),some (natV (fullN ch)),some (.ref M),some (.ref W),v4,v5,v6] H:=by
 have MW:M≠W:=fun z=>by rw[z,hW] at hM; cases hM
 have LW:∀ ls:List Addr,H L=some (.lst (ls.map V.ref))->L≠W:=fun ls h z=>by
  rw[z,hW] at h
  have h:=HO.lst.inj (aU h)
  have h2:natV m∈ls.map V.ref:=by rw[<- h]; simp
  obtain⟨a,_,ha⟩:=aW.mp h2
  cases ha
 have rw':∀ l cs,RowAt H l cs->l≠W:=fun l cs ⟨vs,h1,h2⟩ z=>by
  rw[z,hW] at h1
  have h1:=HO.lst.inj (aU h1)
  have h3:vs[ws.length]?=some (natV m):=by rw[<- h1]; simp
  obtain⟨_,_,q,e,_⟩:=h2.get' h3
  cases e
 have w16:=ok.w
 have hm2:=hb m hm
 have wl:((ws++[m]).map natV)[((ws++[m]).map natV).length - 1]?=some (natV m):=by
  rw[ae,aE,aI,aZ (by simp)]
  simp
 have dl:((ws++[m]).map natV).dropLast=ws.map natV:=by
  rw[aR]
  simp
 refine⟨_,rfl, .inl ⟨rfl,_,SqL.of hW⟩,W,_,_,rfl,rfl,hW,wl,?_⟩
 rw[dl]
 have hM1:(L2.upd H W (.lst (ws.map natV))) M=some (.dK (trK ks)):=by rw[j9 MW]; exact hM
 have hW1:(L2.upd H W (.lst (ws.map natV))) W=some (.lst (ws.map natV)):=j6
 have k1:∀ b o,H b=some o->b≠W->(L2.upd H W (.lst (ws.map natV))) b=some o:=fun b o h n=>by rw[j9 n]; exact h
 have hL1:ChAt (L2.upd H W (.lst (ws.map natV))) L ch:=by
  obtain⟨ls,a1,a2,a3⟩:=hL.ex
  exact⟨ls,k1 _ _ a1 (LW _ a1),a2,a3.imp fun l cs r=>r.keep (fun xs z=>k1 _ _ z (rw' _ _ r)) (Tups.upd hW _)⟩
 generalize L2.upd H W (.lst (ws.map natV))=H1 at hM1 hW1 k1 hL1
 refine⟨_,rfl,_,rfl,rfl,_,rfl,?_⟩
 have nf:(!decide (natV m=natV (fullN ch)))=true↔m≠fullN ch:=by
  rw[dW,cG]
  refine not_congr ⟨fun h=>?_,fun h=>by rw[h]⟩
  have:=V.int.inj h
  omega
 refine ite2 (fun h=>?_) (fun h=>?_)
 ·have h:=nf.mp h
  refine⟨_,rfl,_,rfl,L,ch,m,rfl,hL1,ok,hm2,h,fun r H2 ⟨vs,hr2,av⟩ e2 nr=>?_⟩
  have hM2:=e2 _ _ hM1
  have hW2:=e2 _ _ hW1
  have rW:r≠W:=fun z=>by rw[z,hW1] at nr; cases nr
  have rM:r≠M:=fun z=>by rw[z,hM1] at nr; cases nr
  refine⟨r,rfl,⟨_,SqL.of hr2⟩,jDD (xs:=vs) (fun i σ H'=>(∃ v5 v6,σ=[some (.ref L),some (natV (fullN ch)),some (.ref M),some (.ref W),some (natV m),v5,v6])/\(∀ b o,H2 b=some o->b≠M->b≠W->H' b=some o)/\∃ new:List Nat,H' M=some (.dK (trK (ks++new)))/\H' W=some (.lst ((ws++new).map natV))/\(ks++new).Nodup/\(∀ k∈ks++new,k<2 ^ ch.length)/\∀ c∈(chAt ch m).take i,(m|||c.2)∈ks++new) ⟨⟨_,_,rfl⟩,fun b o h _ _=>h,[],by rw[br]; exact hM2,by rw[br]; exact hW2,by rw[br]; exact nd,by rw[br]; exact hb,fun c hc=>by cases hc⟩ (fun i σ H' _ ⟨_,k,_⟩=>SqL.of (k _ _ hr2 rM rW)) ?_ ?_⟩
  ·rintro i x σ H' hx ⟨⟨v5,v6,rfl⟩,k,new,hM',hW',nd',hb',cl⟩
   obtain⟨c,hc,q,rfl,hq⟩:=av.get' hx
   have qM:q≠M:=fun z=>by rw[z,hM2] at hq; cases hq
   have qW:q≠W:=fun z=>by rw[z,hW2] at hq; cases hq
   have hcm:=ao hc
   obtain⟨u1,u2⟩:=ok.up hm2 h hcm
   have tk:(chAt ch m).take (i+1)=(chAt ch m).take i++[c]:=by rw[bh,hc]; rfl
   refine⟨q,_,rfl,SqT.of (k _ _ hq qM qW),rfl,_,_,rfl,_,_,rfl,rfl,?_⟩
   refine⟨_,rfl,_,rfl,_,_,rfl,rfl,_,rfl,M,_,rfl,jS6 hM',_,rfl,?_⟩
   by_cases hin:(m|||c.2)∈ks++new
   ·rw[aj hin]
    refine iteF ⟨⟨_,_,rfl⟩,k,new,hM',hW',nd',hb',fun c' hc'=>?_⟩
    rw[tk] at hc'
    rcases aM.mp hc' with z | z
    ·exact cl c' z
    ·rw[aN] at z
     rw[z]
     exact hin
   ·rw[ai hin]
    have ndn:(ks++(new++[m|||c.2])).Nodup:=by
     rw[<- aQ,gL]
     refine⟨nd',by simp,fun a ha b hb z=>?_⟩
     rw[aN] at hb
     exact hin (hb ▸ z ▸ ha)
    have bdn:∀ k∈ks++(new++[m|||c.2]),k<2 ^ ch.length:=fun k hk=>by
     rw[<- aQ] at hk
     rcases aM.mp hk with z | z
     ·exact hb' k z
     ·rw[aN] at z
      rw[z]
      exact u2
    have sz:(ks++(new++[m|||c.2])).length<=2 ^ 16:=bv (jAS ndn bdn) (cr (by decide) w16)
    rw[aE,aE] at sz
    have kl:(trK (ks++new)).length<sizeLine:=by
     unfold trK
     rw[ae,aE,aO]
     simp at sz
     omega
    refine iteT ⟨_,rfl,_,rfl,_,rfl,_,_,rfl,rfl,M,_,rfl,jS5 hM' hin kl,?_⟩
    have hW3:(L2.upd H' M (.dK (trK (ks++new++[m|||c.2])))) W=some (.lst ((ws++new).map natV)):=by rw[j9 MW.symm]; exact hW'
    have hM3:(L2.upd H' M (.dK (trK (ks++new++[m|||c.2])))) M=some (.dK (trK (ks++(new++[m|||c.2])))):=by rw[j6,aQ]
    have k3:∀ b o,H2 b=some o->b≠M->b≠W->(L2.upd H' M (.dK (trK (ks++new++[m|||c.2])))) b=some o:=fun b o hbo n1 n2=>by rw[j9 n1]; exact k b o hbo n1 n2
    generalize L2.upd H' M (.dK (trK (ks++new++[m|||c.2])))=H3 at hW3 hM3 k3
    refine⟨_,rfl, .inl ⟨rfl,_,SqL.of hW3⟩,_,rfl,_,rfl,_,_,rfl,rfl,W,_,_,rfl,rfl,hW3,?_,⟨_,_,rfl⟩,fun b o hbo n1 n2=>by rw[j9 n2]; exact k3 b o hbo n1 n2,new++[m|||c.2],by rw[j9 MW]; exact hM3,?_,ndn,bdn,fun c' hc'=>?_⟩
    ·skip
     rw[ae,aE,aO]
     simp at sz
     omega
    ·rw[j6]
     show some (HO.lst ((ws++new).map natV++[V.int (Builtin.bitOr (m:Int) (c.2:Int))]))=_
     rw[jAK,<- aQ]
     exact bN (fun z=>some (HO.lst z)) (aR (f:=natV) (l₁:=ws++new) (l₂:=[m|||c.2])).symm
    ·rw[<- aQ,aM]
     rw[tk] at hc'
     rcases aM.mp hc' with z | z
     ·exact .inl (cl c' z)
     ·rw[aN] at z
      rw[z]
      exact .inr (aN.mpr rfl)
  ·rintro σ H' ⟨⟨v5,v6,rfl⟩,k,new,hM',hW',nd',hb',cl⟩
   have:(chAt ch m).take vs.length=chAt ch m:=by rw[av.len,bw]
   rw[this] at cl
   exact nx H' new _ _ _ (fun b o hbo n1 n2=>k _ _ (e2 _ _ (k1 _ _ hbo n2)) n1 n2) hM' hW' nd' hb' fun _=>cl
 ·have h:m=fullN ch:=bz fun z=>h (nf.mpr z)
  exact nx H1 [] _ _ _ (fun b o hbo n1 n2=>k1 _ _ hbo n2) (by rw[br]; exact hM1) (by rw[br]; exact hW1) (by rw[br]; exact nd) (by rw[br]; exact hb) fun z=>absurd h z
theorem jTL {fd:FuncData}(F:Fun K "masks_met" "masks_met" sMet f fd)(T:Txt mg)(CF:Can P w K mg base "full_mask" 1 fF fdF ["choices"] jCT)(CA:Can P w K mg base "choices_at" 1 fA fdA ["choices","mask"] spAt):FnOk P w K mg base CX0 2 f fd ["choices"] spMet:=by
 refine F.ok scMet (fun vs H Q E h=>?_) (fun cdv A outer s H vs Q E hr h=>?_)
 ·obtain⟨_,_,rfl,_⟩:=h
  rfl
 ·obtain⟨L,ch,rfl,hL,ok,q⟩:=h
  refine⟨_,(metA T CF CA hr).2.h,?_⟩
  have w16:=ok.w
  refine⟨_,rfl,L,ch,rfl,hL,w16,?_⟩
  refine fun M H1 hM1 e1 nM=>?_
  refine⟨by show (1:Nat)<=_; decide,fun W H2 hW2 e2 nW=>?_⟩
  have hM2:=e2 _ _ hM1
  have nW0:H W=none:=by
   cases z:H W with
   | none=>rfl
   | some o=>rw[e1 _ _ z] at nW; cases nW
  have E2:=e1.trans e2
  have pz:(0:Nat)<2 ^ ch.length:=dh _
  refine⟨fun n σ H'=>(∃ v4 v5 v6,σ=[some (.ref L),some (natV (fullN ch)),some (.ref M),some (.ref W),v4,v5,v6])/\Ext H H'/\∃ ks ws:List Nat,n=2*(2 ^ ch.length - ks.length)+ws.length/\H' M=some (.dK (trK ks))/\H' W=some (.lst (ws.map natV))/\ks.Nodup/\(∀ k∈ks,k<2 ^ ch.length)/\(∀ k∈ws,k∈ks)/\ws.length<=ks.length/\0∈ks/\∀ k∈ks,k∉ws->k≠fullN ch->∀ c∈chAt ch k,(k|||c.2)∈ks,⟨_,⟨_,_,_,rfl⟩,E2,[0],[0],rfl,hM2,hW2,by simp,fun k hk=>by rw[aN] at hk; omega,fun k hk=>hk,ak _,by simp,fun k h1 h2=>absurd h1 h2⟩,?_⟩
  rintro n σ H' ⟨⟨v4,v5,v6,rfl⟩,e,ks,ws,rfl,hM',hW',nd,hb,sub,wl,z0,cl⟩
  refine⟨_,rfl,W,_,rfl, .inl (SqL.of hW'),_,_,rfl,rfl,_,rfl,?_⟩
  rcases List.eq_nil_or_concat ws with hws | ⟨ws',m,hws⟩
  ·subst hws
   refine iteF ?_
   have ksl:=jAS nd hb
   have p16:2 ^ ch.length<=2 ^ 16:=cr (by decide) w16
   refine⟨_,rfl,M,trK ks,ks.map fun k:Nat=>(k:Int),true,rfl,rfl,hM',by unfold trK; rw[cC,cC]; rfl,by rw[ae,aO]; omega,fun l ns hl ord pm=>?_⟩
   obtain⟨js,rfl⟩:∃ js:List Nat,ns=js.map fun k:Nat=>(k:Int):=by
    refine⟨ns.map Int.toNat,?_⟩
    rw[cC]
    refine(jd ns).symm.trans (cO fun x hx=>?_)
    obtain⟨k,_,rfl⟩:=aW.mp (pm.mem_iff.mp hx)
    show ((k:Nat):Int)=(((k:Nat):Int).toNat:Int)
    omega
   have pm':js.Perm ks:=by
    have:=pm.map Int.toNat
    rw[cC,cC] at this
    have e:∀ l:List Nat,l.map (Int.toNat ∘ fun k:Nat=>(k:Int))=l:=fun l=>(cO fun x _=>by show ((x:Nat):Int).toNat=x; omega).trans (jd l)
    rwa [e,e] at this
   refine q l js _ ?_ ?_ ⟨pm'.mem_iff.mpr z0,fun m hm=>hb m (pm'.mem_iff.mp hm),fun m hm hf c hc=>pm'.mem_iff.mpr (cl m (pm'.mem_iff.mp hm) (by simp) hf c hc)⟩ ((Ext.refl _).trans (e.new hl _)) ?_
   ·rw[j6,cC]
    rfl
   ·have nj:js.Nodup:=pm'.nodup_iff.mpr nd
    have:js.Pairwise (fun (a b:Nat)=>(b:Int)<=(a:Int)):=bS.mp ord
    exact(this.and nj).imp fun {a b} h=>by omega
   ·cases z:H l with
    | none=>rfl
    | some o=>rw[e _ _ z] at hl; cases hl
  ·have hws:ws=ws'++[m]:=by rw[hws,List.concat_eq_append]
   subst hws
   have lp:decide ((0:Int)<(((ws'++[m]).map natV).length:Int))=true:=by
    rw[bg,ae,aE]
    show (0:Int)<((ws'.length+1:Nat):Int)
    omega
   show if decide ((0:Int)<(((ws'++[m]).map natV).length:Int))=true then _ else _
   rw[aj lp]
   rw[aE] at wl
   refine⟨fun σ' H''=>(∃ v4 v5 v6,σ'=[some (.ref L),some (natV (fullN ch)),some (.ref M),some (.ref W),v4,v5,v6])/\Ext H H''/\∃ new:List Nat,H'' M=some (.dK (trK (ks++new)))/\H'' W=some (.lst ((ws'++new).map natV))/\(ks++new).Nodup/\(∀ k∈ks++new,k<2 ^ ch.length)/\(m≠fullN ch->∀ c∈chAt ch m,(m|||c.2)∈ks++new),?_,jO3 T CA hr (ks:=ks) (ws:=ws') (m:=m) (hL.ext e) ok hM' hW' nd hb (sub m (by simp)) (by omega) ?_⟩
   ·rintro σ' H'' ⟨hσ,e',new,a1,a2,a3,a4,a5⟩
    have sl:=jAS a3 a4
    rw[aE] at sl
    refine⟨_,?_,hσ,e',ks++new,ws'++new,rfl,a1,a2,a3,a4,fun k hk=>?_,?_,aX _ z0,fun k hk hkw hf c hc=>?_⟩
    ·rw[aE,aE,aE]
     simp only [aK,cQ]
     omega
    ·rcases aM.mp hk with z | z
     ·exact aX _ (sub k (aX _ z))
     ·exact aH _ z
    ·rw[aE,aE]
     omega
    ·by_cases hkm:k=m
     ·subst hkm
      exact a5 hf c hc
     ·rcases aM.mp hk with z | z
      ·refine aX _ (cl k z (fun y=>?_) hf c hc)
       rcases aM.mp y with y | y
       ·exact hkw (aX _ y)
       ·exact hkm (aN.mp y)
      ·exact absurd (aH _ z) hkw
   ·intro H'' new v4 v5 v6 kp a1 a2 a3 a4 a5
    refine⟨⟨_,_,_,rfl⟩,fun b o hbo=>?_,new,a1,a2,a3,a4,a5⟩
    refine kp b o (e b o hbo) (fun z=>?_) fun z=>?_
    ·rw[z,nM] at hbo; cases hbo
    ·rw[z,nW0] at hbo; cases hbo
end
end Eo
end
section
namespace L2
open PySem
theorem jQ2 {x:Str}{pos:Pos}{o:Option Expr} :SwOk (.Name x pos) o:=⟨fun _ _=>rfl⟩
end L2
namespace Eo
open PySem L2
structure HpOk (φ:Hp->Prop):Prop where
 keep:∀ (H H':Hp) (D:Addr) (kvs:List (Key×V)),H D=some (.dK kvs)->(∀ b o,H b=some o->b≠D->H' b=some o)->φ H->φ H'
 ext:∀ H H',Ext H H'->φ H->φ H'
abbrev RepT:=Nat->Hp->V->Prop
def RepOk (R:RepT):Prop:=∀ m v,HpOk fun H=>R m H v
def ItAt (R:RepT)(m:Nat)(H:Hp)(v:V)(c:Int×Nat):Prop:=∃ q u,v= .ref q/\H q=some (.tup [.int c.1,u])/\R (m|||c.2) H u
def jI7 (ch:Ch)(R:RepT):Sp:=fun vs H Q _=>∃ (l:Addr) (us:List V) (m:Nat),vs=[.ref l]/\H l=some (.lst us)/\m<2 ^ ch.length/\m≠fullN ch/\All2 (ItAt R m H) us (chAt ch m)/\∀ r H',R m H' r->Ext H H'->Q r H'
def gvs (ns:List Nat)(us:List V):List (Key×V):=(ns.zip us).map fun p:Nat×V=>(Sum.inl (p.1:Int),p.2)
structure GotAt (H:Hp)(r:Addr)(ch:Ch)(R:RepT)(ns:List Nat):Prop where
 ex:∃ us,H r=some (.dK (gvs ns us))/\All2 (fun n u=>R n H u) ns us
theorem jD2 {R:Nat->V->Prop} :∀ {ns:List Nat}{us:List V}{n:Nat},All2 R ns us->ns.Nodup->n∈ns->∃ u,valV (gvs ns us) (.inl (n:Int))=some u/\R n u
 | [],_,_,_,_,h=>by cases h
 | k::ns,[],_,h,_,_=>h.elim
 | k::ns,u::us,n,h,nd,hm=>by
  show ∃ x,valV ((Sum.inl (k:Int),u)::gvs ns us) _=_/\_
  by_cases hk:k=n
  ·subst hk
   exact⟨u,jBP rfl,h.1⟩
  ·rw[jB5 (by intro z; have:=iC z; omega)]
   rcases aB.mp hm with z | z
   ·exact absurd z.symm hk
   ·exact jD2 h.2 (bH.mp nd).2 z
theorem jBQ:∀ {ns:List Nat}{us:List V}{n:Nat},n∉ns->valV (gvs ns us) (.inl (n:Int))=none
 | [],_,_,_=>by
  unfold gvs
  rw[List.zip_nil_left]
  rfl
 | k::ns,[],_,_=>rfl
 | k::ns,u::us,n,h=>by
  show valV ((Sum.inl (k:Int),u)::gvs ns us) _=_
  rw[jB5 (by intro z; have:=iC z; exact h (by rw[show n=k by omega]; exact aw ..))]
  exact jBQ fun z=>h (ar _ z)
theorem jOH {ns:List Nat}{us:List V}{n:Nat}{u:V}(h:ns.length=us.length):gvs (ns++[n]) (us++[u])=gvs ns us++[(Sum.inl (n:Int),u)]:=by
 unfold gvs
 rw[List.zip_append h,aR]
 rfl
section
variable {P:Program}{w:World}{K:W.Frag}{mg:Str->Option Value}{base:Heap}
variable {f fF fA fM j:Addr}{fdF fdA fdM:FuncData}{cdv:Value}{A:Around}{outer:List Env}{s:Shared}{H0:Hp}{E:XK}{Z:Shared->Hp->Prop}{zh:Hp->Prop}{ch:Ch}{R:RepT}
noncomputable abbrev nGath:List Str:=["choices","at_end","join","full","values","mask"]
theorem scGath:FnScope nGath ["choices","at_end","join"] (j8 qI):=⟨rfl,rfl,rfl,by decide+kernel,rfl,by decide+kernel,by decide+kernel⟩
def jP5 (j:Addr)(zh:Hp->Prop)(ch:Ch)(R:RepT):Sp:=fun vs H Q _=>∃ (L:Addr) (ve:V),vs=[.ref L,ve, .ref j]/\ChAt H L ch/\R (fullN ch) H ve/\zh H/\∀ (r:Addr) (ns:List Nat) (H':Hp),GotAt H' r ch R ns->ns.Pairwise (· > ·)->MetOk ch ns->Ext H H'->H r=none->Q (.ref r) H'
def jM8 (T:Txt mg)(CA:Can P w K mg base "choices_at" 1 fA fdA ["choices","mask"] spAt)(CJ:Callee P w K mg base Z zh 3 j (jI7 ch R))(zs:ZSt Z)(hz:Z s H0)(hr:Room 3 (XOf nGath "gathered" qI P w K mg base f cdv A outer s H0 E).A): { t:TS // JSs (XOf nGath "gathered" qI P w K mg base f cdv A outer s H0 E) (jCY ((jC qI).getD 2 (.Pass ⟨0,0,0,0⟩))) t} :=
 have nd:=scGath.nd
 ⟨_,(jD (kT (jM yU (jv 5 rfl vC) (jv 3 rfl vL) (jG _)) (jD (jF9 (qN hr) (jv 4 rfl vC) (jv 5 rfl vC) (jv 1 rfl vL) jQ2)) (jD (jF9 (qN hr) (jv 4 rfl vC) (jv 5 rfl vC) (jOD (j:=2) CJ (hr.mono (by decide)) zs hz rfl rfl vL (j4 (kZ (m:=[none,none,some 4,some 5]) (Nc:=["number","more","values","mask"]) rfl (jAU (CA.je (hr.mono (by decide)) gD (j4 (jv 0 rfl vL) (j4 (jv 5 rfl vC) j7 j3) j3) j3)) rfl (by decide+kernel) (by decide+kernel) (kS (psc:=j8 qI) (by decide+kernel)) (jS (N:=nGath) rfl rfl (by decide+kernel)) (fun cl C fp s H=>jC2 (i:=0) (j:=1) rfl (show (["number","more","values","mask"]:List Str).Nodup by decide+kernel) rfl rfl (by decide+kernel) (by decide+kernel)) (fun cl C fp s H=>yJ) (fun cl C fp s H=>(jHN (j4 (jv 0 rfl (kD (by decide+kernel))) (j4 (jB2 (qN hr) (jv 2 rfl (yC (by decide+kernel))) (kJ op_or (jv 3 rfl (yC (by decide+kernel))) (jv 1 rfl (kD (by decide+kernel)))) jG2) j7 kL) j3))) kN) j7 jV) jV) jQ))))⟩
def gathA (T:Txt mg)(CF:Can P w K mg base "full_mask" 1 fF fdF ["choices"] jCT)(CM:Can P w K mg base "masks_met" 2 fM fdM ["choices"] spMet)(CA:Can P w K mg base "choices_at" 1 fA fdA ["choices","mask"] spAt)(CJ:Callee P w K mg base Z zh 3 j (jI7 ch R))(zs:ZSt Z)(hz:Z s H0)(hr:Room 3 (XOf nGath "gathered" qI P w K mg base f cdv A outer s H0 E).A): { t:TS // JSs (XOf nGath "gathered" qI P w K mg base f cdv A outer s H0 E) (jC qI) t} :=
 have nd:=scGath.nd
 ⟨_,(jB (jK (i:=3) nd rfl lL (CF.je (hr.mono (by decide)) gD (j4 (jv 0 rfl vL) j7 j3) j3) jQ) (jB (jK (i:=4) nd rfl (loc_c (by decide+kernel)) (jIX) jH5) (jB (yV bG rfl (jAU (CM.je (hr.mono (by decide)) gD (j4 (jv 0 rfl vL) j7 j3) j3)) (jW (i:=5) nd rfl (loc_c (by decide+kernel))) (jM8 T CA CJ zs hz hr).2 kN) (jD (jH (jv 4 rfl vC))))))⟩
theorem jRA {fd:FuncData}(F:Fun K "gathered" "gathered" qI f fd)(T:Txt mg)(CF:Can P w K mg base "full_mask" 1 fF fdF ["choices"] jCT)(CM:Can P w K mg base "masks_met" 2 fM fdM ["choices"] spMet)(CA:Can P w K mg base "choices_at" 1 fA fdA ["choices","mask"] spAt)(CJ:Callee P w K mg base Z zh 3 j (jI7 ch R))(zs:ZSt Z)(zo:HpOk zh)(ro:RepOk R)(ok:ChOk ch):FnZ P w K mg base CX0 Z 4 f fd ["choices","at_end","join"] (jP5 j zh ch R):=by
 refine F.okZ scGath (fun vs H Q E h=>?_) (fun cdv A outer s H vs Q E hr hz h=>?_)
 ·obtain⟨_,_,rfl,_⟩:=h
  rfl
 ·obtain⟨L,ve,rfl,hL,he,hzh,q⟩:=h
  refine⟨_,(gathA T CF CM CA CJ zs hz hr).2.h,?_⟩
  have w16:=ok.w
  have p16:2 ^ ch.length<=2 ^ 16:=cr (by decide) w16
  refine⟨_,rfl,L,ch,rfl,hL,w16,?_⟩
  refine fun D nD=>?_
  have e1:Ext H (L2.upd H D (.dK [])):=(Ext.refl _).new nD _
  have hD1:(L2.upd H D (.dK [])) D=some (.dK []):=j6
  generalize L2.upd H D (.dK [])=H1 at e1 hD1
  refine⟨_,rfl,L,ch,rfl,hL.ext e1,ok,fun r ns H2 hr2 srt mt e2 nr=>?_⟩
  have hD2:=e2 _ _ hD1
  have rD:r≠D:=fun z=>by rw[z,hD1] at nr; cases nr
  have E2:=e1.trans e2
  have nsn:ns.Nodup:=srt.imp fun {a b} h=>by omega
  have nsl:=jAS nsn mt.bnd
  refine⟨r,rfl,⟨_,SqL.of hr2⟩,jDD (xs:=ns.map natV) (fun i σ H'=>(∃ v5,σ=[some (.ref L),some ve,some (.ref j),some (natV (fullN ch)),some (.ref D),v5])/\(∀ b o,H2 b=some o->b≠D->H' b=some o)/\GotAt H' D ch R (ns.take i)) ⟨⟨_,rfl⟩,fun b o h _=>h,[],hD2,trivial⟩ (fun i σ H' _ ⟨_,k,_⟩=>SqL.of (k _ _ hr2 rD)) ?_ ?_⟩
  ·rintro i x σ H' hx ⟨⟨v5,rfl⟩,k,us,hD',au⟩
   obtain⟨m,hm,rfl⟩:∃ m,ns[i]?=some m/\natV m=x:=by
    rw[aI] at hx
    cases hq:ns[i]? with
    | none=>rw[hq] at hx; cases hx
    | some z=>rw[hq] at hx; cases hx; exact⟨z,rfl,rfl⟩
   have hmn:=ao hm
   have hm2:=mt.bnd m hmn
   have il:i<ns.length:=(ag.mp hm).1
   have tk:ns.take (i+1)=ns.take i++[m]:=by rw[bh,hm]; rfl
   have kl:(gvs (ns.take i) us).length<sizeLine:=by
    unfold gvs
    rw[ae,List.length_zip,be,aO]
    omega
   have kH:∀ b o,H b=some o->H' b=some o:=fun b o h=>k _ _ (E2 _ _ h) fun z=>by rw[z,nD] at h; cases h
   have mi:m∉ns.take i:=fun z=>by
    obtain⟨a,ha⟩:=bC z
    have al:a<i:=by have:=(ag.mp ha).1; rw[be] at this; omega
    rw[cc al] at ha
    have:=(List.getElem?_inj (by omega) nsn).mp (ha.trans hm.symm)
    omega
   have fin:∀ (u:V) (H3:Hp),(∀ b o,H' b=some o->H3 b=some o)->R m H3 u->DPut H3 D (natV m) u (L2.upd H3 D (.dK (gvs (ns.take (i+1)) (us++[u]))))/\((∃ v5,[some (V.ref L),some ve,some (.ref j),some (natV (fullN ch)),some (.ref D),some (natV m)]=[some (V.ref L),some ve,some (.ref j),some (natV (fullN ch)),some (.ref D),v5])/\(∀ b o,H2 b=some o->b≠D->(L2.upd H3 D (.dK (gvs (ns.take (i+1)) (us++[u])))) b=some o)/\GotAt (L2.upd H3 D (.dK (gvs (ns.take (i+1)) (us++[u])))) D ch R (ns.take (i+1))):=fun u H3 e3 ru=>by
    have hD3:=e3 _ _ hD'
    have up:∀ b o,H3 b=some o->b≠D->(L2.upd H3 D (.dK (gvs (ns.take (i+1)) (us++[u])))) b=some o:=fun b o h n=>by rw[j9 n]; exact h
    refine⟨?_,⟨_,rfl⟩,fun b o h n=>up b o (e3 _ _ (k b o h n)) n,us++[u],j6,?_⟩
    ·have:=DPut.k (k:=Sum.inl ((m:Nat):Int)) (v:=u) hD3 kl
     rw[jEZ _ (jBQ mi),<- jOH au.len,<- tk] at this
     exact this
    ·rw[tk]
     refine All2.snoc ?_ ((ro m u).keep _ _ D _ hD3 (by rw[<- tk]; exact up) ru)
     rw[<- tk]
     exact au.imp fun n u h=>(ro n u).keep _ _ D _ hD3 up ((ro n u).ext _ _ e3 h)
   refine⟨_,rfl,_,rfl,rfl,_,rfl,?_⟩
   have ef:decide (natV m=natV (fullN ch))=true↔m=fullN ch:=by
    rw[bg]
    exact⟨fun h=>by have:=V.int.inj h; omega,fun h=>by rw[h]⟩
   refine ite2 (fun h=>?_) (fun h=>?_)
   ·have h:=ef.mp h
    obtain⟨f1,f2⟩:=fin ve H' (fun b o h=>h) (by rw[h]; exact(ro _ _).ext _ _ kH he)
    exact⟨_,rfl,_,rfl,_,rfl,D,_,rfl,f1,f2⟩
   ·have h:m≠fullN ch:=fun z=>h (ef.mpr z)
    refine⟨rfl,_,rfl,_,rfl,L,ch,m,rfl,hL.ext kH,ok,hm2,h,fun r4 H4 ⟨vs4,hr4,av4⟩ e4 n4=>?_⟩
    have hD4:=e4 _ _ hD'
    have vl4:vs4.length<=33:=by
     rw[av4.len]
     have hlow:=jC0 hm2 h
     refine bv (bV _ _) ?_
     rw[aA,ax hlow]
     exact ok.len _ _ (ax hlow)
    refine⟨r4,rfl,⟨_,SqL.of hr4⟩,jC7 (xs:=vs4) (fun σ=>∃ v1 v2,σ=[v1,v2,some (.ref D),some (natV m)]) (fun H' zs t=>All2 (fun v c=>∃ q u,v= .ref q/\H' q=some (.tup [.int c.1,u])/\R (m|||c.2) H4 u) zs ((chAt ch m).take t)) ⟨fun H=>trivial,fun H H' zs t tu hz=>hz.imp fun v c ⟨q,u,a1,a2,a3⟩=>⟨q,u,a1,tu _ _ a2,a3⟩,fun H zs t hz=>?_⟩ hr4 (by rw[aO]; omega) ⟨_,_,rfl⟩ ?_ ?_⟩
    ·rw[hz.len]
     exact di _ _
    ·rintro t x σ' H5 zs hx ⟨v1,v2,rfl⟩ e5 hz5 S1 S2 yes no
     obtain⟨c,hc,qa,rfl,hq⟩:=av4.get' hx
     have hcm:=ao hc
     obtain⟨u1,u2⟩:=ok.up hm2 h hcm
     have ut:=mt.up m hmn h c hcm
     have up:(m|||c.2)∈ns.take i:=by
      obtain⟨a,ha⟩:=bC ut
      have al:a<i:=by
       refine bz fun z=>?_
       have a1:=(ag.mp ha)
       have m1:=(ag.mp hm)
       rcases eB i a with y | y
       ·have:=bx.mp srt i a il a1.1 y
        rw[a1.2,m1.2] at this
        omega
       ·have:a=i:=by omega
        subst this
        rw[hm] at ha
        have:=aU ha
        omega
      exact ao (i:=a) (by rw[cc al]; exact ha)
     obtain⟨u,hu,ru⟩:=jD2 au (nsn.sublist (da _ _)) up
     have et:(chAt ch m).take (t+1)=(chAt ch m).take t++[c]:=by rw[bh,hc]; rfl
     have dg:DGet H5 D (.int (Builtin.bitOr (m:Int) (c.2:Int))) (some u):=by
      rw[jAK,<- hu]
      exact DGet.k (k:=Sum.inl (((m|||c.2:Nat):Nat):Int)) (e5 _ _ hD4)
     refine⟨qa,_,rfl,SqT.of (e5 _ _ hq),rfl,_,_,rfl,_,_,rfl,rfl,?_⟩
     dsimp only [yY]
     rw[aj rfl]
     refine⟨_,rfl,_,rfl,_,rfl,_,rfl,_,_,rfl,rfl,D,u,rfl,dg,by show (2:Nat)<=_; decide,fun r6 H6 d6 e6=>yes _ _ _ ⟨_,_,rfl⟩ e6 ?_⟩
     show All2 _ _ ((chAt ch m).take (t+1))
     rw[et]
     exact(hz5.imp fun v c ⟨q,u,a1,a2,a3⟩=>⟨q,u,a1,e6 _ _ a2,a3⟩).snoc ⟨r6,u,rfl,d6,(ro _ _).ext _ _ e4 ru⟩
    ·rintro D7 H7 zs hD7 e7 n7 hz7
     rw[av4.len,bw] at hz7
     refine⟨zo.ext _ _ (fun b o h=>e7 _ _ (e4 _ _ (kH b o h))) hzh,D7,zs,m,rfl,hD7,hm2,h,hz7.imp fun v c ⟨q,u,a1,a2,a3⟩=>⟨q,u,a1,a2,(ro _ _).ext _ _ e7 a3⟩,fun rr H8 r8 e8=>?_⟩
     obtain⟨f1,f2⟩:=fin rr H8 (fun b o h=>e8 _ _ (e7 _ _ (e4 _ _ h))) r8
     exact⟨_,rfl,_,rfl,D,_,rfl,f1,f2⟩
  ·rintro σ H' ⟨⟨v5,rfl⟩,k,got⟩
   rw[ae,bw] at got
   exact⟨_,rfl,q D ns H' got srt mt (fun b o h=>k _ _ (E2 _ _ h) fun z=>by rw[z,nD] at h; cases h) nD⟩
end
end Eo
end
section
namespace L2
open PySem
def spEx {α:Type}(p:α->Prop)(sp:α->Sp):Sp:=fun vs H Q E=>∃ a,p a/\sp a vs H Q E
theorem FnOk.ex {α:Type}{p:α->Prop}{sp:α->Sp}{P:Program}{w:World}{K:W.Frag}{mg:Str->Option Value}{base:Heap}{CX:CXT}{k:Nat}{f:Addr}{fd:FuncData}{ps:List Str}(h:∀ a,p a->FnOk P w K mg base CX k f fd ps (sp a)):FnOk P w K mg base CX k f fd ps (spEx p sp):=
 ⟨fun vs H Q E ⟨a,pa,q⟩=>(h a pa).len vs H Q E q,fun A outer s H args us vs Q E hr he hb hv ⟨a,pa,q⟩=>(h a pa).run A outer s H args us vs Q E hr he hb hv q⟩
theorem Callee.mono {P:Program}{w:World}{K:W.Frag}{mg:Str->Option Value}{base:Heap}{Z:Shared->Hp->Prop}{zh:Hp->Prop}{i k:Nat}{a:Addr}{sp:Sp}(C:Callee P w K mg base Z zh i a sp)(h:i<=k):Callee P w K mg base Z zh k a sp:=
 ⟨C.fn,fun A outer s H us vs Q E hr=>C.run A outer s H us vs Q E (hr.mono h)⟩
theorem Callee.imp {P:Program}{w:World}{K:W.Frag}{mg:Str->Option Value}{base:Heap}{Z Z':Shared->Hp->Prop}{zh:Hp->Prop}{k:Nat}{a:Addr}{sp:Sp}(C:Callee P w K mg base Z zh k a sp)(h:∀ s H,Z' s H->Z s H):Callee P w K mg base Z' zh k a sp:=
 ⟨C.fn,fun A outer s H us vs Q E hr he hz=>C.run A outer s H us vs Q E hr he (h _ _ hz)⟩
theorem jSS {a:Arguments}{b:Expr}{sc:Scope}{pos:Pos}{es:List Expr}{env:Env} :starEach (.Lambda a b sc pos::es) env=(false,eval (.Lambda a b sc pos) env)::starEach es env:=rfl
end L2
namespace Eo
open PySem L2
theorem got0 {H:Hp}{r:Addr}{ch:Ch}{R:RepT}{ns:List Nat}(g:GotAt H r ch R ns)(nd:ns.Pairwise (· > ·))(m:MetOk ch ns):∃ u,DGet H r (.int 0) (some u)/\R 0 H u:=by
 obtain⟨us,h1,h2⟩:=g.ex
 obtain⟨u,hu,ru⟩:=jD2 h2 (nd.imp fun {a b} h=>by omega) m.zero
 refine⟨u,?_,ru⟩
 have:=DGet.k (k:=Sum.inl (0:Int)) h1
 rw[show valV (gvs ns us) (Sum.inl (0:Int))=some u from hu] at this
 exact this
theorem jPB {H H1:Hp}{l:Addr}(e:Ext H H1)(n:H1 l=none):H l=none:=by
 cases z:H l with
 | none=>rfl
 | some o=>rw[e _ _ z] at n; cases n
end Eo
end
section
namespace L2
open PySem PySem.Spec PyProof.Rows
theorem ip_or {X:Cx} :PIp X .BitOr (fun x y H Q=>∃ i j,x= .int i/\y= .int j/\Q (.int (Builtin.bitOr i j)) H):=by
 intro pins s σ H x y v u Q I r1 r2 h
 obtain⟨i,j,e1,e2,q⟩:=h
 subst e1; subst e2
 obtain⟨t,rfl⟩:=r1
 obtain⟨t',rfl⟩:=r2
 exact ior_int ⟨.int _,H,I.tok _,⟨_,rfl⟩,q⟩
theorem jIU {X:Cx}{e:Expr}{te:TE}{pos:Pos}{i:Nat}{x:PySem.Str}{op:Operator}{ti:TIp}{pos':Pos}(hN:X.N.Nodup)(hi:X.N[i]?=some x)(hx:Loc1 X x)(he:JE X e te)(ho:PIp X op ti):JS X (.AugAssign (.Name x pos') op e pos) (tAug i te ti):=⟨jT3 hN hi hx.a he.h ho hx.b⟩
end L2
end
section
namespace Eo
open PySem L2
def yI (pc:List Int×Int):Int:=pc.1.getD 0 0
def cntF (pcs:List (List Int×Int))(t:Int):Nat:=pcs.countP fun pc=>decide (t<=yI pc)
def lead (pcs:List (List Int×Int))(t:Int)(i:Nat):Nat:=(pcs.take i).countP fun pc=>decide (yI pc=t)
theorem jGJ (t:Int):∀ pcs:List (List Int×Int),cntF pcs t=cntF pcs (t+1)+pcs.countP fun pc=>decide (yI pc=t)
 | []=>rfl
 | p::r=>by
  have ih:=jGJ t r
  unfold cntF at ih ⊢
  rw[ce,ce,ce,ih]
  by_cases h1:yI p=t
  ·have h2:t<=yI p:=by omega
   have h3:¬ t+1<=yI p:=by omega
   have h4:¬ t+1<=t:=by omega
   simp [h1,h4]
   try omega
  ·by_cases h2:t<=yI p
   ·have h3:t+1<=yI p:=by omega
    simp [h1,h2,h3]
    omega
   ·have h3:¬ t+1<=yI p:=by omega
    simp [h1,h2,h3]
theorem jUF (pcs:List (List Int×Int))(t:Int):cntF pcs t<=pcs.length:=List.countP_le_length
theorem jO8 (pcs:List (List Int×Int))(t:Int):2 ^ cntF pcs (t+1)*(1+lead pcs t pcs.length)<=2 ^ cntF pcs t:=by
 unfold lead
 rw[bw,jGJ t pcs,Nat.pow_add]
 refine iU _ ?_
 have:=Nat.lt_two_pow_self (n:=pcs.countP fun pc=>decide (yI pc=t))
 omega
theorem jLP {pcs:List (List Int×Int)}{t:Int}{i:Nat}{pc:List Int×Int}(h:pcs[i]?=some pc):lead pcs t (i+1)=lead pcs t i+if yI pc=t then 1 else 0:=by
 unfold lead
 rw[bh,h]
 show ((pcs.take i)++[pc]).countP _=_
 rw[List.countP_append,ce,List.countP_nil]
 simp
def wJ (l:List (Int×List (List Int))):List (List Int):=l.flatMap fun p=>p.2.map fun x=>if p.1<0 then x else p.1::x
def wk (ch:Ch)(m:Nat):List (List Int):=gv ch [[]] wJ m
theorem jDI (a b:List (Int×List (List Int))):wJ (a++b)=wJ a++wJ b:=iV
theorem jAY (ch:Ch):wk ch (fullN ch)=[[]]:=jRZ
theorem jAX {ch:Ch}{m:Nat}(o:ChOk ch)(h:m<2 ^ ch.length)(hn:m≠fullN ch):wk ch m=wJ ((chAt ch m).map fun c=>(c.1,wk ch (m|||c.2))):=jRY o h hn
theorem jO6 (w:Nat):lowN (2 ^ w - 1)=w:=by
 refine jPE ?_ fun j hj=>?_
 ·rw[ci,aL (by omega)]
 ·rw[ci,am hj]
theorem jPD {m c:Nat}(h:c.testBit (lowN m)=true):lowN m<lowN (m|||c):=by
 refine bz fun z=>?_
 have n1:=jDW (m|||c)
 rw[bP] at n1
 rcases eB (lowN (m|||c)) (lowN m) with y | y
 ·rw[jDX m _ y] at n1
  cases n1
 ·rw[show lowN (m|||c)=lowN m by omega,h,ev] at n1
  cases n1
theorem jBO {ch:Ch}(o:ChOk ch){P:Nat->Prop}(h0:P (fullN ch))(hs:∀ m,m<2 ^ ch.length->m≠fullN ch->(∀ c∈chAt ch m,P (m|||c.2))->P m):∀ m,m<2 ^ ch.length->P m:=by
 intro m hm
 generalize hk:fullN ch - m=k
 induction k using strongRecOn generalizing m with
 | _ k ih=>
  by_cases hf:m=fullN ch
  ·rw[hf]
   exact h0
  ·have hlt:m<fullN ch:=by
    unfold fullN at hf ⊢
    omega
   refine hs m hm hf fun c hc=>?_
   obtain⟨u1,u2⟩:=o.up hm hf hc
   exact ih (fullN ch - (m|||c.2)) (by omega) _ u2 rfl
theorem mem_wJ {l:List (Int×List (List Int))}{x:List Int} :x∈wJ l↔∃ p∈l,∃ y∈p.2,x=if p.1<0 then y else p.1::y:=by
 unfold wJ
 rw[List.mem_flatMap]
 refine exists_congr fun p=>ix fun _=>?_
 rw[aW]
 exact exists_congr fun y=>ix fun _=>eq_comm
theorem jSG {ch:Ch}(o:ChOk ch):∀ m,m<2 ^ ch.length->∀ x∈wk ch m,(∀ k∈x,0<=k/\k<32)/\x.length+lowN m<=ch.length:=by
 refine jBO o ?_ ?_
 ·intro x hx
  rw[jAY,aN] at hx
  subst hx
  refine⟨fun k hk=>(by cases hk),?_⟩
  unfold fullN
  rw[jO6]
  simp
 ·intro m hm hf ih x hx
  rw[jAX o hm hf] at hx
  obtain⟨p,hp,y,hy,rfl⟩:=mem_wJ.mp hx
  obtain⟨c,hc,rfl⟩:=aW.mp hp
  obtain⟨i1,i2⟩:=ih c hc y hy
  obtain⟨m1,m2,m3,m4,m5⟩:=o.mem hm hf hc
  have lo:=jPD m1
  dsimp only
  split
  ·exact⟨i1,by omega⟩
  ·refine⟨fun k hk=>?_,by rw[aK]; omega⟩
   rcases aB.mp hk with z | z
   ·subst z
    omega
   ·exact i1 k z
theorem jJZ (l:List Int):l.getD 0 0=l.headD 0:=by cases l <;> rfl
theorem jJT (pcs:List (List Int×Int))(t:Nat)(i:Nat)(hi:i<=pcs.length):(((upto pcs.length).take i).filter fun k=>decide ((j5 pcs k).headD 0=(t:Int))).length=lead pcs t i:=by
 induction i with
 | zero=>rfl
 | succ i ih=>
  have hil:i<pcs.length:=by omega
  rw[jDJ hil,bX,aE,ih (by omega),jLP (ax hil)]
  congr 1
  rw[dr,gc]
  have e:j5 pcs (i:Int)=pcs[i].1:=by
   unfold j5
   rw[bq,aA,ax hil]
   rfl
  unfold yI
  rw[e,jJZ]
  by_cases h:pcs[i].1.headD 0=(t:Int)
  ·rw[aj (am h),aj h]
   rfl
  ·rw[ai (fun z=>h (aJ z)),ai h]
   rfl
theorem jOQ (pcs:List (List Int×Int)){s t:Int}(h:s<=t):cntF pcs t<=cntF pcs s:=by
 unfold cntF
 refine List.countP_mono_left fun x _ hx=>?_
 have:=aJ hx
 exact am (by omega)
theorem jGH {α β:Type}(f:α->List β)(B:Nat):∀ (l:List α),(∀ a∈l,(f a).length<=B)->(l.flatMap f).length<=l.length*B
 | [],_=>by simp
 | a::l,h=>by
  rw[fi,aE,aK,Nat.succ_mul]
  have h1:=h a (aw ..)
  have h2:=jGH f B l fun x hx=>h x (ar _ hx)
  omega
theorem jSI {w:Int}{ms:List Int}{pcs:List (List Int×Int)}(g:Good 16 32 w ms pcs):∀ m,m<2 ^ (chs w.toNat ms pcs).length->(wk (chs w.toNat ms pcs) m).length<=2 ^ cntF pcs (lowN m:Nat):=by
 have o:ChOk (chs w.toNat ms pcs):=qF g
 refine jBO o ?_ ?_
 ·rw[jAY]
  exact Nat.one_le_two_pow
 ·intro m hm hf ih
  have hl:lowN m<w.toNat:=by
   have:=jC0 hm hf
   unfold chs at this
   rwa [kW] at this
  rw[jAX o hm hf]
  unfold wJ
  refine bv (jGH _ (2 ^ cntF pcs ((lowN m:Nat)+1:Int)) _ fun p hp=>?_) ?_
  ·obtain⟨c,hc,rfl⟩:=aW.mp hp
   rw[ae]
   have lo:=jPD (o.mem hm hf hc).1
   exact bv (ih c hc) (cr (by decide) (jOQ pcs (by omega)))
  ·rw[ae,i8]
   refine bv (iU _ ?_) (jO8 pcs (lowN m:Nat))
   unfold chAt
   refine bv (bV _ _) ?_
   unfold chs
   rw[aA,jA9 hl]
   show (yS ms pcs pcs.length (lowN m)).length<=_
   unfold yS
   rw[aE,ae,jJT pcs _ _ (ak _)]
   split <;> simp only [aK,cQ] <;> omega
theorem jFH (a b:Int):decide (V.int a=V.int b)=decide (a=b):=by
 rw[bZ,bg,bg]
 exact⟨fun h=>V.int.inj h,fun h=>by rw[h]⟩
def cvs (w:Int)(ms:List Int)(pcs:List (List Int×Int)):List (List Int):=(wk (chs w.toNat ms pcs) 0).map srt
theorem jDA {w:Int}{ms:List Int}{pcs:List (List Int×Int)}{m:Nat}{c:Int×Nat}(hl:lowN m<w.toNat):c∈chAt (chs w.toNat ms pcs) m↔c.2&&&m=0/\((c=(-1,2 ^ lowN m)/\(lowN m:Int)∈ms)\/∃ k:Int,c=(k,maskN (j5 pcs k))/\0<=k/\k<pcs.length/\(j5 pcs k).headD 0=(lowN m:Int)):=by
 unfold chAt
 rw[cx,i6,and_comm]
 refine ix fun _=>?_
 unfold chs
 rw[aA,jA9 hl]
 show c∈yS ms pcs pcs.length (lowN m)↔_
 unfold yS
 rw[aM]
 refine or_congr ?_ ?_
 ·by_cases h:(lowN m:Int)∈ms
  ·rw[aj h,aN]
   exact⟨fun z=>⟨z,h⟩,fun z=>z.1⟩
  ·rw[ai h]
   exact⟨fun z=>(by cases z),fun z=>absurd z.2 h⟩
 ·rw[bO (by rw[jA8]; exact ak _),aW]
  constructor
  ·rintro ⟨k,hk,rfl⟩
   obtain⟨h1,h2⟩:=cx.mp hk
   have b:=(jB6 pcs.length).bnd k h1
   exact⟨k,rfl,b.1,b.2,aJ h2⟩
  ·rintro ⟨k,rfl,h1,h2,h3⟩
   refine⟨k,cx.mpr ⟨?_,am h3⟩,rfl⟩
   unfold upto
   exact aW.mpr ⟨k.toNat,bY.mpr (by omega),by omega⟩
structure CovM (w:Int)(ms:List Int)(pcs:List (List Int×Int))(m:Nat)(x:List Int):Prop where
 nd:x.Nodup
 bnd:∀ k∈x,0<=k/\k<pcs.length
 off:∀ k∈x,∀ t∈j5 pcs k,m.testBit t.toNat=false
 dis:∀ k∈x,∀ k'∈x,k≠k'->∀ t∈j5 pcs k,t∉j5 pcs k'
 cov:∀ t:Nat,t<w.toNat->m.testBit t=false->(t:Int)∉ms->∃ k∈x,(t:Int)∈j5 pcs k
section
variable {w:Int}{ms:List Int}{pcs:List (List Int×Int)}(g:Good 16 32 w ms pcs)
include g
theorem yH {k:Int}(h0:0<=k)(h1:k<pcs.length):Lot w (j5 pcs k):=(g.at (k:=k.toNat) (by omega)).lot
theorem jCW {k:Int}(h0:0<=k)(h1:k<pcs.length)(t:Nat):(maskN (j5 pcs k)).testBit t=decide ((t:Int)∈j5 pcs k):=jBZ _ t (yH g h0 h1).ris fun x hx=>((yH g h0 h1).bnd x hx).1
theorem jP9 {k:Int}(h0:0<=k)(h1:k<pcs.length){m:Nat} :maskN (j5 pcs k)&&&m=0↔∀ t∈j5 pcs k,m.testBit t.toNat=false:=by
 have l:=yH g h0 h1
 constructor
 ·intro h t ht
  have bt:=l.bnd t ht
  have q:=bN (fun z=>z.testBit t.toNat) h
  simp only [gb,eC,jCW g h0 h1] at q
  rw[show ((t.toNat:Nat):Int)=t by omega,am ht,gW] at q
  exact q
 ·intro h
  apply fY
  intro i
  rw[gb,eC,jCW g h0 h1]
  by_cases hi:(i:Int)∈j5 pcs k
  ·have:=h _ hi
   rw[bq] at this
   rw[this,dv]
  ·rw[aL hi]
   rfl
theorem jCM {k:Int}(h0:0<=k)(h1:k<pcs.length):(j5 pcs k).headD 0∈j5 pcs k/\∀ t∈j5 pcs k,(j5 pcs k).headD 0<=t:=by
 have l:=yH g h0 h1
 refine⟨jIY l.ne,fun t ht=>?_⟩
 have r:=l.ris
 cases z:j5 pcs k with
 | nil=>rw[z] at ht; cases ht
 | cons a q=>
  rw[z] at ht r
  show a<=t
  rcases aB.mp ht with y | y
  ·omega
  ·have:=(cU.mp r).1 t y
   omega
theorem jB4:∀ m,m<2 ^ (chs w.toNat ms pcs).length->∀ x∈wk (chs w.toNat ms pcs) m,CovM w ms pcs m x:=by
 have o:ChOk (chs w.toNat ms pcs):=qF g
 have el:(chs w.toNat ms pcs).length=w.toNat:=kW _ _ _ _
 refine jBO o ?_ ?_
 ·intro x hx
  rw[jAY,aN] at hx
  subst hx
  refine⟨fc,fun k hk=>(by cases hk),fun k hk=>(by cases hk),fun k hk=>(by cases hk),fun t ht hb _=>?_⟩
  unfold fullN at hb
  rw[el,ci,am ht] at hb
  cases hb
 ·intro m hm hf ih x hx
  have hl:lowN m<w.toNat:=by have:=jC0 hm hf; rwa [el] at this
  rw[jAX o hm hf] at hx
  obtain⟨p,hp,y,hy,rfl⟩:=mem_wJ.mp hx
  obtain⟨c,hc,rfl⟩:=aW.mp hp
  have I:=ih c hc y hy
  have offm:∀ k∈y,∀ t∈j5 pcs k,m.testBit t.toNat=false:=fun k hk t ht=>by
   have:=I.off k hk t ht
   rw[bP,dZ] at this
   exact this.1
  obtain⟨hz,hcase⟩:=(jDA hl).mp hc
  rcases hcase with ⟨rfl,hms⟩ | ⟨k,rfl,k0,k1,hd⟩
  ·dsimp only
   rw[aj (show (-1:Int)<0 by decide)]
   refine⟨I.nd,I.bnd,offm,I.dis,fun t ht hb hn=>?_⟩
   refine I.cov t ht ?_ hn
   rw[bP,hb,gS,dH,aL]
   intro z
   subst z
   exact hn hms
  ·dsimp only at I hz ⊢
   rw[ai (by omega)]
   have ky:∀ t∈j5 pcs k,∀ k'∈y,t∉j5 pcs k':=fun t ht k' hk' ht'=>by
    have:=I.off k' hk' t ht'
    have bt:=(yH g k0 k1).bnd t ht
    rw[bP,jCW g k0 k1,show ((t.toNat:Nat):Int)=t by omega,am ht,ev] at this
    cases this
   have hhd:=(jCM g k0 k1).1
   refine⟨bH.mpr ⟨fun z=>ky _ hhd k z hhd,I.nd⟩,fun k' hk'=>?_,fun k' hk' t ht=>?_,fun k1' h1' k2' h2' ne t ht=>?_,fun t ht hb hn=>?_⟩
   ·rcases aB.mp hk' with z | z
    ·rw[z]; exact⟨k0,k1⟩
    ·exact I.bnd k' z
   ·rcases aB.mp hk' with z | z
    ·rw[z] at ht
     exact(jP9 g k0 k1).mp hz t ht
    ·exact offm k' z t ht
   ·rcases aB.mp h1' with z | z <;> rcases aB.mp h2' with u | u
    ·exact absurd (z.trans u.symm) ne
    ·rw[z] at ht
     exact ky t ht _ u
    ·rw[u]
     intro q
     exact ky t q _ z ht
    ·exact I.dis _ z _ u ne t ht
   ·by_cases hk:(t:Int)∈j5 pcs k
    ·exact⟨k,aw .., hk⟩
    ·obtain⟨k',h1,h2⟩:=I.cov t ht (by rw[bP,hb,jCW g k0 k1,aL hk]; rfl) hn
     exact⟨k',ar _ h1,h2⟩
theorem jH2:∀ m,m<2 ^ (chs w.toNat ms pcs).length->∀ x,CovM w ms pcs m x->∃ y∈wk (chs w.toNat ms pcs) m,∀ k,k∈y↔k∈x:=by
 have o:ChOk (chs w.toNat ms pcs):=qF g
 have el:(chs w.toNat ms pcs).length=w.toNat:=kW _ _ _ _
 have w0:=g.w0
 refine jBO o ?_ ?_
 ·intro x C
  refine⟨[],by rw[jAY]; exact aN.mpr rfl,fun k=>⟨fun z=>(by cases z),fun hk=>?_⟩⟩
  exfalso
  have b:=C.bnd k hk
  have hh:=(jCM g b.1 b.2).1
  have hb:=(yH g b.1 b.2).bnd _ hh
  have:=C.off k hk _ hh
  unfold fullN at this
  rw[el,ci,am (by omega)] at this
  cases this
 ·intro m hm hf ih x C
  have hl:lowN m<w.toNat:=by have:=jC0 hm hf; rwa [el] at this
  have hstep:=jAX o hm hf
  by_cases hx:∃ k∈x,(lowN m:Int)∈j5 pcs k
  ·obtain⟨k,hk,ht⟩:=hx
   have b:=C.bnd k hk
   have hd:(j5 pcs k).headD 0=(lowN m:Int):=by
    obtain⟨h1,h2⟩:=jCM g b.1 b.2
    have h3:=h2 _ ht
    have hb:=(yH g b.1 b.2).bnd _ h1
    have h4:=C.off k hk _ h1
    rcases Int.lt_or_eq_of_le h3 with z | z
    ·have:=jDX m ((j5 pcs k).headD 0).toNat (by omega)
     rw[this] at h4
     cases h4
    ·exact z
   have fit:maskN (j5 pcs k)&&&m=0:=(jP9 g b.1 b.2).mpr (C.off k hk)
   have hc:((k,maskN (j5 pcs k)):Int×Nat)∈chAt (chs w.toNat ms pcs) m:=(jDA hl).mpr ⟨fit, .inr ⟨k,rfl,b.1,b.2,hd⟩⟩
   have memE:∀ j,j∈x.erase k↔j≠k/\j∈x:=fun j=>C.nd.mem_erase_iff
   obtain⟨y,hy,hye⟩:=ih _ hc (x.erase k) ⟨C.nd.erase k,fun j hj=>C.bnd j ((memE j).mp hj).2,fun j hj t ht'=>by
     obtain⟨n1,n2⟩:=(memE j).mp hj
     have bj:=C.bnd j n2
     have bt:=(yH g bj.1 bj.2).bnd t ht'
     have:=C.dis j n2 k hk n1 t ht'
     rw[bP,C.off j n2 t ht',jCW g b.1 b.2,show ((t.toNat:Nat):Int)=t by omega,aL this]
     rfl,fun j1 h1 j2 h2=>C.dis j1 ((memE j1).mp h1).2 j2 ((memE j2).mp h2).2,fun t ht' hb hn=>by
     rw[bP,dZ,jCW g b.1 b.2,cG] at hb
     obtain⟨j,hj,hjt⟩:=C.cov t ht' hb.1 hn
     exact⟨j,(memE j).mpr ⟨fun z=>hb.2 (z ▸ hjt),hj⟩,hjt⟩⟩
   refine⟨k::y,?_,fun j=>?_⟩
   ·rw[hstep,mem_wJ]
    exact⟨_,cP hc,y,hy,by dsimp only; rw[ai (by omega)]⟩
   ·rw[aB,hye,memE]
    constructor
    ·rintro (z | z)
     ·rw[z]; exact hk
     ·exact z.2
    ·intro z
     by_cases hj:j=k
     ·exact .inl hj
     ·exact .inr ⟨hj,z⟩
  ·have hms:(lowN m:Int)∈ms:=bz fun z=>hx (C.cov (lowN m) hl (jDW m) z)
   have fit:2 ^ lowN m&&&m=0:=by
    apply fY
    intro i
    rw[gb,eC,dH]
    by_cases hi:lowN m=i
    ·rw[<- hi,jDW,dv]
    ·rw[aL hi]
     rfl
   have hc:((-1,2 ^ lowN m):Int×Nat)∈chAt (chs w.toNat ms pcs) m:=(jDA hl).mpr ⟨fit, .inl ⟨rfl,hms⟩⟩
   obtain⟨y,hy,hye⟩:=ih _ hc x ⟨C.nd,C.bnd,fun j hj t ht'=>by
     have bj:=C.bnd j hj
     have bt:=(yH g bj.1 bj.2).bnd t ht'
     rw[bP,C.off j hj t ht',gS,dH,aL]
     intro z
     refine hx ⟨j,hj,?_⟩
     rw[z,show ((t.toNat:Nat):Int)=t by omega]
     exact ht',C.dis,fun t ht' hb hn=>by
     rw[bP,dZ] at hb
     exact C.cov t ht' hb.1 hn⟩
   refine⟨y,?_,hye⟩
   rw[hstep,mem_wJ]
   exact⟨_,cP hc,y,hy,by dsimp only; rw[aj (by decide)]⟩
end
structure IsCov (w:Int)(ms:List Int)(pcs:List (List Int×Int))(c:List Int):Prop where
 ris:Ris pcs.length c
 dis:∀ k∈c,∀ k'∈c,k≠k'->∀ t∈j5 pcs k,t∉j5 pcs k'
 cov:∀ t:Int,0<=t->t<w->t∉ms->∃ k∈c,t∈j5 pcs k
section
variable {w:Int}{ms:List Int}{pcs:List (List Int×Int)}(g:Good 16 32 w ms pcs)
include g
theorem jDV {c:List Int} :c∈cvs w ms pcs↔IsCov w ms pcs c:=by
 have z0:0<2 ^ (chs w.toNat ms pcs).length:=dh _
 have w0:=g.w0
 unfold cvs
 rw[aW]
 constructor
 ·rintro ⟨x,hx,rfl⟩
  have C:=jB4 g 0 z0 x hx
  have me:∀ k,k∈srt x↔k∈x:=fun k=>(jD4 x).mem_iff
  refine⟨⟨?_,fun k hk=>C.bnd k ((me k).mp hk)⟩,fun k hk k' hk'=>C.dis k ((me k).mp hk) k' ((me k').mp hk'),fun t t0 t1 hn=>?_⟩
  ·exact(gK (jP2 x) ((jD4 x).nodup_iff.mpr C.nd)).imp fun {a b} h=>by omega
  ·obtain⟨k,hk,hkt⟩:=C.cov t.toNat (by omega) (eC _) (by rw[show ((t.toNat:Nat):Int)=t by omega]; exact hn)
   exact⟨k,(me k).mpr hk,by rwa [show ((t.toNat:Nat):Int)=t by omega] at hkt⟩
 ·intro C
  obtain⟨y,hy,hye⟩:=jH2 g 0 z0 c ⟨C.ris.ris.imp fun {a b} h=>by omega,C.ris.bnd,fun k hk t ht=>eC _,C.dis,fun t ht _ hn=>C.cov t (by omega) (by omega) hn⟩
  refine⟨y,hy,?_⟩
  have ny:=(jB4 g 0 z0 y hy).nd
  have nc:c.Nodup:=C.ris.ris.imp fun {a b} h=>by omega
  have pm:c.Perm y:=(List.perm_ext_iff_of_nodup nc ny).mpr fun k=>(hye k).symm
  exact(jP3 (C.ris.ris.imp fun {a b} h=>by omega) pm).symm
end
theorem jHU (w:Int)(ms:List Int)(pcs:List (List Int×Int)):(cvs w ms pcs).length=(wk (chs w.toNat ms pcs) 0).length:=ae ..
noncomputable def lamOf (s:Stmt):Arguments×Expr×Scope×Pos:=match jC s with
 | [.Return (some (.Call _ [_,_, .Lambda a b sc p] _ _)) _]=>(a,b,sc,p)
 | _=>(jF s, .Constant .none 0 ⟨0,0,0,0⟩,j8 s,⟨0,0,0,0⟩)
abbrev lamA:Arguments:=(lamOf qA).1
abbrev lamB:Expr:=(lamOf qA).2.1
abbrev lamS:Scope:=(lamOf qA).2.2.1
abbrev lamP:Pos:=(lamOf qA).2.2.2
noncomputable abbrev nLam:List Str:=["behind"]
theorem scLam:NScope nLam ["behind"] [] lamS:=⟨rfl,rfl,rfl,by decide+kernel,rfl,by decide+kernel,by decide+kernel,fun x h=>by
  have hl:∀ y∈lamS.names,y.2≠ .free:=by decide+kernel
  exact absurd rfl (hl _ (cN h)),by decide+kernel⟩
def RWay (ch:Ch):RepT:=fun m _ v=>v=natV (wk ch m).length
theorem RWay.ok (ch:Ch):RepOk (RWay ch):=fun _ _=>⟨fun _ _ _ _ _ _ h=>h,fun _ _ _ h=>h⟩
theorem jSK (l:List (Int×List (List Int))):(wJ l).length=(l.map fun p=>p.2.length).sum:=by
 unfold wJ
 rw[List.length_flatMap]
 congr 1
 refine cO fun p _=>?_
 rw[ae]
section
variable {P:Program}{w:World}{K:W.Frag}{mg:Str->Option Value}{base:Heap}
variable {f fG fW fC a c c0 tb:Addr}{fdG fdW fdC:FuncData}{cdv:Value}{cl:List (Str×Addr)}{A:Around}{outer:List Env}{s:Shared}{H0:Hp}{E:XK}
abbrev qLam:Str:= "ways_of.<locals>.<lambda>"
def jO9 (T:Txt mg): { t:TE // JE (cxN P w K mg base nLam qLam lamS a (.ref c) cl A outer s H0) lamB t} :=⟨_,(jE (jGK rfl) (gl_n (by decide+kernel)) T.sum (by decide+kernel) (j4 (kZ (m:=[none,none]) (Nc:=["number","ways"]) rfl (jAU (jv 0 rfl (vis_n (by decide+kernel)))) rfl (by decide+kernel) (by decide+kernel) (fun y hy hf=>absurd hf (by revert y; decide+kernel)) (jS (N:=nLam) rfl rfl (by decide+kernel)) (fun cl C fp s H=>jC2 (i:=0) (j:=1) rfl (show (["number","ways"]:List Str).Nodup by decide+kernel) rfl rfl (by decide+kernel) (by decide+kernel)) (fun cl C fp s H=>yJ) (fun cl C fp s H=>(jv 1 rfl (kD (by decide+kernel)))) jAV) j7 jV) jV)⟩
def zhW (a c:Addr):Hp->Prop:=fun H=>H a=some (.ext (nlP qLam lamA lamB lamS [] a c))/\H c=some (.ext (ncP qLam c))
theorem zhW.ok (a c:Addr):HpOk (zhW a c):=⟨fun H H' D kvs hD k h=>⟨k _ _ h.1 fun z=>(by rw[<- z,h.1] at hD; cases hD),k _ _ h.2 fun z=>(by rw[<- z,h.2] at hD; cases hD)⟩,fun H H' e h=>⟨e _ _ h.1,e _ _ h.2⟩⟩
theorem jTO {ch:Ch}(o:ChOk ch)(T:Txt mg):Callee P w K mg base ZT (zhW a c) 1 a (jI7 ch (RWay ch)):=by
 refine Callee.imp (jUB (fv:=[]) scLam (fun vs H Q E h=>?_) (fun pm ctv us hl=>?_) fun A outer s H vs Q E hr h=>?_) fun s H _=>⟨⟨fun x y c h=>(by cases h),fun x c h=>(by cases h)⟩,rfl,fun i x v h=>(by cases h)⟩
 ·obtain⟨_,_,_,rfl,_⟩:=h
  rfl
 ·match us,hl with
  | [_],_=>rfl
 ·obtain⟨l,us,m,rfl,hl,hm,hf,av,q⟩:=h
  refine⟨_,(jO9 T).2.h,?_⟩
  have vl:us.length<=33:=by
   rw[av.len]
   have hlow:=jC0 hm hf
   refine bv (bV _ _) ?_
   rw[aA,ax hlow]
   exact o.len _ _ (ax hlow)
  refine⟨_,rfl,l,rfl,⟨_,SqL.of hl⟩,jC7 (xs:=us) (fun σ=>∃ v1 v2,σ=[v1,v2]) (mapZ (chAt ch m) fun c=>natV (wk ch (m|||c.2)).length) (mapZ.ok _ _) hl (by rw[aO]; omega) ⟨_,_,rfl⟩ ?_ ?_⟩
  ·rintro j x σ' H' zs hx ⟨v1,v2,rfl⟩ e hz S1 S2 yes no
   obtain⟨c,hc,p,u,rfl,hp,hR⟩:=av.get' hx
   have hR:u=natV (wk ch (m|||c.2)).length:=hR
   subst hR
   refine⟨p,_,rfl,SqT.of (e _ _ hp),rfl,_,_,rfl,_,_,rfl,rfl,?_⟩
   dsimp only [yY]
   rw[aj rfl]
   exact⟨_,rfl,yes _ _ _ ⟨_,_,rfl⟩ (Ext.refl _) (hz.yes hc)⟩
  ·rintro D H' zs hD e nD hz
   have hz:=hz.all (by rw[av.len]; exact ak _)
   have hz2:zs=((chAt ch m).map fun c=>((wk ch (m|||c.2)).length:Int)).map V.int:=by rw[hz,cC]; rfl
   rw[hz2] at hD
   refine⟨D,_,rfl,SqL.of hD,q _ _ ?_ e⟩
   show V.int _=natV _
   rw[jAX o hm hf,jSK,cC]
   congr 1
   generalize chAt ch m=cs
   induction cs with
   | nil=>rfl
   | cons a r ih=>
    rw[aY,iY,aY,iY,ih]
    push_cast
    rfl
noncomputable abbrev nWays:List Str:=["choices"]
theorem scWays:FnScope nWays ["choices"] (j8 qA):=⟨rfl,rfl,rfl,by decide+kernel,rfl,by decide+kernel,by decide+kernel⟩
abbrev TabW (H:Hp)(tb:Addr):Prop:=TabOk H tb lamP qLam
def jH7:Sp:=spEx (fun x:Addr×Addr×Ch=>ChOk x.2.2) fun x=>jP5 x.1 (zhW x.1 x.2.1) x.2.2 (RWay x.2.2)
def jBD (tb:Addr):Sp:=fun vs H Q _=>∃ (L:Addr) (ch:Ch),vs=[.ref L]/\ChAt H L ch/\ChOk ch/\TabW H tb/\∀ (r:Addr) (ns:List Nat) (H':Hp),GotAt H' r ch (RWay ch) ns->ns.Pairwise (· > ·)->MetOk ch ns->ExtT tb H H'->TabW H' tb->H r=none->Q (.ref r) H'
def waysA (T:Txt mg)(CH:PySem.W.CodeHd base c0 tb)(BM:BltAt base mg)(CG:Can P w K mg base "gathered" 4 fG fdG ["choices","at_end","join"] jH7)(hr:Room 4 (XOf nWays "ways_of" qA P w K mg base f (.ref c0) A outer s H0 E).A): { t:TS // JSs (XOf nWays "ways_of" qA P w K mg base f (.ref c0) A outer s H0 E) (jC qA) t} :=
 have nd:=scWays.nd
 ⟨_,(jD (jH (CG.je hr gD (j4 (jv 0 rfl vL) (j4 je_int (j4 (jU4 rfl CH BM (fun y hy hf=>absurd hf (by revert y; decide+kernel)) rfl) j7 jSS) jO) j3) j3)))⟩
theorem jR3 {fd:FuncData}(F:FunC K "ways_of" "ways_of" qA f fd c0)(T:Txt mg)(CH:PySem.W.CodeHd base c0 tb)(BM:BltAt base mg)(CG:Can P w K mg base "gathered" 4 fG fdG ["choices","at_end","join"] jH7):FnOk P w K mg base CX0 5 f fd ["choices"] (jBD tb):=by
 refine F.ok scWays (fun vs H Q E h=>?_) (fun A outer s H vs Q E hr h=>?_)
 ·obtain⟨_,_,rfl,_⟩:=h
  rfl
 ·obtain⟨L,ch,rfl,hL,o,tab,q⟩:=h
  refine⟨_,(waysA T CH BM CG hr).2.h,?_⟩
  refine⟨_,rfl,tab,fun a c H1 k1 k2 k3 e1 na=>?_⟩
  have hL1:ChAt H1 L ch:=hL.keep (fun b xs h=>e1.at tab h) fun b xs h=>e1.at tab h
  refine⟨(a,c,ch),o,L,_,rfl,hL1,?_,⟨k1,k2⟩,fun r ns H2 got srt mt e2 n2=>?_⟩
  ·show V.int 1=natV _
   rw[jAY]
   rfl
  ·refine q r ns H2 got srt mt (fun b o hb hn=>e2 _ _ (e1 b o hb hn)) (.inr ⟨c,e2 _ _ k3,e2 _ _ k2⟩) ?_
   cases z:H r with
   | none=>rfl
   | some o=>
    by_cases hr:r=tb
    ·rw[hr,k3] at n2
     cases n2
    ·rw[e1 _ _ z hr] at n2
     cases n2
noncomputable abbrev nMany:List Str:=["box"]
theorem scMany:FnScope nMany ["box"] (j8 sMany):=⟨rfl,rfl,rfl,by decide+kernel,rfl,by decide+kernel,by decide+kernel⟩
def jKK (tb:Addr):Sp:=fun vs H Q _=>∃ (b:Addr) (w:Int) (ms:List Int) (pcs:List (List Int×Int)),vs=[.ref b]/\BoxAt H b w ms pcs/\Good 16 32 w ms pcs/\TabW H tb/\∀ H',ExtT tb H H'->TabW H' tb->Q (natV (wk (chs w.toNat ms pcs) 0).length) H'
def manyA (T:Txt mg)(CC:Can P w K mg base "choices_of" 2 fC fdC ["box"] jA2)(CW:Can P w K mg base "ways_of" 5 fW fdW ["choices"] (jBD tb))(hr:Room 5 (XOf nMany "many" sMany P w K mg base f cdv A outer s H0 E).A): { t:TS // JSs (XOf nMany "many" sMany P w K mg base f cdv A outer s H0 E) (jC sMany) t} :=
 have nd:=scMany.nd
 ⟨_,(jD (jH (jB2 (qN hr) (CW.je hr gD (j4 (CC.je (hr.mono (by decide)) gD (j4 (jv 0 rfl vL) j7 j3) j3) j7 jJ) jJ) je_int jI)))⟩
theorem jR9 {fd:FuncData}(F:Fun K "many" "many" sMany f fd)(T:Txt mg)(CC:Can P w K mg base "choices_of" 2 fC fdC ["box"] jA2)(CW:Can P w K mg base "ways_of" 5 fW fdW ["choices"] (jBD tb)):FnOk P w K mg base CX0 6 f fd ["box"] (jKK tb):=by
 refine F.ok scMany (fun vs H Q E h=>?_) (fun cdv A outer s H vs Q E hr h=>?_)
 ·obtain⟨_,_,_,_,rfl,_⟩:=h
  rfl
 ·obtain⟨b,wi,ms,pcs,rfl,hB,g,tab,q⟩:=h
  refine⟨_,(manyA T CC CW hr).2.h,?_⟩
  refine⟨_,rfl,b,wi,ms,pcs,rfl,hB,g,fun L H1 hL1 e1=>?_⟩
  refine⟨L,_,rfl,hL1,qF g,tab.ext e1,fun r ns H2 got srt mt e2 t2 n2=>?_⟩
  obtain⟨u,dg,ru⟩:=got0 got srt mt
  have ru:u=natV _:=ru
  subst ru
  exact⟨r,_,rfl,dg,q H2 ((ExtT.of e1).trans e2) t2⟩
end
theorem jOU (m t:Nat):decide (V.int (Builtin.bitAnd ((m:Int) / 2 ^ ((t:Nat):Int).toNat) 1)=V.int 1)=m.testBit t:=by
 have e:(m:Int) / 2 ^ ((t:Nat):Int).toNat=((m / 2 ^ t:Nat):Int):=by
  rw[bq]
  push_cast
  rfl
 rw[e,show Builtin.bitAnd ((m / 2 ^ t:Nat):Int) 1=((m / 2 ^ t&&&1:Nat):Int) from jCR _ 1,gG,fh,bZ,bg,bg]
 constructor
 ·intro h
  have:=V.int.inj h
  omega
 ·intro h
  rw[h]
  rfl
theorem jN4 (m t:Nat):decide (V.int (Builtin.bitAnd ((m:Int) / 2 ^ ((t:Nat):Int).toNat) 1)=V.int 0)=!m.testBit t:=by
 rw[<- jOU]
 have e:(m:Int) / 2 ^ ((t:Nat):Int).toNat=((m / 2 ^ t:Nat):Int):=by
  rw[bq]
  push_cast
  rfl
 rw[e,show Builtin.bitAnd ((m / 2 ^ t:Nat):Int) 1=((m / 2 ^ t&&&1:Nat):Int) from jCR _ 1,gG,bZ,bg,dW,cG]
 constructor
 ·intro h z
  have:=V.int.inj h
  have:=V.int.inj z
  omega
 ·intro h
  have:m / 2 ^ t % 2=0:=by
   rcases cq (m / 2 ^ t) with y | y
   ·exact y
   ·exact absurd (by rw[y]; rfl) h
  rw[this]
  rfl
def befW (ch:Ch)(m j:Nat):Nat:=(wJ (((chAt ch m).take j).map fun c=>(c.1,wk ch (m|||c.2)))).length
theorem jOX (c:Int)(ws:List (List Int)):wJ [(c,ws)]=ws.map fun x=>if c<0 then x else c::x:=by
 unfold wJ
 rw[fi,List.flatMap_nil,br]
theorem jC8 {ch:Ch}{m j:Nat}{c:Int×Nat}(h:(chAt ch m)[j]?=some c):befW ch m (j+1)=befW ch m j+(wk ch (m|||c.2)).length:=by
 unfold befW
 rw[bh,h,aR,jDI,aE]
 congr 1
 show (wJ [(c.1,wk ch (m|||c.2))]).length=_
 rw[jOX,ae]
theorem jJ9 {ch:Ch}{m:Nat}(o:ChOk ch)(h:m<2 ^ ch.length)(hn:m≠fullN ch):befW ch m (chAt ch m).length=(wk ch m).length:=by
 unfold befW
 rw[bw,jAX o h hn]
theorem jOW {ch:Ch}{m j p:Nat}{c:Int×Nat}(o:ChOk ch)(h:m<2 ^ ch.length)(hn:m≠fullN ch)(hc:(chAt ch m)[j]?=some c)(hp:p<(wk ch (m|||c.2)).length):(wk ch m)[befW ch m j+p]?=((wk ch (m|||c.2))[p]?).map fun x=>if c.1<0 then x else c.1::x:=by
 have hj:=(ag.mp hc).1
 have hg:=(ag.mp hc).2
 have e:chAt ch m=(chAt ch m).take j++([c]++(chAt ch m).drop (j+1)):=by
  have:=(bo j (chAt ch m)).symm
  rw[gH hj,hg] at this
  exact this
 rw[jAX o h hn]
 conv=>lhs; rw[e]
 rw[aR,aR,jDI,jDI]
 have b:(wJ (((chAt ch m).take j).map fun c=>(c.1,wk ch (m|||c.2)))).length=befW ch m j:=rfl
 rw[aZ (by rw[b]; omega),b,cj]
 have w1:wJ ([c].map fun c=>(c.1,wk ch (m|||c.2)))=(wk ch (m|||c.2)).map fun x=>if c.1<0 then x else c.1::x:=jOX _ _
 rw[w1,bM (by rw[ae]; exact hp),aI]
theorem jN5 {ch:Ch}{m p:Nat}(o:ChOk ch)(h:m<2 ^ ch.length)(hn:m≠fullN ch)(hp:p<(wk ch m).length):∃ j c,(chAt ch m)[j]?=some c/\befW ch m j<=p/\p - befW ch m j<(wk ch (m|||c.2)).length:=by
 have ha:p<befW ch m (chAt ch m).length:=by rw[jJ9 o h hn]; exact hp
 have key:∀ n,n<=(chAt ch m).length->p<befW ch m n->∃ j c,(chAt ch m)[j]?=some c/\befW ch m j<=p/\p - befW ch m j<(wk ch (m|||c.2)).length:=by
  intro n
  induction n with
  | zero=>intro _ z; exact absurd z (cR _)
  | succ n ih=>
   intro hl z
   rcases eB p (befW ch m n) with q | q
   ·exact ih (by omega) q
   ·have hc:(chAt ch m)[n]?=some ((chAt ch m)[n]'hl):=ax hl
    rw[jC8 hc] at z
    exact⟨n,_,hc,q,by omega⟩
 exact key _ (ak _) ha
section
variable {P:Program}{w:World}{K:W.Frag}{mg:Str->Option Value}{base:Heap}
variable {f fF fA:Addr}{fdF fdA:FuncData}{cdv:Value}{A:Around}{outer:List Env}{s:Shared}{H0:Hp}{E:XK}
abbrev jIP:List Str:=["choices","ways","place","taken","mask","number","more"]
theorem scAlong:FnScope jIP ["choices","ways","place"] (j8 qB):=⟨rfl,rfl,rfl,by decide+kernel,rfl,by decide+kernel,by decide+kernel⟩
def jCF:Sp:=fun vs H Q _=>∃ (L r:Addr) (ch:Ch) (ns:List Nat) (n:Nat) (x:List Int),vs=[.ref L, .ref r, .int (n:Int)]/\ChAt H L ch/\ChOk ch/\ch.length<=16/\GotAt H r ch (RWay ch) ns/\ns.Pairwise (· > ·)/\MetOk ch ns/\(wk ch 0)[n]?=some x/\∀ q H',H' q=some (.tup ((srt x).map V.int))->Ext H H'->H q=none->Q (.ref q) H'
def jUH (T:Txt mg)(CF:Can P w K mg base "full_mask" 1 fF fdF ["choices"] jCT)(CA:Can P w K mg base "choices_at" 1 fA fdA ["choices","mask"] spAt)(hr:Room 1 (XOf jIP "covering_along" qB P w K mg base f cdv A outer s H0 E).A): { t:TS // JSs (XOf jIP "covering_along" qB P w K mg base f cdv A outer s H0 E) (jC qB) t} :=
 have nd:=scAlong.nd
 ⟨_,(jB (jK (i:=3) nd rfl lL (yR j7) jFR)
   (jB (jK (i:=4) nd rfl lL (je_int) jD3)
   (jB (jIT bG (jM op_ne (jv 4 rfl vL) (CF.je (hr.mono (by decide)) gD (j4 (jv 0 rfl vL) j7 j3) j3) (jG _)) (jD (yV bG rfl (jAU (CA.je (hr.mono (by decide)) gD (j4 (jv 0 rfl vL) (j4 (jv 4 rfl vL) j7 j3) j3) j3)) (jDC (i:=5) (j:=6) nd rfl rfl (by decide+kernel) (by decide+kernel)) (jB (kT (jM op_lt (jv 2 rfl vL) (jB2 (qN hr) (jv 1 rfl vL) (kJ op_or (jv 4 rfl vL) (jv 6 rfl vL)) jG2) (jG _)) (jB (jE0 (je_bm bW eM eN jB1 (jv 3 rfl vL) (j4 (jv 5 rfl vL) j7 j3) j3) jQ)
   (jB (jIU (i:=4) nd rfl lL (jv 6 rfl vL) ip_or)
   (jD (⟨jIF⟩)))) jR)
   (jD (jIU (i:=2) nd rfl lL (jB2 (qN hr) (jv 1 rfl vL) (kJ op_or (jv 4 rfl vL) (jv 6 rfl vL)) jG2) jU8))) kN)))
   (jD (jH (kU jA0 gD T.tuple (by decide+kernel) (j4 (jE jGM gD T.sorted (by decide+kernel) (j4 (kZ (m:=[none]) (Nc:=["number"]) rfl (jAU (jv 3 rfl vL)) rfl (by decide+kernel) (by decide+kernel) (kS (psc:=j8 qB) (by decide+kernel)) (jS (N:=jIP) rfl rfl (by decide+kernel)) (fun cl C fp s H=>jW (i:=0) (show (["number"]:List Str).Nodup by decide+kernel) rfl (qJ (by decide+kernel))) (fun cl C fp s H=>jDZ (jM op_ge (jv 0 rfl (kD (by decide+kernel))) (je_int) (jG _))) (fun cl C fp s H=>(jv 0 rfl (kD (by decide+kernel)))) jAV) j7 jV) jV) j7 jJ) jJ))))))⟩
end
theorem jPN {H:Hp}{r:Addr}{ch:Ch}{ns:List Nat}{m c:Nat}(g:GotAt H r ch (RWay ch) ns)(nd:ns.Pairwise (· > ·))(h:(m|||c)∈ns):DGet H r (.int (Builtin.bitOr (m:Int) (c:Int))) (some (natV (wk ch (m|||c)).length)):=by
 obtain⟨us,h1,h2⟩:=g.ex
 obtain⟨u,hu,ru⟩:=jD2 h2 (nd.imp fun {a b} h=>by omega) h
 have ru:u=natV _:=ru
 subst ru
 rw[jAK]
 have:=DGet.k (k:=Sum.inl (((m|||c:Nat):Nat):Int)) h1
 rw[hu] at this
 exact this
theorem GotAt.ext {H H':Hp}{r:Addr}{ch:Ch}{ns:List Nat}(g:GotAt H r ch (RWay ch) ns)(e:Ext H H'):GotAt H' r ch (RWay ch) ns:=let ⟨us,a,b⟩:=g.ex; ⟨us,e _ _ a,b⟩
section
variable {P:Program}{w:World}{K:W.Frag}{mg:Str->Option Value}{base:Heap}
variable {f fF fA:Addr}{fdF fdA:FuncData}{cdv:Value}{A:Around}{outer:List Env}{s:Shared}{H0:Hp}{E:XK}
theorem jO2 {fd:FuncData}(F:Fun K "covering_along" "covering_along" qB f fd)(T:Txt mg)(CF:Can P w K mg base "full_mask" 1 fF fdF ["choices"] jCT)(CA:Can P w K mg base "choices_at" 1 fA fdA ["choices","mask"] spAt):FnOk P w K mg base CX0 2 f fd ["choices","ways","place"] jCF:=by
 refine F.ok scAlong (fun vs H Q E h=>?_) (fun cdv A outer s H vs Q E hr h=>?_)
 ·obtain⟨_,_,_,_,_,_,rfl,_⟩:=h
  rfl
 ·obtain⟨L,r,ch,ns,n,x,rfl,hL,o,w16,got,srt',mt,hx,q⟩:=h
  refine⟨_,(jUH T CF CA hr).2.h,?_⟩
  have p16:2 ^ ch.length<=2 ^ 16:=cr (by decide) w16
  have x16:=(jSG o 0 (dh _) x (ao hx)).2
  refine⟨by show (0:Nat)<=_; decide,fun l H1 d1 e1 n1=>?_⟩
  refine⟨fun k σ H'=>∃ (m p:Nat) (ks y:List Int) (v5 v6:Option V),σ=[some (.ref L),some (.ref r),some (natV p),some (.ref l),some (natV m),v5,v6]/\Ext H H'/\H' l=some (.lst (ks.map V.int))/\m∈ns/\(wk ch m)[p]?=some y/\x=(ks.filter fun z=>decide (0<=z))++y/\ks.length<=m/\k=fullN ch - m,⟨_,0,n,[],x,_,_,rfl,e1,d1,mt.zero,hx,rfl,ak _,rfl⟩,?_⟩
  rintro k σ H2 ⟨m,p,ks,y,v5,v6,rfl,e2,hl2,hm,hy,hxe,hkl,rfl⟩
  have hm2:=mt.bnd m hm
  refine⟨_,rfl,_,rfl,L,ch,rfl,hL.ext e2,w16,rfl,_,rfl,?_⟩
  have nf:(!decide (natV m=natV (fullN ch)))=true↔m≠fullN ch:=by
   rw[dW,cG]
   refine not_congr ⟨fun h=>?_,fun h=>by rw[h]⟩
   have:=V.int.inj h
   omega
  refine ite2 (fun h=>?_) (fun h=>?_)
  ·have h:=nf.mp h
   have hml:m<fullN ch:=by unfold fullN at h ⊢; omega
   refine⟨fun σ' H'=>∃ (m' p:Nat) (ks y:List Int) (v5 v6:Option V),σ'=[some (.ref L),some (.ref r),some (natV p),some (.ref l),some (natV m'),v5,v6]/\Ext H H'/\H' l=some (.lst (ks.map V.int))/\m'∈ns/\(wk ch m')[p]?=some y/\x=(ks.filter fun z=>decide (0<=z))++y/\ks.length<=m'/\m<m',fun σ' H' ⟨m',p,ks,y,v5,v6,a1,a2,a3,a4,a5,a6,a7,a8⟩=>⟨fullN ch - m',by omega,m',p,ks,y,v5,v6,a1,a2,a3,a4,a5,a6,a7,rfl⟩,?_⟩
   refine⟨_,rfl,_,rfl,L,ch,m,rfl,hL.ext e2,o,hm2,h,fun r3 H3 ⟨vs,hr3,av⟩ e3 n3=>?_⟩
   have E3:=e2.trans e3
   have hl3:=e3 _ _ hl2
   have pl:=(ag.mp hy).1
   refine⟨r3,rfl,⟨_,SqL.of hr3⟩,jDD (xs:=vs) (fun i σ H'=>H'=H3/\befW ch m i<=p/\∃ v5 v6,σ=[some (.ref L),some (.ref r),some (natV (p - befW ch m i)),some (.ref l),some (natV m),v5,v6]) ⟨rfl,bb _,_,_,rfl⟩ (fun i σ H' _ ⟨e,_⟩=>by rw[e]; exact SqL.of hr3) ?_ ?_⟩
   ·rintro i z σ H' hz ⟨rfl,hb,v5,v6,rfl⟩
    obtain⟨c,hc,qa,rfl,hq⟩:=av.get' hz
    have hcm:=ao hc
    obtain⟨u1,u2⟩:=o.up hm2 h hcm
    have un:=mt.up m hm h c hcm
    have dg:=jPN (got.ext E3) srt' un
    refine⟨qa,_,rfl,SqT.of hq,rfl,_,_,rfl,_,_,rfl,rfl,?_⟩
    refine⟨_,rfl,_,rfl,_,rfl,_,rfl,_,_,rfl,rfl,r,_,rfl,dg,_,_,rfl,rfl,_,rfl,?_⟩
    refine ite2 (fun h'=>?_) (fun h'=>?_)
    ·have lt:p - befW ch m i<(wk ch (m|||c.2)).length:=by
      have:=aJ h'
      omega
     refine⟨_,rfl, .inl ⟨rfl,_,SqL.of hl3⟩,_,rfl,l,_,_,rfl,rfl,hl3,by rw[ae,aO]; omega,?_⟩
     refine⟨_,rfl,_,rfl,_,_,rfl,rfl,?_⟩
     rw[jAK]
     have g1:=jOW o hm2 h hc lt
     rw[show befW ch m i+(p - befW ch m i)=p by omega,hy] at g1
     obtain⟨y',hy'⟩:∃ y',(wk ch (m|||c.2))[p - befW ch m i]?=some y':=⟨_,ax lt⟩
     rw[hy'] at g1
     have g1:y=if c.1<0 then y' else c.1::y':=aU g1
     refine⟨m|||c.2,p - befW ch m i,ks++[c.1],y',_,_,rfl,E3.updNew n1 _,?_,un,hy',?_,by rw[aE]; show _+1<=_; omega,u1⟩
     ·rw[j6,aR]; rfl
     ·rw[hxe,g1,bX]
      by_cases c0:c.1<0
      ·rw[aj c0,g7 (by simp; omega),gc,br]
      ·rw[ai c0,g8 (by simp; omega),gc,aQ]
       rfl
    ·have ge:(wk ch (m|||c.2)).length<=p - befW ch m i:=by
      have h3:¬ (((p - befW ch m i:Nat):Int)<((wk ch (m|||c.2)).length:Int)):=fun z=>h' (am z)
      omega
     refine⟨_,rfl,_,rfl,_,rfl,_,rfl,_,_,rfl,rfl,r,_,rfl,dg,_,_,rfl,rfl,rfl,by rw[jC8 hc]; omega,some (.int c.1),some (natV c.2),?_⟩
     rw[jC8 hc]
     show [_,_,some (V.int (((p - befW ch m i:Nat):Int) - ((wk ch (m|||c.2)).length:Int))),_,_,_,_]=_
     rw[show ((p - befW ch m i:Nat):Int) - ((wk ch (m|||c.2)).length:Int)=((p - (befW ch m i+(wk ch (m|||c.2)).length):Nat):Int) by omega]
   ·rintro σ H' ⟨rfl,hb,v5,v6,rfl⟩
    rw[av.len,jJ9 o hm2 h] at hb
    omega
  ·have h:m=fullN ch:=bz fun z=>h (nf.mpr z)
   subst h
   rw[jAY] at hy
   have y0:y=[]:=by
    cases p with
    | zero=>exact(aU hy).symm
    | succ p=>cases hy
   subst y0
   rw[br] at hxe
   refine⟨_,rfl,l,rfl,⟨_,SqL.of hl2⟩,jC7 (xs:=ks.map V.int) (fun σ=>∃ v,σ=[v]) (outZ ks (fun z=>decide (0<=z)) V.int) (outZ.ok _ _ _) hl2 (by rw[ae,aO]; omega) ⟨_,rfl⟩ ?_ ?_⟩
   ·rintro j z σ' H' zs hz ⟨v,rfl⟩ e hzz S1 S2 yes no
    obtain⟨k,hk,rfl⟩:=int_at hz
    refine⟨_,rfl,_,_,rfl,rfl,_,rfl,?_⟩
    refine ite2 (fun h'=>?_) (fun h'=>?_)
    ·exact⟨_,rfl,yes _ _ _ ⟨_,rfl⟩ (Ext.refl _) (hzz.yes hk h')⟩
    ·exact no _ _ ⟨_,rfl⟩ (Ext.refl _) (hzz.no hk (fg.mpr h'))
   ·rintro D H3 zs h3 e3 n3 hz
    have hz:=hz.all (by rw[ae]; exact ak _)
    rw[<- hxe] at hz
    subst hz
    refine⟨D,_,rfl,SqL.of h3,by omega,fun l3 ns' hl3 hs3 hp3=>?_⟩
    have ens:=jP3 hs3 hp3
    subst ens
    have e4:Ext H3 (L2.upd H3 l3 (.lst ((srt x).map V.int))):=(Ext.refl _).new hl3 _
    have f4:(L2.upd H3 l3 (.lst ((srt x).map V.int))) l3=some (.lst ((srt x).map V.int)):=j6
    generalize L2.upd H3 l3 (.lst ((srt x).map V.int))=H4 at e4 f4
    refine⟨l3,_,rfl, .inl ⟨SqL.of f4,fun q5 hq5=>?_⟩⟩
    have E4:=(e2.trans e3).trans e4
    exact q q5 _ j6 (E4.trans ((Ext.refl _).new hq5 _)) (jPB E4 hq5)
end
def rkP (pcs:List (List Int×Int))(x:List Int)(t:Int):Int:=((x.filter fun k=>decide (t∈j5 pcs k))++[-1]).headD 0
def rkL (w:Nat)(pcs:List (List Int×Int))(x:List Int):List Int:=(upto w).map (rkP pcs x)
section
variable {pcs:List (List Int×Int)}{x y:List Int}{t k:Int}
theorem jKP (h:t∈j5 pcs k):rkP pcs (k::x) t=k:=by
 unfold rkP
 rw[g8 (by simpa using h)]
 rfl
theorem rk_no (h:t∉j5 pcs k):rkP pcs (k::x) t=rkP pcs x t:=by
 unfold rkP
 rw[g7 (by simpa using h)]
theorem jDN (h:∀ k∈x,t∉j5 pcs k):rkP pcs x t= -1:=by
 unfold rkP
 rw[List.filter_eq_nil_iff.mpr fun k hk=>by simpa using h k hk]
 rfl
theorem rk_is (hk:k∈x)(ht:t∈j5 pcs k)(u:∀ k'∈x,t∈j5 pcs k'->k'=k):rkP pcs x t=k:=by
 induction x with
 | nil=>cases hk
 | cons a r ih=>
  by_cases h:t∈j5 pcs a
  ·rw[jKP h]
   exact u a (aw ..) h
  ·rw[rk_no h]
   rcases aB.mp hk with z | z
   ·rw[z] at ht
    exact absurd ht h
   ·exact ih z fun k' hk'=>u k' (ar _ hk')
theorem jKQ (h:∀ k,k∈x↔k∈y)(d:∀ k∈x,∀ k'∈x,k≠k'->∀ t∈j5 pcs k,t∉j5 pcs k'):rkP pcs x t=rkP pcs y t:=by
 by_cases e:∃ k∈x,t∈j5 pcs k
 ·obtain⟨k,hk,ht⟩:=e
  have u:∀ k'∈x,t∈j5 pcs k'->k'=k:=fun k' hk' ht'=>bz fun n=>d k' hk' k hk n t ht' ht
  rw[rk_is hk ht u,rk_is ((h k).mp hk) ht fun k' hk'=>u k' ((h k').mpr hk')]
 ·have e1:∀ k∈x,t∉j5 pcs k:=fun k hk ht=>e ⟨k,hk,ht⟩
  rw[jDN e1,jDN fun k hk=>e1 k ((h k).mpr hk)]
end
theorem jHA (w:Nat)(pcs:List (List Int×Int))(x:List Int):(rkL w pcs x).length=w:=by
 unfold rkL
 rw[ae,jA8]
theorem jKR {w t:Nat}{pcs:List (List Int×Int)}{x:List Int}(h:t<w):(rkL w pcs x)[t]?=some (rkP pcs x (t:Int)):=by
 unfold rkL
 rw[aI,jAC h]
 rfl
theorem jMS {w:Int}{ms:List Int}{pcs:List (List Int×Int)}{m:Nat}(hl:lowN m<w.toNat):(chAt (chs w.toNat ms pcs) m).Pairwise fun a b=>a.1<b.1:=by
 unfold chAt
 refine iR _ ?_
 unfold chs
 rw[aA,jA9 hl]
 show (yS ms pcs pcs.length (lowN m)).Pairwise _
 unfold yS
 have up:∀ n:Nat,(((upto pcs.length).take n).filter fun k=>decide ((j5 pcs k).headD 0=(lowN m:Int))).Pairwise (· < ·):=fun n=>iR _ ((jB6 pcs.length).ris.sublist (da _ _))
 refine cm.mpr ⟨?_,bS.mpr (up _),?_⟩
 ·split
  ·exact eX _ _
  ·exact List.Pairwise.nil
 ·intro a ha b hb
  obtain⟨k,hk,rfl⟩:=aW.mp hb
  have:=(jB6 pcs.length).bnd k (bR (cx.mp hk).1)
  split at ha
  ·rw[aN.mp ha]
   show (-1:Int)<k
   omega
  ·cases ha
section
variable {w:Int}{ms:List Int}{pcs:List (List Int×Int)}(g:Good 16 32 w ms pcs)
include g
theorem wk_rk {m:Nat}(hm:m<2 ^ (chs w.toNat ms pcs).length)(hn:m≠fullN (chs w.toNat ms pcs)){c:Int×Nat}(hc:c∈chAt (chs w.toNat ms pcs) m){y:List Int}(hy:y∈wk (chs w.toNat ms pcs) (m|||c.2)):
  (∀ t:Nat,c.2.testBit t=true->rkP pcs (if c.1<0 then y else c.1::y) t=c.1)/\(∀ t:Nat,c.2.testBit t=false->rkP pcs (if c.1<0 then y else c.1::y) t=rkP pcs y t):=by
 have o:=qF (n:=pcs.length) g
 have hl:lowN m<w.toNat:=by
  have:=jC0 hm hn
  unfold chs at this
  rwa [kW] at this
 have u:=o.up hm hn hc
 have S:=jB4 g _ u.2 y hy
 rcases ((jDA hl).mp hc).2 with ⟨rfl,h2⟩ | ⟨k,rfl,k0,k1,h2⟩
 ·refine⟨fun t ht=>?_,fun t ht=>?_⟩
  ·rw[aj (by show (-1:Int)<0; decide)]
   refine jDN fun k hk z=>?_
   have:=S.off k hk _ z
   rw[bq,bP,ht,ev] at this
   cases this
  ·rw[aj (by show (-1:Int)<0; decide)]
 ·refine⟨fun t ht=>?_,fun t ht=>?_⟩
  ·rw[ai (by show ¬ k<0; omega)]
   rw[show (k,maskN (j5 pcs k)).2=maskN (j5 pcs k) from rfl,jCW g k0 k1] at ht
   exact jKP (aJ ht)
  ·rw[ai (by show ¬ k<0; omega)]
   rw[show (k,maskN (j5 pcs k)).2=maskN (j5 pcs k) from rfl,jCW g k0 k1] at ht
   exact rk_no (dO ht)
end
theorem jHK {n:Int}{ks:List Int}(h:ks.Pairwise (· < ·))(hb:∀ k∈ks,0<=k/\k<n):lotB n (.tup (ks.map Ob.int))=true:=by
 have hv:(ks.map Ob.int).map val=ks:=by rw[cC]; exact jd _
 show ((ks.map Ob.int).all (upB 0 (n - 1))&&(adj ((ks.map Ob.int).map val)).all id)=true
 rw[hv,bF,bi,bi]
 refine⟨fun x hx=>?_,fun x hx=>?_⟩
 ·obtain⟨k,hk,rfl⟩:=aW.mp hx
  have:=hb k hk
  show (decide (0<=k)&&decide (k<=n - 1))=true
  rw[am (by omega),am (by omega)]
  rfl
 ·unfold adj at hx
  obtain⟨i,hi,rfl⟩:=aW.mp hx
  have hi:=bY.mp hi
  refine am ?_
  rw[jM7 (by omega),jM7 (by omega)]
  exact bx.mp h i (i+1) (by omega) (by omega) (by omega)
theorem jDR {H:Hp}{vs:List V}{pcs:List (List Int×Int)}(h:PcsAt H vs pcs){k:Int}(h0:0<=k)(h1:k<pcs.length):∃ a q,atI vs k=some (.ref a)/\H a=some (.tup [.ref q, .int (pcs.getD k.toNat ([],0)).2])/\H q=some (.tup ((j5 pcs k).map V.int)):=by
 obtain⟨v,hv,a,q,rfl,b1,b2⟩:=h.get (k:=k.toNat) (by omega)
 refine⟨a,q,?_,b1,b2⟩
 have e:((k.toNat:Nat):Int)=k:=by omega
 have:=yT hv
 rw[e] at this
 exact this
theorem jJ1 {f:Int->List Int} :∀ {ks:List Int},(∀ k∈ks,(f k).length<=16)->∀ (i:Nat),ks.length<=i->(ks.flatMap f).length<=16*i
 | [],_,_,_=>by rw[List.flatMap_nil]; exact bb _
 | a::r,h,i,hi=>by
  rw[fi,aE]
  have h1:=h a aw
  rw[aK] at hi
  have:=jJ1 (f:=f) (ks:=r) (fun k hk=>h k (ar _ hk)) (i - 1) (by omega)
  omega
theorem jRK {w:Int}{ts:List Int}(h:ts.Pairwise (· < ·))(b:∀ z∈ts,0<=z/\z<w)(hw:w<=16):ts.length<=16:=by
 have:=jB0 ts 0 w h b
 omega
theorem jJF {w:Int}{ms:List Int}{pcs:List (List Int×Int)}(g:Good 16 32 w ms pcs){k:Int}(h0:0<=k)(h1:k<pcs.length):(j5 pcs k).length<=16:=by
 have:=g.at (k:=k.toNat) (by omega)
 exact jRK this.lot.ris this.lot.bnd g.w1
section
variable {P:Program}{w:World}{K:W.Frag}{mg:Str->Option Value}{base:Heap}
variable {f fF fA:Addr}{fdF fdA:FuncData}{cdv:Value}{A:Around}{outer:List Env}{s:Shared}{H0:Hp}{E:XK}
theorem jRV {n j:Nat}(h:j<n):ixN n (j:Int)=some j:=by
 unfold ixN
 simp
 omega
noncomputable abbrev nRank:List Str:=["box","covering","rank","number","thing"]
theorem scRank:FnScope nRank ["box","covering"] (j8 sRank):=⟨rfl,rfl,rfl,by decide+kernel,rfl,by decide+kernel,by decide+kernel⟩
def jEE:Sp:=fun vs H Q _=>∃ (b a:Addr) (w:Int) (ms:List Int) (pcs:List (List Int×Int)) (c:List Int),vs=[.ref b, .ref a]/\BoxAt H b w ms pcs/\Good 16 32 w ms pcs/\H a=some (.tup (c.map V.int))/\IsCov w ms pcs c/\∀ q H',H' q=some (.tup ((rkL w.toNat pcs c).map V.int))->Ext H H'->Q (.ref q) H'
def rankA (T:Txt mg)(hr:Room 1 (XOf nRank "rank_of" sRank P w K mg base f cdv A outer s H0 E).A): { t:TS // JSs (XOf nRank "rank_of" sRank P w K mg base f cdv A outer s H0 E) (jC sRank) t} :=
 have nd:=scRank.nd
 ⟨_,(jB (jK (i:=2) nd rfl lL (kJ jTG (yR (j4 (je_un jI1 (je_int)) j7 se_un)) (kB kQ (jv 0 rfl vL) (je_int) jI)) jI5)
   (jB (yV bG rfl (jD0 (jv 1 rfl vL)) (jW (i:=3) nd rfl lL) (jD (yV bG rfl (jD0 (kB kQ (kB kQ (kB kQ (jv 0 rfl vL) (je_int) jI) (jv 3 rfl vL) yG) (je_int) jI)) (jW (i:=4) nd rfl lL) (jD (jU1 (jv 3 rfl vL) (jU3 (jv 2 rfl vL) (jv 4 rfl vL) jIA))) jPO)) jAV)
   (jD (jH (kU jA0 gD T.tuple (by decide+kernel) (j4 (jv 2 rfl vL) j7 j3) j3)))))⟩
theorem jR6 {fd:FuncData}(F:Fun K "rank_of" "rank_of" sRank f fd)(T:Txt mg):FnOk P w K mg base CX0 2 f fd ["box","covering"] jEE:=by
 refine F.ok scRank (fun vs H Q E h=>?_) (fun cdv A outer s H vs Q E hr h=>?_)
 ·obtain⟨_,_,_,_,_,_,rfl,_⟩:=h
  rfl
 ·obtain⟨b,a,wi,ms,pcs,c,rfl,hB,g,ha,C,q⟩:=h
  refine⟨_,(rankA T hr).2.h,?_⟩
  obtain⟨qm,qp,ps,b1,b2,b3,b4⟩:=id hB.ex
  have w0:=g.w0
  have w1:=g.w1
  have cl:=jB0 c 0 _ C.ris.ris C.ris.bnd
  have gl:=g.pl
  refine⟨1,rfl,by show (1:Nat)<=_; decide,fun l0 H1 d1 e1 n1=>?_⟩
  refine⟨_,rfl,b,_,0,_,rfl,rfl,SqT.of (e1 _ _ b1),rfl,l0,wi,_,rfl,rfl,d1,by omega,by omega,by rw[aO]; show 1*_<=_; omega,fun l nl=>?_⟩
  have e2:Ext H1 (L2.upd H1 l (.lst (replicate wi.toNat [V.int (-1)]).flatten)):=(Ext.refl _).new nl _
  have hl0:(L2.upd H1 l (.lst (replicate wi.toNat [V.int (-1)]).flatten)) l=some (.lst ((rkL wi.toNat pcs []).map V.int)):=by
   rw[j6]
   congr 2
   unfold rkL
   have:∀ n:Nat,(replicate n [V.int (-1)]).flatten=((upto n).map (rkP pcs [])).map V.int:=fun n=>by
    refine fe fun i=>?_
    rw[aI,aI]
    rw[show (replicate n [V.int (-1)]).flatten=replicate n (V.int (-1)) by
     induction n with
     | zero=>rfl
     | succ n ih=>rw[cg,dU,ih,cg]; rfl,eV]
    by_cases hi:i<n
    ·rw[aj hi,jAC hi]
     rfl
    ·rw[ai hi,cB (by rw[jA8]; omega)]
     rfl
   exact this _
  generalize L2.upd H1 l (.lst (replicate wi.toNat [V.int (-1)]).flatten)=H2 at e2 hl0
  have E2:=e1.trans e2
  have nH:H l=none:=jPB e1 nl
  refine⟨_,rfl,a,rfl,⟨_,SqT.of (E2 _ _ ha)⟩,jHR (xs:=c.map V.int) (fun i σ H'=>(∃ v3 v4,σ=[some (.ref b),some (.ref a),some (.ref l),v3,v4])/\Ext H H'/\H' l=some (.lst ((rkL wi.toNat pcs (c.take i)).map V.int))) ⟨⟨_,_,rfl⟩,E2,hl0⟩ (fun i σ H' _ ⟨_,e,_⟩=>SqT.of (e _ _ ha)) ?_ ?_⟩
  ·rintro i v σ H3 hv ⟨⟨v3,v4,rfl⟩,e3,hl3⟩
   obtain⟨k,hk,rfl⟩:=int_at hv
   have km:=ao hk
   have kb:=C.ris.bnd k km
   obtain⟨pa,pq,g1,g2,g3⟩:=jDR b4 kb.1 kb.2
   have kg:=yH g kb.1 kb.2
   have tk:c.take (i+1)=c.take i++[k]:=by rw[bh,hk]; rfl
   have stp:∀ t:Int,rkP pcs (c.take (i+1)) t=if t∈j5 pcs k then k else rkP pcs (c.take i) t:=fun t=>by
    have il:=(ag.mp hk).1
    have cn:c.Nodup:=C.ris.ris.imp fun {a b} h=>by omega
    have sub:∀ z∈c.take (i+1),z∈c:=fun z hz=>bR hz
    have dj:∀ k∈c.take (i+1),∀ k'∈c.take (i+1),k≠k'->∀ t∈j5 pcs k,t∉j5 pcs k':=fun x hx y hy=>C.dis x (sub x hx) y (sub y hy)
    rw[jKQ (y:=k::c.take i) (fun z=>by rw[tk,aM,aN,aB,or_comm]) dj]
    by_cases h:t∈j5 pcs k
    ·rw[aj h,jKP h]
    ·rw[ai h,rk_no h]
   refine⟨_,rfl,b,_,2,_,rfl,rfl,SqT.of (e3 _ _ b1),rfl,_,rfl,qp,_,k,_,rfl,rfl,SqT.of (e3 _ _ b3),g1,pa,_,0,_,rfl,rfl,SqT.of (e3 _ _ g2),rfl,pq,rfl,⟨_,SqT.of (e3 _ _ g3)⟩,jHR (xs:=(j5 pcs k).map V.int) (fun j σ H'=>(∃ v4,σ=[some (.ref b),some (.ref a),some (.ref l),some (.int k),v4])/\Ext H H'/\H' l=some (.lst (((upto wi.toNat).map fun t=>if t∈(j5 pcs k).take j then k else rkP pcs (c.take i) t).map V.int))) ⟨⟨_,rfl⟩,e3,by rw[hl3]; rfl⟩ (fun i σ H' _ ⟨_,e,_⟩=>SqT.of (e _ _ g3)) ?_ ?_⟩
   ·rintro j v σ H4 hv ⟨⟨v4,rfl⟩,e4,hl4⟩
    obtain⟨t,ht,rfl⟩:=int_at hv
    have tm:=ao ht
    have tb:=kg.bnd t tm
    refine⟨_,rfl,_,rfl,_,rfl,l,_,t,t.toNat,rfl,rfl,hl4,?_,⟨_,rfl⟩,e4.updNew nH _,?_⟩
    ·rw[ae,ae,jA8]
     have:=jRV (n:=wi.toNat) (j:=t.toNat) (by omega)
     rwa [show ((t.toNat:Nat):Int)=t by omega] at this
    ·rw[j6]
     congr 2
     have tk2:(j5 pcs k).take (j+1)=(j5 pcs k).take j++[t]:=by rw[bh,ht]; rfl
     rw[tk2]
     refine fe fun i'=>?_
     rw[gN,aI,aI,aI,aI,ae,ae,jA8]
     by_cases hi:t.toNat=i'
     ·subst hi
      rw[aj rfl,aj (by omega),jAC (by omega)]
      show _=some (V.int (if ((t.toNat:Nat):Int)∈_ then k else _))
      rw[show ((t.toNat:Nat):Int)=t by omega,aj (aH _ (aN.mpr rfl))]
     ·rw[ai hi]
      cases hu:(upto wi.toNat)[i']? with
      | none=>rfl
      | some u=>
       have hu2:u≠t:=fun z=>by
        have il:i'<wi.toNat:=by have:=(ag.mp hu).1; rwa [jA8] at this
        rw[jAC il] at hu
        have:=aU hu
        omega
       show some (V.int (if u∈(j5 pcs k).take j then k else _))=some (V.int (if u∈(j5 pcs k).take j++[t] then k else _))
       have hm:u∈(j5 pcs k).take j++[t]↔u∈(j5 pcs k).take j:=by
        rw[aM,aN]
        exact⟨fun z=>z.resolve_right hu2,fun z=> .inl z⟩
       by_cases h:u∈(j5 pcs k).take j
       ·rw[aj h,aj (hm.mpr h)]
       ·rw[ai h,ai fun z=>h (hm.mp z)]
   ·rintro σ H4 ⟨⟨v4,rfl⟩,e4,hl4⟩
    refine⟨⟨_,_,rfl⟩,e4,?_⟩
    rw[hl4,ae,bw]
    congr 3
    unfold rkL
    exact cO fun t _=>(stp t).symm
  ·rintro σ H3 ⟨⟨v3,v4,rfl⟩,e3,hl3⟩
   rw[ae,bw] at hl3
   refine⟨_,rfl,l,_,rfl, .inl ⟨SqL.of hl3,fun q5 hq5=>?_⟩⟩
   exact q q5 _ j6 (e3.trans ((Ext.refl _).new hq5 _))
abbrev jLD:List Str:=["choices","ways","rank","place","mask","thing","number","more"]
theorem scPlace:FnScope jLD ["choices","ways","rank"] (j8 jBF):=⟨rfl,rfl,rfl,by decide+kernel,rfl,by decide+kernel,by decide+kernel⟩
def jCE:Sp:=fun vs H Q _=>∃ (L r a:Addr) (w:Int) (ms:List Int) (pcs:List (List Int×Int)) (ns:List Nat) (n:Nat) (x:List Int),vs=[.ref L, .ref r, .ref a]/\Good 16 32 w ms pcs/\ChAt H L (chs w.toNat ms pcs)/\GotAt H r (chs w.toNat ms pcs) (RWay (chs w.toNat ms pcs)) ns/\ns.Pairwise (· > ·)/\MetOk (chs w.toNat ms pcs) ns/\H a=some (.tup ((rkL w.toNat pcs x).map V.int))/\(wk (chs w.toNat ms pcs) 0)[n]?=some x/\∀ H',Ext H H'->Q (natV n) H'
def jT4 (T:Txt mg)(CA:Can P w K mg base "choices_at" 1 fA fdA ["choices","mask"] spAt)(hr:Room 1 (XOf jLD "place_of" jBF P w K mg base f cdv A outer s H0 E).A): { t:TS // JSs (XOf jLD "place_of" jBF P w K mg base f cdv A outer s H0 E) (jC jBF) t} :=
 have nd:=scPlace.nd
 ⟨_,(jB (jK (i:=3) nd rfl lL (je_int) jD3)
   (jB (jK (i:=4) nd rfl lL (je_int) jD3)
   (jB (yV bG rfl (jA5 gD T.range (j4 (jE jU gD T.len (by decide+kernel) (j4 (jv 2 rfl vL) j7 j3) j3) j7 jJ) jJ) (jW (i:=5) nd rfl lL) (jD (kT (jM yU (kJ jIK (kJ jPA (jv 4 rfl vL) (jv 5 rfl vL)) (je_int)) (je_int) (jG _)) (jD (yV bG rfl (jAU (CA.je hr gD (j4 (jv 0 rfl vL) (j4 (jv 4 rfl vL) j7 j3) j3) j3)) (jDC (i:=6) (j:=7) nd rfl rfl (by decide+kernel) (by decide+kernel)) (jB (kT (jM yU (jv 6 rfl vL) (kB kQ (jv 2 rfl vL) (jv 5 rfl vL) yG) (jG _)) (jB (jIU (i:=4) nd rfl lL (jv 7 rfl vL) ip_or)
   (jD (⟨jIF⟩))) jR)
   (jD (jIU (i:=3) nd rfl lL (jB2 (qN hr) (jv 1 rfl vL) (kJ op_or (jv 4 rfl vL) (jv 7 rfl vL)) jG2) jU9))) kN)) jR)) kN)
   (jD (jH (jv 3 rfl vL))))))⟩
theorem jNX {fd:FuncData}(F:Fun K "place_of" "place_of" jBF f fd)(T:Txt mg)(CA:Can P w K mg base "choices_at" 1 fA fdA ["choices","mask"] spAt):FnOk P w K mg base CX0 2 f fd ["choices","ways","rank"] jCE:=by
 refine F.ok scPlace (fun vs H Q E h=>?_) (fun cdv A outer s H vs Q E hr h=>?_)
 ·obtain⟨_,_,_,_,_,_,_,_,_,rfl,_⟩:=h
  rfl
 ·obtain⟨L,r,a,wi,ms,pcs,ns,n,x,rfl,g,hL,got,srt',mt,ha,hx,q⟩:=h
  refine⟨_,(jT4 T CA hr).2.h,?_⟩
  have o:ChOk (chs wi.toNat ms pcs):=qF g
  have w0:=g.w0
  have w1:=g.w1
  have cl:(chs wi.toNat ms pcs).length=wi.toNat:=kW _ _ _ _
  have rl:=jHA wi.toNat pcs x
  refine⟨_,rfl,a,_,rfl, .inr (SqT.of ha),?_⟩
  rw[ae,rl]
  refine⟨(wi.toNat:Int),rfl,by omega,by omega,jAN (n:=wi.toNat) (fun t σ H'=>Ext H H'/\∃ (m k p:Nat) (y:List Int) (v5 v6 v7:Option V),σ=[some (.ref L),some (.ref r),some (.ref a),some (natV k),some (natV m),v5,v6,v7]/\m∈ns/\(wk (chs wi.toNat ms pcs) m)[p]?=some y/\k+p=n/\(∀ j,j<t->m.testBit j=true)/\∀ j:Nat,m.testBit j=false->rkP pcs x j=rkP pcs y j) ⟨Ext.refl _,0,0,n,x,_,_,_,rfl,mt.zero,hx,by omega,fun j hj=>absurd hj (cR _),fun j _=>rfl⟩ ?_ ?_⟩
  ·rintro t σ H2 ht ⟨e2,m,k,p,y,v5,v6,v7,rfl,hm,hy,hkp,hb,hrk⟩
   have e0:(0+(t:Int))=(t:Int):=by omega
   have hm2:=mt.bnd m hm
   rw[e0]
   refine⟨_,rfl,_,rfl,_,_,rfl,rfl,by omega,_,_,rfl,rfl,rfl,_,rfl,?_⟩
   rw[jN4]
   refine ite2 (fun h=>?_) (fun h=>?_)
   ·have bt:m.testBit t=false:=by simpa using h
    have hlow:=jPE bt hb
    have hn:m≠fullN (chs wi.toNat ms pcs):=fun z=>by
     rw[z] at bt
     unfold fullN at bt
     rw[ci,cl,am ht] at bt
     cases bt
    refine⟨_,rfl,_,rfl,L,_,m,rfl,hL.ext e2,o,hm2,hn,fun r3 H3 ⟨vs,hr3,av⟩ e3 n3=>?_⟩
    have E3:=e2.trans e3
    have pl:=(ag.mp hy).1
    obtain⟨j,c,hc,b1,b2⟩:=jN5 o hm2 hn pl
    have hcm:=ao hc
    have g1:=jOW o hm2 hn hc b2
    rw[show befW (chs wi.toNat ms pcs) m j+(p - befW (chs wi.toNat ms pcs) m j)=p by omega,hy] at g1
    obtain⟨y',hy'⟩:∃ y',(wk (chs wi.toNat ms pcs) (m|||c.2))[p - befW (chs wi.toNat ms pcs) m j]?=some y':=⟨_,ax b2⟩
    rw[hy'] at g1
    have g1:y=if c.1<0 then y' else c.1::y':=aU g1
    obtain⟨r1,r2⟩:=wk_rk g hm2 hn hcm (ao hy')
    rw[<- g1] at r1 r2
    obtain⟨cb,_,_,_,_⟩:=o.mem hm2 hn hcm
    rw[hlow] at cb
    have rt:rkP pcs x (t:Int)=c.1:=(hrk t bt).trans (r1 t cb)
    have clt:=jMS (w:=wi) (ms:=ms) (pcs:=pcs) (m:=m) (by rw[hlow]; exact ht)
    refine⟨r3,rfl,⟨_,SqL.of hr3⟩,jDD (xs:=vs) (fun i σ H'=>H'=H3/\i<=j/\∃ v6 v7,σ=[some (.ref L),some (.ref r),some (.ref a),some (natV (k+befW (chs wi.toNat ms pcs) m i)),some (natV m),some (natV t),v6,v7]) ⟨rfl,bb _,_,_,rfl⟩ (fun i σ H' _ ⟨e,_⟩=>by rw[e]; exact SqL.of hr3) ?_ ?_⟩
    ·rintro i z σ H' hz ⟨rfl,hij,v6,v7,rfl⟩
     obtain⟨d,hd,qa,rfl,hq⟩:=av.get' hz
     have hdm:=ao hd
     have un:=mt.up m hm hn d hdm
     have dg:=jPN (got.ext E3) srt' un
     have same:d.1=c.1↔i=j:=by
      constructor
      ·intro z
       refine bz fun ne=>?_
       have lt:i<j:=by omega
       obtain⟨i1,i2⟩:=ag.mp hd
       obtain⟨j1,j2⟩:=ag.mp hc
       have:=bx.mp clt i j i1 j1 lt
       rw[i2,j2] at this
       omega
      ·intro z
       rw[z,hc] at hd
       rw[aU hd]
     have hat:atI ((rkL wi.toNat pcs x).map V.int) (t:Int)=some (.int (rkP pcs x (t:Int))):=yT (by rw[aI,jKR ht]; rfl)
     refine⟨qa,_,rfl,SqT.of hq,rfl,_,_,rfl,_,_,rfl,rfl,?_⟩
     refine⟨_,rfl,_,rfl,_,rfl,a,_,_,_,rfl,rfl,SqT.of (E3 _ _ ha),hat,rfl,_,rfl,?_⟩
     rw[jFH,rt]
     refine ite2 (fun h'=>?_) (fun h'=>?_)
     ·have ij:=same.mp (aJ h')
      subst ij
      have:d=c:=aU (hd.symm.trans hc)
      subst this
      refine⟨_,rfl,_,rfl,_,_,rfl,rfl,?_⟩
      rw[jAK]
      refine⟨E3,m|||d.2,_,p - befW (chs wi.toNat ms pcs) m i,y',_,_,_,rfl,un,hy',by omega,fun j' hj'=>?_,fun j' hj'=>?_⟩
      ·rw[bP]
       rcases eB j' t with z | z
       ·rw[hb j' z,i9]
       ·rw[show j'=t by omega,cb,ev]
      ·rw[bP,dZ] at hj'
       rw[hrk j' hj'.1,r2 j' hj'.2]
     ·have ij:i≠j:=fun z=>h' (am (same.mpr z))
      refine⟨_,rfl,_,rfl,_,rfl,_,rfl,_,_,rfl,rfl,r,_,rfl,dg,_,_,rfl,rfl,rfl,by omega,some (.int d.1),some (natV d.2),?_⟩
      rw[jC8 hd]
      show [_,_,_,some (V.int (((k+befW (chs wi.toNat ms pcs) m i:Nat):Int)+((wk (chs wi.toNat ms pcs) (m|||d.2)).length:Int))),_,_,_,_]=_
      rw[show ((k+befW (chs wi.toNat ms pcs) m i:Nat):Int)+((wk (chs wi.toNat ms pcs) (m|||d.2)).length:Int)=((k+(befW (chs wi.toNat ms pcs) m i+(wk (chs wi.toNat ms pcs) (m|||d.2)).length):Nat):Int) by omega]
    ·rintro σ H' ⟨rfl,hij,v6,v7,rfl⟩
     rw[av.len] at hij
     have:=(ag.mp hc).1
     omega
   ·have bt:m.testBit t=true:=by simpa using h
    refine⟨e2,m,k,p,y,_,_,_,rfl,hm,hy,hkp,fun j hj=>?_,hrk⟩
    rcases eB j t with z | z
    ·exact hb j z
    ·rw[show j=t by omega]
     exact bt
  ·rintro σ H2 ⟨e2,m,k,p,y,v5,v6,v7,rfl,hm,hy,hkp,hb,hrk⟩
   have hm2:=mt.bnd m hm
   have mf:m=fullN (chs wi.toNat ms pcs):=jM9 hm2 fun j hj=>hb j (by rwa [cl] at hj)
   subst mf
   rw[jAY] at hy
   have p0:p=0:=by
    cases p with
    | zero=>rfl
    | succ p=>cases hy
   refine⟨_,rfl,?_⟩
   rw[show k=n by omega]
   exact q H2 e2
end
theorem jGI {pcs:List (List Int×Int)}{t:Int} :∀ {c:List Int},c.Nodup->(∀ k∈c,(j5 pcs k).Nodup)->(∀ k∈c,∀ k'∈c,k≠k'->∀ t∈j5 pcs k,t∉j5 pcs k')->(c.flatMap (j5 pcs)).count t=if ∃ k∈c,t∈j5 pcs k then 1 else 0
 | [],_,_,_=>by simp
 | k::c,nd,hn,dj=>by
  obtain⟨n1,n2⟩:=bH.mp nd
  have ih:=jGI (t:=t) n2 (fun k hk=>hn k (ar _ hk)) fun k hk k' hk'=>dj k (ar _ hk) k' (ar _ hk')
  rw[fi,List.count_append,ih]
  have e1:(j5 pcs k).count t=if t∈j5 pcs k then 1 else 0:=(hn k (aw ..)).count
  rw[e1]
  by_cases h:t∈j5 pcs k
  ·have no:¬ ∃ k'∈c,t∈j5 pcs k':=fun ⟨k',h1,h2⟩=>dj k (aw ..) k' (ar _ h1) (fun e=>n1 (e ▸ h1)) t h h2
   rw[aj h,ai no,aj ⟨k,aw .., h⟩]
  ·rw[ai h,Nat.zero_add]
   by_cases q:∃ k'∈c,t∈j5 pcs k'
   ·rw[aj q,aj (let ⟨k',h1,h2⟩:=q; ⟨k',ar _ h1,h2⟩)]
   ·have nq:¬ ∃ k'∈k::c,t∈j5 pcs k':=fun ⟨k',h1,h2⟩=>by
     rcases aB.mp h1 with rfl | h1
     ·exact h h2
     ·exact q ⟨k',h1,h2⟩
    rw[ai q,ai nq]
section
variable {P:Program}{w:World}{K:W.Frag}{mg:Str->Option Value}{base:Heap}
variable {f fL:Addr}{fdL:FuncData}{cdv:Value}{A:Around}{outer:List Env}{s:Shared}{H0:Hp}{E:XK}
noncomputable abbrev nCov:List Str:=["box","thing","held","number"]
theorem scCov:FnScope nCov ["box","thing"] (j8 sCov):=⟨rfl,rfl,rfl,by decide+kernel,rfl,by decide+kernel,by decide+kernel⟩
def jEF:Sp:=fun vs H Q _=>∃ (b a:Addr) (w:Int) (ms:List Int) (pcs:List (List Int×Int)) (c:List Int),vs=[.ref b, .ref a]/\BoxAt H b w ms pcs/\Good 16 32 w ms pcs/\H a=some (.tup (c.map V.int))/\IsCov w ms pcs c/\∀ H',Ext H H'->Q (.bl true) H'
def covA (T:Txt mg)(CL:Can P w K mg base "is_lot" 3 fL fdL ["thing","many"] (spB2 lotB))(hr:Room 3 (XOf nCov "is_covering" sCov P w K mg base f cdv A outer s H0 E).A): { t:TS // JSs (XOf nCov "is_covering" sCov P w K mg base f cdv A outer s H0 E) (jC sCov) t} :=
 have nd:=scCov.nd
 ⟨_,(jB (kT (yX (yN (CL.je hr gD (j4 (jv 1 rfl vL) (j4 (jE jU gD T.len (by decide+kernel) (j4 (kB kQ (jv 0 rfl vC) (je_int) jI) j7 kL) kL) j7 jJ) j3) j3) kY)) (jD (jH (je_bl))) jR)
   (jB (jK (i:=2) nd rfl (loc_c (by decide+kernel)) (yR j7) jFR)
   (jB (yV bG rfl (jD0 (jv 1 rfl vL)) (jW (i:=3) nd rfl lL) (jD (jE0 (je_bm bW PySem.F.slot_list_extend PySem.F.type_list_extend jJM (jv 2 rfl vC) (j4 (kB kQ (kB kQ (kB kQ (jv 0 rfl vC) (je_int) jI) (jv 3 rfl vL) yG) (je_int) jI) j7 kL) kL) jQ)) jAV)
   (jD (jH (jE (jAO rfl) gD T.all (by decide+kernel) (j4 (kZ (m:=[none,some 2,some 0]) (Nc:=["one","held","box"]) rfl (jA5 gD T.range (j4 (kB kQ (jv 0 rfl vC) (je_int) jI) j7 kL) kL) rfl (by decide+kernel) (by decide+kernel) (kS (psc:=j8 sCov) (by decide+kernel)) (jS (N:=nCov) rfl rfl (by decide+kernel)) (fun cl C fp s H=>jW (i:=0) (show (["one","held","box"]:List Str).Nodup by decide+kernel) rfl (qJ (by decide+kernel))) (fun cl C fp s H=>yJ) (fun cl C fp s H=>((qD (kP op_le (jM0 bW g9 hG jG9 (jv 1 rfl (yC (by decide+kernel))) (j4 (jv 0 rfl (kD (by decide+kernel))) j7 j3) j3) (je_int) (jG _)) (yW ((je_or (kP yU (jM0 bW g9 hG jG9 (jv 1 rfl (yC (by decide+kernel))) (j4 (jv 0 rfl (kD (by decide+kernel))) j7 j3) j3) (je_int) (jG _)) (yW (kP jHF (jv 0 rfl (kD (by decide+kernel))) (kB jAD (jv 2 rfl (yC (by decide+kernel))) (je_int) jI) jG8)))))))) kN) j7 jV) jV))))))⟩
theorem jRC {fd:FuncData}(F:Fun K "is_covering" "is_covering" sCov f fd)(T:Txt mg)(CL:Can P w K mg base "is_lot" 3 fL fdL ["thing","many"] (spB2 lotB)):FnOk P w K mg base CX0 4 f fd ["box","thing"] jEF:=by
 refine F.ok scCov (fun vs H Q E h=>?_) (fun cdv A outer s H vs Q E hr h=>?_)
 ·obtain⟨_,_,_,_,_,_,rfl,_⟩:=h
  rfl
 ·obtain⟨b,a,w,ms,pcs,c,rfl,hB,g,ha,C,q⟩:=h
  obtain⟨qm,qp,ps,b1,b2,b3,b4⟩:=id hB.ex
  have pl:=b4.len
  have gl:=g.pl
  have w0:=g.w0
  have w1:=g.w1
  have cl:=jB0 c 0 _ C.ris.ris C.ris.bnd
  have c32:c.length<=32:=by omega
  refine⟨_,(covA T CL hr).2.h,?_⟩
  have hA:At H (.tup (c.map Ob.int)) (.ref a):=jUG ha (by rw[ae]; omega) (Ats.ints c)
  refine⟨_,rfl,_,rfl,b,_,2,_,rfl,rfl,SqT.of b1,rfl,qp,_,rfl, .inr (SqT.of b3), .ref a,_,_,rfl,hA,fun H1 e1=>⟨_,rfl,?_⟩⟩
  rw[pl,jHK C.ris.ris C.ris.bnd]
  refine iteF ?_
  refine⟨by show (0:Nat)<=_; decide,fun l H2 d2 e2 n2=>?_⟩
  have E2:=e1.trans e2
  have n16:∀ k∈c,(j5 pcs k).length<=16:=fun k hk=>jJF g (C.ris.bnd k hk).1 (C.ris.bnd k hk).2
  refine⟨_,rfl,a,rfl,⟨_,SqT.of (E2 _ _ ha)⟩,jHR (xs:=c.map V.int) (fun i σ H'=>(∃ v3,σ=[some (.ref b),some (.ref a),some (.ref l),v3])/\Ext H1 H'/\H' l=some (.lst (((c.take i).flatMap (j5 pcs)).map V.int))) ⟨⟨_,rfl⟩,e2,d2⟩ (fun i σ H' _ ⟨_,e,_⟩=>SqT.of (e _ _ (e1 _ _ ha))) ?_ ?_⟩
  ·rintro i v σ H3 hv ⟨⟨v3,rfl⟩,e3,hl3⟩
   obtain⟨k,hk,rfl⟩:=int_at hv
   have km:=ao hk
   have kb:=C.ris.bnd k km
   have E3:=e1.trans e3
   obtain⟨pa,pq,g1,g2,g3⟩:=jDR b4 kb.1 kb.2
   have hn:=jJ1 (f:=j5 pcs) (ks:=c.take i) (fun k hk=>n16 k (bR hk)) 32 (by rw[be]; omega)
   have hn2:=n16 k km
   refine⟨_,rfl, .inl ⟨rfl,_,SqL.of hl3⟩,_,rfl,b,_,2,_,rfl,rfl,SqT.of (E3 _ _ b1),rfl,_,rfl,qp,_,k,_,rfl,rfl,SqT.of (E3 _ _ b3),g1,pa,_,0,_,rfl,rfl,SqT.of (E3 _ _ g2),rfl,l,pq,_,_,rfl,rfl,hl3,E3 _ _ g3,?_,⟨_,rfl⟩,e3.updNew n2 _,?_⟩
   ·rw[ae,ae,aO]
    omega
   ·rw[j6]
    have:c.take (i+1)=c.take i++[k]:=by rw[bh,hk]; rfl
    rw[this,iV,aR]
    simp
  ·rintro σ H3 ⟨⟨v3,rfl⟩,e3,hl3⟩
   rw[ae,bw] at hl3
   have E3:=e1.trans e3
   have cnt:∀ t:Int,((c.flatMap (j5 pcs)).map V.int).countP (fun z=>eqV z (.int t))=if ∃ k∈c,t∈j5 pcs k then 1 else 0:=fun t=>by
    rw[jMM]
    refine jGI (C.ris.ris.imp fun {a b} h=>by omega) (fun k hk=>?_) C.dis
    have kb:=C.ris.bnd k hk
    exact(yH g kb.1 kb.2).ris.imp fun {a b} h=>by omega
   refine⟨_,rfl,b,_,0,_,rfl,rfl,SqT.of (E3 _ _ b1),rfl,w,rfl,by omega,by omega,jJ6 (n:=w.toNat) (fun σ=>∃ v,σ=[v,some (.ref l),some (.ref b)]) (mapZ (upto w.toNat) fun _=>V.bl true) (mapZ.ok _ _) (by rw[aO]; omega) ⟨_,rfl⟩ ?_ ?_⟩
   ·rintro j σ' H4 zs hj ⟨v,rfl⟩ e hz S1 S2 yes no
    have e0:(0+(j:Int))=(j:Int):=by omega
    dsimp only [yA,yY]
    rw[aj rfl]
    have hl4:=e _ _ hl3
    have E4:=E3.trans e
    refine⟨_,rfl, .inl ⟨rfl,_,SqL.of hl4⟩,_,rfl,l,_,_,rfl,rfl,hl4,rfl,jAB _,_,_,rfl,rfl,_,rfl,?_⟩
    rw[e0,cnt]
    by_cases hh:∃ k∈c,(j:Int)∈j5 pcs k
    ·rw[aj hh]
     refine iteT ⟨_,rfl, .inl ⟨rfl,_,SqL.of hl4⟩,_,rfl,l,_,_,rfl,rfl,hl4,rfl,jAB _,rfl,_,rfl,?_⟩
     rw[cnt,aj hh]
     exact iteT (yes _ _ _ ⟨_,rfl⟩ (Ext.refl _) (hz.yes (jAC hj)))
    ·rw[ai hh]
     refine iteT ⟨_,rfl, .inl ⟨rfl,_,SqL.of hl4⟩,_,rfl,l,_,_,rfl,rfl,hl4,rfl,jAB _,rfl,_,rfl,?_⟩
     rw[cnt,ai hh]
     refine iteF ⟨_,rfl,_,rfl,b,_,1,_,rfl,rfl,SqT.of (E4 _ _ b1),rfl,qm,_,rfl, .inr (SqT.of (E4 _ _ b2)),rfl,jAB _,?_⟩
     rw[jC3,am (bz fun z=>hh (C.cov j (by omega) (by omega) z))]
     exact yes _ _ _ ⟨_,rfl⟩ (Ext.refl _) (hz.yes (jAC hj))
   ·rintro D H4 zs h4 e4 n4 hz
    have hz:=hz.all (by rw[jA8]; exact ak _)
    have hz2:zs=((upto w.toNat).map fun _=>true).map V.bl:=by rw[hz,cC]; rfl
    rw[hz2] at h4
    refine⟨D,_,rfl,SqL.of h4,?_⟩
    have:((upto w.toNat).map fun _=>true).all id=true:=by
     rw[h9]
     exact bi.mpr fun _ _=>rfl
    rw[this]
    exact q H4 (E3.trans e4)
end
theorem jHV {w:Int}{ms:List Int}{pcs:List (List Int×Int)}{n:Nat}{c:List Int}(h:(cvs w ms pcs)[n]?=some c):∃ x,(wk (chs w.toNat ms pcs) 0)[n]?=some x/\srt x=c:=by
 unfold cvs at h
 rw[aI] at h
 cases z:(wk (chs w.toNat ms pcs) 0)[n]? with
 | none=>rw[z] at h; cases h
 | some x=>rw[z] at h; exact⟨x,rfl,aU h⟩
section
variable {P:Program}{w:World}{K:W.Frag}{mg:Str->Option Value}{base:Heap}
variable {f fC fW fG fV fP fR tb:Addr}{fdC fdW fdG fdV fdP fdR:FuncData}{cdv:Value}{A:Around}{outer:List Env}{s:Shared}{H0:Hp}{E:XK}
abbrev jLH:List Str:=["box","number","choices","ways"]
theorem scCovAt:FnScope jLH ["box","number"] (j8 jBJ):=⟨rfl,rfl,rfl,by decide+kernel,rfl,by decide+kernel,by decide+kernel⟩
def jDM (tb:Addr):Sp:=fun vs H Q _=>∃ (b:Addr) (n:Nat) (w:Int) (ms:List Int) (pcs:List (List Int×Int)) (c:List Int),vs=[.ref b,natV n]/\BoxAt H b w ms pcs/\Good 16 32 w ms pcs/\TabW H tb/\(cvs w ms pcs)[n]?=some c/\∀ q H',H' q=some (.tup (c.map V.int))->ExtT tb H H'->TabW H' tb->Q (.ref q) H'
def jUE (T:Txt mg)(CC:Can P w K mg base "choices_of" 2 fC fdC ["box"] jA2)(CW:Can P w K mg base "ways_of" 5 fW fdW ["choices"] (jBD tb))(CG:Can P w K mg base "covering_along" 2 fG fdG ["choices","ways","place"] jCF)(hr:Room 5 (XOf jLH "covering_at" jBJ P w K mg base f cdv A outer s H0 E).A): { t:TS // JSs (XOf jLH "covering_at" jBJ P w K mg base f cdv A outer s H0 E) (jC jBJ) t} :=
 have nd:=scCovAt.nd
 ⟨_,(jB (jK (i:=2) nd rfl lL (CC.je (hr.mono (by decide)) gD (j4 (jv 0 rfl vL) j7 j3) j3) jQ)
   (jB (jK (i:=3) nd rfl lL (CW.je hr gD (j4 (jv 2 rfl vL) j7 j3) j3) jQ)
   (jB (kT (jt_w (jw_or (jM op_lt (jv 1 rfl vL) (je_int) (jG _)) (jEM (jM op_ge (jv 1 rfl vL) (jB2 (qN hr) (jv 3 rfl vL) je_int jI) (jG _))))) (jD (jLT)) jR)
   (jD (jH (CG.je (hr.mono (by decide)) gD (j4 (jv 2 rfl vL) (j4 (jv 3 rfl vL) (j4 (jv 1 rfl vL) j7 j3) j3) j3) j3))))))⟩
theorem jO1 {fd:FuncData}(F:Fun K "covering_at" "covering_at" jBJ f fd)(T:Txt mg)(CC:Can P w K mg base "choices_of" 2 fC fdC ["box"] jA2)(CW:Can P w K mg base "ways_of" 5 fW fdW ["choices"] (jBD tb))(CG:Can P w K mg base "covering_along" 2 fG fdG ["choices","ways","place"] jCF):FnOk P w K mg base CX0 6 f fd ["box","number"] (jDM tb):=by
 refine F.ok scCovAt (fun vs H Q E h=>?_) (fun cdv A outer s H vs Q E hr h=>?_)
 ·obtain⟨_,_,_,_,_,_,rfl,_⟩:=h
  rfl
 ·obtain⟨b,n,wi,ms,pcs,c,rfl,hB,g,tab,hc,q⟩:=h
  obtain⟨x,hx,rfl⟩:=jHV hc
  refine⟨_,(jUE T CC CW CG hr).2.h,?_⟩
  have o:ChOk (chs wi.toNat ms pcs):=qF g
  refine⟨_,rfl,b,wi,ms,pcs,rfl,hB,g,fun L H1 hL1 e1=>?_⟩
  refine⟨_,rfl,L,_,rfl,hL1,o,tab.ext e1,fun r ns H2 got srt' mt e2 t2 n2=>?_⟩
  have hL2:ChAt H2 L (chs wi.toNat ms pcs):=hL1.keep (fun b xs h=>e2.at (tab.ext e1) h) fun b xs h=>e2.at (tab.ext e1) h
  obtain⟨u,dg,ru⟩:=got0 got srt' mt
  have ru:u=natV _:=ru
  subst ru
  have nl:=(ag.mp hx).1
  refine⟨_,rfl,_,_,rfl,rfl,_,rfl,iteN (by simp) ?_⟩
  refine⟨_,rfl,_,rfl,r,_,rfl,dg,_,_,rfl,rfl,_,rfl,iteN (by simp; omega) ?_⟩
  refine⟨_,rfl,_,rfl,_,rfl,L,r,_,ns,n,x,rfl,hL2,o,o.w,got,srt',mt,hx,fun q5 H3 d3 e3 n3=>?_⟩
  exact q q5 H3 d3 (((ExtT.of e1).trans e2).trans (ExtT.of e3)) (t2.ext e3)
abbrev jLE:List Str:=["box","covering","choices"]
theorem scNumOf:FnScope jLE ["box","covering"] (j8 jBG):=⟨rfl,rfl,rfl,by decide+kernel,rfl,by decide+kernel,by decide+kernel⟩
def jEV (tb:Addr):Sp:=fun vs H Q _=>∃ (b a:Addr) (n:Nat) (w:Int) (ms:List Int) (pcs:List (List Int×Int)) (c:List Int),vs=[.ref b, .ref a]/\BoxAt H b w ms pcs/\Good 16 32 w ms pcs/\TabW H tb/\H a=some (.tup (c.map V.int))/\(cvs w ms pcs)[n]?=some c/\∀ H',ExtT tb H H'->TabW H' tb->Q (natV n) H'
def jTQ (T:Txt mg)(CV:Can P w K mg base "is_covering" 4 fV fdV ["box","thing"] jEF)(CC:Can P w K mg base "choices_of" 2 fC fdC ["box"] jA2)(CW:Can P w K mg base "ways_of" 5 fW fdW ["choices"] (jBD tb))(CP:Can P w K mg base "place_of" 2 fP fdP ["choices","ways","rank"] jCE)(CR:Can P w K mg base "rank_of" 2 fR fdR ["box","covering"] jEE)(hr:Room 5 (XOf jLE "number_of" jBG P w K mg base f cdv A outer s H0 E).A): { t:TS // JSs (XOf jLE "number_of" jBG P w K mg base f cdv A outer s H0 E) (jC jBG) t} :=
 have nd:=scNumOf.nd
 ⟨_,(jB (kT (yX (yN (CV.je (hr.mono (by decide)) gD (j4 (jv 0 rfl vL) (j4 (jv 1 rfl vL) j7 j3) j3) j3) kY)) (jD (jLT)) jR)
   (jB (jK (i:=2) nd rfl lL (CC.je (hr.mono (by decide)) gD (j4 (jv 0 rfl vL) j7 j3) j3) jQ)
   (jD (jH (CP.je (hr.mono (by decide)) gD (j4 (jv 2 rfl vL) (j4 (CW.je hr gD (j4 (jv 2 rfl vL) j7 j3) j3) (j4 (CR.je (hr.mono (by decide)) gD (j4 (jv 0 rfl vL) (j4 (jv 1 rfl vL) j7 j3) j3) j3) j7 jJ) jJ) j3) j3)))))⟩
theorem jEX {w:Int}{ms:List Int}{pcs:List (List Int×Int)}(g:Good 16 32 w ms pcs){n:Nat}{x:List Int}(h:(wk (chs w.toNat ms pcs) 0)[n]?=some x):rkL w.toNat pcs (srt x)=rkL w.toNat pcs x:=by
 have S:=jB4 g 0 (dh _) x (ao h)
 unfold rkL
 exact cO fun t _=>(jKQ (fun k=>(jD4 x).mem_iff.symm) S.dis).symm
theorem jNY {fd:FuncData}(F:Fun K "number_of" "number_of" jBG f fd)(T:Txt mg)(CV:Can P w K mg base "is_covering" 4 fV fdV ["box","thing"] jEF)(CC:Can P w K mg base "choices_of" 2 fC fdC ["box"] jA2)(CW:Can P w K mg base "ways_of" 5 fW fdW ["choices"] (jBD tb))(CP:Can P w K mg base "place_of" 2 fP fdP ["choices","ways","rank"] jCE)(CR:Can P w K mg base "rank_of" 2 fR fdR ["box","covering"] jEE):FnOk P w K mg base CX0 6 f fd ["box","covering"] (jEV tb):=by
 refine F.ok scNumOf (fun vs H Q E h=>?_) (fun cdv A outer s H vs Q E hr h=>?_)
 ·obtain⟨_,_,_,_,_,_,_,rfl,_⟩:=h
  rfl
 ·obtain⟨b,a,n,wi,ms,pcs,c,rfl,hB,g,tab,ha,hc,q⟩:=h
  have C:IsCov wi ms pcs c:=(jDV g).mp (ao hc)
  obtain⟨x,hx,rfl⟩:=jHV hc
  refine⟨_,(jTQ T CV CC CW CP CR hr).2.h,?_⟩
  have o:ChOk (chs wi.toNat ms pcs):=qF g
  refine⟨_,rfl,_,rfl,b,a,wi,ms,pcs,_,rfl,hB,g,ha,C,fun H1 e1=>⟨_,rfl,iteF ?_⟩⟩
  refine⟨_,rfl,b,wi,ms,pcs,rfl,hB.mono e1.tups,g,fun L H2 hL2 e2=>?_⟩
  have E2:=e1.trans e2
  refine⟨_,rfl,_,rfl,L,_,rfl,hL2,o,tab.ext E2,fun r ns H3 got srt' mt e3 t3 n3=>?_⟩
  have tab2:=tab.ext E2
  have T3:Tups H2 H3:=fun b xs h=>e3.at tab2 h
  have hL3:ChAt H3 L (chs wi.toNat ms pcs):=hL2.keep (fun b xs h=>e3.at tab2 h) T3
  refine⟨_,rfl,_,rfl,b,a,wi,ms,pcs,_,rfl,(hB.mono E2.tups).mono T3,g,T3 _ _ (E2 _ _ ha),C,fun qa H4 d4 e4=>?_⟩
  rw[jEX g hx] at d4
  refine⟨L,r,qa,wi,ms,pcs,ns,n,x,rfl,g,hL3.ext e4,got.ext e4,srt',mt,d4,hx,fun H5 e5=>?_⟩
  exact q H5 (((ExtT.of E2).trans e3).trans (ExtT.of (e4.trans e5))) (t3.ext (e4.trans e5))
noncomputable abbrev nNext:List Str:=["box","covering","choices","ways","place"]
theorem scNext:FnScope nNext ["box","covering"] (j8 sNext):=⟨rfl,rfl,rfl,by decide+kernel,rfl,by decide+kernel,by decide+kernel⟩
def jI6 (tb:Addr):Sp:=fun vs H Q _=>∃ (b a:Addr) (n:Nat) (w:Int) (ms:List Int) (pcs:List (List Int×Int)) (c:List Int),vs=[.ref b, .ref a]/\BoxAt H b w ms pcs/\Good 16 32 w ms pcs/\TabW H tb/\H a=some (.tup (c.map V.int))/\(cvs w ms pcs)[n]?=some c/\(n+1=(cvs w ms pcs).length->∀ H',ExtT tb H H'->TabW H' tb->Q .non H')/\∀ c,(cvs w ms pcs)[n+1]?=some c->∀ q H',H' q=some (.tup (c.map V.int))->ExtT tb H H'->TabW H' tb->Q (.ref q) H'
def nextA (T:Txt mg)(CV:Can P w K mg base "is_covering" 4 fV fdV ["box","thing"] jEF)(CC:Can P w K mg base "choices_of" 2 fC fdC ["box"] jA2)(CW:Can P w K mg base "ways_of" 5 fW fdW ["choices"] (jBD tb))(CP:Can P w K mg base "place_of" 2 fP fdP ["choices","ways","rank"] jCE)(CR:Can P w K mg base "rank_of" 2 fR fdR ["box","covering"] jEE)(CG:Can P w K mg base "covering_along" 2 fG fdG ["choices","ways","place"] jCF)(hr:Room 5 (XOf nNext "next_behind" sNext P w K mg base f cdv A outer s H0 E).A): { t:TS // JSs (XOf nNext "next_behind" sNext P w K mg base f cdv A outer s H0 E) (jC sNext) t} :=
 have nd:=scNext.nd
 ⟨_,(jB (kT (yX (yN (CV.je (hr.mono (by decide)) gD (j4 (jv 0 rfl vL) (j4 (jv 1 rfl vL) j7 j3) j3) j3) kY)) (jD (jLT)) jR)
   (jB (jK (i:=2) nd rfl lL (CC.je (hr.mono (by decide)) gD (j4 (jv 0 rfl vL) j7 j3) j3) jQ)
   (jB (jK (i:=3) nd rfl lL (CW.je hr gD (j4 (jv 2 rfl vL) j7 j3) j3) jQ)
   (jB (jK (i:=4) nd rfl lL (kJ y9 (CP.je (hr.mono (by decide)) gD (j4 (jv 2 rfl vL) (j4 (jv 3 rfl vL) (j4 (CR.je (hr.mono (by decide)) gD (j4 (jv 0 rfl vL) (j4 (jv 1 rfl vL) j7 j3) j3) j3) j7 jJ) j3) j3) j3) (je_int)) jI5)
   (jD (jH (jPK (jM op_lt (jv 4 rfl vL) (jB2 (qN hr) (jv 3 rfl vL) je_int jI) (jG _)) (CG.je (hr.mono (by decide)) gD (j4 (jv 2 rfl vL) (j4 (jv 3 rfl vL) (j4 (jv 4 rfl vL) j7 j3) j3) j3) j3) (jIW))))))))⟩
theorem jR7 {fd:FuncData}(F:Fun K "next_behind" "next_behind" sNext f fd)(T:Txt mg)(CV:Can P w K mg base "is_covering" 4 fV fdV ["box","thing"] jEF)(CC:Can P w K mg base "choices_of" 2 fC fdC ["box"] jA2)(CW:Can P w K mg base "ways_of" 5 fW fdW ["choices"] (jBD tb))(CP:Can P w K mg base "place_of" 2 fP fdP ["choices","ways","rank"] jCE)(CR:Can P w K mg base "rank_of" 2 fR fdR ["box","covering"] jEE)(CG:Can P w K mg base "covering_along" 2 fG fdG ["choices","ways","place"] jCF):FnOk P w K mg base CX0 6 f fd ["box","covering"] (jI6 tb):=by
 refine F.ok scNext (fun vs H Q E h=>?_) (fun cdv A outer s H vs Q E hr h=>?_)
 ·obtain⟨_,_,_,_,_,_,_,rfl,_⟩:=h
  rfl
 ·obtain⟨b,a,n,wi,ms,pcs,c,rfl,hB,g,tab,ha,hc,q0,q⟩:=h
  have C:IsCov wi ms pcs c:=(jDV g).mp (ao hc)
  obtain⟨x,hx,rfl⟩:=jHV hc
  refine⟨_,(nextA T CV CC CW CP CR CG hr).2.h,?_⟩
  have o:ChOk (chs wi.toNat ms pcs):=qF g
  refine⟨_,rfl,_,rfl,b,a,wi,ms,pcs,_,rfl,hB,g,ha,C,fun H1 e1=>⟨_,rfl,iteF ?_⟩⟩
  refine⟨_,rfl,b,wi,ms,pcs,rfl,hB.mono e1.tups,g,fun L H2 hL2 e2=>?_⟩
  have E2:=e1.trans e2
  refine⟨_,rfl,L,_,rfl,hL2,o,tab.ext E2,fun r ns H3 got srt' mt e3 t3 n3=>?_⟩
  have tab2:=tab.ext E2
  have T3:Tups H2 H3:=fun b xs h=>e3.at tab2 h
  have hL3:ChAt H3 L (chs wi.toNat ms pcs):=hL2.keep (fun b xs h=>e3.at tab2 h) T3
  refine⟨_,rfl,_,rfl,_,rfl,_,rfl,b,a,wi,ms,pcs,_,rfl,(hB.mono E2.tups).mono T3,g,T3 _ _ (E2 _ _ ha),C,fun qa H4 d4 e4=>?_⟩
  rw[jEX g hx] at d4
  refine⟨L,r,qa,wi,ms,pcs,ns,n,x,rfl,g,hL3.ext e4,got.ext e4,srt',mt,d4,hx,fun H5 e5=>⟨_,_,rfl,rfl,?_⟩⟩
  have E5:=e4.trans e5
  obtain⟨u,dg,ru⟩:=got0 (got.ext E5) srt' mt
  have ru:u=natV _:=ru
  subst ru
  have X5:=((ExtT.of (T:=tb) E2).trans e3).trans (ExtT.of E5)
  have nl:=(ag.mp hx).1
  refine⟨_,rfl,_,rfl,r,_,rfl,dg,_,_,rfl,rfl,_,rfl,?_⟩
  refine ite2 (fun h=>?_) (fun h=>?_)
  ·have h1:n+1<(wk (chs wi.toNat ms pcs) 0).length:=by
    have:(n:Int)+1<_:=aJ h
    omega
   obtain⟨y,hy⟩:∃ x,(wk (chs wi.toNat ms pcs) 0)[n+1]?=some x:=⟨_,ax h1⟩
   refine⟨_,rfl,_,rfl,_,rfl,L,r,_,ns,n+1,y,rfl,hL3.ext E5,o,o.w,got.ext E5,srt',mt,hy,fun q5 H6 d6 e6 n6=>?_⟩
   exact q (srt y) (by unfold cvs; rw[aI,hy]; rfl) q5 H6 d6 (X5.trans (ExtT.of e6)) ((t3.ext E5).ext e6)
  ·refine q0 ?_ H5 X5 (t3.ext E5)
   have:¬ ((n:Int)+1<((wk (chs wi.toNat ms pcs) 0).length:Int)):=fun z=>h (am z)
   rw[jHU]
   omega
end
def heldBy (pcs:List (List Int×Int))(ks:List Int)(t:Int):Nat:=ks.countP fun k=>decide (t∈j5 pcs k)
def okT (ms:List Int)(n:Nat)(t:Int):Bool:=decide (n<=1)&&(decide (n=1) || decide (t∈ms))
def covI (w:Int)(ms:List Int)(pcs:List (List Int×Int))(ks:List Int):Bool:=(upto w.toNat).all fun t=>okT ms (heldBy pcs ks t) t
theorem jPZ {l:List Int}{a b:Int}(ha:a∈l)(hb:b∈l)(ne:a≠b):2<=l.length:=by
 match l,ha,hb with
 | [x],ha,hb=>exact absurd ((aN.mp ha).trans (aN.mp hb).symm) ne
 | x::y::r,_,_=>rw[aK,aK]; omega
theorem jR1 {l:List Int}(nd:l.Nodup)(h:∀ a∈l,∀ b∈l,a=b):l.length<=1:=by
 match l,nd,h with
 | [],_,_=>exact bb _
 | [x],_,_=>exact ak _
 | x::y::r,nd,h=>
  have:=h x (aw ..) y (ar _ (aw ..))
  subst this
  exact absurd (aw ..) (bH.mp nd).1
theorem jOO {w:Int}{ms:List Int}{pcs:List (List Int×Int)}(g:Good 16 32 w ms pcs){c:List Int}(r:Ris pcs.length c):covI w ms pcs c=true↔IsCov w ms pcs c:=by
 have cn:c.Nodup:=r.ris.imp fun {a b} h=>by omega
 have hl:∀ t,heldBy pcs c t=(c.filter fun k=>decide (t∈j5 pcs k)).length:=fun t=>by
  unfold heldBy
  rw[gf]
 have mem:∀ t k,k∈(c.filter fun k=>decide (t∈j5 pcs k))↔k∈c/\t∈j5 pcs k:=fun t k=>by rw[cx,bg]
 have w0:=g.w0
 unfold covI
 rw[bi]
 constructor
 ·intro h
  have h':∀ t:Int,0<=t->t<w->heldBy pcs c t<=1/\(heldBy pcs c t=1\/t∈ms):=fun t t0 t1=>by
   have:=h t (ao (by have:=jAC (n:=w.toNat) (i:=t.toNat) (by omega); rwa [show ((t.toNat:Nat):Int)=t by omega] at this))
   unfold okT at this
   simpa using this
  refine⟨r,fun k hk k' hk' ne t ht ht'=>?_,fun t t0 t1 hm=>?_⟩
  ·have kb:=(yH g (r.bnd k hk).1 (r.bnd k hk).2).bnd t ht
   have:=(h' t kb.1 kb.2).1
   rw[hl] at this
   have:=jPZ ((mem t k).mpr ⟨hk,ht⟩) ((mem t k').mpr ⟨hk',ht'⟩) ne
   omega
  ·have:=(h' t t0 t1).2.resolve_right hm
   rw[hl] at this
   obtain⟨k,hk⟩:=List.exists_mem_of_length_pos (l:=c.filter fun k=>decide (t∈j5 pcs k)) (by omega)
   exact⟨k,(mem t k).mp hk⟩
 ·intro C t ht
  have tb:=(jB6 w.toNat).bnd t ht
  have l1:heldBy pcs c t<=1:=by
   rw[hl]
   refine jR1 (cn.sublist List.filter_sublist) fun a ha b hb=>bz fun ne=>?_
   have ha:=(mem t a).mp ha
   have hb:=(mem t b).mp hb
   exact C.dis a ha.1 b hb.1 ne t ha.2 hb.2
  unfold okT
  rw[am l1,gW]
  by_cases hm:t∈ms
  ·rw[am hm,ev]
  ·obtain⟨k,hk,hkt⟩:=C.cov t tb.1 (by omega) hm
   have:=List.length_pos_of_mem ((mem t k).mpr ⟨hk,hkt⟩)
   rw[<- hl] at this
   rw[am (show heldBy pcs c t=1 by omega),i9]
theorem jSC {α:Type}{l:List α}{F:α->Bool}{i:Nat}{x:α}(h:l[i]?=some x)(e:F x=false):l.all F=false:=by
 rw[fg]
 intro q
 rw[bi] at q
 have:=q x (ao h)
 rw[e] at this
 cases this
theorem jJY (pcs:List (List Int×Int))(ks:List Int)(t:Int):(((ks.filter fun k=>decide (t∈j5 pcs k)).map V.int).length)=heldBy pcs ks t:=by
 rw[ae]
 unfold heldBy
 rw[gf]
section
variable {P:Program}{w:World}{K:W.Frag}{mg:Str->Option Value}{base:Heap}
variable {f fU fV:Addr}{fdU fdV:FuncData}{cdv:Value}{A:Around}{outer:List Env}{s:Shared}{H0:Hp}{E:XK}
abbrev jF3:List Str:=["box","some","thing","holders"]
theorem scCovers:FnScope jF3 ["box","some"] (j8 yQ):=⟨rfl,rfl,rfl,by decide+kernel,rfl,by decide+kernel,by decide+kernel⟩
def jD6:Sp:=fun vs H Q _=>∃ (b a:Addr) (w:Int) (ms:List Int) (pcs:List (List Int×Int)) (ks:List Int),vs=[.ref b, .ref a]/\BoxAt H b w ms pcs/\Good 16 32 w ms pcs/\H a=some (.tup (ks.map V.int))/\(∀ k∈ks,0<=k/\k<pcs.length)/\ks.length<=100/\∀ H',Ext H H'->Q (.bl (covI w ms pcs ks)) H'
def jS8 (T:Txt mg)(hr:Room 0 (XOf jF3 "_law_covers" yQ P w K mg base f cdv A outer s H0 E).A): { t:TS // JSs (XOf jF3 "_law_covers" yQ P w K mg base f cdv A outer s H0 E) (jC yQ) t} :=
 have nd:=scCovers.nd
 ⟨_,(jB (yV bG rfl (jA5 gD T.range (j4 (kB kQ (jv 0 rfl vC) (je_int) jI) j7 kL) kL) (jW (i:=2) nd rfl (loc_c (by decide+kernel))) (jB (jK (i:=3) nd rfl lL (jE jU gD T.len (by decide+kernel) (j4 (kZ (m:=[none,some 2,some 0]) (Nc:=["k","thing","box"]) rfl (jD0 (jv 1 rfl vL)) rfl (by decide+kernel) (by decide+kernel) (kS (psc:=j8 yQ) (by decide+kernel)) (jS (N:=jF3) rfl rfl (by decide+kernel)) (fun cl C fp s H=>jW (i:=0) (show (["k","thing","box"]:List Str).Nodup by decide+kernel) rfl (qJ (by decide+kernel))) (fun cl C fp s H=>jDZ (jM jHF (jv 1 rfl (yC (by decide+kernel))) (kB jAD (kB jAD (kB jAD (jv 2 rfl (yC (by decide+kernel))) (je_int) jI) (jv 0 rfl (kD (by decide+kernel))) yG) (je_int) jI) jG8)) (fun cl C fp s H=>(jv 0 rfl (kD (by decide+kernel)))) jAV) j7 jV) jV) jQ)
   (jD (kT (jt_w (jw_or (jM op_gt (jv 3 rfl vL) (je_int) (jG _)) (jEM (jt_w (jU0 (jM yU (jv 3 rfl vL) (je_int) (jG _)) (jRQ (jM jG5 (jv 2 rfl vC) (kB kQ (jv 0 rfl vC) (je_int) jI) jG8))))))) (jD (jH (je_bl))) jR))) kN)
   (jD (jH (je_bl))))⟩
theorem jL6 {fd:FuncData}(F:Fun K "_law_covers" "_law_covers" yQ f fd)(T:Txt mg):FnOk P w K mg base CX0 1 f fd ["box","some"] jD6:=by
 refine F.ok scCovers (fun vs H Q E h=>?_) (fun cdv A outer s H vs Q E hr h=>?_)
 ·obtain⟨_,_,_,_,_,_,rfl,_⟩:=h
  rfl
 ·obtain⟨b,a,w,ms,pcs,ks,rfl,hB,g,ha,hbnd,hlen,q⟩:=h
  obtain⟨qm,qp,ps,b1,b2,b3,b4⟩:=hB.ex
  have w0:=g.w0
  have w1:=g.w1
  refine⟨_,(jS8 T hr).2.h,?_⟩
  refine⟨_,rfl,b,_,0,_,rfl,rfl,SqT.of b1,rfl,w,rfl,by omega,by omega,jAN (fun i σ H'=>(∃ v2 v3,σ=[some (.ref b),some (.ref a),v2,v3])/\Ext H H'/\((upto w.toNat).take i).all (fun t=>okT ms (heldBy pcs ks t) t)=true) ⟨⟨_,_,rfl⟩,Ext.refl _,rfl⟩ ?_ ?_⟩
  ·rintro i σ H2 hi ⟨⟨v2,v3,rfl⟩,e2,hp⟩
   have no:∀ H',Ext H2 H'->okT ms (heldBy pcs ks i) i=false->Q (.bl false) H':=fun H' e' z=>qb (q H' (e2.trans e')) (jSC (jAC hi) z)
   refine⟨_,rfl,a,rfl,⟨_,SqT.of (e2 _ _ ha)⟩,jDE (xs:=ks.map V.int) (by rw[ae,aO]; omega) (fun D j σ' H' zs=>(∃ v,σ'=[v,some (.int (0+(i:Int))),some (.ref b)])/\zs=((ks.take j).filter (fun k=>decide ((i:Int)∈j5 pcs k))).map V.int/\H'=upd H2 D (.lst zs)) ?_ ?_ ?_ ?_⟩
   ·intro D hD
    exact⟨⟨_,rfl⟩,rfl,rfl⟩
   ·rintro D j σ' H' zs hD ⟨_,rfl,rfl⟩
    refine⟨?_,j6,?_⟩
    ·rw[j9 (jA (e2 _ _ ha) hD)]
     exact e2 _ _ ha
    ·rw[ae]
     exact bv (bV _ _) (by rw[be]; omega)
   ·rintro D j σ' H' zs x hD hj ⟨⟨v,rfl⟩,rfl,rfl⟩
    have hj':j<ks.length:=by
     have:=(ag.mp hj).1
     rwa [ae] at this
    rw[getI hj'] at hj
    cases hj
    have hmem:ks.getD j 0∈ks:=by
     have:ks.getD j 0=ks[j]:=by simp [List.getD,hj']
     rw[this]
     exact dI hj'
    have hb:=hbnd _ hmem
    have eD:Ext H (upd H2 D (.lst (((ks.take j).filter (fun k=>decide ((i:Int)∈j5 pcs k))).map V.int))):=e2.new hD _
    obtain⟨pa,pq,wt,c1,c2,c3⟩:=jNM (b4.mono fun b xs h=>eD b _ h) hb.1 hb.2
    have htk:ks.take (j+1)=ks.take j++[ks.getD j 0]:=by
     rw[bh,aA]
     simp [hj']
    refine⟨_,rfl,_,rfl,b,_,2,_,rfl,rfl,SqT.of (eD _ _ b1),rfl,_,rfl,qp,_,_,_,rfl,rfl,SqT.of (eD _ _ b3),c1,pa,_,0,_,rfl,rfl,SqT.of c2,rfl,pq,_,rfl, .inr (SqT.of c3),rfl,jAB _,_,rfl,?_⟩
    have ein:inV (.int (0+(i:Int))) ((j5 pcs (ks.getD j 0)).map V.int)=decide ((i:Int)∈j5 pcs (ks.getD j 0)):=by rw[jC3,im]
    show if inV (.int (0+(i:Int))) ((j5 pcs (ks.getD j 0)).map V.int)=true then _ else _
    rw[ein]
    refine ite2 (fun hy=>?_) (fun hy=>?_)
    ·refine⟨_,rfl,j6,⟨_,rfl⟩,?_,jBL⟩
     rw[htk,bX,aR,dr,aj hy]
     rfl
    ·refine⟨⟨_,rfl⟩,?_,?_⟩
     ·rw[htk,bX,aR,dr,ai hy]
      simp
     ·rfl
   ·rintro D σ' H' zs hD ⟨_,rfl,rfl⟩
    refine⟨D,_,rfl, .inl (SqL.of j6),?_⟩
    have e3:Ext H2 (upd H2 D (.lst (((ks.take (ks.map V.int).length).filter (fun k=>decide ((i:Int)∈j5 pcs k))).map V.int))):=(Ext.refl _).new hD _
    generalize upd H2 D (.lst (((ks.take (ks.map V.int).length).filter (fun k=>decide ((i:Int)∈j5 pcs k))).map V.int))=H3 at e3 ⊢
    have hcn:(((ks.take (ks.map V.int).length).filter (fun k=>decide ((i:Int)∈j5 pcs k))).map V.int).length=heldBy pcs ks i:=by
     rw[show (ks.map V.int).length=ks.length from ae _,bw]
     exact jJY pcs ks i
    rw[hcn]
    have E3:=e2.trans e3
    refine⟨_,rfl,_,_,rfl,rfl,_,rfl,ite2 (fun h1=>?_) (fun h1=>?_)⟩
    ·have h1:(1:Int)<((heldBy pcs ks i:Nat):Int):=aJ h1
     refine iteT (no H3 e3 ?_)
     unfold okT
     rw[aL (show ¬ heldBy pcs ks i<=1 by omega)]
     rfl
    ·have h1:¬ (1:Int)<((heldBy pcs ks i:Nat):Int):=fun h=>h1 (am h)
     have nx:okT ms (heldBy pcs ks i) i=true->(∃ v2' v3',([some (.ref b),some (.ref a),some (.int (0+(i:Int))),some (.int ((heldBy pcs ks i:Nat):Int))]:St)=[some (.ref b),some (.ref a),v2',v3'])/\Ext H H3/\((upto w.toNat).take (i+1)).all (fun t=>okT ms (heldBy pcs ks t) t)=true:=fun z=>by
      refine⟨⟨_,_,rfl⟩,E3,?_⟩
      rw[jDJ hi,List.all_append,hp,dn,z]
      rfl
     refine⟨_,rfl,rfl,_,rfl,ite2 (fun h2=>?_) (fun h2=>?_)⟩
     ·have h2:=V.int.inj (aJ h2)
      refine⟨_,rfl,_,rfl,b,_,1,_,rfl,rfl,SqT.of (E3 _ _ b1),rfl,qm,_,rfl, .inr (SqT.of (E3 _ _ b2)),rfl,jAB _,_,rfl,?_⟩
      have ein:inV (.int (0+(i:Int))) (ms.map V.int)=decide ((i:Int)∈ms):=by rw[jC3,im]
      show if (!inV (.int (0+(i:Int))) (ms.map V.int))=true then _ else _
      rw[ein]
      refine ite2 (fun h3=>?_) (fun h3=>?_)
      ·refine no H3 e3 ?_
       unfold okT
       rw[aL (show ¬ heldBy pcs ks i=1 by omega)]
       have h3:decide ((i:Int)∈ms)=false:=by simpa using h3
       rw[h3]
       simp
      ·refine nx ?_
       unfold okT
       have h3:decide ((i:Int)∈ms)=true:=by simpa using h3
       rw[h3,am (show heldBy pcs ks i<=1 by omega)]
       simp
     ·have h2:¬ heldBy pcs ks i=0:=fun h=>h2 (am (by rw[h]; rfl))
      refine iteF (nx ?_)
      unfold okT
      rw[am (show heldBy pcs ks i<=1 by omega),am (show heldBy pcs ks i=1 by omega)]
      rfl
  ·rintro σ H2 ⟨⟨v2,v3,rfl⟩,e2,hp⟩
   refine qb (q H2 e2) ?_
   have:(upto w.toNat).take w.toNat=upto w.toNat:=by
    have:=bw (l:=upto w.toNat)
    rw[jA8] at this
    exact this
   rw[this] at hp
   exact hp
end
def RkLt (w:Nat)(pcs:List (List Int×Int))(y z:List Int):Prop:=∃ t:Nat,t<w/\(∀ s:Nat,s<t->rkP pcs y s=rkP pcs z s)/\rkP pcs y t<rkP pcs z t
theorem jTV {a b:List Int} :∀ {t:Nat},t<a.length->t<b.length->(∀ s:Nat,s<t->a.getD s 0=b.getD s 0)->a.getD t 0<b.getD t 0->HT.lexLt a b=true:=by
 induction a generalizing b with
 | nil=>intro t h; exact absurd h (cR _)
 | cons x r ih=>
  intro t h1 h2 h3 h4
  cases b with
  | nil=>exact absurd h2 (cR _)
  | cons y q=>
   unfold HT.lexLt
   cases t with
   | zero=>
    have h5:x<y:=h4
    have h6:x≠y:=by omega
    simp [h5,h6]
   | succ t=>
    have e:x=y:=h3 0 (by omega)
    have:=ih (b:=q) (t:=t) (by simpa using h1) (by simpa using h2) (fun s hs=>h3 (s+1) (by omega)) h4
    simp [e,this]
theorem RkLt.lex {w:Nat}{pcs:List (List Int×Int)}{y z:List Int}(h:RkLt w pcs y z):HT.lexLt (rkL w pcs y) (rkL w pcs z)=true:=by
 obtain⟨t,h1,h2,h3⟩:=h
 have gd:∀ (x:List Int) (s:Nat),s<w->(rkL w pcs x).getD s 0=rkP pcs x s:=fun x s hs=>by
  rw[aA,jKR hs]
  rfl
 refine jTV (t:=t) (by rw[jHA]; exact h1) (by rw[jHA]; exact h1) (fun s hs=>?_) ?_
 ·rw[gd _ _ (by omega),gd _ _ (by omega)]
  exact h2 s hs
 ·rw[gd _ _ h1,gd _ _ h1]
  exact h3
section
variable {w:Int}{ms:List Int}{pcs:List (List Int×Int)}(g:Good 16 32 w ms pcs)
include g
theorem jSH:∀ m,m<2 ^ (chs w.toNat ms pcs).length->(wk (chs w.toNat ms pcs) m).Pairwise (RkLt w.toNat pcs):=by
 have o:ChOk (chs w.toNat ms pcs):=qF g
 refine jBO o ?_ ?_
 ·rw[jAY]
  exact eX _ _
 ·intro m hm hn ih
  have hl:lowN m<w.toNat:=by
   have:=jC0 hm hn
   unfold chs at this
   rwa [kW] at this
  have step:=jAX o hm hn
  have mem:∀ c∈chAt (chs w.toNat ms pcs) m,∀ y∈wk (chs w.toNat ms pcs) (m|||c.2),(if c.1<0 then y else c.1::y)∈wk (chs w.toNat ms pcs) m:=fun c hc y hy=>by
   rw[step,mem_wJ]
   exact⟨_,aW.mpr ⟨c,hc,rfl⟩,y,hy,rfl⟩
  rw[step]
  unfold wJ
  rw[List.pairwise_flatMap]
  refine⟨fun a ha=>?_,?_⟩
  ·obtain⟨c,hc,rfl⟩:=aW.mp ha
   show (List.map (fun x=>if c.1<0 then x else c.1::x) (wk (chs w.toNat ms pcs) (m|||c.2))).Pairwise _
   rw[bS]
   have u:=o.up hm hn hc
   refine(fo.mp (ih c hc)).imp fun {y z} h=>?_
   obtain⟨hy,hz,t,h1,h2,h3⟩:=h
   obtain⟨y1,y2⟩:=wk_rk g hm hn hc hy
   obtain⟨z1,z2⟩:=wk_rk g hm hn hc hz
   have off:∀ x∈wk (chs w.toNat ms pcs) (m|||c.2),∀ s:Nat,c.2.testBit s=true->rkP pcs x s= -1:=fun x hx s hs=>jDN fun k hk z=>by
    have:=(jB4 g _ u.2 x hx).off k hk _ z
    rw[bq,bP,hs,ev] at this
    cases this
   have ct:c.2.testBit t=false:=by
    cases q:c.2.testBit t with
    | false=>rfl
    | true=>rw[off y hy t q,off z hz t q] at h3; exact absurd h3 (Int.lt_irrefl _)
   refine⟨t,h1,fun s hs=>?_,by rw[y2 t ct,z2 t ct]; exact h3⟩
   cases q:c.2.testBit s with
   | true=>rw[y1 s q,z1 s q]
   | false=>rw[y2 s q,z2 s q]; exact h2 s hs
  ·rw[bS]
   refine(fo.mp (jMS (w:=w) (ms:=ms) (pcs:=pcs) hl)).imp fun {c d} h=>?_
   obtain⟨hc,hd,lt⟩:=h
   intro y hy z hz
   obtain⟨y',hy',rfl⟩:=aW.mp hy
   obtain⟨z',hz',rfl⟩:=aW.mp hz
   have off:∀ x∈wk (chs w.toNat ms pcs) m,∀ s:Nat,s<lowN m->rkP pcs x s= -1:=fun x hx s hs=>jDN fun k hk z=>by
    have:=(jB4 g _ hm x hx).off k hk _ z
    rw[bq,jDX m s hs] at this
    cases this
   refine⟨lowN m,hl,fun s hs=>?_,?_⟩
   ·rw[off _ (mem c hc y' hy') s hs,off _ (mem d hd z' hz') s hs]
   ·rw[(wk_rk g hm hn hc hy').1 _ (o.mem hm hn hc).1,(wk_rk g hm hn hd hz').1 _ (o.mem hm hn hd).1]
    exact lt
theorem jMK:(cvs w ms pcs).Pairwise fun a b=>HT.lexLt (rkL w.toNat pcs a) (rkL w.toNat pcs b)=true:=by
 unfold cvs
 rw[bS]
 refine(fo.mp (jSH g 0 (dh _))).imp fun {y z} h=>?_
 obtain⟨hy,hz,h⟩:=h
 obtain⟨i,hi⟩:=bC hy
 obtain⟨j,hj⟩:=bC hz
 rw[jEX g hi,jEX g hj]
 exact h.lex
end
theorem jG4 {α:Type}{f:α->List Int} :∀ {l m:List α},l.Perm m->l.Pairwise (fun a b=>HT.lexLt (f b) (f a)=false)->m.Pairwise (fun a b=>HT.lexLt (f a) (f b)=true)->l=m
 | [],m,p,_,_=>p.nil_eq
 | a::l,[],p,_,_=>absurd p.length_eq (by simp)
 | a::l,b::m,p,h1,h2=>by
  obtain⟨a1,a2⟩:=cU.mp h1
  obtain⟨b1,b2⟩:=cU.mp h2
  have e:a=b:=by
   rcases aB.mp (p.mem_iff.mp (aw ..)) with z | z
   ·exact z
   ·rcases aB.mp (p.mem_iff.mpr (aw ..)) with y | y
    ·exact y.symm
    ·have:=b1 a z
     rw[a1 b y] at this
     cases this
  subst e
  rw[jG4 (List.perm_cons a |>.mp p) a2 b2]
end Eo
end
section
namespace L2
mutual
def wid:Tr->Nat
 | .lst ts=>max ts.length (wids ts)
 | .tup ts=>max ts.length (wids ts)
 | _=>0
def wids:List Tr->Nat
 | []=>0
 | t::ts=>max (wid t) (wids ts)
end
theorem jPV {ts:List Tr}{t:Tr}(h:t∈ts):wid t<=wids ts:=by
 induction ts with
 | nil=>cases h
 | cons a r ih=>
  rw[wids]
  rcases aB.mp h with q | q
  ·subst q; omega
  ·have:=ih q; omega
end L2
namespace Eo
open PySem L2
abbrev jPC:List Str:=["found"]
noncomputable abbrev nSame:List Str:=["found","due"]
theorem scWhole:FnScope jPC ["found"] (j8 jBU):=⟨rfl,rfl,rfl,by decide+kernel,rfl,by decide+kernel,by decide+kernel⟩
theorem scSame:FnScope nSame ["found","due"] (j8 qP):=⟨rfl,rfl,rfl,by decide+kernel,rfl,by decide+kernel,by decide+kernel⟩
section
variable {P:Program}{w:World}{K:W.Frag}{mg:Str->Option Value}{base:Heap}
def jAZ:Sp:=fun vs H Q _=>∃ i:Int,vs=[.int i]/\Q (.bl true) H
def jSJ {f:Addr}{cdv:Value}{A:Around}{outer:List Env}{s:Shared}{H:Hp}{E:XK}(T:Txt mg): { t:TS // JSs (XOf jPC "_law_whole" jBU P w K mg base f cdv A outer s H E) (jC jBU) t} :=
 have nd:=scWhole.nd
 ⟨_,(jD (jH ((qD (jE jP gD T.isinstance (by decide+kernel) (j4 (jv 0 rfl vL) (j4 (y6 (v:= .ty "int") gD T.int (by decide+kernel) rfl) j7 j3) j3) j3) (yW (jPJ (jE jP gD T.isinstance (by decide+kernel) (j4 (jv 0 rfl vL) (j4 (y6 (v:= .ty "bool") gD T.bool (by decide+kernel) rfl) j7 j3) j3) j3)))))))⟩
theorem jNV {f:Addr}{fd:FuncData}(F:Fun K "_law_whole" "_law_whole" jBU f fd)(T:Txt mg):FnOk P w K mg base CX0 1 f fd ["found"] jAZ:=by
 refine F.ok scWhole (fun vs H Q E h=>?_) (fun cdv A outer s H vs Q E hr h=>?_)
 ·obtain⟨_,rfl,_⟩:=h
  rfl
 ·obtain⟨i,rfl,q⟩:=h
  refine⟨_,(jSJ T).2.h,?_⟩
  refine⟨_,rfl,_,_,_,true,rfl, .int i,rfl,true,rfl,?_⟩
  rw[aj rfl]
  exact⟨_,rfl,_,_,_,false,rfl, .int i,rfl,false,rfl,q⟩
def sameA {k:Nat}{spS:Sp}{f fW fS:Addr}{fdW fdS:FuncData}{cdv:Value}{A:Around}{outer:List Env}{s:Shared}{H:Hp}{E:XK}(T:Txt mg)(CW:Can P w K mg base "_law_whole" 1 fW fdW ["found"] jAZ)(CS:Can P w K mg base "_law_same" (k+1) fS fdS ["found","due"] spS)
  (hr:Room (k+1) (XOf nSame "_law_same" qP P w K mg base f cdv A outer s H E).A): { t:TS // JSs (XOf nSame "_law_same" qP P w K mg base f cdv A outer s H E) (jC qP) t} :=
 have nd:=scSame.nd
 ⟨_,(jB (kT (jM jL2 (jv 1 rfl vL) (jIW) (jG _)) (jD (jH (kP jL2 (jv 0 rfl vL) (jIW) (jG _)))) jR)
   (jB (kT (yN (jE jP gD T.isinstance (by decide+kernel) (j4 (jv 1 rfl vL) (j4 (y6 (v:= .ty "bool") gD T.bool (by decide+kernel) rfl) j7 j3) j3) j3) kY) (jD (jH ((qD (jE jP gD T.isinstance (by decide+kernel) (j4 (jv 0 rfl vL) (j4 (y6 (v:= .ty "bool") gD T.bool (by decide+kernel) rfl) j7 j3) j3) j3) (yW (kP yU (jv 0 rfl vL) (jv 1 rfl vL) (jG _))))))) jR)
   (jB (kT (yN (jE jP gD T.isinstance (by decide+kernel) (j4 (jv 1 rfl vL) (j4 (y6 (v:= .ty "int") gD T.int (by decide+kernel) rfl) j7 j3) j3) j3) kY) (jD (jH ((qD (CW.je (hr.mono (by omega)) gD (j4 (jv 0 rfl vL) j7 j3) j3) (yW (kP yU (jv 0 rfl vL) (jv 1 rfl vL) (jG _))))))) jR)
   (jB (kT (yN (jE jP gD T.isinstance (by decide+kernel) (j4 (jv 1 rfl vL) (j4 (y6 (v:= .ty "str") gD T.str (by decide+kernel) rfl) j7 j3) j3) j3) kY) (jD (jH ((qD (jE jP gD T.isinstance (by decide+kernel) (j4 (jv 0 rfl vL) (j4 (y6 (v:= .ty "str") gD T.str (by decide+kernel) rfl) j7 j3) j3) j3) (yW (kP yU (jv 0 rfl vL) (jv 1 rfl vL) (jG _))))))) jR)
   (jB (kT (jt_w (jw_or (jM op_ne (jE jP gD T.isinstance (by decide+kernel) (j4 (jv 1 rfl vL) (j4 (y6 (v:= .ty "tuple") gD T.tuple (by decide+kernel) rfl) j7 j3) j3) j3) (jE jP gD T.isinstance (by decide+kernel) (j4 (jv 0 rfl vL) (j4 (y6 (v:= .ty "tuple") gD T.tuple (by decide+kernel) rfl) j7 j3) j3) j3) (jG _)) (jEM (jM op_ne (jE jP gD T.isinstance (by decide+kernel) (j4 (jv 1 rfl vL) (j4 (y6 (v:= .ty "list") gD T.list (by decide+kernel) rfl) j7 j3) j3) j3) (jE jP gD T.isinstance (by decide+kernel) (j4 (jv 0 rfl vL) (j4 (y6 (v:= .ty "list") gD T.list (by decide+kernel) rfl) j7 j3) j3) j3) (jG _))))) (jD (jH (je_bl))) jR)
   (jD (jH ((qD (kP yU (jE jU gD T.len (by decide+kernel) (j4 (jv 0 rfl vL) j7 j3) j3) (jE jU gD T.len (by decide+kernel) (j4 (jv 1 rfl vL) j7 j3) j3) (jG _)) (yW (jE (jAO rfl) gD T.all (by decide+kernel) (j4 (kZ (m:=[none,none]) (Nc:=["one","other"]) rfl (jPH gD T.zip (j4 (jv 0 rfl vL) (j4 (jv 1 rfl vL) j7 j3) j3) j3) rfl (by decide+kernel) (by decide+kernel) (kS (psc:=j8 qP) (by decide+kernel)) (jS (N:=nSame) rfl rfl (by decide+kernel)) (fun cl C fp s H=>jC2 (i:=0) (j:=1) rfl (show (["one","other"]:List Str).Nodup by decide+kernel) rfl rfl (by decide+kernel) (by decide+kernel)) (fun cl C fp s H=>yJ) (fun cl C fp s H=>(CS.je hr (gl_b (by decide+kernel)) (j4 (jv 0 rfl (kD (by decide+kernel))) (j4 (jv 1 rfl (kD (by decide+kernel))) j7 j3) j3) j3)) kN) j7 jV) jV)))))))))))⟩
def spNo:Sp:=fun _ _ _ _=>False
theorem ok_no {k:Nat}{f:Addr}{fd:FuncData}{ps:List Str} :FnOk P w K mg base CX0 k f fd ps spNo:=⟨fun _ _ _ _ h=>h.elim,fun _ _ _ _ _ _ _ _ _ _ _ _ _ h=>h.elim⟩
def jCD (d:Nat):Sp:=fun vs H Q _=>∃ (x y:V) (t:Tr),vs=[x,y]/\TAt H t x/\TAt H t y/\dep t<=d/\wid t<=1000000/\∀ H',Ext H H'->Q (.bl true) H'
def jP4:Nat->Sp
 | 0=>spNo
 | d+1=>jCD d
theorem jOV (n:Nat):(replicate n true).all id=true:=by
 induction n with
 | zero=>rfl
 | succ n ih=>rw[cg,dn,ih]; rfl
theorem jIC (d:Nat)(tp:Bool){H:Hp}{p q:Addr}{ts:List Tr}{vs ws:List V}{Q:VK}
  (hp:Sq tp K H p vs) (hq:Sq tp K H q ws) (ex:∀ H',Ext H H'->Sq tp K H' p vs/\Sq tp K H' q ws) (h1:TsAt H ts vs) (h2:TsAt H ts ws) (hd:deps ts<d) (hw:ts.length<=1000000) (hws:wids ts<=1000000) (k:∀ H',Ext H H'->Q (.bl true) H') {m:List (Option Nat)}{σ:St}
  (hm:m=[none,none]):
  qQ m (gTup K 2 (gCons (yA 0) (gCons (yA 1) gNil))) yY (tCall (jP4 d) [] E0 (tCons (tVar 0) (tCons (tVar 1) tNil))) σ (fun x H1=>∃ (p:Addr) (bs:List Bool),[x]=[.ref p]/\SqL K H1 p (bs.map V.bl)/\Q (.bl (bs.all id)) H1) (Itz tp tp K p q) H:=by
 subst hm
 have l1:=h1.len
 have l2:=h2.len
 refine jJ4 (xs:=vs) (ys:=ws) (by rw[aO]; omega) (fun D i σ' H' zs=>(∃ v1 v2,σ'=[v1,v2])/\zs=(replicate i true).map V.bl/\Ext H H'/\H' D=some (.lst zs)/\H D=none) ?_ ?_ ?_ ?_
 ·intro D hD
  exact⟨⟨_,_,rfl⟩,rfl,(Ext.refl H).new hD _,j6,hD⟩
 ·rintro D i σ' H' zs hD ⟨_,rfl,e,e2,_⟩
  obtain⟨q1,q2⟩:=ex H' e
  refine⟨q1,q2,e2,?_⟩
  rw[ae,fj]
  exact ak _
 ·rintro D i σ' H' zs x y t hD hx hy ht ⟨⟨v1,v2,rfl⟩,rfl,e,e2,hn⟩
  obtain⟨u,hu,hxu⟩:=h1.get hx
  obtain⟨u',hu',hyu⟩:=h2.get hy
  rw[hu] at hu'
  cases hu'
  have tD:D≠t:=jA e2 ht
  have hmem:=ao hu
  have e3:Ext H (upd H' t (.tup [x,y])):=e.new ht _
  refine⟨t,_,rfl,SqT.of j6,rfl,_,_,rfl,_,_,rfl,rfl,?_⟩
  dsimp only [yA,yY]
  rw[aj rfl]
  cases d with
  | zero=>omega
  | succ d=>
   refine⟨_,rfl,_,rfl,x,y,u,rfl,hxu.ext e3,hyu.ext e3,by have:=jFG hmem; omega,by have:=jPV hmem; omega,fun H4 e4=>⟨e4 _ _ (by rw[j9 tD]; exact e2),⟨_,_,rfl⟩,?_,(e3.trans e4).updNew hn _,j6,hn⟩⟩
   rw[List.replicate_succ',aR]
   rfl
 ·rintro D σ' H' zs hD ⟨_,rfl,e,e2,hn⟩
  refine⟨D,_,rfl,SqL.of e2,?_⟩
  rw[jOV]
  exact k H' e
theorem jG0 {f fW:Addr}{fd fdW:FuncData}(d:Nat)(F:Fun K "_law_same" "_law_same" qP f fd)(T:Txt mg)(CW:Can P w K mg base "_law_whole" 1 fW fdW ["found"] jAZ)(CS:Can P w K mg base "_law_same" (d+1) f fd ["found","due"] (jP4 d)):
  FnOk P w K mg base CX0 (d+2) f fd ["found","due"] (jCD d):=by
 refine F.ok scSame (fun vs H Q E h=>?_) (fun cdv A outer s H vs Q E hr h=>?_)
 ·obtain⟨_,_,_,rfl,_⟩:=h
  rfl
 ·obtain⟨x,y,t,rfl,hx,hy,hd,hw,k⟩:=h
  refine⟨_,(sameA T CW CS hr).2.h,?_⟩
  have k0:=k H (Ext.refl H)
  cases t with
  | non=>
   cases (show x= .non from hx)
   cases (show y= .non from hy)
   exact⟨_,rfl,rfl,_,rfl,iteT ⟨_,rfl,rfl,k0⟩⟩
  | bl b=>
   cases (show x= .bl b from hx)
   cases (show y= .bl b from hy)
   refine⟨_,rfl,rfl,_,rfl,iteF ?_⟩
   refine⟨_,rfl,_,_,_,true,rfl, .bl b,rfl,true,rfl,iteT ?_⟩
   refine⟨_,rfl,_,_,_,true,rfl, .bl b,rfl,true,rfl,iteT ⟨_,rfl,_,rfl,rfl,?_⟩⟩
   show Q (.bl (decide (V.bl b=V.bl b))) H
   rw[am rfl]
   exact k0
  | int i=>
   cases (show x= .int i from hx)
   cases (show y= .int i from hy)
   refine⟨_,rfl,rfl,_,rfl,iteF ?_⟩
   refine⟨_,rfl,_,_,_,false,rfl, .int i,rfl,false,rfl,iteF ?_⟩
   refine⟨_,rfl,_,_,_,true,rfl, .int i,rfl,true,rfl,iteT ?_⟩
   refine⟨_,rfl,_,rfl,true,rfl,iteT ⟨_,rfl,_,rfl,rfl,?_⟩⟩
   show Q (.bl (decide (V.int i=V.int i))) H
   rw[am rfl]
   exact k0
  | str z=>
   cases (show x= .str z from hx)
   cases (show y= .str z from hy)
   refine⟨_,rfl,rfl,_,rfl,iteF ?_⟩
   refine⟨_,rfl,_,_,_,false,rfl, .str z,rfl,false,rfl,iteF ?_⟩
   refine⟨_,rfl,_,_,_,false,rfl, .str z,rfl,false,rfl,iteF ?_⟩
   refine⟨_,rfl,_,_,_,true,rfl, .str z,rfl,true,rfl,iteT ?_⟩
   refine⟨_,rfl,_,_,_,true,rfl, .str z,rfl,true,rfl,iteT ⟨_,rfl,_,rfl,rfl,?_⟩⟩
   show Q (.bl (decide (V.str z=V.str z))) H
   rw[am rfl]
   exact k0
  | lst ts=>
   obtain⟨p,vs,rfl,hp,h1⟩:=hx
   obtain⟨q,ws,rfl,hq,h2⟩:=hy
   rw[dep] at hd
   rw[wid] at hw
   refine⟨_,rfl,rfl,_,rfl,iteF ?_⟩
   refine⟨_,rfl,_,_,_,false,rfl, .lst hq,rfl,false,rfl,iteF ?_⟩
   refine⟨_,rfl,_,_,_,false,rfl, .lst hq,rfl,false,rfl,iteF ?_⟩
   refine⟨_,rfl,_,_,_,false,rfl, .lst hq,rfl,false,rfl,iteF ?_⟩
   refine⟨_,rfl,_,_,_,false,rfl, .lst hq,rfl,_,rfl,_,_,_,false,rfl, .lst hp,rfl,rfl,_,rfl,iteF ?_⟩
   refine⟨_,rfl,_,_,_,true,rfl, .lst hq,rfl,_,rfl,_,_,_,true,rfl, .lst hp,rfl,rfl,_,rfl,iteF ?_⟩
   refine⟨_,rfl,p,_,rfl, .inl (SqL.of hp),_,rfl,q,_,rfl, .inl (SqL.of hq),rfl,_,rfl,?_⟩
   rw[show (vs.length:Int)=(ws.length:Int) by rw[h1.len,h2.len],am rfl]
   refine iteT ⟨_,rfl,_,rfl,false,false,p,q,rfl,⟨_,SqL.of hp⟩,⟨_,SqL.of hq⟩,?_⟩
   exact jIC d false (SqL.of hp) (SqL.of hq) (fun H' e=>⟨SqL.of (e _ _ hp),SqL.of (e _ _ hq)⟩) h1 h2 (by omega) (by omega) (by omega) k rfl
  | tup ts=>
   obtain⟨p,vs,rfl,hp,h1⟩:=hx
   obtain⟨q,ws,rfl,hq,h2⟩:=hy
   rw[dep] at hd
   rw[wid] at hw
   refine⟨_,rfl,rfl,_,rfl,iteF ?_⟩
   refine⟨_,rfl,_,_,_,false,rfl, .tup hq,rfl,false,rfl,iteF ?_⟩
   refine⟨_,rfl,_,_,_,false,rfl, .tup hq,rfl,false,rfl,iteF ?_⟩
   refine⟨_,rfl,_,_,_,false,rfl, .tup hq,rfl,false,rfl,iteF ?_⟩
   refine⟨_,rfl,_,_,_,true,rfl, .tup hq,rfl,_,rfl,_,_,_,true,rfl, .tup hp,rfl,rfl,_,rfl,iteF ?_⟩
   refine⟨_,rfl,_,_,_,false,rfl, .tup hq,rfl,_,rfl,_,_,_,false,rfl, .tup hp,rfl,rfl,_,rfl,iteF ?_⟩
   refine⟨_,rfl,p,_,rfl, .inr (SqT.of hp),_,rfl,q,_,rfl, .inr (SqT.of hq),rfl,_,rfl,?_⟩
   rw[show (vs.length:Int)=(ws.length:Int) by rw[h1.len,h2.len],am rfl]
   refine iteT ⟨_,rfl,_,rfl,true,true,p,q,rfl,⟨_,SqT.of hp⟩,⟨_,SqT.of hq⟩,?_⟩
   exact jIC d true (SqT.of hp) (SqT.of hq) (fun H' e=>⟨SqT.of (e _ _ hp),SqT.of (e _ _ hq)⟩) h1 h2 (by omega) (by omega) (by omega) k rfl
theorem jIM {f fW:Addr}{fd fdW:FuncData}(F:Fun K "_law_same" "_law_same" qP f fd)(T:Txt mg)(CW:Can P w K mg base "_law_whole" 1 fW fdW ["found"] jAZ)(hm:mg "_law_same" =some (.ref f))(kp:keepIn K (.ref f)=true)(hb:Binds K fd ["found","due"] []):
  ∀ d:Nat,FnOk P w K mg base CX0 (d+2) f fd ["found","due"] (jCD d)
 | 0=>jG0 0 F T CW ⟨ok_no,hm,kp,hb⟩
 | d+1=>jG0 (d+1) F T CW ⟨jIM F T CW hm kp hb d,hm,kp,hb⟩
end
section
variable {P:Program}{w:World}{K:W.Frag}{mg:Str->Option Value}{base:Heap}
variable {f:Addr}{cdv:Value}{A:Around}{outer:List Env}{s:Shared}{H0:Hp}{E:XK}
abbrev jLF:List Str:=["box","some"]
theorem scLRank:FnScope jLF ["box","some"] (j8 jBH):=⟨rfl,rfl,rfl,by decide+kernel,rfl,by decide+kernel,by decide+kernel⟩
def jDL:Sp:=fun vs H Q _=>∃ (b a:Addr) (w:Int) (ms:List Int) (pcs:List (List Int×Int)) (c:List Int),vs=[.ref b, .ref a]/\BoxAt H b w ms pcs/\Good 16 32 w ms pcs/\H a=some (.tup (c.map V.int))/\(∀ k∈c,0<=k/\k<pcs.length)/\c.length<=100/\∀ q H',H' q=some (.tup ((rkL w.toNat pcs c).map V.int))->Ext H H'->Q (.ref q) H'
def jTT (T:Txt mg): { t:TS // JSs (XOf jLF "_law_rank" jBH P w K mg base f cdv A outer s H0 E) (jC jBH) t} :=
 have nd:=scLRank.nd
 ⟨_,(jD (jH (kU jA0 gD T.tuple (by decide+kernel) (j4 (jOB (m:=[none,some 1,some 0]) (Nc:=["thing","some","box"]) rfl (jA5 gD T.range (j4 (kB kQ (jv 0 rfl vC) (je_int) jI) j7 kL) kL) rfl (by decide+kernel) (by decide+kernel) (kS (psc:=j8 jBH) (by decide+kernel)) (jS (N:=jLF) rfl rfl (by decide+kernel)) (fun cl C fp s H=>jW (i:=0) (show (["thing","some","box"]:List Str).Nodup by decide+kernel) rfl (jRL (by decide+kernel))) (fun cl C fp s H=>yJ) (fun cl C fp s H=>(kB jJW (kJ jNU (kZ (m:=[none,some 0,some 2]) (Nc:=["k","thing","box"]) rfl (jLU (jv 1 rfl (jPY (by decide+kernel)))) rfl (by decide+kernel) (by decide+kernel) (jOI (by decide+kernel)) (jS (N:=["thing","some","box"]) rfl rfl (by decide+kernel)) (fun cl C fp s H=>jW (i:=0) (show (["k","thing","box"]:List Str).Nodup by decide+kernel) rfl (qJ (by decide+kernel))) (fun cl C fp s H=>jDZ (jM jNT (jv 1 rfl (yC (by decide+kernel))) (kB jE1 (kB jE1 (kB jE1 (jv 2 rfl (yC (by decide+kernel))) (je_int) jI) (jv 0 rfl (kD (by decide+kernel))) yG) (je_int) jI) jG8)) (fun cl C fp s H=>(jv 0 rfl (kD (by decide+kernel)))) jAV) (yR (j4 (je_un jI1 (je_int)) j7 se_un))) (je_int) jI)) kN) j7 jV) jV)))⟩
theorem jNZ {fd:FuncData}(F:Fun K "_law_rank" "_law_rank" jBH f fd)(T:Txt mg):FnOk P w K mg base CX0 1 f fd ["box","some"] jDL:=by
 refine F.ok scLRank (fun vs H Q E h=>?_) (fun cdv A outer s H vs Q E hr h=>?_)
 ·obtain⟨_,_,_,_,_,_,rfl,_⟩:=h
  rfl
 ·obtain⟨b,a,wi,ms,pcs,c,rfl,hB,g,ha,kb,cl,q⟩:=h
  refine⟨_,(jTT T).2.h,?_⟩
  obtain⟨qm,qp,ps,b1,b2,b3,b4⟩:=id hB.ex
  have w0:=g.w0
  have w1:=g.w1
  refine⟨_,rfl,b,_,0,_,rfl,rfl,SqT.of b1,rfl,wi,rfl,by omega,by omega,jJ6 (n:=wi.toNat) (fun σ=>∃ v,σ=[v,some (.ref a),some (.ref b)]) (mapZ (upto wi.toNat) fun t=>V.int (rkP pcs c t)) (mapZ.ok _ _) (by rw[aO]; omega) ⟨_,rfl⟩ ?_ ?_⟩
  ·rintro j σ' H1 zs hj ⟨v,rfl⟩ e1 hz S1 S2 yes no
   have e0:(0+(j:Int))=(j:Int):=by omega
   dsimp only [yA,yY]
   rw[aj rfl,e0]
   refine⟨_,rfl,a,rfl,⟨_,SqT.of (e1 _ _ ha)⟩,jJ5 (xs:=c.map V.int) (fun σ=>∃ v,σ=[v,some (.int (j:Int)),some (.ref b)]) (outZ c (fun k=>decide ((j:Int)∈j5 pcs k)) V.int) (outZ.ok _ _ _) (e1 _ _ ha) (by rw[ae,aO]; omega) ⟨_,rfl⟩ ?_ ?_⟩
   ·rintro i x σ' H2 ys hx ⟨v',rfl⟩ e2 hy S3 S4 yes' no'
    obtain⟨k,hk,rfl⟩:=int_at hx
    have kb':=kb k (ao hk)
    have E2:=e1.trans e2
    obtain⟨pa,pq,g1,g2,g3⟩:=jDR b4 kb'.1 kb'.2
    refine⟨_,rfl,_,rfl,b,_,2,_,rfl,rfl,SqT.of (E2 _ _ b1),rfl,_,rfl,qp,_,k,_,rfl,rfl,SqT.of (E2 _ _ b3),g1,pa,_,0,_,rfl,rfl,SqT.of (E2 _ _ g2),rfl,pq,_,rfl, .inr (SqT.of (E2 _ _ g3)),rfl,jAB _,_,rfl,?_⟩
    rw[jC3]
    refine ite2 (fun h=>?_) (fun h=>?_)
    ·exact⟨_,rfl,yes' _ _ _ ⟨_,rfl⟩ (Ext.refl _) (hy.yes hk h)⟩
    ·exact no' _ _ ⟨_,rfl⟩ (Ext.refl _) (hy.no hk (fg.mpr h))
   ·rintro D H2 ys h2 e2 n2 hy
    have hy:=hy.all (by rw[ae]; exact ak _)
    subst hy
    refine⟨1,rfl,by show (1:Nat)<=_; decide,fun l H3 d3 e3 n3=>?_⟩
    refine⟨D,l,_,_,rfl,rfl,e3 _ _ h2,d3,?_,fun l4 H4 d4 e4 n4=>?_⟩
    ·rw[ae,aO]
     have:=bV (fun k=>decide ((j:Int)∈j5 pcs k)) c
     show _+1<=_
     omega
    refine⟨l4,_,0,V.int (rkP pcs c (j:Int)),rfl,rfl,SqL.of d4,?_,yes _ _ _ ⟨_,rfl⟩ ((e2.trans e3).trans e4) (hz.yes (jAC hj))⟩
    have:=yT (xs:=(c.filter fun k=>decide ((j:Int)∈j5 pcs k)).map V.int++[V.int (-1)]) (j:=0) (v:=V.int (rkP pcs c (j:Int))) (by
     unfold rkP
     cases c.filter fun k=>decide ((j:Int)∈j5 pcs k) <;> rfl)
    exact this
  ·rintro D H1 zs h1 e1 n1 hz
   have hz:=hz.all (by rw[jA8]; exact ak _)
   have hz2:zs=(rkL wi.toNat pcs c).map V.int:=by rw[hz]; unfold rkL; rw[cC]; rfl
   rw[hz2] at h1
   refine⟨D,_,rfl, .inl ⟨SqL.of h1,fun q5 hq5=>?_⟩⟩
   exact q q5 _ j6 (e1.trans ((Ext.refl _).new hq5 _))
end
theorem jSF {c:List Int}(h:c.Pairwise (· < ·)):(adj c).all id=true:=by
 rw[bi]
 intro x hx
 obtain⟨k,hk,rfl⟩:=aW.mp hx
 have hk:=bY.mp hk
 have:=bx.mp h k (k+1) (by omega) (by omega) (by omega)
 show decide _=true
 rw[bg]
 rw[aA,aA,ax (by omega),ax (by omega)]
 exact this
theorem cut1 (vs:List V):cutV vs (some 1) none=vs.drop 1:=by
 unfold cutV
 have s1:HT.sIx vs.length 0 (some 1)=min 1 vs.length:=HT.sIx_nat _ _ 1
 rw[s1,HT.sIx_none]
 by_cases h1:vs.length=0
 ·have:vs=[]:=eW.mp h1
  subst this
  rfl
 ·rw[show min 1 vs.length=1 by omega]
  exact bO (by rw[dq]; omega)
theorem jKS:∀ c:List Int,(replicate c.length true).map V.bl=c.map fun _=>V.bl true
 | []=>rfl
 | a::r=>by rw[aK,cg,aY,aY,jKS r]
theorem jQ9 (n:Nat):((replicate n true)).all id=true:=by
 rw[bi]
 intro x hx
 rw[(List.mem_replicate.mp hx).2]
 rfl
section
variable {P:Program}{w:World}{K:W.Frag}{mg:Str->Option Value}{base:Heap}
variable {f fW fU fV:Addr}{fdW fdU fdV:FuncData}{cdv:Value}{A:Around}{outer:List Env}{s:Shared}{H0:Hp}{E:XK}
noncomputable abbrev nUpto:List Str:=["thing","least","most"]
theorem scUpto:FnScope nUpto ["thing","least","most"] (j8 sUpto):=⟨rfl,rfl,rfl,by decide+kernel,rfl,by decide+kernel,by decide+kernel⟩
def spUpI:Sp:=fun vs H Q _=>∃ i lo hi:Int,vs=[.int i, .int lo, .int hi]/\lo<=i/\i<=hi/\Q (.bl true) H
def uptoA (T:Txt mg)(CW:Can P w K mg base "_law_whole" 1 fW fdW ["found"] jAZ)(hr:Room 1 (XOf nUpto "_law_upto" sUpto P w K mg base f cdv A outer s H0 E).A): { t:TS // JSs (XOf nUpto "_law_upto" sUpto P w K mg base f cdv A outer s H0 E) (jC sUpto) t} :=
 have nd:=scUpto.nd
 ⟨_,(jD (jH ((qD (CW.je hr gD (j4 (jv 0 rfl vL) j7 j3) j3) (yW (jOC op_le op_le (jv 1 rfl vL) (jv 0 rfl vL) (jv 2 rfl vL)))))))⟩
theorem jR4 {fd:FuncData}(F:Fun K "_law_upto" "_law_upto" sUpto f fd)(T:Txt mg)(CW:Can P w K mg base "_law_whole" 1 fW fdW ["found"] jAZ):FnOk P w K mg base CX0 2 f fd ["thing","least","most"] spUpI:=by
 refine F.ok scUpto (fun vs H Q E h=>?_) (fun cdv A outer s H vs Q E hr h=>?_)
 ·obtain⟨_,_,_,rfl,_⟩:=h
  rfl
 ·obtain⟨i,lo,hi,rfl,h1,h2,q⟩:=h
  refine⟨_,(uptoA T CW hr).2.h,?_⟩
  refine⟨_,rfl,i,rfl,_,rfl,iteT ⟨_,rfl,_,rfl,_,_,rfl,rfl,_,rfl,iteT' (am h1) ?_⟩⟩
  exact⟨_,rfl,_,_,rfl,rfl,qb q (am h2).symm⟩
abbrev jDU:List Str:=["box","thing"]
theorem scRightC:FnScope jDU ["box","thing"] (j8 yF):=⟨rfl,rfl,rfl,by decide+kernel,rfl,by decide+kernel,by decide+kernel⟩
def jD5:Sp:=fun vs H Q _=>∃ (b a:Addr) (w:Int) (ms:List Int) (pcs:List (List Int×Int)) (c:List Int),vs=[.ref b, .ref a]/\BoxAt H b w ms pcs/\Good 16 32 w ms pcs/\H a=some (.tup (c.map V.int))/\IsCov w ms pcs c/\∀ H',Ext H H'->Q (.bl true) H'
def jQ8 (T:Txt mg)(CU:Can P w K mg base "_law_upto" 2 fU fdU ["thing","least","most"] spUpI)(CV:Can P w K mg base "_law_covers" 1 fV fdV ["box","some"] jD6)(hr:Room 2 (XOf jDU "_law_right_covering" yF P w K mg base f cdv A outer s H0 E).A): { t:TS // JSs (XOf jDU "_law_right_covering" yF P w K mg base f cdv A outer s H0 E) (jC yF) t} :=
 have nd:=scRightC.nd
 ⟨_,(jB (kT (jt_w (jw_or (yX (yN (jE jP gD T.isinstance (by decide+kernel) (j4 (jv 1 rfl vL) (j4 (y6 (v:= .ty "tuple") gD T.tuple (by decide+kernel) rfl) j7 j3) j3) j3) kY)) (jEM (yX (yN (jE (jAO rfl) gD T.all (by decide+kernel) (j4 (kZ (m:=[none,some 0]) (Nc:=["one","box"]) rfl (jD0 (jv 1 rfl vL)) rfl (by decide+kernel) (by decide+kernel) (kS (psc:=j8 yF) (by decide+kernel)) (jS (N:=jDU) rfl rfl (by decide+kernel)) (fun cl C fp s H=>jW (i:=0) (show (["one","box"]:List Str).Nodup by decide+kernel) rfl (qJ (by decide+kernel))) (fun cl C fp s H=>yJ) (fun cl C fp s H=>(CU.je (hr.mono (by decide)) (gl_b (by decide+kernel)) (j4 (jv 0 rfl (kD (by decide+kernel))) (j4 (je_int) (j4 (kJ jBX (jE jK3 (gl_b (by decide+kernel)) T.len (by decide+kernel) (j4 (kB jAD (jv 1 rfl (yC (by decide+kernel))) (je_int) jI) j7 kL) kL) (je_int)) j7 yM) jO) j3) j3)) jAV) j7 jV) jV) kY))))) (jD (jH (je_bl))) jR)
   (jD (jH ((qD (jE (jAO rfl) gD T.all (by decide+kernel) (j4 (kZ (m:=[none,none]) (Nc:=["one","other"]) rfl (jPH gD T.zip (j4 (jv 1 rfl vL) (j4 (jFA jQ4 (jv 1 rfl vL) (jHL (je_int)) jHM) j7 kL) j3) j3) rfl (by decide+kernel) (by decide+kernel) (kS (psc:=j8 yF) (by decide+kernel)) (jS (N:=jDU) rfl rfl (by decide+kernel)) (fun cl C fp s H=>jC2 (i:=0) (j:=1) rfl (show (["one","other"]:List Str).Nodup by decide+kernel) rfl rfl (by decide+kernel) (by decide+kernel)) (fun cl C fp s H=>yJ) (fun cl C fp s H=>(kP op_lt (jv 0 rfl (kD (by decide+kernel))) (jv 1 rfl (kD (by decide+kernel))) (jG _))) kN) j7 jV) jV) (yW (CV.je (hr.mono (by decide)) gD (j4 (jv 0 rfl vC) (j4 (jv 1 rfl vL) j7 j3) j3) j3)))))))⟩
theorem jL5 {fd:FuncData}(F:Fun K "_law_right_covering" "_law_right_covering" yF f fd)(T:Txt mg)(CU:Can P w K mg base "_law_upto" 2 fU fdU ["thing","least","most"] spUpI)(CV:Can P w K mg base "_law_covers" 1 fV fdV ["box","some"] jD6):FnOk P w K mg base CX0 3 f fd ["box","thing"] jD5:=by
 refine F.ok scRightC (fun vs H Q E h=>?_) (fun cdv A outer s H vs Q E hr h=>?_)
 ·obtain⟨_,_,_,_,_,_,rfl,_⟩:=h
  rfl
 ·obtain⟨b,a,w,ms,pcs,c,rfl,hB,g,ha,C,q⟩:=h
  obtain⟨qm,qp,ps,b1,b2,b3,b4⟩:=id hB.ex
  have pl:=b4.len
  have gpl:=g.pl
  have cl:=jB0 c 0 _ C.ris.ris C.ris.bnd
  have hn:(c.map V.int).length<sizeLine:=by rw[aO,ae]; omega
  refine⟨_,(jQ8 T CU CV hr).2.h,?_⟩
  refine⟨_,rfl,_,_,_,true,rfl, .tup ha,rfl,true,rfl,iteF ?_⟩
  refine⟨_,rfl,a,rfl,⟨_,SqT.of ha⟩,jJ5 (fun σ=>∃ v,σ=[v,some (.ref b)]) (mapZ c fun _=>V.bl true) (mapZ.ok _ _) ha hn ⟨_,rfl⟩ ?_ ?_⟩
  ·rintro j x σ' H1 zs hx ⟨v,rfl⟩ e1 hz S1 S2 yes no
   obtain⟨z,hz1,rfl⟩:=aI .. ▸ hx |> fun h=>by simpa using h
   have zb:=C.ris.bnd z (ao hz1)
   dsimp only [yA,yY]
   rw[aj rfl]
   exact⟨_,rfl,_,rfl,b,_,2,_,rfl,rfl,SqT.of (e1 _ _ b1),rfl,qp,_,rfl, .inr (SqT.of (e1 _ _ b3)),_,_,rfl,rfl,z,0,_,rfl,zb.1,by rw[pl]; omega,yes _ _ _ ⟨_,rfl⟩ (Ext.refl _) (mapZ.yes hz hz1)⟩
  ·intro D H1 zs hD e1 nD hz
   have hz:=hz.all (by rw[ae]; exact ak _)
   subst hz
   refine⟨D,replicate c.length true,rfl,?_,_,rfl,?_⟩
   ·have:(replicate c.length true).map V.bl=c.map fun _=>V.bl true:=jKS c
    rw[this]
    exact SqL.of hD
   rw[jQ9]
   refine iteF ?_
   have ha1:=e1 _ _ ha
   refine⟨_,rfl,_,rfl,1,rfl,a,_,rfl,ha1,fun r H2 hr2 e2=>?_⟩
   rw[cut1] at hr2
   refine⟨true,true,a,r,rfl,⟨_,SqT.of (e2 _ _ ha1)⟩,⟨_,SqT.of hr2⟩,jJ4 (xs:=c.map V.int) (ys:=(c.map V.int).drop 1) hn (fun D i σ' H' zs=>(∃ v1 v2,σ'=[v1,v2])/\zs=((adj c).take i).map V.bl/\Ext H2 H'/\H' D=some (.lst zs)/\H2 D=none) ?_ ?_ ?_ ?_⟩
   ·intro D hD
    exact⟨⟨_,_,rfl⟩,rfl,(Ext.refl _).new hD _,j6,hD⟩
   ·rintro D i σ' H' zs hD ⟨_,rfl,ex,h2,_⟩
    refine⟨SqT.of (ex _ _ (e2 _ _ ha1)),SqT.of (ex _ _ hr2),h2,?_⟩
    rw[ae,be]
    omega
   ·rintro D i σ' H' zs x y t hD hx1 hy1 ht1 ⟨⟨v1,v2,rfl⟩,rfl,ex,h2,hn2⟩
    rw[eU,gk] at hy1
    have hlt:i+1<(c.map V.int).length:=(ag.mp hy1).1
    rw[ae] at hlt
    rw[getI (by omega)] at hx1 hy1
    cases hx1
    cases hy1
    have tD:D≠t:=jA h2 ht1
    refine⟨t,_,rfl,SqT.of j6,rfl,_,_,rfl,_,_,rfl,rfl,?_⟩
    dsimp only [yA,yY]
    rw[aj rfl]
    refine⟨_,rfl,_,rfl,_,_,rfl,rfl,by rw[j9 tD]; exact h2,⟨_,_,rfl⟩,?_,(ex.new ht1 _).updNew hn2 _,j6,hn2⟩
    rw[jJA (by omega),aR]
    rfl
   ·rintro D2 σ' H' zs hD2 ⟨_,rfl,ex,h2,_⟩
    have hlen:min (c.map V.int).length ((c.map V.int).drop 1).length=(adj c).length:=by
     rw[jN8,dq,ae]
     omega
    rw[hlen,bw] at h2
    have EE:=(e1.trans e2).trans ex
    refine⟨D2,_,rfl,SqL.of h2,_,rfl,?_⟩
    rw[jSF C.ris.ris]
    refine iteT ⟨_,rfl,_,rfl,b,a,w,ms,pcs,c,rfl,hB.mono fun b xs h=>EE b _ h,g,EE _ _ ha,C.ris.bnd,by omega,fun H4 e4=>qb (q H4 (EE.trans e4)) ?_⟩
    exact((jOO g C.ris).mpr C).symm
end
theorem jFO:∀ l:List Int,wids (l.map Tr.int)=0
 | []=>rfl
 | a::l=>by rw[aY,wids,jFO l]; rfl
theorem jQ0 {l:List Int}(h:l.length<=1000000):wid (.tup (l.map Tr.int))<=1000000:=by
 rw[wid,ae,jFO]
 omega
theorem tup_T {H:Hp}{a:Addr}{l:List Int}(h:H a=some (.tup (l.map V.int))):TAt H (.tup (l.map Tr.int)) (.ref a):=⟨a,_,rfl,h,jM4 _⟩
theorem jQ1 (c:List Int):dep (.tup (c.map Tr.int))<=4:=by
 rw[dep,jE5]
 decide
theorem jME {i j:Int}{H:Hp}{Q:VK}(q:Q (.bl (decide (i=j))) H):rEq (.int i) (.int j) H Q:=by
 have e:decide (V.int i=V.int j)=decide (i=j):=by simp
 exact⟨rfl,by rw[e]; exact q⟩
theorem jPM {c:Bool}{A B:Prop}(h:c=false)(b:B):if c=true then A else B:=by
 rw[h]
 exact b
section
variable {P:Program}{w:World}{K:W.Frag}{mg:Str->Option Value}{base:Heap}
variable {f fA fC fN fS fB fR tb:Addr}{fdA fdC fdN fdS fdB fdR:FuncData}{cdv:Value}{A:Around}{outer:List Env}{s:Shared}{H0:Hp}{E:XK}
abbrev jLC:List Str:=["box","number","amount","some","later"]
theorem scRight:FnScope jLC ["box","number","amount"] (j8 jBE):=⟨rfl,rfl,rfl,by decide+kernel,rfl,by decide+kernel,by decide+kernel⟩
def jH6 (tb:Addr):Sp:=fun vs H Q _=>∃ (b:Addr) (n:Nat) (w:Int) (ms:List Int) (pcs:List (List Int×Int)) (c:List Int),vs=[.ref b,natV n,natV (cvs w ms pcs).length]/\BoxAt H b w ms pcs/\Good 16 32 w ms pcs/\TabW H tb/\(cvs w ms pcs)[n]?=some c/\∀ H',ExtT tb H H'->TabW H' tb->Q (.bl true) H'
def jSW (T:Txt mg)(CA:Can P w K mg base "covering_at" 6 fA fdA ["box","number"] (jDM tb))(CC:Can P w K mg base "_law_right_covering" 3 fC fdC ["box","thing"] jD5)(CN:Can P w K mg base "number_of" 6 fN fdN ["box","covering"] (jEV tb))(CS:Can P w K mg base "_law_same" 6 fS fdS ["found","due"] (jCD 4))(CB:Can P w K mg base "next_behind" 6 fB fdB ["box","covering"] (jI6 tb))(CR:Can P w K mg base "_law_rank" 1 fR fdR ["box","some"] jDL)(hr:Room 6 (XOf jLC "_law_right" jBE P w K mg base f cdv A outer s H0 E).A): { t:TS // JSs (XOf jLC "_law_right" jBE P w K mg base f cdv A outer s H0 E) (jC jBE) t} :=
 have nd:=scRight.nd
 ⟨_,(jB (jK (i:=3) nd rfl lL (CA.je hr gD (j4 (jv 0 rfl vL) (j4 (jv 1 rfl vL) j7 j3) j3) j3) jQ)
   (jB (kT (jt_w (jw_or (yX (yN (CC.je (hr.mono (by decide)) gD (j4 (jv 0 rfl vL) (j4 (jv 3 rfl vL) j7 j3) j3) j3) kY)) (jEM (yX (yN (CS.je hr gD (j4 (CN.je hr gD (j4 (jv 0 rfl vL) (j4 (jv 3 rfl vL) j7 j3) j3) j3) (j4 (jv 1 rfl vL) j7 j3) jJ) jJ) kY))))) (jD (jH (je_bl))) jR)
   (jB (jK (i:=4) nd rfl lL (CB.je hr gD (j4 (jv 0 rfl vL) (j4 (jv 3 rfl vL) j7 j3) j3) j3) jQ)
   (jB (kT (jM yU (kJ y9 (jv 1 rfl vL) (je_int)) (jv 2 rfl vL) (jG _)) (jD (jH (kP jL2 (jv 4 rfl vL) (jIW) (jG _)))) jR)
   (jD (jH ((qD (CS.je hr gD (j4 (jv 4 rfl vL) (j4 (CA.je hr gD (j4 (jv 0 rfl vL) (j4 (kJ y9 (jv 1 rfl vL) (je_int)) j7 yM) j3) j3) j7 jJ) j3) j3) (yW (kP (jTH (gy (dL _ 101) hr.units101)) (CR.je (hr.mono (by decide)) gD (j4 (jv 0 rfl vL) (j4 (jv 3 rfl vL) j7 j3) j3) j3) (CR.je (hr.mono (by decide)) gD (j4 (jv 0 rfl vL) (j4 (jv 4 rfl vL) j7 j3) j3) j3) (jG _)))))))))))⟩
theorem jNW {fd:FuncData}(F:Fun K "_law_right" "_law_right" jBE f fd)(T:Txt mg)(CA:Can P w K mg base "covering_at" 6 fA fdA ["box","number"] (jDM tb))(CC:Can P w K mg base "_law_right_covering" 3 fC fdC ["box","thing"] jD5)(CN:Can P w K mg base "number_of" 6 fN fdN ["box","covering"] (jEV tb))(CS:Can P w K mg base "_law_same" 6 fS fdS ["found","due"] (jCD 4))(CB:Can P w K mg base "next_behind" 6 fB fdB ["box","covering"] (jI6 tb))(CR:Can P w K mg base "_law_rank" 1 fR fdR ["box","some"] jDL):FnOk P w K mg base CX0 7 f fd ["box","number","amount"] (jH6 tb):=by
 refine F.ok scRight (fun vs H Q E h=>?_) (fun cdv A outer s H vs Q E hr h=>?_)
 ·obtain⟨_,_,_,_,_,_,rfl,_⟩:=h
  rfl
 ·obtain⟨b,n,w,ms,pcs,c,rfl,hB,g,tab,hc,q⟩:=h
  have C:IsCov w ms pcs c:=(jDV g).mp (ao hc)
  have gl:=g.pl
  have w1:=g.w1
  have cwid:∀ {c},IsCov w ms pcs c->c.length<=32:=fun {c} C=>by
   have cl:=jB0 c 0 _ C.ris.ris C.ris.bnd
   omega
  have tt:∀ {H1 H2:Hp}(e:ExtT tb H1 H2) (t:TabW H1 tb),Tups H1 H2:=fun e t b xs h=>e.at t h
  have nl:=(ag.mp hc).1
  refine⟨_,(jSW T CA CC CN CS CB CR hr).2.h,?_⟩
  refine⟨_,rfl,_,rfl,b,n,w,ms,pcs,c,rfl,hB,g,tab,hc,fun a H1 d1 e1 t1=>?_⟩
  have hB1:=hB.mono (tt e1 tab)
  refine⟨_,rfl,_,rfl,b,a,w,ms,pcs,c,rfl,hB1,g,d1,C,fun H2 e2=>⟨_,rfl,iteF ?_⟩⟩
  have t2:=t1.ext e2
  refine⟨_,rfl,_,rfl,b,a,n,w,ms,pcs,c,rfl,hB1.mono e2.tups,g,t2,e2 _ _ d1,hc,fun H3 e3 t3=>?_⟩
  refine⟨_,rfl,_,_, .int (n:Int),rfl,rfl,rfl,by simp [dep],by simp [wid],fun H4 e4=>⟨_,rfl,iteF ?_⟩⟩
  have t4:=t3.ext e4
  have X4:ExtT tb H1 H4:=((ExtT.of e2).trans e3).trans (ExtT.of e4)
  have d4:=X4.at t1 d1
  have hB4:=hB1.mono (tt X4 t1)
  have Y4:ExtT tb H H4:=e1.trans X4
  by_cases hn:n+1=(cvs w ms pcs).length
  ·refine⟨_,rfl,_,rfl,b,a,n,w,ms,pcs,c,rfl,hB4,g,t4,d4,hc,fun _ H5 e5 t5=>?_,fun c' hc'=>?_⟩
   ·have e5':ExtT tb H H5:=Y4.trans e5
    refine⟨_,rfl,_,_,rfl,rfl,_,rfl,?_⟩
    refine jME ⟨_,rfl,iteT' (am (by show (n:Int)+1=((cvs w ms pcs).length:Int); omega)) ?_⟩
    exact⟨_,rfl,rfl,q H5 e5' t5⟩
   ·rw[cB (by omega)] at hc'
    cases hc'
  ·refine⟨_,rfl,_,rfl,b,a,n,w,ms,pcs,c,rfl,hB4,g,t4,d4,hc,fun z=>absurd z hn,fun c' hc' a' H5 d5 e5 t5=>?_⟩
   have C':IsCov w ms pcs c':=(jDV g).mp (ao hc')
   have hB5:=hB4.mono (tt e5 t4)
   have a5:=e5.at t4 d4
   refine⟨_,rfl,_,_,rfl,rfl,_,rfl,?_⟩
   refine jME ⟨_,rfl,jPM (aL (by show ¬ (n:Int)+1=((cvs w ms pcs).length:Int); omega)) ?_⟩
   refine⟨_,rfl,_,rfl,_,rfl,_,_,rfl,rfl,b,n+1,w,ms,pcs,c',rfl,hB5,g,t5,hc',fun a6 H6 d6 e6 t6=>?_⟩
   refine⟨_,_, .tup (c'.map Tr.int),rfl,tup_T (e6.at t5 d5),tup_T d6,jQ1 _,jQ0 (by have:=cwid C'; omega),fun H7 e7=>⟨_,rfl,iteT ?_⟩⟩
   have X7:ExtT tb H5 H7:=e6.trans (ExtT.of e7)
   have hB7:=hB5.mono (tt X7 t5)
   refine⟨_,rfl,_,rfl,b,a,w,ms,pcs,c,rfl,hB7,g,X7.at t5 a5,C.ris.bnd,by have:=cwid C; omega,fun q8 H8 d8 e8=>?_⟩
   refine⟨_,rfl,_,rfl,b,a',w,ms,pcs,c',rfl,hB7.mono e8.tups,g,e8 _ _ (X7.at t5 d5),C'.ris.bnd,by have:=cwid C'; omega,fun q9 H9 d9 e9=>?_⟩
   refine⟨q8,q9,_,_,rfl,rfl,SqT.of (e9 _ _ d8),SqT.of d9,?_⟩
   have lt:HT.lexLt (rkL w.toNat pcs c) (rkL w.toNat pcs c')=true:=by
    obtain⟨i1,x1⟩:=ag.mp hc
    obtain⟨i2,x2⟩:=ag.mp hc'
    have:=bx.mp (jMK g) n (n+1) i1 i2 (by omega)
    rw[x1,x2] at this
    exact this
   rw[lt]
   exact q H9 (Y4.trans (e5.trans (X7.trans (ExtT.of (e8.trans e9))))) ((t6.ext e7).ext (e8.trans e9))
end
def rkAt (w:Int)(ms:List Int)(pcs:List (List Int×Int))(i:Int):List Int:=rkL w.toNat pcs ((cvs w ms pcs).getD i.toNat [])
structure KvOk (w:Int)(ms:List Int)(pcs:List (List Int×Int))(H:Hp)(kvs:List (Key×V)):Prop where
 nd:(kvs.map (·.1)).Nodup
 is:∀ kv∈kvs,∃ i:Int,kv.1=Sum.inl i/\0<=i/\i<(cvs w ms pcs).length/\∃ q,kv.2=V.ref q/\H q=some (.tup ((rkAt w ms pcs i).map V.int))
theorem jNJ {kvs:List (Key×V)}{k:Key}{v:V}{kv:Key×V}(h:kv∈putK kvs k v):kv=(k,v)\/kv∈kvs:=by
 unfold putK at h
 split at h
 ·obtain⟨x,hx,rfl⟩:=aW.mp h
  by_cases e:x.1=k
  ·rw[aj e,e]
   exact .inl rfl
  ·rw[ai e]
   exact .inr hx
 ·rcases aM.mp h with z | z
  ·exact .inr z
  ·exact .inl (aN.mp z)
theorem jQG {kvs:List (Key×V)}{k:Key}{v:V}(h:(kvs.map (·.1)).Nodup):((putK kvs k v).map (·.1)).Nodup:=by
 cases e:valV kvs k with
 | none=>exact jRG v h e
 | some x=>
  unfold putK
  have:(kvs.any fun kv=>decide (kv.1=k))=true:=by rw[jBR,e]; rfl
  rw[aj this,cC]
  have e2:((fun x:Key×V=>x.1) ∘ fun kv:Key×V=>if kv.1=k then (kv.1,v) else kv)=fun x=>x.1:=by
   funext x
   show (if x.1=k then (x.1,v) else x).1=x.1
   split <;> rfl
  rw[e2]
  exact h
section
variable {w:Int}{ms:List Int}{pcs:List (List Int×Int)}{H H':Hp}{kvs:List (Key×V)}
theorem KvOk.nil:KvOk w ms pcs H []:=⟨fc,fun _ h=>by cases h⟩
theorem KvOk.mono (k:KvOk w ms pcs H kvs)(t:Tups H H'):KvOk w ms pcs H' kvs:=⟨k.nd,fun kv h=>let ⟨i,a,b,c,q,d,e⟩:=k.is kv h; ⟨i,a,b,c,q,d,t _ _ e⟩⟩
theorem KvOk.put (k:KvOk w ms pcs H kvs){i:Int}{q:Addr}(i0:0<=i)(i1:i<(cvs w ms pcs).length)(hq:H q=some (.tup ((rkAt w ms pcs i).map V.int))):KvOk w ms pcs H (putK kvs (Sum.inl i) (.ref q)):=⟨jQG k.nd,fun kv h=>by
 rcases jNJ h with rfl | z
 ·exact⟨i,rfl,i0,i1,q,rfl,hq⟩
 ·exact k.is kv z⟩
def ksOf (kvs:List (Key×V)):List Int:=kvs.filterMap fun kv=>match kv.1 with | Sum.inl i=>some i | Sum.inr _=>none
theorem jLQ:∀ {kvs:List (Key×V)},(∀ kv∈kvs,∃ i:Int,kv.1=Sum.inl i)->kvs.map (·.1)=(ksOf kvs).map Sum.inl
 | [],_=>rfl
 | kv::r,h=>by
  obtain⟨i,hi⟩:=h kv (aw ..)
  have e:ksOf (kv::r)=i::ksOf r:=by
   unfold ksOf
   rw[cM,hi]
  rw[e,aY,aY,jLQ fun x hx=>h x (ar _ hx),hi]
theorem KvOk.keys (k:KvOk w ms pcs H kvs):kvs.map (·.1)=(ksOf kvs).map Sum.inl:=jLQ fun kv h=>let ⟨i,a,_⟩:=k.is kv h; ⟨i,a⟩
theorem KvOk.ks (k:KvOk w ms pcs H kvs){i:Int}(h:i∈ksOf kvs):0<=i/\i<(cvs w ms pcs).length:=by
 have:(Sum.inl i:Key)∈kvs.map (·.1):=by rw[k.keys]; exact cP h
 obtain⟨kv,hk,e⟩:=aW.mp this
 obtain⟨j,a,b,c,_⟩:=k.is kv hk
 rw[a] at e
 cases e
 exact⟨b,c⟩
theorem KvOk.val (k:KvOk w ms pcs H kvs){i:Int}(h:i∈ksOf kvs):∃ q,valV kvs (Sum.inl i)=some (.ref q)/\H q=some (.tup ((rkAt w ms pcs i).map V.int)):=by
 have:(Sum.inl i:Key)∈kvs.map (·.1):=by rw[k.keys]; exact cP h
 obtain⟨kv0,hk0,e0⟩:=aW.mp this
 unfold valV
 cases hf:kvs.find? (fun kv=>decide (kv.1=(Sum.inl i:Key))) with
 | none=>
  have:=List.find?_eq_none.mp hf kv0 hk0
  rw[e0] at this
  simp at this
 | some kv=>
  have hm:=List.mem_of_find?_eq_some hf
  have he:=List.find?_some hf
  have he:kv.1=Sum.inl i:=aJ he
  obtain⟨j,a,b,c,q,d,e⟩:=k.is kv hm
  rw[he] at a
  cases a
  exact⟨q,by rw[<- d]; rfl,e⟩
theorem KvOk.vals:∀ {kvs:List (Key×V)},(∀ kv∈kvs,∃ i:Int,kv.1=Sum.inl i/\0<=i/\i<(cvs w ms pcs).length/\∃ q,kv.2=V.ref q/\H q=some (.tup ((rkAt w ms pcs i).map V.int)))->All2 (keyT.KR H) (kvs.map (·.2)) ((ksOf kvs).map (rkAt w ms pcs))
 | [],_=>trivial
 | kv::r,h=>by
  obtain⟨i,hi,_,_,q,d,e⟩:=h kv (aw ..)
  have e1:ksOf (kv::r)=i::ksOf r:=by
   unfold ksOf
   rw[cM,hi]
  rw[e1]
  exact⟨⟨q,d,e⟩,KvOk.vals fun x hx=>h x (ar _ hx)⟩
theorem jQ6 (g:Good 16 32 w ms pcs){i j:Int}(i0:0<=i)(ij:i<j)(jn:j<(cvs w ms pcs).length):HT.lexLt (rkAt w ms pcs i) (rkAt w ms pcs j)=true:=by
 have:=bx.mp (jMK g) i.toNat j.toNat (by omega) (by omega) (by omega)
 unfold rkAt
 rw[aA,aA,ax (by omega),ax (by omega)]
 exact this
theorem ks_nd:∀ {l:List Int},(l.map (Sum.inl (β:=Str))).Nodup->l.Nodup
 | [],_=>fc
 | a::r,h=>by
  rw[aY,bH] at h
  exact bH.mpr ⟨fun z=>h.1 (cP z),ks_nd h.2⟩
theorem KvOk.order (k:KvOk w ms pcs H kvs)(g:Good 16 32 w ms pcs){ws:List (List Int)}{ns:List Int}(h1:ws.Perm ((ksOf kvs).map (rkAt w ms pcs)))(h2:ws.Pairwise fun x y=>HT.lexLt y x=false)(h3:ns.Perm (ksOf kvs))(h4:ns.Pairwise (· <= ·)):ws=ns.map (rkAt w ms pcs):=by
 have nd:ns.Nodup:=h3.nodup_iff.mpr (ks_nd (by rw[<- k.keys]; exact k.nd))
 have lt:ns.Pairwise (· < ·):=(gK h4 nd).imp fun {a b} ⟨x,y⟩=>by omega
 refine jG4 (f:=id) (h1.trans (h3.map _).symm) h2 ?_
 rw[bS]
 refine gX (fun {a b} ha hb hab=>?_) lt
 have:=k.ks (h3.mem_iff.mp ha)
 have:=k.ks (h3.mem_iff.mp hb)
 exact jQ6 g (by omega) hab (by omega)
end
theorem jKC {H:Hp} :∀ {us:List V}{ws:List (List Int)},All2 (keyT.KR H) us ws->TsAt H (ws.map fun l=>Tr.tup (l.map Tr.int)) us
 | [],[],_=>rfl
 | _::_,_::_,⟨h,t⟩=>by
  obtain⟨a,e,h⟩:=h
  subst e
  exact⟨_,_,rfl,⟨a,_,rfl,h,jM4 _⟩,jKC t⟩
theorem jI2:∀ ws:List (List Int),deps (ws.map fun l=>Tr.tup (l.map Tr.int))<=1
 | []=>by show deps []<=1; simp [deps]
 | l::ws=>by
  have:=jI2 ws
  rw[aY,deps,dep,jE5]
  omega
theorem jC9 {H H':Hp}(t:Tups H H'):∀ {us:List V}{ws:List (List Int)},All2 (keyT.KR H) us ws->All2 (keyT.KR H') us ws
 | [],[],_=>trivial
 | _::_,_::_,⟨h,r⟩=>⟨let ⟨a,e,q⟩:=h; ⟨a,e,t _ _ q⟩,jC9 t r⟩
section
variable {P:Program}{w:World}{K:W.Frag}{mg:Str->Option Value}{base:Heap}
variable {f fC fP fT fX fM fW fR fL fA tb:Addr}{fdC fdP fdT fdX fdM fdW fdR fdL fdA:FuncData}{cdv:Value}{A:Around}{outer:List Env}{s:Shared}{H0:Hp}{E:XK}
noncomputable abbrev nLaw:List Str:=["script","k","pot","great","box","amount","ranks","j","number"]
theorem scLaw:FnScope nLaw ["script"] (j8 sLaw):=⟨rfl,rfl,rfl,by decide+kernel,rfl,by decide+kernel,by decide+kernel⟩
abbrev XLaw (P:Program)(w:World)(K:W.Frag)(mg:Str->Option Value)(base:Heap)(f:Addr)(cdv:Value)(A:Around)(outer:List Env)(s:Shared)(H:Hp)(E:XK):Cx:=XOf nLaw "law" sLaw P w K mg base f cdv A outer s H E
structure LW (P:Program)(w:World)(K:W.Frag)(mg:Str->Option Value)(base:Heap)(fC fP fT fX fM fW fR fL fA tb:Addr)(fdC fdP fdT fdX fdM fdW fdR fdL fdA:FuncData):Prop where
 T:Txt mg
 CC:Can P w K mg base "_law_cell_at" 1 fC fdC ["script","k"] (jKL K)
 CP:Can P w K mg base "_law_pot" 1 fP fdP ["cell"] spPot
 CT:Can P w K mg base "_law_take" 1 fT fdT ["pot","wide"] yL
 CX:Can P w K mg base "_law_box" 3 fX fdX ["pot","most_things","most_pieces"] spBox
 CM:Can P w K mg base "many" 6 fM fdM ["box"] (jKK tb)
 CW:Can P w K mg base "_law_whole" 1 fW fdW ["found"] jAZ
 CR:Can P w K mg base "_law_right" 7 fR fdR ["box","number","amount"] (jH6 tb)
 CL:Can P w K mg base "_law_rank" 1 fL fdL ["box","some"] jDL
 CA:Can P w K mg base "covering_at" 6 fA fdA ["box","number"] (jDM tb)
section
variable (G:LW P w K mg base fC fP fT fX fM fW fR fL fA tb fdC fdP fdT fdX fdM fdW fdR fdL fdA)(hr:Room 7 (XLaw P w K mg base f cdv A outer s H0 E).A)
def innA: { t:TS // JSs (XLaw P w K mg base f cdv A outer s H0 E) (jCY ((jCY ((jC sLaw).getD 0 (.Pass ⟨0,0,0,0⟩))).getD 6 (.Pass ⟨0,0,0,0⟩))) t} :=
 have nd:=scLaw.nd
 ⟨_,(jB (jK (i:=8) nd rfl lL (kB yK (yR (j4 (je_int) (j4 (kJ jBX (jv 5 rfl vL) (je_int)) (j4 (G.CT.je (hr.mono (by decide)) gD (j4 (jv 2 rfl vL) (j4 (jv 5 rfl vL) j7 j3) j3) j3) (j4 (G.CT.je (hr.mono (by decide)) gD (j4 (jv 2 rfl vL) (j4 (jv 5 rfl vL) j7 j3) j3) j3) j7 jJ) jJ) yM) jO)) (jv 7 rfl vL) yG) jKJ) (jB (kT (yX (yN (G.CR.je hr gD (j4 (jv 4 rfl vL) (j4 (jv 8 rfl vL) (j4 (jv 5 rfl vL) j7 j3) j3) j3) j3) kY)) (jD (jH (je_bl))) jR) (jD (jF9 (qN hr) (jv 6 rfl vC) (jv 8 rfl vL) ((G.CL.je (hr.mono (by decide)) gD (j4 (jv 4 rfl vL) (j4 (G.CA.je (hr.mono (by decide)) gD (j4 (jv 4 rfl vL) (j4 (jv 8 rfl vL) j7 j3) j3) j3) j7 jJ) j3) j3)) jQ))))⟩
def endA: { t:TS // JSs (XLaw P w K mg base f cdv A outer s H0 E) ((jCY ((jC sLaw).getD 0 (.Pass ⟨0,0,0,0⟩))).drop 7) t} :=
 have nd:=scLaw.nd
 ⟨_,(jD (kT (jM (jR0 hr.units101) (jE (jGL jRP rfl hr.units101) gD G.T.sorted (by decide+kernel) (j4 (jRU (jv 6 rfl vC)) j7 jJ) jJ) (kZ (m:=[none,some 6]) (Nc:=["number","ranks"]) rfl (jAU (jE (jGN rfl) gD G.T.sorted (by decide+kernel) (j4 (jv 6 rfl vC) j7 j3) j3)) rfl (by decide+kernel) (by decide+kernel) (kS (psc:=j8 sLaw) (by decide+kernel)) (jS (N:=nLaw) rfl rfl (by decide+kernel)) (fun cl C fp s H=>jW (i:=0) (show (["number","ranks"]:List Str).Nodup by decide+kernel) rfl (qJ (by decide+kernel))) (fun cl C fp s H=>yJ) (fun cl C fp s H=>(jB2 (qN hr) (jv 1 rfl (yC (by decide+kernel))) (jv 0 rfl (kD (by decide+kernel))) yG)) kN) (jG _)) (jD (jH (je_bl))) jR))⟩
def turnA: { t:TS // JSs (XLaw P w K mg base f cdv A outer s H0 E) (jCY ((jC sLaw).getD 0 (.Pass ⟨0,0,0,0⟩))) t} :=
 have nd:=scLaw.nd
 ⟨_,(jB (jK (i:=2) nd rfl lL (G.CP.je (hr.mono (by decide)) gD (j4 (G.CC.je (hr.mono (by decide)) gD (j4 (jv 0 rfl vL) (j4 (jv 1 rfl vL) j7 j3) j3) j3) j7 jJ) jJ) jQ) (jB (jK (i:=3) nd rfl lL (kU jE7 gD G.T.int (by decide+kernel) (j4 (kP yU (G.CT.je (hr.mono (by decide)) gD (j4 (jv 2 rfl vL) (j4 (je_int) j7 jO) j3) j3) (je_int) (jG _)) j7 jEH) jEH) jQ) (jB (jK (i:=4) nd rfl lL (G.CX.je (hr.mono (by decide)) gD (j4 (jv 2 rfl vL) (j4 (kB yK (yR (j4 (je_int) (j4 (je_int) j7 jO) jO)) (jv 3 rfl vL) yG) (j4 (kB yK (yR (j4 (je_int) (j4 (je_int) j7 jO) jO)) (jv 3 rfl vL) yG) j7 kL) kL) j3) j3) jQ) (jB (jK (i:=5) nd rfl lL (G.CM.je (hr.mono (by decide)) gD (j4 (jv 4 rfl vL) j7 j3) j3) jQ) (jB (kT (jt_w (jw_or (yX (yN (G.CW.je (hr.mono (by decide)) gD (j4 (jv 5 rfl vL) j7 j3) j3) kY)) (jEM (jM op_lt (jv 5 rfl vL) (je_int) (jG _))))) (jD (jH (je_bl))) jR) (jB (jK (i:=6) nd rfl (loc_c (by decide+kernel)) (jIX) jH5) (jB (yV bG rfl (jA5 gD G.T.range (j4 (kJ jBY (kB yK (yR (j4 (je_int) (j4 (je_int) j7 jO) jO)) (jv 3 rfl vL) yG) (kU jE7 gD G.T.int (by decide+kernel) (j4 (kP op_gt (jv 5 rfl vL) (je_int) (jG _)) j7 jEH) jEH)) j7 yM) yM) (jW (i:=7) nd rfl lL) (innA G hr).2 kN) (endA G hr).2)))))))⟩
def lawA: { t:TS // JSs (XLaw P w K mg base f cdv A outer s H0 E) (jC sLaw) t} :=
 have nd:=scLaw.nd
 ⟨_,(jB (yV bG rfl (jA5 gD G.T.range (j4 (jE (jN0 rfl) gD G.T.max (by decide+kernel) (j4 (je_int) (j4 (jE (jMZ rfl) gD G.T.min (by decide+kernel) (j4 (jE jU gD G.T.len (by decide+kernel) (j4 (jv 0 rfl vL) j7 j3) j3) (j4 (je_int) j7 jO) jJ) jJ) j7 jJ) jO) jO) j7 jJ) jJ) (jW (i:=1) nd rfl lL) (turnA G hr).2 kN) (jD (jH (je_bl))))⟩
theorem jOL {D:Ends}{H:Hp}{r:Addr}{kvs:List (Key×V)}{wi:Int}{ms:List Int}{pcs:List (List Int×Int)}{v0 v1 v2 v3 v4 v5 v7 v8:Option V}(g:Good 16 32 wi ms pcs)(hr0:H r=some (.dK kvs))(kv:KvOk wi ms pcs H kvs)(kl:kvs.length<=4)
  (nx:∀ H',Ext H H'->D.nx [v0,v1,v2,v3,v4,v5,some (.ref r),v7,v8] H'):
  (endA G hr).1 D [v0,v1,v2,v3,v4,v5,some (.ref r),v7,v8] H:=by
 have kk:(ksOf kvs).length=kvs.length:=by
  have:=bN List.length kv.keys
  rw[ae,ae] at this
  exact this.symm
 refine⟨_,rfl,r,kvs,rfl,hr0,fun p hp=>?_⟩
 have e1:Ext H (L2.upd H p (ViewO p r)):=(Ext.refl _).new hp _
 have d1:(L2.upd H p (ViewO p r)) p=some (ViewO p r):=j6
 generalize L2.upd H p (ViewO p r)=H1 at e1 d1
 have kv1:=kv.mono e1.tups
 refine⟨p,r,kvs,_,rfl,d1,e1 _ _ hr0,KvOk.vals kv1.is,fun v hv=>?_,fun l us ws hl ho pm so=>?_⟩
 ·obtain⟨x,hx,rfl⟩:=aW.mp hv
  obtain⟨_,_,_,_,q,e,_⟩:=kv1.is x hx
  exact⟨q,e⟩
 have e2:Ext H1 (L2.upd H1 l (.lst us)):=(Ext.refl _).new hl _
 have d2:(L2.upd H1 l (.lst us)) l=some (.lst us):=j6
 generalize L2.upd H1 l (.lst us)=H2 at e2 d2
 have ho2:=jC9 e2.tups ho
 have kv2:=kv1.mono e2.tups
 refine⟨_,rfl,r,kvs,ksOf kvs,rfl,e2 _ _ (e1 _ _ hr0),kv.keys,by omega,fun l3 ns hl3 sn pn=>?_⟩
 have e3:Ext H2 (L2.upd H2 l3 (.lst (ns.map V.int))):=(Ext.refl _).new hl3 _
 have d3:(L2.upd H2 l3 (.lst (ns.map V.int))) l3=some (.lst (ns.map V.int)):=j6
 generalize L2.upd H2 l3 (.lst (ns.map V.int))=H3 at e3 d3
 have kv3:=kv2.mono e3.tups
 have hr3:=e3 _ _ (e2 _ _ (e1 _ _ hr0))
 have nl:=pn.length_eq
 refine⟨l3,rfl,⟨_,SqL.of d3⟩,jC7 (fun σ=>∃ v,σ=[v,some (.ref r)]) (fun H' zs j=>All2 (keyT.KR H') zs ((ns.take j).map (rkAt wi ms pcs))) ⟨fun _=>trivial,fun H H' zs j t h=>jC9 t h,fun H zs j h=>by
  rw[All2.len h,ae]
  exact di _ _⟩ d3 (by rw[ae,aO]; omega) ⟨_,rfl⟩ ?_ ?_⟩
 ·rintro j x σ' H4 zs hx ⟨v,rfl⟩ e4 hz S1 S2 yes no
  obtain⟨i,hi,rfl⟩:∃ i,ns[j]?=some i/\V.int i=x:=by simpa using hx
  obtain⟨q,hq,hq2⟩:=kv3.val (pn.mem_iff.mp (ao hi))
  dsimp only [yA,yY]
  rw[aj rfl]
  refine⟨_,rfl,_,rfl,r, .ref q,rfl,?_,yes _ _ _ ⟨_,rfl⟩ (Ext.refl _) ?_⟩
  ·have:=DGet.k (k:=Sum.inl i) (e4 _ _ hr3)
   rw[hq] at this
   exact this
  ·show All2 (keyT.KR H4) _ ((ns.take (j+1)).map (rkAt wi ms pcs))
   rw[bh,hi,aR]
   exact All2.snoc hz ⟨q,rfl,e4 _ _ hq2⟩
 ·intro L H4 zs hL e4 nL hz
  have hz:All2 (keyT.KR H4) zs ((ns.take (ns.map V.int).length).map (rkAt wi ms pcs)):=hz
  rw[ae,bw] at hz
  have od:=kv.order g pm so pn sn
  refine⟨_,_,⟨l,_,rfl,e4 _ _ (e3 _ _ d2),jKC (jC9 (e3.trans e4).tups ho2)⟩,⟨L,_,rfl,hL,jKC hz⟩,bv (jI2 _) (by decide),?_⟩
  rw[od,jC5]
  exact⟨_,rfl,iteF (nx _ (((e1.trans e2).trans e3).trans e4))⟩
theorem jOE {D:Ends}{H:Hp}{p b r:Addr}{N:Int}{j:Nat}{kvs:List (Key×V)}{wi:Int}{ms:List Int}{pcs:List (List Int×Int)}{v0 v1 v3 v8:Option V}(hp:H p=some (.lst [.int N]))(hN:0<=N)(hB:BoxAt H b wi ms pcs)(g:Good 16 32 wi ms pcs)(tab:TabW H tb)(hM0:0<(cvs wi ms pcs).length)(hM1:(cvs wi ms pcs).length<=2 ^ 32)(hr0:H r=some (.dK kvs))(kv:KvOk wi ms pcs H kvs)(kl:kvs.length<=4)(hj:j<4)
  (nx:∀ H' N' kvs' v8,(∀ c o,H c=some o->c≠p->c≠r->c≠tb->H' c=some o)->H' p=some (.lst [.int N'])->0<=N'->H' r=some (.dK kvs')->KvOk wi ms pcs H' kvs'->kvs'.length<=kvs.length+1->TabW H' tb->D.nx [v0,v1,some (.ref p),v3,some (.ref b),some (natV (cvs wi ms pcs).length),some (.ref r),some (.int (j:Int)),v8] H'):
  (innA G hr).1 D [v0,v1,some (.ref p),v3,some (.ref b),some (natV (cvs wi ms pcs).length),some (.ref r),some (.int (j:Int)),v8] H:=by
 have rp:r≠p:=fun z=>by rw[z,hp] at hr0; cases hr0
 have rt:r≠tb:=tab.ne hr0 (by intro _ z; cases z)
 have pt:p≠tb:=tab.ne hp (by intro _ z; cases z)
 have M0:(0:Int)<((cvs wi ms pcs).length:Int):=by omega
 have M1:((cvs wi ms pcs).length:Int)<2 ^ 64:=by
  have:(2:Nat) ^ 32<2 ^ 64:=by decide
  have:((2:Nat) ^ 64:Nat)=((2:Int) ^ 64).toNat:=by decide
  omega
 refine⟨_,rfl,_,_,rfl,rfl,_,rfl,_,rfl,p,N,_,rfl,hp,hN,M0,M1,fun N1 r1 a1 a2 a3=>?_⟩
 refine⟨_,rfl,_,rfl,p,N1,_,rfl,j6,a1,M0,M1,fun N2 r2 b1 b2 b3=>?_⟩
 refine⟨by show (4:Nat)<=_; decide,fun l H3 d3 e3 n3=>?_⟩
 have k2:∀ c o,H c=some o->c≠p->H3 c=some o:=fun c o h n=>e3 _ _ (by rw[j9 n,j9 n]; exact h)
 have p3:H3 p=some (.lst [.int N2]):=e3 _ _ j6
 have t3:Tups H H3:=fun c xs h=>k2 _ _ h fun z=>by rw[z,hp] at h; cases h
 have tab3:TabW H3 tb:=by
  rcases tab with h | ⟨c,h,h2⟩
  ·exact .inl (k2 _ _ h (dD pt))
  ·exact .inr ⟨c,k2 _ _ h (dD pt),k2 _ _ h2 fun z=>by rw[z,hp] at h2; cases h2⟩
 have r3:=k2 _ _ hr0 rp
 obtain⟨n,hat,hn⟩:∃ n:Nat,atI [V.int 0,V.int (((cvs wi ms pcs).length:Int) - 1),V.int r1,V.int r2] (j:Int)=some (.int (n:Int))/\n<(cvs wi ms pcs).length:=by
  match j,hj with
  | 0,_=>exact⟨0,rfl,by omega⟩
  | 1,_=>exact⟨(cvs wi ms pcs).length - 1,by rw[show (((cvs wi ms pcs).length - 1:Nat):Int)=((cvs wi ms pcs).length:Int) - 1 by omega]; rfl,by omega⟩
  | 2,_=>exact⟨r1.toNat,by rw[show ((r1.toNat:Nat):Int)=r1 by omega]; rfl,by omega⟩
  | 3,_=>exact⟨r2.toNat,by rw[show ((r2.toNat:Nat):Int)=r2 by omega]; rfl,by omega⟩
 have hc:(cvs wi ms pcs)[n]?=some (cvs wi ms pcs)[n]:=ax hn
 have C:IsCov wi ms pcs (cvs wi ms pcs)[n]:=(jDV g).mp (ao hc)
 have hB3:=hB.mono t3
 refine⟨_,rfl,l,_,(j:Int), .int (n:Int),rfl,rfl,SqL.of d3,hat,?_⟩
 refine⟨_,rfl,_,rfl,_,rfl,b,n,wi,ms,pcs,_,rfl,hB3,g,tab3,hc,fun H4 e4 t4=>⟨_,rfl,iteF ?_⟩⟩
 have hB4:=hB3.mono fun c xs h=>e4.at tab3 h
 refine⟨_,rfl,_,rfl,_,rfl,b,n,wi,ms,pcs,_,rfl,hB4,g,t4,hc,fun q5 H5 d5 e5 t5=>?_⟩
 have hB5:=hB4.mono fun c xs h=>e5.at t4 h
 refine⟨b,q5,wi,ms,pcs,_,rfl,hB5,g,d5,C.ris.bnd,by
  have cl:=jB0 _ 0 _ C.ris.ris C.ris.bnd
  have gl:=g.pl
  omega,fun q6 H6 d6 e6=>?_⟩
 have X6:ExtT tb H3 H6:=(e4.trans e5).trans (ExtT.of e6)
 have r6:=X6.at tab3 r3
 have k6:KvOk wi ms pcs H6 kvs:=kv.mono fun c xs h=>X6.at tab3 (t3 _ _ h)
 have d6':H6 q6=some (.tup ((rkAt wi ms pcs (n:Int)).map V.int)):=by
  unfold rkAt
  rw[bq,aA,hc]
  exact d6
 have tr:Tups H6 (L2.upd H6 r (.dK (putK kvs (Sum.inl (n:Int)) (.ref q6)))):=fun c xs h=>by
  rw[j9 (fun z=>by rw[z,r6] at h; cases h)]
  exact h
 refine⟨_,rfl,_,rfl,r,_,rfl,DPut.k (k:=Sum.inl (n:Int)) r6 (by rw[aO]; omega),nx _ N2 _ _ (fun c o h n1 n2 n3=>by rw[j9 n2]; exact X6 _ _ (k2 _ _ h n1) n3) (by rw[j9 (dD rp)]; exact X6.at tab3 p3) b1 j6 ((k6.put (by omega) (by omega) d6').mono tr) (jAT _ _ _) ?_⟩
 rcases t5.ext e6 with h | ⟨c,h,h2⟩
 ·exact .inl (by rw[j9 (dD rt)]; exact h)
 ·exact .inr ⟨c,by rw[j9 (dD rt)]; exact h,by rw[j9 (fun z=>by rw[z,r6] at h2; cases h2)]; exact h2⟩
theorem jK9 {D:Ends}{H:Hp}{a:Addr}{ns:List Int}{k:Int}{v2 v3 v4 v5 v6 v7 v8:Option V}(hS:SqL K H a (ns.map V.int))(k0:0<=k)(tab:TabW H tb)
  (nx:∀ H' v2 v3 v4 v5 v6 v7 v8,TabW H' tb->ExtT tb H H'->D.nx [some (.ref a),some (.int k),v2,v3,v4,v5,v6,v7,v8] H'):
  (turnA G hr).1 D [some (.ref a),some (.int k),v2,v3,v4,v5,v6,v7,v8] H:=by
 refine⟨_,rfl,_,rfl,a,ns,k,rfl,hS,k0,fun c=>⟨c,rfl,fun p N hp hN=>?_⟩⟩
 refine⟨_,rfl,p,N,8,rfl,j6,hN,by decide,by decide,fun N2 r a1 a2 a3=>⟨rfl, .inr ⟨_,rfl,?_⟩⟩⟩
 have e2:Ext H (L2.upd (L2.upd H p (.lst [.int N])) p (.lst [.int N2])):=((Ext.refl _).new hp _).updNew hp _
 have p2:(L2.upd (L2.upd H p (.lst [.int N])) p (.lst [.int N2])) p=some (.lst [.int N2]):=j6
 generalize L2.upd (L2.upd H p (.lst [.int N])) p (.lst [.int N2])=H2 at e2 p2
 obtain⟨gr,hgr,g0⟩:∃ gr:Int,(if decide (V.int r=V.int 1)=true then (1:Int) else 0)=gr/\(gr=0\/gr=1):=⟨_,rfl,by split <;> omega⟩
 rw[hgr]
 refine⟨_,rfl,by show (2:Nat)<=_; decide,fun l1 H3 d3 e3 n3=>?_⟩
 obtain⟨mt,hmt,mt0,mt1⟩:∃ mt:Int,atI [V.int 12,V.int 16] gr=some (.int mt)/\0<=mt/\mt<=16:=by
  rcases g0 with rfl | rfl
  ·exact⟨12,rfl,by decide,by decide⟩
  ·exact⟨16,rfl,by decide,by decide⟩
 refine⟨_,rfl,l1,_,gr,_,rfl,rfl,SqL.of d3,hmt,?_⟩
 refine⟨by show (2:Nat)<=_; decide,fun l2 H4 d4 e4 n4=>?_⟩
 obtain⟨mp,hmp,mp0,mp1⟩:∃ mp:Int,atI [V.int 18,V.int 32] gr=some (.int mp)/\0<=mp/\mp<=32:=by
  rcases g0 with rfl | rfl
  ·exact⟨18,rfl,by decide,by decide⟩
  ·exact⟨32,rfl,by decide,by decide⟩
 refine⟨_,rfl,l2,_,gr,_,rfl,rfl,SqL.of d4,hmp,?_⟩
 have E4:=e3.trans e4
 refine⟨p,N2,mt,mp,rfl,E4 _ _ p2,a1,mt0,mt1,mp0,mp1,fun b N5 wi ms pcs H5 c1 c2 hB5 g5 c5=>?_⟩
 have g:=g5.wide mt1 mp1
 have e5:Ext H H5:=fun c o h=>c5 c o ((e2.trans E4) c o h) fun z=>by rw[z,hp] at h; cases h
 have tab5:=tab.ext e5
 refine⟨_,rfl,b,wi,ms,pcs,rfl,hB5,g,tab5,fun H6 e6 t6=>?_⟩
 rw[<- jHU]
 have p6:=e6.at tab5 c2
 have hB6:=hB5.mono fun c xs h=>e6.at tab5 h
 have X6:ExtT tb H H6:=(ExtT.of e5).trans e6
 refine⟨_,rfl,_,rfl,_,rfl,iteF ?_⟩
 refine⟨_,rfl,_,_,rfl,rfl,_,rfl,jPM (aL (by show ¬ ((cvs wi ms pcs).length:Int)<0; omega)) ?_⟩
 intro r7 hr7
 have e7:Ext H6 (L2.upd H6 r7 (.dK [])):=(Ext.refl _).new hr7 _
 have d7:(L2.upd H6 r7 (.dK [])) r7=some (.dK []):=j6
 have n7:H r7=none:=by
  cases z:H r7 with
  | none=>rfl
  | some o=>
   by_cases zt:r7=tb
   ·obtain⟨ps,y⟩:=t6.is
    rw[<- zt,hr7] at y
    cases y
   ·rw[X6 _ _ z zt] at hr7
    cases hr7
 generalize L2.upd H6 r7 (.dK [])=H7 at e7 d7
 refine⟨by show (2:Nat)<=_; decide,fun l8 H8 d8 e8 n8=>?_⟩
 obtain⟨x,hx,x0⟩:∃ x:Int,atI [V.int 4,V.int 2] gr=some (.int x)/\(x=4\/x=2):=by
  rcases g0 with rfl | rfl
  ·exact⟨4,rfl, .inl rfl⟩
  ·exact⟨2,rfl, .inr rfl⟩
 refine⟨_,rfl,l8,_,gr,_,rfl,rfl,SqL.of d8,hx,?_⟩
 refine⟨_,rfl,_,_,rfl,rfl, .inr ⟨_,rfl,?_⟩⟩
 obtain⟨y,hy,y0,y1⟩:∃ y:Int,(if decide ((0:Int)<((cvs wi ms pcs).length:Int))=true then (1:Int) else 0)=y/\(y=0\/y=1)/\(y=1->0<(cvs wi ms pcs).length):=⟨_,rfl,by split <;> omega,fun h=>by
  split at h
  ·rename_i z
   have:=aJ z
   omega
  ·cases h⟩
 have hy':(if decide ((natV (cvs wi ms pcs).length)= .int 0)=true then (1:Int) else 0)=y\/True:= .inr trivial
 refine⟨x,y,rfl,by rw[<- hy], .inl ⟨by rcases x0 with rfl | rfl <;> decide,by rcases x0 with rfl | rfl <;> decide⟩,?_⟩
 have ml:(cvs wi ms pcs).length<=2 ^ 32:=by
  rw[jHU]
  have gl:=g.pl
  have:=jSI g 0 (dh _)
  have:=cr (n:=2) (by decide) (bv (jUF pcs (lowN 0:Nat)) (show pcs.length<=32 by omega))
  omega
 obtain⟨m,hm,m4,mp⟩:∃ m:Nat,x*y=(m:Int)/\m<=4/\(0<m->0<(cvs wi ms pcs).length):=by
  rcases x0 with rfl | rfl <;> rcases y0 with rfl | rfl
  ·exact⟨0,rfl,by decide,fun h=>absurd h (by decide)⟩
  ·exact⟨4,rfl,by decide,fun _=>y1 rfl⟩
  ·exact⟨0,rfl,by decide,fun h=>absurd h (by decide)⟩
  ·exact⟨2,rfl,by decide,fun _=>y1 rfl⟩
 have E8:=e7.trans e8
 have p8:=E8 _ _ p6
 have hB8:=hB6.mono E8.tups
 have t8:=t6.ext E8
 have r8:=e8 _ _ d7
 refine⟨(m:Int),by show [V.int (x*y)]=_; rw[hm],by omega,by omega,?_⟩
 show ∃ W:Nat->Nat->St->Hp->Prop,_
 refine jAN (lo:=0) (n:=m) (fun i σ H'=>(∃ v7 v8,σ=[some (.ref a),some (.int k),some (.ref p),some (.int gr),some (.ref b),some (natV (cvs wi ms pcs).length),some (.ref r7),v7,v8])/\(∀ c o,H8 c=some o->c≠p->c≠r7->c≠tb->H' c=some o)/\(∃ N',H' p=some (.lst [.int N'])/\0<=N')/\TabW H' tb/\∃ kvs,H' r7=some (.dK kvs)/\kvs.length<=i/\KvOk wi ms pcs H' kvs) ⟨⟨_,_,rfl⟩,fun _ _ h _ _ _=>h,⟨_,p8,c1⟩,t8,[],r8,bb _,KvOk.nil⟩ ?_ ?_
 ·rintro i σ H9 hi ⟨⟨v7,v8,rfl⟩,k9,⟨N9,hp9,hN9⟩,t9,kvs,r9,l9,kv9⟩
  have e0:(0+(i:Int))=(i:Int):=by omega
  have hB9:BoxAt H9 b wi ms pcs:=hB8.mono fun c xs h=>k9 _ _ h (fun z=>by rw[z,p8] at h; cases h) (fun z=>by rw[z,r8] at h; cases h) (t8.ne h (by intro _ z; cases z))
  show (innA G hr).1 _ [some (.ref a),some (.int k),some (.ref p),some (.int gr),some (.ref b),some (natV (cvs wi ms pcs).length),some (.ref r7),some (.int (0+(i:Int))),v8] H9
  rw[e0]
  exact jOE G hr hp9 hN9 hB9 g t9 (mp (by omega)) ml r9 kv9 (by omega) (by omega) fun HA NA kvsA vA kA pA nA rA kvA lA tA=>⟨⟨_,_,rfl⟩,fun c o h n1 n2 n3=>kA _ _ (k9 _ _ h n1 n2 n3) n1 n2 n3,⟨NA,pA,nA⟩,tA,kvsA,rA,by omega,kvA⟩
 ·rintro σ H9 ⟨⟨v7,v8,rfl⟩,k9,⟨N9,hp9,hN9⟩,t9,kvs,r9,l9,kv9⟩
  refine jOL G hr g r9 kv9 (by omega) fun HA eA=>nx HA _ _ _ _ _ _ _ (t9.ext eA) ?_
  intro c o h nt
  refine eA _ _ (k9 _ _ (E8 _ _ (X6 _ _ h nt)) (fun z=>by rw[z,hp] at h; cases h) (fun z=>by rw[z,n7] at h; cases h) nt)
end
def spLaw (K:W.Frag)(tb:Addr):Sp:=fun vs H Q _=>∃ (a:Addr) (ns:List Int),vs=[.ref a]/\SqL K H a (ns.map V.int)/\ns.length<=63/\TabW H tb/\∀ H',Q (.bl true) H'
theorem jTN {fd:FuncData}(F:Fun K "law" "law" sLaw f fd)(G:LW P w K mg base fC fP fT fX fM fW fR fL fA tb fdC fdP fdT fdX fdM fdW fdR fdL fdA):FnOk P w K mg base CX0 8 f fd ["script"] (spLaw K tb):=by
 refine F.ok scLaw (fun vs H Q E h=>?_) (fun cdv A outer s H vs Q E hr h=>?_)
 ·obtain⟨_,_,rfl,_⟩:=h
  rfl
 ·obtain⟨a,ns,rfl,hS,hlen,tab,q⟩:=h
  refine⟨_,(lawA G hr).2.h,?_⟩
  have hl:∃ m:Int,(if (if (4:Int)<((ns.map V.int).length:Int) then (4:Int) else ((ns.map V.int).length:Int))>1 then (if (4:Int)<((ns.map V.int).length:Int) then (4:Int) else ((ns.map V.int).length:Int)) else 1)=m/\0<=m/\m<=4:=⟨_,rfl,by split <;> omega,by split <;> (try split) <;> omega⟩
  obtain⟨m,hm,m0,m6⟩:=hl
  refine⟨_,rfl,a,_,rfl, .inl hS,_,_,rfl,_,_,rfl,m,by rw[<- hm],by omega,by omega,jAN (lo:=0) (n:=m.toNat) (fun i σ H'=>TabW H' tb/\ExtT tb H H'/\∃ v1 v2 v3 v4 v5 v6 v7 v8,σ=[some (.ref a),v1,v2,v3,v4,v5,v6,v7,v8]) ⟨tab,ExtT.refl _,_,_,_,_,_,_,_,_,rfl⟩ ?_ ?_⟩
  ·rintro i σ H1 hi ⟨T1,X1,v1,v2,v3,v4,v5,v6,v7,v8,rfl⟩
   have hS1:SqL K H1 a (ns.map V.int):=by
    rcases hS with (h | ⟨o,h⟩) | h
    ·exact .inl (.inl (X1.at tab h))
    ·exact .inl (.inr ⟨o,X1.at tab h⟩)
    ·exact .inr h
   exact jK9 G hr hS1 (by omega) T1 fun H2 v2 v3 v4 v5 v6 v7 v8 T2 X2=>⟨T2,X1.trans X2,_,_,_,_,_,_,_,_,rfl⟩
  ·rintro σ H1 ⟨T1,X1,v1,v2,v3,v4,v5,v6,v7,v8,rfl⟩
   exact q H1
end
theorem lenU1 {P:List Value->Prop} :∀ {us:List Value},us.length=1->(∀ a,P [a])->P us
 | [a],_,h=>h a
theorem qK {P:List Value->Prop} :∀ {us:List Value},us.length=2->(∀ a b,P [a,b])->P us
 | [a,b],_,h=>h a b
theorem lenU3 {P:List Value->Prop} :∀ {us:List Value},us.length=3->(∀ a b c,P [a,b,c])->P us
 | [a,b,c],_,h=>h a b c
set_option maxHeartbeats 8000000 in
theorem all_mk {l:PySem.W.OpenLaw}{w:World}{K:W.Frag}{h:Heap}{mg:Str->Option Value}{fa f1 f2 f3 f4 f5 f6 f7 f8 f9 f10 f11 f12 f13 f14 f15 f16 f17 f18 f19 f20 f21 f22 f23 f24 f25 f26 f27 f28 f29 f30 f31:Addr}(X:K.In h)(G:h.Ns mainGlobals mg)(hfa:mg "law" =some (.ref fa))
  {od1 an1 od2 an2 od3 an3 od4 an4 od5 an5 od6 an6 od7 an7 od8 an8 od9 an9 od10 an10 od11 an11 od12 an12 od13 an13 od14 an14 od15 an15 od16 an16 od17 an17 od18 an18 od19 an19 od20 an20 od21 an21 od22 an22 od23 an23 od24 an24 od25 an25 od26 an26 od27 an27 od28 an28 od29 an29 od30 an30 od31 an31:Option Addr}{sl1 sl2 sl3 sl4 sl5 sl6 sl7 sl8 sl9 sl10 sl11 sl12 sl13 sl14 sl15 sl16 sl17 sl18 sl19 sl20 sl21 sl22 sl23 sl24 sl25 sl26 sl27 sl28 sl29 sl30 sl31:Array (Option Value)}{oc1 kV1 dc1 pm1 cd1 ct1 oc2 kV2 dc2 pm2 cd2 ct2 oc3 kV3 dc3 pm3 cd3 ct3 oc4 kV4 dc4 pm4 cd4 ct4 oc5 kV5 dc5 pm5 cd5 ct5 oc6 kV6 dc6 pm6 cd6 ct6 oc7 kV7 dc7 pm7 cd7 ct7 oc8 kV8 dc8 pm8 cd8 ct8 oc9 kV9 dc9 pm9 cd9 ct9 oc10 kV10 dc10 pm10 cd10 ct10 oc11 kV11 dc11 pm11 cd11 ct11 oc12 kV12 dc12 pm12 cd12 ct12 oc13 kV13 dc13 pm13 cd13 ct13 oc14 kV14 dc14 pm14 cd14 ct14 oc15 kV15 dc15 pm15 cd15 ct15 oc16 kV16 dc16 pm16 cd16 ct16 oc17 kV17 dc17 pm17 cd17 ct17 oc18 kV18 dc18 pm18 cd18 ct18 oc19 kV19 dc19 pm19 cd19 ct19 oc20 kV20 dc20 pm20 cd20 ct20 oc21 kV21 dc21 pm21 cd21 ct21 oc22 kV22 dc22 pm22 cd22 ct22 oc23 kV23 dc23 pm23 cd23 ct23 oc24 kV24 dc24 pm24 cd24 ct24 oc25 kV25 dc25 pm25 cd25 ct25 oc26 kV26 dc26 pm26 cd26 ct26 oc27 kV27 dc27 pm27 cd27 ct27 oc28 kV28 dc28 pm28 cd28 ct28 oc29 kV29 dc29 pm29 cd29 ct29 oc30 kV30 dc30 pm30 cd30 ct30 oc31 kV31 dc31 pm31 cd31 ct31:Value}
  (a1:PySem.W.nsIn K mainGlobals "is_whole" =some (some (.ref f1))) (l1:K.lookup f1=some ⟨oc1,od1, .func (PySem.W.fnOf "is_whole" "is_whole" (jF jAQ) (jC jAQ) (j8 jAQ) .none kV1 dc1 pm1 an1 cd1 ct1),sl1⟩) (c1:PySem.W.codeIn K cd1 "is_whole" =true) (k1:keepIn K (.ref f1)=true)
  (a2:PySem.W.nsIn K mainGlobals "is_rising" =some (some (.ref f2))) (l2:K.lookup f2=some ⟨oc2,od2, .func (PySem.W.fnOf "is_rising" "is_rising" (jF yE) (jC yE) (j8 yE) .none kV2 dc2 pm2 an2 cd2 ct2),sl2⟩) (c2:PySem.W.codeIn K cd2 "is_rising" =true) (k2:keepIn K (.ref f2)=true)
  (a3:PySem.W.nsIn K mainGlobals "is_lot" =some (some (.ref f3))) (l3:K.lookup f3=some ⟨oc3,od3, .func (PySem.W.fnOf "is_lot" "is_lot" (jF jBI) (jC jBI) (j8 jBI) .none kV3 dc3 pm3 an3 cd3 ct3),sl3⟩) (c3:PySem.W.codeIn K cd3 "is_lot" =true) (k3:keepIn K (.ref f3)=true)
  (a4:PySem.W.nsIn K mainGlobals "mask_of" =some (some (.ref f4))) (l4:K.lookup f4=some ⟨oc4,od4, .func (PySem.W.fnOf "mask_of" "mask_of" (jF sMask) (jC sMask) (j8 sMask) .none kV4 dc4 pm4 an4 cd4 ct4),sl4⟩) (c4:PySem.W.codeIn K cd4 "mask_of" =true) (k4:keepIn K (.ref f4)=true)
  (a5:PySem.W.nsIn K mainGlobals "is_covering" =some (some (.ref f5))) (l5:K.lookup f5=some ⟨oc5,od5, .func (PySem.W.fnOf "is_covering" "is_covering" (jF sCov) (jC sCov) (j8 sCov) .none kV5 dc5 pm5 an5 cd5 ct5),sl5⟩) (c5:PySem.W.codeIn K cd5 "is_covering" =true) (k5:keepIn K (.ref f5)=true)
  (a6:PySem.W.nsIn K mainGlobals "rank_of" =some (some (.ref f6))) (l6:K.lookup f6=some ⟨oc6,od6, .func (PySem.W.fnOf "rank_of" "rank_of" (jF sRank) (jC sRank) (j8 sRank) .none kV6 dc6 pm6 an6 cd6 ct6),sl6⟩) (c6:PySem.W.codeIn K cd6 "rank_of" =true) (k6:keepIn K (.ref f6)=true)
  (a7:PySem.W.nsIn K mainGlobals "choices_of" =some (some (.ref f7))) (l7:K.lookup f7=some ⟨oc7,od7, .func (PySem.W.fnOf "choices_of" "choices_of" (jF kR) (jC kR) (j8 kR) .none kV7 dc7 pm7 an7 cd7 ct7),sl7⟩) (c7:PySem.W.codeIn K cd7 "choices_of" =true) (k7:keepIn K (.ref f7)=true)
  (a8:PySem.W.nsIn K mainGlobals "full_mask" =some (some (.ref f8))) (l8:K.lookup f8=some ⟨oc8,od8, .func (PySem.W.fnOf "full_mask" "full_mask" (jF sFull) (jC sFull) (j8 sFull) .none kV8 dc8 pm8 an8 cd8 ct8),sl8⟩) (c8:PySem.W.codeIn K cd8 "full_mask" =true) (k8:keepIn K (.ref f8)=true)
  (a9:PySem.W.nsIn K mainGlobals "choices_at" =some (some (.ref f9))) (l9:K.lookup f9=some ⟨oc9,od9, .func (PySem.W.fnOf "choices_at" "choices_at" (jF sAt) (jC sAt) (j8 sAt) .none kV9 dc9 pm9 an9 cd9 ct9),sl9⟩) (c9:PySem.W.codeIn K cd9 "choices_at" =true) (k9:keepIn K (.ref f9)=true)
  (a10:PySem.W.nsIn K mainGlobals "masks_met" =some (some (.ref f10))) (l10:K.lookup f10=some ⟨oc10,od10, .func (PySem.W.fnOf "masks_met" "masks_met" (jF sMet) (jC sMet) (j8 sMet) .none kV10 dc10 pm10 an10 cd10 ct10),sl10⟩) (c10:PySem.W.codeIn K cd10 "masks_met" =true) (k10:keepIn K (.ref f10)=true)
  (a11:PySem.W.nsIn K mainGlobals "gathered" =some (some (.ref f11))) (l11:K.lookup f11=some ⟨oc11,od11, .func (PySem.W.fnOf "gathered" "gathered" (jF qI) (jC qI) (j8 qI) .none kV11 dc11 pm11 an11 cd11 ct11),sl11⟩) (c11:PySem.W.codeIn K cd11 "gathered" =true) (k11:keepIn K (.ref f11)=true)
  (a12:PySem.W.nsIn K mainGlobals "ways_of" =some (some (.ref f12))) (l12:K.lookup f12=some ⟨oc12,od12, .func (PySem.W.fnOf "ways_of" "ways_of" (jF qA) (jC qA) (j8 qA) .none kV12 dc12 pm12 an12 cd12 ct12),sl12⟩) (c12:PySem.W.codeIn K cd12 "ways_of" =true) (k12:keepIn K (.ref f12)=true)
  (a13:PySem.W.nsIn K mainGlobals "many" =some (some (.ref f13))) (l13:K.lookup f13=some ⟨oc13,od13, .func (PySem.W.fnOf "many" "many" (jF sMany) (jC sMany) (j8 sMany) .none kV13 dc13 pm13 an13 cd13 ct13),sl13⟩) (c13:PySem.W.codeIn K cd13 "many" =true) (k13:keepIn K (.ref f13)=true)
  (a14:PySem.W.nsIn K mainGlobals "covering_along" =some (some (.ref f14))) (l14:K.lookup f14=some ⟨oc14,od14, .func (PySem.W.fnOf "covering_along" "covering_along" (jF qB) (jC qB) (j8 qB) .none kV14 dc14 pm14 an14 cd14 ct14),sl14⟩) (c14:PySem.W.codeIn K cd14 "covering_along" =true) (k14:keepIn K (.ref f14)=true)
  (a15:PySem.W.nsIn K mainGlobals "covering_at" =some (some (.ref f15))) (l15:K.lookup f15=some ⟨oc15,od15, .func (PySem.W.fnOf "covering_at" "covering_at" (jF jBJ) (jC jBJ) (j8 jBJ) .none kV15 dc15 pm15 an15 cd15 ct15),sl15⟩) (c15:PySem.W.codeIn K cd15 "covering_at" =true) (k15:keepIn K (.ref f15)=true)
  (a16:PySem.W.nsIn K mainGlobals "place_of" =some (some (.ref f16))) (l16:K.lookup f16=some ⟨oc16,od16, .func (PySem.W.fnOf "place_of" "place_of" (jF jBF) (jC jBF) (j8 jBF) .none kV16 dc16 pm16 an16 cd16 ct16),sl16⟩) (c16:PySem.W.codeIn K cd16 "place_of" =true) (k16:keepIn K (.ref f16)=true)
  (a17:PySem.W.nsIn K mainGlobals "number_of" =some (some (.ref f17))) (l17:K.lookup f17=some ⟨oc17,od17, .func (PySem.W.fnOf "number_of" "number_of" (jF jBG) (jC jBG) (j8 jBG) .none kV17 dc17 pm17 an17 cd17 ct17),sl17⟩) (c17:PySem.W.codeIn K cd17 "number_of" =true) (k17:keepIn K (.ref f17)=true)
  (a18:PySem.W.nsIn K mainGlobals "next_behind" =some (some (.ref f18))) (l18:K.lookup f18=some ⟨oc18,od18, .func (PySem.W.fnOf "next_behind" "next_behind" (jF sNext) (jC sNext) (j8 sNext) .none kV18 dc18 pm18 an18 cd18 ct18),sl18⟩) (c18:PySem.W.codeIn K cd18 "next_behind" =true) (k18:keepIn K (.ref f18)=true)
  (a19:PySem.W.nsIn K mainGlobals "_law_cell_at" =some (some (.ref f19))) (l19:K.lookup f19=some ⟨oc19,od19, .func (PySem.W.fnOf "_law_cell_at" "_law_cell_at" (jF sCell) (jC sCell) (j8 sCell) .none kV19 dc19 pm19 an19 cd19 ct19),sl19⟩) (c19:PySem.W.codeIn K cd19 "_law_cell_at" =true) (k19:keepIn K (.ref f19)=true)
  (a20:PySem.W.nsIn K mainGlobals "_law_pot" =some (some (.ref f20))) (l20:K.lookup f20=some ⟨oc20,od20, .func (PySem.W.fnOf "_law_pot" "_law_pot" (jF sPot) (jC sPot) (j8 sPot) .none kV20 dc20 pm20 an20 cd20 ct20),sl20⟩) (c20:PySem.W.codeIn K cd20 "_law_pot" =true) (k20:keepIn K (.ref f20)=true)
  (a21:PySem.W.nsIn K mainGlobals "_law_take" =some (some (.ref f21))) (l21:K.lookup f21=some ⟨oc21,od21, .func (PySem.W.fnOf "_law_take" "_law_take" (jF sTake) (jC sTake) (j8 sTake) .none kV21 dc21 pm21 an21 cd21 ct21),sl21⟩) (c21:PySem.W.codeIn K cd21 "_law_take" =true) (k21:keepIn K (.ref f21)=true)
  (a22:PySem.W.nsIn K mainGlobals "_law_lot" =some (some (.ref f22))) (l22:K.lookup f22=some ⟨oc22,od22, .func (PySem.W.fnOf "_law_lot" "_law_lot" (jF sLot) (jC sLot) (j8 sLot) .none kV22 dc22 pm22 an22 cd22 ct22),sl22⟩) (c22:PySem.W.codeIn K cd22 "_law_lot" =true) (k22:keepIn K (.ref f22)=true)
  (a23:PySem.W.nsIn K mainGlobals "_law_box" =some (some (.ref f23))) (l23:K.lookup f23=some ⟨oc23,od23, .func (PySem.W.fnOf "_law_box" "_law_box" (jF sBox) (jC sBox) (j8 sBox) .none kV23 dc23 pm23 an23 cd23 ct23),sl23⟩) (c23:PySem.W.codeIn K cd23 "_law_box" =true) (k23:keepIn K (.ref f23)=true)
  (a24:PySem.W.nsIn K mainGlobals "_law_whole" =some (some (.ref f24))) (l24:K.lookup f24=some ⟨oc24,od24, .func (PySem.W.fnOf "_law_whole" "_law_whole" (jF jBU) (jC jBU) (j8 jBU) .none kV24 dc24 pm24 an24 cd24 ct24),sl24⟩) (c24:PySem.W.codeIn K cd24 "_law_whole" =true) (k24:keepIn K (.ref f24)=true)
  (a25:PySem.W.nsIn K mainGlobals "_law_same" =some (some (.ref f25))) (l25:K.lookup f25=some ⟨oc25,od25, .func (PySem.W.fnOf "_law_same" "_law_same" (jF qP) (jC qP) (j8 qP) .none kV25 dc25 pm25 an25 cd25 ct25),sl25⟩) (c25:PySem.W.codeIn K cd25 "_law_same" =true) (k25:keepIn K (.ref f25)=true)
  (a26:PySem.W.nsIn K mainGlobals "_law_covers" =some (some (.ref f26))) (l26:K.lookup f26=some ⟨oc26,od26, .func (PySem.W.fnOf "_law_covers" "_law_covers" (jF yQ) (jC yQ) (j8 yQ) .none kV26 dc26 pm26 an26 cd26 ct26),sl26⟩) (c26:PySem.W.codeIn K cd26 "_law_covers" =true) (k26:keepIn K (.ref f26)=true)
  (a27:PySem.W.nsIn K mainGlobals "_law_upto" =some (some (.ref f27))) (l27:K.lookup f27=some ⟨oc27,od27, .func (PySem.W.fnOf "_law_upto" "_law_upto" (jF sUpto) (jC sUpto) (j8 sUpto) .none kV27 dc27 pm27 an27 cd27 ct27),sl27⟩) (c27:PySem.W.codeIn K cd27 "_law_upto" =true) (k27:keepIn K (.ref f27)=true)
  (a28:PySem.W.nsIn K mainGlobals "_law_right_covering" =some (some (.ref f28))) (l28:K.lookup f28=some ⟨oc28,od28, .func (PySem.W.fnOf "_law_right_covering" "_law_right_covering" (jF yF) (jC yF) (j8 yF) .none kV28 dc28 pm28 an28 cd28 ct28),sl28⟩) (c28:PySem.W.codeIn K cd28 "_law_right_covering" =true) (k28:keepIn K (.ref f28)=true)
  (a29:PySem.W.nsIn K mainGlobals "_law_rank" =some (some (.ref f29))) (l29:K.lookup f29=some ⟨oc29,od29, .func (PySem.W.fnOf "_law_rank" "_law_rank" (jF jBH) (jC jBH) (j8 jBH) .none kV29 dc29 pm29 an29 cd29 ct29),sl29⟩) (c29:PySem.W.codeIn K cd29 "_law_rank" =true) (k29:keepIn K (.ref f29)=true)
  (a30:PySem.W.nsIn K mainGlobals "_law_right" =some (some (.ref f30))) (l30:K.lookup f30=some ⟨oc30,od30, .func (PySem.W.fnOf "_law_right" "_law_right" (jF jBE) (jC jBE) (j8 jBE) .none kV30 dc30 pm30 an30 cd30 ct30),sl30⟩) (c30:PySem.W.codeIn K cd30 "_law_right" =true) (k30:keepIn K (.ref f30)=true)
  (a31:PySem.W.nsIn K mainGlobals "law" =some (some (.ref f31))) (l31:K.lookup f31=some ⟨oc31,od31, .func (PySem.W.fnOf "law" "law" (jF sLaw) (jC sLaw) (j8 sLaw) .none kV31 dc31 pm31 an31 cd31 ct31),sl31⟩) (c31:PySem.W.codeIn K cd31 "law" =true) (k31:keepIn K (.ref f31)=true)
   (z1:PySem.W.nsIn K mainGlobals "len" =some none) (z2:PySem.W.nsIn K mainGlobals "range" =some none) (z3:PySem.W.nsIn K mainGlobals "tuple" =some none) (z4:PySem.W.nsIn K mainGlobals "sorted" =some none) (z5:PySem.W.nsIn K mainGlobals "set" =some none) (z6:PySem.W.nsIn K mainGlobals "list" =some none) (z7:PySem.W.nsIn K mainGlobals "int" =some none) (z8:PySem.W.nsIn K mainGlobals "isinstance" =some none) (z9:PySem.W.nsIn K mainGlobals "bool" =some none) (z10:PySem.W.nsIn K mainGlobals "str" =some none) (z11:PySem.W.nsIn K mainGlobals "all" =some none) (z12:PySem.W.nsIn K mainGlobals "zip" =some none) (z13:PySem.W.nsIn K mainGlobals "max" =some none) (z14:PySem.W.nsIn K mainGlobals "min" =some none) (z15:PySem.W.nsIn K mainGlobals "any" =some none) (z16:PySem.W.nsIn K mainGlobals "abs" =some none) (z17:PySem.W.nsIn K mainGlobals "sum" =some none) (z18:PySem.W.nsIn K mainGlobals "enumerate" =some none) (z19:PySem.W.nsIn K mainGlobals "dict" =some none) {tb1 cc1:Addr}(cde1:cd12= .ref cc1) (hcd1:codeHdIn K cc1 tb1=true) {bmA:Addr}(xb1:PySem.W.nsIn K mainGlobals "__builtins__" =some (some (.ref bmA))) (xb2:K.lookup bmA=some ⟨.type "module",some builtinsNs, .plain,#[]⟩) (xb3:bmA≠builtinsNs) (xb4:bmA≠mainGlobals):
  ∃ fd:FuncData,(∀ (s:Shared) (v:Value),BindsTo s fd ⟨[v],[]⟩ [("script",v)])/\∀ base:Heap,K.In base->base.Ns mainGlobals mg->FnOk l.prog w K mg base CX0 8 fa fd ["script"] (spLaw K tb1):=by
 have e:=hfa.symm.trans (fD X G a31)
 cases e
 have T:Txt mg:=⟨ba X G z1,ba X G z2,ba X G z3,ba X G z4,ba X G z5,ba X G z6,ba X G z7,ba X G z8,ba X G z9,ba X G z10,ba X G z11,ba X G z12,ba X G z13,ba X G z14,ba X G z15,ba X G z16,ba X G z17,ba X G z18,ba X G z19⟩
 have F1:=jX (st:=jAQ) l1 c1 k1
 have b1:=F1.binds (ps:=["thing"]) fun _ _ _ _ _ _ us hl=>lenU1 (P:=fun us=>bindArgs _ ⟨us,[]⟩=pure (List.zip _ us)) hl fun _=>rfl
 have F2:=jX (st:=yE) l2 c2 k2
 have b2:=F2.binds (ps:=["thing"]) fun _ _ _ _ _ _ us hl=>lenU1 (P:=fun us=>bindArgs _ ⟨us,[]⟩=pure (List.zip _ us)) hl fun _=>rfl
 have F3:=jX (st:=jBI) l3 c3 k3
 have b3:=F3.binds (ps:=["thing","many"]) fun _ _ _ _ _ _ us hl=>qK (P:=fun us=>bindArgs _ ⟨us,[]⟩=pure (List.zip _ us)) hl fun _ _=>rfl
 have F4:=jX (st:=sMask) l4 c4 k4
 have b4:=F4.binds (ps:=["lot"]) fun _ _ _ _ _ _ us hl=>lenU1 (P:=fun us=>bindArgs _ ⟨us,[]⟩=pure (List.zip _ us)) hl fun _=>rfl
 have F5:=jX (st:=sCov) l5 c5 k5
 have b5:=F5.binds (ps:=["box","thing"]) fun _ _ _ _ _ _ us hl=>qK (P:=fun us=>bindArgs _ ⟨us,[]⟩=pure (List.zip _ us)) hl fun _ _=>rfl
 have F6:=jX (st:=sRank) l6 c6 k6
 have b6:=F6.binds (ps:=["box","covering"]) fun _ _ _ _ _ _ us hl=>qK (P:=fun us=>bindArgs _ ⟨us,[]⟩=pure (List.zip _ us)) hl fun _ _=>rfl
 have F7:=jX (st:=kR) l7 c7 k7
 have b7:=F7.binds (ps:=["box"]) fun _ _ _ _ _ _ us hl=>lenU1 (P:=fun us=>bindArgs _ ⟨us,[]⟩=pure (List.zip _ us)) hl fun _=>rfl
 have F8:=jX (st:=sFull) l8 c8 k8
 have b8:=F8.binds (ps:=["choices"]) fun _ _ _ _ _ _ us hl=>lenU1 (P:=fun us=>bindArgs _ ⟨us,[]⟩=pure (List.zip _ us)) hl fun _=>rfl
 have F9:=jX (st:=sAt) l9 c9 k9
 have b9:=F9.binds (ps:=["choices","mask"]) fun _ _ _ _ _ _ us hl=>qK (P:=fun us=>bindArgs _ ⟨us,[]⟩=pure (List.zip _ us)) hl fun _ _=>rfl
 have F10:=jX (st:=sMet) l10 c10 k10
 have b10:=F10.binds (ps:=["choices"]) fun _ _ _ _ _ _ us hl=>lenU1 (P:=fun us=>bindArgs _ ⟨us,[]⟩=pure (List.zip _ us)) hl fun _=>rfl
 have F11:=jX (st:=qI) l11 c11 k11
 have b11:=F11.binds (ps:=["choices","at_end","join"]) fun _ _ _ _ _ _ us hl=>lenU3 (P:=fun us=>bindArgs _ ⟨us,[]⟩=pure (List.zip _ us)) hl fun _ _ _=>rfl
 have F12:=jX (st:=qA) l12 c12 k12
 have b12:=F12.binds (ps:=["choices"]) fun _ _ _ _ _ _ us hl=>lenU1 (P:=fun us=>bindArgs _ ⟨us,[]⟩=pure (List.zip _ us)) hl fun _=>rfl
 have F13:=jX (st:=sMany) l13 c13 k13
 have b13:=F13.binds (ps:=["box"]) fun _ _ _ _ _ _ us hl=>lenU1 (P:=fun us=>bindArgs _ ⟨us,[]⟩=pure (List.zip _ us)) hl fun _=>rfl
 have F14:=jX (st:=qB) l14 c14 k14
 have b14:=F14.binds (ps:=["choices","ways","place"]) fun _ _ _ _ _ _ us hl=>lenU3 (P:=fun us=>bindArgs _ ⟨us,[]⟩=pure (List.zip _ us)) hl fun _ _ _=>rfl
 have F15:=jX (st:=jBJ) l15 c15 k15
 have b15:=F15.binds (ps:=["box","number"]) fun _ _ _ _ _ _ us hl=>qK (P:=fun us=>bindArgs _ ⟨us,[]⟩=pure (List.zip _ us)) hl fun _ _=>rfl
 have F16:=jX (st:=jBF) l16 c16 k16
 have b16:=F16.binds (ps:=["choices","ways","rank"]) fun _ _ _ _ _ _ us hl=>lenU3 (P:=fun us=>bindArgs _ ⟨us,[]⟩=pure (List.zip _ us)) hl fun _ _ _=>rfl
 have F17:=jX (st:=jBG) l17 c17 k17
 have b17:=F17.binds (ps:=["box","covering"]) fun _ _ _ _ _ _ us hl=>qK (P:=fun us=>bindArgs _ ⟨us,[]⟩=pure (List.zip _ us)) hl fun _ _=>rfl
 have F18:=jX (st:=sNext) l18 c18 k18
 have b18:=F18.binds (ps:=["box","covering"]) fun _ _ _ _ _ _ us hl=>qK (P:=fun us=>bindArgs _ ⟨us,[]⟩=pure (List.zip _ us)) hl fun _ _=>rfl
 have F19:=jX (st:=sCell) l19 c19 k19
 have b19:=F19.binds (ps:=["script","k"]) fun _ _ _ _ _ _ us hl=>qK (P:=fun us=>bindArgs _ ⟨us,[]⟩=pure (List.zip _ us)) hl fun _ _=>rfl
 have F20:=jX (st:=sPot) l20 c20 k20
 have b20:=F20.binds (ps:=["cell"]) fun _ _ _ _ _ _ us hl=>lenU1 (P:=fun us=>bindArgs _ ⟨us,[]⟩=pure (List.zip _ us)) hl fun _=>rfl
 have F21:=jX (st:=sTake) l21 c21 k21
 have b21:=F21.binds (ps:=["pot","wide"]) fun _ _ _ _ _ _ us hl=>qK (P:=fun us=>bindArgs _ ⟨us,[]⟩=pure (List.zip _ us)) hl fun _ _=>rfl
 have F22:=jX (st:=sLot) l22 c22 k22
 have b22:=F22.binds (ps:=["pot","wide"]) fun _ _ _ _ _ _ us hl=>qK (P:=fun us=>bindArgs _ ⟨us,[]⟩=pure (List.zip _ us)) hl fun _ _=>rfl
 have F23:=jX (st:=sBox) l23 c23 k23
 have b23:=F23.binds (ps:=["pot","most_things","most_pieces"]) fun _ _ _ _ _ _ us hl=>lenU3 (P:=fun us=>bindArgs _ ⟨us,[]⟩=pure (List.zip _ us)) hl fun _ _ _=>rfl
 have F24:=jX (st:=jBU) l24 c24 k24
 have b24:=F24.binds (ps:=["found"]) fun _ _ _ _ _ _ us hl=>lenU1 (P:=fun us=>bindArgs _ ⟨us,[]⟩=pure (List.zip _ us)) hl fun _=>rfl
 have F25:=jX (st:=qP) l25 c25 k25
 have b25:=F25.binds (ps:=["found","due"]) fun _ _ _ _ _ _ us hl=>qK (P:=fun us=>bindArgs _ ⟨us,[]⟩=pure (List.zip _ us)) hl fun _ _=>rfl
 have F26:=jX (st:=yQ) l26 c26 k26
 have b26:=F26.binds (ps:=["box","some"]) fun _ _ _ _ _ _ us hl=>qK (P:=fun us=>bindArgs _ ⟨us,[]⟩=pure (List.zip _ us)) hl fun _ _=>rfl
 have F27:=jX (st:=sUpto) l27 c27 k27
 have b27:=F27.binds (ps:=["thing","least","most"]) fun _ _ _ _ _ _ us hl=>lenU3 (P:=fun us=>bindArgs _ ⟨us,[]⟩=pure (List.zip _ us)) hl fun _ _ _=>rfl
 have F28:=jX (st:=yF) l28 c28 k28
 have b28:=F28.binds (ps:=["box","thing"]) fun _ _ _ _ _ _ us hl=>qK (P:=fun us=>bindArgs _ ⟨us,[]⟩=pure (List.zip _ us)) hl fun _ _=>rfl
 have F29:=jX (st:=jBH) l29 c29 k29
 have b29:=F29.binds (ps:=["box","some"]) fun _ _ _ _ _ _ us hl=>qK (P:=fun us=>bindArgs _ ⟨us,[]⟩=pure (List.zip _ us)) hl fun _ _=>rfl
 have F30:=jX (st:=jBE) l30 c30 k30
 have b30:=F30.binds (ps:=["box","number","amount"]) fun _ _ _ _ _ _ us hl=>lenU3 (P:=fun us=>bindArgs _ ⟨us,[]⟩=pure (List.zip _ us)) hl fun _ _ _=>rfl
 have F31:=jX (st:=sLaw) l31 c31 k31
 refine⟨PySem.W.fnOf "law" "law" (jF sLaw) (jC sLaw) (j8 sLaw) .none kV31 dc31 pm31 an31 cd31 ct31,fun s v=> .of_eq rfl,fun base KB _=>?_⟩
 have M:=fun {x:Str}{f:Addr}(a:PySem.W.nsIn K mainGlobals x=some (some (.ref f)))=>fD X G a
 have M':=fun {x:Str}{v:Value}(a:PySem.W.nsIn K mainGlobals x=some (some v))=>fD X G a
 have CD1:PySem.W.CodeHd base cc1 tb1:=iT KB hcd1
 have FC1:FunC K "ways_of" "ways_of" qA f12 _ cc1:=⟨_,_,_,_,_,_,_,_,rfl,cde1 ▸ l12,cde1 ▸ c12⟩
 have BM:BltAt base mg:=⟨bmA,_,fD X G xb1,xb3,xb4,KB _ _ xb2,rfl,rfl,rfl⟩
 have C1:Can l.prog w K mg base "is_whole" 1 f1 _ ["thing"] spWh:=⟨jL3 F1 T,M a1,k1,b1⟩
 have C2:Can l.prog w K mg base "is_rising" 2 f2 _ ["thing"] (spB risB):=⟨jL4 F2 T C1,M a2,k2,b2⟩
 have C3:Can l.prog w K mg base "is_lot" 3 f3 _ ["thing","many"] (spB2 lotB):=⟨jO0 F3 T C2,M a3,k3,b3⟩
 have C4:Can l.prog w K mg base "mask_of" 1 f4 _ ["lot"] jFU:=⟨jR8 F4 T,M a4,k4,b4⟩
 have C5:Can l.prog w K mg base "is_covering" 4 f5 _ ["box","thing"] jEF:=⟨jRC F5 T C3,M a5,k5,b5⟩
 have C6:Can l.prog w K mg base "rank_of" 2 f6 _ ["box","covering"] jEE:=⟨jR6 F6 T,M a6,k6,b6⟩
 have C7:Can l.prog w K mg base "choices_of" 2 f7 _ ["box"] jA2:=⟨jJL F7 T C4,M a7,k7,b7⟩
 have C8:Can l.prog w K mg base "full_mask" 1 f8 _ ["choices"] jCT:=⟨jRB F8 T,M a8,k8,b8⟩
 have C9:Can l.prog w K mg base "choices_at" 1 f9 _ ["choices","mask"] spAt:=⟨ok_at F9 T,M a9,k9,b9⟩
 have C10:Can l.prog w K mg base "masks_met" 2 f10 _ ["choices"] spMet:=⟨jTL F10 T C8 C9,M a10,k10,b10⟩
 have C11:Can l.prog w K mg base "gathered" 4 f11 _ ["choices","at_end","join"] jH7:=⟨FnOk.ex fun x o=>(jRA F11 T C8 C10 C9 ((jTO o T).mono (by decide)) ZT.st (zhW.ok _ _) (RWay.ok _) o).ok,M a11,k11,b11⟩
 have C12:Can l.prog w K mg base "ways_of" 5 f12 _ ["choices"] (jBD tb1):=⟨jR3 FC1 T CD1 BM C11,M a12,k12,b12⟩
 have C13:Can l.prog w K mg base "many" 6 f13 _ ["box"] (jKK tb1):=⟨jR9 F13 T C7 C12,M a13,k13,b13⟩
 have C14:Can l.prog w K mg base "covering_along" 2 f14 _ ["choices","ways","place"] jCF:=⟨jO2 F14 T C8 C9,M a14,k14,b14⟩
 have C15:Can l.prog w K mg base "covering_at" 6 f15 _ ["box","number"] (jDM tb1):=⟨jO1 F15 T C7 C12 C14,M a15,k15,b15⟩
 have C16:Can l.prog w K mg base "place_of" 2 f16 _ ["choices","ways","rank"] jCE:=⟨jNX F16 T C9,M a16,k16,b16⟩
 have C17:Can l.prog w K mg base "number_of" 6 f17 _ ["box","covering"] (jEV tb1):=⟨jNY F17 T C5 C7 C12 C16 C6,M a17,k17,b17⟩
 have C18:Can l.prog w K mg base "next_behind" 6 f18 _ ["box","covering"] (jI6 tb1):=⟨jR7 F18 T C5 C7 C12 C16 C6 C14,M a18,k18,b18⟩
 have C19:Can l.prog w K mg base "_law_cell_at" 1 f19 _ ["script","k"] (jKL K):=⟨jRD F19 T,M a19,k19,b19⟩
 have C20:Can l.prog w K mg base "_law_pot" 1 f20 _ ["cell"] spPot:=⟨jTK F20 T,M a20,k20,b20⟩
 have C21:Can l.prog w K mg base "_law_take" 1 f21 _ ["pot","wide"] yL:=⟨jR5 F21,M a21,k21,b21⟩
 have C22:Can l.prog w K mg base "_law_lot" 2 f22 _ ["pot","wide"] qL:=⟨jTM F22 T C21,M a22,k22,b22⟩
 have C23:Can l.prog w K mg base "_law_box" 3 f23 _ ["pot","most_things","most_pieces"] spBox:=⟨jTP F23 T C21 C22,M a23,k23,b23⟩
 have C24:Can l.prog w K mg base "_law_whole" 1 f24 _ ["found"] jAZ:=⟨jNV F24 T,M a24,k24,b24⟩
 have C25:Can l.prog w K mg base "_law_same" 6 f25 _ ["found","due"] (jCD 4):=⟨jIM F25 T C24 (M a25) k25 b25 4,M a25,k25,b25⟩
 have C26:Can l.prog w K mg base "_law_covers" 1 f26 _ ["box","some"] jD6:=⟨jL6 F26 T,M a26,k26,b26⟩
 have C27:Can l.prog w K mg base "_law_upto" 2 f27 _ ["thing","least","most"] spUpI:=⟨jR4 F27 T C24,M a27,k27,b27⟩
 have C28:Can l.prog w K mg base "_law_right_covering" 3 f28 _ ["box","thing"] jD5:=⟨jL5 F28 T C27 C26,M a28,k28,b28⟩
 have C29:Can l.prog w K mg base "_law_rank" 1 f29 _ ["box","some"] jDL:=⟨jNZ F29 T,M a29,k29,b29⟩
 have C30:Can l.prog w K mg base "_law_right" 7 f30 _ ["box","number","amount"] (jH6 tb1):=⟨jNW F30 T C15 C28 C17 C25 C18 C29,M a30,k30,b30⟩
 exact jTN F31 ⟨T,C19,C20,C21,C23,C13,C24,C30,C29,C15⟩
theorem walk {l:PySem.W.OpenLaw}{q:Program}{loose:List Str}{XP:(Str->Option Value)->Heap->Prop}{YP:World->Heap->Prop}{d:DefRec}{K:Params->W.Frag}(hn:l.most=some 63)(hdf:d.params.defaults=[]){tb1:Addr}{cc1:Addr}
  (hY:∀ (w:World) (h:Heap),YP w h->(K w.params).In h/\∀ T∈[tb1],h.get? T=some (tabObj #[])) (hcd:∀ w:World,codeHdIn (K w.params) cc1 tb1=true) (hKT:∀ w:World,∀ T∈[tb1],(K w.params).lookup T=none) (hnd:([tb1]:List Addr).Nodup)
  (F:∀ (w:World) (mg:Str->Option Value) (fa:Addr) (h:Heap),(K w.params).In h->h.Ns mainGlobals mg->mg d.name=some (.ref fa)->
   ∃ fd:FuncData,(∀ (s:Shared) (u:Value),BindsTo s fd ⟨[u],[]⟩ [("script",u)])/\∀ base:Heap,(K w.params).In base->base.Ns mainGlobals mg->FnOk l.prog w (K w.params) mg base CX0 8 fa fd ["script"] (spLaw (K w.params) tb1)):
  PySem.W.WalkO q loose XP YP l.row.toRowW d [] (fun f vs=>PySem.call f vs):=
 L2.walk_ofTs (cts:=[(cc1,tb1)]) (n:=63) (k:=8) (x:= "script") (CX:=fun _=>CX0) (sp:=fun w=>spLaw (K w.params) tb1) hn (by decide) hdf ⟨rfl,by decide,by decide⟩ hY (fun w p hp=>by
  obtain _h0:=hcd w
  simp only [aB,bA,dw] at hp
  rcases hp with rfl <;> assumption) hKT F (fun _ H a ns hl hT hS=>⟨a,ns,rfl,hS,hl, .inl (hT _ aw),fun _=>rfl⟩) fun _ _ _ _ _ z=>z
end Eo
open PySem PySem.W PyProof.Rows
set_option maxRecDepth 100000 in
set_option maxHeartbeats 0 in
theorem PySem.Challenge.cw_eachonce_k13_numbers_there_and_back_holds : PySem.Challenge.rw_eachonce_k13_numbers_there_and_back.Holds := by
 w_on
 refine holds_law (by decide+kernel) fun said=>?_
 refine holds_open (q:=Eo.vw) (loose:=[]) (Xt:=fun s=>xlAt Eo.vw [] s&&recOk (RowW.records (OpenRow.toRowW PySem.Challenge.rw_eachonce_k13_numbers_there_and_back.row)) s) (XP:=XL Eo.vw []) (Yf:=Hook.obs Eo.kH) (Ya:=Hook.val Eo.kH) (YP:=Hook.says Eo.kH) (N:=6900) Eo.left (Hook.of Eo.kH) (Hook.keeps Eo.kH) (fun s e=>xl_of s (fQ.mp e).1) XL.keeps (by rfl) (by rfl) (by rfl) (fun s e=>recFacts_of (fQ.mp e).2) rfl said (by decide+kernel) ⟨rfl,rfl,rfl,rfl,rfl,by decide+kernel⟩ ?hw ?hc
 case hw=>w_witness2
 refine Eo.walk (l:=PySem.Challenge.rw_eachonce_k13_numbers_there_and_back) (K:=Eo.kK) rfl rfl (tb1:=106) (cc1:=110) (fun w h Y=>⟨PySem.W.km_in_of Y,PySem.W.km_tabs_of Y⟩) (fun w=>by kernel_rfl) (fun w T hm=>by
   simp only [aB,bA,dw] at hm
   rcases hm with rfl <;> kernel_rfl) (by decide) ?F
 case F=>
  intro w mg fa h KX G hmg
  k_fill
  refine' Eo.all_mk KX G hmg _ _ _ _ _ _ _ _ _ _ _ _ _ _ _ _ _ _ _ _ _ _ _ _ _ _ _ _ _ _ _ _ _ _ _ _ _ _ _ _ _ _ _ _ _ _ _ _ _ _ _ _ _ _ _ _ _ _ _ _ _ _ _ _ _ _ _ _ _ _ _ _ _ _ _ _ _ _ _ _ _ _ _ _ _ _ _ _ _ _ _ _ _ _ _ _ _ _ _ _ _ _ _ _ _ _ _ _ _ _ _ _ _ _ _ _ _ _ _ _ _ _ _ _ _ _ _ _ _ _ _ _ _ _ _ _ _ _ _ _ _ _ _ (tb1:=106) rfl (by kernel_rfl) (bmA:=4) (by kernel_rfl) (by kernel_rfl) (by decide) (by decide)
  all_goals try k_is
end
